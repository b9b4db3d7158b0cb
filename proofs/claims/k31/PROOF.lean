import PyProof.Rows.All
import Wide.All
import OpenK.AllK
import Wide.FinOn
import Lean
import PyProof.EqAt
import PyProof.EqKinds
import PyProof.TupleCall
import PyProof.MaxThree
import PyProof.IsRules
import PyProof.SumAny
import PySem.Challenge.RW_speakmill_k31_bonds
set_option Elab.async false
set_option linter.all false
set_option maxRecDepth 100000
set_option maxHeartbeats 8000000
open List (any_cons append_nil contains_cons drop_eq_nil_of_le filterMap_cons filter_congr filter_cons find?_cons flatten_cons getElem?_map getElem?_of_mem getElem?_reverse getElem?_set_ne getElem?_set_self length_append length_cons length_filter_le length_map length_reverse length_singleton length_take lookup_cons map_append map_cons map_nil mem_append mem_append_left mem_append_right mem_cons mem_cons_of_mem mem_cons_self mem_filter mem_filterMap mem_map mem_of_getElem? mem_range mem_singleton nodup_cons not_mem_nil of_mem_zip replicate_succ reverse_cons size_toArray sum_append sum_cons take_length take_of_length_le)
open Nat (add_le_add_left le_add_right le_of_eq le_of_lt le_refl le_succ le_trans lt_irrefl lt_of_le_of_lt lt_of_lt_of_le lt_succ_self min_eq_left min_eq_right ne_of_gt ne_of_lt zero_le)
open PySem.Heap (get?_push_size lt_size size_push)
open Option (map_eq_some_iff map_some)
open PySem.W (callWith_K codeIn emptyDict envX excIn findIn fnOf hideAll hideAll_get hideAll_none instObj kia_one kitOne kla_fn kla_obj lookIn looks_findIn of_hideAll plainGet)
open PyProof.Rows (callWith_type1)
abbrev bZ:=@PySem.wpAny_bind
abbrev pZ:=@PySem.wpAny_pure
abbrev gZ:=@PySem.Heap.get?_push_of_some
abbrev nZ:=Bool.false_ne_true
abbrev FZ:=PySem.W.Frag
abbrev kZ:=@PySem.W.keepIn
abbrev cZ{α:Type}{a b:α}{l:List α}:=(mem_cons (a:=a) (b:=b) (l:=l)).mp
abbrev sZ{α:Type}{a b:α}:=(mem_singleton (a:=a) (b:=b)).mp
namespace L2
open PySem PySem.Spec PyProof.Rows
abbrev Key:=Sum Int Str
def GV:Key->Value->Bool
 | .inl k,v=>Value.isInt k v
 | .inr x,v=>Value.isStrOf x v
def aIZ(w:World):Key->Int
 | .inl k=>hashInt k
 | .inr x=>hashStr w x
theorem G1:∀ {k:Key} {v:Value},GV k v=true->(∃i t,k=Sum.inl i/\v=Value.int i t)\/(∃x t,k=Sum.inr x/\v=Value.str x t)
 | .inl i,v,h=>by
  obtain⟨t,e⟩:=Value.isInt_shape (k:=i) (v:=v) h
  exact .inl ⟨i,t,rfl,e⟩
 | .inr x,v,h=>by
  obtain⟨t,e⟩:=Value.isStrOf_shape (x:=x) (v:=v) h
  exact .inr ⟨x,t,rfl,e⟩
theorem OF(i:Int)(t:Tok):GV (.inl i) (.int i t)=true:=by simp[GV,Value.isInt]
theorem OK(x:Str)(t:Tok):GV (.inr x) (.str x t)=true:=by simp[GV,Value.isStrOf]
theorem VW(a b:Int):decide ((Sum.inl a:Key)=Sum.inl b)=(a==b):=by
 by_cases e:a=b
 ·subst e;simp
 ·have h:¬(Sum.inl a:Key)=Sum.inl b:=λq=>e (Sum.inl.inj q)
  rw[decide_eq_false h]
  exact(beq_eq_false_iff_ne.mpr e).symm
theorem YB(a b:Str):decide ((Sum.inr a:Key)=Sum.inr b)=decide (a=b):=by
 by_cases e:a=b
 ·subst e;simp
 ·have h:¬(Sum.inr a:Key)=Sum.inr b:=λq=>e (Sum.inr.inj q)
  rw[decide_eq_false h,decide_eq_false e]
theorem YK(a:Int)(b:Str):decide ((Sum.inl a:Key)=Sum.inr b)=false:=decide_eq_false (λq=>nomatch q)
theorem WT(a:Str)(b:Int):decide ((Sum.inr a:Key)=Sum.inl b)=false:=decide_eq_false (λq=>nomatch q)
def E9(prog:Program)(w:World):PySem.KeyKind prog w Key where
 is:=GV
 hash:=aIZ w
 inj:=λv a b ha hb=>by
  rcases G1 ha with⟨i,t,rfl,rfl⟩|⟨x,t,rfl,rfl⟩
  ·rcases G1 hb with⟨j,u,rfl,e⟩|⟨y,u,rfl,e⟩
   ·injection e with e1 _;rw[e1]
   ·exact nomatch e
  ·rcases G1 hb with⟨j,u,rfl,e⟩|⟨y,u,rfl,e⟩
   ·exact nomatch e
   ·injection e with e1 _;rw[e1]
 byValue:=λk v h=>by
  rcases G1 h with⟨i,t,rfl,rfl⟩|⟨x,t,rfl,rfl⟩<;>rfl
 pyHash:=λhv h=>by
  rcases G1 hv with⟨i,t,rfl,rfl⟩|⟨x,t,rfl,rfl⟩
  ·exact wpAny_pyHash_int h
  ·exact wpAny_pyHash_str h
 eqBool:=λhu hv h=>by
  rcases G1 hu with⟨i,t,rfl,rfl⟩|⟨x,t,rfl,rfl⟩
  ·rcases G1 hv with⟨j,u,rfl,rfl⟩|⟨y,u,rfl,rfl⟩
   ·rw[VW]at h;exact wpAny_eqBool_int h
   ·rw[YK]at h;exact SeqAt.EqAt.int_str i t y u _ _ _ _ h
  ·rcases G1 hv with⟨j,u,rfl,rfl⟩|⟨y,u,rfl,rfl⟩
   ·rw[WT]at h;exact SeqAt.EqAt.str_int x t j u _ _ _ _ h
   ·rw[YB]at h;exact wpAny_eqBool_str h
 «strs»:=λk x t v h=>by
  rcases G1 h with⟨i,u,rfl,e⟩|⟨y,u,rfl,e⟩
  ·exact nomatch e
  ·injection e with e1 _
   subst e1
   cases v<;>rfl
theorem KA(prog:Program)(w:World)(i:Int)(t:Tok):(E9 prog w).is (.inl i) (.int i t)=true:=OF i t
theorem JY(prog:Program)(w:World)(x:Str)(t:Tok):(E9 prog w).is (.inr x) (.str x t)=true:=OK x t
inductive V where
 |non|bl (b:Bool)|int (i:Int)|str (x:Str)|byt (b:Array UInt8)|flt (b:UInt64)|ref (a:Addr)|ty (n:String)
 deriving DecidableEq
def RelV:V->Value->Prop
 | .non,u=>u=Value.none
 | .bl b,u=>u=Value.bool b
 | .int i,u=>∃t,u=Value.int i t
 | .str x,u=>∃t,u=Value.str x t
 | .byt b,u=>∃t,u=Value.bytes b t
 | .flt b,u=>∃t,u=Value.float b t
 | .ref a,u=>u=Value.ref a
 | .ty n,u=>u=Value.type n
abbrev Vals:List V->List Value->Prop:=Paired RelV
theorem Vals.length{xs:List V}{us:List Value}(r:Vals xs us):xs.length=us.length:=Paired.length r
theorem Vals.get:∀ {xs:List V} {us:List Value} {i:Nat} {x:V},Vals xs us->xs[i]? =some x->∃u,us[i]? =some u/\RelV x u
 |_,_,_,_,.nil,e=>by simp at e
 |_,_,0,_,.cons r _,e=>by simp at e;subst e;exact⟨_,rfl,r⟩
 |_,_,i+1,x,.cons _ t,e=>by
  obtain⟨u,h1,h2⟩:=Vals.get (i:=i) (x:=x) t (by simpa using e)
  exact⟨u,by simpa using h1,h2⟩
theorem Vals.append:∀ {xs ys:List V} {us ws:List Value},Vals xs us->Vals ys ws->Vals (xs++ys) (us++ws)
 |_,_,_,_,.nil,s=>s
 |_,_,_,_,.cons r t,s=> .cons r (Vals.append t s)
theorem Vals.take:∀ {xs:List V} {us:List Value} (n:Nat),Vals xs us->Vals (xs.take n) (us.take n)
 |_,_,0,_=> .nil
 |_,_,_+1,.nil=> .nil
 |_,_,n+1,.cons r t=> .cons r (Vals.take n t)
theorem Vals.drop:∀ {xs:List V} {us:List Value} (n:Nat),Vals xs us->Vals (xs.drop n) (us.drop n)
 |_,_,0,r=>r
 |_,_,_+1,.nil=> .nil
 |_,_,n+1,.cons _ t=>Vals.drop n t
def RelO:Option V->Option Value->Prop
 |some v,some u=>RelV v u
 |none,none=>True
 |_,_=>False
def KV{κ:Type}:List (κ×V)->List (κ×Value)->Prop:=Paired λ(p:κ×V) (q:κ×Value)=>p.1=q.1/\RelV p.2 q.2
def kV:Key->V
 | .inl i=> .int i
 | .inr x=> .str x
inductive HO where
 |lst (xs:List V)
 |tup (xs:List V)
 |dK (kvs:List (Key×V))|dT (kvs:List (List Key×V))
 |set(S:Int->Bool) (n:Nat)
 |ins (C dx:Addr) (fs:List (Str×V))
 |own (x:Addr)
 |xd (fs:List (Str×V))
 |met (f x:Addr)
 |rng (lo hi:Int)
 |frz (o:Obj) (u:HO)
 |tbl (ps:Array Value)
 |ext (φ:Heap->Prop)
abbrev Hp:=Addr->Option HO
def upd(H:Hp)(a:Addr)(o:HO):Hp:=λb=>if b=a then some o else H b
theorem A3{H:Hp}{a:Addr}{o:HO}:upd H a o a=some o:=by unfold upd;rw[if_pos rfl]
theorem B1{H:Hp}{a b:Addr}{o:HO}(h:b≠a):upd H a o b=H b:=by unfold upd;rw[if_neg h]
theorem IE{H:Hp}{a:Addr}{o u:HO}:upd (upd H a o) a u=upd H a u:=by
 funext b;unfold upd;split<;>rfl
theorem YR{H:Hp}{a b:Addr}{o u:HO}(h:H a=some o)(h':H b=some u)(d:o≠u):a≠b:=by
 intro e;subst e;rw[h]at h';exact d (Option.some.inj h')
theorem B0{H:Hp}{a b:Addr}{o:HO}(h:H a=some o)(h':H b=none):a≠b:=by
 intro e;subst e;rw[h]at h';cases h'
section
variable(P:Program)(w:World)
def ObjOk(H:Hp)(h:Heap)(a:Addr):HO->Prop
 | .lst xs=>xs.length<=sizeLine/\∃(its:List Value) (n:Nat),Vals xs its/\h.get? a=some {cls:=.type "list",data:=.seq its.toArray n}
 | .tup xs=>xs.length<=sizeLine/\∃its:List Value,Vals xs its/\IsTup h a its.toArray
 | .dK kvs=>kvs.length<=sizeLine/\(a==sysModules)=false/\∃vs,KV kvs vs/\h.DictOf (E9 P w) a vs
 | .dT kvs=>kvs.length<=sizeLine/\(a==sysModules)=false/\∃xs:List (List Key×Addr×Value),
   Paired (λ(p:List Key×V) (q:List Key×Addr×Value)=>p.1=q.1/\H q.2.1=some (.tup (p.1.map kV))/\RelV p.2 q.2.2) kvs xs/\
   ∃o es ep,h.get? a=some o/\o.ExactDict/\o.data=.dict es ep/\es.toList=xs.map (entryOfKey (tupleKind (E9 P w)))/\(xs.map (·.1)).Nodup
 | .set S n=>h.SetOf (intKind P w) a S n
 | .ins C dx fs=>H dx=some (.own a)/\fs.length<=1000/\dx≠a/\h.get? a=some (instObj C dx)/\
   ∃mA,h.Ns1 dx mA/\(∀f,RelO (fs.lookup f) (mA f))/\PySem.Within mA (fs.map (·.1))
 | .own _=>∃o,h.get? a=some o
 | .xd fs=>∃mA,h.Ns1 a mA/\∀f,RelO (fs.lookup f) (mA f)
 | .rng lo hi=>∃t u v,h.get? a=some {cls:=.type "range",data:=.fields #[.int lo t,.int hi u,.int 1 v]}
 | .frz o u=>h.get? a=some o/\ObjOk H h a u
 | .tbl ps=>h.get? a=some {cls:=.none,data:=.fields ps}
 | .met f x=>h.get? a=some (PySem.W.methodObj (.ref f) (.ref x))
 | .ext φ=>φ h/\(∃o,h.get? a=some o)/\∀h1 h2:Heap,φ h1->(∀o,h1.get? a=some o->h2.get? a=some o)->φ h2
def HOk(H:Hp)(h:Heap):Prop:=∀a o,H a=some o->ObjOk P w H h a o
end
section
variable{P:Program}{w:World}{H H':Hp}{h h':Heap}{a:Addr}{o:HO}
theorem ObjOk.lt(x:ObjOk P w H h a o):a<h.objs.size:=by
 cases o with
 |lst xs=>obtain⟨_,_,_,_,e⟩:=x;exact lt_size e
 |tup xs=>obtain⟨_,_,_,p⟩:=x;exact p.lt
 |dK kvs=>obtain⟨_,_,_,_,o,_,_,e,_⟩:=x;exact lt_size e
 |dT kvs=>obtain⟨_,_,_,_,o,_,_,e,_⟩:=x;exact lt_size e
 |set S n=>obtain⟨o,_,_,_,e,_⟩:=x;exact lt_size e
 |ins C dx fs=>obtain⟨_,_,_,e,_⟩:=x;exact lt_size e
 |own y=>obtain⟨_,e⟩:=x;exact lt_size e
 |xd fs=>obtain⟨_,⟨_,_,_,e,_⟩,_⟩:=x;exact lt_size e
 |rng lo hi=>obtain⟨_,_,_,e⟩:=x;exact lt_size e
 |frz ob u=>obtain⟨e,_⟩:=x;exact lt_size e
 |tbl ps=>exact lt_size (show h.get? a=some _ from x)
 |met f y=>exact lt_size (show h.get? a=some _ from x)
 |ext φ=>obtain⟨_,⟨_,e⟩,_⟩:=x;exact lt_size e
theorem Paired.mapP{α β:Type}{F G:α->β->Prop}:∀ {l₁:List α} {l₂:List β},Paired F l₁ l₂->(∀a b,F a b->G a b)->Paired G l₁ l₂
 |_,_,.nil,_=> .nil
 |_,_,.cons r t,f=> .cons (f _ _ r) (Paired.mapP t f)
theorem ObjOk.stay(x:ObjOk P w H h a o)(k:∀b u,(b=a\/H b=some (.own a))->h.get? b=some u->h'.get? b=some u)
  (ho:∀b,H b=some (.own a)->H' b=some (.own a))(ht:∀b xs,H b=some (.tup xs)->H' b=some (.tup xs)):ObjOk P w H' h' a o:=by
 induction o with
 |lst xs=>obtain⟨z,its,n,r,e⟩:=x;exact⟨z,its,n,r,k _ _ (.inl rfl) e⟩
 |tup xs=>obtain⟨z,its,r,ob,e,c⟩:=x;exact⟨z,its,r,ob,k _ _ (.inl rfl) e,c⟩
 |dK kvs=>obtain⟨z,y,vs,r,ob,es,ep,e,c⟩:=x;exact⟨z,y,vs,r,ob,es,ep,k _ _ (.inl rfl) e,c⟩
 |dT kvs=>
  obtain⟨z,y,xs,r,ob,es,ep,e,c⟩:=x
  exact⟨z,y,xs,Paired.mapP r λp q z=>⟨z.1,ht _ _ z.2.1,z.2.2⟩,ob,es,ep,k _ _ (.inl rfl) e,c⟩
 |set S n=>obtain⟨ob,es,ep,t,e,c⟩:=x;exact⟨ob,es,ep,t,k _ _ (.inl rfl) e,c⟩
 |ins C dx fs=>
  obtain⟨d,z,ne,e,mA,⟨od,es,ep,e2,c⟩,r⟩:=x
  exact⟨ho _ d,z,ne,k _ _ (.inl rfl) e,mA,⟨od,es,ep,k _ _ (.inr d) e2,c⟩,r⟩
 |own y=>obtain⟨ob,e⟩:=x;exact⟨ob,k _ _ (.inl rfl) e⟩
 |xd fs=>obtain⟨mA,⟨od,es,ep,e,c⟩,r⟩:=x;exact⟨mA,⟨od,es,ep,k _ _ (.inl rfl) e,c⟩,r⟩
 |rng lo hi=>obtain⟨t,u,v,e⟩:=x;exact⟨t,u,v,k _ _ (.inl rfl) e⟩
 |frz ob u ih=>obtain⟨e,q⟩:=x;exact⟨k _ _ (.inl rfl) e,ih q⟩
 |tbl ps=>
  have e:h.get? a=some {cls:=.none,data:=.fields ps}:=x
  show h'.get? a=some {cls:=.none,data:=.fields ps}
  exact k a _ (.inl rfl) e
 |met f y=>
  have e:h.get? a=some (PySem.W.methodObj (.ref f) (.ref y)):=x
  show h'.get? a=some (PySem.W.methodObj (.ref f) (.ref y))
  exact k a _ (.inl rfl) e
 |ext φ=>obtain⟨p,⟨o,e⟩,st⟩:=x;exact⟨st _ _ p λo q=>k _ _ (.inl rfl) q,⟨o,k _ _ (.inl rfl) e⟩,st⟩
theorem HOk.lt(x:HOk P w H h)(e:H a=some o):a<h.objs.size:=(x a o e).lt
theorem HOk.fresh(x:HOk P w H h)(e:h.objs.size<=a):H a=none:=by
 cases q:H a with
 |none=>rfl
 |some u=>exact absurd (lt_of_lt_of_le (x.lt q) e) (lt_irrefl _)
theorem HOk.kept(x:HOk P w H h)(k:∀b u,h.get? b=some u->h'.get? b=some u):HOk P w H h':=λa o e=>
 (x a o e).stay (λb u _ q=>k b u q) (λ_ q=>q) λ_ _ q=>q
theorem HOk.laid(x:HOk P w H h)(k:∀b u,h.get? b=some u->h'.get? b=some u)(hp:h.objs.size<=a)(new:ObjOk P w (upd H a o) h' a o):HOk P w (upd H a o) h':=λb u e=>by
 have hn:=x.fresh hp
 by_cases hb:b=a
 ·subst hb;rw[A3]at e;cases e;exact new
 ·rw[B1 hb]at e
  exact(x b u e).stay (λc v _ q=>k c v q) (λc q=>by rw[B1 (B0 q hn)];exact q) λc xs q=>by rw[B1 (B0 q hn)];exact q
end
def Rd(H:Hp)(a:Addr)(u:HO):Prop:=H a=some u\/∃o,H a=some (.frz o u)
theorem Rd.ok{P:Program}{w:World}{H:Hp}{h:Heap}{a:Addr}{u:HO}(r:Rd H a u)(x:HOk P w H h):ObjOk P w H h a u:=by
 rcases r with r|⟨o,r⟩
 ·exact x a u r
 ·obtain⟨_,q⟩:=x a _ r
  exact q
def Mut:Option HO->Prop
 |some (.lst _)=>True
 |some (.dK _)=>True
 |some (.dT _)=>True
 |some (.set _ _)=>True
 |some (.ins _ _ _)=>True
 |some (.ext _)=>True
 |_=>False
section
variable{P:Program}{w:World}{H:Hp}{h h':Heap}{x e:Addr}{o':HO}
theorem HOk.write(ok:HOk P w H h)(mu:Mut (H x))(he:e=x\/H e=some (.own x))(k:∀b u,b≠e->h.get? b=some u->h'.get? b=some u)(heo:∃u,h'.get? e=some u)
  (new:ObjOk P w (upd H x o') h' x o'):HOk P w (upd H x o') h':=λb u q=>by
 have nown:∀c y,H c=some (.own y)->c≠x:=λc y r z=>by subst z;rw[r]at mu;exact mu
 have ntup:∀c xs,H c=some (.tup xs)->c≠x:=λc xs r z=>by subst z;rw[r]at mu;exact mu
 by_cases hb:b=x
 ·subst hb;rw[A3]at q;cases q;exact new
 ·rw[B1 hb]at q
  by_cases hbe:b=e
  ·have q':H b=some (.own x):=by
    rcases he with z|z
    ·exact absurd (hbe.trans z) hb
    ·rw[hbe];exact z
   rw[q]at q';cases q'
   obtain⟨v,hv⟩:=heo
   exact⟨v,by rw[hbe];exact hv⟩
  ·refine(ok b u q).stay (λc v hc r=>k c v ?_ r) (λc r=>by rw[B1 (nown c b r)];exact r) λc xs r=>by rw[B1 (ntup c xs r)];exact r
   rcases hc with rfl|hc
   ·exact hbe
   ·rintro rfl
    rcases he with z|z
    ·exact nown c b hc z
    ·rw[hc]at z;cases z;exact hb rfl
end
structure Un (fs ex:List Addr) (H H':Hp) (h h':Heap):Prop where
 keep:∀b o,h.get? b=some o->H b=none->b∉fs->b∉ex->h'.get? b=some o
 slot:∀b o,h.get? b=some o->H b=none->b∈fs->b∉ex->∃sl,h'.get? b=some {o with slots:=sl}
 free:∀b o,h.get? b=some o->H b=none->b∉ex->H' b=none
 there:∀b o,h.get? b=some o->b∉ex->∃o',h'.get? b=some o'
 tups:∀b xs,H b=some (.tup xs)->H' b=some (.tup xs)
 frzs:∀b o u,H b=some (.frz o u)->H' b=some (.frz o u)
 tbls:∀b ps,H b=some (.tbl ps)->∃more,H' b=some (.tbl (ps++more))
section
variable{fs fs' ex ex':List Addr}{H H1 H2:Hp}{h h1 h2 h':Heap}{a x e:Addr}{o:HO}
theorem Un.any(u:Un fs ex H H1 h h1){b:Addr}{ob:Obj}(q:h.get? b=some ob)(n:H b=none)(hx:b∉ex):∃sl,h1.get? b=some {ob with slots:=sl}:=by
 by_cases hb:b∈fs
 ·exact u.slot b ob q n hb hx
 ·exact⟨ob.slots,u.keep b ob q n hb hx⟩
theorem Un.kept(k:∀b u,h.get? b=some u->h'.get? b=some u):Un fs ex H H h h':=
 ⟨λb ob q _ _ _=>k b ob q,λb ob q _ _ _=>⟨ob.slots,k b ob q⟩,λ_ _ _ n _=>n,λb ob q _=>⟨ob,k b ob q⟩,λ_ _ q=>q,λ_ _ _ q=>q,λ_ ps q=>⟨#[],by rw[q];simp⟩⟩
theorem Un.refl:Un fs ex H H h h:=Un.kept λ_ _ q=>q
theorem Un.laid(k:∀b u,h.get? b=some u->h'.get? b=some u)(hp:h.objs.size<=a)(hn:H a=none):Un fs ex H (upd H a o) h h' where
 keep:=λb u q _ _ _=>k b u q
 slot:=λb u q _ _ _=>⟨u.slots,k b u q⟩
 free:=λb u q n _=>by rw[B1 (ne_of_lt (lt_of_lt_of_le (lt_size q) hp))];exact n
 there:=λb u q _=>⟨u,k b u q⟩
 tups:=λb xs q=>by rw[B1 (B0 q hn)];exact q
 frzs:=λb u xs q=>by rw[B1 (B0 q hn)];exact q
 tbls:=λb ps q=>⟨#[],by rw[B1 (B0 q hn),q];simp⟩
theorem Un.write(mu:Mut (H x))(he:e=x\/H e=some (.own x))(k:∀b u,b≠e->h.get? b=some u->h'.get? b=some u)(heo:∃u,h'.get? e=some u):Un fs ex H (upd H x o) h h':=by
 have hx:∀b,H b=none->b≠x:=λb n z=>by subst z;rw[n]at mu;exact mu
 have hb:∀b,H b=none->b≠e:=λb n z=>by
  subst z
  rcases he with r|r
  ·exact hx b n r
  ·rw[n]at r;cases r
 have hm:∀b u,H b=some u->¬Mut (some u)->b≠x:=λb u q nm z=>by subst z;rw[q]at mu;exact nm mu
 refine⟨λb u q n _ _=>k b u (hb b n) q,λb u q n _ _=>⟨u.slots,k b u (hb b n) q⟩,λb u q n _=>by rw[B1 (hx b n)];exact n,λb u q _=> ?_,
  λb xs q=>by rw[B1 (hm b _ q λz=>z)];exact q,λb u xs q=>by rw[B1 (hm b _ q λz=>z)];exact q,λb ps q=>⟨#[],by rw[B1 (hm b _ q λz=>z),q];simp⟩⟩
 by_cases hbe:b=e
 ·subst hbe;exact heo
 ·exact⟨u,k b u hbe q⟩
end
def trk(h:Heap)(H:Hp):List Addr:=(List.range h.objs.size).filter λa=>(H a).isSome
def FY(h:Heap)(H:Hp):Heap:=hideAll h (trk h H)
theorem OR(h:Heap)(H:Hp):(FY h H).objs.size=h.objs.size:=PySem.W.hideAll_size _ _
theorem PD{h:Heap}{H:Hp}{b:Addr}{o:Obj}(e:h.get? b=some o)(n:H b=none):(FY h H).get? b=some o:=
 hideAll_get _ e λhm=>by
  have q:(H b).isSome=true:=(mem_filter.mp hm).2
  rw[n]at q;simp at q
theorem UM{h:Heap}{H:Hp}{b:Addr}{o:Obj}(e:(FY h H).get? b=some o):h.get? b=some o/\H b=none:=by
 have e':h.get? b=some o:=of_hideAll (trk h H) e
 refine⟨e', ?_⟩
 cases q:H b with
 |none=>rfl
 |some x=>
  have hm:b∈trk h H:=mem_filter.mpr ⟨mem_range.mpr (lt_size e'),by simp[q]⟩
  have z:(FY h H).get? b=none:=hideAll_none (trk h H) hm
  rw[z]at e;cases e
structure Mod (K:FZ) (mg:Str->Option Value) (base:Heap):Prop where
 kin:K.In base
 glob:base.Ns mainGlobals mg
 blt:∃mb,base.Ns builtinsNs mb/\∀x:Str,x≠ "__name__"->mb x=bootBuiltins x
 nolimit:base.NoLimit
structure Cx where
 prog:Program
 w:World
 K:FZ
 mg:Str->Option Value
 base:Heap
 A:Around
 N:List Str
 s₀:Shared
 H₀:Hp
 env:Env
 outer:List Env
 stack:List Env
 ex:List Addr
 fn:Str->Bool
 calm:Bool
 pn:List (Addr×Obj)
 xe:Value->Shared->Prop
def frs(l:List Env):List Addr:=l.filterMap (·.frame)
abbrev Cx.fs(X:Cx):List Addr:=frs X.outer
def Vis(sc:Scope)(x:Str):Prop:=sc.names.lookup x=some .local\/sc.names.lookup x=some .cell\/sc.names.lookup x=some .free
def Loc(sc:Scope)(x:Str):Prop:=sc.names.lookup x=some .local\/sc.names.lookup x=some .cell
def aKZ(env:Env)(h:Heap)(m:Str->Option Value)(x:Str)(u:Value):Prop:=
 (env.kindOf x=some .local/\m x=some u)\/((env.kindOf x=some .cell\/env.kindOf x=some .free)/\∃c,env.cells.lookup x=some c/\h.IsCell c (some u))
structure Cx.Ok (X:Cx):Prop where
 mod:Mod X.K X.mg X.base
 kind:X.env.scope.kind=.function
 glob:X.env.globals=mainGlobals
 blt:X.env.builtins=builtinsNs
 above:X.s₀.heap.objs.size<=X.env.locals
 inj:∀x y c,X.env.cells.lookup x=some c->X.env.cells.lookup y=some c->x=y
 has:∀x,(X.env.kindOf x=some .cell\/X.env.kindOf x=some .free)->∃c,X.env.cells.lookup x=some c
 cab:∀x c,X.fn x=true->X.env.cells.lookup x=some c->X.s₀.heap.objs.size<=c
 hd:X.calm=true->X.A.handled=none
 frames:X.A.frames=some X.stack
 stk:X.stack=X.outer\/(X.stack=X.env::X.outer/\X.env.frame=some X.env.locals)
 exf:∀b∈X.ex,b≠X.env.locals/\∀x c,X.env.cells.lookup x=some c->c≠b
 bs:∀b o,X.base.get? b=some o->X.s₀.heap.get? b=some o/\X.H₀ b=none
 bsz:X.base.objs.size<=X.s₀.heap.objs.size
 noex:∀b o,X.base.get? b=some o->b∉X.ex
 exfs:∀b∈X.ex,b∉X.fs
 funs:X.s₀.heap.FunFrames X.base X.outer
 frf:∀b∈X.fs,X.H₀ b=none
structure Inv (X:Cx) (pins:List (Addr×Obj)) (σ:List (Option V)) (H:Hp) (s:Shared):Prop where
 ok:X.Ok
 os:s.os=X.s₀.os
 bare:AllBare s.gens
 base:Un X.fs X.ex X.H₀ H X.s₀.heap s.heap
 loc:∃m,s.heap.Ns X.env.locals m/\∀(i:Nat) (x:Str) (v:V),X.N[i]? =some x->σ[i]? =some (some v)->Vis X.env.scope x->∃u,RelV v u/\aKZ X.env s.heap m x u
 cell:∀x c,X.env.cells.lookup x=some c->∃v,s.heap.IsCell c v
 free:H X.env.locals=none
 freeC:∀x c,X.env.cells.lookup x=some c->H c=none
 pin:∀p∈X.pn++pins,s.heap.get? p.1=some p.2/\H p.1=none/\p.1≠X.env.locals/\p.1∉X.fs/\∀v,p.2.data≠ .cell v
 hok:HOk X.prog X.w H s.heap
 len:σ.length=X.N.length
section
variable{X:Cx}{pins:List (Addr×Obj)}{σ:List (Option V)}{H H':Hp}{s:Shared}{h':Heap}
theorem Cx.Ok.nofr(ok:X.Ok){b:Addr}{o:Obj}(e:X.base.get? b=some o):b∉X.fs:=λhb=>by
 have:=(ok.funs.mem hb).1
 rw[e]at this;cases this
theorem Inv.bs(I:Inv X pins σ H s):∀b o,X.base.get? b=some o->s.heap.get? b=some o/\H b=none:=λb o e=>
 ⟨I.base.keep b o (I.ok.bs b o e).1 (I.ok.bs b o e).2 (I.ok.nofr e) (I.ok.noex b o e),I.base.free b o (I.ok.bs b o e).1 (I.ok.bs b o e).2 (I.ok.noex b o e)⟩
theorem Inv.bk(I:Inv X pins σ H s):∀b o,X.base.get? b=some o->s.heap.get? b=some o:=λb o e=>(I.bs b o e).1
theorem Inv.mod(I:Inv X pins σ H s):Mod X.K X.mg X.base:=I.ok.mod
theorem Inv.kIn(I:Inv X pins σ H s):X.K.In s.heap:=I.ok.mod.kin.keeps I.bk
theorem Inv.lt(I:Inv X pins σ H s):X.env.locals<s.heap.objs.size:=let⟨_,hn,_⟩:=I.loc;hn.lt
theorem Inv.sz(I:Inv X pins σ H s):X.s₀.heap.objs.size<=s.heap.objs.size:=le_trans I.ok.above (le_of_lt I.lt)
theorem Inv.nofs(I:Inv X pins σ H s){a:Addr}(h:s.heap.objs.size<=a):a∉X.fs:=λhb=>by
 obtain⟨_,o,ho,_⟩:=I.ok.funs.mem hb
 exact absurd (lt_of_lt_of_le (lt_size ho) (le_trans I.sz h)) (lt_irrefl _)
theorem Inv.cne(I:Inv X pins σ H s):∀x c,X.env.cells.lookup x=some c->c≠X.env.locals:=λx c e z=>by
 obtain⟨v,o,ho,hd⟩:=I.cell x c e
 obtain⟨m,⟨o',es,ep,ho',hd',_⟩,_⟩:=I.loc
 rw[z,ho']at ho;cases ho;rw[hd']at hd;cases hd
theorem Inv.funs(I:Inv X pins σ H s):s.heap.FunFrames X.base X.outer:=by
 have all:∀(l:List Env),(∀b∈frs l,b∈X.fs)->X.s₀.heap.FunFrames X.base l->s.heap.FunFrames X.base l:=by
  intro l
  induction l with
  |nil=>intro _ _;trivial
  |cons env r ih=>
   intro hs hl
   obtain⟨hk,⟨L,o,hf,hn,ho,hd⟩,hr⟩:=hl
   have hL:L∈X.fs:=hs L (by unfold frs;rw[filterMap_cons,hf];exact mem_cons_self)
   obtain⟨sl,e⟩:=I.base.slot L o ho (I.ok.frf L hL) hL λz=>I.ok.exfs L z hL
   exact⟨hk,⟨L,_,hf,hn,e,hd⟩,ih (λb hb=>hs b (by unfold frs;rw[filterMap_cons,hf];exact mem_cons_of_mem _ hb)) hr⟩
 exact all X.outer (λ_ hb=>hb) I.ok.funs
theorem Inv.stack(I:Inv X pins σ H s):s.heap.FunFrames X.base X.stack:=by
 rcases I.ok.stk with e|⟨e,hf⟩
 ·rw[e];exact I.funs
 ·rw[e]
  obtain⟨m,hn,_⟩:=I.loc
  refine .cons (by rw[I.ok.kind];decide) hf hn ?_ I.funs
  exact Heap.get?_none_of_le (le_trans I.ok.bsz I.ok.above)
theorem Inv.stkSub(I:Inv X pins σ H s):∀b∈frs X.stack,b∈X.env.locals::X.fs:=λb hb=>by
 rcases I.ok.stk with e|⟨e,hf⟩
 ·rw[e]at hb;exact mem_cons_of_mem _ hb
 ·rw[e]at hb
  unfold frs at hb
  rw[filterMap_cons,hf]at hb
  exact hb
theorem Inv.stkFree(I:Inv X pins σ H s):∀b∈frs X.stack,H b=none:=λb hb=>by
 rcases cZ (I.stkSub b hb)with e|hb
 ·rw[e];exact I.free
 ·obtain⟨_,o,ho,_⟩:=I.ok.funs.mem hb
  exact I.base.free b o ho (I.ok.frf b hb) λz=>I.ok.exfs b z hb
theorem Inv.step{g':Array GenState}{t':Nat}{d':Drawn}{ch:List Addr}(I:Inv X pins σ H s)
  (hch:∀b∈ch,(b∈X.ex\/X.s₀.heap.objs.size<=b)/\b≠X.env.locals/\(∀x c,X.env.cells.lookup x=some c->c≠b)/\∀p∈X.pn++pins,p.1≠b)
  (keep:∀b o,b≠X.env.locals->b∉X.fs->b∉ch->s.heap.get? b=some o->H b=none->h'.get? b=some o)
  (slot:∀b o,b≠X.env.locals->b∈X.fs->b∉ch->s.heap.get? b=some o->H b=none->∃sl,h'.get? b=some {o with slots:=sl})(free:∀b o,b∉ch->s.heap.get? b=some o->H b=none->H' b=none)
  (there:∀b o,b∉ch->s.heap.get? b=some o->∃o',h'.get? b=some o')
  (tups:∀b xs,H b=some (.tup xs)->H' b=some (.tup xs))(frzs:∀b o u,H b=some (.frz o u)->H' b=some (.frz o u))(tbls:∀b ps,H b=some (.tbl ps)->∃more,H' b=some (.tbl (ps++more)))
  (ns:∀m,s.heap.Ns X.env.locals m->h'.Ns X.env.locals m)(hok:HOk X.prog X.w H' h')(hg:AllBare g'):
  Inv X pins σ H' {s with heap:=h',gens:=g',drawn:=d',toks:=t'}:=by
 have neL:∀b o,X.s₀.heap.get? b=some o->b≠X.env.locals:=λb o e=>ne_of_lt (lt_of_lt_of_le (lt_size e) I.ok.above)
 have neC:∀b o,X.s₀.heap.get? b=some o->b∉X.ex->b∉ch:=λb o e hx hb=>by
  rcases(hch b hb).1 with z|z
  ·exact hx z
  ·exact absurd (lt_of_lt_of_le (lt_size e) z) (lt_irrefl _)
 have cellK:∀x c,X.env.cells.lookup x=some c->∀v,s.heap.IsCell c v->h'.IsCell c v:=λx c e v ⟨o,ho,hd⟩=>by
  have nch:c∉ch:=λz=>(hch c z).2.2.1 x c e rfl
  by_cases hc:c∈X.fs
  ·obtain⟨sl,q⟩:=slot c o (I.cne x c e) hc nch ho (I.freeC x c e)
   exact⟨_,q,hd⟩
  ·exact⟨o,keep c o (I.cne x c e) hc nch ho (I.freeC x c e),hd⟩
 refine⟨I.ok,I.os,hg,⟨λb o e n hb hx=> ?_,λb o e n hb hx=> ?_,λb o e n hx=> ?_,λb o e hx=> ?_,λb xs e=>tups b xs (I.base.tups b xs e),λb o xs e=>frzs b o xs (I.base.frzs b o xs e),λb ps e=> ?_⟩, ?_,λx c e=> ?_, ?_,λx c e=> ?_,λp hp=> ?_,hok,I.len⟩
 ·exact keep b o (neL b o e) hb (neC b o e hx) (I.base.keep b o e n hb hx) (I.base.free b o e n hx)
 ·obtain⟨sl,e1⟩:=I.base.slot b o e n hb hx
  obtain⟨sl',e2⟩:=slot b _ (neL b o e) hb (neC b o e hx) e1 (I.base.free b o e n hx)
  exact⟨sl',e2⟩
 ·obtain⟨o',e1⟩:=I.base.there b o e hx
  exact free b o' (neC b o e hx) e1 (I.base.free b o e n hx)
 ·obtain⟨o',e1⟩:=I.base.there b o e hx
  exact there b o' (neC b o e hx) e1
 ·obtain⟨m1,e1⟩:=I.base.tbls b ps e
  obtain⟨m2,e2⟩:=tbls b _ e1
  exact⟨m1++m2,by rw[e2,Array.append_assoc]⟩
 ·obtain⟨m,hn,hl⟩:=I.loc
  refine⟨m,ns m hn,λi x v e1 e2 e3=> ?_⟩
  obtain⟨u,r,l⟩:=hl i x v e1 e2 e3
  refine⟨u,r, ?_⟩
  rcases l with l|⟨k,c,e,z⟩
  ·exact .inl l
  ·exact .inr ⟨k,c,e,cellK x c e _ z⟩
 ·obtain⟨v,z⟩:=I.cell x c e
  exact⟨v,cellK x c e v z⟩
 ·obtain⟨m,⟨o,_,_,ho,_⟩,_⟩:=I.loc
  exact free _ o (λz=>(hch _ z).2.1 rfl) ho I.free
 ·obtain⟨v,o,ho,hd⟩:=I.cell x c e
  exact free c o (λz=>(hch c z).2.2.1 x c e rfl) ho (I.freeC x c e)
 ·obtain⟨e,n,ne,nf,d⟩:=I.pin p hp
  have nch:p.1∉ch:=λz=>(hch p.1 z).2.2.2 p hp rfl
  exact⟨keep p.1 p.2 ne nf nch e n,free p.1 p.2 nch e n,ne,nf,d⟩
theorem Inv.un{t':Nat}(I:Inv X pins σ H s)(u:Un X.fs [] H H' s.heap h')(hok:HOk X.prog X.w H' h'):Inv X pins σ H' {s with heap:=h',toks:=t'}:=by
 obtain⟨m,⟨o,es,ep,ho,r⟩,_⟩:=id I.loc
 obtain⟨sl,hL⟩:=u.any ho I.free (by simp)
 exact I.step (g':=s.gens) (d':=s.drawn) (ch:=[]) (λ_ z=>nomatch z) (λb o _ hb _ e n=>u.keep b o e n hb (by simp)) (λb o _ hb _ e n=>u.slot b o e n hb (by simp)) (λb o _ e n=>u.free b o e n (by simp)) (λb o _ e=>u.there b o e (by simp)) u.tups u.frzs u.tbls (λm' hm=>by
  obtain⟨o',es',ep',ho',r'⟩:=hm
  rw[ho]at ho';cases ho'
  exact⟨_,es',ep',hL,r'⟩) hok I.bare
theorem Inv.call{g':Array GenState}{t':Nat}{d':Drawn}{ch:List Addr}(I:Inv X pins σ H s)(u:Un (frs X.stack) ch H H' s.heap h')(hok:HOk X.prog X.w H' h')(hg:AllBare g')
  (hch:∀b∈ch,(b∈X.ex\/X.s₀.heap.objs.size<=b)/\b≠X.env.locals/\(∀x c,X.env.cells.lookup x=some c->c≠b)/\∀p∈X.pn++pins,p.1≠b):
  Inv X pins σ H' {s with heap:=h',gens:=g',drawn:=d',toks:=t'}:=by
 obtain⟨m,⟨o,es,ep,ho,r⟩,_⟩:=id I.loc
 obtain⟨sl,hL⟩:=u.any ho I.free λz=>(hch _ z).2.1 rfl
 exact I.step (ch:=ch) hch (λb o hL hb hc e n=>u.keep b o e n (λz=>(cZ (I.stkSub b z)).elim hL hb) hc) (λb o _ _ hc e n=>u.any e n hc) (λb o hc e n=>u.free b o e n hc) (λb o hc e=>u.there b o e hc) u.tups u.frzs u.tbls (λm' hm=>by
  obtain⟨o',es',ep',ho',r'⟩:=hm
  rw[ho]at ho';cases ho'
  exact⟨_,es',ep',hL,r'⟩) hok hg
theorem Inv.turned{t':Nat}{it:Addr}(I:Inv X pins σ H s)(k:∀b o,b≠it->s.heap.get? b=some o->h'.get? b=some o)(hn:H it=none)(hL:it≠X.env.locals)
  (h1:it∈X.ex\/X.s₀.heap.objs.size<=it)(h2:∀x c,X.env.cells.lookup x=some c->c≠it)(h3:∀p∈X.pn++pins,p.1≠it):Inv X pins σ H {s with heap:=h',toks:=t'}:=by
 have nit:∀b u,H b=some u->b≠it:=λb u e z=>by rw[z,hn]at e;cases e
 refine I.step (g':=s.gens) (d':=s.drawn) (ch:=[it]) (λb hb=> ?_) (λb o _ _ hc e _=>k b o (λz=>hc (by simp[z])) e) (λb o _ _ hc e _=>⟨o.slots,k b o (λz=>hc (by simp[z])) e⟩) (λ_ _ _ _ n=>n)
  (λb o hc e=>⟨o,k b o (λz=>hc (by simp[z])) e⟩) (λ_ _ e=>e) (λ_ _ _ e=>e) (λb ps e=>⟨#[],by rw[e];simp⟩) (λm hm=> ?_) (λb u e=> ?_) I.bare
 ·have e:b=it:=by simpa using hb
  subst e
  exact⟨h1,hL,h2,h3⟩
 ·obtain⟨o,es,ep,ho,r⟩:=hm
  exact⟨o,es,ep,k _ o (Ne.symm hL) ho,r⟩
 ·refine(I.hok b u e).stay (λc v hc q=>k c v ?_ q) (λ_ q=>q) λ_ _ q=>q
  rcases hc with z|z
  ·rw[z];exact nit b u e
  ·exact nit c _ z
theorem Inv.tok(I:Inv X pins σ H s)(t:Nat):Inv X pins σ H {s with toks:=t}:=I.un (h':=s.heap) (t':=t) Un.refl I.hok
theorem Inv.kept{t':Nat}(I:Inv X pins σ H s)(k:∀b u,s.heap.get? b=some u->h'.get? b=some u):Inv X pins σ H {s with heap:=h',toks:=t'}:=I.un (Un.kept k) (I.hok.kept k)
theorem Inv.laid{a:Addr}{o:HO}{t':Nat}(I:Inv X pins σ H s)(k:∀b u,s.heap.get? b=some u->h'.get? b=some u)(hp:s.heap.objs.size<=a)(new:ObjOk X.prog X.w (upd H a o) h' a o):
  Inv X pins σ (upd H a o) {s with heap:=h',toks:=t'}:=I.un (Un.laid k hp (I.hok.fresh hp)) (I.hok.laid k hp new)
theorem Inv.write{x e:Addr}{o:HO}{t':Nat}(I:Inv X pins σ H s)(mu:Mut (H x))(he:e=x\/H e=some (.own x))(k:∀b u,b≠e->s.heap.get? b=some u->h'.get? b=some u)(heo:∃u,h'.get? e=some u)
  (new:ObjOk X.prog X.w (upd H x o) h' x o):Inv X pins σ (upd H x o) {s with heap:=h',toks:=t'}:=I.un (Un.write mu he k heo) (I.hok.write mu he k heo new)
theorem Inv.weak{σ':List (Option V)}(I:Inv X pins σ H s)(hl:σ'.length=σ.length)(w:∀(i:Nat) v,σ'[i]? =some (some v)->σ[i]? =some (some v)):Inv X pins σ' H s:=
 ⟨I.ok,I.os,I.bare,I.base,let⟨m,hn,hl'⟩:=I.loc;⟨m,hn,λi x v e1 e2 e3=>hl' i x v e1 (w i v e2) e3⟩,I.cell,I.free,I.freeC,I.pin,I.hok,hl.trans I.len⟩
theorem Inv.pins_of{pins':List (Addr×Obj)}(I:Inv X pins σ H s)(h:∀p∈pins',s.heap.get? p.1=some p.2/\H p.1=none/\p.1≠X.env.locals/\p.1∉X.fs/\∀v,p.2.data≠ .cell v):Inv X pins' σ H s:=
 ⟨I.ok,I.os,I.bare,I.base,I.loc,I.cell,I.free,I.freeC,λp hp=>(mem_append.mp hp).elim (λz=>I.pin p (mem_append_left _ z)) (h p),I.hok,I.len⟩
theorem EH{N:List Str}(hN:N.Nodup){i j:Nat}{x:Str}(a:N[i]? =some x)(b:N[j]? =some x):i=j:=by
 obtain⟨h1,e1⟩:=List.getElem?_eq_some_iff.mp a
 obtain⟨h2,e2⟩:=List.getElem?_eq_some_iff.mp b
 exact(List.getElem_inj hN).mp (e1.trans e2.symm)
theorem GP{M:Model}{A:Around}{E:Value->Shared->Prop}{i:Nat}{x:Str}{v:V}{u:Value}{Q:Unit->Shared->Prop}(I:Inv X pins σ H s)(hN:X.N.Nodup)(hi:X.N[i]? =some x)(hx:Loc X.env.scope x)(r:RelV v u)
  (h:∀s',Inv X pins (σ.set i (some v)) H s'->(∃a,Heap.SameBut a s.heap s'.heap/\(a=X.env.locals\/X.env.cells.lookup x=some a))->Q () s')(hf:X.fn x=true\/X.env.scope.names.lookup x=some .local:=by first|exact .inl rfl|exact .inr rfl|assumption):wpAny M A (storeName X.env x u) Q E s:=by
 obtain⟨m,hn,hl⟩:=id I.loc
 have hcls:(X.env.scope.kind==.class||(X.env.scope.kind==.module&&X.env.locals !=X.env.globals))=false:=by rw[I.ok.kind];rfl
 have hiσ:i<σ.length:=by rw[I.len];exact(List.getElem?_eq_some_iff.mp hi).1
 have cne:=I.cne
 have tracked:∀ {a:Addr} {h':Heap},(∃o,s.heap.get? a=some o/\H a=none)->Heap.SameBut a s.heap h'->HOk X.prog X.w H h':=λ{a h'} ha hs b ob e=>by
  obtain⟨_,_,hfree⟩:=ha
  refine(I.hok b ob e).stay (λc w' hc q=>(hs.2 c ?_).trans q) (λ_ q=>q) λ_ _ q=>q
  rintro rfl
  rcases hc with rfl|hc
  ·rw[hfree]at e;cases e
  ·rw[hfree]at hc;cases hc
 rcases hx with hk|hk
 ·refine wpAny_storeName_local hk hn (λh' hn' hs=> ?_) hcls
  obtain⟨oL,_,_,hoL,_⟩:=id hn
  refine h _ ⟨I.ok,I.os,I.bare,⟨λb o e n hb hx=> ?_,λb o e n hb hx=> ?_,I.base.free,λb o e hx=> ?_,I.base.tups,I.base.frzs,I.base.tbls⟩,⟨_,hn',λj y v' e1 e2 e3=> ?_⟩,λy c e=> ?_,I.free,I.freeC,λp hp=> ?_,tracked ⟨oL,hoL,I.free⟩ hs,by simpa using I.len⟩ ⟨_,hs,.inl rfl⟩
  ·exact(hs.2 b (ne_of_lt (lt_of_lt_of_le (lt_size e) I.ok.above))).trans (I.base.keep b o e n hb hx)
  ·obtain⟨sl,e1⟩:=I.base.slot b o e n hb hx
   exact⟨sl,(hs.2 b (ne_of_lt (lt_of_lt_of_le (lt_size e) I.ok.above))).trans e1⟩
  ·obtain⟨o',e1⟩:=I.base.there b o e hx
   exact⟨o',(hs.2 b (ne_of_lt (lt_of_lt_of_le (lt_size e) I.ok.above))).trans e1⟩
  ·by_cases hj:j=i
   ·subst hj
    rw[hi]at e1;cases e1
    rw[getElem?_set_self hiσ]at e2
    cases e2
    exact⟨u,r,.inl ⟨hk,by simp⟩⟩
   ·rw[getElem?_set_ne (Ne.symm hj)]at e2
    obtain⟨u',r',q⟩:=hl j y v' e1 e2 e3
    refine⟨u',r', ?_⟩
    rcases q with⟨k,e⟩|⟨k,c,e,z⟩
    ·refine .inl ⟨k, ?_⟩
     have:y≠x:=λe=>hj (EH hN e1 (e▸hi))
     simp[this,e]
    ·exact .inr ⟨k,c,e,z.sameBut hs (cne y c e)⟩
  ·obtain⟨w',z⟩:=I.cell y c e
   exact⟨w',z.sameBut hs (cne y c e)⟩
  ·obtain⟨e,n,ne,nf,d⟩:=I.pin p hp
   exact⟨(hs.2 p.1 ne).trans e,n,ne,nf,d⟩
 ·have hfn:X.fn x=true:=by
   rcases hf with z|z
   ·exact z
   ·rw[z]at hk;cases hk
  obtain⟨c,hc⟩:=I.ok.has x (.inl hk)
  obtain⟨w',z⟩:=I.cell x c hc
  refine wpAny_storeName_cell I.ok.kind hk hc z (λh' hc' hs=> ?_)
  obtain⟨oc,hoc,hocd⟩:=id z
  refine h {s with heap:=h'} ⟨I.ok,I.os,I.bare,⟨λb o e n hb hx=> ?_,λb o e n hb hx=> ?_,I.base.free,λb o e hx=> ?_,I.base.tups,I.base.frzs,I.base.tbls⟩,⟨m,hn.sameBut hs (Ne.symm (cne x c hc)),λj y v' e1 e2 e3=> ?_⟩,λy c' e=> ?_,I.free,I.freeC,λp hp=> ?_,tracked ⟨oc,hoc,I.freeC x c hc⟩ hs,by simpa using I.len⟩ ⟨c,hs,.inr hc⟩
  ·exact(hs.2 b (ne_of_lt (lt_of_lt_of_le (lt_size e) (I.ok.cab x c hfn hc)))).trans (I.base.keep b o e n hb hx)
  ·obtain⟨sl,e1⟩:=I.base.slot b o e n hb hx
   exact⟨sl,(hs.2 b (ne_of_lt (lt_of_lt_of_le (lt_size e) (I.ok.cab x c hfn hc)))).trans e1⟩
  ·obtain⟨o',e1⟩:=I.base.there b o e hx
   exact⟨o',(hs.2 b (ne_of_lt (lt_of_lt_of_le (lt_size e) (I.ok.cab x c hfn hc)))).trans e1⟩
  ·by_cases hj:j=i
   ·subst hj
    rw[hi]at e1;cases e1
    rw[getElem?_set_self hiσ]at e2
    cases e2
    exact⟨u,r,.inr ⟨.inl hk,c,hc,hc'⟩⟩
   ·rw[getElem?_set_ne (Ne.symm hj)]at e2
    obtain⟨u',r',q⟩:=hl j y v' e1 e2 e3
    refine⟨u',r', ?_⟩
    rcases q with q|⟨k,c',e,z'⟩
    ·exact .inl q
    ·refine .inr ⟨k,c',e,z'.sameBut hs ?_⟩
     rintro rfl
     exact hj (EH hN e1 (I.ok.inj _ _ _ e hc▸hi))
  ·by_cases hcc:c'=c
   ·subst hcc;exact⟨_,hc'⟩
   ·obtain⟨w2,z2⟩:=I.cell y c' e
    exact⟨w2,z2.sameBut hs hcc⟩
  ·obtain⟨e,n,ne,nf,d⟩:=I.pin p hp
   refine⟨(hs.2 p.1 ?_).trans e,n,ne,nf,d⟩
   intro q
   rw[q,hoc]at e
   have q':oc=p.2:=Option.some.inj e
   exact d w' (by rw[<-q'];exact hocd)
theorem V2{M:Model}{A:Around}{E:Value->Shared->Prop}{i:Nat}{x:Str}{v:V}{u:Value}{Q:Unit->Shared->Prop}(I:Inv X pins σ H s)(hN:X.N.Nodup)(hi:X.N[i]? =some x)(hx:Loc X.env.scope x)(r:RelV v u)
  (h:∀s',Inv X pins (σ.set i (some v)) H s'->Q () s')(hf:X.fn x=true\/X.env.scope.names.lookup x=some .local:=by first|exact .inl rfl|exact .inr rfl|assumption):wpAny M A (storeName X.env x u) Q E s:=
 GP I hN hi hx r (λs' I' _=>h s' I') hf
theorem Inv.call'{s':Shared}{ch:List Addr}(I:Inv X pins σ H s)(ho:s'.os=s.os)(u:Un (frs X.stack) ch H H' s.heap s'.heap)(hok:HOk X.prog X.w H' s'.heap)(hg:AllBare s'.gens)
  (hch:∀b∈ch,(b∈X.ex\/X.s₀.heap.objs.size<=b)/\b≠X.env.locals/\(∀x c,X.env.cells.lookup x=some c->c≠b)/\∀p∈X.pn++pins,p.1≠b):Inv X pins σ H' s':=by
 obtain⟨h',g',d',t',o'⟩:=s'
 have e:o'=s.os:=ho
 subst e
 exact I.call (g':=g') (t':=t') (d':=d') u hok hg hch
end
abbrev XK:=Value->Option Addr->Hp->Prop
abbrev St:=List (Option V)
abbrev VK:=V->Hp->Prop
abbrev TE:=St->Hp->VK->Prop
abbrev TT:=St->Hp->(Bool->Hp->Prop)->Prop
abbrev TA:=St->Hp->(List V->Hp->Prop)->Prop
structure Ends where
 nx:St->Hp->Prop
 rt:VK
 bk:St->Hp->Prop:=λ_ _=>False
 ct:St->Hp->Prop:=λ_ _=>False
abbrev TS:=Ends->St->Hp->Prop
def EP(X:Cx)(pins:List (Addr×Obj))(σ:St)(Q:VK)(u:Value)(s':Shared):Prop:=∃v H',Inv X pins σ H' s'/\RelV v u/\Q v H'
def TP(X:Cx)(pins:List (Addr×Obj))(σ:St)(Q:Bool->Hp->Prop)(b:Bool)(s':Shared):Prop:=∃H',Inv X pins σ H' s'/\Q b H'
def AP(X:Cx)(pins:List (Addr×Obj))(σ:St)(Q:List V->Hp->Prop)(us:List Value)(s':Shared):Prop:=∃vs H',Inv X pins σ H' s'/\Vals vs us/\Q vs H'
def SP(X:Cx)(pins:List (Addr×Obj))(D:Ends)(f:Flow)(s':Shared):Prop:=
 match f with
 | .next=>∃σ' H',Inv X pins σ' H' s'/\D.nx σ' H'
 | .brk=>∃σ' H',Inv X pins σ' H' s'/\D.bk σ' H'
 | .cont=>∃σ' H',Inv X pins σ' H' s'/\D.ct σ' H'
 | .ret u=>∃v σ' H',Inv X pins σ' H' s'/\RelV v u/\D.rt v H'
def PE(X:Cx)(e:Expr)(t:TE):Prop:=
 ∀(pins:List (Addr×Obj)) (s:Shared) (σ:St) (H:Hp) (Q:VK),Inv X pins σ H s->t σ H Q->wpAny (model X.prog X.w) X.A (eval e X.env) (EP X pins σ Q) X.xe s
def PT(X:Cx)(e:Expr)(t:TT):Prop:=
 ∀(pins:List (Addr×Obj)) (s:Shared) (σ:St) (H:Hp) (Q:Bool->Hp->Prop),Inv X pins σ H s->t σ H Q->wpAny (model X.prog X.w) X.A (isTrue e X.env (eval e X.env)) (TP X pins σ Q) X.xe s
def PW(X:Cx)(e:Expr)(t:TT):Prop:=
 ∀(whole:Sem Value) (pins:List (Addr×Obj)) (s:Shared) (σ:St) (H:Hp) (Q:Bool->Hp->Prop),Inv X pins σ H s->t σ H Q->wpAny (model X.prog X.w) X.A (isTrue e X.env whole) (TP X pins σ Q) X.xe s
theorem PW.pt{X:Cx}{e:Expr}{t:TT}(h:PW X e t):PT X e t:=h _
def PA(X:Cx)(es:List Expr)(t:TA):Prop:=
 ∀(pos:Pos) (pins:List (Addr×Obj)) (s:Shared) (σ:St) (H:Hp) (Q:List V->Hp->Prop),Inv X pins σ H s->t σ H Q->wpAny (model X.prog X.w) X.A (spliced (backTo pos (starEach es X.env))) (AP X pins σ Q) X.xe s
def PS(X:Cx)(st:Stmt)(t:TS):Prop:=
 ∀(pins:List (Addr×Obj)) (s:Shared) (σ:St) (H:Hp) (D:Ends),Inv X pins σ H s->t D σ H->wpAny (model X.prog X.w) X.A (exec st X.env) (SP X pins D) X.xe s
def PSs(X:Cx)(st:List Stmt)(t:TS):Prop:=
 ∀(pins:List (Addr×Obj)) (s:Shared) (σ:St) (H:Hp) (D:Ends),Inv X pins σ H s->t D σ H->wpAny (model X.prog X.w) X.A (execs st X.env) (SP X pins D) X.xe s
theorem thn{α:Type}{t:Sem α}{Q Q':α->Shared->Prop}{M:Model}{A:Around}{E:Value->Shared->Prop}{s:Shared}(h:wpAny M A t Q E s)(hQ:∀a s,Q a s->Q' a s):wpAny M A t Q' E s:=wpAny_mono h hQ λ_ _ x=>x
section
variable{X:Cx}
inductive tVar(i:Nat)(σ:St)(H:Hp)(Q:VK):Prop
 |mk:∀v,(σ[i]? =some (some v))->(Q v H)->tVar i σ H Q
def tC(v:V):TE:=λ_ H Q=>Q v H
theorem YH{i:Nat}{x:Str}{pos:Pos}(hN:X.N[i]? =some x)(hv:Vis X.env.scope x)(hd:(x==("__debug__":Str))=false:=by decide)(hcd:(x==("__classdict__":Str))=false:=by decide):PE X (.Name x pos) (tVar i):=by
 intro pins s σ H Q I h
 obtain⟨v,e,h⟩:=h
 obtain⟨m,hn,hl⟩:=I.loc
 obtain⟨u,r,l⟩:=hl i x v hN e hv
 have fin:EP X pins σ Q u s:=⟨v,H,I,r,h⟩
 rcases l with⟨hk,hm⟩|⟨hk,c,hc,hcell⟩
 ·exact wpAny_Name (wpAny_loadName_local I.ok.kind hk hn hm fin) hd
 ·rcases hk with hk|hk
  ·exact wpAny_Name (wpAny_loadName_cell I.ok.kind hk hc hcell fin) hd
  ·exact wpAny_Name (wpAny_loadName_free I.ok.kind hk hc hcell fin hcd) hd
theorem A9{i j pos}:PE X (.Constant (.int i) j pos) (tC (.int i)):=λ_ _ _ H _ I h=>wpAny_Constant_int ⟨.int i,H,I.tok _,⟨_,rfl⟩,h⟩
theorem K9{b j pos}:PE X (.Constant (.bool b) j pos) (tC (.bl b)):=λ_ _ _ H _ I h=>Constant_bool ⟨.bl b,H,I,rfl,h⟩
theorem IA{j pos}:PE X (.Constant .none j pos) (tC .non):=λ_ _ _ H _ I h=>Constant_none ⟨.non,H,I,rfl,h⟩
theorem B9{x j pos}:PE X (.Constant (.str x) j pos) (tC (.str x)):=λ_ _ _ H _ I h=>Calls.Constant_str ⟨.str x,H,I.tok _,⟨_,rfl⟩,h⟩
def Gl(X:Cx)(x:Str):Prop:=X.env.kindOf x=some .globalImplicit
theorem AG{E:Value->Shared->Prop}{pins:List (Addr×Obj)}{s:Shared}{σ:St}{H:Hp}{x:Str}{u:Value}{pos:Pos}{Q:Value->Shared->Prop}(I:Inv X pins σ H s)(hg:Gl X x)(hm:X.mg x=some u)(h:Q u s)
  (hd:(x==("__debug__":Str))=false:=by decide):wpAny (model X.prog X.w) X.A (eval (.Name x pos) X.env) Q E s:=
 Calls.Name_function_global I.ok.kind hg (Calls.loadGlobal_global (by rw[I.ok.glob];exact I.mod.glob.keeps I.bk) hm h) hd
theorem U0{E:Value->Shared->Prop}{pins:List (Addr×Obj)}{s:Shared}{σ:St}{H:Hp}{x:Str}{u:Value}{pos:Pos}{Q:Value->Shared->Prop}(I:Inv X pins σ H s)(hg:Gl X x)(hm:X.mg x=none)(hv:bootBuiltins x=some u)(h:Q u s)
  (hn:x≠ "__name__":=by decide)(hd:(x==("__debug__":Str))=false:=by decide):wpAny (model X.prog X.w) X.A (eval (.Name x pos) X.env) Q E s:=by
 obtain⟨mb,h1,h2⟩:=I.mod.blt
 exact Calls.Name_function_global I.ok.kind hg (Calls.loadGlobal_builtin (by rw[I.ok.glob];exact I.mod.glob.keeps I.bk) hm (by rw[I.ok.blt];exact h1.keeps I.bk) ((h2 x hn).trans hv) h) hd
theorem T1{x:Str}{v:V}{u:Value}{pos:Pos}(hg:Gl X x)(hm:X.mg x=some u)(r:RelV v u)(hd:(x==("__debug__":Str))=false:=by decide):PE X (.Name x pos) (tC v):=
 λ_ _ _ H _ I h=>AG I hg hm ⟨v,H,I,r,h⟩ hd
theorem DR{x:Str}{v:V}{u:Value}{pos:Pos}(hg:Gl X x)(hm:X.mg x=none)(hv:bootBuiltins x=some u)(r:RelV v u)(hn:x≠ "__name__":=by decide)(hd:(x==("__debug__":Str))=false:=by decide):PE X (.Name x pos) (tC v):=
 λ_ _ _ H _ I h=>U0 I hg hm hv ⟨v,H,I,r,h⟩ hn hd
variable{a b:Expr}{ta tb:TE}{pos:Pos}
variable{tA tB':TT}{rest:List Expr}
def axZ(t u:TT):TT:=fun σ H Q=>t σ H λc H1=>if c=true then u σ H1 Q else Q false H1
def tOr(t u:TT):TT:=fun σ H Q=>t σ H λc H1=>if c=true then Q true H1 else u σ H1 Q
def avZ(t:TT):TT:=fun σ H Q=>t σ H λc H1=>Q (!c) H1
theorem UB(ha:PT X a tA):PW X (.BoolOp .And [a] pos) tA:=by
 intro wh pins s σ H Q I h
 refine isTrue_and (thn (ha pins s σ H Q I h) λc s1 e=> ?_)
 cases c with
 |true=>exact isTrue_and_nil e
 |false=>exact e
theorem HM(ha:PT X a tA):PW X (.BoolOp .Or [a] pos) tA:=by
 intro wh pins s σ H Q I h
 refine isTrue_or (thn (ha pins s σ H Q I h) λc s1 e=> ?_)
 cases c with
 |false=>exact isTrue_or_nil e
 |true=>exact e
theorem XZ(ha:PT X a tA)(hb:PW X (.BoolOp .And (b::rest) pos) tB'):PW X (.BoolOp .And (a::b::rest) pos) (axZ tA tB'):=by
 intro wh pins s σ H Q I h
 refine isTrue_and (thn (ha pins s σ H _ I h) λc s1 ⟨H1,I1,q1⟩=> ?_)
 cases c with
 |true=>exact hb wh pins s1 σ H1 Q I1 q1
 |false=>exact⟨H1,I1,q1⟩
theorem KH(ha:PT X a tA)(hb:PW X (.BoolOp .Or (b::rest) pos) tB'):PW X (.BoolOp .Or (a::b::rest) pos) (tOr tA tB'):=by
 intro wh pins s σ H Q I h
 refine isTrue_or (thn (ha pins s σ H _ I h) λc s1 ⟨H1,I1,q1⟩=> ?_)
 cases c with
 |true=>exact⟨H1,I1,q1⟩
 |false=>exact hb wh pins s1 σ H1 Q I1 q1
theorem X0(ha:PT X a tA):PT X (.UnaryOp .Not a pos) (avZ tA):=by
 intro pins s σ H Q I h
 exact isTrue_not (ha pins s σ H (λc H1=>Q (!c) H1) I h)
def akZ(ta tb:TE):TE:=fun σ H Q=>ta σ H λx H1=>∃c,x=.bl c/\if c=true then tb σ H1 Q else Q (.bl false) H1
def awZ(ta tb:TE):TE:=fun σ H Q=>ta σ H λx H1=>∃c,x=.bl c/\if c=true then Q (.bl true) H1 else tb σ H1 Q
def agZ(ta:TE):TE:=fun σ H Q=>ta σ H λx H1=>∃c,x=.bl c/\Q (.bl (!c)) H1
theorem SU{op}{t:TE}(h:PE X a t):PE X (.BoolOp op [a] pos) t:=λpins s σ H Q I hw=>BoolOp_one (h pins s σ H Q I hw)
theorem RU(ha:PE X a ta)(hb:PE X (.BoolOp .And (b::rest) pos) tb):PE X (.BoolOp .And (a::b::rest) pos) (akZ ta tb):=by
 intro pins s σ H Q I h
 refine BoolOp_and (thn (ha pins s σ H _ I h) λv s1 ⟨x,H1,I1,r1,q1⟩=> ?_)
 obtain⟨c,rfl,q1⟩:=q1
 cases r1
 refine wpAny_truthy_bool ?_
 cases c with
 |true=>exact hb pins s1 σ H1 Q I1 q1
 |false=>exact⟨.bl false,H1,I1,rfl,q1⟩
theorem VJ(ha:PE X a ta)(hb:PE X (.BoolOp .Or (b::rest) pos) tb):PE X (.BoolOp .Or (a::b::rest) pos) (awZ ta tb):=by
 intro pins s σ H Q I h
 refine BoolOp_or (thn (ha pins s σ H _ I h) λv s1 ⟨x,H1,I1,r1,q1⟩=> ?_)
 obtain⟨c,rfl,q1⟩:=q1
 cases r1
 refine wpAny_truthy_bool ?_
 cases c with
 |false=>exact hb pins s1 σ H1 Q I1 q1
 |true=>exact⟨.bl true,H1,I1,rfl,q1⟩
theorem XB(ha:PE X a ta):PE X (.UnaryOp .Not a pos) (agZ ta):=by
 intro pins s σ H Q I h
 refine UnaryOp_ (thn (ha pins s σ H _ I h) λv s1 ⟨x,H1,I1,r1,q1⟩=> ?_)
 obtain⟨c,rfl,q1⟩:=q1
 cases r1
 exact not_of (wpAny_truthy_bool ⟨.bl (!c),H1,I1,rfl,q1⟩)
end
def SqL(K:FZ)(H:Hp)(a:Addr)(xs:List V):Prop:=
 Rd H a (.lst xs)\/
  ∃(o:Obj) (its:Array Value) (n:Nat),K.lookup a=some o/\o.cls=.type "list"/\o.dict=none/\o.data=.seq its n/\its.size<=sizeLine/\Vals xs its.toList
def SqT(K:FZ)(H:Hp)(a:Addr)(xs:List V):Prop:=
 Rd H a (.tup xs)\/
  ∃(o:Obj) (its:Array Value) (n:Nat),K.lookup a=some o/\o.cls=.type "tuple"/\o.data=.seq its n/\its.size<=sizeLine/\Vals xs its.toList
def aAZ:Value->Option V
 | .none=>some .non
 | .bool b=>some (.bl b)
 | .int i _=>some (.int i)
 | .str x _=>some (.str x)
 | .bytes b _=>some (.byt b)
 | .float b _=>some (.flt b)
 | .ref a=>some (.ref a)
 | .type n=>some (.ty n)
 |_=>none
theorem RelV.abs{x:V}{u:Value}(r:RelV x u):aAZ u=some x:=by
 cases x with
 |non=>cases r;rfl
 |bl _=>cases r;rfl
 |int _=>obtain⟨t,rfl⟩:=r;rfl
 |str _=>obtain⟨t,rfl⟩:=r;rfl
 |byt _=>obtain⟨t,rfl⟩:=r;rfl
 |flt _=>obtain⟨t,rfl⟩:=r;rfl
 |ref _=>cases r;rfl
 |ty _=>cases r;rfl
theorem RelV.inj{x y:V}{u:Value}(r:RelV x u)(q:RelV y u):x=y:=Option.some.inj (r.abs.symm.trans q.abs)
theorem Vals.inj:∀ {xs ys:List V} {us:List Value},Vals xs us->Vals ys us->xs=ys
 |_,_,_,.nil,.nil=>rfl
 |_,_,_,.cons r t,.cons r' t'=>by rw[r.inj r',Vals.inj t t']
section
variable{X:Cx}{pins:List (Addr×Obj)}{σ:St}{H:Hp}{s:Shared}{a:Addr}{xs ys:List V}
theorem SqL.of{K:FZ}(h:H a=some (.lst xs)):SqL K H a xs:=.inl (.inl h)
theorem SqT.of{K:FZ}(h:H a=some (.tup xs)):SqT K H a xs:=.inl (.inl h)
theorem Inv.list(I:Inv X pins σ H s)(h:SqL X.K H a xs):∃its:List Value,Vals xs its/\PlainL s.heap a its.toArray/\xs.length<=sizeLine:=by
 rcases h with h|⟨o,its,n,hk,hc,hd,hs,hz,r⟩
 ·obtain⟨z,its,n,r,e⟩:=h.ok I.hok
  exact⟨its,r,⟨_,n,e,rfl,rfl,rfl⟩,z⟩
 ·refine⟨its.toList,r,⟨o,n,I.kIn a o hk,hc,hd,by simpa using hs⟩, ?_⟩
  have e:=r.length
  simp only[Array.length_toList]at e
  omega
theorem Inv.tuple(I:Inv X pins σ H s)(h:SqT X.K H a xs):∃its:List Value,Vals xs its/\IsTup s.heap a its.toArray/\xs.length<=sizeLine:=by
 rcases h with h|⟨o,its,n,hk,hc,hs,hz,r⟩
 ·obtain⟨z,its,r,p⟩:=h.ok I.hok
  exact⟨its,r,p,z⟩
 ·refine⟨its.toList,r,⟨o,I.kIn a o hk,hc,n,by simpa using hs⟩, ?_⟩
  have e:=r.length
  simp only[Array.length_toList]at e
  omega
theorem Inv.list_inj(I:Inv X pins σ H s)(h:SqL X.K H a xs)(h':SqL X.K H a ys):xs=ys:=by
 obtain⟨its,r,⟨o,n,e,_,_,d⟩,_⟩:=I.list h
 obtain⟨its',r',⟨o',n',e',_,_,d'⟩,_⟩:=I.list h'
 rw[e]at e';cases e'
 rw[d]at d'
 injection d' with d1 _
 have:its=its':=by simpa using congrArg Array.toList d1
 subst this
 exact r.inj r'
theorem Inv.tuple_inj(I:Inv X pins σ H s)(h:SqT X.K H a xs)(h':SqT X.K H a ys):xs=ys:=by
 obtain⟨its,r,⟨o,e,_,n,d⟩,_⟩:=I.tuple h
 obtain⟨its',r',⟨o',e',_,n',d'⟩,_⟩:=I.tuple h'
 rw[e]at e';cases e'
 rw[d]at d'
 injection d' with d1 _
 have:its=its':=by simpa using congrArg Array.toList d1
 subst this
 exact r.inj r'
end
abbrev Cx.wish(X:Cx)(E:Value->Shared->Prop):Cx:={X with xe:=E}
abbrev Cx.nox(X:Cx):Cx:=X.wish λ_ _=>False
theorem Cx.Ok.wish{X:Cx}(ok:X.Ok)(E:Value->Shared->Prop):(X.wish E).Ok:=
 ⟨ok.mod,ok.kind,ok.glob,ok.blt,ok.above,ok.inj,ok.has,ok.cab,ok.hd,ok.frames,ok.stk,ok.exf,ok.bs,ok.bsz,ok.noex,ok.exfs,ok.funs,ok.frf⟩
theorem Cx.Ok.unwish{X:Cx}{E:Value->Shared->Prop}(ok:(X.wish E).Ok):X.Ok:=
 ⟨ok.mod,ok.kind,ok.glob,ok.blt,ok.above,ok.inj,ok.has,ok.cab,ok.hd,ok.frames,ok.stk,ok.exf,ok.bs,ok.bsz,ok.noex,ok.exfs,ok.funs,ok.frf⟩
section
variable{X:Cx}{pins:List (Addr×Obj)}{σ:St}{H:Hp}{s:Shared}{E:Value->Shared->Prop}
theorem Inv.wish(I:Inv X pins σ H s)(E:Value->Shared->Prop):Inv (X.wish E) pins σ H s:=⟨I.ok.wish E,I.os,I.bare,I.base,I.loc,I.cell,I.free,I.freeC,I.pin,I.hok,I.len⟩
theorem Inv.unwish(I:Inv (X.wish E) pins σ H s):Inv X pins σ H s:=⟨I.ok.unwish,I.os,I.bare,I.base,I.loc,I.cell,I.free,I.freeC,I.pin,I.hok,I.len⟩
theorem SP.unwish{D:Ends}{f:Flow}{s':Shared}(h:SP (X.wish E) pins D f s'):SP X pins D f s':=by
 cases f with
 |next=>obtain⟨σ',H',I,q⟩:=h;exact⟨σ',H',I.unwish,q⟩
 |brk=>obtain⟨σ',H',I,q⟩:=h;exact⟨σ',H',I.unwish,q⟩
 |cont=>obtain⟨σ',H',I,q⟩:=h;exact⟨σ',H',I.unwish,q⟩
 |ret u=>obtain⟨v,σ',H',I,r,q⟩:=h;exact⟨v,σ',H',I.unwish,r,q⟩
theorem PSs.nox{st:List Stmt}{t:TS}(h:PSs X.nox st t):PSs X st t:=λpins s σ H D I hw=>
 wpAny_mono (h pins s σ H D (I.wish _) hw) (λ_ _ q=>q.unwish) λ_ _ z=>False.elim z
variable{st:Stmt}{rest:List Stmt}{t u:TS}{e:Expr}{te:TE}{pos:Pos}
def atZ:TS:=λD σ H=>D.nx σ H
def GD(t u:TS):TS:=λD σ H=>t {D with nx:=u D} σ H
theorem C2:PSs X [] atZ:=λ_ _ σ H _ I h=>wpAny_execs_nil ⟨σ,H,I,h⟩
theorem A7(h1:PS X st t)(h2:PSs X rest u):PSs X (st::rest) (GD t u):=by
 intro pins s σ H D I h
 refine wpAny_execs_cons (thn (h1 pins s σ H {D with nx:=u D} I h) λf s1 q=> ?_)
 cases f with
 |next=>
  obtain⟨σ',H',I',q⟩:=q
  exact h2 pins s1 σ' H' D I' q
 |ret v=>exact q
 |brk=>exact q
 |cont=>exact q
theorem A8(h1:PS X st t):PSs X [st] t:=by
 intro pins s σ H D I h
 refine wpAny_execs_cons (thn (h1 pins s σ H D I h) λf s1 q=> ?_)
 cases f with
 |next=>exact wpAny_execs_nil q
 |ret v=>exact q
 |brk=>exact q
 |cont=>exact q
theorem Inv.quiet{pins:List (Addr×Obj)}{σ:St}{H:Hp}{s:Shared}(I:Inv X pins σ H s):interactive X.env=false:=by simp[interactive,I.ok.kind]
def ZA(te:TE):TS:=λD σ H=>te σ H λ_ H1=>D.nx σ H1
theorem O3(he:PE X e te)(hs:swapsWith e none pos.line X.env=pure false:=by rfl):PS X (.Expr e pos) (ZA te):=by
 intro pins s σ H D I h
 exact wpAny_Expr_any (thn (he pins s σ H _ I h) λv s1 ⟨x,H1,I1,r1,q1⟩=>⟨σ,H1,I1,q1⟩) I.quiet hs
def aEZ(te:TE):TS:=λD σ H=>te σ H D.rt
theorem B4(he:PE X e te):PS X (.Return (some e) pos) (aEZ te):=by
 intro pins s σ H D I h
 exact wpAny_Return_some (thn (he pins s σ H _ I h) λv s1 ⟨x,H1,I1,r1,q1⟩=>⟨x,σ,H1,I1,r1,q1⟩)
def aVZ(c:TT)(t u:TS):TS:=λD σ H=>c σ H λb H1=>if b=true then t D σ H1 else u D σ H1
theorem D6{c:Expr}{a b:List Stmt}{tc:TT}(hc:PT X c tc)(ha:PSs X a t)(hb:PSs X b u):PS X (.If c a b pos) (aVZ tc t u):=by
 intro pins s σ H D I h
 refine wpAny_If (thn (hc pins s σ H _ I h) λd s1 ⟨H1,I1,q1⟩=> ?_)
 cases d with
 |true=>exact ha pins s1 σ H1 D I1 q1
 |false=>exact hb pins s1 σ H1 D I1 q1
end
abbrev TG:=V->St->Hp->(St->Hp->Prop)->Prop
abbrev TGs:=List V->St->Hp->(St->Hp->Prop)->Prop
def PG(X:Cx)(target:Expr)(t:TG):Prop:=
 ∀(pins:List (Addr×Obj)) (s:Shared) (σ:St) (H:Hp) (v:V) (u:Value) (Q:St->Hp->Prop),Inv X pins σ H s->RelV v u->t v σ H Q->
  wpAny (model X.prog X.w) X.A (assign target X.env u) (λ_ s'=>∃σ' H',Inv X pins σ' H' s'/\Q σ' H') X.xe s
def PGs(X:Cx)(ts:List Expr)(t:TGs):Prop:=
 ∀(pins:List (Addr×Obj)) (s:Shared) (σ:St) (H:Hp) (vs:List V) (us:List Value) (Q:St->Hp->Prop),Inv X pins σ H s->Vals vs us->t vs σ H Q->
  wpAny (model X.prog X.w) X.A (assignInOrder ((assignEach ts X.env).map (·.2)) us) (λ_ s'=>∃σ' H',Inv X pins σ' H' s'/\Q σ' H') X.xe s
abbrev WM:=V->V->V->Hp->(Hp->Prop)->Prop
def YY(X:Cx)(t:WM):Prop:=
 ∀(pins:List (Addr×Obj)) (s:Shared) (σ:St) (H:Hp) (o i v:V) (ov iv u:Value) (Q:Hp->Prop),Inv X pins σ H s->RelV o ov->RelV i iv->RelV v u->t o i v H Q->
  wpAny (model X.prog X.w) X.A (setItem ov iv u) (λ_ s'=>∃H',Inv X pins σ H' s'/\Q H') X.xe s
abbrev TIp:=V->V->Hp->VK->Prop
def PIp(X:Cx)(op:Operator)(t:TIp):Prop:=
 ∀(pins:List (Addr×Obj)) (s:Shared) (σ:St) (H:Hp) (x y:V) (v u:Value) (Q:VK),Inv X pins σ H s->RelV x v->RelV y u->t x y H Q->
  wpAny (model X.prog X.w) X.A (inplaceOp op v u) (EP X pins σ Q) X.xe s
section
variable{X:Cx}{pos:Pos}
def KK(i:Nat):TG:=λv σ H Q=>Q (σ.set i (some v)) H
theorem K6{i:Nat}{x:Str}(hN:X.N.Nodup)(hi:X.N[i]? =some x)(hx:Loc X.env.scope x)(hf:X.fn x=true\/X.env.scope.names.lookup x=some .local:=by first|exact .inl rfl|exact .inr rfl|assumption):PG X (.Name x pos) (KK i):=by
 intro pins s σ H v u Q I r h
 exact wpAny_assign_Name (V2 I hN hi hx r (λs' I'=>⟨_,H,I',h⟩) hf)
def ZV:TGs:=λvs σ H Q=>vs=[]/\Q σ H
def SH(t:TG)(u:TGs):TGs:=λvs σ H Q=>∃v r,vs=v::r/\t v σ H fun σ' H'=>u r σ' H' Q
theorem DN:PGs X [] ZV:=by
 intro pins s σ H vs us Q I r h
 obtain⟨e,h⟩:=h
 subst e
 cases r
 exact assignInOrder_nil ⟨σ,H,I,h⟩
theorem O9{e:Expr}{es:List Expr}{t:TG}{u:TGs}(h1:PG X e t)(h2:PGs X es u)
  (hs:(assignEach (e::es) X.env).map (·.2)=assign e X.env::(assignEach es X.env).map (·.2):=by rfl):PGs X (e::es) (SH t u):=by
 intro pins s σ H vs us Q I r h
 obtain⟨v,vr,e1,h⟩:=h
 subst e1
 cases r with
 |cons r rr=>
  rw[hs]
  refine assignInOrder_cons (thn (h1 pins s σ H _ _ _ I r h) λ_ s1 ⟨σ1,H1,I1,q1⟩=> ?_)
  exact h2 pins s1 σ1 H1 _ _ Q I1 rr q1
def ZG(K:FZ)(n:Nat)(t:TGs):TG:=λv σ H Q=>∃a xs,v=.ref a/\SqT K H a xs/\xs.length=n/\t xs σ H Q
theorem HS{es:List Expr}{k:Nat}{t:TGs}{n:Nat}(hc:X.calm=true)(h:PGs X es t)
  (hn:(assignEach es X.env).length=n:=by rfl)(hst:(assignEach es X.env).findIdx? (·.1)=none:=by rfl):PG X (.Tuple es k pos) (ZG X.K n t):=by
 intro pins s σ H v u Q I r hw
 obtain⟨a,xs,e1,hq,hl,hw⟩:=hw
 subst e1
 cases r
 obtain⟨its,rv,ht,hz⟩:=I.tuple hq
 refine assign_Tuple_tuple (I.ok.hd hc) ht (by simp[hn,<-hl,rv.length]) hst λh' hx=> ?_
 have I1:Inv X pins σ H {s with heap:=h'}:=I.kept (t':=s.toks) λb o e=>hx b o (ne_of_lt (lt_size e)) e
 exact h pins _ σ H xs _ Q I1 (by simpa using rv) hw
def azZ(to ti:TE)(t:WM):TG:=λv σ H Q=>to σ H λo H1=>ti σ H1 λi H2=>t o i v H2 λH3=>Q σ H3
theorem BC{o i:Expr}{to ti:TE}{t:WM}(ho:PE X o to)(hi:PE X i ti)(hs:YY X t)
  (ha:∀v,assign (.Subscript o i pos) X.env v=(do
   let ov<-holding [v] (eval o X.env)
   let iv<-holding [v,ov] (eval i X.env)
   standAt pos
   holding [v,ov,iv] (setItem ov iv v)
   release [v,ov,iv] []):=by intro _;rfl):PG X (.Subscript o i pos) (azZ to ti t):=by
 intro pins s σ H v u Q I r h
 rw[ha]
 refine bZ (wpAny_holding (thn (ho pins s σ H _ I h) λov s1 ⟨x,H1,I1,r1,q1⟩=> ?_))
 refine bZ (wpAny_holding (thn (hi pins s1 σ H1 _ I1 q1) λiv s2 ⟨y,H2,I2,r2,q2⟩=> ?_))
 refine bZ (wpAny_standAt (bZ (wpAny_holding (thn (hs pins s2 σ H2 x y v ov iv u _ I2 r1 r2 r q2) λ_ s3 ⟨H3,I3,q3⟩=> ?_))))
 exact wpAny_release ⟨σ,H3,I3,q3⟩
def XQ(te:TE)(g:TG):TS:=λD σ H=>te σ H λx H1=>g x σ H1 D.nx
theorem BG{tg e:Expr}{te:TE}{g:TG}(he:PE X e te)(hg:PG X tg g)(hs:swapsWithSole [tg] e pos.line X.env=pure false:=by rfl)(hw:swappedStores [tg] e X.env=pure none:=by rfl)
  (h1:(assignEach [tg] X.env).map (·.2)=[assign tg X.env]:=by rfl):PS X (.Assign [tg] e pos) (XQ te g):=by
 intro pins s σ H D I h
 refine wpAny_Assign_stores (thn (he pins s σ H _ I h) λv s1 ⟨x,H1,I1,r1,q1⟩=> ?_) hs hw
 rw[h1]
 exact thn (hg pins s1 σ H1 x v _ I1 r1 q1) λ_ s2 q=>q
theorem C7{i:Nat}{x:Str}{e:Expr}{te:TE}{pos':Pos}(hN:X.N.Nodup)(hi:X.N[i]? =some x)(hx:Loc X.env.scope x)(he:PE X e te)(hs:swapsWith e (some (.Name x pos')) pos.line X.env=pure false:=by rfl)(hf:X.fn x=true\/X.env.scope.names.lookup x=some .local:=by first|exact .inl rfl|exact .inr rfl|assumption):
  PS X (.Assign [.Name x pos'] e pos) (XQ te (KK i)):=by
 intro pins s σ H D I h
 refine wpAny_Assign_Name (thn (he pins s σ H _ I h) λv s1 ⟨y,H1,I1,r1,q1⟩=> ?_) hs
 exact V2 I1 hN hi hx r1 (λs2 I2=>⟨_,H1,I2,q1⟩) hf
def ayZ(i:Nat)(te:TE)(ti:TIp):TS:=λD σ H=>∃x,σ[i]? =some (some x)/\te σ H λy H1=>ti x y H1 λz H2=>D.nx (σ.set i (some z)) H2
theorem WH{i:Nat}{x:Str}{e:Expr}{te:TE}{op:Operator}{ti:TIp}{pos':Pos}(hN:X.N.Nodup)(hi:X.N[i]? =some x)(hx:Loc X.env.scope x)(he:PE X e te)(ho:PIp X op ti)(hf:X.fn x=true\/X.env.scope.names.lookup x=some .local:=by first|exact .inl rfl|exact .inr rfl|assumption):
  PS X (.AugAssign (.Name x pos') op e pos) (ayZ i te ti):=by
 intro pins s σ H D I h
 obtain⟨v,e1,h⟩:=h
 obtain⟨m,hn,hl⟩:=I.loc
 have vis:Vis X.env.scope x:=by rcases hx with k|k;exact .inl k;exact .inr (.inl k)
 obtain⟨u,r,l⟩:=hl i x v hi e1 vis
 refine wpAny_AugAssign_Name ?_
 have go:wpAny (model X.prog X.w) X.A (eval e X.env) (λw s₂=>wpAny (model X.prog X.w) X.A (inplaceOp op u w) (λr s₃=>wpAny (model X.prog X.w) X.A (storeName X.env x r) (λ_=>SP X pins D .next) X.xe s₃) X.xe s₂) X.xe s:=by
  refine thn (he pins s σ H _ I h) λw s1 ⟨y,H1,I1,r1,q1⟩=> ?_
  refine thn (ho pins s1 σ H1 v y u w _ I1 r r1 q1) λz s2 ⟨zv,H2,I2,r2,q2⟩=> ?_
  exact V2 I2 hN hi hx r2 (λs3 I3=>⟨_,H2,I3,q2⟩) hf
 rcases l with⟨hk,hm⟩|⟨hk,c,hc,hcell⟩
 ·exact wpAny_loadName_local I.ok.kind hk hn hm go
 ·rcases hk with hk|hk
  ·exact wpAny_loadName_cell I.ok.kind hk hc hcell go
  ·rcases hx with k|k
   ·have:X.env.scope.names.lookup x=some .free:=hk
    rw[k]at this;cases this
   ·have:X.env.scope.names.lookup x=some .free:=hk
    rw[k]at this;cases this
def ipI(f:Int->Int->Int):TIp:=λx y H Q=>∃i j,x=.int i/\y=.int j/\Q (.int (f i j)) H
theorem WL:PIp X .Add (ipI λi j=>i+j):=by
 intro pins s σ H x y v u Q I r1 r2 h
 obtain⟨i,j,e1,e2,q⟩:=h
 subst e1;subst e2
 obtain⟨t,rfl⟩:=r1
 obtain⟨t',rfl⟩:=r2
 exact iadd_int ⟨.int _,H,I.tok _,⟨_,rfl⟩,q⟩
def WY(c:TT)(tb:TS):TS:=λD σ H=>∃W:Nat->St->Hp->Prop,(∃m,W m σ H)/\∀m σ H,W m σ H->
 c σ H λb H1=>if b=true then∃N:St->Hp->Prop,(∀σ' H',N σ' H'->∃m',m'<m/\W m' σ' H')/\tb {D with nx:=N,ct:=N,bk:=D.nx} σ H1 else D.nx σ H1
theorem Z5{c:Expr}{body:List Stmt}{tc:TT}{tb:TS}(hp:PassesOwn (model X.prog X.w) X.A X.env X.xe)(hc:PT X c tc)(hb:PSs X body tb):PS X (.While c body [] pos) (WY tc tb):=by
 intro pins s σ H D I h
 obtain⟨W,⟨m0,w0⟩,turn⟩:=h
 refine wpAny_While (codeAny_whileLoop (λn s'=>∃σ' H',Inv X pins σ' H' s'/\W n σ' H') ?_ m0 ⟨σ,H,I,w0⟩)
 rintro n s1 ⟨σ1,H1,I1,w1⟩
 refine wpAny_passesOwn hp (thn (hc pins s1 σ1 H1 _ I1 (turn n σ1 H1 w1)) λb s2 ⟨H2,I2,q2⟩=> ?_)
 cases b with
 |true=>
  obtain⟨N,hN,q2⟩:=q2
  rw[if_pos rfl]
  refine wpAny_passesOwn hp (thn (hb pins s2 σ1 H2 _ I2 q2) λf s3 q3=> ?_)
  cases f with
  |next=>
   obtain⟨σ3,H3,I3,n3⟩:=q3
   obtain⟨m',hm,w3⟩:=hN σ3 H3 n3
   exact⟨m',hm,σ3,H3,I3,w3⟩
  |cont=>
   obtain⟨σ3,H3,I3,n3⟩:=q3
   obtain⟨m',hm,w3⟩:=hN σ3 H3 n3
   exact⟨m',hm,σ3,H3,I3,w3⟩
  |brk=>exact q3
  |ret v=>exact q3
 |false=>
  rw[if_neg nZ]
  exact wpAny_execs_nil ⟨σ1,H2,I2,q2⟩
end
structure It where
 go:Nat->Hp->Prop
 yld:Nat->Hp->V->Hp->Prop
 stop:Nat->Hp->Prop
def DJ(X:Cx)(pins:List (Addr×Obj))(H:Hp)(b:Addr):Prop:=
 H b=none/\b≠X.env.locals/\b∉X.fs/\(b∈X.ex\/X.s₀.heap.objs.size<=b)/\(∀x c,X.env.cells.lookup x=some c->c≠b)/\∀p∈X.pn++pins,p.1≠b
theorem Inv.fpOk{X:Cx}{pins:List (Addr×Obj)}{σ:St}{H H':Hp}{s:Shared}{b:Addr}(I:Inv X pins σ H s)(hb:s.heap.objs.size<=b)(hn:H' b=none):DJ X pins H' b:=by
 refine⟨hn,ne_of_gt (lt_of_lt_of_le I.lt hb),I.nofs hb,.inr (le_trans I.sz hb),λx c e z=> ?_,λp hp z=> ?_⟩
 ·obtain⟨v,q⟩:=I.cell x c e
  exact absurd (lt_of_lt_of_le q.lt (by rw[z];exact hb)) (lt_irrefl _)
 ·exact absurd (lt_of_lt_of_le (lt_size (I.pin p hp).1) (by rw[z];exact hb)) (lt_irrefl _)
structure Turn (P:Program) (w:World) (K:FZ) (tg:Expr) (J:It) (fp:List Addr) (it:Addr) (tn:Nat->Heap->Prop):Prop where
 mem:it∈fp
 obj:∀i h,tn i h->∀b∈fp,∃o,h.get? b=some o/\∀v,o.data≠ .cell v
 keep:∀i h h',tn i h->(∀b∈fp,∀o,h.get? b=some o->h'.get? b=some o)->tn i h'
 item:∀(X:Cx),X.prog=P->X.w=w->X.K=K->X.calm=true->∀(i:Nat) (pins:List (Addr×Obj)) (s:Shared) (σ:St) (H:Hp) (E:Value->Shared->Prop),Inv X pins σ H s->(∀b∈fp,DJ X pins H b)->tn i s.heap->J.go i H->
  wpAny (model P w) X.A (pyNext (.ref it)) (λr s1=>∃u,r=some u/\
   wpAny (model P w) X.A (letOwnedTupleGo tg (.ref it) u) (λ_ s2=>∃x H',Inv X pins σ H' s2/\RelV x u/\J.yld i H x H'/\tn (i+1) s2.heap/\∀b∈fp,H' b=none) E s1) E s
 done:∀(X:Cx),X.prog=P->X.w=w->X.K=K->X.calm=true->∀(i:Nat) (pins:List (Addr×Obj)) (s:Shared) (σ:St) (H:Hp) (E:Value->Shared->Prop),Inv X pins σ H s->(∀b∈fp,DJ X pins H b)->tn i s.heap->J.stop i H->
  wpAny (model P w) X.A (pyNext (.ref it)) (λr s1=>r=none/\Inv X pins σ H s1) E s
 self:∀(A:Around) (i:Nat) (s:Shared) (Q:Value->Shared->Prop) (E:Value->Shared->Prop),tn i s.heap->Q (.ref it) s->wpAny (model P w) A (pyIter (.ref it)) Q E s
abbrev TI:=St->Hp->(It->Hp->Prop)->Prop
def PIE(X:Cx)(pins:List (Addr×Obj))(σ:St)(tg:Expr)(R:It->Hp->Prop)(itv:Value)(s2:Shared):Prop:=
 ∃(it:Addr) (fp:List Addr) (tn:Nat->Heap->Prop) (J:It) (H':Hp),itv=.ref it/\Inv X pins σ H' s2/\Turn X.prog X.w X.K tg J fp it tn/\tn 0 s2.heap/\(∀b∈fp,DJ X pins H' b)/\R J H'
def PI(X:Cx)(tg iter:Expr)(wi:TI):Prop:=
 ∀(pins:List (Addr×Obj)) (s:Shared) (σ:St) (H:Hp) (R:It->Hp->Prop),Inv X pins σ H s->wi σ H R->
  wpAny (model X.prog X.w) X.A (eval iter X.env) (λv s1=>wpAny (model X.prog X.w) X.A (pyIter v) (PIE X pins σ tg R) X.xe s1) X.xe s
theorem MW{M:Model}{A:Around}{E:Value->Shared->Prop}{s:Shared}{tg:Expr}{it:Addr}{u:Value}{o:Obj}{n:String}{vs:Array Value}{Q:Unit->Shared->Prop}(ho:s.heap.get? it=some o)(hc:o.cls=.type n)(hd:o.data=.fields vs)
  (hn: ["enumerate","zip","dict_itemiterator","dict_reverseitemiterator","odict_iterator","itertools.zip_longest","itertools.pairwise"].contains n=false)(hQ:Q () s):wpAny M A (letOwnedTupleGo tg (.ref it) u) Q E s:=by
 unfold letOwnedTupleGo
 cases tg<;>first
  |exact pZ hQ
  |(cases u<;>first
    |exact pZ hQ
    |(refine bZ (wpAny_load ho ?_)
      rw[hc,hd]
      show wpAny M A (if(["enumerate","zip","dict_itemiterator","dict_reverseitemiterator","odict_iterator","itertools.zip_longest","itertools.pairwise"].contains n&&vs[0]? ==some (rawInt _))=true then _ else _) Q E s
      rw[if_neg (by intro h;rw[hn,Bool.false_and]at h;cases h)]
      exact pZ hQ))
def Itl(K:FZ)(a:Addr):It:=
 ⟨λi H=>∃xs x,SqL K H a xs/\xs[i]? =some x,λi H x H'=>H'=H/\∀xs,SqL K H a xs->xs[i]? =some x,λi H=>∃xs,SqL K H a xs/\xs.length<=i⟩
def Itt(K:FZ)(a:Addr):It:=
 ⟨λi H=>∃xs x,SqT K H a xs/\xs[i]? =some x,λi H x H'=>H'=H/\∀xs,SqT K H a xs->xs[i]? =some x,λi H=>∃xs,SqT K H a xs/\xs.length<=i⟩
def Itr(lo:Int)(n:Nat):It:=⟨λi _=>i<n,λi H x H'=>H'=H/\x=.int (lo+i),λi _=>n<=i⟩
theorem OE{P:Program}{w:World}{K:FZ}{tg:Expr}(a it:Addr):Turn P w K tg (Itl K a) [it] it (λi h=>h.IsListIter it a i) where
 mem:=by simp
 obj:=λi h st b hb=>by
  have e:b=it:=by simpa using hb
  subst e
  obtain⟨o,e,c,d⟩:=st
  exact⟨o,e,λv z=>by rw[d]at z;cases z⟩
 keep:=λi h h' st k=>st.at λo e=>k it (by simp) o e
 item:=by
  intro X hP hw hK hc i pins s σ H E I hf st hg
  subst hP hw hK
  obtain⟨xs,x,hq,hx⟩:=hg
  obtain⟨its,rv,p,hz⟩:=I.list hq
  obtain⟨u,hu,ru⟩:=rv.get hx
  obtain⟨f0,f1,f2,f3,f4,f5⟩:=hf it (by simp)
  refine wpAny_pyNext_list_item st p.isList (x:=u) (by simpa using hu) λh' st' sb=> ?_
  have I1:Inv X pins σ H {s with heap:=h'}:=I.turned (t':=s.toks) (λb o hb e=>(sb.2 b hb).trans e) f0 f1 f3 f4 f5
  obtain⟨o,e,c,d⟩:=id st'
  exact⟨u,rfl,MW (s:={s with heap:=h'}) e c d (by decide) ⟨x,H,I1,ru,⟨rfl,λys hy=>by rw[I.list_inj hy hq];exact hx⟩,st',λb hb=>(hf b hb).1⟩⟩
 done:=by
  intro X hP hw hK hc i pins s σ H E I hf st hg
  subst hP hw hK
  obtain⟨xs,hq,hx⟩:=hg
  obtain⟨its,rv,p,hz⟩:=I.list hq
  obtain⟨f0,f1,f2,f3,f4,f5⟩:=hf it (by simp)
  have hl:=rv.length
  exact wpAny_pyNext_list_end (I.ok.hd hc) st p.isList (by simp;omega) λh' eb=>⟨rfl,I.turned (t':=s.toks) (λb o hb e=>eb b o hb e) f0 f1 f3 f4 f5⟩
 self:=λ_ _ _ _ _ st h=>wpAny_pyIter_listiter st h
theorem MC{P:Program}{w:World}{K:FZ}{tg:Expr}(a it:Addr):Turn P w K tg (Itt K a) [it] it (λi h=>h.IsTupleIter it a i) where
 mem:=by simp
 obj:=λi h st b hb=>by
  have e:b=it:=by simpa using hb
  subst e
  obtain⟨o,e,c,d⟩:=st
  exact⟨o,e,λv z=>by rw[d]at z;cases z⟩
 keep:=λi h h' st k=>st.at λo e=>k it (by simp) o e
 item:=by
  intro X hP hw hK hc i pins s σ H E I hf st hg
  subst hP hw hK
  obtain⟨xs,x,hq,hx⟩:=hg
  obtain⟨its,rv,p,hz⟩:=I.tuple hq
  obtain⟨u,hu,ru⟩:=rv.get hx
  obtain⟨f0,f1,f2,f3,f4,f5⟩:=hf it (by simp)
  refine wpAny_pyNext_tuple_item st (show s.heap.IsTuple a its.toArray from p) (x:=u) (by simpa using hu) λh' st' sb=> ?_
  have I1:Inv X pins σ H {s with heap:=h'}:=I.turned (t':=s.toks) (λb o hb e=>(sb.2 b hb).trans e) f0 f1 f3 f4 f5
  obtain⟨o,e,c,d⟩:=id st'
  exact⟨u,rfl,MW (s:={s with heap:=h'}) e c d (by decide) ⟨x,H,I1,ru,⟨rfl,λys hy=>by rw[I.tuple_inj hy hq];exact hx⟩,st',λb hb=>(hf b hb).1⟩⟩
 done:=by
  intro X hP hw hK hc i pins s σ H E I hf st hg
  subst hP hw hK
  obtain⟨xs,hq,hx⟩:=hg
  obtain⟨its,rv,p,hz⟩:=I.tuple hq
  obtain⟨f0,f1,f2,f3,f4,f5⟩:=hf it (by simp)
  have hl:=rv.length
  exact wpAny_pyNext_tuple_end (I.ok.hd hc) st (show s.heap.IsTuple a its.toArray from p) (by simp;omega) λh' eb=>⟨rfl,I.turned (t':=s.toks) (λb o hb e=>eb b o hb e) f0 f1 f3 f4 f5⟩
 self:=λ_ _ _ _ _ st h=>wpAny_pyIter_tupleiter st h
theorem LS{P:Program}{w:World}{K:FZ}{tg:Expr}(it:Addr)(lo:Int)(n:Nat):Turn P w K tg (Itr lo n) [it] it (λi h=>IsRangeIter h it (lo+(i:Nat)*1) ((n:Int) - (i:Nat)) 1) where
 mem:=by simp
 obj:=λi h st b hb=>by
  have e:b=it:=by simpa using hb
  subst e
  exact⟨_,st,λv z=>by
   have z':Data.fields _=Data.cell v:=z
   cases z'⟩
 keep:=λi h h' st k=>k it (by simp) _ st
 item:=by
  intro X hP hw hK hc i pins s σ H E I hf st hg
  subst hP hw hK
  obtain⟨f0,f1,f2,f3,f4,f5⟩:=hf it (by simp)
  have W:=Walks.range (prog:=X.prog) (w:=X.w) (I.ok.hd hc) it lo 1 n
  refine W.item i s _ _ hg st λv h' tk hv st' kk=> ?_
  obtain⟨t,rfl⟩:=hv
  have I1:Inv X pins σ H {s with heap:=h',toks:=tk}:=I.turned (λb o hb e=>kk b o (by simpa using hb) e) f0 f1 f3 f4 f5
  refine⟨_,rfl,MW (s:={s with heap:=h',toks:=tk}) (n:="range_iterator") st' rfl rfl (by decide) ⟨.int (lo+i),H,I1,⟨t, ?_⟩,⟨rfl,rfl⟩,st',λb hb=>(hf b hb).1⟩⟩
  rw[Int.mul_one]
 done:=by
  intro X hP hw hK hc i pins s σ H E I hf st hg
  subst hP hw hK
  obtain⟨f0,f1,f2,f3,f4,f5⟩:=hf it (by simp)
  exact wpAny_pyNext_range_end (I.ok.hd hc) st (by have:n<=i:=hg;omega) λh' eb=>⟨rfl,I.turned (t':=s.toks) (λb o hb e=>eb b o hb e) f0 f1 f3 f4 f5⟩
 self:=λ_ _ _ _ _ st h=>wpAny_pyIter_rangeiter st h
section
variable{X:Cx}{tg:Expr}
def VO(K:FZ)(tl:TE):TI:=fun σ H R=>tl σ H λx H1=>∃a,x=.ref a/\(∃xs,SqL K H1 a xs)/\R (Itl K a) H1
def ZM(K:FZ)(tl:TE):TI:=fun σ H R=>tl σ H λx H1=>∃a,x=.ref a/\(∃xs,SqT K H1 a xs)/\R (Itt K a) H1
theorem UH{l:Expr}{tl:TE}(hl:PE X l tl):PI X tg l (VO X.K tl):=by
 intro pins s σ H R I h
 refine thn (hl pins s σ H _ I h) λv s1 ⟨x,H1,I1,r1,q1⟩=> ?_
 obtain⟨a,e,⟨xs,hq⟩,q⟩:=q1
 subst e
 cases r1
 obtain⟨its,rv,p,hz⟩:=I1.list hq
 refine wpAny_pyIter_list p.isList ?_
 refine⟨s1.heap.objs.size,[s1.heap.objs.size],_,_,H1,rfl,I1.kept (t':=s1.toks) λb o e=>gZ _ e,OE a _,⟨_,get?_push_size _ rfl,rfl,rfl⟩,λb hb=> ?_,q⟩
 have e:b=s1.heap.objs.size:=by simpa using hb
 subst e
 exact I1.fpOk (le_refl _) (I1.hok.fresh (le_refl _))
theorem WF{l:Expr}{tl:TE}(hl:PE X l tl):PI X tg l (ZM X.K tl):=by
 intro pins s σ H R I h
 refine thn (hl pins s σ H _ I h) λv s1 ⟨x,H1,I1,r1,q1⟩=> ?_
 obtain⟨a,e,⟨xs,hq⟩,q⟩:=q1
 subst e
 cases r1
 obtain⟨its,rv,p,hz⟩:=I1.tuple hq
 refine wpAny_pyIter_tuple (show s1.heap.IsTuple a its.toArray from p) ?_
 refine⟨s1.heap.objs.size,[s1.heap.objs.size],_,_,H1,rfl,I1.kept (t':=s1.toks) λb o e=>gZ _ e,MC a _,⟨_,get?_push_size _ rfl,rfl,rfl⟩,λb hb=> ?_,q⟩
 have e:b=s1.heap.objs.size:=by simpa using hb
 subst e
 exact I1.fpOk (le_refl _) (I1.hok.fresh (le_refl _))
theorem SQ{pins:List (Addr×Obj)}{σ:St}{H:Hp}{s:Shared}{R:It->Hp->Prop}{E:Value->Shared->Prop}{lo hi:Int}{t u v:Tok}{tk:Nat}(I:Inv X pins σ H s)(h1: -(2^62)<=lo)(h2:lo<2^62)(h3: -(2^62)<=hi)(h4:hi<2^62)
  (q:R (Itr lo (hi - lo).toNat) H):wpAny (model X.prog X.w) X.A (pyIter (.ref s.heap.objs.size)) (PIE X pins σ tg R) E {s with heap:=s.heap.push {cls:=.type "range",data:=.fields #[.int lo t,.int hi u,.int 1 v]},toks:=tk}:=by
 refine wpAny_pyIter_range (IsRange.new ..) (small_one h1 h2 h3 h4) ?_
 have I1:Inv X pins σ H {s with heap:=s.heap.push {cls:=.type "range",data:=.fields #[.int lo t,.int hi u,.int 1 v]},toks:=tk}:=I.kept λb o e=>gZ _ e
 refine⟨(s.heap.push {cls:=.type "range",data:=.fields #[.int lo t,.int hi u,.int 1 v]}).objs.size,[(s.heap.push {cls:=.type "range",data:=.fields #[.int lo t,.int hi u,.int 1 v]}).objs.size],_,_,H,rfl,
  I1.kept (t':=tk) λb o e=>gZ _ e,LS _ lo (hi - lo).toNat, ?_,λb hb=> ?_,q⟩
 ·have e1:lo+((0:Nat):Int)*1=lo:=by simp
  have e2:(((hi - lo).toNat:Nat):Int) - ((0:Nat):Int)=Builtin.Range.rangeSize lo hi 1:=by rw[rangeSize_one];split<;>omega
  show IsRangeIter _ _ (lo+((0:Nat):Int)*1) ((((hi - lo).toNat:Nat):Int) - ((0:Nat):Int)) 1
  rw[e1,e2]
  exact get?_push_size _ rfl
 ·have e:b=(s.heap.push {cls:=.type "range",data:=.fields #[.int lo t,.int hi u,.int 1 v]}).objs.size:=by simpa using hb
  subst e
  exact I1.fpOk (le_refl _) (I1.hok.fresh (le_refl _))
def ZX(ta:TA):TI:=fun σ H R=>ta σ H λvs H1=>∃j:Int,vs=[.int j]/\ -(2^62)<=j/\j<2^62/\R (Itr 0 j.toNat) H1
theorem U8{a:Expr}{ta:TA}{p pos:Pos}(hg:Gl X "range")(hm:X.mg "range"=none)(ha:PA X [a] ta)(hs:starEach [a] X.env=[(false,eval a X.env)]:=by rfl):PI X tg (.Call (.Name "range" p) [a] [] pos) (ZX ta):=by
 intro pins s σ H R I h
 refine Call_ (U0 I hg hm boot_range (callWith_type1 (thn (ha pos pins s σ H _ I h) λus s1 ⟨vs,H1,I1,r1,q1⟩=> ?_) hs rfl))
 obtain⟨j,e,q1,q2,q⟩:=q1
 subst e
 cases r1 with
 |cons r rr=>
  cases rr
  obtain⟨t,rfl⟩:=r
  exact call_range_1 (SQ I1 (by omega) (by omega) q1 q2 (by simpa using q))
def aYZ(wi:TI)(g:TG)(tb:TS):TS:=λD σ H=>wi σ H λJ H1=>∃W:Nat->Nat->St->Hp->Prop,(∃m,W 0 m σ H1)/\∀i m σ H,W i m σ H->
 (J.stop i H/\D.nx σ H)\/(J.go i H/\∃N:St->Hp->Prop,(∀σ' H',N σ' H'->∃m',m'<m/\W (i+1) m' σ' H')/\∀x H',J.yld i H x H'->g x σ H' fun σ2 H2=>tb {D with nx:=N,ct:=N,bk:=D.nx} σ2 H2)
def BI(fp:List Addr)(h:Heap):List (Addr×Obj):=fp.filterMap λb=>(h.get? b).map λo=>(b,o)
theorem O0{fp:List Addr}{h:Heap}{b:Addr}{o:Obj}(hb:b∈fp)(e:h.get? b=some o):(b,o)∈BI fp h:=mem_filterMap.mpr ⟨b,hb,by rw[e];rfl⟩
theorem NK{fp:List Addr}{h:Heap}{p:Addr×Obj}(hp:p∈BI fp h):p.1∈fp/\h.get? p.1=some p.2:=by
 obtain⟨b,hb,e⟩:=mem_filterMap.mp hp
 cases q:h.get? b with
 |none=>rw[q]at e;cases e
 |some o=>
  rw[q]at e
  have e':(b,o)=p:=Option.some.inj e
  subst e'
  exact⟨hb,q⟩
theorem Inv.pinned{pins:List (Addr×Obj)}{σ:St}{H:Hp}{s:Shared}{fp:List Addr}(I:Inv X pins σ H s)(hf:∀b∈fp,DJ X pins H b)(ho:∀b∈fp,∃o,s.heap.get? b=some o/\∀v,o.data≠ .cell v):Inv X (pins++BI fp s.heap) σ H s:=
 I.pins_of λp hp=>(mem_append.mp hp).elim (λz=>I.pin p (mem_append_right _ z)) λz=>by
  obtain⟨hb,e⟩:=NK z
  obtain⟨f0,f1,f2,_⟩:=hf p.1 hb
  obtain⟨o,e',d⟩:=ho p.1 hb
  rw[e]at e';cases e'
  exact⟨e,f0,f1,f2,d⟩
theorem Inv.unpinned{pins pl:List (Addr×Obj)}{σ:St}{H:Hp}{s:Shared}(I:Inv X (pins++pl) σ H s):Inv X pins σ H s:=I.pins_of λp hp=>I.pin p (mem_append_right _ (mem_append_left _ hp))
theorem Z0{iter:Expr}{body:List Stmt}{wi:TI}{g:TG}{tb:TS}{pos:Pos}(hp:PassesOwn (model X.prog X.w) X.A X.env X.xe)(hc:X.calm=true)(hi:PI X tg iter wi)(hg:PG X tg g)(hb:PSs X body tb)
  (hs:∀x,foldedSetIterable iter X.env x=pure x:=by intro _;rfl):PS X (.For tg iter body [] pos) (aYZ wi g tb):=by
 intro pins s σ H D I h
 refine wpAny_For (thn (hi pins s σ H _ I h) λv s1 h1=>thn h1 λitv s2 h2=> ?_) hs
 obtain⟨it,fp,tn,J,H2,e,I2,T,st2,f2,W,⟨m0,w0⟩,turn⟩:=h2
 subst e
 have stat:∀ {H':Hp},(∀b∈fp,H' b=none)->∀b∈fp,DJ X pins H' b:=λhn b hb=>⟨hn b hb,(f2 b hb).2⟩
 refine codeAny_forLoop_any (λn s'=>∃i σ' H',Inv X pins σ' H' s'/\tn i s'.heap/\(∀b∈fp,H' b=none)/\W i n σ' H') ?_ m0 ⟨0,σ,H2,I2,st2,λb hb=>(f2 b hb).1,w0⟩
 rintro n s3 ⟨i,σ3,H3,I3,st3,fr3,w3⟩
 rcases turn i n σ3 H3 w3 with⟨stop,qn⟩|⟨go,N,hN,step⟩
 ·refine wpAny_passesOwn hp (thn (T.done X rfl rfl rfl hc i pins s3 σ3 H3 X.xe I3 (stat fr3) st3 stop) λr s4 ⟨hr,I4⟩=> ?_)
  subst hr
  exact wpAny_execs_nil ⟨σ3,H3,I4,qn⟩
 ·refine wpAny_passesOwn hp (thn (T.item X rfl rfl rfl hc i pins s3 σ3 H3 X.xe I3 (stat fr3) st3 go) λr s4 ⟨u,hr,h4⟩=> ?_)
  subst hr
  refine wpAny_passesOwn hp (thn h4 λ_ s5 ⟨x,H5,I5,r5,y5,st5,fr5⟩=> ?_)
  have I5':=I5.pinned (stat fr5) (T.obj _ _ st5)
  refine wpAny_passesOwn hp (thn (hg _ s5 σ3 H5 x u _ I5' r5 (step x H5 y5)) λ_ s6 ⟨σ6,H6,I6,q6⟩=> ?_)
  refine wpAny_passesOwn hp (thn (hb _ s6 σ6 H6 _ I6 q6) λf s7 q7=> ?_)
  have again:∀ {σ7:St} {H7:Hp},Inv X (pins++BI fp s5.heap) σ7 H7 s7->N σ7 H7->∃m,m<n/\∃i σ' H',Inv X pins σ' H' s7/\tn i s7.heap/\(∀b∈fp,H' b=none)/\W i m σ' H':=λ{σ7 H7} I7 n7=>by
   obtain⟨m',hm,w7⟩:=hN σ7 H7 n7
   refine⟨m',hm,i+1,σ7,H7,I7.unpinned,T.keep _ _ _ st5 λb hb o e=>(I7.pin (b,o) (mem_append_right _ (mem_append_right _ (O0 hb e)))).1,λb hb=> ?_,w7⟩
   obtain⟨o,e,d⟩:=T.obj _ _ st5 b hb
   exact(I7.pin (b,o) (mem_append_right _ (mem_append_right _ (O0 hb e)))).2.1
  cases f with
  |next=>obtain⟨σ7,H7,I7,n7⟩:=q7;exact again I7 n7
  |cont=>obtain⟨σ7,H7,I7,n7⟩:=q7;exact again I7 n7
  |brk=>obtain⟨σ7,H7,I7,q7⟩:=q7;exact⟨σ7,H7,I7.unpinned,q7⟩
  |ret v=>obtain⟨x7,σ7,H7,I7,r7,q7⟩:=q7;exact⟨x7,σ7,H7,I7.unpinned,r7,q7⟩
end
theorem RK{K:FZ}{a:Addr}{xs:List V}{g:TG}{tb:TS}{D:Ends}{σ:St}{H:Hp}(Pv:Nat->St->Hp->Prop)(h0:Pv 0 σ H)(hl:∀i σ H,i<=xs.length->Pv i σ H->SqL K H a xs)
  (hs:∀i x σ H,xs[i]? =some x->Pv i σ H->g x σ H fun σ2 H2=>tb {D with nx:=Pv (i+1),ct:=Pv (i+1),bk:=D.nx} σ2 H2)(hd:∀σ H,Pv xs.length σ H->D.nx σ H):
  ∃W:Nat->Nat->St->Hp->Prop,(∃m,W 0 m σ H)/\∀i m σ H,W i m σ H->
   ((Itl K a).stop i H/\D.nx σ H)\/((Itl K a).go i H/\∃N:St->Hp->Prop,(∀σ' H',N σ' H'->∃m',m'<m/\W (i+1) m' σ' H')/\∀x H',(Itl K a).yld i H x H'->g x σ H' fun σ2 H2=>tb {D with nx:=N,ct:=N,bk:=D.nx} σ2 H2):=by
 refine⟨λi m σ H=>m=xs.length - i/\i<=xs.length/\Pv i σ H,⟨xs.length,by simp,zero_le _,h0⟩, ?_⟩
 rintro i m σ H ⟨rfl,hi,p⟩
 have q:=hl i σ H hi p
 by_cases hlt:i<xs.length
 ·refine .inr ⟨⟨xs,xs[i],q,by simp[hlt]⟩,Pv (i+1),fun σ' H' p'=>⟨xs.length - (i+1),by omega,rfl,hlt,p'⟩,λx H' y=> ?_⟩
  obtain⟨e,y⟩:=y
  subst e
  exact hs i x σ _ (y xs q) p
 ·have e:i=xs.length:=by omega
  subst e
  exact .inl ⟨⟨xs,q,le_refl _⟩,hd σ H p⟩
theorem UV{K:FZ}{a:Addr}{xs:List V}{g:TG}{tb:TS}{D:Ends}{σ:St}{H:Hp}(Pv:Nat->St->Hp->Prop)(h0:Pv 0 σ H)(hl:∀i σ H,i<=xs.length->Pv i σ H->SqT K H a xs)
  (hs:∀i x σ H,xs[i]? =some x->Pv i σ H->g x σ H fun σ2 H2=>tb {D with nx:=Pv (i+1),ct:=Pv (i+1),bk:=D.nx} σ2 H2)(hd:∀σ H,Pv xs.length σ H->D.nx σ H):
  ∃W:Nat->Nat->St->Hp->Prop,(∃m,W 0 m σ H)/\∀i m σ H,W i m σ H->
   ((Itt K a).stop i H/\D.nx σ H)\/((Itt K a).go i H/\∃N:St->Hp->Prop,(∀σ' H',N σ' H'->∃m',m'<m/\W (i+1) m' σ' H')/\∀x H',(Itt K a).yld i H x H'->g x σ H' fun σ2 H2=>tb {D with nx:=N,ct:=N,bk:=D.nx} σ2 H2):=by
 refine⟨λi m σ H=>m=xs.length - i/\i<=xs.length/\Pv i σ H,⟨xs.length,by simp,zero_le _,h0⟩, ?_⟩
 rintro i m σ H ⟨rfl,hi,p⟩
 have q:=hl i σ H hi p
 by_cases hlt:i<xs.length
 ·refine .inr ⟨⟨xs,xs[i],q,by simp[hlt]⟩,Pv (i+1),fun σ' H' p'=>⟨xs.length - (i+1),by omega,rfl,hlt,p'⟩,λx H' y=> ?_⟩
  obtain⟨e,y⟩:=y
  subst e
  exact hs i x σ _ (y xs q) p
 ·have e:i=xs.length:=by omega
  subst e
  exact .inl ⟨⟨xs,q,le_refl _⟩,hd σ H p⟩
theorem CJ{lo:Int}{n:Nat}{g:TG}{tb:TS}{D:Ends}{σ:St}{H:Hp}(Pv:Nat->St->Hp->Prop)(h0:Pv 0 σ H)
  (hs:∀i σ H,i<n->Pv i σ H->g (.int (lo+i)) σ H fun σ2 H2=>tb {D with nx:=Pv (i+1),ct:=Pv (i+1),bk:=D.nx} σ2 H2)(hd:∀σ H,Pv n σ H->D.nx σ H):
  ∃W:Nat->Nat->St->Hp->Prop,(∃m,W 0 m σ H)/\∀i m σ H,W i m σ H->
   ((Itr lo n).stop i H/\D.nx σ H)\/((Itr lo n).go i H/\∃N:St->Hp->Prop,(∀σ' H',N σ' H'->∃m',m'<m/\W (i+1) m' σ' H')/\∀x H',(Itr lo n).yld i H x H'->g x σ H' fun σ2 H2=>tb {D with nx:=N,ct:=N,bk:=D.nx} σ2 H2):=by
 refine⟨λi m σ H=>m=n - i/\i<=n/\Pv i σ H,⟨n,by simp,zero_le _,h0⟩, ?_⟩
 rintro i m σ H ⟨rfl,hi,p⟩
 by_cases hlt:i<n
 ·refine .inr ⟨hlt,Pv (i+1),fun σ' H' p'=>⟨n - (i+1),by omega,rfl,hlt,p'⟩,λx H' y=> ?_⟩
  obtain⟨e,y⟩:=y
  subst e y
  exact hs i σ _ hlt p
 ·have e:i=n:=by omega
  subst e
  exact .inl ⟨le_refl _,hd σ H p⟩
abbrev R2:=V->V->Hp->VK->Prop
def OpR(X:Cx)(f:Value->Value->Sem Value)(r:R2):Prop:=
 ∀(pins:List (Addr×Obj)) (s:Shared) (σ:St) (H:Hp) (x y:V) (v u:Value) (Q:VK),Inv X pins σ H s->RelV x v->RelV y u->r x y H Q->
  wpAny (model X.prog X.w) X.A (f v u) (EP X pins σ Q) X.xe s
def UnR(X:Cx)(f:Value->Sem Value)(r:V->Hp->VK->Prop):Prop:=
 ∀(pins:List (Addr×Obj)) (s:Shared) (σ:St) (H:Hp) (x:V) (v:Value) (Q:VK),Inv X pins σ H s->RelV x v->r x H Q->
  wpAny (model X.prog X.w) X.A (f v) (EP X pins σ Q) X.xe s
def CallR(X:Cx)(f:Value)(r:List V->Hp->VK->Prop):Prop:=
 ∀(pins:List (Addr×Obj)) (s:Shared) (σ:St) (H:Hp) (xs:List V) (us:List Value) (Q:VK),Inv X pins σ H s->Vals xs us->r xs H Q->
  wpAny (model X.prog X.w) X.A (call f us) (EP X pins σ Q) X.xe s
def aZZ(X:Cx)(r:V->Hp->(Bool->Hp->Prop)->Prop):Prop:=
 ∀(pins:List (Addr×Obj)) (s:Shared) (σ:St) (H:Hp) (x:V) (v:Value) (Q:Bool->Hp->Prop),Inv X pins σ H s->RelV x v->r x H Q->
  wpAny (model X.prog X.w) X.A (truthy v) (TP X pins σ Q) X.xe s
def tOp(r:R2)(ta tb:TE):TE:=fun σ H Q=>ta σ H λx H1=>tb σ H1 λy H2=>r x y H2 Q
def tUn(r:V->Hp->VK->Prop)(ta:TE):TE:=fun σ H Q=>ta σ H λx H1=>r x H1 Q
inductive rI (C:Int->Int->Prop) (g:Int->Int->V) (x:V) (y:V) (H:Hp) (Q:VK):Prop
 |mk:∀i j,(x=.int i)->(y=.int j)->(C i j)->(Q (g i j) H)->rI C g x y H Q
inductive rI0 (g:Int->Int->V) (x:V) (y:V) (H:Hp) (Q:VK):Prop
 |mk:∀i j,(x=.int i)->(y=.int j)->(Q (g i j) H)->rI0 g x y H Q
inductive rU (g:Int->V) (x:V) (H:Hp) (Q:VK):Prop
 |mk:∀i,(x=.int i)->(Q (g i) H)->rU g x H Q
section
variable{X:Cx}{a b c:Expr}{ta tb tc:TE}{pos:Pos}
theorem WU(ha:PE X a ta)(hb:PE X b tb){pins:List (Addr×Obj)}{s:Shared}{σ:St}{H:Hp}{R:V->V->Hp->Prop}(I:Inv X pins σ H s)
  (h:ta σ H λx H1=>tb σ H1 λy H2=>R x y H2){Q:Value->Shared->Prop}{f:Value->Value->Sem Value}
  (hf:∀v u s2 x y H2,Inv X pins σ H2 s2->RelV x v->RelV y u->R x y H2->wpAny (model X.prog X.w) X.A (f v u) Q X.xe s2):
  wpAny (model X.prog X.w) X.A (eval a X.env) (λv s₁=>wpAny (model X.prog X.w) X.A (eval b X.env) (λu s₂=>wpAny (model X.prog X.w) X.A (f v u) Q X.xe s₂) X.xe s₁) X.xe s:=by
 refine thn (ha pins s σ H _ I h) λv s1 ⟨x,H1,I1,r1,q1⟩=> ?_
 refine thn (hb pins s1 σ H1 _ I1 q1) λu s2 ⟨y,H2,I2,r2,q2⟩=> ?_
 exact hf v u s2 x y H2 I2 r1 r2 q2
theorem C6{op:Operator}{r:R2}(ho:OpR X (binaryOp op) r)(ha:PE X a ta)(hb:PE X b tb):PE X (.BinOp a op b pos) (tOp r ta tb):=by
 intro pins s σ H Q I h
 exact wpAny_BinOp (WU ha hb I h λv u s2 x y H2 I2 rx ry q=>ho pins s2 σ H2 x y v u Q I2 rx ry q)
theorem VH{op:UnaryOp}{r:V->Hp->VK->Prop}(ho:UnR X (unaryOp op) r)(ha:PE X a ta):PE X (.UnaryOp op a pos) (tUn r ta):=by
 intro pins s σ H Q I h
 exact UnaryOp_ (thn (ha pins s σ H _ I h) λv s1 ⟨x,H1,I1,r1,q1⟩=>ho pins s1 σ H1 x v Q I1 r1 q1)
theorem opI{f:Value->Value->Sem Value}{C:Int->Int->Prop}{g:Int->Int->Int}
  (rule:∀(i j:Int) (t u:Tok) (s:Shared) (Q:Value->Shared->Prop) (E:Value->Shared->Prop),C i j->Q (.int (g i j) s.toks) {s with toks:=s.toks+1}->wpAny (model X.prog X.w) X.A (f (.int i t) (.int j u)) Q E s):
  OpR X f (rI C λi j=> .int (g i j)):=by
 intro pins s σ H x y v u Q I rx ry h
 obtain⟨i,j,rfl,rfl,hc,q⟩:=h
 obtain⟨t,rfl⟩:=rx
 obtain⟨t',rfl⟩:=ry
 exact rule i j t t' s _ _ hc ⟨.int (g i j),H,I.tok _,⟨_,rfl⟩,q⟩
theorem aqZ{f:Value->Value->Sem Value}{g:Int->Int->Int}
  (rule:∀(i j:Int) (t u:Tok) (s:Shared) (Q:Value->Shared->Prop) (E:Value->Shared->Prop),Q (.int (g i j) s.toks) {s with toks:=s.toks+1}->wpAny (model X.prog X.w) X.A (f (.int i t) (.int j u)) Q E s):
  OpR X f (rI0 λi j=> .int (g i j)):=by
 intro pins s σ H x y v u Q I rx ry h
 obtain⟨i,j,rfl,rfl,q⟩:=h
 obtain⟨t,rfl⟩:=rx
 obtain⟨t',rfl⟩:=ry
 exact rule i j t t' s _ _ ⟨.int (g i j),H,I.tok _,⟨_,rfl⟩,q⟩
theorem YX{f:Value->Value->Sem Value}{g:Int->Int->Bool}
  (rule:∀(i j:Int) (t u:Tok) (s:Shared) (Q:Value->Shared->Prop) (E:Value->Shared->Prop),Q (.bool (g i j)) s->wpAny (model X.prog X.w) X.A (f (.int i t) (.int j u)) Q E s):
  OpR X f (rI0 λi j=> .bl (g i j)):=by
 intro pins s σ H x y v u Q I rx ry h
 obtain⟨i,j,rfl,rfl,q⟩:=h
 obtain⟨t,rfl⟩:=rx
 obtain⟨t',rfl⟩:=ry
 exact rule i j t t' s _ _ ⟨.bl (g i j),H,I,rfl,q⟩
def acZ(i j:Int):Prop:=0<j/\j<1073741824
def CMul(i j:Int):Prop:=(-(2^64)<i/\i<2^64)\/(-(2^64)<j/\j<2^64)
theorem CMul.ok{i j:Int}(h:CMul i j):IntMulOk i j:=by
 rcases h with⟨h1,h2⟩|⟨h1,h2⟩
 ·exact .of_left (intBits_le_64 h1 h2)
 ·exact .of_right (intBits_le_64 h1 h2)
theorem op_add:OpR X (binaryOp .Add) (rI0 λi j=> .int (i+j)):=aqZ λ_ _ _ _ _ _ _ q=>add_int q
theorem BD:OpR X (binaryOp .Sub) (rI0 λi j=> .int (i - j)):=aqZ λ_ _ _ _ _ _ _ q=>sub_int q
theorem op_mul:OpR X (binaryOp .Mult) (rI CMul λi j=> .int (i*j)):=opI λ_ _ _ _ _ _ _ hc q=>mul_int q hc.ok
theorem M4:OpR X (binaryOp .FloorDiv) (rI acZ λi j=> .int (i/j)):=opI λi j _ _ _ _ _ hc q=>by
 have h1:(0:Int)<j:=hc.1
 have h2:j<1073741824:=hc.2
 exact floordiv_int (by omega) (by rw[Int.fdiv_eq_ediv_of_nonneg i (by omega)];exact q) (.inl (PyProof.noPylong_small (by omega)))
theorem M0:OpR X (binaryOp .Mod) (rI (λ_ j=>0<j) λi j=> .int (i%j)):=opI λi j _ _ _ _ _ hc q=>by
 have h1:(0:Int)<j:=hc
 exact mod_int' (by omega) (by rw[Int.fmod_eq_emod_of_nonneg i (by omega)];exact q)
theorem unI{f:Value->Sem Value}{g:Int->Int}
  (rule:∀(i:Int) (t:Tok) (s:Shared) (Q:Value->Shared->Prop) (E:Value->Shared->Prop),Q (.int (g i) s.toks) {s with toks:=s.toks+1}->wpAny (model X.prog X.w) X.A (f (.int i t)) Q E s):
  UnR X f (rU λi=> .int (g i)):=by
 intro pins s σ H x v Q I rx h
 obtain⟨i,rfl,q⟩:=h
 obtain⟨t,rfl⟩:=rx
 exact rule i t s _ _ ⟨.int (g i),H,I.tok _,⟨_,rfl⟩,q⟩
theorem QD:UnR X (unaryOp .USub) (rU λi=> .int (-i)):=unI λ_ _ _ _ _ q=>neg_int q
end
def ZK:V->V->Bool
 | .non,.non=>true| .non,.int _=>true| .int _,.non=>true| .non,.bl _=>true| .bl _,.non=>true| .non,.str _=>true| .str _,.non=>true
 | .int _,.int _=>true| .bl _,.bl _=>true| .str _,.str _=>true| .byt _,.byt _=>true
 | .int _,.str _=>true| .str _,.int _=>true| .bl _,.str _=>true| .str _,.bl _=>true
 |_,_=>false
inductive rEq (x:V) (y:V) (H:Hp) (Q:VK):Prop
 |mk:(ZK x y=true)->(Q (.bl (decide (x=y))) H)->rEq x y H Q
inductive rNe (x:V) (y:V) (H:Hp) (Q:VK):Prop
 |mk:(ZK x y=true)->(Q (.bl (!decide (x=y))) H)->rNe x y H Q
theorem NG{i j:Int}:decide (V.int i=V.int j)=(i==j):=by
 rw[Bool.eq_iff_iff]
 simp
theorem QS{i j:Bool}:decide (V.bl i=V.bl j)=(i==j):=by
 rw[Bool.eq_iff_iff]
 simp
theorem ND{i j:Str}:decide (V.str i=V.str j)=(i==j):=by
 rw[Bool.eq_iff_iff]
 simp
theorem MH{i j:Array UInt8}:decide (V.byt i=V.byt j)=(i.toList==j.toList):=by
 rw[Bool.eq_iff_iff]
 cases i
 cases j
 simp
section
variable{X:Cx}{a b c:Expr}{ta tb tc:TE}{pos:Pos}
theorem C9{pins:List (Addr×Obj)}{σ:St}{H:Hp}{s:Shared}{Q:VK}{k k':Bool}(I:Inv X pins σ H s)(q:Q (.bl k) H)(e:k=k'):EP X pins σ Q (.bool k') s:=by
 subst e
 exact⟨.bl k,H,I,rfl,q⟩
theorem op_eq:OpR X (compareOp .Eq) rEq:=by
 intro pins s σ H x y v u Q I rx ry h
 obtain⟨hs,q⟩:=h
 cases x with
 |non=>
  cases rx
  cases y with
  |non=>cases ry;exact PySem.EqNone.eq_none_none (C9 I q (by simp))
  |bl j=>cases ry;exact PySem.EqNone.eq_none_bool (C9 I q (by simp))
  |int j=>obtain⟨t',rfl⟩:=ry;exact PySem.EqNone.eq_none_int (C9 I q (by simp))
  |str j=>obtain⟨t',rfl⟩:=ry;exact PySem.EqNone.eq_none_str (C9 I q (by simp))
  |_=>exact absurd (show false=true from hs) nZ
 |bl i=>
  cases rx
  cases y with
  |non=>cases ry;exact PySem.EqNone.eq_bool_none (C9 I q (by simp))
  |bl j=>cases ry;exact eq_bool (C9 I q QS)
  |str j=>obtain⟨t',rfl⟩:=ry;exact PySem.EqMixed.eq_bool_str (C9 I q (by simp))
  |_=>exact absurd (show false=true from hs) nZ
 |int i=>
  obtain⟨t,rfl⟩:=rx
  cases y with
  |non=>cases ry;exact PySem.EqNone.eq_int_none (C9 I q (by simp))
  |int j=>obtain⟨t',rfl⟩:=ry;exact eq_int (C9 I q NG)
  |str j=>obtain⟨t',rfl⟩:=ry;exact PySem.EqMixed.eq_int_str (C9 I q (by simp))
  |_=>exact absurd (show false=true from hs) nZ
 |str i=>
  obtain⟨t,rfl⟩:=rx
  cases y with
  |non=>cases ry;exact PySem.EqNone.eq_str_none (C9 I q (by simp))
  |bl j=>cases ry;exact PySem.EqMixed.eq_str_bool (C9 I q (by simp))
  |int j=>obtain⟨t',rfl⟩:=ry;exact PySem.EqMixed.eq_str_int (C9 I q (by simp))
  |str j=>obtain⟨t',rfl⟩:=ry;exact eq_str (C9 I q ND)
  |_=>exact absurd (show false=true from hs) nZ
 |byt i=>
  obtain⟨t,rfl⟩:=rx
  cases y with
  |byt j=>obtain⟨t',rfl⟩:=ry;exact PySem.W.eq_bytes (C9 I q MH)
  |_=>exact absurd (show false=true from hs) nZ
 |_=>cases y<;>exact absurd (show false=true from hs) nZ
theorem op_ne:OpR X (compareOp .NotEq) rNe:=by
 intro pins s σ H x y v u Q I rx ry h
 obtain⟨hs,q⟩:=h
 cases x with
 |non=>
  cases rx
  cases y with
  |non=>cases ry;exact PySem.EqNone.ne_none_none (C9 I q (by simp))
  |bl j=>cases ry;exact PySem.EqNone.ne_none_bool (C9 I q (by simp))
  |int j=>obtain⟨t',rfl⟩:=ry;exact PySem.EqNone.ne_none_int (C9 I q (by simp))
  |str j=>obtain⟨t',rfl⟩:=ry;exact PySem.EqNone.ne_none_str (C9 I q (by simp))
  |_=>exact absurd (show false=true from hs) nZ
 |bl i=>
  cases rx
  cases y with
  |non=>cases ry;exact PySem.EqNone.ne_bool_none (C9 I q (by simp))
  |bl j=>cases ry;exact ne_bool (C9 I q (congrArg not QS))
  |str j=>obtain⟨t',rfl⟩:=ry;exact PySem.EqMixed.ne_bool_str (C9 I q (by simp))
  |_=>exact absurd (show false=true from hs) nZ
 |int i=>
  obtain⟨t,rfl⟩:=rx
  cases y with
  |non=>cases ry;exact PySem.EqNone.ne_int_none (C9 I q (by simp))
  |int j=>obtain⟨t',rfl⟩:=ry;exact ne_int (C9 I q (congrArg not NG))
  |str j=>obtain⟨t',rfl⟩:=ry;exact PySem.EqMixed.ne_int_str (C9 I q (by simp))
  |_=>exact absurd (show false=true from hs) nZ
 |str i=>
  obtain⟨t,rfl⟩:=rx
  cases y with
  |non=>cases ry;exact PySem.EqNone.ne_str_none (C9 I q (by simp))
  |bl j=>cases ry;exact PySem.EqMixed.ne_str_bool (C9 I q (by simp))
  |int j=>obtain⟨t',rfl⟩:=ry;exact PySem.EqMixed.ne_str_int (C9 I q (by simp))
  |str j=>obtain⟨t',rfl⟩:=ry;exact ne_str (C9 I q (congrArg not ND))
  |_=>exact absurd (show false=true from hs) nZ
 |byt i=>
  obtain⟨t,rfl⟩:=rx
  cases y with
  |byt j=>obtain⟨t',rfl⟩:=ry;exact PySem.W.ne_bytes (C9 I q (congrArg not MH))
  |_=>exact absurd (show false=true from hs) nZ
 |_=>cases y<;>exact absurd (show false=true from hs) nZ
theorem VE:OpR X (compareOp .Lt) (rI0 λi j=> .bl (decide (i<j))):=YX λ_ _ _ _ _ _ _ q=>lt_int q
theorem VL:OpR X (compareOp .Gt) (rI0 λi j=> .bl (decide (j<i))):=YX λ_ _ _ _ _ _ _ q=>gt_int q
theorem op_in_str:OpR X (compareOp .In) (λx y H Q=>∃i j,x=.str i/\y=.str j/\Q (.bl (!(Builtin.Str.occurrences j i 0 j.length 1).isEmpty)) H):=by
 intro pins s σ H x y v u Q I rx ry h
 obtain⟨i,j,rfl,rfl,q⟩:=h
 obtain⟨t,rfl⟩:=rx
 obtain⟨t',rfl⟩:=ry
 exact in_str (C9 I q rfl)
theorem YC:OpR X (compareOp .Is) (λx y H Q=>y=.non/\Q (.bl (decide (x=.non))) H):=by
 intro pins s σ H x y v u Q I rx ry h
 obtain⟨rfl,q⟩:=h
 cases ry
 refine is_none_gen (C9 I q ?_)
 cases x<;>first
  |(cases rx;rfl)
  |(obtain⟨t,rfl⟩:=rx;rfl)
theorem UC:OpR X (compareOp .IsNot) (λx y H Q=>y=.non/\Q (.bl (!decide (x=.non))) H):=by
 intro pins s σ H x y v u Q I rx ry h
 obtain⟨rfl,q⟩:=h
 cases ry
 refine isnot_none_gen (C9 I q ?_)
 cases x<;>first
  |(cases rx;rfl)
  |(obtain⟨t,rfl⟩:=rx;rfl)
theorem OpR.or{f:Value->Value->Sem Value}{r r':R2}(h:OpR X f r)(h':OpR X f r'):OpR X f (λx y H Q=>r x y H Q\/r' x y H Q):=by
 intro pins s σ H x y v u Q I rx ry q
 rcases q with q|q
 ·exact h pins s σ H x y v u Q I rx ry q
 ·exact h' pins s σ H x y v u Q I rx ry q
theorem TV{op:CmpOp}{r:R2}(ho:OpR X (compareOp op) r)(ha:PE X a ta)(hb:PE X b tb)(hm:behindInMarks op b=false):PE X (.Compare a [op] [b] pos) (tOp r ta tb):=by
 intro pins s σ H Q I h
 exact wpAny_Compare1 (WU ha hb I h λv u s2 x y H2 I2 rx ry q=>ho pins s2 σ H2 x y v u Q I2 rx ry q) hm
inductive tTestW (Q:Bool->Hp->Prop) (x:V) (H':Hp):Prop
 |mk:∀k,(x=.bl k)->(Q k H')->tTestW Q x H'
def ZW(t:TE):TT:=fun σ H Q=>t σ H λx H'=>tTestW Q x H'
theorem C5{op:CmpOp}{r:R2}(ho:OpR X (compareOp op) r)(ha:PE X a ta)(hb:PE X b tb)(hm:behindInMarks op b=false):PT X (.Compare a [op] [b] pos) (ZW (tOp r ta tb)):=by
 intro pins s σ H Q I h
 refine wpAny_isTrue_Compare1 (thn (ha pins s σ H _ I h) λv s1 ⟨x,H1,I1,r1,q1⟩=>thn (hb pins s1 σ H1 _ I1 q1) λu s2 ⟨y,H2,I2,r2,q2⟩=>
  thn (ho pins s2 σ H2 x y v u _ I2 r1 r2 q2) λc s3 ⟨z,H3,I3,r3,k,e,q3⟩=> ?_) hm
 subst e
 cases r3
 exact wpAny_truthy_bool ⟨H3,I3,q3⟩
def WC(K:FZ)(x:V)(H:Hp)(k:Bool):Prop:=
 match x with
 | .non=>k=false
 | .bl b=>k=b
 | .int i=>k=(i !=0)
 | .str y=>y.length<=sizeLine/\k=((y.length:Int) !=0)
 | .byt y=>y.size<=sizeLine/\k=((y.size:Int) !=0)
 | .ref p=>(∃xs,SqL K H p xs/\k= !xs.isEmpty)\/(∃xs,SqT K H p xs/\k= !xs.isEmpty)\/∃kvs,H p=some (.dK kvs)/\k= !kvs.isEmpty
 |_=>False
theorem MD{κ:Type}{kvs:List (κ×V)}{vs:List (κ×Value)}(r:KV kvs vs):(!vs.isEmpty)= !kvs.isEmpty:=by
 cases r<;>rfl
theorem EY{xs:List V}{its:List Value}(r:Vals xs its):(!its.toArray.isEmpty)= !xs.isEmpty:=by
 cases r<;>simp
theorem FH:(sizeLine:Nat)<2^63:=by rw[sizeLine_eq];decide
theorem WR:aZZ X (λx H Q=>∃k,WC X.K x H k/\Q k H):=by
 intro pins s σ H x v Q I rx h
 obtain⟨k,e,q⟩:=h
 have hl:=FH
 have hs:sizeLine=16777216:=sizeLine_eq
 cases x with
 |non=>
  cases rx
  have e':k=false:=e
  subst e'
  exact truthy_none ⟨H,I,q⟩
 |bl b=>
  cases rx
  have e':k=b:=e
  subst e'
  exact wpAny_truthy_bool ⟨H,I,q⟩
 |int i=>
  obtain⟨t,rfl⟩:=rx
  have e':k=(i !=0):=e
  subst e'
  exact PySem.P.truthy_int ⟨H,I,q⟩
 |str y=>
  obtain⟨t,rfl⟩:=rx
  obtain⟨hy,e'⟩:y.length<=sizeLine/\k=((y.length:Int) !=0):=e
  subst e'
  exact PySem.P.truthy_str (by omega) ⟨H,I.tok _,q⟩
 |byt y=>
  obtain⟨t,rfl⟩:=rx
  obtain⟨hy,e'⟩:y.size<=sizeLine/\k=((y.size:Int) !=0):=e
  subst e'
  exact PySem.W.truthy_bytes (by omega) ⟨H,I.tok _,q⟩
 |ref p=>
  cases rx
  have e':(∃xs,SqL X.K H p xs/\k= !xs.isEmpty)\/(∃xs,SqT X.K H p xs/\k= !xs.isEmpty)\/∃kvs,H p=some (.dK kvs)/\k= !kvs.isEmpty:=e
  rcases e' with⟨xs,hx,e'⟩|⟨xs,hx,e'⟩|⟨kvs,hx,e'⟩
  ·subst e'
   obtain⟨its,r,pl,hz⟩:=I.list hx
   have hlen:=r.length
   exact wpAny_truthy_list pl.isList (by simp only[size_toArray];omega) ⟨H,I.tok _,by rw[EY r];exact q⟩
  ·subst e'
   obtain⟨its,r,pl,hz⟩:=I.tuple hx
   have hlen:=r.length
   exact truthy_tuple pl (by simp only[size_toArray];omega) ⟨H,I.tok _,by rw[EY r];exact q⟩
  ·subst e'
   obtain⟨hz,hS,vs,r,m⟩:kvs.length<=sizeLine/\(p==sysModules)=false/\∃vs,KV kvs vs/\s.heap.DictOf (E9 X.prog X.w) p vs:=I.hok p _ hx
   have hlen:kvs.length=vs.length:=Paired.length r
   exact wpAny_truthy_dict hS m (by omega) ⟨H,I.tok _,by rw[MD r];exact q⟩
 |_=>exact(show False from e).elim
theorem RF(ha:PE X a ta)(he:∀whole,isTrue a X.env whole=(do let v<-whole;standAt a.pos;holding [v] (truthy v))):
  PT X a (fun σ H Q=>ta σ H λx H'=>∃k,WC X.K x H' k/\Q k H'):=by
 intro pins s σ H Q I h
 exact isTrue_plain (thn (ha pins s σ H _ I h) λv s1 ⟨x,H1,I1,r1,q1⟩=>WR pins s1 σ H1 x v Q I1 r1 q1) (he _)
theorem GR{x:V}{us:List Value}(r:Vals [x] us):∃u,us=[u]/\RelV x u:=by
 cases r with
 |cons r1 r2=>cases r2;exact⟨_,rfl,r1⟩
theorem MU{x y:V}{us:List Value}(r:Vals [x,y] us):∃u w',us=[u,w']/\RelV x u/\RelV y w':=by
 cases r with
 |cons r1 r2=>
  cases r2 with
  |cons r3 r4=>cases r4;exact⟨_,_,rfl,r1,r3⟩
theorem OJ(hc:X.calm=true):CallR X (.builtin "max") (λxs H Q=>∃i j,xs=[.int i,.int j]/\Q (.int (if j>i then j else i)) H):=by
 intro pins s σ H xs us Q I r h
 obtain⟨i,j,rfl,q⟩:=h
 obtain⟨u,w',rfl,⟨t,rfl⟩,⟨t',rfl⟩⟩:=MU r
 refine max_two_ints (I.ok.hd hc) λh' tk k=>⟨_,H,I.kept k, ?_,q⟩
 by_cases hj:j>i
 ·rw[if_pos hj,if_pos hj];exact⟨_,rfl⟩
 ·rw[if_neg hj,if_neg hj];exact⟨_,rfl⟩
theorem CM(hc:X.calm=true):CallR X (.builtin "min") (λxs H Q=>∃i j,xs=[.int i,.int j]/\Q (.int (if j<i then j else i)) H):=by
 intro pins s σ H xs us Q I r h
 obtain⟨i,j,rfl,q⟩:=h
 obtain⟨u,w',rfl,⟨t,rfl⟩,⟨t',rfl⟩⟩:=MU r
 refine min_two_ints (I.ok.hd hc) λh' tk k=>⟨_,H,I.kept k, ?_,q⟩
 by_cases hj:j<i
 ·rw[if_pos hj,if_pos hj];exact⟨_,rfl⟩
 ·rw[if_neg hj,if_neg hj];exact⟨_,rfl⟩
def aUZ(K:FZ)(x:V)(H:Hp)(n:Nat):Prop:=
 match x with
 | .str y=>y.length<=sizeLine/\n=y.length
 | .byt y=>y.size<=sizeLine/\n=y.size
 | .ref p=>(∃xs,SqL K H p xs/\n=xs.length)\/∃xs,SqT K H p xs/\n=xs.length
 |_=>False
inductive rLen (K:FZ) (xs:List V) (H:Hp) (Q:VK):Prop
 |mk:∀x n,(xs=[x])->(aUZ K x H n)->(Q (.int n) H)->rLen K xs H Q
theorem RJ:CallR X (.builtin "len") (rLen X.K):=by
 intro pins s σ H xs us Q I r h
 obtain⟨x,n,rfl,e,q⟩:=h
 obtain⟨u,rfl,rx⟩:=GR r
 have hl:=FH
 have hs:sizeLine=16777216:=sizeLine_eq
 cases x with
 |str y=>
  obtain⟨t,rfl⟩:=rx
  obtain⟨hy,e'⟩:y.length<=sizeLine/\n=y.length:=e
  subst e'
  exact len_str (by omega) ⟨.int _,H,I.tok _,⟨_,rfl⟩,q⟩
 |byt y=>
  obtain⟨t,rfl⟩:=rx
  obtain⟨hy,e'⟩:y.size<=sizeLine/\n=y.size:=e
  subst e'
  exact PySem.W.len_bytes (by omega) ⟨.int _,H,I.tok _,⟨_,rfl⟩,q⟩
 |ref p=>
  cases rx
  have e':(∃xs,SqL X.K H p xs/\n=xs.length)\/∃xs,SqT X.K H p xs/\n=xs.length:=e
  rcases e' with⟨xs,hx,e'⟩|⟨xs,hx,e'⟩
  ·subst e'
   obtain⟨its,r',pl,hz⟩:=I.list hx
   have hlen:=r'.length
   exact Calls.call_len_list pl.isList (by simp only[size_toArray];omega) ⟨.int xs.length,H,I.tok _,⟨_,by simp only[size_toArray];rw[hlen]⟩,q⟩
  ·subst e'
   obtain⟨its,r',pl,hz⟩:=I.tuple hx
   have hlen:=r'.length
   exact len_tuple pl (by simp only[size_toArray];omega) ⟨.int xs.length,H,I.tok _,⟨_,by simp only[size_toArray];rw[hlen]⟩,q⟩
 |_=>exact(show False from e).elim
end
structure ObjM (h:Heap) (x dx C:Addr) (mA:Str->Option Value):Prop where
 obj:h.get? x=some (instObj C dx)
 ns:h.Ns1 dx mA
 ne:dx≠x
theorem NW{h:Heap}{dx:Addr}{mA:Str->Option Value}(n:h.Ns1 dx mA):∃od,h.get? dx=some od/\∀name,lookIn name od=some (mA name):=by
 obtain⟨o,es,ep,ho,hd,hk,_,hm⟩:=n
 refine⟨o,ho,λname=> ?_⟩
 have e:=hm name
 unfold nsFind findBy at e
 rw[<-Array.find?_toList]at e
 unfold lookIn
 rw[hd]
 dsimp only
 split
 ·rename_i y q
  rw[q]at e
  exact congrArg some e
 ·rename_i q
  rw[q]at e
  have a:es.toList.any (·.refKey)=false:=by
   rw[List.any_eq_false]
   intro y hy
   obtain⟨z,t,hkey⟩:=hk y (Array.mem_toList_iff.mp hy)
   simp[DictEntry.refKey,hkey]
  have a':¬es.toList.any (·.refKey)=true:=by rw[a];exact nZ
  rw[if_neg a']
  exact congrArg some e
theorem ObjM.look{h:Heap}{x dx C:Addr}{mA:Str->Option Value}(I:ObjM h x dx C mA):∃od,PySem.W.InstAt h x (instObj C dx) C (some od)/\∀name,lookIn name od=some (mA name):=
 let⟨od,ho,hl⟩:=NW I.ns
 ⟨od,⟨I.obj,rfl,rfl,ho⟩,hl⟩
section
variable{prog:Program}{w:World}{A:Around}{E:Value->Shared->Prop}{s:Shared}{K:FZ}{x dx C f:Addr}{mA:Str->Option Value}{name:Str}{v:Value}
theorem UD{expr:Bool}{Q:Value->Shared->Prop}(X:K.In s.heap)(I:ObjM s.heap x dx C mA)(hg:plainGet K C name=true)(hh:PySem.W.hasDictIn K C=true)
  (ha:findIn K (.ref C) name=some none)(hv:mA name=some v)(hv':PySem.W.handedIn v=true)(h:Q v {s with toks:=s.toks+1}):
  wpAny (model prog w) A (getAttr (.ref x) name expr) Q E s:=by
 obtain⟨od,J,hl⟩:=I.look
 exact PySem.W.get_value X J (PySem.W.plainGet_of hg).1 (PySem.W.findObj_own hh ha rfl (by rw[hl,hv])) hv' h
theorem RI{pl:Sem Bool}{Q:Value×List Value->Shared->Prop}(X:K.In s.heap)(I:ObjM s.heap x dx C mA)(hg:plainGet K C name=true)
  (hf:findIn K (.ref C) name=some (some (.ref f)))(ht:PySem.W.isFn K (.ref f)=true)(hv:mA name=none)(h:Q (.ref f,[.ref x]) s):
  wpAny (model prog w) A (getMethod (.ref x) name pl) Q E s:=by
 obtain⟨od,J,hl⟩:=I.look
 exact PySem.W.method_fn X J (PySem.W.plainGet_of hg).1 (PySem.W.plainGet_of hg).2 hf (beq_iff_eq.mp ht) (by show(lookIn name od).map (·.isSome)=some false;rw[hl,hv];rfl) h
theorem TU{ns:List Str}{Q:Unit->Shared->Prop}(X:K.In s.heap)(I:ObjM s.heap x dx C mA)
  (hs:findIn K (.ref C) "__setattr__"=some (some (.builtin "object.__setattr__")))(hp:PySem.W.plainOver K C=true)(ht:PySem.W.takerIn K C name=some none)(hh:PySem.W.hasDictIn K C=true)
  (hw:PySem.Within mA ns)(hsz:ns.length<=sizeLine)
  (h:∀h',ObjM h' x dx C (λy=>if y=name then some v else mA y)->Heap.SameBut dx s.heap h'->Q () {s with heap:=h',toks:=s.toks+2}):
  wpAny (model prog w) A (setAttr (.ref x) name v) Q E s:=by
 obtain⟨od,J,hl⟩:=I.look
 refine PySem.W.set_plain X J hs (PySem.W.osa_open (s:={s with toks:=s.toks+1}) (r:=none) X J hp ht λb=> ?_)
 obtain⟨cd,hc,hd'⟩:=PySem.W.any_some hh
 have hx:s.heap.get? x=some ⟨.ref C,some dx,.plain, #[]⟩:=I.obj
 refine bZ (pZ (bZ (bZ (wpAny_loadPart hx (bZ (PySem.W.Looks.here (s:={s with toks:=s.toks+1}) (PySem.W.looks_clsIn X hc) ?_))))))
 rw[hd']
 refine pZ (a:=some dx) (bZ (pZ (bZ ?_)))
 refine wpAny_nsSet1 (s:={s with toks:=s.toks+1}) I.ns λh' hn2 hs2=> ?_
 obtain⟨oD,esD,epD,hoD,hdD,hcD⟩:=hn2.count (PySem.Within.cons name v hw)
 refine bZ (wpAny_lookBehind hoD (by rw[hdD];exact pastItsLine_dict (le_trans hcD (by rw[length_cons];omega))) ?_)
 exact pZ (h _ ⟨(hs2.2 _ (Ne.symm I.ne)).trans I.obj,hn2,I.ne⟩ hs2)
theorem SG{R:Result->Shared->Prop}{vs:List Value}{kw:List (Str×Value)}(X:K.In s.heap)(hm:PySem.W.makesIn K C=true)
  (hi:findIn K (.ref C) "__init__"=some (some (.ref f)))(hf:PySem.W.typeIn K (.ref f)=some (.type "function"))
  (h:codeAny (model prog w) (A.under (.builtin "type.__call__" ⟨.ref C::vs,kw⟩)) (.call (.ref f) ⟨.ref (s.heap.objs.size+1)::vs,kw⟩) (PySem.W.InitBack (s.heap.objs.size+1) R)
   {s with heap:=(s.heap.push emptyDict).push (instObj C s.heap.objs.size)}):
  codeAny (model prog w) A (.call (.ref C) ⟨vs,kw⟩) R s:=by
 obtain⟨hh,g,d,t,os⟩:=s
 exact PySem.W.make_core (PySem.W.makes_of X hm) (looks_findIn X hi) (λself=>PySem.W.bind_fn X self hf) (.inl rfl) h
end
def X7(f:Str)(v:V):List (Str×V)->List (Str×V)
 | []=> [(f,v)]
 |(g,x)::r=>if g=f then(g,v)::r else(g,x)::X7 f v r
theorem DH(f g:Str)(v:V):∀fs:List (Str×V),(X7 f v fs).lookup g=if g=f then some v else fs.lookup g
 | []=>by
  show List.lookup g [(f,v)]=_
  by_cases h:g=f
  ·have hb:(g==f)=true:=beq_iff_eq.mpr h
   simp only[List.lookup,hb,if_pos h]
  ·have hb:(g==f)=false:=beq_eq_false_iff_ne.mpr h
   simp only[List.lookup,hb,if_neg h]
 |(k,x)::r=>by
  have ih:=DH f g v r
  rw[show X7 f v ((k,x)::r)=(if k=f then(k,v)::r else(k,x)::X7 f v r)from rfl]
  by_cases hk:k=f
  ·rw[if_pos hk]
   by_cases h:g=k
   ·have hb:(g==k)=true:=beq_iff_eq.mpr h
    simp only[List.lookup,hb,if_pos (h.trans hk)]
   ·have hb:(g==k)=false:=beq_eq_false_iff_ne.mpr h
    simp only[List.lookup,hb,if_neg (λe:g=f=>h (e.trans hk.symm))]
  ·rw[if_neg hk]
   by_cases h:g=k
   ·have hb:(g==k)=true:=beq_iff_eq.mpr h
    simp only[List.lookup,hb,if_neg (λe:g=f=>hk (h.symm.trans e))]
   ·have hb:(g==k)=false:=beq_eq_false_iff_ne.mpr h
    simp only[List.lookup,hb]
    exact ih
theorem CK(f:Str)(v:V):∀fs:List (Str×V),f∈(X7 f v fs).map (·.1)/\∀g,g∈fs.map (·.1)->g∈(X7 f v fs).map (·.1)
 | []=>⟨by simp[X7],λg h=>by simp at h⟩
 |(k,x)::r=>by
  obtain⟨i1,i2⟩:=CK f v r
  rw[show X7 f v ((k,x)::r)=(if k=f then(k,v)::r else(k,x)::X7 f v r)from rfl]
  by_cases hk:k=f
  ·rw[if_pos hk]
   subst hk
   exact⟨by simp,λg h=>by simpa using h⟩
  ·rw[if_neg hk]
   refine⟨?_,λg h=> ?_⟩
   ·rw[map_cons]
    exact mem_cons_of_mem _ i1
   ·rw[map_cons]at h⊢
    rcases cZ h with e|e
    ·exact mem_cons.mpr (.inl e)
    ·exact mem_cons_of_mem _ (i2 g e)
theorem DB(f:Str)(v:V):∀fs:List (Str×V),(X7 f v fs).length<=fs.length+1
 | []=>by simp[X7]
 |(k,x)::r=>by
  have ih:=DB f v r
  rw[show X7 f v ((k,x)::r)=(if k=f then(k,v)::r else(k,x)::X7 f v r)from rfl]
  by_cases hk:k=f
  ·rw[if_pos hk,length_cons,length_cons];omega
  ·rw[if_neg hk,length_cons,length_cons];omega
theorem RelO.some_of{v:V}{o:Option Value}(r:RelO (some v) o):∃u,o=some u/\RelV v u:=by
 cases o with
 |none=>exact(show False from r).elim
 |some u=>exact⟨u,rfl,r⟩
theorem RelO.none_of{o:Option Value}(r:RelO none o):o=none:=by
 cases o with
 |none=>rfl
 |some u=>exact(show False from r).elim
theorem OO{v:V}{u:Value}(r:RelV v u):PySem.W.handedIn u=true:=by
 cases v with
 |non=>cases(show u=Value.none from r);rfl
 |bl b=>cases(show u=Value.bool b from r);rfl
 |int i=>obtain⟨t,e⟩:=(show∃t,u=Value.int i t from r);cases e;rfl
 |str x=>obtain⟨t,e⟩:=(show∃t,u=Value.str x t from r);cases e;rfl
 |byt b=>obtain⟨t,e⟩:=(show∃t,u=Value.bytes b t from r);cases e;rfl
 |flt b=>obtain⟨t,e⟩:=(show∃t,u=Value.float b t from r);cases e;rfl
 |ref a=>cases(show u=Value.ref a from r);rfl
 |ty n=>cases(show u=Value.type n from r);rfl
section
variable{P:Program}{w:World}{H H':Hp}{h h':Heap}{a C dx:Addr}{fs fs':List (Str×V)}
theorem DQ(hok:HOk P w H h)(e:H a=some (.ins C dx fs)):∃mA,ObjM h a dx C mA/\(∀f,RelO (fs.lookup f) (mA f))/\PySem.Within mA (fs.map (·.1))/\fs.length<=1000/\H dx=some (.own a):=by
 obtain⟨d,z,ne,ob,mA,n,r,q⟩:=(show ObjOk P w H h a (.ins C dx fs)from hok a _ e)
 exact⟨mA,⟨ob,n,ne⟩,r,q,z,d⟩
end
structure Cls (K:FZ) (C:Addr):Prop where
 pg:plainGet K C Str.empty=true
 hd:PySem.W.hasDictIn K C=true
 po:PySem.W.plainOver K C=true
 sa:findIn K (.ref C) "__setattr__"=some (some (.builtin "object.__setattr__"))
theorem Cls.get{K:FZ}{C:Addr}(c:Cls K C)(f:Str):plainGet K C f=true:=c.pg
def NoAttr(K:FZ)(C:Addr)(f:Str):Prop:=findIn K (.ref C) f=some none
theorem NoAttr.taker{K:FZ}{C:Addr}{f:Str}(n:NoAttr K C f):PySem.W.takerIn K C f=some none:=by
 unfold PySem.W.takerIn
 rw[show findIn K (.ref C) f=some none from n]
 rfl
structure Meth (K:FZ) (C:Addr) (m:Str) (f:Addr):Prop where
 at_:findIn K (.ref C) m=some (some (.ref f))
 fn:PySem.W.isFn K (.ref f)=true
 kp:kZ K (.ref f)=true
section
variable{X:Cx}{pins:List (Addr×Obj)}{σ:St}{H:Hp}{s:Shared}{a C dx:Addr}{fs:List (Str×V)}{f:Str}{v:V}{A:Around}{E:Value->Shared->Prop}
theorem ER{b:Bool}{Q:Value->Shared->Prop}(I:Inv X pins σ H s)(e:H a=some (.ins C dx fs))(c:Cls X.K C)(n:NoAttr X.K C f)(l:fs.lookup f=some v)
  (h:∀u s',Inv X pins σ H s'->RelV v u->Q u s'):wpAny (model X.prog X.w) A (getAttr (.ref a) f b) Q E s:=by
 obtain⟨mA,O,r,_,_,_⟩:=DQ I.hok e
 obtain⟨u,hu,ru⟩:=RelO.some_of (v:=v) (o:=mA f) (by rw[<-l];exact r f)
 exact UD I.kIn O (c.get f) c.hd n hu (OO ru) (h u _ (I.tok _) ru)
theorem BA{m:Str}{g:Addr}{pl:Sem Bool}{Q:Value×List Value->Shared->Prop}(I:Inv X pins σ H s)(e:H a=some (.ins C dx fs))(c:Cls X.K C)(k:Meth X.K C m g)(l:fs.lookup m=none)
  (h:Q (.ref g,[.ref a]) s):wpAny (model X.prog X.w) A (getMethod (.ref a) m pl) Q E s:=by
 obtain⟨mA,O,r,_,_,_⟩:=DQ I.hok e
 have hn:mA m=none:=RelO.none_of (by rw[<-l];exact r m)
 exact RI I.kIn O (c.get m) k.at_ k.fn hn h
theorem EC{y:V}{u:Value}{Q:Unit->Shared->Prop}(I:Inv X pins σ H s)(e:H a=some (.ins C dx fs))(c:Cls X.K C)(n:NoAttr X.K C f)(hl:fs.length<1000)(ry:RelV y u)
  (h:∀s',Inv X pins σ (upd H a (.ins C dx (X7 f y fs))) s'->Q () s'):wpAny (model X.prog X.w) A (setAttr (.ref a) f u) Q E s:=by
 obtain⟨mA,O,r,wi,_,ho⟩:=DQ I.hok e
 have hz:(fs.map (·.1)).length<=sizeLine:=by rw[length_map,sizeLine_eq];omega
 refine TU I.kIn O c.sa c.po n.taker c.hd wi hz λh' O' sb=>h _ ?_
 have hd:∃o,h'.get? dx=some o:=let⟨o,_,_,e',_⟩:=O'.ns;⟨o,e'⟩
 refine I.write (x:=a) (e:=dx) (by rw[e];exact True.intro) (.inr ho) (λb q hb z=>(sb.2 b hb).trans z) hd ?_
 refine⟨by rw[B1 O.ne];exact ho, ?_,O.ne,O'.obj,_,O'.ns,λg=> ?_,λg hg=> ?_⟩
 ·have:=DB f y fs;omega
 ·show RelO ((X7 f y fs).lookup g) (if g=f then some u else mA g)
  rw[DH]
  by_cases q:g=f
  ·rw[if_pos q,if_pos q];exact ry
  ·rw[if_neg q,if_neg q];exact r g
 ·by_cases q:g=f
  ·rw[q];exact(CK f y fs).1
  ·refine(CK f y fs).2 g (wi g λz=>hg ?_)
   show(if g=f then some u else mA g)=none
   rw[if_neg q];exact z
theorem Inv.made(I:Inv X pins σ H s):Inv X pins σ (upd (upd H s.heap.objs.size (.own (s.heap.objs.size+1))) (s.heap.objs.size+1) (.ins C s.heap.objs.size []))
  {s with heap:=(s.heap.push emptyDict).push (instObj C s.heap.objs.size)}:=by
 have e1:(s.heap.push emptyDict).get? s.heap.objs.size=some emptyDict:=get?_push_size s.heap rfl
 have e2:((s.heap.push emptyDict).push (instObj C s.heap.objs.size)).get? (s.heap.objs.size+1)=some (instObj C s.heap.objs.size):=by
  have:=get?_push_size (s.heap.push emptyDict) (o:=instObj C s.heap.objs.size) rfl
  rwa [size_push]at this
 have e3:(s.heap.push emptyDict).Ns s.heap.objs.size (λ_=>none):=⟨emptyDict, #[],_,e1,rfl,(λe he=>absurd he (by simp)),λ_=>rfl⟩
 have I1:=I.laid (a:=s.heap.objs.size) (o:=.own (s.heap.objs.size+1)) (h':=s.heap.push emptyDict) (t':=s.toks) (λb u q=>gZ _ q) (le_refl _) ⟨_,e1⟩
 refine I1.laid (a:=s.heap.objs.size+1) (o:=.ins C s.heap.objs.size []) (t':=s.toks) (λb u q=>gZ _ q) (le_of_eq (size_push _ _)) ?_
 have ne:s.heap.objs.size≠s.heap.objs.size+1:=ne_of_lt (lt_succ_self _)
 refine⟨by rw[B1 ne,A3],zero_le _,ne,e2,λ_=>none,(Heap.Ns1.of_empty e3).at λo q=>gZ _ q,λ_=>True.intro,λy hy=>absurd rfl hy⟩
theorem SY{prog:Program}{w:World}{env:Env}{e:Expr}{f:Str}{pos:Pos}{s:Shared}{Q:Value->Shared->Prop}(hb:attributeBase e f env (eval e env)=eval e env)
  (h:wpAny (model prog w) A (eval e env) (λo s₁=>wpAny (model prog w) A (getAttr o f true) Q E s₁) E s):wpAny (model prog w) A (eval (.Attribute e f pos) env) Q E s:=
 Attribute_any_ h (by rw[arm_eval_Attribute,hb])
end
inductive tFldW (K:FZ) (f:Str) (Q:VK) (x:V) (H1:Hp):Prop
 |mk:∀a C dx fs v,(x=.ref a)->(H1 a=some (.ins C dx fs))->(Cls K C)->(NoAttr K C f)->(fs.lookup f=some v)->(Q v H1)->tFldW K f Q x H1
def aBZ(K:FZ)(ta:TE)(f:Str):TE:=fun σ H Q=>ta σ H λx H1=>tFldW K f Q x H1
inductive sFldW (K:FZ) (f:Str) (D:Ends) (σ:St) (y x:V) (H2:Hp):Prop
 |mk:∀a C dx fs,(x=.ref a)->(H2 a=some (.ins C dx fs))->(Cls K C)->(NoAttr K C f)->(fs.length<1000)->(D.nx σ (upd H2 a (.ins C dx (X7 f y fs))))->sFldW K f D σ y x H2
def aHZ(K:FZ)(ta tv:TE)(f:Str):TS:=λD σ H=>tv σ H λy H1=>ta σ H1 λx H2=>sFldW K f D σ y x H2
def ZL(X:Cx)(op:Operator)(rd:V->V->Hp->VK->Prop):Prop:=
 ∀(pins:List (Addr×Obj)) (s:Shared) (σ:St) (H:Hp) (x y:V) (u v:Value) (Q:VK),Inv X pins σ H s->RelV x u->RelV y v->rd x y H Q->wpAny (model X.prog X.w) X.A (inplaceOp op u v) (EP X pins σ Q) X.xe s
def TF(K:FZ)(ta tv:TE)(rd:V->V->Hp->VK->Prop)(f:Str):TS:=λD σ H=>ta σ H λx H1=>∃a C dx fs v,x=.ref a/\H1 a=some (.ins C dx fs)/\Cls K C/\NoAttr K C f/\fs.lookup f=some v/\
 tv σ H1 λy H2=>rd v y H2 λz H3=>∃dx' fs',H3 a=some (.ins C dx' fs')/\fs'.length<1000/\D.nx σ (upd H3 a (.ins C dx' (X7 f z fs')))
section
variable{X:Cx}{o e value:Expr}{f:Str}{pos pos' tpos:Pos}{ta tv:TE}
theorem O1(he:PE X e ta)(hb:attributeBase e f X.env (eval e X.env)=eval e X.env):PE X (.Attribute e f pos) (aBZ X.K ta f):=by
 intro pins s σ H Q I h
 refine SY hb (thn (he pins s σ H _ I h) λu s1 ⟨x,H1,I1,rx,a,C,dx,fs,v,ex,ea,c,n,l,q⟩=> ?_)
 subst ex
 obtain rfl:u=Value.ref a:=rx
 exact ER I1 ea c n l λu' s2 I2 ru=>⟨v,H1,I2,ru,q⟩
theorem ID(ha:PE X o ta)(hv:PE X value tv)(hs:swapsWith value (some (.Attribute o f pos')) pos.line X.env=pure false):PS X (.Assign [.Attribute o f pos'] value pos) (aHZ X.K ta tv f):=by
 intro pins s σ H D I h
 refine plainObj_wpAny_Assign_Attribute (thn (hv pins s σ H _ I h) λu s1 ⟨y,H1,I1,ry,q⟩=>thn (ha pins s1 σ H1 _ I1 q) λov s2 ⟨x,H2,I2,rx,a,C,dx,fs,ex,ea,c,n,l,q2⟩=> ?_) hs
 subst ex
 obtain rfl:ov=Value.ref a:=rx
 exact EC I2 ea c n l ry λs3 I3=>⟨σ,_,I3,q2⟩
theorem GE{op:Operator}{rd:V->V->Hp->VK->Prop}(ha:PE X o ta)(hv:PE X value tv)(hop:ZL X op rd):PS X (.AugAssign (.Attribute o f tpos) op value pos) (TF X.K ta tv rd f):=by
 intro pins s σ H D I h
 refine wpAny_AugAssign_AttributeAny (thn (ha pins s σ H _ I h) λov s1 ⟨x,H1,I1,rx,a,C,dx,fs,v,ex,ea,c,n,l,q⟩=> ?_)
 subst ex
 obtain rfl:ov=Value.ref a:=rx
 refine ER I1 ea c n l λu s2 I2 ru=>thn (hv pins s2 σ H1 _ I2 q) λw3 s3 ⟨y,H2,I3,ry,q3⟩=>thn (hop pins s3 σ H2 v y u w3 _ I3 ru ry q3) λw4 s4 ⟨z,H3,I4,rz,dx',fs',ea',l',q4⟩=> ?_
 exact EC I4 ea' c n l' rz λs5 I5=>⟨σ,_,I5,q4⟩
inductive rAdd (x:V) (y:V) (H:Hp) (Q:VK):Prop
 |mk:∀i j,(x=.int i)->(y=.int j)->(Q (.int (i+j)) H)->rAdd x y H Q
theorem QZ:ZL X .Add rAdd:=by
 rintro pins s σ H x y u v Q I rx ry ⟨i,j,rfl,rfl,q⟩
 obtain⟨t,rfl⟩:=(show∃t,u=Value.int i t from rx)
 obtain⟨t',rfl⟩:=(show∃t',v=Value.int j t' from ry)
 exact PyProof.Rows.iadd_int ⟨.int (i+j),H,I.tok _,⟨_,rfl⟩,q⟩
variable{pins:List (Addr×Obj)}{σ:St}{H:Hp}{s:Shared}{A:Around}{E:Value->Shared->Prop}{Q:Value->Shared->Prop}{c:Value}{b:Bool}
inductive TyOf(K:FZ)(H:Hp):V->Value->Prop where
 |non:TyOf K H .non (.type "NoneType")
 |bl (x:Bool):TyOf K H (.bl x) (.type "bool")
 |int (i:Int):TyOf K H (.int i) (.type "int")
 |str (x:Str):TyOf K H (.str x) (.type "str")
 |flt (x:UInt64):TyOf K H (.flt x) (.type "float")
 |lst {a:Addr} {xs:List V} (e:H a=some (.lst xs)):TyOf K H (.ref a) (.type "list")
 |frz {a:Addr} {o:Obj} {xs:List V} (e:H a=some (.frz o (.lst xs))):TyOf K H (.ref a) (.type "list")
 |tup {a:Addr} {xs:List V} (e:H a=some (.tup xs)):TyOf K H (.ref a) (.type "tuple")
 |dK {a:Addr} {kvs:List (Key×V)} (e:H a=some (.dK kvs)):TyOf K H (.ref a) (.type "dict")
 |dT {a:Addr} {kvs:List (List Key×V)} (e:H a=some (.dT kvs)):TyOf K H (.ref a) (.type "dict")
 |ins {a C dx:Addr} {fs:List (Str×V)} (e:H a=some (.ins C dx fs)) (cl:Cls K C) (ha:findIn K (.ref C) "__class__"=some (some (.builtin "object.__class__")))
   (hn:PySem.W.specialIn K (.builtin "object.__class__") "__get__"=some (some (.builtin "getset_descriptor.__get__"))) (htk:PySem.W.takesIn K (.builtin "object.__class__")=some true)
   (hm:PySem.W.mroIn K C (.type "object")=some true):TyOf K H (.ref a) (.ref C)
theorem ON{x:V}{u t:Value}(I:Inv X pins σ H s)(rx:RelV x u)(ty:TyOf X.K H x t)(e:kitOne X.K t c=some b)(h:∀tk,Q (.bool b) {s with toks:=tk}):
  wpAny (model X.prog X.w) A (call (.builtin "isinstance") [u,c]) Q E s:=by
 cases ty with
 |non=>cases(show u=Value.none from rx);exact kia_one PySem.W.kitx_none I.kIn True.intro e (λz=>nomatch z) h
 |bl y=>cases(show u=Value.bool y from rx);exact kia_one PySem.W.kitx_bool I.kIn True.intro e (λz=>nomatch z) h
 |int i=>obtain⟨t,q⟩:=(show∃t,u=Value.int i t from rx);cases q;exact kia_one PySem.W.kitx_int I.kIn True.intro e (λz=>nomatch z) h
 |str y=>obtain⟨t,q⟩:=(show∃t,u=Value.str y t from rx);cases q;exact kia_one PySem.W.kitx_str I.kIn True.intro e (λz=>nomatch z) h
 |flt y=>obtain⟨t,q⟩:=(show∃t,u=Value.float y t from rx);cases q;exact kia_one PySem.W.kitx_float I.kIn True.intro e (λz=>nomatch z) h
 | @lst a xs ea=>
  cases(show u=Value.ref a from rx)
  obtain⟨_,_,n,_,h1⟩:=(show ObjOk X.prog X.w H s.heap a (.lst xs)from I.hok a _ ea)
  exact kia_one PySem.W.kitx_list I.kIn ⟨_,h1,rfl⟩ e (λz=>nomatch z) h
 | @frz a ob xs ea=>
  cases(show u=Value.ref a from rx)
  obtain⟨_,_,_,n,_,h1⟩:=(show ObjOk X.prog X.w H s.heap a (.frz ob (.lst xs))from I.hok a _ ea)
  exact kia_one PySem.W.kitx_list I.kIn ⟨_,h1,rfl⟩ e (λz=>nomatch z) h
 | @tup a xs ea=>
  cases(show u=Value.ref a from rx)
  obtain⟨_,_,_,p⟩:=(show ObjOk X.prog X.w H s.heap a (.tup xs)from I.hok a _ ea)
  obtain⟨o,h1,h2,_⟩:=p
  exact kia_one PySem.W.kitx_tuple I.kIn ⟨o,h1,h2⟩ e (λz=>nomatch z) h
 | @dK a kvs ea=>
  cases(show u=Value.ref a from rx)
  obtain⟨_,_,vs,_,p⟩:=(show ObjOk X.prog X.w H s.heap a (.dK kvs)from I.hok a _ ea)
  obtain⟨o,es,ep,h1,h2,_⟩:=p
  exact kia_one PySem.W.kitx_dict I.kIn ⟨o,h1,h2.1⟩ e (λz=>nomatch z) h
 | @dT a kvs ea=>
  cases(show u=Value.ref a from rx)
  obtain⟨_,_,xs,_,o,es,ep,h1,h2,_⟩:=(show ObjOk X.prog X.w H s.heap a (.dT kvs)from I.hok a _ ea)
  exact kia_one PySem.W.kitx_dict I.kIn ⟨o,h1,h2.1⟩ e (λz=>nomatch z) h
 | @ins a C dx fs ea cl ha hn htk hm=>
  cases(show u=Value.ref a from rx)
  obtain⟨mA,O,_⟩:=DQ I.hok ea
  obtain⟨od,J,_⟩:=O.look
  exact kia_one (PySem.W.kitx_own (cl.get _) cl.hd ha hn htk hm) I.kIn J e (λz=>nomatch z) h
end
structure Room (k:Nat) (A:Around):Prop where
 hd:A.handled=none
 dp:A.depth+3*k+5<recursionLimit
 un:A.units+16*k+200<cLine
theorem Room.mono{j k:Nat}{A:Around}(r:Room k A)(h:j<=k):Room j A:=⟨r.hd,by have:=r.dp;omega,by have:=r.un;omega⟩
theorem Room.deeper{k:Nat}{A:Around}(r:Room (k+1) A)(env:Env):Room k (A.deeper env):=
 ⟨r.hd,by have:=r.dp;show A.depth+1+3*k+5<_;omega,by have:=r.un;show A.units+3+16*k+200<_;omega⟩
theorem LO{A:Around}{C:Addr}{us:List Value}{kw:List (Str×Value)}:(A.under (.builtin "type.__call__" ⟨.ref C::us,kw⟩)).depth=A.depth+1:=by
 first|rfl|simp[Around.under,Code.weight,Code.isCreation,Code.isGuard,Code.isCaller,Code.frames,Code.isFrame,guardIds]
theorem MA{A:Around}{C:Addr}{us:List Value}{kw:List (Str×Value)}:(A.under (.builtin "type.__call__" ⟨.ref C::us,kw⟩)).units=A.units+1:=by
 first|rfl|simp[Around.under,Code.cUnits,Code.frames,Code.isFrame]
theorem Room.make{k:Nat}{A:Around}(r:Room (k+1) A)(C:Addr)(us:List Value)(kw:List (Str×Value)):Room k (A.under (.builtin "type.__call__" ⟨.ref C::us,kw⟩)):=
 ⟨r.hd,by have:=r.dp;rw[LO];omega,by have:=r.un;rw[MA];omega⟩
theorem Room.depth{k:Nat}{A:Around}(r:Room k A):A.depth<recursionLimit:=by have:=r.dp;omega
theorem Room.units{k:Nat}{A:Around}(r:Room k A):A.units+64<cLine:=by have:=r.un;omega
theorem Room.units0{k:Nat}{A:Around}(r:Room k A):A.units<cLine:=by have:=r.un;omega
def TB:TA:=λ_ H Q=>Q [] H
def ZB(ta:TE)(tr:TA):TA:=fun σ H Q=>ta σ H λx H1=>tr σ H1 λxs H2=>Q (x::xs) H2
section
variable{X:Cx}{e:Expr}{es:List Expr}{te:TE}{t:TA}{pos:Pos}
theorem A4:PA X [] TB:=λ_ _ _ _ H Q I h=>Calls.spliced_nil ⟨[],H,I,.nil,h⟩
theorem A0(ha:PE X e te)(hr:PA X es t)(hs:starEach (e::es) X.env=(false,eval e X.env)::starEach es X.env:=by rfl):PA X (e::es) (ZB te t):=by
 intro pos pins s σ H Q I h
 rw[hs]
 show wpAny _ _ (spliced ((false,eval e X.env)::backTo pos (starEach es X.env))) _ _ s
 refine Calls.spliced_cons (thn (ha pins s σ H _ I h) λu s1 ⟨x,H1,I1,r1,q1⟩=> ?_)
 exact thn (hr pos pins s1 σ H1 _ I1 q1) λus s2 ⟨xs,H2,I2,r2,q2⟩=>⟨x::xs,H2,I2,.cons r1 r2,q2⟩
inductive tTupW (Q:VK) (xs:List V) (H1:Hp):Prop
 |mk:(xs.length<=sizeLine)->(∀p,H1 p=none->Q (.ref p) (upd H1 p (.tup xs)))->tTupW Q xs H1
def aQZ(t:TA):TE:=fun σ H Q=>t σ H λxs H1=>tTupW Q xs H1
inductive tLstW (Q:VK) (xs:List V) (H1:Hp):Prop
 |mk:(xs.length<=sizeLine)->(∀p,H1 p=none->Q (.ref p) (upd H1 p (.lst xs)))->tLstW Q xs H1
def aDZ(t:TA):TE:=fun σ H Q=>t σ H λxs H1=>tLstW Q xs H1
theorem B5{x1}(h:PA X es t):PE X (.Tuple es x1 pos) (aQZ t):=by
 intro pins s σ H Q I hq
 refine wpAny_Tuple_spliced (thn (h pos pins s σ H _ I hq) λus s1 ⟨xs,H1,I1,r,z,q⟩=>⟨by rw[<-r.length];exact z, ?_⟩)
 have hf:H1 s1.heap.objs.size=none:=I1.hok.fresh (le_refl _)
 refine⟨.ref s1.heap.objs.size,upd H1 s1.heap.objs.size (.tup xs),I1.laid (t':=s1.toks) (λb u e=>gZ _ e) (le_refl _) ?_,rfl,q _ hf⟩
 exact⟨z,us,r,⟨_,get?_push_size _ rfl,rfl,_,rfl⟩⟩
theorem P6(h:PA X es t):PE X (.List es pos) (aDZ t):=by
 intro pins s σ H Q I hq
 refine wpAny_List_spliced (thn (h pos pins s σ H _ I hq) λus s1 ⟨xs,H1,I1,r,z,q⟩=>⟨by rw[<-r.length];exact z, ?_⟩)
 have hf:H1 s1.heap.objs.size=none:=I1.hok.fresh (le_refl _)
 refine⟨.ref s1.heap.objs.size,upd H1 s1.heap.objs.size (.lst xs),I1.laid (t':=s1.toks) (λb u e=>gZ _ e) (le_refl _) ?_,rfl,q _ hf⟩
 exact⟨z,us,0,r,get?_push_size _ rfl⟩
end
abbrev Sp:=List V->Hp->VK->XK->Prop
abbrev CXT:=List Env->Hp->Shared->XK->Value->Shared->Prop
structure Env0 (P:Program) (w:World) (K:FZ) (mg:Str->Option Value) (base:Heap) (A:Around) (outer:List Env) (s:Shared) (H:Hp):Prop where
 frames:A.frames=some outer
 mod:Mod K mg base
 bs:∀b o,base.get? b=some o->s.heap.get? b=some o/\H b=none
 bsz:base.objs.size<=s.heap.objs.size
 funs:s.heap.FunFrames base outer
 frf:∀b∈frs outer,H b=none
 hok:HOk P w H s.heap
 bare:AllBare s.gens
def CE(outer:List Env)(P:Program)(w:World)(H:Hp)(s:Shared)(Q:VK)(u:Value)(s':Shared):Prop:=
 ∃v H',s'.os=s.os/\AllBare s'.gens/\Un (frs outer) [] H H' s.heap s'.heap/\HOk P w H' s'.heap/\RelV v u/\Q v H'
def CR(CX:CXT)(outer:List Env)(P:Program)(w:World)(H:Hp)(s:Shared)(Q:VK)(E:XK)(r:Result)(s':Shared):Prop:=
 match r with
 | .ok (.ret u)=>CE outer P w H s Q u s'
 | .ok _=>False
 | .error e=>CX outer H s E e s'
structure FnOk (P:Program) (w:World) (K:FZ) (mg:Str->Option Value) (base:Heap) (CX:CXT) (k:Nat) (f:Addr) (fd:FuncData) (ps:List Str) (sp:Sp):Prop where
 len:∀vs H Q E,sp vs H Q E->vs.length=ps.length
 run:∀(A:Around) (outer:List Env) (s:Shared) (H:Hp) (args:Args) (us:List Value) (vs:List V) (Q:VK) (E:XK),Room k A->Env0 P w K mg base A outer s H->BindsTo s fd args (ps.zip us)->Vals vs us->sp vs H Q E->
  codeAny (model P w) A (.call (.ref f) args) (CR CX outer P w H s Q E) s
theorem FnOk.mono{P:Program}{w:World}{K:FZ}{mg:Str->Option Value}{base:Heap}{CX:CXT}{j k:Nat}{f:Addr}{fd:FuncData}{ps:List Str}{sp:Sp}(F:FnOk P w K mg base CX j f fd ps sp)(h:j<=k):
  FnOk P w K mg base CX k f fd ps sp:=⟨F.len,λA outer s H args us vs Q E hr=>F.run A outer s H args us vs Q E (hr.mono h)⟩
theorem FnOk.imp{P:Program}{w:World}{K:FZ}{mg:Str->Option Value}{base:Heap}{CX:CXT}{k:Nat}{f:Addr}{fd:FuncData}{ps:List Str}{sp sp':Sp}(F:FnOk P w K mg base CX k f fd ps sp)
  (h:∀vs H Q E,sp' vs H Q E->sp vs H Q E):FnOk P w K mg base CX k f fd ps sp':=
 ⟨λvs H Q E q=>F.len vs H Q E (h _ _ _ _ q),λA outer s H args us vs Q E hr he hb hv hs=>F.run A outer s H args us vs Q E hr he hb hv (h _ _ _ _ hs)⟩
theorem Env0.make{P:Program}{w:World}{K:FZ}{mg:Str->Option Value}{base:Heap}{A:Around}{outer:List Env}{s:Shared}{H:Hp}(e:Env0 P w K mg base A outer s H)(C:Addr)(us:List Value)(kw:List (Str×Value)):
  Env0 P w K mg base (A.under (.builtin "type.__call__" ⟨.ref C::us,kw⟩)) outer s H:=⟨by first|exact e.frames|(simpa [Around.under,Code.envs,Code.isFrame,pushEnvs]using e.frames),e.mod,e.bs,e.bsz,e.funs,e.frf,e.hok,e.bare⟩
section
variable{X:Cx}{pins:List (Addr×Obj)}{σ:St}{H:Hp}{s s':Shared}
theorem Inv.env0(I:Inv X pins σ H s):Env0 X.prog X.w X.K X.mg X.base X.A X.stack s H:=
 ⟨I.ok.frames,I.ok.mod,I.bs,le_trans I.ok.bsz I.sz,I.stack,I.stkFree,I.hok,I.bare⟩
theorem Inv.after{Q:VK}{u:Value}(I:Inv X pins σ H s)(h:CE X.stack X.prog X.w H s Q u s'):EP X pins σ Q u s':=by
 obtain⟨v,H',os,bare,un,hok,r,q⟩:=h
 obtain⟨hh,g,d,t,os'⟩:=s'
 obtain rfl:os'=s.os:=os
 exact⟨v,H',I.call (h':=hh) (g':=g) (d':=d) (t':=t) (ch:=[]) un hok bare (λb z=>absurd z (by simp)),r,q⟩
end
def aiZ(sp:Sp)(dvs:List V)(E:XK)(t:TA):TE:=fun σ H Q=>t σ H λvs H1=>sp (vs++dvs) H1 Q E
inductive tMethW (C:Addr) (m:Str) (sp:Sp) (dvs:List V) (E:XK) (t:TA) (σ:St) (Q:VK) (x:V) (H1:Hp):Prop
 |mk:∀a dx fs,(x=.ref a)->(H1 a=some (.ins C dx fs))->(fs.lookup m=none)->(t σ H1 λvs H2=>sp (x::(vs++dvs)) H2 Q E)->tMethW C m sp dvs E t σ Q x H1
def MZ(C:Addr)(m:Str)(sp:Sp)(dvs:List V)(E:XK)(ta:TE)(t:TA):TE:=fun σ H Q=>ta σ H λx H1=>tMethW C m sp dvs E t σ Q x H1
def YT(C:Addr)(sp:Sp)(dvs:List V)(E:XK)(t:TA):TE:=fun σ H Q=>t σ H λvs H1=>∀x dx,H1 x=none->H1 dx=none->dx≠x->
 sp (.ref x::(vs++dvs)) (upd (upd H1 dx (.own x)) x (.ins C dx [])) (λv H2=>v=.non/\Q (.ref x) H2) E
def Binds(K:FZ)(fd:FuncData)(ps:List Str)(ds:List Value):Prop:=
 ∀(s:Shared) (us:List Value),K.In s.heap->(us++ds).length=ps.length->BindsTo s fd ⟨us,[]⟩ (ps.zip (us++ds))
theorem Binds.all{K:FZ}{fd:FuncData}{ps:List Str}(h:∀us:List Value,us.length=ps.length->bindArgs fd ⟨us,[]⟩=pure (ps.zip us)):Binds K fd ps []:=λs us _ hl=>by
 rw[append_nil]at hl⊢
 exact .of_eq (h us hl)
def X5(CX:CXT)(X:Cx)(E:XK):Prop:=∀(pins:List (Addr×Obj)) (σ:St) (H:Hp) (s:Shared) (e:Value) (s':Shared),Inv X pins σ H s->CX X.stack H s E e s'->X.xe e s'
section
variable{X:Cx}{CX:CXT}{k:Nat}{f C:Addr}{fd:FuncData}{ps:List Str}{sp:Sp}{dvs:List V}{ds:List Value}{E:XK}{x m:Str}{p pos apos:Pos}{e o:Expr}{es:List Expr}{ta:TE}{t:TA}
theorem FD{pins:List (Addr×Obj)}{σ:St}{H:Hp}{s:Shared}{Q:VK}{us:List Value}{vs:List V}(F:FnOk X.prog X.w X.K X.mg X.base CX k f fd ps sp)(hr:Room k X.A)(hb:Binds X.K fd ps ds)(hd:Vals dvs ds)(hx:X5 CX X E)
  (I:Inv X pins σ H s)(r:Vals vs us)(h:sp (vs++dvs) H Q E):wpAny (model X.prog X.w) X.A (call (.ref f) us) (EP X pins σ Q) X.xe s:=by
 have r2:Vals (vs++dvs) (us++ds):=r.append hd
 have hl:(us++ds).length=ps.length:=by rw[<-r2.length];exact F.len _ _ _ _ h
 refine wpAny_call (codeAny_mono (F.run X.A X.stack s H ⟨us,[]⟩ (us++ds) (vs++dvs) Q E hr I.env0 (hb s us I.kIn hl) r2 h) λr s' hq=> ?_)
 cases r with
 |error e=>exact hx pins σ H s e s' I hq
 |ok fl=>
  cases fl with
  |ret u=>exact I.after hq
  |next=>exact False.elim hq
  |brk=>exact False.elim hq
  |cont=>exact False.elim hq
theorem B6(F:FnOk X.prog X.w X.K X.mg X.base CX k f fd ps sp)(hr:Room k X.A)(hg:Gl X x)(hm:X.mg x=some (.ref f))(hk:kZ X.K (.ref f)=true)(hb:Binds X.K fd ps ds)(hd:Vals dvs ds)(hx:X5 CX X E)
  (ha:PA X (e::es) t)(hdb:(x==("__debug__":Str))=false:=by decide)(he:starEach (e::es) X.env=(false,eval e X.env)::starEach es X.env:=by rfl)(hpl:(backTo pos (starEach es X.env)).any (·.1)=false:=by rfl):
  PE X (.Call (.Name x p) (e::es) [] pos) (aiZ sp dvs E t):=by
 intro pins s σ H Q I h
 refine wpAny_Call_Name_kw (AG I hg hm ?_ hdb)
 refine callWith_K (h₀:=X.base) I.ok.mod.kin hk (thn (ha pos pins s σ H _ I h) λus s1 ⟨vs,H1,I1,r,q⟩=>⟨I1.kIn, ?_⟩) he hpl
 exact FD F hr hb hd hx I1 r q
theorem E5{pl:Sem Bool}(he:PE X o ta)(c:Cls X.K C)(hm:Meth X.K C m f)(F:FnOk X.prog X.w X.K X.mg X.base CX k f fd ps sp)(hr:Room k X.A)(hb:Binds X.K fd ps ds)(hd:Vals dvs ds)(hx:X5 CX X E)(ha:PA X (e::es) t)
  (hst:starEach (e::es) X.env=(false,eval e X.env)::starEach es X.env:=by rfl)(hpl:(backTo pos (starEach es X.env)).any (·.1)=false:=by rfl)
  (ht:eval (.Call (.Attribute o m apos) (e::es) [] pos) X.env=(do
   let ov<-eval o X.env
   standAt apos.atName
   let(f,first)<-holding [ov] (getMethod ov m pl)
   callWith pos f first (backTo pos (starEach (e::es) X.env)) (backToKw pos (keywordEach [] X.env))):=by rfl):
  PE X (.Call (.Attribute o m apos) (e::es) [] pos) (MZ C m sp dvs E ta t):=by
 intro pins s σ H Q I h
 refine PySem.W.methodCall_KW (pl:=pl) (thn (he pins s σ H _ I h) λu s1 ⟨x,H1,I1,rx,a,dx,fs,ex,ea,l,q⟩=> ?_) ht
 subst ex
 obtain rfl:u=Value.ref a:=rx
 refine BA I1 ea c hm l ?_
 refine callWith_K (first:=[.ref a]) (h₀:=X.base) I.ok.mod.kin hm.kp (thn (ha pos pins s1 σ H1 _ I1 q) λus s2 ⟨vs,H2,I2,r,q2⟩=>⟨I2.kIn, ?_⟩) hst hpl
 exact FD (us:=.ref a::us) (vs:=.ref a::vs) F hr hb hd hx I2 (.cons rfl r) q2
theorem BO{pl:Sem Bool}(he:PE X o ta)(c:Cls X.K C)(hm:Meth X.K C m f)(F:FnOk X.prog X.w X.K X.mg X.base CX k f fd ps sp)(hr:Room k X.A)(hb:Binds X.K fd ps ds)(hd:Vals dvs ds)(hx:X5 CX X E)
  (ht:eval (.Call (.Attribute o m apos) [] [] pos) X.env=(do
   let ov<-eval o X.env
   standAt apos.atName
   let(f,first)<-holding [ov] (getMethod ov m pl)
   callWith pos f first (backTo pos (starEach [] X.env)) (backToKw pos (keywordEach [] X.env))):=by rfl):
  PE X (.Call (.Attribute o m apos) [] [] pos) (MZ C m sp dvs E ta TB):=by
 intro pins s σ H Q I h
 refine PySem.W.methodCall_KW (pl:=pl) (thn (he pins s σ H _ I h) λu s1 ⟨x,H1,I1,rx,a,dx,fs,ex,ea,l,q⟩=> ?_) ht
 subst ex
 obtain rfl:u=Value.ref a:=rx
 refine BA I1 ea c hm l ?_
 exact PySem.W.callWith_K0 (first:=[.ref a]) I1.kIn hm.kp (FD (us:=[.ref a]) (vs:=[.ref a]) F hr hb hd hx I1 (.cons rfl .nil) q)
structure Mk (K:FZ) (C f:Addr):Prop where
 makes:PySem.W.makesIn K C=true
 init:findIn K (.ref C) "__init__"=some (some (.ref f))
 fn:PySem.W.isFn K (.ref f)=true
 kp:kZ K (.ref C)=true
theorem PQ{pins:List (Addr×Obj)}{σ:St}{H:Hp}{s:Shared}{Q:VK}{us:List Value}{vs:List V}(M:Mk X.K C f)(F:FnOk X.prog X.w X.K X.mg X.base CX k f fd ps sp)(hr:Room (k+1) X.A)(hb:Binds X.K fd ps ds)(hd:Vals dvs ds)
  (hx:X5 CX X E)(I:Inv X pins σ H s)(r:Vals vs us)
  (h:∀x dx,H x=none->H dx=none->dx≠x->sp (.ref x::(vs++dvs)) (upd (upd H dx (.own x)) x (.ins C dx [])) (λv H2=>v=.non/\Q (.ref x) H2) E):
  wpAny (model X.prog X.w) X.A (call (.ref C) us) (EP X pins σ Q) X.xe s:=by
 have hq:=h (s.heap.objs.size+1) s.heap.objs.size (I.hok.fresh (le_succ _)) (I.hok.fresh (le_refl _)) (ne_of_lt (lt_succ_self _))
 have I2:=Inv.made (C:=C) I
 have r2:Vals (V.ref (s.heap.objs.size+1)::(vs++dvs)) (Value.ref (s.heap.objs.size+1)::(us++ds)):=.cons rfl (r.append hd)
 have hl:(Value.ref (s.heap.objs.size+1)::us++ds).length=ps.length:=by
  have e:=r2.length
  rw[F.len _ _ _ _ hq]at e
  exact e.symm
 refine wpAny_call (SG (f:=f) I.kIn M.makes M.init (beq_iff_eq.mp M.fn) (codeAny_mono (F.run _ X.stack _ _ ⟨Value.ref (s.heap.objs.size+1)::us,[]⟩ (Value.ref (s.heap.objs.size+1)::(us++ds)) _ _ E (hr.make C us [])
  (I2.env0.make C us []) (hb _ (Value.ref (s.heap.objs.size+1)::us) I2.kIn hl) r2 hq) λr s' hq'=> ?_))
 cases r with
 |error e=>exact hx pins σ _ _ e s' I2 hq'
 |ok fl=>
  cases fl with
  |ret u=>
   obtain⟨v,H',I3,rv,ev,q3⟩:=I2.after hq'
   subst ev
   exact⟨rv,⟨V.ref (s.heap.objs.size+1),H',I3,rfl,q3⟩⟩
  |next=>exact False.elim hq'
  |brk=>exact False.elim hq'
  |cont=>exact False.elim hq'
theorem IX(M:Mk X.K C f)(F:FnOk X.prog X.w X.K X.mg X.base CX k f fd ps sp)(hr:Room (k+1) X.A)(hg:Gl X x)(hm:X.mg x=some (.ref C))(hb:Binds X.K fd ps ds)(hd:Vals dvs ds)(hx:X5 CX X E)
  (hdb:(x==("__debug__":Str))=false:=by decide):PE X (.Call (.Name x p) [] [] pos) (YT C sp dvs E TB):=by
 intro pins s σ H Q I h
 refine wpAny_Call_Name_kw (AG I hg hm ?_ hdb)
 exact PySem.W.callWith_K0 I.kIn M.kp (PQ (us:=[]) M F hr hb hd hx I .nil h)
variable{ks:List Str}{kpos:Pos}{kws:List Keyword}{te:TE}{tk:TA}{nm:Option Str}
variable{g:List Value->List Value->List Value}{gV:List V->List V->List V}
end
structure FnScope(N P:List Str)(sc:Scope):Prop where
 kind:sc.kind=.function
 co:sc.isCoroutine=false
 gen:sc.isGenerator=false
 nd:N.Nodup
 pre:N.take P.length=P
 par:∀x∈P,sc.names.lookup x=some .local\/sc.names.lookup x=some .cell
 nofree:∀y∈sc.names,y.2≠ .free
theorem GN{kindOf:Str->Option NameKind}{x:Str}:∀ {binds:List (Str×Value)} {m:Str->Option Value},(∀v,(x,v)∉binds)->bindL kindOf binds m x=m x
 | [],_,_=>rfl
 |(n,v)::r,m,h=>by
  unfold bindL
  rw[GN λw hw=>h w (mem_cons_of_mem _ hw)]
  split
  ·have:x≠n:=by rintro rfl;exact h v mem_cons_self
   simp[this]
  ·rfl
theorem GX{kindOf:Str->Option NameKind}{x:Str}:∀ {binds:List (Str×Value)} {m:Str->Option Value},(∀v,(x,v)∉binds)->bindC kindOf binds m x=m x
 | [],_,_=>rfl
 |(n,v)::r,m,h=>by
  unfold bindC
  rw[GX λw hw=>h w (mem_cons_of_mem _ hw)]
  split
  ·rfl
  ·have:x≠n:=by rintro rfl;exact h v mem_cons_self
   simp[this]
theorem GY{kindOf:Str->Option NameKind}{x:Str}{v:Value}:∀ {P:List Str} {vs:List Value} {i:Nat} {m:Str->Option Value},P.Nodup->P[i]? =some x->vs[i]? =some v->kindOf x=some .local->
  bindL kindOf (P.zip vs) m x=some v
 | [],_,_,_,_,h,_,_=>by simp at h
 |_::_,[],_,_,_,_,h,_=>by simp at h
 |p::P,w::vs,0,m,nd,h1,h2,hk=>by
  simp at h1 h2;subst h1;subst h2
  show bindL kindOf ((p,w)::P.zip vs) m p=_
  unfold bindL
  rw[GN λv hv=>(nodup_cons.mp nd).1 (of_mem_zip hv).1,if_pos hk]
  simp
 |p::P,w::vs,i+1,m,nd,h1,h2,hk=>by
  show bindL kindOf ((p,w)::P.zip vs) m x=_
  unfold bindL
  exact GY (i:=i) (nodup_cons.mp nd).2 (by simpa using h1) (by simpa using h2) hk
theorem GG{kindOf:Str->Option NameKind}{x:Str}{v:Value}:∀ {P:List Str} {vs:List Value} {i:Nat} {m:Str->Option Value},P.Nodup->P[i]? =some x->vs[i]? =some v->kindOf x≠some .local->
  bindC kindOf (P.zip vs) m x=some v
 | [],_,_,_,_,h,_,_=>by simp at h
 |_::_,[],_,_,_,_,h,_=>by simp at h
 |p::P,w::vs,0,m,nd,h1,h2,hk=>by
  simp at h1 h2;subst h1;subst h2
  show bindC kindOf ((p,w)::P.zip vs) m p=_
  unfold bindC
  rw[GX λv hv=>(nodup_cons.mp nd).1 (of_mem_zip hv).1,if_neg hk]
  simp
 |p::P,w::vs,i+1,m,nd,h1,h2,hk=>by
  show bindC kindOf ((p,w)::P.zip vs) m x=_
  unfold bindC
  exact GG (i:=i) (nodup_cons.mp nd).2 (by simpa using h1) (by simpa using h2) hk
def start(N:List Str)(vs:List V):St:=vs.map some++List.replicate (N.length - vs.length) none
def L5(CX:CXT)(P:Program)(w:World)(K:FZ)(mg:Str->Option Value)(base:Heap)(N:List Str)(qual:Str)(scope:Scope)(f:Addr)(cd:Value)(A:Around)(outer:List Env)(s:Shared)(H:Hp)(E:XK):Cx where
 prog:=P
 w:=w
 K:=K
 mg:=mg
 base:=base
 A:=A.deeper (envOfC qual scope s.heap.objs.size f cd)
 N:=N
 s₀:=s
 H₀:=H
 env:=envOfC qual scope s.heap.objs.size f cd
 outer:=outer
 stack:=envOfC qual scope s.heap.objs.size f cd::outer
 ex:=[]
 calm:=true
 fn:=λ_=>true
 pn:=[]
 xe:=λe s'=>wpAny (model P w) (A.deeper (envOfC qual scope s.heap.objs.size f cd)) (leaving (envOfC qual scope s.heap.objs.size f cd) e) (λ_ s''=>CX outer H s E e s'') (λe' s''=>CX outer H s E e' s'') s'
theorem JB{sc:Scope}{n:Nat}{x:Str}(h:sc.names.lookup x=some .cell):∃c,(cellsFrom n sc.names []).lookup x=some c:=by
 have q:=PySem.W.cellsFrom_some sc.names n [] (.inl h)
 exact Option.isSome_iff_exists.mp q
theorem NQ{CX:CXT}{P:Program}{w:World}{K:FZ}{mg:Str->Option Value}{base:Heap}{N ps:List Str}{qual:Str}{scope:Scope}{f:Addr}{cd:Value}{A:Around}{outer:List Env}{s s1:Shared}{H:Hp}{E:XK}{us:List Value}{vs:List V}
  (S:FnScope N ps scope)(hd:A.handled=none)(e0:Env0 P w K mg base A outer s H)(hl:vs.length=ps.length)(r:Vals vs us)
  (x:InCallC s s.heap.objs.size (bindL (envOfC qual scope s.heap.objs.size f cd).kindOf (ps.zip us) λ_=>none) (cellsFrom (s.heap.objs.size+1) scope.names []) (bindC (envOfC qual scope s.heap.objs.size f cd).kindOf (ps.zip us) λ_=>none) s1):
  Inv (L5 CX P w K mg base N qual scope f cd A outer s H E) [] (start N vs) H s1:=by
 have hpl:ps.length<=N.length:=by have:=congrArg List.length S.pre;rw[length_take]at this;omega
 obtain⟨h1,tk,rfl,hk⟩:=x.done
 have noA:∀b:Addr,b∉(L5 CX P w K mg base N qual scope f cd A outer s H E).ex:=λb z=>absurd (show b∈([]:List Addr)from z) (by simp)
 refine⟨⟨e0.mod,S.kind,rfl,rfl,le_refl _,λy z c h1 h2=> ?_,λy hy=> ?_,λy c _ h=> ?_,λ_=>hd,Around.frames_deeper e0.frames,.inr ⟨rfl,rfl⟩,λb z=>absurd z (noA b),e0.bs,e0.bsz,λb _ _=>noA b,λb z=>absurd z (noA b),e0.funs,e0.frf⟩,
  rfl,e0.bare,Un.kept hk,⟨_,x.toInCall.ns,λi y v h1 h2 h3=> ?_⟩,λy c h=>⟨_,x.cell y c h⟩,e0.hok.fresh (le_refl _),λy c h=> ?_,λp hp=>absurd (show p∈([]:List (Addr×Obj))from hp) (by simp),e0.hok.kept hk, ?_⟩
 ·exact name_of_addr x.apart (PySem.mem_of_lookup h1) (PySem.mem_of_lookup h2)
 ·have hy:scope.names.lookup y=some .cell\/scope.names.lookup y=some .free:=hy
  rcases hy with hy|hy
  ·exact JB hy
  ·exact absurd rfl (S.nofree _ (PySem.mem_of_lookup hy))
 ·exact le_of_lt (x.above y c (PySem.mem_of_lookup h))
 ·have hi:i<vs.length:=by
   unfold start at h2
   by_cases hi:i<vs.length
   ·exact hi
   ·rw[List.getElem?_append_right (by simpa using hi)]at h2
    rw[List.getElem?_replicate]at h2
    split at h2<;>cases h2
  have ha:vs[i]? =some v:=by
   unfold start at h2
   rw[List.getElem?_append_left (by simpa using hi),getElem?_map]at h2
   cases e:vs[i]? with
   |none=>rw[e]at h2;cases h2
   |some a=>rw[e]at h2;cases h2;rfl
  obtain⟨u,hu,rv⟩:=r.get ha
  have hp:ps[i]? =some y:=by
   rw[<-S.pre,List.getElem?_take_of_lt (by omega)];exact h1
  have ndP:ps.Nodup:=by rw[<-S.pre];exact S.nd.sublist (List.take_sublist _ _)
  refine⟨u,rv, ?_⟩
  rcases S.par y (mem_of_getElem? hp)with k|k
  ·exact .inl ⟨k,GY ndP hp hu k⟩
  ·obtain⟨c,e⟩:=JB (n:=s.heap.objs.size+1) k
   refine .inr ⟨.inl k,c,e, ?_⟩
   have q:=x.cell y c e
   rw[GG ndP hp hu (by show scope.names.lookup y≠_;rw[k];decide)]at q
   exact q
 ·exact e0.hok.fresh (le_of_lt (x.above y c (PySem.mem_of_lookup h)))
 ·unfold start
  show _=N.length
  rw[length_append,length_map,List.length_replicate]
  omega
theorem MY{CX:CXT}{P:Program}{w:World}{K:FZ}{mg:Str->Option Value}{base:Heap}{k:Nat}{f:Addr}{name qual:Str}{params:Arguments}{body:List Stmt}{scope:Scope}{dV kV doc pm cdv ct oc:Value}{an od:Option Addr}
  {osl:Array (Option Value)}{N ps:List Str}{sp:Sp}(lk:K.lookup f=some ⟨oc,od,.func (fnOf name qual params body scope dV kV doc pm an cdv ct),osl⟩)(hcd:codeIn K cdv qual=true)(S:FnScope N ps scope)
  (len:∀vs H Q E,sp vs H Q E->vs.length=ps.length)
  (hbody:∀(A:Around) (outer:List Env) (s:Shared) (H:Hp) (vs:List V) (Q:VK) (E:XK),Room k (A.deeper (envOfC qual scope s.heap.objs.size f cdv))->sp vs H Q E->
   ∃t,PSs (L5 CX P w K mg base N qual scope f cdv A outer s H E) body t/\t {nx:=λ_ H'=>Q .non H',rt:=Q} (start N vs) H):
  FnOk P w K mg base CX (k+1) f (fnOf name qual params body scope dV kV doc pm an cdv ct) ps sp:=by
 refine⟨len,λA outer s H args us vs Q E hr e0 hb r hsp=> ?_⟩
 have hl:=len _ _ _ _ hsp
 have KX:K.In s.heap:=e0.mod.kin.keeps λb o e=>(e0.bs b o e).1
 have lim:s.heap.NoLimit:=e0.mod.nolimit.keeps λb o e=>(e0.bs b o e).1
 have hkind:∀y∈ps.zip us,scope.names.lookup y.1=some .local\/(scope.names.lookup y.1=some .cell/\((cellsFrom (s.heap.objs.size+1) scope.names []).lookup y.1).isSome=true):=λ⟨n,v⟩ hy=>by
  rcases S.par n (of_mem_zip hy).1 with q|q
  ·exact .inl q
  ·exact .inr ⟨q,PySem.W.cellsFrom_some _ _ _ (.inl q)⟩
 refine codeAny_call_function hr.depth (KX _ _ lk) rfl S.co S.gen rfl (PySem.W.codeRec_of KX hcd) (hb _ _ _ _ ?_)
 refine wpAny_newFunctionEnv_cells S.kind hkind λenv he s1 x=> ?_
 subst he
 refine⟨lim.keeps x.toInCall.keep,codeAny_func ?_⟩
 obtain⟨t,ht,hq⟩:=hbody A outer s H vs Q E (hr.deeper _) hsp
 have I:Inv (L5 CX P w K mg base N qual scope f cdv A outer s H E) [] (start N vs) H s1:=NQ S hr.hd e0 hl r x
 refine wpAny_mono (ht [] s1 (start N vs) H _ I hq) (λfl s' hs=> ?_) λe s' hs=>hs
 have fin:∀ {σ':St} {H':Hp} {v:V} {u:Value},Inv (L5 CX P w K mg base N qual scope f cdv A outer s H E) [] σ' H' s'->RelV v u->Q v H'->CE outer P w H s Q u s':=
  λ{σ' H' v u} J rv q=>⟨v,H',J.os,J.bare,J.base,J.hok,rv,q⟩
 cases fl with
 |ret u=>
  obtain⟨v,σ',H',J,rv,q⟩:=hs
  exact fin J rv q
 |next=>
  obtain⟨σ',H',J,q⟩:=hs
  exact fin (v:=V.non) (u:=Value.none) J rfl q
 |brk=>
  obtain⟨_,_,_,q⟩:=hs
  exact False.elim q
 |cont=>
  obtain⟨_,_,_,q⟩:=hs
  exact False.elim q
section
variable{X:Cx}{x:Str}{p pos:Pos}{e:Expr}{es:List Expr}{t:TA}{id T:String}{r:List V->Hp->VK->Prop}
def tCB(r:List V->Hp->VK->Prop)(t:TA):TE:=fun σ H Q=>t σ H λvs H1=>r vs H1 Q
theorem E8(hc:CallR X (.builtin id) r)(hg:Gl X x)(hm:X.mg x=none)(hv:bootBuiltins x=some (.builtin id))(ha:PA X (e::es) t)(hn:x≠ "__name__":=by decide)(hdb:(x==("__debug__":Str))=false:=by decide)
  (he:starEach (e::es) X.env=(false,eval e X.env)::starEach es X.env:=by rfl)(hpl:(backTo pos (starEach es X.env)).any (·.1)=false:=by rfl):PE X (.Call (.Name x p) (e::es) [] pos) (tCB r t):=by
 intro pins s σ H Q I h
 refine wpAny_Call_Name_kw (U0 I hg hm hv ?_ hn hdb)
 exact PyProof.Rows.callWith_builtin1 (thn (ha pos pins s σ H _ I h) λus s1 ⟨vs,H1,I1,r1,q1⟩=>hc pins s1 σ H1 vs us Q I1 r1 q1) he hpl
theorem V3(hc:CallR X (.type T) r)(hg:Gl X x)(hm:X.mg x=none)(hv:bootBuiltins x=some (.type T))(ha:PA X (e::es) t)(hn:x≠ "__name__":=by decide)(hdb:(x==("__debug__":Str))=false:=by decide)
  (he:starEach (e::es) X.env=(false,eval e X.env)::starEach es X.env:=by rfl)(hpl:(backTo pos (starEach es X.env)).any (·.1)=false:=by rfl):PE X (.Call (.Name x p) (e::es) [] pos) (tCB r t):=by
 intro pins s σ H Q I h
 refine wpAny_Call_Name_kw (U0 I hg hm hv ?_ hn hdb)
 exact callWith_type1 (thn (ha pos pins s σ H _ I h) λus s1 ⟨vs,H1,I1,r1,q1⟩=>hc pins s1 σ H1 vs us Q I1 r1 q1) he hpl
end
end L2
namespace HT
open PySem PyProof.Rows
section
open PySem.SeqAt
open PySem.AutoSeq1 (wpAny_loadPart')
open PySem.MeetsSeq PySem.MeetsSeq2 PySem.MeetsSeq3
end
section
variable{prog:Program}{w:World}{A:Around}{E:Value->Shared->Prop}{s:Shared}
theorem cat_tup{t b:Addr}{vs ws:List Value}{Q:Value->Shared->Prop}(ht:IsTup s.heap t vs.toArray)(hb:IsTup s.heap b ws.toArray)(hv:vs≠ [])
  (h1:ws=[]->Q (.ref t) s)(h2:ws≠ []->Q (.ref s.heap.objs.size) {s with heap:=s.heap.push {cls:=.type "tuple",data:=.seq (vs++ws).toArray}})
  (hsz:vs.length+ws.length<=sizeLine):wpAny (model prog w) A (binaryOp .Add (.ref t) (.ref b)) Q E s:=by
 obtain⟨⟨cls,dd,data,sl⟩,ho,hc,n,hd⟩:=id ht
 obtain⟨⟨cls2,dd2,data2,sl2⟩,ho2,hc2,n2,hd2⟩:=id hb
 simp only at hc hd hc2 hd2
 subst hc hd hc2 hd2
 have e:vs.toArray++ws.toArray=(vs++ws).toArray:=by simp
 by_cases hw:ws=[]
 ·exact concat_meets ⟨_,ho,rfl⟩ ⟨_,ho2,rfl⟩ noFill_tuple_add seq_tuple_add PySem.F.slot_tuple_add PySem.F.entry_tuple_add (PySem.F.args_tuple_add_2 _ _)
   (tuple_addW1 t b vs.toArray ws.toArray n n2 dd dd2 sl sl2 (by simpa using hv) (by simp[hw])) ⟨ho,ho2,h1 hw⟩
 ·refine concat_meets ⟨_,ho,rfl⟩ ⟨_,ho2,rfl⟩ noFill_tuple_add seq_tuple_add PySem.F.slot_tuple_add PySem.F.entry_tuple_add (PySem.F.args_tuple_add_2 _ _)
   (tuple_addW2 t b vs.toArray ws.toArray n n2 dd dd2 sl sl2 (by simpa using hv) (by simpa using hw) (by rw[size_toArray,size_toArray];exact hsz)) ⟨ho,ho2, ?_⟩
  rw[e]
  exact h2 hw
def sIx(n d:Nat):Option Int->Nat
 |none=>d
 |some v=>if v<0 then(v+(n:Int)).toNat else min v.toNat n
theorem sIx_none(n d:Nat):sIx n d none=d:=rfl
theorem sIx_nat(n d k:Nat):sIx n d (some (k:Int))=min k n:=by
 show(if(k:Int)<0 then((k:Int)+(n:Int)).toNat else min (k:Int).toNat n)=min k n
 rw[if_neg (by omega),Int.toNat_natCast]
theorem VQ(n d:Nat)(hd:d<=n)(o:Option Int):sIx n d o<=n:=by
 cases o with
 |none=>exact hd
 |some v=>
  show(if v<0 then(v+(n:Int)).toNat else min v.toNat n)<=n
  by_cases hv:v<0
  ·rw[if_pos hv];omega
  ·rw[if_neg hv];exact Nat.min_le_right _ _
theorem MN(v:Int)(n d:Nat):(if v<0 then max (v+(n:Int)) 0 else min v (n:Int))=((sIx n d (some v):Nat):Int):=by
 show(if v<0 then max (v+(n:Int)) 0 else min v (n:Int))=(((if v<0 then(v+(n:Int)).toNat else min v.toNat n):Nat):Int)
 by_cases hv:v<0
 ·simp only[if_pos hv];omega
 ·simp only[if_neg hv];omega
theorem LC(lo hi:Option Int)(n:Nat):Builtin.Slice.sliceAdjust lo hi 1 (n:Int)=(((sIx n 0 lo:Nat):Int),((sIx n n hi:Nat):Int)):=by
 have h1:¬((1:Int)<0):=by omega
 unfold Builtin.Slice.sliceAdjust
 simp only[h1,if_false]
 refine Prod.ext ?_ ?_
 ·cases lo with
  |none=>rfl
  |some v=>exact MN v n 0
 ·cases hi with
  |none=>rfl
  |some v=>exact MN v n n
theorem LI(i j:Nat):Builtin.Slice.slicePlaces (i:Int) (j:Int) 1=j - i:=by
 unfold Builtin.Slice.slicePlaces
 have h1:(1:Int)>0:=by omega
 simp only[h1,if_true,Int.ediv_one]
 split<;>omega
theorem FE{v:Value}{o:Option Int}{Q:Option Int->Shared->Prop}(p:IsPart v o)(h:Q o s):wpAny (model prog w) A (Builtin.Slice.slicePartIndex v) Q E s:=by
 cases p with
 |none=>exact slicePart_none h
 |int i t=>exact slicePart_int h
theorem V1{sl:Addr}{vl vu:Value}{lo hi:Option Int}{n:Nat}{Q:Int×Int×Nat->Shared->Prop}(hs:s.heap.IsSliceOf sl vl vu .none)(pl:IsPart vl lo)(pu:IsPart vu hi)
  (h:Q (((sIx n 0 lo:Nat):Int),1,sIx n n hi - sIx n 0 lo) s):wpAny (model prog w) A (Builtin.Slice.sliceApplied (.ref sl) (pure (n:Int))) Q E s:=by
 obtain⟨os,hos,hcs,hds⟩:=id hs
 unfold Builtin.Slice.sliceApplied Builtin.Slice.sliceFields
 refine bZ (bZ (wpAny_field hos hds (x:=vl) rfl (bZ (wpAny_field hos hds (x:=vu) rfl (bZ (wpAny_field hos hds (x:=.none) rfl (pZ ?_)))))))
 refine bZ (slicePart_none ?_)
 show wpAny _ _ (if((1:Int)==0)=true then _ else _) _ _ s
 rw[if_neg (by decide)]
 refine bZ (FE pl (bZ (FE pu (bZ (pZ ?_)))))
 show wpAny _ _ (match Builtin.Slice.sliceAdjust lo hi 1 (n:Int)with|(lo,hi)=>pure (lo,(1:Int),Builtin.Slice.slicePlaces lo hi 1)) _ _ s
 rw[LC lo hi n]
 show wpAny _ _ (pure (((sIx n 0 lo:Nat):Int),(1:Int),Builtin.Slice.slicePlaces ((sIx n 0 lo:Nat):Int) ((sIx n n hi:Nat):Int) 1)) _ _ s
 rw[LI]
 exact pZ h
theorem PB(xs:Array Value)(i k:Nat):((List.range k).filterMap λ(m:Nat)=>xs[((i:Int)+(m:Int)*1).toNat]?).toArray=((xs.toList.drop i).take k).toArray:=by
 have e:(λ(m:Nat)=>xs[((i:Int)+(m:Int)*1).toNat]?)=λm=>xs[i+m]? :=by
  funext m
  have:((i:Int)+(m:Int)*1).toNat=i+m:=by omega
  rw[this]
 rw[e]
 have:=pick_run xs i k
 rw[List.filterMap_map]at this
 have e2:((λx=>xs[x]?)∘λx=>i+x)=λm=>xs[i+m]? :=rfl
 rw[e2]at this
 rw[this]
theorem getItem_tuple_cut{t sl:Addr}{items:Array Value}{vl vu:Value}{lo hi:Option Int}{Q:Value->Shared->Prop}(ht:IsTup s.heap t items)(hs:s.heap.IsSliceOf sl vl vu .none)(pl:IsPart vl lo)(pu:IsPart vu hi)
  (hw:¬(sIx items.size 0 lo=0/\sIx items.size items.size hi=items.size))
  (h:Q (.ref s.heap.objs.size) {s with heap:=s.heap.push {cls:=.type "tuple",data:=.seq ((items.toList.drop (sIx items.size 0 lo)).take (sIx items.size items.size hi - sIx items.size 0 lo)).toArray}})
  (hsz:items.size<=sizeLine):wpAny (model prog w) A (getItem (.ref t) (.ref sl)) Q E s:=by
 have htake:sizeOk (.seq ((items.toList.drop (sIx items.size 0 lo)).take (sIx items.size items.size hi - sIx items.size 0 lo)).toArray):=by
  show((items.toList.drop (sIx items.size 0 lo)).take (sIx items.size items.size hi - sIx items.size 0 lo)).toArray.size<=sizeLine
  rw[size_toArray,length_take,List.length_drop,Array.length_toList]
  omega
 have hj:sIx items.size items.size hi<=items.size:=VQ _ _ (le_refl _) hi
 obtain⟨os,hos,hcs,hds⟩:=id hs
 have hTs:s.TypeIs (.ref sl) "slice":=⟨os,hos,hcs⟩
 unfold getItem
 try with_reducible refine wpAny_holding ?_
 first|refine bZ (pZ ?_)|skip
 refine bZ (wpAny_sequenceKey ht.typeIs (by decide) ?_)
 refine bZ (wpAny_callSpecial?_slot (name:=Str.ofString "__getitem__") ht.typeIs PyProof.Rows.slot_tuple_getitem
  (wpAny_call_entry PyProof.Rows.slot_tuple_getitem ht.typeIs entry_tuple_getitem ?_ (args_tuple_getitem _ _)))
 show wpAny _ _ (Builtin.Tuple.tupleItemsOf (.ref t)>>=_) _ _ s
 refine bZ (tupleItemsOf_ ht ?_)
 refine bZ (wpAny_typeOf hTs ?_)
 rw[if_pos (by decide)]
 refine bZ (V1 hs pl pu ?_)
 have hno:¬((((sIx items.size 0 lo:Nat):Int)==0&&(1:Int)==1&&(sIx items.size items.size hi - sIx items.size 0 lo)==items.size)=true):=by
  intro q
  rw[Bool.and_eq_true,Bool.and_eq_true]at q
  have q1:((sIx items.size 0 lo:Nat):Int)=0:=eq_of_beq q.1.1
  have q2:sIx items.size items.size hi - sIx items.size 0 lo=items.size:=eq_of_beq q.2
  exact hw ⟨by omega,by omega⟩
 show wpAny _ _ (if(((sIx items.size 0 lo:Nat):Int)==0&&(1:Int)==1&&(sIx items.size items.size hi - sIx items.size 0 lo)==items.size)=true then _ else _) _ _ s
 rw[if_neg hno,PB]
 first
  |exact bZ (m:=Builtin.Tuple.tupleExact _) (wpAny_newObj_type (pZ ⟨_,rfl,pZ h⟩) htake)
  |exact bZ (m:=Builtin.Tuple.tupleExact _) (wpAny_newObj_type (bZ (pZ (pZ ⟨_,rfl,pZ h⟩))) htake)
  |exact bZ (bZ (m:=Builtin.Tuple.tupleExact _) (wpAny_newObj_type (pZ (pZ ⟨_,rfl,pZ h⟩)) htake))
  |exact bZ (bZ (m:=Builtin.Tuple.tupleExact _) (wpAny_newObj_type (pZ ⟨_,rfl,pZ h⟩) htake))
end
end HT
namespace L2
open PySem PySem.Spec PyProof.Rows
abbrev TO:=St->Hp->(Option Int->Hp->Prop)->Prop
def PO(X:Cx)(e:Option Expr)(t:TO):Prop:=
 ∀(pins:List (Addr×Obj)) (s:Shared) (σ:St) (H:Hp) (Q:Option Int->Hp->Prop),Inv X pins σ H s->t σ H Q->
  wpAny (model X.prog X.w) X.A (evalPart e X.env) (λu s'=>∃o H',Inv X pins σ H' s'/\IsPart u o/\Q o H') X.xe s
def UN:TO:=λ_ H Q=>Q none H
def ZU(t:TE):TO:=fun σ H Q=>t σ H λx H1=>∃i,x=.int i/\Q (some i) H1
theorem LM{ns:List Int}:∀ {us:List Value},Vals (ns.map V.int) us->IntsAre us ns:=by
 induction ns with
 |nil=>intro us r;rw[map_nil]at r;cases r;exact .nil
 |cons n ns ih=>
  intro us r
  rw[map_cons]at r
  cases r with
  |cons r1 r2=>
   obtain⟨t,e⟩:=r1
   subst e
   exact .cons n t (ih r2)
section
variable{X:Cx}{e:Expr}{te:TE}{lo hi:Option Expr}{tl th:TO}{pos p2:Pos}
theorem P8:PO X none UN:=by
 intro pins s σ H Q I h
 rw[evalPart_none]
 exact pZ ⟨none,H,I,.none,h⟩
theorem K8(h:PE X e te):PO X (some e) (ZU te):=by
 intro pins s σ H Q I hw
 rw[evalPart_some]
 refine thn (h pins s σ H _ I hw) λu s1 ⟨x,H1,I1,r1,q1⟩=> ?_
 obtain⟨i,rfl,q⟩:=q1
 obtain⟨t,rfl⟩:=r1
 exact⟨some i,H1,I1,.int i t,q⟩
def SlR(X:Cx)(r:V->Option Int->Option Int->Hp->VK->Prop):Prop:=
 ∀(pins:List (Addr×Obj)) (s:Shared) (σ:St) (H:Hp) (x:V) (v vl vu:Value) (lo hi:Option Int) (sl:Addr) (Q:VK),Inv X pins σ H s->RelV x v->s.heap.IsSliceOf sl vl vu .none->IsPart vl lo->IsPart vu hi->r x lo hi H Q->
  ∃T id,typeLookup (.type T) "__getitem__"=pure (some (.builtin id))/\s.TypeIs v T/\wpAny (model X.prog X.w) X.A (getItem v (.ref sl)) (EP X pins σ Q) X.xe s
theorem SlR.or{r r':V->Option Int->Option Int->Hp->VK->Prop}(h:SlR X r)(h':SlR X r'):SlR X (λx lo hi H Q=>r x lo hi H Q\/r' x lo hi H Q):=by
 intro pins s σ H x v vl vu lo hi sl Q I rx hs pl pu q
 rcases q with q|q
 ·exact h pins s σ H x v vl vu lo hi sl Q I rx hs pl pu q
 ·exact h' pins s σ H x v vl vu lo hi sl Q I rx hs pl pu q
def tSl(r:V->Option Int->Option Int->Hp->VK->Prop)(te:TE)(tl th:TO):TE:=fun σ H Q=>te σ H λx H1=>tl σ H1 λl H2=>th σ H2 λu H3=>r x l u H3 Q
theorem K0{r:V->Option Int->Option Int->Hp->VK->Prop}(hr:SlR X r)(he:PE X e te)(hl:PO X lo tl)(hu:PO X hi th):PE X (.Subscript e (.Slice lo hi none p2) pos) (tSl r te tl th):=by
 intro pins s σ H Q I h
 refine Subscript_ (thn (he pins s σ H _ I h) λv s1 ⟨x,H1,I1,r1,q1⟩=> ?_)
 refine wpAny_Slice (thn (hl pins s1 σ H1 _ I1 q1) λvl s2 ⟨l,H2,I2,pl,q2⟩=>thn (hu pins s2 σ H2 _ I2 q2) λvu s3 ⟨u,H3,I3,pu,q3⟩=> ?_)
 rw[evalPart_none]
 refine pZ ?_
 have I4:Inv X pins σ H3 {s3 with heap:=s3.heap.push {cls:=.type "slice",data:=.fields #[vl,vu,.none]}}:=I3.kept (t':=s3.toks) λb ob q=>gZ _ q
 obtain⟨T,id,hT,ht,hg⟩:=hr pins {s3 with heap:=s3.heap.push {cls:=.type "slice",data:=.fields #[vl,vu,.none]}} σ H3 x v vl vu l u s3.heap.objs.size Q I4 r1 (Heap.IsSliceOf.new ..) pl pu q3
 show wpAny (model X.prog X.w) X.A (subscriptTail e (.Slice lo hi none p2) v (.ref s3.heap.objs.size)) (EP X pins σ Q) X.xe {s3 with heap:=s3.heap.push {cls:=.type "slice",data:=.fields #[vl,vu,.none]}}
 exact tail_any (ops:=[.ref s3.heap.objs.size,v]) ht hT hg (by with_unfolding_all rfl)
def N9(xs:List V)(lo hi:Option Int):List V:=(xs.drop (HT.sIx xs.length 0 lo)).take (HT.sIx xs.length xs.length hi - HT.sIx xs.length 0 lo)
theorem DE(xs:List V)(lo hi:Option Int):(N9 xs lo hi).length<=xs.length:=by
 unfold N9
 rw[length_take,List.length_drop]
 omega
inductive rSlT (K:FZ) (x:V) (lo:Option Int) (hi:Option Int) (H:Hp) (Q:VK):Prop
 |mk:∀a xs,(x=.ref a)->(SqT K H a xs)->(¬(HT.sIx xs.length 0 lo=0/\HT.sIx xs.length xs.length hi=xs.length))->(∀p,H p=none->Q (.ref p) (upd H p (.tup (N9 xs lo hi))))->rSlT K x lo hi H Q
theorem WK:SlR X (rSlT X.K):=by
 intro pins s σ H x v vl vu lo hi sl Q I rx hs pl pu h
 obtain⟨a,xs,rfl,hx,hw,q⟩:=h
 cases rx
 obtain⟨its,r,ht,hz⟩:=I.tuple hx
 have hlen:its.toArray.size=xs.length:=by rw[size_toArray];exact r.length.symm
 refine⟨"tuple",_,PyProof.Rows.slot_tuple_getitem.lookup,ht.typeIs, ?_⟩
 refine HT.getItem_tuple_cut ht hs pl pu (by rw[hlen];exact hw) ?_ (by rw[hlen];exact hz)
 rw[hlen]
 refine⟨.ref s.heap.objs.size,_,I.laid (t':=s.toks) (o:=.tup (N9 xs lo hi)) (λb ob q=>gZ _ q) (le_refl _) ?_,rfl,q _ (I.hok.fresh (le_refl _))⟩
 exact⟨le_trans (DE xs lo hi) hz,_,(r.drop (HT.sIx xs.length 0 lo)).take (HT.sIx xs.length xs.length hi - HT.sIx xs.length 0 lo),IsTup.new _ _⟩
def QA(K:FZ):R2:=λx y H Q=>∃a b xs ys,x=.ref a/\y=.ref b/\SqT K H a xs/\SqT K H b ys/\xs≠ []/\xs.length+ys.length<=sizeLine/\
 (ys=[]->Q (.ref a) H)/\(ys≠ []->∀p,H p=none->Q (.ref p) (upd H p (.tup (xs++ys))))
theorem Vals.nil_iff{xs:List V}{us:List Value}(r:Vals xs us):us=[]↔xs=[]:=by
 cases r with
 |nil=>simp
 |cons _ _=>simp
theorem op_catT:OpR X (binaryOp .Add) (QA X.K):=by
 intro pins s σ H x y v u Q I rx ry h
 obtain⟨a,b,xs,ys,rfl,rfl,ha,hb,hx,hz,q1,q2⟩:=h
 cases rx
 cases ry
 obtain⟨its,r1,p1,_⟩:=I.tuple ha
 obtain⟨its2,r2,p2,_⟩:=I.tuple hb
 refine HT.cat_tup p1 p2 (λz=>hx (r1.nil_iff.mp z)) (λz=>⟨.ref a,H,I,rfl,q1 (r2.nil_iff.mp z)⟩) (λz=> ?_) (by rw[<-r1.length,<-r2.length];exact hz)
 refine⟨.ref s.heap.objs.size,_,I.laid (t':=s.toks) (o:=.tup (xs++ys)) (λb ob q=>gZ _ q) (le_refl _) ?_,rfl,q2 (λw=>z (r2.nil_iff.mpr w)) _ (I.hok.fresh (le_refl _))⟩
 exact⟨by rw[length_append];exact hz,_,r1.append r2,IsTup.new _ _⟩
end
def ixN(n:Nat)(i:Int):Option Nat:=if 0<=i then(if i<n then some i.toNat else none)else if -(n:Int)<=i then some (i+n).toNat else none
def atI{α:Type}(xs:List α)(i:Int):Option α:=(ixN xs.length i).bind λj=>xs[j]?
theorem UP{n:Nat}{i:Int}{j:Nat}(h:ixN n i=some j):seqIndex? i n=some j/\j<n/\ -(n:Int)<=i/\i<n:=by
 unfold ixN at h
 by_cases h0:0<=i
 ·rw[if_pos h0]at h
  by_cases h1:i<n
  ·rw[if_pos h1]at h
   have e:i.toNat=j:=Option.some.inj h
   exact⟨by rw[seqIndex_of h0 h1,e],by omega,by omega,h1⟩
  ·rw[if_neg h1]at h;cases h
 ·rw[if_neg h0]at h
  by_cases h1: -(n:Int)<=i
  ·rw[if_pos h1]at h
   have e:(i+n).toNat=j:=Option.some.inj h
   exact⟨by rw[seqIndex_neg (by omega) h1,e],by omega,h1,by omega⟩
  ·rw[if_neg h1]at h;cases h
theorem IK{α:Type}{xs:List α}{i:Int}{v:α}(h:atI xs i=some v):∃j,seqIndex? i xs.length=some j/\xs[j]? =some v/\j<xs.length/\ -(xs.length:Int)<=i/\i<xs.length:=by
 unfold atI at h
 cases e:ixN xs.length i with
 |none=>rw[e]at h;cases h
 |some j=>
  rw[e]at h
  obtain⟨h1,h2,h3,h4⟩:=UP e
  exact⟨j,h1,h,h2,h3,h4⟩
theorem L3{α:Type}{xs:List α}{j:Nat}{v:α}(h:xs[j]? =some v):atI xs (j:Int)=some v:=by
 have hj:j<xs.length:=(List.getElem?_eq_some_iff.mp h).1
 have e:ixN xs.length (j:Int)=some j:=by
  unfold ixN
  rw[if_pos (by omega),if_pos (by omega)];simp
 unfold atI;rw[e];exact h
def NE(b:Expr):Prop:=∀o i,subscripted b false o i=operate [o,i] (getItem o i)
def IxR(X:Cx)(r:R2):Prop:=
 ∀(value slice:Expr) (pins:List (Addr×Obj)) (s:Shared) (σ:St) (H:Hp) (x y:V) (v u:Value) (Q:VK),Inv X pins σ H s->RelV x v->RelV y u->r x y H Q->
  subscripted slice false v u=operate [v,u] (getItem v u)->wpAny (model X.prog X.w) X.A (subscriptTail value slice v u) (EP X pins σ Q) X.xe s
def MtR(X:Cx)(id:String)(r:V->List V->Hp->VK->Prop):Prop:=
 ∀(pins:List (Addr×Obj)) (s:Shared) (σ:St) (H:Hp) (x:V) (xs:List V) (v:Value) (us:List Value) (Q:VK),Inv X pins σ H s->RelV x v->Vals xs us->r x xs H Q->
  wpAny (model X.prog X.w) X.A (call (.builtin id) (v::us)) (EP X pins σ Q) X.xe s
section
variable{X:Cx}{a b:Expr}{ta tb:TE}{pos:Pos}
theorem IxR.or{r r':R2}(h:IxR X r)(h':IxR X r'):IxR X (λx y H Q=>r x y H Q\/r' x y H Q):=by
 intro value slice pins s σ H x y v u Q I rx ry q hs
 rcases q with q|q
 ·exact h value slice pins s σ H x y v u Q I rx ry q hs
 ·exact h' value slice pins s σ H x y v u Q I rx ry q hs
theorem ZZ{r:R2}(hr:IxR X r)(ha:PE X a ta)(hb:PE X b tb)(hs:NE b):PE X (.Subscript a b pos) (tOp r ta tb):=by
 intro pins s σ H Q I h
 exact Subscript_ (WU ha hb I h λv u s2 x y H2 I2 rx ry q=>hr a b pins s2 σ H2 x y v u Q I2 rx ry q (hs _ _))
inductive rIxL (K:FZ) (x:V) (y:V) (H:Hp) (Q:VK):Prop
 |mk:∀p xs i v,(x=.ref p)->(y=.int i)->(SqL K H p xs)->(atI xs i=some v)->(Q v H)->rIxL K x y H Q
inductive rIxT (K:FZ) (x:V) (y:V) (H:Hp) (Q:VK):Prop
 |mk:∀p xs i v,(x=.ref p)->(y=.int i)->(SqT K H p xs)->(atI xs i=some v)->(Q v H)->rIxT K x y H Q
inductive rIxS (x:V) (y:V) (H:Hp) (Q:VK):Prop
 |mk:∀z i c,(x=.str z)->(y=.int i)->(z.length<=sizeLine)->(atI z.cps.toList i=some c)->(Q (.str ⟨#[c]⟩) H)->rIxS x y H Q
theorem ix_list:IxR X (rIxL X.K):=by
 intro value slice pins s σ H x y v u Q I rx ry h hs
 obtain⟨p,xs,i,z,rfl,rfl,hq,he,q⟩:=h
 cases rx
 obtain⟨t,rfl⟩:=ry
 obtain⟨its,r,pl,hz⟩:=I.list hq
 obtain⟨j,h1,h2,h3,h4,h5⟩:=IK he
 obtain⟨w,ew,rw'⟩:=r.get h2
 have hl:=r.length
 have hn:=FH
 have fin:EP X pins σ Q w s:=⟨z,H,I,rw',q⟩
 by_cases h0:0<=i
 ·have hj:i.toNat=j:=by
   rw[seqIndex_of h0 h5]at h1
   exact Option.some.inj h1
  exact item_listR pl.isList h0 (by omega) (by rw[hj];simpa using ew) fin hs
 ·have hj:(i+(its.toArray.size:Int)).toNat=j:=by
   rw[seqIndex_neg (by omega) h4]at h1
   rw[size_toArray,<-hl]
   exact Option.some.inj h1
  exact subscriptTail_builtinR (x:=w) pl.isList.typeIs slot_list_getitem.lookup
   (wpAny_getItem_list_neg (Q:=λr s'=>r=w/\EP X pins σ Q r s') pl.isList (by omega) (by rw[size_toArray]<;>omega) (by omega) (by rw[hj];simpa using ew) ⟨rfl,fin⟩) hs
theorem ix_tup:IxR X (rIxT X.K):=by
 intro value slice pins s σ H x y v u Q I rx ry h hs
 obtain⟨p,xs,i,z,rfl,rfl,hq,he,q⟩:=h
 cases rx
 obtain⟨t,rfl⟩:=ry
 obtain⟨its,r,pl,hz⟩:=I.tuple hq
 obtain⟨j,h1,h2,h3,h4,h5⟩:=IK he
 obtain⟨w,ew,rw'⟩:=r.get h2
 have hl:=r.length
 have hn:=FH
 have fin:EP X pins σ Q w s:=⟨z,H,I,rw',q⟩
 exact subscriptTail_builtinR (x:=w) pl.typeIs slot_tuple_getitem.lookup
  (getItem_tuple (j:=j) (Q:=λr s'=>r=w/\EP X pins σ Q r s') pl (by omega) (by omega) (by rw[size_toArray,<-hl];exact h1) (by simpa using ew) ⟨rfl,fin⟩) hs
theorem ix_str:IxR X rIxS:=by
 intro value slice pins s σ H x y v u Q I rx ry h hs
 obtain⟨z,i,c,rfl,rfl,hz,he,q⟩:=h
 obtain⟨t,rfl⟩:=rx
 obtain⟨t',rfl⟩:=ry
 obtain⟨j,h1,h2,h3,h4,h5⟩:=IK he
 have hl:z.cps.toList.length=z.length:=by simp[Str.length]
 rw[hl]at h1 h4 h5
 have hn:=FH
 exact tail_any (typeIs_str s z t) slot_str_getitem.lookup (getItem_str (c:=c) (by
  have e1:decide (i< -(2^63:Int))=false:=decide_eq_false (by omega)
  have e2:decide (i≥2^63)=false:=decide_eq_false (by omega)
  rw[e1,e2,Bool.or_false]) (by rw[h1];simpa using h2) ⟨.str ⟨#[c]⟩,H,I.tok _,⟨_,rfl⟩,q⟩) hs
theorem IH(lo hi:Option Int)(n:Nat):(sliceBounds lo hi none n).1=((HT.sIx n 0 lo:Nat):Int)/\(sliceBounds lo hi none n).2.1=((HT.sIx n n hi:Nat):Int)/\(sliceBounds lo hi none n).2.2=1:=by
 refine⟨?_, ?_,rfl⟩
 ·cases lo with
  |none=>simp[sliceBounds,HT.sIx]
  |some i=>
   simp only[sliceBounds,HT.sIx,Option.getD_none,show(1:Int)>0 by decide,if_true]
   by_cases h:i<0
   ·simp only[h,if_true]<;>omega
   ·simp only[h,if_false]<;>omega
 ·cases hi with
  |none=>simp[sliceBounds,HT.sIx]
  |some i=>
   simp only[sliceBounds,HT.sIx,Option.getD_none,show(1:Int)>0 by decide,if_true]
   by_cases h:i<0
   ·simp only[h,if_true]<;>omega
   ·simp only[h,if_false]<;>omega
theorem FS(its:List Value)(lo hi:Option Int):slicePick its.toArray lo hi none=((its.drop (HT.sIx its.length 0 lo)).take (HT.sIx its.length its.length hi - HT.sIx its.length 0 lo)).toArray:=by
 obtain⟨h1,h2,h3⟩:=IH lo hi its.toArray.size
 unfold slicePick
 rw[h1,h2,h3]
 simp only[sliceRange_one,pick_run,size_toArray]<;>rfl
inductive rSlL (K:FZ) (x:V) (lo:Option Int) (hi:Option Int) (H:Hp) (Q:VK):Prop
 |mk:∀a xs,(x=.ref a)->(SqL K H a xs)->(∀p,H p=none->Q (.ref p) (upd H p (.lst (N9 xs lo hi))))->rSlL K x lo hi H Q
theorem sl_list:SlR X (rSlL X.K):=by
 intro pins s σ H x v vl vu lo hi sl Q I rx hs pl pu h
 obtain⟨a,xs,rfl,hx,q⟩:=h
 cases rx
 obtain⟨its,r,ht,hz⟩:=I.list hx
 have hlen:=r.length
 refine⟨"list",_,slot_list_getitem.lookup,ht.isList.typeIs, ?_⟩
 refine wpAny_getItem_list_slice ht.isList hs pl pu .none (by simp) ?_ (by rw[size_toArray]<;>omega)
 rw[FS,<-hlen]
 refine⟨.ref s.heap.objs.size,_,I.laid (t':=s.toks) (o:=.lst (N9 xs lo hi)) (λb ob q=>gZ _ q) (le_refl _) ?_,rfl,q _ (I.hok.fresh (le_refl _))⟩
 exact⟨le_trans (DE xs lo hi) hz,_,0,(r.drop (HT.sIx xs.length 0 lo)).take (HT.sIx xs.length xs.length hi - HT.sIx xs.length 0 lo),get?_push_size _ rfl⟩
def CZ:V->Bool
 | .non=>true
 | .bl _=>true
 | .int _=>true
 | .str _=>true
 |_=>false
def eqV:V->V->Bool
 | .non,.non=>true
 | .bl a,.bl b=>a==b
 | .bl a,.int b=>(if a then 1 else 0)==b
 | .int a,.bl b=>a==(if b then 1 else 0)
 | .int a,.int b=>a==b
 | .str a,.str b=>a==b
 |_,_=>false
theorem XM{A:Around}{s:Shared}{y x:V}{u v:Value}(ry:RelV y u)(rx:RelV x v)(fy:CZ y=true)(fx:CZ x=true):SeqAt.EqAt A s u v (eqV y x):=by
 cases y with
 |non=>
  cases ry
  cases x with
  |non=>cases rx;exact SeqAt.EqAt.same _
  |bl b=>cases rx;exact SeqAt.EqAt.none_bool b
  |int b=>obtain⟨t,rfl⟩:=rx;exact SeqAt.EqAt.none_int b t
  |str b=>obtain⟨t,rfl⟩:=rx;exact SeqAt.EqAt.none_str b t
  |_=>exact absurd (show false=true from fx) nZ
 |bl a=>
  cases ry
  cases x with
  |non=>cases rx;exact SeqAt.EqAt.bool_none a
  |bl b=>cases rx;exact SeqAt.EqAt.bool_bool a b
  |int b=>obtain⟨t,rfl⟩:=rx;exact SeqAt.EqAt.bool_int a b t
  |str b=>obtain⟨t,rfl⟩:=rx;exact SeqAt.EqAt.bool_str a b t
  |_=>exact absurd (show false=true from fx) nZ
 |int a=>
  obtain⟨t',rfl⟩:=ry
  cases x with
  |non=>cases rx;exact SeqAt.EqAt.int_none a t'
  |bl b=>cases rx;exact SeqAt.EqAt.int_bool a t' b
  |int b=>obtain⟨t,rfl⟩:=rx;exact SeqAt.EqAt.int_int a t' b t
  |str b=>obtain⟨t,rfl⟩:=rx;exact SeqAt.EqAt.int_str a t' b t
  |_=>exact absurd (show false=true from fx) nZ
 |str a=>
  obtain⟨t',rfl⟩:=ry
  cases x with
  |non=>cases rx;exact SeqAt.EqAt.str_none a t'
  |bl b=>cases rx;exact SeqAt.EqAt.str_bool a t' b
  |int b=>obtain⟨t,rfl⟩:=rx;exact SeqAt.EqAt.str_int a t' b t
  |str b=>obtain⟨t,rfl⟩:=rx;exact SeqAt.EqAt.str_str a t' b t
  |_=>exact absurd (show false=true from fx) nZ
 |_=>exact absurd (show false=true from fy) nZ
def eqU(x:V)(u:Value):Bool:=match u with
 | .none=>eqV .non x
 | .bool b=>eqV (.bl b) x
 | .int i _=>eqV (.int i) x
 | .str z _=>eqV (.str z) x
 |_=>false
theorem SS{x y:V}{u:Value}(r:RelV y u)(f:CZ y=true):eqU x u=eqV y x:=by
 cases y with
 |non=>cases r;rfl
 |bl b=>cases r;rfl
 |int i=>obtain⟨t,rfl⟩:=r;rfl
 |str z=>obtain⟨t,rfl⟩:=r;rfl
 |_=>exact absurd (show false=true from f) nZ
theorem IC{x:V}:∀ {xs:List V} {us:List Value},Vals xs us->xs.all CZ=true->us.any (eqU x)=xs.any λy=>eqV y x
 |_,_,.nil,_=>rfl
 |y::xs,u::us,.cons r t,f=>by
  rw[List.all_cons,Bool.and_eq_true]at f
  rw[any_cons,any_cons,SS r f.1,IC t f.2]
theorem EQ{A:Around}{s:Shared}{x:V}{v:Value}(rx:RelV x v)(fx:CZ x=true):∀ {xs:List V} {us:List Value},Vals xs us->xs.all CZ=true->∀u∈us,SeqAt.EqAt A s u v (eqU x u)
 |_,_,.nil,_=>λu hu=>by cases hu
 |y::xs,u::us,.cons r t,f=>λu' hu=>by
  rw[List.all_cons,Bool.and_eq_true]at f
  rcases cZ hu with rfl|hu
  ·rw[SS r f.1];exact XM r rx f.1 fx
  ·exact EQ rx fx t f.2 u' hu
def inV(x:V)(xs:List V):Bool:=xs.any λy=>eqV y x
inductive rIn (K:FZ) (neg:Bool) (x:V) (y:V) (H:Hp) (Q:VK):Prop
 |mk:∀p xs,(y=.ref p)->((SqL K H p xs\/SqT K H p xs))->(CZ x=true)->(xs.all CZ=true)->(Q (.bl (if neg then !inV x xs else inV x xs)) H)->rIn K neg x y H Q
theorem op_in_seq:OpR X (compareOp .In) (rIn X.K false):=by
 intro pins s σ H x y v u Q I rx ry h
 obtain⟨p,xs,rfl,hq,fx,fs,q⟩:=h
 cases ry
 rcases hq with hq|hq
 ·obtain⟨its,r,pl,hz⟩:=I.list hq
  refine SeqAt.in_listAt (eqU x) pl.isList (λw hw=>EQ rx fx r fs w (by simpa using hw)) ⟨.bl _,H,I,rfl, ?_⟩
  rw[show its.toArray.any (eqU x)=its.any (eqU x) by simp,IC r fs]
  exact q
 ·obtain⟨its,r,pl,hz⟩:=I.tuple hq
  refine SeqAt.in_tupleAt (eqU x) pl (λw hw=>EQ rx fx r fs w (by simpa using hw)) ⟨.bl _,H,I,rfl, ?_⟩
  rw[show its.toArray.any (eqU x)=its.any (eqU x) by simp,IC r fs]
  exact q
theorem CallR.or{f:Value}{r r':List V->Hp->VK->Prop}(h:CallR X f r)(h':CallR X f r'):CallR X f (λxs H Q=>r xs H Q\/r' xs H Q):=by
 intro pins s σ H xs us Q I rs q
 rcases q with q|q
 ·exact h pins s σ H xs us Q I rs q
 ·exact h' pins s σ H xs us Q I rs q
theorem HR:CallR X (.type "list") (λxs H Q=>∃p ys,xs=[.ref p]/\(SqL X.K H p ys\/SqT X.K H p ys)/\∀l,H l=none->Q (.ref l) (upd H l (.lst ys))):=by
 intro pins s σ H xs us Q I r h
 obtain⟨p,ys,rfl,hq,q⟩:=h
 obtain⟨u,rfl,rx⟩:=GR r
 cases rx
 have fin:∀(its:List Value),Vals ys its->ys.length<=sizeLine->∀(h':Heap) (c':Nat),(∀b o',s.heap.get? b=some o'->h'.get? b=some o')->
   h'.get? s.heap.objs.size=some {cls:=.type "list",dict:=none,data:=.seq its.toArray c',slots:= #[]}->EP X pins σ Q (.ref s.heap.objs.size) {s with heap:=h'}:=λits r' hz h' c' kp e=>
  ⟨.ref s.heap.objs.size,_,I.laid (t':=s.toks) kp (le_refl _) (show ObjOk X.prog X.w _ h' _ (.lst ys)from⟨hz,its,c',r',e⟩),rfl,q _ (I.hok.fresh (le_refl _))⟩
 rcases hq with hq|hq
 ·obtain⟨its,r',pl,hz⟩:=I.list hq
  have hlen:=r'.length
  obtain⟨o,ho,hc,n,hd⟩:=pl.isList
  exact call_list_seq p (.inl rfl) ho hc hd (λh' c' kp e=>fin its r' hz h' c' kp e) (by simp only[size_toArray]<;>omega)
 ·obtain⟨its,r',pl,hz⟩:=I.tuple hq
  have hlen:=r'.length
  obtain⟨o,ho,hc,n,hd⟩:=pl
  exact call_list_seq p (.inr rfl) ho hc hd (λh' c' kp e=>fin its r' hz h' c' kp e) (by simp only[size_toArray]<;>omega)
theorem FV:CallR X (.type "tuple") (λxs H Q=>∃p ys,xs=[.ref p]/\((SqL X.K H p ys/\∀l,H l=none->Q (.ref l) (upd H l (.tup ys)))\/(SqT X.K H p ys/\Q (.ref p) H))):=by
 intro pins s σ H xs us Q I r h
 obtain⟨p,ys,rfl,h⟩:=h
 obtain⟨u,rfl,rx⟩:=GR r
 cases rx
 rcases h with⟨hq,q⟩|⟨hq,q⟩
 ·obtain⟨its,r',pl,hz⟩:=I.list hq
  have hlen:=r'.length
  refine call_tuple_list pl.isList (λh' kp=> ?_) (by simp only[size_toArray]<;>omega)
  have I1:Inv X pins σ H {s with heap:=h'}:=I.kept (t':=s.toks) kp
  have I2:Inv X pins σ (upd H h'.objs.size (.tup ys)) {s with heap:=h'.push {cls:=.type "tuple",data:=.seq its.toArray}}:=
   I1.laid (t':=s.toks) (λb o e=>gZ _ e) (le_refl _) (show ObjOk X.prog X.w _ _ _ (.tup ys)from⟨hz,its,r',IsTup.new _ _⟩)
  exact⟨.ref h'.objs.size,_,I2,rfl,q _ (I1.hok.fresh (le_refl _))⟩
 ·obtain⟨its,r',pl,hz⟩:=I.tuple hq
  exact call_tuple_same pl ⟨.ref p,H,I,rfl,q⟩
def tyV(K:FZ)(T:String)(x:V)(H:Hp):Prop:=match x with
 | .str _=>T="str"
 | .int _=>T="int"
 | .ref p=>(T="list"/\∃xs,SqL K H p xs)\/(T="tuple"/\∃o,K.lookup p=some o/\o.cls=.type "tuple"/\o.dict=none)\/
   (T="dict"/\((∃kvs,H p=some (.dK kvs))\/∃kvs,H p=some (.dT kvs)))\/(T="set"/\∃S n,H p=some (.set S n))
 |_=>False
theorem PU{pins:List (Addr×Obj)}{σ:St}{H:Hp}{s:Shared}{T:String}{x:V}{v:Value}(I:Inv X pins σ H s)(r:RelV x v)(ty:tyV X.K T x H):
  s.TypeIs v T/\∀a,v=.ref a->∃ob,s.heap.get? a=some ob/\ob.dict=none:=by
 cases x with
 |str z=>
  obtain⟨t,rfl⟩:=r
  cases(show T="str"from ty)
  exact⟨typeIs_str s z t,λ_ e=>nomatch e⟩
 |int i=>
  obtain⟨t,rfl⟩:=r
  cases(show T="int"from ty)
  exact⟨typeIs_int s i t,λ_ e=>nomatch e⟩
 |ref p=>
  cases r
  rcases ty with⟨rfl,xs,hq⟩|⟨rfl,o,hk,hc,hd⟩|⟨rfl,hk⟩|⟨rfl,S,n,hk⟩
  ·obtain⟨its,_,pl,_⟩:=I.list hq
   refine⟨pl.isList.typeIs,λa e=> ?_⟩
   cases e
   obtain⟨o,n,e,c,hd,_⟩:=pl
   exact⟨o,e,hd⟩
  ·refine⟨⟨o,I.kIn p o hk,hc⟩,λa e=> ?_⟩
   cases e
   exact⟨o,I.kIn _ o hk,hd⟩
  ·have z:∃o,s.heap.get? p=some o/\o.ExactDict:=by
    rcases hk with⟨kvs,hk⟩|⟨kvs,hk⟩
    ·obtain⟨_,_,_,_,o,_,_,e,ex,_⟩:=I.hok p _ hk
     exact⟨o,e,ex⟩
    ·obtain⟨_,_,_,_,o,_,_,e,ex,_⟩:=I.hok p _ hk
     exact⟨o,e,ex⟩
   obtain⟨o,e,ex⟩:=z
   refine⟨⟨o,e,ex.1⟩,λa e2=> ?_⟩
   cases e2
   exact⟨o,e,ex.2.1⟩
  ·obtain⟨o,_,_,_,e,ex,_⟩:=I.hok p _ hk
   refine⟨⟨o,e,ex.1⟩,λa e2=> ?_⟩
   cases e2
   exact⟨o,e,ex.2.1⟩
 |_=>exact False.elim ty
def ajZ(K:FZ)(T:String)(r:V->List V->Hp->VK->Prop)(to:TE):TE:=fun σ H Q=>to σ H λx H1=>tyV K T x H1/\r x [] H1 Q
def tBM(K:FZ)(T:String)(r:V->List V->Hp->VK->Prop)(to:TE)(t:TA):TE:=fun σ H Q=>to σ H λx H1=>tyV K T x H1/\t σ H1 λxs H2=>r x xs H2 Q
variable{o e:Expr}{es:List Expr}{to:TE}{t:TA}{name:Str}{apos cpos:Pos}{T id:String}{r:V->List V->Hp->VK->Prop}
theorem VS(pa:PlainAttrs T)(slot:Slot T name id)(hty:typeOf (.builtin id)=pure (.type "method_descriptor"))(hm:MtR X id r)(ho:PE X o to)
  (hbase:attributeBase o name X.env (eval o X.env)=eval o X.env:=by rfl)(hline:(apos.endLine==cpos.line)=true:=by rfl):PE X (.Call (.Attribute o name apos) [] [] cpos) (ajZ X.K T r to):=by
 intro pins s σ H Q I h
 refine wpAny_Call_method0_late hbase hline (thn (ho pins s σ H _ I h) λv s1 ⟨x,H1,I1,r1,ty,q1⟩=> ?_)
 obtain⟨h1,h2⟩:=PU I1 r1 ty
 exact⟨T,id,pa,slot,hty,h1,h2,Calls.callWith_builtin rfl (PySem.evalArgs_none (hm pins s1 σ H1 x [] v [] Q I1 r1 .nil q1))⟩
theorem arZ(pa:PlainAttrs T)(slot:Slot T name id)(hty:typeOf (.builtin id)=pure (.type "method_descriptor"))(hm:MtR X id r)(ho:PE X o to)(ha:PA X (e::es) t)
  (hbase:attributeBase o name X.env (eval o X.env)=eval o X.env:=by rfl)
  (hfew:((backTo cpos (starEach (e::es) X.env)).all (λx=> !x.1)&&(backToKw cpos (keywordEach [] X.env)).all (λx=>x.1.isSome)
   &&decide ((e::es).length+([]:List Keyword).length+(if([]:List Keyword).isEmpty then 0 else 1)<30))=true:=by rfl)
  (hline:(apos.endLine==cpos.line)=true:=by rfl)(hs:starEach (e::es) X.env=(false,eval e X.env)::starEach es X.env:=by rfl)(hplain:(backTo cpos (starEach es X.env)).any (·.1)=false:=by rfl):
  PE X (.Call (.Attribute o name apos) (e::es) [] cpos) (tBM X.K T r to t):=by
 intro pins s σ H Q I h
 refine wpAny_Call_method_late hbase hfew hline rfl (thn (ho pins s σ H _ I h) λv s1 ⟨x,H1,I1,r1,ty,q1⟩=> ?_)
 obtain⟨h1,h2⟩:=PU I1 r1 ty
 refine⟨T,id,pa,slot,hty,h1,h2, ?_⟩
 have hA:=ha cpos pins s1 σ H1 _ I1 q1
 rw[hs]at hA⊢
 refine Calls.callWith_builtin (by show(false||(backTo cpos (starEach es X.env)).any (·.1))=false;rw[hplain]<;>rfl) (Calls.evalArgs_plain ?_)
 exact thn hA λus s2 ⟨vs,H2,I2,r2,q2⟩=>hm pins s2 σ H2 x vs v us Q I2 r1 r2 q2
end
def MtM(X:Cx)(id:String)(r:V->List V->Hp->VK->Prop):Prop:=
 ∀(pins:List (Addr×Obj)) (s:Shared) (σ:St) (H:Hp) (x:V) (xs:List V) (v:Value) (us:List Value) (Q:VK),Inv X pins σ H s->RelV x v->Vals xs us->r x xs H Q->
  wpAny (model X.prog X.w) X.A (call (.builtin id) (v::us)) (EP X pins σ Q) X.xe s
theorem Vals.one:∀ {x:V} {us:List Value},Vals [x] us->∃u,us=[u]/\RelV x u
 |_,_,.cons r .nil=>⟨_,rfl,r⟩
theorem Vals.zero:∀ {us:List Value},Vals [] us->us=[]
 |_,.nil=>rfl
theorem Vals.dropLast{xs:List V}{us:List Value}(h:Vals xs us):Vals xs.dropLast us.dropLast:=by
 induction h with
 |nil=>exact .nil
 |cons r t ih=>
  cases t with
  |nil=>exact .nil
  |cons q t'=>exact .cons r ih
theorem Vals.rep{xs:List V}{us:List Value}(h:Vals xs us):∀k:Nat,Vals (List.replicate k xs).flatten (List.replicate k us).flatten
 |0=> .nil
 |k+1=>by
  rw[replicate_succ,replicate_succ,flatten_cons,flatten_cons]
  exact Vals.append h (Vals.rep h k)
theorem LX{α:Type}(l:List α):l.eraseIdx (l.length - 1)=l.dropLast:=by
 induction l with
 |nil=>rfl
 |cons a r ih=>
  cases r with
  |nil=>rfl
  |cons b r=>
   have e:(a::b::r).length - 1=((b::r).length - 1)+1:=by
    have h1:(a::b::r).length=r.length+2:=rfl
    have h2:(b::r).length=r.length+1:=rfl
    omega
   rw[e,List.eraseIdx_cons_succ,ih]
   all_goals rfl
theorem GS(its:List Value):∀(k:Nat) (acc:List Value),
  List.foldl (λx1 x2=>x1++x2) acc.toArray (List.replicate k its.toArray)=(acc++(List.replicate k its).flatten).toArray
 |0,acc=>by simp
 |k+1,acc=>by
  have e:acc.toArray++its.toArray=(acc++its).toArray:=by simp
  have e2:(acc++its)++(List.replicate k its).flatten=acc++(List.replicate (k+1) its).flatten:=by
   rw[replicate_succ,flatten_cons,List.append_assoc]
  rw[<-e2,<-GS its k (acc++its),<-e,replicate_succ,List.foldl_cons]
section
variable{X:Cx}{pins:List (Addr×Obj)}{σ:St}{H:Hp}{s:Shared}{l b:Addr}{xs ys zs:List V}
theorem Inv.lset{its its':List Value}{n:Nat}{f:Array Value->Array Value}{t':Nat}(I:Inv X pins σ H s)(hH:H l=some (.lst xs))
  (e:s.heap.get? l=some {cls:=.type "list",data:=.seq its.toArray n})(hf:f its.toArray=its'.toArray)(hv:Vals ys its')(hz:ys.length<=sizeLine):
  Inv X pins σ (upd H l (.lst ys)) {s with heap:=s.heap.update l (Obj.mapSeq f),toks:=t'}:=by
 have q:=PySem.IsL.update e f
 rw[hf]at q
 refine I.write (x:=l) (e:=l) (by rw[hH];exact trivial) (.inl rfl) (λb' u hb hu=>(Heap.get?_update_other s.heap (Obj.mapSeq f) (Ne.symm hb)).trans hu) ⟨_,q⟩ ?_
 exact⟨hz,its',_,hv,q⟩
theorem Inv.lnew{its:List Value}{t':Nat}(I:Inv X pins σ H s)(hv:Vals ys its)(hz:ys.length<=sizeLine):
  Inv X pins σ (upd H s.heap.objs.size (.lst ys)) {s with heap:=s.heap.push {cls:=.type "list",data:=.seq its.toArray},toks:=t'}:=
 I.laid (λ_ _ q=>gZ _ q) (le_refl _) ⟨hz,its,0,hv,get?_push_size _ rfl⟩
theorem Inv.fresh(I:Inv X pins σ H s):H s.heap.objs.size=none:=I.hok.fresh (le_refl _)
theorem Inv.lstM(I:Inv X pins σ H s)(hH:H l=some (.lst xs)):xs.length<=sizeLine/\∃(its:List Value) (n:Nat),Vals xs its/\xs.length=its.length/\s.heap.get? l=some {cls:=.type "list",data:=.seq its.toArray n}:=by
 obtain⟨z,its,n,r,e⟩:=I.hok l _ hH
 exact⟨z,its,n,r,r.length,e⟩
theorem JI{n:Nat}(h:n<=sizeLine):Builtin.List.listTooLong n=false:=by
 unfold Builtin.List.listTooLong
 exact decide_eq_false (by omega)
inductive rAppend(x:V)(vs:List V)(H:Hp)(Q:VK):Prop
 |mk:∀l xs y,(x=.ref l)->(vs=[y])->(H l=some (.lst xs))->(xs.length<sizeLine)->(Q .non (upd H l (.lst (xs++ [y]))))->rAppend x vs H Q
theorem AJ:MtM X "list.append" rAppend:=by
 intro pins s σ H x vs v us Q I rx rv h
 obtain⟨l,xs,y,rfl,rfl,hH,hz,q⟩:=h
 cases rx
 obtain⟨u,rfl,ru⟩:=rv.one
 obtain⟨z,its,n,r,hl,e⟩:=I.lstM hH
 refine call_meets F.slot_list_append ⟨_,e,rfl⟩ F.entry_list_append (F.args_list_append_2 _ _) (PySem.list_append l its.toArray n u (by rw[size_toArray];omega)) ⟨e, ?_⟩
 refine⟨.non,_,I.lset (its':=its++ [u]) hH e (by simp) (r.append (.cons ru .nil)) ?_,rfl,q⟩
 rw[length_append,length_singleton]
 omega
def SW:V->List V->Hp->VK->Prop:=λx vs H Q=>∃l b xs zs,x=.ref l/\vs=[.ref b]/\H l=some (.lst xs)/\H b=some (.lst zs)/\xs.length+zs.length<=sizeLine/\Q .non (upd H l (.lst (xs++zs)))
theorem AK:MtM X "list.extend" SW:=by
 intro pins s σ H x vs v us Q I rx rv h
 obtain⟨l,b,xs,zs,rfl,rfl,hH,hB,hz,q⟩:=h
 cases rx
 obtain⟨u,rfl,ru⟩:=rv.one
 cases ru
 obtain⟨z,its,n,r,hl,e⟩:=I.lstM hH
 obtain⟨z2,its2,n2,r2,hl2,e2⟩:=I.lstM hB
 have hsz:its.toArray.size+its2.toArray.size<=sizeLine:=by rw[size_toArray,size_toArray];omega
 have hlong:¬(!its.toArray.isEmpty&&Builtin.List.listTooLong (its.toArray.size+its2.toArray.size))=true:=by
  rw[JI hsz,Bool.and_false]
  exact nZ
 refine call_meets F.slot_list_extend ⟨_,e,rfl⟩ F.entry_list_extend (F.args_list_extend_2 _ _)
  (AutoSeq1.list_extend_list_list_0 l its.toArray n b its2.toArray n2 hlong (by rw[size_toArray];omega) (by omega)) ⟨e,e2, ?_⟩
 refine⟨.non,_,I.lset (its':=its++its2) hH e (by simp) (r.append r2) ?_,rfl,q⟩
 rw[length_append]
 omega
inductive rPop (x:V) (vs:List V) (H:Hp) (Q:VK):Prop
 |mk:∀l xs y,(x=.ref l)->(vs=[])->(H l=some (.lst xs))->(xs[xs.length - 1]? =some y)->(Q y (upd H l (.lst xs.dropLast)))->rPop x vs H Q
theorem CN:MtM X "list.pop" rPop:=by
 intro pins s σ H x vs v us Q I rx rv h
 obtain⟨l,xs,y,rfl,rfl,hH,hy,q⟩:=h
 cases rx
 have hus:=rv.zero
 subst hus
 obtain⟨z,its,n,r,hl,e⟩:=I.lstM hH
 obtain⟨u,hu,ru⟩:=r.get hy
 have hy':its.toArray[its.toArray.size - 1]? =some u:=by
  show its.toArray[its.length - 1]? =some u
  rw[<-Array.getElem?_toList,<-hl]
  exact hu
 refine call_meets F.slot_list_pop ⟨_,e,rfl⟩ F.entry_list_pop (F.args_list_pop_1 _) (MeetsSeq.list_pop_last l its.toArray n u hy' (by rw[size_toArray];omega)) ⟨e, ?_⟩
 refine⟨y,_,I.lset (its':=its.dropLast) hH e ?_ r.dropLast ?_,ru,q⟩
 ·show its.toArray.eraseIdxIfInBounds (its.toArray.size - 1)=its.dropLast.toArray
  rw[size_toArray,List.eraseIdxIfInBounds_toArray,LX]
 ·rw[List.length_dropLast]
  omega
inductive rCat (x:V) (y:V) (H:Hp) (Q:VK):Prop
 |mk:∀l b xs zs,(x=.ref l)->(y=.ref b)->(H l=some (.lst xs))->(H b=some (.lst zs))->(xs.length+zs.length<=sizeLine)->(∀p,H p=none->Q (.ref p) (upd H p (.lst (xs++zs))))->rCat x y H Q
theorem op_cat:OpR X (binaryOp .Add) rCat:=by
 intro pins s σ H x y v u Q I rx ry h
 obtain⟨l,b,xs,zs,rfl,rfl,hH,hB,hz,q⟩:=h
 cases rx
 cases ry
 obtain⟨z,its,n,r,hl,e⟩:=I.lstM hH
 obtain⟨z2,its2,n2,r2,hl2,e2⟩:=I.lstM hB
 refine PySem.P.add_list e e2 ?_ (by rw[size_toArray,size_toArray];omega)
 have ea:its.toArray++its2.toArray=(its++its2).toArray:=by simp
 rw[ea]
 exact⟨.ref _,_,I.lnew (t':=s.toks) (r.append r2) (by rw[length_append];omega),rfl,q _ I.fresh⟩
def ZR:R2:=λx y H Q=>∃l k xs,x=.ref l/\y=.int k/\H l=some (.lst xs)/\ -(2^63)<=k/\k<2^63/\xs.length*k.toNat<=sizeLine/\
 ∀p,H p=none->Q (.ref p) (upd H p (.lst (List.replicate k.toNat xs).flatten))
theorem UL{α:Type}(xs:List α)(k:Nat):(List.replicate k xs).flatten.length=k*xs.length:=by
 induction k with
 |zero=>simp
 |succ k ih=>rw[replicate_succ,flatten_cons,length_append,ih,Nat.succ_mul,Nat.add_comm]
theorem VY:OpR X (binaryOp .Mult) ZR:=by
 intro pins s σ H x y v u Q I rx ry h
 obtain⟨l,k,xs,rfl,rfl,hH,h1,h2,hz,q⟩:=h
 cases rx
 obtain⟨t,rfl⟩:=ry
 obtain⟨z,its,n,r,hl,e⟩:=I.lstM hH
 have hlen:its.toArray.size*k.toNat<=sizeLine:=by rw[size_toArray,<-hl];exact hz
 have hcap:¬its.toArray.size*k.toNat>(2^63 - 1)/8:=by
  have:(sizeLine:Nat)<=(2^63 - 1)/8:=by decide
  omega
 have hfit:¬(!Builtin.List.listFitsIndex k)=true:=by
  rw[fitsIndex_both h1 h2]
  exact nZ
 have hlong:¬Builtin.List.listTooLong (its.toArray.size*k.toNat)=true:=by
  rw[JI hlen]
  exact nZ
 have hnew:List.foldl (λx1 x2=>x1++x2) #[] (List.replicate (if its.toArray.isEmpty=true then 0 else k.toNat) its.toArray)=(List.replicate k.toNat its).flatten.toArray:=by
  have f0:∀m:Nat,List.foldl (λx1 x2=>x1++x2) #[] (List.replicate m its.toArray)=(List.replicate m its).flatten.toArray:=λm=>by
   have:=GS its m []
   rw[List.nil_append]at this
   exact this
  rw[f0]
  cases its with
  |nil=>simp
  |cons a r'=>rw[if_neg (by simp)]
 refine wpAny_binaryOp_repeat_ref (T:="list") (U:="int") (by decide) ⟨_,e,rfl⟩ (λs'=>typeIs_int s' k t) noFill_list_mul F.fills_int_mul F.slot_int_rmul repeat_list F.slot_int_index.lookup
  (call_meets F.slot_int_rmul (typeIs_int s k t) F.entry_int_rmul (F.args_int_rmul_2 _ _) (int___rmul___int_list k t l its.toArray n)
   ⟨e,rfl,⟨_,e,rfl⟩,call_meets F.slot_list_mul ⟨_,e,rfl⟩ F.entry_list_mul (F.args_list_mul_2 _ _) (AutoListH.list___mul___list_int_3 l its.toArray n k t hfit hcap hlong) ⟨e, ?_⟩⟩)
 rw[hnew]
 exact⟨.ref _,_,I.lnew (t':=s.toks) (r.rep k.toNat) (by rw[UL,Nat.mul_comm];exact hz),rfl,q _ I.fresh⟩
variable{prog:Program}{w:World}{A:Around}{E:Value->Shared->Prop}
end
end L2
namespace Att
open PySem PySem.W PySem.Calls PyProof.Rows
theorem DK{P:Params}{h:Heap}:∀(ns:List Int) (vs:List Value),WellAll P h vs (ns.map WData.int)->IntsAre vs ns:=by
 intro ns
 induction ns with
 |nil=>
  intro vs w
  rw[map_nil]at w
  cases w
  exact .nil
 |cons n ns ih=>
  intro vs w
  rw[map_cons]at w
  cases w with
  |cons a b=>
   cases a
   exact .cons _ _ (ih _ b)
theorem OQ{l:OpenLaw}{n:Nat}(hn:l.most=some n){P:Params}{h:Heap}{args:List WData}{vals:List Value}
  (hpre:l.row.toRowW.claim.pre args=true)(hwl:WellAll P h vals args):
  ∃a vs ns,vals=[Value.ref a]/\args=[WData.list (ns.map WData.int)]/\h.get? a=some {cls:=.type "list",data:=.seq vs.toArray}/\IntsAre vs ns/\ns.length<=n:=by
 have hsh:WShape.hasAll [] args [.list .int]=true:=(pre_splitW hpre).1
 have hc:l.pre.holds [] {args:=args}=true:=(pre_splitW hpre).2
 obtain⟨d,r,rfl,h1,h2⟩:=hasAllW_cons hsh
 obtain rfl:=hasAllW_nil h2
 obtain⟨xs,rfl,h3⟩:=hasW_list h1
 obtain⟨ns,rfl⟩:=items_int h3
 have hlen:ns.length<=n:=by
  unfold OpenLaw.pre at hc
  have h4:(WTm.not (.lt (.lit (.int (n:Int))) (.len (.arg 0)))).holds [] {args:=[.list (ns.map .int)]}=true:=by
   have h4:=(holds_andW hc).1
   rw[hn]at h4
   exact h4
  have h5:=condW_of h4 (w_not (w_lt w_lit (w_len_list (w_arg rfl))))
  rw[length_map]at h5
  refine Nat.le_of_not_lt λq=> ?_
  have q':(n:Int)<((ns.length:Nat):Int):=by omega
  first
   |(rw[decide_eq_true q']at h5;exact absurd h5 (by decide))
   |(simp at h5;omega)
 cases hwl with
 |cons w1 w2=>
  cases w2
  cases w1 with
  |list ho hall=>exact⟨_,_,ns,rfl,rfl,ho,DK ns _ hall,hlen⟩
theorem OP(l:OpenLaw)(args:List WData):l.row.toRowW.claim.post args (.bool true) args=true:=
 postW_of (r:=l.row.toRowW) (X:=(true==true))
  (show WShape.has [] (.bool true) .bool=true by first|rfl|decide|simp[WShape.has,WShape.arms,WShape.armsAll])
  (show(WTm.eq .res (.lit (.bool true))).value [] {args:=args,res:=some (.bool true),after:=args}=some (.bool (true==true))from w_eq_bool (w_res rfl) w_lit) rfl
theorem attach_call{l:OpenLaw}{n:Nat}{q:Program}{loose:List Str}{XP:(Str->Option Value)->Heap->Prop}{YP:World->Heap->Prop}{d:DefRec}
  (hn:l.most=some n)(hdf:d.params.defaults=[])
  (call:∀(w:World) (s₀ s₁:Shared) (mg mb:Str->Option Value) (fa:Addr) (o:Obj) (pm cd doc:Value) (a:Addr) (vs:List Value) (ns:List Int),
   Ground q loose [] XP w s₀ mg mb s₁.heap->YP w s₁.heap->
   s₁.heap.get? fa=some o->o.data=.func (docDef d.name d.params d.body d.scope pm cd doc)->s₁.heap.CodeRec cd d.name->mg d.name=some (.ref fa)->
   s₁.heap.get? a=some {cls:=.type "list",data:=.seq vs.toArray}->IntsAre vs ns->ns.length<=n->s₁.gens= #[]->
   codeAny (model l.prog w) callerA (.call (.ref fa) ⟨[.ref a],[]⟩) (λr s'=>r=.ok (.ret (.bool true))/\OldK s₁.heap s'.heap/\s'.os=s₁.os/\AllBare s'.gens) s₁):
  WalkO q loose XP YP l.row.toRowW d [] (λf vs=>PySem.call f vs):=by
 intro w s₀ s₁ mg mb G Y fa o pm cd doc dV kV ho hd hcd hD hmg hg args vals as hpre hlay hrd hwl hlo
 obtain rfl:dV=.none:=Dflts.none hD hdf
 obtain rfl:kV=.none:=Dflts.noKw hD
 obtain⟨a,vs,ns,rfl,rfl,hobj,hints,hlen⟩:=OQ hn hpre hwl
 refine enter_call (codeAny_mono (call w s₀ s₁ mg mb fa o pm cd doc a vs ns G Y ho (fd_plain hd) hcd hmg hobj hints hlen hg) λr s' hq=> ?_)
 obtain⟨rfl,h2,h3,h4⟩:=hq
 exact⟨.inl ⟨.bool true,.bool true,[],rfl,λ_=>rfl,.bool true,OP l _,λ_=>⟨List.Pairwise.nil,λ_ hm=>(nomatch hm)⟩⟩,h2,h3,h4⟩
section
variable{prog:Program}{w:World}{A:Around}{E:Value->Shared->Prop}{s:Shared}{K:Frag}
end
end Att
namespace L2
open PySem PySem.Spec PyProof.Rows
theorem GF:∀ {vs:List Value} {ns:List Int},IntsAre vs ns->Vals (ns.map V.int) vs
 |_,_,.nil=> .nil
 |_,_,.cons n t h=> .cons ⟨t,rfl⟩ (GF h)
def L1(s:Stmt)(j:Nat):Stmt:=match s with
 | .ClassDef _ _ _ body _ _ _ _ _ _ _=>body.getD j (.Pass ⟨0,0,0,0⟩)
 |_=> .Pass ⟨0,0,0,0⟩
def C3(s:Stmt):Arguments:=match s with
 | .FunctionDef _ a _ _ _ _ _ _ _ _=>a
 |_=> {posonlyargs:=[],args:=[],vararg:=none,kwonlyargs:=[],kw_defaults:=[],kwarg:=none,defaults:=[]}
def B8(s:Stmt):List Stmt:=match s with
 | .FunctionDef _ _ b _ _ _ _ _ _ _=>b
 |_=> []
def A6(s:Stmt):Scope:=match s with
 | .FunctionDef _ _ _ _ _ _ sc _ _ _=>sc
 |_=> {kind:=.function,names:=[],isGenerator:=false,isCoroutine:=false}
abbrev CX0:CXT:=λ_ _ _ _ _ _=>False
abbrev E0:XK:=λ_ _ _=>False
theorem C1{X:Cx}:X5 CX0 X E0:=λ_ _ _ _ _ _ _ h=>h.elim
structure Fun (K:FZ) (x qual:Str) (st:Stmt) (f:Addr) (fd:FuncData):Prop where
 ex:∃(oc:Value) (od:Option Addr) (kV doc pm:Value) (an:Option Addr) (cdv ct:Value) (osl:Array (Option Value)),
  fd=fnOf x qual (C3 st) (B8 st) (A6 st) .none kV doc pm an cdv ct/\K.lookup f=some ⟨oc,od,.func fd,osl⟩/\codeIn K cdv qual=true
 kp:kZ K (.ref f)=true
section
variable{P:Program}{w:World}{K:FZ}{mg:Str->Option Value}{base:Heap}
theorem Fun.ok{x qual:Str}{st:Stmt}{f:Addr}{fd:FuncData}{N ps:List Str}{k:Nat}{sp:Sp}(F:Fun K x qual st f fd)(S:FnScope N ps (A6 st))(len:∀vs H Q E,sp vs H Q E->vs.length=ps.length)
  (hbody:∀(cdv:Value) (A:Around) (outer:List Env) (s:Shared) (H:Hp) (vs:List V) (Q:VK) (E:XK),Room k (A.deeper (envOfC qual (A6 st) s.heap.objs.size f cdv))->sp vs H Q E->
   ∃t,PSs (L5 CX0 P w K mg base N qual (A6 st) f cdv A outer s H E).nox (B8 st) t/\t {nx:=λ_ H'=>Q .non H',rt:=Q} (start N vs) H):FnOk P w K mg base CX0 (k+1) f fd ps sp:=by
 obtain⟨oc,od,kV,doc,pm,an,cdv,ct,osl,rfl,lk,hcd⟩:=F.ex
 refine MY lk hcd S len λA outer s H vs Q E hr hsp=> ?_
 obtain⟨t,h,q⟩:=hbody cdv A outer s H vs Q E hr hsp
 exact⟨t,h.nox,q⟩
theorem Fun.binds{x qual:Str}{st:Stmt}{f:Addr}{fd:FuncData}{ps:List Str}(F:Fun K x qual st f fd)
  (h:∀(kV doc pm:Value) (an:Option Addr) (cdv ct:Value) (us:List Value),us.length=ps.length->bindArgs (fnOf x qual (C3 st) (B8 st) (A6 st) .none kV doc pm an cdv ct) ⟨us,[]⟩=pure (ps.zip us)):Binds K fd ps []:=by
 obtain⟨oc,od,kV,doc,pm,an,cdv,ct,osl,rfl,lk,hcd⟩:=F.ex
 exact .all (h kV doc pm an cdv ct)
theorem L7{x qual:Str}{st:Stmt}{f:Addr}{oc:Value}{od an:Option Addr}{osl:Array (Option Value)}{kV doc pm cdv ct:Value}(l:K.lookup f=some ⟨oc,od,.func (fnOf x qual (C3 st) (B8 st) (A6 st) .none kV doc pm an cdv ct),osl⟩)
  (c:codeIn K cdv qual=true)(k:kZ K (.ref f)=true):Fun K x qual st f (fnOf x qual (C3 st) (B8 st) (A6 st) .none kV doc pm an cdv ct):=⟨⟨oc,od,kV,doc,pm,an,cdv,ct,osl,rfl,l,c⟩,k⟩
variable{X:Cx}
theorem pv(i:Nat){x:Str}{pos:Pos}(hN:X.N[i]? =some x:=by rfl)(hv:Vis X.env.scope x:=by first|exact Or.inl rfl|exact Or.inr (Or.inl rfl)|exact Or.inr (Or.inr rfl))(hd:(x==("__debug__":Str))=false:=by decide)
  (hcd:(x==("__classdict__":Str))=false:=by decide):PE X (.Name x pos) (tVar i):=YH hN hv hd hcd
end
def Same(H H':Hp):Prop:=∀b o,H b=some o->H' b=some o
theorem Same.refl(H:Hp):Same H H:=λ_ _ h=>h
theorem Same.trans{H H1 H2:Hp}(a:Same H H1)(b:Same H1 H2):Same H H2:=λc o h=>b c o (a c o h)
theorem Same.free{H H':Hp}(e:Same H H'){l:Addr}(h:H' l=Option.none):H l=Option.none:=by
 cases q:H l with
 |none=>rfl
 |some o=>
  rw[e l o q]at h
  cases h
theorem Same.seq{K:FZ}{H H':Hp}{a:Addr}{xs:List V}(e:Same H H')(h:SqL K H a xs):SqL K H' a xs:=by
 rcases h with(h|⟨o,h⟩)|h
 ·exact .inl (.inl (e _ _ h))
 ·exact .inl (.inr ⟨o,e _ _ h⟩)
 ·exact .inr h
theorem HX{α β:Type}{M:Model}{A:Around}{a:α}{Q:α->Shared->Prop}{E:Value->Shared->Prop}{s:Shared}{t2:Sem β}{Q2:β->Shared->Prop}{E2:Value->Shared->Prop}
  (h:wpAny M A (pure a:Sem α) Q E s)(k:Q a s->wpAny M A t2 Q2 E2 s):wpAny M A t2 Q2 E2 s:=fun Γ p hΓ=>k (h Γ p hΓ) Γ p hΓ
def PTs(X:Cx)(ifs:List Expr)(t:TT):Prop:=
 ∀(pins:List (Addr×Obj)) (s:Shared) (σ:St) (H:Hp) (Q:Bool->Hp->Prop),Inv X pins σ H s->t σ H Q->
  wpAny (model X.prog X.w) X.A (forIn ifs true λc r=>if r=true then do let ok<-isTrue c X.env (eval c X.env);pure (ForInStep.yield ok)else pure (ForInStep.yield r)) (TP X pins σ Q) X.xe s
def MR:TT:=λ_ H Q=>Q true H
theorem L9{X:Cx}:PTs X [] MR:=λ_ _ _ H _ I h=>wpAny_tests_nil ⟨H,I,h⟩
def Z4(cells:List (Str×Addr))(names:List (Str×NameKind))(acc:List (Str×Addr)):List (Str×Addr):=
 match names with
 | []=>acc
 |(n,k)::r=>Z4 cells r (if k==.free then(n,(cells.lookup n).getD 0)::acc else acc)
theorem BK{env:Env}:∀(names:List (Str×NameKind)) (acc:List (Str×Addr)),(∀y∈names,y.2=.free->∃c,env.cells.lookup y.1=some c)->
  (forIn names acc λ(x:Str×NameKind) (r:List (Str×Addr))=>if(x.2==.free)=true then(do let a<-cellOf env x.1;pure (ForInStep.yield ((x.1,a)::r)):Sem (ForInStep (List (Str×Addr))))else pure (ForInStep.yield r))=(pure (Z4 env.cells names acc):Sem (List (Str×Addr)))
 | [],acc,_=>rfl
 |(n,k)::r,acc,h=>by
  have ih:=BK (env:=env) r
  rw[List.forIn_cons]
  by_cases hk:(k==NameKind.free)=true
  ·obtain⟨c,hc⟩:=h (n,k) mem_cons_self (by simpa using hk)
   have hc':cellOf env n=pure c:=by unfold cellOf;rw[hc]
   dsimp only
   rw[if_pos hk,hc']
   have e:Z4 env.cells ((n,k)::r) acc=Z4 env.cells r ((n,c)::acc):=by
    show Z4 env.cells r (if(k==NameKind.free)=true then(n,(env.cells.lookup n).getD 0)::acc else acc)=_
    rw[if_pos hk,hc];rfl
   rw[e,<-ih ((n,c)::acc) λy hy=>h y (mem_cons_of_mem _ hy)]
   rfl
  ·dsimp only
   rw[if_neg hk]
   have e:Z4 env.cells ((n,k)::r) acc=Z4 env.cells r acc:=by
    show Z4 env.cells r (if(k==NameKind.free)=true then(n,(env.cells.lookup n).getD 0)::acc else acc)=_
    rw[if_neg hk]
   rw[e,<-ih acc λy hy=>h y (mem_cons_of_mem _ hy)]
   rfl
theorem X9{scope:Scope}{env:Env}(h:∀y∈scope.names,y.2=.free->∃c,env.cells.lookup y.1=some c):closureFor scope env=pure (Z4 env.cells scope.names []):=by
 unfold closureFor
 have e:=BK (env:=env) scope.names [] h
 first
  |exact e
  |(simp only[bind_pure_comp,map_pure]at*;exact e)
  |(rw[<-e];simp)
theorem FA{cells:List (Str×Addr)}:∀(names:List (Str×NameKind)) (acc:List (Str×Addr)) (p:Str×Addr),(∀y∈names,y.2=.free->∃c,cells.lookup y.1=some c)->p∈Z4 cells names acc->p∈acc\/(cells.lookup p.1=some p.2/\(p.1,NameKind.free)∈names)
 | [],acc,p,_,h=> .inl h
 |(n,k)::r,acc,p,hn,h=>by
  have h':p∈Z4 cells r (if(k==NameKind.free)=true then(n,(cells.lookup n).getD 0)::acc else acc):=h
  rcases FA r _ p (λy hy=>hn y (mem_cons_of_mem _ hy)) h' with q|⟨q1,q2⟩
  ·by_cases hk:(k==NameKind.free)=true
   ·rw[if_pos hk]at q
    rcases cZ q with e|q
    ·have hk':k=.free:=by simpa using hk
     obtain⟨c,hc⟩:=hn (n,k) mem_cons_self hk'
     subst e
     refine .inr ⟨?_, ?_⟩
     ·show cells.lookup n=some ((cells.lookup n).getD 0)
      have hc':cells.lookup n=some c:=hc
      rw[hc'];rfl
     ·rw[<-hk'];exact mem_cons_self
    ·exact .inl q
   ·rw[if_neg hk]at q
    exact .inl q
  ·exact .inr ⟨q1,mem_cons_of_mem _ q2⟩
theorem ED{cells:List (Str×Addr)}:∀(names:List (Str×NameKind)) (acc:List (Str×Addr)) (n:Str),((n,NameKind.free)∈names\/∃c,(n,c)∈acc)->∃c,(n,c)∈Z4 cells names acc
 | [],acc,n,h=>by
  rcases h with h|h
  ·cases h
  ·exact h
 |(m,k)::r,acc,n,h=>by
  show∃c,(n,c)∈Z4 cells r (if(k==NameKind.free)=true then(m,(cells.lookup m).getD 0)::acc else acc)
  refine ED r _ n ?_
  rcases h with h|⟨c,h⟩
  ·rcases cZ h with e|h
   ·injection e with e1 e2
    subst e1;subst e2
    exact .inr ⟨_,by rw[if_pos (show(NameKind.free==NameKind.free)=true from rfl)];exact mem_cons_self⟩
   ·exact .inl h
  ·refine .inr ⟨c, ?_⟩
   split
   ·exact mem_cons_of_mem _ h
   ·exact h
theorem U1{α:Type}{n:Str}{c:α}:∀ {l:List (Str×α)},(n,c)∈l->∃d,l.lookup n=some d/\(n,d)∈l
 |(m,d)::r,h=>by
  by_cases e:n=m
  ·subst e
   exact⟨d,by simp[lookup_cons],mem_cons_self⟩
  ·rcases cZ h with q|q
   ·injection q with q1 _
    exact absurd q1 e
   ·obtain⟨d',h1,h2⟩:=U1 q
    refine⟨d', ?_,mem_cons_of_mem _ h2⟩
    rw[lookup_cons]
    have:(n==m)=false:=beq_eq_false_iff_ne.mpr e
    rw[this];exact h1
structure CompScope (N:List Str) (sc scope:Scope) (x:Str) (caps:List Nat) (ns:List Str):Prop where
 cell:∀y∈scope.names,y.2≠ .cell
 kind:scope.kind=.function
 names:∀y∈scope.names,y.2=.local->scope.names.lookup y.1=some .local
 var:scope.names.lookup x=some .local
 free:∀y∈scope.names,y.2=.free->sc.names.lookup y.1=some .cell\/sc.names.lookup y.1=some .free
 at_:caps.map (λj=>N[j]?)=ns.map some
 nsf:∀y∈ns,scope.names.lookup y=some .free
 nd:(x::ns).Nodup
def Cx.comp(X:Cx)(N':List Str)(scope:Scope)(cl:List (Str×Addr))(C:Addr)(s:Shared)(H:Hp)(fp:List Addr):Cx:=
 {X with N:=N',s₀:=s,H₀:=H,env:=compEnvC scope cl C X.env,outer:=X.stack,ex:=fp,fn:=λ_=>false,xe:=λ_ _=>False}
def capσ(caps:List Nat)(σ:St)(v:Option V):St:=v::caps.map λj=>(σ[j]?).getD none
def QV(wi:TI)(caps:List Nat)(tt:TT)(te:TE)(σ:St)(H:Hp)(R:List V->Hp->Prop):Prop:=wi σ H λJ H1=>∃W:Nat->Nat->List V->Hp->Prop,(∃m,W 0 m [] H1)/\∀i m ys H,W i m ys H->
 ys.length<=sizeLine/\((J.stop i H/\R ys H)\/(J.go i H/\∃N:List V->Hp->Prop,(∀ys' H',N ys' H'->∃m',m'<m/\W (i+1) m' ys' H')/\∀v H',J.yld i H v H'->tt (capσ caps σ (some v)) H' λb H2=>
  if b=true then te (capσ caps σ (some v)) H2 λy H3=>N (ys++ [y]) H3 else N ys H2))
def VD(wi:TI)(caps:List Nat)(tt:TT)(te:TE):TE:=fun σ H Q=>QV wi caps tt te σ H λys H1=>∀D,H1 D=none->Q (.ref D) (upd H1 D (.lst ys))
theorem Z6{scope:Scope}{env:Env}{y:Str}(h:((relabel scope env).names.lookup y=some .cell\/(relabel scope env).names.lookup y=some .free))(hc:∀y∈scope.names,y.2≠ .cell):(y,NameKind.free)∈scope.names:=by
 have h':∃k,(k=.cell\/k=.free)/\(y,k)∈(relabel scope env).names:=by
  rcases h with h|h
  ·exact⟨_,.inl rfl,PySem.mem_of_lookup h⟩
  ·exact⟨_,.inr rfl,PySem.mem_of_lookup h⟩
 obtain⟨k,hk,hm⟩:=h'
 unfold relabel at hm
 obtain⟨⟨n,k0⟩,hm0,e⟩:=mem_map.mp hm
 dsimp only at e
 split at e
 ·rename_i hcond
  injection e with e1 e2
  subst e1
  have:k0=.free:=by
   simp only[Bool.and_eq_true]at hcond
   simpa using hcond.1.1
  subst this
  exact hm0
 ·injection e with e1 e2
  subst e1;subst e2
  rcases hk with rfl|rfl
  ·exact absurd rfl (hc _ hm0)
  ·exact hm0
theorem L0{env:Env}:∀ {names:List (Str×NameKind)} {x:Str},names.lookup x=some .free->
  (names.map λ(n,k)=>if(k==NameKind.free&&env.scope.kind==.function&&env.kindOf n==some .cell)then(n,NameKind.cell)else(n,k)).lookup x=some .cell\/
  (names.map λ(n,k)=>if(k==NameKind.free&&env.scope.kind==.function&&env.kindOf n==some .cell)then(n,NameKind.cell)else(n,k)).lookup x=some .free
 | [],_,h=>by simp at h
 |(n,k)::r,x,h=>by
  have ih:= @L0 env r x
  show(List.lookup x ((if(k==NameKind.free&&env.scope.kind==.function&&env.kindOf n==some .cell)=true then(n,NameKind.cell)else(n,k))::_)=_)\/(List.lookup x ((if(k==NameKind.free&&env.scope.kind==.function&&env.kindOf n==some .cell)=true then(n,NameKind.cell)else(n,k))::_)=_)
  cases hx:x==n with
  |true=>
   simp only[lookup_cons,hx]at h
   cases h
   split
   ·left;simp[lookup_cons,hx]
   ·right;simp[lookup_cons,hx]
  |false=>
   simp only[lookup_cons,hx]at h
   by_cases hc:(k==NameKind.free&&env.scope.kind==.function&&env.kindOf n==some .cell)=true
   ·rw[if_pos hc];simp only[lookup_cons,hx];exact ih h
   ·rw[if_neg hc];simp only[lookup_cons,hx];exact ih h
section
variable{X:Cx}
theorem HB{x:Str}{px:Pos}{iter elt:Expr}{ifs:List Expr}{scope:Scope}{pos pos':Pos}{wi:TI}{tt:TT}{te:TE}{caps:List Nat}{ns:List Str}{use:Option (Value->Sem Unit)}{Q:Value->Shared->Prop}
  {pins:List (Addr×Obj)}{s:Shared}{σ:St}{H:Hp}{R:List V->Hp->Prop}
  (CS:CompScope X.N X.env.scope scope x caps ns)(hc:X.calm=true)(hi:PI X (.Name x px) iter wi)
  (ht:∀cl C s H fp,PTs (X.comp (x::ns) scope cl C s H fp) ifs tt)(he:∀cl C s H fp,PE (X.comp (x::ns) scope cl C s H fp) elt te)
  (hs:∀v,foldedSetIterable iter X.env v=pure v)
  (I:Inv X pins σ H s)(h:QV wi caps tt te σ H R)
  (hend:∀D C s' H' ys,Inv X pins σ (upd H' D (.lst ys)) s'->H' D=none->R ys H'->(∃m,s'.heap.Ns C m)->(upd H' D (.lst ys)) C=none->C≠X.env.locals->X.s₀.heap.objs.size<=C->(∀y c,X.env.cells.lookup y=some c->c≠C)->(∀p∈X.pn++pins,p.1≠C)->
   compPost (model X.prog X.w) X.A X.xe use Q (.ref D) C (.ok .next) s'):
  wpAny (model X.prog X.w) X.A (comprehension (.ListComp elt [⟨.Name x px,iter,ifs,0⟩] scope pos) scope X.env pos' (newList []) false (eval iter X.env) use) Q X.xe s:=by
 have hcells:∀y∈scope.names,y.2=.free->∃c,X.env.cells.lookup y.1=some c:=λy hy hf=>I.ok.has y.1 (CS.free y hy hf)
 refine wpAny_comprehension_free (use:=use) rfl hs (X9 hcells) CS.kind CS.names ?_
 refine thn (hi pins s σ H _ I h) λv s1 h1=>thn h1 λitv s2 h2=> ?_
 obtain⟨it,fp,tn,J,H2,e,I2,T,st2,f2,W,⟨m0,w0⟩,turn⟩:=h2
 subst e
 refine wpAny_newObj_type (wpAny_newFunctionEnv CS.cell (by intro y hy;simp at hy) (λh₁ hns₁ hsb₁=> ?_) CS.kind)
 dsimp only at hns₁ hsb₁⊢
 generalize hHH:s2.heap.push {cls:=.type "list",dict:=none,data:=.seq ([]:List Value).toArray}=HH at hns₁ hsb₁⊢
 have hC:HH.objs.size=s2.heap.objs.size+1:=by rw[<-hHH,size_push]
 generalize hCe:HH.objs.size=C at hns₁ hsb₁ hC⊢
 have hDC:s2.heap.objs.size≠C:=by rw[hC];exact ne_of_lt (lt_succ_self _)
 have below:∀b,b<s2.heap.objs.size->b≠C/\b≠s2.heap.objs.size:=λb hb=>⟨by rw[hC];exact ne_of_lt (Nat.lt_succ_of_lt hb),ne_of_lt hb⟩
 have old:∀b o,s2.heap.get? b=some o->h₁.get? b=some o:=λb o e=>hsb₁.extBut b o (below b (lt_size e)).1 (gZ _ (hHH▸gZ _ e))
 have hacc:h₁.get? s2.heap.objs.size=some (LCg.lst []):=hsb₁.extBut _ _ hDC (gZ _ (hHH▸get?_push_size _ rfl))
 have nfp:∀b∈fp,b<s2.heap.objs.size:=λb hb=>let⟨o,e,_⟩:=T.obj _ _ st2 b hb;lt_size e
 have clsub:∀y c,(Z4 X.env.cells scope.names []).lookup y=some c->X.env.cells.lookup y=some c:=λy c e=>by
  rcases FA scope.names [] (y,c) hcells (PySem.mem_of_lookup e)with q|q
  ·cases q
  ·exact q.1
 have fresh2:∀a,s2.heap.objs.size<=a->H2 a=none:=λa ha=>I2.hok.fresh ha
 generalize hcl:Z4 X.env.cells scope.names []=cl at clsub⊢
 have clhas:∀y,(y,NameKind.free)∈scope.names->∃c,cl.lookup y=some c:=λy hy=>by
  obtain⟨c,q⟩:=ED (cells:=X.env.cells) scope.names [] y (.inl hy)
  rw[hcl]at q
  obtain⟨d,q1,_⟩:=U1 q
  exact⟨d,q1⟩
 have ltC:∀y c,X.env.cells.lookup y=some c->c<s2.heap.objs.size:=λy c e=>let⟨v,z⟩:=I2.cell y c e;z.lt
 have ok':(X.comp (x::ns) scope cl C s2 H2 fp).Ok:=by
  refine⟨I2.ok.mod,CS.kind,I2.ok.glob,I2.ok.blt,(by show s2.heap.objs.size<=C;rw[hC];exact le_succ _),λy z c a b=>I2.ok.inj y z c (clsub y c a) (clsub z c b),λy hy=>clhas y (Z6 hy CS.cell),λy c z=>(by cases z),I2.ok.hd,I2.ok.frames,.inl rfl,
   λb hb=>⟨(below b (nfp b hb)).1,λy c e z=>(f2 b hb).2.2.2.2.1 y c (clsub y c e) z⟩,λb o e=>I2.bs b o e,le_trans I2.ok.bsz I2.sz,λb o e hb=> ?_,λb hb hf=> ?_,I2.stack,I2.stkFree⟩
  ·rcases(f2 b hb).2.2.2.1 with z|z
   ·exact I2.ok.noex b o e z
   ·exact absurd (lt_of_lt_of_le (lt_size e) (le_trans I2.ok.bsz z)) (lt_irrefl _)
  ·rcases cZ (I2.stkSub b hf)with z|z
   ·exact(f2 b hb).2.1 z
   ·exact(f2 b hb).2.2.1 z
 have capget:∀(k:Nat) (y:Str) (v:V),(x::ns)[k]? =some y->(capσ caps σ none)[k]? =some (some v)->∃j,X.N[j]? =some y/\σ[j]? =some (some v)/\scope.names.lookup y=some .free:=λk y v e1 e2=>by
  cases k with
  |zero=>cases e2
  |succ k=>
   have e1':ns[k]? =some y:=by simpa using e1
   have e2':(caps.map λj=>(σ[j]?).getD none)[k]? =some (some v):=by simpa [capσ]using e2
   have e3:(ns.map some)[k]? =some (some y):=by rw[getElem?_map,e1'];rfl
   rw[<-CS.at_,getElem?_map]at e3
   rw[getElem?_map]at e2'
   cases hj:caps[k]? with
   |none=>rw[hj]at e3;cases e3
   |some j=>
    rw[hj]at e3 e2'
    have e4:X.N[j]? =some y:=Option.some.inj e3
    have e5:(σ[j]?).getD none=some v:=Option.some.inj e2'
    refine⟨j,e4, ?_,CS.nsf y (mem_of_getElem? e1')⟩
    cases hσ:σ[j]? with
    |none=>rw[hσ]at e5;cases e5
    |some z=>rw[hσ]at e5;have e6:z=some v:=e5;rw[e6]
 have visfree:∀y,scope.names.lookup y=some .free->X.env.kindOf y=some .cell\/X.env.kindOf y=some .free:=λy hy=>CS.free (y,.free) (PySem.mem_of_lookup hy) rfl
 have I0:Inv (X.comp (x::ns) scope cl C s2 H2 fp) (pins++ [(s2.heap.objs.size,LCg.lst [])]) (capσ caps σ none) H2 {s2 with heap:=h₁,toks:=s2.toks+([]:List (Str×Value)).length}:=by
  obtain⟨m2,hn2,hl2⟩:=I2.loc
  refine⟨ok',rfl,I2.bare,Un.kept old,⟨_,hns₁,λk y v e1 e2 e3=> ?_⟩,λy c e=> ?_,fresh2 C (by rw[hC];exact le_succ _),λy c e=>I2.freeC y c (clsub y c e),λp hp=> ?_,I2.hok.kept old, ?_⟩
  ·obtain⟨j,q1,q2,q3⟩:=capget k y v e1 e2
   have vf:=visfree y q3
   obtain⟨u,ru,lk⟩:=hl2 j y v q1 q2 (vf.elim (λz=> .inr (.inl z)) λz=> .inr (.inr z))
   refine⟨u,ru,.inr ⟨L0 q3, ?_⟩⟩
   obtain⟨c,hcl'⟩:=clhas y (PySem.mem_of_lookup q3)
   refine⟨c,hcl', ?_⟩
   rcases lk with⟨k1,_⟩|⟨_,c',e',z⟩
   ·rcases vf with vf|vf<;>(rw[k1]at vf;cases vf)
   ·have q:=clsub y c hcl'
    rw[e']at q
    cases q
    exact z.keeps old
  ·obtain⟨v,z⟩:=I2.cell y c (clsub y c e)
   exact⟨v,z.keeps old⟩
  ·rcases mem_append.mp hp with hp|hp
   ·obtain⟨a1,a2,a3,a4,a5⟩:=I2.pin p (mem_append_left _ hp)
    refine⟨old _ _ a1,a2,(below _ (lt_size a1)).1,λz=> ?_,a5⟩
    rcases cZ (I2.stkSub _ z)with z|z
    ·exact a3 z
    ·exact a4 z
   ·rcases mem_append.mp hp with hp|hp
    ·obtain⟨a1,a2,a3,a4,a5⟩:=I2.pin p (mem_append_right _ hp)
     refine⟨old _ _ a1,a2,(below _ (lt_size a1)).1,λz=> ?_,a5⟩
     rcases cZ (I2.stkSub _ z)with z|z
     ·exact a3 z
     ·exact a4 z
    ·have e:p=(s2.heap.objs.size,LCg.lst []):=by simpa using hp
     subst e
     refine⟨hacc,fresh2 _ (le_refl _),hDC,λz=> ?_,λv z=>by cases z⟩
     rcases cZ (I2.stkSub _ z)with z|z
     ·exact absurd I2.lt (by rw[<-z];exact lt_irrefl _)
     ·exact I2.nofs (le_refl _) z
  ·show(capσ caps σ none).length=(x::ns).length
   have:=congrArg List.length CS.at_
   simp only[length_map]at this
   simp[capσ,this]
 have loop:∀s₃:Shared,s₃={s2 with heap:=h₁,toks:=s2.toks+([]:List (Str×Value)).length}->
   codeAny (model X.prog X.w) X.A (.compLoop (.ListComp elt [⟨.Name x px,iter,ifs,0⟩] scope pos) 0 (.ref it) (.ref s2.heap.objs.size) (compEnvC scope cl C X.env))
    (compPost (model X.prog X.w) X.A X.xe use Q (.ref s2.heap.objs.size) C) s₃:=by
  rintro s₃ rfl
  refine codeAny_compLoop_tests (λn s'=>∃i ys us H',Inv (X.comp (x::ns) scope cl C s2 H2 fp) (pins++ [(s2.heap.objs.size,LCg.lst us)]) (capσ caps σ none) H' s'/\Vals ys us/\tn i s'.heap/\(∀b∈fp,H' b=none)/\W i n ys H') ?_ m0
   ⟨0,[],[],H2,I0,.nil,T.keep _ _ _ st2 (λb _ o e=>old b o e),λb hb=>(f2 b hb).1,w0⟩
  rintro n s3 ⟨i,ys,us,H3,I3,rv,st3,fr3,w3⟩
  obtain⟨hle,hstep⟩:=turn i n ys H3 w3
  have pinlt:∀p∈X.pn++pins,p.1<s2.heap.objs.size:=λp hp=>lt_size (I2.pin p hp).1
  have stat:∀ {H':Hp},(∀b∈fp,H' b=none)->∀b∈fp,DJ (X.comp (x::ns) scope cl C s2 H2 fp) (pins++ [(s2.heap.objs.size,LCg.lst us)]) H' b:=λhn b hb=>
   ⟨hn b hb,(below b (nfp b hb)).1,ok'.exfs b hb,.inl hb,λy c e z=>(f2 b hb).2.2.2.2.1 y c (clsub y c e) z,λp hp=>by
    rcases mem_append.mp hp with hp|hp
    ·exact(f2 b hb).2.2.2.2.2 p (mem_append_left _ hp)
    ·rcases mem_append.mp hp with hp|hp
     ·exact(f2 b hb).2.2.2.2.2 p (mem_append_right _ hp)
     ·have e:p=(s2.heap.objs.size,LCg.lst us):=by simpa using hp
      subst e
      exact Ne.symm (below b (nfp b hb)).2⟩
  have memD:∀(l:List (Addr×Obj)),(s2.heap.objs.size,LCg.lst us)∈(X.comp (x::ns) scope cl C s2 H2 fp).pn++((pins++ [(s2.heap.objs.size,LCg.lst us)])++l):=λl=>
   mem_append_right _ (mem_append_left _ (mem_append_right _ mem_cons_self))
  rcases hstep with⟨stop,r⟩|⟨go,Nx,hNx,step⟩
  ·refine thn (T.done (X.comp (x::ns) scope cl C s2 H2 fp) rfl rfl rfl hc i _ s3 _ H3 _ I3 (stat fr3) st3 stop) λr' s4 ⟨hr,I4⟩=> ?_
   subst hr
   have pD:=I4.pin (s2.heap.objs.size,LCg.lst us) (mem_append_right _ (mem_append_right _ mem_cons_self))
   have hDn:H3 s2.heap.objs.size=none:=pD.2.1
   have hCn:H3 C=none:=I4.free
   have b4:Un (frs X.stack) fp H2 H3 s2.heap s4.heap:=I4.base
   have u4:Un (frs X.stack) fp H2 (upd H3 s2.heap.objs.size (.lst ys)) s2.heap s4.heap:=
    ⟨b4.keep,b4.slot,λb o e n hx=>by rw[B1 (below b (lt_size e)).2];exact b4.free b o e n hx,b4.there,
     λb xs q=>by rw[B1 (B0 (b4.tups b xs q) hDn)];exact b4.tups b xs q,λb o u q=>by rw[B1 (B0 (b4.frzs b o u q) hDn)];exact b4.frzs b o u q,
     λb ps q=>by
      obtain⟨m1,e1⟩:=b4.tbls b ps q
      exact⟨m1,by rw[B1 (B0 e1 hDn)];exact e1⟩⟩
   have k4:HOk X.prog X.w (upd H3 s2.heap.objs.size (.lst ys)) s4.heap:=λb u e=>by
    by_cases hb:b=s2.heap.objs.size
    ·subst hb
     rw[A3]at e
     cases e
     exact⟨hle,us,_,rv,pD.1⟩
    ·rw[B1 hb]at e
     exact(I4.hok b u e).stay (λc v _ q=>q) (λc q=>by rw[B1 (B0 q hDn)];exact q) λc xs q=>by rw[B1 (B0 q hDn)];exact q
   have J4:Inv X pins σ (upd H3 s2.heap.objs.size (.lst ys)) s4:=I2.call' (ch:=fp) I4.os u4 k4 I4.bare λb hb=>⟨(f2 b hb).2.2.2.1,(f2 b hb).2.1,(f2 b hb).2.2.2.2.1,(f2 b hb).2.2.2.2.2⟩
   obtain⟨mC,hnC,_⟩:=I4.loc
   exact hend _ C s4 H3 ys J4 hDn r ⟨mC,hnC⟩ (by rw[B1 (Ne.symm hDC)];exact hCn) (Ne.symm (below _ I2.lt).1) (by rw[hC];exact Nat.le_succ_of_le I2.sz) (λy c e=>(below c (ltC y c e)).1) λp hp=>(below _ (pinlt p hp)).1
  ·refine thn (T.item (X.comp (x::ns) scope cl C s2 H2 fp) rfl rfl rfl hc i _ s3 _ H3 _ I3 (stat fr3) st3 go) λr' s4 ⟨u,hr,h4⟩=> ?_
   subst hr
   refine HX h4 λ⟨v,H5,I5,r5,y5,st5,fr5⟩=> ?_
   have I5':=I5.pinned (stat fr5) (T.obj _ _ st5)
   refine wpAny_assign_Name (V2 (X:=X.comp (x::ns) scope cl C s2 H2 fp) (i:=0) I5' CS.nd rfl (.inl (lookup_relabel_local CS.var)) r5 (λs6 I6=> ?_) (.inr (lookup_relabel_local CS.var)))
   have I6':Inv (X.comp (x::ns) scope cl C s2 H2 fp) ((pins++ [(s2.heap.objs.size,LCg.lst us)])++BI fp s4.heap) (capσ caps σ (some v)) H5 s6:=I6
   refine wpAny_mono (ht cl C s2 H2 fp _ s6 _ H5 _ I6' (step v H5 y5)) (λb s7 ⟨H7,I7,q7⟩=> ?_) (λ_ _ e=>e.elim)
   have weak:∀ {H':Hp} {s':Shared} {pl:List (Addr×Obj)},Inv (X.comp (x::ns) scope cl C s2 H2 fp) pl (capσ caps σ (some v)) H' s'->Inv (X.comp (x::ns) scope cl C s2 H2 fp) pl (capσ caps σ none) H' s':=λ{H' s' pl} J'=>
    J'.weak rfl λk z e=>by
     cases k with
     |zero=>cases e
     |succ k=>exact e
   have keepT:∀ {H':Hp} {s':Shared},Inv (X.comp (x::ns) scope cl C s2 H2 fp) ((pins++ [(s2.heap.objs.size,LCg.lst us)])++BI fp s4.heap) (capσ caps σ (some v)) H' s'->tn (i+1) s'.heap/\∀b∈fp,H' b=none:=λ{H' s'} J'=>by
    refine⟨T.keep _ _ _ st5 λb hb o e=>(J'.pin (b,o) (mem_append_right _ (mem_append_right _ (O0 hb e)))).1,λb hb=> ?_⟩
    obtain⟨o,e,d⟩:=T.obj _ _ st5 b hb
    exact(J'.pin (b,o) (mem_append_right _ (mem_append_right _ (O0 hb e)))).2.1
   cases b with
   |false=>
    rw[if_neg nZ]at q7⊢
    obtain⟨m',hm,w7⟩:=hNx _ _ q7
    exact⟨m',hm,i+1,ys,us,H7,weak I7.unpinned,rv,(keepT I7).1,(keepT I7).2,w7⟩
   |true=>
    rw[if_pos rfl]at q7⊢
    refine wpAny_mono (he cl C s2 H2 fp _ s7 _ H7 _ I7 q7) (λyv s8 ⟨y,H8,I8,ry,n8⟩=> ?_) (λ_ _ e=>e.elim)
    obtain⟨m',hm,w8⟩:=hNx _ _ n8
    have pD:=I8.pin (s2.heap.objs.size,LCg.lst us) (memD _)
    have hul:us.length=ys.length:=rv.length.symm
    refine append_at (hsz:=by show us.toArray.size<=sizeLine;rw[size_toArray,hul];exact hle) pD.1 λh9 hs9 hD9=> ?_
    have I8p:Inv (X.comp (x::ns) scope cl C s2 H2 fp) pins (capσ caps σ none) H8 s8:=weak I8.unpinned.unpinned
    have I9:Inv (X.comp (x::ns) scope cl C s2 H2 fp) pins (capσ caps σ none) H8 {s8 with heap:=h9}:=I8p.turned (t':=s8.toks) (it:=s2.heap.objs.size) (λb o hb e=>(hs9.2 b hb).trans e) pD.2.1 hDC (.inr (le_refl _)) (λy c e z=>ne_of_lt (ltC y c (clsub y c e)) z) λp hp=>ne_of_lt (pinlt p hp)
    have I9':Inv (X.comp (x::ns) scope cl C s2 H2 fp) (pins++ [(s2.heap.objs.size,LCg.lst (us++ [yv]))]) (capσ caps σ none) H8 {s8 with heap:=h9}:=I9.pins_of λp hp=>by
     rcases mem_append.mp hp with hp|hp
     ·exact I9.pin p (mem_append_right _ hp)
     ·have e:p=(s2.heap.objs.size,LCg.lst (us++ [yv])):=by simpa using hp
      subst e
      exact⟨hD9.trans (congrArg some (LCg.lst_snoc us yv)),pD.2.1,hDC,pD.2.2.2.1,λv z=>by cases z⟩
    refine⟨m',hm,i+1,ys++ [y],us++ [yv],H8,I9',rv.append (.cons ry .nil), ?_,(keepT I8).2,w8⟩
    exact T.keep _ _ _ (keepT I8).1 λb hb o e=>(hs9.2 b (below b (nfp b hb)).2).trans e
 exact codeAny_compStart_list (loop _ rfl) (T.self X.A 0 _ _ _ (T.keep _ _ _ st2 (λb _ o e=>old b o e)) (loop _ rfl))
theorem EU{K:FZ}{a:Addr}{xs:List V}{caps:List Nat}{tt:TT}{te:TE}{σ:St}{H:Hp}{R:List V->Hp->Prop}(Pv:Nat->List V->Hp->Prop)(h0:Pv 0 [] H)(hl:∀i ys H,i<=xs.length->Pv i ys H->SqT K H a xs/\ys.length<=sizeLine)
  (hs:∀i x ys H,xs[i]? =some x->Pv i ys H->tt (capσ caps σ (some x)) H λb H2=>if b=true then te (capσ caps σ (some x)) H2 λy H3=>Pv (i+1) (ys++ [y]) H3 else Pv (i+1) ys H2)(hd:∀ys H,Pv xs.length ys H->R ys H):
  ∃W:Nat->Nat->List V->Hp->Prop,(∃m,W 0 m [] H)/\∀i m ys H,W i m ys H->ys.length<=sizeLine/\(((Itt K a).stop i H/\R ys H)\/((Itt K a).go i H/\∃N:List V->Hp->Prop,(∀ys' H',N ys' H'->∃m',m'<m/\W (i+1) m' ys' H')/\∀v H',(Itt K a).yld i H v H'->
   tt (capσ caps σ (some v)) H' λb H2=>if b=true then te (capσ caps σ (some v)) H2 λy H3=>N (ys++ [y]) H3 else N ys H2)):=by
 refine⟨λi m ys H=>m=xs.length - i/\i<=xs.length/\Pv i ys H,⟨xs.length,by simp,zero_le _,h0⟩, ?_⟩
 rintro i m ys H ⟨rfl,hi,p⟩
 obtain⟨q,hz⟩:=hl i ys H hi p
 refine⟨hz, ?_⟩
 by_cases hlt:i<xs.length
 ·refine .inr ⟨⟨xs,xs[i],q,by simp[hlt]⟩,Pv (i+1),λys' H' p'=>⟨xs.length - (i+1),by omega,rfl,hlt,p'⟩,λx H' y=> ?_⟩
  obtain⟨e,y⟩:=y
  subst e
  exact hs i x ys _ (y xs q) p
 ·have e:i=xs.length:=by omega
  subst e
  exact .inl ⟨⟨xs,q,le_refl _⟩,hd ys H p⟩
theorem V6{K:FZ}{a:Addr}{xs:List V}{caps:List Nat}{tt:TT}{te:TE}{σ:St}{H:Hp}{R:List V->Hp->Prop}(Pv:Nat->List V->Hp->Prop)(h0:Pv 0 [] H)(hl:∀i ys H,i<=xs.length->Pv i ys H->SqL K H a xs/\ys.length<=sizeLine)
  (hs:∀i x ys H,xs[i]? =some x->Pv i ys H->tt (capσ caps σ (some x)) H λb H2=>if b=true then te (capσ caps σ (some x)) H2 λy H3=>Pv (i+1) (ys++ [y]) H3 else Pv (i+1) ys H2)(hd:∀ys H,Pv xs.length ys H->R ys H):
  ∃W:Nat->Nat->List V->Hp->Prop,(∃m,W 0 m [] H)/\∀i m ys H,W i m ys H->ys.length<=sizeLine/\(((Itl K a).stop i H/\R ys H)\/((Itl K a).go i H/\∃N:List V->Hp->Prop,(∀ys' H',N ys' H'->∃m',m'<m/\W (i+1) m' ys' H')/\∀v H',(Itl K a).yld i H v H'->
   tt (capσ caps σ (some v)) H' λb H2=>if b=true then te (capσ caps σ (some v)) H2 λy H3=>N (ys++ [y]) H3 else N ys H2)):=by
 refine⟨λi m ys H=>m=xs.length - i/\i<=xs.length/\Pv i ys H,⟨xs.length,by simp,zero_le _,h0⟩, ?_⟩
 rintro i m ys H ⟨rfl,hi,p⟩
 obtain⟨q,hz⟩:=hl i ys H hi p
 refine⟨hz, ?_⟩
 by_cases hlt:i<xs.length
 ·refine .inr ⟨⟨xs,xs[i],q,by simp[hlt]⟩,Pv (i+1),λys' H' p'=>⟨xs.length - (i+1),by omega,rfl,hlt,p'⟩,λx H' y=> ?_⟩
  obtain⟨e,y⟩:=y
  subst e
  exact hs i x ys _ (y xs q) p
 ·have e:i=xs.length:=by omega
  subst e
  exact .inl ⟨⟨xs,q,le_refl _⟩,hd ys H p⟩
theorem EL{lo:Int}{n:Nat}{caps:List Nat}{tt:TT}{te:TE}{σ:St}{H:Hp}{R:List V->Hp->Prop}(Pv:Nat->List V->Hp->Prop)(h0:Pv 0 [] H)(hl:∀i ys H,i<=n->Pv i ys H->ys.length<=sizeLine)
  (hs:∀i ys H,i<n->Pv i ys H->tt (capσ caps σ (some (.int (lo+i)))) H λb H2=>if b=true then te (capσ caps σ (some (.int (lo+i)))) H2 λy H3=>Pv (i+1) (ys++ [y]) H3 else Pv (i+1) ys H2)(hd:∀ys H,Pv n ys H->R ys H):
  ∃W:Nat->Nat->List V->Hp->Prop,(∃m,W 0 m [] H)/\∀i m ys H,W i m ys H->ys.length<=sizeLine/\(((Itr lo n).stop i H/\R ys H)\/((Itr lo n).go i H/\∃N:List V->Hp->Prop,(∀ys' H',N ys' H'->∃m',m'<m/\W (i+1) m' ys' H')/\∀v H',(Itr lo n).yld i H v H'->
   tt (capσ caps σ (some v)) H' λb H2=>if b=true then te (capσ caps σ (some v)) H2 λy H3=>N (ys++ [y]) H3 else N ys H2)):=by
 refine⟨λi m ys H=>m=n - i/\i<=n/\Pv i ys H,⟨n,by simp,zero_le _,h0⟩, ?_⟩
 rintro i m ys H ⟨rfl,hi,p⟩
 refine⟨hl i ys H hi p, ?_⟩
 by_cases hlt:i<n
 ·refine .inr ⟨hlt,Pv (i+1),λys' H' p'=>⟨n - (i+1),by omega,rfl,hlt,p'⟩,λx H' y=> ?_⟩
  obtain⟨e,y⟩:=y
  subst e y
  exact hs i ys _ hlt p
 ·have e:i=n:=by omega
  subst e
  exact .inl ⟨le_refl _,hd ys H p⟩
theorem X6{x:Str}{px:Pos}{iter elt:Expr}{ifs:List Expr}{scope sc:Scope}{N:List Str}{pos:Pos}{wi:TI}{tt:TT}{te:TE}{caps:List Nat}{ns:List Str}
  (CS:CompScope N sc scope x caps ns)(hN':X.N=N)(hsc:X.env.scope=sc)(hc:X.calm=true)(hi:PI X (.Name x px) iter wi)
  (ht:∀cl C s H fp,PTs (X.comp (x::ns) scope cl C s H fp) ifs tt)(he:∀cl C s H fp,PE (X.comp (x::ns) scope cl C s H fp) elt te)
  (hs:∀v,foldedSetIterable iter X.env v=pure v:=by intro _;rfl):
  PE X (.ListComp elt [⟨.Name x px,iter,ifs,0⟩] scope pos) (VD wi caps tt te):=by
 intro pins s σ H Q I h
 subst hN';subst hsc
 rw[eval_ListComp]
 refine HB CS hc hi ht he hs I h ?_
 rintro D C s' H' ys I' hD r ⟨m,hn⟩ c1 c2 c3 c4 c5
 exact⟨m,hn,λh' hs'=>⟨.ref D,_,I'.turned (t':=s'.toks) (λb o hb e=>(hs'.2 b hb).trans e) c1 c2 (.inr c3) c4 c5,rfl,r D hD⟩⟩
theorem AZ{i:Nat}{x y:Str}{px py:Pos}{iter elt:Expr}{ifs:List Expr}{scope sc:Scope}{N:List Str}{pos spos:Pos}{wi:TI}{tt:TT}{te:TE}{caps:List Nat}{ns:List Str}(hN:X.N.Nodup)(hi:X.N[i]? =some y)
  (hy:X.env.scope.names.lookup y=some .local)(CS:CompScope N sc scope x caps ns)(hN':X.N=N)(hsc:X.env.scope=sc)(hc:X.calm=true)(hit:PI X (.Name x px) iter wi)
  (ht:∀cl C s H fp,PTs (X.comp (x::ns) scope cl C s H fp) ifs tt)(he:∀cl C s H fp,PE (X.comp (x::ns) scope cl C s H fp) elt te)
  (hsw:swapsWith (.ListComp elt [⟨.Name x px,iter,ifs,0⟩] scope pos) (some (.Name y py)) spos.line X.env=pure true:=by rfl)
  (hs:∀v,foldedSetIterable iter X.env v=pure v:=by intro _;rfl):
  PS X (.Assign [.Name y py] (.ListComp elt [⟨.Name x px,iter,ifs,0⟩] scope pos) spos) (XQ (VD wi caps tt te) (KK i)):=by
 intro pins s σ H D I h
 subst hN';subst hsc
 rw[exec_Assign_Name_used _ _ _ _ hsw]
 refine bZ (wpAny_standAt (bZ ?_))
 show wpAny _ X.A (do let _<-comprehension (.ListComp elt [⟨.Name x px,iter,ifs,0⟩] scope pos) scope X.env _ (newList []) false (eval iter X.env) (some (assign (.Name y py) X.env))) _ _ s
 refine bZ (wpAny_mono (HB (use:=some (assign (.Name y py) X.env)) (Q:=λ_ s'=>SP X pins D .next s') CS hc hit ht he hs I h ?_) (λ_ s' hq=>pZ (pZ hq)) λ_ _ e=>e)
 rintro D' C s' H' ys I' hD r ⟨m,hn⟩ c1 c2 c3 c4 c5
 show wpAny _ _ (assign (.Name y py) X.env (.ref D')) _ _ s'
 refine wpAny_assign_Name (GP (v:=.ref D') I' hN hi (.inl hy) rfl (λs'' I'' ⟨a,sb,ha⟩=> ?_) (.inr hy))
 have hCa:C≠a:=by
  rcases ha with e|e
  ·rw[e];exact c2
  ·exact Ne.symm (c4 y a e)
 exact⟨m,hn.sameBut sb hCa,λh' hs'=>⟨_,_,I''.turned (t':=s''.toks) (λb o hb e=>(hs'.2 b hb).trans e) c1 c2 (.inr c3) c4 c5,r D' hD⟩⟩
end
theorem RA:bootBuiltins "len"=some (.builtin "len"):=by decide +kernel
theorem YE:bootBuiltins "max"=some (.builtin "max"):=by decide +kernel
theorem LG:bootBuiltins "min"=some (.builtin "min"):=by decide +kernel
theorem E6:bootBuiltins "isinstance"=some (.builtin "isinstance"):=by decide +kernel
theorem WV:bootBuiltins "sum"=some (.builtin "sum"):=by decide +kernel
theorem MV:bootBuiltins "list"=some (.type "list"):=by decide +kernel
theorem V0:bootBuiltins "tuple"=some (.type "tuple"):=by decide +kernel
theorem TY:bootBuiltins "bool"=some (.type "bool"):=by decide +kernel
section
variable{X:Cx}
theorem OH(hc:X.calm=true):CallR X (.builtin "max") (λxs H Q=>∃(p:Addr) (ns:List Int),xs=[.ref p]/\SqL X.K H p (ns.map V.int)/\0<ns.length/\∀M:Int,M∈ns->(∀a∈ns,a<=M)->Q (.int M) H):=by
 intro pins s σ H vs us Q I r h
 obtain⟨p,ns,rfl,hS,hne,q⟩:=h
 obtain⟨u,rfl,ru⟩:=GR r
 cases ru
 obtain⟨its,rv,pl,hz⟩:=I.list hS
 have hi:IntsAre its ns:=LM rv
 obtain⟨xs,e⟩:=hi.allInts.items
 have hns:ns=xs.toList.map (·.1):=by
  rw[<-hi.numsOf,<-nums_intItems,<-e]
 have hsz:0<xs.size:=by
  have h3:=hne;rw[hns,length_map,Array.length_toList]at h3;exact h3
 have hl:=pl.isList
 rw[e]at hl
 refine max_intList (I.ok.hd hc) hl hsz λv h' tk hv hk=> ?_
 obtain⟨t,rfl⟩:=intItems_at hv
 obtain⟨h1,h2⟩:=argBest_gt (numAt xs) (xs.size - 1)
 refine⟨.int _,H,I.kept hk,⟨_,rfl⟩,q _ ?_ λa ha=> ?_⟩
 ·rw[hns,numAt_eq];exact getD_mem (by rw[length_map,Array.length_toList];omega)
 ·rw[hns]at ha
  obtain⟨j,hj,rfl⟩:=mem_getD ha
  rw[length_map,Array.length_toList]at hj
  rw[<-numAt_eq];exact h2 j (by omega)
theorem QE(hc:X.calm=true):CallR X (.builtin "max") (λxs H Q=>(∃i j,xs=[.int i,.int j]/\Q (.int (if j>i then j else i)) H)\/
  (∃(p:Addr) (ns:List Int),xs=[.ref p]/\SqL X.K H p (ns.map V.int)/\0<ns.length/\∀M:Int,M∈ns->(∀a∈ns,a<=M)->Q (.int M) H)):=(OJ hc).or (OH hc)
theorem op_mul_str:OpR X (binaryOp .Mult) (λx y H Q=>∃i n,x=.str i/\y=.int n/\0<=n/\n<=16777216/\i.length*n.toNat<=16777216/\Q (.str (Txt.mul i n)) H):=by
 intro pins s σ H x y v u Q I rx ry h
 obtain⟨i,n,rfl,rfl,h0,h1,h2,q⟩:=h
 obtain⟨t,rfl⟩:=rx
 obtain⟨t',rfl⟩:=ry
 exact SB.mul (mulOk_of i.length n.toNat (le_refl _) (by omega) (by omega) (by omega) h2) λt'' k=>⟨.str _,H,I.tok _,⟨_,rfl⟩,q⟩
def LL:V->Bool
 | .byt _=>false
 | .flt _=>false
 |_=>true
theorem OB{A:Around}{s:Shared}{x:V}{u v:Value}(r:RelV x u)(r':RelV x v)(hx:LL x=true):SeqAt.EqAt A s u v true:=by
 cases x with
 |non=>cases r;cases r';exact SeqAt.EqAt.same _
 |bl b=>cases r;cases r';exact SeqAt.EqAt.same _
 |int i=>
  obtain⟨t,rfl⟩:=r;obtain⟨t',rfl⟩:=r'
  have:=SeqAt.EqAt.int_int (A:=A) (s:=s) i t i t'
  simpa using this
 |str i=>
  obtain⟨t,rfl⟩:=r;obtain⟨t',rfl⟩:=r'
  have:=SeqAt.EqAt.str_str (A:=A) (s:=s) i t i t'
  simpa using this
 |ref a=>cases r;cases r';exact SeqAt.EqAt.same _
 |ty n=>cases r;cases r';exact SeqAt.EqAt.same _
 |byt b=>cases hx
 |flt b=>cases hx
theorem GU{A:Around}{s:Shared}{xs:List V}{us vs:List Value}(r:Vals xs us)(r':Vals xs vs)(hx:xs.all LL=true)(j:Nat)(h1:j<us.toArray.size)(h2:j<vs.toArray.size):SeqAt.EqAt A s us.toArray[j] vs.toArray[j] true:=by
 have hj:j<xs.length:=by rw[r.length];simpa using h1
 obtain⟨u,hu,ru⟩:=r.get (i:=j) (x:=xs[j]) (by simp[hj])
 obtain⟨v,hv,rv⟩:=r'.get (i:=j) (x:=xs[j]) (by simp[hj])
 have e1:us.toArray[j]=u:=by
  have:us[j]? =some us.toArray[j]:=by simp
  rw[hu]at this;exact(Option.some.inj this).symm
 have e2:vs.toArray[j]=v:=by
  have:vs[j]? =some vs.toArray[j]:=by simp
  rw[hv]at this;exact(Option.some.inj this).symm
 rw[e1,e2]
 have hp:=List.all_eq_true.mp hx xs[j] (List.getElem_mem hj)
 exact OB ru rv hp
inductive rEqL (K:FZ) (k:Bool) (x:V) (y:V) (H:Hp) (Q:VK):Prop
 |mk:∀a b xs,(x=.ref a)->(y=.ref b)->(SqL K H a xs)->(SqL K H b xs)->(xs.all LL=true)->(Q (.bl k) H)->rEqL K k x y H Q
theorem XN(hu:X.A.units<cLine):OpR X (compareOp .Eq) (rEqL X.K true):=by
 intro pins s σ H x y v u Q I rx ry h
 obtain⟨a,b,xs,rfl,rfl,ha,hb,hp,q⟩:=h
 cases rx;cases ry
 obtain⟨its,r,pl,_⟩:=I.list ha
 obtain⟨its2,r2,pl2,_⟩:=I.list hb
 have hl:its.length=its2.length:=by rw[<-r.length,<-r2.length]
 refine SeqAt.eq_listAt (e:=λ_=>true) pl.isList pl2.isList (by simpa using hl) hu (λj h1 h2=>GU r r2 hp j h1 h2) ⟨.bl true,H,I, ?_,q⟩
 have:((List.range its.toArray.size).all λ_=>true)=true:=by simp
 rw[this];rfl
theorem XI(hu:X.A.units<cLine):OpR X (compareOp .NotEq) (rEqL X.K false):=by
 intro pins s σ H x y v u Q I rx ry h
 obtain⟨a,b,xs,rfl,rfl,ha,hb,hp,q⟩:=h
 cases rx;cases ry
 obtain⟨its,r,pl,_⟩:=I.list ha
 obtain⟨its2,r2,pl2,_⟩:=I.list hb
 have hl:its.length=its2.length:=by rw[<-r.length,<-r2.length]
 refine SeqAt.RcNeAt.lists (e:=λ_=>true) pl.isList pl2.isList (by simpa using hl) hu (λj h1 h2=>GU r r2 hp j h1 h2) X.prog X.w X.xe _ ⟨.bl false,H,I, ?_,q⟩
 have:((List.range its.toArray.size).all λ_=>true)=true:=by simp
 rw[this];rfl
inductive rIsi (K:FZ) (xs:List V) (H:Hp) (Q:VK):Prop
 |mk:∀x c t b,(xs=[x,.ty c])->(TyOf K H x t)->(kitOne K t (.type c)=some b)->(Q (.bl b) H)->rIsi K xs H Q
theorem QT:CallR X (.builtin "isinstance") (rIsi X.K):=by
 intro pins s σ H xs us Q I r h
 obtain⟨x,c,t,b,rfl,ty,hk,q⟩:=h
 obtain⟨u,v,rfl,ru,rv⟩:=MU r
 cases rv
 exact ON I ru ty hk λtk=>⟨.bl b,H,I.tok _,rfl,q⟩
structure TopD (w:World) (K:FZ) (a:Addr) (kvs:List (Str×V)):Prop where
 ex:∃(es:Array DictEntry) (n:Nat),K.lookup a=some ⟨.type "dict",none,.dict es n, #[]⟩/\PySem.W.KeysLit w.params es.toList/\Paired (λ(p:Str×V) (e:DictEntry)=>(∃t,e.key=.str p.1 t)/\RelV p.2 e.val) kvs es.toList
 lo:(a==sysModules)=false
theorem DF{x:Str}:∀ {kvs:List (Str×V)} {es:List DictEntry},Paired (λ(p:Str×V) (e:DictEntry)=>(∃t,e.key=.str p.1 t)/\RelV p.2 e.val) kvs es->
  RelO (kvs.lookup x) ((es.find? λe=>Value.isStrOf x e.key).map (·.val))
 |_,_,.nil=>trivial
 |(k,v)::kvs,e::es,.cons ⟨⟨t,hk⟩,rv⟩ r=>by
  have hk':e.key=.str k t:=hk
  rw[lookup_cons,find?_cons,hk']
  by_cases hx:x=k
  ·subst hx
   have h1:Value.isStrOf x (.str x t)=true:=by simp[Value.isStrOf]
   rw[h1,beq_self_eq_true]
   exact rv
  ·have h1:Value.isStrOf x (.str k t)=false:=by
    cases h:Value.isStrOf x (.str k t)with
    |false=>rfl
    |true=>
     obtain⟨t',e'⟩:=Value.isStrOf_shape (x:=x) (v:=.str k t) h
     injection e' with e1 _
     exact absurd e1.symm hx
   have h2:(x==k)=false:=beq_eq_false_iff_ne.mpr hx
   rw[h1,h2]
   exact DF r
theorem TopD.map{w:World}{K:FZ}{a:Addr}{kvs:List (Str×V)}(T:TopD w K a kvs){prog:Program}{h:Heap}(KX:K.In h):
  ∃f:Str->Option Value,h.MapOf (strKind prog w) a f/\∀x,RelO (kvs.lookup x) (f x):=by
 obtain⟨es,n,hl,hk,hp⟩:=T.ex
 refine⟨λk=>findBy Value.isStrOf es k,PySem.W.mapOf_K KX hl hk,λx=> ?_⟩
 have q:=DF (x:=x) hp
 show RelO (List.lookup x kvs) ((es.find? λe=>Value.isStrOf x e.key).map (·.val))
 rw[<-Array.find?_toList]
 exact q
inductive rIxTop (w:World) (K:FZ) (x:V) (y:V) (H:Hp) (Q:VK):Prop
 |mk:∀a k kvs v,(x=.ref a)->(y=.str k)->(TopD w K a kvs)->(kvs.lookup k=some v)->(Q v H)->rIxTop w K x y H Q
theorem VP:IxR X (rIxTop X.w X.K):=by
 intro value slice pins s σ H x y v u Q I rx ry h hs
 obtain⟨a,k,kvs,z,rfl,rfl,T,hz,q⟩:=h
 cases rx
 obtain⟨t,rfl⟩:=ry
 obtain⟨f,hm,hf⟩:=T.map (prog:=X.prog) I.kIn
 have hr:=hf k
 rw[hz]at hr
 obtain⟨w',e,r⟩:=hr.some_of
 exact tail_any hm.typeIs slot_dict_getitem.lookup (wpAny_getItem_of (strKind_is X.prog X.w k t) hm e ⟨z,H,I.tok _,r,q⟩) hs
theorem NI:OpR X (compareOp .In) (λx y H Q=>∃k a kvs,x=.str k/\y=.ref a/\TopD X.w X.K a kvs/\Q (.bl (kvs.lookup k).isSome) H):=by
 intro pins s σ H x y v u Q I rx ry h
 obtain⟨k,a,kvs,rfl,rfl,T,q⟩:=h
 cases ry
 obtain⟨t,rfl⟩:=rx
 obtain⟨f,hm,hf⟩:=T.map (prog:=X.prog) I.kIn
 have hr:=hf k
 have e:(f k).isSome=(kvs.lookup k).isSome:=by
  cases h1:kvs.lookup k with
  |none=>rw[h1]at hr;rw[hr.none_of];rfl
  |some z=>rw[h1]at hr;obtain⟨w',e,_⟩:=hr.some_of;rw[e];rfl
 exact wpAny_in_of (strKind_is X.prog X.w k t) T.lo hm ⟨.bl _,H,I.tok _,by rw[e];rfl,q⟩
theorem aNZ:OpR X (binaryOp .Mult) (λx y H Q=>rI CMul (λi j=> .int (i*j)) x y H Q\/(∃i n,x=.str i/\y=.int n/\0<=n/\n<=16777216/\i.length*n.toNat<=16777216/\Q (.str (Txt.mul i n)) H)\/ZR x y H Q):=op_mul.or (op_mul_str.or VY)
theorem uEq(hu:X.A.units<cLine):OpR X (compareOp .Eq) (λx y H Q=>rEq x y H Q\/rEqL X.K true x y H Q):=op_eq.or (XN hu)
theorem uNe(hu:X.A.units<cLine):OpR X (compareOp .NotEq) (λx y H Q=>rNe x y H Q\/rEqL X.K false x y H Q):=op_ne.or (XI hu)
theorem uIn:OpR X (compareOp .In) (λx y H Q=>(∃i j,x=.str i/\y=.str j/\Q (.bl (!(Builtin.Str.occurrences j i 0 j.length 1).isEmpty)) H)\/rIn X.K false x y H Q\/(∃k a kvs,x=.str k/\y=.ref a/\TopD X.w X.K a kvs/\Q (.bl (kvs.lookup k).isSome) H)):=op_in_str.or (op_in_seq.or NI)
theorem WP:IxR X (λx y H Q=>rIxL X.K x y H Q\/rIxT X.K x y H Q\/rIxS x y H Q\/rIxTop X.w X.K x y H Q):=ix_list.or (ix_tup.or (ix_str.or VP))
theorem sl_any:SlR X (λx lo hi H Q=>rSlL X.K x lo hi H Q\/rSlT X.K x lo hi H Q):=sl_list.or WK
inductive tCut (t:TS) (D:Ends) (σ:St) (H:Hp):Prop
 |mk:∀R:St->Hp->Prop,(t {D with nx:=R} σ H)->(∀σ' H',R σ' H'->D.nx σ' H')->tCut t D σ H
theorem G9{st:Stmt}{t:TS}(h:PS X st t):PS X st (tCut t):=λpins s σ H D I ⟨R,q,hR⟩=>thn (h pins s σ H _ I q) λf s' hs=>by
 cases f with
 |next=>obtain⟨σ',H',I',r⟩:=hs;exact⟨σ',H',I',hR σ' H' r⟩
 |brk=>exact hs
 |cont=>exact hs
 |ret v=>exact hs
variable{K:FZ}{w:World}
theorem kEq(hu:X.A.units<cLine)(hK:X.K=K:=by rfl):OpR X (compareOp .Eq) (λx y H Q=>rEq x y H Q\/rEqL K true x y H Q):=by subst hK;exact uEq hu
theorem kNe(hu:X.A.units<cLine)(hK:X.K=K:=by rfl):OpR X (compareOp .NotEq) (λx y H Q=>rNe x y H Q\/rEqL K false x y H Q):=by subst hK;exact uNe hu
theorem kIn(hK:X.K=K:=by rfl)(hw:X.w=w:=by rfl):OpR X (compareOp .In) (λx y H Q=>(∃i j,x=.str i/\y=.str j/\Q (.bl (!(Builtin.Str.occurrences j i 0 j.length 1).isEmpty)) H)\/rIn K false x y H Q\/(∃k a kvs,x=.str k/\y=.ref a/\TopD w K a kvs/\Q (.bl (kvs.lookup k).isSome) H)):=by
 subst hK;subst hw;exact uIn
theorem kIx(hK:X.K=K:=by rfl)(hw:X.w=w:=by rfl):IxR X (λx y H Q=>rIxL K x y H Q\/rIxT K x y H Q\/rIxS x y H Q\/rIxTop w K x y H Q):=by subst hK;subst hw;exact WP
theorem VF(hK:X.K=K:=by rfl):CallR X (.builtin "len") (rLen K):=by subst hK;exact RJ
theorem WS(hK:X.K=K:=by rfl):CallR X (.type "list") (λxs H Q=>∃p ys,xs=[.ref p]/\(SqL K H p ys\/SqT K H p ys)/\∀l,H l=none->Q (.ref l) (upd H l (.lst ys))):=by subst hK;exact HR
theorem DO(hK:X.K=K:=by rfl):CallR X (.type "tuple") (λxs H Q=>∃p ys,xs=[.ref p]/\((SqL K H p ys/\∀l,H l=none->Q (.ref l) (upd H l (.tup ys)))\/SqT K H p ys/\Q (.ref p) H)):=by subst hK;exact FV
theorem ZI(hc:X.calm=true)(hK:X.K=K:=by rfl):CallR X (.builtin "max") (λxs H Q=>(∃i j,xs=[.int i,.int j]/\Q (.int (if j>i then j else i)) H)\/
  (∃(p:Addr) (ns:List Int),xs=[.ref p]/\SqL K H p (ns.map V.int)/\0<ns.length/\∀M:Int,M∈ns->(∀a∈ns,a<=M)->Q (.int M) H)):=by subst hK;exact QE hc
theorem RB(hK:X.K=K:=by rfl):CallR X (.builtin "isinstance") (rIsi K):=by subst hK;exact QT
variable{o e st l c:Expr}{es:List Expr}{to te ts tl:TE}{t:TA}{name:Str}{apos cpos pos p2:Pos}{T id:String}{r:V->List V->Hp->VK->Prop}{tg:Expr}
theorem GM(pa:PlainAttrs T)(slot:Slot T name id)(hty:typeOf (.builtin id)=pure (.type "method_descriptor"))(hm:MtR X id r)(ho:PE X o to)(hK:X.K=K:=by rfl)
  (hbase:attributeBase o name X.env (eval o X.env)=eval o X.env:=by rfl)(hline:(apos.endLine==cpos.line)=true:=by rfl):PE X (.Call (.Attribute o name apos) [] [] cpos) (ajZ K T r to):=by
 subst hK;exact VS pa slot hty hm ho hbase hline
theorem JM(pa:PlainAttrs T)(slot:Slot T name id)(hty:typeOf (.builtin id)=pure (.type "method_descriptor"))(hm:MtR X id r)(ho:PE X o to)(ha:PA X (e::es) t)(hK:X.K=K:=by rfl)
  (hbase:attributeBase o name X.env (eval o X.env)=eval o X.env:=by rfl)
  (hfew:((backTo cpos (starEach (e::es) X.env)).all (λx=> !x.1)&&(backToKw cpos (keywordEach [] X.env)).all (λx=>x.1.isSome)
   &&decide ((e::es).length+([]:List Keyword).length+(if([]:List Keyword).isEmpty then 0 else 1)<30))=true:=by rfl)
  (hline:(apos.endLine==cpos.line)=true:=by rfl)(hs:starEach (e::es) X.env=(false,eval e X.env)::starEach es X.env:=by rfl)(hplain:(backTo cpos (starEach es X.env)).any (·.1)=false:=by rfl):
  PE X (.Call (.Attribute o name apos) (e::es) [] cpos) (tBM K T r to t):=by
 subst hK;exact arZ pa slot hty hm ho ha hbase hfew hline hs hplain
theorem AF(hl:PE X l tl)(hK:X.K=K:=by rfl):PI X tg l (VO K tl):=by subst hK;exact UH hl
theorem IB(hl:PE X l tl)(hK:X.K=K:=by rfl):PI X tg l (ZM K tl):=by subst hK;exact WF hl
def aMZ(K:FZ)(ta:TE):TT:=fun σ H Q=>ta σ H λx H'=>∃k,WC K x H' k/\Q k H'
theorem E1(ha:PE X e te)(he:∀whole,isTrue e X.env whole=(do let v<-whole;standAt e.pos;holding [v] (truthy v)))(hK:X.K=K:=by rfl):PT X e (aMZ K te):=by subst hK;exact RF ha he
end
theorem Q6{σ:St}{H:Hp}{A B:Hp->Prop}(h:A H):MR σ H (λb H2=>if b=true then A H2 else B H2):=by
 show if true=true then A H else B H
 rw[if_pos rfl];exact h
theorem Q4(xs:List V)(k:Nat):N9 xs (some (k:Int)) none=xs.drop k:=by
 unfold N9
 rw[HT.sIx_nat,HT.sIx_none]
 by_cases h:k<=xs.length
 ·rw[min_eq_left h,take_of_length_le (by simp)]
 ·rw[min_eq_right (by omega),drop_eq_nil_of_le (le_refl _),drop_eq_nil_of_le (by omega)]
  simp
theorem SF(xs:List V)(k:Nat):N9 xs none (some (k:Int))=xs.take k:=by
 unfold N9
 rw[HT.sIx_nat,HT.sIx_none]
 simp only[List.drop_zero,Nat.sub_zero]
 by_cases h:k<=xs.length
 ·rw[min_eq_left h]
 ·rw[min_eq_right (by omega),take_of_length_le (le_refl _),take_of_length_le (by omega)]
theorem RT(xs:List V)(a b:Nat):N9 xs (some (a:Int)) (some (b:Int))=(xs.drop a).take (b - a):=by
 unfold N9
 rw[HT.sIx_nat,HT.sIx_nat]
 by_cases ha:a<=xs.length
 ·rw[min_eq_left ha]
  by_cases hb:b<=xs.length
  ·rw[min_eq_left hb]
  ·rw[min_eq_right (by omega),take_of_length_le (by simp),take_of_length_le (by simp;omega)]
 ·rw[min_eq_right (Nat.le_of_not_le ha),drop_eq_nil_of_le (le_refl _),drop_eq_nil_of_le (Nat.le_of_not_le ha)]
  simp
def XAt(h g:Heap)(H:Hp)(a:Addr)(C:Value):Prop:=
 ∃oe vs T oT ts a0,h.get? a=some oe/\oe.cls=C/\oe.data=.fields vs/\vs[0]? =some a0/\vs[1]? =some (.ref T)/\T≠a/\h.get? T=some oT/\oT.data=.fields ts/\ts[3]? =some .none/\
  H a=none/\H T=none/\g.get? a=none/\g.get? T=none
def CXr(P:Program)(w:World):CXT:=λouter H s E e s'=>∃(a:Addr) (C:Value) (H':Hp),e=.ref a/\s'.os=s.os/\AllBare s'.gens/\Un (frs outer) [] H H' s.heap s'.heap/\HOk P w H' s'.heap/\XAt s'.heap s.heap H' a C/\E C none H'
section
variable{M:Model}{A:Around}{E:Value->Shared->Prop}{s:Shared}
theorem NX{base:Heap}{env:Env}{outer:List Env}{L a:Addr}{C:Value}{g:Heap}{H:Hp}{Q:Unit->Shared->Prop}(hfr:A.frames=some (env::outer))(hf:env.frame=some L)(hl:s.heap.FunFrames base (env::outer))
  (x:XAt s.heap g H a C)(hH:∀b,H b≠none->∃o,s.heap.get? b=some o)(hg:∀b o,g.get? b=some o->∃o',s.heap.get? b=some o')
  (hQ:∀h' T,(∀b o,s.heap.get? b=some o->b∉frs (env::outer)->b≠a->b≠T->h'.get? b=some o)->(∀b o,s.heap.get? b=some o->b∈frs (env::outer)->∃sl,h'.get? b=some {o with slots:=sl})->
   H T=none->g.get? T=none->XAt h' g H a C->Q () {s with heap:=h'}):wpAny M A (leaving env (.ref a)) Q E s:=by
 obtain⟨oe,vs,T,oT,ts,a0,x1,x2,x3,x4,x5,x6,x7,x8,x9,x10,x11,x12,x13⟩:=x
 have memf:∀b,b∈frs (env::outer)->b∈frs (env::outer)++ [a,T]:=λb hb=>mem_append_left _ hb
 have hin:∀e∈(env::outer),∀b,e.frame=some b->b∈frs (env::outer)++ [a,T]:=λe he b hb=>memf b (mem_filterMap.mpr ⟨e,he,hb⟩)
 have nof:∀b o vs',s.heap.get? b=some o->o.data=.fields vs'->b∉frs (env::outer):=λb o vs' hb hd hm=>by
  obtain⟨_,o',ho',hnf⟩:=hl.mem hm
  rw[hb]at ho';cases ho'
  exact hnf vs' hd
 refine wpAny_leaves_onW (base:=hideAll s.heap (frs (env::outer)++ [a,T])) (cls:=C) (a0:=a0) hfr hf ⟨λb o q=>of_hideAll _ q,hideAll_none _ (by simp),PySem.W.funFrames_hide hl hin,oe,vs,T,oT,ts,x1,⟨x2,x4⟩,x3,x5,hideAll_none _ (by simp),x6,x7,x8,x9⟩ λh' fl us=> ?_
 obtain⟨st,_,_,oe',vs',T',oT',ts',y1,⟨y2,y4⟩,y3,y5,yB,y6,y7,y8,y9⟩:=fl
 have keep:∀b o,s.heap.get? b=some o->b∉frs (env::outer)->b≠a->b≠T->h'.get? b=some o:=λb o hb n1 n2 n3=>st b o (hideAll_get _ hb (by
  intro hm
  rcases mem_append.mp hm with hm|hm
  ·exact n1 hm
  ·rcases cZ hm with hm|hm
   ·exact n2 hm
   ·exact n3 (by simpa using hm)))
 have slot:∀b o,s.heap.get? b=some o->b∈frs (env::outer)->∃sl,h'.get? b=some {o with slots:=sl}:=λb o hb hm=>by
  obtain⟨_,o',ho',hnf⟩:=hl.mem hm
  rw[hb]at ho';cases ho'
  exact us b o hb hnf
 have hT':T'=T\/s.heap.get? T'=none:=by
  cases q:s.heap.get? T' with
  |none=>exact .inr rfl
  |some o=>
   refine .inl ?_
   by_cases hm:T'∈frs (env::outer)++ [a,T]
   ·rcases mem_append.mp hm with hm|hm
    ·obtain⟨_,o',ho',hnf⟩:=hl.mem hm
     obtain⟨sl,hs⟩:=us T' o' ho' hnf
     rw[hs]at y7;cases y7
     exact absurd y8 (hnf ts')
    ·rcases cZ hm with hm|hm
     ·exact absurd hm y6
     ·simpa using hm
   ·rw[hideAll_get _ q hm]at yB;cases yB
 have hHT':H T'=none:=by
  rcases hT' with e|e
  ·rw[e];exact x11
  ·cases q:H T' with
   |none=>rfl
   |some u=>obtain⟨o,ho⟩:=hH T' (by rw[q];simp);rw[e]at ho;cases ho
 have hgT':g.get? T'=none:=by
  rcases hT' with e|e
  ·rw[e];exact x13
  ·cases q:g.get? T' with
   |none=>rfl
   |some u=>obtain⟨o,ho⟩:=hg T' u q;rw[e]at ho;cases ho
 exact hQ h' T keep slot x11 x13 ⟨oe',vs',T',oT',ts',a0,y1,y2,y3,y4,y5,y6,y7,y8,y9,x10,hHT',x12,hgT'⟩
end
theorem ObjOk.get{P:Program}{w:World}{H:Hp}{h:Heap}{a:Addr}{o:HO}(x:ObjOk P w H h a o):∃ob,h.get? a=some ob:=by
 cases o with
 |lst xs=>obtain⟨_,_,_,_,e⟩:=x;exact⟨_,e⟩
 |tup xs=>obtain⟨_,_,_,p⟩:=x;obtain⟨ob,e,_⟩:=p;exact⟨ob,e⟩
 |dK kvs=>obtain⟨_,_,_,_,o,_,_,e,_⟩:=x;exact⟨o,e⟩
 |dT kvs=>obtain⟨_,_,_,_,o,_,_,e,_⟩:=x;exact⟨o,e⟩
 |set S n=>obtain⟨o,_,_,_,e,_⟩:=x;exact⟨o,e⟩
 |ins C dx fs=>obtain⟨_,_,_,e,_⟩:=x;exact⟨_,e⟩
 |own y=>obtain⟨o,e⟩:=x;exact⟨o,e⟩
 |xd fs=>obtain⟨_,⟨o,_,_,e,_⟩,_⟩:=x;exact⟨o,e⟩
 |rng lo hi=>obtain⟨_,_,_,e⟩:=x;exact⟨_,e⟩
 |frz ob u=>obtain⟨e,_⟩:=x;exact⟨_,e⟩
 |tbl ps=>exact⟨_,(show h.get? a=some _ from x)⟩
 |met f y=>exact⟨_,(show h.get? a=some _ from x)⟩
 |ext φ=>obtain⟨_,⟨o,e⟩,_⟩:=x;exact⟨o,e⟩
theorem HOk.there{P:Program}{w:World}{H:Hp}{h:Heap}(x:HOk P w H h)(b:Addr)(n:H b≠none):∃o,h.get? b=some o:=by
 cases q:H b with
 |none=>exact absurd q n
 |some u=>exact(x b u q).get
theorem HOk.keptT{P:Program}{w:World}{H:Hp}{h h':Heap}(x:HOk P w H h)(k:∀b o,H b≠none->h.get? b=some o->h'.get? b=some o):HOk P w H h':=λb u e=>
 (x b u e).stay (λc v hc q=>k c v (by
  rcases hc with rfl|hc
  ·rw[e];simp
  ·rw[hc];simp) q) (λ_ q=>q) λ_ _ q=>q
section
variable{X:Cx}{pins:List (Addr×Obj)}{σ:St}{H1 H2:Hp}{s1:Shared}{h1 h2:Heap}
theorem Inv.fsSub(I:Inv X pins σ H1 s1):∀b∈X.fs,b∈frs X.stack:=λb hb=>by
 rcases I.ok.stk with e|⟨e,hf⟩
 ·rw[e];exact hb
 ·rw[e]
  unfold frs
  rw[filterMap_cons,hf]
  exact mem_cons_of_mem _ hb
theorem QQ(I:Inv X pins σ H1 s1)(hex:X.ex=[])(u:Un (frs X.stack) [] H1 H2 s1.heap h1)
  (keep2:∀b o,h1.get? b=some o->b∉frs X.stack->s1.heap.get? b≠none->h2.get? b=some o)(slot2:∀b o,h1.get? b=some o->b∈frs X.stack->∃sl,h2.get? b=some {o with slots:=sl}):
  Un X.fs [] X.H₀ H2 X.s₀.heap h2:=by
 have nex:∀b:Addr,b∉X.ex:=λb=>by rw[hex];simp
 have nst:∀b o,X.s₀.heap.get? b=some o->b∉X.fs->b∉frs X.stack:=λb o e n hm=>by
  rcases cZ (I.stkSub b hm)with z|z
  ·exact absurd (lt_of_lt_of_le (lt_size e) I.ok.above) (by rw[z];exact lt_irrefl _)
  ·exact n z
 refine⟨λb o e n hb _=> ?_,λb o e n hb _=> ?_,λb o e n _=> ?_,λb o e _=> ?_,λb xs q=>u.tups b xs (I.base.tups b xs q),λb o v q=>u.frzs b o v (I.base.frzs b o v q),λb ps q=> ?_⟩
 ·have e1:=I.base.keep b o e n hb (nex b)
  have n1:=I.base.free b o e n (nex b)
  have ns:=nst b o e hb
  exact keep2 b o (u.keep b o e1 n1 ns (by simp)) ns (by rw[e1];simp)
 ·obtain⟨sl,e1⟩:=I.base.slot b o e n hb (nex b)
  have n1:=I.base.free b o e n (nex b)
  have hm:=I.fsSub b hb
  obtain⟨sl2,e2⟩:=u.slot b _ e1 n1 hm (by simp)
  obtain⟨sl3,e3⟩:=slot2 b _ e2 hm
  exact⟨sl3,e3⟩
 ·obtain⟨o1,e1⟩:=I.base.there b o e (nex b)
  exact u.free b o1 e1 (I.base.free b o e n (nex b)) (by simp)
 ·obtain⟨o1,e1⟩:=I.base.there b o e (nex b)
  obtain⟨o2,e2⟩:=u.there b o1 e1 (by simp)
  by_cases hm:b∈frs X.stack
  ·obtain⟨sl,e3⟩:=slot2 b o2 e2 hm
   exact⟨_,e3⟩
  ·exact⟨o2,keep2 b o2 e2 hm (by rw[e1];simp)⟩
 ·obtain⟨m1,e1⟩:=I.base.tbls b ps q
  obtain⟨m2,e2⟩:=u.tbls b _ e1
  exact⟨m1++m2,by rw[e2,Array.append_assoc]⟩
theorem ML{base:Heap}{l:List Env}{fs:List Addr}(hl:s1.heap.FunFrames base l)(hH:∀b∈frs l,H1 b=none)(hs:∀b∈frs l,b∈fs)(u:Un fs [] H1 H2 s1.heap h1):h1.FunFrames base l:=by
 induction l with
 |nil=>trivial
 |cons env r ih=>
  obtain⟨hk,⟨L,o,hf,hn,ho,hd⟩,hr⟩:=hl
  have hL:L∈frs (env::r):=by unfold frs;rw[filterMap_cons,hf];exact mem_cons_self
  have sub:∀b,b∈frs r->b∈frs (env::r):=λb hb=>by unfold frs;rw[filterMap_cons,hf];exact mem_cons_of_mem _ hb
  obtain⟨sl,e⟩:=u.slot L o ho (hH L hL) (hs L hL) (by simp)
  exact⟨hk,⟨L,_,hf,hn,e,hd⟩,ih hr (λb hb=>hH b (sub b hb)) λb hb=>hs b (sub b hb)⟩
variable{P:Program}{w:World}{K:FZ}{mg:Str->Option Value}{base:Heap}{N:List Str}{qual:Str}{scope:Scope}{f:Addr}{cd:Value}{A:Around}{outer:List Env}{s:Shared}{H:Hp}{E:XK}
 {pins:List (Addr×Obj)}{σ:St}{H1:Hp}{s1:Shared}
theorem NZ{h':Heap}{a:Addr}{C:Value}{vs:List Value}(I:Inv (L5 (CXr P w) P w K mg base N qual scope f cd A outer s H E) pins σ H1 s1)(hx:Heap.MadeExcOf s1.heap h' a C vs)(hE:E C none H1):
  (L5 (CXr P w) P w K mg base N qual scope f cd A outer s H E).xe (.ref a) {s1 with heap:=h'}:=by
 have hst:=I.stack
 have hin:∀e∈(L5 (CXr P w) P w K mg base N qual scope f cd A outer s H E).stack,∀b,e.frame=some b->b∈frs (L5 (CXr P w) P w K mg base N qual scope f cd A outer s H E).stack:=λe he b hb=>mem_filterMap.mpr ⟨e,he,hb⟩
 refine wpAny_leaves_madeW (base:=hideAll s1.heap (frs (L5 (CXr P w) P w K mg base N qual scope f cd A outer s H E).stack)) (h:=s1.heap) I.ok.frames rfl (λb o q=>of_hideAll _ q) (PySem.W.funFrames_hide hst hin) hx λh2 t fl _ _ us=> ?_
 obtain⟨st,_,_,oe,vs',T,oT,ts,y1,⟨y2,y4⟩,y3,y5,yB,y6,y7,y8,y9⟩:=fl
 have keep:∀b o,s1.heap.get? b=some o->b∉frs (L5 (CXr P w) P w K mg base N qual scope f cd A outer s H E).stack->h2.get? b=some o:=λb o hb n=>st b o (hideAll_get _ hb n)
 have slot:∀b o,s1.heap.get? b=some o->b∈frs (L5 (CXr P w) P w K mg base N qual scope f cd A outer s H E).stack->∃sl,h2.get? b=some {o with slots:=sl}:=λb o hb hm=>by
  obtain⟨_,o',ho',hnf⟩:=hst.mem hm
  rw[hb]at ho';cases ho'
  exact us b o (hx.keeps b o hb) hnf
 have hT:s1.heap.get? T=none:=by
  cases q:s1.heap.get? T with
  |none=>rfl
  |some o=>
   by_cases hm:T∈frs (L5 (CXr P w) P w K mg base N qual scope f cd A outer s H E).stack
   ·obtain⟨_,o',ho',hnf⟩:=hst.mem hm
    obtain⟨sl,hs⟩:=slot T o' ho' hm
    rw[hs]at y7;cases y7
    exact absurd y8 (hnf ts)
   ·rw[hideAll_get _ q hm]at yB;cases yB
 have fresh:∀b,s1.heap.get? b=none->H1 b=none:=λb hb=>by
  cases q:H1 b with
  |none=>rfl
  |some u=>obtain⟨o,ho⟩:=I.hok.there b (by rw[q];simp);rw[hb]at ho;cases ho
 have older:∀b,s1.heap.get? b=none->s.heap.get? b=none:=λb hb=>by
  cases q:s.heap.get? b with
  |none=>rfl
  |some u=>obtain⟨o,ho⟩:=I.base.there b u q (by intro z;cases z);rw[hb]at ho;cases ho
 have trk:∀b,H1 b≠none->b∉frs (L5 (CXr P w) P w K mg base N qual scope f cd A outer s H E).stack:=λb hb hm=>hb (I.stkFree b hm)
 refine⟨a,C,H1,rfl,I.os,I.bare, ?_,I.hok.keptT λb o hb e=>keep b o e (trk b hb),⟨oe,vs',T,oT,ts,_,y1,y2,y3,y4,y5,y6,y7,y8,y9,fresh a hx.new,fresh T hT,older a hx.new,older T hT⟩,hE⟩
 exact QQ (h1:=s1.heap) I rfl Un.refl (λb o e n _=>keep b o e n) slot
theorem BQ:X5 (CXr P w) (L5 (CXr P w) P w K mg base N qual scope f cd A outer s H E) E:=by
 intro pins σ H1 s1 e s2 I hc
 obtain⟨a,C,H2,rfl,os2,bare2,u,hok,x,hE⟩:=hc
 have hst2:s2.heap.FunFrames base (L5 (CXr P w) P w K mg base N qual scope f cd A outer s H E).stack:=ML I.stack I.stkFree (λ_ hb=>hb) u
 have older1:∀b o,s.heap.get? b=some o->∃o',s1.heap.get? b=some o':=λb o e=>I.base.there b o e (by intro z;cases z)
 have weaken:∀ {h':Heap},XAt h' s1.heap H2 a C->XAt h' s.heap H2 a C:=λ{h'} x=>by
  obtain⟨oe,vs,T,oT,ts,a0,x1,x2,x3,x4,x5,x6,x7,x8,x9,x10,x11,x12,x13⟩:=x
  refine⟨oe,vs,T,oT,ts,a0,x1,x2,x3,x4,x5,x6,x7,x8,x9,x10,x11, ?_, ?_⟩
  ·cases q:s.heap.get? a with
   |none=>rfl
   |some o=>obtain⟨o',e'⟩:=older1 a o q;rw[x12]at e';cases e'
  ·cases q:s.heap.get? T with
   |none=>rfl
   |some o=>obtain⟨o',e'⟩:=older1 T o q;rw[x13]at e';cases e'
 have hna:s1.heap.get? a=none:=by obtain⟨_,_,_,_,_,_,_,_,_,_,_,_,_,_,_,_,_,z,_⟩:=x;exact z
 have hHa:H2 a=none:=by obtain⟨_,_,_,_,_,_,_,_,_,_,_,_,_,_,_,z,_⟩:=x;exact z
 refine NX (E:=_) I.ok.frames rfl hst2 x (λb hb=>hok.there b hb) (λb o e=>u.there b o e (by simp)) λh' T keep slot hHT hgT xa=> ?_
 have frFree:∀b∈frs (L5 (CXr P w) P w K mg base N qual scope f cd A outer s H E).stack,H2 b=none:=λb hm=>by
  obtain⟨_,o,ho,_⟩:=I.stack.mem hm
  exact u.free b o ho (I.stkFree b hm) (by simp)
 refine⟨a,C,H2,rfl,os2.trans I.os,bare2, ?_,hok.keptT λb o hb e=>keep b o e (λhm=>hb (frFree b hm)) (λz=>hb (by rw[z];exact hHa)) (λz=>hb (by rw[z];exact hHT)),weaken xa,hE⟩
 exact QQ I rfl u (λb o e n hs=>keep b o e n (λz=>hs (by rw[z];exact hna)) λz=>hs (by rw[z];exact hgT)) slot
theorem Fun.okX{x qual:Str}{st:Stmt}{f:Addr}{fd:FuncData}{N ps:List Str}{k:Nat}{sp:Sp}(F:Fun K x qual st f fd)(S:FnScope N ps (A6 st))(len:∀vs H Q E,sp vs H Q E->vs.length=ps.length)
  (hbody:∀(cdv:Value) (A:Around) (outer:List Env) (s:Shared) (H:Hp) (vs:List V) (Q:VK) (E:XK),Room k (A.deeper (envOfC qual (A6 st) s.heap.objs.size f cdv))->sp vs H Q E->
   ∃t,PSs (L5 (CXr P w) P w K mg base N qual (A6 st) f cdv A outer s H E) (B8 st) t/\t {nx:=λ_ H'=>Q .non H',rt:=Q} (start N vs) H):FnOk P w K mg base (CXr P w) (k+1) f fd ps sp:=by
 obtain⟨oc,od,kV,doc,pm,an,cdv,ct,osl,rfl,lk,hcd⟩:=F.ex
 exact MY lk hcd S len λA outer s H vs Q E hr hsp=>hbody cdv A outer s H vs Q E hr hsp
end
def KD(K:FZ)(C:Addr):List Value:=match K.lookup C with
 |some o=>(match o.data with
  | .cls d=>d.mro.tail
  |_=> [])
 |none=> []
def OwnAt(h:Heap)(C:Addr)(bm bmB:List Value)(newId:String):Prop:=
 ∃N nm qn bs hdct sn sub ab col dd k0 k1 k2 k3 k5 mN,h.get? C=some (excClassObj nm qn C N bs bm hdct sn sub ab col dd k0 k1 k2 k3 k5 newId)/\h.Ns N mN/\mN "__init__"=none/\OwnTail h bmB bm
theorem AB{K:FZ}{h:Heap}{C:Addr}{bmB:List Value}{newId:String}(X:K.In h)(q:excIn K C bmB newId=true):OwnAt h C (KD K C) bmB newId:=by
 unfold excIn at q
 cases ho:K.lookup C with
 |none=>rw[ho]at q;cases q
 |some o=>
  rw[ho]at q
  have hb:KD K C=(match o.data with
   | .cls d=>d.mro.tail
   |_=> []):=by unfold KD;rw[ho]
  rw[hb]
  have hX:=X C o ho
  split at q
  ·next d cd sl he=>
   cases he
   split at q
   ·next c1 bm a0 a1 a2 a3 nn a5 hm hs=>
    rw[Bool.and_eq_true,Bool.and_eq_true,Bool.and_eq_true,Bool.and_eq_true,Bool.and_eq_true]at q
    obtain⟨⟨⟨⟨⟨z1,z2⟩,z3⟩,z4⟩,z5⟩,z6⟩:=q
    have z1:=beq_iff_eq.mp z1
    have z2:=beq_iff_eq.mp z2
    have z6:=beq_iff_eq.mp z6
    subst z1 z2
    have hsl:sl= #[a0,a1,a2,a3,some (.builtin nn),a5]:=Array.toList_inj.mp hs
    obtain⟨nm,bs,mro,ns,qn,hd,sn,sub,ab,col,del⟩:=cd
    have hm:mro=_:=hm
    have y3:del=false:=by simpa using z3
    subst hm hsl
    subst y3
    exact⟨ns,nm,qn,bs,hd,sn,sub,ab,col,d,a0,a1,a2,a3,a5,_,hX,.of_isNs (PySem.W.isNs_of_in X z5),PySem.W.nsMap_none_of_in X z5 z6,PySem.W.tail_of_in X z4⟩
   ·cases q
  ·cases q
section
variable{P:Program}{w:World}{K:FZ}{mg:Str->Option Value}{base:Heap}{N:List Str}{qual:Str}{scope:Scope}{f:Addr}{cd:Value}{A:Around}{outer:List Env}{s:Shared}{H:Hp}{E:XK}
def WA(C:Addr)(E:XK)(t:TA):TS:=λ_ σ H=>t σ H λvs H1=>vs.length<=sizeLine/\E (.ref C) none H1
theorem EW{C:Addr}{bmB:List Value}{B newId initId:String}{x:Str}{p pos rpos:Pos}{e:Expr}{es:List Expr}{t:TA}(F:ExcBaseFacts B newId initId bmB)(hB:bmB.contains (.type "BaseException")=true)
  (hq:excIn K C bmB newId=true)(hg:Gl (L5 (CXr P w) P w K mg base N qual scope f cd A outer s H E) x)(hm:mg x=some (.ref C))(ha:PA (L5 (CXr P w) P w K mg base N qual scope f cd A outer s H E) (e::es) t)
  (hdb:(x==("__debug__":Str))=false:=by decide)
  (he:starEach (e::es) (L5 (CXr P w) P w K mg base N qual scope f cd A outer s H E).env=(false,eval e (L5 (CXr P w) P w K mg base N qual scope f cd A outer s H E).env)::starEach es (L5 (CXr P w) P w K mg base N qual scope f cd A outer s H E).env:=by rfl)
  (hpl:(backTo pos (starEach (e::es) (L5 (CXr P w) P w K mg base N qual scope f cd A outer s H E).env)).any (·.1)=false:=by rfl):
  PS (L5 (CXr P w) P w K mg base N qual scope f cd A outer s H E) (.Raise (some (.Call (.Name x p) (e::es) [] pos)) none rpos) (WA C E t):=by
 intro pins s1 σ H1 D I h
 obtain⟨Nn,nm,qn,bs,hdct,sn,sub,ab,col,dd,k0,k1,k2,k3,k5,mN,hC,hN,hni,T⟩:=AB I.ok.mod.kin hq
 refine wpAny_Raise_call_subT (C:=C) (nm:=nm) (q:=qn) (N:=Nn) (bs:=bs) (bm:=KD K C) (hdct:=hdct) (sn:=sn) (sub:=sub) (ab:=ab) (col:=col) (dd:=dd) (k0:=k0) (k1:=k1) (k2:=k2) (k3:=k3) (k5:=k5) F (T.hasType hB) (I.ok.hd rfl) hpl hni ?_
 refine AG I hg hm ⟨rfl, ?_⟩ hdb
 have h2:=ha pos pins s1 σ H1 _ I h
 rw[he]at h2⊢
 refine Calls.evalArgs_plain (thn h2 λus s2 ⟨vs,H2,I2,r,q1,q2⟩=> ?_)
 have hk:∀b o,base.get? b=some o->s2.heap.get? b=some o:=λb o e=>(I2.bs b o e).1
 refine⟨rfl,by rw[<-r.length];exact q1,hk _ _ hC,hN.keeps hk,T.keeps hk,λh' a mx=>NZ I2 mx q2⟩
variable{h g:Heap}{a:Addr}{C:Value}
theorem SJ{base:Heap}{l:List Env}(hl:h.FunFrames base l)(x:XAt h g H a C)(hH:∀b,H b≠none->∃o,h.get? b=some o)(hg:∀b o,g.get? b=some o->∃o',h.get? b=some o'):
  ∃B a0,Heap.FlyingW B l a C a0 h/\∀h',Heap.FlyingW B l a C a0 h'->h.UpToSlots h'->
   (∀b o,h.get? b=some o->b∉frs l->(H b≠none\/g.get? b≠none)->h'.get? b=some o)/\(∀b o,h.get? b=some o->b∈frs l->∃sl,h'.get? b=some {o with slots:=sl})/\∃ob,h'.get? a=some ob/\ob.cls=C:=by
 obtain⟨oe,vs,T,oT,ts,a0,x1,x2,x3,x4,x5,x6,x7,x8,x9,x10,x11,x12,x13⟩:=x
 have hin:∀e∈l,∀b,e.frame=some b->b∈frs l++ [a,T]:=λe he b hb=>mem_append_left _ (mem_filterMap.mpr ⟨e,he,hb⟩)
 refine⟨hideAll h (frs l++ [a,T]),a0,⟨λb o q=>of_hideAll _ q,hideAll_none _ (by simp),PySem.W.funFrames_hide hl hin,oe,vs,T,oT,ts,x1,⟨x2,x4⟩,x3,x5,hideAll_none _ (by simp),x6,x7,x8,x9⟩,λh' fl us=>⟨λb o hb n c=> ?_,λb o hb hm=> ?_,fl.there⟩⟩
 ·refine fl.1 b o (hideAll_get _ hb λhm=> ?_)
  rcases mem_append.mp hm with hm|hm
  ·exact n hm
  ·have hz:b=a\/b=T:=by simpa using hm
   rcases hz with rfl|rfl
   ·rcases c with c|c
    ·exact c x10
    ·exact c x12
   ·rcases c with c|c
    ·exact c x11
    ·exact c x13
 ·obtain⟨_,o',ho',hnf⟩:=hl.mem hm
  rw[hb]at ho';cases ho'
  exact us b o hb hnf
end
def CQ(a:Addr)(C:Value):HO:=.ext λh=>∃o,h.get? a=some o/\o.cls=C
theorem UY{P:Program}{w:World}{H:Hp}{h:Heap}{a:Addr}{C:Value}{o:Obj}(e:h.get? a=some o)(c:o.cls=C):ObjOk P w H h a (CQ a C):=
 ⟨⟨o,e,c⟩,⟨o,e⟩,λ_ _ ⟨o,e,c⟩ k=>⟨o,k o e,c⟩⟩
theorem HOk.adds{P:Program}{w:World}{H:Hp}{h:Heap}{a:Addr}{o:HO}(x:HOk P w H h)(hn:H a=none)(new:ObjOk P w (upd H a o) h a o):HOk P w (upd H a o) h:=λb u e=>by
 by_cases hb:b=a
 ·subst hb;rw[A3]at e;cases e;exact new
 ·rw[B1 hb]at e
  exact(x b u e).stay (λ_ _ _ q=>q) (λc q=>by rw[B1 (B0 q hn)];exact q) λc xs q=>by rw[B1 (B0 q hn)];exact q
section
variable{fs:List Addr}{H1 H2:Hp}{h0 h1 h2:Heap}
theorem UA(u:Un fs [] H1 H2 h0 h1)(keep:∀b o,h1.get? b=some o->b∉fs->(H2 b≠none\/h0.get? b≠none)->h2.get? b=some o)(slot:∀b o,h1.get? b=some o->b∈fs->∃sl,h2.get? b=some {o with slots:=sl}):Un fs [] H1 H2 h0 h2:=by
 refine⟨λb o e n hb _=> ?_,λb o e n hb _=> ?_,u.free,λb o e _=> ?_,u.tups,u.frzs,u.tbls⟩
 ·exact keep b o (u.keep b o e n hb (by simp)) hb (.inr (by rw[e];simp))
 ·obtain⟨sl,e1⟩:=u.slot b o e n hb (by simp)
  obtain⟨sl2,e2⟩:=slot b _ e1 hb
  exact⟨sl2,e2⟩
 ·obtain⟨o1,e1⟩:=u.there b o e (by simp)
  by_cases hb:b∈fs
  ·obtain⟨sl,e2⟩:=slot b o1 e1 hb
   exact⟨_,e2⟩
  ·exact⟨o1,keep b o1 e1 hb (.inr (by rw[e];simp))⟩
theorem XH{a:Addr}{o:HO}(u:Un fs [] H1 H2 h0 h1)(ha:h0.get? a=none)(hn:H2 a=none):Un fs [] H1 (upd H2 a o) h0 h1:=by
 refine⟨u.keep,u.slot,λb ob e n z=> ?_,u.there,λb xs q=> ?_,λb ob v q=> ?_,λb ps q=> ?_⟩
 ·rw[B1 (by rintro rfl;rw[ha]at e;cases e)]
  exact u.free b ob e n z
 ·have:=u.tups b xs q
  rw[B1 (B0 this hn)];exact this
 ·have:=u.frzs b ob v q
  rw[B1 (B0 this hn)];exact this
 ·obtain⟨m,e⟩:=u.tbls b ps q
  exact⟨m,by rw[B1 (B0 e hn)];exact e⟩
variable{X:Cx}{pins:List (Addr×Obj)}{σ:St}{s1 s2:Shared}{a:Addr}{C:Value}
theorem TW(I:Inv X pins σ H1 s1)(os:s2.os=s1.os)(bare:AllBare s2.gens)(u:Un (frs X.stack) [] H1 H2 s1.heap s2.heap)(hok:HOk X.prog X.w H2 s2.heap)(x:XAt s2.heap s1.heap H2 a C):
  ∃B a0,Heap.FlyingW B X.stack a C a0 s2.heap/\∀h',Heap.FlyingW B X.stack a C a0 h'->s2.heap.UpToSlots h'->Inv X pins σ (upd H2 a (CQ a C)) {s2 with heap:=h'}:=by
 have hst2:s2.heap.FunFrames X.base X.stack:=ML I.stack I.stkFree (λ_ hb=>hb) u
 have hHa:H2 a=none:=by obtain⟨_,_,_,_,_,_,_,_,_,_,_,_,_,_,_,z,_⟩:=x;exact z
 have hna:s1.heap.get? a=none:=by obtain⟨_,_,_,_,_,_,_,_,_,_,_,_,_,_,_,_,_,z,_⟩:=x;exact z
 obtain⟨B,a0,fl,st⟩:=SJ hst2 x (λb hb=>hok.there b hb) (λb o e=>u.there b o e (by simp))
 refine⟨B,a0,fl,λh' fl' us=> ?_⟩
 obtain⟨keep,slot,ob,hob,hc⟩:=st h' fl' us
 have frFree:∀b∈frs X.stack,H2 b=none:=λb hm=>by
  obtain⟨_,o,ho,_⟩:=I.stack.mem hm
  exact u.free b o ho (I.stkFree b hm) (by simp)
 have hok':HOk X.prog X.w H2 h':=hok.keptT λb o hb e=>keep b o e (λhm=>hb (frFree b hm)) (.inl hb)
 exact I.call' (s':={s2 with heap:=h'}) (ch:=[]) os (XH (UA u keep slot) hna hHa) (hok'.adds hHa (UY hob hc)) bare (λb z=>absurd z (by simp))
variable{H:Hp}{s:Shared}
theorem AC{M:Model}{A:Around}{E:Value->Shared->Prop}{i:Nat}{n:Str}{pos:Pos}{Q:Unit->Shared->Prop}(I:Inv X pins σ H s)(hN:X.N.Nodup)(hi:X.N[i]? =some n)(hx:X.env.scope.names.lookup n=some .local)
  (h:∀s',Inv X pins (σ.set i none) H s'->Q () s'):wpAny M A (do bindName X.env n .none;unbindBehindTheSuite X.env n pos) Q E s:=by
 have hcls:(X.env.scope.kind==.class||(X.env.scope.kind==.module&&X.env.locals !=X.env.globals))=false:=by rw[I.ok.kind];rfl
 refine bZ (wpAny_bindName (V2 (v:=.non) I hN hi (.inl hx) rfl (λs1 I1=> ?_) (.inr hx)))
 unfold unbindBehindTheSuite
 refine wpAny_onRaise ?_
 have hiσ:i<σ.length:=by rw[I.len];exact(List.getElem?_eq_some_iff.mp hi).1
 obtain⟨m,hn,hl⟩:=id I1.loc
 obtain⟨u,_,q⟩:=hl i n .non hi (getElem?_set_self hiσ) (.inl hx)
 have hm:m n=some u:=by
  rcases q with⟨_,e⟩|⟨k,_⟩
  ·exact e
  ·have hx':X.env.kindOf n=some .local:=hx
   rw[hx']at k
   rcases k with k|k<;>cases k
 refine wpAny_unbindName_local hx hn hm hcls λh' u' hn' hs=> ?_
 have cne:=I1.cne
 obtain⟨oL,_,_,hoL,_⟩:=id hn
 have lt:∀b o,X.s₀.heap.get? b=some o->h'.get? b=s1.heap.get? b:=λb o e=>hs.2 b (ne_of_lt (lt_of_lt_of_le (lt_size e) I1.ok.above))
 refine h {s1 with heap:=h'} ⟨I1.ok,I1.os,I1.bare,⟨λb o e n hb hx=>(lt b o e).trans (I1.base.keep b o e n hb hx),λb o e n hb hx=> ?_,I1.base.free,λb o e hx=> ?_,I1.base.tups,I1.base.frzs,I1.base.tbls⟩,⟨_,hn',λj y v' e1 e2 e3=> ?_⟩,λy c e=> ?_,I1.free,I1.freeC,λp hp=> ?_,λb ob e=> ?_,by simpa using I.len⟩
 ·obtain⟨sl,e1⟩:=I1.base.slot b o e n hb hx
  exact⟨sl,(lt b o e).trans e1⟩
 ·obtain⟨o',e1⟩:=I1.base.there b o e hx
  exact⟨o',(lt b o e).trans e1⟩
 ·have hj:j≠i:=by
   rintro rfl
   rw[getElem?_set_self hiσ]at e2;cases e2
  rw[getElem?_set_ne (Ne.symm hj)]at e2
  obtain⟨u2,r2,q2⟩:=hl j y v' e1 (by rw[getElem?_set_ne (Ne.symm hj)];exact e2) e3
  refine⟨u2,r2, ?_⟩
  rcases q2 with⟨k,e⟩|⟨k,c,e,z⟩
  ·refine .inl ⟨k, ?_⟩
   have:y≠n:=λe=>hj (EH hN e1 (e▸hi))
   simp[this,e]
  ·exact .inr ⟨k,c,e,z.sameBut hs (cne y c e)⟩
 ·obtain⟨w',z⟩:=I1.cell y c e
  exact⟨w',z.sameBut hs (cne y c e)⟩
 ·obtain⟨e,n',ne,nf,d⟩:=I1.pin p hp
  exact⟨(hs.2 p.1 ne).trans e,n',ne,nf,d⟩
 ·refine(I1.hok b ob e).stay (λc v hc q=>(hs.2 c ?_).trans q) (λ_ q=>q) λ_ _ q=>q
  rintro rfl
  rcases hc with rfl|hc
  ·rw[I1.free]at e;cases e
  ·rw[I1.free]at hc;cases hc
variable{M:Model}{A:Around}{E:Value->Shared->Prop}{h:Heap}{g:Array GenState}{d:Drawn}{t:Nat}{os:OsState}
theorem JN{a C D:Addr}{bm bmB bmD bmE:List Value}{n1 n2:String}{oe:Obj}{Q:Bool->Shared->Prop}(hC:OwnAt h C bm bmB n1)(hD:OwnAt h D bmD bmE n2)(he:h.get? a=some oe)(hcls:oe.cls=.ref C)
  (hB:bmE.contains (.type "BaseException")=true)(hm:(Value.ref C::bm).contains (.ref D)=true)(hq:Q true ⟨h,g,d,t,os⟩):wpAny M A (excMatches (.ref a) (.ref D)) Q E ⟨h,g,d,t,os⟩:=by
 obtain⟨_,_,_,_,_,_,_,_,_,_,_,_,_,_,_,_,oC,_⟩:=hC
 obtain⟨_,_,_,_,_,_,_,_,_,_,_,_,_,_,_,_,oD,_,_,TD⟩:=hD
 have hcB:(Value.ref D::bmD).contains (.type "BaseException")=true:=by rw[contains_cons,TD.hasType hB,Bool.or_true]
 have f:=tc_notTuple
 unfold excMatches
 repeat (first
  |(with_reducible refine wpAny_loadPart_at he ?_;rw[hcls])
  |with_reducible refine wpAny_loadPart_at oD ?_
  |(with_reducible refine wpAny_isSubtype_exc oD ?_;rw[hcB])
  |(with_reducible refine wpAny_isSubtype_exc oC ?_;rw[hm])
  |wp_step)
 exact hq
end
def Cx.marked(X:Cx)(e:Value):Cx:={X with A:=X.A.mark (some e),calm:=false,xe:=λ_ _=>False}
section
variable{X:Cx}{pins:List (Addr×Obj)}{σ:St}{H:Hp}{s:Shared}{e:Value}
theorem Inv.mark(I:Inv X pins σ H s):Inv (X.marked e) pins σ H s:=
 ⟨⟨I.ok.mod,I.ok.kind,I.ok.glob,I.ok.blt,I.ok.above,I.ok.inj,I.ok.has,I.ok.cab,(λz=>nomatch z),I.ok.frames,I.ok.stk,I.ok.exf,I.ok.bs,I.ok.bsz,I.ok.noex,I.ok.exfs,I.ok.funs,I.ok.frf⟩,I.os,I.bare,I.base,I.loc,I.cell,I.free,I.freeC,I.pin,I.hok,I.len⟩
theorem Inv.unmark(ok:X.Ok)(I:Inv (X.marked e) pins σ H s):Inv X pins σ H s:=⟨ok,I.os,I.bare,I.base,I.loc,I.cell,I.free,I.freeC,I.pin,I.hok,I.len⟩
end
def Cx.xed(X:Cx)(xe:Value->Shared->Prop):Cx:={X with xe:=xe}
section
variable{X:Cx}{pins:List (Addr×Obj)}{σ:St}{H:Hp}{s:Shared}{xe:Value->Shared->Prop}
theorem Inv.xed(I:Inv X pins σ H s):Inv (X.xed xe) pins σ H s:=
 ⟨⟨I.ok.mod,I.ok.kind,I.ok.glob,I.ok.blt,I.ok.above,I.ok.inj,I.ok.has,I.ok.cab,I.ok.hd,I.ok.frames,I.ok.stk,I.ok.exf,I.ok.bs,I.ok.bsz,I.ok.noex,I.ok.exfs,I.ok.funs,I.ok.frf⟩,I.os,I.bare,I.base,I.loc,I.cell,I.free,I.freeC,I.pin,I.hok,I.len⟩
theorem Inv.unxed(I:Inv (X.xed xe) pins σ H s):Inv X pins σ H s:=
 ⟨⟨I.ok.mod,I.ok.kind,I.ok.glob,I.ok.blt,I.ok.above,I.ok.inj,I.ok.has,I.ok.cab,I.ok.hd,I.ok.frames,I.ok.stk,I.ok.exf,I.ok.bs,I.ok.bsz,I.ok.noex,I.ok.exfs,I.ok.funs,I.ok.frf⟩,I.os,I.bare,I.base,I.loc,I.cell,I.free,I.freeC,I.pin,I.hok,I.len⟩
end
abbrev TEX:=St->Hp->VK->XK->Prop
abbrev TSX:=Ends->(St->XK)->St->Hp->Prop
def PEX(X:Cx)(e:Expr)(t:TEX):Prop:=
 ∀(pins:List (Addr×Obj)) (s:Shared) (σ:St) (H:Hp) (Q:VK) (E:XK) (XE:Value->Shared->Prop),Inv X pins σ H s->t σ H Q E->
  (∀H1 s1 e s',Inv X pins σ H1 s1->CXr X.prog X.w X.stack H1 s1 E e s'->XE e s')->wpAny (model X.prog X.w) X.A (eval e X.env) (EP X pins σ Q) XE s
def PSX(X:Cx)(st:List Stmt)(t:TSX):Prop:=
 ∀(pins:List (Addr×Obj)) (s:Shared) (σ:St) (H:Hp) (D:Ends) (E:St->XK) (XE:Value->Shared->Prop),Inv X pins σ H s->t D E σ H->
  (∀σ1 H1 s1 e s',Inv X pins σ1 H1 s1->CXr X.prog X.w X.stack H1 s1 (E σ1) e s'->XE e s')->wpAny (model X.prog X.w) X.A (execs st X.env) (SP X pins D) XE s
section
variable{X:Cx}{k:Nat}{f C:Addr}{fd:FuncData}{ps:List Str}{sp:Sp}{dvs:List V}{ds:List Value}{x m:Str}{p pos apos:Pos}{e o:Expr}{es:List Expr}{ta:TE}{t:TA}
theorem UU{pins:List (Addr×Obj)}{σ:St}{H:Hp}{s:Shared}{Q:VK}{E:XK}{XE:Value->Shared->Prop}{us:List Value}{vs:List V}(F:FnOk X.prog X.w X.K X.mg X.base (CXr X.prog X.w) k f fd ps sp)(hr:Room k X.A)(hb:Binds X.K fd ps ds)(hd:Vals dvs ds)
  (I:Inv X pins σ H s)(r:Vals vs us)(h:sp (vs++dvs) H Q E)(hx:∀e s',CXr X.prog X.w X.stack H s E e s'->XE e s'):wpAny (model X.prog X.w) X.A (call (.ref f) us) (EP X pins σ Q) XE s:=by
 have r2:Vals (vs++dvs) (us++ds):=r.append hd
 have hl:(us++ds).length=ps.length:=by rw[<-r2.length];exact F.len _ _ _ _ h
 refine wpAny_call (codeAny_mono (F.run X.A X.stack s H ⟨us,[]⟩ (us++ds) (vs++dvs) Q E hr I.env0 (hb s us I.kIn hl) r2 h) λr s' hq=> ?_)
 cases r with
 |error e=>exact hx e s' hq
 |ok fl=>
  cases fl with
  |ret u=>exact I.after hq
  |next=>exact False.elim hq
  |brk=>exact False.elim hq
  |cont=>exact False.elim hq
def YV(C:Addr)(m:Str)(sp:Sp)(dvs:List V)(ta:TE)(t:TA):TEX:=fun σ H Q E=>ta σ H λx H1=>∃a dx fs,x=.ref a/\H1 a=some (.ins C dx fs)/\fs.lookup m=none/\t σ H1 λvs H2=>sp (x::(vs++dvs)) H2 Q E
theorem KF{pl:Sem Bool}(he:∀xe,PE (X.xed xe) o ta)(c:Cls X.K C)(hm:Meth X.K C m f)(F:FnOk X.prog X.w X.K X.mg X.base (CXr X.prog X.w) k f fd ps sp)(hr:Room k X.A)(hb:Binds X.K fd ps ds)(hd:Vals dvs ds)(ha:∀xe,PA (X.xed xe) (e::es) t)
  (hst:starEach (e::es) X.env=(false,eval e X.env)::starEach es X.env:=by rfl)(hpl:(backTo pos (starEach es X.env)).any (·.1)=false:=by rfl)
  (ht:eval (.Call (.Attribute o m apos) (e::es) [] pos) X.env=(do
   let ov<-eval o X.env
   standAt apos.atName
   let(f,first)<-holding [ov] (getMethod ov m pl)
   callWith pos f first (backTo pos (starEach (e::es) X.env)) (backToKw pos (keywordEach [] X.env))):=by rfl):
  PEX X (.Call (.Attribute o m apos) (e::es) [] pos) (YV C m sp dvs ta t):=by
 intro pins s σ H Q E XE I h hx
 refine PySem.W.methodCall_KW (pl:=pl) (thn (he XE pins s σ H _ I.xed h) λu s1 ⟨x,H1,I1,rx,a,dx,fs,ex,ea,l,q⟩=> ?_) ht
 subst ex
 obtain rfl:u=Value.ref a:=rx
 refine BA I1.unxed ea c hm l ?_
 refine callWith_K (first:=[.ref a]) (h₀:=X.base) I.ok.mod.kin hm.kp (thn (ha XE pos pins s1 σ H1 _ I1 q) λus s2 ⟨vs,H2,I2,r,q2⟩=>⟨I2.kIn, ?_⟩) hst hpl
 exact UU (us:=.ref a::us) (vs:=.ref a::vs) F hr hb hd I2.unxed (.cons rfl r) q2 λe s' c=>hx _ _ e s' I2.unxed c
end
section
variable{X:Cx}{e:Expr}{pos:Pos}{t:TEX}{st:Stmt}{rest:List Stmt}{a b:List Stmt}{ta tb:TSX}
def ZY(t:TEX):TSX:=λD E σ H=>t σ H (λ_ H1=>D.nx σ H1) (E σ)
theorem JF(he:PEX X e t)(hs:swapsWith e none pos.line X.env=pure false:=by rfl):PSX X [.Expr e pos] (ZY t):=by
 intro pins s σ H D E XE I h hxe
 exact wpAny_execs_cons (wpAny_Expr_any (thn (he pins s σ H _ _ XE I h λH1 s1=>hxe σ H1 s1) λv s1 ⟨x,H1,I1,r1,q1⟩=>wpAny_execs_nil ⟨σ,H1,I1,q1⟩) I.quiet hs)
end
def Ends.minus(D:Ends)(i:Nat):Ends:={nx:=fun σ H=>D.nx (σ.set i none) H,rt:=D.rt,bk:=fun σ H=>D.bk (σ.set i none) H,ct:=fun σ H=>D.ct (σ.set i none) H}
structure Takes (K:FZ) (D:Addr) (Ok:Addr->Prop):Prop where
 own:∃bmB nid,excIn K D bmB nid=true/\bmB.contains (.type "BaseException")=true
 all:∀c,Ok c->(∃bmB nid,excIn K c bmB nid=true)/\(Value.ref c::KD K c).contains (.ref D)=true
theorem OwnAt.keeps{h h':Heap}{C:Addr}{bm bmB:List Value}{nid:String}(x:OwnAt h C bm bmB nid)(k:∀b o,h.get? b=some o->h'.get? b=some o):OwnAt h' C bm bmB nid:=by
 obtain⟨N,nm,qn,bs,hdct,sn,sub,ab,col,dd,k0,k1,k2,k3,k5,mN,hC,hN,hni,T⟩:=x
 exact⟨N,nm,qn,bs,hdct,sn,sub,ab,col,dd,k0,k1,k2,k3,k5,mN,k _ _ hC,hN.keeps k,hni,T.keeps k⟩
section
variable{X:Cx}{x n:Str}{np hpos pos:Pos}{body suite:List Stmt}{b₀:Stmt}{i:Nat}{tb:TSX}{ts:TS}{D0:Addr}{Ok:Addr->Prop}
def XW(Ok:Addr->Prop)(i:Nat)(tb:TSX)(ts:TS):TS:=λD σ H=>tb D (fun σ1 C _ H2=>∃c,C=.ref c/\Ok c/\∀a,H2 a=none->ts (D.minus i) (σ1.set i (some (.ref a))) (upd H2 a (CQ a (.ref c)))) σ H
theorem NO(hst:X.stack=X.env::X.outer)(hf:X.env.frame=some X.env.locals)(hN:X.N.Nodup)(hi:X.N[i]? =some n)(hn:X.env.scope.names.lookup n=some .local)(hg:Gl X x)(hm:X.mg x=some (.ref D0))(tk:Takes X.K D0 Ok)
  (hb:PSX X body tb)(hs:∀a,PSs (X.marked (.ref a)) (b₀::suite) ts)(hdb:(x==("__debug__":Str))=false:=by decide):
  PS X (.Try body [.ExceptHandler (some (.Name x np)) (some n) (b₀::suite) hpos] [] [] pos) (XW Ok i tb ts):=by
 intro pins s σ H D I h
 refine wpAny_Try_except (wpAny_mono (hb pins s σ H D _ _ I h fun σ1 H1 s1 e s2 I1 hc=> ?_) (λf s1 q=> ?_) λ_ _ z=>z)
 rotate_left
 ·cases f with
  |next=>exact wpAny_execs_nil q
  |ret v=>exact q
  |brk=>exact q
  |cont=>exact q
 obtain⟨a,C,H2,rfl,os2,bare2,u,hok,xa,c,rfl,okc,hts⟩:=hc
 have hHa:H2 a=none:=by obtain⟨_,_,_,_,_,_,_,_,_,_,_,_,_,_,_,z,_⟩:=xa;exact z
 obtain⟨B,a0,fl,st⟩:=TW I1 os2 bare2 u hok xa
 rw[hst]at fl st
 refine wpAny_looks_onW (by rw[I1.ok.frames,hst]) hf fl λh3 held us3=> ?_
 refine wpAny_landsW held λh4 fl4 us4=> ?_
 have I4:=st h4 fl4 (us3.trans us4)
 obtain⟨ob,hob,hobc⟩:=fl4.there
 refine wpAny_handleBy_cons (codeAny_handlers_test (AG (X:=X.marked (.ref a)) I4.mark hg hm ?_ hdb)) (by intro q;cases q)
 obtain⟨⟨bE,nE,qD,hB⟩,hall⟩:=tk
 obtain⟨⟨bC,nC,qC⟩,hcD⟩:=hall c okc
 have k4:∀b o,X.base.get? b=some o->h4.get? b=some o:=λb o e=>(I4.bs b o e).1
 refine JN ((AB I.ok.mod.kin qC).keeps k4) ((AB I.ok.mod.kin qD).keeps k4) hob hobc hB hcD ?_
 refine codeAny_handlers_suite_as ?_
 refine lands_againW fl4 λh5 fl5 us5=> ?_
 have I5:=st h5 fl5 ((us3.trans us4).trans us5)
 refine V2 (X:=X.marked (.ref a)) (v:=.ref a) I5.mark hN hi (.inl hn) rfl (λs6 I6=> ?_) (.inr hn)
 refine wpAny_mono (hs a pins s6 _ _ (D.minus i) I6 (hts a hHa)) (λf s7 q=> ?_) λ_ _ z=>z.elim
 cases f with
 |next=>
  obtain⟨σ',H',I',q⟩:=q
  exact AC (I'.unmark I.ok) hN hi hn λs8 I8=>⟨_,_,I8,q⟩
 |brk=>
  obtain⟨σ',H',I',q⟩:=q
  exact AC (I'.unmark I.ok) hN hi hn λs8 I8=>⟨_,_,I8,q⟩
 |cont=>
  obtain⟨σ',H',I',q⟩:=q
  exact AC (I'.unmark I.ok) hN hi hn λs8 I8=>⟨_,_,I8,q⟩
 |ret v=>
  obtain⟨y,σ',H',I',r,q⟩:=q
  exact AC (I'.unmark I.ok) hN hi hn λs8 I8=>⟨y,_,_,I8,r,q⟩
end
structure ExcLook (K:FZ) (C:Addr):Prop where
 own:∃bmB nid,excIn K C bmB nid=true/\bmB.contains (.type "BaseException")=true/\bmB.contains (.type "object")=true
 ga:findIn K (.ref C) "__getattribute__"=some (some (.builtin "BaseException.__getattribute__"))
 nga:findIn K (.ref C) "__getattr__"=some none
 cl:findIn K (.ref C) "__class__"=some (some (.builtin "object.__class__"))
section
variable{prog:Program}{w:World}{A:Around}{E:Value->Shared->Prop}{h:Heap}{g:Array GenState}{d:Drawn}{t:Nat}{os:OsState}{a C:Addr}{o:Obj}{bm bmB:List Value}{nid:String}
theorem WB{R:Result->Shared->Prop}(hC:OwnAt h C bm bmB nid)(hO:bmB.contains (.type "object")=true)(hx:h.get? a=some o)(hc:o.cls=.ref C)(hq:R (.ok (.ret (.ref C))) ⟨h,g,d,t,os⟩):
  codeAny (model prog w) A (.call (.builtin "getset_descriptor.__get__") ⟨[.builtin "object.__class__",.ref a,.ref C],[]⟩) R ⟨h,g,d,t,os⟩:=by
 obtain⟨_,_,_,_,_,_,_,_,_,_,_,_,_,_,_,_,oC,_,_,T⟩:=hC
 have ty5:Shared.TypeIs ⟨h,g,d,t,os⟩ (.builtin "object.__class__") "getset_descriptor":=F.typeOf_object_class
 have hcO:(Value.ref C::bm).contains (.type (".".intercalate ("object.__class__".cutAt '.').dropLast))=true:=by
  rw[F.owner_object_class,contains_cons,T.hasType hO,Bool.or_true]
 refine codeAny_call_builtin F.slot_gs_get.plain F.entry_gs_get
  (F.slot_gs_get.check _ _ _ _ _ _ _ _ ty5 (F.args_gs_get _ _ _) ?_)
 repeat (any_goals (first|assumption|(with_reducible refine wpAny_loadPart_at hx ?_;rw[hc])|(with_reducible refine wpAny_isSubtype_exc oC ?_;rw[hcO])|wp_step))
 refine⟨Code.quiet_builtin _ (by decide +kernel),
  codeAny_builtin F.entry_object_class ?_⟩
 repeat (any_goals (first|assumption|(with_reducible refine wpAny_loadPart_at hx ?_;rw[hc])|wp_step))
theorem QO{tk:Tok}{Q:Fin->Shared->Prop}{K:FZ}(X:K.In h)(L:ExcLook K C)(hC:OwnAt h C bm bmB nid)(hO:bmB.contains (.type "object")=true)(hx:h.get? a=some o)(hc:o.cls=.ref C)(hq:Q (.done (.ret (.ref C))) ⟨h,g,d,t,os⟩):
  wpAny (model prog w) A (Builtin.«object.__getattribute__» ⟨[Value.ref a,.str "__class__" tk],[]⟩) Q E ⟨h,g,d,t,os⟩:=by
 have ty5:Shared.TypeIs ⟨h,g,d,t,os⟩ (.builtin "object.__class__") "getset_descriptor":=F.typeOf_object_class
 have ofCls:=F.typeOf_object_class
 have ofGet:=F.slot_gs_get.lookup
 have ofSet:=F.slot_gs_set.lookup
 have lk:=looks_findIn (M:=model prog w) X L.cl
 repeat (any_goals (first|assumption|(with_reducible refine wpAny_loadPart_at hx ?_;rw[hc])|with_reducible refine lk.at ?_|wp_step))
 refine WB hC hO hx hc ?_
 repeat (any_goals (first|assumption|wp_step))
theorem OV{M:Model}{nv:Value}{Q:Unit->Shared->Prop}(hC:OwnAt h C bm bmB nid)(hB:bmB.contains (.type "BaseException")=true)(hx:h.get? a=some o)(hc:o.cls=.ref C)(hq:Q () ⟨h,g,d,t,os⟩):
  wpAny M A (checkBuiltinCall "BaseException.__getattribute__" ⟨[.ref a,nv],[]⟩) Q E ⟨h,g,d,t,os⟩:=by
 obtain⟨_,_,_,_,_,_,_,_,_,_,_,_,_,_,_,_,oC,_,_,T⟩:=hC
 have k1:builtinKind "BaseException.__getattribute__"=some .slot:=by decide +kernel
 have k2:splitId "BaseException.__getattribute__"=some ("BaseException","__getattribute__"):=by decide +kernel
 have k3:(Value.ref C::bm).contains (.type "BaseException")=true:=by rw[contains_cons,T.hasType hB,Bool.or_true]
 have k4:=F.args_bexc_ga (.ref a) nv
 simp only[checkBuiltinCall,k1,k2]
 refine bZ ?_
 unfold isInstance
 repeat (first|(with_reducible refine wpAny_loadPart_at hx ?_;rw[hc])|(with_reducible refine wpAny_isSubtype_exc oC ?_;rw[k3])|wp_step)
 exact hq
theorem UZ{tk:Tok}{R:Result->Shared->Prop}{K:FZ}(X:K.In h)(L:ExcLook K C)(hC:OwnAt h C bm bmB nid)(hB:bmB.contains (.type "BaseException")=true)(hO:bmB.contains (.type "object")=true)(hx:h.get? a=some o)(hc:o.cls=.ref C)(hq:R (.ok (.ret (.ref C))) ⟨h,g,d,t,os⟩):
  codeAny (model prog w) A (.call (.builtin "BaseException.__getattribute__") ⟨[.ref a,.str "__class__" tk],[]⟩) R ⟨h,g,d,t,os⟩:=
 codeAny_call_builtin F.excAttr_ValueError.ga.plain F.entry_bexc_ga (OV hC hB hx hc (QO X L hC hO hx hc hq))
theorem ZH{tk:Tok}{Q:Value->Shared->Prop}{K:FZ}(X:K.In h)(L:ExcLook K C)(hC:OwnAt h C bm bmB nid)(hB:bmB.contains (.type "BaseException")=true)(hO:bmB.contains (.type "object")=true)(hx:h.get? a=some o)(hc:o.cls=.ref C)(hq:Q (.ref C) ⟨h,g,d,t,os⟩):
  wpAny (model prog w) A (getAttrBy (.ref a) (.str "__class__" tk) false) Q E ⟨h,g,d,t,os⟩:=by
 have f3:=F.excAttr_ValueError.ga.bind (.ref a)
 have ne1:(Value.builtin "BaseException.__getattribute__"==.builtin "object.__getattribute__")=false:=by decide +kernel
 have ne2:(onTheHeap (.ref C)&&Value.builtin "BaseException.__getattribute__"==.builtin "object.__getattribute__")=false:=by rw[ne1,Bool.and_false]
 have l1:=looks_findIn (M:=model prog w) X L.ga
 have l2:=looks_findIn (M:=model prog w) X L.nga
 repeat (any_goals (first|assumption|(with_reducible refine wpAny_loadPart_at hx ?_;rw[hc])|with_reducible refine l1.at ?_|with_reducible refine l2.at ?_|wp_step))
 refine UZ X L hC hB hO hx hc ?_
 repeat (any_goals (first|assumption|wp_step))
theorem UI{Q:Option Value->Shared->Prop}{K:FZ}(X:K.In h)(L:ExcLook K C)(hC:OwnAt h C bm bmB nid)(hB:bmB.contains (.type "BaseException")=true)(hO:bmB.contains (.type "object")=true)(hx:h.get? a=some o)(hc:o.cls=.ref C)
  (hq:Q (some (.ref C)) ⟨h,g,d,t+1,os⟩):wpAny (model prog w) A (getAttr? (.ref a) "__class__") Q E ⟨h,g,d,t,os⟩:=by
 unfold getAttr? getAttrBy?
 repeat (any_goals (first|assumption|with_reducible apply ZH X L hC hB hO hx hc|wp_step))
end
theorem PX{K:FZ}{a C:Addr}(L:ExcLook K C):PySem.W.KitX K (.ref a) (.ref C) (λh=>∃o,h.get? a=some o/\o.cls=.ref C) where
 ty:=λM h _ ⟨o,e,c⟩=>c▸(PySem.W.Looks.ld e).andThen .now
 it:=λM h X _=>by
  obtain⟨_,_,q,_,_⟩:=L.own
  obtain⟨_,_,_,_,_,_,_,_,_,_,_,_,_,_,_,_,oC,_⟩:=AB X q
  intro A' Q' E' s' k z
  unfold isType loadHead
  exact bZ (wpAny_loadPart (k _ _ oC) (pZ z))
 ne:=λh tp dd its n sl X e=>by
  obtain⟨_,_,q,_,_⟩:=L.own
  obtain⟨_,_,_,_,_,_,_,_,_,_,_,_,_,_,_,_,oC,_⟩:=AB X q
  refine Bool.eq_false_iff.mpr λz=> ?_
  have e2:C=tp:=Value.ref.inj (beq_iff_eq.mp z)
  subst e2
  have z2:Value.type "type"=Value.type "tuple":=congrArg (λx:Option Obj=>x.elim Value.none Obj.cls) (oC.symm.trans e)
  exact absurd (Value.type.inj z2) (by decide)
 ca:=λ{prog w A E Q s} X ⟨o,e,c⟩ k=>by
  obtain⟨_,_,q,hB,hO⟩:=L.own
  obtain⟨h,g,d,t,os⟩:=s
  exact UI X L (AB X q) hB hO e c k
section
variable{X:Cx}{pins:List (Addr×Obj)}{σ:St}{H:Hp}{s:Shared}
theorem WJ{A:Around}{E:Value->Shared->Prop}{Q:Value->Shared->Prop}{a C:Addr}{c:Value}{b:Bool}(I:Inv X pins σ H s)(ea:H a=some (CQ a (.ref C)))(L:ExcLook X.K C)(e:kitOne X.K (.ref C) c=some b)(h:∀tk,Q (.bool b) {s with toks:=tk}):
  wpAny (model X.prog X.w) A (call (.builtin "isinstance") [.ref a,c]) Q E s:=by
 obtain⟨p,_,_⟩:=(show ObjOk X.prog X.w H s.heap a (CQ a (.ref C))from I.hok a _ ea)
 exact kia_one (PX L) I.kIn p e (λz=>nomatch z) h
def YZ(y:V)(c:Value):Prop:=(∃T,y=.ty T/\c=.type T)\/∃D,y=.ref D/\c=.ref D
theorem KB{K:FZ}(hK:X.K=K:=by rfl):CallR X (.builtin "isinstance") (λxs H Q=>∃a y c C b,xs=[.ref a,y]/\YZ y c/\H a=some (CQ a (.ref C))/\ExcLook K C/\kitOne K (.ref C) c=some b/\Q (.bl b) H):=by
 subst hK
 intro pins s σ H xs us Q I r h
 obtain⟨a,y,c,C,b,rfl,hy,ea,L,e,q⟩:=h
 obtain⟨u,v,rfl,ru,rv⟩:=MU r
 cases ru
 have hc:v=c:=by
  rcases hy with⟨T,rfl,rfl⟩|⟨D,rfl,rfl⟩
  ·exact(show v=Value.type T from rv)
  ·exact(show v=Value.ref D from rv)
 subst hc
 exact WJ I ea L e λtk=>⟨.bl b,H,I.tok _,rfl,q⟩
variable{tg:Expr}
def PP(X:Cx)(e:Expr)(t:St->Hp->(Hp->Prop)->Prop):Prop:=
 ∀(pins:List (Addr×Obj)) (s:Shared) (σ:St) (H:Hp) (R:Hp->Prop),Inv X pins σ H s->t σ H R->
  wpAny (model X.prog X.w) X.A (eval e X.env) (λv s1=>∃y u H1,v=.str y u/\y.length<=1000000/\Inv X pins σ H1 s1/\R H1) X.xe s
def PJ(X:Cx)(es:List Expr)(t:St->Hp->(Hp->Prop)->Prop):Prop:=
 ∀(pins:List (Addr×Obj)) (s:Shared) (σ:St) (H:Hp) (acc:Str) (R:Hp->Prop) (Q:Str->Shared->Prop),Inv X pins σ H s->t σ H R->acc.length+es.length*1000000<=sizeLine->
  (∀H' out s',R H'->out.length<=sizeLine->Inv X pins σ H' s'->Q out s')->Joins (model X.prog X.w) X.A X.xe (evalEach es X.env) acc Q s
variable{e v1 v2:Expr}{es:List Expr}{te:TE}{tp t:St->Hp->(Hp->Prop)->Prop}{pos:Pos}
theorem WN:PJ X [] (λ_ H R=>R H):=by
 intro pins s σ H acc R Q I h hl hQ
 exact hQ H acc s h (by simpa using hl) I
theorem IL(hp:PP X e tp)(h:PJ X es t)(he:evalEach (e::es) X.env=eval e X.env::evalEach es X.env:=by rfl):PJ X (e::es) (fun σ H R=>tp σ H λH1=>t σ H1 R):=by
 intro pins s σ H acc R Q I hh hl hQ
 rw[he]
 refine thn (hp pins s σ H _ I hh) λv s1 ⟨y,u,H1,ev,hy,I1,q⟩=>⟨y,u,ev, ?_, ?_⟩
 ·rw[strLen_append];rw[length_cons]at hl;omega
 ·refine h pins s1 σ H1 _ R Q I1 q ?_ hQ
  rw[strLen_append];rw[length_cons]at hl;omega
theorem PC{z:Str}{j:_}(hz:z.length<=1000000):PP X (.Constant (.str z) j pos) (λ_ H R=>R H):=
 λ_ _ _ H _ I h=>Calls.Constant_str ⟨z,_,H,rfl,hz,I.tok _,h⟩
theorem WD(he:PE X e te):PP X (.FormattedValue e (-1) none pos) (fun σ H R=>te σ H λx H1=>∃i:Int,x=.int i/\i.natAbs.log2<1920/\(Str.ofString (toString i)).length<=1000000/\R H1):=by
 intro pins s σ H R I h
 refine wpAny_FormattedValue_plain (thn (he pins s σ H _ I h) λv s1 ⟨x,H1,I1,r1,i,ex,h1,h2,q⟩=> ?_)
 subst ex
 obtain⟨t,rfl⟩:=r1
 exact wpAny_formatField_int h1 ⟨_,_,H1,rfl,h2,I1.tok _,q⟩
def abZ(t:St->Hp->(Hp->Prop)->Prop):TE:=fun σ H Q=>t σ H λH'=>∀z:Str,z.length<=sizeLine->Q (.str z) H'
theorem SZ(h:PJ X (v1::v2::es) t)(hl:(v1::v2::es).length*1000000<=sizeLine:=by decide):PE X (.JoinedStr (v1::v2::es) pos) (abZ t):=by
 intro pins s σ H Q I hh
 refine wpAny_JoinedStr (h pins s σ H Str.empty _ _ I hh (by simpa [Str.length,Str.empty]using hl) λH' out s' q ho I'=>⟨ho,.str out,H',I'.tok _,⟨_,rfl⟩,q out ho⟩)
end
theorem FX:bootBuiltins "ValueError"=some (.type "ValueError"):=by decide +kernel
structure XCls (K:FZ) (mg:Str->Option Value) (x:Str) (C:Addr):Prop where
 q:excIn K C [.type "ValueError",.type "Exception",.type "BaseException",.type "object"] "ValueError.__new__"=true
 m:mg x=some (.ref C)
theorem XCls.look{K:FZ}{mg:Str->Option Value}{x:Str}{C:Addr}(c:XCls K mg x C)(ga:findIn K (.ref C) "__getattribute__"=some (some (.builtin "BaseException.__getattribute__")))(nga:findIn K (.ref C) "__getattr__"=some none)
  (cl:findIn K (.ref C) "__class__"=some (some (.builtin "object.__class__"))):ExcLook K C:=⟨⟨_,_,c.q,by decide,by decide⟩,ga,nga,cl⟩
section
variable{X:Cx}{K:FZ}
end
abbrev tx(l:List Nat):Str:=⟨l.toArray⟩
end L2
namespace PySem
end PySem
namespace L2
open PySem PySem.Spec PyProof.Rows
section
variable{X:Cx}
variable{o e f:Expr}{td:TE}{t:TA}{apos cpos:Pos}{K:FZ}{w:World}
variable{K:FZ}
theorem MK(ns:List Nat):∀j,j<=ns.length->preSum (λi=>((ns.getD i 0:Nat):Int)) j=(((ns.take j).sum:Nat):Int)
 |0,_=>by simp[preSum]
 |j+1,h=>by
  have ih:=MK ns j (by omega)
  have hj:j<ns.length:=by omega
  show preSum (λi=>((ns.getD i 0:Nat):Int)) j+((ns.getD j 0:Nat):Int)=_
  rw[ih,List.take_succ_eq_append_getElem hj,sum_append]
  simp[List.getD_eq_getElem?_getD,List.getElem?_eq_getElem hj]
theorem UT{ns:List Nat}{its:List Value}(r:Vals (ns.map λn=>V.int (n:Nat)) its){i:Nat}{v:Value}(e:its[i]? =some v):∃t,v=.int ((ns.getD i 0:Nat):Int) t:=by
 have hl:=r.length
 obtain⟨hi,_⟩:=List.getElem?_eq_some_iff.mp e
 have hb:i<ns.length:=by rw[length_map]at hl;omega
 have hx:(ns.map λn=>V.int (n:Nat))[i]? =some (V.int ((ns.getD i 0:Nat):Int)):=by simp[hb]
 obtain⟨u,e2,ru⟩:=r.get hx
 rw[e]at e2;cases e2
 exact ru
end
theorem Inv.turnedL{X:Cx}{pins:List (Addr×Obj)}{σ:St}{H:Hp}{s:Shared}{h':Heap}{t':Nat}{ch:List Addr}(I:Inv X pins σ H s)(k:∀b o,b∉ch->s.heap.get? b=some o->h'.get? b=some o)(hf:∀b∈ch,DJ X pins H b):
  Inv X pins σ H {s with heap:=h',toks:=t'}:=by
 have nit:∀b u,H b=some u->b∉ch:=λb u e z=>by rw[(hf b z).1]at e;cases e
 refine I.step (g':=s.gens) (d':=s.drawn) (ch:=ch) (λb hb=> ?_) (λb o _ _ hc e _=>k b o hc e) (λb o _ _ hc e _=>⟨o.slots,k b o hc e⟩) (λ_ _ _ _ n=>n)
  (λb o hc e=>⟨o,k b o hc e⟩) (λ_ _ e=>e) (λ_ _ _ e=>e) (λb ps e=>⟨#[],by rw[e];simp⟩) (λm hm=> ?_) (λb u e=> ?_) I.bare
 ·obtain⟨_,f1,_,f3,f4,f5⟩:=hf b hb
  exact⟨f3,f1,f4,f5⟩
 ·obtain⟨o,es,ep,ho,r⟩:=hm
  exact⟨o,es,ep,k _ o (λz=>(hf _ z).2.1 rfl) ho,r⟩
 ·refine(I.hok b u e).stay (λc v hc q=>k c v ?_ q) (λ_ q=>q) λ_ _ q=>q
  rcases hc with z|z
  ·rw[z];exact nit b u e
  ·exact nit c _ z
section
variable{X:Cx}{P:Program}{w:World}{K:FZ}{mg:Str->Option Value}{base:Heap}{A:Around}{CX:CXT}{E:XK}{x:Str}{p pos:Pos}{e:Expr}{es:List Expr}{tf:TE}{t:TA}
end
theorem CY:bootBuiltins "reversed"=some (.type "reversed"):=by decide +kernel
def Itv(K:FZ)(a:Addr)(n:Nat):It:=
 ⟨λi H=>∃xs x,SqL K H a xs/\xs.reverse[i]? =some x/\xs.length=n,λi H x H'=>H'=H/\∀xs,SqL K H a xs->xs.reverse[i]? =some x,λi _=>i=n⟩
theorem SN{P:Program}{w:World}{K:FZ}{tg:Expr}(a it:Addr)(n:Nat):Turn P w K tg (Itv K a n) [it] it (λi h=>h.IsRevIter it a ((n:Int) - 1 - (i:Int))) where
 mem:=by simp
 obj:=λi h st b hb=>by
  have e:b=it:=by simpa using hb
  subst e
  obtain⟨o,e,c,d⟩:=st
  exact⟨o,e,λv z=>by rw[d]at z;cases z⟩
 keep:=λi h h' st k=>st.at λo e=>k it (by simp) o e
 item:=by
  intro X hP hw hK hc i pins s σ H E I hf st hg
  subst hP hw hK
  obtain⟨xs,x,hq,hx,hn⟩:=hg
  obtain⟨its,rv,p,hz⟩:=I.list hq
  have hlt:i<xs.length:=by
   have:=(List.getElem?_eq_some_iff.mp hx).1
   simpa using this
  rw[getElem?_reverse hlt]at hx
  obtain⟨u,hu,ru⟩:=rv.get hx
  obtain⟨f0,f1,f2,f3,f4,f5⟩:=hf it (by simp)
  have e1:(n:Int) - 1 - (i:Int)=((xs.length - 1 - i:Nat):Int):=by omega
  have st1:=st
  rw[e1]at st1
  refine wpAny_pyNext_rev_item st1 p.isList (x:=u) (by simpa using hu) λh' st' sb=> ?_
  have I1:Inv X pins σ H {s with heap:=h'}:=I.turned (t':=s.toks) (λb o hb e=>(sb.2 b hb).trans e) f0 f1 f3 f4 f5
  have e2:((xs.length - 1 - i:Nat):Int) - 1=(n:Int) - 1 - ((i+1:Nat):Int):=by omega
  rw[e2]at st'
  obtain⟨o,e,c,d⟩:=id st'
  exact⟨u,rfl,MW (s:={s with heap:=h'}) e c d (by decide) ⟨x,H,I1,ru,⟨rfl,λys hy=>by rw[I.list_inj hy hq,getElem?_reverse hlt];exact hx⟩,st',λb hb=>(hf b hb).1⟩⟩
 done:=by
  intro X hP hw hK hc i pins s σ H E I hf st hg
  subst hP hw hK
  obtain⟨f0,f1,f2,f3,f4,f5⟩:=hf it (by simp)
  have hi:i=n:=hg
  have e1:(n:Int) - 1 - (i:Int)= -1:=by omega
  rw[e1]at st
  exact wpAny_pyNext_rev_end (I.ok.hd hc) st λh' eb=>⟨rfl,I.turned (t':=s.toks) (λb o hb e=>eb b o hb e) f0 f1 f3 f4 f5⟩
 self:=λ_ _ _ _ _ st h=>wpAny_pyIter_revIter st h
section
variable{X:Cx}{tg:Expr}{K:FZ}
def aOZ(K:FZ)(ta:TA):TI:=fun σ H R=>ta σ H λvs H1=>∃a xs,vs=[.ref a]/\SqL K H1 a xs/\R (Itv K a xs.length) H1
theorem XU{a:Expr}{ta:TA}{p pos:Pos}(hg:Gl X "reversed")(hm:X.mg "reversed"=none)(ha:PA X [a] ta)(hK:X.K=K:=by rfl)(hs:starEach [a] X.env=[(false,eval a X.env)]:=by rfl):PI X tg (.Call (.Name "reversed" p) [a] [] pos) (aOZ K ta):=by
 subst hK
 intro pins s σ H R I h
 refine Call_ (U0 I hg hm CY (callWith_type1 (thn (ha pos pins s σ H _ I h) λus s1 ⟨vs,H1,I1,r1,q1⟩=> ?_) hs rfl))
 obtain⟨l,xs,e,hq,q⟩:=q1
 subst e
 cases r1 with
 |cons r rr=>
  cases rr
  cases r
  obtain⟨its,rv,pl,hz⟩:=I1.list hq
  have hl:its.toArray.size=xs.length:=by rw[size_toArray];exact rv.length.symm
  refine call_reversed_list pl.isList ?_
  have st:(s1.heap.push (revObj l ((its.toArray.size:Int) - 1))).IsRevIter s1.heap.objs.size l ((xs.length:Int) - 1 - ((0:Nat):Int)):=⟨_,get?_push_size _ rfl,rfl,by rw[hl];simp[revObj]⟩
  refine wpAny_pyIter_revIter st ?_
  refine⟨s1.heap.objs.size,[s1.heap.objs.size],_,_,H1,rfl,I1.kept (t':=s1.toks) λb o e=>gZ _ e,SN l _ xs.length,st,λb hb=> ?_,q⟩
  have e:b=s1.heap.objs.size:=by simpa using hb
  subst e
  exact I1.fpOk (le_refl _) (I1.hok.fresh (le_refl _))
end
theorem TZ{K:FZ}{a:Addr}{xs:List V}{g:TG}{tb:TS}{D:Ends}{σ:St}{H:Hp}(Pv:Nat->St->Hp->Prop)(h0:Pv 0 σ H)(hl:∀i σ H,i<=xs.length->Pv i σ H->SqL K H a xs)
  (hs:∀i x σ H,xs.reverse[i]? =some x->Pv i σ H->g x σ H fun σ2 H2=>tb {D with nx:=Pv (i+1),ct:=Pv (i+1),bk:=D.nx} σ2 H2)(hd:∀σ H,Pv xs.length σ H->D.nx σ H):
  ∃W:Nat->Nat->St->Hp->Prop,(∃m,W 0 m σ H)/\∀i m σ H,W i m σ H->
   ((Itv K a xs.length).stop i H/\D.nx σ H)\/((Itv K a xs.length).go i H/\∃N:St->Hp->Prop,(∀σ' H',N σ' H'->∃m',m'<m/\W (i+1) m' σ' H')/\∀x H',(Itv K a xs.length).yld i H x H'->g x σ H' fun σ2 H2=>tb {D with nx:=N,ct:=N,bk:=D.nx} σ2 H2):=by
 refine⟨λi m σ H=>m=xs.length - i/\i<=xs.length/\Pv i σ H,⟨xs.length,by simp,zero_le _,h0⟩, ?_⟩
 rintro i m σ H ⟨rfl,hi,p⟩
 have q:=hl i σ H hi p
 by_cases hlt:i<xs.length
 ·have hlt':i<xs.reverse.length:=by rw[length_reverse];exact hlt
  refine .inr ⟨⟨xs,xs.reverse[i],q,List.getElem?_eq_getElem hlt',rfl⟩,Pv (i+1),fun σ' H' p'=>⟨xs.length - (i+1),by omega,rfl,hlt,p'⟩,λx H' y=> ?_⟩
  obtain⟨e,y⟩:=y
  subst e
  exact hs i x σ _ (y xs q) p
 ·have e:i=xs.length:=by omega
  subst e
  exact .inl ⟨rfl,hd σ H p⟩
end L2
namespace PySem
namespace F
theorem nolen_lri:typeLookup (.type "list_reverseiterator") "__len__"=pure none:=by rw[typeLookup_type,builtinLookup_eq_fast];kernel_rfl
theorem hint_lri:typeLookup (.type "list_reverseiterator") "__length_hint__"=pure (some (.builtin "list_reverseiterator.__length_hint__")):=by rw[typeLookup_type,builtinLookup_eq_fast];kernel_rfl
end F
section
variable{prog:Program}{w:World}{A:Around}{E:Value->Shared->Prop}{s:Shared}
abbrev Z2(items:Array Value):Nat->Value->Prop:=λi v=>items[items.size - 1 - i]? =some v
theorem CT{R:Result->Shared->Prop}(hh:A.handled=none){I l:Addr}{items:Array Value}(hit:s.heap.IsRevIter I l ((items.size:Int) - 1))(hl:s.heap.IsList l items)(hne:l≠I)(S:Addr)(res:Value)(c₀:Nat)
  (hS:s.heap.get? S=some {cls:=.type "list",data:=.seq #[] c₀})(hSI:S≠I)(hSl:S≠l)
  (hR:∀h' tk acc' c',(∀b o,b≠S->b≠I->s.heap.get? b=some o->h'.get? b=some o)->h'.get? S=some {cls:=.type "list",dict:=none,data:=.seq acc' c',slots:= #[]}->
   ItemsOf (Z2 items) acc' items.size->R (.ok (.ret res)) {s with heap:=h',toks:=tk})(hn:items.size<=sizeLine):
  wpAny (model prog w) A.in1 (Builtin.List.listExtendWith (.ref S) (.ref I) res)
   (λfin s'=>match fin with| .done f=>R (.ok f) s'| .again c'=>c'.quiet=true/\codeAny (model prog w) A c' R s') (λe s'=>R (.error e) s') s:=by
 have hSf:S∉ [I,l]:=λhm=>by
  rcases cZ hm with e|hm
  ·exact hSI e
  ·exact hSl (sZ hm)
 have W:=(Walks.listRev (prog:=prog) (w:=w) (A:=A.in1) hh I l hne items).toS
 have hit0:s.heap.IsRevIter I l ((items.size:Int) - 1 - ((0:Nat):Int)):=by
  have e:(items.size:Int) - 1 - ((0:Nat):Int)=(items.size:Int) - 1:=by omega
  rw[e];exact hit
 unfold Builtin.List.listExtendWith
 refine bZ (wpAny_typeOf (T:="list_reverseiterator") hit.typeIs ?_)
 have h1:Builtin.List.listSameRef (.ref S) (.ref I)=false:=by simp[Builtin.List.listSameRef,hSI]
 have h2:(Value.type "list_reverseiterator"==Value.type "list")=false:=by decide
 have h3:(Value.type "list_reverseiterator"==Value.type "tuple")=false:=by decide
 simp only[h1,h2,h3,Bool.or_false,Bool.false_eq_true,if_false]
 refine bZ (wpAny_pyIter_revIter hit ?_)
 refine bZ (wpAny_holding ?_)
 unfold Builtin.List.listLengthHint
 refine bZ (wpAny_specialOf hit.typeIs F.nolen_lri ?_)
 show wpAny _ A.in1 (specialOf (Value.ref I) (Str.ofString "__length_hint__")>>=_) _ _ _
 refine bZ (wpAny_specialOf hit.typeIs F.hint_lri ?_)
 generalize hid:("list_reverseiterator.__length_hint__":String)=id0
 wp_delta
 rw[show splitId id0=some ("list_reverseiterator","__length_hint__")from by subst hid;decide +kernel]
 subst hid
 refine bZ (wpAny_isInstance (b:=true) hit.typeIs (by rw[isSubtype_type];kernel_rfl) ?_)
 refine pZ ?_
 rw[if_neg (by decide)]
 refine pZ ⟨plainId_quiet F.plain_extend_loop _,codeAny_extend_loopS W hn _ hSf _ items.size 0 _ _ _ rfl (zero_le _) ⟨zero_le _,hit0,hl⟩ hS (ItemsOf.nil _) λs' acc' c' hm hS' hacc=> ?_⟩
 rw[Moved.eq_with hm]
 refine hR s'.heap s'.toks acc' c' (λb ob hb hb2 e=>hm.heap b ob (λhmem=> ?_) e) hS' hacc
 rcases cZ hmem with e'|hmem
 ·exact hb e'
 ·exact hb2 (sZ hmem)
theorem AM{R:Result->Shared->Prop}(hh:A.handled=none){I l:Addr}{items:Array Value}(hit:s.heap.IsRevIter I l ((items.size:Int) - 1))(hl:s.heap.IsList l items)(hne:l≠I)(S:Addr)(hSI:S≠I)(hSl:S≠l)
  (hS:s.heap.get? S=some {cls:=.type "list",data:=.seq #[]})
  (hR:∀h' tk acc' c',(∀b o,b≠S->b≠I->s.heap.get? b=some o->h'.get? b=some o)->h'.get? S=some {cls:=.type "list",dict:=none,data:=.seq acc' c',slots:= #[]}->
   ItemsOf (Z2 items) acc' items.size->R (.ok (.ret .none)) {s with heap:=h',toks:=tk})(hn:items.size<=sizeLine):
  wpAny (model prog w) A.in1 (Builtin.«list.__init__» ⟨[.ref S,.ref I],[]⟩)
   (λfin s'=>match fin with| .done f=>R (.ok f) s'| .again c'=>c'.quiet=true/\codeAny (model prog w) A c' R s') (λe s'=>R (.error e) s') s:=by
 show wpAny _ _ (do let old<-Builtin.List.listItems (.ref S);Builtin.List.listUpdate (.ref S) (λ_=> #[]);letGo old.toList.reverse;Builtin.List.listExtendWith (.ref S) (.ref I) .none) _ _ s
 refine bZ ?_
 unfold Builtin.List.listItems
 refine bZ (wpAny_seqItems hS rfl (pZ ?_))
 show wpAny _ _ (updateSeq S (λ_=> #[])>>=λ_=>letGo (#[]:Array Value).toList.reverse>>=λ_=>Builtin.List.listExtendWith (.ref S) (.ref I) .none) _ _ s
 refine bZ (wpAny_updateSeq hS rfl ?_)
 have hS₂:=Heap.get?_update_self (Obj.mapSeq (λ_=>(#[]:Array Value))) hS rfl
 have oth:∀b o,b≠S->s.heap.get? b=some o->(s.heap.update S (Obj.mapSeq (λ_=>(#[]:Array Value)))).get? b=some o:=
  λb o hb e=>(Heap.get?_update_other _ _ (Ne.symm hb)).trans e
 refine bZ (wpAny_letGo ?_)
 refine CT hh (hit.at λo e=>oth I o (Ne.symm hSI) e) (hl.at λo e=>oth l o (Ne.symm hSl) e) hne S .none _ hS₂ hSI hSl (λh' tk acc' c' hk hS' hacc=> ?_) hn
 exact hR h' tk acc' c' (λb o hb hb2 e=>hk b o hb hb2 (oth b o hb e)) hS' hacc
theorem FT{Q:Value->Shared->Prop}(hh:A.handled=none){I l:Addr}{items:Array Value}(hit:s.heap.IsRevIter I l ((items.size:Int) - 1))(hl:s.heap.IsList l items)(hne:l≠I)
  (hQ:∀h' tk acc' c',(∀b o,b≠I->s.heap.get? b=some o->h'.get? b=some o)->
   h'.get? s.heap.objs.size=some {cls:=.type "list",dict:=none,data:=.seq acc' c',slots:= #[]}->ItemsOf (Z2 items) acc' items.size->Q (.ref s.heap.objs.size) {s with heap:=h',toks:=tk})(hn:items.size<=sizeLine):
  wpAny (model prog w) A (call (.type "list") [.ref I]) Q E s:=by
 have ltI:I<s.heap.objs.size:=let⟨o,e,_⟩:=hit;lt_size e
 have ltl:l<s.heap.objs.size:=let⟨o,e,_⟩:=hl;lt_size e
 refine callType_codes (Q₁:=λobj s₁=>obj=.ref s.heap.objs.size/\s₁={s with heap:=s.heap.push {cls:=.type "list",data:=.seq #[]}}) F.called_list (F.typeCall_list_1 _) F.entry_list_init
  (code_list_new _ ⟨rfl,rfl⟩) λobj s₁ h₁=> ?_
 obtain⟨rfl,rfl⟩:=h₁
 have hS:(s.heap.push {cls:=.type "list",data:=.seq #[]}).get? s.heap.objs.size=some {cls:=.type "list",data:=.seq #[]}:=get?_push_size _ rfl
 refine⟨⟨_,hS,rfl⟩,F.args_list_init_2 _ _,AM (A:=A.in1) hh (hit.at λo e=>gZ _ e) (hl.at λo e=>gZ _ e) hne _ (ne_of_gt ltI) (ne_of_gt ltl) hS (λh' tk acc' c' hk hS' hacc=> ?_) hn⟩
 exact⟨rfl,hQ h' tk acc' c' (λb o hb e=>hk b o (ne_of_lt (lt_size e)) hb (gZ _ e)) hS' hacc⟩
theorem NV{its:List Value}{acc:Array Value}(h:ItemsOf (Z2 its.toArray) acc its.toArray.size):acc=its.reverse.toArray:=by
 obtain⟨h1,h2⟩:=h
 refine Array.ext (by simpa using h1) λi hi hi2=> ?_
 have e:=h2 i acc[i] (Array.getElem?_eq_getElem hi)
 have e':its[its.length - 1 - i]? =some acc[i]:=by simpa [Z2]using e
 have hlt:i<its.length:=by simpa using hi2
 have e2:its.reverse[i]? =some acc[i]:=by rw[getElem?_reverse hlt];exact e'
 have e3:its.reverse.toArray[i]? =some acc[i]:=by simpa using e2
 rw[Array.getElem?_eq_getElem hi2]at e3
 exact(Option.some.inj e3).symm
end
end PySem
namespace L2
open PySem PySem.Spec PyProof.Rows
theorem Vals.rev{vs:List V}{us:List Value}(h:Vals vs us):Vals vs.reverse us.reverse:=by
 induction h with
 |nil=>exact .nil
 |cons r _ ih=>rw[reverse_cons,reverse_cons];exact ih.append (.cons r .nil)
section
variable{X:Cx}{K:FZ}
def RL(K:FZ)(ta:TA):TE:=fun σ H Q=>ta σ H λvs H1=>∃a xs,vs=[.ref a]/\SqL K H1 a xs/\∀r,H1 r=none->Q (.ref r) (upd H1 r (.lst xs.reverse))
theorem LF{a:Expr}{ta:TA}{p p' pos pos':Pos}(hg:Gl X "reversed")(hm:X.mg "reversed"=none)(hg':Gl X "list")(hm':X.mg "list"=none)(hc:X.calm=true)(ha:PA X [a] ta)(hK:X.K=K:=by rfl)(hs:starEach [a] X.env=[(false,eval a X.env)]:=by rfl)
  (hs':starEach [.Call (.Name "reversed" p) [a] [] pos] X.env=[(false,eval (.Call (.Name "reversed" p) [a] [] pos) X.env)]:=by rfl):
  PE X (.Call (.Name "list" p') [.Call (.Name "reversed" p) [a] [] pos] [] pos') (RL K ta):=by
 subst hK
 intro pins s σ H Q I h
 refine wpAny_Call_Name_kw (U0 I hg' hm' MV ?_)
 refine callWith_type1 ?_ hs' rfl
 rw[hs']
 refine Calls.spliced_cons (Call_ (U0 I hg hm CY (callWith_type1 (thn (ha pos pins s σ H _ I h) λus s1 ⟨vs,H1,I1,r1,q1⟩=> ?_) hs rfl)))
 obtain⟨l,xs,e,hq,q⟩:=q1
 subst e
 cases r1 with
 |cons r rr=>
  cases rr
  cases r
  obtain⟨its,rv,pl,hz⟩:=I1.list hq
  refine call_reversed_list pl.isList ?_
  refine Calls.spliced_nil ?_
  have st:(s1.heap.push (revObj l ((its.toArray.size:Int) - 1))).IsRevIter s1.heap.objs.size l ((its.toArray.size:Int) - 1):=⟨_,get?_push_size _ rfl,rfl,rfl⟩
  have ltl:l<s1.heap.objs.size:=let⟨o,e,_⟩:=pl.isList;lt_size e
  have hlen:=rv.length
  refine FT (I1.ok.hd hc) st (pl.isList.at λo e=>gZ _ e) (ne_of_lt ltl) (λh' tk acc c hk hS hacc=> ?_) (by rw[size_toArray,<-hlen];exact hz)
  rw[NV hacc]at hS
  have ns:(s1.heap.push (revObj l ((its.toArray.size:Int) - 1))).objs.size=s1.heap.objs.size+1:=size_push ..
  rw[ns]at hS⊢
  have kp:∀b o,s1.heap.get? b=some o->h'.get? b=some o:=λb o e=>hk b o (ne_of_lt (lt_size e)) (gZ _ e)
  exact⟨.ref (s1.heap.objs.size+1),_,I1.laid (t':=tk) kp (le_succ _) (show ObjOk X.prog X.w _ h' _ (.lst xs.reverse)from⟨by rw[length_reverse];exact hz,its.reverse,c,rv.rev,hS⟩),rfl,q _ (I1.hok.fresh (le_succ _))⟩
end
theorem PM:bootBuiltins "zip"=some (.type "zip"):=by decide +kernel
def Itz(K:FZ)(l1 l2:Addr):It:=
 ⟨λi H=>∃xs ys x y,SqL K H l1 xs/\SqL K H l2 ys/\xs[i]? =some x/\ys[i]? =some y,
  λi H v H'=>∃T x y,(∀xs ys,SqL K H l1 xs->SqL K H l2 ys->xs[i]? =some x/\ys[i]? =some y)/\H T=none/\v=.ref T/\H'=upd H T (.tup [x,y]),
  λi H=>∃xs ys,SqL K H l1 xs/\SqL K H l2 ys/\(xs.length<=i\/ys.length<=i)⟩
def ZE(z TI TO i1 i2 l1 l2:Addr)(i:Nat)(h:Heap):Prop:=IsZip h z TI TO .none/\IsPair h TI (.ref i1) (.ref i2)/\(∃a b,IsPair h TO a b)/\h.IsListIter i1 l1 i/\h.IsListIter i2 l2 i
theorem RX{P:Program}{w:World}{K:FZ}{elts:List Expr}{kt:Nat}{pt:Pos}{z TI TO i1 i2 l1 l2:Addr}(D:ZipApart z TI TO i1 i2 l1 l2):
  Turn P w K (.Tuple elts kt pt) (Itz K l1 l2) [z,TI,TO,i1,i2] z (ZE z TI TO i1 i2 l1 l2) where
 mem:=by simp
 obj:=λi h st b hb=>by
  obtain⟨hz,hTI,⟨a,b',hTO⟩,h1,h2⟩:=st
  simp only[mem_cons,not_mem_nil,or_false]at hb
  rcases hb with rfl|rfl|rfl|rfl|rfl
  ·exact⟨_,hz,λv q=>by cases q⟩
  ·exact⟨_,hTI,λv q=>by cases q⟩
  ·exact⟨_,hTO,λv q=>by cases q⟩
  ·obtain⟨o,e,c,d⟩:=h1
   exact⟨o,e,λv q=>by rw[d]at q;cases q⟩
  ·obtain⟨o,e,c,d⟩:=h2
   exact⟨o,e,λv q=>by rw[d]at q;cases q⟩
 keep:=λi h h' st k=>by
  obtain⟨hz,hTI,⟨a,b',hTO⟩,h1,h2⟩:=st
  exact⟨k z (by simp) _ hz,k TI (by simp) _ hTI,⟨a,b',k TO (by simp) _ hTO⟩,h1.at λo e=>k i1 (by simp) o e,h2.at λo e=>k i2 (by simp) o e⟩
 item:=by
  intro X hP hw hK hc i pins s σ H E I hf st hg
  subst hP hw hK
  obtain⟨xs,ys,x,y,q1,q2,hx,hy⟩:=hg
  obtain⟨hz,hTI,⟨a,b,hTO⟩,h1,h2⟩:=st
  obtain⟨its,rv,p,hsz⟩:=I.list q1
  obtain⟨its2,rv2,p2,hsz2⟩:=I.list q2
  obtain⟨u,hu,ru⟩:=rv.get hx
  obtain⟨u2,hu2,ru2⟩:=rv2.get hy
  refine wpAny_pyNext_zip_item D hz hTI hTO h1 h2 p.isList p2.isList (x:=u) (y:=u2) (by simpa using hu) (by simpa using hu2) λh' a1 a2 a3 a4 a5 a6 hk=> ?_
  have hT0:H s.heap.objs.size=none:=I.hok.fresh (le_refl _)
  have J1:Inv X pins σ (upd H s.heap.objs.size (.tup [x,y])) {s with heap:=s.heap.push {cls:=.type "tuple",data:=.seq #[u,u2]}}:=
   I.laid (t':=s.toks) (λb o e=>gZ _ e) (le_refl _) (show ObjOk X.prog X.w _ _ _ (.tup [x,y])from⟨(by show 2<=sizeLine;decide),[u,u2],.cons ru (.cons ru2 .nil),IsTup.new _ _⟩)
  have lt:∀b∈ [z,TI,TO,i1,i2],b≠s.heap.objs.size:=λb hb=>by
   simp only[mem_cons,not_mem_nil,or_false]at hb
   rcases hb with rfl|rfl|rfl|rfl|rfl
   ·exact ne_of_lt (lt_size hz)
   ·exact ne_of_lt (lt_size hTI)
   ·exact ne_of_lt (lt_size hTO)
   ·obtain⟨o,e,_⟩:=h1;exact ne_of_lt (lt_size e)
   ·obtain⟨o,e,_⟩:=h2;exact ne_of_lt (lt_size e)
  have hf2:∀b∈ [z,TI,TO,i1,i2],DJ X pins (upd H s.heap.objs.size (.tup [x,y])) b:=λb hb=>⟨by rw[B1 (lt b hb)];exact(hf b hb).1,(hf b hb).2⟩
  have J2:Inv X pins σ (upd H s.heap.objs.size (.tup [x,y])) {s with heap:=h'}:=Inv.turnedL (s:={s with heap:=s.heap.push {cls:=.type "tuple",data:=.seq #[u,u2]}}) (t':=s.toks) (h':=h') (ch:=[z,TI,TO,i1,i2]) J1 (λb o hb e=>by
   rcases Heap.get?_push_cases e with⟨rfl,rfl⟩|e'
   ·exact a5
   ·simp only[mem_cons,not_mem_nil,or_false,not_or]at hb
    exact hk b o hb.1 hb.2.2.1 hb.2.2.2.1 hb.2.2.2.2 e') hf2
  refine⟨.ref s.heap.objs.size,rfl, ?_⟩
  refine wpAny_letOwnedTupleGo_zip (s:={s with heap:=h'}) a1 λh2' hz' hs'=> ?_
  obtain⟨g0,g1,g2,g3,g4,g5⟩:=hf2 z (by simp)
  refine⟨.ref s.heap.objs.size,_,J2.turned (t':=s.toks) (λb o hb e=>(hs'.2 b hb).trans e) g0 g1 g3 g4 g5,rfl,⟨s.heap.objs.size,x,y,λxs' ys' e1 e2=> ?_,hT0,rfl,rfl⟩, ?_,λb hb=>(hf2 b hb).1⟩
  ·rw[I.list_inj e1 q1,I.list_inj e2 q2]
   exact⟨hx,hy⟩
  ·exact⟨hz',hs'.extBut _ _ D.TIz (hk _ _ D.TIz D.TITO D.TIi1 D.TIi2 hTI),⟨_,_,hs'.extBut _ _ D.TOz a2⟩,a3.extBut hs'.extBut D.i1z,a4.extBut hs'.extBut D.i2z⟩
 done:=by
  intro X hP hw hK hc i pins s σ H E I hf st hg
  subst hP hw hK
  obtain⟨xs,ys,q1,q2,hend⟩:=hg
  obtain⟨hz,hTI,⟨a,b,hTO⟩,h1,h2⟩:=st
  obtain⟨its,rv,p,hsz⟩:=I.list q1
  obtain⟨its2,rv2,p2,hsz2⟩:=I.list q2
  have l1e:=rv.length
  have l2e:=rv2.length
  refine wpAny_pyNext_zip_end (I.ok.hd hc) D hz hTI hTO h1 h2 p.isList p2.isList (by
   rcases hend with h|h
   ·exact .inl (by simp;omega)
   ·exact .inr (by simp;omega)) λh' hk=>⟨rfl,I.turnedL (t':=s.toks) (ch:=[z,TI,TO,i1,i2]) (λb o hb e=> ?_) hf⟩
  simp only[mem_cons,not_mem_nil,or_false,not_or]at hb
  exact hk b o hb.1 hb.2.2.1 hb.2.2.2.1 hb.2.2.2.2 e
 self:=λ_ _ _ _ _ st h=>wpAny_pyIter_zip st.1 h
section
variable{X:Cx}{K:FZ}{elts:List Expr}{kt:Nat}{pt:Pos}
def aGZ(K:FZ)(ta:TA):TI:=fun σ H R=>ta σ H λvs H1=>∃a b xs ys,vs=[.ref a,.ref b]/\SqL K H1 a xs/\SqL K H1 b ys/\R (Itz K a b) H1
theorem XL{a b:Expr}{ta:TA}{p pos:Pos}(hg:Gl X "zip")(hm:X.mg "zip"=none)(ha:PA X [a,b] ta)(hK:X.K=K:=by rfl)(hs:starEach [a,b] X.env=[(false,eval a X.env),(false,eval b X.env)]:=by rfl)(hs2:starEach [b] X.env=[(false,eval b X.env)]:=by rfl):
  PI X (.Tuple elts kt pt) (.Call (.Name "zip" p) [a,b] [] pos) (aGZ K ta):=by
 subst hK
 intro pins s σ H R I h
 refine Call_ (U0 I hg hm PM (callWith_type1 (thn (ha pos pins s σ H _ I h) λus s1 ⟨vs,H1,I1,r1,q1⟩=> ?_) (by rw[hs,hs2]) (by rw[hs2];rfl)))
 obtain⟨l1,l2,xs,ys,e,q1,q2,q⟩:=q1
 subst e
 cases r1 with
 |cons r rr=>
  cases rr with
  |cons r' rr=>
   cases rr
   cases r
   cases r'
   obtain⟨its,rv,pl,hz⟩:=I1.list q1
   obtain⟨its2,rv2,pl2,hz2⟩:=I1.list q2
   have lt1:l1<s1.heap.objs.size:=let⟨o,e,_⟩:=pl.isList;lt_size e
   have lt2:l2<s1.heap.objs.size:=let⟨o,e,_⟩:=pl2.isList;lt_size e
   refine call_zip_2 pl.isList pl2.isList λh' a1 a2 a3 a4 a5 a6 hk=> ?_
   refine wpAny_pyIter_zip a1 ?_
   refine⟨s1.heap.objs.size+4,[s1.heap.objs.size+4,s1.heap.objs.size+2,s1.heap.objs.size+3,s1.heap.objs.size,s1.heap.objs.size+1],_,_,H1,rfl,I1.kept (t':=s1.toks) hk,RX (zipApart_new lt1 lt2),⟨a1,a2,⟨_,_,a3⟩,a4,a5⟩,λb hb=> ?_,q⟩
   have hle:s1.heap.objs.size<=b:=by
    simp only[mem_cons,not_mem_nil,or_false]at hb
    rcases hb with rfl|rfl|rfl|rfl|rfl
    ·exact le_add_right _ _
    ·exact le_add_right _ _
    ·exact le_add_right _ _
    ·exact le_refl _
    ·exact le_add_right _ _
   exact I1.fpOk hle (I1.hok.fresh hle)
end
theorem HP{prog:Program}{w:World}{A:Around}{R:Result->Shared->Prop}{s:Shared}{elt target iter:Expr}{ifs:List Expr}{scope:Scope}{pos:Pos}{it acc:Value}{env:Env}(I:Nat->Shared->Prop)
  (turn:∀n s,I n s->wpAny (model prog w) A (pyNext it) (λr s₁=>match r with
   |none=>R (.ok .next) s₁
   |some v=>wpAny (model prog w) A (letOwnedTupleGo target it v) (λ_ s₀=>wpAny (model prog w) A (assign target env v) (λ_ s₂=>
     wpAny (model prog w) A (forIn ifs true λc r=>if r=true then do let ok<-isTrue c env (eval c env);pure (ForInStep.yield ok)else pure (ForInStep.yield r)) (λok s₃=>
      if ok=true then wpAny (model prog w) A (eval elt env) (λx s₄=>
       wpAny (model prog w) A (call (.builtin "list.append") [acc,x]) (λ_ s₅=>∃m,m<n/\I m s₅) (notedBy (model prog w) A env λe s'=>R (.error e) s') s₄) (notedBy (model prog w) A env λe s'=>R (.error e) s') s₃
      else∃m,m<n/\I m s₃) (notedBy (model prog w) A env λe s'=>R (.error e) s') s₂) (notedBy (model prog w) A env λe s'=>R (.error e) s') s₀) (notedBy (model prog w) A env λe s'=>R (.error e) s') s₁)
   (notedBy (model prog w) A env λe s'=>R (.error e) s') s)
  (n:Nat)(h:I n s):codeAny (model prog w) A (.compLoop (.ListComp elt [⟨target,iter,ifs,0⟩] scope pos) 0 it acc env) R s:=by
 refine codeAny_loop rfl I (λn s hI=> ?_) n h
 show wpAny _ A ((compTurn (.ListComp elt [⟨target,iter,ifs,0⟩] scope pos) 0 it acc env).onRaise (λx=>do noteFrame x env;theTreesLotGoes x)) _ _ s
 refine wpAny_noted ?_
 rw[compTurn_list]
 refine bZ (wpAny_standAt (bZ (thn (turn n s hI) λr s₁ h₁=> ?_)))
 cases r with
 |none=>exact pZ h₁
 |some v=>
  refine bZ (thn h₁ λ_ s₀ h₀=>bZ (thn h₀ λ_ s₂ h₂=>bZ (thn h₂ λok s₃ h₃=> ?_)))
  cases ok with
  |false=>exact pZ ⟨rfl,h₃⟩
  |true=>exact bZ (bZ (thn h₃ λx s₄ h₄=>bZ (thn h₄ λ_ s₅ h₅=>pZ (pZ ⟨rfl,h₅⟩))))
structure CompScope2 (N:List Str) (sc scope:Scope) (x1 x2:Str) (caps:List Nat) (ns:List Str):Prop where
 cell:∀y∈scope.names,y.2≠ .cell
 kind:scope.kind=.function
 names:∀y∈scope.names,y.2=.local->scope.names.lookup y.1=some .local
 var1:scope.names.lookup x1=some .local
 var2:scope.names.lookup x2=some .local
 free:∀y∈scope.names,y.2=.free->sc.names.lookup y.1=some .cell\/sc.names.lookup y.1=some .free
 at_:caps.map (λj=>N[j]?)=ns.map some
 nsf:∀y∈ns,scope.names.lookup y=some .free
 nd:(x1::x2::ns).Nodup
def capσ2(caps:List Nat)(σ:St)(u v:Option V):St:=u::v::caps.map λj=>(σ[j]?).getD none
def MO(K:FZ)(wi:TI)(caps:List Nat)(tt:TT)(te:TE)(σ:St)(H:Hp)(R:List V->Hp->Prop):Prop:=wi σ H λJ H1=>∃W:Nat->Nat->List V->Hp->Prop,(∃m,W 0 m [] H1)/\∀i m ys H,W i m ys H->
 ys.length<=sizeLine/\((J.stop i H/\R ys H)\/(J.go i H/\∃N:List V->Hp->Prop,(∀ys' H',N ys' H'->∃m',m'<m/\W (i+1) m' ys' H')/\∀v H',J.yld i H v H'->∃a v1 v2,v=.ref a/\SqT K H' a [v1,v2]/\
  tt (capσ2 caps σ (some v1) (some v2)) H' λb H2=>if b=true then te (capσ2 caps σ (some v1) (some v2)) H2 λy H3=>N (ys++ [y]) H3 else N ys H2))
def XT(K:FZ)(wi:TI)(caps:List Nat)(tt:TT)(te:TE):TE:=fun σ H Q=>MO K wi caps tt te σ H λys H1=>∀D,H1 D=none->Q (.ref D) (upd H1 D (.lst ys))
section
variable{X:Cx}
set_option maxHeartbeats 4000000 in
theorem LP{x1 x2:Str}{px1 px2 ptu:Pos}{ktu:Nat}{iter elt:Expr}{ifs:List Expr}{scope:Scope}{pos pos':Pos}{wi:TI}{tt:TT}{te:TE}{caps:List Nat}{ns:List Str}{use:Option (Value->Sem Unit)}{Q:Value->Shared->Prop}
  {pins:List (Addr×Obj)}{s:Shared}{σ:St}{H:Hp}{R:List V->Hp->Prop}
  (CS:CompScope2 X.N X.env.scope scope x1 x2 caps ns)(hc:X.calm=true)(hi:PI X (.Tuple [.Name x1 px1,.Name x2 px2] ktu ptu) iter wi)
  (ht:∀cl C s H fp,PTs (X.comp (x1::x2::ns) scope cl C s H fp) ifs tt)(he:∀cl C s H fp,PE (X.comp (x1::x2::ns) scope cl C s H fp) elt te)
  (hs:∀v,foldedSetIterable iter X.env v=pure v)
  (I:Inv X pins σ H s)(h:MO X.K wi caps tt te σ H R)
  (hend:∀D C s' H' ys,Inv X pins σ (upd H' D (.lst ys)) s'->H' D=none->R ys H'->(∃m,s'.heap.Ns C m)->(upd H' D (.lst ys)) C=none->C≠X.env.locals->X.s₀.heap.objs.size<=C->(∀y c,X.env.cells.lookup y=some c->c≠C)->(∀p∈X.pn++pins,p.1≠C)->
   compPost (model X.prog X.w) X.A X.xe use Q (.ref D) C (.ok .next) s'):
  wpAny (model X.prog X.w) X.A (comprehension (.ListComp elt [⟨.Tuple [.Name x1 px1,.Name x2 px2] ktu ptu,iter,ifs,0⟩] scope pos) scope X.env pos' (newList []) false (eval iter X.env) use) Q X.xe s:=by
 have hcells:∀y∈scope.names,y.2=.free->∃c,X.env.cells.lookup y.1=some c:=λy hy hf=>I.ok.has y.1 (CS.free y hy hf)
 refine wpAny_comprehension_free (use:=use) rfl hs (X9 hcells) CS.kind CS.names ?_
 refine thn (hi pins s σ H _ I h) λv s1 h1=>thn h1 λitv s2 h2=> ?_
 obtain⟨it,fp,tn,J,H2,e,I2,T,st2,f2,W,⟨m0,w0⟩,turn⟩:=h2
 subst e
 refine wpAny_newObj_type (wpAny_newFunctionEnv CS.cell (by intro y hy;simp at hy) (λh₁ hns₁ hsb₁=> ?_) CS.kind)
 dsimp only at hns₁ hsb₁⊢
 generalize hHH:s2.heap.push {cls:=.type "list",dict:=none,data:=.seq ([]:List Value).toArray}=HH at hns₁ hsb₁⊢
 have hC:HH.objs.size=s2.heap.objs.size+1:=by rw[<-hHH,size_push]
 generalize hCe:HH.objs.size=C at hns₁ hsb₁ hC⊢
 have hDC:s2.heap.objs.size≠C:=by rw[hC];exact ne_of_lt (lt_succ_self _)
 have below:∀b,b<s2.heap.objs.size->b≠C/\b≠s2.heap.objs.size:=λb hb=>⟨by rw[hC];exact ne_of_lt (Nat.lt_succ_of_lt hb),ne_of_lt hb⟩
 have old:∀b o,s2.heap.get? b=some o->h₁.get? b=some o:=λb o e=>hsb₁.extBut b o (below b (lt_size e)).1 (gZ _ (hHH▸gZ _ e))
 have hacc:h₁.get? s2.heap.objs.size=some (LCg.lst []):=hsb₁.extBut _ _ hDC (gZ _ (hHH▸get?_push_size _ rfl))
 have nfp:∀b∈fp,b<s2.heap.objs.size:=λb hb=>let⟨o,e,_⟩:=T.obj _ _ st2 b hb;lt_size e
 have clsub:∀y c,(Z4 X.env.cells scope.names []).lookup y=some c->X.env.cells.lookup y=some c:=λy c e=>by
  rcases FA scope.names [] (y,c) hcells (PySem.mem_of_lookup e)with q|q
  ·cases q
  ·exact q.1
 have fresh2:∀a,s2.heap.objs.size<=a->H2 a=none:=λa ha=>I2.hok.fresh ha
 generalize hcl:Z4 X.env.cells scope.names []=cl at clsub⊢
 have clhas:∀y,(y,NameKind.free)∈scope.names->∃c,cl.lookup y=some c:=λy hy=>by
  obtain⟨c,q⟩:=ED (cells:=X.env.cells) scope.names [] y (.inl hy)
  rw[hcl]at q
  obtain⟨d,q1,_⟩:=U1 q
  exact⟨d,q1⟩
 have ltC:∀y c,X.env.cells.lookup y=some c->c<s2.heap.objs.size:=λy c e=>let⟨v,z⟩:=I2.cell y c e;z.lt
 have ok':(X.comp (x1::x2::ns) scope cl C s2 H2 fp).Ok:=by
  refine⟨I2.ok.mod,CS.kind,I2.ok.glob,I2.ok.blt,(by show s2.heap.objs.size<=C;rw[hC];exact le_succ _),λy z c a b=>I2.ok.inj y z c (clsub y c a) (clsub z c b),λy hy=>clhas y (Z6 hy CS.cell),λy c z=>(by cases z),I2.ok.hd,I2.ok.frames,.inl rfl,
   λb hb=>⟨(below b (nfp b hb)).1,λy c e z=>(f2 b hb).2.2.2.2.1 y c (clsub y c e) z⟩,λb o e=>I2.bs b o e,le_trans I2.ok.bsz I2.sz,λb o e hb=> ?_,λb hb hf=> ?_,I2.stack,I2.stkFree⟩
  ·rcases(f2 b hb).2.2.2.1 with z|z
   ·exact I2.ok.noex b o e z
   ·exact absurd (lt_of_lt_of_le (lt_size e) (le_trans I2.ok.bsz z)) (lt_irrefl _)
  ·rcases cZ (I2.stkSub b hf)with z|z
   ·exact(f2 b hb).2.1 z
   ·exact(f2 b hb).2.2.1 z
 have capget:∀(k:Nat) (y:Str) (v:V),(x1::x2::ns)[k]? =some y->(capσ2 caps σ none none)[k]? =some (some v)->∃j,X.N[j]? =some y/\σ[j]? =some (some v)/\scope.names.lookup y=some .free:=λk y v e1 e2=>by
  match k,e1,e2 with
  |0,_,e2=>cases e2
  |1,_,e2=>cases e2
  |k+2,e1,e2=>
   have e1':ns[k]? =some y:=by simpa using e1
   have e2':(caps.map λj=>(σ[j]?).getD none)[k]? =some (some v):=by simpa [capσ2]using e2
   have e3:(ns.map some)[k]? =some (some y):=by rw[getElem?_map,e1'];rfl
   rw[<-CS.at_,getElem?_map]at e3
   rw[getElem?_map]at e2'
   cases hj:caps[k]? with
   |none=>rw[hj]at e3;cases e3
   |some j=>
    rw[hj]at e3 e2'
    have e4:X.N[j]? =some y:=Option.some.inj e3
    have e5:(σ[j]?).getD none=some v:=Option.some.inj e2'
    refine⟨j,e4, ?_,CS.nsf y (mem_of_getElem? e1')⟩
    cases hσ:σ[j]? with
    |none=>rw[hσ]at e5;cases e5
    |some z=>rw[hσ]at e5;have e6:z=some v:=e5;rw[e6]
 have visfree:∀y,scope.names.lookup y=some .free->X.env.kindOf y=some .cell\/X.env.kindOf y=some .free:=λy hy=>CS.free (y,.free) (PySem.mem_of_lookup hy) rfl
 have I0:Inv (X.comp (x1::x2::ns) scope cl C s2 H2 fp) (pins++ [(s2.heap.objs.size,LCg.lst [])]) (capσ2 caps σ none none) H2 {s2 with heap:=h₁,toks:=s2.toks+([]:List (Str×Value)).length}:=by
  obtain⟨m2,hn2,hl2⟩:=I2.loc
  refine⟨ok',rfl,I2.bare,Un.kept old,⟨_,hns₁,λk y v e1 e2 e3=> ?_⟩,λy c e=> ?_,fresh2 C (by rw[hC];exact le_succ _),λy c e=>I2.freeC y c (clsub y c e),λp hp=> ?_,I2.hok.kept old, ?_⟩
  ·obtain⟨j,q1,q2,q3⟩:=capget k y v e1 e2
   have vf:=visfree y q3
   obtain⟨u,ru,lk⟩:=hl2 j y v q1 q2 (vf.elim (λz=> .inr (.inl z)) λz=> .inr (.inr z))
   refine⟨u,ru,.inr ⟨L0 q3, ?_⟩⟩
   obtain⟨c,hcl'⟩:=clhas y (PySem.mem_of_lookup q3)
   refine⟨c,hcl', ?_⟩
   rcases lk with⟨k1,_⟩|⟨_,c',e',z⟩
   ·rcases vf with vf|vf<;>(rw[k1]at vf;cases vf)
   ·have q:=clsub y c hcl'
    rw[e']at q
    cases q
    exact z.keeps old
  ·obtain⟨v,z⟩:=I2.cell y c (clsub y c e)
   exact⟨v,z.keeps old⟩
  ·rcases mem_append.mp hp with hp|hp
   ·obtain⟨a1,a2,a3,a4,a5⟩:=I2.pin p (mem_append_left _ hp)
    refine⟨old _ _ a1,a2,(below _ (lt_size a1)).1,λz=> ?_,a5⟩
    rcases cZ (I2.stkSub _ z)with z|z
    ·exact a3 z
    ·exact a4 z
   ·rcases mem_append.mp hp with hp|hp
    ·obtain⟨a1,a2,a3,a4,a5⟩:=I2.pin p (mem_append_right _ hp)
     refine⟨old _ _ a1,a2,(below _ (lt_size a1)).1,λz=> ?_,a5⟩
     rcases cZ (I2.stkSub _ z)with z|z
     ·exact a3 z
     ·exact a4 z
    ·have e:p=(s2.heap.objs.size,LCg.lst []):=by simpa using hp
     subst e
     refine⟨hacc,fresh2 _ (le_refl _),hDC,λz=> ?_,λv z=>by cases z⟩
     rcases cZ (I2.stkSub _ z)with z|z
     ·exact absurd I2.lt (by rw[<-z];exact lt_irrefl _)
     ·exact I2.nofs (le_refl _) z
  ·show(capσ2 caps σ none none).length=(x1::x2::ns).length
   have:=congrArg List.length CS.at_
   simp only[length_map]at this
   simp[capσ2,this]
 have loop:∀s₃:Shared,s₃={s2 with heap:=h₁,toks:=s2.toks+([]:List (Str×Value)).length}->
   codeAny (model X.prog X.w) X.A (.compLoop (.ListComp elt [⟨.Tuple [.Name x1 px1,.Name x2 px2] ktu ptu,iter,ifs,0⟩] scope pos) 0 (.ref it) (.ref s2.heap.objs.size) (compEnvC scope cl C X.env))
    (compPost (model X.prog X.w) X.A X.xe use Q (.ref s2.heap.objs.size) C) s₃:=by
  rintro s₃ rfl
  refine HP (λn s'=>∃i ys us H',Inv (X.comp (x1::x2::ns) scope cl C s2 H2 fp) (pins++ [(s2.heap.objs.size,LCg.lst us)]) (capσ2 caps σ none none) H' s'/\Vals ys us/\tn i s'.heap/\(∀b∈fp,H' b=none)/\W i n ys H') ?_ m0
   ⟨0,[],[],H2,I0,.nil,T.keep _ _ _ st2 (λb _ o e=>old b o e),λb hb=>(f2 b hb).1,w0⟩
  rintro n s3 ⟨i,ys,us,H3,I3,rv,st3,fr3,w3⟩
  obtain⟨hle,hstep⟩:=turn i n ys H3 w3
  have pinlt:∀p∈X.pn++pins,p.1<s2.heap.objs.size:=λp hp=>lt_size (I2.pin p hp).1
  have stat:∀ {H':Hp},(∀b∈fp,H' b=none)->∀b∈fp,DJ (X.comp (x1::x2::ns) scope cl C s2 H2 fp) (pins++ [(s2.heap.objs.size,LCg.lst us)]) H' b:=λhn b hb=>
   ⟨hn b hb,(below b (nfp b hb)).1,ok'.exfs b hb,.inl hb,λy c e z=>(f2 b hb).2.2.2.2.1 y c (clsub y c e) z,λp hp=>by
    rcases mem_append.mp hp with hp|hp
    ·exact(f2 b hb).2.2.2.2.2 p (mem_append_left _ hp)
    ·rcases mem_append.mp hp with hp|hp
     ·exact(f2 b hb).2.2.2.2.2 p (mem_append_right _ hp)
     ·have e:p=(s2.heap.objs.size,LCg.lst us):=by simpa using hp
      subst e
      exact Ne.symm (below b (nfp b hb)).2⟩
  have memD:∀(l:List (Addr×Obj)),(s2.heap.objs.size,LCg.lst us)∈(X.comp (x1::x2::ns) scope cl C s2 H2 fp).pn++((pins++ [(s2.heap.objs.size,LCg.lst us)])++l):=λl=>
   mem_append_right _ (mem_append_left _ (mem_append_right _ mem_cons_self))
  rcases hstep with⟨stop,r⟩|⟨go,Nx,hNx,step⟩
  ·refine thn (T.done (X.comp (x1::x2::ns) scope cl C s2 H2 fp) rfl rfl rfl hc i _ s3 _ H3 _ I3 (stat fr3) st3 stop) λr' s4 ⟨hr,I4⟩=> ?_
   subst hr
   have pD:=I4.pin (s2.heap.objs.size,LCg.lst us) (mem_append_right _ (mem_append_right _ mem_cons_self))
   have hDn:H3 s2.heap.objs.size=none:=pD.2.1
   have hCn:H3 C=none:=I4.free
   have b4:Un (frs X.stack) fp H2 H3 s2.heap s4.heap:=I4.base
   have u4:Un (frs X.stack) fp H2 (upd H3 s2.heap.objs.size (.lst ys)) s2.heap s4.heap:=
    ⟨b4.keep,b4.slot,λb o e n hx=>by rw[B1 (below b (lt_size e)).2];exact b4.free b o e n hx,b4.there,
     λb xs q=>by rw[B1 (B0 (b4.tups b xs q) hDn)];exact b4.tups b xs q,λb o u q=>by rw[B1 (B0 (b4.frzs b o u q) hDn)];exact b4.frzs b o u q,
     λb ps q=>by
      obtain⟨m1,e1⟩:=b4.tbls b ps q
      exact⟨m1,by rw[B1 (B0 e1 hDn)];exact e1⟩⟩
   have k4:HOk X.prog X.w (upd H3 s2.heap.objs.size (.lst ys)) s4.heap:=λb u e=>by
    by_cases hb:b=s2.heap.objs.size
    ·subst hb
     rw[A3]at e
     cases e
     exact⟨hle,us,_,rv,pD.1⟩
    ·rw[B1 hb]at e
     exact(I4.hok b u e).stay (λc v _ q=>q) (λc q=>by rw[B1 (B0 q hDn)];exact q) λc xs q=>by rw[B1 (B0 q hDn)];exact q
   have J4:Inv X pins σ (upd H3 s2.heap.objs.size (.lst ys)) s4:=I2.call' (ch:=fp) I4.os u4 k4 I4.bare λb hb=>⟨(f2 b hb).2.2.2.1,(f2 b hb).2.1,(f2 b hb).2.2.2.2.1,(f2 b hb).2.2.2.2.2⟩
   obtain⟨mC,hnC,_⟩:=I4.loc
   exact hend _ C s4 H3 ys J4 hDn r ⟨mC,hnC⟩ (by rw[B1 (Ne.symm hDC)];exact hCn) (Ne.symm (below _ I2.lt).1) (by rw[hC];exact Nat.le_succ_of_le I2.sz) (λy c e=>(below c (ltC y c e)).1) λp hp=>(below _ (pinlt p hp)).1
  ·refine thn (T.item (X.comp (x1::x2::ns) scope cl C s2 H2 fp) rfl rfl rfl hc i _ s3 _ H3 _ I3 (stat fr3) st3 go) λr' s4 ⟨u,hr,h4⟩=> ?_
   subst hr
   refine thn h4 λ_ s5 ⟨v,H5,I5,r5,y5,st5,fr5⟩=> ?_
   have I5':=I5.pinned (stat fr5) (T.obj _ _ st5)
   obtain⟨aT,v1,v2,ev,hT,step'⟩:=step v H5 y5
   have PGt:PG (X.comp (x1::x2::ns) scope cl C s2 H2 fp) (.Tuple [.Name x1 px1,.Name x2 px2] ktu ptu) (ZG X.K 2 (SH (KK 0) (SH (KK 1) ZV))):=
    HS (X:=X.comp (x1::x2::ns) scope cl C s2 H2 fp) hc (O9 (K6 (i:=0) CS.nd rfl (.inl (lookup_relabel_local CS.var1)) (.inr (lookup_relabel_local CS.var1)))
     (O9 (K6 (i:=1) CS.nd rfl (.inl (lookup_relabel_local CS.var2)) (.inr (lookup_relabel_local CS.var2))) DN))
   refine wpAny_mono (PGt _ s5 _ H5 v u (fun σ' H'=>σ'=capσ2 caps σ (some v1) (some v2)/\H'=H5) I5' r5 ⟨aT,[v1,v2],ev,hT,rfl,v1,[v2],rfl,v2,[],rfl,rfl,rfl,rfl⟩) (λ_ s6 hs6=> ?_) (λ_ _ e=>e.elim)
   obtain⟨σ6,H6,I6',e6,e6'⟩:=hs6
   subst e6'
   subst e6
   refine wpAny_mono (ht cl C s2 H2 fp _ s6 _ _ _ I6' step') (λb s7 ⟨H7,I7,q7⟩=> ?_) (λ_ _ e=>e.elim)
   have weak:∀ {H':Hp} {s':Shared} {pl:List (Addr×Obj)},Inv (X.comp (x1::x2::ns) scope cl C s2 H2 fp) pl (capσ2 caps σ (some v1) (some v2)) H' s'->Inv (X.comp (x1::x2::ns) scope cl C s2 H2 fp) pl (capσ2 caps σ none none) H' s':=λ{H' s' pl} J'=>
    J'.weak rfl λk z e=>by
     match k,e with
     |0,e=>cases e
     |1,e=>cases e
     |k+2,e=>exact e
   have keepT:∀ {H':Hp} {s':Shared},Inv (X.comp (x1::x2::ns) scope cl C s2 H2 fp) ((pins++ [(s2.heap.objs.size,LCg.lst us)])++BI fp s5.heap) (capσ2 caps σ (some v1) (some v2)) H' s'->tn (i+1) s'.heap/\∀b∈fp,H' b=none:=λ{H' s'} J'=>by
    refine⟨T.keep _ _ _ st5 λb hb o e=>(J'.pin (b,o) (mem_append_right _ (mem_append_right _ (O0 hb e)))).1,λb hb=> ?_⟩
    obtain⟨o,e,d⟩:=T.obj _ _ st5 b hb
    exact(J'.pin (b,o) (mem_append_right _ (mem_append_right _ (O0 hb e)))).2.1
   cases b with
   |false=>
    rw[if_neg nZ]at q7⊢
    obtain⟨m',hm,w7⟩:=hNx _ _ q7
    exact⟨m',hm,i+1,ys,us,H7,weak I7.unpinned,rv,(keepT I7).1,(keepT I7).2,w7⟩
   |true=>
    rw[if_pos rfl]at q7⊢
    refine wpAny_mono (he cl C s2 H2 fp _ s7 _ H7 _ I7 q7) (λyv s8 ⟨y,H8,I8,ry,n8⟩=> ?_) (λ_ _ e=>e.elim)
    obtain⟨m',hm,w8⟩:=hNx _ _ n8
    have pD:=I8.pin (s2.heap.objs.size,LCg.lst us) (memD _)
    have hul:us.length=ys.length:=rv.length.symm
    refine append_at (hsz:=by show us.toArray.size<=sizeLine;rw[size_toArray,hul];exact hle) pD.1 λh9 hs9 hD9=> ?_
    have I8p:Inv (X.comp (x1::x2::ns) scope cl C s2 H2 fp) pins (capσ2 caps σ none none) H8 s8:=weak I8.unpinned.unpinned
    have I9:Inv (X.comp (x1::x2::ns) scope cl C s2 H2 fp) pins (capσ2 caps σ none none) H8 {s8 with heap:=h9}:=I8p.turned (t':=s8.toks) (it:=s2.heap.objs.size) (λb o hb e=>(hs9.2 b hb).trans e) pD.2.1 hDC (.inr (le_refl _)) (λy c e z=>ne_of_lt (ltC y c (clsub y c e)) z) λp hp=>ne_of_lt (pinlt p hp)
    have I9':Inv (X.comp (x1::x2::ns) scope cl C s2 H2 fp) (pins++ [(s2.heap.objs.size,LCg.lst (us++ [yv]))]) (capσ2 caps σ none none) H8 {s8 with heap:=h9}:=I9.pins_of λp hp=>by
     rcases mem_append.mp hp with hp|hp
     ·exact I9.pin p (mem_append_right _ hp)
     ·have e:p=(s2.heap.objs.size,LCg.lst (us++ [yv])):=by simpa using hp
      subst e
      exact⟨hD9.trans (congrArg some (LCg.lst_snoc us yv)),pD.2.1,hDC,pD.2.2.2.1,λv z=>by cases z⟩
    refine⟨m',hm,i+1,ys++ [y],us++ [yv],H8,I9',rv.append (.cons ry .nil), ?_,(keepT I8).2,w8⟩
    exact T.keep _ _ _ (keepT I8).1 λb hb o e=>(hs9.2 b (below b (nfp b hb)).2).trans e
 exact codeAny_compStart_list (loop _ rfl) (T.self X.A 0 _ _ _ (T.keep _ _ _ st2 (λb _ o e=>old b o e)) (loop _ rfl))
end
theorem OY{K:FZ}{l1 l2:Addr}{xs ys:List V}{caps:List Nat}{tt:TT}{te:TE}{σ:St}{H:Hp}{R:List V->Hp->Prop}(hle:xs.length=ys.length)(Pv:Nat->List V->Hp->Prop)(h0:Pv 0 [] H)
  (hl:∀i zs H,i<=xs.length->Pv i zs H->SqL K H l1 xs/\SqL K H l2 ys/\zs.length<=sizeLine)
  (hs:∀i x y zs H T,xs[i]? =some x->ys[i]? =some y->Pv i zs H->H T=none->tt (capσ2 caps σ (some x) (some y)) (upd H T (.tup [x,y])) λb H2=>if b=true then te (capσ2 caps σ (some x) (some y)) H2 λz H3=>Pv (i+1) (zs++ [z]) H3 else Pv (i+1) zs H2)
  (hd:∀zs H,Pv xs.length zs H->R zs H):
  ∃W:Nat->Nat->List V->Hp->Prop,(∃m,W 0 m [] H)/\∀i m zs H,W i m zs H->zs.length<=sizeLine/\(((Itz K l1 l2).stop i H/\R zs H)\/((Itz K l1 l2).go i H/\∃N:List V->Hp->Prop,(∀ys' H',N ys' H'->∃m',m'<m/\W (i+1) m' ys' H')/\∀v H',(Itz K l1 l2).yld i H v H'->
   ∃a v1 v2,v=.ref a/\SqT K H' a [v1,v2]/\tt (capσ2 caps σ (some v1) (some v2)) H' λb H2=>if b=true then te (capσ2 caps σ (some v1) (some v2)) H2 λy H3=>N (zs++ [y]) H3 else N zs H2)):=by
 refine⟨λi m zs H=>m=xs.length - i/\i<=xs.length/\Pv i zs H,⟨xs.length,by simp,zero_le _,h0⟩, ?_⟩
 rintro i m zs H ⟨rfl,hi,p⟩
 obtain⟨q1,q2,hz⟩:=hl i zs H hi p
 refine⟨hz, ?_⟩
 by_cases hlt:i<xs.length
 ·have hlt2:i<ys.length:=by omega
  refine .inr ⟨⟨xs,ys,xs[i],ys[i],q1,q2,by simp[hlt],by simp[hlt2]⟩,Pv (i+1),λys' H' p'=>⟨xs.length - (i+1),by omega,rfl,hlt,p'⟩,λv H' y=> ?_⟩
  obtain⟨T,x,z,y1,hT,rfl,rfl⟩:=y
  obtain⟨e1,e2⟩:=y1 xs ys q1 q2
  exact⟨T,x,z,rfl,SqT.of A3,hs i x z zs H T e1 e2 p hT⟩
 ·have e:i=xs.length:=by omega
  subst e
  exact .inl ⟨⟨xs,ys,q1,q2,.inl (le_refl _)⟩,hd zs H p⟩
section
variable{X:Cx}
theorem SA{x1 x2:Str}{px1 px2 ptu:Pos}{ktu:Nat}{iter elt:Expr}{ifs:List Expr}{scope sc:Scope}{N:List Str}{pos:Pos}{wi:TI}{tt:TT}{te:TE}{caps:List Nat}{ns:List Str}{K:FZ}
  (CS:CompScope2 N sc scope x1 x2 caps ns)(hN':X.N=N)(hsc:X.env.scope=sc)(hc:X.calm=true)(hi:PI X (.Tuple [.Name x1 px1,.Name x2 px2] ktu ptu) iter wi)
  (ht:∀cl C s H fp,PTs (X.comp (x1::x2::ns) scope cl C s H fp) ifs tt)(he:∀cl C s H fp,PE (X.comp (x1::x2::ns) scope cl C s H fp) elt te)
  (hs:∀v,foldedSetIterable iter X.env v=pure v:=by intro _;rfl)(hK:X.K=K:=by rfl):
  PE X (.ListComp elt [⟨.Tuple [.Name x1 px1,.Name x2 px2] ktu ptu,iter,ifs,0⟩] scope pos) (XT K wi caps tt te):=by
 intro pins s σ H Q I h
 subst hN';subst hsc;subst hK
 rw[eval_ListComp]
 refine LP CS hc hi ht he hs I h ?_
 rintro D C s' H' ys I' hD r ⟨m,hn⟩ c1 c2 c3 c4 c5
 exact⟨m,hn,λh' hs'=>⟨.ref D,_,I'.turned (t':=s'.toks) (λb o hb e=>(hs'.2 b hb).trans e) c1 c2 (.inr c3) c4 c5,rfl,r D hD⟩⟩
variable{K:FZ}
end
end L2
namespace Att
open PySem PySem.W PySem.Calls PyProof.Rows
end Att
namespace L2
open PySem PySem.Spec PyProof.Rows
section
variable{X:Cx}{K:FZ}
def KY(K:FZ):R2:=λx y H Q=>∃a b ys,x=.ref a/\y=.ref b/\SqT K H a []/\SqT K H b ys/\Q (.ref b) H
theorem SI:OpR X (binaryOp .Add) (KY X.K):=by
 intro pins s σ H x y v u Q I rx ry h
 obtain⟨a,b,ys,rfl,rfl,ha,hb,q⟩:=h
 cases rx
 cases ry
 obtain⟨its,r1,p1,_⟩:=I.tuple ha
 obtain⟨its2,r2,p2,hz⟩:=I.tuple hb
 have e0:its=[]:=r1.nil_iff.mpr rfl
 subst e0
 obtain⟨⟨cls,dd,data,sl⟩,ho,hc,n,hd⟩:=id p1
 obtain⟨⟨cls2,dd2,data2,sl2⟩,ho2,hc2,n2,hd2⟩:=id p2
 simp only at hc hd hc2 hd2
 subst hc hd hc2 hd2
 exact concat_meets ⟨_,ho,rfl⟩ ⟨_,ho2,rfl⟩ noFill_tuple_add seq_tuple_add PySem.F.slot_tuple_add PySem.F.entry_tuple_add (PySem.F.args_tuple_add_2 _ _)
  (tuple_addW0 a b _ _ n n2 dd dd2 sl sl2 (by simp)) ⟨ho,ho2,⟨.ref b,H,I,rfl,q⟩⟩
end
end L2
namespace PySem
open AutoSeq1 (wpAny_loadPart')
section
variable{prog:Program}{w:World}{A:Around}{E:Value->Shared->Prop}{s:Shared}
end
end PySem
namespace PySem
section
variable{prog:Program}{w:World}{A:Around}{E:Value->Shared->Prop}{s:Shared}
end
end PySem
namespace L2
open PySem PySem.Spec PyProof.Rows
theorem IQ:bootBuiltins "enumerate"=some (.type "enumerate"):=by decide +kernel
section
variable{X:Cx}{K:FZ}{elts:List Expr}{kt:Nat}{pt:Pos}
end
end L2
namespace PySem
open Sem(wp)
namespace ZT
def IsIt(t:Bool)(h:Heap)(i l:Addr)(k:Nat):Prop:=if t then h.IsTupleIter i l k else h.IsListIter i l k
def IsSq(t:Bool)(h:Heap)(l:Addr)(xs:Array Value):Prop:=if t then h.IsTuple l xs else h.IsList l xs
theorem IsIt.extBut{t:Bool}{h h':Heap}{i b l:Addr}{k:Nat}(x:IsIt t h i l k)(hs:Heap.ExtBut b h h')(hb:i≠b):IsIt t h' i l k:=by
 cases t
 ·exact Heap.IsListIter.extBut (show h.IsListIter i l k from x) hs hb
 ·exact Heap.IsTupleIter.extBut (show h.IsTupleIter i l k from x) hs hb
theorem IsIt.at{t:Bool}{h h':Heap}{i l:Addr}{k:Nat}(x:IsIt t h i l k)(e:∀o,h.get? i=some o->h'.get? i=some o):IsIt t h' i l k:=by
 cases t
 ·obtain⟨o,ho,r⟩:=(show h.IsListIter i l k from x)
  exact⟨o,e o ho,r⟩
 ·obtain⟨o,ho,r⟩:=(show h.IsTupleIter i l k from x)
  exact⟨o,e o ho,r⟩
theorem IsIt.live{t:Bool}{h:Heap}{i l:Addr}{k:Nat}(x:IsIt t h i l k):∃o,h.get? i=some o:=by
 cases t
 ·obtain⟨o,ho,r⟩:=(show h.IsListIter i l k from x)
  exact⟨o,ho⟩
 ·obtain⟨o,ho,r⟩:=(show h.IsTupleIter i l k from x)
  exact⟨o,ho⟩
theorem IsSq.at{t:Bool}{h h':Heap}{l:Addr}{xs:Array Value}(x:IsSq t h l xs)(e:∀o,h.get? l=some o->h'.get? l=some o):IsSq t h' l xs:=by
 cases t
 ·obtain⟨o,ho,r⟩:=(show h.IsList l xs from x)
  exact⟨o,e o ho,r⟩
 ·obtain⟨o,ho,r⟩:=(show h.IsTuple l xs from x)
  exact⟨o,e o ho,r⟩
theorem IsSq.extBut{t:Bool}{h h':Heap}{l b:Addr}{xs:Array Value}(x:IsSq t h l xs)(hs:Heap.ExtBut b h h')(hb:l≠b):IsSq t h' l xs:=x.at λo e=>hs l o hb e
section
variable{prog:Program}{w:World}{A:Around}{E:Value->Shared->Prop}{s:Shared}
theorem BM{it t:Addr}{i:Nat}{items}{x:Value}{Q:Value->Shared->Prop}(hit:s.heap.IsTupleIter it t i)
  (ht:s.heap.IsTuple t items)(hx:items[i]? =some x)
  (hQ:∀h',h'.IsTupleIter it t (i+1)->Heap.SameBut it s.heap h'->Q x {s with heap:=h'}):
  wpAny (model prog w) A (Builtin.SmallTypes.nextOf (.ref it)) Q E s:=by
 obtain⟨o,ho,hc,hd⟩:=id hit
 obtain⟨ol,hol,_,nl,hdl⟩:=ht
 unfold Builtin.SmallTypes.nextOf
 refine bZ (wpAny_callSpecial?_slot (name:=Str.ofString "__next__") hit.typeIs F.slot_tuple_iterator_next
  (wpAny_call_entry F.slot_tuple_iterator_next hit.typeIs F.entry_tuple_iterator_next ?_ (F.args_tuple_iterator_next_1 _)))
 show wpAny _ _ (field (.ref it) 0>>=_) _ _ s
 refine bZ (wpAny_field ho hd (x:=.ref t) rfl ?_)
 show wpAny _ _ (if(Value.ref t==Value.none)=true then _ else _) _ _ s
 rw[if_neg (show¬((Value.ref t==Value.none)=true)from nZ)]
 show wpAny _ _ (field (.ref it) 1>>=_) _ _ s
 refine bZ (wpAny_field ho hd (x:=.int i 0) rfl ?_)
 show wpAny _ _ (seqItems? (.ref t)>>=_) _ _ s
 refine bZ (wpAny_seqItems hol hdl ?_)
 simp only[Int.toNat_natCast,hx]
 refine bZ (wpAny_setField ho hd (by simp) (pZ ⟨x,rfl,pZ (hQ _ ?_ (Heap.SameBut.update ..))⟩))
 exact⟨_,Heap.get?_update_self _ ho (Obj.isFreed_of_fields (Obj.data_mapFields hd _)),(Obj.cls_mapFields ..).trans hc,by
  rw[Obj.data_mapFields hd];simp[rawInt]⟩
theorem CG{it t:Addr}{i:Nat}{items}{Q:Value->Shared->Prop}(hh:A.handled=none)
  (hit:s.heap.IsTupleIter it t i)(ht:s.heap.IsTuple t items)(hx:items[i]? =none)
  (hE:∀h' e,Heap.ExtBut it s.heap h'->(∃o,h'.get? e=some o/\o.cls=.type "StopIteration")->E (.ref e) {s with heap:=h'}):
  wpAny (model prog w) A (Builtin.SmallTypes.nextOf (.ref it)) Q E s:=by
 obtain⟨o,ho,hc,hd⟩:=id hit
 obtain⟨ol,hol,_,nl,hdl⟩:=ht
 unfold Builtin.SmallTypes.nextOf
 refine bZ (wpAny_callSpecial?_slot (name:=Str.ofString "__next__") hit.typeIs F.slot_tuple_iterator_next
  (wpAny_call_entry F.slot_tuple_iterator_next hit.typeIs F.entry_tuple_iterator_next ?_ (F.args_tuple_iterator_next_1 _)))
 show wpAny _ _ (field (.ref it) 0>>=_) _ _ s
 refine bZ (wpAny_field ho hd (x:=.ref t) rfl ?_)
 show wpAny _ _ (if(Value.ref t==Value.none)=true then _ else _) _ _ s
 rw[if_neg (show¬((Value.ref t==Value.none)=true)from nZ)]
 show wpAny _ _ (field (.ref it) 1>>=_) _ _ s
 refine bZ (wpAny_field ho hd (x:=.int i 0) rfl ?_)
 show wpAny _ _ (seqItems? (.ref t)>>=_) _ _ s
 refine bZ (wpAny_seqItems hol hdl ?_)
 simp only[Int.toNat_natCast,hx]
 refine bZ (wpAny_rule (bZ (wpAny_setField ho hd (by simp) ?_)))
 show wpAny _ _ (newExc (.type "StopIteration") []>>=_) _ _ _
 refine bZ ?_
 simp only[newExc,newTuple]
 refine bZ (wpAny_newObj_type ?_ (by size_fits))
 refine bZ (m:=firstArgMember _ _) (wpAny_of_eq (a:=Value.none) (by first|rfl|(simp only[firstArgMember];rfl)) ?_)
 refine wpAny_newObj_type ?_ (by size_fits)
 simp only[raiseNew]
 refine bZ (wpAny_handled ?_)
 first|rw[show A.in1.handled=none from hh]|rw[hh]
 refine bZ (pZ (wpAny_throw ?_))
 exact hE _ _ (((Heap.SameBut.update ..).extBut.push _).push _) ⟨_,get?_push_size _ rfl,rfl⟩
theorem AI{t:Bool}{it l:Addr}{i:Nat}{items}{x:Value}{Q:Value->Shared->Prop}(hit:IsIt t s.heap it l i)
  (ht:IsSq t s.heap l items)(hx:items[i]? =some x)
  (hQ:∀h',IsIt t h' it l (i+1)->Heap.SameBut it s.heap h'->Q x {s with heap:=h'}):
  wpAny (model prog w) A (Builtin.SmallTypes.nextOf (.ref it)) Q E s:=by
 cases t
 ·exact wpAny_nextOf_list_item hit ht hx hQ
 ·exact BM hit ht hx hQ
theorem EM{t:Bool}{it l:Addr}{i:Nat}{items}{Q:Value->Shared->Prop}(hh:A.handled=none)(hit:IsIt t s.heap it l i)
  (ht:IsSq t s.heap l items)(hx:items[i]? =none)
  (hE:∀h' e,Heap.ExtBut it s.heap h'->(∃o,h'.get? e=some o/\o.cls=.type "StopIteration")->E (.ref e) {s with heap:=h'}):
  wpAny (model prog w) A (Builtin.SmallTypes.nextOf (.ref it)) Q E s:=by
 cases t
 ·exact wpAny_nextOf_list_end hh hit ht hx hE
 ·exact CG hh hit ht hx hE
end
end ZT
end PySem
namespace PySem
open Sem (wp)
namespace ZT
abbrev IsZ(h:Heap)(z TI TO:Addr)(f0 f1:Value):Prop:=
 h.get? z=some {cls:=.type "zip",dict:=none,data:=.fields #[f0,f1,.bool false,.ref TI,.ref TO],slots:= #[]}
section
variable{prog:Program}{w:World}{A:Around}{E:Value->Shared->Prop}{s:Shared}
end
end ZT
end PySem
namespace PySem
open Sem(wp)
open PyProof.Rows
namespace ZT
section
variable{prog:Program}{w:World}{A:Around}{E:Value->Shared->Prop}{s:Shared}
variable{R:Result->Shared->Prop}
end
end ZT
end PySem
namespace PySem
open Sem(wp)
open PyProof.Rows
namespace F
end F
namespace ZT
abbrev itO(t:Bool)(l:Addr):Obj:=if t then {cls:=.type "tuple_iterator",data:=.fields #[.ref l,.int 0 0]}else {cls:=.type "list_iterator",data:=.fields #[.ref l,.int 0 0]}
section
variable{prog:Program}{w:World}{A:Around}{E:Value->Shared->Prop}{s:Shared}
end
end ZT
end PySem
namespace PySem
open Sem(wp)
open PyProof.Rows
namespace ZT
section
variable{prog:Program}{w:World}{A:Around}{E:Value->Shared->Prop}{s:Shared}
end
end ZT
end PySem
namespace L2
open PySem PySem.Spec PyProof.Rows
section
variable{X:Cx}{K:FZ}{pins:List (Addr×Obj)}{σ:St}{H H':Hp}{s:Shared}{h':Heap}
variable{A:Around}{E:Value->Shared->Prop}{Q:Value->Shared->Prop}{b:Bool}
theorem JS{xs:List V}{us:List Value}(r:Vals xs us){j:Nat}(h1:j<us.toArray.size):∃x,xs[j]? =some x/\RelV x us.toArray[j]:=by
 have hj:j<xs.length:=by rw[r.length];simpa using h1
 obtain⟨u,hu,ru⟩:=r.get (i:=j) (x:=xs[j]) (by simp[hj])
 have e1:us.toArray[j]=u:=by
  have:us[j]? =some us.toArray[j]:=by simp
  rw[hu]at this;exact(Option.some.inj this).symm
 exact⟨xs[j],by simp[hj],by rw[e1];exact ru⟩
end
end L2
namespace HT
open PySem PyProof.Rows
section
variable{prog:Program}{w:World}{A:Around}{E:Value->Shared->Prop}{s:Shared}
theorem getItem_tuple_whole{t sl:Addr}{items:Array Value}{vl vu:Value}{lo hi:Option Int}{Q:Value->Shared->Prop}(ht:IsTup s.heap t items)(hs:s.heap.IsSliceOf sl vl vu .none)(pl:IsPart vl lo)(pu:IsPart vu hi)
  (hw:sIx items.size 0 lo=0/\sIx items.size items.size hi=items.size)
  (h:Q (.ref t) s):wpAny (model prog w) A (getItem (.ref t) (.ref sl)) Q E s:=by
 obtain⟨os,hos,hcs,hds⟩:=id hs
 have hTs:s.TypeIs (.ref sl) "slice":=⟨os,hos,hcs⟩
 unfold getItem
 try with_reducible refine wpAny_holding ?_
 first|refine bZ (pZ ?_)|skip
 refine bZ (wpAny_sequenceKey ht.typeIs (by decide) ?_)
 refine bZ (wpAny_callSpecial?_slot (name:=Str.ofString "__getitem__") ht.typeIs PyProof.Rows.slot_tuple_getitem
  (wpAny_call_entry PyProof.Rows.slot_tuple_getitem ht.typeIs entry_tuple_getitem ?_ (args_tuple_getitem _ _)))
 show wpAny _ _ (Builtin.Tuple.tupleItemsOf (.ref t)>>=_) _ _ s
 refine bZ (tupleItemsOf_ ht ?_)
 refine bZ (wpAny_typeOf hTs ?_)
 rw[if_pos (by decide)]
 refine bZ (V1 hs pl pu ?_)
 have hyes:(((sIx items.size 0 lo:Nat):Int)==0&&(1:Int)==1&&(sIx items.size items.size hi - sIx items.size 0 lo)==items.size)=true:=by
  rw[hw.1,hw.2];simp
 show wpAny _ _ (if(((sIx items.size 0 lo:Nat):Int)==0&&(1:Int)==1&&(sIx items.size items.size hi - sIx items.size 0 lo)==items.size)=true then _ else _) _ _ s
 rw[if_pos hyes]
 unfold Builtin.Tuple.tupleIsExact
 refine bZ (bZ (wpAny_typeOf ht.typeIs ?_))
 repeat (first|refine pZ ?_|refine bZ ?_|refine wpAny_rule ?_|rw[if_pos (by decide)])
 exact⟨_,rfl,pZ h⟩
end
end HT
namespace L2
open PySem PySem.Spec PyProof.Rows
section
variable{X:Cx}{K:FZ}
def WZ(K:FZ):V->Option Int->Option Int->Hp->VK->Prop:=λx lo hi H Q=>∃a xs,x=.ref a/\SqT K H a xs/\(HT.sIx xs.length 0 lo=0/\HT.sIx xs.length xs.length hi=xs.length)/\Q (.ref a) H
theorem RR:SlR X (WZ X.K):=by
 intro pins s σ H x v vl vu lo hi sl Q I rx hs pl pu h
 obtain⟨a,xs,rfl,hx,hw,q⟩:=h
 cases rx
 obtain⟨its,r,ht,hz⟩:=I.tuple hx
 have hlen:its.toArray.size=xs.length:=by rw[size_toArray];exact r.length.symm
 refine⟨"tuple",_,PyProof.Rows.slot_tuple_getitem.lookup,ht.typeIs, ?_⟩
 exact HT.getItem_tuple_whole ht hs pl pu (by rw[hlen];exact hw) ⟨.ref a,H,I,rfl,q⟩
theorem EJ(hK:X.K=K:=by rfl):SlR X (λx lo hi H Q=>(rSlL K x lo hi H Q\/rSlT K x lo hi H Q)\/WZ K x lo hi H Q):=by subst hK;exact sl_any.or RR
end
end L2
namespace TM
open PySem PyProof.Rows
section
variable{prog:Program}{w:World}{A:Around}{E:Value->Shared->Prop}{s:Shared}
end
end TM
namespace L2
open PySem PySem.Spec PyProof.Rows
section
variable{X:Cx}{K:FZ}
theorem P3(hK:X.K=K:=by rfl):OpR X (binaryOp .Add) (λx y H Q=>rI0 (λi j=> .int (i+j)) x y H Q\/rCat x y H Q\/QA K x y H Q\/KY K x y H Q):=by
 subst hK;exact op_add.or (op_cat.or (op_catT.or SI))
end
end L2
namespace TM
open PySem PyProof.Rows PySem.SeqAt
end TM
namespace L2
open PySem PySem.Spec PyProof.Rows
section
variable{X:Cx}{K:FZ}
variable{e:Expr}{es tes:List Expr}{t tt:TA}{name:Str}{apos cpos tpos:Pos}{id:String}{r:V->List V->Hp->VK->Prop}
end
structure LamScope(ps fs:List Str)(sc:Scope):Prop where
 kind:sc.kind=.function
 co:sc.isCoroutine=false
 gen:sc.isGenerator=false
 nd:(ps++fs).Nodup
 par:∀x∈ps,sc.names.lookup x=some .local
 nocell:∀y∈sc.names,y.2≠ .cell
 free:∀x,sc.names.lookup x=some .free->x∈fs
 fre:∀x∈fs,sc.names.lookup x=some .free
structure Caught (base:Heap) (cl:List (Str×Addr)) (fs:List Str) (cvs:List V):Prop where
 len:cvs.length=fs.length
 inj:∀x y c,cl.lookup x=some c->cl.lookup y=some c->x=y
 only:∀x c,cl.lookup x=some c->x∈fs
 at_:∀(i:Nat) (x:Str),fs[i]? =some x->∃c u v,cl.lookup x=some c/\base.IsCell c (some u)/\cvs[i]? =some v/\RelV v u
def MF(CX:CXT)(P:Program)(w:World)(K:FZ)(mg:Str->Option Value)(base:Heap)(N:List Str)(qual:Str)(scope:Scope)(f:Addr)(cd:Value)(cl:List (Str×Addr))(A:Around)(outer:List Env)(s:Shared)(H:Hp)(E:XK):Cx where
 prog:=P
 w:=w
 K:=K
 mg:=mg
 base:=base
 A:=A.deeper (envX qual scope s.heap.objs.size f cd cl)
 N:=N
 s₀:=s
 H₀:=H
 env:=envX qual scope s.heap.objs.size f cd cl
 outer:=outer
 stack:=envX qual scope s.heap.objs.size f cd cl::outer
 ex:=[]
 calm:=true
 fn:=λ_=>false
 pn:=[]
 xe:=λe s'=>wpAny (model P w) (A.deeper (envX qual scope s.heap.objs.size f cd cl)) (leaving (envX qual scope s.heap.objs.size f cd cl) e) (λ_ s''=>CX outer H s E e s'') (λe' s''=>CX outer H s E e' s'') s'
theorem QU{ps:List Str}{us:List Value}{i:Nat}{x:Str}{u:Value}(nd:ps.Nodup)(hl:us.length=ps.length)(h1:ps[i]? =some x)(h2:us[i]? =some u):(ps.zip us).reverse.lookup x=some u:=by
 have aux:∀(l:List (Str×Value)),(l.map (·.1)).Nodup->(x,u)∈l->l.lookup x=some u:=by
  intro l
  induction l with
  |nil=>intro _ h;exact absurd h (by simp)
  |cons p l ih=>
   obtain⟨y,z⟩:=p
   intro n h
   rw[map_cons,nodup_cons]at n
   rcases cZ h with e|h
   ·cases e;simp
   ·have ne:x≠y:=λe=>n.1 (e▸List.mem_map_of_mem (f:=(·.1)) h)
    rw[lookup_cons,show(x==y)=false from beq_eq_false_iff_ne.mpr ne]
    exact ih n.2 h
 refine aux _ ?_ ?_
 ·rw[List.map_reverse,List.map_fst_zip (by omega)]
  exact List.pairwise_reverse.mpr (List.Pairwise.imp (λh=>Ne.symm h) nd)
 ·rw[List.mem_reverse]
  refine mem_of_getElem? (i:=i) ?_
  rw[List.getElem?_zip_eq_some]
  exact⟨h1,h2⟩
theorem NN{CX:CXT}{P:Program}{w:World}{K:FZ}{mg:Str->Option Value}{base:Heap}{ps fs:List Str}{cvs:List V}{qual:Str}{scope:Scope}{f:Addr}{cd:Value}{cl:List (Str×Addr)}{A:Around}{outer:List Env}{s:Shared}{h1:Heap}{tk:Nat}{H:Hp}{E:XK}{us:List Value}{vs:List V}
  (S:LamScope ps fs scope)(C:Caught base cl fs cvs)(hd:A.handled=none)(e0:Env0 P w K mg base A outer s H)(hl:vs.length=ps.length)(r:Vals vs us)
  (hns:h1.Ns s.heap.objs.size (λx=>(ps.zip us).reverse.lookup x))(hk:∀b o,s.heap.get? b=some o->h1.get? b=some o):
  Inv (MF CX P w K mg base (ps++fs) qual scope f cd cl A outer s H E) [] ((vs++cvs).map some) H {s with heap:=h1,toks:=tk}:=by
 have noA:∀b:Addr,b∉(MF CX P w K mg base (ps++fs) qual scope f cd cl A outer s H E).ex:=λb z=>absurd (show b∈([]:List Addr)from z) (by simp)
 have ndP:ps.Nodup:=(List.nodup_append.mp S.nd).1
 have hul:us.length=ps.length:=by rw[<-r.length];exact hl
 have cb:∀x c,cl.lookup x=some c->∃u,base.IsCell c (some u):=λx c e=>by
  obtain⟨i,hi⟩:=getElem?_of_mem (C.only x c e)
  obtain⟨c',u,v,e1,e2,_⟩:=C.at_ i x hi
  rw[e]at e1;cases e1
  exact⟨u,e2⟩
 have bk:∀b o,base.get? b=some o->h1.get? b=some o:=λb o e=>hk b o (e0.bs b o e).1
 have ck:∀ {c:Addr} {u:Value},base.IsCell c (some u)->h1.IsCell c (some u):=λ{c u} ⟨o,ho,hd⟩=>⟨o,bk _ _ ho,hd⟩
 refine⟨⟨e0.mod,S.kind,rfl,rfl,le_refl _,C.inj,λy hy=> ?_,λy c h=>absurd (show(false:Bool)=true from h) (by simp),λ_=>hd,Around.frames_deeper e0.frames,.inr ⟨rfl,rfl⟩,λb z=>absurd z (noA b),e0.bs,e0.bsz,λb _ _=>noA b,λb z=>absurd z (noA b),e0.funs,e0.frf⟩,
  rfl,e0.bare,Un.kept hk,⟨_,hns,λi y v h1 h2 h3=> ?_⟩,λy c h=> ?_,e0.hok.fresh (le_refl _),λy c h=> ?_,λp hp=>absurd (show p∈([]:List (Addr×Obj))from hp) (by simp),e0.hok.kept hk, ?_⟩
 ·have hy:scope.names.lookup y=some .cell\/scope.names.lookup y=some .free:=hy
  rcases hy with hy|hy
  ·exact absurd rfl (S.nocell _ (PySem.mem_of_lookup hy))
  ·obtain⟨i,hi⟩:=getElem?_of_mem (S.free y hy)
   obtain⟨c,u,v,e1,_⟩:=C.at_ i y hi
   exact⟨c,e1⟩
 ·have h1:(ps++fs)[i]? =some y:=h1
  have h3:Vis scope y:=h3
  by_cases hi:i<ps.length
  ·rw[List.getElem?_append_left hi]at h1
   rw[getElem?_map,List.getElem?_append_left (by omega)]at h2
   have ha:vs[i]? =some v:=by
    cases e:vs[i]? with
    |none=>rw[e]at h2;cases h2
    |some a=>rw[e]at h2;cases h2;rfl
   obtain⟨u,hu,rv⟩:=r.get ha
   exact⟨u,rv,.inl ⟨S.par y (mem_of_getElem? h1),QU ndP hul h1 hu⟩⟩
  ·rw[List.getElem?_append_right (by omega)]at h1
   rw[getElem?_map,List.getElem?_append_right (by omega),hl]at h2
   obtain⟨c,u,v',e1,e2,e3,e4⟩:=C.at_ _ y h1
   rw[e3]at h2;cases h2
   exact⟨u,e4,.inr ⟨.inr (S.fre y (mem_of_getElem? h1)),c,e1,ck e2⟩⟩
 ·obtain⟨u,e⟩:=cb y c h
  exact⟨_,ck e⟩
 ·obtain⟨u,o,ho,_⟩:=cb y c h
  exact(e0.bs _ _ ho).2
 ·show((vs++cvs).map some).length=(ps++fs).length
  rw[length_map,length_append,length_append,hl,C.len]
theorem QW{CX:CXT}{P:Program}{w:World}{K:FZ}{mg:Str->Option Value}{base:Heap}{k:Nat}{f:Addr}{name qual:Str}{params:Arguments}{body:Expr}{scope:Scope}{cl:List (Str×Addr)}{pm cdv ct:Value}{o:Obj}
  {ps fs:List Str}{cvs:List V}{sp:Sp}(lk:base.get? f=some o)(hod:o.data=.func (kla_fn name qual params body scope cl pm cdv ct))(hcd:base.CodeRec cdv qual)(S:LamScope ps fs scope)(C:Caught base cl fs cvs)
  (len:∀vs H Q E,sp vs H Q E->vs.length=ps.length)
  (hbody:∀(A:Around) (outer:List Env) (s:Shared) (H:Hp) (vs:List V) (Q:VK) (E:XK),Room k (A.deeper (envX qual scope s.heap.objs.size f cdv cl))->sp vs H Q E->
   ∃t,PE (MF CX P w K mg base (ps++fs) qual scope f cdv cl A outer s H E) body t/\t ((vs++cvs).map some) H Q):
  FnOk P w K mg base CX (k+1) f (kla_fn name qual params body scope cl pm cdv ct) ps sp:=by
 refine⟨len,λA outer s H args us vs Q E hr e0 hb r hsp=> ?_⟩
 have hl:=len _ _ _ _ hsp
 have lim:s.heap.NoLimit:=e0.mod.nolimit.keeps λb o e=>(e0.bs b o e).1
 have hcd':s.heap.CodeRec cdv qual:=by
  obtain⟨c,oc,vs,t,e1,e2,e3⟩:=hcd
  exact⟨c,oc,vs,t,e1,(e0.bs _ _ e2).1,e3⟩
 refine PySem.W.kla_callFunE hr.depth (e0.bs _ _ lk).1 hod S.co S.gen rfl hcd' (hb _ _ _ _ ?_)
 refine wpAny_newFunctionEnv S.nocell (λx hx=>S.par x.1 (of_mem_zip hx).1) (λh₁ hns hsb=>⟨lim.fresh _ hsb, ?_⟩) S.kind
 have hk:∀b o,s.heap.get? b=some o->h₁.get? b=some o:=λb o e=>hsb.extBut b o (ne_of_lt (lt_size e)) (gZ _ e)
 show codeAny _ _ (.expr body (envX qual scope s.heap.objs.size f cdv cl)) _ _
 obtain⟨t,ht,hq⟩:=hbody A outer s H vs Q E (hr.deeper _) hsp
 have I:Inv (MF CX P w K mg base (ps++fs) qual scope f cdv cl A outer s H E) [] ((vs++cvs).map some) H {s with heap:=h₁,toks:=s.toks+(ps.zip us).length}:=NN S C hr.hd e0 hl r hns hk
 refine PySem.W.kla_codeExpr (wpAny_mono (ht [] _ _ H Q I hq) (λu s' hs=> ?_) λe s' hs=>hs)
 obtain⟨v,H',J,rv,q⟩:=hs
 exact⟨v,H',J.os,J.bare,J.base,J.hok,rv,q⟩
def LamO(name qual:Str)(params:Arguments)(body:Expr)(scope:Scope)(clos:List (Str×Addr))(pm:Value)(c' f:Addr):HO:=
 .ext λh=>∃ctv,h.get? f=some (kla_obj name qual params body scope clos pm c' ctv)
def CodeO(qual:Str)(c':Addr):HO:=.ext λh=>∃oc vs t,h.get? c'=some oc/\oc.data=.fields vs/\vs[1]? =some (.str qual t)
theorem LamO.ok{P:Program}{w:World}{H:Hp}{h:Heap}{name qual:Str}{params:Arguments}{body:Expr}{scope:Scope}{clos:List (Str×Addr)}{pm:Value}{c' f:Addr}{ctv:Value}
  (e:h.get? f=some (kla_obj name qual params body scope clos pm c' ctv)):ObjOk P w H h f (LamO name qual params body scope clos pm c' f):=
 ⟨⟨ctv,e⟩,⟨_,e⟩,λh1 h2 ⟨c,q⟩ k=>⟨c,k _ q⟩⟩
theorem CodeO.ok{P:Program}{w:World}{H:Hp}{h:Heap}{qual:Str}{c':Addr}{oc:Obj}{vs:Array Value}{t:Tok}(e:h.get? c'=some oc)(d:oc.data=.fields vs)(v:vs[1]? =some (.str qual t)):
  ObjOk P w H h c' (CodeO qual c'):=⟨⟨oc,vs,t,e,d,v⟩,⟨_,e⟩,λh1 h2 ⟨o,a,b,q,x,y⟩ k=>⟨o,a,b,k _ q,x,y⟩⟩
def V5(H:Hp)(P:Addr)(pos:Pos)(qual:Str):Prop:=∃ps,H P=some (.tbl ps)/\TriplesOk ps.toList/\(codeAmong pos ps.toList=none\/∃c',codeAmong pos ps.toList=some (.ref c')/\H c'=some (CodeO qual c'))
def QM(H:Hp)(P:Addr)(pos:Pos)(c':Addr):Prop:=∃ps,H P=some (.tbl ps)/\TriplesOk ps.toList/\codeAmong pos ps.toList=some (.ref c')
def aLZ(P:Addr)(pos:Pos)(name qual:Str)(params:Arguments)(body:Expr)(scope:Scope)(clos:List (Str×Addr))(pm:Value):TE:=λ_ H Q=>V5 H P pos qual/\
 ∀f c' H',H f=none->H' f=some (LamO name qual params body scope clos pm c' f)->H' c'=some (CodeO qual c')->QM H' P pos c'->f≠c'->f≠P->c'≠P->(∀b,b≠f->b≠c'->b≠P->H' b=H b)->
  (∀b o,H b=some o->b≠P->H' b=some o)->Q (.ref f) H'
section
variable{X:Cx}{c P:Addr}{params:Arguments}{body:Expr}{scope:Scope}{pos:Pos}{clos:List (Str×Addr)}
theorem RP{pm:Value}(hpm:pm=(X.mg "__name__").getD .none)(hdef:defaultsOf params X.env=([],[]))(hcl:closureFor scope X.env=pure clos)(hcode:X.env.code=.ref c)(C:PySem.W.CodeHd X.base c P)(B:X.base.BuiltinsAt X.mg P):
  PE X (.Lambda params body scope pos) (aLZ P pos "<lambda>" (X.env.qual++ "<lambda>") params body scope clos pm):=by
 subst hpm
 intro pins s σ H Q I h
 obtain⟨⟨ps,hP,ht,hh⟩,h⟩:=h
 refine PySem.W.kla_eval hdef ?_
 have hPo:s.heap.get? P=some (PySem.W.tabObj ps):=I.hok P _ hP
 have hg:s.heap.Ns mainGlobals X.mg:=by
  obtain⟨o,es,ep,e,r⟩:=I.mod.glob
  exact⟨o,es,ep,I.bk _ _ e,r⟩
 have hgP:mainGlobals≠P:=λq=>by
  obtain⟨o,es,ep,e,r⟩:=I.mod.glob
  have:=(I.bs _ _ e).2
  rw[q,hP]at this;cases this
 have B':s.heap.BuiltinsAt X.mg P:=by
  obtain⟨bm,o,b1,b2,b3,b4,b5,r⟩:=B
  exact⟨bm,o,b1,b2,b3,b4,I.bk _ _ b5,r⟩
 have hLP:X.env.locals≠P:=λq=>by have:=I.free;rw[q,hP]at this;cases this
 rcases hh with hnf|⟨c',hf,hc'⟩
 ·refine PySem.W.kla_makeFunction (mg:=X.mg) hcl I.ok.glob hg hcode (C.keeps I.bk) hPo ht hnf hgP B' λc' ctv h' tk hx hge hlt hrec htb=> ?_
  obtain⟨c₂,oc,vs,t,e2,hoc,hd,hv⟩:=hrec
  cases e2
  have hPs:P<s.heap.objs.size:=lt_size hPo
  have sl:s.heap.objs.size<h'.objs.size:=lt_of_le_of_lt hge hlt
  have nfc:h'.objs.size≠c':=ne_of_gt hlt
  have nfP:h'.objs.size≠P:=ne_of_gt (Nat.lt_trans hPs sl)
  have ncP:c'≠P:=ne_of_gt (lt_of_lt_of_le hPs hge)
  have hfn:H h'.objs.size=none:=I.hok.fresh (le_of_lt sl)
  have hcn:H c'=none:=I.hok.fresh hge
  have kb:∀b o,b≠P->s.heap.get? b=some o->(h'.push (kla_obj "<lambda>" (X.env.qual++ "<lambda>") params body scope clos ((X.mg "__name__").getD .none) c' ctv)).get? b=some o:=λb o n e=>gZ _ (hx b o n e)
  generalize hH':upd (upd (upd H P (.tbl (ps++ #[rawInt pos.line,rawInt pos.col,.ref c']))) c' (CodeO (X.env.qual++ "<lambda>") c')) h'.objs.size (LamO "<lambda>" (X.env.qual++ "<lambda>") params body scope clos ((X.mg "__name__").getD .none) c' h'.objs.size)=H'
  have eF:H' h'.objs.size=some (LamO "<lambda>" (X.env.qual++ "<lambda>") params body scope clos ((X.mg "__name__").getD .none) c' h'.objs.size):=by rw[<-hH',A3]
  have eC:H' c'=some (CodeO (X.env.qual++ "<lambda>") c'):=by rw[<-hH',B1 (Ne.symm nfc),A3]
  have eP:H' P=some (.tbl (ps++ #[rawInt pos.line,rawInt pos.col,.ref c'])):=by rw[<-hH',B1 (Ne.symm nfP),B1 (Ne.symm ncP),A3]
  have eO:∀b,b≠h'.objs.size->b≠c'->b≠P->H' b=H b:=λb n1 n2 n3=>by rw[<-hH',B1 n1,B1 n2,B1 n3]
  have eK:∀b o,H b=some o->b≠P->H' b=some o:=λb o e n=>by
   rw[eO b (λz=>by rw[z,hfn]at e;cases e) (λz=>by rw[z,hcn]at e;cases e) n];exact e
  refine⟨.ref h'.objs.size,H', ?_,rfl,h _ c' H' hfn eF eC ⟨_,eP, ?_, ?_⟩ nfc nfP ncP eO eK⟩
  ·refine I.step (g':=s.gens) (d':=s.drawn) (ch:=[]) (λ_ z=>nomatch z) (λb o _ _ _ e n=>kb b o (λz=>by rw[z,hP]at n;cases n) e) (λb o _ _ _ e n=>⟨o.slots,kb b o (λz=>by rw[z,hP]at n;cases n) e⟩)
    (λb o _ e n=> ?_) (λb o _ e=> ?_) (λb xs e=>eK b _ e λz=>by rw[z,hP]at e;cases e) (λb o u e=>eK b _ e λz=>by rw[z,hP]at e;cases e) (λb qs e=> ?_) (λm hm=> ?_) ?_ I.bare
   ·have n1:=lt_size e
    rw[eO b (ne_of_lt (Nat.lt_trans n1 sl)) (ne_of_lt (lt_of_lt_of_le n1 hge)) λz=>by rw[z,hP]at n;cases n];exact n
   ·by_cases z:b=P
    ·rw[z];exact⟨_,gZ _ htb⟩
    ·exact⟨o,kb b o z e⟩
   ·by_cases z:b=P
    ·rw[z,hP]at e;cases e
     exact⟨_,by rw[z];exact eP⟩
    ·exact⟨#[],by rw[eK b _ e z];simp⟩
   ·obtain⟨o,es,ep,e,r⟩:=hm
    exact⟨o,es,ep,kb _ _ hLP e,r⟩
   ·intro b u e
    by_cases z1:b=h'.objs.size
    ·rw[z1,eF]at e;cases e
     rw[z1];exact LamO.ok (get?_push_size _ rfl)
    by_cases z2:b=c'
    ·rw[z2,eC]at e;cases e
     rw[z2];exact CodeO.ok (gZ _ hoc) hd hv
    by_cases z3:b=P
    ·rw[z3,eP]at e;cases e
     rw[z3];exact gZ _ htb
    rw[eO b z1 z2 z3]at e
    refine(I.hok b u e).stay (λd v hd' q=>kb d v (λz=> ?_) q) (λd q=>eK d _ q λz=>by rw[z,hP]at q;cases q) λd xs q=>eK d _ q λz=>by rw[z,hP]at q;cases q
    rcases hd' with q|q
    ·exact z3 (q.symm.trans z)
    ·rw[z,hP]at q;cases q
  ·have:(ps++ #[rawInt pos.line,rawInt pos.col,Value.ref c']).toList=ps.toList++ [rawInt pos.line,rawInt pos.col,.ref c']:=by simp
   rw[this];exact TriplesOk_snoc _ _ _ _ ht
  ·have:(ps++ #[rawInt pos.line,rawInt pos.col,Value.ref c']).toList=ps.toList++ [rawInt pos.line,rawInt pos.col,.ref c']:=by simp
   rw[this];exact codeAmong_snoc _ ht hnf
 ·refine PySem.W.kla_makeFunctionHit (mg:=X.mg) hcl I.ok.glob hg hcode (C.keeps I.bk) hPo ht hf B' λctv h' tk hk hsz=> ?_
  obtain⟨⟨oc,vs,t,hoc,hd,hv⟩,_⟩:=I.hok c' _ hc'
  have hPs:P<s.heap.objs.size:=lt_size hPo
  have hcs:c'<s.heap.objs.size:=lt_size hoc
  have nfc:h'.objs.size≠c':=ne_of_gt (lt_of_lt_of_le hcs hsz)
  have nfP:h'.objs.size≠P:=ne_of_gt (lt_of_lt_of_le hPs hsz)
  have ncP:c'≠P:=λe=>by rw[e,hP]at hc';cases hc'
  have hfn:H h'.objs.size=none:=I.hok.fresh hsz
  have kb:∀b o,s.heap.get? b=some o->(h'.push (kla_obj "<lambda>" (X.env.qual++ "<lambda>") params body scope clos ((X.mg "__name__").getD .none) c' ctv)).get? b=some o:=λb o e=>gZ _ (hk b o e)
  generalize hH':upd H h'.objs.size (LamO "<lambda>" (X.env.qual++ "<lambda>") params body scope clos ((X.mg "__name__").getD .none) c' h'.objs.size)=H'
  have eF:H' h'.objs.size=some (LamO "<lambda>" (X.env.qual++ "<lambda>") params body scope clos ((X.mg "__name__").getD .none) c' h'.objs.size):=by rw[<-hH',A3]
  have eO:∀b,b≠h'.objs.size->H' b=H b:=λb n1=>by rw[<-hH',B1 n1]
  have eK:∀b o,H b=some o->H' b=some o:=λb o e=>by
   rw[eO b (λz=>by rw[z,hfn]at e;cases e)];exact e
  refine⟨.ref h'.objs.size,H', ?_,rfl,h _ c' H' hfn eF (eK _ _ hc') ⟨_,eK _ _ hP,ht,hf⟩ nfc nfP ncP (λb n1 _ _=>eO b n1) λb o e _=>eK b o e⟩
  refine I.step (g':=s.gens) (d':=s.drawn) (ch:=[]) (λ_ z=>nomatch z) (λb o _ _ _ e _=>kb b o e) (λb o _ _ _ e _=>⟨o.slots,kb b o e⟩)
    (λb o _ e n=> ?_) (λb o _ e=>⟨o,kb b o e⟩) (λb xs e=>eK b _ e) (λb o u e=>eK b _ e) (λb qs e=>⟨#[],by rw[eK b _ e];simp⟩) (λm hm=> ?_) ?_ I.bare
  ·have n1:=lt_size e
   rw[eO b (ne_of_lt (lt_of_lt_of_le n1 hsz))];exact n
  ·obtain⟨o,es,ep,e,r⟩:=hm
   exact⟨o,es,ep,kb _ _ e,r⟩
  ·intro b u e
   by_cases z1:b=h'.objs.size
   ·rw[z1,eF]at e;cases e
    rw[z1];exact LamO.ok (get?_push_size _ rfl)
   rw[eO b z1]at e
   exact(I.hok b u e).stay (λd v _ q=>kb d v q) (λd q=>eK d _ q) λd xs q=>eK d _ q
end
def del(H:Hp)(a:Addr):Hp:=λb=>if b=a then none else H b
theorem Q8{H:Hp}{a:Addr}:del H a a=none:=by unfold del;rw[if_pos rfl]
theorem T8{H:Hp}{a b:Addr}(h:b≠a):del H a b=H b:=by unfold del;rw[if_neg h]
theorem QR{H:Hp}{a b:Addr}{o:HO}(h:del H a b=some o):b≠a/\H b=some o:=by
 by_cases e:b=a
 ·subst e;rw[Q8]at h;cases h
 ·rw[T8 e]at h;exact⟨e,h⟩
theorem BP{H:Hp}{a b:Addr}(h:H b=none):del H a b=none:=by
 by_cases e:b=a
 ·subst e;exact Q8
 ·rw[T8 e];exact h
structure CapOk (X:Cx) (clos:List (Str×Addr)) (fs:List Str) (js:List Nat):Prop where
 only:∀x c,clos.lookup x=some c->x∈fs/\X.env.cells.lookup x=some c
 has:∀x∈fs,∃c,clos.lookup x=some c
 kind:∀x∈fs,X.env.kindOf x=some .cell
 fn:∀x∈fs,X.fn x=true
 nm:∀(i:Nat) (x:Str),fs[i]? =some x->∃j,js[i]? =some j/\X.N[j]? =some x
 len:js.length=fs.length
def aPZ(σ:St)(js:List Nat)(cvs:List V):Prop:=cvs.length=js.length/\∀(i j:Nat),js[i]? =some j->∃v,σ[j]? =some (some v)/\cvs[i]? =some v
structure LamAt (base:Heap) (name qual:Str) (params:Arguments) (body:Expr) (scope:Scope) (clos:List (Str×Addr)) (pm:Value) (c' f:Addr):Prop where
 fn:∃ctv,base.get? f=some (kla_obj name qual params body scope clos pm c' ctv)
 cd:base.CodeRec (.ref c') qual
theorem LamAt.fnAt{base:Heap}{name qual:Str}{params:Arguments}{body:Expr}{scope:Scope}{clos:List (Str×Addr)}{pm:Value}{c' f:Addr}(h:LamAt base name qual params body scope clos pm c' f):PySem.W.FnAt f base:=
 let⟨_,e⟩:=h.fn;⟨_,_,_,_,e⟩
def WE(name qual:Str)(params:Arguments)(body:Expr)(scope:Scope)(clos:List (Str×Addr))(pm:Value)(fs:List Str)(js:List Nat)(sp:Heap->Sp)(E:XK)(t:TA):TE:=fun σ H Q=>t σ H λvs H1=>
 ∃f c' cvs,aPZ σ js cvs/\H1 f=some (LamO name qual params body scope clos pm c' f)/\H1 c'=some (CodeO qual c')/\f≠c'/\
  ∀base',LamAt base' name qual params body scope clos pm c' f->Caught base' clos fs cvs->sp base' vs (del (del H1 f) c') (λv H'=>H' f=none->H' c'=none->Q v (upd H' c' (CodeO qual c'))) E
def X8(h base:Heap)(l:List Addr):Heap:=hideAll h ((List.range h.objs.size).filter λa=>(base.get? a).isNone&& !l.contains a)
theorem LU(h base:Heap)(l:List Addr):(X8 h base l).objs.size=h.objs.size:=PySem.W.hideAll_size _ _
theorem Z9{h base:Heap}{l:List Addr}{b:Addr}{o:Obj}(e:h.get? b=some o)(k:(∃u,base.get? b=some u)\/b∈l):(X8 h base l).get? b=some o:=
 hideAll_get _ e λhm=>by
  have:=(mem_filter.mp hm).2
  rw[Bool.and_eq_true]at this
  rcases k with⟨u,k⟩|k
  ·rw[k]at this;simp at this
  ·simp[k]at this
theorem JX{h base:Heap}{l:List Addr}{b:Addr}{o:Obj}(e:(X8 h base l).get? b=some o):h.get? b=some o/\((∃u,base.get? b=some u)\/b∈l):=by
 have e':h.get? b=some o:=of_hideAll _ e
 refine⟨e', ?_⟩
 by_cases k:(∃u,base.get? b=some u)\/b∈l
 ·exact k
 ·exfalso
  have z:(X8 h base l).get? b=none:=hideAll_none _ (mem_filter.mpr ⟨mem_range.mpr (lt_size e'),by
   rw[Bool.and_eq_true]
   constructor
   ·cases q:base.get? b with
    |none=>rfl
    |some u=>exact absurd (.inl ⟨u,q⟩) k
   ·simp;exact λq=>k (.inr q)⟩)
  rw[z]at e;cases e
theorem LJ{h base:Heap}{l:List Addr}:∀ {es:List Env},(∀b∈frs es,b∉l)->h.FunFrames base es->h.FunFrames (X8 h base l) es:=by
 intro es
 induction es with
 |nil=>intro _ _;trivial
 |cons env r ih=>
  intro hs hl
  obtain⟨hk,⟨L,o,hf,hn,ho,hd⟩,hr⟩:=hl
  refine⟨hk,⟨L,o,hf, ?_,ho,hd⟩,ih (λb hb=>hs b (by unfold frs;rw[filterMap_cons,hf];exact mem_cons_of_mem _ hb)) hr⟩
  cases q:(X8 h base l).get? L with
  |none=>rfl
  |some u=>
   rcases(JX q).2 with⟨v,z⟩|z
   ·rw[hn]at z;cases z
   ·exact absurd z (hs L (by unfold frs;rw[filterMap_cons,hf];exact mem_cons_self))
section
variable{X:Cx}{k:Nat}{g:Addr}{fd:FuncData}{ps:List Str}{sp:Heap->Sp}{x:Str}{p pos:Pos}{e:Expr}{es:List Expr}{t:TA}{name qual:Str}{params:Arguments}{body:Expr}{scope:Scope}{clos:List (Str×Addr)}{pm:Value}{fs:List Str}{js:List Nat}
theorem JV(F:∀base',FnOk X.prog X.w X.K X.mg base' CX0 k g fd ps (sp base'))(hr:Room k X.A)(hg:Gl X x)(hm:X.mg x=some (.ref g))(hk:kZ X.K (.ref g)=true)(hb:Binds X.K fd ps [])(C:CapOk X clos fs js)
  (ha:PA X (e::es) t)(hdb:(x==("__debug__":Str))=false:=by decide)(he:starEach (e::es) X.env=(false,eval e X.env)::starEach es X.env:=by rfl)(hpl:(backTo pos (starEach es X.env)).any (·.1)=false:=by rfl):
  PE X (.Call (.Name x p) (e::es) [] pos) (WE name qual params body scope clos pm fs js sp E0 t):=by
 intro pins s σ H Q I h
 refine wpAny_Call_Name_kw (AG I hg hm ?_ hdb)
 refine callWith_K (h₀:=X.base) I.ok.mod.kin hk (thn (ha pos pins s σ H _ I h) λus s1 ⟨vs,H1,I1,r,q⟩=>⟨I1.kIn, ?_⟩) he hpl
 obtain⟨f,c',cvs,hcv,hf,hc,nfc,q⟩:=q
 obtain⟨⟨ctv,hfo⟩,_⟩:=I1.hok f _ hf
 obtain⟨⟨oc,vsc,tc,hoc,hdc,hvc⟩,_⟩:=I1.hok c' _ hc
 have cellOf:∀y∈fs,∃c,clos.lookup y=some c/\X.env.cells.lookup y=some c/\X.s₀.heap.objs.size<=c:=λy hy=>by
  obtain⟨c,e⟩:=C.has y hy
  exact⟨c,e,(C.only y c e).2,I1.ok.cab y c (C.fn y hy) (C.only y c e).2⟩
 generalize hl:f::c'::fs.filterMap (λy=>clos.lookup y)=l
 have lin:∀b∈l,b=f\/b=c'\/∃y∈fs,clos.lookup y=some b:=λb hb=>by
  rw[<-hl]at hb
  rcases cZ hb with e|hb
  ·exact .inl e
  rcases cZ hb with e|hb
  ·exact .inr (.inl e)
  obtain⟨y,hy,e⟩:=mem_filterMap.mp hb
  exact .inr (.inr ⟨y,hy,e⟩)
 have fl:f∈l:=by rw[<-hl];exact mem_cons_self
 have cl':c'∈l:=by rw[<-hl];exact mem_cons_of_mem _ mem_cons_self
 have yl:∀y∈fs,∀c,clos.lookup y=some c->c∈l:=λy hy c e=>by
  rw[<-hl];exact mem_cons_of_mem _ (mem_cons_of_mem _ (mem_filterMap.mpr ⟨y,hy,e⟩))
 have n2:∀ {b:Addr},H1 b=none->del (del H1 f) c' b=none:=λh=>BP (BP h)
 have nef:∀ {b:Addr} {o:HO},H1 b=some o->(∀φ,o≠ .ext φ)->b≠f/\b≠c':=λ{b o} e n=>
  ⟨λz=>by rw[z,hf]at e;exact n _ (Option.some.inj e).symm,λz=>by rw[z,hc]at e;exact n _ (Option.some.inj e).symm⟩
 have d2:∀ {b:Addr} {o:HO},H1 b=some o->(∀φ,o≠ .ext φ)->del (del H1 f) c' b=some o:=λ{b o} e n=>by
  obtain⟨a1,a2⟩:=nef e n
  rw[T8 a2,T8 a1];exact e
 have hok2:HOk X.prog X.w (del (del H1 f) c') s1.heap:=λb u e=>by
  obtain⟨_,e1⟩:=QR e
  obtain⟨_,e2⟩:=QR e1
  exact(I1.hok b u e2).stay (λ_ _ _ q=>q) (λd q=>d2 q fun φ z=>nomatch z) λd xs q=>d2 q fun φ z=>nomatch z
 have bk':∀b o,X.base.get? b=some o->(X8 s1.heap X.base l).get? b=some o:=λb o e=>Z9 (I1.bk b o e) (.inl ⟨o,e⟩)
 have nsK:∀ {b:Addr} {m:Str->Option Value},X.base.Ns b m->(X8 s1.heap X.base l).Ns b m:=λ{b m} ⟨o,es,ep,e,r⟩=>⟨o,es,ep,bk' _ _ e,r⟩
 have hM:Mod X.K X.mg (X8 s1.heap X.base l):=⟨I1.mod.kin.keeps bk',nsK I1.mod.glob,(let⟨mb,b1,b2⟩:=I1.mod.blt;⟨mb,nsK b1,b2⟩),I1.mod.nolimit.keeps bk'⟩
 have nstk:∀b∈frs X.stack,b∉l:=λb hb hbl=>by
  have hn:=I1.stkFree b hb
  rcases lin b hbl with z|z|⟨y,hy,z⟩
  ·rw[z,hf]at hn;cases hn
  ·rw[z,hc]at hn;cases hn
  ·obtain⟨c,e1,e2,e3⟩:=cellOf y hy
   rw[z]at e1;cases e1
   rcases cZ (I1.stkSub b hb)with q|q
   ·exact I1.cne y b e2 q
   ·obtain⟨_,o,ho,_⟩:=I1.ok.funs.mem q
    exact absurd (lt_of_lt_of_le (lt_size ho) e3) (lt_irrefl _)
 have e0:Env0 X.prog X.w X.K X.mg (X8 s1.heap X.base l) X.A X.stack s1 (del (del H1 f) c'):=⟨I1.ok.frames,hM,λb o e=>by
  obtain⟨e1,kk⟩:=JX e
  refine⟨e1, ?_⟩
  rcases kk with⟨u,z⟩|z
  ·exact n2 (I1.bs b u z).2
  ·rcases lin b z with z|z|⟨y,hy,z⟩
   ·rw[z];exact BP Q8
   ·rw[z];exact Q8
   ·exact n2 (I1.freeC y b (C.only y b z).2),le_of_eq (LU _ _ _),LJ nstk I1.stack,λb hb=>n2 (I1.stkFree b hb),hok2,I1.bare⟩
 have LA:LamAt (X8 s1.heap X.base l) name qual params body scope clos pm c' f:=⟨⟨ctv,Z9 hfo (.inr fl)⟩,⟨c',oc,vsc,tc,rfl,Z9 hoc (.inr cl'),hdc,hvc⟩⟩
 have CA:Caught (X8 s1.heap X.base l) clos fs cvs:=by
  refine⟨hcv.1.trans C.len,λy z c h1 h2=>I1.ok.inj y z c (C.only y c h1).2 (C.only z c h2).2,λy c h=>(C.only y c h).1,λi y hy=> ?_⟩
  have hym:y∈fs:=mem_of_getElem? hy
  obtain⟨c,c1,c2,_⟩:=cellOf y hym
  obtain⟨j,hj,hN⟩:=C.nm i y hy
  obtain⟨v,hv,hvc⟩:=hcv.2 i j hj
  obtain⟨m,hn,hlk⟩:=I1.loc
  obtain⟨u,ru,lk⟩:=hlk j y v hN hv (.inr (.inl (C.kind y hym)))
  rcases lk with⟨z,_⟩|⟨_,c3,e3,o,ho,hd⟩
  ·rw[C.kind y hym]at z;cases z
  ·rw[c2]at e3;cases e3
   exact⟨c,u,v,c1,⟨o,Z9 ho (.inr (yl y hym c c1)),hd⟩,hvc,ru⟩
 have hq:=q _ LA CA
 have hul:us.length=ps.length:=by rw[<-r.length];exact(F _).len _ _ _ _ hq
 have hbd:BindsTo s1 fd ⟨us,[]⟩ (ps.zip us):=by
  have:=hb s1 us I1.kIn (by rw[append_nil];exact hul)
  rw[append_nil]at this;exact this
 refine wpAny_call (codeAny_mono ((F _).run X.A X.stack s1 _ ⟨us,[]⟩ us vs _ E0 hr e0 hbd r hq) λrr s' hR=> ?_)
 cases rr with
 |error e=>exact False.elim hR
 |ok fl'=>
  cases fl' with
  |next=>exact False.elim hR
  |brk=>exact False.elim hR
  |cont=>exact False.elim hR
  |ret u=>
   obtain⟨v,H',os,bare,un,hok',rv,hQ⟩:=hR
   obtain⟨hh,g',d',t',os'⟩:=s'
   obtain rfl:os'=s1.os:=os
   have cst:c'∉frs X.stack:=λz=>by have:=I1.stkFree c' z;rw[hc]at this;cases this
   have hc2:hh.get? c'=some oc:=un.keep c' oc hoc Q8 cst (by simp)
   have hcn:H' c'=none:=un.free c' oc hoc Q8 (by simp)
   have hfn':H' f=none:=un.free f _ hfo (BP Q8) (by simp)
   have up:∀ {b:Addr} {o:HO},H' b=some o->upd H' c' (CodeO qual c') b=some o:=λ{b o} e=>by rw[B1 (B0 e hcn)];exact e
   refine⟨v,upd H' c' (CodeO qual c'), ?_,rv,hQ hfn' hcn⟩
   refine I1.step (g':=g') (d':=d') (t':=t') (h':=hh) (ch:=[]) (λ_ z=>nomatch z) (λb o hL hbf _ e n=>un.keep b o e (n2 n) (λz=>(cZ (I1.stkSub b z)).elim hL hbf) (by simp)) (λb o _ _ _ e n=>un.any e (n2 n) (by simp))
    (λb o _ e n=> ?_) (λb o _ e=>un.there b o e (by simp)) (λb xs e=>up (un.tups b xs (d2 e fun φ z=>nomatch z))) (λb o u e=>up (un.frzs b o u (d2 e fun φ z=>nomatch z))) (λb qs e=> ?_) (λm hm=> ?_) (λb w e=> ?_) bare
   ·have ne:b≠c':=λz=>by rw[z,hc]at n;cases n
    rw[B1 ne];exact un.free b o e (n2 n) (by simp)
   ·obtain⟨more,e1⟩:=un.tbls b qs (d2 e fun φ z=>nomatch z)
    exact⟨more,up e1⟩
   ·obtain⟨o',es',ep',ho',r'⟩:=hm
    obtain⟨sl,hL⟩:=un.any ho' (n2 I1.free) (by simp)
    exact⟨_,es',ep',hL,r'⟩
   ·by_cases z:b=c'
    ·subst z;rw[A3]at e;cases e
     exact CodeO.ok hc2 hdc hvc
    ·rw[B1 z]at e
     exact(hok' b w e).stay (λ_ _ _ q=>q) (λd q=>up q) λd xs q=>up q
end
def EE(K:FZ)(base:Heap)(f:Addr):Prop:=kZ K (.ref f)=true\/PySem.W.FnAt f base
def UK(P:Program)(w:World)(K:FZ)(mg:Str->Option Value)(base:Heap)(A:Around)(CX:CXT)(E:XK)(tf:TE)(t:TA):TE:=fun σ H Q=>tf σ H λx H0=>∃(f:Addr) (fd:FuncData) (ps:List Str) (sp:Sp) (k:Nat),
 x=.ref f/\FnOk P w K mg base CX k f fd ps sp/\Room k A/\EE K base f/\Binds K fd ps []/\t σ H0 λvs H1=>sp vs H1 Q E
section
variable{X:Cx}{P:Program}{w:World}{K:FZ}{mg:Str->Option Value}{base:Heap}{A:Around}{CX:CXT}{E:XK}{x:Str}{p pos:Pos}{e:Expr}{es:List Expr}{tf:TE}{t:TA}
theorem GW(hf:PE X (.Name x p) tf)(hx:X5 CX X E)(ha:PA X (e::es) t)(hP:X.prog=P:=by rfl)(hw:X.w=w:=by rfl)(hK:X.K=K:=by rfl)(hmg:X.mg=mg:=by rfl)(hbs:X.base=base:=by rfl)(hA:X.A=A:=by rfl)
  (he:starEach (e::es) X.env=(false,eval e X.env)::starEach es X.env:=by rfl)(hpl:(backTo pos (starEach es X.env)).any (·.1)=false:=by rfl):
  PE X (.Call (.Name x p) (e::es) [] pos) (UK P w K mg base A CX E tf t):=by
 subst hP;subst hw;subst hK;subst hmg;subst hbs;subst hA
 intro pins s σ H Q I h
 refine wpAny_Call_Name_kw (thn (hf pins s σ H _ I h) λfv s0 ⟨y,H0,I0,r0,q0⟩=> ?_)
 obtain⟨f,fd,ps,sp,k,rfl,F,hr,hk,hb,q⟩:=q0
 cases r0
 rcases hk with hk|⟨oc,od,fd',sl,ho⟩
 ·refine callWith_K (h₀:=X.base) I0.ok.mod.kin hk (thn (ha pos pins s0 σ H0 _ I0 q) λus s1 ⟨vs,H1,I1,r,q1⟩=>⟨I1.kIn, ?_⟩) he hpl
  exact FD (dvs:=[]) F hr hb .nil hx I1 r (by rw[append_nil];exact q1)
 ·refine PySem.W.callWith_F ⟨oc,od,fd',sl,I0.bk _ _ ho⟩ (thn (ha pos pins s0 σ H0 _ I0 q) λus s1 ⟨vs,H1,I1,r,q1⟩=>⟨⟨oc,od,fd',sl,I1.bk _ _ ho⟩, ?_⟩) he hpl
  exact FD (dvs:=[]) F hr hb .nil hx I1 r (by rw[append_nil];exact q1)
end
theorem Fun.okC{P:Program}{w:World}{K:FZ}{mg:Str->Option Value}{base:Heap}{x qual:Str}{st:Stmt}{f:Addr}{fd:FuncData}{N ps:List Str}{k:Nat}{sp:Sp}(F:Fun K x qual st f fd)(S:FnScope N ps (A6 st))(len:∀vs H Q E,sp vs H Q E->vs.length=ps.length)
  (hbody:∀(cdv:Value) (A:Around) (outer:List Env) (s:Shared) (H:Hp) (vs:List V) (Q:VK) (E:XK),fd.code=cdv->Room k (A.deeper (envOfC qual (A6 st) s.heap.objs.size f cdv))->sp vs H Q E->
   ∃t,PSs (L5 CX0 P w K mg base N qual (A6 st) f cdv A outer s H E).nox (B8 st) t/\t {nx:=λ_ H'=>Q .non H',rt:=Q} (start N vs) H):FnOk P w K mg base CX0 (k+1) f fd ps sp:=by
 obtain⟨oc,od,kV,doc,pm,an,cdv,ct,osl,rfl,lk,hcd⟩:=F.ex
 refine MY lk hcd S len λA outer s H vs Q E hr hsp=> ?_
 obtain⟨t,h,q⟩:=hbody cdv A outer s H vs Q E rfl hr hsp
 exact⟨t,h.nox,q⟩
structure OnlyT (tabs:List (Addr×Addr)) (H:Hp):Prop where
 only:∀b,H b=none\/(∃o xs,H b=some (.frz o (.lst xs)))\/H b=some (.tbl #[])
 tab:∀q∈tabs,H q.2=some (.tbl #[])
structure TabsB (tabs:List (Addr×Addr)) (mg:Str->Option Value) (base:Heap):Prop where
 code:∀q∈tabs,PySem.W.CodeHd base q.1 q.2
 blt:∀q∈tabs,base.BuiltinsAt mg q.2
theorem OI{P:Program}{w:World}{K:FZ}{mg mb:Str->Option Value}{CX:CXT}{k:Nat}{fa a:Addr}{fd:FuncData}{x:Str}{sp:Sp}{s₁:Shared}{vs:List Value}{ns:List Int}{tabs:List (Addr×Addr)}
  (KX:K.In s₁.heap)(hns:s₁.heap.Ns mainGlobals mg)(hb:s₁.heap.Ns builtinsNs mb)(hbb:∀x:Str,x≠ "__name__"->mb x=bootBuiltins x)(hlim:s₁.heap.NoLimit)(hg:s₁.gens= #[])
  (hT:PySem.W.TabsAt tabs s₁.heap)(hK:PySem.W.noTabs K=true)(hbm:∃bm ob,mg "__builtins__"=some (.ref bm)/\bm≠builtinsNs/\s₁.heap.get? bm=some ob/\ob.cls=.type "module"/\ob.dict=some builtinsNs/\ob.data=.plain)
  (ha:s₁.heap.get? a=some {cls:=.type "list",data:=.seq vs.toArray})(hi:IntsAre vs ns)(hl:ns.length<=sizeLine)(hr:Room k callerA)
  (F:∀base:Heap,K.In base->base.Ns mainGlobals mg->TabsB tabs mg base->FnOk P w K mg base CX k fa fd [x] sp)(hbind:∀(s:Shared) (u:Value),BindsTo s fd ⟨[u],[]⟩ [(x,u)])
  (hsp:∀H:Hp,OnlyT tabs H->SqL K H a (ns.map V.int)->sp [.ref a] H (λv _=>v=.bl true) λ_ _ _=>False)
  (hCX:∀H e s',CX [] H s₁ (λ_ _ _=>False) e s'->False):
  codeAny (model P w) callerA (.call (.ref fa) ⟨[.ref a],[]⟩) (λr s'=>r=.ok (.ret (.bool true))/\OldK s₁.heap s'.heap/\s'.os=s₁.os/\AllBare s'.gens) s₁:=by
 have rv:=GF hi
 have lenV:=hi.length
 have core:∀H:Hp,OnlyT tabs H->SqL K H a (ns.map V.int)->HOk P w H s₁.heap->(∀b,H b≠none->b=a\/b∈tabs.map (·.2))->(H a≠none->K.lookup a=none)->
   codeAny (model P w) callerA (.call (.ref fa) ⟨[.ref a],[]⟩) (λr s'=>r=.ok (.ret (.bool true))/\OldK s₁.heap s'.heap/\s'.os=s₁.os/\AllBare s'.gens) s₁:=by
  intro H hO hS hok hA hKa
  have base_of:∀ {b:Addr} {o:Obj},s₁.heap.get? b=some o->H b=none->(FY s₁.heap H).get? b=some o:=λe n=>PD e n
  have isT:∀ {b:Addr},H b≠none->s₁.heap.get? b=some {cls:=.type "list",data:=.seq vs.toArray}\/s₁.heap.get? b=some (PySem.W.tabObj #[]):=λ{b} h=>by
   rcases hA b h with e|e
   ·rw[e];exact .inl ha
   ·obtain⟨q,hq,rfl⟩:=mem_map.mp e
    exact .inr (hT q hq).2
  have noA:∀ {b:Addr} {o:Obj},s₁.heap.get? b=some o->o≠ {cls:=.type "list",data:=.seq vs.toArray}->o≠PySem.W.tabObj #[]->H b=none:=λ{b o} e n1 n2=>by
   cases q:H b with
   |none=>rfl
   |some u=>
    rcases isT (b:=b) (by rw[q];simp)with z|z<;>rw[e]at z
    ·exact absurd (Option.some.inj z) n1
    ·exact absurd (Option.some.inj z) n2
  have nsK:∀ {b:Addr} {m:Str->Option Value},s₁.heap.Ns b m->(FY s₁.heap H).Ns b m:=λ{b m} ⟨o,es,ep,e,d,r⟩=>⟨o,es,ep,base_of e (noA e (λz=>by rw[z]at d;cases d) λz=>by rw[z]at d;cases d),d,r⟩
  have hKb:K.In (FY s₁.heap H):=λb o e=>base_of (KX b o e) (by
   cases q:H b with
   |none=>rfl
   |some u=>
    rcases hA b (by rw[q];simp)with z|z
    ·subst z
     rw[hKa (by rw[q];simp)]at e;cases e
    ·obtain⟨t,ht,rfl⟩:=mem_map.mp z
     have h2:=List.all_eq_true.mp hK _ (PySem.W.mem_of_lookupK e)
     have h3:=KX _ _ e
     rw[(hT t ht).2]at h3
     cases h3
     exact absurd (show false=true from h2) nZ)
  have hM:Mod K mg (FY s₁.heap H):=⟨hKb,nsK hns,⟨mb,nsK hb,hbb⟩,let⟨mc,h1,h2⟩:=hlim;⟨mc,nsK h1,h2⟩⟩
  have hTB:TabsB tabs mg (FY s₁.heap H):=by
   refine⟨λq hq=> ?_,λq hq=> ?_⟩
   ·obtain⟨o,vs',file,tf,flags,tg,inF,text,tt,e,c1,c2,r⟩:=(hT q hq).1
    exact⟨o,vs',file,tf,flags,tg,inF,text,tt,base_of e (noA e (λz=>by rw[z]at c1;injection c1 with q;exact absurd q (by decide)) λz=>by rw[z]at c1;cases c1),c1,c2,r⟩
   ·obtain⟨bm,ob,b1,b2,b3,b4,b5,b6⟩:=hbm
    refine⟨bm,ob,b1,b2,λz=> ?_,λz=> ?_,base_of b3 (noA b3 (λz=>by rw[z]at b4;injection b4 with q;exact absurd q (by decide)) λz=>by rw[z]at b4;cases b4),b4,b5,b6⟩
    ·obtain⟨o,es,ep,e,hd,_⟩:=hns
     rw[z,e]at b3;cases b3;rw[hd]at b6;cases b6
    ·rw[z,(hT q hq).2]at b3;cases b3;cases b4
  have e0:Env0 P w K mg (FY s₁.heap H) callerA [] s₁ H:=⟨rfl,hM,λb o e=>UM e,le_of_eq (OR _ _),trivial,λb hb=>absurd (show b∈([]:List Addr)from hb) (by simp),hok,.of_eq hg⟩
  refine codeAny_mono ((F _ hKb (nsK hns) hTB).run callerA [] s₁ H ⟨[.ref a],[]⟩ [.ref a] [.ref a] _ _ hr e0 (hbind s₁ (.ref a)) (.cons rfl .nil) (hsp H hO hS)) λr s' h=> ?_
  cases r with
  |error e=>exact(hCX H e s' h).elim
  |ok fl=>
   cases fl with
   |next=>exact False.elim h
   |brk=>exact False.elim h
   |cont=>exact False.elim h
   |ret u=>
    obtain⟨v,H',os,bare,un,hok',r',q⟩:=h
    have q':v=.bl true:=q
    subst q'
    obtain rfl:u=Value.bool true:=r'
    have nofr:∀b:Addr,b∉frs ([]:List Env):=λb z=>absurd (show b∈([]:List Addr)from z) (by simp)
    refine⟨rfl,⟨λb o e=> ?_,λb o e=>un.there b o e (by simp)⟩,os,bare⟩
    cases q:H b with
    |none=>exact .inl (un.keep b o e q (nofr b) (by simp))
    |some u=>
     rcases hO.only b with z|⟨ob,xs,z⟩|z
     ·rw[q]at z;cases z
     ·have z2:=un.frzs b ob _ z
      obtain⟨e1,_⟩:=hok b _ z
      obtain⟨e2,_⟩:=hok' b _ z2
      rw[e]at e1;cases e1
      exact .inl e2
     ·obtain⟨more,z2⟩:=un.tbls b #[] z
      have e2:s'.heap.get? b=some {cls:=.none,data:=.fields (#[]++more)}:=hok' b _ z2
      have e1:s₁.heap.get? b=some {cls:=.none,data:=.fields #[]}:=hok b _ z
      rw[e]at e1;cases e1
      rcases hA b (by rw[q];simp)with y|y
      ·rw[y,ha]at e;cases e
      ·obtain⟨t,ht,rfl⟩:=mem_map.mp y
       obtain⟨o,vs',file,tf,flags,tg,inF,text,tt,e',c1,c2,c3,r⟩:=(hT t ht).1
       exact .inr (.inl ⟨⟨t.1,o,vs',e',c1,c2,c3⟩,rfl, #[],more,rfl,e2⟩)
 have tne:∀q∈tabs,q.2≠a:=λq hq z=>by have:=(hT q hq).2;rw[z,ha]at this;cases this
 have mk:∀H0:Hp,(∀b,H0 b≠none->b=a)->(∀b,H0 b=none\/∃o xs,H0 b=some (.frz o (.lst xs)))->SqL K H0 a (ns.map V.int)->HOk P w H0 s₁.heap->(H0 a≠none->K.lookup a=none)->
   codeAny (model P w) callerA (.call (.ref fa) ⟨[.ref a],[]⟩) (λr s'=>r=.ok (.ret (.bool true))/\OldK s₁.heap s'.heap/\s'.os=s₁.os/\AllBare s'.gens) s₁:=by
  intro H0 h1 h2 h3 h4 h5
  generalize hH:(λb=>if b∈tabs.map (·.2)then some (HO.tbl #[])else H0 b:Hp)=H
  have inT:∀ {b},b∈tabs.map (·.2)->H b=some (.tbl #[]):=λ{b} h=>by rw[<-hH];exact if_pos h
  have outT:∀ {b},b∉tabs.map (·.2)->H b=H0 b:=λ{b} h=>by rw[<-hH];exact if_neg h
  have nT:a∉tabs.map (·.2):=λz=>by obtain⟨q,hq,e⟩:=mem_map.mp z;exact tne q hq e
  have up:∀ {b o},H0 b=some o->H b=some o:=λ{b o} e=>by
   have:b=a:=h1 b (by rw[e];simp)
   rw[outT (by rw[this];exact nT)];exact e
  refine core H ⟨λb=> ?_,λq hq=>inT (List.mem_map_of_mem hq)⟩ ?_ (λb u e=> ?_) (λb hb=> ?_) (λh=>h5 (by rw[outT nT]at h;exact h))
  ·by_cases hb:b∈tabs.map (·.2)
   ·exact .inr (.inr (inT hb))
   ·rw[outT hb];exact(h2 b).elim .inl λh=> .inr (.inl h)
  ·rcases h3 with h|h
   ·rcases h with h|⟨o,h⟩
    ·exact .inl (.inl (up h))
    ·exact .inl (.inr ⟨o,up h⟩)
   ·exact .inr h
  ·by_cases hb:b∈tabs.map (·.2)
   ·rw[inT hb]at e;cases e
    obtain⟨q,hq,rfl⟩:=mem_map.mp hb
    exact(hT q hq).2
   ·rw[outT hb]at e
    exact(h4 b u e).stay (λ_ _ _ q=>q) (λ_ q=>up q) λ_ _ q=>up q
  ·by_cases hb':b∈tabs.map (·.2)
   ·exact .inr hb'
   ·rw[outT hb']at hb;exact .inl (h1 b hb)
 cases hk:K.lookup a with
 |some o=>
  have e:=KX a o hk
  rw[ha]at e
  cases e
  exact mk (λ_=>none) (λb z=>absurd rfl z) (λ_=> .inl rfl) (.inr ⟨_,vs.toArray,_,hk,rfl,rfl,rfl,by rw[size_toArray,lenV];exact hl,by simpa using rv⟩) (λb u z=>by have z':(none:Option HO)=some u:=z;cases z') λz=>absurd rfl z
 |none=>
  refine mk (λb=>if b=a then some (.frz {cls:=.type "list",data:=.seq vs.toArray} (.lst (ns.map V.int)))else none) (λb z=> ?_) (λb=> ?_) (.inl (.inr ⟨{cls:=.type "list",data:=.seq vs.toArray},if_pos rfl⟩)) (λb u z=> ?_) λ_=>hk
  ·by_cases hb:b=a
   ·exact hb
   ·exact absurd (if_neg hb) z
  ·by_cases hb:b=a
   ·exact .inr ⟨_,_,if_pos hb⟩
   ·exact .inl (if_neg hb)
  ·by_cases hb:b=a
   ·have z':=(if_pos hb).symm.trans z
    cases z'
    subst hb
    exact⟨ha,by rw[length_map];exact hl,vs,_,rv,ha⟩
   ·have z':=(if_neg hb).symm.trans z
    cases z'
section
variable{κ:Type}[DecidableEq κ]
def G0(kvs:List (κ×V))(k:κ):Option V:=(kvs.find? λkv=>decide (kv.1=k)).map (·.2)
def D5(kvs:List (κ×V))(k:κ)(v:V):List (κ×V):=
 if(kvs.any λkv=>decide (kv.1=k))=true then kvs.map (λkv=>if kv.1=k then(kv.1,v)else kv)else kvs++ [(k,v)]
def J5(kvs:List (κ×V))(k:κ):List (κ×V):=kvs.filter λkv=>decide (kv.1≠k)
theorem K1{p:κ×V}{r:List (κ×V)}{k:κ}(e:p.1=k):G0 (p::r) k=some p.2:=by simp[G0,find?_cons,e]
theorem K4{p:κ×V}{r:List (κ×V)}{k:κ}(e:¬p.1=k):G0 (p::r) k=G0 r k:=by simp[G0,find?_cons,e]
theorem U9(k:κ):∀kvs:List (κ×V),(kvs.any λkv=>decide (kv.1=k))=(G0 kvs k).isSome
 | []=>rfl
 |p::r=>by
  rw[any_cons]
  by_cases e:p.1=k
  ·simp only[K1 e,decide_eq_true e,Bool.true_or,Option.isSome_some]
  ·rw[K4 e,decide_eq_false e,Bool.false_or];exact U9 k r
theorem JH(k j:κ)(y:V):∀kvs:List (κ×V),G0 (kvs.map λkv=>if kv.1=k then(kv.1,y)else kv) j=(G0 kvs j).map λx=>if j=k then y else x
 | []=>rfl
 |p::r=>by
  have ih:=JH k j y r
  rw[map_cons]
  by_cases h:p.1=k
  ·rw[if_pos h]
   by_cases e:p.1=j
   ·rw[K1 (p:=(p.1,y)) e,K1 e,map_some,if_pos (e.symm.trans h)]
   ·rw[K4 (p:=(p.1,y)) e,K4 e,ih]
  ·rw[if_neg h]
   by_cases e:p.1=j
   ·rw[K1 (p:=p) e,K1 e,map_some,if_neg (λz=>h (e.trans z))]
   ·rw[K4 (p:=p) e,K4 e,ih]
theorem GQ(k j:κ)(y:V):∀kvs:List (κ×V),G0 kvs k=none->G0 (kvs++ [(k,y)]) j=if j=k then some y else G0 kvs j
 | [],_=>by
  by_cases e:k=j
  ·rw[if_pos e.symm];exact K1 (p:=(k,y)) e
  ·rw[if_neg (λz=>e z.symm)];exact K4 (p:=(k,y)) e
 |p::r,hn=>by
  rw[List.cons_append]
  have hk:¬p.1=k:=λz=>by rw[K1 z]at hn;cases hn
  rw[K4 hk]at hn
  have ih:=GQ k j y r hn
  by_cases e:p.1=j
  ·rw[K1 e,K1 e,if_neg (λz=>hk (e.trans z))]
  ·rw[K4 e,K4 e,ih]
theorem Y8(kvs:List (κ×V))(k j:κ)(y:V):G0 (D5 kvs k y) j=if j=k then some y else G0 kvs j:=by
 unfold D5
 by_cases a:(kvs.any λkv=>decide (kv.1=k))=true
 ·rw[if_pos a,JH]
  rw[U9]at a
  by_cases e:j=k
  ·obtain⟨x,hx⟩:=Option.isSome_iff_exists.mp a
   rw[if_pos e,e,hx,map_some,if_pos rfl]
  ·rw[if_neg e]
   cases G0 kvs j with
   |none=>rfl
   |some x=>rw[map_some,if_neg e]
 ·rw[if_neg a]
  refine GQ k j y kvs ?_
  rw[U9]at a
  cases q:G0 kvs k with
  |none=>rfl
  |some x=>rw[q]at a;exact(a rfl).elim
theorem DG(kvs:List (κ×V))(k:κ)(v:V):(D5 kvs k v).length<=kvs.length+1:=by
 unfold D5
 split
 ·rw[length_map];omega
 ·rw[length_append,length_cons,List.length_nil];omega
theorem RelO.isSome_eq{o:Option V}{u:Option Value}(r:RelO o u):o.isSome=u.isSome:=by
 cases o with
 |none=>cases u with
  |none=>rfl
  |some _=>exact(show False from r).elim
 |some _=>cases u with
  |none=>exact(show False from r).elim
  |some _=>rfl
theorem RelO.getD{o:Option V}{u:Option Value}{d:V}{d':Value}(r:RelO o u)(rd:RelV d d'):RelV (o.getD d) (u.getD d'):=by
 cases o with
 |none=>cases u with
  |none=>exact rd
  |some _=>exact(show False from r).elim
 |some _=>cases u with
  |none=>exact(show False from r).elim
  |some _=>exact r
theorem KV.val{kvs:List (κ×V)}{vs:List (κ×Value)}(r:KV kvs vs)(k:κ):RelO (G0 kvs k) (valueAt vs k):=by
 unfold KV at r
 induction r with
 |nil=>exact True.intro
 | @cons p q ps qs h t ih=>
  obtain⟨h1,h2⟩:=h
  by_cases e:p.1=k
  ·have e':q.1=k:=h1.symm.trans e
   have b:valueAt (q::qs) k=some q.2:=by simp[valueAt,find?_cons,e']
   rw[K1 e,b];exact h2
  ·have e':¬q.1=k:=λz=>e (h1.trans z)
   have b:valueAt (q::qs) k=valueAt qs k:=by simp[valueAt,find?_cons,e']
   rw[K4 e,b];exact ih
theorem KV.any{kvs:List (κ×V)}{vs:List (κ×Value)}(r:KV kvs vs)(k:κ):(kvs.any λkv=>decide (kv.1=k))=vs.any λkv=>decide (kv.1=k):=by
 unfold KV at r
 induction r with
 |nil=>rfl
 |cons h t ih=>rw[any_cons,any_cons,ih,h.1]
theorem KV.repl{kvs:List (κ×V)}{vs:List (κ×Value)}(r:KV kvs vs)(k:κ){y:V}{u:Value}(ry:RelV y u):
  KV (kvs.map λkv=>if kv.1=k then(kv.1,y)else kv) (vs.map λkv=>if kv.1=k then(kv.1,u)else kv):=by
 unfold KV at r⊢
 induction r with
 |nil=>exact .nil
 | @cons p q ps qs h t ih=>
  rw[map_cons,map_cons]
  refine .cons ?_ ih
  obtain⟨h1,h2⟩:=h
  by_cases e:p.1=k
  ·rw[if_pos e,if_pos (h1.symm.trans e)];exact⟨h1,ry⟩
  ·rw[if_neg e,if_neg (λz=>e (h1.trans z))];exact⟨h1,h2⟩
theorem KV.put{kvs:List (κ×V)}{vs:List (κ×Value)}(r:KV kvs vs)(k:κ){y:V}{u:Value}(ry:RelV y u):KV (D5 kvs k y) (stored vs k u):=by
 unfold D5 stored
 rw[r.any k]
 by_cases e:(vs.any λkv=>decide (kv.1=k))=true
 ·rw[if_pos e,if_pos e];exact r.repl k ry
 ·rw[if_neg e,if_neg e];exact Paired.snoc r ⟨rfl,ry⟩
theorem KV.drop{kvs:List (κ×V)}{vs:List (κ×Value)}(r:KV kvs vs)(k:κ):KV (J5 kvs k) (without vs k):=by
 unfold KV at r⊢
 unfold J5 without
 induction r with
 |nil=>exact .nil
 | @cons p q ps qs h t ih=>
  obtain⟨h1,h2⟩:=h
  rw[filter_cons,filter_cons]
  by_cases e:p.1=k
  ·have a:¬decide (p.1≠k)=true:=by simp[e]
   have b:¬decide (q.1≠k)=true:=by simp[h1.symm.trans e]
   rw[if_neg a,if_neg b];exact ih
  ·have e':¬q.1=k:=λz=>e (h1.trans z)
   have a:decide (p.1≠k)=true:=by simp[e]
   have b:decide (q.1≠k)=true:=by simp[e']
   rw[if_pos a,if_pos b];exact .cons ⟨h1,h2⟩ ih
theorem KV.length{kvs:List (κ×V)}{vs:List (κ×Value)}(r:KV kvs vs):kvs.length=vs.length:=Paired.length r
theorem RY(kvs:List (κ×V))(k:κ):(J5 kvs k).length<=kvs.length:=length_filter_le _ _
end
theorem DD{P:Program}{w:World}{k:Key}{u:Value}(r:RelV (kV k) u):(E9 P w).is k u=true:=by
 cases k with
 |inl i=>obtain⟨t,e⟩:=(show∃t,u=Value.int i t from r);subst e;exact KA P w i t
 |inr x=>obtain⟨t,e⟩:=(show∃t,u=Value.str x t from r);subst e;exact JY P w x t
theorem GH{P:Program}{w:World}:∀ {ks:List Key} {us:List Value},Vals (ks.map kV) us->ItemsAre (E9 P w) ks us
 | [],_,r=>by rw[map_nil]at r;cases r;exact .nil
 |k::ks,_,r=>by
  rw[map_cons]at r
  cases r with
  |cons h t=>exact .cons (DD h) (GH t)
abbrev KT(H:Hp):List (List Key×V)->List (List Key×Addr×Value)->Prop:=Paired λp q=>p.1=q.1/\H q.2.1=some (.tup (p.1.map kV))/\RelV p.2 q.2.2
theorem KT.val{H:Hp}{kvs:List (List Key×V)}{xs:List (List Key×Addr×Value)}(r:KT H kvs xs)(k:List Key):RelO (G0 kvs k) ((atKey xs k).map (·.2)):=by
 induction r with
 |nil=>exact True.intro
 | @cons p q ps qs h t ih=>
  obtain⟨h1,_,h2⟩:=h
  by_cases e:p.1=k
  ·have e':q.1=k:=h1.symm.trans e
   have b:atKey (q::qs) k=some q.2:=by simp[atKey,find?_cons,e']
   rw[K1 e,b];exact h2
  ·have e':¬q.1=k:=λz=>e (h1.trans z)
   have b:atKey (q::qs) k=atKey qs k:=by simp[atKey,find?_cons,e']
   rw[K4 e,b];exact ih
theorem KT.repl{H:Hp}{kvs:List (List Key×V)}{xs:List (List Key×Addr×Value)}(r:KT H kvs xs)(k:List Key){y:V}{u:Value}(ry:RelV y u):
  KT H (kvs.map λkv=>if kv.1=k then(kv.1,y)else kv) (xs.map (putAt k u)):=by
 induction r with
 |nil=>exact .nil
 | @cons p q ps qs h t ih=>
  rw[map_cons,map_cons]
  refine .cons ?_ ih
  obtain⟨h1,h2,h3⟩:=h
  unfold putAt
  by_cases e:p.1=k
  ·rw[if_pos e,if_pos (h1.symm.trans e)];exact⟨h1,h2,ry⟩
  ·rw[if_neg e,if_neg (λz=>e (h1.trans z))];exact⟨h1,h2,h3⟩
theorem KT.put{H:Hp}{kvs:List (List Key×V)}{xs:List (List Key×Addr×Value)}(r:KT H kvs xs)(k:List Key){b:Addr}{y:V}{u:Value}(hb:H b=some (.tup (k.map kV)))(ry:RelV y u):
  KT H (D5 kvs k y) (storedH xs k b u):=by
 have e:(kvs.any λkv=>decide (kv.1=k))=(atKey xs k).isSome:=by
  rw[U9,(r.val k).isSome_eq,Option.isSome_map]
 unfold D5 storedH
 rw[e]
 by_cases q:(atKey xs k).isSome=true
 ·rw[if_pos q,if_pos q];exact r.repl k ry
 ·rw[if_neg q,if_neg q];exact Paired.snoc r ⟨rfl,hb,ry⟩
theorem KT.keeps{H H':Hp}{kvs:List (List Key×V)}{xs:List (List Key×Addr×Value)}(r:KT H kvs xs)(ht:∀b ys,H b=some (.tup ys)->H' b=some (.tup ys)):KT H' kvs xs:=
 Paired.mapP r λ_ _ z=>⟨z.1,ht _ _ z.2.1,z.2.2⟩
section
variable{P:Program}{w:World}{H:Hp}{h:Heap}{a:Addr}
theorem VM{u:HO}(ok:HOk P w H h)(e:Rd H a u):ObjOk P w H h a u:=e.ok ok
theorem EN{kvs:List (Key×V)}(ok:HOk P w H h)(e:Rd H a (.dK kvs)):kvs.length<=sizeLine/\(a==sysModules)=false/\∃vs,KV kvs vs/\h.DictOf (E9 P w) a vs:=
 show ObjOk P w H h a (.dK kvs)from VM ok e
theorem PF{kvs:List (Key×V)}(ok:HOk P w H h)(e:H a=some (.dK kvs)):kvs.length<=sizeLine/\(a==sysModules)=false/\∃vs,KV kvs vs/\h.DictOf (E9 P w) a vs:=EN ok (.inl e)
theorem CO{ks:List Key}(ok:HOk P w H h)(e:H a=some (.tup (ks.map kV))):(tupleKind (E9 P w)).is h ks a:=by
 obtain⟨_,its,r,o,h1,h2,n,h3⟩:=(show ObjOk P w H h a (.tup (ks.map kV))from ok a _ e)
 exact⟨o,its.toArray,n,h1,h2,h3,by simpa using GH r⟩
theorem FG{kvs:List (List Key×V)}(ok:HOk P w H h)(e:Rd H a (.dT kvs)):kvs.length<=sizeLine/\(a==sysModules)=false/\
  ∃xs,KT H kvs xs/\h.DictOfH (tupleKind (E9 P w)) a xs:=by
 obtain⟨z,y,xs,r,o,es,ep,h1,h2,h3,h4,h5⟩:=(show ObjOk P w H h a (.dT kvs)from VM ok e)
 refine⟨z,y,xs,r,o,es,ep,h1,h2,h3,h4,λx hx=> ?_,h5⟩
 have all:∀ {l:List (List Key×V)} {m:List (List Key×Addr×Value)},KT H l m->∀x∈m,(tupleKind (E9 P w)).is h x.1 x.2.1:=by
  intro l m q
  induction q with
  |nil=>intro x hx;exact nomatch hx
  | @cons p q ps qs hq t ih=>
   intro x hx
   rcases cZ hx with e|hx
   ·subst e
    exact CO ok (by rw[<-hq.1];exact hq.2.1)
   ·exact ih x hx
 exact all r x hx
theorem ZP{kvs:List (List Key×V)}(ok:HOk P w H h)(e:H a=some (.dT kvs)):kvs.length<=sizeLine/\(a==sysModules)=false/\
  ∃xs,KT H kvs xs/\h.DictOfH (tupleKind (E9 P w)) a xs:=FG ok (.inl e)
end
def DGet(H:Hp)(a:Addr)(y:V)(r:Option V):Prop:=
 (∃kvs k,Rd H a (.dK kvs)/\y=kV k/\r=G0 kvs k)\/∃kvs k b,Rd H a (.dT kvs)/\y=.ref b/\H b=some (.tup (k.map kV))/\r=G0 kvs k
def DPut(H:Hp)(a:Addr)(y v:V)(H':Hp):Prop:=
 (∃kvs k,H a=some (.dK kvs)/\y=kV k/\kvs.length<sizeLine/\H'=upd H a (.dK (D5 kvs k v)))\/
 ∃kvs k b,H a=some (.dT kvs)/\y=.ref b/\H b=some (.tup (k.map kV))/\kvs.length<sizeLine/\H'=upd H a (.dT (D5 kvs k v))
theorem DGet.k{H:Hp}{a:Addr}{kvs:List (Key×V)}{k:Key}(e:H a=some (.dK kvs)):DGet H a (kV k) (G0 kvs k):=.inl ⟨kvs,k,.inl e,rfl,rfl⟩
theorem DPut.k{H:Hp}{a:Addr}{kvs:List (Key×V)}{k:Key}{v:V}(e:H a=some (.dK kvs))(hl:kvs.length<sizeLine):DPut H a (kV k) v (upd H a (.dK (D5 kvs k v))):=.inl ⟨kvs,k,e,rfl,hl,rfl⟩
section
variable{X:Cx}{pins:List (Addr×Obj)}{σ:St}{H:Hp}{s:Shared}{a:Addr}{y v:V}{u r:Value}{o:Option V}{A:Around}{E:Value->Shared->Prop}
theorem Inv.big(I:Inv X pins σ H s):sysModules<s.heap.objs.size:=by
 have h:mainGlobals<s.heap.objs.size:=(I.mod.glob.keeps I.bk).lt
 exact Nat.lt_trans (by decide) h
theorem OA{Q:Value->Shared->Prop}(hu:A.units+1<cLine)(I:Inv X pins σ H s)(g:DGet H a y (some v))(ry:RelV y u)(h:∀w' s',Inv X pins σ H s'->RelV v w'->Q w' s'):
  wpAny (model X.prog X.w) A (getItem (.ref a) u) Q E s:=by
 rcases g with⟨kvs,k,e,ey,l⟩|⟨kvs,k,b,e,ey,eb,l⟩
 ·subst ey
  obtain⟨z,hd,vs,rel,dd⟩:=EN I.hok e
  obtain⟨w',hw,rw'⟩:=RelO.some_of (v:=v) (o:=valueAt vs k) (by rw[l];exact rel.val k)
  exact wpAny_getItem_of (DD ry) dd.mapOf hw (h w' _ (I.tok _) rw')
 ·subst ey
  cases(show u=Value.ref b from ry)
  obtain⟨z,hd,xs,rel,dd⟩:=FG I.hok e
  obtain⟨w',hw,rw'⟩:=RelO.some_of (v:=v) (o:=(atKey xs k).map (·.2)) (by rw[l];exact rel.val k)
  obtain⟨p,hp,hp2⟩:=map_eq_some_iff.mp hw
  refine wpAny_getItem_heap (tupleKind_room_in1 hu) (CO I.hok eb) dd hp ?_
  rw[hp2]
  exact h w' _ (I.tok _) rw'
theorem aCZ{Q:Value->Shared->Prop}(hu:A.units+1<cLine)(I:Inv X pins σ H s)(g:DGet H a y o)(ry:RelV y u)(h:∀s',Inv X pins σ H s'->Q (.bool o.isSome) s'):
  wpAny (model X.prog X.w) A (compareOp .In u (.ref a)) Q E s:=by
 rcases g with⟨kvs,k,e,ey,l⟩|⟨kvs,k,b,e,ey,eb,l⟩
 ·subst ey
  obtain⟨z,hd,vs,rel,dd⟩:=EN I.hok e
  refine wpAny_in_of (DD ry) hd dd.mapOf ?_
  rw[<-(rel.val k).isSome_eq,<-l]
  exact h _ (I.tok _)
 ·subst ey
  cases(show u=Value.ref b from ry)
  obtain⟨z,hd,xs,rel,dd⟩:=FG I.hok e
  refine wpAny_in_heap (tupleKind_room_in1 hu) (CO I.hok eb) hd dd ?_
  have q:=(rel.val k).isSome_eq
  rw[Option.isSome_map]at q
  rw[<-q,<-l]
  exact h _ (I.tok _)
theorem UO{Q:Value->Shared->Prop}(hu:A.units+1<cLine)(I:Inv X pins σ H s)(g:DGet H a y o)(ry:RelV y u)(h:∀s',Inv X pins σ H s'->Q (.bool (!o.isSome)) s'):
  wpAny (model X.prog X.w) A (compareOp .NotIn u (.ref a)) Q E s:=by
 rcases g with⟨kvs,k,e,ey,l⟩|⟨kvs,k,b,e,ey,eb,l⟩
 ·subst ey
  obtain⟨z,hd,vs,rel,dd⟩:=EN I.hok e
  refine wpAny_notIn_of (DD ry) hd dd.mapOf ?_
  rw[<-(rel.val k).isSome_eq,<-l]
  exact h _ (I.tok _)
 ·subst ey
  cases(show u=Value.ref b from ry)
  obtain⟨z,hd,xs,rel,dd⟩:=FG I.hok e
  refine wpAny_notIn_heap (tupleKind_room_in1 hu) (CO I.hok eb) hd dd ?_
  have q:=(rel.val k).isSome_eq
  rw[Option.isSome_map]at q
  rw[<-q,<-l]
  exact h _ (I.tok _)
theorem IP{h':Heap}{t':Nat}{ob:HO}(I:Inv X pins σ H s)(mu:Mut (H a))(hs:Heap.SameBut a s.heap h')(he:∃q,h'.get? a=some q)(new:ObjOk X.prog X.w (upd H a ob) h' a ob):
  Inv X pins σ (upd H a ob) {s with heap:=h',toks:=t'}:=
 I.write (x:=a) (e:=a) mu (.inl rfl) (λb q hb z=>(hs.2 b hb).trans z) he new
theorem RV{P:Program}{w:World}{H':Hp}{h':Heap}{kvs:List (Key×V)}{vs:List (Key×Value)}(z:kvs.length<=sizeLine)(hd:(a==sysModules)=false)(rel:KV kvs vs)(dd:h'.DictOf (E9 P w) a vs):
  ObjOk P w H' h' a (.dK kvs):=⟨z,hd,vs,rel,dd⟩
theorem OM{H':Hp}{Q:Unit->Shared->Prop}(hu:A.units+1<cLine)(I:Inv X pins σ H s)(g:DPut H a y v H')(ry:RelV y u)(rv:RelV v r)(h:∀s',Inv X pins σ H' s'->Q () s'):
  wpAny (model X.prog X.w) A (setItem (.ref a) u r) Q E s:=by
 rcases g with⟨kvs,k,e,ey,l,eH⟩|⟨kvs,k,b,e,ey,eb,l,eH⟩
 ·subst ey eH
  obtain⟨z,hd,vs,rel,dd⟩:=PF I.hok e
  have hz:vs.length<=sizeLine:=by rw[<-rel.length];exact z
  have hl:(D5 kvs k v).length<=sizeLine:=by have:=DG kvs k v;omega
  refine wpAny_setItem_pairs (hsz:=hz) (DD ry) dd λh' dd' hs=>h _ ?_
  have he:∃q,h'.get? a=some q:=let⟨q,_,_,hq,_⟩:=dd';⟨q,hq⟩
  exact IP I (by rw[e];exact True.intro) hs he (RV hl hd (rel.put k rv) dd')
 ·subst ey eH
  cases(show u=Value.ref b from ry)
  obtain⟨z,hd,xs,rel,dd⟩:=ZP I.hok e
  have hz:xs.length<=sizeLine:=by rw[<-Paired.length rel];exact z
  have hl:(D5 kvs k v).length<=sizeLine:=by have:=DG kvs k v;omega
  refine wpAny_setItem_heap (hsz:=hz) (tupleKind_room_in1 hu) (CO I.hok eb) dd λh' dd' hs=>h _ ?_
  obtain⟨q,es,ep,hq,h2,h3,h4,_,h5⟩:=dd'
  refine IP I (by rw[e];exact True.intro) hs ⟨q,hq⟩ ⟨hl,hd,_,(rel.put k eb rv).keeps λc ys ec=> ?_,q,es,ep,hq,h2,h3,h4,h5⟩
  rw[B1 (YR ec e (λz=>nomatch z))]
  exact ec
variable{kvs:List (Key×V)}{k:Key}
theorem YN{v:V}{more:List Value}{Q:Value->Shared->Prop}(I:Inv X pins σ H s)(e:H a=some (.dK kvs))(ry:RelV (kV k) u)(l:G0 kvs k=some v)(hm:more=[]\/∃x,more=[x])
  (h:∀w' s',Inv X pins σ (upd H a (.dK (J5 kvs k))) s'->RelV v w'->Q w' s'):wpAny (model X.prog X.w) A (call (.builtin "dict.pop") (.ref a::u::more)) Q E s:=by
 obtain⟨z,hd,vs,rel,dd⟩:=PF I.hok e
 obtain⟨w',hw,rw'⟩:=RelO.some_of (v:=v) (o:=valueAt vs k) (by rw[<-l];exact rel.val k)
 have hp:(keyPart u).isSome=true:=by
  cases k with
  |inl i=>obtain⟨t,q⟩:=(show∃t,u=Value.int i t from ry);subst q;rfl
  |inr x=>obtain⟨t,q⟩:=(show∃t,u=Value.str x t from ry);subst q;rfl
 have ha:argsOk "dict.pop" ⟨.ref a::u::more,[]⟩:=by
  rcases hm with q|⟨x,q⟩
  ·subst q;exact PySem.F.args_dict_pop_2 _ _
  ·subst q;exact PySem.F.args_dict_pop_3 _ _ _
 refine call_meetsIn PySem.F.slot_dict_pop dd.typeIs PySem.F.entry_dict_pop ha (meets_dict_pop_there (E9 X.prog X.w) a (DD ry) more hm hp)
  ⟨vs,w',dd,by rw[<-rel.length];exact z,hw,λh' dd' hs=>h w' _ ?_ rw'⟩
 have he:∃q,h'.get? a=some q:=let⟨q,_,_,hq,_⟩:=dd';⟨q,hq⟩
 exact IP I (by rw[e];exact True.intro) hs he (RV (le_trans (RY kvs k) z) hd (rel.drop k) dd')
theorem XS{r:Value}{Q:Value->Shared->Prop}(I:Inv X pins σ H s)(e:H a=some (.dK kvs))(ry:RelV (kV k) u)(l:G0 kvs k=none)(h:∀s',Inv X pins σ H s'->Q r s'):
  wpAny (model X.prog X.w) A (call (.builtin "dict.pop") [.ref a,u,r]) Q E s:=by
 obtain⟨z,hd,vs,rel,dd⟩:=PF I.hok e
 have hn:valueAt vs k=none:=RelO.none_of (by rw[<-l];exact rel.val k)
 have hp:(keyPart u).isSome=true:=by
  cases k with
  |inl i=>obtain⟨t,q⟩:=(show∃t,u=Value.int i t from ry);subst q;rfl
  |inr x=>obtain⟨t,q⟩:=(show∃t,u=Value.str x t from ry);subst q;rfl
 exact call_meetsIn PySem.F.slot_dict_pop dd.typeIs PySem.F.entry_dict_pop (PySem.F.args_dict_pop_3 _ _ _) (meets_dict_pop_default (E9 X.prog X.w) a (DD ry) hd hp r) ⟨vs,dd,hn,h _ (I.tok _)⟩
end
def asZ(i:Expr):Prop:=∀ov iv,subscripted i false ov iv=operate [ov,iv] (getItem ov iv)
theorem TJ{prog:Program}{w:World}{A:Around}{E:Value->Shared->Prop}{s:Shared}{env:Env}{value slice:Expr}{pos:Pos}{T id:String}{Q:Value->Shared->Prop}
  (hl:typeLookup (.type T) "__getitem__"=pure (some (.builtin id)))(hs:asZ slice)
  (h:wpAny (model prog w) A (eval value env) (λo s₁=>wpAny (model prog w) A (eval slice env) (λi s₂=>s₂.TypeIs o T/\wpAny (model prog w) A (getItem o i) Q E s₂) E s₁) E s):
  wpAny (model prog w) A (eval (.Subscript value slice pos) env) Q E s:=by
 refine Subscript_ (wpAny_mono h (λo s₁ h₁=>wpAny_mono h₁ (λi s₂ h₂=> ?_) λ_ _ x=>x) λ_ _ x=>x)
 obtain⟨hT,h₂⟩:=h₂
 unfold subscriptTail
 refine bZ ?_
 rw[getitemInPython_of_ne hT.not_modules]
 refine bZ (wpAny_specialOf hT hl ?_)
 have fin:wpAny (model prog w) A (subscripted slice false o i) (λr s₃=>wpAny (model prog w) A (letTemporaryGo value o r>>=λ_=>pure r) Q E s₃) E s₂:=by
  rw[hs o i]
  exact wpAny_operating (wpAny_mono h₂ (λr s₃ h₃=>bZ (wpAny_letTemporaryGo (pZ h₃))) λ_ _ x=>x)
 first
  |exact pZ (bZ fin)
  |exact bZ (pZ (bZ fin))
  |exact bZ fin
theorem JZ{X:Cx}{pins:List (Addr×Obj)}{σ:St}{H:Hp}{s:Shared}{a:Addr}{y:V}{o:Option V}(I:Inv X pins σ H s)(g:DGet H a y o):s.TypeIs (.ref a) "dict":=by
 rcases g with⟨kvs,k,e,_,_⟩|⟨kvs,k,b,e,_,_,_⟩
 ·obtain⟨_,_,vs,_,dd⟩:=EN I.hok e
  exact dd.typeIs
 ·obtain⟨_,_,xs,_,dd⟩:=FG I.hok e
  exact dd.typeIs
inductive tDGetW (Q:VK) (x y:V) (H2:Hp):Prop
 |mk:∀a v,(x=.ref a)->(DGet H2 a y (some v))->(Q v H2)->tDGetW Q x y H2
def YO(td ty:TE):TE:=fun σ H Q=>td σ H λx H1=>ty σ H1 λy H2=>tDGetW Q x y H2
section
variable{X:Cx}{o i e value:Expr}{pos pos' tpos:Pos}{td ty tv:TE}
theorem HW(hu:X.A.units+1<cLine)(ho:PE X o td)(hi:PE X i ty)(hs:asZ i):PE X (.Subscript o i pos) (YO td ty):=by
 intro pins s σ H Q I h
 refine TJ PySem.F.slot_dict_getitem.lookup hs (thn (ho pins s σ H _ I h) λu s1 ⟨x,H1,I1,rx,q1⟩=>thn (hi pins s1 σ H1 _ I1 q1) λiv s2 ⟨y,H2,I2,ry,a,v,ex,g,q2⟩=> ?_)
 subst ex
 obtain rfl:u=Value.ref a:=rx
 exact⟨JZ I2 g,OA hu I2 g ry λw' s3 I3 rw'=>⟨v,H2,I3,rw',q2⟩⟩
end
theorem SO{P:Program}{w:World}{H:Hp}(h:Heap)(hb:sysModules<h.objs.size):ObjOk P w H (h.push {cls:=.type "dict",data:=.dict #[]}) h.objs.size (.dK []):=
 ⟨zero_le _,beq_eq_false_iff_ne.mpr (Ne.symm (ne_of_lt hb)),[],.nil,Heap.DictOf.new h⟩
def VR:TE:=λ_ H Q=>∀p,H p=none->Q (.ref p) (upd H p (.dK []))
section
variable{X:Cx}{pos:Pos}
theorem BL:PE X (.Dict [] [] pos) VR:=λpins s σ H Q I h=>
 wpAny_Dict_empty ⟨.ref s.heap.objs.size,_,I.laid (a:=s.heap.objs.size) (o:=.dK []) (t':=s.toks) (λ_ _ q=>gZ _ q) (le_refl _) (SO s.heap I.big),rfl,h _ (I.hok.fresh (le_refl _))⟩
end
structure M2 (X:Cx) (o:Expr) (m:Str) (apos:Pos) (e f:Expr) (cpos:Pos):Prop where
 base:attributeBase o m X.env (eval o X.env)=eval o X.env
 few:((backTo cpos (starEach [e,f] X.env)).all (λx=> !x.1)&&(backToKw cpos (keywordEach [] X.env)).all (λx=>x.1.isSome)
  &&decide (([e,f]:List Expr).length+([]:List Keyword).length+(if([]:List Keyword).isEmpty then 0 else 1)<30))=true
 line:(apos.endLine==cpos.line)=true
 trees:backTo cpos (starEach [e,f] X.env)=[(false,eval e X.env),(false,eval f X.env)]
def IsD(H:Hp)(a:Addr):Prop:=(∃kvs,Rd H a (.dK kvs))\/∃kvs,Rd H a (.dT kvs)
theorem QC{X:Cx}{pins:List (Addr×Obj)}{σ:St}{H:Hp}{s:Shared}{a:Addr}(I:Inv X pins σ H s)(d:IsD H a):
  s.TypeIs (.ref a) "dict"/\(∀b,Value.ref a=.ref b->∃ob,s.heap.get? b=some ob/\ob.dict=none)/\(a==sysModules)=false:=by
 rcases d with⟨kvs,e⟩|⟨kvs,e⟩
 ·obtain⟨_,hd,vs,_,dd⟩:=EN I.hok e
  refine⟨dd.typeIs,λb q=> ?_,hd⟩
  cases q
  obtain⟨ob,_,_,h1,h2,_⟩:=dd
  exact⟨ob,h1,h2.2.1⟩
 ·obtain⟨_,hd,xs,_,dd⟩:=FG I.hok e
  refine⟨dd.typeIs,λb q=> ?_,hd⟩
  cases q
  obtain⟨ob,_,_,h1,h2,_⟩:=dd
  exact⟨ob,h1,h2.2.1⟩
section
variable{X:Cx}{pins:List (Addr×Obj)}{σ:St}{H:Hp}{s:Shared}{a:Addr}{y d:V}{u r:Value}{o:Option V}{A:Around}{E:Value->Shared->Prop}
theorem YJ{Q:Value->Shared->Prop}(hu:A.units+1<cLine)(I:Inv X pins σ H s)(g:DGet H a y o)(ry:RelV y u)(rd:RelV d r)(h:∀w' s',Inv X pins σ H s'->RelV (o.getD d) w'->Q w' s'):
  wpAny (model X.prog X.w) A (call (.builtin "dict.get") [.ref a,u,r]) Q E s:=by
 rcases g with⟨kvs,k,e,ey,l⟩|⟨kvs,k,b,e,ey,eb,l⟩
 ·subst ey
  obtain⟨z,hd,vs,rel,dd⟩:=EN I.hok e
  refine call_meetsIn PySem.F.slot_dict_get dd.typeIs PySem.F.entry_dict_get (PySem.F.args_dict_get_3 _ _ _) (meets_dict_get_default (E9 X.prog X.w) a (DD ry) hd r) ⟨_,dd.mapOf,h _ _ (I.tok _) ?_⟩
  rw[l]
  exact(rel.val k).getD rd
 ·subst ey
  cases(show u=Value.ref b from ry)
  obtain⟨z,hd,xs,rel,dd⟩:=FG I.hok e
  refine call_meetsIn PySem.F.slot_dict_get dd.typeIs PySem.F.entry_dict_get (PySem.F.args_dict_get_3 _ _ _) (meetsH_dict_get_default (tupleKind (E9 X.prog X.w)) a b hd r) ⟨tupleKind_room_in1 hu,k,xs,CO I.hok eb,dd,h _ _ (I.tok _) ?_⟩
  rw[l]
  exact(rel.val k).getD rd
end
def WG(td ty tx:TE):TE:=fun σ H Q=>td σ H λx H1=>∃a,x=.ref a/\IsD H1 a/\ty σ H1 λy H2=>tx σ H2 λz H3=>∃o,DGet H3 a y o/\Q (o.getD z) H3
def VV(td ty tx:TE):TE:=fun σ H Q=>td σ H λx H1=>∃a,x=.ref a/\IsD H1 a/\ty σ H1 λy H2=>tx σ H2 λz H3=>∃kvs k,H3 a=some (.dK kvs)/\y=kV k/\
 (∀v,G0 kvs k=some v->Q v (upd H3 a (.dK (J5 kvs k))))/\(G0 kvs k=none->Q z H3)
section
variable{X:Cx}{o e f:Expr}{apos cpos:Pos}{td ty tx:TE}
theorem IY(hu:X.A.units+1<cLine)(ho:PE X o td)(he:PE X e ty)(hf:PE X f tx)(m:M2 X o "get" apos e f cpos):PE X (.Call (.Attribute o "get" apos) [e,f] [] cpos) (WG td ty tx):=by
 intro pins s σ H Q I h
 refine wpAny_Call_method m.base m.few m.line PySem.F.plainAttrs_dict PySem.F.slot_dict_get PySem.F.type_dict_get (thn (ho pins s σ H _ I h) λu s1 ⟨x,H1,I1,rx,a,ex,d,q1⟩=> ?_)
 subst ex
 obtain rfl:u=Value.ref a:=rx
 obtain⟨t1,t2,_⟩:=QC I1 d
 refine⟨t1,t2, ?_⟩
 rw[m.trees]
 refine Calls.callWith_builtin rfl (Calls.evalArgs_plain (Calls.spliced_cons (thn (he pins s1 σ H1 _ I1 q1) λiv s2 ⟨y,H2,I2,ry,q2⟩=>
  Calls.spliced_cons (thn (hf pins s2 σ H2 _ I2 q2) λfv s3 ⟨z,H3,I3,rz,ov,g,q3⟩=>Calls.spliced_nil ?_))))
 exact YJ hu I3 g ry rz λw' s4 I4 rw'=>⟨_,H3,I4,rw',q3⟩
theorem SE(ho:PE X o td)(he:PE X e ty)(hf:PE X f tx)(m:M2 X o "pop" apos e f cpos):PE X (.Call (.Attribute o "pop" apos) [e,f] [] cpos) (VV td ty tx):=by
 intro pins s σ H Q I h
 refine wpAny_Call_method m.base m.few m.line PySem.F.plainAttrs_dict PySem.F.slot_dict_pop PySem.F.type_dict_pop (thn (ho pins s σ H _ I h) λu s1 ⟨x,H1,I1,rx,a,ex,d,q1⟩=> ?_)
 subst ex
 obtain rfl:u=Value.ref a:=rx
 obtain⟨t1,t2,_⟩:=QC I1 d
 refine⟨t1,t2, ?_⟩
 rw[m.trees]
 refine Calls.callWith_builtin rfl (Calls.evalArgs_plain (Calls.spliced_cons (thn (he pins s1 σ H1 _ I1 q1) λiv s2 ⟨y,H2,I2,ry,q2⟩=>
  Calls.spliced_cons (thn (hf pins s2 σ H2 _ I2 q2) λfv s3 ⟨z,H3,I3,rz,kvs,k,ea,ey,q3,q4⟩=>Calls.spliced_nil ?_))))
 subst ey
 cases l:G0 kvs k with
 |some v=>exact YN I3 ea ry l (.inr ⟨fv,rfl⟩) λw' s4 I4 rw'=>⟨v,_,I4,rw',q3 v l⟩
 |none=>exact XS I3 ea ry l λs4 I4=>⟨z,H3,I4,rz,q4 l⟩
variable{pins:List (Addr×Obj)}{σ:St}{H:Hp}{s:Shared}{a:Addr}{kvs:List (Key×V)}{A:Around}{E:Value->Shared->Prop}
variable{y:V}{u:Value}
def aJZ:R2:=λx y H Q=>∃a o,y=.ref a/\DGet H a x o/\Q (.bl o.isSome) H
def TC:R2:=λx y H Q=>∃a o,y=.ref a/\DGet H a x o/\Q (.bl (!o.isSome)) H
theorem anZ(hu:X.A.units+64<cLine):OpR X (compareOp .In) aJZ:=by
 intro pins s σ H x y v u Q I rx ry h
 obtain⟨a,o,rfl,g,q⟩:=h
 cases ry
 exact aCZ (by omega) I g rx λs' I'=>⟨.bl o.isSome,H,I',rfl,q⟩
theorem MM(hu:X.A.units+64<cLine):OpR X (compareOp .NotIn) TC:=by
 intro pins s σ H x y v u Q I rx ry h
 obtain⟨a,o,rfl,g,q⟩:=h
 cases ry
 exact UO (by omega) I g rx λs' I'=>⟨.bl (!o.isSome),H,I',rfl,q⟩
def ZN:V->V->V->Hp->(Hp->Prop)->Prop:=λo i v H Q=>∃a H',o=.ref a/\DPut H a i v H'/\Q H'
theorem Q9(hu:X.A.units+64<cLine):YY X ZN:=by
 intro pins s σ H o i v ov iv u Q I ro ri rv h
 obtain⟨a,H',rfl,g,q⟩:=h
 cases ro
 exact OM (by omega) I g ri rv λs' I'=>⟨H',I',q⟩
end
end L2
namespace PySem
namespace ZT
set_option maxHeartbeats 2000000 in
theorem JP(t:Bool)(l:Addr)(xs:Array Value):
  Meets (Builtin.«enumerate.__new__» ⟨[.type "enumerate",.ref l],[]⟩) (λ_ R s=>IsSq t s.heap l xs/\
   R (.ok (.ret (.ref (s.heap.objs.size+1)))) {s with heap:=(s.heap.push (itO t l)).push {cls:=.type "enumerate",data:=.fields #[.none,.bool false,.ref s.heap.objs.size,rawInt 0,.none,.none]}}):=by
 refine .of_wp λprog w A R s h=> ?_
 obtain⟨hp,g,d,tk,os⟩:=s
 obtain⟨hl,h⟩:=h
 have hsub:=sub_enumerate
 have hz:(hp.push (itO t l)).objs.size=hp.objs.size+1:=size_push ..
 have h2:R (.ok (.ret (.ref (hp.objs.size+1)))) ⟨(hp.push (itO t l)).push {cls:=.type "enumerate",data:=.fields #[.none,.bool false,.ref hp.objs.size,rawInt 0,.none,.none]},g,d,tk,os⟩:=h
 rw[<-hz]at h2
 cases t
 ·have hL:Heap.IsList (Shared.heap ⟨hp,g,d,tk,os⟩) l xs:=hl
  wp_walk using wpAny_pyIter_list hL
  refine wpAny_stack_any λst=>pZ ?_
  split
  ·rename_i c _ _ _ _ _
   cases(c==Value.type "enumerate")
   all_goals
    wp_walk using wpAny_pyIter_list hL
    exact⟨_,rfl,h2⟩
  ·wp_walk using wpAny_pyIter_list hL
   exact⟨_,rfl,h2⟩
 ·have hL:Heap.IsTuple (Shared.heap ⟨hp,g,d,tk,os⟩) l xs:=hl
  wp_walk using wpAny_pyIter_tuple hL
  refine wpAny_stack_any λst=>pZ ?_
  split
  ·rename_i c _ _ _ _ _
   cases(c==Value.type "enumerate")
   all_goals
    wp_walk using wpAny_pyIter_tuple hL
    exact⟨_,rfl,h2⟩
  ·wp_walk using wpAny_pyIter_tuple hL
   exact⟨_,rfl,h2⟩
section
variable{prog:Program}{w:World}{A:Around}{E:Value->Shared->Prop}{s:Shared}
theorem call_enum0{t:Bool}{l:Addr}{xs:Array Value}{Q:Value->Shared->Prop}(hL:IsSq t s.heap l xs)
  (h:∀h',IsEnum h' (s.heap.objs.size+1) s.heap.objs.size 0 .none->IsIt t h' s.heap.objs.size l 0->(∀b o,s.heap.get? b=some o->h'.get? b=some o)->Q (.ref (s.heap.objs.size+1)) {s with heap:=h'}):
  wpAny (model prog w) A (call (.type "enumerate") [.ref l]) Q E s:=by
 refine callType_new F.called_enumerate (by decide) (F.typeCall_enumerate_1 _) (F.newCall_enumerate_1 _) (λobj=>F.args_object_init_2 obj _) F.entry_enumerate_new
  (JP t l xs) ⟨hL, ?_⟩
 have hz:(s.heap.push (itO t l)).objs.size=s.heap.objs.size+1:=size_push ..
 have he:IsEnum ((s.heap.push (itO t l)).push {cls:=.type "enumerate",data:=.fields #[.none,.bool false,.ref s.heap.objs.size,rawInt 0,.none,.none]})
   (s.heap.objs.size+1) s.heap.objs.size 0 .none:=by rw[<-hz];exact get?_push_size _ rfl
 have g1:((s.heap.push (itO t l)).push {cls:=.type "enumerate",data:=.fields #[.none,.bool false,.ref s.heap.objs.size,rawInt 0,.none,.none]}).get? s.heap.objs.size=some (itO t l):=gZ _ (get?_push_size _ (by cases t<;>rfl))
 refine⟨⟨_,he,rfl⟩,h _ he ?_ λb o x=>gZ _ (gZ _ x)⟩
 cases t
 ·exact⟨_,g1,rfl,rfl⟩
 ·exact⟨_,g1,rfl,rfl⟩
theorem PY{t:Bool}{e c l:Addr}{i:Nat}{j:Int}{its:Array Value}{x o0:Value}{Q:Value->Shared->Prop}(hE:IsEnum s.heap e c j o0)(hC:IsIt t s.heap c l i)(hL:IsSq t s.heap l its)(hX:its[i]? =some x)(ne:e≠c)
  (q:∀h',IsEnumOut h' e c (j+1) x s.heap.objs.size->IsIt t h' c l (i+1)->h'.get? s.heap.objs.size=some {cls:=.type "tuple",data:=.seq #[.int j s.toks,x]}->
   (∀b o,b≠e->b≠c->s.heap.get? b=some o->h'.get? b=some o)->Q (.ref s.heap.objs.size) {s with heap:=h',toks:=s.toks+1}):
  wpAny (model prog w) A (Builtin.«enumerate.__next__» ⟨[.ref e],[]⟩) (λfin s'=>∃v,fin=.done (.ret v)/\Q v s') E s:=by
 obtain⟨h0,g,d,tk,os⟩:=s
 refine bZ (m:=field (.ref e) 2) (wpAny_field hE rfl (x:=.ref c) rfl (bZ (AI hC hL hX λh1 c1 (b1:Heap.SameBut c h0 h1)=> ?_)))
 have e1:IsEnum h1 e c j o0:=(b1.2 e ne).trans hE
 refine bZ (m:=field (.ref e) 3) (wpAny_field e1 rfl (x:=rawInt j) rfl ?_)
 refine bZ (m:=field (.ref e) 4) (wpAny_field e1 rfl (x:=.none) rfl ?_)
 refine bZ (m:=mkInt j) (wpAny_mkInt ?_)
 refine bZ (m:=setField (.ref e) 3 (rawInt (j+1))) (wpAny_setField_rec e1 (by simp) λh2 (e2:IsEnum h2 e c (j+1) o0) (b2:Heap.SameBut e h1 h2)=> ?_)
 refine bZ (m:=setField (.ref e) 4 .none) (wpAny_setField_rec e2 (by simp) λh3 (e3:IsEnum h3 e c (j+1) o0) (b3:Heap.SameBut e h2 h3)=> ?_)
 refine bZ (m:=newTuple [.int j tk,x]) (wpAny_newTuple ?_)
 have zz:h3.objs.size=h0.objs.size:=by rw[b3.1,b2.1,b1.1]
 have lt:e<h0.objs.size:=lt_size hE
 have e4:IsEnum (h3.push {cls:=.type "tuple",data:=.seq #[.int j tk,x]}) e c (j+1) o0:=gZ _ e3
 have t4:(h3.push {cls:=.type "tuple",data:=.seq #[.int j tk,x]}).get? h0.objs.size=some {cls:=.type "tuple",data:=.seq #[.int j tk,x]}:=by rw[<-zz];exact get?_push_size _ rfl
 have k4:∀b o,b≠e->b≠c->h0.get? b=some o->(h3.push {cls:=.type "tuple",data:=.seq #[.int j tk,x]}).get? b=some o:=λb o n1 n2 q=>
  gZ _ (b3.extBut b o n1 (b2.extBut b o n1 (b1.extBut b o n2 q)))
 have c4:IsIt t (h3.push {cls:=.type "tuple",data:=.seq #[.int j tk,x]}) c l (i+1):=
  ((c1.extBut b2.extBut (Ne.symm ne)).extBut b3.extBut (Ne.symm ne)).at λo ho=>gZ _ ho
 rw[show(⟨h3,g,d,tk+1,os⟩:Shared).heap.objs.size=h0.objs.size from zz]
 generalize h3.push {cls:=.type "tuple",data:=.seq #[.int j tk,x]}=h4 at e4 t4 k4 c4
 clear e3 b3 e2 b2 e1 b1 c1 zz
 refine bZ (m:=Builtin.SmallTypes.ownedTupleIsFree (.ref e)) ?_
 unfold Builtin.SmallTypes.ownedTupleIsFree
 refine bZ (wpAny_field e4 rfl (x:=.none) rfl (pZ ?_))
 simp only[if_true]
 refine bZ (wpAny_rule (bZ (wpAny_field e4 rfl (x:=o0) rfl (bZ (wpAny_setField_rec e4 (by simp) λh5 (e5:IsEnum h5 e c (j+1) x) (b5:Heap.SameBut e h4 h5)=> ?_)))))
 refine bZ (m:=Builtin.SmallTypes.ownedTupleHandOut (.ref e) (.ref h0.objs.size)) ?_
 unfold Builtin.SmallTypes.ownedTupleHandOut
 refine bZ (wpAny_setField_rec e5 (by simp) λh6 (e6:IsEnumOut h6 e c (j+1) x h0.objs.size) (b6:Heap.SameBut e h5 h6)=> ?_)
 refine wpAny_setField_rec e6 (by simp) λh7 (e7:IsEnumOut h7 e c (j+1) x h0.objs.size) (b7:Heap.SameBut e h6 h7)=> ?_
 refine bZ (wpAny_letGo (pZ ⟨_,rfl,q h7 e7 (((c4.extBut b5.extBut (Ne.symm ne)).extBut b6.extBut (Ne.symm ne)).extBut b7.extBut (Ne.symm ne)) ?_ ?_⟩))
 ·exact b7.extBut _ _ (ne_of_gt lt) (b6.extBut _ _ (ne_of_gt lt) (b5.extBut _ _ (ne_of_gt lt) t4))
 ·exact λb o n1 n2 q=>b7.extBut b o n1 (b6.extBut b o n1 (b5.extBut b o n1 (k4 b o n1 n2 q)))
theorem enumGoes{t:Bool}{e c l:Addr}{i:Nat}{j:Int}{its:Array Value}{x o0:Value}{Q:Option Value->Shared->Prop}(hE:IsEnum s.heap e c j o0)(hC:IsIt t s.heap c l i)(hL:IsSq t s.heap l its)(hX:its[i]? =some x)(ne:e≠c)
  (q:∀h',IsEnumOut h' e c (j+1) x s.heap.objs.size->IsIt t h' c l (i+1)->h'.get? s.heap.objs.size=some {cls:=.type "tuple",data:=.seq #[.int j s.toks,x]}->
   (∀b o,b≠e->b≠c->s.heap.get? b=some o->h'.get? b=some o)->Q (some (.ref s.heap.objs.size)) {s with heap:=h',toks:=s.toks+1}):wpAny (model prog w) A (pyNext (.ref e)) Q E s:=by
 have ty:s.TypeIs (.ref e) "enumerate":=⟨_,hE,rfl⟩
 unfold pyNext
 exact bZ (wpAny_attempt (wpAny_callSpecial?_slot (name:=Str.ofString "__next__") ty F.slot_enumerate_next (wpAny_call_entry F.slot_enumerate_next ty F.entry_enumerate_next
   (PY hE hC hL hX ne λh' a b c k=>pZ (q h' a b c k)) (F.args_enumerate_next_1 _))))
theorem enumEnds{t:Bool}{e c l:Addr}{i:Nat}{j:Int}{its:Array Value}{o0:Value}{Q:Option Value->Shared->Prop}(hh:A.handled=none)(hE:IsEnum s.heap e c j o0)(hC:IsIt t s.heap c l i)(hL:IsSq t s.heap l its)(hX:its[i]? =none)
  (q:∀h',Heap.ExtBut c s.heap h'->Q none {s with heap:=h'}):wpAny (model prog w) A (pyNext (.ref e)) Q E s:=by
 have ty:s.TypeIs (.ref e) "enumerate":=⟨_,hE,rfl⟩
 unfold pyNext
 refine bZ (wpAny_attempt (wpAny_callSpecial?_slot (name:=Str.ofString "__next__") ty F.slot_enumerate_next (wpAny_call_entry F.slot_enumerate_next ty F.entry_enumerate_next ?_ (F.args_enumerate_next_1 _))))
 refine bZ (m:=field (.ref e) 2) (wpAny_field hE rfl (x:=.ref c) rfl (bZ (EM hh hC hL hX λh' x he' hx'=> ?_)))
 obtain⟨o,ho,hc⟩:=hx'
 exact bZ (wpAny_isInstance (T:="StopIteration") (b:=true) ⟨o,ho,hc⟩ isSubtype_stop (pZ (q _ he')))
end
end ZT
end PySem
namespace L2
open PySem PySem.Spec PyProof.Rows
def SqX(t:Bool)(K:FZ)(H:Hp)(a:Addr)(xs:List V):Prop:=if t then SqT K H a xs else SqL K H a xs
section
variable{X:Cx}{pins:List (Addr×Obj)}{σ:St}{H:Hp}{s:Shared}{a:Addr}{xs ys:List V}{t:Bool}
theorem Inv.sqx(I:Inv X pins σ H s)(h:SqX t X.K H a xs):∃its:List Value,Vals xs its/\ZT.IsSq t s.heap a its.toArray/\xs.length<=sizeLine:=by
 cases t
 ·obtain⟨its,rv,p,hz⟩:=I.list h
  exact⟨its,rv,p.isList,hz⟩
 ·obtain⟨its,rv,p,hz⟩:=I.tuple h
  exact⟨its,rv,p,hz⟩
theorem Inv.sqx_inj(I:Inv X pins σ H s)(h:SqX t X.K H a xs)(h':SqX t X.K H a ys):xs=ys:=by
 cases t
 ·exact I.list_inj h h'
 ·exact I.tuple_inj h h'
end
def Itx(t:Bool)(K:FZ)(l:Addr):It:=
 ⟨λi H=>∃xs x,SqX t K H l xs/\xs[i]? =some x,
  λi H v H'=>∃T x,(∀xs,SqX t K H l xs->xs[i]? =some x)/\H T=none/\v=.ref T/\H'=upd H T (.tup [.int (i:Nat),x]),
  λi H=>∃xs,SqX t K H l xs/\xs.length<=i⟩
def EnX(t:Bool)(e c l:Addr)(i:Nat)(h:Heap):Prop:=(∃o0,IsEnum h e c (i:Nat) o0)/\ZT.IsIt t h c l i
theorem EG{t:Bool}{h:Heap}{c l:Addr}{i:Nat}(x:ZT.IsIt t h c l i):∃o,h.get? c=some o/\∀v,o.data≠ .cell v:=by
 cases t
 ·obtain⟨o,e,c,d⟩:=(show h.IsListIter c l i from x)
  exact⟨o,e,λv q=>by rw[d]at q;cases q⟩
 ·obtain⟨o,e,c,d⟩:=(show h.IsTupleIter c l i from x)
  exact⟨o,e,λv q=>by rw[d]at q;cases q⟩
theorem LN{P:Program}{w:World}{K:FZ}{elts:List Expr}{kt:Nat}{pt:Pos}{e c l:Addr}{t:Bool}(ne:e≠c):Turn P w K (.Tuple elts kt pt) (Itx t K l) [e,c] e (EnX t e c l) where
 mem:=by simp
 obj:=λi h st b hb=>by
  obtain⟨⟨o0,h1⟩,h2⟩:=st
  simp only[mem_cons,not_mem_nil,or_false]at hb
  rcases hb with rfl|rfl
  ·exact⟨_,h1,λv q=>by cases q⟩
  ·exact EG h2
 keep:=λi h h' st k=>by
  obtain⟨⟨o0,h1⟩,h2⟩:=st
  exact⟨⟨o0,k e (by simp) _ h1⟩,h2.at λo q=>k c (by simp) o q⟩
 item:=by
  intro X hP hw hK hc i pins s σ H E I hf st hg
  subst hP hw hK
  obtain⟨xs,x,q1,hx⟩:=hg
  obtain⟨⟨o0,h1⟩,h2⟩:=st
  obtain⟨its,rv,p,hsz⟩:=I.sqx q1
  obtain⟨u,hu,ru⟩:=rv.get hx
  refine ZT.enumGoes h1 h2 p (x:=u) (by simpa using hu) ne λh' a1 a2 a3 hk=> ?_
  have hT0:H s.heap.objs.size=none:=I.hok.fresh (le_refl _)
  have J1:Inv X pins σ (upd H s.heap.objs.size (.tup [.int (i:Nat),x])) {s with heap:=s.heap.push {cls:=.type "tuple",data:=.seq #[.int (i:Nat) s.toks,u]},toks:=s.toks+1}:=
   I.laid (t':=s.toks+1) (λb o e=>gZ _ e) (le_refl _) (show ObjOk X.prog X.w _ _ _ (.tup [.int (i:Nat),x])from⟨(by show 2<=sizeLine;decide),[.int (i:Nat) s.toks,u],.cons ⟨_,rfl⟩ (.cons ru .nil),IsTup.new _ _⟩)
  have lt:∀b∈ [e,c],b≠s.heap.objs.size:=λb hb=>by
   simp only[mem_cons,not_mem_nil,or_false]at hb
   rcases hb with rfl|rfl
   ·exact ne_of_lt (lt_size h1)
   ·obtain⟨o,e⟩:=h2.live;exact ne_of_lt (lt_size e)
  have hf2:∀b∈ [e,c],DJ X pins (upd H s.heap.objs.size (.tup [.int (i:Nat),x])) b:=λb hb=>⟨by rw[B1 (lt b hb)];exact(hf b hb).1,(hf b hb).2⟩
  have J2:Inv X pins σ (upd H s.heap.objs.size (.tup [.int (i:Nat),x])) {s with heap:=h',toks:=s.toks+1}:=Inv.turnedL (s:={s with heap:=s.heap.push {cls:=.type "tuple",data:=.seq #[.int (i:Nat) s.toks,u]},toks:=s.toks+1}) (t':=s.toks+1) (h':=h') (ch:=[e,c]) J1 (λb o hb q=>by
   rcases Heap.get?_push_cases q with⟨rfl,rfl⟩|q'
   ·exact a3
   ·simp only[mem_cons,not_mem_nil,or_false,not_or]at hb
    exact hk b o hb.1 hb.2 q') hf2
  refine⟨.ref s.heap.objs.size,rfl, ?_⟩
  refine wpAny_letOwnedTupleGo_enum (s:={s with heap:=h',toks:=s.toks+1}) a1 λh2' hz' hs'=> ?_
  obtain⟨g0,g1,g2,g3,g4,g5⟩:=hf2 e (by simp)
  refine⟨.ref s.heap.objs.size,_,J2.turned (t':=s.toks+1) (λb o hb q=>(hs'.2 b hb).trans q) g0 g1 g3 g4 g5,rfl,⟨s.heap.objs.size,x,λxs' e1=> ?_,hT0,rfl,rfl⟩, ?_,λb hb=>(hf2 b hb).1⟩
  ·rw[I.sqx_inj e1 q1]
   exact hx
  ·refine⟨⟨u, ?_⟩,a2.extBut hs'.extBut (Ne.symm ne)⟩
   have ek:((i+1:Nat):Int)=(i:Nat)+1:=by omega
   rw[ek]
   exact hz'
 done:=by
  intro X hP hw hK hc i pins s σ H E I hf st hg
  subst hP hw hK
  obtain⟨xs,q1,hend⟩:=hg
  obtain⟨⟨o0,h1⟩,h2⟩:=st
  obtain⟨its,rv,p,hsz⟩:=I.sqx q1
  have l1e:=rv.length
  refine ZT.enumEnds (I.ok.hd hc) h1 h2 p (by simp;omega) λh' hk=>⟨rfl,I.turnedL (t':=s.toks) (ch:=[e,c]) (λb o hb q=> ?_) hf⟩
  simp only[mem_cons,not_mem_nil,or_false,not_or]at hb
  exact hk b o hb.2 q
 self:=λ_ _ _ _ _ st h=>wpAny_pyIter_enum st.1.choose_spec h
section
variable{X:Cx}{K:FZ}{elts:List Expr}{kt:Nat}{pt:Pos}
def XY(t:Bool)(K:FZ)(ta:TA):TI:=fun σ H R=>ta σ H λvs H1=>∃(l:Addr) (xs:List V),vs=[.ref l]/\SqX t K H1 l xs/\R (Itx t K l) H1
theorem RH(t:Bool){a:Expr}{ta:TA}{p pos:Pos}(hg:Gl X "enumerate")(hm:X.mg "enumerate"=none)(ha:PA X [a] ta)(hK:X.K=K:=by rfl)(hs:starEach [a] X.env=[(false,eval a X.env)]:=by rfl):
  PI X (.Tuple elts kt pt) (.Call (.Name "enumerate" p) [a] [] pos) (XY t K ta):=by
 subst hK
 intro pins s σ H R I h
 refine Call_ (U0 I hg hm IQ (callWith_type1 (thn (ha pos pins s σ H _ I h) λus s1 ⟨vs,H1,I1,r1,q1⟩=> ?_) hs rfl))
 obtain⟨l,xs,rfl,hS,q⟩:=q1
 obtain⟨u,rfl,ru⟩:=GR r1
 cases ru
 obtain⟨its,rv,pl,hz2⟩:=I1.sqx hS
 refine ZT.call_enum0 pl λh' a1 a2 hkeep=>wpAny_pyIter_enum a1 ?_
 have lt:s1.heap.objs.size≠s1.heap.objs.size+1:=by omega
 refine⟨s1.heap.objs.size+1,[s1.heap.objs.size+1,s1.heap.objs.size],_,_,H1,rfl,I1.kept (t':=s1.toks) hkeep,LN (t:=t) (Ne.symm lt),⟨⟨.none,a1⟩,a2⟩,λb hb2=> ?_,q⟩
 have hle:s1.heap.objs.size<=b:=by
  simp only[mem_cons,not_mem_nil,or_false]at hb2
  rcases hb2 with rfl|rfl<;>omega
 exact I1.fpOk hle (I1.hok.fresh hle)
end
theorem NP{t:Bool}{K:FZ}{l:Addr}{xs:List V}{g:TG}{tb:TS}{D:Ends}{σ:St}{H:Hp}(Pv:Nat->St->Hp->Prop)(h0:Pv 0 σ H)(hl:∀i σ H,i<=xs.length->Pv i σ H->SqX t K H l xs)
  (hs:∀i x σ H T,xs[i]? =some x->Pv i σ H->H T=none->g (.ref T) σ (upd H T (.tup [.int (i:Nat),x])) fun σ2 H2=>tb {D with nx:=Pv (i+1),ct:=Pv (i+1),bk:=D.nx} σ2 H2)(hd:∀σ H,Pv xs.length σ H->D.nx σ H):
  ∃W:Nat->Nat->St->Hp->Prop,(∃m,W 0 m σ H)/\∀i m σ H,W i m σ H->
   ((Itx t K l).stop i H/\D.nx σ H)\/((Itx t K l).go i H/\∃N:St->Hp->Prop,(∀σ' H',N σ' H'->∃m',m'<m/\W (i+1) m' σ' H')/\∀x H',(Itx t K l).yld i H x H'->g x σ H' fun σ2 H2=>tb {D with nx:=N,ct:=N,bk:=D.nx} σ2 H2):=by
 refine⟨λi m σ H=>m=xs.length - i/\i<=xs.length/\Pv i σ H,⟨_,rfl,zero_le _,h0⟩, ?_⟩
 rintro i m σ H ⟨rfl,hi,p⟩
 have hS:=hl i σ H hi p
 by_cases hlt:i<xs.length
 ·refine .inr ⟨⟨xs,xs[i],hS,List.getElem?_eq_getElem hlt⟩,Pv (i+1),fun σ' H' p'=>⟨xs.length - (i+1),by omega,rfl,hlt,p'⟩,λx H' y=> ?_⟩
  obtain⟨T,x,hx,hT,rfl,rfl⟩:=y
  exact hs i x σ H T (hx xs hS) p hT
 ·have e:i=xs.length:=by omega
  subst e
  exact .inl ⟨⟨xs,hS,le_refl _⟩,hd σ H p⟩
section
variable{X:Cx}{tg:Expr}
end
end L2
namespace PySem
open PyProof.Rows L2
namespace F
end F
section
variable{prog:Program}{w:World}{A:Around}{E:Value->Shared->Prop}{s:Shared}
end
end PySem
namespace L2
open PySem PySem.Spec PyProof.Rows
section
variable{X:Cx}{tg:Expr}
end
end L2
namespace PySem
open PyProof.Rows
namespace F
end F
section
variable{prog:Program}{w:World}{A:Around}{E:Value->Shared->Prop}{s:Shared}
end
end PySem
namespace PySem
open PyProof.Rows
namespace F
end F
section
variable{prog:Program}{w:World}{A:Around}{E:Value->Shared->Prop}{s:Shared}
end
end PySem
namespace PySem
section
variable{prog:Program}{w:World}{A:Around}{E:Value->Shared->Prop}{s:Shared}
end
end PySem
namespace L2
open PySem PySem.Spec PyProof.Rows
section
variable{X:Cx}{K:FZ}{pins:List (Addr×Obj)}{σ:St}{H:Hp}{s:Shared}
end
end L2
namespace PySem
open PyProof.Rows
section
variable{prog:Program}{w:World}{A:Around}{E:Value->Shared->Prop}{s:Shared}
end
end PySem
namespace L2
open PySem PySem.Spec PyProof.Rows
section
variable{X:Cx}
end
end L2
namespace PySem
open AutoSeq1(wpAny_loadPart')
end PySem
namespace L2
open PySem PySem.Spec PyProof.Rows
section
variable{X:Cx}{K:FZ}{tg:Expr}
variable{pins:List (Addr×Obj)}{σ:St}{H:Hp}{s:Shared}
end
end L2
namespace PySem
open PyProof.Rows
section
variable{prog:Program}{w:World}
def dd{K:Type}[DecidableEq K](D:List K)(x:K):List K:=if x∈D then D else D++ [x]
variable{A:Around}{E:Value->Shared->Prop}{s:Shared}
end
end PySem
namespace L2
open PySem PySem.Spec PyProof.Rows
section
variable{X:Cx}{K:FZ}
end
end L2
namespace PySem
open PyProof.Rows
section
variable{prog:Program}{w:World}{K:Type}[DecidableEq K]{knd:KeyKind prog w K}{A:Around}{E:Value->Shared->Prop}{s:Shared}
theorem gw{m:Bool->Sem Unit}{what:String}(h0:m false=pure ())(h1:m true=rule what)(gv:Bool){s:Shared}{Q':Unit->Shared->Prop}(q:Q' () s):wpAny (model prog w) A (m gv) Q' E s:=by
 cases gv
 ·rw[h0];exact pZ q
 ·rw[h1];exact wpAny_rule q
end
section
variable{prog:Program}{w:World}{A:Around}{E:Value->Shared->Prop}{s:Shared}
end
end PySem
namespace L2
open PySem PySem.Spec PyProof.Rows
section
variable{X:Cx}{K:FZ}
end
theorem BB(kvs:List (Key×V))(k j:Key):G0 (J5 kvs k) j=if j=k then none else G0 kvs j:=by
 unfold G0 J5
 induction kvs with
 |nil=>simp
 |cons p r ih=>
  obtain⟨q,v⟩:=p
  by_cases e1:q=k
  ·subst e1
   rw[List.filter_cons_of_neg (by simp),ih]
   by_cases e2:j=q
   ·rw[if_pos e2,if_pos e2]
   ·rw[if_neg e2,if_neg e2,List.find?_cons_of_neg (by simpa using Ne.symm e2)]
  ·rw[List.filter_cons_of_pos (by simpa using e1)]
   by_cases e2:q=j
   ·subst e2
    rw[List.find?_cons_of_pos (by simp),if_neg e1,List.find?_cons_of_pos (by simp)]
   ·rw[List.find?_cons_of_neg (by simpa using e2),ih,List.find?_cons_of_neg (by simpa using e2)]
end L2
namespace PySem
open PyProof.Rows
section
variable{prog:Program}{w:World}{A:Around}{E:Value->Shared->Prop}{s:Shared}
end
end PySem
namespace L2
open PySem PySem.Spec PyProof.Rows
section
variable{X:Cx}{K:FZ}
end
end L2
namespace PySem
open Sem(wp)
open PyProof.Rows
namespace ZT
section
variable{prog:Program}{w:World}{A:Around}{E:Value->Shared->Prop}{s:Shared}
theorem JU{t1 t2:Bool}{z TI TO i1 i2 l1 l2:Addr}{k1 k2:Nat}{xs ys:Array Value}{x y a b:Value}{Q:Value->Shared->Prop}(D:ZipApart z TI TO i1 i2 l1 l2)
  (hz:IsZ s.heap z TI TO .none (.bool false))(hTI:IsPair s.heap TI (.ref i1) (.ref i2))(hTO:IsPair s.heap TO a b)
  (h1:IsIt t1 s.heap i1 l1 k1)(h2:IsIt t2 s.heap i2 l2 k2)(hl1:IsSq t1 s.heap l1 xs)(hl2:IsSq t2 s.heap l2 ys)(hx:xs[k1]? =some x)(hy:ys[k2]? =some y)
  (hQ:∀h',IsZ h' z TI TO (rawInt s.heap.objs.size) (.bool false)->IsIt t1 h' i1 l1 (k1+1)->IsIt t2 h' i2 l2 (k2+1)->IsPair h' s.heap.objs.size x y->h'.objs.size=s.heap.objs.size+1->
   (∀c o,c≠z->c≠TO->c≠i1->c≠i2->s.heap.get? c=some o->h'.get? c=some o)->IsPair h' TO x y->Q (.ref s.heap.objs.size) {s with heap:=h'}):
  wpAny (model prog w) A (Builtin.«zip.__next__» ⟨[.ref z],[]⟩) (λfin s'=>∃v,fin=.done (.ret v)/\Q v s') E s:=by
 show wpAny _ _ (field (.ref z) 2>>=_) _ _ _
 refine bZ (wpAny_field hz rfl (x:=.bool false) rfl ?_)
 show wpAny _ _ (field (.ref z) 3>>=_) _ _ _
 refine bZ (wpAny_field hz rfl (x:=.ref TI) rfl ?_)
 refine bZ (wpAny_seqItems hTI rfl ?_)
 show wpAny _ _ (Builtin.SmallTypes.ownedTupleIsFree (.ref z)>>=_) _ _ _
 refine bZ ?_
 unfold Builtin.SmallTypes.ownedTupleIsFree
 refine bZ (wpAny_field hz rfl (x:=.none) rfl (pZ ?_))
 simp only[if_true]
 refine bZ (wpAny_rule ?_)
 refine bZ (wpAny_field hz rfl (x:=.ref TO) rfl ?_)
 refine bZ (wpAny_setField_rec hz (by simp) λg₁ z₁ q₁=> ?_)
 replace z₁:IsZ g₁ z TI TO .ellipsis (.bool false):=z₁
 have p₁:IsPair g₁ TO a b:=q₁.extBut _ _ D.TOz hTO
 refine bZ ?_
 simp only[List.zipIdx_cons,List.zipIdx_nil,List.forIn_cons,List.forIn_nil]
 refine bZ (bZ (wpAny_onRaise ?_))
 show wpAny _ _ (Builtin.SmallTypes.nextOf (.ref i1)>>=_) _ _ _
 refine bZ (AI (h1.extBut q₁.extBut D.i1z) (hl1.extBut q₁.extBut D.l1z) hx λg₂ it₂ q₂=>pZ ?_)
 have p₂:IsPair g₂ TO a b:=q₂.extBut _ _ D.TOi1 p₁
 refine bZ (wpAny_seqItems p₂ rfl (bZ (wpAny_updateSeq_pair p₂ λg₃ p₃ q₃=>bZ (wpAny_letGo (pZ ?_)))))
 replace p₃:IsPair g₃ TO x b:=p₃
 have k₃:∀ {c o},c≠z->c≠i1->c≠TO->s.heap.get? c=some o->g₃.get? c=some o:=λc1 c2 c3 e=>q₃.extBut _ _ c3 (q₂.extBut _ _ c2 (q₁.extBut _ _ c1 e))
 refine bZ (bZ (wpAny_onRaise ?_))
 show wpAny _ _ (Builtin.SmallTypes.nextOf (.ref i2)>>=_) _ _ _
 refine bZ (AI (h2.at λo e=>k₃ D.i2z D.i12.symm D.TOi2.symm e) (hl2.at λo e=>k₃ D.l2z D.l2i1 D.l2TO e) hy λg₄ it₄ q₄=>pZ ?_)
 have p₄:IsPair g₄ TO x b:=q₄.extBut _ _ D.TOi2 p₃
 refine bZ (wpAny_seqItems p₄ rfl (bZ (wpAny_updateSeq_pair p₄ λg₅ p₅ q₅=>bZ (wpAny_letGo (pZ (pZ ?_))))))
 replace p₅:IsPair g₅ TO x y:=p₅
 refine bZ (wpAny_seqItems p₅ rfl (bZ (wpAny_newTuple ?_)))
 have sz:g₅.objs.size=s.heap.objs.size:=by rw[q₅.1,q₄.1,q₃.1,q₂.1,q₁.1]
 have z₅:IsZ g₅ z TI TO .ellipsis (.bool false):=q₅.extBut _ _ D.TOz.symm (q₄.extBut _ _ D.i2z.symm (q₃.extBut _ _ D.TOz.symm (q₂.extBut _ _ D.i1z.symm z₁)))
 have k₅:∀c o,c≠z->c≠TO->c≠i1->c≠i2->s.heap.get? c=some o->g₅.get? c=some o:=λc o c1 c2 c3 c4 e=>q₅.extBut _ _ c2 (q₄.extBut _ _ c4 (k₃ c1 c3 c2 e))
 have it1:IsIt t1 g₅ i1 l1 (k1+1):=it₂.at λo e=>q₅.extBut _ _ D.TOi1.symm (q₄.extBut _ _ D.i12 (q₃.extBut _ _ D.TOi1.symm e))
 have it2:IsIt t2 g₅ i2 l2 (k2+1):=it₄.at λo e=>q₅.extBut _ _ D.TOi2.symm e
 have zlt:z<g₅.objs.size:=lt_size z₅
 show wpAny _ _ (Builtin.SmallTypes.ownedTupleHandOut (.ref z) (.ref g₅.objs.size)>>=_) _ _ _
 refine bZ ?_
 unfold Builtin.SmallTypes.ownedTupleHandOut
 refine bZ (wpAny_setField_rec (gZ _ z₅) (by simp) λg₇ z₇ q₇=> ?_)
 replace z₇:IsZ g₇ z TI TO (rawInt g₅.objs.size) (.bool false):=z₇
 refine wpAny_setField_rec z₇ (by simp) λg₈ z₈ q₈=>pZ ⟨_,rfl, ?_⟩
 replace z₈:IsZ g₈ z TI TO (rawInt g₅.objs.size) (.bool false):=z₈
 have up:∀c o,c≠z->g₅.get? c=some o->g₈.get? c=some o:=λc o c1 e=>q₈.extBut _ _ c1 (q₇.extBut _ _ c1 (gZ _ e))
 have pT:IsPair g₈ g₅.objs.size x y:=q₈.extBut _ _ (ne_of_gt zlt) (q₇.extBut _ _ (ne_of_gt zlt) (get?_push_size _ rfl))
 have s8:g₈.objs.size=g₅.objs.size+1:=by rw[q₈.1,q₇.1,size_push]
 show Q (.ref g₅.objs.size) _
 rw[sz]at z₈ pT s8⊢
 exact hQ g₈ z₈ (it1.at λo e=>up _ o D.i1z e) (it2.at λo e=>up _ o D.i2z e) pT s8 (λc o c1 c2 c3 c4 e=>up c o c1 (k₅ c o c1 c2 c3 c4 e)) (up _ _ D.TOz p₅)
theorem OS{t1 t2:Bool}{z TI TO i1 i2 l1 l2:Addr}{k1 k2:Nat}{xs ys:Array Value}{a b:Value}{Q:Fin->Shared->Prop}(hh:A.handled=none)(D:ZipApart z TI TO i1 i2 l1 l2)
  (hz:IsZ s.heap z TI TO .none (.bool false))(hTI:IsPair s.heap TI (.ref i1) (.ref i2))(hTO:IsPair s.heap TO a b)
  (h1:IsIt t1 s.heap i1 l1 k1)(h2:IsIt t2 s.heap i2 l2 k2)(hl1:IsSq t1 s.heap l1 xs)(hl2:IsSq t2 s.heap l2 ys)(hend:xs[k1]? =none\/ys[k2]? =none)
  (hE:∀h' e,(∀c o,c≠z->c≠TO->c≠i1->c≠i2->s.heap.get? c=some o->h'.get? c=some o)->(∃o,h'.get? e=some o/\o.cls=.type "StopIteration")->E (.ref e) {s with heap:=h'}):
  wpAny (model prog w) A (Builtin.«zip.__next__» ⟨[.ref z],[]⟩) Q E s:=by
 show wpAny _ _ (field (.ref z) 2>>=_) _ _ _
 refine bZ (wpAny_field hz rfl (x:=.bool false) rfl ?_)
 show wpAny _ _ (field (.ref z) 3>>=_) _ _ _
 refine bZ (wpAny_field hz rfl (x:=.ref TI) rfl ?_)
 refine bZ (wpAny_seqItems hTI rfl ?_)
 show wpAny _ _ (Builtin.SmallTypes.ownedTupleIsFree (.ref z)>>=_) _ _ _
 refine bZ ?_
 unfold Builtin.SmallTypes.ownedTupleIsFree
 refine bZ (wpAny_field hz rfl (x:=.none) rfl (pZ ?_))
 simp only[if_true]
 refine bZ (wpAny_rule ?_)
 refine bZ (wpAny_field hz rfl (x:=.ref TO) rfl ?_)
 refine bZ (wpAny_setField_rec hz (by simp) λg₁ z₁ q₁=> ?_)
 replace z₁:IsZ g₁ z TI TO .ellipsis (.bool false):=z₁
 have p₁:IsPair g₁ TO a b:=q₁.extBut _ _ D.TOz hTO
 refine bZ ?_
 simp only[List.zipIdx_cons,List.zipIdx_nil,List.forIn_cons,List.forIn_nil]
 refine bZ (bZ (wpAny_onRaise ?_))
 show wpAny _ _ (Builtin.SmallTypes.nextOf (.ref i1)>>=_) _ _ _
 cases hx:xs[k1]? with
 |none=>
  refine bZ (EM hh (h1.extBut q₁.extBut D.i1z) (hl1.extBut q₁.extBut D.l1z) hx λg₂ e q₂ he=> ?_)
  obtain⟨oe,hoe,hce⟩:=he
  have z₂:IsZ g₂ z TI TO .ellipsis (.bool false):=q₂ _ _ D.i1z.symm z₁
  have hez:e≠z:=λx=>by subst x;rw[z₂]at hoe;cases hoe;simp at hce
  exact wpAny_setField_rec z₂ (by simp) λg₃ _ q₃=>hE g₃ e (λc o c1 _ c3 _ x=>q₃.extBut _ _ c1 (q₂ _ _ c3 (q₁.extBut _ _ c1 x))) ⟨oe,q₃.extBut _ _ hez hoe,hce⟩
 |some x=>
  have hy:ys[k2]? =none:=by rcases hend with h|h;rw[hx]at h;cases h;exact h
  refine bZ (AI (h1.extBut q₁.extBut D.i1z) (hl1.extBut q₁.extBut D.l1z) hx λg₂ it₂ q₂=>pZ ?_)
  have p₂:IsPair g₂ TO a b:=q₂.extBut _ _ D.TOi1 p₁
  refine bZ (wpAny_seqItems p₂ rfl (bZ (wpAny_updateSeq_pair p₂ λg₃ p₃ q₃=>bZ (wpAny_letGo (pZ ?_)))))
  have k₃:∀ {c o},c≠z->c≠i1->c≠TO->s.heap.get? c=some o->g₃.get? c=some o:=λc1 c2 c3 e=>q₃.extBut _ _ c3 (q₂.extBut _ _ c2 (q₁.extBut _ _ c1 e))
  refine bZ (bZ (wpAny_onRaise ?_))
  show wpAny _ _ (Builtin.SmallTypes.nextOf (.ref i2)>>=_) _ _ _
  refine bZ (EM hh (h2.at λo e=>k₃ D.i2z D.i12.symm D.TOi2.symm e) (hl2.at λo e=>k₃ D.l2z D.l2i1 D.l2TO e) hy λg₄ e q₄ he=> ?_)
  obtain⟨oe,hoe,hce⟩:=he
  have z₄:IsZ g₄ z TI TO .ellipsis (.bool false):=q₄ _ _ D.i2z.symm (q₃.extBut _ _ D.TOz.symm (q₂.extBut _ _ D.i1z.symm z₁))
  have hez:e≠z:=λx=>by subst x;rw[z₄]at hoe;cases hoe;simp at hce
  exact wpAny_setField_rec z₄ (by simp) λg₅ _ q₅=>hE g₅ e (λc o c1 c2 c3 c4 x=>q₅.extBut _ _ c1 (q₄ _ _ c4 (k₃ c1 c3 c2 x))) ⟨oe,q₅.extBut _ _ hez hoe,hce⟩
theorem pyNext_fresh0{t1 t2:Bool}{z TI TO i1 i2 l1 l2:Addr}{k1 k2:Nat}{xs ys:Array Value}{x y a b:Value}{Q:Option Value->Shared->Prop}(D:ZipApart z TI TO i1 i2 l1 l2)
  (hz:IsZ s.heap z TI TO .none (.bool false))(hTI:IsPair s.heap TI (.ref i1) (.ref i2))(hTO:IsPair s.heap TO a b)
  (h1:IsIt t1 s.heap i1 l1 k1)(h2:IsIt t2 s.heap i2 l2 k2)(hl1:IsSq t1 s.heap l1 xs)(hl2:IsSq t2 s.heap l2 ys)(hx:xs[k1]? =some x)(hy:ys[k2]? =some y)
  (hQ:∀h',IsZ h' z TI TO (rawInt s.heap.objs.size) (.bool false)->IsIt t1 h' i1 l1 (k1+1)->IsIt t2 h' i2 l2 (k2+1)->IsPair h' s.heap.objs.size x y->h'.objs.size=s.heap.objs.size+1->
   (∀c o,c≠z->c≠TO->c≠i1->c≠i2->s.heap.get? c=some o->h'.get? c=some o)->IsPair h' TO x y->Q (some (.ref s.heap.objs.size)) {s with heap:=h'}):
  wpAny (model prog w) A (pyNext (.ref z)) Q E s:=by
 have ty:s.TypeIs (.ref z) "zip":=⟨_,hz,rfl⟩
 unfold pyNext
 exact bZ (wpAny_attempt (wpAny_callSpecial?_slot (name:=Str.ofString "__next__") ty F.slot_zip_next
  (wpAny_call_entry F.slot_zip_next ty F.entry_zip_next (JU D hz hTI hTO h1 h2 hl1 hl2 hx hy λh' a1 a2 a3 a4 a5 a6 a7=>pZ (hQ h' a1 a2 a3 a4 a5 a6 a7)) (F.args_zip_next_1 _))))
theorem pyNext_fend{t1 t2:Bool}{z TI TO i1 i2 l1 l2:Addr}{k1 k2:Nat}{xs ys:Array Value}{a b:Value}{Q:Option Value->Shared->Prop}(hh:A.handled=none)(D:ZipApart z TI TO i1 i2 l1 l2)
  (hz:IsZ s.heap z TI TO .none (.bool false))(hTI:IsPair s.heap TI (.ref i1) (.ref i2))(hTO:IsPair s.heap TO a b)
  (h1:IsIt t1 s.heap i1 l1 k1)(h2:IsIt t2 s.heap i2 l2 k2)(hl1:IsSq t1 s.heap l1 xs)(hl2:IsSq t2 s.heap l2 ys)(hend:xs[k1]? =none\/ys[k2]? =none)
  (hQ:∀h',(∀c o,c≠z->c≠TO->c≠i1->c≠i2->s.heap.get? c=some o->h'.get? c=some o)->Q none {s with heap:=h'}):
  wpAny (model prog w) A (pyNext (.ref z)) Q E s:=by
 have ty:s.TypeIs (.ref z) "zip":=⟨_,hz,rfl⟩
 unfold pyNext
 refine bZ (wpAny_attempt (wpAny_callSpecial?_slot (name:=Str.ofString "__next__") ty F.slot_zip_next
  (wpAny_call_entry F.slot_zip_next ty F.entry_zip_next (OS hh D hz hTI hTO h1 h2 hl1 hl2 hend λh' e hk he=> ?_) (F.args_zip_next_1 _))))
 obtain⟨o,ho,hc⟩:=he
 exact bZ (wpAny_isInstance (T:="StopIteration") (b:=true) ⟨o,ho,hc⟩ isSubtype_stop (pZ (hQ _ hk)))
end
abbrev xh1(t1:Bool)(h:Heap)(l1:Addr):Heap:=h.push (itO t1 l1)
abbrev xh2(t1 t2:Bool)(h:Heap)(l1 l2:Addr):Heap:=(xh1 t1 h l1).push (itO t2 l2)
abbrev xh3(t1 t2:Bool)(h:Heap)(l1 l2:Addr):Heap:=(xh2 t1 t2 h l1 l2).push {cls:=.type "tuple",data:=.seq #[.ref h.objs.size,.ref (xh1 t1 h l1).objs.size]}
abbrev xh4(t1 t2:Bool)(h:Heap)(l1 l2:Addr):Heap:=(xh3 t1 t2 h l1 l2).push {cls:=.type "tuple",data:=.seq #[.none,.none]}
abbrev xh5(t1 t2:Bool)(h:Heap)(l1 l2:Addr):Heap:=(xh4 t1 t2 h l1 l2).push {cls:=.type "zip",data:=.fields #[.none,.bool false,.bool false,.ref (xh2 t1 t2 h l1 l2).objs.size,.ref (xh3 t1 t2 h l1 l2).objs.size]}
set_option maxHeartbeats 4000000 in
theorem LW(t1 t2:Bool)(l1 l2:Addr)(xs ys:Array Value):
  Meets (Builtin.«zip.__new__» ⟨[.type "zip",.ref l1,.ref l2],[]⟩) (λ_ R s=>IsSq t1 s.heap l1 xs/\IsSq t2 s.heap l2 ys/\
   R (.ok (.ret (.ref (xh4 t1 t2 s.heap l1 l2).objs.size))) {s with heap:=xh5 t1 t2 s.heap l1 l2}):=
 .of_wp λprog w A R s h=>by
  obtain⟨hp,g,d,tk,os⟩:=s;obtain⟨hl1,hl2,h⟩:=h
  have hsub:=sub_zip
  cases t1
  ·have hL1:Heap.IsList (Shared.heap ⟨hp,g,d,tk,os⟩) l1 xs:=hl1
   cases t2
   ·have hL2:Heap.IsList (Shared.heap ⟨hp.push {cls:=.type "list_iterator",data:=.fields #[.ref l1,.int 0 0]},g,d,tk,os⟩) l2 ys:=Heap.IsList.push hl2 _
    wp_walk using wpAny_pyIter_list hL1,wpAny_pyIter_list hL2
    exact⟨_,rfl,h⟩
   ·have hL2:Heap.IsTuple (Shared.heap ⟨hp.push {cls:=.type "list_iterator",data:=.fields #[.ref l1,.int 0 0]},g,d,tk,os⟩) l2 ys:=Heap.IsTuple.push hl2 _
    wp_walk using wpAny_pyIter_list hL1,wpAny_pyIter_tuple hL2
    exact⟨_,rfl,h⟩
  ·have hL1:Heap.IsTuple (Shared.heap ⟨hp,g,d,tk,os⟩) l1 xs:=hl1
   cases t2
   ·have hL2:Heap.IsList (Shared.heap ⟨hp.push {cls:=.type "tuple_iterator",data:=.fields #[.ref l1,.int 0 0]},g,d,tk,os⟩) l2 ys:=Heap.IsList.push hl2 _
    wp_walk using wpAny_pyIter_tuple hL1,wpAny_pyIter_list hL2
    exact⟨_,rfl,h⟩
   ·have hL2:Heap.IsTuple (Shared.heap ⟨hp.push {cls:=.type "tuple_iterator",data:=.fields #[.ref l1,.int 0 0]},g,d,tk,os⟩) l2 ys:=Heap.IsTuple.push hl2 _
    wp_walk using wpAny_pyIter_tuple hL1,wpAny_pyIter_tuple hL2
    exact⟨_,rfl,h⟩
theorem JG{t:Bool}{h:Heap}{i l:Addr}(e:h.get? i=some (itO t l)):IsIt t h i l 0:=by
 cases t
 ·exact⟨_,e,rfl,rfl⟩
 ·exact⟨_,e,rfl,rfl⟩
section
variable{prog:Program}{w:World}{A:Around}{E:Value->Shared->Prop}{s:Shared}
theorem call_zipX{t1 t2:Bool}{l1 l2:Addr}{xs ys:Array Value}{Q:Value->Shared->Prop}(hl1:IsSq t1 s.heap l1 xs)(hl2:IsSq t2 s.heap l2 ys)
  (h:∀h',IsZip h' (s.heap.objs.size+4) (s.heap.objs.size+2) (s.heap.objs.size+3) .none->IsPair h' (s.heap.objs.size+2) (.ref s.heap.objs.size) (.ref (s.heap.objs.size+1))->
   IsPair h' (s.heap.objs.size+3) .none .none->IsIt t1 h' s.heap.objs.size l1 0->IsIt t2 h' (s.heap.objs.size+1) l2 0->h'.objs.size=s.heap.objs.size+5->
   (∀c o,s.heap.get? c=some o->h'.get? c=some o)->Q (.ref (s.heap.objs.size+4)) {s with heap:=h'}):
  wpAny (model prog w) A (call (.type "zip") [.ref l1,.ref l2]) Q E s:=by
 refine callType_new F.called_zip (by decide) (F.typeCall_zip_2 _ _) (F.newCall_zip_2 _ _) (λobj=>F.args_object_init_3 obj _ _) F.entry_zip_new
  (LW t1 t2 l1 l2 xs ys) ⟨hl1,hl2, ?_⟩
 have z1:(xh1 t1 s.heap l1).objs.size=s.heap.objs.size+1:=size_push ..
 have z2:(xh2 t1 t2 s.heap l1 l2).objs.size=s.heap.objs.size+2:=by rw[size_push,z1]
 have z3:(xh3 t1 t2 s.heap l1 l2).objs.size=s.heap.objs.size+3:=by rw[size_push,z2]
 have z4:(xh4 t1 t2 s.heap l1 l2).objs.size=s.heap.objs.size+4:=by rw[size_push,z3]
 have z5:(xh5 t1 t2 s.heap l1 l2).objs.size=s.heap.objs.size+5:=by rw[size_push,z4]
 have g5:(xh5 t1 t2 s.heap l1 l2).get? (xh4 t1 t2 s.heap l1 l2).objs.size=some _:=get?_push_size _ rfl
 have g4:(xh5 t1 t2 s.heap l1 l2).get? (xh3 t1 t2 s.heap l1 l2).objs.size=some _:=gZ _ (get?_push_size _ rfl)
 have g3:(xh5 t1 t2 s.heap l1 l2).get? (xh2 t1 t2 s.heap l1 l2).objs.size=some _:=gZ _ (gZ _ (get?_push_size _ rfl))
 have g2:(xh5 t1 t2 s.heap l1 l2).get? (xh1 t1 s.heap l1).objs.size=some (itO t2 l2):=gZ _ (gZ _ (gZ _ (get?_push_size _ (by cases t2<;>rfl))))
 have g1:(xh5 t1 t2 s.heap l1 l2).get? s.heap.objs.size=some (itO t1 l1):=gZ _ (gZ _ (gZ _ (gZ _ (get?_push_size _ (by cases t1<;>rfl)))))
 show _/\_
 rw[z2,z3,z4]at g5
 rw[z1,z2]at g3
 rw[z3]at g4
 rw[z1]at g2
 rw[z4]
 exact⟨⟨_,g5,rfl⟩,h _ g5 g3 g4 (JG g1) (JG g2) z5 λc o x=>
  gZ _ (gZ _ (gZ _ (gZ _ (gZ _ x))))⟩
end
end ZT
end PySem
namespace L2
open PySem PySem.Spec PyProof.Rows
theorem NB{t:Bool}{h:Heap}{l:Addr}{xs:Array Value}(x:ZT.IsSq t h l xs):l<h.objs.size:=by
 cases t
 ·obtain⟨o,e,_⟩:=(show h.IsList l xs from x)
  exact lt_size e
 ·obtain⟨o,e,_⟩:=(show h.IsTuple l xs from x)
  exact lt_size e
def Izt(t1 t2:Bool)(K:FZ)(l1 l2:Addr):It:=
 ⟨λi H=>∃xs ys x y,SqX t1 K H l1 xs/\SqX t2 K H l2 ys/\xs[i]? =some x/\ys[i]? =some y,
  λi H v H'=>∃T x y,(∀xs ys,SqX t1 K H l1 xs->SqX t2 K H l2 ys->xs[i]? =some x/\ys[i]? =some y)/\H T=none/\v=.ref T/\H'=upd H T (.tup [x,y]),
  λi H=>∃xs ys,SqX t1 K H l1 xs/\SqX t2 K H l2 ys/\(xs.length<=i\/ys.length<=i)⟩
def XO(t1 t2:Bool)(z TI TO i1 i2 l1 l2:Addr)(i:Nat)(h:Heap):Prop:=IsZip h z TI TO .none/\IsPair h TI (.ref i1) (.ref i2)/\(∃a b,IsPair h TO a b)/\ZT.IsIt t1 h i1 l1 i/\ZT.IsIt t2 h i2 l2 i
theorem NT{t1 t2:Bool}{P:Program}{w:World}{K:FZ}{elts:List Expr}{kt:Nat}{pt:Pos}{z TI TO i1 i2 l1 l2:Addr}(D:ZipApart z TI TO i1 i2 l1 l2):
  Turn P w K (.Tuple elts kt pt) (Izt t1 t2 K l1 l2) [z,TI,TO,i1,i2] z (XO t1 t2 z TI TO i1 i2 l1 l2) where
 mem:=by simp
 obj:=λi h st b hb=>by
  obtain⟨hz,hTI,⟨a,b',hTO⟩,h1,h2⟩:=st
  simp only[mem_cons,not_mem_nil,or_false]at hb
  rcases hb with rfl|rfl|rfl|rfl|rfl
  ·exact⟨_,hz,λv q=>by cases q⟩
  ·exact⟨_,hTI,λv q=>by cases q⟩
  ·exact⟨_,hTO,λv q=>by cases q⟩
  ·exact EG h1
  ·exact EG h2
 keep:=λi h h' st k=>by
  obtain⟨hz,hTI,⟨a,b',hTO⟩,h1,h2⟩:=st
  exact⟨k z (by simp) _ hz,k TI (by simp) _ hTI,⟨a,b',k TO (by simp) _ hTO⟩,h1.at λo e=>k i1 (by simp) o e,h2.at λo e=>k i2 (by simp) o e⟩
 item:=by
  intro X hP hw hK hc i pins s σ H E I hf st hg
  subst hP hw hK
  obtain⟨xs,ys,x,y,q1,q2,hx,hy⟩:=hg
  obtain⟨hz,hTI,⟨a,b,hTO⟩,h1,h2⟩:=st
  obtain⟨its,rv,p,hsz⟩:=I.sqx q1
  obtain⟨its2,rv2,p2,hsz2⟩:=I.sqx q2
  obtain⟨u,hu,ru⟩:=rv.get hx
  obtain⟨u2,hu2,ru2⟩:=rv2.get hy
  refine ZT.pyNext_fresh0 (t1:=t1) (t2:=t2) D hz hTI hTO h1 h2 p p2 (x:=u) (y:=u2) (by simpa using hu) (by simpa using hu2) λh' a1 a3 a4 a5 a6 hk a2=> ?_
  have hT0:H s.heap.objs.size=none:=I.hok.fresh (le_refl _)
  have J1:Inv X pins σ (upd H s.heap.objs.size (.tup [x,y])) {s with heap:=s.heap.push {cls:=.type "tuple",data:=.seq #[u,u2]}}:=
   I.laid (t':=s.toks) (λb o e=>gZ _ e) (le_refl _) (show ObjOk X.prog X.w _ _ _ (.tup [x,y])from⟨(by show 2<=sizeLine;decide),[u,u2],.cons ru (.cons ru2 .nil),IsTup.new _ _⟩)
  have lt:∀b∈ [z,TI,TO,i1,i2],b≠s.heap.objs.size:=λb hb=>by
   simp only[mem_cons,not_mem_nil,or_false]at hb
   rcases hb with rfl|rfl|rfl|rfl|rfl
   ·exact ne_of_lt (lt_size hz)
   ·exact ne_of_lt (lt_size hTI)
   ·exact ne_of_lt (lt_size hTO)
   ·obtain⟨o,e⟩:=h1.live;exact ne_of_lt (lt_size e)
   ·obtain⟨o,e⟩:=h2.live;exact ne_of_lt (lt_size e)
  have hf2:∀b∈ [z,TI,TO,i1,i2],DJ X pins (upd H s.heap.objs.size (.tup [x,y])) b:=λb hb=>⟨by rw[B1 (lt b hb)];exact(hf b hb).1,(hf b hb).2⟩
  have J2:Inv X pins σ (upd H s.heap.objs.size (.tup [x,y])) {s with heap:=h'}:=Inv.turnedL (s:={s with heap:=s.heap.push {cls:=.type "tuple",data:=.seq #[u,u2]}}) (t':=s.toks) (h':=h') (ch:=[z,TI,TO,i1,i2]) J1 (λb o hb e=>by
   rcases Heap.get?_push_cases e with⟨rfl,rfl⟩|e'
   ·exact a5
   ·simp only[mem_cons,not_mem_nil,or_false,not_or]at hb
    exact hk b o hb.1 hb.2.2.1 hb.2.2.2.1 hb.2.2.2.2 e') hf2
  refine⟨.ref s.heap.objs.size,rfl, ?_⟩
  refine wpAny_letOwnedTupleGo_zip (s:={s with heap:=h'}) a1 λh2' hz' hs'=> ?_
  obtain⟨g0,g1,g2,g3,g4,g5⟩:=hf2 z (by simp)
  refine⟨.ref s.heap.objs.size,_,J2.turned (t':=s.toks) (λb o hb e=>(hs'.2 b hb).trans e) g0 g1 g3 g4 g5,rfl,⟨s.heap.objs.size,x,y,λxs' ys' e1 e2=> ?_,hT0,rfl,rfl⟩, ?_,λb hb=>(hf2 b hb).1⟩
  ·rw[I.sqx_inj e1 q1,I.sqx_inj e2 q2]
   exact⟨hx,hy⟩
  ·exact⟨hz',hs'.extBut _ _ D.TIz (hk _ _ D.TIz D.TITO D.TIi1 D.TIi2 hTI),⟨_,_,hs'.extBut _ _ D.TOz a2⟩,a3.extBut hs'.extBut D.i1z,a4.extBut hs'.extBut D.i2z⟩
 done:=by
  intro X hP hw hK hc i pins s σ H E I hf st hg
  subst hP hw hK
  obtain⟨xs,ys,q1,q2,hend⟩:=hg
  obtain⟨hz,hTI,⟨a,b,hTO⟩,h1,h2⟩:=st
  obtain⟨its,rv,p,hsz⟩:=I.sqx q1
  obtain⟨its2,rv2,p2,hsz2⟩:=I.sqx q2
  have l1e:=rv.length
  have l2e:=rv2.length
  refine ZT.pyNext_fend (t1:=t1) (t2:=t2) (I.ok.hd hc) D hz hTI hTO h1 h2 p p2 (by
   rcases hend with h|h
   ·exact .inl (by simp;omega)
   ·exact .inr (by simp;omega)) λh' hk=>⟨rfl,I.turnedL (t':=s.toks) (ch:=[z,TI,TO,i1,i2]) (λb o hb e=> ?_) hf⟩
  simp only[mem_cons,not_mem_nil,or_false,not_or]at hb
  exact hk b o hb.1 hb.2.2.1 hb.2.2.2.1 hb.2.2.2.2 e
 self:=λ_ _ _ _ _ st h=>wpAny_pyIter_zip st.1 h
section
variable{X:Cx}{K:FZ}{elts:List Expr}{kt:Nat}{pt:Pos}
def aoZ(t1 t2:Bool)(K:FZ)(ta:TA):TI:=fun σ H R=>ta σ H λvs H1=>∃a b xs ys,vs=[.ref a,.ref b]/\SqX t1 K H1 a xs/\SqX t2 K H1 b ys/\R (Izt t1 t2 K a b) H1
theorem UX(t1 t2:Bool){a b:Expr}{ta:TA}{p pos:Pos}(hg:Gl X "zip")(hm:X.mg "zip"=none)(ha:PA X [a,b] ta)(hK:X.K=K:=by rfl)(hs:starEach [a,b] X.env=[(false,eval a X.env),(false,eval b X.env)]:=by rfl)(hs2:starEach [b] X.env=[(false,eval b X.env)]:=by rfl):
  PI X (.Tuple elts kt pt) (.Call (.Name "zip" p) [a,b] [] pos) (aoZ t1 t2 K ta):=by
 subst hK
 intro pins s σ H R I h
 refine Call_ (U0 I hg hm PM (callWith_type1 (thn (ha pos pins s σ H _ I h) λus s1 ⟨vs,H1,I1,r1,q1⟩=> ?_) (by rw[hs,hs2]) (by rw[hs2];rfl)))
 obtain⟨l1,l2,xs,ys,e,q1,q2,q⟩:=q1
 subst e
 cases r1 with
 |cons r rr=>
  cases rr with
  |cons r' rr=>
   cases rr
   cases r
   cases r'
   obtain⟨its,rv,pl,hz⟩:=I1.sqx q1
   obtain⟨its2,rv2,pl2,hz2⟩:=I1.sqx q2
   have lt1:l1<s1.heap.objs.size:=NB pl
   have lt2:l2<s1.heap.objs.size:=NB pl2
   refine ZT.call_zipX pl pl2 λh' a1 a2 a3 a4 a5 a6 hk=> ?_
   refine wpAny_pyIter_zip a1 ?_
   refine⟨s1.heap.objs.size+4,[s1.heap.objs.size+4,s1.heap.objs.size+2,s1.heap.objs.size+3,s1.heap.objs.size,s1.heap.objs.size+1],_,_,H1,rfl,I1.kept (t':=s1.toks) hk,NT (t1:=t1) (t2:=t2) (zipApart_new lt1 lt2),⟨a1,a2,⟨_,_,a3⟩,a4,a5⟩,λb hb=> ?_,q⟩
   have hle:s1.heap.objs.size<=b:=by
    simp only[mem_cons,not_mem_nil,or_false]at hb
    rcases hb with rfl|rfl|rfl|rfl|rfl
    ·exact le_add_right _ _
    ·exact le_add_right _ _
    ·exact le_add_right _ _
    ·exact le_refl _
    ·exact le_add_right _ _
   exact I1.fpOk hle (I1.hok.fresh hle)
end
theorem RS{t1 t2:Bool}{K:FZ}{l1 l2:Addr}{xs ys:List V}{g:TG}{tb:TS}{D:Ends}{σ:St}{H:Hp}(hle:xs.length=ys.length)(Pv:Nat->St->Hp->Prop)(h0:Pv 0 σ H)(hl:∀i σ H,i<=xs.length->Pv i σ H->SqX t1 K H l1 xs/\SqX t2 K H l2 ys)
  (hs:∀i x y σ H T,xs[i]? =some x->ys[i]? =some y->Pv i σ H->H T=none->g (.ref T) σ (upd H T (.tup [x,y])) fun σ2 H2=>tb {D with nx:=Pv (i+1),ct:=Pv (i+1),bk:=D.nx} σ2 H2)(hd:∀σ H,Pv xs.length σ H->D.nx σ H):
  ∃W:Nat->Nat->St->Hp->Prop,(∃m,W 0 m σ H)/\∀i m σ H,W i m σ H->
   ((Izt t1 t2 K l1 l2).stop i H/\D.nx σ H)\/((Izt t1 t2 K l1 l2).go i H/\∃N:St->Hp->Prop,(∀σ' H',N σ' H'->∃m',m'<m/\W (i+1) m' σ' H')/\∀x H',(Izt t1 t2 K l1 l2).yld i H x H'->g x σ H' fun σ2 H2=>tb {D with nx:=N,ct:=N,bk:=D.nx} σ2 H2):=by
 refine⟨λi m σ H=>m=xs.length - i/\i<=xs.length/\Pv i σ H,⟨_,rfl,zero_le _,h0⟩, ?_⟩
 rintro i m σ H ⟨rfl,hi,p⟩
 obtain⟨q1,q2⟩:=hl i σ H hi p
 by_cases hlt:i<xs.length
 ·have hlt2:i<ys.length:=by omega
  refine .inr ⟨⟨xs,ys,xs[i],ys[i],q1,q2,by simp[hlt],by simp[hlt2]⟩,Pv (i+1),fun σ' H' p'=>⟨xs.length - (i+1),by omega,rfl,hlt,p'⟩,λv H' y=> ?_⟩
  obtain⟨T,x,z,y1,hT,rfl,rfl⟩:=y
  obtain⟨e1,e2⟩:=y1 xs ys q1 q2
  exact hs i x z σ H T e1 e2 p hT
 ·have e:i=xs.length:=by omega
  subst e
  exact .inl ⟨⟨xs,ys,q1,q2,.inl (le_refl _)⟩,hd σ H p⟩
end L2
namespace PySem
open Sem (wp)
end PySem
namespace L2
open PySem PySem.Spec PyProof.Rows
section
variable{M:Model}{A:Around}{E:Value->Shared->Prop}{s:Shared}{base:Heap}{env:Env}{outer l:List Env}{L a:Addr}{C fl:Value}{g:Heap}{H:Hp}{Q:Unit->Shared->Prop}
end
section
variable{P:Program}{w:World}{K:FZ}{mg:Str->Option Value}{base:Heap}{N:List Str}{qual:Str}{scope:Scope}{f:Addr}{cd:Value}{A:Around}{outer:List Env}{s:Shared}{H:Hp}{E:XK}
variable{X:Cx}
end
theorem Fun.okCX{P:Program}{w:World}{K:FZ}{mg:Str->Option Value}{base:Heap}{x qual:Str}{st:Stmt}{f:Addr}{fd:FuncData}{N ps:List Str}{k:Nat}{sp:Sp}(F:Fun K x qual st f fd)(S:FnScope N ps (A6 st))(len:∀vs H Q E,sp vs H Q E->vs.length=ps.length)
  (hbody:∀(cdv:Value) (A:Around) (outer:List Env) (s:Shared) (H:Hp) (vs:List V) (Q:VK) (E:XK),fd.code=cdv->Room k (A.deeper (envOfC qual (A6 st) s.heap.objs.size f cdv))->sp vs H Q E->
   ∃t,PSs (L5 (CXr P w) P w K mg base N qual (A6 st) f cdv A outer s H E) (B8 st) t/\t {nx:=λ_ H'=>Q .non H',rt:=Q} (start N vs) H):FnOk P w K mg base (CXr P w) (k+1) f fd ps sp:=by
 obtain⟨oc,od,kV,doc,pm,an,cdv,ct,osl,rfl,lk,hcd⟩:=F.ex
 exact MY lk hcd S len λA outer s H vs Q E hr hsp=>hbody cdv A outer s H vs Q E rfl hr hsp
section
variable{X:Cx}{k:Nat}{g:Addr}{fd:FuncData}{ps:List Str}{sp:Heap->Sp}{x:Str}{p pos:Pos}{e:Expr}{es:List Expr}{t:TA}{name qual:Str}{params:Arguments}{body:Expr}{scope:Scope}{clos:List (Str×Addr)}{pm:Value}{fs:List Str}{js:List Nat}
variable{P:Program}{w:World}{K:FZ}{mg:Str->Option Value}{base:Heap}{N:List Str}{f:Addr}{cd:Value}{cl:List (Str×Addr)}{A:Around}{outer:List Env}{s:Shared}{H:Hp}{E:XK}
end
theorem FnOk.dead{P:Program}{w:World}{K:FZ}{mg:Str->Option Value}{base:Heap}{k:Nat}{f:Addr}{fd:FuncData}{ps:List Str}{sp:Sp}(F:FnOk P w K mg base (CXr P w) k f fd ps sp):
  FnOk P w K mg base CX0 k f fd ps (λvs H Q _=>sp vs H Q λ_ _ _=>False):=by
 refine⟨λvs H Q E h=>F.len vs H Q _ h,λA outer s H args us vs Q E hr he hb hv hs=>codeAny_mono (F.run A outer s H args us vs Q _ hr he hb hv hs) λr s' hq=> ?_⟩
 cases r with
 |ok fl=>cases fl<;>exact hq
 |error e=>
  obtain⟨_,_,_,_,_,_,_,_,_,z⟩:=hq
  exact z.elim
section
variable{X:Cx}{K:FZ}{pins:List (Addr×Obj)}{σ:St}{H:Hp}{s:Shared}
end
theorem ixT{K:FZ}{w:World}{H:Hp}{Q:VK}{a:Addr}{xs:List V}{i:Int}{v:V}(h:H a=some (.tup xs))(e:atI xs i=some v)(q:Q v H):rIxL K (.ref a) (.int i) H Q\/rIxT K (.ref a) (.int i) H Q\/rIxS (.ref a) (.int i) H Q\/rIxTop w K (.ref a) (.int i) H Q:=.inr (.inl ⟨a,xs,i,v,rfl,rfl,SqT.of h,e,q⟩)
theorem ixL{K:FZ}{w:World}{H:Hp}{Q:VK}{a:Addr}{xs:List V}{i:Int}{v:V}(h:H a=some (.lst xs))(e:atI xs i=some v)(q:Q v H):rIxL K (.ref a) (.int i) H Q\/rIxT K (.ref a) (.int i) H Q\/rIxS (.ref a) (.int i) H Q\/rIxTop w K (.ref a) (.int i) H Q:=.inl ⟨a,xs,i,v,rfl,rfl,SqL.of h,e,q⟩
theorem fS{N P:List Str}{sc:Scope}(a:sc.kind=.function:=by rfl)(b:sc.isCoroutine=false:=by rfl)(c:sc.isGenerator=false:=by rfl)(d:N.Nodup:=by decide +kernel)(e:N.take P.length=P:=by rfl)(f:∀x∈P,sc.names.lookup x=some .local\/sc.names.lookup x=some .cell:=by decide +kernel)(g:∀y∈sc.names,y.2≠ .free:=by decide +kernel):FnScope N P sc:=⟨a,b,c,d,e,f,g⟩
theorem cS{N:List Str}{sc scope:Scope}{x:Str}{caps:List Nat}{ns:List Str}(a:∀y∈scope.names,y.2≠ .cell:=by decide +kernel)(b:scope.kind=.function:=by rfl)(c:∀y∈scope.names,y.2=.local->scope.names.lookup y.1=some .local:=by decide +kernel)(d:scope.names.lookup x=some .local:=by rfl)(e:∀y∈scope.names,y.2=.free->sc.names.lookup y.1=some .cell\/sc.names.lookup y.1=some .free:=by decide +kernel)(f:caps.map (λj=>N[j]?)=ns.map some:=by rfl)(g:∀y∈ns,scope.names.lookup y=some .free:=by decide +kernel)(h:(x::ns).Nodup:=by decide +kernel):CompScope N sc scope x caps ns:=⟨a,b,c,d,e,f,g,h⟩
section
variable{X:Cx}{a b:Expr}{ta tb:TE}{pos:Pos}
theorem ixE(K:FZ)(w:World)(ha:PE X a ta)(hb:PE X b tb)(hs:NE b:=by exact λ_ _=>rfl)(hK:X.K=K:=by rfl)(hw:X.w=w:=by rfl):PE X (.Subscript a b pos) (tOp (λx y H Q=>rIxL K x y H Q\/rIxT K x y H Q\/rIxS x y H Q\/rIxTop w K x y H Q) ta tb):=ZZ (kIx hK hw) ha hb hs
end
def Cn(P:Program)(w:World)(K:FZ)(mg:Str->Option Value)(base:Heap)(CX:CXT)(n:Nat)(x:Str)(ps:List Str)(sp:Sp):Prop:=∃f d,FnOk P w K mg base CX n f d ps sp/\Binds K d ps []/\kZ K (.ref f)=true/\mg x=some (.ref f)
end L2
abbrev q1L:List PySem.Str:=["_law_bonds","_law_kind","_law_known"]
abbrev q3L:List PySem.Str:=["_law_bonds","_law_way","_law_one","_law_other"]
abbrev q5L:List PySem.Str:=["_law_cell","_law_many"]
abbrev q6L:List PySem.Str:=["_law_kind","_law_known"]
abbrev q8L:List PySem.Str:=["_law_kind","_law_one"]
abbrev q9L:List PySem.Str:=["_law_kind"]
abbrev YL:List PySem.Str:=["_law_number","_law_many","_law_least"]
abbrev VT:List PySem.Str:=["_law_number","_law_many"]
abbrev LR:List PySem.Str:=["_law_one","_law_other","_law_known"]
abbrev YI:List PySem.Str:=["_law_script","_law_k"]
abbrev Y9:List PySem.Str:=["kind"]
abbrev NS:List PySem.Str:=["root","parts_in","made"]
abbrev UF:List PySem.Str:=["self","kind","numbers"]
abbrev T0:List PySem.Str:=["self","kind"]
abbrev GB:List PySem.Str:=["self","number"]
abbrev IF:List PySem.Str:=["self","one","other"]
abbrev UR:List PySem.Str:=["self","shape"]
abbrev X2:List PySem.Str:=["self"]
abbrev XJ:List PySem.Str:=["shape","other"]
abbrev PV:List PySem.Str:=["shape","parts"]
namespace TM
open PySem PyProof.Rows
section
variable{prog:Program}{w:World}{A:Around}{E:Value->Shared->Prop}{s:Shared}
end
end TM
namespace L2
open PySem PySem.Spec PyProof.Rows
section
variable{X:Cx}{K:FZ}
end
end L2
namespace L2
open PySem PyProof.Rows
section
variable{X:Cx}
end
end L2
namespace L2
open PySem PySem.Spec PyProof.Rows
section
variable{X:Cx}{K:FZ}
end
end L2
namespace L2
open PySem PySem.Spec PyProof PyProof.Rows
section
variable{prog:Program}{w:World}{A:Around}{E:Value->Shared->Prop}
variable{X:Cx}{pos:Pos}
end
end L2
namespace L2
open PySem PySem.Spec PyProof.Rows
section
variable{X:Cx}{K:FZ}
variable{k j:Nat}{ps:List Str}{sp:Sp}{x m:Str}{p pos apos:Pos}{e o:Expr}{es:List Expr}{ta te:TE}{t:TA}{f C:Addr}{fd:FuncData}
theorem mC{pl:Sem Bool}(he:PE X o ta)(c:Cls X.K C)(hm:Meth X.K C m f)(F:FnOk X.prog X.w X.K X.mg X.base CX0 k f fd ps sp)(hr:Room j X.A)(hb:Binds X.K fd ps [])(ha:PA X (e::es) t)(hk:k<=j:=by omega)
  (hst:starEach (e::es) X.env=(false,eval e X.env)::starEach es X.env:=by rfl)(hpl:(backTo pos (starEach es X.env)).any (·.1)=false:=by rfl)
  (ht:eval (.Call (.Attribute o m apos) (e::es) [] pos) X.env=(do
   let ov<-eval o X.env
   standAt apos.atName
   let(f,first)<-holding [ov] (getMethod ov m pl)
   callWith pos f first (backTo pos (starEach (e::es) X.env)) (backToKw pos (keywordEach [] X.env))):=by rfl):
  PE X (.Call (.Attribute o m apos) (e::es) [] pos) (MZ C m sp [] E0 ta t):=E5 (pl:=pl) he c hm F (hr.mono hk) hb .nil C1 ha hst hpl ht
theorem mN{pl:Sem Bool}(he:PE X o ta)(c:Cls X.K C)(hm:Meth X.K C m f)(F:FnOk X.prog X.w X.K X.mg X.base CX0 k f fd ps sp)(hr:Room j X.A)(hb:Binds X.K fd ps [])(hk:k<=j:=by omega)
  (ht:eval (.Call (.Attribute o m apos) [] [] pos) X.env=(do
   let ov<-eval o X.env
   standAt apos.atName
   let(f,first)<-holding [ov] (getMethod ov m pl)
   callWith pos f first (backTo pos (starEach [] X.env)) (backToKw pos (keywordEach [] X.env))):=by rfl):
  PE X (.Call (.Attribute o m apos) [] [] pos) (MZ C m sp [] E0 ta TB):=BO (pl:=pl) he c hm F (hr.mono hk) hb .nil C1 ht
variable{cpos cp:Pos}{td:TE}
theorem XD(hc:X.calm=true)(hK:X.K=K:=by rfl):CallR X (.builtin "sum") (λxs H Q=>∃(p:Addr) (ns:List Nat),xs=[.ref p]/\SqL K H p (ns.map λn=>V.int (n:Nat))/\Q (.int (ns.sum:Nat)) H):=by
 subst hK
 intro pins s σ H vs us Q I r h
 obtain⟨p,ns,rfl,hS,q⟩:=h
 obtain⟨u,rfl,ru⟩:=GR r
 cases ru
 obtain⟨its,rv,pl,hz⟩:=I.list hS
 have hl:its.length=ns.length:=by have:=rv.length;rw[length_map]at this;omega
 refine call_sum_walkAnyS (wpAny_pyIter_list pl.isList ?_)
 obtain⟨ol,el,cl,dl⟩:=id pl.isList
 have hplt:=lt_size el
 have hpne:p≠s.heap.objs.size:=ne_of_lt hplt
 have W:=Walks.list (prog:=X.prog) (w:=X.w) (A:=X.A.in1) (show X.A.in1.handled=none from I.ok.hd hc) s.heap.objs.size p hpne its.toArray
 refine⟨s.heap.objs.size,[s.heap.objs.size,p],[s.heap.objs.size],_,its.toArray.size,_,_,λi=>((ns.getD i 0:Nat):Int),rfl,W.toS,⟨⟨_,get?_push_size _ rfl,rfl,rfl⟩,⟨ol,gZ _ el,cl,dl⟩⟩, ?_, ?_, ?_⟩
 ·intro b hb
  simp only[mem_cons,not_mem_nil,or_false]at hb
  rw[size_push]
  rcases hb with rfl|rfl
  ·exact lt_succ_self _
  ·exact Nat.lt_succ_of_lt hplt
 ·intro i v hP
  exact UT rv (by simpa using hP)
 ·intro s' t' mv
  have e:preSum (λi=>((ns.getD i 0:Nat):Int)) its.toArray.size=((ns.sum:Nat):Int):=by
   rw[size_toArray,hl,MK ns ns.length (le_refl _),take_length]
  rw[e]
  obtain⟨mh,mg,md,mo,mt⟩:=mv
  obtain⟨h',g',d',tk,o'⟩:=s'
  simp only at mg md mo mh
  subst mg md mo
  refine⟨.int (ns.sum:Nat),H,I.kept (t':=tk) λb o e=>mh b o (λz=> ?_) (gZ _ e),⟨_,rfl⟩,q⟩
  have z':b=s.heap.objs.size:=by simpa using z
  subst z'
  exact absurd (lt_size e) (lt_irrefl _)
end
section
variable{X:Cx}{c:Expr}{pos:Pos}{a b:List Stmt}{tc:TT}{ta tb:TSX}
def xIf(tc:TT)(ta tb:TSX):TSX:=λD E σ H=>tc σ H λd H1=>if d=true then ta D E σ H1 else tb D E σ H1
theorem WW(hc:∀xe,PT (X.xed xe) c tc)(ha:PSX X a ta)(hb:PSX X b tb):PSX X [.If c a b pos] (xIf tc ta tb):=by
 intro pins s σ H D E XE I h hx
 refine wpAny_execs_cons (wpAny_If (thn (hc XE pins s σ H _ I.xed h) λd s1 ⟨H1,I1,q1⟩=> ?_))
 cases d with
 |true=>
  refine thn (ha pins s1 σ H1 D E XE I1.unxed q1 hx) λfl s2 h2=> ?_
  cases fl<;>first|exact wpAny_execs_nil h2|exact h2
 |false=>
  refine thn (hb pins s1 σ H1 D E XE I1.unxed q1 hx) λfl s2 h2=> ?_
  cases fl<;>first|exact wpAny_execs_nil h2|exact h2
end
theorem walk_ofKTY{l:PySem.W.OpenLaw}{n k:Nat}{q:Program}{loose:List Str}{XP:(Str->Option Value)->Heap->Prop}{YP:World->Heap->Prop}{d:DefRec}{K:Params->FZ}{CX:CXT}{sp:FZ->Sp}{x:Str}{tabs:List (Addr×Addr)}
  (hn:l.most=some n)(hn2:n<=sizeLine)(hdf:d.params.defaults=[])(hr:Room k callerA)
  (hY:∀(w:World) (h:Heap),YP w h->(K w.params).In h)
  (hT:∀(w:World) (h:Heap),YP w h->(K w.params).In h->PySem.W.TabsAt tabs h)(hK:∀w:World,PySem.W.noTabs (K w.params)=true)
  (F:∀(w:World) (mg:Str->Option Value) (fa:Addr) (h:Heap),(K w.params).In h->h.Ns mainGlobals mg->mg d.name=some (.ref fa)->
   ∃fd:FuncData,(∀(s:Shared) (u:Value),BindsTo s fd ⟨[u],[]⟩ [(x,u)])/\
    ∀base:Heap,(K w.params).In base->base.Ns mainGlobals mg->TabsB tabs mg base->FnOk l.prog w (K w.params) mg base CX k fa fd [x] (sp (K w.params)))
  (hsp:∀(K:FZ) (H:Hp) (a:Addr) (ns:List Int),ns.length<=n->OnlyT tabs H->SqL K H a (ns.map V.int)->sp K [.ref a] H (λv _=>v=.bl true) λ_ _ _=>False)
  (hCX:∀(H:Hp) (s:Shared) (e:Value) (s':Shared),CX [] H s (λ_ _ _=>False) e s'->False):
  PySem.W.WalkO q loose XP YP l.row.toRowW d [] (λf vs=>PySem.call f vs):=by
 refine Att.attach_call hn hdf λw s₀ s₁ mg mb fa o pm cd doc a vs ns G Y ho hd hcd hmg hobj hints hlen hg=> ?_
 have KX:=hY w _ Y
 obtain⟨fd,hb,hF⟩:=F w mg fa _ KX G.T.g hmg
 exact OI KX G.T.g G.T.b G.T.builtins G.T.nolimit hg (hT w _ Y KX) (hK w) G.T.bmain hobj hints (le_trans hlen hn2) hr hF hb (λH hO hS=>hsp (K w.params) H a ns hlen hO hS) λH e s'=>hCX H s₁ e s'
end L2
namespace BV
open PySem L2
abbrev AS:=Addr->Prop
def Kp(S:AS)(H H':Hp):Prop:=(∀b xs,H b=some (.tup xs)->H' b=some (.tup xs))/\∀b o,H b=some o->¬S b->H' b=some o
def Wd(H:Hp)(S S':AS):Prop:=∀a,S' a->S a\/H a=none
theorem A5{H:Hp}{p:Addr}(h:H p=none)(o:HO):Same H (upd H p o):=λb u q=>by rw[B1 (B0 q h)];exact q
structure Tr where
 T:Type
 kids:T->List T
 size:T->Nat
 val:AS->Hp->T->V->Prop
 res:AS->Hp->T->V->Prop
 hsz:∀t,size t=1+((kids t).map size).sum
 vm:∀ {S H H' t v},Kp S H H'->val S H t v->val S H' t v
 rm:∀ {S H H' t v},Kp S H H'->res S H t v->res S H' t v
 vw:∀ {S S' H t v},Wd H S S'->val S H t v->val S' H t v
 rw':∀ {S S' H t v},Wd H S S'->res S H t v->res S' H t v
inductive All2 {α β:Type} (R:α->β->Prop):List α->List β->Prop where
 |nil:All2 R [] []
 |cons {a b as bs}:R a b->All2 R as bs->All2 R (a::as) (b::bs)
namespace All2
variable{α β:Type}{R S:α->β->Prop}
theorem imp{as:List α}{bs:List β}(h:All2 R as bs)(f:∀a b,R a b->S a b):All2 S as bs:=by
 induction h with
 |nil=>exact .nil
 |cons r _ ih=>exact .cons (f _ _ r) ih
theorem app{as as':List α}{bs bs':List β}(h:All2 R as bs)(h':All2 R as' bs'):All2 R (as++as') (bs++bs'):=by
 induction h with
 |nil=>exact h'
 |cons r _ ih=>exact .cons r ih
theorem rev{as:List α}{bs:List β}(h:All2 R as bs):All2 R as.reverse bs.reverse:=by
 induction h with
 |nil=>exact .nil
 |cons r _ ih=>rw[reverse_cons,reverse_cons];exact ih.app (.cons r .nil)
theorem len{as:List α}{bs:List β}(h:All2 R as bs):as.length=bs.length:=by
 induction h with
 |nil=>rfl
 |cons _ _ ih=>simp only[length_cons,ih]
theorem get{as:List α}{bs:List β}(h:All2 R as bs):∀ {i:Nat} {b:β},bs[i]? =some b->∃a,as[i]? =some a/\R a b:=by
 induction h with
 |nil=>intro i b e;simp at e
 | @cons a b as bs r _ ih=>
  intro i c e
  cases i with
  |zero=>simp at e;subst e;exact⟨a,rfl,r⟩
  |succ i=>exact ih (by simpa using e)
theorem get'{as:List α}{bs:List β}(h:All2 R as bs):∀ {i:Nat} {a:α},as[i]? =some a->∃b,bs[i]? =some b/\R a b:=by
 induction h with
 |nil=>intro i b e;simp at e
 | @cons a b as bs r _ ih=>
  intro i c e
  cases i with
  |zero=>simp at e;subst e;exact⟨b,rfl,r⟩
  |succ i=>exact ih (by simpa using e)
theorem split{as as':List α}:∀ {bs:List β},All2 R (as++as') bs->∃b1 b2,bs=b1++b2/\All2 R as b1/\All2 R as' b2:=by
 induction as with
 |nil=>intro bs h;exact⟨[],bs,rfl,.nil,h⟩
 |cons a as ih=>
  intro bs h
  cases h with
  |cons r h=>
   obtain⟨b1,b2,rfl,h1,h2⟩:=ih h
   exact⟨_::b1,b2,rfl,.cons r h1,h2⟩
end All2
inductive Reach (D:Tr) (t0:D.T):List D.T->List D.T->Prop where
 |start:Reach D t0 [] [t0]
 |step {A:List D.T} {t:D.T} {r:List D.T}:Reach D t0 A (t::r)->Reach D t0 (A++ [t]) (D.kids t++r)
theorem Reach.back{D:Tr}{t0 t:D.T}{A W:List D.T}(h:Reach D t0 (A++ [t]) W):∃r,W=D.kids t++r/\Reach D t0 A (t::r):=by
 generalize e:A++ [t]=B at h
 cases h with
 |start=>simp at e
 |step h=>
  have:=List.append_inj' e rfl
  obtain⟨rfl,e2⟩:=this
  cases e2
  exact⟨_,rfl,h⟩
theorem Reach.first{D:Tr}{t0:D.T}{W:List D.T}(h:Reach D t0 [] W):W=[t0]:=by
 generalize e:([]:List D.T)=B at h
 cases h with
 |start=>rfl
 |step h=>simp at e
theorem Reach.size{D:Tr}{t0:D.T}{A W:List D.T}(h:Reach D t0 A W):A.length+(W.map D.size).sum=D.size t0:=by
 induction h with
 |start=>simp
 | @step A t r _ ih=>
  simp only[length_append,length_cons,List.length_nil,map_append,sum_append,map_cons,sum_cons]at ih⊢
  have:=D.hsz t
  omega
theorem Tr.pos(D:Tr)(t:D.T):1<=D.size t:=by have:=D.hsz t;omega
theorem Tr.len_le(D:Tr):∀W:List D.T,W.length<=(W.map D.size).sum
 | []=>le_refl _
 |t::r=>by have:=D.pos t;have:=D.len_le r;simp only[length_cons,map_cons,sum_cons];omega
theorem Tr.kids_le(D:Tr)(t:D.T):(D.kids t).length<=D.size t:=by have:=D.len_le (D.kids t);have:=D.hsz t;omega
end BV
namespace BV
open PySem L2
theorem WO{H:Hp}{a:Addr}{o:HO}(h:H a=some o):upd H a o=H:=by
 funext b
 unfold upd
 split
 ·rename_i e;rw[e,h]
 ·rfl
end BV
namespace BN
inductive G|num|tru|lst (a:G)|fn (a b:G)
 deriving DecidableEq
inductive Kn|opn (n:Int)|num|tru|lst (a:Kn)|fn (a b:Kn)
 deriving DecidableEq
inductive Sh|num|tru|lst (a:Int)|fn (a b:Int)
 deriving DecidableEq
def ev(v:Int->G):Kn->G
 | .opn n=>v n
 | .num=> .num
 | .tru=> .tru
 | .lst a=> .lst (ev v a)
 | .fn a b=> .fn (ev v a) (ev v b)
def evS(v:Int->G):Sh->G
 | .num=> .num
 | .tru=> .tru
 | .lst a=> .lst (v a)
 | .fn a b=> .fn (v a) (v b)
def Sh.ps:Sh->List Int
 | .lst a=> [a]
 | .fn a b=> [a,b]
 |_=> []
def Sh.tg:Sh->Nat
 | .num=>0
 | .tru=>1
 | .lst _=>2
 | .fn _ _=>3
def Sh.kn:Sh->Kn
 | .num=> .num
 | .tru=> .tru
 | .lst a=> .lst (.opn a)
 | .fn a b=> .fn (.opn a) (.opn b)
def gw:G->Nat
 | .num=>1
 | .tru=>1
 | .lst a=>1+gw a
 | .fn a b=>1+(gw a+gw b)
theorem FF(g:G):0<gw g:=by cases g<;>simp[gw]<;>omega
theorem XR(v:Int->G)(s:Sh):ev v s.kn=evS v s:=by cases s<;>rfl
theorem GT{v w:Int->G}{s:Sh}(h:∀p∈s.ps,v p=w p):evS v s=evS w s:=by
 cases s<;>simp_all [evS,Sh.ps]
theorem MT{v:Int->G}{s t:Sh}(ht:s.tg=t.tg):evS v s=evS v t↔∀x∈s.ps.zip t.ps,v x.1=v x.2:=by
 cases s<;>cases t<;>simp_all [evS,Sh.ps,Sh.tg]
theorem WX{v:Int->G}{s t:Sh}(h:evS v s=evS v t):s.tg=t.tg:=by
 cases s<;>cases t<;>simp_all [evS,Sh.tg]
theorem YM{v:Int->G}{s:Sh}{p:Int}(h:p∈s.ps):gw (v p)<gw (evS v s):=by
 cases s with
 |num=>simp[Sh.ps]at h
 |tru=>simp[Sh.ps]at h
 |lst a=>simp[Sh.ps]at h;subst h;simp[evS,gw]
 |fn a b=>
  simp[Sh.ps]at h
  have:=FF (v a);have:=FF (v b)
  rcases h with h|h<;>subst h<;>simp[evS,gw]<;>omega
inductive Le:G->G->Prop
 |num (g:G):Le .num g
 |tru:Le .tru .tru
 |lst {a b:G}:Le a b->Le (.lst a) (.lst b)
 |fn {a b c d:G}:Le a c->Le b d->Le (.fn a b) (.fn c d)
theorem Le.anti{a b:G}(h:Le a b)(h':Le b a):a=b:=by
 induction h with
 |num g=>cases h';rfl
 |tru=>rfl
 |lst _ ih=>cases h' with|lst x=>rw[ih x]
 |fn _ _ ih ih2=>cases h' with|fn x y=>rw[ih x,ih2 y]
inductive Lead (L:Int->Option Int):Int->Int->Prop
 |stop {n:Int}:L n=none->Lead L n n
 |on {n m r:Int}:L n=some m->Lead L m r->Lead L n r
theorem Lead.det{L:Int->Option Int}{n r s:Int}(h:Lead L n r)(h':Lead L n s):r=s:=by
 induction h with
 |stop e=>cases h' with
  |stop=>rfl
  |on e2=>rw[e]at e2;cases e2
 |on e _ ih=>cases h' with
  |stop e2=>rw[e]at e2;cases e2
  |on e2 x=>rw[e]at e2;cases e2;exact ih x
theorem Lead.top{L:Int->Option Int}{n r:Int}(h:Lead L n r):L r=none:=by
 induction h with
 |stop e=>exact e
 |on _ _ ih=>exact ih
theorem Lead.self{L:Int->Option Int}{n r:Int}(h:Lead L n r):Lead L r r:=.stop h.top
def up{α:Type}(f:Int->α)(k:Int)(x:α):Int->α:=λn=>if n=k then x else f n
theorem J0{α:Type}{f:Int->α}{k:Int}{x:α}:up f k x k=x:=by simp[up]
theorem C8{α:Type}{f:Int->α}{k n:Int}{x:α}(h:n≠k):up f k x n=f n:=by simp[up,h]
theorem LK{L:Int->Option Int}{k m r:Int}(h0:L k=some m)(h:Lead L k r){n s:Int}(hn:Lead L n s):Lead (up L k (some r)) n s:=by
 have hr:r≠k:=λe=>by have:=h.top;rw[e,h0]at this;cases this
 induction hn with
 | @stop n e=>
  have:n≠k:=λx=>by rw[x,h0]at e;cases e
  exact .stop (by rw[C8 this];exact e)
 | @on n m' s e t ih=>
  by_cases hk:n=k
  ·subst hk
   have:s=r:=(Lead.on e t).det h
   subst this
   exact .on J0 (.stop (by rw[C8 hr];exact h.top))
  ·exact .on (by rw[C8 hk];exact e) ih
def LE(L L':Int->Option Int):Prop:=∀n r,Lead L n r->Lead L' n r
theorem LE.rfl{L:Int->Option Int}:LE L L:=λ_ _ h=>h
theorem LE.trans{L M N:Int->Option Int}(h:LE L M)(h':LE M N):LE L N:=λn r x=>h' n r (h n r x)
def Tot(L:Int->Option Int):Prop:=∀n,∃r,Lead L n r
theorem LE.iff{L M:Int->Option Int}(h:LE L M)(ht:Tot L){n r:Int}:Lead M n r↔Lead L n r:=by
 constructor
 ·intro x
  obtain⟨s,hs⟩:=ht n
  rw[x.det (h n s hs)];exact hs
 ·exact h n r
theorem LE.tot{L M:Int->Option Int}(h:LE L M)(ht:Tot L):Tot M:=λn=>by
 obtain⟨r,hr⟩:=ht n;exact⟨r,h n r hr⟩
theorem OC{L:Int->Option Int}{a b:Int}(ha:L a=none)(hb:L b=none)(hab:a≠b){n r:Int}(h:Lead L n r):
  Lead (up L a (some b)) n (if r=a then b else r):=by
 induction h with
 | @stop n e=>
  by_cases hn:n=a
  ·subst hn;simp;exact .on J0 (.stop (by rw[C8 (Ne.symm hab)];exact hb))
  ·simp[hn];exact .stop (by rw[C8 hn];exact e)
 | @on n m r e t ih=>
  have:n≠a:=λx=>by rw[x,ha]at e;cases e
  exact .on (by rw[C8 this];exact e) ih
structure St where
 N:Nat
 M:Nat
 L:Int->Option Int
 H:Int->Option Sh
def St.Rg(S:St)(n:Int):Prop:= -(S.M:Int)<=n/\n<S.N
structure Wf (S:St):Prop where
 tot:Tot S.L
 top:∀n s,S.H n=some s->S.L n=none
 lr:∀n m,S.L n=some m->S.Rg n/\S.Rg m
 hr:∀n s,S.H n=some s->S.Rg n/\∀p∈s.ps,S.Rg p
def Sol(S:St)(v:Int->G):Prop:=(∀n r,Lead S.L n r->v n=v r)/\∀n s,S.H n=some s->v n=evS v s
structure Alk (S S':St):Prop where
 n:S'.N=S.N
 m:S'.M=S.M
 h:S'.H=S.H
 l:LE S.L S'.L
theorem Alk.rfl{S:St}:Alk S S:=⟨by rfl,by rfl,by rfl,.rfl⟩
theorem Alk.trans{S T U:St}(h:Alk S T)(h':Alk T U):Alk S U:=⟨h'.n.trans h.n,h'.m.trans h.m,h'.h.trans h.h,h.l.trans h'.l⟩
theorem Alk.rg{S T:St}(h:Alk S T){n:Int}:T.Rg n↔S.Rg n:=by simp[St.Rg,h.n,h.m]
theorem Alk.sol{S T:St}(h:Alk S T)(w:Wf S){v:Int->G}:Sol T v↔Sol S v:=by
 simp only[Sol,h.h,h.l.iff w.tot]
theorem Lead.rg{S:St}(w:Wf S){n r:Int}(h:Lead S.L n r)(hn:S.Rg n):S.Rg r:=by
 induction h with
 |stop=>exact hn
 |on e _ ih=>exact ih (w.lr _ _ e).2
def St.cut(S:St)(k r:Int):St:={S with L:=up S.L k (some r)}
theorem HK{S:St}{k m r:Int}(h0:S.L k=some m)(h:Lead S.L k r):Alk S (S.cut k r):=
 ⟨by rfl,by rfl,by rfl,λ_ _ x=>LK h0 h x⟩
theorem VU{S:St}(w:Wf S){k m r:Int}(h0:S.L k=some m)(h:Lead S.L k r):Wf (S.cut k r) where
 tot:=(HK h0 h).l.tot w.tot
 top:=λn s e=>by
  have hn:S.L n=none:=w.top n s e
  have:n≠k:=λx=>by rw[x,h0]at hn;cases hn
  show up S.L k (some r) n=none
  rw[C8 this];exact hn
 lr:=λn m' e=>by
  change up S.L k (some r) n=some m' at e
  by_cases hk:n=k
  ·subst hk;rw[J0]at e;cases e
   exact⟨(w.lr _ _ h0).1,h.rg w (w.lr _ _ h0).1⟩
  ·rw[C8 hk]at e;exact w.lr _ _ e
 hr:=w.hr
inductive Val (S:St):Int->G->Prop
 |op {n r:Int}:Lead S.L n r->S.H r=none->Val S n .num
 |num {n r:Int}:Lead S.L n r->S.H r=some .num->Val S n .num
 |tru {n r:Int}:Lead S.L n r->S.H r=some .tru->Val S n .tru
 |lst {n r a:Int} {g:G}:Lead S.L n r->S.H r=some (.lst a)->Val S a g->Val S n (.lst g)
 |fn {n r a b:Int} {g g':G}:Lead S.L n r->S.H r=some (.fn a b)->Val S a g->Val S b g'->Val S n (.fn g g')
theorem Val.det{S:St}{n:Int}{g g':G}(h:Val S n g)(h':Val S n g'):g=g':=by
 induction h generalizing g' with
 |op l e=>cases h' with
  |op=>rfl
  |num=>rfl
  |tru l2 e2=>rw[l.det l2,e2]at e;cases e
  |lst l2 e2=>rw[l.det l2,e2]at e;cases e
  |fn l2 e2=>rw[l.det l2,e2]at e;cases e
 |num l e=>cases h' with
  |op=>rfl
  |num=>rfl
  |tru l2 e2=>rw[l.det l2,e2]at e;cases e
  |lst l2 e2=>rw[l.det l2,e2]at e;cases e
  |fn l2 e2=>rw[l.det l2,e2]at e;cases e
 |tru l e=>cases h' with
  |tru=>rfl
  |op l2 e2=>rw[l.det l2,e2]at e;cases e
  |num l2 e2=>rw[l.det l2,e2]at e;cases e
  |lst l2 e2=>rw[l.det l2,e2]at e;cases e
  |fn l2 e2=>rw[l.det l2,e2]at e;cases e
 |lst l e _ ih=>cases h' with
  |op l2 e2=>rw[l.det l2,e2]at e;cases e
  |num l2 e2=>rw[l.det l2,e2]at e;cases e
  |tru l2 e2=>rw[l.det l2,e2]at e;cases e
  |lst l2 e2 x=>rw[l.det l2,e2]at e;cases e;rw[ih x]
  |fn l2 e2=>rw[l.det l2,e2]at e;cases e
 |fn l e _ _ ih ih2=>cases h' with
  |op l2 e2=>rw[l.det l2,e2]at e;cases e
  |num l2 e2=>rw[l.det l2,e2]at e;cases e
  |tru l2 e2=>rw[l.det l2,e2]at e;cases e
  |lst l2 e2=>rw[l.det l2,e2]at e;cases e
  |fn l2 e2 x y=>rw[l.det l2,e2]at e;cases e;rw[ih x,ih2 y]
theorem Val.least{S:St}{n:Int}{g:G}(h:Val S n g){v:Int->G}(hv:Sol S v):Le g (v n):=by
 induction h with
 |op=>exact .num _
 |num=>exact .num _
 |tru l e=>rw[hv.1 _ _ l,hv.2 _ _ e];exact .tru
 |lst l e _ ih=>rw[hv.1 _ _ l,hv.2 _ _ e];exact .lst ih
 |fn l e _ _ ih ih2=>rw[hv.1 _ _ l,hv.2 _ _ e];exact .fn ih ih2
theorem Val.same{S:St}{n r:Int}{g:G}(h:Val S r g)(l:Lead S.L n r):Val S n g:=by
 have:=l.self
 cases h with
 |op l2 e=>rw[l2.det this]at e;exact .op l e
 |num l2 e=>rw[l2.det this]at e;exact .num l e
 |tru l2 e=>rw[l2.det this]at e;exact .tru l e
 |lst l2 e x=>rw[l2.det this]at e;exact .lst l e x
 |fn l2 e x y=>rw[l2.det this]at e;exact .fn l e x y
theorem Val.root{S:St}{n r:Int}{g:G}(h:Val S n g)(l:Lead S.L n r):Val S r g:=by
 have:=l.self
 cases h with
 |op l2 e=>rw[l2.det l]at e;exact .op this e
 |num l2 e=>rw[l2.det l]at e;exact .num this e
 |tru l2 e=>rw[l2.det l]at e;exact .tru this e
 |lst l2 e x=>rw[l2.det l]at e;exact .lst this e x
 |fn l2 e x y=>rw[l2.det l]at e;exact .fn this e x y
theorem Val.part{S:St}{n r p:Int}{g:G}{s:Sh}(h:Val S n g)(l:Lead S.L n r)(e:S.H r=some s)(hp:p∈s.ps):∃g,Val S p g:=by
 cases h with
 |op l2 e2=>rw[l2.det l,e]at e2;cases e2
 |num l2 e2=>rw[l2.det l,e]at e2;cases e2;simp[Sh.ps]at hp
 |tru l2 e2=>rw[l2.det l,e]at e2;cases e2;simp[Sh.ps]at hp
 |lst l2 e2 x=>rw[l2.det l,e]at e2;cases e2;simp[Sh.ps]at hp;subst hp;exact⟨_,x⟩
 |fn l2 e2 x y=>
  rw[l2.det l,e]at e2;cases e2;simp[Sh.ps]at hp
  rcases hp with hp|hp<;>subst hp
  ·exact⟨_,x⟩
  ·exact⟨_,y⟩
theorem RQ{S:St}{n r:Int}{s:Sh}(l:Lead S.L n r)(e:S.H r=some s)(h:∀p∈s.ps,∃g,Val S p g):∃g,Val S n g:=by
 cases s with
 |num=>exact⟨_,.num l e⟩
 |tru=>exact⟨_,.tru l e⟩
 |lst a=>obtain⟨g,x⟩:=h a (by simp[Sh.ps]);exact⟨_,.lst l e x⟩
 |fn a b=>obtain⟨g,x⟩:=h a (by simp[Sh.ps]);obtain⟨g',y⟩:=h b (by simp[Sh.ps]);exact⟨_,.fn l e x y⟩
def Acy(S:St):Prop:=∀n,∃g,Val S n g
noncomputable def wv(S:St)(n:Int):G:= @Classical.epsilon G ⟨.num⟩ (λg=>Val S n g)
theorem BH{S:St}(h:Acy S)(n:Int):Val S n (wv S n):=Classical.epsilon_spec (h n)
theorem JD{S:St}(h:Acy S){n:Int}{g:G}(hv:Val S n g):wv S n=g:=(BH h n).det hv
theorem OZ{S:St}(w:Wf S)(h:Acy S):Sol S (wv S):=by
 refine⟨λn r l=>JD h ((BH h r).same l),λn s e=>JD h ?_⟩
 have l:Lead S.L n n:=.stop (w.top n s e)
 cases s with
 |num=>exact .num l e
 |tru=>exact .tru l e
 |lst a=>exact .lst l e (BH h a)
 |fn a b=>exact .fn l e (BH h a) (BH h b)
theorem Alk.val{S T:St}(h:Alk S T)(w:Wf S){n:Int}{g:G}(x:Val S n g):Val T n g:=by
 induction x with
 |op l e=>exact .op (h.l _ _ l) (by rw[h.h];exact e)
 |num l e=>exact .num (h.l _ _ l) (by rw[h.h];exact e)
 |tru l e=>exact .tru (h.l _ _ l) (by rw[h.h];exact e)
 |lst l e _ ih=>exact .lst (h.l _ _ l) (by rw[h.h];exact e) ih
 |fn l e _ _ ih ih2=>exact .fn (h.l _ _ l) (by rw[h.h];exact e) ih ih2
theorem Alk.acy{S T:St}(h:Alk S T)(w:Wf S)(a:Acy S):Acy T:=λn=>by
 obtain⟨g,x⟩:=a n;exact⟨g,h.val w x⟩
theorem Alk.wv{S T:St}(h:Alk S T)(w:Wf S)(a:Acy S):wv T=wv S:=by
 funext n;exact JD (h.acy w a) (h.val w (BH a n))
def St.new(S:St)(s:Sh):St:={S with M:=S.M+1,H:=up S.H (-(S.M+1:Int)) (some s)}
theorem Q5{S:St}{n:Int}(h:S.Rg n):n≠ -(S.M+1:Int):=by have:=h.1;omega
theorem QK{S:St}(w:Wf S):S.L (-(S.M+1:Int))=none:=by
 cases h:S.L (-(S.M+1:Int))with
 |none=>rfl
 |some m=>exact absurd rfl (Q5 (w.lr _ _ h).1)
theorem FC{S:St}{s:Sh}{n:Int}(h:S.Rg n):(S.new s).Rg n:=by
 have:=h.1;have:=h.2;constructor<;>simp[St.new]<;>omega
theorem JC{S:St}{s:Sh}:(S.new s).Rg (-(S.M+1:Int)):=by
 constructor<;>simp[St.new]<;>omega
theorem QB{S:St}(w:Wf S){s:Sh}(hs:∀p∈s.ps,S.Rg p):Wf (S.new s) where
 tot:=w.tot
 top:=λn t e=>by
  by_cases hn:n= -(S.M+1:Int)
  ·subst hn;exact QK w
  ·change up S.H _ _ n=_ at e;rw[C8 hn]at e;exact w.top n t e
 lr:=λn m e=>⟨FC (w.lr n m e).1,FC (w.lr n m e).2⟩
 hr:=λn t e=>by
  by_cases hn:n= -(S.M+1:Int)
  ·subst hn;change up S.H _ _ _=_ at e;rw[J0]at e;cases e
   exact⟨JC,λp hp=>FC (hs p hp)⟩
  ·change up S.H _ _ n=_ at e;rw[C8 hn]at e
   exact⟨FC (w.hr n t e).1,λp hp=>FC ((w.hr n t e).2 p hp)⟩
theorem HQ{S:St}(w:Wf S){s:Sh}{v:Int->G}:Sol (S.new s) v↔Sol S v/\v (-(S.M+1:Int))=evS v s:=by
 constructor
 ·intro h
  refine⟨⟨h.1,λn t e=>h.2 n t ?_⟩,h.2 _ s J0⟩
  show up S.H _ _ n=_
  rw[C8 (Q5 (w.hr n t e).1)];exact e
 ·intro⟨h,h2⟩
  refine⟨h.1,λn t e=> ?_⟩
  change up S.H _ _ n=_ at e
  by_cases hn:n= -(S.M+1:Int)
  ·subst hn;rw[J0]at e;cases e;exact h2
  ·rw[C8 hn]at e;exact h.2 n t e
theorem UG{S:St}(w:Wf S){s:Sh}(hs:∀p∈s.ps,S.Rg p){v:Int->G}(h:Sol S v):
  ∃v',Sol (S.new s) v'/\∀n,n≠ -(S.M+1:Int)->v' n=v n:=by
 let k:Int:= -(S.M+1:Int)
 refine⟨up v k (evS v s),(HQ w).2 ⟨⟨?_, ?_⟩, ?_⟩,λn hn=>C8 hn⟩
 ·intro n r l
  by_cases hn:n=k
  ·subst hn
   have:r=k:=l.det (.stop (QK w))
   rw[this]
  ·have:r≠k:=by
    intro e
    cases l with
    |stop=>exact hn e
    |on e2 x=>
     have:=x.rg w (w.lr _ _ e2).2
     rw[e]at this;exact Q5 this rfl
   rw[C8 hn,C8 this];exact h.1 n r l
 ·intro n t e
  rw[C8 (Q5 (w.hr n t e).1),h.2 n t e]
  exact GT λp hp=>(C8 (Q5 ((w.hr n t e).2 p hp))).symm
 ·show up v k _ k=_
  rw[J0]
  exact GT λp hp=>(C8 (Q5 (hs p hp))).symm
theorem TH{S:St}(w:Wf S)(a:Acy S){s:Sh}(hs:∀p∈s.ps,S.Rg p):Acy (S.new s):=by
 have key:∀n g,Val S n g->n≠ -(S.M+1:Int)->Val (S.new s) n g:=by
  intro n g x
  have lr:∀ {n r:Int},Lead S.L n r->n≠ -(S.M+1:Int)->r≠ -(S.M+1:Int):=by
   intro n r l hn e
   cases l with
   |stop=>exact hn e
   |on e2 x=>exact Q5 (e▸x.rg w (w.lr _ _ e2).2) rfl
  have hh:∀ {r:Int},r≠ -(S.M+1:Int)->(S.new s).H r=S.H r:=λh=>C8 h
  induction x with
  |op l e=>intro hn;exact .op l (by rw[hh (lr l hn)];exact e)
  |num l e=>intro hn;exact .num l (by rw[hh (lr l hn)];exact e)
  |tru l e=>intro hn;exact .tru l (by rw[hh (lr l hn)];exact e)
  |lst l e _ ih=>intro hn;exact .lst l (by rw[hh (lr l hn)];exact e) (ih (Q5 ((w.hr _ _ e).2 _ (by simp[Sh.ps]))))
  |fn l e _ _ ih ih2=>
   intro hn
   exact .fn l (by rw[hh (lr l hn)];exact e) (ih (Q5 ((w.hr _ _ e).2 _ (by simp[Sh.ps])))) (ih2 (Q5 ((w.hr _ _ e).2 _ (by simp[Sh.ps]))))
 intro n
 by_cases hn:n= -(S.M+1:Int)
 ·subst hn
  refine RQ (r:= -(S.M+1:Int)) (.stop (QK w)) J0 λp hp=> ?_
  obtain⟨g,x⟩:=a p
  exact⟨g,key p g x (Q5 (hs p hp))⟩
 ·obtain⟨g,x⟩:=a n;exact⟨g,key n g x hn⟩
def St.join(S:St)(a b:Int):St:={S with
 L:=up S.L a (some b)
 H:=match S.H a with
  |none=>S.H
  |some s=>match S.H b with
   |none=>up (up S.H a none) b (some s)
   |some _=>up S.H a none}
def J3(S:St)(a b:Int):List (Int×Int):=match S.H a,S.H b with
 |some s,some t=>s.ps.zip t.ps
 |_,_=> []
def BY(S:St)(a b:Int):Prop:=∃s t,S.H a=some s/\S.H b=some t/\s.tg≠t.tg
section
variable{S:St}{a b:Int}
theorem AH(hab:a≠b):(S.join a b).H a=none:=by
 cases ea:S.H a<;>cases eb:S.H b<;>simp[St.join,ea,eb,up,hab]
theorem M3(hab:a≠b):(S.join a b).H b=match S.H b with|some t=>some t|none=>S.H a:=by
 cases ea:S.H a<;>cases eb:S.H b<;>simp[St.join,ea,eb,up,Ne.symm hab]
theorem W9{n:Int}(ha:n≠a)(hb:n≠b):(S.join a b).H n=S.H n:=by
 cases ea:S.H a<;>cases eb:S.H b<;>simp[St.join,ea,eb,up,ha,hb]
theorem Q1(ha:S.L a=none)(hb:S.L b=none)(hab:a≠b){n r:Int}(h:Lead S.L n r):
  Lead (S.join a b).L n (if r=a then b else r):=OC ha hb hab h
theorem SC(hab:a≠b)(hb:S.L b=none):(S.join a b).L b=none:=by
 show up S.L a (some b) b=none
 rw[C8 (Ne.symm hab)];exact hb
theorem MS(w:Wf S)(ha:S.L a=none)(hb:S.L b=none)(hab:a≠b)(ra:S.Rg a)(rb:S.Rg b):Wf (S.join a b) where
 tot:=λn=>by obtain⟨r,h⟩:=w.tot n;exact⟨_,Q1 ha hb hab h⟩
 top:=λn s e=>by
  by_cases hn:n=a
  ·subst hn;rw[AH hab]at e;cases e
  ·show up S.L a (some b) n=none
   rw[C8 hn]
   by_cases hm:n=b
   ·subst hm;exact hb
   ·rw[W9 hn hm]at e;exact w.top n s e
 lr:=λn m e=>by
  change up S.L a (some b) n=some m at e
  by_cases hn:n=a
  ·subst hn;rw[J0]at e;cases e;exact⟨ra,rb⟩
  ·rw[C8 hn]at e;exact w.lr n m e
 hr:=λn s e=>by
  by_cases hn:n=a
  ·subst hn;rw[AH hab]at e;cases e
  ·by_cases hm:n=b
   ·subst hm;rw[M3 hab]at e;split at e
    ·rename_i t e2;cases e;exact w.hr _ _ e2
    ·exact⟨rb,(w.hr _ _ e).2⟩
   ·rw[W9 hn hm]at e;exact w.hr n s e
theorem SV(h:BY S a b){v:Int->G}(hv:Sol S v):v a≠v b:=by
 obtain⟨s,t,e1,e2,h⟩:=h
 intro e
 rw[hv.2 _ _ e1,hv.2 _ _ e2]at e
 exact h (WX e)
theorem PH(w:Wf S)(ha:S.L a=none)(hb:S.L b=none)(hab:a≠b)(hc:¬BY S a b){v:Int->G}:
  (Sol (S.join a b) v/\∀x∈J3 S a b,v x.1=v x.2)↔Sol S v/\v a=v b:=by
 constructor
 ·intro⟨h,hp⟩
  have eab:v a=v b:=by
   have:=h.1 a _ (Q1 ha hb hab (.stop ha));simpa using this
  refine⟨⟨λn r l=> ?_,λn s e=> ?_⟩,eab⟩
  ·have:=h.1 n _ (Q1 ha hb hab l)
   by_cases hr:r=a
   ·subst hr;simp at this;rw[this,eab]
   ·simpa [hr]using this
  ·by_cases hn:n=a
   ·subst hn
    cases eb:S.H b with
    |none=>rw[eab];exact h.2 b s (by rw[M3 hab,eb];exact e)
    |some t=>
     have h1:=h.2 b t (by rw[M3 hab,eb])
     rw[eab,h1]
     have ht:s.tg=t.tg:=Classical.byContradiction λx=>hc ⟨s,t,e,eb,x⟩
     exact((MT ht).2 (by simpa [J3,e,eb]using hp)).symm
   ·by_cases hm:n=b
    ·subst hm;exact h.2 _ s (by rw[M3 hab,e])
    ·exact h.2 n s (by rw[W9 hn hm];exact e)
 ·intro⟨h,eab⟩
  refine⟨⟨λn r l=> ?_,λn s e=> ?_⟩, ?_⟩
  ·obtain⟨r0,h0⟩:=w.tot n
   have:=(Q1 ha hb hab h0).det l
   by_cases hr:r0=a
   ·subst hr;simp at this;rw[<-this,h.1 _ _ h0,eab]
   ·simp[hr]at this;rw[<-this];exact h.1 _ _ h0
  ·by_cases hn:n=a
   ·subst hn;rw[AH hab]at e;cases e
   ·by_cases hm:n=b
    ·subst hm;rw[M3 hab]at e;split at e
     ·rename_i t e2;cases e;exact h.2 _ _ e2
     ·rw[<-eab];exact h.2 _ _ e
    ·rw[W9 hn hm]at e;exact h.2 n s e
  ·cases ea:S.H a with
   |none=>simp[J3,ea]
   |some s=>cases eb:S.H b with
    |none=>simp[J3,ea,eb]
    |some t=>
     have ht:s.tg=t.tg:=Classical.byContradiction λx=>hc ⟨s,t,ea,eb,x⟩
     simp only[J3,ea,eb]
     exact(MT ht).1 (by rw[<-h.2 _ _ ea,<-h.2 _ _ eb,eab])
end
inductive Rch (S:St) (P:List (Int×Int)) (k:Int):Int->Prop
 |here:Rch S P k k
 |to {n r:Int}:Rch S P k n->Lead S.L n r->Rch S P k r
 |frm {n r:Int}:Rch S P k r->Lead S.L n r->Rch S P k n
 |part {n p:Int} {s:Sh}:Rch S P k n->S.H n=some s->p∈s.ps->Rch S P k p
 |pr {x:Int×Int}:Rch S P k x.1->x∈P->Rch S P k x.2
 |rp {x:Int×Int}:Rch S P k x.2->x∈P->Rch S P k x.1
theorem Rch.alk{S T:St}(h:Alk S T){P:List (Int×Int)}{k n:Int}(x:Rch S P k n):Rch T P k n:=by
 induction x with
 |here=>exact .here
 |to _ l ih=>exact .to ih (h.l _ _ l)
 |frm _ l ih=>exact .frm ih (h.l _ _ l)
 |part _ e hp ih=>exact .part ih (by rw[h.h];exact e) hp
 |pr _ hx ih=>exact .pr ih hx
 |rp _ hx ih=>exact .rp ih hx
theorem Rch.join{S:St}(w:Wf S){p q a b:Int}(la:Lead S.L p a)(lb:Lead S.L q b)(hab:a≠b){P P':List (Int×Int)}
  (hP:∀x∈P,x=(p,q)\/x∈P')(hJ:∀x∈J3 S a b,x∈P')(hc:¬BY S a b){k n:Int}(x:Rch S P k n):
  Rch (S.join a b) P' k n:=by
 have ha:=la.top;have hb:=lb.top
 have J:=λ{n r:Int} (l:Lead S.L n r)=>Q1 ha hb hab l
 have lb':Lead (S.join a b).L b b:=.stop (SC hab hb)
 have pa:Lead (S.join a b).L p b:=by simpa using J la
 have pb:Lead (S.join a b).L q b:=by simpa [Ne.symm hab]using J lb
 have aa:Lead (S.join a b).L a b:=by simpa using J (.stop ha)
 induction x with
 |here=>exact .here
 | @to n r _ l ih=>
  have:=J l
  by_cases hr:r=a
  ·subst hr;simp at this;exact .frm (.to ih this) aa
  ·simp[hr]at this;exact .to ih this
 | @frm n r _ l ih=>
  have:=J l
  by_cases hr:r=a
  ·subst hr;simp at this;exact .frm (.to ih aa) this
  ·simp[hr]at this;exact .frm ih this
 | @part n t s _ e hp ih=>
  by_cases hn:n=a
  ·subst hn
   have ihb:Rch (S.join n b) P' k b:=.to ih aa
   cases eb:S.H b with
   |none=>exact .part ihb (by rw[M3 hab,eb];exact e) hp
   |some u=>
    have ht:s.tg=u.tg:=Classical.byContradiction λx=>hc ⟨s,u,e,eb,x⟩
    have hu:∀z∈u.ps,Rch (S.join n b) P' k z:=λz hz=> .part ihb (by rw[M3 hab,eb]) hz
    have hj:∀x∈s.ps.zip u.ps,x∈P':=by simpa [J3,e,eb]using hJ
    cases s with
    |num=>simp[Sh.ps]at hp
    |tru=>simp[Sh.ps]at hp
    |lst y=>cases u with
     |lst z=>simp[Sh.ps]at hp hj hu;subst hp;exact .rp (x:=(t,z)) hu hj
     |_=>simp[Sh.tg]at ht
    |fn y y'=>cases u with
     |fn z z'=>
      simp[Sh.ps]at hp hj hu
      rcases hp with hp|hp<;>subst hp
      ·exact .rp (x:=(t,z)) hu.1 hj.1
      ·exact .rp (x:=(t,z')) hu.2 hj.2
     |_=>simp[Sh.tg]at ht
  ·by_cases hm:n=b
   ·subst hm;exact .part ih (by rw[M3 hab,e]) hp
   ·exact .part ih (by rw[W9 hn hm];exact e) hp
 | @pr x _ hx ih=>
  rcases hP x hx with rfl|hx
  ·exact .frm (.to ih pa) pb
  ·exact .pr ih hx
 | @rp x _ hx ih=>
  rcases hP x hx with rfl|hx
  ·exact .frm (.to ih pb) pa
  ·exact .rp ih hx
def Unc(S0 S:St)(P:List (Int×Int))(k:Int):Prop:=∀n,¬Rch S P k n->∀r,Lead S0.L n r->Lead S.L n r/\S.H r=S0.H r
theorem Unc.rfl{S:St}{P:List (Int×Int)}{k:Int}:Unc S S P k:=λ_ _ _ l=>⟨l,by rfl⟩
theorem Unc.alk{S0 S T:St}{P:List (Int×Int)}{k:Int}(u:Unc S0 S P k)(h:Alk S T):Unc S0 T P k:=λn hn r l=>by
 obtain⟨x,y⟩:=u n (λz=>hn (z.alk h)) r l
 exact⟨h.l _ _ x,by rw[h.h];exact y⟩
theorem Unc.join{S0 S:St}(w:Wf S){p q a b:Int}(la:Lead S.L p a)(lb:Lead S.L q b)(hab:a≠b){P P':List (Int×Int)}{k:Int}
  (hP:∀x∈P,x=(p,q)\/x∈P')(hJ:∀x∈J3 S a b,x∈P')(hc:¬BY S a b)(hk:Rch S P k p)(hpq:(p,q)∈P)(u:Unc S0 S P k):
  Unc S0 (S.join a b) P' k:=λn hn r l=>by
 have hn':¬Rch S P k n:=λx=>hn (x.join w la lb hab hP hJ hc)
 obtain⟨x,y⟩:=u n hn' r l
 have ra:r≠a:=λe=>hn' (.frm (.to hk la) (e▸x))
 have rb:r≠b:=λe=>hn' (.frm (.to (.pr (x:=(p,q)) hk hpq) lb) (e▸x))
 have:=Q1 la.top lb.top hab x
 simp[ra]at this
 exact⟨this,by rw[W9 ra rb];exact y⟩
theorem Rch.drop{S:St}{p q r:Int}(la:Lead S.L p r)(lb:Lead S.L q r){P P':List (Int×Int)}{k n:Int}
  (hP:∀x∈P,x=(p,q)\/x∈P')(x:Rch S P k n):Rch S P' k n:=by
 induction x with
 |here=>exact .here
 |to _ l ih=>exact .to ih l
 |frm _ l ih=>exact .frm ih l
 |part _ e hp ih=>exact .part ih e hp
 | @pr x _ hx ih=>
  rcases hP x hx with rfl|hx
  ·exact .frm (.to ih la) lb
  ·exact .pr ih hx
 | @rp x _ hx ih=>
  rcases hP x hx with rfl|hx
  ·exact .frm (.to ih lb) la
  ·exact .rp ih hx
structure TL (S0 S:St) (k k2:Int) (P:List (Int×Int)):Prop where
 wf:Wf S
 n:S.N=S0.N
 m:S.M=S0.M
 rg:∀x∈P,S.Rg x.1/\S.Rg x.2
 rch:∀x∈P,Rch S P k x.1
 unc:Unc S0 S P k
 sol:∀v,(Sol S v/\∀x∈P,v x.1=v x.2)↔Sol S0 v/\v k=v k2
theorem TL.start{S:St}(w:Wf S){k k2:Int}(hk:S.Rg k)(hk2:S.Rg k2):TL S S k k2 [(k,k2)]:=
 ⟨w,by rfl,by rfl,by simp[hk,hk2],by simp;exact .here,.rfl,by simp⟩
theorem TL.alk{S0 S T:St}{k k2:Int}{P:List (Int×Int)}(t:TL S0 S k k2 P)(h:Alk S T)(w:Wf T):TL S0 T k k2 P where
 wf:=w
 n:=h.n.trans t.n
 m:=h.m.trans t.m
 rg:=λx hx=>by rw[h.rg,h.rg];exact t.rg x hx
 rch:=λx hx=>(t.rch x hx).alk h
 unc:=t.unc.alk h
 sol:=λv=>by rw[h.sol t.wf];exact t.sol v
theorem TL.same{S0 S:St}{k k2 p q r:Int}{P:List (Int×Int)}(t:TL S0 S k k2 (P++ [(p,q)]))(la:Lead S.L p r)(lb:Lead S.L q r):
  TL S0 S k k2 P:=by
 have hP:∀x∈P++ [(p,q)],x=(p,q)\/x∈P:=by
  intro x hx;simp at hx;rcases hx with h|h
  ·exact .inr h
  ·exact .inl h
 refine⟨t.wf,t.n,t.m,λx hx=>t.rg x (by simp[hx]),λx hx=>(t.rch x (by simp[hx])).drop la lb hP,λn hn=>t.unc n λx=>hn (x.drop la lb hP),λv=> ?_⟩
 rw[<-t.sol v]
 constructor
 ·intro⟨h,h2⟩
  refine⟨h,λx hx=> ?_⟩
  rcases hP x hx with rfl|hx
  ·rw[h.1 _ _ la,<-h.1 _ _ lb]
  ·exact h2 x hx
 ·intro⟨h,h2⟩;exact⟨h,λx hx=>h2 x (by simp[hx])⟩
theorem TL.step{S0 S:St}{k k2 p q a b:Int}{P:List (Int×Int)}(t:TL S0 S k k2 (P++ [(p,q)]))(la:Lead S.L p a)(lb:Lead S.L q b)(hab:a≠b)(hc:¬BY S a b):
  TL S0 (S.join a b) k k2 (P++J3 S a b):=by
 have hP:∀x∈P++ [(p,q)],x=(p,q)\/x∈P++J3 S a b:=by
  intro x hx;simp at hx;rcases hx with h|h
  ·exact .inr (by simp[h])
  ·exact .inl h
 have hJ:∀x∈J3 S a b,x∈P++J3 S a b:=λx hx=>by simp[hx]
 have hpq:(p,q)∈P++ [(p,q)]:=by simp
 have rp:=t.rg _ hpq
 have ra:=la.rg t.wf rp.1;have rb:=lb.rg t.wf rp.2
 have hkp:=t.rch _ hpq
 have aa:Rch S (P++ [(p,q)]) k a:=.to hkp la
 refine⟨MS t.wf la.top lb.top hab ra rb,t.n,t.m, ?_, ?_,t.unc.join t.wf la lb hab hP hJ hc hkp hpq,λv=> ?_⟩
 ·intro x hx
  simp at hx;rcases hx with hx|hx
  ·exact t.rg x (by simp[hx])
  ·simp only[J3]at hx;split at hx
   ·rename_i s u e1 e2
    exact⟨(t.wf.hr _ _ e1).2 _ (of_mem_zip (a:=x.1) (b:=x.2) hx).1,(t.wf.hr _ _ e2).2 _ (of_mem_zip (a:=x.1) (b:=x.2) hx).2⟩
   ·simp at hx
 ·intro x hx
  simp at hx;rcases hx with hx|hx
  ·exact(t.rch x (by simp[hx])).join t.wf la lb hab hP hJ hc
  ·have hx':=hx
   simp only[J3]at hx;split at hx
   ·rename_i s u e1 e2
    exact Rch.join t.wf la lb hab hP hJ hc (.part aa e1 (of_mem_zip (a:=x.1) (b:=x.2) hx).1)
   ·simp at hx
 ·rw[<-t.sol v]
  have hj:=PH t.wf la.top lb.top hab hc (v:=v)
  constructor
  ·intro⟨h,h2⟩
   obtain⟨h3,h4⟩:=hj.1 ⟨h,λx hx=>h2 x (by simp[hx])⟩
   refine⟨h3,λx hx=> ?_⟩
   rcases hP x hx with rfl|hx
   ·rw[h3.1 _ _ la,h3.1 _ _ lb,h4]
   ·exact h2 x hx
  ·intro⟨h,h2⟩
   have e:=h2 _ hpq
   simp only[h.1 _ _ la,h.1 _ _ lb]at e
   obtain⟨h3,h4⟩:=hj.2 ⟨h,e⟩
   refine⟨h3,λx hx=> ?_⟩
   simp at hx;rcases hx with hx|hx
   ·exact h2 x (by simp[hx])
   ·exact h4 x hx
theorem TL.no{S0 S:St}{k k2 p q a b:Int}{P:List (Int×Int)}(t:TL S0 S k k2 (P++ [(p,q)]))(la:Lead S.L p a)(lb:Lead S.L q b)(hc:BY S a b)
  (v:Int->G)(hv:Sol S0 v):v k≠v k2:=λe=>by
 obtain⟨h,h2⟩:=(t.sol v).2 ⟨hv,e⟩
 have:=h2 (p,q) (by simp)
 simp only[h.1 _ _ la,h.1 _ _ lb]at this
 exact SV hc h this
theorem TL.acy{S0 S:St}{k k2:Int}(t:TL S0 S k k2 [])(a:Acy S0)(hk:∃g,Val S k g):Acy S:=by
 have h1:∀n,Rch S [] k n->∃g,Val S n g:=by
  intro n x
  induction x with
  |here=>exact hk
  |to _ l ih=>obtain⟨g,x⟩:=ih;exact⟨g,x.root l⟩
  |frm _ l ih=>obtain⟨g,x⟩:=ih;exact⟨g,x.same l⟩
  |part _ e hp ih=>obtain⟨g,x⟩:=ih;exact x.part (.stop (t.wf.top _ _ e)) e hp
  |pr _ hx=>simp at hx
  |rp _ hx=>simp at hx
 intro n
 obtain⟨g,x⟩:=a n
 induction x with
 | @op n r l e=>
  by_cases hn:Rch S [] k n
  ·exact h1 n hn
  ·obtain⟨l2,e2⟩:=t.unc n hn r l;exact⟨_,.op l2 (e2.trans e)⟩
 | @num n r l e=>
  by_cases hn:Rch S [] k n
  ·exact h1 n hn
  ·obtain⟨l2,e2⟩:=t.unc n hn r l;exact⟨_,.num l2 (e2.trans e)⟩
 | @tru n r l e=>
  by_cases hn:Rch S [] k n
  ·exact h1 n hn
  ·obtain⟨l2,e2⟩:=t.unc n hn r l;exact⟨_,.tru l2 (e2.trans e)⟩
 | @lst n r a g l e _ ih=>
  by_cases hn:Rch S [] k n
  ·exact h1 n hn
  ·obtain⟨l2,e2⟩:=t.unc n hn r l;obtain⟨g,x⟩:=ih;exact⟨_,.lst l2 (e2.trans e) x⟩
 | @fn n r a b g g' l e _ _ ih ih2=>
  by_cases hn:Rch S [] k n
  ·exact h1 n hn
  ·obtain⟨l2,e2⟩:=t.unc n hn r l;obtain⟨g,x⟩:=ih;obtain⟨g',x'⟩:=ih2;exact⟨_,.fn l2 (e2.trans e) x x'⟩
def zr(M N:Nat):List Int:=(List.range (M+N)).map λi:Nat=>(i:Int) - M
theorem mem_zr{M N:Nat}{n:Int}:n∈zr M N↔ -(M:Int)<=n/\n<N:=by
 simp only[zr,mem_map,mem_range]
 constructor
 ·intro⟨i,h,e⟩;omega
 ·intro h;exact⟨(n+M).toNat,by omega,by omega⟩
theorem Z8{M N:Nat}:(zr M N).length=M+N:=by simp[zr]
def fr(S:St):Nat:=((zr S.M S.N).filter λn=>(S.L n).isNone).length
theorem AD{α:Type}{l:List α}{p q:α->Bool}(h:∀x∈l,q x=true->p x=true){a:α}(ha:a∈l)(hp:p a=true)(hq:q a=false):
  (l.filter q).length<(l.filter p).length:=by
 induction l with
 |nil=>cases ha
 |cons x l ih=>
  have hle:(l.filter q).length<=(l.filter p).length:=by
   clear ih ha
   induction l with
   |nil=>simp
   |cons y l ih2=>
    have h1:=h y (by simp)
    have:=ih2 (λz hz=>h z (by simp at hz⊢;rcases hz with h|h<;>simp[h]))
    simp only[filter_cons]
    cases e:q y<;>cases e':p y<;>simp_all<;>omega
  simp only[filter_cons]
  rcases mem_cons.1 ha with e|ha
  ·subst e;simp[hp,hq];omega
  ·have:=ih (λz hz=>h z (by simp[hz])) ha
   have h1:=h x (by simp)
   cases e:q x<;>cases e':p x<;>simp_all<;>omega
theorem PL{S T:St}(h:Alk S T)(w:Wf S):fr T=fr S:=by
 have:∀n,T.L n=none↔S.L n=none:=λn=>by
  constructor
  ·intro e;exact((h.l.iff w.tot).1 (.stop e)).top
  ·intro e;exact(h.l _ _ (.stop e)).top
 simp only[fr,h.m,h.n]
 congr 1
 apply filter_congr
 intro n _
 have:=this n
 cases e:T.L n<;>cases e2:S.L n<;>simp_all
theorem HZ{S:St}{a b:Int}(ha:S.L a=none)(ra:S.Rg a):fr (S.join a b)<fr S:=by
 refine AD (a:=a) (λn _ h=> ?_) (mem_zr.2 ra) (by simp[ha]) (by simp[St.join,up])
 simp only[St.join,up]at h
 split at h
 ·cases h
 ·exact h
structure Dfs (S:St) (k:Int) (sd:Int->Option Bool) (W:List (Bool×Int)):Prop where
 done:∀n,sd n=some false->∃g,Val S n g
 held:∀n,sd n=some true->(false,n)∈W
 cov:∀A r B,W=A++(false,r)::B->S.L r=none/\∀s,S.H r=some s->∀p∈s.ps,∀t,Lead S.L p t->sd t=some false\/(true,p)∈A\/(false,t)∈A
 fst:∀t,Lead S.L k t->sd t=some false\/(true,k)∈W\/(false,t)∈W
 low:∀v,Sol S v->∀A r B,W=A++(false,r)::B->∀p,(true,p)∈A->gw (v p)<gw (v r)
 rg:∀x∈W,S.Rg x.2
theorem Dfs.start{S:St}{k:Int}(hk:S.Rg k):Dfs S k (λ_=>none) [(true,k)] where
 done:=λn h=>by cases h
 held:=λn h=>by cases h
 cov:=λA r B h=>by
  cases A with
  |nil=>simp at h
  |cons x A=>simp at h
 fst:=λt _=>by simp
 low:=λv _ A r B h=>by
  cases A with
  |nil=>simp at h
  |cons x A=>simp at h
 rg:=by simp[hk]
theorem Dfs.alk{S T:St}{k:Int}{sd:Int->Option Bool}{W:List (Bool×Int)}(d:Dfs S k sd W)(h:Alk S T)(w:Wf S):Dfs T k sd W where
 done:=λn e=>by obtain⟨g,x⟩:=d.done n e;exact⟨g,h.val w x⟩
 held:=d.held
 cov:=λA r B e=>by
  obtain⟨x,y⟩:=d.cov A r B e
  refine⟨(h.l _ _ (.stop x)).top,λs e2 p hp t l=>y s (by rw[<-h.h];exact e2) p hp t ((h.l.iff w.tot).1 l)⟩
 fst:=λt l=>d.fst t ((h.l.iff w.tot).1 l)
 low:=λv hv=>d.low v ((h.sol w).1 hv)
 rg:=λx hx=>h.rg.2 (d.rg x hx)
theorem Dfs.leave{S:St}(w:Wf S){k r:Int}{sd:Int->Option Bool}{W:List (Bool×Int)}(d:Dfs S k sd ((false,r)::W)):Dfs S k (up sd r (some false)) W:=by
 obtain⟨hr,hc⟩:=d.cov [] r W rfl
 have hv:∃g,Val S r g:=by
  cases e:S.H r with
  |none=>exact⟨_,.op (.stop hr) e⟩
  |some s=>
   refine RQ (.stop hr) e λp hp=> ?_
   obtain⟨t,l⟩:=w.tot p
   rcases hc s e p hp t l with h|h|h
   ·obtain⟨g,x⟩:=d.done t h;exact⟨g,x.same l⟩
   ·simp at h
   ·simp at h
 have up1:∀t,sd t=some false->up sd r (some false) t=some false:=λt h=>by
  by_cases e:t=r
  ·subst e;exact J0
  ·rw[C8 e];exact h
 refine⟨λn h=> ?_,λn h=> ?_,λA r' B e=> ?_,λt l=> ?_,λv hv' A r' B e p hp=> ?_,λx hx=>d.rg x (by simp[hx])⟩
 ·by_cases e:n=r
  ·subst e;exact hv
  ·rw[C8 e]at h;exact d.done n h
 ·by_cases e:n=r
  ·subst e;rw[J0]at h;cases h
  ·rw[C8 e]at h
   have:=d.held n h
   simp[e]at this;exact this
 ·obtain⟨x,y⟩:=d.cov ((false,r)::A) r' B (by rw[e];rfl)
  refine⟨x,λs e2 p hp t l=> ?_⟩
  rcases y s e2 p hp t l with h|h|h
  ·exact .inl (up1 t h)
  ·simp at h;exact .inr (.inl h)
  ·simp at h;rcases h with h|h
   ·subst h;exact .inl J0
   ·exact .inr (.inr h)
 ·rcases d.fst t l with h|h|h
  ·exact .inl (up1 t h)
  ·simp at h;exact .inr (.inl h)
  ·simp at h;rcases h with h|h
   ·subst h;exact .inl J0
   ·exact .inr (.inr h)
 ·exact d.low v hv' ((false,r)::A) r' B (by rw[e];rfl) p (by simp[hp])
theorem Dfs.skip{S:St}{k n r:Int}{sd:Int->Option Bool}{W:List (Bool×Int)}(d:Dfs S k sd ((true,n)::W))(l:Lead S.L n r)(h:sd r=some false):Dfs S k sd W:=by
 refine⟨d.done,λm e=> ?_,λA r' B e=> ?_,λt l2=> ?_,λv hv' A r' B e p hp=> ?_,λx hx=>d.rg x (by simp[hx])⟩
 ·have:=d.held m e;simp at this;exact this
 ·obtain⟨x,y⟩:=d.cov ((true,n)::A) r' B (by rw[e];rfl)
  refine⟨x,λs e2 p hp t l2=> ?_⟩
  rcases y s e2 p hp t l2 with h2|h2|h2
  ·exact .inl h2
  ·simp at h2;rcases h2 with h2|h2
   ·subst h2;rw[l2.det l];exact .inl h
   ·exact .inr (.inl h2)
  ·simp at h2;exact .inr (.inr h2)
 ·rcases d.fst t l2 with h2|h2|h2
  ·exact .inl h2
  ·simp at h2;rcases h2 with h2|h2
   ·subst h2;rw[l2.det l];exact .inl h
   ·exact .inr (.inl h2)
  ·simp at h2;exact .inr (.inr h2)
 ·exact d.low v hv' ((true,n)::A) r' B (by rw[e];rfl) p (by simp[hp])
theorem Dfs.no{S:St}{k n r:Int}{sd:Int->Option Bool}{W:List (Bool×Int)}(d:Dfs S k sd ((true,n)::W))(l:Lead S.L n r)(h:sd r=some true)(v:Int->G):¬Sol S v:=λhv=>by
 have:=d.held r h
 simp at this
 obtain⟨A,B,e⟩:=List.append_of_mem this
 have:=d.low v hv ((true,n)::A) r B (by rw[e];rfl) n (by simp)
 rw[hv.1 _ _ l]at this
 exact lt_irrefl _ this
def psH(S:St)(r:Int):List Int:=match S.H r with|some s=>s.ps|none=> []
theorem GK{α:Type}{X Y A B:List α}{z:α}(h:X++Y=A++z::B)(hz:z∉X):∃A',A=X++A'/\Y=A'++z::B:=by
 induction X generalizing A with
 |nil=>exact⟨A,rfl,h⟩
 |cons x X ih=>
  cases A with
  |nil=>simp at h;exact absurd h.1.symm (λe=>hz (by simp[e]))
  |cons a A=>
   simp at h
   obtain⟨A',e1,e2⟩:=ih (A:=A) (by simpa using h.2) (λhx=>hz (by simp[hx]))
   exact⟨A',by rw[h.1,e1];rfl,e2⟩
theorem Dfs.enter{S:St}(w:Wf S){k n r:Int}{sd:Int->Option Bool}{W:List (Bool×Int)}(d:Dfs S k sd ((true,n)::W))(l:Lead S.L n r)(h:sd r=none):
  Dfs S k (up sd r (some true)) (((psH S r).map λp=>(true,p)).reverse++(false,r)::W):=by
 have nf:∀t,sd t=some false->up sd r (some true) t=some false:=λt h2=>by
  by_cases e:t=r
  ·subst e;rw[h]at h2;cases h2
  ·rw[C8 e];exact h2
 have nm:∀x:Int,(false,x)∉((psH S r).map λp=>(true,p)).reverse:=by simp
 have rn:=d.rg (true,n) (by simp)
 have rr:S.Rg r:=l.rg w rn
 have part_rg:∀p∈psH S r,S.Rg p:=λp hp=>by
  simp only[psH]at hp;split at hp
  ·rename_i s e;exact(w.hr _ _ e).2 p hp
  ·simp at hp
 refine⟨λm e=> ?_,λm e=> ?_,λA r' B e=> ?_,λt l2=> ?_,λv hv A r' B e p hp=> ?_,λx hx=> ?_⟩
 ·by_cases e2:m=r
  ·subst e2;rw[J0]at e;cases e
  ·rw[C8 e2]at e;exact d.done m e
 ·by_cases e2:m=r
  ·subst e2;simp
  ·rw[C8 e2]at e;have:=d.held m e;simp at this;simp[this]
 ·obtain⟨A',e1,e2⟩:=GK e (nm r')
  cases A' with
  |nil=>
   simp at e2;obtain⟨e2,e3⟩:=e2
   subst e2
   refine⟨l.top,λs e4 p hp t l2=> .inr (.inl ?_)⟩
   rw[e1];simp[psH,e4,hp]
  |cons x A'=>
   simp at e2;obtain⟨e2,e3⟩:=e2
   obtain⟨x1,y⟩:=d.cov ((true,n)::A') r' B (by rw[e3];rfl)
   refine⟨x1,λs e4 p hp t l2=> ?_⟩
   rcases y s e4 p hp t l2 with h2|h2|h2
   ·exact .inl (nf t h2)
   ·simp at h2;rcases h2 with h2|h2
    ·subst h2;rw[l2.det l,e1,<-e2];simp
    ·rw[e1];simp[h2]
   ·simp at h2;rw[e1];simp[h2]
 ·rcases d.fst t l2 with h2|h2|h2
  ·exact .inl (nf t h2)
  ·simp at h2;rcases h2 with h2|h2
   ·subst h2;rw[l2.det l];simp
   ·simp[h2]
  ·simp at h2;simp[h2]
 ·have lt:∀p∈psH S r,gw (v p)<gw (v r):=λp hp=>by
   simp only[psH]at hp;split at hp
   ·rename_i s e5;rw[hv.2 _ _ e5];exact YM hp
   ·simp at hp
  obtain⟨A',e1,e2⟩:=GK e (nm r')
  cases A' with
  |nil=>
   simp at e2;obtain⟨e2,e3⟩:=e2
   subst e2
   rw[e1]at hp;simp at hp
   exact lt p hp
  |cons x A'=>
   simp at e2;obtain⟨e2,e3⟩:=e2
   have lo:=d.low v hv ((true,n)::A') r' B (by rw[e3];rfl)
   rw[e1,<-e2]at hp;simp at hp
   rcases hp with hp|hp
   ·have h1:=lt p hp;have h2:=lo n (by simp);rw[hv.1 _ _ l]at h2;omega
   ·exact lo p (by simp[hp])
 ·simp at hx
  rcases hx with⟨p,hp,rfl⟩|rfl|hx
  ·exact part_rg p hp
  ·exact rr
  ·exact d.rg x (by simp[hx])
theorem Dfs.fin{S:St}(w:Wf S){k:Int}{sd:Int->Option Bool}(d:Dfs S k sd []):∃g,Val S k g:=by
 obtain⟨t,l⟩:=w.tot k
 rcases d.fst t l with h|h|h
 ·obtain⟨g,x⟩:=d.done t h;exact⟨g,x.same l⟩
 ·simp at h
 ·simp at h
def uv(M N:Nat)(sd:Int->Option Bool):Nat:=((zr M N).filter λn=>(sd n).isNone).length
theorem RN{M N:Nat}{sd:Int->Option Bool}{r:Int}(h:sd r=none)(hr: -(M:Int)<=r/\r<N){b:Bool}:uv M N (up sd r (some b))<uv M N sd:=by
 refine AD (a:=r) (λn _ h=> ?_) (mem_zr.2 hr) (by simp[h]) (by simp[up])
 simp only[up]at h
 split at h
 ·cases h
 ·exact h
theorem QP{M N:Nat}{sd:Int->Option Bool}{r:Int}{c:Bool}(h:sd r=some c){b:Bool}:uv M N (up sd r (some b))=uv M N sd:=by
 unfold uv;congr 1;apply filter_congr
 intro n _
 by_cases e:n=r
 ·subst e;simp[up,h]
 ·simp[up,e]
def Kn.vs:Kn->List Int
 | .opn n=> [n]
 | .num=> []
 | .tru=> []
 | .lst a=>a.vs
 | .fn a b=>a.vs++b.vs
theorem FB{v w:Int->G}{k:Kn}(h:∀n∈k.vs,v n=w n):ev v k=ev w k:=by
 induction k with
 |opn n=>exact h n (by simp[Kn.vs])
 |num=>rfl
 |tru=>rfl
 |lst a ih=>simp[ev];exact ih h
 |fn a b ih ih2=>simp[ev];exact⟨ih λn hn=>h n (by simp[Kn.vs,hn]),ih2 λn hn=>h n (by simp[Kn.vs,hn])⟩
structure Grow (S S':St):Prop where
 wf:Wf S'
 n:S'.N=S.N
 m:S.M<=S'.M
 acy:Acy S->Acy S'
 back:∀v,Sol S' v->Sol S v
 ext:∀v,Sol S v->∃v',Sol S' v'/\∀n:Int, -(S.M:Int)<=n->v' n=v n
theorem Grow.rfl{S:St}(w:Wf S):Grow S S:=⟨w,by rfl,le_refl _,id,λ_ h=>h,λv h=>⟨v,h,λ_ _=>by rfl⟩⟩
theorem Grow.trans{S T U:St}(h:Grow S T)(h':Grow T U):Grow S U where
 wf:=h'.wf
 n:=h'.n.trans h.n
 m:=le_trans h.m h'.m
 acy:=λa=>h'.acy (h.acy a)
 back:=λv x=>h.back v (h'.back v x)
 ext:=λv x=>by
  obtain⟨v1,y,e⟩:=h.ext v x
  obtain⟨v2,z,e2⟩:=h'.ext v1 y
  refine⟨v2,z,λn hn=> ?_⟩
  have:=h.m
  rw[e2 n (by omega),e n hn]
theorem Grow.rg{S T:St}(h:Grow S T){n:Int}(x:S.Rg n):T.Rg n:=by
 have:=h.m;have:=x.1;have:=x.2
 constructor
 ·omega
 ·rw[h.n];exact x.2
theorem Grow.new{S:St}(w:Wf S){s:Sh}(hs:∀p∈s.ps,S.Rg p):Grow S (S.new s) where
 wf:=QB w hs
 n:=by rfl
 m:=by simp[St.new]
 acy:=λa=>TH w a hs
 back:=λv h=>((HQ w).1 h).1
 ext:=λv h=>by
  obtain⟨v',x,e⟩:=UG w hs h
  exact⟨v',x,λn hn=>e n (by omega)⟩
abbrev GC:=List (Kn×Kn)
def Sat(T:GC)(f:Int->G):Prop:=∀x∈T,ev f x.1=ev f x.2
structure PInv (S:St) (T:GC):Prop where
 wf:Wf S
 acy:Acy S
 back:∀v,Sol S v->Sat T v
 ext:∀f,Sat T f->∃v,Sol S v/\∀n:Int,0<=n->v n=f n
def St.nil:St:=⟨0,0,λ_=>none,λ_=>none⟩
theorem PInv.nil:PInv .nil [] where
 wf:=⟨λn=>⟨n,.stop rfl⟩,λ_ _ h=>(by cases h),λ_ _ h=>(by cases h),λ_ _ h=>(by cases h)⟩
 acy:=λn=>⟨_,.op (.stop rfl) rfl⟩
 back:=λv _ x hx=>by cases hx
 ext:=λf _=>⟨f,⟨λn r l=>(by
  cases l with
  |stop=>rfl
  |on e=>cases e),λn s e=>(by cases e)⟩,λ_ _=>rfl⟩
def St.fresh(S:St):St:={S with N:=S.N+1}
theorem P4{S:St}{n:Int}(h:S.Rg n):S.fresh.Rg n:=by
 have:=h.2;exact⟨h.1,by simp[St.fresh];omega⟩
theorem Val.fresh{S:St}{n:Int}{g:G}(x:Val S n g):Val S.fresh n g:=by
 induction x with
 |op l e=>exact .op l e
 |num l e=>exact .num l e
 |tru l e=>exact .tru l e
 |lst l e _ ih=>exact .lst l e ih
 |fn l e _ _ ih ih2=>exact .fn l e ih ih2
theorem PInv.fresh{S:St}{T:GC}(p:PInv S T):PInv S.fresh T where
 wf:=⟨p.wf.tot,p.wf.top,λn m e=>⟨P4 (p.wf.lr n m e).1,P4 (p.wf.lr n m e).2⟩,λn s e=>⟨P4 (p.wf.hr n s e).1,λq hq=>P4 ((p.wf.hr n s e).2 q hq)⟩⟩
 acy:=λn=>by obtain⟨g,x⟩:=p.acy n;exact⟨g,x.fresh⟩
 back:=p.back
 ext:=p.ext
theorem PInv.alk{S S':St}{T:GC}(p:PInv S T)(h:Alk S S')(w:Wf S'):PInv S' T where
 wf:=w
 acy:=h.acy p.wf p.acy
 back:=λv x=>p.back v ((h.sol p.wf).1 x)
 ext:=λf x=>by obtain⟨v,y,e⟩:=p.ext f x;exact⟨v,(h.sol p.wf).2 y,e⟩
def Told(S:St)(k:Kn):Prop:=∀n∈k.vs,0<=n/\n<S.N
theorem Told.rg{S:St}{k:Kn}(h:Told S k):∀n∈k.vs,S.Rg n:=λn hn=>⟨by have:=(h n hn).1;omega,(h n hn).2⟩
structure Two (S S2:St) (a b:Kn) (na nb:Int):Prop where
 g:Grow S S2
 ra:S2.Rg na
 rb:S2.Rg nb
 e:∀v,Sol S2 v->v na=ev v a/\v nb=ev v b
section
variable{S S2:St}{T:GC}{a b:Kn}{na nb:Int}
theorem IN(p:PInv S T)(w:Two S S2 a b na nb)(ha:Told S a)(hb:Told S b){f:Int->G}(h:Sat (T++ [(a,b)]) f):
  ∃v,Sol S2 v/\v na=v nb/\∀n:Int,0<=n->v n=f n:=by
 obtain⟨g,_,_,e⟩:=w
 obtain⟨v,x,ex⟩:=p.ext f λz hz=>h z (by simp[hz])
 obtain⟨v',y,ey⟩:=g.ext v x
 have e0:∀n:Int,0<=n->v' n=f n:=λn hn=>by rw[ey n (by omega),ex n hn]
 obtain⟨e1,e2⟩:=e v' y
 refine⟨v',y, ?_,e0⟩
 rw[e1,e2,FB λn hn=>e0 n (ha n hn).1,FB (k:=b) λn hn=>e0 n (hb n hn).1]
 exact h (a,b) (by simp)
theorem QL(p:PInv S T)(w:Two S S2 a b na nb)(ha:Told S a)(hb:Told S b){S':St}(t:TL S2 S' na nb [])(hv:∃g,Val S' na g):
  PInv S' (T++ [(a,b)]) where
 wf:=t.wf
 acy:=t.acy (w.g.acy p.acy) hv
 back:=λv h=>by
  obtain⟨g,_,_,e⟩:=w
  obtain⟨h1,h2⟩:=(t.sol v).1 ⟨h,by simp⟩
  obtain⟨e1,e2⟩:=e v h1
  intro x hx
  simp at hx;rcases hx with hx|rfl
  ·exact p.back v (g.back v h1) x hx
  ·show ev v a=ev v b
   rw[<-e1,<-e2,h2]
 ext:=λf h=>by
  obtain⟨v,x,e,e0⟩:=IN p w ha hb h
  exact⟨v,((t.sol v).2 ⟨x,e⟩).1,e0⟩
theorem OT(p:PInv S T)(w:Two S S2 a b na nb)(ha:Told S a)(hb:Told S b){S':St}{P:List (Int×Int)}{q r x y:Int}
  (t:TL S2 S' na nb (P++ [(q,r)]))(lx:Lead S'.L q x)(ly:Lead S'.L r y)(hc:BY S' x y)(f:Int->G):¬Sat (T++ [(a,b)]) f:=λh=>by
 obtain⟨v,z,e,_⟩:=IN p w ha hb h
 exact t.no lx ly hc v z e
theorem OL(p:PInv S T)(w:Two S S2 a b na nb)(ha:Told S a)(hb:Told S b){S':St}(t:TL S2 S' na nb [])(hn:∀v,¬Sol S' v)(f:Int->G):¬Sat (T++ [(a,b)]) f:=λh=>by
 obtain⟨v,z,e,_⟩:=IN p w ha hb h
 exact hn v ((t.sol v).2 ⟨z,e⟩).1
theorem PInv.sat(p:PInv S T):Sat T (wv S):=p.back _ (OZ p.wf p.acy)
theorem PInv.least(p:PInv S T){f:Int->G}(h:Sat T f){n:Int}(hn:0<=n):Le (wv S n) (f n):=by
 obtain⟨v,x,e⟩:=p.ext f h
 rw[<-e n hn];exact(BH p.acy n).least x
end
abbrev Kw:=Int->Option Kn
inductive Pt (K:Kw):Nat->Kn->Kn->Prop
 |free {d:Nat} {n:Int}:K n=none->Pt K (d+1) (.opn n) (.opn n)
 |step {d:Nat} {n:Int} {k k':Kn}:K n=some k->Pt K d k k'->Pt K (d+1) (.opn n) k'
 |num {d:Nat}:Pt K (d+1) .num .num
 |tru {d:Nat}:Pt K (d+1) .tru .tru
 |lst {d:Nat} {a a':Kn}:Pt K d a a'->Pt K (d+1) (.lst a) (.lst a')
 |fn {d:Nat} {a a' b b':Kn}:Pt K d a a'->Pt K d b b'->Pt K (d+1) (.fn a b) (.fn a' b')
theorem Pt.mono{K:Kw}{d e:Nat}{k k':Kn}(h:Pt K d k k')(he:d<=e):Pt K e k k':=by
 induction h generalizing e with
 |free x=>obtain⟨e,rfl⟩:∃e',e=e'+1:=⟨e - 1,by omega⟩;exact .free x
 |step x _ ih=>obtain⟨e,rfl⟩:∃e',e=e'+1:=⟨e - 1,by omega⟩;exact .step x (ih (by omega))
 |num=>obtain⟨e,rfl⟩:∃e',e=e'+1:=⟨e - 1,by omega⟩;exact .num
 |tru=>obtain⟨e,rfl⟩:∃e',e=e'+1:=⟨e - 1,by omega⟩;exact .tru
 |lst _ ih=>obtain⟨e,rfl⟩:∃e',e=e'+1:=⟨e - 1,by omega⟩;exact .lst (ih (by omega))
 |fn _ _ ih ih2=>obtain⟨e,rfl⟩:∃e',e=e'+1:=⟨e - 1,by omega⟩;exact .fn (ih (by omega)) (ih2 (by omega))
theorem Pt.det{K:Kw}{d e:Nat}{k k' k'':Kn}(h:Pt K d k k')(h':Pt K e k k''):k'=k'':=by
 induction h generalizing e k'' with
 |free x=>cases h' with
  |free=>rfl
  |step y=>rw[x]at y;cases y
 |step x _ ih=>cases h' with
  |free y=>rw[x]at y;cases y
  |step y z=>rw[x]at y;cases y;exact ih z
 |num=>cases h';rfl
 |tru=>cases h';rfl
 |lst _ ih=>cases h' with|lst z=>rw[ih z]
 |fn _ _ ih ih2=>cases h' with|fn z y=>rw[ih z,ih2 y]
structure Tri (K:Kw) (m:Nat) (rk:Int->Nat):Prop where
 lt:∀n k,K n=some k->rk n<m
 on:∀n k,K n=some k->∀y∈k.vs,K y≠none->rk y<rk n
noncomputable def pz(K:Kw)(k:Kn):Kn:= @Classical.epsilon Kn ⟨.num⟩ (λk'=>∃d,Pt K d k k')
def dp:Kn->Nat
 | .lst a=>dp a+1
 | .fn a b=>max (dp a) (dp b)+1
 |_=>1
theorem alZ{K:Kw}{m:Nat}{rk:Int->Nat}(t:Tri K m rk):∀r k,(∀y∈k.vs,K y≠none->rk y<r)->∃k',Pt K (dp k'+r) k k':=by
 intro r
 induction r using Nat.strongRecOn with
 |_ r ihr=>
  intro k hk
  induction k with
  |opn n=>
   cases e:K n with
   |none=>exact⟨.opn n,by rw[show dp (.opn n)+r=r+1 from Nat.add_comm _ _];exact .free e⟩
   |some k=>
    have hr:rk n<r:=hk n (by simp[Kn.vs]) (by simp[e])
    obtain⟨k',h⟩:=ihr (rk n) hr k (λy hy hb=>t.on n k e y hy hb)
    exact⟨k',Pt.mono (.step e h) (by omega)⟩
  |num=>exact⟨.num,Pt.mono (d:=1) .num (by simp[dp])⟩
  |tru=>exact⟨.tru,Pt.mono (d:=1) .tru (by simp[dp])⟩
  |lst a ih=>
   obtain⟨a',h⟩:=ih hk
   exact⟨.lst a',Pt.mono (.lst h) (by simp[dp];omega)⟩
  |fn a b ih ih2=>
   obtain⟨a',h⟩:=ih λy hy=>hk y (by simp[Kn.vs,hy])
   obtain⟨b',h'⟩:=ih2 λy hy=>hk y (by simp[Kn.vs,hy])
   exact⟨.fn a' b',Pt.mono (.fn (d:=max (dp a') (dp b')+r) (h.mono (by omega)) (h'.mono (by omega))) (by simp[dp];omega)⟩
section
variable{K:Kw}{m:Nat}{rk:Int->Nat}
theorem Tri.all(t:Tri K m rk){y:Int}(h:K y≠none):rk y<m:=by
 cases e:K y with
 |none=>exact absurd e h
 |some k=>exact t.lt y k e
theorem U7(t:Tri K m rk)(k:Kn):Pt K (dp (pz K k)+m) k (pz K k):=by
 obtain⟨k',h⟩:=alZ t m k λy _ hb=>t.all hb
 obtain⟨d,h2⟩:= @Classical.epsilon_spec Kn (λk'=>∃d,Pt K d k k') ⟨k',_,h⟩
 have:k'=pz K k:=h.det h2
 rw[<-this];exact h
theorem HA(t:Tri K m rk){d:Nat}{k k':Kn}(h:Pt K d k k'):pz K k=k':=(U7 t k).det h
theorem HU(t:Tri K m rk){n:Int}(h:K n=none):pz K (.opn n)=.opn n:=HA t (d:=1) (.free h)
theorem HY(t:Tri K m rk){n:Int}{k:Kn}(h:K n=some k):pz K (.opn n)=pz K k:=HA t (.step h (U7 t k))
theorem EF(t:Tri K m rk):pz K .num=.num:=HA t (d:=1) .num
theorem EB(t:Tri K m rk):pz K .tru=.tru:=HA t (d:=1) .tru
theorem Y7(t:Tri K m rk)(a:Kn):pz K (.lst a)=.lst (pz K a):=HA t (.lst (U7 t a))
theorem EZ(t:Tri K m rk)(a b:Kn):pz K (.fn a b)=.fn (pz K a) (pz K b):=
 HA t (d:=max (dp (pz K a)+m) (dp (pz K b)+m)+1) (.fn ((U7 t a).mono (by omega)) ((U7 t b).mono (by omega)))
def Fr(K:Kw)(k:Kn):Prop:=∀y∈k.vs,K y=none
theorem aaZ{d:Nat}{k k':Kn}(h:Pt K d k k'):Fr K k':=by
 induction h with
 |free x=>intro y hy;simp[Kn.vs]at hy;subst hy;exact x
 |step _ _ ih=>exact ih
 |num=>intro y hy;cases hy
 |tru=>intro y hy;cases hy
 |lst _ ih=>exact ih
 |fn _ _ ih ih2=>intro y hy;simp[Kn.vs]at hy;exact hy.elim (ih y) (ih2 y)
theorem KI(t:Tri K m rk)(k:Kn):Fr K (pz K k):=aaZ (U7 t k)
theorem ET(t:Tri K m rk){k:Kn}(h:Fr K k):pz K k=k:=by
 induction k with
 |opn n=>exact HU t (h n (by simp[Kn.vs]))
 |num=>exact EF t
 |tru=>exact EB t
 |lst a ih=>rw[Y7 t,ih h]
 |fn a b ih ih2=>rw[EZ t,ih λy hy=>h y (by simp[Kn.vs,hy]),ih2 λy hy=>h y (by simp[Kn.vs,hy])]
def AN(K:Kw)(f:Int->G):Prop:=∀n k,K n=some k->f n=ev f k
theorem ZS{d:Nat}{k k':Kn}(h:Pt K d k k'){f:Int->G}(hf:AN K f):ev f k'=ev f k:=by
 induction h with
 |free=>rfl
 |step x _ ih=>rw[ih];exact(hf _ _ x).symm
 |num=>rfl
 |tru=>rfl
 |lst _ ih=>simp[ev,ih]
 |fn _ _ ih ih2=>simp[ev,ih,ih2]
theorem K3(t:Tri K m rk){f:Int->G}(hf:AN K f)(k:Kn):ev f (pz K k)=ev f k:=ZS (U7 t k) hf
def cl:Kn->G
 | .opn _=> .num
 | .num=> .num
 | .tru=> .tru
 | .lst a=> .lst (cl a)
 | .fn a b=> .fn (cl a) (cl b)
theorem ZO(f:Int->G)(k:Kn):Le (cl k) (ev f k):=by
 induction k with
 |opn n=>exact .num _
 |num=>exact .num _
 |tru=>exact .tru
 |lst a ih=>exact .lst ih
 |fn a b ih ih2=>exact .fn ih ih2
noncomputable def v0(K:Kw)(n:Int):G:=cl (pz K (.opn n))
theorem VC(t:Tri K m rk)(k:Kn):ev (v0 K) k=cl (pz K k):=by
 induction k with
 |opn n=>rfl
 |num=>rw[EF t];rfl
 |tru=>rw[EB t];rfl
 |lst a ih=>rw[Y7 t];simp[ev,cl,ih]
 |fn a b ih ih2=>rw[EZ t];simp[ev,cl,ih,ih2]
theorem QN(t:Tri K m rk):AN K (v0 K):=λn k h=>by rw[VC t];show cl (pz K (.opn n))=_;rw[HY t h]
theorem OW(t:Tri K m rk){f:Int->G}(hf:AN K f)(n:Int):Le (v0 K n) (f n):=by
 have:=ZO f (pz K (.opn n));rw[K3 t hf]at this;exact this
def sb(x:Int)(t:Kn):Kn->Kn
 | .opn n=>if n=x then t else .opn n
 | .num=> .num
 | .tru=> .tru
 | .lst a=> .lst (sb x t a)
 | .fn a b=> .fn (sb x t a) (sb x t b)
theorem apZ{x:Int}{t k:Kn}(h:x∉k.vs):sb x t k=k:=by
 induction k with
 |opn n=>simp[Kn.vs]at h;simp[sb,Ne.symm h]
 |num=>rfl
 |tru=>rfl
 |lst a ih=>simp only[sb,ih h]
 |fn a b ih ih2=>simp[Kn.vs]at h;simp only[sb,ih h.1,ih2 h.2]
variable{x:Int}{u:Kn}
theorem JK(t:Tri K m rk)(hx:K x=none)(hu:Fr K u)(ho:x∉u.vs):Tri (up K x (some u)) (m+1) (up (λy=>rk y+1) x 0) where
 lt:=λn k e=>by
  by_cases hn:n=x
  ·subst hn;rw[J0];omega
  ·rw[C8 hn]at e⊢;have:=t.lt n k e;omega
 on:=λn k e y hy hb=>by
  by_cases hn:n=x
  ·subst hn;rw[J0]at e;cases e
   have:y≠n:=λe=>ho (e▸hy)
   rw[C8 this]at hb;exact absurd (hu y hy) hb
  ·rw[C8 hn]at e⊢
   by_cases hm:y=x
   ·subst hm;rw[J0];omega
   ·rw[C8 hm]at hb⊢;have:=t.on n k e y hy hb;omega
theorem TN(t:Tri K m rk)(hx:K x=none)(hu:Fr K u)(ho:x∉u.vs)(k:Kn):pz (up K x (some u)) k=sb x u (pz K k):=by
 have t':=JK t hx hu ho
 have h:=U7 t k
 have hid:pz (up K x (some u)) u=u:=ET t' λy hy=>by
  have:y≠x:=λe=>ho (e▸hy)
  rw[C8 this];exact hu y hy
 generalize pz K k=k' at h
 generalize dp k'+m=d at h
 induction h with
 | @free d n e=>
  by_cases hn:n=x
  ·subst hn;rw[HY t' J0,hid];simp[sb]
  ·rw[HU t' (by rw[C8 hn];exact e)];simp[sb,hn]
 | @step d n k k' e _ ih=>
  have:n≠x:=λe2=>by rw[e2,hx]at e;cases e
  rw[HY t' (by rw[C8 this];exact e)];exact ih
 |num=>rw[EF t'];rfl
 |tru=>rw[EB t'];rfl
 |lst _ ih=>rw[Y7 t',ih];rfl
 |fn _ _ ih ih2=>rw[EZ t',ih,ih2];rfl
theorem RG(hx:K x=none){f:Int->G}:AN (up K x (some u)) f↔AN K f/\f x=ev f u:=by
 constructor
 ·intro h
  refine⟨λn k e=>h n k ?_,h x u J0⟩
  have:n≠x:=λe2=>by rw[e2,hx]at e;cases e
  rw[C8 this];exact e
 ·intro⟨h,h2⟩ n k e
  by_cases hn:n=x
  ·subst hn;rw[J0]at e;cases e;exact h2
  ·rw[C8 hn]at e;exact h n k e
theorem adZ{f:Int->G}{k:Kn}(h:x∈k.vs):gw (f x)<=gw (ev f k)/\(k≠ .opn x->gw (f x)<gw (ev f k)):=by
 induction k with
 |opn n=>simp[Kn.vs]at h;subst h;simp[ev]
 |num=>simp[Kn.vs]at h
 |tru=>simp[Kn.vs]at h
 |lst a ih=>have:=(ih h).1;simp[ev,gw];omega
 |fn a b ih ih2=>
  simp[Kn.vs]at h
  have:=FF (ev f a);have:=FF (ev f b)
  rcases h with h|h
  ·have:=(ih h).1;simp[ev,gw];omega
  ·have:=(ih2 h).1;simp[ev,gw];omega
end
def Kn.isO:Kn->Bool
 | .opn _=>true
 |_=>false
def nv:Kn->List Kn
 | .opn _=> []
 | .num=> [.num]
 | .tru=> [.tru]
 | .lst a=> .lst a::nv a
 | .fn a b=> .fn a b::(nv a++nv b)
def ks:Kn->Nat
 | .lst a=>ks a+1
 | .fn a b=>ks a+ks b+1
 |_=>1
def cn(V:List Kn)(n:Nat):Nat:=(V.filter λk=>decide (ks k<=n)).length
theorem SL{V:List Kn}{k:Kn}{n:Nat}(h:k∈V)(hn:n<ks k):cn V n<cn V (ks k):=by
 refine AD (a:=k) (λx _ hx=> ?_) h (by simp) (by simp;omega)
 simp at hx⊢;omega
theorem YD{V:List Kn}{n:Nat}:cn V n<=V.length:=length_filter_le _ _
theorem ZQ{V:List Kn}{k:Kn}(h:∀t∈nv k,t∈V):dp k<=cn V (ks k)+1:=by
 induction k with
 |opn n=>simp[dp]
 |num=>simp[dp]
 |tru=>simp[dp]
 |lst a ih=>
  have h1:=ih λt ht=>h t (by simp[nv,ht])
  have h2:=SL (n:=ks a) (h (.lst a) (by simp[nv])) (by simp[ks])
  simp only[dp];omega
 |fn a b ih ih2=>
  have h1:=ih λt ht=>h t (by simp[nv,ht])
  have h1':=ih2 λt ht=>h t (by simp[nv,ht])
  have hf:=h (.fn a b) (by simp[nv])
  have h2:=SL (n:=ks a) hf (by simp[ks];omega)
  have h3:=SL (n:=ks b) hf (by simp[ks];omega)
  simp only[dp];omega
theorem ZD{V:List Kn}{k:Kn}(h:∀t∈nv k,t∈V):dp k<=V.length+1:=le_trans (ZQ h) (by have:=YD (V:=V) (n:=ks k);omega)
structure Gd (K:Kw) (m:Nat) (U:List Kn):Prop where
 tri:∃rk,Tri K m rk
 cl:∀n,∀t∈nv (pz K (.opn n)),t∈U.map (pz K)
section
variable{K:Kw}{m:Nat}{U:List Kn}
def Of(K:Kw)(U:List Kn)(k:Kn):Prop:=∀t∈nv (pz K k),t∈U.map (pz K)
theorem Gd.of(g:Gd K m U){k:Kn}(h:∀t∈nv k,t∈U):Of K U k:=by
 obtain⟨rk,t⟩:=g.tri
 induction k with
 |opn n=>exact g.cl n
 |num=>intro s hs;rw[EF t]at hs;simp[nv]at hs;subst hs;exact mem_map.2 ⟨.num,h _ (by simp[nv]),EF t⟩
 |tru=>intro s hs;rw[EB t]at hs;simp[nv]at hs;subst hs;exact mem_map.2 ⟨.tru,h _ (by simp[nv]),EB t⟩
 |lst a ih=>
  intro s hs
  rw[Y7 t]at hs;simp only[nv,mem_cons]at hs
  rcases hs with rfl|hs
  ·exact mem_map.2 ⟨.lst a,h _ (by simp[nv]),Y7 t a⟩
  ·exact ih (λz hz=>h z (by simp[nv,hz])) s hs
 |fn a b ih ih2=>
  intro s hs
  rw[EZ t]at hs;simp only[nv,mem_cons,mem_append]at hs
  rcases hs with rfl|hs|hs
  ·exact mem_map.2 ⟨.fn a b,h _ (by simp[nv]),EZ t a b⟩
  ·exact ih (λz hz=>h z (by simp[nv,hz])) s hs
  ·exact ih2 (λz hz=>h z (by simp[nv,hz])) s hs
theorem Of.dp{k:Kn}(h:Of K U k):dp (pz K k)<=U.length+1:=by
 have:=ZD h;simpa using this
theorem ZJ{x:Int}{u k s:Kn}(h:s∈nv (sb x u k)):(∃s'∈nv k,s=sb x u s')\/s∈nv u:=by
 induction k with
 |opn n=>
  simp only[sb]at h;split at h
  ·exact .inr h
  ·simp[nv]at h
 |num=>simp[sb,nv]at h;subst h;exact .inl ⟨.num,by simp[nv],rfl⟩
 |tru=>simp[sb,nv]at h;subst h;exact .inl ⟨.tru,by simp[nv],rfl⟩
 |lst a ih=>
  simp only[sb,nv,mem_cons]at h
  rcases h with rfl|h
  ·exact .inl ⟨.lst a,by simp[nv],rfl⟩
  ·rcases ih h with⟨s',h1,h2⟩|h
   ·exact .inl ⟨s',by simp[nv,h1],h2⟩
   ·exact .inr h
 |fn a b ih ih2=>
  simp only[sb,nv,mem_cons,mem_append]at h
  rcases h with rfl|h|h
  ·exact .inl ⟨.fn a b,by simp[nv],rfl⟩
  ·rcases ih h with⟨s',h1,h2⟩|h
   ·exact .inl ⟨s',by simp[nv,h1],h2⟩
   ·exact .inr h
  ·rcases ih2 h with⟨s',h1,h2⟩|h
   ·exact .inl ⟨s',by simp[nv,h1],h2⟩
   ·exact .inr h
theorem ahZ{k s:Kn}{x:Int}(h:s∈nv k)(hx:x∈s.vs):x∈k.vs:=by
 induction k with
 |opn n=>simp[nv]at h
 |num=>simp[nv]at h;subst h;exact hx
 |tru=>simp[nv]at h;subst h;exact hx
 |lst a ih=>
  simp only[nv,mem_cons]at h
  rcases h with rfl|h
  ·exact hx
  ·exact ih h
 |fn a b ih ih2=>
  simp only[nv,mem_cons,mem_append]at h
  rcases h with rfl|h|h
  ·exact hx
  ·simp[Kn.vs,ih h]
  ·simp[Kn.vs,ih2 h]
structure Lt (K K':Kw):Prop where
 pz:∀k,pz K' (pz K k)=pz K' k
 dom:∀n,K n≠none->K' n≠none
theorem Lt.trans{K K' K'':Kw}(h:Lt K K')(h':Lt K' K''):Lt K K'':=
 ⟨λk=>by rw[<-h'.pz,h.pz,h'.pz],λn x=>h'.dom n (h.dom n x)⟩
theorem Lt.refl(g:Gd K m U):Lt K K:=by
 obtain⟨rk,t⟩:=g.tri
 exact⟨λk=>ET t (KI t k),λ_ h=>h⟩
theorem UQ(g:Gd K m U){x:Int}{u:Kn}(hx:K x=none)(hu:Fr K u)(ho:x∉u.vs)(hU:Of K U u):Gd (up K x (some u)) (m+1) U/\Lt K (up K x (some u)):=by
 obtain⟨rk,t⟩:=g.tri
 have t':=JK t hx hu ho
 have P:=TN t hx hu ho
 have key:∀s∈U.map (pz K),x∉s.vs->s∈U.map (pz (up K x (some u))):=λs hs hn=>by
  obtain⟨z,hz,rfl⟩:=mem_map.1 hs
  exact mem_map.2 ⟨z,hz,by rw[P,apZ hn]⟩
 refine⟨⟨⟨_,t'⟩,λn s hs=> ?_⟩,⟨λk=> ?_,λn hn=> ?_⟩⟩
 ·rw[P]at hs
  rcases ZJ hs with⟨s',h1,rfl⟩|h
  ·obtain⟨z,hz,rfl⟩:=mem_map.1 (g.cl n s' h1)
   exact mem_map.2 ⟨z,hz,P z⟩
  ·rw[<-ET t hu]at h
   have h2:=hU s h
   rw[ET t hu]at h
   exact key s h2 λhx=>ho (ahZ h hx)
 ·rw[P,P,ET t (KI t k)]
 ·by_cases e:n=x
  ·subst e;rw[J0];simp
  ·rw[C8 e];exact hn
structure Tied (K K':Kw) (a b:Kn):Prop where
 lt:Lt K K'
 sat:∀f,AN K' f↔AN K f/\ev f a=ev f b
def JT(K:Kw)(a b:Kn):Prop:=∀f,¬(AN K f/\ev f a=ev f b)
theorem NL(g:Gd K m U){a b:Kn}(h:pz K a=pz K b):Tied K K a b:=by
 obtain⟨rk,t⟩:=g.tri
 refine⟨.refl g,λf=>⟨λhf=>⟨hf, ?_⟩,λh=>h.1⟩⟩
 rw[<-K3 t hf a,h,K3 t hf b]
theorem NY(g:Gd K m U){a b:Kn}{x:Int}(ha:pz K a=.opn x)(ho:x∉(pz K b).vs)(hb:Of K U b):
  Gd (up K x (some (pz K b))) (m+1) U/\Tied K (up K x (some (pz K b))) a b/\K x=none:=by
 obtain⟨rk,t⟩:=g.tri
 have hx:K x=none:=by have:=KI t a;rw[ha]at this;exact this x (by simp[Kn.vs])
 have hu:=KI t b
 obtain⟨g2,l⟩:=UQ g hx hu ho (λs hs=>by rw[ET t hu]at hs;exact hb s hs)
 refine⟨g2,⟨l,λf=> ?_⟩,hx⟩
 rw[RG hx]
 constructor
 ·intro⟨h1,h2⟩
  refine⟨h1, ?_⟩
  rw[<-K3 t h1 a,ha,<-K3 t h1 b];exact h2
 ·intro⟨h1,h2⟩
  refine⟨h1, ?_⟩
  rw[<-K3 t h1 a,ha,<-K3 t h1 b]at h2;exact h2
theorem JO(g:Gd K m U){a b:Kn}{x:Int}(ha:pz K a=.opn x)(ho:x∈(pz K b).vs)(hne:pz K a≠pz K b):JT K a b:=λf ⟨h1,h2⟩=>by
 obtain⟨rk,t⟩:=g.tri
 rw[<-K3 t h1 a,ha,<-K3 t h1 b]at h2
 have:=(adZ (f:=f) ho).2 (λe=>hne (by rw[ha,e]))
 simp only[ev]at h2
 rw[h2]at this;exact lt_irrefl _ this
theorem NR{K':Kw}(g:Gd K m U){a b:Kn}(h:Tied K K' (pz K b) (pz K a)):Tied K K' a b:=by
 obtain⟨rk,t⟩:=g.tri
 refine⟨h.lt,λf=> ?_⟩
 rw[h.sat f]
 constructor
 ·intro⟨h1,h2⟩;rw[K3 t h1,K3 t h1]at h2;exact⟨h1,h2.symm⟩
 ·intro⟨h1,h2⟩;refine⟨h1, ?_⟩;rw[K3 t h1,K3 t h1];exact h2.symm
theorem KZ(g:Gd K m U){a b:Kn}(h:JT K (pz K b) (pz K a)):JT K a b:=λf ⟨h1,h2⟩=>by
 obtain⟨rk,t⟩:=g.tri
 exact h f ⟨h1,by rw[K3 t h1,K3 t h1];exact h2.symm⟩
def ktg:Kn->Nat
 | .opn _=>0
 | .num=>1
 | .tru=>2
 | .lst _=>3
 | .fn _ _=>4
theorem OG(g:Gd K m U){a b:Kn}(ha:ktg (pz K a)≠0)(hb:ktg (pz K b)≠0)(h:ktg (pz K a)≠ktg (pz K b)):JT K a b:=λf ⟨h1,h2⟩=>by
 obtain⟨rk,t⟩:=g.tri
 rw[<-K3 t h1 a,<-K3 t h1 b]at h2
 cases e1:pz K a<;>cases e2:pz K b<;>simp_all [ktg,ev]
end
def OfA(K:Kw)(U:List Kn)(n:Nat)(k:Kn):Prop:=∀K' m,Gd K' m U->Lt K K'->Of K' U k/\dp (pz K' k)<=n
theorem OfA.later{K K':Kw}{U:List Kn}{n:Nat}{k:Kn}(h:OfA K U n k)(l:Lt K K'):OfA K' U n k:=λK2 m g l2=>h K2 m g (l.trans l2)
theorem QY{K:Kw}{U:List Kn}{k:Kn}(h:∀t∈nv k,t∈U):OfA K U (U.length+1) k:=λK' m g _=>⟨g.of h,(g.of h).dp⟩
theorem OfA.put{K:Kw}{m:Nat}{U:List Kn}{n:Nat}{k:Kn}(h:OfA K U n k):OfA K U n (pz K k):=λK' m g l=>by
 have:=h K' m g l
 refine⟨λs hs=>this.1 s (by rw[l.pz]at hs;exact hs),by rw[l.pz];exact this.2⟩
theorem OfA.lst{K:Kw}{U:List Kn}{n:Nat}{a x:Kn}(h:OfA K U (n+1) a)(ha:pz K a=.lst x):OfA K U n x:=λK' m g l=>by
 obtain⟨rk,t⟩:=g.tri
 have:=h K' m g l
 have e:pz K' a=.lst (pz K' x):=by rw[<-l.pz,ha,Y7 t]
 refine⟨λs hs=>this.1 s (by rw[e];simp[nv,hs]), ?_⟩
 have h2:=this.2;rw[e]at h2;simp[dp]at h2;exact h2
theorem OfA.fn{K:Kw}{U:List Kn}{n:Nat}{a x y:Kn}(h:OfA K U (n+1) a)(ha:pz K a=.fn x y):OfA K U n x/\OfA K U n y:=by
 constructor<;>intro K' m g l
 all_goals
  obtain⟨rk,t⟩:=g.tri
  have:=h K' m g l
  have e:pz K' a=.fn (pz K' x) (pz K' y):=by rw[<-l.pz,ha,EZ t]
  refine⟨λs hs=>this.1 s (by rw[e];simp[nv,hs]), ?_⟩
  have h2:=this.2;rw[e]at h2;simp[dp]at h2;omega
theorem OfA.pos{K:Kw}{m:Nat}{U:List Kn}{n:Nat}{k:Kn}(h:OfA K U n k)(g:Gd K m U):0<n:=by
 have:=(h K m g (.refl g)).2
 have:0<dp (pz K k):=by cases pz K k<;>simp[dp]
 omega
theorem aXZ{S:St}{T:GC}{K:Kw}{m:Nat}{rk:Int->Nat}(p:PInv S T)(t:Tri K m rk)(h:∀f,AN K f↔Sat T f){n:Int}(hn:0<=n):wv S n=v0 K n:=
 (p.least ((h _).1 (QN t)) hn).anti (OW t ((h _).2 p.sat) n)
theorem TQ{S:St}{T:GC}{K:Kw}{m:Nat}{rk:Int->Nat}(p:PInv S T)(t:Tri K m rk)(h:∀f,AN K f↔Sat T f){k:Kn}(hk:∀n∈k.vs,0<=n):
  ev (wv S) k=cl (pz K k):=by
 rw[<-VC t];exact FB λn hn=>aXZ p t h (hk n hn)
end BN
namespace BN
open PySem L2 BV
def Mo(H H':Hp):Prop:=∀b xs,H b=some (.tup xs)->H' b=some (.tup xs)
theorem Mo.of{H H':Hp}(h:Same H H'):Mo H H':=λb _ e=>h b _ e
theorem Mo.trans{H H1 H2:Hp}(h:Mo H H1)(h':Mo H1 H2):Mo H H2:=λb xs e=>h' b xs (h b xs e)
def KnAt(H:Hp):Kn->V->Prop
 | .opn n,v=>∃p,v=.ref p/\H p=some (.tup [.str "open",.int n])
 | .num,v=>∃p,v=.ref p/\H p=some (.tup [.str "number"])
 | .tru,v=>∃p,v=.ref p/\H p=some (.tup [.str "truth"])
 | .lst a,v=>∃p x,v=.ref p/\H p=some (.tup [.str "list",x])/\KnAt H a x
 | .fn a b,v=>∃p x y,v=.ref p/\H p=some (.tup [.str "fn",x,y])/\KnAt H a x/\KnAt H b y
theorem KnAt.mo{H H':Hp}(m:Mo H H'):∀ {k:Kn} {v:V},KnAt H k v->KnAt H' k v
 | .opn _,_,⟨p,e,h⟩=>⟨p,e,m _ _ h⟩
 | .num,_,⟨p,e,h⟩=>⟨p,e,m _ _ h⟩
 | .tru,_,⟨p,e,h⟩=>⟨p,e,m _ _ h⟩
 | .lst _,_,⟨p,x,e,h,h1⟩=>⟨p,x,e,m _ _ h,h1.mo m⟩
 | .fn _ _,_,⟨p,x,y,e,h,h1,h2⟩=>⟨p,x,y,e,m _ _ h,h1.mo m,h2.mo m⟩
def kw:Kn->Str
 | .opn _=> "open"
 | .num=> "number"
 | .tru=> "truth"
 | .lst _=> "list"
 | .fn _ _=> "fn"
def kps:Kn->List Kn
 | .lst a=> [a]
 | .fn a b=> [a,b]
 |_=> []
def RestAt(H:Hp):Kn->List V->Prop
 | .opn n,us=>us=[.int n]
 |k,us=>All2 (KnAt H) (kps k) us
theorem RestAt.mo{H H':Hp}(m:Mo H H'){k:Kn}{us:List V}(h:RestAt H k us):RestAt H' k us:=by
 cases k with
 |opn n=>exact h
 |_=>exact All2.imp (h:All2 (KnAt H) _ us) λ_ _ z=>z.mo m
theorem KnAt.tup{H:Hp}{k:Kn}{v:V}(h:KnAt H k v):∃p us,v=.ref p/\H p=some (.tup (.str (kw k)::us))/\RestAt H k us:=by
 cases k with
 |opn n=>obtain⟨p,e,h⟩:=h;exact⟨p,_,e,h,rfl⟩
 |num=>obtain⟨p,e,h⟩:=h;exact⟨p,_,e,h,.nil⟩
 |tru=>obtain⟨p,e,h⟩:=h;exact⟨p,_,e,h,.nil⟩
 |lst a=>obtain⟨p,x,e,h,h1⟩:=h;exact⟨p,_,e,h,.cons h1 .nil⟩
 |fn a b=>obtain⟨p,x,y,e,h,h1,h2⟩:=h;exact⟨p,_,e,h,.cons h1 (.cons h2 .nil)⟩
theorem KnAt.of{H:Hp}{k:Kn}{p:Addr}{us:List V}(h:H p=some (.tup (.str (kw k)::us)))(hr:RestAt H k us):KnAt H k (.ref p):=by
 cases k with
 |opn n=>cases(hr:us=_);exact⟨p,rfl,h⟩
 |num=>cases(hr:All2 _ _ us);exact⟨p,rfl,h⟩
 |tru=>cases(hr:All2 _ _ us);exact⟨p,rfl,h⟩
 |lst a=>cases(hr:All2 _ _ us)with|cons h1 h2=>cases h2;exact⟨p,_,rfl,h,h1⟩
 |fn a b=>cases(hr:All2 _ _ us)with|cons h1 h2=>cases h2 with|cons h3 h4=>cases h4;exact⟨p,_,_,rfl,h,h1,h3⟩
theorem RestAt.parts{H:Hp}{k:Kn}{us:List V}(hk:k.isO=false)(h:RestAt H k us):All2 (KnAt H) (kps k) us:=by
 cases k with
 |opn n=>cases hk
 |_=>exact h
theorem kw_open{k:Kn}:kw k="open"↔k.isO=true:=by
 cases k<;>simp only[kw,Kn.isO,true_iff,iff_true,reduceCtorEq,iff_false,Bool.false_eq_true]<;>decide
theorem X4(k:Kn):(kps k).length<=2:=by cases k<;>simp[kps]
theorem LY(s:Sh):kps s.kn=s.ps.map Kn.opn:=by cases s<;>rfl
theorem IM(s:Sh):s.kn.isO=false:=by cases s<;>rfl
theorem kw_tg{s t:Sh}:kw s.kn=kw t.kn↔s.tg=t.tg:=by
 cases s<;>cases t<;>simp only[kw,Sh.kn,Sh.tg,iff_true,true_iff]<;>decide
def gk:G->Kn
 | .num=> .num
 | .tru=> .tru
 | .lst a=> .lst (gk a)
 | .fn a b=> .fn (gk a) (gk b)
structure Ad where
 b:Addr
 dx:Addr
 dl:Addr
 ds:Addr
def Ad.own(A:Ad):List Addr:=[A.b,A.dl,A.ds]
def P7(A:Ad)(N M:Int):List (Str×V):=[("told_ahead",.int N),("made_within",.int M),("leads_to",.ref A.dl),("shapes",.ref A.ds)]
def ShO(H:Hp):Option Sh->Option V->Prop
 |none,o=>o=none
 |some s,o=>∃v,o=some v/\KnAt H s.kn v
theorem ShO.mo{H H':Hp}(m:Mo H H'){s:Option Sh}{o:Option V}(h:ShO H s o):ShO H' s o:=by
 cases s with
 |none=>exact h
 |some s=>obtain⟨v,e,h⟩:=h;exact⟨v,e,h.mo m⟩
structure BR (C:Addr) (H:Hp) (A:Ad) (S:St):Prop where
 b:H A.b=some (.ins C A.dx (P7 A (S.N:Int) (S.M:Int)))
 l:∃kvs,H A.dl=some (.dK kvs)/\kvs.length+fr S<=S.M+S.N/\∀k,G0 kvs (.inl k)=(S.L k).map V.int
 s:∃kvs,H A.ds=some (.dK kvs)/\kvs.length<=S.M/\∀k,ShO H (S.H k) (G0 kvs (.inl k))
 ne:A.dl≠A.ds
 sm:S.M+S.N<=5000
 wf:Wf S
def Kq(A:Ad)(H H':Hp):Prop:=∀b ob,H b=some ob->b∉A.own->H' b=some ob
theorem Kq.refl{A:Ad}{H:Hp}:Kq A H H:=λ_ _ e _=>e
theorem Kq.of{A:Ad}{H H':Hp}(s:Same H H'):Kq A H H':=λb o e _=>s b o e
theorem Kq.trans{A:Ad}{H H1 H2:Hp}(h:Kq A H H1)(h':Kq A H1 H2):Kq A H H2:=λb o e n=>h' b o (h b o e n) n
theorem Kq.updO{A:Ad}{H:Hp}{b:Addr}(o:HO)(h:b∈A.own):Kq A H (upd H b o):=λx ob e n=>by rw[B1 (λz:x=b=>n (by rw[z];exact h))];exact e
theorem NA(A:Ad):A.b∈A.own:=by simp[Ad.own]
theorem IW(A:Ad):A.dl∈A.own:=by simp[Ad.own]
theorem MQ(A:Ad):A.ds∈A.own:=by simp[Ad.own]
section
variable{C:Addr}{H H':Hp}{A:Ad}{S:St}
theorem BR.own(h:BR C H A S){b:Addr}(hb:b∈A.own):(∃dx fs,H b=some (.ins C dx fs))\/∃kvs,H b=some (.dK kvs):=by
 simp only[Ad.own,mem_cons,not_mem_nil,or_false]at hb
 rcases hb with rfl|rfl|rfl
 ·exact .inl ⟨_,_,h.b⟩
 ·obtain⟨k,e,_⟩:=h.l;exact .inr ⟨k,e⟩
 ·obtain⟨k,e,_⟩:=h.s;exact .inr ⟨k,e⟩
theorem BR.ntup(h:BR C H A S){b:Addr}{xs:List V}(e:H b=some (.tup xs)):b∉A.own:=λhb=>by
 rcases h.own hb with⟨dx,fs,e2⟩|⟨kvs,e2⟩<;>rw[e]at e2<;>cases e2
theorem BR.nlst(h:BR C H A S){b:Addr}{xs:List V}(e:H b=some (.lst xs)):b∉A.own:=λhb=>by
 rcases h.own hb with⟨dx,fs,e2⟩|⟨kvs,e2⟩<;>rw[e]at e2<;>cases e2
theorem BR.nnew(h:BR C H A S){b:Addr}(e:H b=none):b∉A.own:=λhb=>by
 rcases h.own hb with⟨dx,fs,e2⟩|⟨kvs,e2⟩<;>rw[e]at e2<;>cases e2
theorem BR.mo(h:BR C H A S)(k:Kq A H H'):Mo H H':=λ_ _ e=>k _ _ e (h.ntup e)
theorem BR.keep(h:BR C H A S)(k:∀b∈A.own,∀ob,H b=some ob->H' b=some ob)(m:Mo H H'):BR C H' A S:=by
 obtain⟨kl,l1,l2,l3⟩:=h.l
 obtain⟨ks,s1,s2,s3⟩:=h.s
 exact⟨k _ (NA A) _ h.b,⟨kl,k _ (IW A) _ l1,l2,l3⟩,⟨ks,k _ (MQ A) _ s1,s2,λn=>(s3 n).mo m⟩,h.ne,h.sm,h.wf⟩
theorem BR.same(h:BR C H A S)(s:Same H H'):BR C H' A S:=h.keep (λb _ ob e=>s b ob e) (.of s)
theorem BR.upd(h:BR C H A S){p:Addr}(hp:p∉A.own)(hn:∀xs,H p≠some (.tup xs))(o:HO):BR C (L2.upd H p o) A S:=
 h.keep (λb hb ob e=>by rw[B1 (λz:b=p=>hp (z▸hb))];exact e) λb xs e=>by rw[B1 (λz:b=p=>hn xs (z▸e))];exact e
theorem BR.updL(h:BR C H A S){p:Addr}{xs:List V}(hp:H p=some (.lst xs))(o:HO):BR C (L2.upd H p o) A S:=
 h.upd (h.nlst hp) (λys e=>by rw[hp]at e;cases e) o
theorem BR.new(h:BR C H A S){p:Addr}(hp:H p=none)(o:HO):BR C (L2.upd H p o) A S:=
 h.upd (h.nnew hp) (λys e=>by rw[hp]at e;cases e) o
theorem JR{kvs:List (Key×V)}{k:Key}{v:V}(h:(G0 kvs k).isSome=true):(D5 kvs k v).length=kvs.length:=by
 unfold D5;rw[U9,if_pos h];simp
theorem AA{kvs:List (Key×V)}{k:Key}{v:V}:(D5 kvs k v).length<=kvs.length+1:=by
 unfold D5;split<;>simp
theorem QH{kvs:List (Key×V)}{k:Key}(h:(G0 kvs k).isSome=true):(J5 kvs k).length+1<=kvs.length:=by
 rw[<-U9,List.any_eq_true]at h
 obtain⟨x,hx,e⟩:=h
 have:(J5 kvs k).length<kvs.length:=by
  unfold J5
  have:=AD (l:=kvs) (p:=λ_=>true) (q:=λkv=>decide (kv.1≠k)) (λ_ _ _=>rfl) hx rfl (by simpa using e)
  have e2:kvs.filter (λ_=>true)=kvs:=List.filter_eq_self.2 λ_ _=>rfl
  rw[e2]at this
  exact this
 omega
theorem KC{kvs:List (Key×V)}{L:Int->Option Int}(h:∀k,G0 kvs (.inl k)=(L k).map V.int)(a b:Int)(k:Int):G0 (D5 kvs (.inl a) (.int b)) (.inl k)=(up L a (some b) k).map V.int:=by
 rw[Y8]
 by_cases e:k=a
 ·subst e;rw[if_pos rfl,J0];rfl
 ·rw[if_neg (λz=>e (Sum.inl.inj z)),C8 e];exact h k
theorem BR.cut(h:BR C H A S){k m r:Int}(h0:S.L k=some m)(hl:Lead S.L k r):∃kvs,H A.dl=some (.dK kvs)/\kvs.length<=5000/\BR C (L2.upd H A.dl (.dK (D5 kvs (.inl k) (.int r)))) A (S.cut k r):=by
 obtain⟨kl,l1,l2,l3⟩:=h.l
 obtain⟨ks,s1,s2,s3⟩:=h.s
 have n1:A.b≠A.dl:=λe=>by have:=h.b;rw[e,l1]at this;cases this
 have al:=HK h0 hl
 have hm:Mo H (L2.upd H A.dl (.dK (D5 kl (.inl k) (.int r)))):=h.mo (.updO _ (IW A))
 refine⟨kl,l1,by have:=h.sm;omega,⟨by rw[B1 n1];exact h.b,⟨_,A3, ?_,λn=>KC l3 k r n⟩,⟨ks,by rw[B1 (Ne.symm h.ne)];exact s1,s2,λn=>(s3 n).mo hm⟩,h.ne,h.sm,VU h.wf h0 hl⟩⟩
 rw[JR (by rw[l3,h0];rfl),PL al h.wf];exact l2
end
theorem DM{K:FZ}{H:Hp}{a b:Addr}{xs ys:List V}{Q:VK}(ha:H a=some (.tup xs))(hb:H b=some (.tup ys))(hz:xs.length+ys.length<=2000)
  (go:∀r H',Same H H'->H' r=some (.tup (xs++ys))->Q (.ref r) H'):QA K (.ref a) (.ref b) H Q\/KY K (.ref a) (.ref b) H Q:=by
 have zz:(2000:Nat)<=sizeLine:=by decide
 cases xs with
 |nil=>exact .inr ⟨a,b,ys,rfl,rfl,SqT.of ha,SqT.of hb,go b H (Same.refl _) hb⟩
 |cons x xs=>
  refine .inl ⟨a,b,x::xs,ys,rfl,rfl,SqT.of ha,SqT.of hb,by simp,by omega,λe=> ?_,λe p hp=> ?_⟩
  ·subst e;exact go a H (Same.refl _) (by rw[append_nil];exact ha)
  ·exact go p _ (A5 hp _) A3
theorem P9{K:FZ}{H:Hp}{a:Addr}{xs:List V}{lo hi:Option Int}{Q:VK}(ha:H a=some (.tup xs))(go:∀r H',Same H H'->H' r=some (.tup (N9 xs lo hi))->Q (.ref r) H'):
  (rSlL K (.ref a) lo hi H Q\/rSlT K (.ref a) lo hi H Q)\/WZ K (.ref a) lo hi H Q:=by
 by_cases h:HT.sIx xs.length 0 lo=0/\HT.sIx xs.length xs.length hi=xs.length
 ·refine .inr ⟨a,xs,rfl,SqT.of ha,h,go a H (Same.refl _) ?_⟩
  have e:N9 xs lo hi=xs:=by unfold N9;rw[h.1,h.2];simp
  rw[e];exact ha
 ·exact .inl (.inr ⟨a,xs,rfl,SqT.of ha,h,λp hp=>go p _ (A5 hp _) A3⟩)
theorem B2{H:Hp}{a b:Addr}{o o':HO}(h:H b=some o)(n:b≠a):L2.upd H a o' b=some o:=by rw[B1 n];exact h
theorem Q7{H:Hp}{a b:Addr}{o':HO}(h:L2.upd H a o' b=none):H b=none/\b≠a:=by
 by_cases e:b=a
 ·subst e;rw[A3]at h;cases h
 ·rw[B1 e]at h;exact⟨h,e⟩
theorem EV(y:V)(ws:List V):(y::ws).reverse[(y::ws).reverse.length - 1]? =some y:=by
 rw[reverse_cons]
 simp
theorem EX(y:V)(ws:List V):(y::ws).reverse.dropLast=ws.reverse:=by
 rw[reverse_cons]
 simp
theorem XV{ws us:List V}(h:ws.reverse=us):ws=us.reverse:=by rw[<-h,List.reverse_reverse]
theorem J9{α:Type}{A:List α}{k:Nat}{t:α}(h:A[k]? =some t):A.take (k+1)=A.take k++ [t]:=by
 obtain⟨h1,h2⟩:=List.getElem?_eq_some_iff.mp h
 rw[List.take_succ_eq_append_getElem h1,h2]
end BN
namespace BN
open PySem L2 BV
seal PE PT PW PA PS PSs PTs PI PG PGs PO
def top(i:Nat):Stmt:=PySem.Challenge.pw_speakmill_k31_bonds.main.body.getD i (.Pass ⟨0,0,0,0⟩)
abbrev CP:Stmt:=top 12
abbrev W7:Stmt:=top 9
abbrev N8:Stmt:=top 14
abbrev W8:Stmt:=top 16
abbrev L8:Stmt:=top 15
abbrev NM:List Str:=["kind"]
theorem sc_is_open:FnScope NM Y9 (A6 CP):=fS
abbrev HN:List Str:=["kind"]
theorem sc_kind_parts:FnScope HN Y9 (A6 W7):=fS
abbrev CV:List Str:=["kind"]
theorem sc_parts_of_shape:FnScope CV Y9 (A6 N8):=fS
abbrev HL:List Str:=["shape","parts"]
theorem sc_with_parts:FnScope HL PV (A6 W8):=fS
abbrev Z3:List Str:=["shape","other"]
theorem sc_pairs_within:FnScope Z3 XJ (A6 L8):=fS
theorem ifT{c A B:Prop}[Decidable c](h:c)(a:A):if c then A else B:=by rw[if_pos h];exact a
theorem ifF{c A B:Prop}[Decidable c](h:¬c)(b:B):if c then A else B:=by rw[if_neg h];exact b
structure NoG (mg:Str->Option Value):Prop where
 len_:mg "len"=none
 list_:mg "list"=none
 range_:mg "range"=none
 reversed_:mg "reversed"=none
 isinstance_:mg "isinstance"=none
 str_:mg "str"=none
 tuple_:mg "tuple"=none
 int_:mg "int"=none
 bool_:mg "bool"=none
 zip_:mg "zip"=none
 sum_:mg "sum"=none
 max_:mg "max"=none
 min_:mg "min"=none
 enumerate_:mg "enumerate"=none
section
variable{P:Program}{w:World}{K:FZ}{mg:Str->Option Value}{base:Heap}{f M9 E3:Addr}{fd N0 E4:FuncData}{cN:Addr}
inductive spOpenW(vs:List V)(H:Hp)(Q:VK):Prop
 |mk:∀(k:Kn) (v:V),(vs=[v])->(KnAt H k v)->(Q (.bl k.isO) H)->spOpenW vs H Q
def IR:Sp:=λvs H Q _=>spOpenW vs H Q
theorem ok_is_open(F:Fun K "is_open" "is_open" CP f fd):FnOk P w K mg base CX0 1 f fd Y9 IR:=by
 refine F.ok sc_is_open (λvs H Q E h=> ?_) (λcdv A outer s H vs Q E hr h=> ?_)
 ·obtain⟨k,v,rfl,_⟩:=h
  rfl
 obtain⟨k,v,rfl,hk,q⟩:=h
 obtain⟨p,us,rfl,hp,hR⟩:=hk.tup
 have nd:=sc_is_open.nd
 have hu:=hr.units0
 refine⟨_,(A8 (B4 (TV (kEq (K:=K) hu) (ixE K w (pv 0) A9) B9 rfl))), ?_⟩
 refine⟨_,rfl,(ixT (v:=.str (kw k)) hp (L3 (j:=0) rfl) (.inl ⟨rfl, ?_⟩))⟩
 have e:decide (V.str (kw k)=V.str "open")=k.isO:=by
  cases h:k.isO with
  |true=>exact decide_eq_true (by rw[kw_open.2 h])
  |false=>exact decide_eq_false (λz=>by have:=kw_open.1 (V.str.inj z);rw[h]at this;cases this)
 rw[e];exact q
inductive spPartsW (vs:List V) (H:Hp) (Q:VK):Prop
 |mk:∀(k:Kn) (v:V),(vs=[v])->(KnAt H k v)->(∀l us H',Same H H'->H l=none->H' l=some (.lst us)->RestAt H' k us->Q (.ref l) H')->spPartsW vs H Q
def AL:Sp:=λvs H Q _=>spPartsW vs H Q
theorem ok_kind_parts(F:Fun K "kind_parts" "kind_parts" W7 f fd)(B:NoG mg):FnOk P w K mg base CX0 1 f fd Y9 AL:=by
 refine F.ok sc_kind_parts (λvs H Q E h=> ?_) (λcdv A outer s H vs Q E hr h=> ?_)
 ·obtain⟨k,v,rfl,_⟩:=h
  rfl
 obtain⟨k,v,rfl,hk,q⟩:=h
 obtain⟨p,us,rfl,hp,hR⟩:=hk.tup
 have nd:=sc_kind_parts.nd
 have hu:=hr.units0
 refine⟨_,(A8 (B4 (V3 (WS (K:=K)) rfl B.list_ MV (A0 (K0 (EJ (K:=K)) (pv 0) (K8 A9) P8) A4)))), ?_⟩
 refine⟨_,rfl,_,rfl,P9 hp λr H1 s1 h1=> ?_⟩
 have ec:N9 (V.str (kw k)::us) (some 1) none=us:=Q4 _ 1
 rw[ec]at h1
 refine⟨r,us,rfl,.inr (SqT.of h1),λl hl=> ?_⟩
 exact q l us _ (s1.trans (A5 hl _)) (s1.free hl) A3 (hR.mo (.of (s1.trans (A5 hl _))))
inductive spPartsOfW (vs:List V) (H:Hp) (Q:VK):Prop
 |mk:∀(k:Kn) (v:V),(vs=[v])->(KnAt H k v)->(∀l us H',Same H H'->H l=none->H' l=some (.lst us)->All2 (KnAt H') (kps k) us->Q (.ref l) H')->spPartsOfW vs H Q
def GJ:Sp:=λvs H Q _=>spPartsOfW vs H Q
theorem ok_parts_of_shape(F:Fun K "parts_of_shape" "parts_of_shape" N8 f fd)
  (G6:Cn P w K mg base CX0 1 "is_open" Y9 IR)
  (B7:Cn P w K mg base CX0 1 "kind_parts" Y9 AL):
  FnOk P w K mg base CX0 2 f fd Y9 GJ:=by
 obtain⟨M9,N0,G6,U3,U4,U6⟩:=G6
 obtain⟨E3,E4,B7,D7,D8,D9⟩:=B7
 refine F.ok sc_parts_of_shape (λvs H Q E h=> ?_) (λcdv A outer s H vs Q E hr h=> ?_)
 ·obtain⟨k,v,rfl,_⟩:=h
  rfl
 obtain⟨k,v,rfl,hk,q⟩:=h
 have nd:=sc_parts_of_shape.nd
 have hu:=hr.units0
 refine⟨_,(A7 (D6 (E1 (K:=K) (B6 G6 (hr.mono (by omega)) rfl U6 U4 U3 .nil C1 (A0 (pv 0) A4)) (λ_=>rfl)) (A8 (B4 (P6 A4))) C2)
   (A8 (B4 (B6 B7 (hr.mono (by omega)) rfl D9 D8 D7 .nil C1 (A0 (pv 0) A4))))), ?_⟩
 refine⟨_,rfl,k,v,rfl,hk,_,rfl, ?_⟩
 cases e:k.isO with
 |true=>
  refine ifT rfl ⟨(by show 0<=sizeLine;decide),λl hl=> ?_⟩
  refine q l [] _ (A5 hl _) hl A3 ?_
  cases k with
  |opn n=>exact .nil
  |_=>cases e
 |false=>exact ifF (by simp) ⟨_,rfl,k,v,rfl,hk,λl us H' s h0 h1 h2=>q l us H' s h0 h1 (h2.parts e)⟩
inductive spWithW (vs:List V) (H:Hp) (Q:VK):Prop
 |mk:∀(k:Kn) (v:V) (l:Addr) (us:List V),(vs=[v,.ref l])->(KnAt H k v)->(H l=some (.lst us))->(us.length<=1000)->(∀p H',Same H H'->H' p=some (.tup (.str (kw k)::us))->Q (.ref p) H')->spWithW vs H Q
def SK:Sp:=λvs H Q _=>spWithW vs H Q
theorem ok_with_parts(F:Fun K "with_parts" "with_parts" W8 f fd)(B:NoG mg):FnOk P w K mg base CX0 1 f fd PV SK:=by
 refine F.ok sc_with_parts (λvs H Q E h=> ?_) (λcdv A outer s H vs Q E hr h=> ?_)
 ·obtain⟨k,v,l,us,rfl,_⟩:=h
  rfl
 obtain⟨k,v,l,us,rfl,hk,hl,hz,q⟩:=h
 obtain⟨p,ws,rfl,hp,hR⟩:=hk.tup
 have nd:=sc_with_parts.nd
 have hu:=hr.units0
 refine⟨_,(A8 (B4 (C6 (P3 (K:=K)) (B5 (A0 (ixE K w (pv 0) A9) A4)) (V3 (DO (K:=K)) rfl B.tuple_ V0 (A0 (pv 1) A4))))), ?_⟩
 refine⟨_,rfl,(ixT (v:=.str (kw k)) hp (L3 (j:=0) rfl) ⟨(by show 1<=sizeLine;decide),λp1 hp1=> ?_⟩)⟩
 have s1:=A5 hp1 (.tup [.str (kw k)])
 refine⟨_,rfl,l,us,rfl,.inl ⟨SqL.of (s1 _ _ hl),λp2 hp2=> ?_⟩⟩
 have s2:=A5 hp2 (.tup us)
 refine .inr (.inr (DM (s2 _ _ A3) A3 (by simp;omega) λr H' s3 h3=> ?_))
 exact q r H' ((s1.trans s2).trans s3) h3
theorem XA{s t:Sh}(h:s.tg=t.tg):s.ps.length=t.ps.length:=by cases s<;>cases t<;>simp_all [Sh.ps,Sh.tg]
inductive spPairsW (cN:Addr) (vs:List V) (H:Hp) (Q:VK) (E:XK):Prop
 |mk:∀(s t:Sh) (v u:V),(vs=[v,u])->(KnAt H s.kn v)->(KnAt H t.kn u)->((s.tg=t.tg->∀l us H',Same H H'->H l=none->H' l=some (.lst us)->All2 (λx y=>∃p,y=.ref p/\H' p=some (.tup [.int x.1,.int x.2])) (s.ps.zip t.ps) us->Q (.ref l) H'))->((s.tg≠t.tg->E (.ref cN) none H))->spPairsW cN vs H Q E
def NH(cN:Addr):Sp:=λvs H Q E=>spPairsW cN vs H Q E
theorem ok_pairs_within(F:Fun K "pairs_within" "pairs_within" L8 f fd)(B:NoG mg)(X_BadKind:XCls K mg "BadKind" cN)
  (B7:Cn P w K mg base CX0 1 "kind_parts" Y9 AL):
  FnOk P w K mg base (CXr P w) 2 f fd XJ (NH cN):=by
 obtain⟨E3,E4,B7,D7,D8,D9⟩:=B7
 refine F.okX sc_pairs_within (λvs H Q E h=> ?_) (λcdv A outer s H vs Q E hr h=> ?_)
 ·obtain⟨s,t,v,u,rfl,_⟩:=h
  rfl
 obtain⟨s,t,v,u,rfl,hs,ht,q1,q2⟩:=h
 have nd:=sc_pairs_within.nd
 have hu:=hr.units0
 obtain⟨p,ws,rfl,hp,hR⟩:=hs.tup
 obtain⟨p',ws',rfl,hp',hR'⟩:=ht.tup
 refine⟨_,(A7 (D6 (C5 (kNe (K:=K) hu) (ixE K w (pv 0) A9) (ixE K w (pv 1) A9) rfl) (A8 (EW PySem.F.excBase_ValueError (by decide) X_BadKind.q rfl X_BadKind.m (A0 B9 A4))) C2)
   (A8 (B4 (SA (CompScope2.mk (N:=Z3) (sc:=A6 L8) (caps:=[]) (ns:=[]) (by decide +kernel) rfl (by decide +kernel) rfl rfl (by decide +kernel) rfl (by decide +kernel) (by decide +kernel)) rfl rfl rfl (XL (K:=K) rfl B.zip_ (A0 (B6 B7 (hr.mono (by omega)) rfl D9 D8 D7 .nil C1 (A0 (pv 0) A4)) (A0 (B6 B7 (hr.mono (by omega)) rfl D9 D8 D7 .nil C1 (A0 (pv 1) A4)) A4))) (λ_ _ _ _ _=>L9) (λ_ _ _ _ _=>(B5 (A0 (ixE K w (pv 0) A9) (A0 (ixE K w (pv 1) A9) A4)))))))), ?_⟩
 refine⟨_,rfl,(ixT (v:=.str (kw s.kn)) hp (L3 (j:=0) rfl) ⟨_,rfl,(ixT (v:=.str (kw t.kn)) hp' (L3 (j:=0) rfl) (.inl ⟨rfl,_,rfl, ?_⟩))⟩)⟩
 by_cases hst:s.tg=t.tg
 ·have e:kw s.kn=kw t.kn:=kw_tg.2 hst
  refine ifF (by simp[e]) ?_
  refine⟨_,rfl,s.kn,_,rfl,hs,λl1 us1 H1 s1 hl1 h1 hR1=> ?_⟩
  refine⟨_,rfl,t.kn,_,rfl,ht.mo (.of s1),λl2 us2 H2 s2 hl2 h2 hR2=> ?_⟩
  have a1:=(hR1.mo (.of s2)).parts (IM s)
  have a2:=hR2.parts (IM t)
  rw[LY]at a1 a2
  have e1:=a1.len
  have e2:=a2.len
  have e3:s.ps.length=t.ps.length:=XA hst
  have e4:s.ps.length<=2:=by cases s<;>simp[Sh.ps]
  simp only[length_map]at e1 e2
  have z2:(2:Nat)<=sizeLine:=by decide
  refine⟨l1,l2,us1,us2,rfl,SqL.of (s2 _ _ h1),SqL.of h2,OY (xs:=us1) (ys:=us2) (by omega) (λi zs H3=>Same H2 H3/\All2 (λx y=>∃p,y=.ref p/\H3 p=some (.tup [.int x.1,.int x.2])) ((s.ps.zip t.ps).take i) zs) ⟨Same.refl _,.nil⟩ ?_ ?_ ?_⟩
  ·rintro i zs H3 hi ⟨s3,hz⟩
   have:=hz.len
   rw[length_take]at this
   exact⟨SqL.of (s3 _ _ (s2 _ _ h1)),SqL.of (s3 _ _ h2),by omega⟩
  ·rintro i x y zs H3 T hx hy ⟨s3,hz⟩ hT
   refine Q6 ?_
   obtain⟨k1,g1,n1⟩:=a1.get hx
   obtain⟨k2,g2,n2⟩:=a2.get hy
   rw[getElem?_map]at g1 g2
   obtain⟨m1,f1,rfl⟩:=map_eq_some_iff.mp g1
   obtain⟨m2,f2,rfl⟩:=map_eq_some_iff.mp g2
   obtain⟨q1',rfl,hq1⟩:=n1
   obtain⟨q2',rfl,hq2⟩:=n2
   have s4:=s3.trans (A5 hT (.tup [.ref q1',.ref q2']))
   refine⟨_,rfl,(ixT (v:=.int m1) (s4 _ _ hq1) rfl ?_)⟩
   refine⟨_,rfl,(ixT (v:=.int m2) (s4 _ _ hq2) rfl ⟨z2,λp3 hp3=> ?_⟩)⟩
   have s5:=A5 hp3 (.tup [.int m1,.int m2])
   have hzi:(s.ps.zip t.ps)[i]? =some (m1,m2):=List.getElem?_zip_eq_some.2 ⟨f1,f2⟩
   refine⟨s4.trans s5, ?_⟩
   rw[J9 hzi]
   exact(hz.imp λa b ⟨p,e,h⟩=>⟨p,e,s5 _ _ (A5 hT _ _ _ h)⟩).app (.cons ⟨p3,rfl,A3⟩ .nil)
  ·rintro zs H3 ⟨s3,hz⟩ l hl
   have s6:=A5 hl (.lst zs)
   refine q1 hst l zs _ (((s1.trans s2).trans s3).trans s6) (((s1.trans s2).trans s3).free hl) A3 ?_
   have hlen:(s.ps.zip t.ps).length=us1.length:=by rw[List.length_zip];omega
   rw[<-hlen,take_length]at hz
   exact hz.imp λa b ⟨p,e,h⟩=>⟨p,e,s6 _ _ h⟩
 ·refine ifT (by simpa using λz=>hst (kw_tg.1 z)) ?_
  exact⟨by show 1<=sizeLine;decide,q2 hst⟩
end
abbrev CU:Stmt:=L1 (top 13) 0
abbrev O2:Stmt:=L1 (top 13) 1
abbrev J6:Stmt:=L1 (top 13) 5
abbrev G4:Stmt:=L1 (top 13) 8
abbrev WQ:List Str:=["self"]
theorem sc_init:FnScope WQ X2 (A6 CU):=fS
abbrev TR:List Str:=["self"]
theorem sc_fresh:FnScope TR X2 (A6 O2):=fS
abbrev NJ:List Str:=["self","number","passed","last","one"]
theorem sc_last_of:FnScope NJ GB (A6 J6):=fS
abbrev LZ:List Str:=["self","kind"]
theorem sc_shape_of:FnScope LZ T0 (A6 G4):=fS
structure BCls (K:FZ) (C:Addr) (gf:Str->Addr) (gd:Str->FuncData):Prop where
 cl:Cls K C
 n1:NoAttr K C "told_ahead"
 n2:NoAttr K C "made_within"
 n3:NoAttr K C "leads_to"
 n4:NoAttr K C "shapes"
 m_fresh:Meth K C "fresh" (gf "fresh")
 m_tie:Meth K C "tie" (gf "tie")
 m_number_of:Meth K C "number_of" (gf "number_of")
 m_number_with:Meth K C "number_with" (gf "number_with")
 m_last_of:Meth K C "last_of" (gf "last_of")
 m_tie_tops:Meth K C "tie_tops" (gf "tie_tops")
 m_refuse_within_itself:Meth K C "refuse_within_itself" (gf "refuse_within_itself")
 m_shape_of:Meth K C "shape_of" (gf "shape_of")
 m_final:Meth K C "final" (gf "final")
 m_shapes_within:Meth K C "shapes_within" (gf "shapes_within")
 m_refuse_long:Meth K C "refuse_long" (gf "refuse_long")
 b_fresh:Binds K (gd "fresh") X2 []
 b_tie:Binds K (gd "tie") IF []
 b_number_of:Binds K (gd "number_of") T0 []
 b_number_with:Binds K (gd "number_with") UF []
 b_last_of:Binds K (gd "last_of") GB []
 b_tie_tops:Binds K (gd "tie_tops") IF []
 b_refuse_within_itself:Binds K (gd "refuse_within_itself") GB []
 b_shape_of:Binds K (gd "shape_of") T0 []
 b_final:Binds K (gd "final") T0 []
 b_shapes_within:Binds K (gd "shapes_within") UR []
 b_refuse_long:Binds K (gd "refuse_long") T0 []
section
variable{A:Ad}{n m:Int}
theorem l1:(P7 A n m).lookup ("told_ahead":Str)=some (.int n):=by rfl
theorem l2:(P7 A n m).lookup ("made_within":Str)=some (.int m):=by rfl
theorem l3:(P7 A n m).lookup ("leads_to":Str)=some (.ref A.dl):=by rfl
theorem l4:(P7 A n m).lookup ("shapes":Str)=some (.ref A.ds):=by rfl
theorem lf:(P7 A n m).length<1000:=by show 4<1000;decide
theorem p1(k:Int):X7 ("told_ahead":Str) (.int k) (P7 A n m)=P7 A k m:=by rfl
theorem p2(k:Int):X7 ("made_within":Str) (.int k) (P7 A n m)=P7 A n k:=by rfl
end
inductive LeadN (L:Int->Option Int):Nat->Int->Int->Prop
 |stop {n:Int}:L n=none->LeadN L 0 n n
 |on {k:Nat} {n m r:Int}:L n=some m->LeadN L k m r->LeadN L (k+1) n r
theorem Lead.n{L:Int->Option Int}{n r:Int}(h:Lead L n r):∃k,LeadN L k n r:=by
 induction h with
 |stop e=>exact⟨0,.stop e⟩
 |on e _ ih=>obtain⟨k,x⟩:=ih;exact⟨k+1,.on e x⟩
theorem LeadN.lead{L:Int->Option Int}{k:Nat}{n r:Int}(h:LeadN L k n r):Lead L n r:=by
 induction h with
 |stop e=>exact .stop e
 |on e _ ih=>exact .on e ih
theorem LeadN.det{L:Int->Option Int}{k j:Nat}{n r s:Int}(h:LeadN L k n r)(h':LeadN L j n s):k=j:=by
 induction h generalizing j with
 |stop e=>cases h' with
  |stop=>rfl
  |on e2=>rw[e]at e2;cases e2
 |on e _ ih=>cases h' with
  |stop e2=>rw[e]at e2;cases e2
  |on e2 x=>rw[e]at e2;cases e2;rw[ih x]
theorem PN{α:Type}[DecidableEq α]{l m:List α}(nd:l.Nodup)(h:∀x∈l,x∈m):l.length<=m.length:=by
 induction l generalizing m with
 |nil=>simp
 |cons x l ih=>
  rw[nodup_cons]at nd
  have hx:=h x (by simp)
  have:=ih (m:=m.erase x) nd.2 λy hy=>by
   refine(List.mem_erase_of_ne ?_).2 (h y (by simp[hy]))
   exact λe=>nd.1 (e▸hy)
  rw[List.length_erase_of_mem hx]at this
  have:0<m.length:=List.length_pos_of_mem hx
  simp only[length_cons];omega
theorem LeadN.chain{L:Int->Option Int}{k:Nat}{n r:Int}(h:LeadN L k n r):∃l:List Int,l.length=k/\l.Nodup/\∀x∈l,L x≠none/\∃j,j<=k/\LeadN L j x r:=by
 induction h with
 |stop e=>exact⟨[],rfl,.nil,by simp⟩
 | @on k n m r e t ih=>
  obtain⟨l,h1,h2,h3⟩:=ih
  refine⟨n::l,by simp[h1],nodup_cons.2 ⟨λhm=> ?_,h2⟩,λx hx=> ?_⟩
  ·obtain⟨_,j,hj,y⟩:=h3 n hm
   have:=(LeadN.on e t).det y
   omega
  ·rcases mem_cons.1 hx with rfl|hx
   ·exact⟨by rw[e];simp,k+1,le_refl _,.on e t⟩
   ·obtain⟨h4,j,hj,y⟩:=h3 x hx;exact⟨h4,j,by omega,y⟩
theorem LeadN.le{S:St}(w:Wf S){k:Nat}{n r:Int}(h:LeadN S.L k n r):k<=S.M+S.N:=by
 obtain⟨l,h1,h2,h3⟩:=h.chain
 rw[<-h1,<-Z8]
 refine PN h2 λx hx=> ?_
 obtain⟨h4,_⟩:=h3 x hx
 cases e:S.L x with
 |none=>exact absurd e h4
 |some m=>exact mem_zr.2 (w.lr _ _ e).1
theorem Alk.none{S T:St}(h:Alk S T)(w:Wf S){n:Int}:T.L n=none↔S.L n=none:=by
 constructor
 ·intro e;exact((h.l.iff w.tot).1 (.stop e)).top
 ·intro e;exact(h.l _ _ (.stop e)).top
section
variable{P:Program}{w:World}{K:FZ}{mg:Str->Option Value}{base:Heap}{C:Addr}{gf:Str->Addr}{gd:Str->FuncData}{M9:Addr}{N0:FuncData}
inductive spLastW(C:Addr)(vs:List V)(H:Hp)(Q:VK):Prop
 |mk:∀(A:Ad) (S:St) (n r:Int),(vs=[.ref A.b,.int n])->(BR C H A S)->(Lead S.L n r)->(∀S' H',Alk S S'->BR C H' A S'->Kq A H H'->Q (.int r) H')->spLastW C vs H Q
def IG(C:Addr):Sp:=λvs H Q _=>spLastW C vs H Q
theorem ok_last_of(F:Fun K "last_of" "Bonds.last_of" J6 (gf "last_of") (gd "last_of"))(RM:BCls K C gf gd):FnOk P w K mg base CX0 1 (gf "last_of") (gd "last_of") GB (IG C):=by
 refine F.ok sc_last_of (λvs H Q E h=> ?_) (λcdv A outer s H vs Q E hr h=> ?_)
 ·obtain⟨A,S,n,r,rfl,_⟩:=h
  rfl
 obtain⟨A,S,n,r,rfl,hB,hL,q⟩:=h
 obtain⟨k,hk⟩:=hL.n
 have hkb:=hk.le hB.wf
 have hsm:=hB.sm
 have nd:=sc_last_of.nd
 have hu:=hr.units
 have z5:(5001:Nat)<sizeLine:=by decide
 refine⟨_,(A7 (C7 (i:=2) nd rfl (Or.inl rfl) (P6 A4))
   (A7 (C7 (i:=3) nd rfl (Or.inl rfl) (pv 1))
   (A7 (G9 (Z5 PassesOwn.never (C5 (anZ hr.units) (pv 3) (O1 (pv 0) rfl) rfl) (A7 (O3 (JM (K:=K) PySem.F.plainAttrs_list PySem.F.slot_list_append PySem.F.type_list_append AJ (pv 2) (A0 (pv 3) A4)))
   (A8 (C7 (i:=3) nd rfl (Or.inl rfl) (HW (lt_of_le_of_lt (add_le_add_left (by decide:1<=64) _) hr.units) (O1 (pv 0) rfl) (pv 3) (λ_ _=>rfl)))))))
   (A7 (G9 (Z0 PassesOwn.never rfl (AF (K:=K) (pv 2)) (K6 (i:=4) nd rfl (Or.inl rfl)) (A8 (BG (pv 3) (BC (O1 (pv 0) rfl) (pv 4) (Q9 hr.units))))))
   (A8 (B4 (pv 3))))))), ?_⟩
 refine⟨(by show 0<=sizeLine;decide),λpl hpl=> ?_⟩
 obtain⟨kl,hk1,hk2,hk3⟩:=hB.l
 have hB0:∀xs:List V,BR C (upd H pl (.lst xs)) A S:=λxs=>hB.new hpl _
 have nb:A.b≠pl:=B0 hB.b hpl
 have nl:A.dl≠pl:=B0 hk1 hpl
 refine⟨_,rfl,fun σ H'=>∃ps:List Int,σ=[some (.ref A.b),some (.int n),some (.ref pl),some (.int r),none]/\H'=upd H pl (.lst (ps.map V.int))/\ps.length<=5000/\∀x∈ps,S.L x≠none/\Lead S.L x r, ?_, ?_⟩
 ·refine⟨λm σ H'=>∃(ps:List Int) (j:Int),σ=[some (.ref A.b),some (.int n),some (.ref pl),some (.int j),none]/\H'=upd H pl (.lst (ps.map V.int))/\LeadN S.L m j r/\ps.length+m=k/\∀x∈ps,S.L x≠none/\Lead S.L x r,
   ⟨k,[],n,rfl,rfl,hk,by simp,by simp⟩, ?_⟩
  rintro m σ H' ⟨ps,j,rfl,rfl,hj,hlen,hps⟩
  have hb1:upd H pl (.lst (ps.map V.int)) A.b=some (.ins C A.dx (P7 A (S.N:Int) (S.M:Int))):=B2 hB.b nb
  have hl1:upd H pl (.lst (ps.map V.int)) A.dl=some (.dK kl):=B2 hk1 nl
  refine⟨_,rfl,_,rfl,A.b,C,A.dx,_,_,rfl,hb1,RM.cl,RM.n3,l3,_,_,rfl,DGet.k (k:=.inl j) hl1,_,rfl, ?_⟩
  cases hj with
  |stop e=>
   refine ifF (by rw[hk3,e];simp) ?_
   exact⟨ps,rfl,rfl,by omega,hps⟩
  | @on m j j2 r e hj2=>
   refine ifT (by rw[hk3,e];rfl) ⟨_,λ_ _ h=>h, ?_⟩
   refine⟨_,rfl,.inl ⟨rfl,_,SqL.of A3⟩,_,rfl,pl,_,_,rfl,rfl,A3,by rw[length_map];omega, ?_⟩
   rw[IE]
   refine⟨_,rfl,A.b,C,A.dx,_,_,rfl,B2 hB.b nb,RM.cl,RM.n3,l3,_,rfl,A.dl,.int j2,rfl, ?_, ?_⟩
   ·have:=DGet.k (k:=.inl j) (B2 (o':=HO.lst (ps.map V.int++ [.int j])) hk1 nl)
    rw[hk3,e]at this
    exact this
   ·refine⟨m,by omega,ps++ [j],j2,rfl, ?_,hj2,by simp;omega,λx hx=> ?_⟩
    ·rw[map_append];rfl
    ·rcases mem_append.1 hx with hx|hx
     ·exact hps x hx
     ·rw[mem_singleton]at hx;subst hx
      exact⟨by rw[e];simp,.on e hj2.lead⟩
 ·rintro σ H' ⟨ps,rfl,rfl,hlen,hps⟩
  refine⟨fun σ H'=>∃S':St,(∃y,σ=[some (.ref A.b),some (.int n),some (.ref pl),some (.int r),y])/\Alk S S'/\BR C H' A S'/\Kq A H H', ?_, ?_⟩
  ·refine⟨_,rfl,pl,rfl,⟨_,SqL.of A3⟩,RK (xs:=ps.map V.int) (λi σ H'=>∃S':St,(∃y,σ=[some (.ref A.b),some (.int n),some (.ref pl),some (.int r),y])/\Alk S S'/\BR C H' A S'/\Kq A H H'/\H' pl=some (.lst (ps.map V.int))) ?_ ?_ ?_ ?_⟩
   ·exact⟨S,⟨_,rfl⟩,.rfl,hB0 _,.of (A5 hpl _),A3⟩
   ·rintro i σ H' _ ⟨S',_,_,_,_,h⟩
    exact SqL.of h
   ·rintro i x σ H' hx ⟨S',⟨y,rfl⟩,al,hB',kq,hp⟩
    rw[getElem?_map]at hx
    obtain⟨z,hz,rfl⟩:=map_eq_some_iff.mp hx
    obtain⟨h1,h2⟩:=hps z (mem_of_getElem? hz)
    have h3:S'.L z≠none:=λe=>h1 ((al.none hB.wf).1 e)
    obtain⟨m,hm⟩:=Option.ne_none_iff_exists'.mp h3
    obtain⟨kvs,e1,e2,hB2⟩:=hB'.cut hm (al.l _ _ h2)
    refine⟨_,rfl,_,rfl,A.b,C,A.dx,_,_,rfl,hB'.b,RM.cl,RM.n3,l3,_,rfl,A.dl,_,rfl,DPut.k (k:=.inl z) e1 (by omega), ?_⟩
    refine⟨S'.cut z r,⟨_,rfl⟩,al.trans (HK hm (al.l _ _ h2)),hB2,kq.trans (.updO _ (IW A)), ?_⟩
    exact B2 hp λe=>by rw[e,e1]at hp;cases hp
   ·rintro σ H' ⟨S',h1,h2,h3,h4,_⟩
    exact⟨S',h1,h2,h3,h4⟩
  ·rintro σ H' ⟨S',⟨y,rfl⟩,al,hB',kq⟩
   exact⟨_,rfl,q S' H' al hB' kq⟩
end
def shK(S:St):Kn->Kn->Prop
 | .opn n,k'=>∃r,Lead S.L n r/\k'=match S.H r with|some s=>s.kn|none=> .num
 |k,k'=>k'=k
theorem QI{S:St}:fr S.fresh<=fr S+1:=by
 have e:zr S.M (S.N+1)=zr S.M S.N++ [(S.N:Int)]:=by
  unfold zr
  rw[<-Nat.add_assoc,List.range_succ,map_append]
  simp
  omega
 show((zr S.M (S.N+1)).filter λn=>(S.L n).isNone).length<=_
 rw[e,List.filter_append,length_append]
 have:(List.filter (λn=>(S.L n).isNone) [(S.N:Int)]).length<=1:=le_trans (length_filter_le _ _) (by simp)
 unfold fr
 omega
theorem YA{S:St}{s:Sh}:fr (S.new s)<=fr S+1:=by
 have e:zr (S.M+1) S.N=(-(S.M+1:Int))::zr S.M S.N:=by
  unfold zr
  rw[show S.M+1+S.N=(S.M+S.N)+1 by omega,List.range_succ_eq_map,map_cons,List.map_map]
  have h1:((0:Nat):Int) - ((S.M+1:Nat):Int)= -(S.M+1:Int):=by omega
  rw[h1]
  refine congrArg _ (List.map_congr_left λi _=> ?_)
  show((i+1:Nat):Int) - ((S.M+1:Nat):Int)=(i:Int) - (S.M:Int)
  omega
 show((zr (S.M+1) S.N).filter λn=>(S.L n).isNone).length<=_
 rw[e,filter_cons]
 unfold fr
 split<;>simp
section
variable{P:Program}{w:World}{K:FZ}{mg:Str->Option Value}{base:Heap}{C:Addr}{gf:Str->Addr}{gd:Str->FuncData}{M9 E3 fi:Addr}{N0 E4 di:FuncData}
inductive spShapeW(C:Addr)(vs:List V)(H:Hp)(Q:VK):Prop
 |mk:∀(A:Ad) (S:St) (k k':Kn) (v:V),(vs=[.ref A.b,v])->(BR C H A S)->(KnAt H k v)->(shK S k k')->(∀S' H' u,Alk S S'->BR C H' A S'->Kq A H H'->KnAt H' k' u->Q u H')->spShapeW C vs H Q
def BS(C:Addr):Sp:=λvs H Q _=>spShapeW C vs H Q
theorem ok_shape_of(F:Fun K "shape_of" "Bonds.shape_of" G4 (gf "shape_of") (gd "shape_of"))(RM:BCls K C gf gd)
  (Q0:FnOk P w K mg base CX0 1 (gf "last_of") (gd "last_of") GB (IG C))
  (G6:Cn P w K mg base CX0 1 "is_open" Y9 IR):
  FnOk P w K mg base CX0 2 (gf "shape_of") (gd "shape_of") T0 (BS C):=by
 obtain⟨M9,N0,G6,U3,U4,U6⟩:=G6
 refine F.ok sc_shape_of (λvs H Q E h=> ?_) (λcdv A outer s H vs Q E hr h=> ?_)
 ·obtain⟨A,S,k,k',v,rfl,_⟩:=h
  rfl
 obtain⟨A,S,k,k',v,rfl,hB,hk,hsh,q⟩:=h
 have nd:=sc_shape_of.nd
 have hu:=hr.units
 refine⟨_,(A7 (D6 (X0 (E1 (K:=K) (B6 G6 (hr.mono (by omega)) rfl U6 U4 U3 .nil C1 (A0 (pv 1) A4)) (λ_=>rfl))) (A8 (B4 (pv 1))) C2)
   (A8 (B4 (IY (lt_of_le_of_lt (add_le_add_left (by decide:1<=64) _) hr.units) (O1 (pv 0) rfl) (E5 (pv 0) RM.cl RM.m_last_of Q0 (hr.mono (by omega)) RM.b_last_of .nil C1 (A0 (ixE K w (pv 1) A9) A4)) (B5 (A0 B9 A4)) ⟨rfl,rfl,rfl,rfl⟩)))), ?_⟩
 refine⟨_,rfl,k,v,rfl,hk,_,rfl, ?_⟩
 cases e:k.isO with
 |false=>
  refine ifT rfl ⟨_,rfl, ?_⟩
  have:k'=k:=by
   cases k with
   |opn n=>cases e
   |_=>exact hsh
  subst this
  exact q S H v .rfl hB .refl hk
 |true=>
  cases k with
  |opn n=>
   obtain⟨r,hl,rfl⟩:=hsh
   obtain⟨p,rfl,hp⟩:=hk
   refine ifF (by simp) ?_
   obtain⟨ks,hs1,hs2,hs3⟩:=hB.s
   refine⟨_,rfl,A.b,C,A.dx,_,_,rfl,hB.b,RM.cl,RM.n4,l4,A.ds,rfl,.inl ⟨_,.inl hs1⟩, ?_⟩
   refine⟨_,rfl,A.b,A.dx,_,rfl,hB.b,rfl,_,rfl,(ixT (v:=.int n) hp rfl ?_)⟩
   refine⟨A,S,n,r,rfl,hB,hl,λS' H' al hB' kq=> ?_⟩
   refine⟨(by show 1<=sizeLine;decide),λp1 hp1=> ?_⟩
   have hB2:=hB'.new hp1 (.tup [.str "number"])
   have s2:=A5 hp1 (.tup [.str "number"])
   obtain⟨ks',hs1',hs2',hs3'⟩:=hB2.s
   refine⟨_,DGet.k (k:=.inl r) hs1', ?_⟩
   have h3:=hs3' r
   rw[al.h]at h3
   cases e2:S.H r with
   |none=>
    rw[e2]at h3 q
    rw[show G0 ks' (.inl r)=none from h3]
    exact q S' _ _ al hB2 (kq.trans (.of s2)) ⟨p1,rfl,A3⟩
   |some s=>
    rw[e2]at h3 q
    obtain⟨u,e3,hu'⟩:=h3
    rw[e3]
    exact q S' _ _ al hB2 (kq.trans (.of s2)) hu'
  |_=>cases e
inductive spFreshW (C:Addr) (vs:List V) (H:Hp) (Q:VK):Prop
 |mk:∀(A:Ad) (S:St),(vs=[.ref A.b])->(BR C H A S)->(S.M+S.N+1<=5000)->(∀p H',BR C H' A S.fresh->Kq A H H'->H' p=some (.tup [.str "open",.int (S.N:Int)])->Q (.ref p) H')->spFreshW C vs H Q
def NF(C:Addr):Sp:=λvs H Q _=>spFreshW C vs H Q
theorem ok_fresh(F:Fun K "fresh" "Bonds.fresh" O2 (gf "fresh") (gd "fresh"))(RM:BCls K C gf gd):FnOk P w K mg base CX0 1 (gf "fresh") (gd "fresh") X2 (NF C):=by
 refine F.ok sc_fresh (λvs H Q E h=> ?_) (λcdv A outer s H vs Q E hr h=> ?_)
 ·obtain⟨A,S,rfl,_⟩:=h
  rfl
 obtain⟨A,S,rfl,hB,hsm,q⟩:=h
 have nd:=sc_fresh.nd
 have hu:=hr.units
 obtain⟨kl,hk1,hk2,hk3⟩:=hB.l
 obtain⟨ks,hs1,hs2,hs3⟩:=hB.s
 have nl:A.dl≠A.b:=λe=>by have:=hB.b;rw[<-e,hk1]at this;cases this
 have ns:A.ds≠A.b:=λe=>by have:=hB.b;rw[<-e,hs1]at this;cases this
 have hm:Mo H (upd H A.b (.ins C A.dx (P7 A ((S.N+1:Nat):Int) (S.M:Int)))):=hB.mo (.updO _ (NA A))
 have hB1:BR C (upd H A.b (.ins C A.dx (P7 A ((S.N+1:Nat):Int) (S.M:Int)))) A S.fresh:=by
  have:= @QI S
  refine⟨A3,⟨kl,B2 hk1 nl, ?_,hk3⟩,⟨ks,B2 hs1 ns,hs2,λn=>(hs3 n).mo hm⟩,hB.ne,hsm, ?_⟩
  ·show kl.length+fr S.fresh<=S.M+(S.N+1)
   omega
  ·exact⟨hB.wf.tot,hB.wf.top,λn m e=>⟨P4 (hB.wf.lr n m e).1,P4 (hB.wf.lr n m e).2⟩,λn s e=>⟨P4 (hB.wf.hr n s e).1,λq hq=>P4 ((hB.wf.hr n s e).2 q hq)⟩⟩
 refine⟨_,(A7 (GE (pv 0) A9 QZ)
   (A8 (B4 (B5 (A0 B9 (A0 (C6 BD (O1 (pv 0) rfl) A9) A4)))))), ?_⟩
 refine⟨_,rfl,A.b,C,A.dx,_,_,rfl,hB.b,RM.cl,RM.n1,l1,_,_,rfl,rfl,A.dx,_,hB.b,lf, ?_⟩
 rw[p1,show((S.N:Int)+1)=((S.N+1:Nat):Int) by omega]
 refine⟨_,rfl,A.b,C,A.dx,_,_,rfl,A3,RM.cl,RM.n1,l1,_,_,rfl,rfl,(by show 2<=sizeLine;decide),λp hp=> ?_⟩
 refine q p _ (hB1.new hp _) ((Kq.updO _ (NA A)).trans (.of (A5 hp _))) ?_
 rw[A3]
 simp
inductive spInitW (C:Addr) (vs:List V) (H:Hp) (Q:VK):Prop
 |mk:∀(x dx:Addr),(vs=[.ref x])->(H x=some (.ins C dx []))->(∀A H',A.b=x->(∀b ob,H b=some ob->b≠x->H' b=some ob)->(∀y∈A.own,y=x\/H y=none)->BR C H' A .nil->Q .non H')->spInitW C vs H Q
def RW(C:Addr):Sp:=λvs H Q _=>spInitW C vs H Q
theorem ok_init(F:Fun K "__init__" "Bonds.__init__" CU fi di)(RM:BCls K C gf gd):FnOk P w K mg base CX0 1 fi di X2 (RW C):=by
 refine F.ok sc_init (λvs H Q E h=> ?_) (λcdv A outer s H vs Q E hr h=> ?_)
 ·obtain⟨x,dx,rfl,_⟩:=h
  rfl
 obtain⟨x,dx,rfl,hx,q⟩:=h
 have nd:=sc_init.nd
 have hu:=hr.units
 refine⟨_,(A7 (ID (pv 0) A9 rfl)
   (A7 (ID (pv 0) A9 rfl)
   (A7 (ID (pv 0) BL rfl)
   (A8 (ID (pv 0) BL rfl))))), ?_⟩
 refine⟨_,rfl,x,C,dx,_,rfl,hx,RM.cl,RM.n1,(by decide), ?_⟩
 refine⟨_,rfl,x,C,dx,_,rfl,A3,RM.cl,RM.n2,(by show 1<1000;decide), ?_⟩
 rw[IE]
 refine λdl hdl=>⟨_,rfl,x,C,dx,_,rfl,A5 hdl _ _ _ A3,RM.cl,RM.n3,(by show 2<1000;decide), ?_⟩
 refine λds hds=>⟨_,rfl,x,C,dx,_,rfl,A5 hds _ _ _ A3,RM.cl,RM.n4,(by show 3<1000;decide), ?_⟩
 obtain⟨hdl,nlx⟩:=Q7 hdl
 obtain⟨hds1,nsx⟩:=Q7 hds
 obtain⟨hds2,nsl⟩:=Q7 hds1
 obtain⟨hds3,_⟩:=Q7 hds2
 refine q ⟨x,dx,dl,ds⟩ _ rfl (λb ob e n=> ?_) (λy hy=> ?_) ?_
 ·have n1:b≠dl:=B0 e hdl
  have n2:b≠ds:=B0 e hds3
  rw[B1 n,B1 n2,B1 n,B1 n1,B1 n];exact e
 ·simp only[Ad.own,mem_cons,not_mem_nil,or_false]at hy
  rcases hy with rfl|rfl|rfl
  ·exact .inl rfl
  ·exact .inr hdl
  ·exact .inr hds3
 ·refine⟨A3,⟨[], ?_,by show 0+fr St.nil<=0;decide,λ_=>rfl⟩,⟨[], ?_,le_refl _,λ_=>rfl⟩,Ne.symm nsl,by show 0<=5000;decide,PInv.nil.wf⟩
  ·show upd _ x _ dl=_
   rw[B1 nlx,B1 (Ne.symm nsl),B1 nlx];exact A3
  ·show upd _ x _ ds=_
   rw[B1 nsx];exact A3
end
abbrev D1:Stmt:=L1 (top 13) 4
abbrev C4:Stmt:=L1 (top 13) 10
abbrev D3:Stmt:=L1 (top 13) 11
abbrev G3:Stmt:=L1 (top 13) 6
abbrev AQ:List Str:=["self","kind","numbers"]
theorem sc_number_with:FnScope AQ UF (A6 D1):=fS
abbrev Y1:List Str:=["self","shape"]
theorem sc_shapes_within:FnScope Y1 UR (A6 C4):=fS
abbrev FU:List Str:=["self","kind","count","waiting"]
theorem sc_refuse_long:FnScope FU T0 (A6 D3):=fS
abbrev LQ:List Str:=["self","one","other","shape"]
theorem sc_tie_tops:FnScope LQ IF (A6 G3):=fS
def AY:Kn->List Int->Sh
 | .tru,_=> .tru
 | .lst _,[a]=> .lst a
 | .fn _ _,[a,b]=> .fn a b
 |_,_=> .num
theorem MI{k:Kn}{ns:List Int}(hk:k.isO=false)(h:ns.length=(kps k).length):kw (AY k ns).kn=kw k/\(AY k ns).ps=ns:=by
 cases k with
 |opn n=>cases hk
 |num=>cases ns<;>simp_all [kps,AY,kw,Sh.kn,Sh.ps]
 |tru=>cases ns<;>simp_all [kps,AY,kw,Sh.kn,Sh.ps]
 |lst a=>
  match ns,h with
  | [x],_=>exact⟨rfl,rfl⟩
 |fn a b=>
  match ns,h with
  | [x,y],_=>exact⟨rfl,rfl⟩
theorem Kq.free{C:Addr}{A:Ad}{S:St}{H H':Hp}(k:Kq A H H')(h:BR C H' A S){b:Addr}(e:H' b=none):H b=none:=by
 cases e2:H b with
 |none=>rfl
 |some ob=>
  by_cases hb:b∈A.own
  ·exact absurd hb (h.nnew e)
  ·rw[k _ _ e2 hb]at e;cases e
theorem shK.alk{S S':St}(a:Alk S S'){k k':Kn}(h:shK S k k'):shK S' k k':=by
 cases k with
 |opn n=>obtain⟨r,hl,e⟩:=h;exact⟨r,a.l _ _ hl,by rw[a.h];exact e⟩
 |_=>exact h
section
variable{P:Program}{w:World}{K:FZ}{mg:Str->Option Value}{base:Heap}{C cN:Addr}{gf:Str->Addr}{gd:Str->FuncData}{M9 E3 Y6:Addr}{N0 E4 Y3:FuncData}{tw:Tok}
inductive spNumWW(C:Addr)(vs:List V)(H:Hp)(Q:VK):Prop
 |mk:∀(A:Ad) (S:St) (k:Kn) (v:V) (l:Addr) (ns:List Int),(vs=[.ref A.b,v,.ref l])->(BR C H A S)->(KnAt H k v)->(H l=some (.lst (ns.map V.int)))->(ns.length=(kps k).length)->((∀n∈ns,S.Rg n))->(S.M+S.N+1<=5000)->((∀n,k=.opn n->Q (.int n) H))->((k.isO=false->∀H',Kq A H H'->BR C H' A (S.new (AY k ns))->Q (.int (-(S.M+1:Int))) H'))->spNumWW C vs H Q
def RD(C:Addr):Sp:=λvs H Q _=>spNumWW C vs H Q
theorem ok_number_with(F:Fun K "number_with" "Bonds.number_with" D1 (gf "number_with") (gd "number_with"))(B:NoG mg)(RM:BCls K C gf gd)
  (G6:Cn P w K mg base CX0 1 "is_open" Y9 IR):
  FnOk P w K mg base CX0 2 (gf "number_with") (gd "number_with") UF (RD C):=by
 obtain⟨M9,N0,G6,U3,U4,U6⟩:=G6
 refine F.ok sc_number_with (λvs H Q E h=> ?_) (λcdv A outer s H vs Q E hr h=> ?_)
 ·obtain⟨A,S,k,v,l,ns,rfl,_⟩:=h
  rfl
 obtain⟨A,S,k,v,l,ns,rfl,hB,hk,hl,hns,hrg,hsm,q1,q2⟩:=h
 have nd:=sc_number_with.nd
 have hu:=hr.units
 have z1:(1:Nat)<=sizeLine:=by decide
 have z2:(2:Nat)<=sizeLine:=by decide
 have z5:(5000:Nat)<sizeLine:=by decide
 obtain⟨p,us,rfl,hp,hR⟩:=hk.tup
 refine⟨_,(A7 (D6 (E1 (K:=K) (B6 G6 (hr.mono (by omega)) rfl U6 U4 U3 .nil C1 (A0 (pv 1) A4)) (λ_=>rfl)) (A8 (B4 (ixE K w (pv 1) A9))) C2)
   (A7 (GE (pv 0) A9 QZ)
   (A7 (BG (C6 (P3 (K:=K)) (B5 (A0 (ixE K w (pv 1) A9) A4)) (V3 (DO (K:=K)) rfl B.tuple_ V0 (A0 (X6 (cS (N:=AQ) (sc:=A6 D1) (caps:=[]) (ns:=[])) rfl rfl rfl (AF (K:=K) (pv 2)) (λ_ _ _ _ _=>L9) (λ_ _ _ _ _=>(B5 (A0 B9 (A0 (pv 0) A4))))) A4))) (BC (O1 (pv 0) rfl) (VH QD (O1 (pv 0) rfl)) (Q9 hr.units)))
   (A8 (B4 (VH QD (O1 (pv 0) rfl))))))), ?_⟩
 refine⟨_,rfl,k,_,rfl,hk,_,rfl, ?_⟩
 cases e:k.isO with
 |true=>
  cases k with
  |opn n=>
   cases(hR:us=[.int n])
   refine ifT rfl ⟨_,rfl,(ixT (v:=.int n) hp rfl (q1 n rfl))⟩
  |_=>cases e
 |false=>
  refine ifF (by simp) ?_
  obtain⟨kl,hk1,hk2,hk3⟩:=hB.l
  obtain⟨ks,hs1,hs2,hs3⟩:=hB.s
  have nl:A.dl≠A.b:=λe=>by have:=hB.b;rw[<-e,hk1]at this;cases this
  have ns':A.ds≠A.b:=λe=>by have:=hB.b;rw[<-e,hs1]at this;cases this
  refine⟨_,rfl,A.b,C,A.dx,_,_,rfl,hB.b,RM.cl,RM.n2,l2,_,_,rfl,rfl,A.dx,_,hB.b,lf, ?_⟩
  rw[p2,show((S.M:Int)+1)=((S.M+1:Nat):Int) by omega]
  have k0:Kq A H (upd H A.b (.ins C A.dx (P7 A (S.N:Int) ((S.M+1:Nat):Int)))):=.updO _ (NA A)
  have hb0:upd H A.b (.ins C A.dx (P7 A (S.N:Int) ((S.M+1:Nat):Int))) A.b=some (.ins C A.dx (P7 A (S.N:Int) ((S.M+1:Nat):Int))):=A3
  have hl0:upd H A.b (.ins C A.dx (P7 A (S.N:Int) ((S.M+1:Nat):Int))) A.dl=some (.dK kl):=B2 hk1 nl
  have hs0:upd H A.b (.ins C A.dx (P7 A (S.N:Int) ((S.M+1:Nat):Int))) A.ds=some (.dK ks):=B2 hs1 ns'
  have m0:=hB.mo k0
  have hp0:=m0 _ _ hp
  have hl':=k0 _ _ hl (hB.nlst hl)
  show GD _ _ _ _ (upd H A.b (.ins C A.dx (P7 A (S.N:Int) ((S.M+1:Nat):Int))))
  generalize upd H A.b (.ins C A.dx (P7 A (S.N:Int) ((S.M+1:Nat):Int)))=H0 at k0 hb0 hl0 hs0 m0 hp0 hl'⊢
  refine⟨_,rfl,(ixT (v:=.str (kw k)) hp0 (L3 (j:=0) rfl) ⟨z1,λp1 hp1=> ?_⟩)⟩
  have s1:=A5 hp1 (.tup [.str (kw k)])
  have hns2:ns.length<=2:=by rw[hns];exact X4 k
  refine⟨_,rfl,l,rfl,⟨_,SqL.of (s1 _ _ hl')⟩,V6 (xs:=ns.map V.int) (λi ys H2=>Same (upd H0 p1 (.tup [.str (kw k)])) H2/\All2 (KnAt H2) ((ns.take i).map Kn.opn) ys) ?_ ?_ ?_ ?_⟩
  ·exact⟨Same.refl _,.nil⟩
  ·rintro i ys H2 hi ⟨s2,hy⟩
   have:=hy.len
   rw[length_map,length_take]at this
   exact⟨SqL.of (s2 _ _ (s1 _ _ hl')),by omega⟩
  ·rintro i x ys H2 hx ⟨s2,hy⟩
   refine Q6 ?_
   rw[getElem?_map]at hx
   obtain⟨z,hz,rfl⟩:=map_eq_some_iff.mp hx
   refine⟨_,rfl,z2,λp2 hp2=> ?_⟩
   have s3:=A5 hp2 (.tup [.str "open",.int z])
   refine⟨s2.trans s3, ?_⟩
   rw[J9 hz,map_append]
   exact(hy.imp λ_ _ h=>h.mo (.of s3)).app (.cons ⟨p2,rfl,A3⟩ .nil)
  ·rintro ys H2 ⟨s2,hy⟩ lq hlq
   rw[length_map,take_length]at hy
   have s3:=A5 hlq (.lst ys)
   refine⟨lq,ys,rfl,.inl ⟨SqL.of A3,λp3 hp3=> ?_⟩⟩
   have s4:=A5 hp3 (.tup ys)
   have hyl:=hy.len
   rw[length_map]at hyl
   have s14:=((s1.trans s2).trans s3).trans s4
   refine .inr (.inr (DM (((s2.trans s3).trans s4) _ _ A3) A3 (by simp;omega) λr H' s5 h5=> ?_))
   have s15:=s14.trans s5
   have k1:Kq A H H':=k0.trans (.of s15)
   refine⟨_,rfl,A.b,C,A.dx,_,_,rfl,s15 _ _ hb0,RM.cl,RM.n4,l4,_,rfl,A.b,C,A.dx,_,_,rfl,s15 _ _ hb0,RM.cl,RM.n2,l2,_,rfl, ?_⟩
   refine⟨A.ds,_,rfl,DPut.k (k:=.inl (-((S.M+1:Nat):Int))) (s15 _ _ hs0) (by have:=hB.sm;omega), ?_⟩
   obtain⟨e1,e2⟩:=MI e hns
   have k2:Kq A H' (upd H' A.ds (.dK (D5 ks (.inl (-((S.M+1:Nat):Int))) (.ref r)))):=.updO _ (MQ A)
   have hb2:upd H' A.ds (.dK (D5 ks (.inl (-((S.M+1:Nat):Int))) (.ref r))) A.b=some (.ins C A.dx (P7 A (S.N:Int) ((S.M+1:Nat):Int))):=B2 (s15 _ _ hb0) (Ne.symm ns')
   have mo2:Mo H' (upd H' A.ds (.dK (D5 ks (.inl (-((S.M+1:Nat):Int))) (.ref r)))):=λb xs eb=>B2 eb λz=>by rw[z,s15 _ _ hs0]at eb;cases eb
   have hB2:BR C (upd H' A.ds (.dK (D5 ks (.inl (-((S.M+1:Nat):Int))) (.ref r)))) A (S.new (AY k ns)):=by
    have hfr:= @YA S (AY k ns)
    refine⟨hb2,⟨kl,B2 (s15 _ _ hl0) hB.ne, ?_,hk3⟩,⟨_,A3, ?_,λn=> ?_⟩,hB.ne, ?_,QB hB.wf (by rw[e2];exact hrg)⟩
    ·show kl.length+fr (S.new (AY k ns))<=S.M+1+S.N
     omega
    ·show _<=S.M+1
     exact le_trans AA (by omega)
    ·rw[Y8]
     show ShO _ (up S.H (-(S.M+1:Int)) (some (AY k ns)) n) _
     by_cases hn:n= -(S.M+1:Int)
     ·subst hn
      rw[J0,if_pos (by congr 1)]
      refine⟨_,rfl,KnAt.of (us:=ys) (mo2 _ _ ?_) ?_⟩
      ·rw[e1];exact h5
      ·have hyy:All2 (KnAt (upd H' A.ds (.dK (D5 ks (.inl (-((S.M+1:Nat):Int))) (.ref r))))) (kps (AY k ns).kn) ys:=by
        rw[LY,e2]
        exact hy.imp λ_ _ h=>h.mo ((Mo.of ((s3.trans s4).trans s5)).trans mo2)
       cases hsh:AY k ns<;>rw[hsh]at hyy<;>exact hyy
     ·rw[C8 hn,if_neg (λz=>hn (by have:=Sum.inl.inj z;omega))]
      exact((hs3 n).mo (m0.trans (.of s15))).mo mo2
    ·show S.M+1+S.N<=5000
     omega
   refine⟨_,rfl,A.b,C,A.dx,_,_,rfl,hb2,RM.cl,RM.n2,l2,_,rfl, ?_⟩
   have:=q2 e _ (k1.trans k2) hB2
   rw[show(-(S.M+1:Int))= -((S.M+1:Nat):Int) by omega]at this
   exact this
inductive spShapesW (C:Addr) (vs:List V) (H:Hp) (Q:VK):Prop
 |mk:∀(A:Ad) (S:St) (k:Kn) (v:V) (ks:List Kn),(vs=[.ref A.b,v])->(BR C H A S)->(KnAt H k v)->(k.isO=false)->(All2 (shK S) (kps k) ks)->(∀l us S' H',Alk S S'->BR C H' A S'->Kq A H H'->H l=none->H' l=some (.lst us)->All2 (KnAt H') ks us->Q (.ref l) H')->spShapesW C vs H Q
def JL(C:Addr):Sp:=λvs H Q _=>spShapesW C vs H Q
theorem ok_shapes_within(F:Fun K "shapes_within" "Bonds.shapes_within" C4 (gf "shapes_within") (gd "shapes_within"))(RM:BCls K C gf gd)
  (L4:FnOk P w K mg base CX0 2 (gf "shape_of") (gd "shape_of") T0 (BS C))
  (B7:Cn P w K mg base CX0 1 "kind_parts" Y9 AL):
  FnOk P w K mg base CX0 3 (gf "shapes_within") (gd "shapes_within") UR (JL C):=by
 obtain⟨E3,E4,B7,D7,D8,D9⟩:=B7
 refine F.ok sc_shapes_within (λvs H Q E h=> ?_) (λcdv A outer s H vs Q E hr h=> ?_)
 ·obtain⟨A,S,k,v,ks,rfl,_⟩:=h
  rfl
 obtain⟨A,S,k,v,ks,rfl,hB,hk,hO,hsh,q⟩:=h
 have nd:=sc_shapes_within.nd
 have hu:=hr.units
 refine⟨_,(A8 (B4 (X6 (cS (N:=Y1) (sc:=A6 C4) (caps:=[0]) (ns:=X2)) rfl rfl rfl (AF (K:=K) (B6 B7 (hr.mono (by omega)) rfl D9 D8 D7 .nil C1 (A0 (pv 1) A4))) (λ_ _ _ _ _=>L9) (λ_ _ _ _ _=>(E5 (pv 1) RM.cl RM.m_shape_of L4 (hr.mono (by omega)) RM.b_shape_of .nil C1 (A0 (pv 0) A4)))))), ?_⟩
 refine⟨_,rfl,k,v,rfl,hk,λl us H1 s1 hl0 hl hR=> ?_⟩
 have hU:=hR.parts hO
 have hlen:=hU.len
 have hlk:=hsh.len
 have hk2:=X4 k
 have z2:(2:Nat)<=sizeLine:=by decide
 refine⟨l,rfl,⟨_,SqL.of hl⟩,V6 (xs:=us) (λi ys H2=>∃S',Alk S S'/\BR C H2 A S'/\Kq A H1 H2/\All2 (KnAt H2) (ks.take i) ys) ?_ ?_ ?_ ?_⟩
 ·exact⟨S,.rfl,hB.same s1,.refl,.nil⟩
 ·rintro i ys H2 hi ⟨S',al,hB',kq,hy⟩
  have:=hy.len
  rw[length_take]at this
  exact⟨SqL.of (kq _ _ hl ((hB.same s1).nlst hl)),by omega⟩
 ·rintro i x ys H2 hx ⟨S',al,hB',kq,hy⟩
  refine Q6 ?_
  obtain⟨k1,hk1,hx1⟩:=hU.get hx
  obtain⟨k2,hk2',hs2⟩:=hsh.get' hk1
  have hs2':shK S' k1 k2:=hs2.alk al
  refine⟨_,rfl,A.b,A.dx,_,rfl,hB'.b,rfl,_,rfl,A,S',k1,k2,x,rfl,hB',hx1.mo ((hB.same s1).mo kq),hs2',λS2 H3 u al2 hB2 kq2 hu2=> ?_⟩
  refine⟨S2,al.trans al2,hB2,kq.trans kq2, ?_⟩
  rw[J9 hk2']
  exact(hy.imp λ_ _ h=>h.mo (hB'.mo kq2)).app (.cons hu2 .nil)
 ·rintro ys H2 ⟨S',al,hB',kq,hy⟩ l2 hl2
  have s3:=A5 hl2 (.lst ys)
  have:us.length=ks.length:=by omega
  rw[this,take_length]at hy
  refine q l2 ys S' _ al (hB'.same s3) ((Kq.of s1).trans (kq.trans (.of s3))) ?_ A3 (hy.imp λ_ _ h=>h.mo (.of s3))
  exact(Kq.of s1|>.trans kq).free hB' hl2
end
theorem CI{S:St}(w:Wf S)(a:Acy S){k k':Kn}(h:shK S k k'):ev (wv S) k'=ev (wv S) k/\k'.isO=false:=by
 cases k with
 |opn n=>
  obtain⟨r,hl,e⟩:=h
  have hs:=OZ w a
  cases er:S.H r with
  |none=>
   rw[er]at e;subst e
   exact⟨(JD a (.op hl er)).symm,rfl⟩
  |some s=>
   rw[er]at e;subst e
   refine⟨?_,IM s⟩
   show _=wv S n
   rw[hs.1 _ _ hl,hs.2 _ _ er,XR]
 |num=>cases(h:k'=_);exact⟨rfl,rfl⟩
 |tru=>cases(h:k'=_);exact⟨rfl,rfl⟩
 |lst a=>cases(h:k'=_);exact⟨rfl,rfl⟩
 |fn a b=>cases(h:k'=_);exact⟨rfl,rfl⟩
theorem YG{S:St}(w:Wf S)(k:Kn):∃k',shK S k k':=by
 cases k with
 |opn n=>obtain⟨r,h⟩:=w.tot n;exact⟨_,r,h,rfl⟩
 |_=>exact⟨_,rfl⟩
theorem VN{v:Int->G}{k:Kn}(h:k.isO=false):gw (ev v k)=1+((kps k).map λp=>gw (ev v p)).sum:=by
 cases k with
 |opn n=>cases h
 |_=>simp[ev,gw,kps]
theorem BR.join{C:Addr}{H H':Hp}{A:Ad}{S:St}{a b:Int}{kl ks':List (Key×V)}(hB:BR C H A S)(ha:S.L a=none)(hb:S.L b=none)(hab:a≠b)(ra:S.Rg a)(rb:S.Rg b)
  (hk2:kl.length+fr S<=S.M+S.N)(hk3:∀k,G0 kl (.inl k)=(S.L k).map V.int)(b':H' A.b=some (.ins C A.dx (P7 A (S.N:Int) (S.M:Int))))(l':H' A.dl=some (.dK (D5 kl (.inl a) (.int b))))
  (s':H' A.ds=some (.dK ks'))(sl:ks'.length<=S.M)(sh:∀k,ShO H' ((S.join a b).H k) (G0 ks' (.inl k))):BR C H' A (S.join a b):=by
 have hfr:=HZ (b:=b) ha ra
 have:= @AA kl (.inl a) (.int b)
 refine⟨b',⟨_,l', ?_,λk=>KC hk3 a b k⟩,⟨_,s',sl,sh⟩,hB.ne,hB.sm,MS hB.wf ha hb hab ra rb⟩
 show _<=S.M+S.N
 omega
section
variable{P:Program}{w:World}{K:FZ}{mg:Str->Option Value}{base:Heap}{C cN:Addr}{gf:Str->Addr}{gd:Str->FuncData}{M9 E3 Y6:Addr}{N0 E4 Y3:FuncData}{tw:Tok}
inductive spLongW(C cN:Addr)(vs:List V)(H:Hp)(Q:VK)(E:XK):Prop
 |mk:∀(A:Ad) (S:St) (k:Kn) (v:V),(vs=[.ref A.b,v])->(BR C H A S)->(Acy S)->(KnAt H k v)->((gw (ev (wv S) k)<=60->∀S' H',Alk S S'->BR C H' A S'->Kq A H H'->Q .non H'))->((60<gw (ev (wv S) k)->∀S' H',Alk S S'->BR C H' A S'->Kq A H H'->E (.ref cN) none H'))->spLongW C cN vs H Q E
def RO(C cN:Addr):Sp:=λvs H Q E=>spLongW C cN vs H Q E
theorem ok_refuse_long(F:Fun K "refuse_long" "Bonds.refuse_long" D3 (gf "refuse_long") (gd "refuse_long"))(RM:BCls K C gf gd)(X_BadKind:XCls K mg "BadKind" cN)(m_MOST_WORDS:mg "MOST_WORDS"=some (.int 60 tw))
  (L4:FnOk P w K mg base CX0 2 (gf "shape_of") (gd "shape_of") T0 (BS C))
  (B7:Cn P w K mg base CX0 1 "kind_parts" Y9 AL):
  FnOk P w K mg base (CXr P w) 3 (gf "refuse_long") (gd "refuse_long") T0 (RO C cN):=by
 obtain⟨E3,E4,B7,D7,D8,D9⟩:=B7
 refine F.okX sc_refuse_long (λvs H Q E h=> ?_) (λcdv A outer s H vs Q E hr h=> ?_)
 ·obtain⟨A,S,k,v,rfl,_⟩:=h
  rfl
 obtain⟨A,S,k,v,rfl,hB,ha,hk,q1,q2⟩:=h
 have nd:=sc_refuse_long.nd
 have hu:=hr.units0
 have z1:(1:Nat)<=sizeLine:=by decide
 have z5:(5000:Nat)<sizeLine:=by decide
 refine⟨_,(A7 (C7 (i:=2) nd rfl (Or.inl rfl) A9)
   (A7 (C7 (i:=3) nd rfl (Or.inl rfl) (P6 (A0 (pv 1) A4)))
   (A8 (G9 (Z5 PassesOwn.leaving (E1 (K:=K) (pv 3) (λ_=>rfl)) (A7 (WH (i:=2) nd rfl (Or.inl rfl) A9 WL)
   (A7 (D6 (C5 VL (pv 2) (T1 (v:=.int 60) rfl m_MOST_WORDS ⟨_,rfl⟩) rfl) (A8 (EW PySem.F.excBase_ValueError (by decide) X_BadKind.q rfl X_BadKind.m (A0 (SZ (IL (PC (by decide)) (IL (WD (T1 (v:=.int 60) rfl m_MOST_WORDS ⟨_,rfl⟩)) (IL (PC (by decide)) WN)))) A4))) C2)
   (A8 (O3 (JM (K:=K) PySem.F.plainAttrs_list PySem.F.slot_list_extend PySem.F.type_list_extend AK (pv 3) (A0 (B6 B7 (hr.mono (by omega)) rfl D9 D8 D7 .nil C1 (A0 (E5 (pv 0) RM.cl RM.m_shape_of L4 (hr.mono (by omega)) RM.b_shape_of .nil C1 (A0 (GM (K:=K) PySem.F.plainAttrs_list PySem.F.slot_list_pop PySem.F.type_list_pop CN (pv 3)) A4)) A4)) A4))))))))))), ?_⟩
 refine⟨_,rfl,z1,λwl hwl=> ?_⟩
 have s0:=A5 hwl (.lst [v])
 refine⟨λ_ H'=>Q .non H', ?_,λ_ _ h=>h⟩
 refine⟨λm σ H'=>∃(c:Nat) (W:List Kn) (ws:List V) (S':St),σ=[some (.ref A.b),some v,some (.int (c:Nat)),some (.ref wl)]/\Alk S S'/\BR C H' A S'/\Kq A H H'/\H' wl=some (.lst ws)/\All2 (KnAt H') W ws/\c<=60/\W.length<=c+1/\m=(W.map λp=>gw (ev (wv S) p)).sum/\c+m=gw (ev (wv S) k),
  ⟨gw (ev (wv S) k),0,[k],[v],S,rfl,.rfl,hB.same s0,.of s0,A3,.cons (hk.mo (.of s0)) .nil,by omega,by simp,by simp,by simp⟩, ?_⟩
 rintro m σ H' ⟨c,W,ws,S',rfl,al,hB',kq,hw,hW,hc,hWc,rfl,hsum⟩
 refine⟨_,rfl, !ws.isEmpty,.inl ⟨ws,SqL.of hw,rfl⟩, ?_⟩
 have hWl:=hW.len
 rcases List.eq_nil_or_concat W with rfl|⟨W0,k0,rfl⟩
 ·have:ws=[]:=List.length_eq_zero_iff.mp (by simpa using hWl.symm)
  subst this
  refine ifF (by simp) ?_
  simp only[map_nil,List.sum_nil]at hsum
  exact q1 (by omega) S' H' al hB' kq
 ·rw[List.concat_eq_append]at*
  obtain⟨w0,w1,rfl,h0,h1⟩:=hW.split
  cases h1 with
  | @cons _ u _ _ hu1 h2=>
   cases h2
   refine ifT (by simp) ⟨_,λ_ _ h=>h, ?_⟩
   refine⟨_,rfl,_,_,rfl,rfl, ?_⟩
   rw[map_append,sum_append]at hsum
   simp only[map_cons,map_nil,sum_cons,List.sum_nil,Nat.add_zero]at hsum
   have hpos:=FF (ev (wv S) k0)
   refine⟨_,rfl,_,_,rfl,rfl,_,rfl, ?_⟩
   by_cases h60:60<c+1
   ·refine ifT (by simp;omega) ?_
    exact⟨_,rfl,by decide,by decide,λz hz=>⟨z1,q2 (by omega) S' H' al hB' kq⟩⟩
   ·refine ifF (by simp;omega) ?_
    refine⟨_,rfl,.inl ⟨rfl,_,SqL.of hw⟩,_,rfl,A.b,A.dx,_,rfl,hB'.b,rfl,_,rfl,.inl ⟨rfl,_,SqL.of hw⟩,wl,_,u,rfl,rfl,hw,by simp, ?_⟩
    rw[List.dropLast_concat]
    have nwl:=hB'.nlst hw
    have hB1:=hB'.updL hw (.lst w0)
    have k1:Kq A H (upd H' wl (.lst w0)):=λb ob e n=>B2 (kq _ _ e n) (B0 e hwl)
    have m1:Mo H' (upd H' wl (.lst w0)):=λb xs e=>B2 e λz=>by rw[z,hw]at e;cases e
    have hw1:upd H' wl (.lst w0) wl=some (.lst w0):=A3
    generalize upd H' wl (.lst w0)=H1 at hB1 k1 m1 hw1⊢
    obtain⟨k0',hsh⟩:=YG hB1.wf k0
    refine⟨A,S',k0,k0',u,rfl,hB1,hu1.mo m1,hsh,λS2 H2 u2 al2 hB2 kq2 hu2=> ?_⟩
    refine⟨k0',u2,rfl,hu2,λl us H3 s3 hl0 hl hR=> ?_⟩
    have al':=al.trans al2
    have aS':=al.acy hB.wf ha
    obtain⟨ee,eO⟩:=CI hB1.wf aS' hsh
    rw[al.wv hB.wf ha]at ee
    have hU:=hR.parts eO
    have hUl:=hU.len
    have hk2:=X4 k0'
    have hB3:=hB2.same s3
    have hw2:=kq2 _ _ hw1 (hB1.nlst hw1)
    have hw3:=s3 _ _ hw2
    have hw0:=h0.len
    rw[length_append,length_singleton]at hWc
    refine⟨wl,l,w0,us,rfl,rfl,hw3,hl,by omega, ?_⟩
    have nlw:l≠wl:=λe=>by rw[e,hw2]at hl0;cases hl0
    have m4:Mo H3 (upd H3 wl (.lst (w0++us))):=λb xs e=>B2 e λz=>by rw[z,hw3]at e;cases e
    have g4:=VN (v:=wv S) eO
    refine⟨_, ?_,c+1,W0++kps k0',w0++us,S2,rfl,al',hB3.updL hw3 _,λb ob e n=>B2 (s3 _ _ (kq2 _ _ (k1 _ _ e n) n)) (B0 e hwl),A3, ?_,by omega,by rw[length_append];omega,rfl, ?_⟩
    ·rw[map_append,sum_append,map_append,sum_append]
     simp only[map_cons,map_nil,sum_cons,List.sum_nil,Nat.add_zero]
     rw[ee]at g4
     omega
    ·exact(h0.imp λ_ _ h=>((h.mo m1).mo (hB1.mo kq2)).mo ((Mo.of s3).trans m4)).app (hU.imp λ_ _ h=>h.mo m4)
    ·rw[map_append,sum_append]
     rw[ee]at g4
     omega
inductive spTopsW (C cN:Addr) (vs:List V) (H:Hp) (Q:VK) (E:XK):Prop
 |mk:∀(A:Ad) (S:St) (a b:Int),(vs=[.ref A.b,.int a,.int b])->(BR C H A S)->(S.L a=none)->(S.L b=none)->(S.Rg a)->(S.Rg b)->((a=b->∀l H',Same H H'->H l=none->H' l=some (.lst [])->Q (.ref l) H'))->((a≠b->¬BY S a b->∀l us H',Kq A H H'->BR C H' A (S.join a b)->H l=none->H' l=some (.lst us)->All2 (λx y=>∃p,y=.ref p/\H' p=some (.tup [.int x.1,.int x.2])) (J3 S a b) us->Q (.ref l) H'))->((a≠b->BY S a b->∀H',Kq A H H'->E (.ref cN) none H'))->spTopsW C cN vs H Q E
def OX(C cN:Addr):Sp:=λvs H Q E=>spTopsW C cN vs H Q E
theorem ok_tie_tops(F:Fun K "tie_tops" "Bonds.tie_tops" G3 (gf "tie_tops") (gd "tie_tops"))(RM:BCls K C gf gd)
  (Q3:Cn P w K mg base (CXr P w) 2 "pairs_within" XJ (NH cN)):
  FnOk P w K mg base (CXr P w) 3 (gf "tie_tops") (gd "tie_tops") IF (OX C cN):=by
 obtain⟨Y6,Y3,Q3,DX,DW,DY⟩:=Q3
 refine F.okX sc_tie_tops (λvs H Q E h=> ?_) (λcdv A outer s H vs Q E hr h=> ?_)
 ·obtain⟨A,S,a,b,rfl,_⟩:=h
  rfl
 obtain⟨A,S,a,b,rfl,hB,ha,hb,ra,rb,q1,q2,q3⟩:=h
 have nd:=sc_tie_tops.nd
 have hu:=hr.units0
 have z5:(5000:Nat)<sizeLine:=by decide
 have z0:(0:Nat)<=sizeLine:=by decide
 have hsm:=hB.sm
 obtain⟨kl,hk1,hk2,hk3⟩:=hB.l
 obtain⟨ks,hs1,hs2,hs3⟩:=hB.s
 have nl:A.dl≠A.b:=λe=>by have:=hB.b;rw[<-e,hk1]at this;cases this
 have ns:A.ds≠A.b:=λe=>by have:=hB.b;rw[<-e,hs1]at this;cases this
 refine⟨_,(A7 (D6 (C5 (kEq (K:=K) hu) (pv 1) (pv 2) rfl) (A8 (B4 (P6 A4))) C2)
   (A7 (C7 (i:=3) nd rfl (Or.inl rfl) (SE (O1 (pv 0) rfl) (pv 1) IA ⟨rfl,rfl,rfl,rfl⟩))
   (A7 (BG (pv 2) (BC (O1 (pv 0) rfl) (pv 1) (Q9 hr.units)))
   (A7 (D6 (C5 YC (pv 3) IA rfl) (A8 (B4 (P6 A4))) C2)
   (A7 (D6 (C5 (MM hr.units) (pv 2) (O1 (pv 0) rfl) rfl) (A7 (BG (pv 3) (BC (O1 (pv 0) rfl) (pv 2) (Q9 hr.units)))
   (A8 (B4 (P6 A4)))) C2)
   (A8 (B4 (B6 Q3 (hr.mono (by omega)) rfl DY DW DX .nil BQ (A0 (pv 3) (A0 (HW (lt_of_le_of_lt (add_le_add_left (by decide:1<=64) _) hr.units) (O1 (pv 0) rfl) (pv 2) (λ_ _=>rfl)) A4)))))))))), ?_⟩
 refine⟨_,rfl,_,rfl,.inl ⟨rfl,_,rfl, ?_⟩⟩
 by_cases hab:a=b
 ·subst hab
  exact ifT (by simp) ⟨z0,λl hl=>q1 rfl l _ (A5 hl _) hl A3⟩
 refine ifF (by simpa using hab) ?_
 refine⟨_,rfl,A.b,C,A.dx,_,_,rfl,hB.b,RM.cl,RM.n4,l4,A.ds,rfl,.inl ⟨_,.inl hs1⟩,_,rfl,ks,.inl a,hs1,rfl, ?_, ?_⟩
 ·intro v hv
  have hsa:=hs3 a
  rw[hv]at hsa
  obtain⟨sa,ea⟩:∃sa,S.H a=some sa:=by
   cases e:S.H a with
   |none=>rw[e]at hsa;cases hsa
   |some s=>exact⟨s,rfl⟩
  rw[ea]at hsa
  obtain⟨v',ev',hsa⟩:=hsa
  cases ev'
  have k1:Kq A H (upd H A.ds (.dK (J5 ks (.inl a)))):=.updO _ (MQ A)
  have m1:=hB.mo k1
  have hb1:upd H A.ds (.dK (J5 ks (.inl a))) A.b=some (.ins C A.dx (P7 A (S.N:Int) (S.M:Int))):=B2 hB.b (Ne.symm ns)
  have hl1:upd H A.ds (.dK (J5 ks (.inl a))) A.dl=some (.dK kl):=B2 hk1 hB.ne
  have hs1':upd H A.ds (.dK (J5 ks (.inl a))) A.ds=some (.dK (J5 ks (.inl a))):=A3
  show GD _ _ _ [some (.ref A.b),some (.int a),some (.int b),some v] (upd H A.ds (.dK (J5 ks (.inl a))))
  generalize upd H A.ds (.dK (J5 ks (.inl a)))=H1 at k1 m1 hb1 hl1 hs1'⊢
  refine⟨_,rfl,_,rfl,A.b,C,A.dx,_,_,rfl,hb1,RM.cl,RM.n3,l3,_,rfl,A.dl,_,rfl,DPut.k (k:=.inl a) hl1 (by omega), ?_⟩
  have k2:Kq A H1 (upd H1 A.dl (.dK (D5 kl (.inl a) (.int b)))):=.updO _ (IW A)
  have m2:Mo H1 (upd H1 A.dl (.dK (D5 kl (.inl a) (.int b)))):=λx xs e=>B2 e λz=>by rw[z,hl1]at e;cases e
  have hb2:upd H1 A.dl (.dK (D5 kl (.inl a) (.int b))) A.b=some (.ins C A.dx (P7 A (S.N:Int) (S.M:Int))):=B2 hb1 (Ne.symm nl)
  have hl2:upd H1 A.dl (.dK (D5 kl (.inl a) (.int b))) A.dl=some (.dK (D5 kl (.inl a) (.int b))):=A3
  have hs2':upd H1 A.dl (.dK (D5 kl (.inl a) (.int b))) A.ds=some (.dK (J5 ks (.inl a))):=B2 hs1' (Ne.symm hB.ne)
  show GD _ _ _ [some (.ref A.b),some (.int a),some (.int b),some v] (upd H1 A.dl (.dK (D5 kl (.inl a) (.int b))))
  generalize upd H1 A.dl (.dK (D5 kl (.inl a) (.int b)))=H2 at k2 m2 hb2 hl2 hs2'⊢
  have k12:=k1.trans k2
  have m12:=m1.trans m2
  have hdl:=QH (kvs:=ks) (k:=.inl a) (by rw[hv];rfl)
  have hfr:=HZ (b:=b) ha ra
  have hpl:(D5 kl (.inl a) (V.int b)).length+fr (S.join a b)<=S.M+S.N:=by have:= @AA kl (.inl a) (.int b);omega
  obtain⟨pv',us',ev2,hpv,hRv⟩:=hsa.tup
  subst ev2
  refine⟨_,rfl,rfl,_,rfl,ifF (by simp) ?_⟩
  refine⟨_,rfl,_,rfl,A.b,C,A.dx,_,_,rfl,hb2,RM.cl,RM.n4,l4,A.ds,_,rfl,DGet.k (k:=.inl b) hs2',_,rfl, ?_⟩
  have hvb:G0 (J5 ks (.inl a)) (.inl b)=G0 ks (.inl b):=by rw[BB,if_neg (λz=>hab (Sum.inl.inj z).symm)]
  rw[hvb]
  have hsb:=hs3 b
  cases eb:S.H b with
  |none=>
   rw[eb]at hsb
   rw[show G0 ks (.inl b)=none from hsb]
   refine ifT rfl ?_
   refine⟨_,rfl,_,rfl,A.b,C,A.dx,_,_,rfl,hb2,RM.cl,RM.n4,l4,_,rfl,A.ds,_,rfl,DPut.k (k:=.inl b) hs2' (by omega),z0,λl hl=> ?_⟩
   have hb3:upd H2 A.ds (.dK (D5 (J5 ks (.inl a)) (.inl b) (.ref pv'))) A.b=some (.ins C A.dx (P7 A (S.N:Int) (S.M:Int))):=B2 hb2 (Ne.symm ns)
   have hl3:upd H2 A.ds (.dK (D5 (J5 ks (.inl a)) (.inl b) (.ref pv'))) A.dl=some (.dK (D5 kl (.inl a) (.int b))):=B2 hl2 hB.ne
   have m3:Mo H2 (upd H2 A.ds (.dK (D5 (J5 ks (.inl a)) (.inl b) (.ref pv')))):=λx xs e=>B2 e λz=>by rw[z,hs2']at e;cases e
   have m13:=m12.trans m3
   have hB3:BR C (upd H2 A.ds (.dK (D5 (J5 ks (.inl a)) (.inl b) (.ref pv')))) A (S.join a b):=by
    refine hB.join ha hb hab ra rb hk2 hk3 hb3 hl3 A3 ?_ λk=> ?_
    ·have:= @AA (J5 ks (.inl a)) (.inl b) (.ref pv');omega
    ·rw[Y8,BB]
     by_cases e1:k=b
     ·subst e1
      rw[M3 hab,eb,ea,if_pos rfl]
      exact⟨_,rfl,hsa.mo m13⟩
     ·rw[if_neg (λz=>e1 (Sum.inl.inj z))]
      by_cases e2:k=a
      ·subst e2
       rw[AH hab,if_pos rfl];rfl
      ·rw[W9 e2 e1,if_neg (λz=>e2 (Sum.inl.inj z))]
       exact(hs3 k).mo m13
   have s4:=A5 hl (.lst [])
   have k3:Kq A H (upd H2 A.ds (.dK (D5 (J5 ks (.inl a)) (.inl b) (.ref pv')))):=k12.trans (.updO _ (MQ A))
   refine q2 hab (λ⟨s,t,_,e,_⟩=>by rw[eb]at e;cases e) l [] _ (k3.trans (.of s4)) (hB3.same s4) (k3.free hB3 hl) A3 ?_
   rw[show J3 S a b=[] by simp[J3,ea,eb]]
   exact .nil
  |some sb=>
   rw[eb]at hsb
   obtain⟨u,eu,hsb⟩:=hsb
   rw[eu]
   refine ifF (by simp) ?_
   have hB3:BR C H2 A (S.join a b):=by
    refine hB.join ha hb hab ra rb hk2 hk3 hb2 hl2 hs2' (by omega) λk=> ?_
    rw[BB]
    by_cases e2:k=a
    ·subst e2
     rw[AH hab,if_pos rfl];rfl
    ·rw[if_neg (λz=>e2 (Sum.inl.inj z))]
     by_cases e1:k=b
     ·subst e1
      rw[M3 hab,eb,eu]
      exact⟨_,rfl,hsb.mo m12⟩
     ·rw[W9 e2 e1]
      exact(hs3 k).mo m12
   refine⟨_,rfl,_,rfl,A.b,C,A.dx,_,_,rfl,hb2,RM.cl,RM.n4,l4,_,rfl,A.ds,u,rfl, ?_, ?_⟩
   ·have:=DGet.k (k:=.inl b) hs2'
    rw[hvb,eu]at this
    exact this
   ·refine⟨sa,sb,_,u,rfl,hsa.mo m12,hsb.mo m12,λht l us H3 s3 hl0 hl hp=> ?_,λht=> ?_⟩
    ·refine q2 hab (λ⟨s,t,e1,e2,e3⟩=> ?_) l us H3 (k12.trans (.of s3)) (hB3.same s3) (k12.free hB3 hl0) hl ?_
     ·rw[ea]at e1;rw[eb]at e2;cases e1;cases e2;exact e3 ht
     ·rw[show J3 S a b=sa.ps.zip sb.ps by simp[J3,ea,eb]]
      exact hp
    ·exact q3 hab ⟨sa,sb,ea,eb,ht⟩ H2 k12
 ·intro hv
  have ea:S.H a=none:=by
   have:=hs3 a
   rw[hv]at this
   cases e:S.H a with
   |none=>rfl
   |some s=>rw[e]at this;obtain⟨_,e2,_⟩:=this;cases e2
  refine⟨_,rfl,_,rfl,A.b,C,A.dx,_,_,rfl,hB.b,RM.cl,RM.n3,l3,_,rfl,A.dl,_,rfl,DPut.k (k:=.inl a) hk1 (by omega), ?_⟩
  have k2:Kq A H (upd H A.dl (.dK (D5 kl (.inl a) (.int b)))):=.updO _ (IW A)
  have m2:=hB.mo k2
  have hB3:BR C (upd H A.dl (.dK (D5 kl (.inl a) (.int b)))) A (S.join a b):=by
   refine hB.join ha hb hab ra rb hk2 hk3 (B2 hB.b (Ne.symm nl)) A3 (B2 hs1 (Ne.symm hB.ne)) hs2 λk=> ?_
   by_cases e2:k=a
   ·subst e2
    rw[AH hab];exact hv
   ·by_cases e1:k=b
    ·subst e1
     have:=hs3 k
     rw[M3 hab,ea]
     cases e:S.H k with
     |none=>rw[e]at this;exact this
     |some t=>rw[e]at this;exact this.mo m2
    ·rw[W9 e2 e1]
     exact(hs3 k).mo m2
  show GD _ _ _ [some (.ref A.b),some (.int a),some (.int b),some .non] (upd H A.dl (.dK (D5 kl (.inl a) (.int b))))
  refine⟨_,rfl,rfl,_,rfl,ifT (by simp) ⟨z0,λl hl=> ?_⟩⟩
  have s4:=A5 hl (.lst [])
  refine q2 hab (λ⟨s,t,e,_,_⟩=>by rw[ea]at e;cases e) l [] _ (k2.trans (.of s4)) (hB3.same s4) (k2.free hB3 hl) A3 ?_
  rw[show J3 S a b=[] by simp[J3,ea]]
  exact .nil
end
abbrev B3:Stmt:=L1 (top 13) 7
abbrev M5:List Str:=["self","number","standing","waiting","step","last"]
theorem sc_refuse_within_itself:FnScope M5 GB (A6 B3):=fS
def VG(b:Bool):Str:=if b=true then "enter"else "leave"
def StepAt(H:Hp)(x:Bool×Int)(v:V):Prop:=∃p,v=.ref p/\H p=some (.tup [.str (VG x.1),.int x.2])
theorem StepAt.mo{H H':Hp}(m:Mo H H'){x:Bool×Int}{v:V}(h:StepAt H x v):StepAt H' x v:=let⟨p,e,h⟩:=h;⟨p,e,m _ _ h⟩
theorem XC(S:St)(r:Int):(psH S r).length<=2:=by
 unfold psH;split
 ·rename_i s _;cases s<;>simp[Sh.ps]
 ·simp
theorem VA{S:St}{r:Int}(hr:S.L r=none):∃k',shK S (.opn r) k'/\k'.isO=false/\kps k'=(psH S r).map Kn.opn:=by
 refine⟨_,⟨r,.stop hr,rfl⟩, ?_⟩
 unfold psH
 cases S.H r with
 |none=>exact⟨rfl,rfl⟩
 |some s=>exact⟨IM s,LY s⟩
theorem ZC{M N:Nat}{sd:Int->Option Bool}{r:Int}{b:Bool}:uv M N (up sd r (some b))<=uv M N sd:=by
 cases h:sd r with
 |some c=>exact le_of_eq (QP h)
 |none=>
  by_cases hr: -(M:Int)<=r/\r<N
  ·exact le_of_lt (RN h hr)
  ·refine le_of_eq ?_
   unfold uv;congr 1;apply filter_congr
   intro n hn
   have:n≠r:=λe=>hr (by rw[<-e];exact mem_zr.1 hn)
   simp[up,this]
theorem QG{M N:Nat}{sd:Int->Option Bool}{kvs:List (Key×V)}{r:Int}{c:Bool}(h:G0 kvs (.inl r)=(sd r).map V.bl)(hr: -(M:Int)<=r/\r<N):
  (D5 kvs (.inl r) (.bl c)).length+uv M N (up sd r (some c))<=kvs.length+uv M N sd:=by
 cases e:sd r with
 |none=>have:=RN e hr (b:=c);have:= @AA kvs (.inl r) (.bl c);omega
 |some d=>rw[QP e,JR (by rw[h,e];rfl)];exact le_refl _
section
variable{P:Program}{w:World}{K:FZ}{mg:Str->Option Value}{base:Heap}{C cN:Addr}{gf:Str->Addr}{gd:Str->FuncData}{E3:Addr}{E4:FuncData}
inductive spRefuseW(C cN:Addr)(vs:List V)(H:Hp)(Q:VK)(E:XK):Prop
 |mk:∀(A:Ad) (S:St) (k:Int),(vs=[.ref A.b,.int k])->(BR C H A S)->(S.Rg k)->((∀S' H',(∃g,Val S' k g)->Alk S S'->BR C H' A S'->Kq A H H'->Q .non H'))->(((∀v,¬Sol S v)->∀H',Kq A H H'->E (.ref cN) none H'))->spRefuseW C cN vs H Q E
def JA(C cN:Addr):Sp:=λvs H Q E=>spRefuseW C cN vs H Q E
theorem ok_refuse_within_itself(F:Fun K "refuse_within_itself" "Bonds.refuse_within_itself" B3 (gf "refuse_within_itself") (gd "refuse_within_itself"))(RM:BCls K C gf gd)(X_BadKind:XCls K mg "BadKind" cN)
  (Q0:FnOk P w K mg base CX0 1 (gf "last_of") (gd "last_of") GB (IG C))
  (L4:FnOk P w K mg base CX0 2 (gf "shape_of") (gd "shape_of") T0 (BS C))
  (B7:Cn P w K mg base CX0 1 "kind_parts" Y9 AL):
  FnOk P w K mg base (CXr P w) 3 (gf "refuse_within_itself") (gd "refuse_within_itself") GB (JA C cN):=by
 obtain⟨E3,E4,B7,D7,D8,D9⟩:=B7
 refine F.okX sc_refuse_within_itself (λvs H Q E h=> ?_) (λcdv A outer s H vs Q E hr h=> ?_)
 ·obtain⟨A,S,k,rfl,_⟩:=h
  rfl
 obtain⟨A,S,k,rfl,hB,hk,q1,q2⟩:=h
 have nd:=sc_refuse_within_itself.nd
 have hu:=hr.units0
 have z1:(1:Nat)<=sizeLine:=by decide
 have z2:(2:Nat)<=sizeLine:=by decide
 have z5:(40000:Nat)<sizeLine:=by decide
 have hsm:=hB.sm
 refine⟨_,(A7 (C7 (i:=2) nd rfl (Or.inl rfl) BL)
   (A7 (C7 (i:=3) nd rfl (Or.inl rfl) (P6 (A0 (B5 (A0 B9 (A0 (pv 1) A4))) A4)))
   (A8 (G9 (Z5 PassesOwn.leaving (E1 (K:=K) (pv 3) (λ_=>rfl)) (A7 (C7 (i:=4) nd rfl (Or.inl rfl) (GM (K:=K) PySem.F.plainAttrs_list PySem.F.slot_list_pop PySem.F.type_list_pop CN (pv 3)))
   (A7 (C7 (i:=5) nd rfl (Or.inl rfl) (E5 (pv 0) RM.cl RM.m_last_of Q0 (hr.mono (by omega)) RM.b_last_of .nil C1 (A0 (ixE K w (pv 4) A9) A4)))
   (A8 (G9 (D6 (C5 (kEq (K:=K) hu) (ixE K w (pv 4) A9) B9 rfl) (A8 (BG K9 (BC (pv 2) (pv 5) (Q9 hr.units)))) (A8 (D6 (E1 (K:=K) (IY (lt_of_le_of_lt (add_le_add_left (by decide:1<=64) _) hr.units) (pv 2) (pv 5) K9 ⟨rfl,rfl,rfl,rfl⟩) (λ_=>rfl)) (A8 (EW PySem.F.excBase_ValueError (by decide) X_BadKind.q rfl X_BadKind.m (A0 B9 A4))) (A8 (G9 (D6 (C5 (MM hr.units) (pv 5) (pv 2) rfl) (A7 (BG K9 (BC (pv 2) (pv 5) (Q9 hr.units)))
   (A7 (O3 (JM (K:=K) PySem.F.plainAttrs_list PySem.F.slot_list_append PySem.F.type_list_append AJ (pv 3) (A0 (B5 (A0 B9 (A0 (pv 5) A4))) A4)))
   (A8 (O3 (JM (K:=K) PySem.F.plainAttrs_list PySem.F.slot_list_extend PySem.F.type_list_extend AK (pv 3) (A0 (X6 (cS (N:=M5) (sc:=A6 B3) (caps:=[]) (ns:=[])) rfl rfl rfl (AF (K:=K) (B6 B7 (hr.mono (by omega)) rfl D9 D8 D7 .nil C1 (A0 (E5 (pv 0) RM.cl RM.m_shape_of L4 (hr.mono (by omega)) RM.b_shape_of .nil C1 (A0 (B5 (A0 B9 (A0 (pv 5) A4))) A4)) A4))) (λ_ _ _ _ _=>L9) (λ_ _ _ _ _=>(B5 (A0 B9 (A0 (ixE K w (pv 0) A9) A4))))) A4)))))) C2))))))))))))))), ?_⟩
 refine λsa hsa=> ?_
 have s0:=A5 hsa (.dK [])
 refine⟨_,rfl,z2,λp0 hp0=>⟨z1,λwl hwl0=> ?_⟩⟩
 have s1:=A5 hp0 (.tup [.str "enter",.int k])
 have s2:=A5 hwl0 (.lst [.ref p0])
 have s012:=(s0.trans s1).trans s2
 have hwl:=(s0.trans s1).free hwl0
 have nws:wl≠sa:=λe=>by rw[e,s1 _ _ A3]at hwl0;cases hwl0
 refine⟨_, ?_,λ_ _ h=>h⟩
 refine⟨λm σ H'=>∃(W:List (Bool×Int)) (ws:List V) (sd:Int->Option Bool) (kvs:List (Key×V)) (S':St) (y1 y2:Option V),σ=[some (.ref A.b),some (.int k),some (.ref sa),some (.ref wl),y1,y2]/\Alk S S'/\BR C H' A S'/\Kq A H H'/\H' sa=some (.dK kvs)/\(∀n,G0 kvs (.inl n)=(sd n).map V.bl)/\kvs.length+uv S.M S.N sd<=S.M+S.N/\
   H' wl=some (.lst ws.reverse)/\All2 (StepAt H') W ws/\Dfs S' k sd W/\m=4*uv S.M S.N sd+W.length/\m<=4*(S.M+S.N)+1,
  ⟨_,[(true,k)],[.ref p0],λ_=>none,[],S,_,_,rfl,.rfl,hB.same s012,.of s012,(s1.trans s2) _ _ A3,λ_=>rfl, ?_,A3,.cons ⟨p0,rfl,s2 _ _ A3⟩ .nil,.start hk,rfl, ?_⟩, ?_⟩
 ·show 0+((zr S.M S.N).filter _).length<=_
  have:=length_filter_le (λn:Int=>((λ_=>none:Int->Option Bool) n).isNone) (zr S.M S.N)
  rw[Z8]at this
  omega
 ·show 4*((zr S.M S.N).filter _).length+1<=_
  have:=length_filter_le (λn:Int=>((λ_=>none:Int->Option Bool) n).isNone) (zr S.M S.N)
  rw[Z8]at this
  omega
 rintro m σ H' ⟨W,ws,sd,kvs,S',y1,y2,rfl,al,hB',kq,hs,hv,hkl,hw,hW,hD,rfl,hm⟩
 refine⟨_,rfl, !ws.reverse.isEmpty,.inl ⟨_,SqL.of hw,rfl⟩, ?_⟩
 have hWl:=hW.len
 cases hW with
 |nil=>
  refine ifF (by simp) ?_
  exact q1 S' H' (hD.fin hB'.wf) al hB' kq
 | @cons x u W ws hx hW=>
  refine ifT (by simp) ⟨_,λ_ _ h=>h, ?_⟩
  refine⟨_,rfl,.inl ⟨rfl,_,SqL.of hw⟩,wl,_,u,rfl,rfl,hw,EV _ _, ?_⟩
  rw[EX]
  obtain⟨p,rfl,hp⟩:=hx
  obtain⟨bx,n⟩:=x
  have m1:Mo H' (upd H' wl (.lst ws.reverse)):=λb xs e=>B2 e λz=>by rw[z,hw]at e;cases e
  have hB1:=hB'.updL hw (.lst ws.reverse)
  have k1:Kq A H (upd H' wl (.lst ws.reverse)):=λb ob e n=>B2 (kq _ _ e n) (B0 e hwl)
  have hs1:upd H' wl (.lst ws.reverse) sa=some (.dK kvs):=B2 hs (Ne.symm nws)
  have hw1:upd H' wl (.lst ws.reverse) wl=some (.lst ws.reverse):=A3
  show GD _ _ _ [some (.ref A.b),some (.int k),some (.ref sa),some (.ref wl),some (.ref p),y2] (upd H' wl (.lst ws.reverse))
  generalize upd H' wl (.lst ws.reverse)=H1 at m1 hB1 k1 hs1 hw1⊢
  have nsa:sa∉A.own:=hB.nnew hsa
  have nwl:wl∉A.own:=hB1.nlst hw1
  obtain⟨r,hl⟩:=hB1.wf.tot n
  refine⟨_,rfl,A.b,A.dx,_,rfl,hB1.b,rfl,_,rfl,(ixT (v:=.int n) (m1 _ _ hp) rfl ?_)⟩
  refine⟨A,S',n,r,rfl,hB1,hl,λS2 H2 al2 hB2 kq2=> ?_⟩
  have m2:=m1.trans (hB1.mo kq2)
  have k2:=k1.trans kq2
  have hs2:=kq2 _ _ hs1 nsa
  have hw2:=kq2 _ _ hw1 nwl
  have hp2:=m2 _ _ hp
  have hW2:=hW.imp λ_ _ h=>h.mo m2
  have hD2:=hD.alk al2 hB'.wf
  have al12:=al.trans al2
  have hl2:=al2.l _ _ hl
  show tCut _ _ [some (.ref A.b),some (.int k),some (.ref sa),some (.ref wl),some (.ref p),some (.int r)] H2
  refine⟨_, ?_,λ_ _ h=>h⟩
  refine⟨_,rfl,(ixT (v:=.str (VG bx)) hp2 rfl (.inl ⟨rfl,_,rfl, ?_⟩))⟩
  have hrg:S2.Rg r:=hl2.rg hB2.wf (hD2.rg (bx,n) (by simp))
  have hsk:G0 kvs (.inl r)=(sd r).map V.bl:=hv r
  have up_v:∀c:Bool,∀j,G0 (D5 kvs (.inl r) (.bl c)) (.inl j)=(up sd r (some c) j).map V.bl:=λc j=>by
   rw[Y8]
   by_cases e:j=r
   ·subst e;rw[if_pos rfl,J0];rfl
   ·rw[if_neg (λz=>e (Sum.inl.inj z)),C8 e];exact hv j
  have m3:∀o:HO,Mo H2 (upd H2 sa o):=λo b xs e=>B2 e λz=>by rw[z,hs2]at e;cases e
  have hB3:∀o:HO,BR C (upd H2 sa o) A S2:=λo=>hB2.upd nsa (λxs e=>by rw[hs2]at e;cases e) o
  have k3:∀o:HO,Kq A H (upd H2 sa o):=λo b ob e n=>B2 (k2 _ _ e n) (B0 e hsa)
  cases bx with
  |false=>
   refine ifT rfl ?_
   have er:r=n:=by
    obtain⟨h0,_⟩:=hD2.cov [] n W rfl
    exact hl2.det (.stop h0)
   subst er
   refine⟨_,rfl,_,rfl,sa,_,rfl,DPut.k (k:=.inl r) hs2 (by omega), ?_⟩
   have hle:= @ZC S.M S.N sd r false
   have hpu:=QG (c:=false) hsk (al12.rg.1 hrg)
   simp only[length_cons]at hm⊢
   exact⟨_,by omega,W,ws,up sd r (some false),_,S2,_,_,rfl,al12,hB3 _,k3 _,A3,up_v false,by omega,B2 hw2 nws,hW2.imp λ_ _ h=>h.mo (m3 _),hD2.leave hB2.wf,rfl,by omega⟩
  |true=>
   refine ifF (by decide) ?_
   refine⟨_,rfl,sa,rfl,.inl ⟨_,.inl hs2⟩,_,rfl,_,DGet.k (k:=.inl r) hs2, ?_⟩
   rw[hsk]
   cases er:sd r with
   |some c=>
    cases c with
    |true=>
     refine⟨true,rfl,ifT rfl ?_⟩
     exact⟨z1,q2 (λv hv=>hD2.no hl2 er v ((al12.sol hB.wf).2 hv)) H2 k2⟩
    |false=>
     refine⟨false,rfl,ifF (by simp) ⟨_, ?_,λ_ _ h=>h⟩⟩
     refine⟨_,rfl,_,rfl,sa,_,rfl,DGet.k (k:=.inl r) hs2,_,rfl, ?_⟩
     rw[hsk,er]
     refine ifF (by simp) ?_
     simp only[length_cons]at hm⊢
     exact⟨_,by omega,W,ws,sd,_,S2,_,_,rfl,al12,hB2,k2,hs2,hv,hkl,hw2,hW2,hD2.skip hl2 er,rfl,by omega⟩
   |none=>
    refine⟨false,rfl,ifF (by simp) ⟨_, ?_,λ_ _ h=>h⟩⟩
    refine⟨_,rfl,_,rfl,sa,_,rfl,DGet.k (k:=.inl r) hs2,_,rfl, ?_⟩
    rw[hsk,er]
    refine ifT rfl ?_
    have hlt:=RN er (al12.rg.1 hrg) (b:=true)
    have hpu:=QG (c:=true) hsk (al12.rg.1 hrg)
    have hD3:=hD2.enter hB2.wf hl2 er
    refine⟨_,rfl,_,rfl,sa,_,rfl,DPut.k (k:=.inl r) hs2 (by omega), ?_⟩
    have hB3:=hB3 (.dK (D5 kvs (.inl r) (.bl true)))
    have k3:=k3 (.dK (D5 kvs (.inl r) (.bl true)))
    have m3:=m3 (.dK (D5 kvs (.inl r) (.bl true)))
    have hs3:upd H2 sa (.dK (D5 kvs (.inl r) (.bl true))) sa=some (.dK (D5 kvs (.inl r) (.bl true))):=A3
    have hw3:upd H2 sa (.dK (D5 kvs (.inl r) (.bl true))) wl=some (.lst ws.reverse):=B2 hw2 nws
    show GD _ _ _ [some (.ref A.b),some (.int k),some (.ref sa),some (.ref wl),some (.ref p),some (.int r)] (upd H2 sa (.dK (D5 kvs (.inl r) (.bl true))))
    generalize upd H2 sa (.dK (D5 kvs (.inl r) (.bl true)))=H3 at hB3 k3 m3 hs3 hw3⊢
    simp only[length_cons]at hm hWl
    refine⟨_,rfl,.inl ⟨rfl,_,SqL.of hw3⟩,_,rfl,z2,λp4 hp4=> ?_⟩
    have s4:=A5 hp4 (.tup [.str "leave",.int r])
    refine⟨wl,_,_,rfl,rfl,s4 _ _ hw3,by rw[length_reverse];omega, ?_⟩
    have hw4:=s4 _ _ hw3
    have hB4:=hB3.same s4
    have m5:Mo (upd H3 p4 (.tup [.str "leave",.int r])) (upd (upd H3 p4 (.tup [.str "leave",.int r])) wl (.lst (ws.reverse++ [.ref p4]))):=λb xs e=>B2 e λz=>by rw[z,hw4]at e;cases e
    have hB5:=hB4.updL hw4 (.lst (ws.reverse++ [.ref p4]))
    have k5:Kq A H (upd (upd H3 p4 (.tup [.str "leave",.int r])) wl (.lst (ws.reverse++ [.ref p4]))):=λb ob e n=>B2 (s4 _ _ (k3 _ _ e n)) (B0 e hwl)
    have hs5:upd (upd H3 p4 (.tup [.str "leave",.int r])) wl (.lst (ws.reverse++ [.ref p4])) sa=some (.dK (D5 kvs (.inl r) (.bl true))):=B2 (s4 _ _ hs3) (Ne.symm nws)
    have hw5:upd (upd H3 p4 (.tup [.str "leave",.int r])) wl (.lst (ws.reverse++ [.ref p4])) wl=some (.lst (ws.reverse++ [.ref p4])):=A3
    have hp5:upd (upd H3 p4 (.tup [.str "leave",.int r])) wl (.lst (ws.reverse++ [.ref p4])) p4=some (.tup [.str "leave",.int r]):=m5 _ _ A3
    have m35:Mo H2 (upd (upd H3 p4 (.tup [.str "leave",.int r])) wl (.lst (ws.reverse++ [.ref p4]))):=m3.trans ((Mo.of s4).trans m5)
    dsimp only
    generalize upd (upd H3 p4 (.tup [.str "leave",.int r])) wl (.lst (ws.reverse++ [.ref p4]))=H5 at m5 hB5 k5 hs5 hw5 hp5 m35⊢
    refine⟨_,rfl,.inl ⟨rfl,_,SqL.of hw5⟩,_,rfl,A.b,A.dx,_,rfl,hB5.b,rfl,_,rfl,z2,λp6 hp6=> ?_⟩
    have s6:=A5 hp6 (.tup [.str "open",.int r])
    obtain⟨k',hsh,hO,hkp⟩:=VA (S:=S2) hl2.top
    refine⟨A,S2,.opn r,k',_,rfl,hB5.same s6,⟨p6,rfl,A3⟩,hsh,λS7 H7 u7 al7 hB7 kq7 hu7=> ?_⟩
    refine⟨k',u7,rfl,hu7,λl us H8 s8 hl0 hl8 hR=> ?_⟩
    have hU:=hR.parts hO
    rw[hkp]at hU
    have hUl:=hU.len
    rw[length_map]at hUl
    have hp2:=XC S2 r
    have hB6:=hB5.same s6
    have hB8:=hB7.same s8
    have k6:Kq A H5 H8:=((Kq.of s6).trans kq7).trans (.of s8)
    have hw8:=k6 _ _ hw5 (hB5.nlst hw5)
    have hs8:=k6 _ _ hs5 nsa
    have m58:=hB5.mo k6
    refine⟨l,rfl,⟨_,SqL.of hl8⟩,V6 (xs:=us) (λi ys H9=>Same H8 H9/\All2 (StepAt H9) (((psH S2 r).map λp=>(true,p)).take i) ys) ?_ ?_ ?_ ?_⟩
    ·exact⟨Same.refl _,.nil⟩
    ·rintro i ys H9 hi ⟨s9,hy⟩
     have:=hy.len
     rw[length_take,length_map]at this
     exact⟨SqL.of (s9 _ _ hl8),by omega⟩
    ·rintro i x ys H9 hx ⟨s9,hy⟩
     refine Q6 ?_
     obtain⟨k1,h1,hx1⟩:=hU.get hx
     rw[getElem?_map]at h1
     obtain⟨z,hz,rfl⟩:=map_eq_some_iff.mp h1
     obtain⟨px,rfl,hpx⟩:=hx1
     refine⟨_,rfl,(ixT (v:=.int z) (s9 _ _ hpx) rfl ⟨z2,λp9 hp9=> ?_⟩)⟩
     have s10:=A5 hp9 (.tup [.str "enter",.int z])
     refine⟨s9.trans s10, ?_⟩
     rw[J9 (t:=(true,z)) (by rw[getElem?_map,hz];rfl)]
     exact(hy.imp λ_ _ h=>h.mo (.of s10)).app (.cons ⟨p9,rfl,A3⟩ .nil)
    ·rintro ys H9 ⟨s9,hy⟩ l9 hl9
     have e9:us.length=((psH S2 r).map λp=>(true,p)).length:=by rw[length_map];exact hUl.symm
     rw[e9,take_length]at hy
     have hyl:=hy.len
     rw[length_map]at hyl
     have s10:=A5 hl9 (.lst ys)
     have hw9:=s10 _ _ (s9 _ _ hw8)
     have nlw:l9≠wl:=λe=>by rw[e,s9 _ _ hw8]at hl9;cases hl9
     refine⟨wl,l9,_,ys,rfl,rfl,hw9,A3, ?_, ?_⟩
     ·simp only[length_append,length_reverse,length_singleton];omega
     have m10:Mo (upd H9 l9 (.lst ys)) (upd (upd H9 l9 (.lst ys)) wl (.lst (ws.reverse++ [.ref p4]++ys))):=λb xs e=>B2 e λz=>by rw[z,hw9]at e;cases e
     have m8f:Mo H8 (upd (upd H9 l9 (.lst ys)) wl (.lst (ws.reverse++ [.ref p4]++ys))):=(Mo.of (s9.trans s10)).trans m10
     have al7':=al12.trans al7
     have hD7:=hD3.alk al7 hB2.wf
     have hBf:=(hB8.same (s9.trans s10)).updL hw9 (.lst (ws.reverse++ [.ref p4]++ys))
     refine⟨4*uv S.M S.N (up sd r (some true))+(((psH S2 r).map λp=>(true,p)).reverse++(false,r)::W).length, ?_,((psH S2 r).map λp=>(true,p)).reverse++(false,r)::W,ys.reverse++ .ref p4::ws,up sd r (some true),D5 kvs (.inl r) (.bl true),S7,_,_,rfl,al7',hBf, ?_, ?_,up_v true,by omega, ?_, ?_,hD7,rfl, ?_⟩
     ·simp only[length_append,length_reverse,length_map,length_cons];omega
     ·exact λb ob e n=>B2 (s10 _ _ (s9 _ _ (k6 _ _ (k5 _ _ e n) n))) (B0 e hwl)
     ·exact B2 (s10 _ _ (s9 _ _ hs8)) (Ne.symm nws)
     ·rw[A3];simp
     ·refine(hy.rev.imp λ_ _ h=>h.mo ((Mo.of s10).trans m10)).app (.cons ⟨p4,rfl,m8f _ _ (m58 _ _ hp5)⟩ ?_)
      exact hW2.imp λ_ _ h=>((h.mo m35).mo m58).mo m8f
     ·simp only[length_append,length_reverse,length_map,length_cons];omega
end
abbrev X1:Stmt:=top 7
abbrev EK:List Str:=["root","parts_in","made","met","waiting","node","parts","done","many","made_parts"]
theorem sc_built_up:FnScope EK NS (A6 X1):=fS
structure Sr where
 A:Ad
 s0:St
 T:Type
 kids:T->List T
 size:T->Nat
 val:Hp->T->V->Prop
 res:St->Hp->T->V->Prop
 R:St->St->Prop
 cap:Nat->St->Prop
 hsz:∀t,size t=1+((kids t).map size).sum
 vm:∀ {H H' t v},Mo H H'->val H t v->val H' t v
 rm:∀ {S S' H H' t v},R s0 S->R S S'->Mo H H'->res S H t v->res S' H' t v
 Rr:R s0 s0
 Rx:∀S,R S S
 Rt:∀ {S S'},R s0 S->R S S'->R s0 S'
def Sr.tr(D:Sr):Tr:=⟨D.T,D.kids,D.size,λ_ _ _ _=>True,λ_ _ _ _=>True,D.hsz,λ_ h=>h,λ_ h=>h,λ_ h=>h,λ_ h=>h⟩
def RcS(D:Sr)(t:D.T)(N W:List D.T):Prop:=BV.Reach D.tr t N W
theorem RcS.start{D:Sr}{t:D.T}:RcS D t [] [t]:=BV.Reach.start (D:=D.tr)
theorem RcS.step{D:Sr}{t n:D.T}{N W:List D.T}(h:RcS D t N (n::W)):RcS D t (N++ [n]) (D.kids n++W):=BV.Reach.step (D:=D.tr) h
theorem RcS.back{D:Sr}{t n:D.T}{N W:List D.T}(h:RcS D t (N++ [n]) W):∃r,W=D.kids n++r/\RcS D t N (n::r):=BV.Reach.back (D:=D.tr) h
theorem RcS.first{D:Sr}{t:D.T}{W:List D.T}(h:RcS D t [] W):W=[t]:=BV.Reach.first (D:=D.tr) h
theorem RcS.size{D:Sr}{t:D.T}{N W:List D.T}(h:RcS D t N W):N.length+(W.map D.size).sum=D.size t:=BV.Reach.size (D:=D.tr) h
def MetS(D:Sr)(H:Hp)(t:D.T)(x:V):Prop:=∃p v,x=.ref p/\H p=some (.tup [v,.int ((D.kids t).length:Nat)])/\D.val H t v
theorem MetS.mono{D:Sr}{H H':Hp}(m:Mo H H'){t:D.T}{x:V}(h:MetS D H t x):MetS D H' t x:=by
 obtain⟨p,v,e,hp,hv⟩:=h
 exact⟨p,v,e,m _ _ hp,D.vm m hv⟩
inductive spPSW (C:Addr) (D:Sr) (vs:List V) (H:Hp) (Q:VK):Prop
 |mk:∀(S:St) (t:D.T) (v:V),(vs=[v])->(BR C H D.A S)->(D.R D.s0 S)->(D.val H t v)->(∀r H' ps S',Kq D.A H H'->BR C H' D.A S'->D.R S S'->(∀n,D.cap n S->D.cap n S')->H r=none->H' r=some (.lst ps)->All2 (D.val H') (D.kids t) ps->Q (.ref r) H')->spPSW C D vs H Q
def UE(C:Addr)(D:Sr):Sp:=λvs H Q _=>spPSW C D vs H Q
inductive spMSW (C:Addr) (D:Sr) (vs:List V) (H:Hp) (Q:VK):Prop
 |mk:∀(S:St) (t:D.T) (v:V) (l:Addr) (us:List V) (n:Nat),(vs=[v,.ref l])->(BR C H D.A S)->(D.R D.s0 S)->(D.val H t v)->(H l=some (.lst us))->(All2 (D.res S H) (D.kids t) us)->(D.cap (n+1) S)->(∀r H' S',Kq D.A H H'->BR C H' D.A S'->D.R S S'->D.cap n S'->D.res S' H' t r->Q r H')->spMSW C D vs H Q
def UW(C:Addr)(D:Sr):Sp:=λvs H Q _=>spMSW C D vs H Q
inductive spBuiltSW (P:Program) (w:World) (K:FZ) (mg:Str->Option Value) (C:Addr) (base:Heap) (vs:List V) (H:Hp) (Q:VK):Prop
 |mk:∀(D:Sr) (t:D.T) (v:V) (fp fm:Addr) (dp dm:FuncData) (np nm:List Str),(vs=[v,.ref fp,.ref fm])->(FnOk P w K mg base CX0 4 fp dp np (UE C D))->(EE K base fp)->(Binds K dp np [])->(FnOk P w K mg base CX0 4 fm dm nm (UW C D))->(EE K base fm)->(Binds K dm nm [])->(BR C H D.A D.s0)->(D.val H t v)->(D.size t<=4000)->(D.cap (D.size t) D.s0)->(∀r H' S',Kq D.A H H'->BR C H' D.A S'->D.R D.s0 S'->D.cap 0 S'->D.res S' H' t r->Q r H')->spBuiltSW P w K mg C base vs H Q
def Z7(P:Program)(w:World)(K:FZ)(mg:Str->Option Value)(C:Addr)(base:Heap):Sp:=λvs H Q _=>spBuiltSW P w K mg C base vs H Q
section
variable{P:Program}{w:World}{K:FZ}{mg:Str->Option Value}{base:Heap}{f C:Addr}{fd:FuncData}
theorem ok_built_up(F:Fun K "built_up" "built_up" X1 f fd)(B:NoG mg):FnOk P w K mg base CX0 5 f fd NS (Z7 P w K mg C base):=by
 refine F.ok sc_built_up (λvs H Q E h=> ?_) (λcdv A outer s H vs Q E hr h=> ?_)
 ·obtain⟨D,t,v,fp,fm,dp,dm,np,nm,rfl,_⟩:=h
  rfl
 obtain⟨D,t,v,fp,fm,dp,dm,np,nm,rfl,FP,kp,bp,FM,km,bm,hB,hval,hsz,hcap,q⟩:=h
 have nd:=sc_built_up.nd
 have hu:=hr.units0
 have z1:(1:Nat)<=sizeLine:=by decide
 have z2:(2:Nat)<=sizeLine:=by decide
 have z3:(4000:Nat)+4000<sizeLine:=by decide
 have len_le:∀W:List D.T,W.length<=(W.map D.size).sum:=λW=>D.tr.len_le W
 have kids_le:∀t:D.T,(D.kids t).length<=D.size t:=λt=>D.tr.kids_le t
 refine⟨_,(A7 (C7 (i:=3) nd rfl (Or.inl rfl) (P6 A4))
   (A7 (C7 (i:=4) nd rfl (Or.inl rfl) (P6 (A0 (pv 0) A4)))
   (A7 (Z5 PassesOwn.never (E1 (K:=K) (pv 4) (λ_=>rfl)) (A7 (C7 (i:=5) nd rfl (Or.inl rfl) (GM (K:=K) PySem.F.plainAttrs_list PySem.F.slot_list_pop PySem.F.type_list_pop CN (pv 4)))
   (A7 (C7 (i:=6) nd rfl (Or.inl rfl) (GW (P:=P) (w:=w) (K:=K) (mg:=mg) (base:=base) (pv 1) C1 (A0 (pv 5) A4)))
   (A7 (O3 (JM (K:=K) PySem.F.plainAttrs_list PySem.F.slot_list_append PySem.F.type_list_append AJ (pv 3) (A0 (B5 (A0 (pv 5) (A0 (E8 (VF (K:=K)) rfl B.len_ RA (A0 (pv 6) A4)) A4))) A4)))
   (A8 (O3 (JM (K:=K) PySem.F.plainAttrs_list PySem.F.slot_list_extend PySem.F.type_list_extend AK (pv 4) (A0 (LF (K:=K) rfl B.reversed_ rfl B.list_ rfl (A0 (pv 6) A4)) A4))))))))
   (A7 (C7 (i:=7) nd rfl (Or.inr rfl) (P6 A4))
   (A7 (Z0 PassesOwn.never rfl (XU (K:=K) rfl B.reversed_ (A0 (pv 3) A4)) (HS rfl (O9 (K6 (i:=5) nd rfl (Or.inl rfl)) (O9 (K6 (i:=8) nd rfl (Or.inl rfl)) DN))) (A7 (AZ (i:=9) nd rfl rfl (cS (N:=EK) (sc:=A6 X1) (caps:=[7]) (ns:=["done"])) rfl rfl rfl (U8 rfl B.range_ (A0 (pv 8) A4)) (λ_ _ _ _ _=>L9) (λ_ _ _ _ _=>(GM (K:=K) PySem.F.plainAttrs_list PySem.F.slot_list_pop PySem.F.type_list_pop CN (pv 1))))
   (A8 (O3 (JM (K:=K) PySem.F.plainAttrs_list PySem.F.slot_list_append PySem.F.type_list_append AJ (pv 7) (A0 (GW (P:=P) (w:=w) (K:=K) (mg:=mg) (base:=base) (pv 2) C1 (A0 (pv 5) (A0 (pv 9) A4))) A4))))))
   (A8 (B4 (GM (K:=K) PySem.F.plainAttrs_list PySem.F.slot_list_pop PySem.F.type_list_pop CN (pv 7))))))))), ?_⟩
 refine⟨(by show 0<=sizeLine;decide),λml hml=> ?_⟩
 refine⟨_,rfl,z1,λwl hwl0=> ?_⟩
 obtain⟨hwl,nwm⟩:=Q7 hwl0
 have g0:Same H (upd (upd H ml (.lst [])) wl (.lst [v])):=(A5 hml _).trans (A5 hwl0 _)
 refine⟨λm σ H'=>∃(N W:List D.T) (ms ws:List V) (S:St) (y1 y2:Option V),σ=[some v,some (.ref fp),some (.ref fm),some (.ref ml),some (.ref wl),y1,y2,none,none,none]/\Kq D.A H H'/\BR C H' D.A S/\D.R D.s0 S/\D.cap (D.size t) S/\H' ml=some (.lst ms)/\H' wl=some (.lst ws)/\
   All2 (MetS D H') N ms/\All2 (D.val H') W ws.reverse/\RcS D t N W/\m=(W.map D.size).sum,
  ⟨D.size t,[],[t],[],[v],D.s0,none,none,rfl,.of g0,hB.same g0,D.Rr,hcap,B2 A3 (Ne.symm nwm),A3,.nil,.cons (D.vm (.of g0) hval) .nil,.start,by simp⟩, ?_⟩
 rintro m σ H' ⟨N,W,ms,ws,S,y1,y2,rfl,sm,hBs,hR0,hc0,hm,hw,hN,hW,hR,rfl⟩
 have hms:=hN.len
 have hRs:N.length+(W.map D.size).sum=D.size t:=hR.size
 refine⟨_,rfl, !ws.isEmpty,.inl ⟨ws,SqL.of hw,rfl⟩, ?_⟩
 generalize ew:ws.reverse=wr at hW
 have ew:=XV ew
 subst ew
 have nml:=hBs.nlst hm
 have nwl:=hBs.nlst hw
 cases hW with
 | @cons n u W' wr hn hW'=>
  refine ifT (by simp) ?_
  refine⟨_,λ_ _ h=>h, ?_⟩
  refine⟨_,rfl,.inl ⟨rfl,_,SqL.of hw⟩,wl,_,_,rfl,rfl,hw,EV _ _, ?_⟩
  rw[EX]
  have t1:Mo H' (upd H' wl (.lst wr.reverse)):=λb xs e=>B2 e λz=>by rw[z,hw]at e;cases e
  have hm1:upd H' wl (.lst wr.reverse) ml=some (.lst ms):=B2 hm (Ne.symm nwm)
  have hw1:upd H' wl (.lst wr.reverse) wl=some (.lst wr.reverse):=A3
  have hB1:=hBs.updL hw (.lst wr.reverse)
  have o1:Kq D.A H (upd H' wl (.lst wr.reverse)):=λb o e n=>B2 (sm b o e n) (B0 e hwl)
  generalize upd H' wl (.lst wr.reverse)=H1 at t1 hm1 hw1 o1 hB1⊢
  have hkn:=kids_le n
  have hszn:D.size n<=4000:=by simp only[map_cons,sum_cons]at hRs;omega
  refine⟨_,rfl,fp,dp,np,UE C D,4,rfl,FP,hr.mono (by decide),kp,bp,_,rfl,S,n,u,rfl,hB1,hR0,D.vm t1 hn,λr H2 ps S2 s2 hB2 hR2 hc2 hr1 hr2 hps=> ?_⟩
  have hm2:=s2 _ _ hm1 nml
  have hw2:=s2 _ _ hw1 nwl
  have o2:=o1.trans s2
  have t2:Mo H' H2:=t1.trans (hB1.mo s2)
  have nrw:r≠wl:=λe=>by subst e;rw[hw1]at hr1;cases hr1
  have nrm:r≠ml:=λe=>by subst e;rw[hm1]at hr1;cases hr1
  have hpl:=hps.len
  refine⟨_,rfl,.inl ⟨rfl,_,SqL.of hm2⟩,_,rfl,_,rfl,_,_,rfl,.inl ⟨_,SqL.of hr2,rfl⟩,z2,λp hp=> ?_⟩
  have s3:Same H2 (upd H2 p (.tup [u,.int (ps.length:Nat)])):=A5 hp _
  refine⟨ml,_,_,rfl,rfl,s3 _ _ hm2,by omega, ?_⟩
  have t24:Mo H2 (upd (upd H2 p (.tup [u,.int (ps.length:Nat)])) ml (.lst (ms++ [.ref p]))):=(Mo.of s3).trans λb xs e=>B2 e λz=>by rw[z,s3 _ _ hm2]at e;cases e
  have t4:=t2.trans t24
  have hp4:upd (upd H2 p (.tup [u,.int (ps.length:Nat)])) ml (.lst (ms++ [.ref p])) p=some (.tup [u,.int (ps.length:Nat)]):=B2 A3 (λe=>by subst e;rw[hm2]at hp;cases hp)
  have hm4:upd (upd H2 p (.tup [u,.int (ps.length:Nat)])) ml (.lst (ms++ [.ref p])) ml=some (.lst (ms++ [.ref p])):=A3
  have hw4:upd (upd H2 p (.tup [u,.int (ps.length:Nat)])) ml (.lst (ms++ [.ref p])) wl=some (.lst wr.reverse):=B2 (s3 _ _ hw2) nwm
  have hr4:upd (upd H2 p (.tup [u,.int (ps.length:Nat)])) ml (.lst (ms++ [.ref p])) r=some (.lst ps):=B2 (s3 _ _ hr2) nrm
  have o4:Kq D.A H (upd (upd H2 p (.tup [u,.int (ps.length:Nat)])) ml (.lst (ms++ [.ref p]))):=λb o e n=>B2 (s3 _ _ (o2 b o e n)) (B0 e hml)
  have hB4:=(hB2.same s3).updL (s3 _ _ hm2) (.lst (ms++ [.ref p]))
  generalize upd (upd H2 p (.tup [u,.int (ps.length:Nat)])) ml (.lst (ms++ [.ref p]))=H4 at t4 hp4 hm4 hw4 hr4 o4 t24 hB4⊢
  refine⟨_,rfl,.inl ⟨rfl,_,SqL.of hw4⟩,_,rfl,r,ps,rfl,SqL.of hr4,λr2 hr2'=> ?_⟩
  have s5:Same H4 (upd H4 r2 (.lst ps.reverse)):=A5 hr2' _
  have hWl:=len_le W'
  have hWe:=hW'.len
  refine⟨wl,r2,_,_,rfl,rfl,s5 _ _ hw4,A3, ?_, ?_⟩
  ·simp only[length_reverse]
   simp only[map_cons,sum_cons]at hRs
   omega
  have t6:Mo H4 (upd (upd H4 r2 (.lst ps.reverse)) wl (.lst (wr.reverse++ps.reverse))):=(Mo.of s5).trans λb xs e=>B2 e λz=>by rw[z,s5 _ _ hw4]at e;cases e
  refine⟨_, ?_,N++ [n],D.kids n++W',ms++ [.ref p],wr.reverse++ps.reverse,S2,_,_,rfl,λb o e n=>B2 (s5 _ _ (o4 b o e n)) (B0 e hwl),(hB4.same s5).updL (s5 _ _ hw4) _,D.Rt hR0 hR2,hc2 _ hc0,B2 (s5 _ _ hm4) (Ne.symm nwm),A3, ?_, ?_,hR.step,rfl⟩
  ·simp only[map_append,sum_append,map_cons,sum_cons]
   have:=D.hsz n
   omega
  ·refine(hN.imp λa b h=>h.mono (t4.trans t6)).app (.cons ⟨p,u,rfl, ?_,D.vm (t4.trans t6) hn⟩ .nil)
   rw[hpl]
   exact t6 _ _ hp4
  ·rw[List.reverse_append,List.reverse_reverse,List.reverse_reverse]
   exact(hps.imp λa b h=>D.vm (t24.trans t6) h).app (hW'.imp λa b h=>D.vm (t4.trans t6) h)
 |nil=>
  refine ifF (by simp) ?_
  refine⟨(by show 0<=sizeLine;decide),λdl hdl=> ?_⟩
  have s7:Same H' (upd H' dl (.lst [])):=A5 hdl _
  have hdl0:H dl=none:=sm.free hBs hdl
  have ndm:dl≠ml:=λe=>by subst e;rw[hm]at hdl;cases hdl
  have hNs:N.length=D.size t:=by simpa using hRs
  refine⟨_,rfl,ml,ms,rfl,SqL.of (s7 _ _ hm),TZ (xs:=ms) (λi σ H'=>∃(W:List D.T) (us:List V) (S:St) (y1 y2 y3 y4:Option V),σ=[some v,some (.ref fp),some (.ref fm),some (.ref ml),some (.ref wl),y1,y2,some (.ref dl),y3,y4]/\Kq D.A H H'/\BR C H' D.A S/\D.R D.s0 S/\D.cap (N.length - i) S/\H' ml=some (.lst ms)/\
   All2 (MetS D H') N ms/\H' dl=some (.lst us.reverse)/\All2 (D.res S H') W us/\RcS D t (N.take (N.length - i)) W) ?_ ?_ ?_ ?_⟩
  ·exact⟨[],[],S,_,_,_,_,rfl,sm.trans (.of s7),hBs.same s7,hR0,by rw[Nat.sub_zero,hNs];exact hc0,s7 _ _ hm,hN.imp λa b h=>h.mono (.of s7),A3,.nil,by rw[Nat.sub_zero,take_length];exact hR⟩
  ·rintro i σ H' _ ⟨W,us,S,y1,y2,y3,y4,rfl,sm,hBs,hR0,hc0,hm,_⟩
   exact SqL.of hm
  ·rintro i x σ H' hx ⟨W,us,S,y1,y2,y3,y4,rfl,sm,hBs,hR0,hc0,hm,hN,hd,hW,hRi⟩
   have hi:i<ms.length:=by
    have:=(List.getElem?_eq_some_iff.mp hx).1
    simpa using this
   rw[getElem?_reverse hi]at hx
   obtain⟨n,hn,p,u,rfl,hp,hu'⟩:=hN.get hx
   have e1:N.length - i=(ms.length - 1 - i)+1:=by omega
   rw[e1]at hRi hc0
   rw[J9 hn]at hRi
   obtain⟨r,hrW,hRb⟩:=hRi.back
   cases hrW
   obtain⟨b1,b2,rfl,hb1,hb2⟩:=hW.split
   have hbl:(D.kids n).length=b1.length:=hb1.len
   have hkn:=kids_le n
   have hRs2:_+(((n:D.T)::r).map D.size).sum=D.size t:=hRb.size
   have hszn:D.size n<=4000:=by simp only[map_cons,sum_cons]at hRs2;omega
   refine⟨p,_,rfl,SqT.of hp,rfl,_,_,rfl,_,_,rfl,rfl, ?_⟩
   refine⟨_,rfl,((D.kids n).length:Nat),rfl,by omega,by omega,EL (n:=(D.kids n).length) (λj ys H2=>ys=b1.take j/\H2=upd H' dl (.lst (b1.drop j++b2).reverse)) ?_ ?_ ?_ ?_⟩
   ·exact⟨rfl,by rw[List.drop_zero];exact(WO hd).symm⟩
   ·rintro j ys H2 hj ⟨rfl,_⟩
    rw[length_take]
    omega
   ·rintro j ys H2 hj ⟨rfl,rfl⟩
    refine Q6 ?_
    have hjb:j<b1.length:=by omega
    have ed:b1.drop j=b1[j]::b1.drop (j+1):=List.drop_eq_getElem_cons hjb
    rw[ed]
    refine⟨_,rfl,.inl ⟨rfl,_,SqL.of A3⟩,dl,_,_,rfl,rfl,A3,EV _ _, ?_⟩
    refine⟨?_, ?_⟩
    ·rw[List.take_succ_eq_append_getElem hjb]
    ·rw[IE]
     congr 2
     exact EX _ _
   ·rintro ys H2 ⟨rfl,rfl⟩ l hl
    rw[hbl,List.drop_length,List.nil_append]at hl
    rw[hbl,List.drop_length,take_length,List.nil_append]
    have s8:Same (upd H' dl (.lst b2.reverse)) (upd (upd H' dl (.lst b2.reverse)) l (.lst b1)):=A5 hl _
    have t8:Mo H' (upd (upd H' dl (.lst b2.reverse)) l (.lst b1)):=Mo.trans (λb xs e=>B2 e λz=>by rw[z,hd]at e;cases e) (.of s8)
    have hd8:upd (upd H' dl (.lst b2.reverse)) l (.lst b1) dl=some (.lst b2.reverse):=s8 _ _ A3
    have hl8:upd (upd H' dl (.lst b2.reverse)) l (.lst b1) l=some (.lst b1):=A3
    have hm8:upd (upd H' dl (.lst b2.reverse)) l (.lst b1) ml=some (.lst ms):=s8 _ _ (B2 hm (Ne.symm ndm))
    have o8:Kq D.A H (upd (upd H' dl (.lst b2.reverse)) l (.lst b1)):=λb o e n=>s8 _ _ (B2 (sm b o e n) (B0 e hdl0))
    have hB8:=(hBs.updL hd (.lst b2.reverse)).same s8
    generalize upd (upd H' dl (.lst b2.reverse)) l (.lst b1)=H8 at s8 t8 hd8 hl8 hm8 o8 hB8⊢
    refine⟨_,rfl,.inl ⟨rfl,_,SqL.of hd8⟩,_,rfl,fm,dm,nm,UW C D,4,rfl,FM,hr.mono (by decide),km,bm,_,rfl,_,rfl,S,n,u,l,b1,ms.length - 1 - i,rfl,hB8,hR0,D.vm t8 hu',hl8,hb1.imp λa b h=>D.rm hR0 (D.Rx S) t8 h,hc0,λy H9 S9 s9 hB9 hR9 hc9 hy=> ?_⟩
    have nml8:=hB8.nlst hm8
    have ndl8:=hB8.nlst hd8
    have hb2l:=hb2.len
    have hrl:=len_le r
    have hd9:=s9 _ _ hd8 ndl8
    refine⟨dl,_,_,rfl,rfl,hd9, ?_, ?_⟩
    ·rw[length_reverse]
     simp only[map_cons,sum_cons]at hRs2
     omega
    have t9:Mo H9 (upd H9 dl (.lst (b2.reverse++ [y]))):=λb xs e=>B2 e λz=>by rw[z,hd9]at e;cases e
    have t89:Mo H' (upd H9 dl (.lst (b2.reverse++ [y]))):=(t8.trans (hB8.mo s9)).trans t9
    refine⟨n::r,y::b2,S9,_,_,_,_,rfl,λb o e n=>B2 (s9 _ _ (o8 b o e n) n) (B0 e hdl0),hB9.updL hd9 _,D.Rt hR0 hR9, ?_,B2 (s9 _ _ hm8 nml8) (Ne.symm ndm),hN.imp λa b h=>h.mono t89, ?_,.cons (D.rm (D.Rt hR0 hR9) (D.Rx S9) t9 hy) (hb2.imp λa b h=>D.rm hR0 hR9 t89 h), ?_⟩
    ·have e2:N.length - (i+1)=ms.length - 1 - i:=by omega
     rw[e2];exact hc9
    ·rw[reverse_cons];exact A3
    ·have e2:N.length - (i+1)=ms.length - 1 - i:=by omega
     rw[e2];exact hRb
  ·rintro σ H' ⟨W,us,S,y1,y2,y3,y4,rfl,sm,hBs,hR0,hc0,hm,hN,hd,hW,hRi⟩
   rw[<-hms,Nat.sub_self]at hRi hc0
   rw[List.take_zero]at hRi
   cases hRi.first
   cases hW with
   | @cons _ y _ us hy hrest=>
    cases hrest
    refine⟨_,rfl,.inl ⟨rfl,_,SqL.of hd⟩,dl,_,_,rfl,rfl,hd,rfl, ?_⟩
    exact q y _ S (λb o e n=>B2 (sm b o e n) (B0 e hdl0)) (hBs.updL hd _) hR0 hc0 (D.rm hR0 (D.Rx S) (λb xs e=>B2 e λz=>by rw[z,hd]at e;cases e) hy)
end
abbrev D2:Stmt:=L1 (top 13) 3
abbrev K7:Stmt:=L1 (top 13) 9
abbrev KE:List Str:=["self","kind"]
theorem sc_number_of:FnScope KE T0 (A6 D2):=fS
abbrev SX:List Str:=["self","kind"]
theorem sc_final:FnScope SX T0 (A6 K7):=fS
def lP(e:Expr):Arguments:=match e with
 | .Lambda p _ _ _=>p
 |_=>⟨[],[],none,[],[],none,[]⟩
def lB(e:Expr):Expr:=match e with
 | .Lambda _ b _ _=>b
 |e=>e
def lS(e:Expr):Scope:=match e with
 | .Lambda _ _ s _=>s
 |_=> {kind:=.function,names:=[],isGenerator:=false,isCoroutine:=false}
def lAt(e:Expr):Pos:=match e with
 | .Lambda _ _ _ p=>p
 |_=>⟨0,0,0,0⟩
def lx1:Expr:=match B8 D2 with
 | [.Return (some (.Call _ [_,_,l] _ _)) _]=>l
 |_=> .Constant .none 0 ⟨0,0,0,0⟩
def lx2:Expr:=match B8 K7 with
 | [_,.Return (some (.Call _ [_,l,_] _ _)) _]=>l
 |_=> .Constant .none 0 ⟨0,0,0,0⟩
theorem fr1:∀y∈(lS lx1).names,y.2=.free->y.1∈(X2:List Str):=by decide +kernel
theorem fr2:∀y∈(lS lx2).names,y.2=.free->y.1∈(X2:List Str):=by decide +kernel
theorem sc1:LamScope ["part","numbers"] X2 (lS lx1):=⟨rfl,rfl,rfl,by decide +kernel,by decide +kernel,by decide +kernel,λx h=>fr1 _ (PySem.mem_of_lookup h) rfl,by decide +kernel⟩
theorem sc2:LamScope ["shape"] X2 (lS lx2):=⟨rfl,rfl,rfl,by decide +kernel,by decide +kernel,by decide +kernel,λx h=>fr2 _ (PySem.mem_of_lookup h) rfl,by decide +kernel⟩
def q1:Str:=("Bonds.number_of":Str)++ ".<locals>."++ "<lambda>"
def q2:Str:=("Bonds.final":Str)++ ".<locals>."++ "<lambda>"
def clos(n:Nat):List (Str×Addr):=[("self",n+1)]
theorem auZ(n f:Addr)(cdv:Value):closureFor (lS lx1) (PyProof.Rows.envOfC "Bonds.number_of" (A6 D2) n f cdv)=pure (clos n):=by rfl
theorem YQ(n f:Addr)(cdv:Value):closureFor (lS lx2) (PyProof.Rows.envOfC "Bonds.final" (A6 K7) n f cdv)=pure (clos n):=by rfl
structure BT (C P1 P2:Addr) (H:Hp) (A:Ad) (S:St):Prop where
 br:BR C H A S
 t1:V5 H P1 (lAt lx1) q1
 t2:V5 H P2 (lAt lx2) q2
 ne:P1≠P2
def Kt(P1 P2:Addr)(A:Ad)(H H':Hp):Prop:=∀b ob,H b=some ob->b∉A.own->b≠P1->b≠P2->H' b=some ob
theorem Kt.of{P1 P2:Addr}{A:Ad}{H H':Hp}(k:Kq A H H'):Kt P1 P2 A H H':=λb ob e n _ _=>k b ob e n
theorem Kt.trans{P1 P2:Addr}{A:Ad}{H H1 H2:Hp}(h:Kt P1 P2 A H H1)(h':Kt P1 P2 A H1 H2):Kt P1 P2 A H H2:=λb o e n a c=>h' b o (h b o e n a c) n a c
theorem O8{H H':Hp}{P:Addr}{at_:Pos}{q:Str}(h:V5 H P at_ q)(k:∀b ob,H b=some ob->((∃ps,ob=.tbl ps)\/∃φ,ob=.ext φ)->H' b=some ob):V5 H' P at_ q:=by
 obtain⟨ps,h1,h2,h3⟩:=h
 refine⟨ps,k _ _ h1 (.inl ⟨_,rfl⟩),h2, ?_⟩
 rcases h3 with h|⟨c',h,hc⟩
 ·exact .inl h
 ·exact .inr ⟨c',h,k _ _ hc (.inr ⟨_,rfl⟩)⟩
section
variable{C P1 P2:Addr}{H H':Hp}{A:Ad}{S S':St}
theorem BT.kq(h:BT C P1 P2 H A S)(k:Kq A H H')(b:BR C H' A S'):BT C P1 P2 H' A S':=by
 have kk:∀b ob,H b=some ob->((∃ps,ob=.tbl ps)\/∃φ,ob=.ext φ)->H' b=some ob:=λb ob e n=>k b ob e λhb=>by
  rcases h.br.own hb with⟨dx,fs,e2⟩|⟨kvs,e2⟩<;>rw[e]at e2<;>cases e2<;>rcases n with⟨_,n⟩|⟨_,n⟩<;>cases n
 exact⟨b,O8 h.t1 kk,O8 h.t2 kk,h.ne⟩
theorem BT.updL(h:BT C P1 P2 H A S){p:Addr}{xs:List V}(hp:H p=some (.lst xs))(o:HO):BT C P1 P2 (L2.upd H p o) A S:=by
 have kk:∀b ob,H b=some ob->((∃ps,ob=.tbl ps)\/∃φ,ob=.ext φ)->L2.upd H p o b=some ob:=λb ob e n=>B2 e λz=>by
  rw[z,hp]at e;cases e;rcases n with⟨_,n⟩|⟨_,n⟩<;>cases n
 exact⟨h.br.updL hp o,O8 h.t1 kk,O8 h.t2 kk,h.ne⟩
theorem BT.same(h:BT C P1 P2 H A S)(s:Same H H'):BT C P1 P2 H' A S:=h.kq (.of s) (h.br.same s)
theorem BT.free{H0:Hp}(h:BT C P1 P2 H A S)(k:Kt P1 P2 A H0 H){b:Addr}(e:H b=none):H0 b=none:=by
 cases e2:H0 b with
 |none=>rfl
 |some ob=>
  have n0:=h.br.nnew e
  have n1:b≠P1:=λz=>by obtain⟨ps,h1,_⟩:=h.t1;rw[z,h1]at e;cases e
  have n2:b≠P2:=λz=>by obtain⟨ps,h1,_⟩:=h.t2;rw[z,h1]at e;cases e
  rw[k _ _ e2 n0 n1 n2]at e;cases e
theorem BT.mo(h:BT C P1 P2 H A S)(k:Kt P1 P2 A H H'):Mo H H':=λb xs e=>k b _ e (h.br.ntup e) (λz=>by obtain⟨ps,h1,_⟩:=h.t1;rw[z,h1]at e;cases e) (λz=>by obtain⟨ps,h1,_⟩:=h.t2;rw[z,h1]at e;cases e)
theorem JW{P P' f c':Addr}{at_ at':Pos}{q q':Str}{H1:Hp}(hf:H f=none)(hc:H1 c'=some (CodeO q c'))(hP:QM H1 P at_ c')(nP:P≠P')(n1:P≠f)(n2:P≠c')(hK:∀b o,H b=some o->b≠P->H1 b=some o)
  (hT:V5 H P at_ q)(hB:BR C H A S)(hB':BR C H' A S')(kq:Kq A (del (del H1 f) c') H')(hT':V5 H P' at' q')(hc0:H' c'=none):
  BR C (upd H' c' (CodeO q c')) A S'/\V5 (upd H' c' (CodeO q c')) P at_ q/\V5 (upd H' c' (CodeO q c')) P' at' q'/\∀b ob,H b=some ob->b∉A.own->b≠P->upd H' c' (CodeO q c') b=some ob:=by
 have nown:∀ {b:Addr} {ob:HO},H b=some ob->(∀xs,ob≠ .dK xs)->(∀c d e,ob≠ .ins c d e)->b∉A.own:=λ{b ob} e n1 n2 hb=>by
  rcases hB.own hb with⟨dx,fs,e2⟩|⟨kvs,e2⟩<;>rw[e]at e2
  ·exact n2 _ _ _ (Option.some.inj e2)
  ·exact n1 _ (Option.some.inj e2)
 have k1:∀b ob,H1 b=some ob->b≠f->b∉A.own->upd H' c' (CodeO q c') b=some ob:=λb ob e a n=>by
  by_cases z:b=c'
  ·rw[z,hc]at e;cases e;rw[z];exact A3
  ·rw[B1 z];exact kq _ _ (by rw[T8 z,T8 a];exact e) n
 have k0:∀b ob,H b=some ob->b∉A.own->b≠P->upd H' c' (CodeO q c') b=some ob:=λb ob e n a=>k1 b ob (hK b ob e a) (B0 e hf) n
 obtain⟨ps,e1,e2,e3⟩:=hP
 have hPo:P∉A.own:=by
  obtain⟨ps0,e0,_⟩:=hT
  exact nown e0 (λ_ z=>nomatch z) (λ_ _ _ z=>nomatch z)
 refine⟨hB'.new hc0 _,⟨ps,k1 _ _ e1 n1 hPo,e2,.inr ⟨c',e3,A3⟩⟩, ?_,k0⟩
 obtain⟨ps',f1,f2,f3⟩:=hT'
 refine⟨ps',k0 _ _ f1 (nown f1 (λ_ z=>nomatch z) (λ_ _ _ z=>nomatch z)) (Ne.symm nP),f2, ?_⟩
 rcases f3 with h|⟨c2,h,h2⟩
 ·exact .inl h
 ·refine .inr ⟨c2,h,k0 _ _ h2 (nown h2 (λ_ z=>nomatch z) (λ_ _ _ z=>nomatch z)) λz=> ?_⟩
  obtain⟨ps0,e0,_⟩:=hT
  rw[z,e0]at h2
  cases h2
end
theorem VX(k:Kn):ks k=1+((kps k).map ks).sum:=by cases k<;>simp[ks,kps]<;>omega
theorem MB{k p:Kn}(h:p∈kps k){n:Int}(hn:n∈p.vs):n∈k.vs:=by
 cases k with
 |lst a=>simp[kps]at h;subst h;exact hn
 |fn a b=>
  simp[kps]at h
  rcases h with rfl|rfl<;>simp[Kn.vs,hn]
 |_=>simp[kps]at h
theorem IZ{α β:Type}{R:α->β->Prop}{p:α->Prop}{as:List α}{bs:List β}(h:All2 R as bs)(hp:∀a∈as,p a):All2 (λa b=>R a b/\p a) as bs:=by
 induction h with
 |nil=>exact .nil
 |cons r _ ih=>exact .cons ⟨r,hp _ (by simp)⟩ (ih λa ha=>hp a (by simp[ha]))
theorem PK{S:St}{R:Kn->Int->Prop}{ks:List Kn}{us:List V}(h:All2 (λk v=>∃n,v=.int n/\R k n) ks us):∃ns:List Int,us=ns.map V.int/\All2 R ks ns:=by
 induction h with
 |nil=>exact⟨[],rfl,.nil⟩
 |cons r _ ih=>
  obtain⟨n,rfl,h1⟩:=r
  obtain⟨ns,rfl,h2⟩:=ih
  exact⟨n::ns,rfl,.cons h1 h2⟩
theorem TX{v:Int->G}{k:Kn}{ns:List Int}(hk:k.isO=false)(h:All2 (λp n=>v n=ev v p) (kps k) ns):evS v (AY k ns)=ev v k:=by
 cases k with
 |opn n=>cases hk
 |num=>cases(h:All2 _ [] ns);rfl
 |tru=>cases(h:All2 _ [] ns);rfl
 |lst a=>cases(h:All2 _ [a] ns)with|cons h1 h2=>cases h2;simp[AY,evS,ev,h1]
 |fn a b=>cases(h:All2 _ [a,b] ns)with|cons h1 h2=>cases h2 with|cons h3 h4=>cases h4;simp[AY,evS,ev,h1,h3]
def dN(A:Ad)(S0:St)(w0:Wf S0)(B:Nat):Sr where
 A:=A
 s0:=S0
 T:=Kn
 kids:=kps
 size:=ks
 val:=λH k v=>KnAt H k v/\Told S0 k
 res:=λS _ k v=>∃n,v=.int n/\S.Rg n/\∀w,Sol S w->w n=ev w k
 R:=λS S'=>Wf S->Grow S S'
 cap:=λn S=>S.M+S.N+n<=B
 hsz:=VX
 vm:=λm h=>⟨h.1.mo m,h.2⟩
 rm:=λh h' _ ⟨n,e,r,q⟩=>⟨n,e,(h' (h w0).wf).rg r,λw hw=>q w ((h' (h w0).wf).back w hw)⟩
 Rr:=λw=> .rfl w
 Rx:=λS w=> .rfl w
 Rt:=λh h' w=>(h w).trans (h' (h w).wf)
section
variable{P:Program}{w:World}{K:FZ}{mg:Str->Option Value}{base:Heap}{C c P1 P2:Addr}{gf:Str->Addr}{gd:Str->FuncData}{f fb fo:Addr}{fd db do_:FuncData}
theorem aWZ{CX:CXT}{cdv:Value}{A:Around}{outer:List Env}{s:Shared}{H:Hp}{E:XK}:CapOk (L5 CX P w K mg base T0 "Bonds.number_of" (A6 D2) f cdv A outer s H E).nox (clos s.heap.objs.size) X2 [0]:=by
 refine⟨λx c h=> ?_,λx h=> ?_,λx h=> ?_,λx h=>rfl,λi x h=> ?_,rfl⟩
 ·show x∈(X2:List Str)/\(clos s.heap.objs.size).lookup x=some c
  refine⟨?_,h⟩
  unfold clos at h
  rw[lookup_cons]at h
  split at h
  ·rename_i e;rw[beq_iff_eq.mp e];exact mem_cons_self
  ·cases h
 ·have e:x="self":=by simpa using h
  subst e;exact⟨_,rfl⟩
 ·have e:x="self":=by simpa using h
  subst e;rfl
 ·cases i with
  |zero=>have e:("self":Str)=x:=by simpa using h
         subst e;exact⟨0,rfl,rfl⟩
  |succ i=>simp at h
inductive spNumberW (C P1 P2:Addr) (vs:List V) (H:Hp) (Q:VK):Prop
 |mk:∀(A:Ad) (S:St) (k:Kn) (v:V),(vs=[.ref A.b,v])->(BT C P1 P2 H A S)->(KnAt H k v)->(Told S k)->(S.M+S.N+ks k<=5000)->(ks k<=1000)->(∀n S' H',BT C P1 P2 H' A S'->Kt P1 P2 A H H'->Grow S S'->S'.M<=S.M+ks k->S'.Rg n->(∀w,Sol S' w->w n=ev w k)->Q (.int n) H')->spNumberW C P1 P2 vs H Q
def KG(C P1 P2:Addr):Sp:=λvs H Q _=>spNumberW C P1 P2 vs H Q
theorem ok_number_of(F:Fun K "number_of" "Bonds.number_of" D2 (gf "number_of") (gd "number_of"))(RM:BCls K C gf gd)(hcode:(gd "number_of").code=.ref c)(CH:PySem.W.CodeHd base c P1)(BT0:base.BuiltinsAt mg P1)
  (AT:∀base,FnOk P w K mg base CX0 5 fb db NS (Z7 P w K mg C base))(AU:mg "built_up"=some (.ref fb))(AR:kZ K (.ref fb)=true)(AV:Binds K db NS [])
  (CF:∀base,FnOk P w K mg base CX0 2 fo do_ Y9 GJ)(CB:mg "parts_of_shape"=some (.ref fo))(CC:kZ K (.ref fo)=true)(CD:Binds K do_ Y9 [])
  (FL:∀base,FnOk P w K mg base CX0 2 (gf "number_with") (gd "number_with") UF (RD C)):
  FnOk P w K mg base CX0 6 (gf "number_of") (gd "number_of") T0 (KG C P1 P2):=by
 refine F.okC sc_number_of (λvs H Q E h=> ?_) (λcdv A outer s H vs Q E hcd hr h=> ?_)
 ·obtain⟨A,S,k,v,rfl,_⟩:=h
  rfl
 obtain rfl:Value.ref c=cdv:=hcode.symm.trans hcd
 obtain⟨A,S,k,v,rfl,hT,hk,htold,hsz,hk1,q⟩:=h
 have nd:=sc_number_of.nd
 refine⟨_,A8 (B4 (JV (name:="<lambda>") (qual:=q1) (params:=lP lx1) (body:=lB lx1) (scope:=lS lx1) (clos:=clos s.heap.objs.size) (pm:=(mg "__name__").getD .none) (fs:=X2) (js:=[0]) (sp:=Z7 P w K mg C) AT hr rfl AU AR AV aWZ
  (A0 (pv 1) (A0 (T1 (v:=.ref fo) rfl CB rfl) (A0 (RP (params:=lP lx1) (body:=lB lx1) (scope:=lS lx1) (pos:=lAt lx1) (pm:=(mg "__name__").getD .none) rfl rfl (auZ _ _ _) rfl CH BT0) A4))))), ?_⟩
 refine⟨v,rfl,hT.t1,λfl c' H1 hfn hF hC hT1 n1 n2 n3 hO hK=> ?_⟩
 refine⟨fl,c',[.ref A.b],⟨rfl,λi j h=> ?_⟩,hF,hC,n1,λbase' LA CA=> ?_⟩
 ·cases i with
  |zero=>have e:0=j:=by simpa using h
         subst e;exact⟨_,rfl,rfl⟩
  |succ i=>simp at h
 obtain⟨ctv,hfo⟩:=LA.fn
 have hB:=hT.br
 have e2:∀b ob,H b=some ob->b≠P1->(∀φ,ob≠ .ext φ)->del (del H1 fl) c' b=some ob:=λb ob e a1 a2=>by
  have e1:=hK b ob e a1
  have z1:b≠fl:=B0 e hfn
  have z2:b≠c':=λz=>by rw[z,hC]at e1;exact a2 _ (Option.some.inj e1).symm
  rw[T8 z2,T8 z1];exact e1
 obtain⟨qs,hqP,_⟩:=id hT.t1
 have neP:∀ {b:Addr} {ob:HO},H b=some ob->(∀ps,ob≠ .tbl ps)->b≠P1:=λ{b ob} e a z=>by rw[z,hqP]at e;exact a _ (Option.some.inj e).symm
 have hm2:Mo H (del (del H1 fl) c'):=λb xs e=>e2 b _ e (neP e λps z=>nomatch z) fun φ z=>nomatch z
 have hB2:BR C (del (del H1 fl) c') A S:=hB.keep (λb hb ob e=>by
  rcases hB.own hb with⟨dx,fs,e3⟩|⟨kvs,e3⟩<;>rw[e]at e3<;>cases e3
  ·exact e2 _ _ e (neP e λps z=>nomatch z) fun φ z=>nomatch z
  ·exact e2 _ _ e (neP e λps z=>nomatch z) fun φ z=>nomatch z) hm2
 have FM:FnOk P w K mg base' CX0 3 fl (kla_fn "<lambda>" q1 (lP lx1) (lB lx1) (lS lx1) (clos s.heap.objs.size) ((mg "__name__").getD .none) (.ref c') ctv) ["part","numbers"] (UW C (dN A S hB.wf (S.M+S.N+ks k))):=by
  refine QW hfo rfl LA.cd sc1 CA (λvs H Q E h=> ?_) (λA' outer s H vs Q E hr h=> ?_)
  ·obtain⟨S',t,v,l,us,n,rfl,_⟩:=h
   rfl
  obtain⟨S',t,v,l,us,n,rfl,hB',hR,⟨hv,ht⟩,hl,hus,hc,q⟩:=h
  refine⟨_,E5 (pv 2) RM.cl RM.m_number_with (FL base') hr RM.b_number_with .nil C1 (A0 (pv 0) (A0 (pv 1) A4)), ?_⟩
  have g0:=hR hB.wf
  have hn0:S'.N=S.N:=g0.n
  have hc1:S'.M+S'.N+(n+1)<=S.M+S.N+ks k:=hc
  obtain⟨ns,rfl,hns⟩:=PK (S:=S') (R:=λp n=>S'.Rg n/\∀w,Sol S' w->w n=ev w p) hus
  have hlen:=hns.len
  refine⟨_,rfl,A.b,A.dx,_,rfl,hB'.b,rfl,_,rfl,_,rfl,A,S',t,v,l,ns,rfl,hB',hv,hl,hlen.symm,λz hz=> ?_,by omega,λz e=> ?_,λhO H' kq hB2=> ?_⟩
  ·obtain⟨i,hi⟩:=getElem?_of_mem hz
   obtain⟨p,_,hp,_⟩:=hns.get hi
   exact hp
  ·subst e
   exact q (.int z) H S' .refl hB' ((dN A S hB.wf (S.M+S.N+ks k)).Rx S') (by show S'.M+S'.N+n<=_;omega) ⟨z,rfl,g0.rg (ht.rg z (by simp[Kn.vs])),λ_ _=>rfl⟩
  ·obtain⟨f1,f2⟩:=MI hO hlen.symm
   have hps:∀p∈(AY t ns).ps,S'.Rg p:=λz hz=>by
    rw[f2]at hz
    obtain⟨i,hi⟩:=getElem?_of_mem hz
    obtain⟨p,_,hp,_⟩:=hns.get hi
    exact hp
   refine q _ H' _ kq hB2 (λ_=> .new hB'.wf hps) (by show S'.M+1+S'.N+n<=_;omega) ⟨_,rfl,JC,λw hw=> ?_⟩
   obtain⟨h1,h2⟩:=(HQ hB'.wf).1 hw
   rw[h2]
   exact TX hO (hns.imp λp z h=>h.2 w h1)
 have FP:FnOk P w K mg base' CX0 2 fo do_ Y9 (UE C (dN A S hB.wf (S.M+S.N+ks k))):=by
  refine(CF base').imp λvs H Q E h=> ?_
  obtain⟨S',t,v,rfl,hB',hR,⟨hv,ht⟩,q⟩:=h
  refine⟨t,v,rfl,hv,λl us H' s' hl0 hl hus=> ?_⟩
  exact q l H' us S' (.of s') (hB'.same s') ((dN A S hB.wf (S.M+S.N+ks k)).Rx S') (λ_ h=>h) hl0 hl (IZ hus λp hp n hn=>ht n (MB hp hn))
 refine⟨dN A S hB.wf (S.M+S.N+ks k),k,v,fo,fl,do_,_,_,_,rfl,FP.mono (by decide),.inl CC,CD,FM.mono (by decide),.inr LA.fnAt,.all (λus hl=>match us,hl with| [_,_],_=>rfl),hB2,⟨hk.mo hm2,htold⟩, ?_,le_refl _,λr H' S' kq hB' hR hc hres hf' hc'=> ?_⟩
 ·show ks k<=4000
  omega
 obtain⟨n,rfl,hrg,hw⟩:=hres
 obtain⟨b1,b2,b3,b4⟩:=JW hfn hC hT1 hT.ne (Ne.symm n2) (Ne.symm n3) hK hT.t1 hB hB' kq hT.t2 hc'
 have g:=hR hB.wf
 refine q n S' _ ⟨b1,b2,b3,hT.ne⟩ (λb ob e n a _=>b4 b ob e n a) g ?_ hrg hw
 have hn:S'.N=S.N:=g.n
 have hc:S'.M+S'.N+0<=S.M+S.N+ks k:=hc
 omega
end
noncomputable def rt(S:St)(n:Int):Int:= @Classical.epsilon Int ⟨0⟩ (λr=>Lead S.L n r)
noncomputable def shF(S:St):Kn->Kn
 | .opn n=>match S.H (rt S n)with|some s=>s.kn|none=> .num
 |k=>k
theorem AX{S:St}(w:Wf S)(k:Kn):shK S k (shF S k):=by
 cases k with
 |opn n=>exact⟨rt S n,Classical.epsilon_spec (w.tot n),rfl⟩
 |_=>exact rfl
theorem KJ{S:St}{k:Kn}(h:k.isO=false):shF S k=k:=by
 cases k with
 |opn n=>cases h
 |_=>rfl
theorem ZF{v:Int->G}{k:Kn}(h:k.isO=false):kw (gk (ev v k))=kw k/\kps (gk (ev v k))=(kps k).map (λp=>gk (ev v p))/\(gk (ev v k)).isO=false:=by
 cases k with
 |opn n=>cases h
 |_=>exact⟨rfl,rfl,rfl⟩
noncomputable def dF(A:Ad)(S0:St)(w0:Wf S0)(a0:Acy S0):Sr where
 A:=A
 s0:=S0
 T:=Kn
 kids:=λk=>(kps (shF S0 k)).map (shF S0)
 size:=λk=>gw (ev (wv S0) k)
 val:=λH k v=>KnAt H k v/\k.isO=false
 res:=λ_ H k v=>KnAt H (gk (ev (wv S0) k)) v
 R:=λS S'=>Alk S S'
 cap:=λ_ _=>True
 hsz:=λk=>by
  obtain⟨e,hO⟩:=CI w0 a0 (AX w0 k)
  rw[<-e,VN hO,List.map_map]
  congr 2
  apply List.map_congr_left
  intro p _
  show _=gw (ev (wv S0) (shF S0 p))
  rw[(CI w0 a0 (AX w0 p)).1]
 vm:=λm h=>⟨h.1.mo m,h.2⟩
 rm:=λ_ _ m h=>h.mo m
 Rr:=.rfl
 Rx:=λ_=> .rfl
 Rt:=λh h'=>h.trans h'
section
variable{P:Program}{w:World}{K:FZ}{mg:Str->Option Value}{base:Heap}{C c P1 P2 cN:Addr}{gf:Str->Addr}{gd:Str->FuncData}{f fb fw:Addr}{fd db dw:FuncData}
theorem aRZ{CX:CXT}{cdv:Value}{A:Around}{outer:List Env}{s:Shared}{H:Hp}{E:XK}:CapOk (L5 CX P w K mg base T0 "Bonds.final" (A6 K7) f cdv A outer s H E) (clos s.heap.objs.size) X2 [0]:=by
 refine⟨λx c h=> ?_,λx h=> ?_,λx h=> ?_,λx h=>rfl,λi x h=> ?_,rfl⟩
 ·show x∈(X2:List Str)/\(clos s.heap.objs.size).lookup x=some c
  refine⟨?_,h⟩
  unfold clos at h
  rw[lookup_cons]at h
  split at h
  ·rename_i e;rw[beq_iff_eq.mp e];exact mem_cons_self
  ·cases h
 ·have e:x="self":=by simpa using h
  subst e;exact⟨_,rfl⟩
 ·have e:x="self":=by simpa using h
  subst e;rfl
 ·cases i with
  |zero=>have e:("self":Str)=x:=by simpa using h
         subst e;exact⟨0,rfl,rfl⟩
  |succ i=>simp at h
inductive spFinalW (C P1 P2 cN:Addr) (vs:List V) (H:Hp) (Q:VK) (E:XK):Prop
 |mk:∀(A:Ad) (S:St) (k:Kn) (v:V),(vs=[.ref A.b,v])->(BT C P1 P2 H A S)->(Acy S)->(KnAt H k v)->((gw (ev (wv S) k)<=60->∀S' H' u,Alk S S'->BT C P1 P2 H' A S'->Kt P1 P2 A H H'->KnAt H' (gk (ev (wv S) k)) u->Q u H'))->((60<gw (ev (wv S) k)->∀S' H',Alk S S'->BT C P1 P2 H' A S'->Kt P1 P2 A H H'->E (.ref cN) none H'))->spFinalW C P1 P2 cN vs H Q E
def DP(C P1 P2 cN:Addr):Sp:=λvs H Q E=>spFinalW C P1 P2 cN vs H Q E
theorem ok_final(F:Fun K "final" "Bonds.final" K7 (gf "final") (gd "final"))(RM:BCls K C gf gd)(hcode:(gd "final").code=.ref c)(CH:PySem.W.CodeHd base c P2)(BT0:base.BuiltinsAt mg P2)
  (AT:∀base,FnOk P w K mg base CX0 5 fb db NS (Z7 P w K mg C base))(AU:mg "built_up"=some (.ref fb))(AR:kZ K (.ref fb)=true)(AV:Binds K db NS [])
  (HG:∀base,FnOk P w K mg base CX0 1 fw dw PV SK)(HF:mg "with_parts"=some (.ref fw))(HD:kZ K (.ref fw)=true)(HC:Binds K dw PV [])
  (L4:FnOk P w K mg base CX0 2 (gf "shape_of") (gd "shape_of") T0 (BS C))
  (DI:∀base,FnOk P w K mg base CX0 3 (gf "shapes_within") (gd "shapes_within") UR (JL C))
  (FQ:FnOk P w K mg base (CXr P w) 3 (gf "refuse_long") (gd "refuse_long") T0 (RO C cN)):
  FnOk P w K mg base (CXr P w) 6 (gf "final") (gd "final") T0 (DP C P1 P2 cN):=by
 refine F.okCX sc_final (λvs H Q E h=> ?_) (λcdv A outer s H vs Q E hcd hr h=> ?_)
 ·obtain⟨A,S,k,v,rfl,_⟩:=h
  rfl
 obtain rfl:Value.ref c=cdv:=hcode.symm.trans hcd
 obtain⟨A,S,k,v,rfl,hT,ha,hk,qa,qb⟩:=h
 have nd:=sc_final.nd
 refine⟨_,A7 (O3 (E5 (pv 0) RM.cl RM.m_refuse_long FQ (hr.mono (by omega)) RM.b_refuse_long .nil BQ (A0 (pv 1) A4)))
  (A8 (B4 (JV (name:="<lambda>") (qual:=q2) (params:=lP lx2) (body:=lB lx2) (scope:=lS lx2) (clos:=clos s.heap.objs.size) (pm:=(mg "__name__").getD .none) (fs:=X2) (js:=[0]) (sp:=Z7 P w K mg C) AT hr rfl AU AR AV aRZ
  (A0 (E5 (pv 0) RM.cl RM.m_shape_of L4 (hr.mono (by omega)) RM.b_shape_of .nil C1 (A0 (pv 1) A4)) (A0 (RP (params:=lP lx2) (body:=lB lx2) (scope:=lS lx2) (pos:=lAt lx2) (pm:=(mg "__name__").getD .none) rfl rfl (YQ _ _ _) rfl CH BT0) (A0 (T1 (v:=.ref fw) rfl HF rfl) A4)))))), ?_⟩
 refine⟨_,rfl,A.b,A.dx,_,rfl,hT.br.b,rfl,_,rfl,A,S,k,v,rfl,hT.br,ha,hk,λhle S1 H1 al1 hB1 kq1=> ?_,λhgt S1 H1 al1 hB1 kq1=>qb hgt S1 H1 al1 (hT.kq kq1 hB1) (.of kq1)⟩
 have hT1:=hT.kq kq1 hB1
 have w0:=hT.br.wf
 have a1:=al1.acy w0 ha
 have ewv:=al1.wv w0 ha
 have hk1:=hk.mo (hT.br.mo kq1)
 refine⟨_,rfl,A.b,A.dx,_,rfl,hB1.b,rfl,_,rfl,A,S1,k,shF S1 k,v,rfl,hB1,hk1,AX hB1.wf k,λS2 H2 u al2 hB2 kq2 hu=> ?_⟩
 have hT2:=hT1.kq kq2 hB2
 have w2:=hB2.wf
 have a2:=al2.acy hB1.wf a1
 have ewv2:=al2.wv hB1.wf a1
 obtain⟨ek,eO⟩:=CI hB1.wf a1 (AX hB1.wf k)
 refine⟨hT2.t2,λfl c' H3 hfn hF hC hT3 n1 n2 n3 hO hK=> ?_⟩
 refine⟨fl,c',[.ref A.b],⟨rfl,λi j h=> ?_⟩,hF,hC,n1,λbase' LA CA=> ?_⟩
 ·cases i with
  |zero=>have e:0=j:=by simpa using h
         subst e;exact⟨_,rfl,rfl⟩
  |succ i=>simp at h
 obtain⟨ctv,hfo⟩:=LA.fn
 have e2:∀b ob,H2 b=some ob->b≠P2->(∀φ,ob≠ .ext φ)->del (del H3 fl) c' b=some ob:=λb ob e a1 a2=>by
  have e1:=hK b ob e a1
  have z1:b≠fl:=B0 e hfn
  have z2:b≠c':=λz=>by rw[z,hC]at e1;exact a2 _ (Option.some.inj e1).symm
  rw[T8 z2,T8 z1];exact e1
 obtain⟨qs,hqP,_⟩:=id hT2.t2
 have neP:∀ {b:Addr} {ob:HO},H2 b=some ob->(∀ps,ob≠ .tbl ps)->b≠P2:=λ{b ob} e a z=>by rw[z,hqP]at e;exact a _ (Option.some.inj e).symm
 have hm2:Mo H2 (del (del H3 fl) c'):=λb xs e=>e2 b _ e (neP e λps z=>nomatch z) fun φ z=>nomatch z
 have hB3:BR C (del (del H3 fl) c') A S2:=hB2.keep (λb hb ob e=>by
  rcases hB2.own hb with⟨dx,fs,e3⟩|⟨kvs,e3⟩<;>rw[e]at e3<;>cases e3
  ·exact e2 _ _ e (neP e λps z=>nomatch z) fun φ z=>nomatch z
  ·exact e2 _ _ e (neP e λps z=>nomatch z) fun φ z=>nomatch z) hm2
 have FP:FnOk P w K mg base' CX0 4 fl (kla_fn "<lambda>" q2 (lP lx2) (lB lx2) (lS lx2) (clos s.heap.objs.size) ((mg "__name__").getD .none) (.ref c') ctv) ["shape"] (UE C (dF A S2 w2 a2)):=by
  refine QW hfo rfl LA.cd sc2 CA (λvs H Q E h=> ?_) (λA' outer s H vs Q E hr h=> ?_)
  ·obtain⟨S',t,v,rfl,_⟩:=h
   rfl
  obtain⟨S',t,v,rfl,hB',hR,⟨hv,ht⟩,q⟩:=h
  refine⟨_,E5 (pv 1) RM.cl RM.m_shapes_within (DI base') hr RM.b_shapes_within .nil C1 (A0 (pv 0) A4), ?_⟩
  have hR':Alk S2 S':=hR
  refine⟨_,rfl,A.b,A.dx,_,rfl,hB'.b,rfl,_,rfl,A,S',t,v,(kps t).map (shF S2),rfl,hB',hv,ht, ?_,λl us S4 H4 al4 hB4 kq4 hl0 hl hus=> ?_⟩
  ·have:∀xs:List Kn,All2 (shK S') xs (xs.map (shF S2)):=λxs=>by
    induction xs with
    |nil=>exact .nil
    |cons x xs ih=>exact .cons ((AX w2 x).alk hR') ih
   exact this _
  ·refine q l H4 us S4 kq4 hB4 al4 (λ_ h=>h) hl0 hl ?_
   show All2 _ ((kps (shF S2 t)).map (shF S2)) us
   rw[KJ ht]
   refine IZ hus λp hp=> ?_
   obtain⟨z,_,rfl⟩:=mem_map.1 hp
   exact(CI w2 a2 (AX w2 z)).2
 have FM:FnOk P w K mg base' CX0 1 fw dw PV (UW C (dF A S2 w2 a2)):=by
  refine(HG base').imp λvs H Q E h=> ?_
  obtain⟨S',t,v,l,us,n,rfl,hB',hR,⟨hv,ht⟩,hl,hus,hc,q⟩:=h
  have hus:All2 (λk v=>KnAt H (gk (ev (wv S2) k)) v) ((kps (shF S2 t)).map (shF S2)) us:=hus
  rw[KJ ht]at hus
  have hlen:=hus.len
  rw[length_map]at hlen
  have:=X4 t
  refine⟨t,v,l,us,rfl,hv,hl,by omega,λp H' s' hp=> ?_⟩
  refine q _ H' S' (.of s') (hB'.same s') .rfl trivial ?_
  show KnAt H' (gk (ev (wv S2) t)) (.ref p)
  obtain⟨g1,g2,g3⟩:=ZF (v:=wv S2) ht
  refine KnAt.of (us:=us) (by rw[g1];exact hp) ?_
  have hres:All2 (KnAt H') (kps (gk (ev (wv S2) t))) us:=by
   rw[g2]
   have aux:∀(xs:List Kn) (us:List V),All2 (λk v=>KnAt H (gk (ev (wv S2) k)) v) (xs.map (shF S2)) us->All2 (KnAt H') (xs.map λp=>gk (ev (wv S2) p)) us:=λxs=>by
    induction xs with
    |nil=>intro us h;cases h;exact .nil
    |cons x xs ih=>
     intro us h
     cases h with
     |cons h1 h2=>
      refine .cons ?_ (ih _ h2)
      rw[(CI w2 a2 (AX w2 x)).1]at h1
      exact h1.mo (.of s')
   exact aux _ _ hus
  cases hg:gk (ev (wv S2) t)with
  |opn n=>rw[hg]at g3;cases g3
  |_=>rw[hg]at hres;exact hres
 refine⟨dF A S2 w2 a2,shF S1 k,u,fl,fw,_,dw,_,_,rfl,FP,.inr LA.fnAt,.all (λus hl=>match us,hl with| [_],_=>rfl),FM.mono (by decide),.inl HD,HC,hB3,⟨hu.mo hm2,eO⟩, ?_,trivial,λr H' S' kq hB' hR hc hres hf' hc'=> ?_⟩
 ·show gw (ev (wv S2) (shF S1 k))<=4000
  rw[ewv2,ek,ewv];omega
 obtain⟨b1,b2,b3,b4⟩:=JW hfn hC hT3 (Ne.symm hT.ne) (Ne.symm n2) (Ne.symm n3) hK hT2.t2 hB2 hB' kq hT2.t1 hc'
 have hres:KnAt H' (gk (ev (wv S2) (shF S1 k))) r:=hres
 rw[ewv2,ek,ewv]at hres
 have s9:=A5 hc' (CodeO q2 c')
 have k12:=kq1.trans kq2
 exact qa hle S' _ r ((al1.trans al2).trans hR) ⟨b1,b3,b2,hT.ne⟩ (λb ob e n x1 x2=>b4 b ob (k12 b ob e n) n x2) (hres.mo (.of s9))
end
abbrev AO:Stmt:=L1 (top 13) 2
abbrev YW:List Str:=["self","one","other","number","pairs","pair"]
theorem sc_tie:FnScope YW IF (A6 AO):=fS
def PairAt(H:Hp)(x:Int×Int)(y:V):Prop:=∃p,y=.ref p/\H p=some (.tup [.int x.1,.int x.2])
theorem PairAt.mo{H H':Hp}(m:Mo H H'){x:Int×Int}{y:V}(h:PairAt H x y):PairAt H' x y:=let⟨p,e,h⟩:=h;⟨p,e,m _ _ h⟩
theorem aeZ(S:St):fr S<=S.M+S.N:=by
 unfold fr
 exact le_trans (length_filter_le _ _) (le_of_eq Z8)
theorem QX(S:St)(a b:Int):(J3 S a b).length<=2:=by
 unfold J3;split
 ·rename_i s t _ _
  rw[List.length_zip]
  cases s<;>simp[Sh.ps]<;>omega
 ·simp
theorem Grow.two{S S1 S2:St}{a b:Kn}{na nb:Int}(g1:Grow S S1)(r1:S1.Rg na)(e1:∀w,Sol S1 w->w na=ev w a)(g2:Grow S1 S2)(r2:S2.Rg nb)(e2:∀w,Sol S2 w->w nb=ev w b):Two S S2 a b na nb:=
 ⟨g1.trans g2,g2.rg r1,r2,λv hv=>⟨e1 v (g2.back v hv),e2 v hv⟩⟩
section
variable{P:Program}{w:World}{K:FZ}{mg:Str->Option Value}{base:Heap}{C P1 P2 cN:Addr}{gf:Str->Addr}{gd:Str->FuncData}
inductive spTieW(C P1 P2 cN:Addr)(vs:List V)(H:Hp)(Q:VK)(E:XK):Prop
 |mk:∀(A:Ad) (S:St) (T:GC) (a b:Kn) (va vb:V),(vs=[.ref A.b,va,vb])->(BT C P1 P2 H A S)->(PInv S T)->(KnAt H a va)->(KnAt H b vb)->(Told S a)->(Told S b)->(S.M+S.N+ks a+ks b<=5000)->(ks a<=1000)->(ks b<=1000)->((∀S' H',PInv S' (T++ [(a,b)])->BT C P1 P2 H' A S'->Kt P1 P2 A H H'->S'.N=S.N->S'.M<=S.M+ks a+ks b->Q .non H'))->(((∀f,¬Sat (T++ [(a,b)]) f)->∀H',E (.ref cN) none H'))->spTieW C P1 P2 cN vs H Q E
def SR(C P1 P2 cN:Addr):Sp:=λvs H Q E=>spTieW C P1 P2 cN vs H Q E
theorem ok_tie(F:Fun K "tie" "Bonds.tie" AO (gf "tie") (gd "tie"))(RM:BCls K C gf gd)
  (CW:FnOk P w K mg base CX0 6 (gf "number_of") (gd "number_of") T0 (KG C P1 P2))
  (Q0:FnOk P w K mg base CX0 1 (gf "last_of") (gd "last_of") GB (IG C))
  (KO:FnOk P w K mg base (CXr P w) 3 (gf "tie_tops") (gd "tie_tops") IF (OX C cN))
  (W4:FnOk P w K mg base (CXr P w) 3 (gf "refuse_within_itself") (gd "refuse_within_itself") GB (JA C cN)):
  FnOk P w K mg base (CXr P w) 7 (gf "tie") (gd "tie") IF (SR C P1 P2 cN):=by
 refine F.okX sc_tie (λvs H Q E h=> ?_) (λcdv A outer s H vs Q E hr h=> ?_)
 ·obtain⟨A,S,T,a,b,va,vb,rfl,_⟩:=h
  rfl
 obtain⟨A,S,T,a,b,va,vb,rfl,hT,hP,ha,hb,ta,tb,hsz,ka,kb,qa,qb⟩:=h
 have nd:=sc_tie.nd
 have hu:=hr.units0
 have z1:(1:Nat)<=sizeLine:=by decide
 have z2:(2:Nat)<=sizeLine:=by decide
 have z5:(40000:Nat)<sizeLine:=by decide
 refine⟨_,(A7 (C7 (i:=3) nd rfl (Or.inl rfl) (E5 (pv 0) RM.cl RM.m_number_of CW (hr.mono (by omega)) RM.b_number_of .nil C1 (A0 (pv 1) A4)))
   (A7 (C7 (i:=4) nd rfl (Or.inl rfl) (P6 (A0 (B5 (A0 (pv 3) (A0 (E5 (pv 0) RM.cl RM.m_number_of CW (hr.mono (by omega)) RM.b_number_of .nil C1 (A0 (pv 2) A4)) A4))) A4)))
   (A7 (G9 (Z5 PassesOwn.leaving (E1 (K:=K) (pv 4) (λ_=>rfl)) (A7 (C7 (i:=5) nd rfl (Or.inl rfl) (GM (K:=K) PySem.F.plainAttrs_list PySem.F.slot_list_pop PySem.F.type_list_pop CN (pv 4)))
   (A8 (O3 (JM (K:=K) PySem.F.plainAttrs_list PySem.F.slot_list_extend PySem.F.type_list_extend AK (pv 4) (A0 (E5 (pv 0) RM.cl RM.m_tie_tops KO (hr.mono (by omega)) RM.b_tie_tops .nil BQ (A0 (E5 (pv 0) RM.cl RM.m_last_of Q0 (hr.mono (by omega)) RM.b_last_of .nil C1 (A0 (ixE K w (pv 5) A9) A4)) (A0 (E5 (pv 0) RM.cl RM.m_last_of Q0 (hr.mono (by omega)) RM.b_last_of .nil C1 (A0 (ixE K w (pv 5) A9) A4)) A4))) A4)))))))
   (A8 (O3 (E5 (pv 0) RM.cl RM.m_refuse_within_itself W4 (hr.mono (by omega)) RM.b_refuse_within_itself .nil BQ (A0 (pv 3) A4))))))), ?_⟩
 refine⟨_,rfl,A.b,A.dx,_,rfl,hT.br.b,rfl,_,rfl,A,S,a,va,rfl,hT,ha,ta,by omega,ka,λna S1 H1 hT1 k1 g1 m1 r1 e1=> ?_⟩
 have hn1:S1.N=S.N:=g1.n
 have tb1:Told S1 b:=λn hn=>by rw[hn1];exact tb n hn
 refine⟨_,rfl,_,rfl,A.b,A.dx,_,rfl,hT1.br.b,rfl,_,rfl,A,S1,b,vb,rfl,hT1,hb.mo (hT.mo k1),tb1,by omega,kb,λnb S2 H2 hT2 k2 g2 m2 r2 e2=> ?_⟩
 have hn2:S2.N=S1.N:=g2.n
 have two:=Grow.two g1 r1 e1 g2 r2 e2
 have k02:=k1.trans k2
 refine⟨z2,λp0 hp0=>⟨z1,λpl hpl0=> ?_⟩⟩
 have s3:=A5 hp0 (.tup [.int na,.int nb])
 have s4:=A5 hpl0 (.lst [.ref p0])
 have s34:=s3.trans s4
 have hpl:H2 pl=none:=s3.free hpl0
 have hT3:=hT2.kq (.of s34) (hT2.br.same s34)
 have hfl:=aeZ S2
 have k0:Kt P1 P2 A H (upd (upd H2 p0 (.tup [.int na,.int nb])) pl (.lst [.ref p0])):=k02.trans (.of (.of s34))
 have hplH:H pl=none:=hT2.free k02 hpl
 refine⟨fun σ H'=>∃(S':St) (y:Option V),σ=[some (.ref A.b),some va,some vb,some (.int na),some (.ref pl),y]/\BT C P1 P2 H' A S'/\Kt P1 P2 A H H'/\TL S2 S' na nb [], ?_, ?_⟩
 ·refine⟨λm σ H'=>∃(Pl:List (Int×Int)) (ps:List V) (S':St) (y:Option V),σ=[some (.ref A.b),some va,some vb,some (.int na),some (.ref pl),y]/\BT C P1 P2 H' A S'/\Kt P1 P2 A H H'/\H' pl=some (.lst ps)/\All2 (PairAt H') Pl ps/\TL S2 S' na nb Pl/\m=3*fr S'+Pl.length/\m<=3*(S2.M+S2.N)+1,
   ⟨_,[(na,nb)],[.ref p0],S2,_,rfl,hT3,k0,A3,.cons ⟨p0,rfl,s4 _ _ A3⟩ .nil,.start hT2.br.wf two.ra two.rb,rfl,by simp;omega⟩, ?_⟩
  rintro m σ H' ⟨Pl,ps,S',y,rfl,hT',k',hp,hPl,tl,rfl,hm⟩
  refine⟨_,rfl, !ps.isEmpty,.inl ⟨ps,SqL.of hp,rfl⟩, ?_⟩
  have hlen:=hPl.len
  rcases List.eq_nil_or_concat Pl with rfl|⟨P0,x,rfl⟩
  ·have:ps=[]:=List.length_eq_zero_iff.mp (by simpa using hlen.symm)
   subst this
   exact ifF (by simp) ⟨S',y,rfl,hT',k',tl⟩
  ·rw[List.concat_eq_append]at*
   obtain⟨w0,w1,rfl,h0,h1⟩:=hPl.split
   cases h1 with
   | @cons _ u _ _ hx h2=>
    cases h2
    obtain⟨px,rfl,hpx⟩:=hx
    obtain⟨xa,xb⟩:=x
    refine ifT (by simp) ⟨_,λ_ _ h=>h, ?_⟩
    refine⟨_,rfl,.inl ⟨rfl,_,SqL.of hp⟩,pl,_,.ref px,rfl,rfl,hp,by simp, ?_⟩
    rw[List.dropLast_concat]
    have hB':=hT'.br
    have npl:pl∉A.own:=hB'.nlst hp
    have m1:Mo H' (upd H' pl (.lst w0)):=λb xs e=>B2 e λz=>by rw[z,hp]at e;cases e
    have hT4:=hT'.updL hp (.lst w0)
    have k4:Kt P1 P2 A H (upd H' pl (.lst w0)):=λb ob e n a c=>B2 (k' _ _ e n a c) (B0 e hplH)
    have hp4:upd H' pl (.lst w0) pl=some (.lst w0):=A3
    generalize upd H' pl (.lst w0)=H4 at m1 hT4 k4 hp4⊢
    have hB4:=hT4.br
    obtain⟨ra,la⟩:=hB4.wf.tot xa
    obtain⟨rb,lb⟩:=hB4.wf.tot xb
    refine⟨_,rfl,.inl ⟨rfl,_,SqL.of hp4⟩,_,rfl,A.b,A.dx,_,rfl,hB4.b,rfl,_,rfl,A.b,A.dx,_,rfl,hB4.b,rfl,_,rfl,(ixT (v:=.int xa) (m1 _ _ hpx) rfl ?_)⟩
    refine⟨A,S',xa,ra,rfl,hB4,la,λS5 H5 al5 hB5 kq5=> ?_⟩
    have m5:=m1.trans (hB4.mo kq5)
    have lb5:=al5.l _ _ lb
    refine⟨_,rfl,A.b,A.dx,_,rfl,hB5.b,rfl,_,rfl,(ixT (v:=.int xb) (m5 _ _ hpx) rfl ?_)⟩
    refine⟨A,S5,xb,rb,rfl,hB5,lb5,λS6 H6 al6 hB6 kq6=> ?_⟩
    have m6:=m5.trans (hB5.mo kq6)
    have al56:=al5.trans al6
    have la6:=al56.l _ _ la
    have lb6:=al56.l _ _ lb
    have kq56:=kq5.trans kq6
    have hT6:=hT4.kq kq56 hB6
    have k6:=k4.trans (.of kq56)
    have tl6:=tl.alk al56 hB6.wf
    have hpl6:=kq56 _ _ hp4 (hB4.nlst hp4)
    have h06:=h0.imp λ_ _ h=>h.mo m6
    have efr:=PL al56 hB'.wf
    have rgx:=tl6.rg (xa,xb) (by simp)
    have rga:=la6.rg hB6.wf rgx.1
    have rgb:=lb6.rg hB6.wf rgx.2
    have hl0:=h0.len
    simp only[length_append,length_singleton]at hm
    refine⟨A,S6,ra,rb,rfl,hB6,la6.top,lb6.top,rga,rgb,λeab l H7 s7 hl0' hl7=> ?_,λnab nc l us H7 kq7 hB7 hl0' hl7 hus=> ?_,λnab hc H7 kq7=> ?_⟩
    ·subst eab
     have hp7:=s7 _ _ hpl6
     refine⟨pl,l,w0,[],rfl,rfl,hp7,hl7,by simp;omega, ?_⟩
     rw[append_nil]
     refine⟨3*fr S6+P0.length,by simp;omega,P0,w0,S6,_,rfl,(hT6.same s7).updL hp7 _,λb ob e n a c=>B2 (s7 _ _ (k6 _ _ e n a c)) (B0 e hplH),A3, ?_,tl6.same la6 lb6,rfl,by omega⟩
     exact h06.imp λ_ _ h=>(h.mo (.of s7)).mo λb xs e=>B2 e λz=>by rw[z,hp7]at e;cases e
    ·have hp7:=kq7 _ _ hpl6 (hB6.nlst hpl6)
     have hT7:=hT6.kq kq7 hB7
     have hul:=hus.len
     have hjl:=QX S6 ra rb
     have hfj:=HZ (b:=rb) la6.top rga
     refine⟨pl,l,w0,us,rfl,rfl,hp7,hl7,by omega, ?_⟩
     have m8:Mo H7 (upd H7 pl (.lst (w0++us))):=λb xs e=>B2 e λz=>by rw[z,hp7]at e;cases e
     refine⟨3*fr (S6.join ra rb)+(P0++J3 S6 ra rb).length,by rw[length_append,length_append,length_singleton];omega,P0++J3 S6 ra rb,w0++us,S6.join ra rb,_,rfl,hT7.updL hp7 _,λb ob e n a c=>B2 (kq7 _ _ (k6 _ _ e n a c) n) (B0 e hplH),A3, ?_,tl6.step la6 lb6 nab nc,rfl,by rw[length_append];omega⟩
     exact(h06.imp λ_ _ h=>(h.mo (hB6.mo kq7)).mo m8).app (hus.imp λ_ _ h=>PairAt.mo m8 h)
    ·exact qb (OT hP two ta tb tl6 la6 lb6 hc) H7
 ·rintro σ H' ⟨S',y,rfl,hT',k',tl⟩
  have rk:S'.Rg na:=by
   have:=two.ra
   refine⟨?_, ?_⟩
   ·rw[tl.m];exact this.1
   ·rw[tl.n];exact this.2
  refine⟨_,rfl,A.b,A.dx,_,rfl,hT'.br.b,rfl,_,rfl,A,S',na,rfl,hT'.br,rk,λS4 H4 hv al hB4 kq=> ?_,λhn H4 kq=> ?_⟩
  ·refine qa S4 H4 (QL hP two ta tb (tl.alk al hB4.wf) hv) (hT'.kq kq hB4) (k'.trans (.of kq)) ?_ ?_
   ·rw[al.n,tl.n];omega
   ·rw[al.m,tl.m];omega
  ·exact qb (OL hP two ta tb tl hn) H4
end
end BN
namespace BN
open PySem L2 BV PySem.Spec PyProof.Rows
inductive It|s (x:Str)|i (n:Int)|k (k:Kn)
 deriving DecidableEq
def its:Kn->List It
 | .opn n=> [.s "open",.i n]
 | .num=> [.s "number"]
 | .tru=> [.s "truth"]
 | .lst a=> [.s "list",.k a]
 | .fn a b=> [.s "fn",.k a,.k b]
theorem US{k k':Kn}(h:its k=its k'):k=k':=by
 cases k<;>cases k'<;>simp[its]at h<;>first|rfl|(simp[h];done)|(exfalso;revert h;decide)|(obtain⟨h,_⟩:=h;exfalso;revert h;decide)
def XG(H:Hp):It->V->Prop
 | .s x,v=>v=.str x
 | .i n,v=>v=.int n
 | .k k,v=>KnAt H k v
theorem KnAt.its{H:Hp}{k:Kn}{v:V}(h:KnAt H k v):∃p us,v=.ref p/\H p=some (.tup us)/\All2 (XG H) (its k) us:=by
 cases k with
 |opn n=>obtain⟨p,e,h⟩:=h;exact⟨p,_,e,h,.cons rfl (.cons rfl .nil)⟩
 |num=>obtain⟨p,e,h⟩:=h;exact⟨p,_,e,h,.cons rfl .nil⟩
 |tru=>obtain⟨p,e,h⟩:=h;exact⟨p,_,e,h,.cons rfl .nil⟩
 |lst a=>obtain⟨p,x,e,h,h1⟩:=h;exact⟨p,_,e,h,.cons rfl (.cons h1 .nil)⟩
 |fn a b=>obtain⟨p,x,y,e,h,h1,h2⟩:=h;exact⟨p,_,e,h,.cons rfl (.cons h1 (.cons h2 .nil))⟩
theorem LD{k k':Kn}(h:It.k k'∈its k):dp k'<dp k:=by
 cases k with
 |lst a=>simp[its]at h;subst h;simp[dp]
 |fn a b=>simp[its]at h;rcases h with rfl|rfl<;>simp[dp]<;>omega
 |_=>simp[its]at h
theorem KnAt.inj{H:Hp}:∀ {k k':Kn} {v:V},KnAt H k v->KnAt H k' v->k=k':=by
 intro k
 induction k with
 |opn n=>
  intro k' v h h'
  obtain⟨p,rfl,h⟩:=h
  cases k' with
  |opn m=>obtain⟨p',e,h'⟩:=h';cases e;rw[h]at h';cases h';rfl
  |lst a=>obtain⟨p',x,e,h',_⟩:=h';cases e;rw[h]at h';injection h' with h';injection h' with h';injection h' with h' _;injection h' with h';exact absurd h' (by decide)
  |fn a b=>obtain⟨p',x,y,e,h',_⟩:=h';cases e;rw[h]at h';cases h'
  |num=>obtain⟨p',e,h'⟩:=h';cases e;rw[h]at h';cases h'
  |tru=>obtain⟨p',e,h'⟩:=h';cases e;rw[h]at h';cases h'
 |num=>
  intro k' v h h'
  obtain⟨p,rfl,h⟩:=h
  cases k' with
  |num=>rfl
  |tru=>obtain⟨p',e,h'⟩:=h';cases e;rw[h]at h';injection h' with h';injection h' with h';injection h' with h' _;injection h' with h';exact absurd h' (by decide)
  |opn m=>obtain⟨p',e,h'⟩:=h';cases e;rw[h]at h';cases h'
  |lst a=>obtain⟨p',x,e,h',_⟩:=h';cases e;rw[h]at h';cases h'
  |fn a b=>obtain⟨p',x,y,e,h',_⟩:=h';cases e;rw[h]at h';cases h'
 |tru=>
  intro k' v h h'
  obtain⟨p,rfl,h⟩:=h
  cases k' with
  |tru=>rfl
  |num=>obtain⟨p',e,h'⟩:=h';cases e;rw[h]at h';injection h' with h';injection h' with h';injection h' with h' _;injection h' with h';exact absurd h' (by decide)
  |opn m=>obtain⟨p',e,h'⟩:=h';cases e;rw[h]at h';cases h'
  |lst a=>obtain⟨p',x,e,h',_⟩:=h';cases e;rw[h]at h';cases h'
  |fn a b=>obtain⟨p',x,y,e,h',_⟩:=h';cases e;rw[h]at h';cases h'
 |lst a ih=>
  intro k' v h h'
  obtain⟨p,x,rfl,h,h1⟩:=h
  cases k' with
  |lst a'=>obtain⟨p',x',e,h',h1'⟩:=h';cases e;rw[h]at h';cases h';rw[ih h1 h1']
  |opn m=>obtain⟨p',e,h'⟩:=h';cases e;rw[h]at h';injection h' with h';injection h' with h';injection h' with h' _;injection h' with h';exact absurd h' (by decide)
  |num=>obtain⟨p',e,h'⟩:=h';cases e;rw[h]at h';cases h'
  |tru=>obtain⟨p',e,h'⟩:=h';cases e;rw[h]at h';cases h'
  |fn a b=>obtain⟨p',x,y,e,h',_⟩:=h';cases e;rw[h]at h';cases h'
 |fn a b ih ih2=>
  intro k' v h h'
  obtain⟨p,x,y,rfl,h,h1,h2⟩:=h
  cases k' with
  |fn a' b'=>obtain⟨p',x',y',e,h',h1',h2'⟩:=h';cases e;rw[h]at h';cases h';rw[ih h1 h1',ih2 h2 h2']
  |opn m=>obtain⟨p',e,h'⟩:=h';cases e;rw[h]at h';cases h'
  |num=>obtain⟨p',e,h'⟩:=h';cases e;rw[h]at h';cases h'
  |tru=>obtain⟨p',e,h'⟩:=h';cases e;rw[h]at h';cases h'
  |lst a=>obtain⟨p',x,e,h',_⟩:=h';cases e;rw[h]at h';cases h'
section
variable{X:Cx}{K:FZ}{pins:List (Addr×Obj)}{σ:L2.St}{H:Hp}{s:Shared}
theorem CL{α:Type}[DecidableEq α](as bs:List α):((List.range (min as.length bs.length)).all (λj=>decide (as[j]? =bs[j]?))&&as.length==bs.length)=decide (as=bs):=by
 rw[Bool.eq_iff_iff]
 simp only[Bool.and_eq_true,List.all_eq_true,mem_range,decide_eq_true_eq,beq_iff_eq]
 constructor
 ·intro⟨h,hl⟩
  apply List.ext_getElem? λj=> ?_
  by_cases hj:j<as.length
  ·exact h j (by omega)
  ·rw[List.getElem?_eq_none (by omega),List.getElem?_eq_none (by omega)]
 ·intro h;subst h;simp
theorem HV(I:Inv X pins σ H s){A:Around}{k k':Kn}{xs ys:List V}{ia ib:List Value}(h3:A.units<cLine)(hxs:All2 (XG H) (its k) xs)(hys:All2 (XG H) (its k') ys)(r:Vals xs ia)(r2:Vals ys ib)
  (ih:∀(k1 k2:Kn) (x y:V) (u v:Value),It.k k1∈its k->KnAt H k1 x->KnAt H k2 y->RelV x u->RelV y v->SeqAt.EqAt A s u v (decide (k1=k2)))
  (j:Nat)(g1:j<ia.toArray.size)(g2:j<ib.toArray.size):SeqAt.EqAt A s ia.toArray[j] ib.toArray[j] (decide ((its k)[j]? =(its k')[j]?)):=by
 obtain⟨x,hx,rx⟩:=JS r g1
 obtain⟨y,hy,ry⟩:=JS r2 g2
 obtain⟨p,hp,px⟩:=hxs.get hx
 obtain⟨q,hq,qy⟩:=hys.get hy
 have tupOf:∀ {k:Kn} {x:V} {u:Value},KnAt H k x->RelV x u->∃c its,u=.ref c/\s.heap.IsTuple c its:=λ{k x u} h r=>by
  obtain⟨c,zs,rfl,hc,_⟩:=h.its
  cases r
  obtain⟨ic,_,pc,_⟩:=I.tuple (SqT.of (K:=X.K) hc)
  exact⟨c,_,rfl,pc⟩
 rw[hp,hq]
 cases p with
 |s z=>
  cases(px:x=_);obtain⟨t1,e1⟩:=rx;rw[e1]
  cases q with
  |s z'=>
   cases(qy:y=_);obtain⟨t2,e2⟩:=ry;rw[e2]
   have:=SeqAt.EqAt.str_str (A:=A) (s:=s) z t1 z' t2
   rw[show decide (some (It.s z)=some (It.s z'))=(z==z') by rw[Bool.eq_iff_iff];simp]
   exact this
  |i m=>cases(qy:y=_);obtain⟨t2,e2⟩:=ry;rw[e2];exact SeqAt.EqAt.str_int _ _ _ _
  |k k2=>obtain⟨c,ic,e2,hc⟩:=tupOf qy ry;rw[e2];exact SeqAt.EqAt.str_tuple _ _ hc h3
 |i m=>
  cases(px:x=_);obtain⟨t1,e1⟩:=rx;rw[e1]
  cases q with
  |s z'=>cases(qy:y=_);obtain⟨t2,e2⟩:=ry;rw[e2];exact SeqAt.EqAt.int_str _ _ _ _
  |i m'=>
   cases(qy:y=_);obtain⟨t2,e2⟩:=ry;rw[e2]
   have:=SeqAt.EqAt.int_int (A:=A) (s:=s) m t1 m' t2
   rw[show decide (some (It.i m)=some (It.i m'))=(m==m') by rw[Bool.eq_iff_iff];simp]
   exact this
  |k k2=>obtain⟨c,ic,e2,hc⟩:=tupOf qy ry;rw[e2];exact SeqAt.EqAt.int_tuple _ _ hc h3
 |k k1=>
  cases q with
  |s z'=>obtain⟨c,ic,e1,hc⟩:=tupOf px rx;cases(qy:y=_);obtain⟨t2,e2⟩:=ry;rw[e1,e2];exact SeqAt.EqAt.tuple_str _ _ hc h3
  |i m=>obtain⟨c,ic,e1,hc⟩:=tupOf px rx;cases(qy:y=_);obtain⟨t2,e2⟩:=ry;rw[e1,e2];exact SeqAt.EqAt.tuple_int _ _ hc h3
  |k k2=>
   rw[show decide (some (It.k k1)=some (It.k k2))=decide (k1=k2) by rw[Bool.eq_iff_iff];simp]
   exact ih k1 k2 x y _ _ (mem_of_getElem? hp) px qy rx ry
theorem IJ(k k':Kn):decide (k=k')=decide (its k=its k'):=by
 by_cases h:k=k'
 ·subst h;simp
 ·rw[decide_eq_false h,decide_eq_false λz=>h (US z)]
theorem MG(I:Inv X pins σ H s)(n:Nat):∀(A:Around) (k k':Kn) (x y:V) (u v:Value),A.units+n<cLine->dp k<=n->KnAt H k x->KnAt H k' y->RelV x u->RelV y v->SeqAt.EqAt A s u v (decide (k=k')):=by
 induction n with
 |zero=>intro A k k' x y u v _ hd;cases k<;>simp[dp]at hd
 |succ n ih=>
  intro A k k' x y u v hu hd hk hk' rx ry
  obtain⟨a,xs,rfl,ha,hxs⟩:=hk.its
  obtain⟨b,ys,rfl,hb,hys⟩:=hk'.its
  cases rx;cases ry
  by_cases e:a=b
  ·subst e
   rw[decide_eq_true (hk.inj hk')]
   exact SeqAt.EqAt.same _
  ·refine SeqAt.EqAt.of_refs e ?_
   have h2:A.in1.units+n<cLine:=by show A.units+1+n<cLine;omega
   obtain⟨ia,r,pl,_⟩:=I.tuple (SqT.of (K:=X.K) ha)
   obtain⟨ib,r2,pl2,_⟩:=I.tuple (SqT.of (K:=X.K) hb)
   have h:=SeqAt.RcAt.tuples (A:=A) (s:=s) (e:=λj=>decide ((its k)[j]? =(its k')[j]?)) pl pl2 (by omega) (λj g1 g2=>HV I (by omega) hxs hys r r2 (λk1 k2 x y u v hm p q rx ry=>ih A.in1 k1 k2 x y u v h2 (by have:=LD hm;omega) p q rx ry) j g1 g2)
   have l1:ia.toArray.size=(its k).length:=by rw[size_toArray,<-r.length];exact hxs.len.symm
   have l2:ib.toArray.size=(its k').length:=by rw[size_toArray,<-r2.length];exact hys.len.symm
   rw[l1,l2,CL]at h
   rw[IJ];exact h
def aFZ:R2:=λx y H Q=>∃k k':Kn,KnAt H k x/\KnAt H k' y/\dp k<=150/\Q (.bl (decide (k=k'))) H
def aTZ:R2:=λx y H Q=>∃k k':Kn,KnAt H k x/\KnAt H k' y/\dp k<=150/\Q (.bl (!decide (k=k'))) H
theorem YS(hu:X.A.units+160<cLine):OpR X (compareOp .Eq) aFZ:=by
 intro pins s σ H x y v u Q I rx ry h
 obtain⟨k,k',hk,hk',hd,q⟩:=h
 obtain⟨a,xs,rfl,ha,hxs⟩:=hk.its
 obtain⟨b,ys,rfl,hb,hys⟩:=hk'.its
 cases rx;cases ry
 have h2:X.A.in1.units+150<cLine:=by show X.A.units+1+150<cLine;omega
 obtain⟨ia,r,pl,_⟩:=I.tuple (SqT.of (K:=X.K) ha)
 obtain⟨ib,r2,pl2,_⟩:=I.tuple (SqT.of (K:=X.K) hb)
 have l1:ia.toArray.size=(its k).length:=by rw[size_toArray,<-r.length];exact hxs.len.symm
 have l2:ib.toArray.size=(its k').length:=by rw[size_toArray,<-r2.length];exact hys.len.symm
 refine SeqAt.RcAt.tuples (e:=λj=>decide ((its k)[j]? =(its k')[j]?)) pl pl2 (by omega) (λj g1 g2=>HV I (by omega) hxs hys r r2 (λk1 k2 x y u v hm p q rx ry=>MG I 150 X.A.in1 k1 k2 x y u v h2 (by have:=LD hm;omega) p q rx ry) j g1 g2) X.prog X.w X.xe _ ⟨.bl (decide (k=k')),H,I, ?_,q⟩
 rw[l1,l2,CL,<-IJ];rfl
theorem QF(hu:X.A.units+160<cLine):OpR X (compareOp .NotEq) aTZ:=by
 intro pins s σ H x y v u Q I rx ry h
 obtain⟨k,k',hk,hk',hd,q⟩:=h
 obtain⟨a,xs,rfl,ha,hxs⟩:=hk.its
 obtain⟨b,ys,rfl,hb,hys⟩:=hk'.its
 cases rx;cases ry
 have h2:X.A.in1.units+150<cLine:=by show X.A.units+1+150<cLine;omega
 obtain⟨ia,r,pl,_⟩:=I.tuple (SqT.of (K:=X.K) ha)
 obtain⟨ib,r2,pl2,_⟩:=I.tuple (SqT.of (K:=X.K) hb)
 have l1:ia.toArray.size=(its k).length:=by rw[size_toArray,<-r.length];exact hxs.len.symm
 have l2:ib.toArray.size=(its k').length:=by rw[size_toArray,<-r2.length];exact hys.len.symm
 refine SeqAt.RcNeAt.tuples (e:=λj=>decide ((its k)[j]? =(its k')[j]?)) pl pl2 (by omega) (λj g1 g2=>HV I (by omega) hxs hys r r2 (λk1 k2 x y u v hm p q rx ry=>MG I 150 X.A.in1 k1 k2 x y u v h2 (by have:=LD hm;omega) p q rx ry) j g1 g2) X.prog X.w X.xe _ ⟨.bl (!decide (k=k')),H,I, ?_,q⟩
 rw[l1,l2,CL,<-IJ];rfl
theorem Room.u160{j:Nat}{A:Around}(r:Room j A):A.units+160<cLine:=by have:=r.un;omega
end
end BN
namespace BN
open PySem L2 BV
seal PE PT PW PA PS PSs PTs PI PG PGs PO
abbrev T9:Stmt:=top 18
abbrev BF:Stmt:=top 19
abbrev AW:Stmt:=top 20
abbrev BE:Stmt:=top 21
abbrev GA:List Str:=["_law_script","_law_k"]
theorem sc_law_cell_at:FnScope GA YI (A6 T9):=fS
abbrev LV:List Str:=["_law_number","_law_many"]
theorem sc_law_open:FnScope LV VT (A6 BF):=fS
abbrev LH:List Str:=["_law_number","_law_many","_law_least","_law_left","_law_one","_law_other"]
theorem sc_law_form:FnScope LH YL (A6 AW):=fS
abbrev LB:List Str:=["_law_cell","_law_many","_law_rest","_law_at"]
theorem sc_law_pair:FnScope LB q5L (A6 BE):=fS
structure Lk (many:Int) (k:Kn):Prop where
 lt:∀n∈k.vs,0<=n/\n<many
 ks:ks k<=5
 nv:(nv k).length<=3
section
variable{P:Program}{w:World}{K:FZ}{mg:Str->Option Value}{base:Heap}{f KM KW:Addr}{fd KQ KR:FuncData}
inductive spCellW(K:FZ)(vs:List V)(H:Hp)(Q:VK):Prop
 |mk:∀(a:Addr) (ns:List Int) (k:Nat),(vs=[.ref a,.int (k:Nat)])->(SqL K H a (ns.map V.int))->(∀m:Int,Q (.int m) H)->spCellW K vs H Q
def PZ(K:FZ):Sp:=λvs H Q _=>spCellW K vs H Q
theorem ok_law_cell_at(F:Fun K "_law_cell_at" "_law_cell_at" T9 f fd)(B:NoG mg):FnOk P w K mg base CX0 1 f fd YI (PZ K):=by
 refine F.ok sc_law_cell_at (λvs H Q E h=> ?_) (λcdv A outer s H vs Q E hr h=> ?_)
 ·obtain⟨a,ns,k,rfl,_⟩:=h
  rfl
 obtain⟨a,ns,k,rfl,ha,q⟩:=h
 have nd:=sc_law_cell_at.nd
 have hu:=hr.units0
 refine⟨_,(A7 (D6 (C5 VE (pv 1) (E8 (VF (K:=K)) rfl B.len_ RA (A0 (pv 0) A4)) rfl) (A8 (B4 (ixE K w (pv 0) (pv 1)))) C2)
   (A8 (B4 A9))), ?_⟩
 refine⟨_,rfl,_,rfl,_,_,rfl,.inl ⟨_,ha,rfl⟩,_,_,rfl,rfl,_,rfl, ?_⟩
 rw[length_map]
 by_cases h:k<ns.length
 ·refine ifT (by simp;omega) ⟨_,rfl,_,rfl,.inl ⟨a,_,(k:Nat),.int ns[k],rfl,rfl,ha,L3 (by simp[h]),q _⟩⟩
 ·exact ifF (by simp;omega) (q _)
inductive spLOpenW (vs:List V) (H:Hp) (Q:VK):Prop
 |mk:∀(n many:Int),(vs=[.int n,.int many])->(1<=many)->(many<=9)->(∀m v H',Same H H'->KnAt H' (.opn m) v->0<=m->m<many->Q v H')->spLOpenW vs H Q
def MJ:Sp:=λvs H Q _=>spLOpenW vs H Q
theorem ok_law_open(F:Fun K "_law_open" "_law_open" BF f fd):FnOk P w K mg base CX0 1 f fd VT MJ:=by
 refine F.ok sc_law_open (λvs H Q E h=> ?_) (λcdv A outer s H vs Q E hr h=> ?_)
 ·obtain⟨n,many,rfl,_⟩:=h
  rfl
 obtain⟨n,many,rfl,h1,h9,q⟩:=h
 have nd:=sc_law_open.nd
 have hu:=hr.units0
 refine⟨_,(A8 (B4 (B5 (A0 B9 (A0 (C6 M0 (pv 0) (pv 1)) A4))))), ?_⟩
 refine⟨_,rfl,_,rfl,_,_,rfl,rfl,(by show(0:Int)<many;omega),(by show 2<=sizeLine;decide),λp hp=> ?_⟩
 exact q (n%many) _ _ (A5 hp _) ⟨p,rfl,A3⟩ (Int.emod_nonneg _ (by omega)) (Int.emod_lt_of_pos _ (by omega))
inductive spFormW (vs:List V) (H:Hp) (Q:VK):Prop
 |mk:∀(n many least:Int),(vs=[.int n,.int many,.int least])->(1<=many)->(many<=9)->(0<=least)->(∀k v H',Same H H'->KnAt H' k v->(∀n∈k.vs,0<=n/\n<many)->ks k<=3->(nv k).length<=2->Q v H')->spFormW vs H Q
def SD:Sp:=λvs H Q _=>spFormW vs H Q
theorem ok_law_form(F:Fun K "_law_form" "_law_form" AW f fd)(B:NoG mg):FnOk P w K mg base CX0 1 f fd YL SD:=by
 refine F.ok sc_law_form (λvs H Q E h=> ?_) (λcdv A outer s H vs Q E hr h=> ?_)
 ·obtain⟨n,many,least,rfl,_⟩:=h
  rfl
 obtain⟨n,many,least,rfl,h1,h9,h0,q⟩:=h
 have nd:=sc_law_form.nd
 have hu:=hr.units0
 have z1:(1:Nat)<=sizeLine:=by decide
 have z2:(2:Nat)<=sizeLine:=by decide
 have z3:(3:Nat)<=sizeLine:=by decide
 have z5:(5:Nat)<=sizeLine:=by decide
 refine⟨_,(A7 (C7 (i:=3) nd rfl (Or.inl rfl) (E8 (ZI (K:=K) rfl) rfl B.max_ YE (A0 A9 (A0 (C6 BD (pv 1) (pv 2)) A4))))
   (A7 (C7 (i:=4) nd rfl (Or.inl rfl) (B5 (A0 B9 (A0 (E8 (CM rfl) rfl B.min_ LG (A0 (C6 BD (pv 1) A9) (A0 (C6 (P3 (K:=K)) (pv 2) (C6 M0 (C6 M4 (pv 0) A9) (pv 3))) A4))) A4))))
   (A7 (C7 (i:=5) nd rfl (Or.inl rfl) (B5 (A0 B9 (A0 (E8 (CM rfl) rfl B.min_ LG (A0 (C6 BD (pv 1) A9) (A0 (C6 (P3 (K:=K)) (pv 2) (C6 M0 (C6 M4 (pv 0) A9) (pv 3))) A4))) A4))))
   (A8 (B4 (ixE K w (P6 (A0 (B5 (A0 B9 A4)) (A0 (B5 (A0 B9 A4)) (A0 (B5 (A0 B9 (A0 (pv 4) A4))) (A0 (B5 (A0 B9 (A0 (pv 4) (A0 (pv 5) A4)))) (A0 (B5 (A0 B9 (A0 (B5 (A0 B9 (A0 (pv 5) A4))) A4))) A4)))))) (C6 M0 (pv 0) A9))))))), ?_⟩
 refine⟨_,rfl,_,rfl,_,_,rfl,rfl,.inl ⟨_,_,rfl, ?_⟩⟩
 generalize hl:(if many - least>1 then many - least else 1)=left
 have hl1:1<=left:=by rw[<-hl];split<;>omega
 have hlp:(0:Int)<left:=by omega
 have mn:∀z:Int,∃m:Int,(if least+z%left<many - 1 then least+z%left else many - 1)=m/\0<=m/\m<many:=λz=>by
  have:=Int.emod_nonneg z (show left≠0 by omega)
  refine⟨_,rfl, ?_⟩
  split<;>omega
 refine⟨_,rfl,_,_,rfl,rfl,_,rfl,_,rfl,_,_,rfl,rfl,⟨by decide,by decide⟩,_,rfl,_,_,rfl,rfl,hlp,.inl ⟨_,_,rfl,rfl,_,_,rfl,z2,λp1 hp1=> ?_⟩⟩
 obtain⟨m1,e1,a1,b1⟩:=mn (n/5)
 rw[e1]at*
 have s1:=A5 hp1 (.tup [.str "open",.int m1])
 refine⟨_,rfl,_,_,rfl,rfl,_,rfl,_,rfl,_,_,rfl,rfl,⟨by decide,by decide⟩,_,rfl,_,_,rfl,rfl,hlp,.inl ⟨_,_,rfl,rfl,_,_,rfl,z2,λp2 hp2=> ?_⟩⟩
 obtain⟨m2,e2,a2,b2⟩:=mn (n/55)
 rw[e2]at*
 have s2:=A5 hp2 (.tup [.str "open",.int m2])
 have g1:upd H p1 (.tup [.str "open",.int m1]) p1=some (.tup [.str "open",.int m1]):=A3
 have g2:upd (upd H p1 (.tup [.str "open",.int m1])) p2 (.tup [.str "open",.int m2]) p2=some (.tup [.str "open",.int m2]):=A3
 have g1:=s2 _ _ g1
 have s12:=s1.trans s2
 generalize upd (upd H p1 (.tup [.str "open",.int m1])) p2 (.tup [.str "open",.int m2])=H2 at g1 g2 s12⊢
 refine⟨z1,λt1 ht1=> ?_⟩
 have u1:=A5 ht1 (.tup [.str "number"])
 refine⟨z1,λt2 ht2=> ?_⟩
 have u2:=A5 ht2 (.tup [.str "truth"])
 refine⟨_,rfl,z2,λt3 ht3=> ?_⟩
 have u3:=A5 ht3 (.tup [.str "list",.ref p1])
 refine⟨_,rfl,_,rfl,z3,λt4 ht4=> ?_⟩
 have u4:=A5 ht4 (.tup [.str "fn",.ref p1,.ref p2])
 refine⟨_,rfl,z2,λt5 ht5=> ?_⟩
 have u5:=A5 ht5 (.tup [.str "list",.ref p2])
 refine⟨z2,λt6 ht6=> ?_⟩
 have u6:=A5 ht6 (.tup [.str "list",.ref t5])
 refine⟨z5,λl hl=> ?_⟩
 have u7:=A5 hl (.lst [.ref t1,.ref t2,.ref t3,.ref t4,.ref t6])
 have v6:=u6.trans u7
 have v5:=u5.trans v6
 have v4:=u4.trans v5
 have v3:=u3.trans v4
 have v2:=u2.trans v3
 have v1:=u1.trans v2
 have o1:KnAt _ (.opn m1) (.ref p1):=⟨p1,rfl,v1 _ _ g1⟩
 have o2:KnAt _ (.opn m2) (.ref p2):=⟨p2,rfl,v1 _ _ g2⟩
 have sf:=s12.trans v1
 have lm:∀ {k:Kn},(∀n∈k.vs,n=m1\/n=m2)->∀n∈k.vs,0<=n/\n<many:=λh n hn=>by rcases h n hn with rfl|rfl;exact⟨a1,b1⟩;exact⟨a2,b2⟩
 refine⟨_,rfl,_,_,rfl,rfl,by decide,.inl ?_⟩
 have h5:n%5=0\/n%5=1\/n%5=2\/n%5=3\/n%5=4:=by omega
 rcases h5 with h|h|h|h|h<;>rw[h]
 ·exact⟨l,_,0,.ref t1,rfl,rfl,SqL.of A3,rfl,q .num _ _ sf ⟨t1,rfl,v2 _ _ A3⟩ (by simp[Kn.vs]) (by simp[ks]) (by simp[nv])⟩
 ·exact⟨l,_,1,.ref t2,rfl,rfl,SqL.of A3,rfl,q .tru _ _ sf ⟨t2,rfl,v3 _ _ A3⟩ (by simp[Kn.vs]) (by simp[ks]) (by simp[nv])⟩
 ·exact⟨l,_,2,.ref t3,rfl,rfl,SqL.of A3,rfl,q (.lst (.opn m1)) _ _ sf ⟨t3,_,rfl,v4 _ _ A3,o1⟩ (lm (by simp[Kn.vs])) (by simp[ks]) (by simp[nv])⟩
 ·exact⟨l,_,3,.ref t4,rfl,rfl,SqL.of A3,rfl,q (.fn (.opn m1) (.opn m2)) _ _ sf ⟨t4,_,_,rfl,v5 _ _ A3,o1,o2⟩ (lm (by simp[Kn.vs])) (by simp[ks]) (by simp[nv])⟩
 ·exact⟨l,_,4,.ref t6,rfl,rfl,SqL.of A3,rfl,q (.lst (.lst (.opn m2))) _ _ sf ⟨t6,_,rfl,u7 _ _ A3,t5,_,rfl,v6 _ _ A3,o2⟩ (lm (by simp[Kn.vs])) (by simp[ks]) (by simp[nv])⟩
def TwoAt(many:Int)(H:Hp)(x:Kn×Kn)(v:V):Prop:=∃p u1 u2,v=.ref p/\H p=some (.tup [u1,u2])/\KnAt H x.1 u1/\KnAt H x.2 u2/\Lk many x.1/\Lk many x.2
theorem TwoAt.mo{many:Int}{H H':Hp}(m:Mo H H'){x:Kn×Kn}{v:V}(h:TwoAt many H x v):TwoAt many H' x v:=let⟨p,u1,u2,e,h1,h2,h3,h4,h5⟩:=h;⟨p,u1,u2,e,m _ _ h1,h2.mo m,h3.mo m,h4,h5⟩
inductive spPairW (vs:List V) (H:Hp) (Q:VK):Prop
 |mk:∀(n many:Int),(vs=[.int n,.int many])->(1<=many)->(many<=9)->(∀x v H',Same H H'->TwoAt many H' x v->Q v H')->spPairW vs H Q
def PR:Sp:=λvs H Q _=>spPairW vs H Q
theorem ok_law_pair(F:Fun K "_law_pair" "_law_pair" BE f fd)
  (V7:Cn P w K mg base CX0 1 "_law_open" VT MJ)
  (J7:Cn P w K mg base CX0 1 "_law_form" YL SD):
  FnOk P w K mg base CX0 2 f fd q5L PR:=by
 obtain⟨KW,KR,V7,DT,DS,EA⟩:=V7
 obtain⟨KM,KQ,J7,N4,M8,N2⟩:=J7
 refine F.ok sc_law_pair (λvs H Q E h=> ?_) (λcdv A outer s H vs Q E hr h=> ?_)
 ·obtain⟨n,many,rfl,_⟩:=h
  rfl
 obtain⟨n,many,rfl,h1,h9,q⟩:=h
 have nd:=sc_law_pair.nd
 have hu:=hr.units0
 have z2:(2:Nat)<=sizeLine:=by decide
 have z3:(3:Nat)<=sizeLine:=by decide
 refine⟨_,(A7 (C7 (i:=2) nd rfl (Or.inl rfl) (C6 M4 (pv 0) A9))
   (A7 (C7 (i:=3) nd rfl (Or.inl rfl) (C6 M0 (pv 2) (pv 1)))
   (A7 (D6 (C5 VE (C6 M0 (pv 0) A9) A9 rfl) (A8 (B4 (B5 (A0 (B5 (A0 B9 (A0 (pv 3) A4))) (A0 (B6 J7 (hr.mono (by omega)) rfl N2 M8 N4 .nil C1 (A0 (C6 M4 (pv 2) (pv 1)) (A0 (pv 1) (A0 (C6 (P3 (K:=K)) (pv 3) A9) A4)))) A4))))) C2)
   (A7 (D6 (C5 (kEq (K:=K) hu) (C6 M0 (pv 0) A9) A9 rfl) (A8 (B4 (B5 (A0 (B5 (A0 B9 (A0 (pv 3) A4))) (A0 (B6 V7 (hr.mono (by omega)) rfl EA DS DT .nil C1 (A0 (C6 M4 (pv 2) (pv 1)) (A0 (pv 1) A4))) A4))))) C2)
   (A7 (D6 (C5 (kEq (K:=K) hu) (C6 M0 (pv 0) A9) A9 rfl) (A8 (B4 (B5 (A0 (B5 (A0 B9 (A0 (B5 (A0 B9 (A0 (pv 3) A4))) A4))) (A0 (B5 (A0 B9 (A0 (B6 J7 (hr.mono (by omega)) rfl N2 M8 N4 .nil C1 (A0 (C6 M4 (pv 2) (pv 1)) (A0 (pv 1) (A0 (C6 (P3 (K:=K)) (pv 3) A9) A4)))) A4))) A4))))) C2)
   (A7 (D6 (C5 (kEq (K:=K) hu) (C6 M0 (pv 0) A9) A9 rfl) (A8 (B4 (B5 (A0 (B6 J7 (hr.mono (by omega)) rfl N2 M8 N4 .nil C1 (A0 (pv 2) (A0 (pv 1) (A0 A9 A4)))) (A0 (B5 (A0 B9 (A0 (B6 V7 (hr.mono (by omega)) rfl EA DS DT .nil C1 (A0 (C6 M4 (pv 2) A9) (A0 (pv 1) A4))) (A0 (B6 J7 (hr.mono (by omega)) rfl N2 M8 N4 .nil C1 (A0 (C6 M4 (pv 2) A9) (A0 (pv 1) (A0 A9 A4)))) A4)))) A4))))) C2)
   (A8 (B4 (B5 (A0 (B6 J7 (hr.mono (by omega)) rfl N2 M8 N4 .nil C1 (A0 (pv 2) (A0 (pv 1) (A0 A9 A4)))) (A0 (B6 J7 (hr.mono (by omega)) rfl N2 M8 N4 .nil C1 (A0 (C6 M4 (pv 2) A9) (A0 (pv 1) (A0 A9 A4)))) A4))))))))))), ?_⟩
 refine⟨_,rfl,_,_,rfl,rfl,⟨by decide,by decide⟩, ?_⟩
 generalize n/8=m
 refine⟨_,rfl,_,rfl,_,_,rfl,rfl,(by show(0:Int)<many;omega), ?_⟩
 have hm0:=Int.emod_nonneg m (show many≠0 by omega)
 have hm1:=Int.emod_lt_of_pos m (show 0<many by omega)
 generalize m%many=at_ at hm0 hm1⊢
 have cd:acZ m many:=⟨by omega,by omega⟩
 have lo:∀ {j:Int},0<=j->j<many->Lk many (.opn j):=λ{j} a b=>⟨by simp[Kn.vs];exact⟨a,b⟩,by simp[ks],by simp[nv]⟩
 have lf:∀ {k:Kn},(∀n∈k.vs,0<=n/\n<many)->ks k<=3->(nv k).length<=2->Lk many k:=λa b c=>⟨a,by omega,by omega⟩
 refine⟨_,rfl,_,_,rfl,rfl,by decide,_,_,rfl,rfl,_,rfl, ?_⟩
 by_cases c1:n%8<4
 ·refine ifT (by simpa using c1) ?_
  refine⟨_,rfl,z2,λp1 hp1=> ?_⟩
  have s1:=A5 hp1 (.tup [.str "open",.int at_])
  refine⟨_,rfl,_,rfl,_,_,rfl,rfl,cd,_,rfl,_,rfl,.inl ⟨_,_,rfl,rfl,_,many,at_+1,rfl,h1,h9,by omega,λk v H' s2 hk l1 l2 l3=>⟨z2,λp hp=> ?_⟩⟩⟩
  have s3:=A5 hp (.tup [.ref p1,v])
  exact q (.opn at_,k) _ _ ((s1.trans s2).trans s3) ⟨p,_,_,rfl,A3,⟨p1,rfl,s3 _ _ (s2 _ _ A3)⟩,hk.mo (.of s3),lo hm0 hm1,lf l1 l2 l3⟩
 refine ifF (by simpa using c1) ?_
 refine⟨_,rfl,_,_,rfl,rfl,by decide,.inl ⟨rfl,_,rfl, ?_⟩⟩
 by_cases c2:n%8=4
 ·refine ifT (by simpa using c2) ?_
  refine⟨_,rfl,z2,λp1 hp1=> ?_⟩
  have s1:=A5 hp1 (.tup [.str "open",.int at_])
  refine⟨_,rfl,_,rfl,_,_,rfl,rfl,cd,_,rfl,_,many,rfl,h1,h9,λj v H' s2 hk l1 l2=>⟨z2,λp hp=> ?_⟩⟩
  have s3:=A5 hp (.tup [.ref p1,v])
  exact q (.opn at_,.opn j) _ _ ((s1.trans s2).trans s3) ⟨p,_,_,rfl,A3,⟨p1,rfl,s3 _ _ (s2 _ _ A3)⟩,hk.mo (.of s3),lo hm0 hm1,lo l1 l2⟩
 refine ifF (by simpa using c2) ?_
 refine⟨_,rfl,_,_,rfl,rfl,by decide,.inl ⟨rfl,_,rfl, ?_⟩⟩
 by_cases c3:n%8=5
 ·refine ifT (by simpa using c3) ?_
  refine⟨_,rfl,z2,λp1 hp1=>⟨z2,λp2 hp2=> ?_⟩⟩
  have s1:=A5 hp1 (.tup [.str "open",.int at_])
  have s2:=A5 hp2 (.tup [.str "list",.ref p1])
  refine⟨_,rfl,_,rfl,_,_,rfl,rfl,cd,_,rfl,_,rfl,.inl ⟨_,_,rfl,rfl,_,many,at_+1,rfl,h1,h9,by omega,λk v H' s3 hk l1 l2 l3=>⟨z2,λp3 hp3=>⟨z2,λp hp=> ?_⟩⟩⟩⟩
  have s4:=A5 hp3 (.tup [.str "list",v])
  have s5:=A5 hp (.tup [.ref p2,.ref p3])
  refine q (.lst (.opn at_),.lst k) _ _ ((((s1.trans s2).trans s3).trans s4).trans s5) ⟨p,_,_,rfl,A3,⟨p2,_,rfl,s5 _ _ (s4 _ _ (s3 _ _ A3)),p1,rfl,s5 _ _ (s4 _ _ (s3 _ _ (s2 _ _ A3)))⟩,⟨p3,_,rfl,s5 _ _ A3,hk.mo (.of (s4.trans s5))⟩,⟨by simp[Kn.vs];exact⟨hm0,hm1⟩,by simp[ks],by simp[nv]⟩,⟨l1,by simp[ks];omega,by simp[nv];omega⟩⟩
 refine ifF (by simpa using c3) ?_
 refine⟨_,rfl,_,_,rfl,rfl,by decide,.inl ⟨rfl,_,rfl, ?_⟩⟩
 by_cases c4:n%8=6
 ·refine ifT (by simpa using c4) ?_
  refine⟨_,rfl,_,rfl,_,many,0,rfl,h1,h9,by omega,λk v H1 s1 hk l1 l2 l3=> ?_⟩
  refine⟨_,rfl,_,_,rfl,rfl,⟨by decide,by decide⟩,_,rfl,_,many,rfl,h1,h9,λj u H2 s2 hj a1 a2=> ?_⟩
  refine⟨_,rfl,_,_,rfl,rfl,⟨by decide,by decide⟩,_,rfl,_,many,0,rfl,h1,h9,by omega,λk' v' H3 s3 hk' l1' l2' l3'=>⟨z3,λp3 hp3=>⟨z2,λp hp=> ?_⟩⟩⟩
  have s4:=A5 hp3 (.tup [.str "fn",u,v'])
  have s5:=A5 hp (.tup [v,.ref p3])
  refine q (k,.fn (.opn j) k') _ _ ((((s1.trans s2).trans s3).trans s4).trans s5) ⟨p,_,_,rfl,A3,hk.mo (.of (((s2.trans s3).trans s4).trans s5)),⟨p3,_,_,rfl,s5 _ _ A3,hj.mo (.of ((s3.trans s4).trans s5)),hk'.mo (.of (s4.trans s5))⟩,lf l1 l2 l3,⟨?_,by simp[ks];omega,by simp[nv];omega⟩⟩
  intro z hz
  simp only[Kn.vs,mem_append,mem_singleton]at hz
  rcases hz with rfl|hz
  ·exact⟨a1,a2⟩
  ·exact l1' z hz
 refine ifF (by simpa using c4) ?_
 refine⟨_,rfl,_,rfl,_,many,0,rfl,h1,h9,by omega,λk v H1 s1 hk l1 l2 l3=> ?_⟩
 refine⟨_,rfl,_,_,rfl,rfl,⟨by decide,by decide⟩,_,rfl,_,many,0,rfl,h1,h9,by omega,λk' v' H3 s3 hk' l1' l2' l3'=>⟨z2,λp hp=> ?_⟩⟩
 have s5:=A5 hp (.tup [v,v'])
 exact q (k,k') _ _ ((s1.trans s3).trans s5) ⟨p,_,_,rfl,A3,hk.mo (.of (s3.trans s5)),hk'.mo (.of s5),lf l1 l2 l3,lf l1' l2' l3'⟩
end
abbrev V4:Stmt:=top 22
abbrev AE:Stmt:=top 23
abbrev M1:Stmt:=top 25
abbrev P5:Stmt:=top 26
abbrev GL:List Str:=["_law_kind","_law_known"]
theorem sc_law_put:FnScope GL q6L (A6 V4):=fS
abbrev OD:List Str:=["_law_kind","_law_one","_law_part"]
theorem sc_law_has:FnScope OD q8L (A6 AE):=fS
abbrev BW:List Str:=["_law_kind"]
theorem sc_law_closed:FnScope BW q9L (A6 M1):=fS
abbrev DA:List Str:=["_law_kind"]
theorem sc_law_words:FnScope DA q9L (A6 P5):=fS
def KvO(H:Hp):Option Kn->Option V->Prop
 |none,o=>o=none
 |some k,o=>∃v,o=some v/\KnAt H k v
theorem KvO.mo{H H':Hp}(m:Mo H H'){k:Option Kn}{o:Option V}(h:KvO H k o):KvO H' k o:=by
 cases k with
 |none=>exact h
 |some s=>obtain⟨v,e,h⟩:=h;exact⟨v,e,h.mo m⟩
def KwAt(H:Hp)(d:Addr)(K:Kw)(m:Nat):Prop:=∃kvs,H d=some (.dK kvs)/\kvs.length<=m/\∀n,KvO H (K n) (G0 kvs (.inl n))
theorem KwAt.same{H H':Hp}{d:Addr}{K:Kw}{m:Nat}(h:KwAt H d K m)(s:Same H H'):KwAt H' d K m:=let⟨kvs,h1,h2,h3⟩:=h;⟨kvs,s _ _ h1,h2,λn=>(h3 n).mo (.of s)⟩
theorem SM{K:FZ}:kitOne K (.type "tuple") (.type "tuple")=some true:=by
 unfold kitOne;rfl
theorem YF{K:FZ}:kitOne K (.type "int") (.type "tuple")=some false:=by
 unfold kitOne;rfl
structure KnW (k k':Kn) (ks:List Kn):Prop where
 w:kw k'=kw k
 p:kps k'=ks
 o:k'.isO=false
theorem KnW.at{H:Hp}{k k':Kn}{ks:List Kn}(h:KnW k k' ks){p:Addr}{us:List V}(hp:H p=some (.tup (.str (kw k)::us)))(hu:All2 (KnAt H) ks us):KnAt H k' (.ref p):=by
 obtain⟨h1,h2,h3⟩:=h
 refine KnAt.of (us:=us) (by rw[h1];exact hp) ?_
 rw[<-h2]at hu
 cases k' with
 |opn n=>cases h3
 |_=>exact hu
section
variable{P:Program}{w:World}{K:FZ}{mg:Str->Option Value}{base:Heap}{f:Addr}{fd:FuncData}
inductive spPutW(n:Nat)(vs:List V)(H:Hp)(Q:VK):Prop
 |mk:∀(k k':Kn) (v:V) (d:Addr) (Kk:Kw) (m:Nat),(vs=[v,.ref d])->(KnAt H k v)->(KwAt H d Kk m)->(Pt Kk n k k')->(∀u H',Same H H'->KnAt H' k' u->Q u H')->spPutW n vs H Q
def GO(n:Nat):Sp:=λvs H Q _=>spPutW n vs H Q
theorem GZ{n:Nat}{sp:Sp}(F:Fun K "_law_put" "_law_put" V4 f fd)(B:NoG mg)(E7:FnOk P w K mg base CX0 n f fd q6L sp)(hsp:∀j,n=j+1->sp=GO j)
  (G7:Binds K fd q6L [])(G8:kZ K (.ref f)=true)(G5:mg "_law_put"=some (.ref f)):FnOk P w K mg base CX0 (n+1) f fd q6L (GO n):=by
 refine F.ok sc_law_put (λvs H Q E h=> ?_) (λcdv A outer s H vs Q E hr h=> ?_)
 ·obtain⟨k,k',v,d,Kk,m,rfl,_⟩:=h
  rfl
 obtain⟨k,k',v,d,Kk,m,rfl,hk,hd,hp,q⟩:=h
 have nd:=sc_law_put.nd
 have hu:=hr.units0
 have z2:(2:Nat)<=sizeLine:=by decide
 obtain⟨p,us,rfl,hp',hR⟩:=hk.tup
 obtain⟨kvs,hd1,hd2,hd3⟩:=id hd
 refine⟨_,(A7 (D6 (C5 (kEq (K:=K) hu) (ixE K w (pv 0) A9) B9 rfl) (A7 (D6 (C5 (anZ hr.units) (ixE K w (pv 0) A9) (pv 1) rfl) (A8 (B4 (B6 E7 (hr.mono (by omega)) rfl G5 G8 G7 .nil C1 (A0 (HW (lt_of_le_of_lt (add_le_add_left (by decide:1<=64) _) hr.units) (pv 1) (ixE K w (pv 0) A9) (λ_ _=>rfl)) (A0 (pv 1) A4))))) C2)
   (A8 (B4 (pv 0)))) C2)
   (A8 (B4 (C6 (P3 (K:=K)) (K0 (EJ (K:=K)) (pv 0) P8 (K8 A9)) (V3 (DO (K:=K)) rfl B.tuple_ V0 (A0 (X6 (cS (N:=GL) (sc:=A6 V4) (caps:=[1]) (ns:=["_law_known"])) rfl rfl rfl (IB (K:=K) (K0 (EJ (K:=K)) (pv 0) (K8 A9) P8)) (λ_ _ _ _ _=>L9) (λ_ _ _ _ _=>(B6 E7 (hr.mono (by omega)) rfl G5 G8 G7 .nil C1 (A0 (pv 0) (A0 (pv 1) A4))))) A4)))))), ?_⟩
 refine⟨_,rfl,(ixT (v:=.str (kw k)) hp' (L3 (j:=0) rfl) (.inl ⟨rfl,_,rfl, ?_⟩))⟩
 cases e:k.isO with
 |true=>
  refine ifT (by rw[kw_open.2 e];simp) ?_
  cases k with
  |opn x=>
   cases(hR:us=[.int x])
   refine⟨_,rfl,(ixT (v:=.int x) hp' rfl ⟨_,rfl,d,_,rfl,DGet.k (k:=.inl x) hd1,_,rfl, ?_⟩)⟩
   have h3:=hd3 x
   cases hp with
   |free h=>
    rw[h]at h3
    rw[show G0 kvs (.inl x)=none from h3]
    exact ifF (by simp) ⟨_,rfl,q _ H (Same.refl _) hk⟩
   | @step j _ k1 _ h h2=>
    rw[h]at h3
    obtain⟨v1,ev,hv1⟩:=h3
    rw[ev]
    refine ifT rfl ?_
    rw[hsp j rfl]
    refine⟨_,rfl,_,rfl,(ixT (v:=.int x) hp' rfl ⟨d,v1,rfl, ?_,_,rfl,k1,k',v1,d,Kk,m,rfl,hv1,hd,h2,q⟩)⟩
    have:=DGet.k (k:=.inl x) hd1
    rw[ev]at this
    exact this
  |_=>cases e
 |false=>
  refine ifF (by simp;exact λz=>by have:=kw_open.1 z;rw[e]at this;cases this) ?_
  have hU:=hR.parts e
  obtain⟨ks',ek,hks⟩:∃ks',KnW k k' ks'/\∃j,(n=j+1)/\All2 (Pt Kk j) (kps k) ks':=by
   cases hp with
   |free h=>cases e
   |step h=>cases e
   |num=>exact⟨[],⟨rfl,rfl,rfl⟩,_,rfl,.nil⟩
   |tru=>exact⟨[],⟨rfl,rfl,rfl⟩,_,rfl,.nil⟩
   |lst h=>exact⟨[_],⟨rfl,rfl,rfl⟩,_,rfl,.cons h .nil⟩
   |fn h h'=>exact⟨[_,_],⟨rfl,rfl,rfl⟩,_,rfl,.cons h (.cons h' .nil)⟩
  obtain⟨j,rfl,hks⟩:=hks
  rw[hsp j rfl]
  refine⟨_,rfl,_,rfl,P9 hp' λr1 H1 s1 h1=> ?_⟩
  have ec1:N9 (V.str (kw k)::us) none (some 1)=[V.str (kw k)]:=SF _ 1
  rw[ec1]at h1
  refine⟨_,rfl,_,rfl,P9 (s1 _ _ hp') λr2 H2 s2 h2=> ?_⟩
  have ec2:N9 (V.str (kw k)::us) (some 1) none=us:=Q4 _ 1
  rw[ec2]at h2
  have s12:=s1.trans s2
  have hul:=hU.len
  have hkl:=hks.len
  have hk2:=X4 k
  refine⟨r2,rfl,⟨_,SqT.of h2⟩,EU (xs:=us) (λi ys H3=>Same H2 H3/\All2 (KnAt H3) (ks'.take i) ys) ?_ ?_ ?_ ?_⟩
  ·exact⟨Same.refl _,.nil⟩
  ·rintro i ys H3 hi ⟨s3,hy⟩
   have:=hy.len
   rw[length_take]at this
   exact⟨SqT.of (s3 _ _ h2),by omega⟩
  ·rintro i x ys H3 hx ⟨s3,hy⟩
   refine Q6 ?_
   obtain⟨k1,g1,hx1⟩:=hU.get hx
   obtain⟨k2,g2,hp2⟩:=hks.get' g1
   refine⟨_,rfl,_,rfl,k1,k2,x,d,Kk,m,rfl,hx1.mo (.of (s12.trans s3)),hd.same (s12.trans s3),hp2,λu H4 s4 hu4=>⟨s3.trans s4, ?_⟩⟩
   rw[J9 g2]
   exact(hy.imp λ_ _ h=>h.mo (.of s4)).app (.cons hu4 .nil)
  ·rintro ys H3 ⟨s3,hy⟩ l hl
   have e3:us.length=ks'.length:=by omega
   rw[e3,take_length]at hy
   have s4:=A5 hl (.lst ys)
   refine⟨l,ys,rfl,.inl ⟨SqL.of A3,λp5 hp5=> ?_⟩⟩
   have s5:=A5 hp5 (.tup ys)
   have hyl:=hy.len
   refine .inr (.inr (DM (((s2.trans s3).trans (s4.trans s5)) _ _ h1) A3 (by simp;omega) λr H' s6 h6=> ?_))
   have s46:=(s4.trans s5).trans s6
   refine q (.ref r) H' (((s12.trans s3).trans s46)) ?_
   exact ek.at (by exact h6) (hy.imp λ_ _ h=>h.mo (.of s46))
inductive spHasW (n:Nat) (vs:List V) (H:Hp) (Q:VK):Prop
 |mk:∀(k:Kn) (x:Int) (v u:V),(vs=[v,u])->(KnAt H k v)->(KnAt H (.opn x) u)->(dp k<=n)->(n<=150)->(∀H',Same H H'->Q (.bl (decide (x∈k.vs))) H')->spHasW n vs H Q
def JQ(n:Nat):Sp:=λvs H Q _=>spHasW n vs H Q
theorem GI{n:Nat}{sp:Sp}(F:Fun K "_law_has" "_law_has" AE f fd)(B:NoG mg)(N7:FnOk P w K mg base CX0 n f fd q8L sp)(hsp:∀j,n=j+1->sp=JQ j)
  (M7:Binds K fd q8L [])(N5:kZ K (.ref f)=true)(N6:mg "_law_has"=some (.ref f)):FnOk P w K mg base CX0 (n+1) f fd q8L (JQ n):=by
 refine F.ok sc_law_has (λvs H Q E h=> ?_) (λcdv A outer s H vs Q E hr h=> ?_)
 ·obtain⟨k,x,v,u,rfl,_⟩:=h
  rfl
 obtain⟨k,x,v,u,rfl,hk,hx,hd,hn,q⟩:=h
 have nd:=sc_law_has.nd
 have hu:=hr.units0
 obtain⟨p,us,rfl,hp,hR⟩:=hk.tup
 refine⟨_,(A7 (D6 (C5 (YS (Room.u160 hr)) (pv 0) (pv 1) rfl) (A8 (B4 K9)) C2)
   (A7 (G9 (Z0 PassesOwn.never rfl (IB (K:=K) (K0 (EJ (K:=K)) (pv 0) (K8 A9) P8)) (K6 (i:=2) nd rfl (Or.inl rfl)) (A8 (G9 (D6 (PW.pt (XZ (E1 (K:=K) (E8 (RB (K:=K)) rfl B.isinstance_ E6 (A0 (pv 2) (A0 (DR (v:=.ty "tuple") rfl B.tuple_ V0 rfl) A4))) (λ_=>rfl)) (UB (E1 (K:=K) (B6 N7 (hr.mono (by omega)) rfl N6 N5 M7 .nil C1 (A0 (pv 2) (A0 (pv 1) A4))) (λ_=>rfl))))) (A8 (B4 K9)) C2)))))
   (A8 (B4 K9)))), ?_⟩
 refine⟨_,rfl,_,rfl,k,.opn x,hk,hx,by omega,_,rfl, ?_⟩
 by_cases ek:k=.opn x
 ·refine ifT (by simpa using ek) ?_
  have:=q H (Same.refl _)
  rw[ek,show decide (x∈(Kn.opn x).vs)=true by simp[Kn.vs]]at this
  exact this
 refine ifF (by simpa using ek) ?_
 have hpar:∃Ks:List (Option Kn),All2 (λo v=>match o with|some k1=>KnAt H k1 v/\dp k1<dp k|none=>∃y,v=.int y) Ks us/\(x∈k.vs↔∃k1,some k1∈Ks/\x∈k1.vs):=by
  cases k with
  |opn y=>
   cases(hR:us=[.int y])
   refine⟨[none],.cons ⟨y,rfl⟩ .nil, ?_⟩
   have:x≠y:=λe=>ek (by rw[e])
   simp[Kn.vs,this]
  |num=>cases(hR:All2 _ [] us);exact⟨[],.nil,by simp[Kn.vs]⟩
  |tru=>cases(hR:All2 _ [] us);exact⟨[],.nil,by simp[Kn.vs]⟩
  |lst a=>cases(hR:All2 _ [a] us)with|cons h1 h2=>cases h2;exact⟨[some a],.cons ⟨h1,by simp[dp]⟩ .nil,by simp[Kn.vs]⟩
  |fn a b=>cases(hR:All2 _ [a,b] us)with|cons h1 h2=>cases h2 with|cons h3 h4=>cases h4;exact⟨[some a,some b],.cons ⟨h1,by simp[dp];omega⟩ (.cons ⟨h3,by simp[dp];omega⟩ .nil),by simp[Kn.vs]⟩
 obtain⟨Ks,hKs,hiff⟩:=hpar
 refine⟨fun σ H'=>(∃y,σ=[some (.ref p),some u,y])/\Same H H'/\x∉k.vs, ?_, ?_⟩
 ·refine⟨_,rfl,_,rfl,P9 hp λr H1 s1 h1=> ?_⟩
  have ec:N9 (V.str (kw k)::us) (some 1) none=us:=Q4 _ 1
  rw[ec]at h1
  refine⟨r,rfl,⟨_,SqT.of h1⟩,UV (xs:=us) (λi σ H'=>(∃y,σ=[some (.ref p),some u,y])/\Same H1 H'/\∀k1,some k1∈Ks.take i->x∉k1.vs) ?_ ?_ ?_ ?_⟩
  ·exact⟨⟨_,rfl⟩,Same.refl _,by simp⟩
  ·rintro i σ H' _ ⟨_,s2,_⟩
   exact SqT.of (s2 _ _ h1)
  ·rintro i y σ H' hy ⟨⟨y0,rfl⟩,s2,hno⟩
   obtain⟨o,ho,hoy⟩:=hKs.get hy
   have tk:=J9 ho
   refine⟨_, ?_,λ_ _ h=>h⟩
   have s12:=s1.trans s2
   cases o with
   |none=>
    obtain⟨z,rfl⟩:=hoy
    refine⟨_,rfl,_,_,_,false,rfl,.int z,YF,false,rfl,ifF (by simp) (ifF (by simp) ?_)⟩
    refine⟨⟨_,rfl⟩,s2,λk1 hk1=> ?_⟩
    rw[tk]at hk1
    simp at hk1
    exact hno k1 hk1
   |some k1=>
    obtain⟨hk1,hd1⟩:=hoy
    obtain⟨p1,us1,rfl,hp1,_⟩:=(hk1.mo (.of s12)).tup
    refine⟨_,rfl,_,_,_,true,rfl,.tup hp1,SM,true,rfl,ifT rfl ?_⟩
    obtain⟨j,rfl⟩:∃j,n=j+1:=⟨n - 1,by omega⟩
    rw[hsp j rfl]
    refine⟨_,rfl,_,rfl,k1,x,_,_,rfl,hk1.mo (.of s12),hx.mo (.of s12),by omega,by omega,λH2 s3=>⟨decide (x∈k1.vs),rfl, ?_⟩⟩
    by_cases hin:x∈k1.vs
    ·refine ifT (by simpa using hin) ?_
     have:=q H2 (s12.trans s3)
     rw[decide_eq_true (hiff.2 ⟨k1,mem_of_getElem? ho,hin⟩)]at this
     exact this
    ·refine ifF (by simpa using hin) ⟨⟨_,rfl⟩,s2.trans s3,λk2 hk2=> ?_⟩
     rw[tk]at hk2
     simp at hk2
     rcases hk2 with hk2|rfl
     ·exact hno k2 hk2
     ·exact hin
  ·rintro σ H' ⟨⟨y,rfl⟩,s2,hno⟩
   refine⟨⟨_,rfl⟩,s1.trans s2,λhin=> ?_⟩
   obtain⟨k1,h1',h2'⟩:=hiff.1 hin
   rw[<-hKs.len,take_length]at hno
   exact hno k1 h1' h2'
 ·rintro σ H' ⟨⟨y,rfl⟩,s1,hno⟩
  have:=q H' s1
  rw[decide_eq_false hno]at this
  exact this
inductive spClosedW (n:Nat) (vs:List V) (H:Hp) (Q:VK):Prop
 |mk:∀(k:Kn) (v:V),(vs=[v])->(KnAt H k v)->(dp k<=n)->(∀u H',Same H H'->KnAt H' (gk (cl k)) u->Q u H')->spClosedW n vs H Q
def BU(n:Nat):Sp:=λvs H Q _=>spClosedW n vs H Q
theorem BZ{n:Nat}{sp:Sp}(F:Fun K "_law_closed" "_law_closed" M1 f fd)(B:NoG mg)(L6:FnOk P w K mg base CX0 n f fd q9L sp)(hsp:∀j,n=j+1->sp=BU j)
  (V8:Binds K fd q9L [])(W3:kZ K (.ref f)=true)(W2:mg "_law_closed"=some (.ref f)):FnOk P w K mg base CX0 (n+1) f fd q9L (BU n):=by
 refine F.ok sc_law_closed (λvs H Q E h=> ?_) (λcdv A outer s H vs Q E hr h=> ?_)
 ·obtain⟨k,v,rfl,_⟩:=h
  rfl
 obtain⟨k,v,rfl,hk,hd,q⟩:=h
 have nd:=sc_law_closed.nd
 have hu:=hr.units0
 have z1:(1:Nat)<=sizeLine:=by decide
 have z2:(2:Nat)<=sizeLine:=by decide
 obtain⟨p,us,rfl,hp',hR⟩:=hk.tup
 refine⟨_,(A7 (D6 (C5 (kEq (K:=K) hu) (ixE K w (pv 0) A9) B9 rfl) (A8 (B4 (B5 (A0 B9 A4)))) C2)
   (A8 (B4 (C6 (P3 (K:=K)) (K0 (EJ (K:=K)) (pv 0) P8 (K8 A9)) (V3 (DO (K:=K)) rfl B.tuple_ V0 (A0 (X6 (cS (N:=BW) (sc:=A6 M1) (caps:=[]) (ns:=[])) rfl rfl rfl (IB (K:=K) (K0 (EJ (K:=K)) (pv 0) (K8 A9) P8)) (λ_ _ _ _ _=>L9) (λ_ _ _ _ _=>(B6 L6 (hr.mono (by omega)) rfl W2 W3 V8 .nil C1 (A0 (pv 0) A4)))) A4)))))), ?_⟩
 refine⟨_,rfl,(ixT (v:=.str (kw k)) hp' (L3 (j:=0) rfl) (.inl ⟨rfl,_,rfl, ?_⟩))⟩
 cases e:k.isO with
 |true=>
  refine ifT (by rw[kw_open.2 e];simp) ⟨z1,λr hr'=> ?_⟩
  cases k with
  |opn x=>exact q _ _ (A5 hr' _) ⟨r,rfl,A3⟩
  |_=>cases e
 |false=>
  refine ifF (by simp;exact λz=>by have:=kw_open.1 z;rw[e]at this;cases this) ?_
  have hU:=hR.parts e
  have ek:KnW k (gk (cl k)) ((kps k).map λp=>gk (cl p)):=by
   cases k with
   |opn x=>cases e
   |_=>exact⟨rfl,rfl,rfl⟩
  have hdp:∀p∈kps k,dp p<dp k:=λp hp=>by
   cases k with
   |lst a=>simp[kps]at hp;subst hp;simp[dp]
   |fn a b=>simp[kps]at hp;rcases hp with rfl|rfl<;>simp[dp]<;>omega
   |_=>simp[kps]at hp
  refine⟨_,rfl,_,rfl,P9 hp' λr1 H1 s1 h1=> ?_⟩
  have ec1:N9 (V.str (kw k)::us) none (some 1)=[V.str (kw k)]:=SF _ 1
  rw[ec1]at h1
  refine⟨_,rfl,_,rfl,P9 (s1 _ _ hp') λr2 H2 s2 h2=> ?_⟩
  have ec2:N9 (V.str (kw k)::us) (some 1) none=us:=Q4 _ 1
  rw[ec2]at h2
  have s12:=s1.trans s2
  have hul:=hU.len
  have hk2:=X4 k
  refine⟨r2,rfl,⟨_,SqT.of h2⟩,EU (xs:=us) (λi ys H3=>Same H2 H3/\All2 (KnAt H3) (((kps k).map λp=>gk (cl p)).take i) ys) ?_ ?_ ?_ ?_⟩
  ·exact⟨Same.refl _,.nil⟩
  ·rintro i ys H3 hi ⟨s3,hy⟩
   have:=hy.len
   rw[length_take,length_map]at this
   exact⟨SqT.of (s3 _ _ h2),by omega⟩
  ·rintro i x ys H3 hx ⟨s3,hy⟩
   refine Q6 ?_
   obtain⟨k1,g1,hx1⟩:=hU.get hx
   have hd1:=hdp k1 (mem_of_getElem? g1)
   obtain⟨j,rfl⟩:∃j,n=j+1:=⟨n - 1,by omega⟩
   rw[hsp j rfl]
   refine⟨_,rfl,k1,x,rfl,hx1.mo (.of (s12.trans s3)),by omega,λu H4 s4 hu4=>⟨s3.trans s4, ?_⟩⟩
   rw[J9 (t:=gk (cl k1)) (by rw[getElem?_map,g1];rfl)]
   exact(hy.imp λ_ _ h=>h.mo (.of s4)).app (.cons hu4 .nil)
  ·rintro ys H3 ⟨s3,hy⟩ l hl
   have e3:us.length=((kps k).map λp=>gk (cl p)).length:=by rw[length_map];omega
   rw[e3,take_length]at hy
   have s4:=A5 hl (.lst ys)
   refine⟨l,ys,rfl,.inl ⟨SqL.of A3,λp5 hp5=> ?_⟩⟩
   have s5:=A5 hp5 (.tup ys)
   have hyl:=hy.len
   rw[length_map]at hyl
   refine .inr (.inr (DM (((s2.trans s3).trans (s4.trans s5)) _ _ h1) A3 (by simp;omega) λr H' s6 h6=> ?_))
   have s46:=(s4.trans s5).trans s6
   exact q (.ref r) H' (((s12.trans s3).trans s46)) (ek.at (by exact h6) (hy.imp λ_ _ h=>h.mo (.of s46)))
inductive spWordsW (n:Nat) (vs:List V) (H:Hp) (Q:VK):Prop
 |mk:∀(g:G) (v:V),(vs=[v])->(KnAt H (gk g) v)->(dp (gk g)<=n)->(n<=150)->(∀H',Same H H'->Q (.int (gw g:Nat)) H')->spWordsW n vs H Q
def DL(n:Nat):Sp:=λvs H Q _=>spWordsW n vs H Q
theorem DC{n:Nat}{sp:Sp}(F:Fun K "_law_words" "_law_words" P5 f fd)(B:NoG mg)(O7:FnOk P w K mg base CX0 n f fd q9L sp)(hsp:∀j,n=j+1->sp=DL j)
  (Y4:Binds K fd q9L [])(Y5:kZ K (.ref f)=true)(Y2:mg "_law_words"=some (.ref f)):FnOk P w K mg base CX0 (n+1) f fd q9L (DL n):=by
 refine F.ok sc_law_words (λvs H Q E h=> ?_) (λcdv A outer s H vs Q E hr h=> ?_)
 ·obtain⟨g,v,rfl,_⟩:=h
  rfl
 obtain⟨g,v,rfl,hk,hd,hn,q⟩:=h
 have nd:=sc_law_words.nd
 have hu:=hr.units0
 have z2:(2:Nat)<=sizeLine:=by decide
 obtain⟨p,us,rfl,hp',hR⟩:=hk.tup
 have eO:(gk g).isO=false:=by cases g<;>rfl
 have hU:=hR.parts eO
 have hgs:∃gs:List G,kps (gk g)=gs.map gk/\gw g=1+(gs.map gw).sum/\∀x∈gs,dp (gk x)<dp (gk g):=by
  cases g with
  |num=>exact⟨[],rfl,rfl,by simp⟩
  |tru=>exact⟨[],rfl,rfl,by simp⟩
  |lst a=>exact⟨[a],rfl,by simp[gw],by simp[gk,dp]⟩
  |fn a b=>exact⟨[a,b],rfl,by simp[gw],by simp[gk,dp];omega⟩
 obtain⟨gs,e1,e2,e3⟩:=hgs
 rw[e1]at hU
 have hul:=hU.len
 rw[length_map]at hul
 have hk2:=X4 (gk g)
 rw[e1,length_map]at hk2
 refine⟨_,(A8 (B4 (C6 (P3 (K:=K)) A9 (E8 (XD (K:=K) rfl) rfl B.sum_ WV (A0 (X6 (cS (N:=DA) (sc:=A6 P5) (caps:=[]) (ns:=[])) rfl rfl rfl (IB (K:=K) (K0 (EJ (K:=K)) (pv 0) (K8 A9) P8)) (λ_ _ _ _ _=>L9) (λ_ _ _ _ _=>(B6 O7 (hr.mono (by omega)) rfl Y2 Y5 Y4 .nil C1 (A0 (pv 0) A4)))) A4))))), ?_⟩
 refine⟨_,rfl,_,rfl,P9 hp' λr2 H2 s2 h2=> ?_⟩
 have ec2:N9 (V.str (kw (gk g))::us) (some 1) none=us:=Q4 _ 1
 rw[ec2]at h2
 refine⟨r2,rfl,⟨_,SqT.of h2⟩,EU (xs:=us) (λi ys H3=>Same H2 H3/\ys=((gs.take i).map λx=>V.int (gw x:Nat))) ?_ ?_ ?_ ?_⟩
 ·exact⟨Same.refl _,rfl⟩
 ·rintro i ys H3 hi ⟨s3,rfl⟩
  exact⟨SqT.of (s3 _ _ h2),by rw[length_map,length_take];omega⟩
 ·rintro i x ys H3 hx ⟨s3,rfl⟩
  refine Q6 ?_
  obtain⟨k1,g1,hx1⟩:=hU.get hx
  rw[getElem?_map]at g1
  obtain⟨y,hy,rfl⟩:=map_eq_some_iff.mp g1
  have hd1:=e3 y (mem_of_getElem? hy)
  obtain⟨j,rfl⟩:∃j,n=j+1:=⟨n - 1,by omega⟩
  rw[hsp j rfl]
  refine⟨_,rfl,y,x,rfl,hx1.mo (.of (s2.trans s3)),by omega,by omega,λH4 s4=>⟨s3.trans s4, ?_⟩⟩
  rw[J9 hy,map_append];rfl
 ·rintro ys H3 ⟨s3,rfl⟩ l hl
  have e4:us.length=gs.length:=hul.symm
  rw[e4,take_length]at*
  have s4:=A5 hl (.lst (gs.map λx=>V.int (gw x:Nat)))
  refine⟨l,gs.map gw,rfl,SqL.of ?_,.inl ⟨_,_,rfl,rfl, ?_⟩⟩
  ·rw[A3,List.map_map];rfl
  ·have:=q _ ((s2.trans s3).trans s4)
   rw[e2]at this
   exact this
end
abbrev X3:Stmt:=top 24
abbrev ME:List Str:=["_law_one","_law_other","_law_known","_law_first","_law_second"]
theorem sc_law_tied:FnScope ME LR (A6 X3):=fS
structure Bo (K:Kw) (m many:Nat):Prop where
 cnt:((List.range many).filter λi:Nat=>(K (i:Int)).isSome).length=m
 rg:∀n k,K n=some k->(0<=n/\n<many)/\∀y∈k.vs,0<=y/\y<many
theorem Bo.le{K:Kw}{m many:Nat}(h:Bo K m many):m<=many:=by
 rw[<-h.cnt]
 exact le_trans (length_filter_le _ _) (le_of_eq (List.length_range ..))
def In(many:Nat)(k:Kn):Prop:=∀y∈k.vs,0<=y/\y<many
theorem VI{K:Kw}{m many:Nat}(h:Bo K m many){d:Nat}{k k':Kn}(p:Pt K d k k')(hk:In many k):In many k':=by
 induction p with
 |free=>exact hk
 |step e _ ih=>exact ih (h.rg _ _ e).2
 |num=>exact hk
 |tru=>exact hk
 |lst _ ih=>exact ih hk
 |fn _ _ ih ih2=>
  intro y hy
  simp only[Kn.vs,mem_append]at hy
  rcases hy with hy|hy
  ·exact ih (λz hz=>hk z (by simp[Kn.vs,hz])) y hy
  ·exact ih2 (λz hz=>hk z (by simp[Kn.vs,hz])) y hy
theorem Bo.bind{K:Kw}{m many:Nat}(h:Bo K m many){x:Int}{u:Kn}(hx:K x=none)(rx:0<=x/\x<many)(hu:In many u):Bo (up K x (some u)) (m+1) many where
 cnt:=by
  rw[<-h.cnt]
  have aux:∀(l:List Nat),l.Nodup->x.toNat∈l->(l.filter λi:Nat=>(up K x (some u) (i:Int)).isSome).length=(l.filter λi:Nat=>(K (i:Int)).isSome).length+1:=by
   intro l
   induction l with
   |nil=>intro _ h;cases h
   |cons a l ih=>
    intro nd hm
    rw[nodup_cons]at nd
    by_cases e:a=x.toNat
    ·have ea:(a:Int)=x:=by omega
     have e1:(up K x (some u) (a:Int)).isSome=true:=by rw[ea,J0];rfl
     have e2:(K (a:Int)).isSome=false:=by rw[ea,hx];rfl
     have e3:(l.filter λi:Nat=>(up K x (some u) (i:Int)).isSome)=l.filter λi:Nat=>(K (i:Int)).isSome:=by
      apply filter_congr
      intro i hi
      have:(i:Int)≠x:=λz=>nd.1 (by have e9:a=i:=(by omega);rw[e9];exact hi)
      rw[C8 this]
     rw[filter_cons,filter_cons,e1,e2,e3];simp
    ·have ea:(a:Int)≠x:=by omega
     have e1:(up K x (some u) (a:Int)).isSome=(K (a:Int)).isSome:=by rw[C8 ea]
     have:=ih nd.2 (by rcases mem_cons.1 hm with h|h;exact absurd h.symm e;exact h)
     rw[filter_cons,filter_cons,e1]
     cases(K (a:Int)).isSome<;>simp[this]
  exact aux _ List.nodup_range (mem_range.2 (by omega))
 rg:=λn k e=>by
  by_cases hn:n=x
  ·subst hn;rw[J0]at e;cases e;exact⟨rx,hu⟩
  ·rw[C8 hn]at e;exact h.rg n k e
def Kd(d:Addr)(H H':Hp):Prop:=∀b ob,H b=some ob->b≠d->H' b=some ob
theorem Kd.of{d:Addr}{H H':Hp}(s:Same H H'):Kd d H H':=λb ob e _=>s b ob e
theorem Kd.trans{d:Addr}{H H1 H2:Hp}(h:Kd d H H1)(h':Kd d H1 H2):Kd d H H2:=λb ob e n=>h' b ob (h b ob e n) n
theorem KwAt.mo{H H':Hp}{d:Addr}{K:Kw}{m:Nat}(h:KwAt H d K m)(k:Kd d H H'):Mo H H':=λb xs e=>k b _ e λz=>by obtain⟨kvs,h1,_⟩:=h;rw[z,h1]at e;cases e
theorem QJ{k:Kn}(h:k.isO=false):ktg k≠0:=by cases k<;>simp[ktg,Kn.isO]at*
theorem kw_ktg{k k':Kn}:kw k=kw k'↔ktg k=ktg k':=by
 cases k<;>cases k'<;>simp only[kw,ktg,iff_true,true_iff]<;>decide
theorem ES{f:Int->G}{k k':Kn}(h:kw k=kw k')(hk:k.isO=false)(hk':k'.isO=false):ev f k=ev f k'↔∀z∈(kps k).zip (kps k'),ev f z.1=ev f z.2:=by
 have:=kw_ktg.1 h
 cases k<;>cases k'<;>simp[ktg,Kn.isO,ev,kps]at*
theorem OfA.mono{K:Kw}{U:List Kn}{n n':Nat}{k:Kn}(h:OfA K U n k)(e:n<=n'):OfA K U n' k:=λK' m g l=>⟨(h K' m g l).1,le_trans (h K' m g l).2 e⟩
theorem OfA.part{K:Kw}{U:List Kn}{n:Nat}{a x:Kn}(h:OfA K U (n+1) a)(ha:(pz K a).isO=false)(hx:x∈kps (pz K a)):OfA K U n x:=by
 cases e:pz K a with
 |opn y=>rw[e]at ha;cases ha
 |num=>rw[e]at hx;simp[kps]at hx
 |tru=>rw[e]at hx;simp[kps]at hx
 |lst y=>rw[e]at hx;simp[kps]at hx;subst hx;exact h.lst e
 |fn y z=>
  rw[e]at hx;simp[kps]at hx
  rcases hx with rfl|rfl
  ·exact(h.fn e).1
  ·exact(h.fn e).2
structure Lw (H:Hp) (d:Addr) (K:Kw) (m many:Nat) (U:List Kn):Prop where
 at_:KwAt H d K m
 gd:Gd K m U
 bo:Bo K m many
theorem Lw.same{H H':Hp}{d:Addr}{K:Kw}{m many:Nat}{U:List Kn}(h:Lw H d K m many U)(s:Same H H'):Lw H' d K m many U:=⟨h.at_.same s,h.gd,h.bo⟩
section
variable{P:Program}{w:World}{K:FZ}{mg:Str->Option Value}{base:Heap}{f K5 N1:Addr}{fd M6 U5:FuncData}
inductive spTiedW(n:Nat)(vs:List V)(H:Hp)(Q:VK):Prop
 |mk:∀(a b:Kn) (va vb:V) (d:Addr) (Kk:Kw) (m many:Nat) (U:List Kn),(vs=[va,vb,.ref d])->(KnAt H a va)->(KnAt H b vb)->(Lw H d Kk m many U)->(many<=9)->(U.length<=72)->(((pz Kk a).isO=true\/OfA Kk U n a))->(OfA Kk U (U.length+1) a)->(OfA Kk U (U.length+1) b)->(In many a)->(In many b)->((∀K' m' H',Tied Kk K' a b->Lw H' d K' m' many U->Kd d H H'->Q (.bl true) H'))->((∀H',JT Kk a b->Kd d H H'->Q (.bl false) H'))->spTiedW n vs H Q
def II(n:Nat):Sp:=λvs H Q _=>spTiedW n vs H Q
theorem EI{n:Nat}{sp:Sp}(F:Fun K "_law_tied" "_law_tied" X3 f fd)(B:NoG mg)(N3:FnOk P w K mg base CX0 (91+n) f fd LR sp)(hsp:∀j,n=j+1->sp=II j)(W1:Binds K fd LR [])(W5:kZ K (.ref f)=true)(W6:mg "_law_tied"=some (.ref f))
  (E7:FnOk P w K mg base CX0 91 K5 M6 q6L (GO 90))(G7:Binds K M6 q6L [])(G8:kZ K (.ref K5)=true)(G5:mg "_law_put"=some (.ref K5))
  (N7:FnOk P w K mg base CX0 91 N1 U5 q8L (JQ 90))(M7:Binds K U5 q8L [])(N5:kZ K (.ref N1)=true)(N6:mg "_law_has"=some (.ref N1)):
  FnOk P w K mg base CX0 (91+n+1) f fd LR (II n):=by
 refine F.ok sc_law_tied (λvs H Q E h=> ?_) (λcdv A outer s H vs Q E hr h=> ?_)
 ·obtain⟨a,b,va,vb,d,Kk,m,many,U,rfl,_⟩:=h
  rfl
 obtain⟨a,b,va,vb,d,Kk,m,many,U,rfl,ha,hb,hL,h9,h72,on,oa,ob,ia,ib,q1,q2⟩:=h
 have nd:=sc_law_tied.nd
 have hu:=hr.units0
 have zl:(100:Nat)<sizeLine:=by decide
 obtain⟨rk,t⟩:=hL.gd.tri
 have hm9:=hL.bo.le
 have da:=(oa Kk m hL.gd (.refl hL.gd)).2
 have db:=(ob Kk m hL.gd (.refl hL.gd)).2
 refine⟨_,(A7 (C7 (i:=0) nd rfl (Or.inl rfl) (B6 E7 (hr.mono (by omega)) rfl G5 G8 G7 .nil C1 (A0 (pv 0) (A0 (pv 2) A4))))
   (A7 (C7 (i:=1) nd rfl (Or.inl rfl) (B6 E7 (hr.mono (by omega)) rfl G5 G8 G7 .nil C1 (A0 (pv 1) (A0 (pv 2) A4))))
   (A7 (D6 (C5 (YS (Room.u160 hr)) (pv 0) (pv 1) rfl) (A8 (B4 K9)) C2)
   (A7 (D6 (C5 (kEq (K:=K) hu) (ixE K w (pv 0) A9) B9 rfl) (A7 (D6 (E1 (K:=K) (B6 N7 (hr.mono (by omega)) rfl N6 N5 M7 .nil C1 (A0 (pv 1) (A0 (pv 0) A4))) (λ_=>rfl)) (A8 (B4 K9)) C2)
   (A7 (BG (pv 1) (BC (pv 2) (ixE K w (pv 0) A9) (Q9 hr.units)))
   (A8 (B4 K9)))) C2)
   (A7 (D6 (C5 (kEq (K:=K) hu) (ixE K w (pv 1) A9) B9 rfl) (A8 (B4 (B6 N3 (hr.mono (by omega)) rfl W6 W5 W1 .nil C1 (A0 (pv 1) (A0 (pv 0) (A0 (pv 2) A4)))))) C2)
   (A7 (D6 (C5 (kNe (K:=K) hu) (ixE K w (pv 0) A9) (ixE K w (pv 1) A9) rfl) (A8 (B4 K9)) C2)
   (A7 (G9 (Z0 PassesOwn.never rfl (UX true true (K:=K) rfl B.zip_ (A0 (K0 (EJ (K:=K)) (pv 0) (K8 A9) P8) (A0 (K0 (EJ (K:=K)) (pv 1) (K8 A9) P8) A4))) (HS rfl (O9 (K6 (i:=3) nd rfl (Or.inl rfl)) (O9 (K6 (i:=4) nd rfl (Or.inl rfl)) DN))) (A8 (D6 (X0 (E1 (K:=K) (B6 N3 (hr.mono (by omega)) rfl W6 W5 W1 .nil C1 (A0 (pv 3) (A0 (pv 4) (A0 (pv 2) A4)))) (λ_=>rfl))) (A8 (B4 K9)) C2))))
   (A8 (B4 K9))))))))), ?_⟩
 refine⟨_,rfl,_,rfl,a,pz Kk a,va,d,Kk,m,rfl,ha,hL.at_,(U7 t a).mono (by omega),λva1 H1 s1 ha1=> ?_⟩
 refine⟨_,rfl,_,rfl,b,pz Kk b,vb,d,Kk,m,rfl,hb.mo (.of s1),(hL.same s1).at_,(U7 t b).mono (by omega),λvb1 H2 s2 hb1=> ?_⟩
 replace ha1:=ha1.mo (.of s2)
 have s12:=s1.trans s2
 have hL2:=hL.same s12
 have k2:Kd d H H2:=.of s12
 refine⟨_,rfl,_,rfl,pz Kk a,pz Kk b,ha1,hb1,by omega,_,rfl, ?_⟩
 by_cases eab:pz Kk a=pz Kk b
 ·exact ifT (by simpa using eab) (q1 Kk m H2 (NL hL.gd eab) hL2 k2)
 refine ifF (by simpa using eab) ?_
 have iza:In many (pz Kk a):=VI hL.bo (U7 t a) ia
 have izb:In many (pz Kk b):=VI hL.bo (U7 t b) ib
 obtain⟨pa,us,rfl,hpa,hRa⟩:=ha1.tup
 obtain⟨pb,ws,rfl,hpb,hRb⟩:=hb1.tup
 have wO:∀k:Kn,decide (V.str (kw k)=V.str "open")=k.isO:=λk=>by
  cases h:k.isO with
  |true=>exact decide_eq_true (by rw[kw_open.2 h])
  |false=>exact decide_eq_false (λz=>by have:=kw_open.1 (V.str.inj z);rw[h]at this;cases this)
 refine⟨_,rfl,(ixT (v:=.str (kw (pz Kk a))) hpa (L3 (j:=0) rfl) (.inl ⟨rfl,_,rfl, ?_⟩))⟩
 rw[wO]
 cases ea:(pz Kk a).isO with
 |true=>
  refine ifT rfl ?_
  cases eo:pz Kk a with
  |opn x=>
   rw[eo]at ha1 hRa hpa iza
   cases(hRa:us=[.int x])
   refine⟨_,rfl,_,rfl,pz Kk b,x,_,_,rfl,hb1,ha1,by omega,by omega,λH3 s3=>⟨decide (x∈(pz Kk b).vs),rfl, ?_⟩⟩
   have s13:=s12.trans s3
   by_cases hin:x∈(pz Kk b).vs
   ·exact ifT (by simpa using hin) (q2 H3 (JO hL.gd eo hin eab) (.of s13))
   ·refine ifF (by simpa using hin) ?_
    obtain⟨g1,td,hx⟩:=NY hL.gd eo hin (ob Kk m hL.gd (.refl hL.gd)).1
    obtain⟨kvs,e1,e2,e3⟩:=(hL.same s13).at_
    refine⟨_,rfl,_,rfl,_,rfl,(ixT (v:=.int x) (s3 _ _ hpa) rfl ⟨d,_,rfl,DPut.k (k:=.inl x) e1 (by omega), ?_⟩)⟩
    have kd:Kd d H3 (upd H3 d (.dK (D5 kvs (.inl x) (.ref pb)))):=λb ob e n=>B2 e n
    have m3:Mo H3 (upd H3 d (.dK (D5 kvs (.inl x) (.ref pb)))):=λb xs e=>B2 e λz=>by rw[z,e1]at e;cases e
    refine q1 _ (m+1) _ td ⟨⟨_,A3,le_trans AA (by omega),λj=> ?_⟩,g1,hL.bo.bind hx (iza x (by simp[Kn.vs])) izb⟩ ((Kd.of s13).trans kd)
    rw[Y8]
    by_cases ej:j=x
    ·subst ej
     rw[J0,if_pos rfl]
     exact⟨_,rfl,(hb1.mo (.of s3)).mo m3⟩
    ·rw[C8 ej,if_neg (λz=>ej (Sum.inl.inj z))]
     exact(e3 j).mo m3
  |_=>rw[eo]at ea;cases ea
 |false=>
  refine ifF (by simp) ?_
  rw[ea]at on
  have on:OfA Kk U n a:=by rcases on with h|h;cases h;exact h
  obtain⟨j,rfl⟩:∃j,n=j+1:=⟨n - 1,by have:=on.pos hL.gd;omega⟩
  have hsp:=hsp j rfl
  subst hsp
  refine⟨_,rfl,(ixT (v:=.str (kw (pz Kk b))) hpb (L3 (j:=0) rfl) (.inl ⟨rfl,_,rfl, ?_⟩))⟩
  rw[wO]
  cases eb:(pz Kk b).isO with
  |true=>
   refine ifT rfl ?_
   refine⟨_,rfl,_,rfl,_,rfl,pz Kk b,pz Kk a,_,_,d,Kk,m,many,U,rfl,hb1,ha1,hL2,h9,h72,.inl ?_,ob.put (m:=m),oa.put (m:=m),izb,iza,λK' m' H' td hL' kd=>q1 K' m' H' (NR hL.gd td) hL' (k2.trans kd),λH' nt kd=>q2 H' (KZ hL.gd nt) (k2.trans kd)⟩
   rw[ET t (KI t b)];exact eb
  |false=>
   refine ifF (by simp) ?_
   refine⟨_,rfl,(ixT (v:=.str (kw (pz Kk a))) hpa (L3 (j:=0) rfl) ⟨_,rfl,(ixT (v:=.str (kw (pz Kk b))) hpb (L3 (j:=0) rfl) (.inl ⟨rfl,_,rfl, ?_⟩))⟩)⟩
   by_cases ew:kw (pz Kk a)=kw (pz Kk b)
   ·refine ifF (by simp[ew]) ?_
    have hUa:=hRa.parts ea
    have hUb:=hRb.parts eb
    have hla:=hUa.len
    have hlb:=hUb.len
    have hlab:(kps (pz Kk a)).length=(kps (pz Kk b)).length:=by
     have:=kw_ktg.1 ew
     cases e1:pz Kk a<;>cases e2:pz Kk b<;>rw[e1,e2]at this<;>simp[ktg,kps]at*
    refine⟨fun σ H'=>∃K' m',(∃y z,σ=[some (.ref pa),some (.ref pb),some (.ref d),y,z])/\Lw H' d K' m' many U/\Kd d H H'/\Tied Kk K' a b, ?_, ?_⟩
    ·refine⟨_,rfl,_,rfl,P9 hpa λr1 H3 s3 h3=> ?_⟩
     have ec1:N9 (V.str (kw (pz Kk a))::us) (some 1) none=us:=Q4 _ 1
     rw[ec1]at h3
     refine⟨_,rfl,_,rfl,P9 (s3 _ _ hpb) λr2 H4 s4 h4=> ?_⟩
     have ec2:N9 (V.str (kw (pz Kk b))::ws) (some 1) none=ws:=Q4 _ 1
     rw[ec2]at h4
     have h3':=s4 _ _ h3
     have s14:=(s12.trans s3).trans s4
     have nd1:∀ {r:Addr} {xs:List V},H4 r=some (.tup xs)->r≠d:=λ{r xs} e z=>by obtain⟨kvs,e1,_⟩:=(hL.same s14).at_;rw[z,e1]at e;cases e
     refine⟨r1,r2,us,ws,rfl,SqT.of h3',SqT.of h4,RS (xs:=us) (ys:=ws) (by omega) (λi σ H'=>∃K' m',(∃y z,σ=[some (.ref pa),some (.ref pb),some (.ref d),y,z])/\Lw H' d K' m' many U/\Kd d H4 H'/\Lt Kk K'/\∀f,AN K' f↔AN Kk f/\∀z∈((kps (pz Kk a)).zip (kps (pz Kk b))).take i,ev f z.1=ev f z.2) ?_ ?_ ?_ ?_⟩
     ·exact⟨Kk,m,⟨_,_,rfl⟩,hL.same s14,.of (Same.refl _),.refl hL.gd,λf=>by simp⟩
     ·rintro i σ H' _ ⟨K',m',_,_,kd,_⟩
      exact⟨SqT.of (kd _ _ h3' (nd1 h3')),SqT.of (kd _ _ h4 (nd1 h4))⟩
     ·rintro i x y σ H' T hx hy ⟨K',m',⟨y0,z0,rfl⟩,hL',kd,lt,hsat⟩ hT
      obtain⟨ka,ga,hxa⟩:=hUa.get hx
      obtain⟨kb,gb,hyb⟩:=hUb.get hy
      have hzi:((kps (pz Kk a)).zip (kps (pz Kk b)))[i]? =some (ka,kb):=List.getElem?_zip_eq_some.2 ⟨ga,gb⟩
      have tk:=J9 hzi
      have mka:=mem_of_getElem? ga
      have mkb:=mem_of_getElem? gb
      have s5:=A5 hT (.tup [x,y])
      have m4:Mo H2 H':=(Mo.of (s3.trans s4)).trans λb xs e=>kd _ _ e (nd1 e)
      refine⟨T,_,rfl,SqT.of A3,rfl,_,_,rfl,_,_,rfl,rfl, ?_⟩
      refine⟨_,rfl,_,rfl,_,rfl,ka,kb,x,y,d,K',m',many,U,rfl,(hxa.mo m4).mo (.of s5),(hyb.mo m4).mo (.of s5),hL'.same s5,h9,h72,.inr ((on.part ea mka).later lt),((oa.part ea mka).later lt).mono (by omega),((ob.part eb mkb).later lt).mono (by omega),λz hz=>iza z (MB mka hz),λz hz=>izb z (MB mkb hz),λK2 m2 H6 td hL6 kd6=>⟨true,rfl,ifF (by simp) ?_⟩,λH6 nt kd6=>⟨false,rfl,ifT rfl ?_⟩⟩
      ·refine⟨K2,m2,⟨_,_,rfl⟩,hL6,kd.trans ((Kd.of s5).trans kd6),lt.trans td.lt,λf=> ?_⟩
       rw[td.sat f,hsat f,tk]
       simp only[mem_append,mem_singleton]
       constructor
       ·intro⟨⟨h1,h2⟩,h3⟩;exact⟨h1,λz hz=>by rcases hz with hz|rfl;exact h2 z hz;exact h3⟩
       ·intro⟨h1,h2⟩;exact⟨⟨h1,λz hz=>h2 z (.inl hz)⟩,h2 _ (.inr rfl)⟩
      ·refine q2 H6 (λf ⟨h1,h2⟩=>nt f ?_) ((Kd.of s14).trans (kd.trans ((Kd.of s5).trans kd6)))
       have hall:=(ES ew ea eb).1 (show ev f (pz Kk a)=ev f (pz Kk b) by rw[K3 t h1,K3 t h1];exact h2)
       exact⟨(hsat f).2 ⟨h1,λz hz=>hall z (List.mem_of_mem_take hz)⟩,hall _ (mem_of_getElem? hzi)⟩
     ·rintro σ H' ⟨K',m',hσ,hL',kd,lt,hsat⟩
      refine⟨K',m',hσ,hL',(Kd.of s14).trans kd,lt,λf=> ?_⟩
      have hfull:us.length=((kps (pz Kk a)).zip (kps (pz Kk b))).length:=by rw[List.length_zip];omega
      rw[hsat f,hfull,take_length]
      constructor
      ·intro⟨h1,h2⟩
       refine⟨h1, ?_⟩
       have:=(ES ew ea eb).2 h2
       rw[K3 t h1,K3 t h1]at this;exact this
      ·intro⟨h1,h2⟩
       refine⟨h1,(ES ew ea eb).1 ?_⟩
       rw[K3 t h1,K3 t h1];exact h2
    ·rintro σ H' ⟨K',m',⟨y,z,rfl⟩,hL',kd,td⟩
     exact q1 K' m' H' td hL' kd
   ·refine ifT (by simpa using ew) (q2 H2 (OG hL.gd (QJ ea) (QJ eb) λz=>ew (kw_ktg.2 z)) k2)
end
end BN
namespace BN
open PySem L2 BV
seal PE PT PW PA PS PSs PTs PI PG PGs PO PEX PSX
abbrev U2:Stmt:=top 27
abbrev FW:List Str:=["_law_bonds","_law_way","_law_one","_law_other","e","_law_others"]
theorem sc_law_refused:FnScope FW q3L (A6 U2):=fS
structure NoGV (mg:Str->Option Value):Prop extends NoG mg where
 ValueError_:mg "ValueError"=none
structure XF (K:FZ) (cT cN cK cI:Addr):Prop where
 look:ExcLook K cK
 k1:kitOne K (.ref cK) (.ref cK)=some true
 k2:kitOne K (.ref cK) (.ref cT)=some false
 k3:kitOne K (.ref cK) (.ref cN)=some false
 k4:kitOne K (.ref cK) (.ref cI)=some false
 k5:kitOne K (.ref cK) (.type "ValueError")=some true
section
variable{P:Program}{w:World}{K:FZ}{mg:Str->Option Value}{base:Heap}{f C P1 P2:Addr}{fd:FuncData}{gf:Str->Addr}{gd:Str->FuncData}{cM cT cN cK cI:Addr}
inductive spRefW(C P1 P2:Addr)(vs:List V)(H:Hp)(Q:VK):Prop
 |mk:∀(A:Ad) (S:St),(BT C P1 P2 H A S)->(((∃(T:GC) (a b:Kn) (va vb:V),vs=[.ref A.b,.int 0,va,vb]/\PInv S T/\KnAt H a va/\KnAt H b vb/\Told S a/\Told S b/\S.M+S.N+ks a+ks b<=5000/\ks a<=1000/\ks b<=1000/\(∀f,¬Sat (T++ [(a,b)]) f)/\∀H',Q (.bl true) H')\/(∃(k:Kn) (v u:V),vs=[.ref A.b,.int 1,v,u]/\Acy S/\KnAt H k v/\60<gw (ev (wv S) k)/\∀S' H',Alk S S'->BT C P1 P2 H' A S'->Kt P1 P2 A H H'->Q (.bl true) H')))->spRefW C P1 P2 vs H Q
def RE(C P1 P2:Addr):Sp:=λvs H Q _=>spRefW C P1 P2 vs H Q
theorem ok_law_refused(F:Fun K "_law_refused" "_law_refused" U2 f fd)(B:NoGV mg)(RM:BCls K C gf gd)(X_MillError:XCls K mg "MillError" cM)(X_BadText:XCls K mg "BadText" cT)(X_BadName:XCls K mg "BadName" cN)(X_BadKind:XCls K mg "BadKind" cK)(X_BadInput:XCls K mg "BadInput" cI)(TK:Takes K cM λc=>c=cK)(XX:XF K cT cN cK cI)
  (OU:FnOk P w K mg base (CXr P w) 7 (gf "tie") (gd "tie") IF (SR C P1 P2 cK))
  (BJ:FnOk P w K mg base (CXr P w) 6 (gf "final") (gd "final") T0 (DP C P1 P2 cK)):
  FnOk P w K mg base CX0 8 f fd q3L (RE C P1 P2):=by
 refine F.ok sc_law_refused (λvs H Q E h=> ?_) (λcdv A outer s H vs Q E hr h=> ?_)
 ·obtain⟨A,S,_,⟨T,a,b,va,vb,rfl,_⟩|⟨k,v,u,rfl,_⟩⟩:=h<;>rfl
 obtain⟨A,S,hT,h⟩:=h
 have nd:=sc_law_refused.nd
 have hu:=hr.units0
 refine⟨_,(A7 (NO (i:=4) rfl rfl nd rfl rfl rfl X_MillError.m TK (WW (λ_=>(C5 (kEq (K:=K) hu) (pv 1) A9 rfl)) (JF (KF (λ_=>(pv 0)) RM.cl RM.m_tie OU (hr.mono (by decide)) RM.b_tie .nil (λ_=>(A0 (pv 2) (A0 (pv 3) A4))))) (JF (KF (λ_=>(pv 0)) RM.cl RM.m_final BJ (hr.mono (by decide)) RM.b_final .nil (λ_=>(A0 (pv 2) A4))))) (λ_=>(A7 (C7 (i:=5) nd rfl (Or.inl rfl) (VJ (E8 (KB (K:=K)) rfl B.isinstance_ E6 (A0 (pv 4) (A0 (T1 (v:=.ref _) rfl X_BadText.m rfl) A4))) (VJ (E8 (KB (K:=K)) rfl B.isinstance_ E6 (A0 (pv 4) (A0 (T1 (v:=.ref _) rfl X_BadName.m rfl) A4))) (SU (E8 (KB (K:=K)) rfl B.isinstance_ E6 (A0 (pv 4) (A0 (T1 (v:=.ref _) rfl X_BadInput.m rfl) A4)))))))
   (A8 (B4 (RU (E8 (KB (K:=K)) rfl B.isinstance_ E6 (A0 (pv 4) (A0 (T1 (v:=.ref _) rfl X_BadKind.m rfl) A4))) (RU (E8 (KB (K:=K)) rfl B.isinstance_ E6 (A0 (pv 4) (A0 (DR (v:=.ty "ValueError") rfl B.ValueError_ FX rfl) A4))) (SU (XB (pv 5))))))))))
   (A8 (B4 K9))), ?_⟩
 rcases h with⟨T,a,b,va,vb,rfl,hP,ha,hb,ta,tb,hsz,ka,kb,hno,q⟩|⟨k,v,u,rfl,hac,hk,h60,q⟩
 ·refine⟨_,rfl,.inl ⟨rfl,_,rfl,ifT (by simp) ?_⟩⟩
  refine⟨_,rfl,A.b,A.dx,_,rfl,hT.br.b,rfl,_,rfl,_,rfl,A,S,T,a,b,va,vb,rfl,hT,hP,ha,hb,ta,tb,hsz,ka,kb,λS' H' p _ _ _ _=>absurd p.sat (hno _),λ_ H1=>⟨cK,rfl,rfl,λx hx=> ?_⟩⟩
  have ea:(upd H1 x (CQ x (.ref cK))) x=some (CQ x (.ref cK)):=A3
  generalize upd H1 x (CQ x (.ref cK))=H2 at ea⊢
  refine⟨_,rfl,x,_,.ref cT,cK,false,rfl,.inr ⟨_,rfl,rfl⟩,ea,XX.look,XX.k2,_,rfl,ifF nZ ?_⟩
  refine⟨_,rfl,x,_,.ref cN,cK,false,rfl,.inr ⟨_,rfl,rfl⟩,ea,XX.look,XX.k3,_,rfl,ifF nZ ?_⟩
  refine⟨_,rfl,x,_,.ref cI,cK,false,rfl,.inr ⟨_,rfl,rfl⟩,ea,XX.look,XX.k4, ?_⟩
  refine⟨_,rfl,x,_,.ref cK,cK,true,rfl,.inr ⟨_,rfl,rfl⟩,ea,XX.look,XX.k1,_,rfl,ifT rfl ?_⟩
  refine⟨_,rfl,x,_,.type "ValueError",cK,true,rfl,.inl ⟨_,rfl,rfl⟩,ea,XX.look,XX.k5,_,rfl,ifT rfl ?_⟩
  exact⟨_,rfl,_,rfl,q H2⟩
 ·refine⟨_,rfl,.inl ⟨rfl,_,rfl,ifF (by simp) ?_⟩⟩
  refine⟨_,rfl,A.b,A.dx,_,rfl,hT.br.b,rfl,_,rfl,A,S,k,v,rfl,hT,hac,hk,λhle=>by omega,λ_ S' H1 al hT1 k1=>⟨cK,rfl,rfl,λx hx=> ?_⟩⟩
  have ea:(upd H1 x (CQ x (.ref cK))) x=some (CQ x (.ref cK)):=A3
  have s1:=A5 hx (CQ x (.ref cK))
  have fin:=q S' _ al (hT1.same s1) (k1.trans (.of (.of s1)))
  generalize upd H1 x (CQ x (.ref cK))=H2 at ea fin⊢
  refine⟨_,rfl,x,_,.ref cT,cK,false,rfl,.inr ⟨_,rfl,rfl⟩,ea,XX.look,XX.k2,_,rfl,ifF nZ ?_⟩
  refine⟨_,rfl,x,_,.ref cN,cK,false,rfl,.inr ⟨_,rfl,rfl⟩,ea,XX.look,XX.k3,_,rfl,ifF nZ ?_⟩
  refine⟨_,rfl,x,_,.ref cI,cK,false,rfl,.inr ⟨_,rfl,rfl⟩,ea,XX.look,XX.k4, ?_⟩
  refine⟨_,rfl,x,_,.ref cK,cK,true,rfl,.inr ⟨_,rfl,rfl⟩,ea,XX.look,XX.k1,_,rfl,ifT rfl ?_⟩
  refine⟨_,rfl,x,_,.type "ValueError",cK,true,rfl,.inl ⟨_,rfl,rfl⟩,ea,XX.look,XX.k5,_,rfl,ifT rfl ?_⟩
  exact⟨_,rfl,_,rfl,fin⟩
end
abbrev Z1:Stmt:=top 28
abbrev JE:List Str:=["_law_bonds","_law_kind","_law_known","_law_due","_law_turn"]
theorem sc_law_tells:FnScope JE q1L (A6 Z1):=fS
theorem amZ(k:Kn):dp (gk (cl k))<=dp k:=by
 induction k with
 |opn n=>simp[cl,gk,dp]
 |num=>simp[cl,gk,dp]
 |tru=>simp[cl,gk,dp]
 |lst a ih=>simp[cl,gk,dp];exact ih
 |fn a b ih ih2=>simp[cl,gk,dp];omega
theorem KwAt.kt{C P1 P2:Addr}{H H':Hp}{A:Ad}{S:St}{d:Addr}{K:Kw}{m:Nat}(h:KwAt H d K m)(b:BT C P1 P2 H A S)(k:Kt P1 P2 A H H')(hd:d∉A.own):KwAt H' d K m:=by
 obtain⟨kvs,h1,h2,h3⟩:=h
 refine⟨kvs,k _ _ h1 hd (λz=> ?_) (λz=> ?_),h2,λn=>(h3 n).mo (b.mo k)⟩
 ·obtain⟨ps,e,_⟩:=b.t1;rw[z,e]at h1;cases h1
 ·obtain⟨ps,e,_⟩:=b.t2;rw[z,e]at h1;cases h1
section
variable{P:Program}{w:World}{K:FZ}{mg:Str->Option Value}{base:Heap}{f C P1 P2 cK:Addr}{fd:FuncData}{gf:Str->Addr}{gd:Str->FuncData}{K5 HJ IS T5:Addr}{M6 HE IT T3:FuncData}
inductive spTellsW(C P1 P2:Addr)(vs:List V)(H:Hp)(Q:VK):Prop
 |mk:∀(A:Ad) (S:St) (T:GC) (k:Kn) (v:V) (d:Addr) (Kk:Kw) (m:Nat) (rk:Int->Nat),(vs=[.ref A.b,v,.ref d])->(BT C P1 P2 H A S)->(PInv S T)->(KnAt H k v)->(KwAt H d Kk m)->(d∉A.own)->(Tri Kk m rk)->(m<=9)->(dp (pz Kk k)<=80)->((∀f,AN Kk f↔Sat T f))->((∀n∈k.vs,0<=n))->(∀S' H',Alk S S'->BT C P1 P2 H' A S'->Kt P1 P2 A H H'->Q (.bl true) H')->spTellsW C P1 P2 vs H Q
def MP(C P1 P2:Addr):Sp:=λvs H Q _=>spTellsW C P1 P2 vs H Q
theorem ok_law_tells(F:Fun K "_law_tells" "_law_tells" Z1 f fd)(B:NoGV mg)(RM:BCls K C gf gd)
  (G_finalX:FnOk P w K mg base (CXr P w) 6 (gf "final") (gd "final") T0 (DP C P1 P2 cK))
  (E7:Cn P w K mg base CX0 91 "_law_put" q6L (GO 90))
  (L6:Cn P w K mg base CX0 91 "_law_closed" q9L (BU 90))
  (O7:Cn P w K mg base CX0 91 "_law_words" q9L (DL 90))
  (G2:Cn P w K mg base CX0 8 "_law_refused" q3L (RE C P1 P2)):
  FnOk P w K mg base CX0 92 f fd q1L (MP C P1 P2):=by
 obtain⟨K5,M6,E7,G7,G8,G5⟩:=E7
 obtain⟨HJ,HE,L6,V8,W3,W2⟩:=L6
 obtain⟨IS,IT,O7,Y4,Y5,Y2⟩:=O7
 obtain⟨T5,T3,G2,T7,T6,T4⟩:=G2
 refine F.ok sc_law_tells (λvs H Q E h=> ?_) (λcdv A outer s H vs Q E hr h=> ?_)
 ·obtain⟨A,S,T,k,v,d,Kk,m,rk,rfl,_⟩:=h
  rfl
 obtain⟨A,S,T,k,v,d,Kk,m,rk,rfl,hT,hP,hk,hd,hdo,t,hm9,hdp,hsat,hnn,q⟩:=h
 have nd:=sc_law_tells.nd
 have hu:=hr.units0
 have BJ:=G_finalX.dead
 refine⟨_,(A7 (C7 (i:=3) nd rfl (Or.inl rfl) (B6 L6 (hr.mono (by omega)) rfl W2 W3 V8 .nil C1 (A0 (B6 E7 (hr.mono (by omega)) rfl G5 G8 G7 .nil C1 (A0 (pv 1) (A0 (pv 2) A4))) A4)))
   (A7 (G9 (Z0 PassesOwn.never rfl (U8 rfl B.range_ (A0 A9 A4)) (K6 (i:=4) nd rfl (Or.inl rfl)) (A8 (G9 (D6 (C5 VL (B6 O7 (hr.mono (by omega)) rfl Y2 Y5 Y4 .nil C1 (A0 (pv 3) A4)) A9 rfl) (A8 (D6 (X0 (E1 (K:=K) (B6 G2 (hr.mono (by omega)) rfl T4 T6 T7 .nil C1 (A0 (pv 0) (A0 A9 (A0 (pv 1) (A0 IA A4))))) (λ_=>rfl))) (A8 (B4 K9)) C2)) (A8 (D6 (C5 (QF (Room.u160 hr)) (E5 (pv 0) RM.cl RM.m_final BJ (hr.mono (by omega)) RM.b_final .nil C1 (A0 (pv 1) A4)) (pv 3) rfl) (A8 (B4 K9)) C2)))))))
   (A8 (B4 K9)))), ?_⟩
 refine⟨_,rfl,_,rfl,k,pz Kk k,v,d,Kk,m,rfl,hk,hd,(U7 t k).mono (by omega),λv1 H1 s1 hv1=> ?_⟩
 refine⟨pz Kk k,v1,rfl,hv1,by omega,λv2 H2 s2 hv2=> ?_⟩
 have s12:=s1.trans s2
 have hT2:=hT.same s12
 have eg:ev (wv S) k=cl (pz Kk k):=TQ hP t hsat hnn
 have hdc:=amZ (pz Kk k)
 refine⟨fun σ H'=>∃S',(∃y,σ=[some (.ref A.b),some v,some (.ref d),some v2,y])/\Alk S S'/\BT C P1 P2 H' A S'/\Kt P1 P2 A H H', ?_, ?_⟩
 ·refine⟨2,rfl,by decide,by decide,CJ (n:=2) (λ_ σ H'=>∃S',(∃y,σ=[some (.ref A.b),some v,some (.ref d),some v2,y])/\Alk S S'/\BT C P1 P2 H' A S'/\Kt P1 P2 A H2 H') ?_ ?_ ?_⟩
  ·exact⟨S,⟨_,rfl⟩,.rfl,hT2,.of .refl⟩
  ·rintro i σ H3 hi ⟨S3,⟨y,rfl⟩,al,hT3,k3⟩
   have hv3:=hv2.mo (hT2.mo k3)
   have hk3:=(hk.mo (.of s12)).mo (hT2.mo k3)
   have ha3:=al.acy hP.wf hP.acy
   have ew:=al.wv hP.wf hP.acy
   refine⟨_, ?_,λ_ _ h=>h⟩
   refine⟨_,rfl,cl (pz Kk k),v2,rfl,hv3,by omega,by omega,λH4 s4=>⟨_,_,rfl,rfl,_,rfl, ?_⟩⟩
   have hT4:=hT3.same s4
   have k4:Kt P1 P2 A H2 H4:=k3.trans (.of (.of s4))
   by_cases h60:60<gw (cl (pz Kk k))
   ·refine ifT (by simp;omega) ?_
    refine⟨_,rfl,_,rfl,A,S3,hT4,.inr ⟨k,v,.non,rfl,ha3,hk3.mo (.of s4),by rw[ew,eg];exact h60,λS5 H5 al5 hT5 k5=>⟨true,rfl,ifF (by simp) ?_⟩⟩⟩
    exact⟨S5,⟨_,rfl⟩,al.trans al5,hT5,k4.trans k5⟩
   ·refine ifF (by simp;omega) ?_
    refine⟨_,rfl,A.b,A.dx,_,rfl,hT4.br.b,rfl,_,rfl,A,S3,k,v,rfl,hT4,ha3,hk3.mo (.of s4),λhle S5 H5 u al5 hT5 k5 hu5=> ?_,λhgt=>by rw[ew,eg]at hgt;omega⟩
    rw[ew,eg]at hu5
    have hv5:=(hv3.mo (.of s4)).mo (hT4.mo k5)
    refine⟨_,rfl,gk (cl (pz Kk k)),gk (cl (pz Kk k)),hu5,hv5,by omega,_,rfl,ifF (by simp) ?_⟩
    exact⟨S5,⟨_,rfl⟩,al.trans al5,hT5,k4.trans k5⟩
  ·rintro σ H3 ⟨S3,hσ,al,hT3,k3⟩
   exact⟨S3,hσ,al,hT3,λb ob e n x1 x2=>k3 _ _ (s12 _ _ e) n x1 x2⟩
 ·rintro σ H3 ⟨S3,⟨y,rfl⟩,al,hT3,k3⟩
  exact q S3 H3 al hT3 k3
end
abbrev Y0:Stmt:=top 29
abbrev NC:List Str:=["_law_script","_law_first","_law_many","_law_bonds","_law_k","_law_kind","_law_known","_law_pairs","_law_turn","_law_pair_here","_law_more"]
theorem sc_law:FnScope NC ["_law_script"] (A6 Y0):=fS
theorem UJ{K:FZ}{H H':Hp}{a:Addr}{xs:List V}(h:SqL K H a xs)(k:∀ob,H a=some ob->(∀kvs,ob≠ .dK kvs)->(∀c d e,ob≠ .ins c d e)->(∀ps,ob≠ .tbl ps)->H' a=some ob):SqL K H' a xs:=by
 rcases h with(h|⟨o,h⟩)|h
 ·exact .inl (.inl (k _ h (λ_ z=>nomatch z) (λ_ _ _ z=>nomatch z) (λ_ z=>nomatch z)))
 ·exact .inl (.inr ⟨o,k _ h (λ_ z=>nomatch z) (λ_ _ _ z=>nomatch z) (λ_ z=>nomatch z)⟩)
 ·exact .inr h
theorem afZ{K:FZ}{C:Addr}{H H':Hp}{A:Ad}{S:St}{a:Addr}{xs:List V}(h:SqL K H a xs)(b:BR C H A S)(k:Kq A H H'):SqL K H' a xs:=
 UJ h λob e n1 n2 _=>k _ _ e λhb=>by
  rcases b.own hb with⟨dx,fs,e2⟩|⟨kvs,e2⟩<;>rw[e]at e2
  ·exact n2 _ _ _ (Option.some.inj e2)
  ·exact n1 _ (Option.some.inj e2)
theorem WI{K:FZ}:kitOne K (.type "int") (.type "bool")=some false:=by
 unfold kitOne;rfl
def EO(ps:List (Kn×Kn)):List Kn:=ps.flatMap λx=>nv x.1++nv x.2
theorem VB{many:Int}{H:Hp}{ps:List (Kn×Kn)}{us:List V}(h:All2 (TwoAt many H) ps us):(EO ps).length<=6*ps.length:=by
 induction h with
 |nil=>simp[EO]
 | @cons x v ps us hx _ ih=>
  obtain⟨p,u1,u2,_,_,_,_,l1,l2⟩:=hx
  have:=l1.nv;have:=l2.nv
  simp only[EO,List.flatMap_cons,length_append,length_cons]at ih⊢
  omega
theorem BT.kd{C P1 P2:Addr}{H H':Hp}{A:Ad}{S:St}{d:Addr}{K:Kw}{m:Nat}(b:BT C P1 P2 H A S)(h:KwAt H d K m)(k:Kd d H H')(hd:d∉A.own):BT C P1 P2 H' A S:=by
 have mo:=h.mo k
 obtain⟨kvs,h1,_⟩:=h
 have kk:∀b ob,H b=some ob->((∃ps,ob=.tbl ps)\/∃φ,ob=.ext φ)->H' b=some ob:=λb ob e n=>k b ob e λz=>by
  rw[z,h1]at e;cases e;rcases n with⟨_,n⟩|⟨_,n⟩<;>cases n
 exact⟨b.br.keep (λx hx ob e=>k x ob e λz=>hd (z▸hx)) mo,O8 b.t1 kk,O8 b.t2 kk,b.ne⟩
theorem BT.other{C P1 P2:Addr}{H H':Hp}{A A2:Ad}{S S2 S2':St}(h:BT C P1 P2 H A S)(b:BT C P1 P2 H A2 S2)(k:Kt P1 P2 A2 H H')(b':BT C P1 P2 H' A2 S2')(ap:∀x∈A.own,x∉A2.own):BT C P1 P2 H' A S:=by
 refine⟨h.br.keep (λx hx ob e=>k x ob e (ap x hx) (λz=> ?_) (λz=> ?_)) (b.mo k),b'.t1,b'.t2,h.ne⟩
 ·obtain⟨ps,e1,_⟩:=h.t1
  rcases h.br.own hx with⟨dx,fs,e2⟩|⟨kvs,e2⟩<;>rw[z,e1]at e2<;>cases e2
 ·obtain⟨ps,e1,_⟩:=h.t2
  rcases h.br.own hx with⟨dx,fs,e2⟩|⟨kvs,e2⟩<;>rw[z,e1]at e2<;>cases e2
def Fm(P1 P2 d:Addr)(A:Ad)(H H':Hp):Prop:=∀b ob,H b=some ob->b∉A.own->b≠P1->b≠P2->b≠d->H' b=some ob
theorem Fm.trans{P1 P2 d:Addr}{A:Ad}{H H1 H2:Hp}(h:Fm P1 P2 d A H H1)(h':Fm P1 P2 d A H1 H2):Fm P1 P2 d A H H2:=λb ob e n1 n2 n3 n4=>h' b ob (h b ob e n1 n2 n3 n4) n1 n2 n3 n4
theorem Kt.fm{P1 P2 d:Addr}{A:Ad}{H H':Hp}(h:Kt P1 P2 A H H'):Fm P1 P2 d A H H':=λb ob e n1 n2 n3 _=>h b ob e n1 n2 n3
theorem Kd.fm{P1 P2 d:Addr}{A:Ad}{H H':Hp}(h:Kd d H H'):Fm P1 P2 d A H H':=λb ob e _ _ _ n4=>h b ob e n4
theorem Fm.of{P1 P2 d:Addr}{A:Ad}{H H':Hp}(h:Same H H'):Fm P1 P2 d A H H':=λb ob e _ _ _ _=>h b ob e
theorem Fm.mo{C P1 P2:Addr}{H H':Hp}{A:Ad}{S:St}{d:Addr}{K:Kw}{m:Nat}(f:Fm P1 P2 d A H H')(b:BT C P1 P2 H A S)(h:KwAt H d K m):Mo H H':=λx xs e=>by
 obtain⟨kvs,h1,_⟩:=h
 obtain⟨p1,e1,_⟩:=b.t1
 obtain⟨p2,e2,_⟩:=b.t2
 exact f x _ e (b.br.ntup e) (λz=>by rw[z,e1]at e;cases e) (λz=>by rw[z,e2]at e;cases e) (λz=>by rw[z,h1]at e;cases e)
theorem Fm.lst{C P1 P2:Addr}{H H':Hp}{A:Ad}{S:St}{d:Addr}{K:Kw}{m:Nat}(f:Fm P1 P2 d A H H')(b:BT C P1 P2 H A S)(h:KwAt H d K m){x:Addr}{xs:List V}(e:H x=some (.lst xs)):H' x=some (.lst xs):=by
 obtain⟨kvs,h1,_⟩:=h
 obtain⟨p1,e1,_⟩:=b.t1
 obtain⟨p2,e2,_⟩:=b.t2
 exact f x _ e (b.br.nlst e) (λz=>by rw[z,e1]at e;cases e) (λz=>by rw[z,e2]at e;cases e) (λz=>by rw[z,h1]at e;cases e)
theorem VZ(U:List Kn):Gd (λ_=>none) 0 U:=by
 have t:Tri (λ_=>none) 0 (λ_=>0):=⟨λn k e=>(by cases e),λn k e=>(by cases e)⟩
 refine⟨⟨_,t⟩,λn s hs=> ?_⟩
 rw[HU t rfl]at hs
 simp[nv]at hs
theorem JJ{ps:List (Kn×Kn)}{x:Kn×Kn}(h:x∈ps){t:Kn}(ht:t∈nv x.1\/t∈nv x.2):t∈EO ps:=List.mem_flatMap.2 ⟨x,h,by rcases ht with h|h<;>simp[h]⟩
structure Ls (C P1 P2:Addr) (H:Hp) (A:Ad) (d pl:Addr) (S:St) (Kk:Kw) (m many:Nat) (ps:List (Kn×Kn)) (us:List V) (i:Nat):Prop where
 bt:BT C P1 P2 H A S
 pi:PInv S (ps.take i)
 lw:Lw H d Kk m many (EO ps)
 sat:∀f,AN Kk f↔Sat (ps.take i) f
 dow:d∉A.own
 pl:H pl=some (.lst us)
 ps:All2 (TwoAt many H) ps us
 n:S.N=many+i
 m:S.M<=10*i
section
variable{P:Program}{w:World}{K:FZ}{mg:Str->Option Value}{base:Heap}{f C P1 P2 cK fi:Addr}{fd di:FuncData}{gf:Str->Addr}{gd:Str->FuncData}{FJ KN KU IV T5:Addr}{FR KP KS IU T3:FuncData}
inductive spLawW(K:FZ)(P1 P2:Addr)(vs:List V)(H:Hp)(Q:VK):Prop
 |mk:∀(a:Addr) (ns:List Int),(vs=[.ref a])->(SqL K H a (ns.map V.int))->(ns.length<=63)->(V5 H P1 (lAt lx1) q1)->(V5 H P2 (lAt lx2) q2)->(P1≠P2)->(∀H',Q (.bl true) H')->spLawW K P1 P2 vs H Q
def MX(K:FZ)(P1 P2:Addr):Sp:=λvs H Q _=>spLawW K P1 P2 vs H Q
theorem ok_law(F:Fun K "law" "law" Y0 f fd)(B:NoGV mg)(RM:BCls K C gf gd)(M_Bonds:Mk K C fi)(m_Bonds:mg "Bonds"=some (.ref C))
  (GBonds___init__:FnOk P w K mg base CX0 1 fi di X2 (RW C))(bBonds___init__:Binds K di X2 [])
  (HI:FnOk P w K mg base CX0 1 (gf "fresh") (gd "fresh") X2 (NF C))
  (G_tieX:FnOk P w K mg base (CXr P w) 7 (gf "tie") (gd "tie") IF (SR C P1 P2 cK))
  (G_finalX:FnOk P w K mg base (CXr P w) 6 (gf "final") (gd "final") T0 (DP C P1 P2 cK))
  (T2:Cn P w K mg base CX0 1 "_law_cell_at" YI (PZ K))
  (V9:Cn P w K mg base CX0 2 "_law_pair" q5L PR)
  (N3:Cn P w K mg base CX0 165 "_law_tied" LR (II 73))
  (J8:Cn P w K mg base CX0 92 "_law_tells" q1L (MP C P1 P2))
  (G2:Cn P w K mg base CX0 8 "_law_refused" q3L (RE C P1 P2)):
  FnOk P w K mg base CX0 166 f fd ["_law_script"] (MX K P1 P2):=by
 obtain⟨FJ,FR,T2,FK,FN,FO⟩:=T2
 obtain⟨KN,KP,V9,DU,DZ,DV⟩:=V9
 obtain⟨KU,KS,N3,W1,W5,W6⟩:=N3
 obtain⟨IV,IU,J8,O6,O5,O4⟩:=J8
 obtain⟨T5,T3,G2,T7,T6,T4⟩:=G2
 refine F.ok sc_law (λvs H Q E h=> ?_) (λcdv A outer s H vs Q E hr h=> ?_)
 ·obtain⟨a,ns,rfl,_⟩:=h
  rfl
 obtain⟨a,ns,rfl,ha,hns,t1,t2,nP,q⟩:=h
 have nd:=sc_law.nd
 have hu:=hr.units0
 have OU:=G_tieX.dead
 have BJ:=G_finalX.dead
 have z1:(1:Nat)<=sizeLine:=by decide
 have z2:(2:Nat)<=sizeLine:=by decide
 have z3:(3:Nat)<=sizeLine:=by decide
 have z100:(100:Nat)<=sizeLine:=by decide
 refine⟨_,(A7 (C7 (i:=1) nd rfl (Or.inl rfl) (C6 M0 (C6 aNZ (C6 (P3 (K:=K)) (B6 T2 (hr.mono (by omega)) rfl FO FN FK .nil C1 (A0 (pv 0) (A0 A9 A4))) A9) A9) A9))
   (A7 (C7 (i:=2) nd rfl (Or.inr rfl) (C6 (P3 (K:=K)) A9 (C6 M0 (pv 1) A9)))
   (A7 (C7 (i:=3) nd rfl (Or.inl rfl) (IX M_Bonds GBonds___init__ (hr.mono (by omega)) rfl m_Bonds bBonds___init__ .nil C1))
   (A7 (G9 (Z0 PassesOwn.never rfl (U8 rfl B.range_ (A0 (pv 2) A4)) (K6 (i:=4) nd rfl (Or.inl rfl)) (A7 (C7 (i:=5) nd rfl (Or.inl rfl) (BO (pv 3) RM.cl RM.m_fresh HI (hr.mono (by omega)) RM.b_fresh .nil C1))
   (A8 (G9 (D6 (PW.pt (KH (X0 (E1 (K:=K) (E8 (RB (K:=K)) rfl B.isinstance_ E6 (A0 (pv 5) (A0 (DR (v:=.ty "tuple") rfl B.tuple_ V0 rfl) A4))) (λ_=>rfl))) (KH (C5 (QF (Room.u160 hr)) (pv 5) (B5 (A0 B9 (A0 (pv 4) A4))) rfl) (HM (E1 (K:=K) (E8 (RB (K:=K)) rfl B.isinstance_ E6 (A0 (ixE K w (pv 5) A9) (A0 (DR (v:=.ty "bool") rfl B.bool_ TY rfl) A4))) (λ_=>rfl)))))) (A8 (B4 K9)) C2))))))
   (A7 (C7 (i:=6) nd rfl (Or.inl rfl) BL)
   (A7 (AZ (i:=7) nd rfl rfl (cS (N:=NC) (sc:=A6 Y0) (caps:=[2]) (ns:=["_law_many"])) rfl rfl rfl (AF (K:=K) (K0 (EJ (K:=K)) (pv 0) (K8 A9) (K8 A9))) (λ_ _ _ _ _=>L9) (λ_ _ _ _ _=>(B6 V9 (hr.mono (by omega)) rfl DV DZ DU .nil C1 (A0 (pv 0) (A0 (pv 1) A4)))))
   (A7 (G9 (D6 (C5 (kEq (K:=K) hu) (C6 M0 (C6 M4 (pv 1) A9) A9) A9 rfl) (A7 (AZ (i:=7) nd rfl rfl (cS (N:=NC) (sc:=A6 Y0) (caps:=[]) (ns:=[])) rfl rfl rfl (U8 rfl B.range_ (A0 (C6 BD (E8 (CM rfl) rfl B.min_ LG (A0 A9 (A0 (pv 2) A4))) A9) A4)) (λ_ _ _ _ _=>L9) (λ_ _ _ _ _=>(B5 (A0 (B5 (A0 B9 (A0 (pv 0) A4))) (A0 (B5 (A0 B9 (A0 (B5 (A0 B9 (A0 (C6 (P3 (K:=K)) (pv 0) A9) A4))) (A0 (B5 (A0 B9 (A0 (C6 (P3 (K:=K)) (pv 0) A9) A4))) A4)))) A4)))))
   (A8 (C7 (i:=7) nd rfl (Or.inl rfl) (C6 (P3 (K:=K)) (pv 7) (X6 (cS (N:=NC) (sc:=A6 Y0) (caps:=[2]) (ns:=["_law_many"])) rfl rfl rfl (AF (K:=K) (K0 (EJ (K:=K)) (pv 0) (K8 A9) (K8 (C6 (P3 (K:=K)) A9 (C6 M0 (C6 M4 (pv 1) A9) A9))))) (λ_ _ _ _ _=>L9) (λ_ _ _ _ _=>(B6 V9 (hr.mono (by omega)) rfl DV DZ DU .nil C1 (A0 (pv 0) (A0 (pv 1) A4))))))))) C2))
   (A7 (G9 (Z0 PassesOwn.never rfl (RH false (K:=K) rfl B.enumerate_ (A0 (pv 7) A4)) (HS rfl (O9 (K6 (i:=8) nd rfl (Or.inl rfl)) (O9 (K6 (i:=9) nd rfl (Or.inl rfl)) DN))) (A7 (D6 (X0 (E1 (K:=K) (B6 N3 (hr.mono (by omega)) rfl W6 W5 W1 .nil C1 (A0 (ixE K w (pv 9) A9) (A0 (ixE K w (pv 9) A9) (A0 (pv 6) A4)))) (λ_=>rfl))) (A8 (B4 (B6 G2 (hr.mono (by omega)) rfl T4 T6 T7 .nil C1 (A0 (pv 3) (A0 A9 (A0 (ixE K w (pv 9) A9) (A0 (ixE K w (pv 9) A9) A4))))))) C2)
   (A7 (G9 (D6 (PW.pt (KH (C5 UC (E5 (pv 3) RM.cl RM.m_tie OU (hr.mono (by omega)) RM.b_tie .nil C1 (A0 (ixE K w (pv 9) A9) (A0 (ixE K w (pv 9) A9) A4))) IA rfl) (HM (X0 (E1 (K:=K) (B6 J8 (hr.mono (by omega)) rfl O4 O5 O6 .nil C1 (A0 (pv 3) (A0 (B5 (A0 B9 (A0 (C6 M0 (pv 8) (pv 2)) A4))) (A0 (pv 6) A4)))) (λ_=>rfl)))))) (A8 (B4 K9)) C2))
   (A8 (G9 (D6 (PW.pt (KH (C5 (QF (Room.u160 hr)) (BO (pv 3) RM.cl RM.m_fresh HI (hr.mono (by omega)) RM.b_fresh .nil C1) (B5 (A0 B9 (A0 (C6 (P3 (K:=K)) (pv 2) (pv 8)) A4))) rfl) (HM (X0 (E1 (K:=K) (B6 J8 (hr.mono (by omega)) rfl O4 O5 O6 .nil C1 (A0 (pv 3) (A0 (B5 (A0 B9 (A0 (C6 (P3 (K:=K)) (pv 2) (pv 8)) A4))) (A0 (pv 6) A4)))) (λ_=>rfl)))))) (A8 (B4 K9)) C2)))))))
   (A7 (G9 (Z0 PassesOwn.never rfl (U8 rfl B.range_ (A0 (pv 2) A4)) (K6 (i:=4) nd rfl (Or.inl rfl)) (A7 (D6 (X0 (E1 (K:=K) (B6 J8 (hr.mono (by omega)) rfl O4 O5 O6 .nil C1 (A0 (pv 3) (A0 (B5 (A0 B9 (A0 (pv 4) A4))) (A0 (pv 6) A4)))) (λ_=>rfl))) (A8 (B4 K9)) C2)
   (A8 (D6 (X0 (E1 (K:=K) (B6 J8 (hr.mono (by omega)) rfl O4 O5 O6 .nil C1 (A0 (pv 3) (A0 (B5 (A0 B9 (A0 (B5 (A0 B9 (A0 (pv 4) A4))) (A0 (B5 (A0 B9 (A0 (B5 (A0 B9 (A0 (C6 BD (C6 BD (pv 2) A9) (pv 4)) A4))) A4))) A4)))) (A0 (pv 6) A4)))) (λ_=>rfl))) (A8 (B4 K9)) C2)))))
   (A7 (C7 (i:=10) nd rfl (Or.inl rfl) (IX M_Bonds GBonds___init__ (hr.mono (by omega)) rfl m_Bonds bBonds___init__ .nil C1))
   (A7 (G9 (D6 (PW.pt (KH (C5 (QF (Room.u160 hr)) (BO (pv 10) RM.cl RM.m_fresh HI (hr.mono (by omega)) RM.b_fresh .nil C1) (B5 (A0 B9 (A0 A9 A4))) rfl) (HM (C5 (QF (Room.u160 hr)) (E5 (pv 10) RM.cl RM.m_final BJ (hr.mono (by omega)) RM.b_final .nil C1 (A0 (B5 (A0 B9 (A0 (B5 (A0 B9 (A0 A9 A4))) A4))) A4)) (B5 (A0 B9 (A0 (B5 (A0 B9 A4)) A4))) rfl)))) (A8 (B4 K9)) C2))
   (A8 (B4 (B6 J8 (hr.mono (by omega)) rfl O4 O5 O6 .nil C1 (A0 (pv 3) (A0 (B5 (A0 B9 (A0 (B5 (A0 B9 (A0 A9 A4))) A4))) (A0 (pv 6) A4))))))))))))))))), ?_⟩
 refine⟨_,rfl,a,ns,0,rfl,ha,λm0=> .inl ⟨_,_,rfl,rfl,.inl ⟨_,_,rfl,rfl,.inr ⟨by decide,by decide⟩,_,_,rfl,rfl,by decide, ?_⟩⟩⟩
 generalize(m0+1)*48271%2147483647=fst
 refine⟨_,rfl,_,_,rfl,rfl,by decide,.inl ⟨_,_,rfl,rfl, ?_⟩⟩
 obtain⟨many,em,hm1,hm9⟩:∃many:Nat,1+fst%9=(many:Int)/\1<=many/\many<=9:=⟨(1+fst%9).toNat,by omega,by omega,by omega⟩
 rw[em]
 refine λo dxo ho hdx hne=>⟨o,dxo,rfl,A3,λA1 H1 eA kk own hB1=>⟨rfl, ?_⟩⟩
 subst eA
 have oldK:∀b ob,H b=some ob->H1 b=some ob:=λb ob e=>by
  have n1:b≠A1.b:=B0 e ho
  have n2:b≠dxo:=B0 e hdx
  exact kk b ob (by rw[B1 n1,B1 n2];exact e) n1
 have sH:Same H H1:=oldK
 have t11:V5 H1 P1 (lAt lx1) q1:=O8 t1 λb ob e _=>oldK b ob e
 have t21:V5 H1 P2 (lAt lx2) q2:=O8 t2 λb ob e _=>oldK b ob e
 have hBT1:BT C P1 P2 H1 A1 .nil:=⟨hB1,t11,t21,nP⟩
 have ha1:=sH.seq ha
 refine⟨fun σ H'=>∃(S:St) (y4 y5:Option V),σ=[some (.ref a),some (.int fst),some (.int (many:Nat)),some (.ref A1.b),y4,y5,none,none,none,none,none]/\BT C P1 P2 H' A1 S/\PInv S []/\S.N=many/\S.M=0/\SqL K H' a (ns.map V.int), ?_, ?_⟩
 ·refine⟨_,rfl,(many:Nat),rfl,by omega,by omega,CJ (n:=many) (λi σ H'=>∃(S:St) (y4 y5:Option V),σ=[some (.ref a),some (.int fst),some (.int (many:Nat)),some (.ref A1.b),y4,y5,none,none,none,none,none]/\BT C P1 P2 H' A1 S/\PInv S []/\S.N=i/\S.M=0/\SqL K H' a (ns.map V.int)) ?_ ?_ ?_⟩
  ·exact⟨.nil,_,_,rfl,hBT1,.nil,rfl,rfl,ha1⟩
  ·rintro i σ H' hi ⟨S,y4,y5,rfl,hBT,hP,hN,hM,hsq⟩
   refine⟨_,rfl,A1.b,A1.dx,_,rfl,hBT.br.b,rfl,A1,S,rfl,hBT.br,by omega,λp H2 hB2 kq2 hp=> ?_⟩
   have hBT2:=hBT.kq kq2 hB2
   have hsq2:=afZ hsq hBT.br kq2
   refine⟨_, ?_,λ_ _ h=>h⟩
   refine⟨_,rfl,_,_,_,true,rfl,.tup hp,SM,true,rfl,ifF (by simp) ?_⟩
   refine⟨_,rfl,_,rfl,z2,λp2 hp2=> ?_⟩
   have s5:=A5 hp2 (.tup [.str "open",.int (0+(i:Int))])
   refine⟨.opn (S.N:Int),.opn (0+(i:Int)),⟨p,rfl,s5 _ _ hp⟩,⟨p2,rfl,A3⟩,by simp[dp],_,rfl, ?_⟩
   have eN:Kn.opn (S.N:Int)=Kn.opn (0+(i:Int)):=by rw[hN];simp
   rw[decide_eq_true eN]
   refine ifF (by simp) ?_
   refine⟨_,rfl,(ixT (v:=.int (S.N:Int)) (s5 _ _ hp) rfl ⟨_,_,_,false,rfl,.int _,WI,false,rfl,ifF (by simp) ?_⟩)⟩
   exact⟨S.fresh,_,_,rfl,hBT2.same s5,hP.fresh,by show S.N+1=i+1;omega,hM,s5.seq hsq2⟩
  ·rintro σ H' ⟨S,y4,y5,rfl,hBT,hP,hN,hM,hsq⟩
   exact⟨S,y4,y5,rfl,hBT,hP,hN,hM,hsq⟩
 ·rintro σ H2 ⟨S2,y4,y5,rfl,hBT2,hP2,hN2,hM2,hsq2⟩
  refine λd hd=> ?_
  have s3:=A5 hd (.dK [])
  have hBT3:=hBT2.same s3
  have hd3:upd H2 d (.dK []) d=some (.dK []):=A3
  have hsq3:=s3.seq hsq2
  have hdo:d∉A1.own:=hBT2.br.nnew hd
  show GD _ _ _ [some (.ref a),some (.int fst),some (.int (many:Nat)),some (.ref A1.b),y4,y5,some (.ref d),none,none,none,none] (upd H2 d (.dK []))
  generalize upd H2 d (.dK [])=H3 at s3 hBT3 hd3 hsq3⊢
  have cutN:∀lo hi:Option Int,∃cs:List Int,N9 (ns.map V.int) lo hi=cs.map V.int:=λlo hi=>by
   refine⟨(ns.drop (HT.sIx (ns.map V.int).length 0 lo)).take (HT.sIx (ns.map V.int).length (ns.map V.int).length hi - HT.sIx (ns.map V.int).length 0 lo), ?_⟩
   unfold N9
   rw[List.map_take,List.map_drop]
  have cut13:∀k:Nat,(N9 (ns.map V.int) (some 1) (some (1+(k:Int)))).length<=k:=λk=>by
   have:=RT (ns.map V.int) 1 (1+k)
   rw[show((1:Nat):Int)=1 from rfl,show(((1+k:Nat)):Int)=1+(k:Int) by omega]at this
   rw[this,length_take]
   omega
  refine⟨_,rfl,_,rfl,_,rfl,.inl (.inl ⟨a,_,rfl,hsq3,λl hl=> ?_⟩)⟩
  have c13:=cut13 12
  rw[show(1+((12:Nat):Int))=13 by omega]at c13
  obtain⟨cs,ecs⟩:=cutN (some 1) (some 13)
  rw[ecs]at c13⊢
  rw[length_map]at c13
  have s4:=A5 hl (.lst (cs.map V.int))
  have hl4:upd H3 l (.lst (cs.map V.int)) l=some (.lst (cs.map V.int)):=A3
  generalize upd H3 l (.lst (cs.map V.int))=H4 at s4 hl4⊢
  refine⟨l,rfl,⟨_,SqL.of hl4⟩,V6 (xs:=cs.map V.int) (λi ys H5=>Same H4 H5/\∃ps:List (Kn×Kn),All2 (TwoAt many H5) ps ys/\ps.length=i) ?_ ?_ ?_ ?_⟩
  ·exact⟨Same.refl _,[],.nil,rfl⟩
  ·rintro i ys H5 hi ⟨s5,ps,hps,hpl⟩
   have:=hps.len
   rw[length_map]at hi
   exact⟨SqL.of (s5 _ _ hl4),by omega⟩
  ·rintro i x ys H5 hx ⟨s5,ps,hps,hpl⟩
   refine Q6 ?_
   rw[getElem?_map]at hx
   obtain⟨z,hz,rfl⟩:=map_eq_some_iff.mp hx
   refine⟨_,rfl,_,rfl,z,(many:Nat),rfl,by omega,by omega,λx v H6 s6 hv=>⟨s5.trans s6,ps++ [x],(hps.imp λ_ _ h=>h.mo (.of s6)).app (.cons hv .nil),by simp[hpl]⟩⟩
  ·rintro ys H5 ⟨s5,ps,hps,hpl⟩ pl0 hpl0
   have s6:=A5 hpl0 (.lst ys)
   have s36:=(s4.trans s5).trans s6
   have hBT6:=hBT3.same s36
   have hd6:=s36 _ _ hd3
   have hsq6:=s36.seq hsq3
   rw[length_map]at hpl
   have hps6:=hps.imp λ_ _ h=>h.mo (.of s6)
   have hp6:upd H5 pl0 (.lst ys) pl0=some (.lst ys):=A3
   show GD _ _ _ [some (.ref a),some (.int fst),some (.int (many:Nat)),some (.ref A1.b),y4,y5,some (.ref d),some (.ref pl0),none,none,none] (upd H5 pl0 (.lst ys))
   generalize upd H5 pl0 (.lst ys)=H6 at s6 s36 hBT6 hd6 hsq6 hps6 hp6⊢
   clear s4 s5 s6 s36
   refine⟨fun σ H'=>∃(pl:Addr) (us:List V) (ps:List (Kn×Kn)),σ=[some (.ref a),some (.int fst),some (.int (many:Nat)),some (.ref A1.b),y4,y5,some (.ref d),some (.ref pl),none,none,none]/\BT C P1 P2 H' A1 S2/\H' d=some (.dK [])/\H' pl=some (.lst us)/\All2 (TwoAt many H') ps us/\ps.length<=12, ?_, ?_⟩
   ·refine⟨_,rfl,_,_,rfl,rfl,⟨by decide,by decide⟩,_,_,rfl,rfl,by decide,.inl ⟨rfl,_,rfl, ?_⟩⟩
    by_cases hq:fst/9%4=1
    ·refine ifT (by simpa using hq) ?_
     obtain⟨N,eN,hN6,hNm⟩:∃N:Nat,(if(many:Int)<7 then(many:Int)else 7) - 1=(N:Int)/\N<=6/\N+1<=many:=by
      by_cases h7:(many:Int)<7
      ·exact⟨many - 1,by rw[if_pos h7];omega,by omega,by omega⟩
      ·exact⟨6,by rw[if_neg h7];rfl,by omega,by omega⟩
     refine⟨_,rfl,_,_,rfl,_,_,rfl,rfl, ?_⟩
     rw[eN]
     refine⟨(N:Nat),rfl,by omega,by omega,EL (n:=N) (λi ys H7=>Same H6 H7/\∃ps:List (Kn×Kn),All2 (TwoAt many H7) ps ys/\ps.length=i) ?_ ?_ ?_ ?_⟩
     ·exact⟨Same.refl _,[],.nil,rfl⟩
     ·rintro i ys H7 hi ⟨s7,ps,hps,hpl⟩
      have:=hps.len
      omega
     ·rintro i ys H7 hi ⟨s7,ps,hps,hpl⟩
      refine Q6 ?_
      refine⟨_,rfl,z2,λp1 hp1=>⟨_,rfl,.inl ⟨_,_,rfl,rfl,z2,λp2 hp2=>⟨_,rfl,.inl ⟨_,_,rfl,rfl,z2,λp3 hp3=>⟨z3,λp4 hp4=>⟨z2,λp5 hp5=> ?_⟩⟩⟩⟩⟩⟩⟩
      have u1:=A5 hp1 (.tup [.str "open",.int (0+(i:Int))])
      have u2:=A5 hp2 (.tup [.str "open",.int (0+(i:Int)+1)])
      have u3:=A5 hp3 (.tup [.str "open",.int (0+(i:Int)+1)])
      have u4:=A5 hp4 (.tup [.str "fn",.ref p2,.ref p3])
      have u5:=A5 hp5 (.tup [.ref p1,.ref p4])
      have w4:=u4.trans u5
      have w3:=u3.trans w4
      have w2:=u2.trans w3
      have w1:=u1.trans w2
      have k1:KnAt _ (.opn (0+(i:Int))) (.ref p1):=⟨p1,rfl,w2 _ _ A3⟩
      have k4:KnAt _ (.fn (.opn (0+(i:Int)+1)) (.opn (0+(i:Int)+1))) (.ref p4):=⟨p4,_,_,rfl,u5 _ _ A3,⟨p2,rfl,w3 _ _ A3⟩,⟨p3,rfl,w4 _ _ A3⟩⟩
      have two:TwoAt (many:Nat) _ (Kn.opn (0+(i:Int)),Kn.fn (.opn (0+(i:Int)+1)) (.opn (0+(i:Int)+1))) (.ref p5):=⟨p5,_,_,rfl,A3,k1,k4,⟨λz hz=>by simp[Kn.vs]at hz;omega,by simp[ks],by simp[nv]⟩,⟨λz hz=>by simp[Kn.vs]at hz;omega,by simp[ks],by simp[nv]⟩⟩
      exact⟨s7.trans w1,ps++ [_],(hps.imp λ_ _ h=>h.mo (.of w1)).app (.cons two .nil),by simp[hpl]⟩
     ·rintro ys H7 ⟨s7,ps,hps,hpl⟩ l1 hl1
      have s8:=A5 hl1 (.lst ys)
      have s68:=s7.trans s8
      have hl18:upd H7 l1 (.lst ys) l1=some (.lst ys):=A3
      have hps8:=hps.imp λ_ _ h=>h.mo (.of s8)
      have hBT8:=hBT6.same s68
      have hd8:=s68 _ _ hd6
      have hsq8:=s68.seq hsq6
      generalize upd H7 l1 (.lst ys)=H8 at hl18 hps8 hBT8 hd8 hsq8⊢
      obtain⟨k3,ek3,hk3⟩:∃k:Nat,fst/36%4=(k:Int)/\k<=3:=⟨(fst/36%4).toNat,by omega,by omega⟩
      refine⟨_,rfl,_,rfl,_,rfl,_,rfl,_,_,rfl,rfl,⟨by decide,by decide⟩,_,_,rfl,rfl,by decide,.inl ⟨_,_,rfl,rfl, ?_⟩⟩
      refine⟨_,rfl, ?_⟩
      rw[ek3]
      have c3:=cut13 k3
      obtain⟨cs',ecs'⟩:=cutN (some 1) (some (1+(k3:Int)))
      refine .inl (.inl ⟨a,_,rfl,hsq8,λl2 hl2=> ?_⟩)
      rw[ecs']at c3⊢
      rw[length_map]at c3
      have s9:=A5 hl2 (.lst (cs'.map V.int))
      have hl9:upd H8 l2 (.lst (cs'.map V.int)) l2=some (.lst (cs'.map V.int)):=A3
      generalize upd H8 l2 (.lst (cs'.map V.int))=H9 at s9 hl9⊢
      refine⟨l2,rfl,⟨_,SqL.of hl9⟩,V6 (xs:=cs'.map V.int) (λi zs H5=>Same H9 H5/\∃ps:List (Kn×Kn),All2 (TwoAt many H5) ps zs/\ps.length=i) ?_ ?_ ?_ ?_⟩
      ·exact⟨Same.refl _,[],.nil,rfl⟩
      ·rintro i zs H5 hi ⟨s5,ps,hps,hpl⟩
       have:=hps.len
       rw[length_map]at hi
       exact⟨SqL.of (s5 _ _ hl9),by omega⟩
      ·rintro i x zs H5 hx ⟨s5,ps,hps,hpl⟩
       refine Q6 ?_
       rw[getElem?_map]at hx
       obtain⟨z,hz,rfl⟩:=map_eq_some_iff.mp hx
       refine⟨_,rfl,_,rfl,z,(many:Nat),rfl,by omega,by omega,λx v H6 s6 hv=>⟨s5.trans s6,ps++ [x],(hps.imp λ_ _ h=>h.mo (.of s6)).app (.cons hv .nil),by simp[hpl]⟩⟩
      ·rintro zs H5 ⟨s5,ps',hps',hpl'⟩ l3 hl3
       rw[length_map]at hpl'
       have u1:=A5 hl3 (.lst zs)
       have hyl:=hps.len
       have hzl:=hps'.len
       refine .inr (.inl ⟨l1,l3,ys,zs,rfl,rfl,u1 _ _ (s5 _ _ (s9 _ _ hl18)),A3,by omega,λpf hpf=> ?_⟩)
       have u2:=A5 hpf (.lst (ys++zs))
       have sf:=((s9.trans s5).trans u1).trans u2
       exact⟨pf,ys++zs,ps++ps',rfl,hBT8.same sf,sf _ _ hd8,A3,(hps8.imp λ_ _ h=>h.mo (.of sf)).app (hps'.imp λ_ _ h=>h.mo (.of (u1.trans u2))),by rw[length_append];omega⟩
    ·refine ifF (by simpa using hq) ?_
     exact⟨pl0,ys,ps,rfl,hBT6,hd6,hp6,hps6,by omega⟩
   ·rintro σ H7 ⟨pl,us,ps,rfl,hBT7,hd7,hp7,hps7,hlen7⟩
    have hlen:=hps7.len
    have hU72:(EO ps).length<=72:=by have:=VB hps7;omega
    refine⟨fun σ H'=>∃(S:St) (Kk:Kw) (m:Nat) (y8 y9:Option V),σ=[some (.ref a),some (.int fst),some (.int (many:Nat)),some (.ref A1.b),y4,y5,some (.ref d),some (.ref pl),y8,y9,none]/\Ls C P1 P2 H' A1 d pl S Kk m many ps us ps.length, ?_, ?_⟩
    ·refine⟨_,rfl,pl,us,rfl,SqL.of hp7,NP (xs:=us) (λi σ H'=>∃(S:St) (Kk:Kw) (m:Nat) (y8 y9:Option V),σ=[some (.ref a),some (.int fst),some (.int (many:Nat)),some (.ref A1.b),y4,y5,some (.ref d),some (.ref pl),y8,y9,none]/\Ls C P1 P2 H' A1 d pl S Kk m many ps us i) ?_ ?_ ?_ ?_⟩
     ·refine⟨S2,λ_=>none,0,_,_,rfl,hBT7,hP2,⟨⟨[],hd7,le_refl _,λn=>rfl⟩,VZ _,⟨by simp,λn k e=>(by cases e)⟩⟩,λf=>⟨λ_ x hx=>(by cases hx),λ_ n k e=>(by cases e)⟩,hdo,hp7,hps7,by omega,by omega⟩
     ·rintro i σ H' _ ⟨S,Kk,m,y8,y9,rfl,hLs⟩
      exact SqL.of hLs.pl
     ·rintro i x σ H8 T hx ⟨S,Kk,m,y8,y9,rfl,hLs⟩ hT
      obtain⟨⟨ka,kb⟩,gab,px,u1,u2,rfl,hpx,hka,hkb,la,lb⟩:=hLs.ps.get hx
      have hi:i<12:=by
       have:=(List.getElem?_eq_some_iff.mp gab).1
       omega
      have tk:=J9 gab
      have mab:=mem_of_getElem? gab
      refine⟨T,_,rfl,SqT.of A3,rfl,_,_,rfl,_,_,rfl,rfl, ?_⟩
      have s9:=A5 hT (.tup [.int (i:Nat),.ref px])
      have hBT9:=hLs.bt.same s9
      have hLw9:=hLs.lw.same s9
      have hpx9:=s9 _ _ hpx
      have hka9:=hka.mo (.of s9)
      have hkb9:=hkb.mo (.of s9)
      show GD _ _ _ [some (.ref a),some (.int fst),some (.int (many:Nat)),some (.ref A1.b),y4,y5,some (.ref d),some (.ref pl),some (.int (i:Nat)),some (.ref px),none] (upd H8 T (.tup [.int (i:Nat),.ref px]))
      generalize upd H8 T (.tup [.int (i:Nat),.ref px])=H9 at s9 hBT9 hLw9 hpx9 hka9 hkb9⊢
      have oa:OfA Kk (EO ps) ((EO ps).length+1) ka:=QY λt ht=>JJ mab (.inl ht)
      have ob:OfA Kk (EO ps) ((EO ps).length+1) kb:=QY λt ht=>JJ mab (.inr ht)
      have hka5:ks ka<=5:=la.ks
      have hkb5:ks kb<=5:=lb.ks
      have hnS:=hLs.n
      have hmS:=hLs.m
      have tka:Told S ka:=λn hn=>⟨(la.lt n hn).1,by have:=(la.lt n hn).2;omega⟩
      have tkb:Told S kb:=λn hn=>⟨(lb.lt n hn).1,by have:=(lb.lt n hn).2;omega⟩
      have f9:Fm P1 P2 d A1 H8 H9:=.of s9
      refine⟨_,rfl,(ixT (v:=u1) hpx9 rfl ⟨_,rfl,(ixT (v:=u2) hpx9 rfl ⟨_,rfl,ka,kb,u1,u2,d,Kk,m,many,EO ps,rfl,hka9,hkb9,hLw9,hm9,hU72,.inr (oa.mono (by omega)),oa,ob,la.lt,lb.lt,λK' m' H10 td hL' kd=>⟨true,rfl,ifF (by simp) ?_⟩,λH10 nt kd=>⟨false,rfl,ifT rfl ?_⟩⟩)⟩)⟩
      ·have hBT10:=hBT9.kd hLw9.at_ kd hLs.dow
       have m10:=hLw9.at_.mo kd
       have hpx10:=m10 _ _ hpx9
       obtain⟨rk',tri'⟩:=hL'.gd.tri
       have hsat':∀f,AN K' f↔Sat (ps.take (i+1)) f:=λf=>by
        rw[td.sat f,hLs.sat f,tk]
        constructor
        ·intro⟨h1,h2⟩ z hz
         simp only[mem_append,mem_singleton]at hz
         rcases hz with hz|rfl
         ·exact h1 z hz
         ·exact h2
        ·intro h;exact⟨λz hz=>h z (by simp[hz]),h (ka,kb) (by simp)⟩
       have hm'9:=hL'.bo.le
       have dpo:∀n:Int,dp (pz K' (.opn n))<=73:=λn=>by
        have:=(hL'.gd.of (k:=.opn n) (by simp[nv])).dp
        omega
       refine⟨_, ?_,λ_ _ h=>h⟩
       refine⟨_,rfl,A1.b,A1.dx,_,rfl,hBT10.br.b,rfl,_,rfl,(ixT (v:=u1) hpx10 rfl ⟨_,rfl,(ixT (v:=u2) hpx10 rfl ⟨A1,S,ps.take i,ka,kb,u1,u2,rfl,hBT10,hLs.pi,hka9.mo m10,hkb9.mo m10,tka,tkb,by omega,by omega,by omega,λS11 H11 hP11 hBT11 k11 n11 m11=>⟨rfl,_,rfl,ifF (by simp) ?_⟩,λhno=>absurd ((hsat' _).1 (QN tri')) (by rw[tk];exact hno _)⟩)⟩)⟩
       rw[<-tk]at hP11
       have hL11:KwAt H11 d K' m':=hL'.at_.kt hBT10 k11 hLs.dow
       have f11:Fm P1 P2 d A1 H8 H11:=f9.trans (kd.fm.trans k11.fm)
       refine⟨_,rfl,_,rfl,_,rfl,_,_,rfl,rfl,(by show(0:Int)<(many:Nat);omega),z2,λp12 hp12=> ?_⟩
       have s12:=A5 hp12 (.tup [.str "open",.int ((i:Nat)%(many:Nat))])
       have hBT12:=hBT11.same s12
       refine⟨_,rfl,A1,S11,ps.take (i+1),.opn ((i:Nat)%(many:Nat)),.ref p12,d,K',m',rk',rfl,hBT12,hP11,⟨p12,rfl,A3⟩,hL11.same s12,hLs.dow,tri',by omega,by have:=dpo ((i:Nat)%(many:Nat));omega,hsat', ?_,λS13 H13 al13 hBT13 k13=>⟨true,rfl,ifF (by simp) ?_⟩⟩
       ·intro z hz
        simp only[Kn.vs,mem_singleton]at hz
        subst hz
        exact Int.emod_nonneg _ (by omega)
       have hP13:=hP11.alk al13 hBT13.br.wf
       have hL13:KwAt H13 d K' m':=(hL11.same s12).kt hBT12 k13 hLs.dow
       have f13:Fm P1 P2 d A1 H8 H13:=f11.trans ((Fm.of s12).trans k13.fm)
       have n13:=al13.n
       have m13:=al13.m
       refine⟨_, ?_,λ_ _ h=>h⟩
       refine⟨_,rfl,A1.b,A1.dx,_,rfl,hBT13.br.b,rfl,A1,S13,rfl,hBT13.br,by omega,λp14 H14 hB14 kq14 hp14=> ?_⟩
       have hBT14:=hBT13.kq kq14 hB14
       refine⟨_,rfl,_,rfl,.inl ⟨_,_,rfl,rfl,z2,λp15 hp15=> ?_⟩⟩
       have s15:=A5 hp15 (.tup [.str "open",.int ((many:Nat)+(i:Nat))])
       refine⟨.opn (S13.N:Int),.opn ((many:Nat)+(i:Nat)),⟨p14,rfl,s15 _ _ hp14⟩,⟨p15,rfl,A3⟩,by simp[dp],_,rfl, ?_⟩
       rw[decide_eq_true (show Kn.opn (S13.N:Int)=Kn.opn ((many:Nat)+(i:Nat)) by rw[n13,n11,hnS];simp)]
       refine ifF (by simp) ?_
       refine⟨_,rfl,_,rfl,_,rfl,.inl ⟨_,_,rfl,rfl,z2,λp16 hp16=> ?_⟩⟩
       have s16:=A5 hp16 (.tup [.str "open",.int ((many:Nat)+(i:Nat))])
       have s56:=s15.trans s16
       have hBT16:=hBT14.same s56
       have hL16:KwAt _ d K' m':=(hL13.kt hBT13 (.of kq14) hLs.dow).same s56
       refine⟨_,rfl,A1,S13.fresh,ps.take (i+1),.opn ((many:Nat)+(i:Nat)),.ref p16,d,K',m',rk',rfl,hBT16,hP13.fresh,⟨p16,rfl,A3⟩,hL16,hLs.dow,tri',by omega,by have:=dpo ((many:Nat)+(i:Nat));omega,hsat', ?_,λS17 H17 al17 hBT17 k17=>⟨true,rfl,ifF (by simp) ?_⟩⟩
       ·intro z hz
        simp only[Kn.vs,mem_singleton]at hz
        omega
       have f17:Fm P1 P2 d A1 H8 H17:=f13.trans ((Kt.of kq14).fm.trans ((Fm.of s56).trans k17.fm))
       have n17:=al17.n
       have m17:=al17.m
       exact⟨S17,K',m',_,_,rfl,hBT17,hP13.fresh.alk al17 hBT17.br.wf,⟨hL16.kt hBT16 k17 hLs.dow,hL'.gd,hL'.bo⟩,hsat',hLs.dow,f17.lst hLs.bt hLs.lw.at_ hLs.pl,hLs.ps.imp λ_ _ h=>h.mo (f17.mo hLs.bt hLs.lw.at_),by rw[n17];show S13.N+1=_;omega,by rw[m17];show S13.M<=_;omega⟩
      ·have hBT10:=hBT9.kd hLw9.at_ kd hLs.dow
       have m10:=hLw9.at_.mo kd
       have hno:∀f,¬Sat (ps.take i++ [(ka,kb)]) f:=λf hf=>nt f ⟨(hLs.sat f).2 λz hz=>hf z (by simp[hz]),hf (ka,kb) (by simp)⟩
       exact⟨_,rfl,_,rfl,(ixT (v:=u1) (m10 _ _ hpx9) rfl ⟨_,rfl,(ixT (v:=u2) (m10 _ _ hpx9) rfl ⟨A1,S,hBT10,.inl ⟨ps.take i,ka,kb,u1,u2,rfl,hLs.pi,hka9.mo m10,hkb9.mo m10,tka,tkb,by omega,by omega,by omega,hno,q⟩⟩)⟩)⟩
     ·rintro σ H' ⟨S,Kk,m,y8,y9,rfl,hLs⟩
      rw[<-hlen]at hLs
      exact⟨S,Kk,m,y8,y9,rfl,hLs⟩
    ·rintro σ H8 ⟨S8,Kk,m,y8,y9,rfl,hLs⟩
     obtain⟨rk,tri⟩:=hLs.lw.gd.tri
     have hm9':=hLs.lw.bo.le
     have dpo:∀n:Int,dp (pz Kk (.opn n))<=73:=λn=>by
      have:=(hLs.lw.gd.of (k:=.opn n) (by simp[nv])).dp
      omega
     have hsat:=hLs.sat
     rw[take_length]at hsat
     have hP8:=hLs.pi
     rw[take_length]at hP8
     have hdo8:=hLs.dow
     have hKw:=hLs.lw.at_
     have hBT8:=hLs.bt
     clear hLs
     refine⟨fun σ H'=>∃(S:St) (y4:Option V),σ=[some (.ref a),some (.int fst),some (.int (many:Nat)),some (.ref A1.b),y4,y5,some (.ref d),some (.ref pl),y8,y9,none]/\BT C P1 P2 H' A1 S/\PInv S ps/\KwAt H' d Kk m, ?_, ?_⟩
     ·refine⟨_,rfl,(many:Nat),rfl,by omega,by omega,CJ (n:=many) (λi σ H'=>∃(S:St) (y4:Option V),σ=[some (.ref a),some (.int fst),some (.int (many:Nat)),some (.ref A1.b),y4,y5,some (.ref d),some (.ref pl),y8,y9,none]/\BT C P1 P2 H' A1 S/\PInv S ps/\KwAt H' d Kk m) ?_ ?_ ?_⟩
      ·exact⟨S8,_,rfl,hBT8,hP8,hKw⟩
      ·rintro i σ H9 hi ⟨S9,y4',rfl,hBT9,hP9,hK9⟩
       refine⟨_,rfl,_,rfl,z2,λp10 hp10=> ?_⟩
       have s10:=A5 hp10 (.tup [.str "open",.int (0+(i:Int))])
       refine⟨_,rfl,A1,S9,ps,.opn (0+(i:Int)),.ref p10,d,Kk,m,rk,rfl,hBT9.same s10,hP9,⟨p10,rfl,A3⟩,hK9.same s10,hdo8,tri,by omega,by have:=dpo (0+(i:Int));omega,hsat,λz hz=>by simp only[Kn.vs,mem_singleton]at hz;omega,λS11 H11 al11 hBT11 k11=>⟨true,rfl,ifF (by simp) ?_⟩⟩
       have hP11:=hP9.alk al11 hBT11.br.wf
       have hK11:=(hK9.same s10).kt (hBT9.same s10) k11 hdo8
       refine⟨_,rfl,_,rfl,z2,λp12 hp12=>⟨_,rfl,_,_,rfl,rfl,_,rfl,_,_,rfl,rfl,z2,λp13 hp13=>⟨z2,λp14 hp14=>⟨z3,λp15 hp15=> ?_⟩⟩⟩⟩
       have u1:=A5 hp12 (.tup [.str "open",.int (0+(i:Int))])
       have u2:=A5 hp13 (.tup [.str "open",.int ((many:Nat) - 1 - (0+(i:Int)))])
       have u3:=A5 hp14 (.tup [.str "list",.ref p13])
       have u4:=A5 hp15 (.tup [.str "fn",.ref p12,.ref p14])
       have w3:=u3.trans u4
       have w2:=u2.trans w3
       have w1:=u1.trans w2
       have kk:KnAt _ (.fn (.opn (0+(i:Int))) (.lst (.opn ((many:Nat) - 1 - (0+(i:Int)))))) (.ref p15):=⟨p15,_,_,rfl,A3,⟨p12,rfl,w2 _ _ A3⟩,⟨p14,_,rfl,u4 _ _ A3,p13,rfl,w3 _ _ A3⟩⟩
       have hdp:dp (pz Kk (.fn (.opn (0+(i:Int))) (.lst (.opn ((many:Nat) - 1 - (0+(i:Int)))))))<=80:=by
        rw[EZ tri,Y7 tri]
        have:=dpo (0+(i:Int));have:=dpo ((many:Nat) - 1 - (0+(i:Int)))
        simp only[dp];omega
       refine⟨_,rfl,A1,S11,ps,_,.ref p15,d,Kk,m,rk,rfl,hBT11.same w1,hP11,kk,hK11.same w1,hdo8,tri,by omega,hdp,hsat,λz hz=>by simp[Kn.vs]at hz;omega,λS16 H16 al16 hBT16 k16=>⟨true,rfl,ifF (by simp) ?_⟩⟩
       exact⟨S16,_,rfl,hBT16,hP11.alk al16 hBT16.br.wf,(hK11.same w1).kt (hBT11.same w1) k16 hdo8⟩
      ·rintro σ H9 ⟨S9,y4',rfl,hBT9,hP9,hK9⟩
       exact⟨S9,y4',rfl,hBT9,hP9,hK9⟩
     ·rintro σ H9 ⟨S9,y4',rfl,hBT9,hP9,hK9⟩
      refine λo2 dx2 ho2 hdx2 hne2=>⟨o2,dx2,rfl,A3,λA2 H10 eA2 kk2 own2 hB10=>⟨rfl, ?_⟩⟩
      subst eA2
      have s10:Same H9 H10:=λb ob e=>by
       have n1:b≠A2.b:=B0 e ho2
       have n2:b≠dx2:=B0 e hdx2
       exact kk2 b ob (by rw[B1 n1,B1 n2];exact e) n1
      have new2:∀y∈A2.own,H9 y=none:=λy hy=>by
       rcases own2 y hy with rfl|h
       ·exact ho2
       ·exact(Q7 (Q7 h).1).1
      have apart:∀b∈A1.own,b∉A2.own:=λb hb h2=>by
       have:=new2 b h2
       rcases hBT9.br.own hb with⟨dx,fs,e⟩|⟨kvs,e⟩<;>rw[this]at e<;>cases e
      have dap:d∉A2.own:=λh2=>by
       obtain⟨kvs,e,_⟩:=hK9
       rw[new2 d h2]at e;cases e
      have hBT10:=hBT9.same s10
      have hK10:=hK9.same s10
      have hT10:BT C P1 P2 H10 A2 .nil:=⟨hB10,hBT10.t1,hBT10.t2,nP⟩
      refine⟨fun σ H'=>σ=[some (.ref a),some (.int fst),some (.int (many:Nat)),some (.ref A1.b),y4',y5,some (.ref d),some (.ref pl),y8,y9,some (.ref A2.b)]/\BT C P1 P2 H' A1 S9/\KwAt H' d Kk m, ?_, ?_⟩
      ·refine⟨_,rfl,A2.b,A2.dx,_,rfl,hB10.b,rfl,A2,.nil,rfl,hB10,by decide,λp11 H11 hB11 kq11 hp11=> ?_⟩
       have hT11:=hT10.kq kq11 hB11
       have hBT11:=hBT10.other hT10 (.of kq11) hT11 apart
       have hK11:=hK10.kt hT10 (.of kq11) dap
       refine⟨z2,λp12 hp12=> ?_⟩
       have s12:=A5 hp12 (.tup [.str "open",.int 0])
       refine⟨.opn 0,.opn 0,⟨p11,rfl,s12 _ _ hp11⟩,⟨p12,rfl,A3⟩,by simp[dp],_,rfl, ?_⟩
       refine ifF (by simp) ?_
       refine⟨_,rfl,A2.b,A2.dx,_,rfl,s12 _ _ hB11.b,rfl,z2,λp13 hp13=>⟨z2,λp14 hp14=> ?_⟩⟩
       have s13:=A5 hp13 (.tup [.str "open",.int 0])
       have s14:=A5 hp14 (.tup [.str "list",.ref p13])
       have s24:=(s12.trans s13).trans s14
       have hT14:=hT11.same s24
       have hP0:PInv St.nil.fresh []:=PInv.nil.fresh
       have ew:ev (wv St.nil.fresh) (.lst (.opn 0))=.lst .num:=by
        show G.lst (wv St.nil.fresh 0)=_
        rw[JD hP0.acy (.op (.stop rfl) rfl)]
       refine⟨A2,St.nil.fresh,.lst (.opn 0),.ref p14,rfl,hT14,hP0.acy,⟨p14,_,rfl,A3,p13,rfl,s14 _ _ A3⟩,λhle S15 H15 u al15 hT15 k15 hu=> ?_,λhgt=>by rw[ew]at hgt;exact absurd hgt (by decide)⟩
       rw[ew]at hu
       have hBT15:=(hBT11.same s24).other hT14 k15 hT15 apart
       have hK15:=(hK11.same s24).kt hT14 k15 dap
       refine⟨z1,λp16 hp16=>⟨z2,λp17 hp17=> ?_⟩⟩
       have s16:=A5 hp16 (.tup [.str "number"])
       have s17:=A5 hp17 (.tup [.str "list",.ref p16])
       have s67:=s16.trans s17
       refine⟨gk (.lst .num),.lst .num,hu.mo (.of s67),⟨p17,_,rfl,A3,p16,rfl,s17 _ _ A3⟩,by decide,_,rfl,ifF (by simp[gk]) ?_⟩
       exact⟨rfl,hBT15.same s67,hK15.same s67⟩
      ·rintro σ H18 ⟨rfl,hBT18,hK18⟩
       refine⟨_,rfl,z2,λp19 hp19=>⟨z2,λp20 hp20=> ?_⟩⟩
       have s19:=A5 hp19 (.tup [.str "open",.int 0])
       have s20:=A5 hp20 (.tup [.str "list",.ref p19])
       have w19:=s19.trans s20
       have hdp:dp (pz Kk (.lst (.opn 0)))<=80:=by
        rw[Y7 tri]
        have:=dpo 0
        simp only[dp];omega
       exact⟨_,rfl,A1,S9,ps,.lst (.opn 0),.ref p20,d,Kk,m,rk,rfl,hBT18.same w19,hP9,⟨p20,_,rfl,A3,p19,rfl,s20 _ _ A3⟩,hK18.same w19,hdo8,tri,by omega,hdp,hsat,λz hz=>by simp[Kn.vs]at hz;omega,λS21 H21 al21 hBT21 k21=>q H21⟩
end
end BN
namespace BN
open PySem L2 BV
section
variable{P:Program}{w:World}{K:FZ}{mg:Str->Option Value}{base:Heap}{f K5 N1:Addr}{fd M6 U5:FuncData}
def NU:Sp:=λ_ _ _ _=>False
theorem KL{CX:CXT}{k:Nat}{f:Addr}{fd:FuncData}{ps:List Str}:FnOk P w K mg base CX k f fd ps NU:=⟨λ_ _ _ _ h=>h.elim,λ_ _ _ _ _ _ _ _ _ _ _ _ _ h=>h.elim⟩
theorem ok_put(F:Fun K "_law_put" "_law_put" V4 f fd)(B:NoG mg)(b:Binds K fd q6L [])(k:kZ K (.ref f)=true)(m:mg "_law_put"=some (.ref f)):∀n,FnOk P w K mg base CX0 (n+1) f fd q6L (GO n)
 |0=>GZ F B (sp:=NU) KL (λj h=>nomatch h) b k m
 |n+1=>GZ F B (ok_put F B b k m n) (λj h=>by injection h with h;rw[h]) b k m
theorem ok_has(F:Fun K "_law_has" "_law_has" AE f fd)(B:NoG mg)(b:Binds K fd q8L [])(k:kZ K (.ref f)=true)(m:mg "_law_has"=some (.ref f)):∀n,FnOk P w K mg base CX0 (n+1) f fd q8L (JQ n)
 |0=>GI F B (sp:=NU) KL (λj h=>nomatch h) b k m
 |n+1=>GI F B (ok_has F B b k m n) (λj h=>by injection h with h;rw[h]) b k m
theorem ok_closed(F:Fun K "_law_closed" "_law_closed" M1 f fd)(B:NoG mg)(b:Binds K fd q9L [])(k:kZ K (.ref f)=true)(m:mg "_law_closed"=some (.ref f)):∀n,FnOk P w K mg base CX0 (n+1) f fd q9L (BU n)
 |0=>BZ F B (sp:=NU) KL (λj h=>nomatch h) b k m
 |n+1=>BZ F B (ok_closed F B b k m n) (λj h=>by injection h with h;rw[h]) b k m
theorem ok_words(F:Fun K "_law_words" "_law_words" P5 f fd)(B:NoG mg)(b:Binds K fd q9L [])(k:kZ K (.ref f)=true)(m:mg "_law_words"=some (.ref f)):∀n,FnOk P w K mg base CX0 (n+1) f fd q9L (DL n)
 |0=>DC F B (sp:=NU) KL (λj h=>nomatch h) b k m
 |n+1=>DC F B (ok_words F B b k m n) (λj h=>by injection h with h;rw[h]) b k m
theorem ok_tied(F:Fun K "_law_tied" "_law_tied" X3 f fd)(B:NoG mg)(b:Binds K fd LR [])(k:kZ K (.ref f)=true)(m:mg "_law_tied"=some (.ref f))
  (E7:FnOk P w K mg base CX0 91 K5 M6 q6L (GO 90))(G7:Binds K M6 q6L [])(G8:kZ K (.ref K5)=true)(G5:mg "_law_put"=some (.ref K5))
  (N7:FnOk P w K mg base CX0 91 N1 U5 q8L (JQ 90))(M7:Binds K U5 q8L [])(N5:kZ K (.ref N1)=true)(N6:mg "_law_has"=some (.ref N1)):
  ∀n,FnOk P w K mg base CX0 (91+n+1) f fd LR (II n)
 |0=>EI (n:=0) F B (sp:=NU) KL (λj h=>nomatch h) b k m E7 G7 G8 G5 N7 M7 N5 N6
 |n+1=>EI (n:=n+1) F B (ok_tied F B b k m E7 G7 G8 G5 N7 M7 N5 N6 n) (λj h=>by injection h with h;rw[h]) b k m E7 G7 G8 G5 N7 M7 N5 N6
end
end BN
namespace PySem.W.Fast
def tw7265764432597150368:=0
def tw2679968914103122169:=0
def tw8916569743600839051:=0
def tw2038367903157022181:=0
def tw14701373475332350774:=0
def tw15051755063828970749:=0
def tw8840541919764623014:=0
def tw13245846534318006496:=0
def tw11055095910599933240:=0
def tw18433617573922711501:=0
def tw4110783295377376457:=0
def tw10385693650454487316:=0
def tw11225481755046507538:=0
def tw9809600539492775789:=0
def tw894007604174757443:=0
def tw3194269695124900607:=0
def tw1367028017841477165:=0
def tw8279227720337809881:=0
def tw17118955859879724562:=0
def tw7026161407292991555:=0
def tw4066651984586028312:=0
def tw18282696836739265443:=0
def tw3748244415439517187:=0
def tw9281894868298736500:=0
def tw7334056692850888447:=0
def tw7888542983212201292:=0
def tw14572482392811525286:=0
def tw8600592757902921639:=0
def tw10018828062369831440:=0
def tw1166586629283007203:=0
def tw4357638035625071046:=0
def tw15297769365129043760:=0
def tw4649085749200510512:=0
def tw3539636455303571234:=0
def tw909163056986568143:=0
def tw13220309029968287599:=0
def tw13451594099086112521:=0
def tw9965344055659364439:=0
def tw14564125561031226765:=0
def tw12150851665557038198:=0
def tw3466665944142694146:=0
def tw7848776199898574763:=0
def tw11903965928705215422:=0
def tw18185182169428223285:=0
def tw8642828136394743886:=0
def tw4621653917418037880:=0
def tw9394333646686716179:=0
def tw9234878179207763188:=0
def tw1512973564684180062:=0
def tw2170420867010784347:=0
def tw10828446244071941577:=0
def tw4276287773896746805:=0
def tw11043227227917134941:=0
def tw740434924373252329:=0
def tw16094903300901118355:=0
def tw3226702031745762626:=0
def tw6413950196741660541:=0
def tw6615989964058690274:=0
def tw2396785251607187011:=0
def tw9280540638619917565:=0
def tw4881830587002773708:=0
def tw9667490617094905296:=0
def tw12448210700168229827:=0
def tw1623103609042572923:=0
def tw16452715018412514199:=0
def tw4627565512985210591:=0
def tw73595542499151300:=0
def tw15412413588193118421:=0
def tw11139026479735719662:=0
def tw13380253743053665003:=0
def tw11405630529169087066:=0
def tw7124759563367038861:=0
def tw2799327141988756090:=0
def tw13013949917228786476:=0
def tw6173259158049511145:=0
def tw18438725490106333824:=0
def tw11549186035386128159:=0
def tw188446204930709430:=0
def tw7593728794326123566:=0
def tw5829468449628353415:=0
def tw14652330431814841936:=0
def tw16214521555950398357:=0
def tw12845457585141799837:=0
def tw17415611951075408812:=0
def tw6476544939613902452:=0
def tw17822117436609652822:=0
def tw9546184913102257572:=0
def tw13920396428263195536:=0
def tw4236875774585287688:=0
def tw17410472431608067656:=0
def tw8458472987481335107:=0
def tw10556272640231589404:=0
def tw12305246292235551068:=0
def tw6066678837104413827:=0
def tw9643995608082102295:=0
def tw7165146576769633790:=0
def tw9307549261171235424:=0
def tw14503261037206150577:=0
def tw7748576519473925013:=0
def tw11218080321335444673:=0
def tw16510871653281822425:=0
def tw13641328981377374064:=0
def tw8246656419940310405:=0
def tw3201981458787733340:=0
def tw13457588883285100019:=0
def tw14349435373737380806:=0
def tw16243301341109377:=0
def tw2911483181329300794:=0
def tw3311131514682712061:=0
def tw15343578794504075236:=0
def tw10110557969475650985:=0
def tw13635654473294883735:=0
def tw3223444911788032395:=0
def tw7402623404396039876:=0
def tw6221847864930237321:=0
def tw11498761253000053242:=0
def tw16458238003177199417:=0
def tw14891111230201673417:=0
def tw5590589145476222815:=0
def tw9650855827360148721:=0
def tw1000191074656494641:=0
def tw514486546662588440:=0
def tw13778485254975619978:=0
def tw3496135643734836275:=0
def tw5545851577624699092:=0
def tw736296998719488976:=0
def tw7621461024138157012:=0
def tw3691679700239347805:=0
def tw9821428108212552304:=0
def tw762614451998538275:=0
def tw10796462422086339284:=0
def tw5464649879106110122:=0
def tw8588372936602207290:=0
def tw12506624528688104367:=0
def tw8457304078398958877:=0
def tw9867521463423557675:=0
def tw1164485334355804299:=0
def tw13910321447668627605:=0
def tw4912381108151795844:=0
def tw15658479096934826410:=0
def tw5168432903176167830:=0
def tw5825007161975341001:=0
def tw578715379289473984:=0
def tw10960679663592165120:=0
def tw1981081636268316445:=0
def tw16875937136097562935:=0
def tw16385507448861615415:=0
def tw1457733278099324711:=0
def tw3662171859011066598:=0
def tw13625707956607744030:=0
def tw8127562167160162573:=0
def tw17683185488500831612:=0
def tw8213534139684803797:=0
def tw1586966243227063196:=0
def tw6091155305039145924:=0
def tw5247128635824955920:=0
def tw9524529168379640347:=0
def tw3883766853135092696:=0
def tw16662071817371001665:=0
def tw13828306915333709815:=0
def tw10333015191510893406:=0
def tw9794523423812172920:=0
def tw15850318753697669487:=0
def tw14174268876177787365:=0
def tw8356140183478189234:=0
def tw1701612202033401259:=0
def tw12457258322358872968:=0
def tw6179754964873916909:=0
def tw18215194575406131317:=0
def tw3009316600021801763:=0
def tw10895067584744399326:=0
def tw11792907771333237863:=0
def tw8271584525027218310:=0
def tw2228959959688213344:=0
def tw6704304105434945126:=0
def tw13807219526312190112:=0
def tw4877306831888785130:=0
def tw5820966542553941708:=0
def tw9468764932249817778:=0
def tw12995245787164340249:=0
def tw4149878837183718050:=0
def tw11796253444055445075:=0
def tw2878761197647531431:=0
def tw13462031860137340508:=0
def tw18341313193718998772:=0
def tw9335414989588568069:=0
def tw8475523918417413780:=0
def tw17966135376164333966:=0
def tw10861011609100046504:=0
def tw2926045904342144838:=0
def tw4766824252124863782:=0
def tw2834787396843573024:=0
def tw10296698729170781726:=0
def tw10177009901854389466:=0
def tw12166152067059385748:=0
def tw4925212247397922325:=0
def tw11239164333723261779:=0
def tw15759252268455091880:=0
def tw9411163306315219227:=0
def tw3350118985146259821:=0
def tw15534391554299671316:=0
def tw14724744214281437715:=0
def tw14924162903783950413:=0
def tw6241609462941048015:=0
def tw12563931247580053566:=0
def tw17072556209419812114:=0
def tw13940096216163275918:=0
def tw10967923929401600204:=0
def tw2790445563246764042:=0
def tw11339912312908447567:=0
def tw18078569117198944333:=0
def tw7476885587506922659:=0
def tw2771018935931796480:=0
def tw13744067592217890191:=0
def tw9367094146869401099:=0
def tw11693504906847120513:=0
def tw14393812361419449626:=0
def tw1157248246661551669:=0
def tw7158280147940083219:=0
def tw17691843321316174297:=0
def tw17232315312103986241:=0
def tw19874139842107950:=0
def tw3927846248030316108:=0
def tw17750486933901339337:=0
def tw6480932645450762805:=0
def tw10544508298373026046:=0
def tw5691834014399087650:=0
def tw901103509618540670:=0
def tw1380591472095584171:=0
def tw4204098437919034096:=0
def tw15880220547790756871:=0
def tw14149026080823508944:=0
def tw10370973623821919970:=0
def tw5231944120558575868:=0
def tw14042889322600528333:=0
def tw17958244301688485484:=0
def tw16268135777378284776:=0
def tw16765428630805425696:=0
def tw37700928400408232:=0
def tw14143063180689225091:=0
def tw2046948048832119063:=0
def tw5264616876545044181:=0
def tw9602175235741667280:=0
def tw4805823607109755925:=0
def tw5957521858799997605:=0
def tw3790567032575294121:=0
def tw18288516968298486997:=0
def tw4163249214469786522:=0
def tw5655169557997005251:=0
def tw2963840769931523543:=0
def tw12254847324962280749:=0
def tw14023352601642748860:=0
def tw8710795918969145013:=0
def tw744889218104847262:=0
def tw4536276975490825125:=0
def tw10305337980276129404:=0
def tw15346859326284464364:=0
def tw13119162655522089676:=0
def tw1584917392642234846:=0
def tw10912232073358890313:=0
def tw15938219638340199113:=0
def tw16901768470972714813:=0
def tw8733226560762567646:=0
def tw5742426449765285138:=0
def tw11862217572108717525:=0
def tw15161039690512499975:=0
def tw3673082654188360536:=0
def tw11201172079278880802:=0
def tw4021148508502460682:=0
def tw5179483554054290307:=0
end PySem.W.Fast
namespace BN
open PySem L2 BV
theorem YU{K:FZ}{c d:Addr}{oc:Value}{od:Option Addr}{cd:ClassData}{sl:Array (Option Value)}(h:K.lookup c=some ⟨oc,od,.cls cd,sl⟩)(hc:cd.mro.tail.contains (.ref d)=true):(Value.ref c::KD K c).contains (.ref d)=true:=by
 have e:KD K c=cd.mro.tail:=by unfold KD;rw[h]
 rw[e,contains_cons,hc,Bool.or_true]
structure NoV (mg:Str->Option Value):Prop where
 ValueError_:mg "ValueError"=none
def RZ{α:Type}(l:List (Str×α))(d:α)(x:Str):α:=(l.lookup x).getD d
theorem D4{α:Type}(d:α):∀(l:List (Str×α)) (i:Nat) (x:Str) (v:α),l[i]? =some (x,v)->(l.map (·.1)).Nodup->RZ l d x=v
 | [],i,x,v,h,_=>by cases h
 |(y,u)::r,0,x,v,h,_=>by
  cases h
  unfold RZ
  rw[List.lookup_cons_self]
  rfl
 |(y,u)::r,i+1,x,v,h,hn=>by
  have h':r[i]? =some (x,v):=h
  rw[map_cons,nodup_cons]at hn
  have hm:x∈r.map (·.1):=mem_map.mpr ⟨(x,v),mem_of_getElem? h',rfl⟩
  have hne:x≠y:=λe=>hn.1 (e▸hm)
  have ih:=D4 d r i x v h' hn.2
  unfold RZ at ih⊢
  rw[lookup_cons,show(x==y)=false from beq_false_of_ne hne]
  exact ih
theorem C0:(["fresh","tie","number_of","number_with","last_of","tie_tops","refuse_within_itself","shape_of","final","shapes_within","refuse_long"]:List Str).Nodup:=by decide +kernel
theorem aSZ(f0 f1 f2 f3 f4 f5 f6 f7 f8 f9 f10:Addr)(d0 d1 d2 d3 d4 d5 d6 d7 d8 d9 d10:FuncData):∃(mf:Str->Addr) (md:Str->FuncData),mf "fresh"=f0/\mf "tie"=f1/\mf "number_of"=f2/\mf "number_with"=f3/\mf "last_of"=f4/\mf "tie_tops"=f5/\mf "refuse_within_itself"=f6/\mf "shape_of"=f7/\mf "final"=f8/\mf "shapes_within"=f9/\mf "refuse_long"=f10/\md "fresh"=d0/\md "tie"=d1/\md "number_of"=d2/\md "number_with"=d3/\md "last_of"=d4/\md "tie_tops"=d5/\md "refuse_within_itself"=d6/\md "shape_of"=d7/\md "final"=d8/\md "shapes_within"=d9/\md "refuse_long"=d10:=
 ⟨RZ [("fresh",f0),("tie",f1),("number_of",f2),("number_with",f3),("last_of",f4),("tie_tops",f5),("refuse_within_itself",f6),("shape_of",f7),("final",f8),("shapes_within",f9),("refuse_long",f10)] f0,RZ [("fresh",d0),("tie",d1),("number_of",d2),("number_with",d3),("last_of",d4),("tie_tops",d5),("refuse_within_itself",d6),("shape_of",d7),("final",d8),("shapes_within",d9),("refuse_long",d10)] d0,D4 _ _ 0 _ _ rfl C0,D4 _ _ 1 _ _ rfl C0,D4 _ _ 2 _ _ rfl C0,D4 _ _ 3 _ _ rfl C0,D4 _ _ 4 _ _ rfl C0,D4 _ _ 5 _ _ rfl C0,D4 _ _ 6 _ _ rfl C0,D4 _ _ 7 _ _ rfl C0,D4 _ _ 8 _ _ rfl C0,D4 _ _ 9 _ _ rfl C0,D4 _ _ 10 _ _ rfl C0,D4 _ _ 0 _ _ rfl C0,D4 _ _ 1 _ _ rfl C0,D4 _ _ 2 _ _ rfl C0,D4 _ _ 3 _ _ rfl C0,D4 _ _ 4 _ _ rfl C0,D4 _ _ 5 _ _ rfl C0,D4 _ _ 6 _ _ rfl C0,D4 _ _ 7 _ _ rfl C0,D4 _ _ 8 _ _ rfl C0,D4 _ _ 9 _ _ rfl C0,D4 _ _ 10 _ _ rfl C0⟩
/-- a def of the top,as it lies -/
def DefAt(K:FZ)(x:Str)(st:Stmt)(f:Addr)(fd:FuncData):Prop:=∃(oc kV dc pm cd ct:Value) (od an:Option Addr) (sl:Array (Option Value)),fd=fnOf x x (C3 st) (B8 st) (A6 st) .none kV dc pm an cd ct/\PySem.W.nsIn K mainGlobals x=some (some (.ref f))/\K.lookup f=some ⟨oc,od,.func (fnOf x x (C3 st) (B8 st) (A6 st) .none kV dc pm an cd ct),sl⟩/\codeIn K cd x=true/\PySem.W.keepIn K (.ref f)=true
section
variable{K:FZ}{x:Str}{st:Stmt}{f:Addr}{fd:FuncData}
theorem DefAt.ns(h:DefAt K x st f fd):PySem.W.nsIn K mainGlobals x=some (some (.ref f)):=by
 obtain⟨_,_,_,_,_,_,_,_,_,_,a,_⟩:=h
 exact a
theorem DefAt.kp(h:DefAt K x st f fd):kZ K (.ref f)=true:=by
 obtain⟨_,_,_,_,_,_,_,_,_,_,_,_,_,a⟩:=h
 exact a
theorem DefAt.fn(h:DefAt K x st f fd):Fun K x x st f fd:=by
 obtain⟨_,_,_,_,_,_,_,_,_,rfl,_,l,c,k⟩:=h
 exact L7 l c k
end
theorem bn1{K:FZ}{x qual:Str}{st:Stmt}{f:Addr}{fd:FuncData}{ps:List Str}(F:Fun K x qual st f fd)(l:ps.length=1)(h:∀(kV doc pm:Value) (an:Option Addr) (cdv ct a0:Value),bindArgs (fnOf x qual (C3 st) (B8 st) (A6 st) .none kV doc pm an cdv ct) ⟨[a0],[]⟩=pure (ps.zip [a0])):Binds K fd ps []:=
 F.binds λkV doc pm an cdv ct us hl=>match us,hl.trans l with| [a0],_=>h kV doc pm an cdv ct a0
theorem bn2{K:FZ}{x qual:Str}{st:Stmt}{f:Addr}{fd:FuncData}{ps:List Str}(F:Fun K x qual st f fd)(l:ps.length=2)(h:∀(kV doc pm:Value) (an:Option Addr) (cdv ct a0 a1:Value),bindArgs (fnOf x qual (C3 st) (B8 st) (A6 st) .none kV doc pm an cdv ct) ⟨[a0,a1],[]⟩=pure (ps.zip [a0,a1])):Binds K fd ps []:=
 F.binds λkV doc pm an cdv ct us hl=>match us,hl.trans l with| [a0,a1],_=>h kV doc pm an cdv ct a0 a1
theorem bn3{K:FZ}{x qual:Str}{st:Stmt}{f:Addr}{fd:FuncData}{ps:List Str}(F:Fun K x qual st f fd)(l:ps.length=3)(h:∀(kV doc pm:Value) (an:Option Addr) (cdv ct a0 a1 a2:Value),bindArgs (fnOf x qual (C3 st) (B8 st) (A6 st) .none kV doc pm an cdv ct) ⟨[a0,a1,a2],[]⟩=pure (ps.zip [a0,a1,a2])):Binds K fd ps []:=
 F.binds λkV doc pm an cdv ct us hl=>match us,hl.trans l with| [a0,a1,a2],_=>h kV doc pm an cdv ct a0 a1 a2
theorem bn4{K:FZ}{x qual:Str}{st:Stmt}{f:Addr}{fd:FuncData}{ps:List Str}(F:Fun K x qual st f fd)(l:ps.length=4)(h:∀(kV doc pm:Value) (an:Option Addr) (cdv ct a0 a1 a2 a3:Value),bindArgs (fnOf x qual (C3 st) (B8 st) (A6 st) .none kV doc pm an cdv ct) ⟨[a0,a1,a2,a3],[]⟩=pure (ps.zip [a0,a1,a2,a3])):Binds K fd ps []:=
 F.binds λkV doc pm an cdv ct us hl=>match us,hl.trans l with| [a0,a1,a2,a3],_=>h kV doc pm an cdv ct a0 a1 a2 a3
theorem all_mk{l:PySem.W.OpenLaw}{w:World}{K:PySem.W.Frag}{h:Heap}{mg:Str->Option Value}{fa:Addr}(X:K.In h)(G:h.Ns mainGlobals mg)(hfa:mg "law"=some (.ref fa)){c1 P1 c2 P2:Addr}
  {f0 f1 f2 f3 f4 f5 f6 f7 f8 f9 f10 f11 f12 f13 f14 f15 f16 f17:Addr}{od17 an17:Option Addr}{sl17:Array (Option Value)}{oc17 kV17 dc17 pm17 cd17 ct17:Value}
  {e0 e1 e2 e3 e4 e5 e6 e7 e8 e9 e10 e11 e12 e13 e14 e15 e16:FuncData}
  {t_MOST_WORDS:Tok}
  {C:Addr}{fM0 fM1 fM2 fM3 fM4 fM5 fM6 fM7 fM8 fM9 fM10 fI:Addr}{odM0 anM0 odM1 anM1 odM2 anM2 odM3 anM3 odM4 anM4 odM5 anM5 odM6 anM6 odM7 anM7 odM8 anM8 odM9 anM9 odM10 anM10 odI anI:Option Addr}{slM0 slM1 slM2 slM3 slM4 slM5 slM6 slM7 slM8 slM9 slM10 slI:Array (Option Value)}{ocM0 kVM0 dcM0 pmM0 cdM0 ctM0 ocM1 kVM1 dcM1 pmM1 cdM1 ctM1 ocM2 kVM2 dcM2 pmM2 cdM2 ctM2 ocM3 kVM3 dcM3 pmM3 cdM3 ctM3 ocM4 kVM4 dcM4 pmM4 cdM4 ctM4 ocM5 kVM5 dcM5 pmM5 cdM5 ctM5 ocM6 kVM6 dcM6 pmM6 cdM6 ctM6 ocM7 kVM7 dcM7 pmM7 cdM7 ctM7 ocM8 kVM8 dcM8 pmM8 cdM8 ctM8 ocM9 kVM9 dcM9 pmM9 cdM9 ctM9 ocM10 kVM10 dcM10 pmM10 cdM10 ctM10 ocI kVI dcI pmI cdI ctI:Value}
  (d0:DefAt K "built_up" X1 f0 e0)
  (d1:DefAt K "kind_parts" W7 f1 e1)
  (d2:DefAt K "is_open" CP f2 e2)
  (d3:DefAt K "parts_of_shape" N8 f3 e3)
  (d4:DefAt K "pairs_within" L8 f4 e4)
  (d5:DefAt K "with_parts" W8 f5 e5)
  (d6:DefAt K "_law_cell_at" T9 f6 e6)
  (d7:DefAt K "_law_open" BF f7 e7)
  (d8:DefAt K "_law_form" AW f8 e8)
  (d9:DefAt K "_law_pair" BE f9 e9)
  (d10:DefAt K "_law_put" V4 f10 e10)
  (d11:DefAt K "_law_has" AE f11 e11)
  (d12:DefAt K "_law_tied" X3 f12 e12)
  (d13:DefAt K "_law_closed" M1 f13 e13)
  (d14:DefAt K "_law_words" P5 f14 e14)
  (d15:DefAt K "_law_refused" U2 f15 e15)
  (d16:DefAt K "_law_tells" Z1 f16 e16)
  (a17:PySem.W.nsIn K mainGlobals "law"=some (some (.ref f17)))(l17:K.lookup f17=some ⟨oc17,od17,.func (PySem.W.fnOf "law" "law" (C3 Y0) (B8 Y0) (A6 Y0) .none kV17 dc17 pm17 an17 cd17 ct17),sl17⟩)(c17:PySem.W.codeIn K cd17 "law"=true)(k17:PySem.W.keepIn K (.ref f17)=true)
  (e_MOST_WORDS:PySem.W.nsIn K mainGlobals "MOST_WORDS"=some (some (.int 60 t_MOST_WORDS)))
  (aC:PySem.W.nsIn K mainGlobals "Bonds"=some (some (.ref C)))
  (aM0:PySem.W.findIn K (.ref C) "fresh"=some (some (.ref fM0)))(lM0:K.lookup fM0=some ⟨ocM0,odM0,.func (PySem.W.fnOf "fresh" "Bonds.fresh" (C3 O2) (B8 O2) (A6 O2) .none kVM0 dcM0 pmM0 anM0 cdM0 ctM0),slM0⟩)(cM0:PySem.W.codeIn K cdM0 "Bonds.fresh"=true)(kM0:PySem.W.keepIn K (.ref fM0)=true)(jM0:PySem.W.isFn K (.ref fM0)=true)
  (aM1:PySem.W.findIn K (.ref C) "tie"=some (some (.ref fM1)))(lM1:K.lookup fM1=some ⟨ocM1,odM1,.func (PySem.W.fnOf "tie" "Bonds.tie" (C3 AO) (B8 AO) (A6 AO) .none kVM1 dcM1 pmM1 anM1 cdM1 ctM1),slM1⟩)(cM1:PySem.W.codeIn K cdM1 "Bonds.tie"=true)(kM1:PySem.W.keepIn K (.ref fM1)=true)(jM1:PySem.W.isFn K (.ref fM1)=true)
  (aM2:PySem.W.findIn K (.ref C) "number_of"=some (some (.ref fM2)))(lM2:K.lookup fM2=some ⟨ocM2,odM2,.func (PySem.W.fnOf "number_of" "Bonds.number_of" (C3 D2) (B8 D2) (A6 D2) .none kVM2 dcM2 pmM2 anM2 cdM2 ctM2),slM2⟩)(cM2:PySem.W.codeIn K cdM2 "Bonds.number_of"=true)(kM2:PySem.W.keepIn K (.ref fM2)=true)(jM2:PySem.W.isFn K (.ref fM2)=true)
  (aM3:PySem.W.findIn K (.ref C) "number_with"=some (some (.ref fM3)))(lM3:K.lookup fM3=some ⟨ocM3,odM3,.func (PySem.W.fnOf "number_with" "Bonds.number_with" (C3 D1) (B8 D1) (A6 D1) .none kVM3 dcM3 pmM3 anM3 cdM3 ctM3),slM3⟩)(cM3:PySem.W.codeIn K cdM3 "Bonds.number_with"=true)(kM3:PySem.W.keepIn K (.ref fM3)=true)(jM3:PySem.W.isFn K (.ref fM3)=true)
  (aM4:PySem.W.findIn K (.ref C) "last_of"=some (some (.ref fM4)))(lM4:K.lookup fM4=some ⟨ocM4,odM4,.func (PySem.W.fnOf "last_of" "Bonds.last_of" (C3 J6) (B8 J6) (A6 J6) .none kVM4 dcM4 pmM4 anM4 cdM4 ctM4),slM4⟩)(cM4:PySem.W.codeIn K cdM4 "Bonds.last_of"=true)(kM4:PySem.W.keepIn K (.ref fM4)=true)(jM4:PySem.W.isFn K (.ref fM4)=true)
  (aM5:PySem.W.findIn K (.ref C) "tie_tops"=some (some (.ref fM5)))(lM5:K.lookup fM5=some ⟨ocM5,odM5,.func (PySem.W.fnOf "tie_tops" "Bonds.tie_tops" (C3 G3) (B8 G3) (A6 G3) .none kVM5 dcM5 pmM5 anM5 cdM5 ctM5),slM5⟩)(cM5:PySem.W.codeIn K cdM5 "Bonds.tie_tops"=true)(kM5:PySem.W.keepIn K (.ref fM5)=true)(jM5:PySem.W.isFn K (.ref fM5)=true)
  (aM6:PySem.W.findIn K (.ref C) "refuse_within_itself"=some (some (.ref fM6)))(lM6:K.lookup fM6=some ⟨ocM6,odM6,.func (PySem.W.fnOf "refuse_within_itself" "Bonds.refuse_within_itself" (C3 B3) (B8 B3) (A6 B3) .none kVM6 dcM6 pmM6 anM6 cdM6 ctM6),slM6⟩)(cM6:PySem.W.codeIn K cdM6 "Bonds.refuse_within_itself"=true)(kM6:PySem.W.keepIn K (.ref fM6)=true)(jM6:PySem.W.isFn K (.ref fM6)=true)
  (aM7:PySem.W.findIn K (.ref C) "shape_of"=some (some (.ref fM7)))(lM7:K.lookup fM7=some ⟨ocM7,odM7,.func (PySem.W.fnOf "shape_of" "Bonds.shape_of" (C3 G4) (B8 G4) (A6 G4) .none kVM7 dcM7 pmM7 anM7 cdM7 ctM7),slM7⟩)(cM7:PySem.W.codeIn K cdM7 "Bonds.shape_of"=true)(kM7:PySem.W.keepIn K (.ref fM7)=true)(jM7:PySem.W.isFn K (.ref fM7)=true)
  (aM8:PySem.W.findIn K (.ref C) "final"=some (some (.ref fM8)))(lM8:K.lookup fM8=some ⟨ocM8,odM8,.func (PySem.W.fnOf "final" "Bonds.final" (C3 K7) (B8 K7) (A6 K7) .none kVM8 dcM8 pmM8 anM8 cdM8 ctM8),slM8⟩)(cM8:PySem.W.codeIn K cdM8 "Bonds.final"=true)(kM8:PySem.W.keepIn K (.ref fM8)=true)(jM8:PySem.W.isFn K (.ref fM8)=true)
  (aM9:PySem.W.findIn K (.ref C) "shapes_within"=some (some (.ref fM9)))(lM9:K.lookup fM9=some ⟨ocM9,odM9,.func (PySem.W.fnOf "shapes_within" "Bonds.shapes_within" (C3 C4) (B8 C4) (A6 C4) .none kVM9 dcM9 pmM9 anM9 cdM9 ctM9),slM9⟩)(cM9:PySem.W.codeIn K cdM9 "Bonds.shapes_within"=true)(kM9:PySem.W.keepIn K (.ref fM9)=true)(jM9:PySem.W.isFn K (.ref fM9)=true)
  (aM10:PySem.W.findIn K (.ref C) "refuse_long"=some (some (.ref fM10)))(lM10:K.lookup fM10=some ⟨ocM10,odM10,.func (PySem.W.fnOf "refuse_long" "Bonds.refuse_long" (C3 D3) (B8 D3) (A6 D3) .none kVM10 dcM10 pmM10 anM10 cdM10 ctM10),slM10⟩)(cM10:PySem.W.codeIn K cdM10 "Bonds.refuse_long"=true)(kM10:PySem.W.keepIn K (.ref fM10)=true)(jM10:PySem.W.isFn K (.ref fM10)=true)
  (aI:PySem.W.findIn K (.ref C) "__init__"=some (some (.ref fI)))(lI:K.lookup fI=some ⟨ocI,odI,.func (PySem.W.fnOf "__init__" "Bonds.__init__" (C3 CU) (B8 CU) (A6 CU) .none kVI dcI pmI anI cdI ctI),slI⟩)(cI:PySem.W.codeIn K cdI "Bonds.__init__"=true)(kI:PySem.W.keepIn K (.ref fI)=true)(jI:PySem.W.isFn K (.ref fI)=true)
  (pg:PySem.W.plainGet K C Str.empty=true)(hd:PySem.W.hasDictIn K C=true)(po:PySem.W.plainOver K C=true)(sa:PySem.W.findIn K (.ref C) "__setattr__"=some (some (.builtin "object.__setattr__")))(mk:PySem.W.makesIn K C=true)(kc:PySem.W.keepIn K (.ref C)=true)(n1:PySem.W.findIn K (.ref C) "told_ahead"=some none)(n2:PySem.W.findIn K (.ref C) "made_within"=some none)(n3:PySem.W.findIn K (.ref C) "leads_to"=some none)(n4:PySem.W.findIn K (.ref C) "shapes"=some none)
  {c_MillError c_BadText c_BadName c_BadKind c_BadInput:Addr}{odC:Option Addr}{slC:Array (Option Value)}{ocC:Value}{cdC:ClassData}
  (g_MillError:PySem.W.nsIn K mainGlobals "MillError"=some (some (.ref c_MillError)))(q_MillError:PySem.W.excIn K c_MillError [.type "ValueError",.type "Exception",.type "BaseException",.type "object"] "ValueError.__new__"=true)
  (g_BadText:PySem.W.nsIn K mainGlobals "BadText"=some (some (.ref c_BadText)))(q_BadText:PySem.W.excIn K c_BadText [.type "ValueError",.type "Exception",.type "BaseException",.type "object"] "ValueError.__new__"=true)
  (g_BadName:PySem.W.nsIn K mainGlobals "BadName"=some (some (.ref c_BadName)))(q_BadName:PySem.W.excIn K c_BadName [.type "ValueError",.type "Exception",.type "BaseException",.type "object"] "ValueError.__new__"=true)
  (g_BadKind:PySem.W.nsIn K mainGlobals "BadKind"=some (some (.ref c_BadKind)))(q_BadKind:PySem.W.excIn K c_BadKind [.type "ValueError",.type "Exception",.type "BaseException",.type "object"] "ValueError.__new__"=true)
  (g_BadInput:PySem.W.nsIn K mainGlobals "BadInput"=some (some (.ref c_BadInput)))(q_BadInput:PySem.W.excIn K c_BadInput [.type "ValueError",.type "Exception",.type "BaseException",.type "object"] "ValueError.__new__"=true)
  (lC:K.lookup c_BadKind=some ⟨ocC,odC,.cls cdC,slC⟩)(hC:cdC.mro.tail.contains (.ref c_MillError)=true)
  (x1:PySem.W.findIn K (.ref c_BadKind) "__getattribute__"=some (some (.builtin "BaseException.__getattribute__")))(x2:PySem.W.findIn K (.ref c_BadKind) "__getattr__"=some none)(x3:PySem.W.findIn K (.ref c_BadKind) "__class__"=some (some (.builtin "object.__class__")))
  (y1:PySem.W.kitOne K (.ref c_BadKind) (.ref c_BadKind)=some true)(y2:PySem.W.kitOne K (.ref c_BadKind) (.ref c_BadText)=some false)(y3:PySem.W.kitOne K (.ref c_BadKind) (.ref c_BadName)=some false)(y4:PySem.W.kitOne K (.ref c_BadKind) (.ref c_BadInput)=some false)(y5:PySem.W.kitOne K (.ref c_BadKind) (.type "ValueError")=some true)
  (z_len:PySem.W.nsIn K mainGlobals "len"=some none)
  (z_list:PySem.W.nsIn K mainGlobals "list"=some none)
  (z_range:PySem.W.nsIn K mainGlobals "range"=some none)
  (z_reversed:PySem.W.nsIn K mainGlobals "reversed"=some none)
  (z_isinstance:PySem.W.nsIn K mainGlobals "isinstance"=some none)
  (z_str:PySem.W.nsIn K mainGlobals "str"=some none)
  (z_tuple:PySem.W.nsIn K mainGlobals "tuple"=some none)
  (z_int:PySem.W.nsIn K mainGlobals "int"=some none)
  (z_bool:PySem.W.nsIn K mainGlobals "bool"=some none)
  (z_zip:PySem.W.nsIn K mainGlobals "zip"=some none)
  (z_sum:PySem.W.nsIn K mainGlobals "sum"=some none)
  (z_max:PySem.W.nsIn K mainGlobals "max"=some none)
  (z_min:PySem.W.nsIn K mainGlobals "min"=some none)
  (z_enumerate:PySem.W.nsIn K mainGlobals "enumerate"=some none)
  (z_ValueError:PySem.W.nsIn K mainGlobals "ValueError"=some none)(hcode1:cdM2=.ref c1)(hcode2:cdM8=.ref c2):
  ∃fd:FuncData,(∀(s:Shared) (v:Value),BindsTo s fd ⟨[v],[]⟩ [("_law_script",v)])/\∀base:Heap,K.In base->base.Ns mainGlobals mg->TabsB [(c1,P1),(c2,P2)] mg base->FnOk l.prog w K mg base CX0 166 fa fd ["_law_script"] (MX K P1 P2):=by
 have e:=hfa.symm.trans (PySem.W.mg_of X G a17)
 cases e
 have B:BN.NoG mg:=⟨PySem.W.mg_none_of X G z_len,PySem.W.mg_none_of X G z_list,PySem.W.mg_none_of X G z_range,PySem.W.mg_none_of X G z_reversed,PySem.W.mg_none_of X G z_isinstance,PySem.W.mg_none_of X G z_str,PySem.W.mg_none_of X G z_tuple,PySem.W.mg_none_of X G z_int,PySem.W.mg_none_of X G z_bool,PySem.W.mg_none_of X G z_zip,PySem.W.mg_none_of X G z_sum,PySem.W.mg_none_of X G z_max,PySem.W.mg_none_of X G z_min,PySem.W.mg_none_of X G z_enumerate⟩
 have BX:BN.NoV mg:=⟨PySem.W.mg_none_of X G z_ValueError⟩
 have X_MillError:XCls K mg "MillError" c_MillError:=⟨q_MillError,PySem.W.mg_of X G g_MillError⟩
 have X_BadText:XCls K mg "BadText" c_BadText:=⟨q_BadText,PySem.W.mg_of X G g_BadText⟩
 have X_BadName:XCls K mg "BadName" c_BadName:=⟨q_BadName,PySem.W.mg_of X G g_BadName⟩
 have X_BadKind:XCls K mg "BadKind" c_BadKind:=⟨q_BadKind,PySem.W.mg_of X G g_BadKind⟩
 have X_BadInput:XCls K mg "BadInput" c_BadInput:=⟨q_BadInput,PySem.W.mg_of X G g_BadInput⟩
 have TK:Takes K c_MillError λc=>c=c_BadKind:=⟨⟨_,_,q_MillError,by decide⟩,λc e=>by subst e;exact⟨⟨_,_,q_BadKind⟩,YU lC hC⟩⟩
 have XX:XF K c_BadText c_BadName c_BadKind c_BadInput:=⟨X_BadKind.look x1 x2 x3,y1,y2,y3,y4,y5⟩
 have m_MOST_WORDS:=PySem.W.mg_of X G e_MOST_WORDS
 have F0:=d0.fn
 have b0:=bn3 (ps:=["root","parts_in","made"]) F0 rfl λ_ _ _ _ _ _ _ _ _=>rfl
 have m0:=PySem.W.mg_of X G d0.ns
 have k0:=d0.kp
 have F1:=d1.fn
 have b1:=bn1 (ps:=["kind"]) F1 rfl λ_ _ _ _ _ _ _=>rfl
 have m1:=PySem.W.mg_of X G d1.ns
 have k1:=d1.kp
 have F2:=d2.fn
 have b2:=bn1 (ps:=["kind"]) F2 rfl λ_ _ _ _ _ _ _=>rfl
 have m2:=PySem.W.mg_of X G d2.ns
 have k2:=d2.kp
 have F3:=d3.fn
 have b3:=bn1 (ps:=["kind"]) F3 rfl λ_ _ _ _ _ _ _=>rfl
 have m3:=PySem.W.mg_of X G d3.ns
 have k3:=d3.kp
 have F4:=d4.fn
 have b4:=bn2 (ps:=["shape","other"]) F4 rfl λ_ _ _ _ _ _ _ _=>rfl
 have m4:=PySem.W.mg_of X G d4.ns
 have k4:=d4.kp
 have F5:=d5.fn
 have b5:=bn2 (ps:=["shape","parts"]) F5 rfl λ_ _ _ _ _ _ _ _=>rfl
 have m5:=PySem.W.mg_of X G d5.ns
 have k5:=d5.kp
 have F6:=d6.fn
 have b6:=bn2 (ps:=["_law_script","_law_k"]) F6 rfl λ_ _ _ _ _ _ _ _=>rfl
 have m6:=PySem.W.mg_of X G d6.ns
 have k6:=d6.kp
 have F7:=d7.fn
 have b7:=bn2 (ps:=["_law_number","_law_many"]) F7 rfl λ_ _ _ _ _ _ _ _=>rfl
 have m7:=PySem.W.mg_of X G d7.ns
 have k7:=d7.kp
 have F8:=d8.fn
 have b8:=bn3 (ps:=["_law_number","_law_many","_law_least"]) F8 rfl λ_ _ _ _ _ _ _ _ _=>rfl
 have m8:=PySem.W.mg_of X G d8.ns
 have k8:=d8.kp
 have F9:=d9.fn
 have b9:=bn2 (ps:=["_law_cell","_law_many"]) F9 rfl λ_ _ _ _ _ _ _ _=>rfl
 have m9:=PySem.W.mg_of X G d9.ns
 have k9:=d9.kp
 have F10:=d10.fn
 have b10:=bn2 (ps:=["_law_kind","_law_known"]) F10 rfl λ_ _ _ _ _ _ _ _=>rfl
 have m10:=PySem.W.mg_of X G d10.ns
 have k10:=d10.kp
 have F11:=d11.fn
 have b11:=bn2 (ps:=["_law_kind","_law_one"]) F11 rfl λ_ _ _ _ _ _ _ _=>rfl
 have m11:=PySem.W.mg_of X G d11.ns
 have k11:=d11.kp
 have F12:=d12.fn
 have b12:=bn3 (ps:=["_law_one","_law_other","_law_known"]) F12 rfl λ_ _ _ _ _ _ _ _ _=>rfl
 have m12:=PySem.W.mg_of X G d12.ns
 have k12:=d12.kp
 have F13:=d13.fn
 have b13:=bn1 (ps:=["_law_kind"]) F13 rfl λ_ _ _ _ _ _ _=>rfl
 have m13:=PySem.W.mg_of X G d13.ns
 have k13:=d13.kp
 have F14:=d14.fn
 have b14:=bn1 (ps:=["_law_kind"]) F14 rfl λ_ _ _ _ _ _ _=>rfl
 have m14:=PySem.W.mg_of X G d14.ns
 have k14:=d14.kp
 have F15:=d15.fn
 have b15:=bn4 (ps:=["_law_bonds","_law_way","_law_one","_law_other"]) F15 rfl λ_ _ _ _ _ _ _ _ _ _=>rfl
 have m15:=PySem.W.mg_of X G d15.ns
 have k15:=d15.kp
 have F16:=d16.fn
 have b16:=bn3 (ps:=["_law_bonds","_law_kind","_law_known"]) F16 rfl λ_ _ _ _ _ _ _ _ _=>rfl
 have m16:=PySem.W.mg_of X G d16.ns
 have k16:=d16.kp
 have F17:=L7 (st:=Y0) l17 c17 k17
 have b17:=bn1 (ps:=["_law_script"]) F17 rfl λ_ _ _ _ _ _ _=>rfl
 have m17:=PySem.W.mg_of X G a17
 have FM0:=L7 (st:=O2) lM0 cM0 kM0
 have bM0:=bn1 (ps:=["self"]) FM0 rfl λ_ _ _ _ _ _ _=>rfl
 have FM1:=L7 (st:=AO) lM1 cM1 kM1
 have bM1:=bn3 (ps:=["self","one","other"]) FM1 rfl λ_ _ _ _ _ _ _ _ _=>rfl
 have FM2:=L7 (st:=D2) lM2 cM2 kM2
 have bM2:=bn2 (ps:=["self","kind"]) FM2 rfl λ_ _ _ _ _ _ _ _=>rfl
 have FM3:=L7 (st:=D1) lM3 cM3 kM3
 have bM3:=bn3 (ps:=["self","kind","numbers"]) FM3 rfl λ_ _ _ _ _ _ _ _ _=>rfl
 have FM4:=L7 (st:=J6) lM4 cM4 kM4
 have bM4:=bn2 (ps:=["self","number"]) FM4 rfl λ_ _ _ _ _ _ _ _=>rfl
 have FM5:=L7 (st:=G3) lM5 cM5 kM5
 have bM5:=bn3 (ps:=["self","one","other"]) FM5 rfl λ_ _ _ _ _ _ _ _ _=>rfl
 have FM6:=L7 (st:=B3) lM6 cM6 kM6
 have bM6:=bn2 (ps:=["self","number"]) FM6 rfl λ_ _ _ _ _ _ _ _=>rfl
 have FM7:=L7 (st:=G4) lM7 cM7 kM7
 have bM7:=bn2 (ps:=["self","kind"]) FM7 rfl λ_ _ _ _ _ _ _ _=>rfl
 have FM8:=L7 (st:=K7) lM8 cM8 kM8
 have bM8:=bn2 (ps:=["self","kind"]) FM8 rfl λ_ _ _ _ _ _ _ _=>rfl
 have FM9:=L7 (st:=C4) lM9 cM9 kM9
 have bM9:=bn2 (ps:=["self","shape"]) FM9 rfl λ_ _ _ _ _ _ _ _=>rfl
 have FM10:=L7 (st:=D3) lM10 cM10 kM10
 have bM10:=bn2 (ps:=["self","kind"]) FM10 rfl λ_ _ _ _ _ _ _ _=>rfl
 have FI:=L7 (st:=CU) lI cI kI
 have bI:=bn1 (ps:=["self"]) FI rfl λ_ _ _ _ _ _ _=>rfl
 obtain⟨mf,md,u0,u1,u2,u3,u4,u5,u6,u7,u8,u9,u10,v0,v1,v2,v3,v4,v5,v6,v7,v8,v9,v10⟩:=aSZ fM0 fM1 fM2 fM3 fM4 fM5 fM6 fM7 fM8 fM9 fM10 (PySem.W.fnOf "fresh" "Bonds.fresh" (C3 O2) (B8 O2) (A6 O2) .none kVM0 dcM0 pmM0 anM0 cdM0 ctM0) (PySem.W.fnOf "tie" "Bonds.tie" (C3 AO) (B8 AO) (A6 AO) .none kVM1 dcM1 pmM1 anM1 cdM1 ctM1) (PySem.W.fnOf "number_of" "Bonds.number_of" (C3 D2) (B8 D2) (A6 D2) .none kVM2 dcM2 pmM2 anM2 cdM2 ctM2) (PySem.W.fnOf "number_with" "Bonds.number_with" (C3 D1) (B8 D1) (A6 D1) .none kVM3 dcM3 pmM3 anM3 cdM3 ctM3) (PySem.W.fnOf "last_of" "Bonds.last_of" (C3 J6) (B8 J6) (A6 J6) .none kVM4 dcM4 pmM4 anM4 cdM4 ctM4) (PySem.W.fnOf "tie_tops" "Bonds.tie_tops" (C3 G3) (B8 G3) (A6 G3) .none kVM5 dcM5 pmM5 anM5 cdM5 ctM5) (PySem.W.fnOf "refuse_within_itself" "Bonds.refuse_within_itself" (C3 B3) (B8 B3) (A6 B3) .none kVM6 dcM6 pmM6 anM6 cdM6 ctM6) (PySem.W.fnOf "shape_of" "Bonds.shape_of" (C3 G4) (B8 G4) (A6 G4) .none kVM7 dcM7 pmM7 anM7 cdM7 ctM7) (PySem.W.fnOf "final" "Bonds.final" (C3 K7) (B8 K7) (A6 K7) .none kVM8 dcM8 pmM8 anM8 cdM8 ctM8) (PySem.W.fnOf "shapes_within" "Bonds.shapes_within" (C3 C4) (B8 C4) (A6 C4) .none kVM9 dcM9 pmM9 anM9 cdM9 ctM9) (PySem.W.fnOf "refuse_long" "Bonds.refuse_long" (C3 D3) (B8 D3) (A6 D3) .none kVM10 dcM10 pmM10 anM10 cdM10 ctM10)
 have R0:Fun K "fresh" "Bonds.fresh" O2 (mf "fresh") (md "fresh"):=by rw[u0,v0];exact FM0
 have w0:Meth K C "fresh" (mf "fresh"):=by rw[u0];exact⟨aM0,jM0,kM0⟩
 have y100:Binds K (md "fresh") ["self"] []:=by rw[v0];exact bM0
 have R1:Fun K "tie" "Bonds.tie" AO (mf "tie") (md "tie"):=by rw[u1,v1];exact FM1
 have w1:Meth K C "tie" (mf "tie"):=by rw[u1];exact⟨aM1,jM1,kM1⟩
 have y101:Binds K (md "tie") ["self","one","other"] []:=by rw[v1];exact bM1
 have R2:Fun K "number_of" "Bonds.number_of" D2 (mf "number_of") (md "number_of"):=by rw[u2,v2];exact FM2
 have w2:Meth K C "number_of" (mf "number_of"):=by rw[u2];exact⟨aM2,jM2,kM2⟩
 have y102:Binds K (md "number_of") ["self","kind"] []:=by rw[v2];exact bM2
 have R3:Fun K "number_with" "Bonds.number_with" D1 (mf "number_with") (md "number_with"):=by rw[u3,v3];exact FM3
 have w3:Meth K C "number_with" (mf "number_with"):=by rw[u3];exact⟨aM3,jM3,kM3⟩
 have y103:Binds K (md "number_with") ["self","kind","numbers"] []:=by rw[v3];exact bM3
 have R4:Fun K "last_of" "Bonds.last_of" J6 (mf "last_of") (md "last_of"):=by rw[u4,v4];exact FM4
 have w4:Meth K C "last_of" (mf "last_of"):=by rw[u4];exact⟨aM4,jM4,kM4⟩
 have y104:Binds K (md "last_of") ["self","number"] []:=by rw[v4];exact bM4
 have R5:Fun K "tie_tops" "Bonds.tie_tops" G3 (mf "tie_tops") (md "tie_tops"):=by rw[u5,v5];exact FM5
 have w5:Meth K C "tie_tops" (mf "tie_tops"):=by rw[u5];exact⟨aM5,jM5,kM5⟩
 have y105:Binds K (md "tie_tops") ["self","one","other"] []:=by rw[v5];exact bM5
 have R6:Fun K "refuse_within_itself" "Bonds.refuse_within_itself" B3 (mf "refuse_within_itself") (md "refuse_within_itself"):=by rw[u6,v6];exact FM6
 have w6:Meth K C "refuse_within_itself" (mf "refuse_within_itself"):=by rw[u6];exact⟨aM6,jM6,kM6⟩
 have y106:Binds K (md "refuse_within_itself") ["self","number"] []:=by rw[v6];exact bM6
 have R7:Fun K "shape_of" "Bonds.shape_of" G4 (mf "shape_of") (md "shape_of"):=by rw[u7,v7];exact FM7
 have w7:Meth K C "shape_of" (mf "shape_of"):=by rw[u7];exact⟨aM7,jM7,kM7⟩
 have y107:Binds K (md "shape_of") ["self","kind"] []:=by rw[v7];exact bM7
 have R8:Fun K "final" "Bonds.final" K7 (mf "final") (md "final"):=by rw[u8,v8];exact FM8
 have w8:Meth K C "final" (mf "final"):=by rw[u8];exact⟨aM8,jM8,kM8⟩
 have y108:Binds K (md "final") ["self","kind"] []:=by rw[v8];exact bM8
 have R9:Fun K "shapes_within" "Bonds.shapes_within" C4 (mf "shapes_within") (md "shapes_within"):=by rw[u9,v9];exact FM9
 have w9:Meth K C "shapes_within" (mf "shapes_within"):=by rw[u9];exact⟨aM9,jM9,kM9⟩
 have y109:Binds K (md "shapes_within") ["self","shape"] []:=by rw[v9];exact bM9
 have R10:Fun K "refuse_long" "Bonds.refuse_long" D3 (mf "refuse_long") (md "refuse_long"):=by rw[u10,v10];exact FM10
 have w10:Meth K C "refuse_long" (mf "refuse_long"):=by rw[u10];exact⟨aM10,jM10,kM10⟩
 have y110:Binds K (md "refuse_long") ["self","kind"] []:=by rw[v10];exact bM10
 have RC:BN.BCls K C mf md:={cl:=⟨pg,hd,po,sa⟩,n1:=n1,n2:=n2,n3:=n3,n4:=n4,m_fresh:=w0,m_tie:=w1,m_number_of:=w2,m_number_with:=w3,m_last_of:=w4,m_tie_tops:=w5,m_refuse_within_itself:=w6,m_shape_of:=w7,m_final:=w8,m_shapes_within:=w9,m_refuse_long:=w10,b_fresh:=y100,b_tie:=y101,b_number_of:=y102,b_number_with:=y103,b_last_of:=y104,b_tie_tops:=y105,b_refuse_within_itself:=y106,b_shape_of:=y107,b_final:=y108,b_shapes_within:=y109,b_refuse_long:=y110}
 refine⟨PySem.W.fnOf "law" "law" (C3 Y0) (B8 Y0) (A6 Y0) .none kV17 dc17 pm17 an17 cd17 ct17,λs v=> .of_eq rfl,λbase _ _ tbx=> ?_⟩
 have hc_number_of:(md "number_of").code=.ref c1:=by rw[v2];exact hcode1
 have hc_final:(md "final").code=.ref c2:=by rw[v8];exact hcode2
 have GM_init:=BN.ok_init (P:=l.prog) (w:=w) (mg:=mg) (base:=base) FI RC
 have BVE:BN.NoGV mg:={B with ValueError_:=PySem.W.mg_none_of X G z_ValueError}
 have G_op:=λ(b:Heap)=>BN.ok_is_open (P:=l.prog) (w:=w) (mg:=mg) (base:=b) F2
 have G_kp:=λ(b:Heap)=>BN.ok_kind_parts (P:=l.prog) (w:=w) (mg:=mg) (base:=b) F1 B
 have G_ps:=λ(b:Heap)=>BN.ok_parts_of_shape (P:=l.prog) (w:=w) (mg:=mg) (base:=b) F3 ⟨_,_,(G_op b),b2,k2,m2⟩ ⟨_,_,(G_kp b),b1,k1,m1⟩
 have G_wp:=λ(b:Heap)=>BN.ok_with_parts (P:=l.prog) (w:=w) (mg:=mg) (base:=b) F5 B
 have G_pw:=BN.ok_pairs_within (P:=l.prog) (w:=w) (mg:=mg) (base:=base) F4 B X_BadKind ⟨_,_,(G_kp base),b1,k1,m1⟩
 have N_la:=λ(b:Heap)=>BN.ok_last_of (P:=l.prog) (w:=w) (mg:=mg) (base:=b) R4 RC
 have N_sh:=λ(b:Heap)=>BN.ok_shape_of (P:=l.prog) (w:=w) (mg:=mg) (base:=b) R7 RC (N_la b) ⟨_,_,(G_op b),b2,k2,m2⟩
 have N_fr:=BN.ok_fresh (P:=l.prog) (w:=w) (mg:=mg) (base:=base) R0 RC
 have N_nw:=λ(b:Heap)=>BN.ok_number_with (P:=l.prog) (w:=w) (mg:=mg) (base:=b) R3 B RC ⟨_,_,(G_op b),b2,k2,m2⟩
 have N_sw:=λ(b:Heap)=>BN.ok_shapes_within (P:=l.prog) (w:=w) (mg:=mg) (base:=b) R9 RC (N_sh b) ⟨_,_,(G_kp b),b1,k1,m1⟩
 have N_rl:=BN.ok_refuse_long (P:=l.prog) (w:=w) (mg:=mg) (base:=base) R10 RC X_BadKind m_MOST_WORDS (N_sh base) ⟨_,_,(G_kp base),b1,k1,m1⟩
 have N_tt:=BN.ok_tie_tops (P:=l.prog) (w:=w) (mg:=mg) (base:=base) R5 RC ⟨_,_,G_pw,b4,k4,m4⟩
 have N_ri:=BN.ok_refuse_within_itself (P:=l.prog) (w:=w) (mg:=mg) (base:=base) R6 RC X_BadKind (N_la base) (N_sh base) ⟨_,_,(G_kp base),b1,k1,m1⟩
 have G_bu:=λ(b:Heap)=>BN.ok_built_up (P:=l.prog) (w:=w) (mg:=mg) (C:=C) (base:=b) F0 B
 have N_no:=BN.ok_number_of (P:=l.prog) (w:=w) (mg:=mg) (base:=base) (P2:=P2) R2 RC hc_number_of (tbx.code (c1,P1) (by simp)) (tbx.blt (c1,P1) (by simp)) G_bu m0 k0 b0 G_ps m3 k3 b3 N_nw
 have N_fi:=BN.ok_final (P:=l.prog) (w:=w) (mg:=mg) (base:=base) (P1:=P1) R8 RC hc_final (tbx.code (c2,P2) (by simp)) (tbx.blt (c2,P2) (by simp)) G_bu m0 k0 b0 G_wp m5 k5 b5 (N_sh base) N_sw N_rl
 have N_ti:=BN.ok_tie (P:=l.prog) (w:=w) (mg:=mg) (base:=base) R1 RC N_no (N_la base) N_tt N_ri
 have G_cell:=BN.ok_law_cell_at (P:=l.prog) (w:=w) (mg:=mg) (base:=base) F6 B
 have G_lo:=BN.ok_law_open (P:=l.prog) (w:=w) (mg:=mg) (base:=base) F7
 have G_lf:=BN.ok_law_form (P:=l.prog) (w:=w) (mg:=mg) (base:=base) F8 B
 have G_pair:=BN.ok_law_pair (P:=l.prog) (w:=w) (mg:=mg) (base:=base) F9 ⟨_,_,G_lo,b7,k7,m7⟩ ⟨_,_,G_lf,b8,k8,m8⟩
 have G_put:=BN.ok_put (P:=l.prog) (w:=w) (mg:=mg) (base:=base) F10 B b10 k10 m10 90
 have G_has:=BN.ok_has (P:=l.prog) (w:=w) (mg:=mg) (base:=base) F11 B b11 k11 m11 90
 have G_clo:=BN.ok_closed (P:=l.prog) (w:=w) (mg:=mg) (base:=base) F13 B b13 k13 m13 90
 have G_wor:=BN.ok_words (P:=l.prog) (w:=w) (mg:=mg) (base:=base) F14 B b14 k14 m14 90
 have G_tied:=BN.ok_tied (P:=l.prog) (w:=w) (mg:=mg) (base:=base) F12 B b12 k12 m12 G_put b10 k10 m10 G_has b11 k11 m11 73
 have G_ref:=BN.ok_law_refused (P:=l.prog) (w:=w) (mg:=mg) (base:=base) F15 BVE RC X_MillError X_BadText X_BadName X_BadKind X_BadInput TK XX N_ti N_fi
 have G_tel:=BN.ok_law_tells (P:=l.prog) (w:=w) (mg:=mg) (base:=base) F16 BVE RC N_fi ⟨_,_,G_put,b10,k10,m10⟩ ⟨_,_,G_clo,b13,k13,m13⟩ ⟨_,_,G_wor,b14,k14,m14⟩ ⟨_,_,G_ref,b15,k15,m15⟩
 exact BN.ok_law (P:=l.prog) (w:=w) (mg:=mg) (base:=base) F17 BVE RC ⟨mk,aI,jI,kc⟩ (PySem.W.mg_of X G aC) GM_init bI N_fr N_ti N_fi ⟨_,_,G_cell,b6,k6,m6⟩ ⟨_,_,G_pair,b9,k9,m9⟩ ⟨_,_,G_tied,b12,k12,m12⟩ ⟨_,_,G_tel,b16,k16,m16⟩ ⟨_,_,G_ref,b15,k15,m15⟩
theorem walk{l:PySem.W.OpenLaw}{q:Program}{loose:List Str}{XP:(Str->Option Value)->Heap->Prop}{YP:World->Heap->Prop}{d:DefRec}{K:Params->PySem.W.Frag}{c1 P1 c2 P2:Addr}(hn:l.most=some 63)(hdf:d.params.defaults=[])(nP:P1≠P2)
  (hY:∀(w:World) (h:Heap),YP w h->(K w.params).In h)
  (hT:∀(w:World) (h:Heap),YP w h->(K w.params).In h->PySem.W.TabsAt [(c1,P1),(c2,P2)] h)(hK:∀w:World,PySem.W.noTabs (K w.params)=true)
  (F:∀(w:World) (mg:Str->Option Value) (fa:Addr) (h:Heap),(K w.params).In h->h.Ns mainGlobals mg->mg d.name=some (.ref fa)->
   ∃fd:FuncData,(∀(s:Shared) (u:Value),BindsTo s fd ⟨[u],[]⟩ [("_law_script",u)])/\∀base:Heap,(K w.params).In base->base.Ns mainGlobals mg->TabsB [(c1,P1),(c2,P2)] mg base->FnOk l.prog w (K w.params) mg base CX0 166 fa fd ["_law_script"] (MX (K w.params) P1 P2)):
  PySem.W.WalkO q loose XP YP l.row.toRowW d [] (λf vs=>PySem.call f vs):=
 L2.walk_ofKTY (n:=63) (k:=166) (x:="_law_script") (CX:=CX0) (sp:=λK=>MX K P1 P2) (tabs:=[(c1,P1),(c2,P2)]) hn (by decide) hdf ⟨rfl,by decide,by decide⟩ hY hT hK F (λ_ H a ns hl hO hS=>⟨a,ns,rfl,hS,hl,⟨#[],hO.tab (c1,P1) (by simp),trivial,.inl rfl⟩,⟨#[],hO.tab (c2,P2) (by simp),trivial,.inl rfl⟩,nP,λ_=>rfl⟩) λ_ _ _ _ z=>z
end BN
open PySem PySem.W PyProof.Rows
set_option maxRecDepth 100000 in
set_option maxHeartbeats 0 in
theorem PySem.Challenge.cw_speakmill_k31_bonds_holds : PySem.Challenge.rw_speakmill_k31_bonds.Holds := by
 w_on;o_law;k_head;(case hw=>w_witness2)
 k_fill
 refine BN.walk (l:=PySem.Challenge.rw_speakmill_k31_bonds) rfl rfl (c1:=128) (P1:=124) (c2:=166) (P2:=162) (by decide) (λw h Y=>PySem.W.km_in_of Y) ?tabsT ?tabsN ?F
 case tabsT=>
  intro w h Y X
  exact List.forall_mem_cons.mpr ⟨⟨PySem.W.codeHd_of_K (c:=128) (P:=124) X (by kernel_rfl),PySem.W.km_tabs_of Y 124 (by decide)⟩,List.forall_mem_cons.mpr ⟨⟨PySem.W.codeHd_of_K (c:=166) (P:=162) X (by kernel_rfl),PySem.W.km_tabs_of Y 162 (by decide)⟩,λ_ hz=>nomatch hz⟩⟩
 case tabsN=>intro w;kernel_rfl
 case F=>
  intro w mg fa h Xk G hmg
  refine' BN.all_mk Xk G hmg ?d0 ?d1 ?d2 ?d3 ?d4 ?d5 ?d6 ?d7 ?d8 ?d9 ?d10 ?d11 ?d12 ?d13 ?d14 ?d15 ?d16 ?a17 ?l17 ?c17 ?k17 ?e_MOST_WORDS ?aC ?aM0 ?lM0 ?cM0 ?kM0 ?jM0 ?aM1 ?lM1 ?cM1 ?kM1 ?jM1 ?aM2 ?lM2 ?cM2 ?kM2 ?jM2 ?aM3 ?lM3 ?cM3 ?kM3 ?jM3 ?aM4 ?lM4 ?cM4 ?kM4 ?jM4 ?aM5 ?lM5 ?cM5 ?kM5 ?jM5 ?aM6 ?lM6 ?cM6 ?kM6 ?jM6 ?aM7 ?lM7 ?cM7 ?kM7 ?jM7 ?aM8 ?lM8 ?cM8 ?kM8 ?jM8 ?aM9 ?lM9 ?cM9 ?kM9 ?jM9 ?aM10 ?lM10 ?cM10 ?kM10 ?jM10 ?aI ?lI ?cI ?kI ?jI ?pg ?hd ?po ?sa ?mk ?kc ?n1 ?n2 ?n3 ?n4 ?g_MillError ?q_MillError ?g_BadText ?q_BadText ?g_BadName ?q_BadName ?g_BadKind ?q_BadKind ?g_BadInput ?q_BadInput ?lC ?hC ?x1 ?x2 ?x3 ?y1 ?y2 ?y3 ?y4 ?y5 ?z_len ?z_list ?z_range ?z_reversed ?z_isinstance ?z_str ?z_tuple ?z_int ?z_bool ?z_zip ?z_sum ?z_max ?z_min ?z_enumerate ?z_ValueError ?hcode1 ?hcode2
  (case d0=>exact⟨_,_,_,_,_,_,_,_,_,rfl,by k_is,by k_is,by k_is,by k_is⟩)
  (case d1=>exact⟨_,_,_,_,_,_,_,_,_,rfl,by k_is,by k_is,by k_is,by k_is⟩)
  (case d2=>exact⟨_,_,_,_,_,_,_,_,_,rfl,by k_is,by k_is,by k_is,by k_is⟩)
  (case d3=>exact⟨_,_,_,_,_,_,_,_,_,rfl,by k_is,by k_is,by k_is,by k_is⟩)
  (case d4=>exact⟨_,_,_,_,_,_,_,_,_,rfl,by k_is,by k_is,by k_is,by k_is⟩)
  (case d5=>exact⟨_,_,_,_,_,_,_,_,_,rfl,by k_is,by k_is,by k_is,by k_is⟩)
  (case d6=>exact⟨_,_,_,_,_,_,_,_,_,rfl,by k_is,by k_is,by k_is,by k_is⟩)
  (case d7=>exact⟨_,_,_,_,_,_,_,_,_,rfl,by k_is,by k_is,by k_is,by k_is⟩)
  (case d8=>exact⟨_,_,_,_,_,_,_,_,_,rfl,by k_is,by k_is,by k_is,by k_is⟩)
  (case d9=>exact⟨_,_,_,_,_,_,_,_,_,rfl,by k_is,by k_is,by k_is,by k_is⟩)
  (case d10=>exact⟨_,_,_,_,_,_,_,_,_,rfl,by k_is,by k_is,by k_is,by k_is⟩)
  (case d11=>exact⟨_,_,_,_,_,_,_,_,_,rfl,by k_is,by k_is,by k_is,by k_is⟩)
  (case d12=>exact⟨_,_,_,_,_,_,_,_,_,rfl,by k_is,by k_is,by k_is,by k_is⟩)
  (case d13=>exact⟨_,_,_,_,_,_,_,_,_,rfl,by k_is,by k_is,by k_is,by k_is⟩)
  (case d14=>exact⟨_,_,_,_,_,_,_,_,_,rfl,by k_is,by k_is,by k_is,by k_is⟩)
  (case d15=>exact⟨_,_,_,_,_,_,_,_,_,rfl,by k_is,by k_is,by k_is,by k_is⟩)
  (case d16=>exact⟨_,_,_,_,_,_,_,_,_,rfl,by k_is,by k_is,by k_is,by k_is⟩)
  (case a17=>k_is)
  (case l17=>k_is)
  (case c17=>k_is)
  (case k17=>k_is)
  (case e_MOST_WORDS=>k_is)
  (case aC=>k_is)
  (case aM0=>k_is)
  (case lM0=>k_is)
  (case cM0=>k_is)
  (case kM0=>k_is)
  (case jM0=>k_is)
  (case aM1=>k_is)
  (case lM1=>k_is)
  (case cM1=>k_is)
  (case kM1=>k_is)
  (case jM1=>k_is)
  (case aM2=>k_is)
  (case lM2=>k_is)
  (case cM2=>k_is)
  (case kM2=>k_is)
  (case jM2=>k_is)
  (case aM3=>k_is)
  (case lM3=>k_is)
  (case cM3=>k_is)
  (case kM3=>k_is)
  (case jM3=>k_is)
  (case aM4=>k_is)
  (case lM4=>k_is)
  (case cM4=>k_is)
  (case kM4=>k_is)
  (case jM4=>k_is)
  (case aM5=>k_is)
  (case lM5=>k_is)
  (case cM5=>k_is)
  (case kM5=>k_is)
  (case jM5=>k_is)
  (case aM6=>k_is)
  (case lM6=>k_is)
  (case cM6=>k_is)
  (case kM6=>k_is)
  (case jM6=>k_is)
  (case aM7=>k_is)
  (case lM7=>k_is)
  (case cM7=>k_is)
  (case kM7=>k_is)
  (case jM7=>k_is)
  (case aM8=>k_is)
  (case lM8=>k_is)
  (case cM8=>k_is)
  (case kM8=>k_is)
  (case jM8=>k_is)
  (case aM9=>k_is)
  (case lM9=>k_is)
  (case cM9=>k_is)
  (case kM9=>k_is)
  (case jM9=>k_is)
  (case aM10=>k_is)
  (case lM10=>k_is)
  (case cM10=>k_is)
  (case kM10=>k_is)
  (case jM10=>k_is)
  (case aI=>k_is)
  (case lI=>k_is)
  (case cI=>k_is)
  (case kI=>k_is)
  (case jI=>k_is)
  (case pg=>k_is)
  (case hd=>k_is)
  (case po=>k_is)
  (case sa=>k_is)
  (case mk=>k_is)
  (case kc=>k_is)
  (case n1=>k_is)
  (case n2=>k_is)
  (case n3=>k_is)
  (case n4=>k_is)
  (case g_MillError=>k_is)
  (case q_MillError=>k_exc)
  (case g_BadText=>k_is)
  (case q_BadText=>k_exc)
  (case g_BadName=>k_is)
  (case q_BadName=>k_exc)
  (case g_BadKind=>k_is)
  (case q_BadKind=>k_exc)
  (case g_BadInput=>k_is)
  (case q_BadInput=>k_exc)
  (case lC=>k_is)
  (case hC=>decide)
  (case x1=>k_is)
  (case x2=>k_is)
  (case x3=>k_is)
  (case y1=>kit_is)
  (case y2=>kit_is)
  (case y3=>kit_is)
  (case y4=>kit_is)
  (case y5=>kit_is)
  (case z_len=>k_is)
  (case z_list=>k_is)
  (case z_range=>k_is)
  (case z_reversed=>k_is)
  (case z_isinstance=>k_is)
  (case z_str=>k_is)
  (case z_tuple=>k_is)
  (case z_int=>k_is)
  (case z_bool=>k_is)
  (case z_zip=>k_is)
  (case z_sum=>k_is)
  (case z_max=>k_is)
  (case z_min=>k_is)
  (case z_enumerate=>k_is)
  (case z_ValueError=>k_is)
  (case hcode1=>rfl)
  (case hcode2=>rfl)
