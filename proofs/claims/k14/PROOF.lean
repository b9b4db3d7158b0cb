import PyProof.Rows.All
import Wide.All
import OpenK.AllK
import Wide.FinOn
import Lean
import PyProof.EqAt
import PyProof.EqKinds
import PyProof.TupleCall
import PyProof.MaxThree
import PyProof.IsRules
import PyProof.SumAny
import KE.KIntText
import PyProof.Rows.StrSplitCount
import PySem.Challenge.RW_speakmill_k14_no_program
set_option Elab.async false
set_option linter.all false
set_option maxRecDepth 100000
set_option maxHeartbeats 8000000
open List (all_cons all_eq_true any_eq_true append_nil cons_append contains_cons drop_eq_getElem_cons drop_eq_nil_of_le drop_length filterMap_cons flatMap_cons flatten_cons getElem?_append_right getElem?_eq_none getElem?_map getElem?_set_ne getElem?_set_self getElem_mem length_append length_cons length_drop length_eq_zero_iff length_map length_nil length_reverse length_set length_singleton length_take lookup_cons map_append map_cons map_map map_nil mem_append mem_append_left mem_append_right mem_cons mem_cons_of_mem mem_cons_self mem_filterMap mem_map mem_of_getElem? nil_append nodup_cons not_mem_nil replicate_succ reverse_cons singleton_append size_toArray sum_append sum_cons sum_nil takeWhile_sublist take_add_one take_append_drop take_length take_of_length_le take_succ_cons take_succ_eq_append_getElem take_zero)
open Nat (le_of_eq le_of_lt le_of_not_lt le_refl le_succ le_trans lt_irrefl lt_of_le_of_lt lt_succ_self lt_trans min_eq_left ne_of_lt succ_pos zero_le)
open PySem.Heap (get?_push_size lt_size)
open Option (bind_eq_some_iff bind_some map_eq_none_iff map_eq_some_iff map_some)
open PySem.W (callWith_K emptyDict excIn findIn fnOf hideAll hideAll_get hideAll_none instObj kia_one kitOne lookIn looks_findIn of_hideAll plainGet)
abbrev bZ:=@PySem.wpAny_bind
abbrev pZ:=@PySem.wpAny_pure
abbrev gZ:=@PySem.Heap.get?_push_of_some
abbrev nZ:=Bool.false_ne_true
abbrev FZ:=PySem.W.Frag
abbrev kZ:=@PySem.W.keepIn
abbrev cZ{α:Type}{a b:α}{l:List α}:=(mem_cons (a:=a) (b:=b) (l:=l)).mp
abbrev sZ{α:Type}{a b:α}:=(List.mem_singleton (a:=a) (b:=b)).mp
namespace L2
open PySem PySem.Spec PyProof.Rows
abbrev Key:=Sum Int Str
def bFZ:Key->Value->Bool
 | .inl k,v=>Value.isInt k v
 | .inr x,v=>Value.isStrOf x v
def euZ(w:World):Key->Int
 | .inl k=>hashInt k
 | .inr x=>hashStr w x
theorem M7:∀ {k:Key} {v:Value},bFZ k v=true->(∃i t,k=Sum.inl i/\v=Value.int i t)\/(∃x t,k=Sum.inr x/\v=Value.str x t)
 | .inl i,v,h=>by
  obtain⟨t,e⟩:=Value.isInt_shape (k:=i) (v:=v) h
  exact .inl ⟨i,t,rfl,e⟩
 | .inr x,v,h=>by
  obtain⟨t,e⟩:=Value.isStrOf_shape (x:=x) (v:=v) h
  exact .inr ⟨x,t,rfl,e⟩
theorem coZ(a b:Int):decide ((Sum.inl a:Key)=Sum.inl b)=(a==b):=by
 by_cases e:a=b
 ·subst e;simp
 ·have h:¬(Sum.inl a:Key)=Sum.inl b:=λq=>e (Sum.inl.inj q)
  rw[decide_eq_false h]
  exact(beq_eq_false_iff_ne.mpr e).symm
theorem cuZ(a b:Str):decide ((Sum.inr a:Key)=Sum.inr b)=decide (a=b):=by
 by_cases e:a=b
 ·subst e;simp
 ·have h:¬(Sum.inr a:Key)=Sum.inr b:=λq=>e (Sum.inr.inj q)
  rw[decide_eq_false h,decide_eq_false e]
theorem cJZ(a:Int)(b:Str):decide ((Sum.inl a:Key)=Sum.inr b)=false:=decide_eq_false (λq=>nomatch q)
theorem c2Z(a:Str)(b:Int):decide ((Sum.inr a:Key)=Sum.inl b)=false:=decide_eq_false (λq=>nomatch q)
def NG(prog:Program)(w:World):PySem.KeyKind prog w Key where
 is:=bFZ
 hash:=euZ w
 inj:=λv a b ha hb=>by
  rcases M7 ha with⟨i,t,rfl,rfl⟩|⟨x,t,rfl,rfl⟩
  ·rcases M7 hb with⟨j,u,rfl,e⟩|⟨y,u,rfl,e⟩
   ·injection e with e1 _;rw[e1]
   ·exact nomatch e
  ·rcases M7 hb with⟨j,u,rfl,e⟩|⟨y,u,rfl,e⟩
   ·exact nomatch e
   ·injection e with e1 _;rw[e1]
 byValue:=λk v h=>by
  rcases M7 h with⟨i,t,rfl,rfl⟩|⟨x,t,rfl,rfl⟩<;>rfl
 pyHash:=λhv h=>by
  rcases M7 hv with⟨i,t,rfl,rfl⟩|⟨x,t,rfl,rfl⟩
  ·exact wpAny_pyHash_int h
  ·exact wpAny_pyHash_str h
 eqBool:=λhu hv h=>by
  rcases M7 hu with⟨i,t,rfl,rfl⟩|⟨x,t,rfl,rfl⟩
  ·rcases M7 hv with⟨j,u,rfl,rfl⟩|⟨y,u,rfl,rfl⟩
   ·rw[coZ]at h;exact wpAny_eqBool_int h
   ·rw[cJZ]at h;exact SeqAt.EqAt.int_str i t y u _ _ _ _ h
  ·rcases M7 hv with⟨j,u,rfl,rfl⟩|⟨y,u,rfl,rfl⟩
   ·rw[c2Z]at h;exact SeqAt.EqAt.str_int x t j u _ _ _ _ h
   ·rw[cuZ]at h;exact wpAny_eqBool_str h
 «strs»:=λk x t v h=>by
  rcases M7 h with⟨i,u,rfl,e⟩|⟨y,u,rfl,e⟩
  ·exact nomatch e
  ·injection e with e1 _
   subst e1
   cases v<;>rfl
inductive V where
 |non|bl (b:Bool)|int (i:Int)|str (x:Str)|byt (b:Array UInt8)|flt (b:UInt64)|ref (a:Addr)|ty (n:String)
 deriving DecidableEq
def RelV:V->Value->Prop
 | .non,u=>u=Value.none
 | .bl b,u=>u=Value.bool b
 | .int i,u=>∃t,u=Value.int i t
 | .str x,u=>∃t,u=Value.str x t
 | .byt b,u=>∃t,u=Value.bytes b t
 | .flt b,u=>∃t,u=Value.float b t
 | .ref a,u=>u=Value.ref a
 | .ty n,u=>u=Value.type n
abbrev Vals:List V->List Value->Prop:=Paired RelV
theorem Vals.length{xs:List V}{us:List Value}(r:Vals xs us):xs.length=us.length:=Paired.length r
theorem Vals.get:∀ {xs:List V} {us:List Value} {i:Nat} {x:V},Vals xs us->xs[i]? =some x->∃u,us[i]? =some u/\RelV x u
 |_,_,_,_,.nil,e=>by simp at e
 |_,_,0,_,.cons r _,e=>by simp at e;subst e;exact⟨_,rfl,r⟩
 |_,_,i+1,x,.cons _ t,e=>by
  obtain⟨u,h1,h2⟩:=Vals.get (i:=i) (x:=x) t (by simpa using e)
  exact⟨u,by simpa using h1,h2⟩
theorem Vals.set{x:V}{u:Value}(r:RelV x u):∀ {xs:List V} {us:List Value} (i:Nat),Vals xs us->Vals (xs.set i x) (us.set i u)
 |_,_,_,.nil=> .nil
 |_,_,0,.cons _ t=> .cons r t
 |_,_,i+1,.cons q t=> .cons q (Vals.set r i t)
theorem Vals.append:∀ {xs ys:List V} {us ws:List Value},Vals xs us->Vals ys ws->Vals (xs++ys) (us++ws)
 |_,_,_,_,.nil,s=>s
 |_,_,_,_,.cons r t,s=> .cons r (Vals.append t s)
theorem Vals.take:∀ {xs:List V} {us:List Value} (n:Nat),Vals xs us->Vals (xs.take n) (us.take n)
 |_,_,0,_=> .nil
 |_,_,_+1,.nil=> .nil
 |_,_,n+1,.cons r t=> .cons r (Vals.take n t)
theorem Vals.drop:∀ {xs:List V} {us:List Value} (n:Nat),Vals xs us->Vals (xs.drop n) (us.drop n)
 |_,_,0,r=>r
 |_,_,_+1,.nil=> .nil
 |_,_,n+1,.cons _ t=>Vals.drop n t
theorem Vals.none_of:∀ {xs:List V} {us:List Value} {i:Nat},Vals xs us->xs[i]? =none->us[i]? =none:=λ{xs us i} r e=>by
 have h1:=r.length
 have h2:xs.length<=i:=List.getElem?_eq_none_iff.mp e
 exact List.getElem?_eq_none_iff.mpr (by omega)
def RelO:Option V->Option Value->Prop
 |some v,some u=>RelV v u
 |none,none=>True
 |_,_=>False
def KV{κ:Type}:List (κ×V)->List (κ×Value)->Prop:=Paired λ(p:κ×V) (q:κ×Value)=>p.1=q.1/\RelV p.2 q.2
def kV:Key->V
 | .inl i=> .int i
 | .inr x=> .str x
inductive HO where
 |lst (xs:List V)
 |tup (xs:List V)
 |dK (kvs:List (Key×V))|dT (kvs:List (List Key×V))
 |set(S:Int->Bool) (n:Nat)
 |ins (C dx:Addr) (fs:List (Str×V))
 |own (x:Addr)
 |xd (fs:List (Str×V))
 |met (f x:Addr)
 |rng (lo hi:Int)
 |frz (o:Obj) (u:HO)
 |tbl (ps:Array Value)
 |ext (φ:Heap->Prop)
abbrev Hp:=Addr->Option HO
def upd(H:Hp)(a:Addr)(o:HO):Hp:=λb=>if b=a then some o else H b
theorem A2{H:Hp}{a:Addr}{o:HO}:upd H a o a=some o:=by unfold upd;rw[if_pos rfl]
theorem C1{H:Hp}{a b:Addr}{o:HO}(h:b≠a):upd H a o b=H b:=by unfold upd;rw[if_neg h]
theorem V6{H:Hp}{a:Addr}{o u:HO}:upd (upd H a o) a u=upd H a u:=by
 funext b;unfold upd;split<;>rfl
theorem KD{H:Hp}{a b:Addr}{o u:HO}(h:H a=some o)(h':H b=some u)(d:o≠u):a≠b:=by
 intro e;subst e;rw[h]at h';exact d (Option.some.inj h')
theorem B8{H:Hp}{a b:Addr}{o:HO}(h:H a=some o)(h':H b=none):a≠b:=by
 intro e;subst e;rw[h]at h';cases h'
section
variable(P:Program)(w:World)
def ObjOk(H:Hp)(h:Heap)(a:Addr):HO->Prop
 | .lst xs=>xs.length<=sizeLine/\∃(its:List Value) (n:Nat),Vals xs its/\h.get? a=some {cls:=.type "list",data:=.seq its.toArray n}
 | .tup xs=>xs.length<=sizeLine/\∃its:List Value,Vals xs its/\IsTup h a its.toArray
 | .dK kvs=>kvs.length<=sizeLine/\(a==sysModules)=false/\∃vs,KV kvs vs/\h.DictOf (NG P w) a vs
 | .dT kvs=>kvs.length<=sizeLine/\(a==sysModules)=false/\∃xs:List (List Key×Addr×Value),
   Paired (λ(p:List Key×V) (q:List Key×Addr×Value)=>p.1=q.1/\H q.2.1=some (.tup (p.1.map kV))/\RelV p.2 q.2.2) kvs xs/\
   ∃o es ep,h.get? a=some o/\o.ExactDict/\o.data=.dict es ep/\es.toList=xs.map (entryOfKey (tupleKind (NG P w)))/\(xs.map (·.1)).Nodup
 | .set S n=>h.SetOf (intKind P w) a S n
 | .ins C dx fs=>H dx=some (.own a)/\fs.length<=1000/\dx≠a/\h.get? a=some (instObj C dx)/\
   ∃mA,h.Ns1 dx mA/\(∀f,RelO (fs.lookup f) (mA f))/\PySem.Within mA (fs.map (·.1))
 | .own _=>∃o,h.get? a=some o
 | .xd fs=>∃mA,h.Ns1 a mA/\∀f,RelO (fs.lookup f) (mA f)
 | .rng lo hi=>∃t u v,h.get? a=some {cls:=.type "range",data:=.fields #[.int lo t,.int hi u,.int 1 v]}
 | .frz o u=>h.get? a=some o/\ObjOk H h a u
 | .tbl ps=>h.get? a=some {cls:=.none,data:=.fields ps}
 | .met f x=>h.get? a=some (PySem.W.methodObj (.ref f) (.ref x))
 | .ext φ=>φ h/\(∃o,h.get? a=some o)/\∀h1 h2:Heap,φ h1->(∀o,h1.get? a=some o->h2.get? a=some o)->φ h2
def HOk(H:Hp)(h:Heap):Prop:=∀a o,H a=some o->ObjOk P w H h a o
end
section
variable{P:Program}{w:World}{H H':Hp}{h h':Heap}{a:Addr}{o:HO}
theorem ObjOk.lt(x:ObjOk P w H h a o):a<h.objs.size:=by
 cases o with
 |lst xs=>obtain⟨_,_,_,_,e⟩:=x;exact lt_size e
 |tup xs=>obtain⟨_,_,_,p⟩:=x;exact p.lt
 |dK kvs=>obtain⟨_,_,_,_,o,_,_,e,_⟩:=x;exact lt_size e
 |dT kvs=>obtain⟨_,_,_,_,o,_,_,e,_⟩:=x;exact lt_size e
 |set S n=>obtain⟨o,_,_,_,e,_⟩:=x;exact lt_size e
 |ins C dx fs=>obtain⟨_,_,_,e,_⟩:=x;exact lt_size e
 |own y=>obtain⟨_,e⟩:=x;exact lt_size e
 |xd fs=>obtain⟨_,⟨_,_,_,e,_⟩,_⟩:=x;exact lt_size e
 |rng lo hi=>obtain⟨_,_,_,e⟩:=x;exact lt_size e
 |frz ob u=>obtain⟨e,_⟩:=x;exact lt_size e
 |tbl ps=>exact lt_size (show h.get? a=some _ from x)
 |met f y=>exact lt_size (show h.get? a=some _ from x)
 |ext φ=>obtain⟨_,⟨_,e⟩,_⟩:=x;exact lt_size e
theorem Paired.mapP{α β:Type}{F G:α->β->Prop}:∀ {l₁:List α} {l₂:List β},Paired F l₁ l₂->(∀a b,F a b->G a b)->Paired G l₁ l₂
 |_,_,.nil,_=> .nil
 |_,_,.cons r t,f=> .cons (f _ _ r) (Paired.mapP t f)
theorem ObjOk.stay(x:ObjOk P w H h a o)(k:∀b u,(b=a\/H b=some (.own a))->h.get? b=some u->h'.get? b=some u)
  (ho:∀b,H b=some (.own a)->H' b=some (.own a))(ht:∀b xs,H b=some (.tup xs)->H' b=some (.tup xs)):ObjOk P w H' h' a o:=by
 induction o with
 |lst xs=>obtain⟨z,its,n,r,e⟩:=x;exact⟨z,its,n,r,k _ _ (.inl rfl) e⟩
 |tup xs=>obtain⟨z,its,r,ob,e,c⟩:=x;exact⟨z,its,r,ob,k _ _ (.inl rfl) e,c⟩
 |dK kvs=>obtain⟨z,y,vs,r,ob,es,ep,e,c⟩:=x;exact⟨z,y,vs,r,ob,es,ep,k _ _ (.inl rfl) e,c⟩
 |dT kvs=>
  obtain⟨z,y,xs,r,ob,es,ep,e,c⟩:=x
  exact⟨z,y,xs,Paired.mapP r λp q z=>⟨z.1,ht _ _ z.2.1,z.2.2⟩,ob,es,ep,k _ _ (.inl rfl) e,c⟩
 |set S n=>obtain⟨ob,es,ep,t,e,c⟩:=x;exact⟨ob,es,ep,t,k _ _ (.inl rfl) e,c⟩
 |ins C dx fs=>
  obtain⟨d,z,ne,e,mA,⟨od,es,ep,e2,c⟩,r⟩:=x
  exact⟨ho _ d,z,ne,k _ _ (.inl rfl) e,mA,⟨od,es,ep,k _ _ (.inr d) e2,c⟩,r⟩
 |own y=>obtain⟨ob,e⟩:=x;exact⟨ob,k _ _ (.inl rfl) e⟩
 |xd fs=>obtain⟨mA,⟨od,es,ep,e,c⟩,r⟩:=x;exact⟨mA,⟨od,es,ep,k _ _ (.inl rfl) e,c⟩,r⟩
 |rng lo hi=>obtain⟨t,u,v,e⟩:=x;exact⟨t,u,v,k _ _ (.inl rfl) e⟩
 |frz ob u ih=>obtain⟨e,q⟩:=x;exact⟨k _ _ (.inl rfl) e,ih q⟩
 |tbl ps=>
  have e:h.get? a=some {cls:=.none,data:=.fields ps}:=x
  show h'.get? a=some {cls:=.none,data:=.fields ps}
  exact k a _ (.inl rfl) e
 |met f y=>
  have e:h.get? a=some (PySem.W.methodObj (.ref f) (.ref y)):=x
  show h'.get? a=some (PySem.W.methodObj (.ref f) (.ref y))
  exact k a _ (.inl rfl) e
 |ext φ=>obtain⟨p,⟨o,e⟩,st⟩:=x;exact⟨st _ _ p λo q=>k _ _ (.inl rfl) q,⟨o,k _ _ (.inl rfl) e⟩,st⟩
theorem HOk.lt(x:HOk P w H h)(e:H a=some o):a<h.objs.size:=(x a o e).lt
theorem HOk.fresh(x:HOk P w H h)(e:h.objs.size<=a):H a=none:=by
 cases q:H a with
 |none=>rfl
 |some u=>exact absurd (Nat.lt_of_lt_of_le (x.lt q) e) (lt_irrefl _)
theorem HOk.kept(x:HOk P w H h)(k:∀b u,h.get? b=some u->h'.get? b=some u):HOk P w H h':=λa o e=>
 (x a o e).stay (λb u _ q=>k b u q) (λ_ q=>q) λ_ _ q=>q
theorem HOk.laid(x:HOk P w H h)(k:∀b u,h.get? b=some u->h'.get? b=some u)(hp:h.objs.size<=a)(new:ObjOk P w (upd H a o) h' a o):HOk P w (upd H a o) h':=λb u e=>by
 have hn:=x.fresh hp
 by_cases hb:b=a
 ·subst hb;rw[A2]at e;cases e;exact new
 ·rw[C1 hb]at e
  exact(x b u e).stay (λc v _ q=>k c v q) (λc q=>by rw[C1 (B8 q hn)];exact q) λc xs q=>by rw[C1 (B8 q hn)];exact q
end
def Rd(H:Hp)(a:Addr)(u:HO):Prop:=H a=some u\/∃o,H a=some (.frz o u)
theorem Rd.ok{P:Program}{w:World}{H:Hp}{h:Heap}{a:Addr}{u:HO}(r:Rd H a u)(x:HOk P w H h):ObjOk P w H h a u:=by
 rcases r with r|⟨o,r⟩
 ·exact x a u r
 ·obtain⟨_,q⟩:=x a _ r
  exact q
def Mut:Option HO->Prop
 |some (.lst _)=>True
 |some (.dK _)=>True
 |some (.dT _)=>True
 |some (.set _ _)=>True
 |some (.ins _ _ _)=>True
 |some (.ext _)=>True
 |_=>False
section
variable{P:Program}{w:World}{H:Hp}{h h':Heap}{x e:Addr}{o':HO}
theorem HOk.write(ok:HOk P w H h)(mu:Mut (H x))(he:e=x\/H e=some (.own x))(k:∀b u,b≠e->h.get? b=some u->h'.get? b=some u)(heo:∃u,h'.get? e=some u)
  (new:ObjOk P w (upd H x o') h' x o'):HOk P w (upd H x o') h':=λb u q=>by
 have nown:∀c y,H c=some (.own y)->c≠x:=λc y r z=>by subst z;rw[r]at mu;exact mu
 have ntup:∀c xs,H c=some (.tup xs)->c≠x:=λc xs r z=>by subst z;rw[r]at mu;exact mu
 by_cases hb:b=x
 ·subst hb;rw[A2]at q;cases q;exact new
 ·rw[C1 hb]at q
  by_cases hbe:b=e
  ·have q':H b=some (.own x):=by
    rcases he with z|z
    ·exact absurd (hbe.trans z) hb
    ·rw[hbe];exact z
   rw[q]at q';cases q'
   obtain⟨v,hv⟩:=heo
   exact⟨v,by rw[hbe];exact hv⟩
  ·refine(ok b u q).stay (λc v hc r=>k c v ?_ r) (λc r=>by rw[C1 (nown c b r)];exact r) λc xs r=>by rw[C1 (ntup c xs r)];exact r
   rcases hc with rfl|hc
   ·exact hbe
   ·rintro rfl
    rcases he with z|z
    ·exact nown c b hc z
    ·rw[hc]at z;cases z;exact hb rfl
end
structure Un (fs ex:List Addr) (H H':Hp) (h h':Heap):Prop where
 keep:∀b o,h.get? b=some o->H b=none->b∉fs->b∉ex->h'.get? b=some o
 slot:∀b o,h.get? b=some o->H b=none->b∈fs->b∉ex->∃sl,h'.get? b=some {o with slots:=sl}
 free:∀b o,h.get? b=some o->H b=none->b∉ex->H' b=none
 there:∀b o,h.get? b=some o->b∉ex->∃o',h'.get? b=some o'
 tups:∀b xs,H b=some (.tup xs)->H' b=some (.tup xs)
 frzs:∀b o u,H b=some (.frz o u)->H' b=some (.frz o u)
 tbls:∀b ps,H b=some (.tbl ps)->∃more,H' b=some (.tbl (ps++more))
section
variable{fs fs' ex ex':List Addr}{H H1 H2:Hp}{h h1 h2 h':Heap}{a x e:Addr}{o:HO}
theorem Un.any(u:Un fs ex H H1 h h1){b:Addr}{ob:Obj}(q:h.get? b=some ob)(n:H b=none)(hx:b∉ex):∃sl,h1.get? b=some {ob with slots:=sl}:=by
 by_cases hb:b∈fs
 ·exact u.slot b ob q n hb hx
 ·exact⟨ob.slots,u.keep b ob q n hb hx⟩
theorem Un.kept(k:∀b u,h.get? b=some u->h'.get? b=some u):Un fs ex H H h h':=
 ⟨λb ob q _ _ _=>k b ob q,λb ob q _ _ _=>⟨ob.slots,k b ob q⟩,λ_ _ _ n _=>n,λb ob q _=>⟨ob,k b ob q⟩,λ_ _ q=>q,λ_ _ _ q=>q,λ_ ps q=>⟨#[],by rw[q];simp⟩⟩
theorem Un.refl:Un fs ex H H h h:=Un.kept λ_ _ q=>q
theorem Un.laid(k:∀b u,h.get? b=some u->h'.get? b=some u)(hp:h.objs.size<=a)(hn:H a=none):Un fs ex H (upd H a o) h h' where
 keep:=λb u q _ _ _=>k b u q
 slot:=λb u q _ _ _=>⟨u.slots,k b u q⟩
 free:=λb u q n _=>by rw[C1 (ne_of_lt (Nat.lt_of_lt_of_le (lt_size q) hp))];exact n
 there:=λb u q _=>⟨u,k b u q⟩
 tups:=λb xs q=>by rw[C1 (B8 q hn)];exact q
 frzs:=λb u xs q=>by rw[C1 (B8 q hn)];exact q
 tbls:=λb ps q=>⟨#[],by rw[C1 (B8 q hn),q];simp⟩
theorem Un.write(mu:Mut (H x))(he:e=x\/H e=some (.own x))(k:∀b u,b≠e->h.get? b=some u->h'.get? b=some u)(heo:∃u,h'.get? e=some u):Un fs ex H (upd H x o) h h':=by
 have hx:∀b,H b=none->b≠x:=λb n z=>by subst z;rw[n]at mu;exact mu
 have hb:∀b,H b=none->b≠e:=λb n z=>by
  subst z
  rcases he with r|r
  ·exact hx b n r
  ·rw[n]at r;cases r
 have hm:∀b u,H b=some u->¬Mut (some u)->b≠x:=λb u q nm z=>by subst z;rw[q]at mu;exact nm mu
 refine⟨λb u q n _ _=>k b u (hb b n) q,λb u q n _ _=>⟨u.slots,k b u (hb b n) q⟩,λb u q n _=>by rw[C1 (hx b n)];exact n,λb u q _=> ?_,
  λb xs q=>by rw[C1 (hm b _ q λz=>z)];exact q,λb u xs q=>by rw[C1 (hm b _ q λz=>z)];exact q,λb ps q=>⟨#[],by rw[C1 (hm b _ q λz=>z),q];simp⟩⟩
 by_cases hbe:b=e
 ·subst hbe;exact heo
 ·exact⟨u,k b u hbe q⟩
end
def trk(h:Heap)(H:Hp):List Addr:=(List.range h.objs.size).filter λa=>(H a).isSome
def LP(h:Heap)(H:Hp):Heap:=hideAll h (trk h H)
theorem XD(h:Heap)(H:Hp):(LP h H).objs.size=h.objs.size:=PySem.W.hideAll_size _ _
theorem aoZ{h:Heap}{H:Hp}{b:Addr}{o:Obj}(e:h.get? b=some o)(n:H b=none):(LP h H).get? b=some o:=
 hideAll_get _ e λhm=>by
  have q:(H b).isSome=true:=(List.mem_filter.mp hm).2
  rw[n]at q;simp at q
theorem beZ{h:Heap}{H:Hp}{b:Addr}{o:Obj}(e:(LP h H).get? b=some o):h.get? b=some o/\H b=none:=by
 have e':h.get? b=some o:=of_hideAll (trk h H) e
 refine⟨e', ?_⟩
 cases q:H b with
 |none=>rfl
 |some x=>
  have hm:b∈trk h H:=List.mem_filter.mpr ⟨List.mem_range.mpr (lt_size e'),by simp[q]⟩
  have z:(LP h H).get? b=none:=hideAll_none (trk h H) hm
  rw[z]at e;cases e
structure Mod (K:FZ) (mg:Str->Option Value) (base:Heap):Prop where
 kin:K.In base
 glob:base.Ns mainGlobals mg
 blt:∃mb,base.Ns builtinsNs mb/\∀x:Str,x≠ "__name__"->mb x=bootBuiltins x
 nolimit:base.NoLimit
structure Cx where
 prog:Program
 w:World
 K:FZ
 mg:Str->Option Value
 base:Heap
 A:Around
 N:List Str
 s₀:Shared
 H₀:Hp
 env:Env
 outer:List Env
 stack:List Env
 ex:List Addr
 fn:Str->Bool
 calm:Bool
 pn:List (Addr×Obj)
 xe:Value->Shared->Prop
def frs(l:List Env):List Addr:=l.filterMap (·.frame)
abbrev Cx.fs(X:Cx):List Addr:=frs X.outer
def Vis(sc:Scope)(x:Str):Prop:=sc.names.lookup x=some .local\/sc.names.lookup x=some .cell\/sc.names.lookup x=some .free
def Loc(sc:Scope)(x:Str):Prop:=sc.names.lookup x=some .local\/sc.names.lookup x=some .cell
def edZ(env:Env)(h:Heap)(m:Str->Option Value)(x:Str)(u:Value):Prop:=
 (env.kindOf x=some .local/\m x=some u)\/((env.kindOf x=some .cell\/env.kindOf x=some .free)/\∃c,env.cells.lookup x=some c/\h.IsCell c (some u))
structure Cx.Ok (X:Cx):Prop where
 mod:Mod X.K X.mg X.base
 kind:X.env.scope.kind=.function
 glob:X.env.globals=mainGlobals
 blt:X.env.builtins=builtinsNs
 above:X.s₀.heap.objs.size<=X.env.locals
 inj:∀x y c,X.env.cells.lookup x=some c->X.env.cells.lookup y=some c->x=y
 has:∀x,(X.env.kindOf x=some .cell\/X.env.kindOf x=some .free)->∃c,X.env.cells.lookup x=some c
 cab:∀x c,X.fn x=true->X.env.cells.lookup x=some c->X.s₀.heap.objs.size<=c
 hd:X.calm=true->X.A.handled=none
 frames:X.A.frames=some X.stack
 stk:X.stack=X.outer\/(X.stack=X.env::X.outer/\X.env.frame=some X.env.locals)
 exf:∀b∈X.ex,b≠X.env.locals/\∀x c,X.env.cells.lookup x=some c->c≠b
 bs:∀b o,X.base.get? b=some o->X.s₀.heap.get? b=some o/\X.H₀ b=none
 bsz:X.base.objs.size<=X.s₀.heap.objs.size
 noex:∀b o,X.base.get? b=some o->b∉X.ex
 exfs:∀b∈X.ex,b∉X.fs
 funs:X.s₀.heap.FunFrames X.base X.outer
 frf:∀b∈X.fs,X.H₀ b=none
structure Inv (X:Cx) (pins:List (Addr×Obj)) (σ:List (Option V)) (H:Hp) (s:Shared):Prop where
 ok:X.Ok
 os:s.os=X.s₀.os
 bare:AllBare s.gens
 base:Un X.fs X.ex X.H₀ H X.s₀.heap s.heap
 loc:∃m,s.heap.Ns X.env.locals m/\∀(i:Nat) (x:Str) (v:V),X.N[i]? =some x->σ[i]? =some (some v)->Vis X.env.scope x->∃u,RelV v u/\edZ X.env s.heap m x u
 cell:∀x c,X.env.cells.lookup x=some c->∃v,s.heap.IsCell c v
 free:H X.env.locals=none
 freeC:∀x c,X.env.cells.lookup x=some c->H c=none
 pin:∀p∈X.pn++pins,s.heap.get? p.1=some p.2/\H p.1=none/\p.1≠X.env.locals/\p.1∉X.fs/\∀v,p.2.data≠ .cell v
 hok:HOk X.prog X.w H s.heap
 len:σ.length=X.N.length
section
variable{X:Cx}{pins:List (Addr×Obj)}{σ:List (Option V)}{H H':Hp}{s:Shared}{h':Heap}
theorem Cx.Ok.nofr(ok:X.Ok){b:Addr}{o:Obj}(e:X.base.get? b=some o):b∉X.fs:=λhb=>by
 have:=(ok.funs.mem hb).1
 rw[e]at this;cases this
theorem Inv.bs(I:Inv X pins σ H s):∀b o,X.base.get? b=some o->s.heap.get? b=some o/\H b=none:=λb o e=>
 ⟨I.base.keep b o (I.ok.bs b o e).1 (I.ok.bs b o e).2 (I.ok.nofr e) (I.ok.noex b o e),I.base.free b o (I.ok.bs b o e).1 (I.ok.bs b o e).2 (I.ok.noex b o e)⟩
theorem Inv.bk(I:Inv X pins σ H s):∀b o,X.base.get? b=some o->s.heap.get? b=some o:=λb o e=>(I.bs b o e).1
theorem Inv.mod(I:Inv X pins σ H s):Mod X.K X.mg X.base:=I.ok.mod
theorem Inv.kIn(I:Inv X pins σ H s):X.K.In s.heap:=I.ok.mod.kin.keeps I.bk
theorem Inv.lt(I:Inv X pins σ H s):X.env.locals<s.heap.objs.size:=let⟨_,hn,_⟩:=I.loc;hn.lt
theorem Inv.sz(I:Inv X pins σ H s):X.s₀.heap.objs.size<=s.heap.objs.size:=le_trans I.ok.above (le_of_lt I.lt)
theorem Inv.nofs(I:Inv X pins σ H s){a:Addr}(h:s.heap.objs.size<=a):a∉X.fs:=λhb=>by
 obtain⟨_,o,ho,_⟩:=I.ok.funs.mem hb
 exact absurd (Nat.lt_of_lt_of_le (lt_size ho) (le_trans I.sz h)) (lt_irrefl _)
theorem Inv.cne(I:Inv X pins σ H s):∀x c,X.env.cells.lookup x=some c->c≠X.env.locals:=λx c e z=>by
 obtain⟨v,o,ho,hd⟩:=I.cell x c e
 obtain⟨m,⟨o',es,ep,ho',hd',_⟩,_⟩:=I.loc
 rw[z,ho']at ho;cases ho;rw[hd']at hd;cases hd
theorem Inv.funs(I:Inv X pins σ H s):s.heap.FunFrames X.base X.outer:=by
 have all:∀(l:List Env),(∀b∈frs l,b∈X.fs)->X.s₀.heap.FunFrames X.base l->s.heap.FunFrames X.base l:=by
  intro l
  induction l with
  |nil=>intro _ _;trivial
  |cons env r ih=>
   intro hs hl
   obtain⟨hk,⟨L,o,hf,hn,ho,hd⟩,hr⟩:=hl
   have hL:L∈X.fs:=hs L (by unfold frs;rw[filterMap_cons,hf];exact mem_cons_self)
   obtain⟨sl,e⟩:=I.base.slot L o ho (I.ok.frf L hL) hL λz=>I.ok.exfs L z hL
   exact⟨hk,⟨L,_,hf,hn,e,hd⟩,ih (λb hb=>hs b (by unfold frs;rw[filterMap_cons,hf];exact mem_cons_of_mem _ hb)) hr⟩
 exact all X.outer (λ_ hb=>hb) I.ok.funs
theorem Inv.stack(I:Inv X pins σ H s):s.heap.FunFrames X.base X.stack:=by
 rcases I.ok.stk with e|⟨e,hf⟩
 ·rw[e];exact I.funs
 ·rw[e]
  obtain⟨m,hn,_⟩:=I.loc
  refine .cons (by rw[I.ok.kind];decide) hf hn ?_ I.funs
  exact Heap.get?_none_of_le (le_trans I.ok.bsz I.ok.above)
theorem Inv.stkSub(I:Inv X pins σ H s):∀b∈frs X.stack,b∈X.env.locals::X.fs:=λb hb=>by
 rcases I.ok.stk with e|⟨e,hf⟩
 ·rw[e]at hb;exact mem_cons_of_mem _ hb
 ·rw[e]at hb
  unfold frs at hb
  rw[filterMap_cons,hf]at hb
  exact hb
theorem Inv.stkFree(I:Inv X pins σ H s):∀b∈frs X.stack,H b=none:=λb hb=>by
 rcases cZ (I.stkSub b hb)with e|hb
 ·rw[e];exact I.free
 ·obtain⟨_,o,ho,_⟩:=I.ok.funs.mem hb
  exact I.base.free b o ho (I.ok.frf b hb) λz=>I.ok.exfs b z hb
theorem Inv.step{g':Array GenState}{t':Nat}{d':Drawn}{ch:List Addr}(I:Inv X pins σ H s)
  (hch:∀b∈ch,(b∈X.ex\/X.s₀.heap.objs.size<=b)/\b≠X.env.locals/\(∀x c,X.env.cells.lookup x=some c->c≠b)/\∀p∈X.pn++pins,p.1≠b)
  (keep:∀b o,b≠X.env.locals->b∉X.fs->b∉ch->s.heap.get? b=some o->H b=none->h'.get? b=some o)
  (slot:∀b o,b≠X.env.locals->b∈X.fs->b∉ch->s.heap.get? b=some o->H b=none->∃sl,h'.get? b=some {o with slots:=sl})(free:∀b o,b∉ch->s.heap.get? b=some o->H b=none->H' b=none)
  (there:∀b o,b∉ch->s.heap.get? b=some o->∃o',h'.get? b=some o')
  (tups:∀b xs,H b=some (.tup xs)->H' b=some (.tup xs))(frzs:∀b o u,H b=some (.frz o u)->H' b=some (.frz o u))(tbls:∀b ps,H b=some (.tbl ps)->∃more,H' b=some (.tbl (ps++more)))
  (ns:∀m,s.heap.Ns X.env.locals m->h'.Ns X.env.locals m)(hok:HOk X.prog X.w H' h')(hg:AllBare g'):
  Inv X pins σ H' {s with heap:=h',gens:=g',drawn:=d',toks:=t'}:=by
 have neL:∀b o,X.s₀.heap.get? b=some o->b≠X.env.locals:=λb o e=>ne_of_lt (Nat.lt_of_lt_of_le (lt_size e) I.ok.above)
 have neC:∀b o,X.s₀.heap.get? b=some o->b∉X.ex->b∉ch:=λb o e hx hb=>by
  rcases(hch b hb).1 with z|z
  ·exact hx z
  ·exact absurd (Nat.lt_of_lt_of_le (lt_size e) z) (lt_irrefl _)
 have cellK:∀x c,X.env.cells.lookup x=some c->∀v,s.heap.IsCell c v->h'.IsCell c v:=λx c e v ⟨o,ho,hd⟩=>by
  have nch:c∉ch:=λz=>(hch c z).2.2.1 x c e rfl
  by_cases hc:c∈X.fs
  ·obtain⟨sl,q⟩:=slot c o (I.cne x c e) hc nch ho (I.freeC x c e)
   exact⟨_,q,hd⟩
  ·exact⟨o,keep c o (I.cne x c e) hc nch ho (I.freeC x c e),hd⟩
 refine⟨I.ok,I.os,hg,⟨λb o e n hb hx=> ?_,λb o e n hb hx=> ?_,λb o e n hx=> ?_,λb o e hx=> ?_,λb xs e=>tups b xs (I.base.tups b xs e),λb o xs e=>frzs b o xs (I.base.frzs b o xs e),λb ps e=> ?_⟩, ?_,λx c e=> ?_, ?_,λx c e=> ?_,λp hp=> ?_,hok,I.len⟩
 ·exact keep b o (neL b o e) hb (neC b o e hx) (I.base.keep b o e n hb hx) (I.base.free b o e n hx)
 ·obtain⟨sl,e1⟩:=I.base.slot b o e n hb hx
  obtain⟨sl',e2⟩:=slot b _ (neL b o e) hb (neC b o e hx) e1 (I.base.free b o e n hx)
  exact⟨sl',e2⟩
 ·obtain⟨o',e1⟩:=I.base.there b o e hx
  exact free b o' (neC b o e hx) e1 (I.base.free b o e n hx)
 ·obtain⟨o',e1⟩:=I.base.there b o e hx
  exact there b o' (neC b o e hx) e1
 ·obtain⟨m1,e1⟩:=I.base.tbls b ps e
  obtain⟨m2,e2⟩:=tbls b _ e1
  exact⟨m1++m2,by rw[e2,Array.append_assoc]⟩
 ·obtain⟨m,hn,hl⟩:=I.loc
  refine⟨m,ns m hn,λi x v e1 e2 e3=> ?_⟩
  obtain⟨u,r,l⟩:=hl i x v e1 e2 e3
  refine⟨u,r, ?_⟩
  rcases l with l|⟨k,c,e,z⟩
  ·exact .inl l
  ·exact .inr ⟨k,c,e,cellK x c e _ z⟩
 ·obtain⟨v,z⟩:=I.cell x c e
  exact⟨v,cellK x c e v z⟩
 ·obtain⟨m,⟨o,_,_,ho,_⟩,_⟩:=I.loc
  exact free _ o (λz=>(hch _ z).2.1 rfl) ho I.free
 ·obtain⟨v,o,ho,hd⟩:=I.cell x c e
  exact free c o (λz=>(hch c z).2.2.1 x c e rfl) ho (I.freeC x c e)
 ·obtain⟨e,n,ne,nf,d⟩:=I.pin p hp
  have nch:p.1∉ch:=λz=>(hch p.1 z).2.2.2 p hp rfl
  exact⟨keep p.1 p.2 ne nf nch e n,free p.1 p.2 nch e n,ne,nf,d⟩
theorem Inv.un{t':Nat}(I:Inv X pins σ H s)(u:Un X.fs [] H H' s.heap h')(hok:HOk X.prog X.w H' h'):Inv X pins σ H' {s with heap:=h',toks:=t'}:=by
 obtain⟨m,⟨o,es,ep,ho,r⟩,_⟩:=id I.loc
 obtain⟨sl,hL⟩:=u.any ho I.free (by simp)
 exact I.step (g':=s.gens) (d':=s.drawn) (ch:=[]) (λ_ z=>nomatch z) (λb o _ hb _ e n=>u.keep b o e n hb (by simp)) (λb o _ hb _ e n=>u.slot b o e n hb (by simp)) (λb o _ e n=>u.free b o e n (by simp)) (λb o _ e=>u.there b o e (by simp)) u.tups u.frzs u.tbls (λm' hm=>by
  obtain⟨o',es',ep',ho',r'⟩:=hm
  rw[ho]at ho';cases ho'
  exact⟨_,es',ep',hL,r'⟩) hok I.bare
theorem Inv.call{g':Array GenState}{t':Nat}{d':Drawn}{ch:List Addr}(I:Inv X pins σ H s)(u:Un (frs X.stack) ch H H' s.heap h')(hok:HOk X.prog X.w H' h')(hg:AllBare g')
  (hch:∀b∈ch,(b∈X.ex\/X.s₀.heap.objs.size<=b)/\b≠X.env.locals/\(∀x c,X.env.cells.lookup x=some c->c≠b)/\∀p∈X.pn++pins,p.1≠b):
  Inv X pins σ H' {s with heap:=h',gens:=g',drawn:=d',toks:=t'}:=by
 obtain⟨m,⟨o,es,ep,ho,r⟩,_⟩:=id I.loc
 obtain⟨sl,hL⟩:=u.any ho I.free λz=>(hch _ z).2.1 rfl
 exact I.step (ch:=ch) hch (λb o hL hb hc e n=>u.keep b o e n (λz=>(cZ (I.stkSub b z)).elim hL hb) hc) (λb o _ _ hc e n=>u.any e n hc) (λb o hc e n=>u.free b o e n hc) (λb o hc e=>u.there b o e hc) u.tups u.frzs u.tbls (λm' hm=>by
  obtain⟨o',es',ep',ho',r'⟩:=hm
  rw[ho]at ho';cases ho'
  exact⟨_,es',ep',hL,r'⟩) hok hg
theorem Inv.turned{t':Nat}{it:Addr}(I:Inv X pins σ H s)(k:∀b o,b≠it->s.heap.get? b=some o->h'.get? b=some o)(hn:H it=none)(hL:it≠X.env.locals)
  (h1:it∈X.ex\/X.s₀.heap.objs.size<=it)(h2:∀x c,X.env.cells.lookup x=some c->c≠it)(h3:∀p∈X.pn++pins,p.1≠it):Inv X pins σ H {s with heap:=h',toks:=t'}:=by
 have nit:∀b u,H b=some u->b≠it:=λb u e z=>by rw[z,hn]at e;cases e
 refine I.step (g':=s.gens) (d':=s.drawn) (ch:=[it]) (λb hb=> ?_) (λb o _ _ hc e _=>k b o (λz=>hc (by simp[z])) e) (λb o _ _ hc e _=>⟨o.slots,k b o (λz=>hc (by simp[z])) e⟩) (λ_ _ _ _ n=>n)
  (λb o hc e=>⟨o,k b o (λz=>hc (by simp[z])) e⟩) (λ_ _ e=>e) (λ_ _ _ e=>e) (λb ps e=>⟨#[],by rw[e];simp⟩) (λm hm=> ?_) (λb u e=> ?_) I.bare
 ·have e:b=it:=by simpa using hb
  subst e
  exact⟨h1,hL,h2,h3⟩
 ·obtain⟨o,es,ep,ho,r⟩:=hm
  exact⟨o,es,ep,k _ o (Ne.symm hL) ho,r⟩
 ·refine(I.hok b u e).stay (λc v hc q=>k c v ?_ q) (λ_ q=>q) λ_ _ q=>q
  rcases hc with z|z
  ·rw[z];exact nit b u e
  ·exact nit c _ z
theorem Inv.tok(I:Inv X pins σ H s)(t:Nat):Inv X pins σ H {s with toks:=t}:=I.un (h':=s.heap) (t':=t) Un.refl I.hok
theorem Inv.kept{t':Nat}(I:Inv X pins σ H s)(k:∀b u,s.heap.get? b=some u->h'.get? b=some u):Inv X pins σ H {s with heap:=h',toks:=t'}:=I.un (Un.kept k) (I.hok.kept k)
theorem Inv.laid{a:Addr}{o:HO}{t':Nat}(I:Inv X pins σ H s)(k:∀b u,s.heap.get? b=some u->h'.get? b=some u)(hp:s.heap.objs.size<=a)(new:ObjOk X.prog X.w (upd H a o) h' a o):
  Inv X pins σ (upd H a o) {s with heap:=h',toks:=t'}:=I.un (Un.laid k hp (I.hok.fresh hp)) (I.hok.laid k hp new)
theorem Inv.write{x e:Addr}{o:HO}{t':Nat}(I:Inv X pins σ H s)(mu:Mut (H x))(he:e=x\/H e=some (.own x))(k:∀b u,b≠e->s.heap.get? b=some u->h'.get? b=some u)(heo:∃u,h'.get? e=some u)
  (new:ObjOk X.prog X.w (upd H x o) h' x o):Inv X pins σ (upd H x o) {s with heap:=h',toks:=t'}:=I.un (Un.write mu he k heo) (I.hok.write mu he k heo new)
theorem Inv.weak{σ':List (Option V)}(I:Inv X pins σ H s)(hl:σ'.length=σ.length)(w:∀(i:Nat) v,σ'[i]? =some (some v)->σ[i]? =some (some v)):Inv X pins σ' H s:=
 ⟨I.ok,I.os,I.bare,I.base,let⟨m,hn,hl'⟩:=I.loc;⟨m,hn,λi x v e1 e2 e3=>hl' i x v e1 (w i v e2) e3⟩,I.cell,I.free,I.freeC,I.pin,I.hok,hl.trans I.len⟩
theorem Inv.pins_of{pins':List (Addr×Obj)}(I:Inv X pins σ H s)(h:∀p∈pins',s.heap.get? p.1=some p.2/\H p.1=none/\p.1≠X.env.locals/\p.1∉X.fs/\∀v,p.2.data≠ .cell v):Inv X pins' σ H s:=
 ⟨I.ok,I.os,I.bare,I.base,I.loc,I.cell,I.free,I.freeC,λp hp=>(mem_append.mp hp).elim (λz=>I.pin p (mem_append_left _ z)) (h p),I.hok,I.len⟩
theorem IJ{N:List Str}(hN:N.Nodup){i j:Nat}{x:Str}(a:N[i]? =some x)(b:N[j]? =some x):i=j:=by
 obtain⟨h1,e1⟩:=List.getElem?_eq_some_iff.mp a
 obtain⟨h2,e2⟩:=List.getElem?_eq_some_iff.mp b
 exact(List.getElem_inj hN).mp (e1.trans e2.symm)
theorem LE{M:Model}{A:Around}{E:Value->Shared->Prop}{i:Nat}{x:Str}{v:V}{u:Value}{Q:Unit->Shared->Prop}(I:Inv X pins σ H s)(hN:X.N.Nodup)(hi:X.N[i]? =some x)(hx:Loc X.env.scope x)(r:RelV v u)
  (h:∀s',Inv X pins (σ.set i (some v)) H s'->(∃a,Heap.SameBut a s.heap s'.heap/\(a=X.env.locals\/X.env.cells.lookup x=some a))->Q () s')(hf:X.fn x=true\/X.env.scope.names.lookup x=some .local:=by first|exact .inl rfl|exact .inr rfl|assumption):wpAny M A (storeName X.env x u) Q E s:=by
 obtain⟨m,hn,hl⟩:=id I.loc
 have hcls:(X.env.scope.kind==.class||(X.env.scope.kind==.module&&X.env.locals !=X.env.globals))=false:=by rw[I.ok.kind];rfl
 have hiσ:i<σ.length:=by rw[I.len];exact(List.getElem?_eq_some_iff.mp hi).1
 have cne:=I.cne
 have tracked:∀ {a:Addr} {h':Heap},(∃o,s.heap.get? a=some o/\H a=none)->Heap.SameBut a s.heap h'->HOk X.prog X.w H h':=λ{a h'} ha hs b ob e=>by
  obtain⟨_,_,hfree⟩:=ha
  refine(I.hok b ob e).stay (λc w' hc q=>(hs.2 c ?_).trans q) (λ_ q=>q) λ_ _ q=>q
  rintro rfl
  rcases hc with rfl|hc
  ·rw[hfree]at e;cases e
  ·rw[hfree]at hc;cases hc
 rcases hx with hk|hk
 ·refine wpAny_storeName_local hk hn (λh' hn' hs=> ?_) hcls
  obtain⟨oL,_,_,hoL,_⟩:=id hn
  refine h _ ⟨I.ok,I.os,I.bare,⟨λb o e n hb hx=> ?_,λb o e n hb hx=> ?_,I.base.free,λb o e hx=> ?_,I.base.tups,I.base.frzs,I.base.tbls⟩,⟨_,hn',λj y v' e1 e2 e3=> ?_⟩,λy c e=> ?_,I.free,I.freeC,λp hp=> ?_,tracked ⟨oL,hoL,I.free⟩ hs,by simpa using I.len⟩ ⟨_,hs,.inl rfl⟩
  ·exact(hs.2 b (ne_of_lt (Nat.lt_of_lt_of_le (lt_size e) I.ok.above))).trans (I.base.keep b o e n hb hx)
  ·obtain⟨sl,e1⟩:=I.base.slot b o e n hb hx
   exact⟨sl,(hs.2 b (ne_of_lt (Nat.lt_of_lt_of_le (lt_size e) I.ok.above))).trans e1⟩
  ·obtain⟨o',e1⟩:=I.base.there b o e hx
   exact⟨o',(hs.2 b (ne_of_lt (Nat.lt_of_lt_of_le (lt_size e) I.ok.above))).trans e1⟩
  ·by_cases hj:j=i
   ·subst hj
    rw[hi]at e1;cases e1
    rw[getElem?_set_self hiσ]at e2
    cases e2
    exact⟨u,r,.inl ⟨hk,by simp⟩⟩
   ·rw[getElem?_set_ne (Ne.symm hj)]at e2
    obtain⟨u',r',q⟩:=hl j y v' e1 e2 e3
    refine⟨u',r', ?_⟩
    rcases q with⟨k,e⟩|⟨k,c,e,z⟩
    ·refine .inl ⟨k, ?_⟩
     have:y≠x:=λe=>hj (IJ hN e1 (e▸hi))
     simp[this,e]
    ·exact .inr ⟨k,c,e,z.sameBut hs (cne y c e)⟩
  ·obtain⟨w',z⟩:=I.cell y c e
   exact⟨w',z.sameBut hs (cne y c e)⟩
  ·obtain⟨e,n,ne,nf,d⟩:=I.pin p hp
   exact⟨(hs.2 p.1 ne).trans e,n,ne,nf,d⟩
 ·have hfn:X.fn x=true:=by
   rcases hf with z|z
   ·exact z
   ·rw[z]at hk;cases hk
  obtain⟨c,hc⟩:=I.ok.has x (.inl hk)
  obtain⟨w',z⟩:=I.cell x c hc
  refine wpAny_storeName_cell I.ok.kind hk hc z (λh' hc' hs=> ?_)
  obtain⟨oc,hoc,hocd⟩:=id z
  refine h {s with heap:=h'} ⟨I.ok,I.os,I.bare,⟨λb o e n hb hx=> ?_,λb o e n hb hx=> ?_,I.base.free,λb o e hx=> ?_,I.base.tups,I.base.frzs,I.base.tbls⟩,⟨m,hn.sameBut hs (Ne.symm (cne x c hc)),λj y v' e1 e2 e3=> ?_⟩,λy c' e=> ?_,I.free,I.freeC,λp hp=> ?_,tracked ⟨oc,hoc,I.freeC x c hc⟩ hs,by simpa using I.len⟩ ⟨c,hs,.inr hc⟩
  ·exact(hs.2 b (ne_of_lt (Nat.lt_of_lt_of_le (lt_size e) (I.ok.cab x c hfn hc)))).trans (I.base.keep b o e n hb hx)
  ·obtain⟨sl,e1⟩:=I.base.slot b o e n hb hx
   exact⟨sl,(hs.2 b (ne_of_lt (Nat.lt_of_lt_of_le (lt_size e) (I.ok.cab x c hfn hc)))).trans e1⟩
  ·obtain⟨o',e1⟩:=I.base.there b o e hx
   exact⟨o',(hs.2 b (ne_of_lt (Nat.lt_of_lt_of_le (lt_size e) (I.ok.cab x c hfn hc)))).trans e1⟩
  ·by_cases hj:j=i
   ·subst hj
    rw[hi]at e1;cases e1
    rw[getElem?_set_self hiσ]at e2
    cases e2
    exact⟨u,r,.inr ⟨.inl hk,c,hc,hc'⟩⟩
   ·rw[getElem?_set_ne (Ne.symm hj)]at e2
    obtain⟨u',r',q⟩:=hl j y v' e1 e2 e3
    refine⟨u',r', ?_⟩
    rcases q with q|⟨k,c',e,z'⟩
    ·exact .inl q
    ·refine .inr ⟨k,c',e,z'.sameBut hs ?_⟩
     rintro rfl
     exact hj (IJ hN e1 (I.ok.inj _ _ _ e hc▸hi))
  ·by_cases hcc:c'=c
   ·subst hcc;exact⟨_,hc'⟩
   ·obtain⟨w2,z2⟩:=I.cell y c' e
    exact⟨w2,z2.sameBut hs hcc⟩
  ·obtain⟨e,n,ne,nf,d⟩:=I.pin p hp
   refine⟨(hs.2 p.1 ?_).trans e,n,ne,nf,d⟩
   intro q
   rw[q,hoc]at e
   have q':oc=p.2:=Option.some.inj e
   exact d w' (by rw[<-q'];exact hocd)
theorem Y9{M:Model}{A:Around}{E:Value->Shared->Prop}{i:Nat}{x:Str}{v:V}{u:Value}{Q:Unit->Shared->Prop}(I:Inv X pins σ H s)(hN:X.N.Nodup)(hi:X.N[i]? =some x)(hx:Loc X.env.scope x)(r:RelV v u)
  (h:∀s',Inv X pins (σ.set i (some v)) H s'->Q () s')(hf:X.fn x=true\/X.env.scope.names.lookup x=some .local:=by first|exact .inl rfl|exact .inr rfl|assumption):wpAny M A (storeName X.env x u) Q E s:=
 LE I hN hi hx r (λs' I' _=>h s' I') hf
theorem Inv.call'{s':Shared}{ch:List Addr}(I:Inv X pins σ H s)(ho:s'.os=s.os)(u:Un (frs X.stack) ch H H' s.heap s'.heap)(hok:HOk X.prog X.w H' s'.heap)(hg:AllBare s'.gens)
  (hch:∀b∈ch,(b∈X.ex\/X.s₀.heap.objs.size<=b)/\b≠X.env.locals/\(∀x c,X.env.cells.lookup x=some c->c≠b)/\∀p∈X.pn++pins,p.1≠b):Inv X pins σ H' s':=by
 obtain⟨h',g',d',t',o'⟩:=s'
 have e:o'=s.os:=ho
 subst e
 exact I.call (g':=g') (t':=t') (d':=d') u hok hg hch
end
abbrev XK:=Value->Option Addr->Hp->Prop
abbrev St:=List (Option V)
abbrev VK:=V->Hp->Prop
abbrev TE:=St->Hp->VK->Prop
abbrev TT:=St->Hp->(Bool->Hp->Prop)->Prop
abbrev TA:=St->Hp->(List V->Hp->Prop)->Prop
structure Ends where
 nx:St->Hp->Prop
 rt:VK
 bk:St->Hp->Prop:=λ_ _=>False
 ct:St->Hp->Prop:=λ_ _=>False
abbrev TS:=Ends->St->Hp->Prop
def EP(X:Cx)(pins:List (Addr×Obj))(σ:St)(Q:VK)(u:Value)(s':Shared):Prop:=∃v H',Inv X pins σ H' s'/\RelV v u/\Q v H'
def TP(X:Cx)(pins:List (Addr×Obj))(σ:St)(Q:Bool->Hp->Prop)(b:Bool)(s':Shared):Prop:=∃H',Inv X pins σ H' s'/\Q b H'
def AP(X:Cx)(pins:List (Addr×Obj))(σ:St)(Q:List V->Hp->Prop)(us:List Value)(s':Shared):Prop:=∃vs H',Inv X pins σ H' s'/\Vals vs us/\Q vs H'
def SP(X:Cx)(pins:List (Addr×Obj))(D:Ends)(f:Flow)(s':Shared):Prop:=
 match f with
 | .next=>∃σ' H',Inv X pins σ' H' s'/\D.nx σ' H'
 | .brk=>∃σ' H',Inv X pins σ' H' s'/\D.bk σ' H'
 | .cont=>∃σ' H',Inv X pins σ' H' s'/\D.ct σ' H'
 | .ret u=>∃v σ' H',Inv X pins σ' H' s'/\RelV v u/\D.rt v H'
def PE(X:Cx)(e:Expr)(t:TE):Prop:=
 ∀(pins:List (Addr×Obj)) (s:Shared) (σ:St) (H:Hp) (Q:VK),Inv X pins σ H s->t σ H Q->wpAny (model X.prog X.w) X.A (eval e X.env) (EP X pins σ Q) X.xe s
def PT(X:Cx)(e:Expr)(t:TT):Prop:=
 ∀(pins:List (Addr×Obj)) (s:Shared) (σ:St) (H:Hp) (Q:Bool->Hp->Prop),Inv X pins σ H s->t σ H Q->wpAny (model X.prog X.w) X.A (isTrue e X.env (eval e X.env)) (TP X pins σ Q) X.xe s
def PW(X:Cx)(e:Expr)(t:TT):Prop:=
 ∀(whole:Sem Value) (pins:List (Addr×Obj)) (s:Shared) (σ:St) (H:Hp) (Q:Bool->Hp->Prop),Inv X pins σ H s->t σ H Q->wpAny (model X.prog X.w) X.A (isTrue e X.env whole) (TP X pins σ Q) X.xe s
theorem PW.pt{X:Cx}{e:Expr}{t:TT}(h:PW X e t):PT X e t:=h _
def PA(X:Cx)(es:List Expr)(t:TA):Prop:=
 ∀(pos:Pos) (pins:List (Addr×Obj)) (s:Shared) (σ:St) (H:Hp) (Q:List V->Hp->Prop),Inv X pins σ H s->t σ H Q->wpAny (model X.prog X.w) X.A (spliced (backTo pos (starEach es X.env))) (AP X pins σ Q) X.xe s
def PS(X:Cx)(st:Stmt)(t:TS):Prop:=
 ∀(pins:List (Addr×Obj)) (s:Shared) (σ:St) (H:Hp) (D:Ends),Inv X pins σ H s->t D σ H->wpAny (model X.prog X.w) X.A (exec st X.env) (SP X pins D) X.xe s
def PSs(X:Cx)(st:List Stmt)(t:TS):Prop:=
 ∀(pins:List (Addr×Obj)) (s:Shared) (σ:St) (H:Hp) (D:Ends),Inv X pins σ H s->t D σ H->wpAny (model X.prog X.w) X.A (execs st X.env) (SP X pins D) X.xe s
theorem thn{α:Type}{t:Sem α}{Q Q':α->Shared->Prop}{M:Model}{A:Around}{E:Value->Shared->Prop}{s:Shared}(h:wpAny M A t Q E s)(hQ:∀a s,Q a s->Q' a s):wpAny M A t Q' E s:=wpAny_mono h hQ λ_ _ x=>x
section
variable{X:Cx}
inductive tVar(i:Nat)(σ:St)(H:Hp)(Q:VK):Prop
 |mk:∀v,(σ[i]? =some (some v))->(Q v H)->tVar i σ H Q
def tC(v:V):TE:=λ_ H Q=>Q v H
theorem cYZ{i:Nat}{x:Str}{pos:Pos}(hN:X.N[i]? =some x)(hv:Vis X.env.scope x)(hd:(x==("__debug__":Str))=false:=by decide)(hcd:(x==("__classdict__":Str))=false:=by decide):PE X (.Name x pos) (tVar i):=by
 intro pins s σ H Q I h
 obtain⟨v,e,h⟩:=h
 obtain⟨m,hn,hl⟩:=I.loc
 obtain⟨u,r,l⟩:=hl i x v hN e hv
 have fin:EP X pins σ Q u s:=⟨v,H,I,r,h⟩
 rcases l with⟨hk,hm⟩|⟨hk,c,hc,hcell⟩
 ·exact wpAny_Name (wpAny_loadName_local I.ok.kind hk hn hm fin) hd
 ·rcases hk with hk|hk
  ·exact wpAny_Name (wpAny_loadName_cell I.ok.kind hk hc hcell fin) hd
  ·exact wpAny_Name (wpAny_loadName_free I.ok.kind hk hc hcell fin hcd) hd
theorem A4{i j pos}:PE X (.Constant (.int i) j pos) (tC (.int i)):=λ_ _ _ H _ I h=>wpAny_Constant_int ⟨.int i,H,I.tok _,⟨_,rfl⟩,h⟩
theorem BR{b j pos}:PE X (.Constant (.bool b) j pos) (tC (.bl b)):=λ_ _ _ H _ I h=>Constant_bool ⟨.bl b,H,I,rfl,h⟩
theorem MS{j pos}:PE X (.Constant .none j pos) (tC .non):=λ_ _ _ H _ I h=>Constant_none ⟨.non,H,I,rfl,h⟩
theorem A9{x j pos}:PE X (.Constant (.str x) j pos) (tC (.str x)):=λ_ _ _ H _ I h=>Calls.Constant_str ⟨.str x,H,I.tok _,⟨_,rfl⟩,h⟩
def Gl(X:Cx)(x:Str):Prop:=X.env.kindOf x=some .globalImplicit
theorem DC{E:Value->Shared->Prop}{pins:List (Addr×Obj)}{s:Shared}{σ:St}{H:Hp}{x:Str}{u:Value}{pos:Pos}{Q:Value->Shared->Prop}(I:Inv X pins σ H s)(hg:Gl X x)(hm:X.mg x=some u)(h:Q u s)
  (hd:(x==("__debug__":Str))=false:=by decide):wpAny (model X.prog X.w) X.A (eval (.Name x pos) X.env) Q E s:=
 Calls.Name_function_global I.ok.kind hg (Calls.loadGlobal_global (by rw[I.ok.glob];exact I.mod.glob.keeps I.bk) hm h) hd
theorem MN{E:Value->Shared->Prop}{pins:List (Addr×Obj)}{s:Shared}{σ:St}{H:Hp}{x:Str}{u:Value}{pos:Pos}{Q:Value->Shared->Prop}(I:Inv X pins σ H s)(hg:Gl X x)(hm:X.mg x=none)(hv:bootBuiltins x=some u)(h:Q u s)
  (hn:x≠ "__name__":=by decide)(hd:(x==("__debug__":Str))=false:=by decide):wpAny (model X.prog X.w) X.A (eval (.Name x pos) X.env) Q E s:=by
 obtain⟨mb,h1,h2⟩:=I.mod.blt
 exact Calls.Name_function_global I.ok.kind hg (Calls.loadGlobal_builtin (by rw[I.ok.glob];exact I.mod.glob.keeps I.bk) hm (by rw[I.ok.blt];exact h1.keeps I.bk) ((h2 x hn).trans hv) h) hd
theorem C7{x:Str}{v:V}{u:Value}{pos:Pos}(hg:Gl X x)(hm:X.mg x=some u)(r:RelV v u)(hd:(x==("__debug__":Str))=false:=by decide):PE X (.Name x pos) (tC v):=
 λ_ _ _ H _ I h=>DC I hg hm ⟨v,H,I,r,h⟩ hd
theorem UW{x:Str}{v:V}{u:Value}{pos:Pos}(hg:Gl X x)(hm:X.mg x=none)(hv:bootBuiltins x=some u)(r:RelV v u)(hn:x≠ "__name__":=by decide)(hd:(x==("__debug__":Str))=false:=by decide):PE X (.Name x pos) (tC v):=
 λ_ _ _ H _ I h=>MN I hg hm hv ⟨v,H,I,r,h⟩ hn hd
variable{a b:Expr}{ta tb:TE}{pos:Pos}
inductive tBW(Q:Bool->Hp->Prop)(x:V)(H1:Hp):Prop
 |mk:∀c,(x=.bl c)->(Q c H1)->tBW Q x H1
def tB(t:TE):TT:=fun σ H Q=>t σ H λx H1=>tBW Q x H1
variable{tA tB':TT}{rest:List Expr}
def dXZ(t u:TT):TT:=fun σ H Q=>t σ H λc H1=>if c=true then u σ H1 Q else Q false H1
def tOr(t u:TT):TT:=fun σ H Q=>t σ H λc H1=>if c=true then Q true H1 else u σ H1 Q
def ecZ(t:TT):TT:=fun σ H Q=>t σ H λc H1=>Q (!c) H1
theorem S0(ha:PT X a tA):PW X (.BoolOp .And [a] pos) tA:=by
 intro wh pins s σ H Q I h
 refine isTrue_and (thn (ha pins s σ H Q I h) λc s1 e=> ?_)
 cases c with
 |true=>exact isTrue_and_nil e
 |false=>exact e
theorem MB(ha:PT X a tA):PW X (.BoolOp .Or [a] pos) tA:=by
 intro wh pins s σ H Q I h
 refine isTrue_or (thn (ha pins s σ H Q I h) λc s1 e=> ?_)
 cases c with
 |false=>exact isTrue_or_nil e
 |true=>exact e
theorem T4(ha:PT X a tA)(hb:PW X (.BoolOp .And (b::rest) pos) tB'):PW X (.BoolOp .And (a::b::rest) pos) (dXZ tA tB'):=by
 intro wh pins s σ H Q I h
 refine isTrue_and (thn (ha pins s σ H _ I h) λc s1 ⟨H1,I1,q1⟩=> ?_)
 cases c with
 |true=>exact hb wh pins s1 σ H1 Q I1 q1
 |false=>exact⟨H1,I1,q1⟩
theorem HZ(ha:PT X a tA)(hb:PW X (.BoolOp .Or (b::rest) pos) tB'):PW X (.BoolOp .Or (a::b::rest) pos) (tOr tA tB'):=by
 intro wh pins s σ H Q I h
 refine isTrue_or (thn (ha pins s σ H _ I h) λc s1 ⟨H1,I1,q1⟩=> ?_)
 cases c with
 |true=>exact⟨H1,I1,q1⟩
 |false=>exact hb wh pins s1 σ H1 Q I1 q1
theorem LV(ha:PT X a tA):PT X (.UnaryOp .Not a pos) (ecZ tA):=by
 intro pins s σ H Q I h
 exact isTrue_not (ha pins s σ H (λc H1=>Q (!c) H1) I h)
def dkZ(ta tb:TE):TE:=fun σ H Q=>ta σ H λx H1=>∃c,x=.bl c/\if c=true then tb σ H1 Q else Q (.bl false) H1
def d8Z(ta tb:TE):TE:=fun σ H Q=>ta σ H λx H1=>∃c,x=.bl c/\if c=true then Q (.bl true) H1 else tb σ H1 Q
theorem LT{op}{t:TE}(h:PE X a t):PE X (.BoolOp op [a] pos) t:=λpins s σ H Q I hw=>BoolOp_one (h pins s σ H Q I hw)
theorem YI(ha:PE X a ta)(hb:PE X (.BoolOp .And (b::rest) pos) tb):PE X (.BoolOp .And (a::b::rest) pos) (dkZ ta tb):=by
 intro pins s σ H Q I h
 refine BoolOp_and (thn (ha pins s σ H _ I h) λv s1 ⟨x,H1,I1,r1,q1⟩=> ?_)
 obtain⟨c,rfl,q1⟩:=q1
 cases r1
 refine wpAny_truthy_bool ?_
 cases c with
 |true=>exact hb pins s1 σ H1 Q I1 q1
 |false=>exact⟨.bl false,H1,I1,rfl,q1⟩
theorem bMZ(ha:PE X a ta)(hb:PE X (.BoolOp .Or (b::rest) pos) tb):PE X (.BoolOp .Or (a::b::rest) pos) (d8Z ta tb):=by
 intro pins s σ H Q I h
 refine BoolOp_or (thn (ha pins s σ H _ I h) λv s1 ⟨x,H1,I1,r1,q1⟩=> ?_)
 obtain⟨c,rfl,q1⟩:=q1
 cases r1
 refine wpAny_truthy_bool ?_
 cases c with
 |false=>exact hb pins s1 σ H1 Q I1 q1
 |true=>exact⟨.bl true,H1,I1,rfl,q1⟩
end
def SqL(K:FZ)(H:Hp)(a:Addr)(xs:List V):Prop:=
 Rd H a (.lst xs)\/
  ∃(o:Obj) (its:Array Value) (n:Nat),K.lookup a=some o/\o.cls=.type "list"/\o.dict=none/\o.data=.seq its n/\its.size<=sizeLine/\Vals xs its.toList
def SqT(K:FZ)(H:Hp)(a:Addr)(xs:List V):Prop:=
 Rd H a (.tup xs)\/
  ∃(o:Obj) (its:Array Value) (n:Nat),K.lookup a=some o/\o.cls=.type "tuple"/\o.data=.seq its n/\its.size<=sizeLine/\Vals xs its.toList
def erZ:Value->Option V
 | .none=>some .non
 | .bool b=>some (.bl b)
 | .int i _=>some (.int i)
 | .str x _=>some (.str x)
 | .bytes b _=>some (.byt b)
 | .float b _=>some (.flt b)
 | .ref a=>some (.ref a)
 | .type n=>some (.ty n)
 |_=>none
theorem RelV.abs{x:V}{u:Value}(r:RelV x u):erZ u=some x:=by
 cases x with
 |non=>cases r;rfl
 |bl _=>cases r;rfl
 |int _=>obtain⟨t,rfl⟩:=r;rfl
 |str _=>obtain⟨t,rfl⟩:=r;rfl
 |byt _=>obtain⟨t,rfl⟩:=r;rfl
 |flt _=>obtain⟨t,rfl⟩:=r;rfl
 |ref _=>cases r;rfl
 |ty _=>cases r;rfl
theorem RelV.inj{x y:V}{u:Value}(r:RelV x u)(q:RelV y u):x=y:=Option.some.inj (r.abs.symm.trans q.abs)
theorem Vals.inj:∀ {xs ys:List V} {us:List Value},Vals xs us->Vals ys us->xs=ys
 |_,_,_,.nil,.nil=>rfl
 |_,_,_,.cons r t,.cons r' t'=>by rw[r.inj r',Vals.inj t t']
section
variable{X:Cx}{pins:List (Addr×Obj)}{σ:St}{H:Hp}{s:Shared}{a:Addr}{xs ys:List V}
theorem SqL.of{K:FZ}(h:H a=some (.lst xs)):SqL K H a xs:=.inl (.inl h)
theorem SqT.of{K:FZ}(h:H a=some (.tup xs)):SqT K H a xs:=.inl (.inl h)
theorem Inv.list(I:Inv X pins σ H s)(h:SqL X.K H a xs):∃its:List Value,Vals xs its/\PlainL s.heap a its.toArray/\xs.length<=sizeLine:=by
 rcases h with h|⟨o,its,n,hk,hc,hd,hs,hz,r⟩
 ·obtain⟨z,its,n,r,e⟩:=h.ok I.hok
  exact⟨its,r,⟨_,n,e,rfl,rfl,rfl⟩,z⟩
 ·refine⟨its.toList,r,⟨o,n,I.kIn a o hk,hc,hd,by simpa using hs⟩, ?_⟩
  have e:=r.length
  simp only[Array.length_toList]at e
  omega
theorem Inv.tuple(I:Inv X pins σ H s)(h:SqT X.K H a xs):∃its:List Value,Vals xs its/\IsTup s.heap a its.toArray/\xs.length<=sizeLine:=by
 rcases h with h|⟨o,its,n,hk,hc,hs,hz,r⟩
 ·obtain⟨z,its,r,p⟩:=h.ok I.hok
  exact⟨its,r,p,z⟩
 ·refine⟨its.toList,r,⟨o,I.kIn a o hk,hc,n,by simpa using hs⟩, ?_⟩
  have e:=r.length
  simp only[Array.length_toList]at e
  omega
theorem Inv.list_inj(I:Inv X pins σ H s)(h:SqL X.K H a xs)(h':SqL X.K H a ys):xs=ys:=by
 obtain⟨its,r,⟨o,n,e,_,_,d⟩,_⟩:=I.list h
 obtain⟨its',r',⟨o',n',e',_,_,d'⟩,_⟩:=I.list h'
 rw[e]at e';cases e'
 rw[d]at d'
 injection d' with d1 _
 have:its=its':=by simpa using congrArg Array.toList d1
 subst this
 exact r.inj r'
theorem Inv.tuple_inj(I:Inv X pins σ H s)(h:SqT X.K H a xs)(h':SqT X.K H a ys):xs=ys:=by
 obtain⟨its,r,⟨o,e,_,n,d⟩,_⟩:=I.tuple h
 obtain⟨its',r',⟨o',e',_,n',d'⟩,_⟩:=I.tuple h'
 rw[e]at e';cases e'
 rw[d]at d'
 injection d' with d1 _
 have:its=its':=by simpa using congrArg Array.toList d1
 subst this
 exact r.inj r'
end
abbrev Cx.wish(X:Cx)(E:Value->Shared->Prop):Cx:={X with xe:=E}
abbrev Cx.nox(X:Cx):Cx:=X.wish λ_ _=>False
theorem Cx.Ok.wish{X:Cx}(ok:X.Ok)(E:Value->Shared->Prop):(X.wish E).Ok:=
 ⟨ok.mod,ok.kind,ok.glob,ok.blt,ok.above,ok.inj,ok.has,ok.cab,ok.hd,ok.frames,ok.stk,ok.exf,ok.bs,ok.bsz,ok.noex,ok.exfs,ok.funs,ok.frf⟩
theorem Cx.Ok.unwish{X:Cx}{E:Value->Shared->Prop}(ok:(X.wish E).Ok):X.Ok:=
 ⟨ok.mod,ok.kind,ok.glob,ok.blt,ok.above,ok.inj,ok.has,ok.cab,ok.hd,ok.frames,ok.stk,ok.exf,ok.bs,ok.bsz,ok.noex,ok.exfs,ok.funs,ok.frf⟩
section
variable{X:Cx}{pins:List (Addr×Obj)}{σ:St}{H:Hp}{s:Shared}{E:Value->Shared->Prop}
theorem Inv.wish(I:Inv X pins σ H s)(E:Value->Shared->Prop):Inv (X.wish E) pins σ H s:=⟨I.ok.wish E,I.os,I.bare,I.base,I.loc,I.cell,I.free,I.freeC,I.pin,I.hok,I.len⟩
theorem Inv.unwish(I:Inv (X.wish E) pins σ H s):Inv X pins σ H s:=⟨I.ok.unwish,I.os,I.bare,I.base,I.loc,I.cell,I.free,I.freeC,I.pin,I.hok,I.len⟩
theorem SP.unwish{D:Ends}{f:Flow}{s':Shared}(h:SP (X.wish E) pins D f s'):SP X pins D f s':=by
 cases f with
 |next=>obtain⟨σ',H',I,q⟩:=h;exact⟨σ',H',I.unwish,q⟩
 |brk=>obtain⟨σ',H',I,q⟩:=h;exact⟨σ',H',I.unwish,q⟩
 |cont=>obtain⟨σ',H',I,q⟩:=h;exact⟨σ',H',I.unwish,q⟩
 |ret u=>obtain⟨v,σ',H',I,r,q⟩:=h;exact⟨v,σ',H',I.unwish,r,q⟩
theorem PSs.nox{st:List Stmt}{t:TS}(h:PSs X.nox st t):PSs X st t:=λpins s σ H D I hw=>
 wpAny_mono (h pins s σ H D (I.wish _) hw) (λ_ _ q=>q.unwish) λ_ _ z=>False.elim z
variable{st:Stmt}{rest:List Stmt}{t u:TS}{e:Expr}{te:TE}{pos:Pos}
def dxZ:TS:=λD σ H=>D.nx σ H
def OS(t u:TS):TS:=λD σ H=>t {D with nx:=u D} σ H
theorem B5:PSs X [] dxZ:=λ_ _ σ H _ I h=>wpAny_execs_nil ⟨σ,H,I,h⟩
theorem A1(h1:PS X st t)(h2:PSs X rest u):PSs X (st::rest) (OS t u):=by
 intro pins s σ H D I h
 refine wpAny_execs_cons (thn (h1 pins s σ H {D with nx:=u D} I h) λf s1 q=> ?_)
 cases f with
 |next=>
  obtain⟨σ',H',I',q⟩:=q
  exact h2 pins s1 σ' H' D I' q
 |ret v=>exact q
 |brk=>exact q
 |cont=>exact q
theorem A7(h1:PS X st t):PSs X [st] t:=by
 intro pins s σ H D I h
 refine wpAny_execs_cons (thn (h1 pins s σ H D I h) λf s1 q=> ?_)
 cases f with
 |next=>exact wpAny_execs_nil q
 |ret v=>exact q
 |brk=>exact q
 |cont=>exact q
theorem Inv.quiet{pins:List (Addr×Obj)}{σ:St}{H:Hp}{s:Shared}(I:Inv X pins σ H s):interactive X.env=false:=by simp[interactive,I.ok.kind]
def d6Z(te:TE):TS:=λD σ H=>te σ H λ_ H1=>D.nx σ H1
theorem E3(he:PE X e te)(hs:swapsWith e none pos.line X.env=pure false:=by rfl):PS X (.Expr e pos) (d6Z te):=by
 intro pins s σ H D I h
 exact wpAny_Expr_any (thn (he pins s σ H _ I h) λv s1 ⟨x,H1,I1,r1,q1⟩=>⟨σ,H1,I1,q1⟩) I.quiet hs
def egZ(te:TE):TS:=λD σ H=>te σ H D.rt
theorem B2(he:PE X e te):PS X (.Return (some e) pos) (egZ te):=by
 intro pins s σ H D I h
 exact wpAny_Return_some (thn (he pins s σ H _ I h) λv s1 ⟨x,H1,I1,r1,q1⟩=>⟨x,σ,H1,I1,r1,q1⟩)
def ekZ(c:TT)(t u:TS):TS:=λD σ H=>c σ H λb H1=>if b=true then t D σ H1 else u D σ H1
theorem C5{c:Expr}{a b:List Stmt}{tc:TT}(hc:PT X c tc)(ha:PSs X a t)(hb:PSs X b u):PS X (.If c a b pos) (ekZ tc t u):=by
 intro pins s σ H D I h
 refine wpAny_If (thn (hc pins s σ H _ I h) λd s1 ⟨H1,I1,q1⟩=> ?_)
 cases d with
 |true=>exact ha pins s1 σ H1 D I1 q1
 |false=>exact hb pins s1 σ H1 D I1 q1
end
abbrev TG:=V->St->Hp->(St->Hp->Prop)->Prop
abbrev TGs:=List V->St->Hp->(St->Hp->Prop)->Prop
def PG(X:Cx)(target:Expr)(t:TG):Prop:=
 ∀(pins:List (Addr×Obj)) (s:Shared) (σ:St) (H:Hp) (v:V) (u:Value) (Q:St->Hp->Prop),Inv X pins σ H s->RelV v u->t v σ H Q->
  wpAny (model X.prog X.w) X.A (assign target X.env u) (λ_ s'=>∃σ' H',Inv X pins σ' H' s'/\Q σ' H') X.xe s
def PGs(X:Cx)(ts:List Expr)(t:TGs):Prop:=
 ∀(pins:List (Addr×Obj)) (s:Shared) (σ:St) (H:Hp) (vs:List V) (us:List Value) (Q:St->Hp->Prop),Inv X pins σ H s->Vals vs us->t vs σ H Q->
  wpAny (model X.prog X.w) X.A (assignInOrder ((assignEach ts X.env).map (·.2)) us) (λ_ s'=>∃σ' H',Inv X pins σ' H' s'/\Q σ' H') X.xe s
abbrev cwZ:=V->V->V->Hp->(Hp->Prop)->Prop
def doZ(X:Cx)(t:cwZ):Prop:=
 ∀(pins:List (Addr×Obj)) (s:Shared) (σ:St) (H:Hp) (o i v:V) (ov iv u:Value) (Q:Hp->Prop),Inv X pins σ H s->RelV o ov->RelV i iv->RelV v u->t o i v H Q->
  wpAny (model X.prog X.w) X.A (setItem ov iv u) (λ_ s'=>∃H',Inv X pins σ H' s'/\Q H') X.xe s
abbrev TIp:=V->V->Hp->VK->Prop
def PIp(X:Cx)(op:Operator)(t:TIp):Prop:=
 ∀(pins:List (Addr×Obj)) (s:Shared) (σ:St) (H:Hp) (x y:V) (v u:Value) (Q:VK),Inv X pins σ H s->RelV x v->RelV y u->t x y H Q->
  wpAny (model X.prog X.w) X.A (inplaceOp op v u) (EP X pins σ Q) X.xe s
section
variable{X:Cx}{pos:Pos}
def YE(i:Nat):TG:=λv σ H Q=>Q (σ.set i (some v)) H
theorem BG{i:Nat}{x:Str}(hN:X.N.Nodup)(hi:X.N[i]? =some x)(hx:Loc X.env.scope x)(hf:X.fn x=true\/X.env.scope.names.lookup x=some .local:=by first|exact .inl rfl|exact .inr rfl|assumption):PG X (.Name x pos) (YE i):=by
 intro pins s σ H v u Q I r h
 exact wpAny_assign_Name (Y9 I hN hi hx r (λs' I'=>⟨_,H,I',h⟩) hf)
def eqZ:TGs:=λvs σ H Q=>vs=[]/\Q σ H
def d0Z(t:TG)(u:TGs):TGs:=λvs σ H Q=>∃v r,vs=v::r/\t v σ H fun σ' H'=>u r σ' H' Q
theorem bwZ:PGs X [] eqZ:=by
 intro pins s σ H vs us Q I r h
 obtain⟨e,h⟩:=h
 subst e
 cases r
 exact assignInOrder_nil ⟨σ,H,I,h⟩
theorem NZ{e:Expr}{es:List Expr}{t:TG}{u:TGs}(h1:PG X e t)(h2:PGs X es u)
  (hs:(assignEach (e::es) X.env).map (·.2)=assign e X.env::(assignEach es X.env).map (·.2):=by rfl):PGs X (e::es) (d0Z t u):=by
 intro pins s σ H vs us Q I r h
 obtain⟨v,vr,e1,h⟩:=h
 subst e1
 cases r with
 |cons r rr=>
  rw[hs]
  refine assignInOrder_cons (thn (h1 pins s σ H _ _ _ I r h) λ_ s1 ⟨σ1,H1,I1,q1⟩=> ?_)
  exact h2 pins s1 σ1 H1 _ _ Q I1 rr q1
def ewZ(K:FZ)(n:Nat)(t:TGs):TG:=λv σ H Q=>∃a xs,v=.ref a/\SqT K H a xs/\xs.length=n/\t xs σ H Q
theorem cnZ{es:List Expr}{k:Nat}{t:TGs}{n:Nat}(hc:X.calm=true)(h:PGs X es t)
  (hn:(assignEach es X.env).length=n:=by rfl)(hst:(assignEach es X.env).findIdx? (·.1)=none:=by rfl):PG X (.Tuple es k pos) (ewZ X.K n t):=by
 intro pins s σ H v u Q I r hw
 obtain⟨a,xs,e1,hq,hl,hw⟩:=hw
 subst e1
 cases r
 obtain⟨its,rv,ht,hz⟩:=I.tuple hq
 refine assign_Tuple_tuple (I.ok.hd hc) ht (by simp[hn,<-hl,rv.length]) hst λh' hx=> ?_
 have I1:Inv X pins σ H {s with heap:=h'}:=I.kept (t':=s.toks) λb o e=>hx b o (ne_of_lt (lt_size e)) e
 exact h pins _ σ H xs _ Q I1 (by simpa using rv) hw
def eAZ(to ti:TE)(t:cwZ):TG:=λv σ H Q=>to σ H λo H1=>ti σ H1 λi H2=>t o i v H2 λH3=>Q σ H3
theorem SH{o i:Expr}{to ti:TE}{t:cwZ}(ho:PE X o to)(hi:PE X i ti)(hs:doZ X t)
  (ha:∀v,assign (.Subscript o i pos) X.env v=(do
   let ov<-holding [v] (eval o X.env)
   let iv<-holding [v,ov] (eval i X.env)
   standAt pos
   holding [v,ov,iv] (setItem ov iv v)
   release [v,ov,iv] []):=by intro _;rfl):PG X (.Subscript o i pos) (eAZ to ti t):=by
 intro pins s σ H v u Q I r h
 rw[ha]
 refine bZ (wpAny_holding (thn (ho pins s σ H _ I h) λov s1 ⟨x,H1,I1,r1,q1⟩=> ?_))
 refine bZ (wpAny_holding (thn (hi pins s1 σ H1 _ I1 q1) λiv s2 ⟨y,H2,I2,r2,q2⟩=> ?_))
 refine bZ (wpAny_standAt (bZ (wpAny_holding (thn (hs pins s2 σ H2 x y v ov iv u _ I2 r1 r2 r q2) λ_ s3 ⟨H3,I3,q3⟩=> ?_))))
 exact wpAny_release ⟨σ,H3,I3,q3⟩
def cpZ(te:TE)(g:TG):TS:=λD σ H=>te σ H λx H1=>g x σ H1 D.nx
theorem MV{tg e:Expr}{te:TE}{g:TG}(he:PE X e te)(hg:PG X tg g)(hs:swapsWithSole [tg] e pos.line X.env=pure false:=by rfl)(hw:swappedStores [tg] e X.env=pure none:=by rfl)
  (h1:(assignEach [tg] X.env).map (·.2)=[assign tg X.env]:=by rfl):PS X (.Assign [tg] e pos) (cpZ te g):=by
 intro pins s σ H D I h
 refine wpAny_Assign_stores (thn (he pins s σ H _ I h) λv s1 ⟨x,H1,I1,r1,q1⟩=> ?_) hs hw
 rw[h1]
 exact thn (hg pins s1 σ H1 x v _ I1 r1 q1) λ_ s2 q=>q
theorem B3{i:Nat}{x:Str}{e:Expr}{te:TE}{pos':Pos}(hN:X.N.Nodup)(hi:X.N[i]? =some x)(hx:Loc X.env.scope x)(he:PE X e te)(hs:swapsWith e (some (.Name x pos')) pos.line X.env=pure false:=by rfl)(hf:X.fn x=true\/X.env.scope.names.lookup x=some .local:=by first|exact .inl rfl|exact .inr rfl|assumption):
  PS X (.Assign [.Name x pos'] e pos) (cpZ te (YE i)):=by
 intro pins s σ H D I h
 refine wpAny_Assign_Name (thn (he pins s σ H _ I h) λv s1 ⟨y,H1,I1,r1,q1⟩=> ?_) hs
 exact Y9 I1 hN hi hx r1 (λs2 I2=>⟨_,H1,I2,q1⟩) hf
def evZ(i:Nat)(te:TE)(ti:TIp):TS:=λD σ H=>∃x,σ[i]? =some (some x)/\te σ H λy H1=>ti x y H1 λz H2=>D.nx (σ.set i (some z)) H2
theorem CN{i:Nat}{x:Str}{e:Expr}{te:TE}{op:Operator}{ti:TIp}{pos':Pos}(hN:X.N.Nodup)(hi:X.N[i]? =some x)(hx:Loc X.env.scope x)(he:PE X e te)(ho:PIp X op ti)(hf:X.fn x=true\/X.env.scope.names.lookup x=some .local:=by first|exact .inl rfl|exact .inr rfl|assumption):
  PS X (.AugAssign (.Name x pos') op e pos) (evZ i te ti):=by
 intro pins s σ H D I h
 obtain⟨v,e1,h⟩:=h
 obtain⟨m,hn,hl⟩:=I.loc
 have vis:Vis X.env.scope x:=by rcases hx with k|k;exact .inl k;exact .inr (.inl k)
 obtain⟨u,r,l⟩:=hl i x v hi e1 vis
 refine wpAny_AugAssign_Name ?_
 have go:wpAny (model X.prog X.w) X.A (eval e X.env) (λw s₂=>wpAny (model X.prog X.w) X.A (inplaceOp op u w) (λr s₃=>wpAny (model X.prog X.w) X.A (storeName X.env x r) (λ_=>SP X pins D .next) X.xe s₃) X.xe s₂) X.xe s:=by
  refine thn (he pins s σ H _ I h) λw s1 ⟨y,H1,I1,r1,q1⟩=> ?_
  refine thn (ho pins s1 σ H1 v y u w _ I1 r r1 q1) λz s2 ⟨zv,H2,I2,r2,q2⟩=> ?_
  exact Y9 I2 hN hi hx r2 (λs3 I3=>⟨_,H2,I3,q2⟩) hf
 rcases l with⟨hk,hm⟩|⟨hk,c,hc,hcell⟩
 ·exact wpAny_loadName_local I.ok.kind hk hn hm go
 ·rcases hk with hk|hk
  ·exact wpAny_loadName_cell I.ok.kind hk hc hcell go
  ·rcases hx with k|k
   ·have:X.env.scope.names.lookup x=some .free:=hk
    rw[k]at this;cases this
   ·have:X.env.scope.names.lookup x=some .free:=hk
    rw[k]at this;cases this
def ipI(f:Int->Int->Int):TIp:=λx y H Q=>∃i j,x=.int i/\y=.int j/\Q (.int (f i j)) H
theorem DY:PIp X .Add (ipI λi j=>i+j):=by
 intro pins s σ H x y v u Q I r1 r2 h
 obtain⟨i,j,e1,e2,q⟩:=h
 subst e1;subst e2
 obtain⟨t,rfl⟩:=r1
 obtain⟨t',rfl⟩:=r2
 exact iadd_int ⟨.int _,H,I.tok _,⟨_,rfl⟩,q⟩
theorem cNZ:PIp X .Sub (ipI λi j=>i - j):=by
 intro pins s σ H x y v u Q I r1 r2 h
 obtain⟨i,j,e1,e2,q⟩:=h
 subst e1;subst e2
 obtain⟨t,rfl⟩:=r1
 obtain⟨t',rfl⟩:=r2
 exact isub_int ⟨.int _,H,I.tok _,⟨_,rfl⟩,q⟩
def cxZ(c:TT)(tb:TS):TS:=λD σ H=>∃W:Nat->St->Hp->Prop,(∃m,W m σ H)/\∀m σ H,W m σ H->
 c σ H λb H1=>if b=true then∃N:St->Hp->Prop,(∀σ' H',N σ' H'->∃m',m'<m/\W m' σ' H')/\tb {D with nx:=N,ct:=N,bk:=D.nx} σ H1 else D.nx σ H1
theorem O4{c:Expr}{body:List Stmt}{tc:TT}{tb:TS}(hp:PassesOwn (model X.prog X.w) X.A X.env X.xe)(hc:PT X c tc)(hb:PSs X body tb):PS X (.While c body [] pos) (cxZ tc tb):=by
 intro pins s σ H D I h
 obtain⟨W,⟨m0,w0⟩,turn⟩:=h
 refine wpAny_While (codeAny_whileLoop (λn s'=>∃σ' H',Inv X pins σ' H' s'/\W n σ' H') ?_ m0 ⟨σ,H,I,w0⟩)
 rintro n s1 ⟨σ1,H1,I1,w1⟩
 refine wpAny_passesOwn hp (thn (hc pins s1 σ1 H1 _ I1 (turn n σ1 H1 w1)) λb s2 ⟨H2,I2,q2⟩=> ?_)
 cases b with
 |true=>
  obtain⟨N,hN,q2⟩:=q2
  rw[if_pos rfl]
  refine wpAny_passesOwn hp (thn (hb pins s2 σ1 H2 _ I2 q2) λf s3 q3=> ?_)
  cases f with
  |next=>
   obtain⟨σ3,H3,I3,n3⟩:=q3
   obtain⟨m',hm,w3⟩:=hN σ3 H3 n3
   exact⟨m',hm,σ3,H3,I3,w3⟩
  |cont=>
   obtain⟨σ3,H3,I3,n3⟩:=q3
   obtain⟨m',hm,w3⟩:=hN σ3 H3 n3
   exact⟨m',hm,σ3,H3,I3,w3⟩
  |brk=>exact q3
  |ret v=>exact q3
 |false=>
  rw[if_neg nZ]
  exact wpAny_execs_nil ⟨σ1,H2,I2,q2⟩
end
structure It where
 go:Nat->Hp->Prop
 yld:Nat->Hp->V->Hp->Prop
 stop:Nat->Hp->Prop
def OY(X:Cx)(pins:List (Addr×Obj))(H:Hp)(b:Addr):Prop:=
 H b=none/\b≠X.env.locals/\b∉X.fs/\(b∈X.ex\/X.s₀.heap.objs.size<=b)/\(∀x c,X.env.cells.lookup x=some c->c≠b)/\∀p∈X.pn++pins,p.1≠b
theorem Inv.fpOk{X:Cx}{pins:List (Addr×Obj)}{σ:St}{H H':Hp}{s:Shared}{b:Addr}(I:Inv X pins σ H s)(hb:s.heap.objs.size<=b)(hn:H' b=none):OY X pins H' b:=by
 refine⟨hn,Nat.ne_of_gt (Nat.lt_of_lt_of_le I.lt hb),I.nofs hb,.inr (le_trans I.sz hb),λx c e z=> ?_,λp hp z=> ?_⟩
 ·obtain⟨v,q⟩:=I.cell x c e
  exact absurd (Nat.lt_of_lt_of_le q.lt (by rw[z];exact hb)) (lt_irrefl _)
 ·exact absurd (Nat.lt_of_lt_of_le (lt_size (I.pin p hp).1) (by rw[z];exact hb)) (lt_irrefl _)
structure Turn (P:Program) (w:World) (K:FZ) (tg:Expr) (J:It) (fp:List Addr) (it:Addr) (tn:Nat->Heap->Prop):Prop where
 mem:it∈fp
 obj:∀i h,tn i h->∀b∈fp,∃o,h.get? b=some o/\∀v,o.data≠ .cell v
 keep:∀i h h',tn i h->(∀b∈fp,∀o,h.get? b=some o->h'.get? b=some o)->tn i h'
 item:∀(X:Cx),X.prog=P->X.w=w->X.K=K->X.calm=true->∀(i:Nat) (pins:List (Addr×Obj)) (s:Shared) (σ:St) (H:Hp) (E:Value->Shared->Prop),Inv X pins σ H s->(∀b∈fp,OY X pins H b)->tn i s.heap->J.go i H->
  wpAny (model P w) X.A (pyNext (.ref it)) (λr s1=>∃u,r=some u/\
   wpAny (model P w) X.A (letOwnedTupleGo tg (.ref it) u) (λ_ s2=>∃x H',Inv X pins σ H' s2/\RelV x u/\J.yld i H x H'/\tn (i+1) s2.heap/\∀b∈fp,H' b=none) E s1) E s
 done:∀(X:Cx),X.prog=P->X.w=w->X.K=K->X.calm=true->∀(i:Nat) (pins:List (Addr×Obj)) (s:Shared) (σ:St) (H:Hp) (E:Value->Shared->Prop),Inv X pins σ H s->(∀b∈fp,OY X pins H b)->tn i s.heap->J.stop i H->
  wpAny (model P w) X.A (pyNext (.ref it)) (λr s1=>r=none/\Inv X pins σ H s1) E s
 self:∀(A:Around) (i:Nat) (s:Shared) (Q:Value->Shared->Prop) (E:Value->Shared->Prop),tn i s.heap->Q (.ref it) s->wpAny (model P w) A (pyIter (.ref it)) Q E s
abbrev TI:=St->Hp->(It->Hp->Prop)->Prop
def PIE(X:Cx)(pins:List (Addr×Obj))(σ:St)(tg:Expr)(R:It->Hp->Prop)(itv:Value)(s2:Shared):Prop:=
 ∃(it:Addr) (fp:List Addr) (tn:Nat->Heap->Prop) (J:It) (H':Hp),itv=.ref it/\Inv X pins σ H' s2/\Turn X.prog X.w X.K tg J fp it tn/\tn 0 s2.heap/\(∀b∈fp,OY X pins H' b)/\R J H'
def PI(X:Cx)(tg iter:Expr)(wi:TI):Prop:=
 ∀(pins:List (Addr×Obj)) (s:Shared) (σ:St) (H:Hp) (R:It->Hp->Prop),Inv X pins σ H s->wi σ H R->
  wpAny (model X.prog X.w) X.A (eval iter X.env) (λv s1=>wpAny (model X.prog X.w) X.A (pyIter v) (PIE X pins σ tg R) X.xe s1) X.xe s
theorem PL{M:Model}{A:Around}{E:Value->Shared->Prop}{s:Shared}{tg:Expr}{it:Addr}{u:Value}{o:Obj}{n:String}{vs:Array Value}{Q:Unit->Shared->Prop}(ho:s.heap.get? it=some o)(hc:o.cls=.type n)(hd:o.data=.fields vs)
  (hn: ["enumerate","zip","dict_itemiterator","dict_reverseitemiterator","odict_iterator","itertools.zip_longest","itertools.pairwise"].contains n=false)(hQ:Q () s):wpAny M A (letOwnedTupleGo tg (.ref it) u) Q E s:=by
 unfold letOwnedTupleGo
 cases tg<;>first
  |exact pZ hQ
  |(cases u<;>first
    |exact pZ hQ
    |(refine bZ (wpAny_load ho ?_)
      rw[hc,hd]
      show wpAny M A (if(["enumerate","zip","dict_itemiterator","dict_reverseitemiterator","odict_iterator","itertools.zip_longest","itertools.pairwise"].contains n&&vs[0]? ==some (rawInt _))=true then _ else _) Q E s
      rw[if_neg (by intro h;rw[hn,Bool.false_and]at h;cases h)]
      exact pZ hQ))
def Itl(K:FZ)(a:Addr):It:=
 ⟨λi H=>∃xs x,SqL K H a xs/\xs[i]? =some x,λi H x H'=>H'=H/\∀xs,SqL K H a xs->xs[i]? =some x,λi H=>∃xs,SqL K H a xs/\xs.length<=i⟩
def Itt(K:FZ)(a:Addr):It:=
 ⟨λi H=>∃xs x,SqT K H a xs/\xs[i]? =some x,λi H x H'=>H'=H/\∀xs,SqT K H a xs->xs[i]? =some x,λi H=>∃xs,SqT K H a xs/\xs.length<=i⟩
def Itr(lo:Int)(n:Nat):It:=⟨λi _=>i<n,λi H x H'=>H'=H/\x=.int (lo+i),λi _=>n<=i⟩
theorem WG{P:Program}{w:World}{K:FZ}{tg:Expr}(a it:Addr):Turn P w K tg (Itl K a) [it] it (λi h=>h.IsListIter it a i) where
 mem:=by simp
 obj:=λi h st b hb=>by
  have e:b=it:=by simpa using hb
  subst e
  obtain⟨o,e,c,d⟩:=st
  exact⟨o,e,λv z=>by rw[d]at z;cases z⟩
 keep:=λi h h' st k=>st.at λo e=>k it (by simp) o e
 item:=by
  intro X hP hw hK hc i pins s σ H E I hf st hg
  subst hP hw hK
  obtain⟨xs,x,hq,hx⟩:=hg
  obtain⟨its,rv,p,hz⟩:=I.list hq
  obtain⟨u,hu,ru⟩:=rv.get hx
  obtain⟨f0,f1,f2,f3,f4,f5⟩:=hf it (by simp)
  refine wpAny_pyNext_list_item st p.isList (x:=u) (by simpa using hu) λh' st' sb=> ?_
  have I1:Inv X pins σ H {s with heap:=h'}:=I.turned (t':=s.toks) (λb o hb e=>(sb.2 b hb).trans e) f0 f1 f3 f4 f5
  obtain⟨o,e,c,d⟩:=id st'
  exact⟨u,rfl,PL (s:={s with heap:=h'}) e c d (by decide) ⟨x,H,I1,ru,⟨rfl,λys hy=>by rw[I.list_inj hy hq];exact hx⟩,st',λb hb=>(hf b hb).1⟩⟩
 done:=by
  intro X hP hw hK hc i pins s σ H E I hf st hg
  subst hP hw hK
  obtain⟨xs,hq,hx⟩:=hg
  obtain⟨its,rv,p,hz⟩:=I.list hq
  obtain⟨f0,f1,f2,f3,f4,f5⟩:=hf it (by simp)
  have hl:=rv.length
  exact wpAny_pyNext_list_end (I.ok.hd hc) st p.isList (by simp;omega) λh' eb=>⟨rfl,I.turned (t':=s.toks) (λb o hb e=>eb b o hb e) f0 f1 f3 f4 f5⟩
 self:=λ_ _ _ _ _ st h=>wpAny_pyIter_listiter st h
theorem RR{P:Program}{w:World}{K:FZ}{tg:Expr}(a it:Addr):Turn P w K tg (Itt K a) [it] it (λi h=>h.IsTupleIter it a i) where
 mem:=by simp
 obj:=λi h st b hb=>by
  have e:b=it:=by simpa using hb
  subst e
  obtain⟨o,e,c,d⟩:=st
  exact⟨o,e,λv z=>by rw[d]at z;cases z⟩
 keep:=λi h h' st k=>st.at λo e=>k it (by simp) o e
 item:=by
  intro X hP hw hK hc i pins s σ H E I hf st hg
  subst hP hw hK
  obtain⟨xs,x,hq,hx⟩:=hg
  obtain⟨its,rv,p,hz⟩:=I.tuple hq
  obtain⟨u,hu,ru⟩:=rv.get hx
  obtain⟨f0,f1,f2,f3,f4,f5⟩:=hf it (by simp)
  refine wpAny_pyNext_tuple_item st (show s.heap.IsTuple a its.toArray from p) (x:=u) (by simpa using hu) λh' st' sb=> ?_
  have I1:Inv X pins σ H {s with heap:=h'}:=I.turned (t':=s.toks) (λb o hb e=>(sb.2 b hb).trans e) f0 f1 f3 f4 f5
  obtain⟨o,e,c,d⟩:=id st'
  exact⟨u,rfl,PL (s:={s with heap:=h'}) e c d (by decide) ⟨x,H,I1,ru,⟨rfl,λys hy=>by rw[I.tuple_inj hy hq];exact hx⟩,st',λb hb=>(hf b hb).1⟩⟩
 done:=by
  intro X hP hw hK hc i pins s σ H E I hf st hg
  subst hP hw hK
  obtain⟨xs,hq,hx⟩:=hg
  obtain⟨its,rv,p,hz⟩:=I.tuple hq
  obtain⟨f0,f1,f2,f3,f4,f5⟩:=hf it (by simp)
  have hl:=rv.length
  exact wpAny_pyNext_tuple_end (I.ok.hd hc) st (show s.heap.IsTuple a its.toArray from p) (by simp;omega) λh' eb=>⟨rfl,I.turned (t':=s.toks) (λb o hb e=>eb b o hb e) f0 f1 f3 f4 f5⟩
 self:=λ_ _ _ _ _ st h=>wpAny_pyIter_tupleiter st h
theorem RU{P:Program}{w:World}{K:FZ}{tg:Expr}(it:Addr)(lo:Int)(n:Nat):Turn P w K tg (Itr lo n) [it] it (λi h=>IsRangeIter h it (lo+(i:Nat)*1) ((n:Int) - (i:Nat)) 1) where
 mem:=by simp
 obj:=λi h st b hb=>by
  have e:b=it:=by simpa using hb
  subst e
  exact⟨_,st,λv z=>by
   have z':Data.fields _=Data.cell v:=z
   cases z'⟩
 keep:=λi h h' st k=>k it (by simp) _ st
 item:=by
  intro X hP hw hK hc i pins s σ H E I hf st hg
  subst hP hw hK
  obtain⟨f0,f1,f2,f3,f4,f5⟩:=hf it (by simp)
  have W:=Walks.range (prog:=X.prog) (w:=X.w) (I.ok.hd hc) it lo 1 n
  refine W.item i s _ _ hg st λv h' tk hv st' kk=> ?_
  obtain⟨t,rfl⟩:=hv
  have I1:Inv X pins σ H {s with heap:=h',toks:=tk}:=I.turned (λb o hb e=>kk b o (by simpa using hb) e) f0 f1 f3 f4 f5
  refine⟨_,rfl,PL (s:={s with heap:=h',toks:=tk}) (n:="range_iterator") st' rfl rfl (by decide) ⟨.int (lo+i),H,I1,⟨t, ?_⟩,⟨rfl,rfl⟩,st',λb hb=>(hf b hb).1⟩⟩
  rw[Int.mul_one]
 done:=by
  intro X hP hw hK hc i pins s σ H E I hf st hg
  subst hP hw hK
  obtain⟨f0,f1,f2,f3,f4,f5⟩:=hf it (by simp)
  exact wpAny_pyNext_range_end (I.ok.hd hc) st (by have:n<=i:=hg;omega) λh' eb=>⟨rfl,I.turned (t':=s.toks) (λb o hb e=>eb b o hb e) f0 f1 f3 f4 f5⟩
 self:=λ_ _ _ _ _ st h=>wpAny_pyIter_rangeiter st h
section
variable{X:Cx}{tg:Expr}
def bSZ(K:FZ)(tl:TE):TI:=fun σ H R=>tl σ H λx H1=>∃a,x=.ref a/\(∃xs,SqL K H1 a xs)/\R (Itl K a) H1
def dlZ(K:FZ)(tl:TE):TI:=fun σ H R=>tl σ H λx H1=>∃a,x=.ref a/\(∃xs,SqT K H1 a xs)/\R (Itt K a) H1
theorem aVZ{l:Expr}{tl:TE}(hl:PE X l tl):PI X tg l (bSZ X.K tl):=by
 intro pins s σ H R I h
 refine thn (hl pins s σ H _ I h) λv s1 ⟨x,H1,I1,r1,q1⟩=> ?_
 obtain⟨a,e,⟨xs,hq⟩,q⟩:=q1
 subst e
 cases r1
 obtain⟨its,rv,p,hz⟩:=I1.list hq
 refine wpAny_pyIter_list p.isList ?_
 refine⟨s1.heap.objs.size,[s1.heap.objs.size],_,_,H1,rfl,I1.kept (t':=s1.toks) λb o e=>gZ _ e,WG a _,⟨_,get?_push_size _ rfl,rfl,rfl⟩,λb hb=> ?_,q⟩
 have e:b=s1.heap.objs.size:=by simpa using hb
 subst e
 exact I1.fpOk (le_refl _) (I1.hok.fresh (le_refl _))
theorem csZ{l:Expr}{tl:TE}(hl:PE X l tl):PI X tg l (dlZ X.K tl):=by
 intro pins s σ H R I h
 refine thn (hl pins s σ H _ I h) λv s1 ⟨x,H1,I1,r1,q1⟩=> ?_
 obtain⟨a,e,⟨xs,hq⟩,q⟩:=q1
 subst e
 cases r1
 obtain⟨its,rv,p,hz⟩:=I1.tuple hq
 refine wpAny_pyIter_tuple (show s1.heap.IsTuple a its.toArray from p) ?_
 refine⟨s1.heap.objs.size,[s1.heap.objs.size],_,_,H1,rfl,I1.kept (t':=s1.toks) λb o e=>gZ _ e,RR a _,⟨_,get?_push_size _ rfl,rfl,rfl⟩,λb hb=> ?_,q⟩
 have e:b=s1.heap.objs.size:=by simpa using hb
 subst e
 exact I1.fpOk (le_refl _) (I1.hok.fresh (le_refl _))
theorem XV{pins:List (Addr×Obj)}{σ:St}{H:Hp}{s:Shared}{R:It->Hp->Prop}{E:Value->Shared->Prop}{lo hi:Int}{t u v:Tok}{tk:Nat}(I:Inv X pins σ H s)(h1: -(2^62)<=lo)(h2:lo<2^62)(h3: -(2^62)<=hi)(h4:hi<2^62)
  (q:R (Itr lo (hi - lo).toNat) H):wpAny (model X.prog X.w) X.A (pyIter (.ref s.heap.objs.size)) (PIE X pins σ tg R) E {s with heap:=s.heap.push {cls:=.type "range",data:=.fields #[.int lo t,.int hi u,.int 1 v]},toks:=tk}:=by
 refine wpAny_pyIter_range (IsRange.new ..) (small_one h1 h2 h3 h4) ?_
 have I1:Inv X pins σ H {s with heap:=s.heap.push {cls:=.type "range",data:=.fields #[.int lo t,.int hi u,.int 1 v]},toks:=tk}:=I.kept λb o e=>gZ _ e
 refine⟨(s.heap.push {cls:=.type "range",data:=.fields #[.int lo t,.int hi u,.int 1 v]}).objs.size,[(s.heap.push {cls:=.type "range",data:=.fields #[.int lo t,.int hi u,.int 1 v]}).objs.size],_,_,H,rfl,
  I1.kept (t':=tk) λb o e=>gZ _ e,RU _ lo (hi - lo).toNat, ?_,λb hb=> ?_,q⟩
 ·have e1:lo+((0:Nat):Int)*1=lo:=by simp
  have e2:(((hi - lo).toNat:Nat):Int) - ((0:Nat):Int)=Builtin.Range.rangeSize lo hi 1:=by rw[rangeSize_one];split<;>omega
  show IsRangeIter _ _ (lo+((0:Nat):Int)*1) ((((hi - lo).toNat:Nat):Int) - ((0:Nat):Int)) 1
  rw[e1,e2]
  exact get?_push_size _ rfl
 ·have e:b=(s.heap.push {cls:=.type "range",data:=.fields #[.int lo t,.int hi u,.int 1 v]}).objs.size:=by simpa using hb
  subst e
  exact I1.fpOk (le_refl _) (I1.hok.fresh (le_refl _))
def dsZ(ta:TA):TI:=fun σ H R=>ta σ H λvs H1=>∃j:Int,vs=[.int j]/\ -(2^62)<=j/\j<2^62/\R (Itr 0 j.toNat) H1
theorem AQ{a:Expr}{ta:TA}{p pos:Pos}(hg:Gl X "range")(hm:X.mg "range"=none)(ha:PA X [a] ta)(hs:starEach [a] X.env=[(false,eval a X.env)]:=by rfl):PI X tg (.Call (.Name "range" p) [a] [] pos) (dsZ ta):=by
 intro pins s σ H R I h
 refine Call_ (MN I hg hm boot_range (PyProof.Rows.callWith_type1 (thn (ha pos pins s σ H _ I h) λus s1 ⟨vs,H1,I1,r1,q1⟩=> ?_) hs rfl))
 obtain⟨j,e,q1,q2,q⟩:=q1
 subst e
 cases r1 with
 |cons r rr=>
  cases rr
  obtain⟨t,rfl⟩:=r
  exact call_range_1 (XV I1 (by omega) (by omega) q1 q2 (by simpa using q))
def elZ(wi:TI)(g:TG)(tb:TS):TS:=λD σ H=>wi σ H λJ H1=>∃W:Nat->Nat->St->Hp->Prop,(∃m,W 0 m σ H1)/\∀i m σ H,W i m σ H->
 (J.stop i H/\D.nx σ H)\/(J.go i H/\∃N:St->Hp->Prop,(∀σ' H',N σ' H'->∃m',m'<m/\W (i+1) m' σ' H')/\∀x H',J.yld i H x H'->g x σ H' fun σ2 H2=>tb {D with nx:=N,ct:=N,bk:=D.nx} σ2 H2)
def FS(fp:List Addr)(h:Heap):List (Addr×Obj):=fp.filterMap λb=>(h.get? b).map λo=>(b,o)
theorem Z2{fp:List Addr}{h:Heap}{b:Addr}{o:Obj}(hb:b∈fp)(e:h.get? b=some o):(b,o)∈FS fp h:=mem_filterMap.mpr ⟨b,hb,by rw[e];rfl⟩
theorem WI{fp:List Addr}{h:Heap}{p:Addr×Obj}(hp:p∈FS fp h):p.1∈fp/\h.get? p.1=some p.2:=by
 obtain⟨b,hb,e⟩:=mem_filterMap.mp hp
 cases q:h.get? b with
 |none=>rw[q]at e;cases e
 |some o=>
  rw[q]at e
  have e':(b,o)=p:=Option.some.inj e
  subst e'
  exact⟨hb,q⟩
theorem Inv.pinned{pins:List (Addr×Obj)}{σ:St}{H:Hp}{s:Shared}{fp:List Addr}(I:Inv X pins σ H s)(hf:∀b∈fp,OY X pins H b)(ho:∀b∈fp,∃o,s.heap.get? b=some o/\∀v,o.data≠ .cell v):Inv X (pins++FS fp s.heap) σ H s:=
 I.pins_of λp hp=>(mem_append.mp hp).elim (λz=>I.pin p (mem_append_right _ z)) λz=>by
  obtain⟨hb,e⟩:=WI z
  obtain⟨f0,f1,f2,_⟩:=hf p.1 hb
  obtain⟨o,e',d⟩:=ho p.1 hb
  rw[e]at e';cases e'
  exact⟨e,f0,f1,f2,d⟩
theorem Inv.unpinned{pins pl:List (Addr×Obj)}{σ:St}{H:Hp}{s:Shared}(I:Inv X (pins++pl) σ H s):Inv X pins σ H s:=I.pins_of λp hp=>I.pin p (mem_append_right _ (mem_append_left _ hp))
theorem IA{iter:Expr}{body:List Stmt}{wi:TI}{g:TG}{tb:TS}{pos:Pos}(hp:PassesOwn (model X.prog X.w) X.A X.env X.xe)(hc:X.calm=true)(hi:PI X tg iter wi)(hg:PG X tg g)(hb:PSs X body tb)
  (hs:∀x,foldedSetIterable iter X.env x=pure x:=by intro _;rfl):PS X (.For tg iter body [] pos) (elZ wi g tb):=by
 intro pins s σ H D I h
 refine wpAny_For (thn (hi pins s σ H _ I h) λv s1 h1=>thn h1 λitv s2 h2=> ?_) hs
 obtain⟨it,fp,tn,J,H2,e,I2,T,st2,f2,W,⟨m0,w0⟩,turn⟩:=h2
 subst e
 have stat:∀ {H':Hp},(∀b∈fp,H' b=none)->∀b∈fp,OY X pins H' b:=λhn b hb=>⟨hn b hb,(f2 b hb).2⟩
 refine codeAny_forLoop_any (λn s'=>∃i σ' H',Inv X pins σ' H' s'/\tn i s'.heap/\(∀b∈fp,H' b=none)/\W i n σ' H') ?_ m0 ⟨0,σ,H2,I2,st2,λb hb=>(f2 b hb).1,w0⟩
 rintro n s3 ⟨i,σ3,H3,I3,st3,fr3,w3⟩
 rcases turn i n σ3 H3 w3 with⟨stop,qn⟩|⟨go,N,hN,step⟩
 ·refine wpAny_passesOwn hp (thn (T.done X rfl rfl rfl hc i pins s3 σ3 H3 X.xe I3 (stat fr3) st3 stop) λr s4 ⟨hr,I4⟩=> ?_)
  subst hr
  exact wpAny_execs_nil ⟨σ3,H3,I4,qn⟩
 ·refine wpAny_passesOwn hp (thn (T.item X rfl rfl rfl hc i pins s3 σ3 H3 X.xe I3 (stat fr3) st3 go) λr s4 ⟨u,hr,h4⟩=> ?_)
  subst hr
  refine wpAny_passesOwn hp (thn h4 λ_ s5 ⟨x,H5,I5,r5,y5,st5,fr5⟩=> ?_)
  have I5':=I5.pinned (stat fr5) (T.obj _ _ st5)
  refine wpAny_passesOwn hp (thn (hg _ s5 σ3 H5 x u _ I5' r5 (step x H5 y5)) λ_ s6 ⟨σ6,H6,I6,q6⟩=> ?_)
  refine wpAny_passesOwn hp (thn (hb _ s6 σ6 H6 _ I6 q6) λf s7 q7=> ?_)
  have again:∀ {σ7:St} {H7:Hp},Inv X (pins++FS fp s5.heap) σ7 H7 s7->N σ7 H7->∃m,m<n/\∃i σ' H',Inv X pins σ' H' s7/\tn i s7.heap/\(∀b∈fp,H' b=none)/\W i m σ' H':=λ{σ7 H7} I7 n7=>by
   obtain⟨m',hm,w7⟩:=hN σ7 H7 n7
   refine⟨m',hm,i+1,σ7,H7,I7.unpinned,T.keep _ _ _ st5 λb hb o e=>(I7.pin (b,o) (mem_append_right _ (mem_append_right _ (Z2 hb e)))).1,λb hb=> ?_,w7⟩
   obtain⟨o,e,d⟩:=T.obj _ _ st5 b hb
   exact(I7.pin (b,o) (mem_append_right _ (mem_append_right _ (Z2 hb e)))).2.1
  cases f with
  |next=>obtain⟨σ7,H7,I7,n7⟩:=q7;exact again I7 n7
  |cont=>obtain⟨σ7,H7,I7,n7⟩:=q7;exact again I7 n7
  |brk=>obtain⟨σ7,H7,I7,q7⟩:=q7;exact⟨σ7,H7,I7.unpinned,q7⟩
  |ret v=>obtain⟨x7,σ7,H7,I7,r7,q7⟩:=q7;exact⟨x7,σ7,H7,I7.unpinned,r7,q7⟩
end
theorem HN{K:FZ}{a:Addr}{xs:List V}{g:TG}{tb:TS}{D:Ends}{σ:St}{H:Hp}(Pv:Nat->St->Hp->Prop)(h0:Pv 0 σ H)(hl:∀i σ H,i<=xs.length->Pv i σ H->SqL K H a xs)
  (hs:∀i x σ H,xs[i]? =some x->Pv i σ H->g x σ H fun σ2 H2=>tb {D with nx:=Pv (i+1),ct:=Pv (i+1),bk:=D.nx} σ2 H2)(hd:∀σ H,Pv xs.length σ H->D.nx σ H):
  ∃W:Nat->Nat->St->Hp->Prop,(∃m,W 0 m σ H)/\∀i m σ H,W i m σ H->
   ((Itl K a).stop i H/\D.nx σ H)\/((Itl K a).go i H/\∃N:St->Hp->Prop,(∀σ' H',N σ' H'->∃m',m'<m/\W (i+1) m' σ' H')/\∀x H',(Itl K a).yld i H x H'->g x σ H' fun σ2 H2=>tb {D with nx:=N,ct:=N,bk:=D.nx} σ2 H2):=by
 refine⟨λi m σ H=>m=xs.length - i/\i<=xs.length/\Pv i σ H,⟨xs.length,by simp,zero_le _,h0⟩, ?_⟩
 rintro i m σ H ⟨rfl,hi,p⟩
 have q:=hl i σ H hi p
 by_cases hlt:i<xs.length
 ·refine .inr ⟨⟨xs,xs[i],q,by simp[hlt]⟩,Pv (i+1),fun σ' H' p'=>⟨xs.length - (i+1),by omega,rfl,hlt,p'⟩,λx H' y=> ?_⟩
  obtain⟨e,y⟩:=y
  subst e
  exact hs i x σ _ (y xs q) p
 ·have e:i=xs.length:=by omega
  subst e
  exact .inl ⟨⟨xs,q,le_refl _⟩,hd σ H p⟩
theorem bzZ{K:FZ}{a:Addr}{xs:List V}{g:TG}{tb:TS}{D:Ends}{σ:St}{H:Hp}(Pv:Nat->St->Hp->Prop)(h0:Pv 0 σ H)(hl:∀i σ H,i<=xs.length->Pv i σ H->SqT K H a xs)
  (hs:∀i x σ H,xs[i]? =some x->Pv i σ H->g x σ H fun σ2 H2=>tb {D with nx:=Pv (i+1),ct:=Pv (i+1),bk:=D.nx} σ2 H2)(hd:∀σ H,Pv xs.length σ H->D.nx σ H):
  ∃W:Nat->Nat->St->Hp->Prop,(∃m,W 0 m σ H)/\∀i m σ H,W i m σ H->
   ((Itt K a).stop i H/\D.nx σ H)\/((Itt K a).go i H/\∃N:St->Hp->Prop,(∀σ' H',N σ' H'->∃m',m'<m/\W (i+1) m' σ' H')/\∀x H',(Itt K a).yld i H x H'->g x σ H' fun σ2 H2=>tb {D with nx:=N,ct:=N,bk:=D.nx} σ2 H2):=by
 refine⟨λi m σ H=>m=xs.length - i/\i<=xs.length/\Pv i σ H,⟨xs.length,by simp,zero_le _,h0⟩, ?_⟩
 rintro i m σ H ⟨rfl,hi,p⟩
 have q:=hl i σ H hi p
 by_cases hlt:i<xs.length
 ·refine .inr ⟨⟨xs,xs[i],q,by simp[hlt]⟩,Pv (i+1),fun σ' H' p'=>⟨xs.length - (i+1),by omega,rfl,hlt,p'⟩,λx H' y=> ?_⟩
  obtain⟨e,y⟩:=y
  subst e
  exact hs i x σ _ (y xs q) p
 ·have e:i=xs.length:=by omega
  subst e
  exact .inl ⟨⟨xs,q,le_refl _⟩,hd σ H p⟩
theorem XT{lo:Int}{n:Nat}{g:TG}{tb:TS}{D:Ends}{σ:St}{H:Hp}(Pv:Nat->St->Hp->Prop)(h0:Pv 0 σ H)
  (hs:∀i σ H,i<n->Pv i σ H->g (.int (lo+i)) σ H fun σ2 H2=>tb {D with nx:=Pv (i+1),ct:=Pv (i+1),bk:=D.nx} σ2 H2)(hd:∀σ H,Pv n σ H->D.nx σ H):
  ∃W:Nat->Nat->St->Hp->Prop,(∃m,W 0 m σ H)/\∀i m σ H,W i m σ H->
   ((Itr lo n).stop i H/\D.nx σ H)\/((Itr lo n).go i H/\∃N:St->Hp->Prop,(∀σ' H',N σ' H'->∃m',m'<m/\W (i+1) m' σ' H')/\∀x H',(Itr lo n).yld i H x H'->g x σ H' fun σ2 H2=>tb {D with nx:=N,ct:=N,bk:=D.nx} σ2 H2):=by
 refine⟨λi m σ H=>m=n - i/\i<=n/\Pv i σ H,⟨n,by simp,zero_le _,h0⟩, ?_⟩
 rintro i m σ H ⟨rfl,hi,p⟩
 by_cases hlt:i<n
 ·refine .inr ⟨hlt,Pv (i+1),fun σ' H' p'=>⟨n - (i+1),by omega,rfl,hlt,p'⟩,λx H' y=> ?_⟩
  obtain⟨e,y⟩:=y
  subst e y
  exact hs i σ _ hlt p
 ·have e:i=n:=by omega
  subst e
  exact .inl ⟨le_refl _,hd σ H p⟩
abbrev R2:=V->V->Hp->VK->Prop
def OpR(X:Cx)(f:Value->Value->Sem Value)(r:R2):Prop:=
 ∀(pins:List (Addr×Obj)) (s:Shared) (σ:St) (H:Hp) (x y:V) (v u:Value) (Q:VK),Inv X pins σ H s->RelV x v->RelV y u->r x y H Q->
  wpAny (model X.prog X.w) X.A (f v u) (EP X pins σ Q) X.xe s
def UnR(X:Cx)(f:Value->Sem Value)(r:V->Hp->VK->Prop):Prop:=
 ∀(pins:List (Addr×Obj)) (s:Shared) (σ:St) (H:Hp) (x:V) (v:Value) (Q:VK),Inv X pins σ H s->RelV x v->r x H Q->
  wpAny (model X.prog X.w) X.A (f v) (EP X pins σ Q) X.xe s
def CallR(X:Cx)(f:Value)(r:List V->Hp->VK->Prop):Prop:=
 ∀(pins:List (Addr×Obj)) (s:Shared) (σ:St) (H:Hp) (xs:List V) (us:List Value) (Q:VK),Inv X pins σ H s->Vals xs us->r xs H Q->
  wpAny (model X.prog X.w) X.A (call f us) (EP X pins σ Q) X.xe s
def eyZ(X:Cx)(r:V->Hp->(Bool->Hp->Prop)->Prop):Prop:=
 ∀(pins:List (Addr×Obj)) (s:Shared) (σ:St) (H:Hp) (x:V) (v:Value) (Q:Bool->Hp->Prop),Inv X pins σ H s->RelV x v->r x H Q->
  wpAny (model X.prog X.w) X.A (truthy v) (TP X pins σ Q) X.xe s
def tOp(r:R2)(ta tb:TE):TE:=fun σ H Q=>ta σ H λx H1=>tb σ H1 λy H2=>r x y H2 Q
def tUn(r:V->Hp->VK->Prop)(ta:TE):TE:=fun σ H Q=>ta σ H λx H1=>r x H1 Q
inductive rI (C:Int->Int->Prop) (g:Int->Int->V) (x:V) (y:V) (H:Hp) (Q:VK):Prop
 |mk:∀i j,(x=.int i)->(y=.int j)->(C i j)->(Q (g i j) H)->rI C g x y H Q
inductive rI0 (g:Int->Int->V) (x:V) (y:V) (H:Hp) (Q:VK):Prop
 |mk:∀i j,(x=.int i)->(y=.int j)->(Q (g i j) H)->rI0 g x y H Q
inductive rU (g:Int->V) (x:V) (H:Hp) (Q:VK):Prop
 |mk:∀i,(x=.int i)->(Q (g i) H)->rU g x H Q
section
variable{X:Cx}{a b c:Expr}{ta tb tc:TE}{pos:Pos}
theorem cIZ(ha:PE X a ta)(hb:PE X b tb){pins:List (Addr×Obj)}{s:Shared}{σ:St}{H:Hp}{R:V->V->Hp->Prop}(I:Inv X pins σ H s)
  (h:ta σ H λx H1=>tb σ H1 λy H2=>R x y H2){Q:Value->Shared->Prop}{f:Value->Value->Sem Value}
  (hf:∀v u s2 x y H2,Inv X pins σ H2 s2->RelV x v->RelV y u->R x y H2->wpAny (model X.prog X.w) X.A (f v u) Q X.xe s2):
  wpAny (model X.prog X.w) X.A (eval a X.env) (λv s₁=>wpAny (model X.prog X.w) X.A (eval b X.env) (λu s₂=>wpAny (model X.prog X.w) X.A (f v u) Q X.xe s₂) X.xe s₁) X.xe s:=by
 refine thn (ha pins s σ H _ I h) λv s1 ⟨x,H1,I1,r1,q1⟩=> ?_
 refine thn (hb pins s1 σ H1 _ I1 q1) λu s2 ⟨y,H2,I2,r2,q2⟩=> ?_
 exact hf v u s2 x y H2 I2 r1 r2 q2
theorem A8{op:Operator}{r:R2}(ho:OpR X (binaryOp op) r)(ha:PE X a ta)(hb:PE X b tb):PE X (.BinOp a op b pos) (tOp r ta tb):=by
 intro pins s σ H Q I h
 exact wpAny_BinOp (cIZ ha hb I h λv u s2 x y H2 I2 rx ry q=>ho pins s2 σ H2 x y v u Q I2 rx ry q)
theorem dgZ{op:UnaryOp}{r:V->Hp->VK->Prop}(ho:UnR X (unaryOp op) r)(ha:PE X a ta):PE X (.UnaryOp op a pos) (tUn r ta):=by
 intro pins s σ H Q I h
 exact UnaryOp_ (thn (ha pins s σ H _ I h) λv s1 ⟨x,H1,I1,r1,q1⟩=>ho pins s1 σ H1 x v Q I1 r1 q1)
theorem opI{f:Value->Value->Sem Value}{C:Int->Int->Prop}{g:Int->Int->Int}
  (rule:∀(i j:Int) (t u:Tok) (s:Shared) (Q:Value->Shared->Prop) (E:Value->Shared->Prop),C i j->Q (.int (g i j) s.toks) {s with toks:=s.toks+1}->wpAny (model X.prog X.w) X.A (f (.int i t) (.int j u)) Q E s):
  OpR X f (rI C λi j=> .int (g i j)):=by
 intro pins s σ H x y v u Q I rx ry h
 obtain⟨i,j,rfl,rfl,hc,q⟩:=h
 obtain⟨t,rfl⟩:=rx
 obtain⟨t',rfl⟩:=ry
 exact rule i j t t' s _ _ hc ⟨.int (g i j),H,I.tok _,⟨_,rfl⟩,q⟩
theorem dDZ{f:Value->Value->Sem Value}{g:Int->Int->Int}
  (rule:∀(i j:Int) (t u:Tok) (s:Shared) (Q:Value->Shared->Prop) (E:Value->Shared->Prop),Q (.int (g i j) s.toks) {s with toks:=s.toks+1}->wpAny (model X.prog X.w) X.A (f (.int i t) (.int j u)) Q E s):
  OpR X f (rI0 λi j=> .int (g i j)):=by
 intro pins s σ H x y v u Q I rx ry h
 obtain⟨i,j,rfl,rfl,q⟩:=h
 obtain⟨t,rfl⟩:=rx
 obtain⟨t',rfl⟩:=ry
 exact rule i j t t' s _ _ ⟨.int (g i j),H,I.tok _,⟨_,rfl⟩,q⟩
theorem cjZ{f:Value->Value->Sem Value}{g:Int->Int->Bool}
  (rule:∀(i j:Int) (t u:Tok) (s:Shared) (Q:Value->Shared->Prop) (E:Value->Shared->Prop),Q (.bool (g i j)) s->wpAny (model X.prog X.w) X.A (f (.int i t) (.int j u)) Q E s):
  OpR X f (rI0 λi j=> .bl (g i j)):=by
 intro pins s σ H x y v u Q I rx ry h
 obtain⟨i,j,rfl,rfl,q⟩:=h
 obtain⟨t,rfl⟩:=rx
 obtain⟨t',rfl⟩:=ry
 exact rule i j t t' s _ _ ⟨.bl (g i j),H,I,rfl,q⟩
def epZ(i j:Int):Prop:=0<j/\j<1073741824
def etZ(i j:Int):Prop:=0<=j/\j<=1000000/\i.natAbs<2^64
def CMul(i j:Int):Prop:=(-(2^64)<i/\i<2^64)\/(-(2^64)<j/\j<2^64)
theorem CMul.ok{i j:Int}(h:CMul i j):IntMulOk i j:=by
 rcases h with⟨h1,h2⟩|⟨h1,h2⟩
 ·exact .of_left (intBits_le_64 h1 h2)
 ·exact .of_right (intBits_le_64 h1 h2)
theorem op_add:OpR X (binaryOp .Add) (rI0 λi j=> .int (i+j)):=dDZ λ_ _ _ _ _ _ _ q=>add_int q
theorem c1Z:OpR X (binaryOp .Sub) (rI0 λi j=> .int (i - j)):=dDZ λ_ _ _ _ _ _ _ q=>sub_int q
theorem op_mul:OpR X (binaryOp .Mult) (rI CMul λi j=> .int (i*j)):=opI λ_ _ _ _ _ _ _ hc q=>mul_int q hc.ok
theorem D8:OpR X (binaryOp .FloorDiv) (rI epZ λi j=> .int (i/j)):=opI λi j _ _ _ _ _ hc q=>by
 have h1:(0:Int)<j:=hc.1
 have h2:j<1073741824:=hc.2
 exact floordiv_int (by omega) (by rw[Int.fdiv_eq_ediv_of_nonneg i (by omega)];exact q) (.inl (PyProof.noPylong_small (by omega)))
theorem D1:OpR X (binaryOp .Mod) (rI (λ_ j=>0<j) λi j=> .int (i%j)):=opI λi j _ _ _ _ _ hc q=>by
 have h1:(0:Int)<j:=hc
 exact mod_int' (by omega) (by rw[Int.fmod_eq_emod_of_nonneg i (by omega)];exact q)
theorem ciZ:OpR X (binaryOp .Pow) (rI etZ λi j=> .int (i^j.toNat)):=opI λ_ _ _ _ _ _ _ hc q=>pow_int_small hc.1 hc.2.1 hc.2.2 q
theorem unI{f:Value->Sem Value}{g:Int->Int}
  (rule:∀(i:Int) (t:Tok) (s:Shared) (Q:Value->Shared->Prop) (E:Value->Shared->Prop),Q (.int (g i) s.toks) {s with toks:=s.toks+1}->wpAny (model X.prog X.w) X.A (f (.int i t)) Q E s):
  UnR X f (rU λi=> .int (g i)):=by
 intro pins s σ H x v Q I rx h
 obtain⟨i,rfl,q⟩:=h
 obtain⟨t,rfl⟩:=rx
 exact rule i t s _ _ ⟨.int (g i),H,I.tok _,⟨_,rfl⟩,q⟩
theorem b7Z:UnR X (unaryOp .USub) (rU λi=> .int (-i)):=unI λ_ _ _ _ _ q=>neg_int q
end
def d3Z:V->V->Bool
 | .non,.non=>true| .non,.int _=>true| .int _,.non=>true| .non,.bl _=>true| .bl _,.non=>true| .non,.str _=>true| .str _,.non=>true
 | .int _,.int _=>true| .bl _,.bl _=>true| .str _,.str _=>true| .byt _,.byt _=>true
 | .int _,.str _=>true| .str _,.int _=>true| .bl _,.str _=>true| .str _,.bl _=>true
 |_,_=>false
inductive rEq (x:V) (y:V) (H:Hp) (Q:VK):Prop
 |mk:(d3Z x y=true)->(Q (.bl (decide (x=y))) H)->rEq x y H Q
inductive rNe (x:V) (y:V) (H:Hp) (Q:VK):Prop
 |mk:(d3Z x y=true)->(Q (.bl (!decide (x=y))) H)->rNe x y H Q
theorem UT{i j:Int}:decide (V.int i=V.int j)=(i==j):=by
 rw[Bool.eq_iff_iff]
 simp
theorem YJ{i j:Bool}:decide (V.bl i=V.bl j)=(i==j):=by
 rw[Bool.eq_iff_iff]
 simp
theorem UB{i j:Str}:decide (V.str i=V.str j)=(i==j):=by
 rw[Bool.eq_iff_iff]
 simp
theorem VB{i j:Array UInt8}:decide (V.byt i=V.byt j)=(i.toList==j.toList):=by
 rw[Bool.eq_iff_iff]
 cases i
 cases j
 simp
section
variable{X:Cx}{a b c:Expr}{ta tb tc:TE}{pos:Pos}
theorem J0{pins:List (Addr×Obj)}{σ:St}{H:Hp}{s:Shared}{Q:VK}{k k':Bool}(I:Inv X pins σ H s)(q:Q (.bl k) H)(e:k=k'):EP X pins σ Q (.bool k') s:=by
 subst e
 exact⟨.bl k,H,I,rfl,q⟩
theorem op_eq:OpR X (compareOp .Eq) rEq:=by
 intro pins s σ H x y v u Q I rx ry h
 obtain⟨hs,q⟩:=h
 cases x with
 |non=>
  cases rx
  cases y with
  |non=>cases ry;exact PySem.EqNone.eq_none_none (J0 I q (by simp))
  |bl j=>cases ry;exact PySem.EqNone.eq_none_bool (J0 I q (by simp))
  |int j=>obtain⟨t',rfl⟩:=ry;exact PySem.EqNone.eq_none_int (J0 I q (by simp))
  |str j=>obtain⟨t',rfl⟩:=ry;exact PySem.EqNone.eq_none_str (J0 I q (by simp))
  |_=>exact absurd (show false=true from hs) nZ
 |bl i=>
  cases rx
  cases y with
  |non=>cases ry;exact PySem.EqNone.eq_bool_none (J0 I q (by simp))
  |bl j=>cases ry;exact eq_bool (J0 I q YJ)
  |str j=>obtain⟨t',rfl⟩:=ry;exact PySem.EqMixed.eq_bool_str (J0 I q (by simp))
  |_=>exact absurd (show false=true from hs) nZ
 |int i=>
  obtain⟨t,rfl⟩:=rx
  cases y with
  |non=>cases ry;exact PySem.EqNone.eq_int_none (J0 I q (by simp))
  |int j=>obtain⟨t',rfl⟩:=ry;exact eq_int (J0 I q UT)
  |str j=>obtain⟨t',rfl⟩:=ry;exact PySem.EqMixed.eq_int_str (J0 I q (by simp))
  |_=>exact absurd (show false=true from hs) nZ
 |str i=>
  obtain⟨t,rfl⟩:=rx
  cases y with
  |non=>cases ry;exact PySem.EqNone.eq_str_none (J0 I q (by simp))
  |bl j=>cases ry;exact PySem.EqMixed.eq_str_bool (J0 I q (by simp))
  |int j=>obtain⟨t',rfl⟩:=ry;exact PySem.EqMixed.eq_str_int (J0 I q (by simp))
  |str j=>obtain⟨t',rfl⟩:=ry;exact eq_str (J0 I q UB)
  |_=>exact absurd (show false=true from hs) nZ
 |byt i=>
  obtain⟨t,rfl⟩:=rx
  cases y with
  |byt j=>obtain⟨t',rfl⟩:=ry;exact PySem.W.eq_bytes (J0 I q VB)
  |_=>exact absurd (show false=true from hs) nZ
 |_=>cases y<;>exact absurd (show false=true from hs) nZ
theorem op_ne:OpR X (compareOp .NotEq) rNe:=by
 intro pins s σ H x y v u Q I rx ry h
 obtain⟨hs,q⟩:=h
 cases x with
 |non=>
  cases rx
  cases y with
  |non=>cases ry;exact PySem.EqNone.ne_none_none (J0 I q (by simp))
  |bl j=>cases ry;exact PySem.EqNone.ne_none_bool (J0 I q (by simp))
  |int j=>obtain⟨t',rfl⟩:=ry;exact PySem.EqNone.ne_none_int (J0 I q (by simp))
  |str j=>obtain⟨t',rfl⟩:=ry;exact PySem.EqNone.ne_none_str (J0 I q (by simp))
  |_=>exact absurd (show false=true from hs) nZ
 |bl i=>
  cases rx
  cases y with
  |non=>cases ry;exact PySem.EqNone.ne_bool_none (J0 I q (by simp))
  |bl j=>cases ry;exact ne_bool (J0 I q (congrArg not YJ))
  |str j=>obtain⟨t',rfl⟩:=ry;exact PySem.EqMixed.ne_bool_str (J0 I q (by simp))
  |_=>exact absurd (show false=true from hs) nZ
 |int i=>
  obtain⟨t,rfl⟩:=rx
  cases y with
  |non=>cases ry;exact PySem.EqNone.ne_int_none (J0 I q (by simp))
  |int j=>obtain⟨t',rfl⟩:=ry;exact ne_int (J0 I q (congrArg not UT))
  |str j=>obtain⟨t',rfl⟩:=ry;exact PySem.EqMixed.ne_int_str (J0 I q (by simp))
  |_=>exact absurd (show false=true from hs) nZ
 |str i=>
  obtain⟨t,rfl⟩:=rx
  cases y with
  |non=>cases ry;exact PySem.EqNone.ne_str_none (J0 I q (by simp))
  |bl j=>cases ry;exact PySem.EqMixed.ne_str_bool (J0 I q (by simp))
  |int j=>obtain⟨t',rfl⟩:=ry;exact PySem.EqMixed.ne_str_int (J0 I q (by simp))
  |str j=>obtain⟨t',rfl⟩:=ry;exact ne_str (J0 I q (congrArg not UB))
  |_=>exact absurd (show false=true from hs) nZ
 |byt i=>
  obtain⟨t,rfl⟩:=rx
  cases y with
  |byt j=>obtain⟨t',rfl⟩:=ry;exact PySem.W.ne_bytes (J0 I q (congrArg not VB))
  |_=>exact absurd (show false=true from hs) nZ
 |_=>cases y<;>exact absurd (show false=true from hs) nZ
theorem GD:OpR X (compareOp .Lt) (rI0 λi j=> .bl (decide (i<j))):=cjZ λ_ _ _ _ _ _ _ q=>lt_int q
theorem X3:OpR X (compareOp .Gt) (rI0 λi j=> .bl (decide (j<i))):=cjZ λ_ _ _ _ _ _ _ q=>gt_int q
theorem bQZ:OpR X (compareOp .GtE) (rI0 λi j=> .bl (decide (j<=i))):=cjZ λ_ _ _ _ _ _ _ q=>ge_int q
theorem op_in_str:OpR X (compareOp .In) (λx y H Q=>∃i j,x=.str i/\y=.str j/\Q (.bl (!(Builtin.Str.occurrences j i 0 j.length 1).isEmpty)) H):=by
 intro pins s σ H x y v u Q I rx ry h
 obtain⟨i,j,rfl,rfl,q⟩:=h
 obtain⟨t,rfl⟩:=rx
 obtain⟨t',rfl⟩:=ry
 exact in_str (J0 I q rfl)
theorem cPZ:OpR X (compareOp .Is) (λx y H Q=>y=.non/\Q (.bl (decide (x=.non))) H):=by
 intro pins s σ H x y v u Q I rx ry h
 obtain⟨rfl,q⟩:=h
 cases ry
 refine is_none_gen (J0 I q ?_)
 cases x<;>first
  |(cases rx;rfl)
  |(obtain⟨t,rfl⟩:=rx;rfl)
theorem UN:OpR X (compareOp .IsNot) (λx y H Q=>y=.non/\Q (.bl (!decide (x=.non))) H):=by
 intro pins s σ H x y v u Q I rx ry h
 obtain⟨rfl,q⟩:=h
 cases ry
 refine isnot_none_gen (J0 I q ?_)
 cases x<;>first
  |(cases rx;rfl)
  |(obtain⟨t,rfl⟩:=rx;rfl)
theorem OpR.or{f:Value->Value->Sem Value}{r r':R2}(h:OpR X f r)(h':OpR X f r'):OpR X f (λx y H Q=>r x y H Q\/r' x y H Q):=by
 intro pins s σ H x y v u Q I rx ry q
 rcases q with q|q
 ·exact h pins s σ H x y v u Q I rx ry q
 ·exact h' pins s σ H x y v u Q I rx ry q
theorem S2{op:CmpOp}{r:R2}(ho:OpR X (compareOp op) r)(ha:PE X a ta)(hb:PE X b tb)(hm:behindInMarks op b=false):PE X (.Compare a [op] [b] pos) (tOp r ta tb):=by
 intro pins s σ H Q I h
 exact wpAny_Compare1 (cIZ ha hb I h λv u s2 x y H2 I2 rx ry q=>ho pins s2 σ H2 x y v u Q I2 rx ry q) hm
inductive tTestW (Q:Bool->Hp->Prop) (x:V) (H':Hp):Prop
 |mk:∀k,(x=.bl k)->(Q k H')->tTestW Q x H'
def djZ(t:TE):TT:=fun σ H Q=>t σ H λx H'=>tTestW Q x H'
theorem B0{op:CmpOp}{r:R2}(ho:OpR X (compareOp op) r)(ha:PE X a ta)(hb:PE X b tb)(hm:behindInMarks op b=false):PT X (.Compare a [op] [b] pos) (djZ (tOp r ta tb)):=by
 intro pins s σ H Q I h
 refine wpAny_isTrue_Compare1 (thn (ha pins s σ H _ I h) λv s1 ⟨x,H1,I1,r1,q1⟩=>thn (hb pins s1 σ H1 _ I1 q1) λu s2 ⟨y,H2,I2,r2,q2⟩=>
  thn (ho pins s2 σ H2 x y v u _ I2 r1 r2 q2) λc s3 ⟨z,H3,I3,r3,k,e,q3⟩=> ?_) hm
 subst e
 cases r3
 exact wpAny_truthy_bool ⟨H3,I3,q3⟩
def ctZ(K:FZ)(x:V)(H:Hp)(k:Bool):Prop:=
 match x with
 | .non=>k=false
 | .bl b=>k=b
 | .int i=>k=(i !=0)
 | .str y=>y.length<=sizeLine/\k=((y.length:Int) !=0)
 | .byt y=>y.size<=sizeLine/\k=((y.size:Int) !=0)
 | .ref p=>(∃xs,SqL K H p xs/\k= !xs.isEmpty)\/(∃xs,SqT K H p xs/\k= !xs.isEmpty)\/∃kvs,H p=some (.dK kvs)/\k= !kvs.isEmpty
 |_=>False
theorem RQ{κ:Type}{kvs:List (κ×V)}{vs:List (κ×Value)}(r:KV kvs vs):(!vs.isEmpty)= !kvs.isEmpty:=by
 cases r<;>rfl
theorem IH{xs:List V}{its:List Value}(r:Vals xs its):(!its.toArray.isEmpty)= !xs.isEmpty:=by
 cases r<;>simp
theorem FG:(sizeLine:Nat)<2^63:=by rw[sizeLine_eq];decide
theorem crZ:eyZ X (λx H Q=>∃k,ctZ X.K x H k/\Q k H):=by
 intro pins s σ H x v Q I rx h
 obtain⟨k,e,q⟩:=h
 have hl:=FG
 have hs:sizeLine=16777216:=sizeLine_eq
 cases x with
 |non=>
  cases rx
  have e':k=false:=e
  subst e'
  exact truthy_none ⟨H,I,q⟩
 |bl b=>
  cases rx
  have e':k=b:=e
  subst e'
  exact wpAny_truthy_bool ⟨H,I,q⟩
 |int i=>
  obtain⟨t,rfl⟩:=rx
  have e':k=(i !=0):=e
  subst e'
  exact PySem.P.truthy_int ⟨H,I,q⟩
 |str y=>
  obtain⟨t,rfl⟩:=rx
  obtain⟨hy,e'⟩:y.length<=sizeLine/\k=((y.length:Int) !=0):=e
  subst e'
  exact PySem.P.truthy_str (by omega) ⟨H,I.tok _,q⟩
 |byt y=>
  obtain⟨t,rfl⟩:=rx
  obtain⟨hy,e'⟩:y.size<=sizeLine/\k=((y.size:Int) !=0):=e
  subst e'
  exact PySem.W.truthy_bytes (by omega) ⟨H,I.tok _,q⟩
 |ref p=>
  cases rx
  have e':(∃xs,SqL X.K H p xs/\k= !xs.isEmpty)\/(∃xs,SqT X.K H p xs/\k= !xs.isEmpty)\/∃kvs,H p=some (.dK kvs)/\k= !kvs.isEmpty:=e
  rcases e' with⟨xs,hx,e'⟩|⟨xs,hx,e'⟩|⟨kvs,hx,e'⟩
  ·subst e'
   obtain⟨its,r,pl,hz⟩:=I.list hx
   have hlen:=r.length
   exact wpAny_truthy_list pl.isList (by simp only[size_toArray];omega) ⟨H,I.tok _,by rw[IH r];exact q⟩
  ·subst e'
   obtain⟨its,r,pl,hz⟩:=I.tuple hx
   have hlen:=r.length
   exact truthy_tuple pl (by simp only[size_toArray];omega) ⟨H,I.tok _,by rw[IH r];exact q⟩
  ·subst e'
   obtain⟨hz,hS,vs,r,m⟩:kvs.length<=sizeLine/\(p==sysModules)=false/\∃vs,KV kvs vs/\s.heap.DictOf (NG X.prog X.w) p vs:=I.hok p _ hx
   have hlen:kvs.length=vs.length:=Paired.length r
   exact wpAny_truthy_dict hS m (by omega) ⟨H,I.tok _,by rw[RQ r];exact q⟩
 |_=>exact(show False from e).elim
theorem YN(ha:PE X a ta)(he:∀whole,isTrue a X.env whole=(do let v<-whole;standAt a.pos;holding [v] (truthy v))):
  PT X a (fun σ H Q=>ta σ H λx H'=>∃k,ctZ X.K x H' k/\Q k H'):=by
 intro pins s σ H Q I h
 exact isTrue_plain (thn (ha pins s σ H _ I h) λv s1 ⟨x,H1,I1,r1,q1⟩=>crZ pins s1 σ H1 x v Q I1 r1 q1) (he _)
theorem op_add_str:OpR X (binaryOp .Add) (λx y H Q=>∃i j,x=.str i/\y=.str j/\i.length+j.length<=sizeLine/\Q (.str (i++j)) H):=by
 intro pins s σ H x y v u Q I rx ry h
 obtain⟨i,j,rfl,rfl,hz,q⟩:=h
 obtain⟨t,rfl⟩:=rx
 obtain⟨t',rfl⟩:=ry
 exact add_str (λt' tk=>⟨.str (i++j),H,I.tok _,⟨_,rfl⟩,q⟩) hz
theorem CJ{x:V}{us:List Value}(r:Vals [x] us):∃u,us=[u]/\RelV x u:=by
 cases r with
 |cons r1 r2=>cases r2;exact⟨_,rfl,r1⟩
theorem OF{x y:V}{us:List Value}(r:Vals [x,y] us):∃u w',us=[u,w']/\RelV x u/\RelV y w':=by
 cases r with
 |cons r1 r2=>
  cases r2 with
  |cons r3 r4=>cases r4;exact⟨_,_,rfl,r1,r3⟩
theorem WJ(hc:X.calm=true):CallR X (.builtin "max") (λxs H Q=>∃i j,xs=[.int i,.int j]/\Q (.int (if j>i then j else i)) H):=by
 intro pins s σ H xs us Q I r h
 obtain⟨i,j,rfl,q⟩:=h
 obtain⟨u,w',rfl,⟨t,rfl⟩,⟨t',rfl⟩⟩:=OF r
 refine max_two_ints (I.ok.hd hc) λh' tk k=>⟨_,H,I.kept k, ?_,q⟩
 by_cases hj:j>i
 ·rw[if_pos hj,if_pos hj];exact⟨_,rfl⟩
 ·rw[if_neg hj,if_neg hj];exact⟨_,rfl⟩
theorem WX(hc:X.calm=true):CallR X (.builtin "min") (λxs H Q=>∃i j,xs=[.int i,.int j]/\Q (.int (if j<i then j else i)) H):=by
 intro pins s σ H xs us Q I r h
 obtain⟨i,j,rfl,q⟩:=h
 obtain⟨u,w',rfl,⟨t,rfl⟩,⟨t',rfl⟩⟩:=OF r
 refine min_two_ints (I.ok.hd hc) λh' tk k=>⟨_,H,I.kept k, ?_,q⟩
 by_cases hj:j<i
 ·rw[if_pos hj,if_pos hj];exact⟨_,rfl⟩
 ·rw[if_neg hj,if_neg hj];exact⟨_,rfl⟩
theorem WL:CallR X (.type "int") (λxs H Q=>(∃i,xs=[.int i]/\Q (.int i) H)\/∃k,xs=[.bl k]/\Q (.int (if k then 1 else 0)) H):=by
 intro pins s σ H xs us Q I r h
 rcases h with⟨i,rfl,q⟩|⟨k,rfl,q⟩
 ·obtain⟨u,rfl,t,rfl⟩:=CJ r
  exact call_int_int ⟨.int i,H,I,⟨_,rfl⟩,q⟩
 ·obtain⟨u,rfl,r1⟩:=CJ r
  cases r1
  exact call_int_bool ⟨.int (if k then 1 else 0),H,I.tok _,⟨_,rfl⟩,q⟩
theorem LU:CallR X (.type "str") (λxs H Q=>∃i,xs=[.int i]/\i.natAbs.log2<1920/\Q (.str (toString i)) H):=by
 intro pins s σ H xs us Q I r h
 obtain⟨i,rfl,hz,q⟩:=h
 obtain⟨u,rfl,t,rfl⟩:=CJ r
 exact PySem.P.str_of_int hz ⟨.str _,H,I.tok _,⟨_,rfl⟩,q⟩
def esZ(K:FZ)(x:V)(H:Hp)(n:Nat):Prop:=
 match x with
 | .str y=>y.length<=sizeLine/\n=y.length
 | .byt y=>y.size<=sizeLine/\n=y.size
 | .ref p=>(∃xs,SqL K H p xs/\n=xs.length)\/∃xs,SqT K H p xs/\n=xs.length
 |_=>False
inductive rLen (K:FZ) (xs:List V) (H:Hp) (Q:VK):Prop
 |mk:∀x n,(xs=[x])->(esZ K x H n)->(Q (.int n) H)->rLen K xs H Q
theorem YS:CallR X (.builtin "len") (rLen X.K):=by
 intro pins s σ H xs us Q I r h
 obtain⟨x,n,rfl,e,q⟩:=h
 obtain⟨u,rfl,rx⟩:=CJ r
 have hl:=FG
 have hs:sizeLine=16777216:=sizeLine_eq
 cases x with
 |str y=>
  obtain⟨t,rfl⟩:=rx
  obtain⟨hy,e'⟩:y.length<=sizeLine/\n=y.length:=e
  subst e'
  exact len_str (by omega) ⟨.int _,H,I.tok _,⟨_,rfl⟩,q⟩
 |byt y=>
  obtain⟨t,rfl⟩:=rx
  obtain⟨hy,e'⟩:y.size<=sizeLine/\n=y.size:=e
  subst e'
  exact PySem.W.len_bytes (by omega) ⟨.int _,H,I.tok _,⟨_,rfl⟩,q⟩
 |ref p=>
  cases rx
  have e':(∃xs,SqL X.K H p xs/\n=xs.length)\/∃xs,SqT X.K H p xs/\n=xs.length:=e
  rcases e' with⟨xs,hx,e'⟩|⟨xs,hx,e'⟩
  ·subst e'
   obtain⟨its,r',pl,hz⟩:=I.list hx
   have hlen:=r'.length
   exact Calls.call_len_list pl.isList (by simp only[size_toArray];omega) ⟨.int xs.length,H,I.tok _,⟨_,by simp only[size_toArray];rw[hlen]⟩,q⟩
  ·subst e'
   obtain⟨its,r',pl,hz⟩:=I.tuple hx
   have hlen:=r'.length
   exact len_tuple pl (by simp only[size_toArray];omega) ⟨.int xs.length,H,I.tok _,⟨_,by simp only[size_toArray];rw[hlen]⟩,q⟩
 |_=>exact(show False from e).elim
end
structure ObjM (h:Heap) (x dx C:Addr) (mA:Str->Option Value):Prop where
 obj:h.get? x=some (instObj C dx)
 ns:h.Ns1 dx mA
 ne:dx≠x
theorem VX{h:Heap}{dx:Addr}{mA:Str->Option Value}(n:h.Ns1 dx mA):∃od,h.get? dx=some od/\∀name,lookIn name od=some (mA name):=by
 obtain⟨o,es,ep,ho,hd,hk,_,hm⟩:=n
 refine⟨o,ho,λname=> ?_⟩
 have e:=hm name
 unfold nsFind findBy at e
 rw[<-Array.find?_toList]at e
 unfold lookIn
 rw[hd]
 dsimp only
 split
 ·rename_i y q
  rw[q]at e
  exact congrArg some e
 ·rename_i q
  rw[q]at e
  have a:es.toList.any (·.refKey)=false:=by
   rw[List.any_eq_false]
   intro y hy
   obtain⟨z,t,hkey⟩:=hk y (Array.mem_toList_iff.mp hy)
   simp[DictEntry.refKey,hkey]
  have a':¬es.toList.any (·.refKey)=true:=by rw[a];exact nZ
  rw[if_neg a']
  exact congrArg some e
theorem ObjM.look{h:Heap}{x dx C:Addr}{mA:Str->Option Value}(I:ObjM h x dx C mA):∃od,PySem.W.InstAt h x (instObj C dx) C (some od)/\∀name,lookIn name od=some (mA name):=
 let⟨od,ho,hl⟩:=VX I.ns
 ⟨od,⟨I.obj,rfl,rfl,ho⟩,hl⟩
section
variable{prog:Program}{w:World}{A:Around}{E:Value->Shared->Prop}{s:Shared}{K:FZ}{x dx C f:Addr}{mA:Str->Option Value}{name:Str}{v:Value}
theorem a7Z{expr:Bool}{Q:Value->Shared->Prop}(X:K.In s.heap)(I:ObjM s.heap x dx C mA)(hg:plainGet K C name=true)(hh:PySem.W.hasDictIn K C=true)
  (ha:findIn K (.ref C) name=some none)(hv:mA name=some v)(hv':PySem.W.handedIn v=true)(h:Q v {s with toks:=s.toks+1}):
  wpAny (model prog w) A (getAttr (.ref x) name expr) Q E s:=by
 obtain⟨od,J,hl⟩:=I.look
 exact PySem.W.get_value X J (PySem.W.plainGet_of hg).1 (PySem.W.findObj_own hh ha rfl (by rw[hl,hv])) hv' h
theorem amZ{pl:Sem Bool}{Q:Value×List Value->Shared->Prop}(X:K.In s.heap)(I:ObjM s.heap x dx C mA)(hg:plainGet K C name=true)
  (hf:findIn K (.ref C) name=some (some (.ref f)))(ht:PySem.W.isFn K (.ref f)=true)(hv:mA name=none)(h:Q (.ref f,[.ref x]) s):
  wpAny (model prog w) A (getMethod (.ref x) name pl) Q E s:=by
 obtain⟨od,J,hl⟩:=I.look
 exact PySem.W.method_fn X J (PySem.W.plainGet_of hg).1 (PySem.W.plainGet_of hg).2 hf (beq_iff_eq.mp ht) (by show(lookIn name od).map (·.isSome)=some false;rw[hl,hv];rfl) h
theorem blZ{ns:List Str}{Q:Unit->Shared->Prop}(X:K.In s.heap)(I:ObjM s.heap x dx C mA)
  (hs:findIn K (.ref C) "__setattr__"=some (some (.builtin "object.__setattr__")))(hp:PySem.W.plainOver K C=true)(ht:PySem.W.takerIn K C name=some none)(hh:PySem.W.hasDictIn K C=true)
  (hw:PySem.Within mA ns)(hsz:ns.length<=sizeLine)
  (h:∀h',ObjM h' x dx C (λy=>if y=name then some v else mA y)->Heap.SameBut dx s.heap h'->Q () {s with heap:=h',toks:=s.toks+2}):
  wpAny (model prog w) A (setAttr (.ref x) name v) Q E s:=by
 obtain⟨od,J,hl⟩:=I.look
 refine PySem.W.set_plain X J hs (PySem.W.osa_open (s:={s with toks:=s.toks+1}) (r:=none) X J hp ht λb=> ?_)
 obtain⟨cd,hc,hd'⟩:=PySem.W.any_some hh
 have hx:s.heap.get? x=some ⟨.ref C,some dx,.plain, #[]⟩:=I.obj
 refine bZ (pZ (bZ (bZ (wpAny_loadPart hx (bZ (PySem.W.Looks.here (s:={s with toks:=s.toks+1}) (PySem.W.looks_clsIn X hc) ?_))))))
 rw[hd']
 refine pZ (a:=some dx) (bZ (pZ (bZ ?_)))
 refine wpAny_nsSet1 (s:={s with toks:=s.toks+1}) I.ns λh' hn2 hs2=> ?_
 obtain⟨oD,esD,epD,hoD,hdD,hcD⟩:=hn2.count (PySem.Within.cons name v hw)
 refine bZ (wpAny_lookBehind hoD (by rw[hdD];exact pastItsLine_dict (le_trans hcD (by rw[length_cons];omega))) ?_)
 exact pZ (h _ ⟨(hs2.2 _ (Ne.symm I.ne)).trans I.obj,hn2,I.ne⟩ hs2)
theorem YF{R:Result->Shared->Prop}{vs:List Value}{kw:List (Str×Value)}(X:K.In s.heap)(hm:PySem.W.makesIn K C=true)
  (hi:findIn K (.ref C) "__init__"=some (some (.ref f)))(hf:PySem.W.typeIn K (.ref f)=some (.type "function"))
  (h:codeAny (model prog w) (A.under (.builtin "type.__call__" ⟨.ref C::vs,kw⟩)) (.call (.ref f) ⟨.ref (s.heap.objs.size+1)::vs,kw⟩) (PySem.W.InitBack (s.heap.objs.size+1) R)
   {s with heap:=(s.heap.push emptyDict).push (instObj C s.heap.objs.size)}):
  codeAny (model prog w) A (.call (.ref C) ⟨vs,kw⟩) R s:=by
 obtain⟨hh,g,d,t,os⟩:=s
 exact PySem.W.make_core (PySem.W.makes_of X hm) (looks_findIn X hi) (λself=>PySem.W.bind_fn X self hf) (.inl rfl) h
end
def BW(f:Str)(v:V):List (Str×V)->List (Str×V)
 | []=> [(f,v)]
 |(g,x)::r=>if g=f then(g,v)::r else(g,x)::BW f v r
theorem GG(f g:Str)(v:V):∀fs:List (Str×V),(BW f v fs).lookup g=if g=f then some v else fs.lookup g
 | []=>by
  show List.lookup g [(f,v)]=_
  by_cases h:g=f
  ·have hb:(g==f)=true:=beq_iff_eq.mpr h
   simp only[List.lookup,hb,if_pos h]
  ·have hb:(g==f)=false:=beq_eq_false_iff_ne.mpr h
   simp only[List.lookup,hb,if_neg h]
 |(k,x)::r=>by
  have ih:=GG f g v r
  rw[show BW f v ((k,x)::r)=(if k=f then(k,v)::r else(k,x)::BW f v r)from rfl]
  by_cases hk:k=f
  ·rw[if_pos hk]
   by_cases h:g=k
   ·have hb:(g==k)=true:=beq_iff_eq.mpr h
    simp only[List.lookup,hb,if_pos (h.trans hk)]
   ·have hb:(g==k)=false:=beq_eq_false_iff_ne.mpr h
    simp only[List.lookup,hb,if_neg (λe:g=f=>h (e.trans hk.symm))]
  ·rw[if_neg hk]
   by_cases h:g=k
   ·have hb:(g==k)=true:=beq_iff_eq.mpr h
    simp only[List.lookup,hb,if_neg (λe:g=f=>hk (h.symm.trans e))]
   ·have hb:(g==k)=false:=beq_eq_false_iff_ne.mpr h
    simp only[List.lookup,hb]
    exact ih
theorem FB(f:Str)(v:V):∀fs:List (Str×V),f∈(BW f v fs).map (·.1)/\∀g,g∈fs.map (·.1)->g∈(BW f v fs).map (·.1)
 | []=>⟨by simp[BW],λg h=>by simp at h⟩
 |(k,x)::r=>by
  obtain⟨i1,i2⟩:=FB f v r
  rw[show BW f v ((k,x)::r)=(if k=f then(k,v)::r else(k,x)::BW f v r)from rfl]
  by_cases hk:k=f
  ·rw[if_pos hk]
   subst hk
   exact⟨by simp,λg h=>by simpa using h⟩
  ·rw[if_neg hk]
   refine⟨?_,λg h=> ?_⟩
   ·rw[map_cons]
    exact mem_cons_of_mem _ i1
   ·rw[map_cons]at h⊢
    rcases cZ h with e|e
    ·exact mem_cons.mpr (.inl e)
    ·exact mem_cons_of_mem _ (i2 g e)
theorem GI(f:Str)(v:V):∀fs:List (Str×V),(BW f v fs).length<=fs.length+1
 | []=>by simp[BW]
 |(k,x)::r=>by
  have ih:=GI f v r
  rw[show BW f v ((k,x)::r)=(if k=f then(k,v)::r else(k,x)::BW f v r)from rfl]
  by_cases hk:k=f
  ·rw[if_pos hk,length_cons,length_cons];omega
  ·rw[if_neg hk,length_cons,length_cons];omega
theorem RelO.some_of{v:V}{o:Option Value}(r:RelO (some v) o):∃u,o=some u/\RelV v u:=by
 cases o with
 |none=>exact(show False from r).elim
 |some u=>exact⟨u,rfl,r⟩
theorem RelO.none_of{o:Option Value}(r:RelO none o):o=none:=by
 cases o with
 |none=>rfl
 |some u=>exact(show False from r).elim
theorem WW{v:V}{u:Value}(r:RelV v u):PySem.W.handedIn u=true:=by
 cases v with
 |non=>cases(show u=Value.none from r);rfl
 |bl b=>cases(show u=Value.bool b from r);rfl
 |int i=>obtain⟨t,e⟩:=(show∃t,u=Value.int i t from r);cases e;rfl
 |str x=>obtain⟨t,e⟩:=(show∃t,u=Value.str x t from r);cases e;rfl
 |byt b=>obtain⟨t,e⟩:=(show∃t,u=Value.bytes b t from r);cases e;rfl
 |flt b=>obtain⟨t,e⟩:=(show∃t,u=Value.float b t from r);cases e;rfl
 |ref a=>cases(show u=Value.ref a from r);rfl
 |ty n=>cases(show u=Value.type n from r);rfl
section
variable{P:Program}{w:World}{H H':Hp}{h h':Heap}{a C dx:Addr}{fs fs':List (Str×V)}
theorem GY(hok:HOk P w H h)(e:H a=some (.ins C dx fs)):∃mA,ObjM h a dx C mA/\(∀f,RelO (fs.lookup f) (mA f))/\PySem.Within mA (fs.map (·.1))/\fs.length<=1000/\H dx=some (.own a):=by
 obtain⟨d,z,ne,ob,mA,n,r,q⟩:=(show ObjOk P w H h a (.ins C dx fs)from hok a _ e)
 exact⟨mA,⟨ob,n,ne⟩,r,q,z,d⟩
end
structure Cls (K:FZ) (C:Addr):Prop where
 pg:plainGet K C Str.empty=true
 hd:PySem.W.hasDictIn K C=true
 po:PySem.W.plainOver K C=true
 sa:findIn K (.ref C) "__setattr__"=some (some (.builtin "object.__setattr__"))
theorem Cls.get{K:FZ}{C:Addr}(c:Cls K C)(f:Str):plainGet K C f=true:=c.pg
def NoAttr(K:FZ)(C:Addr)(f:Str):Prop:=findIn K (.ref C) f=some none
theorem NoAttr.taker{K:FZ}{C:Addr}{f:Str}(n:NoAttr K C f):PySem.W.takerIn K C f=some none:=by
 unfold PySem.W.takerIn
 rw[show findIn K (.ref C) f=some none from n]
 rfl
structure Meth (K:FZ) (C:Addr) (m:Str) (f:Addr):Prop where
 at_:findIn K (.ref C) m=some (some (.ref f))
 fn:PySem.W.isFn K (.ref f)=true
 kp:kZ K (.ref f)=true
section
variable{X:Cx}{pins:List (Addr×Obj)}{σ:St}{H:Hp}{s:Shared}{a C dx:Addr}{fs:List (Str×V)}{f:Str}{v:V}{A:Around}{E:Value->Shared->Prop}
theorem IR{b:Bool}{Q:Value->Shared->Prop}(I:Inv X pins σ H s)(e:H a=some (.ins C dx fs))(c:Cls X.K C)(n:NoAttr X.K C f)(l:fs.lookup f=some v)
  (h:∀u s',Inv X pins σ H s'->RelV v u->Q u s'):wpAny (model X.prog X.w) A (getAttr (.ref a) f b) Q E s:=by
 obtain⟨mA,O,r,_,_,_⟩:=GY I.hok e
 obtain⟨u,hu,ru⟩:=RelO.some_of (v:=v) (o:=mA f) (by rw[<-l];exact r f)
 exact a7Z I.kIn O (c.get f) c.hd n hu (WW ru) (h u _ (I.tok _) ru)
theorem HI{m:Str}{g:Addr}{pl:Sem Bool}{Q:Value×List Value->Shared->Prop}(I:Inv X pins σ H s)(e:H a=some (.ins C dx fs))(c:Cls X.K C)(k:Meth X.K C m g)(l:fs.lookup m=none)
  (h:Q (.ref g,[.ref a]) s):wpAny (model X.prog X.w) A (getMethod (.ref a) m pl) Q E s:=by
 obtain⟨mA,O,r,_,_,_⟩:=GY I.hok e
 have hn:mA m=none:=RelO.none_of (by rw[<-l];exact r m)
 exact amZ I.kIn O (c.get m) k.at_ k.fn hn h
theorem IX{y:V}{u:Value}{Q:Unit->Shared->Prop}(I:Inv X pins σ H s)(e:H a=some (.ins C dx fs))(c:Cls X.K C)(n:NoAttr X.K C f)(hl:fs.length<1000)(ry:RelV y u)
  (h:∀s',Inv X pins σ (upd H a (.ins C dx (BW f y fs))) s'->Q () s'):wpAny (model X.prog X.w) A (setAttr (.ref a) f u) Q E s:=by
 obtain⟨mA,O,r,wi,_,ho⟩:=GY I.hok e
 have hz:(fs.map (·.1)).length<=sizeLine:=by rw[length_map,sizeLine_eq];omega
 refine blZ I.kIn O c.sa c.po n.taker c.hd wi hz λh' O' sb=>h _ ?_
 have hd:∃o,h'.get? dx=some o:=let⟨o,_,_,e',_⟩:=O'.ns;⟨o,e'⟩
 refine I.write (x:=a) (e:=dx) (by rw[e];exact True.intro) (.inr ho) (λb q hb z=>(sb.2 b hb).trans z) hd ?_
 refine⟨by rw[C1 O.ne];exact ho, ?_,O.ne,O'.obj,_,O'.ns,λg=> ?_,λg hg=> ?_⟩
 ·have:=GI f y fs;omega
 ·show RelO ((BW f y fs).lookup g) (if g=f then some u else mA g)
  rw[GG]
  by_cases q:g=f
  ·rw[if_pos q,if_pos q];exact ry
  ·rw[if_neg q,if_neg q];exact r g
 ·by_cases q:g=f
  ·rw[q];exact(FB f y fs).1
  ·refine(FB f y fs).2 g (wi g λz=>hg ?_)
   show(if g=f then some u else mA g)=none
   rw[if_neg q];exact z
theorem Inv.made(I:Inv X pins σ H s):Inv X pins σ (upd (upd H s.heap.objs.size (.own (s.heap.objs.size+1))) (s.heap.objs.size+1) (.ins C s.heap.objs.size []))
  {s with heap:=(s.heap.push emptyDict).push (instObj C s.heap.objs.size)}:=by
 have e1:(s.heap.push emptyDict).get? s.heap.objs.size=some emptyDict:=get?_push_size s.heap rfl
 have e2:((s.heap.push emptyDict).push (instObj C s.heap.objs.size)).get? (s.heap.objs.size+1)=some (instObj C s.heap.objs.size):=by
  have:=get?_push_size (s.heap.push emptyDict) (o:=instObj C s.heap.objs.size) rfl
  rwa [Heap.size_push]at this
 have e3:(s.heap.push emptyDict).Ns s.heap.objs.size (λ_=>none):=⟨emptyDict, #[],_,e1,rfl,(λe he=>absurd he (by simp)),λ_=>rfl⟩
 have I1:=I.laid (a:=s.heap.objs.size) (o:=.own (s.heap.objs.size+1)) (h':=s.heap.push emptyDict) (t':=s.toks) (λb u q=>gZ _ q) (le_refl _) ⟨_,e1⟩
 refine I1.laid (a:=s.heap.objs.size+1) (o:=.ins C s.heap.objs.size []) (t':=s.toks) (λb u q=>gZ _ q) (le_of_eq (Heap.size_push _ _)) ?_
 have ne:s.heap.objs.size≠s.heap.objs.size+1:=ne_of_lt (lt_succ_self _)
 refine⟨by rw[C1 ne,A2],zero_le _,ne,e2,λ_=>none,(Heap.Ns1.of_empty e3).at λo q=>gZ _ q,λ_=>True.intro,λy hy=>absurd rfl hy⟩
theorem aPZ{prog:Program}{w:World}{env:Env}{e:Expr}{f:Str}{pos:Pos}{s:Shared}{Q:Value->Shared->Prop}(hb:attributeBase e f env (eval e env)=eval e env)
  (h:wpAny (model prog w) A (eval e env) (λo s₁=>wpAny (model prog w) A (getAttr o f true) Q E s₁) E s):wpAny (model prog w) A (eval (.Attribute e f pos) env) Q E s:=
 Attribute_any_ h (by rw[arm_eval_Attribute,hb])
end
inductive tFldW (K:FZ) (f:Str) (Q:VK) (x:V) (H1:Hp):Prop
 |mk:∀a C dx fs v,(x=.ref a)->(H1 a=some (.ins C dx fs))->(Cls K C)->(NoAttr K C f)->(fs.lookup f=some v)->(Q v H1)->tFldW K f Q x H1
def eiZ(K:FZ)(ta:TE)(f:Str):TE:=fun σ H Q=>ta σ H λx H1=>tFldW K f Q x H1
inductive sFldW (K:FZ) (f:Str) (D:Ends) (σ:St) (y x:V) (H2:Hp):Prop
 |mk:∀a C dx fs,(x=.ref a)->(H2 a=some (.ins C dx fs))->(Cls K C)->(NoAttr K C f)->(fs.length<1000)->(D.nx σ (upd H2 a (.ins C dx (BW f y fs))))->sFldW K f D σ y x H2
def ezZ(K:FZ)(ta tv:TE)(f:Str):TS:=λD σ H=>tv σ H λy H1=>ta σ H1 λx H2=>sFldW K f D σ y x H2
def dTZ(X:Cx)(op:Operator)(rd:V->V->Hp->VK->Prop):Prop:=
 ∀(pins:List (Addr×Obj)) (s:Shared) (σ:St) (H:Hp) (x y:V) (u v:Value) (Q:VK),Inv X pins σ H s->RelV x u->RelV y v->rd x y H Q->wpAny (model X.prog X.w) X.A (inplaceOp op u v) (EP X pins σ Q) X.xe s
def bmZ(K:FZ)(ta tv:TE)(rd:V->V->Hp->VK->Prop)(f:Str):TS:=λD σ H=>ta σ H λx H1=>∃a C dx fs v,x=.ref a/\H1 a=some (.ins C dx fs)/\Cls K C/\NoAttr K C f/\fs.lookup f=some v/\
 tv σ H1 λy H2=>rd v y H2 λz H3=>∃dx' fs',H3 a=some (.ins C dx' fs')/\fs'.length<1000/\D.nx σ (upd H3 a (.ins C dx' (BW f z fs')))
section
variable{X:Cx}{o e value:Expr}{f:Str}{pos pos' tpos:Pos}{ta tv:TE}
theorem MY(he:PE X e ta)(hb:attributeBase e f X.env (eval e X.env)=eval e X.env):PE X (.Attribute e f pos) (eiZ X.K ta f):=by
 intro pins s σ H Q I h
 refine aPZ hb (thn (he pins s σ H _ I h) λu s1 ⟨x,H1,I1,rx,a,C,dx,fs,v,ex,ea,c,n,l,q⟩=> ?_)
 subst ex
 obtain rfl:u=Value.ref a:=rx
 exact IR I1 ea c n l λu' s2 I2 ru=>⟨v,H1,I2,ru,q⟩
theorem aFZ(ha:PE X o ta)(hv:PE X value tv)(hs:swapsWith value (some (.Attribute o f pos')) pos.line X.env=pure false):PS X (.Assign [.Attribute o f pos'] value pos) (ezZ X.K ta tv f):=by
 intro pins s σ H D I h
 refine plainObj_wpAny_Assign_Attribute (thn (hv pins s σ H _ I h) λu s1 ⟨y,H1,I1,ry,q⟩=>thn (ha pins s1 σ H1 _ I1 q) λov s2 ⟨x,H2,I2,rx,a,C,dx,fs,ex,ea,c,n,l,q2⟩=> ?_) hs
 subst ex
 obtain rfl:ov=Value.ref a:=rx
 exact IX I2 ea c n l ry λs3 I3=>⟨σ,_,I3,q2⟩
theorem WQ{op:Operator}{rd:V->V->Hp->VK->Prop}(ha:PE X o ta)(hv:PE X value tv)(hop:dTZ X op rd):PS X (.AugAssign (.Attribute o f tpos) op value pos) (bmZ X.K ta tv rd f):=by
 intro pins s σ H D I h
 refine wpAny_AugAssign_AttributeAny (thn (ha pins s σ H _ I h) λov s1 ⟨x,H1,I1,rx,a,C,dx,fs,v,ex,ea,c,n,l,q⟩=> ?_)
 subst ex
 obtain rfl:ov=Value.ref a:=rx
 refine IR I1 ea c n l λu s2 I2 ru=>thn (hv pins s2 σ H1 _ I2 q) λw3 s3 ⟨y,H2,I3,ry,q3⟩=>thn (hop pins s3 σ H2 v y u w3 _ I3 ru ry q3) λw4 s4 ⟨z,H3,I4,rz,dx',fs',ea',l',q4⟩=> ?_
 exact IX I4 ea' c n l' rz λs5 I5=>⟨σ,_,I5,q4⟩
inductive rAdd (x:V) (y:V) (H:Hp) (Q:VK):Prop
 |mk:∀i j,(x=.int i)->(y=.int j)->(Q (.int (i+j)) H)->rAdd x y H Q
theorem cEZ:dTZ X .Add rAdd:=by
 rintro pins s σ H x y u v Q I rx ry ⟨i,j,rfl,rfl,q⟩
 obtain⟨t,rfl⟩:=(show∃t,u=Value.int i t from rx)
 obtain⟨t',rfl⟩:=(show∃t',v=Value.int j t' from ry)
 exact PyProof.Rows.iadd_int ⟨.int (i+j),H,I.tok _,⟨_,rfl⟩,q⟩
variable{pins:List (Addr×Obj)}{σ:St}{H:Hp}{s:Shared}{A:Around}{E:Value->Shared->Prop}{Q:Value->Shared->Prop}{c:Value}{b:Bool}
inductive TyOf(K:FZ)(H:Hp):V->Value->Prop where
 |non:TyOf K H .non (.type "NoneType")
 |bl (x:Bool):TyOf K H (.bl x) (.type "bool")
 |int (i:Int):TyOf K H (.int i) (.type "int")
 |str (x:Str):TyOf K H (.str x) (.type "str")
 |flt (x:UInt64):TyOf K H (.flt x) (.type "float")
 |lst {a:Addr} {xs:List V} (e:H a=some (.lst xs)):TyOf K H (.ref a) (.type "list")
 |frz {a:Addr} {o:Obj} {xs:List V} (e:H a=some (.frz o (.lst xs))):TyOf K H (.ref a) (.type "list")
 |tup {a:Addr} {xs:List V} (e:H a=some (.tup xs)):TyOf K H (.ref a) (.type "tuple")
 |dK {a:Addr} {kvs:List (Key×V)} (e:H a=some (.dK kvs)):TyOf K H (.ref a) (.type "dict")
 |dT {a:Addr} {kvs:List (List Key×V)} (e:H a=some (.dT kvs)):TyOf K H (.ref a) (.type "dict")
 |ins {a C dx:Addr} {fs:List (Str×V)} (e:H a=some (.ins C dx fs)) (cl:Cls K C) (ha:findIn K (.ref C) "__class__"=some (some (.builtin "object.__class__")))
   (hn:PySem.W.specialIn K (.builtin "object.__class__") "__get__"=some (some (.builtin "getset_descriptor.__get__"))) (htk:PySem.W.takesIn K (.builtin "object.__class__")=some true)
   (hm:PySem.W.mroIn K C (.type "object")=some true):TyOf K H (.ref a) (.ref C)
theorem WD{x:V}{u t:Value}(I:Inv X pins σ H s)(rx:RelV x u)(ty:TyOf X.K H x t)(e:kitOne X.K t c=some b)(h:∀tk,Q (.bool b) {s with toks:=tk}):
  wpAny (model X.prog X.w) A (call (.builtin "isinstance") [u,c]) Q E s:=by
 cases ty with
 |non=>cases(show u=Value.none from rx);exact kia_one PySem.W.kitx_none I.kIn True.intro e (λz=>nomatch z) h
 |bl y=>cases(show u=Value.bool y from rx);exact kia_one PySem.W.kitx_bool I.kIn True.intro e (λz=>nomatch z) h
 |int i=>obtain⟨t,q⟩:=(show∃t,u=Value.int i t from rx);cases q;exact kia_one PySem.W.kitx_int I.kIn True.intro e (λz=>nomatch z) h
 |str y=>obtain⟨t,q⟩:=(show∃t,u=Value.str y t from rx);cases q;exact kia_one PySem.W.kitx_str I.kIn True.intro e (λz=>nomatch z) h
 |flt y=>obtain⟨t,q⟩:=(show∃t,u=Value.float y t from rx);cases q;exact kia_one PySem.W.kitx_float I.kIn True.intro e (λz=>nomatch z) h
 | @lst a xs ea=>
  cases(show u=Value.ref a from rx)
  obtain⟨_,_,n,_,h1⟩:=(show ObjOk X.prog X.w H s.heap a (.lst xs)from I.hok a _ ea)
  exact kia_one PySem.W.kitx_list I.kIn ⟨_,h1,rfl⟩ e (λz=>nomatch z) h
 | @frz a ob xs ea=>
  cases(show u=Value.ref a from rx)
  obtain⟨_,_,_,n,_,h1⟩:=(show ObjOk X.prog X.w H s.heap a (.frz ob (.lst xs))from I.hok a _ ea)
  exact kia_one PySem.W.kitx_list I.kIn ⟨_,h1,rfl⟩ e (λz=>nomatch z) h
 | @tup a xs ea=>
  cases(show u=Value.ref a from rx)
  obtain⟨_,_,_,p⟩:=(show ObjOk X.prog X.w H s.heap a (.tup xs)from I.hok a _ ea)
  obtain⟨o,h1,h2,_⟩:=p
  exact kia_one PySem.W.kitx_tuple I.kIn ⟨o,h1,h2⟩ e (λz=>nomatch z) h
 | @dK a kvs ea=>
  cases(show u=Value.ref a from rx)
  obtain⟨_,_,vs,_,p⟩:=(show ObjOk X.prog X.w H s.heap a (.dK kvs)from I.hok a _ ea)
  obtain⟨o,es,ep,h1,h2,_⟩:=p
  exact kia_one PySem.W.kitx_dict I.kIn ⟨o,h1,h2.1⟩ e (λz=>nomatch z) h
 | @dT a kvs ea=>
  cases(show u=Value.ref a from rx)
  obtain⟨_,_,xs,_,o,es,ep,h1,h2,_⟩:=(show ObjOk X.prog X.w H s.heap a (.dT kvs)from I.hok a _ ea)
  exact kia_one PySem.W.kitx_dict I.kIn ⟨o,h1,h2.1⟩ e (λz=>nomatch z) h
 | @ins a C dx fs ea cl ha hn htk hm=>
  cases(show u=Value.ref a from rx)
  obtain⟨mA,O,_⟩:=GY I.hok ea
  obtain⟨od,J,_⟩:=O.look
  exact kia_one (PySem.W.kitx_own (cl.get _) cl.hd ha hn htk hm) I.kIn J e (λz=>nomatch z) h
end
structure Room (k:Nat) (A:Around):Prop where
 hd:A.handled=none
 dp:A.depth+2*k+5<recursionLimit
 un:A.units+16*k+200<cLine
theorem Room.mono{j k:Nat}{A:Around}(r:Room k A)(h:j<=k):Room j A:=⟨r.hd,by have:=r.dp;omega,by have:=r.un;omega⟩
theorem Room.deeper{k:Nat}{A:Around}(r:Room (k+1) A)(env:Env):Room k (A.deeper env):=
 ⟨r.hd,by have:=r.dp;show A.depth+1+2*k+5<_;omega,by have:=r.un;show A.units+3+16*k+200<_;omega⟩
theorem RA{A:Around}{C:Addr}{us:List Value}{kw:List (Str×Value)}:(A.under (.builtin "type.__call__" ⟨.ref C::us,kw⟩)).depth=A.depth+1:=by
 first|rfl|simp[Around.under,Code.weight,Code.isCreation,Code.isGuard,Code.isCaller,Code.frames,Code.isFrame,guardIds]
theorem RY{A:Around}{C:Addr}{us:List Value}{kw:List (Str×Value)}:(A.under (.builtin "type.__call__" ⟨.ref C::us,kw⟩)).units=A.units+1:=by
 first|rfl|simp[Around.under,Code.cUnits,Code.frames,Code.isFrame]
theorem Room.make{k:Nat}{A:Around}(r:Room (k+1) A)(C:Addr)(us:List Value)(kw:List (Str×Value)):Room k (A.under (.builtin "type.__call__" ⟨.ref C::us,kw⟩)):=
 ⟨r.hd,by have:=r.dp;rw[RA];omega,by have:=r.un;rw[RY];omega⟩
theorem Room.depth{k:Nat}{A:Around}(r:Room k A):A.depth<recursionLimit:=by have:=r.dp;omega
theorem Room.units{k:Nat}{A:Around}(r:Room k A):A.units+64<cLine:=by have:=r.un;omega
theorem Room.units0{k:Nat}{A:Around}(r:Room k A):A.units<cLine:=by have:=r.un;omega
def cXZ:TA:=λ_ H Q=>Q [] H
def dmZ(ta:TE)(tr:TA):TA:=fun σ H Q=>ta σ H λx H1=>tr σ H1 λxs H2=>Q (x::xs) H2
section
variable{X:Cx}{e:Expr}{es:List Expr}{te:TE}{t:TA}{pos:Pos}
theorem A3:PA X [] cXZ:=λ_ _ _ _ H Q I h=>Calls.spliced_nil ⟨[],H,I,.nil,h⟩
theorem A0(ha:PE X e te)(hr:PA X es t)(hs:starEach (e::es) X.env=(false,eval e X.env)::starEach es X.env:=by rfl):PA X (e::es) (dmZ te t):=by
 intro pos pins s σ H Q I h
 rw[hs]
 show wpAny _ _ (spliced ((false,eval e X.env)::backTo pos (starEach es X.env))) _ _ s
 refine Calls.spliced_cons (thn (ha pins s σ H _ I h) λu s1 ⟨x,H1,I1,r1,q1⟩=> ?_)
 exact thn (hr pos pins s1 σ H1 _ I1 q1) λus s2 ⟨xs,H2,I2,r2,q2⟩=>⟨x::xs,H2,I2,.cons r1 r2,q2⟩
inductive tTupW (Q:VK) (xs:List V) (H1:Hp):Prop
 |mk:(xs.length<=sizeLine)->(∀p,H1 p=none->Q (.ref p) (upd H1 p (.tup xs)))->tTupW Q xs H1
def eeZ(t:TA):TE:=fun σ H Q=>t σ H λxs H1=>tTupW Q xs H1
inductive tLstW (Q:VK) (xs:List V) (H1:Hp):Prop
 |mk:(xs.length<=sizeLine)->(∀p,H1 p=none->Q (.ref p) (upd H1 p (.lst xs)))->tLstW Q xs H1
def eaZ(t:TA):TE:=fun σ H Q=>t σ H λxs H1=>tLstW Q xs H1
theorem E1{x1}(h:PA X es t):PE X (.Tuple es x1 pos) (eeZ t):=by
 intro pins s σ H Q I hq
 refine wpAny_Tuple_spliced (thn (h pos pins s σ H _ I hq) λus s1 ⟨xs,H1,I1,r,z,q⟩=>⟨by rw[<-r.length];exact z, ?_⟩)
 have hf:H1 s1.heap.objs.size=none:=I1.hok.fresh (le_refl _)
 refine⟨.ref s1.heap.objs.size,upd H1 s1.heap.objs.size (.tup xs),I1.laid (t':=s1.toks) (λb u e=>gZ _ e) (le_refl _) ?_,rfl,q _ hf⟩
 exact⟨z,us,r,⟨_,get?_push_size _ rfl,rfl,_,rfl⟩⟩
theorem J5(h:PA X es t):PE X (.List es pos) (eaZ t):=by
 intro pins s σ H Q I hq
 refine wpAny_List_spliced (thn (h pos pins s σ H _ I hq) λus s1 ⟨xs,H1,I1,r,z,q⟩=>⟨by rw[<-r.length];exact z, ?_⟩)
 have hf:H1 s1.heap.objs.size=none:=I1.hok.fresh (le_refl _)
 refine⟨.ref s1.heap.objs.size,upd H1 s1.heap.objs.size (.lst xs),I1.laid (t':=s1.toks) (λb u e=>gZ _ e) (le_refl _) ?_,rfl,q _ hf⟩
 exact⟨z,us,0,r,get?_push_size _ rfl⟩
end
abbrev Sp:=List V->Hp->VK->XK->Prop
abbrev CXT:=List Env->Hp->Shared->XK->Value->Shared->Prop
structure Env0 (P:Program) (w:World) (K:FZ) (mg:Str->Option Value) (base:Heap) (A:Around) (outer:List Env) (s:Shared) (H:Hp):Prop where
 frames:A.frames=some outer
 mod:Mod K mg base
 bs:∀b o,base.get? b=some o->s.heap.get? b=some o/\H b=none
 bsz:base.objs.size<=s.heap.objs.size
 funs:s.heap.FunFrames base outer
 frf:∀b∈frs outer,H b=none
 hok:HOk P w H s.heap
 bare:AllBare s.gens
def CE(outer:List Env)(P:Program)(w:World)(H:Hp)(s:Shared)(Q:VK)(u:Value)(s':Shared):Prop:=
 ∃v H',s'.os=s.os/\AllBare s'.gens/\Un (frs outer) [] H H' s.heap s'.heap/\HOk P w H' s'.heap/\RelV v u/\Q v H'
def CR(CX:CXT)(outer:List Env)(P:Program)(w:World)(H:Hp)(s:Shared)(Q:VK)(E:XK)(r:Result)(s':Shared):Prop:=
 match r with
 | .ok (.ret u)=>CE outer P w H s Q u s'
 | .ok _=>False
 | .error e=>CX outer H s E e s'
structure FnOk (P:Program) (w:World) (K:FZ) (mg:Str->Option Value) (base:Heap) (CX:CXT) (k:Nat) (f:Addr) (fd:FuncData) (ps:List Str) (sp:Sp):Prop where
 len:∀vs H Q E,sp vs H Q E->vs.length=ps.length
 run:∀(A:Around) (outer:List Env) (s:Shared) (H:Hp) (args:Args) (us:List Value) (vs:List V) (Q:VK) (E:XK),Room k A->Env0 P w K mg base A outer s H->BindsTo s fd args (ps.zip us)->Vals vs us->sp vs H Q E->
  codeAny (model P w) A (.call (.ref f) args) (CR CX outer P w H s Q E) s
theorem Env0.make{P:Program}{w:World}{K:FZ}{mg:Str->Option Value}{base:Heap}{A:Around}{outer:List Env}{s:Shared}{H:Hp}(e:Env0 P w K mg base A outer s H)(C:Addr)(us:List Value)(kw:List (Str×Value)):
  Env0 P w K mg base (A.under (.builtin "type.__call__" ⟨.ref C::us,kw⟩)) outer s H:=⟨by first|exact e.frames|(simpa [Around.under,Code.envs,Code.isFrame,pushEnvs]using e.frames),e.mod,e.bs,e.bsz,e.funs,e.frf,e.hok,e.bare⟩
section
variable{X:Cx}{pins:List (Addr×Obj)}{σ:St}{H:Hp}{s s':Shared}
theorem Inv.env0(I:Inv X pins σ H s):Env0 X.prog X.w X.K X.mg X.base X.A X.stack s H:=
 ⟨I.ok.frames,I.ok.mod,I.bs,le_trans I.ok.bsz I.sz,I.stack,I.stkFree,I.hok,I.bare⟩
theorem Inv.after{Q:VK}{u:Value}(I:Inv X pins σ H s)(h:CE X.stack X.prog X.w H s Q u s'):EP X pins σ Q u s':=by
 obtain⟨v,H',os,bare,un,hok,r,q⟩:=h
 obtain⟨hh,g,d,t,os'⟩:=s'
 obtain rfl:os'=s.os:=os
 exact⟨v,H',I.call (h':=hh) (g':=g) (d':=d) (t':=t) (ch:=[]) un hok bare (λb z=>absurd z (by simp)),r,q⟩
end
def d4Z(sp:Sp)(dvs:List V)(E:XK)(t:TA):TE:=fun σ H Q=>t σ H λvs H1=>sp (vs++dvs) H1 Q E
inductive tMethW (C:Addr) (m:Str) (sp:Sp) (dvs:List V) (E:XK) (t:TA) (σ:St) (Q:VK) (x:V) (H1:Hp):Prop
 |mk:∀a dx fs,(x=.ref a)->(H1 a=some (.ins C dx fs))->(fs.lookup m=none)->(t σ H1 λvs H2=>sp (x::(vs++dvs)) H2 Q E)->tMethW C m sp dvs E t σ Q x H1
def QA(C:Addr)(m:Str)(sp:Sp)(dvs:List V)(E:XK)(ta:TE)(t:TA):TE:=fun σ H Q=>ta σ H λx H1=>tMethW C m sp dvs E t σ Q x H1
def dQZ(C:Addr)(sp:Sp)(dvs:List V)(E:XK)(t:TA):TE:=fun σ H Q=>t σ H λvs H1=>∀x dx,H1 x=none->H1 dx=none->dx≠x->
 sp (.ref x::(vs++dvs)) (upd (upd H1 dx (.own x)) x (.ins C dx [])) (λv H2=>v=.non/\Q (.ref x) H2) E
def Binds(K:FZ)(fd:FuncData)(ps:List Str)(ds:List Value):Prop:=
 ∀(s:Shared) (us:List Value),K.In s.heap->(us++ds).length=ps.length->BindsTo s fd ⟨us,[]⟩ (ps.zip (us++ds))
theorem Binds.all{K:FZ}{fd:FuncData}{ps:List Str}(h:∀us:List Value,us.length=ps.length->bindArgs fd ⟨us,[]⟩=pure (ps.zip us)):Binds K fd ps []:=λs us _ hl=>by
 rw[append_nil]at hl⊢
 exact .of_eq (h us hl)
def CI(CX:CXT)(X:Cx)(E:XK):Prop:=∀(pins:List (Addr×Obj)) (σ:St) (H:Hp) (s:Shared) (e:Value) (s':Shared),Inv X pins σ H s->CX X.stack H s E e s'->X.xe e s'
section
variable{X:Cx}{CX:CXT}{k:Nat}{f C:Addr}{fd:FuncData}{ps:List Str}{sp:Sp}{dvs:List V}{ds:List Value}{E:XK}{x m:Str}{p pos apos:Pos}{e o:Expr}{es:List Expr}{ta:TE}{t:TA}
theorem RK{pins:List (Addr×Obj)}{σ:St}{H:Hp}{s:Shared}{Q:VK}{us:List Value}{vs:List V}(F:FnOk X.prog X.w X.K X.mg X.base CX k f fd ps sp)(hr:Room k X.A)(hb:Binds X.K fd ps ds)(hd:Vals dvs ds)(hx:CI CX X E)
  (I:Inv X pins σ H s)(r:Vals vs us)(h:sp (vs++dvs) H Q E):wpAny (model X.prog X.w) X.A (call (.ref f) us) (EP X pins σ Q) X.xe s:=by
 have r2:Vals (vs++dvs) (us++ds):=r.append hd
 have hl:(us++ds).length=ps.length:=by rw[<-r2.length];exact F.len _ _ _ _ h
 refine wpAny_call (codeAny_mono (F.run X.A X.stack s H ⟨us,[]⟩ (us++ds) (vs++dvs) Q E hr I.env0 (hb s us I.kIn hl) r2 h) λr s' hq=> ?_)
 cases r with
 |error e=>exact hx pins σ H s e s' I hq
 |ok fl=>
  cases fl with
  |ret u=>exact I.after hq
  |next=>exact False.elim hq
  |brk=>exact False.elim hq
  |cont=>exact False.elim hq
theorem C3(F:FnOk X.prog X.w X.K X.mg X.base CX k f fd ps sp)(hr:Room k X.A)(hg:Gl X x)(hm:X.mg x=some (.ref f))(hk:kZ X.K (.ref f)=true)(hb:Binds X.K fd ps ds)(hd:Vals dvs ds)(hx:CI CX X E)
  (ha:PA X (e::es) t)(hdb:(x==("__debug__":Str))=false:=by decide)(he:starEach (e::es) X.env=(false,eval e X.env)::starEach es X.env:=by rfl)(hpl:(backTo pos (starEach es X.env)).any (·.1)=false:=by rfl):
  PE X (.Call (.Name x p) (e::es) [] pos) (d4Z sp dvs E t):=by
 intro pins s σ H Q I h
 refine wpAny_Call_Name_kw (DC I hg hm ?_ hdb)
 refine callWith_K (h₀:=X.base) I.ok.mod.kin hk (thn (ha pos pins s σ H _ I h) λus s1 ⟨vs,H1,I1,r,q⟩=>⟨I1.kIn, ?_⟩) he hpl
 exact RK F hr hb hd hx I1 r q
theorem C4{pl:Sem Bool}(he:PE X o ta)(c:Cls X.K C)(hm:Meth X.K C m f)(F:FnOk X.prog X.w X.K X.mg X.base CX k f fd ps sp)(hr:Room k X.A)(hb:Binds X.K fd ps ds)(hd:Vals dvs ds)(hx:CI CX X E)(ha:PA X (e::es) t)
  (hst:starEach (e::es) X.env=(false,eval e X.env)::starEach es X.env:=by rfl)(hpl:(backTo pos (starEach es X.env)).any (·.1)=false:=by rfl)
  (ht:eval (.Call (.Attribute o m apos) (e::es) [] pos) X.env=(do
   let ov<-eval o X.env
   standAt apos.atName
   let(f,first)<-holding [ov] (getMethod ov m pl)
   callWith pos f first (backTo pos (starEach (e::es) X.env)) (backToKw pos (keywordEach [] X.env))):=by rfl):
  PE X (.Call (.Attribute o m apos) (e::es) [] pos) (QA C m sp dvs E ta t):=by
 intro pins s σ H Q I h
 refine PySem.W.methodCall_KW (pl:=pl) (thn (he pins s σ H _ I h) λu s1 ⟨x,H1,I1,rx,a,dx,fs,ex,ea,l,q⟩=> ?_) ht
 subst ex
 obtain rfl:u=Value.ref a:=rx
 refine HI I1 ea c hm l ?_
 refine callWith_K (first:=[.ref a]) (h₀:=X.base) I.ok.mod.kin hm.kp (thn (ha pos pins s1 σ H1 _ I1 q) λus s2 ⟨vs,H2,I2,r,q2⟩=>⟨I2.kIn, ?_⟩) hst hpl
 exact RK (us:=.ref a::us) (vs:=.ref a::vs) F hr hb hd hx I2 (.cons rfl r) q2
theorem D4{pl:Sem Bool}(he:PE X o ta)(c:Cls X.K C)(hm:Meth X.K C m f)(F:FnOk X.prog X.w X.K X.mg X.base CX k f fd ps sp)(hr:Room k X.A)(hb:Binds X.K fd ps ds)(hd:Vals dvs ds)(hx:CI CX X E)
  (ht:eval (.Call (.Attribute o m apos) [] [] pos) X.env=(do
   let ov<-eval o X.env
   standAt apos.atName
   let(f,first)<-holding [ov] (getMethod ov m pl)
   callWith pos f first (backTo pos (starEach [] X.env)) (backToKw pos (keywordEach [] X.env))):=by rfl):
  PE X (.Call (.Attribute o m apos) [] [] pos) (QA C m sp dvs E ta cXZ):=by
 intro pins s σ H Q I h
 refine PySem.W.methodCall_KW (pl:=pl) (thn (he pins s σ H _ I h) λu s1 ⟨x,H1,I1,rx,a,dx,fs,ex,ea,l,q⟩=> ?_) ht
 subst ex
 obtain rfl:u=Value.ref a:=rx
 refine HI I1 ea c hm l ?_
 exact PySem.W.callWith_K0 (first:=[.ref a]) I1.kIn hm.kp (RK (us:=[.ref a]) (vs:=[.ref a]) F hr hb hd hx I1 (.cons rfl .nil) q)
structure Mk (K:FZ) (C f:Addr):Prop where
 makes:PySem.W.makesIn K C=true
 init:findIn K (.ref C) "__init__"=some (some (.ref f))
 fn:PySem.W.isFn K (.ref f)=true
 kp:kZ K (.ref C)=true
theorem akZ{pins:List (Addr×Obj)}{σ:St}{H:Hp}{s:Shared}{Q:VK}{us:List Value}{vs:List V}(M:Mk X.K C f)(F:FnOk X.prog X.w X.K X.mg X.base CX k f fd ps sp)(hr:Room (k+1) X.A)(hb:Binds X.K fd ps ds)(hd:Vals dvs ds)
  (hx:CI CX X E)(I:Inv X pins σ H s)(r:Vals vs us)
  (h:∀x dx,H x=none->H dx=none->dx≠x->sp (.ref x::(vs++dvs)) (upd (upd H dx (.own x)) x (.ins C dx [])) (λv H2=>v=.non/\Q (.ref x) H2) E):
  wpAny (model X.prog X.w) X.A (call (.ref C) us) (EP X pins σ Q) X.xe s:=by
 have hq:=h (s.heap.objs.size+1) s.heap.objs.size (I.hok.fresh (le_succ _)) (I.hok.fresh (le_refl _)) (ne_of_lt (lt_succ_self _))
 have I2:=Inv.made (C:=C) I
 have r2:Vals (V.ref (s.heap.objs.size+1)::(vs++dvs)) (Value.ref (s.heap.objs.size+1)::(us++ds)):=.cons rfl (r.append hd)
 have hl:(Value.ref (s.heap.objs.size+1)::us++ds).length=ps.length:=by
  have e:=r2.length
  rw[F.len _ _ _ _ hq]at e
  exact e.symm
 refine wpAny_call (YF (f:=f) I.kIn M.makes M.init (beq_iff_eq.mp M.fn) (codeAny_mono (F.run _ X.stack _ _ ⟨Value.ref (s.heap.objs.size+1)::us,[]⟩ (Value.ref (s.heap.objs.size+1)::(us++ds)) _ _ E (hr.make C us [])
  (I2.env0.make C us []) (hb _ (Value.ref (s.heap.objs.size+1)::us) I2.kIn hl) r2 hq) λr s' hq'=> ?_))
 cases r with
 |error e=>exact hx pins σ _ _ e s' I2 hq'
 |ok fl=>
  cases fl with
  |ret u=>
   obtain⟨v,H',I3,rv,ev,q3⟩:=I2.after hq'
   subst ev
   exact⟨rv,⟨V.ref (s.heap.objs.size+1),H',I3,rfl,q3⟩⟩
  |next=>exact False.elim hq'
  |brk=>exact False.elim hq'
  |cont=>exact False.elim hq'
theorem aRZ(M:Mk X.K C f)(F:FnOk X.prog X.w X.K X.mg X.base CX k f fd ps sp)(hr:Room (k+1) X.A)(hg:Gl X x)(hm:X.mg x=some (.ref C))(hb:Binds X.K fd ps ds)(hd:Vals dvs ds)(hx:CI CX X E)
  (ha:PA X (e::es) t)(hdb:(x==("__debug__":Str))=false:=by decide)(he:starEach (e::es) X.env=(false,eval e X.env)::starEach es X.env:=by rfl)(hpl:(backTo pos (starEach es X.env)).any (·.1)=false:=by rfl):
  PE X (.Call (.Name x p) (e::es) [] pos) (dQZ C sp dvs E t):=by
 intro pins s σ H Q I h
 refine wpAny_Call_Name_kw (DC I hg hm ?_ hdb)
 refine callWith_K (h₀:=X.base) I.ok.mod.kin M.kp (thn (ha pos pins s σ H _ I h) λus s1 ⟨vs,H1,I1,r,q⟩=>⟨I1.kIn, ?_⟩) he hpl
 exact akZ M F hr hb hd hx I1 r q
variable{ks:List Str}{kpos:Pos}{kws:List Keyword}{te:TE}{tk:TA}{nm:Option Str}
variable{g:List Value->List Value->List Value}{gV:List V->List V->List V}
end
structure FnScope(N P:List Str)(sc:Scope):Prop where
 kind:sc.kind=.function
 co:sc.isCoroutine=false
 gen:sc.isGenerator=false
 nd:N.Nodup
 pre:N.take P.length=P
 par:∀x∈P,sc.names.lookup x=some .local\/sc.names.lookup x=some .cell
 nofree:∀y∈sc.names,y.2≠ .free
theorem KI{kindOf:Str->Option NameKind}{x:Str}:∀ {binds:List (Str×Value)} {m:Str->Option Value},(∀v,(x,v)∉binds)->bindL kindOf binds m x=m x
 | [],_,_=>rfl
 |(n,v)::r,m,h=>by
  unfold bindL
  rw[KI λw hw=>h w (mem_cons_of_mem _ hw)]
  split
  ·have:x≠n:=by rintro rfl;exact h v mem_cons_self
   simp[this]
  ·rfl
theorem KF{kindOf:Str->Option NameKind}{x:Str}:∀ {binds:List (Str×Value)} {m:Str->Option Value},(∀v,(x,v)∉binds)->bindC kindOf binds m x=m x
 | [],_,_=>rfl
 |(n,v)::r,m,h=>by
  unfold bindC
  rw[KF λw hw=>h w (mem_cons_of_mem _ hw)]
  split
  ·rfl
  ·have:x≠n:=by rintro rfl;exact h v mem_cons_self
   simp[this]
theorem KR{kindOf:Str->Option NameKind}{x:Str}{v:Value}:∀ {P:List Str} {vs:List Value} {i:Nat} {m:Str->Option Value},P.Nodup->P[i]? =some x->vs[i]? =some v->kindOf x=some .local->
  bindL kindOf (P.zip vs) m x=some v
 | [],_,_,_,_,h,_,_=>by simp at h
 |_::_,[],_,_,_,_,h,_=>by simp at h
 |p::P,w::vs,0,m,nd,h1,h2,hk=>by
  simp at h1 h2;subst h1;subst h2
  show bindL kindOf ((p,w)::P.zip vs) m p=_
  unfold bindL
  rw[KI λv hv=>(nodup_cons.mp nd).1 (List.of_mem_zip hv).1,if_pos hk]
  simp
 |p::P,w::vs,i+1,m,nd,h1,h2,hk=>by
  show bindL kindOf ((p,w)::P.zip vs) m x=_
  unfold bindL
  exact KR (i:=i) (nodup_cons.mp nd).2 (by simpa using h1) (by simpa using h2) hk
theorem KQ{kindOf:Str->Option NameKind}{x:Str}{v:Value}:∀ {P:List Str} {vs:List Value} {i:Nat} {m:Str->Option Value},P.Nodup->P[i]? =some x->vs[i]? =some v->kindOf x≠some .local->
  bindC kindOf (P.zip vs) m x=some v
 | [],_,_,_,_,h,_,_=>by simp at h
 |_::_,[],_,_,_,_,h,_=>by simp at h
 |p::P,w::vs,0,m,nd,h1,h2,hk=>by
  simp at h1 h2;subst h1;subst h2
  show bindC kindOf ((p,w)::P.zip vs) m p=_
  unfold bindC
  rw[KF λv hv=>(nodup_cons.mp nd).1 (List.of_mem_zip hv).1,if_neg hk]
  simp
 |p::P,w::vs,i+1,m,nd,h1,h2,hk=>by
  show bindC kindOf ((p,w)::P.zip vs) m x=_
  unfold bindC
  exact KQ (i:=i) (nodup_cons.mp nd).2 (by simpa using h1) (by simpa using h2) hk
def ET(N:List Str)(vs:List V):St:=vs.map some++List.replicate (N.length - vs.length) none
def W7(CX:CXT)(P:Program)(w:World)(K:FZ)(mg:Str->Option Value)(base:Heap)(N:List Str)(qual:Str)(scope:Scope)(f:Addr)(cd:Value)(A:Around)(outer:List Env)(s:Shared)(H:Hp)(E:XK):Cx where
 prog:=P
 w:=w
 K:=K
 mg:=mg
 base:=base
 A:=A.deeper (envOfC qual scope s.heap.objs.size f cd)
 N:=N
 s₀:=s
 H₀:=H
 env:=envOfC qual scope s.heap.objs.size f cd
 outer:=outer
 stack:=envOfC qual scope s.heap.objs.size f cd::outer
 ex:=[]
 calm:=true
 fn:=λ_=>true
 pn:=[]
 xe:=λe s'=>wpAny (model P w) (A.deeper (envOfC qual scope s.heap.objs.size f cd)) (leaving (envOfC qual scope s.heap.objs.size f cd) e) (λ_ s''=>CX outer H s E e s'') (λe' s''=>CX outer H s E e' s'') s'
theorem PC{sc:Scope}{n:Nat}{x:Str}(h:sc.names.lookup x=some .cell):∃c,(cellsFrom n sc.names []).lookup x=some c:=by
 have q:=PySem.W.cellsFrom_some sc.names n [] (.inl h)
 exact Option.isSome_iff_exists.mp q
theorem XG{CX:CXT}{P:Program}{w:World}{K:FZ}{mg:Str->Option Value}{base:Heap}{N ps:List Str}{qual:Str}{scope:Scope}{f:Addr}{cd:Value}{A:Around}{outer:List Env}{s s1:Shared}{H:Hp}{E:XK}{us:List Value}{vs:List V}
  (S:FnScope N ps scope)(hd:A.handled=none)(e0:Env0 P w K mg base A outer s H)(hl:vs.length=ps.length)(r:Vals vs us)
  (x:InCallC s s.heap.objs.size (bindL (envOfC qual scope s.heap.objs.size f cd).kindOf (ps.zip us) λ_=>none) (cellsFrom (s.heap.objs.size+1) scope.names []) (bindC (envOfC qual scope s.heap.objs.size f cd).kindOf (ps.zip us) λ_=>none) s1):
  Inv (W7 CX P w K mg base N qual scope f cd A outer s H E) [] (ET N vs) H s1:=by
 have hpl:ps.length<=N.length:=by have:=congrArg List.length S.pre;rw[length_take]at this;omega
 obtain⟨h1,tk,rfl,hk⟩:=x.done
 have noA:∀b:Addr,b∉(W7 CX P w K mg base N qual scope f cd A outer s H E).ex:=λb z=>absurd (show b∈([]:List Addr)from z) (by simp)
 refine⟨⟨e0.mod,S.kind,rfl,rfl,le_refl _,λy z c h1 h2=> ?_,λy hy=> ?_,λy c _ h=> ?_,λ_=>hd,Around.frames_deeper e0.frames,.inr ⟨rfl,rfl⟩,λb z=>absurd z (noA b),e0.bs,e0.bsz,λb _ _=>noA b,λb z=>absurd z (noA b),e0.funs,e0.frf⟩,
  rfl,e0.bare,Un.kept hk,⟨_,x.toInCall.ns,λi y v h1 h2 h3=> ?_⟩,λy c h=>⟨_,x.cell y c h⟩,e0.hok.fresh (le_refl _),λy c h=> ?_,λp hp=>absurd (show p∈([]:List (Addr×Obj))from hp) (by simp),e0.hok.kept hk, ?_⟩
 ·exact name_of_addr x.apart (PySem.mem_of_lookup h1) (PySem.mem_of_lookup h2)
 ·have hy:scope.names.lookup y=some .cell\/scope.names.lookup y=some .free:=hy
  rcases hy with hy|hy
  ·exact PC hy
  ·exact absurd rfl (S.nofree _ (PySem.mem_of_lookup hy))
 ·exact le_of_lt (x.above y c (PySem.mem_of_lookup h))
 ·have hi:i<vs.length:=by
   unfold ET at h2
   by_cases hi:i<vs.length
   ·exact hi
   ·rw[getElem?_append_right (by simpa using hi)]at h2
    rw[List.getElem?_replicate]at h2
    split at h2<;>cases h2
  have ha:vs[i]? =some v:=by
   unfold ET at h2
   rw[List.getElem?_append_left (by simpa using hi),getElem?_map]at h2
   cases e:vs[i]? with
   |none=>rw[e]at h2;cases h2
   |some a=>rw[e]at h2;cases h2;rfl
  obtain⟨u,hu,rv⟩:=r.get ha
  have hp:ps[i]? =some y:=by
   rw[<-S.pre,List.getElem?_take_of_lt (by omega)];exact h1
  have ndP:ps.Nodup:=by rw[<-S.pre];exact S.nd.sublist (List.take_sublist _ _)
  refine⟨u,rv, ?_⟩
  rcases S.par y (mem_of_getElem? hp)with k|k
  ·exact .inl ⟨k,KR ndP hp hu k⟩
  ·obtain⟨c,e⟩:=PC (n:=s.heap.objs.size+1) k
   refine .inr ⟨.inl k,c,e, ?_⟩
   have q:=x.cell y c e
   rw[KQ ndP hp hu (by show scope.names.lookup y≠_;rw[k];decide)]at q
   exact q
 ·exact e0.hok.fresh (le_of_lt (x.above y c (PySem.mem_of_lookup h)))
 ·unfold ET
  show _=N.length
  rw[length_append,length_map,List.length_replicate]
  omega
theorem bRZ{CX:CXT}{P:Program}{w:World}{K:FZ}{mg:Str->Option Value}{base:Heap}{k:Nat}{f:Addr}{name qual:Str}{params:Arguments}{body:List Stmt}{scope:Scope}{dV kV doc pm cdv ct oc:Value}{an od:Option Addr}
  {osl:Array (Option Value)}{N ps:List Str}{sp:Sp}(lk:K.lookup f=some ⟨oc,od,.func (fnOf name qual params body scope dV kV doc pm an cdv ct),osl⟩)(hcd:PySem.W.codeIn K cdv qual=true)(S:FnScope N ps scope)
  (len:∀vs H Q E,sp vs H Q E->vs.length=ps.length)
  (hbody:∀(A:Around) (outer:List Env) (s:Shared) (H:Hp) (vs:List V) (Q:VK) (E:XK),Room k (A.deeper (envOfC qual scope s.heap.objs.size f cdv))->sp vs H Q E->
   ∃t,PSs (W7 CX P w K mg base N qual scope f cdv A outer s H E) body t/\t {nx:=λ_ H'=>Q .non H',rt:=Q} (ET N vs) H):
  FnOk P w K mg base CX (k+1) f (fnOf name qual params body scope dV kV doc pm an cdv ct) ps sp:=by
 refine⟨len,λA outer s H args us vs Q E hr e0 hb r hsp=> ?_⟩
 have hl:=len _ _ _ _ hsp
 have KX:K.In s.heap:=e0.mod.kin.keeps λb o e=>(e0.bs b o e).1
 have lim:s.heap.NoLimit:=e0.mod.nolimit.keeps λb o e=>(e0.bs b o e).1
 have hkind:∀y∈ps.zip us,scope.names.lookup y.1=some .local\/(scope.names.lookup y.1=some .cell/\((cellsFrom (s.heap.objs.size+1) scope.names []).lookup y.1).isSome=true):=λ⟨n,v⟩ hy=>by
  rcases S.par n (List.of_mem_zip hy).1 with q|q
  ·exact .inl q
  ·exact .inr ⟨q,PySem.W.cellsFrom_some _ _ _ (.inl q)⟩
 refine codeAny_call_function hr.depth (KX _ _ lk) rfl S.co S.gen rfl (PySem.W.codeRec_of KX hcd) (hb _ _ _ _ ?_)
 refine wpAny_newFunctionEnv_cells S.kind hkind λenv he s1 x=> ?_
 subst he
 refine⟨lim.keeps x.toInCall.keep,codeAny_func ?_⟩
 obtain⟨t,ht,hq⟩:=hbody A outer s H vs Q E (hr.deeper _) hsp
 have I:Inv (W7 CX P w K mg base N qual scope f cdv A outer s H E) [] (ET N vs) H s1:=XG S hr.hd e0 hl r x
 refine wpAny_mono (ht [] s1 (ET N vs) H _ I hq) (λfl s' hs=> ?_) λe s' hs=>hs
 have fin:∀ {σ':St} {H':Hp} {v:V} {u:Value},Inv (W7 CX P w K mg base N qual scope f cdv A outer s H E) [] σ' H' s'->RelV v u->Q v H'->CE outer P w H s Q u s':=
  λ{σ' H' v u} J rv q=>⟨v,H',J.os,J.bare,J.base,J.hok,rv,q⟩
 cases fl with
 |ret u=>
  obtain⟨v,σ',H',J,rv,q⟩:=hs
  exact fin J rv q
 |next=>
  obtain⟨σ',H',J,q⟩:=hs
  exact fin (v:=V.non) (u:=Value.none) J rfl q
 |brk=>
  obtain⟨_,_,_,q⟩:=hs
  exact False.elim q
 |cont=>
  obtain⟨_,_,_,q⟩:=hs
  exact False.elim q
section
variable{X:Cx}{x:Str}{p pos:Pos}{e:Expr}{es:List Expr}{t:TA}{id T:String}{r:List V->Hp->VK->Prop}
def tCB(r:List V->Hp->VK->Prop)(t:TA):TE:=fun σ H Q=>t σ H λvs H1=>r vs H1 Q
theorem C8(hc:CallR X (.builtin id) r)(hg:Gl X x)(hm:X.mg x=none)(hv:bootBuiltins x=some (.builtin id))(ha:PA X (e::es) t)(hn:x≠ "__name__":=by decide)(hdb:(x==("__debug__":Str))=false:=by decide)
  (he:starEach (e::es) X.env=(false,eval e X.env)::starEach es X.env:=by rfl)(hpl:(backTo pos (starEach es X.env)).any (·.1)=false:=by rfl):PE X (.Call (.Name x p) (e::es) [] pos) (tCB r t):=by
 intro pins s σ H Q I h
 refine wpAny_Call_Name_kw (MN I hg hm hv ?_ hn hdb)
 exact PyProof.Rows.callWith_builtin1 (thn (ha pos pins s σ H _ I h) λus s1 ⟨vs,H1,I1,r1,q1⟩=>hc pins s1 σ H1 vs us Q I1 r1 q1) he hpl
theorem L9(hc:CallR X (.type T) r)(hg:Gl X x)(hm:X.mg x=none)(hv:bootBuiltins x=some (.type T))(ha:PA X (e::es) t)(hn:x≠ "__name__":=by decide)(hdb:(x==("__debug__":Str))=false:=by decide)
  (he:starEach (e::es) X.env=(false,eval e X.env)::starEach es X.env:=by rfl)(hpl:(backTo pos (starEach es X.env)).any (·.1)=false:=by rfl):PE X (.Call (.Name x p) (e::es) [] pos) (tCB r t):=by
 intro pins s σ H Q I h
 refine wpAny_Call_Name_kw (MN I hg hm hv ?_ hn hdb)
 exact PyProof.Rows.callWith_type1 (thn (ha pos pins s σ H _ I h) λus s1 ⟨vs,H1,I1,r1,q1⟩=>hc pins s1 σ H1 vs us Q I1 r1 q1) he hpl
end
end L2
namespace HT
open PySem PyProof.Rows
section
open PySem.SeqAt
open PySem.AutoSeq1 (wpAny_loadPart')
open PySem.MeetsSeq PySem.MeetsSeq2 PySem.MeetsSeq3
end
section
variable{prog:Program}{w:World}{A:Around}{E:Value->Shared->Prop}{s:Shared}
def sIx(n d:Nat):Option Int->Nat
 |none=>d
 |some v=>if v<0 then(v+(n:Int)).toNat else min v.toNat n
theorem sIx_none(n d:Nat):sIx n d none=d:=rfl
theorem sIx_nat(n d k:Nat):sIx n d (some (k:Int))=min k n:=by
 show(if(k:Int)<0 then((k:Int)+(n:Int)).toNat else min (k:Int).toNat n)=min k n
 rw[if_neg (by omega),Int.toNat_natCast]
theorem ckZ(n d:Nat)(hd:d<=n)(o:Option Int):sIx n d o<=n:=by
 cases o with
 |none=>exact hd
 |some v=>
  show(if v<0 then(v+(n:Int)).toNat else min v.toNat n)<=n
  by_cases hv:v<0
  ·rw[if_pos hv];omega
  ·rw[if_neg hv];exact Nat.min_le_right _ _
theorem UM(v:Int)(n d:Nat):(if v<0 then max (v+(n:Int)) 0 else min v (n:Int))=((sIx n d (some v):Nat):Int):=by
 show(if v<0 then max (v+(n:Int)) 0 else min v (n:Int))=(((if v<0 then(v+(n:Int)).toNat else min v.toNat n):Nat):Int)
 by_cases hv:v<0
 ·simp only[if_pos hv];omega
 ·simp only[if_neg hv];omega
theorem QZ(lo hi:Option Int)(n:Nat):Builtin.Slice.sliceAdjust lo hi 1 (n:Int)=(((sIx n 0 lo:Nat):Int),((sIx n n hi:Nat):Int)):=by
 have h1:¬((1:Int)<0):=by omega
 unfold Builtin.Slice.sliceAdjust
 simp only[h1,if_false]
 refine Prod.ext ?_ ?_
 ·cases lo with
  |none=>rfl
  |some v=>exact UM v n 0
 ·cases hi with
  |none=>rfl
  |some v=>exact UM v n n
theorem SW(i j:Nat):Builtin.Slice.slicePlaces (i:Int) (j:Int) 1=j - i:=by
 unfold Builtin.Slice.slicePlaces
 have h1:(1:Int)>0:=by omega
 simp only[h1,if_true,Int.ediv_one]
 split<;>omega
theorem IW{v:Value}{o:Option Int}{Q:Option Int->Shared->Prop}(p:IsPart v o)(h:Q o s):wpAny (model prog w) A (Builtin.Slice.slicePartIndex v) Q E s:=by
 cases p with
 |none=>exact slicePart_none h
 |int i t=>exact slicePart_int h
theorem FC{sl:Addr}{vl vu:Value}{lo hi:Option Int}{n:Nat}{Q:Int×Int×Nat->Shared->Prop}(hs:s.heap.IsSliceOf sl vl vu .none)(pl:IsPart vl lo)(pu:IsPart vu hi)
  (h:Q (((sIx n 0 lo:Nat):Int),1,sIx n n hi - sIx n 0 lo) s):wpAny (model prog w) A (Builtin.Slice.sliceApplied (.ref sl) (pure (n:Int))) Q E s:=by
 obtain⟨os,hos,hcs,hds⟩:=id hs
 unfold Builtin.Slice.sliceApplied Builtin.Slice.sliceFields
 refine bZ (bZ (wpAny_field hos hds (x:=vl) rfl (bZ (wpAny_field hos hds (x:=vu) rfl (bZ (wpAny_field hos hds (x:=.none) rfl (pZ ?_)))))))
 refine bZ (slicePart_none ?_)
 show wpAny _ _ (if((1:Int)==0)=true then _ else _) _ _ s
 rw[if_neg (by decide)]
 refine bZ (IW pl (bZ (IW pu (bZ (pZ ?_)))))
 show wpAny _ _ (match Builtin.Slice.sliceAdjust lo hi 1 (n:Int)with|(lo,hi)=>pure (lo,(1:Int),Builtin.Slice.slicePlaces lo hi 1)) _ _ s
 rw[QZ lo hi n]
 show wpAny _ _ (pure (((sIx n 0 lo:Nat):Int),(1:Int),Builtin.Slice.slicePlaces ((sIx n 0 lo:Nat):Int) ((sIx n n hi:Nat):Int) 1)) _ _ s
 rw[SW]
 exact pZ h
theorem aiZ(xs:Array Value)(i k:Nat):((List.range k).filterMap λ(m:Nat)=>xs[((i:Int)+(m:Int)*1).toNat]?).toArray=((xs.toList.drop i).take k).toArray:=by
 have e:(λ(m:Nat)=>xs[((i:Int)+(m:Int)*1).toNat]?)=λm=>xs[i+m]? :=by
  funext m
  have:((i:Int)+(m:Int)*1).toNat=i+m:=by omega
  rw[this]
 rw[e]
 have:=pick_run xs i k
 rw[List.filterMap_map]at this
 have e2:((λx=>xs[x]?)∘λx=>i+x)=λm=>xs[i+m]? :=rfl
 rw[e2]at this
 rw[this]
theorem getItem_tuple_cut{t sl:Addr}{items:Array Value}{vl vu:Value}{lo hi:Option Int}{Q:Value->Shared->Prop}(ht:IsTup s.heap t items)(hs:s.heap.IsSliceOf sl vl vu .none)(pl:IsPart vl lo)(pu:IsPart vu hi)
  (hw:¬(sIx items.size 0 lo=0/\sIx items.size items.size hi=items.size))
  (h:Q (.ref s.heap.objs.size) {s with heap:=s.heap.push {cls:=.type "tuple",data:=.seq ((items.toList.drop (sIx items.size 0 lo)).take (sIx items.size items.size hi - sIx items.size 0 lo)).toArray}})
  (hsz:items.size<=sizeLine):wpAny (model prog w) A (getItem (.ref t) (.ref sl)) Q E s:=by
 have htake:sizeOk (.seq ((items.toList.drop (sIx items.size 0 lo)).take (sIx items.size items.size hi - sIx items.size 0 lo)).toArray):=by
  show((items.toList.drop (sIx items.size 0 lo)).take (sIx items.size items.size hi - sIx items.size 0 lo)).toArray.size<=sizeLine
  rw[size_toArray,length_take,length_drop,Array.length_toList]
  omega
 have hj:sIx items.size items.size hi<=items.size:=ckZ _ _ (le_refl _) hi
 obtain⟨os,hos,hcs,hds⟩:=id hs
 have hTs:s.TypeIs (.ref sl) "slice":=⟨os,hos,hcs⟩
 unfold getItem
 try with_reducible refine wpAny_holding ?_
 first|refine bZ (pZ ?_)|skip
 refine bZ (wpAny_sequenceKey ht.typeIs (by decide) ?_)
 refine bZ (wpAny_callSpecial?_slot (name:=Str.ofString "__getitem__") ht.typeIs PyProof.Rows.slot_tuple_getitem
  (wpAny_call_entry PyProof.Rows.slot_tuple_getitem ht.typeIs entry_tuple_getitem ?_ (args_tuple_getitem _ _)))
 show wpAny _ _ (Builtin.Tuple.tupleItemsOf (.ref t)>>=_) _ _ s
 refine bZ (tupleItemsOf_ ht ?_)
 refine bZ (wpAny_typeOf hTs ?_)
 rw[if_pos (by decide)]
 refine bZ (FC hs pl pu ?_)
 have hno:¬((((sIx items.size 0 lo:Nat):Int)==0&&(1:Int)==1&&(sIx items.size items.size hi - sIx items.size 0 lo)==items.size)=true):=by
  intro q
  rw[Bool.and_eq_true,Bool.and_eq_true]at q
  have q1:((sIx items.size 0 lo:Nat):Int)=0:=eq_of_beq q.1.1
  have q2:sIx items.size items.size hi - sIx items.size 0 lo=items.size:=eq_of_beq q.2
  exact hw ⟨by omega,by omega⟩
 show wpAny _ _ (if(((sIx items.size 0 lo:Nat):Int)==0&&(1:Int)==1&&(sIx items.size items.size hi - sIx items.size 0 lo)==items.size)=true then _ else _) _ _ s
 rw[if_neg hno,aiZ]
 first
  |exact bZ (m:=Builtin.Tuple.tupleExact _) (wpAny_newObj_type (pZ ⟨_,rfl,pZ h⟩) htake)
  |exact bZ (m:=Builtin.Tuple.tupleExact _) (wpAny_newObj_type (bZ (pZ (pZ ⟨_,rfl,pZ h⟩))) htake)
  |exact bZ (bZ (m:=Builtin.Tuple.tupleExact _) (wpAny_newObj_type (pZ (pZ ⟨_,rfl,pZ h⟩)) htake))
  |exact bZ (bZ (m:=Builtin.Tuple.tupleExact _) (wpAny_newObj_type (pZ ⟨_,rfl,pZ h⟩) htake))
end
end HT
namespace L2
open PySem PySem.Spec PyProof.Rows
abbrev TO:=St->Hp->(Option Int->Hp->Prop)->Prop
def PO(X:Cx)(e:Option Expr)(t:TO):Prop:=
 ∀(pins:List (Addr×Obj)) (s:Shared) (σ:St) (H:Hp) (Q:Option Int->Hp->Prop),Inv X pins σ H s->t σ H Q->
  wpAny (model X.prog X.w) X.A (evalPart e X.env) (λu s'=>∃o H',Inv X pins σ H' s'/\IsPart u o/\Q o H') X.xe s
def bCZ:TO:=λ_ H Q=>Q none H
def dBZ(t:TE):TO:=fun σ H Q=>t σ H λx H1=>∃i,x=.int i/\Q (some i) H1
theorem SL{ns:List Int}:∀ {us:List Value},Vals (ns.map V.int) us->IntsAre us ns:=by
 induction ns with
 |nil=>intro us r;rw[map_nil]at r;cases r;exact .nil
 |cons n ns ih=>
  intro us r
  rw[map_cons]at r
  cases r with
  |cons r1 r2=>
   obtain⟨t,e⟩:=r1
   subst e
   exact .cons n t (ih r2)
section
variable{X:Cx}{e:Expr}{te:TE}{lo hi:Option Expr}{tl th:TO}{pos p2:Pos}
theorem T5:PO X none bCZ:=by
 intro pins s σ H Q I h
 rw[evalPart_none]
 exact pZ ⟨none,H,I,.none,h⟩
theorem O2(h:PE X e te):PO X (some e) (dBZ te):=by
 intro pins s σ H Q I hw
 rw[evalPart_some]
 refine thn (h pins s σ H _ I hw) λu s1 ⟨x,H1,I1,r1,q1⟩=> ?_
 obtain⟨i,rfl,q⟩:=q1
 obtain⟨t,rfl⟩:=r1
 exact⟨some i,H1,I1,.int i t,q⟩
def SlR(X:Cx)(r:V->Option Int->Option Int->Hp->VK->Prop):Prop:=
 ∀(pins:List (Addr×Obj)) (s:Shared) (σ:St) (H:Hp) (x:V) (v vl vu:Value) (lo hi:Option Int) (sl:Addr) (Q:VK),Inv X pins σ H s->RelV x v->s.heap.IsSliceOf sl vl vu .none->IsPart vl lo->IsPart vu hi->r x lo hi H Q->
  ∃T id,typeLookup (.type T) "__getitem__"=pure (some (.builtin id))/\s.TypeIs v T/\wpAny (model X.prog X.w) X.A (getItem v (.ref sl)) (EP X pins σ Q) X.xe s
theorem SlR.or{r r':V->Option Int->Option Int->Hp->VK->Prop}(h:SlR X r)(h':SlR X r'):SlR X (λx lo hi H Q=>r x lo hi H Q\/r' x lo hi H Q):=by
 intro pins s σ H x v vl vu lo hi sl Q I rx hs pl pu q
 rcases q with q|q
 ·exact h pins s σ H x v vl vu lo hi sl Q I rx hs pl pu q
 ·exact h' pins s σ H x v vl vu lo hi sl Q I rx hs pl pu q
def tSl(r:V->Option Int->Option Int->Hp->VK->Prop)(te:TE)(tl th:TO):TE:=fun σ H Q=>te σ H λx H1=>tl σ H1 λl H2=>th σ H2 λu H3=>r x l u H3 Q
theorem N9{r:V->Option Int->Option Int->Hp->VK->Prop}(hr:SlR X r)(he:PE X e te)(hl:PO X lo tl)(hu:PO X hi th):PE X (.Subscript e (.Slice lo hi none p2) pos) (tSl r te tl th):=by
 intro pins s σ H Q I h
 refine Subscript_ (thn (he pins s σ H _ I h) λv s1 ⟨x,H1,I1,r1,q1⟩=> ?_)
 refine wpAny_Slice (thn (hl pins s1 σ H1 _ I1 q1) λvl s2 ⟨l,H2,I2,pl,q2⟩=>thn (hu pins s2 σ H2 _ I2 q2) λvu s3 ⟨u,H3,I3,pu,q3⟩=> ?_)
 rw[evalPart_none]
 refine pZ ?_
 have I4:Inv X pins σ H3 {s3 with heap:=s3.heap.push {cls:=.type "slice",data:=.fields #[vl,vu,.none]}}:=I3.kept (t':=s3.toks) λb ob q=>gZ _ q
 obtain⟨T,id,hT,ht,hg⟩:=hr pins {s3 with heap:=s3.heap.push {cls:=.type "slice",data:=.fields #[vl,vu,.none]}} σ H3 x v vl vu l u s3.heap.objs.size Q I4 r1 (Heap.IsSliceOf.new ..) pl pu q3
 show wpAny (model X.prog X.w) X.A (subscriptTail e (.Slice lo hi none p2) v (.ref s3.heap.objs.size)) (EP X pins σ Q) X.xe {s3 with heap:=s3.heap.push {cls:=.type "slice",data:=.fields #[vl,vu,.none]}}
 exact tail_any (ops:=[.ref s3.heap.objs.size,v]) ht hT hg (by with_unfolding_all rfl)
def Z0(xs:List V)(lo hi:Option Int):List V:=(xs.drop (HT.sIx xs.length 0 lo)).take (HT.sIx xs.length xs.length hi - HT.sIx xs.length 0 lo)
theorem FX(xs:List V)(lo hi:Option Int):(Z0 xs lo hi).length<=xs.length:=by
 unfold Z0
 rw[length_take,length_drop]
 omega
inductive rSlT (K:FZ) (x:V) (lo:Option Int) (hi:Option Int) (H:Hp) (Q:VK):Prop
 |mk:∀a xs,(x=.ref a)->(SqT K H a xs)->(¬(HT.sIx xs.length 0 lo=0/\HT.sIx xs.length xs.length hi=xs.length))->(∀p,H p=none->Q (.ref p) (upd H p (.tup (Z0 xs lo hi))))->rSlT K x lo hi H Q
theorem c6Z:SlR X (rSlT X.K):=by
 intro pins s σ H x v vl vu lo hi sl Q I rx hs pl pu h
 obtain⟨a,xs,rfl,hx,hw,q⟩:=h
 cases rx
 obtain⟨its,r,ht,hz⟩:=I.tuple hx
 have hlen:its.toArray.size=xs.length:=by rw[size_toArray];exact r.length.symm
 refine⟨"tuple",_,PyProof.Rows.slot_tuple_getitem.lookup,ht.typeIs, ?_⟩
 refine HT.getItem_tuple_cut ht hs pl pu (by rw[hlen];exact hw) ?_ (by rw[hlen];exact hz)
 rw[hlen]
 refine⟨.ref s.heap.objs.size,_,I.laid (t':=s.toks) (o:=.tup (Z0 xs lo hi)) (λb ob q=>gZ _ q) (le_refl _) ?_,rfl,q _ (I.hok.fresh (le_refl _))⟩
 exact⟨le_trans (FX xs lo hi) hz,_,(r.drop (HT.sIx xs.length 0 lo)).take (HT.sIx xs.length xs.length hi - HT.sIx xs.length 0 lo),IsTup.new _ _⟩
end
def ixN(n:Nat)(i:Int):Option Nat:=if 0<=i then(if i<n then some i.toNat else none)else if -(n:Int)<=i then some (i+n).toNat else none
def atI{α:Type}(xs:List α)(i:Int):Option α:=(ixN xs.length i).bind λj=>xs[j]?
theorem TL{n:Nat}{i:Int}{j:Nat}(h:ixN n i=some j):seqIndex? i n=some j/\j<n/\ -(n:Int)<=i/\i<n:=by
 unfold ixN at h
 by_cases h0:0<=i
 ·rw[if_pos h0]at h
  by_cases h1:i<n
  ·rw[if_pos h1]at h
   have e:i.toNat=j:=Option.some.inj h
   exact⟨by rw[seqIndex_of h0 h1,e],by omega,by omega,h1⟩
  ·rw[if_neg h1]at h;cases h
 ·rw[if_neg h0]at h
  by_cases h1: -(n:Int)<=i
  ·rw[if_pos h1]at h
   have e:(i+n).toNat=j:=Option.some.inj h
   exact⟨by rw[seqIndex_neg (by omega) h1,e],by omega,h1,by omega⟩
  ·rw[if_neg h1]at h;cases h
theorem MH{α:Type}{xs:List α}{i:Int}{v:α}(h:atI xs i=some v):∃j,seqIndex? i xs.length=some j/\xs[j]? =some v/\j<xs.length/\ -(xs.length:Int)<=i/\i<xs.length:=by
 unfold atI at h
 cases e:ixN xs.length i with
 |none=>rw[e]at h;cases h
 |some j=>
  rw[e]at h
  obtain⟨h1,h2,h3,h4⟩:=TL e
  exact⟨j,h1,h,h2,h3,h4⟩
theorem V5{α:Type}{xs:List α}{j:Nat}{v:α}(h:xs[j]? =some v):atI xs (j:Int)=some v:=by
 have hj:j<xs.length:=(List.getElem?_eq_some_iff.mp h).1
 have e:ixN xs.length (j:Int)=some j:=by
  unfold ixN
  rw[if_pos (by omega),if_pos (by omega)];simp
 unfold atI;rw[e];exact h
def UC(b:Expr):Prop:=∀o i,subscripted b false o i=operate [o,i] (getItem o i)
def IxR(X:Cx)(r:R2):Prop:=
 ∀(value slice:Expr) (pins:List (Addr×Obj)) (s:Shared) (σ:St) (H:Hp) (x y:V) (v u:Value) (Q:VK),Inv X pins σ H s->RelV x v->RelV y u->r x y H Q->
  subscripted slice false v u=operate [v,u] (getItem v u)->wpAny (model X.prog X.w) X.A (subscriptTail value slice v u) (EP X pins σ Q) X.xe s
def MtR(X:Cx)(id:String)(r:V->List V->Hp->VK->Prop):Prop:=
 ∀(pins:List (Addr×Obj)) (s:Shared) (σ:St) (H:Hp) (x:V) (xs:List V) (v:Value) (us:List Value) (Q:VK),Inv X pins σ H s->RelV x v->Vals xs us->r x xs H Q->
  wpAny (model X.prog X.w) X.A (call (.builtin id) (v::us)) (EP X pins σ Q) X.xe s
section
variable{X:Cx}{a b:Expr}{ta tb:TE}{pos:Pos}
theorem IxR.or{r r':R2}(h:IxR X r)(h':IxR X r'):IxR X (λx y H Q=>r x y H Q\/r' x y H Q):=by
 intro value slice pins s σ H x y v u Q I rx ry q hs
 rcases q with q|q
 ·exact h value slice pins s σ H x y v u Q I rx ry q hs
 ·exact h' value slice pins s σ H x y v u Q I rx ry q hs
theorem IZ{r:R2}(hr:IxR X r)(ha:PE X a ta)(hb:PE X b tb)(hs:UC b):PE X (.Subscript a b pos) (tOp r ta tb):=by
 intro pins s σ H Q I h
 exact Subscript_ (cIZ ha hb I h λv u s2 x y H2 I2 rx ry q=>hr a b pins s2 σ H2 x y v u Q I2 rx ry q (hs _ _))
inductive rIxL (K:FZ) (x:V) (y:V) (H:Hp) (Q:VK):Prop
 |mk:∀p xs i v,(x=.ref p)->(y=.int i)->(SqL K H p xs)->(atI xs i=some v)->(Q v H)->rIxL K x y H Q
inductive rIxT (K:FZ) (x:V) (y:V) (H:Hp) (Q:VK):Prop
 |mk:∀p xs i v,(x=.ref p)->(y=.int i)->(SqT K H p xs)->(atI xs i=some v)->(Q v H)->rIxT K x y H Q
inductive rIxS (x:V) (y:V) (H:Hp) (Q:VK):Prop
 |mk:∀z i c,(x=.str z)->(y=.int i)->(z.length<=sizeLine)->(atI z.cps.toList i=some c)->(Q (.str ⟨#[c]⟩) H)->rIxS x y H Q
theorem ix_list:IxR X (rIxL X.K):=by
 intro value slice pins s σ H x y v u Q I rx ry h hs
 obtain⟨p,xs,i,z,rfl,rfl,hq,he,q⟩:=h
 cases rx
 obtain⟨t,rfl⟩:=ry
 obtain⟨its,r,pl,hz⟩:=I.list hq
 obtain⟨j,h1,h2,h3,h4,h5⟩:=MH he
 obtain⟨w,ew,rw'⟩:=r.get h2
 have hl:=r.length
 have hn:=FG
 have fin:EP X pins σ Q w s:=⟨z,H,I,rw',q⟩
 by_cases h0:0<=i
 ·have hj:i.toNat=j:=by
   rw[seqIndex_of h0 h5]at h1
   exact Option.some.inj h1
  exact item_listR pl.isList h0 (by omega) (by rw[hj];simpa using ew) fin hs
 ·have hj:(i+(its.toArray.size:Int)).toNat=j:=by
   rw[seqIndex_neg (by omega) h4]at h1
   rw[size_toArray,<-hl]
   exact Option.some.inj h1
  exact subscriptTail_builtinR (x:=w) pl.isList.typeIs slot_list_getitem.lookup
   (wpAny_getItem_list_neg (Q:=λr s'=>r=w/\EP X pins σ Q r s') pl.isList (by omega) (by rw[size_toArray]<;>omega) (by omega) (by rw[hj];simpa using ew) ⟨rfl,fin⟩) hs
theorem ix_tup:IxR X (rIxT X.K):=by
 intro value slice pins s σ H x y v u Q I rx ry h hs
 obtain⟨p,xs,i,z,rfl,rfl,hq,he,q⟩:=h
 cases rx
 obtain⟨t,rfl⟩:=ry
 obtain⟨its,r,pl,hz⟩:=I.tuple hq
 obtain⟨j,h1,h2,h3,h4,h5⟩:=MH he
 obtain⟨w,ew,rw'⟩:=r.get h2
 have hl:=r.length
 have hn:=FG
 have fin:EP X pins σ Q w s:=⟨z,H,I,rw',q⟩
 exact subscriptTail_builtinR (x:=w) pl.typeIs slot_tuple_getitem.lookup
  (getItem_tuple (j:=j) (Q:=λr s'=>r=w/\EP X pins σ Q r s') pl (by omega) (by omega) (by rw[size_toArray,<-hl];exact h1) (by simpa using ew) ⟨rfl,fin⟩) hs
theorem ix_str:IxR X rIxS:=by
 intro value slice pins s σ H x y v u Q I rx ry h hs
 obtain⟨z,i,c,rfl,rfl,hz,he,q⟩:=h
 obtain⟨t,rfl⟩:=rx
 obtain⟨t',rfl⟩:=ry
 obtain⟨j,h1,h2,h3,h4,h5⟩:=MH he
 have hl:z.cps.toList.length=z.length:=by simp[Str.length]
 rw[hl]at h1 h4 h5
 have hn:=FG
 exact tail_any (typeIs_str s z t) slot_str_getitem.lookup (getItem_str (c:=c) (by
  have e1:decide (i< -(2^63:Int))=false:=decide_eq_false (by omega)
  have e2:decide (i≥2^63)=false:=decide_eq_false (by omega)
  rw[e1,e2,Bool.or_false]) (by rw[h1];simpa using h2) ⟨.str ⟨#[c]⟩,H,I.tok _,⟨_,rfl⟩,q⟩) hs
theorem ST(its:List Value)(n j:Nat)(u:Value):Obj.mapSeq (·.setIfInBounds j u) {cls:=.type "list",data:=.seq its.toArray n}={cls:=.type "list",data:=.seq (its.set j u).toArray n}:=by
 simp[Obj.mapSeq]
theorem Inv.lst{pins:List (Addr×Obj)}{σ:St}{H:Hp}{s:Shared}{p:Addr}{xs:List V}(I:Inv X pins σ H s)(h:H p=some (.lst xs)):
  ∃(its:List Value) (n:Nat),Vals xs its/\s.heap.get? p=some {cls:=.type "list",data:=.seq its.toArray n}/\xs.length<=sizeLine:=by
 obtain⟨z,its,n,r,e⟩:=I.hok p _ h
 exact⟨its,n,r,e,z⟩
theorem Inv.lstUpd{pins:List (Addr×Obj)}{σ:St}{H:Hp}{s:Shared}{p:Addr}{xs ys:List V}{its its':List Value}{n n':Nat}{f:Obj->Obj}(I:Inv X pins σ H s)(h:H p=some (.lst xs))
  (ho:s.heap.get? p=some {cls:=.type "list",data:=.seq its.toArray n})(hf:f {cls:=.type "list",data:=.seq its.toArray n}={cls:=.type "list",data:=.seq its'.toArray n'})(r:Vals ys its')(hz:ys.length<=sizeLine)(t:Nat):
  Inv X pins σ (upd H p (.lst ys)) {s with heap:=s.heap.update p f,toks:=t}:=by
 have e:(s.heap.update p f).get? p=some {cls:=.type "list",data:=.seq its'.toArray n'}:=by
  rw[Heap.get?_update_self f ho (by rw[hf]<;>rfl),hf]
 refine I.write (x:=p) (e:=p) (by rw[h];trivial) (.inl rfl) (λb u hb q=>(Heap.get?_update_other _ _ (Ne.symm hb)).trans q) ⟨_,e⟩ ?_
 exact⟨hz,its',n',r,e⟩
inductive rSetL (o:V) (i:V) (v:V) (H:Hp) (Q:Hp->Prop):Prop
 |mk:∀p xs k j,(o=.ref p)->(i=.int k)->(H p=some (.lst xs))->(ixN xs.length k=some j)->(Q (upd H p (.lst (xs.set j v))))->rSetL o i v H Q
theorem HV:doZ X rSetL:=by
 intro pins s σ H o i v ov iv u Q I ro ri rv h
 obtain⟨p,xs,k,j,rfl,rfl,hp,hj,q⟩:=h
 cases ro
 obtain⟨t,rfl⟩:=ri
 obtain⟨its,n,r,ho,hz⟩:=I.lst hp
 obtain⟨h1,h2,h3,h4⟩:=TL hj
 have hl:=r.length
 have hn:=FG
 have I':Inv X pins σ (upd H p (.lst (xs.set j v))) {s with heap:=s.heap.update p (Obj.mapSeq (·.setIfInBounds j u))}:=
  I.lstUpd hp ho (ST its n j u) (r.set rv j) (by rw[length_set];exact hz) s.toks
 by_cases h0:0<=k
 ·have hk:k.toNat=j:=by
   rw[seqIndex_of h0 h4]at h1
   exact Option.some.inj h1
  exact PySem.W.ki_setAt ho h0 (by omega) (by rw[size_toArray,<-hl];exact h4) (by rw[hk];exact⟨_,I',q⟩)
 ·have hk:(k+(its.toArray.size:Int)).toNat=j:=by
   rw[seqIndex_neg (by omega) h3]at h1
   rw[size_toArray,<-hl]
   exact Option.some.inj h1
  exact PySem.W.ki_setBack ho (by omega) (by rw[size_toArray,<-hl];exact h3) (by omega) (by rw[hk];exact⟨_,I',q⟩)
theorem NC(lo hi:Option Int)(n:Nat):(sliceBounds lo hi none n).1=((HT.sIx n 0 lo:Nat):Int)/\(sliceBounds lo hi none n).2.1=((HT.sIx n n hi:Nat):Int)/\(sliceBounds lo hi none n).2.2=1:=by
 refine⟨?_, ?_,rfl⟩
 ·cases lo with
  |none=>simp[sliceBounds,HT.sIx]
  |some i=>
   simp only[sliceBounds,HT.sIx,Option.getD_none,show(1:Int)>0 by decide,if_true]
   by_cases h:i<0
   ·simp only[h,if_true]<;>omega
   ·simp only[h,if_false]<;>omega
 ·cases hi with
  |none=>simp[sliceBounds,HT.sIx]
  |some i=>
   simp only[sliceBounds,HT.sIx,Option.getD_none,show(1:Int)>0 by decide,if_true]
   by_cases h:i<0
   ·simp only[h,if_true]<;>omega
   ·simp only[h,if_false]<;>omega
theorem JY(its:List Value)(lo hi:Option Int):slicePick its.toArray lo hi none=((its.drop (HT.sIx its.length 0 lo)).take (HT.sIx its.length its.length hi - HT.sIx its.length 0 lo)).toArray:=by
 obtain⟨h1,h2,h3⟩:=NC lo hi its.toArray.size
 unfold slicePick
 rw[h1,h2,h3]
 simp only[sliceRange_one,pick_run,size_toArray]<;>rfl
inductive rSlL (K:FZ) (x:V) (lo:Option Int) (hi:Option Int) (H:Hp) (Q:VK):Prop
 |mk:∀a xs,(x=.ref a)->(SqL K H a xs)->(∀p,H p=none->Q (.ref p) (upd H p (.lst (Z0 xs lo hi))))->rSlL K x lo hi H Q
theorem sl_list:SlR X (rSlL X.K):=by
 intro pins s σ H x v vl vu lo hi sl Q I rx hs pl pu h
 obtain⟨a,xs,rfl,hx,q⟩:=h
 cases rx
 obtain⟨its,r,ht,hz⟩:=I.list hx
 have hlen:=r.length
 refine⟨"list",_,slot_list_getitem.lookup,ht.isList.typeIs, ?_⟩
 refine wpAny_getItem_list_slice ht.isList hs pl pu .none (by simp) ?_ (by rw[size_toArray]<;>omega)
 rw[JY,<-hlen]
 refine⟨.ref s.heap.objs.size,_,I.laid (t':=s.toks) (o:=.lst (Z0 xs lo hi)) (λb ob q=>gZ _ q) (le_refl _) ?_,rfl,q _ (I.hok.fresh (le_refl _))⟩
 exact⟨le_trans (FX xs lo hi) hz,_,0,(r.drop (HT.sIx xs.length 0 lo)).take (HT.sIx xs.length xs.length hi - HT.sIx xs.length 0 lo),get?_push_size _ rfl⟩
def GA:V->Bool
 | .non=>true
 | .bl _=>true
 | .int _=>true
 | .str _=>true
 |_=>false
def eqV:V->V->Bool
 | .non,.non=>true
 | .bl a,.bl b=>a==b
 | .bl a,.int b=>(if a then 1 else 0)==b
 | .int a,.bl b=>a==(if b then 1 else 0)
 | .int a,.int b=>a==b
 | .str a,.str b=>a==b
 |_,_=>false
theorem ddZ{A:Around}{s:Shared}{y x:V}{u v:Value}(ry:RelV y u)(rx:RelV x v)(fy:GA y=true)(fx:GA x=true):SeqAt.EqAt A s u v (eqV y x):=by
 cases y with
 |non=>
  cases ry
  cases x with
  |non=>cases rx;exact SeqAt.EqAt.same _
  |bl b=>cases rx;exact SeqAt.EqAt.none_bool b
  |int b=>obtain⟨t,rfl⟩:=rx;exact SeqAt.EqAt.none_int b t
  |str b=>obtain⟨t,rfl⟩:=rx;exact SeqAt.EqAt.none_str b t
  |_=>exact absurd (show false=true from fx) nZ
 |bl a=>
  cases ry
  cases x with
  |non=>cases rx;exact SeqAt.EqAt.bool_none a
  |bl b=>cases rx;exact SeqAt.EqAt.bool_bool a b
  |int b=>obtain⟨t,rfl⟩:=rx;exact SeqAt.EqAt.bool_int a b t
  |str b=>obtain⟨t,rfl⟩:=rx;exact SeqAt.EqAt.bool_str a b t
  |_=>exact absurd (show false=true from fx) nZ
 |int a=>
  obtain⟨t',rfl⟩:=ry
  cases x with
  |non=>cases rx;exact SeqAt.EqAt.int_none a t'
  |bl b=>cases rx;exact SeqAt.EqAt.int_bool a t' b
  |int b=>obtain⟨t,rfl⟩:=rx;exact SeqAt.EqAt.int_int a t' b t
  |str b=>obtain⟨t,rfl⟩:=rx;exact SeqAt.EqAt.int_str a t' b t
  |_=>exact absurd (show false=true from fx) nZ
 |str a=>
  obtain⟨t',rfl⟩:=ry
  cases x with
  |non=>cases rx;exact SeqAt.EqAt.str_none a t'
  |bl b=>cases rx;exact SeqAt.EqAt.str_bool a t' b
  |int b=>obtain⟨t,rfl⟩:=rx;exact SeqAt.EqAt.str_int a t' b t
  |str b=>obtain⟨t,rfl⟩:=rx;exact SeqAt.EqAt.str_str a t' b t
  |_=>exact absurd (show false=true from fx) nZ
 |_=>exact absurd (show false=true from fy) nZ
def eqU(x:V)(u:Value):Bool:=match u with
 | .none=>eqV .non x
 | .bool b=>eqV (.bl b) x
 | .int i _=>eqV (.int i) x
 | .str z _=>eqV (.str z) x
 |_=>false
theorem axZ{x y:V}{u:Value}(r:RelV y u)(f:GA y=true):eqU x u=eqV y x:=by
 cases y with
 |non=>cases r;rfl
 |bl b=>cases r;rfl
 |int i=>obtain⟨t,rfl⟩:=r;rfl
 |str z=>obtain⟨t,rfl⟩:=r;rfl
 |_=>exact absurd (show false=true from f) nZ
theorem EF{x:V}:∀ {xs:List V} {us:List Value},Vals xs us->xs.all GA=true->us.any (eqU x)=xs.any λy=>eqV y x
 |_,_,.nil,_=>rfl
 |y::xs,u::us,.cons r t,f=>by
  rw[all_cons,Bool.and_eq_true]at f
  rw[List.any_cons,List.any_cons,axZ r f.1,EF t f.2]
theorem CQ{A:Around}{s:Shared}{x:V}{v:Value}(rx:RelV x v)(fx:GA x=true):∀ {xs:List V} {us:List Value},Vals xs us->xs.all GA=true->∀u∈us,SeqAt.EqAt A s u v (eqU x u)
 |_,_,.nil,_=>λu hu=>by cases hu
 |y::xs,u::us,.cons r t,f=>λu' hu=>by
  rw[all_cons,Bool.and_eq_true]at f
  rcases cZ hu with rfl|hu
  ·rw[axZ r f.1];exact ddZ r rx f.1 fx
  ·exact CQ rx fx t f.2 u' hu
def inV(x:V)(xs:List V):Bool:=xs.any λy=>eqV y x
inductive rIn (K:FZ) (neg:Bool) (x:V) (y:V) (H:Hp) (Q:VK):Prop
 |mk:∀p xs,(y=.ref p)->((SqL K H p xs\/SqT K H p xs))->(GA x=true)->(xs.all GA=true)->(Q (.bl (if neg then !inV x xs else inV x xs)) H)->rIn K neg x y H Q
theorem op_in_seq:OpR X (compareOp .In) (rIn X.K false):=by
 intro pins s σ H x y v u Q I rx ry h
 obtain⟨p,xs,rfl,hq,fx,fs,q⟩:=h
 cases ry
 rcases hq with hq|hq
 ·obtain⟨its,r,pl,hz⟩:=I.list hq
  refine SeqAt.in_listAt (eqU x) pl.isList (λw hw=>CQ rx fx r fs w (by simpa using hw)) ⟨.bl _,H,I,rfl, ?_⟩
  rw[show its.toArray.any (eqU x)=its.any (eqU x) by simp,EF r fs]
  exact q
 ·obtain⟨its,r,pl,hz⟩:=I.tuple hq
  refine SeqAt.in_tupleAt (eqU x) pl (λw hw=>CQ rx fx r fs w (by simpa using hw)) ⟨.bl _,H,I,rfl, ?_⟩
  rw[show its.toArray.any (eqU x)=its.any (eqU x) by simp,EF r fs]
  exact q
theorem MQ:OpR X (compareOp .NotIn) (rIn X.K true):=by
 intro pins s σ H x y v u Q I rx ry h
 obtain⟨p,xs,rfl,hq,fx,fs,q⟩:=h
 cases ry
 rcases hq with hq|hq
 ·obtain⟨its,r,pl,hz⟩:=I.list hq
  refine SeqAt.notIn_listAt (eqU x) pl.isList (λw hw=>CQ rx fx r fs w (by simpa using hw)) ⟨.bl _,H,I,rfl, ?_⟩
  rw[show its.toArray.any (eqU x)=its.any (eqU x) by simp,EF r fs]
  exact q
 ·obtain⟨its,r,pl,hz⟩:=I.tuple hq
  refine SeqAt.notIn_tupleAt (eqU x) pl (λw hw=>CQ rx fx r fs w (by simpa using hw)) ⟨.bl _,H,I,rfl, ?_⟩
  rw[show its.toArray.any (eqU x)=its.any (eqU x) by simp,EF r fs]
  exact q
theorem op_notIn_str:OpR X (compareOp .NotIn) (λx y H Q=>∃i j,x=.str i/\y=.str j/\Q (.bl (!(!(Builtin.Str.occurrences j i 0 j.length 1).isEmpty))) H):=by
 intro pins s σ H x y v u Q I rx ry h
 obtain⟨i,j,rfl,rfl,q⟩:=h
 obtain⟨t,rfl⟩:=rx
 obtain⟨t',rfl⟩:=ry
 exact notIn_str ⟨.bl _,H,I,rfl,q⟩
theorem CallR.or{f:Value}{r r':List V->Hp->VK->Prop}(h:CallR X f r)(h':CallR X f r'):CallR X f (λxs H Q=>r xs H Q\/r' xs H Q):=by
 intro pins s σ H xs us Q I rs q
 rcases q with q|q
 ·exact h pins s σ H xs us Q I rs q
 ·exact h' pins s σ H xs us Q I rs q
theorem MX:CallR X (.type "list") (λxs H Q=>∃p ys,xs=[.ref p]/\(SqL X.K H p ys\/SqT X.K H p ys)/\∀l,H l=none->Q (.ref l) (upd H l (.lst ys))):=by
 intro pins s σ H xs us Q I r h
 obtain⟨p,ys,rfl,hq,q⟩:=h
 obtain⟨u,rfl,rx⟩:=CJ r
 cases rx
 have fin:∀(its:List Value),Vals ys its->ys.length<=sizeLine->∀(h':Heap) (c':Nat),(∀b o',s.heap.get? b=some o'->h'.get? b=some o')->
   h'.get? s.heap.objs.size=some {cls:=.type "list",dict:=none,data:=.seq its.toArray c',slots:= #[]}->EP X pins σ Q (.ref s.heap.objs.size) {s with heap:=h'}:=λits r' hz h' c' kp e=>
  ⟨.ref s.heap.objs.size,_,I.laid (t':=s.toks) kp (le_refl _) (show ObjOk X.prog X.w _ h' _ (.lst ys)from⟨hz,its,c',r',e⟩),rfl,q _ (I.hok.fresh (le_refl _))⟩
 rcases hq with hq|hq
 ·obtain⟨its,r',pl,hz⟩:=I.list hq
  have hlen:=r'.length
  obtain⟨o,ho,hc,n,hd⟩:=pl.isList
  exact call_list_seq p (.inl rfl) ho hc hd (λh' c' kp e=>fin its r' hz h' c' kp e) (by simp only[size_toArray]<;>omega)
 ·obtain⟨its,r',pl,hz⟩:=I.tuple hq
  have hlen:=r'.length
  obtain⟨o,ho,hc,n,hd⟩:=pl
  exact call_list_seq p (.inr rfl) ho hc hd (λh' c' kp e=>fin its r' hz h' c' kp e) (by simp only[size_toArray]<;>omega)
theorem JO:CallR X (.type "tuple") (λxs H Q=>∃p ys,xs=[.ref p]/\((SqL X.K H p ys/\∀l,H l=none->Q (.ref l) (upd H l (.tup ys)))\/(SqT X.K H p ys/\Q (.ref p) H))):=by
 intro pins s σ H xs us Q I r h
 obtain⟨p,ys,rfl,h⟩:=h
 obtain⟨u,rfl,rx⟩:=CJ r
 cases rx
 rcases h with⟨hq,q⟩|⟨hq,q⟩
 ·obtain⟨its,r',pl,hz⟩:=I.list hq
  have hlen:=r'.length
  refine call_tuple_list pl.isList (λh' kp=> ?_) (by simp only[size_toArray]<;>omega)
  have I1:Inv X pins σ H {s with heap:=h'}:=I.kept (t':=s.toks) kp
  have I2:Inv X pins σ (upd H h'.objs.size (.tup ys)) {s with heap:=h'.push {cls:=.type "tuple",data:=.seq its.toArray}}:=
   I1.laid (t':=s.toks) (λb o e=>gZ _ e) (le_refl _) (show ObjOk X.prog X.w _ _ _ (.tup ys)from⟨hz,its,r',IsTup.new _ _⟩)
  exact⟨.ref h'.objs.size,_,I2,rfl,q _ (I1.hok.fresh (le_refl _))⟩
 ·obtain⟨its,r',pl,hz⟩:=I.tuple hq
  exact call_tuple_same pl ⟨.ref p,H,I,rfl,q⟩
def tyV(K:FZ)(T:String)(x:V)(H:Hp):Prop:=match x with
 | .str _=>T="str"
 | .int _=>T="int"
 | .ref p=>(T="list"/\∃xs,SqL K H p xs)\/(T="tuple"/\∃o,K.lookup p=some o/\o.cls=.type "tuple"/\o.dict=none)\/
   (T="dict"/\((∃kvs,H p=some (.dK kvs))\/∃kvs,H p=some (.dT kvs)))\/(T="set"/\∃S n,H p=some (.set S n))
 |_=>False
theorem YK{pins:List (Addr×Obj)}{σ:St}{H:Hp}{s:Shared}{T:String}{x:V}{v:Value}(I:Inv X pins σ H s)(r:RelV x v)(ty:tyV X.K T x H):
  s.TypeIs v T/\∀a,v=.ref a->∃ob,s.heap.get? a=some ob/\ob.dict=none:=by
 cases x with
 |str z=>
  obtain⟨t,rfl⟩:=r
  cases(show T="str"from ty)
  exact⟨typeIs_str s z t,λ_ e=>nomatch e⟩
 |int i=>
  obtain⟨t,rfl⟩:=r
  cases(show T="int"from ty)
  exact⟨typeIs_int s i t,λ_ e=>nomatch e⟩
 |ref p=>
  cases r
  rcases ty with⟨rfl,xs,hq⟩|⟨rfl,o,hk,hc,hd⟩|⟨rfl,hk⟩|⟨rfl,S,n,hk⟩
  ·obtain⟨its,_,pl,_⟩:=I.list hq
   refine⟨pl.isList.typeIs,λa e=> ?_⟩
   cases e
   obtain⟨o,n,e,c,hd,_⟩:=pl
   exact⟨o,e,hd⟩
  ·refine⟨⟨o,I.kIn p o hk,hc⟩,λa e=> ?_⟩
   cases e
   exact⟨o,I.kIn _ o hk,hd⟩
  ·have z:∃o,s.heap.get? p=some o/\o.ExactDict:=by
    rcases hk with⟨kvs,hk⟩|⟨kvs,hk⟩
    ·obtain⟨_,_,_,_,o,_,_,e,ex,_⟩:=I.hok p _ hk
     exact⟨o,e,ex⟩
    ·obtain⟨_,_,_,_,o,_,_,e,ex,_⟩:=I.hok p _ hk
     exact⟨o,e,ex⟩
   obtain⟨o,e,ex⟩:=z
   refine⟨⟨o,e,ex.1⟩,λa e2=> ?_⟩
   cases e2
   exact⟨o,e,ex.2.1⟩
  ·obtain⟨o,_,_,_,e,ex,_⟩:=I.hok p _ hk
   refine⟨⟨o,e,ex.1⟩,λa e2=> ?_⟩
   cases e2
   exact⟨o,e,ex.2.1⟩
 |_=>exact False.elim ty
def dhZ(K:FZ)(T:String)(r:V->List V->Hp->VK->Prop)(to:TE):TE:=fun σ H Q=>to σ H λx H1=>tyV K T x H1/\r x [] H1 Q
def tBM(K:FZ)(T:String)(r:V->List V->Hp->VK->Prop)(to:TE)(t:TA):TE:=fun σ H Q=>to σ H λx H1=>tyV K T x H1/\t σ H1 λxs H2=>r x xs H2 Q
variable{o e:Expr}{es:List Expr}{to:TE}{t:TA}{name:Str}{apos cpos:Pos}{T id:String}{r:V->List V->Hp->VK->Prop}
theorem cmZ(pa:PlainAttrs T)(slot:Slot T name id)(hty:typeOf (.builtin id)=pure (.type "method_descriptor"))(hm:MtR X id r)(ho:PE X o to)
  (hbase:attributeBase o name X.env (eval o X.env)=eval o X.env:=by rfl)(hline:(apos.endLine==cpos.line)=true:=by rfl):PE X (.Call (.Attribute o name apos) [] [] cpos) (dhZ X.K T r to):=by
 intro pins s σ H Q I h
 refine wpAny_Call_method0_late hbase hline (thn (ho pins s σ H _ I h) λv s1 ⟨x,H1,I1,r1,ty,q1⟩=> ?_)
 obtain⟨h1,h2⟩:=YK I1 r1 ty
 exact⟨T,id,pa,slot,hty,h1,h2,Calls.callWith_builtin rfl (PySem.evalArgs_none (hm pins s1 σ H1 x [] v [] Q I1 r1 .nil q1))⟩
theorem dIZ(pa:PlainAttrs T)(slot:Slot T name id)(hty:typeOf (.builtin id)=pure (.type "method_descriptor"))(hm:MtR X id r)(ho:PE X o to)(ha:PA X (e::es) t)
  (hbase:attributeBase o name X.env (eval o X.env)=eval o X.env:=by rfl)
  (hfew:((backTo cpos (starEach (e::es) X.env)).all (λx=> !x.1)&&(backToKw cpos (keywordEach [] X.env)).all (λx=>x.1.isSome)
   &&decide ((e::es).length+([]:List Keyword).length+(if([]:List Keyword).isEmpty then 0 else 1)<30))=true:=by rfl)
  (hline:(apos.endLine==cpos.line)=true:=by rfl)(hs:starEach (e::es) X.env=(false,eval e X.env)::starEach es X.env:=by rfl)(hplain:(backTo cpos (starEach es X.env)).any (·.1)=false:=by rfl):
  PE X (.Call (.Attribute o name apos) (e::es) [] cpos) (tBM X.K T r to t):=by
 intro pins s σ H Q I h
 refine wpAny_Call_method_late hbase hfew hline rfl (thn (ho pins s σ H _ I h) λv s1 ⟨x,H1,I1,r1,ty,q1⟩=> ?_)
 obtain⟨h1,h2⟩:=YK I1 r1 ty
 refine⟨T,id,pa,slot,hty,h1,h2, ?_⟩
 have hA:=ha cpos pins s1 σ H1 _ I1 q1
 rw[hs]at hA⊢
 refine Calls.callWith_builtin (by show(false||(backTo cpos (starEach es X.env)).any (·.1))=false;rw[hplain]<;>rfl) (Calls.evalArgs_plain ?_)
 exact thn hA λus s2 ⟨vs,H2,I2,r2,q2⟩=>hm pins s2 σ H2 x vs v us Q I2 r1 r2 q2
end
def MtM(X:Cx)(id:String)(r:V->List V->Hp->VK->Prop):Prop:=
 ∀(pins:List (Addr×Obj)) (s:Shared) (σ:St) (H:Hp) (x:V) (xs:List V) (v:Value) (us:List Value) (Q:VK),Inv X pins σ H s->RelV x v->Vals xs us->r x xs H Q->
  wpAny (model X.prog X.w) X.A (call (.builtin id) (v::us)) (EP X pins σ Q) X.xe s
theorem Vals.one:∀ {x:V} {us:List Value},Vals [x] us->∃u,us=[u]/\RelV x u
 |_,_,.cons r .nil=>⟨_,rfl,r⟩
theorem Vals.zero:∀ {us:List Value},Vals [] us->us=[]
 |_,.nil=>rfl
theorem Vals.dropLast{xs:List V}{us:List Value}(h:Vals xs us):Vals xs.dropLast us.dropLast:=by
 induction h with
 |nil=>exact .nil
 |cons r t ih=>
  cases t with
  |nil=>exact .nil
  |cons q t'=>exact .cons r ih
theorem Vals.reverse{xs:List V}{us:List Value}(h:Vals xs us):Vals xs.reverse us.reverse:=by
 induction h with
 |nil=>exact .nil
 |cons r t ih=>rw[reverse_cons,reverse_cons];exact Vals.append ih (.cons r .nil)
theorem Vals.rep{xs:List V}{us:List Value}(h:Vals xs us):∀k:Nat,Vals (List.replicate k xs).flatten (List.replicate k us).flatten
 |0=> .nil
 |k+1=>by
  rw[replicate_succ,replicate_succ,flatten_cons,flatten_cons]
  exact Vals.append h (Vals.rep h k)
theorem RE{α:Type}(l:List α):l.eraseIdx (l.length - 1)=l.dropLast:=by
 induction l with
 |nil=>rfl
 |cons a r ih=>
  cases r with
  |nil=>rfl
  |cons b r=>
   have e:(a::b::r).length - 1=((b::r).length - 1)+1:=by
    have h1:(a::b::r).length=r.length+2:=rfl
    have h2:(b::r).length=r.length+1:=rfl
    omega
   rw[e,List.eraseIdx_cons_succ,ih]
   all_goals rfl
theorem KO(its:List Value):∀(k:Nat) (acc:List Value),
  List.foldl (λx1 x2=>x1++x2) acc.toArray (List.replicate k its.toArray)=(acc++(List.replicate k its).flatten).toArray
 |0,acc=>by simp
 |k+1,acc=>by
  have e:acc.toArray++its.toArray=(acc++its).toArray:=by simp
  have e2:(acc++its)++(List.replicate k its).flatten=acc++(List.replicate (k+1) its).flatten:=by
   rw[replicate_succ,flatten_cons,List.append_assoc]
  rw[<-e2,<-KO its k (acc++its),<-e,replicate_succ,List.foldl_cons]
section
variable{X:Cx}{pins:List (Addr×Obj)}{σ:St}{H:Hp}{s:Shared}{l b:Addr}{xs ys zs:List V}
theorem Inv.lset{its its':List Value}{n:Nat}{f:Array Value->Array Value}{t':Nat}(I:Inv X pins σ H s)(hH:H l=some (.lst xs))
  (e:s.heap.get? l=some {cls:=.type "list",data:=.seq its.toArray n})(hf:f its.toArray=its'.toArray)(hv:Vals ys its')(hz:ys.length<=sizeLine):
  Inv X pins σ (upd H l (.lst ys)) {s with heap:=s.heap.update l (Obj.mapSeq f),toks:=t'}:=by
 have q:=PySem.IsL.update e f
 rw[hf]at q
 refine I.write (x:=l) (e:=l) (by rw[hH];exact trivial) (.inl rfl) (λb' u hb hu=>(Heap.get?_update_other s.heap (Obj.mapSeq f) (Ne.symm hb)).trans hu) ⟨_,q⟩ ?_
 exact⟨hz,its',_,hv,q⟩
theorem Inv.lnew{its:List Value}{t':Nat}(I:Inv X pins σ H s)(hv:Vals ys its)(hz:ys.length<=sizeLine):
  Inv X pins σ (upd H s.heap.objs.size (.lst ys)) {s with heap:=s.heap.push {cls:=.type "list",data:=.seq its.toArray},toks:=t'}:=
 I.laid (λ_ _ q=>gZ _ q) (le_refl _) ⟨hz,its,0,hv,get?_push_size _ rfl⟩
theorem Inv.fresh(I:Inv X pins σ H s):H s.heap.objs.size=none:=I.hok.fresh (le_refl _)
theorem Inv.lstM(I:Inv X pins σ H s)(hH:H l=some (.lst xs)):xs.length<=sizeLine/\∃(its:List Value) (n:Nat),Vals xs its/\xs.length=its.length/\s.heap.get? l=some {cls:=.type "list",data:=.seq its.toArray n}:=by
 obtain⟨z,its,n,r,e⟩:=I.hok l _ hH
 exact⟨z,its,n,r,r.length,e⟩
theorem OK{n:Nat}(h:n<=sizeLine):Builtin.List.listTooLong n=false:=by
 unfold Builtin.List.listTooLong
 exact decide_eq_false (by omega)
inductive rAppend(x:V)(vs:List V)(H:Hp)(Q:VK):Prop
 |mk:∀l xs y,(x=.ref l)->(vs=[y])->(H l=some (.lst xs))->(xs.length<sizeLine)->(Q .non (upd H l (.lst (xs++ [y]))))->rAppend x vs H Q
theorem Q0:MtM X "list.append" rAppend:=by
 intro pins s σ H x vs v us Q I rx rv h
 obtain⟨l,xs,y,rfl,rfl,hH,hz,q⟩:=h
 cases rx
 obtain⟨u,rfl,ru⟩:=rv.one
 obtain⟨z,its,n,r,hl,e⟩:=I.lstM hH
 refine call_meets F.slot_list_append ⟨_,e,rfl⟩ F.entry_list_append (F.args_list_append_2 _ _) (PySem.list_append l its.toArray n u (by rw[size_toArray];omega)) ⟨e, ?_⟩
 refine⟨.non,_,I.lset (its':=its++ [u]) hH e (by simp) (r.append (.cons ru .nil)) ?_,rfl,q⟩
 rw[length_append,length_singleton]
 omega
def aOZ:V->List V->Hp->VK->Prop:=λx vs H Q=>∃l b xs zs,x=.ref l/\vs=[.ref b]/\H l=some (.lst xs)/\H b=some (.lst zs)/\xs.length+zs.length<=sizeLine/\Q .non (upd H l (.lst (xs++zs)))
theorem XJ:MtM X "list.extend" aOZ:=by
 intro pins s σ H x vs v us Q I rx rv h
 obtain⟨l,b,xs,zs,rfl,rfl,hH,hB,hz,q⟩:=h
 cases rx
 obtain⟨u,rfl,ru⟩:=rv.one
 cases ru
 obtain⟨z,its,n,r,hl,e⟩:=I.lstM hH
 obtain⟨z2,its2,n2,r2,hl2,e2⟩:=I.lstM hB
 have hsz:its.toArray.size+its2.toArray.size<=sizeLine:=by rw[size_toArray,size_toArray];omega
 have hlong:¬(!its.toArray.isEmpty&&Builtin.List.listTooLong (its.toArray.size+its2.toArray.size))=true:=by
  rw[OK hsz,Bool.and_false]
  exact nZ
 refine call_meets F.slot_list_extend ⟨_,e,rfl⟩ F.entry_list_extend (F.args_list_extend_2 _ _)
  (AutoSeq1.list_extend_list_list_0 l its.toArray n b its2.toArray n2 hlong (by rw[size_toArray];omega) (by omega)) ⟨e,e2, ?_⟩
 refine⟨.non,_,I.lset (its':=its++its2) hH e (by simp) (r.append r2) ?_,rfl,q⟩
 rw[length_append]
 omega
inductive rPop (x:V) (vs:List V) (H:Hp) (Q:VK):Prop
 |mk:∀l xs y,(x=.ref l)->(vs=[])->(H l=some (.lst xs))->(xs[xs.length - 1]? =some y)->(Q y (upd H l (.lst xs.dropLast)))->rPop x vs H Q
theorem CG:MtM X "list.pop" rPop:=by
 intro pins s σ H x vs v us Q I rx rv h
 obtain⟨l,xs,y,rfl,rfl,hH,hy,q⟩:=h
 cases rx
 have hus:=rv.zero
 subst hus
 obtain⟨z,its,n,r,hl,e⟩:=I.lstM hH
 obtain⟨u,hu,ru⟩:=r.get hy
 have hy':its.toArray[its.toArray.size - 1]? =some u:=by
  show its.toArray[its.length - 1]? =some u
  rw[<-Array.getElem?_toList,<-hl]
  exact hu
 refine call_meets F.slot_list_pop ⟨_,e,rfl⟩ F.entry_list_pop (F.args_list_pop_1 _) (MeetsSeq.list_pop_last l its.toArray n u hy' (by rw[size_toArray];omega)) ⟨e, ?_⟩
 refine⟨y,_,I.lset (its':=its.dropLast) hH e ?_ r.dropLast ?_,ru,q⟩
 ·show its.toArray.eraseIdxIfInBounds (its.toArray.size - 1)=its.dropLast.toArray
  rw[size_toArray,List.eraseIdxIfInBounds_toArray,RE]
 ·rw[List.length_dropLast]
  omega
inductive rCat (x:V) (y:V) (H:Hp) (Q:VK):Prop
 |mk:∀l b xs zs,(x=.ref l)->(y=.ref b)->(H l=some (.lst xs))->(H b=some (.lst zs))->(xs.length+zs.length<=sizeLine)->(∀p,H p=none->Q (.ref p) (upd H p (.lst (xs++zs))))->rCat x y H Q
theorem cDZ:OpR X (binaryOp .Add) rCat:=by
 intro pins s σ H x y v u Q I rx ry h
 obtain⟨l,b,xs,zs,rfl,rfl,hH,hB,hz,q⟩:=h
 cases rx
 cases ry
 obtain⟨z,its,n,r,hl,e⟩:=I.lstM hH
 obtain⟨z2,its2,n2,r2,hl2,e2⟩:=I.lstM hB
 refine PySem.P.add_list e e2 ?_ (by rw[size_toArray,size_toArray];omega)
 have ea:its.toArray++its2.toArray=(its++its2).toArray:=by simp
 rw[ea]
 exact⟨.ref _,_,I.lnew (t':=s.toks) (r.append r2) (by rw[length_append];omega),rfl,q _ I.fresh⟩
def dEZ:R2:=λx y H Q=>∃l k xs,x=.ref l/\y=.int k/\H l=some (.lst xs)/\ -(2^63)<=k/\k<2^63/\xs.length*k.toNat<=sizeLine/\
 ∀p,H p=none->Q (.ref p) (upd H p (.lst (List.replicate k.toNat xs).flatten))
theorem bqZ{α:Type}(xs:List α)(k:Nat):(List.replicate k xs).flatten.length=k*xs.length:=by
 induction k with
 |zero=>simp
 |succ k ih=>rw[replicate_succ,flatten_cons,length_append,ih,Nat.succ_mul,Nat.add_comm]
theorem cUZ:OpR X (binaryOp .Mult) dEZ:=by
 intro pins s σ H x y v u Q I rx ry h
 obtain⟨l,k,xs,rfl,rfl,hH,h1,h2,hz,q⟩:=h
 cases rx
 obtain⟨t,rfl⟩:=ry
 obtain⟨z,its,n,r,hl,e⟩:=I.lstM hH
 have hlen:its.toArray.size*k.toNat<=sizeLine:=by rw[size_toArray,<-hl];exact hz
 have hcap:¬its.toArray.size*k.toNat>(2^63 - 1)/8:=by
  have:(sizeLine:Nat)<=(2^63 - 1)/8:=by decide
  omega
 have hfit:¬(!Builtin.List.listFitsIndex k)=true:=by
  rw[fitsIndex_both h1 h2]
  exact nZ
 have hlong:¬Builtin.List.listTooLong (its.toArray.size*k.toNat)=true:=by
  rw[OK hlen]
  exact nZ
 have hnew:List.foldl (λx1 x2=>x1++x2) #[] (List.replicate (if its.toArray.isEmpty=true then 0 else k.toNat) its.toArray)=(List.replicate k.toNat its).flatten.toArray:=by
  have f0:∀m:Nat,List.foldl (λx1 x2=>x1++x2) #[] (List.replicate m its.toArray)=(List.replicate m its).flatten.toArray:=λm=>by
   have:=KO its m []
   rw[nil_append]at this
   exact this
  rw[f0]
  cases its with
  |nil=>simp
  |cons a r'=>rw[if_neg (by simp)]
 refine wpAny_binaryOp_repeat_ref (T:="list") (U:="int") (by decide) ⟨_,e,rfl⟩ (λs'=>typeIs_int s' k t) noFill_list_mul F.fills_int_mul F.slot_int_rmul repeat_list F.slot_int_index.lookup
  (call_meets F.slot_int_rmul (typeIs_int s k t) F.entry_int_rmul (F.args_int_rmul_2 _ _) (int___rmul___int_list k t l its.toArray n)
   ⟨e,rfl,⟨_,e,rfl⟩,call_meets F.slot_list_mul ⟨_,e,rfl⟩ F.entry_list_mul (F.args_list_mul_2 _ _) (AutoListH.list___mul___list_int_3 l its.toArray n k t hfit hcap hlong) ⟨e, ?_⟩⟩)
 rw[hnew]
 exact⟨.ref _,_,I.lnew (t':=s.toks) (r.rep k.toNat) (by rw[bqZ,Nat.mul_comm];exact hz),rfl,q _ I.fresh⟩
variable{prog:Program}{w:World}{A:Around}{E:Value->Shared->Prop}
end
end L2
namespace Att
open PySem PySem.W PySem.Calls PyProof.Rows
theorem GL{P:Params}{h:Heap}:∀(ns:List Int) (vs:List Value),WellAll P h vs (ns.map WData.int)->IntsAre vs ns:=by
 intro ns
 induction ns with
 |nil=>
  intro vs w
  rw[map_nil]at w
  cases w
  exact .nil
 |cons n ns ih=>
  intro vs w
  rw[map_cons]at w
  cases w with
  |cons a b=>
   cases a
   exact .cons _ _ (ih _ b)
theorem XQ{l:OpenLaw}{n:Nat}(hn:l.most=some n){P:Params}{h:Heap}{args:List WData}{vals:List Value}
  (hpre:l.row.toRowW.claim.pre args=true)(hwl:WellAll P h vals args):
  ∃a vs ns,vals=[Value.ref a]/\args=[WData.list (ns.map WData.int)]/\h.get? a=some {cls:=.type "list",data:=.seq vs.toArray}/\IntsAre vs ns/\ns.length<=n:=by
 have hsh:WShape.hasAll [] args [.list .int]=true:=(pre_splitW hpre).1
 have hc:l.pre.holds [] {args:=args}=true:=(pre_splitW hpre).2
 obtain⟨d,r,rfl,h1,h2⟩:=hasAllW_cons hsh
 obtain rfl:=hasAllW_nil h2
 obtain⟨xs,rfl,h3⟩:=hasW_list h1
 obtain⟨ns,rfl⟩:=items_int h3
 have hlen:ns.length<=n:=by
  unfold OpenLaw.pre at hc
  have h4:(WTm.not (.lt (.lit (.int (n:Int))) (.len (.arg 0)))).holds [] {args:=[.list (ns.map .int)]}=true:=by
   have h4:=(holds_andW hc).1
   rw[hn]at h4
   exact h4
  have h5:=condW_of h4 (w_not (w_lt w_lit (w_len_list (w_arg rfl))))
  rw[length_map]at h5
  refine le_of_not_lt λq=> ?_
  have q':(n:Int)<((ns.length:Nat):Int):=by omega
  first
   |(rw[decide_eq_true q']at h5;exact absurd h5 (by decide))
   |(simp at h5;omega)
 cases hwl with
 |cons w1 w2=>
  cases w2
  cases w1 with
  |list ho hall=>exact⟨_,_,ns,rfl,rfl,ho,GL ns _ hall,hlen⟩
theorem XO(l:OpenLaw)(args:List WData):l.row.toRowW.claim.post args (.bool true) args=true:=
 postW_of (r:=l.row.toRowW) (X:=(true==true))
  (show WShape.has [] (.bool true) .bool=true by first|rfl|decide|simp[WShape.has,WShape.arms,WShape.armsAll])
  (show(WTm.eq .res (.lit (.bool true))).value [] {args:=args,res:=some (.bool true),after:=args}=some (.bool (true==true))from w_eq_bool (w_res rfl) w_lit) rfl
theorem attach_call{l:OpenLaw}{n:Nat}{q:Program}{loose:List Str}{XP:(Str->Option Value)->Heap->Prop}{YP:World->Heap->Prop}{d:DefRec}
  (hn:l.most=some n)(hdf:d.params.defaults=[])
  (call:∀(w:World) (s₀ s₁:Shared) (mg mb:Str->Option Value) (fa:Addr) (o:Obj) (pm cd doc:Value) (a:Addr) (vs:List Value) (ns:List Int),
   Ground q loose [] XP w s₀ mg mb s₁.heap->YP w s₁.heap->
   s₁.heap.get? fa=some o->o.data=.func (docDef d.name d.params d.body d.scope pm cd doc)->s₁.heap.CodeRec cd d.name->mg d.name=some (.ref fa)->
   s₁.heap.get? a=some {cls:=.type "list",data:=.seq vs.toArray}->IntsAre vs ns->ns.length<=n->s₁.gens= #[]->
   codeAny (model l.prog w) callerA (.call (.ref fa) ⟨[.ref a],[]⟩) (λr s'=>r=.ok (.ret (.bool true))/\OldK s₁.heap s'.heap/\s'.os=s₁.os/\AllBare s'.gens) s₁):
  WalkO q loose XP YP l.row.toRowW d [] (λf vs=>PySem.call f vs):=by
 intro w s₀ s₁ mg mb G Y fa o pm cd doc dV kV ho hd hcd hD hmg hg args vals as hpre hlay hrd hwl hlo
 obtain rfl:dV=.none:=Dflts.none hD hdf
 obtain rfl:kV=.none:=Dflts.noKw hD
 obtain⟨a,vs,ns,rfl,rfl,hobj,hints,hlen⟩:=XQ hn hpre hwl
 refine enter_call (codeAny_mono (call w s₀ s₁ mg mb fa o pm cd doc a vs ns G Y ho (fd_plain hd) hcd hmg hobj hints hlen hg) λr s' hq=> ?_)
 obtain⟨rfl,h2,h3,h4⟩:=hq
 exact⟨.inl ⟨.bool true,.bool true,[],rfl,λ_=>rfl,.bool true,XO l _,λ_=>⟨List.Pairwise.nil,λ_ hm=>(nomatch hm)⟩⟩,h2,h3,h4⟩
section
variable{prog:Program}{w:World}{A:Around}{E:Value->Shared->Prop}{s:Shared}{K:Frag}
end
end Att
namespace L2
open PySem PySem.Spec PyProof.Rows
theorem KK:∀ {vs:List Value} {ns:List Int},IntsAre vs ns->Vals (ns.map V.int) vs
 |_,_,.nil=> .nil
 |_,_,.cons n t h=> .cons ⟨t,rfl⟩ (KK h)
def c9Z(H:Hp):Prop:=∀b,H b=none\/∃o xs,H b=some (.frz o (.lst xs))
theorem ZM{P:Program}{w:World}{K:FZ}{mg mb:Str->Option Value}{CX:CXT}{k:Nat}{fa a:Addr}{fd:FuncData}{x:Str}{sp:Sp}{s₁:Shared}{vs:List Value}{ns:List Int}
  (KX:K.In s₁.heap)(hns:s₁.heap.Ns mainGlobals mg)(hb:s₁.heap.Ns builtinsNs mb)(hbb:∀x:Str,x≠ "__name__"->mb x=bootBuiltins x)(hlim:s₁.heap.NoLimit)(hg:s₁.gens= #[])
  (ha:s₁.heap.get? a=some {cls:=.type "list",data:=.seq vs.toArray})(hi:IntsAre vs ns)(hl:ns.length<=sizeLine)(hr:Room k callerA)
  (F:∀base:Heap,K.In base->base.Ns mainGlobals mg->FnOk P w K mg base CX k fa fd [x] sp)(hbind:∀(s:Shared) (u:Value),BindsTo s fd ⟨[u],[]⟩ [(x,u)])
  (hsp:∀H:Hp,c9Z H->SqL K H a (ns.map V.int)->sp [.ref a] H (λv _=>v=.bl true) λ_ _ _=>False)
  (hCX:∀H e s',CX [] H s₁ (λ_ _ _=>False) e s'->False):
  codeAny (model P w) callerA (.call (.ref fa) ⟨[.ref a],[]⟩) (λr s'=>r=.ok (.ret (.bool true))/\OldK s₁.heap s'.heap/\s'.os=s₁.os/\AllBare s'.gens) s₁:=by
 have rv:=KK hi
 have lenV:=hi.length
 have core:∀H:Hp,c9Z H->SqL K H a (ns.map V.int)->HOk P w H s₁.heap->(∀b,H b≠none->b=a)->(H a≠none->K.lookup a=none)->
   codeAny (model P w) callerA (.call (.ref fa) ⟨[.ref a],[]⟩) (λr s'=>r=.ok (.ret (.bool true))/\OldK s₁.heap s'.heap/\s'.os=s₁.os/\AllBare s'.gens) s₁:=by
  intro H hO hS hok hA hK
  have base_of:∀ {b:Addr} {o:Obj},s₁.heap.get? b=some o->H b=none->(LP s₁.heap H).get? b=some o:=λe n=>aoZ e n
  have noA:∀ {b:Addr} {o:Obj} {es:Array DictEntry} {ep:Nat},s₁.heap.get? b=some o->o.data=.dict es ep->H b=none:=λ{b o es ep} e d=>by
   cases q:H b with
   |none=>rfl
   |some u=>
    have e':b=a:=hA b (by rw[q];simp)
    subst e'
    rw[ha]at e;cases e
    have d':Data.seq vs.toArray _=Data.dict es ep:=d
    cases d'
  have nsK:∀ {b:Addr} {m:Str->Option Value},s₁.heap.Ns b m->(LP s₁.heap H).Ns b m:=λ{b m} ⟨o,es,ep,e,d,r⟩=>⟨o,es,ep,base_of e (noA e d),d,r⟩
  have hKb:K.In (LP s₁.heap H):=λb o e=>base_of (KX b o e) (by
   cases q:H b with
   |none=>rfl
   |some u=>
    have e':b=a:=hA b (by rw[q];simp)
    subst e'
    rw[hK (by rw[q];simp)]at e;cases e)
  have hM:Mod K mg (LP s₁.heap H):=⟨hKb,nsK hns,⟨mb,nsK hb,hbb⟩,let⟨mc,h1,h2⟩:=hlim;⟨mc,nsK h1,h2⟩⟩
  have e0:Env0 P w K mg (LP s₁.heap H) callerA [] s₁ H:=⟨rfl,hM,λb o e=>beZ e,le_of_eq (XD _ _),trivial,λb hb=>absurd (show b∈([]:List Addr)from hb) (by simp),hok,.of_eq hg⟩
  refine codeAny_mono ((F _ hKb (nsK hns)).run callerA [] s₁ H ⟨[.ref a],[]⟩ [.ref a] [.ref a] _ _ hr e0 (hbind s₁ (.ref a)) (.cons rfl .nil) (hsp H hO hS)) λr s' h=> ?_
  cases r with
  |error e=>exact(hCX H e s' h).elim
  |ok fl=>
   cases fl with
   |next=>exact False.elim h
   |brk=>exact False.elim h
   |cont=>exact False.elim h
   |ret u=>
    obtain⟨v,H',os,bare,un,hok',r',q⟩:=h
    have q':v=.bl true:=q
    subst q'
    obtain rfl:u=Value.bool true:=r'
    refine⟨rfl,OldK.of_keep λb o e=> ?_,os,bare⟩
    cases q:H b with
    |none=>exact un.keep b o e q (by intro z;exact absurd (show b∈([]:List Addr)from z) (by simp)) (by simp)
    |some u=>
     rcases hO b with z|⟨ob,xs,z⟩
     ·rw[q]at z;cases z
     ·have z2:=un.frzs b ob _ z
      obtain⟨e1,_⟩:=hok b _ z
      obtain⟨e2,_⟩:=hok' b _ z2
      rw[e]at e1;cases e1
      exact e2
 cases hk:K.lookup a with
 |some o=>
  have e:=KX a o hk
  rw[ha]at e
  cases e
  refine core (λ_=>none) (λ_=> .inl rfl) (.inr ⟨_,vs.toArray,_,hk,rfl,rfl,rfl,by rw[size_toArray,lenV];exact hl,by simpa using rv⟩) (λb u z=>by have z':(none:Option HO)=some u:=z;cases z') (λb z=>absurd rfl z) λz=>absurd rfl z
 |none=>
  refine core (λb=>if b=a then some (.frz {cls:=.type "list",data:=.seq vs.toArray} (.lst (ns.map V.int)))else none) (λb=> ?_) (.inl (.inr ⟨{cls:=.type "list",data:=.seq vs.toArray},if_pos rfl⟩)) (λb u z=> ?_) (λb z=> ?_) λ_=>hk
  ·by_cases hb:b=a
   ·exact .inr ⟨_,_,if_pos hb⟩
   ·exact .inl (if_neg hb)
  ·by_cases hb:b=a
   ·have z':=(if_pos hb).symm.trans z
    cases z'
    subst hb
    exact⟨ha,by rw[length_map];exact hl,vs,_,rv,ha⟩
   ·have z':=(if_neg hb).symm.trans z
    cases z'
  ·by_cases hb:b=a
   ·exact hb
   ·exact absurd (if_neg hb) z
theorem walk_of{l:PySem.W.OpenLaw}{n k:Nat}{q:Program}{loose:List Str}{XP:(Str->Option Value)->Heap->Prop}{YP:World->Heap->Prop}{d:DefRec}{K:Params->FZ}{CX:World->CXT}{sp:World->Sp}{x:Str}
  (hn:l.most=some n)(hn2:n<=sizeLine)(hdf:d.params.defaults=[])(hr:Room k callerA)
  (hY:∀(w:World) (h:Heap),YP w h->(K w.params).In h)
  (F:∀(w:World) (mg:Str->Option Value) (fa:Addr) (h:Heap),(K w.params).In h->h.Ns mainGlobals mg->mg d.name=some (.ref fa)->
   ∃fd:FuncData,(∀(s:Shared) (u:Value),BindsTo s fd ⟨[u],[]⟩ [(x,u)])/\
    ∀base:Heap,(K w.params).In base->base.Ns mainGlobals mg->FnOk l.prog w (K w.params) mg base (CX w) k fa fd [x] (sp w))
  (hsp:∀(w:World) (H:Hp) (a:Addr) (ns:List Int),ns.length<=n->c9Z H->SqL (K w.params) H a (ns.map V.int)->sp w [.ref a] H (λv _=>v=.bl true) λ_ _ _=>False)
  (hCX:∀(w:World) (H:Hp) (s:Shared) (e:Value) (s':Shared),CX w [] H s (λ_ _ _=>False) e s'->False):
  PySem.W.WalkO q loose XP YP l.row.toRowW d [] (λf vs=>PySem.call f vs):=by
 refine Att.attach_call hn hdf λw s₀ s₁ mg mb fa o pm cd doc a vs ns G Y ho hd hcd hmg hobj hints hlen hg=> ?_
 have KX:=hY w _ Y
 obtain⟨fd,hb,hF⟩:=F w mg fa _ KX G.T.g hmg
 exact ZM KX G.T.g G.T.b G.T.builtins G.T.nolimit hg hobj hints (le_trans hlen hn2) hr hF hb (λH hO hS=>hsp w H a ns hlen hO hS) λH e s'=>hCX w H s₁ e s'
def L3(s:Stmt)(j:Nat):Stmt:=match s with
 | .ClassDef _ _ _ body _ _ _ _ _ _ _=>body.getD j (.Pass ⟨0,0,0,0⟩)
 |_=> .Pass ⟨0,0,0,0⟩
def B4(s:Stmt):Arguments:=match s with
 | .FunctionDef _ a _ _ _ _ _ _ _ _=>a
 |_=> {posonlyargs:=[],args:=[],vararg:=none,kwonlyargs:=[],kw_defaults:=[],kwarg:=none,defaults:=[]}
def B1(s:Stmt):List Stmt:=match s with
 | .FunctionDef _ _ b _ _ _ _ _ _ _=>b
 |_=> []
def A5(s:Stmt):Scope:=match s with
 | .FunctionDef _ _ _ _ _ _ sc _ _ _=>sc
 |_=> {kind:=.function,names:=[],isGenerator:=false,isCoroutine:=false}
abbrev CX0:CXT:=λ_ _ _ _ _ _=>False
abbrev E0:XK:=λ_ _ _=>False
theorem C6{X:Cx}:CI CX0 X E0:=λ_ _ _ _ _ _ _ h=>h.elim
structure Fun (K:FZ) (x qual:Str) (st:Stmt) (f:Addr) (fd:FuncData):Prop where
 ex:∃(oc:Value) (od:Option Addr) (kV doc pm:Value) (an:Option Addr) (cdv ct:Value) (osl:Array (Option Value)),
  fd=fnOf x qual (B4 st) (B1 st) (A5 st) .none kV doc pm an cdv ct/\K.lookup f=some ⟨oc,od,.func fd,osl⟩/\PySem.W.codeIn K cdv qual=true
 kp:kZ K (.ref f)=true
section
variable{P:Program}{w:World}{K:FZ}{mg:Str->Option Value}{base:Heap}
theorem Fun.ok{x qual:Str}{st:Stmt}{f:Addr}{fd:FuncData}{N ps:List Str}{k:Nat}{sp:Sp}(F:Fun K x qual st f fd)(S:FnScope N ps (A5 st))(len:∀vs H Q E,sp vs H Q E->vs.length=ps.length)
  (hbody:∀(cdv:Value) (A:Around) (outer:List Env) (s:Shared) (H:Hp) (vs:List V) (Q:VK) (E:XK),Room k (A.deeper (envOfC qual (A5 st) s.heap.objs.size f cdv))->sp vs H Q E->
   ∃t,PSs (W7 CX0 P w K mg base N qual (A5 st) f cdv A outer s H E).nox (B1 st) t/\t {nx:=λ_ H'=>Q .non H',rt:=Q} (ET N vs) H):FnOk P w K mg base CX0 (k+1) f fd ps sp:=by
 obtain⟨oc,od,kV,doc,pm,an,cdv,ct,osl,rfl,lk,hcd⟩:=F.ex
 refine bRZ lk hcd S len λA outer s H vs Q E hr hsp=> ?_
 obtain⟨t,h,q⟩:=hbody cdv A outer s H vs Q E hr hsp
 exact⟨t,h.nox,q⟩
theorem Fun.binds{x qual:Str}{st:Stmt}{f:Addr}{fd:FuncData}{ps:List Str}(F:Fun K x qual st f fd)
  (h:∀(kV doc pm:Value) (an:Option Addr) (cdv ct:Value) (us:List Value),us.length=ps.length->bindArgs (fnOf x qual (B4 st) (B1 st) (A5 st) .none kV doc pm an cdv ct) ⟨us,[]⟩=pure (ps.zip us)):Binds K fd ps []:=by
 obtain⟨oc,od,kV,doc,pm,an,cdv,ct,osl,rfl,lk,hcd⟩:=F.ex
 exact .all (h kV doc pm an cdv ct)
theorem D2{x qual:Str}{st:Stmt}{f:Addr}{oc:Value}{od an:Option Addr}{osl:Array (Option Value)}{kV doc pm cdv ct:Value}(l:K.lookup f=some ⟨oc,od,.func (fnOf x qual (B4 st) (B1 st) (A5 st) .none kV doc pm an cdv ct),osl⟩)
  (c:PySem.W.codeIn K cdv qual=true)(k:kZ K (.ref f)=true):Fun K x qual st f (fnOf x qual (B4 st) (B1 st) (A5 st) .none kV doc pm an cdv ct):=⟨⟨oc,od,kV,doc,pm,an,cdv,ct,osl,rfl,l,c⟩,k⟩
variable{X:Cx}
theorem pv(i:Nat){x:Str}{pos:Pos}(hN:X.N[i]? =some x:=by rfl)(hv:Vis X.env.scope x:=by first|exact Or.inl rfl|exact Or.inr (Or.inl rfl)|exact Or.inr (Or.inr rfl))(hd:(x==("__debug__":Str))=false:=by decide)
  (hcd:(x==("__classdict__":Str))=false:=by decide):PE X (.Name x pos) (tVar i):=cYZ hN hv hd hcd
end
theorem W9{c A B:Prop}[Decidable c](h1:c->A)(h2:¬c->B):if c then A else B:=by
 by_cases h:c
 ·rw[if_pos h]
  exact h1 h
 ·rw[if_neg h]
  exact h2 h
def Same(H H':Hp):Prop:=∀b o,H b=some o->H' b=some o
theorem Same.refl(H:Hp):Same H H:=λ_ _ h=>h
theorem Same.trans{H H1 H2:Hp}(a:Same H H1)(b:Same H1 H2):Same H H2:=λc o h=>b c o (a c o h)
theorem Same.free{H H':Hp}(e:Same H H'){l:Addr}(h:H' l=Option.none):H l=Option.none:=by
 cases q:H l with
 |none=>rfl
 |some o=>
  rw[e l o q]at h
  cases h
theorem Same.seq{K:FZ}{H H':Hp}{a:Addr}{xs:List V}(e:Same H H')(h:SqL K H a xs):SqL K H' a xs:=by
 rcases h with(h|⟨o,h⟩)|h
 ·exact .inl (.inl (e _ _ h))
 ·exact .inl (.inr ⟨o,e _ _ h⟩)
 ·exact .inr h
theorem LZ{α β:Type}{M:Model}{A:Around}{a:α}{Q:α->Shared->Prop}{E:Value->Shared->Prop}{s:Shared}{t2:Sem β}{Q2:β->Shared->Prop}{E2:Value->Shared->Prop}
  (h:wpAny M A (pure a:Sem α) Q E s)(k:Q a s->wpAny M A t2 Q2 E2 s):wpAny M A t2 Q2 E2 s:=fun Γ p hΓ=>k (h Γ p hΓ) Γ p hΓ
def PTs(X:Cx)(ifs:List Expr)(t:TT):Prop:=
 ∀(pins:List (Addr×Obj)) (s:Shared) (σ:St) (H:Hp) (Q:Bool->Hp->Prop),Inv X pins σ H s->t σ H Q->
  wpAny (model X.prog X.w) X.A (forIn ifs true λc r=>if r=true then do let ok<-isTrue c X.env (eval c X.env);pure (ForInStep.yield ok)else pure (ForInStep.yield r)) (TP X pins σ Q) X.xe s
def US:TT:=λ_ H Q=>Q true H
theorem X8{X:Cx}:PTs X [] US:=λ_ _ _ H _ I h=>wpAny_tests_nil ⟨H,I,h⟩
theorem TH{X:Cx}{c:Expr}{t:TT}(h:PT X c t):PTs X [c] t:=λpins s σ H Q I hq=>wpAny_tests_one (h pins s σ H Q I hq)
def DX(cells:List (Str×Addr))(names:List (Str×NameKind))(acc:List (Str×Addr)):List (Str×Addr):=
 match names with
 | []=>acc
 |(n,k)::r=>DX cells r (if k==.free then(n,(cells.lookup n).getD 0)::acc else acc)
theorem EI{env:Env}:∀(names:List (Str×NameKind)) (acc:List (Str×Addr)),(∀y∈names,y.2=.free->∃c,env.cells.lookup y.1=some c)->
  (forIn names acc λ(x:Str×NameKind) (r:List (Str×Addr))=>if(x.2==.free)=true then(do let a<-cellOf env x.1;pure (ForInStep.yield ((x.1,a)::r)):Sem (ForInStep (List (Str×Addr))))else pure (ForInStep.yield r))=(pure (DX env.cells names acc):Sem (List (Str×Addr)))
 | [],acc,_=>rfl
 |(n,k)::r,acc,h=>by
  have ih:=EI (env:=env) r
  rw[List.forIn_cons]
  by_cases hk:(k==NameKind.free)=true
  ·obtain⟨c,hc⟩:=h (n,k) mem_cons_self (by simpa using hk)
   have hc':cellOf env n=pure c:=by unfold cellOf;rw[hc]
   dsimp only
   rw[if_pos hk,hc']
   have e:DX env.cells ((n,k)::r) acc=DX env.cells r ((n,c)::acc):=by
    show DX env.cells r (if(k==NameKind.free)=true then(n,(env.cells.lookup n).getD 0)::acc else acc)=_
    rw[if_pos hk,hc];rfl
   rw[e,<-ih ((n,c)::acc) λy hy=>h y (mem_cons_of_mem _ hy)]
   rfl
  ·dsimp only
   rw[if_neg hk]
   have e:DX env.cells ((n,k)::r) acc=DX env.cells r acc:=by
    show DX env.cells r (if(k==NameKind.free)=true then(n,(env.cells.lookup n).getD 0)::acc else acc)=_
    rw[if_neg hk]
   rw[e,<-ih acc λy hy=>h y (mem_cons_of_mem _ hy)]
   rfl
theorem GP{scope:Scope}{env:Env}(h:∀y∈scope.names,y.2=.free->∃c,env.cells.lookup y.1=some c):closureFor scope env=pure (DX env.cells scope.names []):=by
 unfold closureFor
 have e:=EI (env:=env) scope.names [] h
 first
  |exact e
  |(simp only[bind_pure_comp,map_pure]at*;exact e)
  |(rw[<-e];simp)
theorem OJ{cells:List (Str×Addr)}:∀(names:List (Str×NameKind)) (acc:List (Str×Addr)) (p:Str×Addr),(∀y∈names,y.2=.free->∃c,cells.lookup y.1=some c)->p∈DX cells names acc->p∈acc\/(cells.lookup p.1=some p.2/\(p.1,NameKind.free)∈names)
 | [],acc,p,_,h=> .inl h
 |(n,k)::r,acc,p,hn,h=>by
  have h':p∈DX cells r (if(k==NameKind.free)=true then(n,(cells.lookup n).getD 0)::acc else acc):=h
  rcases OJ r _ p (λy hy=>hn y (mem_cons_of_mem _ hy)) h' with q|⟨q1,q2⟩
  ·by_cases hk:(k==NameKind.free)=true
   ·rw[if_pos hk]at q
    rcases cZ q with e|q
    ·have hk':k=.free:=by simpa using hk
     obtain⟨c,hc⟩:=hn (n,k) mem_cons_self hk'
     subst e
     refine .inr ⟨?_, ?_⟩
     ·show cells.lookup n=some ((cells.lookup n).getD 0)
      have hc':cells.lookup n=some c:=hc
      rw[hc'];rfl
     ·rw[<-hk'];exact mem_cons_self
    ·exact .inl q
   ·rw[if_neg hk]at q
    exact .inl q
  ·exact .inr ⟨q1,mem_cons_of_mem _ q2⟩
theorem PQ{cells:List (Str×Addr)}:∀(names:List (Str×NameKind)) (acc:List (Str×Addr)) (n:Str),((n,NameKind.free)∈names\/∃c,(n,c)∈acc)->∃c,(n,c)∈DX cells names acc
 | [],acc,n,h=>by
  rcases h with h|h
  ·cases h
  ·exact h
 |(m,k)::r,acc,n,h=>by
  show∃c,(n,c)∈DX cells r (if(k==NameKind.free)=true then(m,(cells.lookup m).getD 0)::acc else acc)
  refine PQ r _ n ?_
  rcases h with h|⟨c,h⟩
  ·rcases cZ h with e|h
   ·injection e with e1 e2
    subst e1;subst e2
    exact .inr ⟨_,by rw[if_pos (show(NameKind.free==NameKind.free)=true from rfl)];exact mem_cons_self⟩
   ·exact .inl h
  ·refine .inr ⟨c, ?_⟩
   split
   ·exact mem_cons_of_mem _ h
   ·exact h
theorem DO{α:Type}{n:Str}{c:α}:∀ {l:List (Str×α)},(n,c)∈l->∃d,l.lookup n=some d/\(n,d)∈l
 |(m,d)::r,h=>by
  by_cases e:n=m
  ·subst e
   exact⟨d,by simp[lookup_cons],mem_cons_self⟩
  ·rcases cZ h with q|q
   ·injection q with q1 _
    exact absurd q1 e
   ·obtain⟨d',h1,h2⟩:=DO q
    refine⟨d', ?_,mem_cons_of_mem _ h2⟩
    rw[lookup_cons]
    have:(n==m)=false:=beq_eq_false_iff_ne.mpr e
    rw[this];exact h1
structure CompScope (N:List Str) (sc scope:Scope) (x:Str) (caps:List Nat) (ns:List Str):Prop where
 cell:∀y∈scope.names,y.2≠ .cell
 kind:scope.kind=.function
 names:∀y∈scope.names,y.2=.local->scope.names.lookup y.1=some .local
 var:scope.names.lookup x=some .local
 free:∀y∈scope.names,y.2=.free->sc.names.lookup y.1=some .cell\/sc.names.lookup y.1=some .free
 at_:caps.map (λj=>N[j]?)=ns.map some
 nsf:∀y∈ns,scope.names.lookup y=some .free
 nd:(x::ns).Nodup
def Cx.comp(X:Cx)(N':List Str)(scope:Scope)(cl:List (Str×Addr))(C:Addr)(s:Shared)(H:Hp)(fp:List Addr):Cx:=
 {X with N:=N',s₀:=s,H₀:=H,env:=compEnvC scope cl C X.env,outer:=X.stack,ex:=fp,fn:=λ_=>false,xe:=λ_ _=>False}
def capσ(caps:List Nat)(σ:St)(v:Option V):St:=v::caps.map λj=>(σ[j]?).getD none
def ayZ(wi:TI)(caps:List Nat)(tt:TT)(te:TE)(σ:St)(H:Hp)(R:List V->Hp->Prop):Prop:=wi σ H λJ H1=>∃W:Nat->Nat->List V->Hp->Prop,(∃m,W 0 m [] H1)/\∀i m ys H,W i m ys H->
 ys.length<=sizeLine/\((J.stop i H/\R ys H)\/(J.go i H/\∃N:List V->Hp->Prop,(∀ys' H',N ys' H'->∃m',m'<m/\W (i+1) m' ys' H')/\∀v H',J.yld i H v H'->tt (capσ caps σ (some v)) H' λb H2=>
  if b=true then te (capσ caps σ (some v)) H2 λy H3=>N (ys++ [y]) H3 else N ys H2))
def bLZ(wi:TI)(caps:List Nat)(tt:TT)(te:TE):TE:=fun σ H Q=>ayZ wi caps tt te σ H λys H1=>∀D,H1 D=none->Q (.ref D) (upd H1 D (.lst ys))
theorem HP{scope:Scope}{env:Env}{y:Str}(h:((relabel scope env).names.lookup y=some .cell\/(relabel scope env).names.lookup y=some .free))(hc:∀y∈scope.names,y.2≠ .cell):(y,NameKind.free)∈scope.names:=by
 have h':∃k,(k=.cell\/k=.free)/\(y,k)∈(relabel scope env).names:=by
  rcases h with h|h
  ·exact⟨_,.inl rfl,PySem.mem_of_lookup h⟩
  ·exact⟨_,.inr rfl,PySem.mem_of_lookup h⟩
 obtain⟨k,hk,hm⟩:=h'
 unfold relabel at hm
 obtain⟨⟨n,k0⟩,hm0,e⟩:=mem_map.mp hm
 dsimp only at e
 split at e
 ·rename_i hcond
  injection e with e1 e2
  subst e1
  have:k0=.free:=by
   simp only[Bool.and_eq_true]at hcond
   simpa using hcond.1.1
  subst this
  exact hm0
 ·injection e with e1 e2
  subst e1;subst e2
  rcases hk with rfl|rfl
  ·exact absurd rfl (hc _ hm0)
  ·exact hm0
theorem X2{env:Env}:∀ {names:List (Str×NameKind)} {x:Str},names.lookup x=some .free->
  (names.map λ(n,k)=>if(k==NameKind.free&&env.scope.kind==.function&&env.kindOf n==some .cell)then(n,NameKind.cell)else(n,k)).lookup x=some .cell\/
  (names.map λ(n,k)=>if(k==NameKind.free&&env.scope.kind==.function&&env.kindOf n==some .cell)then(n,NameKind.cell)else(n,k)).lookup x=some .free
 | [],_,h=>by simp at h
 |(n,k)::r,x,h=>by
  have ih:= @X2 env r x
  show(List.lookup x ((if(k==NameKind.free&&env.scope.kind==.function&&env.kindOf n==some .cell)=true then(n,NameKind.cell)else(n,k))::_)=_)\/(List.lookup x ((if(k==NameKind.free&&env.scope.kind==.function&&env.kindOf n==some .cell)=true then(n,NameKind.cell)else(n,k))::_)=_)
  cases hx:x==n with
  |true=>
   simp only[lookup_cons,hx]at h
   cases h
   split
   ·left;simp[lookup_cons,hx]
   ·right;simp[lookup_cons,hx]
  |false=>
   simp only[lookup_cons,hx]at h
   by_cases hc:(k==NameKind.free&&env.scope.kind==.function&&env.kindOf n==some .cell)=true
   ·rw[if_pos hc];simp only[lookup_cons,hx];exact ih h
   ·rw[if_neg hc];simp only[lookup_cons,hx];exact ih h
section
variable{X:Cx}
theorem KG{x:Str}{px:Pos}{iter elt:Expr}{ifs:List Expr}{scope:Scope}{pos pos':Pos}{wi:TI}{tt:TT}{te:TE}{caps:List Nat}{ns:List Str}{use:Option (Value->Sem Unit)}{Q:Value->Shared->Prop}
  {pins:List (Addr×Obj)}{s:Shared}{σ:St}{H:Hp}{R:List V->Hp->Prop}
  (CS:CompScope X.N X.env.scope scope x caps ns)(hc:X.calm=true)(hi:PI X (.Name x px) iter wi)
  (ht:∀cl C s H fp,PTs (X.comp (x::ns) scope cl C s H fp) ifs tt)(he:∀cl C s H fp,PE (X.comp (x::ns) scope cl C s H fp) elt te)
  (hs:∀v,foldedSetIterable iter X.env v=pure v)
  (I:Inv X pins σ H s)(h:ayZ wi caps tt te σ H R)
  (hend:∀D C s' H' ys,Inv X pins σ (upd H' D (.lst ys)) s'->H' D=none->R ys H'->(∃m,s'.heap.Ns C m)->(upd H' D (.lst ys)) C=none->C≠X.env.locals->X.s₀.heap.objs.size<=C->(∀y c,X.env.cells.lookup y=some c->c≠C)->(∀p∈X.pn++pins,p.1≠C)->
   compPost (model X.prog X.w) X.A X.xe use Q (.ref D) C (.ok .next) s'):
  wpAny (model X.prog X.w) X.A (comprehension (.ListComp elt [⟨.Name x px,iter,ifs,0⟩] scope pos) scope X.env pos' (newList []) false (eval iter X.env) use) Q X.xe s:=by
 have hcells:∀y∈scope.names,y.2=.free->∃c,X.env.cells.lookup y.1=some c:=λy hy hf=>I.ok.has y.1 (CS.free y hy hf)
 refine wpAny_comprehension_free (use:=use) rfl hs (GP hcells) CS.kind CS.names ?_
 refine thn (hi pins s σ H _ I h) λv s1 h1=>thn h1 λitv s2 h2=> ?_
 obtain⟨it,fp,tn,J,H2,e,I2,T,st2,f2,W,⟨m0,w0⟩,turn⟩:=h2
 subst e
 refine wpAny_newObj_type (wpAny_newFunctionEnv CS.cell (by intro y hy;simp at hy) (λh₁ hns₁ hsb₁=> ?_) CS.kind)
 dsimp only at hns₁ hsb₁⊢
 generalize hHH:s2.heap.push {cls:=.type "list",dict:=none,data:=.seq ([]:List Value).toArray}=HH at hns₁ hsb₁⊢
 have hC:HH.objs.size=s2.heap.objs.size+1:=by rw[<-hHH,Heap.size_push]
 generalize hCe:HH.objs.size=C at hns₁ hsb₁ hC⊢
 have hDC:s2.heap.objs.size≠C:=by rw[hC];exact ne_of_lt (lt_succ_self _)
 have below:∀b,b<s2.heap.objs.size->b≠C/\b≠s2.heap.objs.size:=λb hb=>⟨by rw[hC];exact ne_of_lt (Nat.lt_succ_of_lt hb),ne_of_lt hb⟩
 have old:∀b o,s2.heap.get? b=some o->h₁.get? b=some o:=λb o e=>hsb₁.extBut b o (below b (lt_size e)).1 (gZ _ (hHH▸gZ _ e))
 have hacc:h₁.get? s2.heap.objs.size=some (LCg.lst []):=hsb₁.extBut _ _ hDC (gZ _ (hHH▸get?_push_size _ rfl))
 have nfp:∀b∈fp,b<s2.heap.objs.size:=λb hb=>let⟨o,e,_⟩:=T.obj _ _ st2 b hb;lt_size e
 have clsub:∀y c,(DX X.env.cells scope.names []).lookup y=some c->X.env.cells.lookup y=some c:=λy c e=>by
  rcases OJ scope.names [] (y,c) hcells (PySem.mem_of_lookup e)with q|q
  ·cases q
  ·exact q.1
 have fresh2:∀a,s2.heap.objs.size<=a->H2 a=none:=λa ha=>I2.hok.fresh ha
 generalize hcl:DX X.env.cells scope.names []=cl at clsub⊢
 have clhas:∀y,(y,NameKind.free)∈scope.names->∃c,cl.lookup y=some c:=λy hy=>by
  obtain⟨c,q⟩:=PQ (cells:=X.env.cells) scope.names [] y (.inl hy)
  rw[hcl]at q
  obtain⟨d,q1,_⟩:=DO q
  exact⟨d,q1⟩
 have ltC:∀y c,X.env.cells.lookup y=some c->c<s2.heap.objs.size:=λy c e=>let⟨v,z⟩:=I2.cell y c e;z.lt
 have ok':(X.comp (x::ns) scope cl C s2 H2 fp).Ok:=by
  refine⟨I2.ok.mod,CS.kind,I2.ok.glob,I2.ok.blt,(by show s2.heap.objs.size<=C;rw[hC];exact le_succ _),λy z c a b=>I2.ok.inj y z c (clsub y c a) (clsub z c b),λy hy=>clhas y (HP hy CS.cell),λy c z=>(by cases z),I2.ok.hd,I2.ok.frames,.inl rfl,
   λb hb=>⟨(below b (nfp b hb)).1,λy c e z=>(f2 b hb).2.2.2.2.1 y c (clsub y c e) z⟩,λb o e=>I2.bs b o e,le_trans I2.ok.bsz I2.sz,λb o e hb=> ?_,λb hb hf=> ?_,I2.stack,I2.stkFree⟩
  ·rcases(f2 b hb).2.2.2.1 with z|z
   ·exact I2.ok.noex b o e z
   ·exact absurd (Nat.lt_of_lt_of_le (lt_size e) (le_trans I2.ok.bsz z)) (lt_irrefl _)
  ·rcases cZ (I2.stkSub b hf)with z|z
   ·exact(f2 b hb).2.1 z
   ·exact(f2 b hb).2.2.1 z
 have capget:∀(k:Nat) (y:Str) (v:V),(x::ns)[k]? =some y->(capσ caps σ none)[k]? =some (some v)->∃j,X.N[j]? =some y/\σ[j]? =some (some v)/\scope.names.lookup y=some .free:=λk y v e1 e2=>by
  cases k with
  |zero=>cases e2
  |succ k=>
   have e1':ns[k]? =some y:=by simpa using e1
   have e2':(caps.map λj=>(σ[j]?).getD none)[k]? =some (some v):=by simpa [capσ]using e2
   have e3:(ns.map some)[k]? =some (some y):=by rw[getElem?_map,e1'];rfl
   rw[<-CS.at_,getElem?_map]at e3
   rw[getElem?_map]at e2'
   cases hj:caps[k]? with
   |none=>rw[hj]at e3;cases e3
   |some j=>
    rw[hj]at e3 e2'
    have e4:X.N[j]? =some y:=Option.some.inj e3
    have e5:(σ[j]?).getD none=some v:=Option.some.inj e2'
    refine⟨j,e4, ?_,CS.nsf y (mem_of_getElem? e1')⟩
    cases hσ:σ[j]? with
    |none=>rw[hσ]at e5;cases e5
    |some z=>rw[hσ]at e5;have e6:z=some v:=e5;rw[e6]
 have visfree:∀y,scope.names.lookup y=some .free->X.env.kindOf y=some .cell\/X.env.kindOf y=some .free:=λy hy=>CS.free (y,.free) (PySem.mem_of_lookup hy) rfl
 have I0:Inv (X.comp (x::ns) scope cl C s2 H2 fp) (pins++ [(s2.heap.objs.size,LCg.lst [])]) (capσ caps σ none) H2 {s2 with heap:=h₁,toks:=s2.toks+([]:List (Str×Value)).length}:=by
  obtain⟨m2,hn2,hl2⟩:=I2.loc
  refine⟨ok',rfl,I2.bare,Un.kept old,⟨_,hns₁,λk y v e1 e2 e3=> ?_⟩,λy c e=> ?_,fresh2 C (by rw[hC];exact le_succ _),λy c e=>I2.freeC y c (clsub y c e),λp hp=> ?_,I2.hok.kept old, ?_⟩
  ·obtain⟨j,q1,q2,q3⟩:=capget k y v e1 e2
   have vf:=visfree y q3
   obtain⟨u,ru,lk⟩:=hl2 j y v q1 q2 (vf.elim (λz=> .inr (.inl z)) λz=> .inr (.inr z))
   refine⟨u,ru,.inr ⟨X2 q3, ?_⟩⟩
   obtain⟨c,hcl'⟩:=clhas y (PySem.mem_of_lookup q3)
   refine⟨c,hcl', ?_⟩
   rcases lk with⟨k1,_⟩|⟨_,c',e',z⟩
   ·rcases vf with vf|vf<;>(rw[k1]at vf;cases vf)
   ·have q:=clsub y c hcl'
    rw[e']at q
    cases q
    exact z.keeps old
  ·obtain⟨v,z⟩:=I2.cell y c (clsub y c e)
   exact⟨v,z.keeps old⟩
  ·rcases mem_append.mp hp with hp|hp
   ·obtain⟨a1,a2,a3,a4,a5⟩:=I2.pin p (mem_append_left _ hp)
    refine⟨old _ _ a1,a2,(below _ (lt_size a1)).1,λz=> ?_,a5⟩
    rcases cZ (I2.stkSub _ z)with z|z
    ·exact a3 z
    ·exact a4 z
   ·rcases mem_append.mp hp with hp|hp
    ·obtain⟨a1,a2,a3,a4,a5⟩:=I2.pin p (mem_append_right _ hp)
     refine⟨old _ _ a1,a2,(below _ (lt_size a1)).1,λz=> ?_,a5⟩
     rcases cZ (I2.stkSub _ z)with z|z
     ·exact a3 z
     ·exact a4 z
    ·have e:p=(s2.heap.objs.size,LCg.lst []):=by simpa using hp
     subst e
     refine⟨hacc,fresh2 _ (le_refl _),hDC,λz=> ?_,λv z=>by cases z⟩
     rcases cZ (I2.stkSub _ z)with z|z
     ·exact absurd I2.lt (by rw[<-z];exact lt_irrefl _)
     ·exact I2.nofs (le_refl _) z
  ·show(capσ caps σ none).length=(x::ns).length
   have:=congrArg List.length CS.at_
   simp only[length_map]at this
   simp[capσ,this]
 have loop:∀s₃:Shared,s₃={s2 with heap:=h₁,toks:=s2.toks+([]:List (Str×Value)).length}->
   codeAny (model X.prog X.w) X.A (.compLoop (.ListComp elt [⟨.Name x px,iter,ifs,0⟩] scope pos) 0 (.ref it) (.ref s2.heap.objs.size) (compEnvC scope cl C X.env))
    (compPost (model X.prog X.w) X.A X.xe use Q (.ref s2.heap.objs.size) C) s₃:=by
  rintro s₃ rfl
  refine codeAny_compLoop_tests (λn s'=>∃i ys us H',Inv (X.comp (x::ns) scope cl C s2 H2 fp) (pins++ [(s2.heap.objs.size,LCg.lst us)]) (capσ caps σ none) H' s'/\Vals ys us/\tn i s'.heap/\(∀b∈fp,H' b=none)/\W i n ys H') ?_ m0
   ⟨0,[],[],H2,I0,.nil,T.keep _ _ _ st2 (λb _ o e=>old b o e),λb hb=>(f2 b hb).1,w0⟩
  rintro n s3 ⟨i,ys,us,H3,I3,rv,st3,fr3,w3⟩
  obtain⟨hle,hstep⟩:=turn i n ys H3 w3
  have pinlt:∀p∈X.pn++pins,p.1<s2.heap.objs.size:=λp hp=>lt_size (I2.pin p hp).1
  have stat:∀ {H':Hp},(∀b∈fp,H' b=none)->∀b∈fp,OY (X.comp (x::ns) scope cl C s2 H2 fp) (pins++ [(s2.heap.objs.size,LCg.lst us)]) H' b:=λhn b hb=>
   ⟨hn b hb,(below b (nfp b hb)).1,ok'.exfs b hb,.inl hb,λy c e z=>(f2 b hb).2.2.2.2.1 y c (clsub y c e) z,λp hp=>by
    rcases mem_append.mp hp with hp|hp
    ·exact(f2 b hb).2.2.2.2.2 p (mem_append_left _ hp)
    ·rcases mem_append.mp hp with hp|hp
     ·exact(f2 b hb).2.2.2.2.2 p (mem_append_right _ hp)
     ·have e:p=(s2.heap.objs.size,LCg.lst us):=by simpa using hp
      subst e
      exact Ne.symm (below b (nfp b hb)).2⟩
  have memD:∀(l:List (Addr×Obj)),(s2.heap.objs.size,LCg.lst us)∈(X.comp (x::ns) scope cl C s2 H2 fp).pn++((pins++ [(s2.heap.objs.size,LCg.lst us)])++l):=λl=>
   mem_append_right _ (mem_append_left _ (mem_append_right _ mem_cons_self))
  rcases hstep with⟨stop,r⟩|⟨go,Nx,hNx,step⟩
  ·refine thn (T.done (X.comp (x::ns) scope cl C s2 H2 fp) rfl rfl rfl hc i _ s3 _ H3 _ I3 (stat fr3) st3 stop) λr' s4 ⟨hr,I4⟩=> ?_
   subst hr
   have pD:=I4.pin (s2.heap.objs.size,LCg.lst us) (mem_append_right _ (mem_append_right _ mem_cons_self))
   have hDn:H3 s2.heap.objs.size=none:=pD.2.1
   have hCn:H3 C=none:=I4.free
   have b4:Un (frs X.stack) fp H2 H3 s2.heap s4.heap:=I4.base
   have u4:Un (frs X.stack) fp H2 (upd H3 s2.heap.objs.size (.lst ys)) s2.heap s4.heap:=
    ⟨b4.keep,b4.slot,λb o e n hx=>by rw[C1 (below b (lt_size e)).2];exact b4.free b o e n hx,b4.there,
     λb xs q=>by rw[C1 (B8 (b4.tups b xs q) hDn)];exact b4.tups b xs q,λb o u q=>by rw[C1 (B8 (b4.frzs b o u q) hDn)];exact b4.frzs b o u q,
     λb ps q=>by
      obtain⟨m1,e1⟩:=b4.tbls b ps q
      exact⟨m1,by rw[C1 (B8 e1 hDn)];exact e1⟩⟩
   have k4:HOk X.prog X.w (upd H3 s2.heap.objs.size (.lst ys)) s4.heap:=λb u e=>by
    by_cases hb:b=s2.heap.objs.size
    ·subst hb
     rw[A2]at e
     cases e
     exact⟨hle,us,_,rv,pD.1⟩
    ·rw[C1 hb]at e
     exact(I4.hok b u e).stay (λc v _ q=>q) (λc q=>by rw[C1 (B8 q hDn)];exact q) λc xs q=>by rw[C1 (B8 q hDn)];exact q
   have J4:Inv X pins σ (upd H3 s2.heap.objs.size (.lst ys)) s4:=I2.call' (ch:=fp) I4.os u4 k4 I4.bare λb hb=>⟨(f2 b hb).2.2.2.1,(f2 b hb).2.1,(f2 b hb).2.2.2.2.1,(f2 b hb).2.2.2.2.2⟩
   obtain⟨mC,hnC,_⟩:=I4.loc
   exact hend _ C s4 H3 ys J4 hDn r ⟨mC,hnC⟩ (by rw[C1 (Ne.symm hDC)];exact hCn) (Ne.symm (below _ I2.lt).1) (by rw[hC];exact Nat.le_succ_of_le I2.sz) (λy c e=>(below c (ltC y c e)).1) λp hp=>(below _ (pinlt p hp)).1
  ·refine thn (T.item (X.comp (x::ns) scope cl C s2 H2 fp) rfl rfl rfl hc i _ s3 _ H3 _ I3 (stat fr3) st3 go) λr' s4 ⟨u,hr,h4⟩=> ?_
   subst hr
   refine LZ h4 λ⟨v,H5,I5,r5,y5,st5,fr5⟩=> ?_
   have I5':=I5.pinned (stat fr5) (T.obj _ _ st5)
   refine wpAny_assign_Name (Y9 (X:=X.comp (x::ns) scope cl C s2 H2 fp) (i:=0) I5' CS.nd rfl (.inl (lookup_relabel_local CS.var)) r5 (λs6 I6=> ?_) (.inr (lookup_relabel_local CS.var)))
   have I6':Inv (X.comp (x::ns) scope cl C s2 H2 fp) ((pins++ [(s2.heap.objs.size,LCg.lst us)])++FS fp s4.heap) (capσ caps σ (some v)) H5 s6:=I6
   refine wpAny_mono (ht cl C s2 H2 fp _ s6 _ H5 _ I6' (step v H5 y5)) (λb s7 ⟨H7,I7,q7⟩=> ?_) (λ_ _ e=>e.elim)
   have weak:∀ {H':Hp} {s':Shared} {pl:List (Addr×Obj)},Inv (X.comp (x::ns) scope cl C s2 H2 fp) pl (capσ caps σ (some v)) H' s'->Inv (X.comp (x::ns) scope cl C s2 H2 fp) pl (capσ caps σ none) H' s':=λ{H' s' pl} J'=>
    J'.weak rfl λk z e=>by
     cases k with
     |zero=>cases e
     |succ k=>exact e
   have keepT:∀ {H':Hp} {s':Shared},Inv (X.comp (x::ns) scope cl C s2 H2 fp) ((pins++ [(s2.heap.objs.size,LCg.lst us)])++FS fp s4.heap) (capσ caps σ (some v)) H' s'->tn (i+1) s'.heap/\∀b∈fp,H' b=none:=λ{H' s'} J'=>by
    refine⟨T.keep _ _ _ st5 λb hb o e=>(J'.pin (b,o) (mem_append_right _ (mem_append_right _ (Z2 hb e)))).1,λb hb=> ?_⟩
    obtain⟨o,e,d⟩:=T.obj _ _ st5 b hb
    exact(J'.pin (b,o) (mem_append_right _ (mem_append_right _ (Z2 hb e)))).2.1
   cases b with
   |false=>
    rw[if_neg nZ]at q7⊢
    obtain⟨m',hm,w7⟩:=hNx _ _ q7
    exact⟨m',hm,i+1,ys,us,H7,weak I7.unpinned,rv,(keepT I7).1,(keepT I7).2,w7⟩
   |true=>
    rw[if_pos rfl]at q7⊢
    refine wpAny_mono (he cl C s2 H2 fp _ s7 _ H7 _ I7 q7) (λyv s8 ⟨y,H8,I8,ry,n8⟩=> ?_) (λ_ _ e=>e.elim)
    obtain⟨m',hm,w8⟩:=hNx _ _ n8
    have pD:=I8.pin (s2.heap.objs.size,LCg.lst us) (memD _)
    have hul:us.length=ys.length:=rv.length.symm
    refine append_at (hsz:=by show us.toArray.size<=sizeLine;rw[size_toArray,hul];exact hle) pD.1 λh9 hs9 hD9=> ?_
    have I8p:Inv (X.comp (x::ns) scope cl C s2 H2 fp) pins (capσ caps σ none) H8 s8:=weak I8.unpinned.unpinned
    have I9:Inv (X.comp (x::ns) scope cl C s2 H2 fp) pins (capσ caps σ none) H8 {s8 with heap:=h9}:=I8p.turned (t':=s8.toks) (it:=s2.heap.objs.size) (λb o hb e=>(hs9.2 b hb).trans e) pD.2.1 hDC (.inr (le_refl _)) (λy c e z=>ne_of_lt (ltC y c (clsub y c e)) z) λp hp=>ne_of_lt (pinlt p hp)
    have I9':Inv (X.comp (x::ns) scope cl C s2 H2 fp) (pins++ [(s2.heap.objs.size,LCg.lst (us++ [yv]))]) (capσ caps σ none) H8 {s8 with heap:=h9}:=I9.pins_of λp hp=>by
     rcases mem_append.mp hp with hp|hp
     ·exact I9.pin p (mem_append_right _ hp)
     ·have e:p=(s2.heap.objs.size,LCg.lst (us++ [yv])):=by simpa using hp
      subst e
      exact⟨hD9.trans (congrArg some (LCg.lst_snoc us yv)),pD.2.1,hDC,pD.2.2.2.1,λv z=>by cases z⟩
    refine⟨m',hm,i+1,ys++ [y],us++ [yv],H8,I9',rv.append (.cons ry .nil), ?_,(keepT I8).2,w8⟩
    exact T.keep _ _ _ (keepT I8).1 λb hb o e=>(hs9.2 b (below b (nfp b hb)).2).trans e
 exact codeAny_compStart_list (loop _ rfl) (T.self X.A 0 _ _ _ (T.keep _ _ _ st2 (λb _ o e=>old b o e)) (loop _ rfl))
theorem X0{K:FZ}{a:Addr}{xs:List V}{caps:List Nat}{tt:TT}{te:TE}{σ:St}{H:Hp}{R:List V->Hp->Prop}(Pv:Nat->List V->Hp->Prop)(h0:Pv 0 [] H)(hl:∀i ys H,i<=xs.length->Pv i ys H->SqT K H a xs/\ys.length<=sizeLine)
  (hs:∀i x ys H,xs[i]? =some x->Pv i ys H->tt (capσ caps σ (some x)) H λb H2=>if b=true then te (capσ caps σ (some x)) H2 λy H3=>Pv (i+1) (ys++ [y]) H3 else Pv (i+1) ys H2)(hd:∀ys H,Pv xs.length ys H->R ys H):
  ∃W:Nat->Nat->List V->Hp->Prop,(∃m,W 0 m [] H)/\∀i m ys H,W i m ys H->ys.length<=sizeLine/\(((Itt K a).stop i H/\R ys H)\/((Itt K a).go i H/\∃N:List V->Hp->Prop,(∀ys' H',N ys' H'->∃m',m'<m/\W (i+1) m' ys' H')/\∀v H',(Itt K a).yld i H v H'->
   tt (capσ caps σ (some v)) H' λb H2=>if b=true then te (capσ caps σ (some v)) H2 λy H3=>N (ys++ [y]) H3 else N ys H2)):=by
 refine⟨λi m ys H=>m=xs.length - i/\i<=xs.length/\Pv i ys H,⟨xs.length,by simp,zero_le _,h0⟩, ?_⟩
 rintro i m ys H ⟨rfl,hi,p⟩
 obtain⟨q,hz⟩:=hl i ys H hi p
 refine⟨hz, ?_⟩
 by_cases hlt:i<xs.length
 ·refine .inr ⟨⟨xs,xs[i],q,by simp[hlt]⟩,Pv (i+1),λys' H' p'=>⟨xs.length - (i+1),by omega,rfl,hlt,p'⟩,λx H' y=> ?_⟩
  obtain⟨e,y⟩:=y
  subst e
  exact hs i x ys _ (y xs q) p
 ·have e:i=xs.length:=by omega
  subst e
  exact .inl ⟨⟨xs,q,le_refl _⟩,hd ys H p⟩
theorem LB{K:FZ}{a:Addr}{xs:List V}{caps:List Nat}{tt:TT}{te:TE}{σ:St}{H:Hp}{R:List V->Hp->Prop}(Pv:Nat->List V->Hp->Prop)(h0:Pv 0 [] H)(hl:∀i ys H,i<=xs.length->Pv i ys H->SqL K H a xs/\ys.length<=sizeLine)
  (hs:∀i x ys H,xs[i]? =some x->Pv i ys H->tt (capσ caps σ (some x)) H λb H2=>if b=true then te (capσ caps σ (some x)) H2 λy H3=>Pv (i+1) (ys++ [y]) H3 else Pv (i+1) ys H2)(hd:∀ys H,Pv xs.length ys H->R ys H):
  ∃W:Nat->Nat->List V->Hp->Prop,(∃m,W 0 m [] H)/\∀i m ys H,W i m ys H->ys.length<=sizeLine/\(((Itl K a).stop i H/\R ys H)\/((Itl K a).go i H/\∃N:List V->Hp->Prop,(∀ys' H',N ys' H'->∃m',m'<m/\W (i+1) m' ys' H')/\∀v H',(Itl K a).yld i H v H'->
   tt (capσ caps σ (some v)) H' λb H2=>if b=true then te (capσ caps σ (some v)) H2 λy H3=>N (ys++ [y]) H3 else N ys H2)):=by
 refine⟨λi m ys H=>m=xs.length - i/\i<=xs.length/\Pv i ys H,⟨xs.length,by simp,zero_le _,h0⟩, ?_⟩
 rintro i m ys H ⟨rfl,hi,p⟩
 obtain⟨q,hz⟩:=hl i ys H hi p
 refine⟨hz, ?_⟩
 by_cases hlt:i<xs.length
 ·refine .inr ⟨⟨xs,xs[i],q,by simp[hlt]⟩,Pv (i+1),λys' H' p'=>⟨xs.length - (i+1),by omega,rfl,hlt,p'⟩,λx H' y=> ?_⟩
  obtain⟨e,y⟩:=y
  subst e
  exact hs i x ys _ (y xs q) p
 ·have e:i=xs.length:=by omega
  subst e
  exact .inl ⟨⟨xs,q,le_refl _⟩,hd ys H p⟩
theorem BN{lo:Int}{n:Nat}{caps:List Nat}{tt:TT}{te:TE}{σ:St}{H:Hp}{R:List V->Hp->Prop}(Pv:Nat->List V->Hp->Prop)(h0:Pv 0 [] H)(hl:∀i ys H,i<=n->Pv i ys H->ys.length<=sizeLine)
  (hs:∀i ys H,i<n->Pv i ys H->tt (capσ caps σ (some (.int (lo+i)))) H λb H2=>if b=true then te (capσ caps σ (some (.int (lo+i)))) H2 λy H3=>Pv (i+1) (ys++ [y]) H3 else Pv (i+1) ys H2)(hd:∀ys H,Pv n ys H->R ys H):
  ∃W:Nat->Nat->List V->Hp->Prop,(∃m,W 0 m [] H)/\∀i m ys H,W i m ys H->ys.length<=sizeLine/\(((Itr lo n).stop i H/\R ys H)\/((Itr lo n).go i H/\∃N:List V->Hp->Prop,(∀ys' H',N ys' H'->∃m',m'<m/\W (i+1) m' ys' H')/\∀v H',(Itr lo n).yld i H v H'->
   tt (capσ caps σ (some v)) H' λb H2=>if b=true then te (capσ caps σ (some v)) H2 λy H3=>N (ys++ [y]) H3 else N ys H2)):=by
 refine⟨λi m ys H=>m=n - i/\i<=n/\Pv i ys H,⟨n,by simp,zero_le _,h0⟩, ?_⟩
 rintro i m ys H ⟨rfl,hi,p⟩
 refine⟨hl i ys H hi p, ?_⟩
 by_cases hlt:i<n
 ·refine .inr ⟨hlt,Pv (i+1),λys' H' p'=>⟨n - (i+1),by omega,rfl,hlt,p'⟩,λx H' y=> ?_⟩
  obtain⟨e,y⟩:=y
  subst e y
  exact hs i ys _ hlt p
 ·have e:i=n:=by omega
  subst e
  exact .inl ⟨le_refl _,hd ys H p⟩
theorem EE{x:Str}{px:Pos}{iter elt:Expr}{ifs:List Expr}{scope sc:Scope}{N:List Str}{pos:Pos}{wi:TI}{tt:TT}{te:TE}{caps:List Nat}{ns:List Str}
  (CS:CompScope N sc scope x caps ns)(hN':X.N=N)(hsc:X.env.scope=sc)(hc:X.calm=true)(hi:PI X (.Name x px) iter wi)
  (ht:∀cl C s H fp,PTs (X.comp (x::ns) scope cl C s H fp) ifs tt)(he:∀cl C s H fp,PE (X.comp (x::ns) scope cl C s H fp) elt te)
  (hs:∀v,foldedSetIterable iter X.env v=pure v:=by intro _;rfl):
  PE X (.ListComp elt [⟨.Name x px,iter,ifs,0⟩] scope pos) (bLZ wi caps tt te):=by
 intro pins s σ H Q I h
 subst hN';subst hsc
 rw[eval_ListComp]
 refine KG CS hc hi ht he hs I h ?_
 rintro D C s' H' ys I' hD r ⟨m,hn⟩ c1 c2 c3 c4 c5
 exact⟨m,hn,λh' hs'=>⟨.ref D,_,I'.turned (t':=s'.toks) (λb o hb e=>(hs'.2 b hb).trans e) c1 c2 (.inr c3) c4 c5,rfl,r D hD⟩⟩
theorem U8{i:Nat}{x y:Str}{px py:Pos}{iter elt:Expr}{ifs:List Expr}{scope sc:Scope}{N:List Str}{pos spos:Pos}{wi:TI}{tt:TT}{te:TE}{caps:List Nat}{ns:List Str}(hN:X.N.Nodup)(hi:X.N[i]? =some y)
  (hy:X.env.scope.names.lookup y=some .local)(CS:CompScope N sc scope x caps ns)(hN':X.N=N)(hsc:X.env.scope=sc)(hc:X.calm=true)(hit:PI X (.Name x px) iter wi)
  (ht:∀cl C s H fp,PTs (X.comp (x::ns) scope cl C s H fp) ifs tt)(he:∀cl C s H fp,PE (X.comp (x::ns) scope cl C s H fp) elt te)
  (hsw:swapsWith (.ListComp elt [⟨.Name x px,iter,ifs,0⟩] scope pos) (some (.Name y py)) spos.line X.env=pure true:=by rfl)
  (hs:∀v,foldedSetIterable iter X.env v=pure v:=by intro _;rfl):
  PS X (.Assign [.Name y py] (.ListComp elt [⟨.Name x px,iter,ifs,0⟩] scope pos) spos) (cpZ (bLZ wi caps tt te) (YE i)):=by
 intro pins s σ H D I h
 subst hN';subst hsc
 rw[exec_Assign_Name_used _ _ _ _ hsw]
 refine bZ (wpAny_standAt (bZ ?_))
 show wpAny _ X.A (do let _<-comprehension (.ListComp elt [⟨.Name x px,iter,ifs,0⟩] scope pos) scope X.env _ (newList []) false (eval iter X.env) (some (assign (.Name y py) X.env))) _ _ s
 refine bZ (wpAny_mono (KG (use:=some (assign (.Name y py) X.env)) (Q:=λ_ s'=>SP X pins D .next s') CS hc hit ht he hs I h ?_) (λ_ s' hq=>pZ (pZ hq)) λ_ _ e=>e)
 rintro D' C s' H' ys I' hD r ⟨m,hn⟩ c1 c2 c3 c4 c5
 show wpAny _ _ (assign (.Name y py) X.env (.ref D')) _ _ s'
 refine wpAny_assign_Name (LE (v:=.ref D') I' hN hi (.inl hy) rfl (λs'' I'' ⟨a,sb,ha⟩=> ?_) (.inr hy))
 have hCa:C≠a:=by
  rcases ha with e|e
  ·rw[e];exact c2
  ·exact Ne.symm (c4 y a e)
 exact⟨m,hn.sameBut sb hCa,λh' hs'=>⟨_,_,I''.turned (t':=s''.toks) (λb o hb e=>(hs'.2 b hb).trans e) c1 c2 (.inr c3) c4 c5,r D' hD⟩⟩
end
theorem M3:bootBuiltins "len"=some (.builtin "len"):=by decide +kernel
theorem cKZ:bootBuiltins "max"=some (.builtin "max"):=by decide +kernel
theorem cZZ:bootBuiltins "min"=some (.builtin "min"):=by decide +kernel
theorem O9:bootBuiltins "isinstance"=some (.builtin "isinstance"):=by decide +kernel
theorem aeZ:bootBuiltins "all"=some (.builtin "all"):=by decide +kernel
theorem VG:bootBuiltins "list"=some (.type "list"):=by decide +kernel
theorem Z1:bootBuiltins "tuple"=some (.type "tuple"):=by decide +kernel
theorem MT:bootBuiltins "int"=some (.type "int"):=by decide +kernel
theorem cOZ:bootBuiltins "str"=some (.type "str"):=by decide +kernel
section
variable{X:Cx}
theorem WK(hc:X.calm=true):CallR X (.builtin "max") (λxs H Q=>∃(p:Addr) (ns:List Int),xs=[.ref p]/\SqL X.K H p (ns.map V.int)/\0<ns.length/\∀M:Int,M∈ns->(∀a∈ns,a<=M)->Q (.int M) H):=by
 intro pins s σ H vs us Q I r h
 obtain⟨p,ns,rfl,hS,hne,q⟩:=h
 obtain⟨u,rfl,ru⟩:=CJ r
 cases ru
 obtain⟨its,rv,pl,hz⟩:=I.list hS
 have hi:IntsAre its ns:=SL rv
 obtain⟨xs,e⟩:=hi.allInts.items
 have hns:ns=xs.toList.map (·.1):=by
  rw[<-hi.numsOf,<-nums_intItems,<-e]
 have hsz:0<xs.size:=by
  have h3:=hne;rw[hns,length_map,Array.length_toList]at h3;exact h3
 have hl:=pl.isList
 rw[e]at hl
 refine max_intList (I.ok.hd hc) hl hsz λv h' tk hv hk=> ?_
 obtain⟨t,rfl⟩:=intItems_at hv
 obtain⟨h1,h2⟩:=argBest_gt (numAt xs) (xs.size - 1)
 refine⟨.int _,H,I.kept hk,⟨_,rfl⟩,q _ ?_ λa ha=> ?_⟩
 ·rw[hns,numAt_eq];exact getD_mem (by rw[length_map,Array.length_toList];omega)
 ·rw[hns]at ha
  obtain⟨j,hj,rfl⟩:=mem_getD ha
  rw[length_map,Array.length_toList]at hj
  rw[<-numAt_eq];exact h2 j (by omega)
theorem auZ(hc:X.calm=true):CallR X (.builtin "max") (λxs H Q=>(∃i j,xs=[.int i,.int j]/\Q (.int (if j>i then j else i)) H)\/
  (∃(p:Addr) (ns:List Int),xs=[.ref p]/\SqL X.K H p (ns.map V.int)/\0<ns.length/\∀M:Int,M∈ns->(∀a∈ns,a<=M)->Q (.int M) H)):=(WJ hc).or (WK hc)
theorem op_mul_str:OpR X (binaryOp .Mult) (λx y H Q=>∃i n,x=.str i/\y=.int n/\0<=n/\n<=16777216/\i.length*n.toNat<=16777216/\Q (.str (Txt.mul i n)) H):=by
 intro pins s σ H x y v u Q I rx ry h
 obtain⟨i,n,rfl,rfl,h0,h1,h2,q⟩:=h
 obtain⟨t,rfl⟩:=rx
 obtain⟨t',rfl⟩:=ry
 exact SB.mul (mulOk_of i.length n.toNat (le_refl _) (by omega) (by omega) (by omega) h2) λt'' k=>⟨.str _,H,I.tok _,⟨_,rfl⟩,q⟩
theorem HU{ys:List Str}:∀ {us:List Value},Vals (ys.map V.str) us->StrsAre us ys:=by
 induction ys with
 |nil=>intro us r;cases r;exact .nil
 |cons y ys ih=>
  intro us r
  cases r with
  |cons r1 r2=>
   obtain⟨t,rfl⟩:=r1
   exact .cons y t (ih r2)
def bHZ(K:FZ):V->List V->Hp->VK->Prop:=λx vs H Q=>∃(z:Str) (p:Addr) (ys:List Str),x=.str z/\vs=[.ref p]/\(SqL K H p (ys.map V.str)\/SqT K H p (ys.map V.str))/\(ys.map (·.length)).sum+ys.length*z.length<=16777216/\Q (.str (Txt.join z ys)) H
theorem a8Z:MtR X "str.join" (bHZ X.K):=by
 intro pins s σ H x vs v us Q I rx rv h
 obtain⟨z,p,ys,rfl,rfl,hS,hz,q⟩:=h
 obtain⟨t,rfl⟩:=rx
 obtain⟨u,rfl,ru⟩:=CJ rv
 cases ru
 rcases hS with hS|hS
 ·obtain⟨its,r,pl,_⟩:=I.list hS
  exact join_list pl.isList (by simpa using HU r) hz λt' k=>⟨.str _,H,I.tok _,⟨_,rfl⟩,q⟩
 ·obtain⟨its,r,pl,_⟩:=I.tuple hS
  exact join_tuple pl (by simpa using HU r) hz λt' k=>⟨.str _,H,I.tok _,⟨_,rfl⟩,q⟩
def dCZ(K:FZ)(te ts:TE):TE:=fun σ H Q=>te σ H λx H1=>ts σ H1 λy H2=>y=.int (-1)/\∃a xs,x=.ref a/\SqL K H2 a xs/\∀p,H2 p=none->Q (.ref p) (upd H2 p (.lst xs.reverse))
theorem c8Z{e st:Expr}{te ts:TE}{p2 pos:Pos}(he:PE X e te)(hst:PE X st ts):PE X (.Subscript e (.Slice none none (some st) p2) pos) (dCZ X.K te ts):=by
 intro pins s σ H Q I h
 refine Subscript_ (thn (he pins s σ H _ I h) λv s1 ⟨x,H1,I1,r1,q1⟩=> ?_)
 refine wpAny_Slice (pZ (pZ ?_))
 rw[evalPart_some]
 refine thn (hst pins s1 σ H1 _ I1 q1) λw s3 ⟨y,H3,I3,ry,q3⟩=> ?_
 obtain⟨ey,a,xs,ex,hS,q⟩:=q3
 subst ey;subst ex
 obtain⟨tk,rfl⟩:=ry
 cases r1
 have I4:Inv X pins σ H3 {s3 with heap:=s3.heap.push {cls:=.type "slice",data:=.fields #[.none,.none,.int (-1) tk]}}:=I3.kept (t':=s3.toks) λb ob q=>gZ _ q
 obtain⟨its,r,pl,hz⟩:=I4.list hS
 have hlen:=r.length
 show wpAny (model X.prog X.w) X.A (subscriptTail e (.Slice none none (some st) p2) (.ref a) (.ref s3.heap.objs.size)) (EP X pins σ Q) X.xe {s3 with heap:=s3.heap.push {cls:=.type "slice",data:=.fields #[.none,.none,.int (-1) tk]}}
 refine tail_any (ops:=[.ref a,.ref s3.heap.objs.size]) pl.isList.typeIs slot_list_getitem.lookup ?_ (by with_unfolding_all rfl)
 refine wpAny_getItem_list_slice (st:=some (-1)) pl.isList (Heap.IsSliceOf.new ..) .none .none (.int (-1) tk) (by simp) ?_ (by rw[size_toArray]<;>omega)
 rw[PySem.W.krv_pick]
 have hr:Vals xs.reverse its.toArray.toList.reverse:=by simpa using r.reverse
 exact⟨.ref _,_,I4.laid (t':=s3.toks) (o:=.lst xs.reverse) (λb ob q=>gZ _ q) (le_refl _) ⟨by rw[length_reverse];exact hz,_,0,hr,get?_push_size _ rfl⟩,rfl,q _ (I4.hok.fresh (le_refl _))⟩
def FE:V->Bool
 | .byt _=>false
 | .flt _=>false
 |_=>true
theorem FD{A:Around}{s:Shared}{x:V}{u v:Value}(r:RelV x u)(r':RelV x v)(hx:FE x=true):SeqAt.EqAt A s u v true:=by
 cases x with
 |non=>cases r;cases r';exact SeqAt.EqAt.same _
 |bl b=>cases r;cases r';exact SeqAt.EqAt.same _
 |int i=>
  obtain⟨t,rfl⟩:=r;obtain⟨t',rfl⟩:=r'
  have:=SeqAt.EqAt.int_int (A:=A) (s:=s) i t i t'
  simpa using this
 |str i=>
  obtain⟨t,rfl⟩:=r;obtain⟨t',rfl⟩:=r'
  have:=SeqAt.EqAt.str_str (A:=A) (s:=s) i t i t'
  simpa using this
 |ref a=>cases r;cases r';exact SeqAt.EqAt.same _
 |ty n=>cases r;cases r';exact SeqAt.EqAt.same _
 |byt b=>cases hx
 |flt b=>cases hx
theorem KW{A:Around}{s:Shared}{xs:List V}{us vs:List Value}(r:Vals xs us)(r':Vals xs vs)(hx:xs.all FE=true)(j:Nat)(h1:j<us.toArray.size)(h2:j<vs.toArray.size):SeqAt.EqAt A s us.toArray[j] vs.toArray[j] true:=by
 have hj:j<xs.length:=by rw[r.length];simpa using h1
 obtain⟨u,hu,ru⟩:=r.get (i:=j) (x:=xs[j]) (by simp[hj])
 obtain⟨v,hv,rv⟩:=r'.get (i:=j) (x:=xs[j]) (by simp[hj])
 have e1:us.toArray[j]=u:=by
  have:us[j]? =some us.toArray[j]:=by simp
  rw[hu]at this;exact(Option.some.inj this).symm
 have e2:vs.toArray[j]=v:=by
  have:vs[j]? =some vs.toArray[j]:=by simp
  rw[hv]at this;exact(Option.some.inj this).symm
 rw[e1,e2]
 have hp:=all_eq_true.mp hx xs[j] (getElem_mem hj)
 exact FD ru rv hp
inductive rEqL (K:FZ) (k:Bool) (x:V) (y:V) (H:Hp) (Q:VK):Prop
 |mk:∀a b xs,(x=.ref a)->(y=.ref b)->(SqL K H a xs)->(SqL K H b xs)->(xs.all FE=true)->(Q (.bl k) H)->rEqL K k x y H Q
theorem cHZ(hu:X.A.units<cLine):OpR X (compareOp .Eq) (rEqL X.K true):=by
 intro pins s σ H x y v u Q I rx ry h
 obtain⟨a,b,xs,rfl,rfl,ha,hb,hp,q⟩:=h
 cases rx;cases ry
 obtain⟨its,r,pl,_⟩:=I.list ha
 obtain⟨its2,r2,pl2,_⟩:=I.list hb
 have hl:its.length=its2.length:=by rw[<-r.length,<-r2.length]
 refine SeqAt.eq_listAt (e:=λ_=>true) pl.isList pl2.isList (by simpa using hl) hu (λj h1 h2=>KW r r2 hp j h1 h2) ⟨.bl true,H,I, ?_,q⟩
 have:((List.range its.toArray.size).all λ_=>true)=true:=by simp
 rw[this];rfl
theorem cyZ(hu:X.A.units<cLine):OpR X (compareOp .NotEq) (rEqL X.K false):=by
 intro pins s σ H x y v u Q I rx ry h
 obtain⟨a,b,xs,rfl,rfl,ha,hb,hp,q⟩:=h
 cases rx;cases ry
 obtain⟨its,r,pl,_⟩:=I.list ha
 obtain⟨its2,r2,pl2,_⟩:=I.list hb
 have hl:its.length=its2.length:=by rw[<-r.length,<-r2.length]
 refine SeqAt.RcNeAt.lists (e:=λ_=>true) pl.isList pl2.isList (by simpa using hl) hu (λj h1 h2=>KW r r2 hp j h1 h2) X.prog X.w X.xe _ ⟨.bl false,H,I, ?_,q⟩
 have:((List.range its.toArray.size).all λ_=>true)=true:=by simp
 rw[this];rfl
inductive rIsi (K:FZ) (xs:List V) (H:Hp) (Q:VK):Prop
 |mk:∀x c t b,(xs=[x,.ty c])->(TyOf K H x t)->(kitOne K t (.type c)=some b)->(Q (.bl b) H)->rIsi K xs H Q
theorem ZL:CallR X (.builtin "isinstance") (rIsi X.K):=by
 intro pins s σ H xs us Q I r h
 obtain⟨x,c,t,b,rfl,ty,hk,q⟩:=h
 obtain⟨u,v,rfl,ru,rv⟩:=OF r
 cases rv
 exact WD I ru ty hk λtk=>⟨.bl b,H,I.tok _,rfl,q⟩
structure TopD (w:World) (K:FZ) (a:Addr) (kvs:List (Str×V)):Prop where
 ex:∃(es:Array DictEntry) (n:Nat),K.lookup a=some ⟨.type "dict",none,.dict es n, #[]⟩/\PySem.W.KeysLit w.params es.toList/\Paired (λ(p:Str×V) (e:DictEntry)=>(∃t,e.key=.str p.1 t)/\RelV p.2 e.val) kvs es.toList
 lo:(a==sysModules)=false
theorem GB{x:Str}:∀ {kvs:List (Str×V)} {es:List DictEntry},Paired (λ(p:Str×V) (e:DictEntry)=>(∃t,e.key=.str p.1 t)/\RelV p.2 e.val) kvs es->
  RelO (kvs.lookup x) ((es.find? λe=>Value.isStrOf x e.key).map (·.val))
 |_,_,.nil=>trivial
 |(k,v)::kvs,e::es,.cons ⟨⟨t,hk⟩,rv⟩ r=>by
  have hk':e.key=.str k t:=hk
  rw[lookup_cons,List.find?_cons,hk']
  by_cases hx:x=k
  ·subst hx
   have h1:Value.isStrOf x (.str x t)=true:=by simp[Value.isStrOf]
   rw[h1,beq_self_eq_true]
   exact rv
  ·have h1:Value.isStrOf x (.str k t)=false:=by
    cases h:Value.isStrOf x (.str k t)with
    |false=>rfl
    |true=>
     obtain⟨t',e'⟩:=Value.isStrOf_shape (x:=x) (v:=.str k t) h
     injection e' with e1 _
     exact absurd e1.symm hx
   have h2:(x==k)=false:=beq_eq_false_iff_ne.mpr hx
   rw[h1,h2]
   exact GB r
theorem TopD.map{w:World}{K:FZ}{a:Addr}{kvs:List (Str×V)}(T:TopD w K a kvs){prog:Program}{h:Heap}(KX:K.In h):
  ∃f:Str->Option Value,h.MapOf (strKind prog w) a f/\∀x,RelO (kvs.lookup x) (f x):=by
 obtain⟨es,n,hl,hk,hp⟩:=T.ex
 refine⟨λk=>findBy Value.isStrOf es k,PySem.W.mapOf_K KX hl hk,λx=> ?_⟩
 have q:=GB (x:=x) hp
 show RelO (List.lookup x kvs) ((es.find? λe=>Value.isStrOf x e.key).map (·.val))
 rw[<-Array.find?_toList]
 exact q
inductive rIxTop (w:World) (K:FZ) (x:V) (y:V) (H:Hp) (Q:VK):Prop
 |mk:∀a k kvs v,(x=.ref a)->(y=.str k)->(TopD w K a kvs)->(kvs.lookup k=some v)->(Q v H)->rIxTop w K x y H Q
theorem c0Z:IxR X (rIxTop X.w X.K):=by
 intro value slice pins s σ H x y v u Q I rx ry h hs
 obtain⟨a,k,kvs,z,rfl,rfl,T,hz,q⟩:=h
 cases rx
 obtain⟨t,rfl⟩:=ry
 obtain⟨f,hm,hf⟩:=T.map (prog:=X.prog) I.kIn
 have hr:=hf k
 rw[hz]at hr
 obtain⟨w',e,r⟩:=hr.some_of
 exact tail_any hm.typeIs slot_dict_getitem.lookup (wpAny_getItem_of (strKind_is X.prog X.w k t) hm e ⟨z,H,I.tok _,r,q⟩) hs
theorem VT:OpR X (compareOp .In) (λx y H Q=>∃k a kvs,x=.str k/\y=.ref a/\TopD X.w X.K a kvs/\Q (.bl (kvs.lookup k).isSome) H):=by
 intro pins s σ H x y v u Q I rx ry h
 obtain⟨k,a,kvs,rfl,rfl,T,q⟩:=h
 cases ry
 obtain⟨t,rfl⟩:=rx
 obtain⟨f,hm,hf⟩:=T.map (prog:=X.prog) I.kIn
 have hr:=hf k
 have e:(f k).isSome=(kvs.lookup k).isSome:=by
  cases h1:kvs.lookup k with
  |none=>rw[h1]at hr;rw[hr.none_of];rfl
  |some z=>rw[h1]at hr;obtain⟨w',e,_⟩:=hr.some_of;rw[e];rfl
 exact wpAny_in_of (strKind_is X.prog X.w k t) T.lo hm ⟨.bl _,H,I.tok _,by rw[e];rfl,q⟩
theorem D3:OpR X (binaryOp .Add) (λx y H Q=>rI0 (λi j=> .int (i+j)) x y H Q\/(∃i j,x=.str i/\y=.str j/\i.length+j.length<=sizeLine/\Q (.str (i++j)) H)\/rCat x y H Q):=op_add.or (op_add_str.or cDZ)
theorem aXZ:OpR X (binaryOp .Mult) (λx y H Q=>rI CMul (λi j=> .int (i*j)) x y H Q\/(∃i n,x=.str i/\y=.int n/\0<=n/\n<=16777216/\i.length*n.toNat<=16777216/\Q (.str (Txt.mul i n)) H)\/dEZ x y H Q):=op_mul.or (op_mul_str.or cUZ)
theorem uEq(hu:X.A.units<cLine):OpR X (compareOp .Eq) (λx y H Q=>rEq x y H Q\/rEqL X.K true x y H Q):=op_eq.or (cHZ hu)
theorem uNe(hu:X.A.units<cLine):OpR X (compareOp .NotEq) (λx y H Q=>rNe x y H Q\/rEqL X.K false x y H Q):=op_ne.or (cyZ hu)
theorem uIn:OpR X (compareOp .In) (λx y H Q=>(∃i j,x=.str i/\y=.str j/\Q (.bl (!(Builtin.Str.occurrences j i 0 j.length 1).isEmpty)) H)\/rIn X.K false x y H Q\/(∃k a kvs,x=.str k/\y=.ref a/\TopD X.w X.K a kvs/\Q (.bl (kvs.lookup k).isSome) H)):=op_in_str.or (op_in_seq.or VT)
theorem cdZ:OpR X (compareOp .NotIn) (λx y H Q=>(∃i j,x=.str i/\y=.str j/\Q (.bl (!(!(Builtin.Str.occurrences j i 0 j.length 1).isEmpty))) H)\/rIn X.K true x y H Q):=op_notIn_str.or MQ
theorem cWZ:IxR X (λx y H Q=>rIxL X.K x y H Q\/rIxT X.K x y H Q\/rIxS x y H Q\/rIxTop X.w X.K x y H Q):=ix_list.or (ix_tup.or (ix_str.or c0Z))
theorem cvZ:SlR X (λx lo hi H Q=>rSlL X.K x lo hi H Q\/rSlT X.K x lo hi H Q):=sl_list.or c6Z
inductive tCut (t:TS) (D:Ends) (σ:St) (H:Hp):Prop
 |mk:∀R:St->Hp->Prop,(t {D with nx:=R} σ H)->(∀σ' H',R σ' H'->D.nx σ' H')->tCut t D σ H
theorem L6{st:Stmt}{t:TS}(h:PS X st t):PS X st (tCut t):=λpins s σ H D I ⟨R,q,hR⟩=>thn (h pins s σ H _ I q) λf s' hs=>by
 cases f with
 |next=>obtain⟨σ',H',I',r⟩:=hs;exact⟨σ',H',I',hR σ' H' r⟩
 |brk=>exact hs
 |cont=>exact hs
 |ret v=>exact hs
variable{K:FZ}{w:World}
theorem kEq(hu:X.A.units<cLine)(hK:X.K=K:=by rfl):OpR X (compareOp .Eq) (λx y H Q=>rEq x y H Q\/rEqL K true x y H Q):=by subst hK;exact uEq hu
theorem kNe(hu:X.A.units<cLine)(hK:X.K=K:=by rfl):OpR X (compareOp .NotEq) (λx y H Q=>rNe x y H Q\/rEqL K false x y H Q):=by subst hK;exact uNe hu
theorem kIn(hK:X.K=K:=by rfl)(hw:X.w=w:=by rfl):OpR X (compareOp .In) (λx y H Q=>(∃i j,x=.str i/\y=.str j/\Q (.bl (!(Builtin.Str.occurrences j i 0 j.length 1).isEmpty)) H)\/rIn K false x y H Q\/(∃k a kvs,x=.str k/\y=.ref a/\TopD w K a kvs/\Q (.bl (kvs.lookup k).isSome) H)):=by
 subst hK;subst hw;exact uIn
theorem cVZ(hK:X.K=K:=by rfl):OpR X (compareOp .NotIn) (λx y H Q=>(∃i j,x=.str i/\y=.str j/\Q (.bl (!(!(Builtin.Str.occurrences j i 0 j.length 1).isEmpty))) H)\/rIn K true x y H Q):=by subst hK;exact cdZ
theorem kIx(hK:X.K=K:=by rfl)(hw:X.w=w:=by rfl):IxR X (λx y H Q=>rIxL K x y H Q\/rIxT K x y H Q\/rIxS x y H Q\/rIxTop w K x y H Q):=by subst hK;subst hw;exact cWZ
theorem kSl(hK:X.K=K:=by rfl):SlR X (λx lo hi H Q=>rSlL K x lo hi H Q\/rSlT K x lo hi H Q):=by subst hK;exact cvZ
theorem P6(hK:X.K=K:=by rfl):CallR X (.builtin "len") (rLen K):=by subst hK;exact YS
theorem azZ(hK:X.K=K:=by rfl):CallR X (.type "list") (λxs H Q=>∃p ys,xs=[.ref p]/\(SqL K H p ys\/SqT K H p ys)/\∀l,H l=none->Q (.ref l) (upd H l (.lst ys))):=by subst hK;exact MX
theorem DG(hK:X.K=K:=by rfl):CallR X (.type "tuple") (λxs H Q=>∃p ys,xs=[.ref p]/\((SqL K H p ys/\∀l,H l=none->Q (.ref l) (upd H l (.tup ys)))\/SqT K H p ys/\Q (.ref p) H)):=by subst hK;exact JO
theorem dKZ(hc:X.calm=true)(hK:X.K=K:=by rfl):CallR X (.builtin "max") (λxs H Q=>(∃i j,xs=[.int i,.int j]/\Q (.int (if j>i then j else i)) H)\/
  (∃(p:Addr) (ns:List Int),xs=[.ref p]/\SqL K H p (ns.map V.int)/\0<ns.length/\∀M:Int,M∈ns->(∀a∈ns,a<=M)->Q (.int M) H)):=by subst hK;exact auZ hc
theorem dAZ(hK:X.K=K:=by rfl):CallR X (.builtin "isinstance") (rIsi K):=by subst hK;exact ZL
theorem DW(hK:X.K=K:=by rfl):MtR X "str.join" (bHZ K):=by subst hK;exact a8Z
variable{o e st l c:Expr}{es:List Expr}{to te ts tl:TE}{t:TA}{name:Str}{apos cpos pos p2:Pos}{T id:String}{r:V->List V->Hp->VK->Prop}{tg:Expr}
theorem EG(pa:PlainAttrs T)(slot:Slot T name id)(hty:typeOf (.builtin id)=pure (.type "method_descriptor"))(hm:MtR X id r)(ho:PE X o to)(hK:X.K=K:=by rfl)
  (hbase:attributeBase o name X.env (eval o X.env)=eval o X.env:=by rfl)(hline:(apos.endLine==cpos.line)=true:=by rfl):PE X (.Call (.Attribute o name apos) [] [] cpos) (dhZ K T r to):=by
 subst hK;exact cmZ pa slot hty hm ho hbase hline
theorem CP(pa:PlainAttrs T)(slot:Slot T name id)(hty:typeOf (.builtin id)=pure (.type "method_descriptor"))(hm:MtR X id r)(ho:PE X o to)(ha:PA X (e::es) t)(hK:X.K=K:=by rfl)
  (hbase:attributeBase o name X.env (eval o X.env)=eval o X.env:=by rfl)
  (hfew:((backTo cpos (starEach (e::es) X.env)).all (λx=> !x.1)&&(backToKw cpos (keywordEach [] X.env)).all (λx=>x.1.isSome)
   &&decide ((e::es).length+([]:List Keyword).length+(if([]:List Keyword).isEmpty then 0 else 1)<30))=true:=by rfl)
  (hline:(apos.endLine==cpos.line)=true:=by rfl)(hs:starEach (e::es) X.env=(false,eval e X.env)::starEach es X.env:=by rfl)(hplain:(backTo cpos (starEach es X.env)).any (·.1)=false:=by rfl):
  PE X (.Call (.Attribute o name apos) (e::es) [] cpos) (tBM K T r to t):=by
 subst hK;exact dIZ pa slot hty hm ho ha hbase hfew hline hs hplain
theorem EN(hl:PE X l tl)(hK:X.K=K:=by rfl):PI X tg l (bSZ K tl):=by subst hK;exact aVZ hl
theorem LY(hl:PE X l tl)(hK:X.K=K:=by rfl):PI X tg l (dlZ K tl):=by subst hK;exact csZ hl
theorem dwZ(he:PE X e te)(hst:PE X st ts)(hK:X.K=K:=by rfl):PE X (.Subscript e (.Slice none none (some st) p2) pos) (dCZ K te ts):=by subst hK;exact c8Z he hst
def ebZ(K:FZ)(ta:TE):TT:=fun σ H Q=>ta σ H λx H'=>∃k,ctZ K x H' k/\Q k H'
theorem O3(ha:PE X e te)(he:∀whole,isTrue e X.env whole=(do let v<-whole;standAt e.pos;holding [v] (truthy v)))(hK:X.K=K:=by rfl):PT X e (ebZ K te):=by subst hK;exact YN ha he
end
theorem BH{σ:St}{H:Hp}{A B:Hp->Prop}(h:A H):US σ H (λb H2=>if b=true then A H2 else B H2):=by
 show if true=true then A H else B H
 rw[if_pos rfl];exact h
def Dec(t:TT)(σ:St)(H:Hp)(b:Bool):Prop:=∀Q:Bool->Hp->Prop,Q b H->t σ H Q
theorem Dec.and{t u:TT}{σ:St}{H:Hp}{a b:Bool}(h:Dec t σ H a)(h':Dec u σ H b):Dec (dXZ t u) σ H (a&&b):=λQ q=>h _ (by
 cases a with
 |true=>rw[if_pos rfl];exact h' Q q
 |false=>rw[if_neg nZ];exact q)
theorem Dec.or{t u:TT}{σ:St}{H:Hp}{a b:Bool}(h:Dec t σ H a)(h':Dec u σ H b):Dec (tOr t u) σ H (a||b):=λQ q=>h _ (by
 cases a with
 |true=>rw[if_pos rfl];exact q
 |false=>rw[if_neg nZ];exact h' Q q)
def HR:List Expr->Option (List Str)
 | []=>some []
 | .Constant (.str x) _ _::r=>(HR r).map (x::·)
 |_=>none
def dMZ(zs:List Str):TA:=λ_ H Q=>Q (zs.map V.str) H
theorem Z4{X:Cx}:∀ {es:List Expr} {zs:List Str},HR es=some zs->PA X es (dMZ zs)
 | [],zs,h=>by
  have e:zs=[]:=by cases h;rfl
  subst e
  exact A3
 |e::r,zs,h=>by
  have hx:∃x a b,e=.Constant (.str x) a b/\∃ys,HR r=some ys/\zs=x::ys:=by
   unfold HR at h
   split at h
   ·rename_i h1;cases h1
   ·rename_i x a b r' h1
    injection h1 with h1 h2
    subst h1;subst h2
    cases q:HR r with
    |none=>rw[q]at h;cases h
    |some ys=>rw[q]at h;cases h;exact⟨x,a,b,rfl,ys,rfl,rfl⟩
   ·cases h
  obtain⟨x,a,b,rfl,ys,hr,rfl⟩:=hx
  exact A0 A9 (Z4 hr)
theorem AJ(xs:List V)(k:Nat):Z0 xs (some (k:Int)) none=xs.drop k:=by
 unfold Z0
 rw[HT.sIx_nat,HT.sIx_none]
 by_cases h:k<=xs.length
 ·rw[min_eq_left h,take_of_length_le (by simp)]
 ·rw[Nat.min_eq_right (by omega),drop_eq_nil_of_le (le_refl _),drop_eq_nil_of_le (by omega)]
  simp
theorem awZ(xs:List V)(k:Nat):Z0 xs none (some (k:Int))=xs.take k:=by
 unfold Z0
 rw[HT.sIx_nat,HT.sIx_none]
 simp only[List.drop_zero,Nat.sub_zero]
 by_cases h:k<=xs.length
 ·rw[min_eq_left h]
 ·rw[Nat.min_eq_right (by omega),take_of_length_le (le_refl _),take_of_length_le (by omega)]
def XAt(h g:Heap)(H:Hp)(a:Addr)(C:Value):Prop:=
 ∃oe vs T oT ts a0,h.get? a=some oe/\oe.cls=C/\oe.data=.fields vs/\vs[0]? =some a0/\vs[1]? =some (.ref T)/\T≠a/\h.get? T=some oT/\oT.data=.fields ts/\ts[3]? =some .none/\
  H a=none/\H T=none/\g.get? a=none/\g.get? T=none
def CXr(P:Program)(w:World):CXT:=λouter H s E e s'=>∃(a:Addr) (C:Value) (H':Hp),e=.ref a/\s'.os=s.os/\AllBare s'.gens/\Un (frs outer) [] H H' s.heap s'.heap/\HOk P w H' s'.heap/\XAt s'.heap s.heap H' a C/\E C none H'
section
variable{M:Model}{A:Around}{E:Value->Shared->Prop}{s:Shared}
theorem XC{base:Heap}{env:Env}{outer:List Env}{L a:Addr}{C:Value}{g:Heap}{H:Hp}{Q:Unit->Shared->Prop}(hfr:A.frames=some (env::outer))(hf:env.frame=some L)(hl:s.heap.FunFrames base (env::outer))
  (x:XAt s.heap g H a C)(hH:∀b,H b≠none->∃o,s.heap.get? b=some o)(hg:∀b o,g.get? b=some o->∃o',s.heap.get? b=some o')
  (hQ:∀h' T,(∀b o,s.heap.get? b=some o->b∉frs (env::outer)->b≠a->b≠T->h'.get? b=some o)->(∀b o,s.heap.get? b=some o->b∈frs (env::outer)->∃sl,h'.get? b=some {o with slots:=sl})->
   H T=none->g.get? T=none->XAt h' g H a C->Q () {s with heap:=h'}):wpAny M A (leaving env (.ref a)) Q E s:=by
 obtain⟨oe,vs,T,oT,ts,a0,x1,x2,x3,x4,x5,x6,x7,x8,x9,x10,x11,x12,x13⟩:=x
 have memf:∀b,b∈frs (env::outer)->b∈frs (env::outer)++ [a,T]:=λb hb=>mem_append_left _ hb
 have hin:∀e∈(env::outer),∀b,e.frame=some b->b∈frs (env::outer)++ [a,T]:=λe he b hb=>memf b (mem_filterMap.mpr ⟨e,he,hb⟩)
 have nof:∀b o vs',s.heap.get? b=some o->o.data=.fields vs'->b∉frs (env::outer):=λb o vs' hb hd hm=>by
  obtain⟨_,o',ho',hnf⟩:=hl.mem hm
  rw[hb]at ho';cases ho'
  exact hnf vs' hd
 refine wpAny_leaves_onW (base:=hideAll s.heap (frs (env::outer)++ [a,T])) (cls:=C) (a0:=a0) hfr hf ⟨λb o q=>of_hideAll _ q,hideAll_none _ (by simp),PySem.W.funFrames_hide hl hin,oe,vs,T,oT,ts,x1,⟨x2,x4⟩,x3,x5,hideAll_none _ (by simp),x6,x7,x8,x9⟩ λh' fl us=> ?_
 obtain⟨st,_,_,oe',vs',T',oT',ts',y1,⟨y2,y4⟩,y3,y5,yB,y6,y7,y8,y9⟩:=fl
 have keep:∀b o,s.heap.get? b=some o->b∉frs (env::outer)->b≠a->b≠T->h'.get? b=some o:=λb o hb n1 n2 n3=>st b o (hideAll_get _ hb (by
  intro hm
  rcases mem_append.mp hm with hm|hm
  ·exact n1 hm
  ·rcases cZ hm with hm|hm
   ·exact n2 hm
   ·exact n3 (by simpa using hm)))
 have slot:∀b o,s.heap.get? b=some o->b∈frs (env::outer)->∃sl,h'.get? b=some {o with slots:=sl}:=λb o hb hm=>by
  obtain⟨_,o',ho',hnf⟩:=hl.mem hm
  rw[hb]at ho';cases ho'
  exact us b o hb hnf
 have hT':T'=T\/s.heap.get? T'=none:=by
  cases q:s.heap.get? T' with
  |none=>exact .inr rfl
  |some o=>
   refine .inl ?_
   by_cases hm:T'∈frs (env::outer)++ [a,T]
   ·rcases mem_append.mp hm with hm|hm
    ·obtain⟨_,o',ho',hnf⟩:=hl.mem hm
     obtain⟨sl,hs⟩:=us T' o' ho' hnf
     rw[hs]at y7;cases y7
     exact absurd y8 (hnf ts')
    ·rcases cZ hm with hm|hm
     ·exact absurd hm y6
     ·simpa using hm
   ·rw[hideAll_get _ q hm]at yB;cases yB
 have hHT':H T'=none:=by
  rcases hT' with e|e
  ·rw[e];exact x11
  ·cases q:H T' with
   |none=>rfl
   |some u=>obtain⟨o,ho⟩:=hH T' (by rw[q];simp);rw[e]at ho;cases ho
 have hgT':g.get? T'=none:=by
  rcases hT' with e|e
  ·rw[e];exact x13
  ·cases q:g.get? T' with
   |none=>rfl
   |some u=>obtain⟨o,ho⟩:=hg T' u q;rw[e]at ho;cases ho
 exact hQ h' T keep slot x11 x13 ⟨oe',vs',T',oT',ts',a0,y1,y2,y3,y4,y5,y6,y7,y8,y9,x10,hHT',x12,hgT'⟩
end
theorem ObjOk.get{P:Program}{w:World}{H:Hp}{h:Heap}{a:Addr}{o:HO}(x:ObjOk P w H h a o):∃ob,h.get? a=some ob:=by
 cases o with
 |lst xs=>obtain⟨_,_,_,_,e⟩:=x;exact⟨_,e⟩
 |tup xs=>obtain⟨_,_,_,p⟩:=x;obtain⟨ob,e,_⟩:=p;exact⟨ob,e⟩
 |dK kvs=>obtain⟨_,_,_,_,o,_,_,e,_⟩:=x;exact⟨o,e⟩
 |dT kvs=>obtain⟨_,_,_,_,o,_,_,e,_⟩:=x;exact⟨o,e⟩
 |set S n=>obtain⟨o,_,_,_,e,_⟩:=x;exact⟨o,e⟩
 |ins C dx fs=>obtain⟨_,_,_,e,_⟩:=x;exact⟨_,e⟩
 |own y=>obtain⟨o,e⟩:=x;exact⟨o,e⟩
 |xd fs=>obtain⟨_,⟨o,_,_,e,_⟩,_⟩:=x;exact⟨o,e⟩
 |rng lo hi=>obtain⟨_,_,_,e⟩:=x;exact⟨_,e⟩
 |frz ob u=>obtain⟨e,_⟩:=x;exact⟨_,e⟩
 |tbl ps=>exact⟨_,(show h.get? a=some _ from x)⟩
 |met f y=>exact⟨_,(show h.get? a=some _ from x)⟩
 |ext φ=>obtain⟨_,⟨o,e⟩,_⟩:=x;exact⟨o,e⟩
theorem HOk.there{P:Program}{w:World}{H:Hp}{h:Heap}(x:HOk P w H h)(b:Addr)(n:H b≠none):∃o,h.get? b=some o:=by
 cases q:H b with
 |none=>exact absurd q n
 |some u=>exact(x b u q).get
theorem HOk.keptT{P:Program}{w:World}{H:Hp}{h h':Heap}(x:HOk P w H h)(k:∀b o,H b≠none->h.get? b=some o->h'.get? b=some o):HOk P w H h':=λb u e=>
 (x b u e).stay (λc v hc q=>k c v (by
  rcases hc with rfl|hc
  ·rw[e];simp
  ·rw[hc];simp) q) (λ_ q=>q) λ_ _ q=>q
section
variable{X:Cx}{pins:List (Addr×Obj)}{σ:St}{H1 H2:Hp}{s1:Shared}{h1 h2:Heap}
theorem Inv.fsSub(I:Inv X pins σ H1 s1):∀b∈X.fs,b∈frs X.stack:=λb hb=>by
 rcases I.ok.stk with e|⟨e,hf⟩
 ·rw[e];exact hb
 ·rw[e]
  unfold frs
  rw[filterMap_cons,hf]
  exact mem_cons_of_mem _ hb
theorem YC(I:Inv X pins σ H1 s1)(hex:X.ex=[])(u:Un (frs X.stack) [] H1 H2 s1.heap h1)
  (keep2:∀b o,h1.get? b=some o->b∉frs X.stack->s1.heap.get? b≠none->h2.get? b=some o)(slot2:∀b o,h1.get? b=some o->b∈frs X.stack->∃sl,h2.get? b=some {o with slots:=sl}):
  Un X.fs [] X.H₀ H2 X.s₀.heap h2:=by
 have nex:∀b:Addr,b∉X.ex:=λb=>by rw[hex];simp
 have nst:∀b o,X.s₀.heap.get? b=some o->b∉X.fs->b∉frs X.stack:=λb o e n hm=>by
  rcases cZ (I.stkSub b hm)with z|z
  ·exact absurd (Nat.lt_of_lt_of_le (lt_size e) I.ok.above) (by rw[z];exact lt_irrefl _)
  ·exact n z
 refine⟨λb o e n hb _=> ?_,λb o e n hb _=> ?_,λb o e n _=> ?_,λb o e _=> ?_,λb xs q=>u.tups b xs (I.base.tups b xs q),λb o v q=>u.frzs b o v (I.base.frzs b o v q),λb ps q=> ?_⟩
 ·have e1:=I.base.keep b o e n hb (nex b)
  have n1:=I.base.free b o e n (nex b)
  have ns:=nst b o e hb
  exact keep2 b o (u.keep b o e1 n1 ns (by simp)) ns (by rw[e1];simp)
 ·obtain⟨sl,e1⟩:=I.base.slot b o e n hb (nex b)
  have n1:=I.base.free b o e n (nex b)
  have hm:=I.fsSub b hb
  obtain⟨sl2,e2⟩:=u.slot b _ e1 n1 hm (by simp)
  obtain⟨sl3,e3⟩:=slot2 b _ e2 hm
  exact⟨sl3,e3⟩
 ·obtain⟨o1,e1⟩:=I.base.there b o e (nex b)
  exact u.free b o1 e1 (I.base.free b o e n (nex b)) (by simp)
 ·obtain⟨o1,e1⟩:=I.base.there b o e (nex b)
  obtain⟨o2,e2⟩:=u.there b o1 e1 (by simp)
  by_cases hm:b∈frs X.stack
  ·obtain⟨sl,e3⟩:=slot2 b o2 e2 hm
   exact⟨_,e3⟩
  ·exact⟨o2,keep2 b o2 e2 hm (by rw[e1];simp)⟩
 ·obtain⟨m1,e1⟩:=I.base.tbls b ps q
  obtain⟨m2,e2⟩:=u.tbls b _ e1
  exact⟨m1++m2,by rw[e2,Array.append_assoc]⟩
theorem UE{base:Heap}{l:List Env}{fs:List Addr}(hl:s1.heap.FunFrames base l)(hH:∀b∈frs l,H1 b=none)(hs:∀b∈frs l,b∈fs)(u:Un fs [] H1 H2 s1.heap h1):h1.FunFrames base l:=by
 induction l with
 |nil=>trivial
 |cons env r ih=>
  obtain⟨hk,⟨L,o,hf,hn,ho,hd⟩,hr⟩:=hl
  have hL:L∈frs (env::r):=by unfold frs;rw[filterMap_cons,hf];exact mem_cons_self
  have sub:∀b,b∈frs r->b∈frs (env::r):=λb hb=>by unfold frs;rw[filterMap_cons,hf];exact mem_cons_of_mem _ hb
  obtain⟨sl,e⟩:=u.slot L o ho (hH L hL) (hs L hL) (by simp)
  exact⟨hk,⟨L,_,hf,hn,e,hd⟩,ih hr (λb hb=>hH b (sub b hb)) λb hb=>hs b (sub b hb)⟩
variable{P:Program}{w:World}{K:FZ}{mg:Str->Option Value}{base:Heap}{N:List Str}{qual:Str}{scope:Scope}{f:Addr}{cd:Value}{A:Around}{outer:List Env}{s:Shared}{H:Hp}{E:XK}
 {pins:List (Addr×Obj)}{σ:St}{H1:Hp}{s1:Shared}
theorem VZ{h':Heap}{a:Addr}{C:Value}{vs:List Value}(I:Inv (W7 (CXr P w) P w K mg base N qual scope f cd A outer s H E) pins σ H1 s1)(hx:Heap.MadeExcOf s1.heap h' a C vs)(hE:E C none H1):
  (W7 (CXr P w) P w K mg base N qual scope f cd A outer s H E).xe (.ref a) {s1 with heap:=h'}:=by
 have hst:=I.stack
 have hin:∀e∈(W7 (CXr P w) P w K mg base N qual scope f cd A outer s H E).stack,∀b,e.frame=some b->b∈frs (W7 (CXr P w) P w K mg base N qual scope f cd A outer s H E).stack:=λe he b hb=>mem_filterMap.mpr ⟨e,he,hb⟩
 refine wpAny_leaves_madeW (base:=hideAll s1.heap (frs (W7 (CXr P w) P w K mg base N qual scope f cd A outer s H E).stack)) (h:=s1.heap) I.ok.frames rfl (λb o q=>of_hideAll _ q) (PySem.W.funFrames_hide hst hin) hx λh2 t fl _ _ us=> ?_
 obtain⟨st,_,_,oe,vs',T,oT,ts,y1,⟨y2,y4⟩,y3,y5,yB,y6,y7,y8,y9⟩:=fl
 have keep:∀b o,s1.heap.get? b=some o->b∉frs (W7 (CXr P w) P w K mg base N qual scope f cd A outer s H E).stack->h2.get? b=some o:=λb o hb n=>st b o (hideAll_get _ hb n)
 have slot:∀b o,s1.heap.get? b=some o->b∈frs (W7 (CXr P w) P w K mg base N qual scope f cd A outer s H E).stack->∃sl,h2.get? b=some {o with slots:=sl}:=λb o hb hm=>by
  obtain⟨_,o',ho',hnf⟩:=hst.mem hm
  rw[hb]at ho';cases ho'
  exact us b o (hx.keeps b o hb) hnf
 have hT:s1.heap.get? T=none:=by
  cases q:s1.heap.get? T with
  |none=>rfl
  |some o=>
   by_cases hm:T∈frs (W7 (CXr P w) P w K mg base N qual scope f cd A outer s H E).stack
   ·obtain⟨_,o',ho',hnf⟩:=hst.mem hm
    obtain⟨sl,hs⟩:=slot T o' ho' hm
    rw[hs]at y7;cases y7
    exact absurd y8 (hnf ts)
   ·rw[hideAll_get _ q hm]at yB;cases yB
 have fresh:∀b,s1.heap.get? b=none->H1 b=none:=λb hb=>by
  cases q:H1 b with
  |none=>rfl
  |some u=>obtain⟨o,ho⟩:=I.hok.there b (by rw[q];simp);rw[hb]at ho;cases ho
 have older:∀b,s1.heap.get? b=none->s.heap.get? b=none:=λb hb=>by
  cases q:s.heap.get? b with
  |none=>rfl
  |some u=>obtain⟨o,ho⟩:=I.base.there b u q (by intro z;cases z);rw[hb]at ho;cases ho
 have trk:∀b,H1 b≠none->b∉frs (W7 (CXr P w) P w K mg base N qual scope f cd A outer s H E).stack:=λb hb hm=>hb (I.stkFree b hm)
 refine⟨a,C,H1,rfl,I.os,I.bare, ?_,I.hok.keptT λb o hb e=>keep b o e (trk b hb),⟨oe,vs',T,oT,ts,_,y1,y2,y3,y4,y5,y6,y7,y8,y9,fresh a hx.new,fresh T hT,older a hx.new,older T hT⟩,hE⟩
 exact YC (h1:=s1.heap) I rfl Un.refl (λb o e n _=>keep b o e n) slot
theorem B6:CI (CXr P w) (W7 (CXr P w) P w K mg base N qual scope f cd A outer s H E) E:=by
 intro pins σ H1 s1 e s2 I hc
 obtain⟨a,C,H2,rfl,os2,bare2,u,hok,x,hE⟩:=hc
 have hst2:s2.heap.FunFrames base (W7 (CXr P w) P w K mg base N qual scope f cd A outer s H E).stack:=UE I.stack I.stkFree (λ_ hb=>hb) u
 have older1:∀b o,s.heap.get? b=some o->∃o',s1.heap.get? b=some o':=λb o e=>I.base.there b o e (by intro z;cases z)
 have weaken:∀ {h':Heap},XAt h' s1.heap H2 a C->XAt h' s.heap H2 a C:=λ{h'} x=>by
  obtain⟨oe,vs,T,oT,ts,a0,x1,x2,x3,x4,x5,x6,x7,x8,x9,x10,x11,x12,x13⟩:=x
  refine⟨oe,vs,T,oT,ts,a0,x1,x2,x3,x4,x5,x6,x7,x8,x9,x10,x11, ?_, ?_⟩
  ·cases q:s.heap.get? a with
   |none=>rfl
   |some o=>obtain⟨o',e'⟩:=older1 a o q;rw[x12]at e';cases e'
  ·cases q:s.heap.get? T with
   |none=>rfl
   |some o=>obtain⟨o',e'⟩:=older1 T o q;rw[x13]at e';cases e'
 have hna:s1.heap.get? a=none:=by obtain⟨_,_,_,_,_,_,_,_,_,_,_,_,_,_,_,_,_,z,_⟩:=x;exact z
 have hHa:H2 a=none:=by obtain⟨_,_,_,_,_,_,_,_,_,_,_,_,_,_,_,z,_⟩:=x;exact z
 refine XC (E:=_) I.ok.frames rfl hst2 x (λb hb=>hok.there b hb) (λb o e=>u.there b o e (by simp)) λh' T keep slot hHT hgT xa=> ?_
 have frFree:∀b∈frs (W7 (CXr P w) P w K mg base N qual scope f cd A outer s H E).stack,H2 b=none:=λb hm=>by
  obtain⟨_,o,ho,_⟩:=I.stack.mem hm
  exact u.free b o ho (I.stkFree b hm) (by simp)
 refine⟨a,C,H2,rfl,os2.trans I.os,bare2, ?_,hok.keptT λb o hb e=>keep b o e (λhm=>hb (frFree b hm)) (λz=>hb (by rw[z];exact hHa)) (λz=>hb (by rw[z];exact hHT)),weaken xa,hE⟩
 exact YC I rfl u (λb o e n hs=>keep b o e n (λz=>hs (by rw[z];exact hna)) λz=>hs (by rw[z];exact hgT)) slot
theorem Fun.okX{x qual:Str}{st:Stmt}{f:Addr}{fd:FuncData}{N ps:List Str}{k:Nat}{sp:Sp}(F:Fun K x qual st f fd)(S:FnScope N ps (A5 st))(len:∀vs H Q E,sp vs H Q E->vs.length=ps.length)
  (hbody:∀(cdv:Value) (A:Around) (outer:List Env) (s:Shared) (H:Hp) (vs:List V) (Q:VK) (E:XK),Room k (A.deeper (envOfC qual (A5 st) s.heap.objs.size f cdv))->sp vs H Q E->
   ∃t,PSs (W7 (CXr P w) P w K mg base N qual (A5 st) f cdv A outer s H E) (B1 st) t/\t {nx:=λ_ H'=>Q .non H',rt:=Q} (ET N vs) H):FnOk P w K mg base (CXr P w) (k+1) f fd ps sp:=by
 obtain⟨oc,od,kV,doc,pm,an,cdv,ct,osl,rfl,lk,hcd⟩:=F.ex
 exact bRZ lk hcd S len λA outer s H vs Q E hr hsp=>hbody cdv A outer s H vs Q E hr hsp
end
def PU(K:FZ)(C:Addr):List Value:=match K.lookup C with
 |some o=>(match o.data with
  | .cls d=>d.mro.tail
  |_=> [])
 |none=> []
def OwnAt(h:Heap)(C:Addr)(bm bmB:List Value)(newId:String):Prop:=
 ∃N nm qn bs hdct sn sub ab col dd k0 k1 k2 k3 k5 mN,h.get? C=some (excClassObj nm qn C N bs bm hdct sn sub ab col dd k0 k1 k2 k3 k5 newId)/\h.Ns N mN/\mN "__init__"=none/\OwnTail h bmB bm
theorem DJ{K:FZ}{h:Heap}{C:Addr}{bmB:List Value}{newId:String}(X:K.In h)(q:excIn K C bmB newId=true):OwnAt h C (PU K C) bmB newId:=by
 unfold excIn at q
 cases ho:K.lookup C with
 |none=>rw[ho]at q;cases q
 |some o=>
  rw[ho]at q
  have hb:PU K C=(match o.data with
   | .cls d=>d.mro.tail
   |_=> []):=by unfold PU;rw[ho]
  rw[hb]
  have hX:=X C o ho
  split at q
  ·next d cd sl he=>
   cases he
   split at q
   ·next c1 bm a0 a1 a2 a3 nn a5 hm hs=>
    rw[Bool.and_eq_true,Bool.and_eq_true,Bool.and_eq_true,Bool.and_eq_true,Bool.and_eq_true]at q
    obtain⟨⟨⟨⟨⟨z1,z2⟩,z3⟩,z4⟩,z5⟩,z6⟩:=q
    have z1:=beq_iff_eq.mp z1
    have z2:=beq_iff_eq.mp z2
    have z6:=beq_iff_eq.mp z6
    subst z1 z2
    have hsl:sl= #[a0,a1,a2,a3,some (.builtin nn),a5]:=Array.toList_inj.mp hs
    obtain⟨nm,bs,mro,ns,qn,hd,sn,sub,ab,col,del⟩:=cd
    have hm:mro=_:=hm
    have y3:del=false:=by simpa using z3
    subst hm hsl
    subst y3
    exact⟨ns,nm,qn,bs,hd,sn,sub,ab,col,d,a0,a1,a2,a3,a5,_,hX,.of_isNs (PySem.W.isNs_of_in X z5),PySem.W.nsMap_none_of_in X z5 z6,PySem.W.tail_of_in X z4⟩
   ·cases q
  ·cases q
section
variable{P:Program}{w:World}{K:FZ}{mg:Str->Option Value}{base:Heap}{N:List Str}{qual:Str}{scope:Scope}{f:Addr}{cd:Value}{A:Around}{outer:List Env}{s:Shared}{H:Hp}{E:XK}
def chZ(C:Addr)(E:XK)(t:TA):TS:=λ_ σ H=>t σ H λvs H1=>vs.length<=sizeLine/\E (.ref C) none H1
theorem M8{C:Addr}{bmB:List Value}{B newId initId:String}{x:Str}{p pos rpos:Pos}{e:Expr}{es:List Expr}{t:TA}(F:ExcBaseFacts B newId initId bmB)(hB:bmB.contains (.type "BaseException")=true)
  (hq:excIn K C bmB newId=true)(hg:Gl (W7 (CXr P w) P w K mg base N qual scope f cd A outer s H E) x)(hm:mg x=some (.ref C))(ha:PA (W7 (CXr P w) P w K mg base N qual scope f cd A outer s H E) (e::es) t)
  (hdb:(x==("__debug__":Str))=false:=by decide)
  (he:starEach (e::es) (W7 (CXr P w) P w K mg base N qual scope f cd A outer s H E).env=(false,eval e (W7 (CXr P w) P w K mg base N qual scope f cd A outer s H E).env)::starEach es (W7 (CXr P w) P w K mg base N qual scope f cd A outer s H E).env:=by rfl)
  (hpl:(backTo pos (starEach (e::es) (W7 (CXr P w) P w K mg base N qual scope f cd A outer s H E).env)).any (·.1)=false:=by rfl):
  PS (W7 (CXr P w) P w K mg base N qual scope f cd A outer s H E) (.Raise (some (.Call (.Name x p) (e::es) [] pos)) none rpos) (chZ C E t):=by
 intro pins s1 σ H1 D I h
 obtain⟨Nn,nm,qn,bs,hdct,sn,sub,ab,col,dd,k0,k1,k2,k3,k5,mN,hC,hN,hni,T⟩:=DJ I.ok.mod.kin hq
 refine wpAny_Raise_call_subT (C:=C) (nm:=nm) (q:=qn) (N:=Nn) (bs:=bs) (bm:=PU K C) (hdct:=hdct) (sn:=sn) (sub:=sub) (ab:=ab) (col:=col) (dd:=dd) (k0:=k0) (k1:=k1) (k2:=k2) (k3:=k3) (k5:=k5) F (T.hasType hB) (I.ok.hd rfl) hpl hni ?_
 refine DC I hg hm ⟨rfl, ?_⟩ hdb
 have h2:=ha pos pins s1 σ H1 _ I h
 rw[he]at h2⊢
 refine Calls.evalArgs_plain (thn h2 λus s2 ⟨vs,H2,I2,r,q1,q2⟩=> ?_)
 have hk:∀b o,base.get? b=some o->s2.heap.get? b=some o:=λb o e=>(I2.bs b o e).1
 refine⟨rfl,by rw[<-r.length];exact q1,hk _ _ hC,hN.keeps hk,T.keeps hk,λh' a mx=>VZ I2 mx q2⟩
variable{h g:Heap}{a:Addr}{C:Value}
theorem YQ{base:Heap}{l:List Env}(hl:h.FunFrames base l)(x:XAt h g H a C)(hH:∀b,H b≠none->∃o,h.get? b=some o)(hg:∀b o,g.get? b=some o->∃o',h.get? b=some o'):
  ∃B a0,Heap.FlyingW B l a C a0 h/\∀h',Heap.FlyingW B l a C a0 h'->h.UpToSlots h'->
   (∀b o,h.get? b=some o->b∉frs l->(H b≠none\/g.get? b≠none)->h'.get? b=some o)/\(∀b o,h.get? b=some o->b∈frs l->∃sl,h'.get? b=some {o with slots:=sl})/\∃ob,h'.get? a=some ob/\ob.cls=C:=by
 obtain⟨oe,vs,T,oT,ts,a0,x1,x2,x3,x4,x5,x6,x7,x8,x9,x10,x11,x12,x13⟩:=x
 have hin:∀e∈l,∀b,e.frame=some b->b∈frs l++ [a,T]:=λe he b hb=>mem_append_left _ (mem_filterMap.mpr ⟨e,he,hb⟩)
 refine⟨hideAll h (frs l++ [a,T]),a0,⟨λb o q=>of_hideAll _ q,hideAll_none _ (by simp),PySem.W.funFrames_hide hl hin,oe,vs,T,oT,ts,x1,⟨x2,x4⟩,x3,x5,hideAll_none _ (by simp),x6,x7,x8,x9⟩,λh' fl us=>⟨λb o hb n c=> ?_,λb o hb hm=> ?_,fl.there⟩⟩
 ·refine fl.1 b o (hideAll_get _ hb λhm=> ?_)
  rcases mem_append.mp hm with hm|hm
  ·exact n hm
  ·have hz:b=a\/b=T:=by simpa using hm
   rcases hz with rfl|rfl
   ·rcases c with c|c
    ·exact c x10
    ·exact c x12
   ·rcases c with c|c
    ·exact c x11
    ·exact c x13
 ·obtain⟨_,o',ho',hnf⟩:=hl.mem hm
  rw[hb]at ho';cases ho'
  exact us b o hb hnf
end
def JM(a:Addr)(C:Value):HO:=.ext λh=>∃o,h.get? a=some o/\o.cls=C
theorem aSZ{P:Program}{w:World}{H:Hp}{h:Heap}{a:Addr}{C:Value}{o:Obj}(e:h.get? a=some o)(c:o.cls=C):ObjOk P w H h a (JM a C):=
 ⟨⟨o,e,c⟩,⟨o,e⟩,λ_ _ ⟨o,e,c⟩ k=>⟨o,k o e,c⟩⟩
theorem HOk.adds{P:Program}{w:World}{H:Hp}{h:Heap}{a:Addr}{o:HO}(x:HOk P w H h)(hn:H a=none)(new:ObjOk P w (upd H a o) h a o):HOk P w (upd H a o) h:=λb u e=>by
 by_cases hb:b=a
 ·subst hb;rw[A2]at e;cases e;exact new
 ·rw[C1 hb]at e
  exact(x b u e).stay (λ_ _ _ q=>q) (λc q=>by rw[C1 (B8 q hn)];exact q) λc xs q=>by rw[C1 (B8 q hn)];exact q
section
variable{fs:List Addr}{H1 H2:Hp}{h0 h1 h2:Heap}
theorem buZ(u:Un fs [] H1 H2 h0 h1)(keep:∀b o,h1.get? b=some o->b∉fs->(H2 b≠none\/h0.get? b≠none)->h2.get? b=some o)(slot:∀b o,h1.get? b=some o->b∈fs->∃sl,h2.get? b=some {o with slots:=sl}):Un fs [] H1 H2 h0 h2:=by
 refine⟨λb o e n hb _=> ?_,λb o e n hb _=> ?_,u.free,λb o e _=> ?_,u.tups,u.frzs,u.tbls⟩
 ·exact keep b o (u.keep b o e n hb (by simp)) hb (.inr (by rw[e];simp))
 ·obtain⟨sl,e1⟩:=u.slot b o e n hb (by simp)
  obtain⟨sl2,e2⟩:=slot b _ e1 hb
  exact⟨sl2,e2⟩
 ·obtain⟨o1,e1⟩:=u.there b o e (by simp)
  by_cases hb:b∈fs
  ·obtain⟨sl,e2⟩:=slot b o1 e1 hb
   exact⟨_,e2⟩
  ·exact⟨o1,keep b o1 e1 hb (.inr (by rw[e];simp))⟩
theorem cbZ{a:Addr}{o:HO}(u:Un fs [] H1 H2 h0 h1)(ha:h0.get? a=none)(hn:H2 a=none):Un fs [] H1 (upd H2 a o) h0 h1:=by
 refine⟨u.keep,u.slot,λb ob e n z=> ?_,u.there,λb xs q=> ?_,λb ob v q=> ?_,λb ps q=> ?_⟩
 ·rw[C1 (by rintro rfl;rw[ha]at e;cases e)]
  exact u.free b ob e n z
 ·have:=u.tups b xs q
  rw[C1 (B8 this hn)];exact this
 ·have:=u.frzs b ob v q
  rw[C1 (B8 this hn)];exact this
 ·obtain⟨m,e⟩:=u.tbls b ps q
  exact⟨m,by rw[C1 (B8 e hn)];exact e⟩
variable{X:Cx}{pins:List (Addr×Obj)}{σ:St}{s1 s2:Shared}{a:Addr}{C:Value}
theorem brZ(I:Inv X pins σ H1 s1)(os:s2.os=s1.os)(bare:AllBare s2.gens)(u:Un (frs X.stack) [] H1 H2 s1.heap s2.heap)(hok:HOk X.prog X.w H2 s2.heap)(x:XAt s2.heap s1.heap H2 a C):
  ∃B a0,Heap.FlyingW B X.stack a C a0 s2.heap/\∀h',Heap.FlyingW B X.stack a C a0 h'->s2.heap.UpToSlots h'->Inv X pins σ (upd H2 a (JM a C)) {s2 with heap:=h'}:=by
 have hst2:s2.heap.FunFrames X.base X.stack:=UE I.stack I.stkFree (λ_ hb=>hb) u
 have hHa:H2 a=none:=by obtain⟨_,_,_,_,_,_,_,_,_,_,_,_,_,_,_,z,_⟩:=x;exact z
 have hna:s1.heap.get? a=none:=by obtain⟨_,_,_,_,_,_,_,_,_,_,_,_,_,_,_,_,_,z,_⟩:=x;exact z
 obtain⟨B,a0,fl,st⟩:=YQ hst2 x (λb hb=>hok.there b hb) (λb o e=>u.there b o e (by simp))
 refine⟨B,a0,fl,λh' fl' us=> ?_⟩
 obtain⟨keep,slot,ob,hob,hc⟩:=st h' fl' us
 have frFree:∀b∈frs X.stack,H2 b=none:=λb hm=>by
  obtain⟨_,o,ho,_⟩:=I.stack.mem hm
  exact u.free b o ho (I.stkFree b hm) (by simp)
 have hok':HOk X.prog X.w H2 h':=hok.keptT λb o hb e=>keep b o e (λhm=>hb (frFree b hm)) (.inl hb)
 exact I.call' (s':={s2 with heap:=h'}) (ch:=[]) os (cbZ (buZ u keep slot) hna hHa) (hok'.adds hHa (aSZ hob hc)) bare (λb z=>absurd z (by simp))
variable{H:Hp}{s:Shared}
theorem DH{M:Model}{A:Around}{E:Value->Shared->Prop}{i:Nat}{n:Str}{pos:Pos}{Q:Unit->Shared->Prop}(I:Inv X pins σ H s)(hN:X.N.Nodup)(hi:X.N[i]? =some n)(hx:X.env.scope.names.lookup n=some .local)
  (h:∀s',Inv X pins (σ.set i none) H s'->Q () s'):wpAny M A (do bindName X.env n .none;unbindBehindTheSuite X.env n pos) Q E s:=by
 have hcls:(X.env.scope.kind==.class||(X.env.scope.kind==.module&&X.env.locals !=X.env.globals))=false:=by rw[I.ok.kind];rfl
 refine bZ (wpAny_bindName (Y9 (v:=.non) I hN hi (.inl hx) rfl (λs1 I1=> ?_) (.inr hx)))
 unfold unbindBehindTheSuite
 refine wpAny_onRaise ?_
 have hiσ:i<σ.length:=by rw[I.len];exact(List.getElem?_eq_some_iff.mp hi).1
 obtain⟨m,hn,hl⟩:=id I1.loc
 obtain⟨u,_,q⟩:=hl i n .non hi (getElem?_set_self hiσ) (.inl hx)
 have hm:m n=some u:=by
  rcases q with⟨_,e⟩|⟨k,_⟩
  ·exact e
  ·have hx':X.env.kindOf n=some .local:=hx
   rw[hx']at k
   rcases k with k|k<;>cases k
 refine wpAny_unbindName_local hx hn hm hcls λh' u' hn' hs=> ?_
 have cne:=I1.cne
 obtain⟨oL,_,_,hoL,_⟩:=id hn
 have lt:∀b o,X.s₀.heap.get? b=some o->h'.get? b=s1.heap.get? b:=λb o e=>hs.2 b (ne_of_lt (Nat.lt_of_lt_of_le (lt_size e) I1.ok.above))
 refine h {s1 with heap:=h'} ⟨I1.ok,I1.os,I1.bare,⟨λb o e n hb hx=>(lt b o e).trans (I1.base.keep b o e n hb hx),λb o e n hb hx=> ?_,I1.base.free,λb o e hx=> ?_,I1.base.tups,I1.base.frzs,I1.base.tbls⟩,⟨_,hn',λj y v' e1 e2 e3=> ?_⟩,λy c e=> ?_,I1.free,I1.freeC,λp hp=> ?_,λb ob e=> ?_,by simpa using I.len⟩
 ·obtain⟨sl,e1⟩:=I1.base.slot b o e n hb hx
  exact⟨sl,(lt b o e).trans e1⟩
 ·obtain⟨o',e1⟩:=I1.base.there b o e hx
  exact⟨o',(lt b o e).trans e1⟩
 ·have hj:j≠i:=by
   rintro rfl
   rw[getElem?_set_self hiσ]at e2;cases e2
  rw[getElem?_set_ne (Ne.symm hj)]at e2
  obtain⟨u2,r2,q2⟩:=hl j y v' e1 (by rw[getElem?_set_ne (Ne.symm hj)];exact e2) e3
  refine⟨u2,r2, ?_⟩
  rcases q2 with⟨k,e⟩|⟨k,c,e,z⟩
  ·refine .inl ⟨k, ?_⟩
   have:y≠n:=λe=>hj (IJ hN e1 (e▸hi))
   simp[this,e]
  ·exact .inr ⟨k,c,e,z.sameBut hs (cne y c e)⟩
 ·obtain⟨w',z⟩:=I1.cell y c e
  exact⟨w',z.sameBut hs (cne y c e)⟩
 ·obtain⟨e,n',ne,nf,d⟩:=I1.pin p hp
  exact⟨(hs.2 p.1 ne).trans e,n',ne,nf,d⟩
 ·refine(I1.hok b ob e).stay (λc v hc q=>(hs.2 c ?_).trans q) (λ_ q=>q) λ_ _ q=>q
  rintro rfl
  rcases hc with rfl|hc
  ·rw[I1.free]at e;cases e
  ·rw[I1.free]at hc;cases hc
variable{M:Model}{A:Around}{E:Value->Shared->Prop}{h:Heap}{g:Array GenState}{d:Drawn}{t:Nat}{os:OsState}
theorem OG{a C D:Addr}{bm bmB bmD bmE:List Value}{n1 n2:String}{oe:Obj}{Q:Bool->Shared->Prop}(hC:OwnAt h C bm bmB n1)(hD:OwnAt h D bmD bmE n2)(he:h.get? a=some oe)(hcls:oe.cls=.ref C)
  (hB:bmE.contains (.type "BaseException")=true)(hm:(Value.ref C::bm).contains (.ref D)=true)(hq:Q true ⟨h,g,d,t,os⟩):wpAny M A (excMatches (.ref a) (.ref D)) Q E ⟨h,g,d,t,os⟩:=by
 obtain⟨_,_,_,_,_,_,_,_,_,_,_,_,_,_,_,_,oC,_⟩:=hC
 obtain⟨_,_,_,_,_,_,_,_,_,_,_,_,_,_,_,_,oD,_,_,TD⟩:=hD
 have hcB:(Value.ref D::bmD).contains (.type "BaseException")=true:=by rw[contains_cons,TD.hasType hB,Bool.or_true]
 have f:=tc_notTuple
 unfold excMatches
 repeat (first
  |(with_reducible refine wpAny_loadPart_at he ?_;rw[hcls])
  |with_reducible refine wpAny_loadPart_at oD ?_
  |(with_reducible refine wpAny_isSubtype_exc oD ?_;rw[hcB])
  |(with_reducible refine wpAny_isSubtype_exc oC ?_;rw[hm])
  |wp_step)
 exact hq
end
def Cx.marked(X:Cx)(e:Value):Cx:={X with A:=X.A.mark (some e),calm:=false,xe:=λ_ _=>False}
section
variable{X:Cx}{pins:List (Addr×Obj)}{σ:St}{H:Hp}{s:Shared}{e:Value}
theorem Inv.mark(I:Inv X pins σ H s):Inv (X.marked e) pins σ H s:=
 ⟨⟨I.ok.mod,I.ok.kind,I.ok.glob,I.ok.blt,I.ok.above,I.ok.inj,I.ok.has,I.ok.cab,(λz=>nomatch z),I.ok.frames,I.ok.stk,I.ok.exf,I.ok.bs,I.ok.bsz,I.ok.noex,I.ok.exfs,I.ok.funs,I.ok.frf⟩,I.os,I.bare,I.base,I.loc,I.cell,I.free,I.freeC,I.pin,I.hok,I.len⟩
theorem Inv.unmark(ok:X.Ok)(I:Inv (X.marked e) pins σ H s):Inv X pins σ H s:=⟨ok,I.os,I.bare,I.base,I.loc,I.cell,I.free,I.freeC,I.pin,I.hok,I.len⟩
end
def Cx.xed(X:Cx)(xe:Value->Shared->Prop):Cx:={X with xe:=xe}
section
variable{X:Cx}{pins:List (Addr×Obj)}{σ:St}{H:Hp}{s:Shared}{xe:Value->Shared->Prop}
theorem Inv.xed(I:Inv X pins σ H s):Inv (X.xed xe) pins σ H s:=
 ⟨⟨I.ok.mod,I.ok.kind,I.ok.glob,I.ok.blt,I.ok.above,I.ok.inj,I.ok.has,I.ok.cab,I.ok.hd,I.ok.frames,I.ok.stk,I.ok.exf,I.ok.bs,I.ok.bsz,I.ok.noex,I.ok.exfs,I.ok.funs,I.ok.frf⟩,I.os,I.bare,I.base,I.loc,I.cell,I.free,I.freeC,I.pin,I.hok,I.len⟩
theorem Inv.unxed(I:Inv (X.xed xe) pins σ H s):Inv X pins σ H s:=
 ⟨⟨I.ok.mod,I.ok.kind,I.ok.glob,I.ok.blt,I.ok.above,I.ok.inj,I.ok.has,I.ok.cab,I.ok.hd,I.ok.frames,I.ok.stk,I.ok.exf,I.ok.bs,I.ok.bsz,I.ok.noex,I.ok.exfs,I.ok.funs,I.ok.frf⟩,I.os,I.bare,I.base,I.loc,I.cell,I.free,I.freeC,I.pin,I.hok,I.len⟩
end
abbrev TEX:=St->Hp->VK->XK->Prop
abbrev TSX:=Ends->(St->XK)->St->Hp->Prop
def PEX(X:Cx)(e:Expr)(t:TEX):Prop:=
 ∀(pins:List (Addr×Obj)) (s:Shared) (σ:St) (H:Hp) (Q:VK) (E:XK) (XE:Value->Shared->Prop),Inv X pins σ H s->t σ H Q E->
  (∀H1 s1 e s',Inv X pins σ H1 s1->CXr X.prog X.w X.stack H1 s1 E e s'->XE e s')->wpAny (model X.prog X.w) X.A (eval e X.env) (EP X pins σ Q) XE s
def PSX(X:Cx)(st:List Stmt)(t:TSX):Prop:=
 ∀(pins:List (Addr×Obj)) (s:Shared) (σ:St) (H:Hp) (D:Ends) (E:St->XK) (XE:Value->Shared->Prop),Inv X pins σ H s->t D E σ H->
  (∀σ1 H1 s1 e s',Inv X pins σ1 H1 s1->CXr X.prog X.w X.stack H1 s1 (E σ1) e s'->XE e s')->wpAny (model X.prog X.w) X.A (execs st X.env) (SP X pins D) XE s
section
variable{X:Cx}{k:Nat}{f C:Addr}{fd:FuncData}{ps:List Str}{sp:Sp}{dvs:List V}{ds:List Value}{x m:Str}{p pos apos:Pos}{e o:Expr}{es:List Expr}{ta:TE}{t:TA}
theorem aWZ{pins:List (Addr×Obj)}{σ:St}{H:Hp}{s:Shared}{Q:VK}{E:XK}{XE:Value->Shared->Prop}{us:List Value}{vs:List V}(F:FnOk X.prog X.w X.K X.mg X.base (CXr X.prog X.w) k f fd ps sp)(hr:Room k X.A)(hb:Binds X.K fd ps ds)(hd:Vals dvs ds)
  (I:Inv X pins σ H s)(r:Vals vs us)(h:sp (vs++dvs) H Q E)(hx:∀e s',CXr X.prog X.w X.stack H s E e s'->XE e s'):wpAny (model X.prog X.w) X.A (call (.ref f) us) (EP X pins σ Q) XE s:=by
 have r2:Vals (vs++dvs) (us++ds):=r.append hd
 have hl:(us++ds).length=ps.length:=by rw[<-r2.length];exact F.len _ _ _ _ h
 refine wpAny_call (codeAny_mono (F.run X.A X.stack s H ⟨us,[]⟩ (us++ds) (vs++dvs) Q E hr I.env0 (hb s us I.kIn hl) r2 h) λr s' hq=> ?_)
 cases r with
 |error e=>exact hx e s' hq
 |ok fl=>
  cases fl with
  |ret u=>exact I.after hq
  |next=>exact False.elim hq
  |brk=>exact False.elim hq
  |cont=>exact False.elim hq
def dtZ(sp:Sp)(dvs:List V)(t:TA):TEX:=fun σ H Q E=>t σ H λvs H1=>sp (vs++dvs) H1 Q E
theorem YB(F:FnOk X.prog X.w X.K X.mg X.base (CXr X.prog X.w) k f fd ps sp)(hr:Room k X.A)(hg:Gl X x)(hm:X.mg x=some (.ref f))(hk:kZ X.K (.ref f)=true)(hb:Binds X.K fd ps ds)(hd:Vals dvs ds)
  (ha:∀xe,PA (X.xed xe) (e::es) t)(hdb:(x==("__debug__":Str))=false:=by decide)(he:starEach (e::es) X.env=(false,eval e X.env)::starEach es X.env:=by rfl)(hpl:(backTo pos (starEach es X.env)).any (·.1)=false:=by rfl):
  PEX X (.Call (.Name x p) (e::es) [] pos) (dtZ sp dvs t):=by
 intro pins s σ H Q E XE I h hx
 refine wpAny_Call_Name_kw (DC I hg hm ?_ hdb)
 refine callWith_K (h₀:=X.base) I.ok.mod.kin hk (thn (ha XE pos pins s σ H _ I.xed h) λus s1 ⟨vs,H1,I1,r,q⟩=>⟨I1.kIn, ?_⟩) he hpl
 exact aWZ F hr hb hd I1.unxed r q λe s' c=>hx _ _ e s' I1.unxed c
end
section
variable{X:Cx}{e:Expr}{pos:Pos}{t:TEX}{st:Stmt}{rest:List Stmt}{a b:List Stmt}{ta tb:TSX}
def eoZ(t:TEX):TSX:=λD E σ H=>t σ H D.rt (E σ)
theorem aQZ(he:PEX X e t):PSX X [.Return (some e) pos] (eoZ t):=by
 intro pins s σ H D E XE I h hx
 exact wpAny_execs_cons (wpAny_Return_some (thn (he pins s σ H _ _ XE I h λH1 s1=>hx σ H1 s1) λv s1 ⟨x,H1,I1,r1,q1⟩=>⟨x,σ,H1,I1,r1,q1⟩))
end
def Ends.minus(D:Ends)(i:Nat):Ends:={nx:=fun σ H=>D.nx (σ.set i none) H,rt:=D.rt,bk:=fun σ H=>D.bk (σ.set i none) H,ct:=fun σ H=>D.ct (σ.set i none) H}
structure Takes (K:FZ) (D:Addr) (Ok:Addr->Prop):Prop where
 own:∃bmB nid,excIn K D bmB nid=true/\bmB.contains (.type "BaseException")=true
 all:∀c,Ok c->(∃bmB nid,excIn K c bmB nid=true)/\(Value.ref c::PU K c).contains (.ref D)=true
theorem OwnAt.keeps{h h':Heap}{C:Addr}{bm bmB:List Value}{nid:String}(x:OwnAt h C bm bmB nid)(k:∀b o,h.get? b=some o->h'.get? b=some o):OwnAt h' C bm bmB nid:=by
 obtain⟨N,nm,qn,bs,hdct,sn,sub,ab,col,dd,k0,k1,k2,k3,k5,mN,hC,hN,hni,T⟩:=x
 exact⟨N,nm,qn,bs,hdct,sn,sub,ab,col,dd,k0,k1,k2,k3,k5,mN,k _ _ hC,hN.keeps k,hni,T.keeps k⟩
section
variable{X:Cx}{x n:Str}{np hpos pos:Pos}{body suite:List Stmt}{b₀:Stmt}{i:Nat}{tb:TSX}{ts:TS}{D0:Addr}{Ok:Addr->Prop}
def cSZ(Ok:Addr->Prop)(i:Nat)(tb:TSX)(ts:TS):TS:=λD σ H=>tb D (fun σ1 C _ H2=>∃c,C=.ref c/\Ok c/\∀a,H2 a=none->ts (D.minus i) (σ1.set i (some (.ref a))) (upd H2 a (JM a (.ref c)))) σ H
theorem WZ(hst:X.stack=X.env::X.outer)(hf:X.env.frame=some X.env.locals)(hN:X.N.Nodup)(hi:X.N[i]? =some n)(hn:X.env.scope.names.lookup n=some .local)(hg:Gl X x)(hm:X.mg x=some (.ref D0))(tk:Takes X.K D0 Ok)
  (hb:PSX X body tb)(hs:∀a,PSs (X.marked (.ref a)) (b₀::suite) ts)(hdb:(x==("__debug__":Str))=false:=by decide):
  PS X (.Try body [.ExceptHandler (some (.Name x np)) (some n) (b₀::suite) hpos] [] [] pos) (cSZ Ok i tb ts):=by
 intro pins s σ H D I h
 refine wpAny_Try_except (wpAny_mono (hb pins s σ H D _ _ I h fun σ1 H1 s1 e s2 I1 hc=> ?_) (λf s1 q=> ?_) λ_ _ z=>z)
 rotate_left
 ·cases f with
  |next=>exact wpAny_execs_nil q
  |ret v=>exact q
  |brk=>exact q
  |cont=>exact q
 obtain⟨a,C,H2,rfl,os2,bare2,u,hok,xa,c,rfl,okc,hts⟩:=hc
 have hHa:H2 a=none:=by obtain⟨_,_,_,_,_,_,_,_,_,_,_,_,_,_,_,z,_⟩:=xa;exact z
 obtain⟨B,a0,fl,st⟩:=brZ I1 os2 bare2 u hok xa
 rw[hst]at fl st
 refine wpAny_looks_onW (by rw[I1.ok.frames,hst]) hf fl λh3 held us3=> ?_
 refine wpAny_landsW held λh4 fl4 us4=> ?_
 have I4:=st h4 fl4 (us3.trans us4)
 obtain⟨ob,hob,hobc⟩:=fl4.there
 refine wpAny_handleBy_cons (codeAny_handlers_test (DC (X:=X.marked (.ref a)) I4.mark hg hm ?_ hdb)) (by intro q;cases q)
 obtain⟨⟨bE,nE,qD,hB⟩,hall⟩:=tk
 obtain⟨⟨bC,nC,qC⟩,hcD⟩:=hall c okc
 have k4:∀b o,X.base.get? b=some o->h4.get? b=some o:=λb o e=>(I4.bs b o e).1
 refine OG ((DJ I.ok.mod.kin qC).keeps k4) ((DJ I.ok.mod.kin qD).keeps k4) hob hobc hB hcD ?_
 refine codeAny_handlers_suite_as ?_
 refine lands_againW fl4 λh5 fl5 us5=> ?_
 have I5:=st h5 fl5 ((us3.trans us4).trans us5)
 refine Y9 (X:=X.marked (.ref a)) (v:=.ref a) I5.mark hN hi (.inl hn) rfl (λs6 I6=> ?_) (.inr hn)
 refine wpAny_mono (hs a pins s6 _ _ (D.minus i) I6 (hts a hHa)) (λf s7 q=> ?_) λ_ _ z=>z.elim
 cases f with
 |next=>
  obtain⟨σ',H',I',q⟩:=q
  exact DH (I'.unmark I.ok) hN hi hn λs8 I8=>⟨_,_,I8,q⟩
 |brk=>
  obtain⟨σ',H',I',q⟩:=q
  exact DH (I'.unmark I.ok) hN hi hn λs8 I8=>⟨_,_,I8,q⟩
 |cont=>
  obtain⟨σ',H',I',q⟩:=q
  exact DH (I'.unmark I.ok) hN hi hn λs8 I8=>⟨_,_,I8,q⟩
 |ret v=>
  obtain⟨y,σ',H',I',r,q⟩:=q
  exact DH (I'.unmark I.ok) hN hi hn λs8 I8=>⟨y,_,_,I8,r,q⟩
end
structure ExcLook (K:FZ) (C:Addr):Prop where
 own:∃bmB nid,excIn K C bmB nid=true/\bmB.contains (.type "BaseException")=true/\bmB.contains (.type "object")=true
 ga:findIn K (.ref C) "__getattribute__"=some (some (.builtin "BaseException.__getattribute__"))
 nga:findIn K (.ref C) "__getattr__"=some none
 cl:findIn K (.ref C) "__class__"=some (some (.builtin "object.__class__"))
section
variable{prog:Program}{w:World}{A:Around}{E:Value->Shared->Prop}{h:Heap}{g:Array GenState}{d:Drawn}{t:Nat}{os:OsState}{a C:Addr}{o:Obj}{bm bmB:List Value}{nid:String}
theorem cRZ{R:Result->Shared->Prop}(hC:OwnAt h C bm bmB nid)(hO:bmB.contains (.type "object")=true)(hx:h.get? a=some o)(hc:o.cls=.ref C)(hq:R (.ok (.ret (.ref C))) ⟨h,g,d,t,os⟩):
  codeAny (model prog w) A (.call (.builtin "getset_descriptor.__get__") ⟨[.builtin "object.__class__",.ref a,.ref C],[]⟩) R ⟨h,g,d,t,os⟩:=by
 obtain⟨_,_,_,_,_,_,_,_,_,_,_,_,_,_,_,_,oC,_,_,T⟩:=hC
 have ty5:Shared.TypeIs ⟨h,g,d,t,os⟩ (.builtin "object.__class__") "getset_descriptor":=F.typeOf_object_class
 have hcO:(Value.ref C::bm).contains (.type (".".intercalate ("object.__class__".cutAt '.').dropLast))=true:=by
  rw[F.owner_object_class,contains_cons,T.hasType hO,Bool.or_true]
 refine codeAny_call_builtin F.slot_gs_get.plain F.entry_gs_get
  (F.slot_gs_get.check _ _ _ _ _ _ _ _ ty5 (F.args_gs_get _ _ _) ?_)
 repeat (any_goals (first|assumption|(with_reducible refine wpAny_loadPart_at hx ?_;rw[hc])|(with_reducible refine wpAny_isSubtype_exc oC ?_;rw[hcO])|wp_step))
 refine⟨Code.quiet_builtin _ (by decide +kernel),
  codeAny_builtin F.entry_object_class ?_⟩
 repeat (any_goals (first|assumption|(with_reducible refine wpAny_loadPart_at hx ?_;rw[hc])|wp_step))
theorem ZV{tk:Tok}{Q:Fin->Shared->Prop}{K:FZ}(X:K.In h)(L:ExcLook K C)(hC:OwnAt h C bm bmB nid)(hO:bmB.contains (.type "object")=true)(hx:h.get? a=some o)(hc:o.cls=.ref C)(hq:Q (.done (.ret (.ref C))) ⟨h,g,d,t,os⟩):
  wpAny (model prog w) A (Builtin.«object.__getattribute__» ⟨[Value.ref a,.str "__class__" tk],[]⟩) Q E ⟨h,g,d,t,os⟩:=by
 have ty5:Shared.TypeIs ⟨h,g,d,t,os⟩ (.builtin "object.__class__") "getset_descriptor":=F.typeOf_object_class
 have ofCls:=F.typeOf_object_class
 have ofGet:=F.slot_gs_get.lookup
 have ofSet:=F.slot_gs_set.lookup
 have lk:=looks_findIn (M:=model prog w) X L.cl
 repeat (any_goals (first|assumption|(with_reducible refine wpAny_loadPart_at hx ?_;rw[hc])|with_reducible refine lk.at ?_|wp_step))
 refine cRZ hC hO hx hc ?_
 repeat (any_goals (first|assumption|wp_step))
theorem acZ{M:Model}{nv:Value}{Q:Unit->Shared->Prop}(hC:OwnAt h C bm bmB nid)(hB:bmB.contains (.type "BaseException")=true)(hx:h.get? a=some o)(hc:o.cls=.ref C)(hq:Q () ⟨h,g,d,t,os⟩):
  wpAny M A (checkBuiltinCall "BaseException.__getattribute__" ⟨[.ref a,nv],[]⟩) Q E ⟨h,g,d,t,os⟩:=by
 obtain⟨_,_,_,_,_,_,_,_,_,_,_,_,_,_,_,_,oC,_,_,T⟩:=hC
 have k1:builtinKind "BaseException.__getattribute__"=some .slot:=by decide +kernel
 have k2:splitId "BaseException.__getattribute__"=some ("BaseException","__getattribute__"):=by decide +kernel
 have k3:(Value.ref C::bm).contains (.type "BaseException")=true:=by rw[contains_cons,T.hasType hB,Bool.or_true]
 have k4:=F.args_bexc_ga (.ref a) nv
 simp only[checkBuiltinCall,k1,k2]
 refine bZ ?_
 unfold isInstance
 repeat (first|(with_reducible refine wpAny_loadPart_at hx ?_;rw[hc])|(with_reducible refine wpAny_isSubtype_exc oC ?_;rw[k3])|wp_step)
 exact hq
theorem aJZ{tk:Tok}{R:Result->Shared->Prop}{K:FZ}(X:K.In h)(L:ExcLook K C)(hC:OwnAt h C bm bmB nid)(hB:bmB.contains (.type "BaseException")=true)(hO:bmB.contains (.type "object")=true)(hx:h.get? a=some o)(hc:o.cls=.ref C)(hq:R (.ok (.ret (.ref C))) ⟨h,g,d,t,os⟩):
  codeAny (model prog w) A (.call (.builtin "BaseException.__getattribute__") ⟨[.ref a,.str "__class__" tk],[]⟩) R ⟨h,g,d,t,os⟩:=
 codeAny_call_builtin F.excAttr_ValueError.ga.plain F.entry_bexc_ga (acZ hC hB hx hc (ZV X L hC hO hx hc hq))
theorem dRZ{tk:Tok}{Q:Value->Shared->Prop}{K:FZ}(X:K.In h)(L:ExcLook K C)(hC:OwnAt h C bm bmB nid)(hB:bmB.contains (.type "BaseException")=true)(hO:bmB.contains (.type "object")=true)(hx:h.get? a=some o)(hc:o.cls=.ref C)(hq:Q (.ref C) ⟨h,g,d,t,os⟩):
  wpAny (model prog w) A (getAttrBy (.ref a) (.str "__class__" tk) false) Q E ⟨h,g,d,t,os⟩:=by
 have f3:=F.excAttr_ValueError.ga.bind (.ref a)
 have ne1:(Value.builtin "BaseException.__getattribute__"==.builtin "object.__getattribute__")=false:=by decide +kernel
 have ne2:(onTheHeap (.ref C)&&Value.builtin "BaseException.__getattribute__"==.builtin "object.__getattribute__")=false:=by rw[ne1,Bool.and_false]
 have l1:=looks_findIn (M:=model prog w) X L.ga
 have l2:=looks_findIn (M:=model prog w) X L.nga
 repeat (any_goals (first|assumption|(with_reducible refine wpAny_loadPart_at hx ?_;rw[hc])|with_reducible refine l1.at ?_|with_reducible refine l2.at ?_|wp_step))
 refine aJZ X L hC hB hO hx hc ?_
 repeat (any_goals (first|assumption|wp_step))
theorem btZ{Q:Option Value->Shared->Prop}{K:FZ}(X:K.In h)(L:ExcLook K C)(hC:OwnAt h C bm bmB nid)(hB:bmB.contains (.type "BaseException")=true)(hO:bmB.contains (.type "object")=true)(hx:h.get? a=some o)(hc:o.cls=.ref C)
  (hq:Q (some (.ref C)) ⟨h,g,d,t+1,os⟩):wpAny (model prog w) A (getAttr? (.ref a) "__class__") Q E ⟨h,g,d,t,os⟩:=by
 unfold getAttr? getAttrBy?
 repeat (any_goals (first|assumption|with_reducible apply dRZ X L hC hB hO hx hc|wp_step))
end
theorem YO{K:FZ}{a C:Addr}(L:ExcLook K C):PySem.W.KitX K (.ref a) (.ref C) (λh=>∃o,h.get? a=some o/\o.cls=.ref C) where
 ty:=λM h _ ⟨o,e,c⟩=>c▸(PySem.W.Looks.ld e).andThen .now
 it:=λM h X _=>by
  obtain⟨_,_,q,_,_⟩:=L.own
  obtain⟨_,_,_,_,_,_,_,_,_,_,_,_,_,_,_,_,oC,_⟩:=DJ X q
  intro A' Q' E' s' k z
  unfold isType loadHead
  exact bZ (wpAny_loadPart (k _ _ oC) (pZ z))
 ne:=λh tp dd its n sl X e=>by
  obtain⟨_,_,q,_,_⟩:=L.own
  obtain⟨_,_,_,_,_,_,_,_,_,_,_,_,_,_,_,_,oC,_⟩:=DJ X q
  refine Bool.eq_false_iff.mpr λz=> ?_
  have e2:C=tp:=Value.ref.inj (beq_iff_eq.mp z)
  subst e2
  have z2:Value.type "type"=Value.type "tuple":=congrArg (λx:Option Obj=>x.elim Value.none Obj.cls) (oC.symm.trans e)
  exact absurd (Value.type.inj z2) (by decide)
 ca:=λ{prog w A E Q s} X ⟨o,e,c⟩ k=>by
  obtain⟨_,_,q,hB,hO⟩:=L.own
  obtain⟨h,g,d,t,os⟩:=s
  exact btZ X L (DJ X q) hB hO e c k
section
variable{X:Cx}{pins:List (Addr×Obj)}{σ:St}{H:Hp}{s:Shared}
theorem dcZ{A:Around}{E:Value->Shared->Prop}{Q:Value->Shared->Prop}{a C:Addr}{c:Value}{b:Bool}(I:Inv X pins σ H s)(ea:H a=some (JM a (.ref C)))(L:ExcLook X.K C)(e:kitOne X.K (.ref C) c=some b)(h:∀tk,Q (.bool b) {s with toks:=tk}):
  wpAny (model X.prog X.w) A (call (.builtin "isinstance") [.ref a,c]) Q E s:=by
 obtain⟨p,_,_⟩:=(show ObjOk X.prog X.w H s.heap a (JM a (.ref C))from I.hok a _ ea)
 exact kia_one (YO L) I.kIn p e (λz=>nomatch z) h
def dzZ(y:V)(c:Value):Prop:=(∃T,y=.ty T/\c=.type T)\/∃D,y=.ref D/\c=.ref D
theorem PN{K:FZ}(hK:X.K=K:=by rfl):CallR X (.builtin "isinstance") (λxs H Q=>∃a y c C b,xs=[.ref a,y]/\dzZ y c/\H a=some (JM a (.ref C))/\ExcLook K C/\kitOne K (.ref C) c=some b/\Q (.bl b) H):=by
 subst hK
 intro pins s σ H xs us Q I r h
 obtain⟨a,y,c,C,b,rfl,hy,ea,L,e,q⟩:=h
 obtain⟨u,v,rfl,ru,rv⟩:=OF r
 cases ru
 have hc:v=c:=by
  rcases hy with⟨T,rfl,rfl⟩|⟨D,rfl,rfl⟩
  ·exact(show v=Value.type T from rv)
  ·exact(show v=Value.ref D from rv)
 subst hc
 exact dcZ I ea L e λtk=>⟨.bl b,H,I.tok _,rfl,q⟩
variable{tg:Expr}
def d9Z:V->Option Int->Option Int->Hp->VK->Prop:=λx lo hi H Q=>∃z,x=.str z/\z.length<=sizeLine/\Q (.str (Txt.slice z lo hi)) H
theorem TY{v:Value}{k:Option Int}(p:IsPart v k):∃o:Option (Int×Tok),partValue o=v/\o.map (·.1)=k:=by
 cases p with
 |none=>exact⟨none,rfl,rfl⟩
 |int i t=>exact⟨some (i,t),rfl,rfl⟩
theorem apZ:SlR X d9Z:=by
 intro pins s σ H x v vl vu lo hi sl Q I rx hs pl pu h
 obtain⟨z,rfl,hz,q⟩:=h
 obtain⟨t,rfl⟩:=rx
 obtain⟨l,el,ml⟩:=TY pl
 obtain⟨u,eu,mu⟩:=TY pu
 refine⟨"str",_,F.slot_str_getitem.lookup,typeIs_str _ _ _, ?_⟩
 obtain⟨o,h1,h2,h3⟩:=hs
 refine wpAny_getItem_str_slice (l:=l) (u:=u) (st:=none) ⟨o,h1,h2,by rw[el,eu];exact h3⟩ rfl ?_
 have e:sliceMade z t l u none=if((1:Int)==1&&(Builtin.Str.strSliceIndices lo hi 1 z.length).length==z.length)=true then .val (.str z t)else .str ⟨((Builtin.Str.strSliceIndices lo hi 1 z.length).filterMap (z.cps[·]?)).toArray⟩:=by
  subst ml mu;rfl
 rw[e]
 refine post_val_or_str ⟨le_trans (Txt.slice_le z lo hi) hz,λt' k=> ?_⟩
 exact⟨.str (Txt.slice z lo hi),H,I.tok _,⟨_,rfl⟩,q⟩
def Its(z:Str):It:=⟨λi _=>i<z.length,λi H x H'=>H'=H/\∃c,z.cps[i]? =some c/\x=.str ⟨#[c]⟩,λi _=>z.length<=i⟩
theorem OT{P:Program}{w:World}{K:FZ}(z:Str)(t:Tok)(it:Addr)(n:String)(hn:n="str_ascii_iterator"\/n="str_iterator"):Turn P w K tg (Its z) [it] it (λi h=>h.IsStrIter it n z t i) where
 mem:=by simp
 obj:=λi h st b hb=>by
  have e:b=it:=by simpa using hb
  subst e
  obtain⟨o,e,c,d⟩:=st
  exact⟨o,e,λv z=>by rw[d]at z;cases z⟩
 keep:=λi h h' st k=>by
  obtain⟨o,e,c⟩:=st
  exact⟨o,k it (by simp) o e,c⟩
 item:=by
  intro X hP hw hK hc i pins s σ H E I hf st hg
  subst hP hw hK
  obtain⟨f0,f1,f2,f3,f4,f5⟩:=hf it (by simp)
  have hi:i<z.cps.size:=hg
  have hx:z.cps[i]? =some z.cps[i]:=by simp[hi]
  have fin:∀h',h'.IsStrIter it n z t (i+1)->Heap.SameBut it s.heap h'->∃u,some (Value.str ⟨#[z.cps[i]]⟩ s.toks)=some u/\
    wpAny (model X.prog X.w) X.A (letOwnedTupleGo tg (.ref it) u) (λ_ s2=>∃x H',Inv X pins σ H' s2/\RelV x u/\(Its z).yld i H x H'/\s2.heap.IsStrIter it n z t (i+1)/\∀b∈ [it],H' b=none) E {s with heap:=h',toks:=s.toks+1}:=λh' st' sb=>by
   have I1:Inv X pins σ H {s with heap:=h',toks:=s.toks+1}:=I.turned (λb o hb e=>(sb.2 b hb).trans e) f0 f1 f3 f4 f5
   obtain⟨o,e,c,d⟩:=id st'
   exact⟨_,rfl,PL (s:={s with heap:=h',toks:=s.toks+1}) e c d (by rcases hn with rfl|rfl<;>decide) ⟨.str ⟨#[z.cps[i]]⟩,H,I1,⟨_,rfl⟩,⟨rfl,_,hx,rfl⟩,st',λb hb=>(hf b hb).1⟩⟩
  rcases hn with rfl|rfl
  ·exact wpAny_pyNext_ascii_item st hx fin
  ·exact wpAny_pyNext_wide_item st hx fin
 done:=by
  intro X hP hw hK hc i pins s σ H E I hf st hg
  subst hP hw hK
  obtain⟨f0,f1,f2,f3,f4,f5⟩:=hf it (by simp)
  have hx:z.cps[i]? =none:=by simpa using(show z.cps.size<=i from hg)
  rcases hn with rfl|rfl
  ·exact wpAny_pyNext_ascii_end (I.ok.hd hc) st hx λh' eb=>⟨rfl,I.turned (t':=s.toks) (λb o hb e=>eb b o hb e) f0 f1 f3 f4 f5⟩
  ·exact wpAny_pyNext_wide_end (I.ok.hd hc) st hx λh' eb=>⟨rfl,I.turned (t':=s.toks) (λb o hb e=>eb b o hb e) f0 f1 f3 f4 f5⟩
 self:=λ_ _ _ _ _ st h=>by
  rcases hn with rfl|rfl
  ·exact wpAny_pyIter_striter_ascii st h
  ·exact wpAny_pyIter_striter_wide st h
def enZ(tl:TE):TI:=fun σ H R=>tl σ H λx H1=>∃z,x=.str z/\R (Its z) H1
theorem ZU{l:Expr}{tl:TE}(hl:PE X l tl):PI X tg l (enZ tl):=by
 intro pins s σ H R I h
 refine thn (hl pins s σ H _ I h) λv s1 ⟨x,H1,I1,r1,q1⟩=> ?_
 obtain⟨z,rfl,q⟩:=q1
 obtain⟨t,rfl⟩:=r1
 have fin:∀n:String,(n="str_ascii_iterator"\/n="str_iterator")->PIE X pins σ tg R (.ref s1.heap.objs.size) {s1 with heap:=s1.heap.push {cls:=.type n,data:=.fields #[.str z t,.int 0 0]}}:=λn hn=>by
  refine⟨s1.heap.objs.size,[s1.heap.objs.size],_,_,H1,rfl,I1.kept (t':=s1.toks) λb o e=>gZ _ e,OT z t _ n hn,⟨_,get?_push_size _ rfl,rfl,rfl⟩,λb hb=> ?_,q⟩
  have e:b=s1.heap.objs.size:=by simpa using hb
  subst e
  exact I1.fpOk (le_refl _) (I1.hok.fresh (le_refl _))
 cases ha:z.cps.all (·<128)
 ·exact wpAny_pyIter_wide ha (fin _ (.inr rfl))
 ·exact wpAny_pyIter_ascii ha (fin _ (.inl rfl))
theorem XL{bs:List Bool}{its:List Value}(r:Vals (bs.map V.bl) its){i:Nat}{v:Value}(e:its[i]? =some v):v=.bool (bs.getD i false):=by
 have hl:=r.length
 obtain⟨hi,_⟩:=List.getElem?_eq_some_iff.mp e
 have hb:i<bs.length:=by rw[length_map]at hl;omega
 have hx:(bs.map V.bl)[i]? =some (V.bl (bs.getD i false)):=by simp[hb]
 obtain⟨u,e2,ru⟩:=r.get hx
 rw[e]at e2;cases e2
 exact ru
theorem WB(bs:List Bool):((List.range bs.length).all λi=>bs.getD i false)=bs.all id:=by
 rw[Bool.eq_iff_iff,all_eq_true,all_eq_true]
 constructor
 ·intro h x hx
  obtain⟨i,hi,e⟩:=List.getElem_of_mem hx
  have:=h i (List.mem_range.mpr hi)
  simpa [List.getD_eq_getElem?_getD,List.getElem?_eq_getElem hi,e]using this
 ·intro h i hi
  have hi:=List.mem_range.mp hi
  have:=h bs[i] (getElem_mem hi)
  simpa [List.getD_eq_getElem?_getD,List.getElem?_eq_getElem hi]using this
theorem VR(hc:X.calm=true):CallR X (.builtin "all") (λxs H Q=>∃(p:Addr) (bs:List Bool),xs=[.ref p]/\SqL X.K H p (bs.map V.bl)/\Q (.bl (bs.all id)) H):=by
 intro pins s σ H vs us Q I r h
 obtain⟨p,bs,rfl,hS,q⟩:=h
 obtain⟨u,rfl,ru⟩:=CJ r
 cases ru
 obtain⟨its,rv,pl,hz⟩:=I.list hS
 have hl:its.length=bs.length:=by have:=rv.length;rw[length_map]at this;omega
 refine call_all_walk (wpAny_pyIter_list pl.isList ?_)
 obtain⟨ol,el,cl,dl⟩:=id pl.isList
 have hpne:p≠s.heap.objs.size:=ne_of_lt (lt_size el)
 have W:=Walks.list (prog:=X.prog) (w:=X.w) (A:=X.A.in1) (show X.A.in1.handled=none from I.ok.hd hc) s.heap.objs.size p hpne its.toArray
 refine⟨s.heap.objs.size,[s.heap.objs.size,p],[s.heap.objs.size],its.toArray.size,_,_,λi=>bs.getD i false,rfl,W,⟨⟨_,get?_push_size _ rfl,rfl,rfl⟩,⟨ol,gZ _ el,cl,dl⟩⟩, ?_, ?_⟩
 ·intro i v s' Q' E' hP hQ
  have e:v=.bool (bs.getD i false):=XL rv (by simpa using hP)
  subst e
  exact pZ hQ
 ·intro h' tk hk
  have e:((List.range its.toArray.size).all λi=>bs.getD i false)=bs.all id:=by
   rw[size_toArray,hl];exact WB bs
  rw[e]
  refine⟨.bl (bs.all id),H,I.kept (t':=tk) λb o e=>hk b o (λz=> ?_) (gZ _ e),rfl,q⟩
  have z':b=s.heap.objs.size:=by simpa using z
  subst z'
  exact absurd (lt_size e) (lt_irrefl _)
def PP(X:Cx)(e:Expr)(t:St->Hp->(Hp->Prop)->Prop):Prop:=
 ∀(pins:List (Addr×Obj)) (s:Shared) (σ:St) (H:Hp) (R:Hp->Prop),Inv X pins σ H s->t σ H R->
  wpAny (model X.prog X.w) X.A (eval e X.env) (λv s1=>∃y u H1,v=.str y u/\y.length<=1000000/\Inv X pins σ H1 s1/\R H1) X.xe s
def PJ(X:Cx)(es:List Expr)(t:St->Hp->(Hp->Prop)->Prop):Prop:=
 ∀(pins:List (Addr×Obj)) (s:Shared) (σ:St) (H:Hp) (acc:Str) (R:Hp->Prop) (Q:Str->Shared->Prop),Inv X pins σ H s->t σ H R->acc.length+es.length*1000000<=sizeLine->
  (∀H' out s',R H'->out.length<=sizeLine->Inv X pins σ H' s'->Q out s')->Joins (model X.prog X.w) X.A X.xe (evalEach es X.env) acc Q s
variable{e v1 v2:Expr}{es:List Expr}{te:TE}{tp t:St->Hp->(Hp->Prop)->Prop}{pos:Pos}
theorem V1:PJ X [] (λ_ H R=>R H):=by
 intro pins s σ H acc R Q I h hl hQ
 exact hQ H acc s h (by simpa using hl) I
theorem D6(hp:PP X e tp)(h:PJ X es t)(he:evalEach (e::es) X.env=eval e X.env::evalEach es X.env:=by rfl):PJ X (e::es) (fun σ H R=>tp σ H λH1=>t σ H1 R):=by
 intro pins s σ H acc R Q I hh hl hQ
 rw[he]
 refine thn (hp pins s σ H _ I hh) λv s1 ⟨y,u,H1,ev,hy,I1,q⟩=>⟨y,u,ev, ?_, ?_⟩
 ·rw[strLen_append];rw[length_cons]at hl;omega
 ·refine h pins s1 σ H1 _ R Q I1 q ?_ hQ
  rw[strLen_append];rw[length_cons]at hl;omega
theorem M4{z:Str}{j:_}(hz:z.length<=1000000):PP X (.Constant (.str z) j pos) (λ_ H R=>R H):=
 λ_ _ _ H _ I h=>Calls.Constant_str ⟨z,_,H,rfl,hz,I.tok _,h⟩
theorem CY(he:PE X e te):PP X (.FormattedValue e (-1) none pos) (fun σ H R=>te σ H λx H1=>∃i:Int,x=.int i/\i.natAbs.log2<1920/\(Str.ofString (toString i)).length<=1000000/\R H1):=by
 intro pins s σ H R I h
 refine wpAny_FormattedValue_plain (thn (he pins s σ H _ I h) λv s1 ⟨x,H1,I1,r1,i,ex,h1,h2,q⟩=> ?_)
 subst ex
 obtain⟨t,rfl⟩:=r1
 exact wpAny_formatField_int h1 ⟨_,_,H1,rfl,h2,I1.tok _,q⟩
theorem DI(he:PE X e te):PP X (.FormattedValue e 114 none pos) (fun σ H R=>te σ H λx H1=>∃z,x=.str z/\(reprText z).length<=1000000/\R H1):=by
 intro pins s σ H R I h
 refine wpAny_FormattedValue_repr (thn (he pins s σ H _ I h) λv s1 ⟨x,H1,I1,r1,z,ex,h2,q⟩=> ?_)
 subst ex
 obtain⟨t,rfl⟩:=r1
 have hz:(reprText z).length<=sizeLine:=le_trans h2 (by decide)
 refine wpAny_pyReprObj_gives (typeIs_str _ _ _) F.slot_str_repr F.entry_str_repr (F.args_str_repr_1 _) (gives_str_repr z t) ?_ rfl hz
 exact wpAny_formatField_str ⟨_,_,H1,rfl,h2,I1.tok _,q⟩ ⟨_,_,H1,rfl,h2,(I1.tok _).tok _,q⟩ hz
def dWZ(t:St->Hp->(Hp->Prop)->Prop):TE:=fun σ H Q=>t σ H λH'=>∀z:Str,z.length<=sizeLine->Q (.str z) H'
theorem Q4(h:PJ X (v1::v2::es) t)(hl:(v1::v2::es).length*1000000<=sizeLine:=by decide):PE X (.JoinedStr (v1::v2::es) pos) (dWZ t):=by
 intro pins s σ H Q I hh
 refine wpAny_JoinedStr (h pins s σ H Str.empty _ _ I hh (by simpa [Str.length,Str.empty]using hl) λH' out s' q ho I'=>⟨ho,.str out,H',I'.tok _,⟨_,rfl⟩,q out ho⟩)
end
theorem JW:bootBuiltins "ValueError"=some (.type "ValueError"):=by decide +kernel
structure XCls (K:FZ) (mg:Str->Option Value) (x:Str) (C:Addr):Prop where
 q:excIn K C [.type "ValueError",.type "Exception",.type "BaseException",.type "object"] "ValueError.__new__"=true
 m:mg x=some (.ref C)
theorem XCls.look{K:FZ}{mg:Str->Option Value}{x:Str}{C:Addr}(c:XCls K mg x C)(ga:findIn K (.ref C) "__getattribute__"=some (some (.builtin "BaseException.__getattribute__")))(nga:findIn K (.ref C) "__getattr__"=some none)
  (cl:findIn K (.ref C) "__class__"=some (some (.builtin "object.__class__"))):ExcLook K C:=⟨⟨_,_,c.q,by decide,by decide⟩,ga,nga,cl⟩
section
variable{X:Cx}{K:FZ}
theorem bOZ(hc:X.calm=true)(hK:X.K=K:=by rfl):CallR X (.builtin "all") (λxs H Q=>∃(p:Addr) (bs:List Bool),xs=[.ref p]/\SqL K H p (bs.map V.bl)/\Q (.bl (bs.all id)) H):=by subst hK;exact VR hc
end
theorem OD{z:Str}{caps:List Nat}{tt:TT}{te:TE}{σ:St}{H:Hp}{R:List V->Hp->Prop}(Pv:Nat->List V->Hp->Prop)(h0:Pv 0 [] H)(hl:∀i ys H,i<=z.length->Pv i ys H->ys.length<=sizeLine)
  (hs:∀i c ys H,z.cps[i]? =some c->Pv i ys H->tt (capσ caps σ (some (.str ⟨#[c]⟩))) H λb H2=>if b=true then te (capσ caps σ (some (.str ⟨#[c]⟩))) H2 λy H3=>Pv (i+1) (ys++ [y]) H3 else Pv (i+1) ys H2)(hd:∀ys H,Pv z.length ys H->R ys H):
  ∃W:Nat->Nat->List V->Hp->Prop,(∃m,W 0 m [] H)/\∀i m ys H,W i m ys H->ys.length<=sizeLine/\(((Its z).stop i H/\R ys H)\/((Its z).go i H/\∃N:List V->Hp->Prop,(∀ys' H',N ys' H'->∃m',m'<m/\W (i+1) m' ys' H')/\∀v H',(Its z).yld i H v H'->
   tt (capσ caps σ (some v)) H' λb H2=>if b=true then te (capσ caps σ (some v)) H2 λy H3=>N (ys++ [y]) H3 else N ys H2)):=by
 refine⟨λi m ys H=>m=z.length - i/\i<=z.length/\Pv i ys H,⟨z.length,by simp,zero_le _,h0⟩, ?_⟩
 rintro i m ys H ⟨rfl,hi,p⟩
 refine⟨hl i ys H hi p, ?_⟩
 by_cases hlt:i<z.length
 ·refine .inr ⟨hlt,Pv (i+1),λys' H' p'=>⟨z.length - (i+1),by omega,rfl,hlt,p'⟩,λx H' y=> ?_⟩
  obtain⟨e,c,hc,y⟩:=y
  subst e y
  exact hs i c ys _ hc p
 ·have e:i=z.length:=by omega
  subst e
  exact .inl ⟨le_refl _,hd ys H p⟩
abbrev tx(l:List Nat):Str:=⟨l.toArray⟩
theorem L5(l:List Nat):(tx l).length=l.length:=by simp[Str.length]
theorem ED(a b:List Nat):tx a++tx b=tx (a++b):=by
 show Str.append _ _=_
 simp[Str.append]
theorem Y7{a b:List Nat}(h:tx a=tx b):a=b:=by
 have:=congrArg (λs:Str=>s.cps.toList) h
 simpa using this
theorem ZA(a b:List Nat):decide (V.str (tx a)=V.str (tx b))=decide (a=b):=by
 rw[decide_eq_decide]
 exact⟨λh=>Y7 (V.str.inj h),λh=>by rw[h]⟩
theorem b8Z(l:List Nat)(c:Nat):(!(Builtin.Str.occurrences (tx l) (tx [c]) 0 (tx l).length 1).isEmpty)=decide (c∈l):=by
 have:=StrLaws.found_one (tx l) c
 simpa using this
theorem FW{l:List Nat}{a b:Nat}(hab:a<=b)(ha:a<=l.length):Txt.slice (tx l) (some (a:Int)) (some (b:Int))=tx ((l.drop a).take (b - a)):=by
 have hs:∀b',a<=b'->b'<=l.length->Txt.slice (tx l) (some (a:Int)) (some (b':Int))=tx ((l.drop a).take (b' - a)):=λb' h1 h2=>by
  have:=StrLaws.sliceText_nat (tx l) h1 (by rw[L5];exact h2)
  exact this
 by_cases hb:b<=l.length
 ·exact hs b hab hb
 ·have e:Txt.slice (tx l) (some (a:Int)) (some (b:Int))=Txt.slice (tx l) (some (a:Int)) (some (l.length:Int)):=by
   have i:Builtin.Str.strSliceIndices (some (a:Int)) (some (b:Int)) 1 (tx l).length=Builtin.Str.strSliceIndices (some (a:Int)) (some (l.length:Int)) 1 (tx l).length:=by
    rw[L5]
    have n1:¬((b:Int)<0):=by omega
    have n2:¬((l.length:Int)<0):=by omega
    have m1:min (b:Int) (l.length:Int)=l.length:=by omega
    have m2:min (l.length:Int) (l.length:Int)=l.length:=by omega
    simp[Builtin.Str.strSliceIndices,n1,n2,m1]
   unfold Txt.slice
   rw[i]
  rw[e,hs l.length ha (le_refl _)]
  congr 1
  have e1:(l.drop a).length=l.length - a:=length_drop
  rw[take_of_length_le (by omega),take_of_length_le (by omega)]
theorem BI{l:List Nat}(h:∀c∈l,c<16^8):(reprText (tx l)).length<=10*l.length+2:=by
 have:=StrLaws.reprText_len (tx l) (by simpa using h)
 rw[L5]at this
 exact this
end L2
namespace PySem
end PySem
namespace L2
open PySem PySem.Spec PyProof.Rows
section
variable{X:Cx}
def a3Z(w:World)(K:FZ)(td:TE)(t:TA):TE:=fun σ H Q=>td σ H λx H1=>∃a kvs,x=.ref a/\TopD w K a kvs/\t σ H1 λvs H2=>∃k z,vs=[.str k,z]/\Q ((kvs.lookup k).getD z) H2
variable{o e f:Expr}{td:TE}{t:TA}{apos cpos:Pos}{K:FZ}{w:World}
theorem LA(ho:PE X o td)(ha:PA X [e,f] t)(hK:X.K=K:=by rfl)(hw:X.w=w:=by rfl)
  (hbase:attributeBase o "get" X.env (eval o X.env)=eval o X.env:=by rfl)
  (hfew:((backTo cpos (starEach [e,f] X.env)).all (λx=> !x.1)&&(backToKw cpos (keywordEach [] X.env)).all (λx=>x.1.isSome)
   &&decide ([e,f].length+([]:List Keyword).length+(if([]:List Keyword).isEmpty then 0 else 1)<30))=true:=by rfl)
  (hline:(apos.endLine==cpos.line)=true:=by rfl)(hs:starEach [e,f] X.env=(false,eval e X.env)::starEach [f] X.env:=by rfl)(hplain:(backTo cpos (starEach [f] X.env)).any (·.1)=false:=by rfl):
  PE X (.Call (.Attribute o "get" apos) [e,f] [] cpos) (a3Z w K td t):=by
 subst hK;subst hw
 intro pins s σ H Q I h
 refine wpAny_Call_method_late hbase hfew hline rfl (thn (ho pins s σ H _ I h) λv s1 ⟨x,H1,I1,r1,a,kvs,ex,T,q1⟩=> ?_)
 subst ex
 cases r1
 obtain⟨f0,hm,hf⟩:=T.map (prog:=X.prog) I1.kIn
 obtain⟨es,n,hl,_,_⟩:=T.ex
 refine⟨"dict",_,PySem.F.plainAttrs_dict,PySem.F.slot_dict_get,PySem.F.type_dict_get,hm.typeIs,λb eb=> ?_, ?_⟩
 ·cases eb
  exact⟨_,I1.kIn _ _ hl,rfl⟩
 have hA:=ha cpos pins s1 σ H1 _ I1 q1
 rw[hs]at hA⊢
 refine Calls.callWith_builtin (by show(false||(backTo cpos (starEach [f] X.env)).any (·.1))=false;rw[hplain]<;>rfl) (Calls.evalArgs_plain (thn hA λus s2 ⟨vs,H2,I2,r2,q2⟩=> ?_))
 obtain⟨k,z,rfl,q⟩:=q2
 obtain⟨u1,u2,rfl,⟨t1,rfl⟩,rz⟩:=OF r2
 obtain⟨f1,hm1,hf1⟩:=T.map (prog:=X.prog) I2.kIn
 refine call_meetsIn PySem.F.slot_dict_get hm1.typeIs PySem.F.entry_dict_get (PySem.F.args_dict_get_3 _ _ _) (meets_dict_get_default (strKind X.prog X.w) a (strKind_is X.prog X.w k t1) T.lo u2) ⟨f1,hm1,_,H2,I2.tok _, ?_,q⟩
 have hr:=hf1 k
 cases h1:kvs.lookup k with
 |none=>rw[h1]at hr;rw[hr.none_of];exact rz
 |some y=>rw[h1]at hr;obtain⟨w',e',r'⟩:=hr.some_of;rw[e'];exact r'
variable{K:FZ}
variable{P:Program}{w:World}{mg:Str->Option Value}{base:Heap}{A:Around}{CX:CXT}{E:XK}{x:Str}{p pos:Pos}{e:Expr}{es:List Expr}{tf:TE}{t:TA}
variable{tg:Expr}
end
end L2
namespace PySem
namespace F
end F
section
variable{prog:Program}{w:World}{A:Around}{E:Value->Shared->Prop}{s:Shared}
end
end PySem
namespace L2
open PySem PySem.Spec PyProof.Rows
section
variable{X:Cx}{K:FZ}
variable{elts:List Expr}{kt:Nat}{pt:Pos}
end
end L2
namespace Att
open PySem PySem.W PySem.Calls PyProof.Rows
end Att
namespace L2
open PySem PySem.Spec PyProof.Rows
section
variable{X:Cx}{K:FZ}
end
end L2
namespace PySem
open AutoSeq1(wpAny_loadPart')
section
variable{prog:Program}{w:World}{A:Around}{E:Value->Shared->Prop}{s:Shared}
end
end PySem
namespace PySem
section
variable{prog:Program}{w:World}{A:Around}{E:Value->Shared->Prop}{s:Shared}
end
end PySem
namespace L2
open PySem PySem.Spec PyProof.Rows
section
variable{X:Cx}{K:FZ}{elts:List Expr}{kt:Nat}{pt:Pos}
end
theorem Vals.pick{xs:List V}{us:List Value}(r:Vals xs us):∀idx:List Nat,Vals (idx.filterMap (xs[·]?)) (idx.filterMap (us.toArray[·]?))
 | []=> .nil
 |i::rest=>by
  have ih:=Vals.pick r rest
  have e:us.toArray[i]? =us[i]? :=by simp
  by_cases hi:i<xs.length
  ·obtain⟨u,hu,ru⟩:=r.get (List.getElem?_eq_getElem hi)
   rw[filterMap_cons,filterMap_cons,List.getElem?_eq_getElem hi]
   simp only[e,hu]
   exact .cons ru ih
  ·have h1:xs[i]? =none:=getElem?_eq_none (le_of_not_lt hi)
   have h2:=r.none_of h1
   rw[filterMap_cons,filterMap_cons,h1]
   simp only[e,h2]
   exact ih
section
variable{X:Cx}{K:FZ}
def dHZ(K:FZ)(te tl ts:TE):TE:=fun σ H Q=>te σ H λx H1=>tl σ H1 λy H2=>ts σ H2 λz H3=>∃(k m:Int) (a:Addr) (xs:List V),y=.int k/\z=.int m/\m≠0/\x=.ref a/\SqL K H3 a xs/\
 ∀p zs,(∀v∈zs,v∈xs)->zs.length<=xs.length->H3 p=none->Q (.ref p) (upd H3 p (.lst zs))
theorem bAZ{e lo st:Expr}{te tl ts:TE}{p2 pos:Pos}(he:PE X e te)(hlo:PE X lo tl)(hst:PE X st ts)(hK:X.K=K:=by rfl):PE X (.Subscript e (.Slice (some lo) none (some st) p2) pos) (dHZ K te tl ts):=by
 subst hK
 intro pins s σ H Q I h
 refine Subscript_ (thn (he pins s σ H _ I h) λv s1 ⟨x,H1,I1,r1,q1⟩=>wpAny_Slice ?_)
 rw[evalPart_some]
 refine thn (hlo pins s1 σ H1 _ I1 q1) λw2 s2 ⟨y,H2,I2,ry,q2⟩=>pZ ?_
 rw[evalPart_some]
 refine thn (hst pins s2 σ H2 _ I2 q2) λw3 s3 ⟨z,H3,I3,rz,q3⟩=> ?_
 obtain⟨k,m,a,xs,rfl,rfl,hm,rfl,hS,q⟩:=q3
 obtain⟨tk,rfl⟩:=ry
 obtain⟨tm,rfl⟩:=rz
 cases r1
 have I4:Inv X pins σ H3 {s3 with heap:=s3.heap.push {cls:=.type "slice",data:=.fields #[.int k tk,.none,.int m tm]}}:=I3.kept (t':=s3.toks) λb ob q=>gZ _ q
 obtain⟨its,r,pl,hz⟩:=I4.list hS
 have hlen:=r.length
 show wpAny (model X.prog X.w) X.A (subscriptTail e (.Slice (some lo) none (some st) p2) (.ref a) (.ref s3.heap.objs.size)) (EP X pins σ Q) X.xe {s3 with heap:=s3.heap.push {cls:=.type "slice",data:=.fields #[.int k tk,.none,.int m tm]}}
 refine tail_any (ops:=[.ref a,.ref s3.heap.objs.size]) pl.isList.typeIs slot_list_getitem.lookup ?_ (by with_unfolding_all rfl)
 refine wpAny_getItem_list_slice (st:=some m) pl.isList (Heap.IsSliceOf.new ..) (.int k tk) .none (.int m tm) (by simpa using hm) ?_ (by rw[size_toArray]<;>omega)
 have hp:=slicePick_size_le its.toArray (some k) none (some m)
 unfold slicePick at hp⊢
 generalize sliceRange (sliceBounds (some k) none (some m) its.toArray.size).1 (sliceBounds (some k) none (some m) its.toArray.size).2.1 (sliceBounds (some k) none (some m) its.toArray.size).2.2=idx at hp⊢
 have hr:=r.pick idx
 have hl2:=hr.length
 rw[size_toArray,size_toArray]at hp
 have hle:(idx.filterMap (xs[·]?)).length<=xs.length:=by omega
 refine⟨.ref _,_,I4.laid (t':=s3.toks) (o:=.lst (idx.filterMap (xs[·]?))) (λb ob q=>gZ _ q) (le_refl _) ⟨le_trans hle hz,_,0,hr,get?_push_size _ rfl⟩,rfl,q _ _ (λv hv=> ?_) hle (I4.hok.fresh (le_refl _))⟩
 obtain⟨i,_,hi⟩:=mem_filterMap.mp hv
 exact mem_of_getElem? hi
end
end L2
namespace PySem
open Sem (wp)
namespace ZT
def IsIt(t:Bool)(h:Heap)(i l:Addr)(k:Nat):Prop:=if t then h.IsTupleIter i l k else h.IsListIter i l k
def IsSq(t:Bool)(h:Heap)(l:Addr)(xs:Array Value):Prop:=if t then h.IsTuple l xs else h.IsList l xs
theorem IsIt.extBut{t:Bool}{h h':Heap}{i b l:Addr}{k:Nat}(x:IsIt t h i l k)(hs:Heap.ExtBut b h h')(hb:i≠b):IsIt t h' i l k:=by
 cases t
 ·exact Heap.IsListIter.extBut (show h.IsListIter i l k from x) hs hb
 ·exact Heap.IsTupleIter.extBut (show h.IsTupleIter i l k from x) hs hb
theorem IsIt.at{t:Bool}{h h':Heap}{i l:Addr}{k:Nat}(x:IsIt t h i l k)(e:∀o,h.get? i=some o->h'.get? i=some o):IsIt t h' i l k:=by
 cases t
 ·obtain⟨o,ho,r⟩:=(show h.IsListIter i l k from x)
  exact⟨o,e o ho,r⟩
 ·obtain⟨o,ho,r⟩:=(show h.IsTupleIter i l k from x)
  exact⟨o,e o ho,r⟩
theorem IsIt.live{t:Bool}{h:Heap}{i l:Addr}{k:Nat}(x:IsIt t h i l k):∃o,h.get? i=some o:=by
 cases t
 ·obtain⟨o,ho,r⟩:=(show h.IsListIter i l k from x)
  exact⟨o,ho⟩
 ·obtain⟨o,ho,r⟩:=(show h.IsTupleIter i l k from x)
  exact⟨o,ho⟩
theorem IsSq.at{t:Bool}{h h':Heap}{l:Addr}{xs:Array Value}(x:IsSq t h l xs)(e:∀o,h.get? l=some o->h'.get? l=some o):IsSq t h' l xs:=by
 cases t
 ·obtain⟨o,ho,r⟩:=(show h.IsList l xs from x)
  exact⟨o,e o ho,r⟩
 ·obtain⟨o,ho,r⟩:=(show h.IsTuple l xs from x)
  exact⟨o,e o ho,r⟩
theorem IsSq.extBut{t:Bool}{h h':Heap}{l b:Addr}{xs:Array Value}(x:IsSq t h l xs)(hs:Heap.ExtBut b h h')(hb:l≠b):IsSq t h' l xs:=x.at λo e=>hs l o hb e
section
variable{prog:Program}{w:World}{A:Around}{E:Value->Shared->Prop}{s:Shared}
end
end ZT
end PySem
namespace PySem
open Sem(wp)
namespace ZT
section
variable{prog:Program}{w:World}{A:Around}{E:Value->Shared->Prop}{s:Shared}
end
end ZT
end PySem
namespace PySem
open Sem(wp)
open PyProof.Rows
namespace ZT
section
variable{prog:Program}{w:World}{A:Around}{E:Value->Shared->Prop}{s:Shared}
variable{R:Result->Shared->Prop}
end
end ZT
end PySem
namespace PySem
open Sem(wp)
open PyProof.Rows
namespace F
end F
namespace ZT
section
variable{prog:Program}{w:World}{A:Around}{E:Value->Shared->Prop}{s:Shared}
end
end ZT
end PySem
namespace PySem
open Sem(wp)
open PyProof.Rows
namespace ZT
section
variable{prog:Program}{w:World}{A:Around}{E:Value->Shared->Prop}{s:Shared}
end
end ZT
end PySem
namespace L2
open PySem PySem.Spec PyProof.Rows
section
variable{X:Cx}{K:FZ}{pins:List (Addr×Obj)}{σ:St}{H H':Hp}{s:Shared}{h':Heap}
variable{A:Around}{E:Value->Shared->Prop}{Q:Value->Shared->Prop}{b:Bool}
theorem ES{xs:List V}{us:List Value}(r:Vals xs us){j:Nat}(h1:j<us.toArray.size):∃x,xs[j]? =some x/\RelV x us.toArray[j]:=by
 have hj:j<xs.length:=by rw[r.length];simpa using h1
 obtain⟨u,hu,ru⟩:=r.get (i:=j) (x:=xs[j]) (by simp[hj])
 have e1:us.toArray[j]=u:=by
  have:us[j]? =some us.toArray[j]:=by simp
  rw[hu]at this;exact(Option.some.inj this).symm
 exact⟨xs[j],by simp[hj],by rw[e1];exact ru⟩
theorem UG(I:Inv X pins σ H s){A:Around}{a b:Addr}{xs ys:List V}(hu:A.units<cLine)(ha:SqT X.K H a xs)(hb:SqT X.K H b ys)(hl:xs.length=ys.length)
  (he:∀(j:Nat) x y u v,xs[j]? =some x->ys[j]? =some y->RelV x u->RelV y v->SeqAt.EqAt A.in1 s u v true):SeqAt.RcAt A s (.ref a) (.ref b) true:=by
 obtain⟨its,r,pl,_⟩:=I.tuple ha
 obtain⟨its2,r2,pl2,_⟩:=I.tuple hb
 have hl2:its.length=its2.length:=by rw[<-r.length,<-r2.length];exact hl
 have h:=SeqAt.RcAt.tuples (A:=A) (s:=s) (e:=λ_=>true) pl pl2 hu (λj h1 h2=>by
  obtain⟨x,hx,rx⟩:=ES r h1
  obtain⟨y,hy,ry⟩:=ES r2 h2
  exact he j x y _ _ hx hy rx ry)
 have e:((List.range (min its.toArray.size its2.toArray.size)).all (λ_=>true)&&its.toArray.size==its2.toArray.size)=true:=by simp[hl2]
 rw[e]at h
 exact h
end
end L2
namespace HT
open PySem PyProof.Rows
section
variable{prog:Program}{w:World}{A:Around}{E:Value->Shared->Prop}{s:Shared}
end
end HT
namespace L2
open PySem PySem.Spec PyProof.Rows
section
variable{X:Cx}{K:FZ}
end
end L2
namespace TM
open PySem PyProof.Rows
section
variable{prog:Program}{w:World}{A:Around}{E:Value->Shared->Prop}{s:Shared}
end
end TM
namespace L2
open PySem PySem.Spec PyProof.Rows
section
variable{X:Cx}{K:FZ}
end
end L2
namespace TM
open PySem PyProof.Rows PySem.SeqAt
end TM
namespace L2
open PySem PySem.Spec PyProof.Rows
section
variable{X:Cx}{K:FZ}
variable{e:Expr}{es tes:List Expr}{t tt:TA}{name:Str}{apos cpos tpos:Pos}{id:String}{r:V->List V->Hp->VK->Prop}
variable{c P:Addr}{params:Arguments}{body:Expr}{scope:Scope}{pos:Pos}{clos:List (Str×Addr)}
end
def del(H:Hp)(a:Addr):Hp:=λb=>if b=a then none else H b
section
variable{X:Cx}{k:Nat}{g:Addr}{fd:FuncData}{ps:List Str}{sp:Heap->Sp}{x:Str}{p pos:Pos}{e:Expr}{es:List Expr}{t:TA}{name qual:Str}{params:Arguments}{body:Expr}{scope:Scope}{clos:List (Str×Addr)}{pm:Value}{fs:List Str}{js:List Nat}
variable{P:Program}{w:World}{K:FZ}{mg:Str->Option Value}{base:Heap}{A:Around}{CX:CXT}{E:XK}{tf:TE}
end
section
variable{κ:Type}[DecidableEq κ]
end
section
variable{P:Program}{w:World}{H:Hp}{h:Heap}{a:Addr}
variable{X:Cx}{pins:List (Addr×Obj)}{σ:St}{s:Shared}{y v:V}{u r:Value}{o:Option V}{A:Around}{E:Value->Shared->Prop}
variable{kvs:List (Key×V)}{k:Key}
end
section
variable{X:Cx}{o i e value:Expr}{pos pos' tpos:Pos}{td ty tv:TE}
end
section
variable{X:Cx}{pins:List (Addr×Obj)}{σ:St}{H:Hp}{s:Shared}{a:Addr}{y d:V}{u r:Value}{o:Option V}{A:Around}{E:Value->Shared->Prop}
end
section
variable{X:Cx}{o e f:Expr}{apos cpos:Pos}{td ty tx:TE}
variable{pins:List (Addr×Obj)}{σ:St}{H:Hp}{s:Shared}{a:Addr}{kvs:List (Key×V)}{A:Around}{E:Value->Shared->Prop}
variable{y:V}{u:Value}
end
end L2
namespace PySem
namespace ZT
section
variable{prog:Program}{w:World}{A:Around}{E:Value->Shared->Prop}{s:Shared}
end
end ZT
end PySem
namespace L2
open PySem PySem.Spec PyProof.Rows
section
variable{X:Cx}{pins:List (Addr×Obj)}{σ:St}{H:Hp}{s:Shared}{a:Addr}{xs ys:List V}{t:Bool}
variable{K:FZ}{elts:List Expr}{kt:Nat}{pt:Pos}
variable{tg:Expr}
end
end L2
namespace PySem
open PyProof.Rows L2
namespace F
end F
section
variable{prog:Program}{w:World}{A:Around}{E:Value->Shared->Prop}{s:Shared}
end
end PySem
namespace L2
open PySem PySem.Spec PyProof.Rows
section
variable{X:Cx}{tg:Expr}
end
end L2
namespace PySem
open PyProof.Rows
namespace F
end F
section
variable{prog:Program}{w:World}{A:Around}{E:Value->Shared->Prop}{s:Shared}
end
end PySem
namespace PySem
open PyProof.Rows
namespace F
end F
section
variable{prog:Program}{w:World}{A:Around}{E:Value->Shared->Prop}{s:Shared}
end
end PySem
namespace PySem
section
variable{prog:Program}{w:World}{A:Around}{E:Value->Shared->Prop}{s:Shared}
end
end PySem
namespace L2
open PySem PySem.Spec PyProof.Rows
section
variable{X:Cx}{K:FZ}{pins:List (Addr×Obj)}{σ:St}{H:Hp}{s:Shared}
end
end L2
namespace PySem
open PyProof.Rows
section
variable{prog:Program}{w:World}{A:Around}{E:Value->Shared->Prop}{s:Shared}
end
end PySem
namespace L2
open PySem PySem.Spec PyProof.Rows
section
variable{X:Cx}
end
end L2
namespace PySem
open AutoSeq1(wpAny_loadPart')
end PySem
namespace L2
open PySem PySem.Spec PyProof.Rows
section
variable{X:Cx}{K:FZ}{tg:Expr}
variable{pins:List (Addr×Obj)}{σ:St}{H:Hp}{s:Shared}
end
end L2
namespace PySem
open PyProof.Rows
section
variable{prog:Program}{w:World}
def dd{K:Type}[DecidableEq K](D:List K)(x:K):List K:=if x∈D then D else D++ [x]
variable{A:Around}{E:Value->Shared->Prop}{s:Shared}
end
end PySem
namespace L2
open PySem PySem.Spec PyProof.Rows
section
variable{X:Cx}{K:FZ}
end
end L2
namespace PySem
open PyProof.Rows
section
variable{prog:Program}{w:World}{K:Type}[DecidableEq K]{knd:KeyKind prog w K}{A:Around}{E:Value->Shared->Prop}{s:Shared}
theorem gw{m:Bool->Sem Unit}{what:String}(h0:m false=pure ())(h1:m true=rule what)(gv:Bool){s:Shared}{Q':Unit->Shared->Prop}(q:Q' () s):wpAny (model prog w) A (m gv) Q' E s:=by
 cases gv
 ·rw[h0];exact pZ q
 ·rw[h1];exact wpAny_rule q
end
section
variable{prog:Program}{w:World}{A:Around}{E:Value->Shared->Prop}{s:Shared}
end
end PySem
namespace L2
open PySem PySem.Spec PyProof.Rows
section
variable{X:Cx}{K:FZ}
end
end L2
namespace PySem
open PyProof.Rows
section
variable{prog:Program}{w:World}{A:Around}{E:Value->Shared->Prop}{s:Shared}
end
end PySem
namespace L2
open PySem PySem.Spec PyProof.Rows
section
variable{X:Cx}{K:FZ}
end
end L2
namespace PySem
open Sem(wp)
open PyProof.Rows
namespace ZT
section
variable{prog:Program}{w:World}{A:Around}{E:Value->Shared->Prop}{s:Shared}
end
end ZT
end PySem
namespace L2
open PySem PySem.Spec PyProof.Rows
section
variable{X:Cx}{K:FZ}{elts:List Expr}{kt:Nat}{pt:Pos}
end
end L2
namespace PySem
open Sem(wp)
end PySem
namespace L2
open PySem PySem.Spec PyProof.Rows
section
variable{M:Model}{A:Around}{E:Value->Shared->Prop}{s:Shared}{base:Heap}{env:Env}{outer l:List Env}{L a:Addr}{C fl:Value}{g:Heap}{H:Hp}{Q:Unit->Shared->Prop}
end
section
variable{P:Program}{w:World}{K:FZ}{mg:Str->Option Value}{base:Heap}{N:List Str}{qual:Str}{scope:Scope}{f:Addr}{cd:Value}{A:Around}{outer:List Env}{s:Shared}{H:Hp}{E:XK}
variable{X:Cx}
variable{k:Nat}{g:Addr}{fd:FuncData}{ps:List Str}{sp:Heap->Sp}{x:Str}{p pos:Pos}{e:Expr}{es:List Expr}{t:TA}{name:Str}{params:Arguments}{body:Expr}{clos:List (Str×Addr)}{pm:Value}{fs:List Str}{js:List Nat}
variable{cl:List (Str×Addr)}
end
def Dl(K:FZ)(H:Hp):Nat->V->V->Prop
 |0,x,y=>FE x=true/\x=y
 |n+1,x,y=>(FE x=true/\x=y)\/∃a b xs ys,x=.ref a/\y=.ref b/\((SqT K H a xs/\SqT K H b ys)\/(SqL K H a xs/\SqL K H b ys))/\xs.length=ys.length/\∀(j:Nat) u v,xs[j]? =some u->ys[j]? =some v->Dl K H n u v
section
variable{X:Cx}{K:FZ}{pins:List (Addr×Obj)}{σ:St}{H:Hp}{s:Shared}
theorem OB(I:Inv X pins σ H s){A:Around}{a b:Addr}{xs ys:List V}(hu:A.units<cLine)(ha:SqL X.K H a xs)(hb:SqL X.K H b ys)(hl:xs.length=ys.length)
  (he:∀(j:Nat) x y u v,xs[j]? =some x->ys[j]? =some y->RelV x u->RelV y v->SeqAt.EqAt A.in1 s u v true):SeqAt.RcAt A s (.ref a) (.ref b) true:=by
 obtain⟨its,r,pl,_⟩:=I.list ha
 obtain⟨its2,r2,pl2,_⟩:=I.list hb
 have hl2:its.length=its2.length:=by rw[<-r.length,<-r2.length];exact hl
 have h:=SeqAt.RcAt.lists (A:=A) (s:=s) (e:=λ_=>true) pl.isList pl2.isList (by simpa using hl2) hu (λj h1 h2=>by
  obtain⟨x,hx,rx⟩:=ES r h1
  obtain⟨y,hy,ry⟩:=ES r2 h2
  exact he j x y _ _ hx hy rx ry)
 have e:((List.range its.toArray.size).all λ_=>true)=true:=by simp
 rw[e]at h
 exact h
theorem UR(I:Inv X pins σ H s)(n:Nat):∀(A:Around) (x y:V) (u v:Value),A.units+n<cLine->Dl X.K H n x y->RelV x u->RelV y v->SeqAt.EqAt A s u v true:=by
 induction n with
 |zero=>
  intro A x y u v _ h rx ry
  obtain⟨hp,rfl⟩:=h
  exact FD rx ry hp
 |succ n ih=>
  intro A x y u v hu h rx ry
  rcases h with⟨hp,rfl⟩|⟨a,b,xs,ys,rfl,rfl,hab,hl,hd⟩
  ·exact FD rx ry hp
  ·cases rx;cases ry
   by_cases e:a=b
   ·subst e;exact SeqAt.EqAt.same _
   ·have h1:A.units<cLine:=lt_of_le_of_lt (Nat.le_add_right _ _) hu
    have h2:A.in1.units+n<cLine:=by
     show A.units+1+n<cLine
     rw[Nat.add_assoc,Nat.add_comm 1 n];exact hu
    rcases hab with⟨ha,hb⟩|⟨ha,hb⟩
    ·exact SeqAt.EqAt.of_refs e (UG I h1 ha hb hl λj x y u v hx hy rx ry=>ih A.in1 x y u v h2 (hd j x y hx hy) rx ry)
    ·exact SeqAt.EqAt.of_refs e (OB I h1 ha hb hl λj x y u v hx hy rx ry=>ih A.in1 x y u v h2 (hd j x y hx hy) rx ry)
def bPZ(K:FZ):R2:=λx y H Q=>∃a b xs ys n,x=.ref a/\y=.ref b/\((SqT K H a xs/\SqT K H b ys)\/(SqL K H a xs/\SqL K H b ys))/\xs.length=ys.length/\n<=50/\(∀(j:Nat) u v,xs[j]? =some u->ys[j]? =some v->Dl K H n u v)/\Q (.bl true) H
theorem a5Z(hu:X.A.units+64<cLine):OpR X (compareOp .Eq) (bPZ X.K):=by
 intro pins s σ H x y v u Q I rx ry h
 obtain⟨a,b,xs,ys,n,rfl,rfl,hab,hl,hn,hd,q⟩:=h
 cases rx;cases ry
 have h1:X.A.units<cLine:=lt_of_le_of_lt (Nat.le_add_right _ _) hu
 have h2:X.A.in1.units+n<cLine:=by
  show X.A.units+1+n<cLine
  exact lt_of_le_of_lt (by omega) hu
 rcases hab with⟨ha,hb⟩|⟨ha,hb⟩
 ·exact UG I h1 ha hb hl (λj x y u v hx hy rx ry=>UR I n X.A.in1 x y u v h2 (hd j x y hx hy) rx ry) X.prog X.w X.xe _ ⟨.bl true,H,I,rfl,q⟩
 ·exact OB I h1 ha hb hl (λj x y u v hx hy rx ry=>UR I n X.A.in1 x y u v h2 (hd j x y hx hy) rx ry) X.prog X.w X.xe _ ⟨.bl true,H,I,rfl,q⟩
theorem dFZ(hu:X.A.units+64<cLine)(hK:X.K=K:=by rfl):OpR X (compareOp .Eq) (bPZ K):=by subst hK;exact a5Z hu
end
theorem ixT{K:FZ}{w:World}{H:Hp}{Q:VK}{a:Addr}{xs:List V}{i:Int}{v:V}(h:H a=some (.tup xs))(e:atI xs i=some v)(q:Q v H):rIxL K (.ref a) (.int i) H Q\/rIxT K (.ref a) (.int i) H Q\/rIxS (.ref a) (.int i) H Q\/rIxTop w K (.ref a) (.int i) H Q:=.inr (.inl ⟨a,xs,i,v,rfl,rfl,SqT.of h,e,q⟩)
theorem ixL{K:FZ}{w:World}{H:Hp}{Q:VK}{a:Addr}{xs:List V}{i:Int}{v:V}(h:H a=some (.lst xs))(e:atI xs i=some v)(q:Q v H):rIxL K (.ref a) (.int i) H Q\/rIxT K (.ref a) (.int i) H Q\/rIxS (.ref a) (.int i) H Q\/rIxTop w K (.ref a) (.int i) H Q:=.inl ⟨a,xs,i,v,rfl,rfl,SqL.of h,e,q⟩
theorem fS{N P:List Str}{sc:Scope}(a:sc.kind=.function:=by rfl)(b:sc.isCoroutine=false:=by rfl)(c:sc.isGenerator=false:=by rfl)(d:N.Nodup:=by decide +kernel)(e:N.take P.length=P:=by rfl)(f:∀x∈P,sc.names.lookup x=some .local\/sc.names.lookup x=some .cell:=by decide +kernel)(g:∀y∈sc.names,y.2≠ .free:=by decide +kernel):FnScope N P sc:=⟨a,b,c,d,e,f,g⟩
theorem cS{N:List Str}{sc scope:Scope}{x:Str}{caps:List Nat}{ns:List Str}(a:∀y∈scope.names,y.2≠ .cell:=by decide +kernel)(b:scope.kind=.function:=by rfl)(c:∀y∈scope.names,y.2=.local->scope.names.lookup y.1=some .local:=by decide +kernel)(d:scope.names.lookup x=some .local:=by rfl)(e:∀y∈scope.names,y.2=.free->sc.names.lookup y.1=some .cell\/sc.names.lookup y.1=some .free:=by decide +kernel)(f:caps.map (λj=>N[j]?)=ns.map some:=by rfl)(g:∀y∈ns,scope.names.lookup y=some .free:=by decide +kernel)(h:(x::ns).Nodup:=by decide +kernel):CompScope N sc scope x caps ns:=⟨a,b,c,d,e,f,g,h⟩
section
variable{X:Cx}{a b:Expr}{ta tb:TE}{pos:Pos}
theorem ixE(K:FZ)(w:World)(ha:PE X a ta)(hb:PE X b tb)(hs:UC b:=by exact λ_ _=>rfl)(hK:X.K=K:=by rfl)(hw:X.w=w:=by rfl):PE X (.Subscript a b pos) (tOp (λx y H Q=>rIxL K x y H Q\/rIxT K x y H Q\/rIxS x y H Q\/rIxTop w K x y H Q) ta tb):=IZ (kIx hK hw) ha hb hs
end
def Cn(P:Program)(w:World)(K:FZ)(mg:Str->Option Value)(base:Heap)(CX:CXT)(n:Nat)(x:Str)(ps:List Str)(sp:Sp):Prop:=∃f d,FnOk P w K mg base CX n f d ps sp/\Binds K d ps []/\kZ K (.ref f)=true/\mg x=some (.ref f)
end L2
abbrev q0L:List PySem.Str:=["_law_cell","_law_shift"]
abbrev q2L:List PySem.Str:=["_law_cells","_law_shift"]
abbrev q4L:List PySem.Str:=["_law_k","_law_shift"]
abbrev q7L:List PySem.Str:=["_law_pile","_law_kind","_law_cell","_law_shift"]
abbrev cLZ:List PySem.Str:=["_law_row","_law_at","_law_cell"]
abbrev bjZ:List PySem.Str:=["_law_script","_law_k"]
abbrev cCZ:List PySem.Str:=["_law_script","_law_most"]
abbrev SU:List PySem.Str:=["_law_term_here"]
abbrev XA:List PySem.Str:=["_law_text_here"]
abbrev a4Z:List PySem.Str:=["self","found"]
abbrev OZ:List PySem.Str:=["self","least","level"]
abbrev N0:List PySem.Str:=["self","level"]
abbrev WY:List PySem.Str:=["self","many"]
abbrev aTZ:List PySem.Str:=["self","name","level"]
abbrev WN:List PySem.Str:=["self","sign"]
abbrev GK:List PySem.Str:=["self","wanted"]
abbrev M5:List PySem.Str:=["self"]
abbrev GR:List PySem.Str:=["sign"]
abbrev WF:List PySem.Str:=["text","place"]
abbrev CK:List PySem.Str:=["word"]
namespace TM
open PySem PyProof.Rows
section
variable{prog:Program}{w:World}{A:Around}{E:Value->Shared->Prop}{s:Shared}
end
end TM
namespace L2
open PySem PySem.Spec PyProof.Rows
section
variable{X:Cx}{K:FZ}
end
end L2
namespace L2
open PySem PyProof.Rows
section
variable{X:Cx}
end
end L2
namespace L2
open PySem PySem.Spec PyProof.Rows
section
variable{X:Cx}{K:FZ}
end
end L2
namespace L2
open PySem PySem.Spec PyProof PyProof.Rows
section
variable{prog:Program}{w:World}{A:Around}{E:Value->Shared->Prop}
variable{X:Cx}{pos:Pos}
end
end L2
namespace L2
open PySem PySem.Spec PyProof.Rows
section
variable{X:Cx}{K:FZ}
variable{k j:Nat}{ps:List Str}{sp:Sp}{x m:Str}{p pos apos:Pos}{e o:Expr}{es:List Expr}{ta te:TE}{t:TA}{f C:Addr}{fd:FuncData}
theorem mC{pl:Sem Bool}(he:PE X o ta)(c:Cls X.K C)(hm:Meth X.K C m f)(F:FnOk X.prog X.w X.K X.mg X.base CX0 k f fd ps sp)(hr:Room j X.A)(hb:Binds X.K fd ps [])(ha:PA X (e::es) t)(hk:k<=j:=by omega)
  (hst:starEach (e::es) X.env=(false,eval e X.env)::starEach es X.env:=by rfl)(hpl:(backTo pos (starEach es X.env)).any (·.1)=false:=by rfl)
  (ht:eval (.Call (.Attribute o m apos) (e::es) [] pos) X.env=(do
   let ov<-eval o X.env
   standAt apos.atName
   let(f,first)<-holding [ov] (getMethod ov m pl)
   callWith pos f first (backTo pos (starEach (e::es) X.env)) (backToKw pos (keywordEach [] X.env))):=by rfl):
  PE X (.Call (.Attribute o m apos) (e::es) [] pos) (QA C m sp [] E0 ta t):=C4 (pl:=pl) he c hm F (hr.mono hk) hb .nil C6 ha hst hpl ht
theorem mN{pl:Sem Bool}(he:PE X o ta)(c:Cls X.K C)(hm:Meth X.K C m f)(F:FnOk X.prog X.w X.K X.mg X.base CX0 k f fd ps sp)(hr:Room j X.A)(hb:Binds X.K fd ps [])(hk:k<=j:=by omega)
  (ht:eval (.Call (.Attribute o m apos) [] [] pos) X.env=(do
   let ov<-eval o X.env
   standAt apos.atName
   let(f,first)<-holding [ov] (getMethod ov m pl)
   callWith pos f first (backTo pos (starEach [] X.env)) (backToKw pos (keywordEach [] X.env))):=by rfl):
  PE X (.Call (.Attribute o m apos) [] [] pos) (QA C m sp [] E0 ta cXZ):=D4 (pl:=pl) he c hm F (hr.mono hk) hb .nil C6 ht
variable{cpos cp:Pos}{td:TE}
end
section
variable{X:Cx}{c:Expr}{pos:Pos}{a b:List Stmt}{tc:TT}{ta tb:TSX}
end
def avZ(w:List Nat):Nat:=w.foldl (λn c=>10*n+(c - 48)) 0
theorem a1Z(w:List Nat):PySem.NumText.digitsVal w=avZ w:=by
 unfold PySem.NumText.digitsVal avZ
 have:(λacc c:Nat=>acc*10+(c - 48))=λn c=>10*n+(c - 48):=by funext a c;rw[Nat.mul_comm]
 rw[this]
section
variable{X:Cx}
theorem X6:CallR X (.type "int") (λxs H Q=>(∃k,xs=[.bl k]/\Q (.int (if k then 1 else 0)) H)\/∃w,xs=[.str (tx w)]/\(∀c∈w,48<=c/\c<=57)/\w≠ []/\w.length<=100/\Q (.int (avZ w:Nat)) H):=by
 intro pins s σ H xs us Q I r h
 rcases h with⟨k,rfl,q⟩|⟨w,rfl,h1,h2,h3,q⟩
 ·exact WL pins s σ H _ us Q I r (.inr ⟨k,rfl,q⟩)
 ·obtain⟨u,rfl,t,rfl⟩:=CJ r
  have e:(tx w).cps.toList=w:=by simp[tx]
  have hl:(tx w).length<=100:=by
   show(tx w).cps.size<=100
   rw[<-Array.length_toList,e];exact h3
  have hn:=PySem.intText_digits (x:=tx w) (by rw[e];exact h1) (by rw[e];exact h2) (by omega)
  rw[e,a1Z]at hn
  refine PySem.W.KIN.call_text hn (by omega) ⟨.int (avZ w:Nat),H,I.tok _,⟨_,rfl⟩,q⟩
theorem MP:CallR X (.type "str") (λxs H Q=>(∃i,xs=[.int i]/\i.natAbs.log2<1920/\Q (.str (toString i)) H)\/∃z,xs=[.str z]/\Q (.str z) H):=by
 intro pins s σ H xs us Q I r h
 rcases h with h|⟨z,rfl,q⟩
 ·exact LU pins s σ H xs us Q I r h
 ·obtain⟨u,rfl,t,rfl⟩:=CJ r
  exact PySem.P.str_of_str ⟨.str z,H,I,⟨_,rfl⟩,q⟩
end
end L2
namespace L2
open PySem PySem.Spec PyProof.Rows PySem.Builtin PySem.Builtin.Str
section
variable{X:Cx}
theorem LC:∀(tk:Nat) (zs:List Str),Vals (zs.map V.str) (strsFrom tk zs)
 |_,[]=> .nil
 |tk,z::r=> .cons ⟨_,rfl⟩ (LC (tk+1) r)
def b4Z:V->List V->Hp->VK->Prop:=λx vs H Q=>∃(z:Str),x=.str z/\vs=[]/\z.length<=4000000/\∀p,H p=none->Q (.ref p) (upd H p (.lst ((Txt.words z).map V.str)))
theorem ahZ:MtR X "str.split" b4Z:=by
 intro pins s σ H x vs v us Q I rx rv h
 obtain⟨z,rfl,rfl,hz,q⟩:=h
 obtain⟨t,rfl⟩:=rx
 cases rv
 have hsz:(4000001:Nat)<=sizeLine:=by decide
 have hle:(spaceWords z (z.length+1)).length<=z.length+1:=le_trans (StrLaws.len_le_wsum _) (StrLaws.sw_weight z).1
 refine call_meets F.slot_str_split (typeIs_str _ _ _) F.entry_str_split (F.args_str_split_1 _) (meets_str_split_space z t (by omega) (by omega)) ?_
 cases hw:(spaceWords z (z.length+1)==[(0,z.length)])
 ·have e:Txt.words z=wordsOf z:=by unfold Txt.words;rw[hw];rfl
  rw[e]at q
  simp only[Bool.false_eq_true,if_false]
  refine⟨.ref _,_,I.laid (o:=.lst ((wordsOf z).map V.str)) (λb ob q=>gZ _ q) (le_refl _) ⟨?_,_,0,LC _ _,get?_push_size _ rfl⟩,rfl,q _ (I.hok.fresh (le_refl _))⟩
  unfold wordsOf;rw[length_map,length_map];omega
 ·have e:Txt.words z=[z]:=by unfold Txt.words;rw[hw];rfl
  rw[e]at q
  simp only[if_true]
  exact⟨.ref _,_,I.laid (t':=s.toks) (o:=.lst [.str z]) (λb ob q=>gZ _ q) (le_refl _) ⟨by show 1<=sizeLine;decide,_,0,.cons ⟨_,rfl⟩ .nil,get?_push_size _ rfl⟩,rfl,q _ (I.hok.fresh (le_refl _))⟩
theorem bdZ{M:Model}{A:Around}{E:Value->Shared->Prop}{s:Shared}{a:Addr}{m}{name:Str}{v:Value}{Q1 Q2:Unit->Shared->Prop}(hn:s.heap.Ns a m)(h1:wpAny M A (nsSet a name v) Q1 E s)(h2:wpAny M A (nsSet a name v) Q2 E s):
  wpAny M A (nsSet a name v) (λu s'=>Q1 u s'/\Q2 u s') E s:=fun Γ p hΓ=>by
 have h1:=h1 Γ p hΓ
 have h2:=h2 Γ p hΓ
 obtain⟨o,es,ep,ho,hd,hk,hm⟩:=hn
 have hany:es.any (·.refKey)=false:=by
  rw[Array.any_eq_false'];intro e he;obtain⟨n,t,h⟩:=hk e he;simp[DictEntry.refKey,h]
 simp only[nsSet,strHash,Sem.wp_bind',Sem.wp_cmd_ask,Sem.wp_pure',Sem.wp_cmd_mkText]at h1 h2⊢
 rw[Sem.wp_loadPart_of M Γ _ p {s with toks:=s.toks+1} (o:=o) _ ho]at h1 h2⊢
 simp only[hd,aRefKeyMayBeTheName_eq,aRefKeyMayBeTheNameByArray,hany,Bool.and_false,Bool.false_eq_true,if_false,Sem.wp_cmd_updatePart]at h1 h2⊢
 exact⟨h1.1,h1.2,h2.2⟩
theorem KP{M:Model}{A:Around}{E:Value->Shared->Prop}{pins:List (Addr×Obj)}{σ:St}{H:Hp}{s:Shared}{i:Nat}{x:Str}{v:V}{u:Value}{Q:Unit->Shared->Prop}(I:Inv X pins σ H s)(hN:X.N.Nodup)(hi:X.N[i]? =some x)(hx:X.env.scope.names.lookup x=some .local)(r:RelV v u)
  (h:∀s' m',Inv X pins (σ.set i (some v)) H s'->s'.heap.Ns X.env.locals m'->m' x=some u->s'.toks=s.toks+1->Q () s'):wpAny M A (storeName X.env x u) Q E s:=by
 obtain⟨m,hn,_⟩:=id I.loc
 have hcls:(X.env.scope.kind==.class||(X.env.scope.kind==.module&&X.env.locals !=X.env.globals))=false:=by rw[I.ok.kind];rfl
 have h1:=Y9 (M:=M) (A:=A) (E:=E) (Q:=λ_ s'=>Inv X pins (σ.set i (some v)) H s') I hN hi (.inl hx) r (λ_ I'=>I') (.inr hx)
 have h2:wpAny M A (storeName X.env x u) (λ_ s'=>∃m',s'.heap.Ns X.env.locals m'/\m' x=some u/\s'.toks=s.toks+1) E s:=wpAny_storeName_local hx hn (λh' hn' _=>⟨_,hn',if_pos rfl,rfl⟩) hcls
 rw[storeName_local hx hcls]at h1 h2⊢
 exact thn (bdZ hn h1 h2) λ_ s' ⟨I',m',a,b,c⟩=>h s' m' I' a b c
theorem ZK{E:Value->Shared->Prop}{pins:List (Addr×Obj)}{σ:St}{H:Hp}{s:Shared}{i:Nat}{x:Str}{v:V}{pos:Pos}{Q:Value->Shared->Prop}(I:Inv X pins σ H s)(hi:X.N[i]? =some x)(hx:X.env.scope.names.lookup x=some .local)(e:σ[i]? =some (some v))(h:∀u,RelV v u->Q u s)
  (hd:(x==("__debug__":Str))=false):wpAny (model X.prog X.w) X.A (eval (.Name x pos) X.env) Q E s:=by
 obtain⟨m,hn,hl⟩:=I.loc
 obtain⟨u,r,l⟩:=hl i x v hi e (.inl hx)
 rcases l with⟨hk,hm⟩|⟨hk,c,hc,hcell⟩
 ·exact wpAny_Name (wpAny_loadName_local I.ok.kind hk hn hm (h u r)) hd
 ·have hx':X.env.kindOf x=some .local:=hx
  rw[hx']at hk
  rcases hk with hk|hk<;>cases hk
theorem KM{prog:Program}{w:World}{A:Around}{E:Value->Shared->Prop}{s:Shared}{x y z:Str}{t u v:Tok}{Q:Value->Shared->Prop}(hu:u≠0)(hv:v≠0)(huv:u≠v)(hyz:(y==z)=false)(hb:x.length+(x.length+1)*z.length<=16777216)
  (hq:∀t' k,s.toks<=k->Q (.str (Txt.replace x y z) t') {s with toks:=k}):wpAny (model prog w) A (call (.builtin "str.replace") [.str x t,.str y u,.str z v]) Q E s:=by
 have hl:tooLong (x.length+(occurrences x y 0 x.length (x.length+1)).length*z.length)=false:=by
  have h1:=StrLaws.occ_length_le x y 0 x.length (x.length+1)
  have h2:(occurrences x y 0 x.length (x.length+1)).length*z.length<=(x.length+1)*z.length:=Nat.mul_le_mul_right _ h1
  unfold tooLong sizeLine
  exact decide_eq_false (by omega)
 refine call_gives F.slot_str_replace (typeIs_str _ _ _) F.entry_str_replace (F.args_str_replace_3 _ _ _) (gives_str_replace x y z t u v λ_=>⟨by simp[hu,hv],by simp[huv],hyz,hl⟩) ?_
 unfold Txt.replace at hq
 cases hc:((occurrences x y 0 x.length (x.length+1)).isEmpty||(y.length==0&&z.length==0))
 ·rw[hc]at hq
  simp only[Bool.false_eq_true,if_false]at hq⊢
  exact⟨fits_replaced y hb,hq _ _ (le_succ _)⟩
 ·rw[hc]at hq
  simp only[if_true]at hq⊢
  exact hq t s.toks (le_refl _)
def ZS(i:Nat)(c0 c1 c2:Str):TE:=fun σ H Q=>∃z:Str,σ[i]? =some (some (.str z))/\z.length<=1000/\c0.length+(Txt.replace z c1 c2).length<=sizeLine/\Q (.str (c0++Txt.replace z c1 c2)) H
theorem SS{i:Nat}{x c0 c1 c2:Str}{k0 k1 k2:Nat}{p0 p1 p2 p3 apos cpos pos:Pos}(hi:X.N[i]? =some x)(hx:X.env.scope.names.lookup x=some .local)(hd:(x==("__debug__":Str))=false:=by decide)(hne:(c1==c2)=false:=by decide +kernel)(h2:c2.length<=1000:=by decide +kernel)
  (hbase:attributeBase (.Name x p3) "replace" X.env (eval (.Name x p3) X.env)=eval (.Name x p3) X.env:=by rfl)
  (hfew:((backTo cpos (starEach [.Constant (.str c1) k1 p1,.Constant (.str c2) k2 p2] X.env)).all (λx=> !x.1)&&(backToKw cpos (keywordEach [] X.env)).all (λx=>x.1.isSome)
   &&decide (([.Constant (.str c1) k1 p1,.Constant (.str c2) k2 p2]:List Expr).length+([]:List Keyword).length+(if([]:List Keyword).isEmpty then 0 else 1)<30))=true:=by rfl)
  (hline:(apos.endLine==cpos.line)=true:=by rfl):
  PE X (.BinOp (.Constant (.str c0) k0 p0) .Add (.Call (.Attribute (.Name x p3) "replace" apos) [.Constant (.str c1) k1 p1,.Constant (.str c2) k2 p2] [] cpos) pos) (ZS i c0 c1 c2):=by
 intro pins s σ H Q I h
 obtain⟨z,hz,hl,hs,q⟩:=h
 refine wpAny_BinOp (Calls.Constant_str ?_)
 have I1:=I.tok (s.toks+1)
 refine wpAny_Call_method_late hbase hfew hline rfl (ZK I1 hi hx hz (λv rv=> ?_) hd)
 obtain⟨t,rfl⟩:=rv
 refine⟨"str","str.replace",F.plainAttrs_str,F.slot_str_replace,F.type_str_replace,typeIs_str _ _ _,(λ_ e=>nomatch e), ?_⟩
 refine Calls.callWith_builtin rfl (Calls.evalArgs_plain ?_)
 refine Calls.spliced_cons (Calls.Constant_str (k:=k1) (pos:=p1) ?_)
 refine Calls.spliced_cons (Calls.Constant_str (k:=k2) (pos:=p2) (Calls.spliced_nil ?_))
 refine KM (by show s.toks+1≠0;omega) (by show s.toks+1+1≠0;omega) (by show s.toks+1≠s.toks+1+1;omega) hne ?_ λt' k _=> ?_
 ·have h1:(z.length+1)*c2.length<=1001*1000:=Nat.mul_le_mul (by omega) h2
  omega
 ·exact add_str (λt2 tk=>⟨.str (c0++Txt.replace z c1 c2),H,I.tok _,⟨_,rfl⟩,q⟩) hs
def JN(cs:List Nat)(z:Str):Str:=cs.foldl (λz c=>Txt.replace z ⟨#[c]⟩ ⟨#[32,c,32]⟩) z
def ZE(i j:Nat)(z0:Str):TS:=λD σ H=>∃z:Str,σ[i]? =some (some (.str z))/\(∀k,(JN (z0.cps.toList.take k) z).length<=4000000)/\
 ∀σ',σ'.length=σ.length->σ'[i]? =some (some (.str (JN z0.cps.toList z)))->(∀k,k≠i->k≠j->σ'[k]? =σ[k]?)->D.nx σ' H
theorem RI{i j:Nat}{x y z0:Str}{k0 k1 k2:Nat}{p0 p1 p2 p3 p4 p5 p6 p7 p8 apos cpos spos pos:Pos}(hp:PassesOwn (model X.prog X.w) X.A X.env X.xe)(hc:X.calm=true)(hN:X.N.Nodup)(hi:X.N[i]? =some x)(hx:X.env.scope.names.lookup x=some .local)(hj:X.N[j]? =some y)(hy:X.env.scope.names.lookup y=some .local)
  (hij:i≠j:=by decide)(hd:(x==("__debug__":Str))=false:=by decide)(hdy:(y==("__debug__":Str))=false:=by decide)(ha:z0.cps.all (·<128)=true:=by decide +kernel)
  (hbase:attributeBase (.Name x p3) "replace" X.env (eval (.Name x p3) X.env)=eval (.Name x p3) X.env:=by rfl)
  (hfew:((backTo cpos (starEach [.Name y p4,.BinOp (.BinOp (.Constant (.str " ") k1 p5) .Add (.Name y p6) p7) .Add (.Constant (.str " ") k2 p8) p2] X.env)).all (λx=> !x.1)&&(backToKw cpos (keywordEach [] X.env)).all (λx=>x.1.isSome)
   &&decide (([.Name y p4,.BinOp (.BinOp (.Constant (.str " ") k1 p5) .Add (.Name y p6) p7) .Add (.Constant (.str " ") k2 p8) p2]:List Expr).length+([]:List Keyword).length+(if([]:List Keyword).isEmpty then 0 else 1)<30))=true:=by rfl)
  (hline:(apos.endLine==cpos.line)=true:=by rfl)
  (hsw:swapsWith (.Call (.Attribute (.Name x p3) "replace" apos) [.Name y p4,.BinOp (.BinOp (.Constant (.str " ") k1 p5) .Add (.Name y p6) p7) .Add (.Constant (.str " ") k2 p8) p2] [] cpos) (some (.Name x p1)) spos.line X.env=pure false:=by rfl)
  (hs:∀v,foldedSetIterable (.Constant (.str z0) k0 p0) X.env v=pure v:=by intro _;rfl):
  PS X (.For (.Name y pos) (.Constant (.str z0) k0 p0) [.Assign [.Name x p1] (.Call (.Attribute (.Name x p3) "replace" apos) [.Name y p4,.BinOp (.BinOp (.Constant (.str " ") k1 p5) .Add (.Name y p6) p7) .Add (.Constant (.str " ") k2 p8) p2] [] cpos) spos] [] pos') (ZE i j z0):=by
 intro pins s σ H D I h
 obtain⟨z,hz,hb,q⟩:=h
 refine wpAny_For (Calls.Constant_str (wpAny_pyIter_ascii ha ?_)) hs
 have I1:=I.tok (s.toks+1)
 have I2:Inv X pins σ H {s with toks:=s.toks+1,heap:=s.heap.push {cls:=.type "str_ascii_iterator",data:=.fields #[.str z0 s.toks,.int 0 0]}}:=I1.kept (t':=s.toks+1) λb o e=>gZ _ e
 have T:=OT (P:=X.prog) (w:=X.w) (K:=X.K) (tg:=.Name y pos) z0 s.toks s.heap.objs.size "str_ascii_iterator" (.inl rfl)
 have hF:∀b∈ [s.heap.objs.size],OY X pins H b:=λb hb=>by
  have e:b=s.heap.objs.size:=by simpa using hb
  subst e
  exact I1.fpOk (le_refl _) (I1.hok.fresh (le_refl _))
 have hil:i<σ.length:=by
  obtain⟨h1,_⟩:=List.getElem?_eq_some_iff.mp hz
  exact h1
 have hjl:j<σ.length:=by
  rw[I.len]
  exact(List.getElem?_eq_some_iff.mp hj).1
 refine codeAny_forLoop_any (λn s'=>∃(k:Nat) (σ':St),Inv X pins σ' H s'/\s'.heap.IsStrIter s.heap.objs.size "str_ascii_iterator" z0 s.toks k/\1<=s'.toks/\k<=z0.length/\n=z0.length - k/\σ'.length=σ.length/\σ'[i]? =some (some (.str (JN (z0.cps.toList.take k) z)))/\∀l,l≠i->l≠j->σ'[l]? =σ[l]?) ?_ z0.length
  ⟨0,σ,I2,⟨_,get?_push_size _ rfl,rfl,rfl⟩,(by show 1<=s.toks+1;omega),zero_le _,rfl,rfl,hz,λ_ _ _=>rfl⟩
 rintro n s3 ⟨k,σ3,I3,st3,tk3,hk,rfl,hl3,hi3,ho3⟩
 by_cases hlt:k<z0.length
 ·have hk':k<z0.cps.size:=hlt
  have hcx:z0.cps[k]? =some z0.cps[k]:=Array.getElem?_eq_getElem hk'
  have hnx:JN (z0.cps.toList.take (k+1)) z=Txt.replace (JN (z0.cps.toList.take k) z) ⟨#[z0.cps[k]]⟩ ⟨#[32,z0.cps[k],32]⟩:=by
   have h1:k<z0.cps.toList.length:=hlt
   unfold JN
   rw[take_succ_eq_append_getElem h1,List.foldl_append]
   rfl
  generalize z0.cps[k]=c at hcx hnx
  refine wpAny_passesOwn hp (wpAny_pyNext_ascii_item st3 hcx λh' st' sb=> ?_)
  obtain⟨f0,f1,f2,f3,f4,f5⟩:=hF s.heap.objs.size (by simp)
  have I4:Inv X pins σ3 H {s3 with heap:=h',toks:=s3.toks+1}:=I3.turned (λb o hb e=>(sb.2 b hb).trans e) f0 f1 f3 f4 f5
  obtain⟨oi,ei,ci,di⟩:=id st'
  refine wpAny_passesOwn hp (PL (s:={s3 with heap:=h',toks:=s3.toks+1}) ei ci di (by decide) ?_)
  have I5:=I4.pinned hF (T.obj _ _ st')
  refine wpAny_passesOwn hp (wpAny_assign_Name (KP I5 hN hj hy (v:=.str ⟨#[c]⟩) ⟨_,rfl⟩ λs6 m6 I6 hn6 hm6 tk6=> ?_))
  have tk6:s6.toks=s3.toks+1+1:=tk6
  have hi6:(σ3.set j (some (V.str ⟨#[c]⟩)))[i]? =some (some (.str (JN (z0.cps.toList.take k) z))):=by rw[getElem?_set_ne (Ne.symm hij)];exact hi3
  refine wpAny_passesOwn hp (wpAny_execs_cons (wpAny_Assign_Name (wpAny_Call_method_late hbase hfew hline rfl (ZK I6 hi hx hi6 (λv rv=> ?_) hd)) hsw))
  obtain⟨t,rfl⟩:=rv
  refine⟨"str","str.replace",F.plainAttrs_str,F.slot_str_replace,F.type_str_replace,typeIs_str _ _ _,(λ_ e=>nomatch e), ?_⟩
  refine Calls.callWith_builtin rfl (Calls.evalArgs_plain ?_)
  refine Calls.spliced_cons (wpAny_Name (wpAny_loadName_local I6.ok.kind hy hn6 hm6 ?_) hdy)
  refine Calls.spliced_cons (wpAny_BinOp (wpAny_BinOp (Calls.Constant_str (wpAny_Name (wpAny_loadName_local (s:={s6 with toks:=s6.toks+1}) I6.ok.kind hy hn6 hm6 ?_) hdy))))
  refine P.add_str ⟨(by show 2<=sizeLine;decide),Calls.Constant_str (P.add_str ⟨(by show 3<=sizeLine;decide),Calls.spliced_nil ?_⟩)⟩
  have hbk:=hb k
  refine KM (by show s3.toks≠0;omega) (by show s6.toks+1+1+1≠0;omega) (by show s3.toks≠s6.toks+1+1+1;omega) (by show(#[c]== #[32,c,32])=false;simp) (by show _+(_+1)*3<=_;omega) λt' tk htk=> ?_
  have I7:=I6.tok tk
  refine KP I7 hN hi hx (v:=.str (JN (z0.cps.toList.take (k+1)) z)) ⟨_,by rw[hnx];rfl⟩ λs8 m8 I8 _ _ tk8=> ?_
  have htk:s6.toks+1+1+1+1<=tk:=htk
  have tk8:s8.toks=tk+1:=tk8
  refine wpAny_execs_nil ?_
  refine⟨z0.length - (k+1),by omega,k+1,_,I8.unpinned,T.keep _ _ _ st' λb hb o e=>(I8.pin (b,o) (mem_append_right _ (mem_append_right _ (Z2 hb e)))).1,by omega,hlt,rfl, ?_, ?_,λl h1 h2=> ?_⟩
  ·rw[length_set,length_set];exact hl3
  ·rw[getElem?_set_self (by rw[length_set,hl3];exact hil)]
  ·rw[getElem?_set_ne (Ne.symm h1),getElem?_set_ne (Ne.symm h2)]
   exact ho3 l h1 h2
 ·have e:k=z0.length:=by omega
  have hd0:=T.done X rfl rfl rfl hc k pins s3 σ3 H X.xe I3 hF st3 (by show z0.length<=k;omega)
  refine wpAny_passesOwn hp (thn hd0 λr s4 ⟨hr,I4⟩=> ?_)
  subst hr
  refine wpAny_execs_nil ⟨σ3,H,I4,q σ3 hl3 ?_ ho3⟩
  rw[hi3,e,take_of_length_le (by show z0.cps.toList.length<=z0.cps.size;simp)]
end
end L2
namespace L2
open PySem PySem.Spec PyProof.Rows
def Keep(H H':Hp):Prop:=(∀b xs,H b=some (.tup xs)->H' b=some (.tup xs))/\∀b o u,H b=some (.frz o u)->H' b=some (.frz o u)
theorem Keep.trans{H H1 H2:Hp}(a:Keep H H1)(b:Keep H1 H2):Keep H H2:=⟨λc xs h=>b.1 c xs (a.1 c xs h),λc o u h=>b.2 c o u (a.2 c o u h)⟩
theorem Keep.new{H:Hp}{p:Addr}(h:H p=none)(o:HO):Keep H (upd H p o):=⟨λb xs e=>by rw[C1 (B8 e h)];exact e,λb ob u e=>by rw[C1 (B8 e h)];exact e⟩
theorem FnOk.keep{P:Program}{w:World}{K:FZ}{mg:Str->Option Value}{base:Heap}{k:Nat}{f:Addr}{fd:FuncData}{ps:List Str}{sp:Sp}(F:FnOk P w K mg base (CXr P w) k f fd ps sp):
  FnOk P w K mg base (CXr P w) k f fd ps (λvs H Q E=>sp vs H (λv H'=>Keep H H'->Q v H') (λv d H'=>Keep H H'->E v d H')):=by
 refine⟨λvs H Q E h=>F.len vs H _ _ h,λA outer s H args us vs Q E hr he hb hv hs=>codeAny_mono (F.run A outer s H args us vs _ _ hr he hb hv hs) λr s' hq=> ?_⟩
 cases r with
 |ok fl=>
  cases fl with
  |ret u=>
   obtain⟨v,H',h1,h2,h3,h4,h5,h6⟩:=hq
   exact⟨v,H',h1,h2,h3,h4,h5,h6 ⟨h3.tups,h3.frzs⟩⟩
  |_=>exact hq
 |error e=>
  obtain⟨a,C,H',h1,h2,h3,h4,h5,h6,h7⟩:=hq
  exact⟨a,C,H',h1,h2,h3,h4,h5,h6,h7 ⟨h4.tups,h4.frzs⟩⟩
section
variable{X:Cx}{pins:List (Addr×Obj)}{σ:St}{H:Hp}{s:Shared}
theorem Inv.freeze{a:Addr}{xs:List V}(I:Inv X pins σ H s)(h:H a=some (.lst xs)):∃o,Inv X pins σ (upd H a (.frz o (.lst xs))) s:=by
 obtain⟨z,its,n,r,e⟩:=I.hok a _ h
 refine⟨{cls:=.type "list",data:=.seq its.toArray n},⟨I.ok,I.os,I.bare,⟨I.base.keep,I.base.slot,λb o q hn hx=> ?_,I.base.there,λb ys q=> ?_,λb o u q=> ?_,λb ps q=> ?_⟩,I.loc,I.cell, ?_,λx c q=> ?_,λp hp=> ?_,λb o q=> ?_,I.len⟩⟩
 ·have:=I.base.free b o q hn hx
  rw[C1 (λz=>by rw[z,h]at this;cases this)];exact this
 ·have:=I.base.tups b ys q
  rw[C1 (λz=>by rw[z,h]at this;cases this)];exact this
 ·have:=I.base.frzs b o u q
  rw[C1 (λz=>by rw[z,h]at this;cases this)];exact this
 ·obtain⟨m,this⟩:=I.base.tbls b ps q
  exact⟨m,by rw[C1 (λz=>by rw[z,h]at this;cases this)];exact this⟩
 ·rw[C1 (Ne.symm (B8 h I.free))];exact I.free
 ·rw[C1 (Ne.symm (B8 h (I.freeC x c q)))];exact I.freeC x c q
 ·obtain⟨h1,h2,h3⟩:=I.pin p hp
  exact⟨h1,by rw[C1 (Ne.symm (B8 h h2))];exact h2,h3⟩
 ·by_cases hb:b=a
  ·subst hb
   rw[A2]at q
   cases q
   exact⟨e,z,its,n,r,e⟩
  ·rw[C1 hb]at q
   exact(I.hok b o q).stay (λ_ _ _ q=>q) (λc q=>by rw[C1 (λz=>by rw[z,h]at q;cases q)];exact q) λc ys q=>by rw[C1 (λz=>by rw[z,h]at q;cases q)];exact q
def ehZ(t:TS):TS:=λD σ H=>t {D with nx:=fun σ' H'=>∃a xs,H' a=some (.lst xs)/\∀o,D.nx σ' (upd H' a (.frz o (.lst xs)))} σ H
theorem clZ{st:Stmt}{t:TS}(h:PS X st t):PS X st (ehZ t):=by
 intro pins s σ H D I q
 refine thn (h pins s σ H _ I q) λf s1 hq=> ?_
 cases f with
 |next=>
  obtain⟨σ',H',I',a,xs,ha,q'⟩:=hq
  obtain⟨o,I2⟩:=I'.freeze ha
  exact⟨σ',_,I2,q' o⟩
 |_=>exact hq
end
theorem SqL.frz{K:FZ}{H:Hp}{a:Addr}{o:Obj}{xs:List V}(h:H a=some (.frz o (.lst xs))):SqL K H a xs:=.inl (.inr ⟨o,h⟩)
end L2
namespace BU
open PySem L2
def Tups(H H':Hp):Prop:=∀b xs,H b=some (.tup xs)->H' b=some (.tup xs)
theorem Tups.trans{H H1 H2:Hp}(a:Tups H H1)(b:Tups H1 H2):Tups H H2:=λc xs h=>b c xs (a c xs h)
theorem Tups.lst{H:Hp}{p:Addr}{xs:List V}(h:H p=some (.lst xs))(o:HO):Tups H (upd H p o):=λb ys q=>by
 rw[C1 (KD q h (by intro z;cases z))];exact q
theorem tups_of{H H':Hp}(h:Same H H'):Tups H H':=λb xs q=>h b _ q
theorem A6{H:Hp}{p:Addr}(h:H p=none)(o:HO):Same H (upd H p o):=λb u q=>by rw[C1 (B8 q h)];exact q
inductive All2 {α β:Type} (R:α->β->Prop):List α->List β->Prop where
 |nil:All2 R [] []
 |cons {a b as bs}:R a b->All2 R as bs->All2 R (a::as) (b::bs)
namespace All2
variable{α β:Type}{R S:α->β->Prop}
theorem imp{as:List α}{bs:List β}(h:All2 R as bs)(f:∀a b,R a b->S a b):All2 S as bs:=by
 induction h with
 |nil=>exact .nil
 |cons r _ ih=>exact .cons (f _ _ r) ih
theorem app{as as':List α}{bs bs':List β}(h:All2 R as bs)(h':All2 R as' bs'):All2 R (as++as') (bs++bs'):=by
 induction h with
 |nil=>exact h'
 |cons r _ ih=>exact .cons r ih
theorem rev{as:List α}{bs:List β}(h:All2 R as bs):All2 R as.reverse bs.reverse:=by
 induction h with
 |nil=>exact .nil
 |cons r _ ih=>rw[reverse_cons,reverse_cons];exact ih.app (.cons r .nil)
theorem len{as:List α}{bs:List β}(h:All2 R as bs):as.length=bs.length:=by
 induction h with
 |nil=>rfl
 |cons _ _ ih=>simp only[length_cons,ih]
theorem get{as:List α}{bs:List β}(h:All2 R as bs):∀ {i:Nat} {b:β},bs[i]? =some b->∃a,as[i]? =some a/\R a b:=by
 induction h with
 |nil=>intro i b e;simp at e
 | @cons a b as bs r _ ih=>
  intro i c e
  cases i with
  |zero=>simp at e;subst e;exact⟨a,rfl,r⟩
  |succ i=>exact ih (by simpa using e)
theorem split{as as':List α}:∀ {bs:List β},All2 R (as++as') bs->∃b1 b2,bs=b1++b2/\All2 R as b1/\All2 R as' b2:=by
 induction as with
 |nil=>intro bs h;exact⟨[],bs,rfl,.nil,h⟩
 |cons a as ih=>
  intro bs h
  cases h with
  |cons r h=>
   obtain⟨b1,b2,rfl,h1,h2⟩:=ih h
   exact⟨_::b1,b2,rfl,.cons r h1,h2⟩
end All2
end BU
namespace BU
open PySem L2
theorem YR{H:Hp}{a:Addr}{o:HO}(h:H a=some o):upd H a o=H:=by
 funext b
 unfold upd
 split
 ·rename_i e;rw[e,h]
 ·rfl
end BU
namespace K10
def letter(c:Nat):Bool:=decide (c∈ [97,98,99,100,101,102,103,104,105,106,107,108,109,110,111,112,113,114,115,116,117,118,119,120,121,122])
def figure(c:Nat):Bool:=decide (c∈ [48,49,50,51,52,53,54,55,56,57])
def long(c:Nat):Bool:=letter c||figure c
def gap(c:Nat):Bool:=decide (c∈ [32,9,10])
def mark(c:Nat):Bool:=decide (c∈ [40,41,44,61,43,45,42,47,60,58,33,91,93])
def GM(w:List Nat):Bool:=match w with
 | []=>false
 |c::_=>if figure c then w.all figure&&decide (w.length<=12)&&(decide (w=[48])|| !decide (c=48))else decide (w.length<=8)
def wordAt:List Nat->Option (List Nat)
 | []=>none
 |c::r=>if long c then(if GM ((c::r).takeWhile long)then some ((c::r).takeWhile long)else none)
  else if(c::r).take 2=[61,62]then some [61,62]
  else if mark c then some [c]else none
theorem wordAt_cons(c:Nat)(r:List Nat):wordAt (c::r)=if long c then(if GM ((c::r).takeWhile long)then some ((c::r).takeWhile long)else none)
  else if(c::r).take 2=[61,62]then some [61,62]
  else if mark c then some [c]else none:=rfl
theorem takeWhile_pos{c:Nat}{r:List Nat}(h:long c=true):((c::r).takeWhile long)=c::r.takeWhile long:=by simp[List.takeWhile,h]
theorem wordAt_pos{t w:List Nat}(h:wordAt t=some w):0<w.length:=by
 cases t with
 |nil=>cases h
 |cons c r=>
  rw[wordAt_cons]at h
  split at h
  ·rename_i hl
   split at h
   ·cases h;rw[takeWhile_pos hl];simp
   ·cases h
  ·split at h
   ·cases h;decide
   ·split at h
    ·cases h;simp
    ·cases h
def cut:Nat->List Nat->Option (List (List Nat))
 |0,_=>some []
 |_+1,[]=>some []
 |n+1,c::r=>if gap c then cut n r else match wordAt (c::r)with
  |none=>none
  |some w=>(cut n ((c::r).drop w.length)).map (w::·)
theorem HS:∀(n m:Nat) (t:List Nat),t.length<=n->t.length<=m->cut n t=cut m t
 |n,m,[],_,_=>by cases n<;>cases m<;>rfl
 |0,_,_::_,h,_=>by simp at h
 |_,0,_::_,_,h=>by simp at h
 |n+1,m+1,c::r,h1,h2=>by
  simp only[length_cons]at h1 h2
  unfold cut
  split
  ·exact HS n m r (by omega) (by omega)
  ·cases hw:wordAt (c::r)with
   |none=>rfl
   |some w=>
    have hp:=wordAt_pos hw
    dsimp only
    rw[HS n m _ (by rw[length_drop,length_cons];omega) (by rw[length_drop,length_cons];omega)]
def words(t:List Nat):Option (List (List Nat)):=cut t.length t
theorem VQ:words []=some []:=rfl
theorem words_gap{c:Nat}{r:List Nat}(h:gap c=true):words (c::r)=words r:=by
 show cut (r.length+1) (c::r)=_
 unfold cut
 rw[if_pos h]
 rfl
theorem words_word{c:Nat}{r w:List Nat}(h:gap c=false)(hw:wordAt (c::r)=some w):words (c::r)=(words ((c::r).drop w.length)).map (w::·):=by
 show cut (r.length+1) (c::r)=_
 unfold cut
 rw[if_neg (by rw[h];simp),hw]
 have hp:=wordAt_pos hw
 show(cut r.length _).map _=_
 unfold words
 rw[HS r.length ((c::r).drop w.length).length _ (by rw[length_drop,length_cons];omega) (le_refl _)]
theorem IE{c:Nat}{r:List Nat}(h:gap c=false)(hw:wordAt (c::r)=none):words (c::r)=none:=by
 show cut (r.length+1) (c::r)=_
 unfold cut
 rw[if_neg (by rw[h];simp),hw]
def close(found:List (List Nat))(row:List Nat):Option (List (List Nat)):=if row=[]then some found else if GM row then some (found++ [row])else none
theorem gap_long{c:Nat}(h:gap c=true):long c=false:=by
 have h:=of_decide_eq_true h
 have:c=32\/c=9\/c=10:=by simpa using h
 rcases this with rfl|rfl|rfl<;>decide
theorem mark_long{c:Nat}(h:mark c=true):long c=false/\gap c=false/\c≠62:=by
 have h:=of_decide_eq_true h
 simp only[mem_cons,not_mem_nil,or_false]at h
 rcases h with rfl|rfl|rfl|rfl|rfl|rfl|rfl|rfl|rfl|rfl|rfl|rfl|rfl<;>decide
theorem PX{c:Nat}(h:long c=true):gap c=false:=by
 cases hg:gap c with
 |false=>rfl
 |true=>rw[gap_long hg]at h;cases h
theorem words_row{row rest:List Nat}(hr:row.all long=true)(hn:row≠ [])(hs:∀c r,rest=c::r->long c=false):words (row++rest)=(close [] row).bind λf=>(words rest).map (f++·):=by
 cases row with
 |nil=>exact absurd rfl hn
 |cons c r=>
  have hc:long c=true:=by simp at hr;exact hr.1
  have hw:((c::r)++rest).takeWhile long=c::r:=by
   rw[List.takeWhile_append_of_pos (by simpa using hr)]
   cases rest with
   |nil=>simp
   |cons d s=>rw[List.takeWhile_cons_of_neg (by rw[hs d s rfl];simp)];simp
  have hwa:wordAt (c::(r++rest))=if GM (c::r)then some (c::r)else none:=by
   rw[wordAt_cons]
   rw[if_pos hc]
   rw[show(c::(r++rest))=(c::r)++rest from rfl,hw]
  unfold close
  rw[if_neg hn]
  cases hg:GM (c::r)with
  |true=>
   rw[hg]at hwa
   have:=words_word (PX hc) hwa
   rw[show(c::r)++rest=c::(r++rest)from rfl,this]
   rw[show(c::(r++rest))=(c::r)++rest from rfl,List.drop_left]
   simp
  |false=>
   rw[hg]at hwa
   exact IE (PX hc) hwa
end K10
namespace K10
open PySem L2
seal PE PT PW PA PS PSs PTs PI PG PGs PO
def top(i:Nat):Stmt:=PySem.Challenge.pw_speakmill_k14_no_program.main.body.getD i (.Pass ⟨0,0,0,0⟩)
abbrev s_in_long_word:Stmt:=top 23
abbrev s_is_told:Stmt:=top 26
abbrev s_is_number:Stmt:=top 25
abbrev s_is_name:Stmt:=top 27
abbrev IU:List Str:=["sign"]
theorem GQ:FnScope IU GR (A5 s_in_long_word):=fS
abbrev WO:List Str:=["word"]
theorem RN:FnScope WO CK (A5 s_is_told):=fS
abbrev FY:List Str:=["word"]
theorem MZ:FnScope FY CK (A5 s_is_number):=fS
abbrev KL:List Str:=["word"]
theorem SR:FnScope KL CK (A5 s_is_name):=fS
structure NoG (mg:Str->Option Value):Prop where
 len_:mg "len"=none
 isinstance_:mg "isinstance"=none
 range_:mg "range"=none
 list_:mg "list"=none
 str_:mg "str"=none
 all_:mg "all"=none
 ValueError_:mg "ValueError"=none
def Same(H H':Hp):Prop:=∀b o,H b=some o->H' b=some o
theorem Same.refl{H:Hp}:Same H H:=λ_ _ h=>h
theorem Same.trans{H H1 H2:Hp}(a:Same H H1)(b:Same H1 H2):Same H H2:=λx o h=>b x o (a x o h)
theorem A6{H:Hp}{p:Addr}(h:H p=none)(o:HO):Same H (upd H p o):=λb u q=>by rw[C1 (B8 q h)];exact q
theorem Same.free{H H':Hp}(s:Same H H'){a:Addr}(h:H' a=none):H a=none:=by
 cases q:H a with
 |none=>rfl
 |some o=>rw[s a o q]at h;cases h
theorem ifT{c A B:Prop}[Decidable c](h:c)(a:A):if c then A else B:=by rw[if_pos h];exact a
theorem ifF{c A B:Prop}[Decidable c](h:¬c)(b:B):if c then A else B:=by rw[if_neg h];exact b
theorem MA{s:String}{l:List Nat}(h:Str.ofString s=tx l)(c:Nat):(!(Builtin.Str.occurrences (Str.ofString s) (tx [c]) 0 (Str.ofString s).length 1).isEmpty)=decide (c∈l):=by rw[h];exact b8Z l c
theorem HQ(c:Nat):(!(Builtin.Str.occurrences (Str.ofString "abcdefghijklmnopqrstuvwxyz") (tx [c]) 0 (Str.ofString "abcdefghijklmnopqrstuvwxyz").length 1).isEmpty)=letter c:=MA (by decide +kernel) c
theorem IS(c:Nat):(!(Builtin.Str.occurrences (Str.ofString "0123456789") (tx [c]) 0 (Str.ofString "0123456789").length 1).isEmpty)=figure c:=MA (by decide +kernel) c
theorem eq_lit{s:String}{l w:List Nat}(h:Str.ofString s=tx l):decide (V.str (tx w)=V.str (Str.ofString s))=decide (w=l):=by rw[h];exact ZA w l
def toldW:List (List Nat):=[[100,101,102],[105,102],[116,104,101,110],[101,108,115,101],[108,101,116],[105,110],[102,110],[121,101,115],[110,111],[104,101,97,100],[116,97,105,108],[101,109,112,116,121],[110,111,116]]
def told(w:List Nat):Bool:=decide (w∈toldW)
def isNum(w:List Nat):Bool:= !(decide (w=[])||decide (12<w.length))&&(w.all figure&&(!decide (w.head? =some 48)||decide (w=[48])))
def isName(w:List Nat):Bool:= !(decide (w=[])||decide (8<w.length)||told w)&&((w.head?.elim false letter)&&w.all long)
theorem inV_told(w:List Nat):inV (.str (tx w)) (toldW.map λl=>V.str (tx l))=told w:=by
 unfold inV told
 rw[Bool.eq_iff_iff,any_eq_true,decide_eq_true_iff]
 constructor
 ·rintro⟨y,hy,e⟩
  obtain⟨l,hl,rfl⟩:=mem_map.mp hy
  have e2:tx l=tx w:=by simpa [eqV]using e
  rw[<-Y7 e2];exact hl
 ·intro h
  exact⟨_,mem_map.mpr ⟨w,h,rfl⟩,by simp[eqV]⟩
section
variable{P:Program}{w:World}{K:FZ}{mg:Str->Option Value}{base:Heap}{f:Addr}{fd:FuncData}{N4 DA:Addr}{N5 DB:FuncData}{tw:Addr}
inductive spLongW(vs:List V)(H:Hp)(Q:VK):Prop
 |mk:∀c,(vs=[.str (tx [c])])->(Q (.bl (long c)) H)->spLongW vs H Q
def LS:Sp:=λvs H Q _=>spLongW vs H Q
theorem ok_in_long_word(F:Fun K "in_long_word" "in_long_word" s_in_long_word f fd){t1 t2:Tok}(m_LETTERS:mg "LETTERS"=some (.str "abcdefghijklmnopqrstuvwxyz" t1))(m_FIGURES:mg "FIGURES"=some (.str "0123456789" t2)):FnOk P w K mg base CX0 1 f fd GR LS:=by
 refine F.ok GQ (λvs H Q E h=> ?_) (λcdv A outer s H vs Q E hr h=> ?_)
 ·obtain⟨c,rfl,_⟩:=h
  rfl
 obtain⟨c,rfl,q⟩:=h
 refine⟨_,(A7 (B2 (bMZ (S2 op_in_str (pv 0) (C7 (v:=.str "abcdefghijklmnopqrstuvwxyz") rfl m_LETTERS ⟨_,rfl⟩) rfl) (LT (S2 op_in_str (pv 0) (C7 (v:=.str "0123456789") rfl m_FIGURES ⟨_,rfl⟩) rfl))))), ?_⟩
 refine⟨_,rfl,_,_,rfl,rfl,_,rfl, ?_⟩
 rw[HQ]
 unfold long at q
 cases hl:letter c with
 |true=>rw[hl]at q;exact ifT rfl q
 |false=>
  rw[hl]at q
  refine ifF (by decide) ⟨_,rfl,_,_,rfl,rfl, ?_⟩
  rw[IS]
  exact q
inductive spToldW (vs:List V) (H:Hp) (Q:VK):Prop
 |mk:∀l,(vs=[.str (tx l)])->(Q (.bl (told l)) H)->spToldW vs H Q
def FF:Sp:=λvs H Q _=>spToldW vs H Q
theorem ok_is_told(F:Fun K "is_told" "is_told" s_is_told f fd)(TW:∀H:Hp,SqT K H tw (toldW.map λl=>V.str (tx l)))(m_TOLD_WORDS:mg "TOLD_WORDS"=some (.ref tw)):FnOk P w K mg base CX0 1 f fd CK FF:=by
 refine F.ok RN (λvs H Q E h=> ?_) (λcdv A outer s H vs Q E hr h=> ?_)
 ·obtain⟨c,rfl,_⟩:=h
  rfl
 obtain⟨l,rfl,q⟩:=h
 refine⟨_,(A7 (B2 (S2 (kIn (K:=K) (w:=w)) (pv 0) (C7 (v:=.ref _) rfl m_TOLD_WORDS rfl) rfl))), ?_⟩
 refine⟨_,rfl,.inr (.inl ⟨tw,_,rfl,.inr (TW H),rfl,rfl, ?_⟩)⟩
 show Q (.bl (inV (.str (tx l)) _)) H
 rw[inV_told]
 exact q
end
theorem HJ(k n:Nat):decide ((k:Int)<(n:Int))=decide (k<n):=by rw[decide_eq_decide];omega
theorem aBZ{l:List Nat}{i c:Nat}(h:(tx l).cps[i]? =some c):l[i]? =some c:=by simpa using h
theorem ON{l:List Nat}{i c:Nat}(h:l[i]? =some c):atI (tx l).cps.toList (i:Int)=some c:=V5 h
theorem FT{α:Type}{l:List α}{i:Nat}{c:α}(h:l[i]? =some c):l.take (i+1)=l.take i++ [c]:=by rw[take_add_one,h];rfl
theorem TC(l:List Nat)(p:Nat->Bool):(l.map p).all id=l.all p:=by
 induction l with
 |nil=>rfl
 |cons c r ih=>simp[ih]
section
variable{P:Program}{w:World}{K:FZ}{mg:Str->Option Value}{base:Heap}{f:Addr}{fd:FuncData}{N4 DA:Addr}{N5 DB:FuncData}{tw:Addr}
inductive spNumW(vs:List V)(H:Hp)(Q:VK):Prop
 |mk:∀l,(vs=[.str (tx l)])->(l.length<=4000)->(∀H',Same H H'->Q (.bl (isNum l)) H')->spNumW vs H Q
def spNum:Sp:=λvs H Q _=>spNumW vs H Q
theorem ok_is_number(F:Fun K "is_number" "is_number" s_is_number f fd)(B:NoG mg){t1 t2:Tok}(m_LONGEST_NUMBER:mg "LONGEST_NUMBER"=some (.int 12 t1))(m_FIGURES:mg "FIGURES"=some (.str "0123456789" t2)):FnOk P w K mg base CX0 2 f fd CK spNum:=by
 refine F.ok MZ (λvs H Q E h=> ?_) (λcdv A outer s H vs Q E hr h=> ?_)
 ·obtain⟨c,rfl,_⟩:=h
  rfl
 obtain⟨l,rfl,hz,q⟩:=h
 have hu:=hr.units0
 have hzl:(tx l).length<=sizeLine:=by rw[L5];exact le_trans hz (by decide)
 refine⟨_,(A1 (L6 (C5 (PW.pt (HZ (B0 (kEq (K:=K) hu) (pv 0) A9 rfl) (MB (B0 X3 (C8 (P6 (K:=K)) rfl B.len_ M3 (A0 (pv 0) A3)) (C7 (v:=.int 12) rfl m_LONGEST_NUMBER ⟨_,rfl⟩) rfl)))) (A7 (B2 BR)) B5))
   (A7 (B2 (YI (C8 (bOZ (K:=K) rfl) rfl B.all_ aeZ (A0 (EE (cS (N:=FY) (sc:=A5 s_is_number) (caps:=[]) (ns:=[])) rfl rfl rfl (ZU (pv 0)) (λ_ _ _ _ _=>X8) (λ_ _ _ _ _=>(S2 op_in_str (pv 0) (C7 (v:=.str "0123456789") rfl m_FIGURES ⟨_,rfl⟩) rfl))) A3)) (LT (bMZ (S2 (kNe (K:=K) hu) (IZ ix_str (pv 0) A4 (λ_ _=>rfl)) A9 rfl) (LT (S2 (kEq (K:=K) hu) (pv 0) A9 rfl)))))))), ?_⟩
 refine⟨fun σ' H'=>σ'=[some (.str (tx l))]/\H=H'/\(decide (l=[])||decide (12<l.length))=false, ?_, ?_⟩
 ·refine Dec.or (a:=decide (l=[])) (b:=decide (12<l.length)) (λQ hq=>⟨_,rfl,.inl ⟨rfl,_,rfl,by rw[eq_lit (l:=[]) (by decide)];exact hq⟩⟩)
   (λQ hq=>⟨_,rfl,_,l.length,rfl,⟨hzl,(L5 l).symm⟩,_,_,rfl,rfl,_,rfl,by rw[show decide ((12:Int)<(l.length:Int))=decide (12<l.length)from HJ 12 l.length];exact hq⟩) _ ?_
  ·cases hb:(decide (l=[])||decide (12<l.length))with
   |true=>
    refine ifT rfl ?_
    have:=q H .refl
    unfold isNum at this
    rw[hb]at this
    exact this
   |false=>exact ifF (by decide) ⟨rfl,rfl,rfl⟩
 ·rintro σ' H' ⟨rfl,rfl,hb⟩
  refine⟨_,rfl,tx l,rfl,OD (z:=tx l) (λi ys H'=>H=H'/\ys=(l.take i).map λc=>V.bl (figure c)) ⟨rfl,rfl⟩ ?_ ?_ ?_⟩
  ·rintro i ys H' hi ⟨_,rfl⟩
   rw[length_map,length_take]
   have:(4000:Nat)<=sizeLine:=by decide
   omega
  ·rintro i c ys H' hc ⟨rfl,rfl⟩
   refine BH ?_
   refine⟨_,rfl,_,_,rfl,rfl,rfl, ?_⟩
   rw[FT (aBZ hc),map_append]
   show _=_++ [V.bl (figure c)]
   rw[<-IS c]
  ·rintro ys H' ⟨rfl,rfl⟩ D hD
   have hbs:(List.map (λc=>V.bl (figure c)) (List.take (tx l).length l))=(l.map figure).map V.bl:=by
    rw[L5,take_length,map_map];rfl
   rw[hbs]
   refine⟨D,l.map figure,rfl,SqL.of A2,_,rfl, ?_⟩
   rw[TC]
   have q1:=q _ (A6 hD (.lst ((l.map figure).map V.bl)))
   unfold isNum at q1
   rw[hb]at q1
   cases l with
   |nil=>simp at hb
   |cons c r=>
    cases ha:(c::r).all figure with
    |false=>rw[ha]at q1;exact ifF (by decide) q1
    |true=>
     rw[ha]at q1
     refine ifT rfl ?_
     refine⟨_,rfl,tx (c::r),0,c,rfl,rfl,hzl,ON (i:=0) rfl, ?_⟩
     refine .inl ⟨rfl,_,rfl, ?_⟩
     have e1:(!decide (V.str ⟨#[c]⟩=V.str (Str.ofString "0")))= !decide ((c::r).head? =some 48):=by
      have:=eq_lit (s:="0") (l:=[48]) (w:=[c]) (by decide)
      rw[show V.str ⟨#[c]⟩=V.str (tx [c])from rfl,this]
      simp
     rw[e1]
     cases h48:(!decide ((c::r).head? =some 48))with
     |true=>rw[h48]at q1;exact ifT rfl q1
     |false=>
      rw[h48]at q1
      refine ifF (by decide) ⟨_,rfl,.inl ⟨rfl, ?_⟩⟩
      rw[eq_lit (l:=[48]) (by decide)]
      exact q1
inductive spNameW (vs:List V) (H:Hp) (Q:VK):Prop
 |mk:∀l,(vs=[.str (tx l)])->(l.length<=4000)->(∀H',Same H H'->Q (.bl (isName l)) H')->spNameW vs H Q
def spName:Sp:=λvs H Q _=>spNameW vs H Q
theorem ok_is_name(F:Fun K "is_name" "is_name" s_is_name f fd)(B:NoG mg){t1 t2:Tok}(m_LONGEST_NAME:mg "LONGEST_NAME"=some (.int 8 t1))(m_LETTERS:mg "LETTERS"=some (.str "abcdefghijklmnopqrstuvwxyz" t2))
  (E7:Cn P w K mg base CX0 1 "in_long_word" GR LS)
  (U5:Cn P w K mg base CX0 1 "is_told" CK FF):FnOk P w K mg base CX0 2 f fd CK spName:=by
 obtain⟨N4,N5,E7,P5,P2,P3⟩:=E7
 obtain⟨DA,DB,U5,EX,EY,FA⟩:=U5
 refine F.ok SR (λvs H Q E h=> ?_) (λcdv A outer s H vs Q E hr h=> ?_)
 ·obtain⟨c,rfl,_⟩:=h
  rfl
 obtain⟨l,rfl,hz,q⟩:=h
 have hu:=hr.units0
 have hzl:(tx l).length<=sizeLine:=by rw[L5];exact le_trans hz (by decide)
 refine⟨_,(A1 (L6 (C5 (PW.pt (HZ (B0 (kEq (K:=K) hu) (pv 0) A9 rfl) (HZ (B0 X3 (C8 (P6 (K:=K)) rfl B.len_ M3 (A0 (pv 0) A3)) (C7 (v:=.int 8) rfl m_LONGEST_NAME ⟨_,rfl⟩) rfl) (MB (O3 (K:=K) (C3 U5 (hr.mono (by omega)) rfl FA EY EX .nil C6 (A0 (pv 0) A3)) (λ_=>rfl)))))) (A7 (B2 BR)) B5))
   (A7 (B2 (YI (S2 op_in_str (IZ ix_str (pv 0) A4 (λ_ _=>rfl)) (C7 (v:=.str "abcdefghijklmnopqrstuvwxyz") rfl m_LETTERS ⟨_,rfl⟩) rfl) (LT (C8 (bOZ (K:=K) rfl) rfl B.all_ aeZ (A0 (EE (cS (N:=KL) (sc:=A5 s_is_name) (caps:=[]) (ns:=[])) rfl rfl rfl (ZU (pv 0)) (λ_ _ _ _ _=>X8) (λ_ _ _ _ _=>(C3 E7 (hr.mono (by omega)) rfl P3 P2 P5 .nil C6 (A0 (pv 0) A3)))) A3))))))), ?_⟩
 refine⟨fun σ' H'=>σ'=[some (.str (tx l))]/\H=H'/\(decide (l=[])||decide (8<l.length)||told l)=false, ?_, ?_⟩
 ·rw[Bool.or_assoc]
  refine Dec.or (a:=decide (l=[])) (b:=decide (8<l.length)||told l) (λQ hq=>⟨_,rfl,.inl ⟨rfl,_,rfl,by rw[eq_lit (l:=[]) (by decide)];exact hq⟩⟩)
   (Dec.or (a:=decide (8<l.length)) (b:=told l) (λQ hq=>⟨_,rfl,_,l.length,rfl,⟨hzl,(L5 l).symm⟩,_,_,rfl,rfl,_,rfl,by rw[show decide ((8:Int)<(l.length:Int))=decide (8<l.length)from HJ 8 l.length];exact hq⟩)
    (λQ hq=>⟨_,rfl,l,rfl,told l,rfl,hq⟩)) _ ?_
  rw[<-Bool.or_assoc]
  cases hb:(decide (l=[])||decide (8<l.length)||told l)with
  |true=>
   refine ifT rfl ?_
   have:=q H .refl
   unfold isName at this
   rw[hb]at this
   exact this
  |false=>exact ifF (by decide) ⟨rfl,rfl,rfl⟩
 ·rintro σ' H' ⟨rfl,rfl,hb⟩
  cases l with
  |nil=>simp at hb
  |cons c r=>
   refine⟨_,rfl,tx (c::r),0,c,rfl,rfl,hzl,ON (i:=0) rfl,_,_,rfl,rfl,_,rfl, ?_⟩
   rw[HQ]
   have q0:=q H .refl
   unfold isName at q0
   rw[hb]at q0
   have e0:(c::r).head?.elim false letter=letter c:=rfl
   rw[e0]at q0
   cases hlt:letter c with
   |false=>rw[hlt]at q0;exact ifF (by decide) q0
   |true=>
    refine ifT rfl ?_
    refine⟨_,rfl,tx (c::r),rfl,OD (z:=tx (c::r)) (λi ys H'=>H=H'/\ys=((c::r).take i).map λc=>V.bl (long c)) ⟨rfl,rfl⟩ ?_ ?_ ?_⟩
    ·rintro i ys H' hi ⟨_,rfl⟩
     rw[length_map,length_take]
     have:(4000:Nat)<=sizeLine:=by decide
     omega
    ·rintro i d ys H' hc ⟨rfl,rfl⟩
     refine BH ?_
     refine⟨_,rfl,d,rfl,rfl, ?_⟩
     rw[FT (aBZ hc),map_append]
     rfl
    ·rintro ys H' ⟨rfl,rfl⟩ D hD
     have hbs:(List.map (λc=>V.bl (long c)) (List.take (tx (c::r)).length (c::r)))=((c::r).map long).map V.bl:=by
      rw[L5,take_length,map_map];rfl
     rw[hbs]
     refine⟨D,(c::r).map long,rfl,SqL.of A2, ?_⟩
     rw[TC]
     have q1:=q _ (A6 hD (.lst (((c::r).map long).map V.bl)))
     unfold isName at q1
     rw[hb,e0,hlt]at q1
     exact q1
end
abbrev s_words:Stmt:=top 21
abbrev s_word_from:Stmt:=top 22
abbrev s_long_word_from:Stmt:=top 24
abbrev aNZ:List Str:=["text","found","place","word"]
theorem sc_words:FnScope aNZ ["text"] (A5 s_words):=fS
abbrev PM:List Str:=["text","place","sign"]
theorem sc_word_from:FnScope PM WF (A5 s_word_from):=fS
abbrev FP:List Str:=["text","place","end","word"]
theorem sc_long_word_from:FnScope FP WF (A5 s_long_word_from):=fS
theorem JS{c:Nat}(h:letter c=true):figure c=false:=by
 have h:=of_decide_eq_true h
 simp only[mem_cons,not_mem_nil,or_false]at h
 rcases h with rfl|rfl|rfl|rfl|rfl|rfl|rfl|rfl|rfl|rfl|rfl|rfl|rfl|rfl|rfl|rfl|rfl|rfl|rfl|rfl|rfl|rfl|rfl|rfl|rfl|rfl<;>decide
theorem KH{w:List Nat}(h:told w=true):w.length<=8/\∃c r,w=c::r/\letter c=true:=by
 have h:=of_decide_eq_true h
 simp only[toldW,mem_cons,not_mem_nil,or_false]at h
 rcases h with rfl|rfl|rfl|rfl|rfl|rfl|rfl|rfl|rfl|rfl|rfl|rfl|rfl<;>exact⟨by decide,_,_,rfl,by decide⟩
theorem aZZ{w:List Nat}(hn:w≠ [])(hl:w.all long=true):GM w=(isNum w||told w||isName w):=by
 cases w with
 |nil=>exact absurd rfl hn
 |cons c r=>
  have hlc:long c=true:=by simp at hl;exact hl.1
  have eg:GM (c::r)=if figure c then(c::r).all figure&&decide ((c::r).length<=12)&&(decide (c::r=[48])|| !decide (c=48))else decide ((c::r).length<=8):=rfl
  rw[eg]
  cases hf:figure c with
  |true=>
   have hnl:letter c=false:=by
    cases h:letter c with
    |false=>rfl
    |true=>rw[JS h]at hf;cases hf
   have h2:told (c::r)=false:=by
    cases h:told (c::r)with
    |false=>rfl
    |true=>
     obtain⟨_,d,s,e,hd⟩:=KH h
     cases e
     rw[hd]at hnl;cases hnl
   have h3:isName (c::r)=false:=by unfold isName;simp[hnl]
   rw[h2,h3,Bool.or_false,Bool.or_false,if_pos rfl]
   unfold isNum
   have e1:(!(decide (c::r=[])||decide (12<(c::r).length)))=decide ((c::r).length<=12):=by
    rw[Bool.eq_iff_iff];simp
   rw[e1]
   have e2:decide ((c::r).head? =some 48)=decide (c=48):=by rw[decide_eq_decide];simp
   rw[e2]
   cases(c::r).all figure<;>cases decide ((c::r).length<=12)<;>cases decide (c=48)<;>cases decide (c::r=[48])<;>rfl
  |false=>
   have hl1:letter c=true:=by unfold long at hlc;rw[hf,Bool.or_false]at hlc;exact hlc
   have h1:isNum (c::r)=false:=by unfold isNum;simp[hf]
   rw[h1,Bool.false_or,if_neg (by simp)]
   cases ht:told (c::r)with
   |true=>
    have:=(KH ht).1
    simp only[Bool.true_or,decide_eq_true_iff]
    exact this
   |false=>
    unfold isName
    rw[ht,hl]
    have e:(c::r).head?.elim false letter=true:=hl1
    rw[e]
    rw[Bool.eq_iff_iff];simp
theorem ZZ{t:List Nat}{n:Nat}(h:(t.take n).all long=true)(hs:∀c,t[n]? =some c->long c=false):t.takeWhile long=t.take n:=by
 induction t generalizing n with
 |nil=>simp
 |cons c r ih=>
  cases n with
  |zero=>
   have:=hs c rfl
   simp[this]
  |succ n=>
   simp only[take_succ_cons,all_cons,Bool.and_eq_true]at h
   rw[List.takeWhile_cons_of_pos h.1,take_succ_cons,ih h.2 (λd hd=>hs d (by simpa using hd))]
section
variable{P:Program}{w:World}{K:FZ}{mg:Str->Option Value}{base:Heap}{f:Addr}{fd:FuncData}{N4 DA O0 N3 AH FV:Addr}{N5 DB P4 O6 AG FU:FuncData}{tw cT:Addr}
inductive spLWW(cT:Addr)(vs:List V)(H:Hp)(Q:VK)(E:XK):Prop
 |mk:∀(l:List Nat) (i:Nat),(vs=[.str (tx l),.int i])->(i<l.length)->(l.length<=4000)->((∀c∈l,c<16^8))->((∀c,l[i]? =some c->long c=true))->(∀H',Same H H'->if GM ((l.drop i).takeWhile long)then Q (.str (tx ((l.drop i).takeWhile long))) H' else E (.ref cT) none H')->spLWW cT vs H Q E
def dZZ(cT:Addr):Sp:=λvs H Q E=>spLWW cT vs H Q E
theorem ok_long_word_from(F:Fun K "long_word_from" "long_word_from" s_long_word_from f fd)(B:NoG mg)(X_BadText:XCls K mg "BadText" cT)
  (E7:Cn P w K mg base CX0 1 "in_long_word" GR LS)
  (U5:Cn P w K mg base CX0 1 "is_told" CK FF)
  (M6:Cn P w K mg base CX0 2 "is_number" CK spNum)
  (L8:Cn P w K mg base CX0 2 "is_name" CK spName):
  FnOk P w K mg base (CXr P w) 3 f fd WF (dZZ cT):=by
 obtain⟨N4,N5,E7,P5,P2,P3⟩:=E7
 obtain⟨DA,DB,U5,EX,EY,FA⟩:=U5
 obtain⟨O0,P4,M6,V9,W5,W0⟩:=M6
 obtain⟨N3,O6,L8,T9,U1,U3⟩:=L8
 refine F.okX sc_long_word_from (λvs H Q E h=> ?_) (λcdv A outer s H vs Q E hr h=> ?_)
 ·obtain⟨l,i,rfl,_⟩:=h
  rfl
 obtain⟨l,i,rfl,hi,hz,hc8,hli,q⟩:=h
 have nd:=sc_long_word_from.nd
 have hu:=hr.units0
 have hzl:(tx l).length<=sizeLine:=by rw[L5];exact le_trans hz (by decide)
 refine⟨_,(A1 (B3 (i:=2) nd rfl (Or.inl rfl) (pv 1))
   (A1 (L6 (O4 PassesOwn.leaving (PW.pt (T4 (B0 GD (pv 2) (C8 (P6 (K:=K)) rfl B.len_ M3 (A0 (pv 0) A3)) rfl) (S0 (O3 (K:=K) (C3 E7 (hr.mono (by omega)) rfl P3 P2 P5 .nil C6 (A0 (IZ ix_str (pv 0) (pv 2) (λ_ _=>rfl)) A3)) (λ_=>rfl))))) (A7 (CN (i:=2) nd rfl (Or.inl rfl) A4 DY))))
   (A1 (B3 (i:=3) nd rfl (Or.inl rfl) (N9 apZ (pv 0) (O2 (pv 1)) (O2 (pv 2))))
   (A1 (L6 (C5 (PW.pt (T4 (LV (O3 (K:=K) (C3 M6 (hr.mono (by omega)) rfl W0 W5 V9 .nil C6 (A0 (pv 3) A3)) (λ_=>rfl))) (T4 (LV (O3 (K:=K) (C3 U5 (hr.mono (by omega)) rfl FA EY EX .nil C6 (A0 (pv 3) A3)) (λ_=>rfl))) (S0 (LV (O3 (K:=K) (C3 L8 (hr.mono (by omega)) rfl U3 U1 T9 .nil C6 (A0 (pv 3) A3)) (λ_=>rfl))))))) (A7 (M8 PySem.F.excBase_ValueError (by decide) X_BadText.q rfl X_BadText.m (A0 (Q4 (D6 (DI (pv 3)) (D6 (M4 (by decide)) V1))) A3))) B5))
   (A7 (B2 (pv 3))))))), ?_⟩
 refine⟨_,rfl, ?_⟩
 refine⟨fun σ' H'=>∃e:Nat,σ'=[some (.str (tx l)),some (.int i),some (.int e),none]/\H=H'/\i<=e/\e<=l.length/\(l.drop i).takeWhile long=(l.drop i).take (e - i), ?_, ?_⟩
 ·refine⟨λm σ H'=>∃(e:Nat),σ=[some (.str (tx l)),some (.int i),some (.int e),none]/\H=H'/\i<=e/\e<=l.length/\((l.drop i).take (e - i)).all long=true/\m=l.length - e,
   ⟨l.length - i,i,rfl,rfl,le_refl _,le_of_lt hi,by simp,rfl⟩, ?_⟩
  rintro m σ H' ⟨e,rfl,rfl,hie,hel,hall,rfl⟩
  have done:(∀c,l[e]? =some c->long c=false)->(l.drop i).takeWhile long=(l.drop i).take (e - i):=λhs=>
   ZZ hall (λc hc=>hs c (by rw[List.getElem?_drop]at hc;rw[<-hc];congr 1;omega))
  refine⟨_,rfl,_,rfl,_,l.length,rfl,⟨hzl,(L5 l).symm⟩,_,_,rfl,rfl,_,rfl, ?_⟩
  rw[HJ]
  by_cases he:e<l.length
  ·rw[decide_eq_true he]
   refine ifT rfl ?_
   have hce:l[e]? =some l[e]:=List.getElem?_eq_getElem he
   refine⟨_,rfl,_,rfl,tx l,e,l[e],rfl,rfl,hzl,ON hce,l[e],rfl,_,rfl, ?_⟩
   cases hlg:long l[e]with
   |false=>exact ifF (by decide) ⟨e,rfl,rfl,hie,hel,done λc hc=>by rw[hce]at hc;cases hc;exact hlg⟩
   |true=>
    refine ifT rfl ⟨_,λ_ _ h=>h, ?_⟩
    refine⟨_,rfl,_,_,rfl,rfl,l.length - (e+1),by omega,e+1,rfl,rfl,by omega,he, ?_,rfl⟩
    have e1:e+1 - i=(e - i)+1:=by omega
    have e2:(l.drop i)[e - i]? =some l[e]:=by rw[List.getElem?_drop,<-hce];congr 1;omega
    rw[e1,FT e2,List.all_append,hall]
    simp[hlg]
  ·rw[decide_eq_false he]
   refine ifF (by decide) ?_
   exact ifF (by decide) ⟨e,rfl,rfl,hie,hel,done λc hc=>by rw[getElem?_eq_none (by omega)]at hc;cases hc⟩
 ·rintro σ' H' ⟨e,rfl,rfl,hie,hel,hrun⟩
  refine⟨_,rfl,_,rfl,_,rfl,_,rfl,_,rfl,tx l,rfl,hzl, ?_⟩
  rw[FW hie (le_of_lt hi),<-hrun]
  have hwl:((l.drop i).takeWhile long).length<=4000:=le_trans (takeWhile_sublist _).length_le (by rw[length_drop];omega)
  have hw0:(l.drop i).takeWhile long≠ []:=by
   have hd:l.drop i=l[i]::l.drop (i+1):=drop_eq_getElem_cons hi
   rw[hd,List.takeWhile_cons_of_pos (hli _ (List.getElem?_eq_getElem hi))]
   simp
  have hwa:((l.drop i).takeWhile long).all long=true:=List.all_takeWhile
  have hw8:∀c∈(l.drop i).takeWhile long,c<16^8:=λc hc=>hc8 c (List.mem_of_mem_drop ((takeWhile_sublist _).subset hc))
  have hg:=aZZ hw0 hwa
  revert hwl hw8 hg q
  generalize(l.drop i).takeWhile long=w
  intro q hwl hw8 hg
  have hwz:(reprText (tx w)).length<=1000000:=le_trans (BI hw8) (by omega)
  refine⟨fun σ' H'=>σ'=[some (.str (tx l)),some (.int i),some (.int e),some (.str (tx w))]/\Same H H'/\GM w=true, ?_, ?_⟩
  ·refine⟨_,rfl,w,rfl,hwl,λH1 s1=>⟨_,rfl, ?_⟩⟩
   cases h1:isNum w with
   |true=>exact ifF (by decide) (ifF (by decide) ⟨rfl,s1,by rw[hg,h1];rfl⟩)
   |false=>
    refine ifT (by decide) ⟨_,rfl,w,rfl,_,rfl, ?_⟩
    cases h2:told w with
    |true=>exact ifF (by decide) (ifF (by decide) ⟨rfl,s1,by rw[hg,h1,h2];rfl⟩)
    |false=>
     refine ifT (by decide) ⟨_,rfl,w,rfl,hwl,λH2 s2=>⟨_,rfl, ?_⟩⟩
     cases h3:isName w with
     |true=>exact ifF (by decide) ⟨rfl,s1.trans s2,by rw[hg,h1,h2,h3];rfl⟩
     |false=>
      refine ifT (by decide) ⟨_,rfl,tx w,rfl,hwz,λz hz=>⟨by show 1<=sizeLine;decide, ?_⟩⟩
      have:=q H2 (s1.trans s2)
      rw[hg,h1,h2,h3]at this
      exact this
  ·rintro σ' H' ⟨rfl,sm,gw⟩
   refine⟨_,rfl, ?_⟩
   have:=q H' sm
   rw[gw]at this
   exact this
end
theorem ZX(c:Nat):(!(Builtin.Str.occurrences (Str.ofString "(),=+-*/<:![]") (tx [c]) 0 (Str.ofString "(),=+-*/<:![]").length 1).isEmpty)=mark c:=MA (by decide +kernel) c
theorem aKZ(c:Nat):(!(Builtin.Str.occurrences (Str.ofString " \t\n") (tx [c]) 0 (Str.ofString " \t\n").length 1).isEmpty)=gap c:=MA (by decide +kernel) c
theorem XN{t w:List Nat}(h:wordAt t=some w):w.length<=t.length:=by
 cases t with
 |nil=>cases h
 |cons c r=>
  rw[wordAt_cons]at h
  split at h
  ·split at h
   ·cases h;exact(takeWhile_sublist _).length_le
   ·cases h
  ·split at h
   ·rename_i h2
    cases h
    have:=congrArg List.length h2
    rw[length_take]at this
    simp only[length_cons,length_nil]at this⊢
    omega
   ·split at h
    ·cases h;simp
    ·cases h
section
variable{P:Program}{w:World}{K:FZ}{mg:Str->Option Value}{base:Heap}{f:Addr}{fd:FuncData}{N4 AH FV:Addr}{N5 AG FU:FuncData}{cT:Addr}
inductive spWFW(cT:Addr)(vs:List V)(H:Hp)(Q:VK)(E:XK):Prop
 |mk:∀(l:List Nat) (i:Nat),(vs=[.str (tx l),.int i])->(i<l.length)->(l.length<=4000)->((∀c∈l,c<16^8))->(∀H',Same H H'->(∀x,wordAt (l.drop i)=some x->Q (.str (tx x)) H')/\(wordAt (l.drop i)=none->E (.ref cT) none H'))->spWFW cT vs H Q E
def dJZ(cT:Addr):Sp:=λvs H Q E=>spWFW cT vs H Q E
theorem ok_word_from(F:Fun K "word_from" "word_from" s_word_from f fd)(B:NoG mg)(X_BadText:XCls K mg "BadText" cT){t1:Tok}(m_MARKS:mg "MARKS"=some (.str "(),=+-*/<:![]" t1))
  (E7:Cn P w K mg base CX0 1 "in_long_word" GR LS)
  (T7:Cn P w K mg base (CXr P w) 3 "long_word_from" WF (dZZ cT)):
  FnOk P w K mg base (CXr P w) 4 f fd WF (dJZ cT):=by
 obtain⟨N4,N5,E7,P5,P2,P3⟩:=E7
 obtain⟨AH,AG,T7,EW,EV,EU⟩:=T7
 refine F.okX sc_word_from (λvs H Q E h=> ?_) (λcdv A outer s H vs Q E hr h=> ?_)
 ·obtain⟨l,i,rfl,_⟩:=h
  rfl
 obtain⟨l,i,rfl,hi,hz,hc8,q⟩:=h
 have nd:=sc_word_from.nd
 have hu:=hr.units0
 have hzl:(tx l).length<=sizeLine:=by rw[L5];exact le_trans hz (by decide)
 have hce:l[i]? =some l[i]:=List.getElem?_eq_getElem hi
 have hd:l.drop i=l[i]::l.drop (i+1):=drop_eq_getElem_cons hi
 have hwa:=wordAt_cons l[i] (l.drop (i+1))
 rw[<-hd]at hwa
 refine⟨_,(A1 (B3 (i:=2) nd rfl (Or.inl rfl) (IZ ix_str (pv 0) (pv 1) (λ_ _=>rfl)))
   (A1 (C5 (O3 (K:=K) (C3 E7 (hr.mono (by omega)) rfl P3 P2 P5 .nil C6 (A0 (pv 2) A3)) (λ_=>rfl)) (A7 (B2 (C3 T7 (hr.mono (by omega)) rfl EU EV EW .nil B6 (A0 (pv 0) (A0 (pv 1) A3))))) B5)
   (A1 (C5 (B0 (kEq (K:=K) hu) (N9 apZ (pv 0) (O2 (pv 1)) (O2 (A8 D3 (pv 1) A4))) A9 rfl) (A7 (B2 A9)) B5)
   (A1 (C5 (B0 op_in_str (pv 2) (C7 (v:=.str "(),=+-*/<:![]") rfl m_MARKS ⟨_,rfl⟩) rfl) (A7 (B2 (pv 2))) B5)
   (A7 (M8 PySem.F.excBase_ValueError (by decide) X_BadText.q rfl X_BadText.m (A0 (Q4 (D6 (M4 (by decide)) (D6 (DI (pv 2)) V1))) A3))))))), ?_⟩
 refine⟨_,rfl,_,rfl,tx l,i,l[i],rfl,rfl,hzl,ON hce, ?_⟩
 refine⟨_,rfl,l[i],rfl,_,rfl, ?_⟩
 cases hlg:long l[i]with
 |true=>
  refine ifT rfl ⟨_,rfl,_,rfl,l,i,rfl,hi,hz,hc8,λc hc=>by rw[hce]at hc;cases hc;exact hlg,λH' sm=> ?_⟩
  obtain⟨q1,q2⟩:=q H' sm
  rw[if_pos hlg]at hwa
  split
  ·rename_i hg
   rw[if_pos hg]at hwa
   exact q1 _ hwa
  ·rename_i hg
   rw[if_neg hg]at hwa
   exact q2 hwa
 |false=>
  refine ifF (by decide) ?_
  obtain⟨q1,q2⟩:=q H .refl
  rw[if_neg (by rw[hlg];decide)]at hwa
  refine⟨_,rfl,_,rfl,_,rfl,_,rfl,.inl ⟨_,_,rfl,rfl,_,rfl,tx l,rfl,hzl,.inl ⟨rfl,_,rfl, ?_⟩⟩⟩
  have es:Txt.slice (tx l) (some (i:Int)) (some ((i:Int)+2))=tx ((l.drop i).take 2):=by
   have:=FW (l:=l) (a:=i) (b:=i+2) (by omega) (le_of_lt hi)
   rw[show i+2 - i=2 by omega]at this
   exact this
  rw[es,eq_lit (l:=[61,62]) (by decide +kernel)]
  by_cases h2:(l.drop i).take 2=[61,62]
  ·rw[if_pos h2]at hwa
   rw[decide_eq_true h2]
   exact ifT rfl (q1 _ hwa)
  ·rw[if_neg h2]at hwa
   rw[decide_eq_false h2]
   refine ifF (by decide) ⟨_,rfl,_,_,rfl,rfl,_,rfl, ?_⟩
   rw[ZX]
   cases hm:mark l[i]with
   |true=>
    rw[if_pos hm]at hwa
    exact ifT rfl ⟨_,rfl,q1 _ hwa⟩
   |false=>
    rw[if_neg (by rw[hm];decide)]at hwa
    have hr1:(reprText (tx [l[i]])).length<=1000000:=le_trans (BI (λc hc=>by
     have e:c=l[i]:=by simpa using hc
     rw[e];exact hc8 _ (getElem_mem hi))) (by simp)
    exact ifF (by decide) ⟨_,rfl,tx [l[i]],rfl,hr1,λz hz=>⟨by show 1<=sizeLine;decide,q2 hwa⟩⟩
inductive spWordsW (cT:Addr) (vs:List V) (H:Hp) (Q:VK) (E:XK):Prop
 |mk:∀(l:List Nat),(vs=[.str (tx l)])->(l.length<=100000)->((∀c∈l,c<16^8))->(∀H',Same H H'->(∀ws r,l.length<=4000->words l=some ws->H r=none->H' r=some (.lst (ws.map λx=>V.str (tx x)))->Q (.ref r) H')/\((4000<l.length\/words l=none)->E (.ref cT) none H'))->spWordsW cT vs H Q E
def spWords(cT:Addr):Sp:=λvs H Q E=>spWordsW cT vs H Q E
theorem ok_words(F:Fun K "words" "words" s_words f fd)(B:NoG mg)(X_BadText:XCls K mg "BadText" cT){t1 t2:Tok}(m_LONGEST_TEXT:mg "LONGEST_TEXT"=some (.int 4000 t1))(m_GAPS:mg "GAPS"=some (.str " \t\n" t2))
  (BX:Cn P w K mg base (CXr P w) 4 "word_from" WF (dJZ cT)):
  FnOk P w K mg base (CXr P w) 5 f fd ["text"] (spWords cT):=by
 obtain⟨FV,FU,BX,NM,NP,NJ⟩:=BX
 refine F.okX sc_words (λvs H Q E h=> ?_) (λcdv A outer s H vs Q E hr h=> ?_)
 ·obtain⟨l,rfl,_⟩:=h
  rfl
 obtain⟨l,rfl,hz,hc8,q⟩:=h
 have nd:=sc_words.nd
 have hu:=hr.units0
 have hzl:(tx l).length<=sizeLine:=by rw[L5];exact le_trans hz (by decide)
 refine⟨_,(A1 (C5 (B0 X3 (C8 (P6 (K:=K)) rfl B.len_ M3 (A0 (pv 0) A3)) (C7 (v:=.int 4000) rfl m_LONGEST_TEXT ⟨_,rfl⟩) rfl) (A7 (M8 PySem.F.excBase_ValueError (by decide) X_BadText.q rfl X_BadText.m (A0 (Q4 (D6 (M4 (by decide)) (D6 (CY (C7 (v:=.int 4000) rfl m_LONGEST_TEXT ⟨_,rfl⟩)) (D6 (M4 (by decide)) V1)))) A3))) B5)
   (A1 (B3 (i:=1) nd rfl (Or.inl rfl) (J5 A3))
   (A1 (B3 (i:=2) nd rfl (Or.inl rfl) A4)
   (A1 (L6 (O4 PassesOwn.leaving (B0 GD (pv 2) (C8 (P6 (K:=K)) rfl B.len_ M3 (A0 (pv 0) A3)) rfl) (A7 (L6 (C5 (B0 op_in_str (IZ ix_str (pv 0) (pv 2) (λ_ _=>rfl)) (C7 (v:=.str " \t\n") rfl m_GAPS ⟨_,rfl⟩) rfl) (A7 (CN (i:=2) nd rfl (Or.inl rfl) A4 DY)) (A1 (B3 (i:=3) nd rfl (Or.inl rfl) (C3 BX (hr.mono (by omega)) rfl NJ NP NM .nil B6 (A0 (pv 0) (A0 (pv 2) A3))))
   (A1 (E3 (CP (K:=K) PySem.F.plainAttrs_list PySem.F.slot_list_append PySem.F.type_list_append Q0 (pv 1) (A0 (pv 3) A3)))
   (A7 (CN (i:=2) nd rfl (Or.inl rfl) (C8 (P6 (K:=K)) rfl B.len_ M3 (A0 (pv 3) A3)) DY)))))))))
   (A7 (B2 (pv 1))))))), ?_⟩
 refine⟨_,rfl,_,l.length,rfl,⟨hzl,(L5 l).symm⟩,_,_,rfl,rfl,_,rfl, ?_⟩
 rw[show decide ((4000:Int)<(l.length:Int))=decide (4000<l.length)from HJ 4000 l.length]
 by_cases h4:4000<l.length
 ·rw[decide_eq_true h4]
  exact ifT rfl ⟨4000,rfl,by decide,by decide +kernel,λz hz=>⟨by show 1<=sizeLine;decide,(q H .refl).2 (.inl h4)⟩⟩
 rw[decide_eq_false h4]
 have h4:l.length<=4000:=by omega
 refine ifF (by decide) ⟨(by show 0<=sizeLine;decide),λr hr0=> ?_⟩
 refine⟨fun σ' H'=>∃ws z,σ'=[some (.str (tx l)),some (.ref r),some (.int l.length),z]/\Same H H'/\H' r=some (.lst (ws.map λx=>V.str (tx x)))/\words l=some ws, ?_, ?_⟩
 ·refine⟨λm σ H'=>∃(p:Nat) (acc:List (List Nat)) (z:Option V),σ=[some (.str (tx l)),some (.ref r),some (.int p),z]/\Same H H'/\H' r=some (.lst (acc.map λx=>V.str (tx x)))/\p<=l.length/\acc.length<=p/\words l=(words (l.drop p)).map (acc++·)/\m=l.length - p,
   ⟨l.length,0,[],none,rfl,A6 hr0 _,A2,zero_le _,le_refl _,by simp,rfl⟩, ?_⟩
  rintro m σ H' ⟨p,acc,z,rfl,sm,hrr,hp,hac,hws,rfl⟩
  refine⟨_,rfl,_,rfl,_,l.length,rfl,⟨hzl,(L5 l).symm⟩,_,_,rfl,rfl,_,rfl, ?_⟩
  rw[HJ]
  by_cases hpl:p<l.length
  ·rw[decide_eq_true hpl]
   have hce:l[p]? =some l[p]:=List.getElem?_eq_getElem hpl
   have hd:l.drop p=l[p]::l.drop (p+1):=drop_eq_getElem_cons hpl
   refine ifT rfl ⟨_,λ_ _ h=>h, ?_⟩
   refine⟨_, ?_,λ_ _ h=>h⟩
   refine⟨_,rfl,_,rfl,tx l,p,l[p],rfl,rfl,hzl,ON hce,_,_,rfl,rfl,_,rfl, ?_⟩
   rw[aKZ]
   cases hg:gap l[p]with
   |true=>
    refine ifT rfl ?_
    refine⟨_,rfl,_,_,rfl,rfl,l.length - (p+1),by omega,p+1,acc,z,rfl,sm,hrr,hpl,by omega, ?_,rfl⟩
    rw[hws,hd,words_gap hg]
   |false=>
    refine ifF (by decide) ?_
    refine⟨_,rfl,_,rfl,l,p,rfl,hpl,h4,hc8,λH1 s1=>⟨λx hx=> ?_,λhx=> ?_⟩⟩
    ·have hx0:=wordAt_pos hx
     have hxl:p+x.length<=l.length:=by
      have:=XN hx
      rw[length_drop]at this
      omega
     rw[hd]at hx
     have hr1:=s1 _ _ hrr
     refine⟨_,rfl,.inl ⟨rfl,_,SqL.of hr1⟩,_,rfl,r,_,_,rfl,rfl,hr1, ?_, ?_⟩
     ·rw[length_map];have:(4000:Nat)<sizeLine:=by decide
      omega
     ·refine⟨_,rfl,_,rfl,_,x.length,rfl,⟨?_,(L5 x).symm⟩,_,_,rfl,rfl,l.length - (p+x.length),by omega,p+x.length,acc++ [x],_,rfl,λb o e=> ?_, ?_,hxl,by simp;omega, ?_,rfl⟩
      ·rw[L5];have:(4000:Nat)<=sizeLine:=by decide
       omega
      ·rw[C1 (B8 e hr0)]
       exact s1 _ _ (sm _ _ e)
      ·rw[A2];simp
      ·rw[hws,hd,words_word hg hx,<-hd,List.drop_drop]
       cases words (l.drop (p+x.length))<;>simp
    ·rw[hd]at hx
     refine(q H1 (sm.trans s1)).2 (.inr ?_)
     rw[hws,hd,IE hg hx];rfl
  ·rw[decide_eq_false hpl]
   have e:p=l.length:=by omega
   subst e
   refine ifF (by decide) ⟨acc,z,rfl,sm,hrr, ?_⟩
   rw[hws,drop_length,VQ];simp
 ·rintro σ' H' ⟨ws,z,rfl,sm,hrr,hws⟩
  exact⟨_,rfl,(q H' sm).1 ws r h4 hws hr0 hrr⟩
end
end K10
namespace K15
open PySem L2
inductive Fo where
 |nil
 |cons (k r:Fo)
namespace Fo
def depth:Fo->Nat
 | .nil=>0
 | .cons k r=>max (k.depth+1) r.depth
def size:Fo->Nat
 | .nil=>0
 | .cons k r=>k.size+1+r.size
def len:Fo->Nat
 | .nil=>0
 | .cons _ r=>r.len+1
def app:Fo->Fo->Fo
 | .nil,g=>g
 | .cons k r,g=> .cons k (r.app g)
def kids:Fo->Fo
 | .nil=> .nil
 | .cons k r=>k.app r.kids
theorem KJ:∀f g:Fo,(f.app g).depth=max f.depth g.depth
 | .nil,g=>by simp[app,depth]
 | .cons k r,g=>by simp only[app,depth,KJ r g];omega
theorem size_app:∀f g:Fo,(f.app g).size=f.size+g.size
 | .nil,g=>by simp[app,size]
 | .cons k r,g=>by simp only[app,size,size_app r g];omega
theorem app_nil:∀f:Fo,f.app .nil=f
 | .nil=>rfl
 | .cons k r=>by rw[app,app_nil r]
theorem app_assoc:∀f g h:Fo,(f.app g).app h=f.app (g.app h)
 | .nil,_,_=>rfl
 | .cons k r,g,h=>by rw[app,app,app,app_assoc r g h]
theorem size_kids:∀f:Fo,f.size=f.len+f.kids.size
 | .nil=>rfl
 | .cons k r=>by simp only[size,len,kids,size_app,size_kids r];omega
theorem depth_kids:∀f:Fo,(f=.nil/\f.depth=0)\/f.depth=f.kids.depth+1
 | .nil=> .inl ⟨rfl,rfl⟩
 | .cons k r=>by
  right
  simp only[depth,kids,KJ]
  rcases depth_kids r with⟨rfl,h⟩|h
  ·simp only[depth,kids];omega
  ·omega
theorem len_le:∀f:Fo,f.len<=f.size
 | .nil=>le_refl _
 | .cons k r=>by have:=len_le r;simp only[size,len];omega
end Fo
def Tups(H H':Hp):Prop:=∀b xs,H b=some (.tup xs)->H' b=some (.tup xs)
theorem Tups.trans{H H1 H2:Hp}(a:Tups H H1)(b:Tups H1 H2):Tups H H2:=λc xs h=>b c xs (a c xs h)
theorem Tups.lst{H:Hp}{p:Addr}{xs:List V}(h:H p=some (.lst xs))(o:HO):Tups H (upd H p o):=λb ys q=>by
 rw[C1 (KD q h (by intro z;cases z))];exact q
theorem tups_of{H H':Hp}(h:Same H H'):Tups H H':=λb xs q=>h b _ q
inductive Shape (H:Hp):List V->List V->Prop where
 |num (i:Int):Shape H [.str "number",.int i] []
 |truth (b:Bool):Shape H [.str "truth",.bl b] []
 |non:Shape H [.str "none"] []
 |name (x:Str):Shape H [.str "name",.str x] []
 |call (x:Str) {c:Addr} {ps:List V}:H c=some (.tup ps)->Shape H [.str "call",.str x,.ref c] ps
 |one (x:Str) (a:Addr):Shape H [.str "one",.str x,.ref a] [.ref a]
 |two (x:Str) (a b:Addr):Shape H [.str "two",.str x,.ref a,.ref b] [.ref a,.ref b]
 |if_ (a b c:Addr):Shape H [.str "if",.ref a,.ref b,.ref c] [.ref a,.ref b,.ref c]
 |let_ (x:Str) (a b:Addr):Shape H [.str "let",.str x,.ref a,.ref b] [.ref a,.ref b]
 |fn (x:Str) (a:Addr):Shape H [.str "fn",.str x,.ref a] [.ref a]
 |do_ (a b:Addr):Shape H [.str "do",.ref a,.ref b] [.ref a,.ref b]
theorem Shape.mono{H H':Hp}{xs ps:List V}(h:Shape H xs ps)(t:Tups H H'):Shape H' xs ps:=by
 cases h with
 |num i=>exact .num i
 |truth b=>exact .truth b
 |non=>exact .non
 |name x=>exact .name x
 |call x hc=>exact .call x (t _ _ hc)
 |one x a=>exact .one x a
 |two x a b=>exact .two x a b
 |if_ a b c=>exact .if_ a b c
 |let_ x a b=>exact .let_ x a b
 |fn x a=>exact .fn x a
 |do_ a b=>exact .do_ a b
inductive FAt (H:Hp):List V->Fo->Prop where
 |nil:FAt H [] .nil
 |cons {a:Addr} {xs ps vs:List V} {k r:Fo}:H a=some (.tup xs)->Shape H xs ps->FAt H ps k->FAt H vs r->FAt H (.ref a::vs) (.cons k r)
theorem FAt.mono{H H':Hp}{vs:List V}{f:Fo}(h:FAt H vs f)(t:Tups H H'):FAt H' vs f:=by
 induction h with
 |nil=>exact .nil
 |cons ha hs _ _ ih1 ih2=>exact .cons (t _ _ ha) (hs.mono t) ih1 ih2
theorem FAt.app{H:Hp}{vs ws:List V}{f g:Fo}(h:FAt H vs f)(h':FAt H ws g):FAt H (vs++ws) (f.app g):=by
 induction h with
 |nil=>exact h'
 |cons ha hs hk _ _ ih=>exact .cons ha hs hk ih
theorem FAt.len{H:Hp}{vs:List V}{f:Fo}(h:FAt H vs f):vs.length=f.len:=by
 induction h with
 |nil=>rfl
 |cons _ _ _ _ _ ih=>simp only[length_cons,Fo.len,ih]
end K15
namespace K15
open PySem L2
seal PE PT PW PA PS PSs PTs PI PG PGs PO
def top(i:Nat):Stmt:=PySem.Challenge.pw_speakmill_k14_no_program.main.body.getD i (.Pass ⟨0,0,0,0⟩)
abbrev s_parts_of:Stmt:=top 8
abbrev s_depth_of:Stmt:=top 9
abbrev s_size_of:Stmt:=top 10
abbrev s_parts_of_all:Stmt:=top 11
abbrev RV:List Str:=["term","form"]
theorem sc_parts_of:FnScope RV ["term"] (A5 s_parts_of):=fS
abbrev RT:List Str:=["term","depth","level"]
theorem sc_depth_of:FnScope RT ["term"] (A5 s_depth_of):=fS
abbrev WA:List Str:=["term","size","level"]
theorem sc_size_of:FnScope WA ["term"] (A5 s_size_of):=fS
abbrev HW:List Str:=["terms","found","term"]
theorem sc_parts_of_all:FnScope HW ["terms"] (A5 s_parts_of_all):=fS
structure NoG (mg:Str->Option Value):Prop where
 len_:mg "len"=none
 max_:mg "max"=none
 min_:mg "min"=none
 isinstance_:mg "isinstance"=none
 range_:mg "range"=none
 list_:mg "list"=none
 tuple_:mg "tuple"=none
 int_:mg "int"=none
 bool_:mg "bool"=none
def PF:List (Str×V):=[("two",.int 2),("one",.int 2),("if",.int 1),("let",.int 2),("fn",.int 2),("do",.int 1)]
theorem A6{H:Hp}{p:Addr}(h:H p=none)(o:HO):Same H (upd H p o):=λb u q=>by rw[C1 (B8 q h)];exact q
section
variable{P:Program}{w:World}{K:FZ}{mg:Str->Option Value}{base:Heap}{f:Addr}{fd:FuncData}{HE Y1:Addr}{HF Y2:FuncData}{pf:Addr}
inductive spPartsW(vs:List V)(H:Hp)(Q:VK):Prop
 |mk:∀a xs ps,(vs=[.ref a])->(H a=some (.tup xs))->(Shape H xs ps)->(ps.length<=1000)->(∀r H',Same H H'->H r=none->H' r=some (.lst ps)->Q (.ref r) H')->spPartsW vs H Q
def TV:Sp:=λvs H Q _=>spPartsW vs H Q
theorem ifT{c A B:Prop}[Decidable c](h:c)(a:A):if c then A else B:=by rw[if_pos h];exact a
theorem ifF{c A B:Prop}[Decidable c](h:¬c)(b:B):if c then A else B:=by rw[if_neg h];exact b
theorem notWhole{n k:Nat}(hk:0<k)(hn:0<n)(o:Option Int):¬(HT.sIx n 0 (some (k:Int))=0/\HT.sIx n n o=n):=by
 rw[HT.sIx_nat]
 omega
theorem ok_parts_of(F:Fun K "parts_of" "parts_of" s_parts_of f fd)(B:NoG mg)(TD:TopD w K pf PF)(m_PARTS_FROM:mg "PARTS_FROM"=some (.ref pf)):FnOk P w K mg base CX0 1 f fd ["term"] TV:=by
 refine F.ok sc_parts_of (λvs H Q E h=> ?_) (λcdv A outer s H vs Q E hr h=> ?_)
 ·obtain⟨a,xs,ps,rfl,_⟩:=h
  rfl
 obtain⟨a,xs,ps,rfl,ha,hs,hl,q⟩:=h
 have nd:=sc_parts_of.nd
 have hu:=hr.units0
 refine⟨_,(A1 (B3 (i:=1) nd rfl (Or.inl rfl) (ixE K w (pv 0) A4))
   (A1 (C5 (B0 (kEq (K:=K) hu) (pv 1) A9 rfl) (A7 (B2 (L9 (azZ (K:=K)) rfl B.list_ VG (A0 (ixE K w (pv 0) A4) A3)))) B5)
   (A1 (C5 (B0 (kIn (K:=K) (w:=w)) (pv 1) (C7 (v:=.ref _) rfl m_PARTS_FROM rfl) rfl) (A7 (B2 (L9 (azZ (K:=K)) rfl B.list_ VG (A0 (N9 (kSl (K:=K)) (pv 0) (O2 (ixE K w (C7 (v:=.ref _) rfl m_PARTS_FROM rfl) (pv 1))) T5) A3)))) B5)
   (A7 (B2 (J5 A3)))))), ?_⟩
 cases hs
 case call c x hc=>
  refine⟨_,rfl,(ixT ha rfl ?_)⟩
  refine⟨_,rfl,.inl ⟨rfl,_,rfl, ?_⟩⟩
  refine ifT (by decide) ?_
  refine⟨_,rfl,(ixT ha rfl ?_)⟩
  refine⟨_,_,rfl,.inr (SqT.of hc),λl hl=> ?_⟩
  exact q l _ (A6 hl _) hl A2
 case num|truth|non|name=>
  refine⟨_,rfl,(ixT ha rfl ?_)⟩
  refine⟨_,rfl,.inl ⟨rfl,_,rfl, ?_⟩⟩
  refine ifF (by decide) ?_
  refine⟨_,rfl,.inr (.inr ⟨_,_,PF,rfl,rfl,TD,_,rfl, ?_⟩)⟩
  refine ifF (by decide) ?_
  refine⟨(by show 0<=sizeLine;decide),λl hl=> ?_⟩
  exact q l _ (A6 hl _) hl A2
 all_goals
  refine⟨_,rfl,(ixT ha rfl ?_)⟩
  refine⟨_,rfl,.inl ⟨rfl,_,rfl, ?_⟩⟩
  refine ifF (by decide) ?_
  refine⟨_,rfl,.inr (.inr ⟨_,_,PF,rfl,rfl,TD,_,rfl, ?_⟩)⟩
  refine ifT (by decide) ?_
  refine⟨_,rfl,_,rfl,.inr (.inr (.inr ⟨_,_,PF,_,rfl,rfl,TD,rfl,_,rfl,.inr ⟨a,_,rfl,SqT.of ha,notWhole (by decide) (succ_pos _) _,λp hp=> ?_⟩⟩))⟩
  refine⟨_,_,rfl,.inr (SqT.of A2),λl hl=> ?_⟩
  exact q l _ ((A6 hp _).trans (A6 hl _)) ((A6 hp _).free hl) A2
inductive spAllW (vs:List V) (H:Hp) (Q:VK):Prop
 |mk:∀l ts g,(vs=[.ref l])->(H l=some (.lst ts))->(FAt H ts g)->(g.size<=1000)->(∀r H' ts',Same H H'->H r=none->H' r=some (.lst ts')->FAt H' ts' g.kids->Q (.ref r) H')->spAllW vs H Q
def ZG:Sp:=λvs H Q _=>spAllW vs H Q
theorem ok_parts_of_all(F:Fun K "parts_of_all" "parts_of_all" s_parts_of_all f fd)(DR:Cn P w K mg base CX0 1 "parts_of" ["term"] TV):
  FnOk P w K mg base CX0 2 f fd ["terms"] ZG:=by
 obtain⟨HE,HF,DR,QY,QD,QI⟩:=DR
 refine F.ok sc_parts_of_all (λvs H Q E h=> ?_) (λcdv A outer s H vs Q E hr h=> ?_)
 ·obtain⟨l,ts,g,rfl,_⟩:=h
  rfl
 obtain⟨l,ts,f,rfl,hl,hf,hsz,q⟩:=h
 have nd:=sc_parts_of_all.nd
 refine⟨_,(A1 (B3 (i:=1) nd rfl (Or.inl rfl) (J5 A3))
   (A1 (IA PassesOwn.never rfl (EN (K:=K) (pv 0)) (BG (i:=2) nd rfl (Or.inl rfl)) (A7 (E3 (CP (K:=K) PySem.F.plainAttrs_list PySem.F.slot_list_extend PySem.F.type_list_extend XJ (pv 1) (A0 (C3 DR (hr.mono (by omega)) rfl QI QD QY .nil C6 (A0 (pv 2) A3)) A3)))))
   (A7 (B2 (pv 1))))), ?_⟩
 refine⟨(by show 0<=sizeLine;decide),λr hr0=> ?_⟩
 have g1:Same H (upd H r (.lst [])):=A6 hr0 _
 refine⟨_,rfl,l,rfl,⟨ts,SqL.of (g1 _ _ hl)⟩,HN (xs:=ts) (λi σ H'=>∃z acc g rest,σ=[some (.ref l),some (.ref r),z]/\Same H H'/\H' r=some (.lst acc)/\FAt H' acc g/\FAt H' (ts.drop i) rest/\g.app rest.kids=f.kids/\rest.size<=1000) ?_ ?_ ?_ ?_⟩
 ·exact⟨none,[],.nil,f,rfl,g1,A2,.nil,hf.mono (tups_of g1),rfl,hsz⟩
 ·rintro i σ H' _ ⟨z,acc,g,rest,rfl,sm,_⟩
  exact SqL.of (sm _ _ hl)
 ·rintro i x σ H' hx ⟨z,acc,g,rest,rfl,sm,hr1,hg,hrest,hk,hrs⟩
  have hd:ts.drop i=x::ts.drop (i+1):=by
   obtain⟨h1,h2⟩:=List.getElem?_eq_some_iff.mp hx
   rw[drop_eq_getElem_cons h1,h2]
  rw[hd]at hrest
  cases hrest with
  | @cons a xs ps _ k r' ha hs hps hrest'=>
   have hks:k.size<=1000:=by simp only[Fo.size]at hrs;omega
   have hpl:ps.length<=1000:=by rw[hps.len];exact le_trans k.len_le hks
   refine⟨_,rfl,.inl ⟨rfl,acc,SqL.of hr1⟩,_,rfl,a,xs,ps,rfl,ha,hs,hpl,λr2 H2 g2 n2 e2=> ?_⟩
   have hfs:g.size+(Fo.cons k r').kids.size=f.kids.size:=by rw[<-hk,Fo.size_app]
   refine⟨r,r2,acc,ps,rfl,rfl,g2 _ _ hr1,e2, ?_, ?_⟩
   ·have h1:=f.size_kids
    have h2:=g.len_le
    rw[hg.len,hps.len]
    have h3:=k.len_le
    have:(1000:Nat)+1000<=sizeLine:=by decide
    omega
   ·have t3:Tups H' (upd H2 r (.lst (acc++ps))):=(tups_of g2).trans (.lst (g2 _ _ hr1) _)
    refine⟨_,acc++ps,g.app k,r',rfl,λb o e=> ?_,A2,(hg.app hps).mono t3,hrest'.mono t3, ?_, ?_⟩
    ·rw[C1 (B8 e hr0)]
     exact g2 _ _ (sm _ _ e)
    ·rw[Fo.app_assoc]
     exact hk
    ·simp only[Fo.size]at hrs;omega
 ·rintro σ H' ⟨z,acc,g,rest,rfl,sm,hr1,hg,hrest,hk,_⟩
  rw[drop_length]at hrest
  cases hrest
  refine⟨_,rfl,q r H' acc sm hr0 hr1 ?_⟩
  rw[<-hk]
  show FAt H' acc (g.app .nil)
  rw[Fo.app_nil]
  exact hg
inductive spDepthW(vs:List V)(H:Hp)(Q:VK):Prop
 |mk:∀a f,(vs=[.ref a])->(FAt H [.ref a] f)->(f.size<=1000)->(∀H',Same H H'->Q (.int (f.depth:Nat)) H')->spDepthW vs H Q
def spDepth:Sp:=λvs H Q _=>spDepthW vs H Q
theorem ok_depth_of(F:Fun K "depth_of" "depth_of" s_depth_of f fd)(M1:Cn P w K mg base CX0 2 "parts_of_all" ["terms"] ZG):
  FnOk P w K mg base CX0 3 f fd ["term"] spDepth:=by
 obtain⟨Y1,Y2,M1,Y5,Y3,Y4⟩:=M1
 refine F.ok sc_depth_of (λvs H Q E h=> ?_) (λcdv A outer s H vs Q E hr h=> ?_)
 ·obtain⟨a,g,rfl,_⟩:=h
  rfl
 obtain⟨a,f,rfl,hf,hsz,q⟩:=h
 have nd:=sc_depth_of.nd
 refine⟨_,(A1 (B3 (i:=1) nd rfl (Or.inl rfl) A4)
   (A1 (B3 (i:=2) nd rfl (Or.inl rfl) (J5 (A0 (pv 0) A3)))
   (A1 (O4 PassesOwn.never (O3 (K:=K) (pv 2) (λ_=>rfl)) (A1 (CN (i:=1) nd rfl (Or.inl rfl) A4 DY)
   (A7 (B3 (i:=2) nd rfl (Or.inl rfl) (C3 M1 (hr.mono (by omega)) rfl Y4 Y3 Y5 .nil C6 (A0 (pv 2) A3))))))
   (A7 (B2 (pv 1)))))), ?_⟩
 refine⟨_,rfl,(by show 1<=sizeLine;decide),λl0 hl0=> ?_⟩
 have g0:Same H (upd H l0 (.lst [.ref a])):=A6 hl0 _
 refine⟨λm σ H'=>∃(d:Nat) (l:Addr) (ts:List V) (g:Fo),σ=[some (.ref a),some (.int d),some (.ref l)]/\Same H H'/\H' l=some (.lst ts)/\FAt H' ts g/\g.size<=1000/\d+g.depth=f.depth/\m=g.size,
  ⟨f.size,0,l0,[.ref a],f,rfl,g0,A2,hf.mono (tups_of g0),hsz,by omega,rfl⟩, ?_⟩
 rintro m σ H' ⟨d,l,ts,g,rfl,sm,hl,hg,hgs,hd,rfl⟩
 refine⟨_,rfl, !ts.isEmpty,.inl ⟨ts,SqL.of hl,rfl⟩, ?_⟩
 cases hg with
 |nil=>
  refine ifF (by decide) ?_
  have e:d=f.depth:=by simpa [Fo.depth]using hd
  subst e
  exact⟨_,rfl,q H' sm⟩
 | @cons a' xs ps vs k r ha hs hk hr'=>
  refine ifT rfl ?_
  refine⟨_,λ_ _ h=>h, ?_⟩
  refine⟨_,rfl,_,_,rfl,rfl, ?_⟩
  refine⟨_,rfl,l,_,.cons k r,rfl,hl,.cons ha hs hk hr',hgs,λr2 H2 ts' g2 n2 e2 hf2=> ?_⟩
  have hkd:=(Fo.cons k r).depth_kids
  have hks:=(Fo.cons k r).size_kids
  refine⟨(Fo.cons k r).kids.size, ?_,d+1,r2,ts',_,rfl,sm.trans g2,e2,hf2, ?_, ?_,rfl⟩
  ·simp only[Fo.len]at hks;omega
  ·omega
  ·rcases hkd with⟨z,_⟩|z
   ·cases z
   ·omega
inductive spSizeW (vs:List V) (H:Hp) (Q:VK):Prop
 |mk:∀a f,(vs=[.ref a])->(FAt H [.ref a] f)->(f.size<=1000)->(∀H',Same H H'->Q (.int (f.size:Nat)) H')->spSizeW vs H Q
def spSize:Sp:=λvs H Q _=>spSizeW vs H Q
theorem ok_size_of(F:Fun K "size_of" "size_of" s_size_of f fd)(B:NoG mg)(M1:Cn P w K mg base CX0 2 "parts_of_all" ["terms"] ZG):
  FnOk P w K mg base CX0 3 f fd ["term"] spSize:=by
 obtain⟨Y1,Y2,M1,Y5,Y3,Y4⟩:=M1
 refine F.ok sc_size_of (λvs H Q E h=> ?_) (λcdv A outer s H vs Q E hr h=> ?_)
 ·obtain⟨a,g,rfl,_⟩:=h
  rfl
 obtain⟨a,f,rfl,hf,hsz,q⟩:=h
 have nd:=sc_size_of.nd
 refine⟨_,(A1 (B3 (i:=1) nd rfl (Or.inl rfl) A4)
   (A1 (B3 (i:=2) nd rfl (Or.inl rfl) (J5 (A0 (pv 0) A3)))
   (A1 (O4 PassesOwn.never (O3 (K:=K) (pv 2) (λ_=>rfl)) (A1 (CN (i:=1) nd rfl (Or.inl rfl) (C8 (P6 (K:=K)) rfl B.len_ M3 (A0 (pv 2) A3)) DY)
   (A7 (B3 (i:=2) nd rfl (Or.inl rfl) (C3 M1 (hr.mono (by omega)) rfl Y4 Y3 Y5 .nil C6 (A0 (pv 2) A3))))))
   (A7 (B2 (pv 1)))))), ?_⟩
 refine⟨_,rfl,(by show 1<=sizeLine;decide),λl0 hl0=> ?_⟩
 have g0:Same H (upd H l0 (.lst [.ref a])):=A6 hl0 _
 refine⟨λm σ H'=>∃(d:Nat) (l:Addr) (ts:List V) (g:Fo),σ=[some (.ref a),some (.int d),some (.ref l)]/\Same H H'/\H' l=some (.lst ts)/\FAt H' ts g/\g.size<=1000/\d+g.size=f.size/\m=g.size,
  ⟨f.size,0,l0,[.ref a],f,rfl,g0,A2,hf.mono (tups_of g0),hsz,by omega,rfl⟩, ?_⟩
 rintro m σ H' ⟨d,l,ts,g,rfl,sm,hl,hg,hgs,hd,rfl⟩
 refine⟨_,rfl, !ts.isEmpty,.inl ⟨ts,SqL.of hl,rfl⟩, ?_⟩
 have hlen:=hg.len
 cases hg with
 |nil=>
  refine ifF (by decide) ?_
  have e:d=f.size:=by simpa [Fo.size]using hd
  subst e
  exact⟨_,rfl,q H' sm⟩
 | @cons a' xs ps vs k r ha hs hk hr'=>
  refine ifT rfl ?_
  refine⟨_,λ_ _ h=>h, ?_⟩
  refine⟨_,rfl,_,rfl,_,_,rfl,.inl ⟨_,SqL.of hl,rfl⟩,_,_,rfl,rfl, ?_⟩
  refine⟨_,rfl,l,_,.cons k r,rfl,hl,.cons ha hs hk hr',hgs,λr2 H2 ts' g2 n2 e2 hf2=> ?_⟩
  have hks:=(Fo.cons k r).size_kids
  refine⟨(Fo.cons k r).kids.size, ?_,d+(V.ref a'::vs).length,r2,ts',_, ?_,sm.trans g2,e2,hf2, ?_, ?_,rfl⟩
  ·simp only[Fo.len]at hks;omega
  ·rfl
  ·omega
  ·rw[hlen];omega
end
end K15
namespace RD
abbrev Wd:=List Nat
inductive Tm where
 |num (n:Nat)
 |truth (b:Bool)
 |non
 |name (x:Wd)
 |two (s:Wd) (a b:Tm)
 |one (s:Wd) (a:Tm)
 |if_ (c a b:Tm)
 |let_ (x:Wd) (a b:Tm)
 |fn (x:Wd) (a:Tm)
 |do_ (f a:Tm)
 |call (x:Wd) (ts:List Tm)
abbrev T6:Wd:=[100,101,102]
abbrev wIf:Wd:=[105,102]
abbrev O5:Wd:=[116,104,101,110]
abbrev P9:Wd:=[101,108,115,101]
abbrev AK:Wd:=[108,101,116]
abbrev wIn:Wd:=[105,110]
abbrev wFn:Wd:=[102,110]
abbrev Z3:Wd:=[121,101,115]
abbrev wNo:Wd:=[110,111]
abbrev AM:Wd:=[104,101,97,100]
abbrev AR:Wd:=[116,97,105,108]
abbrev U7:Wd:=[101,109,112,116,121]
abbrev FH:Wd:=[110,111,116]
abbrev E6:Wd:=[40]
abbrev D7:Wd:=[41]
abbrev L4:Wd:=[44]
abbrev wEq:Wd:=[61]
abbrev wLt:Wd:=[60]
abbrev U6:Wd:=[58]
abbrev DN:Wd:=[43]
abbrev AC:Wd:=[45]
abbrev AD:Wd:=[42]
abbrev DM:Wd:=[47]
abbrev P0:Wd:=[33]
abbrev K3:Wd:=[61,62]
abbrev EL:Wd:=[91]
abbrev DK:Wd:=[93]
def E8(w:Wd):Nat:=if w=wLt then 1 else if w=wEq then 1 else if w=U6 then 2 else if w=DN then 3 else if w=AC then 3 else if w=AD then 4 else if w=DM then 4 else 0
def CO(w:Wd):Nat:=if w=U6 then E8 w else E8 w+1
def M0(w:Wd):Bool:=decide (w=wLt)||decide (w=wEq)
def E9(w:Wd):Bool:=decide (w=AM)||decide (w=AR)||decide (w=U7)||decide (w=FH)
def value(w:Wd):Nat:=w.foldl (λn c=>10*n+(c - 48)) 0
section
variable(isNum isName:Wd->Bool)(ws:List Wd)
def ahead(i:Nat):Wd:=(ws[i]?).getD []
def expect(w:Wd)(i:Nat):Option Nat:=if ahead ws i=w then some (i+1)else none
def P1(i:Nat):Option (Wd×Nat):=if isName (ahead ws i)=true then some (ahead ws i,i+1)else none
def P7(many i:Nat):Option (Bool×Nat):=if ahead ws i=D7 then some (false,i+1)else if many=4 then none else if 0<many then(expect ws L4 i).map λj=>(true,j)else some (true,i)
def K6{α:Type}(one:Nat->Option (α×Nat)):Nat->List α->Nat->Option (List α×Nat)
 |0,_,_=>none
 |n+1,acc,i=>match P7 ws acc.length i with
  |none=>none
  |some (false,j)=>some (acc,j)
  |some (true,j)=>match one j with
   |none=>none
   |some (x,k)=>K6 one n (acc++ [x]) k
def BJ(i:Nat):Option (List Wd×Nat):=(expect ws E6 i).bind λj=>K6 ws (P1 isName ws) 5 [] j
section
variable(row:Nat->Nat->Nat->Option (Tm×Nat))
def BC(level i:Nat):Option (List Tm×Nat):=(expect ws E6 i).bind λj=>K6 ws (row 1 level) 5 [] j
def BL(x:Wd)(level i:Nat):Option (Tm×Nat):=if ahead ws i=E6 then(BC ws row (level+1) i).map λr=>(.call x r.1,r.2)else some (.name x,i)
def U9(level i:Nat):Option (Tm×Nat):=
 if ahead ws i=E6 then(row 1 level (i+1)).bind λr=>(expect ws D7 r.2).map λk=>(r.1,k)
 else if ahead ws i=EL then(expect ws DK (i+1)).map λk=>(.non,k)
 else if(decide (ahead ws i=Z3)||decide (ahead ws i=wNo))=true then some (.truth (decide (ahead ws i=Z3)),i+1)
 else if isNum (ahead ws i)=true then some (.num (value (ahead ws i)),i+1)
 else if isName (ahead ws i)=true then BL ws row (ahead ws i) level (i+1)
 else none
def rIf(level i:Nat):Option (Tm×Nat):=(expect ws wIf i).bind λi1=>(row 1 (level+1) i1).bind λr1=>(expect ws O5 r1.2).bind λi2=>(row 1 (level+1) i2).bind λr2=>(expect ws P9 r2.2).bind λi3=>
 (row 1 (level+1) i3).map λr3=>(.if_ r1.1 r2.1 r3.1,r3.2)
def RJ(level i:Nat):Option (Tm×Nat):=(expect ws AK i).bind λi1=>(P1 isName ws i1).bind λx=>(expect ws wEq x.2).bind λi2=>(row 1 (level+1) i2).bind λr1=>(expect ws wIn r1.2).bind λi3=>
 (row 1 (level+1) i3).map λr2=>(.let_ x.1 r1.1 r2.1,r2.2)
def rFn(level i:Nat):Option (Tm×Nat):=(expect ws wFn i).bind λi1=>(P1 isName ws i1).bind λx=>(expect ws K3 x.2).bind λi2=>(row 1 (level+1) i2).map λr=>(.fn x.1 r.1,r.2)
def rTW(level i:Nat):Option (Tm×Nat):=
 if ahead ws i=wIf then rIf ws row level i else if ahead ws i=AK then RJ isName ws row level i else if ahead ws i=wFn then rFn isName ws row level i else U9 isNum isName ws row level i
def T1(level:Nat):Nat->Tm->Nat->Option (Tm×Nat)
 |0,t,i=>some (t,i)
 |m+1,t,i=>if ahead ws i=P0 then(rTW isNum isName ws row (level+1) (i+1)).bind λr=>T1 level m (.do_ t r.1) r.2 else some (t,i)
def N2(least level:Nat):Nat->Tm->Nat->Option (Tm×Nat)
 |0,t,i=>some (t,i)
 |m+1,t,i=>if least<=E8 (ahead ws i)then(row (CO (ahead ws i)) (level+1) (i+1)).bind λr=>if(M0 (ahead ws i)&&M0 (ahead ws r.2))=true then none else N2 least level m (.two (ahead ws i) t r.1) r.2 else some (t,i)
def J6(op:Nat->Nat->Option (Tm×Nat))(level i:Nat):Option (Tm×Nat):=
 if 16<level then none else if E9 (ahead ws i)=true then(op (level+1) (i+1)).map λr=>(.one (ahead ws i) r.1,r.2)
 else(rTW isNum isName ws row level i).bind λr=>T1 isNum isName ws row level (ws.length+1) r.1 r.2
end
def K2:Nat->(Nat->Nat->Nat->Option (Tm×Nat))×(Nat->Nat->Option (Tm×Nat))
 |0=>(λ_ _ _=>none,λ_ _=>none)
 |n+1=>(λleast level i=>(J6 isNum isName ws (K2 n).1 (K2 n).2 level i).bind λr=>N2 ws (K2 n).1 least level (ws.length+1) r.1 r.2,J6 isNum isName ws (K2 n).1 (K2 n).2)
structure Fd where
 name:Wd
 names:List Wd
 body:Tm
def O8(row:Nat->Nat->Nat->Option (Tm×Nat))(i:Nat):Option (Fd×Nat):=(expect ws T6 i).bind λi1=>(P1 isName ws i1).bind λx=>(BJ isName ws x.2).bind λns=>(expect ws wEq ns.2).bind λi2=>
 (row 1 1 i2).map λr=>(⟨x.1,ns.1,r.1⟩,r.2)
def N8(row:Nat->Nat->Nat->Option (Tm×Nat)):Nat->List Fd->Nat->Option (List Fd×Nat)
 |0,acc,i=>some (acc,i)
 |m+1,acc,i=>if ahead ws i=[]then some (acc,i)else if acc.length=12 then none else(O8 isName ws row i).bind λr=>N8 row m (acc++ [r.1]) r.2
def K7(row:Nat->Nat->Nat->Option (Tm×Nat)):Option (List Fd):=(O8 isName ws row 0).bind λr=>(N8 isName ws row 13 [r.1] r.2).map (·.1)
def delta(w:Wd):Int:=(if w=E6 then 1 else 0) - (if w=D7 then 1 else 0)
def V0:List Wd->Int
 | []=>0
 |w::r=>delta w+V0 r
def C2:Int->List Wd->Bool
 |_,[]=>true
 |n,w::r=>decide (n+delta w<=16)&&C2 (n+delta w) r
end
mutual
def Tm.depth:Tm->Nat
 | .num _=>1
 | .truth _=>1
 | .non=>1
 | .name _=>1
 | .two _ a b=>max a.depth b.depth+1
 | .one _ a=>a.depth+1
 | .if_ c a b=>max c.depth (max a.depth b.depth)+1
 | .let_ _ a b=>max a.depth b.depth+1
 | .fn _ a=>a.depth+1
 | .do_ f a=>max f.depth a.depth+1
 | .call _ ts=>depths ts+1
def depths:List Tm->Nat
 | []=>0
 |t::r=>max t.depth (depths r)
end
mutual
def Tm.size:Tm->Nat
 | .num _=>1
 | .truth _=>1
 | .non=>1
 | .name _=>1
 | .two _ a b=>a.size+b.size+1
 | .one _ a=>a.size+1
 | .if_ c a b=>c.size+a.size+b.size+1
 | .let_ _ a b=>a.size+b.size+1
 | .fn _ a=>a.size+1
 | .do_ f a=>f.size+a.size+1
 | .call _ ts=>sizes ts+1
def sizes:List Tm->Nat
 | []=>0
 |t::r=>t.size+sizes r
end
def GF(fs:List Fd):Bool:=fs.any (λf=>decide (16<f.body.depth))||decide (400<(fs.map λf=>f.body.size).sum)
def O7(isNum isName:Wd->Bool)(ws:List Wd):Option (List Fd):=if C2 0 ws=true then(K7 isName ws (K2 isNum isName ws 32).1).bind λfs=>if GF fs=true then none else some fs else none
def H0(ws:List Wd)(i:Nat):Int:=V0 (ws.take i)
theorem DV:∀a b:List Wd,V0 (a++b)=V0 a+V0 b
 | [],b=>by simp[V0]
 |w::a,b=>by simp only[cons_append,V0,DV a b];omega
theorem T0{ws:List Wd}{i:Nat}(h:ahead ws i≠ []):i<ws.length:=by
 by_cases hi:i<ws.length
 ·exact hi
 ·exact absurd (by simp[ahead,getElem?_eq_none (le_of_not_lt hi)]) h
theorem V7{ws:List Wd}{i:Nat}(h:ahead ws i≠ []):H0 ws (i+1)=H0 ws i+delta (ahead ws i):=by
 have hi:=T0 h
 have e:ahead ws i=ws[i]:=by simp[ahead,hi]
 unfold H0
 rw[take_succ_eq_append_getElem hi,DV,e]
 simp only[V0]
 omega
def Bal(ws:List Wd)(i j:Nat):Prop:=i<j/\H0 ws j=H0 ws i/\j<=ws.length
theorem Bal.trans{ws:List Wd}{i j k:Nat}(a:Bal ws i j)(b:Bal ws j k):Bal ws i k:=⟨lt_trans a.1 b.1,b.2.1.trans a.2.1,b.2.2⟩
theorem W8{ws:List Wd}{w:Wd}{i j:Nat}(h:expect ws w i=some j):ahead ws i=w/\j=i+1:=by
 unfold expect at h
 split at h
 ·rename_i e;cases h;exact⟨e,rfl⟩
 ·cases h
theorem D5{ws:List Wd}{w:Wd}{i j:Nat}(h:expect ws w i=some j)(hw:w≠ [])(hd:delta w=0):Bal ws i j:=by
 obtain⟨e,rfl⟩:=W8 h
 have hn:ahead ws i≠ []:=by rw[e];exact hw
 refine⟨lt_succ_self _, ?_,T0 hn⟩
 rw[V7 hn,e,hd]
 omega
section
variable{isNum isName:Wd->Bool}{ws:List Wd}
structure Plain(isNum isName:Wd->Bool):Prop where
 num:∀w,isNum w=true->w≠ []/\delta w=0
 name:∀w,isName w=true->w≠ []/\delta w=0
theorem Z5{i:Nat}(hn:ahead ws i≠ [])(hd:delta (ahead ws i)=0):Bal ws i (i+1):=⟨lt_succ_self _,by rw[V7 hn,hd];omega,T0 hn⟩
theorem V2(hP:Plain isNum isName){i:Nat}{r:Wd×Nat}(h:P1 isName ws i=some r):Bal ws i r.2:=by
 unfold P1 at h
 split at h
 ·rename_i e
  cases h
  obtain⟨h1,h2⟩:=hP.name _ e
  exact Z5 h1 h2
 ·cases h
theorem EC{α:Type}{one:Nat->Option (α×Nat)}(h1:∀i r,one i=some r->Bal ws i r.2):∀ {n:Nat} {acc:List α} {i:Nat} {r:List α×Nat},K6 ws one n acc i=some r->i<r.2/\H0 ws r.2=H0 ws i - 1/\r.2<=ws.length
 |0,acc,i,r,h=>by cases h
 |n+1,acc,i,r,h=>by
  unfold K6 at h
  cases hg:P7 ws acc.length i with
  |none=>rw[hg]at h;cases h
  |some g=>
   rw[hg]at h
   obtain⟨b,j⟩:=g
   unfold P7 at hg
   cases b with
   |false=>
    cases h
    split at hg
    ·rename_i e
     cases hg
     have hn:ahead ws i≠ []:=by rw[e];simp
     refine⟨lt_succ_self _, ?_,T0 hn⟩
     rw[V7 hn,e]
     show H0 ws i+((0:Int) - 1)=_
     omega
    ·split at hg
     ·cases hg
     ·split at hg
      ·cases he:expect ws L4 i with
       |none=>rw[he]at hg;cases hg
       |some k=>rw[he]at hg;cases hg
      ·cases hg
   |true=>
    have hij:i<=j/\H0 ws j=H0 ws i:=by
     split at hg
     ·cases hg
     ·split at hg
      ·cases hg
      ·split at hg
       ·cases he:expect ws L4 i with
        |none=>rw[he]at hg;cases hg
        |some k=>
         rw[he]at hg
         cases hg
         have:=D5 he (by simp) (by decide)
         exact⟨le_of_lt this.1,this.2.1⟩
       ·cases hg;exact⟨le_refl _,rfl⟩
    dsimp only at h
    cases ho:one j with
    |none=>rw[ho]at h;cases h
    |some x=>
     rw[ho]at h
     have hb:=h1 j x ho
     have ih:=EC h1 h
     exact⟨lt_of_le_of_lt hij.1 (lt_trans hb.1 ih.1),by rw[ih.2.1,hb.2.1,hij.2],ih.2.2⟩
theorem HA{i j:Nat}(h:expect ws E6 i=some j):j=i+1/\H0 ws j=H0 ws i+1:=by
 obtain⟨e,rfl⟩:=W8 h
 have hn:ahead ws i≠ []:=by rw[e];simp
 refine⟨rfl, ?_⟩
 rw[V7 hn,e]
 rfl
theorem HL(hP:Plain isNum isName){i:Nat}{r:List Wd×Nat}(h:BJ isName ws i=some r):Bal ws i r.2:=by
 unfold BJ at h
 cases he:expect ws E6 i with
 |none=>rw[he]at h;cases h
 |some j=>
  rw[he]at h
  obtain⟨rfl,e2⟩:=HA he
  have:=EC (λi r=>V2 hP) h
  exact⟨lt_trans (lt_succ_self _) this.1,by rw[this.2.1,e2];omega,this.2.2⟩
variable{row:Nat->Nat->Nat->Option (Tm×Nat)}
theorem RL(hr:∀least level i r,1<=least->row least level i=some r->Bal ws i r.2){level i:Nat}{r:List Tm×Nat}(h:BC ws row level i=some r):Bal ws i r.2:=by
 unfold BC at h
 cases he:expect ws E6 i with
 |none=>rw[he]at h;cases h
 |some j=>
  rw[he]at h
  obtain⟨rfl,e2⟩:=HA he
  have:=EC (λi r=>hr 1 level i r (le_refl 1)) h
  exact⟨lt_trans (lt_succ_self _) this.1,by rw[this.2.1,e2];omega,this.2.2⟩
theorem WP(hr:∀least level i r,1<=least->row least level i=some r->Bal ws i r.2){x:Wd}{level i:Nat}{r:Tm×Nat}(hi:i<=ws.length)(h:BL ws row x level i=some r):i<=r.2/\H0 ws r.2=H0 ws i/\r.2<=ws.length:=by
 unfold BL at h
 split at h
 ·cases ht:BC ws row (level+1) i with
  |none=>rw[ht]at h;cases h
  |some q=>
   rw[ht]at h
   cases h
   have:=RL hr ht
   exact⟨le_of_lt this.1,this.2.1,this.2.2⟩
 ·cases h;exact⟨le_refl _,rfl,hi⟩
theorem SE(hP:Plain isNum isName)(hr:∀least level i r,1<=least->row least level i=some r->Bal ws i r.2){level i:Nat}{r:Tm×Nat}(h:U9 isNum isName ws row level i=some r):Bal ws i r.2:=by
 unfold U9 at h
 split at h
 ·rename_i e
  cases hq:row 1 level (i+1)with
  |none=>rw[hq]at h;cases h
  |some q=>
   rw[hq]at h
   cases he:expect ws D7 q.2 with
   |none=>simp only[Option.bind,he]at h;cases h
   |some k=>
    simp only[Option.bind,he]at h
    cases h
    have hb:=hr _ _ _ _ (le_refl 1) hq
    obtain⟨e1,rfl⟩:=W8 he
    have hn:ahead ws i≠ []:=by rw[e];simp
    have hn2:ahead ws q.2≠ []:=by rw[e1];simp
    have s1:=V7 hn
    have s2:=V7 hn2
    rw[e]at s1
    rw[e1]at s2
    have d1:delta E6=1:=by decide
    have d2:delta D7= -1:=by decide
    refine⟨?_, ?_,T0 hn2⟩
    ·have:=hb.1
     show i<q.2+1
     omega
    ·have:=hb.2.1
     show H0 ws (q.2+1)=_
     omega
 ·split at h
  ·rename_i e
   cases he:expect ws DK (i+1)with
   |none=>rw[he]at h;cases h
   |some k=>
    rw[he]at h
    cases h
    exact(Z5 (by rw[e];simp) (by rw[e];decide)).trans (D5 he (by simp) (by decide))
  ·split at h
   ·rename_i e
    cases h
    have hx:ahead ws i=Z3\/ahead ws i=wNo:=by simpa using e
    rcases hx with e|e<;>exact Z5 (by rw[e];simp) (by rw[e];decide)
   ·split at h
    ·rename_i e
     cases h
     obtain⟨h1,h2⟩:=hP.num _ e
     exact Z5 h1 h2
    ·split at h
     ·rename_i e
      obtain⟨h1,h2⟩:=hP.name _ e
      have hb:=Z5 h1 h2
      have:=WP hr hb.2.2 h
      exact⟨Nat.lt_of_lt_of_le hb.1 this.1,this.2.1.trans hb.2.1,this.2.2⟩
     ·cases h
variable{row:Nat->Nat->Nat->Option (Tm×Nat)}
theorem bbZ(hr:∀least level i r,1<=least->row least level i=some r->Bal ws i r.2){level i:Nat}{r:Tm×Nat}(h:rIf ws row level i=some r):Bal ws i r.2:=by
 unfold rIf at h
 simp only[bind_eq_some_iff,map_eq_some_iff]at h
 obtain⟨i1,e1,r1,e2,i2,e3,r2,e4,i3,e5,r3,e6,rfl⟩:=h
 exact(D5 e1 (by simp) (by decide)).trans ((hr _ _ _ r1 (le_refl 1) e2).trans ((D5 e3 (by simp) (by decide)).trans ((hr _ _ _ r2 (le_refl 1) e4).trans ((D5 e5 (by simp) (by decide)).trans (hr _ _ _ r3 (le_refl 1) e6)))))
theorem YY(hP:Plain isNum isName)(hr:∀least level i r,1<=least->row least level i=some r->Bal ws i r.2){level i:Nat}{r:Tm×Nat}(h:RJ isName ws row level i=some r):Bal ws i r.2:=by
 unfold RJ at h
 simp only[bind_eq_some_iff,map_eq_some_iff]at h
 obtain⟨i1,e1,x,e2,i2,e3,r1,e4,i3,e5,r2,e6,rfl⟩:=h
 exact(D5 e1 (by simp) (by decide)).trans ((V2 hP e2).trans ((D5 e3 (by simp) (by decide)).trans ((hr _ _ _ r1 (le_refl 1) e4).trans ((D5 e5 (by simp) (by decide)).trans (hr _ _ _ r2 (le_refl 1) e6)))))
theorem bsZ(hP:Plain isNum isName)(hr:∀least level i r,1<=least->row least level i=some r->Bal ws i r.2){level i:Nat}{r:Tm×Nat}(h:rFn isName ws row level i=some r):Bal ws i r.2:=by
 unfold rFn at h
 simp only[bind_eq_some_iff,map_eq_some_iff]at h
 obtain⟨i1,e1,x,e2,i2,e3,r1,e4,rfl⟩:=h
 exact(D5 e1 (by simp) (by decide)).trans ((V2 hP e2).trans ((D5 e3 (by simp) (by decide)).trans (hr _ _ _ r1 (le_refl 1) e4)))
theorem GV(hP:Plain isNum isName)(hr:∀least level i r,1<=least->row least level i=some r->Bal ws i r.2){level i:Nat}{r:Tm×Nat}(h:rTW isNum isName ws row level i=some r):Bal ws i r.2:=by
 unfold rTW at h
 split at h
 ·exact bbZ hr h
 ·split at h
  ·exact YY hP hr h
  ·split at h
   ·exact bsZ hP hr h
   ·exact SE hP hr h
theorem KB(hP:Plain isNum isName)(hr:∀least level i r,1<=least->row least level i=some r->Bal ws i r.2){level:Nat}:∀ {m:Nat} {t:Tm} {i:Nat} {r:Tm×Nat},i<=ws.length->T1 isNum isName ws row level m t i=some r->i<=r.2/\H0 ws r.2=H0 ws i/\r.2<=ws.length
 |0,t,i,r,hi,h=>by cases h;exact⟨le_refl _,rfl,hi⟩
 |m+1,t,i,r,hi,h=>by
  unfold T1 at h
  split at h
  ·rename_i e
   simp only[bind_eq_some_iff]at h
   obtain⟨q,e1,e2⟩:=h
   have b1:=(Z5 (ws:=ws) (i:=i) (by rw[e];simp) (by rw[e];decide)).trans (GV hP hr e1)
   have ih:=KB hP hr b1.2.2 e2
   exact⟨le_trans (le_of_lt b1.1) ih.1,ih.2.1.trans b1.2.1,ih.2.2⟩
  ·cases h;exact⟨le_refl _,rfl,hi⟩
theorem Y8{w:Wd}(h:1<=E8 w):w≠ []/\delta w=0:=by
 unfold E8 at h
 repeat' split at h
 all_goals first|(rename_i e;subst e;exact⟨by simp,by decide⟩)|omega
theorem BO(w:Wd):1<=CO w:=by
 unfold CO
 split
 ·rename_i e;subst e;decide
 ·omega
theorem HX(hr:∀least level i r,1<=least->row least level i=some r->Bal ws i r.2){least level:Nat}(hl:1<=least):∀ {m:Nat} {t:Tm} {i:Nat} {r:Tm×Nat},i<=ws.length->N2 ws row least level m t i=some r->i<=r.2/\H0 ws r.2=H0 ws i/\r.2<=ws.length
 |0,t,i,r,hi,h=>by cases h;exact⟨le_refl _,rfl,hi⟩
 |m+1,t,i,r,hi,h=>by
  unfold N2 at h
  split at h
  ·rename_i e
   simp only[bind_eq_some_iff]at h
   obtain⟨q,e1,e2⟩:=h
   split at e2
   ·cases e2
   obtain⟨p1,p2⟩:=Y8 (le_trans hl e)
   have b1:=(Z5 p1 p2).trans (hr _ _ _ q (BO _) e1)
   have ih:=HX hr hl b1.2.2 e2
   exact⟨le_trans (le_of_lt b1.1) ih.1,ih.2.1.trans b1.2.1,ih.2.2⟩
  ·cases h;exact⟨le_refl _,rfl,hi⟩
theorem AE{w:Wd}(h:E9 w=true):w≠ []/\delta w=0:=by
 have hx:((w=AM\/w=AR)\/w=U7)\/w=FH:=by simpa [E9]using h
 rcases hx with((e|e)|e)|e<;>subst e<;>exact⟨by simp,by decide⟩
theorem ER(hP:Plain isNum isName)(hr:∀least level i r,1<=least->row least level i=some r->Bal ws i r.2){op:Nat->Nat->Option (Tm×Nat)}(ho:∀level i r,op level i=some r->Bal ws i r.2){level i:Nat}{r:Tm×Nat}(h:J6 isNum isName ws row op level i=some r):Bal ws i r.2:=by
 unfold J6 at h
 split at h
 ·cases h
 split at h
 ·rename_i e
  simp only[map_eq_some_iff]at h
  obtain⟨q,e1,rfl⟩:=h
  obtain⟨p1,p2⟩:=AE e
  exact(Z5 p1 p2).trans (ho _ _ q e1)
 ·simp only[bind_eq_some_iff]at h
  obtain⟨q,e1,e2⟩:=h
  have b1:=GV hP hr e1
  have:=KB hP hr b1.2.2 e2
  exact⟨Nat.lt_of_lt_of_le b1.1 this.1,this.2.1.trans b1.2.1,this.2.2⟩
end
theorem T3{isNum isName:Wd->Bool}{ws:List Wd}(hP:Plain isNum isName):∀n,(∀least level i r,1<=least->(K2 isNum isName ws n).1 least level i=some r->Bal ws i r.2)/\(∀level i r,(K2 isNum isName ws n).2 level i=some r->Bal ws i r.2):=by
 intro n
 induction n with
 |zero=>exact⟨λ_ _ _ _ _ h=>(by cases h),λ_ _ _ h=>(by cases h)⟩
 |succ n ih=>
  refine⟨λleast level i r hl h=> ?_,λlevel i r h=>ER hP ih.1 ih.2 h⟩
  simp only[K2,bind_eq_some_iff]at h
  obtain⟨q,e1,e2⟩:=h
  have b1:=ER hP ih.1 ih.2 e1
  have:=HX ih.1 hl b1.2.2 e2
  exact⟨Nat.lt_of_lt_of_le b1.1 this.1,this.2.1.trans b1.2.1,this.2.2⟩
end RD
namespace RD
open PySem L2
def But(p:Addr)(H H':Hp):Prop:=∀b o,b≠p->H b=some o->H' b=some o
theorem But.refl{p:Addr}{H:Hp}:But p H H:=λ_ _ _ e=>e
theorem But.trans{p:Addr}{H H1 H2:Hp}(a:But p H H1)(b:But p H1 H2):But p H H2:=λc o n h=>b c o n (a c o n h)
theorem Same.but{p:Addr}{H H':Hp}(h:Same H H'):But p H H':=λb o _ e=>h b o e
theorem V4{p:Addr}{H:Hp}(o:HO):But p H (upd H p o):=λb u n e=>by rw[C1 n];exact e
abbrev wds(ws:List Wd):List V:=ws.map λx=>V.str (tx x)
structure Rd where
 a:Addr
 l:Addr
 ws:List Wd
def RAt(C:Addr)(H:Hp)(R:Rd)(i:Nat):Prop:=∃dx,H R.a=some (.ins C dx [("found",.ref R.l),("place",.int (i:Nat))])/\H R.l=some (.lst (wds R.ws))
theorem RAt.same{C:Addr}{H H':Hp}{R:Rd}{i:Nat}(h:RAt C H R i)(b:Same H H'):RAt C H' R i:=by
 obtain⟨dx,h1,h2⟩:=h
 exact⟨dx,b _ _ h1,b _ _ h2⟩
theorem RAt.tups{C:Addr}{H H':Hp}{R:Rd}{i:Nat}(h:RAt C H R i)(b:But R.a H H'):BU.Tups H H':=by
 obtain⟨dx,h1,h2⟩:=h
 exact λc xs e=>b c _ (KD e h1 (by intro z;cases z)) e
theorem RAt.keep{C l:Addr}{H H':Hp}{R:Rd}{i:Nat}{xs:List V}(h:RAt C H R i)(b:But R.a H H')(hl:H l=some (.lst xs)):H' l=some (.lst xs):=by
 obtain⟨dx,h1,h2⟩:=h
 exact b _ _ (KD hl h1 (by intro z;cases z)) hl
theorem RAt.list{C l:Addr}{H:Hp}{R:Rd}{i:Nat}{xs ys:List V}(h:RAt C H R i)(hl:H l=some (.lst xs))(hn:R.l≠l):RAt C (upd H l (.lst ys)) R i:=by
 obtain⟨dx,h1,h2⟩:=h
 refine⟨dx, ?_, ?_⟩
 ·rw[C1 (KD h1 hl (by intro z;cases z))];exact h1
 ·rw[C1 hn];exact h2
mutual
inductive TmAt (H:Hp):Tm->V->Prop where
 |num {a:Addr} {n:Nat}:H a=some (.tup [.str "number",.int (n:Nat)])->TmAt H (.num n) (.ref a)
 |truth {a:Addr} {b:Bool}:H a=some (.tup [.str "truth",.bl b])->TmAt H (.truth b) (.ref a)
 |non {a:Addr}:H a=some (.tup [.str "none"])->TmAt H .non (.ref a)
 |name {a:Addr} {x:Wd}:H a=some (.tup [.str "name",.str (tx x)])->TmAt H (.name x) (.ref a)
 |two {a:Addr} {s:Wd} {t u:Tm} {v w:V}:H a=some (.tup [.str "two",.str (tx s),v,w])->TmAt H t v->TmAt H u w->TmAt H (.two s t u) (.ref a)
 |one {a:Addr} {s:Wd} {t:Tm} {v:V}:H a=some (.tup [.str "one",.str (tx s),v])->TmAt H t v->TmAt H (.one s t) (.ref a)
 |if_ {a:Addr} {c t u:Tm} {x v w:V}:H a=some (.tup [.str "if",x,v,w])->TmAt H c x->TmAt H t v->TmAt H u w->TmAt H (.if_ c t u) (.ref a)
 |let_ {a:Addr} {x:Wd} {t u:Tm} {v w:V}:H a=some (.tup [.str "let",.str (tx x),v,w])->TmAt H t v->TmAt H u w->TmAt H (.let_ x t u) (.ref a)
 |fn {a:Addr} {x:Wd} {t:Tm} {v:V}:H a=some (.tup [.str "fn",.str (tx x),v])->TmAt H t v->TmAt H (.fn x t) (.ref a)
 |do_ {a:Addr} {t u:Tm} {v w:V}:H a=some (.tup [.str "do",v,w])->TmAt H t v->TmAt H u w->TmAt H (.do_ t u) (.ref a)
 |call {a c:Addr} {x:Wd} {ts:List Tm} {vs:List V}:H a=some (.tup [.str "call",.str (tx x),.ref c])->H c=some (.tup vs)->TmsAt H ts vs->TmAt H (.call x ts) (.ref a)
inductive TmsAt (H:Hp):List Tm->List V->Prop where
 |nil:TmsAt H [] []
 |cons {t:Tm} {v:V} {ts:List Tm} {vs:List V}:TmAt H t v->TmsAt H ts vs->TmsAt H (t::ts) (v::vs)
end
mutual
theorem TmAt.mono{H H':Hp}(m:BU.Tups H H'){t:Tm}{v:V}(h:TmAt H t v):TmAt H' t v:=by
 cases h with
 |num h=>exact .num (m _ _ h)
 |truth h=>exact .truth (m _ _ h)
 |non h=>exact .non (m _ _ h)
 |name h=>exact .name (m _ _ h)
 |two h h1 h2=>exact .two (m _ _ h) (h1.mono m) (h2.mono m)
 |one h h1=>exact .one (m _ _ h) (h1.mono m)
 |if_ h h1 h2 h3=>exact .if_ (m _ _ h) (h1.mono m) (h2.mono m) (h3.mono m)
 |let_ h h1 h2=>exact .let_ (m _ _ h) (h1.mono m) (h2.mono m)
 |fn h h1=>exact .fn (m _ _ h) (h1.mono m)
 |do_ h h1 h2=>exact .do_ (m _ _ h) (h1.mono m) (h2.mono m)
 |call h hc h1=>exact .call (m _ _ h) (m _ _ hc) (h1.mono m)
theorem TmsAt.mono{H H':Hp}(m:BU.Tups H H'){ts:List Tm}{vs:List V}(h:TmsAt H ts vs):TmsAt H' ts vs:=by
 cases h with
 |nil=>exact .nil
 |cons h1 h2=>exact .cons (h1.mono m) (h2.mono m)
end
theorem TmsAt.snoc{H:Hp}:∀ {ts:List Tm} {vs:List V} {t:Tm} {v:V},TmsAt H ts vs->TmAt H t v->TmsAt H (ts++ [t]) (vs++ [v])
 |_,_,_,_,.nil,h=> .cons h .nil
 |_,_,_,_,.cons h1 h2,h=> .cons h1 (h2.snoc h)
theorem TmsAt.len{H:Hp}:∀ {ts:List Tm} {vs:List V},TmsAt H ts vs->ts.length=vs.length
 |_,_,.nil=>rfl
 |_,_,.cons _ h=>by simp only[length_cons,h.len]
end RD
namespace RD
open PySem L2
seal PE PT PW PA PS PSs PTs PI PG PGs PO
def top(i:Nat):Stmt:=PySem.Challenge.pw_speakmill_k14_no_program.main.body.getD i (.Pass ⟨0,0,0,0⟩)
abbrev s_ahead:Stmt:=L3 (top 42) 1
abbrev s_take:Stmt:=L3 (top 42) 2
abbrev s_expect:Stmt:=L3 (top 42) 3
abbrev s_read_name:Stmt:=L3 (top 42) 6
abbrev s_goes_on:Stmt:=L3 (top 42) 9
abbrev s_read_names:Stmt:=L3 (top 42) 7
abbrev bcZ:List Str:=["self"]
theorem sc_ahead:FnScope bcZ M5 (A5 s_ahead):=fS
abbrev c5Z:List Str:=["self","word"]
theorem sc_take:FnScope c5Z M5 (A5 s_take):=fS
abbrev ZO:List Str:=["self","wanted","word"]
theorem sc_expect:FnScope ZO GK (A5 s_expect):=fS
abbrev PY:List Str:=["self","word"]
theorem sc_read_name:FnScope PY M5 (A5 s_read_name):=fS
abbrev VU:List Str:=["self","many"]
theorem sc_goes_on:FnScope VU WY (A5 s_goes_on):=fS
abbrev NH:List Str:=["self","names"]
theorem sc_read_names:FnScope NH M5 (A5 s_read_names):=fS
theorem ifT{c A B:Prop}[Decidable c](h:c)(a:A):if c then A else B:=by rw[if_pos h];exact a
theorem ifF{c A B:Prop}[Decidable c](h:¬c)(b:B):if c then A else B:=by rw[if_neg h];exact b
structure RCls (K:FZ) (C:Addr) (mf:Str->Addr) (md:Str->FuncData):Prop where
 cl:Cls K C
 nf:NoAttr K C "found"
 np:NoAttr K C "place"
 m_ahead:Meth K C "ahead" (mf "ahead")
 m_take:Meth K C "take" (mf "take")
 m_expect:Meth K C "expect" (mf "expect")
 m_read_program:Meth K C "read_program" (mf "read_program")
 m_read_function:Meth K C "read_function" (mf "read_function")
 m_read_name:Meth K C "read_name" (mf "read_name")
 m_read_names:Meth K C "read_names" (mf "read_names")
 m_read_terms:Meth K C "read_terms" (mf "read_terms")
 m_goes_on:Meth K C "goes_on" (mf "goes_on")
 m_read_term:Meth K C "read_term" (mf "read_term")
 m_read_row:Meth K C "read_row" (mf "read_row")
 m_refuse_side_by_side:Meth K C "refuse_side_by_side" (mf "refuse_side_by_side")
 m_read_operand:Meth K C "read_operand" (mf "read_operand")
 m_read_tight_or_wide:Meth K C "read_tight_or_wide" (mf "read_tight_or_wide")
 m_read_if:Meth K C "read_if" (mf "read_if")
 m_read_let:Meth K C "read_let" (mf "read_let")
 m_read_fn:Meth K C "read_fn" (mf "read_fn")
 m_read_tight:Meth K C "read_tight" (mf "read_tight")
 m_read_named:Meth K C "read_named" (mf "read_named")
 b_ahead:Binds K (md "ahead") M5 []
 b_take:Binds K (md "take") M5 []
 b_expect:Binds K (md "expect") GK []
 b_read_program:Binds K (md "read_program") M5 []
 b_read_function:Binds K (md "read_function") M5 []
 b_read_name:Binds K (md "read_name") M5 []
 b_read_names:Binds K (md "read_names") M5 []
 b_read_terms:Binds K (md "read_terms") N0 []
 b_goes_on:Binds K (md "goes_on") WY []
 b_read_term:Binds K (md "read_term") N0 []
 b_read_row:Binds K (md "read_row") OZ []
 b_refuse_side_by_side:Binds K (md "refuse_side_by_side") WN []
 b_read_operand:Binds K (md "read_operand") N0 []
 b_read_tight_or_wide:Binds K (md "read_tight_or_wide") N0 []
 b_read_if:Binds K (md "read_if") N0 []
 b_read_let:Binds K (md "read_let") N0 []
 b_read_fn:Binds K (md "read_fn") N0 []
 b_read_tight:Binds K (md "read_tight") N0 []
 b_read_named:Binds K (md "read_named") aTZ []
theorem PZ(u v:V):([("found",u),("place",v)]:List (Str×V)).lookup ("found":Str)=some u:=by rfl
theorem II(u v:V):([("found",u),("place",v)]:List (Str×V)).lookup ("place":Str)=some v:=by rfl
theorem WC(u v z:V):BW ("place":Str) z ([("found",u),("place",v)]:List (Str×V))=([("found",u),("place",z)]:List (Str×V)):=by rfl
theorem mth{C:Addr}{R:Rd}{m:Str}{sp:Sp}{E:XK}{t:TA}{σ:St}{H:Hp}{Q:VK}{i:Nat}(h:RAt C H R i)(h0:σ[0]? =some (some (.ref R.a)))(hm:∀u v,([("found",u),("place",v)]:List (Str×V)).lookup m=none)
  (k:t σ H λvs H2=>sp (.ref R.a::(vs++ [])) H2 Q E):QA C m sp [] E (tVar 0) t σ H Q:=by
 obtain⟨dx,h1,h2⟩:=h
 exact⟨_,h0,R.a,dx,_,rfl,h1,hm _ _,k⟩
structure Good (ws:List Wd):Prop where
 len:ws.length<=4000
 wd:∀w∈ws,w.length<=4000/\(∀c∈w,c<16^8)/\(K10.isNum w=true->True)
theorem Good.ahead{ws:List Wd}(g:Good ws)(i:Nat):(ahead ws i).length<=4000/\(∀c∈ahead ws i,c<16^8)/\(K10.isNum (ahead ws i)=true->True):=by
 unfold RD.ahead
 cases h:ws[i]? with
 |none=>exact⟨zero_le _,λc hc=>by simp at hc,λh=>absurd h (by decide)⟩
 |some w=>exact g.wd w (mem_of_getElem? h)
theorem Good.repr{ws:List Wd}(g:Good ws)(i:Nat):(reprText (tx (RD.ahead ws i))).length<=1000000:=by
 have h:=g.ahead i
 exact le_trans (BI h.2.1) (by omega)
def Ret{α:Type}(C cT:Addr)(R:Rd)(H:Hp)(o:Option (α×Nat))(out:Hp->α->V->Prop)(Q:VK)(E:XK):Prop:=
 (∀x j r H',o=some (x,j)->But R.a H H'->RAt C H' R j->out H' x r->Q r H')/\(o=none->∀H',E (.ref cT) none H')
theorem Ret.from{α:Type}{C cT:Addr}{R:Rd}{H H1:Hp}{o:Option (α×Nat)}{out:Hp->α->V->Prop}{Q:VK}{E:XK}(h:Ret C cT R H o out Q E)(b:But R.a H H1):Ret C cT R H1 o out Q E:=
 ⟨λx j r H' e b' ra ho=>h.1 x j r H' e (b.trans b') ra ho,h.2⟩
section
variable{P:Program}{w:World}{K:FZ}{mg:Str->Option Value}{base:Heap}{C cT:Addr}{mf:Str->Addr}{md:Str->FuncData}{N3:Addr}{O6:FuncData}
inductive spAheadW(C:Addr)(vs:List V)(H:Hp)(Q:VK):Prop
 |mk:∀R i,(vs=[.ref R.a])->(RAt C H R i)->(R.ws.length<=4000)->(Q (.str (tx (ahead R.ws i))) H)->spAheadW C vs H Q
def V8(C:Addr):Sp:=λvs H Q _=>spAheadW C vs H Q
theorem YU(F:Fun K "ahead" "Reader.ahead" s_ahead (mf "ahead") (md "ahead"))(B:K10.NoG mg)(RC:RCls K C mf md):FnOk P w K mg base CX0 1 (mf "ahead") (md "ahead") M5 (V8 C):=by
 refine F.ok sc_ahead (λvs H Q E h=> ?_) (λcdv A outer s H vs Q E hr h=> ?_)
 ·obtain⟨R,i,rfl,_⟩:=h
  rfl
 obtain⟨R,i,rfl,⟨dx,h1,h2⟩,hl,q⟩:=h
 have nd:=sc_ahead.nd
 refine⟨_,(A1 (C5 (B0 GD (MY (pv 0) rfl) (C8 (P6 (K:=K)) rfl B.len_ M3 (A0 (MY (pv 0) rfl) A3)) rfl) (A7 (B2 (ixE K w (MY (pv 0) rfl) (MY (pv 0) rfl)))) B5)
   (A7 (B2 A9))), ?_⟩
 refine⟨_,rfl,R.a,C,dx,_,_,rfl,h1,RC.cl,RC.np,II _ _, ?_⟩
 refine⟨_,rfl,R.a,C,dx,_,_,rfl,h1,RC.cl,RC.nf,PZ _ _,_,_,rfl,.inl ⟨_,SqL.of h2,rfl⟩,_,_,rfl,rfl,_,rfl,W9 (λe=> ?_) (λe=> ?_)⟩
 ·have e':(i:Int)<((wds R.ws).length:Nat):=of_decide_eq_true e
  have hi:i<R.ws.length:=by rw[length_map]at e';omega
  have hat:atI (wds R.ws) (i:Int)=some (.str (tx R.ws[i])):=V5 (by rw[getElem?_map,List.getElem?_eq_getElem hi];rfl)
  refine⟨_,rfl,R.a,C,dx,_,_,rfl,h1,RC.cl,RC.nf,PZ _ _,_,rfl,R.a,C,dx,_,_,rfl,h1,RC.cl,RC.np,II _ _,(ixL h2 hat ?_)⟩
  have ea:ahead R.ws i=R.ws[i]:=by simp[ahead,hi]
  rw[ea]at q
  exact q
 ·have e':¬(i:Int)<((wds R.ws).length:Nat):=λh=>e (decide_eq_true h)
  have hi:¬i<R.ws.length:=by rw[length_map]at e';omega
  have ea:ahead R.ws i=[]:=by simp[ahead,getElem?_eq_none (le_of_not_lt hi)]
  rw[ea]at q
  exact q
inductive spTakeW (C:Addr) (vs:List V) (H:Hp) (Q:VK):Prop
 |mk:∀R i,(vs=[.ref R.a])->(RAt C H R i)->(R.ws.length<=4000)->(∀H',But R.a H H'->RAt C H' R (i+1)->Q (.str (tx (ahead R.ws i))) H')->spTakeW C vs H Q
def CV(C:Addr):Sp:=λvs H Q _=>spTakeW C vs H Q
theorem bfZ(F:Fun K "take" "Reader.take" s_take (mf "take") (md "take"))(RC:RCls K C mf md)(J1:FnOk P w K mg base CX0 1 (mf "ahead") (md "ahead") M5 (V8 C)):FnOk P w K mg base CX0 2 (mf "take") (md "take") M5 (CV C):=by
 refine F.ok sc_take (λvs H Q E h=> ?_) (λcdv A outer s H vs Q E hr h=> ?_)
 ·obtain⟨R,i,rfl,_⟩:=h
  rfl
 obtain⟨R,i,rfl,hR,hl,q⟩:=h
 obtain⟨dx,h1,h2⟩:=id hR
 have nd:=sc_take.nd
 refine⟨_,(A1 (B3 (i:=1) nd rfl (Or.inl rfl) (D4 (pv 0) RC.cl RC.m_ahead J1 (hr.mono (by omega)) RC.b_ahead .nil C6))
   (A1 (WQ (pv 0) A4 cEZ)
   (A7 (B2 (pv 1))))), ?_⟩
 refine mth hR rfl (λ_ _=>rfl) ⟨R,i,rfl,hR,hl, ?_⟩
 refine⟨_,rfl,R.a,C,dx,_,_,rfl,h1,RC.cl,RC.np,II _ _,_,_,rfl,rfl,dx,_,h1,(by show 2<1000;decide), ?_⟩
 rw[WC]
 refine⟨_,rfl,q _ (V4 _) ⟨dx,A2, ?_⟩⟩
 rw[C1 (KD h2 h1 (by intro z;cases z))]
 exact h2
inductive spExpectW (C cT:Addr) (vs:List V) (H:Hp) (Q:VK) (E:XK):Prop
 |mk:∀R i z x,(vs=[.ref R.a,.str z])->(z=tx x)->(x.length<=10)->((∀c∈x,c<16^8))->(RAt C H R i)->(Good R.ws)->(Ret C cT R H ((expect R.ws x i).map λj=>((),j)) (λ_ _ r=>r=.non) Q E)->spExpectW C cT vs H Q E
def Q9(C cT:Addr):Sp:=λvs H Q E=>spExpectW C cT vs H Q E
theorem WU(F:Fun K "expect" "Reader.expect" s_expect (mf "expect") (md "expect"))(RC:RCls K C mf md)(X_BadText:XCls K mg "BadText" cT)(M9:FnOk P w K mg base CX0 2 (mf "take") (md "take") M5 (CV C)):
  FnOk P w K mg base (CXr P w) 3 (mf "expect") (md "expect") GK (Q9 C cT):=by
 refine F.okX sc_expect (λvs H Q E h=> ?_) (λcdv A outer s H vs Q E hr h=> ?_)
 ·obtain⟨R,i,z,x,rfl,_⟩:=h
  rfl
 obtain⟨R,i,z,x,rfl,rfl,hx,hx8,hR,g,q⟩:=h
 have nd:=sc_expect.nd
 have hu:=hr.units0
 refine⟨_,(A1 (B3 (i:=2) nd rfl (Or.inl rfl) (D4 (pv 0) RC.cl RC.m_take M9 (hr.mono (by omega)) RC.b_take .nil C6))
   (A7 (C5 (B0 (kNe (K:=K) hu) (pv 2) (pv 1) rfl) (A7 (M8 PySem.F.excBase_ValueError (by decide) X_BadText.q rfl X_BadText.m (A0 (Q4 (D6 (DI (pv 1)) (D6 (M4 (by decide)) (D6 (DI (pv 2)) (D6 (M4 (by decide)) V1))))) A3))) B5))), ?_⟩
 refine mth hR rfl (λ_ _=>rfl) ⟨R,i,rfl,hR,g.len,λH1 b1 hR1=> ?_⟩
 refine⟨_,rfl,_,rfl,.inl ⟨rfl,_,rfl, ?_⟩⟩
 rw[ZA]
 by_cases e:ahead R.ws i=x
 ·have eo:((expect R.ws x i).map λj=>((),j))=some ((),i+1):=by rw[expect,if_pos e];rfl
  rw[decide_eq_true e]
  exact ifF (by decide) (q.1 () (i+1) .non H1 eo b1 hR1 rfl)
 ·have eo:((expect R.ws x i).map λj=>((),j))=none:=by rw[expect,if_neg e];rfl
  rw[decide_eq_false e]
  refine ifT (by decide) ?_
  have hr1:(reprText (tx x)).length<=1000000:=le_trans (BI hx8) (by omega)
  exact⟨_,rfl,_,rfl,hr1,_,rfl,_,rfl,g.repr i,λz hz=>⟨by show 1<=sizeLine;decide,q.2 eo H1⟩⟩
inductive spReadNameW (C cT:Addr) (vs:List V) (H:Hp) (Q:VK) (E:XK):Prop
 |mk:∀R i,(vs=[.ref R.a])->(RAt C H R i)->(Good R.ws)->(Ret C cT R H (P1 K10.isName R.ws i) (λ_ x r=>r=.str (tx x)) Q E)->spReadNameW C cT vs H Q E
def V3(C cT:Addr):Sp:=λvs H Q E=>spReadNameW C cT vs H Q E
theorem LX(F:Fun K "read_name" "Reader.read_name" s_read_name (mf "read_name") (md "read_name"))(RC:RCls K C mf md)(X_BadText:XCls K mg "BadText" cT)(M9:FnOk P w K mg base CX0 2 (mf "take") (md "take") M5 (CV C))
  (L8:Cn P w K mg base CX0 2 "is_name" CK K10.spName):
  FnOk P w K mg base (CXr P w) 3 (mf "read_name") (md "read_name") M5 (V3 C cT):=by
 obtain⟨N3,O6,L8,T9,U1,U3⟩:=L8
 refine F.okX sc_read_name (λvs H Q E h=> ?_) (λcdv A outer s H vs Q E hr h=> ?_)
 ·obtain⟨R,i,rfl,_⟩:=h
  rfl
 obtain⟨R,i,rfl,hR,g,q⟩:=h
 have nd:=sc_read_name.nd
 have hu:=hr.units0
 refine⟨_,(A1 (B3 (i:=1) nd rfl (Or.inl rfl) (D4 (pv 0) RC.cl RC.m_take M9 (hr.mono (by omega)) RC.b_take .nil C6))
   (A1 (C5 (LV (O3 (K:=K) (C3 L8 (hr.mono (by omega)) rfl U3 U1 T9 .nil C6 (A0 (pv 1) A3)) (λ_=>rfl))) (A7 (M8 PySem.F.excBase_ValueError (by decide) X_BadText.q rfl X_BadText.m (A0 (Q4 (D6 (M4 (by decide)) (D6 (DI (pv 1)) (D6 (M4 (by decide)) V1)))) A3))) B5)
   (A7 (B2 (pv 1))))), ?_⟩
 refine mth hR rfl (λ_ _=>rfl) ⟨R,i,rfl,hR,g.len,λH1 b1 hR1=> ?_⟩
 refine⟨_,rfl,ahead R.ws i,rfl,(g.ahead i).1,λH2 s2=>⟨_,rfl, ?_⟩⟩
 have b2:=b1.trans (Same.but s2)
 unfold P1 at q
 cases hn:K10.isName (ahead R.ws i)with
 |true=>
  rw[if_pos hn]at q
  exact ifF (by decide) ⟨_,rfl,q.1 _ _ _ H2 rfl b2 (hR1.same s2) rfl⟩
 |false=>
  rw[if_neg (by rw[hn];decide)]at q
  exact ifT (by decide) ⟨_,rfl,_,rfl,g.repr i,λz hz=>⟨by show 1<=sizeLine;decide,q.2 rfl H2⟩⟩
inductive spGoesW (C cT:Addr) (vs:List V) (H:Hp) (Q:VK) (E:XK):Prop
 |mk:∀R i many,(vs=[.ref R.a,.int (many:Nat)])->(RAt C H R i)->(Good R.ws)->(Ret C cT R H (P7 R.ws many i) (λ_ b r=>r=.bl b) Q E)->spGoesW C cT vs H Q E
def ME(C cT:Addr):Sp:=λvs H Q E=>spGoesW C cT vs H Q E
theorem SF(F:Fun K "goes_on" "Reader.goes_on" s_goes_on (mf "goes_on") (md "goes_on"))(RC:RCls K C mf md)(X_BadText:XCls K mg "BadText" cT){t1:Tok}(m_MOST_LISTED:mg "MOST_LISTED"=some (.int 4 t1))
  (J1:FnOk P w K mg base CX0 1 (mf "ahead") (md "ahead") M5 (V8 C))(M9:FnOk P w K mg base CX0 2 (mf "take") (md "take") M5 (CV C))(D9:FnOk P w K mg base (CXr P w) 3 (mf "expect") (md "expect") GK (Q9 C cT)):
  FnOk P w K mg base (CXr P w) 4 (mf "goes_on") (md "goes_on") WY (ME C cT):=by
 refine F.okX sc_goes_on (λvs H Q E h=> ?_) (λcdv A outer s H vs Q E hr h=> ?_)
 ·obtain⟨R,i,many,rfl,_⟩:=h
  rfl
 obtain⟨R,i,many,rfl,hR,g,q⟩:=h
 have nd:=sc_goes_on.nd
 have hu:=hr.units0
 refine⟨_,(A1 (C5 (B0 (kEq (K:=K) hu) (D4 (pv 0) RC.cl RC.m_ahead J1 (hr.mono (by omega)) RC.b_ahead .nil C6) A9 rfl) (A1 (E3 (D4 (pv 0) RC.cl RC.m_take M9 (hr.mono (by omega)) RC.b_take .nil C6))
   (A7 (B2 BR))) B5)
   (A1 (C5 (B0 (kEq (K:=K) hu) (pv 1) (C7 (v:=.int 4) rfl m_MOST_LISTED ⟨_,rfl⟩) rfl) (A7 (M8 PySem.F.excBase_ValueError (by decide) X_BadText.q rfl X_BadText.m (A0 (Q4 (D6 (M4 (by decide)) (D6 (CY (C7 (v:=.int 4) rfl m_MOST_LISTED ⟨_,rfl⟩)) (D6 (M4 (by decide)) V1)))) A3))) B5)
   (A1 (L6 (C5 (B0 X3 (pv 1) A4 rfl) (A7 (E3 (C4 (pv 0) RC.cl RC.m_expect D9 (hr.mono (by omega)) RC.b_expect .nil B6 (A0 A9 A3)))) B5))
   (A7 (B2 BR))))), ?_⟩
 unfold P7 at q
 refine mth hR rfl (λ_ _=>rfl) ⟨R,i,rfl,hR,g.len,.inl ⟨rfl,_,rfl, ?_⟩⟩
 rw[K10.eq_lit (l:=D7) (by decide +kernel)]
 by_cases e:ahead R.ws i=D7
 ·rw[if_pos e]at q
  rw[decide_eq_true e]
  refine ifT rfl (mth hR rfl (λ_ _=>rfl) ⟨R,i,rfl,hR,g.len,λH1 b1 hR1=> ?_⟩)
  exact q.1 false (i+1) _ H1 rfl b1 hR1 rfl
 rw[if_neg e]at q
 rw[decide_eq_false e]
 refine ifF (by decide) ⟨_,rfl,.inl ⟨rfl,_,rfl, ?_⟩⟩
 by_cases e4:many=4
 ·rw[if_pos e4]at q
  subst e4
  exact ifT (by decide) ⟨_,rfl,by decide,by decide +kernel,λz hz=>⟨by show 1<=sizeLine;decide,q.2 rfl H⟩⟩
 rw[if_neg e4]at q
 refine ifF (λh=>e4 (by have:=of_decide_eq_true h;injection this with h;omega)) ?_
 by_cases e0:0<many
 ·rw[if_pos e0]at q
  refine⟨fun σ' H'=>σ'=[some (.ref R.a),some (.int (many:Nat))]/\But R.a H H'/\ahead R.ws i=L4/\RAt C H' R (i+1), ?_, ?_⟩
  ·refine⟨_,rfl,_,_,rfl,rfl,_,rfl,ifT (decide_eq_true (by omega)) ?_⟩
   refine mth hR rfl (λ_ _=>rfl) ⟨R,i,_,L4,rfl,by decide +kernel,by decide,by decide,hR,g,λx j r H1 eo b1 hR1 hr1=> ?_,λeo H1=> ?_⟩
   ·obtain⟨j',he,ej⟩:=map_eq_some_iff.mp eo
    obtain⟨e1,rfl⟩:=W8 he
    cases ej
    exact⟨rfl,b1,e1,hR1⟩
   ·have eo':expect R.ws L4 i=none:=map_eq_none_iff.mp eo
    rw[eo']at q
    exact q.2 rfl H1
  ·rintro σ' H1 ⟨rfl,b1,e1,hR1⟩
   have eo:expect R.ws L4 i=some (i+1):=by rw[expect,if_pos e1]
   rw[eo]at q
   exact q.1 true (i+1) _ H1 rfl b1 hR1 rfl
 ·rw[if_neg e0]at q
  refine⟨fun σ' H'=>σ'=[some (.ref R.a),some (.int (many:Nat))]/\H'=H, ?_, ?_⟩
  ·exact⟨_,rfl,_,_,rfl,rfl,_,rfl,ifF (λh=>e0 (by have:=of_decide_eq_true h;omega)) ⟨rfl,rfl⟩⟩
  ·rintro σ' H1 ⟨rfl,rfl⟩
   exact q.1 true i _ H1 rfl But.refl hR rfl
end
abbrev s_read_terms:Stmt:=L3 (top 42) 8
abbrev s_read_term:Stmt:=L3 (top 42) 10
abbrev s_strength_behind:Stmt:=top 41
abbrev s_refuse_side_by_side:Stmt:=L3 (top 42) 12
abbrev MK:List Str:=["self","level","terms"]
theorem sc_read_terms:FnScope MK N0 (A5 s_read_terms):=fS
abbrev PD:List Str:=["self","level"]
theorem sc_read_term:FnScope PD N0 (A5 s_read_term):=fS
abbrev EJ:List Str:=["sign"]
theorem sc_strength_behind:FnScope EJ GR (A5 s_strength_behind):=fS
abbrev BV:List Str:=["self","sign"]
theorem sc_refuse_side_by_side:FnScope BV WN (A5 s_refuse_side_by_side):=fS
theorem A6{H:Hp}{p:Addr}(h:H p=none)(o:HO):Same H (upd H p o):=λb u q=>by rw[C1 (B8 q h)];exact q
structure NoG (mg:Str->Option Value):Prop extends K10.NoG mg where
 tuple_:mg "tuple"=none
 int_:mg "int"=none
 any_:mg "any"=none
 sum_:mg "sum"=none
 bool_:mg "bool"=none
theorem KA{ws:List Wd}{many i j:Nat}(h:P7 ws many i=some (true,j)):i<=j/\H0 ws j=H0 ws i/\many≠4:=by
 unfold P7 at h
 split at h
 ·cases h
 ·split at h
  ·cases h
  ·rename_i h4
   split at h
   ·cases he:expect ws L4 i with
    |none=>rw[he]at h;cases h
    |some k=>
     rw[he]at h
     cases h
     have:=D5 he (by simp) (by decide)
     exact⟨le_of_lt this.1,this.2.1,h4⟩
   ·cases h;exact⟨le_refl _,rfl,h4⟩
abbrev S7(ws:List Wd)(n:Nat):=(K2 K10.isNum K10.isName ws n).1
abbrev cMZ(ws:List Wd)(n:Nat):=(K2 K10.isNum K10.isName ws n).2
def Pre(k:Int)(n level:Nat)(ws:List Wd)(i:Nat):Prop:=(33:Int)<=n+level+H0 ws i+k/\∀j,H0 ws j<=16
theorem plainK:Plain K10.isNum K10.isName where
 num:=λw h=>by
  cases w with
  |nil=>exact absurd h (by decide)
  |cons c r=>
   refine⟨by simp, ?_⟩
   have hc:K10.figure c=true:=by
    unfold K10.isNum at h
    simp at h
    exact h.2.1.1
   unfold delta
   rw[if_neg (λe=>by injection e with e _;subst e;exact absurd hc (by decide)),if_neg (λe=>by injection e with e _;subst e;exact absurd hc (by decide))]
   rfl
 name:=λw h=>by
  cases w with
  |nil=>exact absurd h (by decide)
  |cons c r=>
   refine⟨by simp, ?_⟩
   have hc:K10.letter c=true:=by
    unfold K10.isName at h
    simp at h
    exact h.2.1
   unfold delta
   rw[if_neg (λe=>by injection e with e _;subst e;exact absurd hc (by decide)),if_neg (λe=>by injection e with e _;subst e;exact absurd hc (by decide))]
   rfl
section
variable{P:Program}{w:World}{K:FZ}{mg:Str->Option Value}{base:Heap}{C cT:Addr}{mf:Str->Addr}{md:Str->FuncData}{N3:Addr}{O6:FuncData}{f:Addr}{fd:FuncData}{sd cm:Addr}
theorem LQ{p l:Addr}{H H':Hp}{o:HO}(b:But p H H')(h:H l=none):But p H (upd H' l o):=λc u n e=>by rw[C1 (B8 e h)];exact b c u n e
inductive spNamesW (C cT:Addr) (vs:List V) (H:Hp) (Q:VK) (E:XK):Prop
 |mk:∀R i,(vs=[.ref R.a])->(RAt C H R i)->(Good R.ws)->(Ret C cT R H (BJ K10.isName R.ws i) (λH' xs r=>∃p,r=.ref p/\H' p=some (.tup (wds xs))) Q E)->spNamesW C cT vs H Q E
def TQ(C cT:Addr):Sp:=λvs H Q E=>spNamesW C cT vs H Q E
theorem JX(F:Fun K "read_names" "Reader.read_names" s_read_names (mf "read_names") (md "read_names"))(B:NoG mg)(RC:RCls K C mf md)
  (D9:FnOk P w K mg base (CXr P w) 3 (mf "expect") (md "expect") GK (Q9 C cT))(AI:FnOk P w K mg base (CXr P w) 4 (mf "goes_on") (md "goes_on") WY (ME C cT))
  (L7:FnOk P w K mg base (CXr P w) 3 (mf "read_name") (md "read_name") M5 (V3 C cT)):
  FnOk P w K mg base (CXr P w) 5 (mf "read_names") (md "read_names") M5 (TQ C cT):=by
 refine F.okX sc_read_names (λvs H Q E h=> ?_) (λcdv A outer s H vs Q E hr h=> ?_)
 ·obtain⟨R,i,rfl,_⟩:=h
  rfl
 obtain⟨R,i,rfl,hR,g,q⟩:=h
 have nd:=sc_read_names.nd
 have hu:=hr.units0
 have zz:(10:Nat)<sizeLine:=by decide
 refine⟨_,(A1 (E3 (C4 (pv 0) RC.cl RC.m_expect D9 (hr.mono (by omega)) RC.b_expect .nil B6 (A0 A9 A3)))
   (A1 (B3 (i:=1) nd rfl (Or.inl rfl) (J5 A3))
   (A1 (O4 PassesOwn.leaving (O3 (K:=K) (C4 (pv 0) RC.cl RC.m_goes_on AI (hr.mono (by omega)) RC.b_goes_on .nil B6 (A0 (C8 (P6 (K:=K)) rfl B.len_ M3 (A0 (pv 1) A3)) A3)) (λ_=>rfl)) (A7 (E3 (CP (K:=K) PySem.F.plainAttrs_list PySem.F.slot_list_append PySem.F.type_list_append Q0 (pv 1) (A0 (D4 (pv 0) RC.cl RC.m_read_name L7 (hr.mono (by omega)) RC.b_read_name .nil B6) A3)))))
   (A7 (B2 (L9 (DG (K:=K)) rfl B.tuple_ Z1 (A0 (pv 1) A3))))))), ?_⟩
 unfold BJ at q
 refine mth hR rfl (λ_ _=>rfl) ⟨R,i,_,E6,rfl,by decide +kernel,by decide,by decide,hR,g,λx j r H1 eo b1 hR1 hr1=> ?_,λeo H1=> ?_⟩
 case refine_2=>
  rw[map_eq_none_iff.mp eo]at q
  exact q.2 rfl H1
 obtain⟨j',he,ej⟩:=map_eq_some_iff.mp eo
 cases ej
 rw[he]at q
 simp only[bind_some]at q
 have q:=q.from b1
 refine⟨(by show 0<=sizeLine;decide),λnl hnl=> ?_⟩
 have hln:R.l≠nl:=by
  obtain⟨dx,_,h2⟩:=hR1
  exact B8 h2 hnl
 obtain⟨oo,hoo⟩:∃oo,K6 R.ws (P1 K10.isName R.ws) 5 [] j=oo:=⟨_,rfl⟩
 rw[hoo]at q
 refine⟨λm σ H'=>∃(n k:Nat) (acc:List Wd),σ=[some (.ref R.a),some (.ref nl)]/\But R.a H1 H'/\RAt C H' R k/\H' nl=some (.lst (wds acc))/\K6 R.ws (P1 K10.isName R.ws) n acc k=oo/\n+acc.length=5/\1<=n/\m=n,
  ⟨5,5,j,[],rfl,Same.but (A6 hnl _),hR1.same (A6 hnl _),A2,hoo,rfl,by decide,rfl⟩, ?_⟩
 rintro m σ H3 ⟨_,k,acc,rfl,b3,hR3,hn3,ho,hna,h1n,rfl⟩
 obtain⟨n,rfl⟩:∃n',m=n'+1:=⟨m - 1,by omega⟩
 unfold K6 at ho
 refine mth hR3 rfl (λ_ _=>rfl) ⟨_,rfl,_,_,rfl,.inl ⟨_,SqL.of hn3,rfl⟩,R,k,acc.length, ?_,hR3,g,λb j2 r H4 eo b4 hR4 hr4=> ?_,λeo H4=> ?_⟩
 ·simp only[length_map];rfl
 ·subst hr4
  rw[eo]at ho
  have hn4:=hR3.keep b4 hn3
  refine⟨b,rfl, ?_⟩
  cases b with
  |false=>
   refine ifF (by decide) ?_
   refine⟨_,rfl,nl,_,rfl,.inl ⟨SqL.of hn4,λp hp=> ?_⟩⟩
   exact q.1 acc j2 _ _ ho.symm ((b3.trans b4).trans (Same.but (A6 hp _))) (hR4.same (A6 hp _)) ⟨p,rfl,A2⟩
  |true=>
   obtain⟨_,_,h4⟩:=KA eo
   refine ifT rfl ⟨_,λ_ _ h=>h, ?_⟩
   refine⟨_,rfl,.inl ⟨rfl,_,SqL.of hn4⟩,mth hR4 rfl (λ_ _=>rfl) ⟨R,j2,rfl,hR4,g,λx j3 r H5 eo2 b5 hR5 hr5=> ?_,λeo2 H5=> ?_⟩⟩
   ·subst hr5
    have hn5:=hR4.keep b5 hn4
    refine⟨nl,_,_,rfl,rfl,hn5,by rw[length_map];omega, ?_⟩
    refine⟨n,lt_succ_self _,n,j3,acc++ [x],rfl,LQ ((b3.trans b4).trans b5) hnl,hR5.list hn5 hln, ?_, ?_,by simp;omega,by omega,rfl⟩
    ·rw[A2];simp[wds]
    ·rw[<-ho]
     dsimp only
     rw[eo2]
   ·dsimp only at ho
    rw[eo2]at ho
    exact q.2 ho.symm H5
 ·rw[eo]at ho
  exact q.2 ho.symm H4
end
abbrev s_read_named:Stmt:=L3 (top 42) 19
abbrev s_read_tight:Stmt:=L3 (top 42) 18
abbrev s_read_if:Stmt:=L3 (top 42) 15
abbrev s_read_let:Stmt:=L3 (top 42) 16
abbrev s_read_fn:Stmt:=L3 (top 42) 17
abbrev s_read_tight_or_wide:Stmt:=L3 (top 42) 14
abbrev NA:List Str:=["self","name","level"]
theorem sc_read_named:FnScope NA aTZ (A5 s_read_named):=fS
abbrev MD:List Str:=["self","level","word","term"]
theorem sc_read_tight:FnScope MD N0 (A5 s_read_tight):=fS
abbrev XB:List Str:=["self","level","asked","chosen"]
theorem sc_read_if:FnScope XB N0 (A5 s_read_if):=fS
abbrev RZ:List Str:=["self","level","name","meant"]
theorem sc_read_let:FnScope RZ N0 (A5 s_read_let):=fS
abbrev XS:List Str:=["self","level","name"]
theorem sc_read_fn:FnScope XS N0 (A5 s_read_fn):=fS
abbrev CU:List Str:=["self","level","word"]
theorem sc_read_tight_or_wide:FnScope CU N0 (A5 s_read_tight_or_wide):=fS
section
variable{P:Program}{w:World}{K:FZ}{mg:Str->Option Value}{base:Heap}{C cT:Addr}{mf:Str->Addr}{md:Str->FuncData}{N3 O0:Addr}{O6 P4:FuncData}{n:Nat}
inductive spRowW(C cT:Addr)(n:Nat)(vs:List V)(H:Hp)(Q:VK)(E:XK):Prop
 |mk:∀R i least level,(vs=[.ref R.a,.int (least:Nat),.int (level:Nat)])->(RAt C H R i)->(Good R.ws)->(1<=least)->(Pre 0 n level R.ws i)->(Ret C cT R H (S7 R.ws n least level i) TmAt Q E)->spRowW C cT n vs H Q E
def OH(C cT:Addr)(n:Nat):Sp:=λvs H Q E=>spRowW C cT n vs H Q E
inductive spTermW (C cT:Addr) (n:Nat) (vs:List V) (H:Hp) (Q:VK) (E:XK):Prop
 |mk:∀R i level,(vs=[.ref R.a,.int (level:Nat)])->(RAt C H R i)->(Good R.ws)->(Pre 0 n level R.ws i)->(Ret C cT R H (S7 R.ws n 1 level i) TmAt Q E)->spTermW C cT n vs H Q E
def AB(C cT:Addr)(n:Nat):Sp:=λvs H Q E=>spTermW C cT n vs H Q E
theorem EH(F:Fun K "read_term" "Reader.read_term" s_read_term (mf "read_term") (md "read_term"))(RC:RCls K C mf md){t1:Tok}(m_LEAST_STRENGTH:mg "LEAST_STRENGTH"=some (.int 1 t1))
  (Y0:FnOk P w K mg base (CXr P w) (7*n+6) (mf "read_row") (md "read_row") OZ (OH C cT n)):FnOk P w K mg base (CXr P w) (7*n+7) (mf "read_term") (md "read_term") N0 (AB C cT n):=by
 refine F.okX sc_read_term (λvs H Q E h=> ?_) (λcdv A outer s H vs Q E hr h=> ?_)
 ·obtain⟨R,i,level,rfl,_⟩:=h
  rfl
 obtain⟨R,i,level,rfl,hR,g,pre,q⟩:=h
 have nd:=sc_read_term.nd
 refine⟨_,(A7 (B2 (C4 (pv 0) RC.cl RC.m_read_row Y0 (hr.mono (by omega)) RC.b_read_row .nil B6 (A0 (C7 (v:=.int 1) rfl m_LEAST_STRENGTH ⟨_,rfl⟩) (A0 (pv 1) A3))))), ?_⟩
 exact mth hR rfl (λ_ _=>rfl) ⟨_,rfl,R,i,1,level,rfl,hR,g,le_refl 1,pre,q⟩
inductive spTermsW (C cT:Addr) (n:Nat) (vs:List V) (H:Hp) (Q:VK) (E:XK):Prop
 |mk:∀R i level,(vs=[.ref R.a,.int (level:Nat)])->(RAt C H R i)->(Good R.ws)->(Pre 1 n level R.ws i)->(Ret C cT R H (BC R.ws (S7 R.ws n) level i) (λH' ts r=>∃p vs,r=.ref p/\H' p=some (.tup vs)/\TmsAt H' ts vs) Q E)->spTermsW C cT n vs H Q E
def VH(C cT:Addr)(n:Nat):Sp:=λvs H Q E=>spTermsW C cT n vs H Q E
theorem JZ(F:Fun K "read_terms" "Reader.read_terms" s_read_terms (mf "read_terms") (md "read_terms"))(B:NoG mg)(RC:RCls K C mf md)
  (D9:FnOk P w K mg base (CXr P w) 3 (mf "expect") (md "expect") GK (Q9 C cT))(AI:FnOk P w K mg base (CXr P w) 4 (mf "goes_on") (md "goes_on") WY (ME C cT))
  (J3:FnOk P w K mg base (CXr P w) (7*n+7) (mf "read_term") (md "read_term") N0 (AB C cT n)):
  FnOk P w K mg base (CXr P w) (7*n+8) (mf "read_terms") (md "read_terms") N0 (VH C cT n):=by
 refine F.okX sc_read_terms (λvs H Q E h=> ?_) (λcdv A outer s H vs Q E hr h=> ?_)
 ·obtain⟨R,i,level,rfl,_⟩:=h
  rfl
 obtain⟨R,i,level,rfl,hR,g,pre,q⟩:=h
 have nd:=sc_read_terms.nd
 have hu:=hr.units0
 have zz:(10:Nat)<sizeLine:=by decide
 refine⟨_,(A1 (E3 (C4 (pv 0) RC.cl RC.m_expect D9 (hr.mono (by omega)) RC.b_expect .nil B6 (A0 A9 A3)))
   (A1 (B3 (i:=2) nd rfl (Or.inl rfl) (J5 A3))
   (A1 (O4 PassesOwn.leaving (O3 (K:=K) (C4 (pv 0) RC.cl RC.m_goes_on AI (hr.mono (by omega)) RC.b_goes_on .nil B6 (A0 (C8 (P6 (K:=K)) rfl B.len_ M3 (A0 (pv 2) A3)) A3)) (λ_=>rfl)) (A7 (E3 (CP (K:=K) PySem.F.plainAttrs_list PySem.F.slot_list_append PySem.F.type_list_append Q0 (pv 2) (A0 (C4 (pv 0) RC.cl RC.m_read_term J3 (hr.mono (by omega)) RC.b_read_term .nil B6 (A0 (pv 1) A3)) A3)))))
   (A7 (B2 (L9 (DG (K:=K)) rfl B.tuple_ Z1 (A0 (pv 2) A3))))))), ?_⟩
 unfold BC at q
 refine mth hR rfl (λ_ _=>rfl) ⟨R,i,_,E6,rfl,by decide +kernel,by decide,by decide,hR,g,λx j r H1 eo b1 hR1 hr1=> ?_,λeo H1=> ?_⟩
 case refine_2=>
  rw[map_eq_none_iff.mp eo]at q
  exact q.2 rfl H1
 obtain⟨j',he,ej⟩:=map_eq_some_iff.mp eo
 cases ej
 have hst:=(HA he).2
 rw[he]at q
 simp only[bind_some]at q
 have q:=q.from b1
 refine⟨(by show 0<=sizeLine;decide),λnl hnl=> ?_⟩
 have hln:R.l≠nl:=by
  obtain⟨dx,_,h2⟩:=hR1
  exact B8 h2 hnl
 obtain⟨oo,hoo⟩:∃oo,K6 R.ws (S7 R.ws n 1 level) 5 [] j=oo:=⟨_,rfl⟩
 rw[hoo]at q
 refine⟨λm σ H'=>∃(n' k:Nat) (acc:List Tm) (vs:List V),σ=[some (.ref R.a),some (.int (level:Nat)),some (.ref nl)]/\But R.a H1 H'/\RAt C H' R k/\H' nl=some (.lst vs)/\TmsAt H' acc vs/\H0 R.ws k=H0 R.ws i+1/\K6 R.ws (S7 R.ws n 1 level) n' acc k=oo/\n'+acc.length=5/\1<=n'/\m=n',
  ⟨5,5,j,[],[],rfl,Same.but (A6 hnl _),hR1.same (A6 hnl _),A2,.nil,hst,hoo,rfl,by decide,rfl⟩, ?_⟩
 rintro m σ H3 ⟨_,k,acc,vs,rfl,b3,hR3,hn3,hT3,hst3,ho,hna,h1n,rfl⟩
 obtain⟨m,rfl⟩:∃n',m=n'+1:=⟨m - 1,by omega⟩
 have hvl:=hT3.len
 unfold K6 at ho
 refine mth hR3 rfl (λ_ _=>rfl) ⟨_,rfl,_,_,rfl,.inl ⟨_,SqL.of hn3,rfl⟩,R,k,acc.length,by rw[hvl];rfl,hR3,g,λb j2 r H4 eo b4 hR4 hr4=> ?_,λeo H4=> ?_⟩
 ·subst hr4
  rw[eo]at ho
  have hn4:=hR3.keep b4 hn3
  have hT4:=hT3.mono (hR3.tups b4)
  refine⟨b,rfl, ?_⟩
  cases b with
  |false=>
   refine ifF (by decide) ?_
   refine⟨_,rfl,nl,_,rfl,.inl ⟨SqL.of hn4,λp hp=> ?_⟩⟩
   have s5:=A6 hp (.tup vs)
   exact q.1 acc j2 _ _ ho.symm ((b3.trans b4).trans (Same.but s5)) (hR4.same s5) ⟨p,vs,rfl,A2,hT4.mono (BU.tups_of s5)⟩
  |true=>
   obtain⟨_,hst4,h4⟩:=KA eo
   refine ifT rfl ⟨_,λ_ _ h=>h, ?_⟩
   refine⟨_,rfl,.inl ⟨rfl,_,SqL.of hn4⟩,mth hR4 rfl (λ_ _=>rfl) ⟨_,rfl,R,j2,level,rfl,hR4,g,⟨by have:=pre.1;omega,pre.2⟩,λx j3 r H5 eo2 b5 hR5 hr5=> ?_,λeo2 H5=> ?_⟩⟩
   ·have hn5:=hR4.keep b5 hn4
    have hb:=(T3 (ws:=R.ws) plainK n).1 1 level j2 _ (le_refl 1) eo2
    refine⟨nl,_,_,rfl,rfl,hn5,by omega, ?_⟩
    have t6:BU.Tups H5 (upd H5 nl (.lst (vs++ [r]))):=.lst hn5 _
    refine⟨m,lt_succ_self _,m,j3,acc++ [x],vs++ [r],rfl,LQ ((b3.trans b4).trans b5) hnl,hR5.list hn5 hln,A2,((hT4.mono (hR4.tups b5)).snoc hr5).mono t6, ?_, ?_,by simp;omega,by omega,rfl⟩
    ·have:H0 R.ws j3=H0 R.ws j2:=hb.2.1
     omega
    ·rw[<-ho]
     dsimp only
     rw[eo2]
   ·dsimp only at ho
    rw[eo2]at ho
    exact q.2 ho.symm H5
 ·rw[eo]at ho
  exact q.2 ho.symm H4
inductive spNamedW (C cT:Addr) (n:Nat) (vs:List V) (H:Hp) (Q:VK) (E:XK):Prop
 |mk:∀R i x level,(vs=[.ref R.a,.str (tx x),.int (level:Nat)])->(RAt C H R i)->(Good R.ws)->(Pre 1 n level R.ws i)->(Ret C cT R H (BL R.ws (S7 R.ws n) x level i) TmAt Q E)->spNamedW C cT n vs H Q E
def UX(C cT:Addr)(n:Nat):Sp:=λvs H Q E=>spNamedW C cT n vs H Q E
theorem JU(F:Fun K "read_named" "Reader.read_named" s_read_named (mf "read_named") (md "read_named"))(RC:RCls K C mf md)
  (J1:FnOk P w K mg base CX0 1 (mf "ahead") (md "ahead") M5 (V8 C))(LN:FnOk P w K mg base (CXr P w) (7*n+8) (mf "read_terms") (md "read_terms") N0 (VH C cT n)):
  FnOk P w K mg base (CXr P w) (7*n+9) (mf "read_named") (md "read_named") aTZ (UX C cT n):=by
 refine F.okX sc_read_named (λvs H Q E h=> ?_) (λcdv A outer s H vs Q E hr h=> ?_)
 ·obtain⟨R,i,x,level,rfl,_⟩:=h
  rfl
 obtain⟨R,i,x,level,rfl,hR,g,pre,q⟩:=h
 have nd:=sc_read_named.nd
 have hu:=hr.units0
 refine⟨_,(A1 (C5 (B0 (kEq (K:=K) hu) (D4 (pv 0) RC.cl RC.m_ahead J1 (hr.mono (by omega)) RC.b_ahead .nil C6) A9 rfl) (A7 (B2 (E1 (A0 A9 (A0 (pv 1) (A0 (C4 (pv 0) RC.cl RC.m_read_terms LN (hr.mono (by omega)) RC.b_read_terms .nil B6 (A0 (A8 D3 (pv 2) A4) A3)) A3)))))) B5)
   (A7 (B2 (E1 (A0 A9 (A0 (pv 1) A3)))))), ?_⟩
 unfold BL at q
 refine mth hR rfl (λ_ _=>rfl) ⟨R,i,rfl,hR,g.len,.inl ⟨rfl,_,rfl, ?_⟩⟩
 rw[K10.eq_lit (l:=E6) (by decide +kernel)]
 by_cases e:ahead R.ws i=E6
 ·rw[if_pos e]at q
  rw[decide_eq_true e]
  refine ifT rfl ⟨_,rfl,mth hR rfl (λ_ _=>rfl) ⟨_,rfl,.inl ⟨_,_,rfl,rfl,R,i,level+1,rfl,hR,g,⟨by have:=pre.1;omega,pre.2⟩,λts j r H1 eo b1 hR1 hr1=> ?_,λeo H1=> ?_⟩⟩⟩
  ·obtain⟨c,vs,rfl,hc,hts⟩:=hr1
   rw[eo]at q
   refine⟨by show 3<=sizeLine;decide,λp hp=> ?_⟩
   have s2:=A6 hp (.tup [.str "call",.str (tx x),.ref c])
   exact q.1 _ _ _ _ rfl (b1.trans (Same.but s2)) (hR1.same s2) (.call A2 (s2 _ _ hc) (hts.mono (BU.tups_of s2)))
  ·rw[eo]at q
   exact q.2 rfl H1
 ·rw[if_neg e]at q
  rw[decide_eq_false e]
  refine ifF (by decide) ⟨_,rfl,by show 2<=sizeLine;decide,λp hp=> ?_⟩
  have s2:=A6 hp (.tup [.str "name",.str (tx x)])
  exact q.1 _ _ _ _ rfl (Same.but s2) (hR.same s2) (.name A2)
end
theorem VV{w:Wd}(h:K10.isNum w=true):(∀c∈w,48<=c/\c<=57)/\w≠ []/\w.length<=100:=by
 simp only[K10.isNum,Bool.and_eq_true,Bool.not_eq_true',Bool.or_eq_false_iff,decide_eq_false_iff_not,all_eq_true]at h
 refine⟨λc hc=> ?_,h.1.1,by omega⟩
 have:=h.2.1 c hc
 simp only[K10.figure,decide_eq_true_eq,mem_cons,not_mem_nil,or_false]at this
 omega
theorem arZ(x:Wd):inV (.str (tx x)) [.str "yes",.str "no"]=(decide (x=Z3)||decide (x=wNo)):=by
 have h1:("yes":Str)=tx Z3:=by decide +kernel
 have h2:("no":Str)=tx wNo:=by decide +kernel
 unfold inV
 rw[h1,h2,Bool.eq_iff_iff,any_eq_true]
 simp only[mem_cons,not_mem_nil,or_false,Bool.or_eq_true,decide_eq_true_eq]
 constructor
 ·rintro⟨y,rfl|rfl,e⟩
  ·exact .inl (Y7 (by simpa [eqV]using e)).symm
  ·exact .inr (Y7 (by simpa [eqV]using e)).symm
 ·rintro(rfl|rfl)
  ·exact⟨_,.inl rfl,by simp[eqV]⟩
  ·exact⟨_,.inr rfl,by simp[eqV]⟩
section
variable{P:Program}{w:World}{K:FZ}{mg:Str->Option Value}{base:Heap}{C cT:Addr}{mf:Str->Addr}{md:Str->FuncData}{N3 O0:Addr}{O6 P4:FuncData}{n:Nat}
inductive spTightW(C cT:Addr)(n:Nat)(vs:List V)(H:Hp)(Q:VK)(E:XK):Prop
 |mk:∀R i level,(vs=[.ref R.a,.int (level:Nat)])->(RAt C H R i)->(Good R.ws)->(Pre 1 n level R.ws i)->(Ret C cT R H (U9 K10.isNum K10.isName R.ws (S7 R.ws n) level i) TmAt Q E)->spTightW C cT n vs H Q E
def VA(C cT:Addr)(n:Nat):Sp:=λvs H Q E=>spTightW C cT n vs H Q E
theorem JV(F:Fun K "read_tight" "Reader.read_tight" s_read_tight (mf "read_tight") (md "read_tight"))(B:NoG mg)(RC:RCls K C mf md)(X_BadText:XCls K mg "BadText" cT)
  (M9:FnOk P w K mg base CX0 2 (mf "take") (md "take") M5 (CV C))(D9:FnOk P w K mg base (CXr P w) 3 (mf "expect") (md "expect") GK (Q9 C cT))
  (J3:FnOk P w K mg base (CXr P w) (7*n+7) (mf "read_term") (md "read_term") N0 (AB C cT n))(LF:FnOk P w K mg base (CXr P w) (7*n+9) (mf "read_named") (md "read_named") aTZ (UX C cT n))
  (L8:FnOk P w K mg base CX0 2 N3 O6 CK K10.spName)(T9:Binds K O6 CK [])(U1:kZ K (.ref N3)=true)(U3:mg "is_name"=some (.ref N3))
  (M6:FnOk P w K mg base CX0 2 O0 P4 CK K10.spNum)(V9:Binds K P4 CK [])(W5:kZ K (.ref O0)=true)(W0:mg "is_number"=some (.ref O0)):
  FnOk P w K mg base (CXr P w) (7*n+10) (mf "read_tight") (md "read_tight") N0 (VA C cT n):=by
 refine F.okX sc_read_tight (λvs H Q E h=> ?_) (λcdv A outer s H vs Q E hr h=> ?_)
 ·obtain⟨R,i,level,rfl,_⟩:=h
  rfl
 obtain⟨R,i,level,rfl,hR,g,pre,q⟩:=h
 have nd:=sc_read_tight.nd
 have hu:=hr.units0
 have hr2:Room 2 _:=hr.mono (by omega)
 refine⟨_,(A1 (B3 (i:=2) nd rfl (Or.inl rfl) (D4 (pv 0) RC.cl RC.m_take M9 (hr.mono (by omega)) RC.b_take .nil C6))
   (A1 (C5 (B0 (kEq (K:=K) hu) (pv 2) A9 rfl) (A1 (B3 (i:=3) nd rfl (Or.inl rfl) (C4 (pv 0) RC.cl RC.m_read_term J3 (hr.mono (by omega)) RC.b_read_term .nil B6 (A0 (pv 1) A3)))
   (A1 (E3 (C4 (pv 0) RC.cl RC.m_expect D9 (hr.mono (by omega)) RC.b_expect .nil B6 (A0 A9 A3)))
   (A7 (B2 (pv 3))))) B5)
   (A1 (C5 (B0 (kEq (K:=K) hu) (pv 2) A9 rfl) (A1 (E3 (C4 (pv 0) RC.cl RC.m_expect D9 (hr.mono (by omega)) RC.b_expect .nil B6 (A0 A9 A3)))
   (A7 (B2 (E1 (A0 A9 A3))))) B5)
   (A1 (C5 (B0 (kIn (K:=K) (w:=w)) (pv 2) (E1 (A0 A9 (A0 A9 A3))) rfl) (A7 (B2 (E1 (A0 A9 (A0 (S2 (kEq (K:=K) hu) (pv 2) A9 rfl) A3))))) B5)
   (A1 (C5 (O3 (K:=K) (C3 M6 (hr.mono (by omega)) rfl W0 W5 V9 .nil C6 (A0 (pv 2) A3)) (λ_=>rfl)) (A7 (B2 (E1 (A0 A9 (A0 (L9 X6 rfl B.int_ MT (A0 (pv 2) A3)) A3))))) B5)
   (A1 (C5 (O3 (K:=K) (C3 L8 (hr.mono (by omega)) rfl U3 U1 T9 .nil C6 (A0 (pv 2) A3)) (λ_=>rfl)) (A7 (B2 (C4 (pv 0) RC.cl RC.m_read_named LF (hr.mono (by omega)) RC.b_read_named .nil B6 (A0 (pv 2) (A0 (pv 1) A3))))) B5)
   (A7 (M8 PySem.F.excBase_ValueError (by decide) X_BadText.q rfl X_BadText.m (A0 (Q4 (D6 (M4 (by decide)) (D6 (DI (pv 2)) V1))) A3))))))))), ?_⟩
 unfold U9 at q
 refine mth hR rfl (λ_ _=>rfl) ⟨R,i,rfl,hR,g.len,λH1 b1 hR1=> ?_⟩
 have q:=q.from b1
 clear hR b1
 refine⟨_,rfl,.inl ⟨rfl,_,rfl, ?_⟩⟩
 rw[K10.eq_lit (l:=E6) (by decide +kernel)]
 by_cases e:ahead R.ws i=E6
 ·rw[if_pos e]at q
  rw[decide_eq_true e]
  have hs1:H0 R.ws (i+1)=H0 R.ws i+1:=(HA (ws:=R.ws) (i:=i) (j:=i+1) (by rw[expect,if_pos e])).2
  refine ifT rfl (mth hR1 rfl (λ_ _=>rfl) ⟨_,rfl,R,i+1,level,rfl,hR1,g,⟨by have:=pre.1;omega,pre.2⟩,λt j r H2 eo b2 hR2 hr2=> ?_,λeo H2=> ?_⟩)
  ·rw[eo]at q
   simp only[bind_some]at q
   have q:=q.from b2
   refine mth hR2 rfl (λ_ _=>rfl) ⟨R,j,_,D7,rfl,by decide +kernel,by decide,by decide,hR2,g,λx j3 r3 H3 eo3 b3 hR3 hr3=> ?_,λeo3 H3=> ?_⟩
   ·obtain⟨j',he,ej⟩:=map_eq_some_iff.mp eo3
    cases ej
    rw[he]at q
    exact⟨_,rfl,q.1 _ _ _ _ rfl b3 hR3 (hr2.mono (hR2.tups b3))⟩
   ·rw[map_eq_none_iff.mp eo3]at q
    exact q.2 rfl H3
  ·rw[eo]at q
   exact q.2 rfl H2
 rw[if_neg e]at q
 rw[decide_eq_false e]
 refine ifF (by decide) ⟨_,rfl,.inl ⟨rfl,_,rfl, ?_⟩⟩
 rw[K10.eq_lit (l:=EL) (by decide +kernel)]
 by_cases e:ahead R.ws i=EL
 ·rw[if_pos e]at q
  rw[decide_eq_true e]
  refine ifT rfl (mth hR1 rfl (λ_ _=>rfl) ⟨R,i+1,_,DK,rfl,by decide +kernel,by decide,by decide,hR1,g,λx j3 r3 H3 eo3 b3 hR3 hr3=> ?_,λeo3 H3=> ?_⟩)
  ·obtain⟨j',he,ej⟩:=map_eq_some_iff.mp eo3
   cases ej
   rw[he]at q
   refine⟨by show 1<=sizeLine;decide,λp hp=> ?_⟩
   have s2:=A6 hp (.tup [.str "none"])
   exact q.1 _ _ _ _ rfl (b3.trans (Same.but s2)) (hR3.same s2) (.non A2)
  ·rw[map_eq_none_iff.mp eo3]at q
   exact q.2 rfl H3
 rw[if_neg e]at q
 rw[decide_eq_false e]
 refine ifF (by decide) ⟨_,rfl,by show 2<=sizeLine;decide,λp hp=> .inr (.inl ⟨p,_,rfl,.inr (SqT.of A2),rfl,rfl,_,rfl, ?_⟩)⟩
 show if inV (.str (tx (ahead R.ws i))) [.str "yes",.str "no"]=true then _ else _
 rw[arZ]
 have s2:=A6 hp (.tup [.str "yes",.str "no"])
 have hR2:=hR1.same s2
 have q:=q.from (Same.but s2)
 clear hR1
 generalize upd H1 p (.tup [.str "yes",.str "no"])=H2 at hR2 q⊢
 clear hp s2
 by_cases e:(decide (ahead R.ws i=Z3)||decide (ahead R.ws i=wNo))=true
 ·rw[if_pos e]at q
  refine ifT e ⟨_,rfl,.inl ⟨rfl,by show 2<=sizeLine;decide,λp hp=> ?_⟩⟩
  have s2:=A6 hp (.tup [.str "truth",.bl (decide (V.str (tx (ahead R.ws i))=V.str "yes"))])
  refine q.1 _ _ _ _ rfl (Same.but s2) (hR2.same s2) ?_
  have ey:decide (V.str (tx (ahead R.ws i))=V.str "yes")=decide (ahead R.ws i=Z3):=K10.eq_lit (l:=Z3) (by decide +kernel)
  rw[<-ey]
  exact .truth A2
 rw[if_neg e]at q
 refine ifF e ⟨_,rfl,ahead R.ws i,rfl,(g.ahead i).1,λH3 s3=>⟨_,rfl, ?_⟩⟩
 have hR3:=hR2.same s3
 have q:=q.from (Same.but s3)
 clear hR2 s3
 cases hn:K10.isNum (ahead R.ws i)with
 |true=>
  rw[if_pos hn]at q
  obtain⟨f1,f2,f3⟩:=VV hn
  refine ifT rfl ⟨_,rfl,.inr ⟨ahead R.ws i,rfl,f1,f2,f3,by show 2<=sizeLine;decide,λp hp=> ?_⟩⟩
  have s2:=A6 hp (.tup [.str "number",.int (avZ (ahead R.ws i):Nat)])
  refine q.1 _ _ _ _ rfl (Same.but s2) (hR3.same s2) ?_
  exact .num A2
 |false=>
  rw[if_neg (by rw[hn];decide)]at q
  refine ifF (by decide) ⟨_,rfl,ahead R.ws i,rfl,(g.ahead i).1,λH4 s4=>⟨_,rfl, ?_⟩⟩
  have hR4:=hR3.same s4
  have q:=q.from (Same.but s4)
  cases hm:K10.isName (ahead R.ws i)with
  |true=>
   rw[if_pos hm]at q
   obtain⟨p1,p2⟩:=plainK.name _ hm
   have hs1:=V7 p1
   refine ifT rfl (mth hR4 rfl (λ_ _=>rfl) ⟨_,rfl,_,rfl,R,i+1,ahead R.ws i,level,rfl,hR4,g,⟨by have:=pre.1;omega,pre.2⟩,q⟩)
  |false=>
   rw[if_neg (by rw[hm];decide)]at q
   exact ifF (by decide) ⟨_,rfl,_,rfl,g.repr i,λz hz=>⟨by show 1<=sizeLine;decide,q.2 rfl H4⟩⟩
inductive spTWW (C cT:Addr) (o:List Wd->Nat->Nat->Option (Tm×Nat)) (n:Nat) (vs:List V) (H:Hp) (Q:VK) (E:XK):Prop
 |mk:∀R i level,(vs=[.ref R.a,.int (level:Nat)])->(RAt C H R i)->(Good R.ws)->(Pre 1 n level R.ws i)->(Ret C cT R H (o R.ws level i) TmAt Q E)->spTWW C cT o n vs H Q E
def OL(C cT:Addr)(o:List Wd->Nat->Nat->Option (Tm×Nat))(n:Nat):Sp:=λvs H Q E=>spTWW C cT o n vs H Q E
abbrev ifN(n:Nat)(ws:List Wd):=rIf ws (S7 ws n)
abbrev cFZ(n:Nat)(ws:List Wd):=RJ K10.isName ws (S7 ws n)
abbrev fnN(n:Nat)(ws:List Wd):=rFn K10.isName ws (S7 ws n)
abbrev twN(n:Nat)(ws:List Wd):=rTW K10.isNum K10.isName ws (S7 ws n)
theorem SC(F:Fun K "read_if" "Reader.read_if" s_read_if (mf "read_if") (md "read_if"))(RC:RCls K C mf md)
  (D9:FnOk P w K mg base (CXr P w) 3 (mf "expect") (md "expect") GK (Q9 C cT))(J3:FnOk P w K mg base (CXr P w) (7*n+7) (mf "read_term") (md "read_term") N0 (AB C cT n)):
  FnOk P w K mg base (CXr P w) (7*n+8) (mf "read_if") (md "read_if") N0 (OL C cT (ifN n) n):=by
 refine F.okX sc_read_if (λvs H Q E h=> ?_) (λcdv A outer s H vs Q E hr h=> ?_)
 ·obtain⟨R,i,level,rfl,_⟩:=h
  rfl
 obtain⟨R,i,level,rfl,hR,g,pre,q⟩:=h
 have nd:=sc_read_if.nd
 refine⟨_,(A1 (E3 (C4 (pv 0) RC.cl RC.m_expect D9 (hr.mono (by omega)) RC.b_expect .nil B6 (A0 A9 A3)))
   (A1 (B3 (i:=2) nd rfl (Or.inl rfl) (C4 (pv 0) RC.cl RC.m_read_term J3 (hr.mono (by omega)) RC.b_read_term .nil B6 (A0 (A8 D3 (pv 1) A4) A3)))
   (A1 (E3 (C4 (pv 0) RC.cl RC.m_expect D9 (hr.mono (by omega)) RC.b_expect .nil B6 (A0 A9 A3)))
   (A1 (B3 (i:=3) nd rfl (Or.inl rfl) (C4 (pv 0) RC.cl RC.m_read_term J3 (hr.mono (by omega)) RC.b_read_term .nil B6 (A0 (A8 D3 (pv 1) A4) A3)))
   (A1 (E3 (C4 (pv 0) RC.cl RC.m_expect D9 (hr.mono (by omega)) RC.b_expect .nil B6 (A0 A9 A3)))
   (A7 (B2 (E1 (A0 A9 (A0 (pv 2) (A0 (pv 3) (A0 (C4 (pv 0) RC.cl RC.m_read_term J3 (hr.mono (by omega)) RC.b_read_term .nil B6 (A0 (A8 D3 (pv 1) A4) A3)) A3)))))))))))), ?_⟩
 unfold ifN rIf at q
 refine mth hR rfl (λ_ _=>rfl) ⟨R,i,_,wIf,rfl,by decide +kernel,by decide,by decide,hR,g,λx i1 r H1 eo b1 hR1 hr1=> ?_,λeo H1=> ?_⟩
 case refine_2=>rw[map_eq_none_iff.mp eo]at q;exact q.2 rfl H1
 obtain⟨j',he,ej⟩:=map_eq_some_iff.mp eo
 cases ej
 have l1:=(D5 he (by simp) (by decide)).2.1
 rw[he]at q
 simp only[bind_some]at q
 have q:=q.from b1
 refine mth hR1 rfl (λ_ _=>rfl) ⟨_,rfl,.inl ⟨_,_,rfl,rfl,R,i1,level+1,rfl,hR1,g,⟨by have:=pre.1;omega,pre.2⟩,λt1 j1 v1 H2 eo b2 hR2 ht1=> ?_,λeo H2=> ?_⟩⟩
 case refine_2=>rw[eo]at q;exact q.2 rfl H2
 have l2:H0 R.ws j1=_:=((T3 (ws:=R.ws) plainK n).1 1 _ _ _ (le_refl 1) eo).2.1
 rw[eo]at q
 simp only[bind_some]at q
 have q:=q.from b2
 refine mth hR2 rfl (λ_ _=>rfl) ⟨R,j1,_,O5,rfl,by decide +kernel,by decide,by decide,hR2,g,λx i2 r H3 eo b3 hR3 hr3=> ?_,λeo H3=> ?_⟩
 case refine_2=>rw[map_eq_none_iff.mp eo]at q;exact q.2 rfl H3
 obtain⟨j',he,ej⟩:=map_eq_some_iff.mp eo
 cases ej
 have l3:=(D5 he (by simp) (by decide)).2.1
 rw[he]at q
 simp only[bind_some]at q
 have q:=q.from b3
 have ht1:=ht1.mono (hR2.tups b3)
 refine mth hR3 rfl (λ_ _=>rfl) ⟨_,rfl,.inl ⟨_,_,rfl,rfl,R,i2,level+1,rfl,hR3,g,⟨by have:=pre.1;omega,pre.2⟩,λt2 j2 v2 H4 eo b4 hR4 ht2=> ?_,λeo H4=> ?_⟩⟩
 case refine_2=>rw[eo]at q;exact q.2 rfl H4
 have l4:H0 R.ws j2=_:=((T3 (ws:=R.ws) plainK n).1 1 _ _ _ (le_refl 1) eo).2.1
 rw[eo]at q
 simp only[bind_some]at q
 have q:=q.from b4
 have ht1:=ht1.mono (hR3.tups b4)
 refine mth hR4 rfl (λ_ _=>rfl) ⟨R,j2,_,P9,rfl,by decide +kernel,by decide,by decide,hR4,g,λx i3 r H5 eo b5 hR5 hr5=> ?_,λeo H5=> ?_⟩
 case refine_2=>rw[map_eq_none_iff.mp eo]at q;exact q.2 rfl H5
 obtain⟨j',he,ej⟩:=map_eq_some_iff.mp eo
 cases ej
 have l5:=(D5 he (by simp) (by decide)).2.1
 rw[he]at q
 simp only[bind_some]at q
 have q:=q.from b5
 have ht1:=ht1.mono (hR4.tups b5)
 have ht2:=ht2.mono (hR4.tups b5)
 refine⟨_,rfl,_,rfl,mth hR5 rfl (λ_ _=>rfl) ⟨_,rfl,.inl ⟨_,_,rfl,rfl,R,i3,level+1,rfl,hR5,g,⟨by have:=pre.1;omega,pre.2⟩,λt3 j3 v3 H6 eo b6 hR6 ht3=> ?_,λeo H6=> ?_⟩⟩⟩
 case refine_2=>rw[eo]at q;exact q.2 rfl H6
 rw[eo]at q
 have q:=q.from b6
 have ht1:=ht1.mono (hR5.tups b6)
 have ht2:=ht2.mono (hR5.tups b6)
 refine⟨by show 4<=sizeLine;decide,λp hp=> ?_⟩
 have s7:=A6 hp (.tup [.str "if",v1,v2,v3])
 have t7:=BU.tups_of s7
 exact q.1 _ _ _ _ rfl (Same.but s7) (hR6.same s7) (.if_ A2 (ht1.mono t7) (ht2.mono t7) (ht3.mono t7))
end
abbrev s_read_operand:Stmt:=L3 (top 42) 13
abbrev IK:List Str:=["self","level","word","term"]
theorem sc_read_operand:FnScope IK N0 (A5 s_read_operand):=fS
section
variable{P:Program}{w:World}{K:FZ}{mg:Str->Option Value}{base:Heap}{C cT:Addr}{mf:Str->Addr}{md:Str->FuncData}{n:Nat}{ow:Addr}
theorem OM(F:Fun K "read_let" "Reader.read_let" s_read_let (mf "read_let") (md "read_let"))(RC:RCls K C mf md)
  (D9:FnOk P w K mg base (CXr P w) 3 (mf "expect") (md "expect") GK (Q9 C cT))(L7:FnOk P w K mg base (CXr P w) 3 (mf "read_name") (md "read_name") M5 (V3 C cT))(J3:FnOk P w K mg base (CXr P w) (7*n+7) (mf "read_term") (md "read_term") N0 (AB C cT n)):
  FnOk P w K mg base (CXr P w) (7*n+8) (mf "read_let") (md "read_let") N0 (OL C cT (cFZ n) n):=by
 refine F.okX sc_read_let (λvs H Q E h=> ?_) (λcdv A outer s H vs Q E hr h=> ?_)
 ·obtain⟨R,i,level,rfl,_⟩:=h
  rfl
 obtain⟨R,i,level,rfl,hR,g,pre,q⟩:=h
 have nd:=sc_read_let.nd
 refine⟨_,(A1 (E3 (C4 (pv 0) RC.cl RC.m_expect D9 (hr.mono (by omega)) RC.b_expect .nil B6 (A0 A9 A3)))
   (A1 (B3 (i:=2) nd rfl (Or.inl rfl) (D4 (pv 0) RC.cl RC.m_read_name L7 (hr.mono (by omega)) RC.b_read_name .nil B6))
   (A1 (E3 (C4 (pv 0) RC.cl RC.m_expect D9 (hr.mono (by omega)) RC.b_expect .nil B6 (A0 A9 A3)))
   (A1 (B3 (i:=3) nd rfl (Or.inl rfl) (C4 (pv 0) RC.cl RC.m_read_term J3 (hr.mono (by omega)) RC.b_read_term .nil B6 (A0 (A8 D3 (pv 1) A4) A3)))
   (A1 (E3 (C4 (pv 0) RC.cl RC.m_expect D9 (hr.mono (by omega)) RC.b_expect .nil B6 (A0 A9 A3)))
   (A7 (B2 (E1 (A0 A9 (A0 (pv 2) (A0 (pv 3) (A0 (C4 (pv 0) RC.cl RC.m_read_term J3 (hr.mono (by omega)) RC.b_read_term .nil B6 (A0 (A8 D3 (pv 1) A4) A3)) A3)))))))))))), ?_⟩
 unfold cFZ RJ at q
 refine mth hR rfl (λ_ _=>rfl) ⟨R,i,_,AK,rfl,by decide +kernel,by decide,by decide,hR,g,λx i1 r H1 eo b1 hR1 hr1=> ?_,λeo H1=> ?_⟩
 case refine_2=>rw[map_eq_none_iff.mp eo]at q;exact q.2 rfl H1
 obtain⟨j',he,ej⟩:=map_eq_some_iff.mp eo
 cases ej
 have l1:=(D5 he (by simp) (by decide)).2.1
 rw[he]at q
 simp only[bind_some]at q
 have q:=q.from b1
 refine mth hR1 rfl (λ_ _=>rfl) ⟨R,i1,rfl,hR1,g,λx k1 r H2 eo b2 hR2 hx=> ?_,λeo H2=> ?_⟩
 case refine_2=>rw[eo]at q;exact q.2 rfl H2
 subst hx
 have l2:H0 R.ws k1=_:=(V2 plainK eo).2.1
 rw[eo]at q
 simp only[bind_some]at q
 have q:=q.from b2
 refine mth hR2 rfl (λ_ _=>rfl) ⟨R,k1,_,wEq,rfl,by decide +kernel,by decide,by decide,hR2,g,λ_ i2 r H3 eo b3 hR3 hr3=> ?_,λeo H3=> ?_⟩
 case refine_2=>rw[map_eq_none_iff.mp eo]at q;exact q.2 rfl H3
 obtain⟨j',he,ej⟩:=map_eq_some_iff.mp eo
 cases ej
 have l3:=(D5 he (by simp) (by decide)).2.1
 rw[he]at q
 simp only[bind_some]at q
 have q:=q.from b3
 refine mth hR3 rfl (λ_ _=>rfl) ⟨_,rfl,.inl ⟨_,_,rfl,rfl,R,i2,level+1,rfl,hR3,g,⟨by have:=pre.1;omega,pre.2⟩,λt1 j2 v1 H4 eo b4 hR4 ht1=> ?_,λeo H4=> ?_⟩⟩
 case refine_2=>rw[eo]at q;exact q.2 rfl H4
 have l4:H0 R.ws j2=_:=((T3 (ws:=R.ws) plainK n).1 1 _ _ _ (le_refl 1) eo).2.1
 rw[eo]at q
 simp only[bind_some]at q
 have q:=q.from b4
 refine mth hR4 rfl (λ_ _=>rfl) ⟨R,j2,_,wIn,rfl,by decide +kernel,by decide,by decide,hR4,g,λ_ i3 r H5 eo b5 hR5 hr5=> ?_,λeo H5=> ?_⟩
 case refine_2=>rw[map_eq_none_iff.mp eo]at q;exact q.2 rfl H5
 obtain⟨j',he,ej⟩:=map_eq_some_iff.mp eo
 cases ej
 have l5:=(D5 he (by simp) (by decide)).2.1
 rw[he]at q
 simp only[bind_some]at q
 have q:=q.from b5
 have ht1:=ht1.mono (hR4.tups b5)
 refine⟨_,rfl,_,rfl,mth hR5 rfl (λ_ _=>rfl) ⟨_,rfl,.inl ⟨_,_,rfl,rfl,R,i3,level+1,rfl,hR5,g,⟨by have:=pre.1;omega,pre.2⟩,λt3 j3 v3 H6 eo b6 hR6 ht3=> ?_,λeo H6=> ?_⟩⟩⟩
 case refine_2=>rw[eo]at q;exact q.2 rfl H6
 rw[eo]at q
 have q:=q.from b6
 have ht1:=ht1.mono (hR5.tups b6)
 refine⟨by show 4<=sizeLine;decide,λp hp=> ?_⟩
 have s7:=A6 hp (.tup [.str "let",.str (tx x),v1,v3])
 have t7:=BU.tups_of s7
 exact q.1 _ _ _ _ rfl (Same.but s7) (hR6.same s7) (.let_ A2 (ht1.mono t7) (ht3.mono t7))
theorem RH(F:Fun K "read_fn" "Reader.read_fn" s_read_fn (mf "read_fn") (md "read_fn"))(RC:RCls K C mf md)
  (D9:FnOk P w K mg base (CXr P w) 3 (mf "expect") (md "expect") GK (Q9 C cT))(L7:FnOk P w K mg base (CXr P w) 3 (mf "read_name") (md "read_name") M5 (V3 C cT))(J3:FnOk P w K mg base (CXr P w) (7*n+7) (mf "read_term") (md "read_term") N0 (AB C cT n)):
  FnOk P w K mg base (CXr P w) (7*n+8) (mf "read_fn") (md "read_fn") N0 (OL C cT (fnN n) n):=by
 refine F.okX sc_read_fn (λvs H Q E h=> ?_) (λcdv A outer s H vs Q E hr h=> ?_)
 ·obtain⟨R,i,level,rfl,_⟩:=h
  rfl
 obtain⟨R,i,level,rfl,hR,g,pre,q⟩:=h
 have nd:=sc_read_fn.nd
 refine⟨_,(A1 (E3 (C4 (pv 0) RC.cl RC.m_expect D9 (hr.mono (by omega)) RC.b_expect .nil B6 (A0 A9 A3)))
   (A1 (B3 (i:=2) nd rfl (Or.inl rfl) (D4 (pv 0) RC.cl RC.m_read_name L7 (hr.mono (by omega)) RC.b_read_name .nil B6))
   (A1 (E3 (C4 (pv 0) RC.cl RC.m_expect D9 (hr.mono (by omega)) RC.b_expect .nil B6 (A0 A9 A3)))
   (A7 (B2 (E1 (A0 A9 (A0 (pv 2) (A0 (C4 (pv 0) RC.cl RC.m_read_term J3 (hr.mono (by omega)) RC.b_read_term .nil B6 (A0 (A8 D3 (pv 1) A4) A3)) A3))))))))), ?_⟩
 unfold fnN rFn at q
 refine mth hR rfl (λ_ _=>rfl) ⟨R,i,_,wFn,rfl,by decide +kernel,by decide,by decide,hR,g,λx i1 r H1 eo b1 hR1 hr1=> ?_,λeo H1=> ?_⟩
 case refine_2=>rw[map_eq_none_iff.mp eo]at q;exact q.2 rfl H1
 obtain⟨j',he,ej⟩:=map_eq_some_iff.mp eo
 cases ej
 have l1:=(D5 he (by simp) (by decide)).2.1
 rw[he]at q
 simp only[bind_some]at q
 have q:=q.from b1
 refine mth hR1 rfl (λ_ _=>rfl) ⟨R,i1,rfl,hR1,g,λx k1 r H2 eo b2 hR2 hx=> ?_,λeo H2=> ?_⟩
 case refine_2=>rw[eo]at q;exact q.2 rfl H2
 subst hx
 have l2:H0 R.ws k1=_:=(V2 plainK eo).2.1
 rw[eo]at q
 simp only[bind_some]at q
 have q:=q.from b2
 refine mth hR2 rfl (λ_ _=>rfl) ⟨R,k1,_,K3,rfl,by decide +kernel,by decide,by decide,hR2,g,λ_ i2 r H3 eo b3 hR3 hr3=> ?_,λeo H3=> ?_⟩
 case refine_2=>rw[map_eq_none_iff.mp eo]at q;exact q.2 rfl H3
 obtain⟨j',he,ej⟩:=map_eq_some_iff.mp eo
 cases ej
 have l3:=(D5 he (by simp) (by decide)).2.1
 rw[he]at q
 simp only[bind_some]at q
 have q:=q.from b3
 refine⟨_,rfl,mth hR3 rfl (λ_ _=>rfl) ⟨_,rfl,.inl ⟨_,_,rfl,rfl,R,i2,level+1,rfl,hR3,g,⟨by have:=pre.1;omega,pre.2⟩,λt3 j3 v3 H6 eo b6 hR6 ht3=> ?_,λeo H6=> ?_⟩⟩⟩
 case refine_2=>rw[eo]at q;exact q.2 rfl H6
 rw[eo]at q
 have q:=q.from b6
 refine⟨by show 3<=sizeLine;decide,λp hp=> ?_⟩
 have s7:=A6 hp (.tup [.str "fn",.str (tx x),v3])
 exact q.1 _ _ _ _ rfl (Same.but s7) (hR6.same s7) (.fn A2 (ht3.mono (BU.tups_of s7)))
theorem BT(F:Fun K "read_tight_or_wide" "Reader.read_tight_or_wide" s_read_tight_or_wide (mf "read_tight_or_wide") (md "read_tight_or_wide"))(RC:RCls K C mf md)
  (J1:FnOk P w K mg base CX0 1 (mf "ahead") (md "ahead") M5 (V8 C))(VO:FnOk P w K mg base (CXr P w) (7*n+8) (mf "read_if") (md "read_if") N0 (OL C cT (ifN n) n))
  (QK:FnOk P w K mg base (CXr P w) (7*n+8) (mf "read_let") (md "read_let") N0 (OL C cT (cFZ n) n))(VJ:FnOk P w K mg base (CXr P w) (7*n+8) (mf "read_fn") (md "read_fn") N0 (OL C cT (fnN n) n))
  (LI:FnOk P w K mg base (CXr P w) (7*n+10) (mf "read_tight") (md "read_tight") N0 (VA C cT n)):
  FnOk P w K mg base (CXr P w) (7*n+11) (mf "read_tight_or_wide") (md "read_tight_or_wide") N0 (OL C cT (twN n) n):=by
 refine F.okX sc_read_tight_or_wide (λvs H Q E h=> ?_) (λcdv A outer s H vs Q E hr h=> ?_)
 ·obtain⟨R,i,level,rfl,_⟩:=h
  rfl
 obtain⟨R,i,level,rfl,hR,g,pre,q⟩:=h
 have nd:=sc_read_tight_or_wide.nd
 have hu:=hr.units0
 refine⟨_,(A1 (B3 (i:=2) nd rfl (Or.inl rfl) (D4 (pv 0) RC.cl RC.m_ahead J1 (hr.mono (by omega)) RC.b_ahead .nil C6))
   (A1 (C5 (B0 (kEq (K:=K) hu) (pv 2) A9 rfl) (A7 (B2 (C4 (pv 0) RC.cl RC.m_read_if VO (hr.mono (by omega)) RC.b_read_if .nil B6 (A0 (pv 1) A3)))) B5)
   (A1 (C5 (B0 (kEq (K:=K) hu) (pv 2) A9 rfl) (A7 (B2 (C4 (pv 0) RC.cl RC.m_read_let QK (hr.mono (by omega)) RC.b_read_let .nil B6 (A0 (pv 1) A3)))) B5)
   (A1 (C5 (B0 (kEq (K:=K) hu) (pv 2) A9 rfl) (A7 (B2 (C4 (pv 0) RC.cl RC.m_read_fn VJ (hr.mono (by omega)) RC.b_read_fn .nil B6 (A0 (pv 1) A3)))) B5)
   (A7 (B2 (C4 (pv 0) RC.cl RC.m_read_tight LI (hr.mono (by omega)) RC.b_read_tight .nil B6 (A0 (pv 1) A3)))))))), ?_⟩
 unfold twN rTW at q
 refine mth hR rfl (λ_ _=>rfl) ⟨R,i,rfl,hR,g.len, ?_⟩
 refine⟨_,rfl,.inl ⟨rfl,_,rfl, ?_⟩⟩
 rw[K10.eq_lit (l:=wIf) (by decide +kernel)]
 by_cases e:ahead R.ws i=wIf
 ·rw[if_pos e]at q
  rw[decide_eq_true e]
  exact ifT rfl (mth hR rfl (λ_ _=>rfl) ⟨_,rfl,R,i,level,rfl,hR,g,pre,q⟩)
 rw[if_neg e]at q
 rw[decide_eq_false e]
 refine ifF (by decide) ⟨_,rfl,.inl ⟨rfl,_,rfl, ?_⟩⟩
 rw[K10.eq_lit (l:=AK) (by decide +kernel)]
 by_cases e:ahead R.ws i=AK
 ·rw[if_pos e]at q
  rw[decide_eq_true e]
  exact ifT rfl (mth hR rfl (λ_ _=>rfl) ⟨_,rfl,R,i,level,rfl,hR,g,pre,q⟩)
 rw[if_neg e]at q
 rw[decide_eq_false e]
 refine ifF (by decide) ⟨_,rfl,.inl ⟨rfl,_,rfl, ?_⟩⟩
 rw[K10.eq_lit (l:=wFn) (by decide +kernel)]
 by_cases e:ahead R.ws i=wFn
 ·rw[if_pos e]at q
  rw[decide_eq_true e]
  exact ifT rfl (mth hR rfl (λ_ _=>rfl) ⟨_,rfl,R,i,level,rfl,hR,g,pre,q⟩)
 rw[if_neg e]at q
 rw[decide_eq_false e]
 exact ifF (by decide) (mth hR rfl (λ_ _=>rfl) ⟨_,rfl,R,i,level,rfl,hR,g,pre,q⟩)
def KC:List V:=[.str "head",.str "tail",.str "empty",.str "not"]
theorem aUZ(x:Wd):inV (.str (tx x)) KC=E9 x:=by
 have h1:("head":Str)=tx AM:=by decide +kernel
 have h2:("tail":Str)=tx AR:=by decide +kernel
 have h3:("empty":Str)=tx U7:=by decide +kernel
 have h4:("not":Str)=tx FH:=by decide +kernel
 unfold inV KC E9
 rw[h1,h2,h3,h4,Bool.eq_iff_iff,any_eq_true]
 simp only[mem_cons,not_mem_nil,or_false,Bool.or_eq_true,decide_eq_true_eq]
 constructor
 ·rintro⟨y,rfl|rfl|rfl|rfl,e⟩
  ·exact .inl (.inl (.inl (Y7 (by simpa [eqV]using e)).symm))
  ·exact .inl (.inl (.inr (Y7 (by simpa [eqV]using e)).symm))
  ·exact .inl (.inr (Y7 (by simpa [eqV]using e)).symm)
  ·exact .inr (Y7 (by simpa [eqV]using e)).symm
 ·rintro(((rfl|rfl)|rfl)|rfl)
  ·exact⟨_,.inl rfl,by simp[eqV]⟩
  ·exact⟨_,.inr (.inl rfl),by simp[eqV]⟩
  ·exact⟨_,.inr (.inr (.inl rfl)),by simp[eqV]⟩
  ·exact⟨_,.inr (.inr (.inr rfl)),by simp[eqV]⟩
inductive spOpW (C cT:Addr) (n:Nat) (vs:List V) (H:Hp) (Q:VK) (E:XK):Prop
 |mk:∀R i level,(vs=[.ref R.a,.int (level:Nat)])->(RAt C H R i)->(Good R.ws)->(Pre 0 n level R.ws i)->(Ret C cT R H (cMZ R.ws n level i) TmAt Q E)->spOpW C cT n vs H Q E
def WR(C cT:Addr)(n:Nat):Sp:=λvs H Q E=>spOpW C cT n vs H Q E
def AF:Sp:=λ_ _ _ _=>False
theorem X5{CX:CXT}{k:Nat}{f:Addr}{fd:FuncData}{ps:List Str}:FnOk P w K mg base CX k f fd ps AF:=⟨λ_ _ _ _ h=>h.elim,λ_ _ _ _ _ _ _ _ _ _ _ _ _ h=>h.elim⟩
theorem FL(F:Fun K "read_operand" "Reader.read_operand" s_read_operand (mf "read_operand") (md "read_operand"))(RC:RCls K C mf md)(X_BadText:XCls K mg "BadText" cT){t1:Tok}(m_DEEPEST:mg "DEEPEST"=some (.int 16 t1))(m_ONE_WORDS:mg "ONE_WORDS"=some (.ref ow)):
  FnOk P w K mg base (CXr P w) 5 (mf "read_operand") (md "read_operand") N0 (WR C cT 0):=by
 have J1:FnOk P w K mg base CX0 1 (mf "ahead") (md "ahead") M5 AF:=X5
 have M9:FnOk P w K mg base CX0 1 (mf "take") (md "take") M5 AF:=X5
 have M2:FnOk P w K mg base (CXr P w) 1 (mf "read_operand") (md "read_operand") N0 AF:=X5
 have K5:FnOk P w K mg base (CXr P w) 1 (mf "read_tight_or_wide") (md "read_tight_or_wide") N0 AF:=X5
 refine F.okX sc_read_operand (λvs H Q E h=> ?_) (λcdv A outer s H vs Q E hr h=> ?_)
 ·obtain⟨R,i,level,rfl,_⟩:=h
  rfl
 obtain⟨R,i,level,rfl,hR,g,pre,q⟩:=h
 have nd:=sc_read_operand.nd
 have hu:=hr.units0
 refine⟨_,(A1 (C5 (B0 X3 (pv 1) (C7 (v:=.int 16) rfl m_DEEPEST ⟨_,rfl⟩) rfl) (A7 (M8 PySem.F.excBase_ValueError (by decide) X_BadText.q rfl X_BadText.m (A0 (Q4 (D6 (M4 (by decide)) (D6 (CY (C7 (v:=.int 16) rfl m_DEEPEST ⟨_,rfl⟩)) (D6 (M4 (by decide)) V1)))) A3))) B5)
   (A1 (C5 (B0 (kIn (K:=K) (w:=w)) (D4 (pv 0) RC.cl RC.m_ahead J1 (hr.mono (by omega)) RC.b_ahead .nil C6) (C7 (v:=.ref _) rfl m_ONE_WORDS rfl) rfl) (A1 (B3 (i:=2) nd rfl (Or.inl rfl) (D4 (pv 0) RC.cl RC.m_take M9 (hr.mono (by omega)) RC.b_take .nil C6))
   (A7 (B2 (E1 (A0 A9 (A0 (pv 2) (A0 (C4 (pv 0) RC.cl RC.m_read_operand M2 (hr.mono (by omega)) RC.b_read_operand .nil B6 (A0 (A8 D3 (pv 1) A4) A3)) A3))))))) B5)
   (A1 (B3 (i:=3) nd rfl (Or.inl rfl) (C4 (pv 0) RC.cl RC.m_read_tight_or_wide K5 (hr.mono (by omega)) RC.b_read_tight_or_wide .nil B6 (A0 (pv 1) A3)))
   (A1 (O4 PassesOwn.leaving (B0 (kEq (K:=K) hu) (D4 (pv 0) RC.cl RC.m_ahead J1 (hr.mono (by omega)) RC.b_ahead .nil C6) A9 rfl) (A1 (E3 (D4 (pv 0) RC.cl RC.m_take M9 (hr.mono (by omega)) RC.b_take .nil C6))
   (A7 (B3 (i:=3) nd rfl (Or.inl rfl) (E1 (A0 A9 (A0 (pv 3) (A0 (C4 (pv 0) RC.cl RC.m_read_tight_or_wide K5 (hr.mono (by omega)) RC.b_read_tight_or_wide .nil B6 (A0 (A8 D3 (pv 1) A4) A3)) A3))))))))
   (A7 (B2 (pv 3))))))), ?_⟩
 have h16:16<level:=by have:=pre.1;have:=pre.2 i;omega
 exact⟨_,rfl,_,_,rfl,rfl,_,rfl,ifT (decide_eq_true (by omega)) ⟨_,rfl,by decide,by decide +kernel,λz hz=>⟨by show 1<=sizeLine;decide,q.2 rfl H⟩⟩⟩
end
abbrev s_read_row:Stmt:=L3 (top 42) 11
abbrev SM:List Str:=["self","least","level","term","sign","right"]
theorem sc_read_row:FnScope SM OZ (A5 s_read_row):=fS
def SD:List (Str×V):=[("<",.int 1),("=",.int 1),(":",.int 2),("+",.int 3),("-",.int 3),("*",.int 4),("/",.int 4)]
theorem EA(x l:Wd)(z:Str)(h:z=tx l)(v:V)(r:List (Str×V)):List.lookup (tx x) ((z,v)::r)=if x=l then some v else List.lookup (tx x) r:=by
 subst h
 rw[lookup_cons]
 by_cases e:x=l
 ·subst e;rw[beq_self_eq_true,if_pos rfl]
 ·rw[beq_eq_false_iff_ne.mpr (λh=>e (Y7 h)),if_neg e]
theorem UY(x:Wd):SD.lookup (tx x)=if E8 x=0 then none else some (.int (E8 x:Nat)):=by
 unfold SD
 rw[EA x wLt _ (by decide +kernel),EA x wEq _ (by decide +kernel),EA x U6 _ (by decide +kernel),EA x DN _ (by decide +kernel),EA x AC _ (by decide +kernel),EA x AD _ (by decide +kernel),EA x DM _ (by decide +kernel)]
 unfold E8
 repeat' split
 all_goals first|rfl|(rename_i h;exact absurd h (by decide))|contradiction
theorem c7Z(x:Wd):(SD.lookup (tx x)).getD (.int 0)=V.int (E8 x:Nat):=by
 rw[UY]
 split
 ·rename_i h;rw[h];rfl
 ·rfl
def KS:List V:=[.str "<",.str "="]
theorem ajZ(x:Wd):inV (.str (tx x)) KS=M0 x:=by
 have h1:("<":Str)=tx wLt:=by decide +kernel
 have h2:("=":Str)=tx wEq:=by decide +kernel
 unfold inV KS M0
 rw[h1,h2,Bool.eq_iff_iff,any_eq_true]
 simp only[mem_cons,not_mem_nil,or_false,Bool.or_eq_true,decide_eq_true_eq]
 constructor
 ·rintro⟨y,rfl|rfl,e⟩
  ·exact .inl (Y7 (by simpa [eqV]using e)).symm
  ·exact .inr (Y7 (by simpa [eqV]using e)).symm
 ·rintro(rfl|rfl)
  ·exact⟨_,.inl rfl,by simp[eqV]⟩
  ·exact⟨_,.inr rfl,by simp[eqV]⟩
section
variable{P:Program}{w:World}{K:FZ}{mg:Str->Option Value}{base:Heap}{C cT:Addr}{mf:Str->Addr}{md:Str->FuncData}{n:Nat}{ow sd cm f J2:Addr}{fd L0:FuncData}
theorem GN(F:Fun K "read_operand" "Reader.read_operand" s_read_operand (mf "read_operand") (md "read_operand"))(RC:RCls K C mf md)(X_BadText:XCls K mg "BadText" cT){t1:Tok}(m_DEEPEST:mg "DEEPEST"=some (.int 16 t1))(m_ONE_WORDS:mg "ONE_WORDS"=some (.ref ow))(OW:∀H:Hp,SqT K H ow KC)
  (J1:FnOk P w K mg base CX0 1 (mf "ahead") (md "ahead") M5 (V8 C))(M9:FnOk P w K mg base CX0 2 (mf "take") (md "take") M5 (CV C))
  (M2:FnOk P w K mg base (CXr P w) (7*n+5) (mf "read_operand") (md "read_operand") N0 (WR C cT n))(K5:FnOk P w K mg base (CXr P w) (7*n+11) (mf "read_tight_or_wide") (md "read_tight_or_wide") N0 (OL C cT (twN n) n)):
  FnOk P w K mg base (CXr P w) (7*n+12) (mf "read_operand") (md "read_operand") N0 (WR C cT (n+1)):=by
 refine F.okX sc_read_operand (λvs H Q E h=> ?_) (λcdv A outer s H vs Q E hr h=> ?_)
 ·obtain⟨R,i,level,rfl,_⟩:=h
  rfl
 obtain⟨R,i,level,rfl,hR,g,pre,q⟩:=h
 have nd:=sc_read_operand.nd
 have hu:=hr.units0
 refine⟨_,(A1 (C5 (B0 X3 (pv 1) (C7 (v:=.int 16) rfl m_DEEPEST ⟨_,rfl⟩) rfl) (A7 (M8 PySem.F.excBase_ValueError (by decide) X_BadText.q rfl X_BadText.m (A0 (Q4 (D6 (M4 (by decide)) (D6 (CY (C7 (v:=.int 16) rfl m_DEEPEST ⟨_,rfl⟩)) (D6 (M4 (by decide)) V1)))) A3))) B5)
   (A1 (C5 (B0 (kIn (K:=K) (w:=w)) (D4 (pv 0) RC.cl RC.m_ahead J1 (hr.mono (by omega)) RC.b_ahead .nil C6) (C7 (v:=.ref _) rfl m_ONE_WORDS rfl) rfl) (A1 (B3 (i:=2) nd rfl (Or.inl rfl) (D4 (pv 0) RC.cl RC.m_take M9 (hr.mono (by omega)) RC.b_take .nil C6))
   (A7 (B2 (E1 (A0 A9 (A0 (pv 2) (A0 (C4 (pv 0) RC.cl RC.m_read_operand M2 (hr.mono (by omega)) RC.b_read_operand .nil B6 (A0 (A8 D3 (pv 1) A4) A3)) A3))))))) B5)
   (A1 (B3 (i:=3) nd rfl (Or.inl rfl) (C4 (pv 0) RC.cl RC.m_read_tight_or_wide K5 (hr.mono (by omega)) RC.b_read_tight_or_wide .nil B6 (A0 (pv 1) A3)))
   (A1 (O4 PassesOwn.leaving (B0 (kEq (K:=K) hu) (D4 (pv 0) RC.cl RC.m_ahead J1 (hr.mono (by omega)) RC.b_ahead .nil C6) A9 rfl) (A1 (E3 (D4 (pv 0) RC.cl RC.m_take M9 (hr.mono (by omega)) RC.b_take .nil C6))
   (A7 (B3 (i:=3) nd rfl (Or.inl rfl) (E1 (A0 A9 (A0 (pv 3) (A0 (C4 (pv 0) RC.cl RC.m_read_tight_or_wide K5 (hr.mono (by omega)) RC.b_read_tight_or_wide .nil B6 (A0 (A8 D3 (pv 1) A4) A3)) A3))))))))
   (A7 (B2 (pv 3))))))), ?_⟩
 have q:Ret C cT R H (J6 K10.isNum K10.isName R.ws (S7 R.ws n) (cMZ R.ws n) level i) TmAt Q E:=q
 unfold J6 at q
 refine⟨_,rfl,_,_,rfl,rfl,_,rfl, ?_⟩
 by_cases h16:16<level
 ·rw[if_pos h16]at q
  exact ifT (decide_eq_true (by omega)) ⟨_,rfl,by decide,by decide +kernel,λz hz=>⟨by show 1<=sizeLine;decide,q.2 rfl H⟩⟩
 rw[if_neg h16]at q
 refine ifF (λh=>h16 (by have:=of_decide_eq_true h;omega)) ?_
 refine mth hR rfl (λ_ _=>rfl) ⟨R,i,rfl,hR,g.len,.inr (.inl ⟨ow,_,rfl,.inr (OW H),rfl,rfl,_,rfl, ?_⟩)⟩
 show if inV (.str (tx (ahead R.ws i))) KC=true then _ else _
 rw[aUZ]
 by_cases e:E9 (ahead R.ws i)=true
 ·rw[if_pos e]at q
  obtain⟨p1,p2⟩:=AE e
  have hs1:=V7 p1
  refine ifT e (mth hR rfl (λ_ _=>rfl) ⟨R,i,rfl,hR,g.len,λH1 b1 hR1=> ?_⟩)
  have q:=q.from b1
  refine⟨_,rfl,mth hR1 rfl (λ_ _=>rfl) ⟨_,rfl,.inl ⟨_,_,rfl,rfl,R,i+1,level+1,rfl,hR1,g,⟨by have:=pre.1;omega,pre.2⟩,λt j r H2 eo b2 hR2 ht=> ?_,λeo H2=> ?_⟩⟩⟩
  ·rw[eo]at q
   have q:=q.from b2
   refine⟨by show 3<=sizeLine;decide,λp hp=> ?_⟩
   have s3:=A6 hp (.tup [.str "one",.str (tx (ahead R.ws i)),r])
   exact q.1 _ _ _ _ rfl (Same.but s3) (hR2.same s3) (.one A2 (ht.mono (BU.tups_of s3)))
  ·rw[eo]at q
   exact q.2 rfl H2
 rw[if_neg e]at q
 refine ifF e (mth hR rfl (λ_ _=>rfl) ⟨_,rfl,R,i,level,rfl,hR,g,⟨by have:=pre.1;omega,pre.2⟩,λt j r H1 eo b1 hR1 ht=> ?_,λeo H1=> ?_⟩)
 case refine_2=>
  have eo':rTW K10.isNum K10.isName R.ws (S7 R.ws n) level i=none:=eo
  rw[eo']at q
  exact q.2 rfl H1
 have eo:rTW K10.isNum K10.isName R.ws (S7 R.ws n) level i=some (t,j):=eo
 have hb:=GV plainK (T3 (ws:=R.ws) plainK n).1 eo
 have hst:H0 R.ws j=H0 R.ws i:=hb.2.1
 have hjl:j<=R.ws.length:=hb.2.2
 rw[eo]at q
 simp only[bind_some]at q
 have q:=q.from b1
 obtain⟨oo,hoo⟩:∃oo,T1 K10.isNum K10.isName R.ws (S7 R.ws n) level (R.ws.length+1) t j=oo:=⟨_,rfl⟩
 rw[hoo]at q
 refine⟨λm σ H'=>∃(k m':Nat) (u:Tm) (v:V) (y:Option V),σ=[some (.ref R.a),some (.int (level:Nat)),y,some v]/\But R.a H1 H'/\RAt C H' R k/\TmAt H' u v/\H0 R.ws k=H0 R.ws i/\k<=R.ws.length/\T1 K10.isNum K10.isName R.ws (S7 R.ws n) level m' u k=oo/\R.ws.length<m'+k/\m=R.ws.length - k,
  ⟨_,j,R.ws.length+1,t,r,none,rfl,But.refl,hR1,ht,hst,hjl,hoo,by omega,rfl⟩, ?_⟩
 rintro m σ H2 ⟨k,m',u,v,y,rfl,b2,hR2,hu2,hst2,hkl,ho,hmk,rfl⟩
 refine mth hR2 rfl (λ_ _=>rfl) ⟨R,k,rfl,hR2,g.len,.inl ⟨rfl,_,rfl, ?_⟩⟩
 rw[K10.eq_lit (l:=P0) (by decide +kernel)]
 by_cases eb:ahead R.ws k=P0
 ·have hn:ahead R.ws k≠ []:=by rw[eb];simp
  have hkl2:=T0 hn
  have hs3:=V7 hn
  rw[eb]at hs3
  have hd0:delta P0=0:=by decide
  obtain⟨m',rfl⟩:∃x,m'=x+1:=⟨m' - 1,by omega⟩
  unfold T1 at ho
  rw[if_pos eb]at ho
  rw[decide_eq_true eb]
  refine ifT rfl ⟨_,λ_ _ h=>h, ?_⟩
  refine mth hR2 rfl (λ_ _=>rfl) ⟨R,k,rfl,hR2,g.len,λH3 b3 hR3=> ?_⟩
  have hu3:=hu2.mono (hR2.tups b3)
  refine⟨_,rfl,mth hR3 rfl (λ_ _=>rfl) ⟨_,rfl,.inl ⟨_,_,rfl,rfl,R,k+1,level+1,rfl,hR3,g,⟨by have:=pre.1;omega,pre.2⟩,λt4 j4 v4 H4 eo4 b4 hR4 ht4=> ?_,λeo4 H4=> ?_⟩⟩⟩
  ·have hb4:=GV plainK (T3 (ws:=R.ws) plainK n).1 eo4
   have l4:H0 R.ws j4=H0 R.ws (k+1):=hb4.2.1
   have l5:k+1<j4:=hb4.1
   have l6:j4<=R.ws.length:=hb4.2.2
   have eo4':rTW K10.isNum K10.isName R.ws (S7 R.ws n) (level+1) (k+1)=some (t4,j4):=eo4
   rw[eo4']at ho
   simp only[bind_some]at ho
   refine⟨by show 3<=sizeLine;decide,λp hp=> ?_⟩
   have s5:=A6 hp (.tup [.str "do",v,v4])
   have t5:=BU.tups_of s5
   exact⟨R.ws.length - j4,by omega,j4,m',_,_,_,rfl,((b2.trans b3).trans b4).trans (Same.but s5),hR4.same s5,.do_ A2 ((hu3.mono (hR3.tups b4)).mono t5) (ht4.mono t5),by omega,l6,ho,by omega,rfl⟩
  ·have eo4':rTW K10.isNum K10.isName R.ws (S7 R.ws n) (level+1) (k+1)=none:=eo4
   rw[eo4']at ho
   exact q.2 ho.symm H4
 ·rw[decide_eq_false eb]
  have ho':oo=some (u,k):=by
   cases m' with
   |zero=>exact ho.symm
   |succ m'=>unfold T1 at ho;rw[if_neg eb]at ho;exact ho.symm
  exact ifF (by decide) ⟨_,rfl,q.1 u k v H2 ho' b2 hR2 hu2⟩
inductive spBehindW (vs:List V) (H:Hp) (Q:VK):Prop
 |mk:∀x,(vs=[.str (tx x)])->(1<=E8 x)->(Q (.int (CO x:Nat)) H)->spBehindW vs H Q
def HK:Sp:=λvs H Q _=>spBehindW vs H Q
theorem EB(F:Fun K "strength_behind" "strength_behind" s_strength_behind f fd)(m_STRENGTHS:mg "STRENGTHS"=some (.ref sd))(TD:TopD w K sd SD):FnOk P w K mg base CX0 1 f fd GR HK:=by
 refine F.ok sc_strength_behind (λvs H Q E h=> ?_) (λcdv A outer s H vs Q E hr h=> ?_)
 ·obtain⟨x,rfl,_⟩:=h
  rfl
 obtain⟨x,rfl,hx,q⟩:=h
 have nd:=sc_strength_behind.nd
 have hu:=hr.units0
 have hl:SD.lookup (tx x)=some (.int (E8 x:Nat)):=by rw[UY,if_neg (by omega)]
 refine⟨_,(A1 (C5 (B0 (kEq (K:=K) hu) (pv 0) A9 rfl) (A7 (B2 (ixE K w (C7 (v:=.ref _) rfl m_STRENGTHS rfl) (pv 0)))) B5)
   (A7 (B2 (A8 D3 (ixE K w (C7 (v:=.ref _) rfl m_STRENGTHS rfl) (pv 0)) A4)))), ?_⟩
 refine⟨_,rfl,.inl ⟨rfl,_,rfl, ?_⟩⟩
 rw[K10.eq_lit (l:=U6) (by decide +kernel)]
 unfold CO at q
 by_cases e:x=U6
 ·rw[if_pos e]at q
  rw[decide_eq_true e]
  exact ifT rfl ⟨_,rfl,.inr (.inr (.inr ⟨sd,_,SD,_,rfl,rfl,TD,hl,q⟩))⟩
 ·rw[if_neg e]at q
  rw[decide_eq_false e]
  exact ifF (by decide) ⟨_,rfl,.inr (.inr (.inr ⟨sd,_,SD,_,rfl,rfl,TD,hl,.inl ⟨_,_,rfl,rfl,q⟩⟩))⟩
inductive spSideW (C cT:Addr) (vs:List V) (H:Hp) (Q:VK) (E:XK):Prop
 |mk:∀R i x,(vs=[.ref R.a,.str (tx x)])->(RAt C H R i)->(Good R.ws)->(((M0 x&&M0 (ahead R.ws i))=false->Q .non H))->(((M0 x&&M0 (ahead R.ws i))=true->E (.ref cT) none H))->spSideW C cT vs H Q E
def SJ(C cT:Addr):Sp:=λvs H Q E=>spSideW C cT vs H Q E
theorem BF(F:Fun K "refuse_side_by_side" "Reader.refuse_side_by_side" s_refuse_side_by_side (mf "refuse_side_by_side") (md "refuse_side_by_side"))(RC:RCls K C mf md)(X_BadText:XCls K mg "BadText" cT)(m_COMPARING:mg "COMPARING"=some (.ref cm))(CM:∀H:Hp,SqT K H cm KS)
  (J1:FnOk P w K mg base CX0 1 (mf "ahead") (md "ahead") M5 (V8 C)):
  FnOk P w K mg base (CXr P w) 2 (mf "refuse_side_by_side") (md "refuse_side_by_side") WN (SJ C cT):=by
 refine F.okX sc_refuse_side_by_side (λvs H Q E h=> ?_) (λcdv A outer s H vs Q E hr h=> ?_)
 ·obtain⟨R,i,x,rfl,_⟩:=h
  rfl
 obtain⟨R,i,x,rfl,hR,g,q1,q2⟩:=h
 have nd:=sc_refuse_side_by_side.nd
 have hu:=hr.units0
 refine⟨_,(A7 (L6 (C5 (PW.pt (T4 (B0 (kIn (K:=K) (w:=w)) (pv 1) (C7 (v:=.ref _) rfl m_COMPARING rfl) rfl) (S0 (B0 (kIn (K:=K) (w:=w)) (D4 (pv 0) RC.cl RC.m_ahead J1 (hr.mono (by omega)) RC.b_ahead .nil C6) (C7 (v:=.ref _) rfl m_COMPARING rfl) rfl)))) (A7 (M8 PySem.F.excBase_ValueError (by decide) X_BadText.q rfl X_BadText.m (A0 A9 A3))) B5))), ?_⟩
 refine⟨fun σ' H'=>Q .non H', ?_,fun σ' H' h=>h⟩
 refine⟨_,rfl,.inr (.inl ⟨cm,_,rfl,.inr (CM H),rfl,rfl,_,rfl, ?_⟩)⟩
 show if inV (.str (tx x)) KS=true then _ else _
 rw[ajZ]
 cases hx:M0 x with
 |false=>
  rw[hx]at q1
  exact ifF (by decide) (ifF (by decide) (q1 rfl))
 |true=>
  refine ifT rfl (mth hR rfl (λ_ _=>rfl) ⟨R,i,rfl,hR,g.len,.inr (.inl ⟨cm,_,rfl,.inr (CM H),rfl,rfl,_,rfl, ?_⟩)⟩)
  show if inV (.str (tx (ahead R.ws i))) KS=true then _ else _
  rw[ajZ]
  rw[hx]at q1 q2
  cases hy:M0 (ahead R.ws i)with
  |false=>rw[hy]at q1;exact ifF (by decide) (q1 rfl)
  |true=>rw[hy]at q2;exact ifT rfl ⟨by show 1<=sizeLine;decide,q2 rfl⟩
variable{N3 O0:Addr}{O6 P4:FuncData}
theorem MI(F:Fun K "read_row" "Reader.read_row" s_read_row (mf "read_row") (md "read_row"))(RC:RCls K C mf md)(m_STRENGTHS:mg "STRENGTHS"=some (.ref sd))
  (L1:Binds K L0 GR [])(K9:kZ K (.ref J2)=true)(K8:mg "strength_behind"=some (.ref J2))
  (M2:FnOk P w K mg base (CXr P w) 5 (mf "read_operand") (md "read_operand") N0 (WR C cT 0)):FnOk P w K mg base (CXr P w) 6 (mf "read_row") (md "read_row") OZ (OH C cT 0):=by
 have J1:FnOk P w K mg base CX0 1 (mf "ahead") (md "ahead") M5 AF:=X5
 have M9:FnOk P w K mg base CX0 1 (mf "take") (md "take") M5 AF:=X5
 have Y0:FnOk P w K mg base (CXr P w) 1 (mf "read_row") (md "read_row") OZ AF:=X5
 have K0:FnOk P w K mg base (CXr P w) 1 (mf "refuse_side_by_side") (md "refuse_side_by_side") WN AF:=X5
 have J7:FnOk P w K mg base CX0 1 J2 L0 GR AF:=X5
 refine F.okX sc_read_row (λvs H Q E h=> ?_) (λcdv A outer s H vs Q E hr h=> ?_)
 ·obtain⟨R,i,least,level,rfl,_⟩:=h
  rfl
 obtain⟨R,i,least,level,rfl,hR,g,hle,pre,q⟩:=h
 have nd:=sc_read_row.nd
 have hu:=hr.units0
 refine⟨_,(A1 (B3 (i:=3) nd rfl (Or.inl rfl) (C4 (pv 0) RC.cl RC.m_read_operand M2 (hr.mono (by omega)) RC.b_read_operand .nil B6 (A0 (pv 2) A3)))
   (A1 (O4 PassesOwn.leaving (B0 bQZ (LA (K:=K) (w:=w) (C7 (v:=.ref _) rfl m_STRENGTHS rfl) (A0 (D4 (pv 0) RC.cl RC.m_ahead J1 (hr.mono (by omega)) RC.b_ahead .nil C6) (A0 A4 A3))) (pv 1) rfl) (A1 (B3 (i:=4) nd rfl (Or.inl rfl) (D4 (pv 0) RC.cl RC.m_take M9 (hr.mono (by omega)) RC.b_take .nil C6))
   (A1 (B3 (i:=5) nd rfl (Or.inl rfl) (C4 (pv 0) RC.cl RC.m_read_row Y0 (hr.mono (by omega)) RC.b_read_row .nil B6 (A0 (C3 J7 (hr.mono (by omega)) rfl K8 K9 L1 .nil C6 (A0 (pv 4) A3)) (A0 (A8 D3 (pv 2) A4) A3))))
   (A1 (E3 (C4 (pv 0) RC.cl RC.m_refuse_side_by_side K0 (hr.mono (by omega)) RC.b_refuse_side_by_side .nil B6 (A0 (pv 4) A3)))
   (A7 (B3 (i:=3) nd rfl (Or.inl rfl) (E1 (A0 A9 (A0 (pv 4) (A0 (pv 3) (A0 (pv 5) A3)))))))))))
   (A7 (B2 (pv 3))))), ?_⟩
 exact mth hR rfl (λ_ _=>rfl) ⟨_,rfl,R,i,level,rfl,hR,g,pre,λt j r H1 eo=>(by cases eo),λeo H1=>q.2 rfl H1⟩
theorem OE(F:Fun K "read_row" "Reader.read_row" s_read_row (mf "read_row") (md "read_row"))(RC:RCls K C mf md)(m_STRENGTHS:mg "STRENGTHS"=some (.ref sd))(TD:TopD w K sd SD)
  (J7:FnOk P w K mg base CX0 1 J2 L0 GR HK)(L1:Binds K L0 GR [])(K9:kZ K (.ref J2)=true)(K8:mg "strength_behind"=some (.ref J2))
  (J1:FnOk P w K mg base CX0 1 (mf "ahead") (md "ahead") M5 (V8 C))(M9:FnOk P w K mg base CX0 2 (mf "take") (md "take") M5 (CV C))
  (K0:FnOk P w K mg base (CXr P w) 2 (mf "refuse_side_by_side") (md "refuse_side_by_side") WN (SJ C cT))
  (M2:FnOk P w K mg base (CXr P w) (7*n+12) (mf "read_operand") (md "read_operand") N0 (WR C cT (n+1)))(Y0:FnOk P w K mg base (CXr P w) (7*n+6) (mf "read_row") (md "read_row") OZ (OH C cT n)):
  FnOk P w K mg base (CXr P w) (7*n+13) (mf "read_row") (md "read_row") OZ (OH C cT (n+1)):=by
 refine F.okX sc_read_row (λvs H Q E h=> ?_) (λcdv A outer s H vs Q E hr h=> ?_)
 ·obtain⟨R,i,least,level,rfl,_⟩:=h
  rfl
 obtain⟨R,i,least,level,rfl,hR,g,hle,pre,q⟩:=h
 have nd:=sc_read_row.nd
 have hu:=hr.units0
 have z4:(4:Nat)<=sizeLine:=by decide
 refine⟨_,(A1 (B3 (i:=3) nd rfl (Or.inl rfl) (C4 (pv 0) RC.cl RC.m_read_operand M2 (hr.mono (by omega)) RC.b_read_operand .nil B6 (A0 (pv 2) A3)))
   (A1 (O4 PassesOwn.leaving (B0 bQZ (LA (K:=K) (w:=w) (C7 (v:=.ref _) rfl m_STRENGTHS rfl) (A0 (D4 (pv 0) RC.cl RC.m_ahead J1 (hr.mono (by omega)) RC.b_ahead .nil C6) (A0 A4 A3))) (pv 1) rfl) (A1 (B3 (i:=4) nd rfl (Or.inl rfl) (D4 (pv 0) RC.cl RC.m_take M9 (hr.mono (by omega)) RC.b_take .nil C6))
   (A1 (B3 (i:=5) nd rfl (Or.inl rfl) (C4 (pv 0) RC.cl RC.m_read_row Y0 (hr.mono (by omega)) RC.b_read_row .nil B6 (A0 (C3 J7 (hr.mono (by omega)) rfl K8 K9 L1 .nil C6 (A0 (pv 4) A3)) (A0 (A8 D3 (pv 2) A4) A3))))
   (A1 (E3 (C4 (pv 0) RC.cl RC.m_refuse_side_by_side K0 (hr.mono (by omega)) RC.b_refuse_side_by_side .nil B6 (A0 (pv 4) A3)))
   (A7 (B3 (i:=3) nd rfl (Or.inl rfl) (E1 (A0 A9 (A0 (pv 4) (A0 (pv 3) (A0 (pv 5) A3)))))))))))
   (A7 (B2 (pv 3))))), ?_⟩
 have q:Ret C cT R H ((cMZ R.ws (n+1) level i).bind λr=>N2 R.ws (S7 R.ws n) least level (R.ws.length+1) r.1 r.2) TmAt Q E:=q
 refine mth hR rfl (λ_ _=>rfl) ⟨_,rfl,R,i,level,rfl,hR,g,pre,λt j r H1 eo b1 hR1 ht=> ?_,λeo H1=> ?_⟩
 case refine_2=>rw[eo]at q;exact q.2 rfl H1
 have hb:=(T3 (ws:=R.ws) plainK (n+1)).2 _ _ _ eo
 have hst:H0 R.ws j=H0 R.ws i:=hb.2.1
 have hjl:j<=R.ws.length:=hb.2.2
 rw[eo]at q
 simp only[bind_some]at q
 have q:=q.from b1
 obtain⟨oo,hoo⟩:∃oo,N2 R.ws (S7 R.ws n) least level (R.ws.length+1) t j=oo:=⟨_,rfl⟩
 rw[hoo]at q
 refine⟨λm σ H'=>∃(k m':Nat) (u:Tm) (v:V) (y z:Option V),σ=[some (.ref R.a),some (.int (least:Nat)),some (.int (level:Nat)),some v,y,z]/\But R.a H1 H'/\RAt C H' R k/\TmAt H' u v/\H0 R.ws k=H0 R.ws i/\k<=R.ws.length/\N2 R.ws (S7 R.ws n) least level m' u k=oo/\R.ws.length<m'+k/\m=R.ws.length - k,
  ⟨_,j,R.ws.length+1,t,r,none,none,rfl,But.refl,hR1,ht,hst,hjl,hoo,by omega,rfl⟩, ?_⟩
 rintro m σ H2 ⟨k,m',u,v,y,z,rfl,b2,hR2,hu2,hst2,hkl,ho,hmk,rfl⟩
 refine⟨sd,SD,rfl,TD,mth hR2 rfl (λ_ _=>rfl) ⟨R,k,rfl,hR2,g.len,_,_,rfl,_,rfl,_,_,c7Z _,rfl,_,rfl, ?_⟩⟩
 by_cases eb:least<=E8 (ahead R.ws k)
 ·obtain⟨hn,hd0⟩:=Y8 (le_trans hle eb)
  have hkl2:=T0 hn
  have hs3:=V7 hn
  obtain⟨m',rfl⟩:∃x,m'=x+1:=⟨m' - 1,by omega⟩
  unfold N2 at ho
  rw[if_pos eb]at ho
  refine ifT (decide_eq_true (by omega)) ⟨_,λ_ _ h=>h, ?_⟩
  refine mth hR2 rfl (λ_ _=>rfl) ⟨R,k,rfl,hR2,g.len,λH3 b3 hR3=> ?_⟩
  have hu3:=hu2.mono (hR2.tups b3)
  refine mth hR3 rfl (λ_ _=>rfl) ⟨_,rfl,ahead R.ws k,rfl,le_trans hle eb,_,rfl,.inl ⟨_,_,rfl,rfl,R,k+1,CO (ahead R.ws k),level+1,rfl,hR3,g,BO _,⟨by have:=pre.1;omega,pre.2⟩,λt4 j4 v4 H4 eo4 b4 hR4 ht4=> ?_,λeo4 H4=> ?_⟩⟩
  ·have hb4:=(T3 (ws:=R.ws) plainK n).1 _ _ _ _ (BO _) eo4
   have l4:H0 R.ws j4=H0 R.ws (k+1):=hb4.2.1
   have l5:k+1<j4:=hb4.1
   have l6:j4<=R.ws.length:=hb4.2.2
   rw[eo4]at ho
   simp only[bind_some]at ho
   have hu4:=hu3.mono (hR3.tups b4)
   refine mth hR4 rfl (λ_ _=>rfl) ⟨_,rfl,R,j4,ahead R.ws k,rfl,hR4,g,λhc=> ?_,λhc=> ?_⟩
   ·rw[hc,if_neg nZ]at ho
    refine⟨_,rfl,_,rfl,_,rfl,z4,λp hp=> ?_⟩
    have s5:=A6 hp (.tup [.str "two",.str (tx (ahead R.ws k)),v,v4])
    have t5:=BU.tups_of s5
    exact⟨R.ws.length - j4,by omega,j4,m',_,_,_,_,rfl,((b2.trans b3).trans b4).trans (Same.but s5),hR4.same s5,.two A2 (hu4.mono t5) (ht4.mono t5),by omega,l6,ho,by omega,rfl⟩
   ·rw[hc,if_pos rfl]at ho
    exact q.2 ho.symm H4
  ·rw[eo4]at ho
   exact q.2 ho.symm H4
 ·have ho':oo=some (u,k):=by
   cases m' with
   |zero=>exact ho.symm
   |succ m'=>unfold N2 at ho;rw[if_neg eb]at ho;exact ho.symm
  exact ifF (λh=>eb (by have:=of_decide_eq_true h;omega)) ⟨_,rfl,q.1 u k v H2 ho' b2 hR2 hu2⟩
structure RFun (K:FZ) (mf:Str->Addr) (md:Str->FuncData):Prop where
 ahead:Fun K "ahead" "Reader.ahead" s_ahead (mf "ahead") (md "ahead")
 take:Fun K "take" "Reader.take" s_take (mf "take") (md "take")
 expect:Fun K "expect" "Reader.expect" s_expect (mf "expect") (md "expect")
 read_name:Fun K "read_name" "Reader.read_name" s_read_name (mf "read_name") (md "read_name")
 goes_on:Fun K "goes_on" "Reader.goes_on" s_goes_on (mf "goes_on") (md "goes_on")
 read_names:Fun K "read_names" "Reader.read_names" s_read_names (mf "read_names") (md "read_names")
 read_terms:Fun K "read_terms" "Reader.read_terms" s_read_terms (mf "read_terms") (md "read_terms")
 read_term:Fun K "read_term" "Reader.read_term" s_read_term (mf "read_term") (md "read_term")
 read_row:Fun K "read_row" "Reader.read_row" s_read_row (mf "read_row") (md "read_row")
 refuse_side_by_side:Fun K "refuse_side_by_side" "Reader.refuse_side_by_side" s_refuse_side_by_side (mf "refuse_side_by_side") (md "refuse_side_by_side")
 read_operand:Fun K "read_operand" "Reader.read_operand" s_read_operand (mf "read_operand") (md "read_operand")
 read_tight_or_wide:Fun K "read_tight_or_wide" "Reader.read_tight_or_wide" s_read_tight_or_wide (mf "read_tight_or_wide") (md "read_tight_or_wide")
 read_if:Fun K "read_if" "Reader.read_if" s_read_if (mf "read_if") (md "read_if")
 read_let:Fun K "read_let" "Reader.read_let" s_read_let (mf "read_let") (md "read_let")
 read_fn:Fun K "read_fn" "Reader.read_fn" s_read_fn (mf "read_fn") (md "read_fn")
 read_tight:Fun K "read_tight" "Reader.read_tight" s_read_tight (mf "read_tight") (md "read_tight")
 read_named:Fun K "read_named" "Reader.read_named" s_read_named (mf "read_named") (md "read_named")
theorem a9Z(RF:RFun K mf md)(B:NoG mg)(RC:RCls K C mf md)(X_BadText:XCls K mg "BadText" cT){t1 t2:Tok}(m_LEAST_STRENGTH:mg "LEAST_STRENGTH"=some (.int 1 t1))(m_DEEPEST:mg "DEEPEST"=some (.int 16 t2))
  (m_ONE_WORDS:mg "ONE_WORDS"=some (.ref ow))(OW:∀H:Hp,SqT K H ow KC)(m_STRENGTHS:mg "STRENGTHS"=some (.ref sd))(TD:TopD w K sd SD)
  (J7:Cn P w K mg base CX0 1 "strength_behind" GR HK)
  (L8:Cn P w K mg base CX0 2 "is_name" CK K10.spName)
  (M6:Cn P w K mg base CX0 2 "is_number" CK K10.spNum)
  (J1:FnOk P w K mg base CX0 1 (mf "ahead") (md "ahead") M5 (V8 C))(M9:FnOk P w K mg base CX0 2 (mf "take") (md "take") M5 (CV C))
  (D9:FnOk P w K mg base (CXr P w) 3 (mf "expect") (md "expect") GK (Q9 C cT))(L7:FnOk P w K mg base (CXr P w) 3 (mf "read_name") (md "read_name") M5 (V3 C cT))
  (AI:FnOk P w K mg base (CXr P w) 4 (mf "goes_on") (md "goes_on") WY (ME C cT))
  (K0:FnOk P w K mg base (CXr P w) 2 (mf "refuse_side_by_side") (md "refuse_side_by_side") WN (SJ C cT)):
  ∀n,FnOk P w K mg base (CXr P w) (7*n+6) (mf "read_row") (md "read_row") OZ (OH C cT n)/\FnOk P w K mg base (CXr P w) (7*n+5) (mf "read_operand") (md "read_operand") N0 (WR C cT n):=by
 obtain⟨J2,L0,J7,L1,K9,K8⟩:=J7
 obtain⟨N3,O6,L8,T9,U1,U3⟩:=L8
 obtain⟨O0,P4,M6,V9,W5,W0⟩:=M6
 intro n
 induction n with
 |zero=>
  have O:=FL (P:=P) (w:=w) (base:=base) RF.read_operand RC X_BadText m_DEEPEST m_ONE_WORDS
  exact⟨MI RF.read_row RC m_STRENGTHS L1 K9 K8 O,O⟩
 |succ n ih=>
  have T:=EH RF.read_term RC m_LEAST_STRENGTH ih.1
  have TS:=JZ RF.read_terms B RC D9 AI T
  have N:=JU RF.read_named RC J1 TS
  have Ti:=JV RF.read_tight B RC X_BadText M9 D9 T N L8 T9 U1 U3 M6 V9 W5 W0
  have I:=SC RF.read_if RC D9 T
  have L:=OM RF.read_let RC D9 L7 T
  have Fn:=RH RF.read_fn RC D9 L7 T
  have TW:=BT RF.read_tight_or_wide RC J1 I L Fn Ti
  have O:=GN RF.read_operand RC X_BadText m_DEEPEST m_ONE_WORDS OW J1 M9 ih.2 TW
  exact⟨OE RF.read_row RC m_STRENGTHS TD J7 L1 K9 K8 J1 M9 K0 O ih.1,O⟩
end
abbrev s_read_function:Stmt:=L3 (top 42) 5
abbrev s_read_program:Stmt:=L3 (top 42) 4
abbrev s_init:Stmt:=L3 (top 42) 0
abbrev s_refuse_many_brackets:Stmt:=top 39
abbrev GO:List Str:=["self","name","names"]
theorem sc_read_function:FnScope GO M5 (A5 s_read_function):=fS
abbrev HY:List Str:=["self","functions"]
theorem sc_read_program:FnScope HY M5 (A5 s_read_program):=fS
abbrev cQZ:List Str:=["self","found"]
theorem sc_init:FnScope cQZ a4Z (A5 s_init):=fS
abbrev BK:List Str:=["found","standing","word"]
theorem sc_refuse_many_brackets:FnScope BK ["found"] (A5 s_refuse_many_brackets):=fS
def FdAt(H:Hp)(d:Fd)(r:V):Prop:=∃p v c,r=.ref p/\H p=some (.tup [.str "def",.str (tx d.name),.ref c,v])/\H c=some (.tup (wds d.names))/\TmAt H d.body v
theorem FdAt.mono{H H':Hp}(m:BU.Tups H H'){d:Fd}{r:V}(h:FdAt H d r):FdAt H' d r:=by
 obtain⟨p,v,c,e,h1,h2,h3⟩:=h
 exact⟨p,v,c,e,m _ _ h1,m _ _ h2,h3.mono m⟩
theorem cGZ{ws:List Wd}{i:Nat}(hi:i<ws.length):H0 ws (i+1)=H0 ws i+delta ws[i]:=by
 unfold H0
 rw[take_succ_eq_append_getElem hi,DV]
 simp only[V0]
 omega
theorem bWZ:∀(r:List Wd) (a:Int),C2 a r=true->∀j,a<=16->a+V0 (r.take j)<=16
 | [],a,_,j,ha=>by simp[V0];exact ha
 |w::r,a,h,0,ha=>by simp[V0];exact ha
 |w::r,a,h,j+1,ha=>by
  simp only[C2,Bool.and_eq_true,decide_eq_true_eq]at h
  have:=bWZ r (a+delta w) h.2 j h.1
  simp only[take_succ_cons,V0]
  omega
theorem daZ{ws:List Wd}(h:C2 0 ws=true):∀j,H0 ws j<=16:=λj=>by
 have:=bWZ ws 0 h j (by decide)
 unfold H0
 omega
section
variable{P:Program}{w:World}{K:FZ}{mg:Str->Option Value}{base:Heap}{C cT:Addr}{mf:Str->Addr}{md:Str->FuncData}{f fi:Addr}{fd di:FuncData}
inductive spFunctionW(C cT:Addr)(vs:List V)(H:Hp)(Q:VK)(E:XK):Prop
 |mk:∀R i,(vs=[.ref R.a])->(RAt C H R i)->(Good R.ws)->(H0 R.ws i=0)->((∀j,H0 R.ws j<=16))->(Ret C cT R H (O8 K10.isName R.ws (S7 R.ws 32) i) FdAt Q E)->spFunctionW C cT vs H Q E
def IV(C cT:Addr):Sp:=λvs H Q E=>spFunctionW C cT vs H Q E
theorem FM(F:Fun K "read_function" "Reader.read_function" s_read_function (mf "read_function") (md "read_function"))(RC:RCls K C mf md)
  (D9:FnOk P w K mg base (CXr P w) 3 (mf "expect") (md "expect") GK (Q9 C cT))(L7:FnOk P w K mg base (CXr P w) 3 (mf "read_name") (md "read_name") M5 (V3 C cT))
  (LL:FnOk P w K mg base (CXr P w) 5 (mf "read_names") (md "read_names") M5 (TQ C cT))(J3:FnOk P w K mg base (CXr P w) (7*32+7) (mf "read_term") (md "read_term") N0 (AB C cT 32)):
  FnOk P w K mg base (CXr P w) 232 (mf "read_function") (md "read_function") M5 (IV C cT):=by
 refine F.okX sc_read_function (λvs H Q E h=> ?_) (λcdv A outer s H vs Q E hr h=> ?_)
 ·obtain⟨R,i,rfl,_⟩:=h
  rfl
 obtain⟨R,i,rfl,hR,g,hs0,h16,q⟩:=h
 have nd:=sc_read_function.nd
 refine⟨_,(A1 (E3 (C4 (pv 0) RC.cl RC.m_expect D9 (hr.mono (by omega)) RC.b_expect .nil B6 (A0 A9 A3)))
   (A1 (B3 (i:=1) nd rfl (Or.inl rfl) (D4 (pv 0) RC.cl RC.m_read_name L7 (hr.mono (by omega)) RC.b_read_name .nil B6))
   (A1 (B3 (i:=2) nd rfl (Or.inl rfl) (D4 (pv 0) RC.cl RC.m_read_names LL (hr.mono (by omega)) RC.b_read_names .nil B6))
   (A1 (E3 (C4 (pv 0) RC.cl RC.m_expect D9 (hr.mono (by omega)) RC.b_expect .nil B6 (A0 A9 A3)))
   (A7 (B2 (E1 (A0 A9 (A0 (pv 1) (A0 (pv 2) (A0 (C4 (pv 0) RC.cl RC.m_read_term J3 (hr.mono (by omega)) RC.b_read_term .nil B6 (A0 A4 A3)) A3))))))))))), ?_⟩
 unfold O8 at q
 refine mth hR rfl (λ_ _=>rfl) ⟨R,i,_,T6,rfl,by decide +kernel,by decide,by decide,hR,g,λ_ i1 r H1 eo b1 hR1 hr1=> ?_,λeo H1=> ?_⟩
 case refine_2=>rw[map_eq_none_iff.mp eo]at q;exact q.2 rfl H1
 obtain⟨j',he,ej⟩:=map_eq_some_iff.mp eo
 cases ej
 have l1:=(D5 he (by simp) (by decide)).2.1
 rw[he]at q
 simp only[bind_some]at q
 have q:=q.from b1
 refine mth hR1 rfl (λ_ _=>rfl) ⟨R,i1,rfl,hR1,g,λx k1 r H2 eo b2 hR2 hx=> ?_,λeo H2=> ?_⟩
 case refine_2=>rw[eo]at q;exact q.2 rfl H2
 subst hx
 have l2:H0 R.ws k1=_:=(V2 plainK eo).2.1
 rw[eo]at q
 simp only[bind_some]at q
 have q:=q.from b2
 refine mth hR2 rfl (λ_ _=>rfl) ⟨R,k1,rfl,hR2,g,λns k2 r H3 eo b3 hR3 hns=> ?_,λeo H3=> ?_⟩
 case refine_2=>rw[eo]at q;exact q.2 rfl H3
 obtain⟨c,rfl,hc⟩:=hns
 have l3:H0 R.ws k2=_:=(HL plainK eo).2.1
 rw[eo]at q
 simp only[bind_some]at q
 have q:=q.from b3
 refine mth hR3 rfl (λ_ _=>rfl) ⟨R,k2,_,wEq,rfl,by decide +kernel,by decide,by decide,hR3,g,λ_ i2 r H4 eo b4 hR4 hr4=> ?_,λeo H4=> ?_⟩
 case refine_2=>rw[map_eq_none_iff.mp eo]at q;exact q.2 rfl H4
 obtain⟨j',he,ej⟩:=map_eq_some_iff.mp eo
 cases ej
 have l4:=(D5 he (by simp) (by decide)).2.1
 rw[he]at q
 simp only[bind_some]at q
 have q:=q.from b4
 have hc4:=hR3.tups b4 _ _ hc
 refine⟨_,rfl,_,rfl,mth hR4 rfl (λ_ _=>rfl) ⟨R,i2,1,rfl,hR4,g,⟨by omega,h16⟩,λt j v H5 eo b5 hR5 ht=> ?_,λeo H5=> ?_⟩⟩
 case refine_2=>rw[eo]at q;exact q.2 rfl H5
 rw[eo]at q
 have q:=q.from b5
 refine⟨by show 4<=sizeLine;decide,λp hp=> ?_⟩
 have s6:=A6 hp (.tup [.str "def",.str (tx x),.ref c,v])
 exact q.1 _ _ _ _ rfl (Same.but s6) (hR5.same s6) ⟨p,v,c,rfl,A2,s6 _ _ (hR4.tups b5 _ _ hc4),ht.mono (BU.tups_of s6)⟩
theorem DL{ws:List Wd}{n i:Nat}{r:Fd×Nat}(h:O8 K10.isName ws (S7 ws n) i=some r):Bal ws i r.2:=by
 unfold O8 at h
 simp only[bind_eq_some_iff,map_eq_some_iff]at h
 obtain⟨i1,e1,x,e2,ns,e3,i2,e4,r1,e5,rfl⟩:=h
 exact(D5 e1 (by simp) (by decide)).trans ((V2 plainK e2).trans ((HL plainK e3).trans ((D5 e4 (by simp) (by decide)).trans ((T3 (ws:=ws) plainK n).1 _ _ _ r1 (le_refl 1) e5))))
inductive spProgramW (C cT:Addr) (vs:List V) (H:Hp) (Q:VK) (E:XK):Prop
 |mk:∀R,(vs=[.ref R.a])->(RAt C H R 0)->(Good R.ws)->((∀j,H0 R.ws j<=16))->((∀fs p us H',K7 K10.isName R.ws (S7 R.ws 32)=some fs->H' p=some (.tup us)->BU.All2 (FdAt H') fs us->But R.a H H'->Q (.ref p) H'))->((K7 K10.isName R.ws (S7 R.ws 32)=none->∀H',E (.ref cT) none H'))->spProgramW C cT vs H Q E
def LD(C cT:Addr):Sp:=λvs H Q E=>spProgramW C cT vs H Q E
theorem GS(F:Fun K "read_program" "Reader.read_program" s_read_program (mf "read_program") (md "read_program"))(B:NoG mg)(RC:RCls K C mf md)(X_BadText:XCls K mg "BadText" cT){t1:Tok}(m_MOST_FUNCTIONS:mg "MOST_FUNCTIONS"=some (.int 12 t1))
  (J1:FnOk P w K mg base CX0 1 (mf "ahead") (md "ahead") M5 (V8 C))(BQ:FnOk P w K mg base (CXr P w) 232 (mf "read_function") (md "read_function") M5 (IV C cT)):
  FnOk P w K mg base (CXr P w) 233 (mf "read_program") (md "read_program") M5 (LD C cT):=by
 refine F.okX sc_read_program (λvs H Q E h=> ?_) (λcdv A outer s H vs Q E hr h=> ?_)
 ·obtain⟨R,rfl,_⟩:=h
  rfl
 obtain⟨R,rfl,hR,g,h16,q1,q2⟩:=h
 have nd:=sc_read_program.nd
 have hu:=hr.units0
 have zz:(20:Nat)<sizeLine:=by decide
 refine⟨_,(A1 (B3 (i:=1) nd rfl (Or.inl rfl) (J5 (A0 (D4 (pv 0) RC.cl RC.m_read_function BQ (hr.mono (by omega)) RC.b_read_function .nil B6) A3)))
   (A1 (O4 PassesOwn.leaving (B0 (kNe (K:=K) hu) (D4 (pv 0) RC.cl RC.m_ahead J1 (hr.mono (by omega)) RC.b_ahead .nil C6) A9 rfl) (A1 (C5 (B0 (kEq (K:=K) hu) (C8 (P6 (K:=K)) rfl B.len_ M3 (A0 (pv 1) A3)) (C7 (v:=.int 12) rfl m_MOST_FUNCTIONS ⟨_,rfl⟩) rfl) (A7 (M8 PySem.F.excBase_ValueError (by decide) X_BadText.q rfl X_BadText.m (A0 (Q4 (D6 (M4 (by decide)) (D6 (CY (C7 (v:=.int 12) rfl m_MOST_FUNCTIONS ⟨_,rfl⟩)) (D6 (M4 (by decide)) V1)))) A3))) B5)
   (A7 (E3 (CP (K:=K) PySem.F.plainAttrs_list PySem.F.slot_list_append PySem.F.type_list_append Q0 (pv 1) (A0 (D4 (pv 0) RC.cl RC.m_read_function BQ (hr.mono (by omega)) RC.b_read_function .nil B6) A3))))))
   (A7 (B2 (L9 (DG (K:=K)) rfl B.tuple_ Z1 (A0 (pv 1) A3)))))), ?_⟩
 refine mth hR rfl (λ_ _=>rfl) ⟨R,0,rfl,hR,g,rfl,h16,λd j r H1 eo b1 hR1 hd=> ?_,λeo H1=> ?_⟩
 case refine_2=>
  refine q2 ?_ H1
  unfold K7
  rw[eo]
  rfl
 have hst:H0 R.ws j=H0 R.ws 0:=(DL eo).2.1
 have ep:K7 K10.isName R.ws (S7 R.ws 32)=(N8 K10.isName R.ws (S7 R.ws 32) 13 [d] j).map (·.1):=by
  unfold K7
  rw[eo]
  rfl
 rw[ep]at q1 q2
 clear ep
 obtain⟨oo,hoo⟩:∃oo,N8 K10.isName R.ws (S7 R.ws 32) 13 [d] j=oo:=⟨_,rfl⟩
 rw[hoo]at q1 q2
 refine⟨by show 1<=sizeLine;decide,λnl hnl=> ?_⟩
 have hln:R.l≠nl:=by
  obtain⟨dx,_,h2⟩:=hR1
  exact B8 h2 hnl
 have hnl0:H nl=none\/nl=R.a:=by
  by_cases e:nl=R.a
  ·exact .inr e
  ·left
   cases hq:H nl with
   |none=>rfl
   |some o=>have:=b1 nl o e hq;rw[hnl]at this;cases this
 have hnla:nl≠R.a:=by
  obtain⟨dx,h1,_⟩:=hR1
  exact λe=>B8 h1 hnl e.symm
 have hnlH:H nl=none:=hnl0.resolve_right hnla
 have s2:=A6 hnl (.lst [r])
 refine⟨λm σ H'=>∃(m' k:Nat) (acc:List Fd) (us:List V),σ=[some (.ref R.a),some (.ref nl)]/\But R.a H H'/\RAt C H' R k/\H' nl=some (.lst us)/\BU.All2 (FdAt H') acc us/\H0 R.ws k=0/\N8 K10.isName R.ws (S7 R.ws 32) m' acc k=oo/\m'+acc.length=14/\acc.length<=12/\m=m',
  ⟨13,13,j,[d],[r],rfl,b1.trans (Same.but s2),hR1.same s2,A2,.cons (hd.mono (BU.tups_of s2)) .nil,hst,hoo,rfl,(by show 1<=12;decide),rfl⟩, ?_⟩
 rintro m σ H3 ⟨_,k,acc,us,rfl,b3,hR3,hn3,hA3,hst3,ho,hma,hal,rfl⟩
 obtain⟨m,rfl⟩:∃x,m=x+1:=⟨m - 1,by omega⟩
 have hvl:=hA3.len
 unfold N8 at ho
 refine mth hR3 rfl (λ_ _=>rfl) ⟨R,k,rfl,hR3,g.len,.inl ⟨rfl,_,rfl, ?_⟩⟩
 have el:decide (V.str (tx (ahead R.ws k))=V.str "")=decide (ahead R.ws k=[]):=K10.eq_lit (l:=[]) (by decide +kernel)
 rw[el]
 by_cases e:ahead R.ws k=[]
 ·rw[if_pos e]at ho
  rw[decide_eq_true e]
  refine ifF (by decide) ⟨_,rfl,nl,_,rfl,.inl ⟨SqL.of hn3,λp hp=> ?_⟩⟩
  have s4:=A6 hp (.tup us)
  exact q1 acc p us _ (by rw[<-ho];rfl) A2 (hA3.imp λa b h=>h.mono (BU.tups_of s4)) (b3.trans (Same.but s4))
 ·rw[if_neg e]at ho
  rw[decide_eq_false e]
  refine ifT (by decide) ⟨_,λ_ _ h=>h, ?_⟩
  refine⟨_,rfl,_,_,rfl,.inl ⟨_,SqL.of hn3,rfl⟩,.inl ⟨rfl,_,rfl, ?_⟩⟩
  by_cases e12:acc.length=12
  ·rw[if_pos e12]at ho
   refine ifT (decide_eq_true (by rw[<-hvl,e12];rfl)) ⟨_,rfl,by decide,by decide +kernel,λz hz=>⟨by show 1<=sizeLine;decide,q2 (by rw[<-ho];rfl) H3⟩⟩
  ·rw[if_neg e12]at ho
   refine ifF (λh=>e12 (by have:=of_decide_eq_true h;injection this with h;omega)) ?_
   refine⟨_,rfl,.inl ⟨rfl,_,SqL.of hn3⟩,mth hR3 rfl (λ_ _=>rfl) ⟨R,k,rfl,hR3,g,hst3,h16,λd4 j4 r4 H4 eo4 b4 hR4 hd4=> ?_,λeo4 H4=> ?_⟩⟩
   ·have hn4:=hR3.keep b4 hn3
    have l4:H0 R.ws j4=H0 R.ws k:=(DL eo4).2.1
    rw[eo4]at ho
    simp only[bind_some]at ho
    refine⟨nl,_,_,rfl,rfl,hn4,by omega, ?_⟩
    have t5:BU.Tups H4 (upd H4 nl (.lst (us++ [r4]))):=.lst hn4 _
    exact⟨m,lt_succ_self _,m,j4,acc++ [d4],us++ [r4],rfl,LQ (b3.trans b4) hnlH,hR4.list hn4 hln,A2,((hA3.imp λa b h=>h.mono (hR3.tups b4)).app (.cons hd4 .nil)).imp λa b h=>h.mono t5,by omega,ho,by simp;omega,by simp;omega,rfl⟩
   ·rw[eo4]at ho
    exact q2 (by rw[<-ho];rfl) H4
inductive spInitW (C:Addr) (vs:List V) (H:Hp) (Q:VK):Prop
 |mk:∀x dx l,(vs=[.ref x,.ref l])->(H x=some (.ins C dx []))->(Q .non (upd H x (.ins C dx [("found",.ref l),("place",.int 0)])))->spInitW C vs H Q
def agZ(C:Addr):Sp:=λvs H Q _=>spInitW C vs H Q
theorem bvZ(F:Fun K "__init__" "Reader.__init__" s_init fi di)(RC:RCls K C mf md):FnOk P w K mg base CX0 1 fi di a4Z (agZ C):=by
 refine F.ok sc_init (λvs H Q E h=> ?_) (λcdv A outer s H vs Q E hr h=> ?_)
 ·obtain⟨x,dx,l,rfl,_⟩:=h
  rfl
 obtain⟨x,dx,l,rfl,h1,q⟩:=h
 have nd:=sc_init.nd
 refine⟨_,(A1 (aFZ (pv 0) (pv 1) rfl)
   (A7 (aFZ (pv 0) A4 rfl))), ?_⟩
 refine⟨_,rfl,_,rfl,x,C,dx,_,rfl,h1,RC.cl,RC.nf,(by decide), ?_⟩
 refine⟨_,rfl,x,C,dx,_,rfl,A2,RC.cl,RC.np,(by show 1<1000;decide), ?_⟩
 rw[V6]
 exact q
end
abbrev s_refuse_great:Stmt:=top 40
abbrev s_read:Stmt:=top 38
abbrev IL:List Str:=["program","size","function","body"]
theorem sc_refuse_great:FnScope IL ["program"] (A5 s_refuse_great):=fS
abbrev b9Z:List Str:=["text","found","program"]
theorem sc_read:FnScope b9Z ["text"] (A5 s_read):=fS
theorem take_one{α:Type}{A:List α}{k:Nat}{t:α}(h:A[k]? =some t):A.take (k+1)=A.take k++ [t]:=by
 obtain⟨h1,h2⟩:=List.getElem?_eq_some_iff.mp h
 rw[take_succ_eq_append_getElem h1,h2]
mutual
def Tm.kf:Tm->K15.Fo
 | .num _=> .nil
 | .truth _=> .nil
 | .non=> .nil
 | .name _=> .nil
 | .two _ a b=> .cons a.kf (.cons b.kf .nil)
 | .one _ a=> .cons a.kf .nil
 | .if_ c a b=> .cons c.kf (.cons a.kf (.cons b.kf .nil))
 | .let_ _ a b=> .cons a.kf (.cons b.kf .nil)
 | .fn _ a=> .cons a.kf .nil
 | .do_ f a=> .cons f.kf (.cons a.kf .nil)
 | .call _ ts=>kfs ts
def kfs:List Tm->K15.Fo
 | []=> .nil
 |t::r=> .cons t.kf (kfs r)
end
mutual
theorem Q3:∀t:Tm,t.kf.size+1=t.size
 | .num _=>rfl
 | .truth _=>rfl
 | .non=>rfl
 | .name _=>rfl
 | .two _ a b=>by have:=Q3 a;have:=Q3 b;simp only[Tm.kf,Tm.size,K15.Fo.size];omega
 | .one _ a=>by have:=Q3 a;simp only[Tm.kf,Tm.size,K15.Fo.size];omega
 | .if_ c a b=>by have:=Q3 c;have:=Q3 a;have:=Q3 b;simp only[Tm.kf,Tm.size,K15.Fo.size];omega
 | .let_ _ a b=>by have:=Q3 a;have:=Q3 b;simp only[Tm.kf,Tm.size,K15.Fo.size];omega
 | .fn _ a=>by have:=Q3 a;simp only[Tm.kf,Tm.size,K15.Fo.size];omega
 | .do_ f a=>by have:=Q3 f;have:=Q3 a;simp only[Tm.kf,Tm.size,K15.Fo.size];omega
 | .call _ ts=>by have:=kfs_size ts;simp only[Tm.kf,Tm.size];omega
theorem kfs_size:∀ts:List Tm,(kfs ts).size=sizes ts
 | []=>rfl
 |t::r=>by have:=Q3 t;have:=kfs_size r;simp only[kfs,sizes,K15.Fo.size];omega
end
mutual
theorem N7:∀t:Tm,t.kf.depth+1=t.depth
 | .num _=>rfl
 | .truth _=>rfl
 | .non=>rfl
 | .name _=>rfl
 | .two _ a b=>by have:=N7 a;have:=N7 b;simp only[Tm.kf,Tm.depth,K15.Fo.depth];omega
 | .one _ a=>by have:=N7 a;simp only[Tm.kf,Tm.depth,K15.Fo.depth];omega
 | .if_ c a b=>by have:=N7 c;have:=N7 a;have:=N7 b;simp only[Tm.kf,Tm.depth,K15.Fo.depth];omega
 | .let_ _ a b=>by have:=N7 a;have:=N7 b;simp only[Tm.kf,Tm.depth,K15.Fo.depth];omega
 | .fn _ a=>by have:=N7 a;simp only[Tm.kf,Tm.depth,K15.Fo.depth];omega
 | .do_ f a=>by have:=N7 f;have:=N7 a;simp only[Tm.kf,Tm.depth,K15.Fo.depth];omega
 | .call _ ts=>by have:=kfs_depth ts;simp only[Tm.kf,Tm.depth];omega
theorem kfs_depth:∀ts:List Tm,(kfs ts).depth=depths ts
 | []=>rfl
 |t::r=>by have:=N7 t;have:=kfs_depth r;simp only[kfs,depths,K15.Fo.depth];omega
end
theorem TmAt.ref{H:Hp}{t:Tm}{v:V}(h:TmAt H t v):∃a,v=.ref a:=by cases h<;>exact⟨_,rfl⟩
mutual
theorem TmAt.fo{H:Hp}{t:Tm}{v:V}(h:TmAt H t v):K15.FAt H [v] (.cons t.kf .nil):=by
 cases h with
 |num h=>exact .cons h (.num _) .nil .nil
 |truth h=>exact .cons h (.truth _) .nil .nil
 |non h=>exact .cons h .non .nil .nil
 |name h=>exact .cons h (.name _) .nil .nil
 |two h h1 h2=>
  obtain⟨a,rfl⟩:=h1.ref
  obtain⟨b,rfl⟩:=h2.ref
  exact .cons h (.two _ a b) (h1.fo.app h2.fo) .nil
 |one h h1=>
  obtain⟨a,rfl⟩:=h1.ref
  exact .cons h (.one _ a) h1.fo .nil
 |if_ h h1 h2 h3=>
  obtain⟨a,rfl⟩:=h1.ref
  obtain⟨b,rfl⟩:=h2.ref
  obtain⟨c,rfl⟩:=h3.ref
  exact .cons h (.if_ a b c) (h1.fo.app (h2.fo.app h3.fo)) .nil
 |let_ h h1 h2=>
  obtain⟨a,rfl⟩:=h1.ref
  obtain⟨b,rfl⟩:=h2.ref
  exact .cons h (.let_ _ a b) (h1.fo.app h2.fo) .nil
 |fn h h1=>
  obtain⟨a,rfl⟩:=h1.ref
  exact .cons h (.fn _ a) h1.fo .nil
 |do_ h h1 h2=>
  obtain⟨a,rfl⟩:=h1.ref
  obtain⟨b,rfl⟩:=h2.ref
  exact .cons h (.do_ a b) (h1.fo.app h2.fo) .nil
 |call h hc h1=>exact .cons h (.call _ hc) h1.fo .nil
theorem TmsAt.fo{H:Hp}{ts:List Tm}{vs:List V}(h:TmsAt H ts vs):K15.FAt H vs (kfs ts):=by
 cases h with
 |nil=>exact .nil
 |cons h1 h2=>exact h1.fo.app h2.fo
end
section
variable{P:Program}{w:World}{K:FZ}{mg:Str->Option Value}{base:Heap}{C cT:Addr}{mf:Str->Addr}{md:Str->FuncData}{f QW VP TB S8 CD fi:Addr}{fd QF VL SZ S9 BY di:FuncData}
inductive spBrW(cT:Addr)(vs:List V)(H:Hp)(Q:VK)(E:XK):Prop
 |mk:∀l ws,(vs=[.ref l])->(H l=some (.lst (wds ws)))->((C2 0 ws=true->Q .non H))->((C2 0 ws=false->E (.ref cT) none H))->spBrW cT vs H Q E
def drZ(cT:Addr):Sp:=λvs H Q E=>spBrW cT vs H Q E
theorem AN(F:Fun K "refuse_many_brackets" "refuse_many_brackets" s_refuse_many_brackets f fd)(X_BadText:XCls K mg "BadText" cT){t1:Tok}(m_MOST_BRACKETS:mg "MOST_BRACKETS"=some (.int 16 t1)):
  FnOk P w K mg base (CXr P w) 1 f fd ["found"] (drZ cT):=by
 refine F.okX sc_refuse_many_brackets (λvs H Q E h=> ?_) (λcdv A outer s H vs Q E hr h=> ?_)
 ·obtain⟨l,ws,rfl,_⟩:=h
  rfl
 obtain⟨l,ws,rfl,hl,q1,q2⟩:=h
 have nd:=sc_refuse_many_brackets.nd
 have hu:=hr.units0
 refine⟨_,(A1 (B3 (i:=1) nd rfl (Or.inl rfl) A4)
   (A7 (IA PassesOwn.leaving rfl (EN (K:=K) (pv 0)) (BG (i:=2) nd rfl (Or.inl rfl)) (A1 (L6 (C5 (B0 (kEq (K:=K) hu) (pv 2) A9 rfl) (A7 (CN (i:=1) nd rfl (Or.inl rfl) A4 DY)) B5))
   (A1 (L6 (C5 (B0 (kEq (K:=K) hu) (pv 2) A9 rfl) (A7 (CN (i:=1) nd rfl (Or.inl rfl) A4 cNZ)) B5))
   (A7 (C5 (B0 X3 (pv 1) (C7 (v:=.int 16) rfl m_MOST_BRACKETS ⟨_,rfl⟩) rfl) (A7 (M8 PySem.F.excBase_ValueError (by decide) X_BadText.q rfl X_BadText.m (A0 (Q4 (D6 (M4 (by decide)) (D6 (CY (C7 (v:=.int 16) rfl m_MOST_BRACKETS ⟨_,rfl⟩)) (D6 (M4 (by decide)) V1)))) A3))) B5))))))), ?_⟩
 refine⟨_,rfl,l,rfl,⟨_,SqL.of hl⟩,HN (xs:=wds ws) (λi σ H'=>H=H'/\∃y,σ=[some (.ref l),some (.int (H0 ws i)),y]/\C2 (H0 ws i) (ws.drop i)=C2 0 ws) ⟨rfl,none,rfl,rfl⟩ ?_ ?_ ?_⟩
 ·rintro i σ H' hi ⟨rfl,_⟩
  exact SqL.of hl
 ·rintro i x σ H' hx ⟨rfl,y,rfl,hb⟩
  rw[getElem?_map]at hx
  obtain⟨v,hv,rfl⟩:=map_eq_some_iff.mp hx
  obtain⟨hi,rfl⟩:=List.getElem?_eq_some_iff.mp hv
  have hs:=cGZ hi
  rw[drop_eq_getElem_cons hi]at hb
  refine⟨fun σ' H'=>H=H'/\σ'=[some (.ref l),some (.int (H0 ws i+(if ws[i]=E6 then 1 else 0))),some (.str (tx ws[i]))], ?_, ?_⟩
  ·refine⟨_,rfl,.inl ⟨rfl,_,rfl, ?_⟩⟩
   rw[K10.eq_lit (l:=E6) (by decide +kernel)]
   by_cases e:ws[i]=E6
   ·rw[decide_eq_true e]
    exact ifT rfl ⟨_,rfl,_,_,rfl,rfl,rfl,by rw[if_pos e];rfl⟩
   ·rw[decide_eq_false e]
    exact ifF (by decide) ⟨rfl,by rw[if_neg e,Int.add_zero];rfl⟩
  rintro σ' H' ⟨rfl,rfl⟩
  refine⟨fun σ' H'=>H=H'/\σ'=[some (.ref l),some (.int (H0 ws (i+1))),some (.str (tx ws[i]))], ?_, ?_⟩
  ·refine⟨_,rfl,.inl ⟨rfl,_,rfl, ?_⟩⟩
   rw[K10.eq_lit (l:=D7) (by decide +kernel)]
   by_cases e:ws[i]=D7
   ·rw[decide_eq_true e]
    refine ifT rfl ⟨_,rfl,_,_,rfl,rfl,rfl, ?_⟩
    rw[hs]
    unfold delta
    rw[if_pos e]
    show _=[some (V.ref l),some (V.int (H0 ws i+((if ws[i]=E6 then 1 else 0) - 1))),some (V.str (tx ws[i]))]
    rw[<-Int.add_sub_assoc]
    rfl
   ·rw[decide_eq_false e]
    refine ifF (by decide) ⟨rfl, ?_⟩
    rw[hs]
    unfold delta
    rw[if_neg e,Int.sub_zero]
  rintro σ' H' ⟨rfl,rfl⟩
  simp only[C2]at hb
  rw[<-hs]at hb
  refine⟨_,rfl,_,_,rfl,rfl,_,rfl, ?_⟩
  by_cases e:H0 ws (i+1)<=16
  ·rw[decide_eq_true e,Bool.true_and]at hb
   exact ifF (λh=>by have:=of_decide_eq_true h;omega) ⟨rfl,_,rfl,hb⟩
  ·rw[decide_eq_false e,Bool.false_and]at hb
   exact ifT (decide_eq_true (by omega)) ⟨_,rfl,by decide,by decide +kernel,λz hz=>⟨by show 1<=sizeLine;decide,q2 hb.symm⟩⟩
 ·rintro σ H' ⟨rfl,y,rfl,hb⟩
  rw[length_map,drop_length]at hb
  exact q1 hb.symm
inductive spGreatW (cT:Addr) (vs:List V) (H:Hp) (Q:VK) (E:XK):Prop
 |mk:∀p us fs,(vs=[.ref p])->(H p=some (.tup us))->(BU.All2 (FdAt H) fs us)->((∀d∈fs,d.body.size<=1000))->(fs.length<=100)->(∀H',Same H H'->(GF fs=false->Q .non H')/\(GF fs=true->E (.ref cT) none H'))->spGreatW cT vs H Q E
def UV(cT:Addr):Sp:=λvs H Q E=>spGreatW cT vs H Q E
theorem GJ(F:Fun K "refuse_great" "refuse_great" s_refuse_great f fd)(X_BadText:XCls K mg "BadText" cT){t1 t2:Tok}(m_DEEPEST:mg "DEEPEST"=some (.int 16 t1))(m_MOST_TERMS:mg "MOST_TERMS"=some (.int 400 t2))
  (DQ:Cn P w K mg base CX0 3 "depth_of" ["term"] K15.spDepth)
  (EZ:Cn P w K mg base CX0 3 "size_of" ["term"] K15.spSize):
  FnOk P w K mg base (CXr P w) 4 f fd ["program"] (UV cT):=by
 obtain⟨QW,QF,DQ,QJ,QS,QB⟩:=DQ
 obtain⟨VP,VL,EZ,VN,VM,VI⟩:=EZ
 refine F.okX sc_refuse_great (λvs H Q E h=> ?_) (λcdv A outer s H vs Q E hr h=> ?_)
 ·obtain⟨p,us,fs,rfl,_⟩:=h
  rfl
 obtain⟨p,us,fs,rfl,hp,hA,hsz,hlen,q⟩:=h
 have nd:=sc_refuse_great.nd
 have hu:=hr.units0
 refine⟨_,(A1 (B3 (i:=1) nd rfl (Or.inl rfl) A4)
   (A1 (IA PassesOwn.leaving rfl (LY (K:=K) (pv 0)) (BG (i:=2) nd rfl (Or.inl rfl)) (A1 (B3 (i:=3) nd rfl (Or.inl rfl) (ixE K w (pv 2) A4))
   (A1 (C5 (B0 X3 (C3 DQ (hr.mono (by omega)) rfl QB QS QJ .nil C6 (A0 (pv 3) A3)) (C7 (v:=.int 16) rfl m_DEEPEST ⟨_,rfl⟩) rfl) (A7 (M8 PySem.F.excBase_ValueError (by decide) X_BadText.q rfl X_BadText.m (A0 (Q4 (D6 (M4 (by decide)) (D6 (CY (C7 (v:=.int 16) rfl m_DEEPEST ⟨_,rfl⟩)) (D6 (M4 (by decide)) V1)))) A3))) B5)
   (A7 (CN (i:=1) nd rfl (Or.inl rfl) (C3 EZ (hr.mono (by omega)) rfl VI VM VN .nil C6 (A0 (pv 3) A3)) DY)))))
   (A7 (C5 (B0 X3 (pv 1) (C7 (v:=.int 400) rfl m_MOST_TERMS ⟨_,rfl⟩) rfl) (A7 (M8 PySem.F.excBase_ValueError (by decide) X_BadText.q rfl X_BadText.m (A0 (Q4 (D6 (M4 (by decide)) (D6 (CY (C7 (v:=.int 400) rfl m_MOST_TERMS ⟨_,rfl⟩)) (D6 (M4 (by decide)) V1)))) A3))) B5)))), ?_⟩
 have hul:=hA.len
 refine⟨_,rfl,p,rfl,⟨_,SqT.of hp⟩,bzZ (xs:=us) (λi σ H'=>Same H H'/\(∃y z,σ=[some (.ref p),some (.int (((fs.take i).map λd=>d.body.size).sum:Nat)),y,z])/\(fs.take i).any (λd=>decide (16<d.body.depth))=false) ⟨Same.refl _,⟨none,none,rfl⟩,rfl⟩ ?_ ?_ ?_⟩
 ·rintro i σ H' hi ⟨sm,_⟩
  exact SqT.of (sm _ _ hp)
 ·rintro i x σ H1 hx ⟨sm,⟨y,z,rfl⟩,hd⟩
  obtain⟨d,hd1,p1,v,c,rfl,h1,h2,h3⟩:=hA.get hx
  have hm:=hsz d (mem_of_getElem? hd1)
  obtain⟨a,rfl⟩:=h3.ref
  have f1:=h3.fo.mono (K15.tups_of sm)
  have hks:=Q3 d.body
  have hkd:=N7 d.body
  have es:((K15.Fo.cons d.body.kf .nil).size:Nat)=d.body.size:=by simp only[K15.Fo.size];omega
  have ed:((K15.Fo.cons d.body.kf .nil).depth:Nat)=d.body.depth:=by simp only[K15.Fo.depth];omega
  refine⟨_,rfl,(ixT (sm _ _ h1) rfl ?_)⟩
  refine⟨_,rfl,a,_,rfl,f1,by omega,λH2 s2=> ?_⟩
  refine⟨_,_,rfl,rfl,_,rfl, ?_⟩
  rw[ed]
  by_cases e:16<d.body.depth
  ·refine ifT (decide_eq_true (by omega)) ⟨_,rfl,by decide,by decide +kernel,λz hz=>⟨by show 1<=sizeLine;decide,(q H2 (sm.trans s2)).2 ?_⟩⟩
   unfold GF
   rw[Bool.or_eq_true]
   exact .inl (any_eq_true.mpr ⟨d,mem_of_getElem? hd1,decide_eq_true e⟩)
  ·refine ifF (λh=>e (by have:=of_decide_eq_true h;omega)) ?_
   refine⟨_,rfl,_,rfl,a,_,rfl,f1.mono (K15.tups_of s2),by omega,λH3 s3=> ?_⟩
   refine⟨_,_,rfl,rfl,sm.trans (s2.trans s3),⟨some (.ref p1),some (.ref a), ?_⟩, ?_⟩
   ·rw[take_one hd1,es]
    simp only[map_append,sum_append,map_cons,map_nil,sum_cons,sum_nil,Nat.add_zero]
    rfl
   ·rw[take_one hd1,List.any_append,hd]
    simp[e]
 ·rintro σ H1 ⟨sm,⟨y,z,rfl⟩,hd⟩
  rw[<-hul,take_length]at hd⊢
  have hg:GF fs=decide (400<(fs.map λd=>d.body.size).sum):=by unfold GF;rw[hd];rfl
  refine⟨_,rfl,_,_,rfl,rfl,_,rfl, ?_⟩
  by_cases e:400<(fs.map λd=>d.body.size).sum
  ·exact ifT (decide_eq_true (by omega)) ⟨_,rfl,by decide,by decide +kernel,λz hz=>⟨by show 1<=sizeLine;decide,(q H1 sm).2 (by rw[hg];exact decide_eq_true e)⟩⟩
  ·exact ifF (λh=>e (by have:=of_decide_eq_true h;omega)) ((q H1 sm).1 (by rw[hg];exact decide_eq_false e))
end
theorem SQ{t x:List Nat}(h:K10.wordAt t=some x):x.length<=t.length/\∀c∈x,c∈t:=by
 cases t with
 |nil=>cases h
 |cons c r=>
  rw[K10.wordAt_cons]at h
  split at h
  ·split at h
   ·cases h
    exact⟨(takeWhile_sublist _).length_le,λd hd=>(takeWhile_sublist _).subset hd⟩
   ·cases h
  ·split at h
   ·rename_i h2
    cases h
    rw[<-h2]
    exact⟨(List.take_sublist _ _).length_le,λd hd=>(List.take_sublist _ _).subset hd⟩
   ·split at h
    ·cases h
     exact⟨by simp,λd hd=>by
      have:d=c:=by simpa using hd
      subst this
      exact mem_cons_self⟩
    ·cases h
theorem LW:∀(n:Nat) (t:List Nat) (ws:List Wd),K10.cut n t=some ws->ws.length<=t.length/\∀x∈ws,x.length<=t.length/\∀c∈x,c∈t
 |0,t,ws,h=>by cases h;exact⟨zero_le _,λx hx=>by cases hx⟩
 |n+1,[],ws,h=>by cases h;exact⟨zero_le _,λx hx=>by cases hx⟩
 |n+1,c::r,ws,h=>by
  unfold K10.cut at h
  split at h
  ·have ih:=LW n r ws h
   refine⟨Nat.le_succ_of_le ih.1,λx hx=>⟨Nat.le_succ_of_le (ih.2 x hx).1,λd hd=>mem_cons_of_mem _ ((ih.2 x hx).2 d hd)⟩⟩
  ·cases hw:K10.wordAt (c::r)with
   |none=>rw[hw]at h;cases h
   |some x=>
    rw[hw]at h
    dsimp only at h
    obtain⟨ys,hy,rfl⟩:=map_eq_some_iff.mp h
    have ih:=LW n _ ys hy
    have hx:=SQ hw
    have hp:=K10.wordAt_pos hw
    have hdl:((c::r).drop x.length).length<=r.length:=by rw[length_drop,length_cons];omega
    refine⟨by have:=ih.1;simp only[length_cons];omega,λy hy'=> ?_⟩
    rcases cZ hy' with rfl|hy'
    ·exact hx
    ·have h2:=ih.2 y hy'
     exact⟨by have:=h2.1;simp only[length_cons];omega,λd hd=>List.mem_of_mem_drop (h2.2 d hd)⟩
theorem EQ{ws:List Wd}{row:Nat->Nat->Nat->Option (Tm×Nat)}:∀ {m:Nat} {acc:List Fd} {i:Nat} {r:List Fd×Nat},N8 K10.isName ws row m acc i=some r->r.1.length<=acc.length+m
 |0,acc,i,r,h=>by cases h;exact le_refl _
 |m+1,acc,i,r,h=>by
  unfold N8 at h
  split at h
  ·cases h;exact Nat.le_add_right _ _
  ·split at h
   ·cases h
   ·obtain⟨q,e1,e2⟩:=bind_eq_some_iff.mp h
    have:=EQ e2
    simp only[length_append,length_cons,length_nil]at this
    omega
theorem MM{ws:List Wd}{row:Nat->Nat->Nat->Option (Tm×Nat)}{fs:List Fd}(h:K7 K10.isName ws row=some fs):fs.length<=14:=by
 unfold K7 at h
 obtain⟨q,e1,e2⟩:=bind_eq_some_iff.mp h
 obtain⟨r,e3,rfl⟩:=map_eq_some_iff.mp e2
 exact EQ e3
def P8(l:List Nat):Option (List Fd):=if l.length<=4000 then(K10.words l).bind (O7 K10.isNum K10.isName)else none
structure Easy (l:List Nat):Prop where
 len:l.length<=100000
 sign:∀c∈l,c<16^8
 one:∀ws,K10.words l=some ws->∀x∈ws,K10.isNum x=true->True
 size:∀ws fs,K10.words l=some ws->K7 K10.isName ws (S7 ws 32)=some fs->∀d∈fs,d.body.size<=1000
section
variable{P:Program}{w:World}{K:FZ}{mg:Str->Option Value}{base:Heap}{C cT:Addr}{mf:Str->Addr}{md:Str->FuncData}{f TB S8 CD fi:Addr}{fd SZ S9 BY di:FuncData}
inductive spReadW(cT:Addr)(vs:List V)(H:Hp)(Q:VK)(E:XK):Prop
 |mk:∀l,(vs=[.str (tx l)])->(Easy l)->((∀fs p us H',P8 l=some fs->H' p=some (.tup us)->BU.All2 (FdAt H') fs us->Same H H'->Q (.ref p) H'))->((P8 l=none->∀H',E (.ref cT) none H'))->spReadW cT vs H Q E
def YA(cT:Addr):Sp:=λvs H Q E=>spReadW cT vs H Q E
theorem bkZ(F:Fun K "read" "read" s_read f fd)(RC:RCls K C mf md)(M_Reader:Mk K C fi)(m_Reader:mg "Reader"=some (.ref C))
  (G___init__:FnOk P w K mg base CX0 1 fi di a4Z (agZ C))(b___init__:Binds K di a4Z [])
  (LG:Cn P w K mg base (CXr P w) 5 "words" ["text"] (K10.spWords cT))
  (O1:Cn P w K mg base (CXr P w) 1 "refuse_many_brackets" ["found"] (drZ cT))
  (X9:Cn P w K mg base (CXr P w) 4 "refuse_great" ["program"] (UV cT))
  (HC:FnOk P w K mg base (CXr P w) 233 (mf "read_program") (md "read_program") M5 (LD C cT)):
  FnOk P w K mg base (CXr P w) 234 f fd ["text"] (YA cT):=by
 obtain⟨TB,SZ,LG,aGZ,aIZ,aHZ⟩:=LG
 obtain⟨S8,S9,O1,AW,AT,AS⟩:=O1
 obtain⟨CD,BY,X9,HG,HD,HB⟩:=X9
 refine F.okX sc_read (λvs H Q E h=> ?_) (λcdv A outer s H vs Q E hr h=> ?_)
 ·obtain⟨l,rfl,_⟩:=h
  rfl
 obtain⟨l,rfl,ez,q1,q2⟩:=h
 have nd:=sc_read.nd
 have hu:=hr.units0
 refine⟨_,(A1 (B3 (i:=1) nd rfl (Or.inl rfl) (C3 LG (hr.mono (by omega)) rfl aHZ aIZ aGZ .nil B6 (A0 (pv 0) A3)))
   (A1 (E3 (C3 O1 (hr.mono (by omega)) rfl AS AT AW .nil B6 (A0 (pv 1) A3)))
   (A1 (B3 (i:=2) nd rfl (Or.inl rfl) (D4 (aRZ M_Reader G___init__ (hr.mono (by omega)) rfl m_Reader b___init__ .nil C6 (A0 (pv 1) A3)) RC.cl RC.m_read_program HC (hr.mono (by omega)) RC.b_read_program .nil B6))
   (A1 (E3 (C3 X9 (hr.mono (by omega)) rfl HB HD HG .nil B6 (A0 (pv 2) A3)))
   (A7 (B2 (pv 2))))))), ?_⟩
 refine⟨_,rfl,l,rfl,ez.len,ez.sign,λH1 s1=>⟨λws r h4 hw hr0 hr1=> ?_,λhbad=> ?_⟩⟩
 case refine_2=>
  refine q2 ?_ H1
  unfold P8
  rcases hbad with h|h
  ·rw[if_neg (by omega)]
  ·rw[h];split<;>rfl
 have s1:Same H H1:=s1
 have hsub:=LW _ _ _ hw
 have hp0:P8 l=O7 K10.isNum K10.isName ws:=by unfold P8;rw[if_pos h4,hw];rfl
 rw[hp0]at q1 q2
 unfold O7 at q1 q2
 have g:Good ws:=⟨le_trans hsub.1 h4,λx hx=>⟨le_trans (hsub.2 x hx).1 h4,λc hc=>ez.sign c ((hsub.2 x hx).2 c hc),ez.one ws hw x hx⟩⟩
 refine⟨_,rfl,r,ws,rfl,hr1,λhok=> ?_,λhbad=> ?_⟩
 case refine_2=>exact q2 (by rw[hbad];rfl) H1
 rw[if_pos hok]at q1 q2
 refine⟨_,rfl,λx dx hx hdx hne=>⟨x,dx,r,rfl,A2,rfl, ?_⟩⟩
 rw[V6]
 have hxr:r≠x:=B8 hr1 hx
 have hdr:r≠dx:=B8 hr1 hdx
 have hr2:(upd (upd H1 dx (.own x)) x (.ins C dx [("found",.ref r),("place",.int 0)])) r=some (.lst (wds ws)):=by rw[C1 hxr,C1 hdr];exact hr1
 have s2:Same H1 (upd (upd H1 dx (.own x)) x (.ins C dx [("found",.ref r),("place",.int 0)])):=λb o e=>by rw[C1 (B8 e hx),C1 (B8 e hdx)];exact e
 have hx2:(upd (upd H1 dx (.own x)) x (.ins C dx [("found",.ref r),("place",.int 0)])) x=some (.ins C dx [("found",.ref r),("place",.int 0)]):=A2
 generalize upd (upd H1 dx (.own x)) x (.ins C dx [("found",.ref r),("place",.int 0)])=H2 at hr2 s2 hx2⊢
 refine⟨x,dx,_,rfl,hx2,rfl,⟨x,r,ws⟩,rfl,⟨dx,hx2,hr2⟩,g,daZ hok,λfs p us H3 ep hp hA b3=> ?_,λep H3=> ?_⟩
 case refine_2=>exact q2 (by rw[ep];rfl) H3
 have ep':K7 K10.isName ws (K2 K10.isNum K10.isName ws 32).1=some fs:=ep
 rw[ep']at q1 q2
 simp only[bind_some]at q1 q2
 have hHx:H x=none:=s1.free hx
 have s3:Same H H3:=λb o e=>b3 b o (B8 e hHx) (s2 _ _ (s1 _ _ e))
 refine⟨_,rfl,p,us,fs,rfl,hp,hA,ez.size ws fs hw ep,le_trans (MM ep) (by decide),λH4 s4=>⟨λhg=> ?_,λhg=> ?_⟩⟩
 ·exact⟨_,rfl,q1 fs p us H4 (by rw[hg];rfl) (s4 _ _ hp) (hA.imp λa b h=>h.mono (BU.tups_of s4)) (s3.trans s4)⟩
 ·exact q2 (by rw[hg];rfl) H4
end
end RD
namespace RD
namespace Sh
abbrev hd(r:List Wd):Wd:=r.headD []
theorem CH(ws:List Wd)(i:Nat):ahead ws i=hd (ws.drop i):=by
 unfold ahead hd
 rw[List.headD_eq_head?_getD,List.head?_drop]
theorem C0{ws r:List Wd}{w:Wd}{i:Nat}(h:ws.drop i=w::r):ahead ws i=w:=by rw[CH,h];rfl
theorem VY{ws a r:List Wd}{i:Nat}(h:ws.drop i=a++r):ws.drop (i+a.length)=r:=by
 rw[<-List.drop_drop,h,List.drop_left]
theorem B9{ws r:List Wd}{w:Wd}{i:Nat}(h:ws.drop i=w::r):ws.drop (i+1)=r:=VY (a:=[w]) h
def dg(n:Nat):Wd:=(Nat.toDigits 10 n).map Char.toNat
mutual
def tk:Tm->List Wd
 | .num n=> [dg n]
 | .truth b=> [if b then Z3 else wNo]
 | .non=> [EL,DK]
 | .name x=> [x]
 | .two s a b=>E6::(tk a++(s::(tk b++ [D7])))
 | .one s a=>E6::s::(tk a++ [D7])
 | .if_ c a b=>E6::wIf::(tk c++(O5::(tk a++(P9::(tk b++ [D7])))))
 | .let_ x a b=>E6::AK::x::wEq::(tk a++(wIn::(tk b++ [D7])))
 | .fn x a=>E6::wFn::x::K3::(tk a++ [D7])
 | .do_ f a=>E6::(tk f++(P0::(tk a++ [D7])))
 | .call x ts=>x::E6::(tks ts++ [D7])
def tks:List Tm->List Wd
 | []=> []
 | [t]=>tk t
 |t::u::r=>tk t++(L4::tks (u::r))
end
def Nm(nu na:Wd->Bool)(x:Wd):Prop:=na x=true/\nu x=false/\x≠wIf/\x≠AK/\x≠wFn/\x≠E6/\x≠EL/\x≠Z3/\x≠wNo/\E9 x=false
def Nu(nu:Wd->Bool)(n:Nat):Prop:=nu (dg n)=true/\value (dg n)=n/\dg n≠wIf/\dg n≠AK/\dg n≠wFn/\dg n≠E6/\dg n≠EL/\dg n≠Z3/\dg n≠wNo/\E9 (dg n)=false
mutual
def Ok(nu na:Wd->Bool):Tm->Prop
 | .num n=>Nu nu n
 | .truth _=>True
 | .non=>True
 | .name x=>Nm nu na x
 | .two s a b=>s∈ [wLt,wEq,U6,DN,AC,AD,DM]/\Ok nu na a/\Ok nu na b
 | .one s a=>E9 s=true/\Ok nu na a
 | .if_ c a b=>Ok nu na c/\Ok nu na a/\Ok nu na b
 | .let_ x a b=>Nm nu na x/\Ok nu na a/\Ok nu na b
 | .fn x a=>Nm nu na x/\Ok nu na a
 | .do_ f a=>Ok nu na f/\Ok nu na a
 | .call x ts=>Nm nu na x/\ts.length<=4/\Oks nu na ts
def Oks(nu na:Wd->Bool):List Tm->Prop
 | []=>True
 |t::r=>Ok nu na t/\Oks nu na r
end
def P(ws:List Wd){α:Type}(p:Option (α×Nat))(t:α)(rest:List Wd):Prop:=∃j,p=some (t,j)/\ws.drop j=rest
def Tml(r:List Wd):Prop:=E8 (hd r)=0/\hd r≠P0/\hd r≠E6
theorem Tml.of{w:Wd}{r:List Wd}(h:w∈ [D7,L4,O5,P9,wIn,T6]):Tml (w::r):=by
 have:E8 w=0/\w≠P0/\w≠E6:=by revert w;decide
 exact this
theorem Tml.nil:Tml []:=by unfold Tml;decide
theorem depth_pos:∀t:Tm,1<=t.depth
 | .num _=>by simp[Tm.depth]
 | .truth _=>by simp[Tm.depth]
 | .non=>by simp[Tm.depth]
 | .name _=>by simp[Tm.depth]
 | .two _ _ _=>by simp[Tm.depth]
 | .one _ _=>by simp[Tm.depth]
 | .if_ _ _ _=>by simp[Tm.depth]
 | .let_ _ _ _=>by simp[Tm.depth]
 | .fn _ _=>by simp[Tm.depth]
 | .do_ _ _=>by simp[Tm.depth]
 | .call _ _=>by simp[Tm.depth]
section
variable{nu na:Wd->Bool}{ws:List Wd}
theorem first:∀ {t:Tm},Ok nu na t->∃x r,tk t=x::r/\E9 x=false
 | .num n,h=>by simp only[Ok]at h;rw[tk];exact⟨_,_,rfl,h.2.2.2.2.2.2.2.2.2⟩
 | .truth b,_=>by rw[tk];cases b<;>exact⟨_,_,rfl,by decide⟩
 | .non,_=>by rw[tk];exact⟨_,_,rfl,by decide⟩
 | .name x,h=>by simp only[Ok]at h;rw[tk];exact⟨_,_,rfl,h.2.2.2.2.2.2.2.2.2⟩
 | .two _ _ _,_=>by rw[tk];exact⟨_,_,rfl,by decide⟩
 | .one _ _,_=>by rw[tk];exact⟨_,_,rfl,by decide⟩
 | .if_ _ _ _,_=>by rw[tk];exact⟨_,_,rfl,by decide⟩
 | .let_ _ _ _,_=>by rw[tk];exact⟨_,_,rfl,by decide⟩
 | .fn _ _,_=>by rw[tk];exact⟨_,_,rfl,by decide⟩
 | .do_ _ _,_=>by rw[tk];exact⟨_,_,rfl,by decide⟩
 | .call x _,h=>by simp only[Ok]at h;rw[tk];exact⟨_,_,rfl,h.1.2.2.2.2.2.2.2.2.2⟩
theorem J8{w:Wd}{i:Nat}{r:List Wd}(h:ws.drop i=w::r):expect ws w i=some (i+1):=by
 unfold expect
 rw[if_pos (C0 h)]
theorem CT{row:Nat->Nat->Nat->Option (Tm×Nat)}{level i m:Nat}{t:Tm}(h:ahead ws i≠P0):T1 nu na ws row level (m+1) t i=some (t,i):=by
 unfold T1
 rw[if_neg h]
theorem Y6{row:Nat->Nat->Nat->Option (Tm×Nat)}{least level i m:Nat}{t:Tm}(hl:1<=least)(h:E8 (ahead ws i)=0):N2 ws row least level (m+1) t i=some (t,i):=by
 unfold N2
 rw[if_neg (by omega)]
theorem afZ{n level i:Nat}{t:Tm}{rest:List Wd}(ho:Ok nu na t)(hi:ws.drop i=tk t++rest)(hl:level<=16)(hb:hd rest≠P0)(h:P ws (rTW nu na ws (K2 nu na ws n).1 level i) t rest):P ws ((K2 nu na ws (n+1)).2 level i) t rest:=by
 obtain⟨x,r,e,h1⟩:=first ho
 rw[e]at hi
 obtain⟨j,hj,hd'⟩:=h
 refine⟨j, ?_,hd'⟩
 show J6 nu na ws (K2 nu na ws n).1 (K2 nu na ws n).2 level i=_
 unfold J6
 rw[if_neg (by omega),if_neg (by rw[C0 hi,h1];decide),hj]
 exact CT (by rw[CH,hd'];exact hb)
theorem DU{n least level i:Nat}:(K2 nu na ws (n+1)).1 least level i=((K2 nu na ws (n+1)).2 level i).bind λr=>N2 ws (K2 nu na ws n).1 least level (ws.length+1) r.1 r.2:=rfl
theorem AA{n least level i:Nat}{t:Tm}{rest:List Wd}(ho:Ok nu na t)(hi:ws.drop i=tk t++rest)(hl:level<=16)(h1:1<=least)(hr:Tml rest)(h:P ws (rTW nu na ws (K2 nu na ws n).1 level i) t rest):P ws ((K2 nu na ws (n+1)).1 least level i) t rest:=by
 obtain⟨j,hj,hd'⟩:=afZ ho hi hl hr.2.1 h
 refine⟨j, ?_,hd'⟩
 rw[DU,hj]
 exact Y6 h1 (by rw[CH,hd'];exact hr.1)
theorem KY{row:Nat->Nat->Nat->Option (Tm×Nat)}{level i:Nat}{t:Tm}{r rest:List Wd}(hi:ws.drop i=E6::r)(h:P ws (row 1 level (i+1)) t (D7::rest)):P ws (rTW nu na ws row level i) t rest:=by
 obtain⟨j,hj,hd'⟩:=h
 have e:=C0 hi
 refine⟨j+1, ?_,B9 hd'⟩
 unfold rTW U9
 rw[e,if_neg (by decide),if_neg (by decide),if_neg (by decide),if_pos rfl,hj]
 show(expect ws D7 j).map _=_
 rw[J8 hd']
 rfl
end
end Sh
end RD
namespace RD
namespace Sh
def tkr:List Tm->List Wd
 | []=> []
 |t::r=>L4::(tk t++tkr r)
theorem W6:∀(r:List Tm) (t:Tm),tks (t::r)=tk t++tkr r
 | [],t=>by simp[tks,tkr]
 |u::r,t=>by rw[tks,tkr,W6 r u]
theorem EK(ts:List Tm)(rest:List Wd):Tml (tkr ts++(D7::rest)):=by
 cases ts with
 |nil=>exact Tml.of (by decide)
 |cons t r=>rw[tkr];exact Tml.of (by decide)
section
variable{nu na:Wd->Bool}{ws:List Wd}
theorem hO{w:Wd}{r:List Wd}(h:w≠E6):hd (w::r)≠E6:=h
theorem hB{w:Wd}{r:List Wd}(h:w≠P0):hd (w::r)≠P0:=h
theorem byZ{s:Wd}(h:s∈ [wLt,wEq,U6,DN,AC,AD,DM]):1<=E8 s/\1<=CO s/\s≠P0/\s≠E6/\E8 s≠0:=by
 revert s;decide
theorem UO{row:Nat->Nat->Nat->Option (Tm×Nat)}{x:Wd}{level i:Nat}{rest:List Wd}(h:Nm nu na x)(hi:ws.drop i=x::rest):rTW nu na ws row level i=BL ws row x level (i+1):=by
 obtain⟨h1,h2,h3,h4,h5,h6,h7,h8,h9,_⟩:=h
 have e:=C0 hi
 unfold rTW U9
 rw[e,if_neg h3,if_neg h4,if_neg h5,if_neg h6,if_neg h7,if_neg (by simp[h8,h9]),if_neg (by simp[h2]),if_pos h1]
theorem YG{t:Tm}(h:Ok nu na t)(hS:nu D7=false)(hN:na D7=false):∀x r,tk t=x::r->x≠D7:=by
 intro x r e
 cases t with
 |num n=>rw[Ok]at h;rw[tk]at e;cases e;intro z;have h1:=h.1;rw[z,hS]at h1;cases h1
 |truth b=>rw[tk]at e;cases b<;>(cases e;decide)
 |non=>rw[tk]at e;cases e;decide
 |name y=>rw[Ok]at h;rw[tk]at e;cases e;intro z;have h1:=h.1;rw[z,hN]at h1;cases h1
 |two s a b=>rw[tk]at e;cases e;decide
 |one s a=>rw[tk]at e;cases e;decide
 |if_ c a b=>rw[tk]at e;cases e;decide
 |let_ y a b=>rw[tk]at e;cases e;decide
 |fn y a=>rw[tk]at e;cases e;decide
 |do_ f a=>rw[tk]at e;cases e;decide
 |call y ts=>rw[Ok]at h;rw[tk]at e;cases e;intro z;have h1:=h.1.1;rw[z,hN]at h1;cases h1
variable(hS:nu D7=false)(hN:na D7=false)
include hS hN
mutual
theorem tw:(t:Tm)->Ok nu na t->∀(n level i:Nat) (rest:List Wd),2*t.depth<=n+2->level+t.depth<=17->ws.drop i=tk t++rest->hd rest≠E6->P ws (rTW nu na ws (K2 nu na ws n).1 level i) t rest
 | .num k,ho,n,level,i,rest,hn,hl,hi,hr=>by
  rw[Ok]at ho
  obtain⟨h1,h2,h3,h4,h5,h6,h7,h8,h9,_⟩:=ho
  rw[tk,singleton_append]at hi
  have e:=C0 hi
  refine⟨i+1, ?_,B9 hi⟩
  unfold rTW U9
  rw[e,if_neg h3,if_neg h4,if_neg h5,if_neg h6,if_neg h7,if_neg (by simp[h8,h9]),if_pos h1,h2]
 | .truth b,_,n,level,i,rest,hn,hl,hi,hr=>by
  rw[tk,singleton_append]at hi
  refine⟨i+1, ?_,B9 hi⟩
  cases b
  ·have e:ahead ws i=wNo:=C0 hi
   unfold rTW U9
   rw[e,if_neg (by decide),if_neg (by decide),if_neg (by decide),if_neg (by decide),if_neg (by decide),if_pos (by decide)]
   rfl
  ·have e:ahead ws i=Z3:=C0 hi
   unfold rTW U9
   rw[e,if_neg (by decide),if_neg (by decide),if_neg (by decide),if_neg (by decide),if_neg (by decide),if_pos (by decide)]
   rfl
 | .non,_,n,level,i,rest,hn,hl,hi,hr=>by
  rw[tk]at hi
  have e:=C0 hi
  refine⟨i+1+1, ?_,B9 (B9 hi)⟩
  unfold rTW U9
  rw[e,if_neg (by decide),if_neg (by decide),if_neg (by decide),if_neg (by decide),if_pos rfl,J8 (B9 hi)]
  rfl
 | .name x,ho,n,level,i,rest,hn,hl,hi,hr=>by
  rw[Ok]at ho
  rw[tk,singleton_append]at hi
  refine⟨i+1, ?_,B9 hi⟩
  rw[UO ho hi,BL,if_neg (by rw[CH,B9 hi];exact hr)]
 | .two s a b,ho,n,level,i,rest,hn,hl,hi,hr=>by
  rw[Ok]at ho
  obtain⟨hs,ha,hb⟩:=ho
  obtain⟨s1,s2,s3,s4,s5⟩:=byZ hs
  have da:=depth_pos a;have db:=depth_pos b
  simp only[Tm.depth]at hn hl
  rw[tk]at hi
  simp only[cons_append,List.append_assoc]at hi
  obtain⟨m,rfl⟩:∃m,n=m+2:=⟨n - 2,by omega⟩
  have h1:=B9 hi
  refine KY hi ?_
  obtain⟨j,hj,ej⟩:=afZ (n:=m+1) ha h1 (by omega) (by exact s3) (tw a ha (m+1) level (i+1) _ (by omega) (by omega) h1 (by exact s4))
  obtain⟨k,hk,ek⟩:=AA (n:=m) (least:=CO s) hb (B9 ej) (by omega) s2 (Tml.of (by decide)) (tw b hb m (level+1) (j+1) _ (by omega) (by omega) (B9 ej) (hO (by decide)))
  refine⟨k, ?_,ek⟩
  rw[DU,hj]
  show N2 ws (K2 nu na ws (m+1)).1 1 level (ws.length+1) a j=_
  unfold N2
  rw[C0 ej,if_pos s1,hk]
  show(if _ then _ else _)=_
  have e:=C0 ek
  have ec:(M0 s&&M0 (ahead ws k))=false:=by rw[e,show M0 D7=false from by decide,Bool.and_false]
  rw[if_neg (by rw[ec];decide)]
  cases hw:ws.length with
  |zero=>
   have:ws=[]:=length_eq_zero_iff.mp hw
   rw[this]at ek;simp at ek
  |succ z=>exact Y6 (le_refl _) (by rw[e];decide)
 | .one s a,ho,n,level,i,rest,hn,hl,hi,hr=>by
  rw[Ok]at ho
  obtain⟨hs,ha⟩:=ho
  have da:=depth_pos a
  simp only[Tm.depth]at hn hl
  rw[tk]at hi
  simp only[cons_append,List.append_assoc]at hi
  obtain⟨m,rfl⟩:∃m,n=m+2:=⟨n - 2,by omega⟩
  have h1:=B9 hi
  have h2:=B9 h1
  refine KY hi ?_
  obtain⟨j,hj,ej⟩:=afZ (n:=m) ha h2 (by omega) (hB (by decide)) (tw a ha m (level+1) (i+1+1) _ (by omega) (by omega) h2 (hO (by decide)))
  refine⟨j, ?_,ej⟩
  have e2:(K2 nu na ws (m+1+1)).2 level (i+1)=some (.one s a,j):=by
   show J6 nu na ws (K2 nu na ws (m+1)).1 (K2 nu na ws (m+1)).2 level (i+1)=_
   unfold J6
   rw[if_neg (by omega),C0 h1,if_pos hs,hj]
   rfl
  rw[DU,e2]
  exact Y6 (le_refl _) (by rw[C0 ej];decide)
 | .if_ c a b,ho,n,level,i,rest,hn,hl,hi,hr=>by
  rw[Ok]at ho
  obtain⟨hc,ha,hb⟩:=ho
  have dc:=depth_pos c;have da:=depth_pos a;have db:=depth_pos b
  simp only[Tm.depth]at hn hl
  rw[tk]at hi
  simp only[cons_append,List.append_assoc]at hi
  obtain⟨m,rfl⟩:∃m,n=m+2:=⟨n - 2,by omega⟩
  have h1:=B9 hi
  have h2:=B9 h1
  refine KY hi ?_
  obtain⟨j,hj,ej⟩:=AA (n:=m) (least:=1) hc h2 (by omega) (le_refl _) (Tml.of (by decide)) (tw c hc m (level+1) (i+1+1) _ (by omega) (by omega) h2 (hO (by decide)))
  obtain⟨k,hk,ek⟩:=AA (n:=m) (least:=1) ha (B9 ej) (by omega) (le_refl _) (Tml.of (by decide)) (tw a ha m (level+1) (j+1) _ (by omega) (by omega) (B9 ej) (hO (by decide)))
  obtain⟨q,hq,eq⟩:=AA (n:=m) (least:=1) hb (B9 ek) (by omega) (le_refl _) (Tml.of (by decide)) (tw b hb m (level+1) (k+1) _ (by omega) (by omega) (B9 ek) (hO (by decide)))
  have e1:rTW nu na ws (K2 nu na ws (m+1)).1 level (i+1)=some (.if_ c a b,q):=by
   unfold rTW
   rw[C0 h1,if_pos rfl]
   unfold rIf
   simp only[J8 h1,bind_some,hj,J8 ej,hk,J8 ek,hq,map_some]
  refine⟨q, ?_,eq⟩
  have e2:(K2 nu na ws (m+1+1)).2 level (i+1)=some (.if_ c a b,q):=by
   show J6 nu na ws (K2 nu na ws (m+1)).1 (K2 nu na ws (m+1)).2 level (i+1)=_
   unfold J6
   rw[if_neg (by omega),C0 h1,if_neg (by decide),e1]
   exact CT (by rw[C0 eq];decide)
  rw[DU,e2]
  exact Y6 (le_refl _) (by rw[C0 eq];decide)
 | .let_ x a b,ho,n,level,i,rest,hn,hl,hi,hr=>by
  rw[Ok]at ho
  obtain⟨hx,ha,hb⟩:=ho
  have da:=depth_pos a;have db:=depth_pos b
  simp only[Tm.depth]at hn hl
  rw[tk]at hi
  simp only[cons_append,List.append_assoc]at hi
  obtain⟨m,rfl⟩:∃m,n=m+2:=⟨n - 2,by omega⟩
  have h1:=B9 hi
  have h2:=B9 h1
  have h3:=B9 h2
  have h4:=B9 h3
  refine KY hi ?_
  obtain⟨k,hk,ek⟩:=AA (n:=m) (least:=1) ha h4 (by omega) (le_refl _) (Tml.of (by decide)) (tw a ha m (level+1) (i+1+1+1+1) _ (by omega) (by omega) h4 (hO (by decide)))
  obtain⟨q,hq,eq⟩:=AA (n:=m) (least:=1) hb (B9 ek) (by omega) (le_refl _) (Tml.of (by decide)) (tw b hb m (level+1) (k+1) _ (by omega) (by omega) (B9 ek) (hO (by decide)))
  have en:P1 na ws (i+1+1)=some (x,i+1+1+1):=by unfold P1;rw[C0 h2,if_pos hx.1]
  have e1:rTW nu na ws (K2 nu na ws (m+1)).1 level (i+1)=some (.let_ x a b,q):=by
   unfold rTW
   rw[C0 h1,if_neg (by decide),if_pos rfl]
   unfold RJ
   simp only[J8 h1,bind_some,en,J8 h3,hk,J8 ek,hq,map_some]
  refine⟨q, ?_,eq⟩
  have e2:(K2 nu na ws (m+1+1)).2 level (i+1)=some (.let_ x a b,q):=by
   show J6 nu na ws (K2 nu na ws (m+1)).1 (K2 nu na ws (m+1)).2 level (i+1)=_
   unfold J6
   rw[if_neg (by omega),C0 h1,if_neg (by decide),e1]
   exact CT (by rw[C0 eq];decide)
  rw[DU,e2]
  exact Y6 (le_refl _) (by rw[C0 eq];decide)
 | .fn x a,ho,n,level,i,rest,hn,hl,hi,hr=>by
  rw[Ok]at ho
  obtain⟨hx,ha⟩:=ho
  have da:=depth_pos a
  simp only[Tm.depth]at hn hl
  rw[tk]at hi
  simp only[cons_append,List.append_assoc]at hi
  obtain⟨m,rfl⟩:∃m,n=m+2:=⟨n - 2,by omega⟩
  have h1:=B9 hi
  have h2:=B9 h1
  have h3:=B9 h2
  have h4:=B9 h3
  refine KY hi ?_
  obtain⟨q,hq,eq⟩:=AA (n:=m) (least:=1) ha h4 (by omega) (le_refl _) (Tml.of (by decide)) (tw a ha m (level+1) (i+1+1+1+1) _ (by omega) (by omega) h4 (hO (by decide)))
  have en:P1 na ws (i+1+1)=some (x,i+1+1+1):=by unfold P1;rw[C0 h2,if_pos hx.1]
  have e1:rTW nu na ws (K2 nu na ws (m+1)).1 level (i+1)=some (.fn x a,q):=by
   unfold rTW
   rw[C0 h1,if_neg (by decide),if_neg (by decide),if_pos rfl]
   unfold rFn
   simp only[J8 h1,bind_some,en,J8 h3,hq,map_some]
  refine⟨q, ?_,eq⟩
  have e2:(K2 nu na ws (m+1+1)).2 level (i+1)=some (.fn x a,q):=by
   show J6 nu na ws (K2 nu na ws (m+1)).1 (K2 nu na ws (m+1)).2 level (i+1)=_
   unfold J6
   rw[if_neg (by omega),C0 h1,if_neg (by decide),e1]
   exact CT (by rw[C0 eq];decide)
  rw[DU,e2]
  exact Y6 (le_refl _) (by rw[C0 eq];decide)
 | .do_ f a,ho,n,level,i,rest,hn,hl,hi,hr=>by
  rw[Ok]at ho
  obtain⟨hf,ha⟩:=ho
  have df:=depth_pos f;have da:=depth_pos a
  simp only[Tm.depth]at hn hl
  rw[tk]at hi
  simp only[cons_append,List.append_assoc]at hi
  obtain⟨m,rfl⟩:∃m,n=m+2:=⟨n - 2,by omega⟩
  have h1:=B9 hi
  refine KY hi ?_
  obtain⟨j,hj,ej⟩:=tw f hf (m+1) level (i+1) _ (by omega) (by omega) h1 (hO (by decide))
  obtain⟨q,hq,eq⟩:=tw a ha (m+1) (level+1) (j+1) _ (by omega) (by omega) (B9 ej) (hO (by decide))
  refine⟨q, ?_,eq⟩
  obtain⟨x,r,ef,h6⟩:=first hf
  have h7:=h1
  rw[ef]at h7
  have hw:∃z,ws.length=z+1:=by
   cases hw:ws.length with
   |zero=>
    have:ws=[]:=length_eq_zero_iff.mp hw
    rw[this]at eq;simp at eq
   |succ z=>exact⟨z,rfl⟩
  obtain⟨z,hz⟩:=hw
  have e2:(K2 nu na ws (m+1+1)).2 level (i+1)=some (.do_ f a,q):=by
   show J6 nu na ws (K2 nu na ws (m+1)).1 (K2 nu na ws (m+1)).2 level (i+1)=_
   unfold J6
   rw[if_neg (by omega),C0 h7,if_neg (by rw[h6];decide),hj]
   show T1 nu na ws (K2 nu na ws (m+1)).1 level (ws.length+1) f j=_
   unfold T1
   rw[C0 ej,if_pos rfl,hq,hz]
   exact CT (by rw[C0 eq];decide)
  rw[DU,e2]
  exact Y6 (le_refl _) (by rw[C0 eq];decide)
 | .call x ts,ho,n,level,i,rest,hn,hl,hi,hr=>by
  rw[Ok]at ho
  obtain⟨hx,hlen,hts⟩:=ho
  simp only[Tm.depth]at hn hl
  rw[tk]at hi
  simp only[cons_append,List.append_assoc,nil_append]at hi
  have h1:=B9 hi
  have h2:=B9 h1
  have key:P ws (K6 ws ((K2 nu na ws n).1 1 (level+1)) 5 [] (i+1+1)) ts rest:=by
   cases ts with
   |nil=>
    rw[tks,nil_append]at h2
    refine⟨i+1+1+1, ?_,B9 h2⟩
    unfold K6 P7
    rw[C0 h2,if_pos rfl]
   |cons t r=>
    rw[Oks]at hts
    have dt:=depth_pos t
    simp only[depths]at hn hl
    rw[W6,List.append_assoc]at h2
    obtain⟨m,rfl⟩:∃m,n=m+1:=⟨n - 1,by omega⟩
    obtain⟨j,hj,ej⟩:=AA (n:=m) (least:=1) hts.1 h2 (by omega) (le_refl _) (EK r rest) (tw t hts.1 m (level+1) (i+1+1) _ (by omega) (by omega) h2 (EK r rest).2.2)
    obtain⟨k,hk,ek⟩:=tl r hts.2 m (level+1) j 4 [t] rest (by simp) (by simp only[length_cons,length_nil]at hlen⊢;omega) (by omega) (by omega) (by omega) (by simp only[length_cons]at hlen;omega) ej
    refine⟨k, ?_,ek⟩
    obtain⟨y,r',ef,h6⟩:=first hts.1
    have h7:=h2
    rw[ef]at h7
    unfold K6 P7
    have hy:ahead ws (i+1+1)≠D7:=by
     intro hh
     rw[C0 h7]at hh
     exact YG hts.1 hS hN y r' ef hh
    rw[if_neg hy,if_neg (by decide),if_neg (by decide)]
    simp only[hj]
    exact hk
  obtain⟨k,hk,ek⟩:=key
  refine⟨k, ?_,ek⟩
  rw[UO hx hi,BL,if_pos (C0 h1),BC,J8 h1]
  show(K6 ws ((K2 nu na ws n).1 1 (level+1)) 5 [] (i+1+1)).map _=_
  rw[hk]
  rfl
theorem tl:(ts:List Tm)->Oks nu na ts->∀(n level i m:Nat) (acc:List Tm) (rest:List Wd),acc≠ []->acc.length+ts.length<=4->2*depths ts<=n+2->level+depths ts<=17->level<=16->ts.length<m->ws.drop i=tkr ts++(D7::rest)->
  P ws (K6 ws ((K2 nu na ws (n+1)).1 1 level) m acc i) (acc++ts) rest
 | [],_,n,level,i,m,acc,rest,ha,hl,hn,hd,h6,hm,hi=>by
  obtain⟨z,rfl⟩:∃z,m=z+1:=⟨m - 1,by omega⟩
  rw[tkr,nil_append]at hi
  refine⟨i+1, ?_,B9 hi⟩
  unfold K6 P7
  rw[C0 hi,if_pos rfl,append_nil]
 |t::r,ho,n,level,i,m,acc,rest,ha,hl,hn,hd,h6,hm,hi=>by
  rw[Oks]at ho
  obtain⟨z,rfl⟩:∃z,m=z+1:=⟨m - 1,by omega⟩
  simp only[depths]at hn hd
  rw[tkr]at hi
  simp only[cons_append,List.append_assoc]at hi
  have h1:=B9 hi
  have hp:0<acc.length:=List.length_pos_iff.mpr ha
  simp only[length_cons]at hl hm
  obtain⟨j,hj,ej⟩:=AA (n:=n) (least:=1) ho.1 h1 h6 (le_refl _) (EK r rest) (tw t ho.1 n level (i+1) _ (by omega) (by omega) h1 (EK r rest).2.2)
  obtain⟨k,hk,ek⟩:=tl r ho.2 n level j z (acc++ [t]) rest (by simp) (by simp only[length_append,length_cons,length_nil];omega) (by omega) (by omega) h6 (by omega) ej
  refine⟨k, ?_,ek⟩
  unfold K6 P7
  rw[C0 hi,if_neg (by decide),if_neg (by omega),if_pos hp,J8 hi]
  simp only[map_some,hj]
  rw[List.append_assoc]at hk
  exact hk
end
end
end Sh
end RD
namespace RD
namespace Sh
section
variable{nu na:Wd->Bool}{ws:List Wd}
theorem bk1{w:Wd}{r:List Wd}{n:Int}(h:delta w=0)(hn:n<=16):C2 n (w::r)=C2 n r:=by
 rw[C2,h,Int.add_zero,decide_eq_true hn,Bool.true_and]
theorem bkO{r:List Wd}{n:Int}(hn:n+1<=16):C2 n (E6::r)=C2 (n+1) r:=by
 rw[C2,show delta E6=1 from by decide,decide_eq_true hn,Bool.true_and]
theorem bkS{r:List Wd}{n:Int}(hn:n<=16):C2 (n+1) (D7::r)=C2 n r:=by
 rw[C2,show delta D7= -1 from by decide,show n+1+ -1=n by omega,decide_eq_true hn,Bool.true_and]
theorem aDZ{x:Wd}(h1:x≠E6)(h2:x≠D7):delta x=0:=by
 unfold delta
 rw[if_neg h1,if_neg h2]
 rfl
variable(hS:nu D7=false)(hN:na D7=false)
include hS hN
theorem Nm.delta{x:Wd}(h:Nm nu na x):delta x=0:=aDZ h.2.2.2.2.2.1 (λz=>by have h1:=h.1;rw[z,hN]at h1;cases h1)
mutual
theorem bk:(t:Tm)->Ok nu na t->∀(n:Int) (r:List Wd),n+t.depth<=16->C2 n (tk t++r)=C2 n r
 | .num k,ho,n,r,hn=>by
  rw[Ok]at ho
  rw[tk,singleton_append]
  simp only[Tm.depth]at hn
  exact bk1 (aDZ ho.2.2.2.2.2.1 (λz=>by have h1:=ho.1;rw[z,hS]at h1;cases h1)) (by omega)
 | .truth b,_,n,r,hn=>by
  rw[tk,singleton_append]
  simp only[Tm.depth]at hn
  exact bk1 (by cases b<;>decide) (by omega)
 | .non,_,n,r,hn=>by
  rw[tk]
  simp only[Tm.depth]at hn
  simp only[cons_append,nil_append]
  rw[bk1 (by decide) (by omega),bk1 (by decide) (by omega)]
 | .name x,ho,n,r,hn=>by
  rw[Ok]at ho
  rw[tk,singleton_append]
  simp only[Tm.depth]at hn
  exact bk1 (Nm.delta hS hN ho) (by omega)
 | .two s a b,ho,n,r,hn=>by
  rw[Ok]at ho
  rw[tk]
  simp only[Tm.depth]at hn
  simp only[cons_append,List.append_assoc,nil_append]
  have hs:delta s=0:=by obtain⟨hs,_⟩:=ho;revert hs;revert s;decide
  rw[bkO (by omega),bk a ho.2.1 _ _ (by omega),bk1 hs (by omega),bk b ho.2.2 _ _ (by omega),bkS (by omega)]
 | .one s a,ho,n,r,hn=>by
  rw[Ok]at ho
  rw[tk]
  simp only[Tm.depth]at hn
  simp only[cons_append,List.append_assoc,nil_append]
  have hs:delta s=0:=by
   have h':s=AM\/s=AR\/s=U7\/s=FH:=by simpa [E9,or_assoc]using ho.1
   rcases h' with rfl|rfl|rfl|rfl<;>decide
  rw[bkO (by omega),bk1 hs (by omega),bk a ho.2 _ _ (by omega),bkS (by omega)]
 | .if_ c a b,ho,n,r,hn=>by
  rw[Ok]at ho
  rw[tk]
  simp only[Tm.depth]at hn
  simp only[cons_append,List.append_assoc,nil_append]
  rw[bkO (by omega),bk1 (by decide) (by omega),bk c ho.1 _ _ (by omega),bk1 (by decide) (by omega),bk a ho.2.1 _ _ (by omega),bk1 (by decide) (by omega),bk b ho.2.2 _ _ (by omega),bkS (by omega)]
 | .let_ x a b,ho,n,r,hn=>by
  rw[Ok]at ho
  rw[tk]
  simp only[Tm.depth]at hn
  simp only[cons_append,List.append_assoc,nil_append]
  rw[bkO (by omega),bk1 (by decide) (by omega),bk1 (Nm.delta hS hN ho.1) (by omega),bk1 (by decide) (by omega),bk a ho.2.1 _ _ (by omega),bk1 (by decide) (by omega),bk b ho.2.2 _ _ (by omega),bkS (by omega)]
 | .fn x a,ho,n,r,hn=>by
  rw[Ok]at ho
  rw[tk]
  simp only[Tm.depth]at hn
  simp only[cons_append,List.append_assoc,nil_append]
  rw[bkO (by omega),bk1 (by decide) (by omega),bk1 (Nm.delta hS hN ho.1) (by omega),bk1 (by decide) (by omega),bk a ho.2 _ _ (by omega),bkS (by omega)]
 | .do_ f a,ho,n,r,hn=>by
  rw[Ok]at ho
  rw[tk]
  simp only[Tm.depth]at hn
  simp only[cons_append,List.append_assoc,nil_append]
  rw[bkO (by omega),bk f ho.1 _ _ (by omega),bk1 (by decide) (by omega),bk a ho.2 _ _ (by omega),bkS (by omega)]
 | .call x ts,ho,n,r,hn=>by
  rw[Ok]at ho
  rw[tk]
  simp only[Tm.depth]at hn
  simp only[cons_append,List.append_assoc,nil_append]
  rw[bk1 (Nm.delta hS hN ho.1) (by omega),bkO (by omega)]
  cases ts with
  |nil=>rw[tks,nil_append,bkS (by omega)]
  |cons t u=>
   have hh:=ho.2.2
   rw[Oks]at hh
   simp only[depths]at hn
   rw[W6,List.append_assoc,bk t hh.1 _ _ (by omega),bkr u hh.2 _ _ (by omega) (by omega),bkS (by omega)]
theorem bkr:(ts:List Tm)->Oks nu na ts->∀(n:Int) (r:List Wd),n<=16->n+depths ts<=16->C2 n (tkr ts++r)=C2 n r
 | [],_,n,r,h0,hn=>by rw[tkr,nil_append]
 |t::u,ho,n,r,h0,hn=>by
  rw[Oks]at ho
  simp only[depths]at hn
  rw[tkr]
  simp only[cons_append,List.append_assoc]
  rw[bk1 (by decide) h0,bk t ho.1 _ _ (by omega),bkr u ho.2 _ _ h0 (by omega)]
end
end
def nmr:List Wd->List Wd
 | []=> []
 |x::r=>L4::x::nmr r
def nms:List Wd->List Wd
 | []=> []
 |x::r=>x::nmr r
def ftk(f:Fd):List Wd:=T6::f.name::E6::(nms f.names++(D7::wEq::tk f.body))
def FOk(nu na:Wd->Bool)(f:Fd):Prop:=Nm nu na f.name/\(∀x∈f.names,Nm nu na x)/\f.names.length<=4/\Ok nu na f.body/\f.body.depth<=16
section
variable{nu na:Wd->Bool}{ws:List Wd}(hS:nu D7=false)(hN:na D7=false)
include hS hN
theorem bkn:∀(xs:List Wd),(∀x∈xs,Nm nu na x)->∀(n:Int) (r:List Wd),n<=16->C2 n (nmr xs++r)=C2 n r
 | [],_,n,r,h=>by rw[nmr,nil_append]
 |x::u,ho,n,r,h=>by
  rw[nmr]
  simp only[cons_append]
  rw[bk1 (by decide) h,bk1 (Nm.delta hS hN (ho x (mem_cons_self ..))) h,bkn u (λy hy=>ho y (mem_cons_of_mem _ hy)) n r h]
theorem bkf{f:Fd}(h:FOk nu na f)(r:List Wd):C2 0 (ftk f++r)=C2 0 r:=by
 obtain⟨h1,h2,h3,h4,h5⟩:=h
 unfold ftk
 simp only[cons_append,List.append_assoc]
 have e:∀r',C2 1 (nms f.names++r')=C2 1 r':=by
  intro r'
  cases hf:f.names with
  |nil=>rw[nms,nil_append]
  |cons x u=>
   rw[hf]at h2
   rw[nms,cons_append,bk1 (Nm.delta hS hN (h2 x (mem_cons_self ..))) (by omega),bkn hS hN u (λy hy=>h2 y (mem_cons_of_mem _ hy)) 1 r' (by omega)]
 rw[bk1 (by decide) (by omega),bk1 (Nm.delta hS hN h1) (by omega),bkO (by omega)]
 show C2 1 _=_
 rw[e]
 have e2:=bkS (n:=0) (r:=wEq::(tk f.body++r)) (by omega)
 rw[show(0:Int)+1=1 from rfl]at e2
 rw[e2,bk1 (by decide) (by omega),bk hS hN f.body h4 0 r (by omega)]
theorem bkp:∀fs:List Fd,(∀f∈fs,FOk nu na f)->C2 0 (fs.flatMap ftk)=true
 | [],_=>rfl
 |f::u,h=>by rw[flatMap_cons,bkf hS hN (h f (mem_cons_self ..)),bkp u λg hg=>h g (mem_cons_of_mem _ hg)]
omit hS in
theorem OV:∀(xs:List Wd),(∀x∈xs,Nm nu na x)->∀(i m:Nat) (acc:List Wd) (rest:List Wd),acc≠ []->acc.length+xs.length<=4->xs.length<m->ws.drop i=nmr xs++(D7::rest)->P ws (K6 ws (P1 na ws) m acc i) (acc++xs) rest
 | [],_,i,m,acc,rest,ha,hl,hm,hi=>by
  obtain⟨z,rfl⟩:∃z,m=z+1:=⟨m - 1,by omega⟩
  rw[nmr,nil_append]at hi
  refine⟨i+1, ?_,B9 hi⟩
  unfold K6 P7
  rw[C0 hi,if_pos rfl,append_nil]
 |x::r,ho,i,m,acc,rest,ha,hl,hm,hi=>by
  obtain⟨z,rfl⟩:∃z,m=z+1:=⟨m - 1,by omega⟩
  rw[nmr]at hi
  simp only[cons_append]at hi
  have h1:=B9 hi
  have hp:0<acc.length:=List.length_pos_iff.mpr ha
  simp only[length_cons]at hl hm
  have hx:=ho x (mem_cons_self ..)
  have hj:P1 na ws (i+1)=some (x,i+1+1):=by unfold P1;rw[C0 h1,if_pos hx.1]
  obtain⟨k,hk,ek⟩:=OV r (λy hy=>ho y (mem_cons_of_mem _ hy)) (i+1+1) z (acc++ [x]) rest (by simp) (by simp only[length_append,length_cons,length_nil];omega) (by omega) (B9 h1)
  refine⟨k, ?_,ek⟩
  unfold K6 P7
  rw[C0 hi,if_neg (by decide),if_neg (by omega),if_pos hp,J8 hi]
  simp only[map_some,hj]
  rw[List.append_assoc]at hk
  exact hk
theorem aqZ{f:Fd}(h:FOk nu na f){i:Nat}{rest:List Wd}(hr:Tml rest)(hi:ws.drop i=ftk f++rest):P ws (O8 na ws (K2 nu na ws 32).1 i) f rest:=by
 obtain⟨h1,h2,h3,h4,h5⟩:=h
 unfold ftk at hi
 simp only[cons_append,List.append_assoc]at hi
 have d1:=B9 hi
 have d2:=B9 d1
 have d3:=B9 d2
 have en:P1 na ws (i+1)=some (f.name,i+1+1):=by unfold P1;rw[C0 d1,if_pos h1.1]
 have key:P ws (K6 ws (P1 na ws) 5 [] (i+1+1+1)) f.names (wEq::(tk f.body++rest)):=by
  cases hf:f.names with
  |nil=>
   rw[hf,nms,nil_append]at d3
   refine⟨i+1+1+1+1, ?_,B9 d3⟩
   unfold K6 P7
   rw[C0 d3,if_pos rfl]
  |cons x r=>
   rw[hf]at h2 h3 d3
   rw[nms,cons_append]at d3
   have hx:=h2 x (mem_cons_self ..)
   have hj:P1 na ws (i+1+1+1)=some (x,i+1+1+1+1):=by unfold P1;rw[C0 d3,if_pos hx.1]
   simp only[length_cons]at h3
   obtain⟨k,hk,ek⟩:=OV (ws:=ws) hN r (λy hy=>h2 y (mem_cons_of_mem _ hy)) (i+1+1+1+1) 4 [x] _ (by simp) (by simp only[length_cons,length_nil];omega) (by omega) (B9 d3)
   refine⟨k, ?_,ek⟩
   have hy:ahead ws (i+1+1+1)≠D7:=by
    rw[C0 d3]
    intro z
    have h1:=hx.1
    rw[z,hN]at h1;cases h1
   unfold K6 P7
   rw[if_neg hy,if_neg (by decide),if_neg (by decide)]
   simp only[hj]
   exact hk
 obtain⟨k,hk,ek⟩:=key
 obtain⟨q,hq,eq⟩:=AA (n:=31) (least:=1) (level:=1) h4 (B9 ek) (by omega) (le_refl _) hr (tw hS hN f.body h4 31 1 (k+1) rest (by omega) (by omega) (B9 ek) hr.2.2)
 refine⟨q, ?_,eq⟩
 have er:BJ na ws (i+1+1)=some (f.names,k):=by
  unfold BJ
  rw[J8 d2]
  exact hk
 unfold O8
 simp only[J8 hi,bind_some,en,er,J8 ek,hq,map_some]
theorem PV:∀fs:List Fd,Tml (fs.flatMap ftk)
 | []=>Tml.nil
 |f::r=>by rw[flatMap_cons];exact Tml.of (by decide)
theorem UQ:∀(fs:List Fd),(∀f∈fs,FOk nu na f)->∀(i m:Nat) (acc:List Fd),acc.length+fs.length<=12->fs.length<m->ws.drop i=fs.flatMap ftk->∃j,N8 na ws (K2 nu na ws 32).1 m acc i=some (acc++fs,j)
 | [],_,i,m,acc,hl,hm,hi=>by
  obtain⟨z,rfl⟩:∃z,m=z+1:=⟨m - 1,by omega⟩
  refine⟨i, ?_⟩
  unfold N8
  rw[if_pos (by rw[CH,hi];rfl),append_nil]
 |f::r,ho,i,m,acc,hl,hm,hi=>by
  obtain⟨z,rfl⟩:∃z,m=z+1:=⟨m - 1,by omega⟩
  simp only[length_cons]at hl hm
  rw[flatMap_cons]at hi
  obtain⟨k,hk,ek⟩:=aqZ hS hN (ho f (mem_cons_self ..)) (PV hS hN r) hi
  obtain⟨j,hj⟩:=UQ r (λg hg=>ho g (mem_cons_of_mem _ hg)) k z (acc++ [f]) (by simp only[length_append,length_cons,length_nil];omega) (by omega) ek
  refine⟨j, ?_⟩
  have ha:ahead ws i≠ []:=by
   have:ws.drop i=T6::(f.name::E6::(nms f.names++(D7::wEq::tk f.body))++r.flatMap ftk):=hi
   rw[C0 this]
   decide
  unfold N8
  rw[if_neg ha,if_neg (by omega),hk]
  rw[List.append_assoc]at hj
  exact hj
theorem read_shown{fs:List Fd}(h:∀f∈fs,FOk nu na f)(h0:fs≠ [])(h1:fs.length<=12)(h2:(fs.map λf=>f.body.size).sum<=400):O7 nu na (fs.flatMap ftk)=some fs:=by
 unfold O7
 rw[if_pos (bkp hS hN fs h)]
 have hp:K7 na (fs.flatMap ftk) (K2 nu na (fs.flatMap ftk) 32).1=some fs:=by
  cases fs with
  |nil=>exact absurd rfl h0
  |cons f r=>
   simp only[length_cons]at h1
   obtain⟨k,hk,ek⟩:=aqZ (ws:=(f::r).flatMap ftk) hS hN (h f (mem_cons_self ..)) (PV hS hN r) (i:=0) (by rw[List.drop_zero,flatMap_cons])
   obtain⟨j,hj⟩:=UQ (ws:=(f::r).flatMap ftk) hS hN r (λg hg=>h g (mem_cons_of_mem _ hg)) k 13 [f] (by simp only[length_cons,length_nil];omega) (by omega) ek
   unfold K7
   rw[hk]
   simp only[bind_some,hj,map_some]
   rfl
 rw[hp]
 have hg:GF fs=false:=by
  unfold GF
  have e1:fs.any (λf=>decide (16<f.body.depth))=false:=by
   rw[List.any_eq_false]
   intro f hf
   have:=(h f hf).2.2.2.2
   simp;omega
  rw[e1,Bool.false_or,decide_eq_false (by omega)]
 simp only[bind_some]
 rw[if_neg (by rw[hg];decide)]
end
end Sh
end RD
namespace RD
namespace Sh
open K10 (words long gap mark GM wordAt)
def NL(r:List Nat):Prop:=∀c r',r=c::r'->long c=false
def Wo(x:Wd):Prop:=x.all long=true/\x≠ []/\GM x=true
theorem NL.nil:NL []:=λ_ _ h=>nomatch h
theorem NL.cons{c:Nat}{r:List Nat}(h:long c=false):NL (c::r):=λ_ _ e=>by cases e;exact h
structure Gp (g:List Nat):Prop where
 ne:g≠ []
 gap:∀c∈g,gap c=true
theorem Gp.nl{g:List Nat}(h:Gp g)(r:List Nat):NL (g++r):=by
 cases g with
 |nil=>exact absurd rfl h.ne
 |cons c g=>exact NL.cons (K10.gap_long (h.gap c (mem_cons_self ..)))
theorem Gp.not62{g:List Nat}(h:Gp g)(r:List Nat):(61::(g++r)).take 2≠ [61,62]:=by
 cases g with
 |nil=>exact absurd rfl h.ne
 |cons c g=>
  intro e
  simp only[cons_append,take_succ_cons,take_zero,List.cons.injEq,and_true,true_and]at e
  have:=h.gap c (mem_cons_self ..)
  rw[e]at this
  revert this;decide
theorem CW{x:Wd}{rest:List Nat}{l:List Wd}(h:Wo x)(hs:NL rest)(hr:words rest=some l):words (x++rest)=some (x::l):=by
 rw[K10.words_row h.1 h.2.1 hs,hr]
 unfold K10.close
 rw[if_neg h.2.1,if_pos h.2.2]
 rfl
theorem w_gap{g:List Nat}(hg:∀c∈g,gap c=true)(rest:List Nat):words (g++rest)=words rest:=by
 induction g with
 |nil=>rfl
 |cons c g ih=>
  rw[cons_append,K10.words_gap (hg c (mem_cons_self ..)),ih λd hd=>hg d (mem_cons_of_mem _ hd)]
theorem LR{c:Nat}{rest:List Nat}{l:List Wd}(hm:mark c=true)(h2:(c::rest).take 2≠ [61,62])(hr:words rest=some l):words (c::rest)=some ([c]::l):=by
 obtain⟨m1,m2,_⟩:=K10.mark_long hm
 have e:wordAt (c::rest)=some [c]:=by rw[K10.wordAt_cons,if_neg (by rw[m1];decide),if_neg h2,if_pos hm]
 rw[K10.words_word m2 e]
 show(words rest).map _=_
 rw[hr]
 rfl
theorem BP{c:Nat}{rest:List Nat}{l:List Wd}(hm:mark c=true)(h2:c≠61)(hr:words rest=some l):words (c::rest)=some ([c]::l):=by
 refine LR hm ?_ hr
 cases rest with
 |nil=>simp
 |cons d r=>intro e;simp only[take_succ_cons,take_zero,List.cons.injEq]at e;exact h2 e.1
theorem MU{rest:List Nat}{l:List Wd}(hr:words rest=some l):words (K3++rest)=some (K3::l):=by
 have e:wordAt (61::62::rest)=some [61,62]:=by rw[K10.wordAt_cons,if_neg (by decide),if_pos (by simp)]
 show words (61::62::rest)=_
 rw[K10.words_word (by decide) e]
 show(words rest).map _=_
 rw[hr]
 rfl
section
variable(g:List Nat)
mutual
def tx:Tm->List Nat
 | .num n=>dg n
 | .truth b=>if b then Z3 else wNo
 | .non=> [91,93]
 | .name x=>x
 | .two s a b=>40::(tx a++(g++(s++(g++(tx b++ [41])))))
 | .one s a=>40::(s++(g++(tx a++ [41])))
 | .if_ c a b=>40::(wIf++(g++(tx c++(g++(O5++(g++(tx a++(g++(P9++(g++(tx b++ [41])))))))))))
 | .let_ x a b=>40::(AK++(g++(x++(g++(wEq++(g++(tx a++(g++(wIn++(g++(tx b++ [41])))))))))))
 | .fn x a=>40::(wFn++(g++(x++(g++(K3++(g++(tx a++ [41])))))))
 | .do_ f a=>40::(tx f++(g++(P0++(g++(tx a++ [41])))))
 | .call x ts=>x++(40::(txs ts++ [41]))
def txs:List Tm->List Nat
 | []=> []
 |t::r=>tx t++txr r
def txr:List Tm->List Nat
 | []=> []
 |t::r=>44::(g++(tx t++txr r))
end
end
section
variable{nu na:Wd->Bool}{g:List Nat}(hU:∀x,nu x=true->Wo x)(hA:∀x,na x=true->Wo x)(G:Gp g)
include hU hA G
theorem MW{s:Wd}{rest:List Nat}{l:List Wd}(h:s∈ [wLt,wEq,U6,DN,AC,AD,DM,P0])(hr:words rest=some l):words (s++(g++rest))=some (s::l):=by
 have hr':words (g++rest)=some l:=by rw[w_gap G.gap,hr]
 have e:∃c,s=[c]/\mark c=true:=by
  simp only[mem_cons,not_mem_nil,or_false]at h
  rcases h with rfl|rfl|rfl|rfl|rfl|rfl|rfl|rfl<;>exact⟨_,rfl,by decide⟩
 obtain⟨c,rfl,hm⟩:=e
 refine LR hm ?_ hr'
 by_cases hc:c=61
 ·rw[hc];exact G.not62 rest
 ·cases G':g++rest with
  |nil=>simp
  |cons d r=>intro e;simp only[take_succ_cons,take_zero,List.cons.injEq]at e;exact hc e.1
theorem JQ{x:Wd}{rest:List Nat}{l:List Wd}(h:Wo x)(hr:words rest=some l):words (x++(g++rest))=some (x::l):=CW h (G.nl rest) (by rw[w_gap G.gap,hr])
theorem BD{rest:List Nat}{l:List Wd}(hr:words rest=some l):words (41::rest)=some (D7::l):=BP (by decide) (by decide) hr
theorem CL{rest:List Nat}{l:List Wd}(hr:words rest=some l):words (40::rest)=some (E6::l):=BP (by decide) (by decide) hr
theorem DD(rest:List Nat):NL (41::rest):=NL.cons (by decide)
theorem ZB(ts:List Tm)(rest:List Nat):NL (txr g ts++(41::rest)):=by
 cases ts with
 |nil=>rw[txr];exact NL.cons (by decide)
 |cons t r=>rw[txr];exact NL.cons (by decide)
theorem SV{s:Wd}(h:E9 s=true):Wo s:=by
 have h':s=AM\/s=AR\/s=U7\/s=FH:=by simpa [E9,or_assoc]using h
 rcases h' with rfl|rfl|rfl|rfl<;>exact⟨by decide,by decide,by decide⟩
mutual
theorem wx:(t:Tm)->Ok nu na t->∀(rest:List Nat) (l:List Wd),NL rest->words rest=some l->words (tx g t++rest)=some (tk t++l)
 | .num n,ho,rest,l,hn,hr=>by
  rw[Ok]at ho
  rw[tx,tk]
  exact CW (hU _ ho.1) hn hr
 | .truth b,_,rest,l,hn,hr=>by
  rw[tx,tk]
  cases b
  ·exact CW ⟨by decide,by decide,by decide⟩ hn hr
  ·exact CW ⟨by decide,by decide,by decide⟩ hn hr
 | .non,_,rest,l,hn,hr=>by
  rw[tx,tk]
  exact BP (by decide) (by decide) (BP (by decide) (by decide) hr)
 | .name x,ho,rest,l,hn,hr=>by
  rw[Ok]at ho
  rw[tx,tk]
  exact CW (hA _ ho.1) hn hr
 | .two s a b,ho,rest,l,hn,hr=>by
  rw[Ok]at ho
  rw[tx,tk]
  simp only[cons_append,List.append_assoc,nil_append]
  have e:=wx b ho.2.2 (41::rest) _ (DD hU hA G rest) (BD hU hA G hr)
  have e2:=MW hU hA G (s:=s) (mem_append_left (bs:=[P0]) ho.1) e
  refine CL hU hA G (wx a ho.2.1 _ _ (G.nl _) ?_)
  rw[w_gap G.gap]
  exact e2
 | .one s a,ho,rest,l,hn,hr=>by
  rw[Ok]at ho
  rw[tx,tk]
  simp only[cons_append,List.append_assoc,nil_append]
  exact CL hU hA G (JQ hU hA G (SV hU hA G ho.1) (wx a ho.2 (41::rest) _ (DD hU hA G rest) (BD hU hA G hr)))
 | .if_ c a b,ho,rest,l,hn,hr=>by
  rw[Ok]at ho
  rw[tx,tk]
  simp only[cons_append,List.append_assoc,nil_append]
  have e1:=JQ hU hA G (x:=P9) ⟨by decide,by decide,by decide⟩ (wx b ho.2.2 (41::rest) _ (DD hU hA G rest) (BD hU hA G hr))
  have e2:=JQ hU hA G (x:=O5) ⟨by decide,by decide,by decide⟩ (wx a ho.2.1 _ _ (G.nl _) (by rw[w_gap G.gap];exact e1))
  exact CL hU hA G (JQ hU hA G (x:=wIf) ⟨by decide,by decide,by decide⟩ (wx c ho.1 _ _ (G.nl _) (by rw[w_gap G.gap];exact e2)))
 | .let_ x a b,ho,rest,l,hn,hr=>by
  rw[Ok]at ho
  rw[tx,tk]
  simp only[cons_append,List.append_assoc,nil_append]
  have e1:=JQ hU hA G (x:=wIn) ⟨by decide,by decide,by decide⟩ (wx b ho.2.2 (41::rest) _ (DD hU hA G rest) (BD hU hA G hr))
  have e2:=MW hU hA G (s:=wEq) (by decide) (wx a ho.2.1 _ _ (G.nl _) (by rw[w_gap G.gap];exact e1))
  exact CL hU hA G (JQ hU hA G (x:=AK) ⟨by decide,by decide,by decide⟩ (JQ hU hA G (hA _ ho.1.1) e2))
 | .fn x a,ho,rest,l,hn,hr=>by
  rw[Ok]at ho
  rw[tx,tk]
  simp only[cons_append,List.append_assoc,nil_append]
  have e1:=wx a ho.2 (41::rest) _ (DD hU hA G rest) (BD hU hA G hr)
  have e2:=MU (rest:=g++(tx g a++(41::rest))) (by rw[w_gap G.gap];exact e1)
  exact CL hU hA G (JQ hU hA G (x:=wFn) ⟨by decide,by decide,by decide⟩ (JQ hU hA G (hA _ ho.1.1) e2))
 | .do_ f a,ho,rest,l,hn,hr=>by
  rw[Ok]at ho
  rw[tx,tk]
  simp only[cons_append,List.append_assoc,nil_append]
  have e1:=MW hU hA G (s:=P0) (by decide) (wx a ho.2 (41::rest) _ (DD hU hA G rest) (BD hU hA G hr))
  exact CL hU hA G (wx f ho.1 _ _ (G.nl _) (by rw[w_gap G.gap];exact e1))
 | .call x ts,ho,rest,l,hn,hr=>by
  rw[Ok]at ho
  rw[tx,tk]
  simp only[cons_append,List.append_assoc,nil_append]
  refine CW (hA _ ho.1.1) (NL.cons (by decide)) (CL hU hA G ?_)
  cases ts with
  |nil=>
   rw[txs,tks,nil_append,nil_append]
   exact BD hU hA G hr
  |cons t r=>
   have hh:=ho.2.2
   rw[Oks]at hh
   rw[txs,W6,List.append_assoc,List.append_assoc]
   exact wx t hh.1 _ _ (ZB hU hA G r rest) (wxr r hh.2 rest _ (BD hU hA G hr))
theorem wxr:(ts:List Tm)->Oks nu na ts->∀(rest:List Nat) (l:List Wd),words (41::rest)=some l->words (txr g ts++(41::rest))=some (tkr ts++l)
 | [],_,rest,l,hr=>by rw[txr,tkr,nil_append,nil_append];exact hr
 |t::r,ho,rest,l,hr=>by
  rw[Oks]at ho
  rw[txr,tkr]
  simp only[cons_append,List.append_assoc]
  refine BP (by decide) (by decide) ?_
  rw[w_gap G.gap]
  exact wx t ho.1 _ _ (ZB hU hA G r rest) (wxr r ho.2 rest l hr)
end
end
end Sh
end RD
namespace RD
namespace Sh
open K10 (words long gap mark GM wordAt)
section
variable(g:List Nat)
def nmrx:List Wd->List Nat
 | []=> []
 |x::r=>44::(g++(x++nmrx r))
def nmx:List Wd->List Nat
 | []=> []
 |x::r=>x++nmrx g r
def ftx(f:Fd):List Nat:=T6++(g++(f.name++(40::(nmx g f.names++(41::(g++(wEq++(g++tx g f.body))))))))
def ptxr:List Fd->List Nat
 | []=> []
 |f::r=>10::(ftx g f++ptxr r)
def ptx:List Fd->List Nat
 | []=> []
 |f::r=>ftx g f++ptxr g r
end
section
variable{nu na:Wd->Bool}{g:List Nat}(hU:∀x,nu x=true->Wo x)(hA:∀x,na x=true->Wo x)(G:Gp g)
include hU hA G
theorem VD(xs:List Wd)(rest:List Nat):NL (nmrx g xs++(41::rest)):=by
 cases xs with
 |nil=>exact NL.cons (by decide)
 |cons t r=>exact NL.cons (by decide)
theorem wnr:∀(xs:List Wd),(∀x∈xs,Nm nu na x)->∀(rest:List Nat) (l:List Wd),words (41::rest)=some l->words (nmrx g xs++(41::rest))=some (nmr xs++l)
 | [],_,rest,l,hr=>hr
 |x::r,ho,rest,l,hr=>by
  rw[nmrx,nmr]
  simp only[cons_append,List.append_assoc]
  refine BP (by decide) (by decide) ?_
  rw[w_gap G.gap]
  exact CW (hA _ (ho x (mem_cons_self ..)).1) (VD hU hA G r rest) (wnr r (λy hy=>ho y (mem_cons_of_mem _ hy)) rest l hr)
theorem wf{f:Fd}(h:FOk nu na f){rest:List Nat}{l:List Wd}(hn:NL rest)(hr:words rest=some l):words (ftx g f++rest)=some (ftk f++l):=by
 obtain⟨h1,h2,h3,h4,h5⟩:=h
 unfold ftx ftk
 simp only[cons_append,List.append_assoc]
 refine JQ hU hA G (x:=T6) ⟨by decide,by decide,by decide⟩ (CW (hA _ h1.1) (NL.cons (by decide)) (CL hU hA G ?_))
 have e:=MW hU hA G (s:=wEq) (by decide) (wx hU hA G f.body h4 rest l hn hr)
 have e2:=BD (g:=g) hU hA G (rest:=g++(wEq++(g++(tx g f.body++rest)))) (by rw[w_gap G.gap];exact e)
 cases hf:f.names with
 |nil=>rw[nmx,nms,nil_append,nil_append];exact e2
 |cons x r=>
  rw[hf]at h2
  rw[nmx,nms,List.append_assoc,cons_append]
  exact CW (hA _ (h2 x (mem_cons_self ..)).1) (VD hU hA G r _) (wnr hU hA G r (λy hy=>h2 y (mem_cons_of_mem _ hy)) _ _ e2)
theorem TX(fs:List Fd)(rest:List Nat)(hn:NL rest):NL (ptxr g fs++rest):=by
 cases fs with
 |nil=>exact hn
 |cons t r=>exact NL.cons (by decide)
theorem wpr:∀(fs:List Fd),(∀f∈fs,FOk nu na f)->∀(rest:List Nat) (l:List Wd),NL rest->words rest=some l->words (ptxr g fs++rest)=some (fs.flatMap ftk++l)
 | [],_,rest,l,_,hr=>hr
 |f::r,ho,rest,l,hn,hr=>by
  rw[ptxr,flatMap_cons]
  simp only[cons_append,List.append_assoc]
  rw[K10.words_gap (by decide)]
  exact wf hU hA G (ho f (mem_cons_self ..)) (TX hU hA G r rest hn) (wpr r (λy hy=>ho y (mem_cons_of_mem _ hy)) rest l hn hr)
theorem wp{fs:List Fd}(h:∀f∈fs,FOk nu na f){rest:List Nat}{l:List Wd}(hn:NL rest)(hr:words rest=some l):words (ptx g fs++rest)=some (fs.flatMap ftk++l):=by
 cases fs with
 |nil=>exact hr
 |cons f r=>
  rw[ptx,flatMap_cons,List.append_assoc,List.append_assoc]
  exact wf hU hA G (h f (mem_cons_self ..)) (TX hU hA G r rest hn) (wpr hU hA G r (λy hy=>h y (mem_cons_of_mem _ hy)) rest l hn hr)
end
end Sh
end RD
namespace RD
namespace Sh
theorem dc:∀d:Nat,d<10->(Nat.digitChar d).toNat=48+d:=by decide
theorem UI{n:Nat}(h:n<10):dg n=[48+n]:=by
 unfold dg
 rw[Nat.toDigits_of_lt_base h,map_cons,map_nil,dc n h]
theorem YV{n:Nat}(h:10<=n):dg n=dg (n/10)++ [48+n%10]:=by
 unfold dg
 rw[Nat.toDigits_of_base_le (by omega) h,map_append,map_cons,map_nil,dc _ (by omega)]
theorem SO{p:Nat->Prop}(h1:∀n,n<10->p n)(h2:∀n,10<=n->p (n/10)->p n):∀n,p n:=λn=>by
 induction n using Nat.strongRecOn with
 |ind n ih=>
  by_cases h:n<10
  ·exact h1 n h
  ·exact h2 n (by omega) (ih _ (by omega))
theorem dg_val(n:Nat):value (dg n)=n:=by
 induction n using SO with
 |h1 n h=>rw[UI h];simp[value]
 |h2 n h ih=>
  rw[YV h]
  unfold value at ih⊢
  rw[List.foldl_append,ih]
  simp only[List.foldl_cons,List.foldl_nil]
  omega
theorem bUZ:∀d:Nat,d<10->K10.figure (48+d)=true:=by decide
theorem dg_fig(n:Nat):(dg n).all K10.figure=true:=by
 induction n using SO with
 |h1 n h=>rw[UI h];simp[bUZ n h]
 |h2 n h ih=>rw[YV h,List.all_append,ih];simp[bUZ (n%10) (by omega)]
theorem dg_ne(n:Nat):dg n≠ []:=by
 unfold dg
 simp[Nat.toDigits_ne_nil]
theorem dg_head(n:Nat):n=0\/(dg n).head? ≠some 48:=by
 induction n using SO with
 |h1 n h=>
  rw[UI h]
  by_cases e:n=0
  ·exact .inl e
  ·exact .inr (by simp;omega)
 |h2 n h ih=>
  refine .inr ?_
  rcases ih with ih|ih
  ·omega
  ·rw[YV h,List.head?_append]
   cases e:(dg (n/10)).head? with
   |none=>exact absurd (List.head?_eq_none_iff.mp e) (dg_ne _)
   |some c=>rw[e]at ih;exact ih
theorem dg_len{n:Nat}(h:n<10^12):(dg n).length<=12:=by
 unfold dg
 rw[length_map]
 exact(Nat.length_toDigits_le_iff (by omega) (by omega)).mpr h
theorem dg_zero:dg 0=[48]:=UI (by omega)
end Sh
end RD
namespace RD
namespace Sh
mutual
def wt:Tm->Nat
 | .num _=>12
 | .truth _=>3
 | .non=>2
 | .name _=>8
 | .two _ a b=>wt a+wt b+9
 | .one _ a=>wt a+10
 | .if_ c a b=>wt c+wt a+wt b+27
 | .let_ _ a b=>wt a+wt b+31
 | .fn _ a=>wt a+23
 | .do_ f a=>wt f+wt a+9
 | .call _ ts=>wts ts+10
def wts:List Tm->Nat
 | []=>0
 |t::r=>wt t+4+wts r
end
section
variable{nu na:Wd->Bool}{g:List Nat}(hU:∀x,nu x=true->x.length<=12)(hA:∀x,na x=true->x.length<=8)(hg:g.length<=3)
include hU hA hg
mutual
theorem lx:(t:Tm)->Ok nu na t->(tx g t).length<=wt t
 | .num n,ho=>by rw[Ok]at ho;rw[tx,wt];exact hU _ ho.1
 | .truth b,_=>by rw[tx,wt];cases b<;>decide
 | .non,_=>by rw[tx,wt];decide
 | .name x,ho=>by rw[Ok]at ho;rw[tx,wt];exact hA _ ho.1
 | .two s a b,ho=>by
  rw[Ok]at ho
  have e1:=lx a ho.2.1;have e2:=lx b ho.2.2
  have hs:s.length=1:=by have h1:=ho.1;revert h1;clear ho;revert s;decide
  rw[tx,wt]
  simp only[length_cons,length_append,length_nil]
  omega
 | .one s a,ho=>by
  rw[Ok]at ho
  have e1:=lx a ho.2
  have hs:s.length<=5:=by
   have h':s=AM\/s=AR\/s=U7\/s=FH:=by simpa [E9,or_assoc]using ho.1
   rcases h' with rfl|rfl|rfl|rfl<;>decide
  rw[tx,wt]
  simp only[length_cons,length_append,length_nil]
  omega
 | .if_ c a b,ho=>by
  rw[Ok]at ho
  have e1:=lx c ho.1;have e2:=lx a ho.2.1;have e3:=lx b ho.2.2
  rw[tx,wt]
  simp only[length_cons,length_append,length_nil]
  omega
 | .let_ x a b,ho=>by
  rw[Ok]at ho
  have e1:=hA _ ho.1.1;have e2:=lx a ho.2.1;have e3:=lx b ho.2.2
  rw[tx,wt]
  simp only[length_cons,length_append,length_nil]
  omega
 | .fn x a,ho=>by
  rw[Ok]at ho
  have e1:=hA _ ho.1.1;have e2:=lx a ho.2
  rw[tx,wt]
  simp only[length_cons,length_append,length_nil]
  omega
 | .do_ f a,ho=>by
  rw[Ok]at ho
  have e1:=lx f ho.1;have e2:=lx a ho.2
  rw[tx,wt]
  simp only[length_cons,length_append,length_nil]
  omega
 | .call x ts,ho=>by
  rw[Ok]at ho
  have e1:=hA _ ho.1.1
  have e2:(txs g ts).length<=wts ts:=by
   cases ts with
   |nil=>rw[txs];exact zero_le _
   |cons t r=>
    have hh:=ho.2.2
    rw[Oks]at hh
    have e3:=lx t hh.1;have e4:=lxr r hh.2
    rw[txs,wts]
    simp only[length_append]
    omega
  rw[tx,wt]
  simp only[length_cons,length_append,length_nil]
  omega
theorem lxr:(ts:List Tm)->Oks nu na ts->(txr g ts).length<=wts ts
 | [],_=>by rw[txr];exact zero_le _
 |t::r,ho=>by
  rw[Oks]at ho
  have e3:=lx t ho.1;have e4:=lxr r ho.2
  rw[txr,wts]
  simp only[length_cons,length_append]
  omega
end
theorem lnr:∀(xs:List Wd),(∀x∈xs,Nm nu na x)->(nmrx g xs).length<=12*xs.length
 | [],_=>zero_le _
 |x::r,ho=>by
  have e1:=hA _ (ho x (mem_cons_self ..)).1
  have e2:=lnr r λy hy=>ho y (mem_cons_of_mem _ hy)
  rw[nmrx]
  simp only[length_cons,length_append]
  omega
theorem lf{f:Fd}(h:FOk nu na f):(ftx g f).length<=wt f.body+75:=by
 obtain⟨h1,h2,h3,h4,h5⟩:=h
 have e1:=hA _ h1.1
 have e2:=lx hU hA hg f.body h4
 have e3:(nmx g f.names).length<=12*f.names.length:=by
  cases hf:f.names with
  |nil=>exact zero_le _
  |cons x r=>
   rw[hf]at h2
   have a1:=hA _ (h2 x (mem_cons_self ..)).1
   have a2:=lnr hU hA hg r λy hy=>h2 y (mem_cons_of_mem _ hy)
   rw[nmx]
   simp only[length_cons,length_append]
   omega
 unfold ftx
 simp only[length_cons,length_append,length_nil]
 omega
theorem lpr:∀(fs:List Fd),(∀f∈fs,FOk nu na f)->(ptxr g fs).length<=(fs.map λf=>wt f.body+76).sum
 | [],_=>zero_le _
 |f::r,ho=>by
  have e1:=lf hU hA hg (ho f (mem_cons_self ..))
  have e2:=lpr r λy hy=>ho y (mem_cons_of_mem _ hy)
  rw[ptxr]
  simp only[length_cons,length_append,map_cons,sum_cons]
  omega
theorem lp{fs:List Fd}(h:∀f∈fs,FOk nu na f):(ptx g fs).length<=(fs.map λf=>wt f.body+76).sum:=by
 cases fs with
 |nil=>exact zero_le _
 |cons f r=>
  have e1:=lf hU hA hg (h f (mem_cons_self ..))
  have e2:=lpr hU hA hg r λy hy=>h y (mem_cons_of_mem _ hy)
  rw[ptx]
  simp only[length_append,map_cons,sum_cons]
  omega
end
end Sh
end RD
namespace BU
open PySem L2
theorem ifT{c A B:Prop}[Decidable c](h:c)(a:A):if c then A else B:=by rw[if_pos h];exact a
theorem ifF{c A B:Prop}[Decidable c](h:¬c)(b:B):if c then A else B:=by rw[if_neg h];exact b
theorem last_rev(y:V)(ws:List V):(y::ws).reverse[(y::ws).reverse.length - 1]? =some y:=by
 rw[reverse_cons]
 simp
theorem drop_rev(y:V)(ws:List V):(y::ws).reverse.dropLast=ws.reverse:=by
 rw[reverse_cons]
 simp
theorem take_one{α:Type}{A:List α}{k:Nat}{t:α}(h:A[k]? =some t):A.take (k+1)=A.take k++ [t]:=by
 obtain⟨h1,h2⟩:=List.getElem?_eq_some_iff.mp h
 rw[take_succ_eq_append_getElem h1,h2]
end BU
namespace RD
open PySem L2
def Is(z:Str)(l:List Nat):Prop:=z=tx l
theorem Is.app{a b:Str}{x y:List Nat}(h:Is a x)(h':Is b y):Is (a++b) (x++y):=by unfold Is at*;rw[h,h',ED]
def E4(s:List Nat):List (List Nat)->List Nat
 | []=> []
 | [x]=>x
 |x::r=>x++s++E4 s r
theorem EM(s:List Nat):∀ls:List (List Nat),Str.join (tx s) (ls.map tx)=tx (E4 s ls)
 | []=>rfl
 | [x]=>rfl
 |x::y::r=>by
  have ih:=EM s (y::r)
  show tx x++tx s++Str.join (tx s) ((y::r).map tx)=_
  rw[ih,ED,ED]
  rfl
theorem Is.join{s:Str}{x:List Nat}{zs:List Str}{ls:List (List Nat)}(h:Is s x)(h':zs=ls.map tx):Is (Txt.join s zs) (E4 x ls):=by
 unfold Is at*
 rw[h,h']
 show Builtin.Str.glued (tx x) (ls.map tx)=_
 rw[StrLaws.glued_eq_join,EM]
theorem Is.len{a:Str}{x:List Nat}(h:Is a x):a.length=x.length:=by unfold Is at h;rw[h,L5]
theorem E5{a b:Str}{x y:List Nat}(h:Is a x)(h':Is b y)(hl:x.length+y.length<=100000):a.length+b.length<=sizeLine:=by
 rw[h.len,h'.len]
 exact le_trans hl (by decide)
namespace Sh
abbrev OkT(t:Tm):Prop:=Ok K10.isNum K10.isName t
def kids:Tm->List Tm
 | .num _=> []
 | .truth _=> []
 | .non=> []
 | .name _=> []
 | .two _ a b=> [a,b]
 | .one _ a=> [a]
 | .if_ c a b=> [c,a,b]
 | .let_ _ a b=> [a,b]
 | .fn _ a=> [a]
 | .do_ f a=> [f,a]
 | .call _ ts=>ts
theorem PR:∀ts:List Tm,sizes ts=(ts.map Tm.size).sum
 | []=>rfl
 |t::r=>by rw[sizes,map_cons,sum_cons,PR r]
theorem size_kids(t:Tm):t.size=1+((kids t).map Tm.size).sum:=by
 cases t<;>simp[kids,Tm.size,PR]<;>omega
theorem oks_mem:∀ {ts:List Tm},Oks K10.isNum K10.isName ts->∀t∈ts,OkT t
 | [],_,t,h=>nomatch h
 |u::r,ho,t,h=>by
  rw[Oks]at ho
  rcases cZ h with rfl|h
  ·exact ho.1
  ·exact oks_mem ho.2 t h
theorem wts_mem:∀ {ts:List Tm},∀t∈ts,wt t<=wts ts
 | [],t,h=>nomatch h
 |u::r,t,h=>by
  rw[wts]
  rcases cZ h with rfl|h
  ·omega
  ·have:=wts_mem t h;omega
theorem tms_all{H:Hp}:∀ {ts:List Tm} {vs:List V},TmsAt H ts vs->BU.All2 (TmAt H) ts vs
 |_,_,.nil=> .nil
 |_,_,.cons h r=> .cons h (tms_all r)
theorem TmAt.isRef{H:Hp}{t:Tm}{v:V}(h:TmAt H t v):∃a,v=.ref a:=by cases h<;>exact⟨_,rfl⟩
theorem shape_of{H:Hp}{t:Tm}{v:V}(h:TmAt H t v):∃a xs ps,v=.ref a/\H a=some (.tup xs)/\K15.Shape H xs ps/\BU.All2 (TmAt H) (kids t) ps:=by
 cases h with
 |num h=>exact⟨_,_,_,rfl,h,.num _,.nil⟩
 |truth h=>exact⟨_,_,_,rfl,h,.truth _,.nil⟩
 |non h=>exact⟨_,_,_,rfl,h,.non,.nil⟩
 |name h=>exact⟨_,_,_,rfl,h,.name _,.nil⟩
 |two h h1 h2=>
  obtain⟨a,rfl⟩:=TmAt.isRef h1;obtain⟨b,rfl⟩:=TmAt.isRef h2
  exact⟨_,_,_,rfl,h,.two _ _ _,.cons h1 (.cons h2 .nil)⟩
 |one h h1=>
  obtain⟨a,rfl⟩:=TmAt.isRef h1
  exact⟨_,_,_,rfl,h,.one _ _,.cons h1 .nil⟩
 |if_ h h1 h2 h3=>
  obtain⟨a,rfl⟩:=TmAt.isRef h1;obtain⟨b,rfl⟩:=TmAt.isRef h2;obtain⟨c,rfl⟩:=TmAt.isRef h3
  exact⟨_,_,_,rfl,h,.if_ _ _ _,.cons h1 (.cons h2 (.cons h3 .nil))⟩
 |let_ h h1 h2=>
  obtain⟨a,rfl⟩:=TmAt.isRef h1;obtain⟨b,rfl⟩:=TmAt.isRef h2
  exact⟨_,_,_,rfl,h,.let_ _ _ _,.cons h1 (.cons h2 .nil)⟩
 |fn h h1=>
  obtain⟨a,rfl⟩:=TmAt.isRef h1
  exact⟨_,_,_,rfl,h,.fn _ _,.cons h1 .nil⟩
 |do_ h h1 h2=>
  obtain⟨a,rfl⟩:=TmAt.isRef h1;obtain⟨b,rfl⟩:=TmAt.isRef h2
  exact⟨_,_,_,rfl,h,.do_ _ _,.cons h1 (.cons h2 .nil)⟩
 |call h hc h1=>exact⟨_,_,_,rfl,h,.call _ hc,tms_all h1⟩
end Sh
def txv(t:Tm):V:=.str (tx (Sh.tx [32] t))
theorem lit(l:List Nat)(z:Str)(h:z=tx l):Is z l:=h
theorem NF:Is ("(":Str) [40]:=by unfold Is;decide +kernel
theorem aCZ:Is (")":Str) [41]:=by unfold Is;decide +kernel
theorem i_cs:Is (", ":Str) [44,32]:=by unfold Is;decide +kernel
theorem czZ:Is (" ":Str) [32]:=by unfold Is;decide +kernel
theorem FR(s:List Nat):∀ls:List (List Nat),(E4 s ls).length<=(ls.map List.length).sum+ls.length*s.length
 | []=>zero_le _
 | [x]=>by simp[E4]
 |x::y::r=>by
  have ih:=FR s (y::r)
  rw[E4]
  ·simp only[length_append,map_cons,sum_cons,length_cons,Nat.add_mul,Nat.one_mul]at ih⊢
   omega
  ·intro h;cases h
theorem NI(ls:List (List Nat)):((ls.map tx).map λz:Str=>z.length).sum=(ls.map List.length).sum:=by
 rw[map_map]
 exact congrArg _ (List.map_congr_left λx _=>L5 x)
theorem dfZ(n:Nat):Is (Str.ofString (toString ((n:Nat):Int))) (Sh.dg n):=by
 unfold Is
 have e:=PySem.W.KIN.signs_num n
 have:(Str.ofString (toString ((n:Nat):Int)))=tx (Str.ofString (toString ((n:Nat):Int))).cps.toList:=by
  show _=(⟨_⟩:Str)
  rw[Array.toArray_toList]
 rw[this,e]
 rfl
theorem WM{n:Nat}(h:K10.isNum (Sh.dg n)=true):((n:Nat):Int).natAbs.log2<1920:=by
 have h1:(Sh.dg n).length<=12:=by
  simp only[K10.isNum,Bool.and_eq_true,Bool.not_eq_true',Bool.or_eq_false_iff,decide_eq_false_iff_not]at h
  omega
 have h2:n<10^12:=by
  unfold Sh.dg at h1
  rw[length_map]at h1
  exact(Nat.length_toDigits_le_iff (by omega) (by omega)).mp h1
 rw[Int.natAbs_natCast]
 by_cases h0:n=0
 ·rw[h0];decide
 ·exact(Nat.log2_lt h0).mpr (lt_trans h2 (by decide +kernel))
theorem ceZ:("yes":Str)=tx Z3:=by decide +kernel
theorem dSZ:("no":Str)=tx wNo:=by decide +kernel
theorem cqZ:("[]":Str)=tx [91,93]:=by decide +kernel
theorem X4(x:Wd)(h:K10.isNum x=true):x.length<=12:=by
 simp only[K10.isNum,Bool.and_eq_true,Bool.not_eq_true',Bool.or_eq_false_iff,decide_eq_false_iff_not]at h
 omega
theorem Q8(x:Wd)(h:K10.isName x=true):x.length<=8:=by
 simp only[K10.isName,Bool.and_eq_true,Bool.not_eq_true',Bool.or_eq_false_iff,decide_eq_false_iff_not]at h
 omega
theorem KU:∀(r:List Tm) (t:Tm),E4 [44,32] ((t::r).map (Sh.tx [32]))=Sh.tx [32] t++Sh.txr [32] r
 | [],t=>by rw[Sh.txr];simp[E4]
 |u::r,t=>by
  have ih:=KU r u
  rw[map_cons,Sh.txr]
  show Sh.tx [32] t++ [44,32]++E4 [44,32] ((u::r).map (Sh.tx [32]))=_
  rw[ih]
  simp
theorem XI(ts:List Tm):E4 [44,32] (ts.map (Sh.tx [32]))=Sh.txs [32] ts:=by
 cases ts with
 |nil=>rw[Sh.txs];rfl
 |cons t r=>rw[KU,Sh.txs]
theorem TR:∀ts:List Tm,Sh.Oks K10.isNum K10.isName ts->((ts.map (Sh.tx [32])).map List.length).sum<=Sh.wts ts
 | [],_=>zero_le _
 |t::r,ho=>by
  rw[Sh.Oks]at ho
  have e1:=Sh.lx (g:=[32]) X4 Q8 (by decide) t ho.1
  have e2:=TR r ho.2
  rw[Sh.wts]
  simp only[map_cons,sum_cons]
  omega
theorem i_def:Is ("def ":Str) [100,101,102,32]:=by unfold Is;decide +kernel
theorem i_nl:Is ("\n":Str) [10]:=by unfold Is;decide +kernel
theorem KZ:∀xs:List Wd,(∀x∈xs,Sh.Nm K10.isNum K10.isName x)->(xs.map List.length).sum<=8*xs.length
 | [],_=>zero_le _
 |x::r,ho=>by
  have e1:=Q8 _ (ho x (mem_cons_self ..)).1
  have e2:=KZ r λy hy=>ho y (mem_cons_of_mem _ hy)
  simp only[map_cons,sum_cons,length_cons]
  omega
theorem IG:∀(r:List Wd) (x:Wd),E4 [44,32] (x::r)=x++Sh.nmrx [32] r
 | [],x=>by simp[E4,Sh.nmrx]
 |y::r,x=>by
  have ih:=IG r y
  show x++ [44,32]++E4 [44,32] (y::r)=_
  rw[ih,Sh.nmrx]
  simp
theorem WV(xs:List Wd):E4 [44,32] xs=Sh.nmx [32] xs:=by
 cases xs with
 |nil=>rfl
 |cons x r=>rw[IG,Sh.nmx]
def b6Z(d:Fd):Prop:=Sh.FOk K10.isNum K10.isName d/\Sh.wt d.body<=3900/\d.body.size<=1000
theorem IT:∀(r:List Fd) (d:Fd),E4 [10] ((d::r).map (Sh.ftx [32]))=Sh.ftx [32] d++Sh.ptxr [32] r
 | [],d=>by simp[E4,Sh.ptxr]
 |u::r,d=>by
  have ih:=IT r u
  show Sh.ftx [32] d++ [10]++E4 [10] ((u::r).map (Sh.ftx [32]))=_
  rw[ih,Sh.ptxr]
  simp
theorem WT(fs:List Fd):E4 [10] (fs.map (Sh.ftx [32]))=Sh.ptx [32] fs:=by
 cases fs with
 |nil=>rfl
 |cons x r=>rw[IT,Sh.ptx]
theorem a0Z{d:Fd}(h:b6Z d):(Sh.ftx [32] d).length<=4000:=le_trans (Sh.lf (g:=[32]) X4 Q8 (by decide) h.1) (by have:=h.2.1;omega)
theorem UZ:∀fs:List Fd,(∀d∈fs,b6Z d)->((fs.map (Sh.ftx [32])).map List.length).sum<=4000*fs.length
 | [],_=>zero_le _
 |d::r,ho=>by
  have e1:=a0Z (ho d (mem_cons_self ..))
  have e2:=UZ r λy hy=>ho y (mem_cons_of_mem _ hy)
  simp only[map_cons,sum_cons,length_cons]
  omega
end RD
namespace RD
open PySem L2
namespace Gn
seal PE PT PW PA PS PSs PTs PI PG PGs PO
abbrev s_law_name:Stmt:=RD.top 45
abbrev s_law_atom:Stmt:=RD.top 46
abbrev ID:List Str:=["_law_k","_law_shift","_law_letters","_law_signs","_law_size","_law_rest","_law_at","_law_name_here","_law_row"]
theorem sc_law_name:FnScope ID q4L (A5 s_law_name):=fS
abbrev SN:List Str:=["_law_cell","_law_shift"]
theorem sc_law_atom:FnScope SN q0L (A5 s_law_atom):=fS
theorem W9{c A B:Prop}[Decidable c](h:c->A)(h':¬c->B):if c then A else B:=by
 by_cases e:c
 ·rw[if_pos e];exact h e
 ·rw[if_neg e];exact h' e
def abc:List Nat:=[97,98,99,100,101,102,103,104,105,106,107,108,109,110,111,112,113,114,115,116,117,118,119,120,121,122]
def abd:List Nat:=abc++ [48,49,50,51,52,53,54,55,56,57]
theorem ZF{l:List Nat}{z:Str}(hz:z=tx l){i:Int}(h0:0<=i)(h1:i<(l.length:Nat)):∃c,atI z.cps.toList i=some c/\c∈l:=by
 have hk:i.toNat<l.length:=by omega
 have e0:z.cps.toList=l:=by rw[hz]
 have e:atI z.cps.toList ((i.toNat:Nat):Int)=some l[i.toNat]:=by rw[e0];exact V5 (List.getElem?_eq_getElem hk)
 have ek:((i.toNat:Nat):Int)=i:=by omega
 rw[ek]at e
 exact⟨_,e,getElem_mem hk⟩
theorem UL(z:Int):∃c,atI ("abcdefghijklmnopqrstuvwxyz":Str).cps.toList (z%26)=some c/\K10.letter c=true:=by
 obtain⟨c,e,h⟩:=ZF (l:=abc) (z:=("abcdefghijklmnopqrstuvwxyz":Str)) (by decide +kernel) (Int.emod_nonneg z (show(26:Int)≠0 by decide)) (Int.lt_of_lt_of_le (Int.emod_lt_of_pos z (by decide)) (by decide))
 have all:∀c∈abc,K10.letter c=true:=by decide
 exact⟨c,e,all c h⟩
theorem VF(z:Int):∃c,atI (("abcdefghijklmnopqrstuvwxyz":Str)++("0123456789":Str)).cps.toList (z%36)=some c/\K10.long c=true:=by
 obtain⟨c,e,h⟩:=ZF (l:=abd) (z:=("abcdefghijklmnopqrstuvwxyz":Str)++("0123456789":Str)) (by decide +kernel) (Int.emod_nonneg z (show(36:Int)≠0 by decide)) (Int.lt_of_lt_of_le (Int.emod_lt_of_pos z (by decide)) (by decide))
 have all:∀c∈abd,K10.long c=true:=by decide
 exact⟨c,e,all c h⟩
theorem OI{c:Nat}(h:K10.letter c=true):K10.long c=true:=by unfold K10.long;rw[h];rfl
theorem ccZ{n:Nat}(h:0<n):ixN n 0=some 0:=by
 unfold ixN
 rw[if_pos (by decide),if_pos (by omega)]
 rfl
theorem b3Z{n:Nat}{i:Int}(h0:0<=i)(h:i<n):ixN n i=some i.toNat:=by
 unfold ixN
 rw[if_pos h0,if_pos h]
abbrev lts(ds:List Nat):List V:=ds.map λd=>V.str (tx [d])
theorem VC(l:List Nat):lts l=(l.map λd=>tx [d]).map V.str:=by rw[map_map];rfl
theorem GX(l:List Nat)(j d:Nat):(lts l).set j (.str (tx [d]))=lts (l.set j d):=by rw[lts,lts,List.map_set]
theorem UH{ds:List Nat}{n:Int}(h:0<=n):Z0 (lts ds) none (some n)=lts (ds.take n.toNat):=by
 have e:=awZ (lts ds) n.toNat
 have en:((n.toNat:Nat):Int)=n:=by omega
 rw[en]at e
 rw[e,lts,lts,List.map_take]
theorem OA(ds:List Nat):Txt.join ("":Str) (ds.map λd=>tx [d])=tx ds:=by
 have h:=Is.join (s:=("":Str)) (x:=[]) (ls:=ds.map λd=> [d]) (by unfold Is;decide +kernel) (zs:=ds.map λd=>tx [d]) (by rw[map_map];rfl)
 have e:E4 [] (ds.map λd=> [d])=ds:=by
  induction ds with
  |nil=>rfl
  |cons d r ih=>
   cases r with
   |nil=>rfl
   |cons d2 r2=>
    show [d]++ []++E4 [] ((d2::r2).map λd=> [d])=_
    rw[ih (Is.join (s:=("":Str)) (x:=[]) (ls:=(d2::r2).map λd=> [d]) (by unfold Is;decide +kernel) (by rw[map_map];rfl))]
    rfl
 rw[e]at h
 exact h
theorem ZQ(l:List Nat)(h:l.length<=8):((l.map λd=>tx [d]).map (·.length)).sum+(l.map λd=>tx [d]).length*("":Str).length<=16777216:=by
 have h2:("":Str).length=0:=by decide +kernel
 have h3:((l.map λd=>tx [d]).map (·.length)).sum=l.length:=by
  clear h
  induction l with
  |nil=>rfl
  |cons d r ih=>simp only[map_cons,sum_cons,length_cons,L5,ih];simp only[length_nil];omega
 rw[h2,h3]
 omega
structure R8 (ds:List Nat):Prop where
 len:ds.length=8
 all:∀d∈ds,K10.long d=true
 hd:∃c r,ds=c::r/\K10.letter c=true
theorem R8.set0{ds:List Nat}(hl:ds.length=8)(ha:∀d∈ds,K10.long d=true){c:Nat}(hc:K10.letter c=true):R8 (ds.set 0 c):=by
 refine⟨by rw[length_set];exact hl,λd hd=> ?_, ?_⟩
 ·rcases List.mem_or_eq_of_mem_set hd with h|h
  ·exact ha d h
  ·rw[h];exact OI hc
 ·cases ds with
  |nil=>cases hl
  |cons a r=>exact⟨c,r,rfl,hc⟩
theorem R8.setj{ds:List Nat}(h:R8 ds){j c:Nat}(hj:0<j)(hc:K10.long c=true):R8 (ds.set j c):=by
 refine⟨by rw[length_set];exact h.len,λd hd=> ?_, ?_⟩
 ·rcases List.mem_or_eq_of_mem_set hd with h'|h'
  ·exact h.all d h'
  ·rw[h'];exact hc
 ·obtain⟨a,r,rfl,ha⟩:=h.hd
  obtain⟨i,rfl⟩:∃i,j=i+1:=⟨j - 1,by omega⟩
  exact⟨a,r.set i c,rfl,ha⟩
structure Nme (l:List Nat):Prop where
 len:l.length<=8
 all:∀d∈l,K10.long d=true
 hd:∃c r,l=c::r/\K10.letter c=true
theorem R8.take{ds:List Nat}(h:R8 ds){n:Nat}(hn:0<n):Nme (ds.take n):=by
 refine⟨by rw[length_take,h.len];omega,λd hd=>h.all d (List.mem_of_mem_take hd), ?_⟩
 obtain⟨a,r,e,ha⟩:=h.hd
 obtain⟨i,rfl⟩:∃i,n=i+1:=⟨n - 1,by omega⟩
 exact⟨a,r.take i,by rw[e];rfl,ha⟩
abbrev rowL:List (List Nat):=K10.toldW
def rowW:List Str:=["def","if","then","else","let","in","fn","yes","no","head","tail","empty","not"]
theorem MR:rowW=rowL.map tx:=by decide +kernel
theorem AO:∀l∈rowL,l.length<=5/\(∀d∈l,K10.long d=true)/\(l.head?.elim false K10.letter)=true/\K10.isName (l++ [48])=true:=by decide
theorem cBZ{l:List Nat}(h:l∈rowL):∃c r,l=c::r/\K10.letter c=true:=by
 have:=(AO l h).2.2.1
 cases l with
 |nil=>cases this
 |cons c r=>exact⟨c,r,rfl,this⟩
theorem bGZ(z:Int):∃l,atI (rowW.map V.str) (z%13)=some (.str (tx l))/\l∈rowL:=by
 have h0:0<=z%13:=Int.emod_nonneg _ (by decide)
 have h1:z%13<13:=Int.emod_lt_of_pos _ (by decide)
 have hk:(z%13).toNat<rowL.length:=by show(z%13).toNat<13;omega
 have e:atI (rowW.map V.str) (((z%13).toNat:Nat):Int)=some (.str (tx rowL[(z%13).toNat])):=V5 (by rw[MR,map_map,getElem?_map,List.getElem?_eq_getElem hk];rfl)
 have ek:(((z%13).toNat:Nat):Int)=z%13:=by omega
 rw[ek]at e
 exact⟨_,e,getElem_mem hk⟩
theorem Nme.app{a b:List Nat}(h:Nme a)(hl:a.length+b.length<=8)(hb:∀d∈b,K10.long d=true):Nme (a++b):=by
 refine⟨by rw[length_append];exact hl,λd hd=> ?_, ?_⟩
 ·rcases mem_append.mp hd with h'|h'
  ·exact h.all d h'
  ·exact hb d h'
 ·obtain⟨c,r,rfl,hc⟩:=h.hd
  exact⟨c,r++b,rfl,hc⟩
theorem bxZ{l:List Nat}(h:l∈rowL):Nme l:=⟨by have:=(AO l h).1;omega,(AO l h).2.1,cBZ h⟩
theorem UP(c:Nat):(tx [c]).length=1:=rfl
theorem OU{l:List Nat}{n:Nat}(h:l.length<=n):(tx l).length<=n:=by rw[L5];exact h
theorem dYZ{c:Nat}{z:Int}(h0:0<=z)(h1:z<2):∃l,Txt.mul (tx [c]) z=tx l/\l.length<=1/\∀d∈l,d=c:=by
 have:z=0\/z=1:=by omega
 rcases this with rfl|rfl
 ·exact⟨[],rfl,zero_le _,λd h=>nomatch h⟩
 ·exact⟨[c],rfl,le_refl _,λd h=>sZ h⟩
theorem DE{x y:Str}{a b:Nat}(h:x.length<=a)(h':y.length<=b)(hab:a+b<=200:=by decide):x.length+y.length<=sizeLine:=le_trans (Nat.add_le_add h h') (le_trans hab (by decide))
theorem dOZ{l:List Nat}(h:Nme l)(hn:l∉rowL):K10.isName l=true:=by
 obtain⟨c,r,rfl,hc⟩:=h.hd
 have ht:K10.told (c::r)=false:=by
  cases e:K10.told (c::r)with
  |false=>rfl
  |true=>exact absurd (of_decide_eq_true e) hn
 unfold K10.isName
 rw[ht]
 have h1:¬8<(c::r).length:=Nat.not_lt.mpr h.len
 have h2:(c::r).all K10.long=true:=all_eq_true.mpr h.all
 rw[h2,decide_eq_false h1]
 simp[hc]
def stN(k sh s8:Int)(r:Addr)(a b c:Option V):St:=[some (.int k),some (.int sh),some (.str "abcdefghijklmnopqrstuvwxyz"),some (.str (("abcdefghijklmnopqrstuvwxyz":Str)++("0123456789":Str))),some (.int (1+s8)),some (.ref r),a,b,c]
section
variable{P:Program}{w:World}{K:FZ}{mg:Str->Option Value}{base:Heap}{f U0:Addr}{fd U2:FuncData}
inductive spNameW(vs:List V)(H:Hp)(Q:VK):Prop
 |mk:∀(k sh:Int),(vs=[.int k,.int sh])->(0<=k)->(∀x H',K10.isName x=true->Same H H'->Q (.str (tx x)) H')->spNameW vs H Q
def spName:Sp:=λvs H Q _=>spNameW vs H Q
theorem ok_law_name(F:Fun K "_law_name" "_law_name" s_law_name f fd)(B:K15.NoG mg):FnOk P w K mg base CX0 1 f fd q4L spName:=by
 refine F.ok sc_law_name (λvs H Q E h=> ?_) (λcdv A outer s H vs Q E hr h=> ?_)
 ·obtain⟨k,sh,rfl,_⟩:=h
  rfl
 obtain⟨k,sh,rfl,hk,q⟩:=h
 have nd:=sc_law_name.nd
 have hu:=hr.units0
 refine⟨_,(A1 (B3 (i:=2) nd rfl (Or.inl rfl) A9)
   (A1 (B3 (i:=3) nd rfl (Or.inr rfl) (A8 D3 (pv 2) A9))
   (A1 (B3 (i:=4) nd rfl (Or.inl rfl) (A8 D3 A4 (A8 D1 (A8 D8 (pv 1) A4) A4)))
   (A1 (U8 (i:=5) nd rfl rfl (cS (N:=ID) (sc:=A5 s_law_name) (caps:=[3,0,1]) (ns:=["_law_signs","_law_k","_law_shift"])) rfl rfl rfl (AQ rfl B.range_ (A0 A4 A3)) (λ_ _ _ _ _=>X8) (λ_ _ _ _ _=>(ixE K w (pv 1) (A8 D1 (A8 D3 (A8 D3 (A8 D8 (pv 3) A4) (A8 aXZ A4 (pv 0))) (A8 aXZ (pv 2) (L9 X6 rfl B.int_ MT (A0 (S2 (kEq (K:=K) hu) (A8 D1 (pv 3) A4) A4 rfl) A3)))) A4))))
   (A1 (MV (ixE K w (pv 2) (A8 D1 (A8 D3 (A8 D8 (pv 1) A4) (A8 aXZ (pv 0) (L9 X6 rfl B.int_ MT (A0 (S2 (kEq (K:=K) hu) (A8 D1 (pv 1) A4) A4 rfl) A3)))) A4)) (SH (pv 5) A4 HV))
   (A1 (B3 (i:=6) nd rfl (Or.inl rfl) (A8 D1 (A8 D8 (pv 1) A4) (pv 4)))
   (A1 (L6 (C5 (PW.pt (T4 (B0 (kEq (K:=K) hu) (A8 D1 (pv 1) A4) A4 rfl) (S0 (B0 X3 (pv 6) A4 rfl)))) (A7 (MV (ixE K w (pv 3) (A8 D1 (A8 D3 (A8 D8 (pv 1) A4) (pv 0)) A4)) (SH (pv 5) (pv 6) HV))) (A7 (L6 (C5 (B0 (kNe (K:=K) hu) (A8 D1 (pv 1) A4) A4 rfl) (A7 (MV (ixE K w (pv 2) (A8 D1 (A8 D3 (A8 D8 (pv 1) A4) (pv 0)) A4)) (SH (pv 5) A4 HV))) B5)))))
   (A1 (B3 (i:=7) nd rfl (Or.inl rfl) (CP (K:=K) PySem.F.plainAttrs_str PySem.F.slot_str_join PySem.F.type_str_join (DW (K:=K)) A9 (A0 (N9 (kSl (K:=K)) (pv 5) T5 (O2 (pv 4))) A3)))
   (A1 (L6 (C5 (B0 (kEq (K:=K) hu) (A8 D1 (pv 1) A4) A4 rfl) (A7 (B3 (i:=7) nd rfl (Or.inl rfl) (CP (K:=K) PySem.F.plainAttrs_str PySem.F.slot_str_join PySem.F.type_str_join (DW (K:=K)) A9 (A0 (N9 (kSl (K:=K)) (pv 5) T5 (O2 (A8 D3 A4 (A8 D1 (A8 D3 (A8 D8 (pv 1) A4) (pv 0)) A4)))) A3)))) B5))
   (A1 (B3 (i:=8) nd rfl (Or.inl rfl) (J5 (Z4 rfl)))
   (A1 (L6 (C5 (B0 (kEq (K:=K) hu) (A8 D1 (A8 D8 (pv 1) A4) A4) A4 rfl) (A1 (B3 (i:=7) nd rfl (Or.inl rfl) (A8 D3 (ixE K w (pv 8) (A8 D1 (A8 D3 (A8 D8 (pv 1) A4) (pv 0)) A4)) (ixE K w (pv 3) (A8 D1 (A8 D3 (A8 D8 (pv 1) A4) (pv 0)) A4))))
   (A7 (B3 (i:=7) nd rfl (Or.inl rfl) (A8 D3 (pv 7) (A8 aXZ (ixE K w (pv 3) (A8 D1 (A8 D8 (pv 1) A4) A4)) (A8 D1 (pv 0) A4)))))) B5))
   (A1 (L6 (C5 (B0 (kEq (K:=K) hu) (A8 D1 (A8 D8 (pv 1) A4) A4) A4 rfl) (A7 (B3 (i:=7) nd rfl (Or.inl rfl) (A8 D3 (ixE K w (pv 2) (A8 D1 (A8 D3 (A8 D8 (pv 1) A4) (pv 0)) A4)) (ixE K w (pv 8) (A8 D1 (A8 D3 (A8 D8 (pv 1) A4) (pv 0)) A4))))) B5))
   (A1 (C5 (B0 (kIn (K:=K) (w:=w)) (pv 7) (pv 8) rfl) (A7 (B2 (A8 D3 (pv 7) A9))) B5)
   (A7 (B2 (pv 7)))))))))))))))), ?_⟩
 refine⟨_,rfl,.inr (.inl ⟨_,_,rfl,rfl,by decide, ?_⟩)⟩
 refine⟨_,rfl,⟨_,_,rfl,rfl,⟨by decide,by decide⟩,⟨_,_,rfl,rfl,(by decide:(0:Int)<8),.inl ⟨_,_,rfl,rfl, ?_⟩⟩⟩⟩
 have hs0:0<=sh/3%8:=Int.emod_nonneg _ (by decide)
 have hs1:sh/3%8<8:=Int.emod_lt_of_pos _ (by decide)
 generalize sh/3%8=s8 at hs0 hs1⊢
 refine⟨8,rfl,by decide,by decide,BN (n:=8) (lo:=0) (λi ys H'=>H'=H/\∃cs:List Nat,ys=lts cs/\cs.length=i/\∀c∈cs,K10.long c=true) ⟨rfl,[],rfl,rfl,by simp⟩ ?_ ?_ ?_⟩
 ·rintro i ys H' hi ⟨rfl,cs,rfl,hl,_⟩
  rw[length_map,hl]
  exact le_trans hi (by decide)
 ·rintro i ys H' hi ⟨rfl,cs,rfl,hl,hc⟩
  refine BH ?_
  have hmul:∀b:Bool,CMul k (if b then 1 else 0):=λb=> .inr (by cases b<;>decide)
  refine⟨_,rfl, ?_⟩
  refine⟨_,rfl,⟨_,_,rfl,rfl,⟨by decide,by decide⟩,⟨_,rfl,.inl ⟨_,_,rfl,rfl,.inl ⟨by decide,by decide⟩,.inl ⟨_,_,rfl,rfl, ?_⟩⟩⟩⟩⟩
  refine⟨_,rfl,⟨_,rfl,⟨_,_,rfl,rfl,(by decide:(0:Int)<4),.inl ⟨rfl, ?_⟩⟩⟩⟩
  refine .inl ⟨_,rfl,.inl ⟨_,_,rfl,rfl,hmul _,.inl ⟨_,_,rfl,rfl,⟨_,_,rfl,rfl,(by decide:(0:Int)<36), ?_⟩⟩⟩⟩
  obtain⟨c,hc',hcl⟩:=VF (sh/7+5*(0+(i:Int))+k*(if decide (V.int (sh%4)=V.int 0)=true then 1 else 0))
  refine .inr (.inr (.inl ⟨_,_,c,rfl,rfl,(by decide),hc',rfl,cs++ [c],(by rw[lts,lts,map_append];rfl),by simp[hl], ?_⟩))
  intro c' h'
  rcases mem_append.mp h' with h'|h'
  ·exact hc c' h'
  ·rw[sZ h'];exact hcl
 rintro ys H' ⟨rfl,cs,rfl,hl,hc⟩ r hr0
 have hmul:∀b:Bool,CMul k (if b then 1 else 0):=λb=> .inr (by cases b<;>decide)
 refine⟨_,rfl,⟨_,rfl,⟨_,_,rfl,rfl,⟨by decide,by decide⟩,⟨_,rfl,⟨_,rfl,⟨_,_,rfl,rfl,(by decide:(0:Int)<4),.inl ⟨rfl,.inl ⟨_,rfl,.inl ⟨_,_,rfl,rfl,hmul _,.inl ⟨_,_,rfl,rfl,⟨_,_,rfl,rfl,(by decide:(0:Int)<26), ?_⟩⟩⟩⟩⟩⟩⟩⟩⟩⟩⟩
 obtain⟨c0,hc0,hl0⟩:=UL (sh/7+k*(if decide (V.int (sh%4)=V.int 0)=true then 1 else 0))
 refine .inr (.inr (.inl ⟨_,_,c0,rfl,rfl,(by decide),hc0,⟨_,rfl,r,_,0,0,rfl,rfl,A2,ccZ (by rw[length_map];omega), ?_⟩⟩))
 rw[V6,show(lts cs).set 0 (.str ⟨#[c0]⟩)=lts (cs.set 0 c0)from GX cs 0 c0]
 have h8:=R8.set0 hl hc hl0
 have hl1:=h8.len
 generalize cs.set 0 c0=cs1 at h8 hl1⊢
 refine⟨_,rfl,⟨_,_,rfl,rfl,⟨by decide,by decide⟩,⟨_,rfl,_,_,rfl,rfl,(show(0:Int)<1+s8 by omega), ?_⟩⟩⟩
 have ha0:0<=sh/24%(1+s8):=Int.emod_nonneg _ (by omega)
 have ha1:sh/24%(1+s8)<1+s8:=Int.emod_lt_of_pos _ (by omega)
 refine⟨fun σ' H1=>∃cs2:List Nat,σ'=stN k sh s8 r (some (.int (sh/24%(1+s8)))) none none/\Same H' H1/\H1 r=some (.lst (lts cs2))/\R8 cs2, ?_, ?_⟩
 ·refine⟨_,rfl,⟨_,_,rfl,rfl,(by decide:(0:Int)<4),.inl ⟨rfl,⟨_,rfl,W9 (λc=> ?_) (λc=> ?_)⟩⟩⟩⟩
  ·refine⟨_,rfl,_,_,rfl,rfl,_,rfl,W9 (λc2=> ?_) (λc2=> ?_)⟩
   ·refine⟨_,rfl,⟨_,rfl,⟨_,_,rfl,rfl,⟨by decide,by decide⟩,⟨_,rfl,.inl ⟨_,_,rfl,rfl,⟨_,_,rfl,rfl,(by decide:(0:Int)<36), ?_⟩⟩⟩⟩⟩⟩
    obtain⟨c1,hc1',hcl⟩:=VF (sh/11+k)
    refine .inr (.inr (.inl ⟨_,_,c1,rfl,rfl,(by decide),hc1',⟨_,rfl,_,rfl,r,_,_,_,rfl,rfl,A2,b3Z ha0 (by rw[length_map];omega), ?_⟩⟩))
    have hj:0<sh/24%(1+s8):=of_decide_eq_true c2
    rw[V6,show(lts cs1).set _ (.str ⟨#[c1]⟩)=lts (cs1.set _ c1)from GX cs1 _ c1]
    exact⟨_,rfl,A6 hr0 _,A2,h8.setj (by omega) hcl⟩
   ·refine⟨_, ?_,λ_ _ h=>h⟩
    refine⟨_,rfl,⟨_,_,rfl,rfl,(by decide:(0:Int)<4),.inl ⟨rfl,⟨_,rfl,W9 (λc=> ?_) (λc=> ?_)⟩⟩⟩⟩
    ·refine⟨_,rfl,⟨_,rfl,⟨_,_,rfl,rfl,⟨by decide,by decide⟩,⟨_,rfl,.inl ⟨_,_,rfl,rfl,⟨_,_,rfl,rfl,(by decide:(0:Int)<26), ?_⟩⟩⟩⟩⟩⟩
     obtain⟨c1,hc1',hcl⟩:=UL (sh/11+k)
     refine .inr (.inr (.inl ⟨_,_,c1,rfl,rfl,(by decide),hc1',⟨_,rfl,r,_,_,_,rfl,rfl,A2,ccZ (by rw[length_map];omega), ?_⟩⟩))
     rw[V6,show(lts cs1).set 0 (.str ⟨#[c1]⟩)=lts (cs1.set 0 c1)from GX cs1 0 c1]
     exact⟨_,rfl,A6 hr0 _,A2,R8.set0 h8.len h8.all hcl⟩
    ·exact⟨_,rfl,A6 hr0 _,A2,h8⟩
  ·refine⟨_, ?_,λ_ _ h=>h⟩
   refine⟨_,rfl,⟨_,_,rfl,rfl,(by decide:(0:Int)<4),.inl ⟨rfl,⟨_,rfl,W9 (λc=> ?_) (λc=> ?_)⟩⟩⟩⟩
   ·refine⟨_,rfl,⟨_,rfl,⟨_,_,rfl,rfl,⟨by decide,by decide⟩,⟨_,rfl,.inl ⟨_,_,rfl,rfl,⟨_,_,rfl,rfl,(by decide:(0:Int)<26), ?_⟩⟩⟩⟩⟩⟩
    obtain⟨c1,hc1',hcl⟩:=UL (sh/11+k)
    refine .inr (.inr (.inl ⟨_,_,c1,rfl,rfl,(by decide),hc1',⟨_,rfl,r,_,_,_,rfl,rfl,A2,ccZ (by rw[length_map];omega), ?_⟩⟩))
    rw[V6,show(lts cs1).set 0 (.str ⟨#[c1]⟩)=lts (cs1.set 0 c1)from GX cs1 0 c1]
    exact⟨_,rfl,A6 hr0 _,A2,R8.set0 h8.len h8.all hcl⟩
   ·exact⟨_,rfl,A6 hr0 _,A2,h8⟩
 ·rintro σ' H1 ⟨cs2,rfl,sm1,hr1,h82⟩
  refine⟨rfl,_,rfl,_,rfl,_,rfl,.inl ⟨r,_,rfl,SqL.of hr1,λp hp=> ?_⟩⟩
  rw[UH (show 0<=1+s8 by omega),VC]
  have hx:Nme (cs2.take (1+s8).toNat):=h82.take (by omega)
  generalize cs2.take (1+s8).toNat=x at hx⊢
  refine⟨"",p,_,rfl,rfl,.inl (SqL.of A2),ZQ _ hx.len, ?_⟩
  rw[OA]
  have sm2:Same H' (upd H1 p (.lst ((x.map λd=>tx [d]).map V.str))):=sm1.trans (A6 hp _)
  have hr2:(upd H1 p (.lst ((x.map λd=>tx [d]).map V.str))) r=some (.lst (lts cs2)):=(A6 hp _) _ _ hr1
  generalize upd H1 p (.lst ((x.map λd=>tx [d]).map V.str))=H2 at sm2 hr2⊢
  refine⟨fun σ' H3=>∃x:List Nat,σ'=stN k sh s8 r (some (.int (sh/24%(1+s8)))) (some (.str (tx x))) none/\Same H' H3/\Nme x, ?_, ?_⟩
  ·refine⟨_,rfl,⟨_,_,rfl,rfl,(by decide:(0:Int)<4),.inl ⟨rfl,⟨_,rfl,W9 (λc=> ?_) (λc=> ?_)⟩⟩⟩⟩
   ·refine⟨rfl,_,rfl,⟨_,rfl,⟨_,_,rfl,rfl,⟨by decide,by decide⟩,⟨_,rfl,.inl ⟨_,_,rfl,rfl,⟨_,_,rfl,rfl,(by decide:(0:Int)<8),.inl ⟨_,_,rfl,rfl, ?_⟩⟩⟩⟩⟩⟩⟩
    have hn:=Int.emod_nonneg (sh/24+k) (show(8:Int)≠0 by decide)
    refine⟨_,rfl,.inl ⟨r,_,rfl,SqL.of hr2,λp' hp'=> ?_⟩⟩
    have hx2:Nme (cs2.take (1+(sh/24+k)%8).toNat):=h82.take (by omega)
    rw[UH (by omega),VC]
    refine⟨"",p',_,rfl,rfl,.inl (SqL.of A2),ZQ _ hx2.len, ?_⟩
    rw[OA]
    exact⟨_,rfl,sm2.trans (A6 hp' _),hx2⟩
   ·exact⟨x,rfl,sm2,hx⟩
  ·rintro σ' H3 ⟨x,rfl,sm3,hx⟩
   refine⟨(by decide),λrr0 hrw=> ?_⟩
   have sm4:Same H' (upd H3 rr0 (.lst (rowW.map V.str))):=sm3.trans (A6 hrw _)
   have hrow:(upd H3 rr0 (.lst (rowW.map V.str))) rr0=some (.lst (rowW.map V.str)):=A2
   show OS _ _ _ _ (upd H3 rr0 (.lst (rowW.map V.str)))
   generalize upd H3 rr0 (.lst (rowW.map V.str))=H4 at sm4 hrow⊢
   refine⟨fun σ' H5=>∃x:List Nat,σ'=stN k sh s8 r (some (.int (sh/24%(1+s8)))) (some (.str (tx x))) (some (.ref rr0))/\H4=H5/\Nme x, ?_, ?_⟩
   ·refine⟨_,rfl,⟨_,_,rfl,rfl,⟨by decide,by decide⟩,⟨_,_,rfl,rfl,(by decide:(0:Int)<5),.inl ⟨rfl,⟨_,rfl,W9 (λc=> ?_) (λc=> ?_)⟩⟩⟩⟩⟩
    ·refine⟨_,rfl,⟨_,rfl,⟨_,_,rfl,rfl,⟨by decide,by decide⟩,⟨_,rfl,.inl ⟨_,_,rfl,rfl,⟨_,_,rfl,rfl,(by decide:(0:Int)<13), ?_⟩⟩⟩⟩⟩⟩
     obtain⟨y,hy,hyl⟩:=bGZ (sh/25+k)
     refine(ixL hrow hy ?_)
     refine⟨_,rfl,⟨_,rfl,⟨_,_,rfl,rfl,⟨by decide,by decide⟩,⟨_,rfl,.inl ⟨_,_,rfl,rfl,⟨_,_,rfl,rfl,(by decide:(0:Int)<36), ?_⟩⟩⟩⟩⟩⟩
     obtain⟨c1,hc1',hl1⟩:=VF (sh/7+k)
     have hyg:=AO y hyl
     refine .inr (.inr (.inl ⟨_,_,c1,rfl,rfl,(by decide),hc1', ?_⟩))
     refine .inr (.inl ⟨_,_,rfl,rfl,DE (a:=5) (b:=1) (OU hyg.1) (le_of_eq (UP c1)), ?_⟩)
     rw[show tx y++(⟨#[c1]⟩:Str)=tx (y++ [c1])from ED y [c1]]
     have hy2:Nme (y++ [c1]):=(bxZ hyl).app (by simp only[length_cons,length_nil];omega) (λd hd=>by rw[sZ hd];exact hl1)
     have hy3:(y++ [c1]).length<=6:=by simp only[length_append,length_cons,length_nil];omega
     generalize y++ [c1]=y2 at hy2 hy3⊢
     refine⟨_,rfl,_,rfl,⟨_,rfl,⟨_,_,rfl,rfl,⟨by decide,by decide⟩,⟨_,_,rfl,rfl,(by decide:(0:Int)<36), ?_⟩⟩⟩⟩
     obtain⟨c2,hc2',hl2⟩:=VF (sh/9)
     refine .inr (.inr (.inl ⟨_,_,c2,rfl,rfl,(by decide),hc2', ?_⟩))
     have hk0:0<=k%2:=Int.emod_nonneg _ (by decide)
     have hk1:k%2<2:=Int.emod_lt_of_pos _ (by decide)
     refine⟨_,rfl,_,_,rfl,rfl,(by decide:(0:Int)<2), ?_⟩
     refine .inr (.inl ⟨_,_,rfl,rfl,hk0,(by show k%2<=16777216;omega),(by show 1*_<=_;omega), ?_⟩)
     obtain⟨l2,e2,hm,hm2⟩:=dYZ (c:=c2) hk0 hk1
     rw[show Txt.mul (⟨#[c2]⟩:Str) (k%2)=tx l2 from e2]
     refine .inr (.inl ⟨_,_,rfl,rfl,DE (a:=6) (b:=1) (OU hy3) (OU hm), ?_⟩)
     rw[ED]
     exact⟨_,rfl,rfl,hy2.app (by omega) λd hd=>by rw[hm2 d hd];exact hl2⟩
    ·exact⟨x,rfl,rfl,hx⟩
   ·rintro σ' H5 ⟨x,rfl,rfl,hx⟩
    refine⟨fun σ' H5=>∃x:List Nat,σ'=stN k sh s8 r (some (.int (sh/24%(1+s8)))) (some (.str (tx x))) (some (.ref rr0))/\H4=H5/\Nme x, ?_, ?_⟩
    ·refine⟨_,rfl,⟨_,_,rfl,rfl,⟨by decide,by decide⟩,⟨_,_,rfl,rfl,(by decide:(0:Int)<5),.inl ⟨rfl,⟨_,rfl,W9 (λc=> ?_) (λc=> ?_)⟩⟩⟩⟩⟩
     ·refine⟨_,rfl,⟨_,rfl,⟨_,_,rfl,rfl,⟨by decide,by decide⟩,⟨_,rfl,.inl ⟨_,_,rfl,rfl,⟨_,_,rfl,rfl,(by decide:(0:Int)<26), ?_⟩⟩⟩⟩⟩⟩
      obtain⟨c1,hc1',hl1⟩:=UL (sh/7+k)
      refine .inr (.inr (.inl ⟨_,_,c1,rfl,rfl,(by decide),hc1', ?_⟩))
      refine⟨_,rfl,⟨_,rfl,⟨_,_,rfl,rfl,⟨by decide,by decide⟩,⟨_,rfl,.inl ⟨_,_,rfl,rfl,⟨_,_,rfl,rfl,(by decide:(0:Int)<13), ?_⟩⟩⟩⟩⟩⟩
      obtain⟨y,hy,hyl⟩:=bGZ (sh/25+k)
      have hyg:=AO y hyl
      refine(ixL hrow hy ?_)
      refine .inr (.inl ⟨_,_,rfl,rfl,DE (a:=1) (b:=5) (le_of_eq (UP c1)) (OU hyg.1), ?_⟩)
      rw[show(⟨#[c1]⟩:Str)++tx y=tx ([c1]++y)from ED [c1] y]
      refine⟨_,rfl,rfl,⟨?_,λd hd=> ?_,⟨c1,y,rfl,hl1⟩⟩⟩
      ·simp only[length_append,length_cons,length_nil];omega
      ·rcases mem_append.mp hd with h'|h'
       ·rw[sZ h'];exact OI hl1
       ·exact hyg.2.1 d h'
     ·exact⟨x,rfl,rfl,hx⟩
    ·rintro σ' H5 ⟨x,rfl,rfl,hx⟩
     refine⟨_,rfl,_,rfl,.inr (.inl ⟨rr0,rowW.map V.str,rfl,.inl (SqL.of hrow),rfl,(by decide),_,rfl,W9 (λc=> ?_) (λc=> ?_)⟩)⟩
     ·have ht:x∈K10.toldW:=by
       have c':=c
       rw[MR,map_map]at c'
       exact of_decide_eq_true ((K10.inV_told x).symm.trans c')
      refine⟨_,rfl,.inr (.inl ⟨_,_,rfl,rfl,DE (a:=8) (b:=1) (OU hx.len) (by decide), ?_⟩)⟩
      rw[show tx x++("0":Str)=tx (x++ [48])from by rw[show("0":Str)=tx [48]from by decide +kernel,ED]]
      exact q _ _ (AO x ht).2.2.2 sm4
     ·refine⟨_,rfl,q _ _ (dOZ hx λht=>c ?_) sm4⟩
      rw[MR,map_map]
      exact(K10.inV_told x).trans (decide_eq_true ht)
end
end Gn
end RD
namespace RD
open PySem L2
namespace Gn
seal PE PT PW PA PS PSs PTs PI PG PGs PO
theorem IY{x:Wd}(h:K10.isName x=true):Sh.Nm K10.isNum K10.isName x:=by
 have h0:=h
 simp only[K10.isName,Bool.and_eq_true,Bool.not_eq_true',Bool.or_eq_false_iff,decide_eq_false_iff_not]at h
 obtain⟨⟨⟨h1,h2⟩,h3⟩,h4,h5⟩:=h
 have ht:∀y∈K10.toldW,x≠y:=λy hy e=>by
  rw[<-e]at hy
  have:K10.told x=true:=decide_eq_true hy
  rw[this]at h3;cases h3
 have hl:∀y:Wd,K10.isName y=false->x≠y:=λy hy e=>by rw[<-e,h0]at hy;cases hy
 refine⟨h0, ?_,ht _ (by decide),ht _ (by decide),ht _ (by decide),hl _ (by decide),hl _ (by decide),ht _ (by decide),ht _ (by decide), ?_⟩
 ·cases x with
  |nil=>exact absurd rfl h1
  |cons c r=>
   have hc:K10.letter c=true:=h4
   have hf:K10.figure c=false:=by
    simp only[K10.letter,decide_eq_true_eq,mem_cons,not_mem_nil,or_false]at hc
    simp only[K10.figure,decide_eq_false_iff_not,mem_cons,not_mem_nil,or_false]
    omega
   unfold K10.isNum
   rw[all_cons,hf]
   simp
 ·cases e:E9 x with
  |false=>rfl
  |true=>
   have h':x=AM\/x=AR\/x=U7\/x=FH:=by simpa [E9,or_assoc]using e
   rcases h' with e|e|e|e<;>exact absurd e (ht _ (by decide))
theorem dUZ{n:Nat}(h:n<10^12):Sh.Nu K10.isNum n:=by
 have hf:=Sh.dg_fig n
 have hl:∀y:Wd,y.all K10.figure=false->Sh.dg n≠y:=λy hy e=>by rw[<-e,hf]at hy;cases hy
 refine⟨?_,Sh.dg_val n,hl _ (by decide),hl _ (by decide),hl _ (by decide),hl _ (by decide),hl _ (by decide),hl _ (by decide),hl _ (by decide), ?_⟩
 ·have h1:=Sh.dg_ne n
  have h2:=Sh.dg_len h
  unfold K10.isNum
  rw[hf,decide_eq_false h1,decide_eq_false (by omega)]
  rcases Sh.dg_head n with e|e
  ·rw[e,Sh.dg_zero];decide
  ·simp[e]
 ·cases e:E9 (Sh.dg n)with
  |false=>rfl
  |true=>
   have h':Sh.dg n=AM\/Sh.dg n=AR\/Sh.dg n=U7\/Sh.dg n=FH:=by simpa [E9,or_assoc]using e
   rcases h' with e|e|e|e<;>exact absurd e (hl _ (by decide))
theorem at3{α:Type}(a b c:α)(z:Int):∃v,atI [a,b,c] (z%3)=some v/\(v=a\/v=b\/v=c):=by
 have h0:0<=z%3:=Int.emod_nonneg _ (by decide)
 have h1:z%3<3:=Int.emod_lt_of_pos _ (by decide)
 have hz:z%3=0\/z%3=1\/z%3=2:=by omega
 rcases hz with e|e|e<;>rw[e]
 ·exact⟨a,rfl,.inl rfl⟩
 ·exact⟨b,rfl,.inr (.inl rfl)⟩
 ·exact⟨c,rfl,.inr (.inr rfl)⟩
section
variable{P:Program}{w:World}{K:FZ}{mg:Str->Option Value}{base:Heap}{f U0:Addr}{fd U2:FuncData}
inductive spAtomW(vs:List V)(H:Hp)(Q:VK):Prop
 |mk:∀(c sh:Int),(vs=[.int c,.int sh])->(∀a t H',Same H H'->TmAt H' t (.ref a)->Sh.OkT t->t.depth=1->Sh.wt t<=12->t.size=1->Q (.ref a) H')->spAtomW vs H Q
def atZ:Sp:=λvs H Q _=>spAtomW vs H Q
theorem ok_law_atom(F:Fun K "_law_atom" "_law_atom" s_law_atom f fd)(B:K15.NoG mg)(K1:Cn P w K mg base CX0 1 "_law_name" q4L spName):
  FnOk P w K mg base CX0 2 f fd q0L atZ:=by
 obtain⟨U0,U2,K1,S5,S4,S3⟩:=K1
 refine F.ok sc_law_atom (λvs H Q E h=> ?_) (λcdv A outer s H vs Q E hr h=> ?_)
 ·obtain⟨c,sh,rfl,_⟩:=h
  rfl
 obtain⟨c,sh,rfl,q⟩:=h
 have nd:=sc_law_atom.nd
 have hu:=hr.units0
 refine⟨_,(A1 (C5 (B0 (kEq (K:=K) hu) (A8 D1 (pv 0) A4) A4 rfl) (A7 (B2 (E1 (A0 A9 (A0 (A8 D1 (A8 D8 (pv 0) A4) (ixE K w (J5 (A0 A4 (A0 A4 (A0 (A8 ciZ A4 A4) A3)))) (A8 D1 (A8 D8 (pv 0) A4) A4))) A3))))) B5)
   (A1 (C5 (B0 (kEq (K:=K) hu) (A8 D1 (pv 0) A4) A4 rfl) (A7 (B2 (ixE K w (J5 (A0 (E1 (A0 A9 (A0 BR A3))) (A0 (E1 (A0 A9 (A0 BR A3))) (A0 (E1 (A0 A9 A3)) A3)))) (A8 D1 (A8 D8 (pv 0) A4) A4)))) B5)
   (A1 (C5 (B0 (kEq (K:=K) hu) (A8 D1 (pv 0) A4) A4 rfl) (A7 (B2 (E1 (A0 A9 (A0 (C3 K1 (hr.mono (by omega)) rfl S3 S4 S5 .nil C6 (A0 (A8 D1 (A8 D8 (pv 0) A4) A4) (A0 (pv 1) A3))) (A0 (E1 A3) A3)))))) B5)
   (A7 (B2 (E1 (A0 A9 (A0 (C3 K1 (hr.mono (by omega)) rfl S3 S4 S5 .nil C6 (A0 (A8 D1 (A8 D8 (pv 0) A4) A4) (A0 (pv 1) A3))) A3)))))))), ?_⟩
 have z1:(1:Nat)<=sizeLine:=by decide
 have z2:(2:Nat)<=sizeLine:=by decide
 have z3:(3:Nat)<=sizeLine:=by decide
 refine⟨_,rfl,⟨_,_,rfl,rfl,(by decide:(0:Int)<5),.inl ⟨rfl,⟨_,rfl,W9 (λ_=> ?_) (λ_=> ?_)⟩⟩⟩⟩
 ·refine⟨_,rfl,⟨_,_,rfl,rfl,⟨by decide,by decide⟩,⟨_,_,rfl,rfl,⟨by decide,by decide,by decide⟩,z3,λl hl=>⟨_,rfl,⟨_,_,rfl,rfl,⟨by decide,by decide⟩,⟨_,_,rfl,rfl,(by decide:(0:Int)<3), ?_⟩⟩⟩⟩⟩⟩
  obtain⟨v,hv,hv'⟩:=at3 (V.int 10) (V.int 100) (V.int ((10:Int)^(12:Int).toNat)) (c/5)
  have hm:∃m:Int,v=.int m/\0<m/\m<=10^12:=by
   rcases hv' with rfl|rfl|rfl
   ·exact⟨_,rfl,by decide,by decide⟩
   ·exact⟨_,rfl,by decide,by decide⟩
   ·exact⟨_,rfl,by decide,by decide⟩
  obtain⟨m,rfl,hm,hm2⟩:=hm
  have hn0:=Int.emod_nonneg (c/5) (show m≠0 by omega)
  have hn1:=Int.emod_lt_of_pos (c/5) hm
  obtain⟨n,hn⟩:=Int.eq_ofNat_of_zero_le hn0
  refine(ixL A2 hv ⟨_,_,rfl,rfl,hm,z2,λp hp=> ?_⟩)
  refine q p (.num n) _ ((A6 hl _).trans (A6 hp _)) (.num (by rw[A2,hn])) ?_ rfl (le_refl _) rfl
  unfold Sh.OkT;rw[Sh.Ok]
  exact dUZ (by omega)
 refine⟨_,rfl,⟨_,_,rfl,rfl,(by decide:(0:Int)<5),.inl ⟨rfl,⟨_,rfl,W9 (λ_=> ?_) (λ_=> ?_)⟩⟩⟩⟩
 ·refine⟨z2,λp1 h1=>⟨z2,λp2 h2=>⟨z1,λp3 h3=>⟨z3,λl hl=>⟨_,rfl,⟨_,_,rfl,rfl,⟨by decide,by decide⟩,⟨_,_,rfl,rfl,(by decide:(0:Int)<3), ?_⟩⟩⟩⟩⟩⟩⟩
  have s2:=A6 h2 (.tup [.str "truth",.bl false])
  have s3:=A6 h3 (.tup [.str "none"])
  have s4:=λxs=>A6 hl (.lst xs)
  obtain⟨v,hv,hv'⟩:=at3 (V.ref p1) (V.ref p2) (V.ref p3) (c/5)
  refine(ixL (v:=v) A2 hv ?_)
  have sm:Same H _:=(A6 h1 (.tup [.str "truth",.bl true])).trans (s2.trans (s3.trans (s4 [.ref p1,.ref p2,.ref p3])))
  rcases hv' with rfl|rfl|rfl
  ·exact q p1 (.truth true) _ sm (.truth (s4 _ _ _ (s3 _ _ (s2 _ _ A2)))) (by unfold Sh.OkT;rw[Sh.Ok];trivial) rfl (by decide) rfl
  ·exact q p2 (.truth false) _ sm (.truth (s4 _ _ _ (s3 _ _ A2))) (by unfold Sh.OkT;rw[Sh.Ok];trivial) rfl (by decide) rfl
  ·exact q p3 .non _ sm (.non (s4 _ _ _ A2)) (by unfold Sh.OkT;rw[Sh.Ok];trivial) rfl (by decide) rfl
 have h4:0<=c/5%4:=Int.emod_nonneg _ (by decide)
 refine⟨_,rfl,⟨_,_,rfl,rfl,(by decide:(0:Int)<5),.inl ⟨rfl,⟨_,rfl,W9 (λ_=> ?_) (λ_=> ?_)⟩⟩⟩⟩
 ·refine⟨_,rfl,⟨_,_,rfl,rfl,⟨by decide,by decide⟩,⟨_,_,rfl,rfl,(by decide:(0:Int)<4),⟨_,rfl,_,_,rfl,h4,λx H1 hx s1=>⟨zero_le _,λp0 h0=>⟨z3,λp hp=> ?_⟩⟩⟩⟩⟩⟩
  exact q p (.call x []) _ (s1.trans ((A6 h0 _).trans (A6 hp _))) (.call A2 ((A6 hp _) _ _ A2) .nil) (by unfold Sh.OkT;rw[Sh.Ok];exact⟨IY hx,by decide,by rw[Sh.Oks];trivial⟩) rfl (by rw[Sh.wt,Sh.wts];omega) rfl
 ·refine⟨_,rfl,⟨_,_,rfl,rfl,⟨by decide,by decide⟩,⟨_,_,rfl,rfl,(by decide:(0:Int)<4),⟨_,rfl,_,_,rfl,h4,λx H1 hx s1=>⟨z2,λp hp=> ?_⟩⟩⟩⟩⟩
  exact q p (.name x) _ (s1.trans (A6 hp _)) (.name A2) (by unfold Sh.OkT;rw[Sh.Ok];exact IY hx) rfl (by rw[Sh.wt];omega) rfl
end
end Gn
end RD
namespace RD
open PySem L2
namespace Gn
seal PE PT PW PA PS PSs PTs PI PG PGs PO
abbrev s_law_put_on:Stmt:=RD.top 47
abbrev BE:List Str:=["_law_pile","_law_kind","_law_cell","_law_shift","_law_name_here","_law_parts","_law_part","_law_right","_law_left"]
theorem sc_law_put_on:FnScope BE q7L (A5 s_law_put_on):=fS
theorem YR{H:Hp}{a:Addr}{o:HO}(h:H a=some o):upd H a o=H:=by
 funext b
 unfold upd
 split
 ·rename_i e;rw[e,h]
 ·rfl
inductive Pi (H:Hp):List V->List Tm->Prop where
 |nil:Pi H [] []
 |cons {p a:Addr} {ws:List V} {t:Tm} {ts:List Tm}:H p=some (.tup [.ref a,.int (t.depth:Nat)])->TmAt H t (.ref a)->Sh.OkT t/\t.depth<=16->Pi H ws ts->Pi H (.ref p::ws) (t::ts)
theorem Pi.mono{H H':Hp}{ws:List V}{ts:List Tm}(h:Pi H ws ts)(m:BU.Tups H H'):Pi H' ws ts:=by
 induction h with
 |nil=>exact .nil
 |cons hp ht hd _ ih=>exact .cons (m _ _ hp) (ht.mono m) hd ih
theorem Pi.len{H:Hp}{ws:List V}{ts:List Tm}(h:Pi H ws ts):ws.length=ts.length:=by
 induction h with
 |nil=>rfl
 |cons _ _ _ _ ih=>simp only[length_cons,ih]
theorem Pi.oks{H:Hp}{ws:List V}{ts:List Tm}(h:Pi H ws ts):∀t∈ts,Sh.OkT t:=by
 induction h with
 |nil=>exact λt h=>nomatch h
 |cons _ _ hd _ ih=>
  intro t h
  rcases cZ h with rfl|h
  ·exact hd.1
  ·exact ih t h
theorem Pi.split{H:Hp}:∀ {as bs:List V} {f:List Tm},Pi H (as++bs) f->∃g r,f=g++r/\Pi H as g/\Pi H bs r
 | [],bs,f,h=>⟨[],f,rfl,.nil,h⟩
 |a::as,bs,f,h=>by
  cases h with
  |cons hp ht hd hr=>
   obtain⟨g,r,rfl,h1,h2⟩:=Pi.split hr
   exact⟨_::g,r,rfl,.cons hp ht hd h1,h2⟩
def N1(l:List Tm):Nat:=(l.map Sh.wt).sum
theorem PB(a b:List Tm):N1 a+N1 b=N1 (a++b):=by unfold N1;rw[map_append,sum_append]
theorem aEZ(a:List Tm):N1 a.reverse=N1 a:=by
 induction a with
 |nil=>rfl
 |cons t r ih=>rw[reverse_cons,<-PB,ih];simp only[N1,map_cons,map_nil,sum_cons,sum_nil];omega
theorem ZP:∀l:List Tm,Sh.wts l=N1 l+4*l.length
 | []=>rfl
 |t::r=>by rw[Sh.wts,ZP r];simp only[N1,map_cons,sum_cons,length_cons];omega
theorem FJ:∀a b:List Tm,sizes a+sizes b=sizes (a++b)
 | [],b=>by simp[sizes]
 |t::r,b=>by rw[cons_append,sizes,sizes,<-FJ r b];omega
theorem WS(a:List Tm):sizes a.reverse=sizes a:=by
 induction a with
 |nil=>rfl
 |cons t r ih=>rw[reverse_cons,<-FJ,ih];simp only[sizes];omega
theorem IP:∀a b:List Tm,depths (a++b)=max (depths a) (depths b)
 | [],b=>by simp[depths]
 |t::r,b=>by rw[cons_append,depths,depths,IP r b];omega
theorem SY(a:List Tm):depths a.reverse=depths a:=by
 induction a with
 |nil=>rfl
 |cons t r ih=>rw[reverse_cons,IP,ih];simp only[depths];omega
theorem YW:∀ {ts:List Tm},(∀t∈ts,Sh.OkT t)->Sh.Oks K10.isNum K10.isName ts
 | [],_=>by rw[Sh.Oks];trivial
 |t::r,h=>by rw[Sh.Oks];exact⟨h t (mem_cons_self ..),YW λu hu=>h u (mem_cons_of_mem _ hu)⟩
theorem TF{H:Hp}:∀ {ts:List Tm} {vs:List V},TmsAt H ts vs->TmsAt H ts.reverse vs.reverse
 |_,_,.nil=> .nil
 |_,_,.cons h r=>by rw[reverse_cons,reverse_cons];exact(TF r).snoc h
inductive Pairs (H:Hp):List V->List V->Prop where
 |nil:Pairs H [] []
 |cons {p t:Addr} {n:Nat} {qs ts:List V}:H p=some (.tup [.ref t,.int (n:Nat)])->Pairs H qs ts->Pairs H (.ref p::qs) (.ref t::ts)
theorem Pairs.mono{H H':Hp}{qs ts:List V}(h:Pairs H qs ts)(t:BU.Tups H H'):Pairs H' qs ts:=by
 induction h with
 |nil=>exact .nil
 |cons hp _ ih=>exact .cons (t _ _ hp) ih
theorem Pairs.app{H:Hp}{as bs ts us:List V}(h:Pairs H as ts)(h':Pairs H bs us):Pairs H (as++bs) (ts++us):=by
 induction h with
 |nil=>exact h'
 |cons hp _ ih=>exact .cons hp ih
theorem Pairs.rev{H:Hp}{qs ts:List V}(h:Pairs H qs ts):Pairs H qs.reverse ts.reverse:=by
 induction h with
 |nil=>exact .nil
 |cons hp _ ih=>rw[reverse_cons,reverse_cons];exact ih.app (.cons hp .nil)
theorem Pairs.len{H:Hp}{qs ts:List V}(h:Pairs H qs ts):qs.length=ts.length:=by
 induction h with
 |nil=>rfl
 |cons _ _ ih=>simp only[length_cons,ih]
theorem Pairs.get{H:Hp}{qs ts:List V}(h:Pairs H qs ts):∀ {i:Nat} {x:V},qs[i]? =some x->∃p t n,x=.ref p/\H p=some (.tup [.ref t,.int (n:Nat)])/\ts[i]? =some (.ref t):=by
 induction h with
 |nil=>intro i x e;simp at e
 | @cons p t n qs ts hp _ ih=>
  intro i x e
  cases i with
  |zero=>simp at e;subst e;exact⟨p,t,n,rfl,hp,rfl⟩
  |succ i=>exact ih (by simpa using e)
theorem Pi.pairs{H:Hp}{qs:List V}{g:List Tm}(h:Pi H qs g):∃ts,Pairs H qs ts/\TmsAt H g ts:=by
 induction h with
 |nil=>exact⟨[],.nil,.nil⟩
 |cons hp ht _ _ ih=>
  obtain⟨ts,h1,h2⟩:=ih
  exact⟨_,.cons hp h1,.cons ht h2⟩
def stP(pl:Addr)(kind cell sh:Int)(nm:Str)(a b c d:Option V):St:=[some (.ref pl),some (.int kind),some (.int cell),some (.int sh),some (.str nm),a,b,c,d]
theorem at4(z:Int):∃y:List Nat,atI ((["head","tail","empty","not"]:List Str).map V.str) (z%4)=some (.str (tx y))/\E9 y=true:=by
 have h0:0<=z%4:=Int.emod_nonneg _ (by decide)
 have h1:z%4<4:=Int.emod_lt_of_pos _ (by decide)
 have hz:z%4=0\/z%4=1\/z%4=2\/z%4=3:=by omega
 rcases hz with e|e|e|e<;>rw[e]
 ·exact⟨AM,by decide +kernel,by decide⟩
 ·exact⟨AR,by decide +kernel,by decide⟩
 ·exact⟨U7,by decide +kernel,by decide⟩
 ·exact⟨FH,by decide +kernel,by decide⟩
section
variable{P:Program}{w:World}{K:FZ}{mg:Str->Option Value}{base:Heap}{f U0:Addr}{fd U2:FuncData}
inductive spPutW(vs:List V)(H:Hp)(Q:VK):Prop
 |mk:∀(pl:Addr) (kind cell sh:Int) (ws:List V) (f:List Tm),(vs=[.ref pl,.int kind,.int cell,.int sh])->(H pl=some (.lst ws.reverse))->(Pi H ws f)->(f.length<=200)->(1<=f.length)->((f.length=1->7<=kind/\kind<=9))->(∀(r made pl2:Addr) (qs ws':List V) (g:List Tm) (t:Tm) (rest:List Tm) (H':Hp),But pl H H'->H' r=some (.tup [.ref made,.ref pl2])->H' pl2=some (.lst qs)->Pi H' qs g->1<=g.length->TmAt H' t (.ref made)->Sh.OkT t->t.depth=1+depths g->Sh.wt t<=N1 g+31->t.size=1+sizes g->H' pl=some (.lst ws'.reverse)->Pi H' ws' rest->N1 g+N1 rest=N1 f->sizes g+sizes rest=sizes f->g.length+rest.length=f.length->(kind=5->g.length=2/\Sh.wt t<=N1 g+9)->Q (.ref r) H')->spPutW vs H Q
def bIZ:Sp:=λvs H Q _=>spPutW vs H Q
theorem ok_law_put_on(F:Fun K "_law_put_on" "_law_put_on" s_law_put_on f fd)(B:K15.NoG mg)(K1:Cn P w K mg base CX0 1 "_law_name" q4L spName):
  FnOk P w K mg base CX0 2 f fd q7L bIZ:=by
 obtain⟨U0,U2,K1,S5,S4,S3⟩:=K1
 refine F.ok sc_law_put_on (λvs H Q E h=> ?_) (λcdv A outer s H vs Q E hr h=> ?_)
 ·obtain⟨pl,kind,cell,sh,ws,f,rfl,_⟩:=h
  rfl
 obtain⟨pl,kind,cell,sh,ws,f,rfl,hpl,hw,hsz,hlen,hone,q⟩:=h
 have nd:=sc_law_put_on.nd
 have hu:=hr.units0
 refine⟨_,(A1 (B3 (i:=4) nd rfl (Or.inl rfl) (C3 K1 (hr.mono (by omega)) rfl S3 S4 S5 .nil C6 (A0 (A8 D1 (pv 2) A4) (A0 (pv 3) A3))))
   (A1 (L6 (C5 (PW.pt (T4 (B0 (kEq (K:=K) hu) (pv 1) A4 rfl) (S0 (B0 X3 (C8 (P6 (K:=K)) rfl B.len_ M3 (A0 (pv 0) A3)) A4 rfl)))) (A1 (B3 (i:=5) nd rfl (Or.inl rfl) (J5 (A0 (EG (K:=K) PySem.F.plainAttrs_list PySem.F.slot_list_pop PySem.F.type_list_pop CG (pv 0)) (A0 (EG (K:=K) PySem.F.plainAttrs_list PySem.F.slot_list_pop PySem.F.type_list_pop CG (pv 0)) (A0 (EG (K:=K) PySem.F.plainAttrs_list PySem.F.slot_list_pop PySem.F.type_list_pop CG (pv 0)) A3)))))
   (A7 (B2 (E1 (A0 (E1 (A0 A9 (A0 (ixE K w (ixE K w (pv 5) A4) A4) (A0 (ixE K w (ixE K w (pv 5) A4) A4) (A0 (ixE K w (ixE K w (pv 5) A4) A4) A3))))) (A0 (pv 5) A3)))))) B5))
   (A1 (C5 (B0 (kEq (K:=K) hu) (pv 1) A4 rfl) (A1 (B3 (i:=6) nd rfl (Or.inl rfl) (EG (K:=K) PySem.F.plainAttrs_list PySem.F.slot_list_pop PySem.F.type_list_pop CG (pv 0)))
   (A7 (B2 (E1 (A0 (E1 (A0 A9 (A0 (ixE K w (J5 (Z4 rfl)) (A8 D1 (pv 2) A4)) (A0 (ixE K w (pv 6) A4) A3)))) (A0 (J5 (A0 (pv 6) A3)) A3)))))) B5)
   (A1 (C5 (B0 (kEq (K:=K) hu) (pv 1) A4 rfl) (A1 (B3 (i:=6) nd rfl (Or.inl rfl) (EG (K:=K) PySem.F.plainAttrs_list PySem.F.slot_list_pop PySem.F.type_list_pop CG (pv 0)))
   (A7 (B2 (E1 (A0 (E1 (A0 A9 (A0 (pv 4) (A0 (ixE K w (pv 6) A4) A3)))) (A0 (J5 (A0 (pv 6) A3)) A3)))))) B5)
   (A1 (C5 (B0 (kEq (K:=K) hu) (pv 1) A4 rfl) (A1 (U8 (i:=5) nd rfl rfl (cS (N:=BE) (sc:=A5 s_law_put_on) (caps:=[0]) (ns:=["_law_pile"])) rfl rfl rfl (AQ rfl B.range_ (A0 (C8 (WX rfl) rfl B.min_ cZZ (A0 (C8 (P6 (K:=K)) rfl B.len_ M3 (A0 (pv 0) A3)) (A0 (A8 D3 A4 (A8 D1 (A8 D8 (pv 2) A4) A4)) A3))) A3)) (λ_ _ _ _ _=>X8) (λ_ _ _ _ _=>(EG (K:=K) PySem.F.plainAttrs_list PySem.F.slot_list_pop PySem.F.type_list_pop CG (pv 1))))
   (A7 (B2 (E1 (A0 (E1 (A0 A9 (A0 (pv 4) (A0 (L9 (DG (K:=K)) rfl B.tuple_ Z1 (A0 (EE (cS (N:=BE) (sc:=A5 s_law_put_on) (caps:=[]) (ns:=[])) rfl rfl rfl (EN (K:=K) (dwZ (K:=K) (pv 5) (dgZ b7Z A4))) (λ_ _ _ _ _=>X8) (λ_ _ _ _ _=>(ixE K w (pv 0) A4))) A3)) A3)))) (A0 (pv 5) A3)))))) B5)
   (A1 (B3 (i:=7) nd rfl (Or.inl rfl) (EG (K:=K) PySem.F.plainAttrs_list PySem.F.slot_list_pop PySem.F.type_list_pop CG (pv 0)))
   (A1 (B3 (i:=8) nd rfl (Or.inl rfl) (EG (K:=K) PySem.F.plainAttrs_list PySem.F.slot_list_pop PySem.F.type_list_pop CG (pv 0)))
   (A1 (C5 (B0 (kEq (K:=K) hu) (pv 1) A4 rfl) (A7 (B2 (E1 (A0 (E1 (A0 A9 (A0 (pv 4) (A0 (ixE K w (pv 8) A4) (A0 (ixE K w (pv 7) A4) A3))))) (A0 (J5 (A0 (pv 8) (A0 (pv 7) A3))) A3))))) B5)
   (A1 (C5 (B0 (kEq (K:=K) hu) (pv 1) A4 rfl) (A7 (B2 (E1 (A0 (E1 (A0 A9 (A0 (ixE K w (pv 8) A4) (A0 (ixE K w (pv 7) A4) A3)))) (A0 (J5 (A0 (pv 8) (A0 (pv 7) A3))) A3))))) B5)
   (A7 (B2 (E1 (A0 (E1 (A0 A9 (A0 (IZ ix_str A9 (A8 D1 (pv 2) A4) (λ_ _=>rfl)) (A0 (ixE K w (pv 8) A4) (A0 (ixE K w (pv 7) A4) A3))))) (A0 (J5 (A0 (pv 8) (A0 (pv 7) A3))) A3)))))))))))))), ?_⟩
 have hc4:0<=cell%4:=Int.emod_nonneg _ (by decide)
 refine⟨_,rfl,⟨_,_,rfl,rfl,(by decide:(0:Int)<4),⟨_,rfl,_,_,rfl,hc4,λnm H1 hnm s1=> ?_⟩⟩⟩
 have hpl1:H1 pl=some (.lst ws.reverse):=s1 _ _ hpl
 have hw1:Pi H1 ws f:=hw.mono (BU.tups_of s1)
 have hwl:=hw.len
 have z1:(1:Nat)<=sizeLine:=by decide
 have z2:(2:Nat)<=sizeLine:=by decide
 have z3:(3:Nat)<=sizeLine:=by decide
 have z4:(4:Nat)<=sizeLine:=by decide
 have b1:But pl H H1:=Same.but s1
 refine⟨fun σ' H'=>σ'=stP pl kind cell sh (tx nm) none none none none/\H1=H', ?_, ?_⟩
 ·refine⟨_,rfl,.inl ⟨rfl,⟨_,rfl,W9 (λc=> ?_) (λc=> ?_)⟩⟩⟩
  ·refine⟨_,rfl,_,_,rfl,.inl ⟨_,SqL.of hpl1,rfl⟩,_,_,rfl,rfl,_,rfl,W9 (λc2=> ?_) (λc2=> ?_)⟩
   ·have c2':(2:Int)<((ws.reverse.length:Nat):Int):=of_decide_eq_true c2
    rw[length_reverse]at c2'
    have k6:kind=6:=by have:=of_decide_eq_true c;injection this
    cases hw1 with
    |nil=>simp at c2'
    | @cons px ax ws1 kx f1 hpx htx hdx hw1=>
    cases hw1 with
    |nil=>simp at c2'
    | @cons py ay ws2 ky f2 hpy hty hdy hw1=>
    cases hw1 with
    |nil=>simp at c2'
    | @cons pz az ws3 kz f3 hpz htz hdz hw1=>
    refine⟨_,rfl,.inl ⟨rfl,_,SqL.of hpl1⟩,pl,_,_,rfl,rfl,hpl1,BU.last_rev _ _, ?_⟩
    rw[BU.drop_rev]
    refine⟨_,rfl,.inl ⟨rfl,_,SqL.of A2⟩,pl,_,_,rfl,rfl,A2,BU.last_rev _ _, ?_⟩
    rw[BU.drop_rev,V6]
    refine⟨_,rfl,.inl ⟨rfl,_,SqL.of A2⟩,pl,_,_,rfl,rfl,A2,BU.last_rev _ _, ?_⟩
    rw[BU.drop_rev,V6]
    have t2:BU.Tups H1 (upd H1 pl (.lst ws3.reverse)):=.lst hpl1 _
    have b2:But pl H (upd H1 pl (.lst ws3.reverse)):=b1.trans (V4 _)
    have hpl2:(upd H1 pl (.lst ws3.reverse)) pl=some (.lst ws3.reverse):=A2
    generalize upd H1 pl (.lst ws3.reverse)=H2 at t2 b2 hpl2⊢
    refine⟨z3,λlp hlp=> ?_⟩
    have s3:=A6 hlp (.lst [.ref px,.ref py,.ref pz])
    refine⟨_,rfl,(ixL A2 rfl (ixT (s3 _ _ (t2 _ _ hpz)) rfl ?_))⟩
    refine⟨_,rfl,(ixL A2 rfl (ixT (s3 _ _ (t2 _ _ hpy)) rfl ?_))⟩
    refine⟨_,rfl,(ixL A2 rfl (ixT (s3 _ _ (t2 _ _ hpx)) rfl ?_))⟩
    refine⟨z4,λm hm=>⟨_,rfl,z2,λr hr0=> ?_⟩⟩
    have s4:=A6 hm (.tup [.str "if",.ref az,.ref ay,.ref ax])
    have s5:=A6 hr0 (.tup [.ref m,.ref lp])
    have sm:=s3.trans (s4.trans s5)
    have t5:=t2.trans (BU.tups_of sm)
    refine q r m lp [.ref px,.ref py,.ref pz] ws3 [kx,ky,kz] (.if_ kz ky kx) f3 _ (b2.trans (Same.but sm)) A2 (s5 _ _ (s4 _ _ A2))
     (.cons (t5 _ _ hpx) (htx.mono t5) hdx (.cons (t5 _ _ hpy) (hty.mono t5) hdy (.cons (t5 _ _ hpz) (htz.mono t5) hdz .nil))) (by simp)
     (.if_ (s5 _ _ A2) (htz.mono t5) (hty.mono t5) (htx.mono t5)) (by unfold Sh.OkT;rw[Sh.Ok];exact⟨hdz.1,hdy.1,hdx.1⟩) (by simp only[Tm.depth,depths];omega) (by simp only[Sh.wt,N1,map_cons,map_nil,sum_cons,sum_nil];omega) (by simp only[Tm.size,sizes];omega) (sm _ _ hpl2) (hw1.mono t5) (by simp only[N1,map_cons,map_nil,sum_cons,sum_nil];omega) (by simp only[sizes];omega) (by simp only[length_cons,length_nil];omega) (λe=>by omega)
   ·exact⟨rfl,rfl⟩
  ·exact⟨rfl,rfl⟩
 rintro σ' H' ⟨rfl,rfl⟩
 cases hw1 with
 |nil=>simp at hlen
 | @cons px ax ws1 kx f1 hpx htx hdx hw1=>
 refine⟨_,rfl,.inl ⟨rfl,⟨_,rfl,W9 (λc=> ?_) (λc=> ?_)⟩⟩⟩
 ·have k7:kind=7:=by have:=of_decide_eq_true c;injection this
  refine⟨_,rfl,.inl ⟨rfl,_,SqL.of hpl1⟩,pl,_,_,rfl,rfl,hpl1,BU.last_rev _ _, ?_⟩
  rw[BU.drop_rev]
  have t2:BU.Tups H1 (upd H1 pl (.lst ws1.reverse)):=.lst hpl1 _
  have b2:But pl H (upd H1 pl (.lst ws1.reverse)):=b1.trans (V4 _)
  have hpl2:(upd H1 pl (.lst ws1.reverse)) pl=some (.lst ws1.reverse):=A2
  generalize upd H1 pl (.lst ws1.reverse)=H2 at t2 b2 hpl2⊢
  refine⟨z4,λl4 hl4=>⟨_,rfl,⟨_,_,rfl,rfl,(by decide:(0:Int)<4), ?_⟩⟩⟩
  obtain⟨y,hy,hyo⟩:=at4 (cell)
  refine(ixL A2 hy ?_)
  have s3:=A6 hl4 (.lst (([("head":Str),"tail","empty","not"]:List Str).map V.str))
  refine⟨_,rfl,(ixT (s3 _ _ (t2 _ _ hpx)) rfl ?_)⟩
  refine⟨z3,λm hm=>⟨_,rfl,z1,λlp hlp=>⟨z2,λr hr0=> ?_⟩⟩⟩
  have s4:=A6 hm (.tup [.str "one",.str (tx y),.ref ax])
  have s5:=A6 hlp (.lst [.ref px])
  have s6:=A6 hr0 (.tup [.ref m,.ref lp])
  have sm:=s3.trans (s4.trans (s5.trans s6))
  have t5:=t2.trans (BU.tups_of sm)
  exact q r m lp [.ref px] ws1 [kx] (.one y kx) f1 _ (b2.trans (Same.but sm)) A2 (s6 _ _ A2) (.cons (t5 _ _ hpx) (htx.mono t5) hdx .nil) (by simp)
   (.one (s6 _ _ (s5 _ _ A2)) (htx.mono t5)) (by unfold Sh.OkT;rw[Sh.Ok];exact⟨hyo,hdx.1⟩) (by simp only[Tm.depth,depths];omega) (by simp only[Sh.wt,N1,map_cons,map_nil,sum_cons,sum_nil];omega) (by simp only[Tm.size,sizes];omega) (sm _ _ hpl2) (hw1.mono t5) (by simp only[N1,map_cons,map_nil,sum_cons,sum_nil];omega) (by simp only[sizes];omega) (by simp only[length_cons,length_nil];omega) (λe=>by omega)
 refine⟨_,rfl,.inl ⟨rfl,⟨_,rfl,W9 (λc=> ?_) (λc=> ?_)⟩⟩⟩
 ·have k8:kind=8:=by have:=of_decide_eq_true c;injection this
  refine⟨_,rfl,.inl ⟨rfl,_,SqL.of hpl1⟩,pl,_,_,rfl,rfl,hpl1,BU.last_rev _ _, ?_⟩
  rw[BU.drop_rev]
  have t2:BU.Tups H1 (upd H1 pl (.lst ws1.reverse)):=.lst hpl1 _
  have b2:But pl H (upd H1 pl (.lst ws1.reverse)):=b1.trans (V4 _)
  have hpl2:(upd H1 pl (.lst ws1.reverse)) pl=some (.lst ws1.reverse):=A2
  generalize upd H1 pl (.lst ws1.reverse)=H2 at t2 b2 hpl2⊢
  refine⟨_,rfl,_,rfl,(ixT (t2 _ _ hpx) rfl ?_)⟩
  refine⟨z3,λm hm=>⟨_,rfl,z1,λlp hlp=>⟨z2,λr hr0=> ?_⟩⟩⟩
  have s4:=A6 hm (.tup [.str "fn",.str (tx nm),.ref ax])
  have s5:=A6 hlp (.lst [.ref px])
  have s6:=A6 hr0 (.tup [.ref m,.ref lp])
  have sm:=s4.trans (s5.trans s6)
  have t5:=t2.trans (BU.tups_of sm)
  exact q r m lp [.ref px] ws1 [kx] (.fn nm kx) f1 _ (b2.trans (Same.but sm)) A2 (s6 _ _ A2) (.cons (t5 _ _ hpx) (htx.mono t5) hdx .nil) (by simp)
   (.fn (s6 _ _ (s5 _ _ A2)) (htx.mono t5)) (by unfold Sh.OkT;rw[Sh.Ok];exact⟨IY hnm,hdx.1⟩) (by simp only[Tm.depth,depths];omega) (by simp only[Sh.wt,N1,map_cons,map_nil,sum_cons,sum_nil];omega) (by simp only[Tm.size,sizes];omega) (sm _ _ hpl2) (hw1.mono t5) (by simp only[N1,map_cons,map_nil,sum_cons,sum_nil];omega) (by simp only[sizes];omega) (by simp only[length_cons,length_nil];omega) (λe=>by omega)
 refine⟨_,rfl,.inl ⟨rfl,⟨_,rfl,W9 (λc=> ?_) (λc=> ?_)⟩⟩⟩
 ·have k9:kind=9:=by have:=of_decide_eq_true c;injection this
  have hl1:(V.ref px::ws1).length<=200:=by rw[hwl];exact hsz
  have hrl:(V.ref px::ws1).reverse.length=(V.ref px::ws1).length:=length_reverse
  have hc0:0<=cell/4%4:=Int.emod_nonneg _ (by decide)
  have hc1:cell/4%4<4:=Int.emod_lt_of_pos _ (by decide)
  have hl0:1<=(V.ref px::ws1).length:=by simp
  generalize hW:V.ref px::ws1=W at*
  have hn:∃n:Nat,(if(1:Int)+cell/4%4<((W.reverse.length:Nat):Int)then(1:Int)+cell/4%4 else((W.reverse.length:Nat):Int))=(n:Int)/\1<=n/\n<=W.length/\n<=4:=by
   rw[hrl]
   split
   ·exact⟨(1+cell/4%4).toNat,by omega,by omega,by omega,by omega⟩
   ·exact⟨W.length,rfl,hl0,le_refl _,by omega⟩
  obtain⟨n,hn,hn1,hn2,hn4⟩:=hn
  refine⟨_,rfl,_,_,rfl,.inl ⟨_,SqL.of hpl1,rfl⟩,⟨_,rfl,⟨_,_,rfl,rfl,⟨by decide,by decide⟩,⟨_,_,rfl,rfl,(by decide:(0:Int)<4),.inl ⟨_,_,rfl,rfl,⟨_,_,rfl,(n:Int), ?_,by omega,by omega,BN (n:=n) (lo:=0) (λi ys H'=>upd H1 pl (.lst (W.drop i).reverse)=H'/\ys=W.take i) ⟨YR hpl1,rfl⟩ ?_ ?_ ?_⟩⟩⟩⟩⟩⟩
  ·rw[hn]
  ·rintro i ys H' hi ⟨rfl,rfl⟩
   rw[length_take]
   have:(200:Nat)<=sizeLine:=by decide
   omega
  ·rintro i ys H' hi ⟨rfl,rfl⟩
   have hi':i<W.length:=by omega
   have hd:W.drop i=W[i]::W.drop (i+1):=drop_eq_getElem_cons hi'
   refine BH ?_
   rw[hd]
   refine⟨_,rfl,.inl ⟨rfl,_,SqL.of A2⟩,pl,_,_,rfl,rfl,A2,BU.last_rev _ _, ?_, ?_⟩
   ·rw[BU.drop_rev,V6]
   ·rw[take_add_one,List.getElem?_eq_getElem hi'];rfl
  rintro ys H' ⟨rfl,rfl⟩ lp hlp
  have hsp:Pi H1 (W.take n++W.drop n) (kx::f1):=by
   rw[take_append_drop,<-hW]
   exact .cons hpx htx hdx hw1
  obtain⟨g,rest,hgr,hg,hrest⟩:=hsp.split
  have hql:(W.take n).length=n:=by rw[length_take];omega
  have hgl:g.length=n:=by rw[<-hg.len,hql]
  have t2:BU.Tups H1 (upd H1 pl (.lst (W.drop n).reverse)):=.lst hpl1 _
  have b2:But pl H (upd H1 pl (.lst (W.drop n).reverse)):=b1.trans (V4 _)
  have hpl2:(upd H1 pl (.lst (W.drop n).reverse)) pl=some (.lst (W.drop n).reverse):=A2
  generalize upd H1 pl (.lst (W.drop n).reverse)=H2 at t2 b2 hpl2 hlp⊢
  generalize W.take n=qs at hg hql hlp⊢
  have hg2:=hg.mono t2
  obtain⟨ts,hpr,hft⟩:=hg2.pairs
  have hfr:=TF hft
  have s3:=A6 hlp (.lst qs)
  refine⟨_,rfl,_,rfl,_,rfl,rfl,lp,_,rfl,SqL.of A2,λpr hpr0=> ?_⟩
  have s4:=A6 hpr0 (.lst qs.reverse)
  have t4:BU.Tups H2 (upd (upd H2 lp (.lst qs)) pr (.lst qs.reverse)):=BU.tups_of (s3.trans s4)
  have hprr:=(hpr.mono t4).rev
  refine⟨pr,rfl,⟨_,SqL.of A2⟩,LB (xs:=qs.reverse) (λi ys H'=>upd (upd H2 lp (.lst qs)) pr (.lst qs.reverse)=H'/\ys=ts.reverse.take i) ⟨rfl,rfl⟩ ?_ ?_ ?_⟩
  ·rintro i ys H' hi ⟨rfl,rfl⟩
   refine⟨SqL.of A2, ?_⟩
   rw[length_take,length_reverse,<-hpr.len,hql]
   have:(200:Nat)<=sizeLine:=by decide
   omega
  ·rintro i x ys H' hx ⟨rfl,rfl⟩
   obtain⟨pp,tt,d,rfl,hpp,htt⟩:=hprr.get hx
   refine BH ?_
   refine⟨_,rfl,(ixT hpp rfl ⟨rfl, ?_⟩)⟩
   rw[take_add_one,htt];rfl
  rintro ys H' ⟨rfl,rfl⟩ D0 hD0
  rw[length_reverse,hpr.len,<-length_reverse (as:=ts),take_length]
  refine⟨_,_,rfl,.inl ⟨SqL.of A2,λtc htc=>⟨z3,λm hm=>⟨_,rfl,z2,λr hr0=> ?_⟩⟩⟩⟩
  have s5:=A6 hD0 (.lst ts.reverse)
  have s6:=A6 htc (.tup ts.reverse)
  have s7:=A6 hm (.tup [.str "call",.str (tx nm),.ref tc])
  have s8:=A6 hr0 (.tup [.ref m,.ref lp])
  have sm:=s3.trans (s4.trans (s5.trans (s6.trans (s7.trans s8))))
  have t5:=BU.tups_of sm
  have hw4:=ZP g.reverse
  rw[aEZ,length_reverse,hgl]at hw4
  refine q r m lp qs (W.drop n) g (.call nm g.reverse) rest _ (b2.trans (Same.but sm)) A2 (s8 _ _ (s7 _ _ (s6 _ _ (s5 _ _ (s4 _ _ A2))))) (hg2.mono t5) (by omega)
   (.call (s8 _ _ A2) (s8 _ _ (s7 _ _ A2)) (hfr.mono t5)) (by unfold Sh.OkT;rw[Sh.Ok];exact⟨IY hnm,by rw[length_reverse];omega,YW λt ht=>hg.oks t (List.mem_reverse.mp ht)⟩) (by rw[Tm.depth,SY];omega) (by rw[Sh.wt];omega) (by rw[Tm.size,WS];omega) (sm _ _ hpl2) ((hrest.mono t2).mono t5) (by rw[hgr,PB]) (by rw[hgr,FJ]) (by rw[hgr,length_append]) (λe=>by omega)
 ·have n7:¬(7<=kind/\kind<=9):=by
   rintro⟨h7,h9⟩
   have:kind=7\/kind=8\/kind=9:=by omega
   rcases this with rfl|rfl|rfl<;>simp_all
  cases hw1 with
  |nil=>exact absurd (hone rfl) n7
  | @cons py ay ws2 ky f2 hpy hty hdy hw1=>
  refine⟨_,rfl,.inl ⟨rfl,_,SqL.of hpl1⟩,pl,_,_,rfl,rfl,hpl1,BU.last_rev _ _, ?_⟩
  rw[BU.drop_rev]
  refine⟨_,rfl,.inl ⟨rfl,_,SqL.of A2⟩,pl,_,_,rfl,rfl,A2,BU.last_rev _ _, ?_⟩
  rw[BU.drop_rev,V6]
  have t2:BU.Tups H1 (upd H1 pl (.lst ws2.reverse)):=.lst hpl1 _
  have b2:But pl H (upd H1 pl (.lst ws2.reverse)):=b1.trans (V4 _)
  have hpl2:(upd H1 pl (.lst ws2.reverse)) pl=some (.lst ws2.reverse):=A2
  generalize upd H1 pl (.lst ws2.reverse)=H2 at t2 b2 hpl2⊢
  have fin:∀(H5:Hp) (m lp r:Addr) (t:Tm),Same H2 H5->TmAt H5 t (.ref m)->H5 lp=some (.lst [.ref py,.ref px])->H5 r=some (.tup [.ref m,.ref lp])->Sh.OkT t->t.depth=1+max ky.depth kx.depth->Sh.wt t<=Sh.wt ky+Sh.wt kx+31->t.size=1+ky.size+kx.size->(kind=5->Sh.wt t<=Sh.wt ky+Sh.wt kx+9)->Q (.ref r) H5:=λH5 m lp r t sm hm hlp hr0 ok hdep hwt hsz' h5=>by
   have t5:=t2.trans (BU.tups_of sm)
   exact q r m lp [.ref py,.ref px] ws2 [ky,kx] t f2 _ (b2.trans (Same.but sm)) hr0 hlp (.cons (t5 _ _ hpy) (hty.mono t5) hdy (.cons (t5 _ _ hpx) (htx.mono t5) hdx .nil)) (by simp)
    hm ok (by simp only[depths];omega) (by simp only[N1,map_cons,map_nil,sum_cons,sum_nil];omega) (by simp only[sizes];omega) (sm _ _ hpl2) (hw1.mono t5) (by simp only[N1,map_cons,map_nil,sum_cons,sum_nil];omega) (by simp only[sizes];omega) (by simp only[length_cons,length_nil];omega) (λe=>⟨rfl,by have:=h5 e;simp only[N1,map_cons,map_nil,sum_cons,sum_nil];omega⟩)
  refine⟨_,rfl,.inl ⟨rfl,⟨_,rfl,W9 (λc=> ?_) (λc=> ?_)⟩⟩⟩
  ·refine⟨_,rfl,_,rfl,(ixT (t2 _ _ hpy) rfl ⟨_,rfl,(ixT (t2 _ _ hpx) rfl ⟨z4,λm hm=>⟨_,rfl,_,rfl,z2,λlp hlp=>⟨z2,λr hr0=> ?_⟩⟩⟩)⟩)⟩
   have s4:=A6 hm (.tup [.str "let",.str (tx nm),.ref ay,.ref ax])
   have s5:=A6 hlp (.lst [.ref py,.ref px])
   have s6:=A6 hr0 (.tup [.ref m,.ref lp])
   have k10:kind=10:=by have:=of_decide_eq_true c;injection this
   have t5:=t2.trans (BU.tups_of (s4.trans (s5.trans s6)))
   exact fin _ m lp r (.let_ nm ky kx) (s4.trans (s5.trans s6)) (.let_ (s6 _ _ (s5 _ _ A2)) (hty.mono t5) (htx.mono t5)) (s6 _ _ A2) A2 (by unfold Sh.OkT;rw[Sh.Ok];exact⟨IY hnm,hdy.1,hdx.1⟩) (by simp only[Tm.depth];omega) (by simp only[Sh.wt];omega) (by simp only[Tm.size];omega) (λe=>by omega)
  refine⟨_,rfl,.inl ⟨rfl,⟨_,rfl,W9 (λc=> ?_) (λc=> ?_)⟩⟩⟩
  ·refine⟨_,rfl,(ixT (t2 _ _ hpy) rfl ⟨_,rfl,(ixT (t2 _ _ hpx) rfl ⟨z3,λm hm=>⟨_,rfl,_,rfl,z2,λlp hlp=>⟨z2,λr hr0=> ?_⟩⟩⟩)⟩)⟩
   have s4:=A6 hm (.tup [.str "do",.ref ay,.ref ax])
   have s5:=A6 hlp (.lst [.ref py,.ref px])
   have s6:=A6 hr0 (.tup [.ref m,.ref lp])
   have k11:kind=11:=by have:=of_decide_eq_true c;injection this
   have t5:=t2.trans (BU.tups_of (s4.trans (s5.trans s6)))
   exact fin _ m lp r (.do_ ky kx) (s4.trans (s5.trans s6)) (.do_ (s6 _ _ (s5 _ _ A2)) (hty.mono t5) (htx.mono t5)) (s6 _ _ A2) A2 (by unfold Sh.OkT;rw[Sh.Ok];exact⟨hdy.1,hdx.1⟩) (by simp only[Tm.depth];omega) (by simp only[Sh.wt];omega) (by simp only[Tm.size];omega) (λe=>by omega)
  ·refine⟨_,rfl,⟨_,_,rfl,rfl,(by decide:(0:Int)<7), ?_⟩⟩
   obtain⟨c7,hc7,hs7⟩:=ZF (l:=[60,61,58,43,45,42,47]) (z:=("<=:+-*/":Str)) (by decide +kernel) (i:=cell%7) (Int.emod_nonneg _ (by decide)) (Int.lt_of_lt_of_le (Int.emod_lt_of_pos _ (by decide)) (by decide))
   refine⟨_,_,c7,rfl,rfl,(by decide),hc7, ?_⟩
   refine⟨_,rfl,(ixT (t2 _ _ hpy) rfl ⟨_,rfl,(ixT (t2 _ _ hpx) rfl ⟨z4,λm hm=>⟨_,rfl,_,rfl,z2,λlp hlp=>⟨z2,λr hr0=> ?_⟩⟩⟩)⟩)⟩
   have s4:=A6 hm (.tup [.str "two",.str ⟨#[c7]⟩,.ref ay,.ref ax])
   have s5:=A6 hlp (.lst [.ref py,.ref px])
   have s6:=A6 hr0 (.tup [.ref m,.ref lp])
   have t5:=t2.trans (BU.tups_of (s4.trans (s5.trans s6)))
   have hs8: [c7]∈ [wLt,wEq,U6,DN,AC,AD,DM]:=by
    have all:∀c∈ [60,61,58,43,45,42,47],[c]∈ [wLt,wEq,U6,DN,AC,AD,DM]:=by decide
    exact all c7 hs7
   exact fin _ m lp r (.two [c7] ky kx) (s4.trans (s5.trans s6)) (.two (s6 _ _ (s5 _ _ A2)) (hty.mono t5) (htx.mono t5)) (s6 _ _ A2) A2 (by unfold Sh.OkT;rw[Sh.Ok];exact⟨hs8,hdy.1,hdx.1⟩) (by simp only[Tm.depth];omega) (by simp only[Sh.wt];omega) (by simp only[Tm.size];omega) (λe=>by simp only[Sh.wt];omega)
end
end Gn
end RD
namespace RD
open PySem L2
namespace Gn
seal PE PT PW PA PS PSs PTs PI PG PGs PO
abbrev s_law_added:Stmt:=RD.top 48
abbrev s_law_term:Stmt:=RD.top 49
abbrev GC:List Str:=["_law_pile","_law_kind","_law_cell","_law_shift","_law_made","_law_parts","_law_depth"]
theorem sc_law_added:FnScope GC q7L (A5 s_law_added):=fS
abbrev SK:List Str:=["_law_cells","_law_shift","_law_pile","_law_cell","_law_kind"]
theorem sc_law_term:FnScope SK q2L (A5 s_law_term):=fS
theorem Pi.depths{H:Hp}{qs:List V}{g:List Tm}(h:Pi H qs g):∃ns:List Int,ns.length=qs.length/\(∀(i:Nat) (x:V),qs[i]? =some x->∃p t n,x=.ref p/\H p=some (.tup [.ref t,.int n])/\ns[i]? =some n)/\(∀a∈ns,a<=(RD.depths g:Nat))/\(g.length≠0->((RD.depths g:Nat):Int)∈ns):=by
 induction h with
 |nil=>exact⟨[],rfl,by simp,by simp,by simp⟩
 | @cons p a vs k r hp ht hd hr ih=>
  obtain⟨ns,h1,h2,h3,h4⟩:=ih
  refine⟨((k.depth:Nat):Int)::ns,by simp[h1],λi x e=> ?_,λa ha=> ?_,λ_=> ?_⟩
  ·cases i with
   |zero=>simp at e;subst e;exact⟨p,a,_,rfl,hp,rfl⟩
   |succ i=>exact h2 i x (by simpa using e)
  ·rw[RD.depths]
   rcases cZ ha with rfl|ha
   ·omega
   ·have:=h3 a ha;omega
  ·rw[RD.depths]
   by_cases hr0:r.length=0
   ·have:r=[]:=length_eq_zero_iff.mp hr0
    subst this
    rw[RD.depths,Nat.max_eq_left (zero_le _)]
    exact mem_cons_self
   ·by_cases hm:k.depth<=RD.depths r
    ·rw[Nat.max_eq_right hm];exact mem_cons_of_mem _ (h4 hr0)
    ·rw[Nat.max_eq_left (by omega)];exact mem_cons_self
section
variable{P:Program}{w:World}{K:FZ}{mg:Str->Option Value}{base:Heap}{f LM QE NV:Addr}{fd LH QO NK:FuncData}
inductive spAddedW(vs:List V)(H:Hp)(Q:VK):Prop
 |mk:∀(pl:Addr) (kind cell sh:Int) (ws:List V) (f:List Tm),(vs=[.ref pl,.int kind,.int cell,.int sh])->(H pl=some (.lst ws.reverse))->(Pi H ws f)->(f.length<=200)->(1<=f.length)->((f.length=1->7<=kind/\kind<=9))->(∀(p:Addr) (ws':List V) (h:Tm) (rest:List Tm) (H':Hp),But pl H H'->H' pl=some (.lst ws'.reverse)->Pi H' (.ref p::ws') (h::rest)->Sh.wt h+N1 rest<=N1 f+31->h.size+sizes rest<=sizes f+1->rest.length+1<=f.length->(kind=5->rest.length+2<=f.length/\Sh.wt h+N1 rest<=N1 f+9)->Q (.ref p) H')->spAddedW vs H Q
def UA:Sp:=λvs H Q _=>spAddedW vs H Q
theorem ok_law_added(F:Fun K "_law_added" "_law_added" s_law_added f fd)(B:K15.NoG mg)(BB:Cn P w K mg base CX0 2 "_law_put_on" q7L bIZ):
  FnOk P w K mg base CX0 3 f fd q7L UA:=by
 obtain⟨LM,LH,BB,LJ,LK,LO⟩:=BB
 refine F.ok sc_law_added (λvs H Q E h=> ?_) (λcdv A outer s H vs Q E hr h=> ?_)
 ·obtain⟨pl,kind,cell,sh,ws,f,rfl,_⟩:=h
  rfl
 obtain⟨pl,kind,cell,sh,ws,f,rfl,hpl,hw,hsz,hlen,hone,q⟩:=h
 have nd:=sc_law_added.nd
 have hu:=hr.units0
 have z2:(2:Nat)<=sizeLine:=by decide
 refine⟨_,(A1 (MV (C3 BB (hr.mono (by omega)) rfl LO LK LJ .nil C6 (A0 (pv 0) (A0 (pv 1) (A0 (pv 2) (A0 (pv 3) A3))))) (cnZ rfl (NZ (BG (i:=4) nd rfl (Or.inl rfl)) (NZ (BG (i:=5) nd rfl (Or.inl rfl)) bwZ))))
   (A1 (B3 (i:=6) nd rfl (Or.inl rfl) (A8 D3 A4 (C8 (dKZ (K:=K) rfl) rfl B.max_ cKZ (A0 (EE (cS (N:=GC) (sc:=A5 s_law_added) (caps:=[]) (ns:=[])) rfl rfl rfl (EN (K:=K) (pv 5)) (λ_ _ _ _ _=>X8) (λ_ _ _ _ _=>(ixE K w (pv 0) A4))) A3))))
   (A1 (C5 (B0 X3 (pv 6) A4 rfl) (A7 (B2 (ixE K w (pv 5) A4))) B5)
   (A7 (B2 (E1 (A0 (pv 4) (A0 (pv 6) A3)))))))), ?_⟩
 refine⟨_,rfl,_,rfl,_,rfl,_,rfl,pl,kind,cell,sh,ws,f,rfl,hpl,hw,hsz,hlen,hone,λr made pl2 qs ws' g t rest H' b hr' hpl2 hg hg1 hmade hok hd hwt hsz' hpl' hrest e1 es e2 e3=> ?_⟩
 refine⟨r,_,rfl,SqT.of hr',rfl,_,_,rfl,_,_,rfl,rfl, ?_⟩
 obtain⟨ns,hn1,hn2,hn3,hn4⟩:=hg.depths
 have hql:qs.length<=200:=by
  have:=hg.len
  omega
 refine⟨_,rfl,pl2,rfl,⟨qs,SqL.of hpl2⟩,LB (xs:=qs) (λi ys H1=>H'=H1/\ys=(ns.take i).map V.int) ⟨rfl,rfl⟩ ?_ ?_ ?_⟩
 ·rintro i ys H1 hi ⟨rfl,rfl⟩
  refine⟨SqL.of hpl2, ?_⟩
  rw[length_map,length_take]
  have:(200:Nat)<=sizeLine:=by decide
  omega
 ·rintro i x ys H1 hx ⟨rfl,rfl⟩
  obtain⟨p,t,n,rfl,hp,hn⟩:=hn2 i x hx
  refine BH ?_
  refine⟨_,rfl,(ixT hp rfl ⟨rfl, ?_⟩)⟩
  rw[take_add_one,hn,map_append];rfl
 rintro ys H1 ⟨rfl,rfl⟩ D hD
 rw[<-hn1,take_length]
 have sD:=A6 hD (.lst (ns.map V.int))
 refine .inr ⟨D,ns,rfl,SqL.of A2,(by rw[hn1,hg.len];exact hg1),λM hM hMx=> .inl ⟨_,_,rfl,rfl, ?_⟩⟩
 have hMd:M=(RD.depths g:Nat):=Int.le_antisymm (hn3 M hM) (hMx _ (hn4 (by omega)))
 subst hMd
 have bD:But pl H (upd H' D (.lst (ns.map V.int))):=b.trans (Same.but sD)
 have tD:=BU.tups_of sD
 generalize upd H' D (.lst (ns.map V.int))=H2 at sD bD tD⊢
 refine⟨_,rfl,_,_,rfl,rfl,_,rfl,W9 (λc=> ?_) (λc=> ?_)⟩
 ·cases hg with
  |nil=>simp at hg1
  | @cons p a qs' k g' hp ht hk hq=>
   refine⟨_,rfl,(ixL (sD _ _ hpl2) (V5 (j:=0) rfl) ?_)⟩
   have ew:N1 (k::g')=Sh.wt k+N1 g':=rfl
   have esz:sizes (k::g')=k.size+sizes g':=by rw[sizes]
   have el:(k::g').length=g'.length+1:=rfl
   refine q p ws' k rest H2 bD (sD _ _ hpl') (.cons (tD _ _ hp) (ht.mono tD) hk (hrest.mono tD)) (by omega) (by omega) (by omega) (λe=>⟨by have:=(e3 e).1;omega,by omega⟩)
 ·have c':¬(16:Int)<1+(RD.depths g:Nat):=of_decide_eq_false (Bool.eq_false_iff.mpr c)
  refine⟨_,rfl,_,rfl,z2,λp hp=> ?_⟩
  have s3:=A6 hp (.tup [.ref made,.int (1+(RD.depths g:Nat))])
  have t3:=tD.trans (BU.tups_of s3)
  refine q p ws' t rest _ (bD.trans (Same.but s3)) (s3 _ _ (sD _ _ hpl')) (.cons ?_ (hmade.mono t3) ⟨hok,by omega⟩ (hrest.mono t3)) (by omega) (by omega) (by omega) (λe=>⟨by have:=(e3 e).1;omega,by have:=(e3 e).2;omega⟩)
  rw[hd]
  have e:(1:Int)+(RD.depths g:Nat)=((1+RD.depths g:Nat):Int):=by omega
  rw[<-e]
  exact A2
inductive spTermW (K:FZ) (vs:List V) (H:Hp) (Q:VK):Prop
 |mk:∀(cs:Addr) (ns:List Int) (sh:Int),(vs=[.ref cs,.int sh])->(SqL K H cs (ns.map V.int))->(ns.length<=40)->(∀(a:Addr) (t:Tm) (H':Hp),Same H H'->TmAt H' t (.ref a)->Sh.OkT t->t.depth<=16->Sh.wt t<=40*ns.length+2->t.size<=2*ns.length+1->Q (.ref a) H')->spTermW K vs H Q
def AB(K:FZ):Sp:=λvs H Q _=>spTermW K vs H Q
theorem ok_law_term(F:Fun K "_law_term" "_law_term" s_law_term f fd)(B:K15.NoG mg)(DT:Cn P w K mg base CX0 2 "_law_atom" q0L atZ)
  (W4:Cn P w K mg base CX0 3 "_law_added" q7L UA):
  FnOk P w K mg base CX0 4 f fd q2L (AB K):=by
 obtain⟨QE,QO,DT,QX,QN,QV⟩:=DT
 obtain⟨NV,NK,W4,CB,CF,BZ⟩:=W4
 refine F.ok sc_law_term (λvs H Q E h=> ?_) (λcdv A outer s H vs Q E hr h=> ?_)
 ·obtain⟨cs,ns,sh,rfl,_⟩:=h
  rfl
 obtain⟨cs,ns,sh,rfl,hS,hn,q⟩:=h
 have nd:=sc_law_term.nd
 have hu:=hr.units0
 have z1:(1:Nat)<=sizeLine:=by decide
 have z2:(2:Nat)<=sizeLine:=by decide
 have z200:(200:Nat)<sizeLine:=by decide
 refine⟨_,(A1 (B3 (i:=2) nd rfl (Or.inl rfl) (J5 A3))
   (A1 (IA PassesOwn.never rfl (EN (K:=K) (pv 0)) (BG (i:=3) nd rfl (Or.inl rfl)) (A1 (B3 (i:=4) nd rfl (Or.inl rfl) (A8 D1 (pv 3) A4))
   (A7 (L6 (C5 (PW.pt (HZ (PW.pt (T4 (B0 GD (pv 4) A4 rfl) (S0 (B0 GD (C8 (P6 (K:=K)) rfl B.len_ M3 (A0 (pv 2) A3)) A4 rfl)))) (HZ (B0 (kEq (K:=K) hu) (C8 (P6 (K:=K)) rfl B.len_ M3 (A0 (pv 2) A3)) A4 rfl) (HZ (PW.pt (T4 (B0 (kEq (K:=K) hu) (C8 (P6 (K:=K)) rfl B.len_ M3 (A0 (pv 2) A3)) A4 rfl) (S0 (B0 X3 (pv 4) A4 rfl)))) (MB (B0 (kEq (K:=K) hu) (pv 4) A4 rfl)))))) (A7 (E3 (CP (K:=K) PySem.F.plainAttrs_list PySem.F.slot_list_append PySem.F.type_list_append Q0 (pv 2) (A0 (E1 (A0 (C3 DT (hr.mono (by omega)) rfl QV QN QX .nil C6 (A0 (A8 D8 (pv 3) A4) (A0 (pv 1) A3))) (A0 A4 A3))) A3)))) (A7 (L6 (C5 (PW.pt (T4 (B0 (kEq (K:=K) hu) (C8 (P6 (K:=K)) rfl B.len_ M3 (A0 (pv 2) A3)) A4 rfl) (S0 (B0 GD (pv 4) A4 rfl)))) (A7 (E3 (CP (K:=K) PySem.F.plainAttrs_list PySem.F.slot_list_append PySem.F.type_list_append Q0 (pv 2) (A0 (C3 W4 (hr.mono (by omega)) rfl BZ CF CB .nil C6 (A0 (pv 2) (A0 A4 (A0 (A8 D8 (pv 3) A4) (A0 (pv 1) A3))))) A3)))) (A7 (E3 (CP (K:=K) PySem.F.plainAttrs_list PySem.F.slot_list_append PySem.F.type_list_append Q0 (pv 2) (A0 (C3 W4 (hr.mono (by omega)) rfl BZ CF CB .nil C6 (A0 (pv 2) (A0 (pv 4) (A0 (A8 D8 (pv 3) A4) (A0 (pv 1) A3))))) A3))))))))))))
   (A1 (O4 PassesOwn.never (B0 X3 (C8 (P6 (K:=K)) rfl B.len_ M3 (A0 (pv 2) A3)) A4 rfl) (A7 (E3 (CP (K:=K) PySem.F.plainAttrs_list PySem.F.slot_list_append PySem.F.type_list_append Q0 (pv 2) (A0 (C3 W4 (hr.mono (by omega)) rfl BZ CF CB .nil C6 (A0 (pv 2) (A0 A4 (A0 (C8 (P6 (K:=K)) rfl B.len_ M3 (A0 (pv 2) A3)) (A0 (pv 1) A3))))) A3)))))
   (A1 (C5 (B0 (kEq (K:=K) hu) (C8 (P6 (K:=K)) rfl B.len_ M3 (A0 (pv 2) A3)) A4 rfl) (A7 (B2 (E1 (A0 A9 A3)))) B5)
   (A7 (B2 (ixE K w (ixE K w (pv 2) A4) A4))))))), ?_⟩
 refine⟨zero_le _,λpl hpl0=> ?_⟩
 have s0:=A6 hpl0 (.lst [])
 have but_same:∀ {H1 H2:Hp},Same H H1->But pl H1 H2->Same H H2:=λs b c o e=>b c o (B8 e hpl0) (s c o e)
 refine⟨_,rfl,cs,rfl,⟨_,s0.seq hS⟩,HN (xs:=ns.map V.int) (λi σ H'=>∃z4 z5 ws f,σ=[some (.ref cs),some (.int sh),some (.ref pl),z4,z5]/\Same H H'/\H' pl=some (.lst ws.reverse)/\Pi H' ws f/\f.length<=i/\N1 f<=31*i/\sizes f<=i) ?_ ?_ ?_ ?_⟩
 ·exact⟨none,none,[],[],rfl,s0,A2,.nil,le_refl _,le_refl _,le_refl _⟩
 ·rintro i σ H' _ ⟨z4,z5,ws,f,rfl,sm,_⟩
  exact sm.seq hS
 ·rintro i x σ H' hx ⟨z4,z5,ws,f,rfl,sm,hpl,hw,hfl,hfw,hfs⟩
  have hi:i<40:=by
   have:=(List.getElem?_eq_some_iff.mp hx).1
   rw[length_map]at this
   omega
  obtain⟨c,rfl⟩:∃c:Int,x=.int c:=by
   rw[getElem?_map]at hx
   cases h:ns[i]? with
   |none=>rw[h]at hx;cases hx
   |some c=>rw[h]at hx;exact⟨c,(Option.some.inj hx).symm⟩
  have hk0:0<=c%13:=Int.emod_nonneg _ (by decide)
  have hk1:c%13<13:=Int.emod_lt_of_pos _ (by decide)
  have hwl:ws.reverse.length=f.length:=by rw[length_reverse,hw.len]
  refine⟨_,rfl,⟨_,_,rfl,rfl,(by decide:(0:Int)<13), ?_⟩⟩
  refine⟨_, ?_,λ_ _ h=>h⟩
  refine Dec.or (Dec.and (λQ hq=>⟨_,rfl,_,_,rfl,rfl,_,rfl,hq⟩) (λQ hq=>⟨_,rfl,_,_,rfl,.inl ⟨_,SqL.of hpl,rfl⟩,_,_,rfl,rfl,_,rfl,hq⟩))
   (Dec.or (λQ hq=>⟨_,rfl,_,_,rfl,.inl ⟨_,SqL.of hpl,rfl⟩,.inl ⟨rfl,_,rfl,hq⟩⟩) (Dec.or (Dec.and (λQ hq=>⟨_,rfl,_,_,rfl,.inl ⟨_,SqL.of hpl,rfl⟩,.inl ⟨rfl,_,rfl,hq⟩⟩) (λQ hq=>⟨_,rfl,_,_,rfl,rfl,_,rfl,hq⟩)) (λQ hq=>⟨_,rfl,.inl ⟨rfl,_,rfl,hq⟩⟩))) _ ?_
  refine W9 (λt1=> ?_) (λt1=> ?_)
  ·refine⟨_,rfl,.inl ⟨rfl,_,SqL.of hpl⟩,⟨_,rfl,⟨_,_,rfl,rfl,⟨by decide,by decide⟩,⟨_,rfl,_,_,rfl,λa t H2 s2 hfa hok hdp hwt hsz=>⟨z2,λp hp=>⟨pl,_,_,rfl,rfl,(A6 hp _) _ _ (s2 _ _ hpl),(by rw[hwl];omega), ?_⟩⟩⟩⟩⟩⟩
   have s3:=A6 hp (.tup [.ref a,.int 1])
   have hpl3:=s3 _ _ (s2 _ _ hpl)
   have t4:=((BU.tups_of (s2.trans s3)).trans (.lst hpl3 (.lst (ws.reverse++ [.ref p]))))
   have ew:N1 (t::f)=Sh.wt t+N1 f:=rfl
   have esz:sizes (t::f)=t.size+sizes f:=by rw[sizes]
   refine⟨_,_,.ref p::ws,t::f,rfl,but_same (sm.trans (s2.trans s3)) (V4 _), ?_,Pi.cons (a:=a) ?_ ?_ ⟨hok,by omega⟩ (hw.mono t4),by rw[length_cons];omega,by omega,by omega⟩
   ·rw[reverse_cons];exact A2
   ·rw[hdp];exact(BU.Tups.lst hpl3 _) _ _ A2
   ·exact hfa.mono ((BU.tups_of s3).trans (.lst hpl3 _))
  ·simp only[Bool.or_eq_true,Bool.and_eq_true,decide_eq_true_eq,V.int.injEq,not_or,not_and]at t1
   rw[hwl]at t1
   obtain⟨t1a,t1b,t1c,t1d⟩:=t1
   have fin:∀ {z4 z5:Option V} {p:Addr} {ws':List V} {h:Tm} {rest:List Tm} {H2:Hp},But pl H' H2->H2 pl=some (.lst ws'.reverse)->Pi H2 (.ref p::ws') (h::rest)->Sh.wt h+N1 rest<=N1 f+31->h.size+sizes rest<=sizes f+1->rest.length+1<=f.length->
     ∃z4' z5' ws f,[some (.ref cs),some (.int sh),some (.ref pl),z4,z5]=[some (.ref cs),some (.int sh),some (.ref pl),z4',z5']/\Same H (upd H2 pl (.lst (ws'.reverse++ [.ref p])))/\(upd H2 pl (.lst (ws'.reverse++ [.ref p]))) pl=some (.lst ws.reverse)/\Pi (upd H2 pl (.lst (ws'.reverse++ [.ref p]))) ws f/\f.length<=i+1/\N1 f<=31*(i+1)/\sizes f<=i+1:=
    λ{z4 z5 p ws' h rest H2} b2 hpl2 hw2 e1 e2 e3=>by
     have ew:N1 (h::rest)=Sh.wt h+N1 rest:=rfl
     have esz:sizes (h::rest)=h.size+sizes rest:=by rw[sizes]
     refine⟨z4,z5,.ref p::ws',h::rest,rfl,but_same (but_same sm b2) (V4 _), ?_,hw2.mono (.lst hpl2 _),by rw[length_cons];omega,by omega,by omega⟩
     rw[reverse_cons];exact A2
   have len2:∀ {p:Addr} {ws':List V} {h:Tm} {rest:List Tm} {H2:Hp},Pi H2 (.ref p::ws') (h::rest)->rest.length+1<=f.length->ws'.reverse.length<sizeLine:=λhw2 e2=>by
    cases hw2 with
    |cons _ _ _ hr2=>rw[length_reverse,hr2.len];omega
   refine⟨_, ?_,λ_ _ h=>h⟩
   refine Dec.and (λQ hq=>⟨_,rfl,_,_,rfl,.inl ⟨_,SqL.of hpl,rfl⟩,.inl ⟨rfl,_,rfl,hq⟩⟩) (λQ hq=>⟨_,rfl,_,_,rfl,rfl,_,rfl,hq⟩) _ ?_
   refine W9 (λt2=> ?_) (λt2=> ?_)
   ·refine⟨_,rfl,.inl ⟨rfl,_,SqL.of hpl⟩,_,rfl,⟨_,rfl,⟨_,_,rfl,rfl,⟨by decide,by decide⟩,⟨_,rfl,pl,7,_,_,ws,f,rfl,hpl,hw,by omega,by omega,λ_=>⟨by decide,by decide⟩,λp ws' h rest H2 b2 hpl2 hw2 e1 es e2 e3=>⟨pl,_,_,rfl,rfl,hpl2,len2 hw2 e2,fin b2 hpl2 hw2 e1 es e2⟩⟩⟩⟩⟩
   ·simp only[Bool.and_eq_true,decide_eq_true_eq,V.int.injEq,not_and]at t2
    rw[hwl]at t2
    refine⟨_,rfl,.inl ⟨rfl,_,SqL.of hpl⟩,_,rfl,_,rfl,⟨_,rfl,⟨_,_,rfl,rfl,⟨by decide,by decide⟩,⟨_,rfl,pl,_,_,_,ws,f,rfl,hpl,hw,by omega,by omega,λ_=>⟨?_, ?_⟩,λp ws' h rest H2 b2 hpl2 hw2 e1 es e2 e3=>⟨pl,_,_,rfl,rfl,hpl2,len2 hw2 e2,fin b2 hpl2 hw2 e1 es e2⟩⟩⟩⟩⟩
    ·omega
    ·omega
 ·rintro σ H' ⟨z4,z5,ws,f,rfl,sm,hpl,hw,hfl,hfw,hfs⟩
  rw[length_map]at hfl hfw hfs
  refine⟨λm σ H'=>∃z4 z5 ws f,σ=[some (.ref cs),some (.int sh),some (.ref pl),z4,z5]/\Same H H'/\H' pl=some (.lst ws.reverse)/\Pi H' ws f/\(N1 f+9*f.length<=40*ns.length/\sizes f+f.length<=2*ns.length)/\f.length=m,⟨f.length,z4,z5,ws,f,rfl,sm,hpl,hw,⟨by omega,by omega⟩,rfl⟩, ?_⟩
  clear hfl hfw hfs hw hpl sm
  rintro m σ H1 ⟨z4,z5,ws,f,rfl,sm,hpl,hw,⟨hf,hfs⟩,rfl⟩
  have hwl:ws.reverse.length=f.length:=by rw[length_reverse,hw.len]
  refine⟨_,rfl,_,_,rfl,.inl ⟨_,SqL.of hpl,rfl⟩,_,_,rfl,rfl,_,rfl,W9 (λc=> ?_) (λc=> ?_)⟩
  ·have c':(1:Int)<(ws.reverse.length:Nat):=of_decide_eq_true c
   rw[hwl]at c'
   refine⟨_,λ_ _ h=>h, ?_⟩
   refine⟨_,rfl,.inl ⟨rfl,_,SqL.of hpl⟩,_,rfl,_,rfl,_,_,rfl,.inl ⟨_,SqL.of hpl,rfl⟩,_,rfl,pl,5,_,_,ws,f,rfl,hpl,hw,by omega,by omega,λe=>by omega,λp ws' h rest H2 b2 hpl2 hw2 e1 es e2 e3=>⟨pl,_,_,rfl,rfl,hpl2, ?_, ?_⟩⟩
   ·cases hw2 with
    |cons _ _ _ hr2=>rw[length_reverse,hr2.len];omega
   ·have e4:=e3 rfl
    have ew:N1 (h::rest)=Sh.wt h+N1 rest:=rfl
    have esz:sizes (h::rest)=h.size+sizes rest:=by rw[sizes]
    have el:(h::rest).length=rest.length+1:=rfl
    refine⟨(h::rest).length,by omega,_,_,.ref p::ws',h::rest,rfl,but_same (but_same sm b2) (V4 _), ?_,hw2.mono (.lst hpl2 _),⟨by omega,by omega⟩,rfl⟩
    rw[reverse_cons];exact A2
  ·have c':¬(1:Int)<(ws.reverse.length:Nat):=of_decide_eq_false (Bool.eq_false_iff.mpr c)
   rw[hwl]at c'
   refine⟨_,rfl,_,_,rfl,.inl ⟨_,SqL.of hpl,rfl⟩,.inl ⟨rfl,_,rfl,W9 (λc2=> ?_) (λc2=> ?_)⟩⟩
   ·exact⟨z1,λp hp=>q p .non _ (sm.trans (A6 hp _)) (.non A2) (by unfold Sh.OkT;rw[Sh.Ok];trivial) (by decide) (by rw[Sh.wt];omega) (by rw[Tm.size];omega)⟩
   ·cases hw with
    |nil=>exact absurd rfl c2
    | @cons p a ws' k r hp ht hk hr'=>
     cases hr' with
     |cons _ _ _ _=>simp only[length_cons]at c';omega
     |nil=>
      have ew:N1 [k]=Sh.wt k:=by simp[N1]
      have esz:sizes [k]=k.size:=by rw[sizes,sizes];omega
      simp only[length_cons,length_nil]at hf hfs
      exact⟨_,rfl,(ixL hpl rfl (ixT hp rfl (q a k _ sm ht hk.1 hk.2 (by omega) (by omega))))⟩
end
end Gn
end RD
namespace RD
open PySem L2
namespace Gn
seal PE PT PW PA PS PSs PTs PI PG PGs PO
abbrev s_law_cell_at:Stmt:=RD.top 44
abbrev s_law_program:Stmt:=RD.top 50
abbrev JP:List Str:=["_law_script","_law_k"]
theorem sc_law_cell_at:FnScope JP bjZ (A5 s_law_cell_at):=fS
abbrev DP:List Str:=["_law_script","_law_most","_law_shift","_law_many","_law_program_here","_law_k","_law_size","_law_names","_law_body"]
theorem sc_law_program:FnScope DP cCZ (A5 s_law_program):=fS
theorem TZ:∀ {zs:List V},(∀v∈zs,∃i,v=V.int i)->∃ms:List Int,zs=ms.map V.int
 | [],_=>⟨[],rfl⟩
 |z::r,h=>by
  obtain⟨i,rfl⟩:=h z (mem_cons_self ..)
  obtain⟨ms,rfl⟩:=TZ λv hv=>h v (mem_cons_of_mem _ hv)
  exact⟨i::ms,rfl⟩
section
variable{P:Program}{w:World}{K:FZ}{mg:Str->Option Value}{base:Heap}{f U0 QL Z9:Addr}{fd U2 QR Z6:FuncData}
inductive spCellW(K:FZ)(vs:List V)(H:Hp)(Q:VK):Prop
 |mk:∀(a:Addr) (ns:List Int) (k:Int),(vs=[.ref a,.int k])->(SqL K H a (ns.map V.int))->(0<=k)->(∀n:Int,Q (.int n) H)->spCellW K vs H Q
def RX(K:FZ):Sp:=λvs H Q _=>spCellW K vs H Q
theorem ok_law_cell_at(F:Fun K "_law_cell_at" "_law_cell_at" s_law_cell_at f fd)(B:K15.NoG mg):FnOk P w K mg base CX0 1 f fd bjZ (RX K):=by
 refine F.ok sc_law_cell_at (λvs H Q E h=> ?_) (λcdv A outer s H vs Q E hr h=> ?_)
 ·obtain⟨a,ns,k,rfl,_⟩:=h
  rfl
 obtain⟨a,ns,k,rfl,hS,hk,q⟩:=h
 have nd:=sc_law_cell_at.nd
 refine⟨_,(A1 (C5 (B0 GD (pv 1) (C8 (P6 (K:=K)) rfl B.len_ M3 (A0 (pv 0) A3)) rfl) (A7 (B2 (ixE K w (pv 0) (pv 1)))) B5)
   (A7 (B2 A4))), ?_⟩
 refine⟨_,rfl,_,rfl,_,_,rfl,.inl ⟨_,hS,rfl⟩,_,_,rfl,rfl,_,rfl,W9 (λc=> ?_) (λc=> ?_)⟩
 ·have c':k<((ns.map V.int).length:Nat):=of_decide_eq_true c
  rw[length_map]at c'
  have hk':k.toNat<ns.length:=by omega
  have e:atI (ns.map V.int) ((k.toNat:Nat):Int)=some (.int ns[k.toNat]):=V5 (by rw[getElem?_map,List.getElem?_eq_getElem hk'];rfl)
  have ek:((k.toNat:Nat):Int)=k:=by omega
  rw[ek]at e
  exact⟨_,rfl,_,rfl,.inl ⟨_,_,_,_,rfl,rfl,hS,e,q _⟩⟩
 ·exact q 0
def FitG(d:Fd):Prop:=Sh.FOk K10.isNum K10.isName d/\Sh.wt d.body<=962/\d.body.size<=49
inductive spProgW (K:FZ) (vs:List V) (H:Hp) (Q:VK):Prop
 |mk:∀(a:Addr) (ns:List Int),(vs=[.ref a,.int 3])->(SqL K H a (ns.map V.int))->(ns.length<=63)->(∀(p:Addr) (us:List V) (fs:List Fd) (H':Hp),Same H H'->H' p=some (.tup us)->BU.All2 (FdAt H') fs us->(∀d∈fs,FitG d)->1<=fs.length->fs.length<=3->Q (.ref p) H')->spProgW K vs H Q
def YT(K:FZ):Sp:=λvs H Q _=>spProgW K vs H Q
theorem ok_law_program(F:Fun K "_law_program" "_law_program" s_law_program f fd)(B:K15.NoG mg)
  (K1:Cn P w K mg base CX0 1 "_law_name" q4L spName)
  (DS:Cn P w K mg base CX0 4 "_law_term" q2L (AB K))
  (K4:Cn P w K mg base CX0 1 "_law_cell_at" bjZ (RX K)):
  FnOk P w K mg base CX0 5 f fd cCZ (YT K):=by
 obtain⟨U0,U2,K1,S5,S4,S3⟩:=K1
 obtain⟨QL,QR,DS,QP,QG,QC⟩:=DS
 obtain⟨Z9,Z6,K4,Q5,Q6,Q7⟩:=K4
 refine F.ok sc_law_program (λvs H Q E h=> ?_) (λcdv A outer s H vs Q E hr h=> ?_)
 ·obtain⟨a,ns,rfl,_⟩:=h
  rfl
 obtain⟨a,ns,rfl,hS,hn,q⟩:=h
 have nd:=sc_law_program.nd
 have hu:=hr.units0
 refine⟨_,(A1 (B3 (i:=2) nd rfl (Or.inr rfl) (C3 K4 (hr.mono (by omega)) rfl Q7 Q6 Q5 .nil C6 (A0 (pv 0) (A0 A4 A3))))
   (A1 (B3 (i:=3) nd rfl (Or.inl rfl) (A8 D3 A4 (A8 D1 (C3 K4 (hr.mono (by omega)) rfl Q7 Q6 Q5 .nil C6 (A0 (pv 0) (A0 A4 A3))) (pv 1))))
   (A1 (B3 (i:=4) nd rfl (Or.inl rfl) (J5 A3))
   (A1 (IA PassesOwn.never rfl (AQ rfl B.range_ (A0 (pv 3) A3)) (BG (i:=5) nd rfl (Or.inr rfl)) (A1 (B3 (i:=6) nd rfl (Or.inl rfl) (A8 D1 (A8 D8 (A8 D8 (C3 K4 (hr.mono (by omega)) rfl Q7 Q6 Q5 .nil C6 (A0 (pv 0) (A0 A4 A3))) A4) (A8 D3 (pv 5) A4)) A4))
   (A1 (U8 (i:=7) nd rfl rfl (cS (N:=DP) (sc:=A5 s_law_program) (caps:=[5,2]) (ns:=q4L)) rfl rfl rfl (AQ rfl B.range_ (A0 (pv 6) A3)) (λ_ _ _ _ _=>X8) (λ_ _ _ _ _=>(C3 K1 (hr.mono (by omega)) rfl S3 S4 S5 .nil C6 (A0 (A8 D3 (pv 0) (pv 1)) (A0 (A8 D3 (pv 2) (pv 0)) A3)))))
   (A1 (B3 (i:=8) nd rfl (Or.inl rfl) (C3 DS (hr.mono (by omega)) rfl QC QG QP .nil C6 (A0 (N9 (kSl (K:=K)) (bAZ (K:=K) (pv 0) (A8 D3 A4 (pv 5)) (pv 3)) T5 (O2 A4)) (A0 (pv 2) A3))))
   (A7 (E3 (CP (K:=K) PySem.F.plainAttrs_list PySem.F.slot_list_append PySem.F.type_list_append Q0 (pv 4) (A0 (E1 (A0 A9 (A0 (C3 K1 (hr.mono (by omega)) rfl S3 S4 S5 .nil C6 (A0 (pv 5) (A0 (A8 D3 (pv 2) A4) A3))) (A0 (L9 (DG (K:=K)) rfl B.tuple_ Z1 (A0 (pv 7) A3)) (A0 (pv 8) A3))))) A3))))))))
   (A7 (B2 (L9 (DG (K:=K)) rfl B.tuple_ Z1 (A0 (pv 4) A3)))))))), ?_⟩
 refine⟨_,rfl,a,ns,0,rfl,hS,by decide,λshift=> ?_⟩
 refine⟨_,rfl,a,ns,1,rfl,hS,by decide,λc1=>⟨_,rfl,_,_,rfl,rfl,(by decide:(0:Int)<3),.inl ⟨_,_,rfl,rfl, ?_⟩⟩⟩
 have h30:=Int.emod_nonneg c1 (show(3:Int)≠0 by decide)
 have h31:=Int.emod_lt_of_pos c1 (show(0:Int)<3 by decide)
 obtain⟨many,hmany⟩:=Int.eq_ofNat_of_zero_le (show 0<=1+c1%3 by omega)
 rw[hmany]
 have hm1:1<=many:=by omega
 have hm3:many<=3:=by omega
 clear hmany h30 h31
 refine⟨zero_le _,λpl hpl0=> ?_⟩
 have s0:=A6 hpl0 (.lst [])
 have but_same:∀ {H1 H2:Hp},Same H H1->But pl H1 H2->Same H H2:=λs b c o e=>b c o (B8 e hpl0) (s c o e)
 have z4:(4:Nat)<=sizeLine:=by decide
 refine⟨_,rfl,(many:Nat),rfl,by omega,by omega,XT (n:=many) (lo:=0) (λi σ H'=>∃(z5 z6 z7 z8:Option V) (us:List V) (fs:List Fd),σ=[some (.ref a),some (.int 3),some (.int shift),some (.int (many:Nat)),some (.ref pl),z5,z6,z7,z8]/\Same H H'/\H' pl=some (.lst us)/\BU.All2 (FdAt H') fs us/\(∀d∈fs,FitG d)/\fs.length=i) ?_ ?_ ?_⟩
 ·exact⟨none,none,none,none,[],[],rfl,s0,A2,.nil,(λd h=>nomatch h),rfl⟩
 ·rintro i σ H1 hi ⟨z5,z6,z7,z8,us,fs,rfl,sm,hpl,hus,hf,hl⟩
  refine⟨_,rfl,a,ns,1,rfl,sm.seq hS,by decide,λc2=>⟨_,_,rfl,rfl,⟨by decide,by decide⟩,_,rfl,.inl ⟨_,_,rfl,rfl,_,_,rfl,rfl,⟨by omega,by omega⟩,_,_,rfl,rfl,(by decide:(0:Int)<5), ?_⟩⟩⟩
  have h50:=Int.emod_nonneg (c2/15/(0+(i:Int)+1)) (show(5:Int)≠0 by decide)
  have h51:=Int.emod_lt_of_pos (c2/15/(0+(i:Int)+1)) (show(0:Int)<5 by decide)
  obtain⟨sz,hsz⟩:=Int.eq_ofNat_of_zero_le h50
  rw[hsz]at h51⊢
  have hs4:sz<=4:=by omega
  clear hsz h50 h51
  refine⟨_,rfl,(sz:Nat),rfl,by omega,by omega,BN (n:=sz) (lo:=0) (λj ys H2=>∃xs:List Wd,Same H1 H2/\ys=wds xs/\xs.length=j/\∀x∈xs,K10.isName x=true) ⟨[],Same.refl _,rfl,rfl,(λx h=>nomatch h)⟩ ?_ ?_ ?_⟩
  ·rintro j ys H2 hj ⟨xs,s2,rfl,hxl,_⟩
   rw[length_map,hxl]
   exact le_trans hj (le_trans hs4 z4)
  ·rintro j ys H2 hj ⟨xs,s2,rfl,hxl,hx⟩
   refine BH ?_
   refine⟨_,rfl,_,rfl,.inl ⟨_,_,rfl,rfl,_,rfl,_,rfl,.inl ⟨_,_,rfl,rfl,_,_,rfl,by omega,λx H3 hxn s3=>⟨xs++ [x],s2.trans s3,by simp[wds],by simp[hxl],λy hy=> ?_⟩⟩⟩⟩
   rcases mem_append.mp hy with h'|h'
   ·exact hx y h'
   ·rw[sZ h'];exact hxn
  rintro ys H2 ⟨xs,s2,rfl,hxl,hx⟩ nl hnl
  have s3:=A6 hnl (.lst (wds xs))
  have hnl3:(upd H2 nl (.lst (wds xs))) nl=some (.lst (wds xs)):=A2
  generalize upd H2 nl (.lst (wds xs))=H3 at s3 hnl3⊢
  have sm3:=sm.trans (s2.trans s3)
  refine⟨_,rfl,_,rfl,.inl ⟨_,_,rfl,rfl,_,rfl,_,(many:Nat),a,ns.map V.int,rfl,rfl,by omega,rfl,sm3.seq hS,λp zs hz hzl hp=> ?_⟩⟩
  obtain⟨ms,rfl⟩:=TZ (zs:=zs) λv hv=>by
   obtain⟨i,_,e⟩:=mem_map.mp (hz v hv)
   exact⟨i,e.symm⟩
  rw[length_map,length_map]at hzl
  have s4:=A6 hp (.lst (ms.map V.int))
  refine⟨24,rfl,.inl ⟨p,_,rfl,SqL.of A2,λp2 hp2=> ?_⟩⟩
  have ec:Z0 (ms.map V.int) none (some 24)=(ms.take 24).map V.int:=by
   have:=awZ (ms.map V.int) 24
   rw[List.map_take];exact this
  rw[ec]
  have s5:=A6 hp2 (.lst ((ms.take 24).map V.int))
  have ht24:(ms.take 24).length<=24:=by rw[length_take];omega
  refine⟨_,rfl,p2,ms.take 24,shift,rfl,SqL.of A2,by omega,λb t H5 s6 htb hok hdp hwt hsz=> ?_⟩
  have sm5:=s4.trans (s5.trans s6)
  have hpl5:=sm5 _ _ (s3 _ _ (s2 _ _ hpl))
  refine⟨_,rfl,.inl ⟨rfl,_,SqL.of hpl5⟩,_,rfl,_,rfl,.inl ⟨_,_,rfl,rfl,_,_,rfl,by omega,λnm H6 hnm s7=>⟨_,rfl,nl,_,rfl,.inl ⟨SqL.of (s7 _ _ (sm5 _ _ hnl3)),λtl htl=>⟨_,rfl,z4,λq0 hq0=> ?_⟩⟩⟩⟩⟩
  have s8:=A6 htl (.tup (wds xs))
  have s9:=A6 hq0 (.tup [.str "def",.str (tx nm),.ref tl,.ref b])
  have hpl9:=s9 _ _ (s8 _ _ (s7 _ _ hpl5))
  have sm9:=sm3.trans (sm5.trans (s7.trans (s8.trans s9)))
  have smU:=s2.trans (s3.trans (sm5.trans (s7.trans (s8.trans s9))))
  refine⟨pl,us,_,rfl,rfl,hpl9, ?_, ?_⟩
  ·rw[<-hus.len,hl]
   exact Nat.lt_of_lt_of_le (show i<4 by omega) z4
  ·have tU:=(BU.tups_of smU).trans (BU.Tups.lst hpl9 (.lst (us++ [.ref q0])))
   have tB:=(BU.tups_of (s7.trans (s8.trans s9))).trans (BU.Tups.lst hpl9 (.lst (us++ [.ref q0])))
   have tL:=BU.Tups.lst hpl9 (.lst (us++ [.ref q0]))
   refine⟨_,_,_,_,us++ [.ref q0],fs++ [⟨nm,xs,t⟩],rfl,but_same sm9 (V4 _),A2, ?_,λd hd=> ?_,by rw[length_append,hl];rfl⟩
   ·exact(hus.imp λd v h=>h.mono tU).app (.cons ⟨q0,.ref b,tl,rfl,tL _ _ A2,tL _ _ (s9 _ _ A2),htb.mono tB⟩ .nil)
   ·rcases mem_append.mp hd with h'|h'
    ·exact hf d h'
    ·rw[sZ h']
     exact⟨⟨IY hnm,λx h=>IY (hx x h),by show xs.length<=4;omega,hok,hdp⟩,by show Sh.wt t<=962;omega,by show t.size<=49;omega⟩
 ·rintro σ H1 ⟨z5,z6,z7,z8,us,fs,rfl,sm,hpl,hus,hf,hl⟩
  refine⟨_,rfl,pl,_,rfl,.inl ⟨SqL.of hpl,λtl htl=> ?_⟩⟩
  have s1:=A6 htl (.tup us)
  exact q tl us fs _ (sm.trans s1) A2 (hus.imp λd v h=>h.mono (BU.tups_of s1)) hf (by omega) (by omega)
end
end Gn
end RD
namespace RD
open PySem L2
namespace Gn
seal PE PT PW PA PS PSs PTs PI PG PGs PO
abbrev s_law_text:Stmt:=RD.top 51
abbrev DZ:List Str:=["_law_term_here","_law_kind","_law_texts"]
theorem sc_law_text:FnScope DZ SU (A5 s_law_text):=fS
theorem cTZ:Is ("(":Str) [40]:=by unfold Is;decide +kernel
theorem c3Z:Is (" ":Str) [32]:=by unfold Is;decide +kernel
theorem VW:Is (")":Str) [41]:=by unfold Is;decide +kernel
theorem RS:Is ("(if ":Str) [40,105,102,32]:=by unfold Is;decide +kernel
theorem IM:Is (" then ":Str) [32,116,104,101,110,32]:=by unfold Is;decide +kernel
theorem IN:Is (" else ":Str) [32,101,108,115,101,32]:=by unfold Is;decide +kernel
theorem NB:Is ("(let ":Str) [40,108,101,116,32]:=by unfold Is;decide +kernel
theorem YX:Is (" = ":Str) [32,61,32]:=by unfold Is;decide +kernel
theorem RM:Is (" in ":Str) [32,105,110,32]:=by unfold Is;decide +kernel
theorem SX:Is ("(fn ":Str) [40,102,110,32]:=by unfold Is;decide +kernel
theorem SG:Is (" => ":Str) [32,61,62,32]:=by unfold Is;decide +kernel
theorem ZN:Is (" ! ":Str) [32,33,32]:=by unfold Is;decide +kernel
theorem _root_.RD.Is.of_eq{z:Str}{l l':List Nat}(h:Is z l)(e:l=l'):Is z l':=e▸h
theorem HM:∀ {ts:List Tm},∀t∈ts,t.depth<=depths ts
 | [],t,h=>nomatch h
 |u::r,t,h=>by
  rw[depths]
  rcases cZ h with rfl|h
  ·omega
  ·have:=HM t h;omega
theorem FN{K:FZ}:kitOne K (.type "tuple") (.type "tuple")=some true:=rfl
theorem FQ{K:FZ}:kitOne K (.type "str") (.type "tuple")=some false:=by rfl
theorem bBZ{s:Wd}(h:s∈ [wLt,wEq,U6,DN,AC,AD,DM]):s.length<=8:=by revert s;decide
theorem aAZ{s:Wd}(h:E9 s=true):s.length<=8:=by
 have h':s=AM\/s=AR\/s=U7\/s=FH:=by simpa [E9,or_assoc]using h
 rcases h' with rfl|rfl|rfl|rfl<;>decide
inductive Its (n:Nat) (H:Hp):List V->List Tm->Prop where
 |nil:Its n H [] []
 |str {z:Str} {zs:List V} {ts:List Tm}:Its n H zs ts->Its n H (.str z::zs) ts
 |tm {b:Addr} {t:Tm} {zs:List V} {ts:List Tm}:TmAt H t (.ref b)->(Sh.OkT t/\Sh.wt t<=4000/\t.depth<=n)->Its n H zs ts->Its n H (.ref b::zs) (t::ts)
structure NoGL (mg:Str->Option Value):Prop extends K15.NoG mg where
 str_:mg "str"=none
section
variable{P:Program}{w:World}{K:FZ}{mg:Str->Option Value}{base:Heap}{f:Addr}{fd:FuncData}
inductive spLTextW(n:Nat)(vs:List V)(H:Hp)(Q:VK):Prop
 |mk:∀t v,(vs=[v])->(TmAt H t v)->(Sh.OkT t)->(Sh.wt t<=4000)->(t.depth<=n)->(∀H',Same H H'->Q (txv t) H')->spLTextW n vs H Q
def GU(n:Nat):Sp:=λvs H Q _=>spLTextW n vs H Q
theorem IF{n:Nat}{sp:Sp}(F:Fun K "_law_text" "_law_text" s_law_text f fd)(B:NoGL mg)(T8:FnOk P w K mg base CX0 n f fd SU sp)(hsp:∀j,n=j+1->sp=GU j)
  (AZ:Binds K fd SU [])(AV:kZ K (.ref f)=true)(BA:mg "_law_text"=some (.ref f)):FnOk P w K mg base CX0 (n+1) f fd SU (GU n):=by
 refine F.ok sc_law_text (λvs H Q E h=> ?_) (λcdv A outer s H vs Q E hr h=> ?_)
 ·obtain⟨t,v,rfl,_⟩:=h
  rfl
 obtain⟨t,v,rfl,ht,ho,hwt,hd,q⟩:=h
 have nd:=sc_law_text.nd
 have hu:=hr.units0
 refine⟨_,(A1 (B3 (i:=1) nd rfl (Or.inl rfl) (ixE K w (pv 0) A4))
   (A1 (L6 (C5 (PW.pt (HZ (B0 (kEq (K:=K) hu) (pv 1) A9 rfl) (MB (B0 (kEq (K:=K) hu) (pv 1) A9 rfl)))) (A7 (B2 (L9 MP rfl B.str_ cOZ (A0 (ixE K w (pv 0) A4) A3)))) B5))
   (A1 (C5 (B0 (kEq (K:=K) hu) (pv 1) A9 rfl) (A7 (B2 (ixE K w (J5 (A0 A9 (A0 A9 A3))) (L9 X6 rfl B.int_ MT (A0 (ixE K w (pv 0) A4) A3))))) B5)
   (A1 (C5 (B0 (kEq (K:=K) hu) (pv 1) A9 rfl) (A7 (B2 A9)) B5)
   (A1 (C5 (B0 (kEq (K:=K) hu) (pv 1) A9 rfl) (A7 (B2 (A8 D3 (A8 D3 (A8 D3 (ixE K w (pv 0) A4) A9) (CP (K:=K) PySem.F.plainAttrs_str PySem.F.slot_str_join PySem.F.type_str_join (DW (K:=K)) A9 (A0 (EE (cS (N:=DZ) (sc:=A5 s_law_text) (caps:=[]) (ns:=[])) rfl rfl rfl (LY (K:=K) (ixE K w (pv 0) A4)) (λ_ _ _ _ _=>X8) (λ_ _ _ _ _=>(C3 T8 (hr.mono (by omega)) rfl BA AV AZ .nil C6 (A0 (pv 0) A3)))) A3))) A9))) B5)
   (A1 (U8 (i:=2) nd rfl rfl (cS (N:=DZ) (sc:=A5 s_law_text) (caps:=[]) (ns:=[])) rfl rfl rfl (LY (K:=K) (N9 (kSl (K:=K)) (pv 0) (O2 A4) T5)) (λ_ _ _ _ _=>(TH (O3 (K:=K) (C8 (dAZ (K:=K)) rfl B.isinstance_ O9 (A0 (pv 0) (A0 (UW (v:=.ty "tuple") rfl B.tuple_ Z1 rfl) A3))) (λ_=>rfl)))) (λ_ _ _ _ _=>(C3 T8 (hr.mono (by omega)) rfl BA AV AZ .nil C6 (A0 (pv 0) A3))))
   (A1 (C5 (B0 (kEq (K:=K) hu) (pv 1) A9 rfl) (A7 (B2 (A8 D3 (A8 D3 (A8 D3 (A8 D3 (A8 D3 (A8 D3 A9 (ixE K w (pv 2) A4)) A9) (ixE K w (pv 0) A4)) A9) (ixE K w (pv 2) A4)) A9))) B5)
   (A1 (C5 (B0 (kEq (K:=K) hu) (pv 1) A9 rfl) (A7 (B2 (A8 D3 (A8 D3 (A8 D3 (A8 D3 A9 (ixE K w (pv 0) A4)) A9) (ixE K w (pv 2) A4)) A9))) B5)
   (A1 (C5 (B0 (kEq (K:=K) hu) (pv 1) A9 rfl) (A7 (B2 (A8 D3 (A8 D3 (A8 D3 (A8 D3 (A8 D3 (A8 D3 A9 (ixE K w (pv 2) A4)) A9) (ixE K w (pv 2) A4)) A9) (ixE K w (pv 2) A4)) A9))) B5)
   (A1 (C5 (B0 (kEq (K:=K) hu) (pv 1) A9 rfl) (A7 (B2 (A8 D3 (A8 D3 (A8 D3 (A8 D3 (A8 D3 (A8 D3 A9 (ixE K w (pv 0) A4)) A9) (ixE K w (pv 2) A4)) A9) (ixE K w (pv 2) A4)) A9))) B5)
   (A1 (C5 (B0 (kEq (K:=K) hu) (pv 1) A9 rfl) (A7 (B2 (A8 D3 (A8 D3 (A8 D3 (A8 D3 A9 (ixE K w (pv 0) A4)) A9) (ixE K w (pv 2) A4)) A9))) B5)
   (A7 (B2 (A8 D3 (A8 D3 (A8 D3 (A8 D3 A9 (ixE K w (pv 2) A4)) A9) (ixE K w (pv 2) A4)) A9)))))))))))))), ?_⟩
 obtain⟨n,rfl⟩:∃j,n=j+1:=⟨n - 1,by have:=Sh.depth_pos t;omega⟩
 obtain rfl:=hsp n rfl
 unfold Sh.OkT at ho
 cases ht with
 | @num a m h=>
  rw[Sh.Ok]at ho
  refine⟨_,rfl,(ixT h rfl ?_)⟩
  refine⟨λ_ _=>False,Dec.or (λQ hq=>⟨_,rfl,.inl ⟨rfl,_,rfl,hq⟩⟩) (λQ hq=>⟨_,rfl,.inl ⟨rfl,_,rfl,hq⟩⟩) _ (ifT (by decide) ⟨_,rfl,(ixT h rfl (.inl ⟨_,rfl,WM ho.1, ?_⟩))⟩),λ_ _ h=>h.elim⟩
  have e:=dfZ m
  unfold Is at e
  rw[e]
  have q':=q _ (Same.refl _)
  unfold txv at q'
  rw[Sh.tx]at q'
  exact q'
 | @name a x h=>
  refine⟨_,rfl,(ixT h rfl ?_)⟩
  refine⟨λ_ _=>False,Dec.or (λQ hq=>⟨_,rfl,.inl ⟨rfl,_,rfl,hq⟩⟩) (λQ hq=>⟨_,rfl,.inl ⟨rfl,_,rfl,hq⟩⟩) _ (ifT (by decide) ⟨_,rfl,(ixT h rfl (.inr ⟨_,rfl, ?_⟩))⟩),λ_ _ h=>h.elim⟩
  have q':=q _ (Same.refl _)
  unfold txv at q'
  rw[Sh.tx]at q'
  exact q'
 | @truth a b h=>
  refine⟨_,rfl,(ixT h rfl ?_)⟩
  refine⟨fun σ' H'=>σ'=[some (.ref a),some (.str "truth"),none]/\H=H',Dec.or (λQ hq=>⟨_,rfl,.inl ⟨rfl,_,rfl,hq⟩⟩) (λQ hq=>⟨_,rfl,.inl ⟨rfl,_,rfl,hq⟩⟩) _ (ifF (by decide) ⟨rfl,rfl⟩), ?_⟩
  rintro σ' H' ⟨rfl,rfl⟩
  refine⟨_,rfl,.inl ⟨rfl,_,rfl,ifT (by decide) ?_⟩⟩
  refine⟨(by show 2<=sizeLine;decide),λl hl=> ?_⟩
  have s1:=A6 hl (.lst [.str "no",.str "yes"])
  have q':=q _ s1
  unfold txv at q'
  rw[Sh.tx]at q'
  refine⟨_,rfl,(ixT (s1 _ _ h) rfl (.inl ⟨_,rfl, ?_⟩))⟩
  cases b
  ·refine(ixL A2 rfl ?_)
   rw[dSZ];exact q'
  ·refine(ixL A2 rfl ?_)
   rw[ceZ];exact q'
 | @non a h=>
  refine⟨_,rfl,(ixT h rfl ?_)⟩
  refine⟨fun σ' H'=>σ'=[some (.ref a),some (.str "none"),none]/\H=H',Dec.or (λQ hq=>⟨_,rfl,.inl ⟨rfl,_,rfl,hq⟩⟩) (λQ hq=>⟨_,rfl,.inl ⟨rfl,_,rfl,hq⟩⟩) _ (ifF (by decide) ⟨rfl,rfl⟩), ?_⟩
  rintro σ' H' ⟨rfl,rfl⟩
  refine⟨_,rfl,.inl ⟨rfl,_,rfl,ifF (by decide) ?_⟩⟩
  refine⟨_,rfl,.inl ⟨rfl,_,rfl,ifT (by decide) ?_⟩⟩
  have q':=q _ (Same.refl _)
  unfold txv at q'
  rw[Sh.tx,<-cqZ]at q'
  exact q'
 | @call a c x ts vs h hc hts=>
  rw[Sh.Ok]at ho
  rw[Sh.wt]at hwt
  simp only[Tm.depth]at hd
  have hx:=Q8 x ho.1.1
  have hsum:=TR ts ho.2.2
  have hts':=Sh.tms_all hts
  have hvl:ts.length=vs.length:=hts'.len
  refine⟨_,rfl,(ixT h rfl ?_)⟩
  refine⟨fun σ' H'=>σ'=[some (.ref a),some (.str "call"),none]/\H=H',Dec.or (λQ hq=>⟨_,rfl,.inl ⟨rfl,_,rfl,hq⟩⟩) (λQ hq=>⟨_,rfl,.inl ⟨rfl,_,rfl,hq⟩⟩) _ (ifF (by decide) ⟨rfl,rfl⟩), ?_⟩
  rintro σ' H' ⟨rfl,rfl⟩
  refine⟨_,rfl,.inl ⟨rfl,_,rfl,ifF (by decide) ?_⟩⟩
  refine⟨_,rfl,.inl ⟨rfl,_,rfl,ifF (by decide) ?_⟩⟩
  refine⟨_,rfl,.inl ⟨rfl,_,rfl,ifT (by decide) ?_⟩⟩
  have ix:Is (tx x) x:=rfl
  have g1:=ix.app NF
  have hj:=Is.join (ls:=ts.map (Sh.tx [32])) i_cs rfl
  have g2:=g1.app hj
  have g3:=g2.app aCZ
  have hil:=FR [44,32] (ts.map (Sh.tx [32]))
  simp only[length_cons,length_nil,length_map]at hil
  have e:=g3.of_eq (l':=Sh.tx [32] (.call x ts)) (by rw[Sh.tx,<-XI];simp)
  refine⟨_,rfl,(ixT h rfl (.inr (.inl ⟨_,_,rfl,rfl,E5 ix NF (by simp only[length_cons,length_nil];omega),rfl,_,rfl,(ixT h rfl ⟨c,rfl,⟨_,SqT.of hc⟩,X0 (xs:=vs) (λi ys H'=>Same H H'/\ys=(ts.map txv).take i) ⟨Same.refl _,rfl⟩ ?_ ?_ ?_⟩)⟩)))⟩
  ·rintro i ys H' hi ⟨s',rfl⟩
   refine⟨SqT.of (s' _ _ hc), ?_⟩
   rw[length_take,length_map]
   exact le_trans (Nat.min_le_right _ _) (le_trans ho.2.1 (by decide))
  ·rintro i v ys H' hv ⟨s',rfl⟩
   refine BH ?_
   obtain⟨t',ht',hv'⟩:=hts'.get hv
   have hm:=mem_of_getElem? ht'
   have hw':=Sh.wts_mem t' hm
   have hd':=HM t' hm
   refine⟨_,rfl,t',v,rfl,hv'.mono (BU.tups_of s'),Sh.oks_mem ho.2.2 t' hm,by omega,by omega,λH3 s3=>⟨s'.trans s3, ?_⟩⟩
   have h3:(ts.map txv)[i]? =some (txv t'):=by rw[getElem?_map,ht'];rfl
   rw[BU.take_one h3]
  ·rintro ys H' ⟨s',rfl⟩ D hD
   have e1:(ts.map txv).take vs.length=((ts.map (Sh.tx [32])).map tx).map V.str:=by
    rw[take_of_length_le (by rw[length_map];omega)]
    simp only[map_map]
    rfl
   rw[e1]
   have s4:=s'.trans (A6 hD (.lst (((ts.map (Sh.tx [32])).map tx).map V.str)))
   have q':=q _ s4
   refine⟨_,D,_,rfl,rfl,.inl (SqL.of A2), ?_,.inr (.inl ⟨_,_,rfl,rfl,E5 g1 hj (by simp only[length_append,length_cons,length_nil];omega),.inr (.inl ⟨_,_,rfl,rfl,E5 g2 aCZ (by simp only[length_append,length_cons,length_nil];omega), ?_⟩)⟩)⟩
   ·rw[NI,length_map,length_map,i_cs.len]
    simp only[length_cons,length_nil]
    omega
   ·unfold Is at e
    rw[e]
    exact q'
 | @two a s t u v w ha h1 h2=>
  obtain⟨a0,rfl⟩:=Sh.TmAt.isRef h1
  obtain⟨a1,rfl⟩:=Sh.TmAt.isRef h2
  rw[Sh.Ok]at ho
  rw[Sh.wt]at hwt
  simp only[Tm.depth]at hd
  have l_t:=Sh.lx (g:=[32]) X4 Q8 (by decide) t ho.2.1
  have l_u:=Sh.lx (g:=[32]) X4 Q8 (by decide) u ho.2.2
  have l_s:=bBZ ho.1
  refine⟨_,rfl,(ixT ha rfl ?_)⟩
  refine⟨fun σ' H'=>σ'=[some (.ref a),some (.str "two"),none]/\H=H',Dec.or (λQ hq=>⟨_,rfl,.inl ⟨rfl,_,rfl,hq⟩⟩) (λQ hq=>⟨_,rfl,.inl ⟨rfl,_,rfl,hq⟩⟩) _ (ifF (by decide) ⟨rfl,rfl⟩), ?_⟩
  rintro σ' H' ⟨rfl,rfl⟩
  refine⟨_,rfl,.inl ⟨rfl,_,rfl,ifF (by decide) ?_⟩⟩
  refine⟨_,rfl,.inl ⟨rfl,_,rfl,ifF (by decide) ?_⟩⟩
  refine⟨_,rfl,.inl ⟨rfl,_,rfl,ifF (by decide) ?_⟩⟩
  refine⟨_,rfl,_,rfl,.inr ⟨a,_,rfl,SqT.of ha,K15.notWhole (k:=1) (by decide) (succ_pos _) _,λp hp=> ?_⟩⟩
  have hcut:Z0 (V.str "two":: [V.str (tx s),V.ref a0,V.ref a1]) (some 1) none=[V.str (tx s),V.ref a0,V.ref a1]:=AJ _ 1
  rw[hcut]
  have s1:Same H (upd H p (.tup [V.str (tx s),V.ref a0,V.ref a1])):=A6 hp _
  have hI:Its n H [V.str (tx s),V.ref a0,V.ref a1] [t,u]:=(.str (.tm h1 ⟨ho.2.1,by omega,by omega⟩ (.tm h2 ⟨ho.2.2,by omega,by omega⟩ .nil)))
  have hzl:([V.str (tx s),V.ref a0,V.ref a1]:List V).length<=3:=by simp
  have hp1:(upd H p (.tup [V.str (tx s),V.ref a0,V.ref a1])) p=some (.tup [V.str (tx s),V.ref a0,V.ref a1]):=A2
  generalize [V.str (tx s),V.ref a0,V.ref a1]=zs at s1 hI hzl hp1⊢
  generalize upd H p (.tup zs)=H1 at s1 hp1⊢
  refine⟨p,rfl,⟨_,SqT.of hp1⟩,X0 (xs:=zs) (λi ys H'=>∃d r,Same H1 H'/\ys=d.map txv/\Its n H (zs.drop i) r/\d++r=[t,u]) ⟨[],_,Same.refl _,rfl,hI,rfl⟩ ?_ ?_ ?_⟩
  ·rintro i ys H' hi ⟨d,r,s',rfl,hI',e⟩
   refine⟨SqT.of (s' _ _ hp1), ?_⟩
   have hel:=congrArg List.length e
   simp only[length_append,length_cons,length_nil]at hel
   rw[length_map]
   exact le_trans (show d.length<=3 by omega) (by decide)
  ·rintro i v ys H' hv ⟨d,r,s',rfl,hI',e⟩
   obtain⟨hi,hvi⟩:=List.getElem?_eq_some_iff.mp hv
   rw[drop_eq_getElem_cons hi,hvi]at hI'
   cases hI' with
   |str h'=>exact⟨_,rfl,_,_,_,_,rfl,.str _,FQ,_,rfl,ifF nZ ⟨d,r,s',rfl,h',e⟩⟩
   | @tm b t' zs' r' ht' hc' h'=>
    obtain⟨a',xs',ps',ea,ha',_⟩:=Sh.shape_of ht'
    cases ea
    have s2:=s1.trans s'
    refine⟨_,rfl,_,_,_,_,rfl,.tup (s2 _ _ ha'),FN,_,rfl,ifT rfl ⟨_,rfl,t',_,rfl,ht'.mono (BU.tups_of s2),hc'.1,hc'.2.1,hc'.2.2,λH3 s3=>⟨d++ [t'],r',s'.trans s3,by rw[map_append];rfl,h',by rw[List.append_assoc];exact e⟩⟩⟩
  rintro ys H' ⟨d,r,s',rfl,hI',e⟩ D hD
  rw[drop_length]at hI'
  cases hI'
  rw[append_nil]at e
  subst e
  have s4:=s1.trans (s'.trans (A6 hD (.lst ([t,u].map txv))))
  have hD2:(upd H' D (.lst ([t,u].map txv))) D=some (.lst ([t,u].map txv)):=A2
  have ha4:=s4 _ _ ha
  have q':=q _ s4
  generalize upd H' D (.lst ([t,u].map txv))=H4 at hD2 ha4 q'⊢
  refine⟨_,rfl,.inl ⟨rfl,_,rfl,ifT (by decide) ?_⟩⟩
  have g0:=cTZ
  have i1:=(show Is (tx (Sh.tx [32] t)) (Sh.tx [32] t)from rfl)
  have g1:=g0.app i1
  have i2:=c3Z
  have g2:=g1.app i2
  have i3:=(show Is (tx s) s from rfl)
  have g3:=g2.app i3
  have i4:=c3Z
  have g4:=g3.app i4
  have i5:=(show Is (tx (Sh.tx [32] u)) (Sh.tx [32] u)from rfl)
  have g5:=g4.app i5
  have i6:=VW
  have g6:=g5.app i6
  have e:=g6.of_eq (l':=Sh.tx [32] (.two s t u)) (by rw[Sh.tx];simp)
  refine⟨_,rfl,(ixL hD2 rfl (.inr (.inl ⟨_,_,rfl,rfl,E5 g0 i1 (by simp only[length_append,length_cons,length_nil];omega),.inr (.inl ⟨_,_,rfl,rfl,E5 g1 i2 (by simp only[length_append,length_cons,length_nil];omega),⟨_,rfl,(ixT ha4 rfl (.inr (.inl ⟨_,_,rfl,rfl,E5 g2 i3 (by simp only[length_append,length_cons,length_nil];omega),.inr (.inl ⟨_,_,rfl,rfl,E5 g3 i4 (by simp only[length_append,length_cons,length_nil];omega),⟨_,rfl,(ixL hD2 rfl (.inr (.inl ⟨_,_,rfl,rfl,E5 g4 i5 (by simp only[length_append,length_cons,length_nil];omega),.inr (.inl ⟨_,_,rfl,rfl,E5 g5 i6 (by simp only[length_append,length_cons,length_nil];omega), ?_⟩)⟩)))⟩⟩)⟩)))⟩⟩)⟩)))⟩
  unfold Is at e
  rw[e]
  exact q'
 | @one a s t v ha h1=>
  obtain⟨a0,rfl⟩:=Sh.TmAt.isRef h1
  rw[Sh.Ok]at ho
  rw[Sh.wt]at hwt
  simp only[Tm.depth]at hd
  have l_t:=Sh.lx (g:=[32]) X4 Q8 (by decide) t ho.2
  have l_s:=aAZ ho.1
  refine⟨_,rfl,(ixT ha rfl ?_)⟩
  refine⟨fun σ' H'=>σ'=[some (.ref a),some (.str "one"),none]/\H=H',Dec.or (λQ hq=>⟨_,rfl,.inl ⟨rfl,_,rfl,hq⟩⟩) (λQ hq=>⟨_,rfl,.inl ⟨rfl,_,rfl,hq⟩⟩) _ (ifF (by decide) ⟨rfl,rfl⟩), ?_⟩
  rintro σ' H' ⟨rfl,rfl⟩
  refine⟨_,rfl,.inl ⟨rfl,_,rfl,ifF (by decide) ?_⟩⟩
  refine⟨_,rfl,.inl ⟨rfl,_,rfl,ifF (by decide) ?_⟩⟩
  refine⟨_,rfl,.inl ⟨rfl,_,rfl,ifF (by decide) ?_⟩⟩
  refine⟨_,rfl,_,rfl,.inr ⟨a,_,rfl,SqT.of ha,K15.notWhole (k:=1) (by decide) (succ_pos _) _,λp hp=> ?_⟩⟩
  have hcut:Z0 (V.str "one":: [V.str (tx s),V.ref a0]) (some 1) none=[V.str (tx s),V.ref a0]:=AJ _ 1
  rw[hcut]
  have s1:Same H (upd H p (.tup [V.str (tx s),V.ref a0])):=A6 hp _
  have hI:Its n H [V.str (tx s),V.ref a0] [t]:=(.str (.tm h1 ⟨ho.2,by omega,by omega⟩ .nil))
  have hzl:([V.str (tx s),V.ref a0]:List V).length<=3:=by simp
  have hp1:(upd H p (.tup [V.str (tx s),V.ref a0])) p=some (.tup [V.str (tx s),V.ref a0]):=A2
  generalize [V.str (tx s),V.ref a0]=zs at s1 hI hzl hp1⊢
  generalize upd H p (.tup zs)=H1 at s1 hp1⊢
  refine⟨p,rfl,⟨_,SqT.of hp1⟩,X0 (xs:=zs) (λi ys H'=>∃d r,Same H1 H'/\ys=d.map txv/\Its n H (zs.drop i) r/\d++r=[t]) ⟨[],_,Same.refl _,rfl,hI,rfl⟩ ?_ ?_ ?_⟩
  ·rintro i ys H' hi ⟨d,r,s',rfl,hI',e⟩
   refine⟨SqT.of (s' _ _ hp1), ?_⟩
   have hel:=congrArg List.length e
   simp only[length_append,length_cons,length_nil]at hel
   rw[length_map]
   exact le_trans (show d.length<=3 by omega) (by decide)
  ·rintro i v ys H' hv ⟨d,r,s',rfl,hI',e⟩
   obtain⟨hi,hvi⟩:=List.getElem?_eq_some_iff.mp hv
   rw[drop_eq_getElem_cons hi,hvi]at hI'
   cases hI' with
   |str h'=>exact⟨_,rfl,_,_,_,_,rfl,.str _,FQ,_,rfl,ifF nZ ⟨d,r,s',rfl,h',e⟩⟩
   | @tm b t' zs' r' ht' hc' h'=>
    obtain⟨a',xs',ps',ea,ha',_⟩:=Sh.shape_of ht'
    cases ea
    have s2:=s1.trans s'
    refine⟨_,rfl,_,_,_,_,rfl,.tup (s2 _ _ ha'),FN,_,rfl,ifT rfl ⟨_,rfl,t',_,rfl,ht'.mono (BU.tups_of s2),hc'.1,hc'.2.1,hc'.2.2,λH3 s3=>⟨d++ [t'],r',s'.trans s3,by rw[map_append];rfl,h',by rw[List.append_assoc];exact e⟩⟩⟩
  rintro ys H' ⟨d,r,s',rfl,hI',e⟩ D hD
  rw[drop_length]at hI'
  cases hI'
  rw[append_nil]at e
  subst e
  have s4:=s1.trans (s'.trans (A6 hD (.lst ([t].map txv))))
  have hD2:(upd H' D (.lst ([t].map txv))) D=some (.lst ([t].map txv)):=A2
  have ha4:=s4 _ _ ha
  have q':=q _ s4
  generalize upd H' D (.lst ([t].map txv))=H4 at hD2 ha4 q'⊢
  refine⟨_,rfl,.inl ⟨rfl,_,rfl,ifF (by decide) ?_⟩⟩
  refine⟨_,rfl,.inl ⟨rfl,_,rfl,ifT (by decide) ?_⟩⟩
  have g0:=cTZ
  have i1:=(show Is (tx s) s from rfl)
  have g1:=g0.app i1
  have i2:=c3Z
  have g2:=g1.app i2
  have i3:=(show Is (tx (Sh.tx [32] t)) (Sh.tx [32] t)from rfl)
  have g3:=g2.app i3
  have i4:=VW
  have g4:=g3.app i4
  have e:=g4.of_eq (l':=Sh.tx [32] (.one s t)) (by rw[Sh.tx];simp)
  refine⟨_,rfl,(ixT ha4 rfl (.inr (.inl ⟨_,_,rfl,rfl,E5 g0 i1 (by simp only[length_append,length_cons,length_nil];omega),.inr (.inl ⟨_,_,rfl,rfl,E5 g1 i2 (by simp only[length_append,length_cons,length_nil];omega),⟨_,rfl,(ixL hD2 rfl (.inr (.inl ⟨_,_,rfl,rfl,E5 g2 i3 (by simp only[length_append,length_cons,length_nil];omega),.inr (.inl ⟨_,_,rfl,rfl,E5 g3 i4 (by simp only[length_append,length_cons,length_nil];omega), ?_⟩)⟩)))⟩⟩)⟩)))⟩
  unfold Is at e
  rw[e]
  exact q'
 | @if_ a c t u x v w ha h1 h2 h3=>
  obtain⟨a0,rfl⟩:=Sh.TmAt.isRef h1
  obtain⟨a1,rfl⟩:=Sh.TmAt.isRef h2
  obtain⟨a2,rfl⟩:=Sh.TmAt.isRef h3
  rw[Sh.Ok]at ho
  rw[Sh.wt]at hwt
  simp only[Tm.depth]at hd
  have l_c:=Sh.lx (g:=[32]) X4 Q8 (by decide) c ho.1
  have l_t:=Sh.lx (g:=[32]) X4 Q8 (by decide) t ho.2.1
  have l_u:=Sh.lx (g:=[32]) X4 Q8 (by decide) u ho.2.2
  refine⟨_,rfl,(ixT ha rfl ?_)⟩
  refine⟨fun σ' H'=>σ'=[some (.ref a),some (.str "if"),none]/\H=H',Dec.or (λQ hq=>⟨_,rfl,.inl ⟨rfl,_,rfl,hq⟩⟩) (λQ hq=>⟨_,rfl,.inl ⟨rfl,_,rfl,hq⟩⟩) _ (ifF (by decide) ⟨rfl,rfl⟩), ?_⟩
  rintro σ' H' ⟨rfl,rfl⟩
  refine⟨_,rfl,.inl ⟨rfl,_,rfl,ifF (by decide) ?_⟩⟩
  refine⟨_,rfl,.inl ⟨rfl,_,rfl,ifF (by decide) ?_⟩⟩
  refine⟨_,rfl,.inl ⟨rfl,_,rfl,ifF (by decide) ?_⟩⟩
  refine⟨_,rfl,_,rfl,.inr ⟨a,_,rfl,SqT.of ha,K15.notWhole (k:=1) (by decide) (succ_pos _) _,λp hp=> ?_⟩⟩
  have hcut:Z0 (V.str "if":: [V.ref a0,V.ref a1,V.ref a2]) (some 1) none=[V.ref a0,V.ref a1,V.ref a2]:=AJ _ 1
  rw[hcut]
  have s1:Same H (upd H p (.tup [V.ref a0,V.ref a1,V.ref a2])):=A6 hp _
  have hI:Its n H [V.ref a0,V.ref a1,V.ref a2] [c,t,u]:=(.tm h1 ⟨ho.1,by omega,by omega⟩ (.tm h2 ⟨ho.2.1,by omega,by omega⟩ (.tm h3 ⟨ho.2.2,by omega,by omega⟩ .nil)))
  have hzl:([V.ref a0,V.ref a1,V.ref a2]:List V).length<=3:=by simp
  have hp1:(upd H p (.tup [V.ref a0,V.ref a1,V.ref a2])) p=some (.tup [V.ref a0,V.ref a1,V.ref a2]):=A2
  generalize [V.ref a0,V.ref a1,V.ref a2]=zs at s1 hI hzl hp1⊢
  generalize upd H p (.tup zs)=H1 at s1 hp1⊢
  refine⟨p,rfl,⟨_,SqT.of hp1⟩,X0 (xs:=zs) (λi ys H'=>∃d r,Same H1 H'/\ys=d.map txv/\Its n H (zs.drop i) r/\d++r=[c,t,u]) ⟨[],_,Same.refl _,rfl,hI,rfl⟩ ?_ ?_ ?_⟩
  ·rintro i ys H' hi ⟨d,r,s',rfl,hI',e⟩
   refine⟨SqT.of (s' _ _ hp1), ?_⟩
   have hel:=congrArg List.length e
   simp only[length_append,length_cons,length_nil]at hel
   rw[length_map]
   exact le_trans (show d.length<=3 by omega) (by decide)
  ·rintro i v ys H' hv ⟨d,r,s',rfl,hI',e⟩
   obtain⟨hi,hvi⟩:=List.getElem?_eq_some_iff.mp hv
   rw[drop_eq_getElem_cons hi,hvi]at hI'
   cases hI' with
   |str h'=>exact⟨_,rfl,_,_,_,_,rfl,.str _,FQ,_,rfl,ifF nZ ⟨d,r,s',rfl,h',e⟩⟩
   | @tm b t' zs' r' ht' hc' h'=>
    obtain⟨a',xs',ps',ea,ha',_⟩:=Sh.shape_of ht'
    cases ea
    have s2:=s1.trans s'
    refine⟨_,rfl,_,_,_,_,rfl,.tup (s2 _ _ ha'),FN,_,rfl,ifT rfl ⟨_,rfl,t',_,rfl,ht'.mono (BU.tups_of s2),hc'.1,hc'.2.1,hc'.2.2,λH3 s3=>⟨d++ [t'],r',s'.trans s3,by rw[map_append];rfl,h',by rw[List.append_assoc];exact e⟩⟩⟩
  rintro ys H' ⟨d,r,s',rfl,hI',e⟩ D hD
  rw[drop_length]at hI'
  cases hI'
  rw[append_nil]at e
  subst e
  have s4:=s1.trans (s'.trans (A6 hD (.lst ([c,t,u].map txv))))
  have hD2:(upd H' D (.lst ([c,t,u].map txv))) D=some (.lst ([c,t,u].map txv)):=A2
  have ha4:=s4 _ _ ha
  have q':=q _ s4
  generalize upd H' D (.lst ([c,t,u].map txv))=H4 at hD2 ha4 q'⊢
  refine⟨_,rfl,.inl ⟨rfl,_,rfl,ifF (by decide) ?_⟩⟩
  refine⟨_,rfl,.inl ⟨rfl,_,rfl,ifF (by decide) ?_⟩⟩
  refine⟨_,rfl,.inl ⟨rfl,_,rfl,ifT (by decide) ?_⟩⟩
  have g0:=RS
  have i1:=(show Is (tx (Sh.tx [32] c)) (Sh.tx [32] c)from rfl)
  have g1:=g0.app i1
  have i2:=IM
  have g2:=g1.app i2
  have i3:=(show Is (tx (Sh.tx [32] t)) (Sh.tx [32] t)from rfl)
  have g3:=g2.app i3
  have i4:=IN
  have g4:=g3.app i4
  have i5:=(show Is (tx (Sh.tx [32] u)) (Sh.tx [32] u)from rfl)
  have g5:=g4.app i5
  have i6:=VW
  have g6:=g5.app i6
  have e:=g6.of_eq (l':=Sh.tx [32] (.if_ c t u)) (by rw[Sh.tx];simp)
  refine⟨_,rfl,(ixL hD2 rfl (.inr (.inl ⟨_,_,rfl,rfl,E5 g0 i1 (by simp only[length_append,length_cons,length_nil];omega),.inr (.inl ⟨_,_,rfl,rfl,E5 g1 i2 (by simp only[length_append,length_cons,length_nil];omega),⟨_,rfl,(ixL hD2 rfl (.inr (.inl ⟨_,_,rfl,rfl,E5 g2 i3 (by simp only[length_append,length_cons,length_nil];omega),.inr (.inl ⟨_,_,rfl,rfl,E5 g3 i4 (by simp only[length_append,length_cons,length_nil];omega),⟨_,rfl,(ixL hD2 rfl (.inr (.inl ⟨_,_,rfl,rfl,E5 g4 i5 (by simp only[length_append,length_cons,length_nil];omega),.inr (.inl ⟨_,_,rfl,rfl,E5 g5 i6 (by simp only[length_append,length_cons,length_nil];omega), ?_⟩)⟩)))⟩⟩)⟩)))⟩⟩)⟩)))⟩
  unfold Is at e
  rw[e]
  exact q'
 | @let_ a s t u v w ha h1 h2=>
  obtain⟨a0,rfl⟩:=Sh.TmAt.isRef h1
  obtain⟨a1,rfl⟩:=Sh.TmAt.isRef h2
  rw[Sh.Ok]at ho
  rw[Sh.wt]at hwt
  simp only[Tm.depth]at hd
  have l_t:=Sh.lx (g:=[32]) X4 Q8 (by decide) t ho.2.1
  have l_u:=Sh.lx (g:=[32]) X4 Q8 (by decide) u ho.2.2
  have l_s:=Q8 _ ho.1.1
  refine⟨_,rfl,(ixT ha rfl ?_)⟩
  refine⟨fun σ' H'=>σ'=[some (.ref a),some (.str "let"),none]/\H=H',Dec.or (λQ hq=>⟨_,rfl,.inl ⟨rfl,_,rfl,hq⟩⟩) (λQ hq=>⟨_,rfl,.inl ⟨rfl,_,rfl,hq⟩⟩) _ (ifF (by decide) ⟨rfl,rfl⟩), ?_⟩
  rintro σ' H' ⟨rfl,rfl⟩
  refine⟨_,rfl,.inl ⟨rfl,_,rfl,ifF (by decide) ?_⟩⟩
  refine⟨_,rfl,.inl ⟨rfl,_,rfl,ifF (by decide) ?_⟩⟩
  refine⟨_,rfl,.inl ⟨rfl,_,rfl,ifF (by decide) ?_⟩⟩
  refine⟨_,rfl,_,rfl,.inr ⟨a,_,rfl,SqT.of ha,K15.notWhole (k:=1) (by decide) (succ_pos _) _,λp hp=> ?_⟩⟩
  have hcut:Z0 (V.str "let":: [V.str (tx s),V.ref a0,V.ref a1]) (some 1) none=[V.str (tx s),V.ref a0,V.ref a1]:=AJ _ 1
  rw[hcut]
  have s1:Same H (upd H p (.tup [V.str (tx s),V.ref a0,V.ref a1])):=A6 hp _
  have hI:Its n H [V.str (tx s),V.ref a0,V.ref a1] [t,u]:=(.str (.tm h1 ⟨ho.2.1,by omega,by omega⟩ (.tm h2 ⟨ho.2.2,by omega,by omega⟩ .nil)))
  have hzl:([V.str (tx s),V.ref a0,V.ref a1]:List V).length<=3:=by simp
  have hp1:(upd H p (.tup [V.str (tx s),V.ref a0,V.ref a1])) p=some (.tup [V.str (tx s),V.ref a0,V.ref a1]):=A2
  generalize [V.str (tx s),V.ref a0,V.ref a1]=zs at s1 hI hzl hp1⊢
  generalize upd H p (.tup zs)=H1 at s1 hp1⊢
  refine⟨p,rfl,⟨_,SqT.of hp1⟩,X0 (xs:=zs) (λi ys H'=>∃d r,Same H1 H'/\ys=d.map txv/\Its n H (zs.drop i) r/\d++r=[t,u]) ⟨[],_,Same.refl _,rfl,hI,rfl⟩ ?_ ?_ ?_⟩
  ·rintro i ys H' hi ⟨d,r,s',rfl,hI',e⟩
   refine⟨SqT.of (s' _ _ hp1), ?_⟩
   have hel:=congrArg List.length e
   simp only[length_append,length_cons,length_nil]at hel
   rw[length_map]
   exact le_trans (show d.length<=3 by omega) (by decide)
  ·rintro i v ys H' hv ⟨d,r,s',rfl,hI',e⟩
   obtain⟨hi,hvi⟩:=List.getElem?_eq_some_iff.mp hv
   rw[drop_eq_getElem_cons hi,hvi]at hI'
   cases hI' with
   |str h'=>exact⟨_,rfl,_,_,_,_,rfl,.str _,FQ,_,rfl,ifF nZ ⟨d,r,s',rfl,h',e⟩⟩
   | @tm b t' zs' r' ht' hc' h'=>
    obtain⟨a',xs',ps',ea,ha',_⟩:=Sh.shape_of ht'
    cases ea
    have s2:=s1.trans s'
    refine⟨_,rfl,_,_,_,_,rfl,.tup (s2 _ _ ha'),FN,_,rfl,ifT rfl ⟨_,rfl,t',_,rfl,ht'.mono (BU.tups_of s2),hc'.1,hc'.2.1,hc'.2.2,λH3 s3=>⟨d++ [t'],r',s'.trans s3,by rw[map_append];rfl,h',by rw[List.append_assoc];exact e⟩⟩⟩
  rintro ys H' ⟨d,r,s',rfl,hI',e⟩ D hD
  rw[drop_length]at hI'
  cases hI'
  rw[append_nil]at e
  subst e
  have s4:=s1.trans (s'.trans (A6 hD (.lst ([t,u].map txv))))
  have hD2:(upd H' D (.lst ([t,u].map txv))) D=some (.lst ([t,u].map txv)):=A2
  have ha4:=s4 _ _ ha
  have q':=q _ s4
  generalize upd H' D (.lst ([t,u].map txv))=H4 at hD2 ha4 q'⊢
  refine⟨_,rfl,.inl ⟨rfl,_,rfl,ifF (by decide) ?_⟩⟩
  refine⟨_,rfl,.inl ⟨rfl,_,rfl,ifF (by decide) ?_⟩⟩
  refine⟨_,rfl,.inl ⟨rfl,_,rfl,ifF (by decide) ?_⟩⟩
  refine⟨_,rfl,.inl ⟨rfl,_,rfl,ifT (by decide) ?_⟩⟩
  have g0:=NB
  have i1:=(show Is (tx s) s from rfl)
  have g1:=g0.app i1
  have i2:=YX
  have g2:=g1.app i2
  have i3:=(show Is (tx (Sh.tx [32] t)) (Sh.tx [32] t)from rfl)
  have g3:=g2.app i3
  have i4:=RM
  have g4:=g3.app i4
  have i5:=(show Is (tx (Sh.tx [32] u)) (Sh.tx [32] u)from rfl)
  have g5:=g4.app i5
  have i6:=VW
  have g6:=g5.app i6
  have e:=g6.of_eq (l':=Sh.tx [32] (.let_ s t u)) (by rw[Sh.tx];simp)
  refine⟨_,rfl,(ixT ha4 rfl (.inr (.inl ⟨_,_,rfl,rfl,E5 g0 i1 (by simp only[length_append,length_cons,length_nil];omega),.inr (.inl ⟨_,_,rfl,rfl,E5 g1 i2 (by simp only[length_append,length_cons,length_nil];omega),⟨_,rfl,(ixL hD2 rfl (.inr (.inl ⟨_,_,rfl,rfl,E5 g2 i3 (by simp only[length_append,length_cons,length_nil];omega),.inr (.inl ⟨_,_,rfl,rfl,E5 g3 i4 (by simp only[length_append,length_cons,length_nil];omega),⟨_,rfl,(ixL hD2 rfl (.inr (.inl ⟨_,_,rfl,rfl,E5 g4 i5 (by simp only[length_append,length_cons,length_nil];omega),.inr (.inl ⟨_,_,rfl,rfl,E5 g5 i6 (by simp only[length_append,length_cons,length_nil];omega), ?_⟩)⟩)))⟩⟩)⟩)))⟩⟩)⟩)))⟩
  unfold Is at e
  rw[e]
  exact q'
 | @fn a s t v ha h1=>
  obtain⟨a0,rfl⟩:=Sh.TmAt.isRef h1
  rw[Sh.Ok]at ho
  rw[Sh.wt]at hwt
  simp only[Tm.depth]at hd
  have l_t:=Sh.lx (g:=[32]) X4 Q8 (by decide) t ho.2
  have l_s:=Q8 _ ho.1.1
  refine⟨_,rfl,(ixT ha rfl ?_)⟩
  refine⟨fun σ' H'=>σ'=[some (.ref a),some (.str "fn"),none]/\H=H',Dec.or (λQ hq=>⟨_,rfl,.inl ⟨rfl,_,rfl,hq⟩⟩) (λQ hq=>⟨_,rfl,.inl ⟨rfl,_,rfl,hq⟩⟩) _ (ifF (by decide) ⟨rfl,rfl⟩), ?_⟩
  rintro σ' H' ⟨rfl,rfl⟩
  refine⟨_,rfl,.inl ⟨rfl,_,rfl,ifF (by decide) ?_⟩⟩
  refine⟨_,rfl,.inl ⟨rfl,_,rfl,ifF (by decide) ?_⟩⟩
  refine⟨_,rfl,.inl ⟨rfl,_,rfl,ifF (by decide) ?_⟩⟩
  refine⟨_,rfl,_,rfl,.inr ⟨a,_,rfl,SqT.of ha,K15.notWhole (k:=1) (by decide) (succ_pos _) _,λp hp=> ?_⟩⟩
  have hcut:Z0 (V.str "fn":: [V.str (tx s),V.ref a0]) (some 1) none=[V.str (tx s),V.ref a0]:=AJ _ 1
  rw[hcut]
  have s1:Same H (upd H p (.tup [V.str (tx s),V.ref a0])):=A6 hp _
  have hI:Its n H [V.str (tx s),V.ref a0] [t]:=(.str (.tm h1 ⟨ho.2,by omega,by omega⟩ .nil))
  have hzl:([V.str (tx s),V.ref a0]:List V).length<=3:=by simp
  have hp1:(upd H p (.tup [V.str (tx s),V.ref a0])) p=some (.tup [V.str (tx s),V.ref a0]):=A2
  generalize [V.str (tx s),V.ref a0]=zs at s1 hI hzl hp1⊢
  generalize upd H p (.tup zs)=H1 at s1 hp1⊢
  refine⟨p,rfl,⟨_,SqT.of hp1⟩,X0 (xs:=zs) (λi ys H'=>∃d r,Same H1 H'/\ys=d.map txv/\Its n H (zs.drop i) r/\d++r=[t]) ⟨[],_,Same.refl _,rfl,hI,rfl⟩ ?_ ?_ ?_⟩
  ·rintro i ys H' hi ⟨d,r,s',rfl,hI',e⟩
   refine⟨SqT.of (s' _ _ hp1), ?_⟩
   have hel:=congrArg List.length e
   simp only[length_append,length_cons,length_nil]at hel
   rw[length_map]
   exact le_trans (show d.length<=3 by omega) (by decide)
  ·rintro i v ys H' hv ⟨d,r,s',rfl,hI',e⟩
   obtain⟨hi,hvi⟩:=List.getElem?_eq_some_iff.mp hv
   rw[drop_eq_getElem_cons hi,hvi]at hI'
   cases hI' with
   |str h'=>exact⟨_,rfl,_,_,_,_,rfl,.str _,FQ,_,rfl,ifF nZ ⟨d,r,s',rfl,h',e⟩⟩
   | @tm b t' zs' r' ht' hc' h'=>
    obtain⟨a',xs',ps',ea,ha',_⟩:=Sh.shape_of ht'
    cases ea
    have s2:=s1.trans s'
    refine⟨_,rfl,_,_,_,_,rfl,.tup (s2 _ _ ha'),FN,_,rfl,ifT rfl ⟨_,rfl,t',_,rfl,ht'.mono (BU.tups_of s2),hc'.1,hc'.2.1,hc'.2.2,λH3 s3=>⟨d++ [t'],r',s'.trans s3,by rw[map_append];rfl,h',by rw[List.append_assoc];exact e⟩⟩⟩
  rintro ys H' ⟨d,r,s',rfl,hI',e⟩ D hD
  rw[drop_length]at hI'
  cases hI'
  rw[append_nil]at e
  subst e
  have s4:=s1.trans (s'.trans (A6 hD (.lst ([t].map txv))))
  have hD2:(upd H' D (.lst ([t].map txv))) D=some (.lst ([t].map txv)):=A2
  have ha4:=s4 _ _ ha
  have q':=q _ s4
  generalize upd H' D (.lst ([t].map txv))=H4 at hD2 ha4 q'⊢
  refine⟨_,rfl,.inl ⟨rfl,_,rfl,ifF (by decide) ?_⟩⟩
  refine⟨_,rfl,.inl ⟨rfl,_,rfl,ifF (by decide) ?_⟩⟩
  refine⟨_,rfl,.inl ⟨rfl,_,rfl,ifF (by decide) ?_⟩⟩
  refine⟨_,rfl,.inl ⟨rfl,_,rfl,ifF (by decide) ?_⟩⟩
  refine⟨_,rfl,.inl ⟨rfl,_,rfl,ifT (by decide) ?_⟩⟩
  have g0:=SX
  have i1:=(show Is (tx s) s from rfl)
  have g1:=g0.app i1
  have i2:=SG
  have g2:=g1.app i2
  have i3:=(show Is (tx (Sh.tx [32] t)) (Sh.tx [32] t)from rfl)
  have g3:=g2.app i3
  have i4:=VW
  have g4:=g3.app i4
  have e:=g4.of_eq (l':=Sh.tx [32] (.fn s t)) (by rw[Sh.tx];simp)
  refine⟨_,rfl,(ixT ha4 rfl (.inr (.inl ⟨_,_,rfl,rfl,E5 g0 i1 (by simp only[length_append,length_cons,length_nil];omega),.inr (.inl ⟨_,_,rfl,rfl,E5 g1 i2 (by simp only[length_append,length_cons,length_nil];omega),⟨_,rfl,(ixL hD2 rfl (.inr (.inl ⟨_,_,rfl,rfl,E5 g2 i3 (by simp only[length_append,length_cons,length_nil];omega),.inr (.inl ⟨_,_,rfl,rfl,E5 g3 i4 (by simp only[length_append,length_cons,length_nil];omega), ?_⟩)⟩)))⟩⟩)⟩)))⟩
  unfold Is at e
  rw[e]
  exact q'
 | @do_ a t u v w ha h1 h2=>
  obtain⟨a0,rfl⟩:=Sh.TmAt.isRef h1
  obtain⟨a1,rfl⟩:=Sh.TmAt.isRef h2
  rw[Sh.Ok]at ho
  rw[Sh.wt]at hwt
  simp only[Tm.depth]at hd
  have l_t:=Sh.lx (g:=[32]) X4 Q8 (by decide) t ho.1
  have l_u:=Sh.lx (g:=[32]) X4 Q8 (by decide) u ho.2
  refine⟨_,rfl,(ixT ha rfl ?_)⟩
  refine⟨fun σ' H'=>σ'=[some (.ref a),some (.str "do"),none]/\H=H',Dec.or (λQ hq=>⟨_,rfl,.inl ⟨rfl,_,rfl,hq⟩⟩) (λQ hq=>⟨_,rfl,.inl ⟨rfl,_,rfl,hq⟩⟩) _ (ifF (by decide) ⟨rfl,rfl⟩), ?_⟩
  rintro σ' H' ⟨rfl,rfl⟩
  refine⟨_,rfl,.inl ⟨rfl,_,rfl,ifF (by decide) ?_⟩⟩
  refine⟨_,rfl,.inl ⟨rfl,_,rfl,ifF (by decide) ?_⟩⟩
  refine⟨_,rfl,.inl ⟨rfl,_,rfl,ifF (by decide) ?_⟩⟩
  refine⟨_,rfl,_,rfl,.inr ⟨a,_,rfl,SqT.of ha,K15.notWhole (k:=1) (by decide) (succ_pos _) _,λp hp=> ?_⟩⟩
  have hcut:Z0 (V.str "do":: [V.ref a0,V.ref a1]) (some 1) none=[V.ref a0,V.ref a1]:=AJ _ 1
  rw[hcut]
  have s1:Same H (upd H p (.tup [V.ref a0,V.ref a1])):=A6 hp _
  have hI:Its n H [V.ref a0,V.ref a1] [t,u]:=(.tm h1 ⟨ho.1,by omega,by omega⟩ (.tm h2 ⟨ho.2,by omega,by omega⟩ .nil))
  have hzl:([V.ref a0,V.ref a1]:List V).length<=3:=by simp
  have hp1:(upd H p (.tup [V.ref a0,V.ref a1])) p=some (.tup [V.ref a0,V.ref a1]):=A2
  generalize [V.ref a0,V.ref a1]=zs at s1 hI hzl hp1⊢
  generalize upd H p (.tup zs)=H1 at s1 hp1⊢
  refine⟨p,rfl,⟨_,SqT.of hp1⟩,X0 (xs:=zs) (λi ys H'=>∃d r,Same H1 H'/\ys=d.map txv/\Its n H (zs.drop i) r/\d++r=[t,u]) ⟨[],_,Same.refl _,rfl,hI,rfl⟩ ?_ ?_ ?_⟩
  ·rintro i ys H' hi ⟨d,r,s',rfl,hI',e⟩
   refine⟨SqT.of (s' _ _ hp1), ?_⟩
   have hel:=congrArg List.length e
   simp only[length_append,length_cons,length_nil]at hel
   rw[length_map]
   exact le_trans (show d.length<=3 by omega) (by decide)
  ·rintro i v ys H' hv ⟨d,r,s',rfl,hI',e⟩
   obtain⟨hi,hvi⟩:=List.getElem?_eq_some_iff.mp hv
   rw[drop_eq_getElem_cons hi,hvi]at hI'
   cases hI' with
   |str h'=>exact⟨_,rfl,_,_,_,_,rfl,.str _,FQ,_,rfl,ifF nZ ⟨d,r,s',rfl,h',e⟩⟩
   | @tm b t' zs' r' ht' hc' h'=>
    obtain⟨a',xs',ps',ea,ha',_⟩:=Sh.shape_of ht'
    cases ea
    have s2:=s1.trans s'
    refine⟨_,rfl,_,_,_,_,rfl,.tup (s2 _ _ ha'),FN,_,rfl,ifT rfl ⟨_,rfl,t',_,rfl,ht'.mono (BU.tups_of s2),hc'.1,hc'.2.1,hc'.2.2,λH3 s3=>⟨d++ [t'],r',s'.trans s3,by rw[map_append];rfl,h',by rw[List.append_assoc];exact e⟩⟩⟩
  rintro ys H' ⟨d,r,s',rfl,hI',e⟩ D hD
  rw[drop_length]at hI'
  cases hI'
  rw[append_nil]at e
  subst e
  have s4:=s1.trans (s'.trans (A6 hD (.lst ([t,u].map txv))))
  have hD2:(upd H' D (.lst ([t,u].map txv))) D=some (.lst ([t,u].map txv)):=A2
  have ha4:=s4 _ _ ha
  have q':=q _ s4
  generalize upd H' D (.lst ([t,u].map txv))=H4 at hD2 ha4 q'⊢
  refine⟨_,rfl,.inl ⟨rfl,_,rfl,ifF (by decide) ?_⟩⟩
  refine⟨_,rfl,.inl ⟨rfl,_,rfl,ifF (by decide) ?_⟩⟩
  refine⟨_,rfl,.inl ⟨rfl,_,rfl,ifF (by decide) ?_⟩⟩
  refine⟨_,rfl,.inl ⟨rfl,_,rfl,ifF (by decide) ?_⟩⟩
  refine⟨_,rfl,.inl ⟨rfl,_,rfl,ifF (by decide) ?_⟩⟩
  have g0:=cTZ
  have i1:=(show Is (tx (Sh.tx [32] t)) (Sh.tx [32] t)from rfl)
  have g1:=g0.app i1
  have i2:=ZN
  have g2:=g1.app i2
  have i3:=(show Is (tx (Sh.tx [32] u)) (Sh.tx [32] u)from rfl)
  have g3:=g2.app i3
  have i4:=VW
  have g4:=g3.app i4
  have e:=g4.of_eq (l':=Sh.tx [32] (.do_ t u)) (by rw[Sh.tx];simp)
  refine⟨_,rfl,(ixL hD2 rfl (.inr (.inl ⟨_,_,rfl,rfl,E5 g0 i1 (by simp only[length_append,length_cons,length_nil];omega),.inr (.inl ⟨_,_,rfl,rfl,E5 g1 i2 (by simp only[length_append,length_cons,length_nil];omega),⟨_,rfl,(ixL hD2 rfl (.inr (.inl ⟨_,_,rfl,rfl,E5 g2 i3 (by simp only[length_append,length_cons,length_nil];omega),.inr (.inl ⟨_,_,rfl,rfl,E5 g3 i4 (by simp only[length_append,length_cons,length_nil];omega), ?_⟩)⟩)))⟩⟩)⟩)))⟩
  unfold Is at e
  rw[e]
  exact q'
def dnZ:Sp:=λ_ _ _ _=>False
theorem dLZ{CX:CXT}{k:Nat}{f:Addr}{fd:FuncData}{ps:List Str}:FnOk P w K mg base CX k f fd ps dnZ:=⟨λ_ _ _ _ h=>h.elim,λ_ _ _ _ _ _ _ _ _ _ _ _ _ h=>h.elim⟩
theorem ok_law_text(F:Fun K "_law_text" "_law_text" s_law_text f fd)(B:NoGL mg)(b:Binds K fd SU [])(k:kZ K (.ref f)=true)(m:mg "_law_text"=some (.ref f)):∀n,FnOk P w K mg base CX0 (n+1) f fd SU (GU n)
 |0=>IF F B (sp:=dnZ) dLZ (λj h=>nomatch h) b k m
 |n+1=>IF F B (ok_law_text F B b k m n) (λj h=>by injection h with h;rw[h]) b k m
end
end Gn
end RD
namespace RD
open PySem L2
namespace Gn
seal PE PT PW PA PS PSs PTs PI PG PGs PO
abbrev s_law_shown:Stmt:=RD.top 52
abbrev GH:List Str:=["_law_program_here","_law_rows"]
theorem sc_law_shown:FnScope GH ["_law_program_here"] (A5 s_law_shown):=fS
theorem dpZ:Is (") = ":Str) [41,32,61,32]:=by unfold Is;decide +kernel
theorem ejZ{d:Fd}(h:FitG d):b6Z d:=⟨h.1,by have:=h.2.1;omega,by have:=h.2.2;omega⟩
section
variable{P:Program}{w:World}{K:FZ}{mg:Str->Option Value}{base:Heap}{f QU:Addr}{fd QH:FuncData}
inductive spLShownW(vs:List V)(H:Hp)(Q:VK):Prop
 |mk:∀fs p us,(vs=[.ref p])->(H p=some (.tup us))->(BU.All2 (FdAt H) fs us)->((∀d∈fs,FitG d))->(fs.length<=12)->(∀H',Same H H'->Q (.str (tx (Sh.ptx [32] fs))) H')->spLShownW vs H Q
def OC:Sp:=λvs H Q _=>spLShownW vs H Q
theorem ok_law_shown(F:Fun K "_law_shown" "_law_shown" s_law_shown f fd)
  (T8:Cn P w K mg base CX0 17 "_law_text" SU (GU 16)):
  FnOk P w K mg base CX0 18 f fd ["_law_program_here"] OC:=by
 obtain⟨QU,QH,T8,AZ,AV,BA⟩:=T8
 refine F.ok sc_law_shown (λvs H Q E h=> ?_) (λcdv A outer s H vs Q E hr h=> ?_)
 ·obtain⟨fs,p,us,rfl,_⟩:=h
  rfl
 obtain⟨fs,p,us,rfl,hp,hus,hf,hl,q⟩:=h
 have nd:=sc_law_shown.nd
 have hu:=hr.units0
 have hul:fs.length=us.length:=hus.len
 refine⟨_,(A1 (U8 (i:=1) nd rfl rfl (cS (N:=GH) (sc:=A5 s_law_shown) (caps:=[]) (ns:=[])) rfl rfl rfl (LY (K:=K) (pv 0)) (λ_ _ _ _ _=>X8) (λ_ _ _ _ _=>(A8 D3 (A8 D3 (A8 D3 (A8 D3 (A8 D3 A9 (ixE K w (pv 0) A4)) A9) (CP (K:=K) PySem.F.plainAttrs_str PySem.F.slot_str_join PySem.F.type_str_join (DW (K:=K)) A9 (A0 (ixE K w (pv 0) A4) A3))) A9) (C3 T8 (hr.mono (by omega)) rfl BA AV AZ .nil C6 (A0 (ixE K w (pv 0) A4) A3)))))
   (A7 (B2 (CP (K:=K) PySem.F.plainAttrs_str PySem.F.slot_str_join PySem.F.type_str_join (DW (K:=K)) A9 (A0 (pv 1) A3))))), ?_⟩
 refine⟨_,rfl,p,rfl,⟨_,SqT.of hp⟩,X0 (xs:=us) (λi ys H2=>Same H H2/\ys=((fs.map (Sh.ftx [32])).map λx=>V.str (tx x)).take i) ⟨Same.refl _,rfl⟩ ?_ ?_ ?_⟩
 ·rintro i ys H2 hi ⟨s2,rfl⟩
  refine⟨SqT.of (s2 _ _ hp), ?_⟩
  rw[length_take,length_map,length_map]
  exact le_trans (Nat.min_le_right _ _) (le_trans hl (by decide))
 ·rintro i x ys H2 hx ⟨s2,rfl⟩
  refine BH ?_
  obtain⟨d,hd,hv⟩:=hus.get hx
  have hfd:=hf d (mem_of_getElem? hd)
  obtain⟨⟨f1,f2,f3,f4,f5⟩,hw,hz⟩:=hfd
  obtain⟨a,b,c,rfl,ha,hc,hb⟩:=hv.mono (BU.tups_of s2)
  have hnm:=Q8 _ f1.1
  have hns:=KZ d.names f2
  have hlb:=Sh.lx (g:=[32]) X4 Q8 (by decide) d.body f4
  have inm:Is (tx d.name) d.name:=rfl
  have g1:=i_def.app inm
  have g2:=g1.app NF
  have hj:=Is.join (ls:=d.names) i_cs rfl
  have g3:=g2.app hj
  have g4:=g3.app dpZ
  have ib:Is (tx (Sh.tx [32] d.body)) (Sh.tx [32] d.body):=rfl
  have g5:=g4.app ib
  have hil:=FR [44,32] d.names
  simp only[length_cons,length_nil]at hil
  have e:=g5.of_eq (l':=Sh.ftx [32] d) (by unfold Sh.ftx;rw[<-WV];simp)
  refine⟨_,rfl,(ixT ha rfl (.inr (.inl ⟨_,_,rfl,rfl,E5 i_def inm (by simp only[length_cons,length_nil];omega),.inr (.inl ⟨_,_,rfl,rfl,E5 g1 NF (by simp only[length_append,length_cons,length_nil];omega), ?_⟩)⟩)))⟩
  refine⟨rfl,_,rfl,(ixT ha rfl ⟨_,c,d.names.map tx,rfl,rfl,.inr (SqT.of (by rw[hc,map_map];rfl)), ?_,.inr (.inl ⟨_,_,rfl,rfl,E5 g2 hj (by simp only[length_append,length_cons,length_nil];omega),.inr (.inl ⟨_,_,rfl,rfl,E5 g3 dpZ (by simp only[length_append,length_cons,length_nil];omega), ?_⟩)⟩)⟩)⟩
  ·rw[NI,length_map,i_cs.len]
   simp only[length_cons,length_nil]
   omega
  refine⟨_,rfl,(ixT ha rfl ⟨d.body,b,rfl,hb,f4,by omega,f5,λH3 s3=> .inr (.inl ⟨_,_,rfl,rfl,E5 g4 ib (by simp only[length_append,length_cons,length_nil];omega),s2.trans s3, ?_⟩)⟩)⟩
  have h3:((fs.map (Sh.ftx [32])).map λx=>V.str (tx x))[i]? =some (V.str (tx (Sh.ftx [32] d))):=by
   rw[getElem?_map,getElem?_map,hd];rfl
  rw[BU.take_one h3]
  unfold Is at e
  rw[e]
 ·rintro ys H2 ⟨s2,rfl⟩ r hr'
  have e1:((fs.map (Sh.ftx [32])).map λx=>V.str (tx x)).take us.length=((fs.map (Sh.ftx [32])).map tx).map V.str:=by
   rw[take_of_length_le (by rw[length_map,length_map];omega)]
   simp only[map_map]
   rfl
  rw[e1]
  have hj:=Is.join (ls:=fs.map (Sh.ftx [32])) i_nl rfl
  have hsum:=UZ fs λd hd=>ejZ (hf d hd)
  refine⟨rfl,_,rfl,_,r,_,rfl,rfl,.inl (SqL.of A2), ?_, ?_⟩
  ·rw[NI,length_map,length_map,i_nl.len]
   simp only[length_cons,length_nil]
   omega
  ·rw[WT]at hj
   rw[hj]
   exact q _ (s2.trans (A6 hr' _))
end
end Gn
end RD
namespace RD
open PySem L2
namespace Gn
theorem MG(x:Wd)(h:K10.isName x=true):Sh.Wo x:=by
 simp only[K10.isName,Bool.and_eq_true,Bool.not_eq_true',Bool.or_eq_false_iff,decide_eq_false_iff_not]at h
 obtain⟨⟨⟨h1,h2⟩,h3⟩,h4,h5⟩:=h
 refine⟨h5,h1, ?_⟩
 cases x with
 |nil=>exact absurd rfl h1
 |cons c r=>
  have hc:K10.letter c=true:=h4
  have hf:K10.figure c=false:=by
   simp only[K10.letter,decide_eq_true_eq,mem_cons,not_mem_nil,or_false]at hc
   simp only[K10.figure,decide_eq_false_iff_not,mem_cons,not_mem_nil,or_false]
   omega
  show(if K10.figure c=true then _ else decide _)=true
  rw[hf,if_neg (by decide)]
  exact decide_eq_true (by omega)
theorem RO(x:Wd)(h:K10.isNum x=true):Sh.Wo x:=by
 simp only[K10.isNum,Bool.and_eq_true,Bool.not_eq_true',Bool.or_eq_false_iff,decide_eq_false_iff_not,Bool.or_eq_true,decide_eq_true_eq]at h
 obtain⟨⟨h1,h2⟩,h3,h4⟩:=h
 refine⟨?_,h1, ?_⟩
 ·refine all_eq_true.mpr λc hc=> ?_
  have:=all_eq_true.mp h3 c hc
  unfold K10.long;rw[this,Bool.or_true]
 ·cases x with
  |nil=>exact absurd rfl h1
  |cons c r=>
   have hc:K10.figure c=true:=all_eq_true.mp h3 c (mem_cons_self ..)
   show(if K10.figure c=true then _ else _)=true
   rw[if_pos hc,h3,decide_eq_true (show(c::r).length<=12 by omega)]
   rcases h4 with h4|h4
   ·have:c≠48:=λe=>h4 (by rw[e];rfl)
    simp[this]
   ·rw[h4];simp
theorem diZ{fs:List Fd}(hf:∀d∈fs,FitG d):(fs.map λf=>Sh.wt f.body+76).sum<=1038*fs.length:=by
 induction fs with
 |nil=>exact le_refl _
 |cons d r ih=>
  have:=(hf d (mem_cons_self ..)).2.1
  have:=ih λy hy=>hf y (mem_cons_of_mem _ hy)
  simp only[map_cons,sum_cons,length_cons]
  omega
theorem d5Z{fs:List Fd}(hf:∀d∈fs,FitG d):(fs.map λf=>f.body.size).sum<=49*fs.length:=by
 induction fs with
 |nil=>exact le_refl _
 |cons d r ih=>
  have:=(hf d (mem_cons_self ..)).2.2
  have:=ih λy hy=>hf y (mem_cons_of_mem _ hy)
  simp only[map_cons,sum_cons,length_cons]
  omega
theorem words_ptx{g:List Nat}{fs:List Fd}(G:Sh.Gp g)(hf:∀d∈fs,FitG d):K10.words (g++(Sh.ptx g fs++g))=some (fs.flatMap Sh.ftk)/\K10.words (Sh.ptx g fs)=some (fs.flatMap Sh.ftk):=by
 have hF:∀d∈fs,Sh.FOk K10.isNum K10.isName d:=λd hd=>(hf d hd).1
 have e1:=Sh.wp RO MG G hF (rest:=g) (l:=[]) (by have:=G.nl [];rwa [append_nil]at this) (by have:=Sh.w_gap G.gap [];rw[append_nil]at this;rw[this];rfl)
 have e2:=Sh.wp RO MG G hF (rest:=[]) (l:=[]) Sh.NL.nil rfl
 rw[append_nil]at e1 e2
 rw[append_nil]at e2
 exact⟨by rw[Sh.w_gap G.gap,e1],e2⟩
theorem read_words{fs:List Fd}(hf:∀d∈fs,FitG d)(h0:1<=fs.length)(h3:fs.length<=3):O7 K10.isNum K10.isName (fs.flatMap Sh.ftk)=some fs:=
 Sh.read_shown (by decide) (by decide) (λd hd=>(hf d hd).1) (by intro e;rw[e]at h0;cases h0) (by omega) (by have:=d5Z hf;omega)
theorem long_sm{c:Nat}(h:K10.long c=true):c<16^8:=by
 simp only[K10.long,K10.letter,K10.figure,Bool.or_eq_true,decide_eq_true_eq,mem_cons,not_mem_nil,or_false]at h
 omega
theorem mark_sm{c:Nat}(h:K10.mark c=true):c<16^8:=by
 simp only[K10.mark,decide_eq_true_eq,mem_cons,not_mem_nil,or_false]at h
 omega
theorem c4Z{c:Nat}(h:K10.gap c=true):c<16^8:=by
 simp only[K10.gap,decide_eq_true_eq,mem_cons,not_mem_nil,or_false]at h
 omega
theorem UJ:∀ {l:List Nat} {d:Nat},d∈l.takeWhile K10.long->K10.long d=true
 | [],d,h=>nomatch h
 |c::r,d,h=>by
  rw[List.takeWhile_cons]at h
  split at h
  ·rename_i e
   rcases cZ h with rfl|h
   ·exact e
   ·exact UJ h
  ·cases h
theorem XH{c:Nat}{r w:List Nat}(h:K10.wordAt (c::r)=some w):(c::r).take w.length=w/\∀d∈w,d<16^8:=by
 rw[K10.wordAt_cons]at h
 split at h
 ·split at h
  ·cases h
   refine⟨(List.prefix_iff_eq_take.mp (List.takeWhile_prefix _)).symm,λd hd=>long_sm ?_⟩
   exact UJ hd
  ·cases h
 ·split at h
  ·rename_i e
   cases h
   exact⟨e,by decide⟩
  ·split at h
   ·rename_i e
    cases h
    exact⟨rfl,λd hd=>by rw[sZ hd];exact mark_sm e⟩
   ·cases h
theorem JB:∀(n:Nat) (t:List Nat) (ws:List Wd),t.length<=n->K10.cut n t=some ws->∀c∈t,c<16^8
 |0,t,ws,hl,_,c,hc=>by
  have:t=[]:=length_eq_zero_iff.mp (by omega)
  rw[this]at hc;cases hc
 |n+1,[],_,_,_,c,hc=>nomatch hc
 |n+1,d::r,ws,hl,h,c,hc=>by
  unfold K10.cut at h
  split at h
  ·rename_i hg
   rcases cZ hc with rfl|hc
   ·exact c4Z hg
   ·exact JB n r ws (by simp only[length_cons]at hl;omega) h c hc
  ·split at h
   ·cases h
   ·rename_i w hw
    obtain⟨z,hz,_⟩:=map_eq_some_iff.mp h
    obtain⟨e1,e2⟩:=XH hw
    have hp:=K10.wordAt_pos hw
    rw[<-take_append_drop w.length (d::r),e1]at hc
    rcases mem_append.mp hc with hc|hc
    ·exact e2 c hc
    ·exact JB n _ z (by rw[length_drop];simp only[length_cons]at hl⊢;omega) hz c hc
theorem easy_of{l:List Nat}{fs:List Fd}(hw:K10.words l=some (fs.flatMap Sh.ftk))(hl:l.length<=4000)(hf:∀d∈fs,FitG d)(h0:1<=fs.length)(h3:fs.length<=3):Easy l:=by
 refine⟨by omega,JB _ _ _ (le_refl _) hw,λ_ _ _ _ _=>trivial,λws fs' e1 e2 d hd=> ?_⟩
 rw[hw]at e1
 cases e1
 have hr:=read_words hf h0 h3
 unfold O7 at hr
 split at hr
 ·obtain⟨g,e3,e4⟩:=bind_eq_some_iff.mp hr
  have e5:g=fs':=Option.some.inj (e3.symm.trans e2)
  split at e4
  ·cases e4
  ·cases e4
   subst e5
   exact le_trans (hf d hd).2.2 (by decide)
 ·cases hr
end Gn
end RD
namespace RD
open PySem L2
namespace Gn
theorem txs_of:∀zs:List Str,∃ps:List (List Nat),zs=ps.map tx
 | []=>⟨[],rfl⟩
 |z::r=>by
  obtain⟨ps,e⟩:=txs_of r
  refine⟨z.cps.toList::ps, ?_⟩
  rw[map_cons,<-e]
theorem tx_inj'{a b:List Nat}(h:tx a=tx b):a=b:=by
 have:=congrArg (λz:Str=>z.cps.toList) h
 simpa using this
end Gn
end RD
namespace RD
namespace Gr
def cls(w:Wd):Fin 12:=if(K10.isName w||K10.isNum w)=true then 0 else if w=Z3 then 1 else if w=wNo then 1 else if w=E6 then 2 else if w=D7 then 3 else if w=EL then 4 else if w=DK then 5 else if w=T6 then 6 else if w=L4 then 7
 else if w=O5 then 8 else if w=P9 then 8 else if w=wIn then 8 else if w=K3 then 8 else if w=wIf then 9 else if w=AK then 9 else if w=wFn then 9 else if E9 w=true then 9 else if(decide (1<=E8 w)||decide (w=P0))=true then 10 else 11
def S(c:Fin 12):Bool:=decide (c∈([0,1,2,4,9]:List (Fin 12)))
def E(c:Fin 12):Bool:=decide (c∈([0,1,3,5]:List (Fin 12)))
def ok(u v:Fin 12):Bool:=if u=6 then decide (v=0)else if v=6 then E u else if u=7 then !decide (v=8\/v=3)else if v=0 then !E u else true
abbrev is(c:Fin 12)(x:Fin 12):Bool:=decide (x=c)
structure Wt (δ:Wd->Int):Prop where
 nm:∀w,K10.isName w=true->δ w=0
 nu:∀w,K10.isNum w=true->δ w=0
 sg:∀w,1<=E8 w->δ w=0
 on:∀w,E9 w=true->δ w=0
 yes:δ Z3=0
 no:δ wNo=0
 com:δ L4=0
 dfn:δ T6=0
 bang:δ P0=0
 if_:δ wIf+δ O5+δ P9=0
 let_:δ AK+δ wIn=0
 fn:δ wFn+δ K3=0
 br:δ E6+δ D7=0
 sq:δ EL+δ DK=0
section
variable{δ:Wd->Int}{ws:List Wd}
def su(δ:Wd->Int)(ws:List Wd)(i:Nat):Int:=((ws.take i).map δ).sum
abbrev cl(ws:List Wd)(i:Nat):Fin 12:=cls (ahead ws i)
structure Sg (δ:Wd->Int) (ws:List Wd) (i j:Nat) (a b:Fin 12->Bool) (z:Int):Prop where
 lt:i<j
 le:j<=ws.length
 st:a (cl ws i)=true
 en:b (cl ws (j - 1))=true
 ad:∀k,i<=k->k+1<j->ok (cl ws k) (cl ws (k+1))=true
 su:Gr.su δ ws j=Gr.su δ ws i+z
theorem Sg.app{i k j:Nat}{a b c d:Fin 12->Bool}{y z:Int}(p:Sg δ ws i k a b y)(q:Sg δ ws k j c d z)(h:∀u v,b u=true->c v=true->ok u v=true):Sg δ ws i j a d (y+z) where
 lt:=lt_trans p.lt q.lt
 le:=q.le
 st:=p.st
 en:=q.en
 ad:=λl h1 h2=>by
  by_cases e:l+1<k
  ·exact p.ad l h1 e
  ·by_cases e2:k<=l
   ·exact q.ad l e2 h2
   ·have e3:l=k - 1:=by omega
    have e4:l+1=k:=by omega
    rw[e4,e3]
    exact h _ _ p.en q.st
 su:=by rw[q.su,p.su];omega
theorem Sg.to{i j:Nat}{a b c d:Fin 12->Bool}{y z:Int}(p:Sg δ ws i j a b y)(h1:∀u,a u=true->c u=true)(h2:∀u,b u=true->d u=true)(h3:y=z):Sg δ ws i j c d z:=⟨p.lt,p.le,h1 _ p.st,h2 _ p.en,p.ad,h3▸p.su⟩
theorem bpZ{i:Nat}(h:ahead ws i≠ []):su δ ws (i+1)=su δ ws i+δ (ahead ws i):=by
 have hi:=T0 h
 have e:ahead ws i=ws[i]:=by simp[ahead,hi]
 unfold su
 rw[take_succ_eq_append_getElem hi,map_append,sum_append,e]
 simp
theorem Sg.one{i:Nat}{w:Wd}(h:ahead ws i=w)(hn:w≠ []):Sg δ ws i (i+1) (is (cls w)) (is (cls w)) (δ w) where
 lt:=lt_succ_self _
 le:=T0 (by rw[h];exact hn)
 st:=by simp[is,cl,h]
 en:=by simp[is,cl,h]
 ad:=λk h1 h2=>by omega
 su:=by rw[bpZ (by rw[h];exact hn),h]
theorem Sg.exp{w:Wd}{i j:Nat}(h:expect ws w i=some j)(hn:w≠ []):Sg δ ws i j (is (cls w)) (is (cls w)) (δ w):=by
 obtain⟨e,rfl⟩:=W8 h
 exact Sg.one e hn
theorem TN{w:Wd}(h:K10.isName w=true):w≠ []:=λe=>by rw[e]at h;revert h;decide
theorem cgZ{w:Wd}(h:K10.isNum w=true):w≠ []:=λe=>by rw[e]at h;revert h;decide
theorem OO{w:Wd}(h:K10.isName w=true):cls w=0:=by unfold cls;rw[h];rfl
theorem a6Z{w:Wd}(h:K10.isNum w=true):cls w=0:=by unfold cls;rw[h,Bool.or_true];rfl
variable(hW:Wt δ)
include hW
theorem GZ{i:Nat}{r:Wd×Nat}(h:P1 K10.isName ws i=some r):Sg δ ws i r.2 (is 0) (is 0) 0:=by
 unfold P1 at h
 split at h
 ·rename_i e
  cases h
  have:=Sg.one (δ:=δ) (ws:=ws) (i:=i) rfl (TN e)
  rw[OO e,hW.nm _ e]at this
  exact this
 ·cases h
def caZ:Nat->Fin 12->Bool
 |0,c=>S c||is 3 c
 |_+1,c=>is 7 c||is 3 c
theorem DF{α:Type}{one:Nat->Option (α×Nat)}(h1:∀i r,one i=some r->Sg δ ws i r.2 S E 0):∀ {n:Nat} {acc:List α} {i:Nat} {r:List α×Nat},K6 ws one n acc i=some r->Sg δ ws i r.2 (caZ acc.length) (is 3) (δ D7)
 |0,acc,i,r,h=>by cases h
 |n+1,acc,i,r,h=>by
  unfold K6 at h
  cases hg:P7 ws acc.length i with
  |none=>rw[hg]at h;cases h
  |some g=>
   rw[hg]at h
   obtain⟨b,j⟩:=g
   unfold P7 at hg
   split at hg
   ·rename_i e
    cases hg
    cases h
    have:=Sg.one (δ:=δ) (ws:=ws) (i:=i) e (by simp)
    refine this.to (λu hu=> ?_) (λu hu=>hu) rfl
    have hu:u=3:=by have:u=cls D7:=by simpa [is]using hu
                    rw[this];decide
    subst hu
    cases acc.length<;>rfl
   ·split at hg
    ·cases hg
    ·split at hg
     ·rename_i hz
      cases he:expect ws L4 i with
      |none=>rw[he]at hg;cases hg
      |some k=>
       rw[he]at hg
       cases hg
       dsimp only at h
       cases ho:one j with
       |none=>rw[ho]at h;cases h
       |some x=>
        rw[ho]at h
        have p1:=Sg.exp (δ:=δ) he (by simp)
        have p2:=h1 j x ho
        have p3:=DF h1 h
        obtain⟨m,em⟩:∃m,acc.length=m+1:=⟨acc.length - 1,by omega⟩
        rw[length_append,length_singleton]at p3
        refine((p1.app p2 ?_).app p3 ?_).to ?_ ?_ ?_
        ·decide
        ·exact(by decide:∀(u v:Fin 12),E u=true->caZ 1 v=true->ok u v=true)
        ·rw[em];exact(by decide:∀u,is (cls L4) u=true->caZ 1 u=true)
        ·exact λu hu=>hu
        ·rw[hW.com];omega
     ·rename_i hz
      cases hg
      dsimp only at h
      cases ho:one i with
      |none=>rw[ho]at h;cases h
      |some x=>
       rw[ho]at h
       have p2:=h1 i x ho
       have p3:=DF h1 h
       have em:acc.length=0:=by omega
       rw[length_append,length_singleton,em]at p3
       refine(p2.app p3 ?_).to ?_ ?_ ?_
       ·decide
       ·rw[em];decide
       ·exact λu hu=>hu
       ·omega
theorem aaZ{i:Nat}{r:List Wd×Nat}(h:BJ K10.isName ws i=some r):Sg δ ws i r.2 (is 2) (is 3) 0:=by
 unfold BJ at h
 obtain⟨j,e1,e2⟩:=bind_eq_some_iff.mp h
 refine((Sg.exp e1 (by simp)).app (DF hW (λi r h=>(GZ hW h).to (by decide) (by decide) rfl) e2) ?_).to ?_ (λu hu=>hu) hW.br
 ·decide
 ·decide
variable{row:Nat->Nat->Nat->Option (Tm×Nat)}(hr:∀least level i r,1<=least->row least level i=some r->Sg δ ws i r.2 S E 0)
include hr
theorem XZ{level i:Nat}{r:List Tm×Nat}(h:BC ws row level i=some r):Sg δ ws i r.2 (is 2) (is 3) 0:=by
 unfold BC at h
 obtain⟨j,e1,e2⟩:=bind_eq_some_iff.mp h
 refine((Sg.exp e1 (by simp)).app (DF hW (λi r h=>hr 1 level i r (le_refl 1) h) e2) ?_).to ?_ (λu hu=>hu) hW.br
 ·decide
 ·decide
theorem YL{level i:Nat}{r:Tm×Nat}(h:U9 K10.isNum K10.isName ws row level i=some r):Sg δ ws i r.2 S E 0:=by
 unfold U9 at h
 split at h
 ·rename_i e
  obtain⟨q,e1,e2⟩:=bind_eq_some_iff.mp h
  obtain⟨k,e3,rfl⟩:=map_eq_some_iff.mp e2
  refine(((Sg.one e (by simp)).app (hr _ _ _ q (le_refl 1) e1) ?_).app (Sg.exp e3 (by simp)) ?_).to ?_ ?_ (by have:=hW.br;omega)
  all_goals decide
 ·split at h
  ·rename_i e
   obtain⟨k,e3,rfl⟩:=map_eq_some_iff.mp h
   refine((Sg.one e (by simp)).app (Sg.exp e3 (by simp)) ?_).to ?_ ?_ hW.sq
   all_goals decide
  ·split at h
   ·rename_i e
    cases h
    have hx:ahead ws i=Z3\/ahead ws i=wNo:=by simpa using e
    rcases hx with e|e
    ·exact(Sg.one e (by simp)).to (by decide) (by decide) hW.yes
    ·exact(Sg.one e (by simp)).to (by decide) (by decide) hW.no
   ·split at h
    ·rename_i e
     cases h
     have:=Sg.one (δ:=δ) (ws:=ws) (i:=i) rfl (cgZ e)
     rw[a6Z e,hW.nu _ e]at this
     exact this.to (by decide) (by decide) rfl
    ·split at h
     ·rename_i e
      have:=Sg.one (δ:=δ) (ws:=ws) (i:=i) rfl (TN e)
      rw[OO e,hW.nm _ e]at this
      unfold BL at h
      split at h
      ·obtain⟨q,e1,rfl⟩:=map_eq_some_iff.mp h
       exact(this.app (XZ hW hr e1) (by decide)).to (by decide) (by decide) (by omega)
      ·cases h
       exact this.to (by decide) (by decide) rfl
     ·cases h
theorem bJZ{level i:Nat}{r:Tm×Nat}(h:rTW K10.isNum K10.isName ws row level i=some r):Sg δ ws i r.2 S E 0:=by
 have hr1:∀level i r,row 1 level i=some r->Sg δ ws i r.2 S E 0:=λlevel i r=>hr 1 level i r (le_refl 1)
 unfold rTW at h
 split at h
 ·unfold rIf at h
  simp only[bind_eq_some_iff,map_eq_some_iff]at h
  obtain⟨i1,e1,r1,e2,i2,e3,r2,e4,i3,e5,r3,e6,rfl⟩:=h
  exact((((((Sg.exp e1 (by simp)).app (hr1 _ _ r1 e2) (by decide)).app (Sg.exp e3 (by simp)) (by decide)).app (hr1 _ _ r2 e4) (by decide)).app (Sg.exp e5 (by simp)) (by decide)).app (hr1 _ _ r3 e6) (by decide)).to (by decide) (by decide) (by have:=hW.if_;omega)
 ·split at h
  ·unfold RJ at h
   simp only[bind_eq_some_iff,map_eq_some_iff]at h
   obtain⟨i1,e1,x,e2,i2,e3,r1,e4,i3,e5,r2,e6,rfl⟩:=h
   exact((((((Sg.exp e1 (by simp)).app (GZ hW e2) (by decide)).app (Sg.exp e3 (by simp)) (by decide)).app (hr1 _ _ r1 e4) (by decide)).app (Sg.exp e5 (by simp)) (by decide)).app (hr1 _ _ r2 e6) (by decide)).to (by decide) (by decide) (by have:=hW.let_;have:=hW.sg wEq (by decide);omega)
  ·split at h
   ·unfold rFn at h
    simp only[bind_eq_some_iff,map_eq_some_iff]at h
    obtain⟨i1,e1,x,e2,i2,e3,r1,e4,rfl⟩:=h
    exact((((Sg.exp e1 (by simp)).app (GZ hW e2) (by decide)).app (Sg.exp e3 (by simp)) (by decide)).app (hr1 _ _ r1 e4) (by decide)).to (by decide) (by decide) (by have:=hW.fn;omega)
   ·exact YL hW hr h
theorem bVZ{level i0:Nat}:∀ {m:Nat} {t:Tm} {i:Nat} {r:Tm×Nat},Sg δ ws i0 i S E 0->T1 K10.isNum K10.isName ws row level m t i=some r->Sg δ ws i0 r.2 S E 0
 |0,t,i,r,p,h=>by cases h;exact p
 |m+1,t,i,r,p,h=>by
  unfold T1 at h
  split at h
  ·rename_i e
   obtain⟨q,e1,e2⟩:=bind_eq_some_iff.mp h
   exact bVZ (((p.app (Sg.one e (by simp)) (by decide)).app (bJZ hW hr e1) (by decide)).to (λ_ h=>h) (λ_ h=>h) (by rw[hW.bang];omega)) e2
  ·cases h;exact p
theorem ZJ{least level i0:Nat}(hl:1<=least):∀ {m:Nat} {t:Tm} {i:Nat} {r:Tm×Nat},Sg δ ws i0 i S E 0->N2 ws row least level m t i=some r->Sg δ ws i0 r.2 S E 0
 |0,t,i,r,p,h=>by cases h;exact p
 |m+1,t,i,r,p,h=>by
  unfold N2 at h
  split at h
  ·rename_i e
   obtain⟨q,e1,e2⟩:=bind_eq_some_iff.mp h
   split at e2
   ·cases e2
   have hs:1<=E8 (ahead ws i):=le_trans hl e
   have p1:=Sg.one (δ:=δ) (ws:=ws) (i:=i) rfl (Y8 hs).1
   have hc:cls (ahead ws i)=10:=by
    generalize ahead ws i=w at hs
    unfold E8 at hs
    repeat' split at hs
    all_goals first|(rename_i e;subst e;decide)|omega
   rw[hW.sg _ hs,hc]at p1
   exact ZJ hl (((p.app p1 (by decide)).app (hr _ _ _ q (BO _) e1) (by decide)).to (λ_ h=>h) (λ_ h=>h) (by omega)) e2
  ·cases h;exact p
theorem IC{op:Nat->Nat->Option (Tm×Nat)}(ho:∀level i r,op level i=some r->Sg δ ws i r.2 S E 0){level i:Nat}{r:Tm×Nat}(h:J6 K10.isNum K10.isName ws row op level i=some r):Sg δ ws i r.2 S E 0:=by
 unfold J6 at h
 split at h
 ·cases h
 split at h
 ·rename_i e
  obtain⟨q,e1,rfl⟩:=map_eq_some_iff.mp h
  have p1:=Sg.one (δ:=δ) (ws:=ws) (i:=i) rfl (AE e).1
  have hc:cls (ahead ws i)=9:=by
   have hx:((ahead ws i=AM\/ahead ws i=AR)\/ahead ws i=U7)\/ahead ws i=FH:=by simpa [E9]using e
   rcases hx with((e|e)|e)|e<;>rw[e]<;>decide
  rw[hW.on _ e,hc]at p1
  exact(p1.app (ho _ _ q e1) (by decide)).to (by decide) (λ_ h=>h) (by omega)
 ·obtain⟨q,e1,e2⟩:=bind_eq_some_iff.mp h
  exact bVZ hW hr (bJZ hW hr e1) e2
theorem ZW{i:Nat}{r:Fd×Nat}(h:O8 K10.isName ws row i=some r):Sg δ ws i r.2 (is 6) E 0:=by
 unfold O8 at h
 simp only[bind_eq_some_iff,map_eq_some_iff]at h
 obtain⟨i1,e1,x,e2,ns,e3,i2,e4,q,e5,rfl⟩:=h
 exact(((((Sg.exp e1 (by simp)).app (GZ hW e2) (by decide)).app (aaZ hW e3) (by decide)).app (Sg.exp e4 (by simp)) (by decide)).app (hr _ _ _ q (le_refl 1) e5) (by decide)).to (by decide) (λ_ h=>h) (by have:=hW.sg wEq (by decide);have:=hW.dfn;omega)
theorem TJ{i0:Nat}:∀ {m:Nat} {acc:List Fd} {i:Nat} {r:List Fd×Nat},acc.length<=12->12<acc.length+m->Sg δ ws i0 i (is 6) E 0->N8 K10.isName ws row m acc i=some r->Sg δ ws i0 r.2 (is 6) E 0/\ahead ws r.2=[]
 |0,acc,i,r,h1,h2,p,h=>by omega
 |m+1,acc,i,r,h1,h2,p,h=>by
  unfold N8 at h
  split at h
  ·rename_i e;cases h;exact⟨p,e⟩
  ·split at h
   ·cases h
   ·obtain⟨q,e1,e2⟩:=bind_eq_some_iff.mp h
    exact TJ (by rw[length_append,length_singleton];omega) (by rw[length_append,length_singleton];omega) ((p.app (ZW hW hr e1) (by decide)).to (λ_ h=>h) (λ_ h=>h) (by omega)) e2
end
theorem UK{δ:Wd->Int}{ws:List Wd}(hW:Wt δ):∀n,(∀least level i r,1<=least->(K2 K10.isNum K10.isName ws n).1 least level i=some r->Sg δ ws i r.2 S E 0)/\(∀level i r,(K2 K10.isNum K10.isName ws n).2 level i=some r->Sg δ ws i r.2 S E 0):=by
 intro n
 induction n with
 |zero=>exact⟨λ_ _ _ _ _ h=>(by cases h),λ_ _ _ h=>(by cases h)⟩
 |succ n ih=>
  refine⟨λleast level i r hl h=> ?_,λlevel i r h=>IC hW ih.1 ih.2 h⟩
  simp only[K2,bind_eq_some_iff]at h
  obtain⟨q,e1,e2⟩:=h
  exact ZJ hW ih.1 hl (IC hW ih.1 ih.2 e1) e2
theorem dPZ{ws:List Wd}{fs:List Fd}(hn:∀w∈ws,w≠ [])(h:K7 K10.isName ws (K2 K10.isNum K10.isName ws 32).1=some fs){δ:Wd->Int}(hW:Wt δ):Sg δ ws 0 ws.length (is 6) E 0:=by
 unfold K7 at h
 obtain⟨q,e1,e2⟩:=bind_eq_some_iff.mp h
 obtain⟨r,e3,rfl⟩:=map_eq_some_iff.mp e2
 obtain⟨p,e⟩:=TJ hW (UK hW 32).1 (by simp) (by simp) (ZW hW (UK hW 32).1 e1) e3
 have:r.2=ws.length:=by
  have h1:=p.le
  by_cases h2:r.2<ws.length
  ·have e':ahead ws r.2=ws[r.2]:=by simp[ahead,h2]
   rw[e']at e
   exact absurd e (hn _ (getElem_mem _))
  ·omega
 rw[this]at p
 exact p
end Gr
end RD
namespace RD
namespace Gr
def Prg(ws:List Wd):Prop:=(∀w∈ws,w≠ [])/\∃fs,K7 K10.isName ws (K2 K10.isNum K10.isName ws 32).1=some fs
theorem FO{A:List Wd}{u:Wd}{B:List Wd}:ahead (A++u::B) A.length=u:=by
 unfold ahead
 rw[getElem?_append_right (le_refl _),Nat.sub_self]
 rfl
theorem wt0:Wt λ_=>0:=⟨λ_ _=>rfl,λ_ _=>rfl,λ_ _=>rfl,λ_ _=>rfl,rfl,rfl,rfl,rfl,rfl,rfl,rfl,rfl,rfl,rfl⟩
theorem Prg.sg{ws:List Wd}(h:Prg ws){δ:Wd->Int}(hW:Wt δ):Sg δ ws 0 ws.length (is 6) E 0:=let⟨_,e⟩:=h.2;dPZ h.1 e hW
theorem Prg.pair{A B:List Wd}{u v:Wd}(h:Prg (A++u::v::B)):ok (cls u) (cls v)=true:=by
 have:=(h.sg wt0).ad A.length (zero_le _) (by simp only[length_append,length_cons];omega)
 have e:ahead (A++u::v::B) (A.length+1)=v:=by
  have:=FO (A:=A++ [u]) (u:=v) (B:=B)
  rw[List.append_assoc,length_append,length_singleton]at this
  exact this
 unfold cl at this
 rwa [FO,e]at this
theorem Prg.sum{ws:List Wd}(h:Prg ws){δ:Wd->Int}(hW:Wt δ):(ws.map δ).sum=0:=by
 have:=(h.sg hW).su
 unfold su at this
 rw[take_length,take_zero]at this
 rw[this];rfl
theorem Prg.head{u:Wd}{B:List Wd}(h:Prg (u::B)):cls u=6:=by
 have:=(h.sg wt0).st
 simpa [is,cl,ahead]using this
theorem Prg.last{A:List Wd}{u:Wd}(h:Prg (A++ [u])):E (cls u)=true:=by
 have:=(h.sg wt0).en
 unfold cl at this
 rw[length_append,length_singleton,Nat.add_sub_cancel,FO]at this
 exact this
theorem Prg.ne{ws:List Wd}(h:Prg ws):ws≠ []:=λe=>by have:=(h.sg wt0).lt;rw[e]at this;cases this
def dl(a b w:Wd):Int:=(if w=a then 1 else 0) - (if w=b then 1 else 0)
def far(a:Wd):Bool:= !K10.isName a&& !K10.isNum a&&decide (E8 a=0)&& !E9 a&& !decide (a∈ [Z3,wNo,L4,T6,P0])
theorem dl0{a b w:Wd}(h1:w≠a)(h2:w≠b):dl a b w=0:=by unfold dl;rw[if_neg h1,if_neg h2];rfl
theorem dVZ{a b:Wd}(ha:far a=true)(hb:far b=true)(e1:dl a b wIf+dl a b O5+dl a b P9=0)(e2:dl a b AK+dl a b wIn=0)(e3:dl a b wFn+dl a b K3=0)(e4:dl a b E6+dl a b D7=0)(e5:dl a b EL+dl a b DK=0):Wt (dl a b):=by
 have key:∀p:Wd->Prop,(∀c,far c=true->¬p c)->∀w,p w->dl a b w=0:=λp hp w hw=>dl0 (λe=>hp a ha (e▸hw)) (λe=>hp b hb (e▸hw))
 have kf:∀c,far c=true->(((K10.isName c=false/\K10.isNum c=false)/\E8 c=0)/\E9 c=false)/\c∉ [Z3,wNo,L4,T6,P0]:=λc hc=>by
  simpa only[far,Bool.and_eq_true,Bool.not_eq_true',decide_eq_true_eq,decide_eq_false_iff_not]using hc
 have kz:∀c,c∈ [Z3,wNo,L4,T6,P0]->dl a b c=0:=key (λc=>c∈ [Z3,wNo,L4,T6,P0]) λc hc=>(kf c hc).2
 exact⟨key _ λc hc h=>(by rw[(kf c hc).1.1.1.1]at h;cases h),key _ λc hc h=>(by rw[(kf c hc).1.1.1.2]at h;cases h),key _ λc hc h=>(by rw[(kf c hc).1.1.2]at h;cases h),key _ λc hc h=>(by rw[(kf c hc).1.2]at h;cases h),
  kz _ (by decide),kz _ (by decide),kz _ (by decide),kz _ (by decide),kz _ (by decide),e1,e2,e3,e4,e5⟩
def ks:List Wd:=[wIf,O5,P9,AK,wIn,wFn,K3,E6,D7,EL,DK]
theorem bhZ{x:Wd}(h:x∈ks):∃δ,Wt δ/\δ x≠0:=by
 have m:∀a b,far a=true->far b=true->dl a b wIf+dl a b O5+dl a b P9=0->dl a b AK+dl a b wIn=0->dl a b wFn+dl a b K3=0->dl a b E6+dl a b D7=0->dl a b EL+dl a b DK=0->dl a b x≠0->∃δ,Wt δ/\δ x≠0:=λa b h1 h2 h3 h4 h5 h6 h7 h8=>⟨_,dVZ h1 h2 h3 h4 h5 h6 h7,h8⟩
 simp only[ks,mem_cons,not_mem_nil,or_false]at h
 rcases h with rfl|rfl|rfl|rfl|rfl|rfl|rfl|rfl|rfl|rfl|rfl
 ·exact m wIf O5 (by decide) (by decide) (by decide) (by decide) (by decide) (by decide) (by decide) (by decide)
 ·exact m wIf O5 (by decide) (by decide) (by decide) (by decide) (by decide) (by decide) (by decide) (by decide)
 ·exact m O5 P9 (by decide) (by decide) (by decide) (by decide) (by decide) (by decide) (by decide) (by decide)
 ·exact m AK wIn (by decide) (by decide) (by decide) (by decide) (by decide) (by decide) (by decide) (by decide)
 ·exact m AK wIn (by decide) (by decide) (by decide) (by decide) (by decide) (by decide) (by decide) (by decide)
 ·exact m wFn K3 (by decide) (by decide) (by decide) (by decide) (by decide) (by decide) (by decide) (by decide)
 ·exact m wFn K3 (by decide) (by decide) (by decide) (by decide) (by decide) (by decide) (by decide) (by decide)
 ·exact m E6 D7 (by decide) (by decide) (by decide) (by decide) (by decide) (by decide) (by decide) (by decide)
 ·exact m E6 D7 (by decide) (by decide) (by decide) (by decide) (by decide) (by decide) (by decide) (by decide)
 ·exact m EL DK (by decide) (by decide) (by decide) (by decide) (by decide) (by decide) (by decide) (by decide)
 ·exact m EL DK (by decide) (by decide) (by decide) (by decide) (by decide) (by decide) (by decide) (by decide)
theorem RB{A B:List Wd}{x:Wd}(hx:x∈ks)(h1:Prg (A++x::B))(h2:Prg (A++B)):False:=by
 obtain⟨δ,hW,hd⟩:=bhZ hx
 have e1:=h1.sum hW
 have e2:=h2.sum hW
 rw[map_append,map_cons,sum_append,sum_cons]at e1
 rw[map_append,sum_append]at e2
 omega
theorem exZ{A B:List Wd}{x:Wd}(hx:x∈T6::ks)(h1:Prg (A++x::B)):¬Prg (A++B):=by
 intro h2
 rcases cZ hx with rfl|hx
 ·rcases List.eq_nil_or_concat A with rfl|⟨A',u,rfl⟩
  ·cases B with
   |nil=>exact h2.ne rfl
   |cons v B=>
    have e1:=h1.pair (A:=[]) (B:=B)
    have e2:=Prg.head (u:=v) (B:=B) h2
    rw[e2]at e1
    exact absurd e1 (by decide)
  ·simp only[List.concat_eq_append,List.append_assoc,singleton_append]at h1 h2
   have e1:=h1.pair
   cases B with
   |nil=>
    have:=Prg.last (A:=A'++ [u]) (u:=T6) (by rw[List.append_assoc];exact h1)
    exact absurd this (by decide)
   |cons v B=>
    have e2:ok (cls T6) (cls v)=true:=Prg.pair (A:=A'++ [u]) (B:=B) (by rw[List.append_assoc];exact h1)
    have e3:=h2.pair
    generalize cls u=c at e1 e3
    generalize cls v=d at e2 e3
    have e0:cls T6=6:=by decide
    rw[e0]at e1 e2
    revert c d;decide
 ·exact RB hx h1 h2
theorem d7Z{A B:List Wd}{x:Wd}(hx:x∈T6::ks)(h1:Prg (A++x::B)):¬Prg (A++x::x::B):=by
 intro h2
 rcases cZ hx with rfl|hx
 ·exact absurd h2.pair (by decide)
 ·exact RB hx h2 h1
theorem more{A B:List Wd}{x y:Wd}(hx:x∈ [O5,P9,wIn,K3,D7])(hy:y∈ [DK,D7,O5,P9,wIn,K3,L4])(h1:Prg (A++x::B)):¬Prg (A++y::x::B):=by
 intro h2
 by_cases hk:y∈ks
 ·exact RB hk h2 h1
 ·have e:y=L4:=by
   simp only[mem_cons,not_mem_nil,or_false]at hy
   rcases hy with rfl|rfl|rfl|rfl|rfl|rfl|rfl
   all_goals first|rfl|exact absurd (by decide) hk
  subst e
  have:=h2.pair
  revert this
  clear hk hy h1 h2
  revert x;decide
theorem efZ{A B:List Wd}:¬Prg (A++ [49]:: [49]::B):=λh=>absurd h.pair (by decide)
end Gr
end RD
namespace RD
namespace Gr
open Sh (NL Wo CW w_gap LR BP MU)
def Gw(x:Wd):Prop:=Wo x\/x=K3\/∃c,x=[c]/\K10.mark c=true
theorem dvZ{t x:List Nat}(h:K10.wordAt t=some x):Gw x:=by
 cases t with
 |nil=>cases h
 |cons c r=>
  rw[K10.wordAt_cons]at h
  split at h
  ·rename_i hl
   split at h
   ·rename_i hg
    cases h
    refine .inl ⟨?_, ?_,hg⟩
    ·exact List.all_takeWhile
    ·rw[K10.takeWhile_pos hl];simp
   ·cases h
  ·split at h
   ·cases h;exact .inr (.inl rfl)
   ·split at h
    ·rename_i e;cases h;exact .inr (.inr ⟨_,rfl,e⟩)
    ·cases h
theorem ND:∀(n:Nat) (t:List Nat) (ws:List Wd),K10.cut n t=some ws->∀x∈ws,Gw x
 |0,t,ws,h,x,hx=>by cases h;cases hx
 |n+1,[],ws,h,x,hx=>by cases h;cases hx
 |n+1,c::r,ws,h,x,hx=>by
  unfold K10.cut at h
  split at h
  ·exact ND n r ws h x hx
  ·split at h
   ·cases h
   ·rename_i w hw
    obtain⟨z,hz,rfl⟩:=map_eq_some_iff.mp h
    rcases cZ hx with rfl|hx
    ·exact dvZ hw
    ·exact ND n _ z hz x hx
theorem Gw.ne{x:Wd}(h:Gw x):x≠ []:=by
 rcases h with h|rfl|⟨c,rfl,_⟩
 ·exact h.2.1
 ·decide
 ·simp
def Bad(l:List Nat):Prop:=∀ws,K10.words l=some ws->¬Prg ws
theorem Gw.step{x:Wd}(h:Gw x){rest:List Nat}{l:List Wd}(hn:rest=[]\/∃r,rest=32::r)(hr:K10.words rest=some l):K10.words (x++rest)=some (x::l):=by
 have hnl:NL rest:=by
  rcases hn with rfl|⟨r,rfl⟩
  ·exact NL.nil
  ·exact NL.cons (by decide)
 rcases h with h|rfl|⟨c,rfl,hc⟩
 ·exact CW h hnl hr
 ·exact MU hr
 ·refine LR hc ?_ hr
  rcases hn with rfl|⟨r,rfl⟩
  ·simp
  ·simp
theorem CZ:∀ws:List Wd,(∀x∈ws,Gw x)->K10.words (E4 [32] ws)=some ws
 | [],_=>rfl
 | [x],h=>by
  have:=(h x (mem_cons_self ..)).step (rest:=[]) (l:=[]) (.inl rfl) rfl
  rw[append_nil]at this
  exact this
 |x::y::r,h=>by
  have ih:=CZ (y::r) λz hz=>h z (mem_cons_of_mem _ hz)
  show K10.words (x++ [32]++E4 [32] (y::r))=_
  rw[List.append_assoc]
  refine(h x (mem_cons_self ..)).step (.inr ⟨_,rfl⟩) ?_
  show K10.words (32::E4 [32] (y::r))=_
  rw[K10.words_gap (by decide)]
  exact ih
theorem IB(g x:List Nat){r:List (List Nat)}(h:r≠ []):E4 g (x::r)=x++g++E4 g r:=by
 cases r with
 |nil=>exact absurd rfl h
 |cons y r=>rfl
theorem WE(A B:List Wd)(u v:Wd)(g:List Nat):E4 g (A++(u++g++v)::B)=E4 g (A++u::v::B):=by
 induction A with
 |nil=>
  cases B with
  |nil=>rfl
  |cons b B=>show(u++g++v)++g++_=u++g++(v++g++_);simp only[List.append_assoc]
 |cons a A ih=>
  show E4 g (a::(A++_))=E4 g (a::(A++_))
  rw[IB _ _ (by simp),IB _ _ (by simp),ih]
theorem KT{g:List Nat}{c:Nat}:∀ {ls:List (List Nat)} {x:List Nat},x∈ls->c∈x->c∈E4 g ls
 | [],x,h,_=>nomatch h
 | [y],x,h,hc=>by cases sZ h;exact hc
 |y::z::r,x,h,hc=>by
  show c∈y++g++E4 g (z::r)
  rcases cZ h with rfl|h
  ·simp[hc]
  ·have:=KT (g:=g) h hc
   simp[this]
theorem inter_mem{g:List Nat}{c:Nat}:∀ {ls:List (List Nat)},c∈E4 g ls->c∈g\/∃x∈ls,c∈x
 | [],h=>nomatch h
 | [y],h=> .inr ⟨y,mem_cons_self ..,h⟩
 |y::z::r,h=>by
  have h:c∈y++g++E4 g (z::r):=h
  rcases mem_append.mp h with h|h
  ·rcases mem_append.mp h with h|h
   ·exact .inr ⟨y,mem_cons_self ..,h⟩
   ·exact .inl h
  ·rcases inter_mem h with h|⟨x,h1,h2⟩
   ·exact .inl h
   ·exact .inr ⟨x,mem_cons_of_mem _ h1,h2⟩
def sgn(c:Nat):Bool:=K10.gap c||K10.long c||K10.mark c||decide (c=62)
theorem dbZ{c:Nat}{r w:List Nat}(h:K10.wordAt (c::r)=some w):(c::r).take w.length=w/\∀d∈w,sgn d=true:=by
 rw[K10.wordAt_cons]at h
 split at h
 ·split at h
  ·cases h
   refine⟨(List.prefix_iff_eq_take.mp (List.takeWhile_prefix _)).symm,λd hd=> ?_⟩
   have:K10.long d=true:=all_eq_true.mp List.all_takeWhile d hd
   unfold sgn;rw[this];simp
  ·cases h
 ·split at h
  ·rename_i e
   cases h
   exact⟨e,by decide⟩
  ·split at h
   ·rename_i e
    cases h
    exact⟨rfl,λd hd=>by rw[sZ hd];unfold sgn;rw[e];simp⟩
   ·cases h
theorem ML:∀(n:Nat) (t:List Nat) (ws:List Wd),t.length<=n->K10.cut n t=some ws->∀c∈t,sgn c=true
 |0,t,ws,hl,_,c,hc=>by
  have:t=[]:=length_eq_zero_iff.mp (by omega)
  rw[this]at hc;cases hc
 |n+1,[],_,_,_,c,hc=>nomatch hc
 |n+1,d::r,ws,hl,h,c,hc=>by
  unfold K10.cut at h
  split at h
  ·rename_i hg
   rcases cZ hc with rfl|hc
   ·unfold sgn;rw[hg];simp
   ·exact ML n r ws (by simp only[length_cons]at hl;omega) h c hc
  ·split at h
   ·cases h
   ·rename_i w hw
    obtain⟨z,hz,_⟩:=map_eq_some_iff.mp h
    obtain⟨e1,e2⟩:=dbZ hw
    have hp:=K10.wordAt_pos hw
    rw[<-take_append_drop w.length (d::r),e1]at hc
    rcases mem_append.mp hc with hc|hc
    ·exact e2 c hc
    ·exact ML n _ z (by rw[length_drop];simp only[length_cons]at hl⊢;omega) hz c hc
theorem adZ{l:List Nat}{c:Nat}(hc:c∈l)(h:sgn c=false):Bad l:=λws hw _=>by
 have:=ML _ _ _ (le_refl _) hw c hc
 rw[h]at this;cases this
theorem GW{ws:List Wd}(h:∀x∈ws,Gw x)(hb:¬Prg ws):Bad (E4 [32] ws):=λws' hw=>by
 rw[CZ ws h]at hw
 cases hw
 exact hb
def odds:List Wd:=[DK,D7,O5,P9,wIn,K3,L4,[49,32,49],[65]]
theorem dNZ:∀x∈ [DK,D7,O5,P9,wIn,K3,L4,[49]],Gw x:=by
 intro x hx
 simp only[mem_cons,not_mem_nil,or_false]at hx
 rcases hx with rfl|rfl|rfl|rfl|rfl|rfl|rfl|rfl
 all_goals first|exact .inr (.inl rfl)|exact .inr (.inr ⟨_,rfl,by decide⟩)|exact .inl ⟨by decide,by decide,by decide⟩
section
variable{A B:List Wd}{x:Wd}(hg:∀y∈A++x::B,Gw y)(hp:Prg (A++x::B))
include hg hp
theorem bad_less(hx:x∈T6::ks):Bad (E4 [32] (A++B)):=GW (λy hy=>hg y (by
 rcases mem_append.mp hy with h|h
 ·exact mem_append_left _ h
 ·exact mem_append_right _ (mem_cons_of_mem _ h))) (exZ hx hp)
theorem bad_twice(hx:x∈T6::ks):Bad (E4 [32] (A++x::x::B)):=GW (λy hy=>by
 rcases mem_append.mp hy with h|h
 ·exact hg y (mem_append_left _ h)
 ·rcases cZ h with rfl|h
  ·exact hg _ (mem_append_right _ (mem_cons_self ..))
  ·exact hg y (mem_append_right _ h)) (d7Z hx hp)
theorem bad_more{y:Wd}(hx:x∈ [O5,P9,wIn,K3,D7])(hy:y∈odds):Bad (E4 [32] (A++y::x::B)):=by
 have hin:∀zs:List Wd,(∀z∈zs,Gw z)->∀y'∈A++(zs++x::B),Gw y':=λzs hz y' h=>by
  rcases mem_append.mp h with h|h
  ·exact hg y' (mem_append_left _ h)
  ·rcases mem_append.mp h with h|h
   ·exact hz y' h
   ·exact hg y' (mem_append_right _ h)
 by_cases h1:y∈ [DK,D7,O5,P9,wIn,K3,L4]
 ·exact GW (hin [y] λz hz=>by rw[sZ hz];exact dNZ y (mem_append_left (bs:=[[49]]) h1)) (more hx h1 hp)
 ·by_cases h2:y=[49,32,49]
  ·subst h2
   have:=WE A (x::B) [49] [49] [32]
   show Bad (E4 [32] (A++([49]++ [32]++ [49])::x::B))
   rw[this]
   exact GW (hin [[49],[49]] λz hz=>dNZ z (by
    have:z=[49]:=by simpa using hz
    rw[this];decide)) efZ
  ·have h3:y=[65]:=by
    simp only[odds,mem_cons,not_mem_nil,or_false,not_or]at hy h1
    rcases hy with h|h|h|h|h|h|h|h|h
    all_goals first|exact h|exact absurd h (by simp only[h1,h2,not_false_eq_true])
   subst h3
   exact adZ (KT (mem_append_right _ (mem_cons_self ..)) (mem_cons_self ..)) (by decide)
end
def isBad(l:List Nat):Bool:=match K10.words l with
 |none=>true
 |some ws=>(K7 K10.isName ws (K2 K10.isNum K10.isName ws 32).1).isNone
theorem Bad.of{l:List Nat}(h:isBad l=true):Bad l:=λws hw ⟨_,fs,e⟩=>by
 unfold isBad at h
 rw[hw]at h
 dsimp only at h
 rw[e]at h
 cases h
end Gr
end RD
namespace RD
namespace Gr
open PySem L2 PySem.Builtin PySem.Builtin.Str PySem.StrLaws
def pr:List Nat->Nat->Option Nat->List (Nat×Nat)
 | [],_,none=> []
 | [],i,some b=> [(b,i)]
 |c::r,i,some b=>if Unicode.isSpace c=true then(b,i)::pr r (i+1) none else pr r (i+1) (some b)
 |c::r,i,none=>if Unicode.isSpace c=true then pr r (i+1) none else pr r (i+1) (some i)
theorem OX(l:List Nat)(limit:Nat)(hl:l.length<limit):∀(m cur:Nat) (W:Array (Nat×Nat)) (st:Option Nat),cur+m=l.length->W.size<=cur->swEnd (tx l) (forIn (List.range' cur m) ((none,W,st):SwSt) (swBody (tx l) limit)).run=W.toList++pr (l.drop cur) cur st
 |0,cur,W,st,hm,hW=>by
  have e:l.drop cur=[]:=drop_eq_nil_of_le (by omega)
  rw[e]
  show swEnd (tx l) (none,W,st)=_
  unfold swEnd
  cases st with
  |none=>simp[pr]
  |some b=>
   have e2:cur=(tx l).length:=by show cur=l.toArray.size;simp;omega
   simp[pr,e2]
 |m+1,cur,W,st,hm,hW=>by
  have hc:cur<l.length:=by omega
  have e:l.drop cur=l[cur]::l.drop (cur+1):=drop_eq_getElem_cons hc
  have eg:(tx l).cps.getD cur 0=l[cur]:=by show l.toArray.getD cur 0=_;simp[hc]
  rw[List.range'_succ,List.forIn_cons]
  have hsz:¬((W.size==limit)=true):=by rw[beq_iff_eq];omega
  unfold swBody
  simp only[hsz,if_false]
  rw[eg,e]
  cases st with
  |none=>
   cases hsp:Unicode.isSpace l[cur]
   ·refine(OX l limit hl m (cur+1) W (some cur) (by omega) (by omega)).trans ?_
    rw[pr,hsp];rfl
   ·refine(OX l limit hl m (cur+1) W none (by omega) (by omega)).trans ?_
    rw[pr,hsp];rfl
  |some b=>
   cases hsp:Unicode.isSpace l[cur]
   ·refine(OX l limit hl m (cur+1) W (some b) (by omega) (by omega)).trans ?_
    rw[pr,hsp];rfl
   ·refine(OX l limit hl m (cur+1) (W.push (b,cur)) none (by omega) (by rw[Array.size_push];omega)).trans ?_
    rw[pr,hsp,Array.toList_push,List.append_assoc];rfl
def wg:List Nat->List Nat->List Wd
 | [],cur=>if cur=[]then []else [cur]
 |c::r,cur=>if Unicode.isSpace c=true then(if cur=[]then wg r []else cur::wg r [])else wg r (cur++ [c])
def St0(pre:List Nat):Option Nat->List Nat->Prop
 |none,cur=>cur=[]
 |some b,cur=>b<pre.length/\cur=pre.drop b
theorem OQ:∀(rest pre:List Nat) (st:Option Nat) (cur:List Nat),St0 pre st cur->(pr rest pre.length st).map (λp=>((pre++rest).take p.2).drop p.1)=wg rest cur
 | [],pre,none,cur,h=>by
  have h:cur=[]:=h
  rw[h];rfl
 | [],pre,some b,cur,h=>by
  obtain⟨h1,rfl⟩:=h
  have:pre.drop b≠ []:=λe=>by
   have:=List.drop_eq_nil_iff.mp e
   omega
  rw[pr,wg,if_neg this]
  simp
 |c::r,pre,st,cur,h=>by
  have e:pre++c::r=(pre++ [c])++r:=by simp
  have el:pre.length+1=(pre++ [c]).length:=by simp
  cases st with
  |none=>
   have h:cur=[]:=h
   subst h
   cases hs:Unicode.isSpace c
   ·rw[pr,wg,hs,if_neg (by decide),if_neg (by decide),el,e]
    exact OQ r (pre++ [c]) (some pre.length) _ ⟨by simp,by simp⟩
   ·rw[pr,wg,hs,if_pos rfl,if_pos rfl,if_pos rfl,el,e]
    exact OQ r (pre++ [c]) none [] rfl
  |some b=>
   obtain⟨h1,rfl⟩:=h
   have hne:pre.drop b≠ []:=λe=>by
    have:=List.drop_eq_nil_iff.mp e
    omega
   cases hs:Unicode.isSpace c
   ·rw[pr,wg,hs,if_neg (by decide),if_neg (by decide),el,e]
    exact OQ r (pre++ [c]) (some b) _ ⟨by simp;omega,by rw[List.drop_append_of_le_length (by omega)]⟩
   ·rw[pr,wg,hs,if_pos rfl,if_pos rfl,if_neg hne,map_cons,el,e]
    rw[OQ r (pre++ [c]) none [] rfl]
    congr 1
    simp
theorem words_wg(l:List Nat):Txt.words (tx l)=(wg l []).map tx:=by
 have hl:(tx l).length=l.length:=by show l.toArray.size=_;simp
 have e:spaceWords (tx l) ((tx l).length+1)=pr l 0 none:=by
  rw[sw_eq,hl]
  have:=OX l (l.length+1) (lt_succ_self _) l.length 0 #[] none (by omega) (by simp)
  simpa using this
 have e2:wordsOf (tx l)=(wg l []).map tx:=by
  unfold wordsOf
  rw[e,<-OQ l [] none [] rfl,map_map]
  refine List.map_congr_left λp _=> ?_
  show strSub (tx l) p.1 p.2=tx (((([]:List Nat)++l).take p.2).drop p.1)
  unfold strSub
  show(⟨l.toArray.extract p.1 p.2⟩:Str)=_
  rw[List.extract_toArray,List.extract_eq_take_drop,nil_append]
  show tx ((l.drop p.1).take (p.2 - p.1))=_
  rw[List.take_drop]
  by_cases h:p.1<=p.2
  ·rw[Nat.add_sub_of_le h]
  ·rw[show p.1+(p.2 - p.1)=p.1 by omega,drop_eq_nil_of_le (by rw[length_take];omega),drop_eq_nil_of_le (by rw[length_take];omega)]
 unfold Txt.words
 split
 ·rename_i h
  rw[<-e2]
  unfold wordsOf
  rw[beq_iff_eq]at h
  rw[h,hl]
  show [tx l]=[strSub (tx l) 0 l.length]
  unfold strSub
  simp
 ·exact e2
def pd(c:Nat)(l:List Nat):List Nat:=l.flatMap λd=>if d=c then [32,c,32]else [d]
theorem RP(c:Nat)(a b:List Nat):pd c (a++b)=pd c a++pd c b:=List.flatMap_append
theorem anZ{c:Nat}{x:List Nat}(h:c∉x):pd c x=x:=by
 unfold pd
 induction x with
 |nil=>rfl
 |cons d r ih=>
  rw[flatMap_cons,if_neg (λe=>h (by rw[e];exact mem_cons_self ..)),ih λz=>h (mem_cons_of_mem _ z)]
  rfl
theorem pd_len(c:Nat)(l:List Nat):(pd c l).length<=3*l.length:=by
 unfold pd
 induction l with
 |nil=>exact le_refl _
 |cons d r ih=>
  rw[flatMap_cons,length_append,length_cons]
  split<;>simp only[length_cons,length_nil]<;>omega
theorem OP{c:Nat}:∀ps:List (List Nat),(∀p∈ps,c∉p)->pd c (E4 [c] ps)=E4 [32,c,32] ps
 | [],_=>rfl
 | [x],h=>anZ (h x (mem_cons_self ..))
 |x::y::r,h=>by
  have ih:=OP (c:=c) (y::r) λp hp=>h p (mem_cons_of_mem _ hp)
  show pd c (x++ [c]++E4 [c] (y::r))=x++ [32,c,32]++E4 [32,c,32] (y::r)
  rw[RP,RP,anZ (h x (mem_cons_self ..)),ih]
  congr 2
  unfold pd
  simp
theorem repl_pd(l:List Nat)(c:Nat):Txt.replace (tx l) (tx [c]) (tx [32,c,32])=tx (pd c l):=by
 show Txt.replace (tx l) ⟨#[c]⟩ (tx [32,c,32])=_
 rw[replace_one]
 obtain⟨ps,e⟩:=Gn.txs_of (Txt.split (tx l) (tx [c]))
 have h1:=StrLaws.join_split (tx l) (tx [c])
 have hf:=StrLaws.split_free (tx l) c
 have e2:Txt.split (tx l) ⟨#[c]⟩=ps.map tx:=e
 rw[e]at h1
 rw[e2]at hf
 rw[EM]at h1
 have h5:=Gn.tx_inj' h1
 rw[e2,EM,<-h5,OP ps λp hp=> ?_]
 have:=hf (tx p) (mem_map.mpr ⟨p,hp,rfl⟩)
 simpa using this
end Gr
end RD
namespace RD
namespace Gr
open PySem
open Sh (Wo Ok Oks tx txs txr tk tks tkr nmx nmrx ftx ptx ptxr ftk nms nmr Nm FOk W6 SV Gp)
abbrev mk6:List Nat:=[40,41,91,93,44,33]
def pas(cs:List Nat)(l:List Nat):List Nat:=cs.foldl (λl c=>pd c l) l
theorem MJ:∀(cs a b:List Nat),pas cs (a++b)=pas cs a++pas cs b
 | [],_,_=>rfl
 |c::cs,a,b=>by show pas cs (pd c (a++b))=pas cs (pd c a)++pas cs (pd c b);rw[RP,MJ cs]
theorem YH:∀ {cs x:List Nat},(∀c∈cs,c∉x)->pas cs x=x
 | [],_,_=>rfl
 |c::cs,x,h=>by
  show pas cs (pd c x)=x
  rw[anZ (h c (mem_cons_self ..)),YH λd hd=>h d (mem_cons_of_mem _ hd)]
abbrev pa(l:List Nat):List Nat:=pas mk6 l
theorem bNZ:∀c∈mk6,pa [c]=[32,c,32]:=by decide
theorem ZD:∀(x rest cur:List Nat),(∀c∈x,Unicode.isSpace c=false)->wg (x++rest) cur=wg rest (cur++x)
 | [],rest,cur,_=>by rw[append_nil];rfl
 |c::x,rest,cur,h=>by
  rw[cons_append,wg,h c (mem_cons_self ..),if_neg (by decide),ZD x rest _ λd hd=>h d (mem_cons_of_mem _ hd),List.append_assoc]
  rfl
theorem MC{c:Nat}(h:Unicode.isSpace c=true)(r:List Nat):wg (c::r) []=wg r []:=by rw[wg,h,if_pos rfl,if_pos rfl]
theorem VE{x rest:List Nat}(hx:x≠ [])(h:∀c∈x,Unicode.isSpace c=false)(hr:rest=[]\/∃c r,rest=c::r/\Unicode.isSpace c=true):wg (x++rest) []=x::wg rest []:=by
 rw[ZD x rest [] h,nil_append]
 rcases hr with rfl|⟨c,r,rfl,hc⟩
 ·rw[wg,wg,if_neg hx,if_pos rfl]
 ·rw[MC hc,wg,hc,if_pos rfl,if_neg hx]
def wq(l:List Nat):List Wd:=wg (pa l) []
def Bd(rest:List Nat):Prop:=rest=[]\/∃c r,rest=c::r/\(c∈mk6\/c=32\/c=10)
theorem WH:Unicode.isSpace 32=true:=by decide +kernel
theorem dGZ:Unicode.isSpace 10=true:=by decide +kernel
theorem dyZ:∀c∈mk6,Unicode.isSpace c=false:=by decide +kernel
theorem A0(c:Nat)(r:List Nat):pa (c::r)=pa [c]++pa r:=MJ mk6 [c] r
theorem ZR{c:Nat}(h:c=32\/c=10)(r:List Nat):pa (c::r)=c::pa r:=by
 rw[A0]
 rcases h with rfl|rfl<;>rfl
theorem NE{c:Nat}(h:c=32\/c=10)(r:List Nat):wq (c::r)=wq r:=by
 unfold wq
 rw[ZR h]
 refine MC ?_ _
 rcases h with rfl|rfl
 ·exact WH
 ·exact dGZ
theorem J9{c:Nat}(h:c∈mk6){r:List Nat}{l:List Wd}(hr:wq r=l):wq (c::r)=[c]::l:=by
 unfold wq at*
 rw[A0,bNZ c h,cons_append,cons_append,cons_append,nil_append,MC WH]
 have:=VE (x:=[c]) (rest:=32::pa r) (by simp) (λd hd=>by rw[sZ hd];exact dyZ c h) (.inr ⟨_,_,rfl,WH⟩)
 rw[singleton_append]at this
 rw[this,MC WH,hr]
def Wn(x:Wd):Prop:=x≠ []/\∀c∈x,Unicode.isSpace c=false/\c∉mk6
theorem X7{x rest:List Nat}(hx:Wn x)(hb:Bd rest){l:List Wd}(hr:wq rest=l):wq (x++rest)=x::l:=by
 unfold wq at*
 have e:pa (x++rest)=x++pa rest:=by
  show pas mk6 _=_
  rw[MJ,YH λc hc hm=>(hx.2 c hm).2 hc]
 rw[e,VE hx.1 (λc hc=>(hx.2 c hc).1),hr]
 rcases hb with rfl|⟨c,r,rfl,hc|hc⟩
 ·exact .inl rfl
 ·exact .inr ⟨32,_,by rw[A0,bNZ c hc];rfl,WH⟩
 ·refine .inr ⟨c,_,ZR hc r, ?_⟩
  rcases hc with rfl|rfl
  ·exact WH
  ·exact dGZ
theorem bEZ{c:Nat}(h:K10.long c=true):Unicode.isSpace c=false/\c∉mk6:=by
 have hc:c∈ [97,98,99,100,101,102,103,104,105,106,107,108,109,110,111,112,113,114,115,116,117,118,119,120,121,122,48,49,50,51,52,53,54,55,56,57]:=by
  simpa only[K10.long,K10.letter,K10.figure,Bool.or_eq_true,decide_eq_true_eq,mem_cons,not_mem_nil,or_false,or_assoc]using h
 revert c
 have:∀c∈ [97,98,99,100,101,102,103,104,105,106,107,108,109,110,111,112,113,114,115,116,117,118,119,120,121,122,48,49,50,51,52,53,54,55,56,57],Unicode.isSpace c=false/\c∉mk6:=by decide +kernel
 exact λc _ hc=>this c hc
theorem EO{x:Wd}(h:Wo x):Wn x:=⟨h.2.1,λc hc=>bEZ (all_eq_true.mp h.1 c hc)⟩
theorem GT{s:Wd}(h:s∈ [wLt,wEq,U6,DN,AC,AD,DM,K3]):Wn s:=by
 have:∀s∈ [wLt,wEq,U6,DN,AC,AD,DM,K3],s≠ []/\∀c∈s,Unicode.isSpace c=false/\c∉mk6:=by decide +kernel
 exact this s h
theorem FK(r:List Nat):Bd ([32]++r):=.inr ⟨_,_,rfl,.inr (.inl rfl)⟩
theorem BS{c:Nat}(h:c∈mk6)(r:List Nat):Bd (c::r):=.inr ⟨_,_,rfl,.inl h⟩
theorem GE(rest:List Nat):wq ([32]++rest)=wq rest:=NE (.inl rfl) rest
theorem XY{x:Wd}{rest:List Nat}{l:List Wd}(h:Wn x)(hr:wq rest=l):wq (x++([32]++rest))=x::l:=X7 h (FK rest) (by rw[GE,hr])
theorem JR{x:Wd}{rest:List Nat}{l:List Wd}(h:Wo x)(hr:wq rest=l):wq (x++([32]++rest))=x::l:=XY (EO h) hr
theorem cfZ{rest:List Nat}{l:List Wd}(hr:wq rest=l):wq (P0++([32]++rest))=P0::l:=by
 show wq (33::([32]++rest))=_
 exact J9 (by decide) (by rw[GE,hr])
section
variable{nu na:Wd->Bool}(hU:∀x,nu x=true->Wo x)(hA:∀x,na x=true->Wo x)
include hU hA
theorem ZI(ts:List Tm)(rest:List Nat):Bd (txr [32] ts++(41::rest)):=by
 cases ts with
 |nil=>rw[txr];exact BS (by decide) _
 |cons t r=>rw[txr];exact BS (by decide) _
mutual
theorem qx:(t:Tm)->Ok nu na t->∀(rest:List Nat) (l:List Wd),Bd rest->wq rest=l->wq (tx [32] t++rest)=tk t++l
 | .num n,ho,rest,l,hn,hr=>by
  rw[Ok]at ho
  rw[tx,tk]
  exact X7 (EO (hU _ ho.1)) hn hr
 | .truth b,_,rest,l,hn,hr=>by
  rw[tx,tk]
  cases b
  ·exact X7 (EO ⟨by decide,by decide,by decide⟩) hn hr
  ·exact X7 (EO ⟨by decide,by decide,by decide⟩) hn hr
 | .non,_,rest,l,hn,hr=>by
  rw[tx,tk]
  exact J9 (by decide) (J9 (by decide) hr)
 | .name x,ho,rest,l,hn,hr=>by
  rw[Ok]at ho
  rw[tx,tk]
  exact X7 (EO (hA _ ho.1)) hn hr
 | .two s a b,ho,rest,l,hn,hr=>by
  rw[Ok]at ho
  rw[tx,tk]
  simp only[cons_append,List.append_assoc,nil_append]
  have e:=qx b ho.2.2 (41::rest) _ (BS (by decide) rest) (J9 (by decide) hr)
  have e2:=XY (GT (s:=s) (mem_append_left (bs:=[K3]) ho.1)) e
  refine J9 (by decide) (qx a ho.2.1 _ _ (FK _) ?_)
  exact(GE _).trans e2
 | .one s a,ho,rest,l,hn,hr=>by
  rw[Ok]at ho
  rw[tx,tk]
  simp only[cons_append,List.append_assoc,nil_append]
  exact J9 (by decide) (JR (SV hU hA (g:=[32]) ⟨by decide,by decide⟩ ho.1) (qx a ho.2 (41::rest) _ (BS (by decide) rest) (J9 (by decide) hr)))
 | .if_ c a b,ho,rest,l,hn,hr=>by
  rw[Ok]at ho
  rw[tx,tk]
  simp only[cons_append,List.append_assoc,nil_append]
  have e1:=JR (x:=P9) ⟨by decide,by decide,by decide⟩ (qx b ho.2.2 (41::rest) _ (BS (by decide) rest) (J9 (by decide) hr))
  have e2:=JR (x:=O5) ⟨by decide,by decide,by decide⟩ (qx a ho.2.1 _ _ (FK _) ((GE _).trans e1))
  exact J9 (by decide) (JR (x:=wIf) ⟨by decide,by decide,by decide⟩ (qx c ho.1 _ _ (FK _) ((GE _).trans e2)))
 | .let_ x a b,ho,rest,l,hn,hr=>by
  rw[Ok]at ho
  rw[tx,tk]
  simp only[cons_append,List.append_assoc,nil_append]
  have e1:=JR (x:=wIn) ⟨by decide,by decide,by decide⟩ (qx b ho.2.2 (41::rest) _ (BS (by decide) rest) (J9 (by decide) hr))
  have e2:=XY (GT (s:=wEq) (by decide)) (qx a ho.2.1 _ _ (FK _) ((GE _).trans e1))
  exact J9 (by decide) (JR (x:=AK) ⟨by decide,by decide,by decide⟩ (JR (hA _ ho.1.1) e2))
 | .fn x a,ho,rest,l,hn,hr=>by
  rw[Ok]at ho
  rw[tx,tk]
  simp only[cons_append,List.append_assoc,nil_append]
  have e1:=qx a ho.2 (41::rest) _ (BS (by decide) rest) (J9 (by decide) hr)
  have e2:=XY (GT (s:=K3) (by decide)) e1
  exact J9 (by decide) (JR (x:=wFn) ⟨by decide,by decide,by decide⟩ (JR (hA _ ho.1.1) e2))
 | .do_ f a,ho,rest,l,hn,hr=>by
  rw[Ok]at ho
  rw[tx,tk]
  simp only[cons_append,List.append_assoc,nil_append]
  have e1:=cfZ (qx a ho.2 (41::rest) _ (BS (by decide) rest) (J9 (by decide) hr))
  exact J9 (by decide) (qx f ho.1 _ _ (FK _) ((GE _).trans e1))
 | .call x ts,ho,rest,l,hn,hr=>by
  rw[Ok]at ho
  rw[tx,tk]
  simp only[cons_append,List.append_assoc,nil_append]
  refine X7 (EO (hA _ ho.1.1)) (BS (by decide) _) (J9 (by decide) ?_)
  cases ts with
  |nil=>
   rw[txs,tks,nil_append,nil_append]
   exact J9 (by decide) hr
  |cons t r=>
   have hh:=ho.2.2
   rw[Oks]at hh
   rw[txs,W6,List.append_assoc,List.append_assoc]
   exact qx t hh.1 _ _ (ZI hU hA r rest) (qxr r hh.2 rest _ (J9 (by decide) hr))
theorem qxr:(ts:List Tm)->Oks nu na ts->∀(rest:List Nat) (l:List Wd),wq (41::rest)=l->wq (txr [32] ts++(41::rest))=tkr ts++l
 | [],_,rest,l,hr=>by rw[txr,tkr,nil_append,nil_append];exact hr
 |t::r,ho,rest,l,hr=>by
  rw[Oks]at ho
  rw[txr,tkr]
  simp only[cons_append,List.append_assoc,nil_append]
  refine J9 (by decide) ?_
  refine(NE (.inl rfl) _).trans ?_
  exact qx t ho.1 _ _ (ZI hU hA r rest) (qxr r ho.2 rest l hr)
end
theorem UU(xs:List Wd)(rest:List Nat):Bd (nmrx [32] xs++(41::rest)):=by
 cases xs with
 |nil=>exact BS (by decide) _
 |cons t r=>exact BS (by decide) _
theorem qnr:∀(xs:List Wd),(∀x∈xs,Nm nu na x)->∀(rest:List Nat) (l:List Wd),wq (41::rest)=l->wq (nmrx [32] xs++(41::rest))=nmr xs++l
 | [],_,rest,l,hr=>hr
 |x::r,ho,rest,l,hr=>by
  rw[nmrx,nmr]
  simp only[cons_append,List.append_assoc,nil_append]
  refine J9 (by decide) ?_
  refine(NE (.inl rfl) _).trans ?_
  exact X7 (EO (hA _ (ho x (mem_cons_self ..)).1)) (UU hU hA r rest) (qnr r (λy hy=>ho y (mem_cons_of_mem _ hy)) rest l hr)
theorem qf{f:Fd}(h:FOk nu na f){rest:List Nat}{l:List Wd}(hn:Bd rest)(hr:wq rest=l):wq (ftx [32] f++rest)=ftk f++l:=by
 obtain⟨h1,h2,h3,h4,h5⟩:=h
 unfold ftx ftk
 simp only[cons_append,List.append_assoc]
 refine JR (x:=T6) ⟨by decide,by decide,by decide⟩ (X7 (EO (hA _ h1.1)) (BS (by decide) _) (J9 (by decide) ?_))
 have e:=XY (GT (s:=wEq) (by decide)) (qx hU hA f.body h4 rest l hn hr)
 have e2:wq (41::([32]++(wEq++([32]++(tx [32] f.body++rest)))))=_:=J9 (by decide) ((GE _).trans e)
 cases hf:f.names with
 |nil=>rw[nmx,nms,nil_append,nil_append];exact e2
 |cons x r=>
  rw[hf]at h2
  rw[nmx,nms,List.append_assoc,cons_append]
  exact X7 (EO (hA _ (h2 x (mem_cons_self ..)).1)) (UU hU hA r _) (qnr hU hA r (λy hy=>h2 y (mem_cons_of_mem _ hy)) _ _ e2)
theorem UF(fs:List Fd):Bd (ptxr [32] fs++ []):=by
 cases fs with
 |nil=>exact .inl rfl
 |cons t r=>exact .inr ⟨_,_,rfl,.inr (.inr rfl)⟩
theorem qpr:∀(fs:List Fd),(∀f∈fs,FOk nu na f)->wq (ptxr [32] fs++ [])=fs.flatMap ftk
 | [],_=>rfl
 |f::r,ho=>by
  rw[ptxr,flatMap_cons]
  simp only[cons_append,List.append_assoc]
  rw[NE (.inr rfl)]
  exact qf hU hA (ho f (mem_cons_self ..)) (UF hU hA r) (qpr r λy hy=>ho y (mem_cons_of_mem _ hy))
theorem qp{fs:List Fd}(h:∀f∈fs,FOk nu na f):wq (ptx [32] fs)=fs.flatMap ftk:=by
 cases fs with
 |nil=>rfl
 |cons f r=>
  rw[ptx,flatMap_cons]
  have:=qf hU hA (h f (mem_cons_self ..)) (UF hU hA r) (qpr hU hA r λy hy=>h y (mem_cons_of_mem _ hy))
  rwa [append_nil]at this
end
end Gr
end RD
namespace RD
open PySem L2
namespace Gn
def Lf(x y:V):Prop:=(∃i,x=.int i/\y=.int i)\/(∃b,x=.bl b/\y=.bl b)\/∃z,x=.str z/\y=.str z
def Ev(H:Hp):Nat->V->V->Prop
 |0,x,y=>Lf x y
 |n+1,x,y=>Lf x y\/∃a b xs ys,x=.ref a/\y=.ref b/\H a=some (.tup xs)/\H b=some (.tup ys)/\xs.length<=100/\BU.All2 (Ev H n) xs ys
theorem UD{H:Hp}{x y:V}(h:Lf x y):∀n,Ev H n x y
 |0=>h
 |_+1=> .inl h
theorem N6{H:Hp}(z:Str)(n:Nat):Ev H n (.str z) (.str z):=UD (.inr (.inr ⟨z,rfl,rfl⟩)) n
theorem deZ{H:Hp}(i:Int)(n:Nat):Ev H n (.int i) (.int i):=UD (.inl ⟨i,rfl,rfl⟩) n
theorem d1Z{H:Hp}(b:Bool)(n:Nat):Ev H n (.bl b) (.bl b):=UD (.inr (.inl ⟨b,rfl,rfl⟩)) n
theorem T2{H:Hp}:∀ {n m:Nat} {x y:V},n<=m->Ev H n x y->Ev H m x y
 |0,m,_,_,_,h=>UD h m
 |n+1,0,_,_,hm,_=>absurd hm (by omega)
 |n+1,m+1,_,_,hm,h=>by
  rcases h with h|⟨a,b,xs,ys,e1,e2,h1,h2,h3,h4⟩
  ·exact .inl h
  ·exact .inr ⟨a,b,xs,ys,e1,e2,h1,h2,h3,h4.imp λ_ _ h=>T2 (Nat.le_of_succ_le_succ hm) h⟩
theorem S6{H:Hp}{n:Nat}{a b:Addr}{xs ys:List V}(h1:H a=some (.tup xs))(h2:H b=some (.tup ys))(h3:xs.length<=100)(h4:BU.All2 (Ev H n) xs ys):Ev H (n+1) (.ref a) (.ref b):=.inr ⟨a,b,xs,ys,rfl,rfl,h1,h2,h3,h4⟩
mutual
theorem AL{H:Hp}:(t:Tm)->Sh.OkT t->∀ {v v':V},TmAt H t v->TmAt H t v'->Ev H (2*t.depth) v v'
 | .num n,_,_,_,.num h,.num h'=>T2 (n:=1) (by rw[Tm.depth];omega) (S6 h h' (by simp) (.cons (N6 _ _) (.cons (deZ _ _) .nil)))
 | .truth b,_,_,_,.truth h,.truth h'=>T2 (n:=1) (by rw[Tm.depth];omega) (S6 h h' (by simp) (.cons (N6 _ _) (.cons (d1Z _ _) .nil)))
 | .non,_,_,_,.non h,.non h'=>T2 (n:=1) (by rw[Tm.depth];omega) (S6 h h' (by simp) (.cons (N6 _ _) .nil))
 | .name x,_,_,_,.name h,.name h'=>T2 (n:=1) (by rw[Tm.depth];omega) (S6 h h' (by simp) (.cons (N6 _ _) (.cons (N6 _ _) .nil)))
 | .two s a b,ho,_,_,.two h h1 h2,.two h' h1' h2'=>by
  unfold Sh.OkT at ho;rw[Sh.Ok]at ho
  have e1:=AL a ho.2.1 h1 h1';have e2:=AL b ho.2.2 h2 h2'
  have ed:2*(Tm.two s a b).depth=(2*max a.depth b.depth+1)+1:=by rw[Tm.depth];omega
  rw[ed]
  exact S6 h h' (by simp) (.cons (N6 _ _) (.cons (N6 _ _) (.cons (T2 (by omega) e1) (.cons (T2 (by omega) e2) .nil))))
 | .one s a,ho,_,_,.one h h1,.one h' h1'=>by
  unfold Sh.OkT at ho;rw[Sh.Ok]at ho
  have e1:=AL a ho.2 h1 h1'
  have ed:2*(Tm.one s a).depth=(2*a.depth+1)+1:=by rw[Tm.depth];omega
  rw[ed]
  exact S6 h h' (by simp) (.cons (N6 _ _) (.cons (N6 _ _) (.cons (T2 (by omega) e1) .nil)))
 | .if_ c a b,ho,_,_,.if_ h h1 h2 h3,.if_ h' h1' h2' h3'=>by
  unfold Sh.OkT at ho;rw[Sh.Ok]at ho
  have e1:=AL c ho.1 h1 h1';have e2:=AL a ho.2.1 h2 h2';have e3:=AL b ho.2.2 h3 h3'
  have ed:2*(Tm.if_ c a b).depth=(2*max c.depth (max a.depth b.depth)+1)+1:=by rw[Tm.depth];omega
  rw[ed]
  exact S6 h h' (by simp) (.cons (N6 _ _) (.cons (T2 (by omega) e1) (.cons (T2 (by omega) e2) (.cons (T2 (by omega) e3) .nil))))
 | .let_ x a b,ho,_,_,.let_ h h1 h2,.let_ h' h1' h2'=>by
  unfold Sh.OkT at ho;rw[Sh.Ok]at ho
  have e1:=AL a ho.2.1 h1 h1';have e2:=AL b ho.2.2 h2 h2'
  have ed:2*(Tm.let_ x a b).depth=(2*max a.depth b.depth+1)+1:=by rw[Tm.depth];omega
  rw[ed]
  exact S6 h h' (by simp) (.cons (N6 _ _) (.cons (N6 _ _) (.cons (T2 (by omega) e1) (.cons (T2 (by omega) e2) .nil))))
 | .fn x a,ho,_,_,.fn h h1,.fn h' h1'=>by
  unfold Sh.OkT at ho;rw[Sh.Ok]at ho
  have e1:=AL a ho.2 h1 h1'
  have ed:2*(Tm.fn x a).depth=(2*a.depth+1)+1:=by rw[Tm.depth];omega
  rw[ed]
  exact S6 h h' (by simp) (.cons (N6 _ _) (.cons (N6 _ _) (.cons (T2 (by omega) e1) .nil)))
 | .do_ g a,ho,_,_,.do_ h h1 h2,.do_ h' h1' h2'=>by
  unfold Sh.OkT at ho;rw[Sh.Ok]at ho
  have e1:=AL g ho.1 h1 h1';have e2:=AL a ho.2 h2 h2'
  have ed:2*(Tm.do_ g a).depth=(2*max g.depth a.depth+1)+1:=by rw[Tm.depth];omega
  rw[ed]
  exact S6 h h' (by simp) (.cons (N6 _ _) (.cons (T2 (by omega) e1) (.cons (T2 (by omega) e2) .nil)))
 | .call x ts,ho,_,_,.call h hc h1,.call h' hc' h1'=>by
  unfold Sh.OkT at ho;rw[Sh.Ok]at ho
  have e1:=ev_tms ts ho.2.2 h1 h1'
  have hl:=h1.len
  have ed:2*(Tm.call x ts).depth=(2*depths ts+1)+1:=by rw[Tm.depth];omega
  rw[ed]
  exact S6 h h' (by simp) (.cons (N6 _ _) (.cons (N6 _ _) (.cons (S6 hc hc' (by omega) e1) .nil)))
theorem ev_tms{H:Hp}:(ts:List Tm)->Sh.Oks K10.isNum K10.isName ts->∀ {vs vs':List V},TmsAt H ts vs->TmsAt H ts vs'->BU.All2 (Ev H (2*depths ts)) vs vs'
 | [],_,_,_,.nil,.nil=> .nil
 |t::r,ho,_,_,.cons h h1,.cons h' h1'=>by
  rw[Sh.Oks]at ho
  have e1:=AL t ho.1 h h';have e2:=ev_tms r ho.2 h1 h1'
  exact .cons (T2 (by rw[depths];omega) e1) (e2.imp λ_ _ e=>T2 (by rw[depths];omega) e)
end
theorem YM{H:Hp}{n:Nat}:∀xs:List Wd,BU.All2 (Ev H n) (wds xs) (wds xs)
 | []=> .nil
 |x::r=> .cons (N6 _ _) (YM r)
theorem duZ{H:Hp}{d:Fd}{v v':V}(hf:FitG d)(h:FdAt H d v)(h':FdAt H d v'):Ev H 33 v v':=by
 obtain⟨p,b,c,rfl,h1,h2,h3⟩:=h
 obtain⟨p',b',c',rfl,h1',h2',h3'⟩:=h'
 obtain⟨⟨f1,f2,f3,f4,f5⟩,_⟩:=hf
 exact S6 h1 h1' (by simp) (.cons (N6 _ _) (.cons (N6 _ _) (.cons (S6 (n:=31) h2 h2' (by rw[length_map];omega) (YM _)) (.cons (T2 (by omega) (AL d.body f4 h3 h3')) .nil))))
theorem baZ{H:Hp}{fs:List Fd}{p p':Addr}{us us':List V}(hf:∀d∈fs,FitG d)(hl:fs.length<=3)(hp:H p=some (.tup us))(hp':H p'=some (.tup us'))(h:BU.All2 (FdAt H) fs us)(h':BU.All2 (FdAt H) fs us'):Ev H 34 (.ref p) (.ref p'):=by
 have hul:fs.length=us.length:=h.len
 refine S6 hp hp' (by omega) ?_
 clear hp hp' hl hul
 induction h generalizing us' with
 |nil=>cases h';exact .nil
 |cons r _ ih=>
  cases h' with
  |cons r' hr'=>exact .cons (duZ (hf _ (mem_cons_self ..)) r r') (ih (λd hd=>hf d (mem_cons_of_mem _ hd)) hr')
theorem TU{α β:Type}{R:α->β->Prop}{as:List α}{bs:List β}(h:BU.All2 R as bs):∀(j:Nat) (u:α) (v:β),as[j]? =some u->bs[j]? =some v->R u v:=by
 induction h with
 |nil=>intro j u v h1;simp at h1
 |cons r _ ih=>
  intro j u v h1 h2
  cases j with
  |zero=>cases h1;cases h2;exact r
  |succ j=>exact ih j u v (by simpa using h1) (by simpa using h2)
theorem bXZ{K:FZ}{H:Hp}{x y:V}(h:Lf x y):FE x=true/\x=y:=by
 rcases h with⟨i,rfl,rfl⟩|⟨i,rfl,rfl⟩|⟨i,rfl,rfl⟩<;>exact⟨rfl,rfl⟩
theorem bYZ{K:FZ}{H:Hp}:∀ {n:Nat} {x y:V},Ev H n x y->Dl K H n x y
 |0,_,_,h=>bXZ (K:=K) (H:=H) h
 |n+1,_,_,h=>by
  rcases h with h|⟨a,b,xs,ys,e1,e2,h1,h2,h3,h4⟩
  ·exact .inl (bXZ (K:=K) (H:=H) h)
  ·exact .inr ⟨a,b,xs,ys,e1,e2,.inl ⟨SqT.of h1,SqT.of h2⟩,h4.len,λj u v hu hv=>bYZ (TU h4 j u v hu hv)⟩
end Gn
end RD
namespace RD
open PySem L2
namespace Gn
seal PE PT PW PA PS PSs PTs PI PG PGs PO PEX PSX
abbrev s_law_told:Stmt:=RD.top 53
abbrev SA:List Str:=["_law_text_here","e","_law_kinds"]
theorem sc_law_told:FnScope SA XA (A5 s_law_told):=fS
section
variable{P:Program}{w:World}{K:FZ}{mg:Str->Option Value}{base:Heap}{f:Addr}{fd:FuncData}{QM:Addr}{XU:FuncData}{cM cT cN cK cI:Addr}
structure XF(K:FZ)(cT cN cK cI:Addr):Prop where
 look:ExcLook K cT
 k1:kitOne K (.ref cT) (.ref cT)=some true
 k2:kitOne K (.ref cT) (.ref cN)=some false
 k3:kitOne K (.ref cT) (.ref cK)=some false
 k4:kitOne K (.ref cT) (.ref cI)=some false
 k5:kitOne K (.ref cT) (.type "ValueError")=some true
inductive spToldW (vs:List V) (H:Hp) (Q:VK):Prop
 |mk:∀l,(vs=[.str (tx l)])->(Easy l)->((∀fs p us H',P8 l=some fs->H' p=some (.tup us)->BU.All2 (FdAt H') fs us->Same H H'->Q (.ref p) H'))->((P8 l=none->∀H',Keep H H'->Q .non H'))->spToldW vs H Q
def FF:Sp:=λvs H Q _=>spToldW vs H Q
theorem ok_law_told(F:Fun K "_law_told" "_law_told" s_law_told f fd)(B:RD.NoG mg)(X_MillError:XCls K mg "MillError" cM)(X_BadText:XCls K mg "BadText" cT)(X_BadName:XCls K mg "BadName" cN)(X_BadKind:XCls K mg "BadKind" cK)(X_BadInput:XCls K mg "BadInput" cI)(TK:Takes K cM λc=>c=cT)(XX:XF K cT cN cK cI)
  (G_read0:FnOk P w K mg base (CXr P w) 234 QM XU ["text"] (YA cT))(b0Z:Binds K XU ["text"] [])(bZZ:kZ K (.ref QM)=true)(b2Z:mg "read"=some (.ref QM)):
  FnOk P w K mg base CX0 235 f fd XA FF:=by
 have b1Z:=G_read0.keep
 refine F.ok sc_law_told (λvs H Q E h=> ?_) (λcdv A outer s H vs Q E hr h=> ?_)
 ·obtain⟨l,rfl,_⟩:=h
  rfl
 obtain⟨l,rfl,ez,q1,q2⟩:=h
 have nd:=sc_law_told.nd
 have hu:=hr.units0
 refine⟨_,(A7 (WZ (i:=1) rfl rfl nd rfl rfl rfl X_MillError.m TK (aQZ (YB b1Z (hr.mono (by decide)) rfl b2Z bZZ b0Z .nil (λ_=>(A0 (pv 0) A3)))) (λ_=>(A1 (B3 (i:=2) nd rfl (Or.inl rfl) (J5 (A0 (C8 (PN (K:=K)) rfl B.isinstance_ O9 (A0 (pv 1) (A0 (C7 (v:=.ref _) rfl X_BadText.m rfl) A3))) (A0 (C8 (PN (K:=K)) rfl B.isinstance_ O9 (A0 (pv 1) (A0 (C7 (v:=.ref _) rfl X_BadName.m rfl) A3))) (A0 (C8 (PN (K:=K)) rfl B.isinstance_ O9 (A0 (pv 1) (A0 (C7 (v:=.ref _) rfl X_BadKind.m rfl) A3))) (A0 (C8 (PN (K:=K)) rfl B.isinstance_ O9 (A0 (pv 1) (A0 (C7 (v:=.ref _) rfl X_BadInput.m rfl) A3))) A3))))))
   (A1 (L6 (C5 (PW.pt (T4 (O3 (K:=K) (C8 (PN (K:=K)) rfl B.isinstance_ O9 (A0 (pv 1) (A0 (UW (v:=.ty "ValueError") rfl B.ValueError_ JW rfl) A3))) (λ_=>rfl)) (S0 (B0 (kEq (K:=K) hu) (pv 2) (J5 (A0 BR (A0 BR (A0 BR (A0 BR A3))))) rfl)))) (A7 (B2 MS)) B5))
   (A7 (B2 A9))))))), ?_⟩
 refine⟨_,rfl,l,rfl,ez,λfs p us H' e1 e2 e3 e4 _=>q1 fs p us H' e1 e2 e3 e4,λhb H1 hK=>⟨cT,rfl,rfl,λa ha=> ?_⟩⟩
 have ea:(upd H1 a (JM a (.ref cT))) a=some (JM a (.ref cT)):=A2
 have kp:=hK.trans (Keep.new ha (JM a (.ref cT)))
 generalize upd H1 a (JM a (.ref cT))=H2 at ea kp⊢
 refine⟨_,rfl,a,_,.ref cT,cT,true,rfl,.inr ⟨_,rfl,rfl⟩,ea,XX.look,XX.k1, ?_⟩
 refine⟨_,rfl,a,_,.ref cN,cT,false,rfl,.inr ⟨_,rfl,rfl⟩,ea,XX.look,XX.k2, ?_⟩
 refine⟨_,rfl,a,_,.ref cK,cT,false,rfl,.inr ⟨_,rfl,rfl⟩,ea,XX.look,XX.k3, ?_⟩
 refine⟨_,rfl,a,_,.ref cI,cT,false,rfl,.inr ⟨_,rfl,rfl⟩,ea,XX.look,XX.k4,(by show 4<=sizeLine;decide),λp hp=> ?_⟩
 refine⟨λ_ _=>False, ?_,λ_ _ h=>h.elim⟩
 refine⟨_,rfl,a,_,.type "ValueError",cT,true,rfl,.inl ⟨_,rfl,rfl⟩,A6 hp _ _ _ ea,XX.look,XX.k5,true,rfl, ?_⟩
 refine ifT rfl ⟨_,rfl,(by show 4<=sizeLine;decide),λp2 hp2=> ?_⟩
 refine .inr ⟨p,p2,_,rfl,rfl,SqL.of (A6 hp2 _ _ _ A2),SqL.of A2,rfl,_,rfl, ?_⟩
 exact ifT rfl (q2 hb _ ((kp.trans (Keep.new hp _)).trans (Keep.new hp2 _)))
end
end Gn
end RD
namespace RD
open PySem L2
namespace Gn
seal PE PT PW PA PS PSs PTs PI PG PGs PO PEX PSX
abbrev s_law_words:Stmt:=RD.top 54
abbrev PH:List Str:=["_law_text_here","_law_mark"]
theorem sc_law_words:FnScope PH XA (A5 s_law_words):=fS
theorem JA:∀(cs l:List Nat),JN cs (tx l)=tx (Gr.pas cs l)
 | [],_=>rfl
 |c::cs,l=>by
  show JN cs (Txt.replace (tx l) ⟨#[c]⟩ ⟨#[32,c,32]⟩)=tx (Gr.pas cs (Gr.pd c l))
  have:=Gr.repl_pd l c
  rw[show Txt.replace (tx l) ⟨#[c]⟩ ⟨#[32,c,32]⟩=tx (Gr.pd c l)from this]
  exact JA cs _
theorem MO:∀(cs l:List Nat),(Gr.pas cs l).length<=3^cs.length*l.length
 | [],_=>by simp[Gr.pas]
 |c::cs,l=>by
  have h1:=MO cs (Gr.pd c l)
  have h2:=Gr.pd_len c l
  have h3:3^cs.length*(Gr.pd c l).length<=3^cs.length*(3*l.length):=Nat.mul_le_mul_left _ h2
  show(Gr.pas cs (Gr.pd c l)).length<=3^(cs.length+1)*l.length
  rw[Nat.pow_succ,Nat.mul_assoc]
  omega
theorem OR:("()[],!":Str).cps.toList=Gr.mk6:=by decide +kernel
section
variable{P:Program}{w:World}{K:FZ}{mg:Str->Option Value}{base:Heap}{f:Addr}{fd:FuncData}
inductive spLWordsW(vs:List V)(H:Hp)(Q:VK):Prop
 |mk:∀l,(vs=[.str (tx l)])->(l.length<=4000)->(∀r H',Same H H'->H' r=some (.lst ((Gr.wq l).map λx=>V.str (tx x)))->Q (.ref r) H')->spLWordsW vs H Q
def PK:Sp:=λvs H Q _=>spLWordsW vs H Q
theorem ok_law_words(F:Fun K "_law_words" "_law_words" s_law_words f fd):FnOk P w K mg base CX0 1 f fd XA PK:=by
 refine F.ok sc_law_words (λvs H Q E h=> ?_) (λcdv A outer s H vs Q E hr h=> ?_)
 ·obtain⟨l,rfl,_⟩:=h
  rfl
 obtain⟨l,rfl,hl,q⟩:=h
 have nd:=sc_law_words.nd
 have hu:=hr.units0
 refine⟨_,(A1 (RI (i:=0) (j:=1) PassesOwn.never rfl nd rfl rfl rfl rfl)
   (A7 (B2 (EG (K:=K) PySem.F.plainAttrs_str PySem.F.slot_str_split PySem.F.type_str_split ahZ (pv 0))))), ?_⟩
 refine⟨tx l,rfl,λk=> ?_,fun σ' h1 h2 h3=> ?_⟩
 ·rw[JA,L5]
  have h1:=MO (("()[],!":Str).cps.toList.take k) l
  have h2:(("()[],!":Str).cps.toList.take k).length<=6:=by rw[OR,length_take];show min k 6<=6;omega
  have h3:3^(("()[],!":Str).cps.toList.take k).length<=3^6:=Nat.pow_le_pow_right (by decide) h2
  have h4:3^(("()[],!":Str).cps.toList.take k).length*l.length<=3^6*4000:=Nat.mul_le_mul h3 hl
  omega
 ·rw[OR,JA]at h2
  refine⟨_,h2,rfl,_,rfl,rfl, ?_,λp hp=> ?_⟩
  ·rw[L5]
   have h1:=MO Gr.mk6 l
   have h4:3^Gr.mk6.length*l.length<=3^6*4000:=Nat.mul_le_mul (le_refl _) hl
   omega
  ·refine q p _ (A6 hp _) ?_
   rw[A2,Gr.words_wg,map_map]
   rfl
end
end Gn
end RD
namespace RD
open PySem L2
namespace Gn
seal PE PT PW PA PS PSs PTs PI PG PGs PO PEX PSX
abbrev s_law_changed:Stmt:=RD.top 55
abbrev JT:List Str:=["_law_row","_law_at","_law_cell","_law_odd"]
theorem sc_law_changed:FnScope JT cLZ (A5 s_law_changed):=fS
abbrev S1(x:Wd):V:=.str (tx x)
theorem RG(A B:List V)(n:Nat)(h:A.length=n):Z0 (A++B) none (some (n:Int))=A:=by
 subst h
 unfold Z0
 rw[HT.sIx_nat,HT.sIx_none,List.drop_zero,Nat.sub_zero,min_eq_left (by simp),List.take_left]
theorem SI(A B:List V)(n:Nat)(h:A.length=n):Z0 (A++B) (some (n:Int)) none=B:=by
 subst h
 unfold Z0
 rw[HT.sIx_nat,HT.sIx_none,min_eq_left (by simp),List.drop_left,take_of_length_le (by simp)]
theorem boZ(A B:List V)(x:V)(n:Nat)(h:A.length=n):Z0 (A++x::B) (some ((n:Int)+1)) none=B:=by
 have:=SI (A++ [x]) B (n+1) (by rw[length_append,h];rfl)
 rw[List.append_assoc]at this
 exact this
def odd13:List Wd:=[[93],[41],O5,P9,wIn,K3,[44],T6,[33],[42],[97,110,100,32,61],[49,32,49],[65]]
theorem YD:(["]",")","then","else","in","=>",",","def","!","*","and =","1 1","A"]:List Str).map V.str=odd13.map S1:=by decide +kernel
theorem ZY(way:Nat)(h:way<39):atI (odd13.map S1) ((way:Int)/3%13)=some (S1 (odd13.getD (way/3) [])):=by
 revert way;decide +kernel
section
variable{P:Program}{w:World}{K:FZ}{mg:Str->Option Value}{base:Heap}{f:Addr}{fd:FuncData}
def chg(way:Nat)(A:List Wd)(x:Wd)(B:List Wd):List Wd:=if way%3=0 then A++B else if way%3=1 then A++x::x::B else A++odd13.getD (way/3) []::x::B
inductive spChgW (K:FZ) (vs:List V) (H:Hp) (Q:VK):Prop
 |mk:∀(r:Addr) (A B:List Wd) (x:Wd) (way:Nat),(vs=[.ref r,.int (A.length:Int),.int (way:Int)])->(SqL K H r ((A++x::B).map S1))->(way<39)->((A++x::B).length<=10000)->(∀p H',Same H H'->H' p=some (.lst ((chg way A x B).map S1))->Q (.ref p) H')->spChgW K vs H Q
def bKZ(K:FZ):Sp:=λvs H Q _=>spChgW K vs H Q
theorem ok_law_changed(F:Fun K "_law_changed" "_law_changed" s_law_changed f fd):FnOk P w K mg base CX0 1 f fd cLZ (bKZ K):=by
 refine F.ok sc_law_changed (λvs H Q E h=> ?_) (λcdv A outer s H vs Q E hr h=> ?_)
 ·obtain⟨r,A,B,x,way,rfl,_⟩:=h
  rfl
 obtain⟨r,L,B,x,way,rfl,hS,hw,hl,q⟩:=h
 have nd:=sc_law_changed.nd
 have hu:=hr.units0
 have hsz:(20000:Nat)<=sizeLine:=by decide
 rw[length_append,length_cons]at hl
 have eL:((L.map S1).length:Int)=(L.length:Int):=by rw[length_map]
 rw[map_append,map_cons]at hS
 refine⟨_,(A1 (B3 (i:=3) nd rfl (Or.inl rfl) (ixE K w (J5 (Z4 rfl)) (A8 D1 (A8 D8 (pv 2) A4) A4)))
   (A1 (C5 (B0 (kEq (K:=K) hu) (A8 D1 (pv 2) A4) A4 rfl) (A7 (B2 (A8 D3 (N9 (kSl (K:=K)) (pv 0) T5 (O2 (pv 1))) (N9 (kSl (K:=K)) (pv 0) (O2 (A8 D3 (pv 1) A4)) T5)))) B5)
   (A1 (C5 (B0 (kEq (K:=K) hu) (A8 D1 (pv 2) A4) A4 rfl) (A7 (B2 (A8 D3 (A8 D3 (N9 (kSl (K:=K)) (pv 0) T5 (O2 (pv 1))) (J5 (A0 (ixE K w (pv 0) (pv 1)) A3))) (N9 (kSl (K:=K)) (pv 0) (O2 (pv 1)) T5)))) B5)
   (A7 (B2 (A8 D3 (A8 D3 (N9 (kSl (K:=K)) (pv 0) T5 (O2 (pv 1))) (J5 (A0 (pv 3) A3))) (N9 (kSl (K:=K)) (pv 0) (O2 (pv 1)) T5))))))), ?_⟩
 refine⟨(by show 13<=sizeLine;decide),λl hl0=> ?_⟩
 have s1:=A6 hl0 (.lst ((["]",")","then","else","in","=>",",","def","!","*","and =","1 1","A"]:List Str).map V.str))
 have hl1:upd H l (.lst ((["]",")","then","else","in","=>",",","def","!","*","and =","1 1","A"]:List Str).map V.str)) l=some (.lst (odd13.map S1)):=by rw[A2,YD]
 generalize upd H l (.lst ((["]",")","then","else","in","=>",",","def","!","*","and =","1 1","A"]:List Str).map V.str))=H1 at s1 hl1⊢
 refine⟨_,rfl,⟨_,_,rfl,rfl,⟨by decide,by decide⟩,⟨_,_,rfl,rfl,(by decide:(0:Int)<13),(ixL hl1 (ZY way hw) ?_)⟩⟩⟩
 have hS1:=s1.seq hS
 refine⟨_,rfl,⟨_,_,rfl,rfl,(by decide:(0:Int)<3),.inl ⟨rfl,_,rfl, ?_⟩⟩⟩
 have eL0:(L.map S1).length=L.length:=length_map _
 by_cases h0:way%3=0
 ·refine ifT (by simp;omega) ?_
  refine⟨_,rfl,_,rfl,_,rfl,.inl ⟨r,_,rfl,hS1,λp1 hp1=> ?_⟩⟩
  rw[RG _ _ _ eL0]
  have s2:=A6 hp1 (.lst (L.map S1))
  refine⟨_,rfl,_,rfl,.inl ⟨_,_,rfl,rfl,_,rfl,.inl ⟨r,_,rfl,s2.seq hS1,λp2 hp2=> ?_⟩⟩⟩
  rw[boZ _ _ _ _ eL0]
  have s3:=A6 hp2 (.lst (B.map S1))
  refine .inr (.inr ⟨p1,p2,_,_,rfl,rfl,s3 _ _ A2,A2, ?_,λp3 hp3=>q p3 _ (((s1.trans s2).trans s3).trans (A6 hp3 _)) ?_⟩)
  ·rw[length_map,length_map];omega
  ·rw[A2];unfold chg;rw[if_pos h0,map_append]
 ·refine ifF (by simp;omega) ?_
  refine⟨_,rfl,⟨_,_,rfl,rfl,(by decide:(0:Int)<3),.inl ⟨rfl,_,rfl, ?_⟩⟩⟩
  by_cases h1:way%3=1
  ·refine ifT (by simp;omega) ?_
   refine⟨_,rfl,_,rfl,_,rfl,.inl ⟨r,_,rfl,hS1,λp1 hp1=> ?_⟩⟩
   rw[RG _ _ _ eL0]
   have s2:=A6 hp1 (.lst (L.map S1))
   have hat:atI (L.map S1++S1 x::B.map S1) (L.length:Int)=some (S1 x):=V5 (by rw[getElem?_append_right (by rw[eL0];exact le_refl _),eL0,Nat.sub_self];rfl)
   refine⟨_,rfl,_,rfl,.inl ⟨r,_,(L.length:Int),_,rfl,rfl,s2.seq hS1,hat,(by show 1<=sizeLine;decide),λp2 hp2=> ?_⟩⟩
   have s3:=A6 hp2 (.lst [S1 x])
   refine .inr (.inr ⟨p1,p2,_,_,rfl,rfl,s3 _ _ A2,A2, ?_,λp3 hp3=> ?_⟩)
   ·rw[length_map];show L.length+1<=_;omega
   have s4:=A6 hp3 (.lst (L.map S1++ [S1 x]))
   refine⟨_,rfl,_,rfl,_,rfl,.inl ⟨r,_,rfl,((s2.trans s3).trans s4).seq hS1,λp4 hp4=> ?_⟩⟩
   rw[SI _ _ _ eL0]
   have s5:=A6 hp4 (.lst (S1 x::B.map S1))
   refine .inr (.inr ⟨p3,p4,_,_,rfl,rfl,s5 _ _ A2,A2, ?_,λp5 hp5=>q p5 _ (((((s1.trans s2).trans s3).trans s4).trans s5).trans (A6 hp5 _)) ?_⟩)
   ·simp only[length_append,length_map,length_cons,length_nil];omega
   ·rw[A2];unfold chg;rw[if_neg h0,if_pos h1];simp
  ·refine ifF (by simp;omega) ?_
   refine⟨_,rfl,_,rfl,_,rfl,.inl ⟨r,_,rfl,hS1,λp1 hp1=> ?_⟩⟩
   rw[RG _ _ _ eL0]
   have s2:=A6 hp1 (.lst (L.map S1))
   refine⟨_,rfl,(by show 1<=sizeLine;decide),λp2 hp2=> ?_⟩
   have s3:=A6 hp2 (.lst [S1 (odd13.getD (way/3) [])])
   refine .inr (.inr ⟨p1,p2,_,_,rfl,rfl,s3 _ _ A2,A2, ?_,λp3 hp3=> ?_⟩)
   ·rw[length_map];show L.length+1<=_;omega
   have s4:=A6 hp3 (.lst (L.map S1++ [S1 (odd13.getD (way/3) [])]))
   refine⟨_,rfl,_,rfl,_,rfl,.inl ⟨r,_,rfl,((s2.trans s3).trans s4).seq hS1,λp4 hp4=> ?_⟩⟩
   rw[SI _ _ _ eL0]
   have s5:=A6 hp4 (.lst (S1 x::B.map S1))
   refine .inr (.inr ⟨p3,p4,_,_,rfl,rfl,s5 _ _ A2,A2, ?_,λp5 hp5=>q p5 _ (((((s1.trans s2).trans s3).trans s4).trans s5).trans (A6 hp5 _)) ?_⟩)
   ·simp only[length_append,length_map,length_cons,length_nil];omega
   ·rw[A2];unfold chg;rw[if_neg h0,if_neg h1];simp
end
end Gn
end RD
namespace RD
open PySem L2
namespace Gr
open Sh (Ok Oks tk tks tkr wt wts Nm FOk ftk nms nmr W6)
theorem YZ{l:List Nat}{ws:List Wd}(h:K10.words l=some ws):∀w∈ws,w≠ []:=λw hw=>(ND _ _ _ h w hw).ne
theorem Bad.no{l:List Nat}(h:Bad l):P8 l=none:=by
 unfold P8
 split
 ·cases hw:K10.words l with
  |none=>rfl
  |some ws=>
   show O7 K10.isNum K10.isName ws=none
   unfold O7
   split
   ·cases hp:K7 K10.isName ws (K2 K10.isNum K10.isName ws 32).1 with
    |none=>rfl
    |some fs=>exact absurd ⟨YZ hw,fs,hp⟩ (h ws hw)
   ·rfl
 ·rfl
theorem Bad.easy{l:List Nat}(h:Bad l)(hl:l.length<=100000)(hs:∀c∈l,c<16^8):Easy l:=
 ⟨hl,hs,λ_ _ _ _ _=>trivial,λws fs hw hp=>absurd ⟨YZ hw,fs,hp⟩ (h ws hw)⟩
def jl(ws:List Wd):Nat:=(ws.map λw=>w.length+1).sum
theorem jl_app(a b:List Wd):jl (a++b)=jl a+jl b:=by unfold jl;rw[map_append,sum_append]
theorem jl_cons(w:Wd)(b:List Wd):jl (w::b)=w.length+1+jl b:=by unfold jl;rw[map_cons,sum_cons]
theorem X1:jl []=0:=rfl
theorem inter_jl:∀ws:List Wd,(E4 [32] ws).length<=jl ws
 | []=>le_refl _
 | [x]=>by rw[jl_cons];show x.length<=_;omega
 |x::y::r=>by
  have ih:=inter_jl (y::r)
  show(x++ [32]++E4 [32] (y::r)).length<=_
  rw[jl_cons,length_append,length_append]
  simp only[length_cons,length_nil]
  omega
section
variable{nu na:Wd->Bool}(hU:∀x,nu x=true->x.length<=12)(hA:∀x,na x=true->x.length<=8)
include hU hA
mutual
theorem jx:(t:Tm)->Ok nu na t->jl (tk t)<=wt t+3*t.size
 | .num n,ho=>by rw[Ok]at ho;have:=hU _ ho.1;rw[tk,wt,Tm.size,jl_cons,X1];omega
 | .truth b,_=>by rw[tk,wt,Tm.size];cases b<;>decide
 | .non,_=>by rw[tk,wt,Tm.size];decide
 | .name x,ho=>by rw[Ok]at ho;have:=hA _ ho.1;rw[tk,wt,Tm.size,jl_cons,X1];omega
 | .two s a b,ho=>by
  rw[Ok]at ho
  have e1:=jx a ho.2.1;have e2:=jx b ho.2.2
  have hs:s.length=1:=by have h1:=ho.1;revert h1;clear ho;revert s;decide
  rw[tk,wt,Tm.size]
  simp only[jl_cons,jl_app,X1,length_cons,length_nil]
  omega
 | .one s a,ho=>by
  rw[Ok]at ho
  have e1:=jx a ho.2
  have hs:s.length<=5:=by
   have h':s=AM\/s=AR\/s=U7\/s=FH:=by simpa [E9,or_assoc]using ho.1
   rcases h' with rfl|rfl|rfl|rfl<;>decide
  rw[tk,wt,Tm.size]
  simp only[jl_cons,jl_app,X1,length_cons,length_nil]
  omega
 | .if_ c a b,ho=>by
  rw[Ok]at ho
  have e1:=jx c ho.1;have e2:=jx a ho.2.1;have e3:=jx b ho.2.2
  rw[tk,wt,Tm.size]
  simp only[jl_cons,jl_app,X1,length_cons,length_nil]
  omega
 | .let_ x a b,ho=>by
  rw[Ok]at ho
  have e1:=hA _ ho.1.1;have e2:=jx a ho.2.1;have e3:=jx b ho.2.2
  rw[tk,wt,Tm.size]
  simp only[jl_cons,jl_app,X1,length_cons,length_nil]
  omega
 | .fn x a,ho=>by
  rw[Ok]at ho
  have e1:=hA _ ho.1.1;have e2:=jx a ho.2
  rw[tk,wt,Tm.size]
  simp only[jl_cons,jl_app,X1,length_cons,length_nil]
  omega
 | .do_ f a,ho=>by
  rw[Ok]at ho
  have e1:=jx f ho.1;have e2:=jx a ho.2
  rw[tk,wt,Tm.size]
  simp only[jl_cons,jl_app,X1,length_cons,length_nil]
  omega
 | .call x ts,ho=>by
  rw[Ok]at ho
  have e1:=hA _ ho.1.1
  have e2:jl (tks ts)<=wts ts+3*sizes ts:=by
   cases ts with
   |nil=>rw[tks,X1];exact zero_le _
   |cons t r=>
    have hh:=ho.2.2
    rw[Oks]at hh
    have e3:=jx t hh.1;have e4:=jxr r hh.2
    rw[W6,wts,sizes,jl_app]
    omega
  rw[tk,wt,Tm.size]
  simp only[jl_cons,jl_app,X1,length_cons,length_nil]
  omega
theorem jxr:(ts:List Tm)->Oks nu na ts->jl (tkr ts)<=wts ts+3*sizes ts
 | [],_=>by rw[tkr,X1];exact zero_le _
 |t::r,ho=>by
  rw[Oks]at ho
  have e3:=jx t ho.1;have e4:=jxr r ho.2
  rw[tkr,wts,sizes,jl_cons,jl_app]
  simp only[length_cons,length_nil]
  omega
end
theorem jnr:∀(xs:List Wd),(∀x∈xs,Nm nu na x)->jl (nmr xs)<=11*xs.length
 | [],_=>zero_le _
 |x::r,ho=>by
  have e1:=hA _ (ho x (mem_cons_self ..)).1
  have e2:=jnr r λy hy=>ho y (mem_cons_of_mem _ hy)
  rw[nmr,jl_cons,jl_cons]
  simp only[length_cons,length_nil]
  omega
theorem jf{f:Fd}(h:FOk nu na f):jl (ftk f)<=wt f.body+3*f.body.size+75:=by
 obtain⟨h1,h2,h3,h4,h5⟩:=h
 have e1:=hA _ h1.1
 have e2:=jx hU hA f.body h4
 have e3:jl (nms f.names)<=11*f.names.length:=by
  cases hf:f.names with
  |nil=>exact zero_le _
  |cons x r=>
   rw[hf]at h2
   have a1:=hA _ (h2 x (mem_cons_self ..)).1
   have a2:=jnr hU hA r λy hy=>h2 y (mem_cons_of_mem _ hy)
   rw[nms,jl_cons]
   simp only[length_cons]
   omega
 unfold ftk
 simp only[jl_cons,jl_app,X1,length_cons,length_nil]
 omega
end
theorem jp:∀ {fs:List Fd},(∀d∈fs,Gn.FitG d)->jl (fs.flatMap ftk)<=1184*fs.length
 | [],_=>zero_le _
 |d::r,h=>by
  have e1:=jf X4 Q8 (h d (mem_cons_self ..)).1
  have e2:=jp λy hy=>h y (mem_cons_of_mem _ hy)
  have e3:=(h d (mem_cons_self ..)).2
  rw[flatMap_cons,jl_app,length_cons]
  omega
section
variable{fs:List Fd}(hf:∀d∈fs,Gn.FitG d)(h0:1<=fs.length)(h3:fs.length<=3)
include hf
theorem gw_all:∀x∈fs.flatMap ftk,Gw x:=ND _ _ _ (Gn.words_ptx (g:=[32]) ⟨by decide,by decide⟩ hf).2
include h0 h3
theorem prg_all:Prg (fs.flatMap ftk):=by
 refine⟨λw hw=>(gw_all hf w hw).ne, ?_⟩
 have hr:=Gn.read_words hf h0 h3
 unfold O7 at hr
 split at hr
 ·obtain⟨g,e3,e4⟩:=bind_eq_some_iff.mp hr
  exact⟨g,e3⟩
 ·cases hr
theorem joined:P8 (E4 [32] (fs.flatMap ftk))=some fs/\Easy (E4 [32] (fs.flatMap ftk)):=by
 have hw:=CZ _ (gw_all hf)
 have hl:(E4 [32] (fs.flatMap ftk)).length<=4000:=by
  have:=inter_jl (fs.flatMap ftk)
  have:=jp hf
  omega
 refine⟨?_,Gn.easy_of hw hl hf h0 h3⟩
 unfold P8
 rw[if_pos hl,hw]
 exact Gn.read_words hf h0 h3
end
theorem gw_sgn{x:Wd}(h:Gw x):∀c∈x,c<16^8:=by
 intro c hc
 rcases h with h|rfl|⟨d,rfl,hd⟩
 ·exact Gn.long_sm (all_eq_true.mp h.1 c hc)
 ·revert c;decide
 ·rw[sZ hc];exact Gn.mark_sm hd
end Gr
end RD
namespace RD
open PySem L2
namespace Gn
theorem IQ{α:Type}{xs:List α}{n:Nat}(hl:xs.length=n)(h0:0<n)(z:Int):∃(j:Nat) (x:α),j<n/\z%(n:Int)=(j:Int)/\xs[j]? =some x/\x∈xs/\atI xs (z%(n:Int))=some x:=by
 have h1:0<=z%(n:Int):=Int.emod_nonneg _ (by omega)
 have h2:z%(n:Int)<n:=Int.emod_lt_of_pos _ (by omega)
 obtain⟨j,hj⟩:=Int.eq_ofNat_of_zero_le h1
 have hj2:j<xs.length:=by omega
 refine⟨j,xs[j],by omega,hj,by simp[hj2],getElem_mem _, ?_⟩
 rw[hj]
 exact V5 (by simp[hj2])
def some16:List Wd:=[T6,wIf,O5,P9,AK,wIn,wFn,Z3,wNo,AM,AR,U7,FH,[49],[65],[]]
theorem XM:(["def","if","then","else","let","in","fn","yes","no","head","tail","empty","not","1","A",""]:List Str).map V.str=some16.map S1:=by decide +kernel
abbrev a0:Wd:=[100,101,102,32]
abbrev b0:Wd:=[40,97,41,32,61,32,49]
abbrev a1:Wd:=[100,101,102,32,102,40,97,44,32]
abbrev b1:Wd:=[41,32,61,32,49]
abbrev a2:Wd:=[100,101,102,32,102,40,41,32,61,32,108,101,116,32]
abbrev b2:Wd:=[32,61,32,49,32,105,110,32,50]
abbrev a3:Wd:=[100,101,102,32,102,40,41,32,61,32,102,110,32]
abbrev b3:Wd:=[32,61,62,32,49]
abbrev c0:Wd:=[100,101,102,32,102,40]
abbrev c1:Wd:=[100,101,102,32,102,40,97,41,32,61,32,103,40]
theorem ia0:Is ("def ":Str) a0:=by unfold Is;decide +kernel
theorem ib0:Is ("(a) = 1":Str) b0:=by unfold Is;decide +kernel
theorem ia1:Is ("def f(a, ":Str) a1:=by unfold Is;decide +kernel
theorem ib1:Is (") = 1":Str) b1:=by unfold Is;decide +kernel
theorem ia2:Is ("def f() = let ":Str) a2:=by unfold Is;decide +kernel
theorem ib2:Is (" = 1 in 2":Str) b2:=by unfold Is;decide +kernel
theorem ia3:Is ("def f() = fn ":Str) a3:=by unfold Is;decide +kernel
theorem ib3:Is (" => 1":Str) b3:=by unfold Is;decide +kernel
theorem ic0:Is ("def f(":Str) c0:=by unfold Is;decide +kernel
theorem ic1:Is ("def f(a) = g(":Str) c1:=by unfold Is;decide +kernel
theorem id1:Is (")":Str) [41]:=by unfold Is;decide +kernel
def fl(w:Wd):List Wd:=[a0++w++b0,a1++w++b1,a2++w++b2,a3++w++b3]
def okB(l:List Nat):Bool:=Gr.isBad l&&decide (l.length<=100)&&l.all λc=>decide (c<1000)
theorem b5Z:(some16.all λw=>decide (w.length<=10)&&(fl w).all okB)=true:=by decide +kernel
def inn9:List Wd:=[[97,32,98],[44,32,97],[97,32,44],[97,32,44,44,32,98],[44],[97,32,44,32,98,32,99],[40,97,41],[97,32,44,32,44,32,98],[97,32,59,32,98]]
theorem aYZ:(["a b",", a","a ,","a ,, b",",","a , b c","(a)","a , , b","a ; b"]:List Str).map V.str=inn9.map S1:=by decide +kernel
def MF(w:Wd):Wd:=if w=[40,97,41]then [40,97]else w
theorem dqZ:(inn9.all λw=>decide (Txt.replace (tx w) "(a)" "(a"=tx (MF w)))=true:=by decide +kernel
def fl2(w:Wd):List Wd:=[c0++w++b1,c1++MF w++ [41]]
theorem a2Z:(inn9.all λw=>decide (w.length<=10)&&decide ((MF w).length<=10)&&(fl2 w).all okB)=true:=by decide +kernel
theorem ZC{l:List Nat}(h:okB l=true):Gr.Bad l/\Easy l:=by
 simp only[okB,Bool.and_eq_true,decide_eq_true_eq]at h
 have hb:=Gr.Bad.of h.1.1
 exact⟨hb,hb.easy (by omega) λc hc=>by have:=of_decide_eq_true (all_eq_true.mp h.2 c hc);omega⟩
def told12:List Wd:=[T6,wIf,O5,P9,AK,wIn,wFn,K3,E6,D7,EL,DK]
theorem VS:(["def","if","then","else","let","in","fn","=>","(",")","[","]"]:List Str).map V.str=told12.map S1:=by decide +kernel
theorem KN:∀x∈told12,x∈T6::Gr.ks:=by decide
def five:List Wd:=[O5,P9,wIn,K3,D7]
theorem aMZ:(["then","else","in","=>",")"]:List Str).map V.str=five.map S1:=by decide +kernel
theorem cAZ{x y:Wd}(h:S1 x=S1 y):x=y:=by
 injection h with h
 exact tx_inj' h
theorem alZ(x:Wd)(ws:List Wd):inV (S1 x) (ws.map S1)=decide (x∈ws):=by
 unfold inV
 rw[Bool.eq_iff_iff,any_eq_true,decide_eq_true_iff]
 constructor
 ·rintro⟨v,hv,e⟩
  obtain⟨y,hy,rfl⟩:=mem_map.mp hv
  have e2:tx y=tx x:=by simpa [eqV]using e
  rw[<-tx_inj' e2];exact hy
 ·exact λh=>⟨S1 x,mem_map.mpr ⟨x,h,rfl⟩,by simp[eqV]⟩
def abZ(x:Wd)(way:Nat):Prop:=way<39/\(way%3=1->x≠E6)/\(way%3=2->x∈five/\odd13.getD (way/3) []∈Gr.odds)
theorem XW(way:Nat)(h:way<39)(h2:way%3=2)(h3:¬(6<way/3/\way/3<11)):odd13.getD (way/3) []∈Gr.odds:=by
 revert way;decide +kernel
theorem aLZ:∀way:Nat,way<39->way%3=2->(decide (6<way/3)&&decide (way/3<11))=true->odd13.getD ((way - 21)/3) []∈Gr.odds:=by decide +kernel
theorem bgZ(way:Nat)(h:way<39)(h2:way%3=2)(h3:6<way/3)(h4:way/3<11):odd13.getD ((way - 21)/3) []∈Gr.odds/\21<=way/\(way - 21)%3=2:=
 ⟨aLZ way h h2 (by rw[decide_eq_true h3,decide_eq_true h4];rfl),by omega,by omega⟩
theorem bnZ{A B:List Wd}{x:Wd}{way:Nat}(hg:∀y∈A++x::B,Gr.Gw y)(hp:Gr.Prg (A++x::B))(hx:x∈told12)(hw:abZ x way):Gr.Bad (E4 [32] (chg way A x B)):=by
 obtain⟨h1,h2,h3⟩:=hw
 unfold chg
 by_cases e0:way%3=0
 ·rw[if_pos e0];exact Gr.bad_less hg hp (KN x hx)
 ·rw[if_neg e0]
  by_cases e1:way%3=1
  ·rw[if_pos e1];exact Gr.bad_twice hg hp (KN x hx)
  ·rw[if_neg e1]
   obtain⟨h4,h5⟩:=h3 (by omega)
   exact Gr.bad_more hg hp h4 h5
theorem ZH:∀y∈Gr.odds,y.length<=5/\∀c∈y,c<1000:=by decide
theorem XR{A B:List Wd}{x:Wd}{way:Nat}(hg:∀y∈A++x::B,Gr.Gw y)(hw:abZ x way)(hl:Gr.jl (A++x::B)<=5000):Gr.jl (chg way A x B)<=11000/\(E4 [32] (chg way A x B)).length<=11000/\∀c∈E4 [32] (chg way A x B),c<16^8:=by
 obtain⟨h1,h2,h3⟩:=hw
 rw[Gr.jl_app,Gr.jl_cons]at hl
 have hj:=Gr.inter_jl (chg way A x B)
 have key:Gr.jl (chg way A x B)<=11000/\∀y∈chg way A x B,∀c∈y,c<16^8:=by
  unfold chg
  split
  ·rw[Gr.jl_app]
   refine⟨by omega,λy hy=>Gr.gw_sgn (hg y ?_)⟩
   rcases mem_append.mp hy with h|h
   ·exact mem_append_left _ h
   ·exact mem_append_right _ (mem_cons_of_mem _ h)
  ·split
   ·rw[Gr.jl_app,Gr.jl_cons,Gr.jl_cons]
    refine⟨by omega,λy hy=>Gr.gw_sgn (hg y ?_)⟩
    rcases mem_append.mp hy with h|h
    ·exact mem_append_left _ h
    ·rcases cZ h with h|h
     ·rw[h];exact mem_append_right _ (mem_cons_self ..)
     ·exact mem_append_right _ h
   ·rename_i e0 e1
    obtain⟨h4,h5⟩:=h3 (by omega)
    obtain⟨o1,o2⟩:=ZH _ h5
    rw[Gr.jl_app,Gr.jl_cons,Gr.jl_cons]
    refine⟨by omega,λy hy=> ?_⟩
    rcases mem_append.mp hy with h|h
    ·exact Gr.gw_sgn (hg y (mem_append_left _ h))
    ·rcases cZ h with h|h
     ·rw[h];intro c hc;have:=o2 c hc;omega
     ·exact Gr.gw_sgn (hg y (mem_append_right _ h))
 refine⟨key.1,by omega,λc hc=> ?_⟩
 rcases Gr.inter_mem hc with h|⟨y,hy,h⟩
 ·have:c=32:=by simpa using h
  rw[this];decide
 ·exact key.2 y hy c h
theorem bDZ{K:FZ}{H:Hp}{a r:Addr}{o:HO}{ns:List Int}{x:Wd}{ys:List V}(h:SqL K H a (ns.map V.int))(hr:H r=some (.lst (S1 x::ys))):SqL K (upd H r o) a (ns.map V.int):=by
 rcases h with h|h
 ·have hne:a≠r:=by
   rintro rfl
   rcases h with h|⟨ob,h⟩
   ·rw[hr]at h
    cases ns with
    |nil=>cases h
    |cons n ns=>cases h
   ·rw[hr]at h;cases h
  rcases h with h|⟨ob,h⟩
  ·exact .inl (.inl (by rw[C1 hne];exact h))
  ·exact .inl (.inr ⟨ob,by rw[C1 hne];exact h⟩)
 ·exact .inr h
theorem asZ{fs:List Fd}(h:1<=fs.length):∃ys,fs.flatMap Sh.ftk=T6::ys:=by
 cases fs with
 |nil=>cases h
 |cons d r=>exact⟨_,rfl⟩
end Gn
end RD
namespace RD
open PySem L2
namespace Gn
seal PE PT PW PA PS PSs PTs PI PG PGs PO PEX PSX
abbrev s_law:Stmt:=RD.top 56
abbrev bTZ:List Str:=["_law_script","_law_program_here","_law_text_here","_law_row","_law_cell","_law_some","_law_word","_law_forms","_law_inner","_law_told_here","_law_places","_law_at","_law_way"]
theorem sc_law:FnScope bTZ ["_law_script"] (A5 s_law):=fS
section
variable{P:Program}{w:World}{K:FZ}{mg:Str->Option Value}{base:Heap}{f JG NN Z9 QQ NR JF:Addr}{fd JJ NU Z6 QT NQ JK:FuncData}
inductive spLawW(K:FZ)(vs:List V)(H:Hp)(Q:VK):Prop
 |mk:∀(a:Addr) (ns:List Int),(vs=[.ref a])->(SqL K H a (ns.map V.int))->(ns.length<=63)->(∀H',Q (.bl true) H')->spLawW K vs H Q
def spLaw(K:FZ):Sp:=λvs H Q _=>spLawW K vs H Q
structure Fx (p r:Addr) (o:Obj) (us:List V) (fs:List Fd) (H:Hp):Prop where
 p:H p=some (.tup us)
 us:BU.All2 (FdAt H) fs us
 r:H r=some (.frz o (.lst ((fs.flatMap Sh.ftk).map S1)))
theorem Fx.keep{p r:Addr}{o:Obj}{us:List V}{fs:List Fd}{H H':Hp}(h:Fx p r o us fs H)(k:Keep H H'):Fx p r o us fs H':=⟨k.1 _ _ h.p,h.us.imp λd v h=>h.mono k.1,k.2 _ _ _ h.r⟩
theorem Fx.same{p r:Addr}{o:Obj}{us:List V}{fs:List Fd}{H H':Hp}(h:Fx p r o us fs H)(k:Same H H'):Fx p r o us fs H':=h.keep ⟨λb xs e=>k _ _ e,λb o u e=>k _ _ e⟩
theorem ok_law(F:Fun K "law" "law" s_law f fd)(B:NoGL mg)
  (Z7:Cn P w K mg base CX0 5 "_law_program" cCZ (YT K))
  (CC:Cn P w K mg base CX0 18 "_law_shown" ["_law_program_here"] OC)
  (CA:Cn P w K mg base CX0 1 "_law_words" XA PK)
  (Z8:Cn P w K mg base CX0 1 "_law_changed" cLZ (bKZ K))
  (K4:Cn P w K mg base CX0 1 "_law_cell_at" bjZ (RX K))
  (U4:Cn P w K mg base CX0 235 "_law_told" XA FF):
  FnOk P w K mg base CX0 236 f fd ["_law_script"] (spLaw K):=by
 obtain⟨JG,JJ,Z7,JH,JE,JD⟩:=Z7
 obtain⟨NN,NU,CC,NT,NX,NW⟩:=CC
 obtain⟨NR,NQ,CA,NS,NO,NY⟩:=CA
 obtain⟨JF,JK,Z8,JC,JL,JI⟩:=Z8
 obtain⟨Z9,Z6,K4,Q5,Q6,Q7⟩:=K4
 obtain⟨QQ,QT,U4,AU,AY,AX⟩:=U4
 refine F.ok sc_law (λvs H Q E h=> ?_) (λcdv A outer s H vs Q E hr h=> ?_)
 ·obtain⟨a,ns,rfl,_⟩:=h
  rfl
 obtain⟨a,ns,rfl,hS,hn,q⟩:=h
 have nd:=sc_law.nd
 have hu:=hr.units0
 refine⟨_,(A1 (B3 (i:=1) nd rfl (Or.inl rfl) (C3 Z7 (hr.mono (by omega)) rfl JD JE JH .nil C6 (A0 (pv 0) (A0 A4 A3))))
   (A1 (B3 (i:=2) nd rfl (Or.inl rfl) (C3 CC (hr.mono (by omega)) rfl NW NX NT .nil C6 (A0 (pv 1) A3)))
   (A1 (clZ (B3 (i:=3) nd rfl (Or.inr rfl) (C3 CA (hr.mono (by omega)) rfl NY NO NS .nil C6 (A0 (pv 2) A3))))
   (A1 (B3 (i:=4) nd rfl (Or.inl rfl) (C3 K4 (hr.mono (by omega)) rfl Q7 Q6 Q5 .nil C6 (A0 (pv 0) (A0 A4 A3))))
   (A1 (B3 (i:=5) nd rfl (Or.inl rfl) (J5 (Z4 rfl)))
   (A1 (B3 (i:=6) nd rfl (Or.inl rfl) (ixE K w (pv 5) (A8 D1 (A8 D8 (pv 4) A4) A4)))
   (A1 (B3 (i:=7) nd rfl (Or.inl rfl) (J5 (A0 (A8 D3 (A8 D3 A9 (pv 6)) A9) (A0 (A8 D3 (A8 D3 A9 (pv 6)) A9) (A0 (A8 D3 (A8 D3 A9 (pv 6)) A9) A3)))))
   (A1 (C5 (B0 UN (C3 U4 (hr.mono (by omega)) rfl AX AY AU .nil C6 (A0 (ixE K w (A8 D3 (pv 7) (J5 (A0 (A8 D3 (A8 D3 A9 (pv 6)) A9) A3))) (A8 D1 (A8 D8 (pv 4) A4) A4)) A3)) MS rfl) (A7 (B2 BR)) B5)
   (A1 (B3 (i:=8) nd rfl (Or.inl rfl) (ixE K w (J5 (Z4 rfl)) (A8 D1 (A8 D8 (pv 4) A4) A4)))
   (A1 (B3 (i:=7) nd rfl (Or.inl rfl) (J5 (A0 (A8 D3 (A8 D3 A9 (pv 8)) A9) (A0 (A8 D3 (SS (i:=8) rfl rfl) A9) A3))))
   (A1 (C5 (B0 UN (C3 U4 (hr.mono (by omega)) rfl AX AY AU .nil C6 (A0 (ixE K w (pv 7) (A8 D1 (A8 D8 (pv 4) A4) A4)) A3)) MS rfl) (A7 (B2 BR)) B5)
   (A1 (C5 (B0 (kEq (K:=K) hu) (A8 D1 (pv 4) A4) A4 rfl) (A7 (B2 (S2 (dFZ (K:=K) hr.units) (C3 U4 (hr.mono (by omega)) rfl AX AY AU .nil C6 (A0 (CP (K:=K) PySem.F.plainAttrs_str PySem.F.slot_str_join PySem.F.type_str_join (DW (K:=K)) A9 (A0 (pv 3) A3)) A3)) (pv 1) rfl))) B5)
   (A1 (B3 (i:=9) nd rfl (Or.inr rfl) (J5 (Z4 rfl)))
   (A1 (U8 (i:=10) nd rfl rfl (cS (N:=bTZ) (sc:=A5 s_law) (caps:=[9,3]) (ns:=["_law_told_here","_law_row"])) rfl rfl rfl (AQ rfl B.range_ (A0 (C8 (P6 (K:=K)) rfl B.len_ M3 (A0 (pv 3) A3)) A3)) (λ_ _ _ _ _=>(TH (B0 (kIn (K:=K) (w:=w)) (ixE K w (pv 2) (pv 0)) (pv 1) rfl))) (λ_ _ _ _ _=>(pv 0)))
   (A1 (L6 (B3 (i:=11) nd rfl (Or.inl rfl) (ixE K w (pv 10) (A8 D1 (A8 D8 (pv 4) A4) (C8 (P6 (K:=K)) rfl B.len_ M3 (A0 (pv 10) A3))))))
   (A1 (B3 (i:=12) nd rfl (Or.inl rfl) (A8 D1 (A8 D8 (pv 4) A4) A4))
   (A1 (L6 (C5 (PW.pt (T4 (B0 (kEq (K:=K) hu) (A8 D1 (pv 12) A4) A4 rfl) (S0 (B0 (cVZ (K:=K)) (ixE K w (pv 3) (pv 11)) (E1 (Z4 rfl)) rfl)))) (A7 (B3 (i:=12) nd rfl (Or.inl rfl) A4)) B5))
   (A1 (L6 (C5 (PW.pt (T4 (B0 (kEq (K:=K) hu) (A8 D1 (pv 12) A4) A4 rfl) (T4 (B0 X3 (A8 D8 (pv 12) A4) A4 rfl) (S0 (B0 GD (A8 D8 (pv 12) A4) A4 rfl))))) (A7 (B3 (i:=12) nd rfl (Or.inl rfl) (A8 c1Z (pv 12) A4))) B5))
   (A1 (L6 (C5 (PW.pt (T4 (B0 (kEq (K:=K) hu) (ixE K w (pv 3) (pv 11)) A9 rfl) (S0 (B0 X3 (A8 D1 (pv 12) A4) A4 rfl)))) (A7 (B3 (i:=12) nd rfl (Or.inl rfl) A4)) B5))
   (A7 (B2 (S2 cPZ (C3 U4 (hr.mono (by omega)) rfl AX AY AU .nil C6 (A0 (CP (K:=K) PySem.F.plainAttrs_str PySem.F.slot_str_join PySem.F.type_str_join (DW (K:=K)) A9 (A0 (C3 Z8 (hr.mono (by omega)) rfl JI JL JC .nil C6 (A0 (pv 3) (A0 (pv 11) (A0 (pv 12) A3)))) A3)) A3)) MS rfl)))))))))))))))))))))), ?_⟩
 refine⟨_,rfl,a,ns,rfl,hS,hn,λp us fs H1 s1 hp hus hf h0 h3=> ?_⟩
 refine⟨_,rfl,fs,p,us,rfl,hp,hus,hf,by omega,λH2 s2=> ?_⟩
 have hlX:(Sh.ptx [32] fs).length<=4000:=by
  have:=Sh.lp (g:=[32]) X4 Q8 (by decide) λd hd=>(hf d hd).1
  have:=diZ hf
  omega
 refine⟨_,rfl,_,rfl,hlX,λr H3 s3 hr3=> ?_⟩
 have hq:Gr.wq (Sh.ptx [32] fs)=fs.flatMap Sh.ftk:=Gr.qp RO MG λd hd=>(hf d hd).1
 rw[hq]at hr3
 refine⟨r,_,hr3,λo=> ?_⟩
 have t3:BU.Tups H1 (upd H3 r (.frz o (.lst ((fs.flatMap Sh.ftk).map S1)))):=λb xs e=>by
  have e3:=(s2.trans s3) _ _ e
  rw[C1 (λz=>by rw[z,hr3]at e3;cases e3)];exact e3
 have hS3:SqL K (upd H3 r (.frz o (.lst ((fs.flatMap Sh.ftk).map S1)))) a (ns.map V.int):=by
  obtain⟨ys,ey⟩:=asZ h0
  rw[ey]at hr3
  exact bDZ (x:=T6) (ys:=ys.map S1) ((s1.trans (s2.trans s3)).seq hS) hr3
 have hrow:(upd H3 r (.frz o (.lst ((fs.flatMap Sh.ftk).map S1)))) r=some (.frz o (.lst ((fs.flatMap Sh.ftk).map S1))):=A2
 have hp3:=t3 _ _ hp
 have hus3:=hus.imp λd v h=>h.mono t3
 clear hr3 s3 s2 s1 hS hp hus t3
 show OS _ _ _ _ (upd H3 r (.frz o (.lst ((fs.flatMap Sh.ftk).map S1))))
 generalize upd H3 r (.frz o (.lst ((fs.flatMap Sh.ftk).map S1)))=H4 at hp3 hus3 hrow hS3⊢
 refine⟨_,rfl,a,ns,1,rfl,hS3,by decide,λc=> ?_⟩
 refine⟨(by show 16<=sizeLine;decide),λl5 hl5=> ?_⟩
 obtain⟨j6,v6,hj6,ej6,_,hm6,hat6⟩:=IQ (xs:=some16.map S1) (n:=16) (by decide) (by decide) (c/3)
 obtain⟨w6,hw6,rfl⟩:=mem_map.mp hm6
 have s5:=A6 hl5 (.lst ((["def","if","then","else","let","in","fn","yes","no","head","tail","empty","not","1","A",""]:List Str).map V.str))
 have hl5':upd H4 l5 (.lst ((["def","if","then","else","let","in","fn","yes","no","head","tail","empty","not","1","A",""]:List Str).map V.str)) l5=some (.lst (some16.map S1)):=by rw[A2,XM]
 show OS _ _ _ _ (upd H4 l5 (.lst ((["def","if","then","else","let","in","fn","yes","no","head","tail","empty","not","1","A",""]:List Str).map V.str)))
 generalize upd H4 l5 (.lst ((["def","if","then","else","let","in","fn","yes","no","head","tail","empty","not","1","A",""]:List Str).map V.str))=H5 at s5 hl5'⊢
 refine⟨_,rfl,_,rfl,⟨_,_,rfl,rfl,⟨by decide,by decide⟩,⟨_,_,rfl,rfl,(by decide:(0:Int)<16),(ixL hl5' hat6 ?_)⟩⟩⟩
 have b6:=all_eq_true.mp b5Z w6 hw6
 rw[Bool.and_eq_true,decide_eq_true_iff]at b6
 have iw:Is (tx w6) w6:=rfl
 have e0:=(ia0.app iw).app ib0
 have e1:=(ia1.app iw).app ib1
 have e2:=(ia2.app iw).app ib2
 have e3:=(ia3.app iw).app ib3
 have k:∀ {x y:Str} {u v:List Nat},Is x u->Is y v->u.length<=30->v.length<=30->x.length+y.length<=sizeLine:=λh1 h2 h3 h4=>E5 h1 h2 (by omega)
 refine⟨_,rfl,.inr (.inl ⟨_,_,rfl,rfl,k ia0 iw (by decide) (by omega),.inr (.inl ⟨_,_,rfl,rfl,k (ia0.app iw) ib0 (by simp;omega) (by decide), ?_⟩)⟩)⟩
 refine⟨_,rfl,.inr (.inl ⟨_,_,rfl,rfl,k ia1 iw (by decide) (by omega),.inr (.inl ⟨_,_,rfl,rfl,k (ia1.app iw) ib1 (by simp;omega) (by decide), ?_⟩)⟩)⟩
 refine⟨_,rfl,.inr (.inl ⟨_,_,rfl,rfl,k ia2 iw (by decide) (by omega),.inr (.inl ⟨_,_,rfl,rfl,k (ia2.app iw) ib2 (by simp;omega) (by decide), ?_⟩)⟩)⟩
 unfold Is at e0 e1 e2 e3
 rw[e0,e1,e2]
 refine⟨(by show 3<=sizeLine;decide),λl7 hl7=> ?_⟩
 have s7:=A6 hl7 (.lst [S1 (a0++w6++b0),S1 (a1++w6++b1),S1 (a2++w6++b2)])
 have hl7':upd H5 l7 (.lst [S1 (a0++w6++b0),S1 (a1++w6++b1),S1 (a2++w6++b2)]) l7=_:=A2
 show OS _ _ _ _ (upd H5 l7 (.lst [S1 (a0++w6++b0),S1 (a1++w6++b1),S1 (a2++w6++b2)]))
 generalize upd H5 l7 (.lst [S1 (a0++w6++b0),S1 (a1++w6++b1),S1 (a2++w6++b2)])=H7 at s7 hl7'⊢
 have fx:Fx p r o us fs H7:=(Fx.mk hp3 hus3 hrow).same (s5.trans s7)
 refine⟨_,rfl,_,rfl,.inr (.inl ⟨_,_,rfl,rfl,k ia3 iw (by decide) (by omega),.inr (.inl ⟨_,_,rfl,rfl,k (ia3.app iw) ib3 (by simp;omega) (by decide), ?_⟩)⟩)⟩
 rw[e3]
 refine⟨(by show 1<=sizeLine;decide),λl8 hl8=> ?_⟩
 have s8:=A6 hl8 (.lst [S1 (a3++w6++b3)])
 refine .inr (.inr ⟨l7,l8,_,_,rfl,rfl,s8 _ _ hl7',A2,(by show 3+1<=sizeLine;decide),λp9 hp9=> ?_⟩)
 have s9:=A6 hp9 (.lst ([S1 (a0++w6++b0),S1 (a1++w6++b1),S1 (a2++w6++b2)]++ [S1 (a3++w6++b3)]))
 obtain⟨_,v8,_,_,_,hm8,hat8⟩:=IQ (xs:=(fl w6).map S1) (n:=4) rfl (by decide) (c/48)
 obtain⟨w8,hw8,rfl⟩:=mem_map.mp hm8
 obtain⟨bd8,ez8⟩:=ZC (all_eq_true.mp b6.2 w8 hw8)
 refine⟨_,rfl,⟨_,_,rfl,rfl,⟨by decide,by decide⟩,⟨_,_,rfl,rfl,(by decide:(0:Int)<4),(ixL A2 hat8 ?_)⟩⟩⟩
 refine⟨w8,rfl,ez8,λfs' _ _ _ e=>(by rw[bd8.no]at e;cases e),λ_ H9 kp9=> ?_⟩
 refine⟨rfl,_,rfl,ifF (by decide) ?_⟩
 replace fx:=((fx.same s8).same s9).keep kp9
 clear kp9 s8 s9 hl7' hl5' s5 s7
 refine⟨(by show 9<=sizeLine;decide),λl9 hl9=> ?_⟩
 obtain⟨_,v9,_,_,_,hm9,hat9⟩:=IQ (xs:=inn9.map S1) (n:=9) rfl (by decide) (c/7)
 obtain⟨w9,hw9,rfl⟩:=mem_map.mp hm9
 replace fx:=fx.same (A6 hl9 (.lst ((["a b",", a","a ,","a ,, b",",","a , b c","(a)","a , , b","a ; b"]:List Str).map V.str)))
 have hl9':upd H9 l9 (.lst ((["a b",", a","a ,","a ,, b",",","a , b c","(a)","a , , b","a ; b"]:List Str).map V.str)) l9=some (.lst (inn9.map S1)):=by rw[A2,aYZ]
 generalize upd H9 l9 (.lst ((["a b",", a","a ,","a ,, b",",","a , b c","(a)","a , , b","a ; b"]:List Str).map V.str))=H10 at fx hl9'⊢
 refine⟨_,rfl,⟨_,_,rfl,rfl,⟨by decide,by decide⟩,⟨_,_,rfl,rfl,(by decide:(0:Int)<9),(ixL hl9' hat9 ?_)⟩⟩⟩
 have b9:=all_eq_true.mp a2Z w9 hw9
 simp only[Bool.and_eq_true,decide_eq_true_eq]at b9
 have r9:=of_decide_eq_true (all_eq_true.mp dqZ w9 hw9)
 have iw9:Is (tx w9) w9:=rfl
 have ir9:Is (tx (MF w9)) (MF w9):=rfl
 have f0:=(ic0.app iw9).app ib1
 have f1:=(ic1.app ir9).app id1
 unfold Is at f0 f1
 refine⟨_,rfl,.inr (.inl ⟨_,_,rfl,rfl,k ic0 iw9 (by decide) (by omega),.inr (.inl ⟨_,_,rfl,rfl,k (ic0.app iw9) ib1 (by simp;omega) (by decide), ?_⟩)⟩)⟩
 rw[f0]
 refine⟨tx w9,rfl,by rw[L5];omega,by rw[r9];exact k ic1 ir9 (by decide) (by omega), ?_⟩
 rw[r9]
 refine .inr (.inl ⟨_,_,rfl,rfl,k (ic1.app ir9) id1 (by simp;omega) (by decide), ?_⟩)
 rw[f1]
 refine⟨(by show 2<=sizeLine;decide),λl10 hl10=> ?_⟩
 replace fx:=fx.same (A6 hl10 (.lst [S1 (c0++w9++b1),S1 (c1++MF w9++ [41])]))
 have hl10':upd H10 l10 (.lst [S1 (c0++w9++b1),S1 (c1++MF w9++ [41])]) l10=some (.lst ((fl2 w9).map S1)):=A2
 show OS _ _ _ _ (upd H10 l10 (.lst [S1 (c0++w9++b1),S1 (c1++MF w9++ [41])]))
 generalize upd H10 l10 (.lst [S1 (c0++w9++b1),S1 (c1++MF w9++ [41])])=H11 at fx hl10'⊢
 obtain⟨_,v11,_,_,_,hm11,hat11⟩:=IQ (xs:=(fl2 w9).map S1) (n:=2) rfl (by decide) (c/63)
 obtain⟨w11,hw11,rfl⟩:=mem_map.mp hm11
 obtain⟨bd11,ez11⟩:=ZC (all_eq_true.mp b9.2 w11 hw11)
 refine⟨_,rfl,_,rfl,⟨_,_,rfl,rfl,⟨by decide,by decide⟩,⟨_,_,rfl,rfl,(by decide:(0:Int)<2),(ixL hl10' hat11 ?_)⟩⟩⟩
 refine⟨w11,rfl,ez11,λfs' _ _ _ e=>(by rw[bd11.no]at e;cases e),λ_ H12 kp12=> ?_⟩
 refine⟨rfl,_,rfl,ifF (by decide) ?_⟩
 replace fx:=fx.keep kp12
 clear kp12 hl10' hl9' b9 b6 e0 e1 e2 e3 f0 f1 ez8 ez11 bd8 bd11 hp3 hus3 hrow hS3
 obtain⟨rj,zj⟩:=Gr.joined hf h0 h3
 have hjl:=Gr.jp hf
 have hlen:∀zs:List Wd,zs.length<=Gr.jl zs:=λzs=>by
  induction zs with
  |nil=>exact le_refl _
  |cons z zs ih=>rw[Gr.jl_cons,length_cons];omega
 have hsum:∀zs:List Wd,(((zs.map tx).map λz:Str=>z.length).sum)<=Gr.jl zs:=λzs=>by
  induction zs with
  |nil=>exact le_refl _
  |cons z zs ih=>rw[Gr.jl_cons,map_cons,map_cons,sum_cons,L5];omega
 have hrl:=hlen (fs.flatMap Sh.ftk)
 have esp:(" ":Str)=tx [32]:=czZ
 have big:(100000:Nat)<=sizeLine:=by decide
 refine⟨_,rfl,⟨_,_,rfl,rfl,(by decide:(0:Int)<5),.inl ⟨rfl,_,rfl, ?_⟩⟩⟩
 by_cases h5:c%5=0
 ·refine ifT (by simp;omega) ?_
  have hj:Is (Txt.join " " ((fs.flatMap Sh.ftk).map tx)) (E4 [32] (fs.flatMap Sh.ftk)):=Is.join czZ rfl
  refine⟨rfl,_,rfl," ",r,(fs.flatMap Sh.ftk).map tx,rfl,rfl,.inl ?_, ?_,E4 [32] (fs.flatMap Sh.ftk), ?_,zj,λfs' p' us' H13 e hp' hus' s13=> ?_,λe=>by rw[rj]at e;cases e⟩
  ·rw[map_map];exact SqL.frz fx.r
  ·have:=hsum (fs.flatMap Sh.ftk)
   have e1:(" ":Str).length=1:=by decide +kernel
   rw[e1,length_map]
   omega
  ·exact congrArg (λz=> [V.str z]) hj
  rw[rj]at e
  cases e
  replace fx:=fx.same s13
  have ev:=baZ hf h3 hp' fx.p hus' fx.us
  rcases ev with ev|⟨x1,x2,xs,ys,g1,g2,g3,g4,g5,g6⟩
  ·rcases ev with⟨i,z,_⟩|⟨i,z,_⟩|⟨i,z,_⟩<;>cases z
  ·cases g1;cases g2
   exact⟨_,rfl,p',p,xs,ys,33,rfl,rfl,.inl ⟨SqT.of g3,SqT.of g4⟩,g6.len,by decide,λj u v hu hv=>bYZ (TU g6 j u v hu hv),q _⟩
 refine ifF (by simp;omega) ?_
 clear rj zj
 generalize hws:fs.flatMap Sh.ftk=ws at*
 have hfr:=fx.r
 rw[hws]at hfr
 have hp1:Gr.Prg ws:=hws▸Gr.prg_all hf h0 h3
 have hg1:∀y∈ws,Gr.Gw y:=hws▸Gr.gw_all hf
 have hd1:∃ys,ws=T6::ys:=hws▸asZ h0
 replace hjl:Gr.jl ws<=1184*fs.length:=hjl
 refine⟨(by show 12<=sizeLine;decide),λl13 hl13=> ?_⟩
 have s13:=A6 hl13 (.lst ((["def","if","then","else","let","in","fn","=>","(",")","[","]"]:List Str).map V.str))
 have hl13':upd H12 l13 (.lst ((["def","if","then","else","let","in","fn","=>","(",")","[","]"]:List Str).map V.str)) l13=some (.lst (told12.map S1)):=by rw[A2,VS]
 replace hfr:=s13 _ _ hfr
 show OS _ _ _ _ (upd H12 l13 (.lst ((["def","if","then","else","let","in","fn","=>","(",")","[","]"]:List Str).map V.str)))
 generalize upd H12 l13 (.lst ((["def","if","then","else","let","in","fn","=>","(",")","[","]"]:List Str).map V.str))=H13 at hfr hl13'⊢
 clear s13 fx
 have hSr:SqL K H13 r (ws.map S1):=SqL.frz hfr
 have hlw:(ws.map S1).length=ws.length:=length_map _
 refine⟨_,rfl,_,ws.length,rfl,.inl ⟨_,hSr,hlw.symm⟩,(ws.length:Int),rfl,by omega,by omega,BN (n:=ws.length) (λi ys H'=>H'=H13/\∃ks:List Nat,ys=ks.map (λk:Nat=>V.int (k:Int))/\ks.length<=i/\(1<=i->ks≠ [])/\∀k∈ks,∃x,ws[k]? =some x/\x∈told12) ⟨rfl,[],rfl,le_refl _,λh=>by omega,λk hk=>nomatch hk⟩ ?_ ?_ ?_⟩
 ·rintro i ys H' hi ⟨rfl,ks,rfl,h1,_⟩
  rw[length_map];omega
 ·rintro i ys H' hi ⟨rfl,ks,rfl,h1,h2,h4⟩
  have hx:ws[i]? =some ws[i]:=by simp[hi]
  have hat:atI (ws.map S1) ((0:Int)+(i:Nat))=some (S1 ws[i]):=by rw[Int.zero_add];exact V5 (by rw[getElem?_map,hx];rfl)
  refine⟨_,rfl,_,rfl,.inl ⟨r,_,_,_,rfl,rfl,hSr,hat, ?_⟩⟩
  refine⟨_,rfl,.inr (.inl ⟨l13,told12.map S1,rfl,.inl (SqL.of hl13'),rfl,(by decide),_,rfl, ?_⟩)⟩
  rw[alZ]
  by_cases hm:ws[i]∈told12
  ·rw[decide_eq_true hm]
   refine ifT rfl ⟨_,rfl,rfl,ks++ [i], ?_, ?_,λ_=>by simp,λk hk=> ?_⟩
   ·rw[map_append,Int.zero_add];rfl
   ·rw[length_append];show ks.length+1<=i+1;omega
   ·rcases mem_append.mp hk with hk|hk
    ·exact h4 k hk
    ·rw[sZ hk];exact⟨_,hx,hm⟩
  ·rw[decide_eq_false hm]
   refine ifF (by decide) ⟨rfl,ks,rfl,by omega,λ_=> ?_,h4⟩
   by_cases hi0:i=0
   ·subst hi0
    obtain⟨ys,rfl⟩:=hd1
    exact absurd (by decide:T6∈told12) hm
   ·exact h2 (by omega)
 ·rintro ys H' ⟨rfl,ks,rfl,h1,h2,h4⟩
  intro D hD
  have sD:=A6 hD (.lst (ks.map λk:Nat=>V.int (k:Int)))
  replace hSr:=sD.seq hSr
  have hD':upd H' D (.lst (ks.map λk:Nat=>V.int (k:Int))) D=some (.lst (ks.map λk:Nat=>V.int (k:Int))):=A2
  show OS _ _ _ _ (upd H' D (.lst (ks.map λk:Nat=>V.int (k:Int))))
  generalize upd H' D (.lst (ks.map λk:Nat=>V.int (k:Int)))=H14 at hSr hD'⊢
  clear sD hfr hl13' hD
  have hw1:1<=ws.length:=by obtain⟨ys,e⟩:=hd1;rw[e];simp
  have hk0:0<ks.length:=List.length_pos_iff.mpr (h2 hw1)
  obtain⟨_,vk,_,_,_,hmk,hatk⟩:=IQ (xs:=ks.map λk:Nat=>V.int (k:Int)) (n:=ks.length) (length_map _) hk0 (c/5)
  obtain⟨k,hkk,rfl⟩:=mem_map.mp hmk
  obtain⟨x,hx,hx12⟩:=h4 k hkk
  obtain⟨hkl,hkx⟩:=List.getElem?_eq_some_iff.mp hx
  have hsp:ws=ws.take k++x::ws.drop (k+1):=by
   rw[<-hkx,List.getElem_cons_drop,take_append_drop]
  have hAl:(ws.take k).length=k:=by rw[length_take];omega
  generalize ws.take k=A at hsp hAl
  generalize ws.drop (k+1)=B at hsp
  subst hAl
  rw[hsp]at hp1 hg1 hSr
  have hjl2:Gr.jl (A++x::B)<=5000:=by rw[<-hsp];omega
  have hlen2:=hlen (A++x::B)
  refine⟨fun σ' H'=>∃z2 z5 z6 z7 z8 z9 z10 z12,σ'=[some (.ref a),some (.ref p),z2,some (.ref r),some (.int c),z5,z6,z7,z8,z9,z10,some (.int (A.length:Int)),z12]/\SqL K H' r ((A++x::B).map S1), ?_, ?_⟩
  ·exact⟨_,rfl,_,rfl,⟨_,_,rfl,rfl,⟨by decide,by decide⟩,_,rfl,_,ks.length,rfl,.inl ⟨_,SqL.of hD',(length_map _).symm⟩,⟨_,_,rfl,rfl,(by omega:(0:Int)<(ks.length:Int)),(ixL hD' hatk ⟨_,_,_,_,_,_,_,_,rfl,hSr⟩)⟩⟩⟩
  rintro σ' H15 ⟨z2,z5,z6,z7,z8,z9,z10,z12,rfl,hS15⟩
  have hc0:0<=c/7%39:=Int.emod_nonneg _ (by decide)
  have hc1:c/7%39<39:=Int.emod_lt_of_pos _ (by decide)
  obtain⟨W,hW⟩:=Int.eq_ofNat_of_zero_le hc0
  have hW39:W<39:=by omega
  refine⟨_,rfl,⟨_,_,rfl,rfl,⟨by decide,by decide⟩,⟨_,_,rfl,rfl,(by decide:(0:Int)<39), ?_⟩⟩⟩
  rw[hW]
  have hatx:atI ((A++x::B).map S1) (A.length:Int)=some (S1 x):=V5 (by rw[getElem?_map,getElem?_append_right (le_refl _),Nat.sub_self];rfl)
  refine⟨fun σ' H'=>∃W:Nat,σ'=[some (.ref a),some (.ref p),z2,some (.ref r),some (.int c),z5,z6,z7,z8,z9,z10,some (.int (A.length:Int)),some (.int (W:Int))]/\SqL K H' r ((A++x::B).map S1)/\W<39/\(W%3=2->x∈five), ?_, ?_⟩
  ·refine⟨_,rfl,⟨_,_,rfl,rfl,(by decide:(0:Int)<3),.inl ⟨rfl,_,rfl, ?_⟩⟩⟩
   by_cases hm:W%3=2
   ·refine ifT (by simp;omega) ?_
    refine⟨_,rfl,_,rfl,.inl ⟨r,_,_,_,rfl,rfl,hS15,hatx,(by show 5<=sizeLine;decide),λpt hpt=> ?_⟩⟩
    have s16:=A6 hpt (.tup ((["then","else","in","=>",")"]:List Str).map V.str))
    have hpt':upd H15 pt (.tup ((["then","else","in","=>",")"]:List Str).map V.str)) pt=some (.tup (five.map S1)):=by rw[A2,aMZ]
    refine .inr ⟨pt,five.map S1,rfl,.inr (SqT.of hpt'),rfl,(by decide),_,rfl, ?_⟩
    rw[alZ]
    by_cases hm5:x∈five
    ·rw[decide_eq_true hm5]
     exact ifF (by decide) ⟨W,rfl,s16.seq hS15,hW39,λ_=>hm5⟩
    ·rw[decide_eq_false hm5]
     exact ifT rfl ⟨1,rfl,s16.seq hS15,by decide,λh=>absurd h (by decide)⟩
   ·exact ifF (by simp;omega) (ifF (by decide) ⟨W,rfl,hS15,hW39,λh=>absurd h hm⟩)
  rintro σ' H16 ⟨W1,rfl,hS16,hW1,h51⟩
  refine⟨fun σ' H'=>∃W:Nat,σ'=[some (.ref a),some (.ref p),z2,some (.ref r),some (.int c),z5,z6,z7,z8,z9,z10,some (.int (A.length:Int)),some (.int (W:Int))]/\SqL K H' r ((A++x::B).map S1)/\W<39/\(W%3=2->x∈five/\odd13.getD (W/3) []∈Gr.odds), ?_, ?_⟩
  ·refine⟨_,rfl,⟨_,_,rfl,rfl,(by decide:(0:Int)<3),.inl ⟨rfl,_,rfl, ?_⟩⟩⟩
   by_cases hm:W1%3=2
   ·refine ifT (by simp;omega) ?_
    refine⟨_,rfl,⟨_,_,rfl,rfl,⟨by decide,by decide⟩,⟨_,_,rfl,rfl,_,rfl, ?_⟩⟩⟩
    by_cases h6:6<W1/3
    ·refine ifT (by simp;omega) ?_
     refine⟨_,rfl,⟨_,_,rfl,rfl,⟨by decide,by decide⟩,⟨_,_,rfl,rfl,_,rfl, ?_⟩⟩⟩
     by_cases h11:W1/3<11
     ·obtain⟨o1,o2,o3⟩:=bgZ W1 hW1 hm h6 h11
      refine ifT (by simp;omega) ⟨_,rfl,⟨_,_,rfl,rfl,W1 - 21, ?_,hS16,by omega,λ_=>⟨h51 hm,o1⟩⟩⟩
      have e:((W1 - 21:Nat):Int)=(W1:Int) - 21:=by omega
      rw[e];rfl
     ·exact ifF (by simp;omega) ⟨W1,rfl,hS16,hW1,λ_=>⟨h51 hm,XW W1 hW1 hm (by omega)⟩⟩
    ·exact ifF (by simp;omega) (ifF (by decide) ⟨W1,rfl,hS16,hW1,λ_=>⟨h51 hm,XW W1 hW1 hm (by omega)⟩⟩)
   ·exact ifF (by simp;omega) (ifF (by decide) ⟨W1,rfl,hS16,hW1,λh=>absurd h hm⟩)
  rintro σ' H17 ⟨W2,rfl,hS17,hW2,h52⟩
  refine⟨fun σ' H'=>∃W:Nat,σ'=[some (.ref a),some (.ref p),z2,some (.ref r),some (.int c),z5,z6,z7,z8,z9,z10,some (.int (A.length:Int)),some (.int (W:Int))]/\SqL K H' r ((A++x::B).map S1)/\abZ x W, ?_, ?_⟩
  ·refine⟨_,rfl,_,rfl,.inl ⟨r,_,_,_,rfl,rfl,hS17,hatx, ?_⟩⟩
   refine .inl ⟨rfl,_,rfl, ?_⟩
   by_cases hop:x=E6
   ·have e1:decide (S1 x=V.str "(")=true:=by rw[hop];decide +kernel
    refine ifT e1 ?_
    refine⟨_,rfl,⟨_,_,rfl,rfl,(by decide:(0:Int)<3),⟨_,_,rfl,rfl,_,rfl, ?_⟩⟩⟩
    by_cases hz:W2%3=0
    ·exact ifF (by simp;omega) ⟨W2,rfl,hS17,hW2,λh=>absurd h (by omega),λh=>absurd h (by omega)⟩
    ·exact ifT (by simp;omega) ⟨0,rfl,hS17,by decide,λh=>absurd h (by decide),λh=>absurd h (by decide)⟩
   ·have e1:decide (S1 x=V.str "(")=false:=by
     rw[decide_eq_false_iff_not]
     intro e
     exact hop (cAZ (y:=E6) (e.trans (by decide +kernel)))
    exact ifF (by rw[e1];decide) (ifF (by decide) ⟨W2,rfl,hS17,hW2,λ_=>hop,h52⟩)
  rintro σ' H18 ⟨W3,rfl,hS18,hw3⟩
  have bd:=bnZ hg1 hp1 hx12 hw3
  obtain⟨sm0,sm1,sm2⟩:=XR hg1 hw3 hjl2
  refine⟨rfl,⟨_,rfl,_,rfl,_,rfl,r,A,B,x,W3,rfl,hS18,hw3.1,by omega,λpc Hc sc hpc=> ?_⟩⟩
  have hj:Is (Txt.join " " ((chg W3 A x B).map tx)) (E4 [32] (chg W3 A x B)):=Is.join czZ rfl
  refine⟨" ",pc,(chg W3 A x B).map tx,rfl,rfl,.inl ?_, ?_,E4 [32] (chg W3 A x B), ?_,bd.easy (by omega) sm2,λfs' _ _ _ e=>(by rw[bd.no]at e;cases e),λ_ H' _=>⟨rfl,q _⟩⟩
  ·rw[map_map];exact SqL.of hpc
  ·have:=hsum (chg W3 A x B)
   have:=hlen (chg W3 A x B)
   have e1:(" ":Str).length=1:=by decide +kernel
   rw[e1,length_map]
   omega
  ·exact congrArg (λz=> [V.str z]) hj
end
end Gn
end RD
namespace PySem.W.Fast
def tw6325650975011967977:=0
def tw6565267042142902137:=0
def tw6098434412316148036:=0
def tw9384432744315998127:=0
def tw1170155299242997766:=0
def tw13050430926814828536:=0
def tw2555876911051188017:=0
def tw9153866161579941923:=0
def tw8171825277304879313:=0
def tw10565494867538151600:=0
def tw6236949231663016279:=0
def tw14335007854766809317:=0
def tw3824180036580598541:=0
def tw15312311877414100324:=0
def tw10928455533246798435:=0
def tw5928022600632129748:=0
def tw22383107276107358:=0
def tw460790454021019819:=0
def tw16595649684788857387:=0
def tw887066701089796568:=0
def tw1546453714008124108:=0
def tw11893799556161438153:=0
def tw18166053793917703925:=0
def tw12458742204696610116:=0
def tw6457398587345231087:=0
def tw10283688830492668366:=0
def tw15106117856712760706:=0
def tw4715759458574683699:=0
def tw4697892687309026317:=0
def tw16644040208199037654:=0
def tw17674055096276967009:=0
def tw2299679937372663601:=0
def tw15799591696983151072:=0
def tw17641372027223628855:=0
def tw8924538840224198010:=0
def tw9433125100591957034:=0
def tw12498516581741283030:=0
def tw1915295917760565943:=0
def tw3063894948466650934:=0
def tw12457872913921951609:=0
def tw13846016291820936588:=0
def tw8391898164152605110:=0
def tw9964532331050939818:=0
def tw12643182684105148652:=0
def tw2287441939312533096:=0
def tw5003659286164808090:=0
def tw3476509277553715320:=0
def tw2915375097825523757:=0
def tw5673510384059686090:=0
def tw12865726447856475200:=0
def tw18093676926309933962:=0
def tw10259631161808732244:=0
def tw2791493957931566009:=0
def tw8702212466862765303:=0
def tw8848641823764278045:=0
def tw15971225909743513072:=0
def tw1456633693259768571:=0
def tw4139612717825432410:=0
def tw2612250654270776705:=0
def tw11893603949064914098:=0
def tw13645347872066586457:=0
def tw17110944363222846560:=0
def tw10268238349358831162:=0
def tw15365434057846498652:=0
def tw17548844583445951511:=0
def tw14054408244835774070:=0
def tw1893625295537984884:=0
def tw241720075706512810:=0
def tw5798267628096339162:=0
def tw3020008493559788926:=0
def tw5739793835342085305:=0
def tw438161186232570932:=0
def tw18319270258631764099:=0
def tw3702821527888081760:=0
def tw3977758877397872293:=0
def tw1448951617991529812:=0
def tw13685290731157903135:=0
def tw210979059172992245:=0
def tw10912567425976061764:=0
def tw12399408630617613302:=0
def tw12785110219928111837:=0
def tw5233181500728248725:=0
def tw5377347113870833495:=0
def tw11479216780754593962:=0
def tw15737692569963643033:=0
def tw8650049543714082075:=0
def tw1523818053364167341:=0
def tw15578106977119578721:=0
def tw5921794348671325101:=0
def tw14810586637977114432:=0
def tw14388424917714354982:=0
def tw8870985524746297622:=0
def tw17797733320732056496:=0
def tw8508948692932176508:=0
def tw18395018072179368294:=0
def tw3514735454489343542:=0
def tw15896784607615972618:=0
def tw4755577853708870595:=0
def tw17345181964921433664:=0
def tw10953335248279310948:=0
def tw13705684804289975550:=0
def tw4555224333201357178:=0
def tw9532724383638970776:=0
def tw1436939839250261946:=0
def tw5362887748030719554:=0
def tw1370368073737795009:=0
def tw16054796150941613844:=0
def tw14778681944959457619:=0
def tw17085025598494628102:=0
def tw102232013506873464:=0
def tw4533267610814303546:=0
def tw5177400421018048573:=0
def tw6053615556264702107:=0
def tw5527418414112099904:=0
def tw18428951957041986012:=0
def tw17536519700403061349:=0
def tw274486190537027233:=0
def tw6040952262585778946:=0
def tw5485729475462914047:=0
def tw3812537230039615615:=0
def tw5851648979921275628:=0
def tw1526548212890480534:=0
def tw13113634849202422059:=0
def tw18201983333878923036:=0
def tw17980688827635454981:=0
def tw11118643895028543745:=0
def tw10580114864051060136:=0
def tw1066062343227863451:=0
def tw9108692175350217812:=0
def tw12635248135605353638:=0
def tw2368414781552230988:=0
def tw18348627158024756054:=0
def tw12590372259156874235:=0
def tw11917893715691362350:=0
def tw14502274858971945268:=0
def tw8008636896142923660:=0
def tw5961477580345906815:=0
def tw2450339853267130434:=0
def tw863213923646099477:=0
def tw8186572088646461054:=0
def tw16739930824836508990:=0
def tw14069071087155965140:=0
def tw7591141654171671121:=0
def tw12229524154532190541:=0
def tw10086842460901824480:=0
def tw7987050288694809773:=0
def tw9848993515200880526:=0
def tw14815387331569084769:=0
def tw9133602877585131920:=0
def tw10998472792960604604:=0
def tw5870004596506204949:=0
def tw11566578958781832439:=0
def tw17397621711301060485:=0
def tw15923959953292534297:=0
def tw6672736211460189521:=0
def tw12773061996920492959:=0
def tw9037202590174693050:=0
def tw7895209437106959869:=0
def tw6924402177172486845:=0
def tw2234329007413640698:=0
def tw1251376920931652428:=0
def tw7222938275374112735:=0
def tw10545965263044349736:=0
def tw3936621542172182260:=0
def tw10464967500157406776:=0
def tw4015102301341489232:=0
def tw17953205627581363108:=0
def tw4030830722375695357:=0
def tw7994071587547158713:=0
def tw10499508160429795178:=0
def tw17658439757206692293:=0
def tw17922649413654055150:=0
def tw13296809502438249234:=0
def tw6722203274111465317:=0
def tw13764121087954587270:=0
def tw13431371717939364169:=0
def tw7475699173693449472:=0
def tw889231214544977018:=0
def tw12167622207976646223:=0
def tw8546266444479688637:=0
def tw5582251140684996088:=0
def tw10910565381407017785:=0
def tw10334046116441238784:=0
def tw2944000767622281353:=0
def tw11640166248489826435:=0
def tw11072912983535166126:=0
def tw14525664180351623012:=0
def tw17167694171481379644:=0
def tw18345488006931895530:=0
def tw5376479995540013108:=0
def tw11985368351550598381:=0
def tw12082842773188429769:=0
def tw6994729825697357495:=0
def tw17724227574892443578:=0
def tw18269040526548712404:=0
def tw13981496442326915197:=0
def tw167420826735906359:=0
def tw1394943233118045252:=0
def tw17437299902810177521:=0
def tw13597727324373269661:=0
def tw16609045359794458801:=0
def tw15851049483707550540:=0
def tw4313042773719115547:=0
def tw13543713103404431060:=0
def tw15655504901854900135:=0
def tw17174530833009412534:=0
def tw4428479511008374855:=0
def tw2785560626795253888:=0
def tw4387492066855222361:=0
def tw18236688644011856373:=0
def tw12907510768473046414:=0
def tw1574839555421959145:=0
def tw1907643119950131536:=0
def tw11660237220294907967:=0
def tw16031586240125094399:=0
def tw4271669110396771755:=0
def tw15518867616182443405:=0
def tw16330056964202346876:=0
def tw3814345987490939060:=0
def tw10426957256211693237:=0
def tw8267971246756888204:=0
def tw10171990935739307355:=0
def tw14716680925517263836:=0
def tw2426494090627079275:=0
def tw13789572436928165962:=0
def tw14291798687393503178:=0
def tw13975307784484172233:=0
def tw10074438544411062479:=0
def tw17953624856209491433:=0
def tw315800259252091983:=0
def tw13889817399643195577:=0
def tw1025604545857330770:=0
def tw7685397571406537649:=0
def tw9168805436470083526:=0
def tw8034259133276001356:=0
def tw5465900864448680742:=0
def tw12542607563698016991:=0
def tw3980202674562794595:=0
def tw9569593114819649447:=0
def tw10129060585009520292:=0
def tw17079956123318318230:=0
def tw9557937849283120080:=0
def tw8493524795839484550:=0
def tw10938850164836835478:=0
def tw7967999400262233287:=0
def tw1664233516315317356:=0
def tw17283981548300564317:=0
def tw642735510737270032:=0
def tw3547132910177145641:=0
def tw14186805998976602061:=0
def tw8098274420597920831:=0
def tw15072756481493610806:=0
def tw17843939914579542748:=0
def tw2311434728538768850:=0
def tw2980445683908571947:=0
def tw6218305728573736978:=0
def tw11860898115723762869:=0
def tw815751484326106273:=0
def tw10620130026817111676:=0
def tw1782135843784271449:=0
def tw8038047179378016960:=0
def tw17522237016581995976:=0
def tw5052663655850215119:=0
def tw17969219753862123106:=0
def tw18418861355209539615:=0
def tw16139302983957595429:=0
def tw4066797948113382612:=0
def tw281111123722000537:=0
def tw3230668874194387858:=0
def tw15182473861098413345:=0
def tw7872948929448477880:=0
def tw8356232485022985463:=0
def tw7629668594032438699:=0
def tw536887772104690738:=0
def tw8459314452822191162:=0
def tw3354478704779609076:=0
def tw13870810657432417693:=0
def tw15522473029648423707:=0
def tw16296812728188219851:=0
def tw6639566960039212568:=0
def tw3491232958278981410:=0
def tw6624363703109940731:=0
def tw4778557476464202961:=0
def tw3667716573642800788:=0
def tw10026378756866234380:=0
def tw11044808803671691971:=0
def tw881464891289299660:=0
def tw10911122083397293001:=0
def tw10640439887930979768:=0
def tw9949143146227170402:=0
def tw14356671824861098821:=0
def tw12601457187089162547:=0
def tw3284550335781933810:=0
def tw14296640278481082963:=0
def tw14220586543203467139:=0
def tw14803593074458301441:=0
def tw8634258861093254313:=0
def tw15605361422522333941:=0
def tw11239564044976414509:=0
def tw16395431052218922052:=0
def tw2441411944520176956:=0
def tw9464592380266973223:=0
def tw2790423720566754479:=0
def tw15764357094258733545:=0
def tw7249030208244401523:=0
def tw17651455317948153618:=0
def tw12449718500544204191:=0
def tw7948540067102867263:=0
def tw4197444982814027662:=0
def tw1762458361753358554:=0
def tw13460387460489210735:=0
def tw3838267122306362916:=0
def tw7933618485985341426:=0
def tw13556669260505672597:=0
def tw7938580625189264359:=0
def tw1364734870900889773:=0
def tw14048408695900364917:=0
def tw6480613655036993287:=0
def tw6879895756000228899:=0
def tw7342261007432284867:=0
def tw11496598367087538698:=0
def tw11695336613231966313:=0
def tw15406923797834045301:=0
def tw7934529252543099252:=0
def tw13943449529814445361:=0
def tw8792753536671039690:=0
def tw18125871781038813068:=0
def tw12675619762734904565:=0
def tw11651743697449261714:=0
def tw3545230658275109804:=0
def tw8054690268462410413:=0
def tw17069375744985410504:=0
def tw13098721374061792155:=0
def tw17488163127790436895:=0
def tw7494153943730296431:=0
def tw14389187081103294091:=0
def tw10400905242922405694:=0
def tw9906726258635873104:=0
def tw990698760036294404:=0
def tw2908810312202491642:=0
def tw75911331961141549:=0
def tw4740769314605114255:=0
def tw410679428801574046:=0
def tw8100723986609323032:=0
def tw4397534359251826281:=0
def tw6366761397885089196:=0
def tw9477075847249686922:=0
def tw1593795804077717922:=0
def tw10257324382097295272:=0
def tw2580398931659580296:=0
def tw11402066152023305628:=0
def tw8647367116448715772:=0
def tw13687630394436802219:=0
def tw14057329911019406752:=0
def tw13245950073060579557:=0
def tw2178333229345815175:=0
def tw6617990927105639481:=0
def tw10699417720449166671:=0
def tw8418876769001604066:=0
def tw13464150548503031657:=0
def tw13482624673392553131:=0
def tw11027977396746779306:=0
def tw5119383670163680110:=0
def tw11010220614578965809:=0
def tw2318547546814657751:=0
def tw7751613882877685097:=0
def tw4889528706978704668:=0
def tw18220450303001281836:=0
def tw5005857141036677397:=0
def tw14551696823313937194:=0
def tw4213822021507528320:=0
def tw2968586997947570268:=0
def tw8223661197704837814:=0
def tw2018917728919345626:=0
def tw15849056774000937786:=0
def tw2595226766946471416:=0
def tw12936651970668057721:=0
def tw3207585642050683955:=0
def tw18435633995375472500:=0
def tw3799114225316595796:=0
def tw17501414459137034846:=0
def tw7166426585796066039:=0
def tw8378536681773839797:=0
def tw976757315685097404:=0
def tw15828318507520384163:=0
def tw5045958299074195360:=0
def tw5165160703262011513:=0
def tw18276095382448005769:=0
def tw15668066640954393794:=0
def tw5871821611994636890:=0
def tw7752855133496881252:=0
def tw7687354440676082858:=0
def tw992206576173019901:=0
def tw16702255505842501596:=0
def tw2167844524201627229:=0
def tw14999478154216483499:=0
def tw2276067469688900563:=0
def tw10160035518307571977:=0
def tw10500121635168683225:=0
def tw10028227126300734826:=0
def tw471457530558777195:=0
def tw11424420275799459066:=0
def tw14435977487217923687:=0
def tw12703071232248780901:=0
def tw2647074832914543843:=0
def tw8949370419014288215:=0
def tw11751700380295763874:=0
def tw6896868173258379163:=0
def tw7495729063415558445:=0
def tw8643817496250373829:=0
def tw7868531314523544483:=0
def tw11291064435495032649:=0
def tw17598062000266670748:=0
def tw18171642592868656478:=0
def tw10025172641947326171:=0
def tw17853266039575981211:=0
def tw17834354324292060977:=0
def tw11375624667006573154:=0
def tw13071433938634208855:=0
def tw6545855446935314691:=0
def tw12640976472204283679:=0
def tw14695545960519627089:=0
def tw16415791359013619392:=0
def tw14650316490841454169:=0
def tw18419411781964331593:=0
def tw1883898969441831937:=0
def tw17525899866254293043:=0
def tw3485393018833128965:=0
def tw17473067866218801204:=0
def tw3406317770644408395:=0
def tw4632794417798131081:=0
def tw7272092045123133730:=0
def tw11593747099283795779:=0
def tw17337182263111353650:=0
def tw12573218931573267223:=0
def tw13459379472457129727:=0
def tw3102633505438221225:=0
def tw14022366163109890368:=0
def tw12378006938408397244:=0
def tw656714321885336673:=0
def tw4148701136536350530:=0
def tw7432432395422616059:=0
def tw16446113502908219694:=0
def tw10762888894661378400:=0
def tw17147635948055492977:=0
def tw3223912511608028065:=0
def tw3447348911590938941:=0
def tw5333044857943255828:=0
def tw16375845361262539456:=0
def tw9807029554681271053:=0
def tw2454496940095931456:=0
def tw10288801355401034144:=0
def tw15120912031155476133:=0
def tw12192072362333424976:=0
def tw14826234768956037213:=0
def tw4140494089550896916:=0
def tw2787737464050393129:=0
def tw16449166000434162879:=0
def tw2760193917812672934:=0
end PySem.W.Fast
namespace RD
open PySem L2
theorem biZ:(K10.toldW.map λl=>V.str (tx l))=[V.str "def",V.str "if",V.str "then",V.str "else",V.str "let",V.str "in",V.str "fn",V.str "yes",V.str "no",V.str "head",V.str "tail",V.str "empty",V.str "not"]:=by decide +kernel
theorem d2Z{K:FZ}{c d:Addr}{oc:Value}{od:Option Addr}{cd:ClassData}{sl:Array (Option Value)}(h:K.lookup c=some ⟨oc,od,.cls cd,sl⟩)(hc:cd.mro.tail.contains (.ref d)=true):(Value.ref c::PU K c).contains (.ref d)=true:=by
 have e:PU K c=cd.mro.tail:=by unfold PU;rw[h]
 rw[e,contains_cons,hc,Bool.or_true]
def pick{α:Type}(l:List (Str×α))(d:α)(x:Str):α:=(l.lookup x).getD d
theorem C9{α:Type}(d:α):∀(l:List (Str×α)) (i:Nat) (x:Str) (v:α),l[i]? =some (x,v)->(l.map (·.1)).Nodup->pick l d x=v
 | [],i,x,v,h,_=>by cases h
 |(y,u)::r,0,x,v,h,_=>by
  cases h
  unfold pick
  rw[List.lookup_cons_self]
  rfl
 |(y,u)::r,i+1,x,v,h,hn=>by
  have h':r[i]? =some (x,v):=h
  rw[map_cons,nodup_cons]at hn
  have hm:x∈r.map (·.1):=mem_map.mpr ⟨(x,v),mem_of_getElem? h',rfl⟩
  have hne:x≠y:=λe=>hn.1 (e▸hm)
  have ih:=C9 d r i x v h' hn.2
  unfold pick at ih⊢
  rw[lookup_cons,show(x==y)=false from beq_false_of_ne hne]
  exact ih
theorem B7:(["ahead","take","expect","read_program","read_function","read_name","read_names","read_terms","goes_on","read_term","read_row","refuse_side_by_side","read_operand","read_tight_or_wide","read_if","read_let","read_fn","read_tight","read_named"]:List Str).Nodup:=by decide +kernel
theorem emZ(f0 f1 f2 f3 f4 f5 f6 f7 f8 f9 f10 f11 f12 f13 f14 f15 f16 f17 f18:Addr)(d0 d1 d2 d3 d4 d5 d6 d7 d8 d9 d10 d11 d12 d13 d14 d15 d16 d17 d18:FuncData):∃(mf:Str->Addr) (md:Str->FuncData),mf "ahead"=f0/\mf "take"=f1/\mf "expect"=f2/\mf "read_program"=f3/\mf "read_function"=f4/\mf "read_name"=f5/\mf "read_names"=f6/\mf "read_terms"=f7/\mf "goes_on"=f8/\mf "read_term"=f9/\mf "read_row"=f10/\mf "refuse_side_by_side"=f11/\mf "read_operand"=f12/\mf "read_tight_or_wide"=f13/\mf "read_if"=f14/\mf "read_let"=f15/\mf "read_fn"=f16/\mf "read_tight"=f17/\mf "read_named"=f18/\md "ahead"=d0/\md "take"=d1/\md "expect"=d2/\md "read_program"=d3/\md "read_function"=d4/\md "read_name"=d5/\md "read_names"=d6/\md "read_terms"=d7/\md "goes_on"=d8/\md "read_term"=d9/\md "read_row"=d10/\md "refuse_side_by_side"=d11/\md "read_operand"=d12/\md "read_tight_or_wide"=d13/\md "read_if"=d14/\md "read_let"=d15/\md "read_fn"=d16/\md "read_tight"=d17/\md "read_named"=d18:=
 ⟨pick [("ahead",f0),("take",f1),("expect",f2),("read_program",f3),("read_function",f4),("read_name",f5),("read_names",f6),("read_terms",f7),("goes_on",f8),("read_term",f9),("read_row",f10),("refuse_side_by_side",f11),("read_operand",f12),("read_tight_or_wide",f13),("read_if",f14),("read_let",f15),("read_fn",f16),("read_tight",f17),("read_named",f18)] f0,pick [("ahead",d0),("take",d1),("expect",d2),("read_program",d3),("read_function",d4),("read_name",d5),("read_names",d6),("read_terms",d7),("goes_on",d8),("read_term",d9),("read_row",d10),("refuse_side_by_side",d11),("read_operand",d12),("read_tight_or_wide",d13),("read_if",d14),("read_let",d15),("read_fn",d16),("read_tight",d17),("read_named",d18)] d0,C9 _ _ 0 _ _ rfl B7,C9 _ _ 1 _ _ rfl B7,C9 _ _ 2 _ _ rfl B7,C9 _ _ 3 _ _ rfl B7,C9 _ _ 4 _ _ rfl B7,C9 _ _ 5 _ _ rfl B7,C9 _ _ 6 _ _ rfl B7,C9 _ _ 7 _ _ rfl B7,C9 _ _ 8 _ _ rfl B7,C9 _ _ 9 _ _ rfl B7,C9 _ _ 10 _ _ rfl B7,C9 _ _ 11 _ _ rfl B7,C9 _ _ 12 _ _ rfl B7,C9 _ _ 13 _ _ rfl B7,C9 _ _ 14 _ _ rfl B7,C9 _ _ 15 _ _ rfl B7,C9 _ _ 16 _ _ rfl B7,C9 _ _ 17 _ _ rfl B7,C9 _ _ 18 _ _ rfl B7,C9 _ _ 0 _ _ rfl B7,C9 _ _ 1 _ _ rfl B7,C9 _ _ 2 _ _ rfl B7,C9 _ _ 3 _ _ rfl B7,C9 _ _ 4 _ _ rfl B7,C9 _ _ 5 _ _ rfl B7,C9 _ _ 6 _ _ rfl B7,C9 _ _ 7 _ _ rfl B7,C9 _ _ 8 _ _ rfl B7,C9 _ _ 9 _ _ rfl B7,C9 _ _ 10 _ _ rfl B7,C9 _ _ 11 _ _ rfl B7,C9 _ _ 12 _ _ rfl B7,C9 _ _ 13 _ _ rfl B7,C9 _ _ 14 _ _ rfl B7,C9 _ _ 15 _ _ rfl B7,C9 _ _ 16 _ _ rfl B7,C9 _ _ 17 _ _ rfl B7,C9 _ _ 18 _ _ rfl B7⟩
set_option maxHeartbeats 0 in
theorem all_mk{l:PySem.W.OpenLaw}{w:World}{K:PySem.W.Frag}{h:Heap}{mg:Str->Option Value}{fa C:Addr}(X:K.In h)(G:h.Ns mainGlobals mg)(hfa:mg "law"=some (.ref fa))
  {f0 f1 f2 f3 f4 f5 f6 f7 f8 f9 f10 f11 f12 f13 f14 f15 f16 f17 f18 f19 f20 f21 f22 f23 f24 f25 f26 f27 fM0 fM1 fM2 fM3 fM4 fM5 fM6 fM7 fM8 fM9 fM10 fM11 fM12 fM13 fM14 fM15 fM16 fM17 fM18 fI:Addr}{od0 an0 od1 an1 od2 an2 od3 an3 od4 an4 od5 an5 od6 an6 od7 an7 od8 an8 od9 an9 od10 an10 od11 an11 od12 an12 od13 an13 od14 an14 od15 an15 od16 an16 od17 an17 od18 an18 od19 an19 od20 an20 od21 an21 od22 an22 od23 an23 od24 an24 od25 an25 od26 an26 od27 an27 odM0 anM0 odM1 anM1 odM2 anM2 odM3 anM3 odM4 anM4 odM5 anM5 odM6 anM6 odM7 anM7 odM8 anM8 odM9 anM9 odM10 anM10 odM11 anM11 odM12 anM12 odM13 anM13 odM14 anM14 odM15 anM15 odM16 anM16 odM17 anM17 odM18 anM18 odI anI:Option Addr}{sl0 sl1 sl2 sl3 sl4 sl5 sl6 sl7 sl8 sl9 sl10 sl11 sl12 sl13 sl14 sl15 sl16 sl17 sl18 sl19 sl20 sl21 sl22 sl23 sl24 sl25 sl26 sl27 slM0 slM1 slM2 slM3 slM4 slM5 slM6 slM7 slM8 slM9 slM10 slM11 slM12 slM13 slM14 slM15 slM16 slM17 slM18 slI:Array (Option Value)}{oc0 kV0 dc0 pm0 cd0 ct0 oc1 kV1 dc1 pm1 cd1 ct1 oc2 kV2 dc2 pm2 cd2 ct2 oc3 kV3 dc3 pm3 cd3 ct3 oc4 kV4 dc4 pm4 cd4 ct4 oc5 kV5 dc5 pm5 cd5 ct5 oc6 kV6 dc6 pm6 cd6 ct6 oc7 kV7 dc7 pm7 cd7 ct7 oc8 kV8 dc8 pm8 cd8 ct8 oc9 kV9 dc9 pm9 cd9 ct9 oc10 kV10 dc10 pm10 cd10 ct10 oc11 kV11 dc11 pm11 cd11 ct11 oc12 kV12 dc12 pm12 cd12 ct12 oc13 kV13 dc13 pm13 cd13 ct13 oc14 kV14 dc14 pm14 cd14 ct14 oc15 kV15 dc15 pm15 cd15 ct15 oc16 kV16 dc16 pm16 cd16 ct16 oc17 kV17 dc17 pm17 cd17 ct17 oc18 kV18 dc18 pm18 cd18 ct18 oc19 kV19 dc19 pm19 cd19 ct19 oc20 kV20 dc20 pm20 cd20 ct20 oc21 kV21 dc21 pm21 cd21 ct21 oc22 kV22 dc22 pm22 cd22 ct22 oc23 kV23 dc23 pm23 cd23 ct23 oc24 kV24 dc24 pm24 cd24 ct24 oc25 kV25 dc25 pm25 cd25 ct25 oc26 kV26 dc26 pm26 cd26 ct26 oc27 kV27 dc27 pm27 cd27 ct27 ocM0 kVM0 dcM0 pmM0 cdM0 ctM0 ocM1 kVM1 dcM1 pmM1 cdM1 ctM1 ocM2 kVM2 dcM2 pmM2 cdM2 ctM2 ocM3 kVM3 dcM3 pmM3 cdM3 ctM3 ocM4 kVM4 dcM4 pmM4 cdM4 ctM4 ocM5 kVM5 dcM5 pmM5 cdM5 ctM5 ocM6 kVM6 dcM6 pmM6 cdM6 ctM6 ocM7 kVM7 dcM7 pmM7 cdM7 ctM7 ocM8 kVM8 dcM8 pmM8 cdM8 ctM8 ocM9 kVM9 dcM9 pmM9 cdM9 ctM9 ocM10 kVM10 dcM10 pmM10 cdM10 ctM10 ocM11 kVM11 dcM11 pmM11 cdM11 ctM11 ocM12 kVM12 dcM12 pmM12 cdM12 ctM12 ocM13 kVM13 dcM13 pmM13 cdM13 ctM13 ocM14 kVM14 dcM14 pmM14 cdM14 ctM14 ocM15 kVM15 dcM15 pmM15 cdM15 ctM15 ocM16 kVM16 dcM16 pmM16 cdM16 ctM16 ocM17 kVM17 dcM17 pmM17 cdM17 ctM17 ocM18 kVM18 dcM18 pmM18 cdM18 ctM18 ocI kVI dcI pmI cdI ctI:Value}{c_MillError c_BadText c_BadName c_BadKind c_BadInput:Addr}{t_LONGEST_TEXT t_LONGEST_NUMBER t_LONGEST_NAME t_MOST_FUNCTIONS t_MOST_LISTED t_DEEPEST t_MOST_TERMS t_MOST_BRACKETS t_LEAST_STRENGTH t_FIGURES t_LETTERS t_GAPS t_MARKS:Tok}{odC:Option Addr}{slC:Array (Option Value)}{ocC:Value}{cdC:ClassData}
  {p_TOLD_WORDS p_COMPARING p_ONE_WORDS:Addr}{i_TOLD_WORDS i_COMPARING i_ONE_WORDS:Array Value}{n_TOLD_WORDS n_COMPARING n_ONE_WORDS:Nat}{o_TOLD_WORDS o_COMPARING o_ONE_WORDS:Option Addr}{s_TOLD_WORDS s_COMPARING s_ONE_WORDS:Array (Option Value)}
  {p_PARTS_FROM p_STRENGTHS:Addr}{i_PARTS_FROM i_STRENGTHS:Array DictEntry}{n_PARTS_FROM n_STRENGTHS:Nat}
  (a0:PySem.W.nsIn K mainGlobals "words"=some (some (.ref f0)))(l0:K.lookup f0=some ⟨oc0,od0,.func (PySem.W.fnOf "words" "words" (B4 K10.s_words) (B1 K10.s_words) (A5 K10.s_words) .none kV0 dc0 pm0 an0 cd0 ct0),sl0⟩)(c0:PySem.W.codeIn K cd0 "words"=true)(k0:PySem.W.keepIn K (.ref f0)=true)
  (a1:PySem.W.nsIn K mainGlobals "word_from"=some (some (.ref f1)))(l1:K.lookup f1=some ⟨oc1,od1,.func (PySem.W.fnOf "word_from" "word_from" (B4 K10.s_word_from) (B1 K10.s_word_from) (A5 K10.s_word_from) .none kV1 dc1 pm1 an1 cd1 ct1),sl1⟩)(c1:PySem.W.codeIn K cd1 "word_from"=true)(k1:PySem.W.keepIn K (.ref f1)=true)
  (a2:PySem.W.nsIn K mainGlobals "in_long_word"=some (some (.ref f2)))(l2:K.lookup f2=some ⟨oc2,od2,.func (PySem.W.fnOf "in_long_word" "in_long_word" (B4 K10.s_in_long_word) (B1 K10.s_in_long_word) (A5 K10.s_in_long_word) .none kV2 dc2 pm2 an2 cd2 ct2),sl2⟩)(c2:PySem.W.codeIn K cd2 "in_long_word"=true)(k2:PySem.W.keepIn K (.ref f2)=true)
  (a3:PySem.W.nsIn K mainGlobals "long_word_from"=some (some (.ref f3)))(l3:K.lookup f3=some ⟨oc3,od3,.func (PySem.W.fnOf "long_word_from" "long_word_from" (B4 K10.s_long_word_from) (B1 K10.s_long_word_from) (A5 K10.s_long_word_from) .none kV3 dc3 pm3 an3 cd3 ct3),sl3⟩)(c3:PySem.W.codeIn K cd3 "long_word_from"=true)(k3:PySem.W.keepIn K (.ref f3)=true)
  (a4:PySem.W.nsIn K mainGlobals "is_number"=some (some (.ref f4)))(l4:K.lookup f4=some ⟨oc4,od4,.func (PySem.W.fnOf "is_number" "is_number" (B4 K10.s_is_number) (B1 K10.s_is_number) (A5 K10.s_is_number) .none kV4 dc4 pm4 an4 cd4 ct4),sl4⟩)(c4:PySem.W.codeIn K cd4 "is_number"=true)(k4:PySem.W.keepIn K (.ref f4)=true)
  (a5:PySem.W.nsIn K mainGlobals "is_told"=some (some (.ref f5)))(l5:K.lookup f5=some ⟨oc5,od5,.func (PySem.W.fnOf "is_told" "is_told" (B4 K10.s_is_told) (B1 K10.s_is_told) (A5 K10.s_is_told) .none kV5 dc5 pm5 an5 cd5 ct5),sl5⟩)(c5:PySem.W.codeIn K cd5 "is_told"=true)(k5:PySem.W.keepIn K (.ref f5)=true)
  (a6:PySem.W.nsIn K mainGlobals "is_name"=some (some (.ref f6)))(l6:K.lookup f6=some ⟨oc6,od6,.func (PySem.W.fnOf "is_name" "is_name" (B4 K10.s_is_name) (B1 K10.s_is_name) (A5 K10.s_is_name) .none kV6 dc6 pm6 an6 cd6 ct6),sl6⟩)(c6:PySem.W.codeIn K cd6 "is_name"=true)(k6:PySem.W.keepIn K (.ref f6)=true)
  (a7:PySem.W.nsIn K mainGlobals "parts_of"=some (some (.ref f7)))(l7:K.lookup f7=some ⟨oc7,od7,.func (PySem.W.fnOf "parts_of" "parts_of" (B4 K15.s_parts_of) (B1 K15.s_parts_of) (A5 K15.s_parts_of) .none kV7 dc7 pm7 an7 cd7 ct7),sl7⟩)(c7:PySem.W.codeIn K cd7 "parts_of"=true)(k7:PySem.W.keepIn K (.ref f7)=true)
  (a8:PySem.W.nsIn K mainGlobals "parts_of_all"=some (some (.ref f8)))(l8:K.lookup f8=some ⟨oc8,od8,.func (PySem.W.fnOf "parts_of_all" "parts_of_all" (B4 K15.s_parts_of_all) (B1 K15.s_parts_of_all) (A5 K15.s_parts_of_all) .none kV8 dc8 pm8 an8 cd8 ct8),sl8⟩)(c8:PySem.W.codeIn K cd8 "parts_of_all"=true)(k8:PySem.W.keepIn K (.ref f8)=true)
  (a9:PySem.W.nsIn K mainGlobals "depth_of"=some (some (.ref f9)))(l9:K.lookup f9=some ⟨oc9,od9,.func (PySem.W.fnOf "depth_of" "depth_of" (B4 K15.s_depth_of) (B1 K15.s_depth_of) (A5 K15.s_depth_of) .none kV9 dc9 pm9 an9 cd9 ct9),sl9⟩)(c9:PySem.W.codeIn K cd9 "depth_of"=true)(k9:PySem.W.keepIn K (.ref f9)=true)
  (a10:PySem.W.nsIn K mainGlobals "size_of"=some (some (.ref f10)))(l10:K.lookup f10=some ⟨oc10,od10,.func (PySem.W.fnOf "size_of" "size_of" (B4 K15.s_size_of) (B1 K15.s_size_of) (A5 K15.s_size_of) .none kV10 dc10 pm10 an10 cd10 ct10),sl10⟩)(c10:PySem.W.codeIn K cd10 "size_of"=true)(k10:PySem.W.keepIn K (.ref f10)=true)
  (a11:PySem.W.nsIn K mainGlobals "read"=some (some (.ref f11)))(l11:K.lookup f11=some ⟨oc11,od11,.func (PySem.W.fnOf "read" "read" (B4 RD.s_read) (B1 RD.s_read) (A5 RD.s_read) .none kV11 dc11 pm11 an11 cd11 ct11),sl11⟩)(c11:PySem.W.codeIn K cd11 "read"=true)(k11:PySem.W.keepIn K (.ref f11)=true)
  (a12:PySem.W.nsIn K mainGlobals "refuse_many_brackets"=some (some (.ref f12)))(l12:K.lookup f12=some ⟨oc12,od12,.func (PySem.W.fnOf "refuse_many_brackets" "refuse_many_brackets" (B4 RD.s_refuse_many_brackets) (B1 RD.s_refuse_many_brackets) (A5 RD.s_refuse_many_brackets) .none kV12 dc12 pm12 an12 cd12 ct12),sl12⟩)(c12:PySem.W.codeIn K cd12 "refuse_many_brackets"=true)(k12:PySem.W.keepIn K (.ref f12)=true)
  (a13:PySem.W.nsIn K mainGlobals "refuse_great"=some (some (.ref f13)))(l13:K.lookup f13=some ⟨oc13,od13,.func (PySem.W.fnOf "refuse_great" "refuse_great" (B4 RD.s_refuse_great) (B1 RD.s_refuse_great) (A5 RD.s_refuse_great) .none kV13 dc13 pm13 an13 cd13 ct13),sl13⟩)(c13:PySem.W.codeIn K cd13 "refuse_great"=true)(k13:PySem.W.keepIn K (.ref f13)=true)
  (a14:PySem.W.nsIn K mainGlobals "strength_behind"=some (some (.ref f14)))(l14:K.lookup f14=some ⟨oc14,od14,.func (PySem.W.fnOf "strength_behind" "strength_behind" (B4 RD.s_strength_behind) (B1 RD.s_strength_behind) (A5 RD.s_strength_behind) .none kV14 dc14 pm14 an14 cd14 ct14),sl14⟩)(c14:PySem.W.codeIn K cd14 "strength_behind"=true)(k14:PySem.W.keepIn K (.ref f14)=true)
  (a15:PySem.W.nsIn K mainGlobals "_law_cell_at"=some (some (.ref f15)))(l15:K.lookup f15=some ⟨oc15,od15,.func (PySem.W.fnOf "_law_cell_at" "_law_cell_at" (B4 RD.Gn.s_law_cell_at) (B1 RD.Gn.s_law_cell_at) (A5 RD.Gn.s_law_cell_at) .none kV15 dc15 pm15 an15 cd15 ct15),sl15⟩)(c15:PySem.W.codeIn K cd15 "_law_cell_at"=true)(k15:PySem.W.keepIn K (.ref f15)=true)
  (a16:PySem.W.nsIn K mainGlobals "_law_name"=some (some (.ref f16)))(l16:K.lookup f16=some ⟨oc16,od16,.func (PySem.W.fnOf "_law_name" "_law_name" (B4 RD.Gn.s_law_name) (B1 RD.Gn.s_law_name) (A5 RD.Gn.s_law_name) .none kV16 dc16 pm16 an16 cd16 ct16),sl16⟩)(c16:PySem.W.codeIn K cd16 "_law_name"=true)(k16:PySem.W.keepIn K (.ref f16)=true)
  (a17:PySem.W.nsIn K mainGlobals "_law_atom"=some (some (.ref f17)))(l17:K.lookup f17=some ⟨oc17,od17,.func (PySem.W.fnOf "_law_atom" "_law_atom" (B4 RD.Gn.s_law_atom) (B1 RD.Gn.s_law_atom) (A5 RD.Gn.s_law_atom) .none kV17 dc17 pm17 an17 cd17 ct17),sl17⟩)(c17:PySem.W.codeIn K cd17 "_law_atom"=true)(k17:PySem.W.keepIn K (.ref f17)=true)
  (a18:PySem.W.nsIn K mainGlobals "_law_put_on"=some (some (.ref f18)))(l18:K.lookup f18=some ⟨oc18,od18,.func (PySem.W.fnOf "_law_put_on" "_law_put_on" (B4 RD.Gn.s_law_put_on) (B1 RD.Gn.s_law_put_on) (A5 RD.Gn.s_law_put_on) .none kV18 dc18 pm18 an18 cd18 ct18),sl18⟩)(c18:PySem.W.codeIn K cd18 "_law_put_on"=true)(k18:PySem.W.keepIn K (.ref f18)=true)
  (a19:PySem.W.nsIn K mainGlobals "_law_added"=some (some (.ref f19)))(l19:K.lookup f19=some ⟨oc19,od19,.func (PySem.W.fnOf "_law_added" "_law_added" (B4 RD.Gn.s_law_added) (B1 RD.Gn.s_law_added) (A5 RD.Gn.s_law_added) .none kV19 dc19 pm19 an19 cd19 ct19),sl19⟩)(c19:PySem.W.codeIn K cd19 "_law_added"=true)(k19:PySem.W.keepIn K (.ref f19)=true)
  (a20:PySem.W.nsIn K mainGlobals "_law_term"=some (some (.ref f20)))(l20:K.lookup f20=some ⟨oc20,od20,.func (PySem.W.fnOf "_law_term" "_law_term" (B4 RD.Gn.s_law_term) (B1 RD.Gn.s_law_term) (A5 RD.Gn.s_law_term) .none kV20 dc20 pm20 an20 cd20 ct20),sl20⟩)(c20:PySem.W.codeIn K cd20 "_law_term"=true)(k20:PySem.W.keepIn K (.ref f20)=true)
  (a21:PySem.W.nsIn K mainGlobals "_law_program"=some (some (.ref f21)))(l21:K.lookup f21=some ⟨oc21,od21,.func (PySem.W.fnOf "_law_program" "_law_program" (B4 RD.Gn.s_law_program) (B1 RD.Gn.s_law_program) (A5 RD.Gn.s_law_program) .none kV21 dc21 pm21 an21 cd21 ct21),sl21⟩)(c21:PySem.W.codeIn K cd21 "_law_program"=true)(k21:PySem.W.keepIn K (.ref f21)=true)
  (a22:PySem.W.nsIn K mainGlobals "_law_text"=some (some (.ref f22)))(l22:K.lookup f22=some ⟨oc22,od22,.func (PySem.W.fnOf "_law_text" "_law_text" (B4 RD.Gn.s_law_text) (B1 RD.Gn.s_law_text) (A5 RD.Gn.s_law_text) .none kV22 dc22 pm22 an22 cd22 ct22),sl22⟩)(c22:PySem.W.codeIn K cd22 "_law_text"=true)(k22:PySem.W.keepIn K (.ref f22)=true)
  (a23:PySem.W.nsIn K mainGlobals "_law_shown"=some (some (.ref f23)))(l23:K.lookup f23=some ⟨oc23,od23,.func (PySem.W.fnOf "_law_shown" "_law_shown" (B4 RD.Gn.s_law_shown) (B1 RD.Gn.s_law_shown) (A5 RD.Gn.s_law_shown) .none kV23 dc23 pm23 an23 cd23 ct23),sl23⟩)(c23:PySem.W.codeIn K cd23 "_law_shown"=true)(k23:PySem.W.keepIn K (.ref f23)=true)
  (a24:PySem.W.nsIn K mainGlobals "_law_told"=some (some (.ref f24)))(l24:K.lookup f24=some ⟨oc24,od24,.func (PySem.W.fnOf "_law_told" "_law_told" (B4 RD.Gn.s_law_told) (B1 RD.Gn.s_law_told) (A5 RD.Gn.s_law_told) .none kV24 dc24 pm24 an24 cd24 ct24),sl24⟩)(c24:PySem.W.codeIn K cd24 "_law_told"=true)(k24:PySem.W.keepIn K (.ref f24)=true)
  (a25:PySem.W.nsIn K mainGlobals "_law_words"=some (some (.ref f25)))(l25:K.lookup f25=some ⟨oc25,od25,.func (PySem.W.fnOf "_law_words" "_law_words" (B4 RD.Gn.s_law_words) (B1 RD.Gn.s_law_words) (A5 RD.Gn.s_law_words) .none kV25 dc25 pm25 an25 cd25 ct25),sl25⟩)(c25:PySem.W.codeIn K cd25 "_law_words"=true)(k25:PySem.W.keepIn K (.ref f25)=true)
  (a26:PySem.W.nsIn K mainGlobals "_law_changed"=some (some (.ref f26)))(l26:K.lookup f26=some ⟨oc26,od26,.func (PySem.W.fnOf "_law_changed" "_law_changed" (B4 RD.Gn.s_law_changed) (B1 RD.Gn.s_law_changed) (A5 RD.Gn.s_law_changed) .none kV26 dc26 pm26 an26 cd26 ct26),sl26⟩)(c26:PySem.W.codeIn K cd26 "_law_changed"=true)(k26:PySem.W.keepIn K (.ref f26)=true)
  (a27:PySem.W.nsIn K mainGlobals "law"=some (some (.ref f27)))(l27:K.lookup f27=some ⟨oc27,od27,.func (PySem.W.fnOf "law" "law" (B4 RD.Gn.s_law) (B1 RD.Gn.s_law) (A5 RD.Gn.s_law) .none kV27 dc27 pm27 an27 cd27 ct27),sl27⟩)(c27:PySem.W.codeIn K cd27 "law"=true)(k27:PySem.W.keepIn K (.ref f27)=true)
  (aC:PySem.W.nsIn K mainGlobals "Reader"=some (some (.ref C)))
  (aM0:PySem.W.findIn K (.ref C) "ahead"=some (some (.ref fM0)))(lM0:K.lookup fM0=some ⟨ocM0,odM0,.func (PySem.W.fnOf "ahead" "Reader.ahead" (B4 RD.s_ahead) (B1 RD.s_ahead) (A5 RD.s_ahead) .none kVM0 dcM0 pmM0 anM0 cdM0 ctM0),slM0⟩)(cM0:PySem.W.codeIn K cdM0 "Reader.ahead"=true)(kM0:PySem.W.keepIn K (.ref fM0)=true)
  (jM0:PySem.W.isFn K (.ref fM0)=true)
  (aM1:PySem.W.findIn K (.ref C) "take"=some (some (.ref fM1)))(lM1:K.lookup fM1=some ⟨ocM1,odM1,.func (PySem.W.fnOf "take" "Reader.take" (B4 RD.s_take) (B1 RD.s_take) (A5 RD.s_take) .none kVM1 dcM1 pmM1 anM1 cdM1 ctM1),slM1⟩)(cM1:PySem.W.codeIn K cdM1 "Reader.take"=true)(kM1:PySem.W.keepIn K (.ref fM1)=true)
  (jM1:PySem.W.isFn K (.ref fM1)=true)
  (aM2:PySem.W.findIn K (.ref C) "expect"=some (some (.ref fM2)))(lM2:K.lookup fM2=some ⟨ocM2,odM2,.func (PySem.W.fnOf "expect" "Reader.expect" (B4 RD.s_expect) (B1 RD.s_expect) (A5 RD.s_expect) .none kVM2 dcM2 pmM2 anM2 cdM2 ctM2),slM2⟩)(cM2:PySem.W.codeIn K cdM2 "Reader.expect"=true)(kM2:PySem.W.keepIn K (.ref fM2)=true)
  (jM2:PySem.W.isFn K (.ref fM2)=true)
  (aM3:PySem.W.findIn K (.ref C) "read_program"=some (some (.ref fM3)))(lM3:K.lookup fM3=some ⟨ocM3,odM3,.func (PySem.W.fnOf "read_program" "Reader.read_program" (B4 RD.s_read_program) (B1 RD.s_read_program) (A5 RD.s_read_program) .none kVM3 dcM3 pmM3 anM3 cdM3 ctM3),slM3⟩)(cM3:PySem.W.codeIn K cdM3 "Reader.read_program"=true)(kM3:PySem.W.keepIn K (.ref fM3)=true)
  (jM3:PySem.W.isFn K (.ref fM3)=true)
  (aM4:PySem.W.findIn K (.ref C) "read_function"=some (some (.ref fM4)))(lM4:K.lookup fM4=some ⟨ocM4,odM4,.func (PySem.W.fnOf "read_function" "Reader.read_function" (B4 RD.s_read_function) (B1 RD.s_read_function) (A5 RD.s_read_function) .none kVM4 dcM4 pmM4 anM4 cdM4 ctM4),slM4⟩)(cM4:PySem.W.codeIn K cdM4 "Reader.read_function"=true)(kM4:PySem.W.keepIn K (.ref fM4)=true)
  (jM4:PySem.W.isFn K (.ref fM4)=true)
  (aM5:PySem.W.findIn K (.ref C) "read_name"=some (some (.ref fM5)))(lM5:K.lookup fM5=some ⟨ocM5,odM5,.func (PySem.W.fnOf "read_name" "Reader.read_name" (B4 RD.s_read_name) (B1 RD.s_read_name) (A5 RD.s_read_name) .none kVM5 dcM5 pmM5 anM5 cdM5 ctM5),slM5⟩)(cM5:PySem.W.codeIn K cdM5 "Reader.read_name"=true)(kM5:PySem.W.keepIn K (.ref fM5)=true)
  (jM5:PySem.W.isFn K (.ref fM5)=true)
  (aM6:PySem.W.findIn K (.ref C) "read_names"=some (some (.ref fM6)))(lM6:K.lookup fM6=some ⟨ocM6,odM6,.func (PySem.W.fnOf "read_names" "Reader.read_names" (B4 RD.s_read_names) (B1 RD.s_read_names) (A5 RD.s_read_names) .none kVM6 dcM6 pmM6 anM6 cdM6 ctM6),slM6⟩)(cM6:PySem.W.codeIn K cdM6 "Reader.read_names"=true)(kM6:PySem.W.keepIn K (.ref fM6)=true)
  (jM6:PySem.W.isFn K (.ref fM6)=true)
  (aM7:PySem.W.findIn K (.ref C) "read_terms"=some (some (.ref fM7)))(lM7:K.lookup fM7=some ⟨ocM7,odM7,.func (PySem.W.fnOf "read_terms" "Reader.read_terms" (B4 RD.s_read_terms) (B1 RD.s_read_terms) (A5 RD.s_read_terms) .none kVM7 dcM7 pmM7 anM7 cdM7 ctM7),slM7⟩)(cM7:PySem.W.codeIn K cdM7 "Reader.read_terms"=true)(kM7:PySem.W.keepIn K (.ref fM7)=true)
  (jM7:PySem.W.isFn K (.ref fM7)=true)
  (aM8:PySem.W.findIn K (.ref C) "goes_on"=some (some (.ref fM8)))(lM8:K.lookup fM8=some ⟨ocM8,odM8,.func (PySem.W.fnOf "goes_on" "Reader.goes_on" (B4 RD.s_goes_on) (B1 RD.s_goes_on) (A5 RD.s_goes_on) .none kVM8 dcM8 pmM8 anM8 cdM8 ctM8),slM8⟩)(cM8:PySem.W.codeIn K cdM8 "Reader.goes_on"=true)(kM8:PySem.W.keepIn K (.ref fM8)=true)
  (jM8:PySem.W.isFn K (.ref fM8)=true)
  (aM9:PySem.W.findIn K (.ref C) "read_term"=some (some (.ref fM9)))(lM9:K.lookup fM9=some ⟨ocM9,odM9,.func (PySem.W.fnOf "read_term" "Reader.read_term" (B4 RD.s_read_term) (B1 RD.s_read_term) (A5 RD.s_read_term) .none kVM9 dcM9 pmM9 anM9 cdM9 ctM9),slM9⟩)(cM9:PySem.W.codeIn K cdM9 "Reader.read_term"=true)(kM9:PySem.W.keepIn K (.ref fM9)=true)
  (jM9:PySem.W.isFn K (.ref fM9)=true)
  (aM10:PySem.W.findIn K (.ref C) "read_row"=some (some (.ref fM10)))(lM10:K.lookup fM10=some ⟨ocM10,odM10,.func (PySem.W.fnOf "read_row" "Reader.read_row" (B4 RD.s_read_row) (B1 RD.s_read_row) (A5 RD.s_read_row) .none kVM10 dcM10 pmM10 anM10 cdM10 ctM10),slM10⟩)(cM10:PySem.W.codeIn K cdM10 "Reader.read_row"=true)(kM10:PySem.W.keepIn K (.ref fM10)=true)
  (jM10:PySem.W.isFn K (.ref fM10)=true)
  (aM11:PySem.W.findIn K (.ref C) "refuse_side_by_side"=some (some (.ref fM11)))(lM11:K.lookup fM11=some ⟨ocM11,odM11,.func (PySem.W.fnOf "refuse_side_by_side" "Reader.refuse_side_by_side" (B4 RD.s_refuse_side_by_side) (B1 RD.s_refuse_side_by_side) (A5 RD.s_refuse_side_by_side) .none kVM11 dcM11 pmM11 anM11 cdM11 ctM11),slM11⟩)(cM11:PySem.W.codeIn K cdM11 "Reader.refuse_side_by_side"=true)(kM11:PySem.W.keepIn K (.ref fM11)=true)
  (jM11:PySem.W.isFn K (.ref fM11)=true)
  (aM12:PySem.W.findIn K (.ref C) "read_operand"=some (some (.ref fM12)))(lM12:K.lookup fM12=some ⟨ocM12,odM12,.func (PySem.W.fnOf "read_operand" "Reader.read_operand" (B4 RD.s_read_operand) (B1 RD.s_read_operand) (A5 RD.s_read_operand) .none kVM12 dcM12 pmM12 anM12 cdM12 ctM12),slM12⟩)(cM12:PySem.W.codeIn K cdM12 "Reader.read_operand"=true)(kM12:PySem.W.keepIn K (.ref fM12)=true)
  (jM12:PySem.W.isFn K (.ref fM12)=true)
  (aM13:PySem.W.findIn K (.ref C) "read_tight_or_wide"=some (some (.ref fM13)))(lM13:K.lookup fM13=some ⟨ocM13,odM13,.func (PySem.W.fnOf "read_tight_or_wide" "Reader.read_tight_or_wide" (B4 RD.s_read_tight_or_wide) (B1 RD.s_read_tight_or_wide) (A5 RD.s_read_tight_or_wide) .none kVM13 dcM13 pmM13 anM13 cdM13 ctM13),slM13⟩)(cM13:PySem.W.codeIn K cdM13 "Reader.read_tight_or_wide"=true)(kM13:PySem.W.keepIn K (.ref fM13)=true)
  (jM13:PySem.W.isFn K (.ref fM13)=true)
  (aM14:PySem.W.findIn K (.ref C) "read_if"=some (some (.ref fM14)))(lM14:K.lookup fM14=some ⟨ocM14,odM14,.func (PySem.W.fnOf "read_if" "Reader.read_if" (B4 RD.s_read_if) (B1 RD.s_read_if) (A5 RD.s_read_if) .none kVM14 dcM14 pmM14 anM14 cdM14 ctM14),slM14⟩)(cM14:PySem.W.codeIn K cdM14 "Reader.read_if"=true)(kM14:PySem.W.keepIn K (.ref fM14)=true)
  (jM14:PySem.W.isFn K (.ref fM14)=true)
  (aM15:PySem.W.findIn K (.ref C) "read_let"=some (some (.ref fM15)))(lM15:K.lookup fM15=some ⟨ocM15,odM15,.func (PySem.W.fnOf "read_let" "Reader.read_let" (B4 RD.s_read_let) (B1 RD.s_read_let) (A5 RD.s_read_let) .none kVM15 dcM15 pmM15 anM15 cdM15 ctM15),slM15⟩)(cM15:PySem.W.codeIn K cdM15 "Reader.read_let"=true)(kM15:PySem.W.keepIn K (.ref fM15)=true)
  (jM15:PySem.W.isFn K (.ref fM15)=true)
  (aM16:PySem.W.findIn K (.ref C) "read_fn"=some (some (.ref fM16)))(lM16:K.lookup fM16=some ⟨ocM16,odM16,.func (PySem.W.fnOf "read_fn" "Reader.read_fn" (B4 RD.s_read_fn) (B1 RD.s_read_fn) (A5 RD.s_read_fn) .none kVM16 dcM16 pmM16 anM16 cdM16 ctM16),slM16⟩)(cM16:PySem.W.codeIn K cdM16 "Reader.read_fn"=true)(kM16:PySem.W.keepIn K (.ref fM16)=true)
  (jM16:PySem.W.isFn K (.ref fM16)=true)
  (aM17:PySem.W.findIn K (.ref C) "read_tight"=some (some (.ref fM17)))(lM17:K.lookup fM17=some ⟨ocM17,odM17,.func (PySem.W.fnOf "read_tight" "Reader.read_tight" (B4 RD.s_read_tight) (B1 RD.s_read_tight) (A5 RD.s_read_tight) .none kVM17 dcM17 pmM17 anM17 cdM17 ctM17),slM17⟩)(cM17:PySem.W.codeIn K cdM17 "Reader.read_tight"=true)(kM17:PySem.W.keepIn K (.ref fM17)=true)
  (jM17:PySem.W.isFn K (.ref fM17)=true)
  (aM18:PySem.W.findIn K (.ref C) "read_named"=some (some (.ref fM18)))(lM18:K.lookup fM18=some ⟨ocM18,odM18,.func (PySem.W.fnOf "read_named" "Reader.read_named" (B4 RD.s_read_named) (B1 RD.s_read_named) (A5 RD.s_read_named) .none kVM18 dcM18 pmM18 anM18 cdM18 ctM18),slM18⟩)(cM18:PySem.W.codeIn K cdM18 "Reader.read_named"=true)(kM18:PySem.W.keepIn K (.ref fM18)=true)
  (jM18:PySem.W.isFn K (.ref fM18)=true)
  (aI:PySem.W.findIn K (.ref C) "__init__"=some (some (.ref fI)))(lI:K.lookup fI=some ⟨ocI,odI,.func (PySem.W.fnOf "__init__" "Reader.__init__" (B4 RD.s_init) (B1 RD.s_init) (A5 RD.s_init) .none kVI dcI pmI anI cdI ctI),slI⟩)(cI:PySem.W.codeIn K cdI "Reader.__init__"=true)(kI:PySem.W.keepIn K (.ref fI)=true)
  (jI:PySem.W.isFn K (.ref fI)=true)
  (pg:PySem.W.plainGet K C Str.empty=true)(hd:PySem.W.hasDictIn K C=true)(po:PySem.W.plainOver K C=true)(sa:PySem.W.findIn K (.ref C) "__setattr__"=some (some (.builtin "object.__setattr__")))(mk:PySem.W.makesIn K C=true)(kc:PySem.W.keepIn K (.ref C)=true)(nf:PySem.W.findIn K (.ref C) "found"=some none)(np:PySem.W.findIn K (.ref C) "place"=some none)
  (e_LONGEST_TEXT:PySem.W.nsIn K mainGlobals "LONGEST_TEXT"=some (some (.int 4000 t_LONGEST_TEXT)))
  (e_LONGEST_NUMBER:PySem.W.nsIn K mainGlobals "LONGEST_NUMBER"=some (some (.int 12 t_LONGEST_NUMBER)))
  (e_LONGEST_NAME:PySem.W.nsIn K mainGlobals "LONGEST_NAME"=some (some (.int 8 t_LONGEST_NAME)))
  (e_MOST_FUNCTIONS:PySem.W.nsIn K mainGlobals "MOST_FUNCTIONS"=some (some (.int 12 t_MOST_FUNCTIONS)))
  (e_MOST_LISTED:PySem.W.nsIn K mainGlobals "MOST_LISTED"=some (some (.int 4 t_MOST_LISTED)))
  (e_DEEPEST:PySem.W.nsIn K mainGlobals "DEEPEST"=some (some (.int 16 t_DEEPEST)))
  (e_MOST_TERMS:PySem.W.nsIn K mainGlobals "MOST_TERMS"=some (some (.int 400 t_MOST_TERMS)))
  (e_MOST_BRACKETS:PySem.W.nsIn K mainGlobals "MOST_BRACKETS"=some (some (.int 16 t_MOST_BRACKETS)))
  (e_LEAST_STRENGTH:PySem.W.nsIn K mainGlobals "LEAST_STRENGTH"=some (some (.int 1 t_LEAST_STRENGTH)))
  (e_FIGURES:PySem.W.nsIn K mainGlobals "FIGURES"=some (some (.str "0123456789" t_FIGURES)))
  (e_LETTERS:PySem.W.nsIn K mainGlobals "LETTERS"=some (some (.str "abcdefghijklmnopqrstuvwxyz" t_LETTERS)))
  (e_GAPS:PySem.W.nsIn K mainGlobals "GAPS"=some (some (.str " \t\n" t_GAPS)))
  (e_MARKS:PySem.W.nsIn K mainGlobals "MARKS"=some (some (.str "(),=+-*/<:![]" t_MARKS)))
  (aW_TOLD_WORDS:PySem.W.nsIn K mainGlobals "TOLD_WORDS"=some (some (.ref p_TOLD_WORDS)))(lW_TOLD_WORDS:K.lookup p_TOLD_WORDS=some ⟨.type "tuple",o_TOLD_WORDS,.seq i_TOLD_WORDS n_TOLD_WORDS,s_TOLD_WORDS⟩)(zW_TOLD_WORDS:i_TOLD_WORDS.size<=sizeLine)(vW_TOLD_WORDS:Vals [V.str "def",V.str "if",V.str "then",V.str "else",V.str "let",V.str "in",V.str "fn",V.str "yes",V.str "no",V.str "head",V.str "tail",V.str "empty",V.str "not"] i_TOLD_WORDS.toList)
  (aW_COMPARING:PySem.W.nsIn K mainGlobals "COMPARING"=some (some (.ref p_COMPARING)))(lW_COMPARING:K.lookup p_COMPARING=some ⟨.type "tuple",o_COMPARING,.seq i_COMPARING n_COMPARING,s_COMPARING⟩)(zW_COMPARING:i_COMPARING.size<=sizeLine)(vW_COMPARING:Vals [V.str "<",V.str "="] i_COMPARING.toList)
  (aW_ONE_WORDS:PySem.W.nsIn K mainGlobals "ONE_WORDS"=some (some (.ref p_ONE_WORDS)))(lW_ONE_WORDS:K.lookup p_ONE_WORDS=some ⟨.type "tuple",o_ONE_WORDS,.seq i_ONE_WORDS n_ONE_WORDS,s_ONE_WORDS⟩)(zW_ONE_WORDS:i_ONE_WORDS.size<=sizeLine)(vW_ONE_WORDS:Vals [V.str "head",V.str "tail",V.str "empty",V.str "not"] i_ONE_WORDS.toList)
  (aD_PARTS_FROM:PySem.W.nsIn K mainGlobals "PARTS_FROM"=some (some (.ref p_PARTS_FROM)))(lD_PARTS_FROM:K.lookup p_PARTS_FROM=some ⟨.type "dict",none,.dict i_PARTS_FROM n_PARTS_FROM, #[]⟩)(kD_PARTS_FROM:PySem.W.KeysLit w.params i_PARTS_FROM.toList)(pD_PARTS_FROM:Paired (λ(p:Str×V) (e:DictEntry)=>(∃t,e.key=.str p.1 t)/\RelV p.2 e.val) K15.PF i_PARTS_FROM.toList)(oD_PARTS_FROM:(p_PARTS_FROM==sysModules)=false)
  (aD_STRENGTHS:PySem.W.nsIn K mainGlobals "STRENGTHS"=some (some (.ref p_STRENGTHS)))(lD_STRENGTHS:K.lookup p_STRENGTHS=some ⟨.type "dict",none,.dict i_STRENGTHS n_STRENGTHS, #[]⟩)(kD_STRENGTHS:PySem.W.KeysLit w.params i_STRENGTHS.toList)(pD_STRENGTHS:Paired (λ(p:Str×V) (e:DictEntry)=>(∃t,e.key=.str p.1 t)/\RelV p.2 e.val) RD.SD i_STRENGTHS.toList)(oD_STRENGTHS:(p_STRENGTHS==sysModules)=false)
  (g_MillError:PySem.W.nsIn K mainGlobals "MillError"=some (some (.ref c_MillError)))(q_MillError:PySem.W.excIn K c_MillError [.type "ValueError",.type "Exception",.type "BaseException",.type "object"] "ValueError.__new__"=true)
  (g_BadText:PySem.W.nsIn K mainGlobals "BadText"=some (some (.ref c_BadText)))(q_BadText:PySem.W.excIn K c_BadText [.type "ValueError",.type "Exception",.type "BaseException",.type "object"] "ValueError.__new__"=true)
  (g_BadName:PySem.W.nsIn K mainGlobals "BadName"=some (some (.ref c_BadName)))(q_BadName:PySem.W.excIn K c_BadName [.type "ValueError",.type "Exception",.type "BaseException",.type "object"] "ValueError.__new__"=true)
  (g_BadKind:PySem.W.nsIn K mainGlobals "BadKind"=some (some (.ref c_BadKind)))(q_BadKind:PySem.W.excIn K c_BadKind [.type "ValueError",.type "Exception",.type "BaseException",.type "object"] "ValueError.__new__"=true)
  (g_BadInput:PySem.W.nsIn K mainGlobals "BadInput"=some (some (.ref c_BadInput)))(q_BadInput:PySem.W.excIn K c_BadInput [.type "ValueError",.type "Exception",.type "BaseException",.type "object"] "ValueError.__new__"=true)
  (lC:K.lookup c_BadText=some ⟨ocC,odC,.cls cdC,slC⟩)(hC:cdC.mro.tail.contains (.ref c_MillError)=true)
  (x1:PySem.W.findIn K (.ref c_BadText) "__getattribute__"=some (some (.builtin "BaseException.__getattribute__")))(x2:PySem.W.findIn K (.ref c_BadText) "__getattr__"=some none)(x3:PySem.W.findIn K (.ref c_BadText) "__class__"=some (some (.builtin "object.__class__")))
  (y1:PySem.W.kitOne K (.ref c_BadText) (.ref c_BadText)=some true)(y2:PySem.W.kitOne K (.ref c_BadText) (.ref c_BadName)=some false)(y3:PySem.W.kitOne K (.ref c_BadText) (.ref c_BadKind)=some false)(y4:PySem.W.kitOne K (.ref c_BadText) (.ref c_BadInput)=some false)(y5:PySem.W.kitOne K (.ref c_BadText) (.type "ValueError")=some true)
  (z_len:PySem.W.nsIn K mainGlobals "len"=some none)(z_isinstance:PySem.W.nsIn K mainGlobals "isinstance"=some none)(z_range:PySem.W.nsIn K mainGlobals "range"=some none)(z_list:PySem.W.nsIn K mainGlobals "list"=some none)(z_str:PySem.W.nsIn K mainGlobals "str"=some none)(z_all:PySem.W.nsIn K mainGlobals "all"=some none)(z_ValueError:PySem.W.nsIn K mainGlobals "ValueError"=some none)(z_tuple:PySem.W.nsIn K mainGlobals "tuple"=some none)(z_int:PySem.W.nsIn K mainGlobals "int"=some none)(z_any:PySem.W.nsIn K mainGlobals "any"=some none)(z_sum:PySem.W.nsIn K mainGlobals "sum"=some none)(z_bool:PySem.W.nsIn K mainGlobals "bool"=some none)(z_max:PySem.W.nsIn K mainGlobals "max"=some none)(z_min:PySem.W.nsIn K mainGlobals "min"=some none):
  ∃fd:FuncData,(∀(s:Shared) (v:Value),BindsTo s fd ⟨[v],[]⟩ [("_law_script",v)])/\∀base:Heap,K.In base->base.Ns mainGlobals mg->FnOk l.prog w K mg base CX0 236 fa fd ["_law_script"] (Gn.spLaw K):=by
 have e:=hfa.symm.trans (PySem.W.mg_of X G a27)
 cases e
 have B10:K10.NoG mg:=⟨PySem.W.mg_none_of X G z_len,PySem.W.mg_none_of X G z_isinstance,PySem.W.mg_none_of X G z_range,PySem.W.mg_none_of X G z_list,PySem.W.mg_none_of X G z_str,PySem.W.mg_none_of X G z_all,PySem.W.mg_none_of X G z_ValueError⟩
 have B15:K15.NoG mg:=⟨PySem.W.mg_none_of X G z_len,PySem.W.mg_none_of X G z_max,PySem.W.mg_none_of X G z_min,PySem.W.mg_none_of X G z_isinstance,PySem.W.mg_none_of X G z_range,PySem.W.mg_none_of X G z_list,PySem.W.mg_none_of X G z_tuple,PySem.W.mg_none_of X G z_int,PySem.W.mg_none_of X G z_bool⟩
 have B:NoG mg:={toNoG:=B10,tuple_:=PySem.W.mg_none_of X G z_tuple,int_:=PySem.W.mg_none_of X G z_int,any_:=PySem.W.mg_none_of X G z_any,sum_:=PySem.W.mg_none_of X G z_sum,bool_:=PySem.W.mg_none_of X G z_bool}
 have BM:Gn.NoGL mg:={toNoG:=B15,str_:=PySem.W.mg_none_of X G z_str}
 have m_LONGEST_TEXT:=PySem.W.mg_of X G e_LONGEST_TEXT
 have m_LONGEST_NUMBER:=PySem.W.mg_of X G e_LONGEST_NUMBER
 have m_LONGEST_NAME:=PySem.W.mg_of X G e_LONGEST_NAME
 have m_MOST_FUNCTIONS:=PySem.W.mg_of X G e_MOST_FUNCTIONS
 have m_MOST_LISTED:=PySem.W.mg_of X G e_MOST_LISTED
 have m_DEEPEST:=PySem.W.mg_of X G e_DEEPEST
 have m_MOST_TERMS:=PySem.W.mg_of X G e_MOST_TERMS
 have m_MOST_BRACKETS:=PySem.W.mg_of X G e_MOST_BRACKETS
 have m_LEAST_STRENGTH:=PySem.W.mg_of X G e_LEAST_STRENGTH
 have m_FIGURES:=PySem.W.mg_of X G e_FIGURES
 have m_LETTERS:=PySem.W.mg_of X G e_LETTERS
 have m_GAPS:=PySem.W.mg_of X G e_GAPS
 have m_MARKS:=PySem.W.mg_of X G e_MARKS
 have m_TOLD_WORDS:=PySem.W.mg_of X G aW_TOLD_WORDS
 have m_COMPARING:=PySem.W.mg_of X G aW_COMPARING
 have m_ONE_WORDS:=PySem.W.mg_of X G aW_ONE_WORDS
 have m_PARTS_FROM:=PySem.W.mg_of X G aD_PARTS_FROM
 have TD_PARTS_FROM:TopD w K p_PARTS_FROM K15.PF:=⟨⟨i_PARTS_FROM,n_PARTS_FROM,lD_PARTS_FROM,kD_PARTS_FROM,pD_PARTS_FROM⟩,oD_PARTS_FROM⟩
 have m_STRENGTHS:=PySem.W.mg_of X G aD_STRENGTHS
 have TD_STRENGTHS:TopD w K p_STRENGTHS RD.SD:=⟨⟨i_STRENGTHS,n_STRENGTHS,lD_STRENGTHS,kD_STRENGTHS,pD_STRENGTHS⟩,oD_STRENGTHS⟩
 have TW:∀H:Hp,SqT K H p_TOLD_WORDS (K10.toldW.map λl=>V.str (tx l)):=λH=> .inr ⟨_,i_TOLD_WORDS,n_TOLD_WORDS,lW_TOLD_WORDS,rfl,rfl,zW_TOLD_WORDS,by rw[biZ];exact vW_TOLD_WORDS⟩
 have CM:∀H:Hp,SqT K H p_COMPARING KS:=λH=> .inr ⟨_,i_COMPARING,n_COMPARING,lW_COMPARING,rfl,rfl,zW_COMPARING,vW_COMPARING⟩
 have OW:∀H:Hp,SqT K H p_ONE_WORDS KC:=λH=> .inr ⟨_,i_ONE_WORDS,n_ONE_WORDS,lW_ONE_WORDS,rfl,rfl,zW_ONE_WORDS,vW_ONE_WORDS⟩
 have X_MillError:XCls K mg "MillError" c_MillError:=⟨q_MillError,PySem.W.mg_of X G g_MillError⟩
 have X_BadText:XCls K mg "BadText" c_BadText:=⟨q_BadText,PySem.W.mg_of X G g_BadText⟩
 have X_BadName:XCls K mg "BadName" c_BadName:=⟨q_BadName,PySem.W.mg_of X G g_BadName⟩
 have X_BadKind:XCls K mg "BadKind" c_BadKind:=⟨q_BadKind,PySem.W.mg_of X G g_BadKind⟩
 have X_BadInput:XCls K mg "BadInput" c_BadInput:=⟨q_BadInput,PySem.W.mg_of X G g_BadInput⟩
 have TK:Takes K c_MillError λc=>c=c_BadText:=⟨⟨_,_,q_MillError,by decide⟩,λc e=>by subst e;exact⟨⟨_,_,q_BadText⟩,d2Z lC hC⟩⟩
 have XX:Gn.XF K c_BadText c_BadName c_BadKind c_BadInput:=⟨X_BadText.look x1 x2 x3,y1,y2,y3,y4,y5⟩
 have F0:=D2 (st:=K10.s_words) l0 c0 k0
 have b0:=F0.binds (ps:=["text"]) λ_ _ _ _ _ _ us hl=>match us,hl with| [_],_=>rfl
 have m0:=PySem.W.mg_of X G a0
 have F1:=D2 (st:=K10.s_word_from) l1 c1 k1
 have b1:=F1.binds (ps:=["text","place"]) λ_ _ _ _ _ _ us hl=>match us,hl with| [_,_],_=>rfl
 have m1:=PySem.W.mg_of X G a1
 have F2:=D2 (st:=K10.s_in_long_word) l2 c2 k2
 have b2:=F2.binds (ps:=["sign"]) λ_ _ _ _ _ _ us hl=>match us,hl with| [_],_=>rfl
 have m2:=PySem.W.mg_of X G a2
 have F3:=D2 (st:=K10.s_long_word_from) l3 c3 k3
 have b3:=F3.binds (ps:=["text","place"]) λ_ _ _ _ _ _ us hl=>match us,hl with| [_,_],_=>rfl
 have m3:=PySem.W.mg_of X G a3
 have F4:=D2 (st:=K10.s_is_number) l4 c4 k4
 have b4:=F4.binds (ps:=["word"]) λ_ _ _ _ _ _ us hl=>match us,hl with| [_],_=>rfl
 have m4:=PySem.W.mg_of X G a4
 have F5:=D2 (st:=K10.s_is_told) l5 c5 k5
 have b5:=F5.binds (ps:=["word"]) λ_ _ _ _ _ _ us hl=>match us,hl with| [_],_=>rfl
 have m5:=PySem.W.mg_of X G a5
 have F6:=D2 (st:=K10.s_is_name) l6 c6 k6
 have b6:=F6.binds (ps:=["word"]) λ_ _ _ _ _ _ us hl=>match us,hl with| [_],_=>rfl
 have m6:=PySem.W.mg_of X G a6
 have F7:=D2 (st:=K15.s_parts_of) l7 c7 k7
 have b7:=F7.binds (ps:=["term"]) λ_ _ _ _ _ _ us hl=>match us,hl with| [_],_=>rfl
 have m7:=PySem.W.mg_of X G a7
 have F8:=D2 (st:=K15.s_parts_of_all) l8 c8 k8
 have b8:=F8.binds (ps:=["terms"]) λ_ _ _ _ _ _ us hl=>match us,hl with| [_],_=>rfl
 have m8:=PySem.W.mg_of X G a8
 have F9:=D2 (st:=K15.s_depth_of) l9 c9 k9
 have b9:=F9.binds (ps:=["term"]) λ_ _ _ _ _ _ us hl=>match us,hl with| [_],_=>rfl
 have m9:=PySem.W.mg_of X G a9
 have F10:=D2 (st:=K15.s_size_of) l10 c10 k10
 have b10:=F10.binds (ps:=["term"]) λ_ _ _ _ _ _ us hl=>match us,hl with| [_],_=>rfl
 have m10:=PySem.W.mg_of X G a10
 have F11:=D2 (st:=RD.s_read) l11 c11 k11
 have b11:=F11.binds (ps:=["text"]) λ_ _ _ _ _ _ us hl=>match us,hl with| [_],_=>rfl
 have m11:=PySem.W.mg_of X G a11
 have F12:=D2 (st:=RD.s_refuse_many_brackets) l12 c12 k12
 have b12:=F12.binds (ps:=["found"]) λ_ _ _ _ _ _ us hl=>match us,hl with| [_],_=>rfl
 have m12:=PySem.W.mg_of X G a12
 have F13:=D2 (st:=RD.s_refuse_great) l13 c13 k13
 have b13:=F13.binds (ps:=["program"]) λ_ _ _ _ _ _ us hl=>match us,hl with| [_],_=>rfl
 have m13:=PySem.W.mg_of X G a13
 have F14:=D2 (st:=RD.s_strength_behind) l14 c14 k14
 have b14:=F14.binds (ps:=["sign"]) λ_ _ _ _ _ _ us hl=>match us,hl with| [_],_=>rfl
 have m14:=PySem.W.mg_of X G a14
 have F15:=D2 (st:=RD.Gn.s_law_cell_at) l15 c15 k15
 have b15:=F15.binds (ps:=["_law_script","_law_k"]) λ_ _ _ _ _ _ us hl=>match us,hl with| [_,_],_=>rfl
 have m15:=PySem.W.mg_of X G a15
 have F16:=D2 (st:=RD.Gn.s_law_name) l16 c16 k16
 have b16:=F16.binds (ps:=["_law_k","_law_shift"]) λ_ _ _ _ _ _ us hl=>match us,hl with| [_,_],_=>rfl
 have m16:=PySem.W.mg_of X G a16
 have F17:=D2 (st:=RD.Gn.s_law_atom) l17 c17 k17
 have b17:=F17.binds (ps:=["_law_cell","_law_shift"]) λ_ _ _ _ _ _ us hl=>match us,hl with| [_,_],_=>rfl
 have m17:=PySem.W.mg_of X G a17
 have F18:=D2 (st:=RD.Gn.s_law_put_on) l18 c18 k18
 have b18:=F18.binds (ps:=["_law_pile","_law_kind","_law_cell","_law_shift"]) λ_ _ _ _ _ _ us hl=>match us,hl with| [_,_,_,_],_=>rfl
 have m18:=PySem.W.mg_of X G a18
 have F19:=D2 (st:=RD.Gn.s_law_added) l19 c19 k19
 have b19:=F19.binds (ps:=["_law_pile","_law_kind","_law_cell","_law_shift"]) λ_ _ _ _ _ _ us hl=>match us,hl with| [_,_,_,_],_=>rfl
 have m19:=PySem.W.mg_of X G a19
 have F20:=D2 (st:=RD.Gn.s_law_term) l20 c20 k20
 have b20:=F20.binds (ps:=["_law_cells","_law_shift"]) λ_ _ _ _ _ _ us hl=>match us,hl with| [_,_],_=>rfl
 have m20:=PySem.W.mg_of X G a20
 have F21:=D2 (st:=RD.Gn.s_law_program) l21 c21 k21
 have b21:=F21.binds (ps:=["_law_script","_law_most"]) λ_ _ _ _ _ _ us hl=>match us,hl with| [_,_],_=>rfl
 have m21:=PySem.W.mg_of X G a21
 have F22:=D2 (st:=RD.Gn.s_law_text) l22 c22 k22
 have b22:=F22.binds (ps:=["_law_term_here"]) λ_ _ _ _ _ _ us hl=>match us,hl with| [_],_=>rfl
 have m22:=PySem.W.mg_of X G a22
 have F23:=D2 (st:=RD.Gn.s_law_shown) l23 c23 k23
 have b23:=F23.binds (ps:=["_law_program_here"]) λ_ _ _ _ _ _ us hl=>match us,hl with| [_],_=>rfl
 have m23:=PySem.W.mg_of X G a23
 have F24:=D2 (st:=RD.Gn.s_law_told) l24 c24 k24
 have b24:=F24.binds (ps:=["_law_text_here"]) λ_ _ _ _ _ _ us hl=>match us,hl with| [_],_=>rfl
 have m24:=PySem.W.mg_of X G a24
 have F25:=D2 (st:=RD.Gn.s_law_words) l25 c25 k25
 have b25:=F25.binds (ps:=["_law_text_here"]) λ_ _ _ _ _ _ us hl=>match us,hl with| [_],_=>rfl
 have m25:=PySem.W.mg_of X G a25
 have F26:=D2 (st:=RD.Gn.s_law_changed) l26 c26 k26
 have b26:=F26.binds (ps:=["_law_row","_law_at","_law_cell"]) λ_ _ _ _ _ _ us hl=>match us,hl with| [_,_,_],_=>rfl
 have m26:=PySem.W.mg_of X G a26
 have F27:=D2 (st:=RD.Gn.s_law) l27 c27 k27
 have b27:=F27.binds (ps:=["_law_script"]) λ_ _ _ _ _ _ us hl=>match us,hl with| [_],_=>rfl
 have m27:=PySem.W.mg_of X G a27
 have FM0:=D2 (st:=RD.s_ahead) lM0 cM0 kM0
 have bM0:=FM0.binds (ps:=["self"]) λ_ _ _ _ _ _ us hl=>match us,hl with| [_],_=>rfl
 have FM1:=D2 (st:=RD.s_take) lM1 cM1 kM1
 have bM1:=FM1.binds (ps:=["self"]) λ_ _ _ _ _ _ us hl=>match us,hl with| [_],_=>rfl
 have FM2:=D2 (st:=RD.s_expect) lM2 cM2 kM2
 have bM2:=FM2.binds (ps:=["self","wanted"]) λ_ _ _ _ _ _ us hl=>match us,hl with| [_,_],_=>rfl
 have FM3:=D2 (st:=RD.s_read_program) lM3 cM3 kM3
 have bM3:=FM3.binds (ps:=["self"]) λ_ _ _ _ _ _ us hl=>match us,hl with| [_],_=>rfl
 have FM4:=D2 (st:=RD.s_read_function) lM4 cM4 kM4
 have bM4:=FM4.binds (ps:=["self"]) λ_ _ _ _ _ _ us hl=>match us,hl with| [_],_=>rfl
 have FM5:=D2 (st:=RD.s_read_name) lM5 cM5 kM5
 have bM5:=FM5.binds (ps:=["self"]) λ_ _ _ _ _ _ us hl=>match us,hl with| [_],_=>rfl
 have FM6:=D2 (st:=RD.s_read_names) lM6 cM6 kM6
 have bM6:=FM6.binds (ps:=["self"]) λ_ _ _ _ _ _ us hl=>match us,hl with| [_],_=>rfl
 have FM7:=D2 (st:=RD.s_read_terms) lM7 cM7 kM7
 have bM7:=FM7.binds (ps:=["self","level"]) λ_ _ _ _ _ _ us hl=>match us,hl with| [_,_],_=>rfl
 have FM8:=D2 (st:=RD.s_goes_on) lM8 cM8 kM8
 have bM8:=FM8.binds (ps:=["self","many"]) λ_ _ _ _ _ _ us hl=>match us,hl with| [_,_],_=>rfl
 have FM9:=D2 (st:=RD.s_read_term) lM9 cM9 kM9
 have bM9:=FM9.binds (ps:=["self","level"]) λ_ _ _ _ _ _ us hl=>match us,hl with| [_,_],_=>rfl
 have FM10:=D2 (st:=RD.s_read_row) lM10 cM10 kM10
 have bM10:=FM10.binds (ps:=["self","least","level"]) λ_ _ _ _ _ _ us hl=>match us,hl with| [_,_,_],_=>rfl
 have FM11:=D2 (st:=RD.s_refuse_side_by_side) lM11 cM11 kM11
 have bM11:=FM11.binds (ps:=["self","sign"]) λ_ _ _ _ _ _ us hl=>match us,hl with| [_,_],_=>rfl
 have FM12:=D2 (st:=RD.s_read_operand) lM12 cM12 kM12
 have bM12:=FM12.binds (ps:=["self","level"]) λ_ _ _ _ _ _ us hl=>match us,hl with| [_,_],_=>rfl
 have FM13:=D2 (st:=RD.s_read_tight_or_wide) lM13 cM13 kM13
 have bM13:=FM13.binds (ps:=["self","level"]) λ_ _ _ _ _ _ us hl=>match us,hl with| [_,_],_=>rfl
 have FM14:=D2 (st:=RD.s_read_if) lM14 cM14 kM14
 have bM14:=FM14.binds (ps:=["self","level"]) λ_ _ _ _ _ _ us hl=>match us,hl with| [_,_],_=>rfl
 have FM15:=D2 (st:=RD.s_read_let) lM15 cM15 kM15
 have bM15:=FM15.binds (ps:=["self","level"]) λ_ _ _ _ _ _ us hl=>match us,hl with| [_,_],_=>rfl
 have FM16:=D2 (st:=RD.s_read_fn) lM16 cM16 kM16
 have bM16:=FM16.binds (ps:=["self","level"]) λ_ _ _ _ _ _ us hl=>match us,hl with| [_,_],_=>rfl
 have FM17:=D2 (st:=RD.s_read_tight) lM17 cM17 kM17
 have bM17:=FM17.binds (ps:=["self","level"]) λ_ _ _ _ _ _ us hl=>match us,hl with| [_,_],_=>rfl
 have FM18:=D2 (st:=RD.s_read_named) lM18 cM18 kM18
 have bM18:=FM18.binds (ps:=["self","name","level"]) λ_ _ _ _ _ _ us hl=>match us,hl with| [_,_,_],_=>rfl
 have FI:=D2 (st:=RD.s_init) lI cI kI
 have bI:=FI.binds (ps:=["self","found"]) λ_ _ _ _ _ _ us hl=>match us,hl with| [_,_],_=>rfl
 obtain⟨mf,md,u0,u1,u2,u3,u4,u5,u6,u7,u8,u9,u10,u11,u12,u13,u14,u15,u16,u17,u18,v0,v1,v2,v3,v4,v5,v6,v7,v8,v9,v10,v11,v12,v13,v14,v15,v16,v17,v18⟩:=emZ fM0 fM1 fM2 fM3 fM4 fM5 fM6 fM7 fM8 fM9 fM10 fM11 fM12 fM13 fM14 fM15 fM16 fM17 fM18 (PySem.W.fnOf "ahead" "Reader.ahead" (B4 RD.s_ahead) (B1 RD.s_ahead) (A5 RD.s_ahead) .none kVM0 dcM0 pmM0 anM0 cdM0 ctM0) (PySem.W.fnOf "take" "Reader.take" (B4 RD.s_take) (B1 RD.s_take) (A5 RD.s_take) .none kVM1 dcM1 pmM1 anM1 cdM1 ctM1) (PySem.W.fnOf "expect" "Reader.expect" (B4 RD.s_expect) (B1 RD.s_expect) (A5 RD.s_expect) .none kVM2 dcM2 pmM2 anM2 cdM2 ctM2) (PySem.W.fnOf "read_program" "Reader.read_program" (B4 RD.s_read_program) (B1 RD.s_read_program) (A5 RD.s_read_program) .none kVM3 dcM3 pmM3 anM3 cdM3 ctM3) (PySem.W.fnOf "read_function" "Reader.read_function" (B4 RD.s_read_function) (B1 RD.s_read_function) (A5 RD.s_read_function) .none kVM4 dcM4 pmM4 anM4 cdM4 ctM4) (PySem.W.fnOf "read_name" "Reader.read_name" (B4 RD.s_read_name) (B1 RD.s_read_name) (A5 RD.s_read_name) .none kVM5 dcM5 pmM5 anM5 cdM5 ctM5) (PySem.W.fnOf "read_names" "Reader.read_names" (B4 RD.s_read_names) (B1 RD.s_read_names) (A5 RD.s_read_names) .none kVM6 dcM6 pmM6 anM6 cdM6 ctM6) (PySem.W.fnOf "read_terms" "Reader.read_terms" (B4 RD.s_read_terms) (B1 RD.s_read_terms) (A5 RD.s_read_terms) .none kVM7 dcM7 pmM7 anM7 cdM7 ctM7) (PySem.W.fnOf "goes_on" "Reader.goes_on" (B4 RD.s_goes_on) (B1 RD.s_goes_on) (A5 RD.s_goes_on) .none kVM8 dcM8 pmM8 anM8 cdM8 ctM8) (PySem.W.fnOf "read_term" "Reader.read_term" (B4 RD.s_read_term) (B1 RD.s_read_term) (A5 RD.s_read_term) .none kVM9 dcM9 pmM9 anM9 cdM9 ctM9) (PySem.W.fnOf "read_row" "Reader.read_row" (B4 RD.s_read_row) (B1 RD.s_read_row) (A5 RD.s_read_row) .none kVM10 dcM10 pmM10 anM10 cdM10 ctM10) (PySem.W.fnOf "refuse_side_by_side" "Reader.refuse_side_by_side" (B4 RD.s_refuse_side_by_side) (B1 RD.s_refuse_side_by_side) (A5 RD.s_refuse_side_by_side) .none kVM11 dcM11 pmM11 anM11 cdM11 ctM11) (PySem.W.fnOf "read_operand" "Reader.read_operand" (B4 RD.s_read_operand) (B1 RD.s_read_operand) (A5 RD.s_read_operand) .none kVM12 dcM12 pmM12 anM12 cdM12 ctM12) (PySem.W.fnOf "read_tight_or_wide" "Reader.read_tight_or_wide" (B4 RD.s_read_tight_or_wide) (B1 RD.s_read_tight_or_wide) (A5 RD.s_read_tight_or_wide) .none kVM13 dcM13 pmM13 anM13 cdM13 ctM13) (PySem.W.fnOf "read_if" "Reader.read_if" (B4 RD.s_read_if) (B1 RD.s_read_if) (A5 RD.s_read_if) .none kVM14 dcM14 pmM14 anM14 cdM14 ctM14) (PySem.W.fnOf "read_let" "Reader.read_let" (B4 RD.s_read_let) (B1 RD.s_read_let) (A5 RD.s_read_let) .none kVM15 dcM15 pmM15 anM15 cdM15 ctM15) (PySem.W.fnOf "read_fn" "Reader.read_fn" (B4 RD.s_read_fn) (B1 RD.s_read_fn) (A5 RD.s_read_fn) .none kVM16 dcM16 pmM16 anM16 cdM16 ctM16) (PySem.W.fnOf "read_tight" "Reader.read_tight" (B4 RD.s_read_tight) (B1 RD.s_read_tight) (A5 RD.s_read_tight) .none kVM17 dcM17 pmM17 anM17 cdM17 ctM17) (PySem.W.fnOf "read_named" "Reader.read_named" (B4 RD.s_read_named) (B1 RD.s_read_named) (A5 RD.s_read_named) .none kVM18 dcM18 pmM18 anM18 cdM18 ctM18)
 have R0:Fun K "ahead" "Reader.ahead" RD.s_ahead (mf "ahead") (md "ahead"):=by rw[u0,v0];exact FM0
 have w0:Meth K C "ahead" (mf "ahead"):=by rw[u0];exact⟨aM0,jM0,kM0⟩
 have y100:Binds K (md "ahead") ["self"] []:=by rw[v0];exact bM0
 have R1:Fun K "take" "Reader.take" RD.s_take (mf "take") (md "take"):=by rw[u1,v1];exact FM1
 have w1:Meth K C "take" (mf "take"):=by rw[u1];exact⟨aM1,jM1,kM1⟩
 have y101:Binds K (md "take") ["self"] []:=by rw[v1];exact bM1
 have R2:Fun K "expect" "Reader.expect" RD.s_expect (mf "expect") (md "expect"):=by rw[u2,v2];exact FM2
 have w2:Meth K C "expect" (mf "expect"):=by rw[u2];exact⟨aM2,jM2,kM2⟩
 have y102:Binds K (md "expect") ["self","wanted"] []:=by rw[v2];exact bM2
 have R3:Fun K "read_program" "Reader.read_program" RD.s_read_program (mf "read_program") (md "read_program"):=by rw[u3,v3];exact FM3
 have w3:Meth K C "read_program" (mf "read_program"):=by rw[u3];exact⟨aM3,jM3,kM3⟩
 have y103:Binds K (md "read_program") ["self"] []:=by rw[v3];exact bM3
 have R4:Fun K "read_function" "Reader.read_function" RD.s_read_function (mf "read_function") (md "read_function"):=by rw[u4,v4];exact FM4
 have w4:Meth K C "read_function" (mf "read_function"):=by rw[u4];exact⟨aM4,jM4,kM4⟩
 have y104:Binds K (md "read_function") ["self"] []:=by rw[v4];exact bM4
 have R5:Fun K "read_name" "Reader.read_name" RD.s_read_name (mf "read_name") (md "read_name"):=by rw[u5,v5];exact FM5
 have w5:Meth K C "read_name" (mf "read_name"):=by rw[u5];exact⟨aM5,jM5,kM5⟩
 have y105:Binds K (md "read_name") ["self"] []:=by rw[v5];exact bM5
 have R6:Fun K "read_names" "Reader.read_names" RD.s_read_names (mf "read_names") (md "read_names"):=by rw[u6,v6];exact FM6
 have w6:Meth K C "read_names" (mf "read_names"):=by rw[u6];exact⟨aM6,jM6,kM6⟩
 have y106:Binds K (md "read_names") ["self"] []:=by rw[v6];exact bM6
 have R7:Fun K "read_terms" "Reader.read_terms" RD.s_read_terms (mf "read_terms") (md "read_terms"):=by rw[u7,v7];exact FM7
 have w7:Meth K C "read_terms" (mf "read_terms"):=by rw[u7];exact⟨aM7,jM7,kM7⟩
 have y107:Binds K (md "read_terms") ["self","level"] []:=by rw[v7];exact bM7
 have R8:Fun K "goes_on" "Reader.goes_on" RD.s_goes_on (mf "goes_on") (md "goes_on"):=by rw[u8,v8];exact FM8
 have w8:Meth K C "goes_on" (mf "goes_on"):=by rw[u8];exact⟨aM8,jM8,kM8⟩
 have y108:Binds K (md "goes_on") ["self","many"] []:=by rw[v8];exact bM8
 have R9:Fun K "read_term" "Reader.read_term" RD.s_read_term (mf "read_term") (md "read_term"):=by rw[u9,v9];exact FM9
 have w9:Meth K C "read_term" (mf "read_term"):=by rw[u9];exact⟨aM9,jM9,kM9⟩
 have y109:Binds K (md "read_term") ["self","level"] []:=by rw[v9];exact bM9
 have R10:Fun K "read_row" "Reader.read_row" RD.s_read_row (mf "read_row") (md "read_row"):=by rw[u10,v10];exact FM10
 have w10:Meth K C "read_row" (mf "read_row"):=by rw[u10];exact⟨aM10,jM10,kM10⟩
 have y110:Binds K (md "read_row") ["self","least","level"] []:=by rw[v10];exact bM10
 have R11:Fun K "refuse_side_by_side" "Reader.refuse_side_by_side" RD.s_refuse_side_by_side (mf "refuse_side_by_side") (md "refuse_side_by_side"):=by rw[u11,v11];exact FM11
 have w11:Meth K C "refuse_side_by_side" (mf "refuse_side_by_side"):=by rw[u11];exact⟨aM11,jM11,kM11⟩
 have y111:Binds K (md "refuse_side_by_side") ["self","sign"] []:=by rw[v11];exact bM11
 have R12:Fun K "read_operand" "Reader.read_operand" RD.s_read_operand (mf "read_operand") (md "read_operand"):=by rw[u12,v12];exact FM12
 have w12:Meth K C "read_operand" (mf "read_operand"):=by rw[u12];exact⟨aM12,jM12,kM12⟩
 have y112:Binds K (md "read_operand") ["self","level"] []:=by rw[v12];exact bM12
 have R13:Fun K "read_tight_or_wide" "Reader.read_tight_or_wide" RD.s_read_tight_or_wide (mf "read_tight_or_wide") (md "read_tight_or_wide"):=by rw[u13,v13];exact FM13
 have w13:Meth K C "read_tight_or_wide" (mf "read_tight_or_wide"):=by rw[u13];exact⟨aM13,jM13,kM13⟩
 have y113:Binds K (md "read_tight_or_wide") ["self","level"] []:=by rw[v13];exact bM13
 have R14:Fun K "read_if" "Reader.read_if" RD.s_read_if (mf "read_if") (md "read_if"):=by rw[u14,v14];exact FM14
 have w14:Meth K C "read_if" (mf "read_if"):=by rw[u14];exact⟨aM14,jM14,kM14⟩
 have y114:Binds K (md "read_if") ["self","level"] []:=by rw[v14];exact bM14
 have R15:Fun K "read_let" "Reader.read_let" RD.s_read_let (mf "read_let") (md "read_let"):=by rw[u15,v15];exact FM15
 have w15:Meth K C "read_let" (mf "read_let"):=by rw[u15];exact⟨aM15,jM15,kM15⟩
 have y115:Binds K (md "read_let") ["self","level"] []:=by rw[v15];exact bM15
 have R16:Fun K "read_fn" "Reader.read_fn" RD.s_read_fn (mf "read_fn") (md "read_fn"):=by rw[u16,v16];exact FM16
 have w16:Meth K C "read_fn" (mf "read_fn"):=by rw[u16];exact⟨aM16,jM16,kM16⟩
 have y116:Binds K (md "read_fn") ["self","level"] []:=by rw[v16];exact bM16
 have R17:Fun K "read_tight" "Reader.read_tight" RD.s_read_tight (mf "read_tight") (md "read_tight"):=by rw[u17,v17];exact FM17
 have w17:Meth K C "read_tight" (mf "read_tight"):=by rw[u17];exact⟨aM17,jM17,kM17⟩
 have y117:Binds K (md "read_tight") ["self","level"] []:=by rw[v17];exact bM17
 have R18:Fun K "read_named" "Reader.read_named" RD.s_read_named (mf "read_named") (md "read_named"):=by rw[u18,v18];exact FM18
 have w18:Meth K C "read_named" (mf "read_named"):=by rw[u18];exact⟨aM18,jM18,kM18⟩
 have y118:Binds K (md "read_named") ["self","name","level"] []:=by rw[v18];exact bM18
 have RC:RCls K C mf md:={cl:=⟨pg,hd,po,sa⟩,nf:=nf,np:=np,m_ahead:=w0,m_take:=w1,m_expect:=w2,m_read_program:=w3,m_read_function:=w4,m_read_name:=w5,m_read_names:=w6,m_read_terms:=w7,m_goes_on:=w8,m_read_term:=w9,m_read_row:=w10,m_refuse_side_by_side:=w11,m_read_operand:=w12,m_read_tight_or_wide:=w13,m_read_if:=w14,m_read_let:=w15,m_read_fn:=w16,m_read_tight:=w17,m_read_named:=w18,b_ahead:=y100,b_take:=y101,b_expect:=y102,b_read_program:=y103,b_read_function:=y104,b_read_name:=y105,b_read_names:=y106,b_read_terms:=y107,b_goes_on:=y108,b_read_term:=y109,b_read_row:=y110,b_refuse_side_by_side:=y111,b_read_operand:=y112,b_read_tight_or_wide:=y113,b_read_if:=y114,b_read_let:=y115,b_read_fn:=y116,b_read_tight:=y117,b_read_named:=y118}
 have RF:RFun K mf md:={ahead:=R0,take:=R1,expect:=R2,read_name:=R5,goes_on:=R8,read_names:=R6,read_terms:=R7,read_term:=R9,read_row:=R10,refuse_side_by_side:=R11,read_operand:=R12,read_tight_or_wide:=R13,read_if:=R14,read_let:=R15,read_fn:=R16,read_tight:=R17,read_named:=R18}
 refine⟨PySem.W.fnOf "law" "law" (B4 RD.Gn.s_law) (B1 RD.Gn.s_law) (A5 RD.Gn.s_law) .none kV27 dc27 pm27 an27 cd27 ct27,λs v=> .of_eq rfl,λbase _ _=> ?_⟩
 have G2:=K10.ok_in_long_word (P:=l.prog) (w:=w) (mg:=mg) (base:=base) F2 m_LETTERS m_FIGURES
 have G5:=K10.ok_is_told (P:=l.prog) (w:=w) (mg:=mg) (base:=base) F5 TW m_TOLD_WORDS
 have G4:=K10.ok_is_number (P:=l.prog) (w:=w) (mg:=mg) (base:=base) F4 B10 m_LONGEST_NUMBER m_FIGURES
 have G6:=K10.ok_is_name (P:=l.prog) (w:=w) (mg:=mg) (base:=base) F6 B10 m_LONGEST_NAME m_LETTERS ⟨_,_,G2,b2,k2,m2⟩ ⟨_,_,G5,b5,k5,m5⟩
 have G3:=K10.ok_long_word_from (P:=l.prog) (w:=w) (mg:=mg) (base:=base) F3 B10 X_BadText ⟨_,_,G2,b2,k2,m2⟩ ⟨_,_,G5,b5,k5,m5⟩ ⟨_,_,G4,b4,k4,m4⟩ ⟨_,_,G6,b6,k6,m6⟩
 have G1:=K10.ok_word_from (P:=l.prog) (w:=w) (mg:=mg) (base:=base) F1 B10 X_BadText m_MARKS ⟨_,_,G2,b2,k2,m2⟩ ⟨_,_,G3,b3,k3,m3⟩
 have G0:=K10.ok_words (P:=l.prog) (w:=w) (mg:=mg) (base:=base) F0 B10 X_BadText m_LONGEST_TEXT m_GAPS ⟨_,_,G1,b1,k1,m1⟩
 have G7:=K15.ok_parts_of (P:=l.prog) (w:=w) (mg:=mg) (base:=base) F7 B15 TD_PARTS_FROM m_PARTS_FROM
 have G8:=K15.ok_parts_of_all (P:=l.prog) (w:=w) (mg:=mg) (base:=base) F8 ⟨_,_,G7,b7,k7,m7⟩
 have G9:=K15.ok_depth_of (P:=l.prog) (w:=w) (mg:=mg) (base:=base) F9 ⟨_,_,G8,b8,k8,m8⟩
 have G10:=K15.ok_size_of (P:=l.prog) (w:=w) (mg:=mg) (base:=base) F10 B15 ⟨_,_,G8,b8,k8,m8⟩
 have H_ahead:=YU (P:=l.prog) (w:=w) (mg:=mg) (base:=base) R0 B10 RC
 have H_take:=bfZ (P:=l.prog) (w:=w) (mg:=mg) (base:=base) R1 RC H_ahead
 have H_expect:=WU (P:=l.prog) (w:=w) (mg:=mg) (base:=base) R2 RC X_BadText H_take
 have H_read_name:=LX (P:=l.prog) (w:=w) (mg:=mg) (base:=base) R5 RC X_BadText H_take ⟨_,_,G6,b6,k6,m6⟩
 have H_goes_on:=SF (P:=l.prog) (w:=w) (mg:=mg) (base:=base) R8 RC X_BadText m_MOST_LISTED H_ahead H_take H_expect
 have H_read_names:=JX (P:=l.prog) (w:=w) (mg:=mg) (base:=base) R6 B RC H_expect H_goes_on H_read_name
 have G14:=EB (P:=l.prog) (w:=w) (mg:=mg) (base:=base) F14 m_STRENGTHS TD_STRENGTHS
 have H_refuse_side_by_side:=BF (P:=l.prog) (w:=w) (mg:=mg) (base:=base) R11 RC X_BadText m_COMPARING CM H_ahead
 have RW:=a9Z (P:=l.prog) (w:=w) (mg:=mg) (base:=base) RF B RC X_BadText m_LEAST_STRENGTH m_DEEPEST m_ONE_WORDS OW m_STRENGTHS TD_STRENGTHS ⟨_,_,G14,b14,k14,m14⟩ ⟨_,_,G6,b6,k6,m6⟩ ⟨_,_,G4,b4,k4,m4⟩ H_ahead H_take H_expect H_read_name H_goes_on H_refuse_side_by_side
 have H_read_term:=EH (P:=l.prog) (w:=w) (mg:=mg) (base:=base) R9 RC m_LEAST_STRENGTH (RW 32).1
 have H_read_function:=FM (P:=l.prog) (w:=w) (mg:=mg) (base:=base) R4 RC H_expect H_read_name H_read_names H_read_term
 have H_read_program:=GS (P:=l.prog) (w:=w) (mg:=mg) (base:=base) R3 B RC X_BadText m_MOST_FUNCTIONS H_ahead H_read_function
 have H_init:=bvZ (P:=l.prog) (w:=w) (mg:=mg) (base:=base) FI RC
 have G12:=AN (P:=l.prog) (w:=w) (mg:=mg) (base:=base) F12 X_BadText m_MOST_BRACKETS
 have G13:=GJ (P:=l.prog) (w:=w) (mg:=mg) (base:=base) F13 X_BadText m_DEEPEST m_MOST_TERMS ⟨_,_,G9,b9,k9,m9⟩ ⟨_,_,G10,b10,k10,m10⟩
 have G11:=bkZ (P:=l.prog) (w:=w) (mg:=mg) (base:=base) F11 RC ⟨mk,aI,jI,kc⟩ (PySem.W.mg_of X G aC) H_init bI ⟨_,_,G0,b0,k0,m0⟩ ⟨_,_,G12,b12,k12,m12⟩ ⟨_,_,G13,b13,k13,m13⟩ H_read_program
 have G15:=Gn.ok_law_cell_at (P:=l.prog) (w:=w) (mg:=mg) (base:=base) F15 B15
 have G16:=Gn.ok_law_name (P:=l.prog) (w:=w) (mg:=mg) (base:=base) F16 B15
 have G17:=Gn.ok_law_atom (P:=l.prog) (w:=w) (mg:=mg) (base:=base) F17 B15 ⟨_,_,G16,b16,k16,m16⟩
 have G18:=Gn.ok_law_put_on (P:=l.prog) (w:=w) (mg:=mg) (base:=base) F18 B15 ⟨_,_,G16,b16,k16,m16⟩
 have G19:=Gn.ok_law_added (P:=l.prog) (w:=w) (mg:=mg) (base:=base) F19 B15 ⟨_,_,G18,b18,k18,m18⟩
 have G20:=Gn.ok_law_term (P:=l.prog) (w:=w) (mg:=mg) (base:=base) F20 B15 ⟨_,_,G17,b17,k17,m17⟩ ⟨_,_,G19,b19,k19,m19⟩
 have G21:=Gn.ok_law_program (P:=l.prog) (w:=w) (mg:=mg) (base:=base) F21 B15 ⟨_,_,G16,b16,k16,m16⟩ ⟨_,_,G20,b20,k20,m20⟩ ⟨_,_,G15,b15,k15,m15⟩
 have G22:=Gn.ok_law_text (P:=l.prog) (w:=w) (mg:=mg) (base:=base) F22 BM b22 k22 m22 16
 have G23:=Gn.ok_law_shown (P:=l.prog) (w:=w) (mg:=mg) (base:=base) F23 ⟨_,_,G22,b22,k22,m22⟩
 have G24:=Gn.ok_law_told (P:=l.prog) (w:=w) (mg:=mg) (base:=base) F24 B X_MillError X_BadText X_BadName X_BadKind X_BadInput TK XX G11 b11 k11 m11
 have G25:=Gn.ok_law_words (P:=l.prog) (w:=w) (mg:=mg) (base:=base) F25
 have G26:=Gn.ok_law_changed (P:=l.prog) (w:=w) (mg:=mg) (base:=base) F26
 exact Gn.ok_law F27 BM ⟨_,_,G21,b21,k21,m21⟩ ⟨_,_,G23,b23,k23,m23⟩ ⟨_,_,G25,b25,k25,m25⟩ ⟨_,_,G26,b26,k26,m26⟩ ⟨_,_,G15,b15,k15,m15⟩ ⟨_,_,G24,b24,k24,m24⟩
theorem walk{l:PySem.W.OpenLaw}{q:Program}{loose:List Str}{XP:(Str->Option Value)->Heap->Prop}{YP:World->Heap->Prop}{d:DefRec}{K:Params->PySem.W.Frag}(hn:l.most=some 63)(hdf:d.params.defaults=[])
  (hY:∀(w:World) (h:Heap),YP w h->(K w.params).In h)
  (F:∀(w:World) (mg:Str->Option Value) (fa:Addr) (h:Heap),(K w.params).In h->h.Ns mainGlobals mg->mg d.name=some (.ref fa)->
   ∃fd:FuncData,(∀(s:Shared) (u:Value),BindsTo s fd ⟨[u],[]⟩ [("_law_script",u)])/\∀base:Heap,(K w.params).In base->base.Ns mainGlobals mg->FnOk l.prog w (K w.params) mg base CX0 236 fa fd ["_law_script"] (Gn.spLaw (K w.params))):
  PySem.W.WalkO q loose XP YP l.row.toRowW d [] (λf vs=>PySem.call f vs):=
 L2.walk_of (n:=63) (k:=236) (x:="_law_script") (CX:=λ_=>CX0) (sp:=λw=>Gn.spLaw (K w.params)) hn (by decide) hdf ⟨rfl,by decide,by decide⟩ hY F (λ_ _ a ns hl _ hS=>⟨a,ns,rfl,hS,hl,λ_=>rfl⟩) λ_ _ _ _ _ z=>z
end RD
open PySem PySem.W PyProof.Rows
set_option maxRecDepth 100000 in
set_option maxHeartbeats 0 in
theorem PySem.Challenge.cw_speakmill_k14_no_program_holds : PySem.Challenge.rw_speakmill_k14_no_program.Holds := by
 w_on;o_law;k_head;(case hw=>w_witness2)
 k_fill
 refine RD.walk (l:=PySem.Challenge.rw_speakmill_k14_no_program) rfl rfl (λw h Y=>PySem.W.kIn_of Y) ?F
 case F=>
  intro w mg fa h KX G hmg
  refine' RD.all_mk KX G hmg ?a0 ?l0 ?c0 ?k0 ?a1 ?l1 ?c1 ?k1 ?a2 ?l2 ?c2 ?k2 ?a3 ?l3 ?c3 ?k3 ?a4 ?l4 ?c4 ?k4 ?a5 ?l5 ?c5 ?k5 ?a6 ?l6 ?c6 ?k6 ?a7 ?l7 ?c7 ?k7 ?a8 ?l8 ?c8 ?k8 ?a9 ?l9 ?c9 ?k9 ?a10 ?l10 ?c10 ?k10 ?a11 ?l11 ?c11 ?k11 ?a12 ?l12 ?c12 ?k12 ?a13 ?l13 ?c13 ?k13 ?a14 ?l14 ?c14 ?k14 ?a15 ?l15 ?c15 ?k15 ?a16 ?l16 ?c16 ?k16 ?a17 ?l17 ?c17 ?k17 ?a18 ?l18 ?c18 ?k18 ?a19 ?l19 ?c19 ?k19 ?a20 ?l20 ?c20 ?k20 ?a21 ?l21 ?c21 ?k21 ?a22 ?l22 ?c22 ?k22 ?a23 ?l23 ?c23 ?k23 ?a24 ?l24 ?c24 ?k24 ?a25 ?l25 ?c25 ?k25 ?a26 ?l26 ?c26 ?k26 ?a27 ?l27 ?c27 ?k27 ?aC ?aM0 ?lM0 ?cM0 ?kM0 ?jM0 ?aM1 ?lM1 ?cM1 ?kM1 ?jM1 ?aM2 ?lM2 ?cM2 ?kM2 ?jM2 ?aM3 ?lM3 ?cM3 ?kM3 ?jM3 ?aM4 ?lM4 ?cM4 ?kM4 ?jM4 ?aM5 ?lM5 ?cM5 ?kM5 ?jM5 ?aM6 ?lM6 ?cM6 ?kM6 ?jM6 ?aM7 ?lM7 ?cM7 ?kM7 ?jM7 ?aM8 ?lM8 ?cM8 ?kM8 ?jM8 ?aM9 ?lM9 ?cM9 ?kM9 ?jM9 ?aM10 ?lM10 ?cM10 ?kM10 ?jM10 ?aM11 ?lM11 ?cM11 ?kM11 ?jM11 ?aM12 ?lM12 ?cM12 ?kM12 ?jM12 ?aM13 ?lM13 ?cM13 ?kM13 ?jM13 ?aM14 ?lM14 ?cM14 ?kM14 ?jM14 ?aM15 ?lM15 ?cM15 ?kM15 ?jM15 ?aM16 ?lM16 ?cM16 ?kM16 ?jM16 ?aM17 ?lM17 ?cM17 ?kM17 ?jM17 ?aM18 ?lM18 ?cM18 ?kM18 ?jM18 ?aI ?lI ?cI ?kI ?jI ?pg ?hd ?po ?sa ?mk ?kc ?nf ?np ?e_LONGEST_TEXT ?e_LONGEST_NUMBER ?e_LONGEST_NAME ?e_MOST_FUNCTIONS ?e_MOST_LISTED ?e_DEEPEST ?e_MOST_TERMS ?e_MOST_BRACKETS ?e_LEAST_STRENGTH ?e_FIGURES ?e_LETTERS ?e_GAPS ?e_MARKS ?aW_TOLD_WORDS ?lW_TOLD_WORDS ?zW_TOLD_WORDS ?vW_TOLD_WORDS ?aW_COMPARING ?lW_COMPARING ?zW_COMPARING ?vW_COMPARING ?aW_ONE_WORDS ?lW_ONE_WORDS ?zW_ONE_WORDS ?vW_ONE_WORDS ?aD_PARTS_FROM ?lD_PARTS_FROM ?kD_PARTS_FROM ?pD_PARTS_FROM ?oD_PARTS_FROM ?aD_STRENGTHS ?lD_STRENGTHS ?kD_STRENGTHS ?pD_STRENGTHS ?oD_STRENGTHS ?g_MillError ?q_MillError ?g_BadText ?q_BadText ?g_BadName ?q_BadName ?g_BadKind ?q_BadKind ?g_BadInput ?q_BadInput ?lC ?hC ?x1 ?x2 ?x3 ?y1 ?y2 ?y3 ?y4 ?y5 ?z_len ?z_isinstance ?z_range ?z_list ?z_str ?z_all ?z_ValueError ?z_tuple ?z_int ?z_any ?z_sum ?z_bool ?z_max ?z_min
  (case a0=>k_is)
  (case l0=>k_is)
  (case c0=>k_is)
  (case k0=>k_is)
  (case a1=>k_is)
  (case l1=>k_is)
  (case c1=>k_is)
  (case k1=>k_is)
  (case a2=>k_is)
  (case l2=>k_is)
  (case c2=>k_is)
  (case k2=>k_is)
  (case a3=>k_is)
  (case l3=>k_is)
  (case c3=>k_is)
  (case k3=>k_is)
  (case a4=>k_is)
  (case l4=>k_is)
  (case c4=>k_is)
  (case k4=>k_is)
  (case a5=>k_is)
  (case l5=>k_is)
  (case c5=>k_is)
  (case k5=>k_is)
  (case a6=>k_is)
  (case l6=>k_is)
  (case c6=>k_is)
  (case k6=>k_is)
  (case a7=>k_is)
  (case l7=>k_is)
  (case c7=>k_is)
  (case k7=>k_is)
  (case a8=>k_is)
  (case l8=>k_is)
  (case c8=>k_is)
  (case k8=>k_is)
  (case a9=>k_is)
  (case l9=>k_is)
  (case c9=>k_is)
  (case k9=>k_is)
  (case a10=>k_is)
  (case l10=>k_is)
  (case c10=>k_is)
  (case k10=>k_is)
  (case a11=>k_is)
  (case l11=>k_is)
  (case c11=>k_is)
  (case k11=>k_is)
  (case a12=>k_is)
  (case l12=>k_is)
  (case c12=>k_is)
  (case k12=>k_is)
  (case a13=>k_is)
  (case l13=>k_is)
  (case c13=>k_is)
  (case k13=>k_is)
  (case a14=>k_is)
  (case l14=>k_is)
  (case c14=>k_is)
  (case k14=>k_is)
  (case a15=>k_is)
  (case l15=>k_is)
  (case c15=>k_is)
  (case k15=>k_is)
  (case a16=>k_is)
  (case l16=>k_is)
  (case c16=>k_is)
  (case k16=>k_is)
  (case a17=>k_is)
  (case l17=>k_is)
  (case c17=>k_is)
  (case k17=>k_is)
  (case a18=>k_is)
  (case l18=>k_is)
  (case c18=>k_is)
  (case k18=>k_is)
  (case a19=>k_is)
  (case l19=>k_is)
  (case c19=>k_is)
  (case k19=>k_is)
  (case a20=>k_is)
  (case l20=>k_is)
  (case c20=>k_is)
  (case k20=>k_is)
  (case a21=>k_is)
  (case l21=>k_is)
  (case c21=>k_is)
  (case k21=>k_is)
  (case a22=>k_is)
  (case l22=>k_is)
  (case c22=>k_is)
  (case k22=>k_is)
  (case a23=>k_is)
  (case l23=>k_is)
  (case c23=>k_is)
  (case k23=>k_is)
  (case a24=>k_is)
  (case l24=>k_is)
  (case c24=>k_is)
  (case k24=>k_is)
  (case a25=>k_is)
  (case l25=>k_is)
  (case c25=>k_is)
  (case k25=>k_is)
  (case a26=>k_is)
  (case l26=>k_is)
  (case c26=>k_is)
  (case k26=>k_is)
  (case a27=>k_is)
  (case l27=>k_is)
  (case c27=>k_is)
  (case k27=>k_is)
  (case aC=>k_is)
  (case aM0=>k_is)
  (case lM0=>k_is)
  (case cM0=>k_is)
  (case kM0=>k_is)
  (case jM0=>k_is)
  (case aM1=>k_is)
  (case lM1=>k_is)
  (case cM1=>k_is)
  (case kM1=>k_is)
  (case jM1=>k_is)
  (case aM2=>k_is)
  (case lM2=>k_is)
  (case cM2=>k_is)
  (case kM2=>k_is)
  (case jM2=>k_is)
  (case aM3=>k_is)
  (case lM3=>k_is)
  (case cM3=>k_is)
  (case kM3=>k_is)
  (case jM3=>k_is)
  (case aM4=>k_is)
  (case lM4=>k_is)
  (case cM4=>k_is)
  (case kM4=>k_is)
  (case jM4=>k_is)
  (case aM5=>k_is)
  (case lM5=>k_is)
  (case cM5=>k_is)
  (case kM5=>k_is)
  (case jM5=>k_is)
  (case aM6=>k_is)
  (case lM6=>k_is)
  (case cM6=>k_is)
  (case kM6=>k_is)
  (case jM6=>k_is)
  (case aM7=>k_is)
  (case lM7=>k_is)
  (case cM7=>k_is)
  (case kM7=>k_is)
  (case jM7=>k_is)
  (case aM8=>k_is)
  (case lM8=>k_is)
  (case cM8=>k_is)
  (case kM8=>k_is)
  (case jM8=>k_is)
  (case aM9=>k_is)
  (case lM9=>k_is)
  (case cM9=>k_is)
  (case kM9=>k_is)
  (case jM9=>k_is)
  (case aM10=>k_is)
  (case lM10=>k_is)
  (case cM10=>k_is)
  (case kM10=>k_is)
  (case jM10=>k_is)
  (case aM11=>k_is)
  (case lM11=>k_is)
  (case cM11=>k_is)
  (case kM11=>k_is)
  (case jM11=>k_is)
  (case aM12=>k_is)
  (case lM12=>k_is)
  (case cM12=>k_is)
  (case kM12=>k_is)
  (case jM12=>k_is)
  (case aM13=>k_is)
  (case lM13=>k_is)
  (case cM13=>k_is)
  (case kM13=>k_is)
  (case jM13=>k_is)
  (case aM14=>k_is)
  (case lM14=>k_is)
  (case cM14=>k_is)
  (case kM14=>k_is)
  (case jM14=>k_is)
  (case aM15=>k_is)
  (case lM15=>k_is)
  (case cM15=>k_is)
  (case kM15=>k_is)
  (case jM15=>k_is)
  (case aM16=>k_is)
  (case lM16=>k_is)
  (case cM16=>k_is)
  (case kM16=>k_is)
  (case jM16=>k_is)
  (case aM17=>k_is)
  (case lM17=>k_is)
  (case cM17=>k_is)
  (case kM17=>k_is)
  (case jM17=>k_is)
  (case aM18=>k_is)
  (case lM18=>k_is)
  (case cM18=>k_is)
  (case kM18=>k_is)
  (case jM18=>k_is)
  (case aI=>k_is)
  (case lI=>k_is)
  (case cI=>k_is)
  (case kI=>k_is)
  (case jI=>k_is)
  (case pg=>k_is)
  (case hd=>k_is)
  (case po=>k_is)
  (case sa=>k_is)
  (case mk=>k_is)
  (case kc=>k_is)
  (case nf=>k_is)
  (case np=>k_is)
  (case e_LONGEST_TEXT=>k_is)
  (case e_LONGEST_NUMBER=>k_is)
  (case e_LONGEST_NAME=>k_is)
  (case e_MOST_FUNCTIONS=>k_is)
  (case e_MOST_LISTED=>k_is)
  (case e_DEEPEST=>k_is)
  (case e_MOST_TERMS=>k_is)
  (case e_MOST_BRACKETS=>k_is)
  (case e_LEAST_STRENGTH=>k_is)
  (case e_FIGURES=>k_is)
  (case e_LETTERS=>k_is)
  (case e_GAPS=>k_is)
  (case e_MARKS=>k_is)
  (case aW_TOLD_WORDS=>k_is)
  (case lW_TOLD_WORDS=>k_is)
  (case zW_TOLD_WORDS=>decide)
  (case vW_TOLD_WORDS=>repeat (first|exact .nil|refine .cons ⟨_,rfl⟩ ?_))
  (case aW_COMPARING=>k_is)
  (case lW_COMPARING=>k_is)
  (case zW_COMPARING=>decide)
  (case vW_COMPARING=>repeat (first|exact .nil|refine .cons ⟨_,rfl⟩ ?_))
  (case aW_ONE_WORDS=>k_is)
  (case lW_ONE_WORDS=>k_is)
  (case zW_ONE_WORDS=>decide)
  (case vW_ONE_WORDS=>repeat (first|exact .nil|refine .cons ⟨_,rfl⟩ ?_))
  (case aD_PARTS_FROM=>k_is)
  (case lD_PARTS_FROM=>k_is)
  (case kD_PARTS_FROM=>k_keys)
  (case pD_PARTS_FROM=>repeat (first|exact .nil|refine .cons ⟨⟨_,rfl⟩,⟨_,rfl⟩⟩ ?_))
  (case oD_PARTS_FROM=>decide)
  (case aD_STRENGTHS=>k_is)
  (case lD_STRENGTHS=>k_is)
  (case kD_STRENGTHS=>k_keys)
  (case pD_STRENGTHS=>repeat (first|exact .nil|refine .cons ⟨⟨_,rfl⟩,⟨_,rfl⟩⟩ ?_))
  (case oD_STRENGTHS=>decide)
  (case g_MillError=>k_is)
  (case q_MillError=>k_exc)
  (case g_BadText=>k_is)
  (case q_BadText=>k_exc)
  (case g_BadName=>k_is)
  (case q_BadName=>k_exc)
  (case g_BadKind=>k_is)
  (case q_BadKind=>k_exc)
  (case g_BadInput=>k_is)
  (case q_BadInput=>k_exc)
  (case lC=>k_is)
  (case hC=>decide)
  (case x1=>k_is)
  (case x2=>k_is)
  (case x3=>k_is)
  (case y1=>kit_is)
  (case y2=>kit_is)
  (case y3=>kit_is)
  (case y4=>kit_is)
  (case y5=>kit_is)
  (case z_len=>k_is)
  (case z_isinstance=>k_is)
  (case z_range=>k_is)
  (case z_list=>k_is)
  (case z_str=>k_is)
  (case z_all=>k_is)
  (case z_ValueError=>k_is)
  (case z_tuple=>k_is)
  (case z_int=>k_is)
  (case z_any=>k_is)
  (case z_sum=>k_is)
  (case z_bool=>k_is)
  (case z_max=>k_is)
  (case z_min=>k_is)
