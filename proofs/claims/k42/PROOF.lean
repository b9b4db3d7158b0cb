import PyProof.Rows.All
import Wide.All
import OpenK.AllK
import Wide.FinOn
import Lean
import PyProof.EqAt
import PyProof.EqKinds
import PyProof.TupleCall
import PyProof.MaxThree
import PyProof.IsRules
import PyProof.SumAny
import PySem.Challenge.RW_speakmill_k42_whole_plain_recursion
set_option Elab.async false
set_option linter.all false
set_option maxRecDepth 100000
set_option maxHeartbeats 8000000
set_option compiler.extract_closed false
set_option genSizeOf false
set_option genSizeOfSpec false
local macro_rules | `(tactic| omega) => `(tactic| lia)
noncomputable section
open List (all_eq_true any_cons append_nil cons_ne_nil drop_eq_nil_of_le find?_append find?_cons flatten_cons forIn_cons forIn_nil getElem?_drop getElem?_map getElem?_reverse getElem_mem length_append length_cons length_drop length_map length_nil length_range length_replicate length_reverse length_take lookup_cons map_append map_cons map_map mem_append mem_append_left mem_append_right mem_cons mem_cons_of_mem mem_cons_self mem_iff_getElem? mem_map mem_map_of_mem mem_of_getElem? mem_range nodup_cons not_mem_nil range_succ replicate_succ reverse_cons size_toArray sum_cons take_of_length_le)
open Nat (le_add_right le_succ le_succ_of_le lt_irrefl lt_of_le_of_lt lt_of_lt_of_le lt_succ_of_lt lt_succ_self min_eq_left min_eq_right ne_of_lt pow_le_pow_right succ_pos zero_le)
open PySem.Heap (get?_push_size get?_update_other get?_update_self lt_size)
open Option (map_eq_some_iff map_some ne_none_iff_exists')
open PySem.W (codeIn findIn fnOf kia_one kitOne lookIn mg_of)
open PyProof.Rows (callWith_type1)
noncomputable abbrev bZ:=@PySem.wpAny_bind
noncomputable abbrev pZ:=@PySem.wpAny_pure
noncomputable abbrev gZ:=@PySem.Heap.get?_push_of_some
noncomputable abbrev nZ:=Bool.false_ne_true
noncomputable abbrev FZ:=PySem.W.Frag
noncomputable abbrev kZ:=@PySem.W.keepIn
noncomputable abbrev cZ{α:Type}{a b:α}{l:List α}:=(mem_cons (a:=a) (b:=b) (l:=l)).mp
noncomputable abbrev sZ{α:Type}{a b:α}:=(List.mem_singleton (a:=a) (b:=b)).mp
namespace L2
open PySem PySem.Spec PyProof.Rows
noncomputable abbrev Key:=Sum Int Str
noncomputable def KE:Key->Value->Bool
 | .inl k,v=>Value.isInt k v
 | .inr x,v=>Value.isStrOf x v
noncomputable def dpZ(w:World):Key->Int
 | .inl k=>hashInt k
 | .inr x=>hashStr w x
theorem N6:∀ {k:Key} {v:Value},KE k v=true->(∃i t,k=Sum.inl i/\v=Value.int i t)\/(∃x t,k=Sum.inr x/\v=Value.str x t)
 | .inl i,v,h=>by
  obtain⟨t,e⟩:=Value.isInt_shape (k:=i) (v:=v) h;exact .inl ⟨i,t,rfl,e⟩
 | .inr x,v,h=>by
  obtain⟨t,e⟩:=Value.isStrOf_shape (x:=x) (v:=v) h;exact .inr ⟨x,t,rfl,e⟩
theorem UM(i:Int)(t:Tok):KE (.inl i) (.int i t)=true:=by simp[KE,Value.isInt]
theorem UU(x:Str)(t:Tok):KE (.inr x) (.str x t)=true:=by simp[KE,Value.isStrOf]
theorem bIZ(a b:Int):decide ((Sum.inl a:Key)=Sum.inl b)=(a==b):=by
 by_cases e:a=b
 ·subst e;simp
 ·have h:¬(Sum.inl a:Key)=Sum.inl b:=λq=>e (Sum.inl.inj q);rw[decide_eq_false h];exact(beq_eq_false_iff_ne.mpr e).symm
theorem b2Z(a b:Str):decide ((Sum.inr a:Key)=Sum.inr b)=decide (a=b):=by
 by_cases e:a=b
 ·subst e;simp
 ·have h:¬(Sum.inr a:Key)=Sum.inr b:=λq=>e (Sum.inr.inj q);rw[decide_eq_false h,decide_eq_false e]
theorem cbZ(a:Int)(b:Str):decide ((Sum.inl a:Key)=Sum.inr b)=false:=decide_eq_false (λq=>nomatch q)
theorem cpZ(a:Str)(b:Int):decide ((Sum.inr a:Key)=Sum.inl b)=false:=decide_eq_false (λq=>nomatch q)
noncomputable def M8(prog:Program)(w:World):PySem.KeyKind prog w Key where
 is:=KE
 hash:=dpZ w
 inj:=λv a b ha hb=>by
  rcases N6 ha with⟨i,t,rfl,rfl⟩|⟨x,t,rfl,rfl⟩
  ·rcases N6 hb with⟨j,u,rfl,e⟩|⟨y,u,rfl,e⟩
   ·injection e with e1 _;rw[e1]
   ·exact nomatch e
  ·rcases N6 hb with⟨j,u,rfl,e⟩|⟨y,u,rfl,e⟩
   ·exact nomatch e
   ·injection e with e1 _;rw[e1]
 byValue:=λk v h=>by
  rcases N6 h with⟨i,t,rfl,rfl⟩|⟨x,t,rfl,rfl⟩<;>rfl
 pyHash:=λhv h=>by
  rcases N6 hv with⟨i,t,rfl,rfl⟩|⟨x,t,rfl,rfl⟩
  ·exact wpAny_pyHash_int h
  ·exact wpAny_pyHash_str h
 eqBool:=λhu hv h=>by
  rcases N6 hu with⟨i,t,rfl,rfl⟩|⟨x,t,rfl,rfl⟩
  ·rcases N6 hv with⟨j,u,rfl,rfl⟩|⟨y,u,rfl,rfl⟩
   ·rw[bIZ]at h;exact wpAny_eqBool_int h
   ·rw[cbZ]at h;exact SeqAt.EqAt.int_str i t y u _ _ _ _ h
  ·rcases N6 hv with⟨j,u,rfl,rfl⟩|⟨y,u,rfl,rfl⟩
   ·rw[cpZ]at h;exact SeqAt.EqAt.str_int x t j u _ _ _ _ h
   ·rw[b2Z]at h;exact wpAny_eqBool_str h
 «strs»:=λk x t v h=>by
  rcases N6 h with⟨i,u,rfl,e⟩|⟨y,u,rfl,e⟩
  ·exact nomatch e
  ·injection e with e1 _
   subst e1;cases v<;>rfl
theorem NN(prog:Program)(w:World)(i:Int)(t:Tok):(M8 prog w).is (.inl i) (.int i t)=true:=UM i t
theorem NF(prog:Program)(w:World)(x:Str)(t:Tok):(M8 prog w).is (.inr x) (.str x t)=true:=UU x t
inductive V where
 |non|bl (b:Bool)|int (i:Int)|str (x:Str)|byt (b:Array UInt8)|flt (b:UInt64)|ref (a:Addr)|ty (n:String)
 deriving DecidableEq
noncomputable def RelV:V->Value->Prop
 | .non,u=>u=Value.none
 | .bl b,u=>u=Value.bool b
 | .int i,u=>∃t,u=Value.int i t
 | .str x,u=>∃t,u=Value.str x t
 | .byt b,u=>∃t,u=Value.bytes b t
 | .flt b,u=>∃t,u=Value.float b t
 | .ref a,u=>u=Value.ref a
 | .ty n,u=>u=Value.type n
noncomputable abbrev Vals:List V->List Value->Prop:=Paired RelV
theorem Vals.length{xs:List V}{us:List Value}(r:Vals xs us):xs.length=us.length:=Paired.length r
theorem Vals.get:∀ {xs:List V} {us:List Value} {i:Nat} {x:V},Vals xs us->xs[i]? =some x->∃u,us[i]? =some u/\RelV x u
 |_,_,_,_,.nil,e=>by simp at e
 |_,_,0,_,.cons r _,e=>by simp at e;subst e;exact⟨_,rfl,r⟩
 |_,_,i+1,x,.cons _ t,e=>by
  obtain⟨u,h1,h2⟩:=Vals.get (i:=i) (x:=x) t (by simpa using e);exact⟨u,by simpa using h1,h2⟩
theorem Vals.set{x:V}{u:Value}(r:RelV x u):∀ {xs:List V} {us:List Value} (i:Nat),Vals xs us->Vals (xs.set i x) (us.set i u)
 |_,_,_,.nil=> .nil
 |_,_,0,.cons _ t=> .cons r t
 |_,_,i+1,.cons q t=> .cons q (Vals.set r i t)
theorem Vals.append:∀ {xs ys:List V} {us ws:List Value},Vals xs us->Vals ys ws->Vals (xs++ys) (us++ws)
 |_,_,_,_,.nil,s=>s
 |_,_,_,_,.cons r t,s=> .cons r (Vals.append t s)
theorem Vals.take:∀ {xs:List V} {us:List Value} (n:Nat),Vals xs us->Vals (xs.take n) (us.take n)
 |_,_,0,_=> .nil
 |_,_,_+1,.nil=> .nil
 |_,_,n+1,.cons r t=> .cons r (Vals.take n t)
theorem Vals.drop:∀ {xs:List V} {us:List Value} (n:Nat),Vals xs us->Vals (xs.drop n) (us.drop n)
 |_,_,0,r=>r
 |_,_,_+1,.nil=> .nil
 |_,_,n+1,.cons _ t=>Vals.drop n t
noncomputable def RelO:Option V->Option Value->Prop
 |some v,some u=>RelV v u
 |none,none=>True
 |_,_=>False
noncomputable def KV{κ:Type}:List (κ×V)->List (κ×Value)->Prop:=Paired λ(p:κ×V) (q:κ×Value)=>p.1=q.1/\RelV p.2 q.2
noncomputable def kV:Key->V
 | .inl i=> .int i
 | .inr x=> .str x
inductive HO where
 |lst (xs:List V)
 |tup (xs:List V)
 |dK (kvs:List (Key×V))|dT (kvs:List (List Key×V))
 |set(S:Int->Bool) (n:Nat)
 |ins (C dx:Addr) (fs:List (Str×V))
 |own (x:Addr)
 |xd (fs:List (Str×V))
 |met (f x:Addr)
 |rng (lo hi:Int)
 |frz (o:Obj) (u:HO)
 |tbl (ps:Array Value)
 |ext (φ:Heap->Prop)
noncomputable abbrev Hp:=Addr->Option HO
noncomputable def upd(H:Hp)(a:Addr)(o:HO):Hp:=λb=>if b=a then some o else H b
theorem A1{H:Hp}{a:Addr}{o:HO}:upd H a o a=some o:=by unfold upd;rw[if_pos rfl]
theorem C4{H:Hp}{a b:Addr}{o:HO}(h:b≠a):upd H a o b=H b:=by unfold upd;rw[if_neg h]
theorem apZ{H:Hp}{a:Addr}{o u:HO}:upd (upd H a o) a u=upd H a u:=by
 funext b;unfold upd;split<;>rfl
theorem W2{H:Hp}{a b:Addr}{o u:HO}(h:H a=some o)(h':H b=some u)(d:o≠u):a≠b:=by
 intro e;subst e;rw[h]at h';exact d (Option.some.inj h')
theorem C9{H:Hp}{a b:Addr}{o:HO}(h:H a=some o)(h':H b=none):a≠b:=by
 intro e;subst e;rw[h]at h';cases h'
section
variable(P:Program)(w:World)
noncomputable def ObjOk(H:Hp)(h:Heap)(a:Addr):HO->Prop
 | .lst xs=>xs.length<=sizeLine/\∃(its:List Value) (n:Nat),Vals xs its/\h.get? a=some {cls:=.type "list",data:=.seq its.toArray n}
 | .tup xs=>xs.length<=sizeLine/\∃its:List Value,Vals xs its/\IsTup h a its.toArray
 | .dK kvs=>kvs.length<=sizeLine/\(a==sysModules)=false/\∃vs,KV kvs vs/\h.DictOf (M8 P w) a vs
 | .dT kvs=>kvs.length<=sizeLine/\(a==sysModules)=false/\∃xs:List (List Key×Addr×Value),
   Paired (λ(p:List Key×V) (q:List Key×Addr×Value)=>p.1=q.1/\H q.2.1=some (.tup (p.1.map kV))/\RelV p.2 q.2.2) kvs xs/\
   ∃o es ep,h.get? a=some o/\o.ExactDict/\o.data=.dict es ep/\es.toList=xs.map (entryOfKey (tupleKind (M8 P w)))/\(xs.map (·.1)).Nodup
 | .set S n=>h.SetOf (intKind P w) a S n
 | .ins C dx fs=>H dx=some (.own a)/\fs.length<=1000/\dx≠a/\h.get? a=some (PySem.W.instObj C dx)/\
   ∃mA,h.Ns1 dx mA/\(∀f,RelO (fs.lookup f) (mA f))/\PySem.Within mA (fs.map (·.1))
 | .own _=>∃o,h.get? a=some o
 | .xd fs=>∃mA,h.Ns1 a mA/\∀f,RelO (fs.lookup f) (mA f)
 | .rng lo hi=>∃t u v,h.get? a=some {cls:=.type "range",data:=.fields #[.int lo t,.int hi u,.int 1 v]}
 | .frz o u=>h.get? a=some o/\ObjOk H h a u
 | .tbl ps=>h.get? a=some {cls:=.none,data:=.fields ps}
 | .met f x=>h.get? a=some (PySem.W.methodObj (.ref f) (.ref x))
 | .ext φ=>φ h/\(∃o,h.get? a=some o)/\∀h1 h2:Heap,φ h1->(∀o,h1.get? a=some o->h2.get? a=some o)->φ h2
noncomputable def HOk(H:Hp)(h:Heap):Prop:=∀a o,H a=some o->ObjOk P w H h a o
end
section
variable{P:Program}{w:World}{H H':Hp}{h h':Heap}{a:Addr}{o:HO}
theorem ObjOk.lt(x:ObjOk P w H h a o):a<h.objs.size:=by
 cases o with
 |lst xs=>obtain⟨_,_,_,_,e⟩:=x;exact lt_size e
 |tup xs=>obtain⟨_,_,_,p⟩:=x;exact p.lt
 |dK kvs=>obtain⟨_,_,_,_,o,_,_,e,_⟩:=x;exact lt_size e
 |dT kvs=>obtain⟨_,_,_,_,o,_,_,e,_⟩:=x;exact lt_size e
 |set S n=>obtain⟨o,_,_,_,e,_⟩:=x;exact lt_size e
 |ins C dx fs=>obtain⟨_,_,_,e,_⟩:=x;exact lt_size e
 |own y=>obtain⟨_,e⟩:=x;exact lt_size e
 |xd fs=>obtain⟨_,⟨_,_,_,e,_⟩,_⟩:=x;exact lt_size e
 |rng lo hi=>obtain⟨_,_,_,e⟩:=x;exact lt_size e
 |frz ob u=>obtain⟨e,_⟩:=x;exact lt_size e
 |tbl ps=>exact lt_size (show h.get? a=some _ from x)
 |met f y=>exact lt_size (show h.get? a=some _ from x)
 |ext φ=>obtain⟨_,⟨_,e⟩,_⟩:=x;exact lt_size e
theorem Paired.mapP{α β:Type}{F G:α->β->Prop}:∀ {l₁:List α} {l₂:List β},Paired F l₁ l₂->(∀a b,F a b->G a b)->Paired G l₁ l₂
 |_,_,.nil,_=> .nil
 |_,_,.cons r t,f=> .cons (f _ _ r) (Paired.mapP t f)
theorem ObjOk.stay(x:ObjOk P w H h a o)(k:∀b u,(b=a\/H b=some (.own a))->h.get? b=some u->h'.get? b=some u)
  (ho:∀b,H b=some (.own a)->H' b=some (.own a))(ht:∀b xs,H b=some (.tup xs)->H' b=some (.tup xs)):ObjOk P w H' h' a o:=by
 induction o with
 |lst xs=>obtain⟨z,its,n,r,e⟩:=x;exact⟨z,its,n,r,k _ _ (.inl rfl) e⟩
 |tup xs=>obtain⟨z,its,r,ob,e,c⟩:=x;exact⟨z,its,r,ob,k _ _ (.inl rfl) e,c⟩
 |dK kvs=>obtain⟨z,y,vs,r,ob,es,ep,e,c⟩:=x;exact⟨z,y,vs,r,ob,es,ep,k _ _ (.inl rfl) e,c⟩
 |dT kvs=>
  obtain⟨z,y,xs,r,ob,es,ep,e,c⟩:=x;exact⟨z,y,xs,Paired.mapP r λp q z=>⟨z.1,ht _ _ z.2.1,z.2.2⟩,ob,es,ep,k _ _ (.inl rfl) e,c⟩
 |set S n=>obtain⟨ob,es,ep,t,e,c⟩:=x;exact⟨ob,es,ep,t,k _ _ (.inl rfl) e,c⟩
 |ins C dx fs=>
  obtain⟨d,z,ne,e,mA,⟨od,es,ep,e2,c⟩,r⟩:=x;exact⟨ho _ d,z,ne,k _ _ (.inl rfl) e,mA,⟨od,es,ep,k _ _ (.inr d) e2,c⟩,r⟩
 |own y=>obtain⟨ob,e⟩:=x;exact⟨ob,k _ _ (.inl rfl) e⟩
 |xd fs=>obtain⟨mA,⟨od,es,ep,e,c⟩,r⟩:=x;exact⟨mA,⟨od,es,ep,k _ _ (.inl rfl) e,c⟩,r⟩
 |rng lo hi=>obtain⟨t,u,v,e⟩:=x;exact⟨t,u,v,k _ _ (.inl rfl) e⟩
 |frz ob u ih=>obtain⟨e,q⟩:=x;exact⟨k _ _ (.inl rfl) e,ih q⟩
 |tbl ps=>
  have e:h.get? a=some {cls:=.none,data:=.fields ps}:=x;show h'.get? a=some {cls:=.none,data:=.fields ps};exact k a _ (.inl rfl) e
 |met f y=>
  have e:h.get? a=some (PySem.W.methodObj (.ref f) (.ref y)):=x;show h'.get? a=some (PySem.W.methodObj (.ref f) (.ref y));exact k a _ (.inl rfl) e
 |ext φ=>obtain⟨p,⟨o,e⟩,st⟩:=x;exact⟨st _ _ p λo q=>k _ _ (.inl rfl) q,⟨o,k _ _ (.inl rfl) e⟩,st⟩
theorem HOk.lt(x:HOk P w H h)(e:H a=some o):a<h.objs.size:=(x a o e).lt
theorem HOk.fresh(x:HOk P w H h)(e:h.objs.size<=a):H a=none:=by
 cases q:H a with
 |none=>rfl
 |some u=>exact absurd (lt_of_lt_of_le (x.lt q) e) (lt_irrefl _)
theorem HOk.kept(x:HOk P w H h)(k:∀b u,h.get? b=some u->h'.get? b=some u):HOk P w H h':=λa o e=>
 (x a o e).stay (λb u _ q=>k b u q) (λ_ q=>q) λ_ _ q=>q
theorem HOk.laid(x:HOk P w H h)(k:∀b u,h.get? b=some u->h'.get? b=some u)(hp:h.objs.size<=a)(new:ObjOk P w (upd H a o) h' a o):HOk P w (upd H a o) h':=λb u e=>by
 have hn:=x.fresh hp;by_cases hb:b=a
 ·subst hb;rw[A1]at e;cases e;exact new
 ·rw[C4 hb]at e;exact(x b u e).stay (λc v _ q=>k c v q) (λc q=>by rw[C4 (C9 q hn)];exact q) λc xs q=>by rw[C4 (C9 q hn)];exact q
end
noncomputable def Rd(H:Hp)(a:Addr)(u:HO):Prop:=H a=some u\/∃o,H a=some (.frz o u)
theorem Rd.ok{P:Program}{w:World}{H:Hp}{h:Heap}{a:Addr}{u:HO}(r:Rd H a u)(x:HOk P w H h):ObjOk P w H h a u:=by
 rcases r with r|⟨o,r⟩
 ·exact x a u r
 ·obtain⟨_,q⟩:=x a _ r;exact q
noncomputable def Mut:Option HO->Prop
 |some (.lst _)=>True
 |some (.dK _)=>True
 |some (.dT _)=>True
 |some (.set _ _)=>True
 |some (.ins _ _ _)=>True
 |some (.ext _)=>True
 |_=>False
section
variable{P:Program}{w:World}{H:Hp}{h h':Heap}{x e:Addr}{o':HO}
theorem HOk.write(ok:HOk P w H h)(mu:Mut (H x))(he:e=x\/H e=some (.own x))(k:∀b u,b≠e->h.get? b=some u->h'.get? b=some u)(heo:∃u,h'.get? e=some u)
  (new:ObjOk P w (upd H x o') h' x o'):HOk P w (upd H x o') h':=λb u q=>by
 have nown:∀c y,H c=some (.own y)->c≠x:=λc y r z=>by subst z;rw[r]at mu;exact mu
 have ntup:∀c xs,H c=some (.tup xs)->c≠x:=λc xs r z=>by subst z;rw[r]at mu;exact mu
 by_cases hb:b=x
 ·subst hb;rw[A1]at q;cases q;exact new
 ·rw[C4 hb]at q;by_cases hbe:b=e
  ·have q':H b=some (.own x):=by
    rcases he with z|z
    ·exact absurd (hbe.trans z) hb
    ·rw[hbe];exact z
   rw[q]at q';cases q';obtain⟨v,hv⟩:=heo;exact⟨v,by rw[hbe];exact hv⟩
  ·refine(ok b u q).stay (λc v hc r=>k c v ?_ r) (λc r=>by rw[C4 (nown c b r)];exact r) λc xs r=>by rw[C4 (ntup c xs r)];exact r
   rcases hc with rfl|hc
   ·exact hbe
   ·rintro rfl;rcases he with z|z
    ·exact nown c b hc z
    ·rw[hc]at z;cases z;exact hb rfl
end
structure Un (fs ex:List Addr) (H H':Hp) (h h':Heap):Prop where
 keep:∀b o,h.get? b=some o->H b=none->b∉fs->b∉ex->h'.get? b=some o
 slot:∀b o,h.get? b=some o->H b=none->b∈fs->b∉ex->∃sl,h'.get? b=some {o with slots:=sl}
 free:∀b o,h.get? b=some o->H b=none->b∉ex->H' b=none
 there:∀b o,h.get? b=some o->b∉ex->∃o',h'.get? b=some o'
 tups:∀b xs,H b=some (.tup xs)->H' b=some (.tup xs)
 frzs:∀b o u,H b=some (.frz o u)->H' b=some (.frz o u)
 tbls:∀b ps,H b=some (.tbl ps)->∃more,H' b=some (.tbl (ps++more))
section
variable{fs fs' ex ex':List Addr}{H H1 H2:Hp}{h h1 h2 h':Heap}{a x e:Addr}{o:HO}
theorem Un.any(u:Un fs ex H H1 h h1){b:Addr}{ob:Obj}(q:h.get? b=some ob)(n:H b=none)(hx:b∉ex):∃sl,h1.get? b=some {ob with slots:=sl}:=by
 by_cases hb:b∈fs
 ·exact u.slot b ob q n hb hx
 ·exact⟨ob.slots,u.keep b ob q n hb hx⟩
theorem Un.kept(k:∀b u,h.get? b=some u->h'.get? b=some u):Un fs ex H H h h':=
 ⟨λb ob q _ _ _=>k b ob q,λb ob q _ _ _=>⟨ob.slots,k b ob q⟩,λ_ _ _ n _=>n,λb ob q _=>⟨ob,k b ob q⟩,λ_ _ q=>q,λ_ _ _ q=>q,λ_ ps q=>⟨#[],by rw[q];simp⟩⟩
theorem Un.refl:Un fs ex H H h h:=Un.kept λ_ _ q=>q
theorem Un.laid(k:∀b u,h.get? b=some u->h'.get? b=some u)(hp:h.objs.size<=a)(hn:H a=none):Un fs ex H (upd H a o) h h' where
 keep:=λb u q _ _ _=>k b u q
 slot:=λb u q _ _ _=>⟨u.slots,k b u q⟩
 free:=λb u q n _=>by rw[C4 (ne_of_lt (lt_of_lt_of_le (lt_size q) hp))];exact n
 there:=λb u q _=>⟨u,k b u q⟩
 tups:=λb xs q=>by rw[C4 (C9 q hn)];exact q
 frzs:=λb u xs q=>by rw[C4 (C9 q hn)];exact q
 tbls:=λb ps q=>⟨#[],by rw[C4 (C9 q hn),q];simp⟩
theorem Un.write(mu:Mut (H x))(he:e=x\/H e=some (.own x))(k:∀b u,b≠e->h.get? b=some u->h'.get? b=some u)(heo:∃u,h'.get? e=some u):Un fs ex H (upd H x o) h h':=by
 have hx:∀b,H b=none->b≠x:=λb n z=>by subst z;rw[n]at mu;exact mu
 have hb:∀b,H b=none->b≠e:=λb n z=>by
  subst z;rcases he with r|r
  ·exact hx b n r
  ·rw[n]at r;cases r
 have hm:∀b u,H b=some u->¬Mut (some u)->b≠x:=λb u q nm z=>by subst z;rw[q]at mu;exact nm mu
 refine⟨λb u q n _ _=>k b u (hb b n) q,λb u q n _ _=>⟨u.slots,k b u (hb b n) q⟩,λb u q n _=>by rw[C4 (hx b n)];exact n,λb u q _=> ?_,
  λb xs q=>by rw[C4 (hm b _ q λz=>z)];exact q,λb u xs q=>by rw[C4 (hm b _ q λz=>z)];exact q,λb ps q=>⟨#[],by rw[C4 (hm b _ q λz=>z),q];simp⟩⟩
 by_cases hbe:b=e
 ·subst hbe;exact heo
 ·exact⟨u,k b u hbe q⟩
end
noncomputable def trk(h:Heap)(H:Hp):List Addr:=(List.range h.objs.size).filter λa=>(H a).isSome
noncomputable def MN(h:Heap)(H:Hp):Heap:=PySem.W.hideAll h (trk h H)
theorem TR(h:Heap)(H:Hp):(MN h H).objs.size=h.objs.size:=PySem.W.hideAll_size _ _
theorem VH{h:Heap}{H:Hp}{b:Addr}{o:Obj}(e:h.get? b=some o)(n:H b=none):(MN h H).get? b=some o:=
 PySem.W.hideAll_get _ e λhm=>by
  have q:(H b).isSome=true:=(List.mem_filter.mp hm).2;rw[n]at q;simp at q
theorem asZ{h:Heap}{H:Hp}{b:Addr}{o:Obj}(e:(MN h H).get? b=some o):h.get? b=some o/\H b=none:=by
 have e':h.get? b=some o:=PySem.W.of_hideAll (trk h H) e;refine⟨e', ?_⟩;cases q:H b with
 |none=>rfl
 |some x=>
  have hm:b∈trk h H:=List.mem_filter.mpr ⟨mem_range.mpr (lt_size e'),by simp[q]⟩;have z:(MN h H).get? b=none:=PySem.W.hideAll_none (trk h H) hm;rw[z]at e;cases e
structure Mod (K:FZ) (mg:Str->Option Value) (base:Heap):Prop where
 kin:K.In base
 glob:base.Ns mainGlobals mg
 blt:∃mb,base.Ns builtinsNs mb/\∀x:Str,x≠ "__name__"->mb x=bootBuiltins x
 nolimit:base.NoLimit
structure Cx where
 prog:Program
 w:World
 K:FZ
 mg:Str->Option Value
 base:Heap
 A:Around
 N:List Str
 s₀:Shared
 H₀:Hp
 env:Env
 outer:List Env
 stack:List Env
 ex:List Addr
 fn:Str->Bool
 calm:Bool
 pn:List (Addr×Obj)
 xe:Value->Shared->Prop
noncomputable def frs(l:List Env):List Addr:=l.filterMap (·.frame)
noncomputable abbrev Cx.fs(X:Cx):List Addr:=frs X.outer
noncomputable def Vis(sc:Scope)(x:Str):Prop:=sc.names.lookup x=some .local\/sc.names.lookup x=some .cell\/sc.names.lookup x=some .free
noncomputable def Loc(sc:Scope)(x:Str):Prop:=sc.names.lookup x=some .local\/sc.names.lookup x=some .cell
noncomputable def diZ(env:Env)(h:Heap)(m:Str->Option Value)(x:Str)(u:Value):Prop:=
 (env.kindOf x=some .local/\m x=some u)\/((env.kindOf x=some .cell\/env.kindOf x=some .free)/\∃c,env.cells.lookup x=some c/\h.IsCell c (some u))
structure Cx.Ok (X:Cx):Prop where
 mod:Mod X.K X.mg X.base
 kind:X.env.scope.kind=.function
 glob:X.env.globals=mainGlobals
 blt:X.env.builtins=builtinsNs
 above:X.s₀.heap.objs.size<=X.env.locals
 inj:∀x y c,X.env.cells.lookup x=some c->X.env.cells.lookup y=some c->x=y
 has:∀x,(X.env.kindOf x=some .cell\/X.env.kindOf x=some .free)->∃c,X.env.cells.lookup x=some c
 cab:∀x c,X.fn x=true->X.env.cells.lookup x=some c->X.s₀.heap.objs.size<=c
 hd:X.calm=true->X.A.handled=none
 frames:X.A.frames=some X.stack
 stk:X.stack=X.outer\/(X.stack=X.env::X.outer/\X.env.frame=some X.env.locals)
 exf:∀b∈X.ex,b≠X.env.locals/\∀x c,X.env.cells.lookup x=some c->c≠b
 bs:∀b o,X.base.get? b=some o->X.s₀.heap.get? b=some o/\X.H₀ b=none
 bsz:X.base.objs.size<=X.s₀.heap.objs.size
 noex:∀b o,X.base.get? b=some o->b∉X.ex
 exfs:∀b∈X.ex,b∉X.fs
 funs:X.s₀.heap.FunFrames X.base X.outer
 frf:∀b∈X.fs,X.H₀ b=none
structure Inv (X:Cx) (pins:List (Addr×Obj)) (σ:List (Option V)) (H:Hp) (s:Shared):Prop where
 ok:X.Ok
 os:s.os=X.s₀.os
 bare:AllBare s.gens
 base:Un X.fs X.ex X.H₀ H X.s₀.heap s.heap
 loc:∃m,s.heap.Ns X.env.locals m/\∀(i:Nat) (x:Str) (v:V),X.N[i]? =some x->σ[i]? =some (some v)->Vis X.env.scope x->∃u,RelV v u/\diZ X.env s.heap m x u
 cell:∀x c,X.env.cells.lookup x=some c->∃v,s.heap.IsCell c v
 free:H X.env.locals=none
 freeC:∀x c,X.env.cells.lookup x=some c->H c=none
 pin:∀p∈X.pn++pins,s.heap.get? p.1=some p.2/\H p.1=none/\p.1≠X.env.locals/\p.1∉X.fs/\∀v,p.2.data≠ .cell v
 hok:HOk X.prog X.w H s.heap
 len:σ.length=X.N.length
section
variable{X:Cx}{pins:List (Addr×Obj)}{σ:List (Option V)}{H H':Hp}{s:Shared}{h':Heap}
theorem Cx.Ok.nofr(ok:X.Ok){b:Addr}{o:Obj}(e:X.base.get? b=some o):b∉X.fs:=λhb=>by
 have:=(ok.funs.mem hb).1;rw[e]at this;cases this
theorem Inv.bs(I:Inv X pins σ H s):∀b o,X.base.get? b=some o->s.heap.get? b=some o/\H b=none:=λb o e=>
 ⟨I.base.keep b o (I.ok.bs b o e).1 (I.ok.bs b o e).2 (I.ok.nofr e) (I.ok.noex b o e),I.base.free b o (I.ok.bs b o e).1 (I.ok.bs b o e).2 (I.ok.noex b o e)⟩
theorem Inv.bk(I:Inv X pins σ H s):∀b o,X.base.get? b=some o->s.heap.get? b=some o:=λb o e=>(I.bs b o e).1
theorem Inv.mod(I:Inv X pins σ H s):Mod X.K X.mg X.base:=I.ok.mod
theorem Inv.kIn(I:Inv X pins σ H s):X.K.In s.heap:=I.ok.mod.kin.keeps I.bk
theorem Inv.lt(I:Inv X pins σ H s):X.env.locals<s.heap.objs.size:=let⟨_,hn,_⟩:=I.loc;hn.lt
theorem Inv.sz(I:Inv X pins σ H s):X.s₀.heap.objs.size<=s.heap.objs.size:=Nat.le_trans I.ok.above (Nat.le_of_lt I.lt)
theorem Inv.nofs(I:Inv X pins σ H s){a:Addr}(h:s.heap.objs.size<=a):a∉X.fs:=λhb=>by
 obtain⟨_,o,ho,_⟩:=I.ok.funs.mem hb;exact absurd (lt_of_lt_of_le (lt_size ho) (Nat.le_trans I.sz h)) (lt_irrefl _)
theorem Inv.cne(I:Inv X pins σ H s):∀x c,X.env.cells.lookup x=some c->c≠X.env.locals:=λx c e z=>by
 obtain⟨v,o,ho,hd⟩:=I.cell x c e;obtain⟨m,⟨o',es,ep,ho',hd',_⟩,_⟩:=I.loc;rw[z,ho']at ho;cases ho;rw[hd']at hd;cases hd
theorem Inv.funs(I:Inv X pins σ H s):s.heap.FunFrames X.base X.outer:=by
 have all:∀(l:List Env),(∀b∈frs l,b∈X.fs)->X.s₀.heap.FunFrames X.base l->s.heap.FunFrames X.base l:=by
  intro l;induction l with
  |nil=>intro _ _;trivial
  |cons env r ih=>
   intro hs hl;obtain⟨hk,⟨L,o,hf,hn,ho,hd⟩,hr⟩:=hl;have hL:L∈X.fs:=hs L (by unfold frs;rw[List.filterMap_cons,hf];exact mem_cons_self);obtain⟨sl,e⟩:=I.base.slot L o ho (I.ok.frf L hL) hL λz=>I.ok.exfs L z hL;exact⟨hk,⟨L,_,hf,hn,e,hd⟩,ih (λb hb=>hs b (by unfold frs;rw[List.filterMap_cons,hf];exact mem_cons_of_mem _ hb)) hr⟩
 exact all X.outer (λ_ hb=>hb) I.ok.funs
theorem Inv.stack(I:Inv X pins σ H s):s.heap.FunFrames X.base X.stack:=by
 rcases I.ok.stk with e|⟨e,hf⟩
 ·rw[e];exact I.funs
 ·rw[e];obtain⟨m,hn,_⟩:=I.loc;refine .cons (by rw[I.ok.kind];decide) hf hn ?_ I.funs;exact Heap.get?_none_of_le (Nat.le_trans I.ok.bsz I.ok.above)
theorem Inv.stkSub(I:Inv X pins σ H s):∀b∈frs X.stack,b∈X.env.locals::X.fs:=λb hb=>by
 rcases I.ok.stk with e|⟨e,hf⟩
 ·rw[e]at hb;exact mem_cons_of_mem _ hb
 ·rw[e]at hb;unfold frs at hb;rw[List.filterMap_cons,hf]at hb;exact hb
theorem Inv.stkFree(I:Inv X pins σ H s):∀b∈frs X.stack,H b=none:=λb hb=>by
 rcases cZ (I.stkSub b hb)with e|hb
 ·rw[e];exact I.free
 ·obtain⟨_,o,ho,_⟩:=I.ok.funs.mem hb;exact I.base.free b o ho (I.ok.frf b hb) λz=>I.ok.exfs b z hb
theorem Inv.step{g':Array GenState}{t':Nat}{d':Drawn}{ch:List Addr}(I:Inv X pins σ H s)
  (hch:∀b∈ch,(b∈X.ex\/X.s₀.heap.objs.size<=b)/\b≠X.env.locals/\(∀x c,X.env.cells.lookup x=some c->c≠b)/\∀p∈X.pn++pins,p.1≠b)
  (keep:∀b o,b≠X.env.locals->b∉X.fs->b∉ch->s.heap.get? b=some o->H b=none->h'.get? b=some o)
  (slot:∀b o,b≠X.env.locals->b∈X.fs->b∉ch->s.heap.get? b=some o->H b=none->∃sl,h'.get? b=some {o with slots:=sl})(free:∀b o,b∉ch->s.heap.get? b=some o->H b=none->H' b=none)
  (there:∀b o,b∉ch->s.heap.get? b=some o->∃o',h'.get? b=some o')
  (tups:∀b xs,H b=some (.tup xs)->H' b=some (.tup xs))(frzs:∀b o u,H b=some (.frz o u)->H' b=some (.frz o u))(tbls:∀b ps,H b=some (.tbl ps)->∃more,H' b=some (.tbl (ps++more)))
  (ns:∀m,s.heap.Ns X.env.locals m->h'.Ns X.env.locals m)(hok:HOk X.prog X.w H' h')(hg:AllBare g'):
  Inv X pins σ H' {s with heap:=h',gens:=g',drawn:=d',toks:=t'}:=by
 have neL:∀b o,X.s₀.heap.get? b=some o->b≠X.env.locals:=λb o e=>ne_of_lt (lt_of_lt_of_le (lt_size e) I.ok.above);have neC:∀b o,X.s₀.heap.get? b=some o->b∉X.ex->b∉ch:=λb o e hx hb=>by
  rcases(hch b hb).1 with z|z
  ·exact hx z
  ·exact absurd (lt_of_lt_of_le (lt_size e) z) (lt_irrefl _)
 have cellK:∀x c,X.env.cells.lookup x=some c->∀v,s.heap.IsCell c v->h'.IsCell c v:=λx c e v ⟨o,ho,hd⟩=>by
  have nch:c∉ch:=λz=>(hch c z).2.2.1 x c e rfl;by_cases hc:c∈X.fs
  ·obtain⟨sl,q⟩:=slot c o (I.cne x c e) hc nch ho (I.freeC x c e);exact⟨_,q,hd⟩
  ·exact⟨o,keep c o (I.cne x c e) hc nch ho (I.freeC x c e),hd⟩
 refine⟨I.ok,I.os,hg,⟨λb o e n hb hx=> ?_,λb o e n hb hx=> ?_,λb o e n hx=> ?_,λb o e hx=> ?_,λb xs e=>tups b xs (I.base.tups b xs e),λb o xs e=>frzs b o xs (I.base.frzs b o xs e),λb ps e=> ?_⟩, ?_,λx c e=> ?_, ?_,λx c e=> ?_,λp hp=> ?_,hok,I.len⟩
 ·exact keep b o (neL b o e) hb (neC b o e hx) (I.base.keep b o e n hb hx) (I.base.free b o e n hx)
 ·obtain⟨sl,e1⟩:=I.base.slot b o e n hb hx;obtain⟨sl',e2⟩:=slot b _ (neL b o e) hb (neC b o e hx) e1 (I.base.free b o e n hx);exact⟨sl',e2⟩
 ·obtain⟨o',e1⟩:=I.base.there b o e hx;exact free b o' (neC b o e hx) e1 (I.base.free b o e n hx)
 ·obtain⟨o',e1⟩:=I.base.there b o e hx;exact there b o' (neC b o e hx) e1
 ·obtain⟨m1,e1⟩:=I.base.tbls b ps e;obtain⟨m2,e2⟩:=tbls b _ e1;exact⟨m1++m2,by rw[e2,Array.append_assoc]⟩
 ·obtain⟨m,hn,hl⟩:=I.loc;refine⟨m,ns m hn,λi x v e1 e2 e3=> ?_⟩;obtain⟨u,r,l⟩:=hl i x v e1 e2 e3;refine⟨u,r, ?_⟩;rcases l with l|⟨k,c,e,z⟩
  ·exact .inl l
  ·exact .inr ⟨k,c,e,cellK x c e _ z⟩
 ·obtain⟨v,z⟩:=I.cell x c e;exact⟨v,cellK x c e v z⟩
 ·obtain⟨m,⟨o,_,_,ho,_⟩,_⟩:=I.loc;exact free _ o (λz=>(hch _ z).2.1 rfl) ho I.free
 ·obtain⟨v,o,ho,hd⟩:=I.cell x c e;exact free c o (λz=>(hch c z).2.2.1 x c e rfl) ho (I.freeC x c e)
 ·obtain⟨e,n,ne,nf,d⟩:=I.pin p hp;have nch:p.1∉ch:=λz=>(hch p.1 z).2.2.2 p hp rfl;exact⟨keep p.1 p.2 ne nf nch e n,free p.1 p.2 nch e n,ne,nf,d⟩
theorem Inv.un{t':Nat}(I:Inv X pins σ H s)(u:Un X.fs [] H H' s.heap h')(hok:HOk X.prog X.w H' h'):Inv X pins σ H' {s with heap:=h',toks:=t'}:=by
 obtain⟨m,⟨o,es,ep,ho,r⟩,_⟩:=id I.loc;obtain⟨sl,hL⟩:=u.any ho I.free (by simp);exact I.step (g':=s.gens) (d':=s.drawn) (ch:=[]) (λ_ z=>nomatch z) (λb o _ hb _ e n=>u.keep b o e n hb (by simp)) (λb o _ hb _ e n=>u.slot b o e n hb (by simp)) (λb o _ e n=>u.free b o e n (by simp)) (λb o _ e=>u.there b o e (by simp)) u.tups u.frzs u.tbls (λm' hm=>by
  obtain⟨o',es',ep',ho',r'⟩:=hm;rw[ho]at ho';cases ho';exact⟨_,es',ep',hL,r'⟩) hok I.bare
theorem Inv.call{g':Array GenState}{t':Nat}{d':Drawn}{ch:List Addr}(I:Inv X pins σ H s)(u:Un (frs X.stack) ch H H' s.heap h')(hok:HOk X.prog X.w H' h')(hg:AllBare g')
  (hch:∀b∈ch,(b∈X.ex\/X.s₀.heap.objs.size<=b)/\b≠X.env.locals/\(∀x c,X.env.cells.lookup x=some c->c≠b)/\∀p∈X.pn++pins,p.1≠b):
  Inv X pins σ H' {s with heap:=h',gens:=g',drawn:=d',toks:=t'}:=by
 obtain⟨m,⟨o,es,ep,ho,r⟩,_⟩:=id I.loc;obtain⟨sl,hL⟩:=u.any ho I.free λz=>(hch _ z).2.1 rfl;exact I.step (ch:=ch) hch (λb o hL hb hc e n=>u.keep b o e n (λz=>(cZ (I.stkSub b z)).elim hL hb) hc) (λb o _ _ hc e n=>u.any e n hc) (λb o hc e n=>u.free b o e n hc) (λb o hc e=>u.there b o e hc) u.tups u.frzs u.tbls (λm' hm=>by
  obtain⟨o',es',ep',ho',r'⟩:=hm;rw[ho]at ho';cases ho';exact⟨_,es',ep',hL,r'⟩) hok hg
theorem Inv.turned{t':Nat}{it:Addr}(I:Inv X pins σ H s)(k:∀b o,b≠it->s.heap.get? b=some o->h'.get? b=some o)(hn:H it=none)(hL:it≠X.env.locals)
  (h1:it∈X.ex\/X.s₀.heap.objs.size<=it)(h2:∀x c,X.env.cells.lookup x=some c->c≠it)(h3:∀p∈X.pn++pins,p.1≠it):Inv X pins σ H {s with heap:=h',toks:=t'}:=by
 have nit:∀b u,H b=some u->b≠it:=λb u e z=>by rw[z,hn]at e;cases e
 refine I.step (g':=s.gens) (d':=s.drawn) (ch:=[it]) (λb hb=> ?_) (λb o _ _ hc e _=>k b o (λz=>hc (by simp[z])) e) (λb o _ _ hc e _=>⟨o.slots,k b o (λz=>hc (by simp[z])) e⟩) (λ_ _ _ _ n=>n)
  (λb o hc e=>⟨o,k b o (λz=>hc (by simp[z])) e⟩) (λ_ _ e=>e) (λ_ _ _ e=>e) (λb ps e=>⟨#[],by rw[e];simp⟩) (λm hm=> ?_) (λb u e=> ?_) I.bare
 ·have e:b=it:=by simpa using hb
  subst e;exact⟨h1,hL,h2,h3⟩
 ·obtain⟨o,es,ep,ho,r⟩:=hm;exact⟨o,es,ep,k _ o (Ne.symm hL) ho,r⟩
 ·refine(I.hok b u e).stay (λc v hc q=>k c v ?_ q) (λ_ q=>q) λ_ _ q=>q;rcases hc with z|z
  ·rw[z];exact nit b u e
  ·exact nit c _ z
theorem Inv.tok(I:Inv X pins σ H s)(t:Nat):Inv X pins σ H {s with toks:=t}:=I.un (h':=s.heap) (t':=t) Un.refl I.hok
theorem Inv.kept{t':Nat}(I:Inv X pins σ H s)(k:∀b u,s.heap.get? b=some u->h'.get? b=some u):Inv X pins σ H {s with heap:=h',toks:=t'}:=I.un (Un.kept k) (I.hok.kept k)
theorem Inv.laid{a:Addr}{o:HO}{t':Nat}(I:Inv X pins σ H s)(k:∀b u,s.heap.get? b=some u->h'.get? b=some u)(hp:s.heap.objs.size<=a)(new:ObjOk X.prog X.w (upd H a o) h' a o):
  Inv X pins σ (upd H a o) {s with heap:=h',toks:=t'}:=I.un (Un.laid k hp (I.hok.fresh hp)) (I.hok.laid k hp new)
theorem Inv.write{x e:Addr}{o:HO}{t':Nat}(I:Inv X pins σ H s)(mu:Mut (H x))(he:e=x\/H e=some (.own x))(k:∀b u,b≠e->s.heap.get? b=some u->h'.get? b=some u)(heo:∃u,h'.get? e=some u)
  (new:ObjOk X.prog X.w (upd H x o) h' x o):Inv X pins σ (upd H x o) {s with heap:=h',toks:=t'}:=I.un (Un.write mu he k heo) (I.hok.write mu he k heo new)
theorem Inv.weak{σ':List (Option V)}(I:Inv X pins σ H s)(hl:σ'.length=σ.length)(w:∀(i:Nat) v,σ'[i]? =some (some v)->σ[i]? =some (some v)):Inv X pins σ' H s:=
 ⟨I.ok,I.os,I.bare,I.base,let⟨m,hn,hl'⟩:=I.loc;⟨m,hn,λi x v e1 e2 e3=>hl' i x v e1 (w i v e2) e3⟩,I.cell,I.free,I.freeC,I.pin,I.hok,hl.trans I.len⟩
theorem Inv.pins_of{pins':List (Addr×Obj)}(I:Inv X pins σ H s)(h:∀p∈pins',s.heap.get? p.1=some p.2/\H p.1=none/\p.1≠X.env.locals/\p.1∉X.fs/\∀v,p.2.data≠ .cell v):Inv X pins' σ H s:=
 ⟨I.ok,I.os,I.bare,I.base,I.loc,I.cell,I.free,I.freeC,λp hp=>(mem_append.mp hp).elim (λz=>I.pin p (mem_append_left _ z)) (h p),I.hok,I.len⟩
theorem NW{N:List Str}(hN:N.Nodup){i j:Nat}{x:Str}(a:N[i]? =some x)(b:N[j]? =some x):i=j:=by
 obtain⟨h1,e1⟩:=List.getElem?_eq_some_iff.mp a;obtain⟨h2,e2⟩:=List.getElem?_eq_some_iff.mp b;exact(List.getElem_inj hN).mp (e1.trans e2.symm)
theorem JX{M:Model}{A:Around}{E:Value->Shared->Prop}{i:Nat}{x:Str}{v:V}{u:Value}{Q:Unit->Shared->Prop}(I:Inv X pins σ H s)(hN:X.N.Nodup)(hi:X.N[i]? =some x)(hx:Loc X.env.scope x)(r:RelV v u)
  (h:∀s',Inv X pins (σ.set i (some v)) H s'->(∃a,Heap.SameBut a s.heap s'.heap/\(a=X.env.locals\/X.env.cells.lookup x=some a))->Q () s')(hf:X.fn x=true\/X.env.scope.names.lookup x=some .local:=by first|exact .inl rfl|exact .inr rfl|assumption):wpAny M A (storeName X.env x u) Q E s:=by
 obtain⟨m,hn,hl⟩:=id I.loc;have hcls:(X.env.scope.kind==.class||(X.env.scope.kind==.module&&X.env.locals !=X.env.globals))=false:=by rw[I.ok.kind];rfl
 have hiσ:i<σ.length:=by rw[I.len];exact(List.getElem?_eq_some_iff.mp hi).1
 have cne:=I.cne;have tracked:∀ {a:Addr} {h':Heap},(∃o,s.heap.get? a=some o/\H a=none)->Heap.SameBut a s.heap h'->HOk X.prog X.w H h':=λ{a h'} ha hs b ob e=>by
  obtain⟨_,_,hfree⟩:=ha;refine(I.hok b ob e).stay (λc w' hc q=>(hs.2 c ?_).trans q) (λ_ q=>q) λ_ _ q=>q;rintro rfl;rcases hc with rfl|hc
  ·rw[hfree]at e;cases e
  ·rw[hfree]at hc;cases hc
 rcases hx with hk|hk
 ·refine wpAny_storeName_local hk hn (λh' hn' hs=> ?_) hcls;obtain⟨oL,_,_,hoL,_⟩:=id hn;refine h _ ⟨I.ok,I.os,I.bare,⟨λb o e n hb hx=> ?_,λb o e n hb hx=> ?_,I.base.free,λb o e hx=> ?_,I.base.tups,I.base.frzs,I.base.tbls⟩,⟨_,hn',λj y v' e1 e2 e3=> ?_⟩,λy c e=> ?_,I.free,I.freeC,λp hp=> ?_,tracked ⟨oL,hoL,I.free⟩ hs,by simpa using I.len⟩ ⟨_,hs,.inl rfl⟩
  ·exact(hs.2 b (ne_of_lt (lt_of_lt_of_le (lt_size e) I.ok.above))).trans (I.base.keep b o e n hb hx)
  ·obtain⟨sl,e1⟩:=I.base.slot b o e n hb hx;exact⟨sl,(hs.2 b (ne_of_lt (lt_of_lt_of_le (lt_size e) I.ok.above))).trans e1⟩
  ·obtain⟨o',e1⟩:=I.base.there b o e hx;exact⟨o',(hs.2 b (ne_of_lt (lt_of_lt_of_le (lt_size e) I.ok.above))).trans e1⟩
  ·by_cases hj:j=i
   ·subst hj;rw[hi]at e1;cases e1;rw[List.getElem?_set_self hiσ]at e2;cases e2;exact⟨u,r,.inl ⟨hk,by simp⟩⟩
   ·rw[List.getElem?_set_ne (Ne.symm hj)]at e2;obtain⟨u',r',q⟩:=hl j y v' e1 e2 e3;refine⟨u',r', ?_⟩;rcases q with⟨k,e⟩|⟨k,c,e,z⟩
    ·refine .inl ⟨k, ?_⟩;have:y≠x:=λe=>hj (NW hN e1 (e▸hi));simp[this,e]
    ·exact .inr ⟨k,c,e,z.sameBut hs (cne y c e)⟩
  ·obtain⟨w',z⟩:=I.cell y c e;exact⟨w',z.sameBut hs (cne y c e)⟩
  ·obtain⟨e,n,ne,nf,d⟩:=I.pin p hp;exact⟨(hs.2 p.1 ne).trans e,n,ne,nf,d⟩
 ·have hfn:X.fn x=true:=by
   rcases hf with z|z
   ·exact z
   ·rw[z]at hk;cases hk
  obtain⟨c,hc⟩:=I.ok.has x (.inl hk);obtain⟨w',z⟩:=I.cell x c hc;refine wpAny_storeName_cell I.ok.kind hk hc z (λh' hc' hs=> ?_);obtain⟨oc,hoc,hocd⟩:=id z;refine h {s with heap:=h'} ⟨I.ok,I.os,I.bare,⟨λb o e n hb hx=> ?_,λb o e n hb hx=> ?_,I.base.free,λb o e hx=> ?_,I.base.tups,I.base.frzs,I.base.tbls⟩,⟨m,hn.sameBut hs (Ne.symm (cne x c hc)),λj y v' e1 e2 e3=> ?_⟩,λy c' e=> ?_,I.free,I.freeC,λp hp=> ?_,tracked ⟨oc,hoc,I.freeC x c hc⟩ hs,by simpa using I.len⟩ ⟨c,hs,.inr hc⟩
  ·exact(hs.2 b (ne_of_lt (lt_of_lt_of_le (lt_size e) (I.ok.cab x c hfn hc)))).trans (I.base.keep b o e n hb hx)
  ·obtain⟨sl,e1⟩:=I.base.slot b o e n hb hx;exact⟨sl,(hs.2 b (ne_of_lt (lt_of_lt_of_le (lt_size e) (I.ok.cab x c hfn hc)))).trans e1⟩
  ·obtain⟨o',e1⟩:=I.base.there b o e hx;exact⟨o',(hs.2 b (ne_of_lt (lt_of_lt_of_le (lt_size e) (I.ok.cab x c hfn hc)))).trans e1⟩
  ·by_cases hj:j=i
   ·subst hj;rw[hi]at e1;cases e1;rw[List.getElem?_set_self hiσ]at e2;cases e2;exact⟨u,r,.inr ⟨.inl hk,c,hc,hc'⟩⟩
   ·rw[List.getElem?_set_ne (Ne.symm hj)]at e2;obtain⟨u',r',q⟩:=hl j y v' e1 e2 e3;refine⟨u',r', ?_⟩;rcases q with q|⟨k,c',e,z'⟩
    ·exact .inl q
    ·refine .inr ⟨k,c',e,z'.sameBut hs ?_⟩;rintro rfl;exact hj (NW hN e1 (I.ok.inj _ _ _ e hc▸hi))
  ·by_cases hcc:c'=c
   ·subst hcc;exact⟨_,hc'⟩
   ·obtain⟨w2,z2⟩:=I.cell y c' e;exact⟨w2,z2.sameBut hs hcc⟩
  ·obtain⟨e,n,ne,nf,d⟩:=I.pin p hp;refine⟨(hs.2 p.1 ?_).trans e,n,ne,nf,d⟩;intro q;rw[q,hoc]at e;have q':oc=p.2:=Option.some.inj e;exact d w' (by rw[<-q'];exact hocd)
theorem JG{M:Model}{A:Around}{E:Value->Shared->Prop}{i:Nat}{x:Str}{v:V}{u:Value}{Q:Unit->Shared->Prop}(I:Inv X pins σ H s)(hN:X.N.Nodup)(hi:X.N[i]? =some x)(hx:Loc X.env.scope x)(r:RelV v u)
  (h:∀s',Inv X pins (σ.set i (some v)) H s'->Q () s')(hf:X.fn x=true\/X.env.scope.names.lookup x=some .local:=by first|exact .inl rfl|exact .inr rfl|assumption):wpAny M A (storeName X.env x u) Q E s:=
 JX I hN hi hx r (λs' I' _=>h s' I') hf
theorem Inv.call'{s':Shared}{ch:List Addr}(I:Inv X pins σ H s)(ho:s'.os=s.os)(u:Un (frs X.stack) ch H H' s.heap s'.heap)(hok:HOk X.prog X.w H' s'.heap)(hg:AllBare s'.gens)
  (hch:∀b∈ch,(b∈X.ex\/X.s₀.heap.objs.size<=b)/\b≠X.env.locals/\(∀x c,X.env.cells.lookup x=some c->c≠b)/\∀p∈X.pn++pins,p.1≠b):Inv X pins σ H' s':=by
 obtain⟨h',g',d',t',o'⟩:=s';have e:o'=s.os:=ho;subst e;exact I.call (g':=g') (t':=t') (d':=d') u hok hg hch
end
noncomputable abbrev XK:=Value->Option Addr->Hp->Prop
noncomputable abbrev St:=List (Option V)
noncomputable abbrev VK:=V->Hp->Prop
noncomputable abbrev TE:=St->Hp->VK->Prop
noncomputable abbrev TT:=St->Hp->(Bool->Hp->Prop)->Prop
noncomputable abbrev TA:=St->Hp->(List V->Hp->Prop)->Prop
structure Ends where
 nx:St->Hp->Prop
 rt:VK
 bk:St->Hp->Prop:=λ_ _=>False
 ct:St->Hp->Prop:=λ_ _=>False
noncomputable abbrev TS:=Ends->St->Hp->Prop
noncomputable def EP(X:Cx)(pins:List (Addr×Obj))(σ:St)(Q:VK)(u:Value)(s':Shared):Prop:=∃v H',Inv X pins σ H' s'/\RelV v u/\Q v H'
noncomputable def TP(X:Cx)(pins:List (Addr×Obj))(σ:St)(Q:Bool->Hp->Prop)(b:Bool)(s':Shared):Prop:=∃H',Inv X pins σ H' s'/\Q b H'
noncomputable def AP(X:Cx)(pins:List (Addr×Obj))(σ:St)(Q:List V->Hp->Prop)(us:List Value)(s':Shared):Prop:=∃vs H',Inv X pins σ H' s'/\Vals vs us/\Q vs H'
noncomputable def SP(X:Cx)(pins:List (Addr×Obj))(D:Ends)(f:Flow)(s':Shared):Prop:=
 match f with
 | .next=>∃σ' H',Inv X pins σ' H' s'/\D.nx σ' H'
 | .brk=>∃σ' H',Inv X pins σ' H' s'/\D.bk σ' H'
 | .cont=>∃σ' H',Inv X pins σ' H' s'/\D.ct σ' H'
 | .ret u=>∃v σ' H',Inv X pins σ' H' s'/\RelV v u/\D.rt v H'
noncomputable def PE(X:Cx)(e:Expr)(t:TE):Prop:=
 ∀(pins:List (Addr×Obj)) (s:Shared) (σ:St) (H:Hp) (Q:VK),Inv X pins σ H s->t σ H Q->wpAny (model X.prog X.w) X.A (eval e X.env) (EP X pins σ Q) X.xe s
noncomputable def PT(X:Cx)(e:Expr)(t:TT):Prop:=
 ∀(pins:List (Addr×Obj)) (s:Shared) (σ:St) (H:Hp) (Q:Bool->Hp->Prop),Inv X pins σ H s->t σ H Q->wpAny (model X.prog X.w) X.A (isTrue e X.env (eval e X.env)) (TP X pins σ Q) X.xe s
noncomputable def PW(X:Cx)(e:Expr)(t:TT):Prop:=
 ∀(whole:Sem Value) (pins:List (Addr×Obj)) (s:Shared) (σ:St) (H:Hp) (Q:Bool->Hp->Prop),Inv X pins σ H s->t σ H Q->wpAny (model X.prog X.w) X.A (isTrue e X.env whole) (TP X pins σ Q) X.xe s
theorem PW.pt{X:Cx}{e:Expr}{t:TT}(h:PW X e t):PT X e t:=h _
noncomputable def PA(X:Cx)(es:List Expr)(t:TA):Prop:=
 ∀(pos:Pos) (pins:List (Addr×Obj)) (s:Shared) (σ:St) (H:Hp) (Q:List V->Hp->Prop),Inv X pins σ H s->t σ H Q->wpAny (model X.prog X.w) X.A (spliced (backTo pos (starEach es X.env))) (AP X pins σ Q) X.xe s
noncomputable def PS(X:Cx)(st:Stmt)(t:TS):Prop:=
 ∀(pins:List (Addr×Obj)) (s:Shared) (σ:St) (H:Hp) (D:Ends),Inv X pins σ H s->t D σ H->wpAny (model X.prog X.w) X.A (exec st X.env) (SP X pins D) X.xe s
noncomputable def PSs(X:Cx)(st:List Stmt)(t:TS):Prop:=
 ∀(pins:List (Addr×Obj)) (s:Shared) (σ:St) (H:Hp) (D:Ends),Inv X pins σ H s->t D σ H->wpAny (model X.prog X.w) X.A (execs st X.env) (SP X pins D) X.xe s
theorem thn{α:Type}{t:Sem α}{Q Q':α->Shared->Prop}{M:Model}{A:Around}{E:Value->Shared->Prop}{s:Shared}(h:wpAny M A t Q E s)(hQ:∀a s,Q a s->Q' a s):wpAny M A t Q' E s:=wpAny_mono h hQ λ_ _ x=>x
section
variable{X:Cx}
inductive tVar(i:Nat)(σ:St)(H:Hp)(Q:VK):Prop
 |mk:∀v,(σ[i]? =some (some v))->(Q v H)->tVar i σ H Q
noncomputable def tC(v:V):TE:=λ_ H Q=>Q v H
theorem bMZ{i:Nat}{x:Str}{pos:Pos}(hN:X.N[i]? =some x)(hv:Vis X.env.scope x)(hd:(x==("__debug__":Str))=false:=by decide)(hcd:(x==("__classdict__":Str))=false:=by decide):PE X (.Name x pos) (tVar i):=by
 intro pins s σ H Q I h;obtain⟨v,e,h⟩:=h;obtain⟨m,hn,hl⟩:=I.loc;obtain⟨u,r,l⟩:=hl i x v hN e hv;have fin:EP X pins σ Q u s:=⟨v,H,I,r,h⟩;rcases l with⟨hk,hm⟩|⟨hk,c,hc,hcell⟩
 ·exact wpAny_Name (wpAny_loadName_local I.ok.kind hk hn hm fin) hd
 ·rcases hk with hk|hk
  ·exact wpAny_Name (wpAny_loadName_cell I.ok.kind hk hc hcell fin) hd
  ·exact wpAny_Name (wpAny_loadName_free I.ok.kind hk hc hcell fin hcd) hd
theorem A3{i j pos}:PE X (.Constant (.int i) j pos) (tC (.int i)):=λ_ _ _ H _ I h=>wpAny_Constant_int ⟨.int i,H,I.tok _,⟨_,rfl⟩,h⟩
theorem VY{b j pos}:PE X (.Constant (.bool b) j pos) (tC (.bl b)):=λ_ _ _ H _ I h=>Constant_bool ⟨.bl b,H,I,rfl,h⟩
theorem WE{j pos}:PE X (.Constant .none j pos) (tC .non):=λ_ _ _ H _ I h=>Constant_none ⟨.non,H,I,rfl,h⟩
theorem A7{x j pos}:PE X (.Constant (.str x) j pos) (tC (.str x)):=λ_ _ _ H _ I h=>Calls.Constant_str ⟨.str x,H,I.tok _,⟨_,rfl⟩,h⟩
noncomputable def Gl(X:Cx)(x:Str):Prop:=X.env.kindOf x=some .globalImplicit
theorem SA{E:Value->Shared->Prop}{pins:List (Addr×Obj)}{s:Shared}{σ:St}{H:Hp}{x:Str}{u:Value}{pos:Pos}{Q:Value->Shared->Prop}(I:Inv X pins σ H s)(hg:Gl X x)(hm:X.mg x=some u)(h:Q u s)
  (hd:(x==("__debug__":Str))=false:=by decide):wpAny (model X.prog X.w) X.A (eval (.Name x pos) X.env) Q E s:=
 Calls.Name_function_global I.ok.kind hg (Calls.loadGlobal_global (by rw[I.ok.glob];exact I.mod.glob.keeps I.bk) hm h) hd
theorem T5{E:Value->Shared->Prop}{pins:List (Addr×Obj)}{s:Shared}{σ:St}{H:Hp}{x:Str}{u:Value}{pos:Pos}{Q:Value->Shared->Prop}(I:Inv X pins σ H s)(hg:Gl X x)(hm:X.mg x=none)(hv:bootBuiltins x=some u)(h:Q u s)
  (hn:x≠ "__name__":=by decide)(hd:(x==("__debug__":Str))=false:=by decide):wpAny (model X.prog X.w) X.A (eval (.Name x pos) X.env) Q E s:=by
 obtain⟨mb,h1,h2⟩:=I.mod.blt;exact Calls.Name_function_global I.ok.kind hg (Calls.loadGlobal_builtin (by rw[I.ok.glob];exact I.mod.glob.keeps I.bk) hm (by rw[I.ok.blt];exact h1.keeps I.bk) ((h2 x hn).trans hv) h) hd
theorem BL{x:Str}{v:V}{u:Value}{pos:Pos}(hg:Gl X x)(hm:X.mg x=some u)(r:RelV v u)(hd:(x==("__debug__":Str))=false:=by decide):PE X (.Name x pos) (tC v):=
 λ_ _ _ H _ I h=>SA I hg hm ⟨v,H,I,r,h⟩ hd
theorem BF{x:Str}{v:V}{u:Value}{pos:Pos}(hg:Gl X x)(hm:X.mg x=none)(hv:bootBuiltins x=some u)(r:RelV v u)(hn:x≠ "__name__":=by decide)(hd:(x==("__debug__":Str))=false:=by decide):PE X (.Name x pos) (tC v):=
 λ_ _ _ H _ I h=>T5 I hg hm hv ⟨v,H,I,r,h⟩ hn hd
variable{a b:Expr}{ta tb:TE}{pos:Pos}
variable{tA tB':TT}{rest:List Expr}
noncomputable def doZ(t u:TT):TT:=fun σ H Q=>t σ H λc H1=>if c=true then u σ H1 Q else Q false H1
noncomputable def tOr(t u:TT):TT:=fun σ H Q=>t σ H λc H1=>if c=true then Q true H1 else u σ H1 Q
noncomputable def djZ(t:TT):TT:=fun σ H Q=>t σ H λc H1=>Q (!c) H1
theorem N8(ha:PT X a tA):PW X (.BoolOp .And [a] pos) tA:=by
 intro wh pins s σ H Q I h;refine isTrue_and (thn (ha pins s σ H Q I h) λc s1 e=> ?_);cases c with
 |true=>exact isTrue_and_nil e
 |false=>exact e
theorem CG(ha:PT X a tA):PW X (.BoolOp .Or [a] pos) tA:=by
 intro wh pins s σ H Q I h;refine isTrue_or (thn (ha pins s σ H Q I h) λc s1 e=> ?_);cases c with
 |false=>exact isTrue_or_nil e
 |true=>exact e
theorem P0(ha:PT X a tA)(hb:PW X (.BoolOp .And (b::rest) pos) tB'):PW X (.BoolOp .And (a::b::rest) pos) (doZ tA tB'):=by
 intro wh pins s σ H Q I h;refine isTrue_and (thn (ha pins s σ H _ I h) λc s1 ⟨H1,I1,q1⟩=> ?_);cases c with
 |true=>exact hb wh pins s1 σ H1 Q I1 q1
 |false=>exact⟨H1,I1,q1⟩
theorem BX(ha:PT X a tA)(hb:PW X (.BoolOp .Or (b::rest) pos) tB'):PW X (.BoolOp .Or (a::b::rest) pos) (tOr tA tB'):=by
 intro wh pins s σ H Q I h;refine isTrue_or (thn (ha pins s σ H _ I h) λc s1 ⟨H1,I1,q1⟩=> ?_);cases c with
 |true=>exact⟨H1,I1,q1⟩
 |false=>exact hb wh pins s1 σ H1 Q I1 q1
theorem YC(ha:PT X a tA):PT X (.UnaryOp .Not a pos) (djZ tA):=by
 intro pins s σ H Q I h;exact isTrue_not (ha pins s σ H (λc H1=>Q (!c) H1) I h)
noncomputable def cFZ(ta tb:TE):TE:=fun σ H Q=>ta σ H λx H1=>∃c,x=.bl c/\if c=true then tb σ H1 Q else Q (.bl false) H1
noncomputable def dgZ(ta tb:TE):TE:=fun σ H Q=>ta σ H λx H1=>∃c,x=.bl c/\if c=true then Q (.bl true) H1 else tb σ H1 Q
noncomputable def cNZ(ta:TE):TE:=fun σ H Q=>ta σ H λx H1=>∃c,x=.bl c/\Q (.bl (!c)) H1
theorem OR{op}{t:TE}(h:PE X a t):PE X (.BoolOp op [a] pos) t:=λpins s σ H Q I hw=>BoolOp_one (h pins s σ H Q I hw)
theorem bAZ(ha:PE X a ta)(hb:PE X (.BoolOp .And (b::rest) pos) tb):PE X (.BoolOp .And (a::b::rest) pos) (cFZ ta tb):=by
 intro pins s σ H Q I h;refine BoolOp_and (thn (ha pins s σ H _ I h) λv s1 ⟨x,H1,I1,r1,q1⟩=> ?_);obtain⟨c,rfl,q1⟩:=q1;cases r1;refine wpAny_truthy_bool ?_;cases c with
 |true=>exact hb pins s1 σ H1 Q I1 q1
 |false=>exact⟨.bl false,H1,I1,rfl,q1⟩
theorem aKZ(ha:PE X a ta)(hb:PE X (.BoolOp .Or (b::rest) pos) tb):PE X (.BoolOp .Or (a::b::rest) pos) (dgZ ta tb):=by
 intro pins s σ H Q I h;refine BoolOp_or (thn (ha pins s σ H _ I h) λv s1 ⟨x,H1,I1,r1,q1⟩=> ?_);obtain⟨c,rfl,q1⟩:=q1;cases r1;refine wpAny_truthy_bool ?_;cases c with
 |false=>exact hb pins s1 σ H1 Q I1 q1
 |true=>exact⟨.bl true,H1,I1,rfl,q1⟩
theorem QO(ha:PE X a ta):PE X (.UnaryOp .Not a pos) (cNZ ta):=by
 intro pins s σ H Q I h;refine UnaryOp_ (thn (ha pins s σ H _ I h) λv s1 ⟨x,H1,I1,r1,q1⟩=> ?_);obtain⟨c,rfl,q1⟩:=q1;cases r1;exact not_of (wpAny_truthy_bool ⟨.bl (!c),H1,I1,rfl,q1⟩)
noncomputable def tIf(t:TT)(ta tb:TE):TE:=fun σ H Q=>t σ H λc H1=>if c=true then ta σ H1 Q else tb σ H1 Q
theorem EY{c:Expr}(hc:PT X c tA)(ha:PE X a ta)(hb:PE X b tb):PE X (.IfExp c a b pos) (tIf tA ta tb):=by
 intro pins s σ H Q I h;refine wpAny_IfExp (thn (hc pins s σ H _ I h) λd s1 ⟨H1,I1,q1⟩=> ?_);cases d with
 |true=>exact ha pins s1 σ H1 Q I1 q1
 |false=>exact hb pins s1 σ H1 Q I1 q1
end
noncomputable def SqL(K:FZ)(H:Hp)(a:Addr)(xs:List V):Prop:=
 Rd H a (.lst xs)\/
  ∃(o:Obj) (its:Array Value) (n:Nat),K.lookup a=some o/\o.cls=.type "list"/\o.dict=none/\o.data=.seq its n/\its.size<=sizeLine/\Vals xs its.toList
noncomputable def SqT(K:FZ)(H:Hp)(a:Addr)(xs:List V):Prop:=
 Rd H a (.tup xs)\/
  ∃(o:Obj) (its:Array Value) (n:Nat),K.lookup a=some o/\o.cls=.type "tuple"/\o.data=.seq its n/\its.size<=sizeLine/\Vals xs its.toList
noncomputable def dmZ:Value->Option V
 | .none=>some .non
 | .bool b=>some (.bl b)
 | .int i _=>some (.int i)
 | .str x _=>some (.str x)
 | .bytes b _=>some (.byt b)
 | .float b _=>some (.flt b)
 | .ref a=>some (.ref a)
 | .type n=>some (.ty n)
 |_=>none
theorem RelV.abs{x:V}{u:Value}(r:RelV x u):dmZ u=some x:=by
 cases x with
 |non=>cases r;rfl
 |bl _=>cases r;rfl
 |int _=>obtain⟨t,rfl⟩:=r;rfl
 |str _=>obtain⟨t,rfl⟩:=r;rfl
 |byt _=>obtain⟨t,rfl⟩:=r;rfl
 |flt _=>obtain⟨t,rfl⟩:=r;rfl
 |ref _=>cases r;rfl
 |ty _=>cases r;rfl
theorem RelV.inj{x y:V}{u:Value}(r:RelV x u)(q:RelV y u):x=y:=Option.some.inj (r.abs.symm.trans q.abs)
theorem Vals.inj:∀ {xs ys:List V} {us:List Value},Vals xs us->Vals ys us->xs=ys
 |_,_,_,.nil,.nil=>rfl
 |_,_,_,.cons r t,.cons r' t'=>by rw[r.inj r',Vals.inj t t']
section
variable{X:Cx}{pins:List (Addr×Obj)}{σ:St}{H:Hp}{s:Shared}{a:Addr}{xs ys:List V}
theorem SqL.of{K:FZ}(h:H a=some (.lst xs)):SqL K H a xs:=.inl (.inl h)
theorem SqT.of{K:FZ}(h:H a=some (.tup xs)):SqT K H a xs:=.inl (.inl h)
theorem Inv.list(I:Inv X pins σ H s)(h:SqL X.K H a xs):∃its:List Value,Vals xs its/\PlainL s.heap a its.toArray/\xs.length<=sizeLine:=by
 rcases h with h|⟨o,its,n,hk,hc,hd,hs,hz,r⟩
 ·obtain⟨z,its,n,r,e⟩:=h.ok I.hok;exact⟨its,r,⟨_,n,e,rfl,rfl,rfl⟩,z⟩
 ·refine⟨its.toList,r,⟨o,n,I.kIn a o hk,hc,hd,by simpa using hs⟩, ?_⟩;have e:=r.length;simp only[Array.length_toList]at e;omega
theorem Inv.tuple(I:Inv X pins σ H s)(h:SqT X.K H a xs):∃its:List Value,Vals xs its/\IsTup s.heap a its.toArray/\xs.length<=sizeLine:=by
 rcases h with h|⟨o,its,n,hk,hc,hs,hz,r⟩
 ·obtain⟨z,its,r,p⟩:=h.ok I.hok;exact⟨its,r,p,z⟩
 ·refine⟨its.toList,r,⟨o,I.kIn a o hk,hc,n,by simpa using hs⟩, ?_⟩;have e:=r.length;simp only[Array.length_toList]at e;omega
theorem Inv.list_inj(I:Inv X pins σ H s)(h:SqL X.K H a xs)(h':SqL X.K H a ys):xs=ys:=by
 obtain⟨its,r,⟨o,n,e,_,_,d⟩,_⟩:=I.list h;obtain⟨its',r',⟨o',n',e',_,_,d'⟩,_⟩:=I.list h';rw[e]at e';cases e';rw[d]at d';injection d' with d1 _
 have:its=its':=by simpa using congrArg Array.toList d1
 subst this;exact r.inj r'
theorem Inv.tuple_inj(I:Inv X pins σ H s)(h:SqT X.K H a xs)(h':SqT X.K H a ys):xs=ys:=by
 obtain⟨its,r,⟨o,e,_,n,d⟩,_⟩:=I.tuple h;obtain⟨its',r',⟨o',e',_,n',d'⟩,_⟩:=I.tuple h';rw[e]at e';cases e';rw[d]at d';injection d' with d1 _
 have:its=its':=by simpa using congrArg Array.toList d1
 subst this;exact r.inj r'
end
noncomputable abbrev Cx.wish(X:Cx)(E:Value->Shared->Prop):Cx:={X with xe:=E}
noncomputable abbrev Cx.nox(X:Cx):Cx:=X.wish λ_ _=>False
theorem Cx.Ok.wish{X:Cx}(ok:X.Ok)(E:Value->Shared->Prop):(X.wish E).Ok:=
 ⟨ok.mod,ok.kind,ok.glob,ok.blt,ok.above,ok.inj,ok.has,ok.cab,ok.hd,ok.frames,ok.stk,ok.exf,ok.bs,ok.bsz,ok.noex,ok.exfs,ok.funs,ok.frf⟩
theorem Cx.Ok.unwish{X:Cx}{E:Value->Shared->Prop}(ok:(X.wish E).Ok):X.Ok:=
 ⟨ok.mod,ok.kind,ok.glob,ok.blt,ok.above,ok.inj,ok.has,ok.cab,ok.hd,ok.frames,ok.stk,ok.exf,ok.bs,ok.bsz,ok.noex,ok.exfs,ok.funs,ok.frf⟩
section
variable{X:Cx}{pins:List (Addr×Obj)}{σ:St}{H:Hp}{s:Shared}{E:Value->Shared->Prop}
theorem Inv.wish(I:Inv X pins σ H s)(E:Value->Shared->Prop):Inv (X.wish E) pins σ H s:=⟨I.ok.wish E,I.os,I.bare,I.base,I.loc,I.cell,I.free,I.freeC,I.pin,I.hok,I.len⟩
theorem Inv.unwish(I:Inv (X.wish E) pins σ H s):Inv X pins σ H s:=⟨I.ok.unwish,I.os,I.bare,I.base,I.loc,I.cell,I.free,I.freeC,I.pin,I.hok,I.len⟩
theorem SP.unwish{D:Ends}{f:Flow}{s':Shared}(h:SP (X.wish E) pins D f s'):SP X pins D f s':=by
 cases f with
 |next=>obtain⟨σ',H',I,q⟩:=h;exact⟨σ',H',I.unwish,q⟩
 |brk=>obtain⟨σ',H',I,q⟩:=h;exact⟨σ',H',I.unwish,q⟩
 |cont=>obtain⟨σ',H',I,q⟩:=h;exact⟨σ',H',I.unwish,q⟩
 |ret u=>obtain⟨v,σ',H',I,r,q⟩:=h;exact⟨v,σ',H',I.unwish,r,q⟩
theorem PSs.nox{st:List Stmt}{t:TS}(h:PSs X.nox st t):PSs X st t:=λpins s σ H D I hw=>
 wpAny_mono (h pins s σ H D (I.wish _) hw) (λ_ _ q=>q.unwish) λ_ _ z=>False.elim z
variable{st:Stmt}{rest:List Stmt}{t u:TS}{e:Expr}{te:TE}{pos:Pos}
noncomputable def cLZ:TS:=λD σ H=>D.nx σ H
noncomputable def P9(t u:TS):TS:=λD σ H=>t {D with nx:=u D} σ H
theorem B6:PSs X [] cLZ:=λ_ _ σ H _ I h=>wpAny_execs_nil ⟨σ,H,I,h⟩
theorem A6(h1:PS X st t)(h2:PSs X rest u):PSs X (st::rest) (P9 t u):=by
 intro pins s σ H D I h;refine wpAny_execs_cons (thn (h1 pins s σ H {D with nx:=u D} I h) λf s1 q=> ?_);cases f with
 |next=>
  obtain⟨σ',H',I',q⟩:=q;exact h2 pins s1 σ' H' D I' q
 |ret v=>exact q
 |brk=>exact q
 |cont=>exact q
theorem A8(h1:PS X st t):PSs X [st] t:=by
 intro pins s σ H D I h;refine wpAny_execs_cons (thn (h1 pins s σ H D I h) λf s1 q=> ?_);cases f with
 |next=>exact wpAny_execs_nil q
 |ret v=>exact q
 |brk=>exact q
 |cont=>exact q
theorem Inv.quiet{pins:List (Addr×Obj)}{σ:St}{H:Hp}{s:Shared}(I:Inv X pins σ H s):interactive X.env=false:=by simp[interactive,I.ok.kind]
noncomputable def cXZ(te:TE):TS:=λD σ H=>te σ H λ_ H1=>D.nx σ H1
theorem X1(he:PE X e te)(hs:swapsWith e none pos.line X.env=pure false:=by rfl):PS X (.Expr e pos) (cXZ te):=by
 intro pins s σ H D I h;exact wpAny_Expr_any (thn (he pins s σ H _ I h) λv s1 ⟨x,H1,I1,r1,q1⟩=>⟨σ,H1,I1,q1⟩) I.quiet hs
noncomputable def cIZ(te:TE):TS:=λD σ H=>te σ H D.rt
theorem B5(he:PE X e te):PS X (.Return (some e) pos) (cIZ te):=by
 intro pins s σ H D I h;exact wpAny_Return_some (thn (he pins s σ H _ I h) λv s1 ⟨x,H1,I1,r1,q1⟩=>⟨x,σ,H1,I1,r1,q1⟩)
noncomputable def deZ(c:TT)(t u:TS):TS:=λD σ H=>c σ H λb H1=>if b=true then t D σ H1 else u D σ H1
theorem B8{c:Expr}{a b:List Stmt}{tc:TT}(hc:PT X c tc)(ha:PSs X a t)(hb:PSs X b u):PS X (.If c a b pos) (deZ tc t u):=by
 intro pins s σ H D I h;refine wpAny_If (thn (hc pins s σ H _ I h) λd s1 ⟨H1,I1,q1⟩=> ?_);cases d with
 |true=>exact ha pins s1 σ H1 D I1 q1
 |false=>exact hb pins s1 σ H1 D I1 q1
end
noncomputable abbrev TG:=V->St->Hp->(St->Hp->Prop)->Prop
noncomputable abbrev TGs:=List V->St->Hp->(St->Hp->Prop)->Prop
noncomputable def PG(X:Cx)(target:Expr)(t:TG):Prop:=
 ∀(pins:List (Addr×Obj)) (s:Shared) (σ:St) (H:Hp) (v:V) (u:Value) (Q:St->Hp->Prop),Inv X pins σ H s->RelV v u->t v σ H Q->
  wpAny (model X.prog X.w) X.A (assign target X.env u) (λ_ s'=>∃σ' H',Inv X pins σ' H' s'/\Q σ' H') X.xe s
noncomputable def PGs(X:Cx)(ts:List Expr)(t:TGs):Prop:=
 ∀(pins:List (Addr×Obj)) (s:Shared) (σ:St) (H:Hp) (vs:List V) (us:List Value) (Q:St->Hp->Prop),Inv X pins σ H s->Vals vs us->t vs σ H Q->
  wpAny (model X.prog X.w) X.A (assignInOrder ((assignEach ts X.env).map (·.2)) us) (λ_ s'=>∃σ' H',Inv X pins σ' H' s'/\Q σ' H') X.xe s
noncomputable abbrev bRZ:=V->V->V->Hp->(Hp->Prop)->Prop
noncomputable def ceZ(X:Cx)(t:bRZ):Prop:=
 ∀(pins:List (Addr×Obj)) (s:Shared) (σ:St) (H:Hp) (o i v:V) (ov iv u:Value) (Q:Hp->Prop),Inv X pins σ H s->RelV o ov->RelV i iv->RelV v u->t o i v H Q->
  wpAny (model X.prog X.w) X.A (setItem ov iv u) (λ_ s'=>∃H',Inv X pins σ H' s'/\Q H') X.xe s
section
variable{X:Cx}{pos:Pos}
noncomputable def GP(i:Nat):TG:=λv σ H Q=>Q (σ.set i (some v)) H
theorem LU{i:Nat}{x:Str}(hN:X.N.Nodup)(hi:X.N[i]? =some x)(hx:Loc X.env.scope x)(hf:X.fn x=true\/X.env.scope.names.lookup x=some .local:=by first|exact .inl rfl|exact .inr rfl|assumption):PG X (.Name x pos) (GP i):=by
 intro pins s σ H v u Q I r h;exact wpAny_assign_Name (JG I hN hi hx r (λs' I'=>⟨_,H,I',h⟩) hf)
noncomputable def czZ:TGs:=λvs σ H Q=>vs=[]/\Q σ H
noncomputable def WU(t:TG)(u:TGs):TGs:=λvs σ H Q=>∃v r,vs=v::r/\t v σ H fun σ' H'=>u r σ' H' Q
theorem RB:PGs X [] czZ:=by
 intro pins s σ H vs us Q I r h;obtain⟨e,h⟩:=h;subst e;cases r;exact assignInOrder_nil ⟨σ,H,I,h⟩
theorem EW{e:Expr}{es:List Expr}{t:TG}{u:TGs}(h1:PG X e t)(h2:PGs X es u)
  (hs:(assignEach (e::es) X.env).map (·.2)=assign e X.env::(assignEach es X.env).map (·.2):=by rfl):PGs X (e::es) (WU t u):=by
 intro pins s σ H vs us Q I r h;obtain⟨v,vr,e1,h⟩:=h;subst e1;cases r with
 |cons r rr=>
  rw[hs];refine assignInOrder_cons (thn (h1 pins s σ H _ _ _ I r h) λ_ s1 ⟨σ1,H1,I1,q1⟩=> ?_);exact h2 pins s1 σ1 H1 _ _ Q I1 rr q1
noncomputable def cMZ(K:FZ)(n:Nat)(t:TGs):TG:=λv σ H Q=>∃a xs,v=.ref a/\SqT K H a xs/\xs.length=n/\t xs σ H Q
theorem WA{es:List Expr}{k:Nat}{t:TGs}{n:Nat}(hc:X.calm=true)(h:PGs X es t)
  (hn:(assignEach es X.env).length=n:=by rfl)(hst:(assignEach es X.env).findIdx? (·.1)=none:=by rfl):PG X (.Tuple es k pos) (cMZ X.K n t):=by
 intro pins s σ H v u Q I r hw;obtain⟨a,xs,e1,hq,hl,hw⟩:=hw;subst e1;cases r;obtain⟨its,rv,ht,hz⟩:=I.tuple hq;refine assign_Tuple_tuple (I.ok.hd hc) ht (by simp[hn,<-hl,rv.length]) hst λh' hx=> ?_;have I1:Inv X pins σ H {s with heap:=h'}:=I.kept (t':=s.toks) λb o e=>hx b o (ne_of_lt (lt_size e)) e;exact h pins _ σ H xs _ Q I1 (by simpa using rv) hw
noncomputable def drZ(to ti:TE)(t:bRZ):TG:=λv σ H Q=>to σ H λo H1=>ti σ H1 λi H2=>t o i v H2 λH3=>Q σ H3
theorem BZ{o i:Expr}{to ti:TE}{t:bRZ}(ho:PE X o to)(hi:PE X i ti)(hs:ceZ X t)
  (ha:∀v,assign (.Subscript o i pos) X.env v=(do
   let ov<-holding [v] (eval o X.env);let iv<-holding [v,ov] (eval i X.env)
   standAt pos
   holding [v,ov,iv] (setItem ov iv v)
   release [v,ov,iv] []):=by intro _;rfl):PG X (.Subscript o i pos) (drZ to ti t):=by
 intro pins s σ H v u Q I r h;rw[ha];refine bZ (wpAny_holding (thn (ho pins s σ H _ I h) λov s1 ⟨x,H1,I1,r1,q1⟩=> ?_));refine bZ (wpAny_holding (thn (hi pins s1 σ H1 _ I1 q1) λiv s2 ⟨y,H2,I2,r2,q2⟩=> ?_));refine bZ (wpAny_standAt (bZ (wpAny_holding (thn (hs pins s2 σ H2 x y v ov iv u _ I2 r1 r2 r q2) λ_ s3 ⟨H3,I3,q3⟩=> ?_))));exact wpAny_release ⟨σ,H3,I3,q3⟩
noncomputable def YI(te:TE)(g:TG):TS:=λD σ H=>te σ H λx H1=>g x σ H1 D.nx
theorem CU{tg e:Expr}{te:TE}{g:TG}(he:PE X e te)(hg:PG X tg g)(hs:swapsWithSole [tg] e pos.line X.env=pure false:=by rfl)(hw:swappedStores [tg] e X.env=pure none:=by rfl)
  (h1:(assignEach [tg] X.env).map (·.2)=[assign tg X.env]:=by rfl):PS X (.Assign [tg] e pos) (YI te g):=by
 intro pins s σ H D I h;refine wpAny_Assign_stores (thn (he pins s σ H _ I h) λv s1 ⟨x,H1,I1,r1,q1⟩=> ?_) hs hw;rw[h1];exact thn (hg pins s1 σ H1 x v _ I1 r1 q1) λ_ s2 q=>q
theorem CO{i:Nat}{x:Str}{e:Expr}{te:TE}{pos':Pos}(hN:X.N.Nodup)(hi:X.N[i]? =some x)(hx:Loc X.env.scope x)(he:PE X e te)(hs:swapsWith e (some (.Name x pos')) pos.line X.env=pure false:=by rfl)(hf:X.fn x=true\/X.env.scope.names.lookup x=some .local:=by first|exact .inl rfl|exact .inr rfl|assumption):
  PS X (.Assign [.Name x pos'] e pos) (YI te (GP i)):=by
 intro pins s σ H D I h;refine wpAny_Assign_Name (thn (he pins s σ H _ I h) λv s1 ⟨y,H1,I1,r1,q1⟩=> ?_) hs;exact JG I1 hN hi hx r1 (λs2 I2=>⟨_,H1,I2,q1⟩) hf
noncomputable def b7Z(c:TT)(tb:TS):TS:=λD σ H=>∃W:Nat->St->Hp->Prop,(∃m,W m σ H)/\∀m σ H,W m σ H->
 c σ H λb H1=>if b=true then∃N:St->Hp->Prop,(∀σ' H',N σ' H'->∃m',m'<m/\W m' σ' H')/\tb {D with nx:=N,ct:=N,bk:=D.nx} σ H1 else D.nx σ H1
theorem MY{c:Expr}{body:List Stmt}{tc:TT}{tb:TS}(hp:PassesOwn (model X.prog X.w) X.A X.env X.xe)(hc:PT X c tc)(hb:PSs X body tb):PS X (.While c body [] pos) (b7Z tc tb):=by
 intro pins s σ H D I h;obtain⟨W,⟨m0,w0⟩,turn⟩:=h;refine wpAny_While (codeAny_whileLoop (λn s'=>∃σ' H',Inv X pins σ' H' s'/\W n σ' H') ?_ m0 ⟨σ,H,I,w0⟩);rintro n s1 ⟨σ1,H1,I1,w1⟩;refine wpAny_passesOwn hp (thn (hc pins s1 σ1 H1 _ I1 (turn n σ1 H1 w1)) λb s2 ⟨H2,I2,q2⟩=> ?_);cases b with
 |true=>
  obtain⟨N,hN,q2⟩:=q2;rw[if_pos rfl];refine wpAny_passesOwn hp (thn (hb pins s2 σ1 H2 _ I2 q2) λf s3 q3=> ?_);cases f with
  |next=>
   obtain⟨σ3,H3,I3,n3⟩:=q3;obtain⟨m',hm,w3⟩:=hN σ3 H3 n3;exact⟨m',hm,σ3,H3,I3,w3⟩
  |cont=>
   obtain⟨σ3,H3,I3,n3⟩:=q3;obtain⟨m',hm,w3⟩:=hN σ3 H3 n3;exact⟨m',hm,σ3,H3,I3,w3⟩
  |brk=>exact q3
  |ret v=>exact q3
 |false=>
  rw[if_neg nZ];exact wpAny_execs_nil ⟨σ1,H2,I2,q2⟩
end
structure It where
 go:Nat->Hp->Prop
 yld:Nat->Hp->V->Hp->Prop
 stop:Nat->Hp->Prop
noncomputable def JJ(X:Cx)(pins:List (Addr×Obj))(H:Hp)(b:Addr):Prop:=
 H b=none/\b≠X.env.locals/\b∉X.fs/\(b∈X.ex\/X.s₀.heap.objs.size<=b)/\(∀x c,X.env.cells.lookup x=some c->c≠b)/\∀p∈X.pn++pins,p.1≠b
theorem Inv.fpOk{X:Cx}{pins:List (Addr×Obj)}{σ:St}{H H':Hp}{s:Shared}{b:Addr}(I:Inv X pins σ H s)(hb:s.heap.objs.size<=b)(hn:H' b=none):JJ X pins H' b:=by
 refine⟨hn,Nat.ne_of_gt (lt_of_lt_of_le I.lt hb),I.nofs hb,.inr (Nat.le_trans I.sz hb),λx c e z=> ?_,λp hp z=> ?_⟩
 ·obtain⟨v,q⟩:=I.cell x c e;exact absurd (lt_of_lt_of_le q.lt (by rw[z];exact hb)) (lt_irrefl _)
 ·exact absurd (lt_of_lt_of_le (lt_size (I.pin p hp).1) (by rw[z];exact hb)) (lt_irrefl _)
structure Turn (P:Program) (w:World) (K:FZ) (tg:Expr) (J:It) (fp:List Addr) (it:Addr) (tn:Nat->Heap->Prop):Prop where
 mem:it∈fp
 obj:∀i h,tn i h->∀b∈fp,∃o,h.get? b=some o/\∀v,o.data≠ .cell v
 keep:∀i h h',tn i h->(∀b∈fp,∀o,h.get? b=some o->h'.get? b=some o)->tn i h'
 item:∀(X:Cx),X.prog=P->X.w=w->X.K=K->X.calm=true->∀(i:Nat) (pins:List (Addr×Obj)) (s:Shared) (σ:St) (H:Hp) (E:Value->Shared->Prop),Inv X pins σ H s->(∀b∈fp,JJ X pins H b)->tn i s.heap->J.go i H->
  wpAny (model P w) X.A (pyNext (.ref it)) (λr s1=>∃u,r=some u/\
   wpAny (model P w) X.A (letOwnedTupleGo tg (.ref it) u) (λ_ s2=>∃x H',Inv X pins σ H' s2/\RelV x u/\J.yld i H x H'/\tn (i+1) s2.heap/\∀b∈fp,H' b=none) E s1) E s
 done:∀(X:Cx),X.prog=P->X.w=w->X.K=K->X.calm=true->∀(i:Nat) (pins:List (Addr×Obj)) (s:Shared) (σ:St) (H:Hp) (E:Value->Shared->Prop),Inv X pins σ H s->(∀b∈fp,JJ X pins H b)->tn i s.heap->J.stop i H->
  wpAny (model P w) X.A (pyNext (.ref it)) (λr s1=>r=none/\Inv X pins σ H s1) E s
 self:∀(A:Around) (i:Nat) (s:Shared) (Q:Value->Shared->Prop) (E:Value->Shared->Prop),tn i s.heap->Q (.ref it) s->wpAny (model P w) A (pyIter (.ref it)) Q E s
noncomputable abbrev TI:=St->Hp->(It->Hp->Prop)->Prop
noncomputable def PIE(X:Cx)(pins:List (Addr×Obj))(σ:St)(tg:Expr)(R:It->Hp->Prop)(itv:Value)(s2:Shared):Prop:=
 ∃(it:Addr) (fp:List Addr) (tn:Nat->Heap->Prop) (J:It) (H':Hp),itv=.ref it/\Inv X pins σ H' s2/\Turn X.prog X.w X.K tg J fp it tn/\tn 0 s2.heap/\(∀b∈fp,JJ X pins H' b)/\R J H'
noncomputable def PI(X:Cx)(tg iter:Expr)(wi:TI):Prop:=
 ∀(pins:List (Addr×Obj)) (s:Shared) (σ:St) (H:Hp) (R:It->Hp->Prop),Inv X pins σ H s->wi σ H R->
  wpAny (model X.prog X.w) X.A (eval iter X.env) (λv s1=>wpAny (model X.prog X.w) X.A (pyIter v) (PIE X pins σ tg R) X.xe s1) X.xe s
theorem QY{M:Model}{A:Around}{E:Value->Shared->Prop}{s:Shared}{tg:Expr}{it:Addr}{u:Value}{o:Obj}{n:String}{vs:Array Value}{Q:Unit->Shared->Prop}(ho:s.heap.get? it=some o)(hc:o.cls=.type n)(hd:o.data=.fields vs)
  (hn: ["enumerate","zip","dict_itemiterator","dict_reverseitemiterator","odict_iterator","itertools.zip_longest","itertools.pairwise"].contains n=false)(hQ:Q () s):wpAny M A (letOwnedTupleGo tg (.ref it) u) Q E s:=by
 unfold letOwnedTupleGo;cases tg<;>first
  |exact pZ hQ
  |(cases u<;>first
    |exact pZ hQ
    |(refine bZ (wpAny_load ho ?_)
      rw[hc,hd];show wpAny M A (if(["enumerate","zip","dict_itemiterator","dict_reverseitemiterator","odict_iterator","itertools.zip_longest","itertools.pairwise"].contains n&&vs[0]? ==some (rawInt _))=true then _ else _) Q E s;rw[if_neg (by intro h;rw[hn,Bool.false_and]at h;cases h)];exact pZ hQ))
noncomputable def Itl(K:FZ)(a:Addr):It:=
 ⟨λi H=>∃xs x,SqL K H a xs/\xs[i]? =some x,λi H x H'=>H'=H/\∀xs,SqL K H a xs->xs[i]? =some x,λi H=>∃xs,SqL K H a xs/\xs.length<=i⟩
noncomputable def Itt(K:FZ)(a:Addr):It:=
 ⟨λi H=>∃xs x,SqT K H a xs/\xs[i]? =some x,λi H x H'=>H'=H/\∀xs,SqT K H a xs->xs[i]? =some x,λi H=>∃xs,SqT K H a xs/\xs.length<=i⟩
noncomputable def Itr(lo:Int)(n:Nat):It:=⟨λi _=>i<n,λi H x H'=>H'=H/\x=.int (lo+i),λi _=>n<=i⟩
theorem SN{P:Program}{w:World}{K:FZ}{tg:Expr}(a it:Addr):Turn P w K tg (Itl K a) [it] it (λi h=>h.IsListIter it a i) where
 mem:=by simp
 obj:=λi h st b hb=>by
  have e:b=it:=by simpa using hb
  subst e;obtain⟨o,e,c,d⟩:=st;exact⟨o,e,λv z=>by rw[d]at z;cases z⟩
 keep:=λi h h' st k=>st.at λo e=>k it (by simp) o e
 item:=by
  intro X hP hw hK hc i pins s σ H E I hf st hg;subst hP hw hK;obtain⟨xs,x,hq,hx⟩:=hg;obtain⟨its,rv,p,hz⟩:=I.list hq;obtain⟨u,hu,ru⟩:=rv.get hx;obtain⟨f0,f1,f2,f3,f4,f5⟩:=hf it (by simp);refine wpAny_pyNext_list_item st p.isList (x:=u) (by simpa using hu) λh' st' sb=> ?_;have I1:Inv X pins σ H {s with heap:=h'}:=I.turned (t':=s.toks) (λb o hb e=>(sb.2 b hb).trans e) f0 f1 f3 f4 f5;obtain⟨o,e,c,d⟩:=id st';exact⟨u,rfl,QY (s:={s with heap:=h'}) e c d (by decide) ⟨x,H,I1,ru,⟨rfl,λys hy=>by rw[I.list_inj hy hq];exact hx⟩,st',λb hb=>(hf b hb).1⟩⟩
 done:=by
  intro X hP hw hK hc i pins s σ H E I hf st hg;subst hP hw hK;obtain⟨xs,hq,hx⟩:=hg;obtain⟨its,rv,p,hz⟩:=I.list hq;obtain⟨f0,f1,f2,f3,f4,f5⟩:=hf it (by simp);have hl:=rv.length;exact wpAny_pyNext_list_end (I.ok.hd hc) st p.isList (by simp;omega) λh' eb=>⟨rfl,I.turned (t':=s.toks) (λb o hb e=>eb b o hb e) f0 f1 f3 f4 f5⟩
 self:=λ_ _ _ _ _ st h=>wpAny_pyIter_listiter st h
theorem QT{P:Program}{w:World}{K:FZ}{tg:Expr}(a it:Addr):Turn P w K tg (Itt K a) [it] it (λi h=>h.IsTupleIter it a i) where
 mem:=by simp
 obj:=λi h st b hb=>by
  have e:b=it:=by simpa using hb
  subst e;obtain⟨o,e,c,d⟩:=st;exact⟨o,e,λv z=>by rw[d]at z;cases z⟩
 keep:=λi h h' st k=>st.at λo e=>k it (by simp) o e
 item:=by
  intro X hP hw hK hc i pins s σ H E I hf st hg;subst hP hw hK;obtain⟨xs,x,hq,hx⟩:=hg;obtain⟨its,rv,p,hz⟩:=I.tuple hq;obtain⟨u,hu,ru⟩:=rv.get hx;obtain⟨f0,f1,f2,f3,f4,f5⟩:=hf it (by simp);refine wpAny_pyNext_tuple_item st (show s.heap.IsTuple a its.toArray from p) (x:=u) (by simpa using hu) λh' st' sb=> ?_;have I1:Inv X pins σ H {s with heap:=h'}:=I.turned (t':=s.toks) (λb o hb e=>(sb.2 b hb).trans e) f0 f1 f3 f4 f5;obtain⟨o,e,c,d⟩:=id st';exact⟨u,rfl,QY (s:={s with heap:=h'}) e c d (by decide) ⟨x,H,I1,ru,⟨rfl,λys hy=>by rw[I.tuple_inj hy hq];exact hx⟩,st',λb hb=>(hf b hb).1⟩⟩
 done:=by
  intro X hP hw hK hc i pins s σ H E I hf st hg;subst hP hw hK;obtain⟨xs,hq,hx⟩:=hg;obtain⟨its,rv,p,hz⟩:=I.tuple hq;obtain⟨f0,f1,f2,f3,f4,f5⟩:=hf it (by simp);have hl:=rv.length;exact wpAny_pyNext_tuple_end (I.ok.hd hc) st (show s.heap.IsTuple a its.toArray from p) (by simp;omega) λh' eb=>⟨rfl,I.turned (t':=s.toks) (λb o hb e=>eb b o hb e) f0 f1 f3 f4 f5⟩
 self:=λ_ _ _ _ _ st h=>wpAny_pyIter_tupleiter st h
theorem OW{P:Program}{w:World}{K:FZ}{tg:Expr}(it:Addr)(lo:Int)(n:Nat):Turn P w K tg (Itr lo n) [it] it (λi h=>IsRangeIter h it (lo+(i:Nat)*1) ((n:Int) - (i:Nat)) 1) where
 mem:=by simp
 obj:=λi h st b hb=>by
  have e:b=it:=by simpa using hb
  subst e;exact⟨_,st,λv z=>by
   have z':Data.fields _=Data.cell v:=z;cases z'⟩
 keep:=λi h h' st k=>k it (by simp) _ st
 item:=by
  intro X hP hw hK hc i pins s σ H E I hf st hg;subst hP hw hK;obtain⟨f0,f1,f2,f3,f4,f5⟩:=hf it (by simp);have W:=Walks.range (prog:=X.prog) (w:=X.w) (I.ok.hd hc) it lo 1 n;refine W.item i s _ _ hg st λv h' tk hv st' kk=> ?_;obtain⟨t,rfl⟩:=hv;have I1:Inv X pins σ H {s with heap:=h',toks:=tk}:=I.turned (λb o hb e=>kk b o (by simpa using hb) e) f0 f1 f3 f4 f5;refine⟨_,rfl,QY (s:={s with heap:=h',toks:=tk}) (n:="range_iterator") st' rfl rfl (by decide) ⟨.int (lo+i),H,I1,⟨t, ?_⟩,⟨rfl,rfl⟩,st',λb hb=>(hf b hb).1⟩⟩;rw[Int.mul_one]
 done:=by
  intro X hP hw hK hc i pins s σ H E I hf st hg;subst hP hw hK;obtain⟨f0,f1,f2,f3,f4,f5⟩:=hf it (by simp);exact wpAny_pyNext_range_end (I.ok.hd hc) st (by have:n<=i:=hg;omega) λh' eb=>⟨rfl,I.turned (t':=s.toks) (λb o hb e=>eb b o hb e) f0 f1 f3 f4 f5⟩
 self:=λ_ _ _ _ _ st h=>wpAny_pyIter_rangeiter st h
section
variable{X:Cx}{tg:Expr}
noncomputable def aQZ(K:FZ)(tl:TE):TI:=fun σ H R=>tl σ H λx H1=>∃a,x=.ref a/\(∃xs,SqL K H1 a xs)/\R (Itl K a) H1
noncomputable def c6Z(K:FZ)(tl:TE):TI:=fun σ H R=>tl σ H λx H1=>∃a,x=.ref a/\(∃xs,SqT K H1 a xs)/\R (Itt K a) H1
theorem aqZ{l:Expr}{tl:TE}(hl:PE X l tl):PI X tg l (aQZ X.K tl):=by
 intro pins s σ H R I h;refine thn (hl pins s σ H _ I h) λv s1 ⟨x,H1,I1,r1,q1⟩=> ?_;obtain⟨a,e,⟨xs,hq⟩,q⟩:=q1;subst e;cases r1;obtain⟨its,rv,p,hz⟩:=I1.list hq;refine wpAny_pyIter_list p.isList ?_;refine⟨s1.heap.objs.size,[s1.heap.objs.size],_,_,H1,rfl,I1.kept (t':=s1.toks) λb o e=>gZ _ e,SN a _,⟨_,get?_push_size _ rfl,rfl,rfl⟩,λb hb=> ?_,q⟩;have e:b=s1.heap.objs.size:=by simpa using hb
 subst e;exact I1.fpOk (Nat.le_refl _) (I1.hok.fresh (Nat.le_refl _))
theorem bOZ{l:Expr}{tl:TE}(hl:PE X l tl):PI X tg l (c6Z X.K tl):=by
 intro pins s σ H R I h;refine thn (hl pins s σ H _ I h) λv s1 ⟨x,H1,I1,r1,q1⟩=> ?_;obtain⟨a,e,⟨xs,hq⟩,q⟩:=q1;subst e;cases r1;obtain⟨its,rv,p,hz⟩:=I1.tuple hq;refine wpAny_pyIter_tuple (show s1.heap.IsTuple a its.toArray from p) ?_;refine⟨s1.heap.objs.size,[s1.heap.objs.size],_,_,H1,rfl,I1.kept (t':=s1.toks) λb o e=>gZ _ e,QT a _,⟨_,get?_push_size _ rfl,rfl,rfl⟩,λb hb=> ?_,q⟩;have e:b=s1.heap.objs.size:=by simpa using hb
 subst e;exact I1.fpOk (Nat.le_refl _) (I1.hok.fresh (Nat.le_refl _))
theorem WV{pins:List (Addr×Obj)}{σ:St}{H:Hp}{s:Shared}{R:It->Hp->Prop}{E:Value->Shared->Prop}{lo hi:Int}{t u v:Tok}{tk:Nat}(I:Inv X pins σ H s)(h1: -(2^62)<=lo)(h2:lo<2^62)(h3: -(2^62)<=hi)(h4:hi<2^62)
  (q:R (Itr lo (hi - lo).toNat) H):wpAny (model X.prog X.w) X.A (pyIter (.ref s.heap.objs.size)) (PIE X pins σ tg R) E {s with heap:=s.heap.push {cls:=.type "range",data:=.fields #[.int lo t,.int hi u,.int 1 v]},toks:=tk}:=by
 refine wpAny_pyIter_range (IsRange.new ..) (small_one h1 h2 h3 h4) ?_;have I1:Inv X pins σ H {s with heap:=s.heap.push {cls:=.type "range",data:=.fields #[.int lo t,.int hi u,.int 1 v]},toks:=tk}:=I.kept λb o e=>gZ _ e;refine⟨(s.heap.push {cls:=.type "range",data:=.fields #[.int lo t,.int hi u,.int 1 v]}).objs.size,[(s.heap.push {cls:=.type "range",data:=.fields #[.int lo t,.int hi u,.int 1 v]}).objs.size],_,_,H,rfl,
  I1.kept (t':=tk) λb o e=>gZ _ e,OW _ lo (hi - lo).toNat, ?_,λb hb=> ?_,q⟩
 ·have e1:lo+((0:Nat):Int)*1=lo:=by simp
  have e2:(((hi - lo).toNat:Nat):Int) - ((0:Nat):Int)=Builtin.Range.rangeSize lo hi 1:=by rw[rangeSize_one];split<;>omega
  show IsRangeIter _ _ (lo+((0:Nat):Int)*1) ((((hi - lo).toNat:Nat):Int) - ((0:Nat):Int)) 1;rw[e1,e2];exact get?_push_size _ rfl
 ·have e:b=(s.heap.push {cls:=.type "range",data:=.fields #[.int lo t,.int hi u,.int 1 v]}).objs.size:=by simpa using hb
  subst e;exact I1.fpOk (Nat.le_refl _) (I1.hok.fresh (Nat.le_refl _))
noncomputable def cSZ(ta:TA):TI:=fun σ H R=>ta σ H λvs H1=>∃j:Int,vs=[.int j]/\ -(2^62)<=j/\j<2^62/\R (Itr 0 j.toNat) H1
theorem P6{a:Expr}{ta:TA}{p pos:Pos}(hg:Gl X "range")(hm:X.mg "range"=none)(ha:PA X [a] ta)(hs:starEach [a] X.env=[(false,eval a X.env)]:=by rfl):PI X tg (.Call (.Name "range" p) [a] [] pos) (cSZ ta):=by
 intro pins s σ H R I h;refine Call_ (T5 I hg hm boot_range (callWith_type1 (thn (ha pos pins s σ H _ I h) λus s1 ⟨vs,H1,I1,r1,q1⟩=> ?_) hs rfl));obtain⟨j,e,q1,q2,q⟩:=q1;subst e;cases r1 with
 |cons r rr=>
  cases rr;obtain⟨t,rfl⟩:=r;exact call_range_1 (WV I1 (by omega) (by omega) q1 q2 (by simpa using q))
noncomputable def dqZ(wi:TI)(g:TG)(tb:TS):TS:=λD σ H=>wi σ H λJ H1=>∃W:Nat->Nat->St->Hp->Prop,(∃m,W 0 m σ H1)/\∀i m σ H,W i m σ H->
 (J.stop i H/\D.nx σ H)\/(J.go i H/\∃N:St->Hp->Prop,(∀σ' H',N σ' H'->∃m',m'<m/\W (i+1) m' σ' H')/\∀x H',J.yld i H x H'->g x σ H' fun σ2 H2=>tb {D with nx:=N,ct:=N,bk:=D.nx} σ2 H2)
noncomputable def EF(fp:List Addr)(h:Heap):List (Addr×Obj):=fp.filterMap λb=>(h.get? b).map λo=>(b,o)
theorem U8{fp:List Addr}{h:Heap}{b:Addr}{o:Obj}(hb:b∈fp)(e:h.get? b=some o):(b,o)∈EF fp h:=List.mem_filterMap.mpr ⟨b,hb,by rw[e];rfl⟩
theorem UT{fp:List Addr}{h:Heap}{p:Addr×Obj}(hp:p∈EF fp h):p.1∈fp/\h.get? p.1=some p.2:=by
 obtain⟨b,hb,e⟩:=List.mem_filterMap.mp hp;cases q:h.get? b with
 |none=>rw[q]at e;cases e
 |some o=>
  rw[q]at e;have e':(b,o)=p:=Option.some.inj e;subst e';exact⟨hb,q⟩
theorem Inv.pinned{pins:List (Addr×Obj)}{σ:St}{H:Hp}{s:Shared}{fp:List Addr}(I:Inv X pins σ H s)(hf:∀b∈fp,JJ X pins H b)(ho:∀b∈fp,∃o,s.heap.get? b=some o/\∀v,o.data≠ .cell v):Inv X (pins++EF fp s.heap) σ H s:=
 I.pins_of λp hp=>(mem_append.mp hp).elim (λz=>I.pin p (mem_append_right _ z)) λz=>by
  obtain⟨hb,e⟩:=UT z;obtain⟨f0,f1,f2,_⟩:=hf p.1 hb;obtain⟨o,e',d⟩:=ho p.1 hb;rw[e]at e';cases e';exact⟨e,f0,f1,f2,d⟩
theorem Inv.unpinned{pins pl:List (Addr×Obj)}{σ:St}{H:Hp}{s:Shared}(I:Inv X (pins++pl) σ H s):Inv X pins σ H s:=I.pins_of λp hp=>I.pin p (mem_append_right _ (mem_append_left _ hp))
theorem GD{iter:Expr}{body:List Stmt}{wi:TI}{g:TG}{tb:TS}{pos:Pos}(hp:PassesOwn (model X.prog X.w) X.A X.env X.xe)(hc:X.calm=true)(hi:PI X tg iter wi)(hg:PG X tg g)(hb:PSs X body tb)
  (hs:∀x,foldedSetIterable iter X.env x=pure x:=by intro _;rfl):PS X (.For tg iter body [] pos) (dqZ wi g tb):=by
 intro pins s σ H D I h;refine wpAny_For (thn (hi pins s σ H _ I h) λv s1 h1=>thn h1 λitv s2 h2=> ?_) hs;obtain⟨it,fp,tn,J,H2,e,I2,T,st2,f2,W,⟨m0,w0⟩,turn⟩:=h2;subst e;have stat:∀ {H':Hp},(∀b∈fp,H' b=none)->∀b∈fp,JJ X pins H' b:=λhn b hb=>⟨hn b hb,(f2 b hb).2⟩;refine codeAny_forLoop_any (λn s'=>∃i σ' H',Inv X pins σ' H' s'/\tn i s'.heap/\(∀b∈fp,H' b=none)/\W i n σ' H') ?_ m0 ⟨0,σ,H2,I2,st2,λb hb=>(f2 b hb).1,w0⟩;rintro n s3 ⟨i,σ3,H3,I3,st3,fr3,w3⟩;rcases turn i n σ3 H3 w3 with⟨stop,qn⟩|⟨go,N,hN,step⟩
 ·refine wpAny_passesOwn hp (thn (T.done X rfl rfl rfl hc i pins s3 σ3 H3 X.xe I3 (stat fr3) st3 stop) λr s4 ⟨hr,I4⟩=> ?_);subst hr;exact wpAny_execs_nil ⟨σ3,H3,I4,qn⟩
 ·refine wpAny_passesOwn hp (thn (T.item X rfl rfl rfl hc i pins s3 σ3 H3 X.xe I3 (stat fr3) st3 go) λr s4 ⟨u,hr,h4⟩=> ?_);subst hr;refine wpAny_passesOwn hp (thn h4 λ_ s5 ⟨x,H5,I5,r5,y5,st5,fr5⟩=> ?_);have I5':=I5.pinned (stat fr5) (T.obj _ _ st5);refine wpAny_passesOwn hp (thn (hg _ s5 σ3 H5 x u _ I5' r5 (step x H5 y5)) λ_ s6 ⟨σ6,H6,I6,q6⟩=> ?_);refine wpAny_passesOwn hp (thn (hb _ s6 σ6 H6 _ I6 q6) λf s7 q7=> ?_);have again:∀ {σ7:St} {H7:Hp},Inv X (pins++EF fp s5.heap) σ7 H7 s7->N σ7 H7->∃m,m<n/\∃i σ' H',Inv X pins σ' H' s7/\tn i s7.heap/\(∀b∈fp,H' b=none)/\W i m σ' H':=λ{σ7 H7} I7 n7=>by
   obtain⟨m',hm,w7⟩:=hN σ7 H7 n7;refine⟨m',hm,i+1,σ7,H7,I7.unpinned,T.keep _ _ _ st5 λb hb o e=>(I7.pin (b,o) (mem_append_right _ (mem_append_right _ (U8 hb e)))).1,λb hb=> ?_,w7⟩;obtain⟨o,e,d⟩:=T.obj _ _ st5 b hb;exact(I7.pin (b,o) (mem_append_right _ (mem_append_right _ (U8 hb e)))).2.1
  cases f with
  |next=>obtain⟨σ7,H7,I7,n7⟩:=q7;exact again I7 n7
  |cont=>obtain⟨σ7,H7,I7,n7⟩:=q7;exact again I7 n7
  |brk=>obtain⟨σ7,H7,I7,q7⟩:=q7;exact⟨σ7,H7,I7.unpinned,q7⟩
  |ret v=>obtain⟨x7,σ7,H7,I7,r7,q7⟩:=q7;exact⟨x7,σ7,H7,I7.unpinned,r7,q7⟩
end
theorem HY{K:FZ}{a:Addr}{xs:List V}{g:TG}{tb:TS}{D:Ends}{σ:St}{H:Hp}(Pv:Nat->St->Hp->Prop)(h0:Pv 0 σ H)(hl:∀i σ H,i<=xs.length->Pv i σ H->SqL K H a xs)
  (hs:∀i x σ H,xs[i]? =some x->Pv i σ H->g x σ H fun σ2 H2=>tb {D with nx:=Pv (i+1),ct:=Pv (i+1),bk:=D.nx} σ2 H2)(hd:∀σ H,Pv xs.length σ H->D.nx σ H):
  ∃W:Nat->Nat->St->Hp->Prop,(∃m,W 0 m σ H)/\∀i m σ H,W i m σ H->
   ((Itl K a).stop i H/\D.nx σ H)\/((Itl K a).go i H/\∃N:St->Hp->Prop,(∀σ' H',N σ' H'->∃m',m'<m/\W (i+1) m' σ' H')/\∀x H',(Itl K a).yld i H x H'->g x σ H' fun σ2 H2=>tb {D with nx:=N,ct:=N,bk:=D.nx} σ2 H2):=by
 refine⟨λi m σ H=>m=xs.length - i/\i<=xs.length/\Pv i σ H,⟨xs.length,by simp,zero_le _,h0⟩, ?_⟩;rintro i m σ H ⟨rfl,hi,p⟩;have q:=hl i σ H hi p;by_cases hlt:i<xs.length
 ·refine .inr ⟨⟨xs,xs[i],q,by simp[hlt]⟩,Pv (i+1),fun σ' H' p'=>⟨xs.length - (i+1),by omega,rfl,hlt,p'⟩,λx H' y=> ?_⟩;obtain⟨e,y⟩:=y;subst e;exact hs i x σ _ (y xs q) p
 ·have e:i=xs.length:=by omega
  subst e;exact .inl ⟨⟨xs,q,Nat.le_refl _⟩,hd σ H p⟩
theorem KO{lo:Int}{n:Nat}{g:TG}{tb:TS}{D:Ends}{σ:St}{H:Hp}(Pv:Nat->St->Hp->Prop)(h0:Pv 0 σ H)
  (hs:∀i σ H,i<n->Pv i σ H->g (.int (lo+i)) σ H fun σ2 H2=>tb {D with nx:=Pv (i+1),ct:=Pv (i+1),bk:=D.nx} σ2 H2)(hd:∀σ H,Pv n σ H->D.nx σ H):
  ∃W:Nat->Nat->St->Hp->Prop,(∃m,W 0 m σ H)/\∀i m σ H,W i m σ H->
   ((Itr lo n).stop i H/\D.nx σ H)\/((Itr lo n).go i H/\∃N:St->Hp->Prop,(∀σ' H',N σ' H'->∃m',m'<m/\W (i+1) m' σ' H')/\∀x H',(Itr lo n).yld i H x H'->g x σ H' fun σ2 H2=>tb {D with nx:=N,ct:=N,bk:=D.nx} σ2 H2):=by
 refine⟨λi m σ H=>m=n - i/\i<=n/\Pv i σ H,⟨n,by simp,zero_le _,h0⟩, ?_⟩;rintro i m σ H ⟨rfl,hi,p⟩;by_cases hlt:i<n
 ·refine .inr ⟨hlt,Pv (i+1),fun σ' H' p'=>⟨n - (i+1),by omega,rfl,hlt,p'⟩,λx H' y=> ?_⟩;obtain⟨e,y⟩:=y;subst e y;exact hs i σ _ hlt p
 ·have e:i=n:=by omega
  subst e;exact .inl ⟨Nat.le_refl _,hd σ H p⟩
noncomputable abbrev R2:=V->V->Hp->VK->Prop
noncomputable def OpR(X:Cx)(f:Value->Value->Sem Value)(r:R2):Prop:=
 ∀(pins:List (Addr×Obj)) (s:Shared) (σ:St) (H:Hp) (x y:V) (v u:Value) (Q:VK),Inv X pins σ H s->RelV x v->RelV y u->r x y H Q->
  wpAny (model X.prog X.w) X.A (f v u) (EP X pins σ Q) X.xe s
noncomputable def UnR(X:Cx)(f:Value->Sem Value)(r:V->Hp->VK->Prop):Prop:=
 ∀(pins:List (Addr×Obj)) (s:Shared) (σ:St) (H:Hp) (x:V) (v:Value) (Q:VK),Inv X pins σ H s->RelV x v->r x H Q->
  wpAny (model X.prog X.w) X.A (f v) (EP X pins σ Q) X.xe s
noncomputable def W4(X:Cx)(f:Value)(r:List V->Hp->VK->Prop):Prop:=
 ∀(pins:List (Addr×Obj)) (s:Shared) (σ:St) (H:Hp) (xs:List V) (us:List Value) (Q:VK),Inv X pins σ H s->Vals xs us->r xs H Q->
  wpAny (model X.prog X.w) X.A (call f us) (EP X pins σ Q) X.xe s
noncomputable def dkZ(X:Cx)(r:V->Hp->(Bool->Hp->Prop)->Prop):Prop:=
 ∀(pins:List (Addr×Obj)) (s:Shared) (σ:St) (H:Hp) (x:V) (v:Value) (Q:Bool->Hp->Prop),Inv X pins σ H s->RelV x v->r x H Q->
  wpAny (model X.prog X.w) X.A (truthy v) (TP X pins σ Q) X.xe s
noncomputable def tOp(r:R2)(ta tb:TE):TE:=fun σ H Q=>ta σ H λx H1=>tb σ H1 λy H2=>r x y H2 Q
noncomputable def tUn(r:V->Hp->VK->Prop)(ta:TE):TE:=fun σ H Q=>ta σ H λx H1=>r x H1 Q
inductive rI (C:Int->Int->Prop) (g:Int->Int->V) (x:V) (y:V) (H:Hp) (Q:VK):Prop
 |mk:∀i j,(x=.int i)->(y=.int j)->(C i j)->(Q (g i j) H)->rI C g x y H Q
inductive rI0 (g:Int->Int->V) (x:V) (y:V) (H:Hp) (Q:VK):Prop
 |mk:∀i j,(x=.int i)->(y=.int j)->(Q (g i j) H)->rI0 g x y H Q
inductive rU (g:Int->V) (x:V) (H:Hp) (Q:VK):Prop
 |mk:∀i,(x=.int i)->(Q (g i) H)->rU g x H Q
section
variable{X:Cx}{a b c:Expr}{ta tb tc:TE}{pos:Pos}
theorem byZ(ha:PE X a ta)(hb:PE X b tb){pins:List (Addr×Obj)}{s:Shared}{σ:St}{H:Hp}{R:V->V->Hp->Prop}(I:Inv X pins σ H s)
  (h:ta σ H λx H1=>tb σ H1 λy H2=>R x y H2){Q:Value->Shared->Prop}{f:Value->Value->Sem Value}
  (hf:∀v u s2 x y H2,Inv X pins σ H2 s2->RelV x v->RelV y u->R x y H2->wpAny (model X.prog X.w) X.A (f v u) Q X.xe s2):
  wpAny (model X.prog X.w) X.A (eval a X.env) (λv s₁=>wpAny (model X.prog X.w) X.A (eval b X.env) (λu s₂=>wpAny (model X.prog X.w) X.A (f v u) Q X.xe s₂) X.xe s₁) X.xe s:=by
 refine thn (ha pins s σ H _ I h) λv s1 ⟨x,H1,I1,r1,q1⟩=> ?_;refine thn (hb pins s1 σ H1 _ I1 q1) λu s2 ⟨y,H2,I2,r2,q2⟩=> ?_;exact hf v u s2 x y H2 I2 r1 r2 q2
theorem B4{op:Operator}{r:R2}(ho:OpR X (binaryOp op) r)(ha:PE X a ta)(hb:PE X b tb):PE X (.BinOp a op b pos) (tOp r ta tb):=by
 intro pins s σ H Q I h;exact wpAny_BinOp (byZ ha hb I h λv u s2 x y H2 I2 rx ry q=>ho pins s2 σ H2 x y v u Q I2 rx ry q)
theorem IK{op:UnaryOp}{r:V->Hp->VK->Prop}(ho:UnR X (unaryOp op) r)(ha:PE X a ta):PE X (.UnaryOp op a pos) (tUn r ta):=by
 intro pins s σ H Q I h;exact UnaryOp_ (thn (ha pins s σ H _ I h) λv s1 ⟨x,H1,I1,r1,q1⟩=>ho pins s1 σ H1 x v Q I1 r1 q1)
theorem opI{f:Value->Value->Sem Value}{C:Int->Int->Prop}{g:Int->Int->Int}
  (rule:∀(i j:Int) (t u:Tok) (s:Shared) (Q:Value->Shared->Prop) (E:Value->Shared->Prop),C i j->Q (.int (g i j) s.toks) {s with toks:=s.toks+1}->wpAny (model X.prog X.w) X.A (f (.int i t) (.int j u)) Q E s):
  OpR X f (rI C λi j=> .int (g i j)):=by
 intro pins s σ H x y v u Q I rx ry h;obtain⟨i,j,rfl,rfl,hc,q⟩:=h;obtain⟨t,rfl⟩:=rx;obtain⟨t',rfl⟩:=ry;exact rule i j t t' s _ _ hc ⟨.int (g i j),H,I.tok _,⟨_,rfl⟩,q⟩
theorem cZZ{f:Value->Value->Sem Value}{g:Int->Int->Int}
  (rule:∀(i j:Int) (t u:Tok) (s:Shared) (Q:Value->Shared->Prop) (E:Value->Shared->Prop),Q (.int (g i j) s.toks) {s with toks:=s.toks+1}->wpAny (model X.prog X.w) X.A (f (.int i t) (.int j u)) Q E s):
  OpR X f (rI0 λi j=> .int (g i j)):=by
 intro pins s σ H x y v u Q I rx ry h;obtain⟨i,j,rfl,rfl,q⟩:=h;obtain⟨t,rfl⟩:=rx;obtain⟨t',rfl⟩:=ry;exact rule i j t t' s _ _ ⟨.int (g i j),H,I.tok _,⟨_,rfl⟩,q⟩
theorem cjZ{f:Value->Value->Sem Value}{g:Int->Int->Bool}
  (rule:∀(i j:Int) (t u:Tok) (s:Shared) (Q:Value->Shared->Prop) (E:Value->Shared->Prop),Q (.bool (g i j)) s->wpAny (model X.prog X.w) X.A (f (.int i t) (.int j u)) Q E s):
  OpR X f (rI0 λi j=> .bl (g i j)):=by
 intro pins s σ H x y v u Q I rx ry h;obtain⟨i,j,rfl,rfl,q⟩:=h;obtain⟨t,rfl⟩:=rx;obtain⟨t',rfl⟩:=ry;exact rule i j t t' s _ _ ⟨.bl (g i j),H,I,rfl,q⟩
noncomputable def dvZ(i j:Int):Prop:=0<=j/\j<=1000000/\i.natAbs<2^64
noncomputable def CMul(i j:Int):Prop:=(-(2^64)<i/\i<2^64)\/(-(2^64)<j/\j<2^64)
theorem CMul.ok{i j:Int}(h:CMul i j):IntMulOk i j:=by
 rcases h with⟨h1,h2⟩|⟨h1,h2⟩
 ·exact .of_left (intBits_le_64 h1 h2)
 ·exact .of_right (intBits_le_64 h1 h2)
theorem op_add:OpR X (binaryOp .Add) (rI0 λi j=> .int (i+j)):=cZZ λ_ _ _ _ _ _ _ q=>add_int q
theorem U5:OpR X (binaryOp .Sub) (rI0 λi j=> .int (i - j)):=cZZ λ_ _ _ _ _ _ _ q=>sub_int q
theorem op_mul:OpR X (binaryOp .Mult) (rI CMul λi j=> .int (i*j)):=opI λ_ _ _ _ _ _ _ hc q=>mul_int q hc.ok
theorem C5:OpR X (binaryOp .Mod) (rI (λ_ j=>0<j) λi j=> .int (i%j)):=opI λi j _ _ _ _ _ hc q=>by
 have h1:(0:Int)<j:=hc;exact mod_int' (by omega) (by rw[Int.fmod_eq_emod_of_nonneg i (by omega)];exact q)
theorem IZ:OpR X (binaryOp .Pow) (rI dvZ λi j=> .int (i^j.toNat)):=opI λ_ _ _ _ _ _ _ hc q=>pow_int_small hc.1 hc.2.1 hc.2.2 q
theorem unI{f:Value->Sem Value}{g:Int->Int}
  (rule:∀(i:Int) (t:Tok) (s:Shared) (Q:Value->Shared->Prop) (E:Value->Shared->Prop),Q (.int (g i) s.toks) {s with toks:=s.toks+1}->wpAny (model X.prog X.w) X.A (f (.int i t)) Q E s):
  UnR X f (rU λi=> .int (g i)):=by
 intro pins s σ H x v Q I rx h;obtain⟨i,rfl,q⟩:=h;obtain⟨t,rfl⟩:=rx;exact rule i t s _ _ ⟨.int (g i),H,I.tok _,⟨_,rfl⟩,q⟩
theorem EG:UnR X (unaryOp .USub) (rU λi=> .int (-i)):=unI λ_ _ _ _ _ q=>neg_int q
end
noncomputable def c5Z:V->V->Bool
 | .non,.non=>true| .non,.int _=>true| .int _,.non=>true| .non,.bl _=>true| .bl _,.non=>true| .non,.str _=>true| .str _,.non=>true
 | .int _,.int _=>true| .bl _,.bl _=>true| .str _,.str _=>true| .byt _,.byt _=>true
 | .int _,.str _=>true| .str _,.int _=>true| .bl _,.str _=>true| .str _,.bl _=>true
 |_,_=>false
inductive rEq (x:V) (y:V) (H:Hp) (Q:VK):Prop
 |mk:(c5Z x y=true)->(Q (.bl (decide (x=y))) H)->rEq x y H Q
inductive rNe (x:V) (y:V) (H:Hp) (Q:VK):Prop
 |mk:(c5Z x y=true)->(Q (.bl (!decide (x=y))) H)->rNe x y H Q
theorem RZ{i j:Int}:decide (V.int i=V.int j)=(i==j):=by
 rw[Bool.eq_iff_iff];simp
theorem YK{i j:Bool}:decide (V.bl i=V.bl j)=(i==j):=by
 rw[Bool.eq_iff_iff];simp
theorem RT{i j:Str}:decide (V.str i=V.str j)=(i==j):=by
 rw[Bool.eq_iff_iff];simp
theorem SI{i j:Array UInt8}:decide (V.byt i=V.byt j)=(i.toList==j.toList):=by
 rw[Bool.eq_iff_iff];cases i;cases j;simp
section
variable{X:Cx}{a b c:Expr}{ta tb tc:TE}{pos:Pos}
theorem J3{pins:List (Addr×Obj)}{σ:St}{H:Hp}{s:Shared}{Q:VK}{k k':Bool}(I:Inv X pins σ H s)(q:Q (.bl k) H)(e:k=k'):EP X pins σ Q (.bool k') s:=by
 subst e;exact⟨.bl k,H,I,rfl,q⟩
theorem op_eq:OpR X (compareOp .Eq) rEq:=by
 intro pins s σ H x y v u Q I rx ry h;obtain⟨hs,q⟩:=h;cases x with
 |non=>
  cases rx;cases y with
  |non=>cases ry;exact PySem.EqNone.eq_none_none (J3 I q (by simp))
  |bl j=>cases ry;exact PySem.EqNone.eq_none_bool (J3 I q (by simp))
  |int j=>obtain⟨t',rfl⟩:=ry;exact PySem.EqNone.eq_none_int (J3 I q (by simp))
  |str j=>obtain⟨t',rfl⟩:=ry;exact PySem.EqNone.eq_none_str (J3 I q (by simp))
  |_=>exact absurd (show false=true from hs) nZ
 |bl i=>
  cases rx;cases y with
  |non=>cases ry;exact PySem.EqNone.eq_bool_none (J3 I q (by simp))
  |bl j=>cases ry;exact eq_bool (J3 I q YK)
  |str j=>obtain⟨t',rfl⟩:=ry;exact PySem.EqMixed.eq_bool_str (J3 I q (by simp))
  |_=>exact absurd (show false=true from hs) nZ
 |int i=>
  obtain⟨t,rfl⟩:=rx;cases y with
  |non=>cases ry;exact PySem.EqNone.eq_int_none (J3 I q (by simp))
  |int j=>obtain⟨t',rfl⟩:=ry;exact eq_int (J3 I q RZ)
  |str j=>obtain⟨t',rfl⟩:=ry;exact PySem.EqMixed.eq_int_str (J3 I q (by simp))
  |_=>exact absurd (show false=true from hs) nZ
 |str i=>
  obtain⟨t,rfl⟩:=rx;cases y with
  |non=>cases ry;exact PySem.EqNone.eq_str_none (J3 I q (by simp))
  |bl j=>cases ry;exact PySem.EqMixed.eq_str_bool (J3 I q (by simp))
  |int j=>obtain⟨t',rfl⟩:=ry;exact PySem.EqMixed.eq_str_int (J3 I q (by simp))
  |str j=>obtain⟨t',rfl⟩:=ry;exact eq_str (J3 I q RT)
  |_=>exact absurd (show false=true from hs) nZ
 |byt i=>
  obtain⟨t,rfl⟩:=rx;cases y with
  |byt j=>obtain⟨t',rfl⟩:=ry;exact PySem.W.eq_bytes (J3 I q SI)
  |_=>exact absurd (show false=true from hs) nZ
 |_=>cases y<;>exact absurd (show false=true from hs) nZ
theorem op_ne:OpR X (compareOp .NotEq) rNe:=by
 intro pins s σ H x y v u Q I rx ry h;obtain⟨hs,q⟩:=h;cases x with
 |non=>
  cases rx;cases y with
  |non=>cases ry;exact PySem.EqNone.ne_none_none (J3 I q (by simp))
  |bl j=>cases ry;exact PySem.EqNone.ne_none_bool (J3 I q (by simp))
  |int j=>obtain⟨t',rfl⟩:=ry;exact PySem.EqNone.ne_none_int (J3 I q (by simp))
  |str j=>obtain⟨t',rfl⟩:=ry;exact PySem.EqNone.ne_none_str (J3 I q (by simp))
  |_=>exact absurd (show false=true from hs) nZ
 |bl i=>
  cases rx;cases y with
  |non=>cases ry;exact PySem.EqNone.ne_bool_none (J3 I q (by simp))
  |bl j=>cases ry;exact ne_bool (J3 I q (congrArg not YK))
  |str j=>obtain⟨t',rfl⟩:=ry;exact PySem.EqMixed.ne_bool_str (J3 I q (by simp))
  |_=>exact absurd (show false=true from hs) nZ
 |int i=>
  obtain⟨t,rfl⟩:=rx;cases y with
  |non=>cases ry;exact PySem.EqNone.ne_int_none (J3 I q (by simp))
  |int j=>obtain⟨t',rfl⟩:=ry;exact ne_int (J3 I q (congrArg not RZ))
  |str j=>obtain⟨t',rfl⟩:=ry;exact PySem.EqMixed.ne_int_str (J3 I q (by simp))
  |_=>exact absurd (show false=true from hs) nZ
 |str i=>
  obtain⟨t,rfl⟩:=rx;cases y with
  |non=>cases ry;exact PySem.EqNone.ne_str_none (J3 I q (by simp))
  |bl j=>cases ry;exact PySem.EqMixed.ne_str_bool (J3 I q (by simp))
  |int j=>obtain⟨t',rfl⟩:=ry;exact PySem.EqMixed.ne_str_int (J3 I q (by simp))
  |str j=>obtain⟨t',rfl⟩:=ry;exact ne_str (J3 I q (congrArg not RT))
  |_=>exact absurd (show false=true from hs) nZ
 |byt i=>
  obtain⟨t,rfl⟩:=rx;cases y with
  |byt j=>obtain⟨t',rfl⟩:=ry;exact PySem.W.ne_bytes (J3 I q (congrArg not SI))
  |_=>exact absurd (show false=true from hs) nZ
 |_=>cases y<;>exact absurd (show false=true from hs) nZ
theorem IM:OpR X (compareOp .Lt) (rI0 λi j=> .bl (decide (i<j))):=cjZ λ_ _ _ _ _ _ _ q=>lt_int q
theorem Y4:OpR X (compareOp .Gt) (rI0 λi j=> .bl (decide (j<i))):=cjZ λ_ _ _ _ _ _ _ q=>gt_int q
theorem a2Z:OpR X (compareOp .GtE) (rI0 λi j=> .bl (decide (j<=i))):=cjZ λ_ _ _ _ _ _ _ q=>ge_int q
theorem op_in_str:OpR X (compareOp .In) (λx y H Q=>∃i j,x=.str i/\y=.str j/\Q (.bl (!(Builtin.Str.occurrences j i 0 j.length 1).isEmpty)) H):=by
 intro pins s σ H x y v u Q I rx ry h;obtain⟨i,j,rfl,rfl,q⟩:=h;obtain⟨t,rfl⟩:=rx;obtain⟨t',rfl⟩:=ry;exact in_str (J3 I q rfl)
theorem ZZ:OpR X (compareOp .IsNot) (λx y H Q=>y=.non/\Q (.bl (!decide (x=.non))) H):=by
 intro pins s σ H x y v u Q I rx ry h;obtain⟨rfl,q⟩:=h;cases ry;refine isnot_none_gen (J3 I q ?_);cases x<;>first
  |(cases rx;rfl)
  |(obtain⟨t,rfl⟩:=rx;rfl)
theorem OpR.or{f:Value->Value->Sem Value}{r r':R2}(h:OpR X f r)(h':OpR X f r'):OpR X f (λx y H Q=>r x y H Q\/r' x y H Q):=by
 intro pins s σ H x y v u Q I rx ry q;rcases q with q|q
 ·exact h pins s σ H x y v u Q I rx ry q
 ·exact h' pins s σ H x y v u Q I rx ry q
theorem M9{op:CmpOp}{r:R2}(ho:OpR X (compareOp op) r)(ha:PE X a ta)(hb:PE X b tb)(hm:behindInMarks op b=false):PE X (.Compare a [op] [b] pos) (tOp r ta tb):=by
 intro pins s σ H Q I h;exact wpAny_Compare1 (byZ ha hb I h λv u s2 x y H2 I2 rx ry q=>ho pins s2 σ H2 x y v u Q I2 rx ry q) hm
inductive tTestW (Q:Bool->Hp->Prop) (x:V) (H':Hp):Prop
 |mk:∀k,(x=.bl k)->(Q k H')->tTestW Q x H'
noncomputable def a0Z(t:TE):TT:=fun σ H Q=>t σ H λx H'=>tTestW Q x H'
theorem B0{op:CmpOp}{r:R2}(ho:OpR X (compareOp op) r)(ha:PE X a ta)(hb:PE X b tb)(hm:behindInMarks op b=false):PT X (.Compare a [op] [b] pos) (a0Z (tOp r ta tb)):=by
 intro pins s σ H Q I h;refine wpAny_isTrue_Compare1 (thn (ha pins s σ H _ I h) λv s1 ⟨x,H1,I1,r1,q1⟩=>thn (hb pins s1 σ H1 _ I1 q1) λu s2 ⟨y,H2,I2,r2,q2⟩=>
  thn (ho pins s2 σ H2 x y v u _ I2 r1 r2 q2) λc s3 ⟨z,H3,I3,r3,k,e,q3⟩=> ?_) hm
 subst e;cases r3;exact wpAny_truthy_bool ⟨H3,I3,q3⟩
noncomputable def bCZ(r r':R2)(ta tb tc:TE):TE:=fun σ H Q=>ta σ H λx H1=>tb σ H1 λy H2=>r x y H2 λz H3=>∃k,z=.bl k/\
 (if k=true then tc σ H3 λw' H4=>r' y w' H4 Q else Q (.bl false) H3)
theorem NT{op op':CmpOp}{r r':R2}(ho:OpR X (compareOp op) r)(ho':OpR X (compareOp op') r')(ha:PE X a ta)(hb:PE X b tb)(hc:PE X c tc)
  (hm:lastMarks [op,op'] [b,c]=false:=by with_unfolding_all rfl):PT X (.Compare a [op,op'] [b,c] pos) (a0Z (bCZ r r' ta tb tc)):=by
 intro pins s σ H Q I h;refine isTrue_chain (thn (ha pins s σ H _ I h) λv s1 ⟨x,H1,I1,r1,q1⟩=>test_link (thn (hb pins s1 σ H1 _ I1 q1) λu s2 ⟨y,H2,I2,r2,q2⟩=>
  thn (ho pins s2 σ H2 x y v u _ I2 r1 r2 q2) λd s3 ⟨z,H3,I3,r3,k,e,q3⟩=> ?_)) hm
 subst e;cases r3;refine wpAny_truthy_bool ?_;cases k with
 |false=>
  obtain⟨k',e',q'⟩:=q3;cases e';exact ite_ff ⟨H3,I3,q'⟩
 |true=>
  refine ite_tt (test_last (thn (hc pins s3 σ H3 _ I3 q3) λw' s4 ⟨z',H4,I4,r4,q4⟩=>thn (ho' pins s4 σ H4 y z' u w' _ I4 r2 r4 q4) λd' s5 ⟨z2,H5,I5,r5,k2,e2,q5⟩=> ?_));subst e2;cases r5;exact wpAny_truthy_bool ⟨H5,I5,q5⟩
noncomputable def ckZ(K:FZ)(x:V)(H:Hp)(k:Bool):Prop:=
 match x with
 | .non=>k=false
 | .bl b=>k=b
 | .int i=>k=(i !=0)
 | .str y=>y.length<=sizeLine/\k=((y.length:Int) !=0)
 | .byt y=>y.size<=sizeLine/\k=((y.size:Int) !=0)
 | .ref p=>(∃xs,SqL K H p xs/\k= !xs.isEmpty)\/(∃xs,SqT K H p xs/\k= !xs.isEmpty)\/∃kvs,H p=some (.dK kvs)/\k= !kvs.isEmpty
 |_=>False
theorem PD{κ:Type}{kvs:List (κ×V)}{vs:List (κ×Value)}(r:KV kvs vs):(!vs.isEmpty)= !kvs.isEmpty:=by
 cases r<;>rfl
theorem JA{xs:List V}{its:List Value}(r:Vals xs its):(!its.toArray.isEmpty)= !xs.isEmpty:=by
 cases r<;>simp
theorem GN:(sizeLine:Nat)<2^63:=by rw[sizeLine_eq];decide
theorem b5Z:dkZ X (λx H Q=>∃k,ckZ X.K x H k/\Q k H):=by
 intro pins s σ H x v Q I rx h;obtain⟨k,e,q⟩:=h;have hl:=GN;have hs:sizeLine=16777216:=sizeLine_eq;cases x with
 |non=>
  cases rx;have e':k=false:=e;subst e';exact truthy_none ⟨H,I,q⟩
 |bl b=>
  cases rx;have e':k=b:=e;subst e';exact wpAny_truthy_bool ⟨H,I,q⟩
 |int i=>
  obtain⟨t,rfl⟩:=rx;have e':k=(i !=0):=e;subst e';exact PySem.P.truthy_int ⟨H,I,q⟩
 |str y=>
  obtain⟨t,rfl⟩:=rx;obtain⟨hy,e'⟩:y.length<=sizeLine/\k=((y.length:Int) !=0):=e;subst e';exact PySem.P.truthy_str (by omega) ⟨H,I.tok _,q⟩
 |byt y=>
  obtain⟨t,rfl⟩:=rx;obtain⟨hy,e'⟩:y.size<=sizeLine/\k=((y.size:Int) !=0):=e;subst e';exact PySem.W.truthy_bytes (by omega) ⟨H,I.tok _,q⟩
 |ref p=>
  cases rx;have e':(∃xs,SqL X.K H p xs/\k= !xs.isEmpty)\/(∃xs,SqT X.K H p xs/\k= !xs.isEmpty)\/∃kvs,H p=some (.dK kvs)/\k= !kvs.isEmpty:=e;rcases e' with⟨xs,hx,e'⟩|⟨xs,hx,e'⟩|⟨kvs,hx,e'⟩
  ·subst e';obtain⟨its,r,pl,hz⟩:=I.list hx;have hlen:=r.length;exact wpAny_truthy_list pl.isList (by simp only[size_toArray];omega) ⟨H,I.tok _,by rw[JA r];exact q⟩
  ·subst e';obtain⟨its,r,pl,hz⟩:=I.tuple hx;have hlen:=r.length;exact truthy_tuple pl (by simp only[size_toArray];omega) ⟨H,I.tok _,by rw[JA r];exact q⟩
  ·subst e';obtain⟨hz,hS,vs,r,m⟩:kvs.length<=sizeLine/\(p==sysModules)=false/\∃vs,KV kvs vs/\s.heap.DictOf (M8 X.prog X.w) p vs:=I.hok p _ hx;have hlen:kvs.length=vs.length:=Paired.length r;exact wpAny_truthy_dict hS m (by omega) ⟨H,I.tok _,by rw[PD r];exact q⟩
 |_=>exact(show False from e).elim
theorem YR(ha:PE X a ta)(he:∀whole,isTrue a X.env whole=(do let v<-whole;standAt a.pos;holding [v] (truthy v))):
  PT X a (fun σ H Q=>ta σ H λx H'=>∃k,ckZ X.K x H' k/\Q k H'):=by
 intro pins s σ H Q I h;exact isTrue_plain (thn (ha pins s σ H _ I h) λv s1 ⟨x,H1,I1,r1,q1⟩=>b5Z pins s1 σ H1 x v Q I1 r1 q1) (he _)
theorem op_add_str:OpR X (binaryOp .Add) (λx y H Q=>∃i j,x=.str i/\y=.str j/\i.length+j.length<=sizeLine/\Q (.str (i++j)) H):=by
 intro pins s σ H x y v u Q I rx ry h;obtain⟨i,j,rfl,rfl,hz,q⟩:=h;obtain⟨t,rfl⟩:=rx;obtain⟨t',rfl⟩:=ry;exact add_str (λt' tk=>⟨.str (i++j),H,I.tok _,⟨_,rfl⟩,q⟩) hz
theorem BR{x:V}{us:List Value}(r:Vals [x] us):∃u,us=[u]/\RelV x u:=by
 cases r with
 |cons r1 r2=>cases r2;exact⟨_,rfl,r1⟩
theorem cEZ{x y:V}{us:List Value}(r:Vals [x,y] us):∃u w',us=[u,w']/\RelV x u/\RelV y w':=by
 cases r with
 |cons r1 r2=>
  cases r2 with
  |cons r3 r4=>cases r4;exact⟨_,_,rfl,r1,r3⟩
theorem NV:W4 X (.builtin "abs") (λxs H Q=>∃i,xs=[.int i]/\Q (.int (if i<0 then -i else i)) H):=by
 intro pins s σ H xs us Q I r h;obtain⟨i,rfl,q⟩:=h;obtain⟨u,rfl,t,rfl⟩:=BR r;exact call_abs_int λu tk=>⟨.int (if i<0 then -i else i),H,I.tok _,⟨_,rfl⟩,q⟩
theorem TY:W4 X (.type "int") (λxs H Q=>(∃i,xs=[.int i]/\Q (.int i) H)\/∃k,xs=[.bl k]/\Q (.int (if k then 1 else 0)) H):=by
 intro pins s σ H xs us Q I r h;rcases h with⟨i,rfl,q⟩|⟨k,rfl,q⟩
 ·obtain⟨u,rfl,t,rfl⟩:=BR r;exact call_int_int ⟨.int i,H,I,⟨_,rfl⟩,q⟩
 ·obtain⟨u,rfl,r1⟩:=BR r;cases r1;exact call_int_bool ⟨.int (if k then 1 else 0),H,I.tok _,⟨_,rfl⟩,q⟩
noncomputable def dfZ(K:FZ)(x:V)(H:Hp)(n:Nat):Prop:=
 match x with
 | .str y=>y.length<=sizeLine/\n=y.length
 | .byt y=>y.size<=sizeLine/\n=y.size
 | .ref p=>(∃xs,SqL K H p xs/\n=xs.length)\/∃xs,SqT K H p xs/\n=xs.length
 |_=>False
inductive rLen (K:FZ) (xs:List V) (H:Hp) (Q:VK):Prop
 |mk:∀x n,(xs=[x])->(dfZ K x H n)->(Q (.int n) H)->rLen K xs H Q
theorem VW:W4 X (.builtin "len") (rLen X.K):=by
 intro pins s σ H xs us Q I r h;obtain⟨x,n,rfl,e,q⟩:=h;obtain⟨u,rfl,rx⟩:=BR r;have hl:=GN;have hs:sizeLine=16777216:=sizeLine_eq;cases x with
 |str y=>
  obtain⟨t,rfl⟩:=rx;obtain⟨hy,e'⟩:y.length<=sizeLine/\n=y.length:=e;subst e';exact len_str (by omega) ⟨.int _,H,I.tok _,⟨_,rfl⟩,q⟩
 |byt y=>
  obtain⟨t,rfl⟩:=rx;obtain⟨hy,e'⟩:y.size<=sizeLine/\n=y.size:=e;subst e';exact PySem.W.len_bytes (by omega) ⟨.int _,H,I.tok _,⟨_,rfl⟩,q⟩
 |ref p=>
  cases rx;have e':(∃xs,SqL X.K H p xs/\n=xs.length)\/∃xs,SqT X.K H p xs/\n=xs.length:=e;rcases e' with⟨xs,hx,e'⟩|⟨xs,hx,e'⟩
  ·subst e';obtain⟨its,r',pl,hz⟩:=I.list hx;have hlen:=r'.length;exact Calls.call_len_list pl.isList (by simp only[size_toArray];omega) ⟨.int xs.length,H,I.tok _,⟨_,by simp only[size_toArray];rw[hlen]⟩,q⟩
  ·subst e';obtain⟨its,r',pl,hz⟩:=I.tuple hx;have hlen:=r'.length;exact len_tuple pl (by simp only[size_toArray];omega) ⟨.int xs.length,H,I.tok _,⟨_,by simp only[size_toArray];rw[hlen]⟩,q⟩
 |_=>exact(show False from e).elim
end
structure ObjM (h:Heap) (x dx C:Addr) (mA:Str->Option Value):Prop where
 obj:h.get? x=some (PySem.W.instObj C dx)
 ns:h.Ns1 dx mA
 ne:dx≠x
theorem UK{h:Heap}{dx:Addr}{mA:Str->Option Value}(n:h.Ns1 dx mA):∃od,h.get? dx=some od/\∀name,lookIn name od=some (mA name):=by
 obtain⟨o,es,ep,ho,hd,hk,_,hm⟩:=n;refine⟨o,ho,λname=> ?_⟩;have e:=hm name;unfold nsFind findBy at e;rw[<-Array.find?_toList]at e;unfold lookIn;rw[hd]
 dsimp only
 split
 ·rename_i y q;rw[q]at e;exact congrArg some e
 ·rename_i q;rw[q]at e;have a:es.toList.any (·.refKey)=false:=by
   rw[List.any_eq_false];intro y hy;obtain⟨z,t,hkey⟩:=hk y (Array.mem_toList_iff.mp hy);simp[DictEntry.refKey,hkey]
  have a':¬es.toList.any (·.refKey)=true:=by rw[a];exact nZ
  rw[if_neg a'];exact congrArg some e
theorem ObjM.look{h:Heap}{x dx C:Addr}{mA:Str->Option Value}(I:ObjM h x dx C mA):∃od,PySem.W.InstAt h x (PySem.W.instObj C dx) C (some od)/\∀name,lookIn name od=some (mA name):=
 let⟨od,ho,hl⟩:=UK I.ns
 ⟨od,⟨I.obj,rfl,rfl,ho⟩,hl⟩
section
variable{prog:Program}{w:World}{A:Around}{E:Value->Shared->Prop}{s:Shared}{K:FZ}{x dx C f:Addr}{mA:Str->Option Value}{name:Str}{v:Value}
theorem WH{pl:Sem Bool}{Q:Value×List Value->Shared->Prop}(X:K.In s.heap)(I:ObjM s.heap x dx C mA)(hg:PySem.W.plainGet K C name=true)
  (hf:findIn K (.ref C) name=some (some (.ref f)))(ht:PySem.W.isFn K (.ref f)=true)(hv:mA name=none)(h:Q (.ref f,[.ref x]) s):
  wpAny (model prog w) A (getMethod (.ref x) name pl) Q E s:=by
 obtain⟨od,J,hl⟩:=I.look;exact PySem.W.method_fn X J (PySem.W.plainGet_of hg).1 (PySem.W.plainGet_of hg).2 hf (beq_iff_eq.mp ht) (by show(lookIn name od).map (·.isSome)=some false;rw[hl,hv];rfl) h
end
theorem RelO.some_of{v:V}{o:Option Value}(r:RelO (some v) o):∃u,o=some u/\RelV v u:=by
 cases o with
 |none=>exact(show False from r).elim
 |some u=>exact⟨u,rfl,r⟩
theorem RelO.none_of{o:Option Value}(r:RelO none o):o=none:=by
 cases o with
 |none=>rfl
 |some u=>exact(show False from r).elim
section
variable{P:Program}{w:World}{H H':Hp}{h h':Heap}{a C dx:Addr}{fs fs':List (Str×V)}
theorem RL(hok:HOk P w H h)(e:H a=some (.ins C dx fs)):∃mA,ObjM h a dx C mA/\(∀f,RelO (fs.lookup f) (mA f))/\PySem.Within mA (fs.map (·.1))/\fs.length<=1000/\H dx=some (.own a):=by
 obtain⟨d,z,ne,ob,mA,n,r,q⟩:=(show ObjOk P w H h a (.ins C dx fs)from hok a _ e);exact⟨mA,⟨ob,n,ne⟩,r,q,z,d⟩
end
structure Cls (K:FZ) (C:Addr):Prop where
 pg:PySem.W.plainGet K C Str.empty=true
 hd:PySem.W.hasDictIn K C=true
 po:PySem.W.plainOver K C=true
 sa:findIn K (.ref C) "__setattr__"=some (some (.builtin "object.__setattr__"))
theorem Cls.get{K:FZ}{C:Addr}(c:Cls K C)(f:Str):PySem.W.plainGet K C f=true:=c.pg
structure Meth (K:FZ) (C:Addr) (m:Str) (f:Addr):Prop where
 at_:findIn K (.ref C) m=some (some (.ref f))
 fn:PySem.W.isFn K (.ref f)=true
 kp:kZ K (.ref f)=true
section
variable{X:Cx}{pins:List (Addr×Obj)}{σ:St}{H:Hp}{s:Shared}{a C dx:Addr}{fs:List (Str×V)}{f:Str}{v:V}{A:Around}{E:Value->Shared->Prop}
theorem IQ{m:Str}{g:Addr}{pl:Sem Bool}{Q:Value×List Value->Shared->Prop}(I:Inv X pins σ H s)(e:H a=some (.ins C dx fs))(c:Cls X.K C)(k:Meth X.K C m g)(l:fs.lookup m=none)
  (h:Q (.ref g,[.ref a]) s):wpAny (model X.prog X.w) A (getMethod (.ref a) m pl) Q E s:=by
 obtain⟨mA,O,r,_,_,_⟩:=RL I.hok e;have hn:mA m=none:=RelO.none_of (by rw[<-l];exact r m);exact WH I.kIn O (c.get m) k.at_ k.fn hn h
variable{o e value:Expr}{pos pos' tpos:Pos}{ta tv:TE}
variable{Q:Value->Shared->Prop}{c:Value}{b:Bool}
inductive TyOf(K:FZ)(H:Hp):V->Value->Prop where
 |non:TyOf K H .non (.type "NoneType")
 |bl (x:Bool):TyOf K H (.bl x) (.type "bool")
 |int (i:Int):TyOf K H (.int i) (.type "int")
 |str (x:Str):TyOf K H (.str x) (.type "str")
 |flt (x:UInt64):TyOf K H (.flt x) (.type "float")
 |lst {a:Addr} {xs:List V} (e:H a=some (.lst xs)):TyOf K H (.ref a) (.type "list")
 |frz {a:Addr} {o:Obj} {xs:List V} (e:H a=some (.frz o (.lst xs))):TyOf K H (.ref a) (.type "list")
 |tup {a:Addr} {xs:List V} (e:H a=some (.tup xs)):TyOf K H (.ref a) (.type "tuple")
 |dK {a:Addr} {kvs:List (Key×V)} (e:H a=some (.dK kvs)):TyOf K H (.ref a) (.type "dict")
 |dT {a:Addr} {kvs:List (List Key×V)} (e:H a=some (.dT kvs)):TyOf K H (.ref a) (.type "dict")
 |ins {a C dx:Addr} {fs:List (Str×V)} (e:H a=some (.ins C dx fs)) (cl:Cls K C) (ha:findIn K (.ref C) "__class__"=some (some (.builtin "object.__class__")))
   (hn:PySem.W.specialIn K (.builtin "object.__class__") "__get__"=some (some (.builtin "getset_descriptor.__get__"))) (htk:PySem.W.takesIn K (.builtin "object.__class__")=some true)
   (hm:PySem.W.mroIn K C (.type "object")=some true):TyOf K H (.ref a) (.ref C)
theorem UA{x:V}{u t:Value}(I:Inv X pins σ H s)(rx:RelV x u)(ty:TyOf X.K H x t)(e:kitOne X.K t c=some b)(h:∀tk,Q (.bool b) {s with toks:=tk}):
  wpAny (model X.prog X.w) A (call (.builtin "isinstance") [u,c]) Q E s:=by
 cases ty with
 |non=>cases(show u=Value.none from rx);exact kia_one PySem.W.kitx_none I.kIn True.intro e (λz=>nomatch z) h
 |bl y=>cases(show u=Value.bool y from rx);exact kia_one PySem.W.kitx_bool I.kIn True.intro e (λz=>nomatch z) h
 |int i=>obtain⟨t,q⟩:=(show∃t,u=Value.int i t from rx);cases q;exact kia_one PySem.W.kitx_int I.kIn True.intro e (λz=>nomatch z) h
 |str y=>obtain⟨t,q⟩:=(show∃t,u=Value.str y t from rx);cases q;exact kia_one PySem.W.kitx_str I.kIn True.intro e (λz=>nomatch z) h
 |flt y=>obtain⟨t,q⟩:=(show∃t,u=Value.float y t from rx);cases q;exact kia_one PySem.W.kitx_float I.kIn True.intro e (λz=>nomatch z) h
 | @lst a xs ea=>
  cases(show u=Value.ref a from rx);obtain⟨_,_,n,_,h1⟩:=(show ObjOk X.prog X.w H s.heap a (.lst xs)from I.hok a _ ea);exact kia_one PySem.W.kitx_list I.kIn ⟨_,h1,rfl⟩ e (λz=>nomatch z) h
 | @frz a ob xs ea=>
  cases(show u=Value.ref a from rx);obtain⟨_,_,_,n,_,h1⟩:=(show ObjOk X.prog X.w H s.heap a (.frz ob (.lst xs))from I.hok a _ ea);exact kia_one PySem.W.kitx_list I.kIn ⟨_,h1,rfl⟩ e (λz=>nomatch z) h
 | @tup a xs ea=>
  cases(show u=Value.ref a from rx);obtain⟨_,_,_,p⟩:=(show ObjOk X.prog X.w H s.heap a (.tup xs)from I.hok a _ ea);obtain⟨o,h1,h2,_⟩:=p;exact kia_one PySem.W.kitx_tuple I.kIn ⟨o,h1,h2⟩ e (λz=>nomatch z) h
 | @dK a kvs ea=>
  cases(show u=Value.ref a from rx);obtain⟨_,_,vs,_,p⟩:=(show ObjOk X.prog X.w H s.heap a (.dK kvs)from I.hok a _ ea);obtain⟨o,es,ep,h1,h2,_⟩:=p;exact kia_one PySem.W.kitx_dict I.kIn ⟨o,h1,h2.1⟩ e (λz=>nomatch z) h
 | @dT a kvs ea=>
  cases(show u=Value.ref a from rx);obtain⟨_,_,xs,_,o,es,ep,h1,h2,_⟩:=(show ObjOk X.prog X.w H s.heap a (.dT kvs)from I.hok a _ ea);exact kia_one PySem.W.kitx_dict I.kIn ⟨o,h1,h2.1⟩ e (λz=>nomatch z) h
 | @ins a C dx fs ea cl ha hn htk hm=>
  cases(show u=Value.ref a from rx);obtain⟨mA,O,_⟩:=RL I.hok ea;obtain⟨od,J,_⟩:=O.look;exact kia_one (PySem.W.kitx_own (cl.get _) cl.hd ha hn htk hm) I.kIn J e (λz=>nomatch z) h
end
structure Room (k:Nat) (A:Around):Prop where
 hd:A.handled=none
 dp:A.depth+2*k+5<recursionLimit
 un:A.units+16*k+200<cLine
theorem Room.mono{j k:Nat}{A:Around}(r:Room k A)(h:j<=k):Room j A:=⟨r.hd,by have:=r.dp;omega,by have:=r.un;omega⟩
theorem Room.deeper{k:Nat}{A:Around}(r:Room (k+1) A)(env:Env):Room k (A.deeper env):=
 ⟨r.hd,by have:=r.dp;show A.depth+1+2*k+5<_;omega,by have:=r.un;show A.units+3+16*k+200<_;omega⟩
theorem Room.depth{k:Nat}{A:Around}(r:Room k A):A.depth<recursionLimit:=by have:=r.dp;omega
theorem Room.units{k:Nat}{A:Around}(r:Room k A):A.units+64<cLine:=by have:=r.un;omega
theorem Room.units0{k:Nat}{A:Around}(r:Room k A):A.units<cLine:=by have:=r.un;omega
noncomputable def OU:TA:=λ_ H Q=>Q [] H
noncomputable def W3(ta:TE)(tr:TA):TA:=fun σ H Q=>ta σ H λx H1=>tr σ H1 λxs H2=>Q (x::xs) H2
section
variable{X:Cx}{e:Expr}{es:List Expr}{te:TE}{t:TA}{pos:Pos}
theorem A4:PA X [] OU:=λ_ _ _ _ H Q I h=>Calls.spliced_nil ⟨[],H,I,.nil,h⟩
theorem A0(ha:PE X e te)(hr:PA X es t)(hs:starEach (e::es) X.env=(false,eval e X.env)::starEach es X.env:=by rfl):PA X (e::es) (W3 te t):=by
 intro pos pins s σ H Q I h;rw[hs];show wpAny _ _ (spliced ((false,eval e X.env)::backTo pos (starEach es X.env))) _ _ s;refine Calls.spliced_cons (thn (ha pins s σ H _ I h) λu s1 ⟨x,H1,I1,r1,q1⟩=> ?_);exact thn (hr pos pins s1 σ H1 _ I1 q1) λus s2 ⟨xs,H2,I2,r2,q2⟩=>⟨x::xs,H2,I2,.cons r1 r2,q2⟩
inductive tTupW (Q:VK) (xs:List V) (H1:Hp):Prop
 |mk:(xs.length<=sizeLine)->(∀p,H1 p=none->Q (.ref p) (upd H1 p (.tup xs)))->tTupW Q xs H1
noncomputable def dlZ(t:TA):TE:=fun σ H Q=>t σ H λxs H1=>tTupW Q xs H1
inductive tLstW (Q:VK) (xs:List V) (H1:Hp):Prop
 |mk:(xs.length<=sizeLine)->(∀p,H1 p=none->Q (.ref p) (upd H1 p (.lst xs)))->tLstW Q xs H1
noncomputable def cAZ(t:TA):TE:=fun σ H Q=>t σ H λxs H1=>tLstW Q xs H1
theorem A9{x1}(h:PA X es t):PE X (.Tuple es x1 pos) (dlZ t):=by
 intro pins s σ H Q I hq;refine wpAny_Tuple_spliced (thn (h pos pins s σ H _ I hq) λus s1 ⟨xs,H1,I1,r,z,q⟩=>⟨by rw[<-r.length];exact z, ?_⟩);have hf:H1 s1.heap.objs.size=none:=I1.hok.fresh (Nat.le_refl _);refine⟨.ref s1.heap.objs.size,upd H1 s1.heap.objs.size (.tup xs),I1.laid (t':=s1.toks) (λb u e=>gZ _ e) (Nat.le_refl _) ?_,rfl,q _ hf⟩;exact⟨z,us,r,⟨_,get?_push_size _ rfl,rfl,_,rfl⟩⟩
theorem E5(h:PA X es t):PE X (.List es pos) (cAZ t):=by
 intro pins s σ H Q I hq;refine wpAny_List_spliced (thn (h pos pins s σ H _ I hq) λus s1 ⟨xs,H1,I1,r,z,q⟩=>⟨by rw[<-r.length];exact z, ?_⟩);have hf:H1 s1.heap.objs.size=none:=I1.hok.fresh (Nat.le_refl _);refine⟨.ref s1.heap.objs.size,upd H1 s1.heap.objs.size (.lst xs),I1.laid (t':=s1.toks) (λb u e=>gZ _ e) (Nat.le_refl _) ?_,rfl,q _ hf⟩;exact⟨z,us,0,r,get?_push_size _ rfl⟩
end
noncomputable abbrev Sp:=List V->Hp->VK->XK->Prop
noncomputable abbrev CXT:=List Env->Hp->Shared->XK->Value->Shared->Prop
structure Env0 (P:Program) (w:World) (K:FZ) (mg:Str->Option Value) (base:Heap) (A:Around) (outer:List Env) (s:Shared) (H:Hp):Prop where
 frames:A.frames=some outer
 mod:Mod K mg base
 bs:∀b o,base.get? b=some o->s.heap.get? b=some o/\H b=none
 bsz:base.objs.size<=s.heap.objs.size
 funs:s.heap.FunFrames base outer
 frf:∀b∈frs outer,H b=none
 hok:HOk P w H s.heap
 bare:AllBare s.gens
noncomputable def CE(outer:List Env)(P:Program)(w:World)(H:Hp)(s:Shared)(Q:VK)(u:Value)(s':Shared):Prop:=
 ∃v H',s'.os=s.os/\AllBare s'.gens/\Un (frs outer) [] H H' s.heap s'.heap/\HOk P w H' s'.heap/\RelV v u/\Q v H'
noncomputable def CR(CX:CXT)(outer:List Env)(P:Program)(w:World)(H:Hp)(s:Shared)(Q:VK)(E:XK)(r:Result)(s':Shared):Prop:=
 match r with
 | .ok (.ret u)=>CE outer P w H s Q u s'
 | .ok _=>False
 | .error e=>CX outer H s E e s'
structure FnOk (P:Program) (w:World) (K:FZ) (mg:Str->Option Value) (base:Heap) (CX:CXT) (k:Nat) (f:Addr) (fd:FuncData) (ps:List Str) (sp:Sp):Prop where
 len:∀vs H Q E,sp vs H Q E->vs.length=ps.length
 run:∀(A:Around) (outer:List Env) (s:Shared) (H:Hp) (args:Args) (us:List Value) (vs:List V) (Q:VK) (E:XK),Room k A->Env0 P w K mg base A outer s H->BindsTo s fd args (ps.zip us)->Vals vs us->sp vs H Q E->
  codeAny (model P w) A (.call (.ref f) args) (CR CX outer P w H s Q E) s
section
variable{X:Cx}{pins:List (Addr×Obj)}{σ:St}{H:Hp}{s s':Shared}
theorem Inv.env0(I:Inv X pins σ H s):Env0 X.prog X.w X.K X.mg X.base X.A X.stack s H:=
 ⟨I.ok.frames,I.ok.mod,I.bs,Nat.le_trans I.ok.bsz I.sz,I.stack,I.stkFree,I.hok,I.bare⟩
theorem Inv.after{Q:VK}{u:Value}(I:Inv X pins σ H s)(h:CE X.stack X.prog X.w H s Q u s'):EP X pins σ Q u s':=by
 obtain⟨v,H',os,bare,un,hok,r,q⟩:=h;obtain⟨hh,g,d,t,os'⟩:=s';obtain rfl:os'=s.os:=os;exact⟨v,H',I.call (h':=hh) (g':=g) (d':=d) (t':=t) (ch:=[]) un hok bare (λb z=>absurd z (by simp)),r,q⟩
end
noncomputable def WW(sp:Sp)(dvs:List V)(E:XK)(t:TA):TE:=fun σ H Q=>t σ H λvs H1=>sp (vs++dvs) H1 Q E
inductive tMethW (C:Addr) (m:Str) (sp:Sp) (dvs:List V) (E:XK) (t:TA) (σ:St) (Q:VK) (x:V) (H1:Hp):Prop
 |mk:∀a dx fs,(x=.ref a)->(H1 a=some (.ins C dx fs))->(fs.lookup m=none)->(t σ H1 λvs H2=>sp (x::(vs++dvs)) H2 Q E)->tMethW C m sp dvs E t σ Q x H1
noncomputable def RO(C:Addr)(m:Str)(sp:Sp)(dvs:List V)(E:XK)(ta:TE)(t:TA):TE:=fun σ H Q=>ta σ H λx H1=>tMethW C m sp dvs E t σ Q x H1
noncomputable def Binds(K:FZ)(fd:FuncData)(ps:List Str)(ds:List Value):Prop:=
 ∀(s:Shared) (us:List Value),K.In s.heap->(us++ds).length=ps.length->BindsTo s fd ⟨us,[]⟩ (ps.zip (us++ds))
theorem Binds.all{K:FZ}{fd:FuncData}{ps:List Str}(h:∀us:List Value,us.length=ps.length->bindArgs fd ⟨us,[]⟩=pure (ps.zip us)):Binds K fd ps []:=λs us _ hl=>by
 rw[append_nil]at hl⊢;exact .of_eq (h us hl)
noncomputable def GB(CX:CXT)(X:Cx)(E:XK):Prop:=∀(pins:List (Addr×Obj)) (σ:St) (H:Hp) (s:Shared) (e:Value) (s':Shared),Inv X pins σ H s->CX X.stack H s E e s'->X.xe e s'
section
variable{X:Cx}{CX:CXT}{k:Nat}{f C:Addr}{fd:FuncData}{ps:List Str}{sp:Sp}{dvs:List V}{ds:List Value}{E:XK}{x m:Str}{p pos apos:Pos}{e o:Expr}{es:List Expr}{ta:TE}{t:TA}
theorem LL{pins:List (Addr×Obj)}{σ:St}{H:Hp}{s:Shared}{Q:VK}{us:List Value}{vs:List V}(F:FnOk X.prog X.w X.K X.mg X.base CX k f fd ps sp)(hr:Room k X.A)(hb:Binds X.K fd ps ds)(hd:Vals dvs ds)(hx:GB CX X E)
  (I:Inv X pins σ H s)(r:Vals vs us)(h:sp (vs++dvs) H Q E):wpAny (model X.prog X.w) X.A (call (.ref f) us) (EP X pins σ Q) X.xe s:=by
 have r2:Vals (vs++dvs) (us++ds):=r.append hd;have hl:(us++ds).length=ps.length:=by rw[<-r2.length];exact F.len _ _ _ _ h
 refine wpAny_call (codeAny_mono (F.run X.A X.stack s H ⟨us,[]⟩ (us++ds) (vs++dvs) Q E hr I.env0 (hb s us I.kIn hl) r2 h) λr s' hq=> ?_);cases r with
 |error e=>exact hx pins σ H s e s' I hq
 |ok fl=>
  cases fl with
  |ret u=>exact I.after hq
  |next=>exact False.elim hq
  |brk=>exact False.elim hq
  |cont=>exact False.elim hq
theorem C0(F:FnOk X.prog X.w X.K X.mg X.base CX k f fd ps sp)(hr:Room k X.A)(hg:Gl X x)(hm:X.mg x=some (.ref f))(hk:kZ X.K (.ref f)=true)(hb:Binds X.K fd ps ds)(hd:Vals dvs ds)(hx:GB CX X E)
  (ha:PA X (e::es) t)(hdb:(x==("__debug__":Str))=false:=by decide)(he:starEach (e::es) X.env=(false,eval e X.env)::starEach es X.env:=by rfl)(hpl:(backTo pos (starEach es X.env)).any (·.1)=false:=by rfl):
  PE X (.Call (.Name x p) (e::es) [] pos) (WW sp dvs E t):=by
 intro pins s σ H Q I h;refine wpAny_Call_Name_kw (SA I hg hm ?_ hdb);refine PySem.W.callWith_K (h₀:=X.base) I.ok.mod.kin hk (thn (ha pos pins s σ H _ I h) λus s1 ⟨vs,H1,I1,r,q⟩=>⟨I1.kIn, ?_⟩) he hpl;exact LL F hr hb hd hx I1 r q
theorem azZ{pl:Sem Bool}(he:PE X o ta)(c:Cls X.K C)(hm:Meth X.K C m f)(F:FnOk X.prog X.w X.K X.mg X.base CX k f fd ps sp)(hr:Room k X.A)(hb:Binds X.K fd ps ds)(hd:Vals dvs ds)(hx:GB CX X E)(ha:PA X (e::es) t)
  (hst:starEach (e::es) X.env=(false,eval e X.env)::starEach es X.env:=by rfl)(hpl:(backTo pos (starEach es X.env)).any (·.1)=false:=by rfl)
  (ht:eval (.Call (.Attribute o m apos) (e::es) [] pos) X.env=(do
   let ov<-eval o X.env
   standAt apos.atName
   let(f,first)<-holding [ov] (getMethod ov m pl)
   callWith pos f first (backTo pos (starEach (e::es) X.env)) (backToKw pos (keywordEach [] X.env))):=by rfl):
  PE X (.Call (.Attribute o m apos) (e::es) [] pos) (RO C m sp dvs E ta t):=by
 intro pins s σ H Q I h;refine PySem.W.methodCall_KW (pl:=pl) (thn (he pins s σ H _ I h) λu s1 ⟨x,H1,I1,rx,a,dx,fs,ex,ea,l,q⟩=> ?_) ht;subst ex;obtain rfl:u=Value.ref a:=rx;refine IQ I1 ea c hm l ?_;refine PySem.W.callWith_K (first:=[.ref a]) (h₀:=X.base) I.ok.mod.kin hm.kp (thn (ha pos pins s1 σ H1 _ I1 q) λus s2 ⟨vs,H2,I2,r,q2⟩=>⟨I2.kIn, ?_⟩) hst hpl;exact LL (us:=.ref a::us) (vs:=.ref a::vs) F hr hb hd hx I2 (.cons rfl r) q2
theorem XX{pl:Sem Bool}(he:PE X o ta)(c:Cls X.K C)(hm:Meth X.K C m f)(F:FnOk X.prog X.w X.K X.mg X.base CX k f fd ps sp)(hr:Room k X.A)(hb:Binds X.K fd ps ds)(hd:Vals dvs ds)(hx:GB CX X E)
  (ht:eval (.Call (.Attribute o m apos) [] [] pos) X.env=(do
   let ov<-eval o X.env
   standAt apos.atName
   let(f,first)<-holding [ov] (getMethod ov m pl)
   callWith pos f first (backTo pos (starEach [] X.env)) (backToKw pos (keywordEach [] X.env))):=by rfl):
  PE X (.Call (.Attribute o m apos) [] [] pos) (RO C m sp dvs E ta OU):=by
 intro pins s σ H Q I h;refine PySem.W.methodCall_KW (pl:=pl) (thn (he pins s σ H _ I h) λu s1 ⟨x,H1,I1,rx,a,dx,fs,ex,ea,l,q⟩=> ?_) ht;subst ex;obtain rfl:u=Value.ref a:=rx;refine IQ I1 ea c hm l ?_;exact PySem.W.callWith_K0 (first:=[.ref a]) I1.kIn hm.kp (LL (us:=[.ref a]) (vs:=[.ref a]) F hr hb hd hx I1 (.cons rfl .nil) q)
structure Mk (K:FZ) (C f:Addr):Prop where
 makes:PySem.W.makesIn K C=true
 init:findIn K (.ref C) "__init__"=some (some (.ref f))
 fn:PySem.W.isFn K (.ref f)=true
 kp:kZ K (.ref C)=true
variable{ks:List Str}{kpos:Pos}{kws:List Keyword}{te:TE}{tk:TA}{nm:Option Str}
variable{g:List Value->List Value->List Value}{gV:List V->List V->List V}
end
structure FnScope(N P:List Str)(sc:Scope):Prop where
 kind:sc.kind=.function
 co:sc.isCoroutine=false
 gen:sc.isGenerator=false
 nd:N.Nodup
 pre:N.take P.length=P
 par:∀x∈P,sc.names.lookup x=some .local\/sc.names.lookup x=some .cell
 nofree:∀y∈sc.names,y.2≠ .free
theorem KB{kindOf:Str->Option NameKind}{x:Str}:∀ {binds:List (Str×Value)} {m:Str->Option Value},(∀v,(x,v)∉binds)->bindL kindOf binds m x=m x
 | [],_,_=>rfl
 |(n,v)::r,m,h=>by
  unfold bindL;rw[KB λw hw=>h w (mem_cons_of_mem _ hw)];split
  ·have:x≠n:=by rintro rfl;exact h v mem_cons_self
   simp[this]
  ·rfl
theorem KH{kindOf:Str->Option NameKind}{x:Str}:∀ {binds:List (Str×Value)} {m:Str->Option Value},(∀v,(x,v)∉binds)->bindC kindOf binds m x=m x
 | [],_,_=>rfl
 |(n,v)::r,m,h=>by
  unfold bindC;rw[KH λw hw=>h w (mem_cons_of_mem _ hw)];split
  ·rfl
  ·have:x≠n:=by rintro rfl;exact h v mem_cons_self
   simp[this]
theorem KS{kindOf:Str->Option NameKind}{x:Str}{v:Value}:∀ {P:List Str} {vs:List Value} {i:Nat} {m:Str->Option Value},P.Nodup->P[i]? =some x->vs[i]? =some v->kindOf x=some .local->
  bindL kindOf (P.zip vs) m x=some v
 | [],_,_,_,_,h,_,_=>by simp at h
 |_::_,[],_,_,_,_,h,_=>by simp at h
 |p::P,w::vs,0,m,nd,h1,h2,hk=>by
  simp at h1 h2;subst h1;subst h2;show bindL kindOf ((p,w)::P.zip vs) m p=_;unfold bindL;rw[KB λv hv=>(nodup_cons.mp nd).1 (List.of_mem_zip hv).1,if_pos hk];simp
 |p::P,w::vs,i+1,m,nd,h1,h2,hk=>by
  show bindL kindOf ((p,w)::P.zip vs) m x=_;unfold bindL;exact KS (i:=i) (nodup_cons.mp nd).2 (by simpa using h1) (by simpa using h2) hk
theorem KL{kindOf:Str->Option NameKind}{x:Str}{v:Value}:∀ {P:List Str} {vs:List Value} {i:Nat} {m:Str->Option Value},P.Nodup->P[i]? =some x->vs[i]? =some v->kindOf x≠some .local->
  bindC kindOf (P.zip vs) m x=some v
 | [],_,_,_,_,h,_,_=>by simp at h
 |_::_,[],_,_,_,_,h,_=>by simp at h
 |p::P,w::vs,0,m,nd,h1,h2,hk=>by
  simp at h1 h2;subst h1;subst h2;show bindC kindOf ((p,w)::P.zip vs) m p=_;unfold bindC;rw[KH λv hv=>(nodup_cons.mp nd).1 (List.of_mem_zip hv).1,if_neg hk];simp
 |p::P,w::vs,i+1,m,nd,h1,h2,hk=>by
  show bindC kindOf ((p,w)::P.zip vs) m x=_;unfold bindC;exact KL (i:=i) (nodup_cons.mp nd).2 (by simpa using h1) (by simpa using h2) hk
noncomputable def start(N:List Str)(vs:List V):St:=vs.map some++List.replicate (N.length - vs.length) none
noncomputable def PP(CX:CXT)(P:Program)(w:World)(K:FZ)(mg:Str->Option Value)(base:Heap)(N:List Str)(qual:Str)(scope:Scope)(f:Addr)(cd:Value)(A:Around)(outer:List Env)(s:Shared)(H:Hp)(E:XK):Cx where
 prog:=P
 w:=w
 K:=K
 mg:=mg
 base:=base
 A:=A.deeper (envOfC qual scope s.heap.objs.size f cd)
 N:=N
 s₀:=s
 H₀:=H
 env:=envOfC qual scope s.heap.objs.size f cd
 outer:=outer
 stack:=envOfC qual scope s.heap.objs.size f cd::outer
 ex:=[]
 calm:=true
 fn:=λ_=>true
 pn:=[]
 xe:=λe s'=>wpAny (model P w) (A.deeper (envOfC qual scope s.heap.objs.size f cd)) (leaving (envOfC qual scope s.heap.objs.size f cd) e) (λ_ s''=>CX outer H s E e s'') (λe' s''=>CX outer H s E e' s'') s'
theorem NU{sc:Scope}{n:Nat}{x:Str}(h:sc.names.lookup x=some .cell):∃c,(cellsFrom n sc.names []).lookup x=some c:=by
 have q:=PySem.W.cellsFrom_some sc.names n [] (.inl h);exact Option.isSome_iff_exists.mp q
theorem UI{CX:CXT}{P:Program}{w:World}{K:FZ}{mg:Str->Option Value}{base:Heap}{N ps:List Str}{qual:Str}{scope:Scope}{f:Addr}{cd:Value}{A:Around}{outer:List Env}{s s1:Shared}{H:Hp}{E:XK}{us:List Value}{vs:List V}
  (S:FnScope N ps scope)(hd:A.handled=none)(e0:Env0 P w K mg base A outer s H)(hl:vs.length=ps.length)(r:Vals vs us)
  (x:InCallC s s.heap.objs.size (bindL (envOfC qual scope s.heap.objs.size f cd).kindOf (ps.zip us) λ_=>none) (cellsFrom (s.heap.objs.size+1) scope.names []) (bindC (envOfC qual scope s.heap.objs.size f cd).kindOf (ps.zip us) λ_=>none) s1):
  Inv (PP CX P w K mg base N qual scope f cd A outer s H E) [] (start N vs) H s1:=by
 have hpl:ps.length<=N.length:=by have:=congrArg List.length S.pre;rw[length_take]at this;omega
 obtain⟨h1,tk,rfl,hk⟩:=x.done;have noA:∀b:Addr,b∉(PP CX P w K mg base N qual scope f cd A outer s H E).ex:=λb z=>absurd (show b∈([]:List Addr)from z) (by simp);refine⟨⟨e0.mod,S.kind,rfl,rfl,Nat.le_refl _,λy z c h1 h2=> ?_,λy hy=> ?_,λy c _ h=> ?_,λ_=>hd,Around.frames_deeper e0.frames,.inr ⟨rfl,rfl⟩,λb z=>absurd z (noA b),e0.bs,e0.bsz,λb _ _=>noA b,λb z=>absurd z (noA b),e0.funs,e0.frf⟩,
  rfl,e0.bare,Un.kept hk,⟨_,x.toInCall.ns,λi y v h1 h2 h3=> ?_⟩,λy c h=>⟨_,x.cell y c h⟩,e0.hok.fresh (Nat.le_refl _),λy c h=> ?_,λp hp=>absurd (show p∈([]:List (Addr×Obj))from hp) (by simp),e0.hok.kept hk, ?_⟩
 ·exact name_of_addr x.apart (PySem.mem_of_lookup h1) (PySem.mem_of_lookup h2)
 ·have hy:scope.names.lookup y=some .cell\/scope.names.lookup y=some .free:=hy;rcases hy with hy|hy
  ·exact NU hy
  ·exact absurd rfl (S.nofree _ (PySem.mem_of_lookup hy))
 ·exact Nat.le_of_lt (x.above y c (PySem.mem_of_lookup h))
 ·have hi:i<vs.length:=by
   unfold start at h2;by_cases hi:i<vs.length
   ·exact hi
   ·rw[List.getElem?_append_right (by simpa using hi)]at h2;rw[List.getElem?_replicate]at h2;split at h2<;>cases h2
  have ha:vs[i]? =some v:=by
   unfold start at h2;rw[List.getElem?_append_left (by simpa using hi),getElem?_map]at h2;cases e:vs[i]? with
   |none=>rw[e]at h2;cases h2
   |some a=>rw[e]at h2;cases h2;rfl
  obtain⟨u,hu,rv⟩:=r.get ha;have hp:ps[i]? =some y:=by
   rw[<-S.pre,List.getElem?_take_of_lt (by omega)];exact h1
  have ndP:ps.Nodup:=by rw[<-S.pre];exact S.nd.sublist (List.take_sublist _ _)
  refine⟨u,rv, ?_⟩;rcases S.par y (mem_of_getElem? hp)with k|k
  ·exact .inl ⟨k,KS ndP hp hu k⟩
  ·obtain⟨c,e⟩:=NU (n:=s.heap.objs.size+1) k;refine .inr ⟨.inl k,c,e, ?_⟩;have q:=x.cell y c e;rw[KL ndP hp hu (by show scope.names.lookup y≠_;rw[k];decide)]at q;exact q
 ·exact e0.hok.fresh (Nat.le_of_lt (x.above y c (PySem.mem_of_lookup h)))
 ·unfold start;show _=N.length;rw[length_append,length_map,length_replicate];omega
theorem dbZ{CX:CXT}{P:Program}{w:World}{K:FZ}{mg:Str->Option Value}{base:Heap}{k:Nat}{f:Addr}{name qual:Str}{params:Arguments}{body:List Stmt}{scope:Scope}{dV kV doc pm cdv ct oc:Value}{an od:Option Addr}
  {osl:Array (Option Value)}{N ps:List Str}{sp:Sp}(lk:K.lookup f=some ⟨oc,od,.func (fnOf name qual params body scope dV kV doc pm an cdv ct),osl⟩)(hcd:codeIn K cdv qual=true)(S:FnScope N ps scope)
  (len:∀vs H Q E,sp vs H Q E->vs.length=ps.length)
  (hbody:∀(A:Around) (outer:List Env) (s:Shared) (H:Hp) (vs:List V) (Q:VK) (E:XK),Room k (A.deeper (envOfC qual scope s.heap.objs.size f cdv))->sp vs H Q E->
   ∃t,PSs (PP CX P w K mg base N qual scope f cdv A outer s H E) body t/\t {nx:=λ_ H'=>Q .non H',rt:=Q} (start N vs) H):
  FnOk P w K mg base CX (k+1) f (fnOf name qual params body scope dV kV doc pm an cdv ct) ps sp:=by
 refine⟨len,λA outer s H args us vs Q E hr e0 hb r hsp=> ?_⟩;have hl:=len _ _ _ _ hsp;have KX:K.In s.heap:=e0.mod.kin.keeps λb o e=>(e0.bs b o e).1;have lim:s.heap.NoLimit:=e0.mod.nolimit.keeps λb o e=>(e0.bs b o e).1;have hkind:∀y∈ps.zip us,scope.names.lookup y.1=some .local\/(scope.names.lookup y.1=some .cell/\((cellsFrom (s.heap.objs.size+1) scope.names []).lookup y.1).isSome=true):=λ⟨n,v⟩ hy=>by
  rcases S.par n (List.of_mem_zip hy).1 with q|q
  ·exact .inl q
  ·exact .inr ⟨q,PySem.W.cellsFrom_some _ _ _ (.inl q)⟩
 refine codeAny_call_function hr.depth (KX _ _ lk) rfl S.co S.gen rfl (PySem.W.codeRec_of KX hcd) (hb _ _ _ _ ?_);refine wpAny_newFunctionEnv_cells S.kind hkind λenv he s1 x=> ?_;subst he;refine⟨lim.keeps x.toInCall.keep,codeAny_func ?_⟩;obtain⟨t,ht,hq⟩:=hbody A outer s H vs Q E (hr.deeper _) hsp;have I:Inv (PP CX P w K mg base N qual scope f cdv A outer s H E) [] (start N vs) H s1:=UI S hr.hd e0 hl r x;refine wpAny_mono (ht [] s1 (start N vs) H _ I hq) (λfl s' hs=> ?_) λe s' hs=>hs;have fin:∀ {σ':St} {H':Hp} {v:V} {u:Value},Inv (PP CX P w K mg base N qual scope f cdv A outer s H E) [] σ' H' s'->RelV v u->Q v H'->CE outer P w H s Q u s':=
  λ{σ' H' v u} J rv q=>⟨v,H',J.os,J.bare,J.base,J.hok,rv,q⟩
 cases fl with
 |ret u=>
  obtain⟨v,σ',H',J,rv,q⟩:=hs;exact fin J rv q
 |next=>
  obtain⟨σ',H',J,q⟩:=hs;exact fin (v:=V.non) (u:=Value.none) J rfl q
 |brk=>
  obtain⟨_,_,_,q⟩:=hs;exact False.elim q
 |cont=>
  obtain⟨_,_,_,q⟩:=hs;exact False.elim q
section
variable{X:Cx}{x:Str}{p pos:Pos}{e:Expr}{es:List Expr}{t:TA}{id T:String}{r:List V->Hp->VK->Prop}
noncomputable def tCB(r:List V->Hp->VK->Prop)(t:TA):TE:=fun σ H Q=>t σ H λvs H1=>r vs H1 Q
theorem O0(hc:W4 X (.builtin id) r)(hg:Gl X x)(hm:X.mg x=none)(hv:bootBuiltins x=some (.builtin id))(ha:PA X (e::es) t)(hn:x≠ "__name__":=by decide)(hdb:(x==("__debug__":Str))=false:=by decide)
  (he:starEach (e::es) X.env=(false,eval e X.env)::starEach es X.env:=by rfl)(hpl:(backTo pos (starEach es X.env)).any (·.1)=false:=by rfl):PE X (.Call (.Name x p) (e::es) [] pos) (tCB r t):=by
 intro pins s σ H Q I h;refine wpAny_Call_Name_kw (T5 I hg hm hv ?_ hn hdb);exact PyProof.Rows.callWith_builtin1 (thn (ha pos pins s σ H _ I h) λus s1 ⟨vs,H1,I1,r1,q1⟩=>hc pins s1 σ H1 vs us Q I1 r1 q1) he hpl
theorem D6(hc:W4 X (.type T) r)(hg:Gl X x)(hm:X.mg x=none)(hv:bootBuiltins x=some (.type T))(ha:PA X (e::es) t)(hn:x≠ "__name__":=by decide)(hdb:(x==("__debug__":Str))=false:=by decide)
  (he:starEach (e::es) X.env=(false,eval e X.env)::starEach es X.env:=by rfl)(hpl:(backTo pos (starEach es X.env)).any (·.1)=false:=by rfl):PE X (.Call (.Name x p) (e::es) [] pos) (tCB r t):=by
 intro pins s σ H Q I h;refine wpAny_Call_Name_kw (T5 I hg hm hv ?_ hn hdb);exact callWith_type1 (thn (ha pos pins s σ H _ I h) λus s1 ⟨vs,H1,I1,r1,q1⟩=>hc pins s1 σ H1 vs us Q I1 r1 q1) he hpl
end
end L2
namespace HT
open PySem PyProof.Rows
section
open PySem.SeqAt
open PySem.AutoSeq1 (wpAny_loadPart')
open PySem.MeetsSeq PySem.MeetsSeq2 PySem.MeetsSeq3
end
section
variable{prog:Program}{w:World}{A:Around}{E:Value->Shared->Prop}{s:Shared}
theorem cat_tup{t b:Addr}{vs ws:List Value}{Q:Value->Shared->Prop}(ht:IsTup s.heap t vs.toArray)(hb:IsTup s.heap b ws.toArray)(hv:vs≠ [])
  (h1:ws=[]->Q (.ref t) s)(h2:ws≠ []->Q (.ref s.heap.objs.size) {s with heap:=s.heap.push {cls:=.type "tuple",data:=.seq (vs++ws).toArray}})
  (hsz:vs.length+ws.length<=sizeLine):wpAny (model prog w) A (binaryOp .Add (.ref t) (.ref b)) Q E s:=by
 obtain⟨⟨cls,dd,data,sl⟩,ho,hc,n,hd⟩:=id ht;obtain⟨⟨cls2,dd2,data2,sl2⟩,ho2,hc2,n2,hd2⟩:=id hb;simp only at hc hd hc2 hd2;subst hc hd hc2 hd2;have e:vs.toArray++ws.toArray=(vs++ws).toArray:=by simp
 by_cases hw:ws=[]
 ·exact concat_meets ⟨_,ho,rfl⟩ ⟨_,ho2,rfl⟩ noFill_tuple_add seq_tuple_add PySem.F.slot_tuple_add PySem.F.entry_tuple_add (PySem.F.args_tuple_add_2 _ _)
   (tuple_addW1 t b vs.toArray ws.toArray n n2 dd dd2 sl sl2 (by simpa using hv) (by simp[hw])) ⟨ho,ho2,h1 hw⟩
 ·refine concat_meets ⟨_,ho,rfl⟩ ⟨_,ho2,rfl⟩ noFill_tuple_add seq_tuple_add PySem.F.slot_tuple_add PySem.F.entry_tuple_add (PySem.F.args_tuple_add_2 _ _)
   (tuple_addW2 t b vs.toArray ws.toArray n n2 dd dd2 sl sl2 (by simpa using hv) (by simpa using hw) (by rw[size_toArray,size_toArray];exact hsz)) ⟨ho,ho2, ?_⟩
  rw[e];exact h2 hw
noncomputable def sIx(n d:Nat):Option Int->Nat
 |none=>d
 |some v=>if v<0 then(v+(n:Int)).toNat else min v.toNat n
theorem sIx_none(n d:Nat):sIx n d none=d:=rfl
theorem sIx_nat(n d k:Nat):sIx n d (some (k:Int))=min k n:=by
 show(if(k:Int)<0 then((k:Int)+(n:Int)).toNat else min (k:Int).toNat n)=min k n;rw[if_neg (by omega),Int.toNat_natCast]
theorem buZ(n d:Nat)(hd:d<=n)(o:Option Int):sIx n d o<=n:=by
 cases o with
 |none=>exact hd
 |some v=>
  show(if v<0 then(v+(n:Int)).toNat else min v.toNat n)<=n;by_cases hv:v<0
  ·rw[if_pos hv];omega
  ·rw[if_neg hv];exact Nat.min_le_right _ _
theorem RU(v:Int)(n d:Nat):(if v<0 then max (v+(n:Int)) 0 else min v (n:Int))=((sIx n d (some v):Nat):Int):=by
 show(if v<0 then max (v+(n:Int)) 0 else min v (n:Int))=(((if v<0 then(v+(n:Int)).toNat else min v.toNat n):Nat):Int);by_cases hv:v<0
 ·simp only[if_pos hv];omega
 ·simp only[if_neg hv];omega
theorem QX(lo hi:Option Int)(n:Nat):Builtin.Slice.sliceAdjust lo hi 1 (n:Int)=(((sIx n 0 lo:Nat):Int),((sIx n n hi:Nat):Int)):=by
 have h1:¬((1:Int)<0):=by omega
 unfold Builtin.Slice.sliceAdjust;simp only[h1,if_false];refine Prod.ext ?_ ?_
 ·cases lo with
  |none=>rfl
  |some v=>exact RU v n 0
 ·cases hi with
  |none=>rfl
  |some v=>exact RU v n n
theorem OY(i j:Nat):Builtin.Slice.slicePlaces (i:Int) (j:Int) 1=j - i:=by
 unfold Builtin.Slice.slicePlaces;have h1:(1:Int)>0:=by omega
 simp only[h1,if_true,Int.ediv_one];split<;>omega
theorem HW{v:Value}{o:Option Int}{Q:Option Int->Shared->Prop}(p:IsPart v o)(h:Q o s):wpAny (model prog w) A (Builtin.Slice.slicePartIndex v) Q E s:=by
 cases p with
 |none=>exact slicePart_none h
 |int i t=>exact slicePart_int h
theorem GC{sl:Addr}{vl vu:Value}{lo hi:Option Int}{n:Nat}{Q:Int×Int×Nat->Shared->Prop}(hs:s.heap.IsSliceOf sl vl vu .none)(pl:IsPart vl lo)(pu:IsPart vu hi)
  (h:Q (((sIx n 0 lo:Nat):Int),1,sIx n n hi - sIx n 0 lo) s):wpAny (model prog w) A (Builtin.Slice.sliceApplied (.ref sl) (pure (n:Int))) Q E s:=by
 obtain⟨os,hos,hcs,hds⟩:=id hs;unfold Builtin.Slice.sliceApplied Builtin.Slice.sliceFields;refine bZ (bZ (wpAny_field hos hds (x:=vl) rfl (bZ (wpAny_field hos hds (x:=vu) rfl (bZ (wpAny_field hos hds (x:=.none) rfl (pZ ?_)))))));refine bZ (slicePart_none ?_);show wpAny _ _ (if((1:Int)==0)=true then _ else _) _ _ s;rw[if_neg (by decide)];refine bZ (HW pl (bZ (HW pu (bZ (pZ ?_)))));show wpAny _ _ (match Builtin.Slice.sliceAdjust lo hi 1 (n:Int)with|(lo,hi)=>pure (lo,(1:Int),Builtin.Slice.slicePlaces lo hi 1)) _ _ s;rw[QX lo hi n];show wpAny _ _ (pure (((sIx n 0 lo:Nat):Int),(1:Int),Builtin.Slice.slicePlaces ((sIx n 0 lo:Nat):Int) ((sIx n n hi:Nat):Int) 1)) _ _ s;rw[OY];exact pZ h
theorem YA(xs:Array Value)(i k:Nat):((List.range k).filterMap λ(m:Nat)=>xs[((i:Int)+(m:Int)*1).toNat]?).toArray=((xs.toList.drop i).take k).toArray:=by
 have e:(λ(m:Nat)=>xs[((i:Int)+(m:Int)*1).toNat]?)=λm=>xs[i+m]? :=by
  funext m
  have:((i:Int)+(m:Int)*1).toNat=i+m:=by omega
  rw[this]
 rw[e];have:=pick_run xs i k;rw[List.filterMap_map]at this;have e2:((λx=>xs[x]?)∘λx=>i+x)=λm=>xs[i+m]? :=rfl;rw[e2]at this;rw[this]
theorem getItem_tuple_cut{t sl:Addr}{items:Array Value}{vl vu:Value}{lo hi:Option Int}{Q:Value->Shared->Prop}(ht:IsTup s.heap t items)(hs:s.heap.IsSliceOf sl vl vu .none)(pl:IsPart vl lo)(pu:IsPart vu hi)
  (hw:¬(sIx items.size 0 lo=0/\sIx items.size items.size hi=items.size))
  (h:Q (.ref s.heap.objs.size) {s with heap:=s.heap.push {cls:=.type "tuple",data:=.seq ((items.toList.drop (sIx items.size 0 lo)).take (sIx items.size items.size hi - sIx items.size 0 lo)).toArray}})
  (hsz:items.size<=sizeLine):wpAny (model prog w) A (getItem (.ref t) (.ref sl)) Q E s:=by
 have htake:sizeOk (.seq ((items.toList.drop (sIx items.size 0 lo)).take (sIx items.size items.size hi - sIx items.size 0 lo)).toArray):=by
  show((items.toList.drop (sIx items.size 0 lo)).take (sIx items.size items.size hi - sIx items.size 0 lo)).toArray.size<=sizeLine;rw[size_toArray,length_take,length_drop,Array.length_toList];omega
 have hj:sIx items.size items.size hi<=items.size:=buZ _ _ (Nat.le_refl _) hi;obtain⟨os,hos,hcs,hds⟩:=id hs;have hTs:s.TypeIs (.ref sl) "slice":=⟨os,hos,hcs⟩;unfold getItem
 try with_reducible refine wpAny_holding ?_
 first|refine bZ (pZ ?_)|skip
 refine bZ (wpAny_sequenceKey ht.typeIs (by decide) ?_);refine bZ (wpAny_callSpecial?_slot (name:=Str.ofString "__getitem__") ht.typeIs PyProof.Rows.slot_tuple_getitem
  (wpAny_call_entry PyProof.Rows.slot_tuple_getitem ht.typeIs entry_tuple_getitem ?_ (args_tuple_getitem _ _)))
 show wpAny _ _ (Builtin.Tuple.tupleItemsOf (.ref t)>>=_) _ _ s;refine bZ (tupleItemsOf_ ht ?_);refine bZ (wpAny_typeOf hTs ?_);rw[if_pos (by decide)];refine bZ (GC hs pl pu ?_);have hno:¬((((sIx items.size 0 lo:Nat):Int)==0&&(1:Int)==1&&(sIx items.size items.size hi - sIx items.size 0 lo)==items.size)=true):=by
  intro q;rw[Bool.and_eq_true,Bool.and_eq_true]at q;have q1:((sIx items.size 0 lo:Nat):Int)=0:=eq_of_beq q.1.1;have q2:sIx items.size items.size hi - sIx items.size 0 lo=items.size:=eq_of_beq q.2;exact hw ⟨by omega,by omega⟩
 show wpAny _ _ (if(((sIx items.size 0 lo:Nat):Int)==0&&(1:Int)==1&&(sIx items.size items.size hi - sIx items.size 0 lo)==items.size)=true then _ else _) _ _ s;rw[if_neg hno,YA]
 first
  |exact bZ (m:=Builtin.Tuple.tupleExact _) (wpAny_newObj_type (pZ ⟨_,rfl,pZ h⟩) htake)
  |exact bZ (m:=Builtin.Tuple.tupleExact _) (wpAny_newObj_type (bZ (pZ (pZ ⟨_,rfl,pZ h⟩))) htake)
  |exact bZ (bZ (m:=Builtin.Tuple.tupleExact _) (wpAny_newObj_type (pZ (pZ ⟨_,rfl,pZ h⟩)) htake))
  |exact bZ (bZ (m:=Builtin.Tuple.tupleExact _) (wpAny_newObj_type (pZ ⟨_,rfl,pZ h⟩) htake))
end
end HT
namespace L2
open PySem PySem.Spec PyProof.Rows
noncomputable abbrev TO:=St->Hp->(Option Int->Hp->Prop)->Prop
noncomputable def PO(X:Cx)(e:Option Expr)(t:TO):Prop:=
 ∀(pins:List (Addr×Obj)) (s:Shared) (σ:St) (H:Hp) (Q:Option Int->Hp->Prop),Inv X pins σ H s->t σ H Q->
  wpAny (model X.prog X.w) X.A (evalPart e X.env) (λu s'=>∃o H',Inv X pins σ H' s'/\IsPart u o/\Q o H') X.xe s
noncomputable def RV:TO:=λ_ H Q=>Q none H
noncomputable def aXZ(t:TE):TO:=fun σ H Q=>t σ H λx H1=>∃i,x=.int i/\Q (some i) H1
section
variable{X:Cx}{e:Expr}{te:TE}{lo hi:Option Expr}{tl th:TO}{pos p2:Pos}
theorem J5:PO X none RV:=by
 intro pins s σ H Q I h;rw[evalPart_none];exact pZ ⟨none,H,I,.none,h⟩
theorem E7(h:PE X e te):PO X (some e) (aXZ te):=by
 intro pins s σ H Q I hw;rw[evalPart_some];refine thn (h pins s σ H _ I hw) λu s1 ⟨x,H1,I1,r1,q1⟩=> ?_;obtain⟨i,rfl,q⟩:=q1;obtain⟨t,rfl⟩:=r1;exact⟨some i,H1,I1,.int i t,q⟩
noncomputable def SlR(X:Cx)(r:V->Option Int->Option Int->Hp->VK->Prop):Prop:=
 ∀(pins:List (Addr×Obj)) (s:Shared) (σ:St) (H:Hp) (x:V) (v vl vu:Value) (lo hi:Option Int) (sl:Addr) (Q:VK),Inv X pins σ H s->RelV x v->s.heap.IsSliceOf sl vl vu .none->IsPart vl lo->IsPart vu hi->r x lo hi H Q->
  ∃T id,typeLookup (.type T) "__getitem__"=pure (some (.builtin id))/\s.TypeIs v T/\wpAny (model X.prog X.w) X.A (getItem v (.ref sl)) (EP X pins σ Q) X.xe s
theorem SlR.or{r r':V->Option Int->Option Int->Hp->VK->Prop}(h:SlR X r)(h':SlR X r'):SlR X (λx lo hi H Q=>r x lo hi H Q\/r' x lo hi H Q):=by
 intro pins s σ H x v vl vu lo hi sl Q I rx hs pl pu q;rcases q with q|q
 ·exact h pins s σ H x v vl vu lo hi sl Q I rx hs pl pu q
 ·exact h' pins s σ H x v vl vu lo hi sl Q I rx hs pl pu q
noncomputable def tSl(r:V->Option Int->Option Int->Hp->VK->Prop)(te:TE)(tl th:TO):TE:=fun σ H Q=>te σ H λx H1=>tl σ H1 λl H2=>th σ H2 λu H3=>r x l u H3 Q
theorem D7{r:V->Option Int->Option Int->Hp->VK->Prop}(hr:SlR X r)(he:PE X e te)(hl:PO X lo tl)(hu:PO X hi th):PE X (.Subscript e (.Slice lo hi none p2) pos) (tSl r te tl th):=by
 intro pins s σ H Q I h;refine Subscript_ (thn (he pins s σ H _ I h) λv s1 ⟨x,H1,I1,r1,q1⟩=> ?_);refine wpAny_Slice (thn (hl pins s1 σ H1 _ I1 q1) λvl s2 ⟨l,H2,I2,pl,q2⟩=>thn (hu pins s2 σ H2 _ I2 q2) λvu s3 ⟨u,H3,I3,pu,q3⟩=> ?_);rw[evalPart_none];refine pZ ?_;have I4:Inv X pins σ H3 {s3 with heap:=s3.heap.push {cls:=.type "slice",data:=.fields #[vl,vu,.none]}}:=I3.kept (t':=s3.toks) λb ob q=>gZ _ q;obtain⟨T,id,hT,ht,hg⟩:=hr pins {s3 with heap:=s3.heap.push {cls:=.type "slice",data:=.fields #[vl,vu,.none]}} σ H3 x v vl vu l u s3.heap.objs.size Q I4 r1 (Heap.IsSliceOf.new ..) pl pu q3;show wpAny (model X.prog X.w) X.A (subscriptTail e (.Slice lo hi none p2) v (.ref s3.heap.objs.size)) (EP X pins σ Q) X.xe {s3 with heap:=s3.heap.push {cls:=.type "slice",data:=.fields #[vl,vu,.none]}};exact tail_any (ops:=[.ref s3.heap.objs.size,v]) ht hT hg (by with_unfolding_all rfl)
noncomputable def R1(xs:List V)(lo hi:Option Int):List V:=(xs.drop (HT.sIx xs.length 0 lo)).take (HT.sIx xs.length xs.length hi - HT.sIx xs.length 0 lo)
theorem GT(xs:List V)(lo hi:Option Int):(R1 xs lo hi).length<=xs.length:=by
 unfold R1;rw[length_take,length_drop];omega
inductive rSlT (K:FZ) (x:V) (lo:Option Int) (hi:Option Int) (H:Hp) (Q:VK):Prop
 |mk:∀a xs,(x=.ref a)->(SqT K H a xs)->(¬(HT.sIx xs.length 0 lo=0/\HT.sIx xs.length xs.length hi=xs.length))->(∀p,H p=none->Q (.ref p) (upd H p (.tup (R1 xs lo hi))))->rSlT K x lo hi H Q
theorem bmZ:SlR X (rSlT X.K):=by
 intro pins s σ H x v vl vu lo hi sl Q I rx hs pl pu h;obtain⟨a,xs,rfl,hx,hw,q⟩:=h;cases rx;obtain⟨its,r,ht,hz⟩:=I.tuple hx;have hlen:its.toArray.size=xs.length:=by rw[size_toArray];exact r.length.symm
 refine⟨"tuple",_,PyProof.Rows.slot_tuple_getitem.lookup,ht.typeIs, ?_⟩;refine HT.getItem_tuple_cut ht hs pl pu (by rw[hlen];exact hw) ?_ (by rw[hlen];exact hz);rw[hlen];refine⟨.ref s.heap.objs.size,_,I.laid (t':=s.toks) (o:=.tup (R1 xs lo hi)) (λb ob q=>gZ _ q) (Nat.le_refl _) ?_,rfl,q _ (I.hok.fresh (Nat.le_refl _))⟩;exact⟨Nat.le_trans (GT xs lo hi) hz,_,(r.drop (HT.sIx xs.length 0 lo)).take (HT.sIx xs.length xs.length hi - HT.sIx xs.length 0 lo),IsTup.new _ _⟩
noncomputable def IC(K:FZ):R2:=λx y H Q=>∃a b xs ys,x=.ref a/\y=.ref b/\SqT K H a xs/\SqT K H b ys/\xs≠ []/\xs.length+ys.length<=sizeLine/\
 (ys=[]->Q (.ref a) H)/\(ys≠ []->∀p,H p=none->Q (.ref p) (upd H p (.tup (xs++ys))))
theorem Vals.nil_iff{xs:List V}{us:List Value}(r:Vals xs us):us=[]↔xs=[]:=by
 cases r with
 |nil=>simp
 |cons _ _=>simp
theorem op_catT:OpR X (binaryOp .Add) (IC X.K):=by
 intro pins s σ H x y v u Q I rx ry h;obtain⟨a,b,xs,ys,rfl,rfl,ha,hb,hx,hz,q1,q2⟩:=h;cases rx;cases ry;obtain⟨its,r1,p1,_⟩:=I.tuple ha;obtain⟨its2,r2,p2,_⟩:=I.tuple hb;refine HT.cat_tup p1 p2 (λz=>hx (r1.nil_iff.mp z)) (λz=>⟨.ref a,H,I,rfl,q1 (r2.nil_iff.mp z)⟩) (λz=> ?_) (by rw[<-r1.length,<-r2.length];exact hz);refine⟨.ref s.heap.objs.size,_,I.laid (t':=s.toks) (o:=.tup (xs++ys)) (λb ob q=>gZ _ q) (Nat.le_refl _) ?_,rfl,q2 (λw=>z (r2.nil_iff.mpr w)) _ (I.hok.fresh (Nat.le_refl _))⟩;exact⟨by rw[length_append];exact hz,_,r1.append r2,IsTup.new _ _⟩
end
noncomputable def ixN(n:Nat)(i:Int):Option Nat:=if 0<=i then(if i<n then some i.toNat else none)else if -(n:Int)<=i then some (i+n).toNat else none
noncomputable def atI{α:Type}(xs:List α)(i:Int):Option α:=(ixN xs.length i).bind λj=>xs[j]?
theorem SK{n:Nat}{i:Int}{j:Nat}(h:ixN n i=some j):seqIndex? i n=some j/\j<n/\ -(n:Int)<=i/\i<n:=by
 unfold ixN at h;by_cases h0:0<=i
 ·rw[if_pos h0]at h;by_cases h1:i<n
  ·rw[if_pos h1]at h;have e:i.toNat=j:=Option.some.inj h;exact⟨by rw[seqIndex_of h0 h1,e],by omega,by omega,h1⟩
  ·rw[if_neg h1]at h;cases h
 ·rw[if_neg h0]at h;by_cases h1: -(n:Int)<=i
  ·rw[if_pos h1]at h;have e:(i+n).toNat=j:=Option.some.inj h;exact⟨by rw[seqIndex_neg (by omega) h1,e],by omega,h1,by omega⟩
  ·rw[if_neg h1]at h;cases h
theorem MC{α:Type}{xs:List α}{i:Int}{v:α}(h:atI xs i=some v):∃j,seqIndex? i xs.length=some j/\xs[j]? =some v/\j<xs.length/\ -(xs.length:Int)<=i/\i<xs.length:=by
 unfold atI at h;cases e:ixN xs.length i with
 |none=>rw[e]at h;cases h
 |some j=>
  rw[e]at h;obtain⟨h1,h2,h3,h4⟩:=SK e;exact⟨j,h1,h,h2,h3,h4⟩
theorem J0{α:Type}{xs:List α}{j:Nat}{v:α}(h:xs[j]? =some v):atI xs (j:Int)=some v:=by
 have hj:j<xs.length:=(List.getElem?_eq_some_iff.mp h).1;have e:ixN xs.length (j:Int)=some j:=by
  unfold ixN;rw[if_pos (by omega),if_pos (by omega)];simp
 unfold atI;rw[e];exact h
theorem EZ{α:Type}(xs:List α)(v:α):atI (xs++ [v]) (-1)=some v:=by
 have hl:(xs++ [v]).length=xs.length+1:=by simp
 have e:ixN (xs++ [v]).length (-1)=some xs.length:=by
  unfold ixN;rw[hl,if_neg (by decide),if_pos (by omega)];congr 1;omega
 unfold atI;rw[e];show(xs++ [v])[xs.length]? =some v;simp
noncomputable def RK(b:Expr):Prop:=∀o i,subscripted b false o i=operate [o,i] (getItem o i)
noncomputable def IxR(X:Cx)(r:R2):Prop:=
 ∀(value slice:Expr) (pins:List (Addr×Obj)) (s:Shared) (σ:St) (H:Hp) (x y:V) (v u:Value) (Q:VK),Inv X pins σ H s->RelV x v->RelV y u->r x y H Q->
  subscripted slice false v u=operate [v,u] (getItem v u)->wpAny (model X.prog X.w) X.A (subscriptTail value slice v u) (EP X pins σ Q) X.xe s
noncomputable def MtR(X:Cx)(id:String)(r:V->List V->Hp->VK->Prop):Prop:=
 ∀(pins:List (Addr×Obj)) (s:Shared) (σ:St) (H:Hp) (x:V) (xs:List V) (v:Value) (us:List Value) (Q:VK),Inv X pins σ H s->RelV x v->Vals xs us->r x xs H Q->
  wpAny (model X.prog X.w) X.A (call (.builtin id) (v::us)) (EP X pins σ Q) X.xe s
section
variable{X:Cx}{a b:Expr}{ta tb:TE}{pos:Pos}
theorem IxR.or{r r':R2}(h:IxR X r)(h':IxR X r'):IxR X (λx y H Q=>r x y H Q\/r' x y H Q):=by
 intro value slice pins s σ H x y v u Q I rx ry q hs;rcases q with q|q
 ·exact h value slice pins s σ H x y v u Q I rx ry q hs
 ·exact h' value slice pins s σ H x y v u Q I rx ry q hs
theorem DG{r:R2}(hr:IxR X r)(ha:PE X a ta)(hb:PE X b tb)(hs:RK b):PE X (.Subscript a b pos) (tOp r ta tb):=by
 intro pins s σ H Q I h;exact Subscript_ (byZ ha hb I h λv u s2 x y H2 I2 rx ry q=>hr a b pins s2 σ H2 x y v u Q I2 rx ry q (hs _ _))
inductive rIxL (K:FZ) (x:V) (y:V) (H:Hp) (Q:VK):Prop
 |mk:∀p xs i v,(x=.ref p)->(y=.int i)->(SqL K H p xs)->(atI xs i=some v)->(Q v H)->rIxL K x y H Q
inductive rIxT (K:FZ) (x:V) (y:V) (H:Hp) (Q:VK):Prop
 |mk:∀p xs i v,(x=.ref p)->(y=.int i)->(SqT K H p xs)->(atI xs i=some v)->(Q v H)->rIxT K x y H Q
inductive rIxS (x:V) (y:V) (H:Hp) (Q:VK):Prop
 |mk:∀z i c,(x=.str z)->(y=.int i)->(z.length<=sizeLine)->(atI z.cps.toList i=some c)->(Q (.str ⟨#[c]⟩) H)->rIxS x y H Q
theorem ix_list:IxR X (rIxL X.K):=by
 intro value slice pins s σ H x y v u Q I rx ry h hs;obtain⟨p,xs,i,z,rfl,rfl,hq,he,q⟩:=h;cases rx;obtain⟨t,rfl⟩:=ry;obtain⟨its,r,pl,hz⟩:=I.list hq;obtain⟨j,h1,h2,h3,h4,h5⟩:=MC he;obtain⟨w,ew,rw'⟩:=r.get h2;have hl:=r.length;have hn:=GN;have fin:EP X pins σ Q w s:=⟨z,H,I,rw',q⟩;by_cases h0:0<=i
 ·have hj:i.toNat=j:=by
   rw[seqIndex_of h0 h5]at h1;exact Option.some.inj h1
  exact item_listR pl.isList h0 (by omega) (by rw[hj];simpa using ew) fin hs
 ·have hj:(i+(its.toArray.size:Int)).toNat=j:=by
   rw[seqIndex_neg (by omega) h4]at h1;rw[size_toArray,<-hl];exact Option.some.inj h1
  exact subscriptTail_builtinR (x:=w) pl.isList.typeIs slot_list_getitem.lookup
   (wpAny_getItem_list_neg (Q:=λr s'=>r=w/\EP X pins σ Q r s') pl.isList (by omega) (by rw[size_toArray]<;>omega) (by omega) (by rw[hj];simpa using ew) ⟨rfl,fin⟩) hs
theorem ix_tup:IxR X (rIxT X.K):=by
 intro value slice pins s σ H x y v u Q I rx ry h hs;obtain⟨p,xs,i,z,rfl,rfl,hq,he,q⟩:=h;cases rx;obtain⟨t,rfl⟩:=ry;obtain⟨its,r,pl,hz⟩:=I.tuple hq;obtain⟨j,h1,h2,h3,h4,h5⟩:=MC he;obtain⟨w,ew,rw'⟩:=r.get h2;have hl:=r.length;have hn:=GN;have fin:EP X pins σ Q w s:=⟨z,H,I,rw',q⟩;exact subscriptTail_builtinR (x:=w) pl.typeIs slot_tuple_getitem.lookup
  (getItem_tuple (j:=j) (Q:=λr s'=>r=w/\EP X pins σ Q r s') pl (by omega) (by omega) (by rw[size_toArray,<-hl];exact h1) (by simpa using ew) ⟨rfl,fin⟩) hs
theorem ix_str:IxR X rIxS:=by
 intro value slice pins s σ H x y v u Q I rx ry h hs;obtain⟨z,i,c,rfl,rfl,hz,he,q⟩:=h;obtain⟨t,rfl⟩:=rx;obtain⟨t',rfl⟩:=ry;obtain⟨j,h1,h2,h3,h4,h5⟩:=MC he;have hl:z.cps.toList.length=z.length:=by simp[Str.length]
 rw[hl]at h1 h4 h5;have hn:=GN;exact tail_any (typeIs_str s z t) slot_str_getitem.lookup (getItem_str (c:=c) (by
  have e1:decide (i< -(2^63:Int))=false:=decide_eq_false (by omega);have e2:decide (i≥2^63)=false:=decide_eq_false (by omega);rw[e1,e2,Bool.or_false]) (by rw[h1];simpa using h2) ⟨.str ⟨#[c]⟩,H,I.tok _,⟨_,rfl⟩,q⟩) hs
theorem PX(its:List Value)(n j:Nat)(u:Value):Obj.mapSeq (·.setIfInBounds j u) {cls:=.type "list",data:=.seq its.toArray n}={cls:=.type "list",data:=.seq (its.set j u).toArray n}:=by
 simp[Obj.mapSeq]
theorem Inv.lst{pins:List (Addr×Obj)}{σ:St}{H:Hp}{s:Shared}{p:Addr}{xs:List V}(I:Inv X pins σ H s)(h:H p=some (.lst xs)):
  ∃(its:List Value) (n:Nat),Vals xs its/\s.heap.get? p=some {cls:=.type "list",data:=.seq its.toArray n}/\xs.length<=sizeLine:=by
 obtain⟨z,its,n,r,e⟩:=I.hok p _ h;exact⟨its,n,r,e,z⟩
theorem Inv.lstUpd{pins:List (Addr×Obj)}{σ:St}{H:Hp}{s:Shared}{p:Addr}{xs ys:List V}{its its':List Value}{n n':Nat}{f:Obj->Obj}(I:Inv X pins σ H s)(h:H p=some (.lst xs))
  (ho:s.heap.get? p=some {cls:=.type "list",data:=.seq its.toArray n})(hf:f {cls:=.type "list",data:=.seq its.toArray n}={cls:=.type "list",data:=.seq its'.toArray n'})(r:Vals ys its')(hz:ys.length<=sizeLine)(t:Nat):
  Inv X pins σ (upd H p (.lst ys)) {s with heap:=s.heap.update p f,toks:=t}:=by
 have e:(s.heap.update p f).get? p=some {cls:=.type "list",data:=.seq its'.toArray n'}:=by
  rw[get?_update_self f ho (by rw[hf]<;>rfl),hf]
 refine I.write (x:=p) (e:=p) (by rw[h];trivial) (.inl rfl) (λb u hb q=>(get?_update_other _ _ (Ne.symm hb)).trans q) ⟨_,e⟩ ?_;exact⟨hz,its',n',r,e⟩
inductive rSetL (o:V) (i:V) (v:V) (H:Hp) (Q:Hp->Prop):Prop
 |mk:∀p xs k j,(o=.ref p)->(i=.int k)->(H p=some (.lst xs))->(ixN xs.length k=some j)->(Q (upd H p (.lst (xs.set j v))))->rSetL o i v H Q
theorem AF:ceZ X rSetL:=by
 intro pins s σ H o i v ov iv u Q I ro ri rv h;obtain⟨p,xs,k,j,rfl,rfl,hp,hj,q⟩:=h;cases ro;obtain⟨t,rfl⟩:=ri;obtain⟨its,n,r,ho,hz⟩:=I.lst hp;obtain⟨h1,h2,h3,h4⟩:=SK hj;have hl:=r.length;have hn:=GN;have I':Inv X pins σ (upd H p (.lst (xs.set j v))) {s with heap:=s.heap.update p (Obj.mapSeq (·.setIfInBounds j u))}:=
  I.lstUpd hp ho (PX its n j u) (r.set rv j) (by rw[List.length_set];exact hz) s.toks
 by_cases h0:0<=k
 ·have hk:k.toNat=j:=by
   rw[seqIndex_of h0 h4]at h1;exact Option.some.inj h1
  exact PySem.W.ki_setAt ho h0 (by omega) (by rw[size_toArray,<-hl];exact h4) (by rw[hk];exact⟨_,I',q⟩)
 ·have hk:(k+(its.toArray.size:Int)).toNat=j:=by
   rw[seqIndex_neg (by omega) h3]at h1;rw[size_toArray,<-hl];exact Option.some.inj h1
  exact PySem.W.ki_setBack ho (by omega) (by rw[size_toArray,<-hl];exact h3) (by omega) (by rw[hk];exact⟨_,I',q⟩)
theorem LW(lo hi:Option Int)(n:Nat):(sliceBounds lo hi none n).1=((HT.sIx n 0 lo:Nat):Int)/\(sliceBounds lo hi none n).2.1=((HT.sIx n n hi:Nat):Int)/\(sliceBounds lo hi none n).2.2=1:=by
 refine⟨?_, ?_,rfl⟩
 ·cases lo with
  |none=>simp[sliceBounds,HT.sIx]
  |some i=>
   simp only[sliceBounds,HT.sIx,Option.getD_none,show(1:Int)>0 by decide,if_true];by_cases h:i<0
   ·simp only[h,if_true]<;>omega
   ·simp only[h,if_false]<;>omega
 ·cases hi with
  |none=>simp[sliceBounds,HT.sIx]
  |some i=>
   simp only[sliceBounds,HT.sIx,Option.getD_none,show(1:Int)>0 by decide,if_true];by_cases h:i<0
   ·simp only[h,if_true]<;>omega
   ·simp only[h,if_false]<;>omega
theorem JS(its:List Value)(lo hi:Option Int):slicePick its.toArray lo hi none=((its.drop (HT.sIx its.length 0 lo)).take (HT.sIx its.length its.length hi - HT.sIx its.length 0 lo)).toArray:=by
 obtain⟨h1,h2,h3⟩:=LW lo hi its.toArray.size;unfold slicePick;rw[h1,h2,h3];simp only[sliceRange_one,pick_run,size_toArray]<;>rfl
inductive rSlL (K:FZ) (x:V) (lo:Option Int) (hi:Option Int) (H:Hp) (Q:VK):Prop
 |mk:∀a xs,(x=.ref a)->(SqL K H a xs)->(∀p,H p=none->Q (.ref p) (upd H p (.lst (R1 xs lo hi))))->rSlL K x lo hi H Q
theorem sl_list:SlR X (rSlL X.K):=by
 intro pins s σ H x v vl vu lo hi sl Q I rx hs pl pu h;obtain⟨a,xs,rfl,hx,q⟩:=h;cases rx;obtain⟨its,r,ht,hz⟩:=I.list hx;have hlen:=r.length;refine⟨"list",_,slot_list_getitem.lookup,ht.isList.typeIs, ?_⟩;refine wpAny_getItem_list_slice ht.isList hs pl pu .none (by simp) ?_ (by rw[size_toArray]<;>omega);rw[JS,<-hlen];refine⟨.ref s.heap.objs.size,_,I.laid (t':=s.toks) (o:=.lst (R1 xs lo hi)) (λb ob q=>gZ _ q) (Nat.le_refl _) ?_,rfl,q _ (I.hok.fresh (Nat.le_refl _))⟩;exact⟨Nat.le_trans (GT xs lo hi) hz,_,0,(r.drop (HT.sIx xs.length 0 lo)).take (HT.sIx xs.length xs.length hi - HT.sIx xs.length 0 lo),get?_push_size _ rfl⟩
noncomputable def DJ:V->Bool
 | .non=>true
 | .bl _=>true
 | .int _=>true
 | .str _=>true
 |_=>false
noncomputable def eqV:V->V->Bool
 | .non,.non=>true
 | .bl a,.bl b=>a==b
 | .bl a,.int b=>(if a then 1 else 0)==b
 | .int a,.bl b=>a==(if b then 1 else 0)
 | .int a,.int b=>a==b
 | .str a,.str b=>a==b
 |_,_=>false
theorem bVZ{A:Around}{s:Shared}{y x:V}{u v:Value}(ry:RelV y u)(rx:RelV x v)(fy:DJ y=true)(fx:DJ x=true):SeqAt.EqAt A s u v (eqV y x):=by
 cases y with
 |non=>
  cases ry;cases x with
  |non=>cases rx;exact SeqAt.EqAt.same _
  |bl b=>cases rx;exact SeqAt.EqAt.none_bool b
  |int b=>obtain⟨t,rfl⟩:=rx;exact SeqAt.EqAt.none_int b t
  |str b=>obtain⟨t,rfl⟩:=rx;exact SeqAt.EqAt.none_str b t
  |_=>exact absurd (show false=true from fx) nZ
 |bl a=>
  cases ry;cases x with
  |non=>cases rx;exact SeqAt.EqAt.bool_none a
  |bl b=>cases rx;exact SeqAt.EqAt.bool_bool a b
  |int b=>obtain⟨t,rfl⟩:=rx;exact SeqAt.EqAt.bool_int a b t
  |str b=>obtain⟨t,rfl⟩:=rx;exact SeqAt.EqAt.bool_str a b t
  |_=>exact absurd (show false=true from fx) nZ
 |int a=>
  obtain⟨t',rfl⟩:=ry;cases x with
  |non=>cases rx;exact SeqAt.EqAt.int_none a t'
  |bl b=>cases rx;exact SeqAt.EqAt.int_bool a t' b
  |int b=>obtain⟨t,rfl⟩:=rx;exact SeqAt.EqAt.int_int a t' b t
  |str b=>obtain⟨t,rfl⟩:=rx;exact SeqAt.EqAt.int_str a t' b t
  |_=>exact absurd (show false=true from fx) nZ
 |str a=>
  obtain⟨t',rfl⟩:=ry;cases x with
  |non=>cases rx;exact SeqAt.EqAt.str_none a t'
  |bl b=>cases rx;exact SeqAt.EqAt.str_bool a t' b
  |int b=>obtain⟨t,rfl⟩:=rx;exact SeqAt.EqAt.str_int a t' b t
  |str b=>obtain⟨t,rfl⟩:=rx;exact SeqAt.EqAt.str_str a t' b t
  |_=>exact absurd (show false=true from fx) nZ
 |_=>exact absurd (show false=true from fy) nZ
noncomputable def eqU(x:V)(u:Value):Bool:=match u with
 | .none=>eqV .non x
 | .bool b=>eqV (.bl b) x
 | .int i _=>eqV (.int i) x
 | .str z _=>eqV (.str z) x
 |_=>false
theorem ZC{x y:V}{u:Value}(r:RelV y u)(f:DJ y=true):eqU x u=eqV y x:=by
 cases y with
 |non=>cases r;rfl
 |bl b=>cases r;rfl
 |int i=>obtain⟨t,rfl⟩:=r;rfl
 |str z=>obtain⟨t,rfl⟩:=r;rfl
 |_=>exact absurd (show false=true from f) nZ
theorem LY{x:V}:∀ {xs:List V} {us:List Value},Vals xs us->xs.all DJ=true->us.any (eqU x)=xs.any λy=>eqV y x
 |_,_,.nil,_=>rfl
 |y::xs,u::us,.cons r t,f=>by
  rw[List.all_cons,Bool.and_eq_true]at f;rw[any_cons,any_cons,ZC r f.1,LY t f.2]
theorem HZ{A:Around}{s:Shared}{x:V}{v:Value}(rx:RelV x v)(fx:DJ x=true):∀ {xs:List V} {us:List Value},Vals xs us->xs.all DJ=true->∀u∈us,SeqAt.EqAt A s u v (eqU x u)
 |_,_,.nil,_=>λu hu=>by cases hu
 |y::xs,u::us,.cons r t,f=>λu' hu=>by
  rw[List.all_cons,Bool.and_eq_true]at f;rcases cZ hu with rfl|hu
  ·rw[ZC r f.1];exact bVZ r rx f.1 fx
  ·exact HZ rx fx t f.2 u' hu
noncomputable def inV(x:V)(xs:List V):Bool:=xs.any λy=>eqV y x
inductive rIn (K:FZ) (neg:Bool) (x:V) (y:V) (H:Hp) (Q:VK):Prop
 |mk:∀p xs,(y=.ref p)->((SqL K H p xs\/SqT K H p xs))->(DJ x=true)->(xs.all DJ=true)->(Q (.bl (if neg then !inV x xs else inV x xs)) H)->rIn K neg x y H Q
theorem op_in_seq:OpR X (compareOp .In) (rIn X.K false):=by
 intro pins s σ H x y v u Q I rx ry h;obtain⟨p,xs,rfl,hq,fx,fs,q⟩:=h;cases ry;rcases hq with hq|hq
 ·obtain⟨its,r,pl,hz⟩:=I.list hq;refine SeqAt.in_listAt (eqU x) pl.isList (λw hw=>HZ rx fx r fs w (by simpa using hw)) ⟨.bl _,H,I,rfl, ?_⟩;rw[show its.toArray.any (eqU x)=its.any (eqU x) by simp,LY r fs];exact q
 ·obtain⟨its,r,pl,hz⟩:=I.tuple hq;refine SeqAt.in_tupleAt (eqU x) pl (λw hw=>HZ rx fx r fs w (by simpa using hw)) ⟨.bl _,H,I,rfl, ?_⟩;rw[show its.toArray.any (eqU x)=its.any (eqU x) by simp,LY r fs];exact q
theorem MP:W4 X (.type "list") (λxs H Q=>∃p ys,xs=[.ref p]/\(SqL X.K H p ys\/SqT X.K H p ys)/\∀l,H l=none->Q (.ref l) (upd H l (.lst ys))):=by
 intro pins s σ H xs us Q I r h;obtain⟨p,ys,rfl,hq,q⟩:=h;obtain⟨u,rfl,rx⟩:=BR r;cases rx;have fin:∀(its:List Value),Vals ys its->ys.length<=sizeLine->∀(h':Heap) (c':Nat),(∀b o',s.heap.get? b=some o'->h'.get? b=some o')->
   h'.get? s.heap.objs.size=some {cls:=.type "list",dict:=none,data:=.seq its.toArray c',slots:= #[]}->EP X pins σ Q (.ref s.heap.objs.size) {s with heap:=h'}:=λits r' hz h' c' kp e=>
  ⟨.ref s.heap.objs.size,_,I.laid (t':=s.toks) kp (Nat.le_refl _) (show ObjOk X.prog X.w _ h' _ (.lst ys)from⟨hz,its,c',r',e⟩),rfl,q _ (I.hok.fresh (Nat.le_refl _))⟩
 rcases hq with hq|hq
 ·obtain⟨its,r',pl,hz⟩:=I.list hq;have hlen:=r'.length;obtain⟨o,ho,hc,n,hd⟩:=pl.isList;exact call_list_seq p (.inl rfl) ho hc hd (λh' c' kp e=>fin its r' hz h' c' kp e) (by simp only[size_toArray]<;>omega)
 ·obtain⟨its,r',pl,hz⟩:=I.tuple hq;have hlen:=r'.length;obtain⟨o,ho,hc,n,hd⟩:=pl;exact call_list_seq p (.inr rfl) ho hc hd (λh' c' kp e=>fin its r' hz h' c' kp e) (by simp only[size_toArray]<;>omega)
theorem JI:W4 X (.type "tuple") (λxs H Q=>∃p ys,xs=[.ref p]/\((SqL X.K H p ys/\∀l,H l=none->Q (.ref l) (upd H l (.tup ys)))\/(SqT X.K H p ys/\Q (.ref p) H))):=by
 intro pins s σ H xs us Q I r h;obtain⟨p,ys,rfl,h⟩:=h;obtain⟨u,rfl,rx⟩:=BR r;cases rx;rcases h with⟨hq,q⟩|⟨hq,q⟩
 ·obtain⟨its,r',pl,hz⟩:=I.list hq;have hlen:=r'.length;refine call_tuple_list pl.isList (λh' kp=> ?_) (by simp only[size_toArray]<;>omega);have I1:Inv X pins σ H {s with heap:=h'}:=I.kept (t':=s.toks) kp;have I2:Inv X pins σ (upd H h'.objs.size (.tup ys)) {s with heap:=h'.push {cls:=.type "tuple",data:=.seq its.toArray}}:=
   I1.laid (t':=s.toks) (λb o e=>gZ _ e) (Nat.le_refl _) (show ObjOk X.prog X.w _ _ _ (.tup ys)from⟨hz,its,r',IsTup.new _ _⟩)
  exact⟨.ref h'.objs.size,_,I2,rfl,q _ (I1.hok.fresh (Nat.le_refl _))⟩
 ·obtain⟨its,r',pl,hz⟩:=I.tuple hq;exact call_tuple_same pl ⟨.ref p,H,I,rfl,q⟩
noncomputable def tyV(K:FZ)(T:String)(x:V)(H:Hp):Prop:=match x with
 | .str _=>T="str"
 | .int _=>T="int"
 | .ref p=>(T="list"/\∃xs,SqL K H p xs)\/(T="tuple"/\∃o,K.lookup p=some o/\o.cls=.type "tuple"/\o.dict=none)\/
   (T="dict"/\((∃kvs,H p=some (.dK kvs))\/∃kvs,H p=some (.dT kvs)))\/(T="set"/\∃S n,H p=some (.set S n))
 |_=>False
theorem ZA{pins:List (Addr×Obj)}{σ:St}{H:Hp}{s:Shared}{T:String}{x:V}{v:Value}(I:Inv X pins σ H s)(r:RelV x v)(ty:tyV X.K T x H):
  s.TypeIs v T/\∀a,v=.ref a->∃ob,s.heap.get? a=some ob/\ob.dict=none:=by
 cases x with
 |str z=>
  obtain⟨t,rfl⟩:=r;cases(show T="str"from ty);exact⟨typeIs_str s z t,λ_ e=>nomatch e⟩
 |int i=>
  obtain⟨t,rfl⟩:=r;cases(show T="int"from ty);exact⟨typeIs_int s i t,λ_ e=>nomatch e⟩
 |ref p=>
  cases r;rcases ty with⟨rfl,xs,hq⟩|⟨rfl,o,hk,hc,hd⟩|⟨rfl,hk⟩|⟨rfl,S,n,hk⟩
  ·obtain⟨its,_,pl,_⟩:=I.list hq;refine⟨pl.isList.typeIs,λa e=> ?_⟩;cases e;obtain⟨o,n,e,c,hd,_⟩:=pl;exact⟨o,e,hd⟩
  ·refine⟨⟨o,I.kIn p o hk,hc⟩,λa e=> ?_⟩;cases e;exact⟨o,I.kIn _ o hk,hd⟩
  ·have z:∃o,s.heap.get? p=some o/\o.ExactDict:=by
    rcases hk with⟨kvs,hk⟩|⟨kvs,hk⟩
    ·obtain⟨_,_,_,_,o,_,_,e,ex,_⟩:=I.hok p _ hk;exact⟨o,e,ex⟩
    ·obtain⟨_,_,_,_,o,_,_,e,ex,_⟩:=I.hok p _ hk;exact⟨o,e,ex⟩
   obtain⟨o,e,ex⟩:=z;refine⟨⟨o,e,ex.1⟩,λa e2=> ?_⟩;cases e2;exact⟨o,e,ex.2.1⟩
  ·obtain⟨o,_,_,_,e,ex,_⟩:=I.hok p _ hk;refine⟨⟨o,e,ex.1⟩,λa e2=> ?_⟩;cases e2;exact⟨o,e,ex.2.1⟩
 |_=>exact False.elim ty
noncomputable def cKZ(K:FZ)(T:String)(r:V->List V->Hp->VK->Prop)(to:TE):TE:=fun σ H Q=>to σ H λx H1=>tyV K T x H1/\r x [] H1 Q
noncomputable def tBM(K:FZ)(T:String)(r:V->List V->Hp->VK->Prop)(to:TE)(t:TA):TE:=fun σ H Q=>to σ H λx H1=>tyV K T x H1/\t σ H1 λxs H2=>r x xs H2 Q
variable{o e:Expr}{es:List Expr}{to:TE}{t:TA}{name:Str}{apos cpos:Pos}{T id:String}{r:V->List V->Hp->VK->Prop}
theorem cdZ(pa:PlainAttrs T)(slot:Slot T name id)(hty:typeOf (.builtin id)=pure (.type "method_descriptor"))(hm:MtR X id r)(ho:PE X o to)
  (hbase:attributeBase o name X.env (eval o X.env)=eval o X.env:=by rfl)(hline:(apos.endLine==cpos.line)=true:=by rfl):PE X (.Call (.Attribute o name apos) [] [] cpos) (cKZ X.K T r to):=by
 intro pins s σ H Q I h;refine wpAny_Call_method0_late hbase hline (thn (ho pins s σ H _ I h) λv s1 ⟨x,H1,I1,r1,ty,q1⟩=> ?_);obtain⟨h1,h2⟩:=ZA I1 r1 ty;exact⟨T,id,pa,slot,hty,h1,h2,Calls.callWith_builtin rfl (PySem.evalArgs_none (hm pins s1 σ H1 x [] v [] Q I1 r1 .nil q1))⟩
theorem cQZ(pa:PlainAttrs T)(slot:Slot T name id)(hty:typeOf (.builtin id)=pure (.type "method_descriptor"))(hm:MtR X id r)(ho:PE X o to)(ha:PA X (e::es) t)
  (hbase:attributeBase o name X.env (eval o X.env)=eval o X.env:=by rfl)
  (hfew:((backTo cpos (starEach (e::es) X.env)).all (λx=> !x.1)&&(backToKw cpos (keywordEach [] X.env)).all (λx=>x.1.isSome)
   &&decide ((e::es).length+([]:List Keyword).length+(if([]:List Keyword).isEmpty then 0 else 1)<30))=true:=by rfl)
  (hline:(apos.endLine==cpos.line)=true:=by rfl)(hs:starEach (e::es) X.env=(false,eval e X.env)::starEach es X.env:=by rfl)(hplain:(backTo cpos (starEach es X.env)).any (·.1)=false:=by rfl):
  PE X (.Call (.Attribute o name apos) (e::es) [] cpos) (tBM X.K T r to t):=by
 intro pins s σ H Q I h;refine wpAny_Call_method_late hbase hfew hline rfl (thn (ho pins s σ H _ I h) λv s1 ⟨x,H1,I1,r1,ty,q1⟩=> ?_);obtain⟨h1,h2⟩:=ZA I1 r1 ty;refine⟨T,id,pa,slot,hty,h1,h2, ?_⟩;have hA:=ha cpos pins s1 σ H1 _ I1 q1;rw[hs]at hA⊢;refine Calls.callWith_builtin (by show(false||(backTo cpos (starEach es X.env)).any (·.1))=false;rw[hplain]<;>rfl) (Calls.evalArgs_plain ?_);exact thn hA λus s2 ⟨vs,H2,I2,r2,q2⟩=>hm pins s2 σ H2 x vs v us Q I2 r1 r2 q2
end
noncomputable def MtM(X:Cx)(id:String)(r:V->List V->Hp->VK->Prop):Prop:=
 ∀(pins:List (Addr×Obj)) (s:Shared) (σ:St) (H:Hp) (x:V) (xs:List V) (v:Value) (us:List Value) (Q:VK),Inv X pins σ H s->RelV x v->Vals xs us->r x xs H Q->
  wpAny (model X.prog X.w) X.A (call (.builtin id) (v::us)) (EP X pins σ Q) X.xe s
theorem Vals.one:∀ {x:V} {us:List Value},Vals [x] us->∃u,us=[u]/\RelV x u
 |_,_,.cons r .nil=>⟨_,rfl,r⟩
theorem Vals.zero:∀ {us:List Value},Vals [] us->us=[]
 |_,.nil=>rfl
theorem Vals.dropLast{xs:List V}{us:List Value}(h:Vals xs us):Vals xs.dropLast us.dropLast:=by
 induction h with
 |nil=>exact .nil
 |cons r t ih=>
  cases t with
  |nil=>exact .nil
  |cons q t'=>exact .cons r ih
theorem Vals.rep{xs:List V}{us:List Value}(h:Vals xs us):∀k:Nat,Vals (List.replicate k xs).flatten (List.replicate k us).flatten
 |0=> .nil
 |k+1=>by
  rw[replicate_succ,replicate_succ,flatten_cons,flatten_cons];exact Vals.append h (Vals.rep h k)
theorem PK{α:Type}(l:List α):l.eraseIdx (l.length - 1)=l.dropLast:=by
 induction l with
 |nil=>rfl
 |cons a r ih=>
  cases r with
  |nil=>rfl
  |cons b r=>
   have e:(a::b::r).length - 1=((b::r).length - 1)+1:=by
    have h1:(a::b::r).length=r.length+2:=rfl;have h2:(b::r).length=r.length+1:=rfl;omega
   rw[e,List.eraseIdx_cons_succ,ih]
   all_goals rfl
theorem JZ(its:List Value):∀(k:Nat) (acc:List Value),
  List.foldl (λx1 x2=>x1++x2) acc.toArray (List.replicate k its.toArray)=(acc++(List.replicate k its).flatten).toArray
 |0,acc=>by simp
 |k+1,acc=>by
  have e:acc.toArray++its.toArray=(acc++its).toArray:=by simp
  have e2:(acc++its)++(List.replicate k its).flatten=acc++(List.replicate (k+1) its).flatten:=by
   rw[replicate_succ,flatten_cons,List.append_assoc]
  rw[<-e2,<-JZ its k (acc++its),<-e,replicate_succ,List.foldl_cons]
section
variable{X:Cx}{pins:List (Addr×Obj)}{σ:St}{H:Hp}{s:Shared}{l b:Addr}{xs ys zs:List V}
theorem Inv.lset{its its':List Value}{n:Nat}{f:Array Value->Array Value}{t':Nat}(I:Inv X pins σ H s)(hH:H l=some (.lst xs))
  (e:s.heap.get? l=some {cls:=.type "list",data:=.seq its.toArray n})(hf:f its.toArray=its'.toArray)(hv:Vals ys its')(hz:ys.length<=sizeLine):
  Inv X pins σ (upd H l (.lst ys)) {s with heap:=s.heap.update l (Obj.mapSeq f),toks:=t'}:=by
 have q:=PySem.IsL.update e f;rw[hf]at q;refine I.write (x:=l) (e:=l) (by rw[hH];exact trivial) (.inl rfl) (λb' u hb hu=>(get?_update_other s.heap (Obj.mapSeq f) (Ne.symm hb)).trans hu) ⟨_,q⟩ ?_;exact⟨hz,its',_,hv,q⟩
theorem Inv.lnew{its:List Value}{t':Nat}(I:Inv X pins σ H s)(hv:Vals ys its)(hz:ys.length<=sizeLine):
  Inv X pins σ (upd H s.heap.objs.size (.lst ys)) {s with heap:=s.heap.push {cls:=.type "list",data:=.seq its.toArray},toks:=t'}:=
 I.laid (λ_ _ q=>gZ _ q) (Nat.le_refl _) ⟨hz,its,0,hv,get?_push_size _ rfl⟩
theorem Inv.fresh(I:Inv X pins σ H s):H s.heap.objs.size=none:=I.hok.fresh (Nat.le_refl _)
theorem Inv.lstM(I:Inv X pins σ H s)(hH:H l=some (.lst xs)):xs.length<=sizeLine/\∃(its:List Value) (n:Nat),Vals xs its/\xs.length=its.length/\s.heap.get? l=some {cls:=.type "list",data:=.seq its.toArray n}:=by
 obtain⟨z,its,n,r,e⟩:=I.hok l _ hH;exact⟨z,its,n,r,r.length,e⟩
theorem OB{n:Nat}(h:n<=sizeLine):Builtin.List.listTooLong n=false:=by
 unfold Builtin.List.listTooLong;exact decide_eq_false (by omega)
inductive rAppend(x:V)(vs:List V)(H:Hp)(Q:VK):Prop
 |mk:∀l xs y,(x=.ref l)->(vs=[y])->(H l=some (.lst xs))->(xs.length<sizeLine)->(Q .non (upd H l (.lst (xs++ [y]))))->rAppend x vs H Q
theorem TV:MtM X "list.append" rAppend:=by
 intro pins s σ H x vs v us Q I rx rv h;obtain⟨l,xs,y,rfl,rfl,hH,hz,q⟩:=h;cases rx;obtain⟨u,rfl,ru⟩:=rv.one;obtain⟨z,its,n,r,hl,e⟩:=I.lstM hH;refine call_meets F.slot_list_append ⟨_,e,rfl⟩ F.entry_list_append (F.args_list_append_2 _ _) (PySem.list_append l its.toArray n u (by rw[size_toArray];omega)) ⟨e, ?_⟩;refine⟨.non,_,I.lset (its':=its++ [u]) hH e (by simp) (r.append (.cons ru .nil)) ?_,rfl,q⟩;rw[length_append,List.length_singleton];omega
noncomputable def anZ:V->List V->Hp->VK->Prop:=λx vs H Q=>∃l b xs zs,x=.ref l/\vs=[.ref b]/\H l=some (.lst xs)/\H b=some (.lst zs)/\xs.length+zs.length<=sizeLine/\Q .non (upd H l (.lst (xs++zs)))
theorem UQ:MtM X "list.extend" anZ:=by
 intro pins s σ H x vs v us Q I rx rv h;obtain⟨l,b,xs,zs,rfl,rfl,hH,hB,hz,q⟩:=h;cases rx;obtain⟨u,rfl,ru⟩:=rv.one;cases ru;obtain⟨z,its,n,r,hl,e⟩:=I.lstM hH;obtain⟨z2,its2,n2,r2,hl2,e2⟩:=I.lstM hB;have hsz:its.toArray.size+its2.toArray.size<=sizeLine:=by rw[size_toArray,size_toArray];omega
 have hlong:¬(!its.toArray.isEmpty&&Builtin.List.listTooLong (its.toArray.size+its2.toArray.size))=true:=by
  rw[OB hsz,Bool.and_false];exact nZ
 refine call_meets F.slot_list_extend ⟨_,e,rfl⟩ F.entry_list_extend (F.args_list_extend_2 _ _)
  (AutoSeq1.list_extend_list_list_0 l its.toArray n b its2.toArray n2 hlong (by rw[size_toArray];omega) (by omega)) ⟨e,e2, ?_⟩
 refine⟨.non,_,I.lset (its':=its++its2) hH e (by simp) (r.append r2) ?_,rfl,q⟩;rw[length_append];omega
inductive rPop (x:V) (vs:List V) (H:Hp) (Q:VK):Prop
 |mk:∀l xs y,(x=.ref l)->(vs=[])->(H l=some (.lst xs))->(xs[xs.length - 1]? =some y)->(Q y (upd H l (.lst xs.dropLast)))->rPop x vs H Q
theorem QM:MtM X "list.pop" rPop:=by
 intro pins s σ H x vs v us Q I rx rv h;obtain⟨l,xs,y,rfl,rfl,hH,hy,q⟩:=h;cases rx;have hus:=rv.zero;subst hus;obtain⟨z,its,n,r,hl,e⟩:=I.lstM hH;obtain⟨u,hu,ru⟩:=r.get hy;have hy':its.toArray[its.toArray.size - 1]? =some u:=by
  show its.toArray[its.length - 1]? =some u;rw[<-Array.getElem?_toList,<-hl];exact hu
 refine call_meets F.slot_list_pop ⟨_,e,rfl⟩ F.entry_list_pop (F.args_list_pop_1 _) (MeetsSeq.list_pop_last l its.toArray n u hy' (by rw[size_toArray];omega)) ⟨e, ?_⟩;refine⟨y,_,I.lset (its':=its.dropLast) hH e ?_ r.dropLast ?_,ru,q⟩
 ·show its.toArray.eraseIdxIfInBounds (its.toArray.size - 1)=its.dropLast.toArray;rw[size_toArray,List.eraseIdxIfInBounds_toArray,PK]
 ·rw[List.length_dropLast];omega
inductive rCat (x:V) (y:V) (H:Hp) (Q:VK):Prop
 |mk:∀l b xs zs,(x=.ref l)->(y=.ref b)->(H l=some (.lst xs))->(H b=some (.lst zs))->(xs.length+zs.length<=sizeLine)->(∀p,H p=none->Q (.ref p) (upd H p (.lst (xs++zs))))->rCat x y H Q
theorem bXZ:OpR X (binaryOp .Add) rCat:=by
 intro pins s σ H x y v u Q I rx ry h;obtain⟨l,b,xs,zs,rfl,rfl,hH,hB,hz,q⟩:=h;cases rx;cases ry;obtain⟨z,its,n,r,hl,e⟩:=I.lstM hH;obtain⟨z2,its2,n2,r2,hl2,e2⟩:=I.lstM hB;refine PySem.P.add_list e e2 ?_ (by rw[size_toArray,size_toArray];omega);have ea:its.toArray++its2.toArray=(its++its2).toArray:=by simp
 rw[ea];exact⟨.ref _,_,I.lnew (t':=s.toks) (r.append r2) (by rw[length_append];omega),rfl,q _ I.fresh⟩
noncomputable def c3Z:R2:=λx y H Q=>∃l k xs,x=.ref l/\y=.int k/\H l=some (.lst xs)/\ -(2^63)<=k/\k<2^63/\xs.length*k.toNat<=sizeLine/\
 ∀p,H p=none->Q (.ref p) (upd H p (.lst (List.replicate k.toNat xs).flatten))
theorem arZ{α:Type}(xs:List α)(k:Nat):(List.replicate k xs).flatten.length=k*xs.length:=by
 induction k with
 |zero=>simp
 |succ k ih=>rw[replicate_succ,flatten_cons,length_append,ih,Nat.succ_mul,Nat.add_comm]
theorem bFZ:OpR X (binaryOp .Mult) c3Z:=by
 intro pins s σ H x y v u Q I rx ry h;obtain⟨l,k,xs,rfl,rfl,hH,h1,h2,hz,q⟩:=h;cases rx;obtain⟨t,rfl⟩:=ry;obtain⟨z,its,n,r,hl,e⟩:=I.lstM hH;have hlen:its.toArray.size*k.toNat<=sizeLine:=by rw[size_toArray,<-hl];exact hz
 have hcap:¬its.toArray.size*k.toNat>(2^63 - 1)/8:=by
  have:(sizeLine:Nat)<=(2^63 - 1)/8:=by decide
  omega
 have hfit:¬(!Builtin.List.listFitsIndex k)=true:=by
  rw[fitsIndex_both h1 h2];exact nZ
 have hlong:¬Builtin.List.listTooLong (its.toArray.size*k.toNat)=true:=by
  rw[OB hlen];exact nZ
 have hnew:List.foldl (λx1 x2=>x1++x2) #[] (List.replicate (if its.toArray.isEmpty=true then 0 else k.toNat) its.toArray)=(List.replicate k.toNat its).flatten.toArray:=by
  have f0:∀m:Nat,List.foldl (λx1 x2=>x1++x2) #[] (List.replicate m its.toArray)=(List.replicate m its).flatten.toArray:=λm=>by
   have:=JZ its m [];rw[List.nil_append]at this;exact this
  rw[f0];cases its with
  |nil=>simp
  |cons a r'=>rw[if_neg (by simp)]
 refine wpAny_binaryOp_repeat_ref (T:="list") (U:="int") (by decide) ⟨_,e,rfl⟩ (λs'=>typeIs_int s' k t) noFill_list_mul F.fills_int_mul F.slot_int_rmul repeat_list F.slot_int_index.lookup
  (call_meets F.slot_int_rmul (typeIs_int s k t) F.entry_int_rmul (F.args_int_rmul_2 _ _) (int___rmul___int_list k t l its.toArray n)
   ⟨e,rfl,⟨_,e,rfl⟩,call_meets F.slot_list_mul ⟨_,e,rfl⟩ F.entry_list_mul (F.args_list_mul_2 _ _) (AutoListH.list___mul___list_int_3 l its.toArray n k t hfit hcap hlong) ⟨e, ?_⟩⟩)
 rw[hnew];exact⟨.ref _,_,I.lnew (t':=s.toks) (r.rep k.toNat) (by rw[arZ,Nat.mul_comm];exact hz),rfl,q _ I.fresh⟩
variable{prog:Program}{w:World}{A:Around}{E:Value->Shared->Prop}
end
end L2
namespace Att
open PySem PySem.W PySem.Calls PyProof.Rows
theorem GY{P:Params}{h:Heap}:∀(ns:List Int) (vs:List Value),WellAll P h vs (ns.map WData.int)->IntsAre vs ns:=by
 intro ns;induction ns with
 |nil=>
  intro vs w;rw[List.map_nil]at w;cases w;exact .nil
 |cons n ns ih=>
  intro vs w;rw[map_cons]at w;cases w with
  |cons a b=>
   cases a;exact .cons _ _ (ih _ b)
theorem TN{l:OpenLaw}{n:Nat}(hn:l.most=some n){P:Params}{h:Heap}{args:List WData}{vals:List Value}
  (hpre:l.row.toRowW.claim.pre args=true)(hwl:WellAll P h vals args):
  ∃a vs ns,vals=[Value.ref a]/\args=[WData.list (ns.map WData.int)]/\h.get? a=some {cls:=.type "list",data:=.seq vs.toArray}/\IntsAre vs ns/\ns.length<=n:=by
 have hsh:WShape.hasAll [] args [.list .int]=true:=(pre_splitW hpre).1;have hc:l.pre.holds [] {args:=args}=true:=(pre_splitW hpre).2;obtain⟨d,r,rfl,h1,h2⟩:=hasAllW_cons hsh;obtain rfl:=hasAllW_nil h2;obtain⟨xs,rfl,h3⟩:=hasW_list h1;obtain⟨ns,rfl⟩:=items_int h3;have hlen:ns.length<=n:=by
  unfold OpenLaw.pre at hc;have h4:(WTm.not (.lt (.lit (.int (n:Int))) (.len (.arg 0)))).holds [] {args:=[.list (ns.map .int)]}=true:=by
   have h4:=(holds_andW hc).1;rw[hn]at h4;exact h4
  have h5:=condW_of h4 (w_not (w_lt w_lit (w_len_list (w_arg rfl))));rw[length_map]at h5;refine Nat.le_of_not_lt λq=> ?_;have q':(n:Int)<((ns.length:Nat):Int):=by omega
  first
   |(rw[decide_eq_true q']at h5;exact absurd h5 (by decide))
   |(simp at h5;omega)
 cases hwl with
 |cons w1 w2=>
  cases w2;cases w1 with
  |list ho hall=>exact⟨_,_,ns,rfl,rfl,ho,GY ns _ hall,hlen⟩
theorem TW(l:OpenLaw)(args:List WData):l.row.toRowW.claim.post args (.bool true) args=true:=
 postW_of (r:=l.row.toRowW) (X:=(true==true))
  (show WShape.has [] (.bool true) .bool=true by first|rfl|decide|simp[WShape.has,WShape.arms,WShape.armsAll])
  (show(WTm.eq .res (.lit (.bool true))).value [] {args:=args,res:=some (.bool true),after:=args}=some (.bool (true==true))from w_eq_bool (w_res rfl) w_lit) rfl
section
variable{prog:Program}{w:World}{A:Around}{E:Value->Shared->Prop}{s:Shared}{K:Frag}
end
end Att
namespace L2
open PySem PySem.Spec PyProof.Rows
theorem KQ:∀ {vs:List Value} {ns:List Int},IntsAre vs ns->Vals (ns.map V.int) vs
 |_,_,.nil=> .nil
 |_,_,.cons n t h=> .cons ⟨t,rfl⟩ (KQ h)
noncomputable def ZV(H:Hp):Prop:=∀b,H b=none\/∃o xs,H b=some (.frz o (.lst xs))
theorem ZE{P:Program}{w:World}{K:FZ}{mg mb:Str->Option Value}{CX:CXT}{k:Nat}{fa a:Addr}{fd:FuncData}{x:Str}{sp:Sp}{s₁:Shared}{vs:List Value}{ns:List Int}
  (KX:K.In s₁.heap)(hns:s₁.heap.Ns mainGlobals mg)(hb:s₁.heap.Ns builtinsNs mb)(hbb:∀x:Str,x≠ "__name__"->mb x=bootBuiltins x)(hlim:s₁.heap.NoLimit)(hg:s₁.gens= #[])
  (ha:s₁.heap.get? a=some {cls:=.type "list",data:=.seq vs.toArray})(hi:IntsAre vs ns)(hl:ns.length<=sizeLine)(hr:Room k callerA)
  (F:∀base:Heap,K.In base->base.Ns mainGlobals mg->FnOk P w K mg base CX k fa fd [x] sp)(hbind:∀(s:Shared) (u:Value),BindsTo s fd ⟨[u],[]⟩ [(x,u)])
  (hsp:∀H:Hp,ZV H->SqL K H a (ns.map V.int)->sp [.ref a] H (λv _=>v=.bl true) λ_ _ _=>False)
  (hCX:∀H e s',CX [] H s₁ (λ_ _ _=>False) e s'->False):
  codeAny (model P w) callerA (.call (.ref fa) ⟨[.ref a],[]⟩) (λr s'=>r=.ok (.ret (.bool true))/\OldK s₁.heap s'.heap/\s'.os=s₁.os/\AllBare s'.gens) s₁:=by
 have rv:=KQ hi;have lenV:=hi.length;have core:∀H:Hp,ZV H->SqL K H a (ns.map V.int)->HOk P w H s₁.heap->(∀b,H b≠none->b=a)->(H a≠none->K.lookup a=none)->
   codeAny (model P w) callerA (.call (.ref fa) ⟨[.ref a],[]⟩) (λr s'=>r=.ok (.ret (.bool true))/\OldK s₁.heap s'.heap/\s'.os=s₁.os/\AllBare s'.gens) s₁:=by
  intro H hO hS hok hA hK;have base_of:∀ {b:Addr} {o:Obj},s₁.heap.get? b=some o->H b=none->(MN s₁.heap H).get? b=some o:=λe n=>VH e n;have noA:∀ {b:Addr} {o:Obj} {es:Array DictEntry} {ep:Nat},s₁.heap.get? b=some o->o.data=.dict es ep->H b=none:=λ{b o es ep} e d=>by
   cases q:H b with
   |none=>rfl
   |some u=>
    have e':b=a:=hA b (by rw[q];simp);subst e';rw[ha]at e;cases e;have d':Data.seq vs.toArray _=Data.dict es ep:=d;cases d'
  have nsK:∀ {b:Addr} {m:Str->Option Value},s₁.heap.Ns b m->(MN s₁.heap H).Ns b m:=λ{b m} ⟨o,es,ep,e,d,r⟩=>⟨o,es,ep,base_of e (noA e d),d,r⟩;have hKb:K.In (MN s₁.heap H):=λb o e=>base_of (KX b o e) (by
   cases q:H b with
   |none=>rfl
   |some u=>
    have e':b=a:=hA b (by rw[q];simp);subst e';rw[hK (by rw[q];simp)]at e;cases e)
  have hM:Mod K mg (MN s₁.heap H):=⟨hKb,nsK hns,⟨mb,nsK hb,hbb⟩,let⟨mc,h1,h2⟩:=hlim;⟨mc,nsK h1,h2⟩⟩;have e0:Env0 P w K mg (MN s₁.heap H) callerA [] s₁ H:=⟨rfl,hM,λb o e=>asZ e,Nat.le_of_eq (TR _ _),trivial,λb hb=>absurd (show b∈([]:List Addr)from hb) (by simp),hok,.of_eq hg⟩;refine codeAny_mono ((F _ hKb (nsK hns)).run callerA [] s₁ H ⟨[.ref a],[]⟩ [.ref a] [.ref a] _ _ hr e0 (hbind s₁ (.ref a)) (.cons rfl .nil) (hsp H hO hS)) λr s' h=> ?_;cases r with
  |error e=>exact(hCX H e s' h).elim
  |ok fl=>
   cases fl with
   |next=>exact False.elim h
   |brk=>exact False.elim h
   |cont=>exact False.elim h
   |ret u=>
    obtain⟨v,H',os,bare,un,hok',r',q⟩:=h;have q':v=.bl true:=q;subst q';obtain rfl:u=Value.bool true:=r';refine⟨rfl,OldK.of_keep λb o e=> ?_,os,bare⟩;cases q:H b with
    |none=>exact un.keep b o e q (by intro z;exact absurd (show b∈([]:List Addr)from z) (by simp)) (by simp)
    |some u=>
     rcases hO b with z|⟨ob,xs,z⟩
     ·rw[q]at z;cases z
     ·have z2:=un.frzs b ob _ z;obtain⟨e1,_⟩:=hok b _ z;obtain⟨e2,_⟩:=hok' b _ z2;rw[e]at e1;cases e1;exact e2
 cases hk:K.lookup a with
 |some o=>
  have e:=KX a o hk;rw[ha]at e;cases e;refine core (λ_=>none) (λ_=> .inl rfl) (.inr ⟨_,vs.toArray,_,hk,rfl,rfl,rfl,by rw[size_toArray,lenV];exact hl,by simpa using rv⟩) (λb u z=>by have z':(none:Option HO)=some u:=z;cases z') (λb z=>absurd rfl z) λz=>absurd rfl z
 |none=>
  refine core (λb=>if b=a then some (.frz {cls:=.type "list",data:=.seq vs.toArray} (.lst (ns.map V.int)))else none) (λb=> ?_) (.inl (.inr ⟨{cls:=.type "list",data:=.seq vs.toArray},if_pos rfl⟩)) (λb u z=> ?_) (λb z=> ?_) λ_=>hk
  ·by_cases hb:b=a
   ·exact .inr ⟨_,_,if_pos hb⟩
   ·exact .inl (if_neg hb)
  ·by_cases hb:b=a
   ·have z':=(if_pos hb).symm.trans z;cases z';subst hb;exact⟨ha,by rw[length_map];exact hl,vs,_,rv,ha⟩
   ·have z':=(if_neg hb).symm.trans z;cases z'
  ·by_cases hb:b=a
   ·exact hb
   ·exact absurd (if_neg hb) z
noncomputable def K9(s:Stmt):Arguments:=match s with
 | .FunctionDef _ a _ _ _ _ _ _ _ _=>a
 |_=> {posonlyargs:=[],args:=[],vararg:=none,kwonlyargs:=[],kw_defaults:=[],kwarg:=none,defaults:=[]}
noncomputable def K4(s:Stmt):List Stmt:=match s with
 | .FunctionDef _ _ b _ _ _ _ _ _ _=>b
 |_=> []
noncomputable def B3(s:Stmt):Scope:=match s with
 | .FunctionDef _ _ _ _ _ _ sc _ _ _=>sc
 |_=> {kind:=.function,names:=[],isGenerator:=false,isCoroutine:=false}
noncomputable abbrev CX0:CXT:=λ_ _ _ _ _ _=>False
noncomputable abbrev E0:XK:=λ_ _ _=>False
theorem D8{X:Cx}:GB CX0 X E0:=λ_ _ _ _ _ _ _ h=>h.elim
structure Fun (K:FZ) (x qual:Str) (st:Stmt) (f:Addr) (fd:FuncData):Prop where
 ex:∃(oc:Value) (od:Option Addr) (kV doc pm:Value) (an:Option Addr) (cdv ct:Value) (osl:Array (Option Value)),
  fd=fnOf x qual (K9 st) (K4 st) (B3 st) .none kV doc pm an cdv ct/\K.lookup f=some ⟨oc,od,.func fd,osl⟩/\codeIn K cdv qual=true
 kp:kZ K (.ref f)=true
section
variable{P:Program}{w:World}{K:FZ}{mg:Str->Option Value}{base:Heap}
theorem Fun.ok{x qual:Str}{st:Stmt}{f:Addr}{fd:FuncData}{N ps:List Str}{k:Nat}{sp:Sp}(F:Fun K x qual st f fd)(S:FnScope N ps (B3 st))(len:∀vs H Q E,sp vs H Q E->vs.length=ps.length)
  (hbody:∀(cdv:Value) (A:Around) (outer:List Env) (s:Shared) (H:Hp) (vs:List V) (Q:VK) (E:XK),Room k (A.deeper (envOfC qual (B3 st) s.heap.objs.size f cdv))->sp vs H Q E->
   ∃t,PSs (PP CX0 P w K mg base N qual (B3 st) f cdv A outer s H E).nox (K4 st) t/\t {nx:=λ_ H'=>Q .non H',rt:=Q} (start N vs) H):FnOk P w K mg base CX0 (k+1) f fd ps sp:=by
 obtain⟨oc,od,kV,doc,pm,an,cdv,ct,osl,rfl,lk,hcd⟩:=F.ex;refine dbZ lk hcd S len λA outer s H vs Q E hr hsp=> ?_;obtain⟨t,h,q⟩:=hbody cdv A outer s H vs Q E hr hsp;exact⟨t,h.nox,q⟩
theorem Fun.binds{x qual:Str}{st:Stmt}{f:Addr}{fd:FuncData}{ps:List Str}(F:Fun K x qual st f fd)
  (h:∀(kV doc pm:Value) (an:Option Addr) (cdv ct:Value) (us:List Value),us.length=ps.length->bindArgs (fnOf x qual (K9 st) (K4 st) (B3 st) .none kV doc pm an cdv ct) ⟨us,[]⟩=pure (ps.zip us)):Binds K fd ps []:=by
 obtain⟨oc,od,kV,doc,pm,an,cdv,ct,osl,rfl,lk,hcd⟩:=F.ex;exact .all (h kV doc pm an cdv ct)
theorem YE{x qual:Str}{st:Stmt}{f:Addr}{oc:Value}{od an:Option Addr}{osl:Array (Option Value)}{kV doc pm cdv ct:Value}(l:K.lookup f=some ⟨oc,od,.func (fnOf x qual (K9 st) (K4 st) (B3 st) .none kV doc pm an cdv ct),osl⟩)
  (c:codeIn K cdv qual=true)(k:kZ K (.ref f)=true):Fun K x qual st f (fnOf x qual (K9 st) (K4 st) (B3 st) .none kV doc pm an cdv ct):=⟨⟨oc,od,kV,doc,pm,an,cdv,ct,osl,rfl,l,c⟩,k⟩
variable{X:Cx}
theorem pv(i:Nat){x:Str}{pos:Pos}(hN:X.N[i]? =some x:=by rfl)(hv:Vis X.env.scope x:=by first|exact Or.inl rfl|exact Or.inr (Or.inl rfl)|exact Or.inr (Or.inr rfl))(hd:(x==("__debug__":Str))=false:=by decide)
  (hcd:(x==("__classdict__":Str))=false:=by decide):PE X (.Name x pos) (tVar i):=bMZ hN hv hd hcd
end
theorem K6{c A B:Prop}[Decidable c](h1:c->A)(h2:¬c->B):if c then A else B:=by
 by_cases h:c
 ·rw[if_pos h];exact h1 h
 ·rw[if_neg h];exact h2 h
noncomputable def Same(H H':Hp):Prop:=∀b o,H b=some o->H' b=some o
theorem Same.refl(H:Hp):Same H H:=λ_ _ h=>h
theorem Same.trans{H H1 H2:Hp}(a:Same H H1)(b:Same H1 H2):Same H H2:=λc o h=>b c o (a c o h)
theorem Same.free{H H':Hp}(e:Same H H'){l:Addr}(h:H' l=Option.none):H l=Option.none:=by
 cases q:H l with
 |none=>rfl
 |some o=>
  rw[e l o q]at h;cases h
theorem MI{α β:Type}{M:Model}{A:Around}{a:α}{Q:α->Shared->Prop}{E:Value->Shared->Prop}{s:Shared}{t2:Sem β}{Q2:β->Shared->Prop}{E2:Value->Shared->Prop}
  (h:wpAny M A (pure a:Sem α) Q E s)(k:Q a s->wpAny M A t2 Q2 E2 s):wpAny M A t2 Q2 E2 s:=fun Γ p hΓ=>k (h Γ p hΓ) Γ p hΓ
noncomputable def PTs(X:Cx)(ifs:List Expr)(t:TT):Prop:=
 ∀(pins:List (Addr×Obj)) (s:Shared) (σ:St) (H:Hp) (Q:Bool->Hp->Prop),Inv X pins σ H s->t σ H Q->
  wpAny (model X.prog X.w) X.A (forIn ifs true λc r=>if r=true then do let ok<-isTrue c X.env (eval c X.env);pure (ForInStep.yield ok)else pure (ForInStep.yield r)) (TP X pins σ Q) X.xe s
noncomputable def RC:TT:=λ_ H Q=>Q true H
theorem T4{X:Cx}:PTs X [] RC:=λ_ _ _ H _ I h=>wpAny_tests_nil ⟨H,I,h⟩
theorem Y5{X:Cx}{c:Expr}{t:TT}(h:PT X c t):PTs X [c] t:=λpins s σ H Q I hq=>wpAny_tests_one (h pins s σ H Q I hq)
noncomputable def CP(cells:List (Str×Addr))(names:List (Str×NameKind))(acc:List (Str×Addr)):List (Str×Addr):=
 match names with
 | []=>acc
 |(n,k)::r=>CP cells r (if k==.free then(n,(cells.lookup n).getD 0)::acc else acc)
theorem FI{env:Env}:∀(names:List (Str×NameKind)) (acc:List (Str×Addr)),(∀y∈names,y.2=.free->∃c,env.cells.lookup y.1=some c)->
  (forIn names acc λ(x:Str×NameKind) (r:List (Str×Addr))=>if(x.2==.free)=true then(do let a<-cellOf env x.1;pure (ForInStep.yield ((x.1,a)::r)):Sem (ForInStep (List (Str×Addr))))else pure (ForInStep.yield r))=(pure (CP env.cells names acc):Sem (List (Str×Addr)))
 | [],acc,_=>rfl
 |(n,k)::r,acc,h=>by
  have ih:=FI (env:=env) r;rw[forIn_cons];by_cases hk:(k==NameKind.free)=true
  ·obtain⟨c,hc⟩:=h (n,k) mem_cons_self (by simpa using hk);have hc':cellOf env n=pure c:=by unfold cellOf;rw[hc]
   dsimp only
   rw[if_pos hk,hc'];have e:CP env.cells ((n,k)::r) acc=CP env.cells r ((n,c)::acc):=by
    show CP env.cells r (if(k==NameKind.free)=true then(n,(env.cells.lookup n).getD 0)::acc else acc)=_;rw[if_pos hk,hc];rfl
   rw[e,<-ih ((n,c)::acc) λy hy=>h y (mem_cons_of_mem _ hy)];rfl
  ·dsimp only
   rw[if_neg hk];have e:CP env.cells ((n,k)::r) acc=CP env.cells r acc:=by
    show CP env.cells r (if(k==NameKind.free)=true then(n,(env.cells.lookup n).getD 0)::acc else acc)=_;rw[if_neg hk]
   rw[e,<-ih acc λy hy=>h y (mem_cons_of_mem _ hy)];rfl
theorem BS{scope:Scope}{env:Env}(h:∀y∈scope.names,y.2=.free->∃c,env.cells.lookup y.1=some c):closureFor scope env=pure (CP env.cells scope.names []):=by
 unfold closureFor;have e:=FI (env:=env) scope.names [] h
 first
  |exact e
  |(simp only[bind_pure_comp,map_pure]at*;exact e)
  |(rw[<-e];simp)
theorem HX{cells:List (Str×Addr)}:∀(names:List (Str×NameKind)) (acc:List (Str×Addr)) (p:Str×Addr),(∀y∈names,y.2=.free->∃c,cells.lookup y.1=some c)->p∈CP cells names acc->p∈acc\/(cells.lookup p.1=some p.2/\(p.1,NameKind.free)∈names)
 | [],acc,p,_,h=> .inl h
 |(n,k)::r,acc,p,hn,h=>by
  have h':p∈CP cells r (if(k==NameKind.free)=true then(n,(cells.lookup n).getD 0)::acc else acc):=h;rcases HX r _ p (λy hy=>hn y (mem_cons_of_mem _ hy)) h' with q|⟨q1,q2⟩
  ·by_cases hk:(k==NameKind.free)=true
   ·rw[if_pos hk]at q;rcases cZ q with e|q
    ·have hk':k=.free:=by simpa using hk
     obtain⟨c,hc⟩:=hn (n,k) mem_cons_self hk';subst e;refine .inr ⟨?_, ?_⟩
     ·show cells.lookup n=some ((cells.lookup n).getD 0);have hc':cells.lookup n=some c:=hc;rw[hc'];rfl
     ·rw[<-hk'];exact mem_cons_self
    ·exact .inl q
   ·rw[if_neg hk]at q;exact .inl q
  ·exact .inr ⟨q1,mem_cons_of_mem _ q2⟩
theorem IS{cells:List (Str×Addr)}:∀(names:List (Str×NameKind)) (acc:List (Str×Addr)) (n:Str),((n,NameKind.free)∈names\/∃c,(n,c)∈acc)->∃c,(n,c)∈CP cells names acc
 | [],acc,n,h=>by
  rcases h with h|h
  ·cases h
  ·exact h
 |(m,k)::r,acc,n,h=>by
  show∃c,(n,c)∈CP cells r (if(k==NameKind.free)=true then(m,(cells.lookup m).getD 0)::acc else acc);refine IS r _ n ?_;rcases h with h|⟨c,h⟩
  ·rcases cZ h with e|h
   ·injection e with e1 e2
    subst e1;subst e2;exact .inr ⟨_,by rw[if_pos (show(NameKind.free==NameKind.free)=true from rfl)];exact mem_cons_self⟩
   ·exact .inl h
  ·refine .inr ⟨c, ?_⟩;split
   ·exact mem_cons_of_mem _ h
   ·exact h
theorem AA{α:Type}{n:Str}{c:α}:∀ {l:List (Str×α)},(n,c)∈l->∃d,l.lookup n=some d/\(n,d)∈l
 |(m,d)::r,h=>by
  by_cases e:n=m
  ·subst e;exact⟨d,by simp[lookup_cons],mem_cons_self⟩
  ·rcases cZ h with q|q
   ·injection q with q1 _
    exact absurd q1 e
   ·obtain⟨d',h1,h2⟩:=AA q;refine⟨d', ?_,mem_cons_of_mem _ h2⟩;rw[lookup_cons];have:(n==m)=false:=beq_eq_false_iff_ne.mpr e;rw[this];exact h1
structure CompScope (N:List Str) (sc scope:Scope) (x:Str) (caps:List Nat) (ns:List Str):Prop where
 cell:∀y∈scope.names,y.2≠ .cell
 kind:scope.kind=.function
 names:∀y∈scope.names,y.2=.local->scope.names.lookup y.1=some .local
 var:scope.names.lookup x=some .local
 free:∀y∈scope.names,y.2=.free->sc.names.lookup y.1=some .cell\/sc.names.lookup y.1=some .free
 at_:caps.map (λj=>N[j]?)=ns.map some
 nsf:∀y∈ns,scope.names.lookup y=some .free
 nd:(x::ns).Nodup
noncomputable def Cx.comp(X:Cx)(N':List Str)(scope:Scope)(cl:List (Str×Addr))(C:Addr)(s:Shared)(H:Hp)(fp:List Addr):Cx:=
 {X with N:=N',s₀:=s,H₀:=H,env:=compEnvC scope cl C X.env,outer:=X.stack,ex:=fp,fn:=λ_=>false,xe:=λ_ _=>False}
noncomputable def capσ(caps:List Nat)(σ:St)(v:Option V):St:=v::caps.map λj=>(σ[j]?).getD none
noncomputable def XB(wi:TI)(caps:List Nat)(tt:TT)(te:TE)(σ:St)(H:Hp)(R:List V->Hp->Prop):Prop:=wi σ H λJ H1=>∃W:Nat->Nat->List V->Hp->Prop,(∃m,W 0 m [] H1)/\∀i m ys H,W i m ys H->
 ys.length<=sizeLine/\((J.stop i H/\R ys H)\/(J.go i H/\∃N:List V->Hp->Prop,(∀ys' H',N ys' H'->∃m',m'<m/\W (i+1) m' ys' H')/\∀v H',J.yld i H v H'->tt (capσ caps σ (some v)) H' λb H2=>
  if b=true then te (capσ caps σ (some v)) H2 λy H3=>N (ys++ [y]) H3 else N ys H2))
noncomputable def aNZ(wi:TI)(caps:List Nat)(tt:TT)(te:TE):TE:=fun σ H Q=>XB wi caps tt te σ H λys H1=>∀D,H1 D=none->Q (.ref D) (upd H1 D (.lst ys))
theorem CA{scope:Scope}{env:Env}{y:Str}(h:((relabel scope env).names.lookup y=some .cell\/(relabel scope env).names.lookup y=some .free))(hc:∀y∈scope.names,y.2≠ .cell):(y,NameKind.free)∈scope.names:=by
 have h':∃k,(k=.cell\/k=.free)/\(y,k)∈(relabel scope env).names:=by
  rcases h with h|h
  ·exact⟨_,.inl rfl,PySem.mem_of_lookup h⟩
  ·exact⟨_,.inr rfl,PySem.mem_of_lookup h⟩
 obtain⟨k,hk,hm⟩:=h';unfold relabel at hm;obtain⟨⟨n,k0⟩,hm0,e⟩:=mem_map.mp hm
 dsimp only at e
 split at e
 ·rename_i hcond;injection e with e1 e2
  subst e1;have:k0=.free:=by
   simp only[Bool.and_eq_true]at hcond
   simpa using hcond.1.1
  subst this;exact hm0
 ·injection e with e1 e2
  subst e1;subst e2;rcases hk with rfl|rfl
  ·exact absurd rfl (hc _ hm0)
  ·exact hm0
theorem Q0{env:Env}:∀ {names:List (Str×NameKind)} {x:Str},names.lookup x=some .free->
  (names.map λ(n,k)=>if(k==NameKind.free&&env.scope.kind==.function&&env.kindOf n==some .cell)then(n,NameKind.cell)else(n,k)).lookup x=some .cell\/
  (names.map λ(n,k)=>if(k==NameKind.free&&env.scope.kind==.function&&env.kindOf n==some .cell)then(n,NameKind.cell)else(n,k)).lookup x=some .free
 | [],_,h=>by simp at h
 |(n,k)::r,x,h=>by
  have ih:= @Q0 env r x;show(List.lookup x ((if(k==NameKind.free&&env.scope.kind==.function&&env.kindOf n==some .cell)=true then(n,NameKind.cell)else(n,k))::_)=_)\/(List.lookup x ((if(k==NameKind.free&&env.scope.kind==.function&&env.kindOf n==some .cell)=true then(n,NameKind.cell)else(n,k))::_)=_);cases hx:x==n with
  |true=>
   simp only[lookup_cons,hx]at h;cases h;split
   ·left;simp[lookup_cons,hx]
   ·right;simp[lookup_cons,hx]
  |false=>
   simp only[lookup_cons,hx]at h;by_cases hc:(k==NameKind.free&&env.scope.kind==.function&&env.kindOf n==some .cell)=true
   ·rw[if_pos hc];simp only[lookup_cons,hx];exact ih h
   ·rw[if_neg hc];simp only[lookup_cons,hx];exact ih h
section
variable{X:Cx}
theorem KP{x:Str}{px:Pos}{iter elt:Expr}{ifs:List Expr}{scope:Scope}{pos pos':Pos}{wi:TI}{tt:TT}{te:TE}{caps:List Nat}{ns:List Str}{use:Option (Value->Sem Unit)}{Q:Value->Shared->Prop}
  {pins:List (Addr×Obj)}{s:Shared}{σ:St}{H:Hp}{R:List V->Hp->Prop}
  (CS:CompScope X.N X.env.scope scope x caps ns)(hc:X.calm=true)(hi:PI X (.Name x px) iter wi)
  (ht:∀cl C s H fp,PTs (X.comp (x::ns) scope cl C s H fp) ifs tt)(he:∀cl C s H fp,PE (X.comp (x::ns) scope cl C s H fp) elt te)
  (hs:∀v,foldedSetIterable iter X.env v=pure v)
  (I:Inv X pins σ H s)(h:XB wi caps tt te σ H R)
  (hend:∀D C s' H' ys,Inv X pins σ (upd H' D (.lst ys)) s'->H' D=none->R ys H'->(∃m,s'.heap.Ns C m)->(upd H' D (.lst ys)) C=none->C≠X.env.locals->X.s₀.heap.objs.size<=C->(∀y c,X.env.cells.lookup y=some c->c≠C)->(∀p∈X.pn++pins,p.1≠C)->
   compPost (model X.prog X.w) X.A X.xe use Q (.ref D) C (.ok .next) s'):
  wpAny (model X.prog X.w) X.A (comprehension (.ListComp elt [⟨.Name x px,iter,ifs,0⟩] scope pos) scope X.env pos' (newList []) false (eval iter X.env) use) Q X.xe s:=by
 have hcells:∀y∈scope.names,y.2=.free->∃c,X.env.cells.lookup y.1=some c:=λy hy hf=>I.ok.has y.1 (CS.free y hy hf);refine wpAny_comprehension_free (use:=use) rfl hs (BS hcells) CS.kind CS.names ?_;refine thn (hi pins s σ H _ I h) λv s1 h1=>thn h1 λitv s2 h2=> ?_;obtain⟨it,fp,tn,J,H2,e,I2,T,st2,f2,W,⟨m0,w0⟩,turn⟩:=h2;subst e;refine wpAny_newObj_type (wpAny_newFunctionEnv CS.cell (by intro y hy;simp at hy) (λh₁ hns₁ hsb₁=> ?_) CS.kind)
 dsimp only at hns₁ hsb₁⊢
 generalize hHH:s2.heap.push {cls:=.type "list",dict:=none,data:=.seq ([]:List Value).toArray}=HH at hns₁ hsb₁⊢;have hC:HH.objs.size=s2.heap.objs.size+1:=by rw[<-hHH,Heap.size_push]
 generalize hCe:HH.objs.size=C at hns₁ hsb₁ hC⊢;have hDC:s2.heap.objs.size≠C:=by rw[hC];exact ne_of_lt (lt_succ_self _)
 have below:∀b,b<s2.heap.objs.size->b≠C/\b≠s2.heap.objs.size:=λb hb=>⟨by rw[hC];exact ne_of_lt (lt_succ_of_lt hb),ne_of_lt hb⟩;have old:∀b o,s2.heap.get? b=some o->h₁.get? b=some o:=λb o e=>hsb₁.extBut b o (below b (lt_size e)).1 (gZ _ (hHH▸gZ _ e));have hacc:h₁.get? s2.heap.objs.size=some (LCg.lst []):=hsb₁.extBut _ _ hDC (gZ _ (hHH▸get?_push_size _ rfl));have nfp:∀b∈fp,b<s2.heap.objs.size:=λb hb=>let⟨o,e,_⟩:=T.obj _ _ st2 b hb;lt_size e;have clsub:∀y c,(CP X.env.cells scope.names []).lookup y=some c->X.env.cells.lookup y=some c:=λy c e=>by
  rcases HX scope.names [] (y,c) hcells (PySem.mem_of_lookup e)with q|q
  ·cases q
  ·exact q.1
 have fresh2:∀a,s2.heap.objs.size<=a->H2 a=none:=λa ha=>I2.hok.fresh ha;generalize hcl:CP X.env.cells scope.names []=cl at clsub⊢;have clhas:∀y,(y,NameKind.free)∈scope.names->∃c,cl.lookup y=some c:=λy hy=>by
  obtain⟨c,q⟩:=IS (cells:=X.env.cells) scope.names [] y (.inl hy);rw[hcl]at q;obtain⟨d,q1,_⟩:=AA q;exact⟨d,q1⟩
 have ltC:∀y c,X.env.cells.lookup y=some c->c<s2.heap.objs.size:=λy c e=>let⟨v,z⟩:=I2.cell y c e;z.lt;have ok':(X.comp (x::ns) scope cl C s2 H2 fp).Ok:=by
  refine⟨I2.ok.mod,CS.kind,I2.ok.glob,I2.ok.blt,(by show s2.heap.objs.size<=C;rw[hC];exact le_succ _),λy z c a b=>I2.ok.inj y z c (clsub y c a) (clsub z c b),λy hy=>clhas y (CA hy CS.cell),λy c z=>(by cases z),I2.ok.hd,I2.ok.frames,.inl rfl,
   λb hb=>⟨(below b (nfp b hb)).1,λy c e z=>(f2 b hb).2.2.2.2.1 y c (clsub y c e) z⟩,λb o e=>I2.bs b o e,Nat.le_trans I2.ok.bsz I2.sz,λb o e hb=> ?_,λb hb hf=> ?_,I2.stack,I2.stkFree⟩
  ·rcases(f2 b hb).2.2.2.1 with z|z
   ·exact I2.ok.noex b o e z
   ·exact absurd (lt_of_lt_of_le (lt_size e) (Nat.le_trans I2.ok.bsz z)) (lt_irrefl _)
  ·rcases cZ (I2.stkSub b hf)with z|z
   ·exact(f2 b hb).2.1 z
   ·exact(f2 b hb).2.2.1 z
 have capget:∀(k:Nat) (y:Str) (v:V),(x::ns)[k]? =some y->(capσ caps σ none)[k]? =some (some v)->∃j,X.N[j]? =some y/\σ[j]? =some (some v)/\scope.names.lookup y=some .free:=λk y v e1 e2=>by
  cases k with
  |zero=>cases e2
  |succ k=>
   have e1':ns[k]? =some y:=by simpa using e1
   have e2':(caps.map λj=>(σ[j]?).getD none)[k]? =some (some v):=by simpa [capσ]using e2
   have e3:(ns.map some)[k]? =some (some y):=by rw[getElem?_map,e1'];rfl
   rw[<-CS.at_,getElem?_map]at e3;rw[getElem?_map]at e2';cases hj:caps[k]? with
   |none=>rw[hj]at e3;cases e3
   |some j=>
    rw[hj]at e3 e2';have e4:X.N[j]? =some y:=Option.some.inj e3;have e5:(σ[j]?).getD none=some v:=Option.some.inj e2';refine⟨j,e4, ?_,CS.nsf y (mem_of_getElem? e1')⟩;cases hσ:σ[j]? with
    |none=>rw[hσ]at e5;cases e5
    |some z=>rw[hσ]at e5;have e6:z=some v:=e5;rw[e6]
 have visfree:∀y,scope.names.lookup y=some .free->X.env.kindOf y=some .cell\/X.env.kindOf y=some .free:=λy hy=>CS.free (y,.free) (PySem.mem_of_lookup hy) rfl;have I0:Inv (X.comp (x::ns) scope cl C s2 H2 fp) (pins++ [(s2.heap.objs.size,LCg.lst [])]) (capσ caps σ none) H2 {s2 with heap:=h₁,toks:=s2.toks+([]:List (Str×Value)).length}:=by
  obtain⟨m2,hn2,hl2⟩:=I2.loc;refine⟨ok',rfl,I2.bare,Un.kept old,⟨_,hns₁,λk y v e1 e2 e3=> ?_⟩,λy c e=> ?_,fresh2 C (by rw[hC];exact le_succ _),λy c e=>I2.freeC y c (clsub y c e),λp hp=> ?_,I2.hok.kept old, ?_⟩
  ·obtain⟨j,q1,q2,q3⟩:=capget k y v e1 e2;have vf:=visfree y q3;obtain⟨u,ru,lk⟩:=hl2 j y v q1 q2 (vf.elim (λz=> .inr (.inl z)) λz=> .inr (.inr z));refine⟨u,ru,.inr ⟨Q0 q3, ?_⟩⟩;obtain⟨c,hcl'⟩:=clhas y (PySem.mem_of_lookup q3);refine⟨c,hcl', ?_⟩;rcases lk with⟨k1,_⟩|⟨_,c',e',z⟩
   ·rcases vf with vf|vf<;>(rw[k1]at vf;cases vf)
   ·have q:=clsub y c hcl';rw[e']at q;cases q;exact z.keeps old
  ·obtain⟨v,z⟩:=I2.cell y c (clsub y c e);exact⟨v,z.keeps old⟩
  ·rcases mem_append.mp hp with hp|hp
   ·obtain⟨a1,a2,a3,a4,a5⟩:=I2.pin p (mem_append_left _ hp);refine⟨old _ _ a1,a2,(below _ (lt_size a1)).1,λz=> ?_,a5⟩;rcases cZ (I2.stkSub _ z)with z|z
    ·exact a3 z
    ·exact a4 z
   ·rcases mem_append.mp hp with hp|hp
    ·obtain⟨a1,a2,a3,a4,a5⟩:=I2.pin p (mem_append_right _ hp);refine⟨old _ _ a1,a2,(below _ (lt_size a1)).1,λz=> ?_,a5⟩;rcases cZ (I2.stkSub _ z)with z|z
     ·exact a3 z
     ·exact a4 z
    ·have e:p=(s2.heap.objs.size,LCg.lst []):=by simpa using hp
     subst e;refine⟨hacc,fresh2 _ (Nat.le_refl _),hDC,λz=> ?_,λv z=>by cases z⟩;rcases cZ (I2.stkSub _ z)with z|z
     ·exact absurd I2.lt (by rw[<-z];exact lt_irrefl _)
     ·exact I2.nofs (Nat.le_refl _) z
  ·show(capσ caps σ none).length=(x::ns).length;have:=congrArg List.length CS.at_;simp only[length_map]at this;simp[capσ,this]
 have loop:∀s₃:Shared,s₃={s2 with heap:=h₁,toks:=s2.toks+([]:List (Str×Value)).length}->
   codeAny (model X.prog X.w) X.A (.compLoop (.ListComp elt [⟨.Name x px,iter,ifs,0⟩] scope pos) 0 (.ref it) (.ref s2.heap.objs.size) (compEnvC scope cl C X.env))
    (compPost (model X.prog X.w) X.A X.xe use Q (.ref s2.heap.objs.size) C) s₃:=by
  rintro s₃ rfl;refine codeAny_compLoop_tests (λn s'=>∃i ys us H',Inv (X.comp (x::ns) scope cl C s2 H2 fp) (pins++ [(s2.heap.objs.size,LCg.lst us)]) (capσ caps σ none) H' s'/\Vals ys us/\tn i s'.heap/\(∀b∈fp,H' b=none)/\W i n ys H') ?_ m0
   ⟨0,[],[],H2,I0,.nil,T.keep _ _ _ st2 (λb _ o e=>old b o e),λb hb=>(f2 b hb).1,w0⟩
  rintro n s3 ⟨i,ys,us,H3,I3,rv,st3,fr3,w3⟩;obtain⟨hle,hstep⟩:=turn i n ys H3 w3;have pinlt:∀p∈X.pn++pins,p.1<s2.heap.objs.size:=λp hp=>lt_size (I2.pin p hp).1;have stat:∀ {H':Hp},(∀b∈fp,H' b=none)->∀b∈fp,JJ (X.comp (x::ns) scope cl C s2 H2 fp) (pins++ [(s2.heap.objs.size,LCg.lst us)]) H' b:=λhn b hb=>
   ⟨hn b hb,(below b (nfp b hb)).1,ok'.exfs b hb,.inl hb,λy c e z=>(f2 b hb).2.2.2.2.1 y c (clsub y c e) z,λp hp=>by
    rcases mem_append.mp hp with hp|hp
    ·exact(f2 b hb).2.2.2.2.2 p (mem_append_left _ hp)
    ·rcases mem_append.mp hp with hp|hp
     ·exact(f2 b hb).2.2.2.2.2 p (mem_append_right _ hp)
     ·have e:p=(s2.heap.objs.size,LCg.lst us):=by simpa using hp
      subst e;exact Ne.symm (below b (nfp b hb)).2⟩
  have memD:∀(l:List (Addr×Obj)),(s2.heap.objs.size,LCg.lst us)∈(X.comp (x::ns) scope cl C s2 H2 fp).pn++((pins++ [(s2.heap.objs.size,LCg.lst us)])++l):=λl=>
   mem_append_right _ (mem_append_left _ (mem_append_right _ mem_cons_self))
  rcases hstep with⟨stop,r⟩|⟨go,Nx,hNx,step⟩
  ·refine thn (T.done (X.comp (x::ns) scope cl C s2 H2 fp) rfl rfl rfl hc i _ s3 _ H3 _ I3 (stat fr3) st3 stop) λr' s4 ⟨hr,I4⟩=> ?_;subst hr;have pD:=I4.pin (s2.heap.objs.size,LCg.lst us) (mem_append_right _ (mem_append_right _ mem_cons_self));have hDn:H3 s2.heap.objs.size=none:=pD.2.1;have hCn:H3 C=none:=I4.free;have b4:Un (frs X.stack) fp H2 H3 s2.heap s4.heap:=I4.base;have u4:Un (frs X.stack) fp H2 (upd H3 s2.heap.objs.size (.lst ys)) s2.heap s4.heap:=
    ⟨b4.keep,b4.slot,λb o e n hx=>by rw[C4 (below b (lt_size e)).2];exact b4.free b o e n hx,b4.there,
     λb xs q=>by rw[C4 (C9 (b4.tups b xs q) hDn)];exact b4.tups b xs q,λb o u q=>by rw[C4 (C9 (b4.frzs b o u q) hDn)];exact b4.frzs b o u q,
     λb ps q=>by
      obtain⟨m1,e1⟩:=b4.tbls b ps q;exact⟨m1,by rw[C4 (C9 e1 hDn)];exact e1⟩⟩
   have k4:HOk X.prog X.w (upd H3 s2.heap.objs.size (.lst ys)) s4.heap:=λb u e=>by
    by_cases hb:b=s2.heap.objs.size
    ·subst hb;rw[A1]at e;cases e;exact⟨hle,us,_,rv,pD.1⟩
    ·rw[C4 hb]at e;exact(I4.hok b u e).stay (λc v _ q=>q) (λc q=>by rw[C4 (C9 q hDn)];exact q) λc xs q=>by rw[C4 (C9 q hDn)];exact q
   have J4:Inv X pins σ (upd H3 s2.heap.objs.size (.lst ys)) s4:=I2.call' (ch:=fp) I4.os u4 k4 I4.bare λb hb=>⟨(f2 b hb).2.2.2.1,(f2 b hb).2.1,(f2 b hb).2.2.2.2.1,(f2 b hb).2.2.2.2.2⟩;obtain⟨mC,hnC,_⟩:=I4.loc;exact hend _ C s4 H3 ys J4 hDn r ⟨mC,hnC⟩ (by rw[C4 (Ne.symm hDC)];exact hCn) (Ne.symm (below _ I2.lt).1) (by rw[hC];exact le_succ_of_le I2.sz) (λy c e=>(below c (ltC y c e)).1) λp hp=>(below _ (pinlt p hp)).1
  ·refine thn (T.item (X.comp (x::ns) scope cl C s2 H2 fp) rfl rfl rfl hc i _ s3 _ H3 _ I3 (stat fr3) st3 go) λr' s4 ⟨u,hr,h4⟩=> ?_;subst hr;refine MI h4 λ⟨v,H5,I5,r5,y5,st5,fr5⟩=> ?_;have I5':=I5.pinned (stat fr5) (T.obj _ _ st5);refine wpAny_assign_Name (JG (X:=X.comp (x::ns) scope cl C s2 H2 fp) (i:=0) I5' CS.nd rfl (.inl (lookup_relabel_local CS.var)) r5 (λs6 I6=> ?_) (.inr (lookup_relabel_local CS.var)));have I6':Inv (X.comp (x::ns) scope cl C s2 H2 fp) ((pins++ [(s2.heap.objs.size,LCg.lst us)])++EF fp s4.heap) (capσ caps σ (some v)) H5 s6:=I6;refine wpAny_mono (ht cl C s2 H2 fp _ s6 _ H5 _ I6' (step v H5 y5)) (λb s7 ⟨H7,I7,q7⟩=> ?_) (λ_ _ e=>e.elim);have weak:∀ {H':Hp} {s':Shared} {pl:List (Addr×Obj)},Inv (X.comp (x::ns) scope cl C s2 H2 fp) pl (capσ caps σ (some v)) H' s'->Inv (X.comp (x::ns) scope cl C s2 H2 fp) pl (capσ caps σ none) H' s':=λ{H' s' pl} J'=>
    J'.weak rfl λk z e=>by
     cases k with
     |zero=>cases e
     |succ k=>exact e
   have keepT:∀ {H':Hp} {s':Shared},Inv (X.comp (x::ns) scope cl C s2 H2 fp) ((pins++ [(s2.heap.objs.size,LCg.lst us)])++EF fp s4.heap) (capσ caps σ (some v)) H' s'->tn (i+1) s'.heap/\∀b∈fp,H' b=none:=λ{H' s'} J'=>by
    refine⟨T.keep _ _ _ st5 λb hb o e=>(J'.pin (b,o) (mem_append_right _ (mem_append_right _ (U8 hb e)))).1,λb hb=> ?_⟩;obtain⟨o,e,d⟩:=T.obj _ _ st5 b hb;exact(J'.pin (b,o) (mem_append_right _ (mem_append_right _ (U8 hb e)))).2.1
   cases b with
   |false=>
    rw[if_neg nZ]at q7⊢;obtain⟨m',hm,w7⟩:=hNx _ _ q7;exact⟨m',hm,i+1,ys,us,H7,weak I7.unpinned,rv,(keepT I7).1,(keepT I7).2,w7⟩
   |true=>
    rw[if_pos rfl]at q7⊢;refine wpAny_mono (he cl C s2 H2 fp _ s7 _ H7 _ I7 q7) (λyv s8 ⟨y,H8,I8,ry,n8⟩=> ?_) (λ_ _ e=>e.elim);obtain⟨m',hm,w8⟩:=hNx _ _ n8;have pD:=I8.pin (s2.heap.objs.size,LCg.lst us) (memD _);have hul:us.length=ys.length:=rv.length.symm;refine append_at (hsz:=by show us.toArray.size<=sizeLine;rw[size_toArray,hul];exact hle) pD.1 λh9 hs9 hD9=> ?_;have I8p:Inv (X.comp (x::ns) scope cl C s2 H2 fp) pins (capσ caps σ none) H8 s8:=weak I8.unpinned.unpinned;have I9:Inv (X.comp (x::ns) scope cl C s2 H2 fp) pins (capσ caps σ none) H8 {s8 with heap:=h9}:=I8p.turned (t':=s8.toks) (it:=s2.heap.objs.size) (λb o hb e=>(hs9.2 b hb).trans e) pD.2.1 hDC (.inr (Nat.le_refl _)) (λy c e z=>ne_of_lt (ltC y c (clsub y c e)) z) λp hp=>ne_of_lt (pinlt p hp);have I9':Inv (X.comp (x::ns) scope cl C s2 H2 fp) (pins++ [(s2.heap.objs.size,LCg.lst (us++ [yv]))]) (capσ caps σ none) H8 {s8 with heap:=h9}:=I9.pins_of λp hp=>by
     rcases mem_append.mp hp with hp|hp
     ·exact I9.pin p (mem_append_right _ hp)
     ·have e:p=(s2.heap.objs.size,LCg.lst (us++ [yv])):=by simpa using hp
      subst e;exact⟨hD9.trans (congrArg some (LCg.lst_snoc us yv)),pD.2.1,hDC,pD.2.2.2.1,λv z=>by cases z⟩
    refine⟨m',hm,i+1,ys++ [y],us++ [yv],H8,I9',rv.append (.cons ry .nil), ?_,(keepT I8).2,w8⟩;exact T.keep _ _ _ (keepT I8).1 λb hb o e=>(hs9.2 b (below b (nfp b hb)).2).trans e
 exact codeAny_compStart_list (loop _ rfl) (T.self X.A 0 _ _ _ (T.keep _ _ _ st2 (λb _ o e=>old b o e)) (loop _ rfl))
theorem NA{K:FZ}{a:Addr}{xs:List V}{caps:List Nat}{tt:TT}{te:TE}{σ:St}{H:Hp}{R:List V->Hp->Prop}(Pv:Nat->List V->Hp->Prop)(h0:Pv 0 [] H)(hl:∀i ys H,i<=xs.length->Pv i ys H->SqT K H a xs/\ys.length<=sizeLine)
  (hs:∀i x ys H,xs[i]? =some x->Pv i ys H->tt (capσ caps σ (some x)) H λb H2=>if b=true then te (capσ caps σ (some x)) H2 λy H3=>Pv (i+1) (ys++ [y]) H3 else Pv (i+1) ys H2)(hd:∀ys H,Pv xs.length ys H->R ys H):
  ∃W:Nat->Nat->List V->Hp->Prop,(∃m,W 0 m [] H)/\∀i m ys H,W i m ys H->ys.length<=sizeLine/\(((Itt K a).stop i H/\R ys H)\/((Itt K a).go i H/\∃N:List V->Hp->Prop,(∀ys' H',N ys' H'->∃m',m'<m/\W (i+1) m' ys' H')/\∀v H',(Itt K a).yld i H v H'->
   tt (capσ caps σ (some v)) H' λb H2=>if b=true then te (capσ caps σ (some v)) H2 λy H3=>N (ys++ [y]) H3 else N ys H2)):=by
 refine⟨λi m ys H=>m=xs.length - i/\i<=xs.length/\Pv i ys H,⟨xs.length,by simp,zero_le _,h0⟩, ?_⟩;rintro i m ys H ⟨rfl,hi,p⟩;obtain⟨q,hz⟩:=hl i ys H hi p;refine⟨hz, ?_⟩;by_cases hlt:i<xs.length
 ·refine .inr ⟨⟨xs,xs[i],q,by simp[hlt]⟩,Pv (i+1),λys' H' p'=>⟨xs.length - (i+1),by omega,rfl,hlt,p'⟩,λx H' y=> ?_⟩;obtain⟨e,y⟩:=y;subst e;exact hs i x ys _ (y xs q) p
 ·have e:i=xs.length:=by omega
  subst e;exact .inl ⟨⟨xs,q,Nat.le_refl _⟩,hd ys H p⟩
theorem U4{K:FZ}{a:Addr}{xs:List V}{caps:List Nat}{tt:TT}{te:TE}{σ:St}{H:Hp}{R:List V->Hp->Prop}(Pv:Nat->List V->Hp->Prop)(h0:Pv 0 [] H)(hl:∀i ys H,i<=xs.length->Pv i ys H->SqL K H a xs/\ys.length<=sizeLine)
  (hs:∀i x ys H,xs[i]? =some x->Pv i ys H->tt (capσ caps σ (some x)) H λb H2=>if b=true then te (capσ caps σ (some x)) H2 λy H3=>Pv (i+1) (ys++ [y]) H3 else Pv (i+1) ys H2)(hd:∀ys H,Pv xs.length ys H->R ys H):
  ∃W:Nat->Nat->List V->Hp->Prop,(∃m,W 0 m [] H)/\∀i m ys H,W i m ys H->ys.length<=sizeLine/\(((Itl K a).stop i H/\R ys H)\/((Itl K a).go i H/\∃N:List V->Hp->Prop,(∀ys' H',N ys' H'->∃m',m'<m/\W (i+1) m' ys' H')/\∀v H',(Itl K a).yld i H v H'->
   tt (capσ caps σ (some v)) H' λb H2=>if b=true then te (capσ caps σ (some v)) H2 λy H3=>N (ys++ [y]) H3 else N ys H2)):=by
 refine⟨λi m ys H=>m=xs.length - i/\i<=xs.length/\Pv i ys H,⟨xs.length,by simp,zero_le _,h0⟩, ?_⟩;rintro i m ys H ⟨rfl,hi,p⟩;obtain⟨q,hz⟩:=hl i ys H hi p;refine⟨hz, ?_⟩;by_cases hlt:i<xs.length
 ·refine .inr ⟨⟨xs,xs[i],q,by simp[hlt]⟩,Pv (i+1),λys' H' p'=>⟨xs.length - (i+1),by omega,rfl,hlt,p'⟩,λx H' y=> ?_⟩;obtain⟨e,y⟩:=y;subst e;exact hs i x ys _ (y xs q) p
 ·have e:i=xs.length:=by omega
  subst e;exact .inl ⟨⟨xs,q,Nat.le_refl _⟩,hd ys H p⟩
theorem R4{lo:Int}{n:Nat}{caps:List Nat}{tt:TT}{te:TE}{σ:St}{H:Hp}{R:List V->Hp->Prop}(Pv:Nat->List V->Hp->Prop)(h0:Pv 0 [] H)(hl:∀i ys H,i<=n->Pv i ys H->ys.length<=sizeLine)
  (hs:∀i ys H,i<n->Pv i ys H->tt (capσ caps σ (some (.int (lo+i)))) H λb H2=>if b=true then te (capσ caps σ (some (.int (lo+i)))) H2 λy H3=>Pv (i+1) (ys++ [y]) H3 else Pv (i+1) ys H2)(hd:∀ys H,Pv n ys H->R ys H):
  ∃W:Nat->Nat->List V->Hp->Prop,(∃m,W 0 m [] H)/\∀i m ys H,W i m ys H->ys.length<=sizeLine/\(((Itr lo n).stop i H/\R ys H)\/((Itr lo n).go i H/\∃N:List V->Hp->Prop,(∀ys' H',N ys' H'->∃m',m'<m/\W (i+1) m' ys' H')/\∀v H',(Itr lo n).yld i H v H'->
   tt (capσ caps σ (some v)) H' λb H2=>if b=true then te (capσ caps σ (some v)) H2 λy H3=>N (ys++ [y]) H3 else N ys H2)):=by
 refine⟨λi m ys H=>m=n - i/\i<=n/\Pv i ys H,⟨n,by simp,zero_le _,h0⟩, ?_⟩;rintro i m ys H ⟨rfl,hi,p⟩;refine⟨hl i ys H hi p, ?_⟩;by_cases hlt:i<n
 ·refine .inr ⟨hlt,Pv (i+1),λys' H' p'=>⟨n - (i+1),by omega,rfl,hlt,p'⟩,λx H' y=> ?_⟩;obtain⟨e,y⟩:=y;subst e y;exact hs i ys _ hlt p
 ·have e:i=n:=by omega
  subst e;exact .inl ⟨Nat.le_refl _,hd ys H p⟩
theorem Y6{x:Str}{px:Pos}{iter elt:Expr}{ifs:List Expr}{scope sc:Scope}{N:List Str}{pos:Pos}{wi:TI}{tt:TT}{te:TE}{caps:List Nat}{ns:List Str}
  (CS:CompScope N sc scope x caps ns)(hN':X.N=N)(hsc:X.env.scope=sc)(hc:X.calm=true)(hi:PI X (.Name x px) iter wi)
  (ht:∀cl C s H fp,PTs (X.comp (x::ns) scope cl C s H fp) ifs tt)(he:∀cl C s H fp,PE (X.comp (x::ns) scope cl C s H fp) elt te)
  (hs:∀v,foldedSetIterable iter X.env v=pure v:=by intro _;rfl):
  PE X (.ListComp elt [⟨.Name x px,iter,ifs,0⟩] scope pos) (aNZ wi caps tt te):=by
 intro pins s σ H Q I h;subst hN';subst hsc;rw[eval_ListComp];refine KP CS hc hi ht he hs I h ?_;rintro D C s' H' ys I' hD r ⟨m,hn⟩ c1 c2 c3 c4 c5;exact⟨m,hn,λh' hs'=>⟨.ref D,_,I'.turned (t':=s'.toks) (λb o hb e=>(hs'.2 b hb).trans e) c1 c2 (.inr c3) c4 c5,rfl,r D hD⟩⟩
theorem O6{i:Nat}{x y:Str}{px py:Pos}{iter elt:Expr}{ifs:List Expr}{scope sc:Scope}{N:List Str}{pos spos:Pos}{wi:TI}{tt:TT}{te:TE}{caps:List Nat}{ns:List Str}(hN:X.N.Nodup)(hi:X.N[i]? =some y)
  (hy:X.env.scope.names.lookup y=some .local)(CS:CompScope N sc scope x caps ns)(hN':X.N=N)(hsc:X.env.scope=sc)(hc:X.calm=true)(hit:PI X (.Name x px) iter wi)
  (ht:∀cl C s H fp,PTs (X.comp (x::ns) scope cl C s H fp) ifs tt)(he:∀cl C s H fp,PE (X.comp (x::ns) scope cl C s H fp) elt te)
  (hsw:swapsWith (.ListComp elt [⟨.Name x px,iter,ifs,0⟩] scope pos) (some (.Name y py)) spos.line X.env=pure true:=by rfl)
  (hs:∀v,foldedSetIterable iter X.env v=pure v:=by intro _;rfl):
  PS X (.Assign [.Name y py] (.ListComp elt [⟨.Name x px,iter,ifs,0⟩] scope pos) spos) (YI (aNZ wi caps tt te) (GP i)):=by
 intro pins s σ H D I h;subst hN';subst hsc;rw[exec_Assign_Name_used _ _ _ _ hsw];refine bZ (wpAny_standAt (bZ ?_));show wpAny _ X.A (do let _<-comprehension (.ListComp elt [⟨.Name x px,iter,ifs,0⟩] scope pos) scope X.env _ (newList []) false (eval iter X.env) (some (assign (.Name y py) X.env))) _ _ s;refine bZ (wpAny_mono (KP (use:=some (assign (.Name y py) X.env)) (Q:=λ_ s'=>SP X pins D .next s') CS hc hit ht he hs I h ?_) (λ_ s' hq=>pZ (pZ hq)) λ_ _ e=>e);rintro D' C s' H' ys I' hD r ⟨m,hn⟩ c1 c2 c3 c4 c5;show wpAny _ _ (assign (.Name y py) X.env (.ref D')) _ _ s';refine wpAny_assign_Name (JX (v:=.ref D') I' hN hi (.inl hy) rfl (λs'' I'' ⟨a,sb,ha⟩=> ?_) (.inr hy));have hCa:C≠a:=by
  rcases ha with e|e
  ·rw[e];exact c2
  ·exact Ne.symm (c4 y a e)
 exact⟨m,hn.sameBut sb hCa,λh' hs'=>⟨_,_,I''.turned (t':=s''.toks) (λb o hb e=>(hs'.2 b hb).trans e) c1 c2 (.inr c3) c4 c5,r D' hD⟩⟩
end
theorem WO:bootBuiltins "len"=some (.builtin "len"):=by decide +kernel
theorem N7:bootBuiltins "isinstance"=some (.builtin "isinstance"):=by decide +kernel
theorem XS:bootBuiltins "abs"=some (.builtin "abs"):=by decide +kernel
theorem blZ:bootBuiltins "all"=some (.builtin "all"):=by decide +kernel
theorem KJ:bootBuiltins "sorted"=some (.builtin "sorted"):=by decide +kernel
theorem V6:bootBuiltins "list"=some (.type "list"):=by decide +kernel
theorem T7:bootBuiltins "tuple"=some (.type "tuple"):=by decide +kernel
theorem CJ:bootBuiltins "int"=some (.type "int"):=by decide +kernel
theorem RP:bootBuiltins "bool"=some (.type "bool"):=by decide +kernel
theorem HI:bootBuiltins "dict"=some (.type "dict"):=by decide +kernel
section
variable{X:Cx}
theorem op_mul_str:OpR X (binaryOp .Mult) (λx y H Q=>∃i n,x=.str i/\y=.int n/\0<=n/\n<=16777216/\i.length*n.toNat<=16777216/\Q (.str (Txt.mul i n)) H):=by
 intro pins s σ H x y v u Q I rx ry h;obtain⟨i,n,rfl,rfl,h0,h1,h2,q⟩:=h;obtain⟨t,rfl⟩:=rx;obtain⟨t',rfl⟩:=ry;exact SB.mul (mulOk_of i.length n.toNat (Nat.le_refl _) (by omega) (by omega) (by omega) h2) λt'' k=>⟨.str _,H,I.tok _,⟨_,rfl⟩,q⟩
theorem IL{ys:List Str}:∀ {us:List Value},Vals (ys.map V.str) us->StrsAre us ys:=by
 induction ys with
 |nil=>intro us r;cases r;exact .nil
 |cons y ys ih=>
  intro us r;cases r with
  |cons r1 r2=>
   obtain⟨t,rfl⟩:=r1;exact .cons y t (ih r2)
noncomputable def WM(K:FZ):V->List V->Hp->VK->Prop:=λx vs H Q=>∃(z:Str) (p:Addr) (ys:List Str),x=.str z/\vs=[.ref p]/\(SqL K H p (ys.map V.str)\/SqT K H p (ys.map V.str))/\(ys.map (·.length)).sum+ys.length*z.length<=16777216/\Q (.str (Txt.join z ys)) H
theorem aEZ:MtR X "str.join" (WM X.K):=by
 intro pins s σ H x vs v us Q I rx rv h;obtain⟨z,p,ys,rfl,rfl,hS,hz,q⟩:=h;obtain⟨t,rfl⟩:=rx;obtain⟨u,rfl,ru⟩:=BR rv;cases ru;rcases hS with hS|hS
 ·obtain⟨its,r,pl,_⟩:=I.list hS;exact join_list pl.isList (by simpa using IL r) hz λt' k=>⟨.str _,H,I.tok _,⟨_,rfl⟩,q⟩
 ·obtain⟨its,r,pl,_⟩:=I.tuple hS;exact join_tuple pl (by simpa using IL r) hz λt' k=>⟨.str _,H,I.tok _,⟨_,rfl⟩,q⟩
noncomputable def MK:V->Bool
 | .byt _=>false
 | .flt _=>false
 |_=>true
theorem SZ{A:Around}{s:Shared}{x:V}{u v:Value}(r:RelV x u)(r':RelV x v)(hx:MK x=true):SeqAt.EqAt A s u v true:=by
 cases x with
 |non=>cases r;cases r';exact SeqAt.EqAt.same _
 |bl b=>cases r;cases r';exact SeqAt.EqAt.same _
 |int i=>
  obtain⟨t,rfl⟩:=r;obtain⟨t',rfl⟩:=r';have:=SeqAt.EqAt.int_int (A:=A) (s:=s) i t i t'
  simpa using this
 |str i=>
  obtain⟨t,rfl⟩:=r;obtain⟨t',rfl⟩:=r';have:=SeqAt.EqAt.str_str (A:=A) (s:=s) i t i t'
  simpa using this
 |ref a=>cases r;cases r';exact SeqAt.EqAt.same _
 |ty n=>cases r;cases r';exact SeqAt.EqAt.same _
 |byt b=>cases hx
 |flt b=>cases hx
theorem JY{A:Around}{s:Shared}{xs:List V}{us vs:List Value}(r:Vals xs us)(r':Vals xs vs)(hx:xs.all MK=true)(j:Nat)(h1:j<us.toArray.size)(h2:j<vs.toArray.size):SeqAt.EqAt A s us.toArray[j] vs.toArray[j] true:=by
 have hj:j<xs.length:=by rw[r.length];simpa using h1
 obtain⟨u,hu,ru⟩:=r.get (i:=j) (x:=xs[j]) (by simp[hj]);obtain⟨v,hv,rv⟩:=r'.get (i:=j) (x:=xs[j]) (by simp[hj]);have e1:us.toArray[j]=u:=by
  have:us[j]? =some us.toArray[j]:=by simp
  rw[hu]at this;exact(Option.some.inj this).symm
 have e2:vs.toArray[j]=v:=by
  have:vs[j]? =some vs.toArray[j]:=by simp
  rw[hv]at this;exact(Option.some.inj this).symm
 rw[e1,e2];have hp:=all_eq_true.mp hx xs[j] (getElem_mem hj);exact SZ ru rv hp
inductive rEqL (K:FZ) (k:Bool) (x:V) (y:V) (H:Hp) (Q:VK):Prop
 |mk:∀a b xs,(x=.ref a)->(y=.ref b)->(SqL K H a xs)->(SqL K H b xs)->(xs.all MK=true)->(Q (.bl k) H)->rEqL K k x y H Q
theorem bnZ(hu:X.A.units<cLine):OpR X (compareOp .Eq) (rEqL X.K true):=by
 intro pins s σ H x y v u Q I rx ry h;obtain⟨a,b,xs,rfl,rfl,ha,hb,hp,q⟩:=h;cases rx;cases ry;obtain⟨its,r,pl,_⟩:=I.list ha;obtain⟨its2,r2,pl2,_⟩:=I.list hb;have hl:its.length=its2.length:=by rw[<-r.length,<-r2.length]
 refine SeqAt.eq_listAt (e:=λ_=>true) pl.isList pl2.isList (by simpa using hl) hu (λj h1 h2=>JY r r2 hp j h1 h2) ⟨.bl true,H,I, ?_,q⟩;have:((List.range its.toArray.size).all λ_=>true)=true:=by simp
 rw[this];rfl
theorem bsZ(hu:X.A.units<cLine):OpR X (compareOp .NotEq) (rEqL X.K false):=by
 intro pins s σ H x y v u Q I rx ry h;obtain⟨a,b,xs,rfl,rfl,ha,hb,hp,q⟩:=h;cases rx;cases ry;obtain⟨its,r,pl,_⟩:=I.list ha;obtain⟨its2,r2,pl2,_⟩:=I.list hb;have hl:its.length=its2.length:=by rw[<-r.length,<-r2.length]
 refine SeqAt.RcNeAt.lists (e:=λ_=>true) pl.isList pl2.isList (by simpa using hl) hu (λj h1 h2=>JY r r2 hp j h1 h2) X.prog X.w X.xe _ ⟨.bl false,H,I, ?_,q⟩;have:((List.range its.toArray.size).all λ_=>true)=true:=by simp
 rw[this];rfl
inductive rIsi (K:FZ) (xs:List V) (H:Hp) (Q:VK):Prop
 |mk:∀x c t b,(xs=[x,.ty c])->(TyOf K H x t)->(kitOne K t (.type c)=some b)->(Q (.bl b) H)->rIsi K xs H Q
theorem VO:W4 X (.builtin "isinstance") (rIsi X.K):=by
 intro pins s σ H xs us Q I r h;obtain⟨x,c,t,b,rfl,ty,hk,q⟩:=h;obtain⟨u,v,rfl,ru,rv⟩:=cEZ r;cases rv;exact UA I ru ty hk λtk=>⟨.bl b,H,I.tok _,rfl,q⟩
structure TopD (w:World) (K:FZ) (a:Addr) (kvs:List (Str×V)):Prop where
 ex:∃(es:Array DictEntry) (n:Nat),K.lookup a=some ⟨.type "dict",none,.dict es n, #[]⟩/\PySem.W.KeysLit w.params es.toList/\Paired (λ(p:Str×V) (e:DictEntry)=>(∃t,e.key=.str p.1 t)/\RelV p.2 e.val) kvs es.toList
 lo:(a==sysModules)=false
theorem GQ{x:Str}:∀ {kvs:List (Str×V)} {es:List DictEntry},Paired (λ(p:Str×V) (e:DictEntry)=>(∃t,e.key=.str p.1 t)/\RelV p.2 e.val) kvs es->
  RelO (kvs.lookup x) ((es.find? λe=>Value.isStrOf x e.key).map (·.val))
 |_,_,.nil=>trivial
 |(k,v)::kvs,e::es,.cons ⟨⟨t,hk⟩,rv⟩ r=>by
  have hk':e.key=.str k t:=hk;rw[lookup_cons,find?_cons,hk'];by_cases hx:x=k
  ·subst hx;have h1:Value.isStrOf x (.str x t)=true:=by simp[Value.isStrOf]
   rw[h1,beq_self_eq_true];exact rv
  ·have h1:Value.isStrOf x (.str k t)=false:=by
    cases h:Value.isStrOf x (.str k t)with
    |false=>rfl
    |true=>
     obtain⟨t',e'⟩:=Value.isStrOf_shape (x:=x) (v:=.str k t) h;injection e' with e1 _
     exact absurd e1.symm hx
   have h2:(x==k)=false:=beq_eq_false_iff_ne.mpr hx;rw[h1,h2];exact GQ r
theorem TopD.map{w:World}{K:FZ}{a:Addr}{kvs:List (Str×V)}(T:TopD w K a kvs){prog:Program}{h:Heap}(KX:K.In h):
  ∃f:Str->Option Value,h.MapOf (strKind prog w) a f/\∀x,RelO (kvs.lookup x) (f x):=by
 obtain⟨es,n,hl,hk,hp⟩:=T.ex;refine⟨λk=>findBy Value.isStrOf es k,PySem.W.mapOf_K KX hl hk,λx=> ?_⟩;have q:=GQ (x:=x) hp;show RelO (List.lookup x kvs) ((es.find? λe=>Value.isStrOf x e.key).map (·.val));rw[<-Array.find?_toList];exact q
inductive rIxTop (w:World) (K:FZ) (x:V) (y:V) (H:Hp) (Q:VK):Prop
 |mk:∀a k kvs v,(x=.ref a)->(y=.str k)->(TopD w K a kvs)->(kvs.lookup k=some v)->(Q v H)->rIxTop w K x y H Q
theorem bxZ:IxR X (rIxTop X.w X.K):=by
 intro value slice pins s σ H x y v u Q I rx ry h hs;obtain⟨a,k,kvs,z,rfl,rfl,T,hz,q⟩:=h;cases rx;obtain⟨t,rfl⟩:=ry;obtain⟨f,hm,hf⟩:=T.map (prog:=X.prog) I.kIn;have hr:=hf k;rw[hz]at hr;obtain⟨w',e,r⟩:=hr.some_of;exact tail_any hm.typeIs slot_dict_getitem.lookup (wpAny_getItem_of (strKind_is X.prog X.w k t) hm e ⟨z,H,I.tok _,r,q⟩) hs
theorem TZ:OpR X (compareOp .In) (λx y H Q=>∃k a kvs,x=.str k/\y=.ref a/\TopD X.w X.K a kvs/\Q (.bl (kvs.lookup k).isSome) H):=by
 intro pins s σ H x y v u Q I rx ry h;obtain⟨k,a,kvs,rfl,rfl,T,q⟩:=h;cases ry;obtain⟨t,rfl⟩:=rx;obtain⟨f,hm,hf⟩:=T.map (prog:=X.prog) I.kIn;have hr:=hf k;have e:(f k).isSome=(kvs.lookup k).isSome:=by
  cases h1:kvs.lookup k with
  |none=>rw[h1]at hr;rw[hr.none_of];rfl
  |some z=>rw[h1]at hr;obtain⟨w',e,_⟩:=hr.some_of;rw[e];rfl
 exact wpAny_in_of (strKind_is X.prog X.w k t) T.lo hm ⟨.bl _,H,I.tok _,by rw[e];rfl,q⟩
theorem P7:OpR X (binaryOp .Add) (λx y H Q=>rI0 (λi j=> .int (i+j)) x y H Q\/(∃i j,x=.str i/\y=.str j/\i.length+j.length<=sizeLine/\Q (.str (i++j)) H)\/rCat x y H Q):=op_add.or (op_add_str.or bXZ)
theorem ahZ:OpR X (binaryOp .Mult) (λx y H Q=>rI CMul (λi j=> .int (i*j)) x y H Q\/(∃i n,x=.str i/\y=.int n/\0<=n/\n<=16777216/\i.length*n.toNat<=16777216/\Q (.str (Txt.mul i n)) H)\/c3Z x y H Q):=op_mul.or (op_mul_str.or bFZ)
theorem uEq(hu:X.A.units<cLine):OpR X (compareOp .Eq) (λx y H Q=>rEq x y H Q\/rEqL X.K true x y H Q):=op_eq.or (bnZ hu)
theorem uNe(hu:X.A.units<cLine):OpR X (compareOp .NotEq) (λx y H Q=>rNe x y H Q\/rEqL X.K false x y H Q):=op_ne.or (bsZ hu)
theorem uIn:OpR X (compareOp .In) (λx y H Q=>(∃i j,x=.str i/\y=.str j/\Q (.bl (!(Builtin.Str.occurrences j i 0 j.length 1).isEmpty)) H)\/rIn X.K false x y H Q\/(∃k a kvs,x=.str k/\y=.ref a/\TopD X.w X.K a kvs/\Q (.bl (kvs.lookup k).isSome) H)):=op_in_str.or (op_in_seq.or TZ)
theorem bNZ:IxR X (λx y H Q=>rIxL X.K x y H Q\/rIxT X.K x y H Q\/rIxS x y H Q\/rIxTop X.w X.K x y H Q):=ix_list.or (ix_tup.or (ix_str.or bxZ))
theorem bYZ:SlR X (λx lo hi H Q=>rSlL X.K x lo hi H Q\/rSlT X.K x lo hi H Q):=sl_list.or bmZ
inductive tCut (t:TS) (D:Ends) (σ:St) (H:Hp):Prop
 |mk:∀R:St->Hp->Prop,(t {D with nx:=R} σ H)->(∀σ' H',R σ' H'->D.nx σ' H')->tCut t D σ H
theorem E6{st:Stmt}{t:TS}(h:PS X st t):PS X st (tCut t):=λpins s σ H D I ⟨R,q,hR⟩=>thn (h pins s σ H _ I q) λf s' hs=>by
 cases f with
 |next=>obtain⟨σ',H',I',r⟩:=hs;exact⟨σ',H',I',hR σ' H' r⟩
 |brk=>exact hs
 |cont=>exact hs
 |ret v=>exact hs
variable{K:FZ}{w:World}
theorem kEq(hu:X.A.units<cLine)(hK:X.K=K:=by rfl):OpR X (compareOp .Eq) (λx y H Q=>rEq x y H Q\/rEqL K true x y H Q):=by subst hK;exact uEq hu
theorem kNe(hu:X.A.units<cLine)(hK:X.K=K:=by rfl):OpR X (compareOp .NotEq) (λx y H Q=>rNe x y H Q\/rEqL K false x y H Q):=by subst hK;exact uNe hu
theorem kIn(hK:X.K=K:=by rfl)(hw:X.w=w:=by rfl):OpR X (compareOp .In) (λx y H Q=>(∃i j,x=.str i/\y=.str j/\Q (.bl (!(Builtin.Str.occurrences j i 0 j.length 1).isEmpty)) H)\/rIn K false x y H Q\/(∃k a kvs,x=.str k/\y=.ref a/\TopD w K a kvs/\Q (.bl (kvs.lookup k).isSome) H)):=by
 subst hK;subst hw;exact uIn
theorem kIx(hK:X.K=K:=by rfl)(hw:X.w=w:=by rfl):IxR X (λx y H Q=>rIxL K x y H Q\/rIxT K x y H Q\/rIxS x y H Q\/rIxTop w K x y H Q):=by subst hK;subst hw;exact bNZ
theorem kSl(hK:X.K=K:=by rfl):SlR X (λx lo hi H Q=>rSlL K x lo hi H Q\/rSlT K x lo hi H Q):=by subst hK;exact bYZ
theorem c2Z(hK:X.K=K:=by rfl):W4 X (.builtin "len") (rLen K):=by subst hK;exact VW
theorem GJ(hK:X.K=K:=by rfl):W4 X (.type "list") (λxs H Q=>∃p ys,xs=[.ref p]/\(SqL K H p ys\/SqT K H p ys)/\∀l,H l=none->Q (.ref l) (upd H l (.lst ys))):=by subst hK;exact MP
theorem CW(hK:X.K=K:=by rfl):W4 X (.type "tuple") (λxs H Q=>∃p ys,xs=[.ref p]/\((SqL K H p ys/\∀l,H l=none->Q (.ref l) (upd H l (.tup ys)))\/SqT K H p ys/\Q (.ref p) H)):=by subst hK;exact JI
theorem IH(hK:X.K=K:=by rfl):W4 X (.builtin "isinstance") (rIsi K):=by subst hK;exact VO
theorem VX(hK:X.K=K:=by rfl):MtR X "str.join" (WM K):=by subst hK;exact aEZ
variable{o e st l c:Expr}{es:List Expr}{to te ts tl:TE}{t:TA}{name:Str}{apos cpos pos p2:Pos}{T id:String}{r:V->List V->Hp->VK->Prop}{tg:Expr}
theorem ZF(pa:PlainAttrs T)(slot:Slot T name id)(hty:typeOf (.builtin id)=pure (.type "method_descriptor"))(hm:MtR X id r)(ho:PE X o to)(hK:X.K=K:=by rfl)
  (hbase:attributeBase o name X.env (eval o X.env)=eval o X.env:=by rfl)(hline:(apos.endLine==cpos.line)=true:=by rfl):PE X (.Call (.Attribute o name apos) [] [] cpos) (cKZ K T r to):=by
 subst hK;exact cdZ pa slot hty hm ho hbase hline
theorem acZ(pa:PlainAttrs T)(slot:Slot T name id)(hty:typeOf (.builtin id)=pure (.type "method_descriptor"))(hm:MtR X id r)(ho:PE X o to)(ha:PA X (e::es) t)(hK:X.K=K:=by rfl)
  (hbase:attributeBase o name X.env (eval o X.env)=eval o X.env:=by rfl)
  (hfew:((backTo cpos (starEach (e::es) X.env)).all (λx=> !x.1)&&(backToKw cpos (keywordEach [] X.env)).all (λx=>x.1.isSome)
   &&decide ((e::es).length+([]:List Keyword).length+(if([]:List Keyword).isEmpty then 0 else 1)<30))=true:=by rfl)
  (hline:(apos.endLine==cpos.line)=true:=by rfl)(hs:starEach (e::es) X.env=(false,eval e X.env)::starEach es X.env:=by rfl)(hplain:(backTo cpos (starEach es X.env)).any (·.1)=false:=by rfl):
  PE X (.Call (.Attribute o name apos) (e::es) [] cpos) (tBM K T r to t):=by
 subst hK;exact cQZ pa slot hty hm ho ha hbase hfew hline hs hplain
theorem V7(hl:PE X l tl)(hK:X.K=K:=by rfl):PI X tg l (aQZ K tl):=by subst hK;exact aqZ hl
theorem LI(hl:PE X l tl)(hK:X.K=K:=by rfl):PI X tg l (c6Z K tl):=by subst hK;exact bOZ hl
noncomputable def dhZ(K:FZ)(ta:TE):TT:=fun σ H Q=>ta σ H λx H'=>∃k,ckZ K x H' k/\Q k H'
theorem Y9(ha:PE X e te)(he:∀whole,isTrue e X.env whole=(do let v<-whole;standAt e.pos;holding [v] (truthy v)))(hK:X.K=K:=by rfl):PT X e (dhZ K te):=by subst hK;exact YR ha he
end
theorem Y0{σ:St}{H:Hp}{A B:Hp->Prop}(h:A H):RC σ H (λb H2=>if b=true then A H2 else B H2):=by
 show if true=true then A H else B H
 rw[if_pos rfl];exact h
noncomputable def JE:List Expr->Option (List Str)
 | []=>some []
 | .Constant (.str x) _ _::r=>(JE r).map (x::·)
 |_=>none
noncomputable def cRZ(zs:List Str):TA:=λ_ H Q=>Q (zs.map V.str) H
theorem SG{X:Cx}:∀ {es:List Expr} {zs:List Str},JE es=some zs->PA X es (cRZ zs)
 | [],zs,h=>by
  have e:zs=[]:=by cases h;rfl
  subst e;exact A4
 |e::r,zs,h=>by
  have hx:∃x a b,e=.Constant (.str x) a b/\∃ys,JE r=some ys/\zs=x::ys:=by
   unfold JE at h;split at h
   ·rename_i h1;cases h1
   ·rename_i x a b r' h1;injection h1 with h1 h2
    subst h1;subst h2;cases q:JE r with
    |none=>rw[q]at h;cases h
    |some ys=>rw[q]at h;cases h;exact⟨x,a,b,rfl,ys,rfl,rfl⟩
   ·cases h
  obtain⟨x,a,b,rfl,ys,hr,rfl⟩:=hx;exact A0 A7 (SG hr)
theorem HU(xs:List V)(k:Nat):R1 xs (some (k:Int)) none=xs.drop k:=by
 unfold R1;rw[HT.sIx_nat,HT.sIx_none];by_cases h:k<=xs.length
 ·rw[min_eq_left h,take_of_length_le (by simp)]
 ·rw[min_eq_right (by omega),drop_eq_nil_of_le (Nat.le_refl _),drop_eq_nil_of_le (by omega)];simp
theorem PV(xs:List V)(k:Nat):R1 xs none (some (k:Int))=xs.take k:=by
 unfold R1;rw[HT.sIx_nat,HT.sIx_none];simp only[List.drop_zero,Nat.sub_zero];by_cases h:k<=xs.length
 ·rw[min_eq_left h]
 ·rw[min_eq_right (by omega),take_of_length_le (Nat.le_refl _),take_of_length_le (by omega)]
theorem YL(xs:List V)(a b:Nat):R1 xs (some (a:Int)) (some (b:Int))=(xs.drop a).take (b - a):=by
 unfold R1;rw[HT.sIx_nat,HT.sIx_nat];by_cases ha:a<=xs.length
 ·rw[min_eq_left ha];by_cases hb:b<=xs.length
  ·rw[min_eq_left hb]
  ·rw[min_eq_right (by omega),take_of_length_le (by simp),take_of_length_le (by simp;omega)]
 ·rw[min_eq_right (Nat.le_of_not_le ha),drop_eq_nil_of_le (Nat.le_refl _),drop_eq_nil_of_le (Nat.le_of_not_le ha)];simp
section
variable{M:Model}{A:Around}{E:Value->Shared->Prop}{s:Shared}
variable{X:Cx}{pins:List (Addr×Obj)}{σ:St}{H1 H2:Hp}{s1:Shared}{h1 h2:Heap}
end
section
variable{P:Program}{w:World}{K:FZ}{mg:Str->Option Value}{base:Heap}{N:List Str}{qual:Str}{scope:Scope}{f:Addr}{cd:Value}{A:Around}{outer:List Env}{s:Shared}{H:Hp}{E:XK}
 {pins:List (Addr×Obj)}{σ:St}{H1:Hp}{s1:Shared}
variable{h g:Heap}{a:Addr}{C:Value}
variable{fs:List Addr}{H1 H2:Hp}{h0 h1 h2:Heap}
variable{X:Cx}{pins:List (Addr×Obj)}{σ:St}{s1 s2:Shared}
end
section
variable{M:Model}{A:Around}{E:Value->Shared->Prop}{h:Heap}{g:Array GenState}{d:Drawn}{t:Nat}{os:OsState}
variable{X:Cx}{pins:List (Addr×Obj)}{σ:St}{H:Hp}{s:Shared}{e:Value}
variable{xe:Value->Shared->Prop}
end
noncomputable abbrev TEX:=St->Hp->VK->XK->Prop
noncomputable abbrev TSX:=Ends->(St->XK)->St->Hp->Prop
section
variable{X:Cx}{k:Nat}{f C:Addr}{fd:FuncData}{ps:List Str}{sp:Sp}{dvs:List V}{ds:List Value}{x m:Str}{p pos apos:Pos}{e o:Expr}{es:List Expr}{ta:TE}{t:TA}
end
section
variable{X:Cx}{e:Expr}{pos:Pos}{t:TEX}{st:Stmt}{rest:List Stmt}{a b:List Stmt}{ta tb:TSX}
variable{x n:Str}{np hpos:Pos}{body suite:List Stmt}{b₀:Stmt}{i:Nat}{ts:TS}{D0:Addr}{Ok:Addr->Prop}
end
section
variable{prog:Program}{w:World}{A:Around}{E:Value->Shared->Prop}{h:Heap}{g:Array GenState}{d:Drawn}{t:Nat}{os:OsState}{a C:Addr}{o:Obj}{bm bmB:List Value}{nid:String}
variable{X:Cx}{pins:List (Addr×Obj)}{σ:St}{H:Hp}{s:Shared}
variable{tg:Expr}
theorem TC{bs:List Bool}{its:List Value}(r:Vals (bs.map V.bl) its){i:Nat}{v:Value}(e:its[i]? =some v):v=.bool (bs.getD i false):=by
 have hl:=r.length;obtain⟨hi,_⟩:=List.getElem?_eq_some_iff.mp e;have hb:i<bs.length:=by rw[length_map]at hl;omega
 have hx:(bs.map V.bl)[i]? =some (V.bl (bs.getD i false)):=by simp[hb]
 obtain⟨u,e2,ru⟩:=r.get hx;rw[e]at e2;cases e2;exact ru
theorem TB(bs:List Bool):((List.range bs.length).all λi=>bs.getD i false)=bs.all id:=by
 rw[Bool.eq_iff_iff,all_eq_true,all_eq_true];constructor
 ·intro h x hx;obtain⟨i,hi,e⟩:=List.getElem_of_mem hx;have:=h i (mem_range.mpr hi)
  simpa [List.getD_eq_getElem?_getD,List.getElem?_eq_getElem hi,e]using this
 ·intro h i hi;have hi:=mem_range.mp hi;have:=h bs[i] (getElem_mem hi)
  simpa [List.getD_eq_getElem?_getD,List.getElem?_eq_getElem hi]using this
theorem SS(hc:X.calm=true):W4 X (.builtin "all") (λxs H Q=>∃(p:Addr) (bs:List Bool),xs=[.ref p]/\SqL X.K H p (bs.map V.bl)/\Q (.bl (bs.all id)) H):=by
 intro pins s σ H vs us Q I r h;obtain⟨p,bs,rfl,hS,q⟩:=h;obtain⟨u,rfl,ru⟩:=BR r;cases ru;obtain⟨its,rv,pl,hz⟩:=I.list hS;have hl:its.length=bs.length:=by have:=rv.length;rw[length_map]at this;omega
 refine call_all_walk (wpAny_pyIter_list pl.isList ?_);obtain⟨ol,el,cl,dl⟩:=id pl.isList;have hpne:p≠s.heap.objs.size:=ne_of_lt (lt_size el);have W:=Walks.list (prog:=X.prog) (w:=X.w) (A:=X.A.in1) (show X.A.in1.handled=none from I.ok.hd hc) s.heap.objs.size p hpne its.toArray;refine⟨s.heap.objs.size,[s.heap.objs.size,p],[s.heap.objs.size],its.toArray.size,_,_,λi=>bs.getD i false,rfl,W,⟨⟨_,get?_push_size _ rfl,rfl,rfl⟩,⟨ol,gZ _ el,cl,dl⟩⟩, ?_, ?_⟩
 ·intro i v s' Q' E' hP hQ;have e:v=.bool (bs.getD i false):=TC rv (by simpa using hP);subst e;exact pZ hQ
 ·intro h' tk hk;have e:((List.range its.toArray.size).all λi=>bs.getD i false)=bs.all id:=by
   rw[size_toArray,hl];exact TB bs
  rw[e];refine⟨.bl (bs.all id),H,I.kept (t':=tk) λb o e=>hk b o (λz=> ?_) (gZ _ e),rfl,q⟩;have z':b=s.heap.objs.size:=by simpa using z
  subst z';exact absurd (lt_size e) (lt_irrefl _)
variable{e v1 v2:Expr}{es:List Expr}{te:TE}{tp t:St->Hp->(Hp->Prop)->Prop}{pos:Pos}
variable{K:FZ}
theorem cDZ(hc:X.calm=true)(hK:X.K=K:=by rfl):W4 X (.builtin "all") (λxs H Q=>∃(p:Addr) (bs:List Bool),xs=[.ref p]/\SqL K H p (bs.map V.bl)/\Q (.bl (bs.all id)) H):=by subst hK;exact SS hc
end
noncomputable abbrev tx(l:List Nat):Str:=⟨l.toArray⟩
theorem WZ(l:List Nat):(tx l).length=l.length:=by simp[Str.length]
theorem XV(a b:List Nat):tx a++tx b=tx (a++b):=by
 show Str.append _ _=_;simp[Str.append]
end L2
namespace PySem
theorem FE(t:Tok):Meets (Builtin.«int.__new__» ⟨[.type "int",.str ⟨#[49]⟩ t],[]⟩) (Made.int 1).spec:=
 Meets.of_wp λprog w A R s hs=>by
  obtain⟨hp,g,d,tk,os⟩:=s;have f1:=F.conv_sub_int;have f2:=F.madeHere_int;have hT:(⟨hp,g,d,tk,os⟩:Shared).TypeIs (.str ⟨#[49]⟩ t) "str":=rfl;have f3:typeLookup (.type "str") "__int__"=pure none:=by rw[typeLookup_type,builtinLookup_eq_fast];kernel_rfl
  have f4:typeLookup (.type "str") "__index__"=pure none:=by rw[typeLookup_type,builtinLookup_eq_fast];kernel_rfl
  have f5:typeLookup (.type "str") "__trunc__"=pure none:=by rw[typeLookup_type,builtinLookup_eq_fast];kernel_rfl
  repeat (any_goals (first|assumption|wp_step))
  all_goals try (with_unfolding_all show wpAny _ _ (mkInt 1>>=_) _ _ _)
  repeat (any_goals (first|assumption|wp_step))
  all_goals first|exact⟨_,rfl,hs⟩|skip
end PySem
namespace L2
open PySem PySem.Spec PyProof.Rows
section
variable{X:Cx}
theorem N5:W4 X (.type "int") (λxs H Q=>(∃k,xs=[.bl k]/\Q (.int (if k then 1 else 0)) H)\/∃z,xs=[.str z]/\z=tx [49]/\Q (.int 1) H):=by
 intro pins s σ H xs us Q I r h;rcases h with⟨k,rfl,q⟩|⟨z,rfl,rfl,q⟩
 ·exact TY pins s σ H _ us Q I r (.inr ⟨k,rfl,q⟩)
 ·obtain⟨u,rfl,t,rfl⟩:=BR r;exact call_int_1 (FE t) (show(Made.int 1).post _ s from⟨rfl,.int 1,H,I.tok _,⟨_,rfl⟩,q⟩)
variable{o e f:Expr}{td:TE}{t:TA}{apos cpos:Pos}{K:FZ}{w:World}
variable{K:FZ}
end
theorem Inv.turnedL{X:Cx}{pins:List (Addr×Obj)}{σ:St}{H:Hp}{s:Shared}{h':Heap}{t':Nat}{ch:List Addr}(I:Inv X pins σ H s)(k:∀b o,b∉ch->s.heap.get? b=some o->h'.get? b=some o)(hf:∀b∈ch,JJ X pins H b):
  Inv X pins σ H {s with heap:=h',toks:=t'}:=by
 have nit:∀b u,H b=some u->b∉ch:=λb u e z=>by rw[(hf b z).1]at e;cases e
 refine I.step (g':=s.gens) (d':=s.drawn) (ch:=ch) (λb hb=> ?_) (λb o _ _ hc e _=>k b o hc e) (λb o _ _ hc e _=>⟨o.slots,k b o hc e⟩) (λ_ _ _ _ n=>n)
  (λb o hc e=>⟨o,k b o hc e⟩) (λ_ _ e=>e) (λ_ _ _ e=>e) (λb ps e=>⟨#[],by rw[e];simp⟩) (λm hm=> ?_) (λb u e=> ?_) I.bare
 ·obtain⟨_,f1,_,f3,f4,f5⟩:=hf b hb;exact⟨f3,f1,f4,f5⟩
 ·obtain⟨o,es,ep,ho,r⟩:=hm;exact⟨o,es,ep,k _ o (λz=>(hf _ z).2.1 rfl) ho,r⟩
 ·refine(I.hok b u e).stay (λc v hc q=>k c v ?_ q) (λ_ q=>q) λ_ _ q=>q;rcases hc with z|z
  ·rw[z];exact nit b u e
  ·exact nit c _ z
noncomputable def ccZ(P:Program)(w:World)(K:FZ)(mg:Str->Option Value)(base:Heap)(A:Around)(CX:CXT)(E:XK)(tf:TE)(t:TA):TE:=fun σ H Q=>tf σ H λx H0=>∃(f:Addr) (fd:FuncData) (ps:List Str) (sp:Sp) (k:Nat),
 x=.ref f/\FnOk P w K mg base CX k f fd ps sp/\Room k A/\kZ K (.ref f)=true/\Binds K fd ps []/\t σ H0 λvs H1=>sp vs H1 Q E
section
variable{X:Cx}{P:Program}{w:World}{K:FZ}{mg:Str->Option Value}{base:Heap}{A:Around}{CX:CXT}{E:XK}{x:Str}{p pos:Pos}{e:Expr}{es:List Expr}{tf:TE}{t:TA}
theorem NL(hf:PE X (.Name x p) tf)(hx:GB CX X E)(ha:PA X (e::es) t)(hP:X.prog=P:=by rfl)(hw:X.w=w:=by rfl)(hK:X.K=K:=by rfl)(hmg:X.mg=mg:=by rfl)(hbs:X.base=base:=by rfl)(hA:X.A=A:=by rfl)
  (he:starEach (e::es) X.env=(false,eval e X.env)::starEach es X.env:=by rfl)(hpl:(backTo pos (starEach es X.env)).any (·.1)=false:=by rfl):
  PE X (.Call (.Name x p) (e::es) [] pos) (ccZ P w K mg base A CX E tf t):=by
 subst hP;subst hw;subst hK;subst hmg;subst hbs;subst hA;intro pins s σ H Q I h;refine wpAny_Call_Name_kw (thn (hf pins s σ H _ I h) λfv s0 ⟨y,H0,I0,r0,q0⟩=> ?_);obtain⟨f,fd,ps,sp,k,rfl,F,hr,hk,hb,q⟩:=q0;cases r0;refine PySem.W.callWith_K (h₀:=X.base) I0.ok.mod.kin hk (thn (ha pos pins s0 σ H0 _ I0 q) λus s1 ⟨vs,H1,I1,r,q1⟩=>⟨I1.kIn, ?_⟩) he hpl;exact LL (dvs:=[]) F hr hb .nil hx I1 r (by rw[append_nil];exact q1)
end
theorem GO:bootBuiltins "reversed"=some (.type "reversed"):=by decide +kernel
noncomputable def Itv(K:FZ)(a:Addr)(n:Nat):It:=
 ⟨λi H=>∃xs x,SqL K H a xs/\xs.reverse[i]? =some x/\xs.length=n,λi H x H'=>H'=H/\∀xs,SqL K H a xs->xs.reverse[i]? =some x,λi _=>i=n⟩
theorem XN{P:Program}{w:World}{K:FZ}{tg:Expr}(a it:Addr)(n:Nat):Turn P w K tg (Itv K a n) [it] it (λi h=>h.IsRevIter it a ((n:Int) - 1 - (i:Int))) where
 mem:=by simp
 obj:=λi h st b hb=>by
  have e:b=it:=by simpa using hb
  subst e;obtain⟨o,e,c,d⟩:=st;exact⟨o,e,λv z=>by rw[d]at z;cases z⟩
 keep:=λi h h' st k=>st.at λo e=>k it (by simp) o e
 item:=by
  intro X hP hw hK hc i pins s σ H E I hf st hg;subst hP hw hK;obtain⟨xs,x,hq,hx,hn⟩:=hg;obtain⟨its,rv,p,hz⟩:=I.list hq;have hlt:i<xs.length:=by
   have:=(List.getElem?_eq_some_iff.mp hx).1
   simpa using this
  rw[getElem?_reverse hlt]at hx;obtain⟨u,hu,ru⟩:=rv.get hx;obtain⟨f0,f1,f2,f3,f4,f5⟩:=hf it (by simp);have e1:(n:Int) - 1 - (i:Int)=((xs.length - 1 - i:Nat):Int):=by omega
  have st1:=st;rw[e1]at st1;refine wpAny_pyNext_rev_item st1 p.isList (x:=u) (by simpa using hu) λh' st' sb=> ?_;have I1:Inv X pins σ H {s with heap:=h'}:=I.turned (t':=s.toks) (λb o hb e=>(sb.2 b hb).trans e) f0 f1 f3 f4 f5;have e2:((xs.length - 1 - i:Nat):Int) - 1=(n:Int) - 1 - ((i+1:Nat):Int):=by omega
  rw[e2]at st';obtain⟨o,e,c,d⟩:=id st';exact⟨u,rfl,QY (s:={s with heap:=h'}) e c d (by decide) ⟨x,H,I1,ru,⟨rfl,λys hy=>by rw[I.list_inj hy hq,getElem?_reverse hlt];exact hx⟩,st',λb hb=>(hf b hb).1⟩⟩
 done:=by
  intro X hP hw hK hc i pins s σ H E I hf st hg;subst hP hw hK;obtain⟨f0,f1,f2,f3,f4,f5⟩:=hf it (by simp);have hi:i=n:=hg;have e1:(n:Int) - 1 - (i:Int)= -1:=by omega
  rw[e1]at st;exact wpAny_pyNext_rev_end (I.ok.hd hc) st λh' eb=>⟨rfl,I.turned (t':=s.toks) (λb o hb e=>eb b o hb e) f0 f1 f3 f4 f5⟩
 self:=λ_ _ _ _ _ st h=>wpAny_pyIter_revIter st h
section
variable{X:Cx}{tg:Expr}{K:FZ}
noncomputable def dtZ(K:FZ)(ta:TA):TI:=fun σ H R=>ta σ H λvs H1=>∃a xs,vs=[.ref a]/\SqL K H1 a xs/\R (Itv K a xs.length) H1
theorem bHZ{a:Expr}{ta:TA}{p pos:Pos}(hg:Gl X "reversed")(hm:X.mg "reversed"=none)(ha:PA X [a] ta)(hK:X.K=K:=by rfl)(hs:starEach [a] X.env=[(false,eval a X.env)]:=by rfl):PI X tg (.Call (.Name "reversed" p) [a] [] pos) (dtZ K ta):=by
 subst hK;intro pins s σ H R I h;refine Call_ (T5 I hg hm GO (callWith_type1 (thn (ha pos pins s σ H _ I h) λus s1 ⟨vs,H1,I1,r1,q1⟩=> ?_) hs rfl));obtain⟨l,xs,e,hq,q⟩:=q1;subst e;cases r1 with
 |cons r rr=>
  cases rr;cases r;obtain⟨its,rv,pl,hz⟩:=I1.list hq;have hl:its.toArray.size=xs.length:=by rw[size_toArray];exact rv.length.symm
  refine call_reversed_list pl.isList ?_;have st:(s1.heap.push (revObj l ((its.toArray.size:Int) - 1))).IsRevIter s1.heap.objs.size l ((xs.length:Int) - 1 - ((0:Nat):Int)):=⟨_,get?_push_size _ rfl,rfl,by rw[hl];simp[revObj]⟩;refine wpAny_pyIter_revIter st ?_;refine⟨s1.heap.objs.size,[s1.heap.objs.size],_,_,H1,rfl,I1.kept (t':=s1.toks) λb o e=>gZ _ e,XN l _ xs.length,st,λb hb=> ?_,q⟩;have e:b=s1.heap.objs.size:=by simpa using hb
  subst e;exact I1.fpOk (Nat.le_refl _) (I1.hok.fresh (Nat.le_refl _))
end
theorem ajZ{K:FZ}{a:Addr}{xs:List V}{g:TG}{tb:TS}{D:Ends}{σ:St}{H:Hp}(Pv:Nat->St->Hp->Prop)(h0:Pv 0 σ H)(hl:∀i σ H,i<=xs.length->Pv i σ H->SqL K H a xs)
  (hs:∀i x σ H,xs.reverse[i]? =some x->Pv i σ H->g x σ H fun σ2 H2=>tb {D with nx:=Pv (i+1),ct:=Pv (i+1),bk:=D.nx} σ2 H2)(hd:∀σ H,Pv xs.length σ H->D.nx σ H):
  ∃W:Nat->Nat->St->Hp->Prop,(∃m,W 0 m σ H)/\∀i m σ H,W i m σ H->
   ((Itv K a xs.length).stop i H/\D.nx σ H)\/((Itv K a xs.length).go i H/\∃N:St->Hp->Prop,(∀σ' H',N σ' H'->∃m',m'<m/\W (i+1) m' σ' H')/\∀x H',(Itv K a xs.length).yld i H x H'->g x σ H' fun σ2 H2=>tb {D with nx:=N,ct:=N,bk:=D.nx} σ2 H2):=by
 refine⟨λi m σ H=>m=xs.length - i/\i<=xs.length/\Pv i σ H,⟨xs.length,by simp,zero_le _,h0⟩, ?_⟩;rintro i m σ H ⟨rfl,hi,p⟩;have q:=hl i σ H hi p;by_cases hlt:i<xs.length
 ·have hlt':i<xs.reverse.length:=by rw[length_reverse];exact hlt
  refine .inr ⟨⟨xs,xs.reverse[i],q,List.getElem?_eq_getElem hlt',rfl⟩,Pv (i+1),fun σ' H' p'=>⟨xs.length - (i+1),by omega,rfl,hlt,p'⟩,λx H' y=> ?_⟩;obtain⟨e,y⟩:=y;subst e;exact hs i x σ _ (y xs q) p
 ·have e:i=xs.length:=by omega
  subst e;exact .inl ⟨rfl,hd σ H p⟩
end L2
namespace PySem
namespace F
theorem nolen_lri:typeLookup (.type "list_reverseiterator") "__len__"=pure none:=by rw[typeLookup_type,builtinLookup_eq_fast];kernel_rfl
theorem hint_lri:typeLookup (.type "list_reverseiterator") "__length_hint__"=pure (some (.builtin "list_reverseiterator.__length_hint__")):=by rw[typeLookup_type,builtinLookup_eq_fast];kernel_rfl
end F
section
variable{prog:Program}{w:World}{A:Around}{E:Value->Shared->Prop}{s:Shared}
noncomputable abbrev CK(items:Array Value):Nat->Value->Prop:=λi v=>items[items.size - 1 - i]? =some v
theorem GL{R:Result->Shared->Prop}(hh:A.handled=none){I l:Addr}{items:Array Value}(hit:s.heap.IsRevIter I l ((items.size:Int) - 1))(hl:s.heap.IsList l items)(hne:l≠I)(S:Addr)(res:Value)(c₀:Nat)
  (hS:s.heap.get? S=some {cls:=.type "list",data:=.seq #[] c₀})(hSI:S≠I)(hSl:S≠l)
  (hR:∀h' tk acc' c',(∀b o,b≠S->b≠I->s.heap.get? b=some o->h'.get? b=some o)->h'.get? S=some {cls:=.type "list",dict:=none,data:=.seq acc' c',slots:= #[]}->
   ItemsOf (CK items) acc' items.size->R (.ok (.ret res)) {s with heap:=h',toks:=tk})(hn:items.size<=sizeLine):
  wpAny (model prog w) A.in1 (Builtin.List.listExtendWith (.ref S) (.ref I) res)
   (λfin s'=>match fin with| .done f=>R (.ok f) s'| .again c'=>c'.quiet=true/\codeAny (model prog w) A c' R s') (λe s'=>R (.error e) s') s:=by
 have hSf:S∉ [I,l]:=λhm=>by
  rcases cZ hm with e|hm
  ·exact hSI e
  ·exact hSl (sZ hm)
 have W:=(Walks.listRev (prog:=prog) (w:=w) (A:=A.in1) hh I l hne items).toS;have hit0:s.heap.IsRevIter I l ((items.size:Int) - 1 - ((0:Nat):Int)):=by
  have e:(items.size:Int) - 1 - ((0:Nat):Int)=(items.size:Int) - 1:=by omega
  rw[e];exact hit
 unfold Builtin.List.listExtendWith;refine bZ (wpAny_typeOf (T:="list_reverseiterator") hit.typeIs ?_);have h1:Builtin.List.listSameRef (.ref S) (.ref I)=false:=by simp[Builtin.List.listSameRef,hSI]
 have h2:(Value.type "list_reverseiterator"==Value.type "list")=false:=by decide
 have h3:(Value.type "list_reverseiterator"==Value.type "tuple")=false:=by decide
 simp only[h1,h2,h3,Bool.or_false,Bool.false_eq_true,if_false];refine bZ (wpAny_pyIter_revIter hit ?_);refine bZ (wpAny_holding ?_);unfold Builtin.List.listLengthHint;refine bZ (wpAny_specialOf hit.typeIs F.nolen_lri ?_);show wpAny _ A.in1 (specialOf (Value.ref I) (Str.ofString "__length_hint__")>>=_) _ _ _;refine bZ (wpAny_specialOf hit.typeIs F.hint_lri ?_);generalize hid:("list_reverseiterator.__length_hint__":String)=id0
 wp_delta
 rw[show splitId id0=some ("list_reverseiterator","__length_hint__")from by subst hid;decide +kernel];subst hid;refine bZ (wpAny_isInstance (b:=true) hit.typeIs (by rw[isSubtype_type];kernel_rfl) ?_);refine pZ ?_;rw[if_neg (by decide)];refine pZ ⟨plainId_quiet F.plain_extend_loop _,codeAny_extend_loopS W hn _ hSf _ items.size 0 _ _ _ rfl (zero_le _) ⟨zero_le _,hit0,hl⟩ hS (ItemsOf.nil _) λs' acc' c' hm hS' hacc=> ?_⟩;rw[Moved.eq_with hm];refine hR s'.heap s'.toks acc' c' (λb ob hb hb2 e=>hm.heap b ob (λhmem=> ?_) e) hS' hacc;rcases cZ hmem with e'|hmem
 ·exact hb e'
 ·exact hb2 (sZ hmem)
theorem DF{R:Result->Shared->Prop}(hh:A.handled=none){I l:Addr}{items:Array Value}(hit:s.heap.IsRevIter I l ((items.size:Int) - 1))(hl:s.heap.IsList l items)(hne:l≠I)(S:Addr)(hSI:S≠I)(hSl:S≠l)
  (hS:s.heap.get? S=some {cls:=.type "list",data:=.seq #[]})
  (hR:∀h' tk acc' c',(∀b o,b≠S->b≠I->s.heap.get? b=some o->h'.get? b=some o)->h'.get? S=some {cls:=.type "list",dict:=none,data:=.seq acc' c',slots:= #[]}->
   ItemsOf (CK items) acc' items.size->R (.ok (.ret .none)) {s with heap:=h',toks:=tk})(hn:items.size<=sizeLine):
  wpAny (model prog w) A.in1 (Builtin.«list.__init__» ⟨[.ref S,.ref I],[]⟩)
   (λfin s'=>match fin with| .done f=>R (.ok f) s'| .again c'=>c'.quiet=true/\codeAny (model prog w) A c' R s') (λe s'=>R (.error e) s') s:=by
 show wpAny _ _ (do let old<-Builtin.List.listItems (.ref S);Builtin.List.listUpdate (.ref S) (λ_=> #[]);letGo old.toList.reverse;Builtin.List.listExtendWith (.ref S) (.ref I) .none) _ _ s;refine bZ ?_;unfold Builtin.List.listItems;refine bZ (wpAny_seqItems hS rfl (pZ ?_));show wpAny _ _ (updateSeq S (λ_=> #[])>>=λ_=>letGo (#[]:Array Value).toList.reverse>>=λ_=>Builtin.List.listExtendWith (.ref S) (.ref I) .none) _ _ s;refine bZ (wpAny_updateSeq hS rfl ?_);have hS₂:=get?_update_self (Obj.mapSeq (λ_=>(#[]:Array Value))) hS rfl;have oth:∀b o,b≠S->s.heap.get? b=some o->(s.heap.update S (Obj.mapSeq (λ_=>(#[]:Array Value)))).get? b=some o:=
  λb o hb e=>(get?_update_other _ _ (Ne.symm hb)).trans e
 refine bZ (wpAny_letGo ?_);refine GL hh (hit.at λo e=>oth I o (Ne.symm hSI) e) (hl.at λo e=>oth l o (Ne.symm hSl) e) hne S .none _ hS₂ hSI hSl (λh' tk acc' c' hk hS' hacc=> ?_) hn;exact hR h' tk acc' c' (λb o hb hb2 e=>hk b o hb hb2 (oth b o hb e)) hS' hacc
theorem JL{Q:Value->Shared->Prop}(hh:A.handled=none){I l:Addr}{items:Array Value}(hit:s.heap.IsRevIter I l ((items.size:Int) - 1))(hl:s.heap.IsList l items)(hne:l≠I)
  (hQ:∀h' tk acc' c',(∀b o,b≠I->s.heap.get? b=some o->h'.get? b=some o)->
   h'.get? s.heap.objs.size=some {cls:=.type "list",dict:=none,data:=.seq acc' c',slots:= #[]}->ItemsOf (CK items) acc' items.size->Q (.ref s.heap.objs.size) {s with heap:=h',toks:=tk})(hn:items.size<=sizeLine):
  wpAny (model prog w) A (call (.type "list") [.ref I]) Q E s:=by
 have ltI:I<s.heap.objs.size:=let⟨o,e,_⟩:=hit;lt_size e;have ltl:l<s.heap.objs.size:=let⟨o,e,_⟩:=hl;lt_size e;refine callType_codes (Q₁:=λobj s₁=>obj=.ref s.heap.objs.size/\s₁={s with heap:=s.heap.push {cls:=.type "list",data:=.seq #[]}}) F.called_list (F.typeCall_list_1 _) F.entry_list_init
  (code_list_new _ ⟨rfl,rfl⟩) λobj s₁ h₁=> ?_
 obtain⟨rfl,rfl⟩:=h₁;have hS:(s.heap.push {cls:=.type "list",data:=.seq #[]}).get? s.heap.objs.size=some {cls:=.type "list",data:=.seq #[]}:=get?_push_size _ rfl;refine⟨⟨_,hS,rfl⟩,F.args_list_init_2 _ _,DF (A:=A.in1) hh (hit.at λo e=>gZ _ e) (hl.at λo e=>gZ _ e) hne _ (Nat.ne_of_gt ltI) (Nat.ne_of_gt ltl) hS (λh' tk acc' c' hk hS' hacc=> ?_) hn⟩;exact⟨rfl,hQ h' tk acc' c' (λb o hb e=>hk b o (ne_of_lt (lt_size e)) hb (gZ _ e)) hS' hacc⟩
theorem US{its:List Value}{acc:Array Value}(h:ItemsOf (CK its.toArray) acc its.toArray.size):acc=its.reverse.toArray:=by
 obtain⟨h1,h2⟩:=h;refine Array.ext (by simpa using h1) λi hi hi2=> ?_;have e:=h2 i acc[i] (Array.getElem?_eq_getElem hi);have e':its[its.length - 1 - i]? =some acc[i]:=by simpa [CK]using e
 have hlt:i<its.length:=by simpa using hi2
 have e2:its.reverse[i]? =some acc[i]:=by rw[getElem?_reverse hlt];exact e'
 have e3:its.reverse.toArray[i]? =some acc[i]:=by simpa using e2
 rw[Array.getElem?_eq_getElem hi2]at e3;exact(Option.some.inj e3).symm
end
end PySem
namespace L2
open PySem PySem.Spec PyProof.Rows
theorem Vals.rev{vs:List V}{us:List Value}(h:Vals vs us):Vals vs.reverse us.reverse:=by
 induction h with
 |nil=>exact .nil
 |cons r _ ih=>rw[reverse_cons,reverse_cons];exact ih.append (.cons r .nil)
section
variable{X:Cx}{K:FZ}
noncomputable def XR(K:FZ)(ta:TA):TE:=fun σ H Q=>ta σ H λvs H1=>∃a xs,vs=[.ref a]/\SqL K H1 a xs/\∀r,H1 r=none->Q (.ref r) (upd H1 r (.lst xs.reverse))
theorem QL{a:Expr}{ta:TA}{p p' pos pos':Pos}(hg:Gl X "reversed")(hm:X.mg "reversed"=none)(hg':Gl X "list")(hm':X.mg "list"=none)(hc:X.calm=true)(ha:PA X [a] ta)(hK:X.K=K:=by rfl)(hs:starEach [a] X.env=[(false,eval a X.env)]:=by rfl)
  (hs':starEach [.Call (.Name "reversed" p) [a] [] pos] X.env=[(false,eval (.Call (.Name "reversed" p) [a] [] pos) X.env)]:=by rfl):
  PE X (.Call (.Name "list" p') [.Call (.Name "reversed" p) [a] [] pos] [] pos') (XR K ta):=by
 subst hK;intro pins s σ H Q I h;refine wpAny_Call_Name_kw (T5 I hg' hm' V6 ?_);refine callWith_type1 ?_ hs' rfl;rw[hs'];refine Calls.spliced_cons (Call_ (T5 I hg hm GO (callWith_type1 (thn (ha pos pins s σ H _ I h) λus s1 ⟨vs,H1,I1,r1,q1⟩=> ?_) hs rfl)));obtain⟨l,xs,e,hq,q⟩:=q1;subst e;cases r1 with
 |cons r rr=>
  cases rr;cases r;obtain⟨its,rv,pl,hz⟩:=I1.list hq;refine call_reversed_list pl.isList ?_;refine Calls.spliced_nil ?_;have st:(s1.heap.push (revObj l ((its.toArray.size:Int) - 1))).IsRevIter s1.heap.objs.size l ((its.toArray.size:Int) - 1):=⟨_,get?_push_size _ rfl,rfl,rfl⟩;have ltl:l<s1.heap.objs.size:=let⟨o,e,_⟩:=pl.isList;lt_size e;have hlen:=rv.length;refine JL (I1.ok.hd hc) st (pl.isList.at λo e=>gZ _ e) (ne_of_lt ltl) (λh' tk acc c hk hS hacc=> ?_) (by rw[size_toArray,<-hlen];exact hz);rw[US hacc]at hS;have ns:(s1.heap.push (revObj l ((its.toArray.size:Int) - 1))).objs.size=s1.heap.objs.size+1:=Heap.size_push ..;rw[ns]at hS⊢;have kp:∀b o,s1.heap.get? b=some o->h'.get? b=some o:=λb o e=>hk b o (ne_of_lt (lt_size e)) (gZ _ e);exact⟨.ref (s1.heap.objs.size+1),_,I1.laid (t':=tk) kp (le_succ _) (show ObjOk X.prog X.w _ h' _ (.lst xs.reverse)from⟨by rw[length_reverse];exact hz,its.reverse,c,rv.rev,hS⟩),rfl,q _ (I1.hok.fresh (le_succ _))⟩
end
theorem OV:bootBuiltins "zip"=some (.type "zip"):=by decide +kernel
noncomputable def Itz(K:FZ)(l1 l2:Addr):It:=
 ⟨λi H=>∃xs ys x y,SqL K H l1 xs/\SqL K H l2 ys/\xs[i]? =some x/\ys[i]? =some y,
  λi H v H'=>∃T x y,(∀xs ys,SqL K H l1 xs->SqL K H l2 ys->xs[i]? =some x/\ys[i]? =some y)/\H T=none/\v=.ref T/\H'=upd H T (.tup [x,y]),
  λi H=>∃xs ys,SqL K H l1 xs/\SqL K H l2 ys/\(xs.length<=i\/ys.length<=i)⟩
section
variable{X:Cx}{K:FZ}{elts:List Expr}{kt:Nat}{pt:Pos}
end
theorem ME{prog:Program}{w:World}{A:Around}{R:Result->Shared->Prop}{s:Shared}{elt target iter:Expr}{ifs:List Expr}{scope:Scope}{pos:Pos}{it acc:Value}{env:Env}(I:Nat->Shared->Prop)
  (turn:∀n s,I n s->wpAny (model prog w) A (pyNext it) (λr s₁=>match r with
   |none=>R (.ok .next) s₁
   |some v=>wpAny (model prog w) A (letOwnedTupleGo target it v) (λ_ s₀=>wpAny (model prog w) A (assign target env v) (λ_ s₂=>
     wpAny (model prog w) A (forIn ifs true λc r=>if r=true then do let ok<-isTrue c env (eval c env);pure (ForInStep.yield ok)else pure (ForInStep.yield r)) (λok s₃=>
      if ok=true then wpAny (model prog w) A (eval elt env) (λx s₄=>
       wpAny (model prog w) A (call (.builtin "list.append") [acc,x]) (λ_ s₅=>∃m,m<n/\I m s₅) (notedBy (model prog w) A env λe s'=>R (.error e) s') s₄) (notedBy (model prog w) A env λe s'=>R (.error e) s') s₃
      else∃m,m<n/\I m s₃) (notedBy (model prog w) A env λe s'=>R (.error e) s') s₂) (notedBy (model prog w) A env λe s'=>R (.error e) s') s₀) (notedBy (model prog w) A env λe s'=>R (.error e) s') s₁)
   (notedBy (model prog w) A env λe s'=>R (.error e) s') s)
  (n:Nat)(h:I n s):codeAny (model prog w) A (.compLoop (.ListComp elt [⟨target,iter,ifs,0⟩] scope pos) 0 it acc env) R s:=by
 refine codeAny_loop rfl I (λn s hI=> ?_) n h;show wpAny _ A ((compTurn (.ListComp elt [⟨target,iter,ifs,0⟩] scope pos) 0 it acc env).onRaise (λx=>do noteFrame x env;theTreesLotGoes x)) _ _ s;refine wpAny_noted ?_;rw[compTurn_list];refine bZ (wpAny_standAt (bZ (thn (turn n s hI) λr s₁ h₁=> ?_)));cases r with
 |none=>exact pZ h₁
 |some v=>
  refine bZ (thn h₁ λ_ s₀ h₀=>bZ (thn h₀ λ_ s₂ h₂=>bZ (thn h₂ λok s₃ h₃=> ?_)));cases ok with
  |false=>exact pZ ⟨rfl,h₃⟩
  |true=>exact bZ (bZ (thn h₃ λx s₄ h₄=>bZ (thn h₄ λ_ s₅ h₅=>pZ (pZ ⟨rfl,h₅⟩))))
structure CompScope2 (N:List Str) (sc scope:Scope) (x1 x2:Str) (caps:List Nat) (ns:List Str):Prop where
 cell:∀y∈scope.names,y.2≠ .cell
 kind:scope.kind=.function
 names:∀y∈scope.names,y.2=.local->scope.names.lookup y.1=some .local
 var1:scope.names.lookup x1=some .local
 var2:scope.names.lookup x2=some .local
 free:∀y∈scope.names,y.2=.free->sc.names.lookup y.1=some .cell\/sc.names.lookup y.1=some .free
 at_:caps.map (λj=>N[j]?)=ns.map some
 nsf:∀y∈ns,scope.names.lookup y=some .free
 nd:(x1::x2::ns).Nodup
noncomputable def capσ2(caps:List Nat)(σ:St)(u v:Option V):St:=u::v::caps.map λj=>(σ[j]?).getD none
noncomputable def RH(K:FZ)(wi:TI)(caps:List Nat)(tt:TT)(te:TE)(σ:St)(H:Hp)(R:List V->Hp->Prop):Prop:=wi σ H λJ H1=>∃W:Nat->Nat->List V->Hp->Prop,(∃m,W 0 m [] H1)/\∀i m ys H,W i m ys H->
 ys.length<=sizeLine/\((J.stop i H/\R ys H)\/(J.go i H/\∃N:List V->Hp->Prop,(∀ys' H',N ys' H'->∃m',m'<m/\W (i+1) m' ys' H')/\∀v H',J.yld i H v H'->∃a v1 v2,v=.ref a/\SqT K H' a [v1,v2]/\
  tt (capσ2 caps σ (some v1) (some v2)) H' λb H2=>if b=true then te (capσ2 caps σ (some v1) (some v2)) H2 λy H3=>N (ys++ [y]) H3 else N ys H2))
noncomputable def bUZ(K:FZ)(wi:TI)(caps:List Nat)(tt:TT)(te:TE):TE:=fun σ H Q=>RH K wi caps tt te σ H λys H1=>∀D,H1 D=none->Q (.ref D) (upd H1 D (.lst ys))
section
variable{X:Cx}
set_option maxHeartbeats 4000000 in
theorem PH{x1 x2:Str}{px1 px2 ptu:Pos}{ktu:Nat}{iter elt:Expr}{ifs:List Expr}{scope:Scope}{pos pos':Pos}{wi:TI}{tt:TT}{te:TE}{caps:List Nat}{ns:List Str}{use:Option (Value->Sem Unit)}{Q:Value->Shared->Prop}
  {pins:List (Addr×Obj)}{s:Shared}{σ:St}{H:Hp}{R:List V->Hp->Prop}
  (CS:CompScope2 X.N X.env.scope scope x1 x2 caps ns)(hc:X.calm=true)(hi:PI X (.Tuple [.Name x1 px1,.Name x2 px2] ktu ptu) iter wi)
  (ht:∀cl C s H fp,PTs (X.comp (x1::x2::ns) scope cl C s H fp) ifs tt)(he:∀cl C s H fp,PE (X.comp (x1::x2::ns) scope cl C s H fp) elt te)
  (hs:∀v,foldedSetIterable iter X.env v=pure v)
  (I:Inv X pins σ H s)(h:RH X.K wi caps tt te σ H R)
  (hend:∀D C s' H' ys,Inv X pins σ (upd H' D (.lst ys)) s'->H' D=none->R ys H'->(∃m,s'.heap.Ns C m)->(upd H' D (.lst ys)) C=none->C≠X.env.locals->X.s₀.heap.objs.size<=C->(∀y c,X.env.cells.lookup y=some c->c≠C)->(∀p∈X.pn++pins,p.1≠C)->
   compPost (model X.prog X.w) X.A X.xe use Q (.ref D) C (.ok .next) s'):
  wpAny (model X.prog X.w) X.A (comprehension (.ListComp elt [⟨.Tuple [.Name x1 px1,.Name x2 px2] ktu ptu,iter,ifs,0⟩] scope pos) scope X.env pos' (newList []) false (eval iter X.env) use) Q X.xe s:=by
 have hcells:∀y∈scope.names,y.2=.free->∃c,X.env.cells.lookup y.1=some c:=λy hy hf=>I.ok.has y.1 (CS.free y hy hf);refine wpAny_comprehension_free (use:=use) rfl hs (BS hcells) CS.kind CS.names ?_;refine thn (hi pins s σ H _ I h) λv s1 h1=>thn h1 λitv s2 h2=> ?_;obtain⟨it,fp,tn,J,H2,e,I2,T,st2,f2,W,⟨m0,w0⟩,turn⟩:=h2;subst e;refine wpAny_newObj_type (wpAny_newFunctionEnv CS.cell (by intro y hy;simp at hy) (λh₁ hns₁ hsb₁=> ?_) CS.kind)
 dsimp only at hns₁ hsb₁⊢
 generalize hHH:s2.heap.push {cls:=.type "list",dict:=none,data:=.seq ([]:List Value).toArray}=HH at hns₁ hsb₁⊢;have hC:HH.objs.size=s2.heap.objs.size+1:=by rw[<-hHH,Heap.size_push]
 generalize hCe:HH.objs.size=C at hns₁ hsb₁ hC⊢;have hDC:s2.heap.objs.size≠C:=by rw[hC];exact ne_of_lt (lt_succ_self _)
 have below:∀b,b<s2.heap.objs.size->b≠C/\b≠s2.heap.objs.size:=λb hb=>⟨by rw[hC];exact ne_of_lt (lt_succ_of_lt hb),ne_of_lt hb⟩;have old:∀b o,s2.heap.get? b=some o->h₁.get? b=some o:=λb o e=>hsb₁.extBut b o (below b (lt_size e)).1 (gZ _ (hHH▸gZ _ e));have hacc:h₁.get? s2.heap.objs.size=some (LCg.lst []):=hsb₁.extBut _ _ hDC (gZ _ (hHH▸get?_push_size _ rfl));have nfp:∀b∈fp,b<s2.heap.objs.size:=λb hb=>let⟨o,e,_⟩:=T.obj _ _ st2 b hb;lt_size e;have clsub:∀y c,(CP X.env.cells scope.names []).lookup y=some c->X.env.cells.lookup y=some c:=λy c e=>by
  rcases HX scope.names [] (y,c) hcells (PySem.mem_of_lookup e)with q|q
  ·cases q
  ·exact q.1
 have fresh2:∀a,s2.heap.objs.size<=a->H2 a=none:=λa ha=>I2.hok.fresh ha;generalize hcl:CP X.env.cells scope.names []=cl at clsub⊢;have clhas:∀y,(y,NameKind.free)∈scope.names->∃c,cl.lookup y=some c:=λy hy=>by
  obtain⟨c,q⟩:=IS (cells:=X.env.cells) scope.names [] y (.inl hy);rw[hcl]at q;obtain⟨d,q1,_⟩:=AA q;exact⟨d,q1⟩
 have ltC:∀y c,X.env.cells.lookup y=some c->c<s2.heap.objs.size:=λy c e=>let⟨v,z⟩:=I2.cell y c e;z.lt;have ok':(X.comp (x1::x2::ns) scope cl C s2 H2 fp).Ok:=by
  refine⟨I2.ok.mod,CS.kind,I2.ok.glob,I2.ok.blt,(by show s2.heap.objs.size<=C;rw[hC];exact le_succ _),λy z c a b=>I2.ok.inj y z c (clsub y c a) (clsub z c b),λy hy=>clhas y (CA hy CS.cell),λy c z=>(by cases z),I2.ok.hd,I2.ok.frames,.inl rfl,
   λb hb=>⟨(below b (nfp b hb)).1,λy c e z=>(f2 b hb).2.2.2.2.1 y c (clsub y c e) z⟩,λb o e=>I2.bs b o e,Nat.le_trans I2.ok.bsz I2.sz,λb o e hb=> ?_,λb hb hf=> ?_,I2.stack,I2.stkFree⟩
  ·rcases(f2 b hb).2.2.2.1 with z|z
   ·exact I2.ok.noex b o e z
   ·exact absurd (lt_of_lt_of_le (lt_size e) (Nat.le_trans I2.ok.bsz z)) (lt_irrefl _)
  ·rcases cZ (I2.stkSub b hf)with z|z
   ·exact(f2 b hb).2.1 z
   ·exact(f2 b hb).2.2.1 z
 have capget:∀(k:Nat) (y:Str) (v:V),(x1::x2::ns)[k]? =some y->(capσ2 caps σ none none)[k]? =some (some v)->∃j,X.N[j]? =some y/\σ[j]? =some (some v)/\scope.names.lookup y=some .free:=λk y v e1 e2=>by
  match k,e1,e2 with
  |0,_,e2=>cases e2
  |1,_,e2=>cases e2
  |k+2,e1,e2=>
   have e1':ns[k]? =some y:=by simpa using e1
   have e2':(caps.map λj=>(σ[j]?).getD none)[k]? =some (some v):=by simpa [capσ2]using e2
   have e3:(ns.map some)[k]? =some (some y):=by rw[getElem?_map,e1'];rfl
   rw[<-CS.at_,getElem?_map]at e3;rw[getElem?_map]at e2';cases hj:caps[k]? with
   |none=>rw[hj]at e3;cases e3
   |some j=>
    rw[hj]at e3 e2';have e4:X.N[j]? =some y:=Option.some.inj e3;have e5:(σ[j]?).getD none=some v:=Option.some.inj e2';refine⟨j,e4, ?_,CS.nsf y (mem_of_getElem? e1')⟩;cases hσ:σ[j]? with
    |none=>rw[hσ]at e5;cases e5
    |some z=>rw[hσ]at e5;have e6:z=some v:=e5;rw[e6]
 have visfree:∀y,scope.names.lookup y=some .free->X.env.kindOf y=some .cell\/X.env.kindOf y=some .free:=λy hy=>CS.free (y,.free) (PySem.mem_of_lookup hy) rfl;have I0:Inv (X.comp (x1::x2::ns) scope cl C s2 H2 fp) (pins++ [(s2.heap.objs.size,LCg.lst [])]) (capσ2 caps σ none none) H2 {s2 with heap:=h₁,toks:=s2.toks+([]:List (Str×Value)).length}:=by
  obtain⟨m2,hn2,hl2⟩:=I2.loc;refine⟨ok',rfl,I2.bare,Un.kept old,⟨_,hns₁,λk y v e1 e2 e3=> ?_⟩,λy c e=> ?_,fresh2 C (by rw[hC];exact le_succ _),λy c e=>I2.freeC y c (clsub y c e),λp hp=> ?_,I2.hok.kept old, ?_⟩
  ·obtain⟨j,q1,q2,q3⟩:=capget k y v e1 e2;have vf:=visfree y q3;obtain⟨u,ru,lk⟩:=hl2 j y v q1 q2 (vf.elim (λz=> .inr (.inl z)) λz=> .inr (.inr z));refine⟨u,ru,.inr ⟨Q0 q3, ?_⟩⟩;obtain⟨c,hcl'⟩:=clhas y (PySem.mem_of_lookup q3);refine⟨c,hcl', ?_⟩;rcases lk with⟨k1,_⟩|⟨_,c',e',z⟩
   ·rcases vf with vf|vf<;>(rw[k1]at vf;cases vf)
   ·have q:=clsub y c hcl';rw[e']at q;cases q;exact z.keeps old
  ·obtain⟨v,z⟩:=I2.cell y c (clsub y c e);exact⟨v,z.keeps old⟩
  ·rcases mem_append.mp hp with hp|hp
   ·obtain⟨a1,a2,a3,a4,a5⟩:=I2.pin p (mem_append_left _ hp);refine⟨old _ _ a1,a2,(below _ (lt_size a1)).1,λz=> ?_,a5⟩;rcases cZ (I2.stkSub _ z)with z|z
    ·exact a3 z
    ·exact a4 z
   ·rcases mem_append.mp hp with hp|hp
    ·obtain⟨a1,a2,a3,a4,a5⟩:=I2.pin p (mem_append_right _ hp);refine⟨old _ _ a1,a2,(below _ (lt_size a1)).1,λz=> ?_,a5⟩;rcases cZ (I2.stkSub _ z)with z|z
     ·exact a3 z
     ·exact a4 z
    ·have e:p=(s2.heap.objs.size,LCg.lst []):=by simpa using hp
     subst e;refine⟨hacc,fresh2 _ (Nat.le_refl _),hDC,λz=> ?_,λv z=>by cases z⟩;rcases cZ (I2.stkSub _ z)with z|z
     ·exact absurd I2.lt (by rw[<-z];exact lt_irrefl _)
     ·exact I2.nofs (Nat.le_refl _) z
  ·show(capσ2 caps σ none none).length=(x1::x2::ns).length;have:=congrArg List.length CS.at_;simp only[length_map]at this;simp[capσ2,this]
 have loop:∀s₃:Shared,s₃={s2 with heap:=h₁,toks:=s2.toks+([]:List (Str×Value)).length}->
   codeAny (model X.prog X.w) X.A (.compLoop (.ListComp elt [⟨.Tuple [.Name x1 px1,.Name x2 px2] ktu ptu,iter,ifs,0⟩] scope pos) 0 (.ref it) (.ref s2.heap.objs.size) (compEnvC scope cl C X.env))
    (compPost (model X.prog X.w) X.A X.xe use Q (.ref s2.heap.objs.size) C) s₃:=by
  rintro s₃ rfl;refine ME (λn s'=>∃i ys us H',Inv (X.comp (x1::x2::ns) scope cl C s2 H2 fp) (pins++ [(s2.heap.objs.size,LCg.lst us)]) (capσ2 caps σ none none) H' s'/\Vals ys us/\tn i s'.heap/\(∀b∈fp,H' b=none)/\W i n ys H') ?_ m0
   ⟨0,[],[],H2,I0,.nil,T.keep _ _ _ st2 (λb _ o e=>old b o e),λb hb=>(f2 b hb).1,w0⟩
  rintro n s3 ⟨i,ys,us,H3,I3,rv,st3,fr3,w3⟩;obtain⟨hle,hstep⟩:=turn i n ys H3 w3;have pinlt:∀p∈X.pn++pins,p.1<s2.heap.objs.size:=λp hp=>lt_size (I2.pin p hp).1;have stat:∀ {H':Hp},(∀b∈fp,H' b=none)->∀b∈fp,JJ (X.comp (x1::x2::ns) scope cl C s2 H2 fp) (pins++ [(s2.heap.objs.size,LCg.lst us)]) H' b:=λhn b hb=>
   ⟨hn b hb,(below b (nfp b hb)).1,ok'.exfs b hb,.inl hb,λy c e z=>(f2 b hb).2.2.2.2.1 y c (clsub y c e) z,λp hp=>by
    rcases mem_append.mp hp with hp|hp
    ·exact(f2 b hb).2.2.2.2.2 p (mem_append_left _ hp)
    ·rcases mem_append.mp hp with hp|hp
     ·exact(f2 b hb).2.2.2.2.2 p (mem_append_right _ hp)
     ·have e:p=(s2.heap.objs.size,LCg.lst us):=by simpa using hp
      subst e;exact Ne.symm (below b (nfp b hb)).2⟩
  have memD:∀(l:List (Addr×Obj)),(s2.heap.objs.size,LCg.lst us)∈(X.comp (x1::x2::ns) scope cl C s2 H2 fp).pn++((pins++ [(s2.heap.objs.size,LCg.lst us)])++l):=λl=>
   mem_append_right _ (mem_append_left _ (mem_append_right _ mem_cons_self))
  rcases hstep with⟨stop,r⟩|⟨go,Nx,hNx,step⟩
  ·refine thn (T.done (X.comp (x1::x2::ns) scope cl C s2 H2 fp) rfl rfl rfl hc i _ s3 _ H3 _ I3 (stat fr3) st3 stop) λr' s4 ⟨hr,I4⟩=> ?_;subst hr;have pD:=I4.pin (s2.heap.objs.size,LCg.lst us) (mem_append_right _ (mem_append_right _ mem_cons_self));have hDn:H3 s2.heap.objs.size=none:=pD.2.1;have hCn:H3 C=none:=I4.free;have b4:Un (frs X.stack) fp H2 H3 s2.heap s4.heap:=I4.base;have u4:Un (frs X.stack) fp H2 (upd H3 s2.heap.objs.size (.lst ys)) s2.heap s4.heap:=
    ⟨b4.keep,b4.slot,λb o e n hx=>by rw[C4 (below b (lt_size e)).2];exact b4.free b o e n hx,b4.there,
     λb xs q=>by rw[C4 (C9 (b4.tups b xs q) hDn)];exact b4.tups b xs q,λb o u q=>by rw[C4 (C9 (b4.frzs b o u q) hDn)];exact b4.frzs b o u q,
     λb ps q=>by
      obtain⟨m1,e1⟩:=b4.tbls b ps q;exact⟨m1,by rw[C4 (C9 e1 hDn)];exact e1⟩⟩
   have k4:HOk X.prog X.w (upd H3 s2.heap.objs.size (.lst ys)) s4.heap:=λb u e=>by
    by_cases hb:b=s2.heap.objs.size
    ·subst hb;rw[A1]at e;cases e;exact⟨hle,us,_,rv,pD.1⟩
    ·rw[C4 hb]at e;exact(I4.hok b u e).stay (λc v _ q=>q) (λc q=>by rw[C4 (C9 q hDn)];exact q) λc xs q=>by rw[C4 (C9 q hDn)];exact q
   have J4:Inv X pins σ (upd H3 s2.heap.objs.size (.lst ys)) s4:=I2.call' (ch:=fp) I4.os u4 k4 I4.bare λb hb=>⟨(f2 b hb).2.2.2.1,(f2 b hb).2.1,(f2 b hb).2.2.2.2.1,(f2 b hb).2.2.2.2.2⟩;obtain⟨mC,hnC,_⟩:=I4.loc;exact hend _ C s4 H3 ys J4 hDn r ⟨mC,hnC⟩ (by rw[C4 (Ne.symm hDC)];exact hCn) (Ne.symm (below _ I2.lt).1) (by rw[hC];exact le_succ_of_le I2.sz) (λy c e=>(below c (ltC y c e)).1) λp hp=>(below _ (pinlt p hp)).1
  ·refine thn (T.item (X.comp (x1::x2::ns) scope cl C s2 H2 fp) rfl rfl rfl hc i _ s3 _ H3 _ I3 (stat fr3) st3 go) λr' s4 ⟨u,hr,h4⟩=> ?_;subst hr;refine thn h4 λ_ s5 ⟨v,H5,I5,r5,y5,st5,fr5⟩=> ?_;have I5':=I5.pinned (stat fr5) (T.obj _ _ st5);obtain⟨aT,v1,v2,ev,hT,step'⟩:=step v H5 y5;have PGt:PG (X.comp (x1::x2::ns) scope cl C s2 H2 fp) (.Tuple [.Name x1 px1,.Name x2 px2] ktu ptu) (cMZ X.K 2 (WU (GP 0) (WU (GP 1) czZ))):=
    WA (X:=X.comp (x1::x2::ns) scope cl C s2 H2 fp) hc (EW (LU (i:=0) CS.nd rfl (.inl (lookup_relabel_local CS.var1)) (.inr (lookup_relabel_local CS.var1)))
     (EW (LU (i:=1) CS.nd rfl (.inl (lookup_relabel_local CS.var2)) (.inr (lookup_relabel_local CS.var2))) RB))
   refine wpAny_mono (PGt _ s5 _ H5 v u (fun σ' H'=>σ'=capσ2 caps σ (some v1) (some v2)/\H'=H5) I5' r5 ⟨aT,[v1,v2],ev,hT,rfl,v1,[v2],rfl,v2,[],rfl,rfl,rfl,rfl⟩) (λ_ s6 hs6=> ?_) (λ_ _ e=>e.elim);obtain⟨σ6,H6,I6',e6,e6'⟩:=hs6;subst e6';subst e6;refine wpAny_mono (ht cl C s2 H2 fp _ s6 _ _ _ I6' step') (λb s7 ⟨H7,I7,q7⟩=> ?_) (λ_ _ e=>e.elim);have weak:∀ {H':Hp} {s':Shared} {pl:List (Addr×Obj)},Inv (X.comp (x1::x2::ns) scope cl C s2 H2 fp) pl (capσ2 caps σ (some v1) (some v2)) H' s'->Inv (X.comp (x1::x2::ns) scope cl C s2 H2 fp) pl (capσ2 caps σ none none) H' s':=λ{H' s' pl} J'=>
    J'.weak rfl λk z e=>by
     match k,e with
     |0,e=>cases e
     |1,e=>cases e
     |k+2,e=>exact e
   have keepT:∀ {H':Hp} {s':Shared},Inv (X.comp (x1::x2::ns) scope cl C s2 H2 fp) ((pins++ [(s2.heap.objs.size,LCg.lst us)])++EF fp s5.heap) (capσ2 caps σ (some v1) (some v2)) H' s'->tn (i+1) s'.heap/\∀b∈fp,H' b=none:=λ{H' s'} J'=>by
    refine⟨T.keep _ _ _ st5 λb hb o e=>(J'.pin (b,o) (mem_append_right _ (mem_append_right _ (U8 hb e)))).1,λb hb=> ?_⟩;obtain⟨o,e,d⟩:=T.obj _ _ st5 b hb;exact(J'.pin (b,o) (mem_append_right _ (mem_append_right _ (U8 hb e)))).2.1
   cases b with
   |false=>
    rw[if_neg nZ]at q7⊢;obtain⟨m',hm,w7⟩:=hNx _ _ q7;exact⟨m',hm,i+1,ys,us,H7,weak I7.unpinned,rv,(keepT I7).1,(keepT I7).2,w7⟩
   |true=>
    rw[if_pos rfl]at q7⊢;refine wpAny_mono (he cl C s2 H2 fp _ s7 _ H7 _ I7 q7) (λyv s8 ⟨y,H8,I8,ry,n8⟩=> ?_) (λ_ _ e=>e.elim);obtain⟨m',hm,w8⟩:=hNx _ _ n8;have pD:=I8.pin (s2.heap.objs.size,LCg.lst us) (memD _);have hul:us.length=ys.length:=rv.length.symm;refine append_at (hsz:=by show us.toArray.size<=sizeLine;rw[size_toArray,hul];exact hle) pD.1 λh9 hs9 hD9=> ?_;have I8p:Inv (X.comp (x1::x2::ns) scope cl C s2 H2 fp) pins (capσ2 caps σ none none) H8 s8:=weak I8.unpinned.unpinned;have I9:Inv (X.comp (x1::x2::ns) scope cl C s2 H2 fp) pins (capσ2 caps σ none none) H8 {s8 with heap:=h9}:=I8p.turned (t':=s8.toks) (it:=s2.heap.objs.size) (λb o hb e=>(hs9.2 b hb).trans e) pD.2.1 hDC (.inr (Nat.le_refl _)) (λy c e z=>ne_of_lt (ltC y c (clsub y c e)) z) λp hp=>ne_of_lt (pinlt p hp);have I9':Inv (X.comp (x1::x2::ns) scope cl C s2 H2 fp) (pins++ [(s2.heap.objs.size,LCg.lst (us++ [yv]))]) (capσ2 caps σ none none) H8 {s8 with heap:=h9}:=I9.pins_of λp hp=>by
     rcases mem_append.mp hp with hp|hp
     ·exact I9.pin p (mem_append_right _ hp)
     ·have e:p=(s2.heap.objs.size,LCg.lst (us++ [yv])):=by simpa using hp
      subst e;exact⟨hD9.trans (congrArg some (LCg.lst_snoc us yv)),pD.2.1,hDC,pD.2.2.2.1,λv z=>by cases z⟩
    refine⟨m',hm,i+1,ys++ [y],us++ [yv],H8,I9',rv.append (.cons ry .nil), ?_,(keepT I8).2,w8⟩;exact T.keep _ _ _ (keepT I8).1 λb hb o e=>(hs9.2 b (below b (nfp b hb)).2).trans e
 exact codeAny_compStart_list (loop _ rfl) (T.self X.A 0 _ _ _ (T.keep _ _ _ st2 (λb _ o e=>old b o e)) (loop _ rfl))
end
theorem ZB{K:FZ}{l1 l2:Addr}{xs ys:List V}{caps:List Nat}{tt:TT}{te:TE}{σ:St}{H:Hp}{R:List V->Hp->Prop}(hle:xs.length=ys.length)(Pv:Nat->List V->Hp->Prop)(h0:Pv 0 [] H)
  (hl:∀i zs H,i<=xs.length->Pv i zs H->SqL K H l1 xs/\SqL K H l2 ys/\zs.length<=sizeLine)
  (hs:∀i x y zs H T,xs[i]? =some x->ys[i]? =some y->Pv i zs H->H T=none->tt (capσ2 caps σ (some x) (some y)) (upd H T (.tup [x,y])) λb H2=>if b=true then te (capσ2 caps σ (some x) (some y)) H2 λz H3=>Pv (i+1) (zs++ [z]) H3 else Pv (i+1) zs H2)
  (hd:∀zs H,Pv xs.length zs H->R zs H):
  ∃W:Nat->Nat->List V->Hp->Prop,(∃m,W 0 m [] H)/\∀i m zs H,W i m zs H->zs.length<=sizeLine/\(((Itz K l1 l2).stop i H/\R zs H)\/((Itz K l1 l2).go i H/\∃N:List V->Hp->Prop,(∀ys' H',N ys' H'->∃m',m'<m/\W (i+1) m' ys' H')/\∀v H',(Itz K l1 l2).yld i H v H'->
   ∃a v1 v2,v=.ref a/\SqT K H' a [v1,v2]/\tt (capσ2 caps σ (some v1) (some v2)) H' λb H2=>if b=true then te (capσ2 caps σ (some v1) (some v2)) H2 λy H3=>N (zs++ [y]) H3 else N zs H2)):=by
 refine⟨λi m zs H=>m=xs.length - i/\i<=xs.length/\Pv i zs H,⟨xs.length,by simp,zero_le _,h0⟩, ?_⟩;rintro i m zs H ⟨rfl,hi,p⟩;obtain⟨q1,q2,hz⟩:=hl i zs H hi p;refine⟨hz, ?_⟩;by_cases hlt:i<xs.length
 ·have hlt2:i<ys.length:=by omega
  refine .inr ⟨⟨xs,ys,xs[i],ys[i],q1,q2,by simp[hlt],by simp[hlt2]⟩,Pv (i+1),λys' H' p'=>⟨xs.length - (i+1),by omega,rfl,hlt,p'⟩,λv H' y=> ?_⟩;obtain⟨T,x,z,y1,hT,rfl,rfl⟩:=y;obtain⟨e1,e2⟩:=y1 xs ys q1 q2;exact⟨T,x,z,rfl,SqT.of A1,hs i x z zs H T e1 e2 p hT⟩
 ·have e:i=xs.length:=by omega
  subst e;exact .inl ⟨⟨xs,ys,q1,q2,.inl (Nat.le_refl _)⟩,hd zs H p⟩
section
variable{X:Cx}
theorem MZ{x1 x2:Str}{px1 px2 ptu:Pos}{ktu:Nat}{iter elt:Expr}{ifs:List Expr}{scope sc:Scope}{N:List Str}{pos:Pos}{wi:TI}{tt:TT}{te:TE}{caps:List Nat}{ns:List Str}{K:FZ}
  (CS:CompScope2 N sc scope x1 x2 caps ns)(hN':X.N=N)(hsc:X.env.scope=sc)(hc:X.calm=true)(hi:PI X (.Tuple [.Name x1 px1,.Name x2 px2] ktu ptu) iter wi)
  (ht:∀cl C s H fp,PTs (X.comp (x1::x2::ns) scope cl C s H fp) ifs tt)(he:∀cl C s H fp,PE (X.comp (x1::x2::ns) scope cl C s H fp) elt te)
  (hs:∀v,foldedSetIterable iter X.env v=pure v:=by intro _;rfl)(hK:X.K=K:=by rfl):
  PE X (.ListComp elt [⟨.Tuple [.Name x1 px1,.Name x2 px2] ktu ptu,iter,ifs,0⟩] scope pos) (bUZ K wi caps tt te):=by
 intro pins s σ H Q I h;subst hN';subst hsc;subst hK;rw[eval_ListComp];refine PH CS hc hi ht he hs I h ?_;rintro D C s' H' ys I' hD r ⟨m,hn⟩ c1 c2 c3 c4 c5;exact⟨m,hn,λh' hs'=>⟨.ref D,_,I'.turned (t':=s'.toks) (λb o hb e=>(hs'.2 b hb).trans e) c1 c2 (.inr c3) c4 c5,rfl,r D hD⟩⟩
variable{K:FZ}
theorem Q5:OpR X (binaryOp .Mult) (rI IntMulOk λi j=> .int (i*j)):=opI λ_ _ _ _ _ _ _ hc q=>mul_int q hc
theorem B9:OpR X (binaryOp .FloorDiv) (rI (λ_ j=>j≠0/\j.natAbs.log2<9000) λi j=> .int (i.fdiv j)):=opI λ_ _ _ _ _ _ _ hc q=>floordiv_int hc.1 q (.inl (PyProof.noPylong_of_log2 hc.2))
end
end L2
namespace Att
open PySem PySem.W PySem.Calls PyProof.Rows
theorem UO{ns:List Int}(h:WData.layableAll [WData.list (ns.map WData.int)]=true):∀n∈ns,Builtin.Int.intBits n<=2^20:=λn hn=>
 PyData.bits_of_layable (layable0_of_all (lay0_int (layableW_item (layW_cons h).1 (.int n) (mem_map.mpr ⟨n,hn,rfl⟩))))
theorem attach_callB{l:OpenLaw}{n:Nat}{q:Program}{loose:List Str}{XP:(Str->Option Value)->Heap->Prop}{YP:World->Heap->Prop}{d:DefRec}
  (hn:l.most=some n)(hdf:d.params.defaults=[])
  (call:∀(w:World) (s₀ s₁:Shared) (mg mb:Str->Option Value) (fa:Addr) (o:Obj) (pm cd doc:Value) (a:Addr) (vs:List Value) (ns:List Int),
   Ground q loose [] XP w s₀ mg mb s₁.heap->YP w s₁.heap->
   s₁.heap.get? fa=some o->o.data=.func (docDef d.name d.params d.body d.scope pm cd doc)->s₁.heap.CodeRec cd d.name->mg d.name=some (.ref fa)->
   s₁.heap.get? a=some {cls:=.type "list",data:=.seq vs.toArray}->IntsAre vs ns->ns.length<=n->(∀m∈ns,Builtin.Int.intBits m<=2^20)->s₁.gens= #[]->
   codeAny (model l.prog w) callerA (.call (.ref fa) ⟨[.ref a],[]⟩) (λr s'=>r=.ok (.ret (.bool true))/\OldK s₁.heap s'.heap/\s'.os=s₁.os/\AllBare s'.gens) s₁):
  WalkO q loose XP YP l.row.toRowW d [] (λf vs=>PySem.call f vs):=by
 intro w s₀ s₁ mg mb G Y fa o pm cd doc dV kV ho hd hcd hD hmg hg args vals as hpre hlay hrd hwl hlo;obtain rfl:dV=.none:=Dflts.none hD hdf;obtain rfl:kV=.none:=Dflts.noKw hD;obtain⟨a,vs,ns,rfl,rfl,hobj,hints,hlen⟩:=TN hn hpre hwl;refine enter_call (codeAny_mono (call w s₀ s₁ mg mb fa o pm cd doc a vs ns G Y ho (fd_plain hd) hcd hmg hobj hints hlen (UO hlay) hg) λr s' hq=> ?_);obtain⟨rfl,h2,h3,h4⟩:=hq;exact⟨.inl ⟨.bool true,.bool true,[],rfl,λ_=>rfl,.bool true,TW l _,λ_=>⟨List.Pairwise.nil,λ_ hm=>(nomatch hm)⟩⟩,h2,h3,h4⟩
end Att
namespace L2
open PySem PySem.Spec PyProof.Rows
theorem walk_ofB{l:PySem.W.OpenLaw}{n k:Nat}{q:Program}{loose:List Str}{XP:(Str->Option Value)->Heap->Prop}{YP:World->Heap->Prop}{d:DefRec}{K:Params->FZ}{CX:World->CXT}{sp:World->Sp}{x:Str}
  (hn:l.most=some n)(hn2:n<=sizeLine)(hdf:d.params.defaults=[])(hr:Room k callerA)
  (hY:∀(w:World) (h:Heap),YP w h->(K w.params).In h)
  (F:∀(w:World) (mg:Str->Option Value) (fa:Addr) (h:Heap),(K w.params).In h->h.Ns mainGlobals mg->mg d.name=some (.ref fa)->
   ∃fd:FuncData,(∀(s:Shared) (u:Value),BindsTo s fd ⟨[u],[]⟩ [(x,u)])/\
    ∀base:Heap,(K w.params).In base->base.Ns mainGlobals mg->FnOk l.prog w (K w.params) mg base (CX w) k fa fd [x] (sp w))
  (hsp:∀(w:World) (H:Hp) (a:Addr) (ns:List Int),ns.length<=n->(∀m∈ns,Builtin.Int.intBits m<=2^20)->ZV H->SqL (K w.params) H a (ns.map V.int)->sp w [.ref a] H (λv _=>v=.bl true) λ_ _ _=>False)
  (hCX:∀(w:World) (H:Hp) (s:Shared) (e:Value) (s':Shared),CX w [] H s (λ_ _ _=>False) e s'->False):
  PySem.W.WalkO q loose XP YP l.row.toRowW d [] (λf vs=>PySem.call f vs):=by
 refine Att.attach_callB hn hdf λw s₀ s₁ mg mb fa o pm cd doc a vs ns G Y ho hd hcd hmg hobj hints hlen hbits hg=> ?_;have KX:=hY w _ Y;obtain⟨fd,hb,hF⟩:=F w mg fa _ KX G.T.g hmg;exact ZE KX G.T.g G.T.b G.T.builtins G.T.nolimit hg hobj hints (Nat.le_trans hlen hn2) hr hF hb (λH hO hS=>hsp w H a ns hlen hbits hO hS) λH e s'=>hCX w H s₁ e s'
section
variable{X:Cx}{K:FZ}
noncomputable def HN(K:FZ):R2:=λx y H Q=>∃a b ys,x=.ref a/\y=.ref b/\SqT K H a []/\SqT K H b ys/\Q (.ref b) H
theorem WY:OpR X (binaryOp .Add) (HN X.K):=by
 intro pins s σ H x y v u Q I rx ry h;obtain⟨a,b,ys,rfl,rfl,ha,hb,q⟩:=h;cases rx;cases ry;obtain⟨its,r1,p1,_⟩:=I.tuple ha;obtain⟨its2,r2,p2,hz⟩:=I.tuple hb;have e0:its=[]:=r1.nil_iff.mpr rfl;subst e0;obtain⟨⟨cls,dd,data,sl⟩,ho,hc,n,hd⟩:=id p1;obtain⟨⟨cls2,dd2,data2,sl2⟩,ho2,hc2,n2,hd2⟩:=id p2;simp only at hc hd hc2 hd2;subst hc hd hc2 hd2;exact concat_meets ⟨_,ho,rfl⟩ ⟨_,ho2,rfl⟩ noFill_tuple_add seq_tuple_add PySem.F.slot_tuple_add PySem.F.entry_tuple_add (PySem.F.args_tuple_add_2 _ _)
  (tuple_addW0 a b _ _ n n2 dd dd2 sl sl2 (by simp)) ⟨ho,ho2,⟨.ref b,H,I,rfl,q⟩⟩
theorem S5(hK:X.K=K:=by rfl):OpR X (binaryOp .Add) (λx y H Q=>rI0 (λi j=> .int (i+j)) x y H Q\/IC K x y H Q\/HN K x y H Q):=by
 subst hK;exact op_add.or (op_catT.or WY)
end
end L2
namespace PySem
open AutoSeq1 (wpAny_loadPart')
section
variable{prog:Program}{w:World}{A:Around}{E:Value->Shared->Prop}{s:Shared}
end
end PySem
namespace PySem
section
variable{prog:Program}{w:World}{A:Around}{E:Value->Shared->Prop}{s:Shared}
end
end PySem
namespace L2
open PySem PySem.Spec PyProof.Rows
section
variable{X:Cx}{K:FZ}{elts:List Expr}{kt:Nat}{pt:Pos}
end
end L2
namespace PySem
open Sem(wp)
namespace ZT
noncomputable def IsIt(t:Bool)(h:Heap)(i l:Addr)(k:Nat):Prop:=if t then h.IsTupleIter i l k else h.IsListIter i l k
noncomputable def IsSq(t:Bool)(h:Heap)(l:Addr)(xs:Array Value):Prop:=if t then h.IsTuple l xs else h.IsList l xs
theorem IsIt.extBut{t:Bool}{h h':Heap}{i b l:Addr}{k:Nat}(x:IsIt t h i l k)(hs:Heap.ExtBut b h h')(hb:i≠b):IsIt t h' i l k:=by
 cases t
 ·exact Heap.IsListIter.extBut (show h.IsListIter i l k from x) hs hb
 ·exact Heap.IsTupleIter.extBut (show h.IsTupleIter i l k from x) hs hb
theorem IsIt.at{t:Bool}{h h':Heap}{i l:Addr}{k:Nat}(x:IsIt t h i l k)(e:∀o,h.get? i=some o->h'.get? i=some o):IsIt t h' i l k:=by
 cases t
 ·obtain⟨o,ho,r⟩:=(show h.IsListIter i l k from x);exact⟨o,e o ho,r⟩
 ·obtain⟨o,ho,r⟩:=(show h.IsTupleIter i l k from x);exact⟨o,e o ho,r⟩
theorem IsIt.live{t:Bool}{h:Heap}{i l:Addr}{k:Nat}(x:IsIt t h i l k):∃o,h.get? i=some o:=by
 cases t
 ·obtain⟨o,ho,r⟩:=(show h.IsListIter i l k from x);exact⟨o,ho⟩
 ·obtain⟨o,ho,r⟩:=(show h.IsTupleIter i l k from x);exact⟨o,ho⟩
theorem IsSq.at{t:Bool}{h h':Heap}{l:Addr}{xs:Array Value}(x:IsSq t h l xs)(e:∀o,h.get? l=some o->h'.get? l=some o):IsSq t h' l xs:=by
 cases t
 ·obtain⟨o,ho,r⟩:=(show h.IsList l xs from x);exact⟨o,e o ho,r⟩
 ·obtain⟨o,ho,r⟩:=(show h.IsTuple l xs from x);exact⟨o,e o ho,r⟩
theorem IsSq.extBut{t:Bool}{h h':Heap}{l b:Addr}{xs:Array Value}(x:IsSq t h l xs)(hs:Heap.ExtBut b h h')(hb:l≠b):IsSq t h' l xs:=x.at λo e=>hs l o hb e
section
variable{prog:Program}{w:World}{A:Around}{E:Value->Shared->Prop}{s:Shared}
theorem FB{it t:Addr}{i:Nat}{items}{x:Value}{Q:Value->Shared->Prop}(hit:s.heap.IsTupleIter it t i)
  (ht:s.heap.IsTuple t items)(hx:items[i]? =some x)
  (hQ:∀h',h'.IsTupleIter it t (i+1)->Heap.SameBut it s.heap h'->Q x {s with heap:=h'}):
  wpAny (model prog w) A (Builtin.SmallTypes.nextOf (.ref it)) Q E s:=by
 obtain⟨o,ho,hc,hd⟩:=id hit;obtain⟨ol,hol,_,nl,hdl⟩:=ht;unfold Builtin.SmallTypes.nextOf;refine bZ (wpAny_callSpecial?_slot (name:=Str.ofString "__next__") hit.typeIs F.slot_tuple_iterator_next
  (wpAny_call_entry F.slot_tuple_iterator_next hit.typeIs F.entry_tuple_iterator_next ?_ (F.args_tuple_iterator_next_1 _)))
 show wpAny _ _ (field (.ref it) 0>>=_) _ _ s;refine bZ (wpAny_field ho hd (x:=.ref t) rfl ?_);show wpAny _ _ (if(Value.ref t==Value.none)=true then _ else _) _ _ s;rw[if_neg (show¬((Value.ref t==Value.none)=true)from nZ)];show wpAny _ _ (field (.ref it) 1>>=_) _ _ s;refine bZ (wpAny_field ho hd (x:=.int i 0) rfl ?_);show wpAny _ _ (seqItems? (.ref t)>>=_) _ _ s;refine bZ (wpAny_seqItems hol hdl ?_);simp only[Int.toNat_natCast,hx];refine bZ (wpAny_setField ho hd (by simp) (pZ ⟨x,rfl,pZ (hQ _ ?_ (Heap.SameBut.update ..))⟩));exact⟨_,get?_update_self _ ho (Obj.isFreed_of_fields (Obj.data_mapFields hd _)),(Obj.cls_mapFields ..).trans hc,by
  rw[Obj.data_mapFields hd];simp[rawInt]⟩
theorem GG{it t:Addr}{i:Nat}{items}{Q:Value->Shared->Prop}(hh:A.handled=none)
  (hit:s.heap.IsTupleIter it t i)(ht:s.heap.IsTuple t items)(hx:items[i]? =none)
  (hE:∀h' e,Heap.ExtBut it s.heap h'->(∃o,h'.get? e=some o/\o.cls=.type "StopIteration")->E (.ref e) {s with heap:=h'}):
  wpAny (model prog w) A (Builtin.SmallTypes.nextOf (.ref it)) Q E s:=by
 obtain⟨o,ho,hc,hd⟩:=id hit;obtain⟨ol,hol,_,nl,hdl⟩:=ht;unfold Builtin.SmallTypes.nextOf;refine bZ (wpAny_callSpecial?_slot (name:=Str.ofString "__next__") hit.typeIs F.slot_tuple_iterator_next
  (wpAny_call_entry F.slot_tuple_iterator_next hit.typeIs F.entry_tuple_iterator_next ?_ (F.args_tuple_iterator_next_1 _)))
 show wpAny _ _ (field (.ref it) 0>>=_) _ _ s;refine bZ (wpAny_field ho hd (x:=.ref t) rfl ?_);show wpAny _ _ (if(Value.ref t==Value.none)=true then _ else _) _ _ s;rw[if_neg (show¬((Value.ref t==Value.none)=true)from nZ)];show wpAny _ _ (field (.ref it) 1>>=_) _ _ s;refine bZ (wpAny_field ho hd (x:=.int i 0) rfl ?_);show wpAny _ _ (seqItems? (.ref t)>>=_) _ _ s;refine bZ (wpAny_seqItems hol hdl ?_);simp only[Int.toNat_natCast,hx];refine bZ (wpAny_rule (bZ (wpAny_setField ho hd (by simp) ?_)));show wpAny _ _ (newExc (.type "StopIteration") []>>=_) _ _ _;refine bZ ?_;simp only[newExc,newTuple];refine bZ (wpAny_newObj_type ?_ (by size_fits));refine bZ (m:=firstArgMember _ _) (wpAny_of_eq (a:=Value.none) (by first|rfl|(simp only[firstArgMember];rfl)) ?_);refine wpAny_newObj_type ?_ (by size_fits);simp only[raiseNew];refine bZ (wpAny_handled ?_)
 first|rw[show A.in1.handled=none from hh]|rw[hh]
 refine bZ (pZ (wpAny_throw ?_));exact hE _ _ (((Heap.SameBut.update ..).extBut.push _).push _) ⟨_,get?_push_size _ rfl,rfl⟩
theorem S4{t:Bool}{it l:Addr}{i:Nat}{items}{x:Value}{Q:Value->Shared->Prop}(hit:IsIt t s.heap it l i)
  (ht:IsSq t s.heap l items)(hx:items[i]? =some x)
  (hQ:∀h',IsIt t h' it l (i+1)->Heap.SameBut it s.heap h'->Q x {s with heap:=h'}):
  wpAny (model prog w) A (Builtin.SmallTypes.nextOf (.ref it)) Q E s:=by
 cases t
 ·exact wpAny_nextOf_list_item hit ht hx hQ
 ·exact FB hit ht hx hQ
theorem FD{t:Bool}{it l:Addr}{i:Nat}{items}{Q:Value->Shared->Prop}(hh:A.handled=none)(hit:IsIt t s.heap it l i)
  (ht:IsSq t s.heap l items)(hx:items[i]? =none)
  (hE:∀h' e,Heap.ExtBut it s.heap h'->(∃o,h'.get? e=some o/\o.cls=.type "StopIteration")->E (.ref e) {s with heap:=h'}):
  wpAny (model prog w) A (Builtin.SmallTypes.nextOf (.ref it)) Q E s:=by
 cases t
 ·exact wpAny_nextOf_list_end hh hit ht hx hE
 ·exact GG hh hit ht hx hE
end
end ZT
end PySem
namespace PySem
open Sem (wp)
namespace ZT
noncomputable abbrev IsZ(h:Heap)(z TI TO:Addr)(f0 f1:Value):Prop:=
 h.get? z=some {cls:=.type "zip",dict:=none,data:=.fields #[f0,f1,.bool false,.ref TI,.ref TO],slots:= #[]}
section
variable{prog:Program}{w:World}{A:Around}{E:Value->Shared->Prop}{s:Shared}
theorem NO{M:Model}{a:Addr}{Q:Option Obj->Shared->Prop}(h:Q (s.heap.get? a) s):wpAny M A (loadIfAlive a) Q E s:=fun Γ p _=>by
 unfold loadIfAlive;rw[Sem.wp_loadIfAlive];rw[Sem.wp];exact h
theorem NI{z TI TO T:Addr}{b:Bool}{Q:Bool->Shared->Prop}(hz:IsZ s.heap z TI TO (rawInt T) (.bool b))(hT:∃o,s.heap.get? T=some o)
  (hQ:∀h',IsZ h' z TI TO (rawInt T) (.bool true)->Heap.SameBut z s.heap h'->Q false {s with heap:=h'}):
  wpAny (model prog w) A (Builtin.SmallTypes.ownedTupleIsFree (.ref z)) Q E s:=by
 obtain⟨o,ho⟩:=hT;unfold Builtin.SmallTypes.ownedTupleIsFree;refine bZ (wpAny_field hz rfl (x:=rawInt T) rfl ?_);show wpAny _ _ (loadIfAlive T>>=_) _ _ _;refine bZ (NO ?_);rw[ho];simp only[Option.isNone_some,Bool.false_eq_true,if_false];refine bZ (wpAny_field hz rfl (x:=.bool b) rfl ?_);cases b
 ·rw[if_pos (by decide)];exact bZ (wpAny_setField_rec hz (by simp) λh' hz' hs'=>pZ (hQ h' hz' hs'))
 ·rw[if_neg (by decide)];exact pZ (hQ s.heap hz ⟨rfl,λ_ _=>rfl⟩)
theorem SU{t1 t2:Bool}{z TI TO i1 i2 l1 l2 T:Addr}{k1 k2:Nat}{xs ys:Array Value}{x y:Value}{b:Bool}{Q:Value->Shared->Prop}(D:ZipApart z TI TO i1 i2 l1 l2)
  (hz:IsZ s.heap z TI TO (rawInt T) (.bool b))(hT:∃o,s.heap.get? T=some o)(hTI:IsPair s.heap TI (.ref i1) (.ref i2))
  (h1:IsIt t1 s.heap i1 l1 k1)(h2:IsIt t2 s.heap i2 l2 k2)(hl1:IsSq t1 s.heap l1 xs)(hl2:IsSq t2 s.heap l2 ys)(hx:xs[k1]? =some x)(hy:ys[k2]? =some y)
  (hQ:∀h',IsZ h' z TI TO (rawInt T) (.bool true)->IsIt t1 h' i1 l1 (k1+1)->IsIt t2 h' i2 l2 (k2+1)->IsPair h' s.heap.objs.size x y->h'.objs.size=s.heap.objs.size+1->
   (∀c o,c≠z->c≠i1->c≠i2->s.heap.get? c=some o->h'.get? c=some o)->Q (.ref s.heap.objs.size) {s with heap:=h'}):
  wpAny (model prog w) A (Builtin.«zip.__next__» ⟨[.ref z],[]⟩) (λfin s'=>∃v,fin=.done (.ret v)/\Q v s') E s:=by
 show wpAny _ _ (field (.ref z) 2>>=_) _ _ _;refine bZ (wpAny_field hz rfl (x:=.bool false) rfl ?_);show wpAny _ _ (field (.ref z) 3>>=_) _ _ _;refine bZ (wpAny_field hz rfl (x:=.ref TI) rfl ?_);refine bZ (wpAny_seqItems hTI rfl ?_);show wpAny _ _ (Builtin.SmallTypes.ownedTupleIsFree (.ref z)>>=_) _ _ _;refine bZ (NI hz hT λh₁ hz₁ hs₁=> ?_);simp only[Bool.false_eq_true,if_false];refine bZ ?_;rw[<-Array.forIn_toList];simp only[forIn_cons,forIn_nil];refine bZ (bZ (wpAny_holding ?_));show wpAny _ _ (Builtin.SmallTypes.nextOf (.ref i1)>>=_) _ _ _;refine bZ (S4 (h1.extBut hs₁.extBut D.i1z) (hl1.extBut hs₁.extBut D.l1z) hx λh₂ h1₂ hs₂=>pZ (pZ ?_));refine bZ (bZ (wpAny_holding ?_));show wpAny _ _ (Builtin.SmallTypes.nextOf (.ref i2)>>=_) _ _ _;refine bZ (S4 ((h2.extBut hs₁.extBut D.i2z).extBut hs₂.extBut D.i12.symm) ((hl2.extBut hs₁.extBut D.l2z).extBut hs₂.extBut D.l2i1) hy λh₃ h2₃ hs₃=>pZ (pZ (pZ ?_)));refine bZ (wpAny_newTuple (pZ ⟨_,rfl, ?_⟩) (by show 2<=sizeLine;decide));have hsz:h₃.objs.size=s.heap.objs.size:=by rw[hs₃.1,hs₂.1,hs₁.1]
 have hz₃:IsZ h₃ z TI TO (rawInt T) (.bool true):=hs₃.extBut _ _ D.i2z.symm (hs₂.extBut _ _ D.i1z.symm hz₁);have hk:∀c o,c≠z->c≠i1->c≠i2->s.heap.get? c=some o->h₃.get? c=some o:=λc o c1 c2 c3 e=>hs₃.extBut _ _ c3 (hs₂.extBut _ _ c2 (hs₁.extBut _ _ c1 e));show Q (.ref h₃.objs.size) _;have hp:IsPair (h₃.push {cls:=.type "tuple",data:=.seq #[x,y]}) h₃.objs.size x y:=get?_push_size _ rfl;rw[hsz]at hp⊢;exact hQ _ (gZ _ hz₃) ((h1₂.extBut hs₃.extBut D.i12).at λo e=>gZ _ e) (h2₃.at λo e=>gZ _ e) hp (by rw[Heap.size_push,hsz]) λc o c1 c2 c3 e=>gZ _ (hk c o c1 c2 c3 e)
theorem VN{t1 t2:Bool}{z TI TO i1 i2 l1 l2 T:Addr}{k1 k2:Nat}{xs ys:Array Value}{b:Bool}{Q:Fin->Shared->Prop}(hh:A.handled=none)(D:ZipApart z TI TO i1 i2 l1 l2)
  (hz:IsZ s.heap z TI TO (rawInt T) (.bool b))(hT:∃o,s.heap.get? T=some o)(hTI:IsPair s.heap TI (.ref i1) (.ref i2))
  (h1:IsIt t1 s.heap i1 l1 k1)(h2:IsIt t2 s.heap i2 l2 k2)(hl1:IsSq t1 s.heap l1 xs)(hl2:IsSq t2 s.heap l2 ys)(hend:xs[k1]? =none\/ys[k2]? =none)
  (hE:∀h' e,(∀c o,c≠z->c≠i1->c≠i2->s.heap.get? c=some o->h'.get? c=some o)->(∃o,h'.get? e=some o/\o.cls=.type "StopIteration")->E (.ref e) {s with heap:=h'}):
  wpAny (model prog w) A (Builtin.«zip.__next__» ⟨[.ref z],[]⟩) Q E s:=by
 show wpAny _ _ (field (.ref z) 2>>=_) _ _ _;refine bZ (wpAny_field hz rfl (x:=.bool false) rfl ?_);show wpAny _ _ (field (.ref z) 3>>=_) _ _ _;refine bZ (wpAny_field hz rfl (x:=.ref TI) rfl ?_);refine bZ (wpAny_seqItems hTI rfl ?_);show wpAny _ _ (Builtin.SmallTypes.ownedTupleIsFree (.ref z)>>=_) _ _ _;refine bZ (NI hz hT λh₁ hz₁ hs₁=> ?_);simp only[Bool.false_eq_true,if_false];refine bZ ?_;rw[<-Array.forIn_toList];simp only[forIn_cons,forIn_nil];refine bZ (bZ (wpAny_holding ?_));show wpAny _ _ (Builtin.SmallTypes.nextOf (.ref i1)>>=_) _ _ _;cases hx:xs[k1]? with
 |none=>exact bZ (FD hh (h1.extBut hs₁.extBut D.i1z) (hl1.extBut hs₁.extBut D.l1z) hx λh₂ e hs₂ he=>hE h₂ e (λc o c1 c2 _ x=>hs₂ _ _ c2 (hs₁.extBut _ _ c1 x)) he)
 |some x=>
  have hy:ys[k2]? =none:=by rcases hend with h|h;rw[hx]at h;cases h;exact h
  refine bZ (S4 (h1.extBut hs₁.extBut D.i1z) (hl1.extBut hs₁.extBut D.l1z) hx λh₂ h1₂ hs₂=>pZ (pZ ?_));refine bZ (bZ (wpAny_holding ?_));show wpAny _ _ (Builtin.SmallTypes.nextOf (.ref i2)>>=_) _ _ _;exact bZ (FD hh ((h2.extBut hs₁.extBut D.i2z).extBut hs₂.extBut D.i12.symm) ((hl2.extBut hs₁.extBut D.l2z).extBut hs₂.extBut D.l2i1) hy λh₃ e hs₃ he=>hE h₃ e (λc o c1 c2 c3 x=>hs₃ _ _ c3 (hs₂.extBut _ _ c2 (hs₁.extBut _ _ c1 x))) he)
theorem PY{t1 t2:Bool}{z TI TO i1 i2 l1 l2:Addr}{k1 k2:Nat}{xs ys:Array Value}{x y a b:Value}{Q:Value->Shared->Prop}(D:ZipApart z TI TO i1 i2 l1 l2)
  (hz:IsZ s.heap z TI TO .none (.bool false))(hTI:IsPair s.heap TI (.ref i1) (.ref i2))(hTO:IsPair s.heap TO a b)
  (h1:IsIt t1 s.heap i1 l1 k1)(h2:IsIt t2 s.heap i2 l2 k2)(hl1:IsSq t1 s.heap l1 xs)(hl2:IsSq t2 s.heap l2 ys)(hx:xs[k1]? =some x)(hy:ys[k2]? =some y)
  (hQ:∀h' b,IsZ h' z TI TO (rawInt s.heap.objs.size) (.bool b)->IsIt t1 h' i1 l1 (k1+1)->IsIt t2 h' i2 l2 (k2+1)->IsPair h' s.heap.objs.size x y->h'.objs.size=s.heap.objs.size+1->
   (∀c o,c≠z->c≠TO->c≠i1->c≠i2->s.heap.get? c=some o->h'.get? c=some o)->IsPair h' TO x y->Q (.ref s.heap.objs.size) {s with heap:=h'}):
  wpAny (model prog w) A (Builtin.«zip.__next__» ⟨[.ref z],[]⟩) (λfin s'=>∃v,fin=.done (.ret v)/\Q v s') E s:=by
 show wpAny _ _ (field (.ref z) 2>>=_) _ _ _;refine bZ (wpAny_field hz rfl (x:=.bool false) rfl ?_);show wpAny _ _ (field (.ref z) 3>>=_) _ _ _;refine bZ (wpAny_field hz rfl (x:=.ref TI) rfl ?_);refine bZ (wpAny_seqItems hTI rfl ?_);show wpAny _ _ (Builtin.SmallTypes.ownedTupleIsFree (.ref z)>>=_) _ _ _;refine bZ ?_;unfold Builtin.SmallTypes.ownedTupleIsFree;refine bZ (wpAny_field hz rfl (x:=.none) rfl (pZ ?_));simp only[if_true];refine bZ (wpAny_rule ?_);refine bZ (wpAny_field hz rfl (x:=.ref TO) rfl ?_);refine bZ (wpAny_setField_rec hz (by simp) λg₁ z₁ q₁=> ?_);replace z₁:IsZ g₁ z TI TO .ellipsis (.bool false):=z₁;have p₁:IsPair g₁ TO a b:=q₁.extBut _ _ D.TOz hTO;refine bZ ?_;simp only[List.zipIdx_cons,List.zipIdx_nil,forIn_cons,forIn_nil];refine bZ (bZ (wpAny_onRaise ?_));show wpAny _ _ (Builtin.SmallTypes.nextOf (.ref i1)>>=_) _ _ _;refine bZ (S4 (h1.extBut q₁.extBut D.i1z) (hl1.extBut q₁.extBut D.l1z) hx λg₂ it₂ q₂=>pZ ?_);have p₂:IsPair g₂ TO a b:=q₂.extBut _ _ D.TOi1 p₁;refine bZ (wpAny_seqItems p₂ rfl (bZ (wpAny_updateSeq_pair p₂ λg₃ p₃ q₃=>bZ (wpAny_letGo (pZ ?_)))));replace p₃:IsPair g₃ TO x b:=p₃;have k₃:∀ {c o},c≠z->c≠i1->c≠TO->s.heap.get? c=some o->g₃.get? c=some o:=λc1 c2 c3 e=>q₃.extBut _ _ c3 (q₂.extBut _ _ c2 (q₁.extBut _ _ c1 e));refine bZ (bZ (wpAny_onRaise ?_));show wpAny _ _ (Builtin.SmallTypes.nextOf (.ref i2)>>=_) _ _ _;refine bZ (S4 (h2.at λo e=>k₃ D.i2z D.i12.symm D.TOi2.symm e) (hl2.at λo e=>k₃ D.l2z D.l2i1 D.l2TO e) hy λg₄ it₄ q₄=>pZ ?_);have p₄:IsPair g₄ TO x b:=q₄.extBut _ _ D.TOi2 p₃;refine bZ (wpAny_seqItems p₄ rfl (bZ (wpAny_updateSeq_pair p₄ λg₅ p₅ q₅=>bZ (wpAny_letGo (pZ (pZ ?_))))));replace p₅:IsPair g₅ TO x y:=p₅;refine bZ (wpAny_seqItems p₅ rfl (bZ (wpAny_newTuple ?_)));have sz:g₅.objs.size=s.heap.objs.size:=by rw[q₅.1,q₄.1,q₃.1,q₂.1,q₁.1]
 have z₅:IsZ g₅ z TI TO .ellipsis (.bool false):=q₅.extBut _ _ D.TOz.symm (q₄.extBut _ _ D.i2z.symm (q₃.extBut _ _ D.TOz.symm (q₂.extBut _ _ D.i1z.symm z₁)));have k₅:∀c o,c≠z->c≠TO->c≠i1->c≠i2->s.heap.get? c=some o->g₅.get? c=some o:=λc o c1 c2 c3 c4 e=>q₅.extBut _ _ c2 (q₄.extBut _ _ c4 (k₃ c1 c3 c2 e));have it1:IsIt t1 g₅ i1 l1 (k1+1):=it₂.at λo e=>q₅.extBut _ _ D.TOi1.symm (q₄.extBut _ _ D.i12 (q₃.extBut _ _ D.TOi1.symm e));have it2:IsIt t2 g₅ i2 l2 (k2+1):=it₄.at λo e=>q₅.extBut _ _ D.TOi2.symm e;have zlt:z<g₅.objs.size:=lt_size z₅;show wpAny _ _ (Builtin.SmallTypes.ownedTupleHandOut (.ref z) (.ref g₅.objs.size)>>=_) _ _ _;refine bZ ?_;unfold Builtin.SmallTypes.ownedTupleHandOut;refine bZ (wpAny_setField_rec (gZ _ z₅) (by simp) λg₇ z₇ q₇=> ?_);replace z₇:IsZ g₇ z TI TO (rawInt g₅.objs.size) (.bool false):=z₇;refine wpAny_setField_rec z₇ (by simp) λg₈ z₈ q₈=>pZ ⟨_,rfl, ?_⟩;replace z₈:IsZ g₈ z TI TO (rawInt g₅.objs.size) (.bool false):=z₈;have up:∀c o,c≠z->g₅.get? c=some o->g₈.get? c=some o:=λc o c1 e=>q₈.extBut _ _ c1 (q₇.extBut _ _ c1 (gZ _ e));have pT:IsPair g₈ g₅.objs.size x y:=q₈.extBut _ _ (Nat.ne_of_gt zlt) (q₇.extBut _ _ (Nat.ne_of_gt zlt) (get?_push_size _ rfl));have s8:g₈.objs.size=g₅.objs.size+1:=by rw[q₈.1,q₇.1,Heap.size_push]
 show Q (.ref g₅.objs.size) _;rw[sz]at z₈ pT s8⊢;exact hQ g₈ false z₈ (it1.at λo e=>up _ o D.i1z e) (it2.at λo e=>up _ o D.i2z e) pT s8 (λc o c1 c2 c3 c4 e=>up c o c1 (k₅ c o c1 c2 c3 c4 e)) (up _ _ D.TOz p₅)
end
end ZT
end PySem
namespace PySem
open Sem (wp)
open PyProof.Rows
namespace ZT
section
variable{prog:Program}{w:World}{A:Around}{E:Value->Shared->Prop}{s:Shared}
theorem MT{t1 t2:Bool}{z TI TO i1 i2 l1 l2 T:Addr}{k1 k2:Nat}{xs ys:Array Value}{x y:Value}{b:Bool}{Q:Option Value->Shared->Prop}(D:ZipApart z TI TO i1 i2 l1 l2)
  (hz:IsZ s.heap z TI TO (rawInt T) (.bool b))(hT:∃o,s.heap.get? T=some o)(hTI:IsPair s.heap TI (.ref i1) (.ref i2))
  (h1:IsIt t1 s.heap i1 l1 k1)(h2:IsIt t2 s.heap i2 l2 k2)(hl1:IsSq t1 s.heap l1 xs)(hl2:IsSq t2 s.heap l2 ys)(hx:xs[k1]? =some x)(hy:ys[k2]? =some y)
  (hQ:∀h',IsZ h' z TI TO (rawInt T) (.bool true)->IsIt t1 h' i1 l1 (k1+1)->IsIt t2 h' i2 l2 (k2+1)->IsPair h' s.heap.objs.size x y->h'.objs.size=s.heap.objs.size+1->
   (∀c o,c≠z->c≠i1->c≠i2->s.heap.get? c=some o->h'.get? c=some o)->Q (some (.ref s.heap.objs.size)) {s with heap:=h'}):
  wpAny (model prog w) A (pyNext (.ref z)) Q E s:=by
 have ty:s.TypeIs (.ref z) "zip":=⟨_,hz,rfl⟩;unfold pyNext;exact bZ (wpAny_attempt (wpAny_callSpecial?_slot (name:=Str.ofString "__next__") ty F.slot_zip_next
  (wpAny_call_entry F.slot_zip_next ty F.entry_zip_next (SU D hz hT hTI h1 h2 hl1 hl2 hx hy λh' a1 a2 a3 a4 a5 a6=>pZ (hQ h' a1 a2 a3 a4 a5 a6)) (F.args_zip_next_1 _))))
theorem MO{t1 t2:Bool}{z TI TO i1 i2 l1 l2:Addr}{k1 k2:Nat}{xs ys:Array Value}{x y a b:Value}{Q:Option Value->Shared->Prop}(D:ZipApart z TI TO i1 i2 l1 l2)
  (hz:IsZ s.heap z TI TO .none (.bool false))(hTI:IsPair s.heap TI (.ref i1) (.ref i2))(hTO:IsPair s.heap TO a b)
  (h1:IsIt t1 s.heap i1 l1 k1)(h2:IsIt t2 s.heap i2 l2 k2)(hl1:IsSq t1 s.heap l1 xs)(hl2:IsSq t2 s.heap l2 ys)(hx:xs[k1]? =some x)(hy:ys[k2]? =some y)
  (hQ:∀h' b,IsZ h' z TI TO (rawInt s.heap.objs.size) (.bool b)->IsIt t1 h' i1 l1 (k1+1)->IsIt t2 h' i2 l2 (k2+1)->IsPair h' s.heap.objs.size x y->h'.objs.size=s.heap.objs.size+1->
   (∀c o,c≠z->c≠TO->c≠i1->c≠i2->s.heap.get? c=some o->h'.get? c=some o)->IsPair h' TO x y->Q (some (.ref s.heap.objs.size)) {s with heap:=h'}):
  wpAny (model prog w) A (pyNext (.ref z)) Q E s:=by
 have ty:s.TypeIs (.ref z) "zip":=⟨_,hz,rfl⟩;unfold pyNext;exact bZ (wpAny_attempt (wpAny_callSpecial?_slot (name:=Str.ofString "__next__") ty F.slot_zip_next
  (wpAny_call_entry F.slot_zip_next ty F.entry_zip_next (PY D hz hTI hTO h1 h2 hl1 hl2 hx hy λh' b a1 a2 a3 a4 a5 a6 a7=>pZ (hQ h' b a1 a2 a3 a4 a5 a6 a7)) (F.args_zip_next_1 _))))
theorem pyNext_end{t1 t2:Bool}{z TI TO i1 i2 l1 l2 T:Addr}{k1 k2:Nat}{xs ys:Array Value}{b:Bool}{Q:Option Value->Shared->Prop}(hh:A.handled=none)(D:ZipApart z TI TO i1 i2 l1 l2)
  (hz:IsZ s.heap z TI TO (rawInt T) (.bool b))(hT:∃o,s.heap.get? T=some o)(hTI:IsPair s.heap TI (.ref i1) (.ref i2))
  (h1:IsIt t1 s.heap i1 l1 k1)(h2:IsIt t2 s.heap i2 l2 k2)(hl1:IsSq t1 s.heap l1 xs)(hl2:IsSq t2 s.heap l2 ys)(hend:xs[k1]? =none\/ys[k2]? =none)
  (hQ:∀h',(∀c o,c≠z->c≠i1->c≠i2->s.heap.get? c=some o->h'.get? c=some o)->Q none {s with heap:=h'}):
  wpAny (model prog w) A (pyNext (.ref z)) Q E s:=by
 have ty:s.TypeIs (.ref z) "zip":=⟨_,hz,rfl⟩;unfold pyNext;refine bZ (wpAny_attempt (wpAny_callSpecial?_slot (name:=Str.ofString "__next__") ty F.slot_zip_next
  (wpAny_call_entry F.slot_zip_next ty F.entry_zip_next (VN hh D hz hT hTI h1 h2 hl1 hl2 hend λh' e hk he=> ?_) (F.args_zip_next_1 _))))
 obtain⟨o,ho,hc⟩:=he;exact bZ (wpAny_isInstance (T:="StopIteration") (b:=true) ⟨o,ho,hc⟩ isSubtype_stop (pZ (hQ _ hk)))
end
theorem nn{a b:Nat}(h:a≠b): @Ne Addr a b:=h
structure Had (N:Nat) (h0 h:Heap) (xs ys:Array Value) (i:Nat) (acc:Array Value) (c:Nat):Prop where
 old:∀a o,a<N->h0.get? a=some o->h.get? a=some o
 lst:h.get? (N+5)=some {cls:=.type "list",dict:=none,data:=.seq acc c,slots:= #[]}
 len:acc.size=i
 prs:∀j x y,j<i->xs[j]? =some x->ys[j]? =some y->∃p,acc[j]? =some (.ref p)/\IsPair h p x y/\N+5<p
section
variable{prog:Program}{w:World}{A:Around}{R:Result->Shared->Prop}{s:Shared}
end
end ZT
end PySem
namespace PySem
open Sem(wp)
open PyProof.Rows
namespace F
theorem nolen_zip:typeLookup (.type "zip") "__len__"=pure none:=by rw[typeLookup_type,builtinLookup_eq_fast];kernel_rfl
theorem nohint_zip:typeLookup (.type "zip") "__length_hint__"=pure none:=by rw[typeLookup_type,builtinLookup_eq_fast];kernel_rfl
end F
namespace ZT
noncomputable abbrev itO(t:Bool)(l:Addr):Obj:=if t then {cls:=.type "tuple_iterator",data:=.fields #[.ref l,.int 0 0]}else {cls:=.type "list_iterator",data:=.fields #[.ref l,.int 0 0]}
section
variable{prog:Program}{w:World}{A:Around}{E:Value->Shared->Prop}{s:Shared}
end
end ZT
end PySem
namespace PySem
open Sem(wp)
open PyProof.Rows
namespace ZT
section
variable{prog:Program}{w:World}{A:Around}{E:Value->Shared->Prop}{s:Shared}
end
end ZT
end PySem
namespace L2
open PySem PySem.Spec PyProof.Rows
section
variable{X:Cx}{K:FZ}{pins:List (Addr×Obj)}{σ:St}{H H':Hp}{s:Shared}{h':Heap}
theorem Inv.laidMany{t':Nat}(I:Inv X pins σ H s)(k:∀b u,s.heap.get? b=some u->h'.get? b=some u)(sm:∀b o,H b=some o->H' b=some o)(lo:∀b,b<s.heap.objs.size->H b=none->H' b=none)
  (new:∀b o,H b=none->H' b=some o->ObjOk X.prog X.w H' h' b o):Inv X pins σ H' {s with heap:=h',toks:=t'}:=by
 refine I.un ⟨λb u q _ _ _=>k b u q,λb u q _ _ _=>⟨u.slots,k b u q⟩,λb u q n _=>lo b (lt_size q) n,λb u q _=>⟨u,k b u q⟩,λb xs q=>sm _ _ q,λb u xs q=>sm _ _ q,λb ps q=>⟨#[],by rw[sm _ _ q];simp⟩⟩ λb o e=> ?_;cases hb:H b with
 |none=>exact new b o hb e
 |some u=>
  rw[sm _ _ hb]at e;cases e;exact(I.hok b _ hb).stay (λc v _ q=>k c v q) (λc q=>sm _ _ q) λc xs q=>sm _ _ q
variable{A:Around}{E:Value->Shared->Prop}{Q:Value->Shared->Prop}{b:Bool}
theorem FC{xs:List V}{us:List Value}(r:Vals xs us){j:Nat}(h1:j<us.toArray.size):∃x,xs[j]? =some x/\RelV x us.toArray[j]:=by
 have hj:j<xs.length:=by rw[r.length];simpa using h1
 obtain⟨u,hu,ru⟩:=r.get (i:=j) (x:=xs[j]) (by simp[hj]);have e1:us.toArray[j]=u:=by
  have:us[j]? =some us.toArray[j]:=by simp
  rw[hu]at this;exact(Option.some.inj this).symm
 exact⟨xs[j],by simp[hj],by rw[e1];exact ru⟩
end
end L2
namespace HT
open PySem PyProof.Rows
section
variable{prog:Program}{w:World}{A:Around}{E:Value->Shared->Prop}{s:Shared}
end
end HT
namespace L2
open PySem PySem.Spec PyProof.Rows
section
variable{X:Cx}{K:FZ}
end
end L2
namespace TM
open PySem PyProof.Rows
section
variable{prog:Program}{w:World}{A:Around}{E:Value->Shared->Prop}{s:Shared}
end
end TM
namespace L2
open PySem PySem.Spec PyProof.Rows
section
variable{X:Cx}{K:FZ}
end
end L2
namespace TM
open PySem PyProof.Rows PySem.SeqAt
end TM
namespace L2
open PySem PySem.Spec PyProof.Rows
section
variable{X:Cx}{K:FZ}
variable{e:Expr}{es tes:List Expr}{t tt:TA}{name:Str}{apos cpos tpos:Pos}{id:String}{r:V->List V->Hp->VK->Prop}
variable{c P:Addr}{params:Arguments}{body:Expr}{scope:Scope}{pos:Pos}{clos:List (Str×Addr)}
variable{k:Nat}{g:Addr}{fd:FuncData}{ps:List Str}{sp:Heap->Sp}{x:Str}{p:Pos}{qual:Str}{pm:Value}{fs:List Str}{js:List Nat}
end
section
variable{X:Cx}{P:Program}{w:World}{K:FZ}{mg:Str->Option Value}{base:Heap}{A:Around}{CX:CXT}{E:XK}{x:Str}{p pos:Pos}{e:Expr}{es:List Expr}{tf:TE}{t:TA}
end
section
variable{κ:Type}[DecidableEq κ]
noncomputable def T8(kvs:List (κ×V))(k:κ):Option V:=(kvs.find? λkv=>decide (kv.1=k)).map (·.2)
noncomputable def R5(kvs:List (κ×V))(k:κ)(v:V):List (κ×V):=
 if(kvs.any λkv=>decide (kv.1=k))=true then kvs.map (λkv=>if kv.1=k then(kv.1,v)else kv)else kvs++ [(k,v)]
theorem O8{p:κ×V}{r:List (κ×V)}{k:κ}(e:p.1=k):T8 (p::r) k=some p.2:=by simp[T8,find?_cons,e]
theorem O9{p:κ×V}{r:List (κ×V)}{k:κ}(e:¬p.1=k):T8 (p::r) k=T8 r k:=by simp[T8,find?_cons,e]
theorem EU(k:κ):∀kvs:List (κ×V),(kvs.any λkv=>decide (kv.1=k))=(T8 kvs k).isSome
 | []=>rfl
 |p::r=>by
  rw[any_cons];by_cases e:p.1=k
  ·simp only[O8 e,decide_eq_true e,Bool.true_or,Option.isSome_some]
  ·rw[O9 e,decide_eq_false e,Bool.false_or];exact EU k r
theorem MX(k j:κ)(y:V):∀kvs:List (κ×V),T8 (kvs.map λkv=>if kv.1=k then(kv.1,y)else kv) j=(T8 kvs j).map λx=>if j=k then y else x
 | []=>rfl
 |p::r=>by
  have ih:=MX k j y r;rw[map_cons];by_cases h:p.1=k
  ·rw[if_pos h];by_cases e:p.1=j
   ·rw[O8 (p:=(p.1,y)) e,O8 e,map_some,if_pos (e.symm.trans h)]
   ·rw[O9 (p:=(p.1,y)) e,O9 e,ih]
  ·rw[if_neg h];by_cases e:p.1=j
   ·rw[O8 (p:=p) e,O8 e,map_some,if_neg (λz=>h (e.trans z))]
   ·rw[O9 (p:=p) e,O9 e,ih]
theorem KC(k j:κ)(y:V):∀kvs:List (κ×V),T8 kvs k=none->T8 (kvs++ [(k,y)]) j=if j=k then some y else T8 kvs j
 | [],_=>by
  by_cases e:k=j
  ·rw[if_pos e.symm];exact O8 (p:=(k,y)) e
  ·rw[if_neg (λz=>e z.symm)];exact O9 (p:=(k,y)) e
 |p::r,hn=>by
  rw[List.cons_append];have hk:¬p.1=k:=λz=>by rw[O8 z]at hn;cases hn
  rw[O9 hk]at hn;have ih:=KC k j y r hn;by_cases e:p.1=j
  ·rw[O8 e,O8 e,if_neg (λz=>hk (e.trans z))]
  ·rw[O9 e,O9 e,ih]
theorem ID(kvs:List (κ×V))(k j:κ)(y:V):T8 (R5 kvs k y) j=if j=k then some y else T8 kvs j:=by
 unfold R5;by_cases a:(kvs.any λkv=>decide (kv.1=k))=true
 ·rw[if_pos a,MX];rw[EU]at a;by_cases e:j=k
  ·obtain⟨x,hx⟩:=Option.isSome_iff_exists.mp a;rw[if_pos e,e,hx,map_some,if_pos rfl]
  ·rw[if_neg e];cases T8 kvs j with
   |none=>rfl
   |some x=>rw[map_some,if_neg e]
 ·rw[if_neg a];refine KC k j y kvs ?_;rw[EU]at a;cases q:T8 kvs k with
  |none=>rfl
  |some x=>rw[q]at a;exact(a rfl).elim
theorem CI(kvs:List (κ×V))(k:κ)(v:V):(R5 kvs k v).length<=kvs.length+1:=by
 unfold R5;split
 ·rw[length_map];omega
 ·rw[length_append,length_cons,length_nil];omega
theorem RelO.isSome_eq{o:Option V}{u:Option Value}(r:RelO o u):o.isSome=u.isSome:=by
 cases o with
 |none=>cases u with
  |none=>rfl
  |some _=>exact(show False from r).elim
 |some _=>cases u with
  |none=>exact(show False from r).elim
  |some _=>rfl
theorem KV.val{kvs:List (κ×V)}{vs:List (κ×Value)}(r:KV kvs vs)(k:κ):RelO (T8 kvs k) (valueAt vs k):=by
 unfold KV at r;induction r with
 |nil=>exact True.intro
 | @cons p q ps qs h t ih=>
  obtain⟨h1,h2⟩:=h;by_cases e:p.1=k
  ·have e':q.1=k:=h1.symm.trans e;have b:valueAt (q::qs) k=some q.2:=by simp[valueAt,find?_cons,e']
   rw[O8 e,b];exact h2
  ·have e':¬q.1=k:=λz=>e (h1.trans z);have b:valueAt (q::qs) k=valueAt qs k:=by simp[valueAt,find?_cons,e']
   rw[O9 e,b];exact ih
theorem KV.any{kvs:List (κ×V)}{vs:List (κ×Value)}(r:KV kvs vs)(k:κ):(kvs.any λkv=>decide (kv.1=k))=vs.any λkv=>decide (kv.1=k):=by
 unfold KV at r;induction r with
 |nil=>rfl
 |cons h t ih=>rw[any_cons,any_cons,ih,h.1]
theorem KV.repl{kvs:List (κ×V)}{vs:List (κ×Value)}(r:KV kvs vs)(k:κ){y:V}{u:Value}(ry:RelV y u):
  KV (kvs.map λkv=>if kv.1=k then(kv.1,y)else kv) (vs.map λkv=>if kv.1=k then(kv.1,u)else kv):=by
 unfold KV at r⊢;induction r with
 |nil=>exact .nil
 | @cons p q ps qs h t ih=>
  rw[map_cons,map_cons];refine .cons ?_ ih;obtain⟨h1,h2⟩:=h;by_cases e:p.1=k
  ·rw[if_pos e,if_pos (h1.symm.trans e)];exact⟨h1,ry⟩
  ·rw[if_neg e,if_neg (λz=>e (h1.trans z))];exact⟨h1,h2⟩
theorem KV.put{kvs:List (κ×V)}{vs:List (κ×Value)}(r:KV kvs vs)(k:κ){y:V}{u:Value}(ry:RelV y u):KV (R5 kvs k y) (stored vs k u):=by
 unfold R5 stored;rw[r.any k];by_cases e:(vs.any λkv=>decide (kv.1=k))=true
 ·rw[if_pos e,if_pos e];exact r.repl k ry
 ·rw[if_neg e,if_neg e];exact Paired.snoc r ⟨rfl,ry⟩
theorem KV.keys{kvs:List (κ×V)}{vs:List (κ×Value)}(r:KV kvs vs):kvs.map (·.1)=vs.map (·.1):=by
 unfold KV at r;induction r with
 |nil=>rfl
 |cons h t ih=>rw[map_cons,map_cons,ih,h.1]
theorem KV.length{kvs:List (κ×V)}{vs:List (κ×Value)}(r:KV kvs vs):kvs.length=vs.length:=Paired.length r
end
theorem RR{P:Program}{w:World}{k:Key}{u:Value}(r:RelV (kV k) u):(M8 P w).is k u=true:=by
 cases k with
 |inl i=>obtain⟨t,e⟩:=(show∃t,u=Value.int i t from r);subst e;exact NN P w i t
 |inr x=>obtain⟨t,e⟩:=(show∃t,u=Value.str x t from r);subst e;exact NF P w x t
theorem KK{P:Program}{w:World}:∀ {ks:List Key} {us:List Value},Vals (ks.map kV) us->ItemsAre (M8 P w) ks us
 | [],_,r=>by rw[List.map_nil]at r;cases r;exact .nil
 |k::ks,_,r=>by
  rw[map_cons]at r;cases r with
  |cons h t=>exact .cons (RR h) (KK t)
noncomputable abbrev KT(H:Hp):List (List Key×V)->List (List Key×Addr×Value)->Prop:=Paired λp q=>p.1=q.1/\H q.2.1=some (.tup (p.1.map kV))/\RelV p.2 q.2.2
theorem KT.val{H:Hp}{kvs:List (List Key×V)}{xs:List (List Key×Addr×Value)}(r:KT H kvs xs)(k:List Key):RelO (T8 kvs k) ((atKey xs k).map (·.2)):=by
 induction r with
 |nil=>exact True.intro
 | @cons p q ps qs h t ih=>
  obtain⟨h1,_,h2⟩:=h;by_cases e:p.1=k
  ·have e':q.1=k:=h1.symm.trans e;have b:atKey (q::qs) k=some q.2:=by simp[atKey,find?_cons,e']
   rw[O8 e,b];exact h2
  ·have e':¬q.1=k:=λz=>e (h1.trans z);have b:atKey (q::qs) k=atKey qs k:=by simp[atKey,find?_cons,e']
   rw[O9 e,b];exact ih
theorem KT.repl{H:Hp}{kvs:List (List Key×V)}{xs:List (List Key×Addr×Value)}(r:KT H kvs xs)(k:List Key){y:V}{u:Value}(ry:RelV y u):
  KT H (kvs.map λkv=>if kv.1=k then(kv.1,y)else kv) (xs.map (putAt k u)):=by
 induction r with
 |nil=>exact .nil
 | @cons p q ps qs h t ih=>
  rw[map_cons,map_cons];refine .cons ?_ ih;obtain⟨h1,h2,h3⟩:=h;unfold putAt;by_cases e:p.1=k
  ·rw[if_pos e,if_pos (h1.symm.trans e)];exact⟨h1,h2,ry⟩
  ·rw[if_neg e,if_neg (λz=>e (h1.trans z))];exact⟨h1,h2,h3⟩
theorem KT.put{H:Hp}{kvs:List (List Key×V)}{xs:List (List Key×Addr×Value)}(r:KT H kvs xs)(k:List Key){b:Addr}{y:V}{u:Value}(hb:H b=some (.tup (k.map kV)))(ry:RelV y u):
  KT H (R5 kvs k y) (storedH xs k b u):=by
 have e:(kvs.any λkv=>decide (kv.1=k))=(atKey xs k).isSome:=by
  rw[EU,(r.val k).isSome_eq,Option.isSome_map]
 unfold R5 storedH;rw[e];by_cases q:(atKey xs k).isSome=true
 ·rw[if_pos q,if_pos q];exact r.repl k ry
 ·rw[if_neg q,if_neg q];exact Paired.snoc r ⟨rfl,hb,ry⟩
theorem KT.keeps{H H':Hp}{kvs:List (List Key×V)}{xs:List (List Key×Addr×Value)}(r:KT H kvs xs)(ht:∀b ys,H b=some (.tup ys)->H' b=some (.tup ys)):KT H' kvs xs:=
 Paired.mapP r λ_ _ z=>⟨z.1,ht _ _ z.2.1,z.2.2⟩
section
variable{P:Program}{w:World}{H:Hp}{h:Heap}{a:Addr}
theorem aJZ{u:HO}(ok:HOk P w H h)(e:Rd H a u):ObjOk P w H h a u:=e.ok ok
theorem RD{kvs:List (Key×V)}(ok:HOk P w H h)(e:Rd H a (.dK kvs)):kvs.length<=sizeLine/\(a==sysModules)=false/\∃vs,KV kvs vs/\h.DictOf (M8 P w) a vs:=
 show ObjOk P w H h a (.dK kvs)from aJZ ok e
theorem aSZ{kvs:List (Key×V)}(ok:HOk P w H h)(e:H a=some (.dK kvs)):kvs.length<=sizeLine/\(a==sysModules)=false/\∃vs,KV kvs vs/\h.DictOf (M8 P w) a vs:=RD ok (.inl e)
theorem OZ{ks:List Key}(ok:HOk P w H h)(e:H a=some (.tup (ks.map kV))):(tupleKind (M8 P w)).is h ks a:=by
 obtain⟨_,its,r,o,h1,h2,n,h3⟩:=(show ObjOk P w H h a (.tup (ks.map kV))from ok a _ e);exact⟨o,its.toArray,n,h1,h2,h3,by simpa using KK r⟩
theorem VG{kvs:List (List Key×V)}(ok:HOk P w H h)(e:Rd H a (.dT kvs)):kvs.length<=sizeLine/\(a==sysModules)=false/\
  ∃xs,KT H kvs xs/\h.DictOfH (tupleKind (M8 P w)) a xs:=by
 obtain⟨z,y,xs,r,o,es,ep,h1,h2,h3,h4,h5⟩:=(show ObjOk P w H h a (.dT kvs)from aJZ ok e);refine⟨z,y,xs,r,o,es,ep,h1,h2,h3,h4,λx hx=> ?_,h5⟩;have all:∀ {l:List (List Key×V)} {m:List (List Key×Addr×Value)},KT H l m->∀x∈m,(tupleKind (M8 P w)).is h x.1 x.2.1:=by
  intro l m q;induction q with
  |nil=>intro x hx;exact nomatch hx
  | @cons p q ps qs hq t ih=>
   intro x hx;rcases cZ hx with e|hx
   ·subst e;exact OZ ok (by rw[<-hq.1];exact hq.2.1)
   ·exact ih x hx
 exact all r x hx
theorem cWZ{kvs:List (List Key×V)}(ok:HOk P w H h)(e:H a=some (.dT kvs)):kvs.length<=sizeLine/\(a==sysModules)=false/\
  ∃xs,KT H kvs xs/\h.DictOfH (tupleKind (M8 P w)) a xs:=VG ok (.inl e)
end
noncomputable def DGet(H:Hp)(a:Addr)(y:V)(r:Option V):Prop:=
 (∃kvs k,Rd H a (.dK kvs)/\y=kV k/\r=T8 kvs k)\/∃kvs k b,Rd H a (.dT kvs)/\y=.ref b/\H b=some (.tup (k.map kV))/\r=T8 kvs k
noncomputable def DPut(H:Hp)(a:Addr)(y v:V)(H':Hp):Prop:=
 (∃kvs k,H a=some (.dK kvs)/\y=kV k/\kvs.length<sizeLine/\H'=upd H a (.dK (R5 kvs k v)))\/
 ∃kvs k b,H a=some (.dT kvs)/\y=.ref b/\H b=some (.tup (k.map kV))/\kvs.length<sizeLine/\H'=upd H a (.dT (R5 kvs k v))
theorem DGet.k{H:Hp}{a:Addr}{kvs:List (Key×V)}{k:Key}(e:H a=some (.dK kvs)):DGet H a (kV k) (T8 kvs k):=.inl ⟨kvs,k,.inl e,rfl,rfl⟩
theorem DPut.k{H:Hp}{a:Addr}{kvs:List (Key×V)}{k:Key}{v:V}(e:H a=some (.dK kvs))(hl:kvs.length<sizeLine):DPut H a (kV k) v (upd H a (.dK (R5 kvs k v))):=.inl ⟨kvs,k,e,rfl,hl,rfl⟩
section
variable{X:Cx}{pins:List (Addr×Obj)}{σ:St}{H:Hp}{s:Shared}{a:Addr}{y v:V}{u r:Value}{o:Option V}{A:Around}{E:Value->Shared->Prop}
theorem Inv.big(I:Inv X pins σ H s):sysModules<s.heap.objs.size:=by
 have h:mainGlobals<s.heap.objs.size:=(I.mod.glob.keeps I.bk).lt;exact Nat.lt_trans (by decide) h
theorem TU{Q:Value->Shared->Prop}(hu:A.units+1<cLine)(I:Inv X pins σ H s)(g:DGet H a y (some v))(ry:RelV y u)(h:∀w' s',Inv X pins σ H s'->RelV v w'->Q w' s'):
  wpAny (model X.prog X.w) A (getItem (.ref a) u) Q E s:=by
 rcases g with⟨kvs,k,e,ey,l⟩|⟨kvs,k,b,e,ey,eb,l⟩
 ·subst ey;obtain⟨z,hd,vs,rel,dd⟩:=RD I.hok e;obtain⟨w',hw,rw'⟩:=RelO.some_of (v:=v) (o:=valueAt vs k) (by rw[l];exact rel.val k);exact wpAny_getItem_of (RR ry) dd.mapOf hw (h w' _ (I.tok _) rw')
 ·subst ey;cases(show u=Value.ref b from ry);obtain⟨z,hd,xs,rel,dd⟩:=VG I.hok e;obtain⟨w',hw,rw'⟩:=RelO.some_of (v:=v) (o:=(atKey xs k).map (·.2)) (by rw[l];exact rel.val k);obtain⟨p,hp,hp2⟩:=map_eq_some_iff.mp hw;refine wpAny_getItem_heap (tupleKind_room_in1 hu) (OZ I.hok eb) dd hp ?_;rw[hp2];exact h w' _ (I.tok _) rw'
theorem RA{h':Heap}{t':Nat}{ob:HO}(I:Inv X pins σ H s)(mu:Mut (H a))(hs:Heap.SameBut a s.heap h')(he:∃q,h'.get? a=some q)(new:ObjOk X.prog X.w (upd H a ob) h' a ob):
  Inv X pins σ (upd H a ob) {s with heap:=h',toks:=t'}:=
 I.write (x:=a) (e:=a) mu (.inl rfl) (λb q hb z=>(hs.2 b hb).trans z) he new
theorem PJ{P:Program}{w:World}{H':Hp}{h':Heap}{kvs:List (Key×V)}{vs:List (Key×Value)}(z:kvs.length<=sizeLine)(hd:(a==sysModules)=false)(rel:KV kvs vs)(dd:h'.DictOf (M8 P w) a vs):
  ObjOk P w H' h' a (.dK kvs):=⟨z,hd,vs,rel,dd⟩
theorem ST{H':Hp}{Q:Unit->Shared->Prop}(hu:A.units+1<cLine)(I:Inv X pins σ H s)(g:DPut H a y v H')(ry:RelV y u)(rv:RelV v r)(h:∀s',Inv X pins σ H' s'->Q () s'):
  wpAny (model X.prog X.w) A (setItem (.ref a) u r) Q E s:=by
 rcases g with⟨kvs,k,e,ey,l,eH⟩|⟨kvs,k,b,e,ey,eb,l,eH⟩
 ·subst ey eH;obtain⟨z,hd,vs,rel,dd⟩:=aSZ I.hok e;have hz:vs.length<=sizeLine:=by rw[<-rel.length];exact z
  have hl:(R5 kvs k v).length<=sizeLine:=by have:=CI kvs k v;omega
  refine wpAny_setItem_pairs (hsz:=hz) (RR ry) dd λh' dd' hs=>h _ ?_;have he:∃q,h'.get? a=some q:=let⟨q,_,_,hq,_⟩:=dd';⟨q,hq⟩;exact RA I (by rw[e];exact True.intro) hs he (PJ hl hd (rel.put k rv) dd')
 ·subst ey eH;cases(show u=Value.ref b from ry);obtain⟨z,hd,xs,rel,dd⟩:=cWZ I.hok e;have hz:xs.length<=sizeLine:=by rw[<-Paired.length rel];exact z
  have hl:(R5 kvs k v).length<=sizeLine:=by have:=CI kvs k v;omega
  refine wpAny_setItem_heap (hsz:=hz) (tupleKind_room_in1 hu) (OZ I.hok eb) dd λh' dd' hs=>h _ ?_;obtain⟨q,es,ep,hq,h2,h3,h4,_,h5⟩:=dd';refine RA I (by rw[e];exact True.intro) hs ⟨q,hq⟩ ⟨hl,hd,_,(rel.put k eb rv).keeps λc ys ec=> ?_,q,es,ep,hq,h2,h3,h4,h5⟩;rw[C4 (W2 ec e (λz=>nomatch z))];exact ec
variable{kvs:List (Key×V)}{k:Key}
end
noncomputable def cOZ(i:Expr):Prop:=∀ov iv,subscripted i false ov iv=operate [ov,iv] (getItem ov iv)
theorem avZ{prog:Program}{w:World}{A:Around}{E:Value->Shared->Prop}{s:Shared}{env:Env}{value slice:Expr}{pos:Pos}{T id:String}{Q:Value->Shared->Prop}
  (hl:typeLookup (.type T) "__getitem__"=pure (some (.builtin id)))(hs:cOZ slice)
  (h:wpAny (model prog w) A (eval value env) (λo s₁=>wpAny (model prog w) A (eval slice env) (λi s₂=>s₂.TypeIs o T/\wpAny (model prog w) A (getItem o i) Q E s₂) E s₁) E s):
  wpAny (model prog w) A (eval (.Subscript value slice pos) env) Q E s:=by
 refine Subscript_ (wpAny_mono h (λo s₁ h₁=>wpAny_mono h₁ (λi s₂ h₂=> ?_) λ_ _ x=>x) λ_ _ x=>x);obtain⟨hT,h₂⟩:=h₂;unfold subscriptTail;refine bZ ?_;rw[getitemInPython_of_ne hT.not_modules];refine bZ (wpAny_specialOf hT hl ?_);have fin:wpAny (model prog w) A (subscripted slice false o i) (λr s₃=>wpAny (model prog w) A (letTemporaryGo value o r>>=λ_=>pure r) Q E s₃) E s₂:=by
  rw[hs o i];exact wpAny_operating (wpAny_mono h₂ (λr s₃ h₃=>bZ (wpAny_letTemporaryGo (pZ h₃))) λ_ _ x=>x)
 first
  |exact pZ (bZ fin)
  |exact bZ (pZ (bZ fin))
  |exact bZ fin
theorem MS{X:Cx}{pins:List (Addr×Obj)}{σ:St}{H:Hp}{s:Shared}{a:Addr}{y:V}{o:Option V}(I:Inv X pins σ H s)(g:DGet H a y o):s.TypeIs (.ref a) "dict":=by
 rcases g with⟨kvs,k,e,_,_⟩|⟨kvs,k,b,e,_,_,_⟩
 ·obtain⟨_,_,vs,_,dd⟩:=RD I.hok e;exact dd.typeIs
 ·obtain⟨_,_,xs,_,dd⟩:=VG I.hok e;exact dd.typeIs
inductive tDGetW (Q:VK) (x y:V) (H2:Hp):Prop
 |mk:∀a v,(x=.ref a)->(DGet H2 a y (some v))->(Q v H2)->tDGetW Q x y H2
noncomputable def a3Z(td ty:TE):TE:=fun σ H Q=>td σ H λx H1=>ty σ H1 λy H2=>tDGetW Q x y H2
section
variable{X:Cx}{o i e value:Expr}{pos pos' tpos:Pos}{td ty tv:TE}
theorem HJ(hu:X.A.units+1<cLine)(ho:PE X o td)(hi:PE X i ty)(hs:cOZ i):PE X (.Subscript o i pos) (a3Z td ty):=by
 intro pins s σ H Q I h;refine avZ PySem.F.slot_dict_getitem.lookup hs (thn (ho pins s σ H _ I h) λu s1 ⟨x,H1,I1,rx,q1⟩=>thn (hi pins s1 σ H1 _ I1 q1) λiv s2 ⟨y,H2,I2,ry,a,v,ex,g,q2⟩=> ?_);subst ex;obtain rfl:u=Value.ref a:=rx;exact⟨MS I2 g,TU hu I2 g ry λw' s3 I3 rw'=>⟨v,H2,I3,rw',q2⟩⟩
end
noncomputable def R0(kvs more:List (Key×V)):List (Key×V):=more.foldl (λacc kv=>R5 acc kv.1 kv.2) kvs
theorem KV.merge:∀ {more:List (Key×V)} {rs:List (Key×Value)} {kvs:List (Key×V)} {vs:List (Key×Value)},KV more rs->KV kvs vs->KV (R0 kvs more) (merged vs rs):=by
 intro more rs kvs vs r;unfold KV at r;induction r generalizing kvs vs with
 |nil=>intro q;exact q
 | @cons p q ps qs h t ih=>
  intro r0;have e:KV (R5 kvs p.1 p.2) (stored vs q.1 q.2):=by
   have:=r0.put p.1 h.2;rw[<-h.1];exact this
  exact ih e
theorem DK:∀(more kvs:List (Key×V)),(R0 kvs more).length<=kvs.length+more.length
 | [],kvs=>by show kvs.length<=kvs.length+0;omega
 |p::r,kvs=>by
  have h1:=DK r (R5 kvs p.1 p.2);have h2:=CI kvs p.1 p.2;show(R0 (R5 kvs p.1 p.2) r).length<=_;rw[length_cons];omega
section
variable{X:Cx}{pins:List (Addr×Obj)}{σ:St}{H:Hp}{s:Shared}{a:Addr}{y d:V}{u r:Value}{o:Option V}{A:Around}{E:Value->Shared->Prop}
end
section
variable{X:Cx}{o e f:Expr}{apos cpos:Pos}{td ty tx:TE}
variable{pins:List (Addr×Obj)}{σ:St}{H:Hp}{s:Shared}{a:Addr}{kvs:List (Key×V)}{A:Around}{E:Value->Shared->Prop}
theorem XF{Q:Value->Shared->Prop}(I:Inv X pins σ H s)(e:Rd H a (.dK kvs))(h:∀p s',H p=none->Inv X pins σ (upd H p (.dK kvs)) s'->Q (.ref p) s'):wpAny (model X.prog X.w) A (call (.type "dict") [.ref a]) Q E s:=by
 obtain⟨z,hd,vs,rel,dd⟩:=RD I.hok e;refine kt_call_dict hd dd (by rw[<-rel.length];exact z) λh' dd' hs=> ?_;refine h _ _ (I.hok.fresh (Nat.le_refl _)) (I.laid (a:=s.heap.objs.size) (o:=.dK kvs) (t':=s.toks) (λb q hq=> ?_) (Nat.le_refl _) (PJ z (beq_eq_false_iff_ne.mpr (Ne.symm (ne_of_lt I.big))) rel dd'));exact(hs.2 b (ne_of_lt (lt_size hq))).trans (gZ _ hq)
variable{y:V}{u:Value}
noncomputable def cYZ:V->V->V->Hp->(Hp->Prop)->Prop:=λo i v H Q=>∃a H',o=.ref a/\DPut H a i v H'/\Q H'
theorem MU(hu:X.A.units+64<cLine):ceZ X cYZ:=by
 intro pins s σ H o i v ov iv u Q I ro ri rv h;obtain⟨a,H',rfl,g,q⟩:=h;cases ro;exact ST (by omega) I g ri rv λs' I'=>⟨H',I',q⟩
end
end L2
namespace PySem
namespace ZT
section
variable{prog:Program}{w:World}{A:Around}{E:Value->Shared->Prop}{s:Shared}
end
end ZT
end PySem
namespace L2
open PySem PySem.Spec PyProof.Rows
noncomputable def SqX(t:Bool)(K:FZ)(H:Hp)(a:Addr)(xs:List V):Prop:=if t then SqT K H a xs else SqL K H a xs
section
variable{X:Cx}{pins:List (Addr×Obj)}{σ:St}{H:Hp}{s:Shared}{a:Addr}{xs ys:List V}{t:Bool}
theorem Inv.sqx(I:Inv X pins σ H s)(h:SqX t X.K H a xs):∃its:List Value,Vals xs its/\ZT.IsSq t s.heap a its.toArray/\xs.length<=sizeLine:=by
 cases t
 ·obtain⟨its,rv,p,hz⟩:=I.list h;exact⟨its,rv,p.isList,hz⟩
 ·obtain⟨its,rv,p,hz⟩:=I.tuple h;exact⟨its,rv,p,hz⟩
theorem Inv.sqx_inj(I:Inv X pins σ H s)(h:SqX t X.K H a xs)(h':SqX t X.K H a ys):xs=ys:=by
 cases t
 ·exact I.list_inj h h'
 ·exact I.tuple_inj h h'
end
theorem NZ{t:Bool}{h:Heap}{c l:Addr}{i:Nat}(x:ZT.IsIt t h c l i):∃o,h.get? c=some o/\∀v,o.data≠ .cell v:=by
 cases t
 ·obtain⟨o,e,c,d⟩:=(show h.IsListIter c l i from x);exact⟨o,e,λv q=>by rw[d]at q;cases q⟩
 ·obtain⟨o,e,c,d⟩:=(show h.IsTupleIter c l i from x);exact⟨o,e,λv q=>by rw[d]at q;cases q⟩
section
variable{X:Cx}{K:FZ}{elts:List Expr}{kt:Nat}{pt:Pos}
variable{tg:Expr}
end
end L2
namespace PySem
open PyProof.Rows L2
namespace F
end F
section
variable{prog:Program}{w:World}{A:Around}{E:Value->Shared->Prop}{s:Shared}
end
end PySem
namespace L2
open PySem PySem.Spec PyProof.Rows
section
variable{X:Cx}{tg:Expr}
end
end L2
namespace PySem
open PyProof.Rows
namespace F
theorem sub_attrErr:isSubtype (.type "AttributeError") (.type "AttributeError")=pure true:=by rw[isSubtype_type];kernel_rfl
end F
section
variable{prog:Program}{w:World}{A:Around}{E:Value->Shared->Prop}{s:Shared}
theorem QS{p:Addr}{key v:Value}{Q:List Value->Shared->Prop}(hp:s.heap.IsTuple p #[key,v])
  (q:Q [key,v] s):wpAny (model prog w) A (Builtin.Dict.pairItems (.ref p)) Q E s:=by
 obtain⟨o,ho,hc,n,hd⟩:=id hp;have ty:s.TypeIs (.ref p) "tuple":=⟨_,ho,hc⟩;unfold Builtin.Dict.pairItems;refine bZ (wpAny_typeOf ty ?_);rw[if_pos (by decide)];refine bZ (wpAny_seqItems ho hd (pZ q))
end
end PySem
namespace PySem
open PyProof.Rows
namespace F
theorem entry_dict_update_loop:entryFor table "dict.update.loop"=some Builtin.«dict.update.loop»:=by kernel_rfl
theorem plain_dict_update_loop:plainId "dict.update.loop"=true:=by decide +kernel
end F
section
variable{prog:Program}{w:World}{A:Around}{E:Value->Shared->Prop}{s:Shared}
end
end PySem
namespace PySem
section
variable{prog:Program}{w:World}{A:Around}{E:Value->Shared->Prop}{s:Shared}
end
end PySem
namespace L2
open PySem PySem.Spec PyProof.Rows
section
variable{X:Cx}{K:FZ}{pins:List (Addr×Obj)}{σ:St}{H:Hp}{s:Shared}
end
end L2
namespace PySem
open PyProof.Rows
section
variable{prog:Program}{w:World}{A:Around}{E:Value->Shared->Prop}{s:Shared}
theorem HB{h:Heap}{a b:Addr}{o:Obj}{vs:List Value}{out:Array Value}(e:h.get? b=some o)(n:b≠a):(sortedHeap h a vs out).get? b=some o:=by
 unfold sortedHeap;have h1:(h.update a (Obj.mapSeq λ_=> #[])).get? b=some o:=(get?_update_other _ _ (Ne.symm n)).trans e;exact(get?_update_other _ _ (Ne.symm n)).trans (gZ _ (gZ _ h1))
theorem HD{h:Heap}{a:Addr}{vs:List Value}{out:Array Value}{n:Nat}(e:h.get? a=some {cls:=.type "list",data:=.seq vs.toArray n}):∃n',(sortedHeap h a vs out).get? a=some {cls:=.type "list",data:=.seq out n'}:=by
 unfold sortedHeap;have h1:=get?_update_self (Obj.mapSeq (λ_=>(#[]:Array Value))) e rfl;have h2:=gZ (seqObj "list" #[] 0) (gZ (seqObj "tuple" vs.toArray 0) h1);exact⟨_,get?_update_self (Obj.mapSeq (λ_=>out)) h2 rfl⟩
end
end PySem
namespace L2
open PySem PySem.Spec PyProof.Rows
section
variable{X:Cx}
end
end L2
namespace PySem
open AutoSeq1(wpAny_loadPart')
end PySem
namespace L2
open PySem PySem.Spec PyProof.Rows
section
variable{X:Cx}{K:FZ}{tg:Expr}
variable{pins:List (Addr×Obj)}{σ:St}{H:Hp}{s:Shared}
end
end L2
namespace PySem
open PyProof.Rows
section
variable{prog:Program}{w:World}
noncomputable def dd{K:Type}[DecidableEq K](D:List K)(x:K):List K:=if x∈D then D else D++ [x]
theorem b8Z{K:Type}[DecidableEq K](D:List K)(x k:K):k∈dd D x↔k∈D\/k=x:=by
 unfold dd;by_cases h:x∈D
 ·rw[if_pos h];exact⟨.inl,λz=>z.elim id λe=>e▸h⟩
 ·rw[if_neg h,mem_append,List.mem_singleton]
theorem WL{K:Type}[DecidableEq K](D:List K)(x:K):(dd D x).length=if x∈D then D.length else D.length+1:=by
 unfold dd;by_cases h:x∈D
 ·rw[if_pos h,if_pos h]
 ·rw[if_neg h,if_neg h,length_append];rfl
theorem YW{K:Type}[DecidableEq K]{knd:KeyKind prog w K}{A:Around}{R:Result->Shared->Prop}{I:Addr}{fp wr:List Addr}{G:Array GenState->Array GenState->Prop}{n:Nat}{P:Nat->Value->Prop}{St:Nat->Shared->Prop}
  (W:WalksS prog w A.in1 I fp wr G n P St)(S:Addr)(hS:S∉fp)(vals:List K)(hP:∀i v,P i v->∃k,vals[i]? =some k/\knd.is k v=true/\v.scannable=true)(hl:vals.length=n)(hn:n+1<scanBound):
  ∀(m i:Nat) (s:Shared) (D:List K),n - i=m->i<=n->St i s->D.length<=i->Heap.SetOf knd s.heap S (λk=>decide (k∈D)) D.length->
   (∀s',Moved (S::wr) G s s'->Heap.SetOf knd s'.heap S (λk=>decide (k∈(vals.drop i).foldl dd D)) ((vals.drop i).foldl dd D).length->R (.ok (.ret .none)) s')->
   codeAny (model prog w) A (.builtin "set.update.loop" ⟨[.ref S,.ref I],[]⟩) R s:=by
 intro m;induction m with
 |zero=>
  intro i s D hm hi hSt hD hSet hR;have e:i=n:=by omega
  subst e;refine codeAny_builtin F.entry_set_update_loop ?_;rw[Around.under_plainId F.plain_set_update_loop];refine bZ (m:=pyNext (.ref I)) (W.done s _ _ hSt λs' hM=>pZ ?_);refine hR s' (hM.mono λb hb=>mem_cons_of_mem _ hb) ?_;rw[<-hl,List.drop_length];obtain⟨o,es,ep,t,h1,h2⟩:=hSet;exact⟨o,es,ep,t,hM.heap _ _ (λz=>hS (W.sub _ z)) h1,h2⟩
 |succ m ih=>
  intro i s D hm hi hSt hD hSet hR;refine codeAny_builtin F.entry_set_update_loop ?_;rw[Around.under_plainId F.plain_set_update_loop];refine bZ (m:=pyNext (.ref I)) (W.item i s _ _ (by omega) hSt λv s' hPv hSt' hM=> ?_);obtain⟨k,hk,his,hsc⟩:=hP i v hPv;have hSet':Heap.SetOf knd s'.heap S (λk=>decide (k∈D)) D.length:=by
   obtain⟨o,es,ep,t,h1,h2⟩:=hSet;exact⟨o,es,ep,t,hM.heap _ _ (λz=>hS (W.sub _ z)) h1,h2⟩
  refine bZ (m:=holding [v] (setAdd S v)) (wpAny_holding ?_);unfold setAdd;refine wpAny_holding (bZ (knd.pyHash his ?_));refine wpAny_setAddHashed_of (knd:=knd) (k:=k) his hsc hSet' (by omega) λh' sb hs'=> ?_;refine pZ ⟨plainId_quiet F.plain_set_update_loop _, ?_⟩;have hD':Heap.SetOf knd h' S (λk'=>decide (k'∈dd D k)) (dd D k).length:=by
   refine SetOf_congr hs' (λk'=> ?_) ?_
   ·rw[Bool.eq_iff_iff,Bool.or_eq_true,decide_eq_true_iff,decide_eq_true_iff,decide_eq_true_iff,b8Z]
   ·rw[WL];by_cases c:k∈D
    ·rw[if_pos c,if_pos (decide_eq_true c)]
    ·rw[if_neg c,if_neg (by rw[decide_eq_false c];exact nZ)]
  have hM2:Moved (S::wr) G s {s' with heap:=h',toks:=s'.toks+1}:=(hM.mono λb hb=>mem_cons_of_mem _ hb).then_heap (le_succ _) λb o hb e=>(sb.2 b (λz=>hb (by rw[z];exact mem_cons_self ..))).trans e;refine ih (i+1) _ (dd D k) (by omega) (by omega) (W.frame (i+1) s' h' (s'.toks+1) hSt' (le_succ _) λb hb o e=>(sb.2 b (λz=>hS (z▸hb))).trans e) (by rw[WL];split<;>omega) hD' λs3 hM3 h3=>hR s3 (Moved.trans W.gtrans hM2 hM3) ?_;have e:vals.drop i=k::vals.drop (i+1):=by
   obtain⟨hlt,e1⟩:=List.getElem?_eq_some_iff.mp hk;rw[List.drop_eq_getElem_cons hlt,e1]
  rw[e];exact h3
variable{A:Around}{E:Value->Shared->Prop}{s:Shared}
theorem NG{T newId initId:String}{args:List Value}{Q Q₁:Value->Shared->Prop}(tc:TypeCalled T newId initId)(hc:checkTypeCall T ⟨args,[]⟩=pure ())
  (hnew:codeAny (model prog w) A.in1 (.call (.builtin newId) ⟨.type T::args,[]⟩) (wants Q₁ E) s)
  (hinit:∀obj s₁,Q₁ obj s₁->s₁.TypeIs obj T/\codeAny (model prog w) A.in1 (.call (.builtin initId) ⟨obj::args,[]⟩) (wants (λr s₂=>r=.none/\Q obj s₂) E) s₁):
  wpAny (model prog w) A (call (.type T) args) Q E s:=by
 obtain⟨c0,tl,hmro⟩:=tc.mro;refine wpAny_call (codeAny_of_tree (pZ ⟨Code.quiet_builtin _ (by decide +kernel),codeAny_builtin F.entry_type_call ?_⟩));rw[show(A.under (Code.builtin "type.__call__" ⟨.type T::(⟨args,[]⟩:Args).pos,[]⟩))=A.in1 from Around.under_plain (weight_type_call_type _ _ _) (units_type_call_type _ _ _)];unfold Builtin.«type.__call__»;simp only[tc.notType,tc.canCreate];rw[if_neg nZ,if_neg nZ];refine bZ (wpAny_of_eq hc (bZ (wpAny_of_eq hmro ?_)));rw[if_neg (show¬(c0::tl).isEmpty=true from nZ)];refine bZ (wpAny_of_eq tc.made (bZ (pZ (bZ (wpAny_holding (wpAny_call (codeAny_mono hnew λr s1 hr=> ?_)))))))
 match r,hr with
 | .error e,hr=>exact hr
 | .ok (.ret obj),hr=>
  obtain⟨ty,hi⟩:=hinit obj s1 hr;refine bZ (wpAny_isInstance ty tc.sub ?_);rw[if_neg (by decide)];refine bZ (wpAny_holding ?_);unfold callSpecial?;refine bZ (wpAny_specialOf ty tc.init.lookup (wpAny_holding (bZ (wpAny_of_eq (tc.init.bind _) (bZ (wpAny_call (codeAny_mono hi λr2 s2 hr2=> ?_)))))))
  match r2,hr2 with
  | .error e,hr2=>exact hr2
  | .ok (.ret v),hr2=>
   obtain⟨rfl,hq⟩:=hr2;refine pZ ?_;show wpAny _ _ (if(Value.none !=Value.none)=true then _ else _) _ _ _;rw[if_neg (by decide)];exact pZ hq
theorem JO{K:Type}[DecidableEq K]{knd:KeyKind prog w K}{Q:Value->Shared->Prop}(hh:A.handled=none){l:Addr}{its:Array Value}{n:Nat}{sl:Array (Option Value)}{vals:List K}
  (hl:s.heap.get? l=some {cls:=.type "list",data:=.seq its n,slots:=sl})(hv:∀(i:Nat) v,its[i]? =some v->∃k,vals[i]? =some k/\knd.is k v=true/\v.scannable=true)(hlen:vals.length=its.size)(hn:its.size+1<scanBound)
  (hQ:∀h' tk,Heap.SetOf knd h' s.heap.objs.size (λk=>decide (k∈vals.foldl dd [])) (vals.foldl dd []).length->(∀b o,s.heap.get? b=some o->h'.get? b=some o)->Q (.ref s.heap.objs.size) {s with heap:=h',toks:=tk}):
  wpAny (model prog w) A (call (.type "set") [.ref l]) Q E s:=by
 have ltl:l<s.heap.objs.size:=lt_size hl;refine NG (Q₁:=λobj s₁=>obj=.ref s.heap.objs.size/\∃led,s₁={s with heap:=s.heap.push {cls:=.type "set",data:=.set #[] 0 (SetTable.fresh 0 0 led)}}) F.called_set (F.typeCall_set_1 _)
  (code_set_new_1 _ λled=>⟨rfl,led,rfl⟩) λobj s₁ h₁=> ?_
 obtain⟨rfl,led,rfl⟩:=h₁;have hS:(s.heap.push {cls:=.type "set",data:=.set #[] 0 (SetTable.fresh 0 0 led)}).get? s.heap.objs.size=some {cls:=.type "set",data:=.set #[] 0 (SetTable.fresh 0 0 led)}:=get?_push_size _ rfl;have tyd:Shared.TypeIs {s with heap:=s.heap.push {cls:=.type "set",data:=.set #[] 0 (SetTable.fresh 0 0 led)}} (.ref s.heap.objs.size) "set":=⟨_,hS,rfl⟩;have hl1:(s.heap.push {cls:=.type "set",data:=.set #[] 0 (SetTable.fresh 0 0 led)}).get? l=some {cls:=.type "list",data:=.seq its n,slots:=sl}:=gZ _ hl;have tyl:Shared.TypeIs {s with heap:=s.heap.push {cls:=.type "set",data:=.set #[] 0 (SetTable.fresh 0 0 led)}} (.ref l) "list":=⟨_,hl1,rfl⟩;refine⟨tyd,codeAny_call_builtin F.called_set.init.plain F.entry_set_init (check_set_init_1 tyd ?_)⟩;unfold Builtin.«set.__init__»;refine bZ (wpAny_of_eq (show noKeywords "set" {pos:=[Value.ref s.heap.objs.size,Value.ref l]}=pure () by kernel_rfl) ?_);show wpAny _ _ (typeNameOfCut 200 (.ref s.heap.objs.size)>>=_) _ _ _;unfold typeNameOfCut shownTypeOf;refine bZ (bZ (bZ (wpAny_typeOf tyd ?_)));rw[if_neg (by decide)];refine pZ (wpAny_of_eq (show typeNameCut 200 (Value.type "set")=pure "set" by kernel_rfl) ?_);refine bZ (wpAny_of_eq (show checkCount "set" 0 1 [Value.ref l].length=pure () by kernel_rfl) ?_);refine bZ (pZ ?_);unfold setUsed;refine bZ (bZ (wpAny_setState_of hS rfl rfl (pZ ?_)));rw[if_neg (by cases led<;>decide)];show wpAny _ _ (Builtin.Frozenset.updateFrom "set.__init__" s.heap.objs.size (.ref l)>>=λ_=>ret .none) _ _ _;refine bZ ?_;unfold Builtin.Frozenset.updateFrom Builtin.Frozenset.isAnySet;refine bZ (bZ (wpAny_isInstance tyl F.sub_list_set ?_));refine wpAny_isInstance tyl F.sub_list_frozenset ?_;rw[if_neg nZ];refine bZ (wpAny_typeOf tyl ?_);rw[if_neg (by decide)];have hL1:(s.heap.push {cls:=.type "set",data:=.set #[] 0 (SetTable.fresh 0 0 led)}).IsList l its:=⟨_,hl1,rfl,n,rfl⟩;refine bZ (wpAny_pyIter_list hL1 ?_);have kp:∀b o,(s.heap.push {cls:=.type "set",data:=.set #[] 0 (SetTable.fresh 0 0 led)}).get? b=some o->((s.heap.push {cls:=.type "set",data:=.set #[] 0 (SetTable.fresh 0 0 led)}).push {cls:=.type "list_iterator",data:=.fields #[.ref l,.int 0 0]}).get? b=some o:=λb o e=>gZ _ e;have hsz:(s.heap.push {cls:=.type "set",data:=.set #[] 0 (SetTable.fresh 0 0 led)}).objs.size=s.heap.objs.size+1:=Heap.size_push _ _;refine bZ (wpAny_runValue ?_);have nl:l≠(s.heap.push {cls:=.type "set",data:=.set #[] 0 (SetTable.fresh 0 0 led)}).objs.size:=by rw[hsz];exact ne_of_lt (lt_succ_of_lt ltl)
 refine YW (knd:=knd) (W:=(Walks.list (prog:=prog) (w:=w) (A:=A.in1.in1.in1) hh (s.heap.push {cls:=.type "set",data:=.set #[] 0 (SetTable.fresh 0 0 led)}).objs.size l nl its).toS) s.heap.objs.size ?_ vals hv hlen hn its.size 0 _ [] rfl (zero_le _) ⟨⟨_,get?_push_size _ rfl,rfl,rfl⟩,hL1.at λo e=>kp _ _ e⟩ (Nat.le_refl _) ?_ λs3 hM hset=> ?_
 ·rw[hsz];intro z;rcases cZ z with e|z
  ·exact ne_of_lt (lt_succ_self _) e
  ·exact Nat.ne_of_gt ltl (sZ z)
 ·refine SetOf_congr (Obj.SetObjOf.setOf (setObjOf_fresh led) (kp _ _ hS) (by decide)) (λk=> ?_) rfl;simp
 ·refine pZ (pZ ⟨rfl, ?_⟩);obtain⟨h3,g3,d3,t3,o3⟩:=s3;have e1:g3=s.gens:=hM.gens;have e2:d3=s.drawn:=hM.drawn;have e3:o3=s.os:=hM.os;subst e1 e2 e3;refine hQ h3 t3 hset λb o e=>hM.heap b o (λz=> ?_) (kp _ _ (gZ _ e));have ltb:=lt_size e;rcases cZ z with e|z
  ·exact ne_of_lt ltb e
  ·have e4:=sZ z;rw[hsz]at e4;exact ne_of_lt (lt_succ_of_lt ltb) e4
end
end PySem
namespace L2
open PySem PySem.Spec PyProof.Rows
theorem bqZ:bootBuiltins "set"=some (.type "set"):=by decide +kernel
theorem WP{ss:List Str}{us:List Value}(r:Vals (ss.map V.str) us)(prog:Program)(w:World)(i:Nat)(v:Value)(h:us.toArray[i]? =some v):∃k,ss[i]? =some k/\(PySem.strKind prog w).is k v=true/\v.scannable=true:=by
 have h':us[i]? =some v:=by simpa using h
 have hi:i<us.length:=(List.getElem?_eq_some_iff.mp h').1;have hl:=r.length;rw[length_map]at hl;have hi2:i<ss.length:=by omega
 obtain⟨u,hu,ru⟩:=r.get (i:=i) (x:=.str ss[i]) (by rw[getElem?_map,List.getElem?_eq_getElem hi2];rfl);rw[h']at hu;cases hu;obtain⟨t,rfl⟩:=ru;refine⟨ss[i],List.getElem?_eq_getElem hi2, ?_,rfl⟩;show Value.isStrOf ss[i] (.str ss[i] t)=true;unfold Value.isStrOf;simp
section
variable{X:Cx}{K:FZ}
noncomputable def aiZ(K:FZ)(ta:TA):TE:=fun σ H Q=>ta σ H λvs H1=>∃(p:Addr) (ss:List Str),vs=[.ref p]/\H1 p=some (.lst (ss.map V.str))/\ss.length<=1000/\Q (.int ((ss.foldl dd []).length:Nat)) H1
theorem TF{a:Expr}{ta:TA}{p p' pos pos':Pos}(hg:Gl X "set")(hm:X.mg "set"=none)(hg':Gl X "len")(hm':X.mg "len"=none)(hc:X.calm=true)(ha:PA X [a] ta)(hK:X.K=K:=by rfl)(hs:starEach [a] X.env=[(false,eval a X.env)]:=by rfl)
  (hs':starEach [.Call (.Name "set" p) [a] [] pos] X.env=[(false,eval (.Call (.Name "set" p) [a] [] pos) X.env)]:=by rfl):
  PE X (.Call (.Name "len" p') [.Call (.Name "set" p) [a] [] pos] [] pos') (aiZ K ta):=by
 subst hK;intro pins s σ H Q I h;refine wpAny_Call_Name_kw (T5 I hg' hm' WO ?_);refine PyProof.Rows.callWith_builtin1 ?_ hs' rfl;rw[hs'];refine Calls.spliced_cons (Call_ (T5 I hg hm bqZ (callWith_type1 (thn (ha pos pins s σ H _ I h) λus s1 ⟨vs,H1,I1,r1,q1⟩=> ?_) hs rfl)));obtain⟨l,ss,e,hp,hn,q⟩:=q1;subst e;obtain⟨u,rfl,ru⟩:=BR r1;cases ru;obtain⟨its,n,rv,hget,hz⟩:=I1.lst hp;have hl:=rv.length;rw[length_map]at hl;have hb:(1002:Nat)<scanBound:=by decide
 refine JO (knd:=PySem.strKind X.prog X.w) (vals:=ss) (I1.ok.hd hc) hget (λi v h=>WP rv X.prog X.w i v h) (by rw[size_toArray];exact hl) (by rw[size_toArray];omega) λh' tk hset hk=> ?_;refine Calls.spliced_nil ?_;obtain⟨o,es,ep,t,h1,h2,h3,h4,h5,h6,h7,h8⟩:=hset;have I2:Inv X pins σ H1 {s1 with heap:=h',toks:=tk}:=I1.kept (t':=tk) hk;have hbig:(ss.foldl dd []).length<2^63:=by rw[<-h8];exact Nat.lt_trans h6 (by decide)
 refine call_len_set (s:={s1 with heap:=h',toks:=tk}) h1 h2 h3 h7 (by rw[h8];omega) ?_;rw[h8];exact⟨.int ((ss.foldl dd []).length:Nat),H1,I2.kept (t':=tk+1+1) λb o e=>e,⟨_,rfl⟩,q⟩
end
end L2
namespace PySem
open PyProof.Rows
section
variable{prog:Program}{w:World}{K:Type}[DecidableEq K]{knd:KeyKind prog w K}{A:Around}{E:Value->Shared->Prop}{s:Shared}
end
section
variable{prog:Program}{w:World}{A:Around}{E:Value->Shared->Prop}{s:Shared}
end
end PySem
namespace L2
open PySem PySem.Spec PyProof.Rows
theorem ES:∀ {us:List Value} {ss:List Str},StrsAre us ss->Vals (ss.map V.str) us
 |_,_,.nil=> .nil
 |_,_,.cons n t h=> .cons ⟨t,rfl⟩ (ES h)
section
variable{X:Cx}{K:FZ}
end
end L2
namespace PySem
open PyProof.Rows
section
variable{prog:Program}{w:World}{A:Around}{E:Value->Shared->Prop}{s:Shared}
end
end PySem
namespace L2
open PySem PySem.Spec PyProof.Rows
section
variable{X:Cx}{K:FZ}
end
end L2
namespace PySem
open Sem(wp)
open PyProof.Rows
namespace ZT
section
variable{prog:Program}{w:World}{A:Around}{E:Value->Shared->Prop}{s:Shared}
theorem MR{t1 t2:Bool}{z TI TO i1 i2 l1 l2:Addr}{k1 k2:Nat}{xs ys:Array Value}{x y a b:Value}{Q:Value->Shared->Prop}(D:ZipApart z TI TO i1 i2 l1 l2)
  (hz:IsZ s.heap z TI TO .none (.bool false))(hTI:IsPair s.heap TI (.ref i1) (.ref i2))(hTO:IsPair s.heap TO a b)
  (h1:IsIt t1 s.heap i1 l1 k1)(h2:IsIt t2 s.heap i2 l2 k2)(hl1:IsSq t1 s.heap l1 xs)(hl2:IsSq t2 s.heap l2 ys)(hx:xs[k1]? =some x)(hy:ys[k2]? =some y)
  (hQ:∀h',IsZ h' z TI TO (rawInt s.heap.objs.size) (.bool false)->IsIt t1 h' i1 l1 (k1+1)->IsIt t2 h' i2 l2 (k2+1)->IsPair h' s.heap.objs.size x y->h'.objs.size=s.heap.objs.size+1->
   (∀c o,c≠z->c≠TO->c≠i1->c≠i2->s.heap.get? c=some o->h'.get? c=some o)->IsPair h' TO x y->Q (.ref s.heap.objs.size) {s with heap:=h'}):
  wpAny (model prog w) A (Builtin.«zip.__next__» ⟨[.ref z],[]⟩) (λfin s'=>∃v,fin=.done (.ret v)/\Q v s') E s:=by
 show wpAny _ _ (field (.ref z) 2>>=_) _ _ _;refine bZ (wpAny_field hz rfl (x:=.bool false) rfl ?_);show wpAny _ _ (field (.ref z) 3>>=_) _ _ _;refine bZ (wpAny_field hz rfl (x:=.ref TI) rfl ?_);refine bZ (wpAny_seqItems hTI rfl ?_);show wpAny _ _ (Builtin.SmallTypes.ownedTupleIsFree (.ref z)>>=_) _ _ _;refine bZ ?_;unfold Builtin.SmallTypes.ownedTupleIsFree;refine bZ (wpAny_field hz rfl (x:=.none) rfl (pZ ?_));simp only[if_true];refine bZ (wpAny_rule ?_);refine bZ (wpAny_field hz rfl (x:=.ref TO) rfl ?_);refine bZ (wpAny_setField_rec hz (by simp) λg₁ z₁ q₁=> ?_);replace z₁:IsZ g₁ z TI TO .ellipsis (.bool false):=z₁;have p₁:IsPair g₁ TO a b:=q₁.extBut _ _ D.TOz hTO;refine bZ ?_;simp only[List.zipIdx_cons,List.zipIdx_nil,forIn_cons,forIn_nil];refine bZ (bZ (wpAny_onRaise ?_));show wpAny _ _ (Builtin.SmallTypes.nextOf (.ref i1)>>=_) _ _ _;refine bZ (S4 (h1.extBut q₁.extBut D.i1z) (hl1.extBut q₁.extBut D.l1z) hx λg₂ it₂ q₂=>pZ ?_);have p₂:IsPair g₂ TO a b:=q₂.extBut _ _ D.TOi1 p₁;refine bZ (wpAny_seqItems p₂ rfl (bZ (wpAny_updateSeq_pair p₂ λg₃ p₃ q₃=>bZ (wpAny_letGo (pZ ?_)))));replace p₃:IsPair g₃ TO x b:=p₃;have k₃:∀ {c o},c≠z->c≠i1->c≠TO->s.heap.get? c=some o->g₃.get? c=some o:=λc1 c2 c3 e=>q₃.extBut _ _ c3 (q₂.extBut _ _ c2 (q₁.extBut _ _ c1 e));refine bZ (bZ (wpAny_onRaise ?_));show wpAny _ _ (Builtin.SmallTypes.nextOf (.ref i2)>>=_) _ _ _;refine bZ (S4 (h2.at λo e=>k₃ D.i2z D.i12.symm D.TOi2.symm e) (hl2.at λo e=>k₃ D.l2z D.l2i1 D.l2TO e) hy λg₄ it₄ q₄=>pZ ?_);have p₄:IsPair g₄ TO x b:=q₄.extBut _ _ D.TOi2 p₃;refine bZ (wpAny_seqItems p₄ rfl (bZ (wpAny_updateSeq_pair p₄ λg₅ p₅ q₅=>bZ (wpAny_letGo (pZ (pZ ?_))))));replace p₅:IsPair g₅ TO x y:=p₅;refine bZ (wpAny_seqItems p₅ rfl (bZ (wpAny_newTuple ?_)));have sz:g₅.objs.size=s.heap.objs.size:=by rw[q₅.1,q₄.1,q₃.1,q₂.1,q₁.1]
 have z₅:IsZ g₅ z TI TO .ellipsis (.bool false):=q₅.extBut _ _ D.TOz.symm (q₄.extBut _ _ D.i2z.symm (q₃.extBut _ _ D.TOz.symm (q₂.extBut _ _ D.i1z.symm z₁)));have k₅:∀c o,c≠z->c≠TO->c≠i1->c≠i2->s.heap.get? c=some o->g₅.get? c=some o:=λc o c1 c2 c3 c4 e=>q₅.extBut _ _ c2 (q₄.extBut _ _ c4 (k₃ c1 c3 c2 e));have it1:IsIt t1 g₅ i1 l1 (k1+1):=it₂.at λo e=>q₅.extBut _ _ D.TOi1.symm (q₄.extBut _ _ D.i12 (q₃.extBut _ _ D.TOi1.symm e));have it2:IsIt t2 g₅ i2 l2 (k2+1):=it₄.at λo e=>q₅.extBut _ _ D.TOi2.symm e;have zlt:z<g₅.objs.size:=lt_size z₅;show wpAny _ _ (Builtin.SmallTypes.ownedTupleHandOut (.ref z) (.ref g₅.objs.size)>>=_) _ _ _;refine bZ ?_;unfold Builtin.SmallTypes.ownedTupleHandOut;refine bZ (wpAny_setField_rec (gZ _ z₅) (by simp) λg₇ z₇ q₇=> ?_);replace z₇:IsZ g₇ z TI TO (rawInt g₅.objs.size) (.bool false):=z₇;refine wpAny_setField_rec z₇ (by simp) λg₈ z₈ q₈=>pZ ⟨_,rfl, ?_⟩;replace z₈:IsZ g₈ z TI TO (rawInt g₅.objs.size) (.bool false):=z₈;have up:∀c o,c≠z->g₅.get? c=some o->g₈.get? c=some o:=λc o c1 e=>q₈.extBut _ _ c1 (q₇.extBut _ _ c1 (gZ _ e));have pT:IsPair g₈ g₅.objs.size x y:=q₈.extBut _ _ (Nat.ne_of_gt zlt) (q₇.extBut _ _ (Nat.ne_of_gt zlt) (get?_push_size _ rfl));have s8:g₈.objs.size=g₅.objs.size+1:=by rw[q₈.1,q₇.1,Heap.size_push]
 show Q (.ref g₅.objs.size) _;rw[sz]at z₈ pT s8⊢;exact hQ g₈ z₈ (it1.at λo e=>up _ o D.i1z e) (it2.at λo e=>up _ o D.i2z e) pT s8 (λc o c1 c2 c3 c4 e=>up c o c1 (k₅ c o c1 c2 c3 c4 e)) (up _ _ D.TOz p₅)
theorem UD{t1 t2:Bool}{z TI TO i1 i2 l1 l2:Addr}{k1 k2:Nat}{xs ys:Array Value}{a b:Value}{Q:Fin->Shared->Prop}(hh:A.handled=none)(D:ZipApart z TI TO i1 i2 l1 l2)
  (hz:IsZ s.heap z TI TO .none (.bool false))(hTI:IsPair s.heap TI (.ref i1) (.ref i2))(hTO:IsPair s.heap TO a b)
  (h1:IsIt t1 s.heap i1 l1 k1)(h2:IsIt t2 s.heap i2 l2 k2)(hl1:IsSq t1 s.heap l1 xs)(hl2:IsSq t2 s.heap l2 ys)(hend:xs[k1]? =none\/ys[k2]? =none)
  (hE:∀h' e,(∀c o,c≠z->c≠TO->c≠i1->c≠i2->s.heap.get? c=some o->h'.get? c=some o)->(∃o,h'.get? e=some o/\o.cls=.type "StopIteration")->E (.ref e) {s with heap:=h'}):
  wpAny (model prog w) A (Builtin.«zip.__next__» ⟨[.ref z],[]⟩) Q E s:=by
 show wpAny _ _ (field (.ref z) 2>>=_) _ _ _;refine bZ (wpAny_field hz rfl (x:=.bool false) rfl ?_);show wpAny _ _ (field (.ref z) 3>>=_) _ _ _;refine bZ (wpAny_field hz rfl (x:=.ref TI) rfl ?_);refine bZ (wpAny_seqItems hTI rfl ?_);show wpAny _ _ (Builtin.SmallTypes.ownedTupleIsFree (.ref z)>>=_) _ _ _;refine bZ ?_;unfold Builtin.SmallTypes.ownedTupleIsFree;refine bZ (wpAny_field hz rfl (x:=.none) rfl (pZ ?_));simp only[if_true];refine bZ (wpAny_rule ?_);refine bZ (wpAny_field hz rfl (x:=.ref TO) rfl ?_);refine bZ (wpAny_setField_rec hz (by simp) λg₁ z₁ q₁=> ?_);replace z₁:IsZ g₁ z TI TO .ellipsis (.bool false):=z₁;have p₁:IsPair g₁ TO a b:=q₁.extBut _ _ D.TOz hTO;refine bZ ?_;simp only[List.zipIdx_cons,List.zipIdx_nil,forIn_cons,forIn_nil];refine bZ (bZ (wpAny_onRaise ?_));show wpAny _ _ (Builtin.SmallTypes.nextOf (.ref i1)>>=_) _ _ _;cases hx:xs[k1]? with
 |none=>
  refine bZ (FD hh (h1.extBut q₁.extBut D.i1z) (hl1.extBut q₁.extBut D.l1z) hx λg₂ e q₂ he=> ?_);obtain⟨oe,hoe,hce⟩:=he;have z₂:IsZ g₂ z TI TO .ellipsis (.bool false):=q₂ _ _ D.i1z.symm z₁;have hez:e≠z:=λx=>by subst x;rw[z₂]at hoe;cases hoe;simp at hce
  exact wpAny_setField_rec z₂ (by simp) λg₃ _ q₃=>hE g₃ e (λc o c1 _ c3 _ x=>q₃.extBut _ _ c1 (q₂ _ _ c3 (q₁.extBut _ _ c1 x))) ⟨oe,q₃.extBut _ _ hez hoe,hce⟩
 |some x=>
  have hy:ys[k2]? =none:=by rcases hend with h|h;rw[hx]at h;cases h;exact h
  refine bZ (S4 (h1.extBut q₁.extBut D.i1z) (hl1.extBut q₁.extBut D.l1z) hx λg₂ it₂ q₂=>pZ ?_);have p₂:IsPair g₂ TO a b:=q₂.extBut _ _ D.TOi1 p₁;refine bZ (wpAny_seqItems p₂ rfl (bZ (wpAny_updateSeq_pair p₂ λg₃ p₃ q₃=>bZ (wpAny_letGo (pZ ?_)))));have k₃:∀ {c o},c≠z->c≠i1->c≠TO->s.heap.get? c=some o->g₃.get? c=some o:=λc1 c2 c3 e=>q₃.extBut _ _ c3 (q₂.extBut _ _ c2 (q₁.extBut _ _ c1 e));refine bZ (bZ (wpAny_onRaise ?_));show wpAny _ _ (Builtin.SmallTypes.nextOf (.ref i2)>>=_) _ _ _;refine bZ (FD hh (h2.at λo e=>k₃ D.i2z D.i12.symm D.TOi2.symm e) (hl2.at λo e=>k₃ D.l2z D.l2i1 D.l2TO e) hy λg₄ e q₄ he=> ?_);obtain⟨oe,hoe,hce⟩:=he;have z₄:IsZ g₄ z TI TO .ellipsis (.bool false):=q₄ _ _ D.i2z.symm (q₃.extBut _ _ D.TOz.symm (q₂.extBut _ _ D.i1z.symm z₁));have hez:e≠z:=λx=>by subst x;rw[z₄]at hoe;cases hoe;simp at hce
  exact wpAny_setField_rec z₄ (by simp) λg₅ _ q₅=>hE g₅ e (λc o c1 c2 c3 c4 x=>q₅.extBut _ _ c1 (q₄ _ _ c4 (k₃ c1 c3 c2 x))) ⟨oe,q₅.extBut _ _ hez hoe,hce⟩
theorem pyNext_fresh0{t1 t2:Bool}{z TI TO i1 i2 l1 l2:Addr}{k1 k2:Nat}{xs ys:Array Value}{x y a b:Value}{Q:Option Value->Shared->Prop}(D:ZipApart z TI TO i1 i2 l1 l2)
  (hz:IsZ s.heap z TI TO .none (.bool false))(hTI:IsPair s.heap TI (.ref i1) (.ref i2))(hTO:IsPair s.heap TO a b)
  (h1:IsIt t1 s.heap i1 l1 k1)(h2:IsIt t2 s.heap i2 l2 k2)(hl1:IsSq t1 s.heap l1 xs)(hl2:IsSq t2 s.heap l2 ys)(hx:xs[k1]? =some x)(hy:ys[k2]? =some y)
  (hQ:∀h',IsZ h' z TI TO (rawInt s.heap.objs.size) (.bool false)->IsIt t1 h' i1 l1 (k1+1)->IsIt t2 h' i2 l2 (k2+1)->IsPair h' s.heap.objs.size x y->h'.objs.size=s.heap.objs.size+1->
   (∀c o,c≠z->c≠TO->c≠i1->c≠i2->s.heap.get? c=some o->h'.get? c=some o)->IsPair h' TO x y->Q (some (.ref s.heap.objs.size)) {s with heap:=h'}):
  wpAny (model prog w) A (pyNext (.ref z)) Q E s:=by
 have ty:s.TypeIs (.ref z) "zip":=⟨_,hz,rfl⟩;unfold pyNext;exact bZ (wpAny_attempt (wpAny_callSpecial?_slot (name:=Str.ofString "__next__") ty F.slot_zip_next
  (wpAny_call_entry F.slot_zip_next ty F.entry_zip_next (MR D hz hTI hTO h1 h2 hl1 hl2 hx hy λh' a1 a2 a3 a4 a5 a6 a7=>pZ (hQ h' a1 a2 a3 a4 a5 a6 a7)) (F.args_zip_next_1 _))))
theorem pyNext_fend{t1 t2:Bool}{z TI TO i1 i2 l1 l2:Addr}{k1 k2:Nat}{xs ys:Array Value}{a b:Value}{Q:Option Value->Shared->Prop}(hh:A.handled=none)(D:ZipApart z TI TO i1 i2 l1 l2)
  (hz:IsZ s.heap z TI TO .none (.bool false))(hTI:IsPair s.heap TI (.ref i1) (.ref i2))(hTO:IsPair s.heap TO a b)
  (h1:IsIt t1 s.heap i1 l1 k1)(h2:IsIt t2 s.heap i2 l2 k2)(hl1:IsSq t1 s.heap l1 xs)(hl2:IsSq t2 s.heap l2 ys)(hend:xs[k1]? =none\/ys[k2]? =none)
  (hQ:∀h',(∀c o,c≠z->c≠TO->c≠i1->c≠i2->s.heap.get? c=some o->h'.get? c=some o)->Q none {s with heap:=h'}):
  wpAny (model prog w) A (pyNext (.ref z)) Q E s:=by
 have ty:s.TypeIs (.ref z) "zip":=⟨_,hz,rfl⟩;unfold pyNext;refine bZ (wpAny_attempt (wpAny_callSpecial?_slot (name:=Str.ofString "__next__") ty F.slot_zip_next
  (wpAny_call_entry F.slot_zip_next ty F.entry_zip_next (UD hh D hz hTI hTO h1 h2 hl1 hl2 hend λh' e hk he=> ?_) (F.args_zip_next_1 _))))
 obtain⟨o,ho,hc⟩:=he;exact bZ (wpAny_isInstance (T:="StopIteration") (b:=true) ⟨o,ho,hc⟩ isSubtype_stop (pZ (hQ _ hk)))
end
noncomputable abbrev xh1(t1:Bool)(h:Heap)(l1:Addr):Heap:=h.push (itO t1 l1)
noncomputable abbrev xh2(t1 t2:Bool)(h:Heap)(l1 l2:Addr):Heap:=(xh1 t1 h l1).push (itO t2 l2)
noncomputable abbrev xh3(t1 t2:Bool)(h:Heap)(l1 l2:Addr):Heap:=(xh2 t1 t2 h l1 l2).push {cls:=.type "tuple",data:=.seq #[.ref h.objs.size,.ref (xh1 t1 h l1).objs.size]}
noncomputable abbrev xh4(t1 t2:Bool)(h:Heap)(l1 l2:Addr):Heap:=(xh3 t1 t2 h l1 l2).push {cls:=.type "tuple",data:=.seq #[.none,.none]}
noncomputable abbrev xh5(t1 t2:Bool)(h:Heap)(l1 l2:Addr):Heap:=(xh4 t1 t2 h l1 l2).push {cls:=.type "zip",data:=.fields #[.none,.bool false,.bool false,.ref (xh2 t1 t2 h l1 l2).objs.size,.ref (xh3 t1 t2 h l1 l2).objs.size]}
set_option maxHeartbeats 4000000 in
theorem PR(t1 t2:Bool)(l1 l2:Addr)(xs ys:Array Value):
  Meets (Builtin.«zip.__new__» ⟨[.type "zip",.ref l1,.ref l2],[]⟩) (λ_ R s=>IsSq t1 s.heap l1 xs/\IsSq t2 s.heap l2 ys/\
   R (.ok (.ret (.ref (xh4 t1 t2 s.heap l1 l2).objs.size))) {s with heap:=xh5 t1 t2 s.heap l1 l2}):=
 .of_wp λprog w A R s h=>by
  obtain⟨hp,g,d,tk,os⟩:=s;obtain⟨hl1,hl2,h⟩:=h;have hsub:=sub_zip;cases t1
  ·have hL1:Heap.IsList (Shared.heap ⟨hp,g,d,tk,os⟩) l1 xs:=hl1;cases t2
   ·have hL2:Heap.IsList (Shared.heap ⟨hp.push {cls:=.type "list_iterator",data:=.fields #[.ref l1,.int 0 0]},g,d,tk,os⟩) l2 ys:=Heap.IsList.push hl2 _
    wp_walk using wpAny_pyIter_list hL1,wpAny_pyIter_list hL2
    exact⟨_,rfl,h⟩
   ·have hL2:Heap.IsTuple (Shared.heap ⟨hp.push {cls:=.type "list_iterator",data:=.fields #[.ref l1,.int 0 0]},g,d,tk,os⟩) l2 ys:=Heap.IsTuple.push hl2 _
    wp_walk using wpAny_pyIter_list hL1,wpAny_pyIter_tuple hL2
    exact⟨_,rfl,h⟩
  ·have hL1:Heap.IsTuple (Shared.heap ⟨hp,g,d,tk,os⟩) l1 xs:=hl1;cases t2
   ·have hL2:Heap.IsList (Shared.heap ⟨hp.push {cls:=.type "tuple_iterator",data:=.fields #[.ref l1,.int 0 0]},g,d,tk,os⟩) l2 ys:=Heap.IsList.push hl2 _
    wp_walk using wpAny_pyIter_tuple hL1,wpAny_pyIter_list hL2
    exact⟨_,rfl,h⟩
   ·have hL2:Heap.IsTuple (Shared.heap ⟨hp.push {cls:=.type "tuple_iterator",data:=.fields #[.ref l1,.int 0 0]},g,d,tk,os⟩) l2 ys:=Heap.IsTuple.push hl2 _
    wp_walk using wpAny_pyIter_tuple hL1,wpAny_pyIter_tuple hL2
    exact⟨_,rfl,h⟩
theorem NH{t:Bool}{h:Heap}{i l:Addr}(e:h.get? i=some (itO t l)):IsIt t h i l 0:=by
 cases t
 ·exact⟨_,e,rfl,rfl⟩
 ·exact⟨_,e,rfl,rfl⟩
section
variable{prog:Program}{w:World}{A:Around}{E:Value->Shared->Prop}{s:Shared}
theorem call_zipX{t1 t2:Bool}{l1 l2:Addr}{xs ys:Array Value}{Q:Value->Shared->Prop}(hl1:IsSq t1 s.heap l1 xs)(hl2:IsSq t2 s.heap l2 ys)
  (h:∀h',IsZip h' (s.heap.objs.size+4) (s.heap.objs.size+2) (s.heap.objs.size+3) .none->IsPair h' (s.heap.objs.size+2) (.ref s.heap.objs.size) (.ref (s.heap.objs.size+1))->
   IsPair h' (s.heap.objs.size+3) .none .none->IsIt t1 h' s.heap.objs.size l1 0->IsIt t2 h' (s.heap.objs.size+1) l2 0->h'.objs.size=s.heap.objs.size+5->
   (∀c o,s.heap.get? c=some o->h'.get? c=some o)->Q (.ref (s.heap.objs.size+4)) {s with heap:=h'}):
  wpAny (model prog w) A (call (.type "zip") [.ref l1,.ref l2]) Q E s:=by
 refine callType_new F.called_zip (by decide) (F.typeCall_zip_2 _ _) (F.newCall_zip_2 _ _) (λobj=>F.args_object_init_3 obj _ _) F.entry_zip_new
  (PR t1 t2 l1 l2 xs ys) ⟨hl1,hl2, ?_⟩
 have z1:(xh1 t1 s.heap l1).objs.size=s.heap.objs.size+1:=Heap.size_push ..;have z2:(xh2 t1 t2 s.heap l1 l2).objs.size=s.heap.objs.size+2:=by rw[Heap.size_push,z1]
 have z3:(xh3 t1 t2 s.heap l1 l2).objs.size=s.heap.objs.size+3:=by rw[Heap.size_push,z2]
 have z4:(xh4 t1 t2 s.heap l1 l2).objs.size=s.heap.objs.size+4:=by rw[Heap.size_push,z3]
 have z5:(xh5 t1 t2 s.heap l1 l2).objs.size=s.heap.objs.size+5:=by rw[Heap.size_push,z4]
 have g5:(xh5 t1 t2 s.heap l1 l2).get? (xh4 t1 t2 s.heap l1 l2).objs.size=some _:=get?_push_size _ rfl;have g4:(xh5 t1 t2 s.heap l1 l2).get? (xh3 t1 t2 s.heap l1 l2).objs.size=some _:=gZ _ (get?_push_size _ rfl);have g3:(xh5 t1 t2 s.heap l1 l2).get? (xh2 t1 t2 s.heap l1 l2).objs.size=some _:=gZ _ (gZ _ (get?_push_size _ rfl));have g2:(xh5 t1 t2 s.heap l1 l2).get? (xh1 t1 s.heap l1).objs.size=some (itO t2 l2):=gZ _ (gZ _ (gZ _ (get?_push_size _ (by cases t2<;>rfl))));have g1:(xh5 t1 t2 s.heap l1 l2).get? s.heap.objs.size=some (itO t1 l1):=gZ _ (gZ _ (gZ _ (gZ _ (get?_push_size _ (by cases t1<;>rfl)))));show _/\_;rw[z2,z3,z4]at g5;rw[z1,z2]at g3;rw[z3]at g4;rw[z1]at g2;rw[z4];exact⟨⟨_,g5,rfl⟩,h _ g5 g3 g4 (NH g1) (NH g2) z5 λc o x=>
  gZ _ (gZ _ (gZ _ (gZ _ (gZ _ x))))⟩
end
end ZT
end PySem
namespace L2
open PySem PySem.Spec PyProof.Rows
theorem CY{t:Bool}{h:Heap}{l:Addr}{xs:Array Value}(x:ZT.IsSq t h l xs):l<h.objs.size:=by
 cases t
 ·obtain⟨o,e,_⟩:=(show h.IsList l xs from x);exact lt_size e
 ·obtain⟨o,e,_⟩:=(show h.IsTuple l xs from x);exact lt_size e
noncomputable def Izt(t1 t2:Bool)(K:FZ)(l1 l2:Addr):It:=
 ⟨λi H=>∃xs ys x y,SqX t1 K H l1 xs/\SqX t2 K H l2 ys/\xs[i]? =some x/\ys[i]? =some y,
  λi H v H'=>∃T x y,(∀xs ys,SqX t1 K H l1 xs->SqX t2 K H l2 ys->xs[i]? =some x/\ys[i]? =some y)/\H T=none/\v=.ref T/\H'=upd H T (.tup [x,y]),
  λi H=>∃xs ys,SqX t1 K H l1 xs/\SqX t2 K H l2 ys/\(xs.length<=i\/ys.length<=i)⟩
noncomputable def boZ(t1 t2:Bool)(z TI TO i1 i2 l1 l2:Addr)(i:Nat)(h:Heap):Prop:=IsZip h z TI TO .none/\IsPair h TI (.ref i1) (.ref i2)/\(∃a b,IsPair h TO a b)/\ZT.IsIt t1 h i1 l1 i/\ZT.IsIt t2 h i2 l2 i
theorem SQ{t1 t2:Bool}{P:Program}{w:World}{K:FZ}{elts:List Expr}{kt:Nat}{pt:Pos}{z TI TO i1 i2 l1 l2:Addr}(D:ZipApart z TI TO i1 i2 l1 l2):
  Turn P w K (.Tuple elts kt pt) (Izt t1 t2 K l1 l2) [z,TI,TO,i1,i2] z (boZ t1 t2 z TI TO i1 i2 l1 l2) where
 mem:=by simp
 obj:=λi h st b hb=>by
  obtain⟨hz,hTI,⟨a,b',hTO⟩,h1,h2⟩:=st;simp only[mem_cons,not_mem_nil,or_false]at hb;rcases hb with rfl|rfl|rfl|rfl|rfl
  ·exact⟨_,hz,λv q=>by cases q⟩
  ·exact⟨_,hTI,λv q=>by cases q⟩
  ·exact⟨_,hTO,λv q=>by cases q⟩
  ·exact NZ h1
  ·exact NZ h2
 keep:=λi h h' st k=>by
  obtain⟨hz,hTI,⟨a,b',hTO⟩,h1,h2⟩:=st;exact⟨k z (by simp) _ hz,k TI (by simp) _ hTI,⟨a,b',k TO (by simp) _ hTO⟩,h1.at λo e=>k i1 (by simp) o e,h2.at λo e=>k i2 (by simp) o e⟩
 item:=by
  intro X hP hw hK hc i pins s σ H E I hf st hg;subst hP hw hK;obtain⟨xs,ys,x,y,q1,q2,hx,hy⟩:=hg;obtain⟨hz,hTI,⟨a,b,hTO⟩,h1,h2⟩:=st;obtain⟨its,rv,p,hsz⟩:=I.sqx q1;obtain⟨its2,rv2,p2,hsz2⟩:=I.sqx q2;obtain⟨u,hu,ru⟩:=rv.get hx;obtain⟨u2,hu2,ru2⟩:=rv2.get hy;refine ZT.pyNext_fresh0 (t1:=t1) (t2:=t2) D hz hTI hTO h1 h2 p p2 (x:=u) (y:=u2) (by simpa using hu) (by simpa using hu2) λh' a1 a3 a4 a5 a6 hk a2=> ?_;have hT0:H s.heap.objs.size=none:=I.hok.fresh (Nat.le_refl _);have J1:Inv X pins σ (upd H s.heap.objs.size (.tup [x,y])) {s with heap:=s.heap.push {cls:=.type "tuple",data:=.seq #[u,u2]}}:=
   I.laid (t':=s.toks) (λb o e=>gZ _ e) (Nat.le_refl _) (show ObjOk X.prog X.w _ _ _ (.tup [x,y])from⟨(by show 2<=sizeLine;decide),[u,u2],.cons ru (.cons ru2 .nil),IsTup.new _ _⟩)
  have lt:∀b∈ [z,TI,TO,i1,i2],b≠s.heap.objs.size:=λb hb=>by
   simp only[mem_cons,not_mem_nil,or_false]at hb;rcases hb with rfl|rfl|rfl|rfl|rfl
   ·exact ne_of_lt (lt_size hz)
   ·exact ne_of_lt (lt_size hTI)
   ·exact ne_of_lt (lt_size hTO)
   ·obtain⟨o,e⟩:=h1.live;exact ne_of_lt (lt_size e)
   ·obtain⟨o,e⟩:=h2.live;exact ne_of_lt (lt_size e)
  have hf2:∀b∈ [z,TI,TO,i1,i2],JJ X pins (upd H s.heap.objs.size (.tup [x,y])) b:=λb hb=>⟨by rw[C4 (lt b hb)];exact(hf b hb).1,(hf b hb).2⟩;have J2:Inv X pins σ (upd H s.heap.objs.size (.tup [x,y])) {s with heap:=h'}:=Inv.turnedL (s:={s with heap:=s.heap.push {cls:=.type "tuple",data:=.seq #[u,u2]}}) (t':=s.toks) (h':=h') (ch:=[z,TI,TO,i1,i2]) J1 (λb o hb e=>by
   rcases Heap.get?_push_cases e with⟨rfl,rfl⟩|e'
   ·exact a5
   ·simp only[mem_cons,not_mem_nil,or_false,not_or]at hb;exact hk b o hb.1 hb.2.2.1 hb.2.2.2.1 hb.2.2.2.2 e') hf2
  refine⟨.ref s.heap.objs.size,rfl, ?_⟩;refine wpAny_letOwnedTupleGo_zip (s:={s with heap:=h'}) a1 λh2' hz' hs'=> ?_;obtain⟨g0,g1,g2,g3,g4,g5⟩:=hf2 z (by simp);refine⟨.ref s.heap.objs.size,_,J2.turned (t':=s.toks) (λb o hb e=>(hs'.2 b hb).trans e) g0 g1 g3 g4 g5,rfl,⟨s.heap.objs.size,x,y,λxs' ys' e1 e2=> ?_,hT0,rfl,rfl⟩, ?_,λb hb=>(hf2 b hb).1⟩
  ·rw[I.sqx_inj e1 q1,I.sqx_inj e2 q2];exact⟨hx,hy⟩
  ·exact⟨hz',hs'.extBut _ _ D.TIz (hk _ _ D.TIz D.TITO D.TIi1 D.TIi2 hTI),⟨_,_,hs'.extBut _ _ D.TOz a2⟩,a3.extBut hs'.extBut D.i1z,a4.extBut hs'.extBut D.i2z⟩
 done:=by
  intro X hP hw hK hc i pins s σ H E I hf st hg;subst hP hw hK;obtain⟨xs,ys,q1,q2,hend⟩:=hg;obtain⟨hz,hTI,⟨a,b,hTO⟩,h1,h2⟩:=st;obtain⟨its,rv,p,hsz⟩:=I.sqx q1;obtain⟨its2,rv2,p2,hsz2⟩:=I.sqx q2;have l1e:=rv.length;have l2e:=rv2.length;refine ZT.pyNext_fend (t1:=t1) (t2:=t2) (I.ok.hd hc) D hz hTI hTO h1 h2 p p2 (by
   rcases hend with h|h
   ·exact .inl (by simp;omega)
   ·exact .inr (by simp;omega)) λh' hk=>⟨rfl,I.turnedL (t':=s.toks) (ch:=[z,TI,TO,i1,i2]) (λb o hb e=> ?_) hf⟩
  simp only[mem_cons,not_mem_nil,or_false,not_or]at hb;exact hk b o hb.1 hb.2.2.1 hb.2.2.2.1 hb.2.2.2.2 e
 self:=λ_ _ _ _ _ st h=>wpAny_pyIter_zip st.1 h
section
variable{X:Cx}{K:FZ}{elts:List Expr}{kt:Nat}{pt:Pos}
noncomputable def cBZ(t1 t2:Bool)(K:FZ)(ta:TA):TI:=fun σ H R=>ta σ H λvs H1=>∃a b xs ys,vs=[.ref a,.ref b]/\SqX t1 K H1 a xs/\SqX t2 K H1 b ys/\R (Izt t1 t2 K a b) H1
theorem ZQ(t1 t2:Bool){a b:Expr}{ta:TA}{p pos:Pos}(hg:Gl X "zip")(hm:X.mg "zip"=none)(ha:PA X [a,b] ta)(hK:X.K=K:=by rfl)(hs:starEach [a,b] X.env=[(false,eval a X.env),(false,eval b X.env)]:=by rfl)(hs2:starEach [b] X.env=[(false,eval b X.env)]:=by rfl):
  PI X (.Tuple elts kt pt) (.Call (.Name "zip" p) [a,b] [] pos) (cBZ t1 t2 K ta):=by
 subst hK;intro pins s σ H R I h;refine Call_ (T5 I hg hm OV (callWith_type1 (thn (ha pos pins s σ H _ I h) λus s1 ⟨vs,H1,I1,r1,q1⟩=> ?_) (by rw[hs,hs2]) (by rw[hs2];rfl)));obtain⟨l1,l2,xs,ys,e,q1,q2,q⟩:=q1;subst e;cases r1 with
 |cons r rr=>
  cases rr with
  |cons r' rr=>
   cases rr;cases r;cases r';obtain⟨its,rv,pl,hz⟩:=I1.sqx q1;obtain⟨its2,rv2,pl2,hz2⟩:=I1.sqx q2;have lt1:l1<s1.heap.objs.size:=CY pl;have lt2:l2<s1.heap.objs.size:=CY pl2;refine ZT.call_zipX pl pl2 λh' a1 a2 a3 a4 a5 a6 hk=> ?_;refine wpAny_pyIter_zip a1 ?_;refine⟨s1.heap.objs.size+4,[s1.heap.objs.size+4,s1.heap.objs.size+2,s1.heap.objs.size+3,s1.heap.objs.size,s1.heap.objs.size+1],_,_,H1,rfl,I1.kept (t':=s1.toks) hk,SQ (t1:=t1) (t2:=t2) (zipApart_new lt1 lt2),⟨a1,a2,⟨_,_,a3⟩,a4,a5⟩,λb hb=> ?_,q⟩;have hle:s1.heap.objs.size<=b:=by
    simp only[mem_cons,not_mem_nil,or_false]at hb;rcases hb with rfl|rfl|rfl|rfl|rfl
    ·exact le_add_right _ _
    ·exact le_add_right _ _
    ·exact le_add_right _ _
    ·exact Nat.le_refl _
    ·exact le_add_right _ _
   exact I1.fpOk hle (I1.hok.fresh hle)
end
theorem LJ{X:Cx}:W4 X (.type "dict") (λxs H Q=>∃d kvs,xs=[V.ref d]/\Rd H d (.dK kvs)/\∀p,H p=none->Q (.ref p) (upd H p (.dK kvs))):=λpins s σ H xs us Q I r h=>by
 obtain⟨d,kvs,rfl,hd,q⟩:=h;obtain⟨u,rfl,ru⟩:=BR r;cases ru;exact XF I hd λp s' hp I2=>⟨.ref p,_,I2,rfl,q p hp⟩
end L2
namespace PySem
open Sem (wp)
end PySem
namespace L2
open PySem PySem.Spec PyProof.Rows
structure Fl (l:List Env) (g:Heap) (H:Hp) (h h':Heap):Prop where
 keep:∀b o,h.get? b=some o->b∉frs l->(g.get? b≠none\/H b≠none)->h'.get? b=some o
 slot:∀b o,h.get? b=some o->b∈frs l->∃sl,h'.get? b=some {o with slots:=sl}
section
variable{M:Model}{A:Around}{E:Value->Shared->Prop}{s:Shared}{base:Heap}{env:Env}{outer l:List Env}{L a:Addr}{C fl:Value}{g:Heap}{H:Hp}{Q:Unit->Shared->Prop}
end
section
variable{P:Program}{w:World}{K:FZ}{mg:Str->Option Value}{base:Heap}{N:List Str}{qual:Str}{scope:Scope}{f:Addr}{cd:Value}{A:Around}{outer:List Env}{s:Shared}{H:Hp}{E:XK}
variable{X:Cx}
variable{k:Nat}{g:Addr}{fd:FuncData}{ps:List Str}{sp:Heap->Sp}{x:Str}{p pos:Pos}{e:Expr}{es:List Expr}{t:TA}{name:Str}{params:Arguments}{body:Expr}{clos:List (Str×Addr)}{pm:Value}{fs:List Str}{js:List Nat}
variable{cl:List (Str×Addr)}
variable{pins:List (Addr×Obj)}{σ:St}
end
theorem ixT{K:FZ}{w:World}{H:Hp}{Q:VK}{a:Addr}{xs:List V}{i:Int}{v:V}(h:H a=some (.tup xs))(e:atI xs i=some v)(q:Q v H):rIxL K (.ref a) (.int i) H Q\/rIxT K (.ref a) (.int i) H Q\/rIxS (.ref a) (.int i) H Q\/rIxTop w K (.ref a) (.int i) H Q:=.inr (.inl ⟨a,xs,i,v,rfl,rfl,SqT.of h,e,q⟩)
theorem ixL{K:FZ}{w:World}{H:Hp}{Q:VK}{a:Addr}{xs:List V}{i:Int}{v:V}(h:H a=some (.lst xs))(e:atI xs i=some v)(q:Q v H):rIxL K (.ref a) (.int i) H Q\/rIxT K (.ref a) (.int i) H Q\/rIxS (.ref a) (.int i) H Q\/rIxTop w K (.ref a) (.int i) H Q:=.inl ⟨a,xs,i,v,rfl,rfl,SqL.of h,e,q⟩
theorem fS{N P:List Str}{sc:Scope}(a:sc.kind=.function:=by rfl)(b:sc.isCoroutine=false:=by rfl)(c:sc.isGenerator=false:=by rfl)(d:N.Nodup:=by decide +kernel)(e:N.take P.length=P:=by rfl)(f:∀x∈P,sc.names.lookup x=some .local\/sc.names.lookup x=some .cell:=by decide +kernel)(g:∀y∈sc.names,y.2≠ .free:=by decide +kernel):FnScope N P sc:=⟨a,b,c,d,e,f,g⟩
theorem cS{N:List Str}{sc scope:Scope}{x:Str}{caps:List Nat}{ns:List Str}(a:∀y∈scope.names,y.2≠ .cell:=by decide +kernel)(b:scope.kind=.function:=by rfl)(c:∀y∈scope.names,y.2=.local->scope.names.lookup y.1=some .local:=by decide +kernel)(d:scope.names.lookup x=some .local:=by rfl)(e:∀y∈scope.names,y.2=.free->sc.names.lookup y.1=some .cell\/sc.names.lookup y.1=some .free:=by decide +kernel)(f:caps.map (λj=>N[j]?)=ns.map some:=by rfl)(g:∀y∈ns,scope.names.lookup y=some .free:=by decide +kernel)(h:(x::ns).Nodup:=by decide +kernel):CompScope N sc scope x caps ns:=⟨a,b,c,d,e,f,g,h⟩
section
variable{X:Cx}{a b:Expr}{ta tb:TE}{pos:Pos}
theorem ixE(K:FZ)(w:World)(ha:PE X a ta)(hb:PE X b tb)(hs:RK b:=by exact λ_ _=>rfl)(hK:X.K=K:=by rfl)(hw:X.w=w:=by rfl):PE X (.Subscript a b pos) (tOp (λx y H Q=>rIxL K x y H Q\/rIxT K x y H Q\/rIxS x y H Q\/rIxTop w K x y H Q) ta tb):=DG (kIx hK hw) ha hb hs
end
noncomputable def Cn(P:Program)(w:World)(K:FZ)(mg:Str->Option Value)(base:Heap)(CX:CXT)(n:Nat)(x:Str)(ps:List Str)(sp:Sp):Prop:=∃f d,FnOk P w K mg base CX n f d ps sp/\Binds K d ps []/\kZ K (.ref f)=true/\mg x=some (.ref f)
end L2
noncomputable abbrev q1L:List PySem.Str:=["_law_cell_here","_law_name_here"]
noncomputable abbrev q3L:List PySem.Str:=["_law_cell_here","_law_names_here","_law_own_here","_law_other"]
noncomputable abbrev q5L:List PySem.Str:=["_law_cell_here"]
noncomputable abbrev W7:List PySem.Str:=["_law_cells","_law_spot","_law_kind_here","_law_names_here","_law_funs","_law_depth"]
noncomputable abbrev JK:List PySem.Str:=["_law_cells","_law_spot","_law_kind_here","_law_names_here"]
noncomputable abbrev NP:List PySem.Str:=["_law_cells","_law_spot","_law_kinds","_law_names_here","_law_funs","_law_depth"]
noncomputable abbrev ET:List PySem.Str:=["_law_cells","_law_spot"]
noncomputable abbrev QC:List PySem.Str:=["_law_found","_law_due"]
noncomputable abbrev bGZ:List PySem.Str:=["_law_k","_law_shift"]
noncomputable abbrev BB:List PySem.Str:=["_law_names_here","_law_name_here","_law_kind_here"]
noncomputable abbrev IN:List PySem.Str:=["_law_script","_law_k"]
noncomputable abbrev bzZ:List PySem.Str:=["_law_script","_law_most"]
noncomputable abbrev ZO:List PySem.Str:=["_law_script","_law_names_here"]
noncomputable abbrev LH:List PySem.Str:=["_law_script","_law_one_here","_law_names_here","_law_spot","_law_known","_law_funs"]
noncomputable abbrev EV:List PySem.Str:=["_law_shift"]
noncomputable abbrev SW:List PySem.Str:=["_law_sign","_law_a","_law_b"]
noncomputable abbrev CD:List PySem.Str:=["_law_term","_law_bound","_law_funs","_law_count"]
noncomputable abbrev UJ:List PySem.Str:=["_law_term","_law_values_here","_law_bound","_law_funs","_law_count"]
noncomputable abbrev SR:List PySem.Str:=["_law_terms","_law_bound","_law_funs","_law_count"]
noncomputable abbrev UY:List PySem.Str:=["_law_word","_law_a"]
noncomputable abbrev aoZ:List PySem.Str:=["body","bound","rest","most"]
noncomputable abbrev bDZ:List PySem.Str:=["fn","value","rest","most"]
noncomputable abbrev b6Z:List PySem.Str:=["focus","waits","rest"]
noncomputable abbrev brZ:List PySem.Str:=["name","bound"]
noncomputable abbrev ZP:List PySem.Str:=["names","values"]
noncomputable abbrev atZ:List PySem.Str:=["program","name","values","rest","most"]
noncomputable abbrev aaZ:List PySem.Str:=["program","name"]
noncomputable abbrev cnZ:List PySem.Str:=["program","numbers","most"]
noncomputable abbrev coZ:List PySem.Str:=["program","numbers"]
noncomputable abbrev MQ:List PySem.Str:=["program","state","most"]
noncomputable abbrev b0Z:List PySem.Str:=["root","parts_in","made"]
noncomputable abbrev UF:List PySem.Str:=["sign","a","b"]
noncomputable abbrev TX:List PySem.Str:=["term","bound"]
noncomputable abbrev chZ:List PySem.Str:=["top","value","rest"]
noncomputable abbrev bKZ:List PySem.Str:=["top","value"]
noncomputable abbrev bTZ:List PySem.Str:=["value","items"]
noncomputable abbrev JH:List PySem.Str:=["value"]
namespace TM
open PySem PyProof.Rows
section
variable{prog:Program}{w:World}{A:Around}{E:Value->Shared->Prop}{s:Shared}
end
end TM
namespace L2
open PySem PySem.Spec PyProof.Rows
section
variable{X:Cx}{K:FZ}
end
end L2
namespace L2
open PySem PyProof.Rows
section
variable{X:Cx}
end
end L2
namespace L2
open PySem PySem.Spec PyProof.Rows
section
variable{X:Cx}{K:FZ}
theorem KR{as:List Str}:(as.map V.str).all DJ=true:=by
 rw[all_eq_true];intro x hx;obtain⟨s,_,rfl⟩:=mem_map.mp hx;rfl
end
end L2
namespace L2
open PySem PySem.Spec PyProof PyProof.Rows
section
variable{prog:Program}{w:World}{A:Around}{E:Value->Shared->Prop}
variable{X:Cx}{pos:Pos}
end
end L2
namespace L2
open PySem PySem.Spec PyProof.Rows
section
variable{X:Cx}{K:FZ}
end
theorem Room.u1{k:Nat}{A:Around}(hr:Room k A):A.units+1<cLine:=lt_of_le_of_lt (Nat.add_le_add_left (by decide:1<=64) _) hr.units
section
variable{X:Cx}{k j:Nat}{ps:List Str}{sp:Sp}{x m:Str}{p pos apos:Pos}{e o:Expr}{es:List Expr}{ta te:TE}{t:TA}{f C:Addr}{fd:FuncData}
theorem cC(c:Cn X.prog X.w X.K X.mg X.base CX0 k x ps sp)(hr:Room j X.A)(ha:PA X (e::es) t)(hk:k<=j:=by omega)(hg:Gl X x:=by exact rfl)
  (hdb:(x==("__debug__":Str))=false:=by decide)(he:starEach (e::es) X.env=(false,eval e X.env)::starEach es X.env:=by rfl)(hpl:(backTo pos (starEach es X.env)).any (·.1)=false:=by rfl):
  PE X (.Call (.Name x p) (e::es) [] pos) (WW sp [] E0 t):=by
 obtain⟨f,d,F,hb,hk',hm⟩:=c;exact C0 F (hr.mono hk) hg hm hk' hb .nil D8 ha hdb he hpl
theorem mC{pl:Sem Bool}(he:PE X o ta)(c:Cls X.K C)(hm:Meth X.K C m f)(F:FnOk X.prog X.w X.K X.mg X.base CX0 k f fd ps sp)(hr:Room j X.A)(hb:Binds X.K fd ps [])(ha:PA X (e::es) t)(hk:k<=j:=by omega)
  (hst:starEach (e::es) X.env=(false,eval e X.env)::starEach es X.env:=by rfl)(hpl:(backTo pos (starEach es X.env)).any (·.1)=false:=by rfl)
  (ht:eval (.Call (.Attribute o m apos) (e::es) [] pos) X.env=(do
   let ov<-eval o X.env
   standAt apos.atName
   let(f,first)<-holding [ov] (getMethod ov m pl)
   callWith pos f first (backTo pos (starEach (e::es) X.env)) (backToKw pos (keywordEach [] X.env))):=by rfl):
  PE X (.Call (.Attribute o m apos) (e::es) [] pos) (RO C m sp [] E0 ta t):=azZ (pl:=pl) he c hm F (hr.mono hk) hb .nil D8 ha hst hpl ht
theorem mN{pl:Sem Bool}(he:PE X o ta)(c:Cls X.K C)(hm:Meth X.K C m f)(F:FnOk X.prog X.w X.K X.mg X.base CX0 k f fd ps sp)(hr:Room j X.A)(hb:Binds X.K fd ps [])(hk:k<=j:=by omega)
  (ht:eval (.Call (.Attribute o m apos) [] [] pos) X.env=(do
   let ov<-eval o X.env
   standAt apos.atName
   let(f,first)<-holding [ov] (getMethod ov m pl)
   callWith pos f first (backTo pos (starEach [] X.env)) (backToKw pos (keywordEach [] X.env))):=by rfl):
  PE X (.Call (.Attribute o m apos) [] [] pos) (RO C m sp [] E0 ta OU):=XX (pl:=pl) he c hm F (hr.mono hk) hb .nil D8 ht
theorem sS{pos':Pos}(i:Nat)(hN:X.N.Nodup)(he:PE X e te)(hi:X.N[i]? =some x:=by exact rfl)(hx:Loc X.env.scope x:=by exact Or.inl rfl)(hs:swapsWith e (some (.Name x pos')) pos.line X.env=pure false:=by rfl)(hf:X.fn x=true\/X.env.scope.names.lookup x=some .local:=by first|exact .inl rfl|exact .inr rfl|assumption):
  PS X (.Assign [.Name x pos'] e pos) (YI te (GP i)):=CO hN hi hx he hs hf
theorem gN(i:Nat)(hN:X.N.Nodup)(hi:X.N[i]? =some x:=by exact rfl)(hx:Loc X.env.scope x:=by exact Or.inl rfl)(hf:X.fn x=true\/X.env.scope.names.lookup x=some .local:=by first|exact .inl rfl|exact .inr rfl|assumption):PG X (.Name x pos) (GP i):=LU hN hi hx hf
theorem kL(K:FZ)(hm:X.mg "len"=none)(hx:PE X e te)(hK:X.K=K:=by rfl)(hg:Gl X "len":=by exact rfl)
  (he:starEach [e] X.env=(false,eval e X.env)::starEach [] X.env:=by rfl)(hpl:(backTo pos (starEach [] X.env)).any (·.1)=false:=by rfl):PE X (.Call (.Name "len" p) [e] [] pos) (tCB (rLen K) (W3 te OU)):=O0 (c2Z hK) hg hm WO (A0 hx A4 he) (by decide) (by decide) he hpl
variable{cpos cp:Pos}{td:TE}
theorem aP(K:FZ)(ho:PE X o td)(he:PE X e te)(hK:X.K=K:=by rfl)
  (hbase:attributeBase o "append" X.env (eval o X.env)=eval o X.env:=by rfl)
  (hfew:((backTo cpos (starEach [e] X.env)).all (λx=> !x.1)&&(backToKw cpos (keywordEach [] X.env)).all (λx=>x.1.isSome)
   &&decide ([e].length+([]:List Keyword).length+(if([]:List Keyword).isEmpty then 0 else 1)<30))=true:=by rfl)
  (hline:(apos.endLine==cpos.line)=true:=by rfl)(hs:starEach [e] X.env=(false,eval e X.env)::starEach [] X.env:=by rfl)(hplain:(backTo cpos (starEach [] X.env)).any (·.1)=false:=by rfl):
  PE X (.Call (.Attribute o "append" apos) [e] [] cpos) (tBM K "list" rAppend td (W3 te OU)):=
 acZ PySem.F.plainAttrs_list PySem.F.slot_list_append PySem.F.type_list_append TV ho (A0 he A4 hs) hK hbase hfew hline hs hplain
theorem dS(hr:Room k X.A)(ho:PE X o td):PE X (.Subscript o (.Constant (.str x) j cp) pos) (a3Z td (tC (.str x))):=HJ hr.u1 ho A7 (λ_ _=>rfl)
end
theorem Fun.om{P:Program}{w:World}{K:FZ}{mg:Str->Option Value}{base:Heap}{x qual:Str}{st:Stmt}{f:Addr}{fd:FuncData}{N ps:List Str}{k:Nat}{sp:Sp}(F:Fun K x qual st f fd)(S:FnScope N ps (B3 st))
  (hbody:∀(cdv:Value) (A:Around) (outer:List Env) (s:Shared) (H:Hp) (vs:List V) (Q:VK) (E:XK),Room k (A.deeper (envOfC qual (B3 st) s.heap.objs.size f cdv))->sp vs H Q E->
   ∃t,PSs (PP CX0 P w K mg base N qual (B3 st) f cdv A outer s H E).nox (K4 st) t/\t {nx:=λ_ H'=>Q .non H',rt:=Q} (start N vs) H)
  (len:∀vs H Q E,sp vs H Q E->vs.length=ps.length:=by intro _ _ _ _ h;cases h;subst_vars;rfl):FnOk P w K mg base CX0 (k+1) f fd ps sp:=F.ok S len hbody
section
variable{X:Cx}{K:FZ}
variable{c:Expr}{pos:Pos}{a b:List Stmt}{tc:TT}{ta tb:TSX}
end
end L2
namespace L2
open PySem PySem.Spec PyProof.Rows PySem.Builtin PySem.Builtin.Str
section
variable{X:Cx}
end
end L2
namespace L2
open PySem PySem.Spec PyProof.Rows
section
variable{X:Cx}
end
end L2
namespace PySem
open Sem(wp)
open PyProof.Rows
namespace ZT
section
variable{prog:Program}{w:World}{A:Around}{R:Result->Shared->Prop}{s:Shared}{N l1 l2:Nat}{h:Heap}{res:Value}
variable{E:Value->Shared->Prop}{Q:Value->Shared->Prop}
end
end ZT
end PySem
namespace L2
open PySem PySem.Spec PyProof.Rows
section
variable{X:Cx}{K:FZ}
end
end L2
namespace PySem
open Sem(wp)
open PyProof.Rows
namespace F
end F
section
variable{prog:Program}{w:World}{A:Around}{E:Value->Shared->Prop}{s:Shared}
end
end PySem
namespace L2
open PySem PySem.Spec PyProof.Rows
section
variable{X:Cx}{K:FZ}
end
end L2
namespace PySem
open Sem(wp)
open PyProof.Rows
namespace ZT
section
variable{prog:Program}{w:World}{A:Around}{E:Value->Shared->Prop}{s:Shared}
end
end ZT
end PySem
namespace L2
open PySem PySem.Spec PyProof.Rows
section
variable{X:Cx}{K:FZ}{elts:List Expr}{kt:Nat}{pt:Pos}
end
end L2
namespace PySem
open Sem(wp)
open PyProof.Rows
namespace SeqAt
end SeqAt
end PySem
namespace L2
open PySem PySem.Spec PyProof.Rows
section
variable{X:Cx}{K:FZ}
end
end L2
namespace PySem
open Sem(wp)
open PyProof.Rows
namespace ZT
structure Zg(t1 t2:Bool)(N l1 l2:Nat)(h:Heap)(i:Nat):Prop where
 z:(i=0/\IsZ h (N+4) (N+2) (N+3) .none (.bool false))\/(∃(T:Addr) (b:Bool),IsZ h (N+4) (N+2) (N+3) (rawInt T) (.bool b)/\(∃o,h.get? T=some o)/\N+5<T)
 ti:IsPair h (N+2) (.ref N) (.ref (N+1))
 to:∃a b,IsPair h (N+3) a b
 i1:IsIt t1 h N l1 i
 i2:IsIt t2 h (N+1) l2 i
theorem Zg.at{t1 t2:Bool}{N l1 l2:Nat}{h h':Heap}{i:Nat}(x:Zg t1 t2 N l1 l2 h i)(k:∀c o,c≠N+5->h.get? c=some o->h'.get? c=some o):Zg t1 t2 N l1 l2 h' i:=by
 obtain⟨z,ti,⟨a,b,to⟩,i1,i2⟩:=x;refine⟨?_,k _ _ (by omega) ti,⟨a,b,k _ _ (by omega) to⟩,i1.at λo e=>k _ o (by omega) e,i2.at λo e=>k _ o (by omega) e⟩;rcases z with⟨rfl,z⟩|⟨T,b,z,⟨o,ho⟩,hT⟩
 ·exact .inl ⟨rfl,k _ _ (by omega) z⟩
 ·exact .inr ⟨T,b,k _ _ (by omega) z,⟨o,k _ _ (by omega) ho⟩,hT⟩
theorem next_g{prog:Program}{w:World}{A:Around}{E:Value->Shared->Prop}{s:Shared}{t1 t2:Bool}{N l1 l2 i:Nat}{xs ys:Array Value}{x y:Value}{Q:Option Value->Shared->Prop}(a1:l1<N)(a2:l2<N)(hs:N+5<s.heap.objs.size)
  (hZ:Zg t1 t2 N l1 l2 s.heap i)(hl1:IsSq t1 s.heap l1 xs)(hl2:IsSq t2 s.heap l2 ys)(hx:xs[i]? =some x)(hy:ys[i]? =some y)
  (hQ:∀h',Zg t1 t2 N l1 l2 h' (i+1)->IsPair h' s.heap.objs.size x y->h'.objs.size=s.heap.objs.size+1->(∀c o,c<N\/N+5<=c->s.heap.get? c=some o->h'.get? c=some o)->Q (some (.ref s.heap.objs.size)) {s with heap:=h'}):
  wpAny (model prog w) A (pyNext (.ref (N+4))) Q E s:=by
 have D:ZipApart (N+4) (N+2) (N+3) N (N+1) l1 l2:=zipApart_new a1 a2;obtain⟨hz,hti,⟨a,b,hto⟩,h1,h2⟩:=hZ;rcases hz with⟨rfl,hz⟩|⟨T,b',hz,hT,hTN⟩
 ·refine MO D hz hti hto h1 h2 hl1 hl2 hx hy λh' b' c1 c2 c3 c4 c5 ck c6=>hQ h' ⟨.inr ⟨_,b',c1,⟨_,c4⟩,hs⟩,ck _ _ (nn (by omega)) (nn (by omega)) (nn (by omega)) (nn (by omega)) hti,⟨_,_,c6⟩,c2,c3⟩ c4 c5 λc o hc e=>ck c o (nn (by omega)) (nn (by omega)) (nn (by omega)) (nn (by omega)) e
 ·refine MT D hz hT hti h1 h2 hl1 hl2 hx hy λh' c1 c2 c3 c4 c5 ck=>hQ h' ⟨.inr ⟨T,true,c1, ?_,hTN⟩,ck _ _ (nn (by omega)) (nn (by omega)) (nn (by omega)) hti,⟨a,b,ck _ _ (nn (by omega)) (nn (by omega)) (nn (by omega)) hto⟩,c2,c3⟩ c4 c5 λc o hc e=>ck c o (nn (by omega)) (nn (by omega)) (nn (by omega)) e;obtain⟨o,ho⟩:=hT;exact⟨o,ck _ _ (nn (by omega)) (nn (by omega)) (nn (by omega)) ho⟩
section
variable{prog:Program}{w:World}{A:Around}{R:Result->Shared->Prop}{s:Shared}
theorem cfZ{t1 t2:Bool}{N l1 l2:Nat}{h0:Heap}{xs ys:Array Value}{res:Value}(hh:A.handled=none)(a1:l1<N)(a2:l2<N)(b1:IsSq t1 h0 l1 xs)(b2:IsSq t2 h0 l2 ys)(hn:min xs.size ys.size<=sizeLine):
  ∀(k i:Nat) (h:Heap) (acc:Array Value) (c:Nat),min xs.size ys.size - i=k->i<=min xs.size ys.size->Had N h0 h xs ys i acc c->Zg t1 t2 N l1 l2 h i->
   (∀h' acc' c',Had N h0 h' xs ys (min xs.size ys.size) acc' c'->R (.ok (.ret res)) {s with heap:=h'})->
   codeAny (model prog w) A (.builtin "list.extend.loop" ⟨[.ref (N+5),.ref (N+4),res],[]⟩) R {s with heap:=h}:=by
 have D:ZipApart (N+4) (N+2) (N+3) N (N+1) l1 l2:=zipApart_new a1 a2;intro k;induction k with
 |zero=>
  intro i h acc c hk hi hH hZ hR;have hin:i=min xs.size ys.size:=by omega
  subst hin;refine codeAny_builtin F.entry_extend_loop ?_;rw[Around.under_plainId F.plain_extend_loop _];show wpAny _ A.in1 (pyNext (.ref (N+4))>>=_) _ _ _;have hend:xs[min xs.size ys.size]? =none\/ys[min xs.size ys.size]? =none:=by
   rcases Nat.le_total xs.size ys.size with h|h
   ·exact .inl (by rw[min_eq_left h];exact Array.getElem?_eq_none (Nat.le_refl _))
   ·exact .inr (by rw[min_eq_right h];exact Array.getElem?_eq_none (Nat.le_refl _))
  have fin:∀h',(∀a o,a<N\/N+5<=a->h.get? a=some o->h'.get? a=some o)->R (.ok (.ret res)) {s with heap:=h'}:=λh' keep=>by
   refine hR h' acc c ⟨λa o ha e=>keep a o (.inl ha) (hH.old a o ha e),keep _ _ (.inr (Nat.le_refl _)) hH.lst,hH.len,λj x y hj hx hy=> ?_⟩;obtain⟨p,e1,e2,e3⟩:=hH.prs j x y hj hx hy;exact⟨p,e1,keep _ _ (.inr (by omega)) e2,e3⟩
  have B1:=b1.at λo e=>hH.old _ o a1 e;have B2:=b2.at λo e=>hH.old _ o a2 e;obtain⟨z,ti,⟨a,b,to⟩,i1,i2⟩:=hZ;rcases z with⟨_,hz⟩|⟨T,b',hz,hT,_⟩
  ·exact bZ (pyNext_fend (s:={s with heap:=h}) hh D hz ti to i1 i2 B1 B2 hend λh' hk'=>pZ (fin h' λc o hc e=>hk' c o (nn (by omega)) (nn (by omega)) (nn (by omega)) (nn (by omega)) e))
  ·exact bZ (pyNext_end (s:={s with heap:=h}) hh D hz hT ti i1 i2 B1 B2 hend λh' hk'=>pZ (fin h' λc o hc e=>hk' c o (nn (by omega)) (nn (by omega)) (nn (by omega)) e))
 |succ k ih=>
  intro i h acc c hk hi hH hZ hR;have hlt:i<min xs.size ys.size:=by omega
  have hx:xs[i]? =some (xs[i]'(by omega)):=Array.getElem?_eq_getElem (by omega);have hy:ys[i]? =some (ys[i]'(by omega)):=Array.getElem?_eq_getElem (by omega);have hs:N+5<h.objs.size:=lt_size hH.lst;refine codeAny_builtin F.entry_extend_loop ?_;rw[Around.under_plainId F.plain_extend_loop _];show wpAny _ A.in1 (pyNext (.ref (N+4))>>=_) _ _ _;refine bZ (next_g (s:={s with heap:=h}) a1 a2 hs hZ (b1.at λo e=>hH.old _ o a1 e) (b2.at λo e=>hH.old _ o a2 e) hx hy λh' hZ' hp' hs' hk'=> ?_);have hS':=hk' _ _ (.inr (Nat.le_refl _)) hH.lst;show wpAny _ A.in1 (updateSeq (N+5) (·.push (.ref h.objs.size))>>=_) _ _ _;refine bZ ?_;have up:∀a o,a≠N+5->h'.get? a=some o->(h'.update (N+5) (Obj.mapSeq (·.push (.ref h.objs.size)))).get? a=some o:=λa o ha e=>(get?_update_other _ _ (nn (Ne.symm ha))).trans e;refine wpAny_updateSeq hS' rfl (pZ ⟨plainId_quiet F.plain_extend_loop _,ih (i+1) (h'.update (N+5) (Obj.mapSeq (·.push (.ref h.objs.size)))) (acc.push (.ref h.objs.size)) _ (by omega) hlt ⟨λa o ha e=> ?_,get?_update_self _ hS' rfl,by rw[Array.size_push,hH.len],λj x y hj hxj hyj=> ?_⟩ (hZ'.at up) hR⟩)
   (by rw[hH.len];omega) (by show(acc.push _).size<=sizeLine+1;rw[Array.size_push,hH.len];omega)
  ·exact up _ _ (by omega) (hk' a o (.inl ha) (hH.old a o ha e))
  ·by_cases e:j=i
   ·subst e;rw[hx]at hxj;rw[hy]at hyj;cases hxj;cases hyj;exact⟨h.objs.size,by rw[Array.getElem?_push,if_pos hH.len.symm],up _ _ (by omega) hp',hs⟩
   ·obtain⟨p,e1,e2,e3⟩:=hH.prs j x y (by omega) hxj hyj;exact⟨p,by rw[Array.getElem?_push,if_neg (by rw[hH.len];exact e)];exact e1,up _ _ (by omega) (hk' _ _ (.inr (by omega)) e2),e3⟩
variable{E:Value->Shared->Prop}{t1 t2:Bool}{N l1 l2:Nat}{xs ys:Array Value}{Q:Value->Shared->Prop}
theorem SV{Q:List Value->Shared->Prop}(hh:A.handled=none)(a1:l1<N)(a2:l2<N)(b1:IsSq t1 s.heap l1 xs)(b2:IsSq t2 s.heap l2 ys)(hn:min xs.size ys.size<=sizeLine)(hZ:Zg t1 t2 N l1 l2 s.heap 0)(hz:IsZ s.heap (N+4) (N+2) (N+3) .none (.bool false))(hsz:s.heap.objs.size=N+5)
  (hQ:∀h' acc c,Had N s.heap h' xs ys (min xs.size ys.size) acc c->Q acc.toList {s with heap:=h'}):
  wpAny (model prog w) A (collect (.ref (N+4))) Q E s:=by
 unfold collect;refine bZ (wpAny_runValue (codeAny_builtin F.entry_proto_collect ?_));rw[Around.under_plainId F.plain_proto_collect _];show wpAny _ A.in1 (newList []>>=λl=>again (.builtin "list.__iadd__" ⟨[l,.ref (N+4)],[]⟩)) _ _ _;refine bZ (wpAny_newObj_type ?_);show wpAny _ A.in1 (again (.builtin "list.__iadd__" ⟨[.ref s.heap.objs.size,.ref (N+4)],[]⟩)) _ _ _;rw[hsz];refine pZ ⟨plainId_quiet F.plain_list_iadd _,codeAny_builtin F.entry_list_iadd ?_⟩;rw[Around.under_plainId F.plain_list_iadd _];have hz1:IsZ (s.heap.push {cls:=.type "list",data:=.seq ([]:List Value).toArray}) (N+4) (N+2) (N+3) .none (.bool false):=gZ _ hz;have ty:Shared.TypeIs {s with heap:=s.heap.push {cls:=.type "list",data:=.seq ([]:List Value).toArray}} (.ref (N+4)) "zip":=⟨_,hz1,rfl⟩;show wpAny _ A.in1 (Builtin.List.listExtendWith (.ref (N+5)) (.ref (N+4)) (.ref (N+5))) _ _ _;unfold Builtin.List.listExtendWith;refine bZ (wpAny_typeOf ty ?_);have e1:Builtin.List.listSameRef (.ref (N+5)) (.ref (N+4))=false:=by simp[Builtin.List.listSameRef]
 have e2:(Value.type "zip"==Value.type "list")=false:=by decide
 have e3:(Value.type "zip"==Value.type "tuple")=false:=by decide
 simp only[e1,e2,e3,Bool.or_false,Bool.false_eq_true,if_false];refine bZ (wpAny_pyIter_zip hz1 ?_);refine bZ (wpAny_holding ?_);unfold Builtin.List.listLengthHint;refine bZ (wpAny_specialOf ty F.nolen_zip ?_);show wpAny _ A.in1 (specialOf (Value.ref (N+4)) (Str.ofString "__length_hint__")>>=_) _ _ _;refine bZ (wpAny_specialOf ty F.nohint_zip ?_);refine pZ ?_;show wpAny _ A.in1 (rule "list.extend.makes-room">>=λ_=>Builtin.List.listTouch (.ref (N+5))>>=λ_=>
  again (.builtin "list.extend.loop" ⟨[.ref (N+5),.ref (N+4),.ref (N+5)],[]⟩)) _ _ _
 refine bZ (wpAny_rule ?_);have g1:(s.heap.push {cls:=.type "list",data:=.seq ([]:List Value).toArray}).get? (N+5)=some {cls:=.type "list",data:=.seq ([]:List Value).toArray}:=by
  rw[<-hsz];exact get?_push_size _ rfl
 refine bZ ?_;show wpAny _ A.in1 (updateSeq (N+5) (·.push .none)>>=λ_=>updateSeq (N+5) (·.pop)) _ _ _;refine bZ (wpAny_updateSeq g1 rfl ?_);have g2:=get?_update_self (Obj.mapSeq (·.push Value.none)) g1 rfl;refine wpAny_updateSeq g2 rfl ?_;have g3:=get?_update_self (Obj.mapSeq (·.pop)) g2 rfl;have oth:∀b o,b≠N+5->s.heap.get? b=some o->
   (((s.heap.push {cls:=.type "list",data:=.seq ([]:List Value).toArray}).update (N+5) (Obj.mapSeq (·.push Value.none))).update (N+5) (Obj.mapSeq (·.pop))).get? b=some o:=
  λb o hb e=>(get?_update_other _ _ (nn (Ne.symm hb))).trans ((get?_update_other _ _ (nn (Ne.symm hb))).trans (gZ _ e))
 refine pZ ⟨plainId_quiet F.plain_extend_loop _,cfZ (s:=s) (h0:=s.heap) hh a1 a2 b1 b2 hn _ 0 _ #[] _ rfl (zero_le _) ⟨λa o ha e=>oth a o (by omega) e,g3,rfl,(λj x y hj=>absurd hj (Nat.not_lt_zero _))⟩ (hZ.at oth) λh' acc' c' hH=> ?_⟩;show wpAny _ A (load (N+5)>>=_) _ _ _;refine bZ (wpAny_load hH.lst ?_);exact pZ (hQ h' acc' c' hH)
theorem LP(hh:A.handled=none)(a1:l1<N)(a2:l2<N)(b1:IsSq t1 s.heap l1 xs)(b2:IsSq t2 s.heap l2 ys)(hn:min xs.size ys.size<=sizeLine)(hZ:Zg t1 t2 N l1 l2 s.heap 0)(hz:IsZ s.heap (N+4) (N+2) (N+3) .none (.bool false))(hsz:s.heap.objs.size=N+5)
  (hQ:∀h' acc c,Had N s.heap h' xs ys (min xs.size ys.size) acc c->Q (.ref h'.objs.size) {s with heap:=h'.push {cls:=.type "tuple",data:=.seq acc}}):
  codeAny (model prog w) A (.call (.builtin "tuple.__new__") ⟨[.type "tuple",.ref (N+4)],[]⟩) (wants (λobj s₁=>s₁.TypeIs obj "tuple"/\Q obj s₁) E) s:=by
 have ty:Shared.TypeIs s (.ref (N+4)) "zip":=⟨_,hz,rfl⟩;refine codeAny_of_tree ?_;show wpAny _ A.in1 (do checkBuiltinCall "tuple.__new__" ⟨[.type "tuple",.ref (N+4)],[]⟩;again (.builtin "tuple.__new__" ⟨[.type "tuple",.ref (N+4)],[]⟩)) _ _ _;refine bZ (wpAny_of_eq (F.newCall_tuple_1 _) (pZ ⟨plainId_quiet F.plain_tuple_new _,codeAny_builtin F.entry_tuple_new ?_⟩));rw[Around.under_plainId F.plain_tuple_new _];have hsub:=sub_tuple_self;have hinit:=init_tuple_lookup;have hmh:=madeHere_tuple;have hh1:A.in1.handled=none:=hh
 wp_walk using wpAny_typeOf ty,SV hh1 a1 a2 b1 b2 hn hZ hz hsz
 intro h' acc c hH;show wpAny _ _ (Builtin.Tuple.tupleExact acc.toList.toArray>>=λv=>ret v) _ _ _;unfold Builtin.Tuple.tupleExact;refine bZ (wpAny_newObj_type ?_ (by show acc.toList.toArray.size<=sizeLine;simp only[Array.toArray_toList];rw[hH.len];exact hn));refine pZ ?_;have e:acc.toList.toArray=acc:=by simp
 rw[e];exact⟨⟨_,get?_push_size _ rfl,rfl⟩,hQ h' acc c hH⟩
theorem tuple_g(hh:A.handled=none)(a1:l1<N)(a2:l2<N)(b1:IsSq t1 s.heap l1 xs)(b2:IsSq t2 s.heap l2 ys)(hn:min xs.size ys.size<=sizeLine)(hZ:Zg t1 t2 N l1 l2 s.heap 0)(hz:IsZ s.heap (N+4) (N+2) (N+3) .none (.bool false))(hsz:s.heap.objs.size=N+5)
  (hQ:∀h' acc c,Had N s.heap h' xs ys (min xs.size ys.size) acc c->Q (.ref h'.objs.size) {s with heap:=h'.push {cls:=.type "tuple",data:=.seq acc}}):
  wpAny (model prog w) A (call (.type "tuple") [.ref (N+4)]) Q E s:=by
 refine callType_codes (Q₁:=λobj s₁=>s₁.TypeIs obj "tuple"/\Q obj s₁) F.called_tuple (F.typeCall_tuple_1 _) F.entry_object_init (LP (Q:=Q) hh a1 a2 b1 b2 hn hZ hz hsz hQ) λobj s₁ h₁=> ?_;exact⟨h₁.1,F.args_object_init_2 obj _,object_init_meets F.called_tuple.init.lookup F.called_tuple.made (by decide) prog w A.in1 _ s₁ ⟨h₁.1,rfl,h₁.2⟩⟩
end
end ZT
end PySem
namespace L2
open PySem PySem.Spec PyProof.Rows
theorem RelV.same{x y:V}{u:Value}(h:RelV x u)(g:RelV y u):x=y:=by
 cases x<;>cases y<;>simp only[RelV]at h g<;>first
  |rfl
  |(obtain⟨t,h⟩:=h;obtain⟨t',g⟩:=g;rw[h]at g;cases g;done)
  |(obtain⟨t,h⟩:=h;obtain⟨t',g⟩:=g;rw[h]at g;cases g;rfl)
  |(obtain⟨t,h⟩:=h;rw[h]at g;cases g;done)
  |(obtain⟨t,g⟩:=g;rw[h]at g;cases g;done)
  |(rw[h]at g;cases g;done)
  |(rw[h]at g;cases g;rfl)
structure Prs (H:Hp) (xs ys ps:List V):Prop where
 len:ps.length=min xs.length ys.length
 at_:∀(j:Nat) (x y:V),xs[j]? =some x->ys[j]? =some y->∃q:Addr,ps[j]? =some (.ref q)/\H q=some (.tup [x,y])
theorem Vals.get_{xs:List V}{us:List Value}{i:Nat}{x:V}(h:Vals xs us)(e:xs[i]? =some x):∃u,us.toArray[i]? =some u/\RelV x u:=by
 obtain⟨u,h1,h2⟩:=h.get e;exact⟨u,by simpa using h1,h2⟩
section
variable{X:Cx}{K:FZ}
theorem UG{pins:List (Addr×Obj)}{σ:St}{H:Hp}{s:Shared}{h2:Heap}{N:Nat}{xs ys:List V}{its1 its2:List Value}{acc:Array Value}{r:Addr}{o:List V->HO}{n:Nat}(I:Inv X pins σ H s)(v1:Vals xs its1)(v2:Vals ys its2)
  (hn:n=min its1.toArray.size its2.toArray.size)(hN:s.heap.objs.size<=N)(kp:∀b u,s.heap.get? b=some u->h2.get? b=some u)(hr:s.heap.objs.size<=r)(len:acc.size=n)
  (prs:∀j x y,j<n->its1.toArray[j]? =some x->its2.toArray[j]? =some y->∃p,acc[j]? =some (.ref p)/\IsPair h2 p x y/\N<p/\p≠r)
  (ok:∀H' ps,Vals ps acc.toList->ObjOk X.prog X.w H' h2 r (o ps)):
  ∃H' ps,Inv X pins σ H' {s with heap:=h2}/\Same H H'/\H r=none/\H' r=some (o ps)/\Prs H' xs ys ps:=by
 have l1:=v1.length;have l2:=v2.length;have hn':n=min xs.length ys.length:=by rw[hn,l1,l2];simp
 have key:∀j,j<n->∃x y u v p,xs[j]? =some x/\ys[j]? =some y/\RelV x u/\RelV y v/\acc[j]? =some (.ref p)/\IsPair h2 p u v/\N<p/\p≠r:=λj hj=>by
  have h1:xs[j]? =some (xs[j]'(by omega)):=List.getElem?_eq_getElem (by omega);have h2:ys[j]? =some (ys[j]'(by omega)):=List.getElem?_eq_getElem (by omega);obtain⟨u,e1,r1⟩:=v1.get_ h1;obtain⟨v,e2,r2⟩:=v2.get_ h2;obtain⟨p,e3,e4,e5,e6⟩:=prs j u v hj e1 e2;exact⟨_,_,u,v,p,h1,h2,r1,r2,e3,e4,e5,e6⟩
 let ps:List V:=acc.toList.map λv=>match v with| .ref a=>V.ref a|_=>V.non
 have hps:∀(j:Nat) (p:Addr),acc[j]? =some (.ref p)->ps[j]? =some (.ref p):=λj p e=>by
  show(acc.toList.map _)[j]? =_;rw[getElem?_map,Array.getElem?_toList,e];rfl
 have hv:Vals ps acc.toList:=by
  have all:∀v∈acc.toList,∃p:Addr,v=.ref p:=λv hv=>by
   obtain⟨j,hj⟩:=mem_iff_getElem?.mp hv;rw[Array.getElem?_toList]at hj;have hlt:j<n:=by
    rw[<-len];exact(Array.getElem?_eq_some_iff.mp hj).1
   obtain⟨_,_,_,_,p,_,_,_,_,e,_⟩:=key j hlt;rw[hj]at e;exact⟨p,Option.some.inj e⟩
  show Vals (acc.toList.map _) acc.toList;generalize acc.toList=l at all;clear ok prs key hps ps;induction l with
  |nil=>exact .nil
  |cons v l ih=>
   obtain⟨p,rfl⟩:=all v (mem_cons_self ..);exact .cons rfl (ih λw hw=>all w (mem_cons_of_mem _ hw))
 classical
 let isP:Addr->Nat->Prop:=λb j=>j<n/\acc[j]? =some (.ref b);let H':Hp:=λb=>if b=r then some (o ps)else if h:∃j,isP b j then(match xs[Classical.choose h]?,ys[Classical.choose h]? with|some x,some y=>some (.tup [x,y])|_,_=>none)else H b
 have big:∀ {b j},isP b j->N<b/\b≠r:=λ{b j} hb=>by
  obtain⟨_,_,_,_,p,_,_,_,_,e,_,e5,e6⟩:=key j hb.1;rw[hb.2]at e;cases e;exact⟨e5,e6⟩
 have hH:∀b,b≠r->(∃j,isP b j)->∃x y u v,H' b=some (.tup [x,y])/\RelV x u/\RelV y v/\IsPair h2 b u v:=λb hb h=>by
  have hc:=Classical.choose_spec h;obtain⟨x,y,u,v,p,h1,h2,r1,r2,e,e4,_⟩:=key _ hc.1;rw[hc.2]at e;cases e;refine⟨x,y,u,v, ?_,r1,r2,e4⟩;show(if b=r then _ else if h:∃j,isP b j then _ else _)=_;rw[if_neg hb,dif_pos h,h1,h2]
 have hnone:∀b,s.heap.objs.size<=b->H b=none:=λb hb=>I.hok.fresh hb;have hr0:H r=none:=hnone r hr;have old:∀b,b≠r->¬(∃j,isP b j)->H' b=H b:=λb h1 h2=>by
  show(if b=r then _ else if h:∃j,isP b j then _ else _)=_;rw[if_neg h1,dif_neg h2]
 have hrr:H' r=some (o ps):=if_pos rfl;have sm:Same H H':=λb u e=>by
  rw[old b (C9 e hr0) λ⟨j,hj⟩=> ?_]
  ·exact e
  ·rw[hnone b (Nat.le_trans hN (Nat.le_of_lt (big hj).1))]at e;cases e
 refine⟨H',ps,I.laidMany (t':=s.toks) kp sm (λb hb e=> ?_) (λb u hb e=> ?_),sm,hr0,hrr,by rw[<-hn',<-len];simp[ps],λj x y hx hy=> ?_⟩
 ·rw[old b (ne_of_lt (lt_of_lt_of_le hb hr)) λ⟨j,hj⟩=>absurd (Nat.lt_trans hb (lt_of_le_of_lt hN (big hj).1)) (lt_irrefl _)];exact e
 ·by_cases c:b=r
  ·subst c;rw[hrr]at e;cases e;exact ok _ _ hv
  ·by_cases c2:∃j,isP b j
   ·obtain⟨x,y,p,q,e1,r1,r2,e2⟩:=hH b c c2;rw[e1]at e;cases e;exact⟨(by show 2<=sizeLine;decide),[p,q],.cons r1 (.cons r2 .nil),⟨_,e2,rfl,_,rfl⟩⟩
   ·rw[old b c c2,hb]at e;cases e
 ·have hj:j<n:=by
   rw[hn'];have a1:=(List.getElem?_eq_some_iff.mp hx).1;have a2:=(List.getElem?_eq_some_iff.mp hy).1;omega
  obtain⟨x',y',u,v,p,h1,h2,r1,r2,e3,e4,e5,e6⟩:=key j hj;rw[hx]at h1;cases h1;rw[hy]at h2;cases h2;refine⟨p,hps _ _ e3, ?_⟩;obtain⟨x2,y2,u2,v2,e7,s1,s2,e8⟩:=hH p e6 ⟨j,hj,e3⟩;have e9:=e4.symm.trans e8;cases e9;rw[e7,RelV.same r1 s1,RelV.same r2 s2]
noncomputable def daZ(K:FZ)(o:List V->HO)(ta:TA):TE:=fun σ H Q=>ta σ H λvs H1=>∃a b xs ys,vs=[.ref a,.ref b]/\(SqT K H1 a xs\/SqL K H1 a xs)/\(SqT K H1 b ys\/SqL K H1 b ys)/\min xs.length ys.length<=sizeLine/\
 ∀r H' ps,Same H1 H'->H1 r=none->H' r=some (o ps)->Prs H' xs ys ps->Q (.ref r) H'
theorem Inv.sq{pins:List (Addr×Obj)}{σ:St}{H:Hp}{s:Shared}{a:Addr}{xs:List V}(I:Inv X pins σ H s)(h:SqT X.K H a xs\/SqL X.K H a xs):∃(t:Bool) (its:List Value),Vals xs its/\ZT.IsSq t s.heap a its.toArray:=by
 rcases h with h|h
 ·obtain⟨its,rv,pl,_⟩:=I.tuple h;exact⟨true,its,rv,pl⟩
 ·obtain⟨its,rv,pl,_⟩:=I.list h;exact⟨false,its,rv,pl.isList⟩
theorem YY{xs ys:List V}{i1 i2:List Value}(v1:Vals xs i1)(v2:Vals ys i2):min i1.toArray.size i2.toArray.size=min xs.length ys.length:=by
 rw[v1.length,v2.length];simp
theorem agZ{h:Heap}{r:Addr}{acc:Array Value}(e:h.get? r=some {cls:=.type "tuple",data:=.seq acc}):h.IsTuple r acc.toList.toArray:=by
 rw[show acc.toList.toArray=acc by simp];exact⟨_,e,rfl,_,rfl⟩
theorem QB{a b:Expr}{ta:TA}{p p' pos pos':Pos}(hg:Gl X "zip")(hm:X.mg "zip"=none)(hg':Gl X "tuple")(hm':X.mg "tuple"=none)(hc:X.calm=true)(ha:PA X [a,b] ta)(hK:X.K=K:=by rfl)
  (hs:starEach [a,b] X.env=[(false,eval a X.env),(false,eval b X.env)]:=by rfl)(hs2:starEach [b] X.env=[(false,eval b X.env)]:=by rfl)
  (hs':starEach [.Call (.Name "zip" p) [a,b] [] pos] X.env=[(false,eval (.Call (.Name "zip" p) [a,b] [] pos) X.env)]:=by rfl):
  PE X (.Call (.Name "tuple" p') [.Call (.Name "zip" p) [a,b] [] pos] [] pos') (daZ K .tup ta):=by
 subst hK;intro pins s σ H Q I h;refine wpAny_Call_Name_kw (T5 I hg' hm' T7 ?_);refine callWith_type1 ?_ hs' rfl;rw[hs'];refine Calls.spliced_cons (Call_ (T5 I hg hm OV (callWith_type1 (thn (ha pos pins s σ H _ I h) λus s1 ⟨vs,H1,I1,r1,q1⟩=> ?_) (by rw[hs,hs2]) (by rw[hs2];rfl))));obtain⟨l1,l2,xs,ys,e,q1,q2,hz,q⟩:=q1;subst e;cases r1 with
 |cons r rr=>
  cases rr with
  |cons r' rr=>
   cases rr;cases r;cases r';obtain⟨t1,i1,v1,p1⟩:=I1.sq q1;obtain⟨t2,i2,v2,p2⟩:=I1.sq q2;have lt1:=CY p1;have lt2:=CY p2;have hm:=YY v1 v2;refine ZT.call_zipX p1 p2 λh' hz' ti to j1 j2 hsz hk=>Calls.spliced_nil ?_;refine ZT.tuple_g (s:={s1 with heap:=h'}) (I1.ok.hd hc) lt1 lt2 (p1.at λo e=>hk _ o e) (p2.at λo e=>hk _ o e) (by rw[hm];exact hz) ⟨.inl ⟨rfl,hz'⟩,ti,⟨_,_,to⟩,j1,j2⟩ hz' hsz λh2 acc c hH=> ?_;have kp:∀b o,s1.heap.get? b=some o->(h2.push {cls:=.type "tuple",data:=.seq acc}).get? b=some o:=λb o e=>gZ _ (hH.old b o (lt_size e) (hk b o e));have l5:s1.heap.objs.size+5<h2.objs.size:=lt_size hH.lst;obtain⟨H',ps,I',sm,hr0,hr,hp⟩:=UG (o:=.tup) (N:=s1.heap.objs.size) (r:=h2.objs.size) (n:=min i1.toArray.size i2.toArray.size) I1 v1 v2 rfl (Nat.le_refl _) kp (by omega) hH.len
    (λj x y hj hx hy=>by
     obtain⟨p,e1,e2,e3⟩:=hH.prs j x y hj hx hy;exact⟨p,e1,gZ _ e2,by omega,ne_of_lt (lt_size e2)⟩)
    (λH' ps hv=>⟨by rw[hv.length,Array.length_toList,hH.len,hm];exact hz,acc.toList,hv,agZ (get?_push_size _ rfl)⟩)
   exact⟨.ref h2.objs.size,H',I',rfl,q _ _ _ sm hr0 hr hp⟩
end
noncomputable def CV(e:Nat->Bool)(xs ys:List V):Bool:=(List.range (min xs.length ys.length)).all e&&xs.length==ys.length
inductive EqB (K:FZ) (H:Hp):Nat->V->V->Bool->Prop
 |str {n x y}:EqB K H n (.str x) (.str y) (x==y)
 |tup {n a b xs ys e}:SqT K H a xs->SqT K H b ys->(∀(j:Nat) u v,xs[j]? =some u->ys[j]? =some v->EqB K H n u v (e j))->EqB K H (n+1) (.ref a) (.ref b) (CV e xs ys)
section
variable{X:Cx}{K:FZ}{pins:List (Addr×Obj)}{σ:St}{H:Hp}{s:Shared}
theorem UX{e:Nat->Bool}{xs:List V}(h:∀j,j<xs.length->e j=true):CV e xs xs=true:=by
 unfold CV;rw[Nat.min_self,Bool.and_eq_true,all_eq_true];exact⟨λj hj=>h j (mem_range.mp hj),by simp⟩
theorem EqB.self(I:Inv X pins σ H s):∀ {n:Nat} {x:V} {b:Bool},EqB X.K H n x x b->b=true:=by
 intro n;induction n with
 |zero=>intro x b h;cases h;simp
 |succ n ih=>
  intro x b h;cases h with
  |str=>simp
  | @tup _ a _ xs ys e ha hb he=>
   have:=I.tuple_inj ha hb;subst this;exact UX λj hj=>ih (he j _ _ (List.getElem?_eq_getElem hj) (List.getElem?_eq_getElem hj))
theorem WC(I:Inv X pins σ H s){A:Around}{a b:Addr}{xs ys:List V}{e:Nat->Bool}(hu:A.units<cLine)(ha:SqT X.K H a xs)(hb:SqT X.K H b ys)
  (he:∀(j:Nat) x y u v,xs[j]? =some x->ys[j]? =some y->RelV x u->RelV y v->SeqAt.EqAt A.in1 s u v (e j)):SeqAt.RcAt A s (.ref a) (.ref b) (CV e xs ys):=by
 obtain⟨its,r,pl,_⟩:=I.tuple ha;obtain⟨its2,r2,pl2,_⟩:=I.tuple hb;have h:=SeqAt.RcAt.tuples (A:=A) (s:=s) (e:=e) pl pl2 hu (λj h1 h2=>by
  obtain⟨x,hx,rx⟩:=FC r h1;obtain⟨y,hy,ry⟩:=FC r2 h2;exact he j x y _ _ hx hy rx ry)
 have e1:its.toArray.size=xs.length:=by rw[r.length];simp
 have e2:its2.toArray.size=ys.length:=by rw[r2.length];simp
 rw[e1,e2]at h;exact h
theorem VP(I:Inv X pins σ H s)(n:Nat):∀(A:Around) (x y:V) (u v:Value) (b:Bool),A.units+n<cLine->EqB X.K H n x y b->RelV x u->RelV y v->SeqAt.EqAt A s u v b:=by
 induction n with
 |zero=>
  intro A x y u v b _ h rx ry;cases h;obtain⟨t1,rfl⟩:=rx;obtain⟨t2,rfl⟩:=ry;exact SeqAt.EqAt.str_str _ _ _ _
 |succ n ih=>
  intro A x y u v b hu h rx ry;have h0:=h;cases h with
  |str=>
   obtain⟨t1,rfl⟩:=rx;obtain⟨t2,rfl⟩:=ry;exact SeqAt.EqAt.str_str _ _ _ _
  | @tup _ a c xs ys e ha hb he=>
   cases rx;cases ry;by_cases eq:a=c
   ·subst eq;rw[h0.self I];exact SeqAt.EqAt.same _
   ·have h1:A.units<cLine:=lt_of_le_of_lt (le_add_right _ _) hu;have h2:A.in1.units+n<cLine:=by
     show A.units+1+n<cLine;rw[Nat.add_assoc,Nat.add_comm 1 n];exact hu
    exact SeqAt.EqAt.of_refs eq (WC I h1 ha hb λj x y u v hx hy rx ry=>ih A.in1 x y u v _ h2 (he j x y hx hy) rx ry)
noncomputable def cmZ(K:FZ):R2:=λx y H Q=>∃a b xs ys n e,x=.ref a/\y=.ref b/\SqT K H a xs/\SqT K H b ys/\n<=50/\(∀(j:Nat) u v,xs[j]? =some u->ys[j]? =some v->EqB K H n u v (e j))/\Q (.bl (CV e xs ys)) H
theorem bZZ(hu:X.A.units+64<cLine):OpR X (compareOp .Eq) (cmZ X.K):=by
 intro pins s σ H x y v u Q I rx ry h;obtain⟨a,b,xs,ys,n,e,rfl,rfl,ha,hb,hn,hd,q⟩:=h;cases rx;cases ry;have h1:X.A.units<cLine:=lt_of_le_of_lt (le_add_right _ _) hu;have h2:X.A.in1.units+n<cLine:=by
  show X.A.units+1+n<cLine;exact lt_of_le_of_lt (by omega) hu
 exact WC I h1 ha hb (λj x y u v hx hy rx ry=>VP I n X.A.in1 x y u v _ h2 (hd j x y hx hy) rx ry) X.prog X.w X.xe _ ⟨.bl _,H,I,rfl,q⟩
theorem IR(hu:X.A.units+64<cLine)(hK:X.K=K:=by rfl):OpR X (compareOp .Eq) (cmZ K):=by subst hK;exact bZZ hu
noncomputable def RI(K:FZ):R2:=λx y H Q=>∃a b xs ys n e,x=.ref a/\y=.ref b/\SqL K H a xs/\SqL K H b ys/\n<=50/\(∀(j:Nat) u v,xs[j]? =some u->ys[j]? =some v->EqB K H n u v (e j))/\Q (.bl (CV e xs ys)) H
theorem aAZ(hu:X.A.units+64<cLine):OpR X (compareOp .Eq) (RI X.K):=by
 intro pins s σ H x y v u Q I rx ry h;obtain⟨a,b,xs,ys,n,e,rfl,rfl,ha,hb,hn,hd,q⟩:=h;cases rx;cases ry;have h1:X.A.units<cLine:=lt_of_le_of_lt (le_add_right _ _) hu;have h2:X.A.in1.units+n<cLine:=by
  show X.A.units+1+n<cLine;exact lt_of_le_of_lt (by omega) hu
 obtain⟨its,r,pl,_⟩:=I.list ha;obtain⟨its2,r2,pl2,_⟩:=I.list hb;have e1:its.toArray.size=xs.length:=by rw[r.length];simp
 have e2:its2.toArray.size=ys.length:=by rw[r2.length];simp
 by_cases c:xs.length=ys.length
 ·have h:=SeqAt.RcAt.lists (A:=X.A) (s:=s) (e:=e) pl.isList pl2.isList (by rw[e1,e2];exact c) h1 (λj h1' h2'=>by
   obtain⟨x,hx,rx⟩:=FC r h1';obtain⟨y,hy,ry⟩:=FC r2 h2';exact VP I n X.A.in1 x y _ _ _ h2 (hd j x y hx hy) rx ry)
  refine h X.prog X.w X.xe _ ⟨.bl (CV e xs ys),H,I, ?_,q⟩;rw[e1];unfold CV;rw[c,Nat.min_self];show Value.bool _=_;simp
 ·refine SeqAt.RcAt.lists_lengths (A:=X.A) (s:=s) pl.isList pl2.isList (by rw[e1,e2];simpa using c) h1 X.prog X.w X.xe _ ⟨.bl (CV e xs ys),H,I, ?_,q⟩;unfold CV;rw[show(xs.length==ys.length)=false by simpa using c,Bool.and_false];rfl
theorem RJ(hu:X.A.units+64<cLine)(hK:X.K=K:=by rfl):OpR X (compareOp .Eq) (RI K):=by subst hK;exact aAZ hu
end
end L2
namespace PySem
open PyProof.Rows
section
variable{prog:Program}{w:World}{A:Around}{E:Value->Shared->Prop}{s:Shared}
theorem SJ:∀(vs:List Value) (ns:List Str),vs.length=ns.length->(∀(j:Nat) (v:Value) (x:Str),vs[j]? =some v->ns[j]? =some x->∃t,v=.str x t)->StrsAre vs ns
 | [],[],_,_=> .nil
 | [],_::_,h,_=>by cases h
 |_::_,[],h,_=>by cases h
 |v::vs,n::ns,h,q=>by
  obtain⟨t,e⟩:=q 0 v n rfl rfl;subst e;exact .cons n t (SJ vs ns (by simpa using h) λj u x hu hx=>q (j+1) u x hu hx)
theorem FJ{K:Type}[DecidableEq K]{knd:KeyKind prog w K}{Q:Value->Shared->Prop}(hh:A.handled=none){d:Addr}{kvs:List (K×Value)}{ep:Nat}{ns:List Str}(hd:(d==sysModules)=false)(hD:s.heap.DictAt knd d kvs ep)(hl:kvs.length=ns.length)
  (hI:∀(j:Nat) (k:K) (x v:Value) (z:Str),kvs[j]? =some (k,x)->knd.is k v=true->ns[j]? =some z->∃t,v=.str z t)(h64:ns.length<64)
  (hQ:∀(h1 h':Heap) (tk:Nat) (out:Array Value) (ns':List Str) (n:Nat),(∀b o,s.heap.get? b=some o->h1.get? b=some o)->(∀b o,h1.get? b=some o->h'.get? b=some o)->h'.get? h1.objs.size=some {cls:=.type "list",data:=.seq out n}->StrsAre out.toList ns'->ns'.Perm ns->Q (.ref h1.objs.size) {s with heap:=h',toks:=tk}):
  wpAny (model prog w) A (call (.builtin "sorted") [.ref d]) Q E s:=by
 have hcn:checkBuiltinCall "sorted" ⟨[.ref d],[]⟩=pure ():=by kernel_rfl
 have zl:(64:Nat)<=sizeLine:=by decide
 refine wpAny_call (codeAny_call_builtin plain_sorted entry_sorted (wpAny_of_eq hcn ?_));unfold Builtin.sorted;refine bZ (m:=checkCount "sorted" 1 1 1) (wpAny_of_eq (show checkCount "sorted" 1 1 1=pure () by first|rfl|kernel_rfl) ?_);refine bZ (m:=collect (.ref d)) (W.kdu_collect (A:=A.in1) (W.kdl_dict (knd:=knd) (kvs:=kvs) (ep:=ep) hd) hh hD (by omega) λh1 tk acc hk1 hacc=> ?_);obtain⟨a1,a2⟩:=hacc;have hlen:acc.toList.length=ns.length:=by rw[Array.length_toList,a1,hl]
 have hS:StrsAre acc.toList ns:=SJ acc.toList ns hlen λj v z hv hz=>by
  obtain⟨k,x,e1,e2⟩:=a2 j v (by simpa using hv);exact hI j k x v z e1 e2 hz
 refine bZ (wpAny_newList ?_ (by omega));have hSl:(h1.push {cls:=.type "list",data:=.seq acc.toList.toArray}).get? h1.objs.size=some {cls:=.type "list",data:=.seq acc.toList.toArray}:=get?_push_size _ rfl;have ty:Shared.TypeIs {s with heap:=h1.push {cls:=.type "list",data:=.seq acc.toList.toArray},toks:=tk} (.ref h1.objs.size) "list":=⟨_,hSl,rfl⟩;refine bZ (wpAny_holding (wpAny_call_entry slot_list_sort ty entry_list_sort (list_sort_treeK (n:=0) strKind_oneLt hSl hS.keysOf (λv₁ v₂ rest e=>keyKind_strs (by rw[<-e];exact hS)) (by omega) λst' hp hs=>⟨.none,rfl, ?_⟩) (args_list_sort _)));obtain⟨ss',i1,i2,i3⟩:=sorted_out_str hS hp hs;obtain⟨n',hn'⟩:=HD (out:=(arrOf st').map (·.2)) hSl;exact pZ (hQ h1 _ _ _ ss' n' hk1 (λb o e1=>HB (gZ _ e1) (ne_of_lt (lt_size e1))) hn' i1 i2)
end
end PySem
namespace L2
open PySem PySem.Spec PyProof.Rows
section
variable{X:Cx}
theorem II(hc:X.calm=true):W4 X (.builtin "sorted") (λxs H Q=>∃(a:Addr) (kvs:List (Key×V)) (ns:List Str),xs=[.ref a]/\H a=some (.dK kvs)/\kvs.map (·.1)=ns.map Sum.inr/\ns.length<64/\∀(l:Addr) (ns':List Str),H l=none->ns'.Perm ns->Q (.ref l) (upd H l (.lst (ns'.map V.str)))):=by
 intro pins s σ H xs us Q I r h;obtain⟨a,kvs,ns,rfl,ha,hk,hn,q⟩:=h;obtain⟨u,rfl,ru⟩:=BR r;cases ru;obtain⟨z,hd,vs,rel,dd⟩:=aSZ I.hok ha;have hkeys:=rel.keys;have hlen:=rel.length;have hkl:kvs.length=ns.length:=by
  have:=congrArg List.length hk
  simpa using this
 have zl:(64:Nat)<=sizeLine:=by decide
 obtain⟨o,es,ep,ho,hx,hdt,hko,hp,hnd⟩:=dd;refine FJ (knd:=M8 X.prog X.w) (kvs:=vs) (ep:=ep) (ns:=ns) (I.ok.hd hc) hd ⟨o,es,ho,hx,hdt,hko,hp,hnd⟩ (by omega) ?_ hn ?_
 ·intro j k x v z e1 e2 hz;have e3:(vs.map (·.1))[j]? =some k:=by rw[getElem?_map,e1];rfl
  rw[<-hkeys,hk,getElem?_map,hz]at e3;have e4:(Sum.inr z:Key)=k:=Option.some.inj e3;subst e4;exact Value.isStrOf_shape (show Value.isStrOf z v=true from e2)
 ·intro h1 h' tk out ns' n k1 k2 hl i1 i2;have I1:Inv X pins σ H {s with heap:=h1}:=I.kept (t':=s.toks) k1;have hz:(ns'.map V.str).length<=sizeLine:=by rw[length_map,i2.length_eq];omega
  exact⟨.ref h1.objs.size,_,I1.laid (t':=tk) k2 (Nat.le_refl _) (show ObjOk X.prog X.w _ h' _ (.lst _)from⟨hz,out.toList,n,ES i1,by simpa using hl⟩),rfl,q _ ns' (I1.hok.fresh (Nat.le_refl _)) i2⟩
end
end L2
namespace PySem
open Sem (wp)
open PyProof.Rows
namespace F
theorem zip_no_keys:typeLookup (.type "zip") (Str.ofString "keys")=pure none:=by rw[typeLookup_type,builtinLookup_eq_fast];kernel_rfl
theorem zip_no_getattr:typeLookup (.type "zip") (Str.ofString "__getattr__")=pure none:=by rw[typeLookup_type,builtinLookup_eq_fast];kernel_rfl
theorem entry_zip_ga:entryFor table "zip.__getattribute__"=some Builtin.«object.__getattribute__»:=
 entryFor_alias (id':="object.__getattribute__") (by kernel_rfl) (by decide +kernel) (by decide +kernel) (by kernel_rfl)
end F
theorem IA(a:Addr)(fs:Array Value)(name:Str)(u:Tok)(hmiss:typeLookup (.type "zip") name=pure none)(hname:(["__module__","__name__","__qualname__","__doc__","__annotations__"]:List Str).contains name=false)(hsz:name.length+100<=sizeLine:=by size_fits):
  Meets (Builtin.«object.__getattribute__» ⟨[.ref a,.str name u],[]⟩) (λA R s=>s.heap.get? a=some {cls:=.type "zip",data:=.fields fs}/\raisesAttr (.ref a) name A R s):=
 Meets.of_wp λprog w A R s hs=>by
  obtain⟨hp,g,d,tk,os⟩:=s;obtain⟨hx,hs⟩:=hs;have hT:(⟨hp,g,d,tk,os⟩:Shared).TypeIs (.ref a) "zip":=⟨_,hx,rfl⟩;unfold Builtin.«object.__getattribute__»
  repeat (any_goals (first|assumption|wp_step))
  simp only[hname,Bool.false_eq_true,if_false]
  repeat (any_goals (first|assumption|wp_step))
  exact wpAny_raiseAttrError hs.1 hs.2 (attrMsg_fits (by decide +kernel) hsz)
section
variable{prog:Program}{w:World}{A:Around}{E:Value->Shared->Prop}{s:Shared}
theorem OX{l:Addr}{fs:Array Value}{Q:Option Value->Shared->Prop}(hh:A.handled=none)(hl:s.heap.get? l=some {cls:=.type "zip",data:=.fields fs})
  (q:∀h' tk,(∀b o,s.heap.get? b=some o->h'.get? b=some o)->Q none {s with heap:=h',toks:=tk}):
  wpAny (model prog w) A (getAttr? (.ref l) (Str.ofString "keys")) Q E s:=by
 have ty:s.TypeIs (.ref l) "zip":=⟨_,hl,rfl⟩;have hlk:=F.slot_zip_getattribute.lookup;have hbd:=F.slot_zip_getattribute.bind (.ref l);unfold getAttr?;refine bZ (m:=mkText (Str.ofString "keys")) ?_;unfold mkText
 repeat (any_goals (first|assumption|wp_step))
 refine codeAny_mono (codeAny_call_builtin (R:=wants (λ_ _=>False) (λe s'=>∃h' tk a,s.heap.NewAttrErr h' a (.ref l) (Str.ofString "keys")/\e=.ref a/\s'={s with heap:=h',toks:=tk})) F.slot_zip_getattribute.plain F.entry_zip_ga (F.slot_zip_getattribute.check _ _ _ _ _ _ _ _ (show Shared.TypeIs {s with toks:=s.toks+1} (.ref l) "zip"from⟨_,hl,rfl⟩) (F.args_zip_getattribute_2 _ _)
  (IA l fs (Str.ofString "keys") s.toks F.zip_no_keys (by decide +kernel) (by decide +kernel) prog w A _ {s with toks:=s.toks+1} ⟨hl,hh,λh' tk e hn=>⟨h',tk,e,hn,rfl,rfl⟩⟩))) λr s' hr=> ?_
 rcases r with e|fl
 ·obtain⟨h',tk,a,hn,rfl,rfl⟩:=hr;obtain⟨t,u,ha⟩:=hn.there;have hT:Shared.TypeIs {s with heap:=h',toks:=tk} (.ref a) "AttributeError":=⟨_,ha,rfl⟩;have hsub:=F.sub_attrErr;have hng:=F.zip_no_getattr;have fin:=q h' tk hn.keeps
  dsimp only
  repeat (any_goals (first|assumption|wp_step))
 cases fl<;>exact hr.elim
theorem SE{K:Type}[DecidableEq K]{knd:KeyKind prog w K}{R:Result->Shared->Prop}{t1 t2:Bool}{N l1 l2:Nat}{xs ys:Array Value}{ps:List (K×Value)}(hh:A.handled=none)(a1:l1<N)(a2:l2<N)(hps:ps.length=min xs.size ys.size)
  (hp:∀(j:Nat) (p:K×Value),ps[j]? =some p->∃x,xs[j]? =some x/\knd.is p.1 x=true/\ys[j]? =some p.2):
  ∀(rest:List (K×Value)) (i:Nat) (s:Shared) (kvs:List (K×Value)),ps.drop i=rest->i<=ps.length->ZT.Zg t1 t2 N l1 l2 s.heap i->ZT.IsSq t1 s.heap l1 xs->ZT.IsSq t2 s.heap l2 ys->s.heap.DictOf knd (N+5) kvs->kvs.length+rest.length<=sizeLine->
   (∀h' tk,h'.DictOf knd (N+5) (merged kvs rest)->(∀b o,b<N->s.heap.get? b=some o->h'.get? b=some o)->R (.ok (.ret .none)) {s with heap:=h',toks:=tk})->
   codeAny (model prog w) A (.builtin "dict.update.loop" ⟨[.ref (N+5),.ref (N+4),rawInt i,.none],[]⟩) R s
 | [],i,s,kvs,hr,hi,hZ,B1,B2,hD,hz,q=>by
  have D:ZipApart (N+4) (N+2) (N+3) N (N+1) l1 l2:=zipApart_new a1 a2;have hin:i=min xs.size ys.size:=by
   have:=congrArg List.length hr;rw[length_drop,length_nil]at this;omega
  have hend:xs[i]? =none\/ys[i]? =none:=by
   rw[hin];rcases Nat.le_total xs.size ys.size with h|h
   ·exact .inl (by rw[min_eq_left h];exact Array.getElem?_eq_none (Nat.le_refl _))
   ·exact .inr (by rw[min_eq_right h];exact Array.getElem?_eq_none (Nat.le_refl _))
  have fin:∀h',(∀a o,a<N\/N+5<=a->s.heap.get? a=some o->h'.get? a=some o)->R (.ok (.ret .none)) {s with heap:=h',toks:=s.toks}:=λh' keep=>q h' s.toks (by
   obtain⟨o,es,ep,ho,r⟩:=hD;exact⟨o,es,ep,keep _ o (.inr (Nat.le_refl _)) ho,r⟩) λb o hb e=>keep b o (.inl hb) e
  refine codeAny_builtin F.entry_dict_update_loop ?_;rw[Around.under_plainId F.plain_dict_update_loop];unfold Builtin.«dict.update.loop»;obtain⟨z,ti,⟨a,b,to⟩,i1,i2⟩:=hZ;rcases z with⟨_,hz'⟩|⟨T,b',hz',hT,_⟩
  ·refine bZ (ZT.pyNext_fend (A:=A.in1) (s:=s) hh D hz' ti to i1 i2 B1 B2 hend λh' hk'=> ?_);have f:=fin h' λc o hc e=>hk' c o (ZT.nn (by omega)) (ZT.nn (by omega)) (ZT.nn (by omega)) (ZT.nn (by omega)) e
   repeat (any_goals (first|assumption|wp_step))
  ·refine bZ (ZT.pyNext_end (A:=A.in1) (s:=s) hh D hz' hT ti i1 i2 B1 B2 hend λh' hk'=> ?_);have f:=fin h' λc o hc e=>hk' c o (ZT.nn (by omega)) (ZT.nn (by omega)) (ZT.nn (by omega)) e
   repeat (any_goals (first|assumption|wp_step))
 |p::rest,i,s,kvs,hr,hi,hZ,B1,B2,hD,hz,q=>by
  have hpi:ps[i]? =some p:=by
   have:(ps.drop i)[0]? =some p:=by rw[hr];rfl
   rw[getElem?_drop]at this
   simpa using this
  obtain⟨x,hx,hk,hy⟩:=hp i p hpi;have hr2:ps.drop (i+1)=rest:=by rw[<-List.drop_drop,hr];rfl
  have hs:N+5<s.heap.objs.size:=by obtain⟨o,_,_,ho,_⟩:=hD;exact lt_size ho
  refine codeAny_builtin F.entry_dict_update_loop ?_;rw[Around.under_plainId F.plain_dict_update_loop];unfold Builtin.«dict.update.loop»;refine bZ (ZT.next_g (A:=A.in1) (s:=s) a1 a2 hs hZ B1 B2 hx hy λh1 hZ1 hp1 hs1 hk1=> ?_);have hD1:h1.DictOf knd (N+5) kvs:=by
   obtain⟨o,es,ep,ho,r⟩:=hD;exact⟨o,es,ep,hk1 _ o (.inr (Nat.le_refl _)) ho,r⟩
  have hpt:h1.IsTuple s.heap.objs.size #[x,p.2]:=⟨_,hp1,rfl,_,rfl⟩;refine bZ (wpAny_holding (bZ (wpAny_tryCatch (QS (s:={s with heap:=h1}) hpt ?_))));refine wpAny_holding (wpAny_dictSet_pairs hk hD1 (λh2 hD2 hs2=> ?_) (by rw[length_cons]at hz;omega));refine pZ ⟨plainId_quiet F.plain_dict_update_loop _, ?_⟩;have hlen:(stored kvs p.1 p.2).length<=kvs.length+1:=by
   unfold stored;split
   ·rw[length_map];omega
   ·rw[length_append];exact Nat.le_refl _
  have k12:∀b o,b<N->s.heap.get? b=some o->h2.get? b=some o:=λb o hb e=>(hs2.2 b (ZT.nn (by omega))).trans (hk1 b o (.inl hb) e);have hi2:i<ps.length:=(List.getElem?_eq_some_iff.mp hpi).1;refine SE hh a1 a2 hps hp rest (i+1) _ (stored kvs p.1 p.2) hr2 hi2 (hZ1.at λc o hc e=>(hs2.2 c (ZT.nn hc)).trans e) (B1.at λo e=>k12 _ o a1 e) (B2.at λo e=>k12 _ o a2 e) hD2 (by rw[length_cons]at hz;omega) λh' tk hd' hk'=> ?_;exact q h' tk hd' λb o hb e=>hk' b o hb (k12 b o hb e)
theorem JP{K:Type}[DecidableEq K]{knd:KeyKind prog w K}{Q:Value->Shared->Prop}(hh:A.handled=none){N:Nat}{fs:Array Value}(hE:s.heap.get? (N+4)=some {cls:=.type "zip",data:=.fields fs})(hsz:s.heap.objs.size=N+5)
  (hz:∀ {h:Heap} {A:Around} {E:Value->Shared->Prop} {s:Shared} {Q:Value->Shared->Prop},s.heap.get? (N+4)=some {cls:=.type "zip",data:=.fields fs}->Q (.ref (N+4)) s->wpAny (model prog w) A (pyIter (.ref (N+4))) Q E s)
  (key:∀h tk,(∀b o,s.heap.get? b=some o->h.get? b=some o)->h.DictOf knd (N+5) []->
   codeAny (model prog w) A.in1 (.builtin "dict.update.loop" ⟨[.ref (N+5),.ref (N+4),rawInt 0,.none],[]⟩) (wants (λv s'=>v=.none/\Q (.ref (N+5)) s') E) {s with heap:=h,toks:=tk}):
  wpAny (model prog w) A (call (.type "dict") [.ref (N+4)]) Q E s:=by
 refine callType_codes (Q₁:=λobj s₁=>obj=.ref s.heap.objs.size/\s₁={s with heap:=s.heap.push {cls:=.type "dict",data:=.dict #[]}}) F.kt_called_dict (F.kt_typeCall_dict_1 _) F.entry_dict_init
  (kt_code_dict_new _ ⟨rfl,rfl⟩) λobj s₁ h₁=> ?_
 obtain⟨rfl,rfl⟩:=h₁;have hS:(s.heap.push {cls:=.type "dict",data:=.dict #[]}).get? s.heap.objs.size=some {cls:=.type "dict",data:=.dict #[]}:=get?_push_size _ rfl;have tyd:Shared.TypeIs {s with heap:=s.heap.push {cls:=.type "dict",data:=.dict #[]}} (.ref s.heap.objs.size) "dict":=⟨_,hS,rfl⟩;have hl1:(s.heap.push {cls:=.type "dict",data:=.dict #[]}).get? (N+4)=some {cls:=.type "zip",data:=.fields fs}:=gZ _ hE;have tyl:Shared.TypeIs {s with heap:=s.heap.push {cls:=.type "dict",data:=.dict #[]}} (.ref (N+4)) "zip":=⟨_,hl1,rfl⟩;refine⟨tyd,F.args_dict_init_2 _ _, ?_⟩;unfold Builtin.«dict.__init__»;unfold Builtin.Dict.selfAndRest Builtin.Dict.notOrdered;refine bZ (bZ ?_);rw[if_pos (by decide)];refine bZ (wpAny_typeOf tyd ?_);rw[if_neg (by decide)];refine pZ (bZ (pZ (pZ ?_)));show wpAny _ _ (Builtin.Dict.updateFrom "dict.__init__" s.heap.objs.size (.ref (N+4)) [] .none) _ _ _;unfold Builtin.Dict.updateFrom;refine bZ (wpAny_typeOf tyl ?_);rw[if_pos (by decide)];refine bZ (OX (A:=A.in1.in1) hh hl1 λh2 tk hk2=> ?_);rw[if_pos (show(none:Option Value).isNone=true from rfl)];refine bZ (wpAny_rule ?_);refine bZ (hz (h:=h2) (s:={s with heap:=h2,toks:=tk}) (hk2 _ _ hl1) ?_);refine pZ ⟨plainId_quiet F.plain_dict_update_loop _, ?_⟩;rw[hsz];refine key h2 tk (λb o e=>hk2 b o (gZ _ e)) ?_;obtain⟨o,es,ep,ho,r⟩:=Heap.DictOf.new (knd:=knd) s.heap;rw[hsz]at ho;exact⟨o,es,ep,hk2 _ _ ho,r⟩
end
end PySem
namespace L2
open PySem PySem.Spec PyProof.Rows
section
variable{X:Cx}{K:FZ}
noncomputable def DE(zs:List Str)(ys:List V):List (Key×V):=(zs.zip ys).map λp=>(.inr p.1,p.2)
theorem ZW{ys:List V}{us:List Value}(h:Vals ys us):∀zs:List Str,KV (DE zs ys) ((zs.zip us).map λp=>(.inr p.1,p.2)):=by
 induction h with
 |nil=>intro zs;cases zs<;>exact .nil
 |cons rx _ ih=>
  intro zs;cases zs with
  |nil=>exact .nil
  |cons z r=>exact .cons ⟨rfl,rx⟩ (ih r)
noncomputable def SO(K:FZ)(ta:TA):TE:=fun σ H Q=>ta σ H λvs H1=>∃a b zs ys,vs=[.ref a,.ref b]/\(SqL K H1 a (zs.map V.str)\/SqT K H1 a (zs.map V.str))/\SqL K H1 b ys/\zs.length<=1000/\
 ∀d,H1 d=none->Q (.ref d) (upd H1 d (.dK (R0 [] (DE zs ys))))
theorem CB{a b:Expr}{ta:TA}{p p' pos pos':Pos}(hg:Gl X "zip")(hm:X.mg "zip"=none)(hg':Gl X "dict")(hm':X.mg "dict"=none)(hc:X.calm=true)(ha:PA X [a,b] ta)(hK:X.K=K:=by rfl)
  (hs:starEach [a,b] X.env=[(false,eval a X.env),(false,eval b X.env)]:=by rfl)(hs2:starEach [b] X.env=[(false,eval b X.env)]:=by rfl)
  (hs':starEach [.Call (.Name "zip" p) [a,b] [] pos] X.env=[(false,eval (.Call (.Name "zip" p) [a,b] [] pos) X.env)]:=by rfl):
  PE X (.Call (.Name "dict" p') [.Call (.Name "zip" p) [a,b] [] pos] [] pos') (SO K ta):=by
 subst hK;intro pins s σ H Q I h;refine wpAny_Call_Name_kw (T5 I hg' hm' HI ?_);refine callWith_type1 ?_ hs' rfl;rw[hs'];refine Calls.spliced_cons (Call_ (T5 I hg hm OV (callWith_type1 (thn (ha pos pins s σ H _ I h) λus s1 ⟨vs,H1,I1,r1,q1⟩=> ?_) (by rw[hs,hs2]) (by rw[hs2];rfl))));obtain⟨l1,l2,zs,ys,e,q1,q2,hz,q⟩:=q1;subst e;cases r1 with
 |cons r rr=>
  cases rr with
  |cons r' rr=>
   cases rr;cases r;cases r';obtain⟨t1,i1,v1,p1⟩:∃(t1:Bool) (i1:List Value),Vals (zs.map V.str) i1/\ZT.IsSq t1 s1.heap l1 i1.toArray:=by
    rcases q1 with q1|q1
    ·obtain⟨i1,v1,pl1,_⟩:=I1.list q1;exact⟨false,i1,v1,pl1.isList⟩
    ·obtain⟨i1,v1,pl1,_⟩:=I1.tuple q1;exact⟨true,i1,v1,pl1⟩
   obtain⟨i2,v2,pl2,_⟩:=I1.list q2;have p2:ZT.IsSq false s1.heap l2 i2.toArray:=pl2.isList;have lt1:=CY p1;have lt2:=CY p2;have e1:=v1.length;have e2:=v2.length;rw[length_map]at e1;have zl:(1000:Nat)<=sizeLine:=by decide
   refine ZT.call_zipX p1 p2 λh' hz' ti to j1 j2 hsz hk=>Calls.spliced_nil ?_;let ps:List (Key×Value):=(zs.zip i2).map λp=>(.inr p.1,p.2);have hpl:ps.length=min i1.toArray.size i2.toArray.size:=by
    show((zs.zip i2).map _).length=_;rw[length_map,List.length_zip,e1];simp
   have hpj:∀(j:Nat) (p:Key×Value),ps[j]? =some p->∃x,i1.toArray[j]? =some x/\(M8 X.prog X.w).is p.1 x=true/\i2.toArray[j]? =some p.2:=λj p hp=>by
    have hp:((zs.zip i2).map _)[j]? =some p:=hp;rw[getElem?_map]at hp;obtain⟨⟨z,y⟩,hzy,rfl⟩:=map_eq_some_iff.mp hp;obtain⟨h1,h2⟩:=List.getElem?_zip_eq_some.mp hzy;obtain⟨x,hx,rx⟩:=v1.get_ (i:=j) (x:=.str z) (by rw[getElem?_map,h1];rfl);exact⟨x,hx,RR (k:=.inr z) rx,by simpa using h2⟩
   have hkv:KV (DE zs ys) ps:=ZW v2 zs;refine JP (knd:=M8 X.prog X.w) (s:={s1 with heap:=h'}) (I1.ok.hd hc) hz' hsz (λe q=>wpAny_pyIter_zip e q) λh2 tk hk2 hD=> ?_;have k2:∀b o,s1.heap.get? b=some o->h2.get? b=some o:=λb o e=>hk2 b o (hk b o e);have Z2:ZT.Zg t1 false s1.heap.objs.size l1 l2 h2 0:=(ZT.Zg.mk (.inl ⟨rfl,hz'⟩) ti ⟨_,_,to⟩ j1 j2:ZT.Zg t1 false s1.heap.objs.size l1 l2 h' 0).at λc o _ e=>hk2 c o e;refine SE (A:=X.A.in1) (knd:=M8 X.prog X.w) (ps:=ps) (I1.ok.hd hc) lt1 lt2 hpl hpj ps 0 {s1 with heap:=h2,toks:=tk} [] rfl (zero_le _) Z2 (p1.at λo e=>k2 _ o e) (p2.at λo e=>k2 _ o e) hD (by rw[hpl,length_nil];simp only[size_toArray];omega) λh3 tk3 hd3 k3=>⟨rfl, ?_⟩;have hr0:H1 (s1.heap.objs.size+5)=none:=I1.hok.fresh (le_add_right _ _);have hb:(s1.heap.objs.size+5==sysModules)=false:=beq_eq_false_iff_ne.mpr (Ne.symm (ne_of_lt (lt_of_lt_of_le I1.big (le_add_right _ _))));have hzz:(R0 [] (DE zs ys)).length<=sizeLine:=by
    have h1:=DK (DE zs ys) [];rw[length_nil]at h1;have:(DE zs ys).length<=zs.length:=by unfold DE;rw[length_map,List.length_zip];omega
    omega
   exact⟨.ref (s1.heap.objs.size+5),_,I1.laid (t':=tk3) (λb o e=>k3 b o (lt_size e) (k2 b o e)) (le_add_right _ _) (PJ hzz hb (hkv.merge .nil) hd3),rfl,q _ hr0⟩
end
end L2
namespace BV
open PySem L2
noncomputable abbrev AS:=Addr->Prop
noncomputable def Kp(S:AS)(H H':Hp):Prop:=(∀b xs,H b=some (.tup xs)->H' b=some (.tup xs))/\∀b o,H b=some o->¬S b->H' b=some o
theorem Kp.trans{S:AS}{H H1 H2:Hp}(a:Kp S H H1)(b:Kp S H1 H2):Kp S H H2:=⟨λc xs h=>b.1 c xs (a.1 c xs h),λc xs h n=>b.2 c xs (a.2 c xs h n) n⟩
theorem Kp.of{S:AS}{H H':Hp}(h:Same H H'):Kp S H H':=⟨λb o q=>h b _ q,λb o q _=>h b o q⟩
theorem Kp.upd{S:AS}{H:Hp}{p:Addr}{xs:List V}(h:S p)(hp:H p=some (.lst xs))(o:HO):Kp S H (upd H p o):=⟨λb u q=>by
 rw[C4 (W2 q hp (by intro z;cases z))];exact q,λb u q n=>by
 have e:b≠p:=λe=>n (by rw[e];exact h);rw[C4 e];exact q⟩
theorem Kp.tups{S:AS}{H H':Hp}(h:Kp S H H'){b:Addr}{xs:List V}(q:H b=some (.tup xs)):H' b=some (.tup xs):=h.1 b xs q
noncomputable def Wd(H:Hp)(S S':AS):Prop:=∀a,S' a->S a\/H a=none
theorem A2{H:Hp}{p:Addr}(h:H p=none)(o:HO):Same H (upd H p o):=λb u q=>by rw[C4 (C9 q h)];exact q
structure Tr where
 T:Type
 kids:T->List T
 size:T->Nat
 val:AS->Hp->T->V->Prop
 res:AS->Hp->T->V->Prop
 hsz:∀t,size t=1+((kids t).map size).sum
 vm:∀ {S H H' t v},Kp S H H'->val S H t v->val S H' t v
 rm:∀ {S H H' t v},Kp S H H'->res S H t v->res S H' t v
 vw:∀ {S S' H t v},Wd H S S'->val S H t v->val S' H t v
 rw':∀ {S S' H t v},Wd H S S'->res S H t v->res S' H t v
inductive All2 {α β:Type} (R:α->β->Prop):List α->List β->Prop where
 |nil:All2 R [] []
 |cons {a b as bs}:R a b->All2 R as bs->All2 R (a::as) (b::bs)
namespace All2
variable{α β:Type}{R S:α->β->Prop}
theorem imp{as:List α}{bs:List β}(h:All2 R as bs)(f:∀a b,R a b->S a b):All2 S as bs:=by
 induction h with
 |nil=>exact .nil
 |cons r _ ih=>exact .cons (f _ _ r) ih
theorem app{as as':List α}{bs bs':List β}(h:All2 R as bs)(h':All2 R as' bs'):All2 R (as++as') (bs++bs'):=by
 induction h with
 |nil=>exact h'
 |cons r _ ih=>exact .cons r ih
theorem rev{as:List α}{bs:List β}(h:All2 R as bs):All2 R as.reverse bs.reverse:=by
 induction h with
 |nil=>exact .nil
 |cons r _ ih=>rw[reverse_cons,reverse_cons];exact ih.app (.cons r .nil)
theorem len{as:List α}{bs:List β}(h:All2 R as bs):as.length=bs.length:=by
 induction h with
 |nil=>rfl
 |cons _ _ ih=>simp only[length_cons,ih]
theorem get{as:List α}{bs:List β}(h:All2 R as bs):∀ {i:Nat} {b:β},bs[i]? =some b->∃a,as[i]? =some a/\R a b:=by
 induction h with
 |nil=>intro i b e;simp at e
 | @cons a b as bs r _ ih=>
  intro i c e;cases i with
  |zero=>simp at e;subst e;exact⟨a,rfl,r⟩
  |succ i=>exact ih (by simpa using e)
theorem split{as as':List α}:∀ {bs:List β},All2 R (as++as') bs->∃b1 b2,bs=b1++b2/\All2 R as b1/\All2 R as' b2:=by
 induction as with
 |nil=>intro bs h;exact⟨[],bs,rfl,.nil,h⟩
 |cons a as ih=>
  intro bs h;cases h with
  |cons r h=>
   obtain⟨b1,b2,rfl,h1,h2⟩:=ih h;exact⟨_::b1,b2,rfl,.cons r h1,h2⟩
end All2
inductive Reach (D:Tr) (t0:D.T):List D.T->List D.T->Prop where
 |start:Reach D t0 [] [t0]
 |step {A:List D.T} {t:D.T} {r:List D.T}:Reach D t0 A (t::r)->Reach D t0 (A++ [t]) (D.kids t++r)
theorem Reach.back{D:Tr}{t0 t:D.T}{A W:List D.T}(h:Reach D t0 (A++ [t]) W):∃r,W=D.kids t++r/\Reach D t0 A (t::r):=by
 generalize e:A++ [t]=B at h;cases h with
 |start=>simp at e
 |step h=>
  have:=List.append_inj' e rfl;obtain⟨rfl,e2⟩:=this;cases e2;exact⟨_,rfl,h⟩
theorem Reach.first{D:Tr}{t0:D.T}{W:List D.T}(h:Reach D t0 [] W):W=[t0]:=by
 generalize e:([]:List D.T)=B at h;cases h with
 |start=>rfl
 |step h=>simp at e
theorem Reach.size{D:Tr}{t0:D.T}{A W:List D.T}(h:Reach D t0 A W):A.length+(W.map D.size).sum=D.size t0:=by
 induction h with
 |start=>simp
 | @step A t r _ ih=>
  simp only[length_append,length_cons,length_nil,map_append,List.sum_append,map_cons,sum_cons]at ih⊢;have:=D.hsz t;omega
theorem Tr.pos(D:Tr)(t:D.T):1<=D.size t:=by have:=D.hsz t;omega
theorem Tr.len_le(D:Tr):∀W:List D.T,W.length<=(W.map D.size).sum
 | []=>Nat.le_refl _
 |t::r=>by have:=D.pos t;have:=D.len_le r;simp only[length_cons,map_cons,sum_cons];omega
theorem Tr.kids_le(D:Tr)(t:D.T):(D.kids t).length<=D.size t:=by have:=D.len_le (D.kids t);have:=D.hsz t;omega
noncomputable def MetAt(D:Tr)(S:AS)(H:Hp)(t:D.T)(x:V):Prop:=∃p v,x=.ref p/\H p=some (.tup [v,.int ((D.kids t).length:Nat)])/\D.val S H t v
theorem MetAt.mono{D:Tr}{S:AS}{H H':Hp}(m:Kp S H H'){t:D.T}{x:V}(h:MetAt D S H t x):MetAt D S H' t x:=by
 obtain⟨p,v,e,hp,hv⟩:=h;exact⟨p,v,e,m.tups hp,D.vm m hv⟩
theorem MetAt.wide{D:Tr}{S S':AS}{H:Hp}(m:Wd H S S'){t:D.T}{x:V}(h:MetAt D S H t x):MetAt D S' H t x:=by
 obtain⟨p,v,e,hp,hv⟩:=h;exact⟨p,v,e,hp,D.vw m hv⟩
inductive spPW (D:Tr) (vs:List V) (H:Hp) (Q:VK):Prop
 |mk:∀S t v,(vs=[v])->(D.val S H t v)->(D.size t<=400000)->(∀r H' ps,Same H H'->H r=none->H' r=some (.lst ps)->All2 (D.val S H') (D.kids t) ps->Q (.ref r) H')->spPW D vs H Q
noncomputable def spP(D:Tr):Sp:=λvs H Q _=>spPW D vs H Q
inductive spMW (D:Tr) (vs:List V) (H:Hp) (Q:VK):Prop
 |mk:∀S t v l us,(vs=[v,.ref l])->(D.val S H t v)->(D.size t<=400000)->(H l=some (.lst us))->(¬S l)->((∀a,S a->H a≠none))->(All2 (D.res S H) (D.kids t) us)->(∀r H',Same H H'->D.res S H' t r->Q r H')->spMW D vs H Q
noncomputable def spM(D:Tr):Sp:=λvs H Q _=>spMW D vs H Q
inductive spBuiltW (P:Program) (w:World) (K:FZ) (mg:Str->Option Value) (base:Heap) (vs:List V) (H:Hp) (Q:VK):Prop
 |mk:∀(D:Tr) (S:AS) (t:D.T) (v:V) (fp fm:Addr) (dp dm:FuncData) (np nm:List Str),(vs=[v,.ref fp,.ref fm])->(FnOk P w K mg base CX0 2 fp dp np (spP D))->(kZ K (.ref fp)=true)->(Binds K dp np [])->(FnOk P w K mg base CX0 2 fm dm nm (spM D))->(kZ K (.ref fm)=true)->(Binds K dm nm [])->((∀a,S a->H a≠none))->(D.val S H t v)->(D.size t<=400000)->(∀r H',Same H H'->D.res S H' t r->Q r H')->spBuiltW P w K mg base vs H Q
noncomputable def spBuilt(P:Program)(w:World)(K:FZ)(mg:Str->Option Value)(base:Heap):Sp:=λvs H Q _=>spBuiltW P w K mg base vs H Q
end BV
namespace BV
open PySem L2
theorem upd_id{H:Hp}{a:Addr}{o:HO}(h:H a=some o):upd H a o=H:=by
 funext b
 unfold upd;split
 ·rename_i e;rw[e,h]
 ·rfl
end BV
namespace BV
open PySem L2
seal PE PT PW PA PS PSs PTs PI PG PGs PO
noncomputable def top(i:Nat):Stmt:=PySem.Challenge.pw_speakmill_k42_whole_plain_recursion.main.body.getD i (.Pass ⟨0,0,0,0⟩)
noncomputable abbrev s_built_up:Stmt:=top 10
noncomputable abbrev JF:List Str:=["root","parts_in","made","met","waiting","node","parts","done","many","made_parts"]
theorem sc_built_up:FnScope JF b0Z (B3 s_built_up):=fS
structure NoG (mg:Str->Option Value):Prop where
 len_:mg "len"=none
 list_:mg "list"=none
 reversed_:mg "reversed"=none
 range_:mg "range"=none
 zip_:mg "zip"=none
 isinstance_:mg "isinstance"=none
 str_:mg "str"=none
 tuple_:mg "tuple"=none
 sum_:mg "sum"=none
 max_:mg "max"=none
 min_:mg "min"=none
 int_:mg "int"=none
 bool_:mg "bool"=none
 enumerate_:mg "enumerate"=none
 all_:mg "all"=none
theorem ifT{c A B:Prop}[Decidable c](h:c)(a:A):if c then A else B:=by rw[if_pos h];exact a
theorem ifF{c A B:Prop}[Decidable c](h:¬c)(b:B):if c then A else B:=by rw[if_neg h];exact b
theorem O7{H:Hp}{a b:Addr}{o o':HO}(h:H b=some o)(n:b≠a):upd H a o' b=some o:=by rw[C4 n];exact h
theorem VQ{H:Hp}{a b:Addr}{o':HO}(h:upd H a o' b=none):H b=none/\b≠a:=by
 by_cases e:b=a
 ·subst e;rw[A1]at h;cases h
 ·rw[C4 e]at h;exact⟨h,e⟩
theorem OE(y:V)(ws:List V):(y::ws).reverse[(y::ws).reverse.length - 1]? =some y:=by
 rw[reverse_cons];simp
theorem NE(y:V)(ws:List V):(y::ws).reverse.dropLast=ws.reverse:=by
 rw[reverse_cons];simp
theorem clZ{ws us:List V}(h:ws.reverse=us):ws=us.reverse:=by rw[<-h,List.reverse_reverse]
theorem take_one{α:Type}{A:List α}{k:Nat}{t:α}(h:A[k]? =some t):A.take (k+1)=A.take k++ [t]:=by
 obtain⟨h1,h2⟩:=List.getElem?_eq_some_iff.mp h;rw[List.take_succ_eq_append_getElem h1,h2]
section
variable{P:Program}{w:World}{K:FZ}{mg:Str->Option Value}{base:Heap}{f:Addr}{fd:FuncData}
theorem ok_built_up(F:Fun K "built_up" "built_up" s_built_up f fd)(B:NoG mg):FnOk P w K mg base CX0 3 f fd b0Z (spBuilt P w K mg base):=by
 refine F.ok sc_built_up (λvs H Q E h=> ?_) (λcdv A outer s H vs Q E hr h=> ?_)
 ·obtain⟨D,S,t,v,fp,fm,dp,dm,np,nm,rfl,_⟩:=h;rfl
 obtain⟨D,S,t,v,fp,fm,dp,dm,np,nm,rfl,FP,kp,bp,FM,km,bm,hSo,hval,hsz,q⟩:=h;have nd:=sc_built_up.nd;have hu:=hr.units0;have z1:(1:Nat)<=sizeLine:=by decide
 have z2:(2:Nat)<=sizeLine:=by decide
 have z3:(400000:Nat)+400000<sizeLine:=by decide
 refine⟨_,(A6 (sS 3 nd (E5 A4))
   (A6 (sS 4 nd (E5 (A0 (pv 0) A4)))
   (A6 (MY PassesOwn.never (Y9 (K:=K) (pv 4) (λ_=>rfl)) (A6 (sS 5 nd (ZF (K:=K) PySem.F.plainAttrs_list PySem.F.slot_list_pop PySem.F.type_list_pop QM (pv 4)))
   (A6 (sS 6 nd (NL (P:=P) (w:=w) (K:=K) (mg:=mg) (base:=base) (pv 1) D8 (A0 (pv 5) A4)))
   (A6 (X1 (aP K (pv 3) (A9 (A0 (pv 5) (A0 (kL K B.len_ (pv 6)) A4)))))
   (A8 (X1 (acZ (K:=K) PySem.F.plainAttrs_list PySem.F.slot_list_extend PySem.F.type_list_extend UQ (pv 4) (A0 (QL (K:=K) rfl B.reversed_ rfl B.list_ rfl (A0 (pv 6) A4)) A4))))))))
   (A6 (CO (i:=7) nd rfl (Or.inr rfl) (E5 A4))
   (A6 (GD PassesOwn.never rfl (bHZ (K:=K) rfl B.reversed_ (A0 (pv 3) A4)) (WA rfl (EW (gN 5 nd) (EW (gN 8 nd) RB))) (A6 (O6 (i:=9) nd rfl rfl (cS (N:=JF) (sc:=B3 s_built_up) (caps:=[7]) (ns:=["done"])) rfl rfl rfl (P6 rfl B.range_ (A0 (pv 8) A4)) (λ_ _ _ _ _=>T4) (λ_ _ _ _ _=>(ZF (K:=K) PySem.F.plainAttrs_list PySem.F.slot_list_pop PySem.F.type_list_pop QM (pv 1))))
   (A8 (X1 (aP K (pv 7) (NL (P:=P) (w:=w) (K:=K) (mg:=mg) (base:=base) (pv 2) D8 (A0 (pv 5) (A0 (pv 9) A4))))))))
   (A8 (B5 (ZF (K:=K) PySem.F.plainAttrs_list PySem.F.slot_list_pop PySem.F.type_list_pop QM (pv 7))))))))), ?_⟩
 refine⟨(by show 0<=sizeLine;decide),λml hml=> ?_⟩;refine⟨_,rfl,z1,λwl hwl0=> ?_⟩;obtain⟨hwl,nwm⟩:=VQ hwl0;have g0:Same H (upd (upd H ml (.lst [])) wl (.lst [v])):=(A2 hml _).trans (A2 hwl0 _);obtain⟨S1,w1,hS1,mS,wS,sub1⟩:∃S1:AS,Wd H S S1/\(∀H':Hp,Same H H'->H' ml≠none->H' wl≠none->∀a,S1 a->H' a≠none)/\S1 ml/\S1 wl/\∀a,S a->S1 a:=by
  refine⟨λa=>S a\/a=ml\/a=wl,λa ha=> ?_,λH' sm h1 h2 a ha=> ?_,.inr (.inl rfl),.inr (.inr rfl),λa h=> .inl h⟩
  ·rcases ha with h|rfl|rfl
   ·exact .inl h
   ·exact .inr hml
   ·exact .inr hwl
  ·rcases ha with h|rfl|rfl
   ·obtain⟨o,ho⟩:=ne_none_iff_exists'.mp (hSo a h);rw[sm _ _ ho];exact λz=>nomatch z
   ·exact h1
   ·exact h2
 have hval1:=D.vw w1 hval;refine⟨λm σ H'=>∃(N W:List D.T) (ms ws:List V) (y1 y2:Option V),σ=[some v,some (.ref fp),some (.ref fm),some (.ref ml),some (.ref wl),y1,y2,none,none,none]/\Same H H'/\H' ml=some (.lst ms)/\H' wl=some (.lst ws)/\
   All2 (MetAt D S1 H') N ms/\All2 (D.val S1 H') W ws.reverse/\Reach D t N W/\m=(W.map D.size).sum,
  ⟨D.size t,[],[t],[],[v],none,none,rfl,g0,O7 A1 (Ne.symm nwm),A1,.nil,.cons (D.vm (.of g0) hval1) .nil,.start,by simp⟩, ?_⟩
 rintro m σ H' ⟨N,W,ms,ws,y1,y2,rfl,sm,hm,hw,hN,hW,hR,rfl⟩;have hms:=hN.len;have hRs:=hR.size;refine⟨_,rfl, !ws.isEmpty,.inl ⟨ws,SqL.of hw,rfl⟩, ?_⟩;generalize ew:ws.reverse=wr at hW;have ew:=clZ ew;subst ew;cases hW with
 | @cons n u W' wr hn hW'=>
  refine ifT (by simp) ?_;refine⟨_,λ_ _ h=>h, ?_⟩;refine⟨_,rfl,.inl ⟨rfl,_,SqL.of hw⟩,wl,_,_,rfl,rfl,hw,OE _ _, ?_⟩;rw[NE];have t1:Kp S1 H' (upd H' wl (.lst wr.reverse)):=.upd wS hw _;have hm1:upd H' wl (.lst wr.reverse) ml=some (.lst ms):=O7 hm (Ne.symm nwm);have hw1:upd H' wl (.lst wr.reverse) wl=some (.lst wr.reverse):=A1;have o1:Same H (upd H' wl (.lst wr.reverse)):=λb o e=>O7 (sm b o e) (C9 e hwl);generalize upd H' wl (.lst wr.reverse)=H1 at t1 hm1 hw1 o1⊢;have hkn:=D.kids_le n;have hszn:D.size n<=400000:=by simp only[map_cons,sum_cons]at hRs;omega
  refine⟨_,rfl,fp,dp,np,spP D,2,rfl,FP,hr.mono (by decide),kp,bp,_,rfl,S1,n,u,rfl,D.vm t1 hn,hszn,λr H2 ps s2 hr1 hr2 hps=> ?_⟩;have hm2:=s2 _ _ hm1;have hw2:=s2 _ _ hw1;have o2:=o1.trans s2;have t2:Kp S1 H' H2:=t1.trans (.of s2);have nrw:r≠wl:=λe=>by subst e;rw[hw1]at hr1;cases hr1
  have nrm:r≠ml:=λe=>by subst e;rw[hm1]at hr1;cases hr1
  have hpl:=hps.len;refine⟨_,rfl,.inl ⟨rfl,_,SqL.of hm2⟩,_,rfl,_,rfl,_,_,rfl,.inl ⟨_,SqL.of hr2,rfl⟩,z2,λp hp=> ?_⟩;have s3:Same H2 (upd H2 p (.tup [u,.int (ps.length:Nat)])):=A2 hp _;refine⟨ml,_,_,rfl,rfl,s3 _ _ hm2,by omega, ?_⟩;have t4:Kp S1 H' (upd (upd H2 p (.tup [u,.int (ps.length:Nat)])) ml (.lst (ms++ [.ref p]))):=(t2.trans (.of s3)).trans (.upd mS (s3 _ _ hm2) _);have hp4:upd (upd H2 p (.tup [u,.int (ps.length:Nat)])) ml (.lst (ms++ [.ref p])) p=some (.tup [u,.int (ps.length:Nat)]):=O7 A1 (λe=>by subst e;rw[hm2]at hp;cases hp);have hm4:upd (upd H2 p (.tup [u,.int (ps.length:Nat)])) ml (.lst (ms++ [.ref p])) ml=some (.lst (ms++ [.ref p])):=A1;have hw4:upd (upd H2 p (.tup [u,.int (ps.length:Nat)])) ml (.lst (ms++ [.ref p])) wl=some (.lst wr.reverse):=O7 (s3 _ _ hw2) nwm;have hr4:upd (upd H2 p (.tup [u,.int (ps.length:Nat)])) ml (.lst (ms++ [.ref p])) r=some (.lst ps):=O7 (s3 _ _ hr2) nrm;have o4:Same H (upd (upd H2 p (.tup [u,.int (ps.length:Nat)])) ml (.lst (ms++ [.ref p]))):=λb o e=>O7 (s3 _ _ (o2 b o e)) (C9 e hml);have t24:Kp S1 H2 (upd (upd H2 p (.tup [u,.int (ps.length:Nat)])) ml (.lst (ms++ [.ref p]))):=(Kp.of s3).trans (.upd mS (s3 _ _ hm2) _);generalize upd (upd H2 p (.tup [u,.int (ps.length:Nat)])) ml (.lst (ms++ [.ref p]))=H4 at t4 hp4 hm4 hw4 hr4 o4 t24⊢;refine⟨_,rfl,.inl ⟨rfl,_,SqL.of hw4⟩,_,rfl,r,ps,rfl,SqL.of hr4,λr2 hr2'=> ?_⟩;have s5:Same H4 (upd H4 r2 (.lst ps.reverse)):=A2 hr2' _;have hWl:=D.len_le W';have hWe:=hW'.len;refine⟨wl,r2,_,_,rfl,rfl,s5 _ _ hw4,A1, ?_, ?_⟩
  ·simp only[length_reverse];simp only[map_cons,sum_cons]at hRs;omega
  have t6:Kp S1 H4 (upd (upd H4 r2 (.lst ps.reverse)) wl (.lst (wr.reverse++ps.reverse))):=(Kp.of s5).trans (.upd wS (s5 _ _ hw4) _);refine⟨_, ?_,N++ [n],D.kids n++W',ms++ [.ref p],wr.reverse++ps.reverse,_,_,rfl,λb o e=>O7 (s5 _ _ (o4 b o e)) (C9 e hwl),O7 (s5 _ _ hm4) (Ne.symm nwm),A1, ?_, ?_,.step hR,rfl⟩
  ·simp only[map_append,List.sum_append,map_cons,sum_cons];have:=D.hsz n;omega
  ·refine(hN.imp λa b h=>h.mono (t4.trans t6)).app (.cons ⟨p,u,rfl, ?_,D.vm (t4.trans t6) hn⟩ .nil);rw[hpl];exact t6.tups hp4
  ·rw[List.reverse_append,List.reverse_reverse,List.reverse_reverse];exact(hps.imp λa b h=>D.vm (t24.trans t6) h).app (hW'.imp λa b h=>D.vm (t4.trans t6) h)
 |nil=>
  refine ifF (by simp) ?_;refine⟨(by show 0<=sizeLine;decide),λdl hdl=> ?_⟩;have s7:Same H' (upd H' dl (.lst [])):=A2 hdl _;have hdl0:H dl=none:=sm.free hdl;have ndm:dl≠ml:=λe=>by subst e;rw[hm]at hdl;cases hdl
  have hm':H' ml≠none:=by rw[hm];exact λz=>nomatch z
  have hw':H' wl≠none:=by rw[hw];exact λz=>nomatch z
  have ndw:dl≠wl:=λe=>by subst e;rw[hw]at hdl;cases hdl
  obtain⟨S2,w2,hS2,dS,sub2⟩:∃S2:AS,Wd H' S1 S2/\(∀H2:Hp,Same H H2->H2 ml≠none->H2 wl≠none->H2 dl≠none->∀a,S2 a->H2 a≠none)/\S2 dl/\∀a,S a->S2 a:=by
   refine⟨λa=>S1 a\/a=dl,λa ha=> ?_,λH2 sm2 h1 h2 h3 a ha=> ?_,.inr rfl,λa h=> .inl (sub1 a h)⟩
   ·rcases ha with h|rfl
    ·exact .inl h
    ·exact .inr hdl
   ·rcases ha with h|rfl
    ·exact hS1 H2 sm2 h1 h2 a h
    ·exact h3
  have hN2:=hN.imp λa b h=>h.wide w2;refine⟨_,rfl,ml,ms,rfl,SqL.of (s7 _ _ hm),ajZ (xs:=ms) (λi σ H'=>∃(W:List D.T) (us:List V) (y1 y2 y3 y4:Option V),σ=[some v,some (.ref fp),some (.ref fm),some (.ref ml),some (.ref wl),y1,y2,some (.ref dl),y3,y4]/\Same H H'/\H' ml=some (.lst ms)/\H' wl≠none/\
   All2 (MetAt D S2 H') N ms/\H' dl=some (.lst us.reverse)/\All2 (D.res S2 H') W us/\Reach D t (N.take (N.length - i)) W) ?_ ?_ ?_ ?_⟩
  ·exact⟨[],[],_,_,_,_,rfl,sm.trans s7,s7 _ _ hm,(by rw[s7 _ _ hw];exact λz=>nomatch z),hN2.imp λa b h=>h.mono (.of s7),A1,.nil,by rw[Nat.sub_zero,List.take_length];exact hR⟩
  ·rintro i σ H' _ ⟨W,us,y1,y2,y3,y4,rfl,sm,hm,_⟩;exact SqL.of hm
  ·rintro i x σ H' hx ⟨W,us,y1,y2,y3,y4,rfl,sm,hm,hwn,hN,hd,hW,hRi⟩;have hi:i<ms.length:=by
    have:=(List.getElem?_eq_some_iff.mp hx).1
    simpa using this
   rw[getElem?_reverse hi]at hx;obtain⟨n,hn,p,u,rfl,hp,hu'⟩:=hN.get hx;have e1:N.length - i=(ms.length - 1 - i)+1:=by omega
   rw[e1,take_one hn]at hRi;obtain⟨r,rfl,hRb⟩:=hRi.back;obtain⟨b1,b2,rfl,hb1,hb2⟩:=hW.split;have hbl:=hb1.len;have hkn:=D.kids_le n;have hRs2:=hRb.size;have hszn:D.size n<=400000:=by simp only[map_cons,sum_cons]at hRs2;omega
   refine⟨p,_,rfl,SqT.of hp,rfl,_,_,rfl,_,_,rfl,rfl, ?_⟩;refine⟨_,rfl,((D.kids n).length:Nat),rfl,by omega,by omega,R4 (n:=(D.kids n).length) (λj ys H2=>ys=b1.take j/\H2=upd H' dl (.lst (b1.drop j++b2).reverse)) ?_ ?_ ?_ ?_⟩
   ·exact⟨rfl,by rw[List.drop_zero];exact(upd_id hd).symm⟩
   ·rintro j ys H2 hj ⟨rfl,_⟩;rw[length_take];omega
   ·rintro j ys H2 hj ⟨rfl,rfl⟩;refine Y0 ?_;have hjb:j<b1.length:=by omega
    have ed:b1.drop j=b1[j]::b1.drop (j+1):=List.drop_eq_getElem_cons hjb;rw[ed];refine⟨_,rfl,.inl ⟨rfl,_,SqL.of A1⟩,dl,_,_,rfl,rfl,A1,OE _ _, ?_⟩;refine⟨?_, ?_⟩
    ·rw[List.take_succ_eq_append_getElem hjb]
    ·rw[apZ];congr 2;exact NE _ _
   ·rintro ys H2 ⟨rfl,rfl⟩ l hl;rw[hbl,List.drop_length,List.take_length,List.nil_append]at*;have s8:Same (upd H' dl (.lst b2.reverse)) (upd (upd H' dl (.lst b2.reverse)) l (.lst b1)):=A2 hl _;have t8:Kp S2 H' (upd (upd H' dl (.lst b2.reverse)) l (.lst b1)):=(Kp.upd dS hd _).trans (.of s8);have wn8:upd (upd H' dl (.lst b2.reverse)) l (.lst b1) wl≠none:=by
     obtain⟨o,ho⟩:=ne_none_iff_exists'.mp hwn;rw[s8 _ _ (O7 ho (Ne.symm ndw))];exact λz=>nomatch z
    have hd8:upd (upd H' dl (.lst b2.reverse)) l (.lst b1) dl=some (.lst b2.reverse):=s8 _ _ A1;have hl8:upd (upd H' dl (.lst b2.reverse)) l (.lst b1) l=some (.lst b1):=A1;have hm8:upd (upd H' dl (.lst b2.reverse)) l (.lst b1) ml=some (.lst ms):=s8 _ _ (O7 hm (Ne.symm ndm));have o8:Same H (upd (upd H' dl (.lst b2.reverse)) l (.lst b1)):=λb o e=>s8 _ _ (O7 (sm b o e) (C9 e hdl0));have hS8:=hS2 _ o8 (by rw[hm8];exact λz=>nomatch z) wn8 (by rw[hd8];exact λz=>nomatch z);have nlS:¬S2 l:=λz=>by
     refine hS2 _ (λb o e=>O7 (sm b o e) (C9 e hdl0)) ?_ ?_ (by rw[A1];exact λz=>nomatch z) l z hl
     ·rw[O7 hm (Ne.symm ndm)];exact λz=>nomatch z
     ·obtain⟨o,ho⟩:=ne_none_iff_exists'.mp hwn;rw[O7 ho (Ne.symm ndw)];exact λz=>nomatch z
    generalize upd (upd H' dl (.lst b2.reverse)) l (.lst b1)=H8 at s8 t8 hd8 hl8 hm8 o8 wn8 hS8⊢;refine⟨_,rfl,.inl ⟨rfl,_,SqL.of hd8⟩,_,rfl,fm,dm,nm,spM D,2,rfl,FM,hr.mono (by decide),km,bm,_,rfl,_,rfl,S2,n,u,l,b1,rfl,D.vm t8 hu',hszn,hl8,nlS,hS8,hb1.imp λa b h=>D.rm t8 h,λy H9 s9 hy=> ?_⟩;have hb2l:=hb2.len;have hrl:=D.len_le r;refine⟨dl,_,_,rfl,rfl,s9 _ _ hd8, ?_, ?_⟩
    ·rw[length_reverse];simp only[map_cons,sum_cons]at hRs2;omega
    have t9:Kp S2 H9 (upd H9 dl (.lst (b2.reverse++ [y]))):=.upd dS (s9 _ _ hd8) _;have t89:Kp S2 H' (upd H9 dl (.lst (b2.reverse++ [y]))):=(t8.trans (.of s9)).trans t9;have wn9:upd H9 dl (.lst (b2.reverse++ [y])) wl≠none:=by
     obtain⟨o,ho⟩:=ne_none_iff_exists'.mp wn8;rw[O7 (s9 _ _ ho) (Ne.symm ndw)];exact λz=>nomatch z
    refine⟨n::r,y::b2,_,_,_,_,rfl,λb o e=>O7 (s9 _ _ (o8 b o e)) (C9 e hdl0),O7 (s9 _ _ hm8) (Ne.symm ndm),wn9,hN.imp λa b h=>h.mono t89, ?_,.cons (D.rm t9 hy) (hb2.imp λa b h=>D.rm t89 h), ?_⟩
    ·rw[reverse_cons];exact A1
    ·have e2:N.length - (i+1)=ms.length - 1 - i:=by omega
     rw[e2];exact hRb
  ·rintro σ H' ⟨W,us,y1,y2,y3,y4,rfl,sm,hm,hwn,hN,hd,hW,hRi⟩;rw[<-hms,Nat.sub_self,List.take_zero]at hRi;cases hRi.first
   cases hW with
   | @cons _ y _ us hy hrest=>
    cases hrest;refine⟨_,rfl,.inl ⟨rfl,_,SqL.of hd⟩,dl,_,_,rfl,rfl,hd,rfl, ?_⟩;exact q y _ (λb o e=>O7 (sm b o e) (C9 e hdl0)) (D.rw' (λa ha=> .inl (sub2 a ha)) (D.rm (.upd dS hd _) hy))
end
end BV
namespace NM
open PySem L2
seal PE PT PW PA PS PSs PTs PI PG PGs PO
noncomputable def top(i:Nat):Stmt:=PySem.Challenge.pw_speakmill_k42_whole_plain_recursion.main.body.getD i (.Pass ⟨0,0,0,0⟩)
noncomputable abbrev s_two_told:Stmt:=top 2
noncomputable abbrev s_quotient_told:Stmt:=top 3
noncomputable abbrev s_outcome:Stmt:=top 4
noncomputable abbrev s_bounded:Stmt:=top 5
noncomputable abbrev QN:List Str:=["sign","a","b"]
theorem sc_two_told:FnScope QN UF (B3 s_two_told):=fS
noncomputable abbrev HA:List Str:=["a","b"]
theorem sc_quotient_told:FnScope HA ["a","b"] (B3 s_quotient_told):=fS
noncomputable abbrev TK:List Str:=["sign","a","b"]
theorem sc_outcome:FnScope TK UF (B3 s_outcome):=fS
noncomputable abbrev SX:List Str:=["number"]
theorem sc_bounded:FnScope SX ["number"] (B3 s_bounded):=fS
structure NoG (mg:Str->Option Value):Prop where
 len_:mg "len"=none
 min_:mg "min"=none
 abs_:mg "abs"=none
 isinstance_:mg "isinstance"=none
 tuple_:mg "tuple"=none
 int_:mg "int"=none
 bool_:mg "bool"=none
theorem A2{H:Hp}{p:Addr}(h:H p=none)(o:HO):Same H (upd H p o):=λb u q=>by rw[C4 (C9 q h)];exact q
theorem ifT{c A B:Prop}[Decidable c](h:c)(a:A):if c then A else B:=by rw[if_pos h];exact a
theorem ifF{c A B:Prop}[Decidable c](h:¬c)(b:B):if c then A else B:=by rw[if_neg h];exact b
noncomputable abbrev GR:Int:=10000000000000000000000000000000000000000
noncomputable def bnd(n:Int):List V:=if n>GR\/n< -GR then [.str "refused",.str "great"]else [.str "value",.int n]
noncomputable def quo(a b:Int):List V:=if b=0 then [.str "refused",.str "nought"]else [.str "value",.int (a.fdiv b)]
theorem D1:(2:Nat)<=sizeLine:=by decide
section
variable{P:Program}{w:World}{K:FZ}{mg:Str->Option Value}{base:Heap}{f:Addr}{fd:FuncData}{BO JT JV:Addr}{BN JU JW:FuncData}{tG:Tok}
inductive spQuoW(vs:List V)(H:Hp)(Q:VK):Prop
 |mk:∀a b:Int,(vs=[.int a,.int b])->(b.natAbs.log2<9000)->(∀r H',Same H H'->H' r=some (.tup (quo a b))->Q (.ref r) H')->spQuoW vs H Q
noncomputable def aOZ:Sp:=λvs H Q _=>spQuoW vs H Q
theorem ok_quotient_told(F:Fun K "quotient_told" "quotient_told" s_quotient_told f fd):FnOk P w K mg base CX0 1 f fd ["a","b"] aOZ:=by
 refine F.ok sc_quotient_told (λvs H Q E h=> ?_) (λcdv A outer s H vs Q E hr h=> ?_)
 ·obtain⟨a,b,rfl,_⟩:=h;rfl
 obtain⟨a,b,rfl,hb,q⟩:=h;have nd:=sc_quotient_told.nd;have hu:=hr.units0;refine⟨_,(A6 (B8 (B0 (kEq (K:=K) hu) (pv 1) A3 rfl) (A8 (B5 (A9 (A0 A7 (A0 A7 A4))))) B6)
   (A8 (B5 (A9 (A0 A7 (A0 (B4 B9 (pv 0) (pv 1)) A4)))))), ?_⟩
 refine⟨_,rfl,.inl ⟨rfl,_,rfl,K6 (λe=> ?_) (λe=> ?_)⟩⟩
 ·have e':b=0:=by have:=of_decide_eq_true e;injection this
  refine⟨D1,λp hp=>q p _ (A2 hp _) ?_⟩;rw[A1,quo,if_pos e']
 ·have e':b≠0:=λz=>e (by rw[z];rfl);refine⟨_,rfl,_,rfl,_,_,rfl,rfl,⟨e',hb⟩,D1,λp hp=>q p _ (A2 hp _) ?_⟩;rw[A1,quo,if_neg e']
inductive spOutW (vs:List V) (H:Hp) (Q:VK):Prop
 |mk:∀(s:Str) (a b:Int),(vs=[.str s,.int a,.int b])->((s="+"/\Q (.int (a+b)) H\/s="-"/\Q (.int (a - b)) H\/s="*"/\IntMulOk a b/\Q (.int (a*b)) H))->spOutW vs H Q
noncomputable def aLZ:Sp:=λvs H Q _=>spOutW vs H Q
theorem ok_outcome(F:Fun K "outcome" "outcome" s_outcome f fd):FnOk P w K mg base CX0 1 f fd UF aLZ:=by
 refine F.ok sc_outcome (λvs H Q E h=> ?_) (λcdv A outer s H vs Q E hr h=> ?_)
 ·obtain⟨s,a,b,rfl,_⟩:=h;rfl
 obtain⟨s,a,b,rfl,q⟩:=h;have nd:=sc_outcome.nd;have hu:=hr.units0;refine⟨_,(A6 (B8 (B0 (kEq (K:=K) hu) (pv 0) A7 rfl) (A8 (B5 (B4 P7 (pv 1) (pv 2)))) B6)
   (A6 (B8 (B0 (kEq (K:=K) hu) (pv 0) A7 rfl) (A8 (B5 (B4 U5 (pv 1) (pv 2)))) B6)
   (A8 (B5 (B4 Q5 (pv 1) (pv 2)))))), ?_⟩
 rcases q with⟨rfl,q⟩|⟨rfl,q⟩|⟨rfl,hm,q⟩
 ·exact⟨_,rfl,.inl ⟨rfl,_,rfl,ifT (by decide) ⟨_,rfl,_,rfl,.inl ⟨_,_,rfl,rfl,q⟩⟩⟩⟩
 ·exact⟨_,rfl,.inl ⟨rfl,_,rfl,ifF (by decide) ⟨_,rfl,.inl ⟨rfl,_,rfl,ifT (by decide) ⟨_,rfl,_,rfl,_,_,rfl,rfl,q⟩⟩⟩⟩⟩
 ·exact⟨_,rfl,.inl ⟨rfl,_,rfl,ifF (by decide) ⟨_,rfl,.inl ⟨rfl,_,rfl,ifF (by decide) ⟨_,rfl,_,rfl,_,_,rfl,rfl,hm,q⟩⟩⟩⟩⟩
inductive spBndW (vs:List V) (H:Hp) (Q:VK):Prop
 |mk:∀n:Int,(vs=[.int n])->(∀r H',Same H H'->H' r=some (.tup (bnd n))->Q (.ref r) H')->spBndW vs H Q
noncomputable def aVZ:Sp:=λvs H Q _=>spBndW vs H Q
theorem ok_bounded(F:Fun K "bounded" "bounded" s_bounded f fd)(B:NoG mg)(m_GREATEST:mg "GREATEST"=some (.int GR tG)):FnOk P w K mg base CX0 1 f fd ["number"] aVZ:=by
 refine F.ok sc_bounded (λvs H Q E h=> ?_) (λcdv A outer s H vs Q E hr h=> ?_)
 ·obtain⟨n,rfl,_⟩:=h;rfl
 obtain⟨n,rfl,q⟩:=h;have nd:=sc_bounded.nd;have hu:=hr.units0;refine⟨_,(A6 (B8 (B0 Y4 (O0 NV rfl B.abs_ XS (A0 (pv 0) A4)) (BL (v:=.int 10000000000000000000000000000000000000000) rfl m_GREATEST ⟨_,rfl⟩) rfl) (A8 (B5 (A9 (A0 A7 (A0 A7 A4))))) B6)
   (A8 (B5 (A9 (A0 A7 (A0 (pv 0) A4)))))), ?_⟩
 refine⟨_,rfl,_,rfl,_,_,rfl,rfl,_,rfl,K6 (λe=> ?_) (λe=> ?_)⟩
 ·have e1:GR<(if n<0 then -n else n):=of_decide_eq_true e;have e':n>GR\/n< -GR:=by
   split at e1
   ·exact .inr (by omega)
   ·exact .inl (by omega)
  refine⟨D1,λp hp=>q p _ (A2 hp _) ?_⟩;rw[A1,bnd,if_pos e']
 ·have e1:¬GR<(if n<0 then -n else n):=λz=>e (decide_eq_true z);have e':¬(n>GR\/n< -GR):=by
   split at e1<;>omega
  refine⟨_,rfl,D1,λp hp=>q p _ (A2 hp _) ?_⟩;rw[A1,bnd,if_neg e']
noncomputable def sg:Nat->Str
 |0=> "+"|1=> "-"|2=> "*"|3=> "<"|4=> "="|_=> "/"
noncomputable def tw:Nat->Int->Int->List V
 |0,a,b=>bnd (a+b)|1,a,b=>bnd (a - b)|2,a,b=>bnd (a*b)|3,a,b=> [.str "value",.bl (decide (a<b))]|4,a,b=> [.str "value",.bl (decide (V.int a=V.int b))]|_,a,b=>quo a b
inductive spTwoW (vs:List V) (H:Hp) (Q:VK):Prop
 |mk:∀(k:Nat) (a b:Int),(vs=[.str (sg k),.int a,.int b])->(k<6)->(IntMulOk a b)->(b.natAbs.log2<9000)->(∀r H',Same H H'->H' r=some (.tup (tw k a b))->Q (.ref r) H')->spTwoW vs H Q
noncomputable def spTwo:Sp:=λvs H Q _=>spTwoW vs H Q
theorem ok_two_told(F:Fun K "two_told" "two_told" s_two_told f fd)
  (W5:Cn P w K mg base CX0 1 "quotient_told" ["a","b"] aOZ)
  (FL:Cn P w K mg base CX0 1 "outcome" UF aLZ)
  (FU:Cn P w K mg base CX0 1 "bounded" ["number"] aVZ):
  FnOk P w K mg base CX0 2 f fd UF spTwo:=by
 refine F.ok sc_two_told (λvs H Q E h=> ?_) (λcdv A outer s H vs Q E hr h=> ?_)
 ·obtain⟨k,a,b,rfl,_⟩:=h;rfl
 obtain⟨k,a,b,rfl,hk,hm,hb,q⟩:=h;have nd:=sc_two_told.nd;have hu:=hr.units0;refine⟨_,(A6 (B8 (B0 (kEq (K:=K) hu) (pv 0) A7 rfl) (A8 (B5 (A9 (A0 A7 (A0 (M9 IM (pv 1) (pv 2) rfl) A4))))) B6)
   (A6 (B8 (B0 (kEq (K:=K) hu) (pv 0) A7 rfl) (A8 (B5 (A9 (A0 A7 (A0 (M9 (kEq (K:=K) hu) (pv 1) (pv 2) rfl) A4))))) B6)
   (A6 (B8 (B0 (kEq (K:=K) hu) (pv 0) A7 rfl) (A8 (B5 (cC W5 hr (A0 (pv 1) (A0 (pv 2) A4))))) B6)
   (A8 (B5 (cC FU hr (A0 (cC FL hr (A0 (pv 0) (A0 (pv 1) (A0 (pv 2) A4)))) A4))))))), ?_⟩
 have hk':k=0\/k=1\/k=2\/k=3\/k=4\/k=5:=by omega
 rcases hk' with rfl|rfl|rfl|rfl|rfl|rfl
 ·exact⟨_,rfl,.inl ⟨rfl,_,rfl,ifF (by decide) ⟨_,rfl,.inl ⟨rfl,_,rfl,ifF (by decide) ⟨_,rfl,.inl ⟨rfl,_,rfl,ifF (by decide)
   ⟨_,rfl,_,rfl,_,rfl,_,_,_,rfl,.inl ⟨rfl,_,rfl,q⟩⟩⟩⟩⟩⟩⟩⟩
 ·exact⟨_,rfl,.inl ⟨rfl,_,rfl,ifF (by decide) ⟨_,rfl,.inl ⟨rfl,_,rfl,ifF (by decide) ⟨_,rfl,.inl ⟨rfl,_,rfl,ifF (by decide)
   ⟨_,rfl,_,rfl,_,rfl,_,_,_,rfl,.inr (.inl ⟨rfl,_,rfl,q⟩)⟩⟩⟩⟩⟩⟩⟩
 ·exact⟨_,rfl,.inl ⟨rfl,_,rfl,ifF (by decide) ⟨_,rfl,.inl ⟨rfl,_,rfl,ifF (by decide) ⟨_,rfl,.inl ⟨rfl,_,rfl,ifF (by decide)
   ⟨_,rfl,_,rfl,_,rfl,_,_,_,rfl,.inr (.inr ⟨rfl,hm,_,rfl,q⟩)⟩⟩⟩⟩⟩⟩⟩
 ·exact⟨_,rfl,.inl ⟨rfl,_,rfl,ifT (by decide) ⟨_,rfl,_,rfl,_,_,rfl,rfl,D1,λp hp=>q p _ (A2 hp _) A1⟩⟩⟩
 ·exact⟨_,rfl,.inl ⟨rfl,_,rfl,ifF (by decide) ⟨_,rfl,.inl ⟨rfl,_,rfl,ifT (by decide) ⟨_,rfl,_,rfl,.inl ⟨rfl,D1,λp hp=>q p _ (A2 hp _) A1⟩⟩⟩⟩⟩⟩
 ·exact⟨_,rfl,.inl ⟨rfl,_,rfl,ifF (by decide) ⟨_,rfl,.inl ⟨rfl,_,rfl,ifF (by decide) ⟨_,rfl,.inl ⟨rfl,_,rfl,ifT (by decide)
   ⟨_,rfl,_,rfl,_,_,rfl,hb,q⟩⟩⟩⟩⟩⟩⟩
end
end NM
namespace RG
open PySem
inductive Kd where
 |num|tru|lst (k:Kd)|fn (a b:Kd)
inductive Tm where
 |nil|cons (a r:Tm)|num (n:Int)|tru (b:Bool)|non|name (z:Str)|fn (z:Str) (b:Tm)|two (s:Str) (a b:Tm)|one (w:Str) (a:Tm)|ite (c a b:Tm)|let_ (z:Str) (a b:Tm)|do_ (f a:Tm)|call (z:Str) (as:Tm)
inductive Vl where
 |int (n:Int)|bl (b:Bool)|lst (r:Vl)|fn (z:Str) (b:Tm) (e:Vl)|nil|cons (a r:Vl)|bind (e:Vl) (z:Str) (a:Vl)
noncomputable def row:Tm->List Tm
 | .cons a r=>a::row r
 |_=> []
noncomputable def look(z:Str):Vl->Option Vl
 | .bind e y a=>if y=z then some a else look z e
 |_=>none
noncomputable def Q3:Vl->Nat
 | .cons _ r=>Q3 r+1
 | .bind e _ _=>Q3 e+1
 |_=>0
inductive Out where
 |val (v:Vl)|ref (w:Str)
noncomputable abbrev GR:Int:=10000000000000000000000000000000000000000
noncomputable def FW(n:Int):Out:=if n>GR\/n< -GR then .ref "great"else .val (.int n)
noncomputable def sg:Nat->Str
 |0=> "+"|1=> "-"|2=> "*"|3=> "<"|4=> "="|_=> "/"
noncomputable def tw:Nat->Int->Int->Out
 |0,a,b=>FW (a+b)|1,a,b=>FW (a - b)|2,a,b=>FW (a*b)|3,a,b=> .val (.bl (decide (a<b)))|4,a,b=> .val (.bl (decide (a=b)))|_,a,b=>if b=0 then .ref "nought"else .val (.int (a.fdiv b))
inductive Two:Str->Vl->Vl->Out->Prop
 |num {k a b}:k<6->Two (sg k) (.int a) (.int b) (tw k a b)
 |cons {a r}:Two ":" a (.lst r) (.val (.lst (.cons a r)))
inductive One:Str->Vl->Out->Prop
 |not {b}:One "not" (.bl b) (.val (.bl (!b)))
 |emptyT:One "empty" (.lst .nil) (.val (.bl true))
 |emptyF {a r}:One "empty" (.lst (.cons a r)) (.val (.bl false))
 |headN:One "head" (.lst .nil) (.ref "head")
 |head {a r}:One "head" (.lst (.cons a r)) (.val a)
 |tailN:One "tail" (.lst .nil) (.ref "tail")
 |tail {a r}:One "tail" (.lst (.cons a r)) (.val (.lst r))
inductive Fr where
 |two (s:Str) (t:Tm) (e:Vl)|then_ (s:Str) (a:Vl)|one (w:Str)|ite (a b:Tm) (e:Vl)|let_ (z:Str) (b:Tm) (e:Vl)|do_ (a:Tm) (e:Vl)|with_ (f:Vl)|call (z:Str) (vs:List Vl) (ts:List Tm) (e:Vl)|back
inductive Fo where
 |term (t:Tm) (e:Vl)|val (v:Vl)
structure Sta where
 fo:Fo
 pile:List Fr
 calls:Int
 deep:Int
inductive Res where
 |st (s:Sta)|dry|deep|refd (w:Str)|value (v:Vl)
structure Dn where
 name:Str
 pars:List Str
 body:Tm
noncomputable def abZ(e:Vl)(ns:List Str)(vs:List Vl):Vl:=(ns.zip vs).foldl (λe x=> .bind e x.1 x.2) e
noncomputable abbrev env(ns:List Str)(vs:List Vl):Vl:=abZ .nil ns vs
noncomputable def into(most:Int)(b:Tm)(e:Vl)(r:List Fr)(calls deep:Int):Res:=
 if most<=calls then .dry else if 60<=deep then .deep else .st ⟨.term b e,.back::r,calls+1,deep+1⟩
noncomputable def out(o:Out)(r:List Fr)(c d:Int):Res:=match o with
 | .val v=> .st ⟨.val v,r,c,d⟩
 | .ref w=> .refd w
inductive Once (e:Vl):Tm->Vl->Prop
 |num {n}:Once e (.num n) (.int n)
 |tru {b}:Once e (.tru b) (.bl b)
 |non:Once e .non (.lst .nil)
 |name {z v}:look z e=some v->Once e (.name z) v
 |fn {z b}:Once e (.fn z b) (.fn z b e)
inductive Wait (e:Vl):Tm->Tm->Fr->Prop
 |two {s a b}:Wait e (.two s a b) a (.two s b e)
 |one {w a}:Wait e (.one w a) a (.one w)
 |ite {c a b}:Wait e (.ite c a b) c (.ite a b e)
 |let_ {z a b}:Wait e (.let_ z a b) a (.let_ z b e)
 |do_ {f a}:Wait e (.do_ f a) f (.do_ a e)
 |call {z a r}:Wait e (.call z (.cons a r)) a (.call z [] (row r) e)
inductive ToT:Fr->Vl->Fo->List Fr->Prop
 |ite {a b e c}:ToT (.ite a b e) (.bl c) (.term (if c then a else b) e) []
 |let_ {z b e v}:ToT (.let_ z b e) v (.term b (.bind e z v)) []
 |two {s t e v}:ToT (.two s t e) v (.term t e) [.then_ s v]
 |do_ {t e v}:ToT (.do_ t e) v (.term t e) [.with_ v]
 |call {z vs t ts e v}:ToT (.call z vs (t::ts) e) v (.term t e) [.call z (vs++ [v]) ts e]
inductive Stp (D:List Dn) (most:Int):Sta->Res->Prop
 |once {t e v pl c d}:Once e t v->Stp D most ⟨.term t e,pl,c,d⟩ (.st ⟨.val v,pl,c,d⟩)
 |call0 {z dn e pl c d}:(D.find? λx=>x.name==z)=some dn->dn.pars=[]->Stp D most ⟨.term (.call z .nil) e,pl,c,d⟩ (into most dn.body .nil pl c d)
 |wait {t e t1 fr pl c d}:Wait e t t1 fr->Stp D most ⟨.term t e,pl,c,d⟩ (.st ⟨.term t1 e,fr::pl,c,d⟩)
 |value {v c d}:Stp D most ⟨.val v,[],c,d⟩ (.value v)
 |back {v pl c d}:Stp D most ⟨.val v,.back::pl,c,d⟩ (.st ⟨.val v,pl,c,d - 1⟩)
 |one {w v o pl c d}:One w v o->Stp D most ⟨.val v,.one w::pl,c,d⟩ (out o pl c d)
 |then_ {s a v o pl c d}:Two s a v o->Stp D most ⟨.val v,.then_ s a::pl,c,d⟩ (out o pl c d)
 |with_ {z b e v pl c d}:Stp D most ⟨.val v,.with_ (.fn z b e)::pl,c,d⟩ (into most b (.bind e z v) pl c d)
 |call {z vs e v dn pl c d}:(D.find? λx=>x.name==z)=some dn->dn.pars.length=vs.length+1->Stp D most ⟨.val v,.call z vs [] e::pl,c,d⟩ (into most dn.body (env dn.pars (vs++ [v])) pl c d)
 |to {fr v fo fs pl c d}:ToT fr v fo fs->Stp D most ⟨.val v,fr::pl,c,d⟩ (.st ⟨fo,fs++pl,c,d⟩)
noncomputable def dt:Tm->Nat
 | .nil=>0
 | .cons a r=>max (dt a) (dt r)
 | .fn _ b=>dt b+1
 | .two _ a b=>max (dt a) (dt b)+1
 | .one _ a=>dt a+1
 | .ite c a b=>max (dt c) (max (dt a) (dt b))+1
 | .let_ _ a b=>max (dt a) (dt b)+1
 | .do_ a b=>max (dt a) (dt b)+1
 | .call _ as=>dt as+1
 |_=>1
noncomputable def hw:Tm->Nat
 | .cons a r=>max (hw a) (hw r)
 | .fn _ _=>0
 | .two _ a b=>max (hw a) (hw b+1)
 | .one _ a=>hw a
 | .ite c a b=>max (hw c) (max (hw a) (hw b))
 | .let_ _ a b=>hw a+hw b+1
 | .do_ a b=>max (hw a) (hw b)
 | .call _ as=>hw as
 |_=>0
structure Bb (b:Tm):Prop where
 d:dt b<=19
 w:hw b<=49
noncomputable abbrev Fs:=List (Str×List Kd×Kd)
noncomputable abbrev Cx:=Str->Option Kd
noncomputable def up(g:Cx)(z:Str)(k:Kd):Cx:=λy=>if z=y then some k else g y
inductive Kx where
 |t (k:Kd)|r (ks:List Kd)
inductive Ty (F:Fs):Cx->Tm->Kx->Prop
 |nil {g}:Ty F g .nil (.r [])
 |cons {g a r k ks}:Ty F g a (.t k)->Ty F g r (.r ks)->Ty F g (.cons a r) (.r (k::ks))
 |num {g n}: -GR<=n->n<=GR->Ty F g (.num n) (.t .num)
 |tru {g b}:Ty F g (.tru b) (.t .tru)
 |non {g k}:Ty F g .non (.t (.lst k))
 |name {g z k}:g z=some k->Ty F g (.name z) (.t k)
 |fn {g z a b k}:Ty F (up g z a) b (.t k)->Bb b->Ty F g (.fn z b) (.t (.fn a k))
 |two {g k a b}:k<6->Ty F g a (.t .num)->Ty F g b (.t .num)->Ty F g (.two (sg k) a b) (.t (if k=3\/k=4 then .tru else .num))
 |cat {g a b k}:Ty F g a (.t k)->Ty F g b (.t (.lst k))->Ty F g (.two ":" a b) (.t (.lst k))
 |not {g a}:Ty F g a (.t .tru)->Ty F g (.one "not" a) (.t .tru)
 |empty {g a k}:Ty F g a (.t (.lst k))->Ty F g (.one "empty" a) (.t .tru)
 |head {g a k}:Ty F g a (.t (.lst k))->Ty F g (.one "head" a) (.t k)
 |tail {g a k}:Ty F g a (.t (.lst k))->Ty F g (.one "tail" a) (.t (.lst k))
 |ite {g c a b k}:Ty F g c (.t .tru)->Ty F g a (.t k)->Ty F g b (.t k)->Ty F g (.ite c a b) (.t k)
 |let_ {g z a b k k'}:Ty F g a (.t k')->Ty F (up g z k') b (.t k)->Ty F g (.let_ z a b) (.t k)
 |do_ {g f a k k'}:Ty F g f (.t (.fn k' k))->Ty F g a (.t k')->Ty F g (.do_ f a) (.t k)
 |call {g z as ks k}:F.lookup z=some (ks,k)->Ty F g as (.r ks)->Ty F g (.call z as) (.t k)
inductive Ix where
 |k (k:Kd)|row (k:Kd)|env (g:List (Str×Kd))
inductive W (F:Fs) (N:Nat):Vl->Ix->Prop
 |int {n}: -GR<=n->n<=GR->W F N (.int n) (.k .num)
 |bl {b}:W F N (.bl b) (.k .tru)
 |lst {r k}:W F N r (.row k)->W F N (.lst r) (.k (.lst k))
 |fn {z b e g gl a k}:W F N e (.env gl)->(∀y q,g y=some q->gl.lookup y=some q)->Ty F (up g z a) b (.t k)->Bb b->W F N (.fn z b e) (.k (.fn a k))
 |nil {k}:W F N .nil (.row k)
 |cons {a r k}:W F N a (.k k)->W F N r (.row k)->Q3 r+1<=N->W F N (.cons a r) (.row k)
 |none:W F N .nil (.env [])
 |bind {e g z a k}:W F N e (.env g)->W F N a (.k k)->Q3 e+1<=N->W F N (.bind e z a) (.env ((z,k)::g))
noncomputable abbrev W1(F:Fs)(N:Nat)(v:Vl)(k:Kd):Prop:=W F N v (.k k)
theorem W.mono{F:Fs}{N M:Nat}(h:N<=M){v:Vl}{x:Ix}(z:W F N v x):W F M v x:=by
 induction z with
 |int h1 h2=>exact .int h1 h2
 |bl=>exact .bl
 |lst _ ih=>exact .lst ih
 |fn _ hg ht hb ih=>exact .fn ih hg ht hb
 |nil=>exact .nil
 |cons _ _ hl i1 i2=>exact .cons i1 i2 (Nat.le_trans hl h)
 |none=>exact .none
 |bind _ _ hl i1 i2=>exact .bind i1 i2 (Nat.le_trans hl h)
theorem W.vl{F:Fs}{N:Nat}{v:Vl}{x:Ix}(z:W F N v x):Q3 v<=N:=by
 cases z<;>first|exact zero_le _|assumption
theorem W.look{F:Fs}{N:Nat}{e:Vl}{g:List (Str×Kd)}(h:W F N e (.env g)){z:Str}{k:Kd}(hz:g.lookup z=some k):∃v,RG.look z e=some v/\W1 F N v k:=by
 induction g generalizing e with
 |nil=>cases hz
 |cons p g ih=>
  obtain⟨y,k'⟩:=p;cases h with
  | @bind e' _ _ a _ he ha _=>
   rw[lookup_cons]at hz;unfold RG.look;by_cases c:y=z
   ·subst c;simp only[beq_self_eq_true]at hz;cases hz;exact⟨a,if_pos rfl,ha⟩
   ·have c':(z==y)=false:=by simpa using λe=>c e.symm
    rw[c']at hz;obtain⟨v,h1,h2⟩:=ih he hz;exact⟨v,by rw[if_neg c];exact h1,h2⟩
theorem W.env{F:Fs}{N:Nat}:∀ {ns:List Str} {vs:List Vl} {ks:List Kd} {e:Vl} {g:List (Str×Kd)},W F N e (.env g)->Q3 e+vs.length<=N->ns.length=ks.length->BV.All2 (W1 F N) vs ks->W F N (abZ e ns vs) (.env ((ns.zip ks).reverse++g))
 | [],_,[],e,g,h,_,_,a=>by cases a;exact h
 |z::ns,v::vs,k::ks,e,g,h,hl,hn,a=>by
  cases a with
  |cons a1 a2=>
   have h1:=W.env (ns:=ns) (.bind (z:=z) h a1 (by simp only[length_cons]at hl;omega)) (by show Q3 e+1+vs.length<=N;simp only[length_cons]at hl;omega) (by simpa using hn) a2;simp only[List.zip_cons_cons,reverse_cons,List.append_assoc];exact h1
 | [],_,_::_,_,_,_,_,hn,_=>by simp at hn
 |_::_,_,[],_,_,_,_,hn,_=>by simp at hn
theorem RY{a b:Int}(h1: -GR<=a)(h2:a<=GR)(hb:b≠0): -GR<=a.fdiv b/\a.fdiv b<=GR:=by
 have key:(a.fdiv b).natAbs<=a.natAbs:=by
  rcases Int.lt_or_gt_of_ne hb with h|h
  ·rw[<-Int.neg_fdiv_neg,Int.fdiv_eq_ediv_of_nonneg _ (by omega)];have:=Int.natAbs_ediv_le_natAbs (-a) (-b)
   rwa [Int.natAbs_neg]at this
  ·rw[Int.fdiv_eq_ediv_of_nonneg _ (by omega)];exact Int.natAbs_ediv_le_natAbs a b
 generalize a.fdiv b=q at key⊢;omega
noncomputable def OTy(F:Fs)(N:Nat)(k:Kd):Out->Prop
 | .val v=>W1 F N v k
 | .ref _=>True
theorem PQ{F:Fs}{N:Nat}(n:Int):OTy F N .num (FW n):=by
 unfold FW;split
 ·trivial
 ·rename_i h;exact W.int (by omega) (by omega)
theorem cGZ{F:Fs}{N k:Nat}{a b:Int}(hk:k<6)(h1: -GR<=a)(h2:a<=GR):OTy F N (if k=3\/k=4 then .tru else .num) (tw k a b):=by
 match k,hk with
 |0,_=>exact PQ _
 |1,_=>exact PQ _
 |2,_=>exact PQ _
 |3,_=>exact W.bl
 |4,_=>exact W.bl
 |5,_=>
  show OTy F N .num (if b=0 then .ref "nought"else .val (.int (a.fdiv b)));split
  ·trivial
  ·rename_i h;have:=RY h1 h2 h;exact W.int this.1 this.2
inductive ETy (F:Fs) (N:Nat) (e:Vl) (g:Cx):Prop
 |mk:∀gl,(W F N e (.env gl))->(∀y q,g y=some q->gl.lookup y=some q)->ETy F N e g
theorem ETy.mono{F:Fs}{N M:Nat}(h:N<=M){e:Vl}{g:Cx}:ETy F N e g->ETy F M e g:=λ⟨gl,a,b⟩=>⟨gl,a.mono h,b⟩
theorem ETy.look{F:Fs}{N:Nat}{e:Vl}{g:Cx}(h:ETy F N e g){z:Str}{k:Kd}(hz:g z=some k):∃v,RG.look z e=some v/\W1 F N v k:=let⟨_,a,b⟩:=h;a.look (b _ _ hz)
theorem ETy.bind{F:Fs}{N:Nat}{e v:Vl}{g:Cx}{k:Kd}(h:ETy F N e g)(hv:W1 F N v k)(z:Str):ETy F (N+1) (.bind e z v) (up g z k):=by
 obtain⟨gl,a,b⟩:=h;refine⟨(z,k)::gl,.bind (a.mono (le_succ _)) (hv.mono (le_succ _)) (Nat.succ_le_succ a.vl),λy q e=> ?_⟩;unfold up at e;rw[lookup_cons];by_cases c:z=y
 ·subst c;rw[if_pos rfl]at e;cases e;simp
 ·rw[if_neg c]at e;have c':(y==z)=false:=by simpa using λe=>c e.symm
  rw[c'];exact b _ _ e
inductive FTy (F:Fs) (N:Nat):Fr->Kd->Kd->Prop
 |two {k t e g}:k<6->Ty F g t (.t .num)->ETy F N e g->FTy F N (.two (sg k) t e) .num (if k=3\/k=4 then .tru else .num)
 |cat {t e g k}:Ty F g t (.t (.lst k))->ETy F N e g->FTy F N (.two ":" t e) k (.lst k)
 |then_ {k a}:k<6->W1 F N a .num->FTy F N (.then_ (sg k) a) .num (if k=3\/k=4 then .tru else .num)
 |thenC {a k}:W1 F N a k->FTy F N (.then_ ":" a) (.lst k) (.lst k)
 |not:FTy F N (.one "not") .tru .tru
 |empty {k}:FTy F N (.one "empty") (.lst k) .tru
 |head {k}:FTy F N (.one "head") (.lst k) k
 |tail {k}:FTy F N (.one "tail") (.lst k) (.lst k)
 |ite {a b e g k}:Ty F g a (.t k)->Ty F g b (.t k)->ETy F N e g->FTy F N (.ite a b e) .tru k
 |let_ {z b e g k k'}:Ty F (up g z k') b (.t k)->ETy F N e g->FTy F N (.let_ z b e) k' k
 |do_ {a e g k k'}:Ty F g a (.t k')->ETy F N e g->FTy F N (.do_ a e) (.fn k' k) k
 |with_ {f k k'}:W1 F N f (.fn k' k)->FTy F N (.with_ f) k' k
 |call {z vs ts e g ks k0 kt k}:F.lookup z=some (ks++k0::kt,k)->BV.All2 (W1 F N) vs ks->BV.All2 (λt k=>Ty F g t (.t k)) ts kt->ETy F N e g->FTy F N (.call z vs ts e) k0 k
 |back {k}:FTy F N .back k k
inductive PTy (F:Fs) (N:Nat) (kl:Kd):List Fr->Kd->Prop
 |nil:PTy F N kl [] kl
 |cons {f r a b}:FTy F N f a b->PTy F N kl r b->PTy F N kl (f::r) a
inductive FoTy (F:Fs) (N:Nat):Fo->Kd->Prop
 |term {t e g k}:Ty F g t (.t k)->ETy F N e g->FoTy F N (.term t e) k
 |val {v k}:W1 F N v k->FoTy F N (.val v) k
structure StTy (F:Fs) (N:Nat) (kl:Kd) (s:Sta):Prop where
 ex:∃k,FoTy F N s.fo k/\PTy F N kl s.pile k
 len:s.pile.length<=N
structure DTy (F:Fs) (D:List Dn):Prop where
 of:∀z ks k,F.lookup z=some (ks,k)->ks.length<=4/\∃dn g,(D.find? λx=>x.name==z)=some dn/\dn.pars.length=ks.length/\Ty F g dn.body (.t k)/\(∀y q,g y=some q->(dn.pars.zip ks).reverse.lookup y=some q)/\Bb dn.body
theorem QR{F:Fs}{g:Cx}:∀ {as:Tm} {ks:List Kd},Ty F g as (.r ks)->BV.All2 (λt k=>Ty F g t (.t k)) (row as) ks
 |_,_,.nil=> .nil
 |_,_,.cons h1 h2=> .cons h1 (QR h2)
end RG
namespace RG
open PySem L2 BV
theorem stp{a b:TS}{D:Ends}{σ:St}{H:Hp}(h:∀N:St->Hp->Prop,N=b D->a {D with nx:=N} σ H):P9 a b D σ H:=h _ rfl
noncomputable abbrev Mo(H H':Hp):Prop:=∀b xs,H b=some (.tup xs)->H' b=some (.tup xs)
theorem A5{H H':Hp}(s:Same H H'):Mo H H':=λb xs e=>s _ _ e
inductive TA (H:Hp):Tm->V⊕List V->Prop
 |nil:TA H .nil (.inr [])
 |cons {a r v vs}:TA H a (.inl v)->TA H r (.inr vs)->TA H (.cons a r) (.inr (v::vs))
 |num {n p}:H p=some (.tup [.str "number",.int n])->TA H (.num n) (.inl (.ref p))
 |tru {b p}:H p=some (.tup [.str "truth",.bl b])->TA H (.tru b) (.inl (.ref p))
 |non {p}:H p=some (.tup [.str "none"])->TA H .non (.inl (.ref p))
 |name {z p}:H p=some (.tup [.str "name",.str z])->TA H (.name z) (.inl (.ref p))
 |fn {z b p u}:H p=some (.tup [.str "fn",.str z,u])->TA H b (.inl u)->TA H (.fn z b) (.inl (.ref p))
 |two {s a b p u w}:H p=some (.tup [.str "two",.str s,u,w])->TA H a (.inl u)->TA H b (.inl w)->TA H (.two s a b) (.inl (.ref p))
 |one {s a p u}:H p=some (.tup [.str "one",.str s,u])->TA H a (.inl u)->TA H (.one s a) (.inl (.ref p))
 |ite {c a b p t u w}:H p=some (.tup [.str "if",t,u,w])->TA H c (.inl t)->TA H a (.inl u)->TA H b (.inl w)->TA H (.ite c a b) (.inl (.ref p))
 |let_ {z a b p u w}:H p=some (.tup [.str "let",.str z,u,w])->TA H a (.inl u)->TA H b (.inl w)->TA H (.let_ z a b) (.inl (.ref p))
 |do_ {a b p u w}:H p=some (.tup [.str "do",u,w])->TA H a (.inl u)->TA H b (.inl w)->TA H (.do_ a b) (.inl (.ref p))
 |call {z as p q us}:H p=some (.tup [.str "call",.str z,.ref q])->H q=some (.tup us)->TA H as (.inr us)->TA H (.call z as) (.inl (.ref p))
theorem TA.mono{H H':Hp}(m:Mo H H'){t:Tm}{x:V⊕List V}(h:TA H t x):TA H' t x:=by
 induction h with
 |nil=>exact .nil
 |cons _ _ i1 i2=>exact .cons i1 i2
 |num h=>exact .num (m _ _ h)
 |tru h=>exact .tru (m _ _ h)
 |non h=>exact .non (m _ _ h)
 |name h=>exact .name (m _ _ h)
 |fn h _ i=>exact .fn (m _ _ h) i
 |two h _ _ i1 i2=>exact .two (m _ _ h) i1 i2
 |one h _ i=>exact .one (m _ _ h) i
 |ite h _ _ _ i1 i2 i3=>exact .ite (m _ _ h) i1 i2 i3
 |let_ h _ _ i1 i2=>exact .let_ (m _ _ h) i1 i2
 |do_ h _ _ i1 i2=>exact .do_ (m _ _ h) i1 i2
 |call h g _ i=>exact .call (m _ _ h) (m _ _ g) i
noncomputable abbrev T1(H:Hp)(t:Tm)(v:V):Prop:=TA H t (.inl v)
theorem TA.row{H:Hp}:∀ {as:Tm} {us:List V},TA H as (.inr us)->All2 (T1 H) (RG.row as) us
 |_,_,.nil=> .nil
 |_,_,.cons h1 h2=> .cons h1 h2.row
inductive VA (H:Hp):Vl->V⊕(Bool×List V)->Prop
 |int {n}:VA H (.int n) (.inl (.int n))
 |bl {b}:VA H (.bl b) (.inl (.bl b))
 |lst {r p q us}:H p=some (.tup [.str "list",.ref q])->H q=some (.tup us)->VA H r (.inr (false,us))->VA H (.lst r) (.inl (.ref p))
 |fn {z b e p q t us}:H p=some (.tup [.str "fn",.str z,t,.ref q])->T1 H b t->H q=some (.tup us)->VA H e (.inr (true,us))->VA H (.fn z b e) (.inl (.ref p))
 |nil {b}:VA H .nil (.inr (b,[]))
 |cons {a r v vs}:VA H a (.inl v)->VA H r (.inr (false,vs))->VA H (.cons a r) (.inr (false,v::vs))
 |bind {e z a us v q}:VA H e (.inr (true,us))->H q=some (.tup [.str z,v])->VA H a (.inl v)->VA H (.bind e z a) (.inr (true,us++ [.ref q]))
theorem VA.mono{H H':Hp}(m:Mo H H'){t:Vl}{x:V⊕(Bool×List V)}(h:VA H t x):VA H' t x:=by
 induction h with
 |int=>exact .int
 |bl=>exact .bl
 |lst h g _ i=>exact .lst (m _ _ h) (m _ _ g) i
 |fn h t g _ i=>exact .fn (m _ _ h) (t.mono m) (m _ _ g) i
 |nil=>exact .nil
 |cons _ _ i1 i2=>exact .cons i1 i2
 |bind _ h _ i1 i2=>exact .bind i1 (m _ _ h) i2
noncomputable abbrev V1(H:Hp)(t:Vl)(v:V):Prop:=VA H t (.inl v)
theorem VA.len{H:Hp}{r:Vl}{us:List V}{b:Bool}(h:VA H r (.inr (b,us))):us.length=Q3 r:=by
 generalize e:(Sum.inr (b,us):V⊕(Bool×List V))=x at h;induction h generalizing us b with
 |nil=>cases e;rfl
 |cons _ _ _ i2=>cases e;simp only[length_cons,Q3,i2 rfl]
 |bind _ _ _ i1 _=>cases e;simp only[length_append,length_cons,length_nil,Q3,i1 rfl]
 |_=>cases e
inductive EA (H:Hp) (e:Vl) (v:V):Prop
 |mk:∀q us,(v=.ref q)->(H q=some (.tup us))->(VA H e (.inr (true,us)))->EA H e v
theorem EA.mono{H H':Hp}(m:Mo H H'){e:Vl}{v:V}(h:EA H e v):EA H' e v:=let⟨q,us,a,b,c⟩:=h;⟨q,us,a,m _ _ b,c.mono m⟩
inductive FA (H:Hp):Fr->V->Prop
 |two {s t e p u w}:H p=some (.tup [.str "two",.str s,u,w])->T1 H t u->EA H e w->FA H (.two s t e) (.ref p)
 |then_ {s a p u}:H p=some (.tup [.str "then",.str s,u])->V1 H a u->FA H (.then_ s a) (.ref p)
 |one {s p}:H p=some (.tup [.str "one",.str s])->FA H (.one s) (.ref p)
 |ite {a b e p t u w}:H p=some (.tup [.str "if",t,u,w])->T1 H a t->T1 H b u->EA H e w->FA H (.ite a b e) (.ref p)
 |let_ {z b e p u w}:H p=some (.tup [.str "let",.str z,u,w])->T1 H b u->EA H e w->FA H (.let_ z b e) (.ref p)
 |do_ {a e p u w}:H p=some (.tup [.str "do",u,w])->T1 H a u->EA H e w->FA H (.do_ a e) (.ref p)
 |with_ {f p u}:H p=some (.tup [.str "with",u])->V1 H f u->FA H (.with_ f) (.ref p)
 |call {z vs ts e p q r us ws w}:H p=some (.tup [.str "call",.str z,.ref q,.ref r,w])->H q=some (.tup us)->All2 (V1 H) vs us->H r=some (.tup ws)->All2 (T1 H) ts ws->EA H e w->FA H (.call z vs ts e) (.ref p)
 |back {p}:H p=some (.tup [.str "back"])->FA H .back (.ref p)
theorem FA.mono{H H':Hp}(m:Mo H H'){f:Fr}{v:V}(h:FA H f v):FA H' f v:=by
 cases h with
 |two h t e=>exact .two (m _ _ h) (t.mono m) (e.mono m)
 |then_ h t=>exact .then_ (m _ _ h) (t.mono m)
 |one h=>exact .one (m _ _ h)
 |ite h a b e=>exact .ite (m _ _ h) (a.mono m) (b.mono m) (e.mono m)
 |let_ h a e=>exact .let_ (m _ _ h) (a.mono m) (e.mono m)
 |do_ h a e=>exact .do_ (m _ _ h) (a.mono m) (e.mono m)
 |with_ h a=>exact .with_ (m _ _ h) (a.mono m)
 |call h g a k b e=>exact .call (m _ _ h) (m _ _ g) (a.imp λ_ _ x=>x.mono m) (m _ _ k) (b.imp λ_ _ x=>x.mono m) (e.mono m)
 |back h=>exact .back (m _ _ h)
inductive FoA (H:Hp):Fo->V->Prop
 |term {t e p u w}:H p=some (.tup [.str "term",u,w])->T1 H t u->EA H e w->FoA H (.term t e) (.ref p)
 |val {v p u}:H p=some (.tup [.str "value",u])->V1 H v u->FoA H (.val v) (.ref p)
theorem FoA.mono{H H':Hp}(m:Mo H H'){f:Fo}{v:V}(h:FoA H f v):FoA H' f v:=by
 cases h with
 |term h t e=>exact .term (m _ _ h) (t.mono m) (e.mono m)
 |val h t=>exact .val (m _ _ h) (t.mono m)
inductive PiA (H:Hp) (fs:List Fr) (v:V):Prop
 |mk:∀p us,(v=.ref p)->(H p=some (.tup us))->(All2 (FA H) fs.reverse us)->PiA H fs v
theorem PiA.mono{H H':Hp}(m:Mo H H'){fs:List Fr}{v:V}(h:PiA H fs v):PiA H' fs v:=let⟨p,us,e,h,a⟩:=h;⟨p,us,e,m _ _ h,a.imp λ_ _ x=>x.mono m⟩
inductive StA (H:Hp) (s:Sta) (v:V):Prop
 |mk:∀p f l,(v=.ref p)->(H p=some (.tup [f,l,.int s.calls,.int s.deep]))->(FoA H s.fo f)->(PiA H s.pile l)->StA H s v
inductive RsA (H:Hp) (fs:List Fr) (calls deep:Int) (v:V):Prop
 |mk:∀p l,(v=.ref p)->(H p=some (.tup [l,.int calls,.int deep]))->(PiA H fs l)->RsA H fs calls deep v
theorem RsA.mono{H H':Hp}(m:Mo H H'){fs:List Fr}{c d:Int}{v:V}(h:RsA H fs c d v):RsA H' fs c d v:=let⟨p,l,e,h,x⟩:=h;⟨p,l,e,m _ _ h,x.mono m⟩
inductive PA' (H:Hp):Vl->V⊕List V->Prop
 |int {n}:PA' H (.int n) (.inl (.int n))
 |bl {b}:PA' H (.bl b) (.inl (.bl b))
 |lst {r p us}:H p=some (.lst us)->PA' H r (.inr us)->PA' H (.lst r) (.inl (.ref p))
 |nil:PA' H .nil (.inr [])
 |cons {a r v vs}:PA' H a (.inl v)->PA' H r (.inr vs)->PA' H (.cons a r) (.inr (v::vs))
noncomputable def ReA(H:Hp):Res->V->Prop
 | .st s,v=>StA H s v
 | .dry,v=>∃p,v=.ref p/\H p=some (.tup [.str "dry"])
 | .deep,v=>∃p,v=.ref p/\H p=some (.tup [.str "deep"])
 | .refd w,v=>∃p,v=.ref p/\H p=some (.tup [.str "refused",.str w])
 | .value x,v=>∃p u,v=.ref p/\H p=some (.tup [.str "value",u])/\PA' H x (.inl u)
inductive OuA (H:Hp):Out->V->Prop
 |val {v p u}:H p=some (.tup [.str "value",u])->V1 H v u->OuA H (.val v) (.ref p)
 |ref {w p}:H p=some (.tup [.str "refused",.str w])->OuA H (.ref w) (.ref p)
inductive DnA (H:Hp) (d:Dn) (v:V):Prop
 |mk:∀p q t,(v=.ref p)->(H p=some (.tup [.str "def",.str d.name,.ref q,t]))->(H q=some (.tup (d.pars.map .str)))->(T1 H d.body t)->DnA H d v
theorem DnA.mono{H H':Hp}(m:Mo H H'){d:Dn}{v:V}(h:DnA H d v):DnA H' d v:=let⟨p,q,t,e,h,g,x⟩:=h;⟨p,q,t,e,m _ _ h,m _ _ g,x.mono m⟩
inductive PgA (H:Hp) (P:List Dn) (v:V):Prop
 |mk:∀p us,(v=.ref p)->(H p=some (.tup us))->(All2 (DnA H) P us)->PgA H P v
theorem PgA.mono{H H':Hp}(m:Mo H H'){P:List Dn}{v:V}(h:PgA H P v):PgA H' P v:=let⟨p,us,e,h,a⟩:=h;⟨p,us,e,m _ _ h,a.imp λ_ _ x=>x.mono m⟩
theorem L8:1<=sizeLine:=by decide
theorem D1:2<=sizeLine:=by decide
theorem D9:3<=sizeLine:=by decide
theorem P2:4<=sizeLine:=by decide
theorem cTZ:5<=sizeLine:=by decide
theorem ZM{K:FZ}{H:Hp}{p q:Addr}{us:List V}{u:V}{Q:VK}(hp:H p=some (.tup us))(hq:H q=some (.tup [u]))(hz:us.length<=100000)
  (go:∀r H',Same H H'->H' r=some (.tup (us++ [u]))->Q (.ref r) H'):IC K (.ref p) (.ref q) H Q\/HN K (.ref p) (.ref q) H Q:=by
 have zz:(100001:Nat)<=sizeLine:=by decide
 cases us with
 |nil=>exact .inr ⟨p,q,[u],rfl,rfl,SqT.of hp,SqT.of hq,go _ _ (Same.refl _) hq⟩
 |cons x us=>
  refine .inl ⟨p,q,x::us,[u],rfl,rfl,SqT.of hp,SqT.of hq,cons_ne_nil _ _, ?_,λe=>absurd e (cons_ne_nil _ _),λ_ r hr=> ?_⟩
  ·simp only[length_cons,length_nil]at hz⊢;omega
  exact go _ _ (A2 hr _) A1
theorem FX{K:FZ}{H:Hp}{fs:List Fr}{l:V}{fr:Fr}{u:V}{q:Addr}{Q:VK}(h:PiA H fs l)(hf:FA H fr u)(hq:H q=some (.tup [u]))(hz:fs.length<=100000)
  (go:∀r H',Same H H'->PiA H' (fr::fs) r->Q r H'):IC K l (.ref q) H Q\/HN K l (.ref q) H Q:=by
 obtain⟨p,us,rfl,hp,ha⟩:=h;have hl:=ha.len;rw[length_reverse]at hl;refine ZM hp hq (by omega) λr H' s1 hr=>go _ _ s1 ⟨r,_,rfl,hr, ?_⟩;rw[reverse_cons];exact(ha.imp λ_ _ h=>h.mono (A5 s1)).app (.cons (hf.mono (A5 s1)) .nil)
theorem RW{K:FZ}{H:Hp}{e a:Vl}{l v:V}{z:Str}{u q:Addr}{Q:VK}(h:EA H e l)(hu:H u=some (.tup [.str z,v]))(ha:V1 H a v)(hq:H q=some (.tup [.ref u]))(hz:Q3 e<=100000)
  (go:∀r H',Same H H'->EA H' (.bind e z a) r->Q r H'):IC K l (.ref q) H Q\/HN K l (.ref q) H Q:=by
 obtain⟨p,us,rfl,hp,hv⟩:=h;have hl:=hv.len;exact ZM hp hq (by omega) λr H' s1 hr=>go _ _ s1 ⟨r,_,rfl,hr,.bind (hv.mono (A5 s1)) (s1 _ _ hu) (ha.mono (A5 s1))⟩
end RG
namespace RG
open PySem L2 BV
seal PE PT PW PA PS PSs PTs PI PG PGs PO
noncomputable abbrev CM:Stmt:=BV.top 30
noncomputable abbrev EL:Stmt:=BV.top 18
noncomputable abbrev P1:Stmt:=BV.top 17
noncomputable abbrev IT:Stmt:=BV.top 27
noncomputable abbrev NB:List Str:=["body","bound","rest","most","pile","calls","deep"]
theorem sc_into_body:FnScope NB aoZ (B3 CM):=fS
noncomputable abbrev PB:List Str:=["names","values"]
theorem sc_bound_to:FnScope PB ZP (B3 EL):=fS
noncomputable abbrev Y7:List Str:=["program","name"]
theorem sc_function_called:FnScope Y7 aaZ (B3 P1):=fS
noncomputable abbrev YG:List Str:=["focus","waits","rest"]
theorem sc_pushed:FnScope YG b6Z (B3 IT):=fS
theorem ZS{H:Hp}{ys ps:List V}(h:Prs H [] ys ps):ps=[]:=List.eq_nil_of_length_eq_zero (h.len.trans (by simp))
theorem XZ{H:Hp}{x y:V}{xs ys ps:List V}(h:Prs H (x::xs) (y::ys) ps):∃q ps',ps=.ref q::ps'/\H q=some (.tup [x,y])/\Prs H xs ys ps':=by
 obtain⟨q,e,hq⟩:=h.at_ 0 x y rfl rfl;cases ps with
 |nil=>cases e
 |cons p ps=>
  cases e;refine⟨q,ps,rfl,hq,by have:=h.len;simp only[length_cons]at this;omega,λj a b ha hb=> ?_⟩;exact h.at_ (j+1) a b (by simpa using ha) (by simpa using hb)
theorem WS{H:Hp}:∀ {ns:List Str} {vs:List Vl} {us ps us0:List V} {e:Vl},ns.length=vs.length->All2 (V1 H) vs us->Prs H (ns.map V.str) us ps->VA H e (.inr (true,us0))->VA H (abZ e ns vs) (.inr (true,us0++ps))
 | [],_,us,ps,us0,e,_,_,hp,h=>by rw[ZS hp,append_nil];exact h
 |z::ns,v::vs,_,ps,us0,e,hl,.cons (b:=u) a1 a2,hp,h=>by
  obtain⟨q,ps',rfl,hq,hp'⟩:=XZ hp;have:=WS (ns:=ns) (e:=.bind e z v) (by simpa using hl) a2 hp' (.bind h hq a1);rw[List.append_assoc]at this;exact this
section
variable{P:Program}{w:World}{K:FZ}{mg:Str->Option Value}{base:Heap}{f:Addr}{fd:FuncData}
inductive spIntoW(vs:List V)(H:Hp)(Q:VK):Prop
 |mk:∀(b:Tm) (e:Vl) (r:List Fr) (calls deep most:Int) (bv ev rv:V),(vs=[bv,ev,rv,.int most])->(T1 H b bv)->(EA H e ev)->(RsA H r calls deep rv)->(r.length<=10000)->(∀v H',Same H H'->ReA H' (into most b e r calls deep) v->Q v H')->spIntoW vs H Q
noncomputable def QF:Sp:=λvs H Q _=>spIntoW vs H Q
theorem ok_into_body{tD:Tok}(m_DEEPEST:mg "DEEPEST"=some (.int 60 tD))(F:Fun K "into_body" "into_body" CM f fd):FnOk P w K mg base CX0 1 f fd aoZ QF:=by
 refine F.ok sc_into_body (λvs H Q E h=> ?_) (λcdv A outer s H vs Q E hr h=> ?_)
 ·obtain⟨b,e,r,calls,deep,most,bv,ev,rv,rfl,_⟩:=h;rfl
 obtain⟨b,e,r,calls,deep,most,bv,ev,rv,rfl,hb,he,⟨p,l,rfl,hp,hl⟩,hz,q⟩:=h;have nd:=sc_into_body.nd;have hu:=hr.units0;have z4:(4:Nat)<=sizeLine:=by decide
 refine⟨_,(A6 (sS 4 nd (ixE K w (pv 2) A3))
   (A6 (sS 5 nd (ixE K w (pv 2) A3))
   (A6 (sS 6 nd (ixE K w (pv 2) A3))
   (A6 (B8 (B0 a2Z (pv 5) (pv 3) rfl) (A8 (B5 (A9 (A0 A7 A4)))) B6)
   (A6 (B8 (B0 a2Z (pv 6) (BL (v:=.int 60) rfl m_DEEPEST ⟨_,rfl⟩) rfl) (A8 (B5 (A9 (A0 A7 A4)))) B6)
   (A8 (B5 (A9 (A0 (A9 (A0 A7 (A0 (pv 0) (A0 (pv 1) A4)))) (A0 (B4 (S5 (K:=K)) (pv 4) (A9 (A0 (A9 (A0 A7 A4)) A4))) (A0 (B4 (S5 (K:=K)) (pv 5) A3) (A0 (B4 (S5 (K:=K)) (pv 6) A3) A4)))))))))))), ?_⟩
 refine⟨_,rfl,(ixT hp rfl ?_)⟩;refine⟨_,rfl,(ixT hp rfl ?_)⟩;refine⟨_,rfl,(ixT hp rfl ?_)⟩;unfold into at q;refine⟨_,rfl,_,rfl,_,_,rfl,rfl,_,rfl,K6 (λc=> ?_) (λc=> ?_)⟩
 ·refine⟨L8,λa ha=>q _ _ (A2 ha _) ?_⟩;rw[if_pos (of_decide_eq_true c)];exact⟨a,rfl,A1⟩
 rw[if_neg (λz=>c (decide_eq_true z))]at q;refine⟨_,rfl,_,_,rfl,rfl,_,rfl,K6 (λc=> ?_) (λc=> ?_)⟩
 ·refine⟨L8,λa ha=>q _ _ (A2 ha _) ?_⟩;rw[if_pos (of_decide_eq_true c)];exact⟨a,rfl,A1⟩
 rw[if_neg (λz=>c (decide_eq_true z))]at q;refine⟨_,rfl,_,rfl,D9,λa ha=> ?_⟩;have s1:=A2 ha (.tup [.str "term",bv,ev]);refine⟨_,rfl,L8,λa2 ha2=>⟨L8,λa3 ha3=> .inr (FX (fr:=.back) (hl.mono (A5 (s1.trans ((A2 ha2 (.tup [.str "back"])).trans (A2 ha3 (.tup [.ref a2])))))) (.back ((A2 ha3 _) _ _ A1)) A1 (by omega) λpv H4 s4 hp4=> ?_)⟩⟩;have s14:=(A2 ha2 (.tup [.str "back"])).trans ((A2 ha3 (.tup [.ref a2])).trans s4);refine⟨_,rfl,.inl ⟨_,_,rfl,rfl,_,rfl,.inl ⟨_,_,rfl,rfl,z4,λa5 ha5=> ?_⟩⟩⟩;have s5:=A2 ha5 (.tup [.ref a,pv,.int (calls+1),.int (deep+1)]);have sA:=s1.trans (s14.trans s5);exact q _ _ sA ⟨a5,.ref a,pv,rfl,A1,.term ((s14.trans s5) _ _ A1) (hb.mono (A5 sA)) (he.mono (A5 sA)),hp4.mono (A5 s5)⟩
inductive spBoundW (vs:List V) (H:Hp) (Q:VK):Prop
 |mk:∀(a b:Addr) (ns:List Str) (xs:List Vl) (us:List V),(vs=[.ref a,.ref b])->(H a=some (.tup (ns.map .str)))->((H b=some (.tup us)\/H b=some (.lst us)))->(All2 (V1 H) xs us)->(ns.length=xs.length)->(ns.length<=1000)->(∀v H',Same H H'->EA H' (env ns xs) v->Q v H')->spBoundW vs H Q
noncomputable def MH:Sp:=λvs H Q _=>spBoundW vs H Q
theorem ok_bound_to(F:Fun K "bound_to" "bound_to" EL f fd)(B:BV.NoG mg):FnOk P w K mg base CX0 1 f fd ZP MH:=by
 refine F.ok sc_bound_to (λvs H Q E h=> ?_) (λcdv A outer s H vs Q E hr h=> ?_)
 ·obtain⟨a,b,ns,xs,us,rfl,_⟩:=h;rfl
 obtain⟨a,b,ns,xs,us,rfl,ha,hb,hx,hl,hz,q⟩:=h;have nd:=sc_bound_to.nd;have zz:(1000:Nat)<=sizeLine:=by decide
 refine⟨_,(A8 (B5 (QB (K:=K) rfl B.zip_ rfl B.tuple_ rfl (A0 (pv 0) (A0 (pv 1) A4))))), ?_⟩;refine⟨_,rfl,_,rfl,a,b,_,_,rfl,.inl (SqT.of ha),hb.imp SqT.of SqL.of,(by rw[length_map,<-hx.len,hl,Nat.min_self];omega),λr H' ps sm _ hr hp=> ?_⟩;exact q _ _ sm ⟨r,_,rfl,hr,WS (us0:=[]) hl (hx.imp λ_ _ h=>h.mono (A5 sm)) hp .nil⟩
inductive spFcW (vs:List V) (H:Hp) (Q:VK):Prop
 |mk:∀(D:List Dn) (d:Dn) (z:Str) (v:V),(vs=[v,.str z])->(PgA H D v)->(D.length<=1000)->((D.find? λd=>d.name==z)=some d)->(∀u H',Same H H'->DnA H' d u->Q u H')->spFcW vs H Q
noncomputable def b3Z:Sp:=λvs H Q _=>spFcW vs H Q
theorem ok_function_called(F:Fun K "function_called" "function_called" P1 f fd):FnOk P w K mg base CX0 1 f fd aaZ b3Z:=by
 refine F.ok sc_function_called (λvs H Q E h=> ?_) (λcdv A outer s H vs Q E hr h=> ?_)
 ·obtain⟨D,d,z,v,rfl,_⟩:=h;rfl
 obtain⟨D,d,z,v,rfl,⟨p,us,rfl,hp,hD⟩,hz,hd,q⟩:=h;have nd:=sc_function_called.nd;have hu:=hr.units0;have zz:(1000:Nat)<=sizeLine:=by decide
 have hl:=hD.len;refine⟨_,(A8 (B5 (ixE K w (Y6 (cS (N:=Y7) (sc:=B3 P1) (caps:=[1]) (ns:=["name"])) rfl rfl rfl (LI (K:=K) (pv 0)) (λ_ _ _ _ _=>(Y5 (B0 (kEq (K:=K) hu) (ixE K w (pv 0) A3) (pv 1) rfl))) (λ_ _ _ _ _=>(pv 0))) A3))), ?_⟩;refine⟨_,rfl,p,rfl,⟨us,SqT.of hp⟩,NA (xs:=us) (λj ys H'=>(∃vs,ys=vs/\vs.length<=j/\(∀d,((D.take j).find? λd=>d.name==z)=some d->∃u rest,vs=u::rest/\DnA H d u)/\(((D.take j).find? λd=>d.name==z)=none->vs=[]))/\H=H') ⟨⟨[],rfl,Nat.le_refl _,by simp,λ_=>rfl⟩,rfl⟩ ?_ ?_ ?_⟩
 ·rintro i ys H' hi ⟨⟨vs,rfl,hv,_⟩,rfl⟩;exact⟨SqT.of hp,by omega⟩
 ·rintro i x ys H' hx ⟨⟨vs,rfl,hv,hf,hn⟩,rfl⟩;obtain⟨di,hdi,a,b,t,rfl,ha,hb,ht⟩:=hD.get hx;refine⟨_,rfl,(ixT ha rfl ⟨_,rfl,.inl ⟨rfl,_,rfl,K6 (λc=>⟨_,rfl,⟨⟨_,rfl,by rw[length_append];simp only[length_cons,length_nil];omega,λd' h'=> ?_,λh'=> ?_⟩,rfl⟩⟩) (λc=>⟨⟨_,rfl,by omega,λd' h'=> ?_,λh'=> ?_⟩,rfl⟩)⟩⟩)⟩
  ·rw[BV.take_one hdi,find?_append]at h';cases h9:(D.take i).find? λd=>d.name==z with
   |some d9=>
    rw[h9]at h';have e9:d9=d':=by simpa using h'
    subst e9;obtain⟨u,rest,e,h⟩:=hf d9 h9;exact⟨u,rest++ [.ref a],by rw[e];rfl,h⟩
   |none=>
    rw[h9]at h';have e8:di.name==z/\di=d':=by simpa using h'
    obtain⟨_,rfl⟩:=e8;rw[hn h9];exact⟨.ref a,[],rfl,a,b,t,rfl,ha,hb,ht⟩
  ·rw[BV.take_one hdi,find?_append]at h';have e7:di.name=z:=by have:=of_decide_eq_true c;injection this
   simp[e7]at h'
  ·rw[BV.take_one hdi,find?_append]at h';cases h9:(D.take i).find? λd=>d.name==z with
   |some d9=>
    rw[h9]at h';have e9:d9=d':=by simpa using h'
    subst e9;exact hf d9 h9
   |none=>
    rw[h9]at h';have e8:di.name==z/\di=d':=by simpa using h'
    have e7:di.name=z:=by simpa using e8.1
    exact absurd (by rw[e7];exact decide_eq_true rfl) c
  ·rw[BV.take_one hdi,find?_append]at h';exact hn (Option.or_eq_none_iff.mp h').1
 rintro ys H' ⟨⟨vs,rfl,hv,hf,_⟩,rfl⟩ r hr0;rw[<-hl,take_of_length_le (Nat.le_refl _)]at hf;obtain⟨u,rest,rfl,h⟩:=hf d hd;have s1:=A2 hr0 (.lst (u::rest));exact(ixL A1 (show atI (u::rest) ((0:Nat):Int)=some u from J0 rfl) (q _ _ s1 (h.mono (A5 s1))))
end
noncomputable abbrev V8:Stmt:=BV.top 21
noncomputable abbrev W8:Stmt:=BV.top 20
noncomputable abbrev BC:Stmt:=BV.top 22
noncomputable abbrev DI:List Str:=["name","bound"]
theorem sc_value_bound:FnScope DI brZ (B3 V8):=fS
noncomputable abbrev GZ:List Str:=["term","bound","form"]
theorem sc_value_at_once:FnScope GZ TX (B3 W8):=fS
noncomputable abbrev ML:List Str:=["term","bound","form"]
theorem sc_waiting_of:FnScope ML TX (B3 BC):=fS
theorem UC{K:FZ}{a:Addr}{xs:List V}{caps:List Nat}{tt:TT}{te:TE}{σ:St}{H:Hp}{R:List V->Hp->Prop}(Pv:Nat->List V->Hp->Prop)(h0:Pv 0 [] H)(hl:∀i ys H,i<=xs.length->Pv i ys H->SqT K H a xs/\ys.length<=sizeLine)
  (hs:∀i x ys H,xs[i]? =some x->Pv i ys H->∃p v1 v2,x=.ref p/\SqT K H p [v1,v2]/\tt (capσ2 caps σ (some v1) (some v2)) H λb H2=>if b=true then te (capσ2 caps σ (some v1) (some v2)) H2 λy H3=>Pv (i+1) (ys++ [y]) H3 else Pv (i+1) ys H2)(hd:∀ys H,Pv xs.length ys H->R ys H):
  ∃W:Nat->Nat->List V->Hp->Prop,(∃m,W 0 m [] H)/\∀i m ys H,W i m ys H->ys.length<=sizeLine/\(((Itt K a).stop i H/\R ys H)\/((Itt K a).go i H/\∃N:List V->Hp->Prop,(∀ys' H',N ys' H'->∃m',m'<m/\W (i+1) m' ys' H')/\∀v H',(Itt K a).yld i H v H'->
   ∃p v1 v2,v=.ref p/\SqT K H' p [v1,v2]/\tt (capσ2 caps σ (some v1) (some v2)) H' λb H2=>if b=true then te (capσ2 caps σ (some v1) (some v2)) H2 λy H3=>N (ys++ [y]) H3 else N ys H2)):=by
 refine⟨λi m ys H=>m=xs.length - i/\i<=xs.length/\Pv i ys H,⟨xs.length,by simp,zero_le _,h0⟩, ?_⟩;rintro i m ys H ⟨rfl,hi,p⟩;obtain⟨q,hz⟩:=hl i ys H hi p;refine⟨hz, ?_⟩;by_cases hlt:i<xs.length
 ·refine .inr ⟨⟨xs,xs[i],q,by simp[hlt]⟩,Pv (i+1),λys' H' p'=>⟨xs.length - (i+1),by omega,rfl,hlt,p'⟩,λx H' y=> ?_⟩;obtain⟨e,y⟩:=y;subst e;exact hs i x ys _ (y xs q) p
 ·have e:i=xs.length:=by omega
  subst e;exact .inl ⟨⟨xs,q,Nat.le_refl _⟩,hd ys H p⟩
noncomputable def lk(z:Str):List (Str×Vl)->Option Vl
 | []=>none
 |(y,n)::r=>match lk z r with
  |some m=>some m
  |none=>if y=z then some n else none
theorem HS(z:Str)(e:List (Str×Vl))(x:Str×Vl):lk z (e++ [x])=if x.1=z then some x.2 else lk z e:=by
 induction e with
 |nil=>simp[lk]
 |cons y r ih=>
  obtain⟨y1,y2⟩:=y;simp only[List.cons_append,lk,ih];by_cases h:x.1=z
  ·rw[if_pos h,if_pos h]
  ·rw[if_neg h,if_neg h]
noncomputable def binds:Vl->List (Str×Vl)
 | .bind e z a=>binds e++ [(z,a)]
 |_=> []
theorem MV(z:Str):∀e:Vl,lk z (binds e)=look z e
 | .bind e y a=>by rw[binds,HS,MV z e,look]
 | .int _| .bl _| .lst _| .fn _ _ _| .nil| .cons _ _=>rfl
inductive PrA (H:Hp) (x:Str×Vl) (u:V):Prop
 |mk:∀q v,(u=.ref q)->(H q=some (.tup [.str x.1,v]))->(V1 H x.2 v)->PrA H x u
theorem XJ{H:Hp}{e:Vl}{us:List V}(h:VA H e (.inr (true,us))):All2 (PrA H) (binds e) us:=by
 generalize eq:(Sum.inr (true,us):V⊕(Bool×List V))=x at h;induction h generalizing us with
 |nil=>cases eq;exact .nil
 |bind _ h1 h2 i1 _=>cases eq;exact(i1 rfl).app (.cons ⟨_,_,rfl,h1,h2⟩ .nil)
 |_=>cases eq
section
variable{P:Program}{w:World}{K:FZ}{mg:Str->Option Value}{base:Heap}{f:Addr}{fd:FuncData}{ZK:Addr}{ZL:FuncData}
inductive spVbW(vs:List V)(H:Hp)(Q:VK):Prop
 |mk:∀(z:Str) (e:Vl) (v:V) (x:Vl),(vs=[.str z,v])->(EA H e v)->(Q3 e<=1000)->(look z e=some x)->(∀u H',Same H H'->V1 H' x u->Q u H')->spVbW vs H Q
noncomputable def cHZ:Sp:=λvs H Q _=>spVbW vs H Q
theorem ok_value_bound(F:Fun K "value_bound" "value_bound" V8 f fd):FnOk P w K mg base CX0 1 f fd brZ cHZ:=by
 refine F.ok sc_value_bound (λvs H Q E h=> ?_) (λcdv A outer s H vs Q E hr h=> ?_)
 ·obtain⟨z,e,v,n,rfl,_⟩:=h;rfl
 obtain⟨z,e,v,n,rfl,⟨p,us,rfl,hp,he⟩,hz,hn,q⟩:=h;have nd:=sc_value_bound.nd;have hu:=hr.units0;have zz:(1000:Nat)<=sizeLine:=by decide
 have hl:=he.len;have hb:=XJ he;have hbl:=hb.len;rw[<-MV]at hn;refine⟨_,(A8 (B5 (ixE K w (MZ (CompScope2.mk (N:=DI) (sc:=B3 V8) (caps:=[0]) (ns:=["name"]) (by decide +kernel) rfl (by decide +kernel) rfl rfl (by decide +kernel) rfl (by decide +kernel) (by decide +kernel)) rfl rfl rfl (LI (K:=K) (pv 1)) (λ_ _ _ _ _=>(Y5 (B0 (kEq (K:=K) hu) (pv 0) (pv 2) rfl))) (λ_ _ _ _ _=>(pv 1))) (IK EG A3)))), ?_⟩;refine⟨_,rfl,p,rfl,⟨us,SqT.of hp⟩,UC (xs:=us) (λj ys H'=>ys.length<=j/\(∀m,lk z ((binds e).take j)=some m->∃pre u,ys=pre++ [u]/\V1 H m u)/\H=H') ⟨Nat.le_refl _,by simp[lk],rfl⟩ ?_ ?_ ?_⟩
 ·rintro i ys H' hi ⟨hv,_,rfl⟩;exact⟨SqT.of hp,by omega⟩
 ·rintro i x ys H' hx ⟨hv,hf,rfl⟩;obtain⟨⟨y1,y2⟩,hy,a,u,rfl,ha,hau⟩:=hb.get hx;refine⟨a,_,_,rfl,SqT.of ha,_,rfl,_,rfl,.inl ⟨rfl,_,rfl,K6 (λc=>⟨_,rfl, ?_,λm hm=> ?_,rfl⟩) (λc=>⟨by omega,λm hm=> ?_,rfl⟩)⟩⟩
  ·rw[length_append];simp only[length_cons,length_nil];omega
  ·have ec:y1=z:=by have:=of_decide_eq_true c;injection this
   rw[BV.take_one hy,HS,if_pos ec]at hm;cases hm;exact⟨ys,u,rfl,hau⟩
  ·have ec:¬y1=z:=λz=>c (by rw[z];exact decide_eq_true rfl);rw[BV.take_one hy,HS,if_neg ec]at hm;exact hf m hm
 rintro ys H' ⟨hv,hf,rfl⟩ r hr0;rw[<-hbl,take_of_length_le (Nat.le_refl _)]at hf;obtain⟨pre,u,rfl,hu1⟩:=hf n hn;exact⟨1,rfl,(ixL A1 (EZ _ _) (q _ _ (A2 hr0 _) (hu1.mono (A5 (A2 hr0 _)))))⟩
inductive spOnceW (vs:List V) (H:Hp) (Q:VK):Prop
 |mk:∀(t:Tm) (e v:Vl) (tv ev:V),(vs=[tv,ev])->(T1 H t tv)->(EA H e ev)->(Q3 e<=1000)->(Once e t v)->(∀u H',Same H H'->V1 H' v u->Q u H')->spOnceW vs H Q
noncomputable def VF:Sp:=λvs H Q _=>spOnceW vs H Q
theorem ok_value_at_once(F:Fun K "value_at_once" "value_at_once" W8 f fd)
  (Z3:Cn P w K mg base CX0 1 "value_bound" brZ cHZ):
  FnOk P w K mg base CX0 2 f fd TX VF:=by
 refine F.ok sc_value_at_once (λvs H Q E h=> ?_) (λcdv A outer s H vs Q E hr h=> ?_)
 ·obtain⟨t,e,v,tv,ev,rfl,_⟩:=h;rfl
 obtain⟨t,e,v,tv,ev,rfl,ht,he,hz,hv,q⟩:=h;have nd:=sc_value_at_once.nd;have hu:=hr.units0;have z4:(4:Nat)<=sizeLine:=by decide
 refine⟨_,(A6 (sS 2 nd (ixE K w (pv 0) A3))
   (A6 (B8 (B0 (kEq (K:=K) hu) (pv 2) A7 rfl) (A8 (B5 (A9 (A0 A7 (A0 (A9 A4) A4))))) B6)
   (A6 (B8 (B0 (kEq (K:=K) hu) (pv 2) A7 rfl) (A8 (B5 (cC Z3 hr (A0 (ixE K w (pv 0) A3) (A0 (pv 1) A4))))) B6)
   (A6 (B8 (B0 (kEq (K:=K) hu) (pv 2) A7 rfl) (A8 (B5 (A9 (A0 A7 (A0 (ixE K w (pv 0) A3) (A0 (ixE K w (pv 0) A3) (A0 (pv 1) A4))))))) B6)
   (A8 (B5 (ixE K w (pv 0) A3))))))), ?_⟩
 cases hv with
 |num=>
  cases ht with
  | @num _ p hp=>
   refine⟨_,rfl,(ixT hp rfl ?_)⟩;refine⟨_,rfl,.inl ⟨rfl,_,rfl,ifF nZ ⟨_,rfl,.inl ⟨rfl,_,rfl,ifF nZ ⟨_,rfl,.inl ⟨rfl,_,rfl,ifF nZ ?_⟩⟩⟩⟩⟩⟩;exact⟨_,rfl,(ixT hp rfl (q _ _ (Same.refl _) .int))⟩
 |tru=>
  cases ht with
  | @tru _ p hp=>
   refine⟨_,rfl,(ixT hp rfl ?_)⟩;refine⟨_,rfl,.inl ⟨rfl,_,rfl,ifF nZ ⟨_,rfl,.inl ⟨rfl,_,rfl,ifF nZ ⟨_,rfl,.inl ⟨rfl,_,rfl,ifF nZ ?_⟩⟩⟩⟩⟩⟩;exact⟨_,rfl,(ixT hp rfl (q _ _ (Same.refl _) .bl))⟩
 |non=>
  cases ht with
  | @non p hp=>
   refine⟨_,rfl,(ixT hp rfl ?_)⟩;refine⟨_,rfl,.inl ⟨rfl,_,rfl,ifT rfl ⟨zero_le _,λe1 he1=>⟨D1,λa ha=> ?_⟩⟩⟩⟩;exact q _ _ ((A2 he1 (.tup [])).trans (A2 ha _)) (.lst A1 ((A2 ha _) _ _ A1) .nil)
 | @name z _ hz0=>
  cases ht with
  | @name _ p hp=>
   refine⟨_,rfl,(ixT hp rfl ?_)⟩;refine⟨_,rfl,.inl ⟨rfl,_,rfl,ifF nZ ⟨_,rfl,.inl ⟨rfl,_,rfl,ifT rfl ?_⟩⟩⟩⟩;exact⟨_,rfl,(ixT hp rfl ⟨_,rfl,z,e,ev,v,rfl,he,hz,hz0,q⟩)⟩
 | @fn z b=>
  cases ht with
  | @fn _ _ p u hp hb=>
   obtain⟨pe,us,rfl,hpe,hve⟩:=he;refine⟨_,rfl,(ixT hp rfl ?_)⟩;refine⟨_,rfl,.inl ⟨rfl,_,rfl,ifF nZ ⟨_,rfl,.inl ⟨rfl,_,rfl,ifF nZ ⟨_,rfl,.inl ⟨rfl,_,rfl,ifT rfl ?_⟩⟩⟩⟩⟩⟩;refine⟨_,rfl,(ixT hp rfl ⟨_,rfl,(ixT hp rfl ⟨_,rfl,z4,λr hr0=> ?_⟩)⟩)⟩;have s1:=A2 hr0 (.tup [.str "fn",.str z,u,.ref pe]);exact q _ _ s1 (.fn A1 (hb.mono (A5 s1)) (s1 _ _ hpe) (hve.mono (A5 s1)))
end
noncomputable abbrev EE:Stmt:=BV.top 8
noncomputable abbrev R3:Stmt:=BV.top 19
noncomputable abbrev QD:List Str:=["term","form"]
theorem sc_parts_of:FnScope QD ["term"] (B3 EE):=fS
noncomputable abbrev EB:List Str:=["program","state","most","term","bound","first"]
theorem sc_onward_from_term:FnScope EB MQ (B3 R3):=fS
theorem O1{n k:Nat}(hk:0<k)(hn:0<n)(o:Option Int):¬(HT.sIx n 0 (some (k:Int))=0/\HT.sIx n n o=n):=by
 rw[HT.sIx_nat];omega
theorem HE(u:V)(ws:List V):R1 (u::ws) (some 1) none=ws:=by
 unfold R1 HT.sIx;simp
section
variable{P:Program}{w:World}{K:FZ}{mg:Str->Option Value}{base:Heap}{f:Addr}{fd:FuncData}{GX BQ OP KW:Addr}{GW BP ON LG:FuncData}
inductive spWaitW(vs:List V)(H:Hp)(Q:VK):Prop
 |mk:∀(t:Tm) (e:Vl) (t1:Tm) (fr:Fr) (tv ev:V),(vs=[tv,ev])->(T1 H t tv)->(EA H e ev)->(Wait e t t1 fr)->(∀u H',Same H H'->FA H' fr u->Q u H')->spWaitW vs H Q
noncomputable def XA:Sp:=λvs H Q _=>spWaitW vs H Q
theorem ok_waiting_of(F:Fun K "waiting_of" "waiting_of" BC f fd):FnOk P w K mg base CX0 1 f fd TX XA:=by
 refine F.ok sc_waiting_of (λvs H Q E h=> ?_) (λcdv A outer s H vs Q E hr h=> ?_)
 ·obtain⟨t,e,t1,fr,tv,ev,rfl,_⟩:=h;rfl
 obtain⟨t,e,t1,fr,tv,ev,rfl,ht,he,hx,q⟩:=h;have nd:=sc_waiting_of.nd;have hu:=hr.units0;have z4:(4:Nat)<=sizeLine:=by decide
 have z5:(5:Nat)<=sizeLine:=by decide
 refine⟨_,(A6 (sS 2 nd (ixE K w (pv 0) A3))
   (A6 (B8 (B0 (kEq (K:=K) hu) (pv 2) A7 rfl) (A8 (B5 (A9 (A0 A7 (A0 (ixE K w (pv 0) A3) (A0 (ixE K w (pv 0) A3) (A0 (pv 1) A4))))))) B6)
   (A6 (B8 (B0 (kEq (K:=K) hu) (pv 2) A7 rfl) (A8 (B5 (A9 (A0 A7 (A0 (ixE K w (pv 0) A3) A4))))) B6)
   (A6 (B8 (B0 (kEq (K:=K) hu) (pv 2) A7 rfl) (A8 (B5 (A9 (A0 A7 (A0 (ixE K w (pv 0) A3) (A0 (ixE K w (pv 0) A3) (A0 (pv 1) A4))))))) B6)
   (A6 (B8 (B0 (kEq (K:=K) hu) (pv 2) A7 rfl) (A8 (B5 (A9 (A0 A7 (A0 (ixE K w (pv 0) A3) (A0 (ixE K w (pv 0) A3) (A0 (pv 1) A4))))))) B6)
   (A6 (B8 (B0 (kEq (K:=K) hu) (pv 2) A7 rfl) (A8 (B5 (A9 (A0 A7 (A0 (ixE K w (pv 0) A3) (A0 (pv 1) A4)))))) B6)
   (A8 (B5 (A9 (A0 A7 (A0 (ixE K w (pv 0) A3) (A0 (A9 A4) (A0 (D7 (kSl (K:=K)) (ixE K w (pv 0) A3) (E7 A3) J5) (A0 (pv 1) A4)))))))))))))), ?_⟩
 cases hx with
 | @two s a b=>
  cases ht with
  | @two _ _ _ p u y hp ha hb=>
   refine⟨_,rfl,(ixT hp rfl ?_)⟩;refine⟨_,rfl,.inl ⟨rfl,_,rfl,ifT rfl ?_⟩⟩;refine⟨_,rfl,(ixT hp rfl ⟨_,rfl,(ixT hp rfl ⟨_,rfl,z4,λr hr0=> ?_⟩)⟩)⟩;have s1:=A2 hr0 (.tup [.str "two",.str s,y,ev]);exact q _ _ s1 (.two A1 (hb.mono (A5 s1)) (he.mono (A5 s1)))
 | @one s a=>
  cases ht with
  | @one _ _ p u hp ha=>
   refine⟨_,rfl,(ixT hp rfl ?_)⟩;refine⟨_,rfl,.inl ⟨rfl,_,rfl,ifF nZ ⟨_,rfl,.inl ⟨rfl,_,rfl,ifT rfl ?_⟩⟩⟩⟩;refine⟨_,rfl,(ixT hp rfl ⟨D1,λr hr0=> ?_⟩)⟩;exact q _ _ (A2 hr0 _) (.one A1)
 | @ite c a b=>
  cases ht with
  | @ite _ _ _ p t u y hp hc ha hb=>
   refine⟨_,rfl,(ixT hp rfl ?_)⟩;refine⟨_,rfl,.inl ⟨rfl,_,rfl,ifF nZ ⟨_,rfl,.inl ⟨rfl,_,rfl,ifF nZ ⟨_,rfl,.inl ⟨rfl,_,rfl,ifT rfl ?_⟩⟩⟩⟩⟩⟩;refine⟨_,rfl,(ixT hp rfl ⟨_,rfl,(ixT hp rfl ⟨_,rfl,z4,λr hr0=> ?_⟩)⟩)⟩;have s1:=A2 hr0 (.tup [.str "if",u,y,ev]);exact q _ _ s1 (.ite A1 (ha.mono (A5 s1)) (hb.mono (A5 s1)) (he.mono (A5 s1)))
 | @let_ z a b=>
  cases ht with
  | @let_ _ _ _ p u y hp ha hb=>
   refine⟨_,rfl,(ixT hp rfl ?_)⟩;refine⟨_,rfl,.inl ⟨rfl,_,rfl,ifF nZ ⟨_,rfl,.inl ⟨rfl,_,rfl,ifF nZ ⟨_,rfl,.inl ⟨rfl,_,rfl,ifF nZ ⟨_,rfl,.inl ⟨rfl,_,rfl,ifT rfl ?_⟩⟩⟩⟩⟩⟩⟩⟩;refine⟨_,rfl,(ixT hp rfl ⟨_,rfl,(ixT hp rfl ⟨_,rfl,z4,λr hr0=> ?_⟩)⟩)⟩;have s1:=A2 hr0 (.tup [.str "let",.str z,y,ev]);exact q _ _ s1 (.let_ A1 (hb.mono (A5 s1)) (he.mono (A5 s1)))
 | @do_ g a=>
  cases ht with
  | @do_ _ _ p u y hp ha hb=>
   refine⟨_,rfl,(ixT hp rfl ?_)⟩;refine⟨_,rfl,.inl ⟨rfl,_,rfl,ifF nZ ⟨_,rfl,.inl ⟨rfl,_,rfl,ifF nZ ⟨_,rfl,.inl ⟨rfl,_,rfl,ifF nZ ⟨_,rfl,.inl ⟨rfl,_,rfl,ifF nZ ⟨_,rfl,.inl ⟨rfl,_,rfl,ifT rfl ?_⟩⟩⟩⟩⟩⟩⟩⟩⟩⟩;refine⟨_,rfl,(ixT hp rfl ⟨_,rfl,D9,λr hr0=> ?_⟩)⟩;have s1:=A2 hr0 (.tup [.str "do",y,ev]);exact q _ _ s1 (.do_ A1 (hb.mono (A5 s1)) (he.mono (A5 s1)))
 | @call z a r=>
  cases ht with
  | @call _ _ p p2 us hp hp2 ha=>
   cases ha with
   | @cons _ _ u ws ha hrw=>
    refine⟨_,rfl,(ixT hp rfl ?_)⟩;refine⟨_,rfl,.inl ⟨rfl,_,rfl,ifF nZ ⟨_,rfl,.inl ⟨rfl,_,rfl,ifF nZ ⟨_,rfl,.inl ⟨rfl,_,rfl,ifF nZ ⟨_,rfl,.inl ⟨rfl,_,rfl,ifF nZ ⟨_,rfl,.inl ⟨rfl,_,rfl,ifF nZ ?_⟩⟩⟩⟩⟩⟩⟩⟩⟩⟩;refine⟨_,rfl,(ixT hp rfl ⟨(by show 0<=sizeLine;decide),λe1 he1=> ?_⟩)⟩;have s1:=A2 he1 (.tup []);refine⟨_,rfl,(ixT (s1 _ _ hp) rfl ⟨_,rfl,.inr ⟨p2,u::ws,rfl,SqT.of (s1 _ _ hp2),O1 (by decide) (succ_pos _) _,λe2 he2=> ?_⟩⟩)⟩;rw[show R1 (u::ws) (some 1) none=ws by exact HE u ws];have s2:=s1.trans (A2 he2 (.tup ws));refine⟨_,rfl,z5,λr hr0=> ?_⟩;have s3:=s2.trans (A2 hr0 (.tup [.str "call",.str z,.ref e1,.ref e2,ev]));exact q _ _ s3 (.call A1 ((A2 hr0 _) _ _ ((A2 he2 _) _ _ A1)) .nil ((A2 hr0 _) _ _ A1) (hrw.row.imp λ_ _ h=>h.mono (A5 s3)) (he.mono (A5 s3)))
end
noncomputable def PF:List (Str×V):=[("two",.int 2),("one",.int 2),("if",.int 1),("let",.int 2),("fn",.int 2),("do",.int 1)]
section
variable{P:Program}{w:World}{K:FZ}{mg:Str->Option Value}{base:Heap}{f:Addr}{fd:FuncData}{GX BQ OP KW:Addr}{GW BP ON LG:FuncData}{pf:Addr}
inductive spPartsW(vs:List V)(H:Hp)(Q:VK):Prop
 |mk:∀(t:Tm) (e:Vl) (t1:Tm) (fr:Fr) (tv:V),(vs=[tv])->(T1 H t tv)->(Wait e t t1 fr)->(∀r H' u us,Same H H'->H' r=some (.lst (u::us))->T1 H' t1 u->Q (.ref r) H')->spPartsW vs H Q
noncomputable def RQ:Sp:=λvs H Q _=>spPartsW vs H Q
theorem ok_parts_of(F:Fun K "parts_of" "parts_of" EE f fd)(B:BV.NoG mg)(TD:TopD w K pf PF)(m_PARTS_FROM:mg "PARTS_FROM"=some (.ref pf)):FnOk P w K mg base CX0 1 f fd ["term"] RQ:=by
 refine F.ok sc_parts_of (λvs H Q E h=> ?_) (λcdv A outer s H vs Q E hr h=> ?_)
 ·obtain⟨t,e,t1,fr,tv,rfl,_⟩:=h;rfl
 obtain⟨t,e,t1,fr,tv,rfl,ht,hx,q⟩:=h;have nd:=sc_parts_of.nd;have hu:=hr.units0;refine⟨_,(A6 (sS 1 nd (ixE K w (pv 0) A3))
   (A6 (B8 (B0 (kEq (K:=K) hu) (pv 1) A7 rfl) (A8 (B5 (D6 (GJ (K:=K)) rfl B.list_ V6 (A0 (ixE K w (pv 0) A3) A4)))) B6)
   (A6 (B8 (B0 (kIn (K:=K) (w:=w)) (pv 1) (BL (v:=.ref _) rfl m_PARTS_FROM rfl) rfl) (A8 (B5 (D6 (GJ (K:=K)) rfl B.list_ V6 (A0 (D7 (kSl (K:=K)) (pv 0) (E7 (ixE K w (BL (v:=.ref _) rfl m_PARTS_FROM rfl) (pv 1))) J5) A4)))) B6)
   (A8 (B5 (E5 A4)))))), ?_⟩
 cases hx with
 | @call z a r=>
  cases ht with
  | @call _ _ p p2 us hp hp2 ha=>
   cases ha with
   | @cons _ _ u ws ha hrw=>
    refine⟨_,rfl,(ixT hp rfl ?_)⟩;refine⟨_,rfl,.inl ⟨rfl,_,rfl,ifT (by decide) ?_⟩⟩;refine⟨_,rfl,(ixT hp rfl ⟨_,_,rfl,.inr (SqT.of hp2),λl hl=> ?_⟩)⟩;have s1:=A2 hl (.lst (u::ws));exact q l _ u ws s1 A1 (ha.mono (A5 s1))
 |two=>
  cases ht with
  | @two _ _ _ p u y hp ha hb=>
   refine⟨_,rfl,(ixT hp rfl ?_)⟩;refine⟨_,rfl,.inl ⟨rfl,_,rfl,ifF (by decide) ?_⟩⟩;refine⟨_,rfl,.inr (.inr ⟨_,_,PF,rfl,rfl,TD,_,rfl,ifT (by decide) ?_⟩)⟩;refine⟨_,rfl,_,rfl,.inr (.inr (.inr ⟨_,_,PF,_,rfl,rfl,TD,rfl,_,rfl,.inr ⟨p,_,rfl,SqT.of hp,O1 (by decide) (succ_pos _) _,λp3 hp3=> ?_⟩⟩))⟩;refine⟨_,_,rfl,.inr (SqT.of A1),λl hl=> ?_⟩;have s1:=(A2 hp3 (.tup [u,y])).trans (A2 hl (.lst [u,y]));exact q l _ u [y] s1 A1 (ha.mono (A5 s1))
 |one=>
  cases ht with
  | @one _ _ p u hp ha=>
   refine⟨_,rfl,(ixT hp rfl ?_)⟩;refine⟨_,rfl,.inl ⟨rfl,_,rfl,ifF (by decide) ?_⟩⟩;refine⟨_,rfl,.inr (.inr ⟨_,_,PF,rfl,rfl,TD,_,rfl,ifT (by decide) ?_⟩)⟩;refine⟨_,rfl,_,rfl,.inr (.inr (.inr ⟨_,_,PF,_,rfl,rfl,TD,rfl,_,rfl,.inr ⟨p,_,rfl,SqT.of hp,O1 (by decide) (succ_pos _) _,λp3 hp3=> ?_⟩⟩))⟩;refine⟨_,_,rfl,.inr (SqT.of A1),λl hl=> ?_⟩;have s1:=(A2 hp3 (.tup [u])).trans (A2 hl (.lst [u]));exact q l _ u [] s1 A1 (ha.mono (A5 s1))
 |let_=>
  cases ht with
  | @let_ _ _ _ p u y hp ha hb=>
   refine⟨_,rfl,(ixT hp rfl ?_)⟩;refine⟨_,rfl,.inl ⟨rfl,_,rfl,ifF (by decide) ?_⟩⟩;refine⟨_,rfl,.inr (.inr ⟨_,_,PF,rfl,rfl,TD,_,rfl,ifT (by decide) ?_⟩)⟩;refine⟨_,rfl,_,rfl,.inr (.inr (.inr ⟨_,_,PF,_,rfl,rfl,TD,rfl,_,rfl,.inr ⟨p,_,rfl,SqT.of hp,O1 (by decide) (succ_pos _) _,λp3 hp3=> ?_⟩⟩))⟩;refine⟨_,_,rfl,.inr (SqT.of A1),λl hl=> ?_⟩;have s1:=(A2 hp3 (.tup [u,y])).trans (A2 hl (.lst [u,y]));exact q l _ u [y] s1 A1 (ha.mono (A5 s1))
 |do_=>
  cases ht with
  | @do_ _ _ p u y hp ha hb=>
   refine⟨_,rfl,(ixT hp rfl ?_)⟩;refine⟨_,rfl,.inl ⟨rfl,_,rfl,ifF (by decide) ?_⟩⟩;refine⟨_,rfl,.inr (.inr ⟨_,_,PF,rfl,rfl,TD,_,rfl,ifT (by decide) ?_⟩)⟩;refine⟨_,rfl,_,rfl,.inr (.inr (.inr ⟨_,_,PF,_,rfl,rfl,TD,rfl,_,rfl,.inr ⟨p,_,rfl,SqT.of hp,O1 (by decide) (succ_pos _) _,λp3 hp3=> ?_⟩⟩))⟩;refine⟨_,_,rfl,.inr (SqT.of A1),λl hl=> ?_⟩;have s1:=(A2 hp3 (.tup [u,y])).trans (A2 hl (.lst [u,y]));exact q l _ u [y] s1 A1 (ha.mono (A5 s1))
 |ite=>
  cases ht with
  | @ite _ _ _ p t u y hp hc ha hb=>
   refine⟨_,rfl,(ixT hp rfl ?_)⟩;refine⟨_,rfl,.inl ⟨rfl,_,rfl,ifF (by decide) ?_⟩⟩;refine⟨_,rfl,.inr (.inr ⟨_,_,PF,rfl,rfl,TD,_,rfl,ifT (by decide) ?_⟩)⟩;refine⟨_,rfl,_,rfl,.inr (.inr (.inr ⟨_,_,PF,_,rfl,rfl,TD,rfl,_,rfl,.inr ⟨p,_,rfl,SqT.of hp,O1 (by decide) (succ_pos _) _,λp3 hp3=> ?_⟩⟩))⟩;refine⟨_,_,rfl,.inr (SqT.of A1),λl hl=> ?_⟩;have s1:=(A2 hp3 (.tup [t,u,y])).trans (A2 hl (.lst [t,u,y]));exact q l _ t [u,y] s1 A1 (hc.mono (A5 s1))
inductive spOTW (vs:List V) (H:Hp) (Q:VK):Prop
 |mk:∀(t:Tm) (e:Vl) (pl:List Fr) (c d:Int) (r:Res) (D:List Dn) (most:Int) (gv sv:V),(vs=[gv,sv,.int most])->(StA H ⟨.term t e,pl,c,d⟩ sv)->(PgA H D gv)->(D.length<=1000)->(pl.length<=10000)->(Q3 e<=1000)->(Stp D most ⟨.term t e,pl,c,d⟩ r)->(∀u H',Same H H'->ReA H' r u->Q u H')->spOTW vs H Q
noncomputable def cPZ:Sp:=λvs H Q _=>spOTW vs H Q
noncomputable abbrev wo:List V:=[.str "number",.str "truth",.str "none",.str "name",.str "fn"]
noncomputable def tmW:Tm->Str
 | .num _=> "number"| .tru _=> "truth"| .non=> "none"| .name _=> "name"| .fn _ _=> "fn"| .two _ _ _=> "two"| .one _ _=> "one"| .ite _ _ _=> "if"| .let_ _ _ _=> "let"| .do_ _ _=> "do"|_=> "call"
theorem TA.word{H:Hp}{t:Tm}{v:V}(h:T1 H t v):∃a rest,v=.ref a/\H a=some (.tup (.str (tmW t)::rest)):=by
 cases h<;>exact⟨_,_,rfl,by assumption⟩
theorem awZ{e:Vl}{t:Tm}{v:Vl}(h:Once e t v):inV (.str (tmW t)) wo=true:=by cases h<;>rfl
theorem adZ{e:Vl}{t t1:Tm}{fr:Fr}(h:Wait e t t1 fr):inV (.str (tmW t)) wo=false:=by cases h<;>rfl
inductive spIFW (vs:List V) (H:Hp) (Q:VK):Prop
 |mk:∀(D:List Dn) (d:Dn) (z:Str) (xs:List Vl) (us:List V) (r:List Fr) (calls deep most:Int) (gv rv:V) (a:Addr),(vs=[gv,.str z,.ref a,rv,.int most])->(PgA H D gv)->(D.length<=1000)->((D.find? λd=>d.name==z)=some d)->(H a=some (.tup us))->(All2 (V1 H) xs us)->(d.pars.length=xs.length)->(xs.length<=1000)->(RsA H r calls deep rv)->(r.length<=10000)->(∀v H',Same H H'->ReA H' (into most d.body (env d.pars xs) r calls deep) v->Q v H')->spIFW vs H Q
noncomputable def bjZ:Sp:=λvs H Q _=>spIFW vs H Q
theorem ok_onward_from_term(F:Fun K "onward_from_term" "onward_from_term" R3 f fd)(B:BV.NoG mg)
  (W6:Cn P w K mg base CX0 2 "value_at_once" TX VF)
  (DT:Cn P w K mg base CX0 1 "parts_of" ["term"] RQ)
  (AT:Cn P w K mg base CX0 1 "waiting_of" TX XA)
  (N0:Cn P w K mg base CX0 2 "into_function" atZ bjZ):
  FnOk P w K mg base CX0 3 f fd MQ cPZ:=by
 refine F.ok sc_onward_from_term (λvs H Q E h=> ?_) (λcdv A outer s H vs Q E hr h=> ?_)
 ·obtain⟨t,e,pl,c,d,r,D,most,gv,sv,rfl,_⟩:=h;rfl
 obtain⟨t,e,pile,calls,deep,r,D,most,gv,sv,rfl,⟨p,fv,lv,rfl,hp,hf,hl⟩,hg,hgl,hz,hez,hst,q⟩:=h;have hp:H p=some (.tup [fv,lv,.int calls,.int deep]):=hp;have hl:PiA H pile lv:=hl;obtain⟨pt,tv,ev,rfl,hpt,ht,he⟩:∃p u w,fv=.ref p/\H p=some (.tup [.str "term",u,w])/\T1 H t u/\EA H e w:=by
  cases hf with
  |term h1 h2 h3=>exact⟨_,_,_,rfl,h1,h2,h3⟩
 have nd:=sc_onward_from_term.nd;have hu:=hr.units0;have z5:(5:Nat)<=sizeLine:=by decide
 refine⟨_,(A6 (sS 3 nd (ixE K w (ixE K w (pv 1) A3) A3))
   (A6 (sS 4 nd (ixE K w (ixE K w (pv 1) A3) A3))
   (A6 (B8 (B0 (kIn (K:=K) (w:=w)) (ixE K w (pv 3) A3) (A9 (A0 A7 (A0 A7 (A0 A7 (A0 A7 (A0 A7 A4)))))) rfl) (A8 (B5 (B4 (S5 (K:=K)) (A9 (A0 (A9 (A0 A7 (A0 (cC W6 hr (A0 (pv 3) (A0 (pv 4) A4))) A4))) A4)) (D7 (kSl (K:=K)) (pv 1) (E7 A3) J5)))) B6)
   (A6 (E6 (B8 (PW.pt (P0 (B0 (kEq (K:=K) hu) (ixE K w (pv 3) A3) A7 rfl) (N8 (B0 (kEq (K:=K) hu) (kL K B.len_ (ixE K w (pv 3) A3)) A3 rfl)))) (A8 (B5 (cC N0 hr (A0 (pv 0) (A0 (ixE K w (pv 3) A3) (A0 (A9 A4) (A0 (D7 (kSl (K:=K)) (pv 1) (E7 A3) J5) (A0 (pv 2) A4)))))))) B6))
   (A6 (sS 5 nd (ixE K w (cC DT hr (A0 (pv 3) A4)) A3))
   (A8 (B5 (B4 (S5 (K:=K)) (A9 (A0 (A9 (A0 A7 (A0 (pv 5) (A0 (pv 4) A4)))) (A0 (B4 (S5 (K:=K)) (ixE K w (pv 1) A3) (A9 (A0 (cC AT hr (A0 (pv 3) (A0 (pv 4) A4))) A4))) A4))) (D7 (kSl (K:=K)) (pv 1) (E7 A3) J5))))))))), ?_⟩
 refine⟨_,rfl,(ixT hp rfl (ixT hpt rfl ?_))⟩;refine⟨_,rfl,(ixT hp rfl (ixT hpt rfl ?_))⟩;obtain⟨a,rest,rfl,ha⟩:=ht.word;have hat:atI (V.str (tmW t)::rest) ((0:Nat):Int)=some (.str (tmW t)):=J0 rfl;refine⟨_,rfl,(ixT ha hat ⟨z5,λb hb=> .inr (.inl ⟨b,wo,rfl,.inr (SqT.of A1),rfl,rfl,_,rfl, ?_⟩)⟩)⟩;have s1:=A2 hb (.tup wo);show if inV (.str (tmW t)) wo=true then _ else _
 have rest:∀ {H':Hp},Mo H H'->H' p=some (.tup [.ref pt,lv,.int calls,.int deep]):=λm=>m _ _ hp;cases hst with
 | @once _ _ v _ _ _ hv=>
  refine ifT (awZ hv) ?_;refine⟨_,rfl,_,rfl,t,e,v,.ref a,ev,rfl,ht.mono (A5 s1),he.mono (A5 s1),hez,hv,λu H2 s2 hv2=>⟨D1,λa1 ha1=>⟨L8,λa2 ha2=> ?_⟩⟩⟩;have s3:=A2 ha1 (.tup [.str "value",u]);have s4:=A2 ha2 (.tup [.ref a1]);have s14:=s1.trans (s2.trans (s3.trans s4));refine⟨_,rfl,_,rfl,.inr ⟨p,_,rfl,SqT.of (s14 _ _ hp),O1 (by decide) (succ_pos _) _,λa3 ha3=> ?_⟩⟩;have s5:=A2 ha3 (.tup [lv,.int calls,.int deep]);refine .inr (.inl ⟨a2,a3,[.ref a1],[lv,.int calls,.int deep],rfl,rfl,SqT.of (s5 _ _ A1),SqT.of A1,cons_ne_nil _ _,(by show 4<=sizeLine;decide),λz=>absurd z (cons_ne_nil _ _),λ_ r hr0=> ?_⟩);have s6:=A2 hr0 (.tup [.ref a1,lv,.int calls,.int deep]);have sA:=s14.trans (s5.trans s6);exact q _ _ sA ⟨r,.ref a1,lv,rfl,A1,.val ((s4.trans (s5.trans s6)) _ _ A1) (hv2.mono (A5 (s3.trans (s4.trans (s5.trans s6))))),hl.mono (A5 sA)⟩
 | @call0 z dn _ _ _ _ hd hp0=>
  refine ifF (by show¬inV (.str "call") wo=true;decide) ?_;cases ht with
  | @call _ _ _ p2 us hpc hp2 hrw=>
   cases hrw;rw[ha]at hpc;cases hpc;refine⟨fun σ H'=>False, ?_,fun σ H' z=>z.elim⟩;refine⟨_,rfl,(ixT (s1 _ _ ha) hat (.inl ⟨rfl,_,rfl, ?_⟩))⟩;refine ifT rfl ⟨_,rfl,(ixT (s1 _ _ ha) rfl ⟨_,_,rfl,.inr ⟨_,SqT.of (s1 _ _ hp2),rfl⟩,.inl ⟨rfl,_,rfl,ifT (by decide) ?_⟩⟩)⟩;refine⟨_,rfl,_,rfl,(ixT (s1 _ _ ha) rfl ⟨zero_le _,λe1 he1=> ?_⟩)⟩;have s2:=s1.trans (A2 he1 (.tup []));refine⟨_,rfl,_,rfl,.inr ⟨p,_,rfl,SqT.of (s2 _ _ hp),O1 (by decide) (succ_pos _) _,λa3 ha3=> ?_⟩⟩;have s3:=s2.trans (A2 ha3 (.tup [lv,.int calls,.int deep]));refine⟨_,rfl,D,dn,z,[],[],pile,calls,deep,most,gv,.ref a3,e1,rfl,hg.mono (A5 s3),hgl,hd,(A2 ha3 _) _ _ A1,.nil,by rw[hp0];rfl,zero_le _,⟨a3,lv,rfl,A1,hl.mono (A5 s3)⟩,hz,λv H' sm h=>q _ _ (s3.trans sm) ?_⟩;rw[hp0]at h;exact h
 | @wait _ _ t1 fr _ _ _ hx=>
  refine ifF (by rw[adZ hx];exact nZ) ?_;have ht1:=ht.mono (A5 s1);have he1:=he.mono (A5 s1);have ha1':=s1 _ _ ha;have hp1:=s1 _ _ hp;have hl1:=hl.mono (A5 s1);have q1:∀u H',Same (upd H b (.tup wo)) H'->ReA H' (.st ⟨.term t1 e,fr::pile,calls,deep⟩) u->Q u H':=λu H' sm h=>q u H' (s1.trans sm) h;clear rest q hb ht he ha hp hl hpt hg
  change Same H (upd H b (.tup wo))at s1
  generalize upd H b (.tup wo)=H1 at s1 ht1 he1 ha1' hp1 hl1 q1⊢;refine⟨fun σ H'=>σ=[some gv,some (.ref p),some (.int most),some (.ref a),some ev,none]/\H1=H', ?_, ?_⟩
  ·refine⟨_,rfl,(ixT ha1' hat (.inl ⟨rfl,_,rfl, ?_⟩))⟩;cases hx with
   |call=>
    cases ht1 with
    |call hp' hp2 hrw=>
     cases hrw;exact ifT rfl ⟨_,rfl,(ixT hp' rfl ⟨_,_,rfl,.inr ⟨_,SqT.of hp2,rfl⟩,.inl ⟨rfl,_,rfl,ifF (by simp;omega) ⟨rfl,rfl⟩⟩⟩)⟩
   |_=>exact ifF nZ (ifF nZ ⟨rfl,rfl⟩)
  rintro σ H' ⟨rfl,rfl⟩;refine⟨_,rfl,t,e,t1,fr,.ref a,rfl,ht1,hx,λr H3 u us s3 hr3 hu3=>(ixL hr3 (show atI (u::us) ((0:Nat):Int)=some u from J0 rfl) ?_)⟩;refine⟨_,rfl,_,rfl,D9,λa1 ha1=> ?_⟩;have s4:=A2 ha1 (.tup [.str "term",u,ev]);have s34:=s3.trans s4;refine⟨_,rfl,(ixT (s34 _ _ hp1) rfl ⟨_,rfl,_,rfl,t,e,t1,fr,.ref a,ev,rfl,ht1.mono (A5 s34),he1.mono (A5 s34),hx,λu2 H4 s5 hf4=>⟨L8,λa2 ha2=> ?_⟩⟩)⟩;have s6:=A2 ha2 (.tup [u2]);have s36:=s34.trans (s5.trans s6);refine .inr (FX (fr:=fr) (hl1.mono (A5 s36)) (hf4.mono (A5 s6)) A1 (by omega) λl5 H5 s7 hp5=>⟨D1,λa3 ha3=> ?_⟩);have s8:=A2 ha3 (.tup [.ref a1,l5]);have s38:=s36.trans (s7.trans s8);refine⟨_,rfl,_,rfl,.inr ⟨p,_,rfl,SqT.of (s38 _ _ hp1),O1 (by decide) (succ_pos _) _,λa4 ha4=> ?_⟩⟩;have s9:=A2 ha4 (.tup [.int calls,.int deep]);refine .inr (.inl ⟨a3,a4,[.ref a1,l5],[.int calls,.int deep],rfl,rfl,SqT.of (s9 _ _ A1),SqT.of A1,cons_ne_nil _ _,(by show 4<=sizeLine;decide),λz=>absurd z (cons_ne_nil _ _),λ_ r2 hr2=> ?_⟩);have s10:=A2 hr2 (.tup [.ref a1,l5,.int calls,.int deep]);have sA:=s38.trans (s9.trans s10);have sB:=s5.trans (s6.trans (s7.trans (s8.trans (s9.trans s10))));exact q1 _ _ sA ⟨r2,.ref a1,l5,rfl,A1,.term (sB _ _ A1) (hu3.mono (A5 (s4.trans sB))) (he1.mono (A5 sA)),hp5.mono (A5 (s8.trans (s9.trans s10)))⟩
end
noncomputable abbrev X9:Stmt:=BV.top 24
noncomputable abbrev EM:Stmt:=BV.top 25
noncomputable abbrev IU:List Str:=["top","value"]
theorem sc_told_at_once:FnScope IU bKZ (B3 X9):=fS
noncomputable abbrev PZ:List Str:=["word","value","items"]
theorem sc_one_told:FnScope PZ ["word","value"] (B3 EM):=fS
noncomputable def BdV:Vl->Prop
 | .int n=> -GR<=n/\n<=GR
 |_=>True
theorem PN{n:Int}(h: -GR<=n/\n<=GR):n.natAbs<2^300:=by
 have e:(10000000000000000000000000000000000000000:Nat)<2^300:=by decide +kernel
 have h1: -(10000000000000000000000000000000000000000:Int)<=n:=h.1;have h2:n<=(10000000000000000000000000000000000000000:Int):=h.2;generalize 2^300=k at e⊢;omega
theorem VL{a b:Int}(h: -GR<=a/\a<=GR)(h': -GR<=b/\b<=GR):IntMulOk a b:=IntMulOk.of_bits (Nat.le_trans (intBits_le_iff.mpr (PN h)) (by decide)) (Nat.le_trans (intBits_le_iff.mpr (PN h')) (by decide))
theorem XH{n:Int}(h: -GR<=n/\n<=GR):n.natAbs.log2<9000:=by
 by_cases e:n.natAbs=0
 ·rw[e];decide +kernel
 ·have:=(Nat.log2_lt e).mpr (PN h);omega
theorem c8Z{k:Nat}(h:k<6):sg k=NM.sg k:=by
 match k,h with
 |0,_|1,_|2,_|3,_|4,_|5,_=>rfl
theorem ZN{H:Hp}{n:Int}{r:Addr}(h:H r=some (.tup (NM.bnd n))):OuA H (FW n) (.ref r):=by
 unfold NM.bnd at h;unfold FW;by_cases c:n>GR\/n< -GR
 ·rw[if_pos c]at h;rw[if_pos c];exact .ref h
 ·rw[if_neg c]at h;rw[if_neg c];exact .val h .int
theorem ciZ{H:Hp}{k:Nat}{a b:Int}{r:Addr}(hk:k<6)(h:H r=some (.tup (NM.tw k a b))):OuA H (tw k a b) (.ref r):=by
 match k,hk with
 |0,_|1,_|2,_=>exact ZN h
 |3,_=>exact .val h .bl
 |4,_=>
  refine .val h ?_;rw[show decide (V.int a=V.int b)=decide (a=b) by by_cases c:a=b<;>simp[c]];exact .bl
 |5,_=>
  have h:H r=some (.tup (NM.quo a b)):=h;show OuA H (if b=0 then .ref "nought"else .val (.int (a.fdiv b))) _;unfold NM.quo at h;by_cases c:b=0
  ·rw[if_pos c]at h;rw[if_pos c];exact .ref h
  ·rw[if_neg c]at h;rw[if_neg c];exact .val h .int
section
variable{P:Program}{w:World}{K:FZ}{mg:Str->Option Value}{base:Heap}{f:Addr}{fd:FuncData}{OH JT JV BO OI:Addr}{OJ JU JW BN OG:FuncData}{pf:Addr}
inductive spPushW(vs:List V)(H:Hp)(Q:VK):Prop
 |mk:∀(fo:Fo) (fr:Fr) (r:List Fr) (calls deep:Int) (fv wv rv:V),(vs=[fv,wv,rv])->(FoA H fo fv)->(FA H fr wv)->(RsA H r calls deep rv)->(r.length<=10000)->(∀u H',Same H H'->StA H' ⟨fo,fr::r,calls,deep⟩ u->Q u H')->spPushW vs H Q
noncomputable def YD:Sp:=λvs H Q _=>spPushW vs H Q
theorem ok_pushed(F:Fun K "pushed" "pushed" IT f fd):FnOk P w K mg base CX0 1 f fd b6Z YD:=by
 refine F.ok sc_pushed (λvs H Q E h=> ?_) (λcdv A outer s H vs Q E hr h=> ?_)
 ·obtain⟨fo,fr,r,calls,deep,fv,wv,rv,rfl,_⟩:=h;rfl
 obtain⟨fo,fr,r,calls,deep,fv,wv,rv,rfl,hf,hw,⟨p,lv,rfl,hp,hl⟩,hz,q⟩:=h;have nd:=sc_pushed.nd;refine⟨_,(A8 (B5 (B4 (S5 (K:=K)) (A9 (A0 (pv 0) (A0 (B4 (S5 (K:=K)) (ixE K w (pv 2) A3) (A9 (A0 (pv 1) A4))) A4))) (D7 (kSl (K:=K)) (pv 2) (E7 A3) J5)))), ?_⟩;refine⟨_,rfl,_,rfl,(ixT hp rfl ⟨_,rfl,L8,λa2 ha2=> ?_⟩)⟩;have s1:=A2 ha2 (.tup [wv]);refine .inr (FX (fr:=fr) (hl.mono (A5 s1)) (hw.mono (A5 s1)) A1 (by omega) λl5 H5 s2 hp5=>⟨D1,λa3 ha3=> ?_⟩);have s3:=A2 ha3 (.tup [fv,l5]);have s13:=s1.trans (s2.trans s3);refine⟨_,rfl,_,rfl,.inr ⟨p,_,rfl,SqT.of (s13 _ _ hp),O1 (by decide) (succ_pos _) _,λa4 ha4=> ?_⟩⟩;have s4:=A2 ha4 (.tup [.int calls,.int deep]);refine .inr (.inl ⟨a3,a4,[fv,l5],[.int calls,.int deep],rfl,rfl,SqT.of (s4 _ _ A1),SqT.of A1,cons_ne_nil _ _,(by show 4<=sizeLine;decide),λz=>absurd z (cons_ne_nil _ _),λ_ r2 hr2=> ?_⟩);have s5:=A2 hr2 (.tup [fv,l5,.int calls,.int deep]);have sA:=s13.trans (s4.trans s5);exact q _ _ sA ⟨r2,fv,l5,rfl,A1,hf.mono (A5 sA),hp5.mono (A5 (s3.trans (s4.trans s5)))⟩
inductive spOneW (vs:List V) (H:Hp) (Q:VK):Prop
 |mk:∀(s:Str) (x:Vl) (o:Out) (v:V),(vs=[.str s,v])->(V1 H x v)->(One s x o)->(∀u H',Same H H'->OuA H' o u->Q u H')->spOneW vs H Q
noncomputable def a1Z:Sp:=λvs H Q _=>spOneW vs H Q
theorem ok_one_told(F:Fun K "one_told" "one_told" EM f fd)(B:BV.NoG mg):FnOk P w K mg base CX0 1 f fd ["word","value"] a1Z:=by
 refine F.ok sc_one_told (λvs H Q E h=> ?_) (λcdv A outer s H vs Q E hr h=> ?_)
 ·obtain⟨s,x,o,v,rfl,_⟩:=h;rfl
 obtain⟨s,x,o,v,rfl,hx,ho,q⟩:=h;have nd:=sc_one_told.nd;have hu:=hr.units0;refine⟨_,(A6 (B8 (B0 (kEq (K:=K) hu) (pv 0) A7 rfl) (A8 (B5 (A9 (A0 A7 (A0 (QO (pv 1)) A4))))) B6)
   (A6 (sS 2 nd (ixE K w (pv 1) A3))
   (A6 (B8 (B0 (kEq (K:=K) hu) (pv 0) A7 rfl) (A8 (B5 (A9 (A0 A7 (A0 (M9 (kEq (K:=K) hu) (kL K B.len_ (pv 2)) A3 rfl) A4))))) B6)
   (A6 (B8 (B0 (kEq (K:=K) hu) (kL K B.len_ (pv 2)) A3 rfl) (A8 (B5 (A9 (A0 A7 (A0 (pv 0) A4))))) B6)
   (A6 (B8 (B0 (kEq (K:=K) hu) (pv 0) A7 rfl) (A8 (B5 (A9 (A0 A7 (A0 (ixE K w (pv 2) A3) A4))))) B6)
   (A8 (B5 (A9 (A0 A7 (A0 (A9 (A0 A7 (A0 (D7 (kSl (K:=K)) (pv 2) (E7 A3) J5) A4))) A4)))))))))), ?_⟩
 cases ho with
 | @not b=>
  cases hx;exact⟨_,rfl,.inl ⟨rfl,_,rfl,ifT rfl ⟨_,rfl,_,rfl,D1,λa ha=>q _ _ (A2 ha _) (.val A1 .bl)⟩⟩⟩
 |emptyT=>
  cases hx with
  | @lst _ p p2 us hp hq hr'=>
   cases hr';refine⟨_,rfl,.inl ⟨rfl,_,rfl,ifF nZ ⟨_,rfl,(ixT hp rfl ?_)⟩⟩⟩;refine⟨_,rfl,.inl ⟨rfl,_,rfl,ifT rfl ?_⟩⟩;exact⟨_,rfl,_,_,rfl,.inr ⟨_,SqT.of hq,rfl⟩,.inl ⟨rfl,D1,λa ha=>q _ _ (A2 ha _) (.val A1 .bl)⟩⟩
 |emptyF=>
  cases hx with
  | @lst _ p p2 us hp hq hr'=>
   cases hr' with
   | @cons _ _ y ys h1 h2=>
    refine⟨_,rfl,.inl ⟨rfl,_,rfl,ifF nZ ⟨_,rfl,(ixT hp rfl ?_)⟩⟩⟩;refine⟨_,rfl,.inl ⟨rfl,_,rfl,ifT rfl ?_⟩⟩;refine⟨_,rfl,_,_,rfl,.inr ⟨_,SqT.of hq,rfl⟩,.inl ⟨rfl,D1,λa ha=>q _ _ (A2 ha _) (.val A1 ?_)⟩⟩;rw[show decide (V.int ((y::ys).length:Int)=V.int 0)=false by simp;omega];exact .bl
 |headN=>
  cases hx with
  | @lst _ p p2 us hp hq hr'=>
   cases hr';refine⟨_,rfl,.inl ⟨rfl,_,rfl,ifF nZ ⟨_,rfl,(ixT hp rfl ?_)⟩⟩⟩;refine⟨_,rfl,.inl ⟨rfl,_,rfl,ifF nZ ⟨_,rfl,_,_,rfl,.inr ⟨_,SqT.of hq,rfl⟩,.inl ⟨rfl,_,rfl,ifT (by decide) ?_⟩⟩⟩⟩;exact⟨_,rfl,D1,λa ha=>q _ _ (A2 ha _) (.ref A1)⟩
 |tailN=>
  cases hx with
  | @lst _ p p2 us hp hq hr'=>
   cases hr';refine⟨_,rfl,.inl ⟨rfl,_,rfl,ifF nZ ⟨_,rfl,(ixT hp rfl ?_)⟩⟩⟩;refine⟨_,rfl,.inl ⟨rfl,_,rfl,ifF nZ ⟨_,rfl,_,_,rfl,.inr ⟨_,SqT.of hq,rfl⟩,.inl ⟨rfl,_,rfl,ifT (by decide) ?_⟩⟩⟩⟩;exact⟨_,rfl,D1,λa ha=>q _ _ (A2 ha _) (.ref A1)⟩
 |head=>
  cases hx with
  | @lst _ p p2 us hp hq hr'=>
   cases hr' with
   | @cons _ _ y ys h1 h2=>
    refine⟨_,rfl,.inl ⟨rfl,_,rfl,ifF nZ ⟨_,rfl,(ixT hp rfl ?_)⟩⟩⟩;refine⟨_,rfl,.inl ⟨rfl,_,rfl,ifF nZ ⟨_,rfl,_,_,rfl,.inr ⟨_,SqT.of hq,rfl⟩,.inl ⟨rfl,_,rfl,ifF (by simp;omega) ?_⟩⟩⟩⟩;refine⟨_,rfl,.inl ⟨rfl,_,rfl,ifT rfl ?_⟩⟩;refine⟨_,rfl,(ixT hq (show atI (y::ys) ((0:Nat):Int)=some y from J0 rfl) ⟨D1,λa ha=>q _ _ (A2 ha _) (.val A1 (h1.mono (A5 (A2 ha _))))⟩)⟩
 |tail=>
  cases hx with
  | @lst _ p p2 us hp hq hr'=>
   cases hr' with
   | @cons _ _ y ys h1 h2=>
    refine⟨_,rfl,.inl ⟨rfl,_,rfl,ifF nZ ⟨_,rfl,(ixT hp rfl ?_)⟩⟩⟩;refine⟨_,rfl,.inl ⟨rfl,_,rfl,ifF nZ ⟨_,rfl,_,_,rfl,.inr ⟨_,SqT.of hq,rfl⟩,.inl ⟨rfl,_,rfl,ifF (by simp;omega) ?_⟩⟩⟩⟩;refine⟨_,rfl,.inl ⟨rfl,_,rfl,ifF nZ ?_⟩⟩;refine⟨_,rfl,_,rfl,.inr ⟨p2,_,rfl,SqT.of hq,O1 (by decide) (succ_pos _) _,λp3 hp3=>⟨D1,λa ha=>⟨D1,λa2 ha2=> ?_⟩⟩⟩⟩;rw[show R1 (y::ys) (some 1) none=ys by exact HE y ys]at ha ha2⊢;have s1:=A2 hp3 (.tup ys);have s2:=A2 ha (.tup [.str "list",.ref p3]);have s3:=A2 ha2 (.tup [.str "value",.ref a]);exact q _ _ (s1.trans (s2.trans s3)) (.val A1 (.lst (s3 _ _ A1) ((s2.trans s3) _ _ A1) (h2.mono (A5 (s1.trans (s2.trans s3))))))
inductive spToldW (vs:List V) (H:Hp) (Q:VK):Prop
 |mk:∀(fr:Fr) (x:Vl) (o:Out) (t v:V),(vs=[t,v])->(FA H fr t)->(V1 H x v)->(BdV x)->(((∃s,fr=.one s/\One s x o)\/∃s a,fr=.then_ s a/\BdV a/\Two s a x o))->((∀r,x=.lst r->Q3 r<=10000))->(∀u H',Same H H'->OuA H' o u->Q u H')->spToldW vs H Q
noncomputable def XW:Sp:=λvs H Q _=>spToldW vs H Q
theorem ok_told_at_once(F:Fun K "told_at_once" "told_at_once" X9 f fd)
  (DO:Cn P w K mg base CX0 2 "two_told" UF NM.spTwo)
  (DS:Cn P w K mg base CX0 1 "one_told" ["word","value"] a1Z):
  FnOk P w K mg base CX0 3 f fd bKZ XW:=by
 refine F.ok sc_told_at_once (λvs H Q E h=> ?_) (λcdv A outer s H vs Q E hr h=> ?_)
 ·obtain⟨fr,x,o,t,v,rfl,_⟩:=h;rfl
 obtain⟨fr,x,o,t,v,rfl,hf,hx,hbx,ho,hlen,q⟩:=h;have nd:=sc_told_at_once.nd;have hu:=hr.units0;refine⟨_,(A6 (B8 (B0 (kEq (K:=K) hu) (ixE K w (pv 0) A3) A7 rfl) (A8 (B5 (cC DS hr (A0 (ixE K w (pv 0) A3) (A0 (pv 1) A4))))) B6)
   (A6 (B8 (B0 (kEq (K:=K) hu) (ixE K w (pv 0) A3) A7 rfl) (A8 (B5 (A9 (A0 A7 (A0 (A9 (A0 A7 (A0 (B4 (S5 (K:=K)) (A9 (A0 (ixE K w (pv 0) A3) A4)) (ixE K w (pv 1) A3)) A4))) A4))))) B6)
   (A8 (B5 (cC DO hr (A0 (ixE K w (pv 0) A3) (A0 (ixE K w (pv 0) A3) (A0 (pv 1) A4)))))))), ?_⟩
 rcases ho with⟨s,rfl,ho⟩|⟨s,a,rfl,hba,ho⟩
 ·cases hf with
  | @one _ p hp=>
   refine⟨_,rfl,(ixT hp rfl (.inl ⟨rfl,_,rfl,ifT rfl ?_⟩))⟩;exact⟨_,rfl,(ixT hp rfl ⟨_,rfl,s,x,o,v,rfl,hx,ho,q⟩)⟩
 ·cases hf with
  | @then_ _ _ p u hp hau=>
   refine⟨_,rfl,(ixT hp rfl (.inl ⟨rfl,_,rfl,ifF nZ ?_⟩))⟩;cases ho with
   | @num k a b hk=>
    have hc:¬decide (V.str (sg k)=V.str ":")=true:=λz=>by
     have:=of_decide_eq_true z;injection this with this
     revert this
     match k,hk with
     |0,_|1,_|2,_|3,_|4,_|5,_=>decide
    refine⟨_,rfl,(ixT hp rfl (.inl ⟨rfl,_,rfl,ifF hc ?_⟩))⟩;cases hau;cases hx;refine⟨_,rfl,(ixT hp rfl ⟨_,rfl,(ixT hp rfl ⟨_,rfl,k,a,b,congrArg (λz=> [V.str z,V.int a,V.int b]) (c8Z hk),hk,VL hba hbx,XH hbx,λr H' sm hr=>q _ _ sm (ciZ hk hr)⟩)⟩)⟩
   | @cons a r=>
    cases hx with
    | @lst _ p1 p2 us hp1 hq hr'=>
     refine⟨_,rfl,(ixT hp rfl (.inl ⟨rfl,_,rfl,ifT rfl ?_⟩))⟩;refine⟨_,rfl,(ixT hp rfl ⟨L8,λa1 ha1=> ?_⟩)⟩;have s1:=A2 ha1 (.tup [u]);have hl:=hlen r rfl;have hl2:=hr'.len;have zz:(10001:Nat)<=sizeLine:=by decide
     refine⟨_,rfl,(ixT (s1 _ _ hp1) rfl (.inr (.inl ⟨a1,p2,[u],us,rfl,rfl,SqT.of A1,SqT.of (s1 _ _ hq),cons_ne_nil _ _,(by simp only[length_cons,length_nil];omega),λez=> ?_,λ_ p3 hp3=> ?_⟩)))⟩
     ·subst ez;refine⟨D1,λa2 ha2=>⟨D1,λa3 ha3=> ?_⟩⟩;have s2:=A2 ha2 (.tup [.str "list",.ref a1]);have s3:=A2 ha3 (.tup [.str "value",.ref a2]);have sA:=s1.trans (s2.trans s3);exact q _ _ sA (.val A1 (.lst (s3 _ _ A1) ((s2.trans s3) _ _ A1) (.cons (hau.mono (A5 sA)) (hr'.mono (A5 sA)))))
     ·refine⟨D1,λa2 ha2=>⟨D1,λa3 ha3=> ?_⟩⟩;have s0:=A2 hp3 (.tup ([u]++us));have s2:=A2 ha2 (.tup [.str "list",.ref p3]);have s3:=A2 ha3 (.tup [.str "value",.ref a2]);have sA:=s1.trans (s0.trans (s2.trans s3));exact q _ _ sA (.val A1 (.lst (s3 _ _ A1) ((s2.trans s3) _ _ A1) (.cons (hau.mono (A5 sA)) (hr'.mono (A5 sA)))))
end
noncomputable abbrev W9:Stmt:=BV.top 28
noncomputable abbrev FY:Stmt:=BV.top 29
noncomputable abbrev U6:Stmt:=BV.top 26
noncomputable abbrev HC:List Str:=["program","name","values","rest","most","function"]
theorem sc_into_function:FnScope HC atZ (B3 W9):=fS
noncomputable abbrev UV:List Str:=["fn","value","rest","most"]
theorem sc_into_fn:FnScope UV bDZ (B3 FY):=fS
noncomputable abbrev GF:List Str:=["top","value","rest","form","terms"]
theorem sc_onward_to_term:FnScope GF chZ (B3 U6):=fS
section
variable{P:Program}{w:World}{K:FZ}{mg:Str->Option Value}{base:Heap}{f:Addr}{fd:FuncData}{OH JT JV BO OI ER OO aIZ VC:Addr}{OJ JU JW BN OG EO OM aHZ VD:FuncData}{pf:Addr}
theorem ok_into_function(F:Fun K "into_function" "into_function" W9 f fd)
  (K8:Cn P w K mg base CX0 1 "function_called" aaZ b3Z)
  (U3:Cn P w K mg base CX0 1 "bound_to" ZP MH)
  (S3:Cn P w K mg base CX0 1 "into_body" aoZ QF):
  FnOk P w K mg base CX0 2 f fd atZ bjZ:=by
 refine F.ok sc_into_function (λvs H Q E h=> ?_) (λcdv A outer s H vs Q E hr h=> ?_)
 ·obtain⟨D,d,z,xs,us,r,calls,deep,most,gv,rv,a,rfl,_⟩:=h;rfl
 obtain⟨D,d,z,xs,us,r,calls,deep,most,gv,rv,a,rfl,hg,hgl,hd,ha,hxs,hpl,hxl,hrv,hz,q⟩:=h;have nd:=sc_into_function.nd;refine⟨_,(A6 (sS 5 nd (cC K8 hr (A0 (pv 0) (A0 (pv 1) A4))))
   (A8 (B5 (cC S3 hr (A0 (ixE K w (pv 5) A3) (A0 (cC U3 hr (A0 (ixE K w (pv 5) A3) (A0 (pv 2) A4))) (A0 (pv 3) (A0 (pv 4) A4)))))))), ?_⟩
 refine⟨_,rfl,_,rfl,D,d,z,gv,rfl,hg,hgl,hd,λu H1 s1 ⟨p,pq,tv,e,hp,hpq,ht⟩=> ?_⟩;subst e;refine⟨_,rfl,(ixT hp rfl ⟨_,rfl,(ixT hp rfl ⟨_,rfl,pq,a,d.pars,xs,us,rfl,hpq,.inl (s1 _ _ ha),hxs.imp λ_ _ h=>h.mono (A5 s1),hpl,by omega,λev H2 s2 he=> ?_⟩)⟩)⟩;have s12:=s1.trans s2;exact⟨_,rfl,_,rfl,d.body,_,r,calls,deep,most,tv,ev,rv,rfl,ht.mono (A5 s2),he,hrv.mono (A5 s12),hz,λv H' sm h=>q v H' (s12.trans sm) h⟩
inductive spINW (vs:List V) (H:Hp) (Q:VK):Prop
 |mk:∀(z:Str) (b:Tm) (e x:Vl) (r:List Fr) (calls deep most:Int) (fv xv rv:V),(vs=[fv,xv,rv,.int most])->(V1 H (.fn z b e) fv)->(V1 H x xv)->(Q3 e<=1000)->(RsA H r calls deep rv)->(r.length<=10000)->(∀v H',Same H H'->ReA H' (into most b (.bind e z x) r calls deep) v->Q v H')->spINW vs H Q
noncomputable def c7Z:Sp:=λvs H Q _=>spINW vs H Q
theorem ok_into_fn(F:Fun K "into_fn" "into_fn" FY f fd)
  (S3:Cn P w K mg base CX0 1 "into_body" aoZ QF):
  FnOk P w K mg base CX0 2 f fd bDZ c7Z:=by
 refine F.ok sc_into_fn (λvs H Q E h=> ?_) (λcdv A outer s H vs Q E hr h=> ?_)
 ·obtain⟨z,b,e,x,r,calls,deep,most,fv,xv,rv,rfl,_⟩:=h;rfl
 obtain⟨z,b,e,x,r,calls,deep,most,fv,xv,rv,rfl,hfv,hx,hez,hrv,hz,q⟩:=h;cases hfv with
 | @fn _ _ _ p pe tv us hp hb hpe hve=>
 have nd:=sc_into_fn.nd;have he:EA H e (.ref pe):=⟨pe,us,rfl,hpe,hve⟩;refine⟨_,(A8 (B5 (cC S3 hr (A0 (ixE K w (pv 0) A3) (A0 (B4 (S5 (K:=K)) (ixE K w (pv 0) A3) (A9 (A0 (A9 (A0 (ixE K w (pv 0) A3) (A0 (pv 1) A4))) A4))) (A0 (pv 2) (A0 (pv 3) A4))))))), ?_⟩;refine⟨_,rfl,(ixT hp rfl ⟨_,rfl,(ixT hp rfl ⟨_,rfl,(ixT hp rfl ⟨_,rfl,D1,λa1 ha1=>⟨L8,λa2 ha2=> ?_⟩⟩)⟩)⟩)⟩;have s1:=(A2 ha1 (.tup [.str z,xv])).trans (A2 ha2 (.tup [.ref a1]));refine .inr (RW (he.mono (A5 s1)) ((A2 ha2 _) _ _ A1) (hx.mono (A5 s1)) A1 (by omega) λev2 H2 s2 he2=> ?_);have s12:=s1.trans s2;exact⟨_,rfl,_,rfl,b,_,r,calls,deep,most,tv,ev2,rv,rfl,hb.mono (A5 s12),he2,hrv.mono (A5 s12),hz,λv H' sm h=>q v H' (s12.trans sm) h⟩
end
theorem CN{K:FZ}{H:Hp}{fo:Fo}{fv:V}{r:List Fr}{c d:Int}{rv:V}{q:Addr}{Q:VK}(hf:FoA H fo fv)(hq:H q=some (.tup [fv]))(hr:RsA H r c d rv)(go:∀u H',Same H H'->StA H' ⟨fo,r,c,d⟩ u->Q u H'):IC K (.ref q) rv H Q:=by
 obtain⟨p,l,rfl,hp,hl⟩:=hr;refine⟨q,p,[fv],[l,.int c,.int d],rfl,rfl,SqT.of hq,SqT.of hp,cons_ne_nil _ _,(by show 4<=sizeLine;decide),λz=>absurd z (cons_ne_nil _ _),λ_ u hu=> ?_⟩;have s1:=A2 hu (.tup [fv,l,.int c,.int d]);exact go _ _ s1 ⟨u,fv,l,rfl,A1,hf.mono (A5 s1),hl.mono (A5 s1)⟩
noncomputable def SY:Fr->Prop
 | .let_ _ _ e=>Q3 e<=1000
 | .with_ (.fn _ _ e)=>Q3 e<=1000
 | .call _ vs ts _=>vs.length<=900/\ts.length<=900
 |_=>True
section
variable{P:Program}{w:World}{K:FZ}{mg:Str->Option Value}{base:Heap}{f:Addr}{fd:FuncData}{VC:Addr}{VD:FuncData}
inductive spTTW(vs:List V)(H:Hp)(Q:VK):Prop
 |mk:∀(fr:Fr) (x:Vl) (fo:Fo) (fs:List Fr) (r:List Fr) (calls deep:Int) (tv xv rv:V),(vs=[tv,xv,rv])->(FA H fr tv)->(V1 H x xv)->(ToT fr x fo fs)->(SY fr)->(RsA H r calls deep rv)->(r.length<=10000)->(∀v H',Same H H'->StA H' ⟨fo,fs++r,calls,deep⟩ v->Q v H')->spTTW vs H Q
noncomputable def cJZ:Sp:=λvs H Q _=>spTTW vs H Q
theorem ok_onward_to_term(F:Fun K "onward_to_term" "onward_to_term" U6 f fd)
  (BT:Cn P w K mg base CX0 1 "pushed" b6Z YD):
  FnOk P w K mg base CX0 2 f fd chZ cJZ:=by
 refine F.ok sc_onward_to_term (λvs H Q E h=> ?_) (λcdv A outer s H vs Q E hr h=> ?_)
 ·obtain⟨fr,x,fo,fs,r,calls,deep,tv,xv,rv,rfl,_⟩:=h;rfl
 obtain⟨fr,x,fo,fs,r,calls,deep,tv,xv,rv,rfl,hf,hx,hy,hen,hrv,hz,q⟩:=h;have nd:=sc_onward_to_term.nd;have hu:=hr.units0;refine⟨_,(A6 (sS 3 nd (ixE K w (pv 0) A3))
   (A6 (B8 (B0 (kEq (K:=K) hu) (pv 3) A7 rfl) (A8 (B5 (B4 (S5 (K:=K)) (A9 (A0 (A9 (A0 A7 (A0 (EY (Y9 (K:=K) (pv 1) (λ_=>rfl)) (ixE K w (pv 0) A3) (ixE K w (pv 0) A3)) (A0 (ixE K w (pv 0) A3) A4)))) A4)) (pv 2)))) B6)
   (A6 (B8 (B0 (kEq (K:=K) hu) (pv 3) A7 rfl) (A8 (B5 (B4 (S5 (K:=K)) (A9 (A0 (A9 (A0 A7 (A0 (ixE K w (pv 0) A3) (A0 (B4 (S5 (K:=K)) (ixE K w (pv 0) A3) (A9 (A0 (A9 (A0 (ixE K w (pv 0) A3) (A0 (pv 1) A4))) A4))) A4)))) A4)) (pv 2)))) B6)
   (A6 (B8 (B0 (kEq (K:=K) hu) (pv 3) A7 rfl) (A8 (B5 (cC BT hr (A0 (A9 (A0 A7 (A0 (ixE K w (pv 0) A3) (A0 (ixE K w (pv 0) A3) A4)))) (A0 (A9 (A0 A7 (A0 (ixE K w (pv 0) A3) (A0 (pv 1) A4)))) (A0 (pv 2) A4)))))) B6)
   (A6 (B8 (B0 (kEq (K:=K) hu) (pv 3) A7 rfl) (A8 (B5 (cC BT hr (A0 (A9 (A0 A7 (A0 (ixE K w (pv 0) A3) (A0 (ixE K w (pv 0) A3) A4)))) (A0 (A9 (A0 A7 (A0 (pv 1) A4))) (A0 (pv 2) A4)))))) B6)
   (A6 (sS 4 nd (ixE K w (pv 0) A3))
   (A8 (B5 (cC BT hr (A0 (A9 (A0 A7 (A0 (ixE K w (pv 4) A3) (A0 (ixE K w (pv 0) A3) A4)))) (A0 (A9 (A0 A7 (A0 (ixE K w (pv 0) A3) (A0 (B4 (S5 (K:=K)) (ixE K w (pv 0) A3) (A9 (A0 (pv 1) A4))) (A0 (D7 (kSl (K:=K)) (pv 4) (E7 A3) J5) (A0 (ixE K w (pv 0) A3) A4)))))) (A0 (pv 2) A4)))))))))))), ?_⟩
 cases hy with
 | @ite a b e c=>
  cases hx;cases hf with
  | @ite _ _ _ p t1 t2 w1 hp ha hb he=>
   refine⟨_,rfl,(ixT hp rfl ?_)⟩;refine⟨_,rfl,.inl ⟨rfl,_,rfl,ifT rfl ?_⟩⟩;cases c
   ·refine⟨_,rfl,false,rfl,ifF nZ ⟨_,rfl,(ixT hp rfl ⟨_,rfl,(ixT hp rfl ⟨D9,λa1 ha1=>⟨L8,λa2 ha2=>⟨_,rfl,.inr (.inl ?_)⟩⟩⟩)⟩)⟩⟩;have s1:=(A2 ha1 (.tup [.str "term",t2,w1])).trans (A2 ha2 (.tup [.ref a1]));exact CN (fo:=.term b e) (.term ((A2 ha2 _) _ _ A1) (hb.mono (A5 s1)) (he.mono (A5 s1))) A1 (hrv.mono (A5 s1)) λu H' sm h=>q u H' (s1.trans sm) h
   ·refine⟨_,rfl,true,rfl,ifT rfl ⟨_,rfl,(ixT hp rfl ⟨_,rfl,(ixT hp rfl ⟨D9,λa1 ha1=>⟨L8,λa2 ha2=>⟨_,rfl,.inr (.inl ?_)⟩⟩⟩)⟩)⟩⟩;have s1:=(A2 ha1 (.tup [.str "term",t1,w1])).trans (A2 ha2 (.tup [.ref a1]));exact CN (fo:=.term a e) (.term ((A2 ha2 _) _ _ A1) (ha.mono (A5 s1)) (he.mono (A5 s1))) A1 (hrv.mono (A5 s1)) λu H' sm h=>q u H' (s1.trans sm) h
 | @let_ z b e _=>
  cases hf with
  | @let_ _ _ _ p t1 w1 hp hb he=>
   refine⟨_,rfl,(ixT hp rfl ?_)⟩;refine⟨_,rfl,.inl ⟨rfl,_,rfl,ifF nZ ⟨_,rfl,.inl ⟨rfl,_,rfl,ifT rfl ?_⟩⟩⟩⟩;refine⟨_,rfl,(ixT hp rfl ⟨_,rfl,(ixT hp rfl ⟨_,rfl,(ixT hp rfl ⟨_,rfl,D1,λa1 ha1=>⟨L8,λa2 ha2=> ?_⟩⟩)⟩)⟩)⟩;have s1:=(A2 ha1 (.tup [.str z,xv])).trans (A2 ha2 (.tup [.ref a1]));refine .inr (RW (he.mono (A5 s1)) ((A2 ha2 _) _ _ A1) (hx.mono (A5 s1)) A1 (by have:Q3 e<=1000:=hen;omega) λev2 H2 s2 he2=>⟨D9,λa3 ha3=>⟨L8,λa4 ha4=>⟨_,rfl,.inr (.inl ?_)⟩⟩⟩);have s3:=(A2 ha3 (.tup [.str "term",t1,ev2])).trans (A2 ha4 (.tup [.ref a3]));have s13:=s1.trans (s2.trans s3);exact CN (fo:=.term b (.bind e z x)) (.term ((A2 ha4 _) _ _ A1) (hb.mono (A5 s13)) (he2.mono (A5 s3))) A1 (hrv.mono (A5 s13)) λu H' sm h=>q u H' (s13.trans sm) h
 | @two s t e _=>
  cases hf with
  | @two _ _ _ p t1 w1 hp hb he=>
   refine⟨_,rfl,(ixT hp rfl ?_)⟩;refine⟨_,rfl,.inl ⟨rfl,_,rfl,ifF nZ ⟨_,rfl,.inl ⟨rfl,_,rfl,ifF nZ ⟨_,rfl,.inl ⟨rfl,_,rfl,ifT rfl ?_⟩⟩⟩⟩⟩⟩;refine⟨_,rfl,(ixT hp rfl ⟨_,rfl,(ixT hp rfl ⟨D9,λa1 ha1=> ?_⟩)⟩)⟩;have s1:=A2 ha1 (.tup [.str "term",t1,w1]);refine⟨_,rfl,(ixT (s1 _ _ hp) rfl ⟨_,rfl,D9,λa2 ha2=> ?_⟩)⟩;have s2:=A2 ha2 (.tup [.str "then",.str s,xv]);have s12:=s1.trans s2;exact⟨_,rfl,.term t e,.then_ s x,r,calls,deep,.ref a1,.ref a2,rv,rfl,.term (s2 _ _ A1) (hb.mono (A5 s12)) (he.mono (A5 s12)),.then_ A1 (hx.mono (A5 s12)),hrv.mono (A5 s12),hz,λu H' sm h=>q u H' (s12.trans sm) h⟩
 | @do_ t e _=>
  cases hf with
  | @do_ _ _ p t1 w1 hp hb he=>
   refine⟨_,rfl,(ixT hp rfl ?_)⟩;refine⟨_,rfl,.inl ⟨rfl,_,rfl,ifF nZ ⟨_,rfl,.inl ⟨rfl,_,rfl,ifF nZ ⟨_,rfl,.inl ⟨rfl,_,rfl,ifF nZ ⟨_,rfl,.inl ⟨rfl,_,rfl,ifT rfl ?_⟩⟩⟩⟩⟩⟩⟩⟩;refine⟨_,rfl,(ixT hp rfl ⟨_,rfl,(ixT hp rfl ⟨D9,λa1 ha1=> ?_⟩)⟩)⟩;have s1:=A2 ha1 (.tup [.str "term",t1,w1]);refine⟨_,rfl,D1,λa2 ha2=> ?_⟩;have s2:=A2 ha2 (.tup [.str "with",xv]);have s12:=s1.trans s2;exact⟨_,rfl,.term t e,.with_ x,r,calls,deep,.ref a1,.ref a2,rv,rfl,.term (s2 _ _ A1) (hb.mono (A5 s12)) (he.mono (A5 s12)),.with_ A1 (hx.mono (A5 s12)),hrv.mono (A5 s12),hz,λu H' sm h=>q u H' (s12.trans sm) h⟩
 | @call z vs t ts e _=>
  cases hf with
  | @call _ _ _ _ p p2 p3 us ws w1 hp hq hvs hr3 hts he=>
   cases hts with
   | @cons _ u0 _ ws ht0 hts=>
    have hl:=hvs.len;have hle:vs.length<=900:=hen.1;refine⟨_,rfl,(ixT hp rfl ?_)⟩;refine⟨_,rfl,.inl ⟨rfl,_,rfl,ifF nZ ⟨_,rfl,.inl ⟨rfl,_,rfl,ifF nZ ⟨_,rfl,.inl ⟨rfl,_,rfl,ifF nZ ⟨_,rfl,.inl ⟨rfl,_,rfl,ifF nZ ?_⟩⟩⟩⟩⟩⟩⟩⟩;refine⟨_,rfl,(ixT hp rfl ?_)⟩;refine⟨_,rfl,(ixT hr3 (show atI (u0::ws) ((0:Nat):Int)=some u0 from J0 rfl) ⟨_,rfl,(ixT hp rfl ⟨D9,λa1 ha1=> ?_⟩)⟩)⟩;have s1:=A2 ha1 (.tup [.str "term",u0,w1]);refine⟨_,rfl,(ixT (s1 _ _ hp) rfl ⟨_,rfl,(ixT (s1 _ _ hp) rfl ⟨_,rfl,L8,λa2 ha2=> ?_⟩)⟩)⟩;have s2:=s1.trans (A2 ha2 (.tup [xv]));refine .inr (ZM (s2 _ _ hq) A1 (by omega) λp4 H4 s4 hp4=> ?_);have s24:=s2.trans s4;refine⟨_,rfl,_,rfl,.inr ⟨p3,_,rfl,SqT.of (s24 _ _ hr3),O1 (by decide) (succ_pos _) _,λp5 hp5=> ?_⟩⟩;rw[show R1 (u0::ws) (some 1) none=ws by exact HE u0 ws];have s5:=A2 hp5 (.tup ws);have s25:=s24.trans s5;refine⟨_,rfl,(ixT (s25 _ _ hp) rfl ⟨cTZ,λp6 hp6=> ?_⟩)⟩;have s6:=A2 hp6 (.tup [.str "call",.str z,.ref p4,.ref p5,w1]);have sA:=s25.trans s6;refine⟨_,rfl,.term t e,.call z (vs++ [x]) ts e,r,calls,deep,.ref a1,.ref p6,rv,rfl,.term (((A2 ha2 _).trans (s4.trans (s5.trans s6))) _ _ A1) (ht0.mono (A5 sA)) (he.mono (A5 sA)),.call A1 ((s5.trans s6) _ _ hp4) ((hvs.imp λ_ _ h=>h.mono (A5 sA)).app (.cons (hx.mono (A5 sA)) .nil)) (s6 _ _ A1) (hts.imp λ_ _ h=>h.mono (A5 sA)) (he.mono (A5 sA)),hrv.mono (A5 sA),hz,λu H' sm h=>q u H' (sA.trans sm) h⟩
end
noncomputable abbrev Z6:Stmt:=BV.top 31
noncomputable abbrev EI:Stmt:=BV.top 32
noncomputable abbrev BJ:Stmt:=BV.top 33
noncomputable abbrev GM:Stmt:=BV.top 34
noncomputable abbrev Q1:Stmt:=BV.top 23
noncomputable abbrev JC:Stmt:=BV.top 16
noncomputable abbrev JQ:List Str:=["value"]
theorem sc_plain_value:FnScope JQ JH (B3 Z6):=fS
noncomputable abbrev QK:List Str:=["value"]
theorem sc_items_in:FnScope QK JH (B3 EI):=fS
noncomputable abbrev MM:List Str:=["value","items"]
theorem sc_with_items:FnScope MM bTZ (B3 BJ):=fS
noncomputable abbrev TJ:List Str:=["value"]
theorem sc_is_list:FnScope TJ JH (B3 GM):=fS
noncomputable abbrev DD:List Str:=["program","state","most","value","pile","top","rest","told"]
theorem sc_onward_from_value:FnScope DD MQ (B3 Q1):=fS
noncomputable abbrev WI:List Str:=["program","state","most"]
theorem sc_onward:FnScope WI MQ (B3 JC):=fS
noncomputable def sz2:Bool->Vl->Nat
 |b,.lst r=>bif b then 0 else 1+sz2 true r
 |b,.cons a r=>bif b then sz2 false a+sz2 true r else 1
 |b,_=>bif b then 0 else 1
noncomputable def TQ:Vl->List Vl
 | .cons a r=>a::TQ r
 |_=> []
noncomputable def XM:Vl->List Vl
 | .lst r=>TQ r
 |_=> []
theorem XQ:∀r:Vl,sz2 true r=((TQ r).map (sz2 false)).sum
 | .cons a r=>by rw[TQ,map_cons,sum_cons,<-XQ r];rfl
 | .int _| .bl _| .lst _| .fn _ _ _| .nil| .bind _ _ _=>rfl
noncomputable def plv:Bool->Vl->Bool
 |b,.lst r=> !b&&plv true r
 |b,.cons a r=>b&&plv false a&&plv true r
 |b,.nil=>b
 |b,.int _=> !b
 |b,.bl _=> !b
 |_,_=>false
inductive PAs (S:AS) (H:Hp):Vl->V⊕List V->Prop
 |int {n}:PAs S H (.int n) (.inl (.int n))
 |bl {b}:PAs S H (.bl b) (.inl (.bl b))
 |lst {r p us}:H p=some (.lst us)->¬S p->PAs S H r (.inr us)->PAs S H (.lst r) (.inl (.ref p))
 |nil:PAs S H .nil (.inr [])
 |cons {a r v vs}:PAs S H a (.inl v)->PAs S H r (.inr vs)->PAs S H (.cons a r) (.inr (v::vs))
theorem PAs.told{S:AS}{H:Hp}{x:Vl}{v:V⊕List V}(h:PAs S H x v):PA' H x v:=by
 induction h with
 |int=>exact .int
 |bl=>exact .bl
 |lst h _ _ i=>exact .lst h i
 |nil=>exact .nil
 |cons _ _ i1 i2=>exact .cons i1 i2
theorem PAs.kp{S:AS}{H H':Hp}(m:Kp S H H'){x:Vl}{v:V⊕List V}(h:PAs S H x v):PAs S H' x v:=by
 induction h with
 |int=>exact .int
 |bl=>exact .bl
 |lst h g _ i=>exact .lst (m.2 _ _ h g) g i
 |nil=>exact .nil
 |cons _ _ i1 i2=>exact .cons i1 i2
theorem PAs.wd{S S':AS}{H:Hp}(m:Wd H S S'){x:Vl}{v:V⊕List V}(h:PAs S H x v):PAs S' H x v:=by
 induction h with
 |int=>exact .int
 |bl=>exact .bl
 | @lst r p us h g _ i=>exact .lst h (λz=>(m p z).elim g λe=>by rw[h]at e;cases e) i
 |nil=>exact .nil
 |cons _ _ i1 i2=>exact .cons i1 i2
noncomputable def LT:Tr where
 T:=Vl
 kids:=XM
 size:=sz2 false
 hsz:=λt=>by
  cases t with
  |lst r=>show 1+sz2 true r=_;rw[XQ];rfl
  |_=>rfl
 val:=λ_ H t v=>V1 H t v/\plv false t=true
 res:=λS H t v=>PAs S H t (.inl v)
 vm:=λm h=>⟨h.1.mono m.1,h.2⟩
 vw:=λ_ h=>h
 rm:=λm h=>h.kp m
 rw':=λm h=>h.wd m
theorem VE{H:Hp}:∀ {r:Vl} {us:List V},VA H r (.inr (false,us))->plv true r=true->All2 (λt v=>V1 H t v/\plv false t=true) (TQ r) us
 | .nil,_,h,_=>by cases h;exact .nil
 | .cons a r,_,h,p=>by
  cases h with
  |cons h1 h2=>
   have p':plv false a=true/\plv true r=true:=by simpa [plv]using p
   exact .cons ⟨h1,p'.1⟩ (VE h2 p'.2)
 | .int _,_,h,_| .bl _,_,h,_| .lst _,_,h,_| .fn _ _ _,_,h,_| .bind _ _ _,_,h,_=>by cases h
theorem RN{S:AS}{H:Hp}:∀ {r:Vl} {us:List V},plv true r=true->All2 (λt v=>PAs S H t (.inl v)) (TQ r) us->PAs S H r (.inr us)
 | .nil,_,_,h=>by cases h;exact .nil
 | .cons a r,_,p,h=>by
  cases h with
  |cons h1 h2=>
   have p':plv false a=true/\plv true r=true:=by simpa [plv]using p
   exact .cons h1 (RN p'.2 h2)
 | .int _,_,p,_| .bl _,_,p,_| .lst _,_,p,_| .fn _ _ _,_,p,_| .bind _ _ _,_,p,_=>by simp[plv]at p
noncomputable def isL:Vl->Bool
 | .lst _=>true
 |_=>false
section
variable{P:Program}{w:World}{K:FZ}{mg:Str->Option Value}{base:Heap}{f:Addr}{fd:FuncData}{cwZ HM EQ a5Z:Addr}{ctZ OK LF bfZ:FuncData}
theorem bWZ:kitOne K (.type "int") (.type "tuple")=some false:=by rfl
theorem bQZ:kitOne K (.type "bool") (.type "tuple")=some false:=by rfl
theorem IB:kitOne K (.type "tuple") (.type "tuple")=some true:=by rfl
inductive spIsLW (vs:List V) (H:Hp) (Q:VK):Prop
 |mk:∀(x:Vl) (v:V),(vs=[v])->(V1 H x v)->(Q (.bl (isL x)) H)->spIsLW vs H Q
noncomputable def YQ:Sp:=λvs H Q _=>spIsLW vs H Q
theorem ok_is_list(F:Fun K "is_list" "is_list" GM f fd)(B:BV.NoG mg):FnOk P w K mg base CX0 1 f fd JH YQ:=by
 refine F.ok sc_is_list (λvs H Q E h=> ?_) (λcdv A outer s H vs Q E hr h=> ?_)
 ·obtain⟨x,v,rfl,_⟩:=h;rfl
 obtain⟨x,v,rfl,hx,q⟩:=h;have nd:=sc_is_list.nd;have hu:=hr.units0;refine⟨_,(A8 (B5 (bAZ (O0 (IH (K:=K)) rfl B.isinstance_ N7 (A0 (pv 0) (A0 (BF (v:=.ty "tuple") rfl B.tuple_ T7 rfl) A4))) (OR (M9 (kEq (K:=K) hu) (ixE K w (pv 0) A3) A7 rfl))))), ?_⟩;cases hx with
 | @int n=>exact⟨_,rfl,_,_,_,_,rfl,.int n,bWZ,false,rfl,ifF nZ q⟩
 | @bl n=>exact⟨_,rfl,_,_,_,_,rfl,.bl n,bQZ,false,rfl,ifF nZ q⟩
 | @lst r p p2 us hp hq hr'=>exact⟨_,rfl,_,_,_,true,rfl,.tup hp,IB,true,rfl,ifT rfl ⟨_,rfl,(ixT hp rfl (.inl ⟨rfl,q⟩))⟩⟩
 | @fn z b e p p2 t us hp hb hq he=>exact⟨_,rfl,_,_,_,true,rfl,.tup hp,IB,true,rfl,ifT rfl ⟨_,rfl,(ixT hp rfl (.inl ⟨rfl,q⟩))⟩⟩
theorem ok_items_in(F:Fun K "items_in" "items_in" EI f fd)(B:BV.NoG mg)
  (X3:Cn P w K mg base CX0 1 "is_list" JH YQ):
  FnOk P w K mg base CX0 2 f fd JH (spP LT):=by
 refine F.ok sc_items_in (λvs H Q E h=> ?_) (λcdv A outer s H vs Q E hr h=> ?_)
 ·obtain⟨S,t,v,rfl,_⟩:=h;rfl
 obtain⟨S,t,v,rfl,⟨hv,hpl⟩,_,q⟩:=h;have nd:=sc_items_in.nd;refine⟨_,(A8 (B5 (EY (Y9 (K:=K) (cC X3 hr (A0 (pv 0) A4)) (λ_=>rfl)) (D6 (GJ (K:=K)) rfl B.list_ V6 (A0 (ixE K w (pv 0) A3) A4)) (E5 A4)))), ?_⟩;have no:isL t=false->XM t=[]:=λe=>by cases t<;>first|rfl|cases e
 by_cases c:isL t=true
 ·cases hv with
  | @lst r p p2 us hp hq hr'=>
   refine⟨_,rfl,.lst r,.ref p,rfl,.lst hp hq hr',true,rfl,ifT rfl ?_⟩;refine⟨_,rfl,(ixT hp rfl ⟨_,_,rfl,.inr (SqT.of hq),λl hl=> ?_⟩)⟩;have s1:=A2 hl (.lst us);exact q l _ us s1 hl A1 (VE (hr'.mono (A5 s1)) (by simpa [plv]using hpl))
  |_=>cases c
 ·have c':isL t=false:=by simpa using c
  refine⟨_,rfl,t,v,rfl,hv,false,(by rw[c'];rfl),ifF nZ ⟨(by show 0<=sizeLine;decide),λl hl=>q l _ [] (A2 hl _) hl A1 ?_⟩⟩;show All2 _ (XM t) _;rw[no c'];exact .nil
theorem ok_with_items(F:Fun K "with_items" "with_items" BJ f fd)
  (X3:Cn P w K mg base CX0 1 "is_list" JH YQ):
  FnOk P w K mg base CX0 2 f fd bTZ (spM LT):=by
 refine F.ok sc_with_items (λvs H Q E h=> ?_) (λcdv A outer s H vs Q E hr h=> ?_)
 ·obtain⟨S,t,v,l,us,rfl,_⟩:=h;rfl
 obtain⟨S,t,v,l,us,rfl,⟨hv,hpl⟩,_,hl,hS,_,hus,q⟩:=h;have nd:=sc_with_items.nd;refine⟨_,(A8 (B5 (EY (Y9 (K:=K) (cC X3 hr (A0 (pv 0) A4)) (λ_=>rfl)) (pv 1) (pv 0)))), ?_⟩;cases hv with
 | @int n=>exact⟨_,rfl,.int n,_,rfl,.int,false,rfl,ifF nZ ⟨_,rfl,q _ _ (Same.refl _) .int⟩⟩
 | @bl n=>exact⟨_,rfl,.bl n,_,rfl,.bl,false,rfl,ifF nZ ⟨_,rfl,q _ _ (Same.refl _) .bl⟩⟩
 | @lst r p p2 us' hp hq hr'=>exact⟨_,rfl,.lst r,_,rfl,.lst hp hq hr',true,rfl,ifT rfl ⟨_,rfl,q _ _ (Same.refl _) (.lst hl hS (RN (by simpa [plv]using hpl) hus))⟩⟩
 |fn=>simp[plv]at hpl
inductive spPlainW (vs:List V) (H:Hp) (Q:VK):Prop
 |mk:∀(x:Vl) (v:V),(vs=[v])->(V1 H x v)->(plv false x=true)->(sz2 false x<=400000)->(∀u H',Same H H'->PA' H' x (.inl u)->Q u H')->spPlainW vs H Q
noncomputable def SC:Sp:=λvs H Q _=>spPlainW vs H Q
theorem ok_plain_value(F:Fun K "plain_value" "plain_value" Z6 f fd)
  (DP:Cn P w K mg base CX0 3 "built_up" b0Z (BV.spBuilt P w K mg base))
  (X4:Cn P w K mg base CX0 2 "items_in" JH (spP LT))
  (S9:Cn P w K mg base CX0 2 "with_items" bTZ (spM LT)):
  FnOk P w K mg base CX0 4 f fd JH SC:=by
 obtain⟨HM,OK,X4,OL,OF,OQ⟩:=X4;obtain⟨EQ,LF,S9,LD,LE,KU⟩:=S9;refine F.ok sc_plain_value (λvs H Q E h=> ?_) (λcdv A outer s H vs Q E hr h=> ?_)
 ·obtain⟨x,v,rfl,_⟩:=h;rfl
 obtain⟨x,v,rfl,hx,hpl,hsz,q⟩:=h;have nd:=sc_plain_value.nd;refine⟨_,(A8 (B5 (cC DP hr (A0 (pv 0) (A0 (BL (v:=.ref _) rfl OQ rfl) (A0 (BL (v:=.ref _) rfl KU rfl) A4)))))), ?_⟩;exact⟨_,rfl,LT,λ_=>False,x,v,HM,EQ,_,_,_,_,rfl,X4,OF,OL,S9,LE,LD,(λ_ z=>z.elim),⟨hx,hpl⟩,hsz,λr H' sm hr=>q _ _ sm hr.told⟩
theorem OC{us:List V}{u:V}:R1 (us++ [u]) none (some (-1))=us:=by
 unfold R1 HT.sIx;simp;rw[show(-1+((us.length:Int)+1)).toNat=us.length by omega];simp
theorem VR{us:List V}{u:V}:¬(HT.sIx (us++ [u]).length 0 none=0/\HT.sIx (us++ [u]).length (us++ [u]).length (some (-1))=(us++ [u]).length):=by
 unfold HT.sIx;simp;omega
end
noncomputable def frW:Fr->Str
 | .two _ _ _=> "two"| .then_ _ _=> "then"| .one _=> "one"| .ite _ _ _=> "if"| .let_ _ _ _=> "let"| .do_ _ _=> "do"| .with_ _=> "with"| .call _ _ _ _=> "call"| .back=> "back"
theorem FA.word{H:Hp}{x:Fr}{v:V}(h:FA H x v):∃a rest,v=.ref a/\H a=some (.tup (.str (frW x)::rest)):=by
 cases h<;>exact⟨_,_,rfl,by assumption⟩
noncomputable def bdF:Fr->Prop
 | .then_ _ a=>BdV a
 |_=>True
theorem PA'.same{H H':Hp}(m:Same H H'){x:Vl}{v:V⊕List V}(h:PA' H x v):PA' H' x v:=by
 induction h with
 |int=>exact .int
 |bl=>exact .bl
 |lst h _ i=>exact .lst (m _ _ h) i
 |nil=>exact .nil
 |cons _ _ i1 i2=>exact .cons i1 i2
theorem cVZ{fr:Fr}{v:Vl}{fo:Fo}{fs:List Fr}(h:ToT fr v fo fs):¬decide (V.str (frW fr)=V.str "back")=true/\¬inV (.str (frW fr)) [.str "then",.str "one"]=true/\¬decide (V.str (frW fr)=V.str "with")=true:=by
 cases h<;>exact⟨nZ,nZ,nZ⟩
theorem UW{α β:Type}{R:α->β->Prop}{a:α}{r:List α}{us:List β}(h:All2 R (a::r).reverse us):∃u0 u,us=u0++ [u]/\All2 R r.reverse u0/\R a u:=by
 rw[reverse_cons]at h;obtain⟨b1,b2,rfl,h1,h2⟩:=h.split;cases h2 with
 |cons x y=>
  cases y;exact⟨b1,_,rfl,h1,x⟩
section
variable{P:Program}{w:World}{K:FZ}{mg:Str->Option Value}{base:Heap}{f:Addr}{fd:FuncData}{ZH VB cvZ BQ SL DM DB:Addr}{ZI UZ cuZ BP SM DX DC:FuncData}
noncomputable abbrev wto:List V:=[.str "then",.str "one"]
inductive spOVW (vs:List V) (H:Hp) (Q:VK):Prop
 |mk:∀(v:Vl) (pl:List Fr) (c d:Int) (r:Res) (D:List Dn) (most:Int) (gv sv:V),(vs=[gv,sv,.int most])->(StA H ⟨.val v,pl,c,d⟩ sv)->(PgA H D gv)->(D.length<=1000)->(pl.length<=10000)->((∀x∈pl,SY x/\bdF x))->(BdV v)->((∀r,v=.lst r->Q3 r<=10000))->((pl=[]->plv false v=true/\sz2 false v<=400000))->(Stp D most ⟨.val v,pl,c,d⟩ r)->(∀u H',Same H H'->ReA H' r u->Q u H')->spOVW vs H Q
noncomputable def c9Z:Sp:=λvs H Q _=>spOVW vs H Q
theorem ok_onward_from_value(F:Fun K "onward_from_value" "onward_from_value" Q1 f fd)(B:BV.NoG mg)
  (Z5:Cn P w K mg base CX0 4 "plain_value" JH SC)
  (X5:Cn P w K mg base CX0 3 "told_at_once" bKZ XW)
  (FS:Cn P w K mg base CX0 2 "into_fn" bDZ c7Z)
  (N0:Cn P w K mg base CX0 2 "into_function" atZ bjZ)
  (T9:Cn P w K mg base CX0 2 "onward_to_term" chZ cJZ):
  FnOk P w K mg base CX0 5 f fd MQ c9Z:=by
 refine F.ok sc_onward_from_value (λvs H Q E h=> ?_) (λcdv A outer s H vs Q E hr h=> ?_)
 ·obtain⟨v,pl,c,d,r,D,most,gv,sv,rfl,_⟩:=h;rfl
 obtain⟨v,pile,calls,deep,r,D,most,gv,sv,rfl,⟨p,fv,lv,rfl,hp,hf,hl⟩,hg,hgl,hz,hen,hbv,hlv,hpl,hst,q⟩:=h;have hp:H p=some (.tup [fv,lv,.int calls,.int deep]):=hp;have hf0:=hf;obtain⟨pt,xv,rfl,hpt,hx⟩:∃p u,fv=.ref p/\H p=some (.tup [.str "value",u])/\V1 H v u:=by
  cases hf with
  |val h1 h2=>exact⟨_,_,rfl,h1,h2⟩
 obtain⟨lp,us,rfl,hlp,hus⟩:=hl;have nd:=sc_onward_from_value.nd;have hu:=hr.units0;have z4:(4:Nat)<=sizeLine:=by decide
 refine⟨_,(A6 (sS 3 nd (ixE K w (ixE K w (pv 1) A3) A3))
   (A6 (sS 4 nd (ixE K w (pv 1) A3))
   (A6 (B8 (B0 (kEq (K:=K) hu) (kL K B.len_ (pv 4)) A3 rfl) (A8 (B5 (A9 (A0 A7 (A0 (cC Z5 hr (A0 (pv 3) A4)) A4))))) B6)
   (A6 (sS 5 nd (ixE K w (pv 4) (IK EG A3)))
   (A6 (sS 6 nd (B4 (S5 (K:=K)) (A9 (A0 (D7 (kSl (K:=K)) (pv 4) J5 (E7 (IK EG A3))) A4)) (D7 (kSl (K:=K)) (pv 1) (E7 A3) J5)))
   (A6 (B8 (B0 (kEq (K:=K) hu) (ixE K w (pv 5) A3) A7 rfl) (A8 (B5 (A9 (A0 (ixE K w (pv 1) A3) (A0 (ixE K w (pv 6) A3) (A0 (ixE K w (pv 6) A3) (A0 (B4 U5 (ixE K w (pv 6) A3) A3) A4))))))) B6)
   (A6 (B8 (B0 (kIn (K:=K) (w:=w)) (ixE K w (pv 5) A3) (A9 (A0 A7 (A0 A7 A4))) rfl) (A6 (sS 7 nd (cC X5 hr (A0 (pv 5) (A0 (pv 3) A4))))
   (A8 (B5 (EY (B0 (kEq (K:=K) hu) (ixE K w (pv 7) A3) A7 rfl) (pv 7) (B4 (S5 (K:=K)) (A9 (A0 (pv 7) A4)) (pv 6)))))) B6)
   (A6 (B8 (B0 (kEq (K:=K) hu) (ixE K w (pv 5) A3) A7 rfl) (A8 (B5 (cC FS hr (A0 (ixE K w (pv 5) A3) (A0 (pv 3) (A0 (pv 6) (A0 (pv 2) A4))))))) B6)
   (A6 (E6 (B8 (PW.pt (P0 (B0 (kEq (K:=K) hu) (ixE K w (pv 5) A3) A7 rfl) (N8 (B0 (kEq (K:=K) hu) (kL K B.len_ (ixE K w (pv 5) A3)) A3 rfl)))) (A8 (B5 (cC N0 hr (A0 (pv 0) (A0 (ixE K w (pv 5) A3) (A0 (B4 (S5 (K:=K)) (ixE K w (pv 5) A3) (A9 (A0 (pv 3) A4))) (A0 (pv 6) (A0 (pv 2) A4)))))))) B6))
   (A8 (B5 (cC T9 hr (A0 (pv 5) (A0 (pv 3) (A0 (pv 6) A4))))))))))))))), ?_⟩
 refine⟨_,rfl,(ixT hp rfl (ixT hpt rfl ?_))⟩;refine⟨_,rfl,(ixT hp rfl ?_)⟩;cases pile with
 |nil=>
  cases hus;cases hst;refine⟨_,rfl,_,_,rfl,.inr ⟨_,SqT.of hlp,rfl⟩,.inl ⟨rfl,_,rfl,ifT (by decide) ?_⟩⟩;exact⟨_,rfl,v,xv,rfl,hx,(hpl rfl).1,(hpl rfl).2,λu H' sm hu=>⟨D1,λa ha=>q _ _ (sm.trans (A2 ha _)) ⟨a,u,rfl,A1,hu.same (A2 ha _)⟩⟩⟩
 |cons fr r0=>
  obtain⟨u0,u,rfl,hu0,hfr⟩:=UW hus;have hzl:r0.length<=10000:=by simp only[length_cons]at hz;omega
  refine⟨_,rfl,_,_,rfl,.inr ⟨_,SqT.of hlp,rfl⟩,.inl ⟨rfl,_,rfl,ifF ?_ ?_⟩⟩
  ·simp;omega
  refine⟨_,rfl,1,rfl,(ixT hlp (EZ _ _) ?_)⟩;refine⟨_,rfl,1,rfl,_,rfl,.inr ⟨lp,_,rfl,SqT.of hlp,VR,λa1 ha1=>⟨L8,λa2 ha2=> ?_⟩⟩⟩;rw[OC]at ha2⊢;have s1:=A2 ha1 (.tup u0);have s2:=A2 ha2 (.tup [.ref a1]);have s12:=s1.trans s2;refine⟨_,rfl,_,rfl,.inr ⟨p,_,rfl,SqT.of (s12 _ _ hp),O1 (by decide) (succ_pos _) _,λa3 ha3=> ?_⟩⟩;have s3:=A2 ha3 (.tup [.int calls,.int deep]);refine .inr (.inl ⟨a2,a3,[.ref a1],[.int calls,.int deep],rfl,rfl,SqT.of (s3 _ _ A1),SqT.of A1,cons_ne_nil _ _,(by show 3<=sizeLine;decide),λz=>absurd z (cons_ne_nil _ _),λ_ a4 ha4=> ?_⟩);have s4:=A2 ha4 (.tup [.ref a1,.int calls,.int deep]);have sA:Same H (upd (upd (upd (upd H a1 (.tup u0)) a2 (.tup [.ref a1])) a3 (.tup [.int calls,.int deep])) a4 (.tup [.ref a1,.int calls,.int deep])):=s12.trans (s3.trans s4);have hp4:=sA _ _ hp;have ha1':(upd (upd (upd (upd H a1 (.tup u0)) a2 (.tup [.ref a1])) a3 (.tup [.int calls,.int deep])) a4 (.tup [.ref a1,.int calls,.int deep])) a1=some (.tup u0):=(s2.trans (s3.trans s4)) _ _ (show(upd H a1 (.tup u0)) a1=some (.tup u0)from A1);have ha4':(upd (upd (upd (upd H a1 (.tup u0)) a2 (.tup [.ref a1])) a3 (.tup [.int calls,.int deep])) a4 (.tup [.ref a1,.int calls,.int deep])) a4=some (.tup [.ref a1,.int calls,.int deep]):=A1;have hRs:RsA (upd (upd (upd (upd H a1 (.tup u0)) a2 (.tup [.ref a1])) a3 (.tup [.int calls,.int deep])) a4 (.tup [.ref a1,.int calls,.int deep])) r0 calls deep (.ref a4):=⟨a4,.ref a1,rfl,ha4',a1,u0,rfl,ha1',hu0.imp λ_ _ h=>h.mono (A5 sA)⟩;have hfr4:=hfr.mono (A5 sA);have hx4:=hx.mono (A5 sA);have hf4:=hf0.mono (A5 sA);have hg4:=hg.mono (A5 sA);have q4:∀u H',Same (upd (upd (upd (upd H a1 (.tup u0)) a2 (.tup [.ref a1])) a3 (.tup [.int calls,.int deep])) a4 (.tup [.ref a1,.int calls,.int deep])) H'->ReA H' r u->Q u H':=λu H' sm h=>q u H' (sA.trans sm) h;show P9 _ _ _ [some gv,some (.ref p),some (.int most),some xv,some (.ref lp),some u,some (.ref a4),none] (upd (upd (upd (upd H a1 (.tup u0)) a2 (.tup [.ref a1])) a3 (.tup [.int calls,.int deep])) a4 (.tup [.ref a1,.int calls,.int deep]));generalize upd (upd (upd (upd H a1 (.tup u0)) a2 (.tup [.ref a1])) a3 (.tup [.int calls,.int deep])) a4 (.tup [.ref a1,.int calls,.int deep])=H4 at hp4 ha1' ha4' hRs hfr4 hx4 hf4 hg4 q4⊢;have hen1:SY fr:=(hen fr (mem_cons_self ..)).1;have hbd1:bdF fr:=(hen fr (mem_cons_self ..)).2;obtain⟨a,rest,rfl,ha⟩:=hfr4.word;have hat:atI (V.str (frW fr)::rest) ((0:Nat):Int)=some (.str (frW fr)):=J0 rfl;refine⟨_,rfl,(ixT ha hat (.inl ⟨rfl,_,rfl, ?_⟩))⟩;cases hst with
  |back=>
   refine ifT rfl ?_;refine⟨_,rfl,(ixT hp4 rfl ⟨_,rfl,(ixT ha4' rfl ⟨_,rfl,(ixT ha4' rfl ⟨_,rfl,(ixT ha4' rfl ⟨_,_,rfl,rfl,z4,λa5 ha5=> ?_⟩)⟩)⟩)⟩)⟩;have s5:=A2 ha5 (.tup [.ref pt,.ref a1,.int calls,.int (deep - 1)]);obtain⟨p9,l9,e9,hp9,hl9⟩:=hRs;cases e9;rw[ha4']at hp9;cases hp9;exact q4 _ _ s5 ⟨a5,.ref pt,.ref a1,rfl,A1,hf4.mono (A5 s5),hl9.mono (A5 s5)⟩
  | @one w _ o _ _ _ ho=>
   refine ifF nZ ?_;refine⟨_,rfl,(ixT ha hat ⟨D1,λb hb=> .inr (.inl ⟨b,wto,rfl,.inr (SqT.of A1),rfl,rfl,_,rfl,ifT rfl ?_⟩)⟩)⟩;have s5:=A2 hb (.tup wto);refine⟨_,rfl,_,rfl,_,v,o,.ref a,xv,rfl,hfr4.mono (A5 s5),hx4.mono (A5 s5),hbv,.inl ⟨_,rfl,ho⟩,hlv,λu6 H6 s6 hO=> ?_⟩;have s56:=s5.trans s6;cases hO with
   | @val x p6 u hp6 hv6=>
    refine⟨_,rfl,(ixT hp6 rfl (.inl ⟨rfl,_,rfl,ifF nZ ⟨_,rfl,L8,λa7 ha7=>⟨_,rfl,.inr (.inl ?_)⟩⟩⟩))⟩;have s7:=A2 ha7 (.tup [.ref p6]);have s57:=s56.trans s7;exact CN (fo:=.val x) (.val (s7 _ _ hp6) (hv6.mono (A5 s7))) A1 (hRs.mono (A5 s57)) λu H' sm h=>q4 u H' (s57.trans sm) h
   | @ref w p6 hp6=>
    exact⟨_,rfl,(ixT hp6 rfl (.inl ⟨rfl,_,rfl,ifT rfl ⟨_,rfl,q4 _ _ s56 ⟨p6,rfl,hp6⟩⟩⟩))⟩
  | @then_ s x _ o _ _ _ ho=>
   refine ifF nZ ?_;refine⟨_,rfl,(ixT ha hat ⟨D1,λb hb=> .inr (.inl ⟨b,wto,rfl,.inr (SqT.of A1),rfl,rfl,_,rfl,ifT rfl ?_⟩)⟩)⟩;have s5:=A2 hb (.tup wto);refine⟨_,rfl,_,rfl,_,v,o,.ref a,xv,rfl,hfr4.mono (A5 s5),hx4.mono (A5 s5),hbv,.inr ⟨_,_,rfl,hbd1,ho⟩,hlv,λu6 H6 s6 hO=> ?_⟩;have s56:=s5.trans s6;cases hO with
   | @val x p6 u hp6 hv6=>
    refine⟨_,rfl,(ixT hp6 rfl (.inl ⟨rfl,_,rfl,ifF nZ ⟨_,rfl,L8,λa7 ha7=>⟨_,rfl,.inr (.inl ?_)⟩⟩⟩))⟩;have s7:=A2 ha7 (.tup [.ref p6]);have s57:=s56.trans s7;exact CN (fo:=.val x) (.val (s7 _ _ hp6) (hv6.mono (A5 s7))) A1 (hRs.mono (A5 s57)) λu H' sm h=>q4 u H' (s57.trans sm) h
   | @ref w p6 hp6=>
    exact⟨_,rfl,(ixT hp6 rfl (.inl ⟨rfl,_,rfl,ifT rfl ⟨_,rfl,q4 _ _ s56 ⟨p6,rfl,hp6⟩⟩⟩))⟩
  | @with_ z b e _ _ _ _=>
   refine ifF nZ ?_;refine⟨_,rfl,(ixT ha hat ⟨D1,λb5 hb5=> .inr (.inl ⟨b5,wto,rfl,.inr (SqT.of A1),rfl,rfl,_,rfl,ifF nZ ?_⟩)⟩)⟩;have s5:=A2 hb5 (.tup wto);refine⟨_,rfl,(ixT (s5 _ _ ha) hat (.inl ⟨rfl,_,rfl,ifT rfl ?_⟩))⟩;cases hfr4 with
   | @with_ _ _ u9 hp9 hv9=>
    exact⟨_,rfl,(ixT (s5 _ _ hp9) rfl ⟨_,rfl,_,rfl,_,rfl,z,b,e,v,r0,calls,deep,most,u9,xv,.ref a4,rfl,hv9.mono (A5 s5),hx4.mono (A5 s5),hen1,hRs.mono (A5 s5),hzl,λu H' sm h=>q4 u H' (s5.trans sm) h⟩)⟩
  | @call z vs e _ dn _ _ _ hd hdl=>
   refine ifF nZ ?_;refine⟨_,rfl,(ixT ha hat ⟨D1,λb5 hb5=> .inr (.inl ⟨b5,wto,rfl,.inr (SqT.of A1),rfl,rfl,_,rfl,ifF nZ ?_⟩)⟩)⟩;have s5:=A2 hb5 (.tup wto);refine⟨_,rfl,(ixT (s5 _ _ ha) hat (.inl ⟨rfl,_,rfl,ifF nZ ?_⟩))⟩;cases hfr4 with
   | @call _ _ _ _ _ q9 r9 us9 ws9 w9 hp9 hq9 hvs hr9 hts he9=>
    cases hts;have hle:vs.length<=900:=hen1.1;have hl9:=hvs.len;refine⟨λ_ _=>False, ?_,λ_ _ z=>z.elim⟩;refine⟨_,rfl,(ixT (s5 _ _ hp9) rfl (.inl ⟨rfl,_,rfl,ifT rfl ⟨_,rfl,(ixT (s5 _ _ hp9) rfl ⟨_,_,rfl,.inr ⟨_,SqT.of (s5 _ _ hr9),rfl⟩,.inl ⟨rfl,_,rfl,ifT (by decide) ?_⟩⟩)⟩⟩))⟩;refine⟨_,rfl,_,rfl,(ixT (s5 _ _ hp9) rfl ⟨_,rfl,(ixT (s5 _ _ hp9) rfl ⟨_,rfl,L8,λa6 ha6=> ?_⟩)⟩)⟩;have s6:=s5.trans (A2 ha6 (.tup [xv]));refine .inr (ZM (s6 _ _ hq9) A1 (by omega) λp7 H7 s7 hp7=> ?_);have s67:=s6.trans s7;exact⟨_,rfl,_,rfl,D,dn,z,vs++ [v],us9++ [xv],r0,calls,deep,most,gv,.ref a4,p7,rfl,hg4.mono (A5 s67),hgl,hd,hp7,(hvs.imp λ_ _ h=>h.mono (A5 s67)).app (.cons (hx4.mono (A5 s67)) .nil),by rw[hdl];simp,by rw[length_append];simp only[length_cons,length_nil];omega,hRs.mono (A5 s67),hzl,λu H' sm h=>q4 u H' (s67.trans sm) h⟩
  | @to _ _ fo fs _ _ _ ht=>
   obtain⟨w1,w2,w3⟩:=cVZ ht;refine ifF w1 ?_;refine⟨_,rfl,(ixT ha hat ⟨D1,λb5 hb5=> .inr (.inl ⟨b5,wto,rfl,.inr (SqT.of A1),rfl,rfl,_,rfl,ifF w2 ?_⟩)⟩)⟩;have s5:=A2 hb5 (.tup wto);refine⟨_,rfl,(ixT (s5 _ _ ha) hat (.inl ⟨rfl,_,rfl,ifF w3 ?_⟩))⟩;refine⟨fun σ H'=>σ=[some gv,some (.ref p),some (.int most),some xv,some (.ref lp),some (.ref a),some (.ref a4),none]/\upd H4 b5 (.tup wto)=H', ?_, ?_⟩
   ·refine⟨_,rfl,(ixT (s5 _ _ ha) hat (.inl ⟨rfl,_,rfl, ?_⟩))⟩;cases ht with
    |call=>
     cases hfr4 with
     | @call _ _ _ _ _ q9 r9 us9 ws9 w9 hp9 hq9 hvs hr9 hts he9=>
      cases hts;exact ifT rfl ⟨_,rfl,(ixT (s5 _ _ hp9) rfl ⟨_,_,rfl,.inr ⟨_,SqT.of (s5 _ _ hr9),rfl⟩,.inl ⟨rfl,_,rfl,ifF (by simp;omega) ⟨rfl,rfl⟩⟩⟩)⟩
    |_=>exact ifF nZ (ifF nZ ⟨rfl,rfl⟩)
   rintro σ H' ⟨rfl,rfl⟩;exact⟨_,rfl,_,rfl,_,rfl,fr,v,fo,fs,r0,calls,deep,.ref a,xv,.ref a4,rfl,hfr4.mono (A5 s5),hx4.mono (A5 s5),ht,hen1,hRs.mono (A5 s5),hzl,λu H' sm h=>q4 u H' (s5.trans sm) h⟩
end
noncomputable abbrev LQ:Stmt:=BV.top 14
noncomputable abbrev aBZ:List Str:=["program","numbers","main"]
theorem sc_begun:FnScope aBZ coZ (B3 LQ):=fS
structure Okk (s:Sta):Prop where
 len:s.pile.length<=10000
 fr:∀x∈s.pile,SY x/\bdF x
 tm:∀t e,s.fo=.term t e->Q3 e<=1000
 vl:∀v,s.fo=.val v->BdV v/\(∀r,v=.lst r->Q3 r<=10000)/\(s.pile=[]->plv false v=true/\sz2 false v<=400000)
section
variable{P:Program}{w:World}{K:FZ}{mg:Str->Option Value}{base:Heap}{f:Addr}{fd:FuncData}{DM DB ER OO:Addr}{DX DC EO OM:FuncData}
inductive spOnW(vs:List V)(H:Hp)(Q:VK):Prop
 |mk:∀(s:Sta) (r:Res) (D:List Dn) (most:Int) (gv sv:V),(vs=[gv,sv,.int most])->(StA H s sv)->(PgA H D gv)->(D.length<=1000)->(Okk s)->(Stp D most s r)->(∀u H',Same H H'->ReA H' r u->Q u H')->spOnW vs H Q
noncomputable def bvZ:Sp:=λvs H Q _=>spOnW vs H Q
theorem ok_onward(F:Fun K "onward" "onward" JC f fd)
  (Q6:Cn P w K mg base CX0 3 "onward_from_term" MQ cPZ)
  (P8:Cn P w K mg base CX0 5 "onward_from_value" MQ c9Z):
  FnOk P w K mg base CX0 6 f fd MQ bvZ:=by
 refine F.ok sc_onward (λvs H Q E h=> ?_) (λcdv A outer s H vs Q E hr h=> ?_)
 ·obtain⟨s,r,D,most,gv,sv,rfl,_⟩:=h;rfl
 obtain⟨⟨fo,pl,c,d⟩,r,D,most,gv,sv,rfl,hs,hg,hgl,hok,hst,q⟩:=h;have nd:=sc_onward.nd;have hu:=hr.units0;have hs0:=hs;obtain⟨p,fv,lv,rfl,hp,hf,hl⟩:=hs;refine⟨_,(A6 (B8 (B0 (kEq (K:=K) hu) (ixE K w (ixE K w (pv 1) A3) A3) A7 rfl) (A8 (B5 (cC Q6 hr (A0 (pv 0) (A0 (pv 1) (A0 (pv 2) A4)))))) B6)
   (A8 (B5 (cC P8 hr (A0 (pv 0) (A0 (pv 1) (A0 (pv 2) A4))))))), ?_⟩
 cases fo with
 |term t e=>
  cases hf with
  | @term _ _ pt u w1 hpt ht he=>
   refine⟨_,rfl,(ixT hp rfl (ixT hpt rfl (.inl ⟨rfl,_,rfl,ifT rfl ?_⟩)))⟩;exact⟨_,rfl,_,rfl,_,rfl,t,e,pl,c,d,r,D,most,gv,.ref p,rfl,hs0,hg,hgl,hok.len,hok.tm _ _ rfl,hst,q⟩
 |val v=>
  cases hf with
  | @val _ pt u hpt ht=>
   refine⟨_,rfl,(ixT hp rfl (ixT hpt rfl (.inl ⟨rfl,_,rfl,ifF nZ ?_⟩)))⟩;obtain⟨o1,o2,o3⟩:=hok.vl v rfl;exact⟨_,rfl,_,rfl,_,rfl,v,pl,c,d,r,D,most,gv,.ref p,rfl,hs0,hg,hgl,hok.len,hok.fr,o1,o2,o3,hst,q⟩
inductive spBegunW (vs:List V) (H:Hp) (Q:VK):Prop
 |mk:∀(D:List Dn) (d:Dn) (xs:List Vl) (us:List V) (gv:V) (a:Addr),(vs=[gv,.ref a])->(PgA H D gv)->(D.length<=1000)->((D.find? λd=>d.name==("main":Str))=some d)->(H a=some (.lst us))->(All2 (V1 H) xs us)->(d.pars.length=xs.length)->(xs.length<=1000)->(∀u H',Same H H'->StA H' ⟨.term d.body (env d.pars xs),[],0,1⟩ u->Q u H')->spBegunW vs H Q
noncomputable def QZ:Sp:=λvs H Q _=>spBegunW vs H Q
theorem ok_begun(F:Fun K "begun" "begun" LQ f fd)
  (K8:Cn P w K mg base CX0 1 "function_called" aaZ b3Z)
  (U3:Cn P w K mg base CX0 1 "bound_to" ZP MH):
  FnOk P w K mg base CX0 2 f fd coZ QZ:=by
 refine F.ok sc_begun (λvs H Q E h=> ?_) (λcdv A outer s H vs Q E hr h=> ?_)
 ·obtain⟨D,d,xs,us,gv,a,rfl,_⟩:=h;rfl
 obtain⟨D,d,xs,us,gv,a,rfl,hg,hgl,hd,ha,hxs,hpl,hxl,q⟩:=h;have nd:=sc_begun.nd;have z4:(4:Nat)<=sizeLine:=by decide
 refine⟨_,(A6 (sS 2 nd (cC K8 hr (A0 (pv 0) (A0 A7 A4))))
   (A8 (B5 (A9 (A0 (A9 (A0 A7 (A0 (ixE K w (pv 2) A3) (A0 (cC U3 hr (A0 (ixE K w (pv 2) A3) (A0 (pv 1) A4))) A4)))) (A0 (A9 A4) (A0 A3 (A0 A3 A4)))))))), ?_⟩
 refine⟨_,rfl,D,d,"main",gv,rfl,hg,hgl,hd,λu H1 s1 ⟨p,pq,tv,e,hp,hpq,ht⟩=> ?_⟩;subst e;refine⟨_,rfl,(ixT hp rfl ⟨_,rfl,(ixT hp rfl ⟨_,rfl,pq,a,d.pars,xs,us,rfl,hpq,.inr (s1 _ _ ha),hxs.imp λ_ _ h=>h.mono (A5 s1),hpl,by omega,λev H2 s2 he=>⟨D9,λa1 ha1=>⟨(by show 0<=sizeLine;decide),λa2 ha2=>⟨z4,λa3 ha3=> ?_⟩⟩⟩⟩)⟩)⟩;have s3:=A2 ha1 (.tup [.str "term",tv,ev]);have s4:=A2 ha2 (.tup []);have s5:=A2 ha3 (.tup [.ref a1,.ref a2,.int 0,.int 1]);have s35:=s3.trans (s4.trans s5);exact q _ _ (s1.trans (s2.trans s35)) ⟨a3,.ref a1,.ref a2,rfl,A1,.term ((s4.trans s5) _ _ A1) (ht.mono (A5 (s2.trans s35))) (he.mono (A5 s35)),⟨a2,[],rfl,s5 _ _ A1,.nil⟩⟩
end
end RG
namespace RG
open PySem L2 BV
noncomputable def dv:Vl->Nat
 | .lst r=>dv r+1
 | .cons a r=>max (dv a) (dv r)
 |_=>0
noncomputable def IW(k:Kd):Prop:=k=.num\/k=.tru\/k=.lst .num\/k=.lst .tru\/k=.lst (.lst .num)
theorem aUZ{F:Fs}{N c d:Nat}:∀ {r:Vl} {k:Kd},W F N r (.row k)->(∀ {v},W F N v (.k k)->plv false v=true/\sz2 false v<=c/\dv v<=d)->plv true r=true/\sz2 true r<=Q3 r*c/\dv r<=d
 |_,_,.nil,_=>⟨rfl,zero_le _,zero_le _⟩
 | .cons a r,_,.cons h1 h2 _,hk=>by
  obtain⟨a1,a2,a3⟩:=hk h1;obtain⟨b1,b2,b3⟩:=aUZ h2 hk;refine⟨by simp[plv,a1,b1], ?_,by show max _ _<=d;omega⟩;show sz2 false a+sz2 true r<=(Q3 r+1)*c;rw[Nat.add_mul];omega
theorem RF{F:Fs}{N c d:Nat}{v:Vl}{k:Kd}(h:W1 F N v (.lst k))(hk:∀ {v},W F N v (.k k)->plv false v=true/\sz2 false v<=c/\dv v<=d):plv false v=true/\sz2 false v<=1+N*c/\dv v<=d+1:=by
 cases h with
 |lst h=>
  obtain⟨h1,h2,h3⟩:=aUZ h hk;exact⟨by simpa [plv]using h1,Nat.add_le_add_left (Nat.le_trans h2 (Nat.mul_le_mul_right _ h.vl)) 1,Nat.succ_le_succ h3⟩
theorem VM{F:Fs}{N:Nat}{v:Vl}(h:W1 F N v .num):plv false v=true/\sz2 false v<=1/\dv v<=0:=by cases h;exact⟨rfl,Nat.le_refl _,Nat.le_refl _⟩
theorem aTZ{F:Fs}{N:Nat}{v:Vl}(h:W1 F N v .tru):plv false v=true/\sz2 false v<=1/\dv v<=0:=by cases h;exact⟨rfl,Nat.le_refl _,Nat.le_refl _⟩
theorem FH{F:Fs}{N:Nat}{v:Vl}{k:Kd}(hk:IW k)(h:W1 F N v k)(hN:N<=500):plv false v=true/\sz2 false v<=400000/\dv v<=2:=by
 rcases hk with rfl|rfl|rfl|rfl|rfl
 ·obtain⟨a,b,c⟩:=VM h;exact⟨a,by omega,by omega⟩
 ·obtain⟨a,b,c⟩:=aTZ h;exact⟨a,by omega,by omega⟩
 ·obtain⟨a,b,c⟩:=RF h VM;exact⟨a,by omega,by omega⟩
 ·obtain⟨a,b,c⟩:=RF h aTZ;exact⟨a,by omega,by omega⟩
 ·obtain⟨a,b,c⟩:=RF h λh=>RF h VM;have:N*(1+N*1)<=500*(1+500*1):=Nat.mul_le_mul hN (by omega);exact⟨a,by omega,by omega⟩
theorem LK{F:Fs}{N:Nat}{v:Vl}{k:Kd}(h:W1 F N v k):BdV v:=by
 cases h with
 |int h1 h2=>exact⟨h1,h2⟩
 |bl|lst _|fn _ _ _ _=>exact trivial
theorem b9Z{F:Fs}{D:List Dn}{N:Nat}{fr:Fr}{a b:Kd}(hD:DTy F D)(hN:N<=500)(h:FTy F N fr a b):SY fr/\bdF fr:=by
 cases h with
 |two _ _ _|cat _ _|not|empty|head|tail|ite _ _ _|do_ _ _|back=>exact⟨trivial,trivial⟩
 |then_ _ h=>exact⟨trivial,LK h⟩
 |thenC h=>exact⟨trivial,LK h⟩
 |let_ _ h=>obtain⟨gl,h1,_⟩:=h;exact⟨by have:=h1.vl;show Q3 _<=1000;omega,trivial⟩
 |with_ h=>cases h with
  |fn h1 _ _ _=>exact⟨by have:=h1.vl;show Q3 _<=1000;omega,trivial⟩
 |call hf hv ht _=>
  have h4:=(hD.of _ _ _ hf).1;have e1:=hv.len;have e2:=ht.len;simp only[length_append,length_cons]at h4;exact⟨⟨by omega,by omega⟩,trivial⟩
theorem caZ{F:Fs}{D:List Dn}{N:Nat}{kl k:Kd}{fs:List Fr}(hD:DTy F D)(hN:N<=500)(h:PTy F N kl fs k):∀x∈fs,SY x/\bdF x:=by
 induction h with
 |nil=>exact λx hx=>nomatch hx
 |cons h1 _ ih=>
  intro x hx;rcases cZ hx with rfl|hx
  ·exact b9Z hD hN h1
  ·exact ih x hx
theorem YN{F:Fs}{D:List Dn}{N:Nat}{kl:Kd}{s:Sta}(hD:DTy F D)(hN:N<=500)(hk:IW kl)(h:StTy F N kl s):Okk s/\∀v,s.fo=.val v->s.pile=[]->dv v<=2:=by
 obtain⟨fo,pl,c,d⟩:=s;obtain⟨⟨k,hfo,hp⟩,hl⟩:=h;have hl:pl.length<=N:=hl;refine⟨⟨by show pl.length<=10000;omega,caZ hD hN hp,λt e he=> ?_,λv hv=> ?_⟩,λv hv hpl=> ?_⟩
 ·have he:fo=.term t e:=he;subst he;cases hfo with
  |term _ h=>obtain⟨gl,h1,_⟩:=h;have:=h1.vl;omega
 ·have hv:fo=.val v:=hv;subst hv;cases hfo with
  |val h=>
   refine⟨LK h,λr e=> ?_,λe=> ?_⟩
   ·subst e;cases h with
    |lst h=>have:=h.vl;omega
   ·have e:pl=[]:=e;subst e;cases hp;exact⟨(FH hk h hN).1,(FH hk h hN).2.1⟩
 ·have hv:fo=.val v:=hv;have hpl:pl=[]:=hpl;subst hv;subst hpl;cases hp;cases hfo with
  |val h=>exact(FH hk h hN).2.2
inductive Fl where
 |ref (w:Str)|dry
inductive Job where
 |tm (t:Tm) (e:Vl)|row (ts:List Tm) (e:Vl)|beh (t:Tm) (vs:List Vl) (e:Vl)|into (b:Tm) (e:Vl)
inductive Rz where
 |val (v:Vl) (c:Nat)|vals (vs:List Vl) (c:Nat)|fail (o:Fl)
noncomputable def ofO(o:Out)(c:Nat):Rz:=match o with
 | .val v=> .val v c
 | .ref w=> .fail (.ref w)
inductive Pts:Tm->List Tm->Prop
 |two {s a b}:Pts (.two s a b) [a,b]
 |one {s a}:Pts (.one s a) [a]
 |ite {c a b}:Pts (.ite c a b) [c]
 |let_ {z a b}:Pts (.let_ z a b) [a]
 |do_ {f a}:Pts (.do_ f a) [f,a]
 |call {z as}:(row as).length<=1000->Pts (.call z as) (row as)
noncomputable def Gb(v:Vl):Prop:=BdV v/\∀r,v=.lst r->Q3 r<=10000
inductive Ev (D:List Dn) (most:Nat):Nat->Job->Nat->Rz->Prop
 |once {n t e v c}:Once e t v->Ev D most (n+1) (.tm t e) c (.val v c)
 |tmF {n t e c o ts}:Pts t ts->Ev D most n (.row ts e) c (.fail o)->Ev D most (n+1) (.tm t e) c (.fail o)
 |tm {n t e c vs c' r ts}:Pts t ts->Ev D most n (.row ts e) c (.vals vs c')->Ev D most n (.beh t vs e) c' r->Ev D most (n+1) (.tm t e) c r
 |nil {n e c}:Ev D most (n+1) (.row [] e) c (.vals [] c)
 |consF {n t ts e c o}:Ev D most n (.tm t e) c (.fail o)->Ev D most (n+1) (.row (t::ts) e) c (.fail o)
 |consR {n t ts e c v c1 o}:Ev D most n (.tm t e) c (.val v c1)->Ev D most (n+1) (.row ts e) c1 (.fail o)->Ev D most (n+1) (.row (t::ts) e) c (.fail o)
 |cons {n t ts e c v c1 vs c2}:Ev D most n (.tm t e) c (.val v c1)->Ev D most (n+1) (.row ts e) c1 (.vals vs c2)->Ev D most (n+1) (.row (t::ts) e) c (.vals (v::vs) c2)
 |two {n s a b o x y e c}:Two s a b o->Gb a->Gb b->Ev D most (n+1) (.beh (.two s x y) [a,b] e) c (ofO o c)
 |one {n s a o x e c}:One s a o->Gb a->Ev D most (n+1) (.beh (.one s x) [a] e) c (ofO o c)
 |ite {n b x y z e c r}:Ev D most n (.tm (if b then x else y) e) c r->Ev D most (n+1) (.beh (.ite z x y) [.bl b] e) c r
 |let_ {n z x y v e c r}:Q3 e<=1000->Ev D most n (.tm y (.bind e z v)) c r->Ev D most (n+1) (.beh (.let_ z x y) [v] e) c r
 |do_ {n z b e' v x y e c r}:Q3 e'<=1000->Ev D most n (.into b (.bind e' z v)) c r->Ev D most (n+1) (.beh (.do_ x y) [.fn z b e',v] e) c r
 |call {n z as vs dn e c r}:(D.find? λx=>x.name==z)=some dn->dn.pars.length=vs.length->vs.length<=4->Ev D most n (.into dn.body (env dn.pars vs)) c r->Ev D most (n+1) (.beh (.call z as) vs e) c r
 |dry {n b e c}:most<=c->Ev D most (n+1) (.into b e) c (.fail .dry)
 |into {n b e c r}:c<most->Ev D most n (.tm b e) (c+1) r->Ev D most (n+1) (.into b e) c r
theorem Ev.succ{D:List Dn}{most n:Nat}{j:Job}{c:Nat}{r:Rz}(h:Ev D most n j c r):Ev D most (n+1) j c r:=by
 induction h with
 |once h=>exact .once h
 |tmF p _ i=>exact .tmF p i
 |tm p _ _ i1 i2=>exact .tm p i1 i2
 |nil=>exact .nil
 |consF _ i=>exact .consF i
 |consR _ _ i1 i2=>exact .consR i1 i2
 |cons _ _ i1 i2=>exact .cons i1 i2
 |two h a b=>exact .two h a b
 |one h a=>exact .one h a
 |ite _ i=>exact .ite i
 |let_ l _ i=>exact .let_ l i
 |do_ l _ i=>exact .do_ l i
 |call h l m _ i=>exact .call h l m i
 |dry h=>exact .dry h
 |into h _ i=>exact .into h i
theorem Ev.le{D:List Dn}{most n m:Nat}{j:Job}{c:Nat}{r:Rz}(h:Ev D most n j c r)(hm:n<=m):Ev D most m j c r:=by
 induction hm with
 |refl=>exact h
 |step _ ih=>exact ih.succ
inductive Lead (D:List Dn) (most:Int):Nat->Sta->Res->Prop
 |refl {s}:Lead D most 0 s (.st s)
 |step {m s s1 r}:Okk s->Stp D most s (.st s1)->Lead D most m s1 r->Lead D most (m+1) s r
 |fin {s r}:Okk s->Stp D most s r->(∀s',r≠ .st s')->Lead D most 1 s r
noncomputable def Leads(D:List Dn)(most:Int)(s:Sta)(r:Res):Prop:=∃m,Lead D most m s r
theorem Leads.refl{D:List Dn}{most:Int}{s:Sta}:Leads D most s (.st s):=⟨0,.refl⟩
theorem Leads.step{D:List Dn}{most:Int}{s s1:Sta}{r:Res}(h:Okk s)(t:Stp D most s (.st s1))(l:Leads D most s1 r):Leads D most s r:=let⟨m,x⟩:=l;⟨m+1,.step h t x⟩
theorem Leads.fin{D:List Dn}{most:Int}{s:Sta}{r:Res}(h:Okk s)(t:Stp D most s r)(n:∀s',r≠ .st s'):Leads D most s r:=⟨1,.fin h t n⟩
theorem Leads.trans{D:List Dn}{most:Int}{s s1:Sta}{r:Res}(h:Leads D most s (.st s1))(l:Leads D most s1 r):Leads D most s r:=by
 obtain⟨m,h⟩:=h;generalize e:Res.st s1=q at h;induction h with
 |refl=>cases e;exact l
 |step a b _ ih=>exact .step a b (ih e)
 |fin _ _ n=>exact absurd e.symm (n _)
noncomputable def fin(r:Rz)(pl:List Fr)(d:Int):Res:=match r with
 | .val v c=> .st ⟨.val v,pl,c,d⟩
 | .fail (.ref w)=> .refd w
 |_=> .dry
noncomputable def GR'(F:Fs)(most N:Nat)(k:Kd)(c:Nat):Rz->Prop
 | .val v c'=>c<=c'/\c'<=most/\W1 F (N+(c' - c)*50) v k
 | .vals _ _=>False
 | .fail _=>True
section
variable{F:Fs}{D:List Dn}{most:Nat}{kl:Kd}
noncomputable def Got(F:Fs)(D:List Dn)(most:Nat)(kl:Kd)(n N:Nat)(k:Kd)(t:Tm)(e:Vl)(c:Nat):Prop:=
 ∃r,Ev D most n (.tm t e) c r/\GR' F most (N+hw t) k c r/\∀pl (d:Int),PTy F 500 kl pl k->pl.length+dt t+(most - c)*20<=500->d<=c+1->Leads D most ⟨.term t e,pl,c,d⟩ (fin r pl d)
structure Cm (F:Fs) (D:List Dn) (most:Nat) (kl:Kd):Prop where
 D:DTy F D
 k:IW kl
 m:most<=50
theorem PC(C:Cm F D most kl){t:Tm}{e:Vl}{g:Cx}{k:Kd}{pl:List Fr}{c d:Int}(ht:Ty F g t (.t k))(he:ETy F 500 e g)(hp:PTy F 500 kl pl k)(hl:pl.length<=500):Okk ⟨.term t e,pl,c,d⟩:=
 (YN C.D (Nat.le_refl _) C.k ⟨⟨k,.term ht he,hp⟩,hl⟩).1
theorem IJ(C:Cm F D most kl){v:Vl}{k:Kd}{pl:List Fr}{c d:Int}(hv:W1 F 500 v k)(hp:PTy F 500 kl pl k)(hl:pl.length<=500):Okk ⟨.val v,pl,c,d⟩:=
 (YN C.D (Nat.le_refl _) C.k ⟨⟨k,.val hv,hp⟩,hl⟩).1
theorem XY{N:Nat}{v:Vl}{k:Kd}(h:W1 F N v k)(hN:N<=500):Gb v:=⟨LK h,λr e=>by
 subst e;cases h with
 |lst h=>have:=h.vl;omega⟩
theorem CT(C:Cm F D most kl){n N:Nat}{k:Kd}{t:Tm}{e v:Vl}{g:Cx}{c:Nat}(ht:Ty F g t (.t k))(he:ETy F N e g)(hc:c<=most)(hN:N<=500)(o:Once e t v)(hv:W1 F N v k):Got F D most kl (n+1) N k t e c:=
 ⟨_,.once o,⟨Nat.le_refl _,hc,hv.mono (by omega)⟩,λpl d hp hl hd=> .step (PC C ht (he.mono hN) hp (by omega)) (.once o) .refl⟩
theorem NK(C:Cm F D most kl){n N:Nat}{k:Kd}{b:Tm}{e:Vl}{g:Cx}{c:Nat}(hb:Ty F g b (.t k))(hB:Bb b)(he:ETy F N e g)
  (ih:c<most->Got F D most kl n N k b e (c+1))(hN:c<most->N+hw b+(most - (c+1))*50<=500):
  ∃r,Ev D most (n+1) (.into b e) c r/\(∀M,N+hw b<=M+50->GR' F most M k c r)/\∀(s:Sta) pl (d:Int),Okk s->Stp D most s (into most b e pl c d)->PTy F 500 kl pl k->pl.length+(most - c)*20<=500->d<=c+1->Leads D most s (fin r pl d):=by
 by_cases h:most<=c
 ·refine⟨_,.dry h,λ_ _=>trivial,λs pl d hs ht _ _ _=> ?_⟩;have e1:into (most:Int) b e pl c d=.dry:=by unfold into;rw[if_pos (by omega)]
  rw[e1]at ht;exact .fin hs ht λ_ z=>nomatch z
 ·obtain⟨r,h1,h2,h3⟩:=ih (by omega);refine⟨r,.into (by omega) h1,λM hM=> ?_,λs pl d hs ht hp hl hd=> ?_⟩
  ·match r,h2 with
   | .val v c',⟨a1,a2,a3⟩=>
    refine⟨by omega,a2,a3.mono ?_⟩;have:(c' - c)*50=(c' - (c+1))*50+50:=by rw[show c' - c=(c' - (c+1))+1 by omega,Nat.add_mul]
    omega
   | .fail _,_=>trivial
  ·have hN:=hN (by omega);have hm50:=C.m;have e1:into (most:Int) b e pl c d=.st ⟨.term b e,.back::pl,c+1,d+1⟩:=by unfold into;rw[if_neg (by omega),if_neg (by omega)]
   rw[e1]at ht;have hl1:(most - c)*20=(most - (c+1))*20+20:=by rw[show most - c=(most - (c+1))+1 by omega,Nat.add_mul]
   have hbd:=hB.d;have l1:=h3 (.back::pl) (d+1) (.cons .back hp) (by simp only[length_cons];omega) (by omega);refine .step hs ht ?_
   match r,h2,l1 with
   | .val v c',⟨a1,a2,a3⟩,l1=>
    refine .trans l1 (.step (IJ C (a3.mono (by omega)) (.cons .back hp) (by simp only[length_cons];omega)) .back ?_);rw[Int.add_sub_cancel];exact .refl
   | .fail (.ref w),_,l1=>exact l1
   | .fail .dry,_,l1=>exact l1
theorem GR'.le{N N' c c0:Nat}{k:Kd}{r:Rz}(h:GR' F most N k c r)(hc:c0<=c)(hN:N<=N'+(c - c0)*50):GR' F most N' k c0 r:=by
 match r,h with
 | .val v c',⟨a1,a2,a3⟩=>
  refine⟨by omega,a2,a3.mono ?_⟩;rw[show c' - c0=(c' - c)+(c - c0) by omega,Nat.add_mul];omega
 | .fail _,_=>trivial
theorem aWZ{N c:Nat}{k:Kd}{o:Out}(h:OTy F N k o)(hc:c<=most):GR' F most N k c (ofO o c):=by
 cases o with
 |val v=>exact⟨Nat.le_refl _,hc,W.mono (le_add_right _ _) h⟩
 |ref w=>trivial
theorem WD{s:Sta}{o:Out}{pl:List Fr}{c:Nat}{d:Int}(hs:Okk s)(h:Stp D most s (out o pl c d)):Leads D most s (fin (ofO o c) pl d):=by
 cases o with
 |val v=>exact .step hs h .refl
 |ref w=>exact .fin hs h λ_ z=>nomatch z
theorem RS(C:Cm F D most kl){n N:Nat}{ka kb k:Kd}{s:Str}{a b:Tm}{e:Vl}{g:Cx}{c:Nat}(ht:Ty F g (.two s a b) (.t k))(he:ETy F N e g)(hN:N+hw (.two s a b)+(most - c)*50<=500)
  (Ga:Got F D most kl n N ka a e c)(Gb':∀c1,c<=c1->c1<=most->Got F D most kl n N kb b e c1)(hf:FTy F 500 (.two s b e) ka k)(hth:∀va,W1 F 500 va ka->FTy F 500 (.then_ s va) kb k)
  (hb:Ty F g b (.t kb))(hout:∀Ma Mb va vb,W1 F Ma va ka->W1 F Mb vb kb->∃o,Two s va vb o/\∀M,Ma<=M->Mb+1<=M->OTy F M k o):Got F D most kl (n+2) N k (.two s a b) e c:=by
 have ew:hw (.two s a b)=max (hw a) (hw b+1):=rfl;have ed:dt (.two s a b)=max (dt a) (dt b)+1:=rfl;have he5:ETy F 500 e g:=he.mono (by omega);obtain⟨r1,v1,g1,l1⟩:=Ga;have w1:∀ {pl:List Fr} {d:Int} {r:Res},PTy F 500 kl pl k->pl.length+dt (.two s a b)+(most - c)*20<=500->Leads D most ⟨.term a e,.two s b e::pl,c,d⟩ r->Leads D most ⟨.term (.two s a b) e,pl,c,d⟩ r:=λhp hl x=> .step (PC C ht he5 hp (by omega)) (.wait .two) x
 match r1,v1,g1,l1 with
 | .fail (.ref w),v1,_,l1=>exact⟨_,.tmF .two (.consF v1),trivial,λpl d hp hl hd=>w1 hp hl (l1 _ _ (.cons hf hp) (by simp only[length_cons];omega) hd)⟩
 | .fail .dry,v1,_,l1=>exact⟨_,.tmF .two (.consF v1),trivial,λpl d hp hl hd=>w1 hp hl (l1 _ _ (.cons hf hp) (by simp only[length_cons];omega) hd)⟩
 | .val va c1,v1,⟨a1,a2,a3⟩,l1=>
  have hva:W1 F 500 va ka:=a3.mono (by omega);obtain⟨r2,v2,g2,l2⟩:=Gb' c1 a1 a2;have w2:∀ {pl:List Fr} {d:Int} {r:Res},PTy F 500 kl pl k->pl.length+dt (.two s a b)+(most - c)*20<=500->d<=c+1->Leads D most ⟨.term b e,.then_ s va::pl,c1,d⟩ r->Leads D most ⟨.term (.two s a b) e,pl,c,d⟩ r:=λhp hl hd x=>
   w1 hp hl (.trans (l1 _ _ (.cons hf hp) (by simp only[length_cons];omega) hd) (.step (IJ C hva (.cons hf hp) (by simp only[length_cons];omega)) (.to .two) x))
  match r2,v2,g2,l2 with
  | .fail (.ref w),v2,_,l2=>exact⟨_,.tmF .two (.consR v1 (.consF v2)),trivial,λpl d hp hl hd=>w2 hp hl hd (l2 _ _ (.cons (hth _ hva) hp) (by simp only[length_cons];omega) (by omega))⟩
  | .fail .dry,v2,_,l2=>exact⟨_,.tmF .two (.consR v1 (.consF v2)),trivial,λpl d hp hl hd=>w2 hp hl hd (l2 _ _ (.cons (hth _ hva) hp) (by simp only[length_cons];omega) (by omega))⟩
  | .val vb c2,v2,⟨b1,b2,b3⟩,l2=>
   have hvb:W1 F 500 vb kb:=b3.mono (by omega);obtain⟨o,ho,hO⟩:=hout _ _ va vb a3 b3;refine⟨_,.tm .two (.cons v1 (.cons v2 .nil)) (.two ho (XY hva (Nat.le_refl _)) (XY hvb (Nat.le_refl _))),GR'.le (aWZ (hO (N+hw (.two s a b)+(c2 - c)*50) ?_ ?_) b2) (Nat.le_trans a1 b1) (Nat.le_refl _),λpl d hp hl hd=>w2 hp hl hd (.trans (l2 _ _ (.cons (hth _ hva) hp) (by simp only[length_cons];omega) (by omega)) (WD (IJ C hvb (.cons (hth _ hva) hp) (by simp only[length_cons];omega)) (.then_ ho)))⟩
   ·omega
   ·omega
theorem GA(C:Cm F D most kl){n N:Nat}{ka k:Kd}{t a:Tm}{e:Vl}{g:Cx}{fr:Fr}{c:Nat}(ht:Ty F g t (.t k))(he:ETy F 500 e g)(hp1:Pts t [a])(hw1:Wait e t a fr)(hf:FTy F 500 fr ka k)(hd1:dt a+1<=dt t)
  (Ga:Got F D most kl n N ka a e c)
  (go:∀va c1,c<=c1->c1<=most->W1 F (N+hw a+(c1 - c)*50) va ka->∃r,Ev D most (n+1) (.beh t [va] e) c1 r/\GR' F most (N+hw t) k c r/\∀pl (d:Int),PTy F 500 kl pl k->pl.length+dt t+(most - c)*20<=500->d<=c+1->Leads D most ⟨.val va,fr::pl,c1,d⟩ (fin r pl d)):Got F D most kl (n+2) N k t e c:=by
 obtain⟨r1,v1,g1,l1⟩:=Ga;have w1:∀ {pl:List Fr} {d:Int} {r:Res},PTy F 500 kl pl k->pl.length+dt t+(most - c)*20<=500->Leads D most ⟨.term a e,fr::pl,c,d⟩ r->Leads D most ⟨.term t e,pl,c,d⟩ r:=λhp hl x=> .step (PC C ht he hp (by omega)) (.wait hw1) x
 match r1,v1,g1,l1 with
 | .fail (.ref w),v1,_,l1=>exact⟨_,.tmF hp1 (.consF v1),trivial,λpl d hp hl hd=>w1 hp hl (l1 _ _ (.cons hf hp) (by simp only[length_cons];omega) hd)⟩
 | .fail .dry,v1,_,l1=>exact⟨_,.tmF hp1 (.consF v1),trivial,λpl d hp hl hd=>w1 hp hl (l1 _ _ (.cons hf hp) (by simp only[length_cons];omega) hd)⟩
 | .val va c1,v1,⟨a1,a2,a3⟩,l1=>
  obtain⟨r,h1,h2,h3⟩:=go va c1 a1 a2 a3;exact⟨r,.tm hp1 (.cons v1 .nil) h1,h2,λpl d hp hl hd=>w1 hp hl (.trans (l1 _ _ (.cons hf hp) (by simp only[length_cons];omega) hd) (h3 pl d hp hl hd))⟩
theorem ZR(C:Cm F D most kl){n N:Nat}{ka k:Kd}{s:Str}{a:Tm}{e:Vl}{g:Cx}{c:Nat}(ht:Ty F g (.one s a) (.t k))(he:ETy F 500 e g)(hN:N+hw a+(most - c)*50<=500)(Ga:Got F D most kl n N ka a e c)(hf:FTy F 500 (.one s) ka k)
  (hout:∀M va,W1 F M va ka->∃o,One s va o/\OTy F M k o):Got F D most kl (n+2) N k (.one s a) e c:=by
 refine GA C ht he .one .one hf (Nat.le_refl _) Ga λva c1 a1 a2 a3=> ?_;obtain⟨o,ho,hO⟩:=hout _ va a3;have hva:W1 F 500 va ka:=a3.mono (by omega);exact⟨_,.one ho (XY hva (Nat.le_refl _)),GR'.le (aWZ hO a2) a1 (Nat.le_refl _),λpl d hp hl hd=>WD (IJ C hva (.cons hf hp) (by simp only[length_cons];have:dt (.one s a)=dt a+1:=rfl;omega)) (.one ho)⟩
theorem ayZ(C:Cm F D most kl){n N:Nat}{k:Kd}{q a b:Tm}{e:Vl}{g:Cx}{c:Nat}(ht:Ty F g (.ite q a b) (.t k))(ha:Ty F g a (.t k))(hb:Ty F g b (.t k))(he:ETy F N e g)(hN:N+hw (.ite q a b)+(most - c)*50<=500)(Gq:Got F D most kl n N .tru q e c)
  (Ga:∀c1,c<=c1->c1<=most->Got F D most kl n N k a e c1)(Gb':∀c1,c<=c1->c1<=most->Got F D most kl n N k b e c1):Got F D most kl (n+2) N k (.ite q a b) e c:=by
 have ew:hw (.ite q a b)=max (hw q) (max (hw a) (hw b)):=rfl;have ed:dt (.ite q a b)=max (dt q) (max (dt a) (dt b))+1:=rfl;have he5:ETy F 500 e g:=he.mono (by omega);have hf:FTy F 500 (.ite a b e) .tru k:=.ite ha hb he5;refine GA C ht he5 .ite .ite hf (by omega) Gq λva c1 a1 a2 a3=> ?_;cases a3 with
 | @bl x=>
  have G:Got F D most kl n N k (if x then a else b) e c1:=by cases x;exact Gb' c1 a1 a2;exact Ga c1 a1 a2
  have hw':hw (if x then a else b)<=hw (.ite q a b):=by cases x<;>simp<;>omega
  have hd':dt (if x then a else b)+1<=dt (.ite q a b):=by cases x<;>simp<;>omega
  obtain⟨r,h1,h2,h3⟩:=G;exact⟨r,.ite h1,h2.le a1 (by omega),λpl d hp hl hd=> .step (IJ C .bl (.cons hf hp) (by simp only[length_cons];omega)) (.to .ite) (h3 pl d hp (by omega) (by omega))⟩
theorem amZ(C:Cm F D most kl){n N:Nat}{k k':Kd}{z:Str}{a b:Tm}{e:Vl}{g:Cx}{c:Nat}(ht:Ty F g (.let_ z a b) (.t k))(hb:Ty F (up g z k') b (.t k))(he:ETy F N e g)(hN:N+hw (.let_ z a b)+(most - c)*50<=500)(Ga:Got F D most kl n N k' a e c)
  (Gb':∀N1 e1 c1,ETy F N1 e1 (up g z k')->c<=c1->c1<=most->N1=N+hw a+(c1 - c)*50+1->Got F D most kl n N1 k b e1 c1):Got F D most kl (n+2) N k (.let_ z a b) e c:=by
 have ew:hw (.let_ z a b)=hw a+hw b+1:=rfl;have ed:dt (.let_ z a b)=max (dt a) (dt b)+1:=rfl;have he5:ETy F 500 e g:=he.mono (by omega);have hf:FTy F 500 (.let_ z b e) k' k:=.let_ hb he5;refine GA C ht he5 .let_ .let_ hf (by omega) Ga λva c1 a1 a2 a3=> ?_;obtain⟨r,h1,h2,h3⟩:=Gb' _ (.bind e z va) c1 ((he.mono (by omega)).bind a3 z) a1 a2 rfl;exact⟨r,.let_ (by obtain⟨gl,x,_⟩:=he;have:=x.vl;omega) h1,h2.le a1 (by omega),λpl d hp hl hd=> .step (IJ C (a3.mono (by omega)) (.cons hf hp) (by simp only[length_cons];omega)) (.to .let_) (h3 pl d hp (by omega) (by omega))⟩
theorem btZ(C:Cm F D most kl){n N:Nat}{k ka:Kd}{f a:Tm}{e:Vl}{g:Cx}{c:Nat}(ht:Ty F g (.do_ f a) (.t k))(ha:Ty F g a (.t ka))(he:ETy F N e g)(hN:N+hw (.do_ f a)+(most - c)*50<=500)(Gf:Got F D most kl (n+1) N (.fn ka k) f e c)
  (Ga:∀c1,c<=c1->c1<=most->Got F D most kl (n+1) N ka a e c1)
  (Gb':∀ {g':Cx} {b:Tm} (N1:Nat) (e1:Vl) (c1:Nat),Ty F g' b (.t k)->Bb b->ETy F N1 e1 g'->c<=c1->c1<most->N1=N+hw (.do_ f a)+(c1 - c)*50+1->Got F D most kl n N1 k b e1 (c1+1)):Got F D most kl (n+3) N k (.do_ f a) e c:=by
 have ew:hw (.do_ f a)=max (hw f) (hw a):=rfl;have ed:dt (.do_ f a)=max (dt f) (dt a)+1:=rfl;have he5:ETy F 500 e g:=he.mono (by omega);have hf:FTy F 500 (.do_ a e) (.fn ka k) k:=.do_ ha he5;obtain⟨r1,v1,g1,l1⟩:=Gf;have w1:∀ {pl:List Fr} {d:Int} {r:Res},PTy F 500 kl pl k->pl.length+dt (.do_ f a)+(most - c)*20<=500->Leads D most ⟨.term f e,.do_ a e::pl,c,d⟩ r->Leads D most ⟨.term (.do_ f a) e,pl,c,d⟩ r:=λhp hl x=> .step (PC C ht he5 hp (by omega)) (.wait .do_) x
 match r1,v1,g1,l1 with
 | .fail (.ref w),v1,_,l1=>exact⟨_,.tmF .do_ (.consF v1),trivial,λpl d hp hl hd=>w1 hp hl (l1 _ _ (.cons hf hp) (by simp only[length_cons];omega) hd)⟩
 | .fail .dry,v1,_,l1=>exact⟨_,.tmF .do_ (.consF v1),trivial,λpl d hp hl hd=>w1 hp hl (l1 _ _ (.cons hf hp) (by simp only[length_cons];omega) hd)⟩
 | .val vf c1,v1,⟨a1,a2,a3⟩,l1=>
  have hvf:W1 F 500 vf (.fn ka k):=a3.mono (by omega);obtain⟨r2,v2,g2,l2⟩:=Ga c1 a1 a2;have hth:FTy F 500 (.with_ vf) ka k:=.with_ hvf;have w2:∀ {pl:List Fr} {d:Int} {r:Res},PTy F 500 kl pl k->pl.length+dt (.do_ f a)+(most - c)*20<=500->d<=c+1->Leads D most ⟨.term a e,.with_ vf::pl,c1,d⟩ r->Leads D most ⟨.term (.do_ f a) e,pl,c,d⟩ r:=λhp hl hd x=>
   w1 hp hl (.trans (l1 _ _ (.cons hf hp) (by simp only[length_cons];omega) hd) (.step (IJ C hvf (.cons hf hp) (by simp only[length_cons];omega)) (.to .do_) x))
  match r2,v2,g2,l2 with
  | .fail (.ref w),v2,_,l2=>exact⟨_,.tmF .do_ (.consR v1 (.consF v2)),trivial,λpl d hp hl hd=>w2 hp hl hd (l2 _ _ (.cons hth hp) (by simp only[length_cons];omega) (by omega))⟩
  | .fail .dry,v2,_,l2=>exact⟨_,.tmF .do_ (.consR v1 (.consF v2)),trivial,λpl d hp hl hd=>w2 hp hl hd (l2 _ _ (.cons hth hp) (by simp only[length_cons];omega) (by omega))⟩
  | .val va c2,v2,⟨b1,b2,b3⟩,l2=>
   have hva:W1 F 500 va ka:=b3.mono (by omega);cases a3 with
   | @fn z b e' g' gl _ _ h1 h2 h3 h4=>
    have hbw:=h4.w;have he2:ETy F (N+hw (.do_ f a)+(c2 - c)*50+1) (.bind e' z va) (up g' z ka):=ETy.bind (N:=N+hw (.do_ f a)+(c2 - c)*50) ⟨gl,h1.mono (by omega),h2⟩ (b3.mono (by omega)) z;obtain⟨r,i1,i2,i3⟩:=NK C (c:=c2) h3 h4 he2 (λhc=>Gb' _ _ c2 h3 h4 he2 (by omega) hc rfl) (λhc=>by omega);refine⟨r,.tm .do_ (.cons v1 (.cons v2 .nil)) (.do_ (by have:=h1.vl;omega) i1),(i2 (N+hw (.do_ f a)+(c2 - c)*50) (by omega)).le (Nat.le_trans a1 b1) (Nat.le_refl _),λpl d hp hl hd=>w2 hp hl hd (.trans (l2 _ _ (.cons hth hp) (by simp only[length_cons];omega) (by omega)) (i3 _ pl d (IJ C hva (.cons hth hp) (by simp only[length_cons];omega)) .with_ hp (by omega) (by omega)))⟩
theorem Got.le{n m N:Nat}{k:Kd}{t:Tm}{e:Vl}{c:Nat}(h:Got F D most kl n N k t e c)(hm:n<=m):Got F D most kl m N k t e c:=let⟨r,a,b⟩:=h;⟨r,a.le hm,b⟩
noncomputable def GRs(F:Fs)(most N:Nat)(ks:List Kd)(c:Nat):Rz->Prop
 | .vals vs c'=>c<=c'/\c'<=most/\All2 (W1 F (N+(c' - c)*50)) vs ks
 | .val _ _=>False
 | .fail _=>True
noncomputable def a4Z(D:List Dn)(most:Nat)(s:Sta)(r:Rz)(z:Str)(vs0:List Vl)(e:Vl)(pl:List Fr)(d:Int):Prop:=match r with
 | .vals vs c'=>∃vi vl,vs=vi++ [vl]/\Leads D most s (.st ⟨.val vl,.call z (vs0++vi) [] e::pl,c',d⟩)
 | .fail o=>Leads D most s (fin (.fail o) pl d)
 |_=>False
noncomputable def WG(F:Fs)(D:List Dn)(most:Nat)(kl:Kd)(n N:Nat)(ks:List Kd)(as:Tm)(e:Vl)(c:Nat):Prop:=
 ∃r,Ev D most (n+1) (.row (row as) e) c r/\GRs F most (N+hw as) ks c r/\∀a q,as=.cons a q->∀z vs0 ks0 k pl (d:Int),F.lookup z=some (ks0++ks,k)->All2 (W1 F 500) vs0 ks0->PTy F 500 kl pl k->pl.length+1+dt as+(most - c)*20<=500->d<=c+1->
  a4Z D most ⟨.term a e,.call z vs0 (row q) e::pl,c,d⟩ r z vs0 e pl d
theorem axZ{n N:Nat}{e:Vl}{c:Nat}(hc:c<=most):WG F D most kl n N [] .nil e c:=⟨_,.nil,⟨Nat.le_refl _,hc,.nil⟩,λ_ _ e=>nomatch e⟩
theorem WJ(C:Cm F D most kl){n N:Nat}{ka:Kd}{ks:List Kd}{a q:Tm}{e:Vl}{g:Cx}{c:Nat}(hq:Ty F g q (.r ks))(he:ETy F N e g)(hN:N+hw (.cons a q)+(most - c)*50<=500)(Ga:Got F D most kl n N ka a e c)
  (Gq:∀c1,c<=c1->c1<=most->WG F D most kl n N ks q e c1):WG F D most kl n N (ka::ks) (.cons a q) e c:=by
 have ew:hw (.cons a q)=max (hw a) (hw q):=rfl;have ed:dt (.cons a q)=max (dt a) (dt q):=rfl;have he5:ETy F 500 e g:=he.mono (by omega);obtain⟨r1,v1,g1,l1⟩:=Ga;have hF:∀ {z:Str} {vs0:List Vl} {ks0:List Kd} {k:Kd},F.lookup z=some (ks0++ka::ks,k)->All2 (W1 F 500) vs0 ks0->FTy F 500 (.call z vs0 (row q) e) ka k:=λh1 h2=> .call h1 h2 (QR hq) he5
 match r1,v1,g1,l1 with
 | .fail o,v1,_,l1=>
  refine⟨_,.consF v1,trivial,λa' q' e' z vs0 ks0 k pl d hz hv hp hl hd=> ?_⟩;cases e';have:=l1 _ d (.cons (hF hz hv) hp) (by simp only[length_cons];omega) hd;cases o<;>exact this
 | .val v c1,v1,⟨a1,a2,a3⟩,l1=>
  have hv5:W1 F 500 v ka:=a3.mono (by omega);obtain⟨r2,v2,g2,l2⟩:=Gq c1 a1 a2;have w1:∀ {z:Str} {vs0:List Vl} {ks0:List Kd} {k:Kd} {pl:List Fr} {d:Int},F.lookup z=some (ks0++ka::ks,k)->All2 (W1 F 500) vs0 ks0->PTy F 500 kl pl k->pl.length+1+dt (.cons a q)+(most - c)*20<=500->d<=c+1->Leads D most ⟨.term a e,.call z vs0 (row q) e::pl,c,d⟩ (.st ⟨.val v,.call z vs0 (row q) e::pl,c1,d⟩):=λhz hv hp hl hd=>l1 _ _ (.cons (hF hz hv) hp) (by simp only[length_cons];omega) hd;have w2:∀ {z:Str} {vs0:List Vl} {ks0:List Kd} {k:Kd} {pl:List Fr} {d:Int} {a' q':Tm},q=.cons a' q'->F.lookup z=some (ks0++ka::ks,k)->All2 (W1 F 500) vs0 ks0->PTy F 500 kl pl k->pl.length+1+dt (.cons a q)+(most - c)*20<=500->d<=c+1->
    a4Z D most ⟨.term a' e,.call z (vs0++ [v]) (row q') e::pl,c1,d⟩ r2 z (vs0++ [v]) e pl d/\∀r,Leads D most ⟨.term a' e,.call z (vs0++ [v]) (row q') e::pl,c1,d⟩ r->Leads D most ⟨.term a e,.call z vs0 (row q) e::pl,c,d⟩ r:=λ{z vs0 ks0 k pl d a' q'} eq hz hv hp hl hd=>by
   have st:Stp D most ⟨.val v,.call z vs0 (row q) e::pl,c1,d⟩ (.st ⟨.term a' e,.call z (vs0++ [v]) (row q') e::pl,c1,d⟩):=by subst eq;exact .to .call
   exact⟨l2 _ _ eq _ _ (_++ [ka]) _ _ _ (by rw[List.append_assoc];exact hz) (hv.app (.cons hv5 .nil)) hp (by omega) (by omega),λr x=> .trans (w1 hz hv hp hl hd) (.step (IJ C hv5 (.cons (hF hz hv) hp) (by simp only[length_cons];omega)) st x)⟩
  match r2,v2,g2,l2, @w2 with
  | .fail o,v2,_,_,w2=>
   refine⟨_,.consR v1 v2,trivial,λa' q' e' z vs0 ks0 k pl d hz hv hp hl hd=> ?_⟩;cases e';cases hq with
   |nil=>cases v2
   |cons _ _=>obtain⟨x1,x2⟩:=w2 rfl hz hv hp hl hd;exact x2 _ x1
  | .vals vs c2,v2,⟨b1,b2,b3⟩,_,w2=>
   refine⟨_,.cons v1 v2,⟨Nat.le_trans a1 b1,b2,.cons (a3.mono (by omega)) (b3.imp λ_ _ h=>h.mono (by omega))⟩,λa' q' e' z vs0 ks0 k pl d hz hv hp hl hd=> ?_⟩;cases e';cases hq with
   |nil=>
    cases v2;exact⟨[],v,rfl,by rw[append_nil];exact w1 hz hv hp hl hd⟩
   |cons _ _=>
    obtain⟨⟨vi,vl,rfl,x1⟩,x2⟩:=w2 rfl hz hv hp hl hd;exact⟨v::vi,vl,rfl,by rw[List.append_assoc]at x1;exact x2 _ x1⟩
theorem WN(C:Cm F D most kl){n N:Nat}{ks:List Kd}{k:Kd}{z:Str}{as:Tm}{e:Vl}{g:Cx}{c:Nat}(hz:F.lookup z=some (ks,k))(ha:Ty F g as (.r ks))(he:ETy F N e g)(hc:c<=most)(hN:N+hw as+(most - c)*50<=500)(h4:4<=N)(Ga:WG F D most kl (n+1) N ks as e c)
  (Gb':∀ {g':Cx} {b:Tm} (N1:Nat) (e1:Vl) (c1:Nat),Ty F g' b (.t k)->Bb b->ETy F N1 e1 g'->c<=c1->c1<most->N1=N+hw as+(c1 - c)*50->Got F D most kl n N1 k b e1 (c1+1)):Got F D most kl (n+3) N k (.call z as) e c:=by
 have ed:dt (.call z as)=dt as+1:=rfl;have ht:Ty F g (.call z as) (.t k):=.call hz ha;have he5:ETy F 500 e g:=he.mono (by omega);obtain⟨r1,v1,g1,l1⟩:=Ga;obtain⟨k4,dn,g',hd,hpl,hb,hg,hB⟩:=C.D.of _ _ _ hz;have hbw:=hB.w;have hrl:(row as).length<=1000:=by have:=(QR ha).len;omega
 match r1,v1,g1,l1 with
 | .fail o,v1,_,l1=>
  refine⟨_,.tmF (.call hrl) v1,trivial,λpl d hp hl hd=> ?_⟩;cases ha with
  |nil=>cases v1
  |cons _ _=>exact .step (PC C ht he5 hp (by omega)) (.wait .call) (l1 _ _ rfl z [] [] k pl d hz .nil hp (by omega) hd)
 | .vals vs c1,v1,⟨a1,a2,a3⟩,l1=>
  have hvl:=a3.len;have he2:ETy F (N+hw as+(c1 - c)*50) (env dn.pars vs) g':=⟨_,W.env .none (by show 0+vs.length<=_;omega) hpl a3,λy q e=>by rw[append_nil];exact hg y q e⟩;obtain⟨r,i1,i2,i3⟩:=NK C (c:=c1) hb hB he2 (λhc=>Gb' _ _ c1 hb hB he2 a1 hc rfl) (λhc=>by omega);refine⟨r,.tm (.call hrl) v1 (.call hd (by rw[hpl,hvl]) (by omega) i1),(i2 (N+hw as+(c1 - c)*50) (by omega)).le a1 (Nat.le_refl _),λpl d hp hl hd'=> ?_⟩;cases ha with
  |nil=>
   cases v1;have e0:dn.pars=[]:=List.eq_nil_of_length_eq_zero hpl;refine i3 _ pl d (PC C ht he5 hp (by omega)) ?_ hp (by omega) hd';rw[e0];exact .call0 hd e0
  | @cons _ a q ka ks' _ hq=>
   obtain⟨vi,vl,rfl,x1⟩:=l1 _ _ rfl z [] [] k pl d hz .nil hp (by omega) hd';refine .step (PC C ht he5 hp (by omega)) (.wait .call) (.trans x1 ?_);have hpl':dn.pars.length=vi.length+1:=by rw[hpl,<-hvl];simp
   obtain⟨k1,k2,e12,y1,y2⟩:=a3.split;cases y2 with
   | @cons _ kx _ _ y3 y4=>
    cases y4;rw[e12]at hz;exact i3 _ pl d (IJ C (W.mono (by omega) y3) (.cons (.call (ks:=k1) (k0:=kx) (kt:=[]) hz (y1.imp λ_ _ h=>h.mono (by omega)) .nil he5) hp) (by simp only[length_cons];omega)) (.call hd hpl') hp (by omega) (by omega)
noncomputable def MoT(F:Fs)(D:List Dn)(most:Nat)(kl:Kd)(m:Nat)(g:Cx)(t:Tm):Kx->Prop
 | .t k=>∀N e c,ETy F N e g->c<=most->most<=c+m->N+hw t+(most - c)*50<=500->4<=N->Got F D most kl (2*dt t+39*m+1) N k t e c
 | .r ks=>∀N e c,ETy F N e g->c<=most->most<=c+m->N+hw t+(most - c)*50<=500->4<=N->WG F D most kl (2*dt t+39*m+1) N ks t e c
theorem akZ{N:Nat}{v:Vl}{ka k:Kd}{s:Str}(h:FTy F 500 (.one s) ka k)(hv:W1 F N v ka):∃o,One s v o/\OTy F N k o:=by
 cases h with
 |not=>cases hv with|bl=>exact⟨_,.not,.bl⟩
 |empty=>cases hv with
  |lst hr=>cases hr with
   |nil=>exact⟨_,.emptyT,.bl⟩
   |cons=>exact⟨_,.emptyF,.bl⟩
 |head=>cases hv with
  |lst hr=>cases hr with
   |nil=>exact⟨_,.headN,trivial⟩
   |cons h1 h2=>exact⟨_,.head,h1⟩
 |tail=>cases hv with
  |lst hr=>cases hr with
   |nil=>exact⟨_,.tailN,trivial⟩
   |cons h1 h2=>exact⟨_,.tail,.lst h2⟩
noncomputable def Bod(F:Fs)(D:List Dn)(most:Nat)(kl:Kd)(m:Nat):Prop:=∀ {g':Cx} {b:Tm} {k:Kd} (n N1:Nat) (e1:Vl) (c1:Nat),Ty F g' b (.t k)->Bb b->ETy F N1 e1 g'->c1<most->most<=c1+m->N1+hw b+(most - (c1+1))*50<=500->4<=N1->39*m<=n->Got F D most kl n N1 k b e1 (c1+1)
theorem MB(C:Cm F D most kl){m:Nat}{g:Cx}{a:Tm}{s:Str}{ka k:Kd}(h:Ty F g (.one s a) (.t k))(hf:FTy F 500 (.one s) ka k)(i:MoT F D most kl m g a (.t ka)):MoT F D most kl m g (.one s a) (.t k):=λN e c he hc hm hN h4=>
 (ZR C h (he.mono (by omega)) hN (i N e c he hc hm hN h4) hf λ_ _=>akZ hf).le (by show _<=2*(dt a+1)+_+1;omega)
theorem aZZ(C:Cm F D most kl){m:Nat}(body:Bod F D most kl m){g:Cx}{t:Tm}{kx:Kx}(h:Ty F g t kx):MoT F D most kl m g t kx:=by
 induction h with
 |nil=>exact λN e c _ hc _ _ _=>axZ hc
 | @cons g a r k ks h1 h2 i1 i2=>
  intro N e c he hc hm hN h4;have ew:hw (.cons a r)=max (hw a) (hw r):=rfl;have ed:dt (.cons a r)=max (dt a) (dt r):=rfl;refine WJ C h2 he hN ((i1 N e c he hc hm (by omega) h4).le (by omega)) λc1 a1 a2=> ?_;obtain⟨r,x1,x2⟩:=i2 N e c1 he a2 (by omega) (by omega) h4;exact⟨r,x1.le (by omega),x2⟩
 |num h1 h2=>exact λN e c he hc hm hN h4=>CT C (.num h1 h2) he hc (by omega) .num (.int h1 h2)
 |tru=>exact λN e c he hc hm hN h4=>CT C .tru he hc (by omega) .tru .bl
 |non=>exact λN e c he hc hm hN h4=>CT C .non he hc (by omega) .non (.lst .nil)
 |name hz=>exact λN e c he hc hm hN h4=>let⟨v,h1,h2⟩:=he.look hz;CT C (.name hz) he hc (by omega) (.name h1) h2
 |fn hb hB=>exact λN e c he hc hm hN h4=>let⟨gl,h1,h2⟩:=he;CT C (.fn hb hB) he hc (by omega) .fn (.fn h1 h2 hb hB)
 | @two g k a b hk h1 h2 i1 i2=>
  intro N e c he hc hm hN h4;have ew:hw (.two (sg k) a b)=max (hw a) (hw b+1):=rfl;have ed:dt (.two (sg k) a b)=max (dt a) (dt b)+1:=rfl;refine(RS (n:=2*max (dt a) (dt b)+39*m+1) C (.two hk h1 h2) he hN ((i1 N e c he hc hm (by omega) h4).le (by omega)) (λc1 a1 a2=>(i2 N e c1 he a2 (by omega) (by omega) h4).le (by omega)) (.two hk h2 (he.mono (by omega))) (λva hv=> .then_ hk hv) h2 λMa Mb va vb x y=> ?_).le (by omega);cases x with
  |int x1 x2=>cases y with
   |int y1 y2=>exact⟨_,.num hk,λM _ _=>cGZ hk x1 x2⟩
 | @cat g a b k h1 h2 i1 i2=>
  intro N e c he hc hm hN h4;have ew:hw (.two ":" a b)=max (hw a) (hw b+1):=rfl;have ed:dt (.two ":" a b)=max (dt a) (dt b)+1:=rfl;refine(RS (n:=2*max (dt a) (dt b)+39*m+1) C (.cat h1 h2) he hN ((i1 N e c he hc hm (by omega) h4).le (by omega)) (λc1 a1 a2=>(i2 N e c1 he a2 (by omega) (by omega) h4).le (by omega)) (.cat h2 (he.mono (by omega))) (λva hv=> .thenC hv) h2 λMa Mb va vb x y=> ?_).le (by omega);cases y with
  |lst y=>exact⟨_,.cons,λM h1 h2=> .lst (.cons (W.mono h1 x) (y.mono (by omega)) (Nat.le_trans (Nat.succ_le_succ y.vl) h2))⟩
 |not h1 i=>exact MB C (.not h1) .not i
 |empty h1 i=>exact MB C (.empty h1) .empty i
 |head h1 i=>exact MB C (.head h1) .head i
 |tail h1 i=>exact MB C (.tail h1) .tail i
 | @ite g q a b k h1 h2 h3 i1 i2 i3=>
  intro N e c he hc hm hN h4;have ew:hw (.ite q a b)=max (hw q) (max (hw a) (hw b)):=rfl;have ed:dt (.ite q a b)=max (dt q) (max (dt a) (dt b))+1:=rfl;exact(ayZ (n:=2*max (dt q) (max (dt a) (dt b))+39*m+1) C (.ite h1 h2 h3) h2 h3 he hN ((i1 N e c he hc hm (by omega) h4).le (by omega)) (λc1 a1 a2=>(i2 N e c1 he a2 (by omega) (by omega) h4).le (by omega)) (λc1 a1 a2=>(i3 N e c1 he a2 (by omega) (by omega) h4).le (by omega))).le (by omega)
 | @let_ g z a b k k' h1 h2 i1 i2=>
  intro N e c he hc hm hN h4;have ew:hw (.let_ z a b)=hw a+hw b+1:=rfl;have ed:dt (.let_ z a b)=max (dt a) (dt b)+1:=rfl;refine(amZ (n:=2*max (dt a) (dt b)+39*m+1) C (.let_ h1 h2) h2 he hN ((i1 N e c he hc hm (by omega) h4).le (by omega)) λN1 e1 c1 he1 a1 a2 eN=>(i2 N1 e1 c1 he1 a2 (by omega) (by omega) (by omega)).le (by omega)).le (by omega)
 | @do_ g f a k k' h1 h2 i1 i2=>
  intro N e c he hc hm hN h4;have ew:hw (.do_ f a)=max (hw f) (hw a):=rfl;have ed:dt (.do_ f a)=max (dt f) (dt a)+1:=rfl;refine(btZ (n:=2*max (dt f) (dt a)+39*m) C (.do_ h1 h2) h2 he hN ((i1 N e c he hc hm (by omega) h4).le (by omega)) (λc1 a1 a2=>(i2 N e c1 he a2 (by omega) (by omega) h4).le (by omega)) λN1 e1 c1 hb hB he1 a1 a2 eN=>body _ N1 e1 c1 hb hB he1 a2 (by omega) (by have:=hB.w;omega) (by omega) (by omega)).le (by omega)
 | @call g z as ks k hz ha i=>
  intro N e c he hc hm hN h4;have ew:hw (.call z as)=hw as:=rfl;have ed:dt (.call z as)=dt as+1:=rfl;refine(WN (n:=2*dt as+39*m) C hz ha he hc hN h4 (i N e c he hc hm hN h4) λN1 e1 c1 hb hB he1 a1 a2 eN=>body _ N1 e1 c1 hb hB he1 a2 (by omega) (by have:=hB.w;omega) (by omega) (by omega)).le (by omega)
theorem bpZ(C:Cm F D most kl)(m:Nat):∀ {g:Cx} {t:Tm} {k:Kd},Ty F g t (.t k)->MoT F D most kl m g t (.t k):=by
 induction m with
 |zero=>exact λh=>aZZ C (λ_ _ _ _ _ _ _ h1 h2=>by omega) h
 |succ m ih=>exact λh=>aZZ C (λn N1 e1 c1 hb hB he h1 h2 h3 h4 hn=>(ih hb N1 e1 (c1+1) he (by omega) (by omega) h3 h4).le (by have:=hB.d;omega)) h
end
end RG
namespace RG
open PySem L2 BV
seal PE PT PW PA PS PSs PTs PI PG PGs PO
noncomputable abbrev DY:Stmt:=BV.top 15
noncomputable abbrev PM:List Str:=["program","numbers","most","state"]
theorem sc_reckoned:FnScope PM cnZ (B3 DY):=fS
theorem bLZ{H:Hp}{r:Res}{v:V}(h:ReA H r v)(hr:∀s,r≠ .st s):∃p xs,v=.ref p/\H p=some (.tup xs)/\xs.length<4:=by
 cases r with
 |st s=>exact absurd rfl (hr s)
 |dry=>obtain⟨p,rfl,h1⟩:=h;exact⟨p,_,rfl,h1,by show 1<4;decide⟩
 |deep=>obtain⟨p,rfl,h1⟩:=h;exact⟨p,_,rfl,h1,by show 1<4;decide⟩
 |refd z=>obtain⟨p,rfl,h1⟩:=h;exact⟨p,_,rfl,h1,by show 2<4;decide⟩
 |value x=>obtain⟨p,u,rfl,h1,_⟩:=h;exact⟨p,_,rfl,h1,by show 2<4;decide⟩
section
variable{P:Program}{w:World}{K:FZ}{mg:Str->Option Value}{base:Heap}{f:Addr}{fd:FuncData}{ddZ cxZ:Addr}{dcZ cyZ:FuncData}
inductive spReckW(vs:List V)(H:Hp)(Q:VK):Prop
 |mk:∀(D:List Dn) (d:Dn) (xs:List Vl) (us:List V) (gv:V) (a:Addr) (most:Int) (r:Res),(vs=[gv,.ref a,.int most])->(PgA H D gv)->(D.length<=1000)->((D.find? λd=>d.name==("main":Str))=some d)->(H a=some (.lst us))->(All2 (V1 H) xs us)->(d.pars.length=xs.length)->(xs.length<=1000)->(Leads D most ⟨.term d.body (env d.pars xs),[],0,1⟩ r)->((∀s,r≠ .st s))->(∀u H',Same H H'->ReA H' r u->Q u H')->spReckW vs H Q
noncomputable def XC:Sp:=λvs H Q _=>spReckW vs H Q
theorem ok_reckoned{tD:Tok}(m_PARTS_OF_STATE:mg "PARTS_OF_STATE"=some (.int 4 tD))(F:Fun K "reckoned" "reckoned" DY f fd)(B:BV.NoG mg)
  (KZ:Cn P w K mg base CX0 2 "begun" coZ QZ)
  (HK:Cn P w K mg base CX0 6 "onward" MQ bvZ):
  FnOk P w K mg base CX0 7 f fd cnZ XC:=by
 refine F.ok sc_reckoned (λvs H Q E h=> ?_) (λcdv A outer s H vs Q E hr h=> ?_)
 ·obtain⟨D,d,xs,us,gv,a,most,r,rfl,_⟩:=h;rfl
 obtain⟨D,d,xs,us,gv,a,most,r,rfl,hg,hgl,hd,ha,hxs,hpl,hxl,⟨m,hL⟩,hne,q⟩:=h;have nd:=sc_reckoned.nd;have hu:=hr.units0;refine⟨_,(A6 (sS 3 nd (cC KZ hr (A0 (pv 0) (A0 (pv 1) A4))))
   (A6 (MY PassesOwn.never (B0 (kEq (K:=K) hu) (kL K B.len_ (pv 3)) (BL (v:=.int 4) rfl m_PARTS_OF_STATE ⟨_,rfl⟩) rfl) (A8 (sS 3 nd (cC HK hr (A0 (pv 0) (A0 (pv 3) (A0 (pv 2) A4)))))))
   (A8 (B5 (pv 3))))), ?_⟩
 refine⟨_,rfl,_,rfl,D,d,xs,us,gv,a,rfl,hg,hgl,hd,ha,hxs,hpl,hxl,λu H1 s1 hs=> ?_⟩;refine⟨λm σ H'=>∃u,σ=[some gv,some (.ref a),some (.int most),some u]/\Same H H'/\((∃s,StA H' s u/\Lead D most m s r)\/ReA H' r u),⟨m,u,rfl,s1,.inl ⟨_,hs,hL⟩⟩, ?_⟩;rintro m _ H2 ⟨u,rfl,s2,h2⟩;rcases h2 with⟨s,hs,hL⟩|hR
 ·have hs0:=hs;obtain⟨p,fv,lv,rfl,hp,_,_⟩:=hs;refine⟨_,rfl,_,_,rfl,.inr ⟨_,SqT.of hp,rfl⟩,.inl ⟨rfl,_,rfl,ifT rfl ?_⟩⟩;have go:∀(r1:Res),Okk s->Stp D most s r1->∀N:St->Hp->Prop,(∀u3 H3,Same H H3->ReA H3 r1 u3->N [some gv,some (.ref a),some (.int most),some u3] H3)->bvZ [gv,.ref p,.int most] H2 (λu3 H3=>N [some gv,some (.ref a),some (.int most),some u3] H3) E0:=λr1 ok st N hN=>⟨s,r1,D,most,gv,.ref p,rfl,hs0,hg.mono (A5 s2),hgl,ok,st,λu3 H3 s3 h3=>hN _ _ (s2.trans s3) h3⟩;cases hL with
  |refl=>exact absurd rfl (hne _)
  | @step m' _ s1' _ ok st l=>exact⟨fun σ' H'=>∃u3,σ'=[some gv,some (.ref a),some (.int most),some u3]/\Same H H'/\∃s,StA H' s u3/\Lead D most m' s r,fun σ' H' ⟨u3,e,sm,x⟩=>⟨m',lt_succ_self _,u3,e,sm,.inl x⟩,_,rfl,_,rfl,_,rfl,go _ ok st _ λu3 H3 sm h3=>⟨u3,rfl,sm,_,h3,l⟩⟩
  |fin ok st _=>exact⟨fun σ' H'=>∃u3,σ'=[some gv,some (.ref a),some (.int most),some u3]/\Same H H'/\ReA H' r u3,fun σ' H' ⟨u3,e,sm,x⟩=>⟨0,Nat.zero_lt_one,u3,e,sm,.inr x⟩,_,rfl,_,rfl,_,rfl,go _ ok st _ λu3 H3 sm h3=>⟨u3,rfl,sm,h3⟩⟩
 ·obtain⟨p,ys,rfl,hp,hl⟩:=bLZ hR hne;refine⟨_,rfl,_,_,rfl,.inr ⟨_,SqT.of hp,rfl⟩,.inl ⟨rfl,_,rfl,ifF ?_ ?_⟩⟩
  ·simp only[decide_eq_true_eq];intro e;injection e with e
   omega
  exact⟨_,rfl,q _ _ s2 hR⟩
end
end RG
namespace RG
open PySem L2 BV
inductive KA (H:Hp):Kd->V->Prop
 |num {p}:H p=some (.tup [.str "number"])->KA H .num (.ref p)
 |tru {p}:H p=some (.tup [.str "truth"])->KA H .tru (.ref p)
 |lst {k p u}:H p=some (.tup [.str "list",u])->KA H k u->KA H (.lst k) (.ref p)
 |fn {a b p u w}:H p=some (.tup [.str "fn",u,w])->KA H a u->KA H b w->KA H (.fn a b) (.ref p)
theorem KA.mono{H H':Hp}(m:Mo H H'){k:Kd}{v:V}(h:KA H k v):KA H' k v:=by
 induction h with
 |num h=>exact .num (m _ _ h)
 |tru h=>exact .tru (m _ _ h)
 |lst h _ i=>exact .lst (m _ _ h) i
 |fn h _ _ i1 i2=>exact .fn (m _ _ h) i1 i2
noncomputable def dk:Kd->Nat
 | .num=>1
 | .tru=>1
 | .lst k=>dk k+1
 | .fn a b=>max (dk a) (dk b)+1
theorem MJ(k:Kd):1<=dk k:=by cases k<;>simp[dk]
deriving instance DecidableEq for Kd
noncomputable def kis:Kd->List (Str⊕Kd)
 | .num=> [.inl "number"]
 | .tru=> [.inl "truth"]
 | .lst a=> [.inl "list",.inr a]
 | .fn a b=> [.inl "fn",.inr a,.inr b]
theorem auZ{k k':Kd}(h:kis k=kis k'):k=k':=by
 cases k<;>cases k'<;>simp[kis]at h<;>first|rfl|(simp[h];done)|(exfalso;revert h;decide)|(obtain⟨h,_⟩:=h;exfalso;revert h;decide)
noncomputable def KI(H:Hp):Str⊕Kd->V->Prop
 | .inl x,v=>v=.str x
 | .inr k,v=>KA H k v
theorem KA.its{H:Hp}{k:Kd}{v:V}(h:KA H k v):∃p us,v=.ref p/\H p=some (.tup us)/\All2 (KI H) (kis k) us:=by
 cases h with
 |num h=>exact⟨_,_,rfl,h,.cons rfl .nil⟩
 |tru h=>exact⟨_,_,rfl,h,.cons rfl .nil⟩
 |lst h h1=>exact⟨_,_,rfl,h,.cons rfl (.cons h1 .nil)⟩
 |fn h h1 h2=>exact⟨_,_,rfl,h,.cons rfl (.cons h1 (.cons h2 .nil))⟩
theorem OS{k:Kd}{j:Nat}{i:Str⊕Kd}(h:(kis k)[j]? =some i):(j=0/\∃x,i=.inl x)\/(j≠0/\∃k',i=.inr k'/\dk k'<dk k):=by
 cases k with
 |num|tru=>
  match j,h with
  |0,h=>cases h;exact .inl ⟨rfl,_,rfl⟩
  |j+1,h=>simp[kis]at h
 |lst a=>
  match j,h with
  |0,h=>cases h;exact .inl ⟨rfl,_,rfl⟩
  |1,h=>cases h;exact .inr ⟨by decide,_,rfl,by simp[dk]⟩
  |j+2,h=>simp[kis]at h
 |fn a b=>
  match j,h with
  |0,h=>cases h;exact .inl ⟨rfl,_,rfl⟩
  |1,h=>cases h;exact .inr ⟨by decide,_,rfl,by simp[dk];omega⟩
  |2,h=>cases h;exact .inr ⟨by decide,_,rfl,by simp[dk];omega⟩
  |j+3,h=>simp[kis]at h
theorem UN{k k':Kd}{xs ys:List V}(h1:(kis k).length=xs.length)(h2:(kis k').length=ys.length):CV (λj=>decide ((kis k)[j]? =(kis k')[j]?)) xs ys=decide (k=k'):=by
 unfold CV;rw[<-h1,<-h2,Bool.eq_iff_iff];simp only[Bool.and_eq_true,all_eq_true,mem_range,decide_eq_true_eq,beq_iff_eq];constructor
 ·intro⟨h,hl⟩;refine auZ (List.ext_getElem? λj=> ?_);by_cases hj:j<(kis k).length
  ·exact h j (by omega)
  ·rw[List.getElem?_eq_none (by omega),List.getElem?_eq_none (by omega)]
 ·intro h;subst h;simp
theorem NC{K:FZ}{H:Hp}{n:Nat}{k k':Kd}{x y:V}(ih:∀ {k k':Kd} {x y:V},dk k<=n->KA H k x->KA H k' y->EqB K H n x y (decide (k=k')))(hd:dk k<=n+1)(h:KA H k x)(h':KA H k' y):
  ∃a b xs ys e,x=.ref a/\y=.ref b/\SqT K H a xs/\SqT K H b ys/\(∀(j:Nat) u v,xs[j]? =some u->ys[j]? =some v->EqB K H n u v (e j))/\CV e xs ys=decide (k=k'):=by
 obtain⟨p,us,rfl,hp,hu⟩:=h.its;obtain⟨q,ws,rfl,hq,hw⟩:=h'.its;refine⟨p,q,us,ws,_,rfl,rfl,SqT.of hp,SqT.of hq,λj u v eu ev=> ?_,UN hu.len hw.len⟩;obtain⟨a,ha,ra⟩:=hu.get eu;obtain⟨b,hb,rb⟩:=hw.get ev;rcases OS ha with⟨rfl,x,rfl⟩|⟨hj,k1,rfl,hk1⟩
 ·rcases OS hb with⟨_,y,rfl⟩|⟨hj,_⟩
  ·cases(ra:u=_);cases(rb:v=_);rw[ha,hb,show decide (some (Sum.inl x:Str⊕Kd)=some (Sum.inl y))=(x==y) by rw[Bool.eq_iff_iff];simp];exact .str
  ·exact absurd rfl hj
 ·rcases OS hb with⟨hj0,_⟩|⟨_,k2,rfl,_⟩
  ·exact absurd hj0 hj
  ·rw[ha,hb,show decide (some (Sum.inr k1:Str⊕Kd)=some (Sum.inr k2))=decide (k1=k2) by rw[Bool.eq_iff_iff];simp];exact ih (by omega) ra rb
theorem QJ{K:FZ}{H:Hp}:∀ {n:Nat} {k k':Kd} {x y:V},dk k<=n->KA H k x->KA H k' y->EqB K H n x y (decide (k=k'))
 |0,k,_,_,_,h,_,_=>absurd h (by have:=MJ k;omega)
 |n+1,k,k',_,_,hd,h,h'=>by
  obtain⟨a,b,xs,ys,e,rfl,rfl,ha,hb,he,h9⟩:=NC (K:=K) (n:=n) (λhd h h'=>QJ hd h h') hd h h';rw[<-h9];exact .tup ha hb he
theorem CC{K:FZ}{H:Hp}{k k':Kd}{x y:V}{Q:VK}(h:KA H k x)(h':KA H k' y)(hd:dk k<=51)(q:Q (.bl (decide (k=k'))) H):cmZ K x y H Q:=by
 obtain⟨a,b,xs,ys,e,rfl,rfl,ha,hb,he,h9⟩:=NC (K:=K) (n:=50) (λhd h h'=>QJ hd h h') hd h h';exact⟨a,b,xs,ys,50,e,rfl,rfl,ha,hb,Nat.le_refl _,he,by rw[h9];exact q⟩
noncomputable def Kl(l:Addr)(H H':Hp):Prop:=∀b o,H b=some o->b≠l->H' b=some o
theorem Kl.refl(l:Addr)(H:Hp):Kl l H H:=λ_ _ h _=>h
theorem Kl.trans{l:Addr}{H H1 H2:Hp}(a:Kl l H H1)(b:Kl l H1 H2):Kl l H H2:=λc o h n=>b c o (a c o h n) n
theorem Kl.of{l:Addr}{H H':Hp}(h:Same H H'):Kl l H H':=λb o q _=>h b o q
theorem Kl.upd{l:Addr}{H:Hp}(o:HO):Kl l H (upd H l o):=λb u q n=>by rw[C4 n];exact q
theorem Kl.tups{l:Addr}{H H':Hp}{xs:List V}(k:Kl l H H')(h:H l=some (.lst xs)):Mo H H':=λb ys e=>k b _ e (W2 e h (by intro z;cases z))
structure DA (H:Hp) (m:Nat) (g:Cx) (d:Addr) (kvs:List (Key×V)) (ns:List Str):Prop where
 at_:H d=some (.dK kvs)
 keys:kvs.map (·.1)=ns.map Sum.inr
 len:ns.length<=m
 val:∀z v,T8 kvs (.inr z)=some v->∃k,g z=some k/\KA H k v/\dk k<=8
inductive DAt (H:Hp) (m:Nat) (g:Cx) (d:Addr):Prop
 |mk:∀kvs ns,(DA H m g d kvs ns)->DAt H m g d
theorem DAt.kl{l:Addr}{H H':Hp}{xs:List V}{m:Nat}{g:Cx}{d:Addr}(k:Kl l H H')(hl:H l=some (.lst xs))(h:DAt H m g d):DAt H' m g d:=by
 obtain⟨kvs,ns,a,b,c,e⟩:=h;refine⟨kvs,ns,k _ _ a (W2 a hl (by intro z;cases z)),b,c,λz v hv=> ?_⟩;obtain⟨q,q1,q2,q3⟩:=e z v hv;exact⟨q,q1,q2.mono (k.tups hl),q3⟩
structure GS (H:Hp) (c l:Addr) (ns:List Int) (a sh ms:Int):Prop where
 cs:H c=some (.lst (ns.map V.int))
 sp:H l=some (.lst [.int a,.int sh,.int ms])
 ne:c≠l
 a0:0<=a
 nl:ns.length<=63
theorem GS.kl{H H':Hp}{c l:Addr}{ns:List Int}{a a' sh ms:Int}(g:GS H c l ns a sh ms)(k:Kl l H H')(e:H' l=some (.lst [.int a',.int sh,.int ms]))(h:a<=a'):GS H' c l ns a' sh ms:=⟨k _ _ g.cs g.ne,e,g.ne,Int.le_trans g.a0 h,g.nl⟩
theorem GS.same{H H':Hp}{c l:Addr}{ns:List Int}{a sh ms:Int}(g:GS H c l ns a sh ms)(k:Same H H'):GS H' c l ns a sh ms:=⟨k _ _ g.cs,k _ _ g.sp,g.ne,g.a0,g.nl⟩
end RG
namespace RG
open PySem L2 BV
seal PE PT PW PA PS PSs PTs PI L2.PG PGs PO
noncomputable abbrev Z8:Stmt:=BV.top 36
noncomputable abbrev EC:Stmt:=BV.top 39
noncomputable abbrev BA:Stmt:=BV.top 40
noncomputable abbrev EK:Stmt:=BV.top 41
noncomputable abbrev JR:List Str:=["_law_script","_law_k"]
theorem sc_law_cell_at:FnScope JR IN (B3 Z8):=fS
noncomputable abbrev QQ:List Str:=["_law_cells","_law_spot","_law_base"]
theorem sc_law_cell:FnScope QQ ET (B3 EC):=fS
noncomputable abbrev QI:List Str:=["_law_names_here","_law_name_here","_law_kind_here","_law_made"]
theorem sc_law_with:FnScope QI BB (B3 BA):=fS
noncomputable abbrev PU:List Str:=["_law_cell_here","_law_number","_law_some_here"]
theorem sc_law_kind:FnScope PU q5L (B3 EK):=fS
structure NoL (mg:Str->Option Value):Prop where
 len_:mg "len"=none
 int_:mg "int"=none
 range_:mg "range"=none
 dict_:mg "dict"=none
 sorted_:mg "sorted"=none
 tuple_:mg "tuple"=none
 list_:mg "list"=none
 zip_:mg "zip"=none
 set_:mg "set"=none
 isinstance_:mg "isinstance"=none
 bool_:mg "bool"=none
 all_:mg "all"=none
 abs_:mg "abs"=none
 str_:mg "str"=none
noncomputable def F3(ns:List Int)(k:Int):Int:=(ns[k.toNat]?).getD 0
theorem lg{b:Int}(h0:0<b)(h1:b<2^60):b≠0/\b.natAbs.log2<9000:=⟨by omega,by
 have:b.natAbs≠0:=by omega
 have:=(Nat.log2_lt this).mpr (show b.natAbs<2^60 by omega);omega⟩
theorem ml{a b:Int}(h: -(2^63)<a/\a<2^63):IntMulOk a b:=IntMulOk.of_left (intBits_le_64 (by omega) (by omega))
theorem mr{a b:Int}(h: -(2^63)<b/\b<2^63):IntMulOk a b:=IntMulOk.of_right (intBits_le_64 (by omega) (by omega))
theorem bBZ{ns:List Int}(x:Int)(h:(0:Int)<((ns.map V.int).length:Nat)):∃y,atI (ns.map V.int) (x%((ns.map V.int).length:Nat))=some (.int y):=by
 have h1:=Int.emod_nonneg x (Int.ne_of_gt h);have h2:=Int.emod_lt_of_pos x h;generalize x%((ns.map V.int).length:Nat)=j at h1 h2;have h3:j.toNat<ns.length:=by rw[length_map]at h2;omega
 have e:atI (ns.map V.int) ((j.toNat:Nat):Int)=some (.int ns[j.toNat]):=J0 (by rw[getElem?_map,List.getElem?_eq_getElem h3];rfl);rw[show((j.toNat:Nat):Int)=j by omega]at e;exact⟨_,e⟩
section
variable{P:Program}{w:World}{K:FZ}{mg:Str->Option Value}{base:Heap}{f:Addr}{fd:FuncData}
inductive spCellVW(K:FZ)(vs:List V)(H:Hp)(Q:VK):Prop
 |mk:∀(a:Addr) (ns:List Int) (k:Int),(vs=[.ref a,.int k])->(SqL K H a (ns.map V.int))->(0<=k)->(Q (.int (F3 ns k)) H)->spCellVW K vs H Q
noncomputable def Z1(K:FZ):Sp:=λvs H Q _=>spCellVW K vs H Q
theorem ok_law_cell_at(F:Fun K "_law_cell_at" "_law_cell_at" Z8 f fd)(B:NoL mg):FnOk P w K mg base CX0 1 f fd IN (Z1 K):=by
 refine F.ok sc_law_cell_at (λvs H Q E h=> ?_) (λcdv A outer s H vs Q E hr h=> ?_)
 ·obtain⟨a,ns,k,rfl,_⟩:=h;rfl
 obtain⟨a,ns,k,rfl,hS,hk,q⟩:=h;have nd:=sc_law_cell_at.nd;refine⟨_,(A6 (B8 (B0 IM (pv 1) (kL K B.len_ (pv 0)) rfl) (A8 (B5 (ixE K w (pv 0) (pv 1)))) B6)
   (A8 (B5 A3))), ?_⟩
 refine⟨_,rfl,_,rfl,_,_,rfl,.inl ⟨_,hS,rfl⟩,_,_,rfl,rfl,_,rfl,K6 (λc=> ?_) (λc=> ?_)⟩
 ·have c':k<((ns.map V.int).length:Nat):=of_decide_eq_true c;rw[length_map]at c';have hk':k.toNat<ns.length:=by omega
  have ev:F3 ns k=ns[k.toNat]:=by unfold F3;rw[List.getElem?_eq_getElem hk'];rfl
  have e:atI (ns.map V.int) ((k.toNat:Nat):Int)=some (.int ns[k.toNat]):=J0 (by rw[getElem?_map,List.getElem?_eq_getElem hk'];rfl);have ek:((k.toNat:Nat):Int)=k:=by omega
  rw[ek]at e;rw[ev]at q;exact⟨_,rfl,_,rfl,.inl ⟨_,_,_,_,rfl,rfl,hS,e,q⟩⟩
 ·have c':¬k<((ns.map V.int).length:Nat):=λz=>c (decide_eq_true z);rw[length_map]at c';have ev:F3 ns k=0:=by unfold F3;rw[List.getElem?_eq_none (by omega)];rfl
  rw[ev]at q;exact q
inductive spCellW (vs:List V) (H:Hp) (Q:VK):Prop
 |mk:∀(c l:Addr) (ns:List Int) (a sh ms:Int),(vs=[.ref c,.ref l])->(GS H c l ns a sh ms)->(a<2^50)->(∀(x:Int) H',0<=x->x<1000003->Kl l H H'->H' l=some (.lst [.int (a+1),.int sh,.int ms])->Q (.int x) H')->spCellW vs H Q
noncomputable def EJ:Sp:=λvs H Q _=>spCellW vs H Q
theorem ok_law_cell(F:Fun K "_law_cell" "_law_cell" EC f fd)(B:NoL mg):FnOk P w K mg base CX0 1 f fd ET EJ:=by
 refine F.ok sc_law_cell (λvs H Q E h=> ?_) (λcdv A outer s H vs Q E hr h=> ?_)
 ·obtain⟨c,l,ns,a,sh,ms,rfl,_⟩:=h;rfl
 obtain⟨c,l,ns,a,sh,ms,rfl,hG,ha,q⟩:=h;have nd:=sc_law_cell.nd;have a0:=hG.a0;refine⟨_,(A6 (CU (B4 P7 (ixE K w (pv 1) A3) A3) (BZ (pv 1) A3 AF))
   (A6 (sS 2 nd (B4 Q5 (ixE K w (pv 1) A3) A3))
   (A6 (E6 (B8 (B0 Y4 (kL K B.len_ (pv 0)) A3 rfl) (A8 (sS 2 nd (B4 P7 (pv 2) (B4 Q5 (ixE K w (pv 0) (B4 C5 (ixE K w (pv 1) A3) (kL K B.len_ (pv 0)))) (B4 P7 A3 (B4 B9 (ixE K w (pv 1) A3) (kL K B.len_ (pv 0)))))))) B6))
   (A8 (B5 (B4 C5 (B4 Q5 (pv 2) A3) A3)))))), ?_⟩
 refine⟨_,rfl,(ixL hG.sp rfl (.inl ⟨_,_,rfl,rfl,_,rfl,l,_,0,0,rfl,rfl,hG.sp,rfl, ?_⟩))⟩;have s1:Kl l H (upd H l (.lst [.int (a+1),.int sh,.int ms])):=Kl.upd _;have hc1:=s1 _ _ hG.cs hG.ne;have hl1:(upd H l (.lst [.int (a+1),.int sh,.int ms])) l=some (.lst [.int (a+1),.int sh,.int ms]):=A1;show P9 _ _ _ _ (upd H l (.lst [.int (a+1),.int sh,.int ms]));generalize upd H l (.lst [.int (a+1),.int sh,.int ms])=H1 at s1 hc1 hl1⊢;refine⟨_,rfl,(ixL hl1 rfl ⟨_,_,rfl,rfl,mr ⟨by decide,by decide⟩, ?_⟩)⟩;refine⟨fun σ' H'=>∃b:Int,σ'=[some (.ref c),some (.ref l),some (.int b)]/\H1=H', ?_, ?_⟩
 ·refine⟨_,rfl,_,_,rfl,.inl ⟨_,SqL.of hc1,rfl⟩,_,_,rfl,rfl,_,rfl,K6 (λe=> ?_) (λe=>⟨_,rfl,rfl⟩)⟩;have e':(0:Int)<((ns.map V.int).length:Nat):=of_decide_eq_true e;obtain⟨y,hy⟩:=bBZ (a+1) e';have hb:((ns.map V.int).length:Int)<2^60:=by rw[length_map];have:=hG.nl;omega
  have hq: -(2^63)<1+(a+1).fdiv ((ns.map V.int).length:Nat)/\1+(a+1).fdiv ((ns.map V.int).length:Nat)<2^63:=by
   have h1:=Int.fdiv_eq_ediv_of_nonneg (a+1) (Int.le_of_lt e');have h2:0<=(a+1)/((ns.map V.int).length:Nat):=Int.ediv_nonneg (by omega) (Int.le_of_lt e');have h3:(a+1)/((ns.map V.int).length:Nat)<=a+1:=Int.ediv_le_self _ (by omega);omega
  exact⟨_,rfl,_,rfl,_,rfl,(ixL hl1 rfl ⟨_,rfl,_,_,rfl,.inl ⟨_,SqL.of hc1,rfl⟩,_,_,rfl,rfl,e',(ixL hc1 hy ⟨_,rfl,(ixL hl1 rfl ⟨_,rfl,_,_,rfl,.inl ⟨_,SqL.of hc1,rfl⟩,_,_,rfl,rfl,lg e' hb,.inl ⟨_,_,rfl,rfl,_,_,rfl,rfl,mr hq,.inl ⟨_,_,rfl,rfl,_,rfl,rfl⟩⟩⟩)⟩)⟩)⟩
 rintro _ _ ⟨b,rfl,rfl⟩;have g1:=Int.emod_nonneg (b*48271) (by decide:(1000003:Int)≠0);have g2:=Int.emod_lt_of_pos (b*48271) (by decide:(0:Int)<1000003);exact⟨_,rfl,_,_,rfl,rfl,mr ⟨by decide,by decide⟩,_,_,rfl,rfl,(by decide:(0:Int)<1000003),q _ _ g1 g2 s1 hl1⟩
inductive spWithW (vs:List V) (H:Hp) (Q:VK):Prop
 |mk:∀(d:Addr) (m:Nat) (g:Cx) (z:Str) (k:Kd) (kv:V),(vs=[.ref d,.str z,kv])->(DAt H m g d)->(m<=1000)->(KA H k kv)->(dk k<=8)->(∀(r:Addr) H',Same H H'->DAt H' (m+1) (up g z k) r->Q (.ref r) H')->spWithW vs H Q
noncomputable def CF:Sp:=λvs H Q _=>spWithW vs H Q
theorem NS(kvs:List (Key×V))(ns:List Str)(z:Str)(v:V)(h:kvs.map (·.1)=ns.map Sum.inr):∃ns':List Str,(R5 kvs (.inr z) v).map (·.1)=ns'.map Sum.inr/\ns'.length<=ns.length+1:=by
 unfold R5;split
 ·refine⟨ns, ?_,le_succ _⟩;rw[map_map,<-h];apply List.map_congr_left;intro p _;show(if p.1=Sum.inr z then(p.1,v)else p).1=p.1;split<;>rfl
 ·exact⟨ns++ [z],by simp[h],by simp⟩
theorem ok_law_with(F:Fun K "_law_with" "_law_with" BA f fd)(B:NoL mg):FnOk P w K mg base CX0 1 f fd BB CF:=by
 refine F.ok sc_law_with (λvs H Q E h=> ?_) (λcdv A outer s H vs Q E hr h=> ?_)
 ·obtain⟨d,m,g,z,k,kv,rfl,_⟩:=h;rfl
 obtain⟨d,m,g,z,k,kv,rfl,⟨kvs,ns,hD⟩,hm,hk,hdk,q⟩:=h;have nd:=sc_law_with.nd;have zz:(2000:Nat)<=sizeLine:=by decide
 have hkl:kvs.length=ns.length:=by have:=congrArg List.length hD.keys;simpa using this
 have hnl:=hD.len;refine⟨_,(A6 (sS 3 nd (D6 LJ rfl B.dict_ HI (A0 (pv 0) A4)))
   (A6 (CU (pv 2) (BZ (pv 3) (pv 1) (MU hr.units)))
   (A8 (B5 (pv 3))))), ?_⟩
 refine⟨_,rfl,d,kvs,rfl,.inl hD.at_,λp hp=> ?_⟩;have s1:=A2 hp (.dK kvs);refine⟨_,rfl,_,rfl,_,rfl,p,_,rfl,DPut.k (k:=.inr z) A1 (by omega), ?_⟩;have e1:upd (upd H p (.dK kvs)) p (.dK (R5 kvs (.inr z) kv))=upd H p (.dK (R5 kvs (.inr z) kv)):=by
  funext b;unfold upd;split<;>rfl
 rw[e1];have s2:=A2 hp (.dK (R5 kvs (.inr z) kv));obtain⟨ns',h1,h2⟩:=NS kvs ns z kv hD.keys;refine⟨_,rfl,q p _ s2 ⟨_,ns',A1,h1,by omega,λy v hv=> ?_⟩⟩;rw[ID]at hv;by_cases c:y=z
 ·subst c;rw[if_pos rfl]at hv;cases hv;exact⟨k,by simp[up],hk.mono (A5 s2),hdk⟩
 ·rw[if_neg (by intro e;exact c (by injection e))]at hv;obtain⟨k',q1,q2,q3⟩:=hD.val y v hv;exact⟨k',by unfold up;rw[if_neg (λe=>c e.symm)];exact q1,q2.mono (A5 s2),q3⟩
inductive spKindW (vs:List V) (H:Hp) (Q:VK):Prop
 |mk:∀n:Int,(vs=[.int n])->(∀(k:Kd) (v:V) H',Same H H'->KA H' k v->dk k<=3->Q v H')->spKindW vs H Q
noncomputable def IX:Sp:=λvs H Q _=>spKindW vs H Q
theorem ok_law_kind(F:Fun K "_law_kind" "_law_kind" EK f fd):FnOk P w K mg base CX0 1 f fd q5L IX:=by
 refine F.ok sc_law_kind (λvs H Q E h=> ?_) (λcdv A outer s H vs Q E hr h=> ?_)
 ·obtain⟨n,rfl,_⟩:=h;rfl
 obtain⟨n,rfl,q⟩:=h;have nd:=sc_law_kind.nd;refine⟨_,(A6 (sS 1 nd (A9 (A0 A7 A4)))
   (A6 (sS 2 nd (E5 (A0 (pv 1) (A0 (pv 1) (A0 (A9 (A0 A7 A4)) (A0 (A9 (A0 A7 (A0 (pv 1) A4))) (A0 (A9 (A0 A7 (A0 (pv 1) (A0 (pv 1) A4)))) (A0 (A9 (A0 A7 (A0 (A9 (A0 A7 (A0 (pv 1) A4))) A4))) A4))))))))
   (A6 (sS 2 nd (B4 P7 (pv 2) (E5 (A0 (A9 (A0 A7 (A0 (pv 1) (A0 (A9 (A0 A7 (A0 (pv 1) A4))) A4)))) (A0 (A9 (A0 A7 (A0 (A9 (A0 A7 (A0 (pv 1) (A0 (pv 1) A4)))) A4))) (A0 (A9 (A0 A7 (A0 (A9 (A0 A7 A4)) (A0 (pv 1) A4)))) A4))))))
   (A8 (B5 (ixE K w (B4 P7 (pv 2) (E5 (A0 (A9 (A0 A7 (A0 (pv 1) (A0 (A9 (A0 A7 (A0 (pv 1) (A0 (pv 1) A4)))) A4)))) (A0 (A9 (A0 A7 (A0 (A9 (A0 A7 A4)) A4))) A4)))) (B4 C5 (pv 0) A3))))))), ?_⟩
 have z6:(6:Nat)<=sizeLine:=by decide
 have z9:(6+3:Nat)<=sizeLine:=by decide
 have z11:(9+2:Nat)<=sizeLine:=by decide
 refine⟨L8,λa0 h0=> ?_⟩;refine⟨_,rfl,_,rfl,L8,λa1 h1=>⟨_,rfl,D1,λa2 h2=>⟨_,rfl,_,rfl,D9,λa3 h3=>⟨_,rfl,D1,λa4 h4=>⟨D1,λa5 h5=>⟨z6,λl1 hl1=> ?_⟩⟩⟩⟩⟩⟩;have t0:=A2 h0 (.tup [.str "number"]);have t1:=A2 h1 (.tup [.str "truth"]);have t2:=A2 h2 (.tup [.str "list",.ref a0]);have t3:=A2 h3 (.tup [.str "fn",.ref a0,.ref a0]);have t4:=A2 h4 (.tup [.str "list",.ref a0]);have t5:=A2 h5 (.tup [.str "list",.ref a4]);have tl:=A2 hl1 (.lst [.ref a0,.ref a0,.ref a1,.ref a2,.ref a3,.ref a5]);have sA:Same H _:=t0.trans (t1.trans (t2.trans (t3.trans (t4.trans (t5.trans tl)))));have n0:=KA.num ((t1.trans (t2.trans (t3.trans (t4.trans (t5.trans tl))))) _ _ A1);have n1:=KA.tru ((t2.trans (t3.trans (t4.trans (t5.trans tl)))) _ _ A1);have n2:=KA.lst ((t3.trans (t4.trans (t5.trans tl))) _ _ A1) n0;have n3:=KA.fn ((t4.trans (t5.trans tl)) _ _ A1) n0 n0;have n4:=KA.lst ((t5.trans tl) _ _ A1) n0;have n5:=KA.lst (tl _ _ A1) n4;have hl:(upd _ l1 (.lst [.ref a0,.ref a0,.ref a1,.ref a2,.ref a3,.ref a5])) l1=some (.lst [.ref a0,.ref a0,.ref a1,.ref a2,.ref a3,.ref a5]):= @A1 (upd (upd (upd (upd (upd (upd H a0 (.tup [.str "number"])) a1 (.tup [.str "truth"])) a2 (.tup [.str "list",.ref a0])) a3 (.tup [.str "fn",.ref a0,.ref a0])) a4 (.tup [.str "list",.ref a0])) a5 (.tup [.str "list",.ref a4])) l1 _;show P9 _ _ _ [some (.int n),some (.ref a0),some (.ref l1)] (upd (upd (upd (upd (upd (upd (upd H a0 (.tup [.str "number"])) a1 (.tup [.str "truth"])) a2 (.tup [.str "list",.ref a0])) a3 (.tup [.str "fn",.ref a0,.ref a0])) a4 (.tup [.str "list",.ref a0])) a5 (.tup [.str "list",.ref a4])) l1 (.lst [.ref a0,.ref a0,.ref a1,.ref a2,.ref a3,.ref a5]));generalize upd (upd (upd (upd (upd (upd (upd H a0 (.tup [.str "number"])) a1 (.tup [.str "truth"])) a2 (.tup [.str "list",.ref a0])) a3 (.tup [.str "fn",.ref a0,.ref a0])) a4 (.tup [.str "list",.ref a0])) a5 (.tup [.str "list",.ref a4])) l1 (.lst [.ref a0,.ref a0,.ref a1,.ref a2,.ref a3,.ref a5])=H1 at sA n0 n1 n2 n3 n4 n5 hl⊢;clear t0 t1 t2 t3 t4 t5 tl h0 h1 h2 h3 h4 h5 hl1;refine⟨_,rfl,_,rfl,_,rfl,D1,λa6 h6=>⟨D9,λa7 h7=>⟨_,rfl,_,rfl,D9,λa8 h8=>⟨D1,λa9 h9=>⟨L8,λa10 h10=>⟨_,rfl,D9,λa11 h11=>⟨D9,λl2 hl2=> ?_⟩⟩⟩⟩⟩⟩⟩;have t6:=A2 h6 (.tup [.str "list",.ref a0]);have t7:=A2 h7 (.tup [.str "fn",.ref a0,.ref a6]);have t8:=A2 h8 (.tup [.str "fn",.ref a0,.ref a0]);have t9:=A2 h9 (.tup [.str "list",.ref a8]);have t10:=A2 h10 (.tup [.str "truth"]);have t11:=A2 h11 (.tup [.str "fn",.ref a10,.ref a0]);have tl:=A2 hl2 (.lst [.ref a7,.ref a9,.ref a11]);refine .inr (.inr ⟨l1,l2,_,_,rfl,rfl,(t6.trans (t7.trans (t8.trans (t9.trans (t10.trans (t11.trans tl)))))) _ _ hl,A1,z9,λl3 hl3=> ?_⟩);have tm:=A2 hl3 (.lst [.ref a0,.ref a0,.ref a1,.ref a2,.ref a3,.ref a5,.ref a7,.ref a9,.ref a11]);have e11:=t11.trans (tl.trans tm);have e10:=t10.trans e11;have e9:=t9.trans e10;have e8:=t8.trans e9;have e7:=t7.trans e8;have e6:=t6.trans e7;have sB:=sA.trans e6;have m0:=n0.mono (A5 e6);have m1:=n1.mono (A5 e6);have m2:=n2.mono (A5 e6);have m3:=n3.mono (A5 e6);have m5:=n5.mono (A5 e6);have m6:=KA.lst (e7 _ _ A1) m0;have m7:=KA.fn (e8 _ _ A1) m0 m6;have m8:=KA.fn (e9 _ _ A1) m0 m0;have m9:=KA.lst (e10 _ _ A1) m8;have m10:=KA.tru (e11 _ _ A1);have m11:=KA.fn ((tl.trans tm) _ _ A1) m10 m0;refine⟨_,rfl,_,rfl,_,rfl,_,rfl,D9,λa12 h12=>⟨D9,λa13 h13=>⟨L8,λa14 h14=>⟨D1,λa15 h15=>⟨D1,λl4 hl4=> ?_⟩⟩⟩⟩⟩;have t12:=A2 h12 (.tup [.str "fn",.ref a0,.ref a0]);have t13:=A2 h13 (.tup [.str "fn",.ref a0,.ref a12]);have t14:=A2 h14 (.tup [.str "truth"]);have t15:=A2 h15 (.tup [.str "list",.ref a14]);have t16:=A2 hl4 (.lst [.ref a13,.ref a15]);refine .inr (.inr ⟨l3,l4,_,_,rfl,rfl,(t12.trans (t13.trans (t14.trans (t15.trans t16)))) _ _ A1,A1,z11,λl5 hl5=> ?_⟩);have t17:=A2 hl5 (.lst [.ref a0,.ref a0,.ref a1,.ref a2,.ref a3,.ref a5,.ref a7,.ref a9,.ref a11,.ref a13,.ref a15]);have f15:=t15.trans (t16.trans t17);have f14:=t14.trans f15;have f13:=t13.trans f14;have f12:=t12.trans f13;have k0:=m0.mono (A5 f12);have k12:=KA.fn (f13 _ _ A1) k0 k0;have k13:=KA.fn (f14 _ _ A1) k0 k12;have k14:=KA.tru (f15 _ _ A1);have k15:=KA.lst ((t16.trans t17) _ _ A1) k14;refine⟨_,rfl,_,_,rfl,rfl,(by decide:(0:Int)<11), ?_⟩;have g1:=Int.emod_nonneg n (by decide:(11:Int)≠0);have g2:=Int.emod_lt_of_pos n (by decide:(0:Int)<11);obtain⟨j,(ej:n%11=(j:Int)),hj⟩:∃j:Nat,n%11=(j:Int)/\j<11:=⟨(n%11).toNat,by omega,by omega⟩;rw[ej];have sC:=sB.trans f12;have fin:∀ {HH:Hp},KA HH .num (.ref a0)->KA HH .tru (.ref a1)->KA HH (.lst .num) (.ref a2)->KA HH (.fn .num .num) (.ref a3)->KA HH (.lst (.lst .num)) (.ref a5)->KA HH (.fn .num (.lst .num)) (.ref a7)->KA HH (.lst (.fn .num .num)) (.ref a9)->KA HH (.fn .tru .num) (.ref a11)->KA HH (.fn .num (.fn .num .num)) (.ref a13)->KA HH (.lst .tru) (.ref a15)->∀v,[V.ref a0,.ref a0,.ref a1,.ref a2,.ref a3,.ref a5,.ref a7,.ref a9,.ref a11,.ref a13,.ref a15][j]? =some v->∃k,KA HH k v/\dk k<=3:=λ{HH} k0 k1 k2 k3 k5 k7 k9 k11 k13 k15 v hv=>by
  match j,hj,hv with
  |0,_,hv=>cases hv;exact⟨_,k0,by decide⟩
  |1,_,hv=>cases hv;exact⟨_,k0,by decide⟩
  |2,_,hv=>cases hv;exact⟨_,k1,by decide⟩
  |3,_,hv=>cases hv;exact⟨_,k2,by decide⟩
  |4,_,hv=>cases hv;exact⟨_,k3,by decide⟩
  |5,_,hv=>cases hv;exact⟨_,k5,by decide⟩
  |6,_,hv=>cases hv;exact⟨_,k7,by decide⟩
  |7,_,hv=>cases hv;exact⟨_,k9,by decide⟩
  |8,_,hv=>cases hv;exact⟨_,k11,by decide⟩
  |9,_,hv=>cases hv;exact⟨_,k13,by decide⟩
  |10,_,hv=>cases hv;exact⟨_,k15,by decide⟩
 have hat:([V.ref a0,.ref a0,.ref a1,.ref a2,.ref a3,.ref a5,.ref a7,.ref a9,.ref a11,.ref a13,.ref a15]:List V)[j]? =some (([V.ref a0,.ref a0,.ref a1,.ref a2,.ref a3,.ref a5,.ref a7,.ref a9,.ref a11,.ref a13,.ref a15]:List V)[j]'hj):=List.getElem?_eq_getElem hj;obtain⟨k,hk,hd⟩:=fin k0 (m1.mono (A5 f12)) (m2.mono (A5 f12)) (m3.mono (A5 f12)) (m5.mono (A5 f12)) (m7.mono (A5 f12)) (m9.mono (A5 f12)) (m11.mono (A5 f12)) k13 k15 _ hat;exact(ixL A1 (J0 hat) (q k _ _ sC hk hd))
end
noncomputable abbrev BG:Stmt:=BV.top 37
noncomputable abbrev W0:Stmt:=BV.top 38
noncomputable abbrev IG:List Str:=["_law_k","_law_shift","_law_letters","_law_size","_law_step","_law_rest","_law_at"]
theorem sc_law_name:FnScope IG bGZ (B3 BG):=fS
noncomputable abbrev CQ:List Str:=["_law_shift","_law_told","_law_found"]
theorem sc_law_names:FnScope CQ EV (B3 W0):=fS
theorem XO(ds:List Nat):Txt.join (Str.ofString "") (ds.map λd=>tx [d])=tx ds:=by
 have e:=eq_of_beq (PyProof.Rows.join_plain_closes (Str.ofString "") (ds.map λd=>tx [d]));rw[e];have e0:Str.ofString ""=tx []:=by decide +kernel
 rw[e0];induction ds with
 |nil=>rfl
 |cons d r ih=>
  cases r with
  |nil=>rfl
  |cons d2 r2=>
   show(tx [d]++tx [])++Str.join (tx []) ((d2::r2).map λd=>tx [d])=_;rw[ih (by
    have:=eq_of_beq (PyProof.Rows.join_plain_closes (Str.ofString "") ((d2::r2).map λd=>tx [d]));exact this),XV,XV]
   rfl
noncomputable def abc:List Nat:=[97,98,99,100,101,102,103,104,105,106,107,108,109,110,111,112,113,114,115,116,117,118,119,120,121,122]
theorem XI:Str.ofString "abcdefghijklmnopqrstuvwxyz"=tx abc:=by decide +kernel
theorem WK(x:Int):∃c,atI (tx abc).cps.toList (x%26)=some c/\c≠48:=by
 have h0:=Int.emod_nonneg x (show(26:Int)≠0 by decide);have h1:=Int.emod_lt_of_pos x (show(0:Int)<26 by decide);have h3:(x%26).toNat<abc.length:=by show _<26;omega
 have e:atI abc (((x%26).toNat:Nat):Int)=some abc[(x%26).toNat]:=J0 (List.getElem?_eq_getElem h3);rw[show(((x%26).toNat:Nat):Int)=x%26 by omega]at e;refine⟨_,e,λz=> ?_⟩;have:=getElem_mem h3;rw[z]at this
 revert this
 decide
noncomputable abbrev Z7(l:List Nat):List V:=l.map λd=>V.str (tx [d])
theorem WX(l:List Nat):Z7 l=(l.map λd=>tx [d]).map V.str:=by rw[map_map];rfl
theorem XE(l:List Nat)(j d:Nat):(Z7 l).set j (.str (tx [d]))=Z7 (l.set j d):=by rw[Z7,Z7,List.map_set]
theorem RX:(tx abc).length<=sizeLine:=by rw[WZ];decide
theorem NJ{ds:List Nat}{n:Int}(h:0<=n):R1 (Z7 ds) none (some n)=Z7 (ds.take n.toNat):=by
 have e:=PV (Z7 ds) n.toNat;have en:((n.toNat:Nat):Int)=n:=by omega
 rw[en]at e;rw[e,Z7,Z7,List.map_take]
theorem aCZ(l:List Nat):((l.map λd=>tx [d]).map (·.length)).sum=l.length:=by
 induction l with
 |nil=>rfl
 |cons d r ih=>simp only[map_cons,sum_cons,length_cons,WZ,ih];simp only[length_nil];omega
theorem UE(l:List Nat)(h:l.length<=100):((l.map λd=>tx [d]).map (·.length)).sum+(l.map λd=>tx [d]).length*(Str.ofString "").length<=sizeLine:=by
 have h2:(Str.ofString "").length=0:=by decide +kernel
 rw[aCZ,h2];exact Nat.le_trans (show l.length+0<=100 by omega) (by decide)
theorem YH{n:Nat}{i:Int}(h0:0<=i)(h:i<n):ixN n i=some i.toNat:=by
 unfold ixN;rw[if_pos h0,if_pos h]
noncomputable def Nz(z:Str):Prop:=∃ds:List Nat,z=tx ds/\∀d∈ds,d≠48
noncomputable def badQ:List Str:=["qa0","qb0","qc0","qd0","qe0","qf0","qg0","qh0","qi0"]
theorem aDZ:∀z∈badQ,¬Nz z:=λz hz ⟨ds,e,h⟩=>by
 have h1:∀z∈badQ,48∈z.cps.toList:=by decide +kernel
 have h2:=h1 z hz;rw[e]at h2;exact h 48 h2 rfl
section
variable{P:Program}{w:World}{K:FZ}{mg:Str->Option Value}{base:Heap}{f a6Z:Addr}{fd beZ:FuncData}
inductive spNameW(vs:List V)(H:Hp)(Q:VK):Prop
 |mk:∀(k:Nat) (sh:Int),(vs=[.int (k:Nat),.int sh])->(k<8)->(∀(z:Str) H',Same H H'->Nz z->Q (.str z) H')->spNameW vs H Q
noncomputable def VS:Sp:=λvs H Q _=>spNameW vs H Q
theorem ok_law_name(F:Fun K "_law_name" "_law_name" BG f fd)(B:NoL mg):FnOk P w K mg base CX0 1 f fd bGZ VS:=by
 refine F.ok sc_law_name (λvs H Q E h=> ?_) (λcdv A outer s H vs Q E hr h=> ?_)
 ·obtain⟨k,sh,rfl,_⟩:=h;rfl
 obtain⟨k,sh,rfl,hk,q⟩:=h;have nd:=sc_law_name.nd;have hu:=hr.units0;refine⟨_,(A6 (CO (i:=2) nd rfl (Or.inr rfl) A7)
   (A6 (sS 3 nd (B4 P7 A3 (B4 C5 (B4 B9 (pv 1) A3) A3)))
   (A6 (CO (i:=4) nd rfl (Or.inr rfl) (B4 Q5 (pv 0) (D6 N5 rfl B.int_ CJ (A0 (M9 (kEq (K:=K) hu) (B4 C5 (pv 1) A3) A3 rfl) A4))))
   (A6 (O6 (i:=5) nd rfl rfl (cS (N:=IG) (sc:=B3 BG) (caps:=[2,4,1]) (ns:=["_law_letters","_law_step","_law_shift"])) rfl rfl rfl (P6 rfl B.range_ (A0 A3 A4)) (λ_ _ _ _ _=>T4) (λ_ _ _ _ _=>(DG ix_str (pv 1) (B4 C5 (B4 P7 (B4 P7 (B4 B9 (pv 3) A3) (B4 Q5 A3 (pv 0))) (pv 2)) A3) (λ_ _=>rfl))))
   (A6 (B8 (B0 (kEq (K:=K) hu) (B4 C5 (pv 1) A3) A3 rfl) (A8 (B5 (acZ (K:=K) PySem.F.plainAttrs_str PySem.F.slot_str_join PySem.F.type_str_join (VX (K:=K)) A7 (A0 (D7 (kSl (K:=K)) (pv 5) J5 (E7 (B4 P7 A3 (B4 C5 (B4 P7 (B4 B9 (pv 1) A3) (pv 0)) A3)))) A4)))) B6)
   (A6 (sS 6 nd (B4 Q5 (B4 C5 (B4 B9 (pv 1) A3) (pv 3)) (D6 N5 rfl B.int_ CJ (A0 (M9 (kEq (K:=K) hu) (B4 C5 (pv 1) A3) A3 rfl) A4))))
   (A6 (CU (DG ix_str (pv 2) (B4 C5 (B4 P7 (B4 B9 (pv 1) A3) (pv 0)) A3) (λ_ _=>rfl)) (BZ (pv 5) (pv 6) AF))
   (A8 (B5 (acZ (K:=K) PySem.F.plainAttrs_str PySem.F.slot_str_join PySem.F.type_str_join (VX (K:=K)) A7 (A0 (D7 (kSl (K:=K)) (pv 5) J5 (E7 (pv 3))) A4))))))))))), ?_⟩
 have L3:(3:Int)≠0/\(3:Int).natAbs.log2<9000:=lg (by decide) (by decide);have L24:(24:Int)≠0/\(24:Int).natAbs.log2<9000:=lg (by decide) (by decide);refine⟨_,rfl,_,_,rfl,rfl,L3,_,_,rfl,rfl,(by decide:(0:Int)<8),.inl ⟨_,_,rfl,rfl, ?_⟩⟩;refine⟨_,rfl,_,rfl,_,_,rfl,rfl,(by decide:(0:Int)<4),.inl ⟨rfl,.inl ⟨_,rfl,_,_,rfl,rfl,ml ⟨by omega,by omega⟩, ?_⟩⟩⟩;generalize((k:Nat):Int)*(if decide (V.int (sh%4)=V.int 0)=true then 1 else 0)=st;refine⟨8,rfl,by decide,by decide,R4 (n:=8) (λi ys H'=>H=H'/\∃ds:List Nat,ys=Z7 ds/\ds.length=i/\∀d∈ds,d≠48) ⟨rfl,[],rfl,rfl,λd hd=>nomatch hd⟩ ?_ ?_ ?_⟩
 ·rintro i ys H' hi ⟨rfl,ds,rfl,hd,_⟩;rw[length_map,hd];exact Nat.le_trans hi (by decide)
 ·rintro i ys H' hi ⟨rfl,ds,rfl,hd,hds⟩;refine Y0 ?_;obtain⟨c,hc,hc0⟩:=WK (sh.fdiv 7+5*(0+((i:Nat):Int))+st);exact⟨_,rfl,_,rfl,_,_,rfl,rfl,lg (by decide) (by decide),_,rfl,_,_,rfl,rfl,ml ⟨by decide,by decide⟩,.inl ⟨_,_,rfl,rfl,_,rfl,.inl ⟨_,_,rfl,rfl,_,_,rfl,rfl,(by decide:(0:Int)<26),tx abc,_,c,congrArg V.str XI,rfl,RX,hc,rfl,ds++ [c],by rw[Z7,Z7,map_append];rfl,by rw[length_append,hd];rfl,λd h9=>by
   rcases mem_append.mp h9 with h9|h9
   ·exact hds d h9
   ·rw[sZ h9];exact hc0⟩⟩⟩
 ·rintro ys H' ⟨rfl,ds,rfl,hd,hds⟩ l hl;have s1:=A2 hl (.lst (Z7 ds));have fin:∀ {HH:Hp} {p:Addr} {dd:List Nat},dd.length<=100->(∀d∈dd,d≠48)->HH p=some (.lst (Z7 dd))->(∀HH',Same HH HH'->∀z,Nz z->Q (.str z) HH')->WM K (.str "") [.ref p] HH Q:=λ{HH p dd} hl h48 hp qq=>⟨"",p,_,rfl,rfl,.inl (SqL.of (by rw[hp,WX])),UE _ hl,by rw[XO];exact qq _ (Same.refl _) _ ⟨dd,rfl,h48⟩⟩;refine⟨_,rfl,_,_,rfl,rfl,(by decide:(0:Int)<4),.inl ⟨rfl,_,rfl,K6 (λe=> ?_) (λe=> ?_)⟩⟩
  ·have g1:=Int.emod_nonneg (sh.fdiv 24+((k:Nat):Int)) (by decide:(8:Int)≠0);refine⟨rfl,_,rfl,_,rfl,_,_,rfl,rfl,L24,_,rfl,.inl ⟨_,_,rfl,rfl,_,_,rfl,rfl,(by decide:(0:Int)<8),.inl ⟨_,_,rfl,rfl,_,rfl,.inl ⟨l,_,rfl,SqL.of A1,λp hp=> ?_⟩⟩⟩⟩;have s2:=A2 hp (.lst (R1 (Z7 ds) none (some (1+(sh.fdiv 24+((k:Nat):Int))%8))));refine fin (dd:=ds.take (1+(sh.fdiv 24+((k:Nat):Int))%8).toNat) (by rw[length_take,hd];omega) (λd h9=>hds d (List.mem_of_mem_take h9)) (by rw[A1,NJ (by omega)]) λHH' sm z=>q z _ (s1.trans (s2.trans sm))
  ·have g1:=Int.emod_nonneg (sh.fdiv 3) (by decide:(8:Int)≠0);have g2:=Int.emod_lt_of_pos (sh.fdiv 3) (by decide:(0:Int)<8);have gs:(0:Int)<1+sh.fdiv 3%8:=by omega
   have gs8:1+sh.fdiv 3%8<=8:=by omega
   generalize 1+sh.fdiv 3%8=sz at gs gs8⊢;have h1:=Int.emod_nonneg (sh.fdiv 24) (Int.ne_of_gt gs);have h2:=Int.emod_lt_of_pos (sh.fdiv 24) gs;refine⟨_,rfl,_,_,rfl,rfl,L24,_,rfl,_,_,rfl,rfl,gs,_,rfl,_,_,rfl,rfl,(by decide:(0:Int)<4),.inl ⟨rfl,.inl ⟨_,rfl,_,_,rfl,rfl,ml ⟨by omega,by omega⟩, ?_⟩⟩⟩;have ha:0<=sh.fdiv 24%sz*(if decide (V.int (sh%4)=V.int 1)=true then 1 else 0)/\sh.fdiv 24%sz*(if decide (V.int (sh%4)=V.int 1)=true then 1 else 0)<sz:=by
    split<;>omega
   generalize sh.fdiv 24%sz*(if decide (V.int (sh%4)=V.int 1)=true then 1 else 0)=a at ha⊢;obtain⟨c,hc,hc0⟩:=WK (sh.fdiv 11+((k:Nat):Int));refine⟨_,rfl,_,rfl,_,_,rfl,rfl,lg (by decide) (by decide),_,rfl,.inl ⟨_,_,rfl,rfl,_,_,rfl,rfl,(by decide:(0:Int)<26),tx abc,_,c,congrArg V.str XI,rfl,RX,hc,_,rfl,_,rfl,l,_,a,a.toNat,rfl,rfl,A1,YH ha.1 (by rw[length_map,hd];omega), ?_⟩⟩;have e2:upd (upd H l (.lst (Z7 ds))) l (.lst ((Z7 ds).set a.toNat (V.str ⟨#[c]⟩)))=upd H l (.lst (Z7 (ds.set a.toNat c))):=by
    rw[show(V.str ⟨#[c]⟩:V)=V.str (tx [c])from rfl,XE];funext b;unfold upd;split<;>rfl
   rw[e2];have s3:=A2 hl (.lst (Z7 (ds.set a.toNat c)));refine⟨rfl,_,rfl,_,rfl,_,rfl,.inl ⟨l,_,rfl,SqL.of A1,λp hp=> ?_⟩⟩;have s4:=A2 hp (.lst (R1 (Z7 (ds.set a.toNat c)) none (some sz)));refine fin (dd:=(ds.set a.toNat c).take sz.toNat) (by rw[length_take,List.length_set,hd];omega) (λd h9=>by
    rcases List.mem_or_eq_of_mem_set (List.mem_of_mem_take h9)with h9|h9
    ·exact hds d h9
    ·rw[h9];exact hc0) (by rw[A1,NJ (by omega)]) λHH' sm z=>q z _ (s3.trans (s4.trans sm))
theorem GI:∀(xs D:List Str),(xs.foldl dd D).length<=D.length+xs.length
 | [],D=>by simp
 |x::xs,D=>by
  rw[List.foldl_cons];have:=GI xs (dd D x);have h2:(dd D x).length<=D.length+1:=by unfold dd;split<;>simp
  simp only[length_cons];omega
theorem GV:∀(xs D:List Str),D.Nodup->(xs.foldl dd D).length=D.length+xs.length->(D++xs).Nodup
 | [],D,h,_=>by simpa using h
 |x::xs,D,h,e=>by
  rw[List.foldl_cons]at e;by_cases c:x∈D
  ·have:=GI xs (dd D x);have h2:dd D x=D:=by unfold dd;rw[if_pos c]
   rw[h2]at this e;simp only[length_cons]at e;omega
  ·have h2:dd D x=D++ [x]:=by unfold dd;rw[if_neg c]
   rw[h2]at e;have:=GV xs (D++ [x]) (List.nodup_append.mpr ⟨h,by simp,λa ha b hb e=>c (by rw[sZ hb]at e;exact e▸ha)⟩) (by rw[e];simp only[length_append,length_cons,length_nil];omega);rw[List.append_assoc]at this;exact this
noncomputable def told:List Str:=["def","if","then","else","let","in","fn","yes","no","head","tail","empty","not","main"]
noncomputable def NmsAt(H:Hp)(l:Addr)(ss:List Str):Prop:=H l=some (.lst (ss.map V.str))/\ss.length=8/\ss.Nodup/\∀z∈("main":Str)::badQ,z∉ss
inductive spNamesW (vs:List V) (H:Hp) (Q:VK):Prop
 |mk:∀sh:Int,(vs=[.int sh])->(∀(l:Addr) (ss:List Str) H',Same H H'->NmsAt H' l ss->Q (.ref l) H')->spNamesW vs H Q
noncomputable def BI:Sp:=λvs H Q _=>spNamesW vs H Q
theorem ok_law_names(F:Fun K "_law_names" "_law_names" W0 f fd)(B:NoL mg)
  (DU:Cn P w K mg base CX0 1 "_law_name" bGZ VS):
  FnOk P w K mg base CX0 2 f fd EV BI:=by
 refine F.ok sc_law_names (λvs H Q E h=> ?_) (λcdv A outer s H vs Q E hr h=> ?_)
 ·obtain⟨sh,rfl,_⟩:=h;rfl
 obtain⟨sh,rfl,q⟩:=h;have nd:=sc_law_names.nd;have hu:=hr.units0;refine⟨_,(A6 (CO (i:=1) nd rfl (Or.inr rfl) (E5 (SG rfl)))
   (A6 (O6 (i:=2) nd rfl rfl (cS (N:=CQ) (sc:=B3 W0) (caps:=[0]) (ns:=EV)) rfl rfl rfl (P6 rfl B.range_ (A0 A3 A4)) (λ_ _ _ _ _=>T4) (λ_ _ _ _ _=>(cC DU hr (A0 (pv 0) (A0 (pv 1) A4)))))
   (A6 (E6 (B8 (PW.pt (BX (B0 IM (TF (K:=K) rfl B.set_ rfl B.len_ rfl (A0 (pv 2) A4)) A3 rfl) (CG (B0 Y4 (kL K B.len_ (Y6 (cS (N:=CQ) (sc:=B3 W0) (caps:=[1]) (ns:=["_law_told"])) rfl rfl rfl (V7 (K:=K) (pv 2)) (λ_ _ _ _ _=>(Y5 (B0 (kIn (K:=K) (w:=w)) (pv 0) (pv 1) rfl))) (λ_ _ _ _ _=>(pv 0)))) A3 rfl)))) (A8 (B5 (E5 (A0 A7 (A0 A7 (A0 A7 (A0 A7 (A0 A7 (A0 A7 (A0 A7 (A0 A7 A4))))))))))) B6))
   (A8 (B5 (pv 2)))))), ?_⟩
 refine⟨by decide,λt ht=> ?_⟩;have s0:=A2 ht (.lst (told.map V.str));refine⟨8,rfl,by decide,by decide,R4 (n:=8) (λi ys H'=>Same (upd H t (.lst (told.map V.str))) H'/\∃ss:List Str,ys=ss.map V.str/\ss.length=i/\∀z∈ss,Nz z) ⟨Same.refl _,[],rfl,rfl,λz hz=>nomatch hz⟩ ?_ ?_ ?_⟩
 ·rintro i ys H' hi ⟨_,ss,rfl,hd,_⟩;rw[length_map,hd];exact Nat.le_trans hi (by decide)
 ·rintro i ys H' hi ⟨sm,ss,rfl,hd,hz9⟩;refine Y0 ?_;exact⟨_,rfl,_,rfl,i,sh,congrArg (λz=> [V.int z,V.int sh]) (Int.zero_add _),hi,λz H2 s2 nz=>⟨sm.trans s2,ss++ [z],by rw[map_append];rfl,by rw[length_append,hd];rfl,λy hy=>by
   rcases mem_append.mp hy with hy|hy
   ·exact hz9 y hy
   ·rw[sZ hy];exact nz⟩⟩
 rintro ys H1 ⟨sm,ss,rfl,hd,hz9⟩ l hl;have s1:=A2 hl (.lst (ss.map V.str));have ht1:=(sm.trans s1) _ _ (show(upd H t (.lst (told.map V.str))) t=some (.lst (told.map V.str))from A1);have hl1:(upd H1 l (.lst (ss.map V.str))) l=some (.lst (ss.map V.str)):=A1;have s01:=s0.trans (sm.trans s1);show P9 _ _ _ [some (.int sh),some (.ref t),some (.ref l)] (upd H1 l (.lst (ss.map V.str)));generalize upd H1 l (.lst (ss.map V.str))=H2 at ht1 hl1 s01⊢;refine⟨fun σ' H'=>σ'=[some (.int sh),some (.ref t),some (.ref l)]/\Same H2 H'/\ss.Nodup/\∀z∈("main":Str)::badQ,z∉ss, ?_, ?_⟩
 ·have other:∀H3,Same H2 H3->∀(D:Ends) (σ:St),D.rt=Q->cIZ (cAZ (W3 (tC (V.str (Str.ofString "a"))) (W3 (tC (V.str (Str.ofString "b"))) (W3 (tC (V.str (Str.ofString "c1"))) (W3 (tC (V.str (Str.ofString "c"))) (W3 (tC (V.str (Str.ofString "x"))) (W3 (tC (V.str (Str.ofString "ab"))) (W3 (tC (V.str (Str.ofString "if0"))) (W3 (tC (V.str (Str.ofString "y"))) OU))))))))) D σ H3:=λH3 s3 D σ hD=>by
   refine⟨by decide,λp hp=> ?_⟩;rw[hD];exact q p ["a","b","c1","c","x","ab","if0","y"] _ (s01.trans (s3.trans (A2 hp _))) ⟨A1,rfl,by decide +kernel,by decide +kernel⟩
  have zs:(8:Nat)<=1000:=by decide
  refine⟨_,rfl,l,ss,rfl,hl1,by omega,_,_,rfl,rfl,_,rfl,K6 (λc=>ifT rfl (other _ (Same.refl _) _ _ rfl)) (λc=> ?_)⟩;have c':¬(((ss.foldl dd []).length:Nat):Int)<8:=λz=>c (decide_eq_true z);have hle:=GI ss [];have hnd:ss.Nodup:=GV ss [] List.nodup_nil (by simp only[length_nil]at hle⊢;omega);refine⟨_,rfl,l,rfl,⟨_,SqL.of hl1⟩,U4 (xs:=ss.map V.str) (λi ys H'=>H2=H'/\ys.length<=i/\(ys=[]->∀j z,j<i->ss[j]? =some z->inV (.str z) (told.map V.str)=false)) ⟨rfl,Nat.le_refl _,λ_ j z hj=>absurd hj (Nat.not_lt_zero _)⟩ ?_ ?_ ?_⟩
  ·rintro i ys H' hi ⟨rfl,hy,_⟩;exact⟨SqL.of hl1,Nat.le_trans hy (Nat.le_trans hi (by rw[length_map,hd];decide))⟩
  ·rintro i x ys H' hx ⟨rfl,hy,hv⟩;obtain⟨z,hz,rfl⟩:∃z,ss[i]? =some z/\V.str z=x:=by
    rw[getElem?_map]at hx;exact map_eq_some_iff.mp hx
   refine⟨_,rfl,_,rfl,.inr (.inl ⟨t,_,rfl,.inl (SqL.of ht1),rfl,rfl,_,rfl,K6 (λc=> ?_) (λc=> ?_)⟩)⟩
   ·exact⟨_,rfl,rfl,by rw[length_append];simp only[length_cons,length_nil];omega,λe=>absurd e (by simp)⟩
   ·refine⟨rfl,by omega,λe j y hj hy'=> ?_⟩;by_cases ej:j=i
    ·subst ej;rw[hz]at hy';cases hy';exact Bool.eq_false_iff.mpr c
    ·exact hv e j y (by omega) hy'
  rintro ys H' ⟨rfl,hy,hv⟩ r hr0;have s4:=A2 hr0 (.lst ys);refine⟨_,_,rfl,.inl ⟨_,SqL.of A1,rfl⟩,_,_,rfl,rfl,_,rfl,K6 (λc=>other _ s4 _ _ rfl) (λc=>⟨rfl,s4,hnd,λz9 h9 hm=> ?_⟩)⟩;rcases cZ h9 with rfl|h9
  rotate_left
  ·exact aDZ z9 h9 (hz9 z9 hm)
  have c':¬(0:Int)<(ys.length:Nat):=λz=>c (decide_eq_true z);have ey:ys=[]:=List.eq_nil_of_length_eq_zero (by omega);obtain⟨j,hj⟩:=mem_iff_getElem?.mp hm;have:=hv ey j _ (by rw[length_map];exact(List.getElem?_eq_some_iff.mp hj).1) hj;exact absurd this (by decide +kernel)
 rintro _ H3 ⟨rfl,s3,hnd,hm⟩;exact⟨_,rfl,q l ss _ (s01.trans s3) ⟨s3 _ _ hl1,hd,hnd,hm⟩⟩
end
noncomputable abbrev U7:Stmt:=BV.top 42
noncomputable abbrev ED:List Str:=["_law_cells","_law_spot","_law_kind_here","_law_names_here","_law_cell_here","_law_fits","_law_raw","_law_many","_law_items","_law_found","_law_item","_law_name_here","_law_known","_law_first"]
theorem sc_law_leaf:FnScope ED JK (B3 U7):=fS
noncomputable def lc:Kd->Int
 | .num=>1
 | .tru=>1
 | .lst k=>1+2*lc k
 | .fn _ b=>1+2*lc b
theorem HV:∀k:Kd,1<=lc k
 | .num=>by decide
 | .tru=>by decide
 | .lst k=>by have:=HV k;show 1<=1+2*lc k;omega
 | .fn _ b=>by have:=HV b;show 1<=1+2*lc b;omega
theorem IF{kvs:List (Key×V)}{zs:List Str}(h:kvs.map (·.1)=zs.map Sum.inr){z:Str}(hz:z∈zs):∃v,T8 kvs (.inr z)=some v:=by
 have hm:(Sum.inr z:Key)∈kvs.map (·.1):=by rw[h];exact mem_map_of_mem hz
 obtain⟨p,hp,e⟩:=mem_map.mp hm;clear h;induction kvs with
 |nil=>cases hp
 |cons p0 r ih=>
  by_cases c:p0.1=Sum.inr z
  ·exact⟨_,O8 c⟩
  ·rw[O9 c];rcases cZ hp with rfl|hp
   ·exact absurd e c
   ·exact ih (mem_map.mpr ⟨p,hp,e⟩) hp
theorem afZ(x y z:V)(j:Int):∃v,atI [x,y,z] (j%3)=some v/\(v=x\/v=y\/v=z):=by
 have h1:=Int.emod_nonneg j (by decide:(3:Int)≠0);have h2:=Int.emod_lt_of_pos j (by decide:(0:Int)<3);have h:j%3=0\/j%3=1\/j%3=2:=by omega
 rcases h with h|h|h<;>rw[h]
 ·exact⟨_,rfl,.inl rfl⟩
 ·exact⟨_,rfl,.inr (.inl rfl)⟩
 ·exact⟨_,rfl,.inr (.inr rfl)⟩
theorem BH{ss:List Str}{j:Int}(h0:0<=j)(h:j<(ss.length:Nat)):∃z,atI (ss.map V.str) j=some (.str z)/\z∈ss:=by
 have h3:j.toNat<ss.length:=by omega
 have e:atI (ss.map V.str) ((j.toNat:Nat):Int)=some (.str ss[j.toNat]):=J0 (by rw[getElem?_map,List.getElem?_eq_getElem h3];rfl);rw[show((j.toNat:Nat):Int)=j by omega]at e;exact⟨_,e,getElem_mem h3⟩
theorem p12:(10:Int)^((12:Int).toNat)=1000000000000:=by decide +kernel
noncomputable def kwd:Kd->Str
 | .num=> "number"| .tru=> "truth"| .lst _=> "list"| .fn _ _=> "fn"
theorem KA.word{H:Hp}{k:Kd}{v:V}(h:KA H k v):∃p r,v=.ref p/\H p=some (.tup (.str (kwd k)::r)):=by
 cases h<;>exact⟨_,_,rfl,by assumption⟩
theorem ND{z:Str}{ks:List Nat}(hz:z.cps.toList=ks.map λk=>(sg k).cps.toList.headD 0)(hk:∀k∈ks,k<6)(h8:z.length<=sizeLine){j:Int}(h0:0<=j)(h:j<(ks.length:Nat)):∃c k,atI z.cps.toList j=some c/\k∈ks/\V.str ⟨#[c]⟩=.str (sg k):=by
 have h3:j.toNat<ks.length:=by omega
 refine⟨(sg ks[j.toNat]).cps.toList.headD 0,ks[j.toNat], ?_,getElem_mem h3, ?_⟩
 ·have e:atI (ks.map λk=>(sg k).cps.toList.headD 0) ((j.toNat:Nat):Int)=some _:=J0 (by rw[getElem?_map,List.getElem?_eq_getElem h3];rfl);rw[show((j.toNat:Nat):Int)=j by omega]at e;rw[hz];exact e
 ·have:=hk _ (getElem_mem h3)
  match ks[j.toNat],this with
  |0,_|1,_|2,_|3,_|4,_|5,_=>decide +kernel
noncomputable def lf:Kd->Nat
 | .num=>1
 | .tru=>1
 | .lst k=>lf k+(match k with| .lst _=>1|_=>2)
 | .fn _ b=>lf b+(match b with| .num=>2|_=>1)
noncomputable def hkk:Kd->Nat
 | .lst _=>2
 |_=>0
theorem LX:∀k:Kd,1<=lf k
 | .num=>Nat.le_refl _
 | .tru=>Nat.le_refl _
 | .lst k=>Nat.le_trans (LX k) (le_add_right _ _)
 | .fn _ b=>Nat.le_trans (LX b) (le_add_right _ _)
theorem WF:∀k:Kd,2*lf k<=3*dk k+(match k with| .lst _=>1|_=>0)
 | .num=>by decide
 | .tru=>by decide
 | .lst k=>by
  have:=WF k;cases k<;>simp only[lf,dk]at this⊢<;>omega
 | .fn a b=>by
  have:=WF b;have:=MJ a;cases b<;>simp only[lf,dk]at this⊢<;>omega
theorem aYZ(k:Kd)(h:dk k<=8):lf k<=12:=by
 have:=WF k;split at this<;>omega
theorem WB(k:Kd):hkk k<=2:=by cases k<;>simp[hkk]
theorem c0Z(a b:Kd):lf b+1<=lf (.fn a b):=by cases b<;>simp[lf]
structure Lf (k:Kd) (t:Tm):Prop where
 d:dt t<=lf k
 w:hw t<=hkk k
theorem Lf.bb{k:Kd}{t:Tm}(h:Lf k t)(hk8:dk k<=8):Bb t:=⟨by have:=h.d;have:=aYZ k hk8;omega,by have:=h.w;have:=WB k;omega⟩
theorem ZU(k:Kd):(3 - (if decide (V.str (kwd k)=V.str "list")=true then(1:Int)else 0))+lf k=lf (.lst k)+1/\(hkk k=0\/3 - (if decide (V.str (kwd k)=V.str "list")=true then(1:Int)else 0)=2):=by
 cases k with
 |num=>rw[if_neg (by show¬decide (V.str "number"=V.str "list")=true;decide +kernel)];exact⟨rfl,.inl rfl⟩
 |tru=>rw[if_neg (by show¬decide (V.str "truth"=V.str "list")=true;decide +kernel)];exact⟨rfl,.inl rfl⟩
 |fn a b=>rw[if_neg (by show¬decide (V.str "fn"=V.str "list")=true;decide +kernel)];exact⟨by show(3:Int) - 0+_=((lf (.fn a b)+2:Nat):Int)+1;omega,.inl rfl⟩
 |lst k=>rw[if_pos (by show decide (V.str "list"=V.str "list")=true;decide +kernel)];exact⟨by show(3:Int) - 1+_=((lf (.lst k)+1:Nat):Int)+1;omega,.inr rfl⟩
section
variable{P:Program}{w:World}{K:FZ}{mg:Str->Option Value}{base:Heap}{f D2 F2 D4 C6 J7:Addr}{fd F5 K2 G9 D5 M4:FuncData}
inductive spLeafW(n:Nat)(vs:List V)(H:Hp)(Q:VK):Prop
 |mk:∀(c l d:Addr) (ns:List Int) (a sh ms:Int) (g:Cx) (m:Nat) (k:Kd) (kv:V),(vs=[.ref c,.ref l,kv,.ref d])->(GS H c l ns a sh ms)->(a+lc k<=2^49)->(DAt H m g d)->(m+dk k<=60)->(KA H k kv)->(dk k<=n)->(dk k<=8)->(∀(t:Tm) (v:V) (a':Int) H',Kl l H H'->H' l=some (.lst [.int a',.int sh,.int ms])->a<=a'->a'<=a+lc k->T1 H' t v->(∀F,Ty F g t (.t k))->Lf k t->Q v H')->spLeafW n vs H Q
noncomputable def GE(n:Nat):Sp:=λvs H Q _=>spLeafW n vs H Q
theorem QA{n:Nat}(F:Fun K "_law_leaf" "_law_leaf" U7 f fd)(B:NoL mg)
  (E3:FnOk P w K mg base CX0 1 D2 F5 ET EJ)(F7:Binds K F5 ET [])(F9:kZ K (.ref D2)=true)(F8:mg "_law_cell"=some (.ref D2))
  (B7:FnOk P w K mg base CX0 1 F2 K2 IN (Z1 K))(U9:Binds K K2 IN [])(V3:kZ K (.ref F2)=true)(V5:mg "_law_cell_at"=some (.ref F2))
  (D3:FnOk P w K mg base CX0 2 D4 G9 EV BI)(K0:Binds K G9 EV [])(K1:kZ K (.ref D4)=true)(J9:mg "_law_names"=some (.ref D4))
  (C8:FnOk P w K mg base CX0 1 C6 D5 BB CF)(E9:Binds K D5 BB [])(F1:kZ K (.ref C6)=true)(E8:mg "_law_with"=some (.ref C6))
  (M7:FnOk P w K mg base CX0 (n+3) J7 M4 JK (GE n))(L0:Binds K M4 JK [])(L7:kZ K (.ref J7)=true)(L4:mg "_law_leaf"=some (.ref J7)):
  FnOk P w K mg base CX0 (n+4) f fd JK (GE (n+1)):=by
 refine F.ok sc_law_leaf (λvs H Q E h=> ?_) (λcdv A outer s H vs Q E hr h=> ?_)
 ·obtain⟨c,l,d,ns,a,sh,ms,g,m,k,kv,rfl,_⟩:=h;rfl
 obtain⟨c,l,d,ns,a,sh,ms,g,m,k,kv,rfl,hG,hal,hD,hm,hk,hkn,hk8,q⟩:=h;have nd:=sc_law_leaf.nd;have hu:=hr.units0;refine⟨_,(A6 (sS 4 nd (C0 E3 (hr.mono (by omega)) rfl F8 F9 F7 .nil D8 (A0 (pv 0) (A0 (pv 1) A4))))
   (A6 (O6 (i:=5) nd rfl rfl (cS (N:=ED) (sc:=B3 U7) (caps:=[2,3]) (ns:=["_law_kind_here","_law_names_here"])) rfl rfl rfl (V7 (K:=K) (O0 (II rfl) rfl B.sorted_ KJ (A0 (pv 3) A4))) (λ_ _ _ _ _=>(Y5 (B0 (IR (K:=K) hr.units) (HJ hr.u1 (pv 2) (pv 0) (λ_ _=>rfl)) (pv 1) rfl))) (λ_ _ _ _ _=>(pv 0)))
   (A6 (E6 (B8 (PW.pt (P0 (B0 Y4 (kL K B.len_ (pv 5)) A3 rfl) (N8 (B0 Y4 (B4 C5 (pv 4) A3) A3 rfl)))) (A8 (B5 (A9 (A0 A7 (A0 (ixE K w (pv 5) (B4 C5 (B4 B9 (pv 4) A3) (kL K B.len_ (pv 5)))) A4))))) B6))
   (A6 (B8 (B0 (kEq (K:=K) hu) (ixE K w (pv 2) A3) A7 rfl) (A6 (sS 6 nd (C0 B7 (hr.mono (by omega)) rfl V5 V3 U9 .nil D8 (A0 (pv 0) (A0 (B4 C5 (B4 B9 (pv 4) A3) (B4 P7 (kL K B.len_ (pv 0)) A3)) A4))))
   (A8 (B5 (A9 (A0 A7 (A0 (B4 C5 (pv 6) (ixE K w (E5 (A0 A3 (A0 A3 (A0 (B4 IZ A3 A3) A4)))) (B4 C5 (B4 B9 (pv 4) A3) A3))) A4)))))) B6)
   (A6 (B8 (B0 (kEq (K:=K) hu) (ixE K w (pv 2) A3) A7 rfl) (A8 (B5 (A9 (A0 A7 (A0 (M9 (kEq (K:=K) hu) (B4 C5 (B4 B9 (pv 4) A3) A3) A3 rfl) A4))))) B6)
   (A6 (B8 (B0 (kEq (K:=K) hu) (ixE K w (pv 2) A3) A7 rfl) (A6 (sS 7 nd (B4 C5 (B4 B9 (pv 4) A3) (B4 U5 A3 (D6 N5 rfl B.int_ CJ (A0 (M9 (kEq (K:=K) hu) (ixE K w (ixE K w (pv 2) A3) A3) A7 rfl) A4)))))
   (A6 (O6 (i:=8) nd rfl rfl (cS (N:=ED) (sc:=B3 U7) (caps:=[0,1,3,2]) (ns:=["_law_cells","_law_spot","_law_names_here","_law_kind_here"])) rfl rfl rfl (P6 rfl B.range_ (A0 (pv 7) A4)) (λ_ _ _ _ _=>T4) (λ_ _ _ _ _=>(C0 M7 (hr.mono (by omega)) rfl L4 L7 L0 .nil D8 (A0 (pv 1) (A0 (pv 2) (A0 (ixE K w (pv 4) A3) (A0 (pv 3) A4)))))))
   (A6 (sS 9 nd (A9 (A0 A7 A4)))
   (A6 (E6 (GD PassesOwn.never rfl (V7 (K:=K) (pv 8)) (gN 10 nd) (A8 (sS 9 nd (A9 (A0 A7 (A0 A7 (A0 (pv 10) (A0 (pv 9) A4)))))))))
   (A8 (B5 (pv 9))))))) B6)
   (A6 (sS 11 nd (ixE K w (C0 D3 (hr.mono (by omega)) rfl J9 K1 K0 .nil D8 (A0 (ixE K w (pv 1) A3) A4)) (B4 C5 (B4 B9 (pv 4) A3) A3)))
   (A6 (sS 12 nd (C0 C8 (hr.mono (by omega)) rfl E8 F1 E9 .nil D8 (A0 (pv 3) (A0 (pv 11) (A0 (ixE K w (pv 2) A3) A4)))))
   (A6 (sS 13 nd (C0 M7 (hr.mono (by omega)) rfl L4 L7 L0 .nil D8 (A0 (pv 0) (A0 (pv 1) (A0 (ixE K w (pv 2) A3) (A0 (pv 12) A4))))))
   (A6 (E6 (B8 (PW.pt (P0 (B0 (IR (K:=K) hr.units) (ixE K w (pv 2) A3) (A9 (A0 A7 A4)) rfl) (N8 (B0 Y4 (B4 C5 (B4 B9 (pv 4) A3) A3) A3 rfl)))) (A8 (B5 (A9 (A0 A7 (A0 (pv 11) (A0 (A9 (A0 A7 (A0 (DG ix_str A7 (B4 C5 (B4 B9 (pv 4) A3) A3) (λ_ _=>rfl)) (A0 (pv 13) (A0 (C0 M7 (hr.mono (by omega)) rfl L4 L7 L0 .nil D8 (A0 (pv 0) (A0 (pv 1) (A0 (ixE K w (pv 2) A3) (A0 (pv 12) A4))))) A4))))) A4)))))) B6))
   (A8 (B5 (A9 (A0 A7 (A0 (pv 11) (A0 (pv 13) A4)))))))))))))))), ?_⟩
 have lcp:=HV k;refine⟨_,rfl,_,rfl,c,l,ns,a,sh,ms,rfl,hG,by omega,λx H1 x0 x1 k1 hl1=> ?_⟩;have hG1:=hG.kl k1 hl1 (by omega);obtain⟨kvs,zs,hDA⟩:=hD.kl k1 hG.sp;have hk1:=hk.mono (k1.tups hG.sp);refine⟨_,rfl,d,kvs,zs,rfl,hDA.at_,hDA.keys,(by have:=hDA.len;have:=MJ k;omega),λl2 zs' hl2 hpm=>⟨l2,rfl,⟨_,SqL.of A1⟩, ?_⟩⟩;have s2:=A2 hl2 (.lst (zs'.map V.str));have hl2':(upd H1 l2 (.lst (zs'.map V.str))) l2=some (.lst (zs'.map V.str)):=A1;have hD2:=s2 _ _ hDA.at_;have hv2:∀z v,T8 kvs (.inr z)=some v->∃k,g z=some k/\KA (upd H1 l2 (.lst (zs'.map V.str))) k v/\dk k<=8:=λz v hz=>let⟨q,q1,q2,q3⟩:=hDA.val z v hz;⟨q,q1,q2.mono (A5 s2),q3⟩;have hk2:=hk1.mono (A5 s2);generalize upd H1 l2 (.lst (zs'.map V.str))=H2 at s2 hl2' hD2 hv2 hk2⊢;refine U4 (xs:=zs'.map V.str) (λi ys H'=>H2=H'/\∃fs:List Str,ys=fs.map V.str/\fs.length<=i/\∀z∈fs,g z=some k) ⟨rfl,[],rfl,Nat.le_refl _,λz hz=>nomatch hz⟩ ?_ ?_ ?_
 ·rintro i ys H' hi ⟨rfl,fs,rfl,hf,_⟩;refine⟨SqL.of hl2', ?_⟩;rw[length_map]at hi⊢;have:=hpm.length_eq;have:=hDA.len;have:(64:Nat)<=sizeLine:=by decide
  omega
 ·rintro i x ys H' hx ⟨rfl,fs,rfl,hf,hfk⟩;obtain⟨z,hz,rfl⟩:∃z,zs'[i]? =some z/\V.str z=x:=by
   rw[getElem?_map]at hx;exact map_eq_some_iff.mp hx
  obtain⟨v,hv⟩:=IF hDA.keys (hpm.mem_iff.mp (mem_of_getElem? hz));obtain⟨kz,e1,e2,e3⟩:=hv2 z v hv;refine⟨_,rfl,_,rfl,d,v,rfl,by rw[<-hv];exact DGet.k (k:=.inr z) hD2,_,rfl,CC e2 hk2 (by omega) ⟨_,rfl,K6 (λc=>⟨_,rfl,rfl,fs++ [z],by rw[map_append];rfl,by rw[length_append];simp only[length_cons,length_nil];omega,λy hy=> ?_⟩) (λc=>⟨rfl,fs,rfl,by omega,hfk⟩)⟩⟩;rcases mem_append.mp hy with hy|hy
  ·exact hfk y hy
  ·rw[sZ hy,e1,of_decide_eq_true c]
 rintro ys H' ⟨rfl,fs,rfl,hfl,hfs⟩ l3 hl3;have s3:=A2 hl3 (.lst (fs.map V.str));have s23:=s2.trans s3;have k3:Kl l H _:=k1.trans (Kl.of s23);have hk3:=hk2.mono (A5 s3);have hG3:=hG1.same s23;have hD3:DAt _ m g d:=⟨kvs,zs,s3 _ _ hD2,hDA.keys,hDA.len,λz v hz=>let⟨q,q1,q2,q3⟩:=hv2 z v hz;⟨q,q1,q2.mono (A5 s3),q3⟩⟩;have hf3:(upd H2 l3 (.lst (fs.map V.str))) l3=some (.lst (fs.map V.str)):=A1;show P9 _ _ _ [some (.ref c),some (.ref l),some kv,some (.ref d),some (.int x),some (.ref l3),none,none,none,none,none,none,none,none] (upd H2 l3 (.lst (fs.map V.str)));generalize upd H2 l3 (.lst (fs.map V.str))=H3 at k3 hk3 hG3 hD3 hf3⊢;have q3:∀(t:Tm) (v:V) (a':Int) H',Kl l H3 H'->H' l=some (.lst [.int a',.int sh,.int ms])->a+1<=a'->a'<=a+lc k->T1 H' t v->(∀F,Ty F g t (.t k))->Lf k t->Q v H':=λt v a' H' h1 h2 h3 h4 h5 h6 h7=>q t v a' H' (k3.trans h1) h2 (by omega) h4 h5 h6 h7;clear s2 s3 s23 hl2' hD2 hv2 hk2 hl2 hl3 hG1 k1 hk1 hDA;refine⟨fun σ' H'=>σ'=[some (.ref c),some (.ref l),some kv,some (.ref d),some (.int x),some (.ref l3),none,none,none,none,none,none,none,none]/\H3=H', ?_, ?_⟩
 ·refine⟨_,rfl,_,_,rfl,.inl ⟨_,SqL.of hf3,rfl⟩,_,_,rfl,rfl,_,rfl,K6 (λc1=> ?_) (λc1=>ifF nZ ⟨rfl,rfl⟩)⟩;have c1':(0:Int)<((fs.map V.str).length:Nat):=of_decide_eq_true c1;refine⟨_,rfl,_,_,rfl,rfl,(by decide:(0:Int)<4),_,_,rfl,rfl,_,rfl,K6 (λc2=> ?_) (λc2=>⟨rfl,rfl⟩)⟩;obtain⟨z,hz,hzm⟩:=BH (ss:=fs) (j:=x.fdiv 4%((fs.map V.str).length:Nat)) (Int.emod_nonneg _ (Int.ne_of_gt c1')) (by have:=Int.emod_lt_of_pos (x.fdiv 4) c1';rwa [length_map]at this⊢);refine⟨_,rfl,_,rfl,_,_,rfl,rfl,lg (by decide) (by decide),_,rfl,_,_,rfl,.inl ⟨_,SqL.of hf3,rfl⟩,_,_,rfl,rfl,c1',(ixL hf3 hz ⟨D1,λp hp=> ?_⟩)⟩;exact q3 (.name z) _ _ _ (Kl.of (A2 hp _)) ((A2 hp _) _ _ hG3.sp) (Int.le_refl _) (by omega) (.name A1) (λF=> .name (hfs z hzm)) ⟨LX k,zero_le _⟩
 rintro _ _ ⟨rfl,rfl⟩;cases hk3 with
 | @num p hp=>
  refine⟨_,rfl,(ixT hp rfl (.inl ⟨rfl,_,rfl,ifT rfl ?_⟩))⟩;have hlen:(0:Int)<((ns.map V.int).length:Nat)+1:=by omega
  refine⟨_,rfl,_,rfl,_,_,rfl,rfl,lg (by decide) (by decide),_,rfl,_,_,rfl,.inl ⟨_,SqL.of hG3.cs,rfl⟩,.inl ⟨_,_,rfl,rfl,_,_,rfl,rfl,hlen,c,ns,_,rfl,SqL.of hG3.cs,Int.emod_nonneg _ (Int.ne_of_gt hlen), ?_⟩⟩;generalize F3 ns _=raw;refine⟨_,rfl,_,_,rfl,rfl,⟨by decide,by decide,by decide⟩,D9,λl4 hl4=> ?_⟩;have s4:=A2 hl4 (.lst [.int 4,.int 100,.int (10^((12:Int).toNat))]);obtain⟨b,hb,hbv⟩:=afZ (.int 4) (.int 100) (.int (10^((12:Int).toNat))) (x.fdiv 4);obtain⟨bi,rfl,hb0,hb1⟩:∃bi:Int,b=.int bi/\0<bi/\bi<=1000000000000:=by
   rcases hbv with rfl|rfl|rfl
   ·exact⟨_,rfl,by decide,by decide⟩
   ·exact⟨_,rfl,by decide,by decide⟩
   ·exact⟨_,rfl,by rw[p12];decide,by rw[p12];decide⟩
  refine⟨_,rfl,_,_,rfl,rfl,lg (by decide) (by decide),_,_,rfl,rfl,(by decide:(0:Int)<3),(ixL A1 hb ⟨_,_,rfl,rfl,hb0,D1,λp5 hp5=> ?_⟩)⟩;have g1:=Int.emod_nonneg raw (Int.ne_of_gt hb0);have g2:=Int.emod_lt_of_pos raw hb0;have s5:=s4.trans (A2 hp5 (.tup [.str "number",.int (raw%bi)]));exact q3 (.num (raw%bi)) _ _ _ (Kl.of s5) (s5 _ _ hG3.sp) (Int.le_refl _) (by omega) (.num A1) (λF=> .num (Int.le_trans (by decide: -GR<=0) g1) (Int.le_trans (Int.le_of_lt g2) (Int.le_trans hb1 (by decide)))) ⟨Nat.le_refl 1,Nat.le_refl 0⟩
 | @tru p hp=>
  refine⟨_,rfl,(ixT hp rfl (.inl ⟨rfl,_,rfl,ifF nZ ?_⟩))⟩;refine⟨_,rfl,(ixT hp rfl (.inl ⟨rfl,_,rfl,ifT rfl ?_⟩))⟩;refine⟨_,rfl,_,_,rfl,rfl,lg (by decide) (by decide),_,_,rfl,rfl,(by decide:(0:Int)<2),.inl ⟨rfl,D1,λp5 hp5=> ?_⟩⟩;have s5:=A2 hp5 (.tup [.str "truth",.bl (decide (V.int (x.fdiv 4%2)=V.int 1))]);exact q3 (.tru _) _ _ _ (Kl.of s5) (s5 _ _ hG3.sp) (Int.le_refl _) (by omega) (.tru A1) (λF=> .tru) ⟨Nat.le_refl 1,Nat.le_refl 0⟩
 | @lst k' p u hp hku=>
  refine⟨_,rfl,(ixT hp rfl (.inl ⟨rfl,_,rfl,ifF nZ ?_⟩))⟩;refine⟨_,rfl,(ixT hp rfl (.inl ⟨rfl,_,rfl,ifF nZ ?_⟩))⟩;refine⟨_,rfl,(ixT hp rfl (.inl ⟨rfl,_,rfl,ifT rfl ?_⟩))⟩;obtain⟨p',r',rfl,hp'⟩:=hku.word;have lck:lc (.lst k')=1+2*lc k':=rfl;have dkk:dk (.lst k')=dk k'+1:=rfl;have lcp':=HV k';have hat:atI (V.str (kwd k')::r') ((0:Nat):Int)=some (.str (kwd k')):=J0 rfl;have pos:(0:Int)<3 - (if decide (V.str (kwd k')=V.str "list")=true then 1 else 0):=by split<;>decide
  have le3:3 - (if decide (V.str (kwd k')=V.str "list")=true then(1:Int)else 0)<=3:=by split<;>decide
  refine⟨_,rfl,_,_,rfl,rfl,lg (by decide) (by decide),_,rfl,(ixT hp rfl (ixT hp' hat (.inl ⟨rfl,.inl ⟨_,rfl,_,_,rfl,rfl,_,_,rfl,rfl,pos, ?_⟩⟩)))⟩;have h1:=Int.emod_nonneg (x.fdiv 4) (Int.ne_of_gt pos);have h2:=Int.emod_lt_of_pos (x.fdiv 4) pos;have hmany:=ZU k';generalize x.fdiv 4%(3 - (if decide (V.str (kwd k')=V.str "list")=true then(1:Int)else 0))=M at h1 h2⊢;generalize(3 - (if decide (V.str (kwd k')=V.str "list")=true then(1:Int)else 0))=Z at h1 h2 hmany pos le3;obtain⟨mN,rfl,hmN,hml,hmk⟩:∃mN:Nat,M=(mN:Int)/\mN<=2/\mN+lf k'<=lf (.lst k')/\(hkk k'=0\/mN<=1):=by
   obtain⟨e1,e2⟩:=hmany;exact⟨M.toNat,by omega,by omega,by omega,by omega⟩
  clear h1 h2 pos le3;refine⟨_,rfl,(mN:Int),rfl,by omega,by omega,R4 (n:=mN) (λi ys H'=>∃(a':Int) (ts:List Tm),Kl l H3 H'/\H' l=some (.lst [.int a',.int sh,.int ms])/\a+1<=a'/\a'<=a+1+(i:Int)*lc k'/\All2 (T1 H') ts ys/\(∀t∈ts,(∀F,Ty F g t (.t k'))/\Lf k' t)/\ys.length=i) ⟨a+1,[],Kl.refl _ _,hG3.sp,Int.le_refl _,by simp,.nil,(λt ht=>nomatch ht),rfl⟩ ?_ ?_ ?_⟩
  ·rintro i ys H' hi ⟨a',ts,_,_,_,_,_,_,hyl⟩;rw[hyl];exact Nat.le_trans hi (Nat.le_trans hmN (by decide))
  ·rintro i ys H' hi ⟨a',ts,kk,hl',ha1,ha2,hts,hty,hyl⟩;refine Y0 ?_;have hmul:(i:Int)*lc k'<=1*lc k':=Int.mul_le_mul_of_nonneg_right (by omega) (by omega);refine⟨_,rfl,_,rfl,_,rfl,(ixT (kk.tups hG3.sp _ _ hp) rfl ⟨_,rfl,c,l,d,ns,a',sh,ms,g,m,k',.ref p',rfl,hG3.kl kk hl' ha1,by omega,hD3.kl kk hG3.sp,by omega,hku.mono (kk.tups hG3.sp),by omega,by omega,λt v a2 H4 k4 hl4 h3 h4 ht hT hdt=> ?_⟩)⟩;refine⟨a2,ts++ [t],kk.trans k4,hl4,by omega, ?_,(hts.imp λ_ _ h=>h.mono (k4.tups hl')).app (.cons ht .nil),λt' ht'=> ?_,by rw[length_append,hyl];rfl⟩
   ·rw[Int.natCast_succ,Int.add_mul,Int.one_mul];omega
   ·rcases mem_append.mp ht' with h|h
    ·exact hty t' h
    ·rw[sZ h];exact⟨hT,hdt⟩
  rintro ys H4 ⟨a',ts,kk,hl',ha1,ha2,hts,hty,hyl⟩ l5 hl5;have s5:=A2 hl5 (.lst ys);refine⟨L8,λp6 hp6=> ?_⟩;have s6:=A2 hp6 (.tup [.str "none"]);have s56:=s5.trans s6;have hy6:=s6 _ _ (show(upd H4 l5 (.lst ys)) l5=some (.lst ys)from A1);have hn6:(upd (upd H4 l5 (.lst ys)) p6 (.tup [.str "none"])) p6=some (.tup [.str "none"]):=A1;show P9 _ _ _ [some (.ref c),some (.ref l),some (.ref p),some (.ref d),some (.int x),some (.ref l3),none,some (.int (mN:Int)),some (.ref l5),some (.ref p6),none,none,none,none] (upd (upd H4 l5 (.lst ys)) p6 (.tup [.str "none"]));generalize upd (upd H4 l5 (.lst ys)) p6 (.tup [.str "none"])=H6 at s56 hy6 hn6⊢;have k6:=kk.trans (Kl.of s56);have hl6:=s56 _ _ hl';have hts6:=hts.imp λ_ _ h=>h.mono (A5 s56);have htl:=hts.len;refine⟨fun σ' H'=>∃(t:Tm) (v:V) (y:Option V),σ'=[some (.ref c),some (.ref l),some (.ref p),some (.ref d),some (.int x),some (.ref l3),none,some (.int (mN:Int)),some (.ref l5),some v,y,none,none,none]/\Same H6 H'/\T1 H' t v/\(∀F,Ty F g t (.t (.lst k')))/\Lf (.lst k') t, ?_, ?_⟩
  ·refine⟨_,rfl,l5,rfl,⟨_,SqL.of hy6⟩,HY (xs:=ys) (λi σ' H'=>∃(t:Tm) (v:V) (y:Option V),σ'=[some (.ref c),some (.ref l),some (.ref p),some (.ref d),some (.int x),some (.ref l3),none,some (.int (mN:Int)),some (.ref l5),some v,y,none,none,none]/\Same H6 H'/\T1 H' t v/\(∀F,Ty F g t (.t (.lst k')))/\dt t<=lf k'+i/\(i=0->hw t=0)/\(hkk k'=0->hw t<=i)/\hw t<=2) ⟨.non,_,_,rfl,Same.refl _,.non hn6,λF=> .non,LX k',λ_=>rfl,λ_=>Nat.le_refl _,zero_le _⟩ ?_ ?_ ?_⟩
   ·rintro i σ' H' hi ⟨t,v,y,rfl,sm,_⟩;exact SqL.of (sm _ _ hy6)
   ·rintro i v0 σ' H' hv0 ⟨t,v,y,rfl,sm,ht,hT,hdt,hw0,hw1,hw2⟩;obtain⟨t0,ht0,ht0v⟩:=hts6.get hv0;obtain⟨hT0,hd0⟩:=hty t0 (mem_of_getElem? ht0);refine⟨_,rfl,_,rfl,P2,λp7 hp7=> ?_⟩;have s7:=A2 hp7 (.tup [.str "two",.str ":",v0,v]);exact⟨.two ":" t0 t,_,_,rfl,sm.trans s7,.two A1 (ht0v.mono (A5 (sm.trans s7))) (ht.mono (A5 s7)),λF=> .cat (hT0 F) (hT F),by show max (dt t0) (dt t)+1<=_;have:=hd0.d;omega,λe=>absurd e (Nat.succ_ne_zero _),λe=>by show max (hw t0) (hw t+1)<=_;have:=hd0.w;have:=hw1 e;omega,by
     show max (hw t0) (hw t+1)<=2;have:=hd0.w;have:=WB k';have hi:=(List.getElem?_eq_some_iff.mp hv0).1;rcases hmk with e|e
     ·have:=hw1 e;omega
     ·have:=hw0 (by omega);omega⟩
   ·rintro σ' H' ⟨t,v,y,rfl,sm,ht,hT,hdt,_,_,hw2⟩;exact⟨t,v,y,rfl,sm,ht,hT,by omega,hw2⟩
  rintro _ H7 ⟨t,v,y,rfl,sm,ht,hT,hdt⟩;have hmul:(mN:Int)*lc k'<=2*lc k':=Int.mul_le_mul_of_nonneg_right (by omega) (by omega);exact⟨_,rfl,q3 t v a' _ (k6.trans (Kl.of sm)) (sm _ _ hl6) ha1 (by omega) ht hT hdt⟩
 | @fn ka kb p u u' hp hku hku'=>
  refine⟨_,rfl,(ixT hp rfl (.inl ⟨rfl,_,rfl,ifF nZ ?_⟩))⟩;refine⟨_,rfl,(ixT hp rfl (.inl ⟨rfl,_,rfl,ifF nZ ?_⟩))⟩;refine⟨_,rfl,(ixT hp rfl (.inl ⟨rfl,_,rfl,ifF nZ ?_⟩))⟩;have lck:lc (.fn ka kb)=1+2*lc kb:=rfl;have dkk:dk (.fn ka kb)=max (dk ka) (dk kb)+1:=rfl;have lcp':=HV kb;refine⟨_,rfl,(ixL hG3.sp rfl ⟨sh,rfl,λln ss H4 s4 ⟨hn1,hn2,hn3,hn4⟩=> ?_⟩)⟩;obtain⟨z,hz,hzm⟩:=BH (ss:=ss) (j:=x.fdiv 4%3) (Int.emod_nonneg _ (by decide)) (by have:=Int.emod_lt_of_pos (x.fdiv 4) (by decide:(0:Int)<3);omega);refine⟨_,rfl,_,_,rfl,rfl,lg (by decide) (by decide),_,_,rfl,rfl,(by decide:(0:Int)<3),(ixL hn1 hz ?_)⟩;refine⟨_,rfl,_,rfl,_,rfl,(ixT (s4 _ _ hp) rfl ⟨d,m,g,z,ka,u,rfl,hD3.kl (Kl.of s4) hG3.sp,by omega,hku.mono (A5 s4),by omega,λdn H5 s5 hD5=> ?_⟩)⟩;have s45:=s4.trans s5;have hG5:=hG3.same s45;have k5:Kl l H3 H5:=Kl.of s45;refine⟨_,rfl,_,rfl,_,rfl,(ixT (s45 _ _ hp) rfl ⟨_,rfl,c,l,dn,ns,a+1,sh,ms,up g z ka,m+1,kb,u',rfl,hG5,by omega,hD5,by omega,hku'.mono (A5 s45),by omega,by omega,λt v a' H6 k6 hl6 ha1 ha2 ht hT hdt=> ?_⟩)⟩;have k56:=k5.trans k6;have m6:=k56.tups hG3.sp;have hG6:=hG5.kl k6 hl6 ha1;show P9 _ _ _ [some (.ref c),some (.ref l),some (.ref p),some (.ref d),some (.int x),some (.ref l3),none,none,none,none,none,some (.str z),some (.ref dn),some v] H6;refine⟨fun σ' H'=>σ'=[some (.ref c),some (.ref l),some (.ref p),some (.ref d),some (.int x),some (.ref l3),none,none,none,none,none,some (.str z),some (.ref dn),some v]/\Same H6 H', ?_, ?_⟩
  ·refine⟨_,rfl,(ixT (m6 _ _ hp) rfl ⟨L8,λp7 hp7=> ?_⟩)⟩;have s7:=A2 hp7 (.tup [.str "number"]);refine CC ((hku'.mono m6).mono (A5 s7)) (.num A1) (by omega) ⟨_,rfl,K6 (λc1=> ?_) (λc1=>ifF nZ ⟨rfl,s7⟩)⟩;have ekb:kb=.num:=of_decide_eq_true c1;refine⟨_,rfl,_,_,rfl,rfl,lg (by decide) (by decide),_,_,rfl,rfl,(by decide:(0:Int)<3),_,_,rfl,rfl,_,rfl,K6 (λc2=> ?_) (λc2=>⟨rfl,s7⟩)⟩;obtain⟨cc,sk,hc,hsk,ecs⟩:=ND (z:="+-*-") (ks:=[0,1,2,1]) (by decide +kernel) (by decide) (by decide +kernel) (j:=x.fdiv 36%4) (Int.emod_nonneg _ (by decide)) (Int.emod_lt_of_pos _ (by decide));have hsk6:sk<3:=by revert hsk;simp;omega
   refine⟨_,rfl,_,rfl,_,_,rfl,rfl,lg (by decide) (by decide),_,_,rfl,rfl,(by decide:(0:Int)<4),"+-*-",_,cc,rfl,rfl,(by decide +kernel),hc,_,rfl, ?_⟩;have hG7:=hG6.same s7;refine⟨_,rfl,_,rfl,_,rfl,(ixT (s7 _ _ (m6 _ _ hp)) rfl ⟨_,rfl,c,l,dn,ns,a',sh,ms,up g z ka,m+1,kb,u',rfl,hG7,by omega,(hD5.kl k6 hG5.sp).kl (Kl.of s7) hG6.sp,by omega,(hku'.mono m6).mono (A5 s7),by omega,by omega,λt2 v2 a2 H8 k8 hl8 hb1 hb2 ht2 hT2 hdt2=>⟨P2,λp9 hp9=>⟨D9,λp10 hp10=> ?_⟩⟩⟩)⟩;rw[ecs]at hp10⊢;have s9:=A2 hp9 (.tup [.str "two",.str (sg sk),v,v2]);have s10:=A2 hp10 (.tup [.str "fn",.str z,.ref p9]);have s910:=s9.trans s10;have hv9:T1 _ t v:=((ht.mono (A5 s7)).mono (k8.tups hG7.sp)).mono (A5 s910);subst ekb;have ek:(if sk=3\/sk=4 then Kd.tru else Kd.num)=.num:=if_neg (by omega);refine q3 (.fn z (.two (sg sk) t t2)) _ a2 _ (k56.trans ((Kl.of s7).trans (k8.trans (Kl.of s910)))) (s910 _ _ hl8) (by omega) (by omega) (.fn A1 (.two (s10 _ _ A1) hv9 (ht2.mono (A5 s910)))) (λF=> .fn ?_ ⟨by show max (dt t) (dt t2)+1<=19;have:=hdt.d;have:=hdt2.d;have:lf .num=1:=rfl;omega,by show max (hw t) (hw t2+1)<=49;have:=hdt.w;have:=hdt2.w;have:hkk .num=0:=rfl;omega⟩) ⟨by show max (dt t) (dt t2)+1+1<=3;have:=hdt.d;have:=hdt2.d;have:lf .num=1:=rfl;omega,Nat.le_refl 0⟩;have:=Ty.two (F:=F) (k:=sk) (by omega) (hT F) (hT2 F);rw[ek]at this;exact this
  rintro _ H7 ⟨rfl,s7⟩;refine⟨_,rfl,_,rfl,D9,λp8 hp8=> ?_⟩;have s8:=s7.trans (A2 hp8 (.tup [.str "fn",.str z,v]));exact q3 (.fn z t) _ a' _ (k56.trans (Kl.of s8)) (s8 _ _ hl6) (by omega) (by omega) (.fn A1 (ht.mono (A5 s8))) (λF=> .fn (hT F) (hdt.bb (by omega))) ⟨by show dt t+1<=_;have:=hdt.d;have:=c0Z ka kb;omega,Nat.le_refl 0⟩
end
noncomputable abbrev X7:Stmt:=BV.top 43
noncomputable abbrev BE:Stmt:=BV.top 44
noncomputable abbrev Z0:Stmt:=BV.top 45
noncomputable abbrev IV:List Str:=["_law_cells","_law_spot","_law_kinds","_law_names_here","_law_funs","_law_depth"]
theorem sc_law_some:FnScope IV NP (B3 X7):=fS
noncomputable abbrev QH:List Str:=["_law_cells","_law_spot","_law_kind_here","_law_names_here","_law_funs","_law_depth","_law_cell_here"]
theorem sc_law_good:FnScope QH W7 (B3 BE):=fS
noncomputable abbrev GU:List Str:=["_law_cell_here","_law_names_here","_law_own_here","_law_other","_law_fits","_law_one_here","_law_two_here"]
theorem sc_law_taker:FnScope GU q3L (B3 Z0):=fS
noncomputable def FhA(H:Hp)(x:Str×List Kd×Kd)(u:V):Prop:=∃p q us w,u=.ref p/\H p=some (.tup [.str x.1,.ref q,w])/\H q=some (.lst us)/\All2 (KA H) x.2.1 us/\KA H x.2.2 w
structure FnsAt (H:Hp) (F:Fs) (fl:Addr):Prop where
 at_:∃fus,H fl=some (.lst fus)/\All2 (FhA H) F fus
 nd:(F.map (·.1)).Nodup
 le:F.length<=100
 sm:∀x∈F,dk x.2.2<=3/\(∀k∈x.2.1,dk k<=3)/\x.2.1.length<=4
theorem LZ{H:Hp}{k:Kd}{n:Int}(h:KA H k (.int n)):False:=by cases h
theorem CH{H:Hp}{l q:Addr}{a b c:Int}{us:List V}{α:Type}{R:α->V->Prop}{xs:List α}(hl:H l=some (.lst [.int a,.int b,.int c]))(hq:H q=some (.lst us))(hu:All2 R xs us)(hR:∀x n,¬R x (.int n)):q≠l:=by
 rintro rfl;rw[hl]at hq;cases hq;cases hu with
 |cons h _=>exact hR _ _ h
theorem FhA.kl{H H':Hp}{l:Addr}{a b c:Int}(k:Kl l H H')(hl:H l=some (.lst [.int a,.int b,.int c])){x:Str×List Kd×Kd}{u:V}(h:FhA H x u):FhA H' x u:=by
 obtain⟨p,q,us,w,e,h1,h2,h3,h4⟩:=h;have m:=k.tups hl;exact⟨p,q,us,w,e,m _ _ h1,k _ _ h2 (CH hl h2 h3 λ_ _=>LZ),h3.imp λ_ _ h=>h.mono m,h4.mono m⟩
theorem FnsAt.kl{H H':Hp}{l:Addr}{a b c:Int}(k:Kl l H H')(hl:H l=some (.lst [.int a,.int b,.int c])){F:Fs}{fl:Addr}(h:FnsAt H F fl):FnsAt H' F fl:=by
 obtain⟨fus,h1,h2⟩:=h.at_;exact⟨⟨fus,k _ _ h1 (CH hl h1 h2 λ_ _ ⟨_,_,_,_,e,_⟩=>nomatch e),h2.imp λ_ _ h=>h.kl k hl⟩,h.nd,h.le,h.sm⟩
noncomputable def gc:Nat->Int
 |0=>300
 |d+1=>5*gc d
theorem KD:∀d:Nat,300<=gc d
 |0=>by decide
 |d+1=>by have:=KD d;show 300<=5*gc d;omega
theorem XT:∀k:Kd,lc k<=2^(dk k) - 1
 | .num=>by decide
 | .tru=>by decide
 | .lst k=>by
  have:=XT k;show 1+2*lc k<=2^(dk k+1) - 1;rw[Int.pow_succ];omega
 | .fn a b=>by
  have:=XT b;show 1+2*lc b<=2^(max (dk a) (dk b)+1) - 1;have h:(2:Int)^dk b<=2^max (dk a) (dk b):=by
   have:(2:Nat)^dk b<=2^max (dk a) (dk b):=pow_le_pow_right (by decide) (Nat.le_max_right _ _)
   exact_mod_cast this
  rw[Int.pow_succ];omega
theorem duZ{k:Kd}(h:dk k<=8):lc k<=255:=by
 have h1:=XT k;have h2:(2:Int)^dk k<=2^8:=by
  have:(2:Nat)^dk k<=2^8:=pow_le_pow_right (by decide) h
  exact_mod_cast this
 have h3:(2:Int)^8=256:=by decide
 omega
structure Sz (dp:Int) (t:Tm):Prop where
 d:(dt t:Int)<=13+max dp 0
 z:dp<=0->dt t<=12
 w:hw t+1<=3*2^dp.toNat
theorem GH(n:Nat):1<=2^n:=Nat.one_le_two_pow
theorem Lf.sz{k:Kd}{t:Tm}(h:Lf k t)(h8:dk k<=8)(dp:Int):Sz dp t:=by
 have h1:=aYZ k h8;have h2:=WB k;have h3:=h.d;have h4:=h.w;have h5:=GH dp.toNat;exact⟨by omega,λ_=>by omega,by omega⟩
theorem FF{t:Tm}(h:dt t<=4)(hw':hw t<=1)(dp:Int):Sz dp t:=by
 have h5:=GH dp.toNat;exact⟨by omega,λ_=>by omega,by omega⟩
theorem Sz.up{dp:Int}{t:Tm}(h0:0<=dp)(hd:(dt t:Int)<=14+dp)(hw':hw t+1<=2*(3*2^dp.toNat)):Sz (dp+1) t:=by
 refine⟨by omega,λh=>by omega, ?_⟩;rw[show(dp+1).toNat=dp.toNat+1 by omega,Nat.pow_succ];omega
section
variable{dp:Int}{a b q:Tm}{z:Str}
theorem Sz.two(h0:0<=dp)(x:Sz dp a)(y:Sz dp b):Sz (dp+1) (.two z a b):=by
 have:=x.d;have:=y.d;have:=x.w;have:=y.w;have:=GH dp.toNat;exact .up h0 (by show((max (dt a) (dt b)+1:Nat):Int)<=_;omega) (by show max (hw a) (hw b+1)+1<=_;omega)
theorem Sz.let_(h0:0<=dp)(x:Sz dp a)(y:Sz dp b):Sz (dp+1) (.let_ z a b):=by
 have:=x.d;have:=y.d;have:=x.w;have:=y.w;exact .up h0 (by show((max (dt a) (dt b)+1:Nat):Int)<=_;omega) (by show hw a+hw b+1+1<=_;omega)
theorem Sz.do_(h0:0<=dp)(x:Sz dp a)(y:Sz dp b):Sz (dp+1) (.do_ a b):=by
 have:=x.d;have:=y.d;have:=x.w;have:=y.w;exact .up h0 (by show((max (dt a) (dt b)+1:Nat):Int)<=_;omega) (by show max (hw a) (hw b)+1<=_;omega)
theorem Sz.ite(h0:0<=dp)(u:Sz dp q)(x:Sz dp a)(y:Sz dp b):Sz (dp+1) (.ite q a b):=by
 have:=x.d;have:=y.d;have:=x.w;have:=y.w;have:=u.d;have:=u.w;exact .up h0 (by show((max (dt q) (max (dt a) (dt b))+1:Nat):Int)<=_;omega) (by show max (hw q) (max (hw a) (hw b))+1<=_;omega)
theorem Sz.one(h0:0<=dp)(x:Sz dp a):Sz (dp+1) (.one z a):=by
 have:=x.d;have:=x.w;exact .up h0 (by show((dt a+1:Nat):Int)<=_;omega) (by show hw a+1<=_;omega)
theorem Sz.call(h0:0<=dp)(x:Sz dp a):Sz (dp+1) (.call z a):=by
 have:=x.d;have:=x.w;exact .up h0 (by show((dt a+1:Nat):Int)<=_;omega) (by show hw a+1<=_;omega)
theorem Sz.fn(h0:0<=dp)(x:Sz dp a):Sz (dp+1) (.fn z a):=by
 have:=x.d;have:=x.w;have:=GH dp.toNat;exact .up h0 (by show((dt a+1:Nat):Int)<=_;omega) (by show 0+1<=_;omega)
theorem Sz.bb(h4:dp<=4)(x:Sz dp a):Bb a:=by
 have h1:=x.d;have h2:=x.w;have h3:2^dp.toNat<=2^4:=pow_le_pow_right (by decide) (by omega);exact⟨by omega,by omega⟩
theorem Sz.cons(x:Sz dp a)(y:Sz dp b):Sz dp (.cons a b):=by
 have h1:=x.d;have h2:=x.w;have h3:=y.d;have h4:=y.w;refine⟨by show((max (dt a) (dt b):Nat):Int)<=_;omega,λh=>by show max (dt a) (dt b)<=_;have:=x.z h;have:=y.z h;omega,by show max (hw a) (hw b)+1<=_;omega⟩
variable{P:Program}{w:World}{K:FZ}{mg:Str->Option Value}{base:Heap}{f D2 J7 E4 O3 N9:Addr}{fd F5 M4 J6 S6 R6:FuncData}
structure Gv(H:Hp)(c l dn fl:Addr)(ns:List Int)(a sh ms:Int)(g:Cx)(m:Nat)(F:Fs):Prop where
 s:GS H c l ns a sh ms
 n:DAt H m g dn
 f:FnsAt H F fl
theorem Gv.kl{H H':Hp}{c l dn fl:Addr}{ns:List Int}{a a' sh ms:Int}{g:Cx}{m:Nat}{F:Fs}(G:Gv H c l dn fl ns a sh ms g m F)(k:Kl l H H')(e:H' l=some (.lst [.int a',.int sh,.int ms]))(h:a<=a'):Gv H' c l dn fl ns a' sh ms g m F:=⟨G.s.kl k e h,G.n.kl k G.s.sp,G.f.kl k G.s.sp⟩
theorem Gv.same{H H':Hp}{c l dn fl:Addr}{ns:List Int}{a sh ms:Int}{g:Cx}{m:Nat}{F:Fs}(G:Gv H c l dn fl ns a sh ms g m F)(k:Same H H'):Gv H' c l dn fl ns a sh ms g m F:=G.kl (Kl.of k) (k _ _ G.s.sp) (Int.le_refl _)
noncomputable def Mk(H:Hp)(l:Addr)(a sh ms:Int)(F:Fs)(g:Cx)(k:Kd)(cost:Int)(R:Tm->Prop)(Q:VK):Prop:=
 ∀(t:Tm) (v:V) (a':Int) H',Kl l H H'->H' l=some (.lst [.int a',.int sh,.int ms])->a<=a'->a'<=a+cost->T1 H' t v->Ty F g t (.t k)->R t->Q v H'
inductive spGoodW (d:Nat) (vs:List V) (H:Hp) (Q:VK):Prop
 |mk:∀(c l dn fl:Addr) (ns:List Int) (a sh ms:Int) (g:Cx) (m:Nat) (F:Fs) (k:Kd) (kv:V) (dp:Int),(vs=[.ref c,.ref l,kv,.ref dn,.ref fl,.int dp])->(Gv H c l dn fl ns a sh ms g m F)->(a+gc d<=2^48)->(m+d<=40)->(KA H k kv)->(dk k+d<=8)->(d<=4)->(dp<=d)->(Mk H l a sh ms F g k (gc d) (Sz dp) Q)->spGoodW d vs H Q
noncomputable def AY(d:Nat):Sp:=λvs H Q _=>spGoodW d vs H Q
inductive spCommonW (d:Nat) (vs:List V) (H:Hp) (Q:VK):Prop
 |mk:∀(c l dn fl:Addr) (ns:List Int) (a sh ms:Int) (g:Cx) (m:Nat) (F:Fs) (k:Kd) (kv:V) (dp:Int),(vs=[.ref c,.ref l,kv,.ref dn,.ref fl,.int dp])->(Gv H c l dn fl ns a sh ms g m F)->(a+4*gc d+10<=2^48)->(m+d+1<=40)->(KA H k kv)->(dk k+d+1<=8)->(d<=3)->(dp<=d)->(0<=dp)->(Mk H l a sh ms F g k (3+4*gc d) (Sz (dp+1)) Q)->spCommonW d vs H Q
noncomputable def NQ(d:Nat):Sp:=λvs H Q _=>spCommonW d vs H Q
inductive spOwnW (d:Nat) (vs:List V) (H:Hp) (Q:VK):Prop
 |mk:∀(c l dn fl:Addr) (ns:List Int) (a sh ms:Int) (g:Cx) (m:Nat) (F:Fs) (k:Kd) (kv:V) (dp:Int),(vs=[.ref c,.ref l,kv,.ref dn,.ref fl,.int dp])->(Gv H c l dn fl ns a sh ms g m F)->(a+2*gc d+10<=2^48)->(m+d+1<=40)->(KA H k kv)->(dk k+d+1<=8)->(d<=3)->(dp<=d)->(0<=dp)->(Mk H l a sh ms F g k (2+2*gc d) (Sz (dp+1)) Q)->spOwnW d vs H Q
noncomputable def WQ(d:Nat):Sp:=λvs H Q _=>spOwnW d vs H Q
inductive spSomeW (d:Nat) (vs:List V) (H:Hp) (Q:VK):Prop
 |mk:∀(c l dn fl kl:Addr) (ns:List Int) (a sh ms:Int) (g:Cx) (m:Nat) (F:Fs) (ks:List Kd) (us:List V) (dp:Int),(vs=[.ref c,.ref l,.ref kl,.ref dn,.ref fl,.int dp])->(Gv H c l dn fl ns a sh ms g m F)->(a+(ks.length:Int)*gc d<=2^48)->(m+d<=40)->(H kl=some (.lst us))->(All2 (KA H) ks us)->(ks.length<=4)->((∀k∈ks,dk k+d<=8))->(d<=4)->(dp<=d)->(∀(r:Addr) (ts:List Tm) (vs:List V) (a':Int) H',H r=none->Kl l H H'->H' l=some (.lst [.int a',.int sh,.int ms])->a<=a'->a'<=a+(ks.length:Int)*gc d->H' r=some (.lst vs)->All2 (T1 H') ts vs->All2 (λt k=>Ty F g t (.t k)/\Sz dp t) ts ks->Q (.ref r) H')->spSomeW d vs H Q
noncomputable def LN(d:Nat):Sp:=λvs H Q _=>spSomeW d vs H Q
theorem ok_some{d:Nat}(F:Fun K "_law_some" "_law_some" X7 f fd)
  (C7:FnOk P w K mg base CX0 (4*d+12) E4 J6 W7 (AY d))(F4:Binds K J6 W7 [])(G0:kZ K (.ref E4)=true)(F6:mg "_law_good"=some (.ref E4)):
  FnOk P w K mg base CX0 (4*d+13) f fd NP (LN d):=by
 refine F.ok sc_law_some (λvs H Q E h=> ?_) (λcdv A outer s H vs Q E hr h=> ?_)
 ·obtain⟨c,l,dn,fl,kl,ns,a,sh,ms,g,m,F,ks,us,dp,rfl,_⟩:=h;rfl
 obtain⟨c,l,dn,fl,kl,ns,a,sh,ms,g,m,F,ks,us,dp,rfl,G,hal,hm,hkl,hks,hk4,hkd,hd4,hdp,q⟩:=h;have nd:=sc_law_some.nd;have hu:=hr.units0;have hgc:=KD d;have hne:kl≠l:=CH G.s.sp hkl hks λ_ _=>LZ;have hul:=hks.len;refine⟨_,(A8 (B5 (Y6 (cS (N:=IV) (sc:=B3 X7) (caps:=[0,1,3,4,5]) (ns:=["_law_cells","_law_spot","_law_names_here","_law_funs","_law_depth"])) rfl rfl rfl (V7 (K:=K) (pv 2)) (λ_ _ _ _ _=>T4) (λ_ _ _ _ _=>(C0 C7 (hr.mono (by omega)) rfl F6 G0 F4 .nil D8 (A0 (pv 1) (A0 (pv 2) (A0 (pv 0) (A0 (pv 3) (A0 (pv 4) (A0 (pv 5) A4))))))))))), ?_⟩;refine⟨_,rfl,kl,rfl,⟨_,SqL.of hkl⟩,U4 (xs:=us) (λi ys H'=>∃(a':Int) (ts:List Tm),Kl l H H'/\H' l=some (.lst [.int a',.int sh,.int ms])/\a<=a'/\a'<=a+(i:Int)*gc d/\All2 (T1 H') ts ys/\All2 (λt k=>Ty F g t (.t k)/\Sz dp t) ts (ks.take i)/\ys.length=i) ⟨a,[],Kl.refl _ _,G.s.sp,Int.le_refl _,by simp,.nil,.nil,rfl⟩ ?_ ?_ ?_⟩
 ·rintro i ys H' hi ⟨a',ts,kk,_,_,_,_,_,hyl⟩;exact⟨SqL.of (kk _ _ hkl hne),by rw[hyl];exact Nat.le_trans hi (Nat.le_trans (by omega:us.length<=4) (by decide))⟩
 ·rintro i x ys H' hx ⟨a',ts,kk,hl',ha1,ha2,hts,hty,hyl⟩;refine Y0 ?_;obtain⟨k,hk,hkx⟩:=hks.get hx;have hi:i<us.length:=(List.getElem?_eq_some_iff.mp hx).1;have hmul:((i:Int)+1)*gc d<=(ks.length:Int)*gc d:=Int.mul_le_mul_of_nonneg_right (by omega) (by omega);rw[Int.add_mul,Int.one_mul]at hmul;refine⟨_,rfl,_,rfl,_,rfl,_,rfl,_,rfl,_,rfl,c,l,dn,fl,ns,a',sh,ms,g,m,F,k,x,dp,rfl,G.kl kk hl' ha1,by omega,hm,hkx.mono (kk.tups G.s.sp),hkd k (mem_of_getElem? hk),hd4,hdp,λt v a2 H4 k4 hl4 h3 h4 ht hT hdt=> ?_⟩;refine⟨a2,ts++ [t],kk.trans k4,hl4,by omega, ?_,(hts.imp λ_ _ h=>h.mono (k4.tups hl')).app (.cons ht .nil), ?_,by rw[length_append,hyl];rfl⟩
  ·rw[Int.natCast_succ,Int.add_mul,Int.one_mul];omega
  ·rw[BV.take_one hk];exact hty.app (.cons ⟨hT,hdt⟩ .nil)
 rintro ys H4 ⟨a',ts,kk,hl',ha1,ha2,hts,hty,hyl⟩ r hr0;have s5:=A2 hr0 (.lst ys);rw[<-hul,take_of_length_le (Nat.le_refl _)]at hty;have hr1:H r=none:=by
  cases e:H r with
  |none=>rfl
  |some o=>
   by_cases c:r=l
   ·subst c;rw[hl']at hr0;cases hr0
   ·rw[kk _ _ e c]at hr0;cases hr0
 exact q r ts ys a' _ hr1 (kk.trans (Kl.of s5)) (s5 _ _ hl') ha1 (by rw[hul];exact ha2) A1 (hts.imp λ_ _ h=>h.mono (A5 s5)) hty
theorem SH{d L LC LO:Nat}{spC spO:Sp}(hL:11<=L)(hLC:LC<=L)(hLO:LO<=L)(hC:∀d',d=d'+1->∀vs H Q E,NQ d' vs H Q E->spC vs H Q E)(hO:∀d',d=d'+1->∀vs H Q E,WQ d' vs H Q E->spO vs H Q E)(F:Fun K "_law_good" "_law_good" BE f fd)
  (E3:FnOk P w K mg base CX0 1 D2 F5 ET EJ)(F7:Binds K F5 ET [])(F9:kZ K (.ref D2)=true)(F8:mg "_law_cell"=some (.ref D2))
  (M7:FnOk P w K mg base CX0 11 J7 M4 JK (GE 8))(L0:Binds K M4 JK [])(L7:kZ K (.ref J7)=true)(L4:mg "_law_leaf"=some (.ref J7))
  (AN:FnOk P w K mg base CX0 LC O3 S6 W7 spC)(S7:Binds K S6 W7 [])(S8:kZ K (.ref O3)=true)(T0:mg "_law_common"=some (.ref O3))
  (X2:FnOk P w K mg base CX0 LO N9 R6 W7 spO)(R8:Binds K R6 W7 [])(R9:kZ K (.ref N9)=true)(S0:mg "_law_own"=some (.ref N9)):
  FnOk P w K mg base CX0 (L+1) f fd W7 (AY d):=by
 refine F.ok sc_law_good (λvs H Q E h=> ?_) (λcdv A outer s H vs Q E hr h=> ?_)
 ·obtain⟨c,l,dn,fl,ns,a,sh,ms,g,m,F,k,kv,dp,rfl,_⟩:=h;rfl
 obtain⟨c,l,dn,fl,ns,a,sh,ms,g,m,F,k,kv,dp,rfl,G,hal,hm,hk,hkd,hd4,hdp,q⟩:=h;have nd:=sc_law_good.nd;have hu:=hr.units0;have hgc:=KD d;refine⟨_,(A6 (sS 6 nd (C0 E3 (hr.mono (by omega)) rfl F8 F9 F7 .nil D8 (A0 (pv 0) (A0 (pv 1) A4))))
   (A6 (E6 (B8 (PW.pt (BX (B0 IM (pv 5) A3 rfl) (BX (B0 (kEq (K:=K) hu) (B4 C5 (pv 6) A3) A3 rfl) (CG (B0 Y4 (ixE K w (pv 1) A3) (ixE K w (pv 1) A3) rfl))))) (A8 (B5 (C0 M7 (hr.mono (by omega)) rfl L4 L7 L0 .nil D8 (A0 (pv 0) (A0 (pv 1) (A0 (pv 2) (A0 (pv 3) A4))))))) B6))
   (A6 (B8 (B0 IM (B4 C5 (pv 6) A3) A3 rfl) (A8 (B5 (C0 AN (hr.mono (by omega)) rfl T0 S8 S7 .nil D8 (A0 (pv 0) (A0 (pv 1) (A0 (pv 2) (A0 (pv 3) (A0 (pv 4) (A0 (B4 U5 (pv 5) A3) A4))))))))) B6)
   (A8 (B5 (C0 X2 (hr.mono (by omega)) rfl S0 R9 R8 .nil D8 (A0 (pv 0) (A0 (pv 1) (A0 (pv 2) (A0 (pv 3) (A0 (pv 4) (A0 (B4 U5 (pv 5) A3) A4)))))))))))), ?_⟩
 refine⟨_,rfl,_,rfl,c,l,ns,a,sh,ms,rfl,G.s,by omega,λx H1 x0 x1 k1 hl1=> ?_⟩;have G1:=G.kl k1 hl1 (by omega);have hk1:=hk.mono (k1.tups G.s.sp);have hlc:=duZ (k:=k) (by omega);have leaf:∀E':XK,GE 8 [.ref c,.ref l,kv,.ref dn] H1 Q E':=λE'=>⟨c,l,dn,ns,a+1,sh,ms,g,m,k,kv,rfl,G1.s,by omega,G1.n,by omega,hk1,by omega,by omega,λt v a' H' h1 h2 h3 h4 h5 h6 h7=>q t v a' H' (k1.trans h1) h2 (by omega) (by omega) h5 (h6 F) (h7.sz (by omega) dp)⟩;refine⟨fun σ' H'=>σ'=[some (.ref c),some (.ref l),some kv,some (.ref dn),some (.ref fl),some (.int dp),some (.int x)]/\H1=H'/\1<=dp, ?_, ?_⟩
 ·refine⟨_,rfl,_,_,rfl,rfl,_,rfl,K6 (λc1=>ifT rfl ⟨_,rfl,_,rfl,_,rfl,_,rfl,leaf E⟩) (λc1=> ?_)⟩;have c1':¬dp<1:=λz=>c1 (decide_eq_true z);refine⟨_,rfl,_,_,rfl,rfl,(by decide:(0:Int)<6),.inl ⟨rfl,_,rfl,K6 (λc2=>ifT rfl ⟨_,rfl,_,rfl,_,rfl,_,rfl,leaf E⟩) (λc2=> ?_)⟩⟩;refine⟨_,rfl,(ixL hl1 rfl ⟨_,rfl,(ixL hl1 rfl ⟨_,_,rfl,rfl,_,rfl,K6 (λc3=>⟨_,rfl,_,rfl,_,rfl,_,rfl,leaf E⟩) (λc3=>⟨rfl,rfl,by omega⟩)⟩)⟩)⟩
 rintro _ _ ⟨rfl,rfl,hdp1⟩;obtain⟨d',rfl⟩:∃d',d=d'+1:=⟨d - 1,by omega⟩;have hgd:gc (d'+1)=5*gc d':=rfl;have hgc':=KD d';refine⟨_,rfl,_,_,rfl,rfl,(by decide:(0:Int)<6),_,_,rfl,rfl,_,rfl,K6 (λc1=> ?_) (λc1=> ?_)⟩
 ·exact⟨_,rfl,_,rfl,_,rfl,_,rfl,_,rfl,_,rfl,_,_,rfl,rfl,hC d' rfl _ _ _ _ ⟨c,l,dn,fl,ns,a+1,sh,ms,g,m,F,k,kv,dp - 1,rfl,G1,by omega,by omega,hk1,by omega,by omega,by omega,by omega,λt v a' H' h1 h2 h3 h4 h5 h6 h7=>q t v a' H' (k1.trans h1) h2 (by omega) (by omega) h5 h6 (by rwa [Int.sub_add_cancel]at h7)⟩⟩
 ·exact⟨_,rfl,_,rfl,_,rfl,_,rfl,_,rfl,_,rfl,_,_,rfl,rfl,hO d' rfl _ _ _ _ ⟨c,l,dn,fl,ns,a+1,sh,ms,g,m,F,k,kv,dp - 1,rfl,G1,by omega,by omega,hk1,by omega,by omega,by omega,by omega,λt v a' H' h1 h2 h3 h4 h5 h6 h7=>q t v a' H' (k1.trans h1) h2 (by omega) (by omega) h5 h6 (by rwa [Int.sub_add_cancel]at h7)⟩⟩
inductive spTakerW (vs:List V) (H:Hp) (Q:VK):Prop
 |mk:∀(x:Int) (dn:Addr) (m:Nat) (g:Cx) (z:Str) (ov:V),(vs=[.int x,.ref dn,.str z,ov])->(DAt H m g dn)->(m<=60)->((∀H',Same H H'->Q ov H'))->(∀(t:Tm) (v:V) H',Same H H'->T1 H' t v->(∀F,Ty F g t (.t (.fn .num .num)))->(∀dp,Sz dp t)->Q v H')->spTakerW vs H Q
noncomputable def HF:Sp:=λvs H Q _=>spTakerW vs H Q
theorem ok_law_taker(F:Fun K "_law_taker" "_law_taker" Z0 f fd)(B:NoL mg):FnOk P w K mg base CX0 1 f fd q3L HF:=by
 refine F.ok sc_law_taker (λvs H Q E h=> ?_) (λcdv A outer s H vs Q E hr h=> ?_)
 ·obtain⟨x,dn,m,g,z,ov,rfl,_⟩:=h;rfl
 obtain⟨x,dn,m,g,z,ov,rfl,⟨kvs,zs,hDA⟩,hm,q0,q⟩:=h;have nd:=sc_law_taker.nd;have hu:=hr.units0;refine⟨_,(A6 (O6 (i:=4) nd rfl rfl (cS (N:=GU) (sc:=B3 Z0) (caps:=[2,1]) (ns:=["_law_own_here","_law_names_here"])) rfl rfl rfl (V7 (K:=K) (O0 (II rfl) rfl B.sorted_ KJ (A0 (pv 1) A4))) (λ_ _ _ _ _=>(Y5 (PW.pt (P0 (B0 (IR (K:=K) hr.units) (HJ hr.u1 (pv 2) (pv 0) (λ_ _=>rfl)) (A9 (A0 A7 A4)) rfl) (N8 (B0 (kNe (K:=K) hu) (pv 0) (pv 1) rfl)))))) (λ_ _ _ _ _=>(pv 0)))
   (A6 (E6 (B8 (PW.pt (BX (B0 IM (kL K B.len_ (pv 4)) A3 rfl) (CG (B0 (kEq (K:=K) hu) (B4 C5 (pv 0) A3) A3 rfl)))) (A8 (B5 (pv 3))) B6))
   (A6 (sS 5 nd (A9 (A0 A7 (A0 (ixE K w (pv 4) (B4 C5 (B4 B9 (pv 0) A3) (kL K B.len_ (pv 4)))) A4))))
   (A6 (sS 6 nd (A9 (A0 A7 (A0 (ixE K w (pv 4) (B4 C5 (B4 P7 (B4 B9 (pv 0) A3) A3) (kL K B.len_ (pv 4)))) A4))))
   (A8 (B5 (A9 (A0 A7 (A0 (pv 2) (A0 (A9 (A0 A7 (A0 A7 (A0 (A9 (A0 A7 (A0 (DG ix_str A7 (B4 C5 (B4 B9 (pv 0) A3) A3) (λ_ _=>rfl)) (A0 (A9 (A0 A7 (A0 (pv 2) A4))) (A0 (pv 5) A4))))) (A0 (pv 6) A4))))) A4)))))))))), ?_⟩
 refine⟨_,rfl,dn,kvs,zs,rfl,hDA.at_,hDA.keys,(by have:=hDA.len;omega),λl2 zs' hl2 hpm=>⟨l2,rfl,⟨_,SqL.of A1⟩, ?_⟩⟩;have s2:=A2 hl2 (.lst (zs'.map V.str));have hl2':(upd H l2 (.lst (zs'.map V.str))) l2=some (.lst (zs'.map V.str)):=A1;generalize upd H l2 (.lst (zs'.map V.str))=H2 at s2 hl2'⊢;have hzl:zs'.length<=60:=by rw[hpm.length_eq];exact Nat.le_trans hDA.len hm
 refine U4 (xs:=zs'.map V.str) (λi ys H'=>Same H2 H'/\∃fs:List Str,ys=fs.map V.str/\fs.length<=i/\∀y∈fs,g y=some .num/\y≠z) ⟨Same.refl _,[],rfl,Nat.le_refl _,λz hz=>nomatch hz⟩ ?_ ?_ ?_
 ·rintro i ys H' hi ⟨sm,fs,rfl,hf,_⟩;refine⟨SqL.of (sm _ _ hl2'), ?_⟩;rw[length_map]at hi⊢;have:(64:Nat)<=sizeLine:=by decide
  omega
 ·rintro i y0 ys H' hy0 ⟨sm,fs,rfl,hf,hfk⟩;obtain⟨y,hy,rfl⟩:∃z,zs'[i]? =some z/\V.str z=y0:=by
   rw[getElem?_map]at hy0;exact map_eq_some_iff.mp hy0
  obtain⟨v,hv⟩:=IF hDA.keys (hpm.mem_iff.mp (mem_of_getElem? hy));obtain⟨kz,e1,e2,e3⟩:=hDA.val y v hv;have s2':=s2.trans sm;refine⟨_,rfl,_,rfl,dn,v,rfl,by rw[<-hv];exact DGet.k (k:=.inr y) (s2' _ _ hDA.at_),L8,λp hp=> ?_⟩;have s3:=A2 hp (.tup [.str "number"]);refine CC ((e2.mono (A5 s2')).mono (A5 s3)) (.num A1) (by omega) ⟨_,rfl,K6 (λc1=> ?_) (λc1=>ifF nZ ⟨sm.trans s3,fs,rfl,by omega,hfk⟩)⟩;refine⟨_,rfl,_,rfl,.inl ⟨rfl,_,rfl,K6 (λc2=>⟨_,rfl,sm.trans s3,fs++ [y],by rw[map_append];rfl,by rw[length_append];simp only[length_cons,length_nil];omega,λu hu'=> ?_⟩) (λc2=>⟨sm.trans s3,fs,rfl,by omega,hfk⟩)⟩⟩;rcases mem_append.mp hu' with h|h
  ·exact hfk u h
  ·rw[sZ h];exact⟨by rw[e1,of_decide_eq_true c1],λe=>by subst e;revert c2;simp⟩
 rintro ys H3 ⟨sm,fs,rfl,hfl,hfs⟩ l3 hl3;have s3:=s2.trans (sm.trans (A2 hl3 (.lst (fs.map V.str))));have hf3:(upd H3 l3 (.lst (fs.map V.str))) l3=some (.lst (fs.map V.str)):=A1;show P9 _ _ _ [some (.int x),some (.ref dn),some (.str z),some ov,some (.ref l3),none,none] (upd H3 l3 (.lst (fs.map V.str)));generalize upd H3 l3 (.lst (fs.map V.str))=H4 at s3 hf3⊢;refine⟨fun σ' H'=>σ'=[some (.int x),some (.ref dn),some (.str z),some ov,some (.ref l3),none,none]/\H4=H'/\(0:Int)<((fs.map V.str).length:Nat), ?_, ?_⟩
 ·refine⟨_,rfl,_,_,rfl,.inl ⟨_,SqL.of hf3,rfl⟩,_,_,rfl,rfl,_,rfl,K6 (λc1=>ifT rfl ⟨_,rfl,q0 _ s3⟩) (λc1=> ?_)⟩;have c1':¬((fs.map V.str).length:Int)<2:=λz=>c1 (decide_eq_true z);exact⟨_,rfl,_,_,rfl,rfl,(by decide:(0:Int)<3),.inl ⟨rfl,_,rfl,K6 (λc2=>⟨_,rfl,q0 _ s3⟩) (λc2=>⟨rfl,rfl,by omega⟩)⟩⟩
 rintro _ _ ⟨rfl,rfl,hpos⟩;obtain⟨z1,hz1,hm1⟩:=BH (ss:=fs) (j:=x.fdiv 3%((fs.map V.str).length:Nat)) (Int.emod_nonneg _ (Int.ne_of_gt hpos)) (by have:=Int.emod_lt_of_pos (x.fdiv 3) hpos;rwa [length_map]at this⊢);obtain⟨z2,hz2,hm2⟩:=BH (ss:=fs) (j:=(x.fdiv 3+1)%((fs.map V.str).length:Nat)) (Int.emod_nonneg _ (Int.ne_of_gt hpos)) (by have:=Int.emod_lt_of_pos (x.fdiv 3+1) hpos;rwa [length_map]at this⊢);refine⟨_,rfl,_,rfl,_,_,rfl,rfl,lg (by decide) (by decide),_,rfl,_,_,rfl,.inl ⟨_,SqL.of hf3,rfl⟩,_,_,rfl,rfl,hpos,(ixL hf3 hz1 ⟨D1,λp1 hp1=> ?_⟩)⟩;have t1:=A2 hp1 (.tup [.str "name",.str z1]);refine⟨_,rfl,_,rfl,_,_,rfl,rfl,lg (by decide) (by decide),.inl ⟨_,_,rfl,rfl,_,rfl,_,_,rfl,.inl ⟨_,SqL.of (t1 _ _ hf3),rfl⟩,_,_,rfl,rfl,hpos,(ixL (t1 _ _ hf3) hz2 ⟨D1,λp2 hp2=> ?_⟩)⟩⟩;have t2:=A2 hp2 (.tup [.str "name",.str z2]);obtain⟨cc,sk,hc,hsk,ecs⟩:=ND (z:="+*") (ks:=[0,2]) (by decide +kernel) (by decide) (by decide +kernel) (j:=x.fdiv 30%2) (Int.emod_nonneg _ (by decide)) (Int.emod_lt_of_pos _ (by decide));have hsk6:sk<3:=by revert hsk;simp;omega
 refine⟨_,rfl,_,rfl,_,_,rfl,rfl,lg (by decide) (by decide),_,_,rfl,rfl,(by decide:(0:Int)<2),"+*",_,cc,rfl,rfl,(by decide +kernel),hc,_,rfl,D1,λp3 hp3=>⟨_,rfl,P2,λp4 hp4=>⟨_,rfl,P2,λp5 hp5=>⟨D9,λp6 hp6=> ?_⟩⟩⟩⟩;rw[ecs]at hp5 hp6⊢;have t3:=A2 hp3 (.tup [.str "name",.str z]);have t4:=A2 hp4 (.tup [.str "two",.str (sg sk),.ref p3,.ref p1]);have t5:=A2 hp5 (.tup [.str "two",.str "-",.ref p4,.ref p2]);have t6:=A2 hp6 (.tup [.str "fn",.str z,.ref p5]);have e6:=t5.trans t6;have e5:=t4.trans e6;have e4:=t3.trans e5;have e3:=t2.trans e4;obtain⟨g1,n1⟩:=hfs z1 hm1;obtain⟨g2,n2⟩:=hfs z2 hm2;have up1:up g z .num z1=some .num:=by unfold up;rw[if_neg (λe=>n1 e.symm)];exact g1
 have up2:up g z .num z2=some .num:=by unfold up;rw[if_neg (λe=>n2 e.symm)];exact g2
 have up0:up g z .num z=some .num:=by unfold up;rw[if_pos rfl]
 refine q (.fn z (.two "-" (.two (sg sk) (.name z) (.name z1)) (.name z2))) _ _ (s3.trans (t1.trans e3)) (.fn A1 (.two (t6 _ _ A1) (.two (e6 _ _ A1) (.name (e5 _ _ A1)) (.name (e3 _ _ A1))) (.name (e4 _ _ A1)))) (λF=> .fn ?_ ⟨by show 3<=19;decide,by show 1<=49;decide⟩) (FF (by show 4<=4;decide) (by show 0<=1;decide));have ek:(if sk=3\/sk=4 then Kd.tru else Kd.num)=.num:=if_neg (by omega);have h1:=Ty.two (F:=F) (g:=up g z .num) (k:=sk) (by omega) (.name up0) (.name up1);rw[ek]at h1;exact Ty.two (F:=F) (k:=1) (by decide) h1 (.name up2)
end
noncomputable abbrev T3:Stmt:=BV.top 46
noncomputable abbrev FG:List Str:=["_law_cells","_law_spot","_law_kind_here","_law_names_here","_law_funs","_law_depth","_law_cell_here","_law_own_here","_law_fits","_law_parts","_law_name_here","_law_first","_law_one_here"]
theorem sc_law_common:FnScope FG W7 (B3 T3):=fS
noncomputable def T6:List Tm->Tm
 | []=> .nil
 |t::r=> .cons t (T6 r)
theorem LR{H:Hp}:∀ {ts:List Tm} {vs:List V},All2 (T1 H) ts vs->TA H (T6 ts) (.inr vs)
 |_,_,.nil=> .nil
 |_,_,.cons h r=> .cons h (LR r)
theorem bEZ(dp:Int):Sz dp .nil:=by
 have:=GH dp.toNat;exact⟨by show(0:Int)<=_;omega,λ_=>zero_le _,by show 0+1<=_;omega⟩
theorem NY{F:Fs}{g:Cx}{D:Int}:∀ {ts:List Tm} {ks:List Kd},All2 (λt k=>Ty F g t (.t k)/\Sz D t) ts ks->Ty F g (T6 ts) (.r ks)/\Sz D (T6 ts)
 |_,_,.nil=>⟨.nil,bEZ _⟩
 |_,_,.cons h r=>⟨.cons h.1 (NY r).1,h.2.cons (NY r).2⟩
theorem CZ:∀ {F:Fs} {x:Str×List Kd×Kd},(F.map (·.1)).Nodup->x∈F->F.lookup x.1=some x.2
 |y::F,x,hn,hx=>by
  rw[map_cons,nodup_cons]at hn;rw[show(y::F)=(y.1,y.2)::F from rfl,lookup_cons];rcases cZ hx with rfl|hx
  ·simp
  ·have:(x.1==y.1)=false:=by
    simp only[beq_eq_false_iff_ne,ne_eq];intro e;exact hn.1 (e▸mem_map_of_mem hx)
   rw[this];exact CZ hn.2 hx
theorem FhA.same{H H':Hp}(k:Same H H'){x:Str×List Kd×Kd}{u:V}(h:FhA H x u):FhA H' x u:=by
 obtain⟨p,q,us,w,e,h1,h2,h3,h4⟩:=h;exact⟨p,q,us,w,e,k _ _ h1,k _ _ h2,h3.imp λ_ _ h=>h.mono (A5 k),h4.mono (A5 k)⟩
section
variable{P:Program}{w:World}{K:FZ}{mg:Str->Option Value}{base:Heap}{f D2 L6 L5 D4 C6 O2 E4 N9:Addr}{fd F5 O4 O5 G9 D5 R7 J6 R6:FuncData}
theorem UH{d:Nat}(F:Fun K "_law_common" "_law_common" T3 f fd)(B:NoL mg)
  (E3:FnOk P w K mg base CX0 1 D2 F5 ET EJ)(F7:Binds K F5 ET [])(F9:kZ K (.ref D2)=true)(F8:mg "_law_cell"=some (.ref D2))
  (K7:FnOk P w K mg base CX0 1 L6 O4 q5L IX)(Q8:Binds K O4 q5L [])(Q9:kZ K (.ref L6)=true)(Q7:mg "_law_kind"=some (.ref L6))
  (D3:FnOk P w K mg base CX0 2 D4 G9 EV BI)(K0:Binds K G9 EV [])(K1:kZ K (.ref D4)=true)(J9:mg "_law_names"=some (.ref D4))
  (C8:FnOk P w K mg base CX0 1 C6 D5 BB CF)(E9:Binds K D5 BB [])(F1:kZ K (.ref C6)=true)(E8:mg "_law_with"=some (.ref C6))
  (N4:FnOk P w K mg base CX0 1 O2 R7 q3L HF)(Y2:Binds K R7 q3L [])(Y1:kZ K (.ref O2)=true)(Y3:mg "_law_taker"=some (.ref O2))
  (K3:FnOk P w K mg base CX0 (4*d+13) L5 O5 NP (LN d))(M3:Binds K O5 NP [])(M5:kZ K (.ref L5)=true)(M6:mg "_law_some"=some (.ref L5))
  (C7:FnOk P w K mg base CX0 (4*d+12) E4 J6 W7 (AY d))(F4:Binds K J6 W7 [])(G0:kZ K (.ref E4)=true)(F6:mg "_law_good"=some (.ref E4))
  (X2:FnOk P w K mg base CX0 (4*d+14) N9 R6 W7 (WQ d))(R8:Binds K R6 W7 [])(R9:kZ K (.ref N9)=true)(S0:mg "_law_own"=some (.ref N9)):
  FnOk P w K mg base CX0 (4*d+15) f fd W7 (NQ d):=by
 refine F.ok sc_law_common (λvs H Q E h=> ?_) (λcdv A outer s H vs Q E hr h=> ?_)
 ·obtain⟨c,l,dn,fl,ns,a,sh,ms,g,m,F,k,kv,dp,rfl,_⟩:=h;rfl
 obtain⟨c,l,dn,fl,ns,a,sh,ms,g,m,F,k,kv,dp,rfl,G,hal,hm,hk,hkd,hd3,hdp,hd0,q⟩:=h;have nd:=sc_law_common.nd;have hu:=hr.units0;have hgc:=KD d;refine⟨_,(A6 (sS 6 nd (C0 E3 (hr.mono (by omega)) rfl F8 F9 F7 .nil D8 (A0 (pv 0) (A0 (pv 1) A4))))
   (A6 (sS 7 nd (C0 K7 (hr.mono (by omega)) rfl Q7 Q9 Q8 .nil D8 (A0 (B4 B9 (pv 6) A3) A4)))
   (A6 (O6 (i:=8) nd rfl rfl (cS (N:=FG) (sc:=B3 T3) (caps:=[2]) (ns:=["_law_kind_here"])) rfl rfl rfl (V7 (K:=K) (pv 4)) (λ_ _ _ _ _=>(Y5 (B0 (IR (K:=K) hr.units) (ixE K w (pv 0) A3) (pv 1) rfl))) (λ_ _ _ _ _=>(pv 0)))
   (A6 (B8 (B0 (kEq (K:=K) hu) (B4 C5 (pv 6) A3) A3 rfl) (A6 (sS 9 nd (C0 K3 (hr.mono (by omega)) rfl M6 M5 M3 .nil D8 (A0 (pv 0) (A0 (pv 1) (A0 (E5 (A0 (A9 (A0 A7 A4)) (A0 (pv 2) (A0 (pv 2) A4)))) (A0 (pv 3) (A0 (pv 4) (A0 (pv 5) A4))))))))
   (A8 (B5 (A9 (A0 A7 (A0 (ixE K w (pv 9) A3) (A0 (ixE K w (pv 9) A3) (A0 (ixE K w (pv 9) A3) A4)))))))) B6)
   (A6 (B8 (B0 (kEq (K:=K) hu) (B4 C5 (pv 6) A3) A3 rfl) (A6 (sS 10 nd (ixE K w (C0 D3 (hr.mono (by omega)) rfl J9 K1 K0 .nil D8 (A0 (ixE K w (pv 1) A3) A4)) (B4 C5 (B4 B9 (pv 6) A3) A3)))
   (A6 (sS 11 nd (C0 C7 (hr.mono (by omega)) rfl F6 G0 F4 .nil D8 (A0 (pv 0) (A0 (pv 1) (A0 (pv 7) (A0 (pv 3) (A0 (pv 4) (A0 (pv 5) A4))))))))
   (A8 (B5 (A9 (A0 A7 (A0 (pv 10) (A0 (pv 11) (A0 (C0 C7 (hr.mono (by omega)) rfl F6 G0 F4 .nil D8 (A0 (pv 0) (A0 (pv 1) (A0 (pv 2) (A0 (C0 C8 (hr.mono (by omega)) rfl E8 F1 E9 .nil D8 (A0 (pv 3) (A0 (pv 10) (A0 (pv 7) A4)))) (A0 (pv 4) (A0 (pv 5) A4))))))) A4))))))))) B6)
   (A6 (B8 (B0 (kEq (K:=K) hu) (B4 C5 (pv 6) A3) A3 rfl) (A6 (sS 9 nd (C0 K3 (hr.mono (by omega)) rfl M6 M5 M3 .nil D8 (A0 (pv 0) (A0 (pv 1) (A0 (E5 (A0 (A9 (A0 A7 (A0 (pv 7) (A0 (pv 2) A4)))) (A0 (pv 7) A4))) (A0 (pv 3) (A0 (pv 4) (A0 (pv 5) A4))))))))
   (A6 (E6 (B8 (NT (IR (K:=K) hr.units) (IR (K:=K) hr.units) (pv 7) (pv 2) (A9 (A0 A7 A4))) (A8 (CU (C0 N4 (hr.mono (by omega)) rfl Y3 Y1 Y2 .nil D8 (A0 (B4 B9 (pv 6) A3) (A0 (pv 3) (A0 (ixE K w (C0 D3 (hr.mono (by omega)) rfl J9 K1 K0 .nil D8 (A0 (ixE K w (pv 1) A3) A4)) A3) (A0 (ixE K w (pv 9) A3) A4))))) (BZ (pv 9) A3 AF))) B6))
   (A8 (B5 (A9 (A0 A7 (A0 (ixE K w (pv 9) A3) (A0 (ixE K w (pv 9) A3) A4)))))))) B6)
   (A6 (E6 (B8 (PW.pt (P0 (B0 (kEq (K:=K) hu) (B4 C5 (pv 6) A3) A3 rfl) (N8 (B0 (kEq (K:=K) hu) (B4 C5 (B4 B9 (pv 6) A3) A3) A3 rfl)))) (A8 (B5 (A9 (A0 A7 (A0 A7 (A0 (C0 C7 (hr.mono (by omega)) rfl F6 G0 F4 .nil D8 (A0 (pv 0) (A0 (pv 1) (A0 (A9 (A0 A7 (A0 (pv 2) A4))) (A0 (pv 3) (A0 (pv 4) (A0 (pv 5) A4))))))) A4)))))) B6))
   (A6 (B8 (B0 (kEq (K:=K) hu) (kL K B.len_ (pv 8)) A3 rfl) (A8 (B5 (C0 X2 (hr.mono (by omega)) rfl S0 R9 R8 .nil D8 (A0 (pv 0) (A0 (pv 1) (A0 (pv 2) (A0 (pv 3) (A0 (pv 4) (A0 (pv 5) A4))))))))) B6)
   (A6 (sS 12 nd (ixE K w (pv 8) (B4 C5 (B4 B9 (pv 6) A3) (kL K B.len_ (pv 8)))))
   (A8 (B5 (A9 (A0 A7 (A0 (ixE K w (pv 12) A3) (A0 (D6 (CW (K:=K)) rfl B.tuple_ T7 (A0 (C0 K3 (hr.mono (by omega)) rfl M6 M5 M3 .nil D8 (A0 (pv 0) (A0 (pv 1) (A0 (ixE K w (pv 12) A3) (A0 (pv 3) (A0 (pv 4) (A0 (pv 5) A4))))))) A4)) A4))))))))))))))), ?_⟩
 refine stp λNx eN=> ?_;refine⟨_,rfl,_,rfl,c,l,ns,a,sh,ms,rfl,G.s,by omega,λx H1 x0 x1 k1 hl1=> ?_⟩;have G1:=G.kl k1 hl1 (by omega);have hk1:=hk.mono (k1.tups G.s.sp);show Nx _ _;subst eN;refine stp λNx eN=> ?_;refine⟨_,rfl,_,_,rfl,rfl,lg (by decide) (by decide),_,rfl,λko ov H2 s2 hko hdo=> ?_⟩;have G2:=G1.same s2;have hk2:=hk1.mono (A5 s2);obtain⟨fus,hfl,hfus⟩:=G2.f.at_;have hFl:=G2.f.le;have hful:=hfus.len;show Nx _ _;subst eN;refine stp λNx eN=> ?_;refine⟨_,rfl,fl,rfl,⟨_,SqL.of hfl⟩,U4 (xs:=fus) (λi ys H'=>H2=H'/\∃fs:Fs,All2 (FhA H2) fs ys/\fs.length<=i/\∀e∈fs,e∈F/\e.2.2=k) ⟨rfl,[],.nil,Nat.le_refl _,λe he=>nomatch he⟩ ?_ ?_ ?_⟩
 ·rintro i ys H' hi ⟨rfl,fs,hfs,hf,_⟩;refine⟨SqL.of hfl, ?_⟩;have:(100:Nat)<=sizeLine:=by decide
  rw[<-hfs.len];omega
 ·rintro i u ys H' hu' ⟨rfl,fs,hfs,hf,hfk⟩;obtain⟨e,he,hfe⟩:=hfus.get hu';obtain⟨p,q1,us,w1,rfl,hp,hq1,hus,hw⟩:=hfe;refine⟨_,rfl,(ixT hp rfl ⟨_,rfl,CC hw hk2 (by have:=(G2.f.sm e (mem_of_getElem? he)).1;omega) ⟨_,rfl,K6 (λc1=>⟨_,rfl,rfl,fs++ [e],hfs.app (.cons ⟨p,q1,us,w1,rfl,hp,hq1,hus,hw⟩ .nil),by rw[length_append];simp only[length_cons,length_nil];omega,λy hy=> ?_⟩) (λc1=>⟨rfl,fs,hfs,by omega,hfk⟩)⟩⟩)⟩;rcases mem_append.mp hy with hy|hy
  ·exact hfk y hy
  ·rw[sZ hy];exact⟨mem_of_getElem? he,of_decide_eq_true c1⟩
 rintro fys H' ⟨rfl,fs,hfs,hfsl,hfk⟩ l3 hl3;have s3:=A2 hl3 (.lst fys);have k3:Kl l H _:=k1.trans (Kl.of (s2.trans s3));have G3:=G2.same s3;have hk3:=hk2.mono (A5 s3);have hko3:=hko.mono (A5 s3);have hfs3:=hfs.imp λ_ _ h=>h.same s3;have hf3:(upd H2 l3 (.lst fys)) l3=some (.lst fys):=A1;show Nx _ _;subst eN;show P9 _ _ _ [some (.ref c),some (.ref l),some kv,some (.ref dn),some (.ref fl),some (.int dp),some (.int x),some ov,some (.ref l3),none,none,none,none] (upd H2 l3 (.lst fys));generalize upd H2 l3 (.lst fys)=H3 at k3 G3 hk3 hko3 hfs3 hf3⊢;have q3:Mk H3 l (a+1) sh ms F g k (2+4*gc d) (Sz (dp+1)) Q:=λt v a' H' h1 h2 h3 h4 h5 h6 h7=>q t v a' H' (k3.trans h1) h2 (by omega) (by omega) h5 h6 h7;clear hfs hfus hfl s2 s3 hko hk1 hk2 G1 hl1 hl3 hful;have m0:m+d<=40:=by omega
 refine stp λNx eN=> ?_;refine⟨_,rfl,_,_,rfl,rfl,(by decide:(0:Int)<5),.inl ⟨rfl,_,rfl,K6 (λc0=> ?_) (λc0=> ?_)⟩⟩
 ·refine stp λNy eY=> ?_;refine⟨_,rfl,_,rfl,L8,λp1 hp1=>⟨_,rfl,_,rfl,D9,λl4 hl4=> ?_⟩⟩;have t1:=A2 hp1 (.tup [.str "truth"]);have t2:=A2 hl4 (.lst [.ref p1,kv,kv]);have t12:=t1.trans t2;have hk4:=hk3.mono (A5 t12);refine⟨_,rfl,_,rfl,_,rfl,c,l,dn,fl,l4,ns,a+1,sh,ms,g,m,F,[.tru,k,k],_,dp,rfl,G3.same t12,(by show a+1+3*gc d<=_;omega),m0,A1,.cons (.tru (t2 _ _ A1)) (.cons hk4 (.cons hk4 .nil)),(by show 3<=4;decide),(λk' hk'=> ?_),by omega,hdp,λr ts vs a' H6 hr0 k6 hl6 h1 h2 hr hts hty=> ?_⟩
  ·rcases cZ hk' with rfl|hk'
   ·show 1+d<=8;omega
   ·rcases cZ hk' with rfl|hk'
    ·omega
    ·rw[sZ hk'];omega
  have h2:a'<=a+1+3*gc d:=h2;cases hty with
  | @cons t0 _ _ _ y0 hty=>
  cases hty with
  | @cons t1' _ _ _ y1 hty=>
  cases hty with
  | @cons t2' _ _ _ y2 hty=>
  cases hty;cases hts with
  | @cons _ v0 _ _ z0 hts=>
  cases hts with
  | @cons _ v1 _ _ z1 hts=>
  cases hts with
  | @cons _ v2 _ _ z2 hts=>
  cases hts;show Ny _ _;subst eY;refine⟨_,rfl,(ixL hr rfl ⟨_,rfl,(ixL hr rfl ⟨_,rfl,(ixL hr rfl ⟨P2,λp7 hp7=> ?_⟩)⟩)⟩)⟩;have t7:=A2 hp7 (.tup [.str "if",v0,v1,v2]);exact q3 (.ite t0 t1' t2') _ a' _ ((Kl.of t12).trans (k6.trans (Kl.of t7))) (t7 _ _ hl6) h1 (by omega) (.ite A1 (z0.mono (A5 t7)) (z1.mono (A5 t7)) (z2.mono (A5 t7))) (.ite y0.1 y1.1 y2.1) (.ite hd0 y0.2 y1.2 y2.2)
 show Nx _ _;subst eN;refine stp λNx eN=> ?_;refine⟨_,rfl,_,_,rfl,rfl,(by decide:(0:Int)<5),.inl ⟨rfl,_,rfl,K6 (λc1=> ?_) (λc1=> ?_)⟩⟩
 ·refine stp λNy eY=> ?_;refine⟨_,rfl,(ixL G3.s.sp rfl ⟨sh,rfl,λln ss H4 s4 ⟨hn1,hn2,hn3,hn4⟩=> ?_⟩)⟩;obtain⟨z,hz,hzm⟩:=BH (ss:=ss) (j:=x.fdiv 40%3) (Int.emod_nonneg _ (by decide)) (by have:=Int.emod_lt_of_pos (x.fdiv 40) (by decide:(0:Int)<3);omega);refine⟨_,rfl,_,_,rfl,rfl,lg (by decide) (by decide),_,_,rfl,rfl,(by decide:(0:Int)<3),(ixL hn1 hz ?_)⟩;have G4:=G3.same s4;have hko4:=hko3.mono (A5 s4);show Ny _ _;subst eY;refine⟨_,rfl,_,rfl,_,rfl,_,rfl,_,rfl,_,rfl,c,l,dn,fl,ns,a+1,sh,ms,g,m,F,ko,ov,dp,rfl,G4,by omega,m0,hko4,by omega,by omega,hdp,λt v a' H5 k5 hl5 h1 h2 ht hT hdt=> ?_⟩;have G5:=G4.kl k5 hl5 h1;have m5:=k5.tups G4.s.sp;refine⟨_,rfl,_,rfl,_,rfl,_,rfl,_,rfl,_,rfl,_,rfl,_,rfl,dn,m,g,z,ko,ov,rfl,G5.n,by omega,hko4.mono m5,by omega,λdn2 H6 s6 hD6=> ?_⟩;have G6:=G5.same s6;refine⟨_,rfl,_,rfl,c,l,dn2,fl,ns,a',sh,ms,up g z ko,m+1,F,k,kv,dp,rfl,⟨G6.s,hD6,G6.f⟩,by omega,by omega,((hk3.mono (A5 s4)).mono m5).mono (A5 s6),by omega,by omega,hdp,λt' v' a2 H7 k7 hl7 h3 h4 ht' hT' hdt'=>⟨P2,λp8 hp8=> ?_⟩⟩;have t8:=A2 hp8 (.tup [.str "let",.str z,v,v']);exact q3 (.let_ z t t') _ a2 _ ((Kl.of s4).trans (k5.trans ((Kl.of s6).trans (k7.trans (Kl.of t8))))) (t8 _ _ hl7) (by omega) (by omega) (.let_ A1 (((ht.mono (A5 s6)).mono (k7.tups G6.s.sp)).mono (A5 t8)) (ht'.mono (A5 t8))) (.let_ hT hT') (.let_ hd0 hdt hdt')
 show Nx _ _;subst eN;refine stp λNx eN=> ?_;refine⟨_,rfl,_,_,rfl,rfl,(by decide:(0:Int)<5),.inl ⟨rfl,_,rfl,K6 (λc2=> ?_) (λc2=> ?_)⟩⟩
 ·refine stp λNy eY=> ?_;refine⟨_,rfl,_,rfl,_,rfl,_,rfl,D9,λp1 hp1=>⟨_,rfl,D1,λl4 hl4=> ?_⟩⟩;have t1:=A2 hp1 (.tup [.str "fn",ov,kv]);have t2:=A2 hl4 (.lst [.ref p1,ov]);have t12:=t1.trans t2;have hk4:=hk3.mono (A5 t12);have hko4:=hko3.mono (A5 t12);refine⟨_,rfl,_,rfl,_,rfl,c,l,dn,fl,l4,ns,a+1,sh,ms,g,m,F,[.fn ko k,ko],_,dp,rfl,G3.same t12,(by show a+1+2*gc d<=_;omega),m0,A1,.cons (.fn (t2 _ _ A1) hko4 hk4) (.cons hko4 .nil),(by show 2<=4;decide),(λk' hk'=> ?_),by omega,hdp,λr ts vs a' H6 hr0 k6 hl6 h1 h2 hr hts hty=> ?_⟩
  ·rcases cZ hk' with rfl|hk'
   ·show max (dk ko) (dk k)+1+d<=8;omega
   ·rw[sZ hk'];omega
  have h2:a'<=a+1+2*gc d:=h2;cases hty with
  | @cons t0 _ _ _ y0 hty=>
  cases hty with
  | @cons t1' _ _ _ y1 hty=>
  cases hty;cases hts with
  | @cons _ v0 _ _ z0 hts=>
  cases hts with
  | @cons _ v1 _ _ z1 hts=>
  cases hts;have k36:=(Kl.of t12).trans k6;have m6:=k36.tups G3.s.sp;have G6:=G3.kl k36 hl6 h1;have hrl:r≠l:=λe=>by rw[e,t12 _ _ G3.s.sp]at hr0;cases hr0
  show Ny _ _;subst eY;show P9 _ _ _ [some (.ref c),some (.ref l),some kv,some (.ref dn),some (.ref fl),some (.int dp),some (.int x),some ov,some (.ref l3),some (.ref r),none,none,none] H6;refine stp λNy eY=> ?_;refine⟨fun σ' H'=>σ'=[some (.ref c),some (.ref l),some kv,some (.ref dn),some (.ref fl),some (.int dp),some (.int x),some ov,some (.ref l3),some (.ref r),none,none,none]/\∃(t:Tm) (v:V),Kl l H3 H'/\Mo H6 H'/\H' l=some (.lst [.int a',.int sh,.int ms])/\H' r=some (.lst [v,v1])/\T1 H' t v/\Ty F g t (.t (.fn ko k))/\Sz dp t, ?_, ?_⟩
  ·refine⟨_,rfl,_,rfl,CC (hko3.mono m6) (hk3.mono m6) (by omega) ⟨_,rfl,K6 (λe1=>⟨L8,λp7 hp7=> ?_⟩) (λe1=>⟨_,rfl,ifF nZ ⟨rfl,t0,v0,k36,λ_ _ h=>h,hl6,hr,z0,y0.1,y0.2⟩⟩)⟩⟩;have t7:=A2 hp7 (.tup [.str "number"]);refine CC ((hk3.mono m6).mono (A5 t7)) (.num A1) (by omega) ⟨_,rfl,K6 (λe2=> ?_) (λe2=>⟨rfl,t0,v0,k36.trans (Kl.of t7),A5 t7,t7 _ _ hl6,t7 _ _ hr,z0.mono (A5 t7),y0.1,y0.2⟩)⟩;have ek:k=.num:=of_decide_eq_true e2;have eko:ko=.num:=(of_decide_eq_true e1).trans ek;have G7:=G6.same t7;refine⟨_,rfl,_,_,rfl,rfl,lg (by decide) (by decide),_,rfl,_,rfl,(ixL G7.s.sp rfl ⟨sh,rfl,λln ss H8 s8 ⟨hn1,hn2,hn3,hn4⟩=> ?_⟩)⟩;obtain⟨z,hz,hzm⟩:=BH (ss:=ss) (j:=0) (by decide) (by omega);have G8:=G7.same s8;have t78:=t7.trans s8;have hr8:=t78 _ _ hr;refine(ixL hn1 hz ⟨_,rfl,(ixL hr8 rfl ⟨x.fdiv 5,dn,m,g,z,v0,rfl,G8.n,by omega,λH9 s9=> ?_,λt v H9 s9 ht hT hdt=> ?_⟩)⟩)
   ·have t79:=t78.trans s9;refine⟨_,rfl,r,_,0,0,rfl,rfl,s9 _ _ hr8,rfl, ?_⟩;have e9:upd H9 r (.lst ([v0,v1].set 0 v0))=H9:=BV.upd_id (s9 _ _ hr8);rw[e9];exact⟨rfl,t0,v0,k36.trans (Kl.of t79),A5 t79,t79 _ _ hl6,t79 _ _ hr,z0.mono (A5 t79),y0.1,y0.2⟩
   ·have t79:=t78.trans s9;refine⟨_,rfl,r,_,0,0,rfl,rfl,s9 _ _ hr8,rfl, ?_⟩;have mr:Mo H9 (upd H9 r (.lst [v,v1])):=λb xs e=>by rw[C4 (W2 e (s9 _ _ hr8) (by intro z;cases z))];exact e
    have kr:Kl l H3 (upd H9 r (.lst [v,v1])):=λb o e n=>by
     have nb:b≠r:=λeb=>by
      rw[eb]at e;rw[t12 _ _ e]at hr0;cases hr0
     rw[C4 nb];exact(k36.trans (Kl.of t79)) b o e n
    subst ek;subst eko;exact⟨rfl,t,v,kr,λb xs e=>mr _ _ (t79 _ _ e),by rw[C4 (Ne.symm hrl)];exact t79 _ _ hl6,A1,ht.mono mr,hT F,hdt dp⟩
  rintro _ H7 ⟨rfl,t,v,k7,m7,hl7,hr7,ht,hT,hdt⟩;show Ny _ _;subst eY;refine⟨_,rfl,(ixL hr7 rfl ⟨_,rfl,(ixL hr7 rfl ⟨D9,λp8 hp8=> ?_⟩)⟩)⟩;have t8:=A2 hp8 (.tup [.str "do",v,v1]);exact q3 (.do_ t t1') _ a' _ (k7.trans (Kl.of t8)) (t8 _ _ hl7) h1 (by omega) (.do_ A1 (ht.mono (A5 t8)) ((z1.mono m7).mono (A5 t8))) (.do_ hT y1.1) (.do_ hd0 hdt y1.2)
 show Nx _ _;subst eN;refine stp λNx eN=> ?_;refine⟨fun σ' H'=>σ'=[some (.ref c),some (.ref l),some kv,some (.ref dn),some (.ref fl),some (.int dp),some (.int x),some ov,some (.ref l3),none,none,none,none]/\H3=H', ?_, ?_⟩
 ·refine⟨_,rfl,_,_,rfl,rfl,(by decide:(0:Int)<5),.inl ⟨rfl,_,rfl,K6 (λc3=> ?_) (λc3=>ifF nZ ⟨rfl,rfl⟩)⟩⟩;refine⟨_,rfl,_,_,rfl,rfl,lg (by decide) (by decide),_,_,rfl,rfl,(by decide:(0:Int)<3),.inl ⟨rfl,_,rfl,K6 (λc4=> ?_) (λc4=>⟨rfl,rfl⟩)⟩⟩;refine⟨_,rfl,_,rfl,_,rfl,D1,λp1 hp1=> ?_⟩;have t1:=A2 hp1 (.tup [.str "list",kv]);refine⟨_,rfl,_,rfl,_,rfl,c,l,dn,fl,ns,a+1,sh,ms,g,m,F,.lst k,.ref p1,dp,rfl,G3.same t1,by omega,m0,.lst A1 (hk3.mono (A5 t1)),(by show dk k+1+d<=8;omega),by omega,hdp,λt v a' H5 k5 hl5 h1 h2 ht hT hdt=>⟨D9,λp2 hp2=> ?_⟩⟩;have t2:=A2 hp2 (.tup [.str "one",.str "head",v]);exact q3 (.one "head" t) _ a' _ ((Kl.of t1).trans (k5.trans (Kl.of t2))) (t2 _ _ hl5) h1 (by omega) (.one A1 (ht.mono (A5 t2))) (.head hT) (.one hd0 hdt)
 rintro _ _ ⟨rfl,rfl⟩;show Nx _ _;subst eN;refine stp λNx eN=> ?_;refine⟨_,rfl,_,_,rfl,.inl ⟨_,SqL.of hf3,rfl⟩,.inl ⟨rfl,_,rfl,K6 (λc4=> ?_) (λc4=> ?_)⟩⟩
 ·exact⟨_,rfl,_,rfl,_,rfl,_,rfl,_,rfl,_,rfl,c,l,dn,fl,ns,a+1,sh,ms,g,m,F,k,kv,dp,rfl,G3,by omega,hm,hk3,hkd,hd3,hdp,hd0,λt v a' H' h1 h2 h3 h4 h5 h6 h7=>q3 t v a' H' h1 h2 h3 (by omega) h5 h6 h7⟩
 have c4':(0:Int)<(fys.length:Nat):=by
  have:¬((fys.length:Nat):Int)=0:=λz=>c4 (decide_eq_true (congrArg V.int z));omega
 have g1:=Int.emod_nonneg (x.fdiv 15) (Int.ne_of_gt c4');have g2:=Int.emod_lt_of_pos (x.fdiv 15) c4';obtain⟨u,hu1,hu2⟩:∃u,atI fys (x.fdiv 15%(fys.length:Nat))=some u/\fys[(x.fdiv 15%(fys.length:Nat)).toNat]? =some u:=by
  have h3:(x.fdiv 15%(fys.length:Nat)).toNat<fys.length:=by omega
  have e:atI fys (((x.fdiv 15%(fys.length:Nat)).toNat:Nat):Int)=some _:=J0 (List.getElem?_eq_getElem h3);rw[show(((x.fdiv 15%(fys.length:Nat)).toNat:Nat):Int)=x.fdiv 15%(fys.length:Nat) by omega]at e;exact⟨_,e,List.getElem?_eq_getElem h3⟩
 obtain⟨e,he,hfe⟩:=hfs3.get hu2;obtain⟨heF,hek⟩:=hfk e (mem_of_getElem? he);obtain⟨b1,b2,b3⟩:=G3.f.sm e heF;obtain⟨p,q1,us,w1,rfl,hp,hq1,hus,hw⟩:=hfe;have hul:=hus.len;show Nx _ _;subst eN;refine stp λNx eN=> ?_;refine⟨_,rfl,_,rfl,_,_,rfl,rfl,lg (by decide) (by decide),_,rfl,_,_,rfl,.inl ⟨_,SqL.of hf3,rfl⟩,_,_,rfl,rfl,c4',(ixL hf3 hu1 ?_)⟩;have hlen:(e.2.1.length:Int)*gc d<=4*gc d:=Int.mul_le_mul_of_nonneg_right (by omega) (by omega);show Nx _ _;subst eN;refine⟨_,rfl,(ixT hp rfl ⟨_,rfl,_,rfl,_,rfl,(ixT hp rfl ⟨_,rfl,_,rfl,_,rfl,c,l,dn,fl,q1,ns,a+1,sh,ms,g,m,F,e.2.1,us,dp,rfl,G3,by omega,m0,hq1,hus,b3,λk' hk'=>by have:=b2 k' hk';omega,by omega,hdp,λr ts vs a' H6 hr0 k6 hl6 h1 h2 hr hts hty=> ?_⟩)⟩)⟩;refine⟨r,_,rfl,.inl ⟨SqL.of hr,λp7 hp7=>⟨D9,λp8 hp8=> ?_⟩⟩⟩;have t7:=A2 hp7 (.tup vs);have t8:=A2 hp8 (.tup [.str "call",.str e.1,.ref p7]);have t78:=t7.trans t8;obtain⟨r1,r2⟩:=NY hty;have hlk:F.lookup e.1=some (e.2.1,k):=by rw[CZ G3.f.nd heF,<-hek]
 exact q3 (.call e.1 (T6 ts)) _ a' _ (k6.trans (Kl.of t78)) (t78 _ _ hl6) h1 (by omega) (.call A1 (t8 _ _ A1) (LR (hts.imp λ_ _ h=>h.mono (A5 t78)))) (.call hlk r1) (.call hd0 r2)
end
noncomputable abbrev AG:Stmt:=BV.top 47
noncomputable abbrev KN:List Str:=["_law_cells","_law_spot","_law_kind_here","_law_names_here","_law_funs","_law_depth","_law_cell_here","_law_number","_law_test","_law_parts","_law_name_here"]
theorem sc_law_own:FnScope KN W7 (B3 AG):=fS
theorem DZ{F:Fs}{g:Cx}{k:Nat}{a b:Tm}(hk:k<6)(h3:k≠3)(h4:k≠4)(ha:Ty F g a (.t .num))(hb:Ty F g b (.t .num)):Ty F g (.two (sg k) a b) (.t .num):=by
 have h:=Ty.two (F:=F) (k:=k) hk ha hb
 rwa [if_neg (by omega)]at h
theorem WR{F:Fs}{g:Cx}{k:Nat}{a b:Tm}(h3:k=3\/k=4)(ha:Ty F g a (.t .num))(hb:Ty F g b (.t .num)):Ty F g (.two (sg k) a b) (.t .tru):=by
 have h:=Ty.two (F:=F) (k:=k) (by omega) ha hb
 rwa [if_pos h3]at h
theorem QP{α β:Type}{R:α->β->Prop}{xs:List α}{ys:List β}(h:All2 R xs ys)(hl:ys.length=3):∃a b c x y z,xs=[a,b,c]/\ys=[x,y,z]/\R a x/\R b y/\R c z:=by
 cases h with
 |nil=>cases hl
 |cons h1 h=>
 cases h with
 |nil=>cases hl
 |cons h2 h=>
 cases h with
 |nil=>cases hl
 |cons h3 h=>
 cases h with
 |nil=>exact⟨_,_,_,_,_,_,rfl,rfl,h1,h2,h3⟩
 |cons _ _=>simp at hl
theorem ZX{dp:Int}{q a b c:Tm}{z:Str}(h0:0<=dp)(u:Sz (dp - 1) q)(da:dt a<=1)(db:dt b<=1)(dc:dt c<=1)(wa:hw a=0)(wb:hw b=0)(wc:hw c=0):Sz (dp+1) (.two z (.ite q a b) c):=by
 have h1:=u.d;have h2:=u.z;have h3:=u.w;have h4:2^(dp - 1).toNat<=2^dp.toNat:=pow_le_pow_right (by decide) (by omega);have h5:=GH dp.toNat;exact .up h0 (by show((max (max (dt q) (max (dt a) (dt b))+1) (dt c)+1:Nat):Int)<=_;omega) (by show max (max (hw q) (max (hw a) (hw b))) (hw c+1)+1<=_;omega)
section
variable{P:Program}{w:World}{K:FZ}{mg:Str->Option Value}{base:Heap}{f D2 L6 L5 D4 C6 E4:Addr}{fd F5 O4 O5 G9 D5 J6:FuncData}
theorem bSZ{d:Nat}(F:Fun K "_law_own" "_law_own" AG f fd)(B:NoL mg)
  (E3:FnOk P w K mg base CX0 1 D2 F5 ET EJ)(F7:Binds K F5 ET [])(F9:kZ K (.ref D2)=true)(F8:mg "_law_cell"=some (.ref D2))
  (K7:FnOk P w K mg base CX0 1 L6 O4 q5L IX)(Q8:Binds K O4 q5L [])(Q9:kZ K (.ref L6)=true)(Q7:mg "_law_kind"=some (.ref L6))
  (D3:FnOk P w K mg base CX0 2 D4 G9 EV BI)(K0:Binds K G9 EV [])(K1:kZ K (.ref D4)=true)(J9:mg "_law_names"=some (.ref D4))
  (C8:FnOk P w K mg base CX0 1 C6 D5 BB CF)(E9:Binds K D5 BB [])(F1:kZ K (.ref C6)=true)(E8:mg "_law_with"=some (.ref C6))
  (K3:FnOk P w K mg base CX0 (4*d+13) L5 O5 NP (LN d))(M3:Binds K O5 NP [])(M5:kZ K (.ref L5)=true)(M6:mg "_law_some"=some (.ref L5))
  (C7:FnOk P w K mg base CX0 (4*d+12) E4 J6 W7 (AY d))(F4:Binds K J6 W7 [])(G0:kZ K (.ref E4)=true)(F6:mg "_law_good"=some (.ref E4)):
  FnOk P w K mg base CX0 (4*d+14) f fd W7 (WQ d):=by
 refine F.ok sc_law_own (λvs H Q E h=> ?_) (λcdv A outer s H vs Q E hr h=> ?_)
 ·obtain⟨c,l,dn,fl,ns,a,sh,ms,g,m,F,k,kv,dp,rfl,_⟩:=h;rfl
 obtain⟨c,l,dn,fl,ns,a,sh,ms,g,m,F,k,kv,dp,rfl,G,hal,hm,hk,hkd,hd3,hdp,hd0,q⟩:=h;have nd:=sc_law_own.nd;have hu:=hr.units0;have hgc:=KD d;have m0:m+d<=40:=by omega
 refine⟨_,(A6 (CO (i:=6) nd rfl (Or.inr rfl) (C0 E3 (hr.mono (by omega)) rfl F8 F9 F7 .nil D8 (A0 (pv 0) (A0 (pv 1) A4))))
   (A6 (sS 7 nd (A9 (A0 A7 A4)))
   (A6 (E6 (B8 (PW.pt (P0 (B0 (IR (K:=K) hr.units) (pv 2) (pv 7) rfl) (N8 (B0 (kEq (K:=K) hu) (B4 C5 (B4 B9 (pv 6) A3) A3) A3 rfl)))) (A6 (sS 8 nd (C0 C7 (hr.mono (by omega)) rfl F6 G0 F4 .nil D8 (A0 (pv 0) (A0 (pv 1) (A0 (A9 (A0 A7 A4)) (A0 (pv 3) (A0 (pv 4) (A0 (B4 U5 (pv 5) A3) A4))))))))
   (A6 (O6 (i:=9) nd rfl rfl (cS (N:=KN) (sc:=B3 AG) (caps:=[6]) (ns:=q5L)) rfl rfl rfl (P6 rfl B.range_ (A0 A3 A4)) (λ_ _ _ _ _=>T4) (λ_ _ _ _ _=>(A9 (A0 A7 (A0 (B4 C5 (B4 B9 (B4 B9 (pv 1) A3) (ixE K w (E5 (A0 A3 (A0 A3 (A0 A3 A4)))) (pv 0))) A3) A4)))))
   (A8 (B5 (A9 (A0 A7 (A0 (DG ix_str A7 (B4 C5 (pv 6) A3) (λ_ _=>rfl)) (A0 (A9 (A0 A7 (A0 (pv 8) (A0 (ixE K w (pv 9) A3) (A0 (ixE K w (pv 9) A3) A4))))) (A0 (ixE K w (pv 9) A3) A4))))))))) B6))
   (A6 (B8 (B0 (IR (K:=K) hr.units) (pv 2) (pv 7) rfl) (A6 (sS 9 nd (C0 K3 (hr.mono (by omega)) rfl M6 M5 M3 .nil D8 (A0 (pv 0) (A0 (pv 1) (A0 (E5 (A0 (pv 7) (A0 (pv 7) A4))) (A0 (pv 3) (A0 (pv 4) (A0 (pv 5) A4))))))))
   (A8 (B5 (A9 (A0 A7 (A0 (DG ix_str A7 (B4 C5 (pv 6) A3) (λ_ _=>rfl)) (A0 (ixE K w (pv 9) A3) (A0 (ixE K w (pv 9) A3) A4)))))))) B6)
   (A6 (E6 (B8 (PW.pt (P0 (B0 (kEq (K:=K) hu) (ixE K w (pv 2) A3) A7 rfl) (N8 (B0 (kEq (K:=K) hu) (B4 C5 (pv 6) A3) A3 rfl)))) (A8 (B5 (A9 (A0 A7 (A0 A7 (A0 (C0 C7 (hr.mono (by omega)) rfl F6 G0 F4 .nil D8 (A0 (pv 0) (A0 (pv 1) (A0 (pv 2) (A0 (pv 3) (A0 (pv 4) (A0 (pv 5) A4))))))) A4)))))) B6))
   (A6 (E6 (B8 (PW.pt (P0 (B0 (kEq (K:=K) hu) (ixE K w (pv 2) A3) A7 rfl) (N8 (B0 (kEq (K:=K) hu) (B4 C5 (pv 6) A3) A3 rfl)))) (A8 (B5 (A9 (A0 A7 (A0 A7 (A0 (C0 C7 (hr.mono (by omega)) rfl F6 G0 F4 .nil D8 (A0 (pv 0) (A0 (pv 1) (A0 (A9 (A0 A7 (A0 (C0 K7 (hr.mono (by omega)) rfl Q7 Q9 Q8 .nil D8 (A0 (B4 B9 (pv 6) A3) A4)) A4))) (A0 (pv 3) (A0 (pv 4) (A0 (pv 5) A4))))))) A4)))))) B6))
   (A6 (B8 (B0 (kEq (K:=K) hu) (ixE K w (pv 2) A3) A7 rfl) (A6 (sS 9 nd (C0 K3 (hr.mono (by omega)) rfl M6 M5 M3 .nil D8 (A0 (pv 0) (A0 (pv 1) (A0 (E5 (A0 (pv 7) (A0 (pv 7) A4))) (A0 (pv 3) (A0 (pv 4) (A0 (pv 5) A4))))))))
   (A8 (B5 (A9 (A0 A7 (A0 (DG ix_str A7 (B4 C5 (B4 B9 (pv 6) A3) A3) (λ_ _=>rfl)) (A0 (ixE K w (pv 9) A3) (A0 (ixE K w (pv 9) A3) A4)))))))) B6)
   (A6 (E6 (B8 (PW.pt (P0 (B0 (kEq (K:=K) hu) (ixE K w (pv 2) A3) A7 rfl) (N8 (B0 (kEq (K:=K) hu) (B4 C5 (pv 6) A3) A3 rfl)))) (A8 (B5 (A9 (A0 A7 (A0 A7 (A0 (C0 C7 (hr.mono (by omega)) rfl F6 G0 F4 .nil D8 (A0 (pv 0) (A0 (pv 1) (A0 (pv 2) (A0 (pv 3) (A0 (pv 4) (A0 (pv 5) A4))))))) A4)))))) B6))
   (A6 (B8 (B0 (kEq (K:=K) hu) (ixE K w (pv 2) A3) A7 rfl) (A6 (sS 9 nd (C0 K3 (hr.mono (by omega)) rfl M6 M5 M3 .nil D8 (A0 (pv 0) (A0 (pv 1) (A0 (E5 (A0 (ixE K w (pv 2) A3) (A0 (pv 2) A4))) (A0 (pv 3) (A0 (pv 4) (A0 (pv 5) A4))))))))
   (A8 (B5 (A9 (A0 A7 (A0 A7 (A0 (ixE K w (pv 9) A3) (A0 (ixE K w (pv 9) A3) A4)))))))) B6)
   (A6 (sS 10 nd (ixE K w (C0 D3 (hr.mono (by omega)) rfl J9 K1 K0 .nil D8 (A0 (ixE K w (pv 1) A3) A4)) (B4 C5 (B4 B9 (pv 6) A3) A3)))
   (A8 (B5 (A9 (A0 A7 (A0 (pv 10) (A0 (C0 C7 (hr.mono (by omega)) rfl F6 G0 F4 .nil D8 (A0 (pv 0) (A0 (pv 1) (A0 (ixE K w (pv 2) A3) (A0 (C0 C8 (hr.mono (by omega)) rfl E8 F1 E9 .nil D8 (A0 (pv 3) (A0 (pv 10) (A0 (ixE K w (pv 2) A3) A4)))) (A0 (pv 4) (A0 (pv 5) A4))))))) A4)))))))))))))))), ?_⟩
 refine⟨_,rfl,_,rfl,c,l,ns,a,sh,ms,rfl,G.s,by omega,λx H1 x0 x1 k1 hl1=>⟨L8,λp0 hp0=> ?_⟩⟩;have G1:=G.kl k1 hl1 (by omega);have s2:=A2 hp0 (.tup [.str "number"]);have G2:=G1.same s2;have hk2:=(hk.mono (k1.tups G.s.sp)).mono (A5 s2);have hn2:KA _ .num (.ref p0):=.num (A1:(upd H1 p0 (.tup [.str "number"])) p0=_);have k2:Kl l H _:=k1.trans (Kl.of s2);show P9 _ _ _ [some (.ref c),some (.ref l),some kv,some (.ref dn),some (.ref fl),some (.int dp),some (.int x),some (.ref p0),none,none,none] (upd H1 p0 (.tup [.str "number"]));generalize upd H1 p0 (.tup [.str "number"])=H2 at G2 hk2 hn2 k2⊢;have q2:Mk H2 l (a+1) sh ms F g k (1+2*gc d) (Sz (dp+1)) Q:=λt v a' H' h1 h2 h3 h4 h5 h6 h7=>q t v a' H' (k2.trans h1) h2 (by omega) (by omega) h5 h6 h7;clear s2 hp0 hl1 G1;refine⟨fun σ' H'=>σ'=[some (.ref c),some (.ref l),some kv,some (.ref dn),some (.ref fl),some (.int dp),some (.int x),some (.ref p0),none,none,none]/\H2=H', ?_, ?_⟩
 ·refine⟨_,rfl,_,rfl,CC hk2 hn2 (by omega) ⟨_,rfl,K6 (λc1=> ?_) (λc1=>ifF nZ ⟨rfl,rfl⟩)⟩⟩;have ek:k=.num:=of_decide_eq_true c1;subst ek;refine⟨_,rfl,_,_,rfl,rfl,lg (by decide) (by decide),_,_,rfl,rfl,(by decide:(0:Int)<5),.inl ⟨rfl,_,rfl,K6 (λc2=> ?_) (λc2=>⟨rfl,rfl⟩)⟩⟩;refine⟨_,rfl,_,rfl,L8,λp1 hp1=> ?_⟩;have t1:=A2 hp1 (.tup [.str "truth"]);refine⟨_,rfl,_,rfl,_,rfl,_,_,rfl,rfl,c,l,dn,fl,ns,a+1,sh,ms,g,m,F,.tru,.ref p1,dp - 1,rfl,G2.same t1,by omega,m0,.tru A1,(by show 1+d<=8;omega),by omega,by omega,λt v a' H5 k5 hl5 h1 h2 ht hT hdt=> ?_⟩;have k25:=(Kl.of t1).trans k5;refine⟨3,rfl,by decide,by decide,R4 (n:=3) (λi ys H'=>Same H5 H'/\∃ts:List Tm,All2 (T1 H') ts ys/\ys.length=i/\∀y∈ts,Ty F g y (.t .num)/\dt y<=1/\hw y=0) ⟨Same.refl _,[],.nil,rfl,λy hy=>nomatch hy⟩ ?_ ?_ ?_⟩
  ·rintro i ys H' hi ⟨_,ts,_,hyl,_⟩;rw[hyl];exact Nat.le_trans hi (by decide)
  ·rintro i ys H' hi ⟨sm,ts,hts,hyl,hty⟩;refine Y0 ?_;refine⟨_,rfl,_,_,rfl,rfl,lg (by decide) (by decide),D9,λl6 hl6=> ?_⟩;have t6:=A2 hl6 (.lst [.int 1,.int 5,.int 25]);obtain⟨b,hb,hb0,hb1⟩:∃b:Int,atI [V.int 1,.int 5,.int 25] (0+(i:Int))=some (.int b)/\0<b/\b<2^60:=by
    have hi':i=0\/i=1\/i=2:=by omega
    rcases hi' with rfl|rfl|rfl
    ·exact⟨1,rfl,by decide,by decide⟩
    ·exact⟨5,rfl,by decide,by decide⟩
    ·exact⟨25,rfl,by decide,by decide⟩
   refine⟨_,rfl,(ixL A1 hb ⟨_,_,rfl,rfl,lg hb0 hb1,_,_,rfl,rfl,(by decide:(0:Int)<5),D1,λp7 hp7=> ?_⟩)⟩;have g1:=Int.emod_nonneg ((x.fdiv 20).fdiv b) (by decide:(5:Int)≠0);have g2:=Int.emod_lt_of_pos ((x.fdiv 20).fdiv b) (by decide:(0:Int)<5);have t7:=t6.trans (A2 hp7 (.tup [.str "number",.int ((x.fdiv 20).fdiv b%5)]));refine⟨sm.trans t7,ts++ [.num ((x.fdiv 20).fdiv b%5)],(hts.imp λ_ _ h=>h.mono (A5 t7)).app (.cons (.num A1) .nil),by rw[length_append,hyl];rfl,λy hy=> ?_⟩;rcases mem_append.mp hy with hy|hy
   ·exact hty y hy
   ·rw[sZ hy];exact⟨.num (Int.le_trans (by decide: -GR<=0) g1) (Int.le_trans (Int.le_of_lt g2) (by decide)),Nat.le_refl _,rfl⟩
  rintro ys H6 ⟨sm,ts,hts,hyl,hty⟩ l7 hl7;have t7:=A2 hl7 (.lst ys);have hts7:=hts.imp λ_ _ h=>h.mono (A5 t7);have htl:=hts.len;obtain⟨t0,t1',t2',v0,v1,v2,rfl,rfl,z0,z1,z2⟩:=QP hts7 hyl;obtain⟨y0,d0,w0⟩:=hty t0 (by simp);obtain⟨y1,d1,w1⟩:=hty t1' (by simp);obtain⟨y2,d2,w2⟩:=hty t2' (by simp);obtain⟨cc,sk,hc,hsk,ecs⟩:=ND (z:="+-*/") (ks:=[0,1,2,5]) (by decide +kernel) (by decide) (by decide +kernel) (j:=x%4) (Int.emod_nonneg _ (by decide)) (Int.emod_lt_of_pos _ (by decide));have hsk6:sk<6/\sk≠3/\sk≠4:=by revert hsk;simp;omega
  refine⟨_,rfl,_,_,rfl,rfl,(by decide:(0:Int)<4),"+-*/",_,cc,rfl,rfl,(by decide +kernel),hc,_,rfl,_,rfl,(ixL A1 rfl ⟨_,rfl,(ixL A1 rfl ⟨P2,λp8 hp8=> ?_⟩)⟩)⟩;have t8:=A2 hp8 (.tup [.str "if",v,v0,v1]);refine⟨_,rfl,(ixL (t8 _ _ A1) rfl ⟨P2,λp9 hp9=> ?_⟩)⟩;rw[ecs];have t9:=A2 hp9 (.tup [.str "two",.str (sg sk),.ref p8,v2]);have t89:=t8.trans t9;have t69:=sm.trans (t7.trans t89);exact q2 (.two (sg sk) (.ite t t0 t1') t2') _ a' _ (k25.trans (Kl.of t69)) (t69 _ _ hl5) h1 (by omega) (.two A1 (.ite (t9 _ _ A1) (ht.mono (A5 t69)) (z0.mono (A5 t89)) (z1.mono (A5 t89))) (z2.mono (A5 t89))) (DZ hsk6.1 hsk6.2.1 hsk6.2.2 (.ite hT y0 y1) y2) (ZX hd0 hdt d0 d1 d2 w0 w1 w2)
 rintro _ _ ⟨rfl,rfl⟩;refine⟨_,rfl,_,rfl,CC hk2 hn2 (by omega) ⟨_,rfl,K6 (λc1=> ?_) (λc1=> ?_)⟩⟩
 ·have ek:k=.num:=of_decide_eq_true c1;subst ek;refine⟨_,rfl,_,rfl,_,rfl,_,rfl,D1,λl4 hl4=> ?_⟩;have t2:=A2 hl4 (.lst [.ref p0,.ref p0]);have hn4:=hn2.mono (A5 t2);refine⟨_,rfl,_,rfl,_,rfl,c,l,dn,fl,l4,ns,a+1,sh,ms,g,m,F,[.num,.num],_,dp,rfl,G2.same t2,(by show a+1+2*gc d<=_;omega),m0,A1,.cons hn4 (.cons hn4 .nil),(by decide),(λk' hk'=> ?_),by omega,hdp,λr ts vs a' H6 hr0 k6 hl6 h1 h2 hr hts hty=> ?_⟩
  ·rcases cZ hk' with rfl|hk'
   ·show 1+d<=8;omega
   ·rw[sZ hk'];show 1+d<=8;omega
  have h2:a'<=a+1+2*gc d:=h2;cases hty with
  | @cons t0 _ _ _ y0 hty=>
  cases hty with
  | @cons t1' _ _ _ y1 hty=>
  cases hty;cases hts with
  | @cons _ v0 _ _ z0 hts=>
  cases hts with
  | @cons _ v1 _ _ z1 hts=>
  cases hts;obtain⟨cc,sk,hc,hsk,ecs⟩:=ND (z:="+-*/") (ks:=[0,1,2,5]) (by decide +kernel) (by decide) (by decide +kernel) (j:=x%4) (Int.emod_nonneg _ (by decide)) (Int.emod_lt_of_pos _ (by decide));have hsk6:sk<6/\sk≠3/\sk≠4:=by revert hsk;simp;omega
  refine⟨_,rfl,_,_,rfl,rfl,(by decide:(0:Int)<4),"+-*/",_,cc,rfl,rfl,(by decide +kernel),hc,_,rfl,(ixL hr rfl ⟨_,rfl,(ixL hr rfl ⟨P2,λp9 hp9=> ?_⟩)⟩)⟩;rw[ecs];have t9:=A2 hp9 (.tup [.str "two",.str (sg sk),v0,v1]);exact q2 (.two (sg sk) t0 t1') _ a' _ ((Kl.of t2).trans (k6.trans (Kl.of t9))) (t9 _ _ hl6) h1 (by omega) (.two A1 (z0.mono (A5 t9)) (z1.mono (A5 t9))) (DZ hsk6.1 hsk6.2.1 hsk6.2.2 y0.1 y1.1) (.two hd0 y0.2 y1.2)
 cases hk2 with
 |num=>exact absurd (decide_eq_true rfl) c1
 | @tru p hp=>
  refine⟨fun σ' H'=>σ'=[some (.ref c),some (.ref l),some (.ref p),some (.ref dn),some (.ref fl),some (.int dp),some (.int x),some (.ref p0),none,none,none]/\H2=H', ?_, ?_⟩
  ·refine⟨_,rfl,(ixT hp rfl (.inl ⟨rfl,_,rfl,ifT rfl ?_⟩))⟩;refine⟨_,rfl,_,_,rfl,rfl,(by decide:(0:Int)<4),.inl ⟨rfl,_,rfl,K6 (λc2=> ?_) (λc2=>⟨rfl,rfl⟩)⟩⟩;refine⟨_,rfl,_,rfl,_,rfl,_,rfl,_,rfl,_,rfl,c,l,dn,fl,ns,a+1,sh,ms,g,m,F,.tru,.ref p,dp,rfl,G2,by omega,m0,.tru hp,(by show 1+d<=8;omega),by omega,hdp,λt v a' H5 k5 hl5 h1 h2 ht hT hdt=>⟨D9,λp2 hp2=> ?_⟩⟩;have t2:=A2 hp2 (.tup [.str "one",.str "not",v]);exact q2 (.one "not" t) _ a' _ (k5.trans (Kl.of t2)) (t2 _ _ hl5) h1 (by omega) (.one A1 (ht.mono (A5 t2))) (.not hT) (.one hd0 hdt)
  rintro _ _ ⟨rfl,rfl⟩;refine⟨fun σ' H'=>σ'=[some (.ref c),some (.ref l),some (.ref p),some (.ref dn),some (.ref fl),some (.int dp),some (.int x),some (.ref p0),none,none,none]/\H2=H', ?_, ?_⟩
  ·refine⟨_,rfl,(ixT hp rfl (.inl ⟨rfl,_,rfl,ifT rfl ?_⟩))⟩;refine⟨_,rfl,_,_,rfl,rfl,(by decide:(0:Int)<4),.inl ⟨rfl,_,rfl,K6 (λc2=> ?_) (λc2=>⟨rfl,rfl⟩)⟩⟩;refine⟨_,rfl,_,rfl,_,rfl,_,_,rfl,rfl,lg (by decide) (by decide),_,rfl,λko ov H4 s4 hko hdo=>⟨D1,λp3 hp3=> ?_⟩⟩;have t3:=s4.trans (A2 hp3 (.tup [.str "list",ov]));refine⟨_,rfl,_,rfl,_,rfl,c,l,dn,fl,ns,a+1,sh,ms,g,m,F,.lst ko,.ref p3,dp,rfl,G2.same t3,by omega,m0,.lst A1 (hko.mono (A5 (A2 hp3 _))),(by show dk ko+1+d<=8;omega),by omega,hdp,λt v a' H5 k5 hl5 h1 h2 ht hT hdt=>⟨D9,λp2 hp2=> ?_⟩⟩;have t2:=A2 hp2 (.tup [.str "one",.str "empty",v]);exact q2 (.one "empty" t) _ a' _ ((Kl.of t3).trans (k5.trans (Kl.of t2))) (t2 _ _ hl5) h1 (by omega) (.one A1 (ht.mono (A5 t2))) (.empty hT) (.one hd0 hdt)
  rintro _ _ ⟨rfl,rfl⟩;refine⟨_,rfl,(ixT hp rfl (.inl ⟨rfl,_,rfl,ifT rfl ?_⟩))⟩;refine⟨_,rfl,_,rfl,_,rfl,_,rfl,D1,λl4 hl4=> ?_⟩;have t2:=A2 hl4 (.lst [.ref p0,.ref p0]);have hn4:=hn2.mono (A5 t2);refine⟨_,rfl,_,rfl,_,rfl,c,l,dn,fl,l4,ns,a+1,sh,ms,g,m,F,[.num,.num],_,dp,rfl,G2.same t2,(by show a+1+2*gc d<=_;omega),m0,A1,.cons hn4 (.cons hn4 .nil),(by decide),(λk' hk'=> ?_),by omega,hdp,λr ts vs a' H6 hr0 k6 hl6 h1 h2 hr hts hty=> ?_⟩
  ·rcases cZ hk' with rfl|hk'
   ·show 1+d<=8;omega
   ·rw[sZ hk'];show 1+d<=8;omega
  have h2:a'<=a+1+2*gc d:=h2;cases hty with
  | @cons t0 _ _ _ y0 hty=>
  cases hty with
  | @cons t1' _ _ _ y1 hty=>
  cases hty;cases hts with
  | @cons _ v0 _ _ z0 hts=>
  cases hts with
  | @cons _ v1 _ _ z1 hts=>
  cases hts;obtain⟨cc,sk,hc,hsk,ecs⟩:=ND (z:="<=") (ks:=[3,4]) (by decide +kernel) (by decide) (by decide +kernel) (j:=x.fdiv 4%2) (Int.emod_nonneg _ (by decide)) (Int.emod_lt_of_pos _ (by decide));have hsk6:sk=3\/sk=4:=by revert hsk;simp
  refine⟨_,rfl,_,_,rfl,rfl,lg (by decide) (by decide),_,_,rfl,rfl,(by decide:(0:Int)<2),"<=",_,cc,rfl,rfl,(by decide +kernel),hc,_,rfl,(ixL hr rfl ⟨_,rfl,(ixL hr rfl ⟨P2,λp9 hp9=> ?_⟩)⟩)⟩;rw[ecs];have t9:=A2 hp9 (.tup [.str "two",.str (sg sk),v0,v1]);exact q2 (.two (sg sk) t0 t1') _ a' _ ((Kl.of t2).trans (k6.trans (Kl.of t9))) (t9 _ _ hl6) h1 (by omega) (.two A1 (z0.mono (A5 t9)) (z1.mono (A5 t9))) (WR hsk6 y0.1 y1.1) (.two hd0 y0.2 y1.2)
 | @lst k' p u hp hku=>
  have dkk:dk (.lst k')=dk k'+1:=rfl;refine⟨fun σ' H'=>σ'=[some (.ref c),some (.ref l),some (.ref p),some (.ref dn),some (.ref fl),some (.int dp),some (.int x),some (.ref p0),none,none,none]/\H2=H', ?_, ?_⟩
  ·exact⟨_,rfl,(ixT hp rfl (.inl ⟨rfl,_,rfl,ifF nZ (ifF nZ ⟨rfl,rfl⟩)⟩))⟩
  rintro _ _ ⟨rfl,rfl⟩;refine⟨fun σ' H'=>σ'=[some (.ref c),some (.ref l),some (.ref p),some (.ref dn),some (.ref fl),some (.int dp),some (.int x),some (.ref p0),none,none,none]/\H2=H', ?_, ?_⟩
  ·exact⟨_,rfl,(ixT hp rfl (.inl ⟨rfl,_,rfl,ifF nZ (ifF nZ ⟨rfl,rfl⟩)⟩))⟩
  rintro _ _ ⟨rfl,rfl⟩;refine⟨_,rfl,(ixT hp rfl (.inl ⟨rfl,_,rfl,ifF nZ ?_⟩))⟩;refine⟨fun σ' H'=>σ'=[some (.ref c),some (.ref l),some (.ref p),some (.ref dn),some (.ref fl),some (.int dp),some (.int x),some (.ref p0),none,none,none]/\H2=H', ?_, ?_⟩
  ·refine⟨_,rfl,(ixT hp rfl (.inl ⟨rfl,_,rfl,ifT rfl ?_⟩))⟩;refine⟨_,rfl,_,_,rfl,rfl,(by decide:(0:Int)<4),.inl ⟨rfl,_,rfl,K6 (λc2=> ?_) (λc2=>⟨rfl,rfl⟩)⟩⟩;refine⟨_,rfl,_,rfl,_,rfl,_,rfl,_,rfl,_,rfl,c,l,dn,fl,ns,a+1,sh,ms,g,m,F,.lst k',.ref p,dp,rfl,G2,by omega,m0,.lst hp hku,by omega,by omega,hdp,λt v a' H5 k5 hl5 h1 h2 ht hT hdt=>⟨D9,λp2 hp2=> ?_⟩⟩;have t2:=A2 hp2 (.tup [.str "one",.str "tail",v]);exact q2 (.one "tail" t) _ a' _ (k5.trans (Kl.of t2)) (t2 _ _ hl5) h1 (by omega) (.one A1 (ht.mono (A5 t2))) (.tail hT) (.one hd0 hdt)
  rintro _ _ ⟨rfl,rfl⟩;refine⟨_,rfl,(ixT hp rfl (.inl ⟨rfl,_,rfl,ifT rfl ?_⟩))⟩;refine⟨_,rfl,_,rfl,_,rfl,(ixT hp rfl ⟨_,rfl,D1,λl4 hl4=> ?_⟩)⟩;have t2:=A2 hl4 (.lst [u,.ref p]);refine⟨_,rfl,_,rfl,_,rfl,c,l,dn,fl,l4,ns,a+1,sh,ms,g,m,F,[k',.lst k'],_,dp,rfl,G2.same t2,(by show a+1+2*gc d<=_;omega),m0,A1,.cons (hku.mono (A5 t2)) (.cons (.lst (t2 _ _ hp) (hku.mono (A5 t2))) .nil),(by show 2<=4;decide),(λk2 hk'=> ?_),by omega,hdp,λr ts vs a' H6 hr0 k6 hl6 h1 h2 hr hts hty=> ?_⟩
  ·rcases cZ hk' with rfl|hk'
   ·omega
   ·rw[sZ hk'];omega
  have h2:a'<=a+1+2*gc d:=h2;cases hty with
  | @cons t0 _ _ _ y0 hty=>
  cases hty with
  | @cons t1' _ _ _ y1 hty=>
  cases hty;cases hts with
  | @cons _ v0 _ _ z0 hts=>
  cases hts with
  | @cons _ v1 _ _ z1 hts=>
  cases hts;refine⟨_,rfl,(ixL hr rfl ⟨_,rfl,(ixL hr rfl ⟨P2,λp9 hp9=> ?_⟩)⟩)⟩;have t9:=A2 hp9 (.tup [.str "two",.str ":",v0,v1]);exact q2 (.two ":" t0 t1') _ a' _ ((Kl.of t2).trans (k6.trans (Kl.of t9))) (t9 _ _ hl6) h1 (by omega) (.two A1 (z0.mono (A5 t9)) (z1.mono (A5 t9))) (.cat y0.1 y1.1) (.two hd0 y0.2 y1.2)
 | @fn ka kb p u u' hp hku hku'=>
  have dkk:dk (.fn ka kb)=max (dk ka) (dk kb)+1:=rfl;refine⟨fun σ' H'=>σ'=[some (.ref c),some (.ref l),some (.ref p),some (.ref dn),some (.ref fl),some (.int dp),some (.int x),some (.ref p0),none,none,none]/\H2=H', ?_, ?_⟩
  ·exact⟨_,rfl,(ixT hp rfl (.inl ⟨rfl,_,rfl,ifF nZ (ifF nZ ⟨rfl,rfl⟩)⟩))⟩
  rintro _ _ ⟨rfl,rfl⟩;refine⟨fun σ' H'=>σ'=[some (.ref c),some (.ref l),some (.ref p),some (.ref dn),some (.ref fl),some (.int dp),some (.int x),some (.ref p0),none,none,none]/\H2=H', ?_, ?_⟩
  ·exact⟨_,rfl,(ixT hp rfl (.inl ⟨rfl,_,rfl,ifF nZ (ifF nZ ⟨rfl,rfl⟩)⟩))⟩
  rintro _ _ ⟨rfl,rfl⟩;refine⟨_,rfl,(ixT hp rfl (.inl ⟨rfl,_,rfl,ifF nZ ?_⟩))⟩;refine⟨fun σ' H'=>σ'=[some (.ref c),some (.ref l),some (.ref p),some (.ref dn),some (.ref fl),some (.int dp),some (.int x),some (.ref p0),none,none,none]/\H2=H', ?_, ?_⟩
  ·exact⟨_,rfl,(ixT hp rfl (.inl ⟨rfl,_,rfl,ifF nZ (ifF nZ ⟨rfl,rfl⟩)⟩))⟩
  rintro _ _ ⟨rfl,rfl⟩;refine⟨_,rfl,(ixT hp rfl (.inl ⟨rfl,_,rfl,ifF nZ ?_⟩))⟩;refine⟨_,rfl,(ixL G2.s.sp rfl ⟨sh,rfl,λln ss H4 s4 ⟨hn1,hn2',hn3,hn4⟩=> ?_⟩)⟩;obtain⟨z,hz,hzm⟩:=BH (ss:=ss) (j:=x.fdiv 4%3) (Int.emod_nonneg _ (by decide)) (by have:=Int.emod_lt_of_pos (x.fdiv 4) (by decide:(0:Int)<3);omega);refine⟨_,rfl,_,_,rfl,rfl,lg (by decide) (by decide),_,_,rfl,rfl,(by decide:(0:Int)<3),(ixL hn1 hz ?_)⟩;have G4:=G2.same s4;refine⟨_,rfl,_,rfl,_,rfl,_,rfl,(ixT (s4 _ _ hp) rfl ⟨_,rfl,_,rfl,_,rfl,(ixT (s4 _ _ hp) rfl ⟨dn,m,g,z,ka,u,rfl,G4.n,by omega,hku.mono (A5 s4),by omega,λdn2 H6 s6 hD6=> ?_⟩)⟩)⟩;have G6:=G4.same s6;refine⟨_,rfl,_,rfl,c,l,dn2,fl,ns,a+1,sh,ms,up g z ka,m+1,F,kb,u',dp,rfl,⟨G6.s,hD6,G6.f⟩,by omega,by omega,(hku'.mono (A5 s4)).mono (A5 s6),by omega,by omega,hdp,λt v a' H7 k7 hl7 h1 h2 ht hT hdt=>⟨D9,λp8 hp8=> ?_⟩⟩;have t8:=A2 hp8 (.tup [.str "fn",.str z,v]);exact q2 (.fn z t) _ a' _ ((Kl.of (s4.trans s6)).trans (k7.trans (Kl.of t8))) (t8 _ _ hl7) h1 (by omega) (.fn A1 (ht.mono (A5 t8))) (.fn hT (hdt.bb (by omega))) (.fn hd0 hdt)
end
end RG
namespace RG
open PySem L2 BV
section
variable{P:Program}{w:World}{K:FZ}{mg:Str->Option Value}{base:Heap}{D2 F2 L6 D4 C6 O2 J7 L5 E4 O3 N9:Addr}{F5 K2 O4 G9 D5 R7 M4 O5 J6 S6 R6:FuncData}
theorem CL{sp:Sp}{CX:CXT}{k:Nat}{f:Addr}{fd:FuncData}{ps:List Str}(h:∀vs H Q E,¬sp vs H Q E):FnOk P w K mg base CX k f fd ps sp:=⟨λ_ _ _ _ z=>(h _ _ _ _ z).elim,λ_ _ _ _ _ _ _ _ _ _ _ _ _ z=>(h _ _ _ _ z).elim⟩
theorem ok_leafs(F_law_leaf:Fun K "_law_leaf" "_law_leaf" U7 J7 M4)(B:NoL mg)
  (E3:FnOk P w K mg base CX0 1 D2 F5 ET EJ)(F7:Binds K F5 ET [])(F9:kZ K (.ref D2)=true)(F8:mg "_law_cell"=some (.ref D2))
  (B7:FnOk P w K mg base CX0 1 F2 K2 IN (Z1 K))(U9:Binds K K2 IN [])(V3:kZ K (.ref F2)=true)(V5:mg "_law_cell_at"=some (.ref F2))
  (D3:FnOk P w K mg base CX0 2 D4 G9 EV BI)(K0:Binds K G9 EV [])(K1:kZ K (.ref D4)=true)(J9:mg "_law_names"=some (.ref D4))
  (C8:FnOk P w K mg base CX0 1 C6 D5 BB CF)(E9:Binds K D5 BB [])(F1:kZ K (.ref C6)=true)(E8:mg "_law_with"=some (.ref C6))
  (L0:Binds K M4 JK [])(L7:kZ K (.ref J7)=true)(L4:mg "_law_leaf"=some (.ref J7)):
  ∀n,FnOk P w K mg base CX0 (n+3) J7 M4 JK (GE n)
 |0=>CL λvs H Q E ⟨_,_,_,_,_,_,_,_,_,k,_,_,_,_,_,_,_,h,_,_⟩=>absurd h (by have:=MJ k;omega)
 |n+1=>QA F_law_leaf B E3 F7 F9 F8 B7 U9 V3 V5 D3 K0 K1 J9 C8 E9 F1 E8 (ok_leafs F_law_leaf B E3 F7 F9 F8 B7 U9 V3 V5 D3 K0 K1 J9 C8 E9 F1 E8 L0 L7 L4 n) L0 L7 L4
noncomputable def c1Z:Sp:=λ_ _ _ _=>False
theorem ok_goods(F_law_some:Fun K "_law_some" "_law_some" X7 L5 O5)(F_law_good:Fun K "_law_good" "_law_good" BE E4 J6)(F_law_common:Fun K "_law_common" "_law_common" T3 O3 S6)(F_law_own:Fun K "_law_own" "_law_own" AG N9 R6)(B:NoL mg)
  (E3:FnOk P w K mg base CX0 1 D2 F5 ET EJ)(F7:Binds K F5 ET [])(F9:kZ K (.ref D2)=true)(F8:mg "_law_cell"=some (.ref D2))
  (K7:FnOk P w K mg base CX0 1 L6 O4 q5L IX)(Q8:Binds K O4 q5L [])(Q9:kZ K (.ref L6)=true)(Q7:mg "_law_kind"=some (.ref L6))
  (D3:FnOk P w K mg base CX0 2 D4 G9 EV BI)(K0:Binds K G9 EV [])(K1:kZ K (.ref D4)=true)(J9:mg "_law_names"=some (.ref D4))
  (C8:FnOk P w K mg base CX0 1 C6 D5 BB CF)(E9:Binds K D5 BB [])(F1:kZ K (.ref C6)=true)(E8:mg "_law_with"=some (.ref C6))
  (N4:FnOk P w K mg base CX0 1 O2 R7 q3L HF)(Y2:Binds K R7 q3L [])(Y1:kZ K (.ref O2)=true)(Y3:mg "_law_taker"=some (.ref O2))
  (M7:FnOk P w K mg base CX0 11 J7 M4 JK (GE 8))(L0:Binds K M4 JK [])(L7:kZ K (.ref J7)=true)(L4:mg "_law_leaf"=some (.ref J7))
  (M3:Binds K O5 NP [])(M5:kZ K (.ref L5)=true)(M6:mg "_law_some"=some (.ref L5))
  (F4:Binds K J6 W7 [])(G0:kZ K (.ref E4)=true)(F6:mg "_law_good"=some (.ref E4))
  (S7:Binds K S6 W7 [])(S8:kZ K (.ref O3)=true)(T0:mg "_law_common"=some (.ref O3))
  (R8:Binds K R6 W7 [])(R9:kZ K (.ref N9)=true)(S0:mg "_law_own"=some (.ref N9)):
  ∀d,FnOk P w K mg base CX0 (4*d+12) E4 J6 W7 (AY d)
 |0=>SH (d:=0) (L:=11) (LC:=0) (LO:=0) (spC:=c1Z) (spO:=c1Z) (Nat.le_refl _) (zero_le _) (zero_le _) (λ_ e=>nomatch e) (λ_ e=>nomatch e) F_law_good E3 F7 F9 F8 M7 L0 L7 L4 (CL λ_ _ _ _ h=>h) S7 S8 T0 (CL λ_ _ _ _ h=>h) R8 R9 S0
 |d+1=>by
  have C7:=ok_goods F_law_some F_law_good F_law_common F_law_own B E3 F7 F9 F8 K7 Q8 Q9 Q7 D3 K0 K1 J9 C8 E9 F1 E8 N4 Y2 Y1 Y3 M7 L0 L7 L4 M3 M5 M6 F4 G0 F6 S7 S8 T0 R8 R9 S0 d;have K3:=ok_some F_law_some C7 F4 G0 F6;have X2:=bSZ F_law_own B E3 F7 F9 F8 K7 Q8 Q9 Q7 D3 K0 K1 J9 C8 E9 F1 E8 K3 M3 M5 M6 C7 F4 G0 F6;have AN:=UH F_law_common B E3 F7 F9 F8 K7 Q8 Q9 Q7 D3 K0 K1 J9 C8 E9 F1 E8 N4 Y2 Y1 Y3 K3 M3 M5 M6 C7 F4 G0 F6 X2 R8 R9 S0;exact SH (d:=d+1) (L:=4*d+15) (LC:=4*d+15) (LO:=4*d+14) (by omega) (Nat.le_refl _) (by omega) (λd' e vs H Q E h=>by cases e;exact h) (λd' e vs H Q E h=>by cases e;exact h) F_law_good E3 F7 F9 F8 M7 L0 L7 L4 AN S7 S8 T0 X2 R8 R9 S0
end
end RG
namespace RG
open PySem L2 BV
seal PE PT PW PA PS PSs PTs PI L2.PG PGs PO
noncomputable abbrev AZ:Stmt:=BV.top 48
noncomputable abbrev BK:Stmt:=BV.top 50
noncomputable abbrev HR:List Str:=["_law_cell_here","_law_name_here"]
theorem sc_law_head:FnScope HR q1L (B3 AZ):=fS
noncomputable abbrev JD:List Str:=["_law_script","_law_one_here","_law_names_here","_law_spot","_law_known","_law_funs","_law_first","_law_more","_law_again","_law_end","_law_rest"]
theorem sc_law_down:FnScope JD LH (B3 BK):=fS
noncomputable def ScrAt(K:FZ)(H:Hp)(a:Addr)(ns:List Int):Prop:=(∃o,H a=some (.frz o (.lst (ns.map V.int))))\/
 ∃(o:Obj) (its:Array Value) (n:Nat),K.lookup a=some o/\o.cls=.type "list"/\o.dict=none/\o.data=.seq its n/\its.size<=sizeLine/\Vals (ns.map V.int) its.toList
theorem ScrAt.sq{K:FZ}{H:Hp}{a:Addr}{ns:List Int}(h:ScrAt K H a ns):SqL K H a (ns.map V.int):=h.elim (λ⟨o,h⟩=> .inl (.inr ⟨o,h⟩)) .inr
theorem ScrAt.kl{K:FZ}{H H':Hp}{a l:Addr}{ns:List Int}{xs:List V}(k:Kl l H H')(hl:H l=some (.lst xs))(h:ScrAt K H a ns):ScrAt K H' a ns:=h.imp (λ⟨o,h⟩=>⟨o,k _ _ h (λe=>by rw[e,hl]at h;cases h)⟩) id
theorem VZ(ns:List Int):R1 (ns.map V.int) (some 5) none=(ns.drop 5).map V.int:=by
 have:=HU (ns.map V.int) 5;rw[show((5:Nat):Int)=5 from rfl]at this;rw[this,List.map_drop]
theorem dnZ(xs:List V){n:Nat}(h:xs.length=8)(hn:n<=7):R1 xs (some 2) (some (1+(n:Int)))=(xs.drop 2).take (n - 1):=by
 unfold R1;rw[show(2:Int)=((2:Nat):Int)from rfl,show(1+(n:Int))=((n+1:Nat):Int) by omega,HT.sIx_nat,HT.sIx_nat,h,show min 2 8=2 from rfl,show min (n+1) 8 - 2=n - 1 by omega]
theorem UL{K:FZ}{H:Hp}{p q:Addr}{us:List V}{u:V}{Q:VK}(hp:H p=some (.tup [u]))(hq:H q=some (.tup us))(hz:us.length<=100000)
  (go:∀r H',Same H H'->H' r=some (.tup (u::us))->Q (.ref r) H'):IC K (.ref p) (.ref q) H Q:=by
 have zz:(100001:Nat)<=sizeLine:=by decide
 exact⟨p,q,[u],us,rfl,rfl,SqT.of hp,SqT.of hq,cons_ne_nil _ _,(by simp only[length_cons,length_nil];omega),(λe=>by subst e;exact go _ _ (Same.refl _) hp),λ_ r hr=>go _ _ (A2 hr _) A1⟩
theorem NmsAt.kl{H H':Hp}{l nl:Addr}{a b c:Int}{ss:List Str}(k:Kl l H H')(hl:H l=some (.lst [.int a,.int b,.int c]))(h:NmsAt H nl ss):NmsAt H' nl ss:=
 ⟨k _ _ h.1 (λe=>by
  have h1:=h.1;rw[e,hl]at h1;have h2:=h.2.1;cases ss with
  |nil=>cases h2
  |cons x r=>cases h1),h.2⟩
structure Bv (K:FZ) (H:Hp) (sc nl l dn fl:Addr) (ns:List Int) (ss:List Str) (a sh ms:Int) (g:Cx) (m:Nat) (F:Fs) (z:Str) (ks:List Kd) (k:Kd) (ov:V):Prop where
 scr:ScrAt K H sc ns
 nl63:ns.length<=63
 nms:NmsAt H nl ss
 sp:H l=some (.lst [.int a,.int sh,.int ms])
 a0:0<=a
 n:DAt H m g dn
 f:FnsAt H F fl
 one:FhA H (z,ks,k) ov
 mem:(z,ks,k)∈F
 par:∀i q,ks[i]? =some q->∃y,ss[i+1]? =some y/\g y=some q
theorem Bv.kl{K:FZ}{H H':Hp}{sc nl l dn fl:Addr}{ns:List Int}{ss:List Str}{a a' sh ms ms':Int}{g:Cx}{m:Nat}{F:Fs}{z:Str}{ks:List Kd}{k:Kd}{ov:V}(B:Bv K H sc nl l dn fl ns ss a sh ms g m F z ks k ov)(q:Kl l H H')(e:H' l=some (.lst [.int a',.int sh,.int ms']))(h:a<=a'):Bv K H' sc nl l dn fl ns ss a' sh ms' g m F z ks k ov:=
 ⟨B.scr.kl q B.sp,B.nl63,B.nms.kl q B.sp,e,Int.le_trans B.a0 h,B.n.kl q B.sp,B.f.kl q B.sp,B.one.kl q B.sp,B.mem,B.par⟩
theorem Bv.same{K:FZ}{H H':Hp}{sc nl l dn fl:Addr}{ns:List Int}{ss:List Str}{a sh ms:Int}{g:Cx}{m:Nat}{F:Fs}{z:Str}{ks:List Kd}{k:Kd}{ov:V}(B:Bv K H sc nl l dn fl ns ss a sh ms g m F z ks k ov)(q:Same H H'):Bv K H' sc nl l dn fl ns ss a sh ms g m F z ks k ov:=B.kl (Kl.of q) (q _ _ B.sp) (Int.le_refl _)
theorem Bv.gv{K:FZ}{H:Hp}{sc nl l dn fl:Addr}{ns:List Int}{ss:List Str}{a sh ms:Int}{g:Cx}{m:Nat}{F:Fs}{z:Str}{ks:List Kd}{k:Kd}{ov:V}(B:Bv K H sc nl l dn fl ns ss a sh ms g m F z ks k ov){c:Addr}(hc:H c=some (.lst ((ns.drop 5).map V.int)))(hne:c≠l):Gv H c l dn fl (ns.drop 5) a sh ms g m F:=
 ⟨⟨hc,B.sp,hne,B.a0,by have:=B.nl63;rw[length_drop];omega⟩,B.n,B.f⟩
section
variable{P:Program}{w:World}{K:FZ}{mg:Str->Option Value}{base:Heap}{f L6 E4 C6:Addr}{fd O4 J6 D5:FuncData}
inductive spHeadW(vs:List V)(H:Hp)(Q:VK):Prop
 |mk:∀(x:Int) (z:Str),(vs=[.int x,.str z])->(∀(ks:List Kd) (k:Kd) (v:V) H',Same H H'->FhA H' (z,ks,k) v->ks.length<=4->(∀q∈ks,dk q<=3)->dk k<=3->Q v H')->spHeadW vs H Q
noncomputable def YB:Sp:=λvs H Q _=>spHeadW vs H Q
theorem ok_law_head(F:Fun K "_law_head" "_law_head" AZ f fd)(B:NoL mg)
  (K7:Cn P w K mg base CX0 1 "_law_kind" q5L IX):
  FnOk P w K mg base CX0 2 f fd q1L YB:=by
 refine F.ok sc_law_head (λvs H Q E h=> ?_) (λcdv A outer s H vs Q E hr h=> ?_)
 ·obtain⟨x,z,rfl,_⟩:=h;rfl
 obtain⟨x,z,rfl,q⟩:=h;have nd:=sc_law_head.nd;have hu:=hr.units0;refine⟨_,(A8 (B5 (A9 (A0 (pv 1) (A0 (Y6 (cS (N:=HR) (sc:=B3 AZ) (caps:=[0]) (ns:=q5L)) rfl rfl rfl (P6 rfl B.range_ (A0 (B4 C5 (pv 0) A3) A4)) (λ_ _ _ _ _=>T4) (λ_ _ _ _ _=>(cC K7 hr (A0 (B4 B9 (B4 B9 (pv 1) A3) (B4 (S5 (K:=K)) A3 (B4 Q5 A3 (pv 0)))) A4)))) (A0 (cC K7 hr (A0 (B4 B9 (pv 0) A3) A4)) A4)))))), ?_⟩;have g1:=Int.emod_nonneg x (by decide:(5:Int)≠0);have g2:=Int.emod_lt_of_pos x (by decide:(0:Int)<5);obtain⟨n,en,hn⟩:∃n:Nat,x%5=(n:Int)/\n<=4:=⟨(x%5).toNat,by omega,by omega⟩;refine⟨_,rfl,_,rfl,_,_,rfl,rfl,(by decide:(0:Int)<5),_,rfl,by omega,by omega, ?_⟩;rw[en];refine R4 (n:=n) (λi ys H'=>Same H H'/\∃ks:List Kd,All2 (KA H') ks ys/\ys.length=i/\∀q∈ks,dk q<=3) ⟨Same.refl _,[],.nil,rfl,λy hy=>nomatch hy⟩ ?_ ?_ ?_
 ·rintro i ys H' hi ⟨_,ks,_,hyl,_⟩;rw[hyl];exact Nat.le_trans hi (Nat.le_trans hn (by decide))
 ·rintro i ys H' hi ⟨sm,ks,hks,hyl,hdk⟩;refine Y0 ?_;refine⟨_,rfl,_,_,rfl,rfl,lg (by decide) (by decide),_,rfl,_,_,rfl,rfl,ml ⟨by decide,by decide⟩,.inl ⟨_,_,rfl,rfl,_,_,rfl,rfl,lg (by omega) (by omega),_,rfl,λk v H2 s2 hk hd=>⟨sm.trans s2,ks++ [k],(hks.imp λ_ _ h=>h.mono (A5 s2)).app (.cons hk .nil),by rw[length_append,hyl];rfl,λy hy=> ?_⟩⟩⟩;rcases mem_append.mp hy with hy|hy
  ·exact hdk y hy
  ·rw[sZ hy];exact hd
 rintro ys H2 ⟨sm,ks,hks,hyl,hdk⟩ l hl;have t1:=A2 hl (.lst ys);refine⟨_,rfl,_,_,rfl,rfl,lg (by decide) (by decide),_,rfl,λk v H3 s3 hk hd=>⟨D9,λp hp=> ?_⟩⟩;have t3:=A2 hp (.tup [.str z,.ref l,v]);have t13:=t1.trans (s3.trans t3);exact q ks k _ _ (sm.trans t13) ⟨p,l,ys,v,rfl,A1,(s3.trans t3) _ _ A1,hks.imp λ_ _ h=>h.mono (A5 t13),hk.mono (A5 t3)⟩ (by rw[hks.len,hyl];exact hn) hdk hd
noncomputable def B18(t:Tm):Prop:=dt t<=18/\hw t<=48
inductive spDownW (K:FZ) (vs:List V) (H:Hp) (Q:VK):Prop
 |mk:∀(sc nl l dn fl:Addr) (ns:List Int) (ss:List Str) (a sh ms:Int) (g:Cx) (m:Nat) (F:Fs) (z:Str) (ks:List Kd) (k:Kd) (ov:V),(vs=[.ref sc,ov,.ref nl,.ref l,.ref dn,.ref fl])->(Bv K H sc nl l dn fl ns ss a sh ms g m F z (.num::ks) k ov)->(a<=2^40)->(m<=10)->(Mk H l a sh ms F g k (2^20) B18 Q)->spDownW K vs H Q
noncomputable def XG(K:FZ):Sp:=λvs H Q _=>spDownW K vs H Q
theorem ok_law_down(F:Fun K "_law_down" "_law_down" BK f fd)(B:NoL mg)
  (C7:Cn P w K mg base CX0 28 "_law_good" W7 (AY 4))
  (C8:Cn P w K mg base CX0 1 "_law_with" BB CF):
  FnOk P w K mg base CX0 29 f fd LH (XG K):=by
 refine F.ok sc_law_down (λvs H Q E h=> ?_) (λcdv A outer s H vs Q E hr h=> ?_)
 ·obtain⟨sc,nl,l,dn,fl,ns,ss,a,sh,ms,g,m,F,z,ks,k,ov,rfl,_⟩:=h;rfl
 obtain⟨sc,nl,l,dn,fl,ns,ss,a,sh,ms,g,m,F,z,ks,k,ov,rfl,V0,ha,hm,q⟩:=h;have nd:=sc_law_down.nd;have hu:=hr.units0;have hgc:gc 4=187500:=by decide
 obtain⟨hk3,hks3,hkl⟩:=V0.f.sm _ V0.mem;have hk3:dk k<=3:=hk3;obtain⟨y1,hy1,gy1⟩:=V0.par 0 .num rfl;have hsl:=V0.nms.2.1;obtain⟨y0,hy0⟩:∃y0,ss[0]? =some y0:=⟨_,List.getElem?_eq_getElem (by omega)⟩;have at1:atI (ss.map V.str) ((1:Nat):Int)=some (.str y1):=J0 (by rw[getElem?_map,hy1];rfl);have at0:atI (ss.map V.str) ((0:Nat):Int)=some (.str y0):=J0 (by rw[getElem?_map,hy0];rfl);have hone:=V0.one;obtain⟨po,qo,us,wo,rfl,hpo,hqo,hus,hwo⟩:=hone;have hul:=hus.len;have hul:ks.length+1=us.length:=hul;have hkl:ks.length+1<=4:=hkl;refine⟨_,(A6 (sS 6 nd (A9 (A0 A7 (A0 (ixE K w (pv 2) A3) A4))))
   (A6 (sS 7 nd (D6 (CW (K:=K)) rfl B.tuple_ T7 (A0 (Y6 (cS (N:=JD) (sc:=B3 BK) (caps:=[]) (ns:=[])) rfl rfl rfl (V7 (K:=K) (D7 (kSl (K:=K)) (pv 2) (E7 A3) (E7 (B4 (S5 (K:=K)) A3 (kL K B.len_ (ixE K w (pv 1) A3)))))) (λ_ _ _ _ _=>T4) (λ_ _ _ _ _=>(A9 (A0 A7 (A0 (pv 0) A4))))) A4)))
   (A6 (sS 8 nd (A9 (A0 A7 (A0 (ixE K w (pv 1) A3) (A0 (B4 (S5 (K:=K)) (A9 (A0 (A9 (A0 A7 (A0 A7 (A0 (pv 6) (A0 (A9 (A0 A7 (A0 A3 A4))) A4))))) A4)) (pv 7)) A4)))))
   (A6 (sS 9 nd (cC C7 hr (A0 (D7 (kSl (K:=K)) (pv 0) (E7 A3) J5) (A0 (pv 3) (A0 (ixE K w (pv 1) A3) (A0 (pv 4) (A0 (pv 5) (A0 A3 A4))))))))
   (A6 (sS 10 nd (cC C7 hr (A0 (D7 (kSl (K:=K)) (pv 0) (E7 A3) J5) (A0 (pv 3) (A0 (ixE K w (pv 1) A3) (A0 (cC C8 hr (A0 (pv 4) (A0 (ixE K w (pv 2) A3) (A0 (ixE K w (pv 1) A3) A4)))) (A0 (pv 5) (A0 A3 A4))))))))
   (A8 (B5 (A9 (A0 A7 (A0 (A9 (A0 A7 (A0 A7 (A0 (pv 6) (A0 (A9 (A0 A7 (A0 A3 A4))) A4))))) (A0 (pv 9) (A0 (A9 (A0 A7 (A0 (ixE K w (pv 2) A3) (A0 (pv 8) (A0 (pv 10) A4))))) A4)))))))))))), ?_⟩
 refine⟨_,rfl,(ixL V0.nms.1 at1 ⟨D1,λp1 hp1=> ?_⟩)⟩;have t1:=A2 hp1 (.tup [.str "name",.str y1]);have V1':=V0.same t1;have hf1:(upd H p1 (.tup [.str "name",.str y1])) p1=some (.tup [.str "name",.str y1]):=A1;generalize upd H p1 (.tup [.str "name",.str y1])=H1 at t1 V1' hf1⊢;refine⟨_,rfl,_,rfl,_,rfl,(ixT (t1 _ _ hpo) rfl ⟨_,_,rfl,.inl ⟨_,SqL.of (t1 _ _ hqo),rfl⟩,.inl ⟨_,_,rfl,rfl,_,rfl,.inl ⟨nl,_,rfl,SqL.of V1'.nms.1,λp2 hp2=>⟨p2,rfl,⟨_,SqL.of A1⟩, ?_⟩⟩⟩⟩)⟩;rw[dnZ (ss.map V.str) (by rw[length_map];exact hsl) (by omega:us.length<=7)];have t2:=A2 hp2 (.lst (((ss.map V.str).drop 2).take (us.length - 1)));have hl2:(upd H1 p2 (.lst (((ss.map V.str).drop 2).take (us.length - 1)))) p2=some (.lst (((ss.map V.str).drop 2).take (us.length - 1))):=A1;generalize upd H1 p2 (.lst (((ss.map V.str).drop 2).take (us.length - 1)))=H2 at t2 hl2⊢;have hxl:(((ss.map V.str).drop 2).take (us.length - 1)).length=ks.length:=by rw[length_take,length_drop,length_map,hsl];omega
 refine U4 (xs:=((ss.map V.str).drop 2).take (us.length - 1)) (λi ys H'=>Same H2 H'/\∃ts:List Tm,All2 (T1 H') ts ys/\All2 (λt q=>Ty F g t (.t q)/\Sz 0 t) ts (ks.take i)/\ys.length=i) ⟨Same.refl _,[],.nil,.nil,rfl⟩ ?_ ?_ ?_
 ·rintro i ys H' hi ⟨sm,ts,_,_,hyl⟩;exact⟨SqL.of (sm _ _ hl2),by rw[hyl];rw[hxl]at hi;exact Nat.le_trans hi (Nat.le_trans (by omega:ks.length<=4) (by decide))⟩
 ·rintro i x ys H' hx ⟨sm,ts,hts,hty,hyl⟩;refine Y0 ?_;have hi:i<ks.length:=by rw[<-hxl];exact(List.getElem?_eq_some_iff.mp hx).1
  obtain⟨y,hy,gy⟩:=V0.par (i+1) ks[i] (by simp[hi]);have ex:x=.str y:=by
   rw[List.getElem?_take,if_pos (by omega),getElem?_drop,getElem?_map,show 2+i=i+1+1 by omega,hy]at hx;exact(Option.some.inj hx).symm
  subst ex;refine⟨_,rfl,D1,λp3 hp3=> ?_⟩;have t3:=A2 hp3 (.tup [.str "name",.str y]);refine⟨sm.trans t3,ts++ [.name y],(hts.imp λ_ _ h=>h.mono (A5 t3)).app (.cons (.name A1) .nil), ?_,by rw[length_append,hyl];rfl⟩;rw[BV.take_one (List.getElem?_eq_getElem hi)];exact hty.app (.cons ⟨.name gy,FF (by show 1<=4;decide) (zero_le _) 0⟩ .nil)
 rintro ys H3 ⟨sm,ts,hts,hty,hyl⟩ r3 hr3;rw[hxl]at hyl;rw[hxl,take_of_length_le (Nat.le_refl _)]at hty;refine⟨r3,_,rfl,.inl ⟨SqL.of A1,λp4 hp4=> ?_⟩⟩;have t3:=A2 hr3 (.lst ys);have t4:=A2 hp4 (.tup ys);have t14:=t2.trans (sm.trans (t3.trans t4));have V4:=V1'.same t14;have hf4:=t14 _ _ hf1;have hts4:=hts.imp λ_ _ h=>h.mono (A5 (t3.trans t4));have hy4:(upd (upd H3 r3 (.lst ys)) p4 (.tup ys)) p4=some (.tup ys):=A1;have k4:Kl l H _:=Kl.of (t1.trans t14);generalize upd (upd H3 r3 (.lst ys)) p4 (.tup ys)=H4 at t14 V4 hf4 hts4 hy4 k4⊢;have hpo4:=(t1.trans t14) _ _ hpo;have hwo4:=(hwo.mono (A5 t1)).mono (A5 t14);refine⟨_,rfl,(ixT hpo4 rfl ⟨_,rfl,D1,λp5 hp5=>⟨P2,λp6 hp6=>⟨L8,λp7 hp7=> ?_⟩⟩⟩)⟩;have t5:=A2 hp5 (.tup [.str "number",.int 1]);have t6:=A2 hp6 (.tup [.str "two",.str "-",.ref p1,.ref p5]);have t7:=A2 hp7 (.tup [.ref p6]);have t57:=t5.trans (t6.trans t7);refine⟨_,rfl,.inr (.inl (UL A1 (t57 _ _ hy4) (by omega) λp8 H8 s8 hp8=>⟨D9,λp9 hp9=> ?_⟩))⟩;have t9:=A2 hp9 (.tup [.str "call",.str z,.ref p8]);have t49:=t57.trans (s8.trans t9);have hargs:TA (upd H8 p9 (.tup [.str "call",.str z,.ref p8])) (T6 (.two "-" (.name y1) (.num 1)::ts)) (.inr (.ref p6::ys)):=LR (.cons (.two ((t7.trans (s8.trans t9)) _ _ A1) (.name (t49 _ _ hf4)) (.num ((t6.trans (t7.trans (s8.trans t9))) _ _ A1))) (hts4.imp λ_ _ h=>h.mono (A5 t49)));have hcall:T1 (upd H8 p9 (.tup [.str "call",.str z,.ref p8])) (.call z (T6 (.two "-" (.name y1) (.num 1)::ts))) (.ref p9):=.call A1 (t9 _ _ hp8) hargs;have ty1:Ty F g (.two "-" (.name y1) (.num 1)) (.t .num)/\Sz 0 (.two "-" (.name y1) (.num 1)):=⟨DZ (k:=1) (by decide) (by decide) (by decide) (.name gy1) (.num (by decide) (by decide)),FF (by show 2<=4;decide) (by show 1<=1;decide) 0⟩;obtain⟨r1,r2⟩:=NY (F:=F) (g:=g) (D:=0) (ts:=.two "-" (.name y1) (.num 1)::ts) (ks:=.num::ks) (.cons ty1 hty);have hlk:F.lookup z=some (.num::ks,k):=CZ V0.f.nd V0.mem;have V9:=V4.same t49;have hf9:=t49 _ _ hf4;have k9:=k4.trans (Kl.of t49);have hpo9:=t49 _ _ hpo4;have hwo9:=hwo4.mono (A5 t49);generalize upd H8 p9 (.tup [.str "call",.str z,.ref p8])=H9 at hcall V9 hf9 k9 hpo9 hwo9⊢;clear t1 t2 t3 t4 t14 t5 t6 t7 t57 s8 t9 t49 hargs V1' V4 hf4 hts4 hy4 k4 hpo4 hwo4 hp1 hp2 hp4 hp5 hp6 hp7 hp8 hp9 hts hr3 sm hl2;refine⟨_,rfl,_,rfl,.inl ⟨sc,_,rfl,V9.scr.sq,λc hc=> ?_⟩⟩;rw[VZ];have tc:=A2 hc (.lst ((ns.drop 5).map V.int));have hcl:c≠l:=λe=>by rw[e,V9.sp]at hc;cases hc
 refine⟨_,rfl,_,rfl,(ixT (tc _ _ hpo9) rfl ⟨_,rfl,_,rfl,c,l,dn,fl,_,a,sh,ms,g,m,F,k,wo,2,rfl,(V9.same tc).gv A1 hcl,by omega,by omega,hwo9.mono (A5 tc),by omega,by decide,by decide,λte ve a1 Ha ka hla ha1 ha2 hte hTe hde=> ?_⟩)⟩;have ka9:=(Kl.of tc).trans ka;have Va:=V9.kl ka9 hla ha1;have ma:=ka9.tups V9.sp;refine⟨_,rfl,_,rfl,.inl ⟨sc,_,rfl,Va.scr.sq,λc2 hc2=> ?_⟩⟩;rw[VZ];have tc2:=A2 hc2 (.lst ((ns.drop 5).map V.int));have hcl2:c2≠l:=λe=>by rw[e,Va.sp]at hc2;cases hc2
 have Vb:=Va.same tc2;have hpob:=tc2 _ _ (ma _ _ hpo9);have hwob:=(hwo9.mono ma).mono (A5 tc2);refine⟨_,rfl,_,rfl,(ixT hpob rfl ⟨_,rfl,_,rfl,(ixL Vb.nms.1 at0 ⟨_,rfl,(ixT hpob rfl ⟨dn,m,g,y0,k,wo,rfl,Vb.n,by omega,hwob,by omega,λdn2 Hc sc2 hDc=> ?_⟩)⟩)⟩)⟩;have Vc:=Vb.same sc2;have Gc:=Vc.gv (sc2 _ _ A1) hcl2;refine⟨_,rfl,c2,l,dn2,fl,_,a1,sh,ms,up g y0 k,m+1,F,k,wo,3,rfl,⟨Gc.s,hDc,Gc.f⟩,by omega,by omega,hwob.mono (A5 sc2),by omega,by decide,by decide,λtr vr a2 Hd kd hld hd1 hd2 htr hTr hdr=> ?_⟩;have kcd:=(Kl.of (tc2.trans sc2)).trans kd;have mcd:=kcd.tups Va.sp;have md:=λb xs h=>mcd b xs (ma b xs h);have Vd:=Va.kl kcd hld hd1;refine⟨_,rfl,D1,λq1 hq1=>⟨P2,λq2 hq2=> ?_⟩⟩;have u1:=A2 hq1 (.tup [.str "number",.int 1]);have u2:=A2 hq2 (.tup [.str "two",.str "<",.ref p1,.ref q1]);refine⟨_,rfl,_,rfl,(ixL ((u1.trans u2) _ _ Vd.nms.1) at0 ⟨_,rfl,_,rfl,P2,λq3 hq3=>⟨P2,λq4 hq4=> ?_⟩⟩)⟩;have u3:=A2 hq3 (.tup [.str "let",.str y0,.ref p9,vr]);have u4:=A2 hq4 (.tup [.str "if",.ref q2,ve,.ref q3]);have u34:=u3.trans u4;have u14:=u1.trans (u2.trans u34);have mu:=A5 u14;refine q (.ite (.two "<" (.name y1) (.num 1)) te (.let_ y0 (.call z (T6 (.two "-" (.name y1) (.num 1)::ts))) tr)) _ a2 _ (k9.trans (ka9.trans (kcd.trans (Kl.of u14)))) (u14 _ _ hld) (by omega) (by omega) (.ite A1 (.two (u34 _ _ A1) (.name (mu _ _ (md _ _ hf9))) (.num ((u2.trans u34) _ _ A1))) ((hte.mono mcd).mono mu) (.let_ (u4 _ _ A1) ((hcall.mono md).mono mu) (htr.mono mu))) (.ite (WR (k:=3) (.inl rfl) (.name gy1) (.num (by decide) (by decide))) hTe (.let_ (.call hlk r1) hTr)) ?_;have e1:hw te+1<=12:=hde.w;have e2:hw tr+1<=24:=hdr.w;have e3:hw (T6 (.two "-" (.name y1) (.num 1)::ts))+1<=3:=r2.w;have e4:=hde.d;have e5:=hdr.d;have e6:=r2.z (Int.le_refl _);refine⟨?_, ?_⟩
 ·show max (max 1 1+1) (max (dt te) (max (dt (T6 (.two "-" (.name y1) (.num 1)::ts))+1) (dt tr)+1))+1<=18;omega
 ·show max (max 0 (0+1)) (max (hw te) (hw (T6 (.two "-" (.name y1) (.num 1)::ts))+hw tr+1))<=48;omega
end
noncomputable abbrev EH:Stmt:=BV.top 51
noncomputable abbrev OT:List Str:=["_law_script","_law_one_here","_law_names_here","_law_spot","_law_known","_law_funs","_law_cell_here","_law_head_here","_law_terms","_law_call","_law_more"]
theorem sc_law_main:FnScope OT LH (B3 EH):=fS
theorem VU{K:FZ}{H:Hp}{ks:List Kd}{us:List V}{a b p:Addr}{Q:VK}(hus:All2 (KA H) ks us)(ha:SqL K H a (us.take 1))(hb:SqL K H b [.ref p])(hp:KA H .num (.ref p))(hd:∀k∈ks,dk k<=50)(q:∀bb:Bool,(bb=true->∃ks',ks=.num::ks')->Q (.bl bb) H):RI K (.ref a) (.ref b) H Q:=by
 cases hus with
 |nil=>exact⟨a,b,_,_,50,λ_=>true,rfl,rfl,ha,hb,Nat.le_refl _,(λj u v hu _=>by simp at hu),q _ (λe=>by simp[CV]at e)⟩
 | @cons k u ks us h hr=>
  refine⟨a,b,_,_,50,λ_=>decide (k=.num),rfl,rfl,ha,hb,Nat.le_refl _,(λj x y hx hy=> ?_),q _ (λe=> ?_)⟩
  ·match j,hx,hy with
   |0,hx,hy=>cases hx;cases hy;exact QJ (hd k (by simp)) h hp
   |j+1,hx,hy=>simp at hy
  ·have:k=.num:=by simpa [CV]using e
   rw[this];exact⟨ks,rfl⟩
theorem cCZ(xs:List V):R1 xs none (some 1)=xs.take 1:=by
 have:=PV xs 1;exact this
section
variable{P:Program}{w:World}{K:FZ}{mg:Str->Option Value}{base:Heap}{f F2 L5 E4 C6:Addr}{fd K2 O5 J6 D5:FuncData}
inductive spMainW(K:FZ)(vs:List V)(H:Hp)(Q:VK):Prop
 |mk:∀(sc nl l dn fl:Addr) (ns:List Int) (ss:List Str) (a sh ms:Int) (g:Cx) (m:Nat) (F:Fs) (z:Str) (ks:List Kd) (k:Kd) (ov:V),(vs=[.ref sc,ov,.ref nl,.ref l,.ref dn,.ref fl])->(Bv K H sc nl l dn fl ns ss a sh ms g m F z ks k ov)->(1<F.length)->(a<=2^40)->(m<=10)->(Mk H l a sh ms F g k (2^20) B18 Q)->spMainW K vs H Q
noncomputable def WT(K:FZ):Sp:=λvs H Q _=>spMainW K vs H Q
theorem ok_law_main(F:Fun K "_law_main" "_law_main" EH f fd)(B:NoL mg)
  (B7:Cn P w K mg base CX0 1 "_law_cell_at" IN (Z1 K))
  (K3:Cn P w K mg base CX0 29 "_law_some" NP (LN 4))
  (C8:Cn P w K mg base CX0 1 "_law_with" BB CF)
  (C7:Cn P w K mg base CX0 28 "_law_good" W7 (AY 4)):
  FnOk P w K mg base CX0 30 f fd LH (WT K):=by
 refine F.ok sc_law_main (λvs H Q E h=> ?_) (λcdv A outer s H vs Q E hr h=> ?_)
 ·obtain⟨sc,nl,l,dn,fl,ns,ss,a,sh,ms,g,m,F,z,ks,k,ov,rfl,_⟩:=h;rfl
 obtain⟨sc,nl,l,dn,fl,ns,ss,a,sh,ms,g,m,F,z,ks,k,ov,rfl,V0,hF1,ha,hm,q⟩:=h;have nd:=sc_law_main.nd;have hu:=hr.units0;have hgc:gc 4=187500:=by decide
 obtain⟨hk3,hks3,hkl⟩:=V0.f.sm _ V0.mem;have hk3:dk k<=3:=hk3;have hsl:=V0.nms.2.1;obtain⟨y0,hy0⟩:∃y0,ss[0]? =some y0:=⟨_,List.getElem?_eq_getElem (by omega)⟩;have at0:atI (ss.map V.str) ((0:Nat):Int)=some (.str y0):=J0 (by rw[getElem?_map,hy0];rfl);have hone:=V0.one;obtain⟨po,qo,us,wo,rfl,hpo,hqo,hus,hwo⟩:=hone;obtain⟨fus,hfl,hfus⟩:=V0.f.at_;have hful:=hfus.len;refine⟨_,(A6 (sS 6 nd (B4 B9 (cC B7 hr (A0 (pv 0) (A0 A3 A4))) A3))
   (A6 (sS 7 nd (ixE K w (pv 5) (B4 C5 (B4 B9 (pv 6) A3) (B4 U5 (kL K B.len_ (pv 5)) A3))))
   (A6 (sS 8 nd (cC K3 hr (A0 (D7 (kSl (K:=K)) (pv 0) (E7 A3) J5) (A0 (pv 3) (A0 (ixE K w (pv 7) A3) (A0 (pv 4) (A0 (pv 5) (A0 A3 A4))))))))
   (A6 (E6 (B8 (PW.pt (P0 (B0 (RJ (K:=K) hr.units) (D7 (kSl (K:=K)) (ixE K w (pv 7) A3) J5 (E7 A3)) (E5 (A0 (A9 (A0 A7 A4)) A4)) rfl) (N8 (B0 Y4 (B4 C5 (pv 6) A3) A3 rfl)))) (A8 (CU (A9 (A0 A7 (A0 (B4 C5 (B4 B9 (pv 6) A3) (ixE K w (E5 (A0 A3 (A0 A3 A4))) (B4 U5 (B4 C5 (pv 6) A3) A3))) A4))) (BZ (pv 8) A3 AF))) B6))
   (A6 (sS 9 nd (A9 (A0 A7 (A0 (ixE K w (pv 7) A3) (A0 (D6 (CW (K:=K)) rfl B.tuple_ T7 (A0 (pv 8) A4)) A4)))))
   (A6 (E6 (B8 (PW.pt (P0 (NT (IR (K:=K) hr.units) (IR (K:=K) hr.units) (ixE K w (pv 7) A3) (ixE K w (pv 1) A3) (A9 (A0 A7 A4))) (N8 (B0 (kEq (K:=K) hu) (B4 C5 (cC B7 hr (A0 (pv 0) (A0 A3 A4))) A3) A3 rfl)))) (A8 (B5 (A9 (A0 A7 (A0 A7 (A0 (A9 (A0 A7 (A0 A7 (A0 (pv 9) (A0 (pv 9) A4))))) (A0 (pv 9) A4))))))) B6))
   (A6 (sS 10 nd (cC C8 hr (A0 (pv 4) (A0 (ixE K w (pv 2) A3) (A0 (ixE K w (pv 7) A3) A4)))))
   (A8 (B5 (A9 (A0 A7 (A0 (ixE K w (pv 2) A3) (A0 (pv 9) (A0 (cC C7 hr (A0 (D7 (kSl (K:=K)) (pv 0) (E7 A3) J5) (A0 (pv 3) (A0 (ixE K w (pv 1) A3) (A0 (pv 10) (A0 (pv 5) (A0 A3 A4))))))) A4)))))))))))))), ?_⟩
 refine⟨_,rfl,sc,ns,2,rfl,V0.scr.sq,by decide,_,_,rfl,rfl,lg (by decide) (by decide), ?_⟩;generalize(F3 ns 2).fdiv 8=x;have pos:(0:Int)<(fus.length:Nat) - 1:=by omega
 have g1:=Int.emod_nonneg (x.fdiv 200) (Int.ne_of_gt pos);have g2:=Int.emod_lt_of_pos (x.fdiv 200) pos;obtain⟨u,hu1,hu2⟩:∃u,atI fus (x.fdiv 200%((fus.length:Nat) - 1))=some u/\fus[(x.fdiv 200%((fus.length:Nat) - 1)).toNat]? =some u:=by
  have h3:(x.fdiv 200%((fus.length:Nat) - 1)).toNat<fus.length:=by omega
  have e:atI fus (((x.fdiv 200%((fus.length:Nat) - 1)).toNat:Nat):Int)=some _:=J0 (List.getElem?_eq_getElem h3);rw[show(((x.fdiv 200%((fus.length:Nat) - 1)).toNat:Nat):Int)=x.fdiv 200%((fus.length:Nat) - 1) by omega]at e;exact⟨_,e,List.getElem?_eq_getElem h3⟩
 obtain⟨⟨z1,ks1,kk1⟩,he,hfe⟩:=hfus.get hu2;have heF:=mem_of_getElem? he;obtain⟨b1,b2,b3⟩:=V0.f.sm _ heF;have b1:dk kk1<=3:=b1;have b2:∀k∈ks1,dk k<=3:=b2;have b3:ks1.length<=4:=b3;obtain⟨p1,q1,us1,w1,rfl,hp1,hq1,hus1,hw1⟩:=hfe;have hul1:=hus1.len;refine⟨_,rfl,_,rfl,_,_,rfl,rfl,lg (by decide) (by decide),_,rfl,_,_,rfl,.inl ⟨_,SqL.of hfl,rfl⟩,_,_,rfl,rfl,_,_,rfl,rfl,pos,(ixL hfl hu1 ?_)⟩;refine⟨_,rfl,_,rfl,.inl ⟨sc,_,rfl,V0.scr.sq,λc hc=> ?_⟩⟩;rw[VZ];have tc:=A2 hc (.lst ((ns.drop 5).map V.int));have hcl:c≠l:=λe=>by rw[e,V0.sp]at hc;cases hc
 have hlen:(ks1.length:Int)*gc 4<=4*gc 4:=Int.mul_le_mul_of_nonneg_right (by omega) (by omega);refine⟨_,rfl,_,rfl,(ixT (tc _ _ hp1) rfl ⟨_,rfl,_,rfl,c,l,dn,fl,q1,_,a,sh,ms,g,m,F,ks1,us1,2,rfl,(V0.same tc).gv A1 hcl,by omega,by omega,tc _ _ hq1,hus1.imp λ_ _ h=>h.mono (A5 tc),b3,λk' hk'=>by have:=b2 k' hk';omega,by decide,by decide,λr ts vs a1 Ha hr0 ka hla ha1 ha2 hra hts hty=> ?_⟩)⟩;have k1:=(Kl.of tc).trans ka;have Va:=V0.kl k1 hla ha1;have ma:=k1.tups V0.sp;have hp1a:=ma _ _ hp1;have hf1a:FhA Ha (z1,ks1,kk1) (.ref p1):=FhA.kl k1 V0.sp ⟨p1,q1,us1,w1,rfl,hp1,hq1,hus1,hw1⟩;have hq1a:Ha q1=some (.lst us1):=k1 _ _ hq1 (CH V0.sp hq1 hus1 λ_ _=>LZ);have hus1a:=hus1.imp λ_ _ h=>h.mono ma;have hr0':H r=none:=by
  cases e:H r with
  |none=>rfl
  |some o=>rw[tc _ _ e]at hr0;cases hr0
 have hrl:r≠l:=λe=>by rw[e,V0.sp]at hr0';cases hr0'
 show P9 _ _ _ [some (.ref sc),some (.ref po),some (.ref nl),some (.ref l),some (.ref dn),some (.ref fl),some (.int x),some (.ref p1),some (.ref r),none,none] Ha;refine⟨fun σ' H'=>σ'=[some (.ref sc),some (.ref po),some (.ref nl),some (.ref l),some (.ref dn),some (.ref fl),some (.int x),some (.ref p1),some (.ref r),none,none]/\∃(ts':List Tm) (vs':List V),Kl l H H'/\Mo Ha H'/\H' l=some (.lst [.int a1,.int sh,.int ms])/\H' r=some (.lst vs')/\All2 (T1 H') ts' vs'/\All2 (λt k=>Ty F g t (.t k)/\Sz 2 t) ts' ks1, ?_, ?_⟩
 ·refine⟨_,rfl,(ixT hp1a rfl ⟨_,rfl,.inl ⟨q1,_,rfl,SqL.of hq1a,λs1 hs1=>⟨L8,λp2 hp2=>⟨L8,λl3 hl3=> ?_⟩⟩⟩⟩)⟩;rw[cCZ]at hp2 hl3⊢;have e1:=A2 hs1 (.lst (us1.take 1));have e2:=A2 hp2 (.tup [.str "number"]);have e3:=A2 hl3 (.lst [.ref p2]);have e13:=e1.trans (e2.trans e3);have kept:∀ {HH:Hp},Same Ha HH->∃(ts':List Tm) (vs':List V),Kl l H HH/\Mo Ha HH/\HH l=some (.lst [.int a1,.int sh,.int ms])/\HH r=some (.lst vs')/\All2 (T1 HH) ts' vs'/\All2 (λt k=>Ty F g t (.t k)/\Sz 2 t) ts' ks1:=λ{HH} sm=>⟨ts,vs,k1.trans (Kl.of sm),A5 sm,sm _ _ hla,sm _ _ hra,hts.imp λ_ _ h=>h.mono (A5 sm),hty⟩;refine VU (hus1a.imp λ_ _ h=>h.mono (A5 e13)) (SqL.of ((e2.trans e3) _ _ A1)) (SqL.of A1) (.num (e3 _ _ A1)) (λk' hk'=>by have:=b2 k' hk';omega) λbb hbb=>⟨_,rfl,K6 (λc1=> ?_) (λc1=>ifF nZ ⟨rfl,kept e13⟩)⟩;obtain⟨ks',rfl⟩:=hbb c1;refine⟨_,rfl,_,_,rfl,rfl,(by decide:(0:Int)<3),_,_,rfl,rfl,_,rfl,K6 (λc2=> ?_) (λc2=>⟨rfl,kept e13⟩)⟩;have c2':(0:Int)<x%3:=of_decide_eq_true c2;have h3:=Int.emod_lt_of_pos x (by decide:(0:Int)<3);obtain⟨b,hb,hb0,hb1⟩:∃b:Int,atI [V.int 5,.int 71] (x%3 - 1)=some (.int b)/\0<b/\b<=71:=by
   have hj:x%3 - 1=0\/x%3 - 1=1:=by omega
   rcases hj with hj|hj<;>rw[hj]
   ·exact⟨5,rfl,by decide,by decide⟩
   ·exact⟨71,rfl,by decide,by decide⟩
  cases hty with
  | @cons t0 _ ts _ y0' hty=>
  cases hts with
  | @cons _ v0 _ vs z0 hts=>
  refine⟨_,rfl,_,_,rfl,rfl,lg (by decide) (by decide),D1,λl4 hl4=>⟨_,rfl,_,_,rfl,rfl,(by decide:(0:Int)<3),_,_,rfl,rfl,(ixL A1 hb ⟨_,_,rfl,rfl,hb0,D1,λp5 hp5=> ?_⟩)⟩⟩;have e4:=A2 hl4 (.lst [.int 5,.int 71]);have e5:=A2 hp5 (.tup [.str "number",.int (x.fdiv 3%b)]);have e15:=e13.trans (e4.trans e5);have g3:=Int.emod_nonneg (x.fdiv 3) (Int.ne_of_gt hb0);have g4:=Int.emod_lt_of_pos (x.fdiv 3) hb0;refine⟨_,rfl,r,_,0,0,rfl,rfl,e15 _ _ hra,YH (by decide) (by simp only[length_cons];omega), ?_⟩;generalize hH5:upd (upd (upd (upd (upd Ha s1 (.lst (us1.take 1))) p2 (.tup [.str "number"])) l3 (.lst [.ref p2])) l4 (.lst [.int 5,.int 71])) p5 (.tup [.str "number",.int (x.fdiv 3%b)])=H5 at e15 e5;have hp5':H5 p5=some (.tup [.str "number",.int (x.fdiv 3%b)]):=by rw[<-hH5];exact A1
  have hr5:=e15 _ _ hra;have mr:Mo H5 (upd H5 r (.lst (.ref p5::vs))):=λbb xs e=>by rw[C4 (W2 e hr5 (by intro z;cases z))];exact e
  have kr:Kl l H (upd H5 r (.lst (.ref p5::vs))):=λbb o e n=>by
   have nb:bb≠r:=λeb=>by rw[eb,hr0']at e;cases e
   rw[C4 nb];exact(k1.trans (Kl.of e15)) bb o e n
  have m15:Mo Ha (upd H5 r (.lst (.ref p5::vs))):=λbb xs e=>mr _ _ (e15 _ _ e);exact⟨rfl,.num (x.fdiv 3%b)::ts,.ref p5::vs,kr,m15,by rw[C4 (Ne.symm hrl)];exact e15 _ _ hla,A1,.cons (.num (mr _ _ hp5')) (hts.imp λ_ _ h=>h.mono m15),.cons ⟨.num (Int.le_trans (by decide: -GR<=0) g3) (Int.le_trans (Int.le_of_lt g4) (Int.le_trans hb1 (by decide))),FF (by show 1<=4;decide) (zero_le _) 2⟩ hty⟩
 rintro _ Hb ⟨rfl,ts',vs',kb,mb,hlb,hrb,htsb,htyb⟩;have Vb:=V0.kl kb hlb ha1;have hp1b:=mb _ _ hp1a;have hw1b:=(hw1.mono ma).mono mb;have hwob:=(hwo.mono ma).mono mb;have hpob:=mb _ _ (ma _ _ hpo);refine⟨_,rfl,(ixT hp1b rfl ⟨_,rfl,r,_,rfl,.inl ⟨SqL.of hrb,λp6 hp6=>⟨D9,λp7 hp7=> ?_⟩⟩⟩)⟩;have e6:=A2 hp6 (.tup vs');have e7:=A2 hp7 (.tup [.str "call",.str z1,.ref p6]);have e67:=e6.trans e7;have hcall:T1 (upd (upd Hb p6 (.tup vs')) p7 (.tup [.str "call",.str z1,.ref p6])) (.call z1 (T6 ts')) (.ref p7):=.call A1 (e7 _ _ A1) (LR (htsb.imp λ_ _ h=>h.mono (A5 e67)));obtain⟨r1,r2⟩:=NY htyb;have hlk:F.lookup z1=some (ks1,kk1):=CZ V0.f.nd heF;have hcT:Ty F g (.call z1 (T6 ts')) (.t kk1):=.call hlk r1;have hcd:dt (.call z1 (T6 ts'))<=16/\hw (.call z1 (T6 ts'))<=11:=⟨by show dt (T6 ts')+1<=16;have:=r2.d;omega,by show hw (T6 ts')<=11;have h:hw (T6 ts')+1<=12:=r2.w;omega⟩;have Vc:=Vb.same e67;have kc:=kb.trans (Kl.of e67);have hp1c:=e67 _ _ hp1b;have hw1c:=hw1b.mono (A5 e67);have hwoc:=hwob.mono (A5 e67);have hpoc:=e67 _ _ hpob;show P9 _ _ _ [some (.ref sc),some (.ref po),some (.ref nl),some (.ref l),some (.ref dn),some (.ref fl),some (.int x),some (.ref p1),some (.ref r),some (.ref p7),none] (upd (upd Hb p6 (.tup vs')) p7 (.tup [.str "call",.str z1,.ref p6]));generalize upd (upd Hb p6 (.tup vs')) p7 (.tup [.str "call",.str z1,.ref p6])=Hc at hcall Vc kc hp1c hw1c hwoc hpoc⊢;generalize Tm.call z1 (T6 ts')=ct at hcall hcT hcd;have hlen2:(ks1.length:Int)*gc 4<=750000:=by omega
 refine⟨fun σ' H'=>σ'=[some (.ref sc),some (.ref po),some (.ref nl),some (.ref l),some (.ref dn),some (.ref fl),some (.int x),some (.ref p1),some (.ref r),some (.ref p7),none]/\Same Hc H', ?_, ?_⟩
 ·refine⟨_,rfl,(ixT hp1c rfl ⟨_,rfl,(ixT hpoc rfl (CC hw1c hwoc (by omega) ⟨_,rfl,K6 (λc1=>⟨L8,λp8 hp8=> ?_⟩) (λc1=>⟨_,rfl,ifF nZ (ifF nZ ⟨rfl,Same.refl _⟩)⟩)⟩))⟩)⟩;have e8:=A2 hp8 (.tup [.str "number"]);refine CC (hwoc.mono (A5 e8)) (.num A1) (by omega) ⟨_,rfl,K6 (λc2=> ?_) (λc2=>ifF nZ ⟨rfl,e8⟩)⟩;have ek:k=.num:=of_decide_eq_true c2;have ek1:kk1=.num:=(of_decide_eq_true c1).trans ek;refine⟨_,rfl,sc,ns,5,rfl,(Vc.same e8).scr.sq,by decide,_,_,rfl,rfl,(by decide:(0:Int)<16),.inl ⟨rfl,_,rfl,K6 (λc3=> ?_) (λc3=>⟨rfl,e8⟩)⟩⟩;refine⟨_,rfl,_,rfl,P2,λp9 hp9=>⟨_,rfl,P2,λp10 hp10=> ?_⟩⟩;have e9:=A2 hp9 (.tup [.str "two",.str "-",.ref p7,.ref p7]);have e10:=A2 hp10 (.tup [.str "two",.str "+",.ref p9,.ref p7]);have e810:=e8.trans (e9.trans e10);have hc9:=hcall.mono (A5 e810);subst ek;subst ek1;exact q (.two "+" (.two "-" ct ct) ct) _ a1 _ (kc.trans (Kl.of e810)) (e810 _ _ Vc.sp) ha1 (by omega) (.two A1 (.two (e10 _ _ A1) hc9 hc9) hc9) (DZ (k:=0) (by decide) (by decide) (by decide) (DZ (k:=1) (by decide) (by decide) (by decide) hcT hcT) hcT) ⟨by show max (max (dt ct) (dt ct)+1) (dt ct)+1<=18;omega,by show max (max (hw ct) (hw ct+1)) (hw ct+1)<=48;omega⟩
 rintro _ Hd ⟨rfl,sd⟩;have Vd:=Vc.same sd;refine⟨_,rfl,_,rfl,(ixL Vd.nms.1 at0 ⟨_,rfl,(ixT (sd _ _ hp1c) rfl ⟨dn,m,g,y0,kk1,w1,rfl,Vd.n,by omega,hw1c.mono (A5 sd),by omega,λdn2 He se hDe=> ?_⟩)⟩)⟩;have Ve:=Vd.same se;refine⟨_,rfl,(ixL Ve.nms.1 at0 ⟨_,rfl,_,rfl,_,rfl,.inl ⟨sc,_,rfl,Ve.scr.sq,λc2 hc2=> ?_⟩⟩)⟩;rw[VZ];have tc2:=A2 hc2 (.lst ((ns.drop 5).map V.int));have hcl2:c2≠l:=λe=>by rw[e,Ve.sp]at hc2;cases hc2
 have Gf:=(Ve.same tc2).gv A1 hcl2;have sdf:=sd.trans (se.trans tc2);refine⟨_,rfl,_,rfl,(ixT (sdf _ _ hpoc) rfl ⟨_,rfl,_,rfl,c2,l,dn2,fl,_,a1,sh,ms,up g y0 kk1,m+1,F,k,wo,3,rfl,⟨Gf.s,hDe.kl (Kl.of tc2) Ve.sp,Gf.f⟩,by omega,by omega,hwoc.mono (A5 sdf),by omega,by decide,by decide,λtr vr a2 Hg kg hlg hg1 hg2 htr hTr hdr=>⟨P2,λp11 hp11=> ?_⟩⟩)⟩;have e11:=A2 hp11 (.tup [.str "let",.str y0,.ref p7,vr]);have mg':=kg.tups Gf.s.sp;exact q (.let_ y0 ct tr) _ a2 _ (kc.trans ((Kl.of sdf).trans (kg.trans (Kl.of e11)))) (e11 _ _ hlg) (by omega) (by omega) (.let_ A1 (((hcall.mono (A5 sdf)).mono mg').mono (A5 e11)) (htr.mono (A5 e11))) (.let_ hcT hTr) ⟨by show max (dt ct) (dt tr)+1<=18;have:=hdr.d;omega,by show hw ct+hw tr+1<=48;have h:hw tr+1<=24:=hdr.w;omega⟩
end
noncomputable abbrev EN:Stmt:=BV.top 52
noncomputable abbrev QU:List Str:=["_law_script","_law_one_here","_law_names_here","_law_spot","_law_known","_law_funs","_law_way","_law_found","_law_cell_here","_law_taker_here"]
theorem sc_law_body:FnScope QU LH (B3 EN):=fS
section
variable{P:Program}{w:World}{K:FZ}{mg:Str->Option Value}{base:Heap}{f F2 a9Z bgZ E4 O2:Addr}{fd K2 a7Z bbZ J6 R7:FuncData}
theorem Sz.b18{dp:Int}{a:Tm}(h4:dp<=4)(x:Sz dp a):B18 a:=by
 have h1:=x.d;have h2:=x.w;have h3:2^dp.toNat<=2^4:=pow_le_pow_right (by decide) (by omega);exact⟨by omega,by omega⟩
theorem B18.bb{a:Tm}(x:B18 a):Bb a:=⟨le_succ_of_le x.1,le_succ_of_le x.2⟩
inductive spBodyW (K:FZ) (vs:List V) (H:Hp) (Q:VK):Prop
 |mk:∀(sc nl l dn fl:Addr) (ns:List Int) (ss:List Str) (a sh ms:Int) (g:Cx) (m:Nat) (F:Fs) (z:Str) (ks:List Kd) (k:Kd) (ov:V),(vs=[.ref sc,ov,.ref nl,.ref l,.ref dn,.ref fl])->(Bv K H sc nl l dn fl ns ss a sh ms g m F z ks k ov)->(a<=2^40)->(m<=10)->(Mk H l a sh ms F g k (2^20) Bb Q)->spBodyW K vs H Q
noncomputable def YM(K:FZ):Sp:=λvs H Q _=>spBodyW K vs H Q
theorem ok_law_body(F:Fun K "_law_body" "_law_body" EN f fd)(B:NoL mg)
  (B7:Cn P w K mg base CX0 1 "_law_cell_at" IN (Z1 K))
  (DV:Cn P w K mg base CX0 30 "_law_main" LH (WT K))
  (DR:Cn P w K mg base CX0 29 "_law_down" LH (XG K))
  (C7:Cn P w K mg base CX0 28 "_law_good" W7 (AY 4))
  (N4:Cn P w K mg base CX0 1 "_law_taker" q3L HF):
  FnOk P w K mg base CX0 31 f fd LH (YM K):=by
 refine F.ok sc_law_body (λvs H Q E h=> ?_) (λcdv A outer s H vs Q E hr h=> ?_)
 ·obtain⟨sc,nl,l,dn,fl,ns,ss,a,sh,ms,g,m,F,z,ks,k,ov,rfl,_⟩:=h;rfl
 obtain⟨sc,nl,l,dn,fl,ns,ss,a,sh,ms,g,m,F,z,ks,k,ov,rfl,V0,ha,hm,q⟩:=h;have nd:=sc_law_body.nd;have hu:=hr.units0;have hgc:gc 4=187500:=by decide
 obtain⟨hk3,hks3,hkl⟩:=V0.f.sm _ V0.mem;have hk3:dk k<=3:=hk3;have hks3:∀q∈ks,dk q<=3:=hks3;have hsl:=V0.nms.2.1;obtain⟨y0,hy0⟩:∃y0,ss[0]? =some y0:=⟨_,List.getElem?_eq_getElem (by omega)⟩;have at0:atI (ss.map V.str) ((0:Nat):Int)=some (.str y0):=J0 (by rw[getElem?_map,hy0];rfl);have hone:=V0.one;obtain⟨po,qo,us,wo,rfl,hpo,hqo,hus,hwo⟩:=hone;obtain⟨fus,hfl,hfus⟩:=V0.f.at_;have hful:=hfus.len;refine⟨_,(A6 (sS 6 nd (B4 C5 (B4 B9 (cC B7 hr (A0 (pv 0) (A0 A3 A4))) A3) A3))
   (A6 (E6 (B8 (PW.pt (P0 (B0 (kEq (K:=K) hu) (ixE K w (pv 1) A3) A7 rfl) (P0 (B0 Y4 (kL K B.len_ (pv 5)) A3 rfl) (N8 (B0 Y4 (pv 6) A3 rfl))))) (A8 (sS 7 nd (cC DV hr (A0 (pv 0) (A0 (pv 1) (A0 (pv 2) (A0 (pv 3) (A0 (pv 4) (A0 (pv 5) A4))))))))) (A8 (E6 (B8 (PW.pt (P0 (B0 (kNe (K:=K) hu) (ixE K w (pv 1) A3) A7 rfl) (P0 (B0 (RJ (K:=K) hr.units) (D7 (kSl (K:=K)) (ixE K w (pv 1) A3) J5 (E7 A3)) (E5 (A0 (A9 (A0 A7 A4)) A4)) rfl) (N8 (B0 Y4 (pv 6) A3 rfl))))) (A8 (sS 7 nd (cC DR hr (A0 (pv 0) (A0 (pv 1) (A0 (pv 2) (A0 (pv 3) (A0 (pv 4) (A0 (pv 5) A4))))))))) (A8 (sS 7 nd (cC C7 hr (A0 (D7 (kSl (K:=K)) (pv 0) (E7 A3) J5) (A0 (pv 3) (A0 (ixE K w (pv 1) A3) (A0 (pv 4) (A0 (pv 5) (A0 A3 A4))))))))))))))
   (A6 (sS 8 nd (B4 B9 (cC B7 hr (A0 (pv 0) (A0 A3 A4))) A3))
   (A6 (E6 (B8 (PW.pt (P0 (B0 (IR (K:=K) hr.units) (ixE K w (pv 1) A3) (A9 (A0 A7 A4)) rfl) (N8 (B0 (kEq (K:=K) hu) (B4 C5 (pv 8) A3) A3 rfl)))) (A6 (sS 9 nd (cC N4 hr (A0 (B4 P7 A3 (B4 Q5 (B4 B9 (pv 8) A3) A3)) (A0 (pv 4) (A0 (ixE K w (pv 2) A3) (A0 WE A4))))))
   (A8 (B8 (B0 ZZ (pv 9) WE rfl) (A8 (B5 (A9 (A0 A7 (A0 (pv 9) (A0 (pv 7) A4)))))) B6))) B6))
   (A8 (B5 (pv 7))))))), ?_⟩
 refine⟨_,rfl,sc,ns,1,rfl,V0.scr.sq,by decide,_,_,rfl,rfl,lg (by decide) (by decide),_,_,rfl,rfl,(by decide:(0:Int)<3), ?_⟩;generalize(F3 ns 1).fdiv 15%3=way;refine⟨fun σ' H'=>∃(t:Tm) (v:V) (a':Int),σ'=[some (.ref sc),some (.ref po),some (.ref nl),some (.ref l),some (.ref dn),some (.ref fl),some (.int way),some v,none,none]/\Kl l H H'/\H' l=some (.lst [.int a',.int sh,.int ms])/\a<=a'/\a'<=a+2^20/\T1 H' t v/\Ty F g t (.t k)/\B18 t, ?_, ?_⟩
 ·have el2:∀(HH:Hp) (D:Ends),Same H HH->(∀σ' H',(∃(t:Tm) (v:V) (a':Int),σ'=[some (.ref sc),some (.ref po),some (.ref nl),some (.ref l),some (.ref dn),some (.ref fl),some (.int way),some v,none,none]/\Kl l H H'/\H' l=some (.lst [.int a',.int sh,.int ms])/\a<=a'/\a'<=a+2^20/\T1 H' t v/\Ty F g t (.t k)/\B18 t)->D.nx σ' H')->YI (WW (AY 4) [] E0 (W3 (tSl (λx lo hi H Q=>rSlL K x lo hi H Q\/rSlT K x lo hi H Q) (tVar 0) (aXZ (tC (V.int 5))) RV) (W3 (tVar 3) (W3 (tOp (λx y H Q=>rIxL K x y H Q\/rIxT K x y H Q\/rIxS x y H Q\/rIxTop w K x y H Q) (tVar 1) (tC (V.int 2))) (W3 (tVar 4) (W3 (tVar 5) (W3 (tC (V.int 4)) OU))))))) (GP 7) D [some (.ref sc),some (.ref po),some (.ref nl),some (.ref l),some (.ref dn),some (.ref fl),some (.int way),none,none,none] HH:=λHH D sm hD=>by
   have Vh:=V0.same sm;refine⟨_,rfl,_,rfl,.inl ⟨sc,_,rfl,Vh.scr.sq,λc hc=> ?_⟩⟩;rw[VZ];have tc:=A2 hc (.lst ((ns.drop 5).map V.int));have hcl:c≠l:=λe=>by rw[e,Vh.sp]at hc;cases hc
   refine⟨_,rfl,_,rfl,(ixT (tc _ _ (sm _ _ hpo)) rfl ⟨_,rfl,_,rfl,c,l,dn,fl,_,a,sh,ms,g,m,F,k,wo,4,rfl,(Vh.same tc).gv A1 hcl,by omega,by omega,(hwo.mono (A5 sm)).mono (A5 tc),by omega,by decide,by decide,λt v a' H' h1 h2 h3 h4 h5 h6 h7=>hD _ _ ⟨t,v,a',rfl,(Kl.of (sm.trans tc)).trans h1,h2,h3,by omega,h5,h6,h7.b18 (by decide)⟩⟩)⟩
  suffices el:_ from⟨_,rfl,(ixT hpo rfl (.inl ⟨rfl,_,rfl,K6 (λc1=>⟨_,rfl,_,_,rfl,.inl ⟨_,SqL.of hfl,rfl⟩,_,_,rfl,rfl,_,rfl,K6 (λc2=>⟨_,rfl,_,_,rfl,rfl,_,rfl,K6 (λc3=>⟨_,rfl,_,rfl,_,rfl,_,rfl,_,rfl,_,rfl,sc,nl,l,dn,fl,ns,ss,a,sh,ms,g,m,F,z,ks,k,.ref po,rfl,V0,by have:(1:Int)<(fus.length:Nat):=of_decide_eq_true c2;omega,ha,hm,λt v a' H' h1 h2 h3 h4 h5 h6 h7=>⟨t,v,a',rfl,h1,h2,h3,h4,h5,h6,h7⟩⟩) (λc3=>el)⟩) (λc2=>ifF nZ el)⟩) (λc1=>ifF nZ el)⟩))⟩
  refine⟨fun σ' H'=>∃(t:Tm) (v:V) (a':Int),σ'=[some (.ref sc),some (.ref po),some (.ref nl),some (.ref l),some (.ref dn),some (.ref fl),some (.int way),some v,none,none]/\Kl l H H'/\H' l=some (.lst [.int a',.int sh,.int ms])/\a<=a'/\a'<=a+2^20/\T1 H' t v/\Ty F g t (.t k)/\B18 t, ?_,λ_ _ h=>h⟩;refine⟨_,rfl,(ixT hpo rfl (.inl ⟨rfl,_,rfl,K6 (λc1=> ?_) (λc1=>ifF nZ (el2 _ _ (Same.refl _) λ_ _ h=>h))⟩))⟩;refine⟨_,rfl,(ixT hpo rfl ⟨_,rfl,.inl ⟨qo,_,rfl,SqL.of hqo,λs1 hs1=>⟨L8,λp2 hp2=>⟨L8,λl3 hl3=> ?_⟩⟩⟩⟩)⟩;rw[cCZ]at hp2 hl3⊢;have e1:=A2 hs1 (.lst (us.take 1));have e2:=A2 hp2 (.tup [.str "number"]);have e3:=A2 hl3 (.lst [.ref p2]);have e13:=e1.trans (e2.trans e3);refine VU (hus.imp λ_ _ h=>h.mono (A5 e13)) (SqL.of ((e2.trans e3) _ _ A1)) (SqL.of A1) (.num (e3 _ _ A1)) (λk' hk'=>by have:=hks3 k' hk';omega) λbb hbb=>⟨_,rfl,K6 (λc2=> ?_) (λc2=>ifF nZ (el2 _ _ e13 λ_ _ h=>h))⟩;obtain⟨ks',rfl⟩:=hbb c2;refine⟨_,rfl,_,_,rfl,rfl,_,rfl,K6 (λc3=> ?_) (λc3=>el2 _ _ e13 λ_ _ h=>h)⟩;exact⟨_,rfl,_,rfl,_,rfl,_,rfl,_,rfl,_,rfl,sc,nl,l,dn,fl,ns,ss,a,sh,ms,g,m,F,z,ks',k,.ref po,rfl,V0.same e13,ha,hm,λt v a' H' h1 h2 h3 h4 h5 h6 h7=>⟨t,v,a',rfl,(Kl.of e13).trans h1,h2,h3,h4,h5,h6,h7⟩⟩
 rintro _ H1 ⟨t,v,a1,rfl,k1,hl1,ha1,ha2,ht,hT,hdt⟩;have V1':=V0.kl k1 hl1 ha1;have m1:=k1.tups V0.sp;refine⟨_,rfl,sc,ns,1,rfl,V1'.scr.sq,by decide,_,_,rfl,rfl,lg (by decide) (by decide), ?_⟩;generalize(F3 ns 1).fdiv 45=x;show P9 _ _ _ [some (.ref sc),some (.ref po),some (.ref nl),some (.ref l),some (.ref dn),some (.ref fl),some (.int way),some v,some (.int x),none] H1;have q1:∀ {HH:Hp},Same H1 HH->Q v HH:=λ{HH} sm=>q t v a1 HH (k1.trans (Kl.of sm)) (sm _ _ hl1) ha1 ha2 (ht.mono (A5 sm)) hT hdt.bb;refine⟨fun σ' H'=>∃y,σ'=[some (.ref sc),some (.ref po),some (.ref nl),some (.ref l),some (.ref dn),some (.ref fl),some (.int way),some v,some (.int x),y]/\Same H1 H', ?_, ?_⟩
 ·refine⟨_,rfl,(ixT (m1 _ _ hpo) rfl ⟨L8,λp2 hp2=> ?_⟩)⟩;have e2:=A2 hp2 (.tup [.str "number"]);refine CC ((hwo.mono m1).mono (A5 e2)) (.num A1) (by omega) ⟨_,rfl,K6 (λc1=> ?_) (λc1=>ifF nZ ⟨_,rfl,e2⟩)⟩;have ek:k=.num:=of_decide_eq_true c1;refine⟨_,rfl,_,_,rfl,rfl,(by decide:(0:Int)<2),.inl ⟨rfl,_,rfl,K6 (λc2=> ?_) (λc2=>⟨_,rfl,e2⟩)⟩⟩;have V2:=V1'.same e2;refine⟨_,rfl,_,_,rfl,rfl,lg (by decide) (by decide),_,_,rfl,rfl,mr ⟨by decide,by decide⟩,.inl ⟨_,_,rfl,rfl,_,rfl,_,rfl,(ixL V2.nms.1 at0 ⟨_,dn,m,g,y0,.non,rfl,V2.n,by omega,λH3 s3=> ?_,λt' v' H3 s3 ht' hT' hdt'=> ?_⟩)⟩⟩
  ·exact⟨_,rfl,rfl,_,rfl,ifF (by decide) ⟨_,rfl,e2.trans s3⟩⟩
  ·refine⟨_,rfl,rfl,_,rfl,ifT (by cases ht'<;>rfl) ?_⟩;refine⟨_,rfl,_,rfl,D9,λp4 hp4=> ?_⟩;have e4:=A2 hp4 (.tup [.str "do",v',v]);have e24:=e2.trans (s3.trans e4);subst ek;exact q (.do_ t' t) _ a1 _ (k1.trans (Kl.of e24)) (e24 _ _ hl1) ha1 ha2 (.do_ A1 (ht'.mono (A5 e4)) (ht.mono (A5 e24))) (.do_ (hT' F) hT) ⟨by show max (dt t') (dt t)+1<=19;have:=(hdt' 0).z (Int.le_refl _);have:=hdt.1;omega,by show max (hw t') (hw t)<=49;have h:hw t'+1<=3:=(hdt' 0).w;have:=hdt.2;omega⟩
 rintro _ H2 ⟨y,rfl,s2⟩;exact⟨_,rfl,q1 s2⟩
end
noncomputable abbrev BY:Stmt:=BV.top 49
noncomputable abbrev NX:List Str:=["_law_script","_law_names_here","_law_found","_law_many","_law_k","_law_name_here","_law_ahead"]
theorem sc_law_small:FnScope NX ZO (B3 BY):=fS
noncomputable def qn(i:Nat):Str:=badQ.getD i "qa0"
theorem aPZ:∀i:Nat,i<9->atI ("abcdefghi":Str).cps.toList (0+(i:Int))=some (97+i)/\("q"++⟨#[97+i]⟩:Str)++ "0"=qn i/\qn i∈badQ/\("q":Str).length+(⟨#[97+i]⟩:Str).length<=sizeLine/\("q"++⟨#[97+i]⟩:Str).length+("0":Str).length<=sizeLine:=by decide +kernel
noncomputable def ahT:Nat->Tm
 |0=> .num 3
 |k+1=> .call (qn k) (if k%2=0 then .nil else .cons (.num ((k+1:Nat):Int)) .nil)
noncomputable def smD(y:Str)(k:Nat):Dn:=⟨qn k,if k%2=0 then []else [y],if k%2=0 then .two "+" (ahT k) (.num 1)else .two "-" (.name y) (ahT k)⟩
theorem b4Z{H:Hp}{a:Addr}{us vs:List V}(h:H a=some (.lst us)):Mo H (upd H a (.lst vs)):=λb xs e=>by rw[C4 (W2 e h (by intro z;cases z))];exact e
theorem YU{z:Str}{ss:List Str}(h:z∉ss):inV (.str z) (ss.map V.str)=false:=by
 cases e:inV (.str z) (ss.map V.str)with
 |false=>rfl
 |true=>
  obtain⟨x,hx,hz⟩:=List.any_eq_true.mp e;obtain⟨y,hy,rfl⟩:=mem_map.mp hx;have:y=z:=by simpa [eqV]using hz
  exact absurd (this▸hy) h
theorem K5{t:TS}{D:Ends}{σ:St}{H:Hp}(h:t D σ H):tCut t D σ H:=⟨D.nx,h,λ_ _ h=>h⟩
theorem KR(ss:List Str):(ss.map V.str).all DJ=true:=by
 rw[all_eq_true];intro x hx;obtain⟨z,_,rfl⟩:=mem_map.mp hx;rfl
section
variable{P:Program}{w:World}{K:FZ}{mg:Str->Option Value}{base:Heap}{f F2:Addr}{fd K2:FuncData}
inductive spSmallW(K:FZ)(vs:List V)(H:Hp)(Q:VK):Prop
 |mk:∀(sc nl:Addr) (ns:List Int) (ss:List Str) (y:Str),(vs=[.ref sc,.ref nl])->(ScrAt K H sc ns)->(NmsAt H nl ss)->(ss[1]? =some y)->(∀(l:Addr) (us:List V) (n:Nat) H',Same H H'->n<=9->H' l=some (.lst us)->All2 (DnA H') ((List.range n).map (smD y)) us->Q (.ref l) H')->spSmallW K vs H Q
noncomputable def SD(K:FZ):Sp:=λvs H Q _=>spSmallW K vs H Q
theorem ok_law_small(F:Fun K "_law_small" "_law_small" BY f fd)(B:NoL mg)
  (B7:Cn P w K mg base CX0 1 "_law_cell_at" IN (Z1 K)):
  FnOk P w K mg base CX0 2 f fd ZO (SD K):=by
 refine F.ok sc_law_small (λvs H Q E h=> ?_) (λcdv A outer s H vs Q E hr h=> ?_)
 ·obtain⟨sc,nl,ns,ss,y,rfl,_⟩:=h;rfl
 obtain⟨sc,nl,ns,ss,y,rfl,hsc,⟨hn1,hn2,hn3,hn4⟩,hy,q⟩:=h;have nd:=sc_law_small.nd;have hu:=hr.units0;refine⟨_,(A6 (sS 2 nd (E5 A4))
   (A6 (sS 3 nd (B4 P7 A3 (B4 C5 (B4 B9 (cC B7 hr (A0 (pv 0) (A0 A3 A4))) A3) A3)))
   (A6 (GD PassesOwn.never rfl (P6 rfl B.range_ (A0 (B4 ahZ (pv 3) (D6 N5 rfl B.int_ CJ (A0 (M9 (kEq (K:=K) hu) (B4 C5 (B4 B9 (cC B7 hr (A0 (pv 0) (A0 A3 A4))) A3) A3) A3 rfl) A4))) A4)) (gN 4 nd) (A6 (sS 5 nd (B4 P7 (B4 P7 A7 (DG ix_str A7 (pv 4) (λ_ _=>rfl))) A7))
   (A6 (E6 (B8 (B0 (kIn (K:=K) (w:=w)) (pv 5) (pv 1) rfl) (A8 (sS 5 nd (B4 P7 (B4 P7 A7 (DG ix_str A7 (pv 4) (λ_ _=>rfl))) A7))) B6))
   (A6 (sS 6 nd (A9 (A0 A7 (A0 (B4 P7 A3 (pv 4)) A4))))
   (A6 (E6 (B8 (B0 Y4 (pv 4) A3 rfl) (A8 (sS 6 nd (A9 (A0 A7 (A0 (ixE K w (ixE K w (pv 2) (IK EG A3)) A3) (A0 (D6 (CW (K:=K)) rfl B.tuple_ T7 (A0 (B4 ahZ (E5 (A0 (A9 (A0 A7 (A0 (pv 4) A4))) A4)) (kL K B.len_ (ixE K w (ixE K w (pv 2) (IK EG A3)) A3))) A4)) A4)))))) B6))
   (A8 (E6 (B8 (B0 (kEq (K:=K) hu) (B4 C5 (pv 4) A3) A3 rfl) (A8 (X1 (aP K (pv 2) (A9 (A0 A7 (A0 (pv 5) (A0 (A9 A4) (A0 (A9 (A0 A7 (A0 A7 (A0 (pv 6) (A0 (A9 (A0 A7 (A0 A3 A4))) A4))))) A4)))))))) (A8 (X1 (aP K (pv 2) (A9 (A0 A7 (A0 (pv 5) (A0 (A9 (A0 (ixE K w (pv 1) A3) A4)) (A0 (A9 (A0 A7 (A0 A7 (A0 (A9 (A0 A7 (A0 (ixE K w (pv 1) A3) A4))) (A0 (pv 6) A4))))) A4))))))))))))))))
   (A8 (B5 (pv 2)))))), ?_⟩
 have sc2:∀ {HH:Hp},Same H HH->ScrAt K HH sc ns:=λ{HH} sm=>hsc.imp (λ⟨o,h⟩=>⟨o,sm _ _ h⟩) id;refine⟨zero_le _,λfl hfl=> ?_⟩;have s1:=A2 hfl (.lst []);refine⟨_,rfl,sc,ns,1,rfl,(sc2 s1).sq,by decide,_,_,rfl,rfl,lg (by decide) (by decide),_,_,rfl,rfl,(by decide:(0:Int)<6),.inl ⟨_,_,rfl,rfl, ?_⟩⟩;have g1:=Int.emod_nonneg ((F3 ns 1).fdiv 720) (by decide:(6:Int)≠0);have g2:=Int.emod_lt_of_pos ((F3 ns 1).fdiv 720) (by decide:(0:Int)<6);obtain⟨n,en,hn⟩:∃n:Nat,(4+(F3 ns 1).fdiv 720%6)*(if decide (V.int ((F3 ns 1).fdiv 90%8)=V.int 1)=true then 1 else 0)=(n:Int)/\n<=9:=by
  split
  ·exact⟨(4+(F3 ns 1).fdiv 720%6).toNat,by omega,by omega⟩
  ·exact⟨0,by omega,by omega⟩
 show P9 _ _ _ [some (.ref sc),some (.ref nl),some (.ref fl),some (.int (4+(F3 ns 1).fdiv 720%6)),none,none,none] (upd H fl (.lst []));have hf1:(upd H fl (.lst [])) fl=some (.lst []):=A1;generalize upd H fl (.lst [])=H1 at s1 hf1⊢;refine⟨_,rfl,_,rfl,sc,ns,1,rfl,(sc2 s1).sq,by decide,_,_,rfl,rfl,lg (by decide) (by decide),_,_,rfl,rfl,(by decide:(0:Int)<8),.inl ⟨rfl,.inl ⟨_,rfl,.inl ⟨_,_,rfl,rfl,.inl ⟨by omega,by omega⟩,_,rfl, ?_⟩⟩⟩⟩;rw[en];generalize 4+(F3 ns 1).fdiv 720%6=many;refine⟨by omega,by omega,KO (n:=n) (λi σ' H'=>∃(y4 y5 y6:Option V) (us:List V),σ'=[some (.ref sc),some (.ref nl),some (.ref fl),some (.int many),y4,y5,y6]/\Same H H'/\H' fl=some (.lst us)/\All2 (DnA H') ((List.range i).map (smD y)) us) ⟨_,_,_,[],rfl,s1,hf1,.nil⟩ ?_ ?_⟩
 ·rintro i _ H2 hi ⟨y4,y5,y6,us,rfl,s2,hf2,hus⟩;obtain⟨hq1,hq2,hq3,hq4,hq5⟩:=aPZ i (by omega);have hul:us.length=i:=by rw[<-hus.len,length_map,length_range]
  have upS:∀ {HH:Hp} {vs:List V},Same H HH->Same H (upd HH fl (.lst vs)):=λ{HH vs} sm b o hb=>by rw[C4 (λe=>by rw[e,hfl]at hb;cases hb)];exact sm b o hb
  refine⟨_,rfl,"abcdefghi",_,_,rfl,rfl,(by decide +kernel),hq1,.inr (.inl ⟨_,_,rfl,rfl,hq4,.inr (.inl ⟨_,_,rfl,rfl,hq5, ?_⟩)⟩)⟩;rw[hq2];have nin:inV (.str (qn i)) (ss.map V.str)=false:=YU (hn4 _ (mem_cons_of_mem _ hq3));refine⟨fun σ' H'=>σ'=[some (.ref sc),some (.ref nl),some (.ref fl),some (.int many),some (.int (0+(i:Int))),some (.str (qn i)),y6]/\H2=H', ?_, ?_⟩
  ·exact⟨_,rfl,_,rfl,.inr (.inl ⟨nl,_,rfl,.inl (SqL.of (s2 _ _ hn1)),rfl,KR ss,_,rfl,ifF (by rw[nin];exact nZ) ⟨rfl,rfl⟩⟩)⟩
  rintro _ _ ⟨rfl,rfl⟩;refine⟨_,rfl,.inl ⟨_,_,rfl,rfl,D1,λp1 hp1=> ?_⟩⟩;have t1:=A2 hp1 (.tup [.str "number",.int (3+(0+(i:Int)))]);refine⟨fun σ' H'=>∃v,σ'=[some (.ref sc),some (.ref nl),some (.ref fl),some (.int many),some (.int (0+(i:Int))),some (.str (qn i)),some v]/\Same H2 H'/\T1 H' (ahT i) v, ?_, ?_⟩
  ·refine⟨_,rfl,_,_,rfl,rfl,_,rfl,K6 (λc=> ?_) (λc=> ?_)⟩
   ·have c':(0:Int)<0+(i:Int):=of_decide_eq_true c;obtain⟨j,rfl⟩:∃j,i=j+1:=⟨i - 1,by omega⟩;rw[range_succ,map_append]at hus;obtain⟨u0,u1,rfl,_,h1⟩:=hus.split;cases h1 with
    | @cons _ u _ _ hd h1=>
    cases h1;obtain⟨p,pq,tv,rfl,hp,hpq,_⟩:=hd;have hf3:=t1 _ _ hf2;have hp3:=t1 _ _ hp;have hpq3:=t1 _ _ hpq;obtain⟨n1,en1,hn1'⟩:∃n1:Nat,(smD y j).pars.length=n1/\n1=(if j%2=0 then 0 else 1):=⟨_,rfl,by show(if j%2=0 then []else [y]).length=_;split<;>rfl⟩;have hn1le:n1<=1:=by rw[hn1'];split<;>omega
    refine⟨_,rfl,1,rfl,(ixL hf3 (EZ _ _) (ixT hp3 rfl ⟨_,rfl,D1,λp2 hp2=>⟨L8,λl3 hl3=> ?_⟩⟩))⟩;have t2:=A2 hp2 (.tup [.str "number",.int (0+((j+1:Nat):Int))]);have t3:=A2 hl3 (.lst [.ref p2]);have t23:=t2.trans t3;have zz:(1:Nat)<=sizeLine:=by decide
    refine⟨_,rfl,1,rfl,(ixL (t23 _ _ hf3) (EZ _ _) (ixT (t23 _ _ hp3) rfl ⟨_,_,rfl,.inr ⟨_,SqT.of (t23 _ _ hpq3),rfl⟩,.inr (.inr ⟨l3,_,[.ref p2],rfl,rfl,A1,by omega,by rw[length_map,en1];omega, ?_,λl4 hl4=>⟨l4,_,rfl,.inl ⟨SqL.of A1,λp5 hp5=>⟨D9,λp6 hp6=> ?_⟩⟩⟩⟩)⟩))⟩
    ·rw[length_map,en1];simp only[length_cons,length_nil,Int.toNat_natCast];omega
    have erep:(List.replicate (((smD y j).pars.map V.str).length:Int).toNat [V.ref p2]).flatten=List.replicate n1 (V.ref p2):=by
     rw[length_map,en1,Int.toNat_natCast,List.flatten_replicate_singleton]
    rw[erep]at hp5 hp6⊢;have t4:=A2 hl4 (.lst (List.replicate n1 (V.ref p2)));have t5:=A2 hp5 (.tup (List.replicate n1 (V.ref p2)));have t6:=A2 hp6 (.tup [.str "call",.str (smD y j).name,.ref p5]);have e46:=t4.trans (t5.trans t6);refine⟨_,rfl,t1.trans (t23.trans e46),.call (us:=List.replicate n1 (V.ref p2)) A1 (t6 _ _ A1) ?_⟩;have hnum:∀HH:Hp,HH p2=some (.tup [.str "number",.int ((j+1:Nat):Int)])->TA HH (if j%2=0 then .nil else .cons (.num ((j+1:Nat):Int)) .nil) (.inr (List.replicate n1 (V.ref p2))):=λHH hh=>by
     rw[hn1'];by_cases c2:j%2=0
     ·rw[if_pos c2,if_pos c2];exact .nil
     ·rw[if_neg c2,if_neg c2];exact .cons (.num hh) .nil
    exact hnum _ (by
     have:=(t3.trans e46) _ _ (show(upd (upd H2 p1 (.tup [.str "number",.int (3+(0+((j+1:Nat):Int)))])) p2 (.tup [.str "number",.int (0+((j+1:Nat):Int))])) p2=some _ from A1);rw[Int.zero_add]at this;rw[Int.zero_add];exact this)
   ·have c':¬(0:Int)<0+(i:Int):=λz=>c (decide_eq_true z);obtain rfl:i=0:=by omega
    exact⟨_,rfl,t1,.num A1⟩
  rintro _ H3 ⟨v,rfl,s3,hv⟩;have hf3:=s3 _ _ hf2;have hus3:=hus.imp λ_ _ h=>h.mono (A5 s3);have at1:atI (ss.map V.str) ((1:Nat):Int)=some (.str y):=J0 (by rw[getElem?_map,hy];rfl);have z20:(20:Nat)<=sizeLine:=by decide
  have fin:∀ {HH:Hp} {u:V},Same H3 HH->DnA HH (smD y i) u->∃(y4 y5 y6:Option V) (us':List V),[some (V.ref sc),some (.ref nl),some (.ref fl),some (.int many),some (.int (0+(i:Int))),some (.str (qn i)),some v]=[some (.ref sc),some (.ref nl),some (.ref fl),some (.int many),y4,y5,y6]/\Same H (upd HH fl (.lst (us++ [u])))/\(upd HH fl (.lst (us++ [u]))) fl=some (.lst us')/\All2 (DnA (upd HH fl (.lst (us++ [u])))) ((List.range (i+1)).map (smD y)) us':=λ{HH u} sm hd=>by
   have mo:=b4Z (vs:=us++ [u]) (sm _ _ hf3);refine⟨_,_,_,_,rfl,upS ((s2.trans s3).trans sm),A1, ?_⟩;rw[range_succ,map_append];exact(hus3.imp λ_ _ h=>(h.mono (A5 sm)).mono mo).app (.cons (hd.mono mo) .nil)
  by_cases c2:i%2=0
  ·refine K5 ⟨_,rfl,_,_,rfl,rfl,(by decide:(0:Int)<2),.inl ⟨rfl,_,rfl,ifT (decide_eq_true (congrArg V.int (by omega))) ?_⟩⟩;refine⟨_,rfl,.inl ⟨rfl,_,SqL.of hf3⟩,_,rfl,zero_le _,λpe hpe=>⟨_,rfl,D1,λpn hpn=>⟨P2,λpt hpt=>⟨P2,λpd hpd=> ?_⟩⟩⟩⟩;have t1:=A2 hpe (.tup []);have t2:=A2 hpn (.tup [.str "number",.int 1]);have t3:=A2 hpt (.tup [.str "two",.str "+",v,.ref pn]);have t4:=A2 hpd (.tup [.str "def",.str (qn i),.ref pe,.ref pt]);have e34:=t3.trans t4;have e24:=t2.trans e34;refine⟨fl,_,_,rfl,rfl,(t1.trans e24) _ _ hf3,by omega,fin (t1.trans e24) ?_⟩;refine⟨pd,pe,.ref pt,rfl,A1, ?_, ?_⟩
   ·show _=some (HO.tup ((if i%2=0 then []else [y]).map V.str));rw[if_pos c2];exact e24 _ _ A1
   ·show T1 _ (if i%2=0 then _ else _) _;rw[if_pos c2];exact .two (t4 _ _ A1) (hv.mono (A5 (t1.trans e24))) (.num (e34 _ _ A1))
  ·refine K5 ⟨_,rfl,_,_,rfl,rfl,(by decide:(0:Int)<2),.inl ⟨rfl,_,rfl,ifF (λz=>c2 (by have:=of_decide_eq_true z;injection this with this;omega)) ?_⟩⟩;refine⟨_,rfl,.inl ⟨rfl,_,SqL.of hf3⟩,_,rfl,_,rfl,(ixL ((s2.trans s3) _ _ hn1) at1 ⟨L8,λpe hpe=> ?_⟩)⟩;have t1:=A2 hpe (.tup [.str y]);refine⟨_,rfl,(ixL (((s2.trans s3).trans t1) _ _ hn1) at1 ⟨D1,λpn hpn=>⟨_,rfl,P2,λpt hpt=>⟨P2,λpd hpd=> ?_⟩⟩⟩)⟩;have t2:=A2 hpn (.tup [.str "name",.str y]);have t3:=A2 hpt (.tup [.str "two",.str "-",.ref pn,v]);have t4:=A2 hpd (.tup [.str "def",.str (qn i),.ref pe,.ref pt]);have e34:=t3.trans t4;have e24:=t2.trans e34;refine⟨fl,_,_,rfl,rfl,(t1.trans e24) _ _ hf3,by omega,fin (t1.trans e24) ?_⟩;refine⟨pd,pe,.ref pt,rfl,A1, ?_, ?_⟩
   ·show _=some (HO.tup ((if i%2=0 then []else [y]).map V.str));rw[if_neg c2];exact e24 _ _ A1
   ·show T1 _ (if i%2=0 then _ else _) _;rw[if_neg c2];exact .two (t4 _ _ A1) (.name (e34 _ _ A1)) (hv.mono (A5 (t1.trans e24)))
 ·rintro _ H3 ⟨y4,y5,y6,us,rfl,s3,hf3,hus⟩;exact⟨_,rfl,q fl us n H3 s3 hn hf3 hus⟩
end
end RG
namespace RG
open PySem L2 BV
noncomputable def gz:List Str->List Kd->Cx->Cx
 |z::zs,k::ks,g=>gz zs ks (up g z k)
 |_,_,g=>g
noncomputable abbrev g0:Cx:=λ_=>none
theorem SF:∀(zs:List Str) (ks:List Kd) (g:Cx) (y:Str),gz zs ks g y=((zs.zip ks).reverse.lookup y).or (g y)
 | [],ks,g,y=>by simp[gz]
 |_::_,[],g,y=>by simp[gz]
 |z::zs,k::ks,g,y=>by
  rw[gz,SF zs ks,List.zip_cons_cons,reverse_cons,List.lookup_append,Option.or_assoc];congr 1;unfold up;by_cases c:z=y
  ·subst c;simp[lookup_cons]
  ·have c':(y==z)=false:=by simpa using λe=>c e.symm
   rw[if_neg c,lookup_cons,c'];rfl
theorem YV:∀ {zs:List Str} {ks:List Kd} {g:Cx} {y:Str},y∉zs->gz zs ks g y=g y
 | [],ks,g,y,_=>by cases ks<;>rfl
 |_::_,[],g,y,_=>rfl
 |z::zs,k::ks,g,y,h=>by
  rw[gz,YV (λe=>h (mem_cons_of_mem _ e))];unfold up;rw[if_neg (λe=>h (by rw[e];exact mem_cons_self ..))]
theorem XL:∀ {zs:List Str} {ks:List Kd} {g:Cx} {i:Nat} {y:Str} {q:Kd},zs.Nodup->zs[i]? =some y->ks[i]? =some q->gz zs ks g y=some q
 |z::zs,k::ks,g,0,y,q,hn,hy,hq=>by
  cases hy;cases hq;rw[gz,YV (nodup_cons.mp hn).1];unfold up;rw[if_pos rfl]
 |z::zs,k::ks,g,i+1,y,q,hn,hy,hq=>by
  rw[gz];exact XL (nodup_cons.mp hn).2 (by simpa using hy) (by simpa using hq)
theorem KM{H:Hp}:∀ {zs:List Str} {ks:List Kd} {us:List V} {kvs:List (Key×V)} {g:Cx},All2 (KA H) ks us->(∀k∈ks,dk k<=8)->(∀z v,T8 kvs (.inr z)=some v->∃k,g z=some k/\KA H k v/\dk k<=8)->
  ∀z v,T8 (R0 kvs (DE zs us)) (.inr z)=some v->∃k,gz zs ks g z=some k/\KA H k v/\dk k<=8
 | [],ks,us,kvs,g,_,_,h,z,v,e=>by
  have e:T8 (R0 kvs []) (.inr z)=some v:=e;have:=h z v e
  rwa [show gz [] ks g=g by cases ks<;>rfl]
 |_::_,_,_,kvs,g,.nil,_,h,z,v,e=>h z v e
 |y::zs,k::ks,u::us,kvs,g,.cons hk hr,hd,h,z,v,e=>by
  have e:T8 (R0 (R5 kvs (.inr y) u) (DE zs us)) (.inr z)=some v:=e;refine KM (g:=up g y k) hr (λq hq=>hd q (mem_cons_of_mem _ hq)) (λz' v' e'=> ?_) z v e;rw[ID]at e';by_cases c:z'=y
  ·subst c;rw[if_pos rfl]at e';cases e';exact⟨k,by simp[up],hk,hd k (mem_cons_self ..)⟩
  ·rw[if_neg (by intro x;exact c (by injection x))]at e';obtain⟨k',q1,q2⟩:=h z' v' e';exact⟨k',by unfold up;rw[if_neg (λx=>c x.symm)];exact q1,q2⟩
theorem HQ:∀(zs:List Str) (us:List V) (kvs:List (Key×V)) (ns:List Str),kvs.map (·.1)=ns.map Sum.inr->∃ns':List Str,(R0 kvs (DE zs us)).map (·.1)=ns'.map Sum.inr/\ns'.length<=ns.length+us.length
 | [],us,kvs,ns,h=>⟨ns,h,le_add_right _ _⟩
 |_::_,[],kvs,ns,h=>⟨ns,h,Nat.le_refl _⟩
 |z::zs,u::us,kvs,ns,h=>by
  obtain⟨n1,h1,l1⟩:=NS kvs ns z u h;obtain⟨n2,h2,l2⟩:=HQ zs us (R5 kvs (.inr z) u) n1 h1;exact⟨n2,h2,by simp only[length_cons];omega⟩
theorem ZY{H:Hp}{zs:List Str}{ks:List Kd}{us:List V}{d:Addr}(hk:All2 (KA H) ks us)(hd:∀k∈ks,dk k<=8)(h:H d=some (.dK (R0 [] (DE zs us)))):DAt H us.length (gz zs ks g0) d:=by
 obtain⟨n,h1,h2⟩:=HQ zs us [] [] rfl;exact⟨_,n,h,h1,by simpa using h2,KM hk hd λz v e=>by cases e⟩
structure Mfn (F:Fs) (ss:List Str) (d:Dn) (x:Str×List Kd×Kd):Prop where
 name:d.name=x.1
 pars:d.pars=(ss.drop 1).take x.2.1.length
 ty:Ty F (gz (ss.drop 1) x.2.1 g0) d.body (.t x.2.2)
 bb:Bb d.body
theorem KG:∀ {D:List Dn} {d:Dn},(D.map (·.name)).Nodup->d∈D->(D.find? λx=>x.name==d.name)=some d
 |e::D,d,hn,hd=>by
  rw[map_cons,nodup_cons]at hn;rcases cZ hd with rfl|hd
  ·simp
  ·have:(e.name==d.name)=false:=by
    simp only[beq_eq_false_iff_ne,ne_eq];intro h;exact hn.1 (h▸mem_map_of_mem hd)
   rw[find?_cons,this];exact KG hn.2 hd
theorem IY:∀ {F:Fs} {z:Str} {y:List Kd×Kd},F.lookup z=some y->(z,y)∈F
 |(z',y')::F,z,y,h=>by
  rw[lookup_cons]at h;by_cases c:z=z'
  ·subst c;simp at h;subst h;exact mem_cons_self ..
  ·have:(z==z')=false:=by simpa using c
   rw[this]at h;exact mem_cons_of_mem _ (IY h)
theorem bPZ{F:Fs}{ss:List Str}{D D':List Dn}(hl:ss.length=8)(hF:(F.map (·.1)).Nodup)(hs:∀x∈F,x.2.1.length<=4)(h:All2 (Mfn F ss) D F)(hp:D'.Perm D):DTy F D':=by
 refine⟨λz ks k hz=> ?_⟩;have hm:=IY hz;obtain⟨i,hi⟩:=mem_iff_getElem?.mp hm;obtain⟨d,hd,hM⟩:=h.get hi;have h4:ks.length<=4:=hs _ hm;have names:D.map (·.name)=F.map (·.1):=by
  clear hi hd hz hm hp hF hs h4 hM;generalize hF':F=F0 at h;have h':All2 (λd x=>d.name=x.1) D F0:=h.imp λ_ _ m=>m.name;clear h hF';induction h' with
  |nil=>rfl
  |cons a _ ih=>rw[map_cons,map_cons,a,ih]
 have hdD:d∈D':=hp.mem_iff.mpr (mem_of_getElem? hd);have hn:(D'.map (·.name)).Nodup:=((hp.map _).nodup_iff).mpr (by rw[names];exact hF);have hname:d.name=z:=hM.name;have hpl:d.pars.length=ks.length:=by rw[hM.pars,length_take,length_drop,hl];show min ks.length 7=_;omega
 refine⟨h4,d,_,by rw[<-hname];exact KG hn hdD,hpl,hM.ty,λy q hy=> ?_,hM.bb⟩;have hy:gz (ss.drop 1) ks g0 y=some q:=hy;rw[SF]at hy;have e:d.pars.zip ks=(ss.drop 1).zip ks:=by
  rw[hM.pars];show((ss.drop 1).take ks.length).zip ks=_;rw[List.zip_eq_zip_take_min (l₁:=ss.drop 1) (l₂:=ks),length_drop,hl,show min (8 - 1) ks.length=ks.length by omega,take_of_length_le (Nat.le_refl ks.length)]
 rw[e]
 simpa using hy
noncomputable def hdD(k:Nat):Str×List Kd×Kd:=(qn k,if k%2=0 then []else [.num],.num)
theorem cUZ:∀n,n<10->((List.range n).map qn).Nodup:=by decide +kernel
theorem bJZ{F:Fs}{ss:List Str}{y:Str}{k:Nat}(hl:ss.length=8)(hy:ss[1]? =some y)(hF:(F.map (·.1)).Nodup)(hm:∀j,j<k->hdD j∈F)(hs:ss.Nodup)(h9:k<9):Mfn F ss (smD y k) (hdD k):=by
 have ed:(ss.drop 1)[0]? =some y:=by rw[getElem?_drop];exact hy
 obtain⟨r,er⟩:∃r,ss.drop 1=y::r:=by
  cases e:ss.drop 1 with
  |nil=>rw[e]at ed;cases ed
  |cons a r=>rw[e]at ed;cases ed;exact⟨r,rfl⟩
 have hah:∀g:Cx,Ty F g (ahT k) (.t .num)/\dt (ahT k)<=2/\hw (ahT k)=0:=λg=>by
  cases k with
  |zero=>exact⟨.num (by decide) (by decide),by show 1<=2;decide,rfl⟩
  |succ j=>
   have hlk:F.lookup (qn j)=some (if j%2=0 then []else [.num],.num):=CZ hF (hm j (lt_succ_self _));show Ty F g (.call (qn j) (if j%2=0 then .nil else .cons (.num ((j+1:Nat):Int)) .nil)) (.t .num)/\dt (.call (qn j) (if j%2=0 then .nil else .cons (.num ((j+1:Nat):Int)) .nil))<=2/\_;by_cases c:j%2=0
   ·rw[if_pos c]at hlk⊢;refine⟨.call hlk .nil,by show 0+1<=2;decide, ?_⟩;show hw (if j%2=0 then _ else _)=0;rw[if_pos c];rfl
   ·rw[if_neg c]at hlk⊢;have b1: -GR<=((j+1:Nat):Int):=by show -(10000000000000000000000000000000000000000:Int)<=_;omega
    have b2:((j+1:Nat):Int)<=GR:=by show _<=(10000000000000000000000000000000000000000:Int);omega
    refine⟨.call hlk (.cons (.num b1 b2) .nil),by show max 1 0+1<=2;decide, ?_⟩;show hw (if j%2=0 then _ else _)=0;rw[if_neg c];rfl
 by_cases c:k%2=0
 ·refine⟨rfl, ?_, ?_, ?_⟩
  ·show(if k%2=0 then []else [y])=(ss.drop 1).take (if k%2=0 then []else [Kd.num]).length;rw[if_pos c,if_pos c];rfl
  ·obtain⟨h1,_⟩:=hah (gz (ss.drop 1) (hdD k).2.1 g0);show Ty F _ (if k%2=0 then _ else _) _;rw[if_pos c];exact DZ (k:=0) (by decide) (by decide) (by decide) h1 (.num (by decide) (by decide))
  ·obtain⟨_,h2,h3⟩:=hah g0;show Bb (if k%2=0 then _ else _);rw[if_pos c];exact⟨by show max (dt (ahT k)) 1+1<=19;omega,by show max (hw (ahT k)) (0+1)<=49;omega⟩
 ·refine⟨rfl, ?_, ?_, ?_⟩
  ·show(if k%2=0 then []else [y])=(ss.drop 1).take (if k%2=0 then []else [Kd.num]).length;rw[if_neg c,if_neg c,er];rfl
  ·obtain⟨h1,_⟩:=hah (gz (ss.drop 1) (hdD k).2.1 g0);have hg:gz (ss.drop 1) (hdD k).2.1 g0 y=some .num:=by
    show gz (ss.drop 1) (if k%2=0 then []else [Kd.num]) g0 y=some .num;rw[if_neg c];exact XL (i:=0) (hs.sublist (List.drop_sublist 1 ss)) ed rfl
   show Ty F _ (if k%2=0 then _ else _) _;rw[if_neg c];exact DZ (k:=1) (by decide) (by decide) (by decide) (.name hg) h1
  ·obtain⟨_,h2,h3⟩:=hah g0;show Bb (if k%2=0 then _ else _);rw[if_neg c];exact⟨by show max 1 (dt (ahT k))+1<=19;omega,by show max 0 (hw (ahT k)+1)<=49;omega⟩
theorem PL{F0:Fs}{y:List Kd×Kd}{ss:List Str}{n:Nat}(hn:n<=9)(h:((F0++ [(("main":Str),y)]:Fs).map (·.1)).Nodup)(hss:∀x∈F0,x.1∈ss)(hb:∀z∈("main":Str)::badQ,z∉ss):((F0++((List.range n).map hdD++ [(("main":Str),y)]):Fs).map (·.1)).Nodup:=by
 have p:(F0++((List.range n).map hdD++ [(("main":Str),y)]):Fs).Perm ((List.range n).map hdD++(F0++ [(("main":Str),y)])):=by
  rw[<-List.append_assoc,<-List.append_assoc];exact List.perm_append_comm.append_right _
 rw[(p.map _).nodup_iff,map_append,List.nodup_append];refine⟨by rw[map_map];exact cUZ n (by omega),h,λa ha b hb' e=> ?_⟩;rw[map_map]at ha;obtain⟨j,hj,rfl⟩:=mem_map.mp ha;have hj9:j<9:=lt_of_lt_of_le (mem_range.mp hj) hn;have hq:=(aPZ j hj9).2.2.1;obtain⟨x,hx,rfl⟩:=mem_map.mp hb';have e:qn j=x.1:=e;rcases mem_append.mp hx with hx|hx
 ·exact hb (qn j) (mem_cons_of_mem _ hq) (by rw[e];exact hss x hx)
 ·rw[sZ hx]at e;have:∀z∈badQ,z≠("main":Str):=by decide +kernel
  exact this _ hq e
end RG
namespace RG
open PySem L2 BV
seal PE PT PW PA PS PSs PTs PI L2.PG PGs PO
noncomputable abbrev Q4:Stmt:=BV.top 53
noncomputable abbrev Z9:List Str:=["_law_script","_law_most","_law_shift","_law_names_here","_law_number","_law_small_here","_law_heads","_law_some_here","_law_funs","_law_spot","_law_program_here","_law_one_here","_law_body_here","_law_at"]
theorem sc_law_program:FnScope Z9 bzZ (B3 Q4):=fS
theorem cgZ(xs:List V)(v:V):R1 (xs++ [v]) (some (-1)) none=[v]:=by
 have h:HT.sIx (xs++ [v]).length 0 (some (-1))=xs.length:=by
  show(if(-1:Int)<0 then((-1:Int)+((xs++ [v]).length:Nat)).toNat else min (-1:Int).toNat (xs++ [v]).length)=xs.length;rw[if_pos (by decide)];simp;omega
 unfold R1;rw[h,HT.sIx_none];simp
section
variable{P:Program}{w:World}{K:FZ}{mg:Str->Option Value}{base:Heap}{f F2 D4 aGZ bcZ a8Z:Addr}{fd K2 G9 aFZ bhZ bdZ:FuncData}
theorem JB{H:Hp}{u:V}(h:KA H .num u):∀n:Nat,All2 (KA H) (List.replicate n Kd.num) (List.replicate n u)
 |0=> .nil
 |n+1=> .cons h (JB h n)
theorem OD{ss:List Str}{F:Fs}{y:List Kd×Kd}(hs:ss.Nodup)(hm:("main":Str)∉ss)(h:∀j x,F[j]? =some x->ss[7 - j]? =some x.1)(hl:F.length<=2):((F++ [(("main":Str),y)]:Fs).map (·.1)).Nodup:=by
 have hin:∀x∈F,x.1≠("main":Str):=λx hx e=>by
  obtain⟨j,hj⟩:=mem_iff_getElem?.mp hx;exact hm (e▸mem_of_getElem? (h j x hj))
 rcases F with _|⟨x,_|⟨x2,_|_⟩⟩
 ·simp
 ·have:=hin x (by simp)
  simpa using this
 ·have h1:=hin x (by simp);have h2:=hin x2 (by simp);have e1:=h 0 x rfl;have e2:=h 1 x2 rfl;have:x.1≠x2.1:=λe=>by
   rw[<-e]at e2;obtain⟨l1,e1⟩:=List.getElem?_eq_some_iff.mp e1;obtain⟨l2,e2⟩:=List.getElem?_eq_some_iff.mp e2;have:=(List.getElem_inj hs).mp (e1.trans e2.symm);omega
  simp[h1,h2,this]
 ·simp at hl
theorem UR(ss:List Str):R1 (ss.map V.str) (some 1) none=(ss.drop 1).map V.str:=by
 have:=HU (ss.map V.str) 1;rw[show((1:Nat):Int)=1 from rfl]at this;rw[this,List.map_drop]
theorem YJ(ss:List Str)(n:Nat):R1 (ss.map V.str) (some 1) (some (1+(n:Int)))=((ss.drop 1).take n).map V.str:=by
 have:=YL (ss.map V.str) 1 (n+1);rw[show((1:Nat):Int)=1 from rfl,show((n+1:Nat):Int)=1+(n:Int) by omega,show n+1 - 1=n from rfl]at this;rw[this,List.map_take,List.map_drop]
theorem MF{α β:Type}{R:α->β->Prop}:∀ {xs:List α} {ys:List β},All2 R xs ys->∀n,All2 R (xs.drop n) (ys.drop n)
 |_,_,h,0=>h
 |_,_,.nil,n+1=> .nil
 |_,_,.cons _ h,n+1=>MF h n
theorem MD{α β:Type}{R:α->β->Prop}:∀ {xs:List α} {ys:List β},All2 R xs ys->∀n,All2 R (xs.take n) (ys.take n)
 |_,_,_,0=> .nil
 |_,_,.nil,n+1=> .nil
 |_,_,.cons a h,n+1=> .cons a (MD h n)
inductive spProgramW (K:FZ) (vs:List V) (H:Hp) (Q:VK):Prop
 |mk:∀(sc:Addr) (ns:List Int) (most:Int),(vs=[.ref sc,.int most])->(ScrAt K H sc ns)->(ns.length<=63)->(0<=most)->(most<=100)->(∀(D:List Dn) (F:Fs) (n:Nat) (km:Kd) (v:V) H',Same H H'->PgA H' D v->DTy F D->D.length<=12->F.lookup ("main":Str)=some (List.replicate n Kd.num,km)->IW km->Q v H')->spProgramW K vs H Q
noncomputable def KF(K:FZ):Sp:=λvs H Q _=>spProgramW K vs H Q
theorem ok_law_program(F:Fun K "_law_program" "_law_program" Q4 f fd)(B:NoL mg)
  (B7:Cn P w K mg base CX0 1 "_law_cell_at" IN (Z1 K))
  (D3:Cn P w K mg base CX0 2 "_law_names" EV BI)
  (BU:Cn P w K mg base CX0 2 "_law_small" ZO (SD K))
  (DL:Cn P w K mg base CX0 2 "_law_head" q1L YB)
  (DN:Cn P w K mg base CX0 31 "_law_body" LH (YM K)):
  FnOk P w K mg base CX0 32 f fd bzZ (KF K):=by
 refine F.ok sc_law_program (λvs H Q E h=> ?_) (λcdv A outer s H vs Q E hr h=> ?_)
 ·obtain⟨sc,ns,most,rfl,_⟩:=h;rfl
 obtain⟨sc,ns,most,rfl,hsc,hn63,hm0,hm1,q⟩:=h;have nd:=sc_law_program.nd;have hu:=hr.units0;refine⟨_,(A6 (sS 2 nd (cC B7 hr (A0 (pv 0) (A0 A3 A4))))
   (A6 (CO (i:=3) nd rfl (Or.inr rfl) (cC D3 hr (A0 (pv 2) A4)))
   (A6 (CO (i:=4) nd rfl (Or.inr rfl) (A9 (A0 A7 A4)))
   (A6 (sS 5 nd (cC BU hr (A0 (pv 0) (A0 (pv 3) A4))))
   (A6 (O6 (i:=6) nd rfl rfl (cS (N:=Z9) (sc:=B3 Q4) (caps:=[0,3]) (ns:=ZO)) rfl rfl rfl (P6 rfl B.range_ (A0 (B4 C5 (cC B7 hr (A0 (pv 0) (A0 A3 A4))) A3) A4)) (λ_ _ _ _ _=>T4) (λ_ _ _ _ _=>(cC DL hr (A0 (cC B7 hr (A0 (pv 1) (A0 (B4 P7 A3 (pv 0)) A4))) (A0 (ixE K w (pv 2) (B4 U5 A3 (pv 0))) A4)))))
   (A6 (sS 7 nd (E5 (A0 (pv 4) (A0 (pv 4) (A0 (A9 (A0 A7 A4)) (A0 (A9 (A0 A7 (A0 (pv 4) A4))) (A0 (A9 (A0 A7 (A0 (A9 (A0 A7 A4)) A4))) (A0 (A9 (A0 A7 (A0 (A9 (A0 A7 (A0 (pv 4) A4))) A4))) A4))))))))
   (A6 (X1 (aP K (pv 6) (A9 (A0 A7 (A0 (B4 ahZ (E5 (A0 (pv 4) A4)) (B4 C5 (cC B7 hr (A0 (pv 0) (A0 A3 A4))) A3)) (A0 (ixE K w (pv 7) (B4 C5 (B4 B9 (cC B7 hr (A0 (pv 0) (A0 A3 A4))) A3) A3)) A4))))))
   (A6 (sS 8 nd (B4 P7 (B4 P7 (D7 (kSl (K:=K)) (pv 6) J5 (E7 (IK EG A3))) (Y6 (cS (N:=Z9) (sc:=B3 Q4) (caps:=[4]) (ns:=["_law_number"])) rfl rfl rfl (V7 (K:=K) (pv 5)) (λ_ _ _ _ _=>T4) (λ_ _ _ _ _=>(A9 (A0 (ixE K w (pv 0) A3) (A0 (B4 ahZ (E5 (A0 (pv 1) A4)) (kL K B.len_ (ixE K w (pv 0) A3))) (A0 (pv 1) A4))))))) (D7 (kSl (K:=K)) (pv 6) (E7 (IK EG A3)) J5)))
   (A6 (sS 9 nd (E5 (A0 A3 (A0 (pv 2) (A0 (pv 1) A4)))))
   (A6 (sS 10 nd (D6 (GJ (K:=K)) rfl B.list_ V6 (A0 (pv 5) A4)))
   (A6 (E6 (GD PassesOwn.never rfl (V7 (K:=K) (pv 6)) (gN 11 nd) (A6 (sS 12 nd (cC DN hr (A0 (pv 0) (A0 (pv 11) (A0 (pv 3) (A0 (pv 9) (A0 (CB (K:=K) rfl B.zip_ rfl B.dict_ rfl (A0 (D7 (kSl (K:=K)) (pv 3) (E7 A3) J5) (A0 (ixE K w (pv 11) A3) A4))) (A0 (pv 8) A4))))))))
   (A6 (X1 (aP K (pv 10) (A9 (A0 A7 (A0 (ixE K w (pv 11) A3) (A0 (D6 (CW (K:=K)) rfl B.tuple_ T7 (A0 (D7 (kSl (K:=K)) (pv 3) (E7 A3) (E7 (B4 P7 A3 (kL K B.len_ (ixE K w (pv 11) A3))))) A4)) (A0 (pv 12) A4)))))))
   (A8 (CU (B4 P7 (ixE K w (pv 9) A3) (pv 1)) (BZ (pv 9) A3 AF)))))))
   (A6 (sS 13 nd (B4 C5 (B4 B9 (cC B7 hr (A0 (pv 0) (A0 A3 A4))) A3) (kL K B.len_ (pv 10))))
   (A8 (B5 (D6 (CW (K:=K)) rfl B.tuple_ T7 (A0 (B4 P7 (D7 (kSl (K:=K)) (pv 10) (E7 (pv 13)) J5) (D7 (kSl (K:=K)) (pv 10) J5 (E7 (pv 13)))) A4)))))))))))))))), ?_⟩
 refine stp λNx eN=> ?_;refine⟨_,rfl,sc,ns,0,rfl,hsc.sq,by decide, ?_⟩;generalize F3 ns 0=sh;show Nx _ _;subst eN;refine stp λNx eN=> ?_;refine⟨_,rfl,sh,rfl,λnl ss H1 s1 hN=> ?_⟩;show Nx _ _;subst eN;refine stp λNx eN=> ?_;refine⟨L8,λp0 hp0=> ?_⟩;obtain⟨hn1,hn2,hn3,hn4⟩:=hN;have t0:=A2 hp0 (.tup [.str "number"]);have s2:=s1.trans t0;have hN2:=t0 _ _ hn1;have hnum:(upd H1 p0 (.tup [.str "number"])) p0=some (.tup [.str "number"]):=A1;show Nx _ _;subst eN;show P9 _ _ _ [some (.ref sc),some (.int most),some (.int sh),some (.ref nl),some (.ref p0),none,none,none,none,none,none,none,none,none] (upd H1 p0 (.tup [.str "number"]));generalize upd H1 p0 (.tup [.str "number"])=H2 at s2 hN2 hnum⊢;have sc2:∀ {HH:Hp},Same H HH->ScrAt K HH sc ns:=λ{HH} sm=>hsc.imp (λ⟨o,h⟩=>⟨o,sm _ _ h⟩) id;obtain⟨y,hy⟩:∃y,ss[1]? =some y:=⟨_,List.getElem?_eq_getElem (by omega)⟩;refine stp λNx eN=> ?_;refine⟨_,rfl,_,rfl,sc,nl,ns,ss,y,rfl,sc2 s2,⟨hN2,hn2,hn3,hn4⟩,hy,λsl sus nS Hs ss2 hnS hsl hSm=> ?_⟩;show Nx _ _;subst eN;have s2:=s2.trans ss2;have hN2:=ss2 _ _ hN2;have hnum:=ss2 _ _ hnum;show P9 _ _ _ [some (.ref sc),some (.int most),some (.int sh),some (.ref nl),some (.ref p0),some (.ref sl),none,none,none,none,none,none,none,none] Hs;have g1:=Int.emod_nonneg (F3 ns 1) (by decide:(3:Int)≠0);have g2:=Int.emod_lt_of_pos (F3 ns 1) (by decide:(0:Int)<3);obtain⟨n,en,hn⟩:∃n:Nat,F3 ns 1%3=(n:Int)/\n<=2:=⟨(F3 ns 1%3).toNat,by omega,by omega⟩;refine stp λNx eN=> ?_;refine⟨_,rfl,sc,ns,1,rfl,(sc2 s2).sq,by decide,_,_,rfl,rfl,(by decide:(0:Int)<3),_,rfl,by omega,by omega, ?_⟩;rw[en];refine R4 (n:=n) (λi ys H'=>Same Hs H'/\∃F:Fs,All2 (FhA H') F ys/\ys.length=i/\(∀x∈F,dk x.2.2<=3/\(∀k∈x.2.1,dk k<=3)/\x.2.1.length<=4)/\∀j x,F[j]? =some x->ss[7 - j]? =some x.1) ⟨Same.refl _,[],.nil,rfl,(λx hx=>nomatch hx),λj x hx=>by simp at hx⟩ ?_ ?_ ?_
 ·rintro i ys H' hi ⟨_,F,_,hyl,_⟩;rw[hyl];exact Nat.le_trans hi (Nat.le_trans hn (by decide))
 ·rintro i ys H' hi ⟨sm,F,hF,hyl,hb,hnm⟩;refine Y0 ?_;obtain⟨z,hz⟩:∃z,ss[7 - i]? =some z:=⟨_,List.getElem?_eq_getElem (by omega)⟩;have hat:atI (ss.map V.str) (((7 - i:Nat)):Int)=some (.str z):=J0 (by rw[getElem?_map,hz];rfl);rw[show(((7 - i:Nat)):Int)=7 - (0+(i:Int)) by omega]at hat;refine⟨_,rfl,_,rfl,.inl ⟨_,_,rfl,rfl,sc,ns,_,rfl,(sc2 (s2.trans sm)).sq,by omega,_,rfl,_,rfl,_,_,rfl,rfl,(ixL (sm _ _ hN2) hat ⟨_,z,rfl,λks k v H4 s4 hf h1 h2 h3=>⟨sm.trans s4,F++ [(z,ks,k)],(hF.imp λ_ _ h=>h.same s4).app (.cons hf .nil),by rw[length_append,hyl];rfl,λx hx=> ?_,λj x hx=> ?_⟩⟩)⟩⟩
  ·rcases mem_append.mp hx with hx|hx
   ·exact hb x hx
   ·rw[sZ hx];exact⟨h3,h2,h1⟩
  ·have hFl:F.length=i:=by rw[hF.len,hyl]
   rw[List.getElem?_append]at hx;split at hx
   ·exact hnm j x hx
   ·have:j=i:=by
     have:=(List.getElem?_eq_some_iff.mp hx).1;simp at this;omega
    subst this;rw[hFl,Nat.sub_self]at hx;cases hx;exact hz
 rintro ys H3 ⟨sm,F0,hF0,hyl,hb,hnm⟩ fl hfl;have tf:=A2 hfl (.lst ys);have tf0:=tf;have z6:(6:Nat)<=sizeLine:=by decide
 have s3:=s2.trans (sm.trans tf);have hN3:=(sm.trans tf) _ _ hN2;have hnum3:=(sm.trans tf) _ _ hnum;have hF3:=hF0.imp λ_ _ h=>h.same tf;have hfl3:(upd H3 fl (.lst ys)) fl=some (.lst ys):=A1;show Nx _ _;subst eN;show P9 _ _ _ [some (.ref sc),some (.int most),some (.int sh),some (.ref nl),some (.ref p0),some (.ref sl),some (.ref fl),none,none,none,none,none,none,none] (upd H3 fl (.lst ys));generalize upd H3 fl (.lst ys)=H4 at s3 hN3 hnum3 hF3 hfl3 tf0⊢;refine stp λNx eN=> ?_;refine⟨_,rfl,_,rfl,L8,λa1 h1=>⟨_,rfl,D1,λa2 h2=>⟨L8,λa3 h3=>⟨D1,λa4 h4=>⟨_,rfl,D1,λa5 h5=>⟨D1,λa6 h6=>⟨z6,λl1 hl1=> ?_⟩⟩⟩⟩⟩⟩⟩;have t1:=A2 h1 (.tup [.str "truth"]);have t2:=A2 h2 (.tup [.str "list",.ref p0]);have t3:=A2 h3 (.tup [.str "truth"]);have t4:=A2 h4 (.tup [.str "list",.ref a3]);have t5:=A2 h5 (.tup [.str "list",.ref p0]);have t6:=A2 h6 (.tup [.str "list",.ref a5]);have tl:=A2 hl1 (.lst [.ref p0,.ref p0,.ref a1,.ref a2,.ref a4,.ref a6]);have e6:=t6.trans tl;have e5:=t5.trans e6;have e4:=t4.trans e5;have e3:=t3.trans e4;have e2:=t2.trans e3;have e1:=t1.trans e2;have n0:=KA.num (e1 _ _ hnum3);have n1:=KA.tru (e2 _ _ A1);have n2:=KA.lst (e3 _ _ A1) n0;have n3:=KA.tru (e4 _ _ A1);have n4:=KA.lst (e5 _ _ A1) n3;have n5:=KA.lst (e6 _ _ A1) n0;have n6:=KA.lst (tl _ _ A1) n5;have s5:=s3.trans e1;have s35:Same H3 _:=tf0.trans e1;have hN5:=e1 _ _ hN3;have hfl5:=e1 _ _ hfl3;have hF5:=hF3.imp λ_ _ h=>h.same e1;have hl5:(upd (upd (upd (upd (upd (upd (upd H4 a1 (.tup [.str "truth"])) a2 (.tup [.str "list",.ref p0])) a3 (.tup [.str "truth"])) a4 (.tup [.str "list",.ref a3])) a5 (.tup [.str "list",.ref p0])) a6 (.tup [.str "list",.ref a5])) l1 (.lst [.ref p0,.ref p0,.ref a1,.ref a2,.ref a4,.ref a6])) l1=some (.lst [.ref p0,.ref p0,.ref a1,.ref a2,.ref a4,.ref a6]):=A1;show Nx _ _;subst eN;show P9 _ _ _ [some (.ref sc),some (.int most),some (.int sh),some (.ref nl),some (.ref p0),some (.ref sl),some (.ref fl),some (.ref l1),none,none,none,none,none,none] (upd (upd (upd (upd (upd (upd (upd H4 a1 (.tup [.str "truth"])) a2 (.tup [.str "list",.ref p0])) a3 (.tup [.str "truth"])) a4 (.tup [.str "list",.ref a3])) a5 (.tup [.str "list",.ref p0])) a6 (.tup [.str "list",.ref a5])) l1 (.lst [.ref p0,.ref p0,.ref a1,.ref a2,.ref a4,.ref a6]));generalize upd (upd (upd (upd (upd (upd (upd H4 a1 (.tup [.str "truth"])) a2 (.tup [.str "list",.ref p0])) a3 (.tup [.str "truth"])) a4 (.tup [.str "list",.ref a3])) a5 (.tup [.str "list",.ref p0])) a6 (.tup [.str "list",.ref a5])) l1 (.lst [.ref p0,.ref p0,.ref a1,.ref a2,.ref a4,.ref a6])=H5 at n0 n1 n2 n4 n6 s5 s35 hN5 hfl5 hF5 hl5⊢;clear t1 t2 t3 t4 t5 t6 tl e1 e2 e3 e4 e5 e6 n3 n5 h1 h2 h3 h4 h5 h6 hl1 hfl3 hF3 hnum3 hN3 s3 tf tf0;have g3:=Int.emod_nonneg (F3 ns 2) (by decide:(5:Int)≠0);have g4:=Int.emod_lt_of_pos (F3 ns 2) (by decide:(0:Int)<5);obtain⟨n2',en2,hn2'⟩:∃n:Nat,F3 ns 2%5=(n:Int)/\n<=4:=⟨(F3 ns 2%5).toNat,by omega,by omega⟩;refine stp λNx eN=> ?_;refine⟨_,rfl,.inl ⟨rfl,_,SqL.of hfl5⟩,_,rfl,L8,λl2 hl2=> ?_⟩;have u1:=A2 hl2 (.lst [.ref p0]);refine⟨_,rfl,sc,ns,2,rfl,(sc2 (s5.trans u1)).sq,by decide,_,_,rfl,rfl,(by decide:(0:Int)<5), ?_⟩;rw[en2];have zz:(4:Nat)<=sizeLine:=by decide
 refine .inr (.inr ⟨l2,_,[.ref p0],rfl,rfl,A1,by omega,by omega,(by simp only[length_cons,length_nil,Int.toNat_natCast];omega),λl3 hl3=> ?_⟩);have erep:(List.replicate (n2':Int).toNat [V.ref p0]).flatten=List.replicate n2' (V.ref p0):=by
  rw[Int.toNat_natCast,List.flatten_replicate_singleton]
 rw[erep];have u2:=A2 hl3 (.lst (List.replicate n2' (V.ref p0)));have u12:=u1.trans u2;obtain⟨km,kv,hkat,hkm,hkp,hk3⟩:∃(km:Kd) (kv:V),atI [V.ref p0,.ref p0,.ref a1,.ref a2,.ref a4,.ref a6] ((F3 ns 1).fdiv 3%6)=some kv/\KA H5 km kv/\IW km/\dk km<=3:=by
  have k1:=Int.emod_nonneg ((F3 ns 1).fdiv 3) (by decide:(6:Int)≠0);have k2:=Int.emod_lt_of_pos ((F3 ns 1).fdiv 3) (by decide:(0:Int)<6);have h:(F3 ns 1).fdiv 3%6=0\/(F3 ns 1).fdiv 3%6=1\/(F3 ns 1).fdiv 3%6=2\/(F3 ns 1).fdiv 3%6=3\/(F3 ns 1).fdiv 3%6=4\/(F3 ns 1).fdiv 3%6=5:=by omega
  rcases h with h|h|h|h|h|h<;>rw[h]
  ·exact⟨_,_,rfl,n0,.inl rfl,by decide⟩
  ·exact⟨_,_,rfl,n0,.inl rfl,by decide⟩
  ·exact⟨_,_,rfl,n1,.inr (.inl rfl),by decide⟩
  ·exact⟨_,_,rfl,n2,.inr (.inr (.inl rfl)),by decide⟩
  ·exact⟨_,_,rfl,n4,.inr (.inr (.inr (.inl rfl))),by decide⟩
  ·exact⟨_,_,rfl,n6,.inr (.inr (.inr (.inr rfl))),by decide⟩
 refine⟨_,rfl,_,rfl,sc,ns,1,rfl,(sc2 (s5.trans u12)).sq,by decide,_,_,rfl,rfl,lg (by decide) (by decide),_,_,rfl,rfl,(by decide:(0:Int)<6),(ixL (u12 _ _ hl5) hkat ⟨D9,λp7 hp7=> ?_⟩)⟩;have u3:=A2 hp7 (.tup [.str "main",.ref l3,kv]);have u13:=u12.trans u3;have hyle:ys.length<=2:=by omega
 refine⟨fl,_,.ref p7,rfl,rfl,u13 _ _ hfl5,(by have:(3:Nat)<=sizeLine:=by decide
                                              omega), ?_⟩
 have hl36:Same H3 (upd (upd (upd (upd H5 l2 (.lst [.ref p0])) l3 (.lst (List.replicate n2' (V.ref p0)))) p7 (.tup [.str "main",.ref l3,kv])) fl (.lst (ys++ [.ref p7]))):=λb o hb=>by
  rw[C4 (C9 hb hfl)];exact(s35.trans u13) b o hb
 have nfl:∀ {b:Addr} {o:HO},H5 b=some o->b≠fl->(upd (upd (upd (upd H5 l2 (.lst [.ref p0])) l3 (.lst (List.replicate n2' (V.ref p0)))) p7 (.tup [.str "main",.ref l3,kv])) fl (.lst (ys++ [.ref p7]))) b=some o:=λ{b o} hb nb=>by
  rw[C4 nb];exact u13 b o hb
 have m56:Mo H5 (upd (upd (upd (upd H5 l2 (.lst [.ref p0])) l3 (.lst (List.replicate n2' (V.ref p0)))) p7 (.tup [.str "main",.ref l3,kv])) fl (.lst (ys++ [.ref p7]))):=λb xs hb=>nfl hb (W2 hb hfl5 (by intro z;cases z));have n7f:p7≠fl:=λe=>by rw[e,u12 _ _ hfl5]at hp7;cases hp7
 have n3f:l3≠fl:=λe=>by rw[e,u1 _ _ hfl5]at hl3;cases hl3
 have hmain:FhA (upd (upd (upd (upd H5 l2 (.lst [.ref p0])) l3 (.lst (List.replicate n2' (V.ref p0)))) p7 (.tup [.str "main",.ref l3,kv])) fl (.lst (ys++ [.ref p7]))) ("main",List.replicate n2' Kd.num,km) (.ref p7):=by
  refine⟨p7,l3,List.replicate n2' (V.ref p0),kv,rfl,by rw[C4 n7f];exact A1,by rw[C4 n3f];exact u3 _ _ A1, ?_,hkm.mono m56⟩;exact JB (n0.mono m56) n2'
 have hF6:All2 (FhA _) (F0++ [(("main":Str),List.replicate n2' Kd.num,km)]:Fs) (ys++ [.ref p7]):=(hF0.imp λ_ _ h=>h.same hl36).app (.cons hmain .nil);have hfl6:= @A1 (upd (upd (upd H5 l2 (.lst [.ref p0])) l3 (.lst (List.replicate n2' (V.ref p0)))) p7 (.tup [.str "main",.ref l3,kv])) fl (.lst (ys++ [.ref p7]));have s6:Same H _:=(s2.trans sm).trans hl36;have hN6:NmsAt _ nl ss:=⟨hl36 _ _ (sm _ _ hN2),hn2,hn3,hn4⟩;have hF06:=hF0.imp λ_ _ h=>h.same hl36;have hmain6:=hmain;have hsl6:=hl36 _ _ (sm _ _ hsl);have hSm6:=hSm.imp λ_ _ h=>h.mono (A5 (sm.trans hl36));have hnum6:=hl36 _ _ (sm _ _ hnum);show Nx _ _;subst eN;show P9 _ _ _ [some (.ref sc),some (.int most),some (.int sh),some (.ref nl),some (.ref p0),some (.ref sl),some (.ref fl),some (.ref l1),none,none,none,none,none,none] (upd (upd (upd (upd H5 l2 (.lst [.ref p0])) l3 (.lst (List.replicate n2' (V.ref p0)))) p7 (.tup [.str "main",.ref l3,kv])) fl (.lst (ys++ [.ref p7])));generalize upd (upd (upd (upd H5 l2 (.lst [.ref p0])) l3 (.lst (List.replicate n2' (V.ref p0)))) p7 (.tup [.str "main",.ref l3,kv])) fl (.lst (ys++ [.ref p7]))=H6 at hF6 hfl6 s6 hN6 hF06 hmain6 hsl6 hSm6 hnum6⊢;refine stp λNx eN=> ?_;refine⟨_,rfl,1,rfl,_,rfl,.inl ⟨fl,_,rfl,SqL.of hfl6,λc1 hc1=> ?_⟩⟩;rw[OC];have v1:=A2 hc1 (.lst ys);have hSl:sus.length=nS:=by rw[<-hSm6.len,length_map,length_range]
 have z100:(100:Nat)<=sizeLine:=by decide
 have hsl7:=v1 _ _ hsl6;have hSm7:=hSm6.imp λ_ _ h=>h.mono (A5 v1);have hnum7:=v1 _ _ hnum6;have hc17:(upd H6 c1 (.lst ys)) c1=some (.lst ys):=A1;generalize upd H6 c1 (.lst ys)=H7 at v1 hsl7 hSm7 hnum7 hc17⊢;refine⟨_,rfl,sl,rfl,⟨_,SqL.of hsl7⟩,U4 (xs:=sus) (λi qs H'=>Same H7 H'/\All2 (FhA H') ((List.range i).map hdD) qs) ⟨Same.refl _,.nil⟩ ?_ ?_ ?_⟩
 ·rintro i qs H' hi ⟨sm',hq⟩;exact⟨SqL.of (sm' _ _ hsl7),by rw[<-hq.len,length_map,length_range];omega⟩
 ·rintro i x qs H' hx ⟨sm',hq⟩;obtain⟨di,hdi,hda⟩:=hSm7.get hx;have hin:i<nS:=by rw[<-hSl];exact(List.getElem?_eq_some_iff.mp hx).1
  obtain rfl:smD y i=di:=by
   rw[getElem?_map,List.getElem?_range hin]at hdi;exact Option.some.inj hdi
  obtain⟨pa,pq,tv,rfl,h1,h2,_⟩:=hda;have h1':=sm' _ _ h1;have h2':=sm' _ _ h2;have hnum':=sm' _ _ hnum7;obtain⟨n1,en1,hn1'⟩:∃n1:Nat,(smD y i).pars.length=n1/\(if i%2=0 then([]:List Kd)else [.num])=List.replicate n1 .num:=by
   by_cases c:i%2=0
   ·exact⟨0,by show(if i%2=0 then []else [y]).length=0;rw[if_pos c];rfl,by rw[if_pos c];rfl⟩
   ·exact⟨1,by show(if i%2=0 then []else [y]).length=1;rw[if_neg c];rfl,by rw[if_neg c];rfl⟩
  have hn1le:n1<=1:=by rw[<-en1];show(if i%2=0 then []else [y]).length<=1;split<;>simp
  refine Y0 ?_;refine⟨_,rfl,(ixT h1' rfl ⟨_,rfl,L8,λl2 hl2=> ?_⟩)⟩;have w1:=A2 hl2 (.lst [.ref p0]);refine⟨_,rfl,(ixT (w1 _ _ h1') rfl ⟨_,_,rfl,.inr ⟨_,SqT.of (w1 _ _ h2'),rfl⟩,.inr (.inr ⟨l2,_,[.ref p0],rfl,rfl,A1,by omega,by rw[length_map,en1];omega, ?_,λl3 hl3=> ?_⟩)⟩)⟩
  ·rw[length_map,en1];simp only[length_cons,length_nil,Int.toNat_natCast];omega
  have erep:(List.replicate (((smD y i).pars.map V.str).length:Int).toNat [V.ref p0]).flatten=List.replicate n1 (V.ref p0):=by
   rw[length_map,en1,Int.toNat_natCast,List.flatten_replicate_singleton]
  rw[erep];refine⟨_,rfl,D9,λp4 hp4=> ?_⟩;have w2:=A2 hl3 (.lst (List.replicate n1 (V.ref p0)));have w3:=A2 hp4 (.tup [.str (qn i),.ref l3,.ref p0]);have w13:=w1.trans (w2.trans w3);have hnumP:=KA.num (w13 _ _ hnum');refine⟨sm'.trans w13, ?_⟩;rw[range_succ,map_append];refine(hq.imp λ_ _ h=>h.same w13).app (.cons ⟨p4,l3,List.replicate n1 (V.ref p0),.ref p0,rfl,A1,w3 _ _ A1, ?_,hnumP⟩ .nil);show All2 _ (if i%2=0 then([]:List Kd)else [.num]) _;rw[hn1'];exact JB hnumP n1
 rintro qs H8 ⟨sm8,hq8⟩ r hr;rw[hSl]at hq8;have hql:qs.length=nS:=by rw[<-hq8.len,length_map,length_range]
 have hyl2:ys.length<=2:=by omega
 have v2:=A2 hr (.lst qs);refine .inr (.inr ⟨c1,r,ys,qs,rfl,rfl,(sm8.trans v2) _ _ hc17,A1,by omega,λc2 hc2=> ?_⟩);have v3:=A2 hc2 (.lst (ys++qs));have v13:=v1.trans (sm8.trans (v2.trans v3));refine⟨_,rfl,1,rfl,_,rfl,.inl ⟨fl,_,rfl,SqL.of (v13 _ _ hfl6),λc3 hc3=> ?_⟩⟩;rw[cgZ];have v4:=A2 hc3 (.lst [.ref p7]);refine .inr (.inr ⟨c2,c3,ys++qs,[.ref p7],rfl,rfl,v4 _ _ A1,A1,by rw[length_append];simp only[length_cons,length_nil];omega,λfn hfn=> ?_⟩);have v5:=A2 hfn (.lst ((ys++qs)++ [.ref p7]));have v35:=v3.trans (v4.trans v5);have v15:=v13.trans (v4.trans v5);obtain⟨Ff,hFf⟩:∃Ff:Fs,Ff=F0++((List.range nS).map hdD++ [(("main":Str),List.replicate n2' Kd.num,km)]):=⟨_,rfl⟩;have hFn9:=(hF06.imp λ_ _ h=>h.same v15).app ((hq8.imp λ_ _ h=>h.same (v2.trans v35)).app (All2.cons (hmain6.same v15) .nil));rw[<-hFf,<-List.append_assoc]at hFn9;have hF9:=hF6.imp λ_ _ h=>h.same v15;have s90:=s6.trans v15;have hN9:NmsAt _ nl ss:=⟨v15 _ _ hN6.1,hn2,hn3,hn4⟩;have hfl9:=v15 _ _ hfl6;have hsl9:=v15 _ _ hsl6;have hSm9:=hSm6.imp λ_ _ h=>h.mono (A5 v15);have hfn9:= @A1 (upd (upd (upd H8 r (.lst qs)) c2 (.lst (ys++qs))) c3 (.lst [.ref p7])) fn (.lst ((ys++qs)++ [.ref p7]));show Nx _ _;subst eN;show P9 _ _ _ [some (.ref sc),some (.int most),some (.int sh),some (.ref nl),some (.ref p0),some (.ref sl),some (.ref fl),some (.ref l1),some (.ref fn),none,none,none,none,none] (upd (upd (upd (upd H8 r (.lst qs)) c2 (.lst (ys++qs))) c3 (.lst [.ref p7])) fn (.lst ((ys++qs)++ [.ref p7])));generalize upd (upd (upd (upd H8 r (.lst qs)) c2 (.lst (ys++qs))) c3 (.lst [.ref p7])) fn (.lst ((ys++qs)++ [.ref p7]))=H9 at hFn9 hF9 s90 hN9 hfl9 hsl9 hSm9 hfn9⊢;refine stp λNx eN=> ?_;refine⟨_,rfl,_,rfl,D9,λl hl=> ?_⟩;show Nx _ _;subst eN;refine stp λNx eN=> ?_;refine⟨_,rfl,sl,sus,rfl,.inl (SqL.of (A2 hl _ _ _ hsl9)),λpl hpl=> ?_⟩;have npl:pl≠l:=λe=>by rw[e,A1]at hpl;cases hpl
 have hpl90:H9 pl=none:=by rw[<-hpl,C4 npl]
 have hF0l:F0.length=n:=by rw[hF0.len,hyl]
 obtain⟨Fh,hFh'⟩:∃Fh:Fs,Fh=F0++ [(("main":Str),List.replicate n2' Kd.num,km)]:=⟨_,rfl⟩;rw[<-hFh']at hF9;have hFl:Fh.length=n+1:=by rw[hFh',length_append,hF0l];rfl
 have hFin:∀x∈Fh,x∈Ff:=λx hx=>by
  rw[hFh']at hx;rw[hFf];rcases mem_append.mp hx with hx|hx
  ·exact mem_append_left _ hx
  ·exact mem_append_right _ (mem_append_right _ hx)
 have hFfl:Ff.length<=12:=by rw[hFf,length_append,length_append,length_map,length_range,hF0l];simp only[length_cons,length_nil];omega
 have hsm:∀x∈Ff,dk x.2.2<=3/\(∀k∈x.2.1,dk k<=3)/\x.2.1.length<=4:=λx hx=>by
  rw[hFf]at hx;rcases mem_append.mp hx with hx|hx
  ·exact hb x hx
  rcases mem_append.mp hx with hx|hx
  ·obtain⟨j,_,rfl⟩:=mem_map.mp hx;exact⟨by show 1<=3;decide,λk hk=>by
    have hk:k∈(if j%2=0 then([]:List Kd)else [.num]):=hk;split at hk
    ·cases hk
    ·rw[sZ hk];decide,by show(if j%2=0 then([]:List Kd)else [.num]).length<=4;split<;>simp⟩
  ·rw[sZ hx];exact⟨hk3,λk hk=>by rw[List.eq_of_mem_replicate hk];decide,by show(List.replicate n2' Kd.num).length<=4;rw[length_replicate];exact hn2'⟩
 have hF0s:∀x∈F0,x.1∈ss:=λx hx=>by
  obtain⟨j,hj⟩:=mem_iff_getElem?.mp hx;exact mem_of_getElem? (hnm j x hj)
 have hnd:(Ff.map (·.1)).Nodup:=by
  rw[hFf];exact PL hnS (OD hn3 (hn4 _ (mem_cons_self ..)) hnm (by omega)) hF0s hn4
 have hN9':∀ {a ms:Int} (HH:Hp),Same H9 HH->HH l=some (.lst [.int a,.int sh,.int ms])->NmsAt HH nl ss:=λHH sm _=>⟨sm _ _ hN9.1,hn2,hn3,hn4⟩;show Nx _ _;subst eN;refine stp λNx eN=> ?_;refine⟨fun σ' H'=>∃(y1 y2:Option V) (a ms:Int) (D:List Dn) (dus:List V),σ'=[some (.ref sc),some (.int most),some (.int sh),some (.ref nl),some (.ref p0),some (.ref sl),some (.ref fl),some (.ref l1),some (.ref fn),some (.ref l),some (.ref pl),y1,y2,none]/\Same H9 H'/\H' pl=some (.lst (sus++dus))/\All2 (DnA H') D dus/\All2 (Mfn Ff ss) D Fh, ?_, ?_⟩
 ·refine⟨_,rfl,fl,rfl,⟨_,SqL.of (A2 hpl _ _ _ (A2 hl _ _ _ hfl9))⟩,HY (xs:=ys++ [.ref p7]) (λi σ' H'=>∃(y1 y2:Option V) (a ms:Int) (D:List Dn) (dus:List V),σ'=[some (.ref sc),some (.int most),some (.int sh),some (.ref nl),some (.ref p0),some (.ref sl),some (.ref fl),some (.ref l1),some (.ref fn),some (.ref l),some (.ref pl),y1,y2,none]/\Same H9 H'/\H' l=some (.lst [.int a,.int sh,.int ms])/\0<=a/\a<=(i:Int)*2^20/\H' pl=some (.lst (sus++dus))/\All2 (DnA H') D dus/\All2 (Mfn Ff ss) D (Fh.take i)) ⟨_,_,0,most,[],[],rfl,(A2 hl _).trans (A2 hpl _),A2 hpl _ _ _ A1,by decide,by decide,by rw[append_nil];exact A1,.nil,.nil⟩ ?_ ?_ ?_⟩
  ·rintro i σ' H' hi ⟨y1,y2,a,ms,D,dus,rfl,sm,_⟩;exact SqL.of (sm _ _ hfl9)
  ·rintro i x σ' H' hx ⟨y1,y2,a,ms,D,dus,rfl,sm,hl7,ha0,ha1,hp7',hD,hM⟩;obtain⟨⟨z,ks,k⟩,hfi,hFh⟩:=hF9.get hx;have hil:i<n+1:=by rw[<-hFl];exact(List.getElem?_eq_some_iff.mp hfi).1
   have hmem:=hFin _ (mem_of_getElem? hfi);obtain⟨b1,b2,b3⟩:=hsm _ hmem;have hone:FhA H' (z,ks,k) x:=hFh.same sm;obtain⟨po,qo,us,wo,rfl,hpo,hqo,hus,hwo⟩:=hone;have husl:ks.length=us.length:=hus.len;have hks4:ks.length<=4:=b3;refine⟨_,rfl,_,rfl,_,rfl,_,rfl,_,rfl,_,rfl,.inl ⟨nl,_,rfl,SqL.of (sm _ _ hN9.1),λn1 hn1=> ?_⟩⟩;rw[UR];have v1:=A2 hn1 (.lst ((ss.drop 1).map V.str));refine⟨_,rfl,(ixT (v1 _ _ hpo) rfl ⟨n1,qo,ss.drop 1,us,rfl,.inl (SqL.of A1),SqL.of (v1 _ _ hqo),by rw[length_drop,hn2];decide,λd hd=> ?_⟩)⟩;have v2:=A2 hd (.dK (R0 [] (DE (ss.drop 1) us)));have v12:=v1.trans v2;have s7:=sm.trans v12;have hB:Bv K (upd (upd H' n1 (.lst ((ss.drop 1).map V.str))) d (.dK (R0 [] (DE (ss.drop 1) us)))) sc nl l d fn ns ss a sh ms (gz (ss.drop 1) ks g0) us.length Ff z ks k (.ref po):=by
    refine⟨sc2 (s90.trans s7),hn63,⟨s7 _ _ hN9.1,hn2,hn3,hn4⟩,v12 _ _ hl7,ha0,ZY (hus.imp λ_ _ h=>h.mono (A5 v12)) (λk hk=>Nat.le_trans (b2 k hk) (by decide)) A1,⟨⟨_,s7 _ _ hfn9,hFn9.imp λ_ _ h=>h.same s7⟩,hnd,by omega,hsm⟩,hFh.same s7,hmem,λj q hq=> ?_⟩;have hjl:=(List.getElem?_eq_some_iff.mp hq).1;obtain⟨y,hy⟩:∃y,ss[j+1]? =some y:=⟨_,List.getElem?_eq_getElem (by omega)⟩;exact⟨y,hy,XL (i:=j) (hn3.sublist (List.drop_sublist 1 ss)) (by rw[getElem?_drop,Nat.add_comm];exact hy) hq⟩
   refine⟨_,rfl,sc,nl,l,d,fn,ns,ss,a,sh,ms,gz (ss.drop 1) ks g0,us.length,Ff,z,ks,k,.ref po,rfl,hB,by omega,by omega,λt v a' H8 k8 hl8 ha2 ha3 ht hT hdt=> ?_⟩;have k78:Kl l H' H8:=(Kl.of v12).trans k8;have hpo8:=k78 _ _ hpo (W2 hpo hl7 (by intro z;cases z));have hqo8:=k78 _ _ hqo (CH hl7 hqo hus λ_ _=>LZ);have hpl8:=k78 _ _ hp7' npl;have m8:=k78.tups hl7;have hN8:=(hN9' _ sm hl7).kl k78 hl7;have hnl8:=hN8.1;have hD8:=hD.imp λ_ _ h=>h.mono m8;have z50:(50:Nat)<=sizeLine:=by decide
   refine⟨_,rfl,.inl ⟨rfl,_,SqL.of hpl8⟩,_,rfl,(ixT hpo8 rfl ⟨_,rfl,_,rfl,_,rfl,(ixT hpo8 rfl ⟨_,_,rfl,.inl ⟨_,SqL.of hqo8,rfl⟩,.inl ⟨_,_,rfl,rfl,_,rfl,.inl ⟨nl,_,rfl,SqL.of hnl8,λn2 hn2=>⟨n2,_,rfl,.inl ⟨SqL.of A1,λq2 hq2=>⟨_,rfl,P2,λpd hpd=> ?_⟩⟩⟩⟩⟩⟩)⟩)⟩;rw[YJ]at hq2 hpd⊢;have w1:=A2 hn2 (.lst (((ss.drop 1).take us.length).map V.str));have w2:=A2 hq2 (.tup (((ss.drop 1).take us.length).map V.str));have w3:=A2 hpd (.tup [.str "def",.str z,.ref q2,v]);have w13:=w1.trans (w2.trans w3);have hDl:D.length<=3:=by rw[hM.len,length_take];omega
   have hdl:dus.length<=3:=by rw[<-hD.len];exact hDl
   refine⟨pl,_,.ref pd,rfl,rfl,w13 _ _ hpl8,by rw[length_append,hSl];omega, ?_⟩;have hl12:∀o,(upd (upd (upd (upd H8 n2 (.lst (((ss.drop 1).take us.length).map V.str))) q2 (.tup (((ss.drop 1).take us.length).map V.str))) pd (.tup [.str "def",.str z,.ref q2,v])) pl o) l=some (.lst [.int a',.int sh,.int ms]):=λo=>by
    rw[C4 (Ne.symm npl)];exact w13 _ _ hl8
   refine⟨_,rfl,(ixL (hl12 _) rfl ⟨_,rfl,.inl ⟨_,_,rfl,rfl,_,rfl,⟨l,_,2,2,rfl,rfl,hl12 _,rfl, ?_⟩⟩⟩)⟩;have kk:∀(o o':HO),Same H9 (upd (upd (upd (upd (upd H8 n2 (.lst (((ss.drop 1).take us.length).map V.str))) q2 (.tup (((ss.drop 1).take us.length).map V.str))) pd (.tup [.str "def",.str z,.ref q2,v])) pl o) l o'):=λo o' b ob hb=>by
    have nb:b≠l:=λe=>by rw[e,hl]at hb;cases hb
    rw[C4 nb,C4 (λe=>by rw[e,hpl90]at hb;cases hb)];exact w13 _ _ (k78 _ _ (sm _ _ hb) nb)
   have mm:Mo (upd (upd (upd H8 n2 (.lst (((ss.drop 1).take us.length).map V.str))) q2 (.tup (((ss.drop 1).take us.length).map V.str))) pd (.tup [.str "def",.str z,.ref q2,v])) (upd (upd (upd (upd (upd H8 n2 (.lst (((ss.drop 1).take us.length).map V.str))) q2 (.tup (((ss.drop 1).take us.length).map V.str))) pd (.tup [.str "def",.str z,.ref q2,v])) pl (.lst ((sus++dus)++ [.ref pd]))) l (.lst ([V.int a',.int sh,.int ms].set 2 (.int (a'+most))))):=λb xs hb=>by
    rw[C4 (W2 hb (w13 _ _ hl8) (by intro z;cases z)),C4 (W2 hb (w13 _ _ hpl8) (by intro z;cases z))];exact hb
   refine⟨_,_,a',a'+most,D++ [⟨z,(ss.drop 1).take ks.length,t⟩],dus++ [.ref pd],rfl,kk _ _,A1,by omega,by rw[show((i+1:Nat):Int)=(i:Int)+1 from rfl,Int.add_mul];omega,by rw[C4 npl,<-List.append_assoc];exact A1,(hD8.imp λ_ _ h=>(h.mono (A5 w13)).mono mm).app (.cons (DnA.mono mm ⟨pd,q2,v,rfl,A1,by rw[husl];exact w3 _ _ A1,ht.mono (A5 w13)⟩) .nil), ?_⟩;rw[List.take_succ,hfi];exact hM.app (.cons ⟨rfl,rfl,hT,hdt⟩ .nil)
  ·rintro σ' H' ⟨y1,y2,a,ms,D,dus,rfl,sm,hl7,ha0,ha1,hp7',hD,hM⟩;refine⟨y1,y2,a,ms,D,dus,rfl,sm,hp7',hD, ?_⟩
   rwa [<-hF9.len,List.take_length]at hM
 rintro _ H12 ⟨y1,y2,a,ms,D,dus,rfl,sm12,hpl12,hD,hM⟩;show Nx _ _;subst eN;have hDl:D.length=n+1:=by rw[hM.len,hFl]
 have hdl:dus.length=n+1:=by rw[<-hD.len];exact hDl
 have s12:=s90.trans sm12;have hSm12:=hSm9.imp λ_ _ h=>h.mono (A5 sm12);have hD2:All2 (DnA H12) ((List.range nS).map (smD y)++D) (sus++dus):=hSm12.app hD;have hM2:All2 (Mfn Ff ss) (D.take n++((List.range nS).map (smD y)++D.drop n)) Ff:=by
  have hT:=MD hM n;have hDr:=MF hM n;rw[hFh',<-hF0l,List.take_left]at hT;rw[hFh',<-hF0l,List.drop_left]at hDr;have hin:∀j,j<nS->hdD j∈Ff:=λj hj=>by
   rw[hFf];exact mem_append_right _ (mem_append_left _ (mem_map_of_mem (mem_range.mpr hj)))
  have key:∀m,m<=nS->All2 (Mfn Ff ss) ((List.range m).map (smD y)) ((List.range m).map hdD):=λm hm=>by
   induction m with
   |zero=>exact .nil
   |succ m ih=>
    rw[range_succ,map_append,map_append];exact(ih (by omega)).app (.cons (bJZ hn2 hy hnd (λj hj=>hin j (by omega)) hn3 (by omega)) .nil)
  have h0:=hT.app ((key nS (Nat.le_refl _)).app hDr);rw[<-hFf,hF0l]at h0;exact h0
 obtain⟨E,hE⟩:∃E,E=(List.range nS).map (smD y)++D:=⟨_,rfl⟩;have hpE:E.Perm (D.take n++((List.range nS).map (smD y)++D.drop n)):=by
  rw[hE,<-List.append_assoc];have p1:((List.range nS).map (smD y)++(D.take n++D.drop n)).Perm ((D.take n++(List.range nS).map (smD y))++D.drop n):=by
   rw[<-List.append_assoc];exact List.perm_append_comm.append_right _
  rwa [List.take_append_drop]at p1
 rw[<-hE]at hD2;clear hD hSm12 hM;obtain⟨eus,heus⟩:∃eus,eus=sus++dus:=⟨_,rfl⟩;rw[<-heus]at hD2 hpl12;have hel:eus.length<=12/\1<=eus.length:=by rw[heus,length_append,hSl,hdl];omega
 have at0:=Int.emod_nonneg ((F3 ns 2).fdiv 5) (by omega:((eus.length:Nat):Int)≠0);have at1:=Int.emod_lt_of_pos ((F3 ns 2).fdiv 5) (by omega:0<((eus.length:Nat):Int));obtain⟨at',eat⟩:∃at':Nat,(F3 ns 2).fdiv 5%((eus.length:Nat):Int)=(at':Int):=⟨((F3 ns 2).fdiv 5%((eus.length:Nat):Int)).toNat,by omega⟩;refine stp λNx eN=> ?_;refine⟨_,rfl,sc,ns,2,rfl,(sc2 s12).sq,by decide,_,_,rfl,rfl,lg (by decide) (by decide),_,rfl,_,_,rfl,.inl ⟨_,SqL.of hpl12,rfl⟩,_,_,rfl,rfl,(by omega:0<((eus.length:Nat):Int)), ?_⟩;rw[eat];show Nx _ _;subst eN;refine⟨_,rfl,_,rfl,_,rfl,.inl ⟨pl,_,rfl,SqL.of hpl12,λc1 hc1=> ?_⟩⟩;rw[HU];have x1:=A2 hc1 (.lst (eus.drop at'));refine⟨_,rfl,_,rfl,_,rfl,.inl ⟨pl,_,rfl,SqL.of (x1 _ _ hpl12),λc2 hc2=> ?_⟩⟩;rw[PV];have x2:=A2 hc2 (.lst (eus.take at'));have x12:=x1.trans x2;have hlen:(eus.drop at'++eus.take at').length<=12:=by rw[length_append,length_drop,length_take];omega
 have z12:(12:Nat)<=sizeLine:=by decide
 refine .inr (.inr ⟨c1,c2,_,_,rfl,rfl,x2 _ _ A1,A1,Nat.le_trans (by rw[<-length_append];exact hlen) z12,λc3 hc3=> ?_⟩);have x3:=A2 hc3 (.lst (eus.drop at'++eus.take at'));refine⟨c3,_,rfl,.inl ⟨SqL.of A1,λr hr=> ?_⟩⟩;have x4:=A2 hr (.tup (eus.drop at'++eus.take at'));have x14:=x12.trans (x3.trans x4);have hD':=hD2.imp λ_ _ h=>h.mono (A5 x14);have hperm:(E.drop at'++E.take at').Perm E:=List.perm_append_comm.trans (by rw[List.take_append_drop]);have hEl:E.length=eus.length:=hD2.len;refine q (E.drop at'++E.take at') Ff n2' km _ _ (s12.trans x14) ⟨r,_,rfl,A1,(MF hD' at').app (MD hD' at')⟩ (bPZ hn2 hnd (λx hx=>(hsm x hx).2.2) hM2 (hperm.trans hpE)) (by rw[hperm.length_eq,hEl];exact hel.1) ?_ hkp;exact CZ (x:=(("main":Str),List.replicate n2' Kd.num,km)) hnd (by rw[hFf];exact mem_append_right _ (mem_append_right _ (List.mem_singleton.mpr rfl)))
end
end RG
namespace RG
open PySem L2 BV
noncomputable abbrev LS:=V⊕(List V⊕List (Key×V))
inductive LA (S:Addr->Prop) (H:Hp):Vl->LS->Prop
 |int {n}:LA S H (.int n) (.inl (.int n))
 |bl {b}:LA S H (.bl b) (.inl (.bl b))
 |lst {r p us}:H p=some (.lst us)->¬S p->LA S H r (.inr (.inl us))->LA S H (.lst r) (.inl (.ref p))
 |fn {z b e p t q kvs}:H p=some (.tup [.str "fn",.str z,t,.ref q])->T1 H b t->H q=some (.dK kvs)->¬S q->LA S H e (.inr (.inr kvs))->LA S H (.fn z b e) (.inl (.ref p))
 |nil:LA S H .nil (.inr (.inl []))
 |cons {a r v vs}:LA S H a (.inl v)->LA S H r (.inr (.inl vs))->LA S H (.cons a r) (.inr (.inl (v::vs)))
 |none:LA S H .nil (.inr (.inr []))
 |bind {e z a kvs v}:LA S H e (.inr (.inr kvs))->LA S H a (.inl v)->LA S H (.bind e z a) (.inr (.inr (R5 kvs (.inr z) v)))
noncomputable abbrev L1(S:Addr->Prop)(H:Hp)(x:Vl)(v:V):Prop:=LA S H x (.inl v)
noncomputable abbrev Ct(H:Hp)(ct:Addr)(c most:Nat):Prop:=H ct=some (.lst [.int (c:Int),.int (most:Int)])
noncomputable def Ls(S:Addr->Prop)(H:Hp):Prop:=∀a,S a->∃xs,H a=some (.lst xs)
noncomputable def Ks(S:Addr->Prop)(H H':Hp):Prop:=∀b o,H b=some o->¬S b->H' b=some o
theorem Ks.mo{S:Addr->Prop}{H H':Hp}(k:Ks S H H')(l:Ls S H):Mo H H':=λb ys e=>k b _ e λh=>by
 obtain⟨xs,h⟩:=l b h;rw[h]at e;cases e
theorem Ks.kl{S:Addr->Prop}{H H':Hp}{ct:Addr}(k:Kl ct H H')(h:S ct):Ks S H H':=λb o e n=>k b o e λz=>n (z▸h)
theorem LA.ks{S:Addr->Prop}{H H':Hp}(k:Ks S H H')(l:Ls S H){x:Vl}{v:LS}(h:LA S H x v):LA S H' x v:=by
 have m:=k.mo l;induction h with
 |int=>exact .int
 |bl=>exact .bl
 |lst h n _ i=>exact .lst (k _ _ h n) n i
 |fn h t g n _ i=>exact .fn (m _ _ h) (t.mono m) (k _ _ g n) n i
 |nil=>exact .nil
 |cons _ _ i1 i2=>exact .cons i1 i2
 |none=>exact .none
 |bind _ _ i1 i2=>exact .bind i1 i2
theorem LA.same{S:Addr->Prop}{H H':Hp}(k:Same H H'){x:Vl}{v:LS}(h:LA S H x v):LA S H' x v:=by
 induction h with
 |int=>exact .int
 |bl=>exact .bl
 |lst h n _ i=>exact .lst (k _ _ h) n i
 |fn h t g n _ i=>exact .fn (k _ _ h) (t.mono (A5 k)) (k _ _ g) n i
 |nil=>exact .nil
 |cons _ _ i1 i2=>exact .cons i1 i2
 |none=>exact .none
 |bind _ _ i1 i2=>exact .bind i1 i2
theorem LA.sub{S S':Addr->Prop}{H:Hp}(k:∀a,S' a->S a\/H a=Option.none){x:Vl}{v:LS}(h:LA S H x v):LA S' H x v:=by
 have no:∀ {p:Addr} {o:HO},H p=some o->¬S p->¬S' p:=λ{p o} e n z=>by
  rcases k p z with h|h
  ·exact n h
  ·rw[h]at e;cases e
 induction h with
 |int=>exact .int
 |bl=>exact .bl
 |lst h n _ i=>exact .lst h (no h n) i
 |fn h t g n _ i=>exact .fn h t g (no g n) i
 |nil=>exact .nil
 |cons _ _ i1 i2=>exact .cons i1 i2
 |none=>exact .none
 |bind _ _ i1 i2=>exact .bind i1 i2
theorem Ls.no{S:Addr->Prop}{H H':Hp}(l:Ls S H)(s:Same H H'){p:Addr}(h:H' p=Option.none):¬S p:=λz=>by
 obtain⟨xs,e⟩:=l p z;rw[s _ _ e]at h;cases h
theorem Ls.same{S:Addr->Prop}{H H':Hp}(l:Ls S H)(s:Same H H'):Ls S H':=λa h=>let⟨xs,e⟩:=l a h;⟨xs,s _ _ e⟩
theorem alZ(kvs:List (Key×V))(k:Key)(v:V):(R5 kvs k v).length<=kvs.length+1:=by
 unfold R5;split<;>simp
theorem LA.rlen{S:Addr->Prop}{H:Hp}{r:Vl}{us:List V}(h:LA S H r (.inr (.inl us))):us.length=Q3 r:=by
 generalize e:(Sum.inr (.inl us):LS)=x at h;induction h generalizing us with
 |nil=>cases e;rfl
 |cons _ _ _ i2=>cases e;simp only[length_cons,Q3,i2 rfl]
 |_=>cases e
theorem LA.elen{S:Addr->Prop}{H:Hp}{e:Vl}{kvs:List (Key×V)}(h:LA S H e (.inr (.inr kvs))):kvs.length<=Q3 e:=by
 generalize eq:(Sum.inr (.inr kvs):LS)=x at h;induction h generalizing kvs with
 |none=>cases eq;exact zero_le _
 | @bind e z a kvs' v _ _ i1 _=>
  cases eq;have h1:=alZ kvs' (.inr z) v;have h2:=i1 rfl;show _<=Q3 e+1;omega
 |_=>cases eq
theorem LA.look{S:Addr->Prop}{H:Hp}{z:Str}{e v:Vl}{kvs:List (Key×V)}(h:LA S H e (.inr (.inr kvs)))(hz:RG.look z e=some v):∃u,T8 kvs (.inr z)=some u/\L1 S H v u:=by
 generalize eq:(Sum.inr (.inr kvs):LS)=x at h;induction h generalizing kvs with
 |none=>cases hz
 | @bind e y a kvs' u _ h2 i1 _=>
  cases eq;rw[ID];unfold RG.look at hz;by_cases c:y=z
  ·subst c;rw[if_pos rfl]at hz⊢;cases hz;exact⟨u,rfl,h2⟩
  ·rw[if_neg c]at hz;rw[if_neg (by intro x;injection x with x;exact c x.symm)];exact i1 hz rfl
 |_=>cases eq
theorem LA.env{S:Addr->Prop}{H:Hp}:∀ {ns:List Str} {vs:List Vl} {us:List V} {e:Vl} {kvs:List (Key×V)},LA S H e (.inr (.inr kvs))->All2 (L1 S H) vs us->LA S H (abZ e ns vs) (.inr (.inr (R0 kvs (DE ns us))))
 | [],_,_,_,_,h,_=>h
 |_::_,_,_,_,_,h,.nil=>h
 |z::ns,v::vs,u::us,e,kvs,h,.cons h1 h2=>LA.env (ns:=ns) (e:=.bind e z v) (kvs:=R5 kvs (.inr z) u) (.bind h h1) h2
noncomputable def TL(S:Addr->Prop)(ct:Addr)(most:Nat)(H:Hp)(u:V):Rz->Prop
 | .val v c=>∃p x,u=.ref p/\H p=some (.tup [.str "value",x])/\L1 S H v x/\Ct H ct c most
 | .vals vs c=>∃p l us,u=.ref p/\H p=some (.tup [.str "value",.ref l])/\H l=some (.lst us)/\¬S l/\All2 (L1 S H) vs us/\Ct H ct c most
 | .fail (.ref w)=>∃p,u=.ref p/\H p=some (.tup [.str "refused",.str w])
 | .fail .dry=>∃p,u=.ref p/\H p=some (.tup [.str "dry"])
noncomputable def TO(S:Addr->Prop)(H:Hp)(u:V):Out->Prop
 | .val v=>∃p x,u=.ref p/\H p=some (.tup [.str "value",x])/\L1 S H v x
 | .ref w=>∃p,u=.ref p/\H p=some (.tup [.str "refused",.str w])
end RG
namespace RG
open PySem L2 BV
seal PE PT PW PA PS PSs PTs PI L2.PG PGs PO
noncomputable abbrev FV:Stmt:=BV.top 54
noncomputable abbrev GK:Stmt:=BV.top 55
noncomputable abbrev UP:List Str:=["_law_sign","_law_a","_law_b","_law_found"]
theorem sc_law_two:FnScope UP SW (B3 FV):=fS
noncomputable abbrev UB:List Str:=["_law_word","_law_a"]
theorem sc_law_one:FnScope UB UY (B3 GK):=fS
theorem YT(e:Nat->Bool)(us:List V):CV e us []=us.isEmpty:=by
 cases us<;>simp[CV]
theorem HG{K:FZ}{H:Hp}{p b:Addr}{us:List V}{Q:VK}(hp:H p=some (.lst us))(hb:H b=some (.lst []))(h:Q (.bl us.isEmpty) H):RI K (.ref p) (.ref b) H Q:=
 ⟨p,b,us,[],0,λ_=>true,rfl,rfl,SqL.of hp,SqL.of hb,by decide,λj u v _ hv=>by simp at hv,by rw[YT];exact h⟩
theorem grt{n:Int}:decide (((10:Int)^(40:Int).toNat)<(if n<0 then -n else n))=decide (n>GR\/n< -GR):=by
 rw[show(10:Int)^(40:Int).toNat=GR by decide +kernel];apply decide_eq_decide.mpr;split<;>omega
section
variable{P:Program}{w:World}{K:FZ}{mg:Str->Option Value}{base:Heap}{f:Addr}{fd:FuncData}
inductive spTwW(vs:List V)(H:Hp)(Q:VK):Prop
 |mk:∀(S:Addr->Prop) (s:Str) (a b:Vl) (av bv:V) (o:Out),(vs=[.str s,av,bv])->(Two s a b o)->(L1 S H a av)->(L1 S H b bv)->(Gb a)->(Gb b)->(Ls S H)->(∀u H',Same H H'->TO S H' u o->Q u H')->spTwW vs H Q
noncomputable def cqZ:Sp:=λvs H Q _=>spTwW vs H Q
theorem ok_law_two(F:Fun K "_law_two" "_law_two" FV f fd)(B:NoL mg):FnOk P w K mg base CX0 1 f fd SW cqZ:=by
 refine F.ok sc_law_two (λvs H Q E h=> ?_) (λcdv A outer s H vs Q E hr h=> ?_)
 ·obtain⟨S,s,a,b,av,bv,o,rfl,_⟩:=h;rfl
 obtain⟨S,s,a,b,av,bv,o,rfl,ho,ha,hb,ga,gb,hct,q⟩:=h;have nd:=sc_law_two.nd;have hu:=hr.units0;refine⟨_,(A6 (B8 (B0 (kEq (K:=K) hu) (pv 0) A7 rfl) (A8 (B5 (A9 (A0 A7 (A0 (B4 P7 (E5 (A0 (pv 1) A4)) (pv 2)) A4))))) B6)
   (A6 (E6 (B8 (PW.pt (BX (B0 (kEq (K:=K) hu) (pv 0) A7 rfl) (CG (B0 (kEq (K:=K) hu) (pv 0) A7 rfl)))) (A8 (B5 (A9 (A0 A7 (A0 (ixE K w (E5 (A0 (M9 (kEq (K:=K) hu) (pv 1) (pv 2) rfl) (A0 (M9 IM (pv 1) (pv 2) rfl) A4))) (D6 N5 rfl B.int_ CJ (A0 (M9 (kEq (K:=K) hu) (pv 0) A7 rfl) A4))) A4))))) B6))
   (A6 (E6 (B8 (PW.pt (P0 (B0 (kEq (K:=K) hu) (pv 0) A7 rfl) (N8 (B0 (kEq (K:=K) hu) (pv 2) A3 rfl)))) (A8 (B5 (A9 (A0 A7 (A0 A7 A4))))) B6))
   (A6 (sS 3 nd (B4 U5 (pv 1) (pv 2)))
   (A6 (E6 (B8 (B0 (kEq (K:=K) hu) (pv 0) A7 rfl) (A8 (sS 3 nd (B4 P7 (pv 1) (pv 2)))) B6))
   (A6 (E6 (B8 (B0 (kEq (K:=K) hu) (pv 0) A7 rfl) (A8 (sS 3 nd (B4 Q5 (pv 1) (pv 2)))) B6))
   (A6 (E6 (B8 (B0 (kEq (K:=K) hu) (pv 0) A7 rfl) (A8 (sS 3 nd (B4 B9 (pv 1) (pv 2)))) B6))
   (A6 (B8 (B0 Y4 (O0 NV rfl B.abs_ XS (A0 (pv 3) A4)) (B4 IZ A3 A3) rfl) (A8 (B5 (A9 (A0 A7 (A0 A7 A4))))) B6)
   (A8 (B5 (A9 (A0 A7 (A0 (pv 3) A4))))))))))))), ?_⟩
 cases ho with
 | @cons _ r=>
  cases hb with
  | @lst _ p us hp hpc hr'=>
   have hl:=hr'.rlen;have hz:=gb.2 r rfl;have zz:(20000:Nat)<=sizeLine:=by decide
   refine⟨_,rfl,.inl ⟨rfl,_,rfl,ifT rfl ⟨_,rfl,L8,λl hl1=>⟨_,rfl,.inr (.inr ⟨l,p,[av],us,rfl,rfl,A1,A2 hl1 _ _ _ hp,by simp only[length_cons,length_nil];omega,λl2 hl2=>⟨D1,λd hd=> ?_⟩⟩)⟩⟩⟩⟩;have s1:=A2 hl1 (.lst [av]);have s2:=A2 hl2 (.lst ([av]++us));have s3:=A2 hd (.tup [.str "value",.ref l2]);have sA:=s1.trans (s2.trans s3);exact q _ _ sA ⟨d,.ref l2,rfl,A1,.lst (s3 _ _ A1) (hct.no s1 hl2) (.cons (ha.same sA) (hr'.same sA))⟩
 | @num k a b hk=>
  cases ha;cases hb;have hba: -GR<=a/\a<=GR:=ga.1;have hbx: -GR<=b/\b<=GR:=gb.1;have no:∀ {o':Out},o'=tw k a b->∀u' H',Same H H'->TO S H' u' o'->Q u' H':=λe u' H' sm h=>q u' H' sm (e▸h);have nf:=nZ
  match k,hk with
  |3,_=>
   refine⟨_,rfl,.inl ⟨rfl,_,rfl,ifF nf ?_⟩⟩;refine K5 ⟨_,rfl,.inl ⟨rfl,_,rfl,ifT rfl (ifT rfl ?_)⟩⟩;exact⟨_,rfl,_,rfl,.inl ⟨rfl,_,rfl,_,rfl,_,_,rfl,rfl,D1,λl hl=>⟨_,rfl,.inl ⟨rfl,.inl ⟨_,rfl,(ixL A1 rfl ⟨D1,λd hd=>no (o':=.val (.bl (decide (a<b)))) rfl _ _ ((A2 hl _).trans (A2 hd _)) ⟨d,_,rfl,A1,.bl⟩⟩)⟩⟩⟩⟩⟩
  |4,_=>
   refine⟨_,rfl,.inl ⟨rfl,_,rfl,ifF nf ?_⟩⟩;refine K5 ⟨_,rfl,.inl ⟨rfl,_,rfl,ifF nf ⟨_,rfl,.inl ⟨rfl,_,rfl,ifT rfl ?_⟩⟩⟩⟩;exact⟨_,rfl,_,rfl,.inl ⟨rfl,_,rfl,_,rfl,_,_,rfl,rfl,D1,λl hl=>⟨_,rfl,.inl ⟨rfl,.inl ⟨_,rfl,(ixL A1 rfl ⟨D1,λd hd=>no (o':=.val (.bl (decide (V.int a=V.int b)))) (by show Out.val (.bl (decide _))=.val (.bl (decide (a=b)));simp) _ _ ((A2 hl _).trans (A2 hd _)) ⟨d,_,rfl,A1,.bl⟩⟩)⟩⟩⟩⟩⟩
  |5,_=>
   refine⟨_,rfl,.inl ⟨rfl,_,rfl,ifF nf ?_⟩⟩;refine K5 ⟨_,rfl,.inl ⟨rfl,_,rfl,ifF nf ⟨_,rfl,.inl ⟨rfl,_,rfl,ifF nf ?_⟩⟩⟩⟩;by_cases hb0:b=0
   ·subst hb0;exact K5 ⟨_,rfl,.inl ⟨rfl,_,rfl,ifT rfl ⟨_,rfl,.inl ⟨rfl,_,rfl,ifT rfl ⟨D1,λd hd=>no (o':=.ref "nought") rfl _ _ (A2 hd _) ⟨d,rfl,A1⟩⟩⟩⟩⟩⟩
   refine K5 ⟨_,rfl,.inl ⟨rfl,_,rfl,ifT rfl ⟨_,rfl,.inl ⟨rfl,_,rfl,ifF (by simpa using hb0) ?_⟩⟩⟩⟩;refine⟨_,rfl,_,rfl,_,_,rfl,rfl, ?_⟩;refine K5 ⟨_,rfl,.inl ⟨rfl,_,rfl,ifF nf ?_⟩⟩;refine K5 ⟨_,rfl,.inl ⟨rfl,_,rfl,ifF nf ?_⟩⟩;refine K5 ⟨_,rfl,.inl ⟨rfl,_,rfl,ifT rfl ⟨_,rfl,_,rfl,_,_,rfl,rfl,⟨hb0,XH hbx⟩, ?_⟩⟩⟩;have hfd:=RY hba.1 hba.2 hb0;refine⟨_,rfl,_,rfl,_,_,rfl,rfl,⟨by decide,by decide,by decide⟩,_,_,rfl,rfl,_,rfl, ?_⟩;rw[grt,decide_eq_false (by omega:¬(a.fdiv b>GR\/a.fdiv b< -GR))];exact ifF nf ⟨_,rfl,D1,λd hd=>no (o':=.val (.int (a.fdiv b))) (by show _=(if b=0 then _ else _);rw[if_neg hb0]) _ _ (A2 hd _) ⟨d,_,rfl,A1,.int⟩⟩
  |0,_=>
   refine⟨_,rfl,.inl ⟨rfl,_,rfl,ifF nf ?_⟩⟩;refine K5 ⟨_,rfl,.inl ⟨rfl,_,rfl,ifF nf ⟨_,rfl,.inl ⟨rfl,_,rfl,ifF nf ?_⟩⟩⟩⟩;refine K5 ⟨_,rfl,.inl ⟨rfl,_,rfl,ifF nf (ifF nf ?_)⟩⟩;refine⟨_,rfl,_,rfl,_,_,rfl,rfl, ?_⟩;refine K5 ⟨_,rfl,.inl ⟨rfl,_,rfl,ifT rfl ⟨_,rfl,_,rfl,.inl ⟨_,_,rfl,rfl, ?_⟩⟩⟩⟩;refine K5 ⟨_,rfl,.inl ⟨rfl,_,rfl,ifF nf ?_⟩⟩;refine K5 ⟨_,rfl,.inl ⟨rfl,_,rfl,ifF nf ?_⟩⟩;refine⟨_,rfl,_,rfl,_,_,rfl,rfl,⟨by decide,by decide,by decide⟩,_,_,rfl,rfl,_,rfl, ?_⟩;rw[grt];have hn:= @no (FW (a+b)) rfl;unfold FW at hn;by_cases g:a+b>GR\/a+b< -GR
   ·rw[decide_eq_true g];rw[if_pos g]at hn;exact ifT rfl ⟨D1,λd hd=>hn _ _ (A2 hd _) ⟨d,rfl,A1⟩⟩
   ·rw[decide_eq_false g];rw[if_neg g]at hn;exact ifF nf ⟨_,rfl,D1,λd hd=>hn _ _ (A2 hd _) ⟨d,_,rfl,A1,.int⟩⟩
  |1,_=>
   refine⟨_,rfl,.inl ⟨rfl,_,rfl,ifF nf ?_⟩⟩;refine K5 ⟨_,rfl,.inl ⟨rfl,_,rfl,ifF nf ⟨_,rfl,.inl ⟨rfl,_,rfl,ifF nf ?_⟩⟩⟩⟩;refine K5 ⟨_,rfl,.inl ⟨rfl,_,rfl,ifF nf (ifF nf ?_)⟩⟩;refine⟨_,rfl,_,rfl,_,_,rfl,rfl, ?_⟩;refine K5 ⟨_,rfl,.inl ⟨rfl,_,rfl,ifF nf ?_⟩⟩;refine K5 ⟨_,rfl,.inl ⟨rfl,_,rfl,ifF nf ?_⟩⟩;refine K5 ⟨_,rfl,.inl ⟨rfl,_,rfl,ifF nf ?_⟩⟩;refine⟨_,rfl,_,rfl,_,_,rfl,rfl,⟨by decide,by decide,by decide⟩,_,_,rfl,rfl,_,rfl, ?_⟩;rw[grt];have hn:= @no (FW (a - b)) rfl;unfold FW at hn;by_cases g:a - b>GR\/a - b< -GR
   ·rw[decide_eq_true g];rw[if_pos g]at hn;exact ifT rfl ⟨D1,λd hd=>hn _ _ (A2 hd _) ⟨d,rfl,A1⟩⟩
   ·rw[decide_eq_false g];rw[if_neg g]at hn;exact ifF nf ⟨_,rfl,D1,λd hd=>hn _ _ (A2 hd _) ⟨d,_,rfl,A1,.int⟩⟩
  |2,_=>
   refine⟨_,rfl,.inl ⟨rfl,_,rfl,ifF nf ?_⟩⟩;refine K5 ⟨_,rfl,.inl ⟨rfl,_,rfl,ifF nf ⟨_,rfl,.inl ⟨rfl,_,rfl,ifF nf ?_⟩⟩⟩⟩;refine K5 ⟨_,rfl,.inl ⟨rfl,_,rfl,ifF nf (ifF nf ?_)⟩⟩;refine⟨_,rfl,_,rfl,_,_,rfl,rfl, ?_⟩;refine K5 ⟨_,rfl,.inl ⟨rfl,_,rfl,ifF nf ?_⟩⟩;refine K5 ⟨_,rfl,.inl ⟨rfl,_,rfl,ifT rfl ⟨_,rfl,_,rfl,_,_,rfl,rfl,VL hba hbx, ?_⟩⟩⟩;refine K5 ⟨_,rfl,.inl ⟨rfl,_,rfl,ifF nf ?_⟩⟩;refine⟨_,rfl,_,rfl,_,_,rfl,rfl,⟨by decide,by decide,by decide⟩,_,_,rfl,rfl,_,rfl, ?_⟩;rw[grt];have hn:= @no (FW (a*b)) rfl;unfold FW at hn;by_cases g:a*b>GR\/a*b< -GR
   ·rw[decide_eq_true g];rw[if_pos g]at hn;exact ifT rfl ⟨D1,λd hd=>hn _ _ (A2 hd _) ⟨d,rfl,A1⟩⟩
   ·rw[decide_eq_false g];rw[if_neg g]at hn;exact ifF nf ⟨_,rfl,D1,λd hd=>hn _ _ (A2 hd _) ⟨d,_,rfl,A1,.int⟩⟩
inductive spOn1W (vs:List V) (H:Hp) (Q:VK):Prop
 |mk:∀(S:Addr->Prop) (s:Str) (a:Vl) (av:V) (o:Out),(vs=[.str s,av])->(One s a o)->(L1 S H a av)->(Ls S H)->(∀u H',Same H H'->TO S H' u o->Q u H')->spOn1W vs H Q
noncomputable def XD:Sp:=λvs H Q _=>spOn1W vs H Q
theorem ok_law_one(F:Fun K "_law_one" "_law_one" GK f fd)(B:NoL mg):FnOk P w K mg base CX0 1 f fd UY XD:=by
 refine F.ok sc_law_one (λvs H Q E h=> ?_) (λcdv A outer s H vs Q E hr h=> ?_)
 ·obtain⟨S,s,a,av,o,rfl,_⟩:=h;rfl
 obtain⟨S,s,a,av,o,rfl,ho,ha,hct,q⟩:=h;have nd:=sc_law_one.nd;have hu:=hr.units0;have nf:=nZ;refine⟨_,(A6 (B8 (B0 (kEq (K:=K) hu) (pv 0) A7 rfl) (A8 (B5 (A9 (A0 A7 (A0 (QO (pv 1)) A4))))) B6)
   (A6 (B8 (B0 (kEq (K:=K) hu) (pv 0) A7 rfl) (A8 (B5 (A9 (A0 A7 (A0 (M9 (RJ (K:=K) hr.units) (pv 1) (E5 A4) rfl) A4))))) B6)
   (A6 (B8 (B0 (RJ (K:=K) hr.units) (pv 1) (E5 A4) rfl) (A8 (B5 (A9 (A0 A7 (A0 (pv 0) A4))))) B6)
   (A8 (B5 (A9 (A0 A7 (A0 (ixE K w (E5 (A0 (ixE K w (pv 1) A3) (A0 (D7 (kSl (K:=K)) (pv 1) (E7 A3) J5) A4))) (D6 N5 rfl B.int_ CJ (A0 (M9 (kEq (K:=K) hu) (pv 0) A7 rfl) A4))) A4)))))))), ?_⟩
 cases ho with
 | @not b=>
  cases ha;exact⟨_,rfl,.inl ⟨rfl,_,rfl,ifT rfl ⟨_,rfl,_,rfl,D1,λd hd=>q _ _ (A2 hd _) ⟨d,_,rfl,A1,.bl⟩⟩⟩⟩
 |emptyT=>
  cases ha with
  | @lst _ p us hp hpc hr'=>
   cases hr';exact⟨_,rfl,.inl ⟨rfl,_,rfl,ifF nf ⟨_,rfl,.inl ⟨rfl,_,rfl,ifT rfl ⟨_,rfl,zero_le _,λb hb=>HG (A2 hb _ _ _ hp) A1 ⟨D1,λd hd=>q _ _ ((A2 hb _).trans (A2 hd _)) ⟨d,_,rfl,A1,.bl⟩⟩⟩⟩⟩⟩⟩
 |emptyF=>
  cases ha with
  | @lst _ p us hp hpc hr'=>
   cases hr';exact⟨_,rfl,.inl ⟨rfl,_,rfl,ifF nf ⟨_,rfl,.inl ⟨rfl,_,rfl,ifT rfl ⟨_,rfl,zero_le _,λb hb=>HG (A2 hb _ _ _ hp) A1 ⟨D1,λd hd=>q _ _ ((A2 hb _).trans (A2 hd _)) ⟨d,_,rfl,A1,.bl⟩⟩⟩⟩⟩⟩⟩
 |headN|tailN=>
  cases ha with
  | @lst _ p us hp hpc hr'=>
   cases hr';exact⟨_,rfl,.inl ⟨rfl,_,rfl,ifF nf ⟨_,rfl,.inl ⟨rfl,_,rfl,ifF nf ⟨_,rfl,zero_le _,λb hb=>HG (A2 hb _ _ _ hp) A1 ⟨_,rfl,ifT rfl ⟨_,rfl,D1,λd hd=>q _ _ ((A2 hb _).trans (A2 hd _)) ⟨d,rfl,A1⟩⟩⟩⟩⟩⟩⟩⟩
 |head|tail=>
  cases ha with
  | @lst _ p us hp hpc hr'=>
   cases hr' with
   | @cons _ _ v vs h1 h2=>
   refine⟨_,rfl,.inl ⟨rfl,_,rfl,ifF nf ⟨_,rfl,.inl ⟨rfl,_,rfl,ifF nf ⟨_,rfl,zero_le _,λb hb=>HG (A2 hb _ _ _ hp) A1 ⟨_,rfl,ifF nf ?_⟩⟩⟩⟩⟩⟩;have s1:=A2 hb (.lst []);refine⟨_,rfl,(ixL (s1 _ _ hp) (show atI (v::vs) ((0:Nat):Int)=some v from J0 rfl) ?_)⟩;refine⟨_,rfl,_,rfl,.inl ⟨p,_,rfl,SqL.of (s1 _ _ hp),λl2 hl2=>⟨D1,λl hl=> ?_⟩⟩⟩;rw[show R1 (v::vs) (some 1) none=vs by exact HE _ _]at hl⊢;have s2:=A2 hl2 (.lst vs);have s3:=A2 hl (.lst [v,.ref l2]);have s13:=s1.trans (s2.trans s3);refine⟨_,rfl,.inl ⟨rfl,.inl ⟨_,rfl,(ixL A1 rfl ⟨D1,λd hd=> ?_⟩)⟩⟩⟩;have sA:=s13.trans (A2 hd (.tup [.str "value",v]));have sB:=s13.trans (A2 hd (.tup [.str "value",.ref l2]))
   first
   |exact q _ _ sA ⟨d,_,rfl,A1,h1.same sA⟩
   |exact q _ _ sB ⟨d,_,rfl,A1,.lst ((s3.trans (A2 hd _)) _ _ A1) (hct.no s1 hl2) (h2.same sB)⟩
end
noncomputable abbrev BD:Stmt:=BV.top 56
noncomputable abbrev X0:Stmt:=BV.top 57
noncomputable abbrev QW:List Str:=["_law_term","_law_bound","_law_funs","_law_count"]
theorem sc_law_into:FnScope QW CD (B3 BD):=fS
noncomputable abbrev LM:List Str:=["_law_terms","_law_bound","_law_funs","_law_count","_law_found","_law_term","_law_told"]
theorem sc_law_values:FnScope LM SR (B3 X0):=fS
structure Cl (S:Addr->Prop) (H:Hp) (D:List Dn) (most:Nat) (e:Vl) (c:Nat) (bd ct:Addr) (gv:V):Prop where
 b:∃kvs,H bd=some (.dK kvs)/\LA S H e (.inr (.inr kvs))
 g:PgA H D gv
 l:D.length<=1000
 c:Ct H ct c most
 s:S ct
 ls:Ls S H
 nb:¬S bd
theorem Ls.ks{S:Addr->Prop}{H H':Hp}{ct:Addr}{xs:List V}(l:Ls S H)(k:Kl ct H H')(h:H' ct=some (.lst xs)):Ls S H':=λa ha=>by
 by_cases e:a=ct
 ·subst e;exact⟨xs,h⟩
 ·obtain⟨ys,hy⟩:=l a ha;exact⟨ys,k _ _ hy e⟩
theorem Cl.kl{S:Addr->Prop}{H H':Hp}{D:List Dn}{most:Nat}{e:Vl}{c c':Nat}{bd ct:Addr}{gv:V}(h:Cl S H D most e c bd ct gv)(k:Kl ct H H')(hc:Ct H' ct c' most):Cl S H' D most e c' bd ct gv:=by
 obtain⟨kvs,h1,h2⟩:=h.b;have ks:=Ks.kl (S:=S) k h.s;exact⟨⟨kvs,ks _ _ h1 h.nb,h2.ks ks h.ls⟩,h.g.mono (ks.mo h.ls),h.l,hc,h.s,h.ls.ks k hc,h.nb⟩
theorem Cl.same{S:Addr->Prop}{H H':Hp}{D:List Dn}{most:Nat}{e:Vl}{c:Nat}{bd ct:Addr}{gv:V}(h:Cl S H D most e c bd ct gv)(k:Same H H'):Cl S H' D most e c bd ct gv:=h.kl (Kl.of k) (k _ _ h.c)
section
variable{P:Program}{w:World}{K:FZ}{mg:Str->Option Value}{base:Heap}{f E1:Addr}{fd J8:FuncData}
inductive spWithVW(vs:List V)(H:Hp)(Q:VK):Prop
 |mk:∀(d:Addr) (kvs:List (Key×V)) (z:Str) (v:V),(vs=[.ref d,.str z,v])->(H d=some (.dK kvs))->(kvs.length<=1000)->(∀(r:Addr) H',Same H H'->H r=none->H' r=some (.dK (R5 kvs (.inr z) v))->Q (.ref r) H')->spWithVW vs H Q
noncomputable def MA:Sp:=λvs H Q _=>spWithVW vs H Q
theorem ok_law_withV(F:Fun K "_law_with" "_law_with" BA f fd)(B:NoL mg):FnOk P w K mg base CX0 1 f fd BB MA:=by
 refine F.ok sc_law_with (λvs H Q E h=> ?_) (λcdv A outer s H vs Q E hr h=> ?_)
 ·obtain⟨d,kvs,z,v,rfl,_⟩:=h;rfl
 obtain⟨d,kvs,z,v,rfl,hd,hl,q⟩:=h;have nd:=sc_law_with.nd;have zz:(2000:Nat)<=sizeLine:=by decide
 refine⟨_,(A6 (sS 3 nd (D6 LJ rfl B.dict_ HI (A0 (pv 0) A4)))
   (A6 (CU (pv 2) (BZ (pv 3) (pv 1) (MU hr.units)))
   (A8 (B5 (pv 3))))), ?_⟩
 refine⟨_,rfl,d,kvs,rfl,.inl hd,λp hp=> ?_⟩;have s1:=A2 hp (.dK kvs);refine⟨_,rfl,_,rfl,_,rfl,p,_,rfl,DPut.k (k:=.inr z) A1 (by omega), ?_⟩;have e1:upd (upd H p (.dK kvs)) p (.dK (R5 kvs (.inr z) v))=upd H p (.dK (R5 kvs (.inr z) v)):=by
  funext b;unfold upd;split<;>rfl
 rw[e1];exact⟨_,rfl,q p _ (A2 hp _) hp A1⟩
inductive spValW (n:Nat) (vs:List V) (H:Hp) (Q:VK):Prop
 |mk:∀(S:Addr->Prop) (D:List Dn) (most:Nat) (t:Tm) (e:Vl) (c:Nat) (r:Rz) (tv gv:V) (bd ct:Addr),(vs=[tv,.ref bd,gv,.ref ct])->(Cl S H D most e c bd ct gv)->(T1 H t tv)->(Ev D most n (.tm t e) c r)->(∀u H',Kl ct H H'->TL S ct most H' u r->Q u H')->spValW n vs H Q
noncomputable def HP(n:Nat):Sp:=λvs H Q _=>spValW n vs H Q
noncomputable def MG(n:Nat):Sp:=λvs H Q _=>∃(S:Addr->Prop) (D:List Dn) (most:Nat) (t:Tm) (e:Vl) (c:Nat) (r:Rz) (tv gv:V) (bd ct:Addr),vs=[tv,.ref bd,gv,.ref ct]/\Cl S H D most e c bd ct gv/\T1 H t tv/\Ev D most n (.into t e) c r/\∀u H',Kl ct H H'->TL S ct most H' u r->Q u H'
theorem MW{n:Nat}(F:Fun K "_law_into" "_law_into" BD f fd)
  (L9:FnOk P w K mg base CX0 (n+2) E1 J8 CD (HP n))(M2:Binds K J8 CD [])(M1:kZ K (.ref E1)=true)(M0:mg "_law_value"=some (.ref E1)):
  FnOk P w K mg base CX0 (n+3) f fd CD (MG (n+1)):=by
 refine F.ok sc_law_into (λvs H Q E h=> ?_) (λcdv A outer s H vs Q E hr h=> ?_)
 ·obtain⟨S,D,most,t,e,c,r,tv,gv,bd,ct,rfl,_⟩:=h;rfl
 obtain⟨S,D,most,t,e,c,r,tv,gv,bd,ct,rfl,C,ht,hE,q⟩:=h;have nd:=sc_law_into.nd;have hu:=hr.units0;refine⟨_,(A6 (CU (B4 P7 (ixE K w (pv 3) A3) A3) (BZ (pv 3) A3 AF))
   (A6 (B8 (B0 Y4 (ixE K w (pv 3) A3) (ixE K w (pv 3) A3) rfl) (A8 (B5 (A9 (A0 A7 A4)))) B6)
   (A8 (B5 (C0 L9 (hr.mono (by omega)) rfl M0 M1 M2 .nil D8 (A0 (pv 0) (A0 (pv 1) (A0 (pv 2) (A0 (pv 3) A4))))))))), ?_⟩
 refine⟨_,rfl,(ixL C.c rfl (.inl ⟨_,_,rfl,rfl,_,rfl,⟨ct,_,0,0,rfl,rfl,C.c,rfl, ?_⟩⟩))⟩;have kl:Kl ct H (upd H ct (.lst ([V.int (c:Int),.int (most:Int)].set 0 (.int ((c:Int)+1))))):=λb o h n=>by rw[C4 n];exact h
 have hc1:Ct (upd H ct (.lst ([V.int (c:Int),.int (most:Int)].set 0 (.int ((c:Int)+1))))) ct (c+1) most:=A1;have C1:=C.kl kl hc1;refine⟨_,rfl,(ixL hc1 rfl ⟨_,rfl,(ixL hc1 rfl ⟨_,_,rfl,rfl,_,rfl, ?_⟩)⟩)⟩;cases hE with
 |dry h=>exact ifT (decide_eq_true (by omega)) ⟨L8,λd hd=>q _ _ (kl.trans (Kl.of (A2 hd _))) ⟨d,rfl,A1⟩⟩
 |into h hE=>exact ifF (λz=>by have:=of_decide_eq_true z;omega) ⟨_,rfl,_,rfl,_,rfl,_,rfl,S,D,most,t,e,c+1,r,tv,gv,bd,ct,rfl,C1,ht.mono ((Ks.kl kl C.s).mo C.ls),hE,λu H' k h=>q u H' (kl.trans k) h⟩
end
noncomputable def NR(vs:List Vl):Rz->Rz
 | .vals ws c=> .vals (vs++ws) c
 |r=>r
theorem VT{r:Rz}(h:∀v c,r≠ .val v c):NR [] r=r:=by cases r<;>first|rfl|exact absurd rfl (h _ _)
theorem TH{vs:List Vl}{v:Vl}{ws:List Vl}{c:Nat}:NR vs (.vals (v::ws) c)=NR (vs++ [v]) (.vals ws c):=by simp[NR]
theorem csZ{D:List Dn}{most n:Nat}{ts:List Tm}{e:Vl}{c:Nat}{r:Rz}(h:Ev D most n (.row ts e) c r):∀v c,r≠ .val v c:=by cases h<;>exact λ_ _ z=>nomatch z
section
variable{P:Program}{w:World}{K:FZ}{mg:Str->Option Value}{base:Heap}{f E1:Addr}{fd J8:FuncData}
inductive spValsW(n:Nat)(vs:List V)(H:Hp)(Q:VK):Prop
 |mk:∀(S:Addr->Prop) (D:List Dn) (most:Nat) (ts:List Tm) (tus:List V) (e:Vl) (c:Nat) (r:Rz) (gv:V) (tl bd ct:Addr),(vs=[.ref tl,.ref bd,gv,.ref ct])->(Cl S H D most e c bd ct gv)->(H tl=some (.lst tus))->(¬S tl)->(All2 (T1 H) ts tus)->(ts.length<=1000)->(Ev D most n (.row ts e) c r)->(∀u H',Kl ct H H'->TL S ct most H' u r->Q u H')->spValsW n vs H Q
noncomputable def QV(n:Nat):Sp:=λvs H Q _=>spValsW n vs H Q
theorem JM{n:Nat}(F:Fun K "_law_values" "_law_values" X0 f fd)
  (L9:FnOk P w K mg base CX0 (n+2) E1 J8 CD (HP n))(M2:Binds K J8 CD [])(M1:kZ K (.ref E1)=true)(M0:mg "_law_value"=some (.ref E1)):
  FnOk P w K mg base CX0 (n+3) f fd SR (QV (n+1)):=by
 refine F.ok sc_law_values (λvs H Q E h=> ?_) (λcdv A outer s H vs Q E hr h=> ?_)
 ·obtain⟨S,D,most,ts,tus,e,c,r,gv,tl,bd,ct,rfl,_⟩:=h;rfl
 obtain⟨S,D,most,ts,tus,e,c,r,gv,tl,bd,ct,rfl,C,htl,ntl,hts,hz,hE,q⟩:=h;have nd:=sc_law_values.nd;have hu:=hr.units0;refine⟨_,(A6 (sS 4 nd (E5 A4))
   (A6 (E6 (GD PassesOwn.never rfl (V7 (K:=K) (pv 0)) (gN 5 nd) (A6 (sS 6 nd (C0 L9 (hr.mono (by omega)) rfl M0 M1 M2 .nil D8 (A0 (pv 5) (A0 (pv 1) (A0 (pv 2) (A0 (pv 3) A4))))))
   (A6 (B8 (B0 (kNe (K:=K) hu) (ixE K w (pv 6) A3) A7 rfl) (A8 (B5 (pv 6))) B6)
   (A8 (X1 (aP K (pv 4) (ixE K w (pv 6) A3))))))))
   (A8 (B5 (A9 (A0 A7 (A0 (pv 4) A4))))))), ?_⟩
 refine⟨zero_le _,λfl hfl=> ?_⟩;have s1:=A2 hfl (.lst []);have hf1:(upd H fl (.lst [])) fl=some (.lst []):=A1;obtain⟨S',hS'⟩:∃S':Addr->Prop,S'=λa=>S a\/a=fl:=⟨_,rfl⟩;have nfl:¬S fl:=C.ls.no (Same.refl _) hfl;have sub:∀a,S' a->S a\/H a=none:=λa h=>by rw[hS']at h;exact h.imp id λ(e:a=fl)=>by rw[e];exact hfl
 have ncf:fl≠ct:=λe=>nfl (e▸C.s);have htlen:=hts.len;have C1:Cl S' (upd H fl (.lst [])) D most e c bd ct gv:=by
  obtain⟨kvs,h1,h2⟩:=C.b;refine⟨⟨kvs,s1 _ _ h1,(h2.sub sub).same s1⟩,C.g.mono (A5 s1),C.l,s1 _ _ C.c,by rw[hS'];exact .inl C.s,λa h=> ?_,λh=> ?_⟩
  ·rw[hS']at h;rcases h with h|rfl
   ·obtain⟨xs,hx⟩:=C.ls a h;exact⟨xs,s1 _ _ hx⟩
   ·exact⟨[],hf1⟩
  ·rcases sub _ h with h|h
   ·exact C.nb h
   ·rw[h1]at h;cases h
 have htl1:=s1 _ _ htl;have hts1:=hts.imp λ_ _ h=>h.mono (A5 s1);have ntc:tl≠ct:=λe=>ntl (e▸C.s);have ntf:tl≠fl:=λe=>by rw[e,hfl]at htl;cases htl
 show P9 _ _ _ [some (.ref tl),some (.ref bd),some gv,some (.ref ct),some (.ref fl),none,none] (upd H fl (.lst []));generalize upd H fl (.lst [])=H1 at hf1 s1 C1 htl1 hts1⊢;have zz:(2000:Nat)<=sizeLine:=by decide
 refine⟨fun σ' H'=>∃(vs:List Vl) (us:List V) (c':Nat) (y5 y6:Option V),σ'=[some (.ref tl),some (.ref bd),some gv,some (.ref ct),some (.ref fl),y5,y6]/\(∀b o,H1 b=some o->b≠ct->b≠fl->H' b=some o)/\H' fl=some (.lst us)/\All2 (L1 S' H') vs us/\Ct H' ct c' most/\r=.vals vs c', ?_, ?_⟩
 ·refine⟨_,rfl,tl,rfl,⟨_,SqL.of htl1⟩,HY (xs:=tus) (λi σ' H'=>∃(vs:List Vl) (us:List V) (c':Nat) (r':Rz) (y5 y6:Option V),σ'=[some (.ref tl),some (.ref bd),some gv,some (.ref ct),some (.ref fl),y5,y6]/\(∀b o,H1 b=some o->b≠ct->b≠fl->H' b=some o)/\H' fl=some (.lst us)/\All2 (L1 S' H') vs us/\us.length=i/\Ct H' ct c' most/\Ev D most (n+1) (.row (ts.drop i) e) c' r'/\r=NR vs r'/\Cl S' H' D most e c' bd ct gv) ⟨[],[],c,r,none,none,rfl,λ_ _ h _ _=>h,hf1,.nil,rfl,C1.c,hE,(VT (csZ hE)).symm,C1⟩ ?_ ?_ ?_⟩
  ·rintro i σ' H' hi ⟨vs,us,c',r',y5,y6,rfl,kk,_⟩;exact SqL.of (kk _ _ htl1 ntc ntf)
  ·rintro i x σ' H2 hx ⟨vs,us,c',r',y5,y6,rfl,kk,hf2,hvs,hul,hc2,hE2,er,C2⟩;obtain⟨t,hti,htx⟩:=hts1.get hx;have hil:=(List.getElem?_eq_some_iff.mp hti).1;have ed:ts.drop i=t::ts.drop (i+1):=by
    rw[List.drop_eq_getElem_cons hil];congr 1;exact(List.getElem?_eq_some_iff.mp hti).2
   rw[ed]at hE2;have mo2:Mo H1 H2:=λb xs h=>kk b _ h (W2 h C1.c (by intro z;cases z)) (W2 h hf1 (by intro z;cases z));have sS:S' fl:=by rw[hS'];exact .inr rfl
   have key:∀(r1:Rz),Ev D most n (.tm t e) c' r1->∀Qn:V->Hp->Prop,(∀u H3,Kl ct H2 H3->TL S' ct most H3 u r1->Qn u H3)->HP n [x,.ref bd,gv,.ref ct] H2 Qn E0:=λr1 hr1 Qn hQ=>⟨S',D,most,t,e,c',r1,x,gv,bd,ct,rfl,C2,htx.mono mo2,hr1,hQ⟩;have bad:∀ {H3:Hp},Kl ct H2 H3->Kl ct H H3:=λ{H3} k3 b o h nb=>k3 _ _ (kk _ _ (s1 _ _ h) nb (λe=>by rw[e,hfl]at h;cases h)) nb;have good:∀ {v:Vl} {c1:Nat} {r2:Rz} {H3:Hp} {p:Addr} {xv:V},Kl ct H2 H3->H3 p=some (.tup [.str "value",xv])->L1 S' H3 v xv->Ct H3 ct c1 most->Ev D most (n+1) (.row (ts.drop (i+1)) e) c1 r2->r=NR (vs++ [v]) r2->∃(vs':List Vl) (us':List V) (c':Nat) (r':Rz) (y5 y6:Option V),[some (V.ref tl),some (.ref bd),some gv,some (.ref ct),some (.ref fl),some x,some (.ref p)]=[some (.ref tl),some (.ref bd),some gv,some (.ref ct),some (.ref fl),y5,y6]/\(∀b o,H1 b=some o->b≠ct->b≠fl->(upd H3 fl (.lst (us++ [xv]))) b=some o)/\(upd H3 fl (.lst (us++ [xv]))) fl=some (.lst us')/\All2 (L1 S' (upd H3 fl (.lst (us++ [xv])))) vs' us'/\us'.length=i+1/\Ct (upd H3 fl (.lst (us++ [xv]))) ct c' most/\Ev D most (n+1) (.row (ts.drop (i+1)) e) c' r'/\r=NR vs' r'/\Cl S' (upd H3 fl (.lst (us++ [xv]))) D most e c' bd ct gv:=λ{v c1 r2 H3 p xv} k3 hp hv hc3 hE3 er3=>by
    have C3:=C2.kl k3 hc3;have ks:Ks S' H3 (upd H3 fl (.lst (us++ [xv]))):=λb o h nb=>by
     rw[C4 (show b≠fl from λe=>nb (by rw[e];exact sS))];exact h
    have hc4:Ct (upd H3 fl (.lst (us++ [xv]))) ct c1 most:=by show(upd H3 fl _) ct=_;rw[C4 (Ne.symm ncf)];exact hc3
    have ks23:=Ks.kl (S:=S') k3 C2.s;refine⟨vs++ [v],us++ [xv],c1,r2,_,_,rfl,λb o h nb nf=>by rw[C4 nf];exact k3 _ _ (kk _ _ h nb nf) nb,A1,(hvs.imp λ_ _ h=>(h.ks ks23 C2.ls).ks ks C3.ls).app (.cons (hv.ks ks C3.ls) .nil),by rw[length_append,hul];rfl,hc4,hE3,er3, ?_⟩;obtain⟨kvs,h1,h2⟩:=C3.b;refine⟨⟨kvs,ks _ _ h1 C3.nb,h2.ks ks C3.ls⟩,C3.g.mono (ks.mo C3.ls),C3.l,hc4,C3.s,λa ha=> ?_,C3.nb⟩;by_cases e:a=fl
    ·subst e;exact⟨_,A1⟩
    ·obtain⟨ys,hy⟩:=C3.ls a ha;exact⟨ys,by rw[C4 e];exact hy⟩
   have hf3:∀ {H3:Hp},Kl ct H2 H3->H3 fl=some (.lst us):=λk3=>k3 _ _ hf2 ncf;have hil2:us.length<sizeLine:=by omega
   cases hE2 with
   | @consF _ _ _ _ _ o h=>
    refine⟨_,rfl,_,rfl,_,rfl,_,rfl,key _ h _ λu H3 k3 hT=> ?_⟩;have er:r=.fail o:=er;cases o with
    |ref w=>
     obtain⟨p,rfl,hp⟩:=hT;exact⟨_,rfl,(ixT hp rfl (.inl ⟨rfl,_,rfl,ifT rfl ⟨_,rfl,q _ _ (bad k3) (by rw[er];exact⟨p,rfl,hp⟩)⟩⟩))⟩
    |dry=>
     obtain⟨p,rfl,hp⟩:=hT;exact⟨_,rfl,(ixT hp rfl (.inl ⟨rfl,_,rfl,ifT rfl ⟨_,rfl,q _ _ (bad k3) (by rw[er];exact⟨p,rfl,hp⟩)⟩⟩))⟩
   | @consR _ _ _ _ _ v c1 o h1 h2=>
    refine⟨_,rfl,_,rfl,_,rfl,_,rfl,key _ h1 _ λu H3 k3 hT=> ?_⟩;obtain⟨p,xv,rfl,hp,hv,hc3⟩:=hT;exact⟨_,rfl,(ixT hp rfl (.inl ⟨rfl,_,rfl,ifF nZ ⟨_,rfl,.inl ⟨rfl,_,SqL.of (hf3 k3)⟩,_,rfl,(ixT hp rfl ⟨fl,_,_,rfl,rfl,hf3 k3,hil2,good k3 hp hv hc3 h2 er⟩)⟩⟩))⟩
   | @cons _ _ _ _ _ v c1 ws c2 h1 h2=>
    refine⟨_,rfl,_,rfl,_,rfl,_,rfl,key _ h1 _ λu H3 k3 hT=> ?_⟩;obtain⟨p,xv,rfl,hp,hv,hc3⟩:=hT;exact⟨_,rfl,(ixT hp rfl (.inl ⟨rfl,_,rfl,ifF nZ ⟨_,rfl,.inl ⟨rfl,_,SqL.of (hf3 k3)⟩,_,rfl,(ixT hp rfl ⟨fl,_,_,rfl,rfl,hf3 k3,hil2,good k3 hp hv hc3 h2 (er.trans TH)⟩)⟩⟩))⟩
  ·rintro σ' H' ⟨vs,us,c',r',y5,y6,rfl,kk,hf2,hvs,hul,hc2,hE2,er,C2⟩;rw[<-htlen,List.drop_length]at hE2;cases hE2;exact⟨vs,us,c',y5,y6,rfl,kk,hf2,hvs,hc2,by rw[er];simp[NR]⟩
 rintro _ H3 ⟨vs,us,c',y5,y6,rfl,kk,hf3,hvs,hc3,rfl⟩;refine⟨_,rfl,D1,λd hd=> ?_⟩;have s4:=A2 hd (.tup [.str "value",.ref fl]);exact q _ _ (λb o h nb=>s4 _ _ (kk _ _ (s1 _ _ h) nb (λe=>by rw[e,hfl]at h;cases h))) ⟨d,fl,us,rfl,A1,s4 _ _ hf3,nfl,hvs.imp λ_ _ h=>(h.sub λa ha=> .inl (by rw[hS'];exact .inl ha)).same s4,s4 _ _ hc3⟩
end
noncomputable abbrev Y8:Stmt:=BV.top 58
noncomputable abbrev OA:List Str:=["_law_term","_law_bound","_law_funs","_law_count","_law_kind_here","_law_parts","_law_told"]
theorem sc_law_value:FnScope OA CD (B3 Y8):=fS
theorem dsZ{a b c d r:TS}{D:Ends}{σ:St}{H:Hp}(h:∀N:St->Hp->Prop,N=r D->P9 a (P9 b (P9 c d)) {D with nx:=N} σ H):P9 a (P9 b (P9 c (P9 d r))) D σ H:=h _ rfl
theorem none_of{H H':Hp}(s:Same H H'){p:Addr}(h:H' p=none):H p=none:=by
 cases e:H p with
 |none=>rfl
 |some o=>rw[s _ _ e]at h;cases h
section
variable{P:Program}{w:World}{K:FZ}{mg:Str->Option Value}{base:Heap}{f N2 N3:Addr}{fd P5 P4:FuncData}
inductive spBehW(n:Nat)(vs:List V)(H:Hp)(Q:VK):Prop
 |mk:∀(S:Addr->Prop) (D:List Dn) (most:Nat) (t:Tm) (ws:List Vl) (us:List V) (e:Vl) (c:Nat) (r:Rz) (tv gv:V) (vl bd ct:Addr),(vs=[tv,.ref vl,.ref bd,gv,.ref ct])->(Cl S H D most e c bd ct gv)->(T1 H t tv)->(H vl=some (.lst us))->(¬S vl)->(All2 (L1 S H) ws us)->(Ev D most n (.beh t ws e) c r)->(∀u H',Kl ct H H'->TL S ct most H' u r->Q u H')->spBehW n vs H Q
noncomputable def YS(n:Nat):Sp:=λvs H Q _=>spBehW n vs H Q
theorem LV{n:Nat}(F:Fun K "_law_value" "_law_value" Y8 f fd)(B:NoL mg)
  (KY:FnOk P w K mg base CX0 (n+2) N2 P5 SR (QV n))(AR:Binds K P5 SR [])(AJ:kZ K (.ref N2)=true)(AQ:mg "_law_values"=some (.ref N2))
  (LB:FnOk P w K mg base CX0 (n+2) N3 P4 UJ (YS n))(AO:Binds K P4 UJ [])(AW:kZ K (.ref N3)=true)(AX:mg "_law_behind"=some (.ref N3)):
  FnOk P w K mg base CX0 (n+3) f fd CD (HP (n+1)):=by
 refine F.ok sc_law_value (λvs H Q E h=> ?_) (λcdv A outer s H vs Q E hr h=> ?_)
 ·obtain⟨S,D,most,t,e,c,r,tv,gv,bd,ct,rfl,_⟩:=h;rfl
 obtain⟨S,D,most,t,e,c,r,tv,gv,bd,ct,rfl,C,ht,hE,q⟩:=h;have nd:=sc_law_value.nd;have hu:=hr.units0;have nf:=nZ;refine⟨_,(A6 (sS 4 nd (ixE K w (pv 0) A3))
   (A6 (E6 (B8 (PW.pt (BX (B0 (kEq (K:=K) hu) (pv 4) A7 rfl) (CG (B0 (kEq (K:=K) hu) (pv 4) A7 rfl)))) (A8 (B5 (A9 (A0 A7 (A0 (ixE K w (pv 0) A3) A4))))) B6))
   (A6 (B8 (B0 (kEq (K:=K) hu) (pv 4) A7 rfl) (A8 (B5 (A9 (A0 A7 (A0 (E5 A4) A4))))) B6)
   (A6 (B8 (B0 (kEq (K:=K) hu) (pv 4) A7 rfl) (A8 (B5 (A9 (A0 A7 (A0 (HJ hr.u1 (pv 1) (ixE K w (pv 0) A3) (λ_ _=>rfl)) A4))))) B6)
   (A6 (B8 (B0 (kEq (K:=K) hu) (pv 4) A7 rfl) (A8 (B5 (A9 (A0 A7 (A0 (A9 (A0 A7 (A0 (ixE K w (pv 0) A3) (A0 (ixE K w (pv 0) A3) (A0 (D6 LJ rfl B.dict_ HI (A0 (pv 1) A4)) A4))))) A4))))) B6)
   (A6 (sS 5 nd (E5 (A0 (ixE K w (pv 0) (B4 U5 A3 (D6 N5 rfl B.int_ CJ (A0 (aKZ (M9 (kEq (K:=K) hu) (pv 4) A7 rfl) (OR (M9 (kEq (K:=K) hu) (pv 4) A7 rfl))) A4)))) A4)))
   (A6 (E6 (B8 (B0 (kEq (K:=K) hu) (pv 4) A7 rfl) (A8 (sS 5 nd (E5 (A0 (ixE K w (pv 0) A3) (A0 (ixE K w (pv 0) A3) A4))))) B6))
   (A6 (E6 (B8 (B0 (kEq (K:=K) hu) (pv 4) A7 rfl) (A8 (sS 5 nd (E5 (A0 (ixE K w (pv 0) A3) (A0 (ixE K w (pv 0) A3) A4))))) B6))
   (A6 (E6 (B8 (B0 (kEq (K:=K) hu) (pv 4) A7 rfl) (A8 (sS 5 nd (D6 (GJ (K:=K)) rfl B.list_ V6 (A0 (ixE K w (pv 0) A3) A4)))) B6))
   (A6 (sS 6 nd (C0 KY (hr.mono (by omega)) rfl AQ AJ AR .nil D8 (A0 (pv 5) (A0 (pv 1) (A0 (pv 2) (A0 (pv 3) A4))))))
   (A6 (B8 (B0 (kNe (K:=K) hu) (ixE K w (pv 6) A3) A7 rfl) (A8 (B5 (pv 6))) B6)
   (A8 (B5 (C0 LB (hr.mono (by omega)) rfl AX AW AO .nil D8 (A0 (pv 0) (A0 (ixE K w (pv 6) A3) (A0 (pv 1) (A0 (pv 2) (A0 (pv 3) A4))))))))))))))))))), ?_⟩
 obtain⟨a,rest,rfl,ha⟩:=ht.word;have hat:atI (V.str (tmW t)::rest) ((0:Nat):Int)=some (.str (tmW t)):=J0 rfl;refine stp λNx eN=> ?_;refine⟨_,rfl,(ixT ha hat ?_)⟩;show Nx _ _;subst eN;show P9 _ _ _ [some (.ref a),some (.ref bd),some gv,some (.ref ct),some (.str (tmW t)),none,none] H;have hS:=C.ls;have hform:(∃v,Once e t v/\r=.val v c)\/∃ts rr,Pts t ts/\Ev D most n (.row ts e) c rr/\((∃o,rr=.fail o/\r=.fail o)\/∃ws c',rr=.vals ws c'/\Ev D most n (.beh t ws e) c' r):=by
  cases hE with
  |once h=>exact .inl ⟨_,h,rfl⟩
  |tmF hP h=>exact .inr ⟨_,_,hP,h,.inl ⟨_,rfl,rfl⟩⟩
  |tm hP h h2=>exact .inr ⟨_,_,hP,h,.inr ⟨_,_,rfl,h2⟩⟩
 rcases hform with⟨v,hO,rfl⟩|⟨ts,rr,hP,hEr,hrr⟩
 ·clear hE;have fin:∀ {HH:Hp} {d:Addr} {x:V},Same H HH->HH d=some (.tup [.str "value",x])->L1 S HH v x->Q (.ref d) HH:=λ{HH d x} sm hd hx=>q _ _ (Kl.of sm) ⟨d,x,rfl,hd,hx,sm _ _ C.c⟩;cases hO with
  |num=>
   cases ht with
   |num h=>
    rw[ha]at h;cases h;exact K5 ⟨_,rfl,.inl ⟨rfl,_,rfl,ifT rfl (ifT rfl ⟨_,rfl,(ixT ha rfl ⟨D1,λd hd=>fin (A2 hd _) A1 .int⟩)⟩)⟩⟩
  |tru=>
   cases ht with
   |tru h=>
    rw[ha]at h;cases h;exact K5 ⟨_,rfl,.inl ⟨rfl,_,rfl,ifF nf ⟨_,rfl,.inl ⟨rfl,_,rfl,ifT rfl ⟨_,rfl,(ixT ha rfl ⟨D1,λd hd=>fin (A2 hd _) A1 .bl⟩)⟩⟩⟩⟩⟩
  |non=>
   refine K5 ⟨_,rfl,.inl ⟨rfl,_,rfl,ifF nf ⟨_,rfl,.inl ⟨rfl,_,rfl,ifF nf ?_⟩⟩⟩⟩;refine⟨_,rfl,.inl ⟨rfl,_,rfl,ifT rfl ⟨zero_le _,λl hl=>⟨D1,λd hd=> ?_⟩⟩⟩⟩;have s1:=A2 hl (.lst []);exact fin (s1.trans (A2 hd _)) A1 (.lst (A2 hd _ _ _ A1) (hS.no (Same.refl _) hl) .nil)
  | @name z _ hz=>
   cases ht with
   |name h=>
    rw[ha]at h;cases h;obtain⟨kvs,hb1,hb2⟩:=C.b;obtain⟨u,hu1,hu2⟩:=hb2.look hz;refine K5 ⟨_,rfl,.inl ⟨rfl,_,rfl,ifF nf ⟨_,rfl,.inl ⟨rfl,_,rfl,ifF nf ?_⟩⟩⟩⟩;refine⟨_,rfl,.inl ⟨rfl,_,rfl,ifF nf ?_⟩⟩;exact⟨_,rfl,.inl ⟨rfl,_,rfl,ifT rfl ⟨_,rfl,_,rfl,(ixT ha rfl ⟨bd,u,rfl,by rw[<-hu1];exact DGet.k (k:=.inr z) hb1,D1,λd hd=>fin (A2 hd _) A1 (hu2.same (A2 hd _))⟩)⟩⟩⟩
  | @fn z b=>
   cases ht with
   | @fn _ _ _ u h hb=>
    rw[ha]at h;cases h;obtain⟨kvs,hb1,hb2⟩:=C.b;refine K5 ⟨_,rfl,.inl ⟨rfl,_,rfl,ifF nf ⟨_,rfl,.inl ⟨rfl,_,rfl,ifF nf ?_⟩⟩⟩⟩;refine⟨_,rfl,.inl ⟨rfl,_,rfl,ifF nf ?_⟩⟩;refine⟨_,rfl,.inl ⟨rfl,_,rfl,ifF nf ?_⟩⟩;refine⟨_,rfl,.inl ⟨rfl,_,rfl,ifT rfl ⟨_,rfl,(ixT ha rfl ⟨_,rfl,(ixT ha rfl ⟨_,rfl,bd,kvs,rfl,.inl hb1,λp hp=>⟨P2,λp2 hp2=>⟨D1,λd hd=> ?_⟩⟩⟩)⟩)⟩⟩⟩;have s1:=A2 hp (.dK kvs);have s2:=A2 hp2 (.tup [.str "fn",.str z,u,.ref p]);have s3:=A2 hd (.tup [.str "value",.ref p2]);have s13:=s1.trans (s2.trans s3);exact fin s13 A1 (.fn (s3 _ _ A1) (hb.mono (A5 s13)) ((s2.trans s3) _ _ A1) (hS.no (Same.refl _) hp) (hb2.same s13))
 have hw:¬decide (V.str (tmW t)=V.str "number")=true/\¬decide (V.str (tmW t)=V.str "truth")=true/\¬decide (V.str (tmW t)=V.str "none")=true/\¬decide (V.str (tmW t)=V.str "name")=true/\¬decide (V.str (tmW t)=V.str "fn")=true:=by
  cases hP<;>exact⟨nf,nf,nf,nf,nf⟩
 obtain⟨hw1,hw2,hw3,hw4,hw5⟩:=hw;have htl:ts.length<=1000:=by
  cases hP<;>first|assumption|(simp only[length_cons,length_nil];omega)
 refine stp λNx eN=> ?_;refine K5 ⟨_,rfl,.inl ⟨rfl,_,rfl,ifF hw1 ⟨_,rfl,.inl ⟨rfl,_,rfl,ifF hw2 ?_⟩⟩⟩⟩;show Nx _ _;subst eN;refine stp λNx eN=> ?_;refine⟨_,rfl,.inl ⟨rfl,_,rfl,ifF hw3 ?_⟩⟩;show Nx _ _;subst eN;refine stp λNx eN=> ?_;refine⟨_,rfl,.inl ⟨rfl,_,rfl,ifF hw4 ?_⟩⟩;show Nx _ _;subst eN;refine stp λNx eN=> ?_;refine⟨_,rfl,.inl ⟨rfl,_,rfl,ifF hw5 ?_⟩⟩;show Nx _ _;subst eN;refine dsZ λN eN=> ?_;have hN:∀(pl:Addr) (tus:List V) (H':Hp),Same H H'->H pl=none->H' pl=some (.lst tus)->All2 (T1 H') ts tus->N [some (.ref a),some (.ref bd),some gv,some (.ref ct),some (.str (tmW t)),some (.ref pl),none] H':=by
  intro pl tus H' sm hpl hpt hts;subst eN;refine⟨_,rfl,_,rfl,_,rfl,_,rfl,S,D,most,ts,tus,e,c,rr,gv,pl,bd,ct,rfl,C.same sm,hpt,hS.no (Same.refl _) hpl,hts,htl,hEr,λu H2 k2 hT=> ?_⟩;have k2':Kl ct H H2:=(Kl.of sm).trans k2;rcases hrr with⟨o,rfl,rfl⟩|⟨ws,c',rfl,hB⟩
  ·cases o with
   |ref w=>
    obtain⟨p,rfl,hp⟩:=hT;exact⟨_,rfl,(ixT hp rfl (.inl ⟨rfl,_,rfl,ifT rfl ⟨_,rfl,q _ _ k2' ⟨p,rfl,hp⟩⟩⟩))⟩
   |dry=>
    obtain⟨p,rfl,hp⟩:=hT;exact⟨_,rfl,(ixT hp rfl (.inl ⟨rfl,_,rfl,ifT rfl ⟨_,rfl,q _ _ k2' ⟨p,rfl,hp⟩⟩⟩))⟩
  ·obtain⟨p,l,us,rfl,hp,hl,nl,hvs,hc2⟩:=hT;exact⟨_,rfl,(ixT hp rfl (.inl ⟨rfl,_,rfl,ifF nf ⟨_,rfl,_,rfl,(ixT hp rfl ⟨_,rfl,_,rfl,_,rfl,S,D,most,t,ws,us,e,c',r,.ref a,gv,l,bd,ct,rfl,C.kl k2' hc2,ht.mono ((Ks.kl k2' C.s).mo hS),hl,nl,hvs,hB,λu H' k h=>q _ _ (k2'.trans k) h⟩)⟩⟩))⟩
 clear eN hrr hEr;cases hP with
 |two=>
  cases ht with
  | @two _ _ _ _ u w1 h h1 h2=>
  rw[ha]at h;cases h;refine⟨_,rfl,_,rfl,.inl ⟨rfl,_,rfl,ifF nf ⟨_,rfl,.inl ⟨rfl,.inl ⟨_,rfl,_,_,rfl,rfl,(ixT ha rfl ⟨L8,λpl hpl=> ?_⟩)⟩⟩⟩⟩⟩;have s1:=A2 hpl (.lst [u]);have ha1:=s1 _ _ ha;refine K5 ⟨_,rfl,.inl ⟨rfl,_,rfl,ifT rfl ⟨_,rfl,(ixT ha1 rfl ⟨_,rfl,(ixT ha1 rfl ⟨D1,λp2 hp2=> ?_⟩)⟩)⟩⟩⟩;refine K5 ⟨_,rfl,.inl ⟨rfl,_,rfl,ifF nf ?_⟩⟩;refine K5 ⟨_,rfl,.inl ⟨rfl,_,rfl,ifF nf ?_⟩⟩;have s2:=s1.trans (A2 hp2 (.lst [u,w1]));exact hN p2 [u,w1] _ s2 (none_of s1 hp2) A1 (.cons (h1.mono (A5 s2)) (.cons (h2.mono (A5 s2)) .nil))
 |one=>
  cases ht with
  | @one _ _ _ u h h1=>
  rw[ha]at h;cases h;refine⟨_,rfl,_,rfl,.inl ⟨rfl,_,rfl,ifF nf ⟨_,rfl,.inl ⟨rfl,.inl ⟨_,rfl,_,_,rfl,rfl,(ixT ha rfl ⟨L8,λpl hpl=> ?_⟩)⟩⟩⟩⟩⟩;refine K5 ⟨_,rfl,.inl ⟨rfl,_,rfl,ifF nf ?_⟩⟩;refine K5 ⟨_,rfl,.inl ⟨rfl,_,rfl,ifF nf ?_⟩⟩;refine K5 ⟨_,rfl,.inl ⟨rfl,_,rfl,ifF nf ?_⟩⟩;have s1:=A2 hpl (.lst [u]);exact hN pl [u] _ s1 hpl A1 (.cons (h1.mono (A5 s1)) .nil)
 |ite=>
  cases ht with
  | @ite _ _ _ _ u w1 w2 h h1 h2 h3=>
  rw[ha]at h;cases h;refine⟨_,rfl,_,rfl,.inl ⟨rfl,_,rfl,ifT rfl (.inl ⟨_,rfl,_,_,rfl,rfl,(ixT ha rfl ⟨L8,λpl hpl=> ?_⟩)⟩)⟩⟩;refine K5 ⟨_,rfl,.inl ⟨rfl,_,rfl,ifF nf ?_⟩⟩;refine K5 ⟨_,rfl,.inl ⟨rfl,_,rfl,ifF nf ?_⟩⟩;refine K5 ⟨_,rfl,.inl ⟨rfl,_,rfl,ifF nf ?_⟩⟩;have s1:=A2 hpl (.lst [u]);exact hN pl [u] _ s1 hpl A1 (.cons (h1.mono (A5 s1)) .nil)
 |let_=>
  cases ht with
  | @let_ _ _ _ _ u w1 h h1 h2=>
  rw[ha]at h;cases h;refine⟨_,rfl,_,rfl,.inl ⟨rfl,_,rfl,ifF nf ⟨_,rfl,.inl ⟨rfl,.inl ⟨_,rfl,_,_,rfl,rfl,(ixT ha rfl ⟨L8,λpl hpl=> ?_⟩)⟩⟩⟩⟩⟩;refine K5 ⟨_,rfl,.inl ⟨rfl,_,rfl,ifF nf ?_⟩⟩;refine K5 ⟨_,rfl,.inl ⟨rfl,_,rfl,ifF nf ?_⟩⟩;refine K5 ⟨_,rfl,.inl ⟨rfl,_,rfl,ifF nf ?_⟩⟩;have s1:=A2 hpl (.lst [u]);exact hN pl [u] _ s1 hpl A1 (.cons (h1.mono (A5 s1)) .nil)
 |do_=>
  cases ht with
  | @do_ _ _ _ u w1 h h1 h2=>
  rw[ha]at h;cases h;refine⟨_,rfl,_,rfl,.inl ⟨rfl,_,rfl,ifF nf ⟨_,rfl,.inl ⟨rfl,.inl ⟨_,rfl,_,_,rfl,rfl,(ixT ha rfl ⟨L8,λpl hpl=> ?_⟩)⟩⟩⟩⟩⟩;have s1:=A2 hpl (.lst [u]);have ha1:=s1 _ _ ha;refine K5 ⟨_,rfl,.inl ⟨rfl,_,rfl,ifF nf ?_⟩⟩;refine K5 ⟨_,rfl,.inl ⟨rfl,_,rfl,ifT rfl ⟨_,rfl,(ixT ha1 rfl ⟨_,rfl,(ixT ha1 rfl ⟨D1,λp2 hp2=> ?_⟩)⟩)⟩⟩⟩;refine K5 ⟨_,rfl,.inl ⟨rfl,_,rfl,ifF nf ?_⟩⟩;have s2:=s1.trans (A2 hp2 (.lst [u,w1]));exact hN p2 [u,w1] _ s2 (none_of s1 hp2) A1 (.cons (h1.mono (A5 s2)) (.cons (h2.mono (A5 s2)) .nil))
 |call hrl=>
  cases ht with
  | @call _ _ _ p1 us h h1 h2=>
  rw[ha]at h;cases h;refine⟨_,rfl,_,rfl,.inl ⟨rfl,_,rfl,ifF nf ⟨_,rfl,.inl ⟨rfl,.inl ⟨_,rfl,_,_,rfl,rfl,(ixT ha rfl ⟨L8,λpl hpl=> ?_⟩)⟩⟩⟩⟩⟩;have s1:=A2 hpl (.lst [.ref p1]);have ha1:=s1 _ _ ha;refine K5 ⟨_,rfl,.inl ⟨rfl,_,rfl,ifF nf ?_⟩⟩;refine K5 ⟨_,rfl,.inl ⟨rfl,_,rfl,ifF nf ?_⟩⟩;refine K5 ⟨_,rfl,.inl ⟨rfl,_,rfl,ifT rfl ⟨_,rfl,(ixT ha1 rfl ⟨p1,us,rfl,.inr (SqT.of (s1 _ _ h1)),λp2 hp2=> ?_⟩)⟩⟩⟩;have s2:=s1.trans (A2 hp2 (.lst us));exact hN p2 us _ s2 (none_of s1 hp2) A1 (h2.row.imp λ_ _ h=>h.mono (A5 s2))
end
noncomputable abbrev T2:Stmt:=BV.top 59
noncomputable abbrev EX:List Str:=["_law_term","_law_values_here","_law_bound","_law_funs","_law_count","_law_one_here"]
theorem sc_law_behind:FnScope EX UJ (B3 T2):=fS
theorem TO.tl{S:Addr->Prop}{ct:Addr}{most c:Nat}{H:Hp}{u:V}{o:Out}(h:TO S H u o)(hc:Ct H ct c most):TL S ct most H u (ofO o c):=by
 cases o with
 |val v=>obtain⟨p,x,e,h1,h2⟩:=h;exact⟨p,x,e,h1,h2,hc⟩
 |ref w=>exact h
theorem IP{K:FZ}{a:Addr}{us:List V}{caps:List Nat}{tt:TT}{te:TE}{σ:St}{H:Hp}{R:List V->Hp->Prop}{D:List Dn}{z:Str}{d:Dn}{E:Dn->V->Prop}(hp:H a=some (.tup us))(hD:All2 (DnA H) D us)(hz:D.length<=1000)(hd:(D.find? λd=>d.name==z)=some d)
  (hs:∀(x:V) (di:Dn) (ys:List V) (Pv:List V->Hp->Prop),DnA H di x->(di.name=z->∀u,E di u->Pv (ys++ [u]) H)->(di.name≠z->Pv ys H)->tt (capσ caps σ (some x)) H λb H2=>if b=true then te (capσ caps σ (some x)) H2 λy H3=>Pv (ys++ [y]) H3 else Pv ys H2)
  (hR:∀u rest,E d u->R (u::rest) H):
  ∃W:Nat->Nat->List V->Hp->Prop,(∃m,W 0 m [] H)/\∀i m ys H,W i m ys H->ys.length<=sizeLine/\(((Itt K a).stop i H/\R ys H)\/((Itt K a).go i H/\∃N:List V->Hp->Prop,(∀ys' H',N ys' H'->∃m',m'<m/\W (i+1) m' ys' H')/\∀v H',(Itt K a).yld i H v H'->
   tt (capσ caps σ (some v)) H' λb H2=>if b=true then te (capσ caps σ (some v)) H2 λy H3=>N (ys++ [y]) H3 else N ys H2)):=by
 have zz:(1000:Nat)<=sizeLine:=by decide
 have hl:=hD.len;refine NA (xs:=us) (λj ys H'=>ys.length<=j/\(∀d,((D.take j).find? λd=>d.name==z)=some d->∃u rest,ys=u::rest/\E d u)/\(((D.take j).find? λd=>d.name==z)=none->ys=[])/\H=H') ⟨Nat.le_refl _,by simp,λ_=>rfl,rfl⟩ ?_ ?_ ?_
 ·rintro i ys H' hi ⟨hv,_,_,rfl⟩;exact⟨SqT.of hp,by omega⟩
 ·rintro i x ys H' hx ⟨hv,hf,hn,rfl⟩;obtain⟨di,hdi,hda⟩:=hD.get hx;refine hs x di ys (λys H'=>ys.length<=i+1/\(∀d,((D.take (i+1)).find? λd=>d.name==z)=some d->∃u rest,ys=u::rest/\E d u)/\(((D.take (i+1)).find? λd=>d.name==z)=none->ys=[])/\H=H') hda (λc u hu=>⟨by rw[length_append];simp only[length_cons,length_nil];omega,λd' h'=> ?_,λh'=> ?_,rfl⟩) (λc=>⟨by omega,λd' h'=> ?_,λh'=> ?_,rfl⟩)
  ·rw[BV.take_one hdi,find?_append]at h';cases h9:(D.take i).find? λd=>d.name==z with
   |some d9=>
    rw[h9]at h';have e9:d9=d':=by simpa using h'
    subst e9;obtain⟨u',rest,e,h⟩:=hf d9 h9;exact⟨u',rest++ [u],by rw[e];rfl,h⟩
   |none=>
    rw[h9]at h';have e8:di.name==z/\di=d':=by simpa using h'
    obtain⟨_,rfl⟩:=e8;rw[hn h9];exact⟨u,[],rfl,hu⟩
  ·rw[BV.take_one hdi,find?_append]at h';simp[c]at h'
  ·rw[BV.take_one hdi,find?_append]at h';cases h9:(D.take i).find? λd=>d.name==z with
   |some d9=>
    rw[h9]at h';have e9:d9=d':=by simpa using h'
    subst e9;exact hf d9 h9
   |none=>
    rw[h9]at h';have e8:di.name==z/\di=d':=by simpa using h'
    exact absurd (by simpa using e8.1) c
  ·rw[BV.take_one hdi,find?_append]at h';exact hn (Option.or_eq_none_iff.mp h').1
 rintro ys H' ⟨hv,hf,_,rfl⟩;rw[<-hl,take_of_length_le (Nat.le_refl _)]at hf;obtain⟨u,rest,rfl,hu⟩:=hf d hd;exact hR u rest hu
section
variable{P:Program}{w:World}{K:FZ}{mg:Str->Option Value}{base:Heap}{f E1 U1 U2 C6 P3:Addr}{fd J8 AB AE D5 U0:FuncData}
theorem JN{n:Nat}(F:Fun K "_law_behind" "_law_behind" T2 f fd)(B:NoL mg)
  (AD:FnOk P w K mg base CX0 1 U1 AB SW cqZ)(FN:Binds K AB SW [])(FR:kZ K (.ref U1)=true)(FQ:mg "_law_two"=some (.ref U1))
  (AC:FnOk P w K mg base CX0 1 U2 AE UY XD)(FO:Binds K AE UY [])(FT:kZ K (.ref U2)=true)(FK:mg "_law_one"=some (.ref U2))
  (C8:FnOk P w K mg base CX0 1 C6 D5 BB MA)(E9:Binds K D5 BB [])(F1:kZ K (.ref C6)=true)(E8:mg "_law_with"=some (.ref C6))
  (L9:FnOk P w K mg base CX0 (n+2) E1 J8 CD (HP n))(M2:Binds K J8 CD [])(M1:kZ K (.ref E1)=true)(M0:mg "_law_value"=some (.ref E1))
  (HL:FnOk P w K mg base CX0 (n+2) P3 U0 CD (MG n))(AK:Binds K U0 CD [])(AU:kZ K (.ref P3)=true)(AV:mg "_law_into"=some (.ref P3)):
  FnOk P w K mg base CX0 (n+3) f fd UJ (YS (n+1)):=by
 refine F.ok sc_law_behind (λvs H Q E h=> ?_) (λcdv A outer s H vs Q E hr h=> ?_)
 ·obtain⟨S,D,most,t,ws,us,e,c,r,tv,gv,vl,bd,ct,rfl,_⟩:=h;rfl
 obtain⟨S,D,most,t,ws,us,e,c,r,tv,gv,vl,bd,ct,rfl,C,ht,hvl,nvl,hvs,hE,q⟩:=h;have nd:=sc_law_behind.nd;have hu:=hr.units0;have nf:=nZ;refine⟨_,(A6 (B8 (B0 (kEq (K:=K) hu) (ixE K w (pv 0) A3) A7 rfl) (A8 (B5 (C0 AD (hr.mono (by omega)) rfl FQ FR FN .nil D8 (A0 (ixE K w (pv 0) A3) (A0 (ixE K w (pv 1) A3) (A0 (ixE K w (pv 1) A3) A4)))))) B6)
   (A6 (B8 (B0 (kEq (K:=K) hu) (ixE K w (pv 0) A3) A7 rfl) (A8 (B5 (C0 AC (hr.mono (by omega)) rfl FK FT FO .nil D8 (A0 (ixE K w (pv 0) A3) (A0 (ixE K w (pv 1) A3) A4))))) B6)
   (A6 (B8 (B0 (kEq (K:=K) hu) (ixE K w (pv 0) A3) A7 rfl) (A8 (B5 (C0 L9 (hr.mono (by omega)) rfl M0 M1 M2 .nil D8 (A0 (ixE K w (pv 0) (B4 P7 A3 (D6 N5 rfl B.int_ CJ (A0 (QO (ixE K w (pv 1) A3)) A4)))) (A0 (pv 2) (A0 (pv 3) (A0 (pv 4) A4))))))) B6)
   (A6 (B8 (B0 (kEq (K:=K) hu) (ixE K w (pv 0) A3) A7 rfl) (A8 (B5 (C0 L9 (hr.mono (by omega)) rfl M0 M1 M2 .nil D8 (A0 (ixE K w (pv 0) A3) (A0 (C0 C8 (hr.mono (by omega)) rfl E8 F1 E9 .nil D8 (A0 (pv 2) (A0 (ixE K w (pv 0) A3) (A0 (ixE K w (pv 1) A3) A4)))) (A0 (pv 3) (A0 (pv 4) A4))))))) B6)
   (A6 (B8 (B0 (kEq (K:=K) hu) (ixE K w (pv 0) A3) A7 rfl) (A8 (B5 (C0 HL (hr.mono (by omega)) rfl AV AU AK .nil D8 (A0 (ixE K w (ixE K w (pv 1) A3) A3) (A0 (C0 C8 (hr.mono (by omega)) rfl E8 F1 E9 .nil D8 (A0 (ixE K w (ixE K w (pv 1) A3) A3) (A0 (ixE K w (ixE K w (pv 1) A3) A3) (A0 (ixE K w (pv 1) A3) A4)))) (A0 (pv 3) (A0 (pv 4) A4))))))) B6)
   (A6 (sS 5 nd (ixE K w (Y6 (cS (N:=EX) (sc:=B3 T2) (caps:=[0]) (ns:=["_law_term"])) rfl rfl rfl (LI (K:=K) (pv 3)) (λ_ _ _ _ _=>(Y5 (B0 (kEq (K:=K) hu) (ixE K w (pv 0) A3) (ixE K w (pv 1) A3) rfl))) (λ_ _ _ _ _=>(pv 0))) A3))
   (A8 (B5 (C0 HL (hr.mono (by omega)) rfl AV AU AK .nil D8 (A0 (ixE K w (pv 5) A3) (A0 (CB (K:=K) rfl B.zip_ rfl B.dict_ rfl (A0 (ixE K w (pv 5) A3) (A0 (pv 1) A4))) (A0 (pv 3) (A0 (pv 4) A4))))))))))))), ?_⟩
 have hS:=C.ls;have hS0:∀ {HH:Hp},Same H HH->Ls S HH:=λsm=>hS.same sm;obtain⟨a,rest,rfl,ha⟩:=ht.word;have hat:atI (V.str (tmW t)::rest) ((0:Nat):Int)=some (.str (tmW t)):=J0 rfl;refine stp λNx eN=> ?_;refine⟨_,rfl,(ixT ha hat (.inl ⟨rfl,_,rfl, ?_⟩))⟩;cases hE with
 | @two _ s x y o p1 p2 _ _ ho g1 g2=>
  cases ht with
  |two h _ _=>
  rw[ha]at h;cases h;cases hvs with
  |cons v1 hvs=>
  cases hvs with
  |cons v2 hvs=>
  cases hvs;exact ifT rfl ⟨_,rfl,(ixT ha rfl ⟨_,rfl,(ixL hvl rfl ⟨_,rfl,(ixL hvl rfl ⟨S,s,x,y,_,_,o,rfl,ho,v1,v2,g1,g2,hS,λu H' sm h=>q _ _ (Kl.of sm) (h.tl (sm _ _ C.c))⟩)⟩)⟩)⟩
 | @one _ s x o p1 _ _ ho g1=>
  cases ht with
  |one h _=>
  rw[ha]at h;cases h;cases hvs with
  |cons v1 hvs=>
  cases hvs;refine ifF nf ?_;show Nx _ _;subst eN;refine⟨_,rfl,(ixT ha rfl (.inl ⟨rfl,_,rfl,ifT rfl ?_⟩))⟩;exact⟨_,rfl,(ixT ha rfl ⟨_,rfl,(ixL hvl rfl ⟨S,s,x,_,o,rfl,ho,v1,hS,λu H' sm h=>q _ _ (Kl.of sm) (h.tl (sm _ _ C.c))⟩)⟩)⟩
 | @ite _ b x y z _ _ _ hE=>
  cases ht with
  | @ite _ _ _ _ t0 u1 u2 h _ h1 h2=>
  rw[ha]at h;cases h;cases hvs with
  |cons v1 hvs=>
  cases hvs;cases v1;refine ifF nf ?_;show Nx _ _;subst eN;refine⟨_,rfl,(ixT ha rfl (.inl ⟨rfl,_,rfl,ifF nf ?_⟩))⟩;refine⟨_,rfl,(ixT ha rfl (.inl ⟨rfl,_,rfl,ifT rfl ?_⟩))⟩;cases b with
  |true=>exact⟨_,rfl,_,rfl,(ixL hvl rfl ⟨_,rfl,.inl ⟨_,rfl,.inl ⟨_,_,rfl,rfl,(ixT ha rfl ⟨_,rfl,_,rfl,_,rfl,S,D,most,x,e,c,r,u1,gv,bd,ct,rfl,C,h1,hE,q⟩)⟩⟩⟩)⟩
  |false=>exact⟨_,rfl,_,rfl,(ixL hvl rfl ⟨_,rfl,.inl ⟨_,rfl,.inl ⟨_,_,rfl,rfl,(ixT ha rfl ⟨_,rfl,_,rfl,_,rfl,S,D,most,y,e,c,r,u2,gv,bd,ct,rfl,C,h2,hE,q⟩)⟩⟩⟩)⟩
 | @let_ _ z x y v _ _ _ hel hE=>
  cases ht with
  | @let_ _ _ _ _ u1 u2 h h1 h2=>
  rw[ha]at h;cases h;cases hvs with
  | @cons _ xv _ _ v1 hvs=>
  cases hvs;obtain⟨kvs,hb1,hb2⟩:=C.b;have hkl:=hb2.elen;refine ifF nf ?_;show Nx _ _;subst eN;refine⟨_,rfl,(ixT ha rfl (.inl ⟨rfl,_,rfl,ifF nf ?_⟩))⟩;refine⟨_,rfl,(ixT ha rfl (.inl ⟨rfl,_,rfl,ifF nf ?_⟩))⟩;refine⟨_,rfl,(ixT ha rfl (.inl ⟨rfl,_,rfl,ifT rfl ?_⟩))⟩;refine⟨_,rfl,(ixT ha rfl ⟨_,rfl,_,rfl,(ixT ha rfl ⟨_,rfl,(ixL hvl rfl ⟨bd,kvs,z,xv,rfl,hb1,by omega,λd1 H1 s1 hd0 hd1=> ?_⟩)⟩)⟩)⟩;have C1:=C.same s1;exact⟨_,rfl,_,rfl,S,D,most,y,.bind e z v,c,r,u2,gv,d1,ct,rfl,⟨⟨_,hd1,.bind (hb2.same s1) (v1.same s1)⟩,C1.g,C1.l,C1.c,C1.s,C1.ls,hS.no (Same.refl _) hd0⟩,h2.mono (A5 s1),hE,λu H' k h=>q _ _ ((Kl.of s1).trans k) h⟩
 | @do_ _ z b e' v x y _ _ _ hel hE=>
  cases ht with
  | @do_ _ _ _ u1 u2 h h1 h2=>
  rw[ha]at h;cases h;cases hvs with
  | @cons _ fv _ _ v1 hvs=>
  cases hvs with
  | @cons _ xv _ _ v2 hvs=>
  cases hvs;cases v1 with
  | @fn _ _ _ pf tb pq kvs hpf hb hpq npq hb2=>
  have hkl:=hb2.elen;refine ifF nf ?_;show Nx _ _;subst eN;refine⟨_,rfl,(ixT ha rfl (.inl ⟨rfl,_,rfl,ifF nf ?_⟩))⟩;refine⟨_,rfl,(ixT ha rfl (.inl ⟨rfl,_,rfl,ifF nf ?_⟩))⟩;refine⟨_,rfl,(ixT ha rfl (.inl ⟨rfl,_,rfl,ifF nf ?_⟩))⟩;refine⟨_,rfl,(ixT ha rfl (.inl ⟨rfl,_,rfl,ifT rfl ?_⟩))⟩;refine⟨_,rfl,(ixL hvl rfl (ixT hpf rfl ⟨_,rfl,(ixL hvl rfl (ixT hpf rfl ⟨_,rfl,(ixL hvl rfl (ixT hpf rfl ⟨_,rfl,(ixL hvl rfl ⟨pq,kvs,z,xv,rfl,hpq,by omega,λd1 H1 s1 hd0 hd1=> ?_⟩)⟩))⟩))⟩))⟩;have C1:=C.same s1;exact⟨_,rfl,_,rfl,S,D,most,b,.bind e' z v,c,r,tb,gv,d1,ct,rfl,⟨⟨_,hd1,.bind (hb2.same s1) (v2.same s1)⟩,C1.g,C1.l,C1.c,C1.s,C1.ls,hS.no (Same.refl _) hd0⟩,hb.mono (A5 s1),hE,λu H' k h=>q _ _ ((Kl.of s1).trans k) h⟩
 | @call _ z as _ dn _ _ _ hd hpl h4 hE=>
  cases ht with
  | @call _ _ _ pa us' h h1 h2=>
  rw[ha]at h;cases h;refine ifF nf ?_;show Nx _ _;subst eN;refine⟨_,rfl,(ixT ha rfl (.inl ⟨rfl,_,rfl,ifF nf ?_⟩))⟩;refine⟨_,rfl,(ixT ha rfl (.inl ⟨rfl,_,rfl,ifF nf ?_⟩))⟩;refine⟨_,rfl,(ixT ha rfl (.inl ⟨rfl,_,rfl,ifF nf ?_⟩))⟩;refine⟨_,rfl,(ixT ha rfl (.inl ⟨rfl,_,rfl,ifF nf ?_⟩))⟩;obtain⟨pg,gus,rfl,hpg,hgD⟩:=C.g;refine⟨_,rfl,pg,rfl,⟨gus,SqT.of hpg⟩,IP (E:=λdi u=>DnA H di u) hpg hgD C.l hd ?_ ?_⟩
  ·rintro x di ys Pv ⟨pb,pq,pt',rfl,g1,g2,g3⟩ hy hn;exact⟨_,rfl,(ixT g1 rfl ⟨_,rfl,(ixT ha rfl (.inl ⟨rfl,_,rfl,K6 (λc=>⟨_,rfl,hy (by have:=of_decide_eq_true c;injection this) _ ⟨pb,pq,pt',rfl,g1,g2,g3⟩⟩) (λc=>hn λe=>c (by rw[e];exact decide_eq_true rfl))⟩))⟩)⟩
  intro u rs hu1 r0 hr0;obtain⟨pb,pq,tb,rfl,g1,g2,g3⟩:=hu1;have s1:=A2 hr0 (.lst (.ref pb::rs));refine(ixL A1 (show atI (V.ref pb::rs) ((0:Nat):Int)=some (.ref pb)from J0 rfl) ?_);refine⟨_,rfl,(ixT (s1 _ _ g1) rfl ⟨_,rfl,(ixT (s1 _ _ g1) rfl ⟨_,rfl,pq,vl,dn.pars,us,rfl,.inr (SqT.of (s1 _ _ g2)),SqL.of (s1 _ _ hvl),by omega,λd1 hd1=> ?_⟩)⟩)⟩;have s2:=s1.trans (A2 hd1 (.dK (R0 [] (DE dn.pars us))));have C1:=C.same s2;exact⟨_,rfl,_,rfl,S,D,most,dn.body,env dn.pars ws,c,r,tb,.ref pg,d1,ct,rfl,⟨⟨_,A1,LA.env .none (hvs.imp λ_ _ h=>h.same s2)⟩,C1.g,C1.l,C1.c,C1.s,C1.ls,(hS0 s1).no (Same.refl _) hd1⟩,g3.mono (A5 s2),hE,λu H' k h=>q _ _ ((Kl.of s2).trans k) h⟩
end
noncomputable abbrev X8:Stmt:=BV.top 60
noncomputable abbrev IE:List Str:=["_law_found","_law_due"]
theorem sc_law_same:FnScope IE QC (B3 X8):=fS
theorem XU{K:FZ}:kitOne K (.type "int") (.type "bool")=some false:=by rfl
theorem VJ{K:FZ}:kitOne K (.type "bool") (.type "bool")=some true:=by rfl
theorem YF{K:FZ}:kitOne K (.type "list") (.type "list")=some true:=by rfl
theorem VI{K:FZ}:kitOne K (.type "int") (.type "list")=some false:=by rfl
theorem YX{K:FZ}:kitOne K (.type "bool") (.type "list")=some false:=by rfl
theorem YZ{K:FZ}:kitOne K (.type "str") (.type "bool")=some false:=by rfl
theorem ZD{K:FZ}:kitOne K (.type "str") (.type "list")=some false:=by rfl
noncomputable def Sm(H:Hp)(x:Vl)(u v:V):Prop:=PA' H x (.inl u)/\∃S,L1 S H x v
theorem Sm.same{H H':Hp}{x:Vl}{u v:V}(h:Sm H x u v)(s:Same H H'):Sm H' x u v:=⟨h.1.same s,let⟨S,a⟩:=h.2;⟨S,a.same s⟩⟩
theorem b1Z:∀x:Vl,1<=sz2 false x
 | .lst _=>le_add_right _ _
 | .cons _ _| .int _| .bl _| .fn _ _ _| .nil| .bind _ _ _=>Nat.le_refl 1
theorem RE{S:Addr->Prop}{H:Hp}:∀ {r:Vl} {us vs:List V},PA' H r (.inr us)->LA S H r (.inr (.inl vs))->us.length=vs.length/\us.length<=sz2 true r/\∀(i:Nat) u v,us[i]? =some u->vs[i]? =some v->∃x,Sm H x u v/\dv x<=dv r/\sz2 false x<=sz2 true r
 |_,_,_,.nil,.nil=>⟨rfl,zero_le _,λi u v h _=>by simp at h⟩
 |_,_,_,.cons (a:=a) (r:=r) h1 h2,.cons g1 g2=>by
  obtain⟨e,el,ih⟩:=RE h2 g2;have h0:=b1Z a;have es:sz2 true (.cons a r)=sz2 false a+sz2 true r:=rfl;refine⟨by simp only[length_cons,e],by simp only[length_cons];omega,λi u v hu hv=> ?_⟩;cases i with
  |zero=>cases hu;cases hv;exact⟨a,⟨h1,S,g1⟩,Nat.le_max_left _ _,by omega⟩
  |succ i=>
   obtain⟨x,y1,y2,y3⟩:=ih i u v (by simpa using hu) (by simpa using hv);exact⟨x,y1,Nat.le_trans y2 (Nat.le_max_right _ _),by omega⟩
section
variable{P:Program}{w:World}{K:FZ}{mg:Str->Option Value}{base:Heap}{f AL:Addr}{fd DQ:FuncData}
inductive spSmW(n:Nat)(vs:List V)(H:Hp)(Q:VK):Prop
 |mk:∀(u v:V),(vs=[u,v])->(((1<=n/\∃z:Str,u=.str z/\v=.str z)\/∃x:Vl,Sm H x u v/\dv x<n/\sz2 false x<=400000))->(∀H',Same H H'->Q (.bl true) H')->spSmW n vs H Q
noncomputable def aeZ(n:Nat):Sp:=λvs H Q _=>spSmW n vs H Q
theorem QG{n:Nat}(F:Fun K "_law_same" "_law_same" X8 f fd)(B:NoL mg)
  (X6:FnOk P w K mg base CX0 (n+1) AL DQ QC (aeZ n))(AM:Binds K DQ QC [])(AH:kZ K (.ref AL)=true)(AI:mg "_law_same"=some (.ref AL)):
  FnOk P w K mg base CX0 (n+2) f fd QC (aeZ (n+1)):=by
 refine F.ok sc_law_same (λvs H Q E h=> ?_) (λcdv A outer s H vs Q E hr h=> ?_)
 ·obtain⟨u,v,rfl,_⟩:=h;rfl
 obtain⟨u,v,rfl,hh,q⟩:=h;have nd:=sc_law_same.nd;have hu:=hr.units0;have nf:=nZ;refine⟨_,(A6 (B8 (Y9 (K:=K) (O0 (IH (K:=K)) rfl B.isinstance_ N7 (A0 (pv 1) (A0 (BF (v:=.ty "list") rfl B.list_ V6 rfl) A4))) (λ_=>rfl)) (A6 (E6 (B8 (PW.pt (BX (YC (Y9 (K:=K) (O0 (IH (K:=K)) rfl B.isinstance_ N7 (A0 (pv 0) (A0 (BF (v:=.ty "list") rfl B.list_ V6 rfl) A4))) (λ_=>rfl))) (CG (B0 (kNe (K:=K) hu) (kL K B.len_ (pv 0)) (kL K B.len_ (pv 1)) rfl)))) (A8 (B5 VY)) B6))
   (A8 (B5 (O0 (cDZ (K:=K) rfl) rfl B.all_ blZ (A0 (MZ (CompScope2.mk (N:=IE) (sc:=B3 X8) (caps:=[]) (ns:=[]) (by decide +kernel) rfl (by decide +kernel) rfl rfl (by decide +kernel) rfl (by decide +kernel) (by decide +kernel)) rfl rfl rfl (ZQ false false (K:=K) rfl B.zip_ (A0 (pv 0) (A0 (pv 1) A4))) (λ_ _ _ _ _=>T4) (λ_ _ _ _ _=>(C0 X6 (hr.mono (by omega)) rfl AI AH AM .nil D8 (A0 (pv 0) (A0 (pv 1) A4))))) A4))))) B6)
   (A6 (E6 (B8 (PW.pt (BX (B0 (kNe (K:=K) hu) (O0 (IH (K:=K)) rfl B.isinstance_ N7 (A0 (pv 1) (A0 (BF (v:=.ty "bool") rfl B.bool_ RP rfl) A4))) (O0 (IH (K:=K)) rfl B.isinstance_ N7 (A0 (pv 0) (A0 (BF (v:=.ty "bool") rfl B.bool_ RP rfl) A4))) rfl) (CG (Y9 (K:=K) (O0 (IH (K:=K)) rfl B.isinstance_ N7 (A0 (pv 0) (A0 (BF (v:=.ty "list") rfl B.list_ V6 rfl) A4))) (λ_=>rfl))))) (A8 (B5 VY)) B6))
   (A8 (B5 (M9 (kEq (K:=K) hu) (pv 0) (pv 1) rfl))))), ?_⟩
 rcases hh with⟨_,z,rfl,rfl⟩|⟨x,⟨hx,S,hy⟩,hd,hz⟩
 ·refine⟨_,rfl,_,_,_,_,rfl,.str _,ZD,_,rfl,ifF nf ?_⟩;refine K5 ⟨_,rfl,_,_,_,_,rfl,.str _,YZ,_,rfl,_,_,_,_,rfl,.str _,YZ,.inl ⟨rfl,_,rfl,ifF (by decide) ⟨_,rfl,_,_,_,_,rfl,.str _,ZD,_,rfl,ifF nf ?_⟩⟩⟩;refine⟨_,rfl,_,rfl,.inl ⟨rfl, ?_⟩⟩;rw[decide_eq_true rfl];exact q _ (Same.refl _)
 cases hx with
 |int=>
  cases hy;refine⟨_,rfl,_,_,_,_,rfl,.int _,VI,_,rfl,ifF nf ?_⟩;refine K5 ⟨_,rfl,_,_,_,_,rfl,.int _,XU,_,rfl,_,_,_,_,rfl,.int _,XU,.inl ⟨rfl,_,rfl,ifF (by decide) ⟨_,rfl,_,_,_,_,rfl,.int _,VI,_,rfl,ifF nf ?_⟩⟩⟩;refine⟨_,rfl,_,rfl,.inl ⟨rfl, ?_⟩⟩;rw[decide_eq_true rfl];exact q _ (Same.refl _)
 |bl=>
  cases hy;refine⟨_,rfl,_,_,_,_,rfl,.bl _,YX,_,rfl,ifF nf ?_⟩;refine K5 ⟨_,rfl,_,_,_,_,rfl,.bl _,VJ,_,rfl,_,_,_,_,rfl,.bl _,VJ,.inl ⟨rfl,_,rfl,ifF (by decide) ⟨_,rfl,_,_,_,_,rfl,.bl _,YX,_,rfl,ifF nf ?_⟩⟩⟩;refine⟨_,rfl,_,rfl,.inl ⟨rfl, ?_⟩⟩;rw[decide_eq_true rfl];exact q _ (Same.refl _)
 | @lst r p us hp hr'=>
  cases hy with
  | @lst _ p2 vs hp2 _ hy=>
  obtain⟨el,hel,hrow⟩:=RE hr' hy;have hd:dv r+1<n+1:=hd;have hz:1+sz2 true r<=400000:=hz;have z4:(400000:Nat)<=sizeLine:=by decide
  refine⟨_,rfl,_,_,_,_,rfl,.lst hp2,YF,_,rfl,ifT rfl ?_⟩;refine K5 ⟨_,rfl,_,_,_,_,rfl,.lst hp,YF,_,rfl,ifF nf ⟨_,rfl,_,_,rfl,.inl ⟨_,SqL.of hp,rfl⟩,_,rfl,_,_,rfl,.inl ⟨_,SqL.of hp2,rfl⟩,.inl ⟨rfl,_,rfl,ifF (by rw[el];simp) ?_⟩⟩⟩;refine⟨_,rfl,_,rfl,p,p2,us,vs,rfl,SqL.of hp,SqL.of hp2,ZB el (λi zs H'=>Same H H'/\zs=List.replicate i (V.bl true)) ⟨Same.refl _,rfl⟩ ?_ ?_ ?_⟩
  ·rintro i zs H' hi ⟨s',rfl⟩;exact⟨SqL.of (s' _ _ hp),SqL.of (s' _ _ hp2),by rw[length_replicate];omega⟩
  ·rintro i x y zs H' T hx hy ⟨s',rfl⟩ hT;refine Y0 ?_;have s2:=s'.trans (A2 hT (.tup [x,y]));obtain⟨x',h1,h2,h3⟩:=hrow i x y hx hy;refine⟨_,rfl,_,rfl,x,y,rfl,.inr ⟨x',h1.same s2,by omega,by omega⟩,λH3 s3=>⟨s2.trans s3, ?_⟩⟩;rw[List.replicate_succ']
  ·rintro zs H' ⟨s',rfl⟩ D hD;refine⟨D,List.replicate us.length true,rfl,SqL.of ?_, ?_⟩
   ·rw[A1,List.map_replicate]
   ·have e:(List.replicate us.length true).all id=true:=by simp
    rw[e];exact q _ (s'.trans (A2 hD _))
theorem ok_law_same(F:Fun K "_law_same" "_law_same" X8 f fd)(B:NoL mg)(AM:Binds K fd QC [])(AH:kZ K (.ref f)=true)(AI:mg "_law_same"=some (.ref f)):∀n,FnOk P w K mg base CX0 (n+1) f fd QC (aeZ n)
 |0=>CL λ_ _ _ _ ⟨_,_,_,h,_⟩=>h.elim (λh=>absurd h.1 (Nat.not_succ_le_zero _)) λ⟨_,_,h,_⟩=>absurd h (Nat.not_lt_zero _)
 |n+1=>QG F B (ok_law_same F B AM AH AI n) AM AH AI
end
end RG
namespace RG
open PySem L2 BV
section
variable{P:Program}{w:World}{K:FZ}{mg:Str->Option Value}{base:Heap}{E1 N2 N3 P3 U1 U2 C6:Addr}{J8 P5 P4 U0 AB AE D5:FuncData}
theorem ok_ladder(F_law_value:Fun K "_law_value" "_law_value" Y8 E1 J8)(F_law_values:Fun K "_law_values" "_law_values" X0 N2 P5)(F_law_behind:Fun K "_law_behind" "_law_behind" T2 N3 P4)(F_law_into:Fun K "_law_into" "_law_into" BD P3 U0)(B:NoL mg)
  (AD:FnOk P w K mg base CX0 1 U1 AB SW cqZ)(FN:Binds K AB SW [])(FR:kZ K (.ref U1)=true)(FQ:mg "_law_two"=some (.ref U1))
  (AC:FnOk P w K mg base CX0 1 U2 AE UY XD)(FO:Binds K AE UY [])(FT:kZ K (.ref U2)=true)(FK:mg "_law_one"=some (.ref U2))
  (C8:FnOk P w K mg base CX0 1 C6 D5 BB MA)(E9:Binds K D5 BB [])(F1:kZ K (.ref C6)=true)(E8:mg "_law_with"=some (.ref C6))
  (M2:Binds K J8 CD [])(M1:kZ K (.ref E1)=true)(M0:mg "_law_value"=some (.ref E1))
  (AR:Binds K P5 SR [])(AJ:kZ K (.ref N2)=true)(AQ:mg "_law_values"=some (.ref N2))
  (AO:Binds K P4 UJ [])(AW:kZ K (.ref N3)=true)(AX:mg "_law_behind"=some (.ref N3))
  (AK:Binds K U0 CD [])(AU:kZ K (.ref P3)=true)(AV:mg "_law_into"=some (.ref P3))(n:Nat):
  FnOk P w K mg base CX0 (n+2) E1 J8 CD (HP n)/\FnOk P w K mg base CX0 (n+2) N2 P5 SR (QV n)/\FnOk P w K mg base CX0 (n+2) N3 P4 UJ (YS n)/\FnOk P w K mg base CX0 (n+2) P3 U0 CD (MG n):=by
 induction n with
 |zero=>exact⟨(CL λ_ _ _ _ ⟨_,_,_,_,_,_,_,_,_,_,_,_,_,_,h,_⟩=>nomatch h),(CL λ_ _ _ _ ⟨_,_,_,_,_,_,_,_,_,_,_,_,_,_,_,_,_,_,h,_⟩=>nomatch h),(CL λ_ _ _ _ ⟨_,_,_,_,_,_,_,_,_,_,_,_,_,_,_,_,_,_,_,_,h,_⟩=>nomatch h),(CL λ_ _ _ _ ⟨_,_,_,_,_,_,_,_,_,_,_,_,_,_,h,_⟩=>nomatch h)⟩
 |succ n ih=>
  obtain⟨i1,i2,i3,i4⟩:=ih;exact⟨LV F_law_value B i2 AR AJ AQ i3 AO AW AX,JM F_law_values i1 M2 M1 M0,JN F_law_behind B AD FN FR FQ AC FO FT FK C8 E9 F1 E8 i1 M2 M1 M0 i4 AK AU AV,MW F_law_into i1 M2 M1 M0⟩
end
inductive Fin:Rz->Res->Prop
 |val {v c}:dv v<=2->sz2 false v<=400000->Fin (.val v c) (.value v)
 |ref {w}:Fin (.fail (.ref w)) (.refd w)
 |dry:Fin (.fail .dry) .dry
theorem Fin.ne{r:Rz}{R:Res}(h:Fin r R):∀s,R≠ .st s:=by cases h<;>exact λ_ z=>nomatch z
theorem YO{F:Fs}{N:Nat}:∀ {is:List Int} {n:Nat},is.length=n->(∀x∈is, -GR<=x/\x<=GR)->All2 (W1 F N) (is.map Vl.int) (List.replicate n Kd.num)
 | [],0,_,_=> .nil
 |a::r,n+1,hl,h=> .cons (.int (h a (mem_cons_self ..)).1 (h a (mem_cons_self ..)).2) (YO (by simpa using hl) λx hx=>h x (mem_cons_of_mem _ hx))
theorem bkZ{F:Fs}{D:List Dn}{m:Nat}{kl:Kd}{b:Tm}{e:Vl}{g:Cx}(C:Cm F D m kl)(hm:m<=6)(hb:Ty F g b (.t kl))(hB:Bb b)(he:ETy F 4 e g):∃r R,Ev D m 273 (.tm b e) 0 r/\Leads D m ⟨.term b e,[],0,1⟩ R/\Fin r R:=by
 have h1:=hB.d;have h2:=hB.w;obtain⟨r,x1,x2,x3⟩:=bpZ C m hb 4 e 0 he (zero_le _) (by omega) (by omega) (Nat.le_refl _);have x1:=x1.le (by omega:2*dt b+39*m+1<=273);have l:=x3 [] 1 .nil (by simp only[length_nil];omega) (by decide)
 match r,x1,x2,l with
 | .val v c,x1,⟨a1,a2,a3⟩,l=>
  have a5:W1 F 500 v kl:=a3.mono (by omega);obtain⟨p1,p2,p3⟩:=FH C.k a5 (Nat.le_refl _);exact⟨_,_,x1,.trans l (.fin (IJ C a5 .nil (zero_le _)) .value λ_ z=>nomatch z),.val p3 p2⟩
 | .fail (.ref w),x1,_,l=>exact⟨_,_,x1,l,.ref⟩
 | .fail .dry,x1,_,l=>exact⟨_,_,x1,l,.dry⟩
theorem QE{ns:List Int}(h:∀m∈ns,Builtin.Int.intBits m<=2^20)(i:Int):Builtin.Int.intBits (F3 ns i)<=2^20:=by
 unfold F3;cases e:ns[i.toNat]? with
 |none=>show Builtin.Int.intBits 0<=2^20;decide
 |some m=>exact h m (mem_of_getElem? e)
end RG
namespace RG
open PySem L2 BV
seal PE PT PW PA PS PSs PTs PI L2.PG PGs PO
noncomputable abbrev DH:Stmt:=BV.top 61
noncomputable abbrev aMZ:List Str:=["_law_script","_law_program_here","_law_main_here","_law_numbers","_law_k","_law_cell_here","_law_most","_law_due","_law_handed","_law_found"]
theorem sc_law:FnScope aMZ ["_law_script"] (B3 DH):=fS
theorem p9:((48271:Int)^(9:Int).toNat).natAbs<2^160:=by decide +kernel
theorem aRZ:(10:Int)^(40:Int).toNat=GR:=by decide +kernel
theorem VV:(0:Int)<2*(10:Int)^(40:Int).toNat+1:=by rw[aRZ];decide
theorem crZ(y:Int): -GR<=y%(2*(10:Int)^(40:Int).toNat+1) - (10:Int)^(40:Int).toNat/\y%(2*(10:Int)^(40:Int).toNat+1) - (10:Int)^(40:Int).toNat<=GR:=by
 have g1:=Int.emod_nonneg y (Int.ne_of_gt VV);have g2:=Int.emod_lt_of_pos y VV;rw[aRZ]at g1 g2⊢;omega
theorem c4Z{a b c:Int}{R:Int->Prop}(ha:R a)(hb:R b):∃x,atI [V.int a,.int b] (c%2)=some (.int x)/\R x:=by
 have g5:=Int.emod_nonneg c (by decide:(2:Int)≠0);have g6:=Int.emod_lt_of_pos c (by decide:(0:Int)<2);have h:c%2=0\/c%2=1:=by omega
 rcases h with h|h<;>rw[h]
 ·exact⟨_,rfl,ha⟩
 ·exact⟨_,rfl,hb⟩
section
variable{P:Program}{w:World}{K:FZ}{mg:Str->Option Value}{base:Heap}{f F2 ZJ E1 baZ AL:Addr}{fd K2 ZG J8 biZ DQ:FuncData}
inductive spLawW(K:FZ)(vs:List V)(H:Hp)(Q:VK):Prop
 |mk:∀(sc:Addr) (ns:List Int),(vs=[.ref sc])->(ScrAt K H sc ns)->(ns.length<=63)->((∀m∈ns,Builtin.Int.intBits m<=2^20))->(∀H',Q (.bl true) H')->spLawW K vs H Q
noncomputable def RM(K:FZ):Sp:=λvs H Q _=>spLawW K vs H Q
theorem ok_law(F:Fun K "law" "law" DH f fd)(B:NoL mg)
  (B7:Cn P w K mg base CX0 1 "_law_cell_at" IN (Z1 K))
  (Z4:Cn P w K mg base CX0 32 "_law_program" bzZ (KF K))
  (L9:Cn P w K mg base CX0 275 "_law_value" CD (HP 273))
  (DW:Cn P w K mg base CX0 7 "reckoned" cnZ XC)
  (X6:Cn P w K mg base CX0 4 "_law_same" QC (aeZ 3)):
  FnOk P w K mg base CX0 276 f fd ["_law_script"] (RM K):=by
 refine F.ok sc_law (λvs H Q E h=> ?_) (λcdv A outer s H vs Q E hr h=> ?_)
 ·obtain⟨sc,ns,rfl,_⟩:=h;rfl
 obtain⟨sc,ns,rfl,hsc,hn63,hbits,q⟩:=h;have nd:=sc_law.nd;have hu:=hr.units0;have nf:=nZ;refine⟨_,(A6 (sS 1 nd (cC Z4 hr (A0 (pv 0) (A0 A3 A4))))
   (A6 (sS 2 nd (ixE K w (Y6 (cS (N:=aMZ) (sc:=B3 DH) (caps:=[]) (ns:=[])) rfl rfl rfl (LI (K:=K) (pv 1)) (λ_ _ _ _ _=>(Y5 (B0 (kEq (K:=K) hu) (ixE K w (pv 0) A3) A7 rfl))) (λ_ _ _ _ _=>(pv 0))) A3))
   (A6 (sS 3 nd (E5 A4))
   (A6 (E6 (GD PassesOwn.never rfl (P6 rfl B.range_ (A0 (kL K B.len_ (ixE K w (pv 2) A3)) A4)) (gN 4 nd) (A6 (sS 5 nd (cC B7 hr (A0 (pv 0) (A0 (B4 P7 A3 (pv 4)) A4))))
   (A8 (X1 (aP K (pv 3) (ixE K w (E5 (A0 (B4 U5 (B4 C5 (B4 B9 (pv 5) A3) A3) A3) (A0 (B4 U5 (B4 C5 (B4 P7 (B4 Q5 (pv 5) (B4 IZ A3 A3)) (pv 4)) (B4 P7 (B4 Q5 A3 (B4 IZ A3 A3)) A3)) (B4 IZ A3 A3)) A4))) (B4 C5 (pv 5) A3))))))))
   (A6 (sS 6 nd (B4 C5 (cC B7 hr (A0 (pv 0) (A0 A3 A4))) A3))
   (A6 (sS 7 nd (cC L9 hr (A0 (ixE K w (pv 2) A3) (A0 (CB (K:=K) rfl B.zip_ rfl B.dict_ rfl (A0 (ixE K w (pv 2) A3) (A0 (pv 3) A4))) (A0 (pv 1) (A0 (E5 (A0 A3 (A0 (pv 6) A4))) A4))))))
   (A6 (sS 8 nd (D6 (GJ (K:=K)) rfl B.list_ V6 (A0 (pv 3) A4)))
   (A6 (sS 9 nd (cC DW hr (A0 (pv 1) (A0 (pv 8) (A0 (pv 6) A4)))))
   (A6 (E6 (B8 (PW.pt (BX (YC (Y9 (K:=K) (O0 (IH (K:=K)) rfl B.isinstance_ N7 (A0 (pv 9) (A0 (BF (v:=.ty "tuple") rfl B.tuple_ T7 rfl) A4))) (λ_=>rfl))) (BX (B0 (kNe (K:=K) hu) (kL K B.len_ (pv 9)) (kL K B.len_ (pv 7)) rfl) (BX (B0 (kNe (K:=K) hu) (pv 8) (pv 3) rfl) (CG (B0 (kNe (K:=K) hu) (ixE K w (pv 9) A3) (ixE K w (pv 7) A3) rfl)))))) (A8 (B5 VY)) B6))
   (A8 (B5 (aKZ (M9 (kEq (K:=K) hu) (kL K B.len_ (pv 7)) A3 rfl) (OR (cC X6 hr (A0 (ixE K w (pv 9) A3) (A0 (ixE K w (pv 7) A3) A4)))))))))))))))), ?_⟩
 have sc2:∀ {HH:Hp},Same H HH->ScrAt K HH sc ns:=λ{HH} sm=>hsc.imp (λ⟨o,h⟩=>⟨o,sm _ _ h⟩) id;refine stp λNx eN=> ?_;refine⟨_,rfl,sc,ns,24,rfl,hsc,hn63,by decide,by decide,λD Fs' n km gv H1 s1 hpg hdty hD3 hmain hkp=> ?_⟩;show Nx _ _;subst eN;obtain⟨hn4,dn,g,hfind,hpl,hbody,hg,hB⟩:=hdty.of _ _ _ hmain;rw[length_replicate]at hn4 hpl;have hpg0:=hpg;obtain⟨pg,gus,rfl,hpgt,hgD⟩:=hpg;refine stp λNx eN=> ?_;refine⟨_,rfl,pg,rfl,⟨gus,SqT.of hpgt⟩,IP (E:=λdi u=>DnA H1 di u) hpgt hgD (by omega) hfind ?_ ?_⟩
 ·rintro x di ys Pv hdn hy hn;obtain⟨pa,pq,pt',rfl,h1,h2,h3⟩:=hdn;exact⟨_,rfl,(ixT h1 rfl (.inl ⟨rfl,_,rfl,K6 (λc=>⟨_,rfl,hy (by have:=of_decide_eq_true c;injection this) _ ⟨pa,pq,pt',rfl,h1,h2,h3⟩⟩) (λc=>hn λe=>c (by rw[e];exact decide_eq_true rfl))⟩))⟩
 rintro x rs ⟨pa,pq,pt,rfl,hpa,hpq,hpt⟩ r1 hr1;have s2:=A2 hr1 (.lst (.ref pa::rs));refine(ixL A1 (show atI (V.ref pa::rs) ((0:Nat):Int)=some (.ref pa)from J0 rfl) ?_);show Nx _ _;subst eN;refine stp λNx eN=> ?_;refine⟨zero_le _,λnl hnl=> ?_⟩;show Nx _ _;subst eN;have s3:=A2 hnl (.lst []);have s23:=s2.trans s3;have s13:=s1.trans s23;have hpa3:=s23 _ _ hpa;have hpq3:=s23 _ _ hpq;have hpt3:=hpt.mono (A5 s23);have hpg3:=hpg0.mono (A5 s23);have hnl3:(upd (upd H1 r1 (.lst (.ref pa::rs))) nl (.lst [])) nl=some (.lst []):=A1;show P9 _ _ _ [some (.ref sc),some (.ref pg),some (.ref pa),some (.ref nl),none,none,none,none,none,none] (upd (upd H1 r1 (.lst (.ref pa::rs))) nl (.lst []));generalize upd (upd H1 r1 (.lst (.ref pa::rs))) nl (.lst [])=H3 at s13 hpa3 hpq3 hpt3 hpg3 hnl3⊢;refine stp λNx eN=> ?_;have z9:(9:Nat)<=sizeLine:=by decide
 have npa:pa≠nl:=λe=>by rw[e,hnl3]at hpa3;cases hpa3
 refine⟨fun σ' H'=>∃(y4 y5:Option V) (is:List Int),σ'=[some (.ref sc),some (.ref pg),some (.ref pa),some (.ref nl),y4,y5,none,none,none,none]/\(∀b o,H3 b=some o->b≠nl->H' b=some o)/\H' nl=some (.lst (is.map V.int))/\is.length=n/\∀x∈is, -GR<=x/\x<=GR, ?_, ?_⟩
 ·refine⟨_,rfl,(ixT hpa3 rfl ⟨_,_,rfl,.inr ⟨_,SqT.of hpq3,rfl⟩,_,rfl,by rw[length_map];omega,by rw[length_map];omega, ?_⟩)⟩;rw[length_map,hpl];refine KO (n:=n) (λi σ' H'=>∃(y4 y5:Option V) (is:List Int),σ'=[some (.ref sc),some (.ref pg),some (.ref pa),some (.ref nl),y4,y5,none,none,none,none]/\(∀b o,H3 b=some o->b≠nl->H' b=some o)/\H' nl=some (.lst (is.map V.int))/\is.length=i/\∀x∈is, -GR<=x/\x<=GR) ⟨_,_,[],rfl,λ_ _ h _=>h,hnl3,rfl,λx hx=>nomatch hx⟩ ?_ λ_ _ h=>h;rintro i _ H4 hi ⟨y4,y5,is,rfl,kk,hn4',hil,hib⟩;have hsc4:ScrAt K H4 sc ns:=(sc2 s13).imp (λ⟨o,h⟩=>⟨o,kk _ _ h (W2 h hnl3 (by intro z;cases z))⟩) id;refine⟨_,rfl,_,rfl,.inl ⟨_,_,rfl,rfl,sc,ns,_,rfl,hsc4.sq,by omega, ?_⟩⟩;have hcb:=QE hbits (6+(0+(i:Int)));generalize F3 ns (6+(0+(i:Int)))=c at hcb;have hmul:IntMulOk c ((48271:Int)^(9:Int).toNat):=IntMulOk.of_bits hcb (Nat.le_trans (intBits_le_iff.mpr p9) (by decide));have g3:=Int.emod_nonneg (c.fdiv 2) (by decide:(21:Int)≠0);have g4:=Int.emod_lt_of_pos (c.fdiv 2) (by decide:(0:Int)<21);have gr:(10:Int)<=GR:=by decide
  obtain⟨x,hx,hxb⟩:=c4Z (c:=c) (R:=λx=> -GR<=x/\x<=GR) (a:=c.fdiv 2%21 - 10) ⟨by omega,by omega⟩ (crZ (c*(48271:Int)^(9:Int).toNat+(0+(i:Int))));refine⟨_,rfl,.inl ⟨rfl,_,SqL.of hn4'⟩,_,rfl,_,_,rfl,rfl,lg (by decide) (by decide),_,_,rfl,rfl,(by decide:(0:Int)<21),_,_,rfl,rfl,_,rfl,_,_,rfl,rfl,⟨by decide,by decide,by decide⟩,_,_,rfl,rfl,hmul,_,rfl,.inl ⟨_,_,rfl,rfl,_,_,rfl,rfl,⟨by decide,by decide,by decide⟩,_,_,rfl,rfl,ml ⟨by decide,by decide⟩,.inl ⟨_,_,rfl,rfl,_,_,rfl,rfl,VV,_,_,rfl,rfl,⟨by decide,by decide,by decide⟩,_,_,rfl,rfl,D1,λl hl=>⟨_,rfl,_,_,rfl,rfl,(by decide:(0:Int)<2),(ixL A1 hx ⟨nl,_,_,rfl,rfl,A2 hl _ _ _ hn4',by rw[length_map];omega, ?_⟩)⟩⟩⟩⟩;have nlc:nl≠l:=λe=>by rw[e,hl]at hn4';cases hn4'
  refine⟨_,_,is++ [x],rfl,λb o h nb=>by rw[C4 nb];exact A2 hl _ _ _ (kk _ _ h nb),by rw[A1,map_append];rfl,by rw[length_append,hil];rfl,λy hy=> ?_⟩;rcases mem_append.mp hy with hy|hy
  ·exact hib y hy
  ·rw[sZ hy];exact hxb
 rintro _ H4 ⟨y4,y5,is,rfl,kk,hnl4,hil,hib⟩;show Nx _ _;subst eN;have mo4:Mo H3 H4:=λb xs h=>kk b _ h (W2 h hnl3 (by intro z;cases z));have hpa4:=mo4 _ _ hpa3;have hpq4:=mo4 _ _ hpq3;have hpt4:=hpt3.mono mo4;have hpg4:=hpg3.mono mo4;have hsc4:ScrAt K H4 sc ns:=(sc2 s13).imp (λ⟨o,h⟩=>⟨o,kk _ _ h (W2 h hnl3 (by intro z;cases z))⟩) id;clear hpa hpq hpt hpa3 hpq3 hpt3 hpg3 mo4 kk hnl3 s13 s23 s2 s3 hr1 hnl hgD hpgt;have c0:=Int.emod_nonneg (F3 ns 4) (by decide:(7:Int)≠0);have c1:=Int.emod_lt_of_pos (F3 ns 4) (by decide:(0:Int)<7);obtain⟨m,em,hm⟩:∃m:Nat,F3 ns 4%7=(m:Int)/\m<=6:=⟨(F3 ns 4%7).toNat,by omega,by omega⟩;refine stp λNx eN=> ?_;refine⟨_,rfl,sc,ns,4,rfl,hsc4.sq,by decide,_,_,rfl,rfl,(by decide:(0:Int)<7), ?_⟩;rw[em];show Nx _ _;subst eN;obtain⟨xs,hxs⟩:∃xs:List Vl,xs=is.map Vl.int:=⟨_,rfl⟩;have hxl:xs.length=n:=by rw[hxs,length_map,hil]
 have C:Cm Fs' D m km:=⟨hdty,hkp,by omega⟩;have hE4:ETy Fs' 4 (env dn.pars xs) g:=⟨_,W.env (ks:=List.replicate n Kd.num) .none (by show 0+xs.length<=4;omega) (by rw[hpl,length_replicate]) (by rw[hxs];exact YO hil hib),λy k e=>by rw[append_nil];exact hg y k e⟩;obtain⟨r,R,hEv,hLd,hFin⟩:=bkZ C hm hbody hB hE4;have hxL:∀(S:Addr->Prop) (HH:Hp),All2 (L1 S HH) xs (is.map V.int):=λS HH=>by
  rw[hxs];clear hxs hxl hib hil hnl4 hE4 hEv hLd;induction is with
  |nil=>exact .nil
  |cons a r ih=>exact .cons .int ih
 have hxV:∀(HH:Hp),All2 (V1 HH) xs (is.map V.int):=λHH=>by
  rw[hxs];clear hxs hxl hib hil hnl4 hE4 hEv hLd hxL;induction is with
  |nil=>exact .nil
  |cons a r ih=>exact .cons .int ih
 refine stp λNx eN=> ?_;refine⟨_,rfl,(ixT hpa4 rfl ⟨_,rfl,(ixT hpa4 rfl ⟨_,rfl,pq,nl,dn.pars,is.map V.int,rfl,.inr (SqT.of hpq4),SqL.of hnl4,by omega,λd1 hd1=>⟨_,rfl,_,rfl,D1,λct hct=> ?_⟩⟩)⟩)⟩;have t1:=A2 hd1 (.dK (R0 [] (DE dn.pars (is.map V.int))));have t2:=A2 hct (.lst [.int 0,.int (m:Int)]);have t12:=t1.trans t2;have nct:nl≠ct:=λe=>by rw[e]at hnl4;rw[t1 _ _ hnl4]at hct;cases hct
 have ndc:d1≠ct:=λe=>by rw[<-e,A1]at hct;cases hct
 refine⟨λa=>a=ct,D,m,dn.body,env dn.pars xs,0,r,pt,.ref pg,d1,ct,rfl,⟨⟨_,t2 _ _ A1,LA.env .none (hxL _ _)⟩,hpg4.mono (A5 t12),by omega,A1,rfl,λa e=>by subst e;exact⟨_,A1⟩,ndc⟩,hpt4.mono (A5 t12),hEv,λu H7 k7 hT=> ?_⟩;show Nx _ _;subst eN;have mo7:Mo H4 H7:=λb ys h=>k7 b _ (t12 _ _ h) (W2 (t12 _ _ h) (show _=some (.lst _)from A1) (by intro z;cases z));have hnl7:H7 nl=some (.lst (is.map V.int)):=k7 _ _ (t12 _ _ hnl4) nct;have hpg7:=hpg4.mono mo7;refine stp λNx eN=> ?_;refine⟨_,rfl,nl,_,rfl,.inl (SqL.of hnl7),λhd hhd=> ?_⟩;show Nx _ _;subst eN;have t8:=A2 hhd (.lst (is.map V.int));refine stp λNx eN=> ?_;refine⟨_,rfl,_,rfl,_,rfl,D,dn,xs,is.map V.int,.ref pg,hd,(m:Int),R,rfl,hpg7.mono (A5 t8),by omega,hfind,A1,hxV _,by rw[hpl,hxl],by omega,hLd,hFin.ne,λv H9 s9 hv=> ?_⟩;show Nx _ _;subst eN;have s79:=t8.trans s9;have hnl9:=s79 _ _ hnl7;have hhd9:=s9 _ _ (show(upd H7 hd (.lst (is.map V.int))) hd=some (.lst (is.map V.int))from A1);have hpl9:(is.map V.int).all MK=true:=by
  rw[all_eq_true];intro x hx;obtain⟨z,_,rfl⟩:=mem_map.mp hx;rfl
 cases hFin with
 | @val x c hd2 hsz=>
  obtain⟨p7,xv,rfl,hp7,hL,_⟩:=hT;obtain⟨p9,uv,rfl,hp9,hP⟩:=hv;have hp79:=s79 _ _ hp7;refine K5 ⟨_,rfl,_,_,_,_,rfl,.tup hp9,IB,_,rfl,ifF nf ⟨_,rfl,_,_,rfl,.inr ⟨_,SqT.of hp9,rfl⟩,_,rfl,_,_,rfl,.inr ⟨_,SqT.of hp79,rfl⟩,.inl ⟨rfl,_,rfl,ifF (by simp) ⟨_,rfl,_,rfl,.inr ⟨hd,nl,_,rfl,rfl,SqL.of hhd9,SqL.of hnl9,hpl9,_,rfl,ifF nf ⟨_,rfl,(ixT hp9 rfl ⟨_,rfl,(ixT hp79 rfl (.inl ⟨rfl,_,rfl,ifF (by decide) ?_⟩))⟩)⟩⟩⟩⟩⟩⟩;refine⟨_,rfl,_,_,rfl,.inr ⟨_,SqT.of hp79,rfl⟩,.inl ⟨rfl,_,rfl,ifF (by simp) ?_⟩⟩;exact⟨_,rfl,(ixT hp9 rfl ⟨_,rfl,(ixT hp79 rfl ⟨uv,xv,rfl,.inr ⟨x,⟨hP,_,hL.same s79⟩,by omega,hsz⟩,λH' _=>q H'⟩)⟩)⟩
 |ref=>
  obtain⟨p7,rfl,hp7⟩:=hT;obtain⟨p9,rfl,hp9⟩:=hv;have hp79:=s79 _ _ hp7;refine K5 ⟨_,rfl,_,_,_,_,rfl,.tup hp9,IB,_,rfl,ifF nf ⟨_,rfl,_,_,rfl,.inr ⟨_,SqT.of hp9,rfl⟩,_,rfl,_,_,rfl,.inr ⟨_,SqT.of hp79,rfl⟩,.inl ⟨rfl,_,rfl,ifF (by simp) ⟨_,rfl,_,rfl,.inr ⟨hd,nl,_,rfl,rfl,SqL.of hhd9,SqL.of hnl9,hpl9,_,rfl,ifF nf ⟨_,rfl,(ixT hp9 rfl ⟨_,rfl,(ixT hp79 rfl (.inl ⟨rfl,_,rfl,ifF (by decide) ?_⟩))⟩)⟩⟩⟩⟩⟩⟩;refine⟨_,rfl,_,_,rfl,.inr ⟨_,SqT.of hp79,rfl⟩,.inl ⟨rfl,_,rfl,ifF (by simp) ?_⟩⟩;exact⟨_,rfl,(ixT hp9 rfl ⟨_,rfl,(ixT hp79 rfl ⟨_,_,rfl,.inl ⟨by decide,_,rfl,rfl⟩,λH' _=>q H'⟩)⟩)⟩
 |dry=>
  obtain⟨p7,rfl,hp7⟩:=hT;obtain⟨p9,rfl,hp9⟩:=hv;have hp79:=s79 _ _ hp7;refine K5 ⟨_,rfl,_,_,_,_,rfl,.tup hp9,IB,_,rfl,ifF nf ⟨_,rfl,_,_,rfl,.inr ⟨_,SqT.of hp9,rfl⟩,_,rfl,_,_,rfl,.inr ⟨_,SqT.of hp79,rfl⟩,.inl ⟨rfl,_,rfl,ifF (by simp) ⟨_,rfl,_,rfl,.inr ⟨hd,nl,_,rfl,rfl,SqL.of hhd9,SqL.of hnl9,hpl9,_,rfl,ifF nf ⟨_,rfl,(ixT hp9 rfl ⟨_,rfl,(ixT hp79 rfl (.inl ⟨rfl,_,rfl,ifF (by decide) ?_⟩))⟩)⟩⟩⟩⟩⟩⟩;exact⟨_,rfl,_,_,rfl,.inr ⟨_,SqT.of hp79,rfl⟩,.inl ⟨rfl,_,rfl,ifT rfl (q _)⟩⟩
end
end RG
namespace PySem.W.Fast
def tw2542449029085449184:=Nat
def tw6094442609129104526:=Nat
def tw1381488476498716453:=Nat
def tw2002492244830530791:=Nat
def tw18146643283426615261:=Nat
def tw7945524593079657845:=Nat
def tw7662032681019037517:=Nat
def tw12676399852076487179:=Nat
def tw12276562012322008006:=Nat
def tw2885450768592925133:=Nat
def tw10041155378802593527:=Nat
def tw5626854075044175733:=Nat
def tw6345109345779778761:=Nat
def tw16793195888642901315:=Nat
def tw10937071607320586667:=Nat
def tw6944397360838644597:=Nat
def tw862360854430773772:=Nat
def tw5835874394751156462:=Nat
def tw1207285581311809525:=Nat
def tw8616260320721054307:=Nat
def tw821395335056553795:=Nat
def tw3657325633060428804:=Nat
def tw3147598815207160663:=Nat
def tw7621166623324856441:=Nat
def tw7027902433018011808:=Nat
def tw1848313358303510385:=Nat
def tw5810948723986324675:=Nat
def tw13793688775732859606:=Nat
def tw13495404070921177575:=Nat
def tw1580087145171019011:=Nat
def tw4331846905529289058:=Nat
def tw1839597824187136387:=Nat
def tw11599767211243608105:=Nat
def tw10952625394488357214:=Nat
def tw13875922906121226789:=Nat
def tw9680321321531882483:=Nat
def tw7463810294361689301:=Nat
def tw9851319223718010990:=Nat
def tw2445518274785042120:=Nat
def tw9655103906796121372:=Nat
def tw16321138595981643916:=Nat
def tw5352491572535863053:=Nat
def tw15362297770896320198:=Nat
def tw5158196607976175132:=Nat
def tw12562509331564325072:=Nat
def tw4399062178215890627:=Nat
def tw2786267029266148346:=Nat
def tw17907773289890674576:=Nat
def tw17955687559556838850:=Nat
def tw7486507047132136278:=Nat
def tw3821087419772662428:=Nat
def tw9693149172797031842:=Nat
def tw6154531060372059398:=Nat
def tw17137057171350590902:=Nat
def tw7537295511869939485:=Nat
def tw9873107154576122802:=Nat
def tw6807126944730988553:=Nat
def tw18348240232008493474:=Nat
def tw6398237642131972858:=Nat
def tw7451378777700204575:=Nat
def tw385738275443418884:=Nat
def tw3674418939364106610:=Nat
def tw9355229969994380380:=Nat
def tw11296000575550054465:=Nat
def tw18211872387480437272:=Nat
def tw14688905815368051086:=Nat
def tw13153019340485132771:=Nat
def tw1347008960336767802:=Nat
def tw11039087988651056701:=Nat
def tw11378019184301979821:=Nat
def tw15617649430750815679:=Nat
def tw5132750056836902452:=Nat
def tw16037318955192379627:=Nat
def tw8266125032633190440:=Nat
def tw260580638939122729:=Nat
def tw1496261136808104008:=Nat
def tw4652323861090769131:=Nat
def tw10806547387901335432:=Nat
def tw11041830892328027585:=Nat
def tw7077488743638479136:=Nat
def tw1507105089654998955:=Nat
def tw6681940622553741719:=Nat
def tw931227731970288211:=Nat
def tw12481971076183460122:=Nat
def tw5647155859833226941:=Nat
def tw12998518006140920268:=Nat
def tw12348852816304265573:=Nat
def tw4996791561372513729:=Nat
def tw12839438769632619020:=Nat
def tw10453465881737729079:=Nat
def tw6349155897043244372:=Nat
def tw11935861858354173300:=Nat
def tw8081168109215671224:=Nat
def tw5476123228687905037:=Nat
def tw9710013933059356278:=Nat
def tw1242664260307077246:=Nat
def tw13943487511653410532:=Nat
def tw13426538137476982513:=Nat
def tw12286191046049534048:=Nat
def tw13720667657603378389:=Nat
def tw13132611464841007484:=Nat
def tw10909357298057255184:=Nat
def tw14168955229352081013:=Nat
def tw2055592799096494792:=Nat
def tw8747009671380756927:=Nat
def tw14241694355855735427:=Nat
def tw6397540471252260989:=Nat
def tw5233124710310973465:=Nat
def tw14125178164730115862:=Nat
def tw3730686535323398050:=Nat
def tw5842445494693286471:=Nat
def tw12750885727792576798:=Nat
def tw3379580947657681856:=Nat
def tw15776065479004315490:=Nat
def tw16386967506364347602:=Nat
def tw6523786525488026578:=Nat
def tw816345949625745523:=Nat
def tw3315148366684717664:=Nat
def tw8377723949077850505:=Nat
def tw15871228110013333551:=Nat
def tw16838516190110057461:=Nat
def tw6085211680790759171:=Nat
def tw8391005293632317932:=Nat
def tw15665273527909616339:=Nat
def tw1678199082749099419:=Nat
def tw18062370085425284820:=Nat
def tw4231625577214661908:=Nat
def tw547332916396767071:=Nat
def tw3260146686211267804:=Nat
def tw7565420958368626033:=Nat
def tw14940118889236243070:=Nat
def tw11886869493823199412:=Nat
def tw12651196411238427963:=Nat
def tw17143355365846316291:=Nat
def tw16856535836784099392:=Nat
def tw17619909413162669159:=Nat
def tw17714183233579698891:=Nat
def tw7529451867446914565:=Nat
def tw10922487640728916588:=Nat
def tw13632193068283991656:=Nat
def tw12200762481576440221:=Nat
def tw16522374785896547226:=Nat
def tw2701723791764240838:=Nat
def tw17291611652268884431:=Nat
def tw11879183008310172911:=Nat
def tw12786468752208565595:=Nat
def tw11424044564434825244:=Nat
def tw16659426737665982808:=Nat
def tw10201664736241561143:=Nat
def tw13572680631263108356:=Nat
def tw13754726389665925725:=Nat
def tw17946811277837615971:=Nat
def tw14859737150920137317:=Nat
def tw13131940122773070283:=Nat
def tw168169275756910814:=Nat
def tw1921580291835730408:=Nat
def tw7087310228622824768:=Nat
def tw6030432285586535901:=Nat
def tw4143174973341081080:=Nat
def tw16606653559674564655:=Nat
def tw12275780925168892372:=Nat
def tw7976832110724164220:=Nat
def tw4940503668839883319:=Nat
def tw15399326515510866713:=Nat
def tw17838624552670169934:=Nat
def tw3349642570076575947:=Nat
def tw16798197989591750485:=Nat
def tw12010332639751902052:=Nat
def tw9041082038396111044:=Nat
def tw2512370677209926378:=Nat
def tw10505470222332194119:=Nat
def tw13412440235546213257:=Nat
def tw12888928225369355242:=Nat
def tw442756263156480227:=Nat
def tw16378313029278957071:=Nat
def tw10282476027270668928:=Nat
def tw3790754670645095611:=Nat
def tw6628106630180203608:=Nat
def tw1271670027503259693:=Nat
def tw11885507754618048205:=Nat
def tw17834114745303451920:=Nat
def tw10592320624823055811:=Nat
def tw8316767744081209034:=Nat
def tw15269734225591559380:=Nat
def tw5624557999338463044:=Nat
def tw7706486696404858261:=Nat
def tw7914525717452231692:=Nat
def tw9096186800552744229:=Nat
def tw2652305029459484591:=Nat
def tw5626090734427005087:=Nat
def tw16992448996466083447:=Nat
def tw11483895257400465324:=Nat
def tw3745788785469407068:=Nat
def tw1253601953572241261:=Nat
def tw4162392945948662391:=Nat
def tw16459327716141010980:=Nat
def tw11253586549116911207:=Nat
def tw10596803148773341726:=Nat
def tw5659467652908627357:=Nat
def tw3057941033020034419:=Nat
def tw17050450822151642505:=Nat
def tw13846677350667528155:=Nat
def tw6761868618594952085:=Nat
def tw11186749348921258978:=Nat
def tw1361834233185012376:=Nat
def tw17043983473410916276:=Nat
def tw8869479585202743764:=Nat
def tw1790188464347583687:=Nat
def tw1656487936703432324:=Nat
def tw11913526337617665520:=Nat
def tw8321697904381066861:=Nat
def tw3782370317260680113:=Nat
def tw18429976450224313171:=Nat
def tw6964571800373493772:=Nat
def tw13528042727084373171:=Nat
def tw12741053245010815456:=Nat
def tw7569784150318050730:=Nat
def tw12819998304666984589:=Nat
def tw89754725589873597:=Nat
def tw13630851370561762946:=Nat
def tw18304606964776023902:=Nat
def tw14214312395291442790:=Nat
def tw8907156229419737857:=Nat
def tw10554728802595065860:=Nat
def tw17480203743365985313:=Nat
def tw1097802757672740910:=Nat
def tw12654885319855987627:=Nat
def tw11047981139259425214:=Nat
def tw2237788320238556114:=Nat
def tw1061089960006917168:=Nat
def tw7666842216431806221:=Nat
def tw6947931757594043321:=Nat
def tw1448353864310691157:=Nat
def tw3923787540865960389:=Nat
def tw12553795302925927035:=Nat
def tw872160518713737769:=Nat
def tw10657808716893848096:=Nat
def tw236083962164550212:=Nat
def tw7762004343565348423:=Nat
def tw4627443905427829940:=Nat
def tw7510404247974711828:=Nat
def tw18330913143656402412:=Nat
def tw3027892460312176586:=Nat
def tw3306096075859057754:=Nat
def tw5989193808501552368:=Nat
def tw12664639536974575788:=Nat
def tw5681006091272501406:=Nat
def tw17594374565643752553:=Nat
def tw300108202615323668:=Nat
def tw17500080090732590923:=Nat
def tw4411968722657173480:=Nat
def tw11418660260623139238:=Nat
def tw12194992354252363024:=Nat
def tw12500945378169824131:=Nat
def tw7761351894383604648:=Nat
def tw9691302078031525559:=Nat
def tw6193223769781651702:=Nat
def tw11277807460123350270:=Nat
def tw16629724475493375535:=Nat
def tw7258171836740320176:=Nat
def tw976616290876225548:=Nat
def tw15537246160565589758:=Nat
def tw2439112347228500020:=Nat
def tw3008732802536882758:=Nat
def tw15273552441370345606:=Nat
def tw17234061648873323742:=Nat
def tw4446670425754116652:=Nat
def tw6952319080506002919:=Nat
def tw8179567529075745564:=Nat
def tw16668589694418404646:=Nat
def tw9419442172267029150:=Nat
def tw7684819126262109055:=Nat
def tw16320664457250361707:=Nat
def tw6688858952713744151:=Nat
def tw1085896167158346717:=Nat
def tw15780820577754215427:=Nat
def tw13599086853427140492:=Nat
def tw17223312635584670165:=Nat
def tw6942876283790149472:=Nat
def tw2653156187471173257:=Nat
def tw6832105773177593528:=Nat
def tw14169417135153355605:=Nat
def tw10053322993601239957:=Nat
def tw9128221269861486315:=Nat
def tw4951894239001789002:=Nat
def tw8118898036474795735:=Nat
def tw5386638572811060647:=Nat
def tw5229507923955932303:=Nat
def tw15243604221847887950:=Nat
def tw1177161052557724417:=Nat
def tw14187184390047517271:=Nat
def tw13293884918299357342:=Nat
def tw14690382734288903751:=Nat
def tw3903474755448836876:=Nat
def tw11976988204753688707:=Nat
def tw5039360332885676208:=Nat
def tw17931885855270828825:=Nat
def tw13635593378478581432:=Nat
def tw14901198874985970253:=Nat
def tw12427229163240915865:=Nat
def tw8512565080135572230:=Nat
def tw17741488652940382035:=Nat
def tw12302418941981576821:=Nat
def tw16844416942030978650:=Nat
def tw12371260931194147989:=Nat
def tw7120091716646376378:=Nat
def tw2078388365766758356:=Nat
def tw5980896591916603097:=Nat
def tw13833381421045755599:=Nat
def tw14485637788033616677:=Nat
def tw3800956524856526709:=Nat
def tw4885750347325691971:=Nat
def tw13280977692359174716:=Nat
end PySem.W.Fast
namespace RG
open PySem L2 BV
theorem bwZ{K:FZ}{H:Hp}{a:Addr}{ns:List Int}(hO:ZV H)(h:SqL K H a (ns.map V.int)):ScrAt K H a ns:=by
 rcases h with(h|⟨o,h⟩)|h
 ·rcases hO a with e|⟨o,xs,e⟩<;>rw[e]at h<;>cases h
 ·exact .inl ⟨o,h⟩
 ·exact .inr h
/-- a def of the top,as it lies -/
inductive DefAt (K:FZ) (x:Str) (st:Stmt) (f:Addr) (fd:FuncData):Prop
 |mk (oc kV dc pm cd ct:Value) (od an:Option Addr) (sl:Array (Option Value)):fd=fnOf x x (K9 st) (K4 st) (B3 st) .none kV dc pm an cd ct->PySem.W.nsIn K mainGlobals x=some (some (.ref f))->K.lookup f=some ⟨oc,od,.func (fnOf x x (K9 st) (K4 st) (B3 st) .none kV dc pm an cd ct),sl⟩->codeIn K cd x=true->PySem.W.keepIn K (.ref f)=true->DefAt K x st f fd
section
variable{K:FZ}{x:Str}{st:Stmt}{f:Addr}{fd:FuncData}
theorem DefAt.ns(h:DefAt K x st f fd):PySem.W.nsIn K mainGlobals x=some (some (.ref f)):=by
 obtain⟨_,_,_,_,_,_,_,_,_,_,a,_⟩:=h;exact a
theorem DefAt.kp(h:DefAt K x st f fd):kZ K (.ref f)=true:=by
 obtain⟨_,_,_,_,_,_,_,_,_,_,_,_,_,a⟩:=h;exact a
theorem DefAt.fn(h:DefAt K x st f fd):Fun K x x st f fd:=by
 obtain⟨_,_,_,_,_,_,_,_,_,rfl,_,l,c,k⟩:=h;exact YE l c k
end
theorem lk0{P:List Value->Prop}(h:P []):∀us:List Value,us.length=0->P us
 | [],_=>h
theorem lks{n:Nat}{P:List Value->Prop}(h:∀(a:Value) (us:List Value),us.length=n->P (a::us)):∀us:List Value,us.length=n+1->P us
 |a::us,e=>h a us (Nat.succ.inj e)
theorem bn1{K:FZ}{x qual:Str}{st:Stmt}{f:Addr}{fd:FuncData}{ps:List Str}(F:Fun K x qual st f fd)(l:ps.length=1)(h:∀(kV doc pm:Value) (an:Option Addr) (cdv ct a0:Value),bindArgs (fnOf x qual (K9 st) (K4 st) (B3 st) .none kV doc pm an cdv ct) ⟨[a0],[]⟩=pure (ps.zip [a0])):Binds K fd ps []:=
 F.binds λkV doc pm an cdv ct us hl=>(lks (P:=λus=>bindArgs _ ⟨us,[]⟩=pure (ps.zip us)) λa0=>lk0 (h kV doc pm an cdv ct a0)) us (hl.trans l)
theorem bn2{K:FZ}{x qual:Str}{st:Stmt}{f:Addr}{fd:FuncData}{ps:List Str}(F:Fun K x qual st f fd)(l:ps.length=2)(h:∀(kV doc pm:Value) (an:Option Addr) (cdv ct a0 a1:Value),bindArgs (fnOf x qual (K9 st) (K4 st) (B3 st) .none kV doc pm an cdv ct) ⟨[a0,a1],[]⟩=pure (ps.zip [a0,a1])):Binds K fd ps []:=
 F.binds λkV doc pm an cdv ct us hl=>(lks (P:=λus=>bindArgs _ ⟨us,[]⟩=pure (ps.zip us)) λa0=>lks λa1=>lk0 (h kV doc pm an cdv ct a0 a1)) us (hl.trans l)
theorem bn3{K:FZ}{x qual:Str}{st:Stmt}{f:Addr}{fd:FuncData}{ps:List Str}(F:Fun K x qual st f fd)(l:ps.length=3)(h:∀(kV doc pm:Value) (an:Option Addr) (cdv ct a0 a1 a2:Value),bindArgs (fnOf x qual (K9 st) (K4 st) (B3 st) .none kV doc pm an cdv ct) ⟨[a0,a1,a2],[]⟩=pure (ps.zip [a0,a1,a2])):Binds K fd ps []:=
 F.binds λkV doc pm an cdv ct us hl=>(lks (P:=λus=>bindArgs _ ⟨us,[]⟩=pure (ps.zip us)) λa0=>lks λa1=>lks λa2=>lk0 (h kV doc pm an cdv ct a0 a1 a2)) us (hl.trans l)
theorem bn4{K:FZ}{x qual:Str}{st:Stmt}{f:Addr}{fd:FuncData}{ps:List Str}(F:Fun K x qual st f fd)(l:ps.length=4)(h:∀(kV doc pm:Value) (an:Option Addr) (cdv ct a0 a1 a2 a3:Value),bindArgs (fnOf x qual (K9 st) (K4 st) (B3 st) .none kV doc pm an cdv ct) ⟨[a0,a1,a2,a3],[]⟩=pure (ps.zip [a0,a1,a2,a3])):Binds K fd ps []:=
 F.binds λkV doc pm an cdv ct us hl=>(lks (P:=λus=>bindArgs _ ⟨us,[]⟩=pure (ps.zip us)) λa0=>lks λa1=>lks λa2=>lks λa3=>lk0 (h kV doc pm an cdv ct a0 a1 a2 a3)) us (hl.trans l)
theorem bn5{K:FZ}{x qual:Str}{st:Stmt}{f:Addr}{fd:FuncData}{ps:List Str}(F:Fun K x qual st f fd)(l:ps.length=5)(h:∀(kV doc pm:Value) (an:Option Addr) (cdv ct a0 a1 a2 a3 a4:Value),bindArgs (fnOf x qual (K9 st) (K4 st) (B3 st) .none kV doc pm an cdv ct) ⟨[a0,a1,a2,a3,a4],[]⟩=pure (ps.zip [a0,a1,a2,a3,a4])):Binds K fd ps []:=
 F.binds λkV doc pm an cdv ct us hl=>(lks (P:=λus=>bindArgs _ ⟨us,[]⟩=pure (ps.zip us)) λa0=>lks λa1=>lks λa2=>lks λa3=>lks λa4=>lk0 (h kV doc pm an cdv ct a0 a1 a2 a3 a4)) us (hl.trans l)
theorem bn6{K:FZ}{x qual:Str}{st:Stmt}{f:Addr}{fd:FuncData}{ps:List Str}(F:Fun K x qual st f fd)(l:ps.length=6)(h:∀(kV doc pm:Value) (an:Option Addr) (cdv ct a0 a1 a2 a3 a4 a5:Value),bindArgs (fnOf x qual (K9 st) (K4 st) (B3 st) .none kV doc pm an cdv ct) ⟨[a0,a1,a2,a3,a4,a5],[]⟩=pure (ps.zip [a0,a1,a2,a3,a4,a5])):Binds K fd ps []:=
 F.binds λkV doc pm an cdv ct us hl=>(lks (P:=λus=>bindArgs _ ⟨us,[]⟩=pure (ps.zip us)) λa0=>lks λa1=>lks λa2=>lks λa3=>lks λa4=>lks λa5=>lk0 (h kV doc pm an cdv ct a0 a1 a2 a3 a4 a5)) us (hl.trans l)
theorem DefAt.c1{P:Program}{w:World}{K:FZ}{mg:Str->Option Value}{base h:Heap}{CX:CXT}{k:Nat}{x:Str}{st:Stmt}{f:Addr}{fd:FuncData}{ps:List Str}{sp:Sp}(d:DefAt K x st f fd)(X:K.In h)(G:h.Ns mainGlobals mg)(o:FnOk P w K mg base CX k f fd ps sp)(l:ps.length=1:=by rfl)(hb:∀(kV doc pm:Value) (an:Option Addr) (cdv ct a0:Value),bindArgs (fnOf x x (K9 st) (K4 st) (B3 st) .none kV doc pm an cdv ct) ⟨[a0],[]⟩=pure (ps.zip [a0]):=by intros;rfl):L2.Cn P w K mg base CX k x ps sp:=⟨_,_,o,bn1 d.fn l hb,d.kp,mg_of X G d.ns⟩
theorem DefAt.c2{P:Program}{w:World}{K:FZ}{mg:Str->Option Value}{base h:Heap}{CX:CXT}{k:Nat}{x:Str}{st:Stmt}{f:Addr}{fd:FuncData}{ps:List Str}{sp:Sp}(d:DefAt K x st f fd)(X:K.In h)(G:h.Ns mainGlobals mg)(o:FnOk P w K mg base CX k f fd ps sp)(l:ps.length=2:=by rfl)(hb:∀(kV doc pm:Value) (an:Option Addr) (cdv ct a0 a1:Value),bindArgs (fnOf x x (K9 st) (K4 st) (B3 st) .none kV doc pm an cdv ct) ⟨[a0,a1],[]⟩=pure (ps.zip [a0,a1]):=by intros;rfl):L2.Cn P w K mg base CX k x ps sp:=⟨_,_,o,bn2 d.fn l hb,d.kp,mg_of X G d.ns⟩
theorem DefAt.c3{P:Program}{w:World}{K:FZ}{mg:Str->Option Value}{base h:Heap}{CX:CXT}{k:Nat}{x:Str}{st:Stmt}{f:Addr}{fd:FuncData}{ps:List Str}{sp:Sp}(d:DefAt K x st f fd)(X:K.In h)(G:h.Ns mainGlobals mg)(o:FnOk P w K mg base CX k f fd ps sp)(l:ps.length=3:=by rfl)(hb:∀(kV doc pm:Value) (an:Option Addr) (cdv ct a0 a1 a2:Value),bindArgs (fnOf x x (K9 st) (K4 st) (B3 st) .none kV doc pm an cdv ct) ⟨[a0,a1,a2],[]⟩=pure (ps.zip [a0,a1,a2]):=by intros;rfl):L2.Cn P w K mg base CX k x ps sp:=⟨_,_,o,bn3 d.fn l hb,d.kp,mg_of X G d.ns⟩
theorem DefAt.c4{P:Program}{w:World}{K:FZ}{mg:Str->Option Value}{base h:Heap}{CX:CXT}{k:Nat}{x:Str}{st:Stmt}{f:Addr}{fd:FuncData}{ps:List Str}{sp:Sp}(d:DefAt K x st f fd)(X:K.In h)(G:h.Ns mainGlobals mg)(o:FnOk P w K mg base CX k f fd ps sp)(l:ps.length=4:=by rfl)(hb:∀(kV doc pm:Value) (an:Option Addr) (cdv ct a0 a1 a2 a3:Value),bindArgs (fnOf x x (K9 st) (K4 st) (B3 st) .none kV doc pm an cdv ct) ⟨[a0,a1,a2,a3],[]⟩=pure (ps.zip [a0,a1,a2,a3]):=by intros;rfl):L2.Cn P w K mg base CX k x ps sp:=⟨_,_,o,bn4 d.fn l hb,d.kp,mg_of X G d.ns⟩
theorem DefAt.c5{P:Program}{w:World}{K:FZ}{mg:Str->Option Value}{base h:Heap}{CX:CXT}{k:Nat}{x:Str}{st:Stmt}{f:Addr}{fd:FuncData}{ps:List Str}{sp:Sp}(d:DefAt K x st f fd)(X:K.In h)(G:h.Ns mainGlobals mg)(o:FnOk P w K mg base CX k f fd ps sp)(l:ps.length=5:=by rfl)(hb:∀(kV doc pm:Value) (an:Option Addr) (cdv ct a0 a1 a2 a3 a4:Value),bindArgs (fnOf x x (K9 st) (K4 st) (B3 st) .none kV doc pm an cdv ct) ⟨[a0,a1,a2,a3,a4],[]⟩=pure (ps.zip [a0,a1,a2,a3,a4]):=by intros;rfl):L2.Cn P w K mg base CX k x ps sp:=⟨_,_,o,bn5 d.fn l hb,d.kp,mg_of X G d.ns⟩
theorem DefAt.c6{P:Program}{w:World}{K:FZ}{mg:Str->Option Value}{base h:Heap}{CX:CXT}{k:Nat}{x:Str}{st:Stmt}{f:Addr}{fd:FuncData}{ps:List Str}{sp:Sp}(d:DefAt K x st f fd)(X:K.In h)(G:h.Ns mainGlobals mg)(o:FnOk P w K mg base CX k f fd ps sp)(l:ps.length=6:=by rfl)(hb:∀(kV doc pm:Value) (an:Option Addr) (cdv ct a0 a1 a2 a3 a4 a5:Value),bindArgs (fnOf x x (K9 st) (K4 st) (B3 st) .none kV doc pm an cdv ct) ⟨[a0,a1,a2,a3,a4,a5],[]⟩=pure (ps.zip [a0,a1,a2,a3,a4,a5]):=by intros;rfl):L2.Cn P w K mg base CX k x ps sp:=⟨_,_,o,bn6 d.fn l hb,d.kp,mg_of X G d.ns⟩
theorem all_mk{l:PySem.W.OpenLaw}{w:World}{K:PySem.W.Frag}{h:Heap}{mg:Str->Option Value}{fa:Addr}(X:K.In h)(G:h.Ns mainGlobals mg)(hfa:mg "law"=some (.ref fa))
  {f0 f1 f2 f3 f4 f5 f6 f7 f8 f9 f10 f11 f12 f13 f14 f15 f16 f17 f18 f19 f20 f21 f22 f23 f24 f25 f26 f27 f28 f29 f30 f31 f32 f33 f34 f35 f36 f37 f38 f39 f40 f41 f42 f43 f44 f45 f46 f47 f48 f49 f50 f51 f52:Addr}{od52 an52:Option Addr}{sl52:Array (Option Value)}{oc52 kV52 dc52 pm52 cd52 ct52:Value}
  {e0 e1 e2 e3 e4 e5 e6 e7 e8 e9 e10 e11 e12 e13 e14 e15 e16 e17 e18 e19 e20 e21 e22 e23 e24 e25 e26 e27 e28 e29 e30 e31 e32 e33 e34 e35 e36 e37 e38 e39 e40 e41 e42 e43 e44 e45 e46 e47 e48 e49 e50 e51:FuncData}
  {t_GREATEST t_DEEPEST t_PARTS_OF_STATE:Tok}
  {pf_PARTS_FROM:Addr}{es_PARTS_FROM:Array DictEntry}{nes_PARTS_FROM:Nat}
  (d0:DefAt K "two_told" NM.s_two_told f0 e0)
  (d1:DefAt K "quotient_told" NM.s_quotient_told f1 e1)
  (d2:DefAt K "outcome" NM.s_outcome f2 e2)
  (d3:DefAt K "bounded" NM.s_bounded f3 e3)
  (d4:DefAt K "parts_of" EE f4 e4)
  (d5:DefAt K "built_up" BV.s_built_up f5 e5)
  (d6:DefAt K "begun" LQ f6 e6)
  (d7:DefAt K "reckoned" DY f7 e7)
  (d8:DefAt K "onward" JC f8 e8)
  (d9:DefAt K "function_called" P1 f9 e9)
  (d10:DefAt K "bound_to" EL f10 e10)
  (d11:DefAt K "onward_from_term" R3 f11 e11)
  (d12:DefAt K "value_at_once" W8 f12 e12)
  (d13:DefAt K "value_bound" V8 f13 e13)
  (d14:DefAt K "waiting_of" BC f14 e14)
  (d15:DefAt K "onward_from_value" Q1 f15 e15)
  (d16:DefAt K "told_at_once" X9 f16 e16)
  (d17:DefAt K "one_told" EM f17 e17)
  (d18:DefAt K "onward_to_term" U6 f18 e18)
  (d19:DefAt K "pushed" IT f19 e19)
  (d20:DefAt K "into_function" W9 f20 e20)
  (d21:DefAt K "into_fn" FY f21 e21)
  (d22:DefAt K "into_body" CM f22 e22)
  (d23:DefAt K "plain_value" Z6 f23 e23)
  (d24:DefAt K "items_in" EI f24 e24)
  (d25:DefAt K "with_items" BJ f25 e25)
  (d26:DefAt K "is_list" GM f26 e26)
  (d27:DefAt K "_law_cell_at" Z8 f27 e27)
  (d28:DefAt K "_law_name" BG f28 e28)
  (d29:DefAt K "_law_names" W0 f29 e29)
  (d30:DefAt K "_law_cell" EC f30 e30)
  (d31:DefAt K "_law_with" BA f31 e31)
  (d32:DefAt K "_law_kind" EK f32 e32)
  (d33:DefAt K "_law_leaf" U7 f33 e33)
  (d34:DefAt K "_law_some" X7 f34 e34)
  (d35:DefAt K "_law_good" BE f35 e35)
  (d36:DefAt K "_law_taker" Z0 f36 e36)
  (d37:DefAt K "_law_common" T3 f37 e37)
  (d38:DefAt K "_law_own" AG f38 e38)
  (d39:DefAt K "_law_head" AZ f39 e39)
  (d40:DefAt K "_law_small" BY f40 e40)
  (d41:DefAt K "_law_down" BK f41 e41)
  (d42:DefAt K "_law_main" EH f42 e42)
  (d43:DefAt K "_law_body" EN f43 e43)
  (d44:DefAt K "_law_program" Q4 f44 e44)
  (d45:DefAt K "_law_two" FV f45 e45)
  (d46:DefAt K "_law_one" GK f46 e46)
  (d47:DefAt K "_law_into" BD f47 e47)
  (d48:DefAt K "_law_values" X0 f48 e48)
  (d49:DefAt K "_law_value" Y8 f49 e49)
  (d50:DefAt K "_law_behind" T2 f50 e50)
  (d51:DefAt K "_law_same" X8 f51 e51)
  (a52:PySem.W.nsIn K mainGlobals "law"=some (some (.ref f52)))(l52:K.lookup f52=some ⟨oc52,od52,.func (PySem.W.fnOf "law" "law" (K9 DH) (K4 DH) (B3 DH) .none kV52 dc52 pm52 an52 cd52 ct52),sl52⟩)(c52:PySem.W.codeIn K cd52 "law"=true)(k52:PySem.W.keepIn K (.ref f52)=true)
  (e_GREATEST:PySem.W.nsIn K mainGlobals "GREATEST"=some (some (.int 10000000000000000000000000000000000000000 t_GREATEST)))
  (e_DEEPEST:PySem.W.nsIn K mainGlobals "DEEPEST"=some (some (.int 60 t_DEEPEST)))
  (e_PARTS_OF_STATE:PySem.W.nsIn K mainGlobals "PARTS_OF_STATE"=some (some (.int 4 t_PARTS_OF_STATE)))
  (aD_PARTS_FROM:PySem.W.nsIn K mainGlobals "PARTS_FROM"=some (some (.ref pf_PARTS_FROM)))(lD_PARTS_FROM:K.lookup pf_PARTS_FROM=some ⟨.type "dict",none,.dict es_PARTS_FROM nes_PARTS_FROM, #[]⟩)(kD_PARTS_FROM:PySem.W.KeysLit w.params es_PARTS_FROM.toList)(pD_PARTS_FROM:Paired (λ(p:Str×V) (e:DictEntry)=>(∃t,e.key=.str p.1 t)/\RelV p.2 e.val) RG.PF es_PARTS_FROM.toList)(oD_PARTS_FROM:(pf_PARTS_FROM==sysModules)=false)
  (z_len:PySem.W.nsIn K mainGlobals "len"=some none)
  (z_list:PySem.W.nsIn K mainGlobals "list"=some none)
  (z_reversed:PySem.W.nsIn K mainGlobals "reversed"=some none)
  (z_range:PySem.W.nsIn K mainGlobals "range"=some none)
  (z_zip:PySem.W.nsIn K mainGlobals "zip"=some none)
  (z_isinstance:PySem.W.nsIn K mainGlobals "isinstance"=some none)
  (z_str:PySem.W.nsIn K mainGlobals "str"=some none)
  (z_tuple:PySem.W.nsIn K mainGlobals "tuple"=some none)
  (z_sum:PySem.W.nsIn K mainGlobals "sum"=some none)
  (z_max:PySem.W.nsIn K mainGlobals "max"=some none)
  (z_min:PySem.W.nsIn K mainGlobals "min"=some none)
  (z_int:PySem.W.nsIn K mainGlobals "int"=some none)
  (z_bool:PySem.W.nsIn K mainGlobals "bool"=some none)
  (z_enumerate:PySem.W.nsIn K mainGlobals "enumerate"=some none)
  (z_all:PySem.W.nsIn K mainGlobals "all"=some none)
  (z_dict:PySem.W.nsIn K mainGlobals "dict"=some none)
  (z_sorted:PySem.W.nsIn K mainGlobals "sorted"=some none)
  (z_set:PySem.W.nsIn K mainGlobals "set"=some none)
  (z_abs:PySem.W.nsIn K mainGlobals "abs"=some none):
  ∃fd:FuncData,(∀(s:Shared) (v:Value),BindsTo s fd ⟨[v],[]⟩ [("_law_script",v)])/\∀base:Heap,K.In base->base.Ns mainGlobals mg->FnOk l.prog w K mg base CX0 276 fa fd ["_law_script"] (RM K):=by
 have e:=hfa.symm.trans (PySem.W.mg_of X G a52);cases e;have B:BV.NoG mg:=⟨PySem.W.mg_none_of X G z_len,PySem.W.mg_none_of X G z_list,PySem.W.mg_none_of X G z_reversed,PySem.W.mg_none_of X G z_range,PySem.W.mg_none_of X G z_zip,PySem.W.mg_none_of X G z_isinstance,PySem.W.mg_none_of X G z_str,PySem.W.mg_none_of X G z_tuple,PySem.W.mg_none_of X G z_sum,PySem.W.mg_none_of X G z_max,PySem.W.mg_none_of X G z_min,PySem.W.mg_none_of X G z_int,PySem.W.mg_none_of X G z_bool,PySem.W.mg_none_of X G z_enumerate,PySem.W.mg_none_of X G z_all⟩;have BW:RG.NoL mg:=⟨PySem.W.mg_none_of X G z_len,PySem.W.mg_none_of X G z_int,PySem.W.mg_none_of X G z_range,PySem.W.mg_none_of X G z_dict,PySem.W.mg_none_of X G z_sorted,PySem.W.mg_none_of X G z_tuple,PySem.W.mg_none_of X G z_list,PySem.W.mg_none_of X G z_zip,PySem.W.mg_none_of X G z_set,PySem.W.mg_none_of X G z_isinstance,PySem.W.mg_none_of X G z_bool,PySem.W.mg_none_of X G z_all,PySem.W.mg_none_of X G z_abs,PySem.W.mg_none_of X G z_str⟩;have BM:NM.NoG mg:=⟨PySem.W.mg_none_of X G z_len,PySem.W.mg_none_of X G z_min,PySem.W.mg_none_of X G z_abs,PySem.W.mg_none_of X G z_isinstance,PySem.W.mg_none_of X G z_tuple,PySem.W.mg_none_of X G z_int,PySem.W.mg_none_of X G z_bool⟩;have m_GREATEST:=PySem.W.mg_of X G e_GREATEST;have m_DEEPEST:=PySem.W.mg_of X G e_DEEPEST;have m_PARTS_OF_STATE:=PySem.W.mg_of X G e_PARTS_OF_STATE;have TD_PARTS_FROM:TopD w K pf_PARTS_FROM RG.PF:=⟨⟨es_PARTS_FROM,nes_PARTS_FROM,lD_PARTS_FROM,kD_PARTS_FROM,pD_PARTS_FROM⟩,oD_PARTS_FROM⟩;have m_PARTS_FROM:=PySem.W.mg_of X G aD_PARTS_FROM;have F27:=d27.fn;have b27:=bn2 (ps:=["_law_script","_law_k"]) F27 rfl λ_ _ _ _ _ _ _ _=>rfl;have m27:=PySem.W.mg_of X G d27.ns;have k27:=d27.kp;have F29:=d29.fn;have b29:=bn1 (ps:=["_law_shift"]) F29 rfl λ_ _ _ _ _ _ _=>rfl;have m29:=PySem.W.mg_of X G d29.ns;have k29:=d29.kp;have F30:=d30.fn;have b30:=bn2 (ps:=["_law_cells","_law_spot"]) F30 rfl λ_ _ _ _ _ _ _ _=>rfl;have m30:=PySem.W.mg_of X G d30.ns;have k30:=d30.kp;have F31:=d31.fn;have b31:=bn3 (ps:=["_law_names_here","_law_name_here","_law_kind_here"]) F31 rfl λ_ _ _ _ _ _ _ _ _=>rfl;have m31:=PySem.W.mg_of X G d31.ns;have k31:=d31.kp;have F32:=d32.fn;have b32:=bn1 (ps:=["_law_cell_here"]) F32 rfl λ_ _ _ _ _ _ _=>rfl;have m32:=PySem.W.mg_of X G d32.ns;have k32:=d32.kp;have F33:=d33.fn;have b33:=bn4 (ps:=["_law_cells","_law_spot","_law_kind_here","_law_names_here"]) F33 rfl λ_ _ _ _ _ _ _ _ _ _=>rfl;have m33:=PySem.W.mg_of X G d33.ns;have k33:=d33.kp;have F34:=d34.fn;have b34:=bn6 (ps:=["_law_cells","_law_spot","_law_kinds","_law_names_here","_law_funs","_law_depth"]) F34 rfl λ_ _ _ _ _ _ _ _ _ _ _ _=>rfl;have m34:=PySem.W.mg_of X G d34.ns;have k34:=d34.kp;have F35:=d35.fn;have b35:=bn6 (ps:=["_law_cells","_law_spot","_law_kind_here","_law_names_here","_law_funs","_law_depth"]) F35 rfl λ_ _ _ _ _ _ _ _ _ _ _ _=>rfl;have m35:=PySem.W.mg_of X G d35.ns;have k35:=d35.kp;have F36:=d36.fn;have b36:=bn4 (ps:=["_law_cell_here","_law_names_here","_law_own_here","_law_other"]) F36 rfl λ_ _ _ _ _ _ _ _ _ _=>rfl;have m36:=PySem.W.mg_of X G d36.ns;have k36:=d36.kp;have F37:=d37.fn;have b37:=bn6 (ps:=["_law_cells","_law_spot","_law_kind_here","_law_names_here","_law_funs","_law_depth"]) F37 rfl λ_ _ _ _ _ _ _ _ _ _ _ _=>rfl;have m37:=PySem.W.mg_of X G d37.ns;have k37:=d37.kp;have F38:=d38.fn;have b38:=bn6 (ps:=["_law_cells","_law_spot","_law_kind_here","_law_names_here","_law_funs","_law_depth"]) F38 rfl λ_ _ _ _ _ _ _ _ _ _ _ _=>rfl;have m38:=PySem.W.mg_of X G d38.ns;have k38:=d38.kp;have F45:=d45.fn;have b45:=bn3 (ps:=["_law_sign","_law_a","_law_b"]) F45 rfl λ_ _ _ _ _ _ _ _ _=>rfl;have m45:=PySem.W.mg_of X G d45.ns;have k45:=d45.kp;have F46:=d46.fn;have b46:=bn2 (ps:=["_law_word","_law_a"]) F46 rfl λ_ _ _ _ _ _ _ _=>rfl;have m46:=PySem.W.mg_of X G d46.ns;have k46:=d46.kp;have F47:=d47.fn;have b47:=bn4 (ps:=["_law_term","_law_bound","_law_funs","_law_count"]) F47 rfl λ_ _ _ _ _ _ _ _ _ _=>rfl;have m47:=PySem.W.mg_of X G d47.ns;have k47:=d47.kp;have F48:=d48.fn;have b48:=bn4 (ps:=["_law_terms","_law_bound","_law_funs","_law_count"]) F48 rfl λ_ _ _ _ _ _ _ _ _ _=>rfl;have m48:=PySem.W.mg_of X G d48.ns;have k48:=d48.kp;have F49:=d49.fn;have b49:=bn4 (ps:=["_law_term","_law_bound","_law_funs","_law_count"]) F49 rfl λ_ _ _ _ _ _ _ _ _ _=>rfl;have m49:=PySem.W.mg_of X G d49.ns;have k49:=d49.kp;have F50:=d50.fn;have b50:=bn5 (ps:=["_law_term","_law_values_here","_law_bound","_law_funs","_law_count"]) F50 rfl λ_ _ _ _ _ _ _ _ _ _ _=>rfl;have m50:=PySem.W.mg_of X G d50.ns;have k50:=d50.kp;have F51:=d51.fn;have b51:=bn2 (ps:=["_law_found","_law_due"]) F51 rfl λ_ _ _ _ _ _ _ _=>rfl;have m51:=PySem.W.mg_of X G d51.ns;have k51:=d51.kp;have F52:=YE (st:=DH) l52 c52 k52;have b52:=bn1 (ps:=["_law_script"]) F52 rfl λ_ _ _ _ _ _ _=>rfl;have m52:=PySem.W.mg_of X G a52;refine⟨PySem.W.fnOf "law" "law" (K9 DH) (K4 DH) (B3 DH) .none kV52 dc52 pm52 an52 cd52 ct52,λs v=> .of_eq rfl,λbase _ _=> ?_⟩;have W5:=d1.c2 X G (NM.ok_quotient_told (P:=l.prog) (w:=w) (mg:=mg) (base:=base) d1.fn);have FL:=d2.c3 X G (NM.ok_outcome (P:=l.prog) (w:=w) (mg:=mg) (base:=base) d2.fn);have FU:=d3.c1 X G (NM.ok_bounded (P:=l.prog) (w:=w) (mg:=mg) (base:=base) d3.fn BM m_GREATEST);have DO:=d0.c3 X G (NM.ok_two_told (P:=l.prog) (w:=w) (mg:=mg) (base:=base) d0.fn W5 FL FU);have DT:=d4.c1 X G (RG.ok_parts_of (P:=l.prog) (w:=w) (mg:=mg) (base:=base) d4.fn B TD_PARTS_FROM m_PARTS_FROM);have DP:=d5.c3 X G (BV.ok_built_up (P:=l.prog) (w:=w) (mg:=mg) (base:=base) d5.fn B);have S3:=d22.c4 X G (RG.ok_into_body (m_DEEPEST:=m_DEEPEST) (P:=l.prog) (w:=w) (mg:=mg) (base:=base) d22.fn);have U3:=d10.c2 X G (RG.ok_bound_to (P:=l.prog) (w:=w) (mg:=mg) (base:=base) d10.fn B);have K8:=d9.c2 X G (RG.ok_function_called (P:=l.prog) (w:=w) (mg:=mg) (base:=base) d9.fn);have N0:=d20.c5 X G (RG.ok_into_function (P:=l.prog) (w:=w) (mg:=mg) (base:=base) d20.fn K8 U3 S3);have FS:=d21.c4 X G (RG.ok_into_fn (P:=l.prog) (w:=w) (mg:=mg) (base:=base) d21.fn S3);have Z3:=d13.c2 X G (RG.ok_value_bound (P:=l.prog) (w:=w) (mg:=mg) (base:=base) d13.fn);have W6:=d12.c2 X G (RG.ok_value_at_once (P:=l.prog) (w:=w) (mg:=mg) (base:=base) d12.fn Z3);have AT:=d14.c2 X G (RG.ok_waiting_of (P:=l.prog) (w:=w) (mg:=mg) (base:=base) d14.fn);have Q6:=d11.c3 X G (RG.ok_onward_from_term (P:=l.prog) (w:=w) (mg:=mg) (base:=base) d11.fn B W6 DT AT N0);have BT:=d19.c3 X G (RG.ok_pushed (P:=l.prog) (w:=w) (mg:=mg) (base:=base) d19.fn);have DS:=d17.c2 X G (RG.ok_one_told (P:=l.prog) (w:=w) (mg:=mg) (base:=base) d17.fn B);have X5:=d16.c2 X G (RG.ok_told_at_once (P:=l.prog) (w:=w) (mg:=mg) (base:=base) d16.fn DO DS);have T9:=d18.c3 X G (RG.ok_onward_to_term (P:=l.prog) (w:=w) (mg:=mg) (base:=base) d18.fn BT);have X3:=d26.c1 X G (RG.ok_is_list (P:=l.prog) (w:=w) (mg:=mg) (base:=base) d26.fn B);have X4:=d24.c1 X G (RG.ok_items_in (P:=l.prog) (w:=w) (mg:=mg) (base:=base) d24.fn B X3);have S9:=d25.c2 X G (RG.ok_with_items (P:=l.prog) (w:=w) (mg:=mg) (base:=base) d25.fn X3);have Z5:=d23.c1 X G (RG.ok_plain_value (P:=l.prog) (w:=w) (mg:=mg) (base:=base) d23.fn DP X4 S9);have P8:=d15.c3 X G (RG.ok_onward_from_value (P:=l.prog) (w:=w) (mg:=mg) (base:=base) d15.fn B Z5 X5 FS N0 T9);have HK:=d8.c3 X G (RG.ok_onward (P:=l.prog) (w:=w) (mg:=mg) (base:=base) d8.fn Q6 P8);have KZ:=d6.c2 X G (RG.ok_begun (P:=l.prog) (w:=w) (mg:=mg) (base:=base) d6.fn K8 U3);have DW:=d7.c3 X G (RG.ok_reckoned (m_PARTS_OF_STATE:=m_PARTS_OF_STATE) (P:=l.prog) (w:=w) (mg:=mg) (base:=base) d7.fn B KZ HK);have B7:=RG.ok_law_cell_at (P:=l.prog) (w:=w) (mg:=mg) (base:=base) F27 BW;have E3:=RG.ok_law_cell (P:=l.prog) (w:=w) (mg:=mg) (base:=base) F30 BW;have C8:=RG.ok_law_with (P:=l.prog) (w:=w) (mg:=mg) (base:=base) F31 BW;have K7:=RG.ok_law_kind (P:=l.prog) (w:=w) (mg:=mg) (base:=base) F32;have DU:=d28.c2 X G (RG.ok_law_name (P:=l.prog) (w:=w) (mg:=mg) (base:=base) d28.fn BW);have D3:=RG.ok_law_names (P:=l.prog) (w:=w) (mg:=mg) (base:=base) F29 BW DU;have N4:=RG.ok_law_taker (P:=l.prog) (w:=w) (mg:=mg) (base:=base) F36 BW;have M7:=RG.ok_leafs (P:=l.prog) (w:=w) (mg:=mg) (base:=base) F33 BW E3 b30 k30 m30 B7 b27 k27 m27 D3 b29 k29 m29 C8 b31 k31 m31 b33 k33 m33 8;have C7:=RG.ok_goods (P:=l.prog) (w:=w) (mg:=mg) (base:=base) F34 F35 F37 F38 BW E3 b30 k30 m30 K7 b32 k32 m32 D3 b29 k29 m29 C8 b31 k31 m31 N4 b36 k36 m36 M7 b33 k33 m33 b34 k34 m34 b35 k35 m35 b37 k37 m37 b38 k38 m38 4;have K3:=RG.ok_some (P:=l.prog) (w:=w) (mg:=mg) (base:=base) F34 C7 b35 k35 m35;have DL:=d39.c2 X G (RG.ok_law_head (P:=l.prog) (w:=w) (mg:=mg) (base:=base) d39.fn BW ⟨_,_,K7,b32,k32,m32⟩);have DR:=d41.c6 X G (RG.ok_law_down (P:=l.prog) (w:=w) (mg:=mg) (base:=base) d41.fn BW ⟨_,_,C7,b35,k35,m35⟩ ⟨_,_,C8,b31,k31,m31⟩);have DV:=d42.c6 X G (RG.ok_law_main (P:=l.prog) (w:=w) (mg:=mg) (base:=base) d42.fn BW ⟨_,_,B7,b27,k27,m27⟩ ⟨_,_,K3,b34,k34,m34⟩ ⟨_,_,C8,b31,k31,m31⟩ ⟨_,_,C7,b35,k35,m35⟩);have DN:=d43.c6 X G (RG.ok_law_body (P:=l.prog) (w:=w) (mg:=mg) (base:=base) d43.fn BW ⟨_,_,B7,b27,k27,m27⟩ DV DR ⟨_,_,C7,b35,k35,m35⟩ ⟨_,_,N4,b36,k36,m36⟩);have BU:=d40.c2 X G (RG.ok_law_small (P:=l.prog) (w:=w) (mg:=mg) (base:=base) d40.fn BW ⟨_,_,B7,b27,k27,m27⟩);have Z4:=d44.c2 X G (RG.ok_law_program (P:=l.prog) (w:=w) (mg:=mg) (base:=base) d44.fn BW ⟨_,_,B7,b27,k27,m27⟩ ⟨_,_,D3,b29,k29,m29⟩ BU DL DN);have AD:=RG.ok_law_two (P:=l.prog) (w:=w) (mg:=mg) (base:=base) F45 BW;have AC:=RG.ok_law_one (P:=l.prog) (w:=w) (mg:=mg) (base:=base) F46 BW;have G_law_withV:=RG.ok_law_withV (P:=l.prog) (w:=w) (mg:=mg) (base:=base) F31 BW;have G_law_ladder:=RG.ok_ladder (P:=l.prog) (w:=w) (mg:=mg) (base:=base) F49 F48 F50 F47 BW AD b45 k45 m45 AC b46 k46 m46 G_law_withV b31 k31 m31 b49 k49 m49 b48 k48 m48 b50 k50 m50 b47 k47 m47 273;have L9:=G_law_ladder.1;have X6:=RG.ok_law_same (P:=l.prog) (w:=w) (mg:=mg) (base:=base) F51 BW b51 k51 m51 3;exact RG.ok_law (P:=l.prog) (w:=w) (mg:=mg) (base:=base) F52 BW ⟨_,_,B7,b27,k27,m27⟩ Z4 ⟨_,_,L9,b49,k49,m49⟩ DW ⟨_,_,X6,b51,k51,m51⟩
theorem walk{l:PySem.W.OpenLaw}{q:Program}{loose:List Str}{XP:(Str->Option Value)->Heap->Prop}{YP:World->Heap->Prop}{d:DefRec}{K:Params->PySem.W.Frag}(hn:l.most=some 63)(hdf:d.params.defaults=[])
  (hY:∀(w:World) (h:Heap),YP w h->(K w.params).In h)
  (F:∀(w:World) (mg:Str->Option Value) (fa:Addr) (h:Heap),(K w.params).In h->h.Ns mainGlobals mg->mg d.name=some (.ref fa)->
   ∃fd:FuncData,(∀(s:Shared) (u:Value),BindsTo s fd ⟨[u],[]⟩ [("_law_script",u)])/\∀base:Heap,(K w.params).In base->base.Ns mainGlobals mg->FnOk l.prog w (K w.params) mg base CX0 276 fa fd ["_law_script"] (RM (K w.params))):
  PySem.W.WalkO q loose XP YP l.row.toRowW d [] (λf vs=>PySem.call f vs):=
 L2.walk_ofB (n:=63) (k:=276) (x:="_law_script") (CX:=λ_=>CX0) (sp:=λw=>RM (K w.params)) hn (by decide) hdf ⟨rfl,by decide,by decide⟩ hY F (λ_ _ a ns hl hb hO hS=>⟨a,ns,rfl,bwZ hO hS,hl,hb,λ_=>rfl⟩) λ_ _ _ _ _ z=>z
end RG
open PySem PySem.W PyProof.Rows
set_option maxRecDepth 100000 in
set_option maxHeartbeats 0 in
theorem PySem.Challenge.cw_speakmill_k42_whole_plain_recursion_holds : PySem.Challenge.rw_speakmill_k42_whole_plain_recursion.Holds := by
 w_on;o_law;k_head;(case hw=>w_witness2)
 k_fill
 refine RG.walk (l:=PySem.Challenge.rw_speakmill_k42_whole_plain_recursion) rfl rfl (λw h Y=>PySem.W.kIn_of Y) ?F
 case F=>
  intro w mg fa h Xk G hmg
  refine' RG.all_mk Xk G hmg ?d0 ?d1 ?d2 ?d3 ?d4 ?d5 ?d6 ?d7 ?d8 ?d9 ?d10 ?d11 ?d12 ?d13 ?d14 ?d15 ?d16 ?d17 ?d18 ?d19 ?d20 ?d21 ?d22 ?d23 ?d24 ?d25 ?d26 ?d27 ?d28 ?d29 ?d30 ?d31 ?d32 ?d33 ?d34 ?d35 ?d36 ?d37 ?d38 ?d39 ?d40 ?d41 ?d42 ?d43 ?d44 ?d45 ?d46 ?d47 ?d48 ?d49 ?d50 ?d51 ?a52 ?l52 ?c52 ?k52 ?e_GREATEST ?e_DEEPEST ?e_PARTS_OF_STATE ?aD_PARTS_FROM ?lD_PARTS_FROM ?kD_PARTS_FROM ?pD_PARTS_FROM ?oD_PARTS_FROM ?z_len ?z_list ?z_reversed ?z_range ?z_zip ?z_isinstance ?z_str ?z_tuple ?z_sum ?z_max ?z_min ?z_int ?z_bool ?z_enumerate ?z_all ?z_dict ?z_sorted ?z_set ?z_abs
  (case d0|d1|d2|d3|d4|d5|d6|d7|d8|d9|d10|d11|d12|d13|d14|d15|d16|d17|d18|d19|d20|d21|d22|d23|d24|d25|d26|d27|d28|d29|d30|d31|d32|d33|d34|d35|d36|d37|d38|d39|d40|d41|d42|d43|d44|d45|d46|d47|d48|d49|d50|d51=>exact⟨_,_,_,_,_,_,_,_,_,rfl,by k_is,by k_is,by k_is,by k_is⟩)
  (case a52|l52|c52|k52|e_GREATEST|e_DEEPEST|e_PARTS_OF_STATE|aD_PARTS_FROM|lD_PARTS_FROM|z_len|z_list|z_reversed|z_range|z_zip|z_isinstance|z_str|z_tuple|z_sum|z_max|z_min|z_int|z_bool|z_enumerate|z_all|z_dict|z_sorted|z_set|z_abs=>k_is)
  (case kD_PARTS_FROM=>k_keys)
  (case pD_PARTS_FROM=>repeat (first|exact .nil|refine .cons ⟨⟨_,rfl⟩,⟨_,rfl⟩⟩ ?_))
  (case oD_PARTS_FROM=>decide)
end
