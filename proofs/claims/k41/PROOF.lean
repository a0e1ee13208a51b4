import PyProof.Rows.All
import Wide.All
import OpenK.AllK
import Wide.FinOn
import Lean
import PyProof.EqAt
import PyProof.EqKinds
import PyProof.TupleCall
import PySem.Challenge.RW_renamehall_k41_chains
import KE.IntTextLaws
import KE.KIsAll
import PyProof.ExcArgsOwn
import PyProof.ExcBaseAll.ValueError
import PyProof.ExcClass2
import PyProof.ExcInit
import PyProof.InstStore
import PyProof.Rows.CatchBare
import PyProof.Rows.CatchOwn
import PyProof.StationsW
import PyProof.SumWalk
import PyProof.ReprRoads
set_option Elab.async false
set_option linter.all false
set_option maxRecDepth 100000
namespace L2
open PySem PySem.Spec PyProof.Rows
abbrev Key:=Sum Int Str
def keyIs:Key->Value->Bool
 |.inl k,v=>Value.isInt k v
 |.inr x,v=>Value.isStrOf x v
def keyH(w:World):Key->Int
 |.inl k=>hashInt k
 |.inr x=>hashStr w x
theorem q0u:∀{k:Key} {v:Value},keyIs k v=true->(∃i t,k=Sum.inl i/\v=Value.int i t)\/(∃x t,k=Sum.inr x/\v=Value.str x t)
 |.inl i,v,h=>by
  obtain⟨t,e⟩:=Value.isInt_shape (k:=i) (v:=v) h;exact .inl ⟨i,t,rfl,e⟩
 |.inr x,v,h=>by
  obtain⟨t,e⟩:=Value.isStrOf_shape h;exact .inr ⟨x,t,rfl,e⟩
theorem z2o(i:Int)(t:Tok):keyIs (.inl i) (.int i t)=true:=by simp[keyIs,Value.isInt]
theorem z2p(x:Str)(t:Tok):keyIs (.inr x) (.str x t)=true:=by simp[keyIs,Value.isStrOf]
theorem key_ll(a b:Int):decide ((Sum.inl a:Key)=Sum.inl b)=(a==b):=by grind
theorem key_rr(a b:Str):decide ((Sum.inr a:Key)=Sum.inr b)=decide (a=b):=by grind
theorem key_lr(a:Int)(b:Str):decide ((Sum.inl a:Key)=Sum.inr b)=false:=decide_eq_false (fun q=>nomatch q)
theorem key_rl(a:Str)(b:Int):decide ((Sum.inr a:Key)=Sum.inl b)=false:=decide_eq_false (fun q=>nomatch q)
def mixKind(prog:Program)(w:World):PySem.KeyKind prog w Key where
 is:=keyIs
 hash:=keyH w
 inj:=fun v a b ha hb=>by
  rcases q0u ha with⟨i,t,rfl,rfl⟩|⟨x,t,rfl,rfl⟩
  ·rcases q0u hb with⟨j,u,rfl,e⟩|⟨y,u,rfl,e⟩
   ·injection e with e1 _;rw[e1]
   ·exact nomatch e
  ·rcases q0u hb with⟨j,u,rfl,e⟩|⟨y,u,rfl,e⟩
   ·exact nomatch e
   ·injection e with e1 _;rw[e1]
 byValue:=fun k v h=>by
  rcases q0u h with⟨i,t,rfl,rfl⟩|⟨x,t,rfl,rfl⟩<;>rfl
 pyHash:=fun hv h=>by
  rcases q0u hv with⟨i,t,rfl,rfl⟩|⟨x,t,rfl,rfl⟩
  ·exact wpAny_pyHash_int h
  ·exact wpAny_pyHash_str h
 eqBool:=fun hu hv h=>by
  rcases q0u hu with⟨i,t,rfl,rfl⟩|⟨x,t,rfl,rfl⟩
  ·rcases q0u hv with⟨j,u,rfl,rfl⟩|⟨y,u,rfl,rfl⟩
   ·rw[key_ll] at h;exact wpAny_eqBool_int h
   ·rw[key_lr] at h;exact SeqAt.EqAt.int_str i t y u _ _ _ _ h
  ·rcases q0u hv with⟨j,u,rfl,rfl⟩|⟨y,u,rfl,rfl⟩
   ·rw[key_rl] at h;exact SeqAt.EqAt.str_int x t j u _ _ _ _ h
   ·rw[key_rr] at h;exact wpAny_eqBool_str h
 «strs» := fun k x t v h=>by
  rcases q0u h with⟨i,u,rfl,e⟩|⟨y,u,rfl,e⟩
  ·exact nomatch e
  ·injection e with e1 _
   subst e1
   cases v<;>rfl
theorem q9h(prog:Program)(w:World)(i:Int)(t:Tok):(mixKind prog w).is (.inl i) (.int i t)=true:=z2o i t
theorem q9i(prog:Program)(w:World)(x:Str)(t:Tok):(mixKind prog w).is (.inr x) (.str x t)=true:=z2p x t
inductive V where
 |non|bl (b:Bool)|int (i:Int)|str (x:Str)|byt (b:Array UInt8)|flt (b:UInt64)|ref (a:Addr)|ty (n:String)
 deriving DecidableEq
def RelV:V->Value->Prop
 |.non,u=>u=Value.none
 |.bl b,u=>u=Value.bool b
 |.int i,u=>∃t,u=Value.int i t
 |.str x,u=>∃t,u=Value.str x t
 |.byt b,u=>∃t,u=Value.bytes b t
 |.flt b,u=>∃t,u=Value.float b t
 |.ref a,u=>u=Value.ref a
 |.ty n,u=>u=Value.type n
abbrev Vals:List V->List Value->Prop:=Paired RelV
theorem Vals.length(r:Vals xs us):xs.length=us.length:=Paired.length r
theorem Vals.get:∀{xs:List V} {us:List Value} {i:Nat} {x:V},Vals xs us->xs[i]?=some x->∃u,us[i]?=some u/\RelV x u
 |_,_,_,_,.nil,e=>by simp at e
 |_,_,0,_,.cons r _,e=>by simp at e;subst e;exact⟨_,rfl,r⟩
 |_,_,i+1,x,.cons _ t,e=>by
  obtain⟨u,h1,h2⟩:=Vals.get (i:=i) (x:=x) t (by simpa using e);exact⟨u,by simpa using h1,h2⟩
theorem Vals.set{x:V}{u:Value}(r:RelV x u):∀{xs:List V} {us:List Value} (i:Nat),Vals xs us->Vals (xs.set i x) (us.set i u)
 |_,_,_,.nil=>.nil
 |_,_,0,.cons _ t=>.cons r t
 |_,_,i+1,.cons q t=>.cons q (Vals.set r i t)
theorem Vals.append:∀{xs ys:List V} {us ws:List Value},Vals xs us->Vals ys ws->Vals (xs++ys) (us++ws)
 |_,_,_,_,.nil,s=>s
 |_,_,_,_,.cons r t,s=>.cons r (Vals.append t s)
theorem Vals.take:∀{xs:List V} {us:List Value} (n:Nat),Vals xs us->Vals (xs.take n) (us.take n)
 |_,_,0,_=>.nil
 |_,_,_+1,.nil=>.nil
 |_,_,n+1,.cons r t=>.cons r (Vals.take n t)
theorem Vals.drop:∀{xs:List V} {us:List Value} (n:Nat),Vals xs us->Vals (xs.drop n) (us.drop n)
 |_,_,0,r=>r
 |_,_,_+1,.nil=>.nil
 |_,_,n+1,.cons _ t=>Vals.drop n t
theorem Vals.none_of:∀{xs:List V} {us:List Value} {i:Nat},Vals xs us->xs[i]?=none->us[i]?=none:=fun{xs us i} r e=>by
 have h1:=r.length;have h2:=List.getElem?_eq_none_iff.mp e;exact List.getElem?_eq_none_iff.mpr (by lia)
def RelO:Option V->Option Value->Prop
 |some v,some u=>RelV v u
 |none,none=>True
 |_,_=>False
def KV{κ:Type}:List (κ×V)->List (κ×Value)->Prop:=Paired fun(p:κ×V) (q:κ×Value)=>p.1=q.1/\RelV p.2 q.2
def kV:Key->V
 |.inl i=>.int i
 |.inr x=>.str x
inductive HO where
 |lst (xs:List V)
 |tup (xs:List V)
 |dK (kvs:List (Key×V))|dT (kvs:List (List Key×V))
 |set (S:Int->Bool) (n:Nat)
 |ins (C dx:Addr) (fs:List (Str×V))
 |own (x:Addr)
 |xd (fs:List (Str×V))
 |met (f x:Addr)
 |rng (lo hi:Int)
 |frz (o:Obj) (u:HO)
 |tbl (ps:Array Value)
 |ext (φ:Heap->Prop)
abbrev Hp:=Addr->Option HO
def upd(H:Hp)(a:Addr)(o:HO):Hp:=fun b=>if b=a then some o else H b
theorem q0b:upd H a o a=some o:=by unfold upd;rw[if_pos rfl]
theorem q0c(h:b≠a):upd H a o b=H b:=by unfold upd;rw[if_neg h]
theorem z8b:upd (upd H a o) a u=upd H a u:=by
 funext b;unfold upd;split<;>rfl
theorem z2q{H:Hp}(h:H a=some o)(h':H b=some u)(d:o≠u):a≠b:=by grind
theorem q0h{H:Hp}(h:H a=some o)(h':H b=none):a≠b:=by
 intro e;subst e;rw[h] at h';cases h'
section
variable(P:Program)(w:World)
def ObjOk(H:Hp)(h:Heap)(a:Addr):HO->Prop
 |.lst xs=>xs.length<=sizeLine/\∃(its:List Value) (n:Nat),Vals xs its/\h.get? a=some { cls:=.type "list",data:=.seq its.toArray n }
 |.tup xs=>xs.length<=sizeLine/\∃its:List Value,Vals xs its/\IsTup h a its.toArray
 |.dK kvs=>kvs.length<=sizeLine/\(a==sysModules)=false/\∃vs,KV kvs vs/\h.DictOf (mixKind P w) a vs
 |.dT kvs=>kvs.length<=sizeLine/\(a==sysModules)=false/\∃xs:List (List Key×Addr×Value),
   Paired (fun(p:List Key×V) (q:List Key×Addr×Value)=>p.1=q.1/\H q.2.1=some (.tup (p.1.map kV))/\RelV p.2 q.2.2) kvs xs /\
   ∃o es ep,h.get? a=some o/\o.ExactDict/\o.data=.dict es ep/\es.toList=xs.map (entryOfKey (tupleKind (mixKind P w)))/\(xs.map (·.1)).Nodup
 |.set S n=>h.SetOf (intKind P w) a S n
 |.ins C dx fs=>H dx=some (.own a)/\fs.length<=1000/\dx≠a/\h.get? a=some (W.instObj C dx) /\
   ∃mA,h.Ns1 dx mA/\(∀f,RelO (fs.lookup f) (mA f))/\PySem.Within mA (fs.map (·.1))
 |.own _=>∃o,h.get? a=some o
 |.xd fs=>∃mA,h.Ns1 a mA/\∀f,RelO (fs.lookup f) (mA f)
 |.rng lo hi=>∃t u v,h.get? a=some { cls:=.type "range",data:=.fields #[.int lo t,.int hi u,.int 1 v] }
 |.frz o u=>h.get? a=some o/\ObjOk H h a u
 |.tbl ps=>h.get? a=some { cls:=.none,data:=.fields ps }
 |.met f x=>h.get? a=some (W.methodObj (.ref f) (.ref x))
 |.ext φ=>φ h/\(∃o,h.get? a=some o)/\∀h1 h2:Heap,φ h1->(∀o,h1.get? a=some o->h2.get? a=some o)->φ h2
def HOk(H:Hp)(h:Heap):Prop:=∀a o,H a=some o->ObjOk P w H h a o
end
section
variable{P:Program}{w:World}{H H':Hp}{h h':Heap}{a:Addr}{o:HO}
theorem ObjOk.lt(x:ObjOk P w H h a o):a<h.objs.size:=by
 cases o with
 |lst xs=>obtain⟨_,_,_,_,e⟩:=x;exact Heap.lt_size e
 |tup xs=>obtain⟨_,_,_,p⟩:=x;exact p.lt
 |dK kvs=>obtain⟨_,_,_,_,o,_,_,e,_⟩:=x;exact Heap.lt_size e
 |dT kvs=>obtain⟨_,_,_,_,o,_,_,e,_⟩:=x;exact Heap.lt_size e
 |set S n=>obtain⟨o,_,_,_,e,_⟩:=x;exact Heap.lt_size e
 |ins C dx fs=>obtain⟨_,_,_,e,_⟩:=x;exact Heap.lt_size e
 |own y=>obtain⟨_,e⟩:=x;exact Heap.lt_size e
 |xd fs=>obtain⟨_,⟨_,_,_,e,_⟩,_⟩:=x;exact Heap.lt_size e
 |rng lo hi=>obtain⟨_,_,_,e⟩:=x;exact Heap.lt_size e
 |frz ob u=>obtain⟨e,_⟩:=x;exact Heap.lt_size e
 |tbl ps=>exact Heap.lt_size (show h.get? a=some _ from x)
 |met f y=>exact Heap.lt_size (show h.get? a=some _ from x)
 |ext φ=>obtain⟨_,⟨_,e⟩,_⟩:=x;exact Heap.lt_size e
theorem Paired.mapP{α β:Type}{F G:α->β->Prop}:∀{l₁:List α} {l₂:List β},Paired F l₁ l₂->(∀a b,F a b->G a b)->Paired G l₁ l₂
 |_,_,.nil,_=>.nil
 |_,_,.cons r t,f=>.cons (f _ _ r) (Paired.mapP t f)
theorem Paired.imp'{F G:α->β->Prop}(f:∀a b,F a b->G a b){l₁:List α}{l₂:List β}(r:Paired F l₁ l₂):Paired G l₁ l₂:=Paired.mapP r f
theorem ObjOk.stay(x:ObjOk P w H h a o)(k:∀b u,(b=a\/H b=some (.own a))->h.get? b=some u->h'.get? b=some u)(ho:∀b,H b=some (.own a)->H' b=some (.own a))(ht:∀b xs,H b=some (.tup xs)->H' b=some (.tup xs)):ObjOk P w H' h' a o:=by
 induction o with
 |lst xs=>obtain⟨z,its,n,r,e⟩:=x;exact⟨z,its,n,r,k _ _ (.inl rfl) e⟩
 |tup xs=>obtain⟨z,its,r,ob,e,c⟩:=x;exact⟨z,its,r,ob,k _ _ (.inl rfl) e,c⟩
 |dK kvs=>obtain⟨z,y,vs,r,ob,es,ep,e,c⟩:=x;exact⟨z,y,vs,r,ob,es,ep,k _ _ (.inl rfl) e,c⟩
 |dT kvs =>
  obtain⟨z,y,xs,r,ob,es,ep,e,c⟩:=x;exact⟨z,y,xs,Paired.mapP r fun p q z=>⟨z.1,ht _ _ z.2.1,z.2.2⟩,ob,es,ep,k _ _ (.inl rfl) e,c⟩
 |set S n=>obtain⟨ob,es,ep,t,e,c⟩:=x;exact⟨ob,es,ep,t,k _ _ (.inl rfl) e,c⟩
 |ins C dx fs =>
  obtain⟨d,z,ne,e,mA,⟨od,es,ep,e2,c⟩,r⟩:=x;exact⟨ho _ d,z,ne,k _ _ (.inl rfl) e,mA,⟨od,es,ep,k _ _ (.inr d) e2,c⟩,r⟩
 |own y=>obtain⟨ob,e⟩:=x;exact⟨ob,k _ _ (.inl rfl) e⟩
 |xd fs=>obtain⟨mA,⟨od,es,ep,e,c⟩,r⟩:=x;exact⟨mA,⟨od,es,ep,k _ _ (.inl rfl) e,c⟩,r⟩
 |rng lo hi=>obtain⟨t,u,v,e⟩:=x;exact⟨t,u,v,k _ _ (.inl rfl) e⟩
 |frz ob u ih=>obtain⟨e,q⟩:=x;exact⟨k _ _ (.inl rfl) e,ih q⟩
 |tbl ps =>
  have e:h.get? a=some { cls:=.none,data:=.fields ps }:=x;exact k a _ (.inl rfl) e
 |met f y =>
  have e:=x;exact k a _ (.inl rfl) e
 |ext φ=>obtain⟨p,⟨o,e⟩,st⟩:=x;exact⟨st _ _ p fun o q=>k _ _ (.inl rfl) q,⟨o,k _ _ (.inl rfl) e⟩,st⟩
theorem HOk.lt(x:HOk P w H h)(e:H a=some o):a<h.objs.size:=(x a o e).lt
theorem HOk.fresh(x:HOk P w H h)(e:h.objs.size<=a):H a=none:=by
 cases q:H a with
 |none=>rfl
 |some u=>exact absurd (Nat.lt_of_lt_of_le (x.lt q) e) (Nat.lt_irrefl _)
theorem HOk.kept(x:HOk P w H h)(k:∀b u,h.get? b=some u->h'.get? b=some u):HOk P w H h':=fun a o e =>
 (x a o e).stay (fun b u _ q=>k b u q) (fun _ q=>q) fun _ _ q=>q
theorem HOk.laid(x:HOk P w H h)(k:∀b u,h.get? b=some u->h'.get? b=some u)(hp:h.objs.size<=a)(new:ObjOk P w (upd H a o) h' a o):HOk P w (upd H a o) h':=fun b u e=>by
 have hn:=x.fresh hp;by_cases hb:b=a
 ·subst hb;rw[q0b] at e;cases e;exact new
 ·rw[q0c hb] at e;exact(x b u e).stay (fun c v _ q=>k c v q) (fun c q=>by rw[q0c (q0h q hn)];exact q) fun c xs q=>by rw[q0c (q0h q hn)];exact q
end
def Rd(H:Hp)(a:Addr)(u:HO):Prop:=H a=some u\/∃o,H a=some (.frz o u)
theorem Rd.of(h:H a=some u):Rd H a u:=.inl h
theorem Rd.ok(r:Rd H a u)(x:HOk P w H h):ObjOk P w H h a u:=by
 rcases r with r|⟨o,r⟩
 ·exact x a u r
 ·obtain⟨_,q⟩:=x a _ r;exact q
def Mut:Option HO->Prop
 |some (.lst _)=>True
 |some (.dK _)=>True
 |some (.dT _)=>True
 |some (.set _ _)=>True
 |some (.ins _ _ _)=>True
 |some (.ext _)=>True
 |_=>False
section
variable{P:Program}{w:World}{H:Hp}{h h':Heap}{x e:Addr}{o':HO}
theorem HOk.write(ok:HOk P w H h)(mu:Mut (H x))(he:e=x\/H e=some (.own x))(k:∀b u,b≠e->h.get? b=some u->h'.get? b=some u)(heo:∃u,h'.get? e=some u)(new:ObjOk P w (upd H x o') h' x o'):HOk P w (upd H x o') h':=fun b u q=>by
 have nown:∀c y,H c=some (.own y)->c≠x:=fun c y r z=>by subst z;rw[r] at mu;exact mu
 have ntup:∀c xs,H c=some (.tup xs)->c≠x:=fun c xs r z=>by subst z;rw[r] at mu;exact mu
 by_cases hb:b=x
 ·subst hb;rw[q0b] at q;cases q;exact new
 ·rw[q0c hb] at q;by_cases hbe:b=e
  ·have q':H b=some (.own x):=by
    rcases he with z|z
    ·grind
    ·rw[hbe];exact z
   rw[q] at q';cases q';obtain⟨v,hv⟩:=heo;exact⟨v,by rw[hbe];exact hv⟩
  ·refine(ok b u q).stay (fun c v hc r=>k c v ?_ r) (fun c r=>by rw[q0c (nown c b r)];exact r) fun c xs r=>by rw[q0c (ntup c xs r)];exact r
   rcases hc with rfl|hc
   ·exact hbe
   ·grind
end
structure Un (fs ex:List Addr) (H H':Hp) (h h':Heap):Prop where
 keep:∀b o,h.get? b=some o->H b=none->b∉fs->b∉ex->h'.get? b=some o
 slot:∀b o,h.get? b=some o->H b=none->b∈fs->b∉ex->∃sl,h'.get? b=some { o with slots:=sl }
 free:∀b o,h.get? b=some o->H b=none->b∉ex->H' b=none
 there:∀b o,h.get? b=some o->b∉ex->∃o',h'.get? b=some o'
 tups:∀b xs,H b=some (.tup xs)->H' b=some (.tup xs)
 frzs:∀b o u,H b=some (.frz o u)->H' b=some (.frz o u)
 tbls:∀b ps,H b=some (.tbl ps)->∃more,H' b=some (.tbl (ps++more))
section
variable{fs fs' ex ex':List Addr}{H H1 H2:Hp}{h h1 h2 h':Heap}{a x e:Addr}{o:HO}
theorem Un.any(u:Un fs ex H H1 h h1)(q:h.get? b=some ob)(n:H b=none)(hx:b∉ex):∃sl,h1.get? b=some { ob with slots:=sl }:=by
 by_cases hb:b∈fs
 ·exact u.slot b ob q n hb hx
 ·exact⟨ob.slots,u.keep b ob q n hb hx⟩
theorem Un.trans(a:Un fs ex H H1 h h1)(b:Un fs ex H1 H2 h1 h2):Un fs ex H H2 h h2 where
 keep:=fun c ob q n hc hx=>b.keep c ob (a.keep c ob q n hc hx) (a.free c ob q n hx) hc hx
 slot:=fun c ob q n hc hx=>by
  obtain⟨sl,e1⟩:=a.slot c ob q n hc hx;obtain⟨sl',e2⟩:=b.slot c _ e1 (a.free c ob q n hx) hc hx;exact⟨sl',e2⟩
 free:=fun c ob q n hx=>by
  obtain⟨o',e1⟩:=a.there c ob q hx;exact b.free c o' e1 (a.free c ob q n hx) hx
 there:=fun c ob q hx=>by
  obtain⟨o',e1⟩:=a.there c ob q hx;exact b.there c o' e1 hx
 tups:=fun c xs q=>b.tups c xs (a.tups c xs q)
 frzs:=fun c ob xs q=>b.frzs c ob xs (a.frzs c ob xs q)
 tbls:=fun c ps q=>by
  obtain⟨m1,e1⟩:=a.tbls c ps q;obtain⟨m2,e2⟩:=b.tbls c _ e1;exact⟨m1++m2,by rw[e2,Array.append_assoc]⟩
theorem Un.kept(k:∀b u,h.get? b=some u->h'.get? b=some u):Un fs ex H H h h' :=
 ⟨fun b ob q _ _ _=>k b ob q,fun b ob q _ _ _=>⟨ob.slots,k b ob q⟩,fun _ _ _ n _=>n,fun b ob q _=>⟨ob,k b ob q⟩,fun _ _ q=>q,fun _ _ _ q=>q,fun _ ps q=>⟨#[],by rw[q];simp⟩⟩
theorem Un.refl:Un fs ex H H h h:=Un.kept fun _ _ q=>q
theorem Un.laid(k:∀b u,h.get? b=some u->h'.get? b=some u)(hp:h.objs.size<=a)(hn:H a=none):Un fs ex H (upd H a o) h h' where
 keep:=fun b u q _ _ _=>k b u q
 slot:=fun b u q _ _ _=>⟨u.slots,k b u q⟩
 free:=fun b u q n _=>by rw[q0c (Nat.ne_of_lt (Nat.lt_of_lt_of_le (Heap.lt_size q) hp))];exact n
 there:=fun b u q _=>⟨u,k b u q⟩
 tups:=fun b xs q=>by rw[q0c (q0h q hn)];exact q
 frzs:=fun b u xs q=>by rw[q0c (q0h q hn)];exact q
 tbls:=fun b ps q=>⟨#[],by rw[q0c (q0h q hn),q];simp⟩
theorem Un.write(mu:Mut (H x))(he:e=x\/H e=some (.own x))(k:∀b u,b≠e->h.get? b=some u->h'.get? b=some u)(heo:∃u,h'.get? e=some u):Un fs ex H (upd H x o) h h':=by
 have hx:∀b,H b=none->b≠x:=fun b n z=>by subst z;rw[n] at mu;exact mu
 have hb:∀b,H b=none->b≠e:=fun b n z=>by
  subst z;rcases he with r|r
  ·exact hx b n r
  ·rw[n] at r;cases r
 have hm:∀b u,H b=some u->¬Mut (some u)->b≠x:=fun b u q nm z=>by subst z;rw[q] at mu;exact nm mu
 refine⟨fun b u q n _ _=>k b u (hb b n) q,fun b u q n _ _=>⟨u.slots,k b u (hb b n) q⟩,fun b u q n _=>by rw[q0c (hx b n)];exact n,fun b u q _=>?_,
  fun b xs q=>by rw[q0c (hm b _ q fun z=>z)];exact q,fun b u xs q=>by rw[q0c (hm b _ q fun z=>z)];exact q,fun b ps q=>⟨#[],by rw[q0c (hm b _ q fun z=>z),q];simp⟩⟩
 by_cases hbe:b=e
 ·subst hbe;exact heo
 ·grind
theorem Un.mono(u:Un fs ex H H1 h h1)(hs:∀b∈fs,b∈fs')(hx:∀b∈ex,b∈ex'):Un fs' ex' H H1 h h1 :=
 ⟨fun b ob q n hb he=>u.keep b ob q n (fun z=>hb (hs b z)) fun z=>he (hx b z),fun _ _ q n _ he=>u.any q n fun z=>he (hx _ z),fun b ob q n he=>u.free b ob q n fun z=>he (hx b z),fun b ob q he=>u.there b ob q fun z=>he (hx b z),u.tups,u.frzs,u.tbls⟩
end
def trk(h:Heap)(H:Hp):List Addr:=(List.range h.objs.size).filter fun a=>(H a).isSome
def hidT(h:Heap)(H:Hp):Heap:=W.hideAll h (trk h H)
theorem z2r(h:Heap)(H:Hp):(hidT h H).objs.size=h.objs.size:=W.hideAll_size _ _
theorem z5g(e:h.get? b=some o)(n:H b=none):(hidT h H).get? b=some o :=
 W.hideAll_get _ e fun hm=>by
  have q:=(List.mem_filter.mp hm).2;rw[n] at q;simp at q
theorem z8c(e:(hidT h H).get? b=some o):h.get? b=some o/\H b=none:=by
 have e':=W.of_hideAll (trk h H) e;refine⟨e',?_⟩;cases q:H b with
 |none=>rfl
 |some x =>
  have hm:b∈trk h H:=List.mem_filter.mpr ⟨List.mem_range.mpr (Heap.lt_size e'),by simp[q]⟩;have z:(hidT h H).get? b=none:=W.hideAll_none (trk h H) hm;rw[z] at e;cases e
def allNews(g h:Heap)(L:Addr):List (Addr×Obj):=(List.range h.objs.size).filterMap fun a=>if a=L\/(g.get? a).isSome=true then none else(h.get? a).map fun o=>(a,o)
def rest(g h:Heap)(L d:Addr):List (Addr×Obj):=(allNews g h L).filter fun p=>decide (p.1≠d)
open PySem PySem.Spec PyProof.Rows
structure Mod (K:W.Frag) (mg:Str->Option Value) (base:Heap):Prop where
 kin:K.In base
 glob:base.Ns mainGlobals mg
 blt:∃mb,base.Ns builtinsNs mb/\∀x:Str,x ≠ "__name__" -> mb x=bootBuiltins x
 nolimit:base.NoLimit
structure Cx where
 prog:Program
 w:World
 K:W.Frag
 mg:Str->Option Value
 base:Heap
 A:Around
 N:List Str
 s₀:Shared
 H₀:Hp
 env:Env
 outer:List Env
 stack:List Env
 ex:List Addr
 fn:Str->Bool
 calm:Bool
 pn:List (Addr×Obj)
 xe:Value->Shared->Prop
def frs(l:List Env):List Addr:=l.filterMap (·.frame)
abbrev Cx.fs(X:Cx):List Addr:=frs X.outer
def Vis(sc:Scope)(x:Str):Prop:=sc.names.lookup x=some .local\/sc.names.lookup x=some .cell\/sc.names.lookup x=some .free
def Loc(sc:Scope)(x:Str):Prop:=sc.names.lookup x=some .local\/sc.names.lookup x=some .cell
def Look(env:Env)(h:Heap)(m:Str->Option Value)(x:Str)(u:Value):Prop :=
 (env.kindOf x=some .local/\m x=some u)\/((env.kindOf x=some .cell\/env.kindOf x=some .free)/\∃c,env.cells.lookup x=some c/\h.IsCell c (some u))
structure Cx.Ok (X:Cx):Prop where
 mod:Mod X.K X.mg X.base
 kind:X.env.scope.kind=.function
 glob:X.env.globals=mainGlobals
 blt:X.env.builtins=builtinsNs
 above:X.s₀.heap.objs.size<=X.env.locals
 inj:∀x y c,X.env.cells.lookup x=some c->X.env.cells.lookup y=some c->x=y
 has:∀x,(X.env.kindOf x=some .cell\/X.env.kindOf x=some .free)->∃c,X.env.cells.lookup x=some c
 cab:∀x c,X.fn x=true->X.env.cells.lookup x=some c->X.s₀.heap.objs.size<=c
 hd:X.calm=true->X.A.handled=none
 frames:X.A.frames=some X.stack
 stk:X.stack=X.outer\/(X.stack=X.env::X.outer/\X.env.frame=some X.env.locals)
 exf:∀b∈X.ex,b≠X.env.locals/\∀x c,X.env.cells.lookup x=some c->c≠b
 bs:∀b o,X.base.get? b=some o->X.s₀.heap.get? b=some o/\X.H₀ b=none
 bsz:X.base.objs.size<=X.s₀.heap.objs.size
 noex:∀b o,X.base.get? b=some o->b∉X.ex
 exfs:∀b∈X.ex,b∉X.fs
 funs:X.s₀.heap.FunFrames X.base X.outer
 frf:∀b∈X.fs,X.H₀ b=none
structure Inv (X:Cx) (pins:List (Addr×Obj)) (σ:List (Option V)) (H:Hp) (s:Shared):Prop where
 ok:X.Ok
 os:s.os=X.s₀.os
 bare:AllBare s.gens
 base:Un X.fs X.ex X.H₀ H X.s₀.heap s.heap
 loc:∃m,s.heap.Ns X.env.locals m/\∀(i:Nat) (x:Str) (v:V),X.N[i]?=some x->σ[i]?=some (some v)->Vis X.env.scope x->∃u,RelV v u/\Look X.env s.heap m x u
 cell:∀x c,X.env.cells.lookup x=some c->∃v,s.heap.IsCell c v
 free:H X.env.locals=none
 freeC:∀x c,X.env.cells.lookup x=some c->H c=none
 pin:∀p∈X.pn++pins,s.heap.get? p.1=some p.2/\H p.1=none/\p.1≠X.env.locals/\p.1∉X.fs/\∀v,p.2.data≠.cell v
 hok:HOk X.prog X.w H s.heap
 len:σ.length=X.N.length
section
variable{X:Cx}{pins:List (Addr×Obj)}{σ:List (Option V)}{H H':Hp}{s:Shared}{h':Heap}
theorem Cx.Ok.nofr(ok:X.Ok)(e:X.base.get? b=some o):b∉X.fs:=fun hb=>by
 have:=(ok.funs.mem hb).1;rw[e] at this;cases this
theorem Inv.bs(I:Inv X pins σ H s):∀b o,X.base.get? b=some o->s.heap.get? b=some o/\H b=none:=fun b o e =>
 ⟨I.base.keep b o (I.ok.bs b o e).1 (I.ok.bs b o e).2 (I.ok.nofr e) (I.ok.noex b o e),I.base.free b o (I.ok.bs b o e).1 (I.ok.bs b o e).2 (I.ok.noex b o e)⟩
theorem Inv.bk(I:Inv X pins σ H s):∀b o,X.base.get? b=some o->s.heap.get? b=some o:=fun b o e=>(I.bs b o e).1
theorem Inv.mod(I:Inv X pins σ H s):Mod X.K X.mg X.base:=I.ok.mod
theorem Inv.kIn(I:Inv X pins σ H s):X.K.In s.heap:=I.ok.mod.kin.keeps I.bk
theorem Inv.nolimit(I:Inv X pins σ H s):s.heap.NoLimit:=I.ok.mod.nolimit.keeps I.bk
theorem Inv.lt(I:Inv X pins σ H s):X.env.locals<s.heap.objs.size:=let ⟨_,hn,_⟩:=I.loc;hn.lt
theorem Inv.sz(I:Inv X pins σ H s):X.s₀.heap.objs.size<=s.heap.objs.size:=Nat.le_trans I.ok.above (Nat.le_of_lt I.lt)
theorem Inv.nofs(I:Inv X pins σ H s){a:Addr}(h:s.heap.objs.size<=a):a∉X.fs:=fun hb=>by
 obtain⟨_,o,ho,_⟩:=I.ok.funs.mem hb;exact absurd (Nat.lt_of_lt_of_le (Heap.lt_size ho) (Nat.le_trans I.sz h)) (Nat.lt_irrefl _)
theorem Inv.cne(I:Inv X pins σ H s):∀x c,X.env.cells.lookup x=some c->c≠X.env.locals:=fun x c e z=>by
 obtain⟨v,o,ho,hd⟩:=I.cell x c e;obtain⟨m,⟨o',es,ep,ho',hd',_⟩,_⟩:=I.loc;rw[z,ho'] at ho;cases ho;rw[hd'] at hd;cases hd
theorem Inv.funs(I:Inv X pins σ H s):s.heap.FunFrames X.base X.outer:=by
 have all:∀(l:List Env),(∀b∈frs l,b∈X.fs)->X.s₀.heap.FunFrames X.base l->s.heap.FunFrames X.base l:=by
  intro l;induction l with
  |nil=>intro _ _;trivial
  |cons env r ih =>
   intro hs hl;obtain⟨hk,⟨L,o,hf,hn,ho,hd⟩,hr⟩:=hl;have hL:=hs L (by unfold frs;rw[List.filterMap_cons,hf];exact List.mem_cons_self);obtain⟨sl,e⟩:=I.base.slot L o ho (I.ok.frf L hL) hL fun z=>I.ok.exfs L z hL;exact⟨hk,⟨L,_,hf,hn,e,hd⟩,ih (fun b hb=>hs b (by unfold frs;rw[List.filterMap_cons,hf];exact List.mem_cons_of_mem _ hb)) hr⟩
 exact all X.outer (fun _ hb=>hb) I.ok.funs
theorem Inv.stack(I:Inv X pins σ H s):s.heap.FunFrames X.base X.stack:=by
 rcases I.ok.stk with e|⟨e,hf⟩
 ·rw[e];exact I.funs
 ·rw[e];obtain⟨m,hn,_⟩:=I.loc;refine .cons (by rw[I.ok.kind];decide) hf hn ?_ I.funs;exact Heap.get?_none_of_le (Nat.le_trans I.ok.bsz I.ok.above)
theorem Inv.stkSub(I:Inv X pins σ H s):∀b∈frs X.stack,b∈X.env.locals::X.fs:=fun b hb=>by
 rcases I.ok.stk with e|⟨e,hf⟩
 ·grind
 ·rw[e] at hb;unfold frs at hb;rw[List.filterMap_cons,hf] at hb;exact hb
theorem Inv.stkFree(I:Inv X pins σ H s):∀b∈frs X.stack,H b=none:=fun b hb=>by
 rcases List.mem_cons.mp (I.stkSub b hb) with e|hb
 ·rw[e];exact I.free
 ·obtain⟨_,o,ho,_⟩:=I.ok.funs.mem hb;exact I.base.free b o ho (I.ok.frf b hb) fun z=>I.ok.exfs b z hb
theorem Inv.step{ch:List Addr}(I:Inv X pins σ H s)(hch:∀b∈ch,(b∈X.ex\/X.s₀.heap.objs.size<=b)/\b≠X.env.locals/\(∀x c,X.env.cells.lookup x=some c->c≠b)/\∀p∈X.pn++pins,p.1≠b)(keep:∀b o,b≠X.env.locals->b∉X.fs->b∉ch->s.heap.get? b=some o->H b=none->h'.get? b=some o)(slot:∀b o,b≠X.env.locals->b∈X.fs->b∉ch->s.heap.get? b=some o->H b=none->∃sl,h'.get? b=some { o with slots:=sl })(free:∀b o,b∉ch->s.heap.get? b=some o->H b=none->H' b=none)(there:∀b o,b∉ch->s.heap.get? b=some o->∃o',h'.get? b=some o')(tups:∀b xs,H b=some (.tup xs)->H' b=some (.tup xs))(frzs:∀b o u,H b=some (.frz o u)->H' b=some (.frz o u))(tbls:∀b ps,H b=some (.tbl ps)->∃more,H' b=some (.tbl (ps++more)))(ns:∀m,s.heap.Ns X.env.locals m->h'.Ns X.env.locals m)(hok:HOk X.prog X.w H' h')(hg:AllBare g'):
  Inv X pins σ H' { s with heap:=h',gens:=g',drawn:=d',toks:=t' }:=by
 have neL:∀b o,X.s₀.heap.get? b=some o->b≠X.env.locals:=fun b o e=>Nat.ne_of_lt (Nat.lt_of_lt_of_le (Heap.lt_size e) I.ok.above);have neC:∀b o,X.s₀.heap.get? b=some o->b∉X.ex->b∉ch:=fun b o e hx hb=>by
  rcases(hch b hb).1 with z|z
  ·exact hx z
  ·exact absurd (Nat.lt_of_lt_of_le (Heap.lt_size e) z) (Nat.lt_irrefl _)
 have cellK:∀x c,X.env.cells.lookup x=some c->∀v,s.heap.IsCell c v->h'.IsCell c v:=fun x c e v ⟨o,ho,hd⟩=>by
  have nch:=fun z=>(hch c z).2.2.1 x c e rfl;by_cases hc:c∈X.fs
  ·obtain⟨sl,q⟩:=slot c o (I.cne x c e) hc nch ho (I.freeC x c e);exact⟨_,q,hd⟩
  ·exact⟨o,keep c o (I.cne x c e) hc nch ho (I.freeC x c e),hd⟩
 refine⟨I.ok,I.os,hg,⟨fun b o e n hb hx=>?_,fun b o e n hb hx=>?_,fun b o e n hx=>?_,fun b o e hx=>?_,fun b xs e=>tups b xs (I.base.tups b xs e),fun b o xs e=>frzs b o xs (I.base.frzs b o xs e),fun b ps e=>?_⟩,?_,fun x c e=>?_,?_,fun x c e=>?_,fun p hp=>?_,hok,I.len⟩
 ·exact keep b o (neL b o e) hb (neC b o e hx) (I.base.keep b o e n hb hx) (I.base.free b o e n hx)
 ·obtain⟨sl,e1⟩:=I.base.slot b o e n hb hx;obtain⟨sl',e2⟩:=slot b _ (neL b o e) hb (neC b o e hx) e1 (I.base.free b o e n hx);exact⟨sl',e2⟩
 ·obtain⟨o',e1⟩:=I.base.there b o e hx;exact free b o' (neC b o e hx) e1 (I.base.free b o e n hx)
 ·obtain⟨o',e1⟩:=I.base.there b o e hx;exact there b o' (neC b o e hx) e1
 ·obtain⟨m1,e1⟩:=I.base.tbls b ps e;obtain⟨m2,e2⟩:=tbls b _ e1;exact⟨m1++m2,by rw[e2,Array.append_assoc]⟩
 ·obtain⟨m,hn,hl⟩:=I.loc;refine⟨m,ns m hn,fun i x v e1 e2 e3=>?_⟩;obtain⟨u,r,l⟩:=hl i x v e1 e2 e3;refine⟨u,r,?_⟩;rcases l with l|⟨k,c,e,z⟩
  ·exact .inl l
  ·exact .inr ⟨k,c,e,cellK x c e _ z⟩
 ·obtain⟨v,z⟩:=I.cell x c e;exact⟨v,cellK x c e v z⟩
 ·obtain⟨m,⟨o,_,_,ho,_⟩,_⟩:=I.loc;exact free _ o (fun z=>(hch _ z).2.1 rfl) ho I.free
 ·obtain⟨v,o,ho,hd⟩:=I.cell x c e;exact free c o (fun z=>(hch c z).2.2.1 x c e rfl) ho (I.freeC x c e)
 ·obtain⟨e,n,ne,nf,d⟩:=I.pin p hp;have nch:=fun z=>(hch p.1 z).2.2.2 p hp rfl
  exact⟨keep p.1 p.2 ne nf nch e n,free p.1 p.2 nch e n,ne,nf,d⟩
theorem Inv.un(I:Inv X pins σ H s)(u:Un X.fs [] H H' s.heap h')(hok:HOk X.prog X.w H' h'):Inv X pins σ H' { s with heap:=h',toks:=t' }:=by
 obtain⟨m,⟨o,es,ep,ho,r⟩,_⟩:=id I.loc;obtain⟨sl,hL⟩:=u.any ho I.free (by simp);exact I.step (g':=s.gens) (d':=s.drawn) (ch:=[]) (fun _ z=>nomatch z) (fun b o _ hb _ e n=>u.keep b o e n hb (by simp)) (fun b o _ hb _ e n=>u.slot b o e n hb (by simp)) (fun b o _ e n=>u.free b o e n (by simp)) (fun b o _ e=>u.there b o e (by simp)) u.tups u.frzs u.tbls (fun m' hm=>by
  obtain⟨o',es',ep',ho',r'⟩:=hm;rw[ho] at ho';cases ho';exact⟨_,es',ep',hL,r'⟩) hok I.bare
theorem Inv.call(I:Inv X pins σ H s)(u:Un (frs X.stack) ch H H' s.heap h')(hok:HOk X.prog X.w H' h')(hg:AllBare g')(hch:∀b∈ch,(b∈X.ex\/X.s₀.heap.objs.size<=b)/\b≠X.env.locals/\(∀x c,X.env.cells.lookup x=some c->c≠b)/\∀p∈X.pn++pins,p.1≠b):
  Inv X pins σ H' { s with heap:=h',gens:=g',drawn:=d',toks:=t' }:=by
 obtain⟨m,⟨o,es,ep,ho,r⟩,_⟩:=id I.loc;obtain⟨sl,hL⟩:=u.any ho I.free fun z=>(hch _ z).2.1 rfl
 exact I.step hch (fun b o hL hb hc e n=>u.keep b o e n (fun z=>(List.mem_cons.mp (I.stkSub b z)).elim hL hb) hc) (fun b o _ _ hc e n=>u.any e n hc) (fun b o hc e n=>u.free b o e n hc) (fun b o hc e=>u.there b o e hc) u.tups u.frzs u.tbls (fun m' hm=>by
  obtain⟨o',es',ep',ho',r'⟩:=hm;rw[ho] at ho';cases ho';exact⟨_,es',ep',hL,r'⟩) hok hg
theorem Inv.turned(I:Inv X pins σ H s)(k:∀b o,b≠it->s.heap.get? b=some o->h'.get? b=some o)(hn:H it=none)(hL:it≠X.env.locals)(h1:it∈X.ex\/X.s₀.heap.objs.size<=it)(h2:∀x c,X.env.cells.lookup x=some c->c≠it)(h3:∀p∈X.pn++pins,p.1≠it):Inv X pins σ H { s with heap:=h',toks:=t' }:=by
 have nit:∀b u,H b=some u->b≠it:=fun b u e z=>by rw[z,hn] at e;cases e
 refine I.step (g':=s.gens) (d':=s.drawn) (ch:=[it]) (fun b hb=>?_) (fun b o _ _ hc e _=>k b o (fun z=>hc (by simp[z])) e) (fun b o _ _ hc e _=>⟨o.slots,k b o (fun z=>hc (by simp[z])) e⟩) (fun _ _ _ _ n=>n)
  (fun b o hc e=>⟨o,k b o (fun z=>hc (by simp[z])) e⟩) (fun _ _ e=>e) (fun _ _ _ e=>e) (fun b ps e=>⟨#[],by rw[e];simp⟩) (fun m hm=>?_) (fun b u e=>?_) I.bare
 ·have e:b=it:=by simpa using hb
  subst e;exact⟨h1,hL,h2,h3⟩
 ·obtain⟨o,es,ep,ho,r⟩:=hm;exact⟨o,es,ep,k _ o (Ne.symm hL) ho,r⟩
 ·refine(I.hok b u e).stay (fun c v hc q=>k c v ?_ q) (fun _ q=>q) fun _ _ q=>q;rcases hc with z|z
  ·rw[z];exact nit b u e
  ·exact nit c _ z
theorem Inv.tok(I:Inv X pins σ H s)(t:Nat):Inv X pins σ H { s with toks:=t }:=I.un (h':=s.heap) (t':=t) Un.refl I.hok
theorem Inv.kept(I:Inv X pins σ H s)(k:∀b u,s.heap.get? b=some u->h'.get? b=some u):Inv X pins σ H { s with heap:=h',toks:=t' }:=I.un (Un.kept k) (I.hok.kept k)
theorem Inv.laid{a:Addr}(I:Inv X pins σ H s)(k:∀b u,s.heap.get? b=some u->h'.get? b=some u)(hp:s.heap.objs.size<=a)(new:ObjOk X.prog X.w (upd H a o) h' a o):
  Inv X pins σ (upd H a o) { s with heap:=h',toks:=t' }:=I.un (Un.laid k hp (I.hok.fresh hp)) (I.hok.laid k hp new)
theorem Inv.write(I:Inv X pins σ H s)(mu:Mut (H x))(he:e=x\/H e=some (.own x))(k:∀b u,b≠e->s.heap.get? b=some u->h'.get? b=some u)(heo:∃u,h'.get? e=some u)(new:ObjOk X.prog X.w (upd H x o) h' x o):Inv X pins σ (upd H x o) { s with heap:=h',toks:=t' }:=I.un (Un.write mu he k heo) (I.hok.write mu he k heo new)
theorem Inv.weak(I:Inv X pins σ H s)(hl:σ'.length=σ.length)(w:∀(i:Nat) v,σ'[i]?=some (some v)->σ[i]?=some (some v)):Inv X pins σ' H s :=
 ⟨I.ok,I.os,I.bare,I.base,let ⟨m,hn,hl'⟩:=I.loc;⟨m,hn,fun i x v e1 e2 e3=>hl' i x v e1 (w i v e2) e3⟩,I.cell,I.free,I.freeC,I.pin,I.hok,hl.trans I.len⟩
theorem Inv.pins_of(I:Inv X pins σ H s)(h:∀p∈pins',s.heap.get? p.1=some p.2/\H p.1=none/\p.1≠X.env.locals/\p.1∉X.fs/\∀v,p.2.data≠.cell v):Inv X pins' σ H s :=
 ⟨I.ok,I.os,I.bare,I.base,I.loc,I.cell,I.free,I.freeC,fun p hp=>(List.mem_append.mp hp).elim (fun z=>I.pin p (List.mem_append_left _ z)) (h p),I.hok,I.len⟩
theorem z0j{N:List Str}(hN:N.Nodup){j:Nat}(a:N[i]?=some x)(b:N[j]?=some x):i=j:=by
 obtain⟨h1,e1⟩:=List.getElem?_eq_some_iff.mp a;obtain⟨h2,e2⟩:=List.getElem?_eq_some_iff.mp b;exact(List.getElem_inj hN).mp (e1.trans e2.symm)
theorem q4q(I:Inv X pins σ H s)(hN:X.N.Nodup)(hi:X.N[i]?=some x)(hx:Loc X.env.scope x)(r:RelV v u)(h:∀s',Inv X pins (σ.set i (some v)) H s'->(∃a,Heap.SameBut a s.heap s'.heap/\(a=X.env.locals\/X.env.cells.lookup x=some a))->Q () s')(hf:X.fn x=true\/X.env.scope.names.lookup x=some .local:=by first|exact .inl rfl|exact .inr rfl|assumption):wpAny M A (storeName X.env x u) Q E s:=by
 obtain⟨m,hn,hl⟩:=id I.loc;have hcls:(X.env.scope.kind==.class||(X.env.scope.kind==.module&&X.env.locals != X.env.globals))=false:=by rw[I.ok.kind];rfl
 have hiσ:i<σ.length:=by rw[I.len];exact(List.getElem?_eq_some_iff.mp hi).1
 have cne:=I.cne;have tracked:∀{a:Addr} {h':Heap},(∃o,s.heap.get? a=some o/\H a=none)->Heap.SameBut a s.heap h'->HOk X.prog X.w H h':=fun{a h'} ha hs b ob e=>by
  obtain⟨_,_,hfree⟩:=ha;refine(I.hok b ob e).stay (fun c w' hc q=>(hs.2 c ?_).trans q) (fun _ q=>q) fun _ _ q=>q
  rcases hc with rfl|hc
  ·grind
  ·grind
 rcases hx with hk|hk
 ·refine wpAny_storeName_local hk hn (fun h' hn' hs=>?_) hcls;obtain⟨oL,_,_,hoL,_⟩:=id hn;refine h _ ⟨I.ok,I.os,I.bare,⟨fun b o e n hb hx=>?_,fun b o e n hb hx=>?_,I.base.free,fun b o e hx=>?_,I.base.tups,I.base.frzs,I.base.tbls⟩,⟨_,hn',fun j y v' e1 e2 e3=>?_⟩,fun y c e=>?_,I.free,I.freeC,fun p hp=>?_,tracked ⟨oL,hoL,I.free⟩ hs,by simpa using I.len⟩ ⟨_,hs,.inl rfl⟩
  ·exact(hs.2 b (Nat.ne_of_lt (Nat.lt_of_lt_of_le (Heap.lt_size e) I.ok.above))).trans (I.base.keep b o e n hb hx)
  ·obtain⟨sl,e1⟩:=I.base.slot b o e n hb hx;exact⟨sl,(hs.2 b (Nat.ne_of_lt (Nat.lt_of_lt_of_le (Heap.lt_size e) I.ok.above))).trans e1⟩
  ·obtain⟨o',e1⟩:=I.base.there b o e hx;exact⟨o',(hs.2 b (Nat.ne_of_lt (Nat.lt_of_lt_of_le (Heap.lt_size e) I.ok.above))).trans e1⟩
  ·by_cases hj:j=i
   ·subst hj;rw[hi] at e1;cases e1;rw[List.getElem?_set_self hiσ] at e2;cases e2;exact⟨u,r,.inl ⟨hk,by simp⟩⟩
   ·rw[List.getElem?_set_ne (Ne.symm hj)] at e2;obtain⟨u',r',q⟩:=hl j y v' e1 e2 e3;refine⟨u',r',?_⟩;rcases q with⟨k,e⟩|⟨k,c,e,z⟩
    ·refine .inl ⟨k,?_⟩;have:y≠x:=fun e=>hj (z0j hN e1 (e▸hi));simp[this,e]
    ·exact .inr ⟨k,c,e,z.sameBut hs (cne y c e)⟩
  ·obtain⟨w',z⟩:=I.cell y c e;exact⟨w',z.sameBut hs (cne y c e)⟩
  ·obtain⟨e,n,ne,nf,d⟩:=I.pin p hp;exact⟨(hs.2 p.1 ne).trans e,n,ne,nf,d⟩
 ·have hfn:X.fn x=true:=by
   rcases hf with z|z
   ·exact z
   ·grind
  obtain⟨c,hc⟩:=I.ok.has x (.inl hk);obtain⟨w',z⟩:=I.cell x c hc;refine wpAny_storeName_cell I.ok.kind hk hc z (fun h' hc' hs=>?_);obtain⟨oc,hoc,hocd⟩:=id z;refine h { s with heap:=h' } ⟨I.ok,I.os,I.bare,⟨fun b o e n hb hx=>?_,fun b o e n hb hx=>?_,I.base.free,fun b o e hx=>?_,I.base.tups,I.base.frzs,I.base.tbls⟩,⟨m,hn.sameBut hs (Ne.symm (cne x c hc)),fun j y v' e1 e2 e3=>?_⟩,fun y c' e=>?_,I.free,I.freeC,fun p hp=>?_,tracked ⟨oc,hoc,I.freeC x c hc⟩ hs,by simpa using I.len⟩ ⟨c,hs,.inr hc⟩
  ·exact(hs.2 b (Nat.ne_of_lt (Nat.lt_of_lt_of_le (Heap.lt_size e) (I.ok.cab x c hfn hc)))).trans (I.base.keep b o e n hb hx)
  ·obtain⟨sl,e1⟩:=I.base.slot b o e n hb hx;exact⟨sl,(hs.2 b (Nat.ne_of_lt (Nat.lt_of_lt_of_le (Heap.lt_size e) (I.ok.cab x c hfn hc)))).trans e1⟩
  ·obtain⟨o',e1⟩:=I.base.there b o e hx;exact⟨o',(hs.2 b (Nat.ne_of_lt (Nat.lt_of_lt_of_le (Heap.lt_size e) (I.ok.cab x c hfn hc)))).trans e1⟩
  ·by_cases hj:j=i
   ·subst hj;rw[hi] at e1;cases e1;rw[List.getElem?_set_self hiσ] at e2;cases e2;exact⟨u,r,.inr ⟨.inl hk,c,hc,hc'⟩⟩
   ·rw[List.getElem?_set_ne (Ne.symm hj)] at e2;obtain⟨u',r',q⟩:=hl j y v' e1 e2 e3;refine⟨u',r',?_⟩;rcases q with q|⟨k,c',e,z'⟩
    ·exact .inl q
    ·refine .inr ⟨k,c',e,z'.sameBut hs ?_⟩;rintro rfl;exact hj (z0j hN e1 (I.ok.inj _ _ _ e hc▸hi))
  ·by_cases hcc:c'=c
   ·grind
   ·obtain⟨w2,z2⟩:=I.cell y c' e;exact⟨w2,z2.sameBut hs hcc⟩
  ·obtain⟨e,n,ne,nf,d⟩:=I.pin p hp;refine⟨(hs.2 p.1 ?_).trans e,n,ne,nf,d⟩;intro q;rw[q,hoc] at e;have q':=Option.some.inj e;exact d w' (by rw[<- q'];exact hocd)
theorem z0k(I:Inv X pins σ H s)(hN:X.N.Nodup)(hi:X.N[i]?=some x)(hx:Loc X.env.scope x)(r:RelV v u)(h:∀s',Inv X pins (σ.set i (some v)) H s'->Q () s')(hf:X.fn x=true\/X.env.scope.names.lookup x=some .local:=by first|exact .inl rfl|exact .inr rfl|assumption):wpAny M A (storeName X.env x u) Q E s :=
 q4q I hN hi hx r (fun s' I' _=>h s' I') hf
theorem Inv.call'(I:Inv X pins σ H s)(ho:s'.os=s.os)(u:Un (frs X.stack) ch H H' s.heap s'.heap)(hok:HOk X.prog X.w H' s'.heap)(hg:AllBare s'.gens)(hch:∀b∈ch,(b∈X.ex\/X.s₀.heap.objs.size<=b)/\b≠X.env.locals/\(∀x c,X.env.cells.lookup x=some c->c≠b)/\∀p∈X.pn++pins,p.1≠b):Inv X pins σ H' s':=by
 obtain⟨h',g',d',t',o'⟩:=s';have e:=ho;subst e;exact I.call (g':=g') (t':=t') (d':=d') u hok hg hch
end
abbrev XK:=Value->Option Addr->Hp->Prop
abbrev St:=List (Option V)
abbrev VK:=V->Hp->Prop
abbrev TE:=St->Hp->VK->Prop
abbrev TT:=St->Hp->(Bool->Hp->Prop)->Prop
abbrev TA:=St->Hp->(List V->Hp->Prop)->Prop
structure Ends where
 nx:St->Hp->Prop
 rt:VK
 bk:St->Hp->Prop:=fun _ _=>False
 ct:St->Hp->Prop:=fun _ _=>False
abbrev TS:=Ends->St->Hp->Prop
def EP(X:Cx)(pins:List (Addr×Obj))(σ:St)(Q:VK)(u:Value)(s':Shared):Prop:=∃v H',Inv X pins σ H' s'/\RelV v u/\Q v H'
def TP(X:Cx)(pins:List (Addr×Obj))(σ:St)(Q:Bool->Hp->Prop)(b:Bool)(s':Shared):Prop:=∃H',Inv X pins σ H' s'/\Q b H'
def AP(X:Cx)(pins:List (Addr×Obj))(σ:St)(Q:List V->Hp->Prop)(us:List Value)(s':Shared):Prop:=∃vs H',Inv X pins σ H' s'/\Vals vs us/\Q vs H'
def SP(X:Cx)(pins:List (Addr×Obj))(D:Ends)(f:Flow)(s':Shared):Prop :=
 match f with
 |.next=>∃σ' H',Inv X pins σ' H' s'/\D.nx σ' H'
 |.brk=>∃σ' H',Inv X pins σ' H' s'/\D.bk σ' H'
 |.cont=>∃σ' H',Inv X pins σ' H' s'/\D.ct σ' H'
 |.ret u=>∃v σ' H',Inv X pins σ' H' s'/\RelV v u/\D.rt v H'
def PE(X:Cx)(e:Expr)(t:TE):Prop :=
 ∀(pins:List (Addr×Obj)) (s:Shared) (σ:St) (H:Hp) (Q:VK),Inv X pins σ H s->t σ H Q->wpAny (model X.prog X.w) X.A (eval e X.env) (EP X pins σ Q) X.xe s
def PT(X:Cx)(e:Expr)(t:TT):Prop :=
 ∀(pins:List (Addr×Obj)) (s:Shared) (σ:St) (H:Hp) (Q:Bool->Hp->Prop),Inv X pins σ H s->t σ H Q->wpAny (model X.prog X.w) X.A (isTrue e X.env (eval e X.env)) (TP X pins σ Q) X.xe s
def PW(X:Cx)(e:Expr)(t:TT):Prop :=
 ∀(whole:Sem Value) (pins:List (Addr×Obj)) (s:Shared) (σ:St) (H:Hp) (Q:Bool->Hp->Prop),Inv X pins σ H s->t σ H Q->wpAny (model X.prog X.w) X.A (isTrue e X.env whole) (TP X pins σ Q) X.xe s
theorem PW.pt{X:Cx}{e:Expr}{t:TT}(h:PW X e t):PT X e t:=h _
def PA(X:Cx)(es:List Expr)(t:TA):Prop :=
 ∀(pos:Pos) (pins:List (Addr×Obj)) (s:Shared) (σ:St) (H:Hp) (Q:List V->Hp->Prop),Inv X pins σ H s->t σ H Q->wpAny (model X.prog X.w) X.A (spliced (backTo pos (starEach es X.env))) (AP X pins σ Q) X.xe s
def PS(X:Cx)(st:Stmt)(t:TS):Prop :=
 ∀(pins:List (Addr×Obj)) (s:Shared) (σ:St) (H:Hp) (D:Ends),Inv X pins σ H s->t D σ H->wpAny (model X.prog X.w) X.A (exec st X.env) (SP X pins D) X.xe s
def PSs(X:Cx)(st:List Stmt)(t:TS):Prop :=
 ∀(pins:List (Addr×Obj)) (s:Shared) (σ:St) (H:Hp) (D:Ends),Inv X pins σ H s->t D σ H->wpAny (model X.prog X.w) X.A (execs st X.env) (SP X pins D) X.xe s
theorem thn{t:Sem α}{Q Q':α->Shared->Prop}(h:wpAny M A t Q E s)(hQ:∀a s,Q a s->Q' a s):wpAny M A t Q' E s:=wpAny_mono h hQ fun _ _ x=>x
open PySem PySem.Spec PyProof.Rows
section
variable{X:Cx}
def tVar(i:Nat):TE:=fun σ H Q=>∃v,σ[i]?=some (some v)/\Q v H
def tC(v:V):TE:=fun _ H Q=>Q v H
theorem pe_var{pos:Pos}(hN:X.N[i]?=some x)(hv:Vis X.env.scope x)(hd:(x==("__debug__" : Str))=false:=by decide)(hcd:(x==("__classdict__" : Str))=false:=by decide):PE X (.Name x pos) (tVar i):=by
 intro pins s σ H Q I h;obtain⟨v,e,h⟩:=h;obtain⟨m,hn,hl⟩:=I.loc;obtain⟨u,r,l⟩:=hl i x v hN e hv;have fin:EP X pins σ Q u s:=⟨v,H,I,r,h⟩
 rcases l with⟨hk,hm⟩|⟨hk,c,hc,hcell⟩
 ·exact wpAny_Name (wpAny_loadName_local I.ok.kind hk hn hm fin) hd
 ·rcases hk with hk|hk
  ·exact wpAny_Name (wpAny_loadName_cell I.ok.kind hk hc hcell fin) hd
  ·exact wpAny_Name (wpAny_loadName_free I.ok.kind hk hc hcell fin hcd) hd
theorem q0g{i j pos}:PE X (.Constant (.int i) j pos) (tC (.int i)):=fun _ _ _ H _ I h=>wpAny_Constant_int ⟨.int i,H,I.tok _,⟨_,rfl⟩,h⟩
theorem q4r{b j pos}:PE X (.Constant (.bool b) j pos) (tC (.bl b)):=fun _ _ _ H _ I h=>Constant_bool ⟨.bl b,H,I,rfl,h⟩
theorem q7r{j pos}:PE X (.Constant .none j pos) (tC .non):=fun _ _ _ H _ I h=>Constant_none ⟨.non,H,I,rfl,h⟩
theorem q3j{x j pos}:PE X (.Constant (.str x) j pos) (tC (.str x)):=fun _ _ _ H _ I h=>Calls.Constant_str ⟨.str x,H,I.tok _,⟨_,rfl⟩,h⟩
def Gl(X:Cx)(x:Str):Prop:=X.env.kindOf x=some .globalImplicit
theorem q9j{σ:St}(I:Inv X pins σ H s)(hg:Gl X x)(hm:X.mg x=some u)(h:Q u s)(hd:(x==("__debug__" : Str))=false:=by decide):wpAny (model X.prog X.w) X.A (eval (.Name x pos) X.env) Q E s :=
 Calls.Name_function_global I.ok.kind hg (Calls.loadGlobal_global (by rw[I.ok.glob];exact I.mod.glob.keeps I.bk) hm h) hd
theorem q4s{E:Value->Shared->Prop}{σ:St}{pos:Pos}(I:Inv X pins σ H s)(hg:Gl X x)(hm:X.mg x=none)(hv:bootBuiltins x=some u)(h:Q u s)(hn:x ≠ "__name__" := by decide)(hd:(x==("__debug__" : Str))=false:=by decide):wpAny (model X.prog X.w) X.A (eval (.Name x pos) X.env) Q E s:=by
 obtain⟨mb,h1,h2⟩:=I.mod.blt;exact Calls.Name_function_global I.ok.kind hg (Calls.loadGlobal_builtin (by rw[I.ok.glob];exact I.mod.glob.keeps I.bk) hm (by rw[I.ok.blt];exact h1.keeps I.bk) ((h2 x hn).trans hv) h) hd
theorem z2s{x:Str}{v:V}{u:Value}{pos:Pos}(hg:Gl X x)(hm:X.mg x=none)(hv:bootBuiltins x=some u)(r:RelV v u)(hn:x ≠ "__name__" := by decide)(hd:(x==("__debug__" : Str))=false:=by decide):PE X (.Name x pos) (tC v) :=
 fun _ _ _ H _ I h=>q4s I hg hm hv ⟨v,H,I,r,h⟩ hn hd
variable{a b:Expr}{ta tb:TE}{pos:Pos}
def PC(X:Cx)(op:CmpOp)(a b:Expr)(t:TE):Prop :=
 ∀(pins:List (Addr×Obj)) (s:Shared) (σ:St) (H:Hp) (Q:VK),Inv X pins σ H s->t σ H Q ->
  wpAny (model X.prog X.w) X.A (eval a X.env) (fun v s₁=>wpAny (model X.prog X.w) X.A (eval b X.env) (fun u s₂=>wpAny (model X.prog X.w) X.A (compareOp op v u) (EP X pins σ Q) X.xe s₂) X.xe s₁) X.xe s
theorem nobehind(b:Expr)(h:op≠.In)(h2:op≠.NotIn):behindInMarks op b=false:=by
 have e1:(op==CmpOp.In)=false:=by grind
 have e2:(op==CmpOp.NotIn)=false:=by grind
 cases b<;>simp[behindInMarks,e1,e2]
def tIsN(ta:TE):TE:=fun σ H Q=>ta σ H fun x H1=>Q (.bl (decide (x=.non))) H1
def tNotN(ta:TE):TE:=fun σ H Q=>ta σ H fun x H1=>Q (.bl (!decide (x=.non))) H1
theorem RelV.none_iff(r:RelV x v):(v==Value.none)=decide (x=.non):=by
 cases x with
 |non=>cases r;rfl
 |bl _=>cases r;rfl
 |int _=>obtain⟨t,rfl⟩:=r;rfl
 |str _=>obtain⟨t,rfl⟩:=r;rfl
 |byt _=>obtain⟨t,rfl⟩:=r;rfl
 |flt _=>obtain⟨t,rfl⟩:=r;rfl
 |ref _=>cases r;rfl
 |ty _=>cases r;rfl
theorem z0l{j pos'}(ha:PE X a ta):PC X .Is a (.Constant .none j pos') (tIsN ta):=by
 intro pins s σ H Q I h;refine thn (ha pins s σ H _ I h) fun v s1 ⟨x,H1,I1,r1,q1⟩=>?_;exact Constant_none (is_none_gen ⟨.bl _,H1,I1,by rw[r1.none_iff];rfl,q1⟩)
theorem q3l{j pos'}(ha:PE X a ta):PC X .IsNot a (.Constant .none j pos') (tNotN ta):=by
 intro pins s σ H Q I h;refine thn (ha pins s σ H _ I h) fun v s1 ⟨x,H1,I1,r1,q1⟩=>?_;exact Constant_none (isnot_none_gen ⟨.bl _,H1,I1,by rw[r1.none_iff];rfl,q1⟩)
def tB(t:TE):TT:=fun σ H Q=>t σ H fun x H1=>∃c,x=.bl c/\Q c H1
theorem z7g{op:CmpOp}{t:TE}(h:PC X op a b t)(h1:behindInMarks op b=false:=by first|exact nobehind _ (by decide) (by decide)|rfl):PE X (.Compare a [op] [b] pos) t:=fun pins s σ H Q I hw=>wpAny_Compare1 (h pins s σ H Q I hw) h1
theorem q1t{op:CmpOp}{t:TE}(h:PC X op a b t)(h1:behindInMarks op b=false:=by first|exact nobehind _ (by decide) (by decide)|rfl):PT X (.Compare a [op] [b] pos) (tB t):=by
 intro pins s σ H Q I hw;refine wpAny_isTrue_Compare1 (thn (h pins s σ H _ I hw) fun v s1 h1=>thn h1 fun u s2 h2=>thn h2 fun c s3 ⟨x,H1,I1,r1,q1⟩=>?_) h1;obtain⟨d,rfl,q⟩:=q1;cases r1;exact wpAny_truthy_bool ⟨H1,I1,q⟩
variable{tA tB':TT}{rest:List Expr}
def tAnd(t u:TT):TT:=fun σ H Q=>t σ H fun c H1=>if c=true then u σ H1 Q else Q false H1
def tOr(t u:TT):TT:=fun σ H Q=>t σ H fun c H1=>if c=true then Q true H1 else u σ H1 Q
def tNot(t:TT):TT:=fun σ H Q=>t σ H fun c H1=>Q (!c) H1
theorem q1q(ha:PT X a tA):PW X (.BoolOp .And [a] pos) tA:=by
 intro wh pins s σ H Q I h;refine isTrue_and (thn (ha pins s σ H Q I h) fun c s1 e=>?_);cases c with
 |true=>exact isTrue_and_nil e
 |false=>exact e
theorem z0m(ha:PT X a tA):PW X (.BoolOp .Or [a] pos) tA:=by
 intro wh pins s σ H Q I h;refine isTrue_or (thn (ha pins s σ H Q I h) fun c s1 e=>?_);cases c with
 |false=>exact isTrue_or_nil e
 |true=>exact e
theorem q2v(ha:PT X a tA)(hb:PW X (.BoolOp .And (b::rest) pos) tB'):PW X (.BoolOp .And (a::b::rest) pos) (tAnd tA tB'):=by
 intro wh pins s σ H Q I h;refine isTrue_and (thn (ha pins s σ H _ I h) fun c s1 ⟨H1,I1,q1⟩=>?_);cases c with
 |true=>exact hb wh pins s1 σ H1 Q I1 q1
 |false=>exact⟨H1,I1,q1⟩
theorem z2t(ha:PT X a tA)(hb:PW X (.BoolOp .Or (b::rest) pos) tB'):PW X (.BoolOp .Or (a::b::rest) pos) (tOr tA tB'):=by
 intro wh pins s σ H Q I h;refine isTrue_or (thn (ha pins s σ H _ I h) fun c s1 ⟨H1,I1,q1⟩=>?_);cases c with
 |true=>exact⟨H1,I1,q1⟩
 |false=>exact hb wh pins s1 σ H1 Q I1 q1
theorem z0n(ha:PT X a tA):PT X (.UnaryOp .Not a pos) (tNot tA):=by
 intro pins s σ H Q I h;exact isTrue_not (ha pins s σ H (fun c H1=>Q (!c) H1) I h)
def tAndV(ta tb:TE):TE:=fun σ H Q=>ta σ H fun x H1=>∃c,x=.bl c/\if c=true then tb σ H1 Q else Q (.bl false) H1
def tOrV(ta tb:TE):TE:=fun σ H Q=>ta σ H fun x H1=>∃c,x=.bl c/\if c=true then Q (.bl true) H1 else tb σ H1 Q
def tNotV(ta:TE):TE:=fun σ H Q=>ta σ H fun x H1=>∃c,x=.bl c/\Q (.bl (!c)) H1
theorem z2u{op}{t:TE}(h:PE X a t):PE X (.BoolOp op [a] pos) t:=fun pins s σ H Q I hw=>BoolOp_one (h pins s σ H Q I hw)
theorem pe_and(ha:PE X a ta)(hb:PE X (.BoolOp .And (b::rest) pos) tb):PE X (.BoolOp .And (a::b::rest) pos) (tAndV ta tb):=by
 intro pins s σ H Q I h;refine BoolOp_and (thn (ha pins s σ H _ I h) fun v s1 ⟨x,H1,I1,r1,q1⟩=>?_);obtain⟨c,rfl,q1⟩:=q1;cases r1;refine wpAny_truthy_bool ?_;cases c with
 |true=>exact hb pins s1 σ H1 Q I1 q1
 |false=>exact⟨.bl false,H1,I1,rfl,q1⟩
theorem pe_or(ha:PE X a ta)(hb:PE X (.BoolOp .Or (b::rest) pos) tb):PE X (.BoolOp .Or (a::b::rest) pos) (tOrV ta tb):=by
 intro pins s σ H Q I h;refine BoolOp_or (thn (ha pins s σ H _ I h) fun v s1 ⟨x,H1,I1,r1,q1⟩=>?_);obtain⟨c,rfl,q1⟩:=q1;cases r1;refine wpAny_truthy_bool ?_;cases c with
 |false=>exact hb pins s1 σ H1 Q I1 q1
 |true=>exact⟨.bl true,H1,I1,rfl,q1⟩
theorem pe_not(ha:PE X a ta):PE X (.UnaryOp .Not a pos) (tNotV ta):=by
 intro pins s σ H Q I h;refine UnaryOp_ (thn (ha pins s σ H _ I h) fun v s1 ⟨x,H1,I1,r1,q1⟩=>?_);obtain⟨c,rfl,q1⟩:=q1;cases r1;exact not_of (wpAny_truthy_bool ⟨.bl (!c),H1,I1,rfl,q1⟩)
def tIf(t:TT)(ta tb:TE):TE:=fun σ H Q=>t σ H fun c H1=>if c=true then ta σ H1 Q else tb σ H1 Q
theorem z5h{c:Expr}(hc:PT X c tA)(ha:PE X a ta)(hb:PE X b tb):PE X (.IfExp c a b pos) (tIf tA ta tb):=by
 intro pins s σ H Q I h;refine wpAny_IfExp (thn (hc pins s σ H _ I h) fun d s1 ⟨H1,I1,q1⟩=>?_);cases d with
 |true=>exact ha pins s1 σ H1 Q I1 q1
 |false=>exact hb pins s1 σ H1 Q I1 q1
end
open PySem PySem.Spec PyProof.Rows
def SqL(K:W.Frag)(H:Hp)(a:Addr)(xs:List V):Prop :=
 Rd H a (.lst xs) \/
  ∃(o:Obj) (its:Array Value) (n:Nat),K.lookup a=some o/\o.cls=.type "list" /\ o.dict=none/\o.data=.seq its n/\its.size<=sizeLine/\Vals xs its.toList
def SqT(K:W.Frag)(H:Hp)(a:Addr)(xs:List V):Prop :=
 Rd H a (.tup xs) \/
  ∃(o:Obj) (its:Array Value) (n:Nat),K.lookup a=some o/\o.cls=.type "tuple" /\ o.data=.seq its n/\its.size<=sizeLine/\Vals xs its.toList
def absV:Value->Option V
 |.none=>some .non
 |.bool b=>some (.bl b)
 |.int i _=>some (.int i)
 |.str x _=>some (.str x)
 |.bytes b _=>some (.byt b)
 |.float b _=>some (.flt b)
 |.ref a=>some (.ref a)
 |.type n=>some (.ty n)
 |_=>none
theorem RelV.abs(r:RelV x u):absV u=some x:=by
 cases x with
 |non=>cases r;rfl
 |bl _=>cases r;rfl
 |int _=>obtain⟨t,rfl⟩:=r;rfl
 |str _=>obtain⟨t,rfl⟩:=r;rfl
 |byt _=>obtain⟨t,rfl⟩:=r;rfl
 |flt _=>obtain⟨t,rfl⟩:=r;rfl
 |ref _=>cases r;rfl
 |ty _=>cases r;rfl
theorem RelV.inj(r:RelV x u)(q:RelV y u):x=y:=Option.some.inj (r.abs.symm.trans q.abs)
theorem Vals.inj:∀{xs ys:List V} {us:List Value},Vals xs us->Vals ys us->xs=ys
 |_,_,_,.nil,.nil=>rfl
 |_,_,_,.cons r t,.cons r' t'=>by rw[r.inj r',Vals.inj t t']
section
variable{X:Cx}{pins:List (Addr×Obj)}{σ:St}{H:Hp}{s:Shared}{a:Addr}{xs ys:List V}
theorem SqL.of{K:W.Frag}(h:H a=some (.lst xs)):SqL K H a xs:=.inl (.inl h)
theorem SqT.of{K:W.Frag}(h:H a=some (.tup xs)):SqT K H a xs:=.inl (.inl h)
theorem Inv.list(I:Inv X pins σ H s)(h:SqL X.K H a xs):∃its:List Value,Vals xs its/\PlainL s.heap a its.toArray/\xs.length<=sizeLine:=by
 rcases h with h|⟨o,its,n,hk,hc,hd,hs,hz,r⟩
 ·obtain⟨z,its,n,r,e⟩:=h.ok I.hok;exact⟨its,r,⟨_,n,e,rfl,rfl,rfl⟩,z⟩
 ·refine⟨its.toList,r,⟨o,n,I.kIn a o hk,hc,hd,by simpa using hs⟩,?_⟩;have e:=r.length;simp only[Array.length_toList] at e;lia
theorem Inv.tuple(I:Inv X pins σ H s)(h:SqT X.K H a xs):∃its:List Value,Vals xs its/\IsTup s.heap a its.toArray/\xs.length<=sizeLine:=by
 rcases h with h|⟨o,its,n,hk,hc,hs,hz,r⟩
 ·obtain⟨z,its,r,p⟩:=h.ok I.hok;exact⟨its,r,p,z⟩
 ·refine⟨its.toList,r,⟨o,I.kIn a o hk,hc,n,by simpa using hs⟩,?_⟩;have e:=r.length;simp only[Array.length_toList] at e;lia
theorem Inv.list_inj(I:Inv X pins σ H s)(h:SqL X.K H a xs)(h':SqL X.K H a ys):xs=ys:=by
 obtain⟨its,r,⟨o,n,e,_,_,d⟩,_⟩:=I.list h;obtain⟨its',r',⟨o',n',e',_,_,d'⟩,_⟩:=I.list h';have:its=its':=by grind
 subst this;exact r.inj r'
theorem Inv.tuple_inj(I:Inv X pins σ H s)(h:SqT X.K H a xs)(h':SqT X.K H a ys):xs=ys:=by
 obtain⟨its,r,⟨o,e,_,n,d⟩,_⟩:=I.tuple h;obtain⟨its',r',⟨o',e',_,n',d'⟩,_⟩:=I.tuple h';have:its=its':=by grind
 subst this;exact r.inj r'
end
abbrev Cx.wish(X:Cx)(E:Value->Shared->Prop):Cx:={ X with xe:=E }
abbrev Cx.nox(X:Cx):Cx:=X.wish fun _ _=>False
theorem Cx.Ok.wish{X:Cx}(ok:X.Ok)(E:Value->Shared->Prop):(X.wish E).Ok :=
 ⟨ok.mod,ok.kind,ok.glob,ok.blt,ok.above,ok.inj,ok.has,ok.cab,ok.hd,ok.frames,ok.stk,ok.exf,ok.bs,ok.bsz,ok.noex,ok.exfs,ok.funs,ok.frf⟩
theorem Cx.Ok.unwish{X:Cx}(ok:(X.wish E).Ok):X.Ok :=
 ⟨ok.mod,ok.kind,ok.glob,ok.blt,ok.above,ok.inj,ok.has,ok.cab,ok.hd,ok.frames,ok.stk,ok.exf,ok.bs,ok.bsz,ok.noex,ok.exfs,ok.funs,ok.frf⟩
section
variable{X:Cx}{pins:List (Addr×Obj)}{σ:St}{H:Hp}{s:Shared}{E:Value->Shared->Prop}
theorem Inv.wish(I:Inv X pins σ H s)(E:Value->Shared->Prop):Inv (X.wish E) pins σ H s:=⟨I.ok.wish E,I.os,I.bare,I.base,I.loc,I.cell,I.free,I.freeC,I.pin,I.hok,I.len⟩
theorem Inv.unwish(I:Inv (X.wish E) pins σ H s):Inv X pins σ H s:=⟨I.ok.unwish,I.os,I.bare,I.base,I.loc,I.cell,I.free,I.freeC,I.pin,I.hok,I.len⟩
theorem SP.unwish(h:SP (X.wish E) pins D f s'):SP X pins D f s':=by
 cases f with
 |next=>obtain⟨σ',H',I,q⟩:=h;exact⟨σ',H',I.unwish,q⟩
 |brk=>obtain⟨σ',H',I,q⟩:=h;exact⟨σ',H',I.unwish,q⟩
 |cont=>obtain⟨σ',H',I,q⟩:=h;exact⟨σ',H',I.unwish,q⟩
 |ret u=>obtain⟨v,σ',H',I,r,q⟩:=h;exact⟨v,σ',H',I.unwish,r,q⟩
theorem PE.nox(h:PE X.nox e t):PE X e t:=fun pins s σ H Q I hw =>
 wpAny_mono (h pins s σ H Q (I.wish _) hw) (fun _ _ ⟨v,H',I',r,q⟩=>⟨v,H',I'.unwish,r,q⟩) fun _ _ z=>False.elim z
theorem PT.nox(h:PT X.nox e t):PT X e t:=fun pins s σ H Q I hw =>
 wpAny_mono (h pins s σ H Q (I.wish _) hw) (fun _ _ ⟨H',I',q⟩=>⟨H',I'.unwish,q⟩) fun _ _ z=>False.elim z
theorem PSs.nox{st:List Stmt}(h:PSs X.nox st t):PSs X st t:=fun pins s σ H D I hw =>
 wpAny_mono (h pins s σ H D (I.wish _) hw) (fun _ _ q=>q.unwish) fun _ _ z=>False.elim z
end
section
variable{X:Cx}{st:Stmt}{rest:List Stmt}{t u:TS}{e:Expr}{te:TE}{pos:Pos}
def tNext:TS:=fun D σ H=>D.nx σ H
def tSeq(t u:TS):TS:=fun D σ H=>t { D with nx:=u D } σ H
theorem q0n:PSs X [] tNext:=fun _ _ σ H _ I h=>wpAny_execs_nil ⟨σ,H,I,h⟩
theorem q0e(h1:PS X st t)(h2:PSs X rest u):PSs X (st::rest) (tSeq t u):=by
 intro pins s σ H D I h;refine wpAny_execs_cons (thn (h1 pins s σ H { D with nx:=u D } I h) fun f s1 q=>?_);cases f with
 |next =>
  obtain⟨σ',H',I',q⟩:=q;exact h2 pins s1 σ' H' D I' q
 |ret v=>exact q
 |brk=>exact q
 |cont=>exact q
theorem q0f(h1:PS X st t):PSs X [st] t:=by
 intro pins s σ H D I h;refine wpAny_execs_cons (thn (h1 pins s σ H D I h) fun f s1 q=>?_);cases f with
 |next=>exact wpAny_execs_nil q
 |ret v=>exact q
 |brk=>exact q
 |cont=>exact q
theorem Inv.quiet{σ:St}(I:Inv X pins σ H s):interactive X.env=false:=by simp[interactive,I.ok.kind]
def tDrop(te:TE):TS:=fun D σ H=>te σ H fun _ H1=>D.nx σ H1
theorem q2n(he:PE X e te)(hs:swapsWith e none pos.line X.env=pure false:=by rfl):PS X (.Expr e pos) (tDrop te):=by
 intro pins s σ H D I h;exact wpAny_Expr_any (thn (he pins s σ H _ I h) fun v s1 ⟨x,H1,I1,r1,q1⟩=>⟨σ,H1,I1,q1⟩) I.quiet hs
def tRet(te:TE):TS:=fun D σ H=>te σ H D.rt
theorem q0m(he:PE X e te):PS X (.Return (some e) pos) (tRet te):=by
 intro pins s σ H D I h;exact wpAny_Return_some (thn (he pins s σ H _ I h) fun v s1 ⟨x,H1,I1,r1,q1⟩=>⟨x,σ,H1,I1,r1,q1⟩)
def tIfS(c:TT)(t u:TS):TS:=fun D σ H=>c σ H fun b H1=>if b=true then t D σ H1 else u D σ H1
theorem q1l{c:Expr}{a b:List Stmt}{tc:TT}(hc:PT X c tc)(ha:PSs X a t)(hb:PSs X b u):PS X (.If c a b pos) (tIfS tc t u):=by
 intro pins s σ H D I h;refine wpAny_If (thn (hc pins s σ H _ I h) fun d s1 ⟨H1,I1,q1⟩=>?_);cases d with
 |true=>exact ha pins s1 σ H1 D I1 q1
 |false=>exact hb pins s1 σ H1 D I1 q1
def tNever:TS:=fun _ _ _=>False
theorem q4k:PS X st tNever:=fun _ _ _ _ _ _ h=>h.elim
end
abbrev TG:=V->St->Hp->(St->Hp->Prop)->Prop
abbrev TGs:=List V->St->Hp->(St->Hp->Prop)->Prop
def PG(X:Cx)(target:Expr)(t:TG):Prop :=
 ∀(pins:List (Addr×Obj)) (s:Shared) (σ:St) (H:Hp) (v:V) (u:Value) (Q:St->Hp->Prop),Inv X pins σ H s->RelV v u->t v σ H Q ->
  wpAny (model X.prog X.w) X.A (assign target X.env u) (fun _ s'=>∃σ' H',Inv X pins σ' H' s'/\Q σ' H') X.xe s
def PGs(X:Cx)(ts:List Expr)(t:TGs):Prop :=
 ∀(pins:List (Addr×Obj)) (s:Shared) (σ:St) (H:Hp) (vs:List V) (us:List Value) (Q:St->Hp->Prop),Inv X pins σ H s->Vals vs us->t vs σ H Q ->
  wpAny (model X.prog X.w) X.A (assignInOrder ((assignEach ts X.env).map (·.2)) us) (fun _ s'=>∃σ' H',Inv X pins σ' H' s'/\Q σ' H') X.xe s
abbrev TSet:=V->V->V->Hp->(Hp->Prop)->Prop
def PSet(X:Cx)(t:TSet):Prop :=
 ∀(pins:List (Addr×Obj)) (s:Shared) (σ:St) (H:Hp) (o i v:V) (ov iv u:Value) (Q:Hp->Prop),Inv X pins σ H s->RelV o ov->RelV i iv->RelV v u->t o i v H Q ->
  wpAny (model X.prog X.w) X.A (setItem ov iv u) (fun _ s'=>∃H',Inv X pins σ H' s'/\Q H') X.xe s
section
variable{X:Cx}{pos:Pos}
def gName(i:Nat):TG:=fun v σ H Q=>Q (σ.set i (some v)) H
theorem q0i{i:Nat}{x:Str}(hN:X.N.Nodup)(hi:X.N[i]?=some x)(hx:Loc X.env.scope x)(hf:X.fn x=true\/X.env.scope.names.lookup x=some .local:=by first|exact .inl rfl|exact .inr rfl|assumption):PG X (.Name x pos) (gName i):=by
 intro pins s σ H v u Q I r h;exact wpAny_assign_Name (z0k I hN hi hx r (fun s' I'=>⟨_,H,I',h⟩) hf)
def gNil:TGs:=fun vs σ H Q=>vs=[]/\Q σ H
def gCons(t:TG)(u:TGs):TGs:=fun vs σ H Q=>∃v r,vs=v::r/\t v σ H fun σ' H'=>u r σ' H' Q
theorem q1w:PGs X [] gNil:=by
 intro pins s σ H vs us Q I r h;obtain⟨e,h⟩:=h;exact assignInOrder_nil ⟨σ,H,I,h⟩
theorem q0o{e:Expr}{es:List Expr}{t:TG}{u:TGs}(h1:PG X e t)(h2:PGs X es u)(hs:(assignEach (e::es) X.env).map (·.2)=assign e X.env::(assignEach es X.env).map (·.2):=by rfl):PGs X (e::es) (gCons t u):=by
 intro pins s σ H vs us Q I r h;obtain⟨v,vr,e1,h⟩:=h;subst e1;cases r with
 |cons r rr =>
  rw[hs];refine assignInOrder_cons (thn (h1 pins s σ H _ _ _ I r h) fun _ s1 ⟨σ1,H1,I1,q1⟩=>?_);exact h2 pins s1 σ1 H1 _ _ Q I1 rr q1
def gTup(K:W.Frag)(n:Nat)(t:TGs):TG:=fun v σ H Q=>∃a xs,v=.ref a/\SqT K H a xs/\xs.length=n/\t xs σ H Q
theorem pg_tup{k:Nat}(hc:X.calm=true)(h:PGs X es t)(hn:(assignEach es X.env).length=n:=by rfl)(hst:(assignEach es X.env).findIdx? (·.1)=none:=by rfl):PG X (.Tuple es k pos) (gTup X.K n t):=by
 intro pins s σ H v u Q I r hw;obtain⟨a,xs,e1,hq,hl,hw⟩:=hw;subst e1;cases r;obtain⟨its,rv,ht,hz⟩:=I.tuple hq;refine assign_Tuple_tuple (I.ok.hd hc) ht (by simp[hn,<- hl,rv.length]) hst fun h' hx=>?_;have I1:Inv X pins σ H { s with heap:=h' }:=I.kept (t':=s.toks) fun b o e=>hx b o (Nat.ne_of_lt (Heap.lt_size e)) e;exact h pins _ σ H xs _ Q I1 (by simpa using rv) hw
def gSub(to ti:TE)(t:TSet):TG:=fun v σ H Q=>to σ H fun o H1=>ti σ H1 fun i H2=>t o i v H2 fun H3=>Q σ H3
theorem z2v{o i:Expr}{to ti:TE}{t:TSet}(ho:PE X o to)(hi:PE X i ti)(hs:PSet X t)(ha:∀v,assign (.Subscript o i pos) X.env v=(do
   let ov<-holding [v] (eval o X.env);let iv<-holding [v,ov] (eval i X.env)
   standAt pos
   holding [v,ov,iv] (setItem ov iv v)
   release [v,ov,iv] []):=by intro _;rfl):PG X (.Subscript o i pos) (gSub to ti t):=by
 intro pins s σ H v u Q I r h;refine wpAny_bind (wpAny_holding (thn (ho pins s σ H _ I h) fun ov s1 ⟨x,H1,I1,r1,q1⟩=>?_));refine wpAny_bind (wpAny_holding (thn (hi pins s1 σ H1 _ I1 q1) fun iv s2 ⟨y,H2,I2,r2,q2⟩=>?_));refine wpAny_bind (wpAny_standAt (wpAny_bind (wpAny_holding (thn (hs pins s2 σ H2 x y v ov iv u _ I2 r1 r2 r q2) fun _ s3 ⟨H3,I3,q3⟩=>?_))));exact wpAny_release ⟨σ,H3,I3,q3⟩
def tAsg(te:TE)(g:TG):TS:=fun D σ H=>te σ H fun x H1=>g x σ H1 D.nx
theorem q7s{tg e:Expr}{te:TE}{g:TG}(he:PE X e te)(hg:PG X tg g)(hs:swapsWithSole [tg] e pos.line X.env=pure false:=by rfl)(hw:swappedStores [tg] e X.env=pure none:=by rfl)(h1:(assignEach [tg] X.env).map (·.2)=[assign tg X.env]:=by rfl):PS X (.Assign [tg] e pos) (tAsg te g):=by
 intro pins s σ H D I h;refine wpAny_Assign_stores (thn (he pins s σ H _ I h) fun v s1 ⟨x,H1,I1,r1,q1⟩=>?_) hs hw;rw[h1];exact thn (hg pins s1 σ H1 x v _ I1 r1 q1) fun _ s2 q=>q
theorem q0j{i:Nat}{x:Str}{e:Expr}{te:TE}{pos':Pos}(hN:X.N.Nodup)(hi:X.N[i]?=some x)(hx:Loc X.env.scope x)(he:PE X e te)(hs:swapsWith e (some (.Name x pos')) pos.line X.env=pure false:=by rfl)(hf:X.fn x=true\/X.env.scope.names.lookup x=some .local:=by first|exact .inl rfl|exact .inr rfl|assumption):
  PS X (.Assign [.Name x pos'] e pos) (tAsg te (gName i)):=by
 intro pins s σ H D I h;refine wpAny_Assign_Name (thn (he pins s σ H _ I h) fun v s1 ⟨y,H1,I1,r1,q1⟩=>?_) hs;exact z0k I1 hN hi hx r1 (fun s2 I2=>⟨_,H1,I2,q1⟩) hf
end
section
variable{X:Cx}{pos:Pos}
def tWhile(c:TT)(tb:TS):TS:=fun D σ H=>∃W:Nat->St->Hp->Prop,(∃m,W m σ H)/\∀m σ H,W m σ H ->
 c σ H fun b H1=>if b=true then ∃N:St->Hp->Prop,(∀σ' H',N σ' H'->∃m',m'<m/\W m' σ' H')/\tb { D with nx:=N,ct:=N,bk:=D.nx } σ H1 else D.nx σ H1
theorem q6n{c:Expr}{body:List Stmt}{tc:TT}{tb:TS}(hp:PassesOwn (model X.prog X.w) X.A X.env X.xe)(hc:PT X c tc)(hb:PSs X body tb):PS X (.While c body [] pos) (tWhile tc tb):=by
 intro pins s σ H D I h;obtain⟨W,⟨m0,w0⟩,turn⟩:=h;refine wpAny_While (codeAny_whileLoop (fun n s'=>∃σ' H',Inv X pins σ' H' s'/\W n σ' H') ?_ m0 ⟨σ,H,I,w0⟩);rintro n s1 ⟨σ1,H1,I1,w1⟩;refine wpAny_passesOwn hp (thn (hc pins s1 σ1 H1 _ I1 (turn n σ1 H1 w1)) fun b s2 ⟨H2,I2,q2⟩=>?_);cases b with
 |true =>
  obtain⟨N,hN,q2⟩:=q2;refine wpAny_passesOwn hp (thn (hb pins s2 σ1 H2 _ I2 q2) fun f s3 q3=>?_);cases f with
  |next =>
   obtain⟨σ3,H3,I3,n3⟩:=q3;obtain⟨m',hm,w3⟩:=hN σ3 H3 n3;exact⟨m',hm,σ3,H3,I3,w3⟩
  |cont =>
   obtain⟨σ3,H3,I3,n3⟩:=q3;obtain⟨m',hm,w3⟩:=hN σ3 H3 n3;exact⟨m',hm,σ3,H3,I3,w3⟩
  |brk=>exact q3
  |ret v=>exact q3
 |false =>
  exact wpAny_execs_nil ⟨σ1,H2,I2,q2⟩
end
structure It where
 go:Nat->Hp->Prop
 yld:Nat->Hp->V->Hp->Prop
 stop:Nat->Hp->Prop
def FpOk(X:Cx)(pins:List (Addr×Obj))(H:Hp)(b:Addr):Prop :=
 H b=none/\b≠X.env.locals/\b∉X.fs/\(b∈X.ex\/X.s₀.heap.objs.size<=b)/\(∀x c,X.env.cells.lookup x=some c->c≠b)/\∀p∈X.pn++pins,p.1≠b
theorem Inv.fpOk{σ:St}{b:Addr}(I:Inv X pins σ H s)(hb:s.heap.objs.size<=b)(hn:H' b=none):FpOk X pins H' b:=by
 refine⟨hn,Nat.ne_of_gt (Nat.lt_of_lt_of_le I.lt hb),I.nofs hb,.inr (Nat.le_trans I.sz hb),fun x c e z=>?_,fun p hp z=>?_⟩
 ·obtain⟨v,q⟩:=I.cell x c e;exact absurd (Nat.lt_of_lt_of_le q.lt (by rw[z];exact hb)) (Nat.lt_irrefl _)
 ·exact absurd (Nat.lt_of_lt_of_le (Heap.lt_size (I.pin p hp).1) (by rw[z];exact hb)) (Nat.lt_irrefl _)
structure Turn (P:Program) (w:World) (K:W.Frag) (tg:Expr) (J:It) (fp:List Addr) (it:Addr) (tn:Nat->Heap->Prop):Prop where
 mem:it∈fp
 obj:∀i h,tn i h->∀b∈fp,∃o,h.get? b=some o/\∀v,o.data≠.cell v
 keep:∀i h h',tn i h->(∀b∈fp,∀o,h.get? b=some o->h'.get? b=some o)->tn i h'
 item:∀(X:Cx),X.prog=P->X.w=w->X.K=K->X.calm=true->∀(i:Nat) (pins:List (Addr×Obj)) (s:Shared) (σ:St) (H:Hp) (E:Value->Shared->Prop),Inv X pins σ H s->(∀b∈fp,FpOk X pins H b)->tn i s.heap->J.go i H ->
  wpAny (model P w) X.A (pyNext (.ref it)) (fun r s1=>∃u,r=some u /\
   wpAny (model P w) X.A (letOwnedTupleGo tg (.ref it) u) (fun _ s2=>∃x H',Inv X pins σ H' s2/\RelV x u/\J.yld i H x H'/\tn (i+1) s2.heap/\∀b∈fp,H' b=none) E s1) E s
 done:∀(X:Cx),X.prog=P->X.w=w->X.K=K->X.calm=true->∀(i:Nat) (pins:List (Addr×Obj)) (s:Shared) (σ:St) (H:Hp) (E:Value->Shared->Prop),Inv X pins σ H s->(∀b∈fp,FpOk X pins H b)->tn i s.heap->J.stop i H ->
  wpAny (model P w) X.A (pyNext (.ref it)) (fun r s1=>r=none/\Inv X pins σ H s1) E s
 self:∀(A:Around) (i:Nat) (s:Shared) (Q:Value->Shared->Prop) (E:Value->Shared->Prop),tn i s.heap->Q (.ref it) s->wpAny (model P w) A (pyIter (.ref it)) Q E s
abbrev TI:=St->Hp->(It->Hp->Prop)->Prop
def PIE(X:Cx)(pins:List (Addr×Obj))(σ:St)(tg:Expr)(R:It->Hp->Prop)(itv:Value)(s2:Shared):Prop :=
 ∃(it:Addr) (fp:List Addr) (tn:Nat->Heap->Prop) (J:It) (H':Hp),itv=.ref it/\Inv X pins σ H' s2/\Turn X.prog X.w X.K tg J fp it tn/\tn 0 s2.heap/\(∀b∈fp,FpOk X pins H' b)/\R J H'
def PI(X:Cx)(tg iter:Expr)(wi:TI):Prop :=
 ∀(pins:List (Addr×Obj)) (s:Shared) (σ:St) (H:Hp) (R:It->Hp->Prop),Inv X pins σ H s->wi σ H R ->
  wpAny (model X.prog X.w) X.A (eval iter X.env) (fun v s1=>wpAny (model X.prog X.w) X.A (pyIter v) (PIE X pins σ tg R) X.xe s1) X.xe s
theorem z1k (ho : s.heap.get? it = some o) (hc : o.cls = .type n) (hd : o.data = .fields vs)
    (hn : ["enumerate", "zip", "dict_itemiterator", "dict_reverseitemiterator", "odict_iterator", "itertools.zip_longest", "itertools.pairwise"].contains n = false) (hQ : Q () s) : wpAny M A (letOwnedTupleGo tg (.ref it) u) Q E s := by
  cases tg <;> first
    | exact wpAny_pure hQ
    | (cases u <;> first
        | exact wpAny_pure hQ
        | (refine wpAny_bind (wpAny_load ho ?_)
           rw [hc, hd]
           show wpAny M A (if (["enumerate", "zip", "dict_itemiterator", "dict_reverseitemiterator", "odict_iterator", "itertools.zip_longest", "itertools.pairwise"].contains n && vs[0]? == some (rawInt _)) = true then _ else _) Q E s
           rw [if_neg (by intro h; rw [hn, Bool.false_and] at h; cases h)]
           exact wpAny_pure hQ))
def Itl(K:W.Frag)(a:Addr):It :=
 ⟨fun i H=>∃xs x,SqL K H a xs/\xs[i]?=some x,fun i H x H'=>H'=H/\∀xs,SqL K H a xs->xs[i]?=some x,fun i H=>∃xs,SqL K H a xs/\xs.length<=i⟩
def Itt(K:W.Frag)(a:Addr):It :=
 ⟨fun i H=>∃xs x,SqT K H a xs/\xs[i]?=some x,fun i H x H'=>H'=H/\∀xs,SqT K H a xs->xs[i]?=some x,fun i H=>∃xs,SqT K H a xs/\xs.length<=i⟩
def Itr(lo:Int)(n:Nat):It:=⟨fun i _=>i<n,fun i H x H'=>H'=H/\x=.int (lo+i),fun i _=>n<=i⟩
theorem z2w{K:W.Frag}(a it:Addr):Turn P w K tg (Itl K a) [it] it (fun i h=>h.IsListIter it a i) where
 mem:=by simp
 obj:=fun i h st b hb=>by
  have e:b=it:=by grind
  subst e;obtain⟨o,e,c,d⟩:=st;exact⟨o,e,fun v z=>by rw[d] at z;cases z⟩
 keep:=fun i h h' st k=>st.at fun o e=>k it (by simp) o e
 item:=by
  intro X hP hw hK hc i pins s σ H E I hf st hg;subst hP hw hK;obtain⟨xs,x,hq,hx⟩:=hg;obtain⟨its,rv,p,hz⟩:=I.list hq;obtain⟨u,hu,ru⟩:=rv.get hx;obtain⟨f0,f1,f2,f3,f4,f5⟩:=hf it (by simp);refine wpAny_pyNext_list_item st p.isList (by simpa using hu) fun h' st' sb=>?_;have I1:Inv X pins σ H { s with heap:=h' }:=I.turned (t':=s.toks) (fun b o hb e=>(sb.2 b hb).trans e) f0 f1 f3 f4 f5;obtain⟨o,e,c,d⟩:=id st';exact⟨u,rfl,z1k e c d (by decide) ⟨x,H,I1,ru,⟨rfl,fun ys hy=>by rw[I.list_inj hy hq];exact hx⟩,st',fun b hb=>(hf b hb).1⟩⟩
 done:=by
  intro X hP hw hK hc i pins s σ H E I hf st hg;subst hP hw hK;obtain⟨xs,hq,hx⟩:=hg;obtain⟨its,rv,p,hz⟩:=I.list hq;obtain⟨f0,f1,f2,f3,f4,f5⟩:=hf it (by simp);have hl:=rv.length;exact wpAny_pyNext_list_end (I.ok.hd hc) st p.isList (by simp;lia) fun h' eb=>⟨rfl,I.turned (t':=s.toks) (fun b o hb e=>eb b o hb e) f0 f1 f3 f4 f5⟩
 self:=fun _ _ _ _ _ st h=>wpAny_pyIter_listiter st h
theorem z1l{K:W.Frag}(a it:Addr):Turn P w K tg (Itt K a) [it] it (fun i h=>h.IsTupleIter it a i) where
 mem:=by simp
 obj:=fun i h st b hb=>by
  have e:b=it:=by grind
  subst e;obtain⟨o,e,c,d⟩:=st;exact⟨o,e,fun v z=>by rw[d] at z;cases z⟩
 keep:=fun i h h' st k=>st.at fun o e=>k it (by simp) o e
 item:=by
  intro X hP hw hK hc i pins s σ H E I hf st hg;subst hP hw hK;obtain⟨xs,x,hq,hx⟩:=hg;obtain⟨its,rv,p,hz⟩:=I.tuple hq;obtain⟨u,hu,ru⟩:=rv.get hx;obtain⟨f0,f1,f2,f3,f4,f5⟩:=hf it (by simp);refine wpAny_pyNext_tuple_item st (show s.heap.IsTuple a its.toArray from p) (by simpa using hu) fun h' st' sb=>?_;have I1:Inv X pins σ H { s with heap:=h' }:=I.turned (t':=s.toks) (fun b o hb e=>(sb.2 b hb).trans e) f0 f1 f3 f4 f5;obtain⟨o,e,c,d⟩:=id st';exact⟨u,rfl,z1k e c d (by decide) ⟨x,H,I1,ru,⟨rfl,fun ys hy=>by rw[I.tuple_inj hy hq];exact hx⟩,st',fun b hb=>(hf b hb).1⟩⟩
 done:=by
  intro X hP hw hK hc i pins s σ H E I hf st hg;subst hP hw hK;obtain⟨xs,hq,hx⟩:=hg;obtain⟨its,rv,p,hz⟩:=I.tuple hq;obtain⟨f0,f1,f2,f3,f4,f5⟩:=hf it (by simp);have hl:=rv.length;exact wpAny_pyNext_tuple_end (I.ok.hd hc) st (show s.heap.IsTuple a its.toArray from p) (by simp;lia) fun h' eb=>⟨rfl,I.turned (t':=s.toks) (fun b o hb e=>eb b o hb e) f0 f1 f3 f4 f5⟩
 self:=fun _ _ _ _ _ st h=>wpAny_pyIter_tupleiter st h
theorem z1m{K:PySem.W.Frag}(it:Addr)(lo:Int)(n:Nat):Turn P w K tg (Itr lo n) [it] it (fun i h=>IsRangeIter h it (lo+(i:Nat)*1) ((n:Int)-(i:Nat)) 1) where
 mem:=by simp
 obj:=fun i h st b hb=>by
  have e:b=it:=by grind
  subst e;exact⟨_,st,fun v z=>by
   have z':=z;cases z'⟩
 keep:=fun i h h' st k=>k it (by simp) _ st
 item:=by
  intro X hP hw hK hc i pins s σ H E I hf st hg;subst hP hw hK;obtain⟨f0,f1,f2,f3,f4,f5⟩:=hf it (by simp);have W:=Walks.range (prog:=X.prog) (w:=X.w) (I.ok.hd hc) it lo 1 n;refine W.item i s _ _ hg st fun v h' tk hv st' kk=>?_;obtain⟨t,rfl⟩:=hv;have I1:Inv X pins σ H { s with heap:=h',toks:=tk }:=I.turned (fun b o hb e=>kk b o (by simpa using hb) e) f0 f1 f3 f4 f5;refine⟨_,rfl,z1k st' rfl rfl (by decide) ⟨.int (lo+i),H,I1,⟨t,?_⟩,⟨rfl,rfl⟩,st',fun b hb=>(hf b hb).1⟩⟩;rw[Int.mul_one]
 done:=by
  intro X hP hw hK hc i pins s σ H E I hf st hg;obtain⟨f0,f1,f2,f3,f4,f5⟩:=hf it (by simp);exact wpAny_pyNext_range_end (I.ok.hd hc) st (by have:n<=i:=hg;lia) fun h' eb=>⟨rfl,I.turned (t':=s.toks) (fun b o hb e=>eb b o hb e) f0 f1 f3 f4 f5⟩
 self:=fun _ _ _ _ _ st h=>wpAny_pyIter_rangeiter st h
open PySem PySem.Spec PyProof.Rows
section
variable{X:Cx}{tg:Expr}
theorem z5i{σ:St}{lo:Int}(I:Inv X pins σ H s)(h1 : -(2^62)<=lo)(h2:lo<2^62)(h3 : -(2^62)<=hi)(h4:hi<2^62)(q:R (Itr lo (hi-lo).toNat) H):wpAny (model X.prog X.w) X.A (pyIter (.ref s.heap.objs.size)) (PIE X pins σ tg R) E { s with heap:=s.heap.push { cls:=.type "range",data:=.fields #[.int lo t,.int hi u,.int 1 v] },toks:=tk }:=by
 refine wpAny_pyIter_range (IsRange.new ..) (small_one h1 h2 h3 h4) ?_;have I1:Inv X pins σ H { s with heap:=s.heap.push { cls:=.type "range",data:=.fields #[.int lo t,.int hi u,.int 1 v] },toks:=tk }:=I.kept fun b o e=>Heap.get?_push_of_some _ e;refine⟨(s.heap.push { cls:=.type "range",data:=.fields #[.int lo t,.int hi u,.int 1 v] }).objs.size,[(s.heap.push { cls:=.type "range",data:=.fields #[.int lo t,.int hi u,.int 1 v] }).objs.size],_,_,H,rfl,
  I1.kept (t':=tk) fun b o e=>Heap.get?_push_of_some _ e,z1m _ lo (hi-lo).toNat,?_,fun b hb=>?_,q⟩
 ·have e1:lo+((0:Nat):Int)*1=lo:=by simp
  have e2:(((hi-lo).toNat:Nat):Int)-((0:Nat):Int)=Builtin.Range.rangeSize lo hi 1:=by rw[rangeSize_one];split<;>lia
  rw[e1,e2];exact Heap.get?_push_size _ rfl
 ·have e:b=(s.heap.push { cls:=.type "range",data:=.fields #[.int lo t,.int hi u,.int 1 v] }).objs.size:=by simpa using hb
  subst e;exact I1.fpOk (Nat.le_refl _) (I1.hok.fresh (Nat.le_refl _))
def iRng1(ta:TA):TI:=fun σ H R=>ta σ H fun vs H1=>∃j:Int,vs=[.int j] /\ -(2^62)<=j/\j<2^62/\R (Itr 0 j.toNat) H1
theorem q2w{a:Expr}{ta:TA}{p pos:Pos}(hg:Gl X "range")(hm:X.mg "range" = none)(ha:PA X [a] ta)(hs:starEach [a] X.env=[(false,eval a X.env)]:=by rfl):PI X tg (.Call (.Name "range" p) [a] [] pos) (iRng1 ta):=by
 intro pins s σ H R I h;refine Call_ (q4s I hg hm boot_range (PyProof.Rows.callWith_type1 (thn (ha pos pins s σ H _ I h) fun us s1 ⟨vs,H1,I1,r1,q1⟩=>?_) hs rfl));obtain⟨j,e,q1,q2,q⟩:=q1;subst e;cases r1 with
 |cons r rr =>
  cases rr;obtain⟨t,rfl⟩:=r;exact call_range_1 (z5i I1 (by lia) (by lia) q1 q2 (by simpa using q))
def tFor(wi:TI)(g:TG)(tb:TS):TS:=fun D σ H=>wi σ H fun J H1=>∃W:Nat->Nat->St->Hp->Prop,(∃m,W 0 m σ H1)/\∀i m σ H,W i m σ H ->
 (J.stop i H/\D.nx σ H)\/(J.go i H/\∃N:St->Hp->Prop,(∀σ' H',N σ' H'->∃m',m'<m/\W (i+1) m' σ' H')/\∀x H',J.yld i H x H'->g x σ H' fun σ2 H2=>tb { D with nx:=N,ct:=N,bk:=D.nx } σ2 H2)
def pinsAt(fp:List Addr)(h:Heap):List (Addr×Obj):=fp.filterMap fun b=>(h.get? b).map fun o=>(b,o)
theorem q1v(hb:b∈fp)(e:h.get? b=some o):(b,o)∈pinsAt fp h:=List.mem_filterMap.mpr ⟨b,hb,by rw[e];rfl⟩
theorem z2x(hp:p∈pinsAt fp h):p.1∈fp/\h.get? p.1=some p.2:=by
 obtain⟨b,hb,e⟩:=List.mem_filterMap.mp hp;cases q:h.get? b with
 |none=>rw[q] at e;cases e
 |some o =>
  rw[q] at e;have e':=Option.some.inj e;subst e';exact⟨hb,q⟩
theorem Inv.pinned{σ:St}(I:Inv X pins σ H s)(hf:∀b∈fp,FpOk X pins H b)(ho:∀b∈fp,∃o,s.heap.get? b=some o/\∀v,o.data≠.cell v):Inv X (pins++pinsAt fp s.heap) σ H s :=
 I.pins_of fun p hp=>(List.mem_append.mp hp).elim (fun z=>I.pin p (List.mem_append_right _ z)) fun z=>by
  obtain⟨hb,e⟩:=z2x z;obtain⟨f0,f1,f2,_⟩:=hf p.1 hb;obtain⟨o,e',d⟩:=ho p.1 hb;rw[e] at e';cases e';exact⟨e,f0,f1,f2,d⟩
theorem Inv.unpinned{σ:St}(I:Inv X (pins++pl) σ H s):Inv X pins σ H s:=I.pins_of fun p hp=>I.pin p (List.mem_append_right _ (List.mem_append_left _ hp))
theorem q1x{iter:Expr}{body:List Stmt}{wi:TI}{g:TG}{tb:TS}{pos:Pos}(hp:PassesOwn (model X.prog X.w) X.A X.env X.xe)(hc:X.calm=true)(hi:PI X tg iter wi)(hg:PG X tg g)(hb:PSs X body tb)(hs:∀x,foldedSetIterable iter X.env x=pure x:=by intro _;rfl):PS X (.For tg iter body [] pos) (tFor wi g tb):=by
 intro pins s σ H D I h;refine wpAny_For (thn (hi pins s σ H _ I h) fun v s1 h1=>thn h1 fun itv s2 h2=>?_) hs;obtain⟨it,fp,tn,J,H2,e,I2,T,st2,f2,W,⟨m0,w0⟩,turn⟩:=h2;subst e;have stat:∀{H':Hp},(∀b∈fp,H' b=none)->∀b∈fp,FpOk X pins H' b:=fun hn b hb=>⟨hn b hb,(f2 b hb).2⟩
 refine codeAny_forLoop_any (fun n s'=>∃i σ' H',Inv X pins σ' H' s'/\tn i s'.heap/\(∀b∈fp,H' b=none)/\W i n σ' H') ?_ m0 ⟨0,σ,H2,I2,st2,fun b hb=>(f2 b hb).1,w0⟩;rintro n s3 ⟨i,σ3,H3,I3,st3,fr3,w3⟩;rcases turn i n σ3 H3 w3 with⟨stop,qn⟩|⟨go,N,hN,step⟩
 ·refine wpAny_passesOwn hp (thn (T.done X rfl rfl rfl hc i pins s3 σ3 H3 X.xe I3 (stat fr3) st3 stop) fun r s4 ⟨hr,I4⟩=>?_);subst hr;exact wpAny_execs_nil ⟨σ3,H3,I4,qn⟩
 ·refine wpAny_passesOwn hp (thn (T.item X rfl rfl rfl hc i pins s3 σ3 H3 X.xe I3 (stat fr3) st3 go) fun r s4 ⟨u,hr,h4⟩=>?_);subst hr;refine wpAny_passesOwn hp (thn h4 fun _ s5 ⟨x,H5,I5,r5,y5,st5,fr5⟩=>?_);have I5':=I5.pinned (stat fr5) (T.obj _ _ st5);refine wpAny_passesOwn hp (thn (hg _ s5 σ3 H5 x u _ I5' r5 (step x H5 y5)) fun _ s6 ⟨σ6,H6,I6,q6⟩=>?_);refine wpAny_passesOwn hp (thn (hb _ s6 σ6 H6 _ I6 q6) fun f s7 q7=>?_);have again:∀{σ7:St} {H7:Hp},Inv X (pins++pinsAt fp s5.heap) σ7 H7 s7->N σ7 H7->∃m,m<n/\∃i σ' H',Inv X pins σ' H' s7/\tn i s7.heap/\(∀b∈fp,H' b=none)/\W i m σ' H':=fun{σ7 H7} I7 n7=>by
   obtain⟨m',hm,w7⟩:=hN σ7 H7 n7;refine⟨m',hm,i+1,σ7,H7,I7.unpinned,T.keep _ _ _ st5 fun b hb o e=>(I7.pin (b,o) (List.mem_append_right _ (List.mem_append_right _ (q1v hb e)))).1,fun b hb=>?_,w7⟩;obtain⟨o,e,d⟩:=T.obj _ _ st5 b hb;exact(I7.pin (b,o) (List.mem_append_right _ (List.mem_append_right _ (q1v hb e)))).2.1
  cases f with
  |next=>obtain⟨σ7,H7,I7,n7⟩:=q7;exact again I7 n7
  |cont=>obtain⟨σ7,H7,I7,n7⟩:=q7;exact again I7 n7
  |brk=>obtain⟨σ7,H7,I7,q7⟩:=q7;exact⟨σ7,H7,I7.unpinned,q7⟩
  |ret v=>obtain⟨x7,σ7,H7,I7,r7,q7⟩:=q7;exact⟨x7,σ7,H7,I7.unpinned,r7,q7⟩
end
theorem q4l{K:PySem.W.Frag}{g:TG}{tb:TS}{D:Ends}(Pv:Nat->St->Hp->Prop)(h0:Pv 0 σ H)(hl:∀i σ H,i<=xs.length->Pv i σ H->SqL K H a xs)(hs:∀i x σ H,xs[i]?=some x->Pv i σ H->g x σ H fun σ2 H2=>tb { D with nx:=Pv (i+1),ct:=Pv (i+1),bk:=D.nx } σ2 H2)(hd:∀σ H,Pv xs.length σ H->D.nx σ H):
  ∃W:Nat->Nat->St->Hp->Prop,(∃m,W 0 m σ H)/\∀i m σ H,W i m σ H ->
   ((Itl K a).stop i H/\D.nx σ H)\/((Itl K a).go i H/\∃N:St->Hp->Prop,(∀σ' H',N σ' H'->∃m',m'<m/\W (i+1) m' σ' H')/\∀x H',(Itl K a).yld i H x H'->g x σ H' fun σ2 H2=>tb { D with nx:=N,ct:=N,bk:=D.nx } σ2 H2):=by
 refine⟨fun i m σ H=>m=xs.length-i/\i<=xs.length/\Pv i σ H,⟨xs.length,by simp,Nat.zero_le _,h0⟩,?_⟩;rintro i m σ H ⟨rfl,hi,p⟩;have q:=hl i σ H hi p;by_cases hlt:i<xs.length
 ·refine .inr ⟨⟨xs,xs[i],q,by simp[hlt]⟩,Pv (i+1),fun σ' H' p'=>⟨xs.length-(i+1),by lia,rfl,hlt,p'⟩,fun x H' y=>?_⟩;obtain⟨e,y⟩:=y;subst e;exact hs i x σ _ (y xs q) p
 ·have e:i=xs.length:=by lia
  subst e;exact .inl ⟨⟨xs,q,Nat.le_refl _⟩,hd σ H p⟩
theorem q3r{lo:Int}{g:TG}{tb:TS}{D:Ends}(Pv:Nat->St->Hp->Prop)(h0:Pv 0 σ H)(hs:∀i σ H,i<n->Pv i σ H->g (.int (lo+i)) σ H fun σ2 H2=>tb { D with nx:=Pv (i+1),ct:=Pv (i+1),bk:=D.nx } σ2 H2)(hd:∀σ H,Pv n σ H->D.nx σ H):
  ∃W:Nat->Nat->St->Hp->Prop,(∃m,W 0 m σ H)/\∀i m σ H,W i m σ H ->
   ((Itr lo n).stop i H/\D.nx σ H)\/((Itr lo n).go i H/\∃N:St->Hp->Prop,(∀σ' H',N σ' H'->∃m',m'<m/\W (i+1) m' σ' H')/\∀x H',(Itr lo n).yld i H x H'->g x σ H' fun σ2 H2=>tb { D with nx:=N,ct:=N,bk:=D.nx } σ2 H2):=by
 refine⟨fun i m σ H=>m=n-i/\i<=n/\Pv i σ H,⟨n,by simp,Nat.zero_le _,h0⟩,?_⟩;rintro i m σ H ⟨rfl,hi,p⟩;by_cases hlt:i<n
 ·refine .inr ⟨hlt,Pv (i+1),fun σ' H' p'=>⟨n-(i+1),by lia,rfl,hlt,p'⟩,fun x H' y=>?_⟩;obtain⟨e,y⟩:=y;subst e y;exact hs i σ _ hlt p
 ·have e:i=n:=by lia
  subst e;exact .inl ⟨Nat.le_refl _,hd σ H p⟩
theorem q6o(Pv:St->Hp->Prop)(μ:St->Hp->Nat)(h0:Pv σ H)(hs:∀σ H,Pv σ H->c σ H fun b H1=>if b=true then tb { D with nx:=fun σ' H'=>Pv σ' H'/\μ σ' H'<μ σ H,ct:=fun σ' H'=>Pv σ' H'/\μ σ' H'<μ σ H,bk:=D.nx } σ H1 else D.nx σ H1)(mono:∀σ H Q Q',(∀b H1,Q b H1->Q' b H1)->c σ H Q->c σ H Q'):tWhile c tb D σ H:=by
 refine⟨fun m σ H=>m=μ σ H/\Pv σ H,⟨_,rfl,h0⟩,?_⟩;rintro m σ H ⟨rfl,p⟩;refine mono σ H _ _ (fun b H1 q=>?_) (hs σ H p);cases b with
 |true=>exact⟨_,fun σ' H' ⟨p',l⟩=>⟨_,l,rfl,p'⟩,q⟩
 |false=>exact q
open PySem PySem.Spec PyProof.Rows
abbrev R2:=V->V->Hp->VK->Prop
def OpR(X:Cx)(f:Value->Value->Sem Value)(r:R2):Prop :=
 ∀(pins:List (Addr×Obj)) (s:Shared) (σ:St) (H:Hp) (x y:V) (v u:Value) (Q:VK),Inv X pins σ H s->RelV x v->RelV y u->r x y H Q ->
  wpAny (model X.prog X.w) X.A (f v u) (EP X pins σ Q) X.xe s
def UnR(X:Cx)(f:Value->Sem Value)(r:V->Hp->VK->Prop):Prop :=
 ∀(pins:List (Addr×Obj)) (s:Shared) (σ:St) (H:Hp) (x:V) (v:Value) (Q:VK),Inv X pins σ H s->RelV x v->r x H Q ->
  wpAny (model X.prog X.w) X.A (f v) (EP X pins σ Q) X.xe s
def CallR(X:Cx)(f:Value)(r:List V->Hp->VK->Prop):Prop :=
 ∀(pins:List (Addr×Obj)) (s:Shared) (σ:St) (H:Hp) (xs:List V) (us:List Value) (Q:VK),Inv X pins σ H s->Vals xs us->r xs H Q ->
  wpAny (model X.prog X.w) X.A (call f us) (EP X pins σ Q) X.xe s
def TruR(X:Cx)(r:V->Hp->(Bool->Hp->Prop)->Prop):Prop :=
 ∀(pins:List (Addr×Obj)) (s:Shared) (σ:St) (H:Hp) (x:V) (v:Value) (Q:Bool->Hp->Prop),Inv X pins σ H s->RelV x v->r x H Q ->
  wpAny (model X.prog X.w) X.A (truthy v) (TP X pins σ Q) X.xe s
def tOp(r:R2)(ta tb:TE):TE:=fun σ H Q=>ta σ H fun x H1=>tb σ H1 fun y H2=>r x y H2 Q
def tUn(r:V->Hp->VK->Prop)(ta:TE):TE:=fun σ H Q=>ta σ H fun x H1=>r x H1 Q
def rI(C:Int->Int->Prop)(g:Int->Int->V):R2:=fun x y H Q=>∃i j,x=.int i/\y=.int j/\C i j/\Q (g i j) H
def rI0(g:Int->Int->V):R2:=fun x y H Q=>∃i j,x=.int i/\y=.int j/\Q (g i j) H
def rU(g:Int->V):V->Hp->VK->Prop:=fun x H Q=>∃i,x=.int i/\Q (g i) H
section
variable{X:Cx}{a b c:Expr}{ta tb tc:TE}{pos:Pos}
theorem binT(ha:PE X a ta)(hb:PE X b tb){σ:St}{R:V->V->Hp->Prop}(I:Inv X pins σ H s)(h:ta σ H fun x H1=>tb σ H1 fun y H2=>R x y H2){f:Value->Value->Sem Value}(hf:∀v u s2 x y H2,Inv X pins σ H2 s2->RelV x v->RelV y u->R x y H2->wpAny (model X.prog X.w) X.A (f v u) Q X.xe s2):
  wpAny (model X.prog X.w) X.A (eval a X.env) (fun v s₁=>wpAny (model X.prog X.w) X.A (eval b X.env) (fun u s₂=>wpAny (model X.prog X.w) X.A (f v u) Q X.xe s₂) X.xe s₁) X.xe s:=by
 refine thn (ha pins s σ H _ I h) fun v s1 ⟨x,H1,I1,r1,q1⟩=>?_;refine thn (hb pins s1 σ H1 _ I1 q1) fun u s2 ⟨y,H2,I2,r2,q2⟩=>?_;exact hf v u s2 x y H2 I2 r1 r2 q2
theorem q1a{op:Operator}{r:R2}(ho:OpR X (binaryOp op) r)(ha:PE X a ta)(hb:PE X b tb):PE X (.BinOp a op b pos) (tOp r ta tb):=by
 intro pins s σ H Q I h;exact wpAny_BinOp (binT ha hb I h fun v u s2 x y H2 I2 rx ry q=>ho pins s2 σ H2 x y v u Q I2 rx ry q)
theorem q1o{op:UnaryOp}{r:V->Hp->VK->Prop}(ho:UnR X (unaryOp op) r)(ha:PE X a ta):PE X (.UnaryOp op a pos) (tUn r ta):=by
 intro pins s σ H Q I h;exact UnaryOp_ (thn (ha pins s σ H _ I h) fun v s1 ⟨x,H1,I1,r1,q1⟩=>ho pins s1 σ H1 x v Q I1 r1 q1)
theorem opI{g:Int->Int->Int}(rule:∀(i j:Int) (t u:Tok) (s:Shared) (Q:Value->Shared->Prop) (E:Value->Shared->Prop),C i j->Q (.int (g i j) s.toks) { s with toks:=s.toks+1 }->wpAny (model X.prog X.w) X.A (f (.int i t) (.int j u)) Q E s):
  OpR X f (rI C fun i j=>.int (g i j)):=by
 intro pins s σ H x y v u Q I rx ry h;obtain⟨i,j,rfl,rfl,hc,q⟩:=h;obtain⟨t,rfl⟩:=rx;obtain⟨t',rfl⟩:=ry;exact rule i j t t' s _ _ hc ⟨.int (g i j),H,I.tok _,⟨_,rfl⟩,q⟩
theorem opI0{g:Int->Int->Int}(rule:∀(i j:Int) (t u:Tok) (s:Shared) (Q:Value->Shared->Prop) (E:Value->Shared->Prop),Q (.int (g i j) s.toks) { s with toks:=s.toks+1 }->wpAny (model X.prog X.w) X.A (f (.int i t) (.int j u)) Q E s):
  OpR X f (rI0 fun i j=>.int (g i j)):=by
 intro pins s σ H x y v u Q I rx ry h;obtain⟨i,j,rfl,rfl,q⟩:=h;obtain⟨t,rfl⟩:=rx;obtain⟨t',rfl⟩:=ry;exact rule i j t t' s _ _ ⟨.int (g i j),H,I.tok _,⟨_,rfl⟩,q⟩
theorem opB0{g:Int->Int->Bool}(rule:∀(i j:Int) (t u:Tok) (s:Shared) (Q:Value->Shared->Prop) (E:Value->Shared->Prop),Q (.bool (g i j)) s->wpAny (model X.prog X.w) X.A (f (.int i t) (.int j u)) Q E s):
  OpR X f (rI0 fun i j=>.bl (g i j)):=by
 intro pins s σ H x y v u Q I rx ry h;obtain⟨i,j,rfl,rfl,q⟩:=h;obtain⟨t,rfl⟩:=rx;obtain⟨t',rfl⟩:=ry;exact rule i j t t' s _ _ ⟨.bl (g i j),H,I,rfl,q⟩
def CDiv(i j:Int):Prop:=0<j/\j<1073741824
def CPow(i j:Int):Prop:=0<=j/\j<=1000000/\i.natAbs<2^64
def CMul(i j:Int):Prop:=(-(2^64)<i/\i<2^64)\/(-(2^64)<j/\j<2^64)
theorem CMul.ok(h:CMul i j):IntMulOk i j:=by
 rcases h with⟨h1,h2⟩|⟨h1,h2⟩
 ·exact .of_left (intBits_le_64 h1 h2)
 ·exact .of_right (intBits_le_64 h1 h2)
theorem op_add:OpR X (binaryOp .Add) (rI0 fun i j=>.int (i+j)):=opI0 fun _ _ _ _ _ _ _ q=>add_int q
theorem op_mul:OpR X (binaryOp .Mult) (rI CMul fun i j=>.int (i*j)):=opI fun _ _ _ _ _ _ _ hc q=>mul_int q hc.ok
theorem z2y:OpR X (binaryOp .FloorDiv) (rI CDiv fun i j=>.int (i / j)):=opI fun i j _ _ _ _ _ hc q=>by
 have h1:=hc.1;have h2:=hc.2;exact floordiv_int (by lia) (by rw[Int.fdiv_eq_ediv_of_nonneg i (by lia)];exact q) (.inl (PyProof.noPylong_small (by lia)))
theorem q5w:OpR X (binaryOp .Mod) (rI (fun _ j=>0<j) fun i j=>.int (i%j)):=opI fun i j _ _ _ _ _ hc q=>by
 exact mod_int' (by lia) (by rw[Int.fmod_eq_emod_of_nonneg i (by lia)];exact q)
theorem z7h:OpR X (binaryOp .Pow) (rI CPow fun i j=>.int (i^j.toNat)):=opI fun _ _ _ _ _ _ _ hc q=>pow_int_small hc.1 hc.2.1 hc.2.2 q
theorem unI{g:Int->Int}(rule:∀(i:Int) (t:Tok) (s:Shared) (Q:Value->Shared->Prop) (E:Value->Shared->Prop),Q (.int (g i) s.toks) { s with toks:=s.toks+1 }->wpAny (model X.prog X.w) X.A (f (.int i t)) Q E s):
  UnR X f (rU fun i=>.int (g i)):=by
 intro pins s σ H x v Q I rx h;obtain⟨i,rfl,q⟩:=h;obtain⟨t,rfl⟩:=rx;exact rule i t s _ _ ⟨.int (g i),H,I.tok _,⟨_,rfl⟩,q⟩
theorem q0s:UnR X (unaryOp .USub) (rU fun i=>.int (-i)):=unI fun _ _ _ _ _ q=>neg_int q
end
def scal:V->V->Bool
 |.non,.non=>true|.non,.int _=>true|.int _,.non=>true|.non,.bl _=>true|.bl _,.non=>true|.non,.str _=>true|.str _,.non=>true
 |.int _,.int _=>true|.bl _,.bl _=>true|.str _,.str _=>true|.byt _,.byt _=>true
 |.int _,.str _=>true|.str _,.int _=>true|.bl _,.str _=>true|.str _,.bl _=>true
 |_,_=>false
def rEq:R2:=fun x y H Q=>scal x y=true/\Q (.bl (decide (x=y))) H
def rNe:R2:=fun x y H Q=>scal x y=true/\Q (.bl (!decide (x=y))) H
theorem z2z:decide (V.int i=V.int j)=(i==j):=by
 rw[Bool.eq_iff_iff];simp
theorem z7i:decide (V.bl i=V.bl j)=(i==j):=by
 rw[Bool.eq_iff_iff];simp
theorem dec_str:decide (V.str i=V.str j)=(i==j):=by
 rw[Bool.eq_iff_iff];simp
theorem z3a:decide (V.byt i=V.byt j)=(i.toList==j.toList):=by
 rw[Bool.eq_iff_iff];cases i;cases j;simp
section
variable{X:Cx}{a b c:Expr}{ta tb tc:TE}{pos:Pos}
theorem q0p{σ:St}(I:Inv X pins σ H s)(q:Q (.bl k) H)(e:k=k'):EP X pins σ Q (.bool k') s:=by
 subst e;exact⟨.bl k,H,I,rfl,q⟩
theorem op_eq:OpR X (compareOp .Eq) rEq:=by
 intro pins s σ H x y v u Q I rx ry h;obtain⟨hs,q⟩:=h;cases x with
 |non =>
  cases rx;cases y with
  |non=>cases ry;exact PySem.EqNone.eq_none_none (q0p I q (by simp))
  |bl j=>cases ry;exact PySem.EqNone.eq_none_bool (q0p I q (by simp))
  |int j=>obtain⟨t',rfl⟩:=ry;exact PySem.EqNone.eq_none_int (q0p I q (by simp))
  |str j=>obtain⟨t',rfl⟩:=ry;exact PySem.EqNone.eq_none_str (q0p I q (by simp))
  |_=>exact absurd (show false=true from hs) Bool.false_ne_true
 |bl i =>
  cases rx;cases y with
  |non=>cases ry;exact PySem.EqNone.eq_bool_none (q0p I q (by simp))
  |bl j=>cases ry;exact eq_bool (q0p I q z7i)
  |str j=>obtain⟨t',rfl⟩:=ry;exact PySem.EqMixed.eq_bool_str (q0p I q (by simp))
  |_=>exact absurd (show false=true from hs) Bool.false_ne_true
 |int i =>
  obtain⟨t,rfl⟩:=rx;cases y with
  |non=>cases ry;exact PySem.EqNone.eq_int_none (q0p I q (by simp))
  |int j=>obtain⟨t',rfl⟩:=ry;exact eq_int (q0p I q z2z)
  |str j=>obtain⟨t',rfl⟩:=ry;exact PySem.EqMixed.eq_int_str (q0p I q (by simp))
  |_=>exact absurd (show false=true from hs) Bool.false_ne_true
 |str i =>
  obtain⟨t,rfl⟩:=rx;cases y with
  |non=>cases ry;exact PySem.EqNone.eq_str_none (q0p I q (by simp))
  |bl j=>cases ry;exact PySem.EqMixed.eq_str_bool (q0p I q (by simp))
  |int j=>obtain⟨t',rfl⟩:=ry;exact PySem.EqMixed.eq_str_int (q0p I q (by simp))
  |str j=>obtain⟨t',rfl⟩:=ry;exact eq_str (q0p I q dec_str)
  |_=>exact absurd (show false=true from hs) Bool.false_ne_true
 |byt i =>
  obtain⟨t,rfl⟩:=rx;cases y with
  |byt j=>obtain⟨t',rfl⟩:=ry;exact W.eq_bytes (q0p I q z3a)
  |_=>exact absurd (show false=true from hs) Bool.false_ne_true
 |_=>cases y<;>exact absurd (show false=true from hs) Bool.false_ne_true
theorem op_ne:OpR X (compareOp .NotEq) rNe:=by
 intro pins s σ H x y v u Q I rx ry h;obtain⟨hs,q⟩:=h;cases x with
 |non =>
  cases rx;cases y with
  |non=>cases ry;exact PySem.EqNone.ne_none_none (q0p I q (by simp))
  |bl j=>cases ry;exact PySem.EqNone.ne_none_bool (q0p I q (by simp))
  |int j=>obtain⟨t',rfl⟩:=ry;exact PySem.EqNone.ne_none_int (q0p I q (by simp))
  |str j=>obtain⟨t',rfl⟩:=ry;exact PySem.EqNone.ne_none_str (q0p I q (by simp))
  |_=>exact absurd (show false=true from hs) Bool.false_ne_true
 |bl i =>
  cases rx;cases y with
  |non=>cases ry;exact PySem.EqNone.ne_bool_none (q0p I q (by simp))
  |bl j=>cases ry;exact ne_bool (q0p I q (congrArg not z7i))
  |str j=>obtain⟨t',rfl⟩:=ry;exact PySem.EqMixed.ne_bool_str (q0p I q (by simp))
  |_=>exact absurd (show false=true from hs) Bool.false_ne_true
 |int i =>
  obtain⟨t,rfl⟩:=rx;cases y with
  |non=>cases ry;exact PySem.EqNone.ne_int_none (q0p I q (by simp))
  |int j=>obtain⟨t',rfl⟩:=ry;exact ne_int (q0p I q (congrArg not z2z))
  |str j=>obtain⟨t',rfl⟩:=ry;exact PySem.EqMixed.ne_int_str (q0p I q (by simp))
  |_=>exact absurd (show false=true from hs) Bool.false_ne_true
 |str i =>
  obtain⟨t,rfl⟩:=rx;cases y with
  |non=>cases ry;exact PySem.EqNone.ne_str_none (q0p I q (by simp))
  |bl j=>cases ry;exact PySem.EqMixed.ne_str_bool (q0p I q (by simp))
  |int j=>obtain⟨t',rfl⟩:=ry;exact PySem.EqMixed.ne_str_int (q0p I q (by simp))
  |str j=>obtain⟨t',rfl⟩:=ry;exact ne_str (q0p I q (congrArg not dec_str))
  |_=>exact absurd (show false=true from hs) Bool.false_ne_true
 |byt i =>
  obtain⟨t,rfl⟩:=rx;cases y with
  |byt j=>obtain⟨t',rfl⟩:=ry;exact W.ne_bytes (q0p I q (congrArg not z3a))
  |_=>exact absurd (show false=true from hs) Bool.false_ne_true
 |_=>cases y<;>exact absurd (show false=true from hs) Bool.false_ne_true
theorem z5j:OpR X (compareOp .Lt) (rI0 fun i j=>.bl (decide (i<j))):=opB0 fun _ _ _ _ _ _ _ q=>lt_int q
theorem op_gt:OpR X (compareOp .Gt) (rI0 fun i j=>.bl (decide (j<i))):=opB0 fun _ _ _ _ _ _ _ q=>gt_int q
theorem OpR.or(h:OpR X f r)(h':OpR X f r'):OpR X f (fun x y H Q=>r x y H Q\/r' x y H Q):=by
 intro pins s σ H x y v u Q I rx ry q;rcases q with q|q
 ·exact h pins s σ H x y v u Q I rx ry q
 ·exact h' pins s σ H x y v u Q I rx ry q
theorem nomark(b:Expr)(h:op≠.In:=by decide)(h2:op≠.NotIn:=by decide):behindInMarks op b=false:=by
 have e1:(op==CmpOp.In)=false:=by grind
 have e2:(op==CmpOp.NotIn)=false:=by grind
 cases b<;>simp[behindInMarks,e1,e2]
theorem q4t{op:CmpOp}{r:R2}(ho:OpR X (compareOp op) r)(ha:PE X a ta)(hb:PE X b tb)(hm:behindInMarks op b=false):PE X (.Compare a [op] [b] pos) (tOp r ta tb):=by
 intro pins s σ H Q I h;exact wpAny_Compare1 (binT ha hb I h fun v u s2 x y H2 I2 rx ry q=>ho pins s2 σ H2 x y v u Q I2 rx ry q) hm
def tTest(t:TE):TT:=fun σ H Q=>t σ H fun x H'=>∃k,x=.bl k/\Q k H'
theorem q0k{op:CmpOp}{r:R2}(ho:OpR X (compareOp op) r)(ha:PE X a ta)(hb:PE X b tb)(hm:behindInMarks op b=false):PT X (.Compare a [op] [b] pos) (tTest (tOp r ta tb)):=by
 intro pins s σ H Q I h;refine wpAny_isTrue_Compare1 (thn (ha pins s σ H _ I h) fun v s1 ⟨x,H1,I1,r1,q1⟩=>thn (hb pins s1 σ H1 _ I1 q1) fun u s2 ⟨y,H2,I2,r2,q2⟩ =>
  thn (ho pins s2 σ H2 x y v u _ I2 r1 r2 q2) fun c s3 ⟨z,H3,I3,r3,k,e,q3⟩=>?_) hm
 subst e;cases r3;exact wpAny_truthy_bool ⟨H3,I3,q3⟩
def TruV(K:W.Frag)(x:V)(H:Hp)(k:Bool):Prop :=
 match x with
 |.non=>k=false
 |.bl b=>k=b
 |.int i=>k=(i != 0)
 |.str y=>y.length<=sizeLine/\k=((y.length:Int) != 0)
 |.byt y=>y.size<=sizeLine/\k=((y.size:Int) != 0)
 |.ref p=>(∃xs,SqL K H p xs/\k = !xs.isEmpty)\/(∃xs,SqT K H p xs/\k = !xs.isEmpty)\/∃kvs,H p=some (.dK kvs)/\k = !kvs.isEmpty
 |_=>False
theorem z1n{kvs:List (κ×V)}{vs:List (κ×Value)}(r:KV kvs vs):(!vs.isEmpty) = !kvs.isEmpty:=by
 cases r<;>rfl
theorem q5x(r:Vals xs its):(!its.toArray.isEmpty) = !xs.isEmpty:=by
 cases r<;>simp
theorem line63:(sizeLine:Nat)<2^63:=by rw[sizeLine_eq];decide
theorem tru_ok:TruR X (fun x H Q=>∃k,TruV X.K x H k/\Q k H):=by
 intro pins s σ H x v Q I rx h;obtain⟨k,e,q⟩:=h;have hs:=sizeLine_eq;cases x with
 |non =>
  cases rx;have e':=e;subst e';exact truthy_none ⟨H,I,q⟩
 |bl b =>
  cases rx;have e':=e;subst e';exact wpAny_truthy_bool ⟨H,I,q⟩
 |int i =>
  obtain⟨t,rfl⟩:=rx;have e':=e;subst e';exact PySem.P.truthy_int ⟨H,I,q⟩
 |str y =>
  obtain⟨t,rfl⟩:=rx;obtain⟨hy,e'⟩:y.length<=sizeLine/\k=((y.length:Int) != 0):=e;subst e';exact PySem.P.truthy_str (by lia) ⟨H,I.tok _,q⟩
 |byt y =>
  obtain⟨t,rfl⟩:=rx;obtain⟨hy,e'⟩:y.size<=sizeLine/\k=((y.size:Int) != 0):=e;subst e';exact W.truthy_bytes (by lia) ⟨H,I.tok _,q⟩
 |ref p =>
  cases rx;have e':=e;rcases e' with⟨xs,hx,e'⟩|⟨xs,hx,e'⟩|⟨kvs,hx,e'⟩
  ·subst e';obtain⟨its,r,pl,hz⟩:=I.list hx;have hlen:=r.length;exact wpAny_truthy_list pl.isList (by simp only[List.size_toArray];lia) ⟨H,I.tok _,by rw[q5x r];exact q⟩
  ·subst e';obtain⟨its,r,pl,hz⟩:=I.tuple hx;have hlen:=r.length;exact truthy_tuple pl (by simp only[List.size_toArray];lia) ⟨H,I.tok _,by rw[q5x r];exact q⟩
  ·subst e';obtain⟨hz,hS,vs,r,m⟩:kvs.length<=sizeLine/\(p==sysModules)=false/\∃vs,KV kvs vs/\s.heap.DictOf (mixKind X.prog X.w) p vs:=I.hok p _ hx;have hlen:=Paired.length r;exact wpAny_truthy_dict hS m (by lia) ⟨H,I.tok _,by rw[z1n r];exact q⟩
 |_=>exact(show False from e).elim
theorem z5k(ha:PE X a ta)(he:∀whole,isTrue a X.env whole=(do let v<-whole;standAt a.pos;holding [v] (truthy v))):
  PT X a (fun σ H Q=>ta σ H fun x H'=>∃k,TruV X.K x H' k/\Q k H'):=by
 intro pins s σ H Q I h;exact isTrue_plain (thn (ha pins s σ H _ I h) fun v s1 ⟨x,H1,I1,r1,q1⟩=>tru_ok pins s1 σ H1 x v Q I1 r1 q1) (he _)
theorem op_add_str:OpR X (binaryOp .Add) (fun x y H Q=>∃i j,x=.str i/\y=.str j/\i.length+j.length<=sizeLine/\Q (.str (i++j)) H):=by
 intro pins s σ H x y v u Q I rx ry h;obtain⟨i,j,rfl,rfl,hz,q⟩:=h;obtain⟨t,rfl⟩:=rx;obtain⟨t',rfl⟩:=ry;exact add_str (fun t' tk=>⟨.str (i++j),H,I.tok _,⟨_,rfl⟩,q⟩) hz
theorem vals1(r:Vals [x] us):∃u,us=[u]/\RelV x u:=by
 cases r with
 |cons r1 r2=>cases r2;exact⟨_,rfl,r1⟩
theorem vals2(r:Vals [x,y] us):∃u w',us=[u,w']/\RelV x u/\RelV y w':=by
 cases r with
 |cons r1 r2 =>
  cases r2 with
  |cons r3 r4=>cases r4;exact⟨_,_,rfl,r1,r3⟩
theorem z3b(hc:X.calm=true):CallR X (.builtin "max") (fun xs H Q=>∃i j,xs=[.int i,.int j]/\Q (.int (if j>i then j else i)) H):=by
 intro pins s σ H xs us Q I r h;obtain⟨i,j,rfl,q⟩:=h;obtain⟨u,w',rfl,⟨t,rfl⟩,⟨t',rfl⟩⟩:=vals2 r;refine max_two_ints (I.ok.hd hc) fun h' tk k=>⟨_,H,I.kept k,?_,q⟩
 by_cases hj:j>i
 ·rw[if_pos hj,if_pos hj];exact⟨_,rfl⟩
 ·rw[if_neg hj,if_neg hj];exact⟨_,rfl⟩
theorem z3c(hc:X.calm=true):CallR X (.builtin "min") (fun xs H Q=>∃i j,xs=[.int i,.int j]/\Q (.int (if j<i then j else i)) H):=by
 intro pins s σ H xs us Q I r h;obtain⟨i,j,rfl,q⟩:=h;obtain⟨u,w',rfl,⟨t,rfl⟩,⟨t',rfl⟩⟩:=vals2 r;refine min_two_ints (I.ok.hd hc) fun h' tk k=>⟨_,H,I.kept k,?_,q⟩
 by_cases hj:j<i
 ·rw[if_pos hj,if_pos hj];exact⟨_,rfl⟩
 ·rw[if_neg hj,if_neg hj];exact⟨_,rfl⟩
def LenV(K:W.Frag)(x:V)(H:Hp)(n:Nat):Prop :=
 match x with
 |.str y=>y.length<=sizeLine/\n=y.length
 |.byt y=>y.size<=sizeLine/\n=y.size
 |.ref p=>(∃xs,SqL K H p xs/\n=xs.length)\/∃xs,SqT K H p xs/\n=xs.length
 |_=>False
theorem z5l:CallR X (.builtin "len") (fun xs H Q=>∃x n,xs=[x]/\LenV X.K x H n/\Q (.int n) H):=by
 intro pins s σ H xs us Q I r h;obtain⟨x,n,rfl,e,q⟩:=h;obtain⟨u,rfl,rx⟩:=vals1 r;have hs:=sizeLine_eq;cases x with
 |str y =>
  obtain⟨t,rfl⟩:=rx;obtain⟨hy,e'⟩:y.length<=sizeLine/\n=y.length:=e;subst e';exact len_str (by lia) ⟨.int _,H,I.tok _,⟨_,rfl⟩,q⟩
 |byt y =>
  obtain⟨t,rfl⟩:=rx;obtain⟨hy,e'⟩:y.size<=sizeLine/\n=y.size:=e;subst e';exact W.len_bytes (by lia) ⟨.int _,H,I.tok _,⟨_,rfl⟩,q⟩
 |ref p =>
  cases rx;have e':=e;rcases e' with⟨xs,hx,e'⟩|⟨xs,hx,e'⟩
  ·subst e';obtain⟨its,r',pl,hz⟩:=I.list hx;have hlen:=r'.length;exact Calls.call_len_list pl.isList (by simp only[List.size_toArray];lia) ⟨.int xs.length,H,I.tok _,⟨_,by simp only[List.size_toArray];rw[hlen]⟩,q⟩
  ·subst e';obtain⟨its,r',pl,hz⟩:=I.tuple hx;have hlen:=r'.length;exact len_tuple pl (by simp only[List.size_toArray];lia) ⟨.int xs.length,H,I.tok _,⟨_,by simp only[List.size_toArray];rw[hlen]⟩,q⟩
 |_=>exact(show False from e).elim
end
open PySem PySem.Spec PyProof.Rows
structure ObjM (h:Heap) (x dx C:Addr) (mA:Str->Option Value):Prop where
 obj:h.get? x=some (W.instObj C dx)
 ns:h.Ns1 dx mA
 ne:dx≠x
theorem z3d{h:Heap}(n:h.Ns1 dx mA):∃od,h.get? dx=some od/\∀name,W.lookIn name od=some (mA name):=by
 obtain⟨o,es,ep,ho,hd,hk,_,hm⟩:=n;refine⟨o,ho,fun name=>?_⟩;have e:=hm name;unfold nsFind findBy at e;rw[<- Array.find?_toList] at e;unfold W.lookIn;rw[hd];dsimp only;split
 ·grind
 ·rename_i q;rw[q] at e;have a:es.toList.any (·.refKey)=false:=by
   rw[List.any_eq_false];intro y hy;obtain⟨z,t,hkey⟩:=hk y (Array.mem_toList_iff.mp hy);simp[DictEntry.refKey,hkey]
  have a':¬es.toList.any (·.refKey)=true:=by grind
  rw[if_neg a'];exact congrArg some e
theorem ObjM.look(I:ObjM h x dx C mA):∃od,W.InstAt h x (W.instObj C dx) C (some od)/\∀name,W.lookIn name od=some (mA name) :=
 let ⟨od,ho,hl⟩:=z3d I.ns
 ⟨od,⟨I.obj,rfl,rfl,ho⟩,hl⟩
section
variable{prog:Program}{w:World}{A:Around}{E:Value->Shared->Prop}{s:Shared}{K:W.Frag}{x dx C f:Addr}{mA:Str->Option Value}{name:Str}{v:Value}
theorem z8d(X:K.In s.heap)(I:ObjM s.heap x dx C mA)(hg:W.plainGet K C name=true)(hh:W.hasDictIn K C=true)(ha:W.findIn K (.ref C) name=some none)(hv:mA name=some v)(hv':W.handedIn v=true)(h:Q v { s with toks:=s.toks+1 }):
  wpAny (model prog w) A (getAttr (.ref x) name expr) Q E s:=by
 obtain⟨od,J,hl⟩:=I.look;exact W.get_value X J (W.plainGet_of hg).1 (W.findObj_own hh ha rfl (by rw[hl,hv])) hv' h
theorem z5m(X:K.In s.heap)(I:ObjM s.heap x dx C mA)(hg:W.plainGet K C name=true)(hf:W.findIn K (.ref C) name=some (some (.ref f)))(ht:W.isFn K (.ref f)=true)(hv:mA name=none)(h:Q (.ref f,[.ref x]) s):
  wpAny (model prog w) A (getMethod (.ref x) name pl) Q E s:=by
 obtain⟨od,J,hl⟩:=I.look;exact W.method_fn X J (W.plainGet_of hg).1 (W.plainGet_of hg).2 hf (beq_iff_eq.mp ht) (by show(W.lookIn name od).map (·.isSome)=some false;rw[hl,hv];rfl) h
theorem z8e(X:K.In s.heap)(I:ObjM s.heap x dx C mA)(hs:W.findIn K (.ref C) "__setattr__" = some (some (.builtin "object.__setattr__")))(hp:W.plainOver K C=true)(ht:W.takerIn K C name=some none)(hh:W.hasDictIn K C=true)(hw:PySem.Within mA ns)(hsz:ns.length<=sizeLine)(h:∀h',ObjM h' x dx C (fun y=>if y=name then some v else mA y)->Heap.SameBut dx s.heap h'->Q () { s with heap:=h',toks:=s.toks+2 }):
  wpAny (model prog w) A (setAttr (.ref x) name v) Q E s:=by
 obtain⟨od,J,hl⟩:=I.look;refine W.set_plain X J hs (W.osa_open X J hp ht fun b=>?_);obtain⟨cd,hc,hd'⟩:=W.any_some hh;have hx:=I.obj;refine wpAny_bind (wpAny_pure (wpAny_bind (wpAny_bind (wpAny_loadPart hx (wpAny_bind (W.Looks.here (W.looks_clsIn X hc) ?_))))));rw[hd'];refine wpAny_pure (wpAny_bind (wpAny_pure (wpAny_bind ?_)));refine wpAny_nsSet1 I.ns fun h' hn2 hs2=>?_
 obtain⟨oD,esD,epD,hoD,hdD,hcD⟩:=hn2.count (PySem.Within.cons name v hw);refine wpAny_bind (wpAny_lookBehind hoD (by rw[hdD];exact pastItsLine_dict (Nat.le_trans hcD (by rw[List.length_cons];lia))) ?_);exact wpAny_pure (h _ ⟨(hs2.2 _ (Ne.symm I.ne)).trans I.obj,hn2,I.ne⟩ hs2)
theorem z5n(X:K.In s.heap)(hm:W.makesIn K C=true)(hi:W.findIn K (.ref C) "__init__" = some (some (.ref f)))(hf:W.typeIn K (.ref f)=some (.type "function"))(h:codeAny (model prog w) (A.under (.builtin "type.__call__" ⟨.ref C::vs,kw⟩)) (.call (.ref f) ⟨.ref (s.heap.objs.size+1)::vs,kw⟩) (W.InitBack (s.heap.objs.size+1) R)
   { s with heap:=(s.heap.push W.emptyDict).push (W.instObj C s.heap.objs.size) }):
  codeAny (model prog w) A (.call (.ref C) ⟨vs,kw⟩) R s:=by
 exact W.make_core (W.makes_of X hm) (W.looks_findIn X hi) (fun self=>W.bind_fn X self hf) (.inl rfl) h
end
def putF(f:Str)(v:V):List (Str×V)->List (Str×V)
 |[]=>[(f,v)]
 |(g,x)::r=>if g=f then(g,v)::r else(g,x)::putF f v r
theorem q4u(f g:Str)(v:V):∀fs:List (Str×V),(putF f v fs).lookup g=if g=f then some v else fs.lookup g
 |[]=>by
  show List.lookup g [(f,v)]=_;by_cases h:g=f
  ·have hb:(g==f)=true:=beq_iff_eq.mpr h;simp only[List.lookup,hb,if_pos h]
  ·simp_all
 |(k,x)::r=>by
  have ih:=q4u f g v r;rw[show putF f v ((k,x)::r)=(if k=f then(k,v)::r else(k,x)::putF f v r) from rfl];by_cases hk:k=f
  ·rw[if_pos hk];by_cases h:g=k
   ·simp_all
   ·have hb:(g==k)=false:=beq_eq_false_iff_ne.mpr h;simp only[List.lookup,hb,if_neg (fun e:g=f=>h (e.trans hk.symm))]
  ·rw[if_neg hk];by_cases h:g=k
   ·simp_all
   ·have hb:(g==k)=false:=beq_eq_false_iff_ne.mpr h;simp only[List.lookup,hb];exact ih
theorem q4v(f:Str)(v:V):∀fs:List (Str×V),f∈(putF f v fs).map (·.1)/\∀g,g∈fs.map (·.1)->g∈(putF f v fs).map (·.1)
 |[]=>⟨by simp[putF],fun g h=>by simp at h⟩
 |(k,x)::r=>by
  obtain⟨i1,i2⟩:=q4v f v r;rw[show putF f v ((k,x)::r)=(if k=f then(k,v)::r else(k,x)::putF f v r) from rfl];by_cases hk:k=f
  ·grind
  ·grind
theorem q4w(f:Str)(v:V):∀fs:List (Str×V),(putF f v fs).length<=fs.length+1
 |[]=>by simp[putF]
 |(k,x)::r=>by
  have ih:=q4w f v r;rw[show putF f v ((k,x)::r)=(if k=f then(k,v)::r else(k,x)::putF f v r) from rfl];by_cases hk:k=f
  ·grind
  ·grind
theorem RelO.some_of(r:RelO (some v) o):∃u,o=some u/\RelV v u:=by
 cases o with
 |none=>exact(show False from r).elim
 |some u=>exact⟨u,rfl,r⟩
theorem RelO.none_of(r:RelO none o):o=none:=by
 cases o with
 |none=>rfl
 |some u=>exact(show False from r).elim
theorem z3e(r:RelV v u):W.handedIn u=true:=by
 cases v with
 |non=>cases(show u=Value.none from r);rfl
 |bl b=>cases(show u=Value.bool b from r);rfl
 |int i=>obtain⟨t,e⟩:=(show ∃t,u=Value.int i t from r);cases e;rfl
 |str x=>obtain⟨t,e⟩:=(show ∃t,u=Value.str x t from r);cases e;rfl
 |byt b=>obtain⟨t,e⟩:=(show ∃t,u=Value.bytes b t from r);cases e;rfl
 |flt b=>obtain⟨t,e⟩:=(show ∃t,u=Value.float b t from r);cases e;rfl
 |ref a=>cases(show u=Value.ref a from r);rfl
 |ty n=>cases(show u=Value.type n from r);rfl
section
variable{P:Program}{w:World}{H H':Hp}{h h':Heap}{a C dx:Addr}{fs fs':List (Str×V)}
theorem q6p(hok:HOk P w H h)(e:H a=some (.ins C dx fs)):∃mA,ObjM h a dx C mA/\(∀f,RelO (fs.lookup f) (mA f))/\PySem.Within mA (fs.map (·.1))/\fs.length<=1000/\H dx=some (.own a):=by
 obtain⟨d,z,ne,ob,mA,n,r,q⟩:=(show ObjOk P w H h a (.ins C dx fs) from hok a _ e)
 exact⟨mA,⟨ob,n,ne⟩,r,q,z,d⟩
end
structure Cls (K:W.Frag) (C:Addr):Prop where
 pg:W.plainGet K C Str.empty=true
 hd:W.hasDictIn K C=true
 po:W.plainOver K C=true
 sa:W.findIn K (.ref C) "__setattr__" = some (some (.builtin "object.__setattr__"))
theorem Cls.get{K:W.Frag}(c:Cls K C)(f:Str):W.plainGet K C f=true:=c.pg
def NoAttr(K:W.Frag)(C:Addr)(f:Str):Prop:=W.findIn K (.ref C) f=some none
theorem NoAttr.taker{K:W.Frag}(n:NoAttr K C f):W.takerIn K C f=some none:=by
 unfold W.takerIn;rw[show W.findIn K (.ref C) f=some none from n];rfl
structure Meth (K:W.Frag) (C:Addr) (m:Str) (f:Addr):Prop where
 at_:W.findIn K (.ref C) m=some (some (.ref f))
 fn:W.isFn K (.ref f)=true
 kp:W.keepIn K (.ref f)=true
section
variable{X:Cx}{pins:List (Addr×Obj)}{σ:St}{H:Hp}{s:Shared}{a C dx:Addr}{fs:List (Str×V)}{f:Str}{v:V}{A:Around}{E:Value->Shared->Prop}
theorem z1o(I:Inv X pins σ H s)(e:H a=some (.ins C dx fs))(c:Cls X.K C)(n:NoAttr X.K C f)(l:fs.lookup f=some v)(h:∀u s',Inv X pins σ H s'->RelV v u->Q u s'):wpAny (model X.prog X.w) A (getAttr (.ref a) f b) Q E s:=by
 obtain⟨mA,O,r,_,_,_⟩:=q6p I.hok e;obtain⟨u,hu,ru⟩:=RelO.some_of (by rw[<- l];exact r f);exact z8d I.kIn O (c.get f) c.hd n hu (z3e ru) (h u _ (I.tok _) ru)
theorem q5y(I:Inv X pins σ H s)(e:H a=some (.ins C dx fs))(c:Cls X.K C)(k:Meth X.K C m g)(l:fs.lookup m=none)(h:Q (.ref g,[.ref a]) s):wpAny (model X.prog X.w) A (getMethod (.ref a) m pl) Q E s:=by
 obtain⟨mA,O,r,_,_,_⟩:=q6p I.hok e;have hn:=RelO.none_of (by rw[<- l];exact r m);exact z5m I.kIn O (c.get m) k.at_ k.fn hn h
theorem z1p(I:Inv X pins σ H s)(e:H a=some (.ins C dx fs))(c:Cls X.K C)(n:NoAttr X.K C f)(hl:fs.length<1000)(ry:RelV y u)(h:∀s',Inv X pins σ (upd H a (.ins C dx (putF f y fs))) s'->Q () s'):wpAny (model X.prog X.w) A (setAttr (.ref a) f u) Q E s:=by
 obtain⟨mA,O,r,wi,_,ho⟩:=q6p I.hok e;have hz:(fs.map (·.1)).length<=sizeLine:=by rw[List.length_map,sizeLine_eq];lia
 refine z8e I.kIn O c.sa c.po n.taker c.hd wi hz fun h' O' sb=>h _ ?_;have hd:∃o,h'.get? dx=some o:=let ⟨o,_,_,e',_⟩:=O'.ns;⟨o,e'⟩;refine I.write (by rw[e];exact True.intro) (.inr ho) (fun b q hb z=>(sb.2 b hb).trans z) hd ?_;refine⟨by rw[q0c O.ne];exact ho,?_,O.ne,O'.obj,_,O'.ns,fun g=>?_,fun g hg=>?_⟩
 ·have:=q4w f y fs;lia
 ·show RelO ((putF f y fs).lookup g) (if g=f then some u else mA g);rw[q4u];by_cases q:g=f
  ·rw[if_pos q,if_pos q];exact ry
  ·grind
 ·by_cases q:g=f
  ·rw[q];exact(q4v f y fs).1
  ·refine(q4v f y fs).2 g (wi g fun z=>hg ?_);show(if g=f then some u else mA g)=none;rw[if_neg q];exact z
theorem Inv.made(I:Inv X pins σ H s):Inv X pins σ (upd (upd H s.heap.objs.size (.own (s.heap.objs.size+1))) (s.heap.objs.size+1) (.ins C s.heap.objs.size []))
  { s with heap:=(s.heap.push W.emptyDict).push (W.instObj C s.heap.objs.size) }:=by
 have e1:(s.heap.push W.emptyDict).get? s.heap.objs.size=some W.emptyDict:=Heap.get?_push_size s.heap rfl;have e2:((s.heap.push W.emptyDict).push (W.instObj C s.heap.objs.size)).get? (s.heap.objs.size+1)=some (W.instObj C s.heap.objs.size):=by
  have:=Heap.get?_push_size (s.heap.push W.emptyDict) (o:=W.instObj C s.heap.objs.size) rfl
  rwa [Heap.size_push] at this
 have e3:(s.heap.push W.emptyDict).Ns s.heap.objs.size (fun _=>none):=⟨W.emptyDict,#[],_,e1,rfl,(fun e he=>absurd he (by simp)),fun _=>rfl⟩
 have I1:=I.laid (o:=.own (s.heap.objs.size+1)) (h':=s.heap.push W.emptyDict) (t':=s.toks) (fun b u q=>Heap.get?_push_of_some _ q) (Nat.le_refl _) ⟨_,e1⟩;refine I1.laid (t':=s.toks) (fun b u q=>Heap.get?_push_of_some _ q) (Nat.le_of_eq (Heap.size_push _ _)) ?_;have ne:s.heap.objs.size≠s.heap.objs.size+1:=Nat.ne_of_lt (Nat.lt_succ_self _);refine⟨by rw[q0c ne,q0b],Nat.zero_le _,ne,e2,fun _=>none,(Heap.Ns1.of_empty e3).at fun o q=>Heap.get?_push_of_some _ q,fun _=>True.intro,fun y hy=>absurd rfl hy⟩
theorem z8f(hb:attributeBase e f env (eval e env)=eval e env)(h:wpAny (model prog w) A (eval e env) (fun o s₁=>wpAny (model prog w) A (getAttr o f true) Q E s₁) E s):wpAny (model prog w) A (eval (.Attribute e f pos) env) Q E s :=
 Attribute_any_ h (by rw[arm_eval_Attribute,hb])
end
def tFld(K:W.Frag)(ta:TE)(f:Str):TE:=fun σ H Q=>ta σ H fun x H1=>∃a C dx fs v,x=.ref a/\H1 a=some (.ins C dx fs)/\Cls K C/\NoAttr K C f/\fs.lookup f=some v/\Q v H1
def sFld(K:W.Frag)(ta tv:TE)(f:Str):TS:=fun D σ H=>tv σ H fun y H1=>ta σ H1 fun x H2=>∃a C dx fs,x=.ref a/\H2 a=some (.ins C dx fs)/\Cls K C/\NoAttr K C f/\fs.length<1000 /\
 D.nx σ (upd H2 a (.ins C dx (putF f y fs)))
section
variable{X:Cx}{o e value:Expr}{f:Str}{pos pos' tpos:Pos}{ta tv:TE}
theorem pe_fld(he:PE X e ta)(hb:attributeBase e f X.env (eval e X.env)=eval e X.env):PE X (.Attribute e f pos) (tFld X.K ta f):=by
 intro pins s σ H Q I h;refine z8f hb (thn (he pins s σ H _ I h) fun u s1 ⟨x,H1,I1,rx,a,C,dx,fs,v,ex,ea,c,n,l,q⟩=>?_);subst ex;obtain rfl:u=Value.ref a:=rx;exact z1o I1 ea c n l fun u' s2 I2 ru=>⟨v,H1,I2,ru,q⟩
theorem ps_fld(ha:PE X o ta)(hv:PE X value tv)(hs:swapsWith value (some (.Attribute o f pos')) pos.line X.env=pure false):PS X (.Assign [.Attribute o f pos'] value pos) (sFld X.K ta tv f):=by
 intro pins s σ H D I h;refine plainObj_wpAny_Assign_Attribute (thn (hv pins s σ H _ I h) fun u s1 ⟨y,H1,I1,ry,q⟩=>thn (ha pins s1 σ H1 _ I1 q) fun ov s2 ⟨x,H2,I2,rx,a,C,dx,fs,ex,ea,c,n,l,q2⟩=>?_) hs;subst ex;obtain rfl:ov=Value.ref a:=rx;exact z1p I2 ea c n l ry fun s3 I3=>⟨σ,_,I3,q2⟩
end
section
variable{X:Cx}{pins:List (Addr×Obj)}{σ:St}{H:Hp}{s:Shared}{A:Around}{E:Value->Shared->Prop}{Q:Value->Shared->Prop}{c:Value}{b:Bool}
inductive TyOf (K:W.Frag) (H:Hp):V->Value->Prop where
 |non:TyOf K H .non (.type "NoneType")
 |bl (x:Bool):TyOf K H (.bl x) (.type "bool")
 |int (i:Int):TyOf K H (.int i) (.type "int")
 |str (x:Str):TyOf K H (.str x) (.type "str")
 |flt (x:UInt64):TyOf K H (.flt x) (.type "float")
 |lst {a:Addr} {xs:List V} (e:H a=some (.lst xs)):TyOf K H (.ref a) (.type "list")
 |frz {a:Addr} {o:Obj} {xs:List V} (e:H a=some (.frz o (.lst xs))):TyOf K H (.ref a) (.type "list")
 |tup {a:Addr} {xs:List V} (e:H a=some (.tup xs)):TyOf K H (.ref a) (.type "tuple")
 |dK {a:Addr} {kvs:List (Key×V)} (e:H a=some (.dK kvs)):TyOf K H (.ref a) (.type "dict")
 |dT {a:Addr} {kvs:List (List Key×V)} (e:H a=some (.dT kvs)):TyOf K H (.ref a) (.type "dict")
 |ins {a C dx:Addr} {fs:List (Str×V)} (e:H a=some (.ins C dx fs)) (cl:Cls K C) (ha:W.findIn K (.ref C) "__class__" = some (some (.builtin "object.__class__")))
   (hn:W.specialIn K (.builtin "object.__class__") "__get__" = some (some (.builtin "getset_descriptor.__get__"))) (htk:W.takesIn K (.builtin "object.__class__")=some true)
   (hm:W.mroIn K C (.type "object")=some true):TyOf K H (.ref a) (.ref C)
theorem z3f(I:Inv X pins σ H s)(rx:RelV x u)(ty:TyOf X.K H x t)(e:W.kitOne X.K t c=some b)(h:∀tk,Q (.bool b) { s with toks:=tk }):
  wpAny (model X.prog X.w) A (call (.builtin "isinstance") [u,c]) Q E s:=by
 cases ty with
 |non=>cases(show u=Value.none from rx);exact W.kia_one W.kitx_none I.kIn True.intro e (fun z=>nomatch z) h
 |bl y=>cases(show u=Value.bool y from rx);exact W.kia_one W.kitx_bool I.kIn True.intro e (fun z=>nomatch z) h
 |int i=>obtain⟨t,q⟩:=(show ∃t,u=Value.int i t from rx);cases q;exact W.kia_one W.kitx_int I.kIn True.intro e (fun z=>nomatch z) h
 |str y=>obtain⟨t,q⟩:=(show ∃t,u=Value.str y t from rx);cases q;exact W.kia_one W.kitx_str I.kIn True.intro e (fun z=>nomatch z) h
 |flt y=>obtain⟨t,q⟩:=(show ∃t,u=Value.float y t from rx);cases q;exact W.kia_one W.kitx_float I.kIn True.intro e (fun z=>nomatch z) h
 | @lst a xs ea =>
  cases(show u=Value.ref a from rx);obtain⟨_,_,n,_,h1⟩:=(show ObjOk X.prog X.w H s.heap a (.lst xs) from I.hok a _ ea)
  exact W.kia_one W.kitx_list I.kIn ⟨_,h1,rfl⟩ e (fun z=>nomatch z) h
 | @frz a ob xs ea =>
  cases(show u=Value.ref a from rx);obtain⟨_,_,_,n,_,h1⟩:=(show ObjOk X.prog X.w H s.heap a (.frz ob (.lst xs)) from I.hok a _ ea)
  exact W.kia_one W.kitx_list I.kIn ⟨_,h1,rfl⟩ e (fun z=>nomatch z) h
 | @tup a xs ea =>
  cases(show u=Value.ref a from rx);obtain⟨_,_,_,p⟩:=(show ObjOk X.prog X.w H s.heap a (.tup xs) from I.hok a _ ea)
  obtain⟨o,h1,h2,_⟩:=p;exact W.kia_one W.kitx_tuple I.kIn ⟨o,h1,h2⟩ e (fun z=>nomatch z) h
 | @dK a kvs ea =>
  cases(show u=Value.ref a from rx);obtain⟨_,_,vs,_,p⟩:=(show ObjOk X.prog X.w H s.heap a (.dK kvs) from I.hok a _ ea)
  obtain⟨o,es,ep,h1,h2,_⟩:=p;exact W.kia_one W.kitx_dict I.kIn ⟨o,h1,h2.1⟩ e (fun z=>nomatch z) h
 | @dT a kvs ea =>
  cases(show u=Value.ref a from rx);obtain⟨_,_,xs,_,o,es,ep,h1,h2,_⟩:=(show ObjOk X.prog X.w H s.heap a (.dT kvs) from I.hok a _ ea)
  exact W.kia_one W.kitx_dict I.kIn ⟨o,h1,h2.1⟩ e (fun z=>nomatch z) h
 | @ins a C dx fs ea cl ha hn htk hm =>
  cases(show u=Value.ref a from rx);obtain⟨mA,O,_⟩:=q6p I.hok ea;obtain⟨od,J,_⟩:=O.look;exact W.kia_one (W.kitx_own (cl.get _) cl.hd ha hn htk hm) I.kIn J e (fun z=>nomatch z) h
end
open PySem PySem.Spec PyProof.Rows
structure Room (k:Nat) (A:Around):Prop where
 hd:A.handled=none
 dp:A.depth+3*k+5<recursionLimit
 un:A.units+16*k+200<cLine
 gd:A.guards=some []
theorem Room.mono(r:Room k A)(h:j<=k):Room j A:=⟨r.hd,by have:=r.dp;lia,by have:=r.un;lia,r.gd⟩
theorem Room.deeper(r:Room (k+1) A)(env:Env):Room k (A.deeper env) :=
 ⟨r.hd,by have:=r.dp;show A.depth+1+3*k+5<_;lia,by have:=r.un;show A.units+3+16*k+200<_;lia,r.gd⟩
theorem Room.in1(r:Room (k+1) A):Room k A.in1 :=
 ⟨r.hd,by have:=r.dp;show A.depth+3*k+5<_;lia,by have:=r.un;show A.units+1+16*k+200<_;lia,r.gd⟩
theorem z1q{A:Around}:(A.under (.builtin "type.__call__" ⟨.ref C::us,kw⟩)).depth=A.depth+1:=by
 first|rfl|simp[Around.under,Code.weight,Code.isCreation,Code.isGuard,Code.isCaller,Code.frames,Code.isFrame,guardIds]
theorem z1r{A:Around}:(A.under (.builtin "type.__call__" ⟨.ref C::us,kw⟩)).units=A.units+1:=by
 first|rfl|simp[Around.under,Code.cUnits,Code.frames,Code.isFrame]
theorem make_guards{A:Around}:(A.under (.builtin "type.__call__" ⟨.ref C::us,kw⟩)).guards=A.guards:=by
 have:(Code.builtin "type.__call__" ⟨.ref C::us,kw⟩).guards=[]:=by simp[Code.guards,Code.isGuard,guardIds]
 unfold Around.under;rw[this];cases e:A.guards<;>simp[pushGuards,e]
theorem Room.make(r:Room (k+1) A)(C:Addr)(us:List Value)(kw:List (Str×Value)):Room k (A.under (.builtin "type.__call__" ⟨.ref C::us,kw⟩)) :=
 ⟨r.hd,by have:=r.dp;rw[z1q];lia,by have:=r.un;rw[z1r];lia,make_guards.trans r.gd⟩
theorem Room.depth(r:Room k A):A.depth<recursionLimit:=by have:=r.dp;lia
theorem Room.units(r:Room k A):A.units+64<cLine:=by have:=r.un;lia
def tNil:TA:=fun _ H Q=>Q [] H
def tCons(ta:TE)(tr:TA):TA:=fun σ H Q=>ta σ H fun x H1=>tr σ H1 fun xs H2=>Q (x::xs) H2
section
variable{X:Cx}{e:Expr}{es:List Expr}{te:TE}{t:TA}{pos:Pos}
theorem q0d:PA X [] tNil:=fun _ _ _ _ H Q I h=>Calls.spliced_nil ⟨[],H,I,.nil,h⟩
theorem q0a(ha:PE X e te)(hr:PA X es t)(hs:starEach (e::es) X.env=(false,eval e X.env)::starEach es X.env:=by rfl):PA X (e::es) (tCons te t):=by
 intro pos pins s σ H Q I h;rw[hs];refine Calls.spliced_cons (thn (ha pins s σ H _ I h) fun u s1 ⟨x,H1,I1,r1,q1⟩=>?_);exact thn (hr pos pins s1 σ H1 _ I1 q1) fun us s2 ⟨xs,H2,I2,r2,q2⟩=>⟨x::xs,H2,I2,.cons r1 r2,q2⟩
def tTup(t:TA):TE:=fun σ H Q=>t σ H fun xs H1=>xs.length<=sizeLine/\∀p,H1 p=none->Q (.ref p) (upd H1 p (.tup xs))
def tLst(t:TA):TE:=fun σ H Q=>t σ H fun xs H1=>xs.length<=sizeLine/\∀p,H1 p=none->Q (.ref p) (upd H1 p (.lst xs))
theorem q1f{x1}(h:PA X es t):PE X (.Tuple es x1 pos) (tTup t):=by
 intro pins s σ H Q I hq;refine wpAny_Tuple_spliced (thn (h pos pins s σ H _ I hq) fun us s1 ⟨xs,H1,I1,r,z,q⟩=>⟨by rw[<- r.length];exact z,?_⟩);have hf:=I1.hok.fresh (Nat.le_refl _);refine⟨.ref s1.heap.objs.size,upd H1 s1.heap.objs.size (.tup xs),I1.laid (t':=s1.toks) (fun b u e=>Heap.get?_push_of_some _ e) (Nat.le_refl _) ?_,rfl,q _ hf⟩;exact⟨z,us,r,⟨_,Heap.get?_push_size _ rfl,rfl,_,rfl⟩⟩
theorem q1k(h:PA X es t):PE X (.List es pos) (tLst t):=by
 intro pins s σ H Q I hq;refine wpAny_List_spliced (thn (h pos pins s σ H _ I hq) fun us s1 ⟨xs,H1,I1,r,z,q⟩=>⟨by rw[<- r.length];exact z,?_⟩);have hf:=I1.hok.fresh (Nat.le_refl _);refine⟨.ref s1.heap.objs.size,upd H1 s1.heap.objs.size (.lst xs),I1.laid (t':=s1.toks) (fun b u e=>Heap.get?_push_of_some _ e) (Nat.le_refl _) ?_,rfl,q _ hf⟩;exact⟨z,us,0,r,Heap.get?_push_size _ rfl⟩
end
abbrev Sp:=List V->Hp->VK->XK->Prop
abbrev CXT:=List Env->Hp->Shared->XK->Value->Shared->Prop
structure Env0 (P:Program) (w:World) (K:W.Frag) (mg:Str->Option Value) (base:Heap) (A:Around) (outer:List Env) (s:Shared) (H:Hp):Prop where
 frames:A.frames=some outer
 mod:Mod K mg base
 bs:∀b o,base.get? b=some o->s.heap.get? b=some o/\H b=none
 bsz:base.objs.size<=s.heap.objs.size
 funs:s.heap.FunFrames base outer
 frf:∀b∈frs outer,H b=none
 hok:HOk P w H s.heap
 bare:AllBare s.gens
def CE(outer:List Env)(P:Program)(w:World)(H:Hp)(s:Shared)(Q:VK)(u:Value)(s':Shared):Prop :=
 ∃v H',s'.os=s.os/\AllBare s'.gens/\Un (frs outer) [] H H' s.heap s'.heap/\HOk P w H' s'.heap/\RelV v u/\Q v H'
def CR(CX:CXT)(outer:List Env)(P:Program)(w:World)(H:Hp)(s:Shared)(Q:VK)(E:XK)(r:Result)(s':Shared):Prop :=
 match r with
 |.ok (.ret u)=>CE outer P w H s Q u s'
 |.ok _=>False
 |.error e=>CX outer H s E e s'
structure FnOk (P:Program) (w:World) (K:W.Frag) (mg:Str->Option Value) (base:Heap) (CX:CXT) (k:Nat) (f:Addr) (fd:FuncData) (ps:List Str) (sp:Sp):Prop where
 len:∀vs H Q E,sp vs H Q E->vs.length=ps.length
 run:∀(A:Around) (outer:List Env) (s:Shared) (H:Hp) (args:Args) (us:List Value) (vs:List V) (Q:VK) (E:XK),Room k A->Env0 P w K mg base A outer s H->BindsTo s fd args (ps.zip us)->Vals vs us->sp vs H Q E ->
  codeAny (model P w) A (.call (.ref f) args) (CR CX outer P w H s Q E) s
theorem FnOk.mono{K:W.Frag}(F:FnOk P w K mg base CX j f fd ps sp)(h:j<=k):
  FnOk P w K mg base CX k f fd ps sp:=⟨F.len,fun A outer s H args us vs Q E hr=>F.run A outer s H args us vs Q E (hr.mono h)⟩
theorem FnOk.imp{K:W.Frag}(F:FnOk P w K mg base CX k f fd ps sp)(h:∀vs H Q E,sp' vs H Q E->sp vs H Q E):FnOk P w K mg base CX k f fd ps sp' :=
 ⟨fun vs H Q E q=>F.len vs H Q E (h _ _ _ _ q),fun A outer s H args us vs Q E hr he hb hv hs=>F.run A outer s H args us vs Q E hr he hb hv (h _ _ _ _ hs)⟩
theorem Env0.make{K:W.Frag}(e:Env0 P w K mg base A outer s H)(C:Addr)(us:List Value)(kw:List (Str×Value)):
  Env0 P w K mg base (A.under (.builtin "type.__call__" ⟨.ref C::us,kw⟩)) outer s H:=⟨by first|exact e.frames|(simpa[Around.under,Code.envs,Code.isFrame,pushEnvs] using e.frames),e.mod,e.bs,e.bsz,e.funs,e.frf,e.hok,e.bare⟩
theorem Env0.in1{K:W.Frag}(e:Env0 P w K mg base A outer s H):
  Env0 P w K mg base A.in1 outer s H:=⟨e.frames,e.mod,e.bs,e.bsz,e.funs,e.frf,e.hok,e.bare⟩
section
variable{X:Cx}{pins:List (Addr×Obj)}{σ:St}{H:Hp}{s s':Shared}
theorem Inv.env0(I:Inv X pins σ H s):Env0 X.prog X.w X.K X.mg X.base X.A X.stack s H :=
 ⟨I.ok.frames,I.ok.mod,I.bs,Nat.le_trans I.ok.bsz I.sz,I.stack,I.stkFree,I.hok,I.bare⟩
theorem Inv.after(I:Inv X pins σ H s)(h:CE X.stack X.prog X.w H s Q u s'):EP X pins σ Q u s':=by
 obtain⟨v,H',os,bare,un,hok,r,q⟩:=h;obtain⟨hh,g,d,t,os'⟩:=s';obtain rfl:os'=s.os:=os;exact⟨v,H',I.call (h':=hh) (g':=g) (d':=d) (t':=t) un hok bare (fun b z=>absurd z (by simp)),r,q⟩
end
def tCall(sp:Sp)(dvs:List V)(E:XK)(t:TA):TE:=fun σ H Q=>t σ H fun vs H1=>sp (vs++dvs) H1 Q E
def tMeth(C:Addr)(m:Str)(sp:Sp)(dvs:List V)(E:XK)(ta:TE)(t:TA):TE:=fun σ H Q=>ta σ H fun x H1=>∃a dx fs,x=.ref a/\H1 a=some (.ins C dx fs)/\fs.lookup m=none /\
 t σ H1 fun vs H2=>sp (x::(vs++dvs)) H2 Q E
def tMake(C:Addr)(sp:Sp)(dvs:List V)(E:XK)(t:TA):TE:=fun σ H Q=>t σ H fun vs H1=>∀x dx,H1 x=none->H1 dx=none->dx≠x ->
 sp (.ref x::(vs++dvs)) (upd (upd H1 dx (.own x)) x (.ins C dx [])) (fun v H2=>v=.non/\Q (.ref x) H2) E
def Binds(K:W.Frag)(fd:FuncData)(ps:List Str)(ds:List Value):Prop :=
 ∀(s:Shared) (us:List Value),K.In s.heap->(us++ds).length=ps.length->BindsTo s fd ⟨us,[]⟩ (ps.zip (us++ds))
theorem Binds.all{K:W.Frag}(h:∀us:List Value,us.length=ps.length->bindArgs fd ⟨us,[]⟩=pure (ps.zip us)):Binds K fd ps []:=fun s us _ hl=>by
 rw[List.append_nil] at hl ⊢;exact .of_eq (h us hl)
def Passes(CX:CXT)(X:Cx)(E:XK):Prop:=∀(pins:List (Addr×Obj)) (σ:St) (H:Hp) (s:Shared) (e:Value) (s':Shared),Inv X pins σ H s->CX X.stack H s E e s'->X.xe e s'
section
variable{X:Cx}{CX:CXT}{k:Nat}{f C:Addr}{fd:FuncData}{ps:List Str}{sp:Sp}{dvs:List V}{ds:List Value}{E:XK}{x m:Str}{p pos apos:Pos}{e o:Expr}{es:List Expr}{ta:TE}{t:TA}
theorem z0o{σ:St}(F:FnOk X.prog X.w X.K X.mg X.base CX k f fd ps sp)(hr:Room k X.A)(hb:Binds X.K fd ps ds)(hd:Vals dvs ds)(hx:Passes CX X E)(I:Inv X pins σ H s)(r:Vals vs us)(h:sp (vs++dvs) H Q E):wpAny (model X.prog X.w) X.A (call (.ref f) us) (EP X pins σ Q) X.xe s:=by
 have r2:=r.append hd;have hl:(us++ds).length=ps.length:=by rw[<- r2.length];exact F.len _ _ _ _ h
 refine wpAny_call (codeAny_mono (F.run X.A X.stack s H ⟨us,[]⟩ (us++ds) (vs++dvs) Q E hr I.env0 (hb s us I.kIn hl) r2 h) fun r s' hq=>?_);cases r with
 |error e=>exact hx pins σ H s e s' I hq
 |ok fl =>
  cases fl with
  |ret u=>exact I.after hq
  |next=>exact False.elim hq
  |brk=>exact False.elim hq
  |cont=>exact False.elim hq
theorem z8g(F:FnOk X.prog X.w X.K X.mg X.base CX k f fd ps sp)(hr:Room k X.A)(hg:Gl X x)(hm:X.mg x=some (.ref f))(hk:W.keepIn X.K (.ref f)=true)(hb:Binds X.K fd ps ds)(hd:Vals dvs ds)(hx:Passes CX X E)(ha:PA X (e::es) t)(hdb:(x==("__debug__" : Str))=false:=by decide)(he:starEach (e::es) X.env=(false,eval e X.env)::starEach es X.env:=by rfl)(hpl:(backTo pos (starEach es X.env)).any (·.1)=false:=by rfl):
  PE X (.Call (.Name x p) (e::es) [] pos) (tCall sp dvs E t):=by
 intro pins s σ H Q I h;refine wpAny_Call_Name_kw (q9j I hg hm ?_ hdb);refine W.callWith_K I.ok.mod.kin hk (thn (ha pos pins s σ H _ I h) fun us s1 ⟨vs,H1,I1,r,q⟩=>⟨I1.kIn,?_⟩) he hpl;exact z0o F hr hb hd hx I1 r q
theorem z5o(F:FnOk X.prog X.w X.K X.mg X.base CX k f fd ps sp)(hr:Room k X.A)(hg:Gl X x)(hm:X.mg x=some (.ref f))(hk:W.keepIn X.K (.ref f)=true)(hb:Binds X.K fd ps ds)(hd:Vals dvs ds)(hx:Passes CX X E)(hdb:(x==("__debug__" : Str))=false:=by decide):PE X (.Call (.Name x p) [] [] pos) (tCall sp dvs E tNil):=by
 intro pins s σ H Q I h;refine wpAny_Call_Name_kw (q9j I hg hm ?_ hdb);exact W.callWith_K0 I.kIn hk (z0o F hr hb hd hx I .nil h)
theorem z8h{pl:Sem Bool}(he:PE X o ta)(c:Cls X.K C)(hm:Meth X.K C m f)(F:FnOk X.prog X.w X.K X.mg X.base CX k f fd ps sp)(hr:Room k X.A)(hb:Binds X.K fd ps ds)(hd:Vals dvs ds)(hx:Passes CX X E)(ha:PA X (e::es) t)(hst:starEach (e::es) X.env=(false,eval e X.env)::starEach es X.env:=by rfl)(hpl:(backTo pos (starEach es X.env)).any (·.1)=false:=by rfl)(ht:eval (.Call (.Attribute o m apos) (e::es) [] pos) X.env=(do
   let ov<-eval o X.env
   standAt apos.atName
   let (f,first)<-holding [ov] (getMethod ov m pl)
   callWith pos f first (backTo pos (starEach (e::es) X.env)) (backToKw pos (keywordEach [] X.env))):=by rfl):
  PE X (.Call (.Attribute o m apos) (e::es) [] pos) (tMeth C m sp dvs E ta t):=by
 intro pins s σ H Q I h;refine W.methodCall_KW (thn (he pins s σ H _ I h) fun u s1 ⟨x,H1,I1,rx,a,dx,fs,ex,ea,l,q⟩=>?_) ht;subst ex;obtain rfl:u=Value.ref a:=rx;refine q5y I1 ea c hm l ?_;refine W.callWith_K I.ok.mod.kin hm.kp (thn (ha pos pins s1 σ H1 _ I1 q) fun us s2 ⟨vs,H2,I2,r,q2⟩=>⟨I2.kIn,?_⟩) hst hpl;exact z0o (vs:=.ref a::vs) F hr hb hd hx I2 (.cons rfl r) q2
theorem z5p(he:PE X o ta)(c:Cls X.K C)(hm:Meth X.K C m f)(F:FnOk X.prog X.w X.K X.mg X.base CX k f fd ps sp)(hr:Room k X.A)(hb:Binds X.K fd ps ds)(hd:Vals dvs ds)(hx:Passes CX X E)(ht:eval (.Call (.Attribute o m apos) [] [] pos) X.env=(do
   let ov<-eval o X.env
   standAt apos.atName
   let (f,first)<-holding [ov] (getMethod ov m pl)
   callWith pos f first (backTo pos (starEach [] X.env)) (backToKw pos (keywordEach [] X.env))):=by rfl):
  PE X (.Call (.Attribute o m apos) [] [] pos) (tMeth C m sp dvs E ta tNil):=by
 intro pins s σ H Q I h;refine W.methodCall_KW (thn (he pins s σ H _ I h) fun u s1 ⟨x,H1,I1,rx,a,dx,fs,ex,ea,l,q⟩=>?_) ht;subst ex;obtain rfl:u=Value.ref a:=rx;refine q5y I1 ea c hm l ?_;exact W.callWith_K0 I1.kIn hm.kp (z0o (vs:=[.ref a]) F hr hb hd hx I1 (.cons rfl .nil) q)
structure Mk (K:W.Frag) (C f:Addr):Prop where
 makes:W.makesIn K C=true
 init:W.findIn K (.ref C) "__init__" = some (some (.ref f))
 fn:W.isFn K (.ref f)=true
 kp:W.keepIn K (.ref C)=true
theorem z5q{σ:St}(M:Mk X.K C f)(F:FnOk X.prog X.w X.K X.mg X.base CX k f fd ps sp)(hr:Room (k+1) X.A)(hb:Binds X.K fd ps ds)(hd:Vals dvs ds)(hx:Passes CX X E)(I:Inv X pins σ H s)(r:Vals vs us)(h:∀x dx,H x=none->H dx=none->dx≠x->sp (.ref x::(vs++dvs)) (upd (upd H dx (.own x)) x (.ins C dx [])) (fun v H2=>v=.non/\Q (.ref x) H2) E):
  wpAny (model X.prog X.w) X.A (call (.ref C) us) (EP X pins σ Q) X.xe s:=by
 have hq:=h (s.heap.objs.size+1) s.heap.objs.size (I.hok.fresh (Nat.le_succ _)) (I.hok.fresh (Nat.le_refl _)) (Nat.ne_of_lt (Nat.lt_succ_self _));have I2:=Inv.made (C:=C) I;have r2:Vals (V.ref (s.heap.objs.size+1)::(vs++dvs)) (Value.ref (s.heap.objs.size+1)::(us++ds)):=.cons rfl (r.append hd);have hl:(Value.ref (s.heap.objs.size+1)::us++ds).length=ps.length:=by
  have e:=r2.length;rw[F.len _ _ _ _ hq] at e;exact e.symm
 refine wpAny_call (z5n I.kIn M.makes M.init (beq_iff_eq.mp M.fn) (codeAny_mono (F.run _ X.stack _ _ ⟨Value.ref (s.heap.objs.size+1)::us,[]⟩ (Value.ref (s.heap.objs.size+1)::(us++ds)) _ _ E (hr.make C us [])
  (I2.env0.make C us []) (hb _ (Value.ref (s.heap.objs.size+1)::us) I2.kIn hl) r2 hq) fun r s' hq'=>?_))
 cases r with
 |error e=>exact hx pins σ _ _ e s' I2 hq'
 |ok fl =>
  cases fl with
  |ret u =>
   obtain⟨v,H',I3,rv,ev,q3⟩:=I2.after hq';subst ev;exact⟨rv,⟨V.ref (s.heap.objs.size+1),H',I3,rfl,q3⟩⟩
  |next=>exact False.elim hq'
  |brk=>exact False.elim hq'
  |cont=>exact False.elim hq'
theorem z8i(M:Mk X.K C f)(F:FnOk X.prog X.w X.K X.mg X.base CX k f fd ps sp)(hr:Room (k+1) X.A)(hg:Gl X x)(hm:X.mg x=some (.ref C))(hb:Binds X.K fd ps ds)(hd:Vals dvs ds)(hx:Passes CX X E)(ha:PA X (e::es) t)(hdb:(x==("__debug__" : Str))=false:=by decide)(he:starEach (e::es) X.env=(false,eval e X.env)::starEach es X.env:=by rfl)(hpl:(backTo pos (starEach es X.env)).any (·.1)=false:=by rfl):
  PE X (.Call (.Name x p) (e::es) [] pos) (tMake C sp dvs E t):=by
 intro pins s σ H Q I h;refine wpAny_Call_Name_kw (q9j I hg hm ?_ hdb);refine W.callWith_K I.ok.mod.kin M.kp (thn (ha pos pins s σ H _ I h) fun us s1 ⟨vs,H1,I1,r,q⟩=>⟨I1.kIn,?_⟩) he hpl;exact z5q M F hr hb hd hx I1 r q
end
structure FnScope (N P:List Str) (sc:Scope):Prop where
 kind:sc.kind=.function
 co:sc.isCoroutine=false
 gen:sc.isGenerator=false
 nd:N.Nodup
 pre:N.take P.length=P
 par:∀x∈P,sc.names.lookup x=some .local\/sc.names.lookup x=some .cell
 nofree:∀y∈sc.names,y.2≠.free
theorem q7t{kindOf:Str->Option NameKind}:∀{binds:List (Str×Value)} {m:Str->Option Value},(∀v,(x,v)∉binds)->bindL kindOf binds m x=m x
 |[],_,_=>rfl
 |(n,v)::r,m,h=>by
  unfold bindL;rw[q7t fun w hw=>h w (List.mem_cons_of_mem _ hw)];split
  ·have:x≠n:=by rintro rfl;exact h v List.mem_cons_self
   simp[this]
  ·rfl
theorem q7u{kindOf:Str->Option NameKind}:∀{binds:List (Str×Value)} {m:Str->Option Value},(∀v,(x,v)∉binds)->bindC kindOf binds m x=m x
 |[],_,_=>rfl
 |(n,v)::r,m,h=>by
  unfold bindC;rw[q7u fun w hw=>h w (List.mem_cons_of_mem _ hw)];split
  ·rfl
  ·have:x≠n:=by rintro rfl;exact h v List.mem_cons_self
   simp[this]
theorem q7v{kindOf:Str->Option NameKind}{x:Str}{v:Value}:∀{P:List Str} {vs:List Value} {i:Nat} {m:Str->Option Value},P.Nodup->P[i]?=some x->vs[i]?=some v->kindOf x=some .local ->
  bindL kindOf (P.zip vs) m x=some v
 |[],_,_,_,_,h,_,_=>by simp at h
 |_::_,[],_,_,_,_,h,_=>by simp at h
 |p::P,w::vs,0,m,nd,h1,h2,hk=>by
  simp at h1 h2;subst h1;subst h2;show bindL kindOf ((p,w)::P.zip vs) m p=_;unfold bindL;rw[q7t fun v hv=>(List.nodup_cons.mp nd).1 (List.of_mem_zip hv).1,if_pos hk];simp
 |p::P,w::vs,i+1,m,nd,h1,h2,hk=>by
  show bindL kindOf ((p,w)::P.zip vs) m x=_;unfold bindL;exact q7v (i:=i) (List.nodup_cons.mp nd).2 (by simpa using h1) (by simpa using h2) hk
theorem q7w{kindOf:Str->Option NameKind}{x:Str}{v:Value}:∀{P:List Str} {vs:List Value} {i:Nat} {m:Str->Option Value},P.Nodup->P[i]?=some x->vs[i]?=some v->kindOf x≠some .local ->
  bindC kindOf (P.zip vs) m x=some v
 |[],_,_,_,_,h,_,_=>by simp at h
 |_::_,[],_,_,_,_,h,_=>by simp at h
 |p::P,w::vs,0,m,nd,h1,h2,hk=>by
  simp at h1 h2;subst h1;subst h2;show bindC kindOf ((p,w)::P.zip vs) m p=_;unfold bindC;rw[q7u fun v hv=>(List.nodup_cons.mp nd).1 (List.of_mem_zip hv).1,if_neg hk];simp
 |p::P,w::vs,i+1,m,nd,h1,h2,hk=>by
  show bindC kindOf ((p,w)::P.zip vs) m x=_;unfold bindC;exact q7w (i:=i) (List.nodup_cons.mp nd).2 (by simpa using h1) (by simpa using h2) hk
def start(N:List Str)(vs:List V):St:=vs.map some++List.replicate (N.length-vs.length) none
def cxOf(CX:CXT)(P:Program)(w:World)(K:W.Frag)(mg:Str->Option Value)(base:Heap)(N:List Str)(qual:Str)(scope:Scope)(f:Addr)(cd:Value)(A:Around)(outer:List Env)(s:Shared)(H:Hp)(E:XK):Cx where
 prog:=P
 w:=w
 K:=K
 mg:=mg
 base:=base
 A:=A.deeper (envOfC qual scope s.heap.objs.size f cd)
 N:=N
 s₀:=s
 H₀:=H
 env:=envOfC qual scope s.heap.objs.size f cd
 outer:=outer
 stack:=envOfC qual scope s.heap.objs.size f cd::outer
 ex:=[]
 calm:=true
 fn:=fun _=>true
 pn:=[]
 xe:=fun e s'=>wpAny (model P w) (A.deeper (envOfC qual scope s.heap.objs.size f cd)) (leaving (envOfC qual scope s.heap.objs.size f cd) e) (fun _ s''=>CX outer H s E e s'') (fun e' s''=>CX outer H s E e' s'') s'
theorem z0p{sc:Scope}(h:sc.names.lookup x=some .cell):∃c,(cellsFrom n sc.names []).lookup x=some c:=by
 have q:=W.cellsFrom_some sc.names n [] (.inl h);exact Option.isSome_iff_exists.mp q
theorem z3g{K:W.Frag}(S:FnScope N ps scope)(hd:A.handled=none)(e0:Env0 P w K mg base A outer s H)(hl:vs.length=ps.length)(r:Vals vs us)(x:InCallC s s.heap.objs.size (bindL (envOfC qual scope s.heap.objs.size f cd).kindOf (ps.zip us) fun _=>none) (cellsFrom (s.heap.objs.size+1) scope.names []) (bindC (envOfC qual scope s.heap.objs.size f cd).kindOf (ps.zip us) fun _=>none) s1):
  Inv (cxOf CX P w K mg base N qual scope f cd A outer s H E) [] (start N vs) H s1:=by
 have hpl:ps.length<=N.length:=by have:=congrArg List.length S.pre;rw[List.length_take] at this;lia
 obtain⟨h1,tk,rfl,hk⟩:=x.done;have noA:∀b:Addr,b∉(cxOf CX P w K mg base N qual scope f cd A outer s H E).ex:=fun b z=>absurd (show b∈([]:List Addr) from z) (by simp)
 refine⟨⟨e0.mod,S.kind,rfl,rfl,Nat.le_refl _,fun y z c h1 h2=>?_,fun y hy=>?_,fun y c _ h=>?_,fun _=>hd,Around.frames_deeper e0.frames,.inr ⟨rfl,rfl⟩,fun b z=>absurd z (noA b),e0.bs,e0.bsz,fun b _ _=>noA b,fun b z=>absurd z (noA b),e0.funs,e0.frf⟩,
  rfl,e0.bare,Un.kept hk,⟨_,x.toInCall.ns,fun i y v h1 h2 h3=>?_⟩,fun y c h=>⟨_,x.cell y c h⟩,e0.hok.fresh (Nat.le_refl _),fun y c h=>?_,fun p hp=>absurd (show p∈([]:List (Addr×Obj)) from hp) (by simp),e0.hok.kept hk,?_⟩
 ·exact name_of_addr x.apart (PySem.mem_of_lookup h1) (PySem.mem_of_lookup h2)
 ·have hy:scope.names.lookup y=some .cell\/scope.names.lookup y=some .free:=hy;rcases hy with hy|hy
  ·exact z0p hy
  ·exact absurd rfl (S.nofree _ (PySem.mem_of_lookup hy))
 ·exact Nat.le_of_lt (x.above y c (PySem.mem_of_lookup h))
 ·have hi:i<vs.length:=by
   unfold start at h2;by_cases hi:i<vs.length
   ·exact hi
   ·rw[List.getElem?_append_right (by simpa using hi)] at h2;rw[List.getElem?_replicate] at h2;split at h2<;>cases h2
  have ha:vs[i]?=some v:=by
   unfold start at h2;rw[List.getElem?_append_left (by simpa using hi),List.getElem?_map] at h2;cases e:vs[i]? with
   |none=>simp_all
   |some a=>grind
  obtain⟨u,hu,rv⟩:=r.get ha;have hp:ps[i]?=some y:=by
   rw[<- S.pre,List.getElem?_take_of_lt (by lia)];exact h1
  have ndP:ps.Nodup:=by rw[<- S.pre];exact S.nd.sublist (List.take_sublist _ _)
  refine⟨u,rv,?_⟩;rcases S.par y (List.mem_of_getElem? hp) with k|k
  ·exact .inl ⟨k,q7v ndP hp hu k⟩
  ·obtain⟨c,e⟩:=z0p k;refine .inr ⟨.inl k,c,e,?_⟩;have q:=x.cell y c e;rw[q7w ndP hp hu (by show scope.names.lookup y≠_;rw[k];decide)] at q;exact q
 ·exact e0.hok.fresh (Nat.le_of_lt (x.above y c (PySem.mem_of_lookup h)))
 ·unfold start;show _=N.length;rw[List.length_append,List.length_map,List.length_replicate];lia
theorem fn_of{K:W.Frag}{kV:Value}(lk:K.lookup f=some ⟨oc,od,.func (W.fnOf name qual params body scope dV kV doc pm an cdv ct),osl⟩)(hcd:W.codeIn K cdv qual=true)(S:FnScope N ps scope)(len:∀vs H Q E,sp vs H Q E->vs.length=ps.length)(hbody:∀(A:Around) (outer:List Env) (s:Shared) (H:Hp) (vs:List V) (Q:VK) (E:XK),Room k (A.deeper (envOfC qual scope s.heap.objs.size f cdv))->sp vs H Q E ->
   ∃t,PSs (cxOf CX P w K mg base N qual scope f cdv A outer s H E) body t/\t { nx:=fun _ H'=>Q .non H',rt:=Q } (start N vs) H):
  FnOk P w K mg base CX (k+1) f (W.fnOf name qual params body scope dV kV doc pm an cdv ct) ps sp:=by
 refine⟨len,fun A outer s H args us vs Q E hr e0 hb r hsp=>?_⟩;have hl:=len _ _ _ _ hsp;have KX:=e0.mod.kin.keeps fun b o e=>(e0.bs b o e).1;have lim:=e0.mod.nolimit.keeps fun b o e=>(e0.bs b o e).1;have hkind:∀y∈ps.zip us,scope.names.lookup y.1=some .local\/(scope.names.lookup y.1=some .cell/\((cellsFrom (s.heap.objs.size+1) scope.names []).lookup y.1).isSome=true):=fun⟨n,v⟩ hy=>by
  rcases S.par n (List.of_mem_zip hy).1 with q|q
  ·exact .inl q
  ·exact .inr ⟨q,W.cellsFrom_some _ _ _ (.inl q)⟩
 refine codeAny_call_function hr.depth (KX _ _ lk) rfl S.co S.gen rfl (W.codeRec_of KX hcd) (hb _ _ _ _ ?_);refine wpAny_newFunctionEnv_cells S.kind hkind fun env he s1 x=>?_;subst he;refine⟨lim.keeps x.toInCall.keep,codeAny_func ?_⟩;obtain⟨t,ht,hq⟩:=hbody A outer s H vs Q E (hr.deeper _) hsp;have I:Inv (cxOf CX P w K mg base N qual scope f cdv A outer s H E) [] (start N vs) H s1:=z3g S hr.hd e0 hl r x;refine wpAny_mono (ht [] s1 (start N vs) H _ I hq) (fun fl s' hs=>?_) fun e s' hs=>hs;have fin:∀{σ':St} {H':Hp} {v:V} {u:Value},Inv (cxOf CX P w K mg base N qual scope f cdv A outer s H E) [] σ' H' s'->RelV v u->Q v H'->CE outer P w H s Q u s' :=
  fun{σ' H' v u} J rv q=>⟨v,H',J.os,J.bare,J.base,J.hok,rv,q⟩
 cases fl with
 |ret u =>
  obtain⟨v,σ',H',J,rv,q⟩:=hs;exact fin J rv q
 |next =>
  obtain⟨σ',H',J,q⟩:=hs;exact fin (v:=V.non) J rfl q
 |brk =>
  obtain⟨_,_,_,q⟩:=hs;exact False.elim q
 |cont =>
  obtain⟨_,_,_,q⟩:=hs;exact False.elim q
open PySem PySem.Spec PyProof.Rows
section
variable{X:Cx}{x:Str}{p pos:Pos}{e:Expr}{es:List Expr}{t:TA}{id T:String}{r:List V->Hp->VK->Prop}
def tCB(r:List V->Hp->VK->Prop)(t:TA):TE:=fun σ H Q=>t σ H fun vs H1=>r vs H1 Q
theorem q0l(hc:CallR X (.builtin id) r)(hg:Gl X x)(hm:X.mg x=none)(hv:bootBuiltins x=some (.builtin id))(ha:PA X (e::es) t)(hn:x ≠ "__name__" := by decide)(hdb:(x==("__debug__" : Str))=false:=by decide)(he:starEach (e::es) X.env=(false,eval e X.env)::starEach es X.env:=by rfl)(hpl:(backTo pos (starEach es X.env)).any (·.1)=false:=by rfl):PE X (.Call (.Name x p) (e::es) [] pos) (tCB r t):=by
 intro pins s σ H Q I h;refine wpAny_Call_Name_kw (q4s I hg hm hv ?_ hn hdb);exact PyProof.Rows.callWith_builtin1 (thn (ha pos pins s σ H _ I h) fun us s1 ⟨vs,H1,I1,r1,q1⟩=>hc pins s1 σ H1 vs us Q I1 r1 q1) he hpl
theorem q3s(hc:CallR X (.type T) r)(hg:Gl X x)(hm:X.mg x=none)(hv:bootBuiltins x=some (.type T))(ha:PA X (e::es) t)(hn:x ≠ "__name__" := by decide)(hdb:(x==("__debug__" : Str))=false:=by decide)(he:starEach (e::es) X.env=(false,eval e X.env)::starEach es X.env:=by rfl)(hpl:(backTo pos (starEach es X.env)).any (·.1)=false:=by rfl):PE X (.Call (.Name x p) (e::es) [] pos) (tCB r t):=by
 intro pins s σ H Q I h;refine wpAny_Call_Name_kw (q4s I hg hm hv ?_ hn hdb);exact PyProof.Rows.callWith_type1 (thn (ha pos pins s σ H _ I h) fun us s1 ⟨vs,H1,I1,r1,q1⟩=>hc pins s1 σ H1 vs us Q I1 r1 q1) he hpl
end
end L2
namespace HT
open PySem PyProof.Rows
section
variable{prog:Program}{w:World}{A:Around}{E:Value->Shared->Prop}{s:Shared}
theorem cat_tup(ht:IsTup s.heap t vs.toArray)(hb:IsTup s.heap b ws.toArray)(hv:vs≠[])(h1:ws=[]->Q (.ref t) s)(h2:ws≠[]->Q (.ref s.heap.objs.size) { s with heap:=s.heap.push { cls:=.type "tuple",data:=.seq (vs++ws).toArray } })(hsz:vs.length+ws.length<=sizeLine):wpAny (model prog w) A (binaryOp .Add (.ref t) (.ref b)) Q E s:=by
 obtain⟨⟨cls,dd,data,sl⟩,ho,hc,n,hd⟩:=id ht;obtain⟨⟨cls2,dd2,data2,sl2⟩,ho2,hc2,n2,hd2⟩:=id hb;subst hc hd hc2 hd2;have e:vs.toArray++ws.toArray=(vs++ws).toArray:=by simp
 by_cases hw:ws=[]
 ·exact concat_meets ⟨_,ho,rfl⟩ ⟨_,ho2,rfl⟩ noFill_tuple_add seq_tuple_add PySem.F.slot_tuple_add PySem.F.entry_tuple_add (PySem.F.args_tuple_add_2 _ _)
   (tuple_addW1 t b vs.toArray ws.toArray n n2 dd dd2 sl sl2 (by simpa using hv) (by simp[hw])) ⟨ho,ho2,h1 hw⟩
 ·refine concat_meets ⟨_,ho,rfl⟩ ⟨_,ho2,rfl⟩ noFill_tuple_add seq_tuple_add PySem.F.slot_tuple_add PySem.F.entry_tuple_add (PySem.F.args_tuple_add_2 _ _)
   (tuple_addW2 t b vs.toArray ws.toArray n n2 dd dd2 sl sl2 (by simpa using hv) (by simpa using hw) (by rw[List.size_toArray,List.size_toArray];exact hsz)) ⟨ho,ho2,?_⟩
  rw[e];exact h2 hw
def sIx(n d:Nat):Option Int->Nat
 |none=>d
 |some v=>if v<0 then(v+(n:Int)).toNat else min v.toNat n
theorem z3h(v:Int)(n d:Nat):(if v<0 then max (v+(n:Int)) 0 else min v (n:Int))=((sIx n d (some v):Nat):Int):=by
 show(if v<0 then max (v+(n:Int)) 0 else min v (n:Int))=(((if v<0 then(v+(n:Int)).toNat else min v.toNat n):Nat):Int)
 by_cases hv:v<0
 ·grind
 ·grind
theorem z1s(lo hi:Option Int)(n:Nat):Builtin.Slice.sliceAdjust lo hi 1 (n:Int)=(((sIx n 0 lo:Nat):Int),((sIx n n hi:Nat):Int)):=by
 refine Prod.ext ?_ ?_
 ·cases lo with
  |none=>rfl
  |some v=>exact z3h v n 0
 ·cases hi with
  |none=>rfl
  |some v=>exact z3h v n n
theorem z1t(i j:Nat):Builtin.Slice.slicePlaces (i:Int) (j:Int) 1=j-i:=by
 unfold Builtin.Slice.slicePlaces;have h1:(1:Int)>0:=by lia
 simp only[h1,if_true,Int.ediv_one];split<;>lia
theorem q5z(p:IsPart v o)(h:Q o s):wpAny (model prog w) A (Builtin.Slice.slicePartIndex v) Q E s:=by
 cases p with
 |none=>exact slicePart_none h
 |int i t=>exact slicePart_int h
theorem q4j{lo:Option Int}{n:Nat}(hs:s.heap.IsSliceOf sl vl vu .none)(pl:IsPart vl lo)(pu:IsPart vu hi)(h:Q (((sIx n 0 lo:Nat):Int),1,sIx n n hi-sIx n 0 lo) s):wpAny (model prog w) A (Builtin.Slice.sliceApplied (.ref sl) (pure (n:Int))) Q E s:=by
 obtain⟨os,hos,hcs,hds⟩:=id hs;refine wpAny_bind (wpAny_bind (wpAny_field hos hds rfl (wpAny_bind (wpAny_field hos hds rfl (wpAny_bind (wpAny_field hos hds rfl (wpAny_pure ?_)))))));refine wpAny_bind (slicePart_none ?_);refine wpAny_bind (q5z pl (wpAny_bind (q5z pu (wpAny_bind (wpAny_pure ?_)))));show wpAny _ _ (match Builtin.Slice.sliceAdjust lo hi 1 (n:Int) with|(lo,hi)=>pure (lo,(1:Int),Builtin.Slice.slicePlaces lo hi 1)) _ _ s;rw[z1s lo hi n];show wpAny _ _ (pure (((sIx n 0 lo:Nat):Int),(1:Int),Builtin.Slice.slicePlaces ((sIx n 0 lo:Nat):Int) ((sIx n n hi:Nat):Int) 1)) _ _ s;rw[z1t];exact wpAny_pure h
theorem z5r(xs:Array Value)(i k:Nat):((List.range k).filterMap fun(m:Nat)=>xs[((i:Int)+(m:Int)*1).toNat]?).toArray=((xs.toList.drop i).take k).toArray:=by
 have e:(fun(m:Nat)=>xs[((i:Int)+(m:Int)*1).toNat]?)=fun m=>xs[i+m]?:=by grind
 rw[e];have:=pick_run xs i k;rw[List.filterMap_map] at this;have e2:((fun x=>xs[x]?)∘fun x=>i+x)=fun m=>xs[i+m]?:=rfl;rw[e2] at this;rw[this]
theorem getItem_tuple_cut{lo:Option Int}(ht:IsTup s.heap t items)(hs:s.heap.IsSliceOf sl vl vu .none)(pl:IsPart vl lo)(pu:IsPart vu hi)(hw:¬(sIx items.size 0 lo=0/\sIx items.size items.size hi=items.size))(h:Q (.ref s.heap.objs.size) { s with heap:=s.heap.push { cls:=.type "tuple",data:=.seq ((items.toList.drop (sIx items.size 0 lo)).take (sIx items.size items.size hi-sIx items.size 0 lo)).toArray } })(hsz:items.size<=sizeLine):wpAny (model prog w) A (getItem (.ref t) (.ref sl)) Q E s:=by
 have htake:sizeOk (.seq ((items.toList.drop (sIx items.size 0 lo)).take (sIx items.size items.size hi-sIx items.size 0 lo)).toArray):=by
  show((items.toList.drop (sIx items.size 0 lo)).take (sIx items.size items.size hi-sIx items.size 0 lo)).toArray.size<=sizeLine;rw[List.size_toArray,List.length_take,List.length_drop,Array.length_toList];lia
 obtain⟨os,hos,hcs,hds⟩:=id hs;have hTs:s.TypeIs (.ref sl) "slice" := ⟨os,hos,hcs⟩
 unfold getItem;try with_reducible refine wpAny_holding ?_
 refine wpAny_bind (wpAny_sequenceKey ht.typeIs (by decide) ?_);refine wpAny_bind (wpAny_callSpecial?_slot ht.typeIs PyProof.Rows.slot_tuple_getitem
  (wpAny_call_entry PyProof.Rows.slot_tuple_getitem ht.typeIs entry_tuple_getitem ?_ (args_tuple_getitem _ _)))
 show wpAny _ _ (Builtin.Tuple.tupleItemsOf (.ref t) >>= _) _ _ s;refine wpAny_bind (tupleItemsOf_ ht ?_);refine wpAny_bind (wpAny_typeOf hTs ?_);refine wpAny_bind (q4j hs pl pu ?_);have hno:¬((((sIx items.size 0 lo:Nat):Int)==0&&(1:Int)==1&&(sIx items.size items.size hi-sIx items.size 0 lo)==items.size)=true):=by grind
 show wpAny _ _ (if (((sIx items.size 0 lo:Nat):Int)==0&&(1:Int)==1&&(sIx items.size items.size hi-sIx items.size 0 lo)==items.size)=true then _ else _) _ _ s;rw[if_neg hno,z5r];first
  |exact wpAny_bind (wpAny_newObj_type (wpAny_pure ⟨_,rfl,wpAny_pure h⟩) htake)
  |exact wpAny_bind (wpAny_newObj_type (wpAny_bind (wpAny_pure (wpAny_pure ⟨_,rfl,wpAny_pure h⟩))) htake)
  |exact wpAny_bind (wpAny_bind (wpAny_newObj_type (wpAny_pure (wpAny_pure ⟨_,rfl,wpAny_pure h⟩)) htake))
  |exact wpAny_bind (wpAny_bind (wpAny_newObj_type (wpAny_pure ⟨_,rfl,wpAny_pure h⟩) htake))
end
end HT
namespace L2
open PySem PySem.Spec PyProof.Rows
abbrev TO:=St->Hp->(Option Int->Hp->Prop)->Prop
def PO(X:Cx)(e:Option Expr)(t:TO):Prop :=
 ∀(pins:List (Addr×Obj)) (s:Shared) (σ:St) (H:Hp) (Q:Option Int->Hp->Prop),Inv X pins σ H s->t σ H Q ->
  wpAny (model X.prog X.w) X.A (evalPart e X.env) (fun u s'=>∃o H',Inv X pins σ H' s'/\IsPart u o/\Q o H') X.xe s
def tNoPart:TO:=fun _ H Q=>Q none H
def tPart(t:TE):TO:=fun σ H Q=>t σ H fun x H1=>∃i,x=.int i/\Q (some i) H1
section
variable{X:Cx}{e:Expr}{te:TE}{lo hi:Option Expr}{tl th:TO}{pos p2:Pos}
theorem q1b:PO X none tNoPart:=by
 intro pins s σ H Q I h;exact wpAny_pure ⟨none,H,I,.none,h⟩
theorem q1c(h:PE X e te):PO X (some e) (tPart te):=by
 intro pins s σ H Q I hw;refine thn (h pins s σ H _ I hw) fun u s1 ⟨x,H1,I1,r1,q1⟩=>?_;obtain⟨i,rfl,q⟩:=q1;obtain⟨t,rfl⟩:=r1;exact⟨some i,H1,I1,.int i t,q⟩
def SlR(X:Cx)(r:V->Option Int->Option Int->Hp->VK->Prop):Prop :=
 ∀(pins:List (Addr×Obj)) (s:Shared) (σ:St) (H:Hp) (x:V) (v vl vu:Value) (lo hi:Option Int) (sl:Addr) (Q:VK),Inv X pins σ H s->RelV x v->s.heap.IsSliceOf sl vl vu .none->IsPart vl lo->IsPart vu hi->r x lo hi H Q ->
  ∃T id,typeLookup (.type T) "__getitem__" = pure (some (.builtin id))/\s.TypeIs v T/\wpAny (model X.prog X.w) X.A (getItem v (.ref sl)) (EP X pins σ Q) X.xe s
theorem SlR.or(h:SlR X r)(h':SlR X r'):SlR X (fun x lo hi H Q=>r x lo hi H Q\/r' x lo hi H Q):=by
 intro pins s σ H x v vl vu lo hi sl Q I rx hs pl pu q;rcases q with q|q
 ·exact h pins s σ H x v vl vu lo hi sl Q I rx hs pl pu q
 ·exact h' pins s σ H x v vl vu lo hi sl Q I rx hs pl pu q
def tSl(r:V->Option Int->Option Int->Hp->VK->Prop)(te:TE)(tl th:TO):TE:=fun σ H Q=>te σ H fun x H1=>tl σ H1 fun l H2=>th σ H2 fun u H3=>r x l u H3 Q
theorem q0t{r:V->Option Int->Option Int->Hp->VK->Prop}(hr:SlR X r)(he:PE X e te)(hl:PO X lo tl)(hu:PO X hi th):PE X (.Subscript e (.Slice lo hi none p2) pos) (tSl r te tl th):=by
 intro pins s σ H Q I h;refine Subscript_ (thn (he pins s σ H _ I h) fun v s1 ⟨x,H1,I1,r1,q1⟩=>?_);refine wpAny_Slice (thn (hl pins s1 σ H1 _ I1 q1) fun vl s2 ⟨l,H2,I2,pl,q2⟩=>thn (hu pins s2 σ H2 _ I2 q2) fun vu s3 ⟨u,H3,I3,pu,q3⟩=>?_);refine wpAny_pure ?_;have I4:Inv X pins σ H3 { s3 with heap:=s3.heap.push { cls:=.type "slice",data:=.fields #[vl,vu,.none] } }:=I3.kept (t':=s3.toks) fun b ob q=>Heap.get?_push_of_some _ q;obtain⟨T,id,hT,ht,hg⟩:=hr pins { s3 with heap:=s3.heap.push { cls:=.type "slice",data:=.fields #[vl,vu,.none] } } σ H3 x v vl vu l u s3.heap.objs.size Q I4 r1 (Heap.IsSliceOf.new ..) pl pu q3;exact tail_any ht hT hg (by with_unfolding_all rfl)
def cutV(xs:List V)(lo hi:Option Int):List V:=(xs.drop (HT.sIx xs.length 0 lo)).take (HT.sIx xs.length xs.length hi-HT.sIx xs.length 0 lo)
theorem q4x(xs:List V)(lo hi:Option Int):(cutV xs lo hi).length<=xs.length:=by
 unfold cutV;rw[List.length_take,List.length_drop];lia
def rSlT(K:W.Frag):V->Option Int->Option Int->Hp->VK->Prop:=fun x lo hi H Q=>∃a xs,x=.ref a/\SqT K H a xs /\
 ¬(HT.sIx xs.length 0 lo=0/\HT.sIx xs.length xs.length hi=xs.length)/\∀p,H p=none->Q (.ref p) (upd H p (.tup (cutV xs lo hi)))
theorem sl_tup:SlR X (rSlT X.K):=by
 intro pins s σ H x v vl vu lo hi sl Q I rx hs pl pu h;obtain⟨a,xs,rfl,hx,hw,q⟩:=h;cases rx;obtain⟨its,r,ht,hz⟩:=I.tuple hx;have hlen:its.toArray.size=xs.length:=by rw[List.size_toArray];exact r.length.symm
 refine⟨"tuple",_,PyProof.Rows.slot_tuple_getitem.lookup,ht.typeIs,?_⟩;refine HT.getItem_tuple_cut ht hs pl pu (by rw[hlen];exact hw) ?_ (by rw[hlen];exact hz);rw[hlen];refine⟨.ref s.heap.objs.size,_,I.laid (t':=s.toks) (fun b ob q=>Heap.get?_push_of_some _ q) (Nat.le_refl _) ?_,rfl,q _ (I.hok.fresh (Nat.le_refl _))⟩;exact⟨Nat.le_trans (q4x xs lo hi) hz,_,(r.drop (HT.sIx xs.length 0 lo)).take (HT.sIx xs.length xs.length hi-HT.sIx xs.length 0 lo),IsTup.new _ _⟩
theorem Vals.nil_iff(r:Vals xs us):us=[]↔xs=[]:=by
 cases r with
 |nil=>simp
 |cons _ _=>simp
end
open PySem PySem.Spec PyProof.Rows
def ixN(n:Nat)(i:Int):Option Nat:=if 0<=i then(if i<n then some i.toNat else none) else if -(n:Int)<=i then some (i+n).toNat else none
def atI{α:Type}(xs:List α)(i:Int):Option α:=(ixN xs.length i).bind fun j=>xs[j]?
theorem z3i(h:ixN n i=some j):seqIndex? i n=some j/\j<n /\ -(n:Int)<=i/\i<n:=by
 unfold ixN at h;by_cases h0:0<=i
 ·rw[if_pos h0] at h;by_cases h1:i<n
  ·rw[if_pos h1] at h;have e:=Option.some.inj h;exact⟨by rw[seqIndex_of h0 h1,e],by lia,by lia,h1⟩
  ·grind
 ·rw[if_neg h0] at h;by_cases h1 : -(n:Int)<=i
  ·rw[if_pos h1] at h;have e:=Option.some.inj h;exact⟨by rw[seqIndex_neg (by lia) h1,e],by lia,h1,by lia⟩
  ·grind
theorem q6q{xs:List α}{v:α}(h:atI xs i=some v):∃j,seqIndex? i xs.length=some j/\xs[j]?=some v/\j<xs.length /\ -(xs.length:Int)<=i/\i<xs.length:=by
 unfold atI at h;cases e:ixN xs.length i with
 |none=>rw[e] at h;cases h
 |some j =>
  rw[e] at h;obtain⟨h1,h2,h3,h4⟩:=z3i e;exact⟨j,h1,h,h2,h3,h4⟩
def PlainIx(b:Expr):Prop:=∀o i,subscripted b false o i=operate [o,i] (getItem o i)
def IxR(X:Cx)(r:R2):Prop :=
 ∀(value slice:Expr) (pins:List (Addr×Obj)) (s:Shared) (σ:St) (H:Hp) (x y:V) (v u:Value) (Q:VK),Inv X pins σ H s->RelV x v->RelV y u->r x y H Q ->
  subscripted slice false v u=operate [v,u] (getItem v u)->wpAny (model X.prog X.w) X.A (subscriptTail value slice v u) (EP X pins σ Q) X.xe s
def MtR(X:Cx)(id:String)(r:V->List V->Hp->VK->Prop):Prop :=
 ∀(pins:List (Addr×Obj)) (s:Shared) (σ:St) (H:Hp) (x:V) (xs:List V) (v:Value) (us:List Value) (Q:VK),Inv X pins σ H s->RelV x v->Vals xs us->r x xs H Q ->
  wpAny (model X.prog X.w) X.A (call (.builtin id) (v::us)) (EP X pins σ Q) X.xe s
section
variable{X:Cx}{a b:Expr}{ta tb:TE}{pos:Pos}
theorem IxR.or(h:IxR X r)(h':IxR X r'):IxR X (fun x y H Q=>r x y H Q\/r' x y H Q):=by
 intro value slice pins s σ H x y v u Q I rx ry q hs;rcases q with q|q
 ·exact h value slice pins s σ H x y v u Q I rx ry q hs
 ·exact h' value slice pins s σ H x y v u Q I rx ry q hs
theorem MtR.or{id:String}(h:MtR X id r)(h':MtR X id r'):MtR X id (fun x xs H Q=>r x xs H Q\/r' x xs H Q):=by
 intro pins s σ H x xs v us Q I rx rs q;rcases q with q|q
 ·exact h pins s σ H x xs v us Q I rx rs q
 ·exact h' pins s σ H x xs v us Q I rx rs q
theorem q0x{r:R2}(hr:IxR X r)(ha:PE X a ta)(hb:PE X b tb)(hs:PlainIx b):PE X (.Subscript a b pos) (tOp r ta tb):=by
 intro pins s σ H Q I h;exact Subscript_ (binT ha hb I h fun v u s2 x y H2 I2 rx ry q=>hr a b pins s2 σ H2 x y v u Q I2 rx ry q (hs _ _))
def rIxL(K:W.Frag):R2:=fun x y H Q=>∃p xs i v,x=.ref p/\y=.int i/\SqL K H p xs/\atI xs i=some v/\Q v H
def rIxT(K:W.Frag):R2:=fun x y H Q=>∃p xs i v,x=.ref p/\y=.int i/\SqT K H p xs/\atI xs i=some v/\Q v H
def rIxS:R2:=fun x y H Q=>∃z i c,x=.str z/\y=.int i/\z.length<=sizeLine/\atI z.cps.toList i=some c/\Q (.str ⟨#[c]⟩) H
theorem ix_list:IxR X (rIxL X.K):=by
 intro value slice pins s σ H x y v u Q I rx ry h hs;obtain⟨p,xs,i,z,rfl,rfl,hq,he,q⟩:=h;cases rx;obtain⟨t,rfl⟩:=ry;obtain⟨its,r,pl,hz⟩:=I.list hq;obtain⟨j,h1,h2,h3,h4,h5⟩:=q6q he;obtain⟨w,ew,rw'⟩:=r.get h2;have hl:=r.length;have hn:=line63;have fin:EP X pins σ Q w s:=⟨z,H,I,rw',q⟩
 by_cases h0:0<=i
 ·have hj:i.toNat=j:=by
   rw[seqIndex_of h0 h5] at h1;exact Option.some.inj h1
  exact item_listR pl.isList h0 (by lia) (by rw[hj];simpa using ew) fin hs
 ·have hj:(i+(its.toArray.size:Int)).toNat=j:=by
   rw[seqIndex_neg (by lia) h4] at h1;rw[List.size_toArray,<- hl];exact Option.some.inj h1
  exact subscriptTail_builtinR pl.isList.typeIs slot_list_getitem.lookup
   (wpAny_getItem_list_neg pl.isList (by lia) (by rw[List.size_toArray]<;>lia) (by lia) (by rw[hj];simpa using ew) ⟨rfl,fin⟩) hs
theorem ix_tup:IxR X (rIxT X.K):=by
 intro value slice pins s σ H x y v u Q I rx ry h hs;obtain⟨p,xs,i,z,rfl,rfl,hq,he,q⟩:=h;cases rx;obtain⟨t,rfl⟩:=ry;obtain⟨its,r,pl,hz⟩:=I.tuple hq;obtain⟨j,h1,h2,h3,h4,h5⟩:=q6q he;obtain⟨w,ew,rw'⟩:=r.get h2;have hl:=r.length;have hn:=line63;have fin:EP X pins σ Q w s:=⟨z,H,I,rw',q⟩
 exact subscriptTail_builtinR pl.typeIs slot_tuple_getitem.lookup
  (getItem_tuple pl (by lia) (by lia) (by rw[List.size_toArray,<- hl];exact h1) (by simpa using ew) ⟨rfl,fin⟩) hs
theorem ix_str:IxR X rIxS:=by
 intro value slice pins s σ H x y v u Q I rx ry h hs;obtain⟨z,i,c,rfl,rfl,hz,he,q⟩:=h;obtain⟨t,rfl⟩:=rx;obtain⟨t',rfl⟩:=ry;obtain⟨j,h1,h2,h3,h4,h5⟩:=q6q he;have hl:z.cps.toList.length=z.length:=by simp[Str.length]
 rw[hl] at h1 h4 h5;have hn:=line63;exact tail_any (typeIs_str s z t) slot_str_getitem.lookup (getItem_str (by
  have e1:decide (i < -(2^63:Int))=false:=decide_eq_false (by lia);have e2:decide (i>=2^63)=false:=decide_eq_false (by lia);rw[e1,e2,Bool.or_false]) (by rw[h1];simpa using h2) ⟨.str ⟨#[c]⟩,H,I.tok _,⟨_,rfl⟩,q⟩) hs
def rIx(K:W.Frag):R2:=fun x y H Q=>rIxL K x y H Q\/rIxT K x y H Q\/rIxS x y H Q
theorem ix_seq:IxR X (rIx X.K):=ix_list.or (ix_tup.or ix_str)
theorem z1u(its:List Value)(n j:Nat)(u:Value):Obj.mapSeq (·.setIfInBounds j u) { cls:=.type "list",data:=.seq its.toArray n }={ cls:=.type "list",data:=.seq (its.set j u).toArray n }:=by
 simp[Obj.mapSeq]
theorem Inv.lst{pins:List (Addr×Obj)}{σ:St}{H:Hp}{s:Shared}{p:Addr}{xs:List V}(I:Inv X pins σ H s)(h:H p=some (.lst xs)):
  ∃(its:List Value) (n:Nat),Vals xs its/\s.heap.get? p=some { cls:=.type "list",data:=.seq its.toArray n }/\xs.length<=sizeLine:=by
 obtain⟨z,its,n,r,e⟩:=I.hok p _ h;exact⟨its,n,r,e,z⟩
theorem Inv.lstUpd{σ:St}{its:List Value}(I:Inv X pins σ H s)(h:H p=some (.lst xs))(ho:s.heap.get? p=some { cls:=.type "list",data:=.seq its.toArray n })(hf:f { cls:=.type "list",data:=.seq its.toArray n }={ cls:=.type "list",data:=.seq its'.toArray n' })(r:Vals ys its')(hz:ys.length<=sizeLine)(t:Nat):
  Inv X pins σ (upd H p (.lst ys)) { s with heap:=s.heap.update p f,toks:=t }:=by
 have e:(s.heap.update p f).get? p=some { cls:=.type "list",data:=.seq its'.toArray n' }:=by
  rw[Heap.get?_update_self f ho (by rw[hf]<;>rfl),hf]
 refine I.write (by rw[h];trivial) (.inl rfl) (fun b u hb q=>(Heap.get?_update_other _ _ (Ne.symm hb)).trans q) ⟨_,e⟩ ?_;exact⟨hz,its',n',r,e⟩
def rSetL:V->V->V->Hp->(Hp->Prop)->Prop:=fun o i v H Q=>∃p xs k j,o=.ref p/\i=.int k/\H p=some (.lst xs)/\ixN xs.length k=some j/\Q (upd H p (.lst (xs.set j v)))
theorem q6r:PSet X rSetL:=by
 intro pins s σ H o i v ov iv u Q I ro ri rv h;obtain⟨p,xs,k,j,rfl,rfl,hp,hj,q⟩:=h;cases ro;obtain⟨t,rfl⟩:=ri;obtain⟨its,n,r,ho,hz⟩:=I.lst hp;obtain⟨h1,h2,h3,h4⟩:=z3i hj;have hl:=r.length;have hn:=line63;have I':Inv X pins σ (upd H p (.lst (xs.set j v))) { s with heap:=s.heap.update p (Obj.mapSeq (·.setIfInBounds j u)) } :=
  I.lstUpd hp ho (z1u its n j u) (r.set rv j) (by rw[List.length_set];exact hz) s.toks
 by_cases h0:0<=k
 ·have hk:k.toNat=j:=by
   rw[seqIndex_of h0 h4] at h1;exact Option.some.inj h1
  exact W.ki_setAt ho h0 (by lia) (by rw[List.size_toArray,<- hl];exact h4) (by rw[hk];exact⟨_,I',q⟩)
 ·have hk:(k+(its.toArray.size:Int)).toNat=j:=by
   rw[seqIndex_neg (by lia) h3] at h1;rw[List.size_toArray,<- hl];exact Option.some.inj h1
  exact W.ki_setBack ho (by lia) (by rw[List.size_toArray,<- hl];exact h3) (by lia) (by rw[hk];exact⟨_,I',q⟩)
theorem q7x(lo hi:Option Int)(n:Nat):(sliceBounds lo hi none n).1=((HT.sIx n 0 lo:Nat):Int)/\(sliceBounds lo hi none n).2.1=((HT.sIx n n hi:Nat):Int)/\(sliceBounds lo hi none n).2.2=1:=by
 refine⟨?_,?_,rfl⟩
 ·cases lo with
  |none=>simp[sliceBounds,HT.sIx]
  |some i =>
   simp only[sliceBounds,HT.sIx,Option.getD_none,show(1:Int)>0 by decide,if_true];by_cases h:i<0
   ·simp only[h,if_true]<;>lia
   ·simp only[h,if_false]<;>lia
 ·cases hi with
  |none=>simp[sliceBounds,HT.sIx]
  |some i =>
   simp only[sliceBounds,HT.sIx,Option.getD_none,show(1:Int)>0 by decide,if_true];by_cases h:i<0
   ·simp only[h,if_true]<;>lia
   ·simp only[h,if_false]<;>lia
theorem q6s(its:List Value)(lo hi:Option Int):slicePick its.toArray lo hi none=((its.drop (HT.sIx its.length 0 lo)).take (HT.sIx its.length its.length hi-HT.sIx its.length 0 lo)).toArray:=by
 obtain⟨h1,h2,h3⟩:=q7x lo hi its.toArray.size;unfold slicePick;rw[h1,h2,h3];simp only[sliceRange_one,pick_run,List.size_toArray]<;>rfl
def rSlL(K:W.Frag):V->Option Int->Option Int->Hp->VK->Prop:=fun x lo hi H Q=>∃a xs,x=.ref a/\SqL K H a xs/\∀p,H p=none->Q (.ref p) (upd H p (.lst (cutV xs lo hi)))
theorem sl_list:SlR X (rSlL X.K):=by
 intro pins s σ H x v vl vu lo hi sl Q I rx hs pl pu h;obtain⟨a,xs,rfl,hx,q⟩:=h;cases rx;obtain⟨its,r,ht,hz⟩:=I.list hx;have hlen:=r.length;refine⟨"list",_,slot_list_getitem.lookup,ht.isList.typeIs,?_⟩;refine wpAny_getItem_list_slice ht.isList hs pl pu .none (by simp) ?_ (by rw[List.size_toArray]<;>lia);rw[q6s,<- hlen];refine⟨.ref s.heap.objs.size,_,I.laid (t':=s.toks) (fun b ob q=>Heap.get?_push_of_some _ q) (Nat.le_refl _) ?_,rfl,q _ (I.hok.fresh (Nat.le_refl _))⟩;exact⟨Nat.le_trans (q4x xs lo hi) hz,_,0,(r.drop (HT.sIx xs.length 0 lo)).take (HT.sIx xs.length xs.length hi-HT.sIx xs.length 0 lo),Heap.get?_push_size _ rfl⟩
theorem CallR.or(h:CallR X f r)(h':CallR X f r'):CallR X f (fun xs H Q=>r xs H Q\/r' xs H Q):=by
 intro pins s σ H xs us Q I rs q;rcases q with q|q
 ·exact h pins s σ H xs us Q I rs q
 ·exact h' pins s σ H xs us Q I rs q
theorem q7y:CallR X (.type "list") (fun xs H Q=>∃p ys,xs=[.ref p]/\(SqL X.K H p ys\/SqT X.K H p ys)/\∀l,H l=none->Q (.ref l) (upd H l (.lst ys))):=by
 intro pins s σ H xs us Q I r h;obtain⟨p,ys,rfl,hq,q⟩:=h;obtain⟨u,rfl,rx⟩:=vals1 r;cases rx;have fin:∀(its:List Value),Vals ys its->ys.length<=sizeLine->∀(h':Heap) (c':Nat),(∀b o',s.heap.get? b=some o'->h'.get? b=some o') ->
   h'.get? s.heap.objs.size=some { cls:=.type "list",dict:=none,data:=.seq its.toArray c',slots:=#[] }->EP X pins σ Q (.ref s.heap.objs.size) { s with heap:=h' }:=fun its r' hz h' c' kp e =>
  ⟨.ref s.heap.objs.size,_,I.laid (t':=s.toks) kp (Nat.le_refl _) (show ObjOk X.prog X.w _ h' _ (.lst ys) from⟨hz,its,c',r',e⟩),rfl,q _ (I.hok.fresh (Nat.le_refl _))⟩
 rcases hq with hq|hq
 ·obtain⟨its,r',pl,hz⟩:=I.list hq;have hlen:=r'.length;obtain⟨o,ho,hc,n,hd⟩:=pl.isList;exact call_list_seq p (.inl rfl) ho hc hd (fun h' c' kp e=>fin its r' hz h' c' kp e) (by simp only[List.size_toArray]<;>lia)
 ·obtain⟨its,r',pl,hz⟩:=I.tuple hq;have hlen:=r'.length;obtain⟨o,ho,hc,n,hd⟩:=pl;exact call_list_seq p (.inr rfl) ho hc hd (fun h' c' kp e=>fin its r' hz h' c' kp e) (by simp only[List.size_toArray]<;>lia)
def tyV(K:W.Frag)(T:String)(x:V)(H:Hp):Prop:=match x with
 |.str _=>T = "str"
 |.int _=>T = "int"
 |.ref p=>(T = "list" /\ ∃xs,SqL K H p xs)\/(T = "tuple" /\ ∃o,K.lookup p=some o/\o.cls=.type "tuple" /\ o.dict=none) \/
   (T = "dict" /\ ((∃kvs,H p=some (.dK kvs))\/∃kvs,H p=some (.dT kvs)))\/(T = "set" /\ ∃S n,H p=some (.set S n))
 |_=>False
theorem z7j{σ:St}(I:Inv X pins σ H s)(r:RelV x v)(ty:tyV X.K T x H):
  s.TypeIs v T/\∀a,v=.ref a->∃ob,s.heap.get? a=some ob/\ob.dict=none:=by
 cases x with
 |str z =>
  obtain⟨t,rfl⟩:=r;cases(show T = "str" from ty);exact⟨typeIs_str s z t,fun _ e=>nomatch e⟩
 |int i =>
  obtain⟨t,rfl⟩:=r;cases(show T = "int" from ty);exact⟨typeIs_int s i t,fun _ e=>nomatch e⟩
 |ref p =>
  cases r;rcases ty with⟨rfl,xs,hq⟩|⟨rfl,o,hk,hc,hd⟩|⟨rfl,hk⟩|⟨rfl,S,n,hk⟩
  ·obtain⟨its,_,pl,_⟩:=I.list hq;refine⟨pl.isList.typeIs,fun a e=>?_⟩;cases e;obtain⟨o,n,e,c,hd,_⟩:=pl;exact⟨o,e,hd⟩
  ·refine⟨⟨o,I.kIn p o hk,hc⟩,fun a e=>?_⟩;cases e;exact⟨o,I.kIn _ o hk,hd⟩
  ·have z:∃o,s.heap.get? p=some o/\o.ExactDict:=by
    rcases hk with⟨kvs,hk⟩|⟨kvs,hk⟩
    ·obtain⟨_,_,_,_,o,_,_,e,ex,_⟩:=I.hok p _ hk;exact⟨o,e,ex⟩
    ·obtain⟨_,_,_,_,o,_,_,e,ex,_⟩:=I.hok p _ hk;exact⟨o,e,ex⟩
   obtain⟨o,e,ex⟩:=z;refine⟨⟨o,e,ex.1⟩,fun a e2=>?_⟩;cases e2;exact⟨o,e,ex.2.1⟩
  ·obtain⟨o,_,_,_,e,ex,_⟩:=I.hok p _ hk;refine⟨⟨o,e,ex.1⟩,fun a e2=>?_⟩;cases e2;exact⟨o,e,ex.2.1⟩
 |_=>exact False.elim ty
def tBM0(K:W.Frag)(T:String)(r:V->List V->Hp->VK->Prop)(to:TE):TE:=fun σ H Q=>to σ H fun x H1=>tyV K T x H1/\r x [] H1 Q
def tBM(K:W.Frag)(T:String)(r:V->List V->Hp->VK->Prop)(to:TE)(t:TA):TE:=fun σ H Q=>to σ H fun x H1=>tyV K T x H1/\t σ H1 fun xs H2=>r x xs H2 Q
variable{o e:Expr}{es:List Expr}{to:TE}{t:TA}{name:Str}{apos cpos:Pos}{T id:String}{r:V->List V->Hp->VK->Prop}
theorem pe_bm0(pa:PlainAttrs T)(slot:Slot T name id)(hty:typeOf (.builtin id)=pure (.type "method_descriptor"))(hm:MtR X id r)(ho:PE X o to)(hbase:attributeBase o name X.env (eval o X.env)=eval o X.env:=by rfl)(hline:(apos.endLine==cpos.line)=true:=by rfl):PE X (.Call (.Attribute o name apos) [] [] cpos) (tBM0 X.K T r to):=by
 intro pins s σ H Q I h;refine wpAny_Call_method0_late hbase hline (thn (ho pins s σ H _ I h) fun v s1 ⟨x,H1,I1,r1,ty,q1⟩=>?_);obtain⟨h1,h2⟩:=z7j I1 r1 ty;exact⟨T,id,pa,slot,hty,h1,h2,Calls.callWith_builtin rfl (PySem.evalArgs_none (hm pins s1 σ H1 x [] v [] Q I1 r1 .nil q1))⟩
theorem pe_bm(pa:PlainAttrs T)(slot:Slot T name id)(hty:typeOf (.builtin id)=pure (.type "method_descriptor"))(hm:MtR X id r)(ho:PE X o to)(ha:PA X (e::es) t)(hbase:attributeBase o name X.env (eval o X.env)=eval o X.env:=by rfl)(hfew:((backTo cpos (starEach (e::es) X.env)).all (fun x => !x.1)&&(backToKw cpos (keywordEach [] X.env)).all (fun x=>x.1.isSome)
   && decide ((e::es).length+([]:List Keyword).length+(if ([]:List Keyword).isEmpty then 0 else 1)<30))=true:=by rfl)(hline:(apos.endLine==cpos.line)=true:=by rfl)(hs:starEach (e::es) X.env=(false,eval e X.env)::starEach es X.env:=by rfl)(hplain:(backTo cpos (starEach es X.env)).any (·.1)=false:=by rfl):
  PE X (.Call (.Attribute o name apos) (e::es) [] cpos) (tBM X.K T r to t):=by
 intro pins s σ H Q I h;refine wpAny_Call_method_late hbase hfew hline rfl (thn (ho pins s σ H _ I h) fun v s1 ⟨x,H1,I1,r1,ty,q1⟩=>?_);obtain⟨h1,h2⟩:=z7j I1 r1 ty;refine⟨T,id,pa,slot,hty,h1,h2,?_⟩;have hA:=ha cpos pins s1 σ H1 _ I1 q1;rw[hs] at hA ⊢;refine Calls.callWith_builtin (by show(false||(backTo cpos (starEach es X.env)).any (·.1))=false;rw[hplain]<;>rfl) (Calls.evalArgs_plain ?_);exact thn hA fun us s2 ⟨vs,H2,I2,r2,q2⟩=>hm pins s2 σ H2 x vs v us Q I2 r1 r2 q2
end
open PySem PySem.Spec PyProof.Rows
def MtM(X:Cx)(id:String)(r:V->List V->Hp->VK->Prop):Prop :=
 ∀(pins:List (Addr×Obj)) (s:Shared) (σ:St) (H:Hp) (x:V) (xs:List V) (v:Value) (us:List Value) (Q:VK),Inv X pins σ H s->RelV x v->Vals xs us->r x xs H Q ->
  wpAny (model X.prog X.w) X.A (call (.builtin id) (v::us)) (EP X pins σ Q) X.xe s
theorem Vals.one:∀{x:V} {us:List Value},Vals [x] us->∃u,us=[u]/\RelV x u
 |_,_,.cons r .nil=>⟨_,rfl,r⟩
theorem Vals.two:∀{x y:V} {us:List Value},Vals [x,y] us->∃u v,us=[u,v]/\RelV x u/\RelV y v
 |_,_,_,.cons r (.cons q .nil)=>⟨_,_,rfl,r,q⟩
theorem Vals.zero:∀{us:List Value},Vals [] us->us=[]
 |_,.nil=>rfl
theorem Vals.dropLast(h:Vals xs us):Vals xs.dropLast us.dropLast:=by
 induction h with
 |nil=>exact .nil
 |cons r t ih =>
  cases t with
  |nil=>exact .nil
  |cons q t'=>exact .cons r ih
theorem Vals.eraseIdx:∀{xs:List V} {us:List Value} (i:Nat),Vals xs us->Vals (xs.eraseIdx i) (us.eraseIdx i)
 |_,_,_,.nil=>.nil
 |_,_,0,.cons _ t=>t
 |_,_,i+1,.cons r t=>.cons r (Vals.eraseIdx i t)
theorem Vals.reverse(h:Vals xs us):Vals xs.reverse us.reverse:=by
 induction h with
 |nil=>exact .nil
 |cons r t ih=>rw[List.reverse_cons,List.reverse_cons];exact Vals.append ih (.cons r .nil)
theorem Vals.rep{xs:List V}{us:List Value}(h:Vals xs us):∀k:Nat,Vals (List.replicate k xs).flatten (List.replicate k us).flatten
 |0=>.nil
 |k+1=>by
  rw[List.replicate_succ,List.replicate_succ,List.flatten_cons,List.flatten_cons];exact Vals.append h (Vals.rep h k)
theorem q7z{α:Type}:∀(l:List α) (i:Nat),(l.eraseIdx i).length<=l.length
 |[],_=>Nat.le_refl _
 |_::_,0=>Nat.le_succ _
 |_::r,i+1=>Nat.succ_le_succ (q7z r i)
theorem q8a(its:List Value):∀(k:Nat) (acc:List Value),
  List.foldl (fun x1 x2=>x1++x2) acc.toArray (List.replicate k its.toArray)=(acc++(List.replicate k its).flatten).toArray
 |0,acc=>by simp
 |k+1,acc=>by
  have e:acc.toArray++its.toArray=(acc++its).toArray:=by simp
  have e2:(acc++its)++(List.replicate k its).flatten=acc++(List.replicate (k+1) its).flatten:=by grind
  rw[<- e2,<- q8a its k (acc++its),<- e,List.replicate_succ,List.foldl_cons]
section
variable{X:Cx}{pins:List (Addr×Obj)}{σ:St}{H:Hp}{s:Shared}{l b:Addr}{xs ys zs:List V}
theorem Inv.lset{its:List Value}(I:Inv X pins σ H s)(hH:H l=some (.lst xs))(e:s.heap.get? l=some { cls:=.type "list",data:=.seq its.toArray n })(hf:f its.toArray=its'.toArray)(hv:Vals ys its')(hz:ys.length<=sizeLine):
  Inv X pins σ (upd H l (.lst ys)) { s with heap:=s.heap.update l (Obj.mapSeq f),toks:=t' }:=by
 have q:=PySem.IsL.update e f;rw[hf] at q;refine I.write (by rw[hH];exact trivial) (.inl rfl) (fun b' u hb hu=>(Heap.get?_update_other s.heap (Obj.mapSeq f) (Ne.symm hb)).trans hu) ⟨_,q⟩ ?_;exact⟨hz,its',_,hv,q⟩
theorem Inv.lnew(I:Inv X pins σ H s)(hv:Vals ys its)(hz:ys.length<=sizeLine):
  Inv X pins σ (upd H s.heap.objs.size (.lst ys)) { s with heap:=s.heap.push { cls:=.type "list",data:=.seq its.toArray },toks:=t' } :=
 I.laid (fun _ _ q=>Heap.get?_push_of_some _ q) (Nat.le_refl _) ⟨hz,its,0,hv,Heap.get?_push_size _ rfl⟩
theorem Inv.fresh(I:Inv X pins σ H s):H s.heap.objs.size=none:=I.hok.fresh (Nat.le_refl _)
theorem Inv.lstM(I:Inv X pins σ H s)(hH:H l=some (.lst xs)):xs.length<=sizeLine/\∃(its:List Value) (n:Nat),Vals xs its/\xs.length=its.length/\s.heap.get? l=some { cls:=.type "list",data:=.seq its.toArray n }:=by
 obtain⟨z,its,n,r,e⟩:=I.hok l _ hH;exact⟨z,its,n,r,r.length,e⟩
theorem notLongL(h:n<=sizeLine):Builtin.List.listTooLong n=false:=by
 exact decide_eq_false (by lia)
end
section
variable{X:Cx}
def rAppend:V->List V->Hp->VK->Prop:=fun x vs H Q=>∃l xs y,x=.ref l/\vs=[y]/\H l=some (.lst xs)/\xs.length<sizeLine/\Q .non (upd H l (.lst (xs++[y])))
theorem q1y:MtM X "list.append" rAppend:=by
 intro pins s σ H x vs v us Q I rx rv h;obtain⟨l,xs,y,rfl,rfl,hH,hz,q⟩:=h;cases rx;obtain⟨u,rfl,ru⟩:=rv.one;obtain⟨z,its,n,r,hl,e⟩:=I.lstM hH;refine call_meets F.slot_list_append ⟨_,e,rfl⟩ F.entry_list_append (F.args_list_append_2 _ _) (PySem.list_append l its.toArray n u (by rw[List.size_toArray];lia)) ⟨e,?_⟩;refine⟨.non,_,I.lset (its':=its++[u]) hH e (by simp) (r.append (.cons ru .nil)) ?_,rfl,q⟩;rw[List.length_append,List.length_singleton];lia
def rPopAt:V->List V->Hp->VK->Prop:=fun x vs H Q=>∃l xs i k y,x=.ref l/\vs=[.int i]/\H l=some (.lst xs) /\ -(2^63)<=i/\i<2^63/\seqIndex? i xs.length=some k/\xs[k]?=some y/\Q y (upd H l (.lst (xs.eraseIdx k)))
theorem z5s:MtM X "list.pop" rPopAt:=by
 intro pins s σ H x vs v us Q I rx rv h;obtain⟨l,xs,i,k,y,rfl,rfl,hH,h1,h2,hk,hy,q⟩:=h;cases rx;obtain⟨u,rfl,ru⟩:=rv.one;obtain⟨t,rfl⟩:=ru;obtain⟨z,its,n,r,hl,e⟩:=I.lstM hH;obtain⟨w,hw,rw'⟩:=r.get hy;refine call_meets F.slot_list_pop ⟨_,e,rfl⟩ F.entry_list_pop (F.args_list_pop_2 _ _)
  (MeetsSeq.list_pop_at l its.toArray n i t k w (fitsIndex_both h1 h2) (by rw[List.size_toArray,<- hl];exact hk) (by rw[<- Array.getElem?_toList];exact hw) (by rw[List.size_toArray];lia)) ⟨e,?_⟩
 refine⟨y,_,I.lset (its':=its.eraseIdx k) hH e ?_ (r.eraseIdx k) ?_,rw',q⟩
 ·simp_all
 ·have:=q7z xs k;lia
def rCat:R2:=fun x y H Q=>∃l b xs zs,x=.ref l/\y=.ref b/\H l=some (.lst xs)/\H b=some (.lst zs)/\xs.length+zs.length<=sizeLine/\∀p,H p=none->Q (.ref p) (upd H p (.lst (xs++zs)))
theorem op_cat:OpR X (binaryOp .Add) rCat:=by
 intro pins s σ H x y v u Q I rx ry h;obtain⟨l,b,xs,zs,rfl,rfl,hH,hB,hz,q⟩:=h;cases rx;cases ry;obtain⟨z,its,n,r,hl,e⟩:=I.lstM hH;obtain⟨z2,its2,n2,r2,hl2,e2⟩:=I.lstM hB;refine PySem.P.add_list e e2 ?_ (by rw[List.size_toArray,List.size_toArray];lia);have ea:its.toArray++its2.toArray=(its++its2).toArray:=by simp
 rw[ea];exact⟨.ref _,_,I.lnew (t':=s.toks) (r.append r2) (by rw[List.length_append];lia),rfl,q _ I.fresh⟩
def rRep:R2:=fun x y H Q=>∃l k xs,x=.ref l/\y=.int k/\H l=some (.lst xs) /\ -(2^63)<=k/\k<2^63/\xs.length*k.toNat<=sizeLine /\
 ∀p,H p=none->Q (.ref p) (upd H p (.lst (List.replicate k.toNat xs).flatten))
theorem z8j{α:Type}(xs:List α)(k:Nat):(List.replicate k xs).flatten.length=k*xs.length:=by simp_all
theorem op_rep:OpR X (binaryOp .Mult) rRep:=by
 intro pins s σ H x y v u Q I rx ry h;obtain⟨l,k,xs,rfl,rfl,hH,h1,h2,hz,q⟩:=h;cases rx;obtain⟨t,rfl⟩:=ry;obtain⟨z,its,n,r,hl,e⟩:=I.lstM hH;have hlen:its.toArray.size*k.toNat<=sizeLine:=by simp_all
 have hcap:¬its.toArray.size*k.toNat>(2^63-1) / 8:=by
  have:(sizeLine:Nat)<=(2^63-1) / 8:=by decide
  lia
 have hfit:¬(!Builtin.List.listFitsIndex k)=true:=by
  rw[fitsIndex_both h1 h2];exact Bool.false_ne_true
 have hlong:¬Builtin.List.listTooLong (its.toArray.size*k.toNat)=true:=by
  rw[notLongL hlen];exact Bool.false_ne_true
 have hnew:List.foldl (fun x1 x2=>x1++x2) #[] (List.replicate (if its.toArray.isEmpty=true then 0 else k.toNat) its.toArray)=(List.replicate k.toNat its).flatten.toArray:=by
  have f0:∀m:Nat,List.foldl (fun x1 x2=>x1++x2) #[] (List.replicate m its.toArray)=(List.replicate m its).flatten.toArray:=fun m=>by
   have:=q8a its m [];exact this
  cases its with
  |nil=>simp
  |cons a r'=>grind
 refine wpAny_binaryOp_repeat_ref (by decide) ⟨_,e,rfl⟩ (fun s'=>typeIs_int s' k t) noFill_list_mul F.fills_int_mul F.slot_int_rmul repeat_list F.slot_int_index.lookup
  (call_meets F.slot_int_rmul (typeIs_int s k t) F.entry_int_rmul (F.args_int_rmul_2 _ _) (int___rmul___int_list k t l its.toArray n)
   ⟨e,rfl,⟨_,e,rfl⟩,call_meets F.slot_list_mul ⟨_,e,rfl⟩ F.entry_list_mul (F.args_list_mul_2 _ _) (AutoListH.list___mul___list_int_3 l its.toArray n k t hfit hcap hlong) ⟨e,?_⟩⟩)
 rw[hnew];exact⟨.ref _,_,I.lnew (t':=s.toks) (r.rep k.toNat) (by rw[z8j,Nat.mul_comm];exact hz),rfl,q _ I.fresh⟩
end
end L2
namespace Att
open PySem PySem.W PySem.Calls PyProof.Rows
theorem q4y:∀(ns:List Int) (vs:List Value),WellAll P h vs (ns.map WData.int)->IntsAre vs ns:=by
 intro ns;induction ns with
 |nil =>
  intro vs w;cases w;exact .nil
 |cons n ns ih =>
  intro vs w;cases w with
  |cons a b =>
   cases a;exact .cons _ _ (ih _ b)
theorem z3j{l:OpenLaw}(hn:l.most=some n)(hpre:l.row.toRowW.claim.pre args=true)(hwl:WellAll P h vals args):
  ∃a vs ns,vals=[Value.ref a]/\args=[WData.list (ns.map WData.int)]/\h.get? a=some { cls:=.type "list",data:=.seq vs.toArray }/\IntsAre vs ns/\ns.length<=n:=by
 have hsh:=(pre_splitW hpre).1;have hc:l.pre.holds [] { args:=args }=true:=(pre_splitW hpre).2;obtain⟨d,r,rfl,h1,h2⟩:=hasAllW_cons hsh;obtain rfl:=hasAllW_nil h2;obtain⟨xs,rfl,h3⟩:=hasW_list h1;obtain⟨ns,rfl⟩:=items_int h3;have hlen:ns.length<=n:=by
  have h4:(WTm.not (.lt (.lit (.int (n:Int))) (.len (.arg 0)))).holds [] { args:=[.list (ns.map .int)] }=true:=by
   have h4:=(holds_andW hc).1;rw[hn] at h4;exact h4
  have h5:=condW_of h4 (w_not (w_lt w_lit (w_len_list (w_arg rfl))));first
   |(rw[decide_eq_true q'] at h5;exact absurd h5 (by decide))
   |(simp at h5;lia)
 cases hwl with
 |cons w1 w2 =>
  cases w2;cases w1 with
  |list ho hall=>exact⟨_,_,ns,rfl,rfl,ho,q4y ns _ hall,hlen⟩
theorem z3k(l:OpenLaw)(args:List WData):l.row.toRowW.claim.post args (.bool true) args=true :=
 postW_of
  (show WShape.has [] (.bool true) .bool=true by first|rfl|decide|simp[WShape.has,WShape.arms,WShape.armsAll])
  (show(WTm.eq .res (.lit (.bool true))).value [] { args:=args,res:=some (.bool true),after:=args }=some (.bool (true==true)) from w_eq_bool (w_res rfl) w_lit) rfl
theorem attach_call{l:OpenLaw}(hn:l.most=some n)(hdf:d.params.defaults=[])(call:∀(w:World) (s₀ s₁:Shared) (mg mb:Str->Option Value) (fa:Addr) (o:Obj) (pm cd doc:Value) (a:Addr) (vs:List Value) (ns:List Int),
   Ground q loose [] XP w s₀ mg mb s₁.heap->YP w s₁.heap ->
   s₁.heap.get? fa=some o->o.data=.func (docDef d.name d.params d.body d.scope pm cd doc)->s₁.heap.CodeRec cd d.name->mg d.name=some (.ref fa) ->
   s₁.heap.get? a=some { cls:=.type "list",data:=.seq vs.toArray }->IntsAre vs ns->ns.length<=n->s₁.gens=#[] ->
   codeAny (model l.prog w) callerA (.call (.ref fa) ⟨[.ref a],[]⟩) (fun r s'=>r=.ok (.ret (.bool true))/\OldK s₁.heap s'.heap/\s'.os=s₁.os/\AllBare s'.gens) s₁):
  WalkO q loose XP YP l.row.toRowW d [] (fun f vs=>PySem.call f vs):=by
 intro w s₀ s₁ mg mb G Y fa o pm cd doc dV kV ho hd hcd hD hmg hg args vals as hpre hlay hrd hwl hlo;obtain rfl:dV=.none:=Dflts.none hD hdf;obtain rfl:kV=.none:=Dflts.noKw hD;obtain⟨a,vs,ns,rfl,rfl,hobj,hints,hlen⟩:=z3j hn hpre hwl;refine enter_call (codeAny_mono (call w s₀ s₁ mg mb fa o pm cd doc a vs ns G Y ho (fd_plain hd) hcd hmg hobj hints hlen hg) fun r s' hq=>?_);obtain⟨rfl,h2,h3,h4⟩:=hq;exact⟨.inl ⟨.bool true,.bool true,[],rfl,fun _=>rfl,.bool true,z3k l _,fun _=>⟨List.Pairwise.nil,fun _ hm=>(nomatch hm)⟩⟩,h2,h3,h4⟩
end Att
namespace L2
open PySem PySem.Spec PyProof.Rows
theorem q8b:∀{vs:List Value} {ns:List Int},IntsAre vs ns->Vals (ns.map V.int) vs
 |_,_,.nil=>.nil
 |_,_,.cons n t h=>.cons ⟨t,rfl⟩ (q8b h)
def Only(H:Hp):Prop:=∀b,H b=none\/∃o xs,H b=some (.frz o (.lst xs))
theorem z5t{K:W.Frag}(KX:K.In s₁.heap)(hns:s₁.heap.Ns mainGlobals mg)(hb:s₁.heap.Ns builtinsNs mb)(hbb:∀x:Str,x ≠ "__name__" -> mb x=bootBuiltins x)(hlim:s₁.heap.NoLimit)(hg:s₁.gens=#[])(ha:s₁.heap.get? a=some { cls:=.type "list",data:=.seq vs.toArray })(hi:IntsAre vs ns)(hl:ns.length<=sizeLine)(hr:Room k callerA)(F:∀base:Heap,K.In base->base.Ns mainGlobals mg->FnOk P w K mg base CX k fa fd [x] sp)(hbind:∀(s:Shared) (u:Value),BindsTo s fd ⟨[u],[]⟩ [(x,u)])(hsp:∀H:Hp,Only H->SqL K H a (ns.map V.int)->sp [.ref a] H (fun v _=>v=.bl true) fun _ _ _=>False)(hCX:∀H e s',CX [] H s₁ (fun _ _ _=>False) e s'->False):
  codeAny (model P w) callerA (.call (.ref fa) ⟨[.ref a],[]⟩) (fun r s'=>r=.ok (.ret (.bool true))/\OldK s₁.heap s'.heap/\s'.os=s₁.os/\AllBare s'.gens) s₁:=by
 have rv:=q8b hi;have lenV:=hi.length;have core:∀H:Hp,Only H->SqL K H a (ns.map V.int)->HOk P w H s₁.heap->(∀b,H b≠none->b=a)->(H a≠none->K.lookup a=none) ->
   codeAny (model P w) callerA (.call (.ref fa) ⟨[.ref a],[]⟩) (fun r s'=>r=.ok (.ret (.bool true))/\OldK s₁.heap s'.heap/\s'.os=s₁.os/\AllBare s'.gens) s₁:=by
  intro H hO hS hok hA hK;have base_of:∀{b:Addr} {o:Obj},s₁.heap.get? b=some o->H b=none->(hidT s₁.heap H).get? b=some o:=fun e n=>z5g e n;have noA:∀{b:Addr} {o:Obj} {es:Array DictEntry} {ep:Nat},s₁.heap.get? b=some o->o.data=.dict es ep->H b=none:=fun{b o es ep} e d=>by
   cases q:H b with
   |none=>rfl
   |some u =>
    have e':=hA b (by rw[q];simp);subst e';rw[ha] at e;cases e;have d':=d;cases d'
  have nsK:∀{b:Addr} {m:Str->Option Value},s₁.heap.Ns b m->(hidT s₁.heap H).Ns b m:=fun{b m} ⟨o,es,ep,e,d,r⟩=>⟨o,es,ep,base_of e (noA e d),d,r⟩
  have hKb:=fun b o e=>base_of (KX b o e) (by
   cases q:H b with
   |none=>rfl
   |some u =>
    have e':=hA b (by rw[q];simp);subst e';rw[hK (by rw[q];simp)] at e;cases e)
  have hM:Mod K mg (hidT s₁.heap H):=⟨hKb,nsK hns,⟨mb,nsK hb,hbb⟩,let ⟨mc,h1,h2⟩:=hlim;⟨mc,nsK h1,h2⟩⟩
  have e0:Env0 P w K mg (hidT s₁.heap H) callerA [] s₁ H:=⟨rfl,hM,fun b o e=>z8c e,Nat.le_of_eq (z2r _ _),trivial,fun b hb=>absurd (show b∈([]:List Addr) from hb) (by simp),hok,.of_eq hg⟩
  refine codeAny_mono ((F _ hKb (nsK hns)).run callerA [] s₁ H ⟨[.ref a],[]⟩ [.ref a] [.ref a] _ _ hr e0 (hbind s₁ (.ref a)) (.cons rfl .nil) (hsp H hO hS)) fun r s' h=>?_;cases r with
  |error e=>exact(hCX H e s' h).elim
  |ok fl =>
   cases fl with
   |next=>exact False.elim h
   |brk=>exact False.elim h
   |cont=>exact False.elim h
   |ret u =>
    obtain⟨v,H',os,bare,un,hok',r',q⟩:=h;have q':=q;subst q';obtain rfl:u=Value.bool true:=r';refine⟨rfl,OldK.of_keep fun b o e=>?_,os,bare⟩;cases q:H b with
    |none=>exact un.keep b o e q (by intro z;exact absurd (show b∈([]:List Addr) from z) (by simp)) (by simp)
    |some u =>
     rcases hO b with z|⟨ob,xs,z⟩
     ·grind
     ·have z2:=un.frzs b ob _ z;obtain⟨e1,_⟩:=hok b _ z;obtain⟨e2,_⟩:=hok' b _ z2;rw[e] at e1;cases e1;exact e2
 cases hk:K.lookup a with
 |some o =>
  have e:=KX a o hk;rw[ha] at e;cases e;refine core (fun _=>none) (fun _=>.inl rfl) (.inr ⟨_,vs.toArray,_,hk,rfl,rfl,rfl,by rw[List.size_toArray,lenV];exact hl,by simpa using rv⟩) (fun b u z=>by have z':(none:Option HO)=some u:=z;cases z') (fun b z=>absurd rfl z) fun z=>absurd rfl z
 |none =>
  refine core (fun b=>if b=a then some (.frz { cls:=.type "list",data:=.seq vs.toArray } (.lst (ns.map V.int))) else none) (fun b=>?_) (.inl (.inr ⟨{ cls:=.type "list",data:=.seq vs.toArray },if_pos rfl⟩)) (fun b u z=>?_) (fun b z=>?_) fun _=>hk
  ·by_cases hb:b=a
   ·simp_all
   ·simp_all
  ·by_cases hb:b=a
   ·have z':=(if_pos hb).symm.trans z;cases z';subst hb;exact⟨ha,by rw[List.length_map];exact hl,vs,_,rv,ha⟩
   ·grind
  ·grind
theorem walk_of{l:W.OpenLaw}{K:Params->W.Frag}{CX:World->CXT}{sp:World->Sp}(hn:l.most=some n)(hn2:n<=sizeLine)(hdf:d.params.defaults=[])(hr:Room k callerA)(hY:∀(w:World) (h:Heap),YP w h->(K w.params).In h)(F:∀(w:World) (mg:Str->Option Value) (fa:Addr) (h:Heap),(K w.params).In h->h.Ns mainGlobals mg->mg d.name=some (.ref fa) ->
   ∃fd:FuncData,(∀(s:Shared) (u:Value),BindsTo s fd ⟨[u],[]⟩ [(x,u)]) /\
    ∀base:Heap,(K w.params).In base->base.Ns mainGlobals mg->FnOk l.prog w (K w.params) mg base (CX w) k fa fd [x] (sp w))(hsp:∀(w:World) (H:Hp) (a:Addr) (ns:List Int),ns.length<=n->Only H->SqL (K w.params) H a (ns.map V.int)->sp w [.ref a] H (fun v _=>v=.bl true) fun _ _ _=>False)(hCX:∀(w:World) (H:Hp) (s:Shared) (e:Value) (s':Shared),CX w [] H s (fun _ _ _=>False) e s'->False):
  W.WalkO q loose XP YP l.row.toRowW d [] (fun f vs=>PySem.call f vs):=by
 refine Att.attach_call hn hdf fun w s₀ s₁ mg mb fa o pm cd doc a vs ns G Y ho hd hcd hmg hobj hints hlen hg=>?_;have KX:=hY w _ Y;obtain⟨fd,hb,hF⟩:=F w mg fa _ KX G.T.g hmg;exact z5t KX G.T.g G.T.b G.T.builtins G.T.nolimit hg hobj hints (Nat.le_trans hlen hn2) hr hF hb (fun H hO hS=>hsp w H a ns hlen hO hS) fun H e s'=>hCX w H s₁ e s'
def inClass(s:Stmt)(j:Nat):Stmt:=match s with
 |.ClassDef _ _ _ body _ _ _ _ _ _ _=>body.getD j (.Pass ⟨0,0,0,0⟩)
 |_=>.Pass ⟨0,0,0,0⟩
def defArgs(s:Stmt):Arguments:=match s with
 |.FunctionDef _ a _ _ _ _ _ _ _ _=>a
 |_=>{ posonlyargs:=[],args:=[],vararg:=none,kwonlyargs:=[],kw_defaults:=[],kwarg:=none,defaults:=[] }
def defBody(s:Stmt):List Stmt:=match s with
 |.FunctionDef _ _ b _ _ _ _ _ _ _=>b
 |_=>[]
def defScope(s:Stmt):Scope:=match s with
 |.FunctionDef _ _ _ _ _ _ sc _ _ _=>sc
 |_=>{ kind:=.function,names:=[],isGenerator:=false,isCoroutine:=false }
abbrev CX0:CXT:=fun _ _ _ _ _ _=>False
abbrev E0:XK:=fun _ _ _=>False
theorem pass0:Passes CX0 X E0:=fun _ _ _ _ _ _ _ h=>h.elim
structure Fun (K:W.Frag) (x qual:Str) (st:Stmt) (f:Addr) (fd:FuncData):Prop where
 ex:∃(oc:Value) (od:Option Addr) (kV doc pm:Value) (an:Option Addr) (cdv ct:Value) (osl:Array (Option Value)),
  fd=W.fnOf x qual (defArgs st) (defBody st) (defScope st) .none kV doc pm an cdv ct/\K.lookup f=some ⟨oc,od,.func fd,osl⟩/\W.codeIn K cdv qual=true
 kp:W.keepIn K (.ref f)=true
section
variable{P:Program}{w:World}{K:W.Frag}{mg:Str->Option Value}{base:Heap}
theorem Fun.ok{st:Stmt}(F:Fun K x qual st f fd)(S:FnScope N ps (defScope st))(len:∀vs H Q E,sp vs H Q E->vs.length=ps.length)(hbody:∀(cdv:Value) (A:Around) (outer:List Env) (s:Shared) (H:Hp) (vs:List V) (Q:VK) (E:XK),Room k (A.deeper (envOfC qual (defScope st) s.heap.objs.size f cdv))->sp vs H Q E ->
   ∃t,PSs (cxOf CX0 P w K mg base N qual (defScope st) f cdv A outer s H E).nox (defBody st) t/\t { nx:=fun _ H'=>Q .non H',rt:=Q } (start N vs) H):FnOk P w K mg base CX0 (k+1) f fd ps sp:=by
 obtain⟨oc,od,kV,doc,pm,an,cdv,ct,osl,rfl,lk,hcd⟩:=F.ex;refine fn_of lk hcd S len fun A outer s H vs Q E hr hsp=>?_
 obtain⟨t,h,q⟩:=hbody cdv A outer s H vs Q E hr hsp;exact⟨t,h.nox,q⟩
theorem Fun.binds{st:Stmt}(F:Fun K x qual st f fd)(h:∀(kV doc pm:Value) (an:Option Addr) (cdv ct:Value) (us:List Value),us.length=ps.length->bindArgs (W.fnOf x qual (defArgs st) (defBody st) (defScope st) .none kV doc pm an cdv ct) ⟨us,[]⟩=pure (ps.zip us)):Binds K fd ps []:=by
 obtain⟨oc,od,kV,doc,pm,an,cdv,ct,osl,rfl,lk,hcd⟩:=F.ex;exact .all (h kV doc pm an cdv ct)
theorem q8c{st:Stmt}{kV:Value}(l:K.lookup f=some ⟨oc,od,.func (W.fnOf x qual (defArgs st) (defBody st) (defScope st) .none kV doc pm an cdv ct),osl⟩)(c:W.codeIn K cdv qual=true)(k:W.keepIn K (.ref f)=true):Fun K x qual st f (W.fnOf x qual (defArgs st) (defBody st) (defScope st) .none kV doc pm an cdv ct):=⟨⟨oc,od,kV,doc,pm,an,cdv,ct,osl,rfl,l,c⟩,k⟩
end
theorem q1h(hr:Room k A):A.units+1<cLine:=Nat.lt_of_le_of_lt (Nat.add_le_add_left (by decide:1<=64) _) hr.units
section
variable{X:Cx}
theorem pv(i:Nat){x:Str}{pos:Pos}(hN:X.N[i]?=some x:=by rfl)(hv:Vis X.env.scope x:=by first|exact Or.inl rfl|exact Or.inr (Or.inl rfl)|exact Or.inr (Or.inr rfl))(hd:(x==("__debug__" : Str))=false:=by decide)(hcd:(x==("__classdict__" : Str))=false:=by decide):PE X (.Name x pos) (tVar i):=pe_var hN hv hd hcd
end
theorem iteF{B:Prop}(h:B):if false=true then A else B:=by
 exact h
theorem iteT{B:Prop}(h:A):if true=true then A else B:=by
 exact h
theorem ite2{B:Prop}[Decidable c](h1:c->A)(h2:¬c->B):if c then A else B:=by grind
def Same(H H':Hp):Prop:=∀b o,H b=some o->H' b=some o
theorem Same.refl(H:Hp):Same H H:=fun _ _ h=>h
theorem Same.trans(a:Same H H1)(b:Same H1 H2):Same H H2:=fun c o h=>b c o (a c o h)
theorem Same.free(e:Same H H')(h:H' l=Option.none):H l=Option.none:=by
 cases q:H l with
 |none=>rfl
 |some o =>
  rw[e l o q] at h;cases h
theorem Same.seq{K:W.Frag}(e:Same H H')(h:SqL K H a xs):SqL K H' a xs:=by
 rcases h with(h|⟨o,h⟩)|h
 ·exact .inl (.inl (e _ _ h))
 ·exact .inl (.inr ⟨o,e _ _ h⟩)
 ·exact .inr h
open PySem PySem.Spec PyProof.Rows
abbrev Caps:=List (Str×Nat)
def capV(σ:St):Caps->St
 |[]=>[]
 |(_,i)::r=>(σ[i]?).join::capV σ r
def CapOk(X:Cx)(scope:Scope):Caps->Prop
 |[]=>True
 |(x,i)::r=>(X.N[i]?=some x/\scope.names.lookup x=some .free/\(X.env.scope.names.lookup x=some .cell\/X.env.scope.names.lookup x=some .free))/\CapOk X scope r
def cxComp(X:Cx)(N:List Str)(scope:Scope)(cl:List (Str×Addr))(C:Addr)(fp:List Addr)(s:Shared)(H:Hp):Cx where
 prog:=X.prog
 w:=X.w
 K:=X.K
 mg:=X.mg
 base:=X.base
 A:=X.A
 N:=N
 s₀:=s
 H₀:=H
 env:=compEnvC scope cl C X.env
 outer:=X.stack
 stack:=X.stack
 ex:=fp
 fn:=fun _=>false
 calm:=X.calm
 pn:=[]
 xe:=fun _ _=>False
theorem z1v(names:List (Str×NameKind))(hh:∀x,(x,NameKind.free)∈names->∃c,env.cells.lookup x=some c):∀acc:List (Str×Addr),
  ∃cl,(forIn names acc (fun(x:Str×NameKind) (r:List (Str×Addr))=>match x with
   |(name,kind)=>if (kind==NameKind.free)=true then do let a<-cellOf env name;pure (ForInStep.yield ((name,a)::r)) else pure (ForInStep.yield r)):Sem (List (Str×Addr)))=pure cl /\
   (∀x c,(x,c)∈cl->(x,c)∈acc\/env.cells.lookup x=some c)/\(∀x,((x,NameKind.free)∈names\/∃c,(x,c)∈acc)->∃c,(x,c)∈cl):=by
 induction names with
 |nil=>intro acc;exact⟨acc,rfl,fun x c h=>.inl h,fun x h=>h.elim (fun z=>nomatch z) id⟩
 |cons n r ih =>
  intro acc;obtain⟨name,kind⟩:=n;by_cases hk:kind=NameKind.free
  ·subst hk;obtain⟨c,hc⟩:=hh name List.mem_cons_self;obtain⟨cl,e,h1,h2⟩:=ih (fun x hx=>hh x (List.mem_cons_of_mem _ hx)) ((name,c)::acc);refine⟨cl,?_,fun x d hd=>?_,fun x hx=>?_⟩
   ·rw[List.forIn_cons];have:cellOf env name=pure c:=by unfold cellOf;rw[hc]
    simp only[beq_self_eq_true,if_true,this];exact e
   ·rcases h1 x d hd with z|z
    ·rcases List.mem_cons.mp z with z|z
     ·cases z;exact .inr hc
     ·exact .inl z
    ·exact .inr z
   ·refine h2 x ?_;rcases hx with hx|⟨d,hd⟩
    ·rcases List.mem_cons.mp hx with z|z
     ·simp_all
     ·exact .inl z
    ·grind
  ·obtain⟨cl,e,h1,h2⟩:=ih (fun x hx=>hh x (List.mem_cons_of_mem _ hx)) acc;refine⟨cl,?_,h1,fun x hx=>h2 x ?_⟩
   ·simp_all
   ·grind
theorem q6t{cl:List (Str×Addr)}(h:(x,c)∈cl):∃d,cl.lookup x=some d:=by
 induction cl with
 |nil=>cases h
 |cons y r ih =>
  obtain⟨n,a⟩:=y;cases e:x==n with
  |true=>simp_all
  |false =>
   rcases List.mem_cons.mp h with z|z
   ·cases z;simp at e
   ·obtain⟨d,hd⟩:=ih z;exact⟨d,by simp only[List.lookup_cons,e];exact hd⟩
theorem z1w(hh:∀x,(x,NameKind.free)∈scope.names->∃c,env.cells.lookup x=some c):
  ∃cl,closureFor scope env=pure cl/\(∀x c,cl.lookup x=some c->env.cells.lookup x=some c)/\∀x,(x,NameKind.free)∈scope.names->∃c,cl.lookup x=some c:=by
 obtain⟨cl,e,h1,h2⟩:=z1v scope.names hh [];refine⟨cl,?_,fun x c h=>?_,fun x hx=>?_⟩
 ·unfold closureFor;have e2:=congrArg (fun m:Sem (List (Str×Addr))=>m >>= fun cs=>(pure cs:Sem _)) e;exact e2
 ·rcases h1 x c (PySem.mem_of_lookup h) with z|z
  ·cases z
  ·exact z
 ·obtain⟨c,hc⟩:=h2 x (.inl hx);exact q6t hc
theorem q3m{env:Env}{k:NameKind}(hk:k=.cell\/k=.free):∀{names:List (Str×NameKind)} {x:Str},(∀y∈names,y.2≠.cell) ->
  (names.map fun(n,k)=>if (k==NameKind.free&&env.scope.kind==.function&&env.kindOf n==some .cell) then(n,NameKind.cell) else(n,k)).lookup x=some k->(x,NameKind.free)∈names
 |[],_,_,h=>by simp at h
 |(n,k')::r,x,hc,h=>by
  have ih:=@q3m env k hk r x fun y hy=>hc y (List.mem_cons_of_mem _ hy);by_cases c:(k'==NameKind.free&&env.scope.kind==.function&&env.kindOf n==some .cell)=true
  ·have h':((n,NameKind.cell)::r.map fun(n,k)=>if (k==NameKind.free&&env.scope.kind==.function&&env.kindOf n==some .cell) then(n,NameKind.cell) else(n,k)).lookup x=some k:=by
    have e:(if (k'==NameKind.free&&env.scope.kind==.function&&env.kindOf n==some .cell)=true then(n,NameKind.cell) else(n,k'))=(n,NameKind.cell):=if_pos c;rw[<- e];exact h
   cases e:x==n with
   |true =>simp_all
   |false=>exact List.mem_cons_of_mem _ (ih (by simp only[List.lookup_cons,e] at h';exact h'))
  ·have h':((n,k')::r.map fun(n,k)=>if (k==NameKind.free&&env.scope.kind==.function&&env.kindOf n==some .cell) then(n,NameKind.cell) else(n,k)).lookup x=some k:=by
    have e:(if (k'==NameKind.free&&env.scope.kind==.function&&env.kindOf n==some .cell)=true then(n,NameKind.cell) else(n,k'))=(n,k'):=if_neg c;rw[<- e];exact h
   cases e:x==n with
   |true =>simp_all
   |false=>exact List.mem_cons_of_mem _ (ih (by simp only[List.lookup_cons,e] at h';exact h'))
theorem q4g{env:Env}:∀{names:List (Str×NameKind)} {x:Str},names.lookup x=some .free ->
    ((names.map fun(n,k)=>if (k==NameKind.free&&env.scope.kind==.function&&env.kindOf n==some .cell) then(n,NameKind.cell) else(n,k)).lookup x=some .cell \/
     (names.map fun(n,k)=>if (k==NameKind.free&&env.scope.kind==.function&&env.kindOf n==some .cell) then(n,NameKind.cell) else(n,k)).lookup x=some .free)
  |[],_,h=>by simp at h
  |(n,k')::r,x,h=>by
    have ih:=@q4g env r x;by_cases c:(k'==NameKind.free&&env.scope.kind==.function&&env.kindOf n==some .cell)=true
    · have e:(if (k'==NameKind.free&&env.scope.kind==.function&&env.kindOf n==some .cell)=true then(n,NameKind.cell) else(n,k'))=(n,NameKind.cell):=if_pos c;show(List.lookup x ((if (k'==NameKind.free&&env.scope.kind==.function&&env.kindOf n==some .cell)=true then(n,NameKind.cell) else(n,k'))::_)=_\/List.lookup x ((if (k'==NameKind.free&&env.scope.kind==.function&&env.kindOf n==some .cell)=true then(n,NameKind.cell) else(n,k'))::_)=_);rw[e];cases ex:x==n with
      |true=>simp_all
      |false =>
        simp only[List.lookup_cons,ex] at h ⊢;exact ih h
    · have e:(if (k'==NameKind.free&&env.scope.kind==.function&&env.kindOf n==some .cell)=true then(n,NameKind.cell) else(n,k'))=(n,k'):=if_neg c;show(List.lookup x ((if (k'==NameKind.free&&env.scope.kind==.function&&env.kindOf n==some .cell)=true then(n,NameKind.cell) else(n,k'))::_)=_\/List.lookup x ((if (k'==NameKind.free&&env.scope.kind==.function&&env.kindOf n==some .cell)=true then(n,NameKind.cell) else(n,k'))::_)=_);rw[e];cases ex:x==n with
      |true =>simp_all
      |false =>
        simp only[List.lookup_cons,ex] at h ⊢;exact ih h
theorem q4z(σ:St):∀caps:Caps,(capV σ caps).length=caps.length
 |[]=>rfl
 |(_,_)::r=>congrArg (· + 1) (q4z σ r)
theorem z0q:∀{caps:Caps} {j:Nat} {x:Str} {v:V},CapOk X scope caps->(caps.map (·.1))[j]?=some x->(capV σ caps)[j]?=some (some v) ->
  ∃i:Nat,X.N[i]?=some x/\σ[i]?=some (some v)/\scope.names.lookup x=some .free/\(X.env.scope.names.lookup x=some .cell\/X.env.scope.names.lookup x=some .free)
 |[],_,_,_,_,h,_=>by simp at h
 |(y,i)::r,0,x,v,hc,h1,h2=>by
  simp at h1;subst h1;have e:(σ[i]?).join=some v:=by simpa[capV] using h2
  refine⟨i,hc.1.1,?_,hc.1.2⟩;cases q:σ[i]? with
  |none=>rw[q] at e;cases e
  |some z=>simp_all
 |(y,i)::r,j+1,x,v,hc,h1,h2=>z0q hc.2 (by simpa using h1) (by simpa[capV] using h2)
def tg0(tg:List Str)(σ:St)(caps:Caps):St:=tg.map (fun _=>none)++capV σ caps
theorem Inv.ofcomp{σ:St}{C:Addr}(tg:List Str)(I:Inv X pins σ H s)(hkind:scope.kind=.function)(hnc:∀y∈scope.names,y.2≠.cell)(hc1:∀x c,cl.lookup x=some c->X.env.cells.lookup x=some c)(hc2:∀x,(x,NameKind.free)∈scope.names->∃c,cl.lookup x=some c)(hf:∀b∈fp,FpOk X pins H b)(hfo:∀b∈fp,∃o,s.heap.get? b=some o)(hC:s.heap.objs.size<=C)(hns:h₁.Ns C m)(hk:∀b o,s.heap.get? b=some o->h₁.get? b=some o)(co:CapOk X scope caps):
  Inv (cxComp X (tg++caps.map (·.1)) scope cl C fp s H) [] (tg0 tg σ caps) H { s with heap:=h₁,toks:=tk }:=by
 have hfs:∀b∈fp,b∉frs X.stack:=fun b hb hx=>by
  rcases List.mem_cons.mp (I.stkSub b hx) with z|z
  ·exact(hf b hb).2.1 z
  ·exact(hf b hb).2.2.1 z
 have ok:(cxComp X (tg++caps.map (·.1)) scope cl C fp s H).Ok:=by
  refine⟨I.ok.mod,hkind,I.ok.glob,I.ok.blt,hC,fun x y c h1 h2=>I.ok.inj x y c (hc1 x c h1) (hc1 y c h2),fun x hx=>?_,fun x c h=>(nomatch h),I.ok.hd,I.ok.frames,.inl rfl,fun b hb=>⟨?_,fun x c h=>(hf b hb).2.2.2.2.1 x c (hc1 x c h)⟩,
   I.bs,Nat.le_trans I.ok.bsz I.sz,fun b o e hb=>?_,hfs,I.stack,I.stkFree⟩
  ·rcases hx with hx|hx
   ·exact hc2 x (q3m (.inl rfl) hnc hx)
   ·exact hc2 x (q3m (.inr rfl) hnc hx)
  ·obtain⟨o,e⟩:=hfo b hb;exact Nat.ne_of_lt (Nat.lt_of_lt_of_le (Heap.lt_size e) hC)
  ·rcases(hf b hb).2.2.2.1 with z|z
   ·exact I.ok.noex b o e z
   ·exact absurd (Nat.lt_of_lt_of_le (Heap.lt_size (I.ok.bs b o e).1) z) (Nat.lt_irrefl _)
 refine⟨ok,rfl,I.bare,Un.kept hk,⟨m,hns,fun j x v h1 h2 h3=>?_⟩,fun x c h=>?_,I.hok.fresh hC,fun x c h=>I.freeC x c (hc1 x c h),fun p hp=>(nomatch hp),I.hok.kept hk,?_⟩
 ·have h1':(tg++caps.map (·.1))[j]?=some x:=h1;have h2':(tg.map (fun _=>none)++capV σ caps)[j]?=some (some v):=h2;by_cases hj:j<tg.length
  ·rw[List.getElem?_append_left (by simpa using hj),List.getElem?_map] at h2';cases e:tg[j]? with
   |none=>grind
   |some z=>simp_all
  ·rw[List.getElem?_append_right (by simpa using hj)] at h2' h1';rw[List.length_map] at h2';obtain⟨i,e1,e2,e3,e4⟩:=z0q co h1' h2';obtain⟨mX,hn,hl⟩:=I.loc;obtain⟨u,r,l⟩:=hl i x v e1 e2 (.inr e4);refine⟨u,r,?_⟩;have key:∃c,X.env.cells.lookup x=some c/\s.heap.IsCell c (some u):=by
    rcases l with⟨k,_⟩|⟨_,c,e,z⟩
    ·have k':X.env.scope.names.lookup x=some .local:=k;rcases e4 with e4|e4 <;> · rw[e4] at k';cases k'
    ·exact⟨c,e,z⟩
   obtain⟨c,ec,o,ho,hd⟩:=key;obtain⟨d,ed⟩:=hc2 x (PySem.mem_of_lookup e3);have hdc:=Option.some.inj ((hc1 x d ed).symm.trans ec);subst hdc;exact .inr ⟨q4g e3,d,ed,o,hk _ o ho,hd⟩
 ·obtain⟨v,o,ho,hd⟩:=I.cell x c (hc1 x c h);exact⟨v,o,hk _ o ho,hd⟩
 ·show(tg.map (fun _=>(none:Option V))++capV σ caps).length=(tg++caps.map (·.1)).length;rw[List.length_append,List.length_append,List.length_map,List.length_map,q4z]
def PIfs(X:Cx)(ifs:List Expr)(t:TT):Prop :=
 ∀(pins:List (Addr×Obj)) (s:Shared) (σ:St) (H:Hp) (Q:Bool->Hp->Prop),Inv X pins σ H s->t σ H Q ->
  wpAny (model X.prog X.w) X.A (forIn ifs true fun c r=>if r=true then do let ok<-isTrue c X.env (eval c X.env);pure (ForInStep.yield ok) else pure (ForInStep.yield r)) (TP X pins σ Q) X.xe s
def tIf0:TT:=fun _ H Q=>Q true H
theorem q4a:PIfs X [] tIf0:=fun pins s σ H Q I h=>wpAny_tests_nil ⟨H,I,h⟩
theorem q2x{X:Cx}{c:Expr}{t:TT}(h:PT X c t):PIfs X [c] t:=fun pins s σ H Q I q=>wpAny_tests_one (h pins s σ H Q I q)
def Keeps0(σ0 σ2:St):Prop:=σ0.length=σ2.length/\∀(i:Nat) v,σ0[i]?=some (some v)->σ2[i]?=some (some v)
def CompW(J:It)(g:TG)(tt:TT)(te:TE)(σ0:St)(D:Addr)(Fin:List V->Hp->Prop)(H1:Hp):Prop :=
 ∃W:Nat->Nat->List V->Hp->Prop,(∃m,W 0 m [] (upd H1 D (.lst [])))/\∀i m ys H,W i m ys H->H D=some (.lst ys) /\
  ((J.stop i H/\Fin ys H)\/(J.go i H/\∃N:List V->Hp->Prop,(∀zs H',N zs H'->∃m',m'<m/\W (i+1) m' zs H')/\∀x H',J.yld i H x H'->g x σ0 H' fun σ2 H2=>Keeps0 σ0 σ2/\tt σ2 H2 fun b H3 =>
   if b=true then te σ2 H3 fun v H4=>H4 D=some (.lst ys)/\ys.length<sizeLine/\N (ys++[v]) (upd H4 D (.lst (ys++[v])))
   else N ys H3))
theorem z0r{σ:St}{Fin:Addr->List V->Hp->Prop}{RR:Value->Addr->Result->Shared->Prop}(hc:X.calm=true)(hkind:scope.kind=.function)(hnc:∀y∈scope.names,y.2≠.cell)(hc1:∀x c,cl.lookup x=some c->X.env.cells.lookup x=some c)(hc2:∀x,(x,NameKind.free)∈scope.names->∃c,cl.lookup x=some c)(co:CapOk X scope caps)(hg:∀C s H,PG (cxComp X (tg++caps.map (·.1)) scope cl C fp s H) target g)(ht:∀C s H,PIfs (cxComp X (tg++caps.map (·.1)) scope cl C fp s H) ifs tt)(he:∀C s H,PE (cxComp X (tg++caps.map (·.1)) scope cl C fp s H) elt te)(I2:Inv X pins σ H1 s₂)(T:Turn X.prog X.w X.K target J fp it tn)(st:tn 0 s₂.heap)(hf:∀b∈fp,FpOk X pins H1 b)(hw:∀D,H1 D=none->CompW J g tt te (tg0 tg σ caps) D (Fin D) H1)(hRR:∀D C ys H' s',H1 D=none->Inv X pins σ H' s'->(∃m,s'.heap.Ns C m)->FpOk X pins H' C->Fin D ys H'->RR (.ref D) C (.ok .next) s'):
  wpAny (model X.prog X.w) X.A (newList []) (fun acc s₃=>wpAny (model X.prog X.w) X.A (newFunctionEnv scope X.env.globals cl [] X.env.qual none .none (some X.env)) (fun cenv s₄ =>
   codeAny (model X.prog X.w) X.A (.compStart (.ListComp elt [⟨target,iter,ifs,0⟩] scope pos) 0 (.ref it) acc { cenv with scope:=relabel scope X.env }) (RR acc cenv.locals) s₄) E s₃) E s₂:=by
 have I3:Inv X pins σ (upd H1 s₂.heap.objs.size (.lst [])) { s₂ with heap:=s₂.heap.push { cls:=.type "list",dict:=none,data:=.seq ([]:List Value).toArray },toks:=s₂.toks }:=I2.lnew .nil (Nat.zero_le _);have hD0:=I2.fresh;refine wpAny_newObj_type (wpAny_newFunctionEnv hnc (by intro y hy;simp at hy) (fun h₁ hns₁ hsb₁=>?_) hkind);dsimp only at hns₁ hsb₁ ⊢;generalize hDd:s₂.heap.objs.size=D at I3 hD0 hns₁ hsb₁ ⊢;generalize hs3:({ s₂ with heap:=s₂.heap.push { cls:=.type "list",dict:=none,data:=.seq ([]:List Value).toArray } }:Shared)=s₃ at I3 hns₁ hsb₁ ⊢;have e3:s₂.heap.push { cls:=.type "list",dict:=none,data:=.seq ([]:List Value).toArray }=s₃.heap:=by grind
 have o3:({ s₂ with heap:=h₁,toks:=s₂.toks+([]:List (Str×Value)).length }:Shared)={ s₃ with heap:=h₁,toks:=s₂.toks }:=by grind
 have size3:s₃.heap.objs.size=D+1:=by rw[<- e3,Heap.size_push,hDd]
 rw[e3] at hns₁ hsb₁ ⊢;have old3:∀b o,s₂.heap.get? b=some o->s₃.heap.get? b=some o:=fun b o e=>by rw[<- e3];exact Heap.get?_push_of_some _ e
 generalize hCd:s₃.heap.objs.size=C at hns₁ hsb₁ ⊢;have hk:=fun b o e=>hsb₁.extBut b o (by rw[<- hCd];exact Nat.ne_of_lt (Heap.lt_size e)) (Heap.get?_push_of_some _ e);have fpo:∀b∈fp,∃o,s₂.heap.get? b=some o:=fun b hb=>by obtain⟨o,e,_⟩:=T.obj 0 _ st b hb;exact⟨o,e⟩
 have fpne:∀b∈fp,b≠D:=fun b hb=>by obtain⟨o,e⟩:=fpo b hb;rw[<- hDd];exact Nat.ne_of_lt (Heap.lt_size e)
 have hf3:∀b∈fp,FpOk X pins (upd H1 D (.lst [])) b:=fun b hb=>⟨by rw[q0c (fpne b hb)];exact(hf b hb).1,(hf b hb).2⟩
 have IY:=Inv.ofcomp (tk:=s₂.toks) tg I3 hkind hnc hc1 hc2 hf3 (fun b hb=>let ⟨o,e⟩:=fpo b hb;⟨o,old3 b o e⟩) (Nat.le_of_eq hCd) hns₁ hk co;have FC:FpOk X pins H1 C:=by
  have z:=I3.fpOk (H':=H1) (Nat.le_of_eq hCd) (I2.hok.fresh (by rw[hDd,<- hCd,size3];exact Nat.le_succ _));exact z
 generalize hY:cxComp X (tg++caps.map (·.1)) scope cl C fp s₃ (upd H1 D (.lst []))=Y at IY;have hgY:PG Y target g:=by grind
 have htY:PIfs Y ifs tt:=by grind
 have heY:PE Y elt te:=by grind
 have hYp:Y.prog=X.prog:=by rw[<- hY];rfl
 have hYw:Y.w=X.w:=by rw[<- hY];rfl
 have hYK:Y.K=X.K:=by rw[<- hY];rfl
 have hYA:Y.A=X.A:=by rw[<- hY];rfl
 have hYe:Y.env=compEnvC scope cl C X.env:=by rw[<- hY];rfl
 have hYx:Y.ex=fp:=by rw[<- hY];rfl
 have hYn:Y.pn=[]:=by rw[<- hY];rfl
 have hYc:Y.calm=true:=by rw[<- hY];exact hc
 have hYxe:Y.xe=fun _ _=>False:=by rw[<- hY];rfl
 have fpY:∀{H':Hp},(∀b∈fp,H' b=none)->∀b∈fp,FpOk Y [] H' b:=fun{H'} hn b hb=>by
  refine⟨hn b hb,?_,?_,.inl (by rw[hYx];exact hb),fun x c e=>?_,fun p hp=>?_⟩
  ·have:=(IY.ok.exf b (by rw[hYx];exact hb)).1;exact this
  ·exact IY.ok.exfs b (by rw[hYx];exact hb)
  ·exact(IY.ok.exf b (by rw[hYx];exact hb)).2 x c e
  ·grind
 obtain⟨W,⟨m0,w0⟩,turn⟩:=hw D hD0;have stY:=T.keep 0 _ _ st fun b hb o e=>hk b o (old3 b o e)
 have back:∀{H':Hp} {s':Shared} {σ':St},Inv Y [] σ' H' s'->Inv X pins σ H' s':=fun{H' s' σ'} IE=>by
  have hun:=IE.base;have hos:=IE.os;rw[<- hY] at hun hos;exact I3.call' hos hun (by have z:=IE.hok;rw[hYp,hYw] at z;exact z) IE.bare fun b hb=>⟨(hf b hb).2.2.2.1,(hf b hb).2.1,(hf b hb).2.2.2.2.1,(hf b hb).2.2.2.2.2⟩
 have gY:∀pins s σ H v u Q (E':Value->Shared->Prop),Inv Y pins σ H s->RelV v u->g v σ H Q->wpAny (model X.prog X.w) X.A (assign target (compEnvC scope cl C X.env) u) (fun _ s'=>∃σ' H',Inv Y pins σ' H' s'/\Q σ' H') E' s:=fun pins s σ H v u Q E' IE r q=>by
  have z:=hgY pins s σ H v u Q IE r q;rw[hYp,hYw,hYA,hYe,hYxe] at z;exact wpAny_mono z (fun _ _ x=>x) fun _ _ f=>f.elim
 have tY:∀pins s σ H Q (E':Value->Shared->Prop),Inv Y pins σ H s->tt σ H Q->wpAny (model X.prog X.w) X.A (forIn ifs true fun c r=>if r=true then do let ok<-isTrue c (compEnvC scope cl C X.env) (eval c (compEnvC scope cl C X.env));pure (ForInStep.yield ok) else pure (ForInStep.yield r)) (TP Y pins σ Q) E' s:=fun pins s σ H Q E' IE q=>by
  have z:=htY pins s σ H Q IE q;rw[hYp,hYw,hYA,hYe,hYxe] at z;exact wpAny_mono z (fun _ _ x=>x) fun _ _ f=>f.elim
 have eY:∀pins s σ H Q (E':Value->Shared->Prop),Inv Y pins σ H s->te σ H Q->wpAny (model X.prog X.w) X.A (eval elt (compEnvC scope cl C X.env)) (EP Y pins σ Q) E' s:=fun pins s σ H Q E' IE q=>by
  have z:=heY pins s σ H Q IE q;rw[hYp,hYw,hYA,hYe,hYxe] at z;exact wpAny_mono z (fun _ _ x=>x) fun _ _ f=>f.elim
 have aY:∀pins s σ H ys v u Q (E':Value->Shared->Prop),Inv Y pins σ H s->RelV v u->H D=some (.lst ys)->ys.length<sizeLine->Q .non (upd H D (.lst (ys++[v])))->wpAny (model X.prog X.w) X.A (call (.builtin "list.append") [.ref D,u]) (EP Y pins σ Q) E' s:=fun pins s σ H ys v u Q E' IE r hH hz q=>by
  have z:=q1y pins s σ H (.ref D) [v] (.ref D) [u] Q IE rfl (.cons r .nil) ⟨D,ys,v,rfl,rfl,hH,hz,q⟩;rw[hYp,hYw,hYA,hYxe] at z;exact wpAny_mono z (fun _ _ x=>x) fun _ _ f=>f.elim
 have tiY:∀i pins s σ H (E':Value->Shared->Prop),Inv Y pins σ H s->(∀b∈fp,FpOk Y pins H b)->tn i s.heap->J.go i H ->
   wpAny (model X.prog X.w) X.A (pyNext (.ref it)) (fun r s1=>∃u,r=some u /\
    wpAny (model X.prog X.w) X.A (letOwnedTupleGo target (.ref it) u) (fun _ s2=>∃x H',Inv Y pins σ H' s2/\RelV x u/\J.yld i H x H'/\tn (i+1) s2.heap/\∀b∈fp,H' b=none) E' s1) E' s:=fun i pins s σ H E' IE hfy st go=>by
  have z:=T.item Y hYp hYw hYK hYc i pins s σ H E' IE hfy st go;rw[hYA] at z;exact z
 have tdY:∀i pins s σ H (E':Value->Shared->Prop),Inv Y pins σ H s->(∀b∈fp,FpOk Y pins H b)->tn i s.heap->J.stop i H ->
   wpAny (model X.prog X.w) X.A (pyNext (.ref it)) (fun r s1=>r=none/\Inv Y pins σ H s1) E' s:=fun i pins s σ H E' IE hfy st go=>by
  have z:=T.done Y hYp hYw hYK hYc i pins s σ H E' IE hfy st go;rw[hYA] at z;exact z
 have loop:codeAny (model X.prog X.w) X.A (.compLoop (.ListComp elt [⟨target,iter,ifs,0⟩] scope pos) 0 (.ref it) (.ref D) (compEnvC scope cl C X.env)) (RR (.ref D) C) { s₃ with heap:=h₁,toks:=s₂.toks }:=by
  refine codeAny_loop rfl (fun n s'=>∃i ys H',Inv Y [] (tg0 tg σ caps) H' s'/\tn i s'.heap/\(∀b∈fp,H' b=none)/\W i n ys H') ?_ m0 ⟨0,[],_,IY,stY,fun b hb=>(hf3 b hb).1,w0⟩;rintro n s4 ⟨i,ys,H4,I4,st4,fr4,w4⟩;refine wpAny_noted ?_;obtain⟨hHD,alt⟩:=turn i n ys H4 w4;rcases alt with⟨stop,fin⟩|⟨go,N,hN,step⟩
  ·refine wpAny_bind (wpAny_standAt (wpAny_bind (thn (tdY i [] s4 _ H4 _ I4 (fpY fr4) st4 stop) fun r s5 ⟨hr,I5⟩=>?_)));subst hr;refine wpAny_pure (hRR D C ys H4 s5 hD0 (back I5) ?_ ⟨?_,FC.2⟩ fin)
   ·obtain⟨m,hm,_⟩:=I5.loc;rw[hYe] at hm;exact⟨m,hm⟩
   ·have z:=I5.free;rw[hYe] at z;exact z
  ·refine wpAny_bind (wpAny_standAt (wpAny_bind (thn (tiY i [] s4 _ H4 _ I4 (fpY fr4) st4 go) fun r s5 ⟨u,hr,h5⟩=>?_)));subst hr;refine wpAny_bind (thn h5 fun _ s6 ⟨x,H6,I6,r6,y6,st6,fr6⟩=>?_);have I6':=I6.pinned (fpY fr6) (T.obj _ _ st6);refine wpAny_bind (thn (gY _ s6 _ H6 x u _ _ I6' r6 (step x H6 y6)) fun _ s7 ⟨σ7,H7,I7,kp,q7⟩=>?_);refine wpAny_bind (thn (tY _ s7 σ7 H7 _ _ I7 q7) fun b s8 ⟨H8,I8,q8⟩=>?_);have again:∀{H9:Hp} {s9:Shared} {zs:List V} {m':Nat},Inv Y ([]++pinsAt fp s6.heap) σ7 H9 s9->m'<n->W (i+1) m' zs H9->∃m,m<n/\∃i ys H',Inv Y [] (tg0 tg σ caps) H' s9/\tn i s9.heap/\(∀b∈fp,H' b=none)/\W i m ys H':=fun{H9 s9 zs m'} I9 hm w9=>by
    refine⟨m',hm,i+1,zs,H9,I9.unpinned.weak kp.1 kp.2,T.keep _ _ _ st6 fun b hb o e=>(I9.pin (b,o) (List.mem_append_right _ (List.mem_append_right _ (q1v hb e)))).1,fun b hb=>?_,w9⟩;obtain⟨o,e,d⟩:=T.obj _ _ st6 b hb;exact(I9.pin (b,o) (List.mem_append_right _ (List.mem_append_right _ (q1v hb e)))).2.1
   cases b with
   |true =>
    refine wpAny_bind (wpAny_bind (thn (eY _ s8 σ7 H8 _ _ I8 q8) fun v s9 ⟨vv,H9,I9,r9,hH9,hz9,n9⟩=>?_));obtain⟨m',hm',w9⟩:=hN _ _ n9;refine wpAny_bind (thn (aY _ s9 σ7 H9 ys vv v (fun _ H10=>W (i+1) m' (ys++[vv]) H10) _ I9 r9 hH9 hz9 w9) fun _ s10 ⟨_,H10,I10,_,w10⟩=>?_);exact wpAny_pure (wpAny_pure ⟨rfl,again I10 hm' w10⟩)
   |false =>
    obtain⟨m',hm',w8⟩:=hN _ _ q8;exact wpAny_pure ⟨rfl,again I8 hm' w8⟩
 rw[o3];exact codeAny_compStart_list loop (T.self _ 0 _ _ _ stY loop)
def isCF(k:Option NameKind):Bool:=k==some .cell||k==some .free
def capChk(N:List Str)(names outer:List (Str×NameKind)):Caps->Bool
 |[]=>true
 |(x,i)::r=>decide (N[i]?=some x)&&(names.lookup x==some .free)&&isCF (outer.lookup x)&&capChk N names outer r
def compChk(N:List Str)(outer scope:Scope)(caps:Caps):Bool :=
 (scope.kind==.function)&&(scope.names.all fun y=>y.2 != .cell&&(y.2 != .local||scope.names.lookup y.1==some .local)&&(y.2 != .free||isCF (outer.names.lookup y.1)))&&capChk N scope.names outer.names caps
theorem z3l(h:isCF k=true):k=some .cell\/k=some .free:=by
 unfold isCF at h;simpa using h
theorem q8d:∀{caps:Caps},capChk X.N scope.names X.env.scope.names caps=true->CapOk X scope caps
 |[],_=>trivial
 |(x,i)::r,h=>by
  unfold capChk at h;simp only[Bool.and_eq_true] at h;obtain⟨⟨⟨h1,h2⟩,h3⟩,h4⟩:=h;exact⟨⟨of_decide_eq_true h1,by simpa using h2,z3l h3⟩,q8d h4⟩
theorem q3g(h:compChk X.N X.env.scope scope caps=true):
  scope.kind=.function/\(∀y∈scope.names,y.2≠.cell)/\(∀y∈scope.names,y.2=.local->scope.names.lookup y.1=some .local)/\(∀x,(x,NameKind.free)∈scope.names->X.env.scope.names.lookup x=some .cell\/X.env.scope.names.lookup x=some .free)/\CapOk X scope caps:=by
 unfold compChk at h;simp only[Bool.and_eq_true,List.all_eq_true] at h;obtain⟨⟨h1,h2⟩,h3⟩:=h;refine⟨by simpa using h1,fun y hy e=>?_,fun y hy e=>?_,fun x hx=>?_,q8d h3⟩
 ·have z:=(h2 y hy).1.1;rw[e] at z;simp at z
 ·have z:=(h2 y hy).1.2;rw[e] at z;simpa using z
 ·have z:=(h2 _ hx).2;exact z3l (by simpa using z)
def tComp(wi:TI)(g:TG)(tt:TT)(te:TE)(tg:List Str)(caps:Caps):TE:=fun σ H Q=>wi σ H fun J H1=>∀D,H1 D=none->CompW J g tt te (tg0 tg σ caps) D (fun _ H'=>Q (.ref D) H') H1
section
variable{X:Cx}{iter target elt:Expr}{ifs:List Expr}{scope:Scope}{pos:Pos}{wi:TI}{g:TG}{tt:TT}{te:TE}
theorem q6u{σ:St}(I:Inv X pins σ H s)(hfree:∀x,(x,NameKind.free)∈scope.names->X.env.scope.names.lookup x=some .cell\/X.env.scope.names.lookup x=some .free):
  ∃cl,closureFor scope X.env=pure cl/\(∀x c,cl.lookup x=some c->X.env.cells.lookup x=some c)/\∀x,(x,NameKind.free)∈scope.names->∃c,cl.lookup x=some c :=
 z1w fun x hx=>I.ok.has x (hfree x hx)
theorem q2d(tg:List Str)(caps:Caps)(hc:X.calm=true)(hi:PI X target iter wi)(hg:∀cl C fp s H,PG (cxComp X (tg++caps.map (·.1)) scope cl C fp s H) target g)(ht:∀cl C fp s H,PIfs (cxComp X (tg++caps.map (·.1)) scope cl C fp s H) ifs tt)(he:∀cl C fp s H,PE (cxComp X (tg++caps.map (·.1)) scope cl C fp s H) elt te)(hk:compChk X.N X.env.scope scope caps=true:=by rfl)(hs:∀x,foldedSetIterable iter X.env x=pure x:=by intro _;rfl):
  PE X (.ListComp elt [⟨target,iter,ifs,0⟩] scope pos) (tComp wi g tt te tg caps):=by
 intro pins s σ H Q I h;obtain⟨hkind,hnc,hnames,hfree,co⟩:=q3g hk;obtain⟨cl,hclos,hc1,hc2⟩:=q6u I hfree;refine wpAny_comprehension_free rfl hs hclos hkind hnames (thn (hi pins s σ H _ I h) fun v s1 h1=>thn h1 fun itv s2 h2=>?_);obtain⟨it,fp,tn,J,H2,e,I2,T,st2,f2,hw⟩:=h2;subst e;refine z0r hc hkind hnc hc1 hc2 co (fun C s H=>hg cl C fp s H) (fun C s H=>ht cl C fp s H) (fun C s H=>he cl C fp s H) I2 T st2 f2 hw ?_;intro D C ys H' s' hD I' hm F fin;obtain⟨m,hm⟩:=hm;refine⟨m,hm,fun h' hsb=>⟨.ref D,H',I'.turned (t':=s'.toks) (fun b o hb e=>(hsb.2 b hb).trans e) F.1 F.2.1 F.2.2.2.1 F.2.2.2.2.1 F.2.2.2.2.2,rfl,fin⟩⟩
def tSetC(wi:TI)(g:TG)(tt:TT)(te:TE)(tg:List Str)(caps:Caps)(i:Nat):TS:=fun D' σ H=>wi σ H fun J H1=>∀D,H1 D=none->CompW J g tt te (tg0 tg σ caps) D (fun _ H'=>D'.nx (σ.set i (some (.ref D))) H') H1
theorem q6v{i:Nat}{y:Str}{py spos:Pos}(tg:List Str)(caps:Caps)(hN:X.N.Nodup)(hiN:X.N[i]?=some y)(hx:Loc X.env.scope y)(hc:X.calm=true)(hi:PI X target iter wi)(hg:∀cl C fp s H,PG (cxComp X (tg++caps.map (·.1)) scope cl C fp s H) target g)(ht:∀cl C fp s H,PIfs (cxComp X (tg++caps.map (·.1)) scope cl C fp s H) ifs tt)(he:∀cl C fp s H,PE (cxComp X (tg++caps.map (·.1)) scope cl C fp s H) elt te)(hk:compChk X.N X.env.scope scope caps=true:=by rfl)(hs:∀x,foldedSetIterable iter X.env x=pure x:=by intro _;rfl)(hsw:swapsWith (.ListComp elt [⟨target,iter,ifs,0⟩] scope pos) (some (.Name y py)) spos.line X.env=pure true:=by rfl)(hf:X.fn y=true\/X.env.scope.names.lookup y=some .local:=by first|exact .inl rfl|exact .inr rfl|assumption):
  PS X (.Assign [.Name y py] (.ListComp elt [⟨target,iter,ifs,0⟩] scope pos) spos) (tSetC wi g tt te tg caps i):=by
 intro pins s σ H D' I h;obtain⟨hkind,hnc,hnames,hfree,co⟩:=q3g hk;obtain⟨cl,hclos,hc1,hc2⟩:=q6u I hfree;rw[exec_Assign_Name_used _ _ _ _ hsw];refine wpAny_bind (wpAny_standAt (wpAny_bind ?_));refine wpAny_bind (wpAny_mono (wpAny_comprehension_free (use:=some (assign (.Name y py) X.env)) rfl hs hclos hkind hnames
  (thn (hi pins s σ H _ I h) fun v s1 h1=>thn h1 fun itv s2 h2=>?_)) (fun _ s' hq=>wpAny_pure (wpAny_pure hq)) fun _ _ e=>e)
 obtain⟨it,fp,tn,J,H2,e,I2,T,st2,f2,hw⟩:=h2;subst e;refine z0r (RR:=fun acc C=>compPost (model X.prog X.w) X.A X.xe (some (assign (.Name y py) X.env)) (fun _ s'=>SP X pins D' .next s') acc C) (Fin:=fun D _ H'=>D'.nx (σ.set i (some (.ref D))) H') hc hkind hnc hc1 hc2 co (fun C s H=>hg cl C fp s H) (fun C s H=>ht cl C fp s H) (fun C s H=>he cl C fp s H) I2 T st2 f2 hw ?_;intro D C ys H' s' hD I' hm F fin;obtain⟨m,hm⟩:=hm;refine wpAny_assign_Name (q4q (v:=.ref D) I' hN hiN hx rfl (fun s'' I'' hsb=>?_) hf);obtain⟨a,sb,ha⟩:=hsb;have hCa:C≠a:=by
  rcases ha with ha|ha
  ·rw[ha];exact F.2.1
  ·exact fun z=>F.2.2.2.2.1 y a ha z.symm
 refine⟨m,hm.sameBut sb hCa,fun h' hs'=>?_⟩;exact⟨_,H',I''.turned (t':=s''.toks) (fun b o hb e=>(hs'.2 b hb).trans e) F.1 F.2.1 F.2.2.2.1 F.2.2.2.2.1 F.2.2.2.2.2,fin⟩
end
theorem q5a{Fin:List V->Hp->Prop}(Pv:Nat->List V->Hp->Prop)(h0:Pv 0 [] (upd H1 D (.lst [])))(hl:∀i ys H,Pv i ys H->H D=some (.lst ys))(hgo:∀i ys H,i<n->Pv i ys H->J.go i H)(hstop:∀ys H,Pv n ys H->J.stop n H)(hs:∀i ys H x H',i<n->Pv i ys H->J.yld i H x H'->g x σ0 H' fun σ2 H2=>Keeps0 σ0 σ2/\tt σ2 H2 fun b H3 =>
   if b=true then te σ2 H3 fun v H4=>H4 D=some (.lst ys)/\ys.length<sizeLine/\Pv (i+1) (ys++[v]) (upd H4 D (.lst (ys++[v]))) else Pv (i+1) ys H3)(hd:∀ys H,Pv n ys H->Fin ys H):CompW J g tt te σ0 D Fin H1:=by
 refine⟨fun i m ys H=>m=n-i/\i<=n/\Pv i ys H,⟨n,by simp,Nat.zero_le _,h0⟩,?_⟩;rintro i m ys H ⟨rfl,hi,p⟩;refine⟨hl i ys H p,?_⟩;by_cases hlt:i<n
 ·exact .inr ⟨hgo i ys H hlt p,Pv (i+1),fun zs H' q=>⟨n-(i+1),by lia,rfl,hlt,q⟩,fun x H' y=>hs i ys H x H' hlt p y⟩
 ·grind
theorem z1x{lo:Int}{Fin:List V->Hp->Prop}(Pv:Nat->List V->Hp->Prop)(h0:Pv 0 [] (upd H1 D (.lst [])))(hl:∀i ys H,Pv i ys H->H D=some (.lst ys))(hs:∀i ys H,i<n->Pv i ys H->g (.int (lo+i)) σ0 H fun σ2 H2=>Keeps0 σ0 σ2/\tt σ2 H2 fun b H3 =>
   if b=true then te σ2 H3 fun v H4=>H4 D=some (.lst ys)/\ys.length<sizeLine/\Pv (i+1) (ys++[v]) (upd H4 D (.lst (ys++[v]))) else Pv (i+1) ys H3)(hd:∀ys H,Pv n ys H->Fin ys H):CompW (Itr lo n) g tt te σ0 D Fin H1 :=
 q5a Pv h0 hl (fun i ys H h _=>h) (fun ys H _=>Nat.le_refl _) (fun i ys H x H' h p y=>by obtain⟨e,y⟩:=y;subst e y;exact hs i ys _ h p) hd
theorem q1z{K:W.Frag}{Fin:List V->Hp->Prop}(Pv:Nat->List V->Hp->Prop)(h0:Pv 0 [] (upd H1 D (.lst [])))(hl:∀i ys H,Pv i ys H->H D=some (.lst ys)/\SqL K H a xs)(hs:∀i ys H x,xs[i]?=some x->Pv i ys H->g x σ0 H fun σ2 H2=>Keeps0 σ0 σ2/\tt σ2 H2 fun b H3 =>
   if b=true then te σ2 H3 fun v H4=>H4 D=some (.lst ys)/\ys.length<sizeLine/\Pv (i+1) (ys++[v]) (upd H4 D (.lst (ys++[v]))) else Pv (i+1) ys H3)(hd:∀ys H,Pv xs.length ys H->Fin ys H):CompW (Itl K a) g tt te σ0 D Fin H1 :=
 q5a Pv h0 (fun i ys H p=>(hl i ys H p).1) (fun i ys H h p=>⟨xs,xs[i],(hl i ys H p).2,by simp[h]⟩) (fun ys H p=>⟨xs,(hl _ ys H p).2,Nat.le_refl _⟩)
  (fun i ys H x H' h p y=>by obtain⟨e,y⟩:=y;subst e;exact hs i ys _ x (y xs (hl i ys _ p).2) p) hd
theorem q0q{r:St}:Keeps0 (none::r) (v::r):=⟨rfl,fun i w h=>by
 cases i with
 |zero=>cases h
 |succ i=>exact h⟩
theorem q6a{r:St}:Keeps0 (none::none::r) (v::w::r):=⟨rfl,fun i u h=>by
 cases i with
 |zero=>cases h
 |succ i=>cases i with
  |zero=>cases h
  |succ i=>exact h⟩
open PySem PySem.Spec PyProof.Rows
section
variable{X:Cx}
def rSlS:V->Option Int->Option Int->Hp->VK->Prop:=fun x lo hi H Q=>∃z,x=.str z/\z.length<=sizeLine/\Q (.str (Txt.slice z lo hi)) H
theorem q5b(h:IsPart v o):∃p:Option (Int×Tok),v=partValue p/\o=p.map (·.1):=by
 cases h with
 |none=>exact⟨none,rfl,rfl⟩
 |int i t=>exact⟨some (i,t),rfl,rfl⟩
theorem sl_str:SlR X rSlS:=by
 intro pins s σ H x v vl vu lo hi sl Q I rx hs pl pu h;obtain⟨z,rfl,hz,q⟩:=h;obtain⟨t,rfl⟩:=rx;obtain⟨p1,rfl,rfl⟩:=q5b pl;obtain⟨p2,rfl,rfl⟩:=q5b pu;refine⟨"str",_,F.slot_str_getitem.lookup,typeIs_str _ _ _,wpAny_getItem_str_slice (st:=none) hs rfl
  (post_val_or_str ⟨Nat.le_trans (Txt.slice_le z _ _) hz,fun t' k=>⟨.str (Txt.slice z (p1.map (·.1)) (p2.map (·.1))),H,I.tok _,⟨t',rfl⟩,q⟩⟩)⟩
def rLower:V->List V->Hp->VK->Prop:=fun x vs H Q=>∃z,x=.str z/\vs=[]/\3*z.length<=sizeLine/\Q (.str (Txt.lower z)) H
theorem fit3(h:n<=3*m)(h2:3*m<=sizeLine):Builtin.Str.tooLong n=false:=by
 exact decide_eq_false (by lia)
theorem q4m:MtM X "str.lower" rLower:=by
 intro pins s σ H x vs v us Q I rx rv h;obtain⟨z,rfl,rfl,hz,q⟩:=h;obtain⟨t,rfl⟩:=rx;cases rv.zero;exact SC.lower (fit3 (len_lower z) hz) ⟨.str _,H,I.tok _,⟨_,rfl⟩,q⟩
def rUpper:V->List V->Hp->VK->Prop:=fun x vs H Q=>∃z,x=.str z/\vs=[]/\3*z.length<=sizeLine/\Q (.str (Txt.upper z)) H
theorem z5u:MtM X "str.upper" rUpper:=by
 intro pins s σ H x vs v us Q I rx rv h;obtain⟨z,rfl,rfl,hz,q⟩:=h;obtain⟨t,rfl⟩:=rx;cases rv.zero;exact SC.upper (fit3 (len_upper z) hz) ⟨.str _,H,I.tok _,⟨_,rfl⟩,q⟩
theorem q4b:∀{ys:List Str} {us:List Value},Vals (ys.map V.str) us->StrsAre us ys
 |[],_,.nil=>.nil
 |y::ys,_,.cons r t=>by obtain⟨k,rfl⟩:=r;exact .cons y k (q4b t)
def rJoin(K:W.Frag):V->List V->Hp->VK->Prop:=fun x vs H Q=>∃(z:Str) (p:Addr) (ys:List Str),x=.str z/\vs=[.ref p]/\(SqL K H p (ys.map V.str)\/SqT K H p (ys.map V.str))/\(ys.map (·.length)).sum+ys.length*z.length<=16777216/\Q (.str (Txt.join z ys)) H
theorem z8k:MtM X "str.join" (rJoin X.K):=by
 intro pins s σ H x vs v us Q I rx rv h;obtain⟨z,p,ys,rfl,rfl,hq,hz,q⟩:=h;obtain⟨t,rfl⟩:=rx;obtain⟨u,rfl,ru⟩:=rv.one;cases ru;rcases hq with hq|hq
 ·obtain⟨its,r,pl,_⟩:=I.list hq;exact join_list pl.isList (q4b (by simpa using r)) hz fun t' k=>⟨.str _,H,I.tok _,⟨_,rfl⟩,q⟩
 ·obtain⟨its,r,pl,_⟩:=I.tuple hq;exact join_tuple pl (q4b (by simpa using r)) hz fun t' k=>⟨.str _,H,I.tok _,⟨_,rfl⟩,q⟩
def rMulS:R2:=fun x y H Q=>∃z n,x=.str z/\y=.int n/\MulOk z n/\Q (.str (Txt.mul z n)) H
theorem op_mulS:OpR X (binaryOp .Mult) rMulS:=by
 intro pins s σ H x y v u Q I rx ry h;obtain⟨z,n,rfl,rfl,hm,q⟩:=h;obtain⟨t,rfl⟩:=rx;obtain⟨t',rfl⟩:=ry;exact SB.mul hm fun t2 k=>⟨.str _,H,I.tok _,⟨_,rfl⟩,q⟩
theorem q5c:∀{bs:List Bool} {us:List Value},Vals (bs.map V.bl) us->LSm.BoolsAre us bs
 |[],_,.nil=>.nil
 |b::bs,_,.cons r t=>by cases r;exact .cons b (q5c t)
theorem z5v(hc:X.calm=true):CallR X (.builtin "all") (fun xs H Q=>∃(p:Addr) (bs:List Bool),xs=[.ref p]/\SqL X.K H p (bs.map V.bl)/\Q (.bl (bs.all id)) H):=by
 intro pins s σ H xs us Q I r h;obtain⟨p,bs,rfl,hq,q⟩:=h;obtain⟨u,rfl,rx⟩:=vals1 r;cases rx;obtain⟨its,r',pl,hz⟩:=I.list hq;have hb:=q5c r';have hlt:p<s.heap.objs.size:=by obtain⟨_,e,_⟩:=pl.isList;exact Heap.lt_size e
 refine call_all_walk (wpAny_pyIter_list pl.isList ?_);refine⟨s.heap.objs.size,[s.heap.objs.size,p],[s.heap.objs.size],its.toArray.size,_,_,fun i=>(bs[i]?).getD true,rfl,Walks.list (A:=X.A.in1) (I.ok.hd hc) _ p (Nat.ne_of_lt hlt) its.toArray,
  ⟨⟨_,Heap.get?_push_size _ rfl,rfl,rfl⟩,pl.isList.push _⟩,fun i v s' Q' E' hP hQ=>?_,fun h' tk hk=>?_⟩
 ·obtain⟨b,e,rfl⟩:=hb.get i v (by simpa using hP);simp only[e,Option.getD_some] at hQ;exact wpAny_truthy_bool hQ
 ·have e:((List.range its.toArray.size).all fun i=>(bs[i]?).getD true)=bs.all id:=by
   rw[List.size_toArray,hb.length];exact LSm.range_all bs
  rw[e];exact⟨.bl _,H,I.kept (t':=tk) (LSm.kept_iter hk),rfl,q⟩
theorem q9k:CallR X (.builtin "isinstance") (fun xs H Q=>∃x c t b,xs=[x,.ty c]/\TyOf X.K H x t/\W.kitOne X.K t (.type c)=some b/\Q (.bl b) H):=by
 intro pins s σ H xs us Q I r h;obtain⟨x,c,t,b,rfl,ty,e,q⟩:=h;obtain⟨u,v,rfl,ru,rv⟩:=r.two;cases rv;exact z3f I ru ty e fun tk=>⟨.bl b,H,I.tok _,rfl,q⟩
def Its(z:Str):It:=⟨fun i _=>i<z.length,fun i H x H'=>H'=H/\∃c,z.cps[i]?=some c/\x=.str ⟨#[c]⟩,fun i _=>z.length<=i⟩
end
theorem z3m{K:W.Frag}(it:Addr)(z:Str)(t:Tok):Turn P w K tg (Its z) [it] it (fun i h=>i<=z.length/\h.IsStrIter it "str_ascii_iterator" z t i) where
 mem:=by simp
 obj:=fun i h st b hb=>by
  have e:b=it:=by grind
  subst e;obtain⟨_,o,e,c,d⟩:=st;exact⟨o,e,fun v z=>by rw[d] at z;cases z⟩
 keep:=fun i h h' st k=>⟨st.1,let ⟨o,e,c,d⟩:=st.2;⟨o,k it (by simp) o e,c,d⟩⟩
 item:=by
  intro X hP hw hK hc i pins s σ H E I hf st hg;obtain⟨f0,f1,f2,f3,f4,f5⟩:=hf it (by simp);have hi:i<z.cps.size:=hg;refine wpAny_pyNext_ascii_item st.2 (c:=z.cps[i]) (by simp[hi]) fun h' hit' hs'=>?_;have I1:Inv X pins σ H { s with heap:=h',toks:=s.toks+1 }:=I.turned (fun b o hb e=>(hs'.2 b hb).trans e) f0 f1 f3 f4 f5;obtain⟨o,e,c,d⟩:=id hit';exact⟨_,rfl,z1k e c d (by decide) ⟨.str ⟨#[z.cps[i]]⟩,H,I1,⟨_,rfl⟩,⟨rfl,_,by simp[hi],rfl⟩,⟨hg,hit'⟩,fun b hb=>(hf b hb).1⟩⟩
 done:=by
  intro X hP hw hK hc i pins s σ H E I hf st hg;obtain⟨f0,f1,f2,f3,f4,f5⟩:=hf it (by simp);have hi:z.cps.size<=i:=hg;exact wpAny_pyNext_ascii_end (I.ok.hd hc) st.2 (by simp;lia) fun h' eb=>⟨rfl,I.turned (t':=s.toks) (fun b o hb e=>eb b o hb e) f0 f1 f3 f4 f5⟩
 self:=fun _ _ _ _ _ st h=>wpAny_pyIter_striter_ascii st.2 h
theorem z3n{K:W.Frag}(it:Addr)(z:Str)(t:Tok):Turn P w K tg (Its z) [it] it (fun i h=>i<=z.length/\h.IsStrIter it "str_iterator" z t i) where
 mem:=by simp
 obj:=fun i h st b hb=>by
  have e:b=it:=by grind
  subst e;obtain⟨_,o,e,c,d⟩:=st;exact⟨o,e,fun v z=>by rw[d] at z;cases z⟩
 keep:=fun i h h' st k=>⟨st.1,let ⟨o,e,c,d⟩:=st.2;⟨o,k it (by simp) o e,c,d⟩⟩
 item:=by
  intro X hP hw hK hc i pins s σ H E I hf st hg;obtain⟨f0,f1,f2,f3,f4,f5⟩:=hf it (by simp);have hi:i<z.cps.size:=hg;refine wpAny_pyNext_wide_item st.2 (c:=z.cps[i]) (by simp[hi]) fun h' hit' hs'=>?_;have I1:Inv X pins σ H { s with heap:=h',toks:=s.toks+1 }:=I.turned (fun b o hb e=>(hs'.2 b hb).trans e) f0 f1 f3 f4 f5;obtain⟨o,e,c,d⟩:=id hit';exact⟨_,rfl,z1k e c d (by decide) ⟨.str ⟨#[z.cps[i]]⟩,H,I1,⟨_,rfl⟩,⟨rfl,_,by simp[hi],rfl⟩,⟨hg,hit'⟩,fun b hb=>(hf b hb).1⟩⟩
 done:=by
  intro X hP hw hK hc i pins s σ H E I hf st hg;obtain⟨f0,f1,f2,f3,f4,f5⟩:=hf it (by simp);have hi:z.cps.size<=i:=hg;exact wpAny_pyNext_wide_end (I.ok.hd hc) st.2 (by simp;lia) fun h' eb=>⟨rfl,I.turned (t':=s.toks) (fun b o hb e=>eb b o hb e) f0 f1 f3 f4 f5⟩
 self:=fun _ _ _ _ _ st h=>wpAny_pyIter_striter_wide st.2 h
theorem z5w{Fin:List V->Hp->Prop}(Pv:Nat->List V->Hp->Prop)(h0:Pv 0 [] (upd H1 D (.lst [])))(hl:∀i ys H,Pv i ys H->H D=some (.lst ys))(hs:∀i ys H c,z.cps[i]?=some c->Pv i ys H->g (.str ⟨#[c]⟩) σ0 H fun σ2 H2=>Keeps0 σ0 σ2/\tt σ2 H2 fun b H3 =>
   if b=true then te σ2 H3 fun v H4=>H4 D=some (.lst ys)/\ys.length<sizeLine/\Pv (i+1) (ys++[v]) (upd H4 D (.lst (ys++[v]))) else Pv (i+1) ys H3)(hd:∀ys H,Pv z.length ys H->Fin ys H):CompW (Its z) g tt te σ0 D Fin H1 :=
 q5a Pv h0 hl (fun i ys H h _=>h) (fun ys H _=>Nat.le_refl _) (fun i ys H x H' h p y=>by obtain⟨e,c,hc,y⟩:=y;subst e y;exact hs i ys _ c hc p) hd
open PySem PySem.Spec PyProof.Rows
structure Vw (K:W.Frag) (H:Hp) (h:Heap):Prop where
 lst:∀a xs,SqL K H a xs->∃its:List Value,Vals xs its/\h.IsList a its.toArray
 tup:∀a xs,SqT K H a xs->∃its:List Value,Vals xs its/\h.IsTuple a its.toArray
theorem SqL.ne{K:W.Frag}(h:SqL K H a xs)(hb:H b=none)(hk:K.lookup b=none):a≠b:=by
 rintro rfl;rcases h with(h|⟨o,h⟩)|⟨o,_,_,h,_⟩
 ·rw[hb] at h;cases h
 ·rw[hb] at h;cases h
 ·rw[hk] at h;cases h
theorem SqT.ne{K:W.Frag}(h:SqT K H a xs)(hb:H b=none)(hk:K.lookup b=none):a≠b:=by
 rintro rfl;rcases h with(h|⟨o,h⟩)|⟨o,_,_,h,_⟩
 ·rw[hb] at h;cases h
 ·rw[hb] at h;cases h
 ·rw[hk] at h;cases h
theorem Vw.but{K:W.Frag}(v:Vw K H h)(hb:H b=none)(hk:K.lookup b=none)(k:∀c o,c≠b->h.get? c=some o->h'.get? c=some o):Vw K H h' :=
 ⟨fun a xs q=>let ⟨its,r,l⟩:=v.lst a xs q;⟨its,r,l.at fun o e=>k a o (q.ne hb hk) e⟩,fun a xs q=>let ⟨its,r,l⟩:=v.tup a xs q;⟨its,r,by
  obtain⟨o,e,z⟩:=l;exact⟨o,k a o (q.ne hb hk) e,z⟩⟩⟩
theorem Vw.linj{K:W.Frag}(v:Vw K H h)(p:SqL K H a xs)(q:SqL K H a ys):xs=ys:=by
 obtain⟨its,r,o,e,_,n,d⟩:=v.lst a xs p;obtain⟨its',r',o',e',_,n',d'⟩:=v.lst a ys q;have:its=its':=by grind
 subst this;exact r.inj r'
theorem Inv.vw{σ:St}(I:Inv X pins σ H s):Vw X.K H s.heap :=
 ⟨fun a xs q=>let ⟨its,r,l,_⟩:=I.list q;⟨its,r,l.isList⟩,fun a xs q=>let ⟨its,r,l,_⟩:=I.tuple q;⟨its,r,l⟩⟩
structure Srce (P:Program) (w:World) (K:W.Frag) (J:It) (it:Addr) (st:Nat->Heap->Prop):Prop where
 obj:∀i h,st i h->∃o,h.get? it=some o/\∀v,o.data≠.cell v
 keep:∀i h h',st i h->(∀o,h.get? it=some o->h'.get? it=some o)->st i h'
 item:∀(A:Around) (i:Nat) (s:Shared) (H:Hp) (Q:Value->Shared->Prop) (E:Value->Shared->Prop),A.handled=none->Vw K H s.heap->H it=none->K.lookup it=none->st i s.heap->J.go i H ->
  (∀u x h' tk,RelV x u->J.yld i H x H->st (i+1) h'->Heap.SameBut it s.heap h'->Q u { s with heap:=h',toks:=tk })->wpAny (model P w) A (Builtin.SmallTypes.nextOf (.ref it)) Q E s
 done:∀(A:Around) (i:Nat) (s:Shared) (H:Hp) (Q:Value->Shared->Prop) (E:Value->Shared->Prop),A.handled=none->Vw K H s.heap->H it=none->K.lookup it=none->st i s.heap->J.stop i H ->
  (∀h' e,Heap.ExtBut it s.heap h'->(∃o,h'.get? e=some o/\o.cls=.type "StopIteration")->E (.ref e) { s with heap:=h' })->wpAny (model P w) A (Builtin.SmallTypes.nextOf (.ref it)) Q E s
theorem q5d{K:W.Frag}(a it:Addr):Srce P w K (Itl K a) it (fun i h=>h.IsListIter it a i) where
 obj:=fun i h st=>by obtain⟨o,e,c,d⟩:=st;exact⟨o,e,fun v z=>by rw[d] at z;cases z⟩
 keep:=fun i h h' st k=>st.at fun o e=>k o e
 item:=fun A i s H Q E hh vw hn hk st go hQ=>by
  obtain⟨xs,x,hq,hx⟩:=go;obtain⟨its,rv,p⟩:=vw.lst a xs hq;obtain⟨u,hu,ru⟩:=rv.get hx;refine wpAny_nextOf_list_item st p (by simpa using hu) fun h' st' sb=>?_
  exact hQ u x h' s.toks ru ⟨rfl,fun ys hy=>by rw[vw.linj hy hq];exact hx⟩ st' sb
 done:=fun A i s H Q E hh vw hn hk st stop hE=>by
  obtain⟨xs,hq,hx⟩:=stop;obtain⟨its,rv,p⟩:=vw.lst a xs hq;have hl:=rv.length;exact wpAny_nextOf_list_end hh st p (by simp;lia) hE
def stStr(it:Addr)(z:Str)(t:Tok)(i:Nat)(h:Heap):Prop:=h.IsStrIter it (strIterType z) z t i
theorem q6w{K:W.Frag}(it:Addr)(z:Str)(t:Tok):Srce P w K (Its z) it (stStr it z t) where
 obj:=fun i h st=>by obtain⟨o,e,c,d⟩:=st;exact⟨o,e,fun v z=>by rw[d] at z;cases z⟩
 keep:=fun i h h' st k=>by obtain⟨o,e,r⟩:=st;exact⟨o,k o e,r⟩
 item:=fun A i s H Q E hh vw hn hk st go hQ=>by
  have hi:i<z.cps.size:=go;unfold stStr strIterType at st;cases ha:z.cps.all (· < 128)
  ·rw[ha] at st;refine wpAny_nextOf_wide_item st (c:=z.cps[i]) (by simp[hi]) fun h' hit' hs'=>?_;exact hQ _ (.str ⟨#[z.cps[i]]⟩) h' (s.toks+1) ⟨_,rfl⟩ ⟨rfl,_,by simp[hi],rfl⟩ (by unfold stStr strIterType;rw[ha];exact hit') hs'
  ·rw[ha] at st;refine wpAny_nextOf_ascii_item st (c:=z.cps[i]) (by simp[hi]) fun h' hit' hs'=>?_;exact hQ _ (.str ⟨#[z.cps[i]]⟩) h' (s.toks+1) ⟨_,rfl⟩ ⟨rfl,_,by simp[hi],rfl⟩ (by unfold stStr strIterType;rw[ha];exact hit') hs'
 done:=fun A i s H Q E hh vw hn hk st stop hE=>by
  have hi:z.cps.size<=i:=stop;unfold stStr strIterType at st;cases ha:z.cps.all (· < 128)
  ·rw[ha] at st;exact wpAny_nextOf_wide_end hh st (by simp;lia) hE
  ·rw[ha] at st;exact wpAny_nextOf_ascii_end hh st (by simp;lia) hE
theorem Inv.turnedL{σ:St}{ch:List Addr}(I:Inv X pins σ H s)(k:∀b o,b∉ch->s.heap.get? b=some o->h'.get? b=some o)(hf:∀b∈ch,FpOk X pins H b):Inv X pins σ H { s with heap:=h',toks:=t' }:=by
 have nit:∀b u,H b=some u->b∉ch:=fun b u e z=>by rw[(hf b z).1] at e;cases e
 refine I.step (g':=s.gens) (d':=s.drawn) (fun b hb=>?_) (fun b o _ _ hc e _=>k b o hc e) (fun b o _ _ hc e _=>⟨o.slots,k b o hc e⟩) (fun _ _ _ _ n=>n)
  (fun b o hc e=>?_) (fun _ _ e=>e) (fun _ _ _ e=>e) (fun b ps e=>⟨#[],by rw[e];simp⟩) (fun m hm=>?_) (fun b u e=>?_) I.bare
 ·exact⟨(hf b hb).2.2.2.1,(hf b hb).2.1,(hf b hb).2.2.2.2.1,(hf b hb).2.2.2.2.2⟩
 ·exact⟨o,k b o hc e⟩
 ·obtain⟨o,es,ep,ho,r⟩:=hm;exact⟨o,es,ep,k _ o (fun z=>(hf _ z).2.1 rfl) ho,r⟩
 ·refine(I.hok b u e).stay (fun c v hc q=>k c v ?_ q) (fun _ q=>q) fun _ _ q=>q;rcases hc with z|z
  ·rw[z];exact nit b u e
  ·exact nit c _ z
theorem Inv.track{σ:St}{T:Addr}(I:Inv X pins σ H s)(hT:X.s₀.heap.objs.size<=T)(hF:FpOk X pins H T)(new:ObjOk X.prog X.w (upd H T o) s.heap T o):Inv X pins σ (upd H T o) s:=by
 have hn:=hF.1;refine⟨I.ok,I.os,I.bare,⟨I.base.keep,I.base.slot,fun b ob e n hx=>?_,I.base.there,fun b xs e=>?_,fun b ob u e=>?_,fun b ps e=>?_⟩,I.loc,I.cell,?_,fun x c e=>?_,fun p hp=>?_,fun b u e=>?_,I.len⟩
 ·rw[q0c (Nat.ne_of_lt (Nat.lt_of_lt_of_le (Heap.lt_size e) hT))];exact I.base.free b ob e n hx
 ·have z:=I.base.tups b xs e;rw[q0c (q0h z hn)];exact z
 ·have z:=I.base.frzs b ob u e;rw[q0c (q0h z hn)];exact z
 ·obtain⟨m,z⟩:=I.base.tbls b ps e;exact⟨m,by rw[q0c (q0h z hn)];exact z⟩
 ·rw[q0c (Ne.symm hF.2.1)];exact I.free
 ·rw[q0c (hF.2.2.2.2.1 x c e)];exact I.freeC x c e
 ·obtain⟨e,n,ne,nf,d⟩:=I.pin p hp;exact⟨e,by rw[q0c (hF.2.2.2.2.2 p hp)];exact n,ne,nf,d⟩
 ·by_cases hb:b=T
  ·subst hb;rw[q0b] at e;cases e;exact new
  ·rw[q0c hb] at e;exact(I.hok b u e).stay (fun _ _ _ q=>q) (fun c q=>by rw[q0c (q0h q hn)];exact q) fun c xs q=>by rw[q0c (q0h q hn)];exact q
theorem FpOk.noK{σ:St}(I:Inv X pins σ H' s)(f:FpOk X pins H b):X.K.lookup b=none:=by
 cases e:X.K.lookup b with
 |none=>rfl
 |some o =>
  have e1:=I.ok.mod.kin b o e;rcases f.2.2.2.1 with z|z
  ·exact absurd z (I.ok.noex b o e1)
  ·exact absurd (Nat.lt_of_lt_of_le (Heap.lt_size (I.ok.bs b o e1).1) z) (Nat.lt_irrefl _)
structure ZipA (z TI TO i1 i2:Addr):Prop where
 TIz:TI≠z
 TOz:TO≠z
 i1z:i1≠z
 i2z:i2≠z
 TITO:TI≠TO
 TIi1:TI≠i1
 TIi2:TI≠i2
 TOi1:TO≠i1
 TOi2:TO≠i2
 i12:i1≠i2
section
variable{prog:Program}{w:World}{K:W.Frag}{A:Around}{E:Value->Shared->Prop}{s:Shared}{J1 J2:It}{t1 t2:Nat->Heap->Prop}{z TI TO i1 i2:Addr}{H:Hp}
theorem z3o{Q:Value->Shared->Prop}(D:ZipA z TI TO i1 i2)(S1:Srce prog w K J1 i1 t1)(S2:Srce prog w K J2 i2 t2)(hh:A.handled=none)(vw:Vw K H s.heap)(nH:∀b∈[z,TI,TO,i1,i2],H b=none)(nK:∀b∈[z,TI,TO,i1,i2],K.lookup b=none)(hz:IsZip s.heap z TI TO .none)(hTI:IsPair s.heap TI (.ref i1) (.ref i2))(hTO:IsPair s.heap TO a b)(h1:t1 i s.heap)(h2:t2 i s.heap)(g1:J1.go i H)(g2:J2.go i H)(hQ:∀u v x y h' tk,RelV x u->RelV y v->J1.yld i H x H->J2.yld i H y H->IsZip h' z TI TO (rawInt s.heap.objs.size)->IsPair h' TO u v->t1 (i+1) h'->t2 (i+1) h'->IsPair h' s.heap.objs.size u v->h'.objs.size=s.heap.objs.size+1 ->
   (∀c o,c≠z->c≠TO->c≠i1->c≠i2->s.heap.get? c=some o->h'.get? c=some o)->Q (.ref s.heap.objs.size) { s with heap:=h',toks:=tk }):
  wpAny (model prog w) A (Builtin.«zip.__next__» ⟨[.ref z],[]⟩) (fun fin s'=>∃v,fin=.done (.ret v)/\Q v s') E s:=by
 show wpAny _ _ (field (.ref z) 2 >>= _) _ _ _;refine wpAny_bind (wpAny_field hz rfl rfl ?_);refine wpAny_bind (wpAny_field hz rfl rfl ?_);refine wpAny_bind (wpAny_seqItems hTI rfl ?_);refine wpAny_bind ?_;refine wpAny_bind (wpAny_field hz rfl rfl (wpAny_pure ?_));refine wpAny_bind (wpAny_rule ?_);refine wpAny_bind (wpAny_field hz rfl rfl ?_);refine wpAny_bind (wpAny_setField_rec hz (by simp) fun h₁ hz₁ hs₁=>?_);replace hz₁:IsZip h₁ z TI TO .ellipsis:=hz₁;have vw₁:=vw.but (nH z (by simp)) (nK z (by simp)) fun c o hc e=>hs₁.extBut _ _ hc e;refine wpAny_bind ?_;refine wpAny_bind (wpAny_bind (wpAny_onRaise ?_));refine wpAny_bind (S1.item _ i _ H _ _ hh vw₁ (nH i1 (by simp)) (nK i1 (by simp)) (S1.keep _ _ _ h1 fun o e=>hs₁.extBut _ _ D.i1z e) g1 fun u x h₂ tk₂ rx yx h1₂ hs₂=>wpAny_pure ?_);have hTO₂:=hs₂.extBut _ _ D.TOi1 (hs₁.extBut _ _ D.TOz hTO);refine wpAny_bind (wpAny_seqItems hTO₂ rfl ?_);refine wpAny_bind (wpAny_updateSeq_pair hTO₂ fun h₃ hTO₃ hs₃=>?_);have vw₃:=(vw₁.but (nH i1 (by simp)) (nK i1 (by simp)) fun c o hc e=>hs₂.extBut _ _ hc e).but (nH TO (by simp)) (nK TO (by simp)) fun c o hc e=>hs₃.extBut _ _ hc e;refine wpAny_bind (wpAny_letGo (wpAny_pure ?_));refine wpAny_bind (wpAny_bind (wpAny_onRaise ?_));refine wpAny_bind (S2.item _ i _ H _ _ hh vw₃ (nH i2 (by simp)) (nK i2 (by simp)) (S2.keep _ _ _ h2 fun o e=>hs₃.extBut _ _ D.TOi2.symm (hs₂.extBut _ _ D.i12.symm (hs₁.extBut _ _ D.i2z e))) g2 fun v y h₄ tk₄ ry yy h2₄ hs₄=>wpAny_pure ?_);have hTO₄:=hs₄.extBut _ _ D.TOi2 hTO₃;refine wpAny_bind (wpAny_seqItems hTO₄ rfl ?_);refine wpAny_bind (wpAny_updateSeq_pair hTO₄ fun h₅ hTO₅ hs₅=>?_);replace hTO₅:IsPair h₅ TO u v:=hTO₅;refine wpAny_bind (wpAny_letGo (wpAny_pure (wpAny_pure ?_)));refine wpAny_bind (wpAny_seqItems hTO₅ rfl ?_);refine wpAny_bind (wpAny_newTuple ?_);have hsz:h₅.objs.size=s.heap.objs.size:=by rw[hs₅.1,hs₄.1,hs₃.1,hs₂.1,hs₁.1]
 have hz₅:=hs₅.extBut _ _ D.TOz.symm (hs₄.extBut _ _ D.i2z.symm (hs₃.extBut _ _ D.TOz.symm (hs₂.extBut _ _ D.i1z.symm hz₁)));have hk₅:∀c o,c≠z->c≠TO->c≠i1->c≠i2->s.heap.get? c=some o->h₅.get? c=some o:=fun c o c1 c2 c3 c4 e =>
  hs₅.extBut _ _ c2 (hs₄.extBut _ _ c4 (hs₃.extBut _ _ c2 (hs₂.extBut _ _ c3 (hs₁.extBut _ _ c1 e))))
 have h1₅:=S1.keep _ _ _ h1₂ fun o e=>hs₅.extBut _ _ D.TOi1.symm (hs₄.extBut _ _ D.i12 (hs₃.extBut _ _ D.TOi1.symm e));have h2₅:=S2.keep _ _ _ h2₄ fun o e=>hs₅.extBut _ _ D.TOi2.symm e;have hzlt:=Heap.lt_size hz₅;refine wpAny_bind ?_;have hz₆:IsZip (h₅.push { cls:=.type "tuple",data:=.seq #[u,v] }) z TI TO .ellipsis:=Heap.get?_push_of_some _ hz₅;refine wpAny_bind (wpAny_setField_rec hz₆ (by simp) fun h₇ hz₇ hs₇=>?_);refine wpAny_setField_rec hz₇ (by simp) fun h₈ hz₈ hs₈=>?_;have up:∀c o,c≠z->h₅.get? c=some o->h₈.get? c=some o:=fun c o c1 e=>hs₈.extBut _ _ c1 (hs₇.extBut _ _ c1 (Heap.get?_push_of_some _ e));have hT₈:=hs₈.extBut _ _ (Nat.ne_of_gt hzlt) (hs₇.extBut _ _ (Nat.ne_of_gt hzlt) (Heap.get?_push_size _ rfl));have hz8:h₈.objs.size=h₅.objs.size+1:=by rw[hs₈.1,hs₇.1,Heap.size_push]
 rw[hsz] at hz₈ hT₈ hz8;refine wpAny_pure ⟨_,rfl,?_⟩;rw[hsz];exact hQ u v x y h₈ tk₄ rx ry yx yy hz₈ (up _ _ D.TOz hTO₅) (S1.keep _ _ _ h1₅ fun o e=>up _ o D.i1z e) (S2.keep _ _ _ h2₅ fun o e=>up _ o D.i2z e) hT₈ hz8 fun c o c1 c2 c3 c4 e=>up c o c1 (hk₅ c o c1 c2 c3 c4 e)
theorem z5x(D:ZipA z TI TO i1 i2)(S1:Srce prog w K J1 i1 t1)(S2:Srce prog w K J2 i2 t2)(hh:A.handled=none)(vw:Vw K H s.heap)(nH:∀b∈[z,TI,TO,i1,i2],H b=none)(nK:∀b∈[z,TI,TO,i1,i2],K.lookup b=none)(hz:IsZip s.heap z TI TO .none)(hTI:IsPair s.heap TI (.ref i1) (.ref i2))(hTO:IsPair s.heap TO a b)(h1:t1 i s.heap)(h2:t2 i s.heap)(hend:J1.stop i H\/(J1.go i H/\J2.stop i H))(hE:∀h' e tk,(∀c o,c≠z->c≠TO->c≠i1->c≠i2->s.heap.get? c=some o->h'.get? c=some o)->(∃o,h'.get? e=some o/\o.cls=.type "StopIteration")->E (.ref e) { s with heap:=h',toks:=tk }):
  wpAny (model prog w) A (Builtin.«zip.__next__» ⟨[.ref z],[]⟩) Q E s:=by
 show wpAny _ _ (field (.ref z) 2 >>= _) _ _ _;refine wpAny_bind (wpAny_field hz rfl rfl ?_);refine wpAny_bind (wpAny_field hz rfl rfl ?_);refine wpAny_bind (wpAny_seqItems hTI rfl ?_);refine wpAny_bind ?_;refine wpAny_bind (wpAny_field hz rfl rfl (wpAny_pure ?_));refine wpAny_bind (wpAny_rule ?_);refine wpAny_bind (wpAny_field hz rfl rfl ?_);refine wpAny_bind (wpAny_setField_rec hz (by simp) fun h₁ hz₁ hs₁=>?_);have vw₁:=vw.but (nH z (by simp)) (nK z (by simp)) fun c o hc e=>hs₁.extBut _ _ hc e;refine wpAny_bind ?_;refine wpAny_bind (wpAny_bind (wpAny_onRaise ?_));rcases hend with st|⟨g1,st⟩
 ·refine wpAny_bind (S1.done _ i _ H _ _ hh vw₁ (nH i1 (by simp)) (nK i1 (by simp)) (S1.keep _ _ _ h1 fun o e=>hs₁.extBut _ _ D.i1z e) st fun h₂ e hs₂ he=>?_);obtain⟨oe,hoe,hce⟩:=he;have hz₂:=hs₂ _ _ D.i1z.symm hz₁;have hez:e≠z:=fun x=>by subst x;rw[hz₂] at hoe;cases hoe;simp at hce
  refine wpAny_setField_rec hz₂ (by simp) fun h₃ _ hs₃=>hE h₃ e _ (fun c o c1 _ c3 _ x=>hs₃.extBut _ _ c1 (hs₂ _ _ c3 (hs₁.extBut _ _ c1 x))) ⟨oe,hs₃.extBut _ _ hez hoe,hce⟩
 ·refine wpAny_bind (S1.item _ i _ H _ _ hh vw₁ (nH i1 (by simp)) (nK i1 (by simp)) (S1.keep _ _ _ h1 fun o e=>hs₁.extBut _ _ D.i1z e) g1 fun u x h₂ tk₂ rx yx h1₂ hs₂=>wpAny_pure ?_);have hTO₂:=hs₂.extBut _ _ D.TOi1 (hs₁.extBut _ _ D.TOz hTO);refine wpAny_bind (wpAny_seqItems hTO₂ rfl ?_);refine wpAny_bind (wpAny_updateSeq_pair hTO₂ fun h₃ hTO₃ hs₃=>?_);have vw₃:=(vw₁.but (nH i1 (by simp)) (nK i1 (by simp)) fun c o hc e=>hs₂.extBut _ _ hc e).but (nH TO (by simp)) (nK TO (by simp)) fun c o hc e=>hs₃.extBut _ _ hc e;refine wpAny_bind (wpAny_letGo (wpAny_pure ?_));refine wpAny_bind (wpAny_bind (wpAny_onRaise ?_));refine wpAny_bind (S2.done _ i _ H _ _ hh vw₃ (nH i2 (by simp)) (nK i2 (by simp)) (S2.keep _ _ _ h2 fun o e=>hs₃.extBut _ _ D.TOi2.symm (hs₂.extBut _ _ D.i12.symm (hs₁.extBut _ _ D.i2z e))) st fun h₄ e hs₄ he=>?_);obtain⟨oe,hoe,hce⟩:=he;have hz₄:=hs₄ _ _ D.i2z.symm (hs₃.extBut _ _ D.TOz.symm (hs₂.extBut _ _ D.i1z.symm hz₁));have hez:e≠z:=fun x=>by subst x;rw[hz₄] at hoe;cases hoe;simp at hce
  refine wpAny_setField_rec hz₄ (by simp) fun h₅ _ hs₅=>hE h₅ e _ (fun c o c1 c2 c3 c4 x=>hs₅.extBut _ _ c1 (hs₄ _ _ c4 (hs₃.extBut _ _ c2 (hs₂.extBut _ _ c3 (hs₁.extBut _ _ c1 x))))) ⟨oe,hs₅.extBut _ _ hez hoe,hce⟩
end
def Itz(J1 J2:It):It:=⟨fun i H=>J1.go i H/\J2.go i H,fun i H x H'=>∃T x1 x2,H T=none/\J1.yld i H x1 H/\J2.yld i H x2 H/\x=.ref T/\H'=upd H T (.tup [x1,x2]),fun i H=>J1.stop i H\/(J1.go i H/\J2.stop i H)⟩
def tnZip(z TI TO i1 i2:Addr)(t1 t2:Nat->Heap->Prop)(i:Nat)(h:Heap):Prop:=IsZip h z TI TO .none/\IsPair h TI (.ref i1) (.ref i2)/\(∃a b,IsPair h TO a b)/\t1 i h/\t2 i h
theorem z5y{K:W.Frag}{TI TO:Addr}(D:ZipA z TI TO i1 i2)(S1:Srce P w K J1 i1 t1)(S2:Srce P w K J2 i2 t2):
  Turn P w K (.Tuple elts kk pos) (Itz J1 J2) [z,TI,TO,i1,i2] z (tnZip z TI TO i1 i2 t1 t2) where
 mem:=by simp
 obj:=fun i h st b hb=>by
  obtain⟨hz,hTI,⟨a,c,hTO⟩,h1,h2⟩:=st;simp only[List.mem_cons,List.not_mem_nil,or_false] at hb;rcases hb with rfl|rfl|rfl|rfl|rfl
  ·simp_all
  ·grind
  ·grind
  ·exact S1.obj i h h1
  ·exact S2.obj i h h2
 keep:=fun i h h' st k=>by
  obtain⟨hz,hTI,⟨a,c,hTO⟩,h1,h2⟩:=st;exact⟨k z (by simp) _ hz,k TI (by simp) _ hTI,⟨a,c,k TO (by simp) _ hTO⟩,S1.keep _ _ _ h1 fun o e=>k i1 (by simp) o e,S2.keep _ _ _ h2 fun o e=>k i2 (by simp) o e⟩
 item:=by
  intro X hP hw hK hc i pins s σ H E I hf st hg;subst hP hw hK;obtain⟨hz,hTI,⟨a,c,hTO⟩,h1,h2⟩:=st;have hT:s.TypeIs (.ref z) "zip" := ⟨_,hz,rfl⟩
  refine wpAny_bind (wpAny_attempt (wpAny_callSpecial?_slot hT F.slot_zip_next
   (wpAny_call_entry F.slot_zip_next hT F.entry_zip_next
    (z3o D S1 S2 (I.ok.hd hc) I.vw (fun b hb=>(hf b hb).1) (fun b hb=>(hf b hb).noK I) hz hTI hTO h1 h2 hg.1 hg.2 fun u v x y h' tk rx ry yx yy a1 a2 a3 a4 a5 a6 a7=>wpAny_pure ?_) (F.args_zip_next_1 _))))
  refine⟨_,rfl,?_⟩;refine wpAny_letOwnedTupleGo_zip a1 fun h2' hz2 hs2=>?_;have k2:∀c o,c∉[z,TI,TO,i1,i2]->s.heap.get? c=some o->h2'.get? c=some o:=fun c o hcn e=>by
   simp only[List.mem_cons,List.not_mem_nil,or_false,not_or] at hcn;exact hs2.extBut _ _ hcn.1 (a7 c o hcn.1 hcn.2.2.1 hcn.2.2.2.1 hcn.2.2.2.2 e)
  have zlt:=Heap.lt_size hz;have I1:Inv X pins σ H { s with heap:=h2',toks:=tk }:=I.turnedL k2 hf;have FT:=I.fpOk (Nat.le_refl _) I.fresh;have hT2:=hs2.extBut _ _ (Nat.ne_of_gt zlt) a5;have I2:Inv X pins σ (upd H s.heap.objs.size (.tup [x,y])) { s with heap:=h2',toks:=tk } :=
   I1.track I.sz FT ⟨by show 2<=sizeLine;decide,[u,v],.cons rx (.cons ry .nil),⟨_,hT2,rfl,_,rfl⟩⟩
  refine⟨.ref s.heap.objs.size,_,I2,rfl,⟨_,x,y,I.fresh,yx,yy,rfl,rfl⟩,⟨hz2,?_,⟨_,_,hs2.extBut _ _ D.TOz a2⟩,S1.keep _ _ _ a3 fun o e=>hs2.extBut _ _ D.i1z e,S2.keep _ _ _ a4 fun o e=>hs2.extBut _ _ D.i2z e⟩,fun b hb=>?_⟩
  ·exact hs2.extBut _ _ D.TIz (a7 _ _ D.TIz D.TITO D.TIi1 D.TIi2 hTI)
  ·have hb2:=(hf b hb).1;rw[q0c]
   ·exact hb2
   ·have:∃o,s.heap.get? b=some o:=by
     simp only[List.mem_cons,List.not_mem_nil,or_false] at hb;rcases hb with rfl|rfl|rfl|rfl|rfl
     ·exact⟨_,hz⟩
     ·grind
     ·grind
     ·obtain⟨o,e,_⟩:=S1.obj _ _ h1;exact⟨o,e⟩
     ·obtain⟨o,e,_⟩:=S2.obj _ _ h2;exact⟨o,e⟩
    obtain⟨o,e⟩:=this;exact Nat.ne_of_lt (Heap.lt_size e)
 done:=by
  intro X hP hw hK hc i pins s σ H E I hf st hg;subst hP hw hK;obtain⟨hz,hTI,⟨a,c,hTO⟩,h1,h2⟩:=st;have hT:s.TypeIs (.ref z) "zip" := ⟨_,hz,rfl⟩
  refine wpAny_bind (wpAny_attempt (wpAny_callSpecial?_slot hT F.slot_zip_next
   (wpAny_call_entry F.slot_zip_next hT F.entry_zip_next
    (z5x D S1 S2 (I.ok.hd hc) I.vw (fun b hb=>(hf b hb).1) (fun b hb=>(hf b hb).noK I) hz hTI hTO h1 h2 hg fun h' e tk hk he=>?_) (F.args_zip_next_1 _))))
  obtain⟨o,ho,hcl⟩:=he;refine wpAny_bind (wpAny_isInstance ⟨o,ho,hcl⟩ isSubtype_stop ?_);refine wpAny_pure ⟨rfl,I.turnedL (fun c o hcn e=>?_) hf⟩;simp only[List.mem_cons,List.not_mem_nil,or_false,not_or] at hcn;exact hk c o hcn.1 hcn.2.2.1 hcn.2.2.2.1 hcn.2.2.2.2 e
 self:=fun _ _ _ _ _ st h=>wpAny_pyIter_zip st.1 h
open PySem PySem.Spec PyProof.Rows
abbrev zs1(h:Heap)(x:Str)(t:Tok):Heap:=h.push { cls:=.type (strIterType x),data:=.fields #[.str x t,.int 0 0] }
abbrev zs2(h:Heap)(x y:Str)(t u:Tok):Heap:=(zs1 h x t).push { cls:=.type (strIterType y),data:=.fields #[.str y u,.int 0 0] }
abbrev zs3(h:Heap)(x y:Str)(t u:Tok):Heap:=(zs2 h x y t u).push { cls:=.type "tuple",data:=.seq #[.ref h.objs.size,.ref (zs1 h x t).objs.size] }
abbrev zs4(h:Heap)(x y:Str)(t u:Tok):Heap:=(zs3 h x y t u).push { cls:=.type "tuple",data:=.seq #[.none,.none] }
abbrev zs5(h:Heap)(x y:Str)(t u:Tok):Heap:=(zs4 h x y t u).push { cls:=.type "zip",data:=.fields #[.none,.bool false,.bool false,.ref (zs2 h x y t u).objs.size,.ref (zs3 h x y t u).objs.size] }
set_option maxHeartbeats 4000000 in
theorem q9l(x y:Str)(t u:Tok):
  Meets (Builtin.«zip.__new__» ⟨[.type "zip",.str x t,.str y u],[]⟩) (fun _ R s=>R (.ok (.ret (.ref (zs4 s.heap x y t u).objs.size))) { s with heap:=zs5 s.heap x y t u }) :=
 .of_wp fun prog w A R s h=>by
  obtain⟨hp,g,d,tk,os⟩:=s;have hsub:=sub_zip;have i1:∀{A:Around} {E:Value->Shared->Prop} {Q:Value->Shared->Prop},Q (.ref hp.objs.size) ⟨zs1 hp x t,g,d,tk,os⟩->wpAny (model prog w) A (pyIter (.str x t)) Q E ⟨hp,g,d,tk,os⟩:=fun q=>wpAny_pyIter_strU q
  have i2:∀{A:Around} {E:Value->Shared->Prop} {Q:Value->Shared->Prop},Q (.ref (zs1 hp x t).objs.size) ⟨zs2 hp x y t u,g,d,tk,os⟩->wpAny (model prog w) A (pyIter (.str y u)) Q E ⟨zs1 hp x t,g,d,tk,os⟩:=fun q=>wpAny_pyIter_strU q
  wp_walk using i1,i2
  exact⟨_,rfl,h⟩
theorem z3p(n:Nat):ZipA (n+4) (n+2) (n+3) n (n+1):=by
 constructor<;>(show(_:Nat)≠_;lia)
section
variable{X:Cx}{elts:List Expr}{kk:Nat}{tpos:Pos}
theorem z0s{σ:St}(I:Inv X pins σ H s)(S1:Srce X.prog X.w X.K J1 s.heap.objs.size t1)(S2:Srce X.prog X.w X.K J2 (s.heap.objs.size+1) t2)(hz:IsZip h' (s.heap.objs.size+4) (s.heap.objs.size+2) (s.heap.objs.size+3) .none)(hTI:IsPair h' (s.heap.objs.size+2) (.ref s.heap.objs.size) (.ref (s.heap.objs.size+1)))(hTO:IsPair h' (s.heap.objs.size+3) .none .none)(h1:t1 0 h')(h2:t2 0 h')(hk:∀c o,s.heap.get? c=some o->h'.get? c=some o)(q:R (Itz J1 J2) H):
  wpAny (model X.prog X.w) X.A (pyIter (.ref (s.heap.objs.size+4))) (PIE X pins σ (.Tuple elts kk tpos) R) E { s with heap:=h' }:=by
 refine wpAny_pyIter_zip hz ?_;refine⟨_,_,_,_,H,rfl,I.kept (t':=s.toks) hk,z5y (z3p s.heap.objs.size) S1 S2,⟨hz,hTI,⟨_,_,hTO⟩,h1,h2⟩,fun b hb=>?_,q⟩;have hb':s.heap.objs.size<=b:=by grind
 exact I.fpOk hb' (I.hok.fresh hb')
def iZipS(ta:TA):TI:=fun σ H R=>ta σ H fun vs H1=>∃x y,vs=[.str x,.str y]/\R (Itz (Its x) (Its y)) H1
theorem z8l{p pos:Pos}(hg:Gl X "zip")(hm:X.mg "zip" = none)(ha:PA X [a,b] ta)(hs:starEach [a,b] X.env=[(false,eval a X.env),(false,eval b X.env)]:=by rfl)(hs2:starEach [b] X.env=[(false,eval b X.env)]:=by rfl):
  PI X (.Tuple elts kk tpos) (.Call (.Name "zip" p) [a,b] [] pos) (iZipS ta):=by
 intro pins s σ H R I h;refine Call_ (q4s I hg hm (by decide +kernel:bootBuiltins "zip" = some (.type "zip")) (PyProof.Rows.callWith_type1 (thn (ha pos pins s σ H _ I h) fun us s1 ⟨vs,H1,I1,r1,q1⟩=>?_) (by rw[hs,hs2]) (by rw[hs2];rfl)));obtain⟨x,y,e,q⟩:=q1;subst e;obtain⟨u,v,rfl,⟨t,rfl⟩,⟨t',rfl⟩⟩:=r1.two;refine callType_new F.called_zip (by decide) (F.typeCall_zip_2 _ _) (F.newCall_zip_2 _ _) (fun obj=>F.args_object_init_3 obj _ _) F.entry_zip_new (q9l x y t t') ?_;have z1:(zs1 s1.heap x t).objs.size=s1.heap.objs.size+1:=Heap.size_push ..;have z2:(zs2 s1.heap x y t t').objs.size=s1.heap.objs.size+2:=by simp_all
 have z3:(zs3 s1.heap x y t t').objs.size=s1.heap.objs.size+3:=by simp_all
 have z4:(zs4 s1.heap x y t t').objs.size=s1.heap.objs.size+4:=by simp_all
 have k1:∀c o,s1.heap.get? c=some o->(zs1 s1.heap x t).get? c=some o:=fun c o e=>Heap.get?_push_of_some _ e;have k2:∀c o,(zs1 s1.heap x t).get? c=some o->(zs2 s1.heap x y t t').get? c=some o:=fun c o e=>Heap.get?_push_of_some _ e;have k3:∀c o,(zs2 s1.heap x y t t').get? c=some o->(zs3 s1.heap x y t t').get? c=some o:=fun c o e=>Heap.get?_push_of_some _ e;have k4:∀c o,(zs3 s1.heap x y t t').get? c=some o->(zs4 s1.heap x y t t').get? c=some o:=fun c o e=>Heap.get?_push_of_some _ e;have k5:∀c o,(zs4 s1.heap x y t t').get? c=some o->(zs5 s1.heap x y t t').get? c=some o:=fun c o e=>Heap.get?_push_of_some _ e;have g1:(zs1 s1.heap x t).get? s1.heap.objs.size=some { cls:=.type (strIterType x),data:=.fields #[.str x t,.int 0 0] }:=Heap.get?_push_size _ rfl;have g2:(zs2 s1.heap x y t t').get? (zs1 s1.heap x t).objs.size=some { cls:=.type (strIterType y),data:=.fields #[.str y t',.int 0 0] }:=Heap.get?_push_size _ rfl;have g3:(zs3 s1.heap x y t t').get? (zs2 s1.heap x y t t').objs.size=some { cls:=.type "tuple",data:=.seq #[.ref s1.heap.objs.size,.ref (zs1 s1.heap x t).objs.size] }:=Heap.get?_push_size _ rfl;have g4:(zs4 s1.heap x y t t').get? (zs3 s1.heap x y t t').objs.size=some { cls:=.type "tuple",data:=.seq #[.none,.none] }:=Heap.get?_push_size _ rfl;have g5:(zs5 s1.heap x y t t').get? (zs4 s1.heap x y t t').objs.size=some { cls:=.type "zip",data:=.fields #[.none,.bool false,.bool false,.ref (zs2 s1.heap x y t t').objs.size,.ref (zs3 s1.heap x y t t').objs.size] }:=Heap.get?_push_size _ rfl;rw[z1] at g2;rw[z2,z1] at g3;rw[z3] at g4;rw[z4,z2,z3] at g5;rw[z4];exact⟨⟨_,g5,rfl⟩,z0s I1 (q6w _ x t) (q6w _ y t') g5 (k5 _ _ (k4 _ _ g3)) (k5 _ _ g4) ⟨_,k5 _ _ (k4 _ _ (k3 _ _ (k2 _ _ g1))),rfl,rfl⟩ ⟨_,k5 _ _ (k4 _ _ (k3 _ _ g2)),rfl,rfl⟩ (fun c o e=>k5 _ _ (k4 _ _ (k3 _ _ (k2 _ _ (k1 _ _ e))))) q⟩
def iZipL(K:W.Frag)(ta:TA):TI:=fun σ H R=>ta σ H fun vs H1=>∃a b xs ys,vs=[.ref a,.ref b]/\SqL K H1 a xs/\SqL K H1 b ys/\R (Itz (Itl K a) (Itl K b)) H1
theorem z8m{p pos:Pos}(hg:Gl X "zip")(hm:X.mg "zip" = none)(ha:PA X [a,b] ta)(hs:starEach [a,b] X.env=[(false,eval a X.env),(false,eval b X.env)]:=by rfl)(hs2:starEach [b] X.env=[(false,eval b X.env)]:=by rfl):
  PI X (.Tuple elts kk tpos) (.Call (.Name "zip" p) [a,b] [] pos) (iZipL X.K ta):=by
 intro pins s σ H R I h;refine Call_ (q4s I hg hm (by decide +kernel:bootBuiltins "zip" = some (.type "zip")) (PyProof.Rows.callWith_type1 (thn (ha pos pins s σ H _ I h) fun us s1 ⟨vs,H1,I1,r1,q1⟩=>?_) (by rw[hs,hs2]) (by rw[hs2];rfl)));obtain⟨l1,l2,xs,ys,e,hx,hy,q⟩:=q1;subst e;obtain⟨u,v,rfl,r1,r2⟩:=r1.two;cases r1;cases r2;obtain⟨its,rv,pl,_⟩:=I1.list hx;obtain⟨its2,rv2,pl2,_⟩:=I1.list hy;exact call_zip_2 pl.isList pl2.isList fun h' a1 a2 a3 a4 a5 a6 a7=>z0s I1 (q5d l1 _) (q5d l2 _) a1 a2 a3 a4 a5 a7 q
theorem z3q{J:It}{g:TG}{tb:TS}{D:Ends}(Pv:Nat->St->Hp->Prop)(h0:Pv 0 σ H)(hgo:∀i σ H,i<n->Pv i σ H->J.go i H)(hstop:∀σ H,Pv n σ H->J.stop n H)(hs:∀i x σ H H',i<n->Pv i σ H->J.yld i H x H'->g x σ H' fun σ2 H2=>tb { D with nx:=Pv (i+1),ct:=Pv (i+1),bk:=D.nx } σ2 H2)(hd:∀σ H,Pv n σ H->D.nx σ H):
  ∃W:Nat->Nat->St->Hp->Prop,(∃m,W 0 m σ H)/\∀i m σ H,W i m σ H ->
   (J.stop i H/\D.nx σ H)\/(J.go i H/\∃N:St->Hp->Prop,(∀σ' H',N σ' H'->∃m',m'<m/\W (i+1) m' σ' H')/\∀x H',J.yld i H x H'->g x σ H' fun σ2 H2=>tb { D with nx:=N,ct:=N,bk:=D.nx } σ2 H2):=by
 refine⟨fun i m σ H=>m=n-i/\i<=n/\Pv i σ H,⟨n,by simp,Nat.zero_le _,h0⟩,?_⟩;rintro i m σ H ⟨rfl,hi,p⟩;by_cases hlt:i<n
 ·exact .inr ⟨hgo i σ H hlt p,Pv (i+1),fun σ' H' p'=>⟨n-(i+1),by lia,rfl,hlt,p'⟩,fun x H' y=>hs i x σ H H' hlt p y⟩
 ·grind
theorem z5z{K:PySem.W.Frag}{g:TG}{tb:TS}{D:Ends}(Pv:Nat->St->Hp->Prop)(h0:Pv 0 σ H)(hl:∀i σ H,Pv i σ H->SqL K H a xs/\SqL K H b ys)(hs:∀i x y T σ H,xs[i]?=some x->ys[i]?=some y->Pv i σ H->H T=none->g (.ref T) σ (upd H T (.tup [x,y])) fun σ2 H2=>tb { D with nx:=Pv (i+1),ct:=Pv (i+1),bk:=D.nx } σ2 H2)(hd:∀σ H,Pv (min xs.length ys.length) σ H->D.nx σ H):
  ∃W:Nat->Nat->St->Hp->Prop,(∃m,W 0 m σ H)/\∀i m σ H,W i m σ H ->
   ((Itz (Itl K a) (Itl K b)).stop i H/\D.nx σ H)\/((Itz (Itl K a) (Itl K b)).go i H/\∃N:St->Hp->Prop,(∀σ' H',N σ' H'->∃m',m'<m/\W (i+1) m' σ' H')/\∀v H',(Itz (Itl K a) (Itl K b)).yld i H v H'->g v σ H' fun σ2 H2=>tb { D with nx:=N,ct:=N,bk:=D.nx } σ2 H2):=by
 refine z3q Pv h0 (fun i σ H h p=>⟨?_,?_⟩) (fun σ H p=>?_) (fun i v σ H H' h p yl=>?_) hd
 ·exact⟨xs,xs[i]'(by lia),(hl i σ H p).1,by simp⟩
 ·exact⟨ys,ys[i]'(by lia),(hl i σ H p).2,by simp⟩
 ·by_cases hxy:xs.length<=ys.length
  ·exact .inl ⟨xs,(hl _ σ H p).1,by lia⟩
  ·exact .inr ⟨⟨xs,xs[min xs.length ys.length]'(by lia),(hl _ σ H p).1,by simp⟩,ys,(hl _ σ H p).2,by lia⟩
 ·obtain⟨T,x1,x2,hT,⟨_,y1⟩,⟨_,y2⟩,rfl,rfl⟩:=yl;exact hs i x1 x2 T σ H (y1 xs (hl i σ H p).1) (y2 ys (hl i σ H p).2) p hT
end
open PySem PySem.Spec PyProof.Rows
structure Cal (P:Program) (w:World) (K:W.Frag) (mg:Str->Option Value) (base:Heap) (x:Str) (k:Nat) (ps:List Str) (sp:Sp):Prop where
 ex:∃f fd,FnOk P w K mg base CX0 k f fd ps sp/\mg x=some (.ref f)/\W.keepIn K (.ref f)=true/\Binds K fd ps []
structure Df (K:W.Frag) (mg:Str->Option Value) (x:Str) (st:Stmt) (ps:List Str):Prop where
 ex:∃f fd,Fun K x x st f fd/\mg x=some (.ref f)/\Binds K fd ps []
theorem Df.cal{K:W.Frag}{st:Stmt}(D:Df K mg x st ps)(S:FnScope N ps (defScope st))(len:∀vs H Q E,sp vs H Q E->vs.length=ps.length)(hbody:∀(f:Addr) (cdv:Value) (A:Around) (outer:List Env) (s:Shared) (H:Hp) (vs:List V) (Q:VK) (E:XK),Room k (A.deeper (envOfC x (defScope st) s.heap.objs.size f cdv))->sp vs H Q E ->
   ∃t,PSs (cxOf CX0 P w K mg base N x (defScope st) f cdv A outer s H E).nox (defBody st) t/\t { nx:=fun _ H'=>Q .non H',rt:=Q } (start N vs) H):Cal P w K mg base x (k+1) ps sp:=by
 obtain⟨f,fd,F,hm,hb⟩:=D.ex;exact⟨f,fd,F.ok S len fun cdv A outer s H vs Q E hr h=>hbody f cdv A outer s H vs Q E hr h,hm,F.kp,hb⟩
theorem Cal.imp{K:W.Frag}(C:Cal P w K mg base x k ps sp)(h:∀vs H Q E,sp' vs H Q E->sp vs H Q E):Cal P w K mg base x k ps sp':=by
 obtain⟨f,fd,F,r⟩:=C.ex;exact⟨f,fd,F.imp h,r⟩
section
variable{X:Cx}{x:Str}{k j:Nat}{ps:List Str}{sp:Sp}{p pos:Pos}{e:Expr}{es:List Expr}{t:TA}
theorem pe_c(C:Cal X.prog X.w X.K X.mg X.base x k ps sp)(hr:Room j X.A)(ha:PA X (e::es) t)(hjk:k<=j:=by decide)(hg:Gl X x:=by rfl)(hdb:(x==("__debug__" : Str))=false:=by decide)(he:starEach (e::es) X.env=(false,eval e X.env)::starEach es X.env:=by rfl)(hpl:(backTo pos (starEach es X.env)).any (·.1)=false:=by rfl):
  PE X (.Call (.Name x p) (e::es) [] pos) (tCall sp [] E0 t):=by
 obtain⟨f,fd,F,hm,hk,hb⟩:=C.ex;exact z8g F (hr.mono hjk) hg hm hk hb .nil pass0 ha hdb he hpl
theorem pe_c0(C:Cal X.prog X.w X.K X.mg X.base x k ps sp)(hr:Room j X.A)(hjk:k<=j:=by decide)(hg:Gl X x:=by rfl)(hdb:(x==("__debug__" : Str))=false:=by decide):
  PE X (.Call (.Name x p) [] [] pos) (tCall sp [] E0 tNil):=by
 obtain⟨f,fd,F,hm,hk,hb⟩:=C.ex;exact z5o F (hr.mono hjk) hg hm hk hb .nil pass0 hdb
end
theorem PI.or(h1:PI X tg l w1)(h2:PI X tg l w2):PI X tg l (fun σ H R=>w1 σ H R\/w2 σ H R):=by
 intro pins s σ H R I h;rcases h with h|h
 ·exact h1 pins s σ H R I h
 ·exact h2 pins s σ H R I h
structure FeedAt (H:Hp) (a b:Addr):Prop where
 fa:∃i j:Int,H a=some (.lst [.ref b,.int i,.int j])
 fb:∃ns:List Int,H b=some (.lst (ns.map V.int))
structure Fd (a b:Addr) (H H':Hp):Prop where
 feed:FeedAt H' a b
 keep:∀c o,H c=some o->c≠a->H' c=some o
theorem FeedAt.ne(F:FeedAt H a b):b≠a:=by
 obtain⟨⟨i,j,h⟩,ns,h'⟩:=F;refine z2q h' h ?_;intro z;cases ns with
 |nil=>cases z
 |cons n r=>simp at z
theorem Fd.refl(F:FeedAt H a b):Fd a b H H:=⟨F,fun _ _ h _=>h⟩
theorem Fd.trans(x:Fd a b H H1)(y:Fd a b H1 H2):Fd a b H H2:=⟨y.feed,fun c o h hc=>y.keep c o (x.keep c o h hc) hc⟩
theorem Fd.free(x:Fd a b H H')(h:H' p=none):H p=none:=by
 cases e:H p with
 |none=>rfl
 |some o =>
  by_cases hp:p=a
  ·subst hp;obtain⟨i,j,q⟩:=x.feed.fa;rw[h] at q;cases q
  ·rw[x.keep p o e hp] at h;cases h
theorem FeedAt.upd(F:FeedAt H a b)(ha:a≠p)(hb:b≠p):FeedAt (upd H p o) a b :=
 ⟨let ⟨i,j,h⟩:=F.fa;⟨i,j,by rw[q0c ha];exact h⟩,let ⟨ns,h⟩:=F.fb;⟨ns,by rw[q0c hb];exact h⟩⟩
theorem FeedAt.na(F:FeedAt H a b)(h:H p=none):a≠p:=by obtain⟨i,j,q⟩:=F.fa;exact q0h q h
theorem FeedAt.nb(F:FeedAt H a b)(h:H p=none):b≠p:=by obtain⟨ns,q⟩:=F.fb;exact q0h q h
theorem Fd.put(x:Fd a b H H')(F:FeedAt H a b)(h:H p=none):Fd a b H (upd H' p o) :=
 ⟨x.feed.upd (F.na h) (F.nb h),fun c u e hc=>by rw[q0c (q0h e h)];exact x.keep c u e hc⟩
theorem Fd.new(x:Fd a b H H')(h:H' p=none):Fd a b H (upd H' p o) :=
 ⟨x.feed.upd (x.feed.na h) (x.feed.nb h),fun c u e hc=>by rw[q0c (q0h (x.keep c u e hc) h)];exact x.keep c u e hc⟩
theorem Fd.at(x:Fd a b H H')(h:H c=some o)(hc:c≠a):H' c=some o:=x.keep c o h hc
theorem Fd.same(x:Fd a b H H')(s:Same H' H2):Fd a b H H2 :=
 ⟨⟨let ⟨i,j,h⟩:=x.feed.fa;⟨i,j,s _ _ h⟩,let ⟨ns,h⟩:=x.feed.fb;⟨ns,s _ _ h⟩⟩,fun c o e hc=>s _ _ (x.keep c o e hc)⟩
theorem Same.new(s:Same H H')(h:H' p=none):Same H (upd H' p o):=fun c u e=>by rw[q0c (q0h (s c u e) h)];exact s c u e
theorem Same.put(s:Same H H')(h:H p=none):Same H (upd H' p o):=fun c u e=>by rw[q0c (q0h e h)];exact s c u e
def spDraw:Sp:=fun vs H Q _=>∃a b m,vs=[.ref a,.int m]/\FeedAt H a b/\0<m/\m<1073741824/\∀(r:Int) H',0<=r->r<m->Fd a b H H'->Q (.int r) H'
def spConst(x:Str):Sp:=fun vs H Q _=>vs=[]/\Q (.str x) H
theorem z8n{xs:List α}(i:Int)(h:xs≠[]):∃x,x∈xs/\atI xs (i%(xs.length:Int))=some x:=by
 have hl:0<(xs.length:Int):=by
  cases xs with
  |nil=>exact absurd rfl h
  |cons a r=>grind
 have h0:=Int.emod_nonneg i (show(xs.length:Int)≠0 by lia);have h1:=Int.emod_lt_of_pos i hl;have hn:(i%(xs.length:Int)).toNat<xs.length:=by lia
 unfold atI ixN;rw[if_pos h0,if_pos h1];simp[hn]
theorem q6b{xs:List α}(h0:0<=i)(h1:i<(xs.length:Int)):∃x,xs[i.toNat]?=some x/\atI xs i=some x:=by
 have hn:i.toNat<xs.length:=by lia
 unfold atI ixN;rw[if_pos h0,if_pos h1];simp[hn]
open PySem PySem.Spec PyProof.Rows
mutual
inductive Dt (K : W.Frag) (H : Hp) : V → PyData → Prop
  | non : Dt K H .non .none
  | bl (b : Bool) : Dt K H (.bl b) (.bool b)
  | int (i : Int) : Dt K H (.int i) (.int i)
  | str (x : Str) : Dt K H (.str x) (.str x)
  | lst {a : Addr} {xs : List V} {ds : List PyData} : SqL K H a xs → Dts K H xs ds → Dt K H (.ref a) (.list ds)
  | tup {a : Addr} {xs : List V} {ds : List PyData} : SqT K H a xs → Dts K H xs ds → Dt K H (.ref a) (.tuple ds)
inductive Dts (K : W.Frag) (H : Hp) : List V → List PyData → Prop
  | nil : Dts K H [] []
  | cons {x : V} {xs : List V} {d : PyData} {ds : List PyData} : Dt K H x d → Dts K H xs ds → Dts K H (x :: xs) (d :: ds)
end
section
variable{X:Cx}{pins:List (Addr×Obj)}{σ:St}{H:Hp}{s:Shared}
mutual
theorem Dt.reads (I : Inv X pins σ H s) : ∀ {x : V} {d : PyData} {u : Value}, Dt X.K H x d → RelV x u → ∃ as, Reads s.heap u d as
  | _, _, _, .non, r => by cases r; exact ⟨_, .none⟩
  | _, _, _, .bl b, r => by cases r; exact ⟨_, .bool b⟩
  | _, _, _, .int i, r => by obtain ⟨t, rfl⟩ := r; exact ⟨_, .int i t⟩
  | _, _, _, .str x, r => by obtain ⟨t, rfl⟩ := r; exact ⟨_, .str x t⟩
  | _, _, _, .lst q ds, r => by
    cases r
    obtain ⟨its, rv, ⟨o, n, e, c, _, d⟩, _⟩ := I.list q
    obtain ⟨as, h⟩ := Dts.reads I ds rv
    exact ⟨_, .list e c d (by simpa using h)⟩
  | _, _, _, .tup q ds, r => by
    cases r
    obtain ⟨its, rv, ⟨o, e, c, n, d⟩, _⟩ := I.tuple q
    obtain ⟨as, h⟩ := Dts.reads I ds rv
    exact ⟨_, .tuple e c d (by simpa using h)⟩
theorem Dts.reads (I : Inv X pins σ H s) : ∀ {xs : List V} {ds : List PyData} {us : List Value}, Dts X.K H xs ds → Vals xs us → ∃ as, ReadsAll s.heap us ds as
  | _, _, _, .nil, .nil => ⟨_, .nil⟩
  | _, _, _, .cons d ds, .cons r rs => by
    obtain ⟨as, h⟩ := Dt.reads I d r
    obtain ⟨bs, h'⟩ := Dts.reads I ds rs
    exact ⟨_, .cons h h'⟩
end
end
section
variable{X:Cx}{k:Nat}
def rEqD(K:W.Frag):R2:=fun x y H Q=>∃d e,Dt K H x d/\Dt K H y e/\d.canLay0=true/\e.canLay0=true/\min d.depth e.depth<=100/\Q (.bl (PyData.eqv d e)) H
def rNeD(K:W.Frag):R2:=fun x y H Q=>∃d e,Dt K H x d/\Dt K H y e/\d.canLay0=true/\e.canLay0=true/\min d.depth e.depth<=100/\Q (.bl (!PyData.eqv d e)) H
theorem op_eqD(hr:Room k X.A):OpR X (compareOp .Eq) (rEqD X.K):=by
 intro pins s σ H x y v u Q I rx ry h;obtain⟨d,e,hd,he,cd,ce,hm,q⟩:=h;obtain⟨as,r1⟩:=hd.reads I rx;obtain⟨bs,r2⟩:=he.reads I ry;have hu:=hr.un;exact SeqAt.rcAt_reads r1 r2 cd ce (by lia) X.prog X.w X.xe _ ⟨.bl _,H,I,rfl,q⟩
theorem op_neD(hr:Room k X.A):OpR X (compareOp .NotEq) (rNeD X.K):=by
 intro pins s σ H x y v u Q I rx ry h;obtain⟨d,e,hd,he,cd,ce,hm,q⟩:=h;obtain⟨as,r1⟩:=hd.reads I rx;obtain⟨bs,r2⟩:=he.reads I ry;have hu:=hr.un;exact SeqAt.rcNeAt_reads r1 r2 cd ce (by lia) X.prog X.w X.xe _ ⟨.bl _,H,I,rfl,q⟩
def rAddU:R2:=fun x y H Q=>(∃i j,x=.int i/\y=.int j/\Q (.int (i+j)) H)\/(∃i j,x=.str i/\y=.str j/\i.length+j.length<=sizeLine/\Q (.str (i++j)) H)\/rCat x y H Q
theorem q1d:OpR X (binaryOp .Add) rAddU:=op_add.or (op_add_str.or op_cat)
def rMulU:R2:=fun x y H Q=>(∃i j,x=.int i/\y=.int j/\CMul i j/\Q (.int (i*j)) H)\/rMulS x y H Q\/rRep x y H Q
theorem q9m:OpR X (binaryOp .Mult) rMulU:=op_mul.or (op_mulS.or op_rep)
def rEqU(K:W.Frag):R2:=fun x y H Q=>rEq x y H Q\/rEqD K x y H Q
theorem op_eqU(hr:Room k X.A):OpR X (compareOp .Eq) (rEqU X.K):=op_eq.or (op_eqD hr)
def rNeU(K:W.Frag):R2:=fun x y H Q=>rNe x y H Q\/rNeD K x y H Q
theorem op_neU(hr:Room k X.A):OpR X (compareOp .NotEq) (rNeU X.K):=op_ne.or (op_neD hr)
def rSlU(K:W.Frag):V->Option Int->Option Int->Hp->VK->Prop:=fun x lo hi H Q=>rSlS x lo hi H Q\/rSlL K x lo hi H Q\/rSlT K x lo hi H Q
theorem sl_U:SlR X (rSlU X.K):=sl_str.or (sl_list.or sl_tup)
def iAny(K:W.Frag)(tl:TE):TI:=fun σ H R=>tl σ H fun x H1=>(∃a,x=.ref a/\(∃xs,SqL K H1 a xs)/\R (Itl K a) H1)\/(∃a,x=.ref a/\(∃xs,SqT K H1 a xs)/\R (Itt K a) H1)\/∃z,x=.str z/\R (Its z) H1
theorem pi_any(hl:PE X l tl):PI X tg l (iAny X.K tl):=by
 intro pins s σ H R I h;refine thn (hl pins s σ H _ I h) fun v s1 ⟨x,H1,I1,r1,q1⟩=>?_;have fp:∀b∈[s1.heap.objs.size],FpOk X pins H1 b:=fun b hb=>by
  have e:b=s1.heap.objs.size:=by grind
  subst e;exact I1.fpOk (Nat.le_refl _) (I1.hok.fresh (Nat.le_refl _))
 rcases q1 with⟨a,e,⟨xs,hq⟩,q⟩|⟨a,e,⟨xs,hq⟩,q⟩|⟨z,e,q⟩
 ·subst e;cases r1;obtain⟨its,rv,p,hz⟩:=I1.list hq;exact wpAny_pyIter_list p.isList ⟨s1.heap.objs.size,[s1.heap.objs.size],_,_,H1,rfl,I1.kept (t':=s1.toks) fun b o e=>Heap.get?_push_of_some _ e,z2w a _,⟨_,Heap.get?_push_size _ rfl,rfl,rfl⟩,fp,q⟩
 ·subst e;cases r1;obtain⟨its,rv,p,hz⟩:=I1.tuple hq;exact wpAny_pyIter_tuple (show s1.heap.IsTuple a its.toArray from p) ⟨s1.heap.objs.size,[s1.heap.objs.size],_,_,H1,rfl,I1.kept (t':=s1.toks) fun b o e=>Heap.get?_push_of_some _ e,z1l a _,⟨_,Heap.get?_push_size _ rfl,rfl,rfl⟩,fp,q⟩
 ·subst e;obtain⟨t,rfl⟩:=r1;cases ha:z.cps.all (· < 128)
  ·exact wpAny_pyIter_wide ha ⟨s1.heap.objs.size,[s1.heap.objs.size],_,_,H1,rfl,I1.kept (t':=s1.toks) fun b o e=>Heap.get?_push_of_some _ e,z3n _ z t,⟨Nat.zero_le _,_,Heap.get?_push_size _ rfl,rfl,rfl⟩,fp,q⟩
  ·exact wpAny_pyIter_ascii ha ⟨s1.heap.objs.size,[s1.heap.objs.size],_,_,H1,rfl,I1.kept (t':=s1.toks) fun b o e=>Heap.get?_push_of_some _ e,z3m _ z t,⟨Nat.zero_le _,_,Heap.get?_push_size _ rfl,rfl,rfl⟩,fp,q⟩
def iZip(K:W.Frag)(ta:TA):TI:=fun σ H R=>iZipS ta σ H R\/iZipL K ta σ H R
theorem pi_zip{elts:List Expr}{kk:Nat}{tpos:Pos}{p pos:Pos}(hg:Gl X "zip")(hm:X.mg "zip" = none)(ha:PA X [a,b] ta)(hs:starEach [a,b] X.env=[(false,eval a X.env),(false,eval b X.env)]:=by rfl)(hs2:starEach [b] X.env=[(false,eval b X.env)]:=by rfl):
  PI X (.Tuple elts kk tpos) (.Call (.Name "zip" p) [a,b] [] pos) (iZip X.K ta):=(z8l hg hm ha hs hs2).or (z8m hg hm ha hs hs2)
end
open PySem PySem.Spec PyProof.Rows
section
variable{X:Cx}{a b o e l:Expr}{es:List Expr}{ta tb to te tl:TE}{t:TA}{pos p2 apos cpos:Pos}{k:Nat}{name:Str}{T idn:String}{r:V->List V->Hp->VK->Prop}
theorem ix_k(K:W.Frag)(hK:X.K=K):IxR X (rIx K):=by subst hK;exact ix_seq
theorem q5e(K:W.Frag)(hK:X.K=K):CallR X (.builtin "len") (fun xs H Q=>∃x n,xs=[x]/\LenV K x H n/\Q (.int n) H):=by subst hK;exact z5l
theorem eq_k(K:W.Frag)(hK:X.K=K)(hr:Room k X.A):OpR X (compareOp .Eq) (rEqU K):=by subst hK;exact op_eqU hr
theorem ne_k(K:W.Frag)(hK:X.K=K)(hr:Room k X.A):OpR X (compareOp .NotEq) (rNeU K):=by subst hK;exact op_neU hr
theorem sl_k(K:W.Frag)(hK:X.K=K):SlR X (rSlU K):=by subst hK;exact sl_U
theorem q3n{tg:Expr}(K:W.Frag)(hK:X.K=K)(hl:PE X l tl):PI X tg l (iAny K tl):=by subst hK;exact pi_any hl
theorem zip_k{elts:List Expr}{kk:Nat}{tpos:Pos}{p:Pos}(K:W.Frag)(hK:X.K=K)(hg:Gl X "zip")(hm:X.mg "zip" = none)(ha:PA X [a,b] t)(hs:starEach [a,b] X.env=[(false,eval a X.env),(false,eval b X.env)]:=by rfl)(hs2:starEach [b] X.env=[(false,eval b X.env)]:=by rfl):
  PI X (.Tuple elts kk tpos) (.Call (.Name "zip" p) [a,b] [] pos) (iZip K t):=by subst hK;exact pi_zip hg hm ha hs hs2
theorem all_k(K:W.Frag)(hK:X.K=K)(hc:X.calm=true):CallR X (.builtin "all") (fun xs H Q=>∃(p:Addr) (bs:List Bool),xs=[.ref p]/\SqL K H p (bs.map V.bl)/\Q (.bl (bs.all id)) H):=by subst hK;exact z5v hc
theorem isi_k(K:W.Frag)(hK:X.K=K):CallR X (.builtin "isinstance") (fun xs H Q=>∃x c t b,xs=[x,.ty c]/\TyOf K H x t/\W.kitOne K t (.type c)=some b/\Q (.bl b) H):=by subst hK;exact q9k
theorem z7k(K:W.Frag)(hK:X.K=K):CallR X (.type "list") (fun xs H Q=>∃p ys,xs=[.ref p]/\(SqL K H p ys\/SqT K H p ys)/\∀l,H l=none->Q (.ref l) (upd H l (.lst ys))):=by subst hK;exact q7y
theorem z7l(K:W.Frag)(hK:X.K=K):MtM X "str.join" (rJoin K):=by subst hK;exact z8k
theorem q2y{kk n:Nat}{u:TGs}(K:W.Frag)(hK:X.K=K)(hc:X.calm=true)(h:PGs X es u)(hn:(assignEach es X.env).length=n:=by rfl)(hst:(assignEach es X.env).findIdx? (·.1)=none:=by rfl):PG X (.Tuple es kk pos) (gTup K n u):=by subst hK;exact pg_tup hc h hn hst
theorem bm_k(K:W.Frag)(hK:X.K=K)(pa:PlainAttrs T)(slot:Slot T name idn)(hty:typeOf (.builtin idn)=pure (.type "method_descriptor"))(hm:MtR X idn r)(ho:PE X o to)(ha:PA X (e::es) t)(hbase:attributeBase o name X.env (eval o X.env)=eval o X.env:=by rfl)(hfew:((backTo cpos (starEach (e::es) X.env)).all (fun x => !x.1)&&(backToKw cpos (keywordEach [] X.env)).all (fun x=>x.1.isSome)
   && decide ((e::es).length+([]:List Keyword).length+(if ([]:List Keyword).isEmpty then 0 else 1)<30))=true:=by rfl)(hline:(apos.endLine==cpos.line)=true:=by rfl)(hs:starEach (e::es) X.env=(false,eval e X.env)::starEach es X.env:=by rfl)(hplain:(backTo cpos (starEach es X.env)).any (·.1)=false:=by rfl):
  PE X (.Call (.Attribute o name apos) (e::es) [] cpos) (tBM K T r to t):=by subst hK;exact pe_bm pa slot hty hm ho ha hbase hfew hline hs hplain
theorem q9n(K:W.Frag)(hK:X.K=K)(pa:PlainAttrs T)(slot:Slot T name idn)(hty:typeOf (.builtin idn)=pure (.type "method_descriptor"))(hm:MtR X idn r)(ho:PE X o to)(hbase:attributeBase o name X.env (eval o X.env)=eval o X.env:=by rfl)(hline:(apos.endLine==cpos.line)=true:=by rfl):PE X (.Call (.Attribute o name apos) [] [] cpos) (tBM0 K T r to):=by subst hK;exact pe_bm0 pa slot hty hm ho hbase hline
theorem q6x(K:W.Frag)(hK:X.K=K)(ha:PE X a ta)(he:∀whole,isTrue a X.env whole=(do let v<-whole;standAt a.pos;holding [v] (truthy v))):
  PT X a (fun σ H Q=>ta σ H fun x H'=>∃k,TruV K x H' k/\Q k H'):=by subst hK;exact z5k ha he
end
theorem q9o{lo:Int}{r:St}{Fin:List V->Hp->Prop}(Pv:Nat->List V->Hp->Prop)(h0:Pv 0 [] (upd H1 D (.lst [])))(hl:∀i ys H,Pv i ys H->H D=some (.lst ys))(hs:∀i ys H,i<n->Pv i ys H->te (some (.int (lo+i))::r) H fun v H4=>H4 D=some (.lst ys)/\ys.length<sizeLine/\Pv (i+1) (ys++[v]) (upd H4 D (.lst (ys++[v]))))(hd:∀ys H,Pv n ys H->Fin ys H):CompW (Itr lo n) (gName 0) tIf0 te (none::r) D Fin H1 :=
 z1x Pv h0 hl (fun i ys H h p=>(⟨q0q,iteT (hs i ys H h p)⟩:Keeps0 (none::r) (some (.int (lo+i))::r)/\if true=true then te (some (.int (lo+i))::r) H fun v H4=>H4 D=some (.lst ys)/\ys.length<sizeLine/\Pv (i+1) (ys++[v]) (upd H4 D (.lst (ys++[v]))) else Pv (i+1) ys H)) hd
theorem z3r{r:St}{Fin:List V->Hp->Prop}(Pv:Nat->List V->Hp->Prop)(h0:Pv 0 [] (upd H1 D (.lst [])))(hl:∀i ys H,Pv i ys H->H D=some (.lst ys))(hs:∀i ys H c,z.cps[i]?=some c->Pv i ys H->te (some (.str ⟨#[c]⟩)::r) H fun v H4=>H4 D=some (.lst ys)/\ys.length<sizeLine/\Pv (i+1) (ys++[v]) (upd H4 D (.lst (ys++[v]))))(hd:∀ys H,Pv z.length ys H->Fin ys H):CompW (Its z) (gName 0) tIf0 te (none::r) D Fin H1 :=
 z5w Pv h0 hl (fun i ys H c h p=>(⟨q0q,iteT (hs i ys H c h p)⟩:Keeps0 (none::r) (some (.str ⟨#[c]⟩)::r)/\if true=true then te (some (.str ⟨#[c]⟩)::r) H fun v H4=>H4 D=some (.lst ys)/\ys.length<sizeLine/\Pv (i+1) (ys++[v]) (upd H4 D (.lst (ys++[v]))) else Pv (i+1) ys H)) hd
theorem q6c{K:W.Frag}{r:St}{Fin:List V->Hp->Prop}(Pv:Nat->List V->Hp->Prop)(h0:Pv 0 [] (upd H1 D (.lst [])))(hl:∀i ys H,Pv i ys H->H D=some (.lst ys)/\SqL K H a xs)(hs:∀i ys H x,xs[i]?=some x->Pv i ys H->te (some x::r) H fun v H4=>H4 D=some (.lst ys)/\ys.length<sizeLine/\Pv (i+1) (ys++[v]) (upd H4 D (.lst (ys++[v]))))(hd:∀ys H,Pv xs.length ys H->Fin ys H):CompW (Itl K a) (gName 0) tIf0 te (none::r) D Fin H1 :=
 q1z Pv h0 hl (fun i ys H x h p=>(⟨q0q,iteT (hs i ys H x h p)⟩:Keeps0 (none::r) (some x::r)/\if true=true then te (some x::r) H fun v H4=>H4 D=some (.lst ys)/\ys.length<sizeLine/\Pv (i+1) (ys++[v]) (upd H4 D (.lst (ys++[v]))) else Pv (i+1) ys H)) hd
def tSeqJ(t u:TS):TS:=fun D σ H=>∃J:St->Hp->Prop,(∀σ' H',J σ' H'->u D σ' H')/\t { D with nx:=J } σ H
theorem q2l{X:Cx}{st:Stmt}{rest:List Stmt}{t u:TS}(h1:PS X st t)(h2:PSs X rest u):PSs X (st::rest) (tSeqJ t u):=by
 intro pins s σ H D I h;obtain⟨J,hJ,h⟩:=h;refine wpAny_execs_cons (thn (h1 pins s σ H { D with nx:=J } I h) fun f s1 q=>?_);cases f with
 |next =>
  obtain⟨σ',H',I',q⟩:=q;exact h2 pins s1 σ' H' D I' (hJ σ' H' q)
 |ret v=>exact q
 |brk=>exact q
 |cont=>exact q
def tVJ(t:TE):TE:=fun σ H Q=>∃J:VK,(∀v H',J v H'->Q v H')/\t σ H J
theorem pe_j{X:Cx}{e:Expr}{t:TE}(h:PE X e t):PE X e (tVJ t):=by
 intro pins s σ H Q I hw;obtain⟨J,hJ,hw⟩:=hw;exact thn (h pins s σ H J I hw) fun u s' ⟨v,H',I',r,q⟩=>⟨v,H',I',r,hJ v H' q⟩
def tTJ(t:TT):TT:=fun σ H Q=>∃J:Bool->Hp->Prop,(∀b H',J b H'->Q b H')/\t σ H J
theorem pt_j{X:Cx}{e:Expr}{t:TT}(h:PT X e t):PT X e (tTJ t):=by
 intro pins s σ H Q I hw;obtain⟨J,hJ,hw⟩:=hw;exact thn (h pins s σ H J I hw) fun u s' ⟨H',I',q⟩=>⟨H',I',hJ u H' q⟩
theorem iteB{B:Prop}(hA:c=true->A)(hB:c=false->B):if c=true then A else B:=by grind
end L2
namespace TX
open PySem PySem.Spec PyProof.Rows L2
abbrev tl(x:Str):List Nat:=x.cps.toList
abbrev mk(l:List Nat):Str:=⟨l.toArray⟩
theorem q2j(l:List Nat):tl (mk l)=l:=by simp[tl,mk]
theorem z6a(x:Str):mk (tl x)=x:=by simp[tl,mk]
theorem ext(h:tl x=tl y):x=y:=ext_toList h
theorem len(x:Str):x.length=(tl x).length:=by simp[tl,Str.length]
theorem z3s(x y:Str):tl (x++y)=tl x++tl y:=by
 show(x.cps++y.cps).toList=_;simp[tl]
theorem get{i:Nat}(h:x.cps[i]?=some c):(tl x)[i]?=some c:=by simpa[tl] using h
theorem z8o(z:Str)(ts:List Str):Txt.join z ts=Str.join z ts:=StrLaws.glued_eq_join z ts
theorem z8p:∀ts:List Str,tl (Txt.join (Str.ofString "") ts)=(ts.map tl).flatten:=by
 intro ts;rw[z8o];induction ts with
 |nil=>rfl
 |cons a r ih =>
  cases r with
  |nil=>simp[Str.join]
  |cons b r =>
   show tl (a++Str.ofString "" ++ Str.join (Str.ofString "") (b::r))=_;rw[z3s,z3s,ih];have e:tl (Str.ofString "")=[]:=by decide +kernel
   rw[e];simp
theorem q8e(cs:List Nat):Txt.join (Str.ofString "") (cs.map fun c=>(⟨#[c]⟩:Str))=mk cs:=by
 apply ext;rw[z8p,q2j,List.map_map];induction cs with
 |nil=>rfl
 |cons c r ih=>rw[List.map_cons,List.flatten_cons,ih];rfl
theorem z0t(cs:List Nat):((cs.map fun c=>(⟨#[c]⟩:Str)).map (·.length)).sum=cs.length:=by
 induction cs with
 |nil=>rfl
 |cons c r ih=>rw[List.map_cons,List.map_cons,List.sum_cons,ih,List.length_cons];show 1+_=_;lia
theorem lower(h:∀c∈tl x,c<128):tl (Txt.lower x)=(tl x).map lo1:=by
 rw[lower_ascii h];simp[tl]
theorem small(h:n<=1000000):n<=sizeLine:=by rw[sizeLine_eq];lia
theorem small'(h:n<=1000000):n<sizeLine:=by rw[sizeLine_eq];lia
end TX
namespace L2
open PySem PySem.Spec PyProof.Rows TX
def spText:Sp:=fun vs H Q _=>∃a b g n,vs=[.ref a,.str g,.int n]/\FeedAt H a b/\0<g.length/\g.length<=1000/\0<=n/\n<=1000 /\
 ∀(t:List Nat) H',t.length=n.toNat->(∀c∈t,c∈tl g)->Fd a b H H'->Q (.str (mk t)) H'
open PySem PySem.Spec PyProof.Rows
section
variable{prog:Program}{w:World}{K:W.Frag}{A:Around}{E:Value->Shared->Prop}{s:Shared}{J:It}{st:Nat->Heap->Prop}{e it:Addr}{H:Hp}
theorem z1y{i:Nat}{Q:Value->Shared->Prop}(S:Srce prog w K J it st)(hh:A.handled=none)(vw:Vw K H s.heap)(nH:H it=none)(nK:K.lookup it=none)(he:IsEnum s.heap e it i old)(hst:st i s.heap)(go:J.go i H)(hne:e≠it)(hQ:∀u x h' tk,RelV x u->J.yld i H x H->IsEnumOut h' e it ((i:Int)+1) u s.heap.objs.size->st (i+1) h'->h'.get? s.heap.objs.size=some { cls:=.type "tuple",data:=.seq #[.int i tk,u] }->h'.objs.size=s.heap.objs.size+1 ->
   (∀b o,b≠e->b≠it->s.heap.get? b=some o->h'.get? b=some o)->Q (.ref s.heap.objs.size) { s with heap:=h',toks:=tk+1 }):
  wpAny (model prog w) A (Builtin.«enumerate.__next__» ⟨[.ref e],[]⟩) (fun fin s'=>∃v,fin=.done (.ret v)/\Q v s') E s:=by
 obtain⟨hp,g,d,tk₀,os⟩:=s;show wpAny _ _ (field (.ref e) 2 >>= _) _ _ _;refine wpAny_bind (wpAny_field he rfl rfl ?_);refine wpAny_bind (S.item _ i _ H _ _ hh vw nH nK hst go fun u x h₁ tk rx yx st₁ hs₁=>?_);have he₁:=(hs₁.2 e hne).trans he;refine wpAny_bind (wpAny_field he₁ rfl rfl ?_);refine wpAny_bind (wpAny_field he₁ rfl rfl ?_);refine wpAny_bind (wpAny_mkInt ?_);refine wpAny_bind (wpAny_setField_rec he₁ (by simp) fun h₂ he₂ hs₂=>?_);refine wpAny_bind (wpAny_setField_rec he₂ (by simp) fun h₃ he₃ hs₃=>?_);refine wpAny_bind (wpAny_newTuple ?_);have he₄:IsEnum (h₃.push { cls:=.type "tuple",data:=.seq #[.int i tk,u] }) e it ((i:Int)+1) old:=Heap.get?_push_of_some _ he₃;generalize hh₄:h₃.push { cls:=.type "tuple",data:=.seq #[.int i tk,u] }=h₄ at he₄;have hsz:h₃.objs.size=hp.objs.size:=by rw[hs₃.1,hs₂.1,hs₁.1]
 have hel:=Heap.lt_size he;have ht₄:h₄.get? hp.objs.size=some { cls:=.type "tuple",data:=.seq #[.int i tk,u] }:=by rw[<- hh₄,<- hsz];exact Heap.get?_push_size _ rfl
 have hz₄:h₄.objs.size=hp.objs.size+1:=by rw[<- hh₄,Heap.size_push,hsz]
 have hk₄:∀b o,b≠e->b≠it->hp.get? b=some o->h₄.get? b=some o:=fun b o hbe hbi hb=>by
  rw[<- hh₄];exact Heap.get?_push_of_some _ (hs₃.extBut b o hbe (hs₂.extBut b o hbe (hs₁.extBut b o hbi hb)))
 have hit₄:st (i+1) h₄:=S.keep _ _ _ st₁ fun o y=>by
  rw[<- hh₄];exact Heap.get?_push_of_some _ (hs₃.extBut it o hne.symm (hs₂.extBut it o hne.symm y))
 rw[hsz];refine wpAny_bind ?_;refine wpAny_bind (wpAny_field he₄ rfl rfl (wpAny_pure ?_));refine wpAny_bind (wpAny_rule ?_);refine wpAny_bind (wpAny_field he₄ rfl rfl ?_);refine wpAny_bind (wpAny_setField_rec he₄ (by simp) fun h₅ he₅ hs₅=>?_);refine wpAny_bind ?_;refine wpAny_bind (wpAny_setField_rec he₅ (by simp) fun h₆ he₆ hs₆=>?_);refine wpAny_setField_rec he₆ (by simp) fun h₇ he₇ hs₇=>?_;have up:=fun b o hb y=>hs₇.extBut b o hb (hs₆.extBut b o hb (hs₅.extBut b o hb y));refine wpAny_bind (wpAny_letGo (wpAny_pure ⟨_,rfl,hQ u x h₇ tk rx yx he₇ (S.keep _ _ _ hit₄ fun o y=>up _ o hne.symm y) (up _ _ (Nat.ne_of_gt hel) ht₄) ?_ fun b o hbe hbi hb=>up b o hbe (hk₄ b o hbe hbi hb)⟩));rw[hs₇.1,hs₆.1,hs₅.1,hz₄]
end
def Ite(J:It):It:=⟨fun i H=>J.go i H,fun i H x H'=>∃T y,H T=none/\J.yld i H y H/\x=.ref T/\H'=upd H T (.tup [.int i,y]),fun i H=>J.stop i H⟩
theorem z3t{K:W.Frag}{st:Nat->Heap->Prop}(hne:e≠it)(S:Srce P w K J it st):
  Turn P w K (.Tuple elts kk pos) (Ite J) [e,it] e (fun i h=>(∃old,IsEnum h e it i old)/\st i h) where
 mem:=by simp
 obj:=fun i h hs b hb=>by
  obtain⟨⟨old,he⟩,h1⟩:=hs;simp only[List.mem_cons,List.not_mem_nil,or_false] at hb;rcases hb with rfl|rfl
  ·grind
  ·exact S.obj i h h1
 keep:=fun i h h' hs k=>by
  obtain⟨⟨old,he⟩,h1⟩:=hs;exact⟨⟨old,k e (by simp) _ he⟩,S.keep _ _ _ h1 fun o y=>k it (by simp) o y⟩
 item:=by
  intro X hP hw hK hc i pins s σ H E I hf hs hg;subst hP hw hK;obtain⟨⟨old,he⟩,h1⟩:=hs;have hT:s.TypeIs (.ref e) "enumerate" := ⟨_,he,rfl⟩
  refine wpAny_bind (wpAny_attempt (wpAny_callSpecial?_slot hT F.slot_enumerate_next
   (wpAny_call_entry F.slot_enumerate_next hT F.entry_enumerate_next
    (z1y S (I.ok.hd hc) I.vw (hf it (by simp)).1 ((hf it (by simp)).noK I) he h1 hg hne fun u x h' tk rx yx a1 a2 a3 a4 a5=>wpAny_pure ?_) (F.args_enumerate_next_1 _))))
  refine⟨_,rfl,?_⟩;refine wpAny_letOwnedTupleGo_enum a1 fun h2 he2 hs2=>?_;have k2:∀c o,c∉[e,it]->s.heap.get? c=some o->h2.get? c=some o:=fun c o hcn y=>by
   simp only[List.mem_cons,List.not_mem_nil,or_false,not_or] at hcn;exact hs2.extBut _ _ hcn.1 (a5 c o hcn.1 hcn.2 y)
  have elt:=Heap.lt_size he;have ilt:it<s.heap.objs.size:=by obtain⟨o,y,_⟩:=S.obj _ _ h1;exact Heap.lt_size y
  have I1:Inv X pins σ H { s with heap:=h2,toks:=tk+1 }:=I.turnedL k2 hf;have FT:=I.fpOk (Nat.le_refl _) I.fresh;have hT2:h2.get? s.heap.objs.size=some { cls:=.type "tuple",data:=.seq #[.int i tk,u] }:=hs2.extBut _ _ (Nat.ne_of_gt elt) a3;have I2:Inv X pins σ (upd H s.heap.objs.size (.tup [.int i,x])) { s with heap:=h2,toks:=tk+1 } :=
   I1.track I.sz FT ⟨by show 2<=sizeLine;decide,[.int i tk,u],.cons ⟨_,rfl⟩ (.cons rx .nil),⟨_,hT2,rfl,_,rfl⟩⟩
  refine⟨.ref s.heap.objs.size,_,I2,rfl,⟨_,x,I.fresh,yx,rfl,rfl⟩,⟨⟨u,by simpa using he2⟩,S.keep _ _ _ a2 fun o y=>hs2.extBut _ _ hne.symm y⟩,fun b hb=>?_⟩;have hb2:=(hf b hb).1;rw[q0c]
  ·exact hb2
  ·grind
 done:=by
  intro X hP hw hK hc i pins s σ H E I hf hs hg;subst hP hw hK;obtain⟨⟨old,he⟩,h1⟩:=hs;have hT:s.TypeIs (.ref e) "enumerate" := ⟨_,he,rfl⟩
  refine wpAny_bind (wpAny_attempt (wpAny_callSpecial?_slot hT F.slot_enumerate_next
   (wpAny_call_entry F.slot_enumerate_next hT F.entry_enumerate_next ?_ (F.args_enumerate_next_1 _))))
  show wpAny _ _ (field (.ref e) 2 >>= _) _ _ _;refine wpAny_bind (wpAny_field he rfl rfl ?_);refine wpAny_bind (S.done _ i _ H _ _ (I.ok.hd hc) I.vw (hf it (by simp)).1 ((hf it (by simp)).noK I) h1 hg fun h' x he' hx'=>?_);obtain⟨o,ho,hcl⟩:=hx';refine wpAny_bind (wpAny_isInstance ⟨o,ho,hcl⟩ isSubtype_stop ?_);refine wpAny_pure ⟨rfl,I.turnedL (t':=s.toks) (fun c o hcn y=>?_) hf⟩;simp only[List.mem_cons,List.not_mem_nil,or_false,not_or] at hcn;exact he' c o hcn.2 y
 self:=fun _ _ _ _ _ hs h=>by
  obtain⟨⟨old,he⟩,_⟩:=hs;exact wpAny_pyIter_enum he h
section
variable{X:Cx}{elts:List Expr}{kk:Nat}{tpos:Pos}
theorem q8f{σ:St}{st:Nat->Heap->Prop}(I:Inv X pins σ H s)(S:Srce X.prog X.w X.K J s.heap.objs.size st)(he:IsEnum h' (s.heap.objs.size+1) s.heap.objs.size 0 .none)(h1:st 0 h')(hk:∀c o,s.heap.get? c=some o->h'.get? c=some o)(q:R (Ite J) H):
  wpAny (model X.prog X.w) X.A (pyIter (.ref (s.heap.objs.size+1))) (PIE X pins σ (.Tuple elts kk tpos) R) E { s with heap:=h' }:=by
 refine wpAny_pyIter_enum he ?_;refine⟨_,_,_,_,H,rfl,I.kept (t':=s.toks) hk,z3t (show(s.heap.objs.size+1:Nat)≠s.heap.objs.size by lia) S,⟨⟨_,he⟩,h1⟩,fun b hb=>?_,q⟩;have hb':s.heap.objs.size<=b:=by
  simp only[List.mem_cons,List.not_mem_nil,or_false] at hb;rcases hb with rfl|rfl
  ·exact Nat.le_succ _
  ·exact Nat.le_refl _
 exact I.fpOk hb' (I.hok.fresh hb')
def iEnum(K:W.Frag)(ta:TA):TI:=fun σ H R=>ta σ H fun vs H1=>(∃z,vs=[.str z]/\R (Ite (Its z)) H1)\/∃a xs,vs=[.ref a]/\SqL K H1 a xs/\R (Ite (Itl K a)) H1
theorem z8q(hg:Gl X "enumerate")(hm:X.mg "enumerate" = none)(ha:PA X [a] ta)(hs:starEach [a] X.env=[(false,eval a X.env)]:=by rfl):
  PI X (.Tuple elts kk tpos) (.Call (.Name "enumerate" p) [a] [] pos) (iEnum X.K ta):=by
 intro pins s σ H R I h;refine Call_ (q4s I hg hm (by decide +kernel:bootBuiltins "enumerate" = some (.type "enumerate")) (PyProof.Rows.callWith_type1 (thn (ha pos pins s σ H _ I h) fun us s1 ⟨vs,H1,I1,r1,q1⟩=>?_) hs rfl));rcases q1 with⟨z,e,q⟩|⟨l,xs,e,hq,q⟩
 ·subst e;obtain⟨u,rfl,t,rfl⟩:=vals1 r1;exact call_enumerate_str fun h' he hi hz hk=>q8f I1 (q6w _ z t) he hi hk q
 ·subst e;obtain⟨u,rfl,r⟩:=vals1 r1;cases r;obtain⟨its,rv,pl,_⟩:=I1.list hq;exact call_enumerate_list pl.isList fun h' he hi hz hk=>q8f I1 (q5d l _) he hi hk q
theorem z3u{a:Expr}{ta:TA}{p pos:Pos}(K:W.Frag)(hK:X.K=K)(hg:Gl X "enumerate")(hm:X.mg "enumerate" = none)(ha:PA X [a] ta)(hs:starEach [a] X.env=[(false,eval a X.env)]:=by rfl):
  PI X (.Tuple elts kk tpos) (.Call (.Name "enumerate" p) [a] [] pos) (iEnum K ta):=by subst hK;exact z8q hg hm ha hs
end
end L2
namespace K
open PySem L2 TX
def NSs:Str:=Str.ofString "abcdefghijklmnopqrstuvwxyzABCDEFGHIJKLMNOPQRSTUVWXYZ0123456789-_."
def GSs:Str:=Str.ofString "?*#@"
abbrev NS:List Nat:=tl NSs
abbrev GS:List Nat:=tl GSs
inductive Pt where
 |tx (l:List Nat)
 |gp (c:Nat)
namespace Pt
def fl:Pt->List Nat
 |tx l=>l
 |gp c=>[c]
def isG:Pt->Bool
 |tx _=>false
 |gp _=>true
def ok:Pt->Prop
 |tx l=>l≠[]/\∀c∈l,c∈NS
 |gp c=>c∈GS
def word:Pt->Str
 |tx _=>Str.ofString "text"
 |gp _=>Str.ofString "gap"
def vs(p:Pt):List V:=[.str p.word,.str (mk p.fl)]
def dat(p:Pt):PyData:=.tuple [.str p.word,.str (mk p.fl)]
end Pt
def TKeep(H H':Hp):Prop:=∀T xs,H T=some (.tup xs)->H' T=some (.tup xs)
theorem TKeep.refl(H:Hp):TKeep H H:=fun _ _ h=>h
theorem TKeep.trans(a:TKeep H H1)(b:TKeep H1 H2):TKeep H H2:=fun T xs h=>b T xs (a T xs h)
theorem TKeep.new(k:TKeep H H')(h:H' p=none):TKeep H (upd H' p o):=fun T xs e=>by rw[q0c (q0h (k T xs e) h)];exact k T xs e
theorem TKeep.lst{H H':Hp}{p:Addr}{ys zs:List V}(k:TKeep H H')(h:H' p=some (.lst ys)):TKeep H (upd H' p (.lst zs)):=fun T xs e=>by
 rw[q0c (z2q (k T xs e) h (by intro z;cases z))];exact k T xs e
theorem Fd.tk(F:FeedAt H a b)(x:Fd a b H H'):TKeep H H':=fun T xs e=>by
 obtain⟨i,j,h⟩:=F.fa;exact x.at e (z2q e h (by intro z;cases z))
theorem Same.tk(s:Same H H'):TKeep H H':=fun T xs e=>s _ _ e
theorem Pt.dt{p:Pt}(h:H T=some (.tup p.vs)):Dt K H (.ref T) p.dat :=
 .tup (SqT.of h) (.cons (.str _) (.cons (.str _) .nil))
end K
namespace L2
open PySem PySem.Spec PyProof.Rows
section
variable{κ:Type}[DecidableEq κ]
def valV(kvs:List (κ×V))(k:κ):Option V:=(kvs.find? fun kv=>decide (kv.1=k)).map (·.2)
def putK(kvs:List (κ×V))(k:κ)(v:V):List (κ×V) :=
 if (kvs.any fun kv=>decide (kv.1=k))=true then kvs.map (fun kv=>if kv.1=k then(kv.1,v) else kv) else kvs++[(k,v)]
def dropK(kvs:List (κ×V))(k:κ):List (κ×V):=kvs.filter fun kv=>decide (kv.1≠k)
theorem q0z{p:κ×V}(e:p.1=k):valV (p::r) k=some p.2:=by simp[valV,List.find?_cons,e]
theorem q0v{p:κ×V}(e:¬p.1=k):valV (p::r) k=valV r k:=by simp[valV,List.find?_cons,e]
theorem q3t(k:κ):∀kvs:List (κ×V),(kvs.any fun kv=>decide (kv.1=k))=(valV kvs k).isSome
 |[]=>rfl
 |p::r=>by
  rw[List.any_cons];by_cases e:p.1=k
  ·simp only[q0z e,decide_eq_true e,Bool.true_or,Option.isSome_some]
  ·rw[q0v e,decide_eq_false e,Bool.false_or];exact q3t k r
theorem z0u(k j:κ)(y:V):∀kvs:List (κ×V),valV (kvs.map fun kv=>if kv.1=k then(kv.1,y) else kv) j=(valV kvs j).map fun x=>if j=k then y else x
 |[]=>rfl
 |p::r=>by
  have ih:=z0u k j y r;rw[List.map_cons];by_cases h:p.1=k
  ·rw[if_pos h];by_cases e:p.1=j
   ·rw[q0z (p:=(p.1,y)) e,q0z e,Option.map_some,if_pos (e.symm.trans h)]
   ·rw[q0v (p:=(p.1,y)) e,q0v e,ih]
  ·rw[if_neg h];by_cases e:p.1=j
   ·rw[q0z e,q0z e,Option.map_some,if_neg (fun z=>h (e.trans z))]
   ·rw[q0v e,q0v e,ih]
theorem q8g(k j:κ)(y:V):∀kvs:List (κ×V),valV kvs k=none->valV (kvs++[(k,y)]) j=if j=k then some y else valV kvs j
 |[],_=>by
  by_cases e:k=j
  ·rw[if_pos e.symm];exact q0z (p:=(k,y)) e
  ·rw[if_neg (fun z=>e z.symm)];exact q0v (p:=(k,y)) e
 |p::r,hn=>by
  rw[List.cons_append];have hk:¬p.1=k:=fun z=>by rw[q0z z] at hn;cases hn
  rw[q0v hk] at hn;have ih:=q8g k j y r hn;by_cases e:p.1=j
  ·rw[q0z e,q0z e,if_neg (fun z=>hk (e.trans z))]
  ·rw[q0v e,q0v e,ih]
theorem z6b(kvs:List (κ×V))(k j:κ)(y:V):valV (putK kvs k y) j=if j=k then some y else valV kvs j:=by
 unfold putK;by_cases a:(kvs.any fun kv=>decide (kv.1=k))=true
 ·rw[if_pos a,z0u];rw[q3t] at a;by_cases e:j=k
  ·obtain⟨x,hx⟩:=Option.isSome_iff_exists.mp a;rw[if_pos e,e,hx,Option.map_some,if_pos rfl]
  ·simp_all
 ·rw[if_neg a];refine q8g k j y kvs ?_;rw[q3t] at a;cases q:valV kvs k with
  |none=>rfl
  |some x=>grind
theorem q2a(kvs:List (κ×V))(k:κ)(v:V):(putK kvs k v).length<=kvs.length+1:=by
 unfold putK;split
 ·grind
 ·grind
theorem z6c{kvs:List (κ×V)}(v:V)(h:valV kvs k=none):putK kvs k v=kvs++[(k,v)]:=by
 unfold putK;rw[q3t,h];exact if_neg (by decide)
theorem RelO.isSome_eq(r:RelO o u):o.isSome=u.isSome:=by
 cases o with
 |none=>cases u with
  |none=>rfl
  |some _=>exact(show False from r).elim
 |some _=>cases u with
  |none=>exact(show False from r).elim
  |some _=>rfl
theorem RelO.getD(r:RelO o u)(rd:RelV d d'):RelV (o.getD d) (u.getD d'):=by
 cases o with
 |none=>cases u with
  |none=>exact rd
  |some _=>exact(show False from r).elim
 |some _=>cases u with
  |none=>exact(show False from r).elim
  |some _=>exact r
theorem KV.val(r:KV kvs vs)(k:κ):RelO (valV kvs k) (valueAt vs k):=by
 induction r with
 |nil=>exact True.intro
 | @cons p q ps qs h t ih =>
  obtain⟨h1,h2⟩:=h;by_cases e:p.1=k
  ·have e':q.1=k:=h1.symm.trans e;have b:valueAt (q::qs) k=some q.2:=by simp[valueAt,List.find?_cons,e']
   rw[q0z e,b];exact h2
  ·have e':¬q.1=k:=fun z=>e (h1.trans z);have b:valueAt (q::qs) k=valueAt qs k:=by simp[valueAt,List.find?_cons,e']
   rw[q0v e,b];exact ih
theorem KV.any(r:KV kvs vs)(k:κ):(kvs.any fun kv=>decide (kv.1=k))=vs.any fun kv=>decide (kv.1=k):=by
 induction r with
 |nil=>rfl
 |cons h t ih=>simp_all
theorem KV.repl(r:KV kvs vs)(k:κ)(ry:RelV y u):
  KV (kvs.map fun kv=>if kv.1=k then(kv.1,y) else kv) (vs.map fun kv=>if kv.1=k then(kv.1,u) else kv):=by
 induction r with
 |nil=>exact .nil
 | @cons p q ps qs h t ih =>
  refine .cons ?_ ih;by_cases e:p.1=k
  ·simp_all
  ·simp_all
theorem KV.put(r:KV kvs vs)(k:κ)(ry:RelV y u):KV (putK kvs k y) (stored vs k u):=by
 unfold putK stored;rw[r.any k];by_cases e:(vs.any fun kv=>decide (kv.1=k))=true
 ·rw[if_pos e,if_pos e];exact r.repl k ry
 ·rw[if_neg e,if_neg e];exact Paired.snoc r ⟨rfl,ry⟩
theorem KV.drop(r:KV kvs vs)(k:κ):KV (dropK kvs k) (without vs k):=by
 unfold dropK without;induction r with
 |nil=>exact .nil
 | @cons p q ps qs h t ih =>
  obtain⟨h1,h2⟩:=h;rw[List.filter_cons,List.filter_cons];by_cases e:p.1=k
  ·simp_all
  ·have e':¬q.1=k:=fun z=>e (h1.trans z);have a:decide (p.1≠k)=true:=by simp[e]
   have b:decide (q.1≠k)=true:=by simp[e']
   rw[if_pos a,if_pos b];exact .cons ⟨h1,h2⟩ ih
theorem KV.keys{kvs:List (κ×V)}(r:KV kvs vs):kvs.map (·.1)=vs.map (·.1):=by
 induction r with
 |nil=>rfl
 |cons h t ih=>grind
theorem KV.length{kvs:List (κ×V)}(r:KV kvs vs):kvs.length=vs.length:=Paired.length r
end
theorem q9p(r:RelV (kV k) u):(mixKind P w).is k u=true:=by
 cases k with
 |inl i=>obtain⟨t,e⟩:=(show ∃t,u=Value.int i t from r);subst e;exact q9h P w i t
 |inr x=>obtain⟨t,e⟩:=(show ∃t,u=Value.str x t from r);subst e;exact q9i P w x t
theorem q8h{P:Program}{w:World}:∀{ks:List Key} {us:List Value},Vals (ks.map kV) us->ItemsAre (mixKind P w) ks us
 |[],_,r=>by rw[List.map_nil] at r;cases r;exact .nil
 |k::ks,_,r=>by
  rw[List.map_cons] at r;cases r with
  |cons h t=>exact .cons (q9p h) (q8h t)
abbrev KT(H:Hp):List (List Key×V)->List (List Key×Addr×Value)->Prop:=Paired fun p q=>p.1=q.1/\H q.2.1=some (.tup (p.1.map kV))/\RelV p.2 q.2.2
theorem KT.val(r:KT H kvs xs)(k:List Key):RelO (valV kvs k) ((atKey xs k).map (·.2)):=by
 induction r with
 |nil=>exact True.intro
 | @cons p q ps qs h t ih =>
  obtain⟨h1,_,h2⟩:=h;by_cases e:p.1=k
  ·have e':q.1=k:=h1.symm.trans e;have b:atKey (q::qs) k=some q.2:=by simp[atKey,List.find?_cons,e']
   rw[q0z e,b];exact h2
  ·have e':¬q.1=k:=fun z=>e (h1.trans z);have b:atKey (q::qs) k=atKey qs k:=by simp[atKey,List.find?_cons,e']
   rw[q0v e,b];exact ih
theorem KT.repl(r:KT H kvs xs)(k:List Key)(ry:RelV y u):
  KT H (kvs.map fun kv=>if kv.1=k then(kv.1,y) else kv) (xs.map (putAt k u)):=by
 induction r with
 |nil=>exact .nil
 | @cons p q ps qs h t ih =>
  refine .cons ?_ ih;unfold putAt;by_cases e:p.1=k
  ·simp_all
  ·simp_all
theorem KT.put(r:KT H kvs xs)(k:List Key)(hb:H b=some (.tup (k.map kV)))(ry:RelV y u):
  KT H (putK kvs k y) (storedH xs k b u):=by
 have e:(kvs.any fun kv=>decide (kv.1=k))=(atKey xs k).isSome:=by
  rw[q3t,(r.val k).isSome_eq,Option.isSome_map]
 unfold putK storedH;rw[e];by_cases q:(atKey xs k).isSome=true
 ·rw[if_pos q,if_pos q];exact r.repl k ry
 ·rw[if_neg q,if_neg q];exact Paired.snoc r ⟨rfl,hb,ry⟩
theorem KT.keeps(r:KT H kvs xs)(ht:∀b ys,H b=some (.tup ys)->H' b=some (.tup ys)):KT H' kvs xs :=
 Paired.mapP r fun _ _ z=>⟨z.1,ht _ _ z.2.1,z.2.2⟩
section
variable{P:Program}{w:World}{H:Hp}{h:Heap}{a:Addr}
theorem rd_of(ok:HOk P w H h)(e:Rd H a u):ObjOk P w H h a u:=e.ok ok
theorem q9q(ok:HOk P w H h)(e:Rd H a (.dK kvs)):kvs.length<=sizeLine/\(a==sysModules)=false/\∃vs,KV kvs vs/\h.DictOf (mixKind P w) a vs :=
 show ObjOk P w H h a (.dK kvs) from rd_of ok e
theorem dk_of(ok:HOk P w H h)(e:H a=some (.dK kvs)):kvs.length<=sizeLine/\(a==sysModules)=false/\∃vs,KV kvs vs/\h.DictOf (mixKind P w) a vs:=q9q ok (.inl e)
theorem q4h(ok:HOk P w H h)(e:H a=some (.tup (ks.map kV))):(tupleKind (mixKind P w)).is h ks a:=by
 obtain⟨_,its,r,o,h1,h2,n,h3⟩:=(show ObjOk P w H h a (.tup (ks.map kV)) from ok a _ e)
 exact⟨o,its.toArray,n,h1,h2,h3,by simpa using q8h r⟩
theorem q9r(ok:HOk P w H h)(e:Rd H a (.dT kvs)):kvs.length<=sizeLine/\(a==sysModules)=false /\
  ∃xs,KT H kvs xs/\h.DictOfH (tupleKind (mixKind P w)) a xs:=by
 obtain⟨z,y,xs,r,o,es,ep,h1,h2,h3,h4,h5⟩:=(show ObjOk P w H h a (.dT kvs) from rd_of ok e)
 refine⟨z,y,xs,r,o,es,ep,h1,h2,h3,h4,fun x hx=>?_,h5⟩;have all:∀{l:List (List Key×V)} {m:List (List Key×Addr×Value)},KT H l m->∀x∈m,(tupleKind (mixKind P w)).is h x.1 x.2.1:=by
  intro l m q;induction q with
  |nil=>grind
  | @cons p q ps qs hq t ih =>
   intro x hx;rcases List.mem_cons.mp hx with e|hx
   ·subst e;exact q4h ok (by rw[<- hq.1];exact hq.2.1)
   ·exact ih x hx
 exact all r x hx
theorem z8r(ok:HOk P w H h)(e:H a=some (.dT kvs)):kvs.length<=sizeLine/\(a==sysModules)=false /\
  ∃xs,KT H kvs xs/\h.DictOfH (tupleKind (mixKind P w)) a xs:=q9r ok (.inl e)
end
def DGet(H:Hp)(a:Addr)(y:V)(r:Option V):Prop :=
 (∃kvs k,Rd H a (.dK kvs)/\y=kV k/\r=valV kvs k)\/∃kvs k b,Rd H a (.dT kvs)/\y=.ref b/\H b=some (.tup (k.map kV))/\r=valV kvs k
def DPut(H:Hp)(a:Addr)(y v:V)(H':Hp):Prop :=
 (∃kvs k,H a=some (.dK kvs)/\y=kV k/\kvs.length<sizeLine/\H'=upd H a (.dK (putK kvs k v))) \/
 ∃kvs k b,H a=some (.dT kvs)/\y=.ref b/\H b=some (.tup (k.map kV))/\kvs.length<sizeLine/\H'=upd H a (.dT (putK kvs k v))
theorem DGet.k{k:Key}(e:H a=some (.dK kvs)):DGet H a (kV k) (valV kvs k):=.inl ⟨kvs,k,.inl e,rfl,rfl⟩
theorem DGet.t{k:List Key}(e:H a=some (.dT kvs))(eb:H b=some (.tup (k.map kV))):DGet H a (.ref b) (valV kvs k):=.inr ⟨kvs,k,b,.inl e,rfl,eb,rfl⟩
theorem DPut.k{k:Key}(e:H a=some (.dK kvs))(hl:kvs.length<sizeLine):DPut H a (kV k) v (upd H a (.dK (putK kvs k v))):=.inl ⟨kvs,k,e,rfl,hl,rfl⟩
theorem DPut.t{k:List Key}(e:H a=some (.dT kvs))(eb:H b=some (.tup (k.map kV)))(hl:kvs.length<sizeLine):
  DPut H a (.ref b) v (upd H a (.dT (putK kvs k v))):=.inr ⟨kvs,k,b,e,rfl,eb,hl,rfl⟩
section
variable{X:Cx}{pins:List (Addr×Obj)}{σ:St}{H:Hp}{s:Shared}{a:Addr}{y v:V}{u r:Value}{o:Option V}{A:Around}{E:Value->Shared->Prop}
theorem Inv.big(I:Inv X pins σ H s):sysModules<s.heap.objs.size:=by
 have h:=(I.mod.glob.keeps I.bk).lt;exact Nat.lt_trans (by decide) h
theorem z3v(hu:A.units+1<cLine)(I:Inv X pins σ H s)(g:DGet H a y (some v))(ry:RelV y u)(h:∀w' s',Inv X pins σ H s'->RelV v w'->Q w' s'):
  wpAny (model X.prog X.w) A (getItem (.ref a) u) Q E s:=by
 rcases g with⟨kvs,k,e,ey,l⟩|⟨kvs,k,b,e,ey,eb,l⟩
 ·subst ey;obtain⟨z,hd,vs,rel,dd⟩:=q9q I.hok e;obtain⟨w',hw,rw'⟩:=RelO.some_of (by rw[l];exact rel.val k);exact wpAny_getItem_of (q9p ry) dd.mapOf hw (h w' _ (I.tok _) rw')
 ·subst ey;cases(show u=Value.ref b from ry);obtain⟨z,hd,xs,rel,dd⟩:=q9r I.hok e;obtain⟨w',hw,rw'⟩:=RelO.some_of (by rw[l];exact rel.val k);obtain⟨p,hp,hp2⟩:=Option.map_eq_some_iff.mp hw;refine wpAny_getItem_heap (tupleKind_room_in1 hu) (q4h I.hok eb) dd hp ?_;rw[hp2];exact h w' _ (I.tok _) rw'
theorem d_in(hu:A.units+1<cLine)(I:Inv X pins σ H s)(g:DGet H a y o)(ry:RelV y u)(h:∀s',Inv X pins σ H s'->Q (.bool o.isSome) s'):
  wpAny (model X.prog X.w) A (compareOp .In u (.ref a)) Q E s:=by
 rcases g with⟨kvs,k,e,ey,l⟩|⟨kvs,k,b,e,ey,eb,l⟩
 ·subst ey;obtain⟨z,hd,vs,rel,dd⟩:=q9q I.hok e;refine wpAny_in_of (q9p ry) hd dd.mapOf ?_;rw[<- (rel.val k).isSome_eq,<- l];exact h _ (I.tok _)
 ·subst ey;cases(show u=Value.ref b from ry);obtain⟨z,hd,xs,rel,dd⟩:=q9r I.hok e;refine wpAny_in_heap (tupleKind_room_in1 hu) (q4h I.hok eb) hd dd ?_;have q:=(rel.val k).isSome_eq;rw[Option.isSome_map] at q;rw[<- q,<- l];exact h _ (I.tok _)
theorem z8s(hu:A.units+1<cLine)(I:Inv X pins σ H s)(g:DGet H a y o)(ry:RelV y u)(h:∀s',Inv X pins σ H s'->Q (.bool (!o.isSome)) s'):
  wpAny (model X.prog X.w) A (compareOp .NotIn u (.ref a)) Q E s:=by
 rcases g with⟨kvs,k,e,ey,l⟩|⟨kvs,k,b,e,ey,eb,l⟩
 ·subst ey;obtain⟨z,hd,vs,rel,dd⟩:=q9q I.hok e;refine wpAny_notIn_of (q9p ry) hd dd.mapOf ?_;rw[<- (rel.val k).isSome_eq,<- l];exact h _ (I.tok _)
 ·subst ey;cases(show u=Value.ref b from ry);obtain⟨z,hd,xs,rel,dd⟩:=q9r I.hok e;refine wpAny_notIn_heap (tupleKind_room_in1 hu) (q4h I.hok eb) hd dd ?_;have q:=(rel.val k).isSome_eq;rw[Option.isSome_map] at q;rw[<- q,<- l];exact h _ (I.tok _)
theorem q9s(I:Inv X pins σ H s)(mu:Mut (H a))(hs:Heap.SameBut a s.heap h')(he:∃q,h'.get? a=some q)(new:ObjOk X.prog X.w (upd H a ob) h' a ob):
  Inv X pins σ (upd H a ob) { s with heap:=h',toks:=t' } :=
 I.write mu (.inl rfl) (fun b q hb z=>(hs.2 b hb).trans z) he new
theorem dk_new(z:kvs.length<=sizeLine)(hd:(a==sysModules)=false)(rel:KV kvs vs)(dd:h'.DictOf (mixKind P w) a vs):
  ObjOk P w H' h' a (.dK kvs):=⟨z,hd,vs,rel,dd⟩
theorem z3w(hu:A.units+1<cLine)(I:Inv X pins σ H s)(g:DPut H a y v H')(ry:RelV y u)(rv:RelV v r)(h:∀s',Inv X pins σ H' s'->Q () s'):
  wpAny (model X.prog X.w) A (setItem (.ref a) u r) Q E s:=by
 rcases g with⟨kvs,k,e,ey,l,eH⟩|⟨kvs,k,b,e,ey,eb,l,eH⟩
 ·subst ey eH;obtain⟨z,hd,vs,rel,dd⟩:=dk_of I.hok e;have hz:vs.length<=sizeLine:=by rw[<- rel.length];exact z
  have hl:(putK kvs k v).length<=sizeLine:=by have:=q2a kvs k v;lia
  refine wpAny_setItem_pairs (q9p ry) dd fun h' dd' hs=>h _ ?_;have he:∃q,h'.get? a=some q:=let ⟨q,_,_,hq,_⟩:=dd';⟨q,hq⟩;exact q9s I (by rw[e];exact True.intro) hs he (dk_new hl hd (rel.put k rv) dd')
 ·subst ey eH;cases(show u=Value.ref b from ry);obtain⟨z,hd,xs,rel,dd⟩:=z8r I.hok e;have hz:xs.length<=sizeLine:=by rw[<- Paired.length rel];exact z
  have hl:(putK kvs k v).length<=sizeLine:=by have:=q2a kvs k v;lia
  refine wpAny_setItem_heap (tupleKind_room_in1 hu) (q4h I.hok eb) dd fun h' dd' hs=>h _ ?_;obtain⟨q,es,ep,hq,h2,h3,h4,_,h5⟩:=dd';refine q9s I (by rw[e];exact True.intro) hs ⟨q,hq⟩ ⟨hl,hd,_,(rel.put k eb rv).keeps fun c ys ec=>?_,q,es,ep,hq,h2,h3,h4,h5⟩;rw[q0c (z2q ec e (fun z=>nomatch z))];exact ec
end
def NoSl(i:Expr):Prop:=∀ov iv,subscripted i false ov iv=operate [ov,iv] (getItem ov iv)
theorem z8t{id:String}(hl:typeLookup (.type T) "__getitem__" = pure (some (.builtin id)))(hs:NoSl slice)(h:wpAny (model prog w) A (eval value env) (fun o s₁=>wpAny (model prog w) A (eval slice env) (fun i s₂=>s₂.TypeIs o T/\wpAny (model prog w) A (getItem o i) Q E s₂) E s₁) E s):
  wpAny (model prog w) A (eval (.Subscript value slice pos) env) Q E s:=by
 refine Subscript_ (wpAny_mono h (fun o s₁ h₁=>wpAny_mono h₁ (fun i s₂ h₂=>?_) fun _ _ x=>x) fun _ _ x=>x);obtain⟨hT,h₂⟩:=h₂;refine wpAny_bind ?_;refine wpAny_bind (wpAny_specialOf hT hl ?_);have fin:wpAny (model prog w) A (subscripted slice false o i) (fun r s₃=>wpAny (model prog w) A (letTemporaryGo value o r >>= fun _=>pure r) Q E s₃) E s₂:=by
  rw[hs o i];exact wpAny_operating (wpAny_mono h₂ (fun r s₃ h₃=>wpAny_bind (wpAny_letTemporaryGo (wpAny_pure h₃))) fun _ _ x=>x)
 first
  |exact wpAny_pure (wpAny_bind fin)
  |exact wpAny_bind (wpAny_pure (wpAny_bind fin))
  |exact wpAny_bind fin
theorem q9t{σ:St}(I:Inv X pins σ H s)(g:DGet H a y o):s.TypeIs (.ref a) "dict" := by
 rcases g with⟨kvs,k,e,_,_⟩|⟨kvs,k,b,e,_,_,_⟩
 ·obtain⟨_,_,vs,_,dd⟩:=q9q I.hok e;exact dd.typeIs
 ·obtain⟨_,_,xs,_,dd⟩:=q9r I.hok e;exact dd.typeIs
def tDGet(td ty:TE):TE:=fun σ H Q=>td σ H fun x H1=>ty σ H1 fun y H2=>∃a v,x=.ref a/\DGet H2 a y (some v)/\Q v H2
def tDIn(ty td:TE):TE:=fun σ H Q=>ty σ H fun y H1=>td σ H1 fun x H2=>∃a o,x=.ref a/\DGet H2 a y o/\Q (.bl o.isSome) H2
def tDNotIn(ty td:TE):TE:=fun σ H Q=>ty σ H fun y H1=>td σ H1 fun x H2=>∃a o,x=.ref a/\DGet H2 a y o/\Q (.bl (!o.isSome)) H2
def sDPut(td ty tv:TE):TS:=fun D σ H=>tv σ H fun v H1=>td σ H1 fun x H2=>ty σ H2 fun y H3=>∃a H4,x=.ref a/\DPut H3 a y v H4/\D.nx σ H4
section
variable{X:Cx}{o i e value:Expr}{pos pos' tpos:Pos}{td ty tv:TE}
theorem q0y(hu:X.A.units+1<cLine)(ho:PE X o td)(hi:PE X i ty)(hs:NoSl i):PE X (.Subscript o i pos) (tDGet td ty):=by
 intro pins s σ H Q I h;refine z8t PySem.F.slot_dict_getitem.lookup hs (thn (ho pins s σ H _ I h) fun u s1 ⟨x,H1,I1,rx,q1⟩=>thn (hi pins s1 σ H1 _ I1 q1) fun iv s2 ⟨y,H2,I2,ry,a,v,ex,g,q2⟩=>?_);subst ex;obtain rfl:u=Value.ref a:=rx;exact⟨q9t I2 g,z3v hu I2 g ry fun w' s3 I3 rw'=>⟨v,H2,I3,rw',q2⟩⟩
theorem z3x(hu:X.A.units+1<cLine)(hi:PE X i ty)(ho:PE X o td):PC X .In i o (tDIn ty td):=by
 intro pins s σ H Q I h;refine thn (hi pins s σ H _ I h) fun iv s1 ⟨y,H1,I1,ry,q1⟩=>thn (ho pins s1 σ H1 _ I1 q1) fun u s2 ⟨x,H2,I2,rx,a,ov,ex,g,q2⟩=>?_;subst ex;obtain rfl:u=Value.ref a:=rx;exact d_in hu I2 g ry fun s3 I3=>⟨.bl ov.isSome,H2,I3,rfl,q2⟩
theorem q8i(hu:X.A.units+1<cLine)(hi:PE X i ty)(ho:PE X o td):PC X .NotIn i o (tDNotIn ty td):=by
 intro pins s σ H Q I h;refine thn (hi pins s σ H _ I h) fun iv s1 ⟨y,H1,I1,ry,q1⟩=>thn (ho pins s1 σ H1 _ I1 q1) fun u s2 ⟨x,H2,I2,rx,a,ov,ex,g,q2⟩=>?_;subst ex;obtain rfl:u=Value.ref a:=rx;exact z8s hu I2 g ry fun s3 I3=>⟨.bl (!ov.isSome),H2,I3,rfl,q2⟩
theorem q5f(hu:X.A.units+1<cLine)(ho:PE X o td)(hi:PE X i ty)(hv:PE X value tv)(hs:swapsWith value (some (.Subscript o i pos')) pos.line X.env=pure false):
  PS X (.Assign [.Subscript o i pos'] value pos) (sDPut td ty tv):=by
 intro pins s σ H D I h;refine wpAny_Assign_Subscript (thn (hv pins s σ H _ I h) fun r s1 ⟨v,H1,I1,rv,q1⟩=>thn (ho pins s1 σ H1 _ I1 q1) fun u s2 ⟨x,H2,I2,rx,q2⟩=>thn (hi pins s2 σ H2 _ I2 q2) fun iv s3 ⟨y,H3,I3,ry,a,H4,ex,g,q3⟩=>?_) hs;subst ex;obtain rfl:u=Value.ref a:=rx;exact z3w hu I3 g ry rv fun s4 I4=>⟨σ,H4,I4,q3⟩
end
theorem q6y(h:Heap)(hb:sysModules<h.objs.size):ObjOk P w H (h.push { cls:=.type "dict",data:=.dict #[] }) h.objs.size (.dT []) :=
 ⟨Nat.zero_le _,beq_eq_false_iff_ne.mpr (Ne.symm (Nat.ne_of_lt hb)),[],.nil,_,#[],0,Heap.get?_push_size _ rfl,⟨rfl,rfl,rfl⟩,rfl,rfl,List.nodup_nil⟩
def tDNewT:TE:=fun _ H Q=>∀p,H p=none->Q (.ref p) (upd H p (.dT []))
section
variable{X:Cx}{pos:Pos}
theorem q3u:PE X (.Dict [] [] pos) tDNewT:=fun pins s σ H Q I h =>
 wpAny_Dict_empty ⟨.ref s.heap.objs.size,_,I.laid (t':=s.toks) (fun _ _ q=>Heap.get?_push_of_some _ q) (Nat.le_refl _) (q6y s.heap I.big),rfl,h _ (I.hok.fresh (Nat.le_refl _))⟩
end
structure M1 (X:Cx) (o:Expr) (m:Str) (apos:Pos) (e:Expr) (cpos:Pos):Prop where
 base:attributeBase o m X.env (eval o X.env)=eval o X.env
 few:((backTo cpos (starEach [e] X.env)).all (fun x => !x.1)&&(backToKw cpos (keywordEach [] X.env)).all (fun x=>x.1.isSome)
  && decide (([e]:List Expr).length+([]:List Keyword).length+(if ([]:List Keyword).isEmpty then 0 else 1)<30))=true
 line:(apos.endLine==cpos.line)=true
 trees:backTo cpos (starEach [e] X.env)=[(false,eval e X.env)]
structure M2 (X:Cx) (o:Expr) (m:Str) (apos:Pos) (e f:Expr) (cpos:Pos):Prop where
 base:attributeBase o m X.env (eval o X.env)=eval o X.env
 few:((backTo cpos (starEach [e,f] X.env)).all (fun x => !x.1)&&(backToKw cpos (keywordEach [] X.env)).all (fun x=>x.1.isSome)
  && decide (([e,f]:List Expr).length+([]:List Keyword).length+(if ([]:List Keyword).isEmpty then 0 else 1)<30))=true
 line:(apos.endLine==cpos.line)=true
 trees:backTo cpos (starEach [e,f] X.env)=[(false,eval e X.env),(false,eval f X.env)]
def IsD(H:Hp)(a:Addr):Prop:=(∃kvs,Rd H a (.dK kvs))\/∃kvs,Rd H a (.dT kvs)
theorem isD_at{σ:St}(I:Inv X pins σ H s)(d:IsD H a):
  s.TypeIs (.ref a) "dict" /\ (∀b,Value.ref a=.ref b->∃ob,s.heap.get? b=some ob/\ob.dict=none)/\(a==sysModules)=false:=by
 rcases d with⟨kvs,e⟩|⟨kvs,e⟩
 ·obtain⟨_,hd,vs,_,dd⟩:=q9q I.hok e;refine⟨dd.typeIs,fun b q=>?_,hd⟩;cases q;obtain⟨ob,_,_,h1,h2,_⟩:=dd;exact⟨ob,h1,h2.2.1⟩
 ·obtain⟨_,hd,xs,_,dd⟩:=q9r I.hok e;refine⟨dd.typeIs,fun b q=>?_,hd⟩;cases q;obtain⟨ob,_,_,h1,h2,_⟩:=dd;exact⟨ob,h1,h2.2.1⟩
section
variable{X:Cx}{pins:List (Addr×Obj)}{σ:St}{H:Hp}{s:Shared}{a:Addr}{y d:V}{u r:Value}{o:Option V}{A:Around}{E:Value->Shared->Prop}
theorem d_get2(hu:A.units+1<cLine)(I:Inv X pins σ H s)(g:DGet H a y o)(ry:RelV y u)(rd:RelV d r)(h:∀w' s',Inv X pins σ H s'->RelV (o.getD d) w'->Q w' s'):
  wpAny (model X.prog X.w) A (call (.builtin "dict.get") [.ref a,u,r]) Q E s:=by
 rcases g with⟨kvs,k,e,ey,l⟩|⟨kvs,k,b,e,ey,eb,l⟩
 ·subst ey;obtain⟨z,hd,vs,rel,dd⟩:=q9q I.hok e;refine call_meetsIn PySem.F.slot_dict_get dd.typeIs PySem.F.entry_dict_get (PySem.F.args_dict_get_3 _ _ _) (meets_dict_get_default (mixKind X.prog X.w) a (q9p ry) hd r) ⟨_,dd.mapOf,h _ _ (I.tok _) ?_⟩;rw[l];exact(rel.val k).getD rd
 ·subst ey;cases(show u=Value.ref b from ry);obtain⟨z,hd,xs,rel,dd⟩:=q9r I.hok e;refine call_meetsIn PySem.F.slot_dict_get dd.typeIs PySem.F.entry_dict_get (PySem.F.args_dict_get_3 _ _ _) (meetsH_dict_get_default (tupleKind (mixKind X.prog X.w)) a b hd r) ⟨tupleKind_room_in1 hu,k,xs,q4h I.hok eb,dd,h _ _ (I.tok _) ?_⟩;rw[l];exact(rel.val k).getD rd
end
def tDGet2(td ty tx:TE):TE:=fun σ H Q=>td σ H fun x H1=>∃a,x=.ref a/\IsD H1 a/\ty σ H1 fun y H2=>tx σ H2 fun z H3=>∃o,DGet H3 a y o/\Q (o.getD z) H3
section
variable{X:Cx}{o e f:Expr}{apos cpos:Pos}{td ty tx:TE}
theorem z0v(hu:X.A.units+1<cLine)(ho:PE X o td)(he:PE X e ty)(hf:PE X f tx)(m:M2 X o "get" apos e f cpos):PE X (.Call (.Attribute o "get" apos) [e,f] [] cpos) (tDGet2 td ty tx):=by
 intro pins s σ H Q I h;refine wpAny_Call_method m.base m.few m.line PySem.F.plainAttrs_dict PySem.F.slot_dict_get PySem.F.type_dict_get (thn (ho pins s σ H _ I h) fun u s1 ⟨x,H1,I1,rx,a,ex,d,q1⟩=>?_);subst ex;obtain rfl:u=Value.ref a:=rx;obtain⟨t1,t2,_⟩:=isD_at I1 d;refine⟨t1,t2,?_⟩;rw[m.trees];refine Calls.callWith_builtin rfl (Calls.evalArgs_plain (Calls.spliced_cons (thn (he pins s1 σ H1 _ I1 q1) fun iv s2 ⟨y,H2,I2,ry,q2⟩ =>
  Calls.spliced_cons (thn (hf pins s2 σ H2 _ I2 q2) fun fv s3 ⟨z,H3,I3,rz,ov,g,q3⟩=>Calls.spliced_nil ?_))))
 exact d_get2 hu I3 g ry rz fun w' s4 I4 rw'=>⟨_,H3,I4,rw',q3⟩
end
end L2
namespace K
open PySem L2 TX
def FIs:Str:=Str.ofString "0123456789"
def LEs:Str:=Str.ofString "abcdefghijklmnopqrstuvwxyzABCDEFGHIJKLMNOPQRSTUVWXYZ"
abbrev FI:List Nat:=tl FIs
abbrev LE:List Nat:=tl LEs
def allOf(t s:List Nat):Bool:=decide (t≠[])&&t.all fun c=>decide (c∈s)
def gapTakes(c:Nat)(t:List Nat):Bool:=if c=63 then decide (t.length=1) else if c=35 then allOf t FI else if c=64 then allOf t LE else true
def Pt.takes:Pt->List Nat->Bool
 |.tx l,t=>decide (t=l)
 |.gp c,t=>gapTakes c t
def cut(n:List Nat)(b e:Nat):List Nat:=(n.drop b).take (e-b)
def farTo(p:Pt)(n:List Nat)(L:Nat->Bool)(b k:Nat):Option Nat:=((List.range' b k).filter fun e=>L e&&p.takes (cut n b e)).getLast?
def far(p:Pt)(n:List Nat)(L:Nat->Bool)(b:Nat):Option Nat:=if b<=n.length then farTo p n L b (n.length+1-b) else none
def fits(n:List Nat):List Pt->Nat->Bool
 |[],b=>decide (b=n.length)
 |p::ps,b=>(far p n (fits n ps) b).isSome
def rd(n:List Nat):List Pt->Nat->List (List Nat)
 |[],_=>[]
 |p::ps,b=>(if p.isG then[cut n b ((far p n (fits n ps) b).getD 0)] else[])++rd n ps ((far p n (fits n ps) b).getD 0)
structure DF (H:Hp) (a:Addr) (f:Nat->Option Nat):Prop where
 ex:∃kvs:List (Key×V),H a=some (.dK kvs)/\kvs.length<=5000/\∀b:Nat,valV kvs (Sum.inl (b:Int))=(f b).map fun e=>V.int (e:Nat)
theorem DF.same(h:DF H a f)(sm:Same H H'):DF H' a f:=let ⟨kvs,h1,h2,h3⟩:=h.ex;⟨kvs,sm _ _ h1,h2,h3⟩
theorem DF.get(h:DF H a f)(b:Nat):DGet H a (.int (b:Int)) ((f b).map fun e=>V.int (e:Nat)):=by
 obtain⟨kvs,h1,h2,h3⟩:=h.ex;have:=DGet.k (k:=Sum.inl (b:Int)) h1;rw[h3] at this;exact this
theorem DF.new(h:DF H a f)(hb:H b=none):DF (upd H b o) a f:=h.same ((Same.refl H).new hb)
inductive DS (H:Hp) (n:List Nat):List Addr->List Pt->Prop
 |nil:DS H n [] []
 |cons {d:Addr} {p:Pt} {ds:List Addr} {ps:List Pt}:DF H d (far p n (fits n ps))->DS H n ds ps->DS H n (d::ds) (p::ps)
theorem DS.same(h:DS H n ds ps)(sm:Same H H'):DS H' n ds ps:=by
 induction h with
 |nil=>exact .nil
 |cons a _ ih=>exact .cons (a.same sm) ih
theorem DS.len(h:DS H n ds ps):ds.length=ps.length:=by
 induction h with
 |nil=>rfl
 |cons _ _ ih=>simp[ih]
theorem DS.get(h:DS H n ds ps):∀{i:Nat} {d:Addr},ds[i]?=some d->∃p,ps[i]?=some p/\DF H d (far p n (fits n (ps.drop (i+1)))):=by
 induction h with
 |nil=>simp_all
 | @cons d0 p ds ps a _ ih =>
  intro i d h;cases i with
  |zero=>simp_all
  |succ i =>simp_all
theorem q8j(l:List Nat):(mk l).length=l.length:=by rw[len,q2j]
theorem mk_inj:mk a=mk b↔a=b:=by grind
theorem dec_str(a b:List Nat):decide (V.str (mk a)=V.str (mk b))=decide (a=b):=by simp_all
end K
namespace L2
open PySem PySem.Spec PyProof.Rows
section
variable{X:Cx}
def rInsert0:V->List V->Hp->VK->Prop:=fun x vs H Q=>∃l xs y,x=.ref l/\vs=[.int 0,y]/\H l=some (.lst xs)/\xs.length<sizeLine/\Q .non (upd H l (.lst (y::xs)))
theorem q8k:MtM X "list.insert" rInsert0:=by
 intro pins s σ H x vs v us Q I rx rv h;obtain⟨l,xs,y,rfl,rfl,hH,hz,q⟩:=h;cases rx;obtain⟨u0,u,rfl,r0,ru⟩:=rv.two;obtain⟨t0,rfl⟩:=r0;obtain⟨z,its,n,r,hl,e⟩:=I.lstM hH;refine call_meets F.slot_list_insert ⟨_,e,rfl⟩ F.entry_list_insert (F.args_list_insert_3 _ _ _) (AutoSeq1.list_insert_list_int_val_1 l its.toArray n 0 t0 u (by decide) (by rw[List.size_toArray];lia)) ⟨e,?_⟩;refine⟨.non,_,I.lset (its':=u::its) hH e (by simp) (.cons ru r) ?_,rfl,q⟩;rw[List.length_cons];lia
end
open PySem PySem.Spec PyProof.Rows
theorem Inv.freezeK{σ:St}(I:Inv X pins σ H s)(hd:H d=some u)(ho:s.heap.get? d=some ob)(hu:(∃kvs,u=.dK kvs)\/∃kvs,u=.dT kvs):Inv X pins σ (upd H d (.frz ob u)) s:=by
 have no:∀{v:HO} {b:Addr},H b=some v->((∀kvs,v≠.dK kvs)/\∀kvs,v≠.dT kvs)->b≠d:=fun{v b} z hv y=>by
  subst y;rw[hd] at z;cases z;rcases hu with⟨kvs,rfl⟩|⟨kvs,rfl⟩
  ·exact hv.1 _ rfl
  ·exact hv.2 _ rfl
 have nn:∀{b:Addr},H b=none->b≠d:=fun{b} z y=>by subst y;rw[hd] at z;cases z
 refine⟨I.ok,I.os,I.bare,⟨I.base.keep,I.base.slot,fun b o e n hx=>?_,I.base.there,fun b xs e=>?_,fun b o v e=>?_,fun b ps e=>?_⟩,I.loc,I.cell,?_,fun x c e=>?_,fun p hp=>?_,fun b v e=>?_,I.len⟩
 ·have z:=I.base.free b o e n hx;rw[q0c (nn z)];exact z
 ·have z:=I.base.tups b xs e;rw[q0c (no z ⟨fun _ y=>(by cases y),fun _ y=>(by cases y)⟩)];exact z
 ·have z:=I.base.frzs b o v e;rw[q0c (no z ⟨fun _ y=>(by cases y),fun _ y=>(by cases y)⟩)];exact z
 ·obtain⟨m,z⟩:=I.base.tbls b ps e;exact⟨m,by rw[q0c (no z ⟨fun _ y=>(by cases y),fun _ y=>(by cases y)⟩)];exact z⟩
 ·rw[q0c (nn I.free)];exact I.free
 ·rw[q0c (nn (I.freeC x c e))];exact I.freeC x c e
 ·obtain⟨e,n,ne,nf',dd⟩:=I.pin p hp;exact⟨e,by rw[q0c (nn n)];exact n,ne,nf',dd⟩
 ·have st:∀{b:Addr} {v:HO},ObjOk X.prog X.w H s.heap b v->ObjOk X.prog X.w (upd H d (.frz ob u)) s.heap b v:=fun x =>
   x.stay (fun _ _ _ q=>q) (fun c q=>by rw[q0c (no q ⟨fun _ y=>(by cases y),fun _ y=>(by cases y)⟩)];exact q) fun c xs q=>by rw[q0c (no q ⟨fun _ y=>(by cases y),fun _ y=>(by cases y)⟩)];exact q
  by_cases hb:b=d
  ·subst hb;rw[q0b] at e;cases e;exact⟨ho,st (I.hok b u hd)⟩
  ·rw[q0c hb] at e;exact st (I.hok b v e)
theorem KV.at'(r:KV kvs vs):∀{i:Nat} {k:Key} {v:V},kvs[i]?=some (k,v)->∃u,vs[i]?=some (k,u):=by
 induction r with
 |nil=>simp_all
 | @cons p q ps qs h t ih =>
  intro i k v hx;cases i with
  |zero=>simp at hx;subst hx;obtain⟨q1,q2⟩:=q;have:=h.1;simp at this;subst this;exact⟨q2,rfl⟩
  |succ i=>simp_all
end L2
namespace K
open PySem L2 TX
def dg(m:Nat):List Nat:=tl (Str.ofString (toString (m:Int)))
end K
namespace L2
open PySem PySem.Spec PyProof.Rows
theorem Inv.thaw{σ:St}(I:Inv X pins σ H s)(hd:H d=some (.frz ob u))(h0:∀o v,X.H₀ d≠some (.frz o v)):Inv X pins σ (upd H d u) s:=by
 have no:∀{v:HO} {b:Addr},H b=some v->(∀o z,v≠.frz o z)->b≠d:=fun{v b} z hv y=>by
  subst y;rw[hd] at z;cases z;exact hv _ _ rfl
 have nn:∀{b:Addr},H b=none->b≠d:=fun{b} z y=>by subst y;rw[hd] at z;cases z
 refine⟨I.ok,I.os,I.bare,⟨I.base.keep,I.base.slot,fun b o e n hx=>?_,I.base.there,fun b xs e=>?_,fun b o v e=>?_,fun b ps e=>?_⟩,I.loc,I.cell,?_,fun x c e=>?_,fun p hp=>?_,fun b v e=>?_,I.len⟩
 ·have z:=I.base.free b o e n hx;rw[q0c (nn z)];exact z
 ·have z:=I.base.tups b xs e;rw[q0c (no z fun _ _ y=>(by cases y))];exact z
 ·have z:=I.base.frzs b o v e;rw[q0c (fun y=>by subst y;exact h0 _ _ e)];exact z
 ·obtain⟨m,z⟩:=I.base.tbls b ps e;exact⟨m,by rw[q0c (no z fun _ _ y=>(by cases y))];exact z⟩
 ·rw[q0c (nn I.free)];exact I.free
 ·rw[q0c (nn (I.freeC x c e))];exact I.freeC x c e
 ·obtain⟨e,n,ne,nf',dd⟩:=I.pin p hp;exact⟨e,by rw[q0c (nn n)];exact n,ne,nf',dd⟩
 ·have st:∀{b:Addr} {v:HO},ObjOk X.prog X.w H s.heap b v->ObjOk X.prog X.w (upd H d u) s.heap b v:=fun x =>
   x.stay (fun _ _ _ q=>q) (fun c q=>by rw[q0c (no q fun _ _ y=>(by cases y))];exact q) fun c xs q=>by rw[q0c (no q fun _ _ y=>(by cases y))];exact q
  by_cases hb:b=d
  ·subst hb;rw[q0b] at e;cases e;exact st (I.hok b _ hd).2
  ·rw[q0c hb] at e;exact st (I.hok b v e)
def Ends.thaw(D:Ends)(d:Addr):Ends where
 nx:=fun σ H=>∃ob u,H d=some (.frz ob u)/\D.nx σ (upd H d u)
 rt:=fun v H=>∃ob u,H d=some (.frz ob u)/\D.rt v (upd H d u)
 bk:=fun σ H=>∃ob u,H d=some (.frz ob u)/\D.bk σ (upd H d u)
 ct:=fun σ H=>∃ob u,H d=some (.frz ob u)/\D.ct σ (upd H d u)
def tThaw(h₀:Hp)(t:TS):TS:=fun D σ H=>∃d,(∀o v,h₀ d≠some (.frz o v))/\t (D.thaw d) σ H
theorem q9u{X:Cx}{st:Stmt}{t:TS}(h₀:Hp)(hH:X.H₀=h₀)(h:PS X st t):PS X st (tThaw h₀ t):=by
 subst hH;intro pins s σ H D I q;obtain⟨d,hd,q⟩:=q;refine wpAny_mono (h pins s σ H _ I q) (fun f s' z=>?_) fun _ _ z=>z;cases f with
 |next=>obtain⟨σ',H',I',ob,u,e,n⟩:=z;exact⟨σ',_,I'.thaw e hd,n⟩
 |brk=>obtain⟨σ',H',I',ob,u,e,n⟩:=z;exact⟨σ',_,I'.thaw e hd,n⟩
 |cont=>obtain⟨σ',H',I',ob,u,e,n⟩:=z;exact⟨σ',_,I'.thaw e hd,n⟩
 |ret v=>obtain⟨x,σ',H',I',r,ob,u,e,n⟩:=z;exact⟨x,σ',_,I'.thaw e hd,r,n⟩
end L2
namespace PySem.Rv
open Sem (wp)
section
variable{prog:Program}{w:World}{A:Around}{E:Value->Shared->Prop}{s:Shared}{it d:Addr}{i ep:Nat}{dob:Obj}{ens:Array DictEntry}
theorem keys_iter(hsys:(d==sysModules)=false)(hT:s.TypeIs (.ref d) "dict")(hdo:s.heap.get? d=some dob)(hda:dob.data=.dict ens ep)(hQ:Q (.ref s.heap.objs.size) { s with heap:=s.heap.push { cls:=.type "dict_keyiterator",data:=.fields #[.ref d,.int 0 0,.int ens.size 0,.int ep 0] } }):
  wpAny (model prog w) A (pyIter (.ref d)) Q E s:=by
 refine wpAny_pyIter_slot hT F.slot_dict_iter (wpAny_call_entry F.slot_dict_iter hT F.entry_dict_iter ?_ (F.args_dict_iter_1 _));refine wpAny_bind (wpAny_bind (wpAny_notOrdered_dict hT (wpAny_pure ?_)));show wpAny _ _ (Builtin.Dict.showsAll d >>= _) _ _ s;unfold Builtin.Dict.showsAll;rw[if_neg (by rw[hsys];decide)];refine wpAny_bind (wpAny_pure (wpAny_bind (wpAny_dictEntries hdo hda (wpAny_bind (wpAny_dictEpoch hdo hda ?_)))));refine wpAny_bind (wpAny_newObj_type (wpAny_pure ⟨_,rfl, "dict_keyiterator",_,⟨_,Heap.get?_push_size _ rfl,rfl⟩,F.slot_dict_keyiterator_next.lookup,?_⟩));simpa[rawInt] using hQ
theorem keys_item(hki:s.heap.IsKeyIter it d i ens.size ep)(hdo:s.heap.get? d=some dob)(hda:dob.data=.dict ens ep)(hlt:i<ens.size)(hQ:∀h',h'.IsKeyIter it d (i+1) ens.size ep->Heap.SameBut it s.heap h'->Q (some ens[i].key) { s with heap:=h' }):wpAny (model prog w) A (pyNext (.ref it)) Q E s:=by
 obtain⟨io,hio,hic,hid⟩:=id hki;refine wpAny_bind (wpAny_attempt (wpAny_callSpecial?_slot hki.typeIs F.slot_dict_keyiterator_next
  (wpAny_call_entry F.slot_dict_keyiterator_next hki.typeIs F.entry_dict_keyiterator_next ?_ (F.args_dict_keyiterator_next_1 _))))
 refine wpAny_bind (wpAny_pure (wpAny_bind (wpAny_bind ?_)));first|refine wpAny_bind (wpAny_typeNameOfWhole_keyiter hki.typeIs (wpAny_pure ?_))|refine wpAny_bind (wpAny_typeNameOf_keyiter hki.typeIs (wpAny_pure ?_))
 refine wpAny_bind (wpAny_fieldsOf hio hid ?_);refine wpAny_bind (wpAny_pure (wpAny_bind (wpAny_dictEntries hdo hda ?_)));rw[if_neg (by simp)];refine wpAny_bind (wpAny_pure (wpAny_bind (wpAny_dictEpoch hdo hda ?_)));rw[if_neg (by simp)];refine wpAny_pure ?_;simp only[show ¬((i:Int)<0) from by lia,if_false,Int.toNat_natCast,Array.getElem?_eq_getElem hlt];refine wpAny_bind ?_;first|refine wpAny_bind (wpAny_typeNameOfWhole_keyiter hki.typeIs (wpAny_pure ?_))|refine wpAny_bind (wpAny_typeNameOf_keyiter hki.typeIs (wpAny_pure ?_))
 refine wpAny_bind (wpAny_isOneOf_keyiter hki.typeIs ?_);show wpAny _ _ (setField (.ref it) 1 (rawInt ((i:Int)+1)) >>= _) _ _ s;refine wpAny_bind (wpAny_setField hio hid (by simp) ?_);have hki2:(s.heap.update it (Obj.mapFields (·.setIfInBounds 1 (rawInt ((i:Int)+1))))).IsKeyIter it d (i+1) ens.size ep :=
  ⟨_,Heap.get?_update_self _ hio (Obj.isFreed_of_fields (Obj.data_mapFields hid _)),(Obj.cls_mapFields ..).trans hic,by rw[Obj.data_mapFields hid];simp[rawInt]⟩
 refine wpAny_bind (wpAny_holding (wpAny_bind (wpAny_isOneOf_keyiter (s:={ s with heap:=s.heap.update it (Obj.mapFields (·.setIfInBounds 1 (rawInt ((i:Int)+1)))) }) hki2.typeIs ?_)));exact wpAny_pure (wpAny_pure ⟨_,rfl,wpAny_pure (hQ _ hki2 (Heap.SameBut.update ..))⟩)
theorem keys_end(hh:A.handled=none)(hki:s.heap.IsKeyIter it d i ens.size ep)(hdo:s.heap.get? d=some dob)(hda:dob.data=.dict ens ep)(hge:ens.size<=i)(hQ:∀h',Heap.ExtBut it s.heap h'->Q none { s with heap:=h' }):wpAny (model prog w) A (pyNext (.ref it)) Q E s:=by
 obtain⟨io,hio,hic,hid⟩:=id hki;refine wpAny_bind (wpAny_attempt (wpAny_callSpecial?_slot hki.typeIs F.slot_dict_keyiterator_next
  (wpAny_call_entry F.slot_dict_keyiterator_next hki.typeIs F.entry_dict_keyiterator_next ?_ (F.args_dict_keyiterator_next_1 _))))
 refine wpAny_bind (wpAny_pure (wpAny_bind (wpAny_bind ?_)));first|refine wpAny_bind (wpAny_typeNameOfWhole_keyiter hki.typeIs (wpAny_pure ?_))|refine wpAny_bind (wpAny_typeNameOf_keyiter hki.typeIs (wpAny_pure ?_))
 refine wpAny_bind (wpAny_fieldsOf hio hid ?_);refine wpAny_bind (wpAny_pure (wpAny_bind (wpAny_dictEntries hdo hda ?_)));rw[if_neg (by simp)];refine wpAny_bind (wpAny_pure (wpAny_bind (wpAny_dictEpoch hdo hda ?_)));rw[if_neg (by simp)];refine wpAny_pure ?_;simp only[show ¬((i:Int)<0) from by lia,if_false,Int.toNat_natCast,Array.getElem?_eq_none hge];refine wpAny_bind ?_;first|refine wpAny_bind (wpAny_typeNameOfWhole_keyiter hki.typeIs (wpAny_pure ?_))|refine wpAny_bind (wpAny_typeNameOf_keyiter hki.typeIs (wpAny_pure ?_))
 show wpAny _ _ (setField (.ref it) 0 .none >>= _) _ _ s;refine wpAny_bind (wpAny_setField hio hid (by simp) ?_);refine wpAny_bind ?_;refine wpAny_bind (wpAny_newObj_type ?_ (by size_fits));refine wpAny_bind (wpAny_of_eq (by first|rfl|(simp only[firstArgMember];rfl)) ?_);refine wpAny_newObj_type ?_ (by size_fits);refine wpAny_bind (wpAny_handled ?_);rw[show A.in1.handled=none from hh];refine wpAny_bind (wpAny_pure (wpAny_throw ?_));refine wpAny_bind (wpAny_isInstance ⟨_,Heap.get?_push_size _ rfl,rfl⟩ isSubtype_stop ?_);exact wpAny_pure (hQ _ (((Heap.SameBut.update ..).extBut.push _).push _))
end
end PySem.Rv
namespace L2
open PySem PySem.Spec PyProof.Rows
def Itk(d:Addr)(ob:Obj)(kvs:List (List Key×V)):It :=
 ⟨fun i H=>H d=some (.frz ob (.dT kvs))/\i<kvs.length,fun i H x H'=>H'=H/\∃k v b,kvs[i]?=some (k,v)/\H b=some (.tup (k.map kV))/\x=.ref b,fun i H=>H d=some (.frz ob (.dT kvs))/\kvs.length<=i⟩
theorem Paired.at'{F:α->β->Prop}:∀{l:List α} {m:List β} {i:Nat} {p:α},Paired F l m->l[i]?=some p->∃q,m[i]?=some q/\F p q
 |_,_,0,_,.cons h t,e=>by simp at e;subst e;exact⟨_,rfl,h⟩
 |_,_,i+1,_,.cons h t,e=>by
  obtain⟨q,h1,h2⟩:=Paired.at' t (by simpa using e);exact⟨q,by simpa using h1,h2⟩
theorem z3y(ok:HOk P w H h)(hfz:H d=some (.frz ob (.dT kvs)))(hob:ob.data=.dict ens ep):
  h.get? d=some ob/\ens.size=kvs.length/\∀{i:Nat} {k:List Key} {v:V} (hlt:i<ens.size),kvs[i]?=some (k,v)->∃b,ens[i].key=.ref b/\H b=some (.tup (k.map kV)):=by
 obtain⟨hget,z,hsys,xs,hp,o,es,ep',h1,h2,h3,h4,h5⟩:=(show ObjOk P w H h d (.frz ob (.dT kvs)) from ok d _ hfz)
 rw[hget] at h1;cases h1;rw[hob] at h3;cases h3;have hl:=Paired.length hp;have hz:ens.size=xs.length:=by rw[<- Array.length_toList,h4,List.length_map]
 refine⟨hget,by lia,fun{i k v} hlt hk=>?_⟩;obtain⟨q,hq,e1,e2,e3⟩:=Paired.at' hp hk;refine⟨q.2.1,?_,e2⟩;have:ens.toList[i]?=some (entryOfKey (tupleKind (mixKind P w)) q):=by simp_all
 rw[Array.getElem?_toList,Array.getElem?_eq_getElem hlt] at this;injection this with this;rw[this];rfl
theorem z1z{K:W.Frag}(d it:Addr)(ob:Obj)(kvs:List (List Key×V))(ens:Array DictEntry)(ep:Nat)(hob:ob.data=.dict ens ep):
  Turn P w K tg (Itk d ob kvs) [it] it (fun i h=>h.IsKeyIter it d i ens.size ep) where
 mem:=by simp
 obj:=fun i h st b hb=>by
  have e:b=it:=by grind
  subst e;obtain⟨o,e,c,dd⟩:=st;exact⟨o,e,fun v z=>by rw[dd] at z;cases z⟩
 keep:=fun i h h' st k=>st.at fun o e=>k it (by simp) o e
 item:=by
  intro X hP hw hK hc i pins s σ H E I hf st hg;obtain⟨hfz,hi⟩:=hg;obtain⟨hget,hsz,hkey⟩:=z3y I.hok hfz hob;obtain⟨f0,f1,f2,f3,f4,f5⟩:=hf it (by simp);obtain⟨⟨k,v⟩,hkv⟩:∃p,kvs[i]?=some p:=⟨kvs[i],by simp[hi]⟩
  have hlt:i<ens.size:=by lia
  obtain⟨b,hb1,hb2⟩:=hkey hlt hkv;refine PySem.Rv.keys_item st hget hob hlt fun h' st' sb=>?_
  rw[hb1];have I1:Inv X pins σ H { s with heap:=h' }:=I.turned (t':=s.toks) (fun b o hb e=>(sb.2 b hb).trans e) f0 f1 f3 f4 f5;obtain⟨o,e,c,dd⟩:=id st';exact⟨.ref b,rfl,z1k e c dd (by decide) ⟨.ref b,H,I1,rfl,⟨rfl,k,v,b,hkv,hb2,rfl⟩,st',fun b hb=>(hf b hb).1⟩⟩
 done:=by
  intro X hP hw hK hc i pins s σ H E I hf st hg;obtain⟨hfz,hi⟩:=hg;obtain⟨hget,hsz,hkey⟩:=z3y I.hok hfz hob;obtain⟨f0,f1,f2,f3,f4,f5⟩:=hf it (by simp);exact PySem.Rv.keys_end (I.ok.hd hc) st hget hob (by lia) fun h' eb=>⟨rfl,I.turned (t':=s.toks) (fun b o hb e=>eb b o hb e) f0 f1 f3 f4 f5⟩
 self:=fun _ _ _ _ _ st h=>wpAny_pyIter_keyiter st h
section
variable{X:Cx}{tg l:Expr}{tl:TE}
def iDictT(tl:TE):TI:=fun σ H R=>tl σ H fun x H1=>∃d kvs,x=.ref d/\H1 d=some (.dT kvs)/\∀ob,R (Itk d ob kvs) (upd H1 d (.frz ob (.dT kvs)))
theorem z6d(hl:PE X l tl):PI X tg l (iDictT tl):=by
 intro pins s σ H R I h;refine thn (hl pins s σ H _ I h) fun v s1 ⟨x,H1,I1,r1,q1⟩=>?_;obtain⟨d,kvs,e,hd,q⟩:=q1;subst e;cases r1;obtain⟨z,hsys,xs,hp,ob,ens,ep,ho,hex,hob,h4,h5⟩:=(show ObjOk X.prog X.w H1 s1.heap d (.dT kvs) from I1.hok d _ hd)
 refine PySem.Rv.keys_iter hsys ⟨ob,ho,hex.1⟩ ho hob ?_;have hne:=Nat.ne_of_lt (Heap.lt_size ho);have I2:=(I1.freezeK hd ho (.inr ⟨_,rfl⟩)).kept (t':=s1.toks) (h':=s1.heap.push { cls:=.type "dict_keyiterator",data:=.fields #[.ref d,.int 0 0,.int ens.size 0,.int ep 0] }) fun b o e=>Heap.get?_push_of_some _ e;refine⟨s1.heap.objs.size,[s1.heap.objs.size],_,_,_,rfl,I2,z1z d _ ob kvs ens ep hob,⟨_,Heap.get?_push_size _ rfl,rfl,rfl⟩,fun b hb=>?_,q ob⟩;have e:b=s1.heap.objs.size:=by grind
 subst e;exact I1.fpOk (Nat.le_refl _) (by rw[q0c (Ne.symm hne)];exact I1.hok.fresh (Nat.le_refl _))
theorem q8l(K:W.Frag)(hK:X.K=K)(hl:PE X l tl):PI X tg l (iDictT tl):=z6d hl
theorem q5g{g:TG}{tb:TS}{D:Ends}(Pv:Nat->St->Hp->Prop)(h0:Pv 0 σ H)(hl:∀i σ H,Pv i σ H->H d=some (.frz ob (.dT kvs)))(hs:∀i k v b σ H,kvs[i]?=some (k,v)->H b=some (.tup (k.map kV))->Pv i σ H->g (.ref b) σ H fun σ2 H2=>tb { D with nx:=Pv (i+1),ct:=Pv (i+1),bk:=D.nx } σ2 H2)(hd:∀σ H,Pv kvs.length σ H->D.nx σ H):
  ∃W:Nat->Nat->St->Hp->Prop,(∃m,W 0 m σ H)/\∀i m σ H,W i m σ H ->
   ((Itk d ob kvs).stop i H/\D.nx σ H)\/((Itk d ob kvs).go i H/\∃N:St->Hp->Prop,(∀σ' H',N σ' H'->∃m',m'<m/\W (i+1) m' σ' H')/\∀x H',(Itk d ob kvs).yld i H x H'->g x σ H' fun σ2 H2=>tb { D with nx:=N,ct:=N,bk:=D.nx } σ2 H2):=by
 refine z3q Pv h0 (fun i σ H h p=>⟨hl i σ H p,h⟩) (fun σ H p=>⟨hl _ σ H p,Nat.le_refl _⟩) (fun i x σ H H' h p yl=>?_) hd;obtain⟨rfl,k,v,b,hk,hb,rfl⟩:=yl;exact hs i k v b σ _ hk hb p
end
end L2
namespace SB
open PySem PyProof.Rows
section
variable{prog:Program}{w:World}{A:Around}{E:Value->Shared->Prop}{s:Shared}
def Tells(prog:Program)(w:World)(A:Around)(s:Shared)(kd:SortKind)(S:Value->Prop)(r:Value->Int):Prop :=
 ∀(E:Value->Shared->Prop) (x y:Value) (Q:Bool->Shared->Prop),S x->S y->Q (decide (r x<r y)) s->wpAny (model prog w) A (keyLt' kd x y) Q E s
def rk(r:Value->Int)(xs:Array Keyed)(i:Nat):Int:=((xs[i]?).map fun p=>r p.1).getD 0
theorem z8u(h:xs[i]?=ys[j]?):rk r xs i=rk r ys j:=by unfold rk;rw[h]
theorem rk_if[Decidable c](h:xs[i]?=if c then ys[a]? else ys[b]?):rk r xs i=if c then rk r ys a else rk r ys b:=by
 by_cases hc:c
 ·rw[if_pos hc] at h ⊢;exact z8u h
 ·rw[if_neg hc] at h ⊢;exact z8u h
theorem z3z(hj:j<=xs.size)(k:Nat):rk r (mirror xs i j ((j-i) / 2)) k=if i<=k/\k<j then rk r xs (i+j-1-k) else rk r xs k:=rk_if (getElem?_mirror_all hj k)
theorem z7m(hn:n<xs.size)(hd:d<=n)(k:Nat):rk r (bubble xs n d) k=if k=n-d then rk r xs n else if n-d<k/\k<=n then rk r xs (k-1) else rk r xs k:=by
 have e:=getElem?_bubble hn d hd k;by_cases h:k=n-d
 ·rw[if_pos h] at e ⊢;exact z8u e
 ·rw[if_neg h] at e ⊢;exact rk_if e
structure Mid (kd:SortKind) (a₀:Array Keyed) (st:SortSt):Prop where
 pm:(arrOf st).Perm a₀
 kn:kindOf st=kd
 fl:failedOf st=none
 pd:pendingOf st=#[]
variable{kd:SortKind}{S:Value->Prop}{r:Value->Int}{a₀:Array Keyed}
theorem Mid.sz{st:SortSt}(h:Mid kd a₀ st):(arrOf st).size=a₀.size:=h.pm.size_eq
theorem Mid.put{st:SortSt}(h:Mid kd a₀ st)(p:xs.Perm (arrOf st)):Mid kd a₀ (setArr st xs):=⟨p.trans h.pm,h.kn,h.fl,h.pd⟩
theorem z4a{st:SortSt}(T:Tells prog w A s kd S r)(hS:∀p∈a₀.toList,S p.1)(m:Mid kd a₀ st)(hi:i<a₀.size)(hj:j<a₀.size)(h:Q (some (decide (rk r (arrOf st) i<rk r (arrOf st) j))) st):wpS (model prog w) A E s (ltAt' i j) Q st:=by
 have get:∀{k:Nat},k<a₀.size->∃p,(arrOf st)[k]?=some p/\S p.1/\rk r (arrOf st) k=r p.1:=fun{k} hk=>by
  have hk':k<(arrOf st).size:=by rw[m.sz];exact hk
  have e:(arrOf st)[k]?=some (arrOf st)[k]:=getElem?_pos _ k hk';refine⟨_,e,hS _ ((Array.perm_iff_toList_perm.mp m.pm).mem_iff.mp (by simp)),?_⟩;unfold rk;rw[e];rfl
 obtain⟨p,e1,s1,r1⟩:=get hi;obtain⟨q,e2,s2,r2⟩:=get hj;rw[r1,r2] at h;refine wpS_bind (wpS_get ?_);show wpS _ _ _ _ (elem' (arrOf st) i >>= fun x=>elem' (arrOf st) j >>= fun y=>lt' x y) Q st;rw[elem'_eq,elem'_eq,e1,e2];refine wpS_bind (wpS_pure (wpS_bind (wpS_pure ?_)));rw[lt'_eq];refine wpS_bind (wpS_get ?_);rw[m.kn];exact wpS_bind (wpS_lift (wpAny_attempt (T _ p.1 q.1 _ s1 s2 ⟨rfl,wpS_pure h⟩)))
def Up(r:Value->Int)(xs:Array Keyed)(n:Nat):Prop:=∀i j,i<=j->j<n->rk r xs i<=rk r xs j
def Down(r:Value->Int)(xs:Array Keyed)(n:Nat):Prop:=∀i j,i<=j->j<n->rk r xs j<=rk r xs i
theorem Up.one:Up r xs 1:=fun i j h1 h2=>by rw[show i=j by lia];exact Int.le_refl _
theorem Up.more(h:Up r xs n)(h1:1<=n)(e:rk r xs (n-1)<=rk r xs n):Up r xs (n+1):=fun i j a b=>by
 by_cases z:j<n
 ·exact h i j a z
 ·have hj:j=n:=by lia
  subst hj;by_cases y:i=j
  ·grind
  ·have:=h i (j-1) (by lia) (by lia);lia
theorem Down.more(h:Down r xs n)(h1:1<=n)(e:rk r xs n<=rk r xs (n-1)):Down r xs (n+1):=fun i j a b=>by
 by_cases z:j<n
 ·exact h i j a z
 ·have hj:j=n:=by lia
  subst hj;by_cases y:i=j
  ·grind
  ·have:=h i (j-1) (by lia) (by lia);lia
theorem Down.mir(h:Down r xs n)(hn:n<=xs.size):Up r (mirror xs 0 n ((n-0) / 2)) n:=fun i j a b=>by
 rw[z3z hn,z3z hn,if_pos (by lia),if_pos (by lia)];exact h _ _ (by lia) (by lia)
theorem q5h(hj:j<=xs.size)(h:∀k,i<=k->k<j->rk r xs k=rk r xs (j-1))(k:Nat):rk r (mirror xs i j ((j-i) / 2)) k=rk r xs k:=by
 rw[z3z hj];by_cases z:i<=k/\k<j
 ·grind
 ·rw[if_neg z]
theorem z7n{st:SortSt}(T:Tells prog w A s kd S r)(hS:∀p∈a₀.toList,S p.1)(m:Mid kd a₀ st)(hn:n<=a₀.size)(h1:1<=a)(han:a<=n)(u:Up r (arrOf st) a)(h:∀k,a<=k->k<=n->Up r (arrOf st) k->(k=n\/rk r (arrOf st) k<rk r (arrOf st) (k-1))->Q (none,k) st):wpS (model prog w) A E s (ascLoop a n) Q st:=by
 refine wpS_forRange (fun x c t=>t=st/\c=(none,x)/\Up r (arrOf st) x) (fun x c t hx hxn ⟨et,ec,ux⟩=>?_) (fun c t ⟨et,ec,ux⟩=>?_) ⟨rfl,rfl,u⟩
 ·subst et ec;refine wpS_bind (z4a T hS m (by lia) (by lia) ?_);by_cases z:rk r (arrOf t) x<rk r (arrOf t) (x-1)
  ·simp only[decide_eq_true z,if_true];exact wpS_pure (h x hx (by lia) ux (.inr z))
  ·simp only[decide_eq_false z,Bool.false_eq_true,if_false];exact wpS_pure ⟨rfl,rfl,ux.more (by lia) (by lia)⟩
 ·grind
theorem z4b{st:SortSt}(T:Tells prog w A s kd S r)(hS:∀p∈a₀.toList,S p.1)(m:Mid kd a₀ st)(hn:n<=a₀.size)(h1:1<=k)(hkn:k<=n)(d:Down r (arrOf st) k)(h:∀j t,Mid kd a₀ t->1<=j->j<=n->Up r (arrOf t) j->Q (some j) t):wpS (model prog w) A E s (tail3 k n) Q st:=by
 have m2:=m.put (mirror_perm (arrOf st) 0 k ((k-0) / 2));refine wpS_bind (wpS_reverse (wpS_bind (z7n T hS m2 hn h1 hkn (d.mir (by rw[m.sz];lia)) fun j a b u _=>wpS_pure (h j _ m2 (by lia) b u))))
theorem z8v{st:SortSt}(T:Tells prog w A s kd S r)(hS:∀p∈a₀.toList,S p.1)(m:Mid kd a₀ st)(hn:n<=a₀.size)(h1:1<=k)(hkn:k<=n)(d:Down r (arrOf st) k)(h:∀j q t,Mid kd a₀ t->k<=j->j<=n->Down r (arrOf t) j->q+1<=j->(∀i,j-(q+1)<=i->i<j->rk r (arrOf t) i=rk r (arrOf t) (j-1))->Q (none,j,q) t):wpS (model prog w) A E s (descLoop k n) Q st:=by
 refine wpS_forRange (fun x c t=>∃q,c=(none,x,q)/\Mid kd a₀ t/\Down r (arrOf t) x/\q+1<=x/\∀i,x-(q+1)<=i->i<x->rk r (arrOf t) i=rk r (arrOf t) (x-1))
  (fun x c t hx hxn ⟨q,ec,mt,dx,hq,eq⟩=>?_) (fun c t ⟨q,ec,mt,dx,hq,eq⟩=>?_) ⟨0,rfl,m,d,by lia,fun i a b=>by rw[show i=k-1 by lia]⟩
 ·subst ec;have zs:x<=(arrOf t).size:=by rw[mt.sz];lia
  dsimp only;refine wpS_bind (z4a T hS mt (by lia) (by lia) ?_);by_cases z:rk r (arrOf t) x<rk r (arrOf t) (x-1)
  ·simp only[decide_eq_true z,if_true];by_cases y:q>0
   ·rw[if_pos y];have em:=fun k=>q5h zs eq k;have d2:Down r (mirror (arrOf t) (x-(q+1)) x ((x-(x-(q+1))) / 2)) x:=fun i j a b=>by rw[em,em];exact dx i j a b
    exact wpS_bind (wpS_reverse (wpS_pure ⟨0,rfl,mt.put (mirror_perm _ _ _ _),d2.more (by lia) (by rw[em,em];lia),by lia,fun i a b=>by rw[show i=x+1-1 by lia]⟩))
   ·rw[if_neg y];exact wpS_pure ⟨0,rfl,mt,dx.more (by lia) (by lia),by lia,fun i a b=>by rw[show i=x+1-1 by lia]⟩
  ·simp only[decide_eq_false z,Bool.false_eq_true,if_false];refine wpS_bind (z4a T hS mt (by lia) (by lia) ?_);by_cases y:rk r (arrOf t) (x-1)<rk r (arrOf t) x
   ·simp only[decide_eq_true y,if_true];exact wpS_pure (h x q t mt hx (by lia) dx hq eq)
   ·simp only[decide_eq_false y,Bool.false_eq_true,if_false];have ex:rk r (arrOf t) x=rk r (arrOf t) (x-1):=by lia
    refine wpS_pure ⟨q+1,rfl,mt,dx.more (by lia) (by lia),by lia,fun i a b=>?_⟩;rw[show x+1-1=x by lia,ex];by_cases c:i=x
    ·rw[c,ex]
    ·grind
 ·grind
theorem z4c{st:SortSt}(T:Tells prog w A s kd S r)(hS:∀p∈a₀.toList,S p.1)(m:Mid kd a₀ st)(hn:n<=a₀.size)(hkn:k+1<=n)(d:Down r (arrOf st) (k+1))(h:∀j t,Mid kd a₀ t->1<=j->j<=n->Up r (arrOf t) j->Q (some j) t):wpS (model prog w) A E s (descPart k n) Q st:=by
 refine wpS_bind (wpS_lift (wpAny_rule ⟨rfl,wpS_bind (z8v T hS m hn (by lia) hkn d fun j q t mt a b dt hq eq=>?_)⟩));have zs:j<=(arrOf t).size:=by rw[mt.sz];lia
 dsimp only;by_cases y:q>0
 ·rw[if_pos y];exact wpS_bind (wpS_reverse (z4b T hS (mt.put (mirror_perm _ _ _ _)) hn (by lia) b (fun i i' a' b'=>by show rk r (mirror _ _ _ _) i'<=rk r (mirror _ _ _ _) i;rw[q5h zs eq,q5h zs eq];exact dt i i' a' b') h))
 ·rw[if_neg y];exact z4b T hS mt hn (by lia) b dt h
theorem run_ok{st:SortSt}(T:Tells prog w A s kd S r)(hS:∀p∈a₀.toList,S p.1)(m:Mid kd a₀ st)(hn:n<=a₀.size)(h1:1<=n)(h:∀j t,Mid kd a₀ t->1<=j->j<=n->Up r (arrOf t) j->Q (some j) t):wpS (model prog w) A E s (countRun' 0 n) Q st:=by
 rw[countRun0_eq];refine wpS_bind (z7n T hS m hn (Nat.le_refl 1) h1 Up.one fun k a b u o=>?_);have zs:k<=(arrOf st).size:=by rw[m.sz];lia
 dsimp only;by_cases e:k=n
 ·rw[if_pos (by simpa using e)];exact wpS_pure (h k st m a b u)
 rw[if_neg (by simpa using e)];by_cases g:k>1
 ·rw[if_pos g];refine wpS_bind (z4a T hS m (by lia) (by lia) ?_);by_cases z:rk r (arrOf st) 0<rk r (arrOf st) (k-1)
  ·simp only[decide_eq_true z,if_true];exact wpS_pure (h k st m a b u)
  ·simp only[decide_eq_false z,Bool.false_eq_true,if_false];have al:∀i,0<=i->i<k->rk r (arrOf st) i=rk r (arrOf st) (k-1):=fun i _ hi=>by
    have u1:=u 0 i (by lia) hi;have u2:=u i (k-1) (by lia) (by lia);lia
   refine wpS_bind (wpS_reverse (z4c T hS (m.put (mirror_perm _ _ _ _)) hn (by lia) (Down.more (fun i j a' b'=>?_) (by lia) ?_) h))
   ·show rk r (mirror _ _ _ _) j<=rk r (mirror _ _ _ _) i;rw[q5h zs al,q5h zs al,al i (by lia) (by lia),al j (by lia) (by lia)];exact Int.le_refl _
   ·show rk r (mirror _ _ _ _) k<=rk r (mirror _ _ _ _) (k-1);rw[q5h zs al,q5h zs al];lia
 ·rw[if_neg g];exact z4c T hS m hn (by lia) (Down.more (fun i j a' b'=>by rw[show i=j by lia];exact Int.le_refl _) (by lia) (by lia)) h
theorem ins_ok{st:SortSt}(T:Tells prog w A s kd S r)(hS:∀p∈a₀.toList,S p.1)(m:Mid kd a₀ st)(hn:n<=a₀.size)(hk:k<=n)(u:Up r (arrOf st) k)(h:∀t,Mid kd a₀ t->Up r (arrOf t) n->Q true t):wpS (model prog w) A E s (binarySort' 0 n k) Q st:=by
 rw[binarySort'_eq];simp only[Nat.zero_add];refine wpS_bind (wpS_mono (wpS_forRange (fun j c t=>c=(none,())/\Mid kd a₀ t/\Up r (arrOf t) (min j n)) (Q:=fun c t=>c=(none,())/\Mid kd a₀ t/\Up r (arrOf t) n) ?step ?fin ⟨rfl,m,?init⟩) ?post)
 case step =>
  rintro j c t hj hjn ⟨rfl,mt,ut⟩;refine wpS_bind (wpS_mono (wpS_forRange (fun x c t'=>t'=t/\∃lo hi,c=(none,lo,hi)/\lo<=hi/\hi<=j/\hi-lo<=j-x/\(∀i,i<lo->rk r (arrOf t) i<=rk r (arrOf t) j)/\∀i,hi<=i->i<j->rk r (arrOf t) j<rk r (arrOf t) i)
   (Q:=fun c t'=>t'=t/\∃lo hi,c=(none,lo,hi)/\lo<=j/\(∀i,i<lo->rk r (arrOf t) i<=rk r (arrOf t) j)/\∀i,lo<=i->i<j->rk r (arrOf t) j<rk r (arrOf t) i)
   ?st2 ?fi2 ⟨rfl,0,j,rfl,by lia,by lia,by lia,fun i z=>by lia,fun i z y=>by lia⟩) ?po2)
  case st2 =>
   rintro x c t' hx hxj ⟨rfl,lo,hi,rfl,a1,a2,a3,a4,a5⟩;dsimp only;by_cases z:lo>=hi
   ·rw[if_pos z];exact wpS_pure ⟨rfl,lo,hi,rfl,by lia,a4,fun i b c=>a5 i (by lia) c⟩
   ·rw[if_neg z];refine wpS_bind (z4a T hS mt (by lia) (by lia) ?_);by_cases y:rk r (arrOf t') j<rk r (arrOf t') ((lo+hi) / 2)
    ·simp only[decide_eq_true y,if_true];refine wpS_pure ⟨rfl,lo,(lo+hi) / 2,rfl,by lia,by lia,by lia,a4,fun i b c=>?_⟩;have:=ut ((lo+hi) / 2) i b (by lia);lia
    ·simp only[decide_eq_false y,Bool.false_eq_true,if_false];refine wpS_pure ⟨rfl,(lo+hi) / 2+1,hi,rfl,by lia,a2,by lia,fun i b=>?_,a5⟩;have:=ut i ((lo+hi) / 2) (by lia) (by lia);lia
  case fi2 =>
   rintro c t' ⟨rfl,lo,hi,rfl,a1,a2,a3,a4,a5⟩;exact⟨rfl,lo,hi,rfl,by lia,a4,fun i b c=>a5 i (by lia) c⟩
  case po2 =>
   rintro c t' ⟨rfl,lo,hi,rfl,a1,a4,a5⟩;rw[moveDown'_eq];have zs:j<(arrOf t').size:=by rw[mt.sz];lia
   refine wpS_bind (wpS_modify (wpS_pure ⟨rfl,mt.put (bubble_perm _ _ _),fun i i' b c=>?_⟩));have e1:j-(j-lo)=lo:=by lia
   rw[z7m zs (by lia),z7m zs (by lia),e1];by_cases b1:i=lo
   ·grind
   ·rw[if_neg b1];by_cases b2:i'=lo
    ·grind
    ·rw[if_neg b2];by_cases b3:lo<i/\i<=j
     ·rw[if_pos b3,if_pos (by lia)];exact ut _ _ (by lia) (by lia)
     ·rw[if_neg b3];by_cases b4:lo<i'/\i'<=j
      ·grind
      ·rw[if_neg b4];exact ut _ _ b (by lia)
 case fin =>
  rintro c t ⟨ec,mt,ut⟩;have e:min (max (max k 1) n) n=n:=by lia
  rw[e] at ut;exact⟨ec,mt,ut⟩
 case init =>
  intro i j a b;by_cases z:k=0
  ·grind
  ·exact u i j a (by lia)
 case post =>
  rintro c t ⟨rfl,mt,ut⟩;exact wpS_pure (h t mt ut)
structure Fin' (a₀:Array Keyed) (r:Value->Int) (st:SortSt):Prop where
 pm:(arrOf st).Perm a₀
 fl:failedOf st=none
 pd:pendingOf st=#[(0,a₀.size,0)]
 up:Up r (arrOf st) a₀.size
theorem z8w{st:SortSt}(T:Tells prog w A s kd S r)(hS:∀p∈a₀.toList,S p.1)(m:Mid kd a₀ st)(h2:2<=a₀.size)(h64:a₀.size<64)(h:∀t,(arrOf t).Perm a₀->failedOf t=none->Up r (arrOf t) a₀.size->Q () t):wpS (model prog w) A E s sortRuns' Q st:=by
 rw[sortRuns'_eq];have em:minRun' a₀.size a₀.size 0=a₀.size:=by
  cases z:a₀.size with
  |zero=>rfl
  |succ f=>rw[minRun'_succ,if_pos (by lia)]
 have fin:∀{t:SortSt},Mid kd a₀ t->Up r (arrOf t) a₀.size->Fin' a₀ r (setPending t ((pendingOf t).push (0,a₀.size,0))):=fun{t} mt ut=>⟨mt.pm,mt.fl,by show(pendingOf t).push _=_;rw[mt.pd];rfl,ut⟩
 have none_back:∀{t:SortSt},Mid kd a₀ t->(pendingOf t).back?=none:=fun{t} mt=>by rw[mt.pd];rfl
 refine wpS_bind (wpS_get ?_);simp only[m.sz,em];refine wpS_bind (wpS_mono (wpS_forRange (fun x c t=>(x=0/\c=(none,0)/\Mid kd a₀ t)\/(1<=x/\c=(none,a₀.size)/\Fin' a₀ r t)) (Q:=fun c t=>c=(none,a₀.size)/\Fin' a₀ r t) ?st1 ?fi1 (.inl ⟨rfl,rfl,m⟩)) ?po1)
 case st1 =>
  intro x c t _ hx o;rcases o with⟨rfl,rfl,mt⟩|⟨x1,rfl,f⟩
  ·dsimp only;rw[if_neg (by lia)];simp only[Nat.sub_zero,Nat.min_self,Nat.zero_add];refine wpS_bind (run_ok T hS mt (Nat.le_refl _) (by lia) fun j t' mt' j1 j2 ut'=>?_);dsimp only;by_cases z:j<a₀.size
   ·rw[if_pos z];refine wpS_bind (wpS_lift (wpAny_rule ⟨rfl,wpS_bind (ins_ok T hS mt' (Nat.le_refl _) j2 ut' fun t2 mt2 ut2=>?_)⟩));refine wpS_bind (wpS_get ?_);rw[none_back mt2];exact wpS_bind (wpS_modify (wpS_pure (.inr ⟨by lia,rfl,fin mt2 ut2⟩)))
   ·rw[if_neg z];have ej:j=a₀.size:=by lia
    subst ej;refine wpS_bind (wpS_get ?_);rw[none_back mt'];exact wpS_bind (wpS_modify (wpS_pure (.inr ⟨by lia,rfl,fin mt' ut'⟩)))
  ·dsimp only;rw[if_pos (Nat.le_refl _)];exact wpS_pure ⟨rfl,f⟩
 case fi1 =>
  intro c t o;rcases o with⟨z,_⟩|⟨_,ec,f⟩
  ·lia
  ·exact⟨ec,f⟩
 case po1 =>
  rintro c t ⟨rfl,f⟩;refine wpS_bind (wpS_mono (wpS_forRange (fun _ c t'=>t'=t/\c=(none,())) (Q:=fun c t'=>t'=t/\c=(none,())) ?st3 (fun _ _ z=>z) ⟨rfl,rfl⟩) ?po3)
  case st3 =>
   rintro x c t' _ _ ⟨rfl,rfl⟩;refine wpS_bind (wpS_get ?_);rw[if_pos (by rw[f.pd];exact Nat.le_refl 1)];exact wpS_pure ⟨rfl,rfl⟩
  case po3 =>
   rintro c t' ⟨rfl,rfl⟩;exact wpS_pure (h _ f.pm f.fl f.up)
end
end SB
namespace PySem.Rv
open Sem (wp)
abbrev itemObj(d:Addr)(i n ep:Nat)(f0 f1 ok ov:Value):Obj:={ cls:=.type "dict_itemiterator",dict:=none,data:=.fields #[f0,f1,.ref d,.int i 0,.int n 0,.int ep 0,ok,ov],slots:=#[] }
def ItemIt(h:Heap)(it d:Addr)(i n ep:Nat):Prop:=∃f0 f1 ok ov,h.get? it=some (itemObj d i n ep f0 f1 ok ov)/\(f0=.none\/∃a:Addr,f0=rawInt a)
theorem ItemIt.typeIs{s:Shared}(x:ItemIt s.heap it d i n ep):s.TypeIs (.ref it) "dict_itemiterator" := by
 obtain⟨f0,f1,ok,ov,e,_⟩:=x;exact⟨_,e,rfl⟩
theorem ItemIt.lt(x:ItemIt h it d i n ep):it<h.objs.size:=by
 obtain⟨f0,f1,ok,ov,e,_⟩:=x;exact Heap.lt_size e
theorem ItemIt.keep(x:ItemIt h it d i n ep)(k:∀o,h.get? it=some o->h'.get? it=some o):ItemIt h' it d i n ep:=by
 obtain⟨f0,f1,ok,ov,e,z⟩:=x;exact⟨f0,f1,ok,ov,k _ e,z⟩
section
variable{prog:Program}{w:World}{A:Around}{E:Value->Shared->Prop}{s:Shared}{it d v:Addr}{i ep:Nat}{dob:Obj}{ens:Array DictEntry}
theorem items_iter(hv:s.heap.IsItemsView v d)(hdo:s.heap.get? d=some dob)(hda:dob.data=.dict ens ep)(hQ:Q (.ref s.heap.objs.size) { s with heap:=s.heap.push (itemObj d 0 ens.size ep .none (.bool false) .none .none) }):wpAny (model prog w) A (pyIter (.ref v)) Q E s:=by
 obtain⟨o,ho,hc,hf⟩:=id hv;refine wpAny_pyIter_slot hv.typeIs F.slot_dict_items_iter (wpAny_call_entry F.slot_dict_items_iter hv.typeIs F.entry_dict_items_iter ?_ (F.args_dict_items_iter_1 _));unfold Builtin.«dict_items.__iter__»;refine wpAny_bind (wpAny_pure (wpAny_bind ?_));unfold Builtin.Dict_items.dictOf;refine wpAny_bind (wpAny_field ho hf rfl (wpAny_pure (wpAny_bind ?_)));unfold Builtin.Dict_items.newIterator;refine wpAny_bind (wpAny_dictEntries hdo hda (wpAny_bind (wpAny_dictEpoch hdo hda ?_)));simp only[show Builtin.Dict_items.ownsTuple "dict_itemiterator" = true from by decide,if_true];refine wpAny_newObj_type (wpAny_pure ⟨_,rfl, "dict_itemiterator",_,⟨_,Heap.get?_push_size _ rfl,rfl⟩,F.slot_dict_itemiterator_next.lookup,?_⟩) (by simp[sizeOk,Builtin.Dict_items.ownedTupleFields,sizeLine_eq]);simpa[rawInt,itemObj,Builtin.Dict_items.ownedTupleFields] using hQ
theorem q6d(e:s.heap.get? it=some (itemObj d i n ep f0 f1 ok ov))(hk:k<8)(hQ:∀h',h'.get? it=some { cls:=.type "dict_itemiterator",dict:=none,data:=.fields ((#[f0,f1,.ref d,.int i 0,.int n 0,.int ep 0,ok,ov]:Array Value).setIfInBounds k x),slots:=#[] }->Heap.SameBut it s.heap h'->Q () { s with heap:=h' }):
  wpAny (model prog w) A (setField (.ref it) k x) Q E s:=wpAny_setField_rec e (by simpa using hk) hQ
theorem owned(x:ItemIt s.heap it d i n ep)(hQ:∀b h',ItemIt h' it d i n ep->Heap.SameBut it s.heap h'->Q b { s with heap:=h' }):
  wpAny (model prog w) A (Builtin.Dict_items.ownedTupleIsFree (.ref it)) Q E s:=by
 obtain⟨f0,f1,ok,ov,e,z⟩:=id x;refine wpAny_bind (wpAny_field e rfl rfl ?_);rcases z with rfl|⟨a,rfl⟩
 ·exact wpAny_pure (hQ true s.heap x (Heap.SameBut.refl _ _))
 ·show wpAny _ _ (loadIfAlive (Int.toNat (a:Int)) >>= _) _ _ _;have al:∀{Q':Option Obj->Shared->Prop},Q' (s.heap.get? (Int.toNat (a:Int))) s->wpAny (model prog w) A (loadIfAlive (Int.toNat (a:Int))) Q' E s:=fun h' _ _ _=>h';refine wpAny_bind (al ?_);by_cases hn:(s.heap.get? (Int.toNat (a:Int))).isNone=true
  ·rw[if_pos hn];exact wpAny_pure (hQ true s.heap x (Heap.SameBut.refl _ _))
  ·rw[if_neg hn];refine wpAny_bind (wpAny_field e rfl (x:=f1) rfl ?_);by_cases hb:(f1 != Value.bool true)=true
   ·rw[if_pos hb];refine wpAny_bind (q6d e (by decide) fun h' e' sb=>wpAny_pure (hQ false h' ⟨_,_,_,_,e',.inr ⟨a,rfl⟩⟩ sb))
   ·rw[if_neg hb];exact wpAny_pure (hQ false s.heap x (Heap.SameBut.refl _ _))
theorem items_item(x:ItemIt s.heap it d i ens.size ep)(hdo:s.heap.get? d=some dob)(hda:dob.data=.dict ens ep)(hlt:i<ens.size)(hQ:∀h',ItemIt h' it d (i+1) ens.size ep->h'.get? s.heap.objs.size=some { cls:=.type "tuple",data:=.seq #[ens[i].key,ens[i].val] }->h'.objs.size=s.heap.objs.size+1 ->
   (∀b o,b≠it->s.heap.get? b=some o->h'.get? b=some o)->Q (some (.ref s.heap.objs.size)) { s with heap:=h' }):wpAny (model prog w) A (pyNext (.ref it)) Q E s:=by
 obtain⟨f0,f1,ok,ov,e,z⟩:=id x;have hT:=x.typeIs;refine wpAny_bind (wpAny_attempt (wpAny_callSpecial?_slot hT F.slot_dict_itemiterator_next (wpAny_call_entry F.slot_dict_itemiterator_next hT F.entry_dict_itemiterator_next ?_ (F.args_dict_itemiterator_next_1 _))));refine wpAny_bind (wpAny_pure (wpAny_bind (wpAny_bind ?_)));first|refine wpAny_bind (wpAny_typeNameOfWhole_itemiter hT (wpAny_pure ?_))|refine wpAny_bind (wpAny_typeNameOf_itemiter hT (wpAny_pure ?_))
 refine wpAny_bind (wpAny_fieldsOf e rfl ?_);simp only[show Builtin.Dict_items.ownsTuple "dict_itemiterator" = true from by decide,if_true];refine wpAny_bind (wpAny_pure (wpAny_bind (wpAny_dictEntries hdo hda ?_)));rw[if_neg (by simp)];refine wpAny_bind (wpAny_pure (wpAny_bind (wpAny_dictEpoch hdo hda ?_)));rw[if_neg (by simp)];refine wpAny_pure ?_;simp only[show ¬((i:Int)<0) from by lia,if_false,Int.toNat_natCast,Array.getElem?_eq_getElem hlt];refine wpAny_bind ?_;first|refine wpAny_bind (wpAny_typeNameOfWhole_itemiter hT (wpAny_pure ?_))|refine wpAny_bind (wpAny_typeNameOf_itemiter hT (wpAny_pure ?_))
 refine wpAny_bind (wpAny_isOneOf_itemiter hT ?_);show wpAny _ _ (setField (.ref it) 3 (rawInt ((i:Int)+1)) >>= _) _ _ s;refine wpAny_bind (q6d e (by decide) fun h₁ e₁ sb₁=>?_);have x₁:ItemIt h₁ it d (i+1) ens.size ep:=⟨f0,f1,ok,ov,by rw[e₁];simp[itemObj,rawInt],z⟩
 refine wpAny_bind (wpAny_holding ?_);refine wpAny_bind (wpAny_isOneOf_itemiter x₁.typeIs (wpAny_bind (wpAny_isOneOf_itemiter x₁.typeIs ?_)));have z₁:=sb₁.1;have hil:=Nat.ne_of_lt x.lt;refine wpAny_bind (wpAny_newTuple ?_);refine wpAny_bind (owned (x₁.keep fun o q=>Heap.get?_push_of_some _ q) fun b h₂ x₂ sb₂=>?_);have t₂:h₂.get? s.heap.objs.size=some { cls:=.type "tuple",data:=.seq #[ens[i].key,ens[i].val] }:=by
  rw[sb₂.2 _ (Ne.symm hil),<- z₁];exact Heap.get?_push_size _ rfl
 have n₂:h₂.objs.size=s.heap.objs.size+1:=by rw[sb₂.1];show(h₁.push _).objs.size=_;rw[Heap.size_push,z₁]
 have k₂:∀b o,b≠it->s.heap.get? b=some o->h₂.get? b=some o:=fun b o hb q=>by
  rw[sb₂.2 b hb];exact Heap.get?_push_of_some _ ((sb₁.2 b hb).trans q)
 have ez:(Value.ref h₁.objs.size)=.ref s.heap.objs.size:=by rw[z₁]
 cases b with
 |false =>
  refine wpAny_pure (wpAny_pure ⟨_,rfl,wpAny_pure ?_⟩);rw[ez];exact hQ h₂ x₂ t₂ n₂ k₂
 |true =>
  obtain⟨g0,g1,ok2,ov2,e₂,_⟩:=x₂;refine wpAny_bind (wpAny_field e₂ rfl rfl (wpAny_bind (wpAny_field e₂ rfl rfl ?_)));refine wpAny_bind (q6d e₂ (by decide) fun h₃ e₃ sb₃=>?_);refine wpAny_bind (q6d e₃ (by decide) fun h₄ e₄ sb₄=>?_);refine wpAny_bind (q6d e₄ (by decide) fun h₅ e₅ sb₅=>?_);refine wpAny_bind (q6d e₅ (by decide) fun h₆ e₆ sb₆=>?_);have kk:∀b o,b≠it->h₂.get? b=some o->h₆.get? b=some o:=fun b o hb q=>(sb₆.2 b hb).trans ((sb₅.2 b hb).trans ((sb₄.2 b hb).trans ((sb₃.2 b hb).trans q)))
  refine wpAny_bind (wpAny_letGo (wpAny_pure (wpAny_pure ⟨_,rfl,wpAny_pure ?_⟩)));rw[ez];refine hQ h₆ ⟨_,_,_,_,e₆,.inr ⟨_,rfl⟩⟩ (kk _ _ (Ne.symm hil) t₂) ?_ fun b o hb q=>kk b o hb (k₂ b o hb q);rw[sb₆.1];rw[sb₅.1];rw[sb₄.1];rw[sb₃.1];exact n₂
theorem items_end(hh:A.handled=none)(x:ItemIt s.heap it d i ens.size ep)(hdo:s.heap.get? d=some dob)(hda:dob.data=.dict ens ep)(hge:ens.size<=i)(hQ:∀h',Heap.ExtBut it s.heap h'->Q none { s with heap:=h' }):wpAny (model prog w) A (pyNext (.ref it)) Q E s:=by
 obtain⟨f0,f1,ok,ov,e,z⟩:=id x;have hT:=x.typeIs;refine wpAny_bind (wpAny_attempt (wpAny_callSpecial?_slot hT F.slot_dict_itemiterator_next (wpAny_call_entry F.slot_dict_itemiterator_next hT F.entry_dict_itemiterator_next ?_ (F.args_dict_itemiterator_next_1 _))));refine wpAny_bind (wpAny_pure (wpAny_bind (wpAny_bind ?_)));first|refine wpAny_bind (wpAny_typeNameOfWhole_itemiter hT (wpAny_pure ?_))|refine wpAny_bind (wpAny_typeNameOf_itemiter hT (wpAny_pure ?_))
 refine wpAny_bind (wpAny_fieldsOf e rfl ?_);simp only[show Builtin.Dict_items.ownsTuple "dict_itemiterator" = true from by decide,if_true];refine wpAny_bind (wpAny_pure (wpAny_bind (wpAny_dictEntries hdo hda ?_)));rw[if_neg (by simp)];refine wpAny_bind (wpAny_pure (wpAny_bind (wpAny_dictEpoch hdo hda ?_)));rw[if_neg (by simp)];refine wpAny_pure ?_;simp only[show ¬((i:Int)<0) from by lia,if_false,Int.toNat_natCast,Array.getElem?_eq_none hge];refine wpAny_bind ?_;first|refine wpAny_bind (wpAny_typeNameOfWhole_itemiter hT (wpAny_pure ?_))|refine wpAny_bind (wpAny_typeNameOf_itemiter hT (wpAny_pure ?_))
 show wpAny _ _ (setField (.ref it) 2 .none >>= _) _ _ s;refine wpAny_bind (wpAny_setField e rfl (by simp) ?_);show wpAny _ _ (newExc (.type "StopIteration") [] >>= _) _ _ _;refine wpAny_bind ?_;refine wpAny_bind (wpAny_newObj_type (wpAny_bind (wpAny_of_eq (by first|rfl|(simp only[firstArgMember];rfl)) ?_)) (by size_fits));refine wpAny_newObj_type ?_ (by size_fits);refine wpAny_bind (wpAny_handled ?_);rw[show A.in1.handled=none from hh];refine wpAny_bind (wpAny_pure (wpAny_throw ?_));refine wpAny_bind (wpAny_isInstance ⟨_,Heap.get?_push_size _ rfl,rfl⟩ isSubtype_stop ?_);exact wpAny_pure (hQ _ (((Heap.SameBut.update ..).extBut.push _).push _))
end
end PySem.Rv
namespace SB
open PySem PyProof.Rows TX
abbrev Pth:=List (List Nat)
def pLt:Pth->Pth->Bool
 |[],[]=>false
 |[],_::_=>true
 |_::_,[]=>false
 |a::r,b::t=>if a=b then pLt r t else decide (a<b)
theorem q3v(a b:List Nat)(r t:Pth):pLt (a::r) (b::t)=if a=b then pLt r t else decide (a<b):=rfl
theorem q3h:∀p:Pth,pLt p p=false
 |[]=>rfl
 |a::r=>by rw[q3v,if_pos rfl];exact q3h r
theorem q8m{c:List Nat}(h:a<b)(h':b<c):a<c:=List.lt_trans h h'
theorem z8x{b:List Nat}(h:¬a<b)(h':¬b<a):a=b:=List.le_antisymm (List.not_lt.mp h') (List.not_lt.mp h)
theorem q8n:∀{p q t:Pth},pLt p q=true->pLt q t=true->pLt p t=true
 |[],[],_,h,_=>by cases h
 |_::_,[],_,h,_=>by cases h
 |_,_::_,[],_,h=>by cases h
 |[],_::_,_::_,_,_=>rfl
 |a::p,b::q,c::t,h,h'=>by
  rw[q3v] at h h' ⊢;by_cases e1:a=b
  ·subst e1;rw[if_pos rfl] at h;by_cases e2:a=c
   ·rw[if_pos e2] at h' ⊢;exact q8n h h'
   ·rw[if_neg e2] at h' ⊢;exact h'
  ·rw[if_neg e1] at h;by_cases e2:b=c
   ·subst e2;rw[if_neg e1];exact h
   ·rw[if_neg e2] at h';have h1:=of_decide_eq_true h;have h2:=of_decide_eq_true h';have h3:=q8m h1 h2;rw[if_neg (fun e=>by subst e;exact absurd (q8m h1 h2) (List.lt_irrefl _))];exact decide_eq_true h3
theorem q9v:∀{p q:Pth},pLt p q=false->pLt q p=false->p=q
 |[],[],_,_=>rfl
 |[],_::_,h,_=>by cases h
 |_::_,[],_,h=>by cases h
 |a::p,b::q,h,h'=>by
  rw[q3v] at h h';by_cases e:a=b
  ·subst e;rw[if_pos rfl] at h h';rw[q9v h h']
  ·rw[if_neg e] at h;rw[if_neg (Ne.symm e)] at h';exact absurd (z8x (of_decide_eq_false h) (of_decide_eq_false h')) e
def pRank(ps:List Pth)(p:Pth):Nat:=(ps.filter fun q=>pLt q p).length
theorem q8o{α:Type}{f g:α->Bool}:∀(l:List α),(∀x∈l,f x=true->g x=true)->(l.filter f).length<=(l.filter g).length
 |[],_=>Nat.le_refl _
 |x::r,h=>by
  have ih:=q8o r fun y hy=>h y (List.mem_cons_of_mem _ hy);by_cases hf:f x=true
  ·simp_all
  ·rw[List.filter_cons_of_neg hf];by_cases hg:g x=true
   ·rw[List.filter_cons_of_pos hg];exact Nat.le_succ_of_le ih
   ·simp_all
theorem q8p{α:Type}{f g:α->Bool}{y:α}:∀(l:List α),(∀x∈l,f x=true->g x=true)->y∈l->f y=false->g y=true->(l.filter f).length<(l.filter g).length
 |[],_,hy,_,_=>by cases hy
 |x::r,h,hy,h1,h2=>by
  rcases List.mem_cons.mp hy with e|hy
  ·subst e;rw[List.filter_cons_of_neg (by rw[h1];decide),List.filter_cons_of_pos h2];exact Nat.lt_succ_of_le (q8o r fun z hz=>h z (List.mem_cons_of_mem _ hz))
  ·have ih:=q8p r (fun z hz=>h z (List.mem_cons_of_mem _ hz)) hy h1 h2;by_cases hf:f x=true
   ·simp_all
   ·rw[List.filter_cons_of_neg hf];by_cases hg:g x=true
    ·rw[List.filter_cons_of_pos hg];exact Nat.lt_succ_of_lt ih
    ·simp_all
theorem q6e(hp:p∈ps)(h:pLt p q=true):pRank ps p<pRank ps q :=
 q8p ps (fun x _ hx=>q8n hx h) hp (q3h p) h
theorem q6z(hp:p∈ps)(hq:q∈ps):pLt p q=decide ((pRank ps p:Int)<(pRank ps q:Int)):=by
 cases h:pLt p q with
 |true=>have:=q6e hp h;exact(decide_eq_true (by lia)).symm
 |false =>
  cases h':pLt q p with
  |true=>have:=q6e hq h';exact(decide_eq_false (by lia)).symm
  |false=>rw[q9v h h'];exact(decide_eq_false (by lia)).symm
def PathAt(h:Heap)(v:Value)(p:Pth):Prop:=∃a its,v=.ref a/\IsTup h a its/\StrsAre its.toList (p.map mk)
theorem mk_inj(h:mk a=mk b):a=b:=by have:=congrArg tl h;rwa [q2j,q2j] at this
theorem q5i:∀{vs:List Value} {ss ts:List Str},StrsAre vs ss->StrsAre vs ts->ss=ts
 |_,_,_,.nil,.nil=>rfl
 |_,_,_,.cons y t h,.cons _ _ h'=>by rw[q5i h h']
theorem q6f:∀{p q:Pth},p.map mk=q.map mk->p=q
 |[],[],_=>rfl
 |[],_::_,h=>by simp at h
 |_::_,[],h=>by simp at h
 |a::p,b::q,h=>by
  rw[List.map_cons,List.map_cons] at h;injection h with h1 h2;rw[mk_inj h1,q6f h2]
theorem q2b:∀{vs:List Value} {p:Pth},StrsAre vs (p.map mk)->vs.length=p.length
 |_,[],.nil=>rfl
 |vs,n::p,h=>by
  rw[List.map_cons] at h;cases h with
  |cons _ _ h'=>rw[List.length_cons,List.length_cons,q2b h']
theorem IsTup.inj(h1:IsTup h a x)(h2:IsTup h a y):x=y:=by
 obtain⟨o,e,_,n,d⟩:=h1;obtain⟨o',e',_,n',d'⟩:=h2;rw[e] at e';cases e';rw[d] at d';cases d';rfl
theorem PathAt.inj(h1:PathAt h v p)(h2:PathAt h v q):p=q:=by
 obtain⟨a,its,rfl,t,s⟩:=h1;obtain⟨a',its',e,t',s'⟩:=h2;cases e;rw[IsTup.inj t t'] at s;exact q6f (q5i s s')
theorem IsTup.keep(t:IsTup h a x)(k:∀o,h.get? a=some o->h'.get? a=some o):IsTup h' a x:=let ⟨o,e,r⟩:=t;⟨o,k o e,r⟩
theorem PathAt.keep(x:PathAt h v p)(k:∀b o,h.get? b=some o->h'.get? b=some o):PathAt h' v p:=let ⟨a,its,e,t,s⟩:=x;⟨a,its,e,IsTup.keep t fun o=>k a o,s⟩
def dP(p:Pth):List PyData:=p.map fun n=>PyData.str (mk n)
def Low(p:Pth):Prop:=∀n∈p,∀c∈n,c<128
theorem q6g:∀{p:Pth} {vs:List Value},StrsAre vs (p.map mk)->∃as,ReadsAll h vs (dP p) as
 |[],_,.nil=>⟨_,.nil⟩
 |n::p,vs,x=>by
  rw[List.map_cons] at x;cases x with
  |cons y t s =>
   obtain⟨as,h'⟩:=q6g s;exact⟨_,.cons (.str _ t) h'⟩
theorem PathAt.reads(x:PathAt h v p):∃as,Reads h v (.tuple (dP p)) as:=by
 obtain⟨a,its,rfl,⟨o,e,c,n,d⟩,s⟩:=x;obtain⟨as,r⟩:=q6g s;exact⟨_,.tuple e c d r⟩
theorem z4d(h:∀c∈l,c<128):PySem.PyData.strOk (mk l)=true:=by
 unfold PySem.PyData.strOk;simp only[mk,List.all_toArray,List.all_eq_true];intro c hc;have:=h c hc;simp;lia
theorem q5j:∀{p:Pth},Low p->PySem.PyData.canLayAll0 (dP p)=true
 |[],_=>rfl
 |n::r,h=>by
  have h1:=z4d (h n List.mem_cons_self);have ih:=q5j fun x hx=>h x (List.mem_cons_of_mem _ hx);show PySem.PyData.canLayAll0 (PyData.str (mk n)::dP r)=true;simp only[PySem.PyData.canLayAll0,PySem.PyData.canLay0,h1,ih,Bool.and_self]
theorem q4n:∀p:Pth,PySem.PyData.depthAll (dP p)<=1
 |[]=>by simp[dP,PySem.PyData.depthAll]
 |n::r=>by
  have ih:=q4n r;show PySem.PyData.depthAll (PyData.str (mk n)::dP r)<=1;simp only[PySem.PyData.depthAll,PySem.PyData.depth];lia
theorem q5k:∀p q:Pth,PyData.eqvAll (dP p) (dP q)=decide (p=q)
 |[],[]=>rfl
 |[],_::_=>rfl
 |_::_,[]=>rfl
 |a::p,b::q=>by
  show PyData.eqvAll (PyData.str (mk a)::dP p) (PyData.str (mk b)::dP q)=_;have e:PyData.eqvAll (PyData.str (mk a)::dP p) (PyData.str (mk b)::dP q)=(PyData.eqv (PyData.str (mk a)) (PyData.str (mk b))&&PyData.eqvAll (dP p) (dP q)):=by simp only[PyData.eqvAll]
  have e2:PyData.eqv (PyData.str (mk a)) (PyData.str (mk b))=(mk a==mk b):=by simp only[PyData.eqv]
  rw[e,e2,q5k p q];by_cases h:a=b
  ·subst h;simp
  ·grind
section
variable{prog:Program}{w:World}{A:Around}{E:Value->Shared->Prop}{s:Shared}{x y:Value}{p q:Pth}
theorem z0w(hx:PathAt s.heap x p)(hy:PathAt s.heap y q)(lp:Low p)(lq:Low q)(hu:A.units+2<cLine):SeqAt.EqAt A s x y (decide (p=q)):=by
 obtain⟨as,r1⟩:=hx.reads;obtain⟨bs,r2⟩:=hy.reads;have h:=SeqAt.eqAt_reads (.tuple (dP p)) (.tuple (dP q)) A s x y as bs r1 r2 (by simp only[PySem.PyData.canLay0,q5j lp]) (by simp only[PySem.PyData.canLay0,q5j lq]) (by
  have h1:(PyData.tuple (dP p)).depth=PySem.PyData.depthAll (dP p)+1:=by simp only[PySem.PyData.depth]
  have:=q4n p;lia)
 have e:PyData.eqv (.tuple (dP p)) (.tuple (dP q))=decide (p=q):=by simp only[PyData.eqv,q5k]
 rwa [e] at h
theorem q8q(l b:Addr)(items items2:Array Value)(n n2:Nat)(dd dd2:Option Addr)(sl sl2:Array (Option Value))(p q:Pth)(hi:StrsAre items.toList (p.map mk))(hj:StrsAre items2.toList (q.map mk)):
  Meets (Builtin.«tuple.__lt__» ⟨[.ref l,.ref b],[]⟩)
   (fun _ R s=>s.heap.get? l=some { cls:=.type "tuple",dict:=dd,data:=.seq items n,slots:=sl }/\s.heap.get? b=some { cls:=.type "tuple",dict:=dd2,data:=.seq items2 n2,slots:=sl2 } /\
    R (.ok (.ret (.bool (pLt p q)))) s) :=
 .of_wp fun prog w A R s h=>by
  obtain⟨hp,g,d,tk,os⟩:=s;obtain⟨hl,hb,h⟩:=h;have f2:=AutoSeq1.sub_tuple_tuple;have z1:items.size=p.length:=by have:=q2b hi;simpa using this
  have z2:items2.size=q.length:=by have:=q2b hj;simpa using this
  wp_walk using PySem.AutoSeq1.wpAny_loadPart' hl,PySem.AutoSeq1.wpAny_loadPart' hb,wpAny_forIn_list _ (fun rest c s'=>c.1=none/\s'=⟨hp,g,d,tk,os⟩/\∃(vs ws:List Value) (p' q':Pth),rest=vs.zip ws /\
   StrsAre vs (p'.map mk)/\StrsAre ws (q'.map mk)/\p'.length+items2.size=q'.length+items.size/\R (.ok (.ret (.bool (pLt p' q')))) ⟨hp,g,d,tk,os⟩) _
  case turn =>
   rintro⟨y,x⟩ rest c s' ⟨hb',rfl,vs,ws,p',q',hz,hvi,hwi,hlen,hR⟩;cases p' with
   |nil=>cases hvi;rw[List.zip_nil_left] at hz;cases hz
   |cons m p' =>
    cases q' with
    |nil=>cases hwi;rw[List.zip_nil_right] at hz;cases hz
    |cons m' q' =>
     rw[List.map_cons] at hvi hwi;cases hvi with
     |cons _ t hvi' =>
      cases hwi with
      |cons _ u hwi' =>
       rw[List.zip_cons_cons] at hz;injection hz with hyx hrest;injection hyx with hy hx;subst hy hx;rw[q3v] at hR;simp only[List.length_cons] at hlen;refine wpAny_bind (SeqAt.EqAt.str_str (mk m) t (mk m') u (A:=A.in1) (s:=⟨hp,g,d,tk,os⟩) prog w _ _ ?_);by_cases e:m=m'
       ·subst e;rw[if_pos rfl] at hR;rw[beq_self_eq_true]
        wp_walk
        exact⟨rfl,rfl,_,_,_,_,hrest,hvi',hwi',by lia,hR⟩
       ·rw[if_neg e] at hR;have e2:(mk m==mk m')=false:=beq_eq_false_iff_ne.mpr fun z=>e (mk_inj z);rw[e2];have hri:∀(E:Value->Shared->Prop) (Q:Value->Shared->Prop),Q (.bool (decide (m<m'))) ⟨hp,g,d,tk,os⟩->wpAny (model prog w) A.in1 (richCompare .Lt (.str (mk m) t) (.str (mk m') u)) Q E ⟨hp,g,d,tk,os⟩:=fun E Q hq =>
         (PyProof.Rows.lt_str (by
          have e3:(mk m).cps.toList=m:=q2j m;have e4:(mk m').cps.toList=m':=q2j m';rw[e3,e4];exact hq):wpAny (model prog w) A.in1 (compareOp .Lt (.str (mk m) t) (.str (mk m') u)) Q E ⟨hp,g,d,tk,os⟩)
        wp_walk using hri
        exact⟨_,rfl,by simpa using hR⟩
  case fin =>
   rintro⟨b1,b2⟩ s' ⟨hb',rfl,vs,ws,p',q',hz,hvi,hwi,hlen,hR⟩;simp only at hb';subst hb';have hv:pLt p' q'=decide (items.size<items2.size):=by
    cases p' with
    |nil =>
     cases q' with
     |nil=>exact(decide_eq_false (by simp only[List.length_nil] at hlen;lia)).symm
     |cons m' q'=>exact(decide_eq_true (by simp only[List.length_nil,List.length_cons] at hlen;lia)).symm
    |cons m p' =>
     cases q' with
     |nil=>exact(decide_eq_false (by simp only[List.length_nil,List.length_cons] at hlen;lia)).symm
     |cons m' q' =>
      rw[List.map_cons] at hvi hwi;cases hvi with
      |cons _ t _=>cases hwi with|cons _ u _=>rw[List.zip_cons_cons] at hz;cases hz
   rw[hv] at hR
   wp_walk
   exact⟨_,rfl,by simpa[Builtin.Tuple.tupleCompareSizes] using hR⟩
  case h =>
   exact⟨rfl,rfl,items.toList,items2.toList,p,q,rfl,hi,hj,by lia,h⟩
theorem z0x{Q:Value->Shared->Prop}(hx:PathAt s.heap x p)(hy:PathAt s.heap y q)(hu:A.units<cLine)(h:Q (.bool (pLt p q)) s):wpAny (model prog w) A (compareOp .Lt x y) Q E s:=by
 obtain⟨l,items,rfl,hl,hi⟩:=hx;obtain⟨b,items2,rfl,hb,hj⟩:=hy;obtain⟨⟨cls,dd,data,sl⟩,ho,hc,n,hd⟩:=id hl;obtain⟨⟨cls2,dd2,data2,sl2⟩,ho2,hc2,n2,hd2⟩:=id hb;simp only at hc hd hc2 hd2;subst hc hd hc2 hd2;exact richCompare_meets_room (op:=.Lt) ⟨_,ho,rfl⟩ ⟨_,ho2,rfl⟩ PySem.F.slot_tuple_lt PySem.F.entry_tuple_lt (PySem.F.args_tuple_lt_2 _ _) (q8q l b items items2 n n2 dd dd2 sl sl2 p q hi hj)
  ⟨ho,ho2,show Value.bool (pLt p q)≠Value.notImplemented/\Q (.bool (pLt p q)) s from⟨(fun x=>nomatch x),h⟩⟩ hu
theorem z8y{b:Bool}{m m':List Nat}{t u:Tok}{Q:Bool->Shared->Prop}(h:Q (decide (m<m')) s):wpAny (model prog w) A (oneLt' b (.str (mk m) t) (.str (mk m') u)) Q E s:=by
 have e3:(mk m).cps.toList=m:=q2j m;have e4:(mk m').cps.toList=m':=q2j m';cases b with
 |true=>exact oneLt_str (by rw[e3,e4];exact h)
 |false =>
  rw[oneLt'_eq];simp only[Bool.false_eq_true,if_false];exact wpAny_bind ((PyProof.Rows.lt_str (by rw[e3,e4];exact wpAny_truthy_bool h):wpAny (model prog w) A (compareOp .Lt (.str (mk m) t) (.str (mk m') u)) _ E s))
theorem z6e{Q:Bool->Shared->Prop}(hx:PathAt s.heap x p)(hy:PathAt s.heap y q)(hu:A.units<cLine)(h:Q (pLt p q) s):wpAny (model prog w) A (oneLt' false x y) Q E s:=by
 rw[oneLt'_eq];simp only[Bool.false_eq_true,if_false];exact wpAny_bind (z0x hx hy hu (wpAny_truthy_bool h):wpAny (model prog w) A (compareOp .Lt x y) _ E s)
theorem z4e{b:Bool}{Q:Bool->Shared->Prop}(hx:PathAt s.heap x p)(hy:PathAt s.heap y q)(h:Q (pLt p q) s):wpAny (model prog w) A (keyLt' (tuples' b) x y) Q E s:=by
 obtain⟨l,items,rfl,⟨o,ho,hc,n,hd⟩,hi⟩:=hx;obtain⟨m,items2,rfl,⟨o2,ho2,hc2,n2,hd2⟩,hj⟩:=hy;refine wpAny_bind (m:=Builtin.List.listItems (.ref l)) (listItems_at ho hd (wpAny_bind (m:=Builtin.List.listItems (.ref m)) (listItems_at ho2 hd2 ?_)));have z1:items.size=p.length:=by have:=q2b hi;simpa using this
 have z2:items2.size=q.length:=by have:=q2b hj;simpa using this
 refine wpAny_bind (wpAny_forIn_list _ (fun rest c s'=>c=(none,())/\s'=s/\∃(vs ws:List Value) (p' q':Pth) (k:Nat),rest=(vs.zip ws).zipIdx k/\StrsAre vs (p'.map mk)/\StrsAre ws (q'.map mk) /\
   p'.length+items2.size=q'.length+items.size/\Q (pLt p' q') s) (fun c s'=>match c.1 with|some r=>Q r s'|none=>c.1=none/\Q (decide (items.size<items2.size)) s') ?turn ?fin _ _ ?h0|>fun z=>wpAny_mono z ?post fun _ _ e=>e)
 case post =>
  rintro⟨c,⟨⟩⟩ s' hc;cases c with
  |none=>exact wpAny_pure hc.2
  |some r=>exact wpAny_pure hc
 case h0=>exact⟨rfl,rfl,items.toList,items2.toList,p,q,0,rfl,hi,hj,by lia,h⟩
 case fin =>
  rintro c s' ⟨rfl,rfl,vs,ws,p',q',k,hz,hv,hw,hl,hQ⟩;have e:pLt p' q'=decide (items.size<items2.size):=by
   cases p' with
   |nil =>
    cases q' with
    |nil=>exact(decide_eq_false (by simp only[List.length_nil] at hl;lia)).symm
    |cons m' q'=>exact(decide_eq_true (by simp only[List.length_nil,List.length_cons] at hl;lia)).symm
   |cons m p' =>
    cases q' with
    |nil=>exact(decide_eq_false (by simp only[List.length_nil,List.length_cons] at hl;lia)).symm
    |cons m' q' =>
     rw[List.map_cons] at hv hw;cases hv with
     |cons _ t _=>cases hw with|cons _ u _=>rw[List.zip_cons_cons,List.zipIdx_cons] at hz;cases hz
  rw[e] at hQ;exact⟨rfl,hQ⟩
 case turn =>
  rintro⟨⟨y,x⟩,i⟩ rest c s' ⟨rfl,rfl,vs,ws,p',q',k,hz,hv,hw,hl,hQ⟩;cases p' with
  |nil=>cases hv;rw[List.zip_nil_left] at hz;cases hz
  |cons m p' =>
   cases q' with
   |nil=>cases hw;rw[List.zip_nil_right] at hz;cases hz
   |cons m' q' =>
    rw[List.map_cons] at hv hw;cases hv with
    |cons _ t hv' =>
     cases hw with
     |cons _ u hw' =>
      rw[List.zip_cons_cons,List.zipIdx_cons] at hz;injection hz with h1 h2;injection h1 with h1 h3;injection h1 with h4 h5;subst h4 h5 h3;rw[q3v] at hQ;simp only[List.length_cons] at hl;refine wpAny_bind (SeqAt.EqAt.str_str (mk m) t (mk m') u (A:=A) (s:=s') prog w _ _ ?_);by_cases e:m=m'
      ·subst e;rw[if_pos rfl] at hQ;rw[beq_self_eq_true];simp only[Bool.not_true,Bool.false_eq_true,if_false];exact wpAny_pure ⟨rfl,rfl,_,_,_,_,_,h2,hv',hw',by lia,hQ⟩
      ·rw[if_neg e] at hQ;have e2:(mk m==mk m')=false:=beq_eq_false_iff_ne.mpr fun z=>e (mk_inj z);rw[e2];simp only[Bool.not_false,if_true];exact wpAny_bind (z8y (b:=b&&i==0) (wpAny_pure hQ))
def PairAt(h:Heap)(v:Value)(p:Pth)(m:Value):Prop:=∃a k,v=.ref a/\IsTup h a #[k,m]/\PathAt h k p
theorem PairAt.keep{h h':Heap}{v m:Value}{p:Pth}(x:PairAt h v p m)(k:∀b o,h.get? b=some o->h'.get? b=some o):PairAt h' v p m:=let ⟨a,z,e,t,s⟩:=x;⟨a,z,e,IsTup.keep t fun o=>k a o,s.keep k⟩
theorem z4f{m m':Value}{Q:Bool->Shared->Prop}(hx:PairAt s.heap x p m)(hy:PairAt s.heap y q m')(hxy:p=q->x=y)(lp:Low p)(lq:Low q)(hu:A.units+2<cLine)(h:Q (pLt p q) s):wpAny (model prog w) A (keyLt' (tuples' false) x y) Q E s:=by
 obtain⟨l,k,rfl,hl,hk⟩:=hx;obtain⟨l2,k2,rfl,hl2,hk2⟩:=hy;obtain⟨o,ho,hc,n,hd⟩:=id hl;obtain⟨o2,ho2,hc2,n2,hd2⟩:=id hl2;refine wpAny_bind (m:=Builtin.List.listItems (.ref l)) (listItems_at ho hd (wpAny_bind (m:=Builtin.List.listItems (.ref l2)) (listItems_at ho2 hd2 ?_)));show wpAny (model prog w) A (forIn [((k,k2),0),((m,m'),1)] ((none,()):Option Bool×Unit) _ >>= _) Q E s;rw[List.forIn_cons];refine wpAny_bind (wpAny_bind (wpAny_bind (z0w hk hk2 lp lq hu prog w _ _ ?_)));by_cases e:p=q
 ·have e1:=hxy e;cases e1;have e2:=IsTup.inj hl hl2;have e3:k=k2/\m=m':=by
   have:=congrArg Array.toList e2;simpa using this
  obtain⟨rfl,rfl⟩:=e3;subst e;rw[decide_eq_true rfl];simp only[Bool.not_true,Bool.false_eq_true,if_false];refine wpAny_pure ?_;dsimp only;rw[List.forIn_cons];refine wpAny_bind (wpAny_bind (SeqAt.EqAt.same m (A:=A) (s:=s) prog w _ _ ?_));simp only[Bool.not_true,Bool.false_eq_true,if_false];refine wpAny_pure ?_;dsimp only;rw[List.forIn_nil];refine wpAny_pure (wpAny_pure ?_);rw[q3h] at h;simpa using h
 ·rw[decide_eq_false e];simp only[Bool.not_false,if_true,Bool.false_and];refine wpAny_bind (z6e hk hk2 (by lia) (wpAny_pure ?_));exact wpAny_pure (wpAny_pure h)
theorem q5l{α β:Type}{f:α->Sem β}{g:α->β}:∀(l:List α) {Q:List β->Shared->Prop},(∀a∈l,∀(Q':β->Shared->Prop),Q' (g a) s->wpAny (model prog w) A (f a) Q' E s)->Q (l.map g) s->wpAny (model prog w) A (l.mapM f) Q E s
 |[],Q,_,h=>by rw[List.mapM_nil];exact wpAny_pure h
 |a::l,Q,hf,h=>by
  rw[List.mapM_cons];refine wpAny_bind (hf a List.mem_cons_self _ (wpAny_bind (q5l l (fun b hb=>hf b (List.mem_cons_of_mem _ hb)) (wpAny_pure h))))
theorem z6f{a:Addr}{its:Array Value}{Q:Option Value->Shared->Prop}(t:IsTup s.heap a its)(h:Q its[0]? s):wpAny (model prog w) A (firstOfTuple' (.ref a)) Q E s:=by
 obtain⟨o,ho,hc,n,hd⟩:=t;refine wpAny_bind (m:=typeOf (.ref a)) (wpAny_typeOf (T := "tuple") ⟨o,ho,hc⟩ ?_);have e:(Value.type "tuple" != Value.type "tuple")=false:=by decide
 rw[e];simp only[Bool.false_eq_true,if_false];exact wpAny_bind (m:=Builtin.List.listItems (.ref a)) (listItems_at ho hd (wpAny_pure h))
theorem z4g{T:String}{vs:List Value}{fs:Value->Value}{Q:SortKind->Shared->Prop}(hne:vs≠[])(hf:∀v∈vs,∃a its,v=.ref a/\IsTup s.heap a its/\its[0]?=some (fs v))(hT:∀v∈vs,s.TypeIs (fs v) T)(h:Q (tuples' (Value.type T != Value.type "tuple")) s):wpAny (model prog w) A (keyKind' vs.toArray) Q E s:=by
 rw[keyKind'_eq,List.mapM_toArray];refine wpAny_bind (wpAny_bind (q5l (g:=fun v=>some (fs v)) vs (fun v hv Q' h'=>?_) (wpAny_pure ?_)))
 ·obtain⟨a,its,rfl,t,e⟩:=hf v hv;exact z6f t (by rw[e];exact h')
 ·have hall:((vs.map fun v=>some (fs v)).toArray.all fun x=>x.isSome)=true:=by simp
  rw[if_pos (by simpa using hall)];refine wpAny_bind (wpAny_rule ?_);rw[oneTypeOnly'_eq];have e:Array.filterMap id (vs.map fun v=>some (fs v)).toArray=(vs.map fs).toArray:=by
   simp[List.filterMap_map]
  rw[e,List.mapM_toArray];refine wpAny_bind (wpAny_bind (wpAny_bind (q5l (g:=fun _=>Value.type T) (vs.map fs) (fun x hx Q' h'=>?_) (wpAny_pure ?_))))
  ·obtain⟨v,hv,rfl⟩:=List.mem_map.mp hx;exact wpAny_typeOf (hT v hv) h'
  ·cases vs with
   |nil=>exact absurd rfl hne
   |cons v vs =>
    have e0:(((v::vs).map fs).map fun _=>Value.type T).toArray[0]?=some (Value.type T):=by simp
    have ea:((((v::vs).map fs).map fun _=>Value.type T).toArray.all fun x=>x==Value.type T)=true:=by simp
    rw[e0];dsimp only;rw[ea];simp only[if_true];exact wpAny_pure (wpAny_pure (by simpa using h))
end
open PySem PyProof.Rows TX
section
variable{prog:Program}{w:World}{A:Around}{E:Value->Shared->Prop}{s:Shared}{kd:SortKind}{S:Value->Prop}{r:Value->Int}{vs:List Value}
def KeptBut(a:Addr)(h h':Heap):Prop:=∀b o,b≠a->h.get? b=some o->h'.get? b=some o
structure Sorted (r:Value->Int) (vs:List Value) (out:Array Value):Prop where
 perm:out.toList.Perm vs
 rise:out.toList.Pairwise fun x y=>r x<=r y
theorem z6g{xs:Array Keyed}(hp:xs.Perm (pairsOf vs)):(∀p∈xs.toList,p.1=p.2)/\(xs.map (·.2)).toList.Perm vs:=by
 have hl:xs.toList.Perm (vs.zip vs):=by rw[<- pairsOf_toList];exact Array.perm_iff_toList_perm.mp hp
 refine⟨fun p hp'=>(mem_zip_self (hl.mem_iff.mp hp')).1,?_⟩;rw[Array.toList_map];have:=hl.map (·.2)
 rwa [List.map_snd_zip (Nat.le_refl _)] at this
theorem q8r{st:SortSt}(hp:(arrOf st).Perm (pairsOf vs))(u:Up r (arrOf st) (pairsOf vs).size):Sorted r vs ((arrOf st).map (·.2)):=by
 obtain⟨h1,h2⟩:=z6g hp;refine⟨h2,?_⟩;rw[List.pairwise_iff_getElem];intro i j hi hj hij;have hi':i<(arrOf st).size:=by simp_all
 have hj':j<(arrOf st).size:=by simp_all
 have e:=u i j (Nat.le_of_lt hij) (by rw[<- hp.size_eq];exact hj');have k:∀{n:Nat} (hn:n<(arrOf st).size),rk r (arrOf st) n=r (arrOf st)[n].2:=fun{n} hn=>by
  unfold rk;rw[getElem?_pos (arrOf st) n hn];show r (arrOf st)[n].1=_;rw[h1 (arrOf st)[n] (by simp)]
 rw[k hi',k hj'] at e;simpa using e
theorem z4h(ho:s.heap.get? a=some (seqObj "list" vs.toArray n))(h64:vs.length<64)(hS:∀v∈vs,S v)(hk:2<=vs.length->∀s' (E:Value->Shared->Prop) (Q:SortKind->Shared->Prop),KeptBut a s.heap s'.heap->Q kd s'->wpAny (model prog w) A (keyKind' vs.toArray) Q E s')(T:∀s',KeptBut a s.heap s'.heap->Tells prog w A s' kd S r)(h:∀out,Sorted r vs out->P (.done (.ret .none)) { s with heap:=sortedHeap s.heap a vs out }):
  wpAny (model prog w) A (Builtin.«list.sort» ⟨[.ref a],[]⟩) P E s:=by
 have hz2:=pairsOf_size vs;have hz3:vs.length<=sizeLine:=by rw[sizeLine_eq];lia
 rw[list_sort_plain];refine wpAny_bind (listItems_at ho rfl (wpAny_bind (listUpdate_at ho rfl ?_)));have o1:=get?_update_seq ho (fun _=>#[]);refine wpAny_bind (seqEpoch_at o1 rfl (wpAny_bind (wpAny_newTuple (wpAny_bind (wpAny_newList (wpAny_holding ?_))))));generalize hg:(((s.heap.update a (Obj.mapSeq fun _=>#[])).push (seqObj "tuple" vs.toArray 0)).push (seqObj "list" #[] 0))=g;have kg:KeptBut a s.heap g:=fun b o hb e=>by
  rw[<- hg];exact Heap.get?_push_of_some _ (Heap.get?_push_of_some _ ((Heap.get?_update_other _ _ (Ne.symm hb)).trans e))
 have og:=Heap.get?_push_of_some (seqObj "list" #[] 0) (Heap.get?_push_of_some (seqObj "tuple" vs.toArray 0) o1);rw[hg] at og;have fin:∀out,Sorted r vs out->P (.done (.ret .none)) { s with heap:=g.update a (Obj.mapSeq fun _=>out) }:=fun out so=>by
  have:=h out so;unfold sortedHeap at this
  rwa [hg] at this
 by_cases h2:vs.length<2
 ·have h2':vs.toArray.size<2:=by simpa using h2
  simp only[if_pos h2'];refine wpAny_bind (wpAny_pure ?_);refine wpAny_bind (wpAny_pure (wpAny_bind (seqEpoch_at og rfl (wpAny_bind (listUpdate_at og rfl ?_ (hsz2:=by show((pairsOf vs).map _).size<=_;rw[Array.size_map];lia))))));simp only[bne_self_eq_false,Bool.false_eq_true,if_false];exact wpAny_pure (fin _ (q8r (Array.Perm.refl _) fun i j a' b'=>by rw[show i=j by lia];exact Int.le_refl _))
 ·have h2':¬vs.toArray.size<2:=by simpa using h2
  simp only[if_neg h2'];refine wpAny_bind (hk (by lia) _ _ _ kg ?_);refine wpAny_bind (wpAny_mono (z8w (a₀:=pairsOf vs) (Q:=fun _ t=>(arrOf t).Perm (pairsOf vs)/\failedOf t=none/\Up r (arrOf t) (pairsOf vs).size) (T _ kg) (fun p hp=>hS _ ?_)
   ⟨Array.Perm.refl _,rfl,rfl,rfl⟩ (by lia) (by lia) fun t a1 a2 a3=>⟨a1,a2,a3⟩) ?_ fun _ _ e=>e)
  ·rw[pairsOf_toList] at hp;exact(mem_zip_self hp).2
  ·rintro⟨⟨⟩,t⟩ s' ⟨rfl,pm,fl,up⟩;refine wpAny_bind (seqEpoch_at og rfl (wpAny_bind (listUpdate_at og rfl ?_ (hsz2:=by show((arrOf t).map _).size<=_;rw[Array.size_map,pm.size_eq];lia))));rw[fl];simp only[bne_self_eq_false,Bool.false_eq_true,if_false];exact wpAny_pure (fin _ (q8r pm up))
end
section
variable{prog:Program}{w:World}{A:Around}{E:Value->Shared->Prop}{s:Shared}
structure Ready (prog:Program) (w:World) (A:Around) (vs:List Value) (h:Heap) (kd:SortKind) (S:Value->Prop) (r:Value->Int):Prop where
 few:vs.length<64
 all:∀v∈vs,S v
 kind:2<=vs.length->∀A' s' (E:Value->Shared->Prop) (Q:SortKind->Shared->Prop),A'.units<=A.units+9->(∀b o,h.get? b=some o->s'.heap.get? b=some o)->Q kd s'->wpAny (model prog w) A' (keyKind' vs.toArray) Q E s'
 tells:∀A' s',A'.units<=A.units+9->(∀b o,h.get? b=some o->s'.heap.get? b=some o)->Tells prog w A' s' kd S r
theorem sorted_ok
  (hc:∀{Q':List Value->Shared->Prop},(∀vs h tk kd S r,Ready prog w A vs h kd S r ->
    (∀h' out,Sorted r vs out->(∀b o,h.get? b=some o->h'.get? b=some o)->(∃e,h'.get? h.objs.size=some (seqObj "list" out e))->Q (.ref h.objs.size) { s with heap:=h',toks:=tk })->Q' vs { s with heap:=h,toks:=tk }) ->
   wpAny (model prog w) A.in1 (collect x) Q' E s):wpAny (model prog w) A (call (.builtin "sorted") [x]) Q E s:=by
 refine Calls.call_function_entry kind_sorted plain_sorted entry_sorted (args_sorted1 _) ?_;refine wpAny_bind (wpAny_pure (wpAny_bind (hc fun vs h tk kd S r rd hQ=>?_)));have hz3:vs.length<=sizeLine:=by have:=rd.few;rw[sizeLine_eq];lia
 refine wpAny_bind (wpAny_newList ?_);have ho:(h.push (seqObj "list" vs.toArray 0)).get? h.objs.size=some (seqObj "list" vs.toArray 0):=Heap.get?_push_size _ rfl;have kb:∀{g:Heap},KeptBut h.objs.size (h.push (seqObj "list" vs.toArray 0)) g->∀b o,h.get? b=some o->g.get? b=some o:=fun kg b o e=>kg b o (Nat.ne_of_lt (Heap.lt_size e)) (Heap.get?_push_of_some _ e);refine wpAny_bind (wpAny_holding (wpAny_call_entry slot_list_sort ⟨_,ho,rfl⟩ entry_list_sort (z4h ho rd.few rd.all (fun h2 s' E Q kg q=>rd.kind h2 _ s' E Q (by show A.units+1+1<=_;lia) (kb kg) q) (fun s' kg=>rd.tells _ s' (by show A.units+1+1<=_;lia) (kb kg)) fun out so=>⟨_,rfl,?_⟩) (args_list_sort _)));refine wpAny_pure ⟨_,rfl,hQ _ out so (fun b o e=>?_) (sortedHeap_at ho)⟩;have:=sortedHeap_old (vs:=vs) (out:=out) (h:=h.push (seqObj "list" vs.toArray 0)) (Nat.ne_of_lt (Heap.lt_size e)) (by rw[size_push'];exact Nat.lt_succ_of_lt (Heap.lt_size e));rw[this];exact Heap.get?_push_of_some _ e
theorem perm_map_inv {α β : Type} {g : α → β} : ∀ {l m : List β}, l.Perm m → ∀ {zs : List α}, m = zs.map g → ∃ zs' : List α, zs'.Perm zs ∧ l = zs'.map g := by
  intro l m h;induction h with
  | nil => simp_all
  | cons x h ih => intro zs e; cases zs with
    | nil => cases e
    | cons z zs =>
      injection e with e1 e2;obtain ⟨zs', h1, h2⟩ := ih e2;exact ⟨z :: zs', h1.cons z, by rw [List.map_cons, ← h2, e1]⟩
  | swap x y l => intro zs e; cases zs with
    | nil => cases e
    | cons z zs => cases zs with
      | nil => cases e
      | cons z2 zs =>
        injection e with e1 e2;injection e2 with e2 e3;exact ⟨z2 :: z :: zs, List.Perm.swap _ _ _, by rw [List.map_cons, List.map_cons, ← e1, ← e2, ← e3]⟩
  | trans h1 h2 ih1 ih2 => intro zs e
                           obtain ⟨zs', p1, e1⟩ := ih2 e;obtain ⟨zs2, p2, e2⟩ := ih1 e1;exact ⟨zs2, p2.trans p1, e2⟩
open Classical in
noncomputable def keyBy (K:Value->Pth->Prop) (v:Value):Pth:=if h:∃p,K v p then choose h else[]
theorem q2e{K:Value->Pth->Prop}(hK:∀v p q,K v p->K v q->p=q){v:Value}{p:Pth}(h:K v p):keyBy K v=p:=by
 unfold keyBy;have hx:∃p,K v p:=⟨p,h⟩
 rw[dif_pos hx];exact hK v _ _ (Classical.choose_spec hx) h
theorem rise_paths{K:Value->Pth->Prop}(hK:∀v p q,K v p->K v q->p=q){α:Type}{g:α->Value}{f:α->Pth}:∀{zs:List α},(∀z∈zs,K (g z) (f z)/\f z∈ps)->(zs.map g).Pairwise (fun x y=>(pRank ps (keyBy K x):Int)<=(pRank ps (keyBy K y):Int))->(zs.map f).Pairwise fun a b=>pLt b a=false
 |[],_,_=>.nil
 |z::zs,hz,h=>by
  rw[List.map_cons] at h ⊢;obtain⟨h1,h2⟩:=List.pairwise_cons.mp h;refine List.pairwise_cons.mpr ⟨fun b hb=>?_,rise_paths hK (fun y hy=>hz y (List.mem_cons_of_mem _ hy)) h2⟩;obtain⟨y,hy,rfl⟩:=List.mem_map.mp hb;obtain⟨k1,m1⟩:=hz z List.mem_cons_self;obtain⟨k2,m2⟩:=hz y (List.mem_cons_of_mem _ hy);have:=h1 (g y) (List.mem_map.mpr ⟨y,hy,rfl⟩);rw[q2e hK k1,q2e hK k2] at this;rw[q6z m2 m1];exact decide_eq_false (by lia)
theorem ready_paths(few:vs.length<64)(hp:∀v∈vs,∃p∈ps,p≠[]/\PathAt h v p):
  Ready prog w A vs h (tuples' true) (fun v=>∃p∈ps,PathAt h v p) (fun v=>(pRank ps (keyBy (PathAt h) v):Int)) where
 few:=few
 all:=fun v hv=>let ⟨p,a,_,b⟩:=hp v hv;⟨p,a,b⟩
 kind:=fun h2 A' s' E Q _ k q=>by
  have hne:vs≠[]:=fun z=>by rw[z] at h2;simp at h2
  have ex:∀v∈vs,∃a its n p t,v=.ref a/\IsTup s'.heap a its/\its[0]?=some (.str (mk n) t):=fun v hv=>by
   obtain⟨p,_,hne,x⟩:=hp v hv;obtain⟨a,its,rfl,tt,st⟩:=x.keep k;cases p with
   |nil=>exact absurd rfl hne
   |cons n p =>
    obtain⟨l⟩:=its;cases st with
    |cons _ t st'=>exact⟨a,_,n,p,t,rfl,tt,rfl⟩
  refine z4g (fs:=fun v=>(match v with|.ref a=>(match s'.heap.get? a with|some o=>(match o.data with|.seq its _=>its.getD 0 .none|_=>.none)|none=>.none)|_=>.none)) hne (fun v hv=>?_) (fun v hv=>?_) (by rw[show(Value.type "str" != Value.type "tuple")=true from by decide];exact q)
  ·obtain⟨a,its,n,p,t,rfl,tt,e⟩:=ex v hv;refine⟨a,its,rfl,tt,?_⟩;obtain⟨o,e1,e2,m,e3⟩:=tt;simp only[e1,e3];rw[e,Array.getD_eq_getD_getElem?,e];rfl
  ·obtain⟨a,its,n,p,t,rfl,tt,e⟩:=ex v hv;obtain⟨o,e1,e2,m,e3⟩:=tt;simp only[e1,e3];rw[Array.getD_eq_getD_getElem?,e];exact typeIs_str _ _ _
 tells:=fun A' s' _ k E x y Q ⟨p,hp1,x1⟩ ⟨q,hq1,y1⟩ h'=>by
  refine z4e (x1.keep k) (y1.keep k) ?_;have hK:∀v p q,PathAt h v p->PathAt h v q->p=q:=fun _ _ _ a b=>a.inj b;have e1:=q2e hK x1;have e2:=q2e hK y1;rw[q6z hp1 hq1,<- e1,<- e2];exact h'
theorem PairAt.inj(h1:PairAt h v p m)(h2:PairAt h v q m'):p=q:=by
 obtain⟨a,k,rfl,t,s⟩:=h1;obtain⟨a',k',e,t',s'⟩:=h2;cases e;have e:=congrArg Array.toList (IsTup.inj t t');have e2:k=k':=by grind
 subst e2;exact s.inj s'
theorem ready_pairs(few:vs.length<64)(hp:∀v∈vs,∃p∈ps,∃m,Low p/\PairAt h v p m)(hi:∀u∈vs,∀v∈vs,∀p m m',PairAt h u p m->PairAt h v p m'->u=v)(hu:A.units+12<cLine):
  Ready prog w A vs h (tuples' false) (fun v=>v∈vs) (fun v=>(pRank ps (keyBy (fun v p=>∃m,PairAt h v p m) v):Int)) where
 few:=few
 all:=fun v hv=>hv
 kind:=fun h2 A' s' E Q _ k q=>by
  have hne:vs≠[]:=fun z=>by rw[z] at h2;simp at h2
  have ex:∀v∈vs,∃a b its m,v=.ref a/\IsTup s'.heap a #[.ref b,m]/\IsTup s'.heap b its:=fun v hv=>by
   obtain⟨p,_,m,_,x⟩:=hp v hv;obtain⟨a,z,rfl,tt,b,its,rfl,t2,_⟩:=x.keep k;exact⟨a,b,its,m,rfl,tt,t2⟩
  refine z4g (fs:=fun v=>(match v with|.ref a=>(match s'.heap.get? a with|some o=>(match o.data with|.seq its _=>its.getD 0 .none|_=>.none)|none=>.none)|_=>.none)) hne (fun v hv=>?_) (fun v hv=>?_) (by rw[show(Value.type "tuple" != Value.type "tuple")=false from by decide];exact q)
  ·obtain⟨a,b,its,m,rfl,tt,_⟩:=ex v hv;refine⟨a,_,rfl,tt,?_⟩;obtain⟨o,e1,e2,n,e3⟩:=tt;simp only[e1,e3];rfl
  ·obtain⟨a,b,its,m,rfl,tt,t2⟩:=ex v hv;obtain⟨o,e1,e2,n,e3⟩:=tt;simp only[e1,e3];obtain⟨o2,f1,f2,_⟩:=t2;exact⟨o2,f1,f2⟩
 tells:=fun A' s' hA k E x y Q hx hy h'=>by
  obtain⟨p,hp1,m,lp,x1⟩:=hp x hx;obtain⟨q,hq1,m',lq,y1⟩:=hp y hy;refine z4f (x1.keep k) (y1.keep k) (fun e=>by subst e;exact hi x hx y hy _ _ _ x1 y1) lp lq (by lia) ?_;have hK:∀v p q,(∃m,PairAt h v p m)->(∃m,PairAt h v q m)->p=q:=fun v p q ⟨_,a⟩ ⟨_,b⟩=>PairAt.inj a b
  have e1:=q2e hK ⟨m,x1⟩;have e2:=q2e hK ⟨m',y1⟩;rw[q6z hp1 hq1,<- e1,<- e2];exact h'
end
end SB
namespace PySem.Rv
open Sem (wp)
structure Runs (prog:Program) (w:World) (A:Around) (S I:Addr) (n:Nat) (Fc:List Value->Heap->Prop) (It:Nat->Heap->Prop):Prop where
 keepF:∀acc h h',Fc acc h->(∀b o,b≠S->b≠I->h.get? b=some o->h'.get? b=some o)->Fc acc h'
 keepI:∀i h h',It i h->(∀b o,b≠S->h.get? b=some o->h'.get? b=some o)->It i h'
 item:∀acc (s:Shared) (Q:Option Value->Shared->Prop) (E:Value->Shared->Prop),acc.length<n->Fc acc s.heap->It acc.length s.heap ->
  (∀v h',Fc (acc++[v]) h'->It (acc.length+1) h'->(∀b o,b≠I->s.heap.get? b=some o->h'.get? b=some o)->Q (some v) { s with heap:=h' })->wpAny (model prog w) A.in1 (pyNext (.ref I)) Q E s
 done:∀(s:Shared) (Q:Option Value->Shared->Prop) (E:Value->Shared->Prop),It n s.heap->(∀h',(∀b o,b≠I->s.heap.get? b=some o->h'.get? b=some o)->Q none { s with heap:=h' })->wpAny (model prog w) A.in1 (pyNext (.ref I)) Q E s
section
variable{prog:Program}{w:World}{A:Around}{E:Value->Shared->Prop}{S I:Addr}{n:Nat}{Fc:List Value->Heap->Prop}{It:Nat->Heap->Prop}
theorem grow(W:Runs prog w A S I n Fc It)(hSI:S≠I)(hn:n<=sizeLine)(res:Value):∀(k:Nat) (acc:List Value) (s:Shared) (c:Nat),n-acc.length=k->acc.length<=n->Fc acc s.heap->It acc.length s.heap ->
  s.heap.get? S=some { cls:=.type "list",data:=.seq acc.toArray c } ->
  (∀acc' h' c',acc'.length=n->Fc acc' h'->(∀b o,b≠S->b≠I->s.heap.get? b=some o->h'.get? b=some o)->h'.get? S=some { cls:=.type "list",data:=.seq acc'.toArray c' }->R (.ok (.ret res)) { s with heap:=h' }) ->
  codeAny (model prog w) A (.builtin "list.extend.loop" ⟨[.ref S,.ref I,res],[]⟩) R s:=by
 intro k;induction k with
 |zero =>
  intro acc s c hk hl f i hS hR;refine codeAny_builtin F.entry_extend_loop ?_;rw[Around.under_plainId F.plain_extend_loop _];have e:acc.length=n:=by lia
  refine wpAny_bind (W.done s _ _ (by rw[<- e];exact i) fun h' kp=>wpAny_pure ?_);exact hR acc h' c e (W.keepF _ _ _ f fun b o _ hb q=>kp b o hb q) (fun b o _ hb q=>kp b o hb q) (kp S _ hSI hS)
 |succ k ih =>
  intro acc s c hk hl f i hS hR;refine codeAny_builtin F.entry_extend_loop ?_;rw[Around.under_plainId F.plain_extend_loop _];refine wpAny_bind (W.item acc s _ _ (by lia) f i fun v h' f' i' kp=>?_);have hS':=kp S _ hSI hS;have oth:∀b o,b≠S->h'.get? b=some o->(h'.update S (Obj.mapSeq (·.push v))).get? b=some o:=fun b o hb q=>(Heap.get?_update_other _ _ (Ne.symm hb)).trans q;have hS2:(h'.update S (Obj.mapSeq (·.push v))).get? S=some { cls:=.type "list",data:=.seq (acc++[v]).toArray (c+1) }:=by
   have:=PyProof.Rows.get?_update_seq hS' (fun x=>x.push v);rw[this];simp
  refine wpAny_bind (wpAny_updateSeq hS' rfl (wpAny_pure ⟨plainId_quiet F.plain_extend_loop _,ih (acc++[v]) _ (c+1) (by rw[List.length_append,List.length_singleton];lia) (by rw[List.length_append,List.length_singleton];lia)
   (W.keepF _ _ _ f' fun b o hb _ q=>oth b o hb q) (by rw[List.length_append,List.length_singleton];exact W.keepI _ _ _ i' oth) hS2 fun acc' h2 c' e2 f2 k2 s2=>hR acc' h2 c' e2 f2 (fun b o hb hb' q=>k2 b o hb hb' (oth b o hb (kp b o hb' q))) s2⟩) (by rw[List.size_toArray];lia) (by simp;lia))
theorem collect_runs(hT:∀h,(∀b o,s.heap.get? b=some o->h.get? b=some o)->(⟨h,s.gens,s.drawn,s.toks,s.os⟩:Shared).TypeIs (.ref v) T)(hv:v<s.heap.objs.size)(h1:(Value.type T==Value.type "list")=false)(h2:(Value.type T==Value.type "tuple")=false)(hint:∀(A:Around) (E:Value->Shared->Prop) (s':Shared) (Q:Bool->Shared->Prop),s'.TypeIs (.ref v) T->Q false s'->wpAny (model prog w) A (Builtin.List.listLengthHint (.ref v)) Q E s')(iter:∀(A:Around) (E:Value->Shared->Prop) (h:Heap) (Q:Value->Shared->Prop),(∀b o,s.heap.get? b=some o->h.get? b=some o)->Q (.ref h.objs.size) { s with heap:=h.push oI }->wpAny (model prog w) A (pyIter (.ref v)) Q E { s with heap:=h })(hoI:∀h:Heap,(h.push oI).get? h.objs.size=some oI)(W:Runs prog w A s.heap.objs.size (s.heap.objs.size+1) n Fc It)(hn:n<=sizeLine)(h0:∀h,(∀b o,s.heap.get? b=some o->h.get? b=some o)->h.get? (s.heap.objs.size+1)=some oI->Fc [] h/\It 0 h)(hQ:∀acc h,acc.length=n->Fc acc h->s.heap.objs.size<=h.objs.size->(∀b o,s.heap.get? b=some o->h.get? b=some o)->Q acc { s with heap:=h }):wpAny (model prog w) A (collect (.ref v)) Q E s:=by
 refine wpAny_bind (wpAny_runValue (codeAny_builtin F.entry_proto_collect ?_));rw[Around.under_plainId F.plain_proto_collect _];refine wpAny_bind (wpAny_newObj_type (wpAny_pure ⟨plainId_quiet F.plain_list_iadd _,codeAny_builtin F.entry_list_iadd ?_⟩));rw[Around.under_plainId F.plain_list_iadd _];show wpAny _ A.in1 (Builtin.List.listExtendWith (.ref s.heap.objs.size) (.ref v) (.ref s.heap.objs.size)) _ _ { s with heap:=s.heap.push { cls:=.type "list",data:=.seq ([]:List Value).toArray } };generalize hg:s.heap.push { cls:=.type "list",data:=.seq ([]:List Value).toArray }=g;have kg:∀b o,s.heap.get? b=some o->g.get? b=some o:=fun b o q=>by rw[<- hg];exact Heap.get?_push_of_some _ q
 have gz:g.objs.size=s.heap.objs.size+1:=by rw[<- hg];exact Heap.size_push _ _
 have gS:g.get? s.heap.objs.size=some { cls:=.type "list",data:=.seq ([]:List Value).toArray }:=by rw[<- hg];exact Heap.get?_push_size _ rfl
 refine wpAny_bind (wpAny_typeOf (hT g kg) ?_);have hs:Builtin.List.listSameRef (.ref s.heap.objs.size) (.ref v)=false:=by simp[Builtin.List.listSameRef,Nat.ne_of_gt hv]
 simp only[hs,h1,h2,Bool.or_false,Bool.false_eq_true,if_false];refine wpAny_bind (iter _ _ g _ kg ?_);rw[gz];have kI:∀b o,g.get? b=some o->(g.push oI).get? b=some o:=fun b o q=>Heap.get?_push_of_some _ q;have hS₁:=kI _ _ gS;have put:∀(h:Heap) (c:Nat),(∀b o,b≠s.heap.objs.size->(g.push oI).get? b=some o->h.get? b=some o)->h.get? s.heap.objs.size=some { cls:=.type "list",data:=.seq ([]:List Value).toArray c }->h.get? (s.heap.objs.size+1)=some oI ->
   codeAny (model prog w) A (.builtin "list.extend.loop" ⟨[.ref s.heap.objs.size,.ref (s.heap.objs.size+1),.ref s.heap.objs.size],[]⟩) (fun r s'=>∃acc c',r=.ok (.ret (.ref s.heap.objs.size))/\s'.heap.get? s.heap.objs.size=some { cls:=.type "list",data:=.seq acc c' }/\Q acc.toList s') { s with heap:=h }:=by
  intro h c kh hh hi;obtain⟨f,i⟩:=h0 h (fun b o q=>kh b o (Nat.ne_of_lt (Heap.lt_size q)) (kI b o (kg b o q))) hi;refine grow W (Nat.ne_of_lt (Nat.lt_succ_self _)) hn _ n [] _ c (by simp) (Nat.zero_le _) f i hh fun acc h' c' e f' k' s'=>⟨acc.toArray,c',rfl,s',?_⟩
  have:=hQ acc h' e f' (Nat.le_of_lt (Heap.lt_size s')) fun b o q=>k' b o (Nat.ne_of_lt (Heap.lt_size q)) (Nat.ne_of_lt (Nat.lt_succ_of_lt (Heap.lt_size q))) (kh b o (Nat.ne_of_lt (Heap.lt_size q)) (kI b o (kg b o q)));simpa using this
 have gI:(g.push oI).get? (s.heap.objs.size+1)=some oI:=by grind
 refine wpAny_bind (wpAny_holding (hint _ _ _ _ (hT (g.push oI) fun b o q=>kI b o (kg b o q)) ?_));have last:∀(h:Heap) (c:Nat),(∀b o,b≠s.heap.objs.size->(g.push oI).get? b=some o->h.get? b=some o)->h.get? s.heap.objs.size=some { cls:=.type "list",data:=.seq ([]:List Value).toArray c }->h.get? (s.heap.objs.size+1)=some oI->∀{R:Result->Shared->Prop},
   (∀s' acc c',s'.heap.get? s.heap.objs.size=some { cls:=.type "list",data:=.seq acc c' }->Q acc.toList s'->R (.ok (.ret (.ref s.heap.objs.size))) s')->codeAny (model prog w) A (.builtin "list.extend.loop" ⟨[.ref s.heap.objs.size,.ref (s.heap.objs.size+1),.ref s.heap.objs.size],[]⟩) R { s with heap:=h }:=by
  intro h c kh hh hi R hR;refine codeAny_mono (put h c kh hh hi) fun r s' z=>?_;obtain⟨acc,c',rfl,e,q⟩:=z;exact hR s' acc c' e q
 refine wpAny_ite_split (fun _=>?_) (fun _=>?_)
 ·refine wpAny_bind (wpAny_rule (wpAny_bind ?_));show wpAny _ _ (updateSeq s.heap.objs.size (·.push .none) >>= fun _=>updateSeq s.heap.objs.size (·.pop)) _ _ _;refine wpAny_bind (wpAny_updateSeq hS₁ rfl ?_);have hS₂:=PyProof.Rows.get?_update_seq hS₁ (fun x=>x.push Value.none);refine wpAny_updateSeq hS₂ rfl ?_;have hS₃:=PyProof.Rows.get?_update_seq hS₂ (fun x=>x.pop);have oth:∀b o,b≠s.heap.objs.size->(g.push oI).get? b=some o->(((g.push oI).update s.heap.objs.size (Obj.mapSeq fun x=>x.push Value.none)).update s.heap.objs.size (Obj.mapSeq fun x=>x.pop)).get? b=some o :=
   fun b o hb q=>(Heap.get?_update_other _ _ (Ne.symm hb)).trans ((Heap.get?_update_other _ _ (Ne.symm hb)).trans q)
  refine wpAny_pure ⟨plainId_quiet F.plain_extend_loop _,last _ _ oth hS₃ (oth _ _ (Nat.ne_of_gt (Nat.lt_succ_self _)) gI) fun s' acc c' e q=>?_⟩;exact wpAny_bind (wpAny_load e (wpAny_pure q))
 ·refine wpAny_pure ⟨plainId_quiet F.plain_extend_loop _,last _ _ (fun b o _ q=>q) hS₁ gI fun s' acc c' e q=>?_⟩;exact wpAny_bind (wpAny_load e (wpAny_pure q))
end
end PySem.Rv
namespace L2
open PySem PySem.Spec PyProof.Rows SB TX
def kP(p:Pth):List Key:=p.map fun n=>Sum.inr (mk n)
abbrev vP(p:Pth):List V:=p.map fun n=>V.str (mk n)
theorem q1u(p:Pth):(kP p).map kV=vP p:=by unfold kP;rw[List.map_map];rfl
abbrev HRow:=Pth×V
abbrev dR(rows:List HRow):HO:=.dT (rows.map fun r=>(kP r.1,r.2))
theorem q8s:∀{p:Pth} {us:List Value},Vals (vP p) us->StrsAre us (p.map mk)
 |[],_,.nil=>.nil
 |n::p,us,h=>by
  cases h with
  |cons r t =>
   obtain⟨k,rfl⟩:=r;exact .cons _ k (q8s t)
section
variable{X:Cx}{pins:List (Addr×Obj)}{σ:St}{H:Hp}{s:Shared}
theorem Inv.path(I:Inv X pins σ H s)(h:H b=some (.tup (vP p))):PathAt s.heap (.ref b) p:=by
 obtain⟨z,its,r,t⟩:=I.hok b _ h;exact⟨b,its.toArray,rfl,t,by simpa using q8s r⟩
theorem Inv.rows(I:Inv X pins σ H s){rows:List HRow}(hd:H d=some (dR rows)):(d==sysModules)=false/\rows.length<=sizeLine/\∃ob es ep,s.heap.get? d=some ob/\ob.ExactDict/\ob.data=.dict es ep/\(rows.map (·.1)).Nodup /\
  ∃zs:List (Addr×Value×HRow),zs.map (·.2.2)=rows/\es.toList.map (fun e=>(e.key,e.val))=zs.map (fun z=>(Value.ref z.1,z.2.1))/\∀z∈zs,H z.1=some (.tup (vP z.2.2.1))/\RelV z.2.2.2 z.2.1:=by
 obtain⟨z,hsys,xs,hp,ob,es,ep,ho,hex,hob,h4,h5⟩:=(show ObjOk X.prog X.w H s.heap d (dR rows) from I.hok d _ hd)
 rw[List.length_map] at z;have go:∀(rows:List HRow) (xs:List (List Key×Addr×Value)),Paired (fun(p:List Key×V) (q:List Key×Addr×Value)=>p.1=q.1/\H q.2.1=some (.tup (p.1.map kV))/\RelV p.2 q.2.2) (rows.map fun r=>(kP r.1,r.2)) xs ->
   xs.map (·.1)=rows.map (fun r=>kP r.1)/\∃zs:List (Addr×Value×HRow),zs.map (·.2.2)=rows/\(xs.map (entryOfKey (tupleKind (mixKind X.prog X.w)))).map (fun e=>(e.key,e.val))=zs.map (fun z=>(Value.ref z.1,z.2.1))/\∀z∈zs,H z.1=some (.tup (vP z.2.2.1))/\RelV z.2.2.2 z.2.1:=by
  intro rows;induction rows with
  |nil=>intro xs h;cases h;exact⟨rfl,[],rfl,rfl,fun _ h=>nomatch h⟩
  |cons r rows ih =>
   intro xs h;cases h with
   |cons hq t =>
    rename_i q ys;obtain⟨e1,e2,e3⟩:=hq;obtain⟨i0,zs,i1,i2,i3⟩:=ih ys t;refine⟨by rw[List.map_cons,List.map_cons,i0,<- e1],(q.2.1,q.2.2,r)::zs,by rw[List.map_cons,i1],by rw[List.map_cons,List.map_cons,List.map_cons,i2];rfl,fun z hz=>?_⟩;rcases List.mem_cons.mp hz with rfl|hz
    ·exact⟨by rw[<- q1u];exact e2,e3⟩
    ·exact i3 z hz
 obtain⟨g0,zs,g1,g2,g3⟩:=go rows xs hp;refine⟨hsys,z,ob,es,ep,ho,hex,hob,?_,zs,g1,by rw[h4];exact g2,g3⟩;rw[g0] at h5;have e:rows.map (fun r=>kP r.1)=(rows.map (·.1)).map kP:=by simp_all
 rw[e] at h5;exact(List.pairwise_map.mp h5).imp fun hne z=>hne (by rw[z])
end
abbrev PTs(H:Hp):List Addr->List Pth->Prop:=Paired fun b p=>H b=some (.tup (vP p))
def rSortD:List V->Hp->VK->Prop:=fun vs H Q=>∃d rows,vs=[.ref d]/\H d=some (dR rows)/\rows.length<64/\(∀r∈rows,r.1≠[]) /\
 ∀L bs ps,H L=none->ps.Perm (rows.map (·.1))->ps.Pairwise (fun a b=>pLt b a=false)->PTs H bs ps->Q (.ref L) (upd H L (.lst (bs.map V.ref)))
theorem q5m:∀(bs:List Addr),Vals (bs.map V.ref) (bs.map Value.ref)
 |[]=>.nil
 |b::bs=>.cons rfl (q5m bs)
theorem z7o{H:Hp}{α:Type}{f:α->Addr}{g:α->Pth}:∀{zs:List α},(∀z∈zs,H (f z)=some (.tup (vP (g z))))->PTs H (zs.map f) (zs.map g)
 |[],_=>.nil
 |z::zs,h=>.cons (h z List.mem_cons_self) (z7o fun y hy=>h y (List.mem_cons_of_mem _ hy))
theorem q2m(hr:Room k X.A):CallR X (.builtin "sorted") rSortD:=by
 intro pins s σ H xs us Q I rv h;obtain⟨d,rows,rfl,hd,few,hne,q⟩:=h;obtain⟨u,rfl,ru⟩:=rv.one;cases ru;obtain⟨hsys,hz,ob,es,ep,ho,hex,hob,nd,zs,z1,z2,z3⟩:=I.rows hd;have hlen:es.size=rows.length:=by
  have:=congrArg List.length z2;rw[List.length_map,List.length_map,Array.length_toList] at this;rw[this,<- z1,List.length_map]
 have hkeys:∀{i:Nat} (hi:i<es.size),∃z∈zs,zs[i]?=some z/\es[i].key=.ref z.1:=fun{i} hi=>by
  have e:=congrArg (fun l=>l[i]?) z2;simp only[List.getElem?_map,Array.getElem?_toList,Array.getElem?_eq_getElem hi,Option.map_some] at e;cases hzi:zs[i]? with
  |none=>simp_all
  |some z =>
   rw[hzi] at e;injection e with e;injection e with e1 e2;exact⟨z,List.mem_of_getElem? hzi,rfl,e1⟩
 have hdL:=Heap.lt_size ho;refine SB.sorted_ok fun{Q'} kk=>?_;refine PySem.Rv.collect_runs (n:=es.size) (Fc:=fun acc _=>acc=(zs.take acc.length).map fun z=>Value.ref z.1)
  (It:=fun i h=>h.IsKeyIter (s.heap.objs.size+1) d i es.size ep/\h.get? d=some ob) (fun h kh=>⟨ob,kh _ _ ho,hex.1⟩) hdL (by decide) (by decide) (fun A E s' Q hT hq=>W.kdl_hint_dict hT hq)
  (fun A E h Q kh hq=>PySem.Rv.keys_iter hsys ⟨ob,kh _ _ ho,hex.1⟩ (kh _ _ ho) hob hq) (fun h=>Heap.get?_push_size _ rfl) ⟨fun acc h h' f _=>f,fun i h h' ⟨f1,f2⟩ kp=>⟨f1.at fun o e=>kp _ _ (Nat.ne_of_gt (Nat.lt_succ_self _)) e,kp _ _ (Nat.ne_of_lt hdL) f2⟩,?_,?_⟩ (by lia)
  (fun h kh ki=>⟨rfl,⟨_,ki,rfl,rfl⟩,kh _ _ ho⟩) (fun acc h el f hz2 kh=>?_)
 ·intro acc s' Q E hl f ⟨i1,i2⟩ hq;refine PySem.Rv.keys_item i1 i2 hob hl fun h' j1 sb=>?_;obtain⟨z,hzm,hzi,hzk⟩:=hkeys hl;rw[hzk];refine hq _ h' ?_ ⟨j1,(sb.2 d (Nat.ne_of_lt (Nat.lt_succ_of_lt hdL))).trans i2⟩ fun b o hb e=>(sb.2 b hb).trans e;rw[List.length_append,List.length_singleton,List.take_succ,hzi,List.map_append,<- f];rfl
 ·intro s' Q E ⟨i1,i2⟩ hq;exact PySem.Rv.keys_end hr.hd i1 i2 hob (Nat.le_refl _) fun h' eb=>hq h' fun b o hb e=>eb b o hb e
 ·have hzl:zs.length=es.size:=by rw[hlen,<- z1,List.length_map]
  have ea:acc=zs.map fun z=>Value.ref z.1:=by grind
  have hpa:∀v∈acc,∃p∈rows.map (·.1),p≠[]/\PathAt h v p:=fun v hv=>by
   rw[ea] at hv;obtain⟨z,hzm,rfl⟩:=List.mem_map.mp hv;have hm:z.2.2∈rows:=by grind
   exact⟨z.2.2.1,List.mem_map.mpr ⟨_,hm,rfl⟩,hne _ hm,(I.path (z3 z hzm).1).keep kh⟩
  refine kk acc h s.toks _ _ _ (SB.ready_paths (by lia) hpa) fun h' out so kh' ⟨e,he⟩=>?_;have pm:=so.perm;rw[ea] at pm;obtain⟨zs',p1,p2⟩:=SB.perm_map_inv pm rfl;have hrise:=so.rise;rw[p2] at hrise;have hps:=SB.rise_paths (fun _ _ _ a b=>a.inj b) (fun z hz=>by
   have hzm:=p1.mem_iff.mp hz;have hm:z.2.2∈rows:=by grind
   exact⟨(I.path (z3 z hzm).1).keep kh,List.mem_map.mpr ⟨_,hm,rfl⟩⟩) hrise
  have keep:=fun b o z=>kh' b o (kh b o z);have hfr:=I.hok.fresh hz2;have eo:out.toList=(zs'.map (·.1)).map Value.ref:=by rw[p2,List.map_map];rfl
  have el2:(zs'.map (·.1)).length=es.size:=by rw[List.length_map,p1.length_eq,hzl]
  refine⟨.ref h.objs.size,upd H h.objs.size (.lst ((zs'.map (·.1)).map V.ref)),I.laid (t':=s.toks) keep hz2 ⟨by rw[List.length_map,el2];lia,_,e,q5m _,?_⟩,rfl,?_⟩
  ·rw[he,<- eo]
  ·refine q _ (zs'.map (·.1)) (zs'.map fun z=>z.2.2.1) hfr ?_ hps (z7o fun z hz=>(z3 z (p1.mem_iff.mp hz)).1);have:=p1.map fun z:Addr×Value×HRow=>z.2.2.1;have e3:zs.map (fun z=>z.2.2.1)=rows.map (·.1):=by rw[<- z1,List.map_map];rfl
   rwa [e3] at this
def vwO(v d:Addr):HO:=.ext fun h=>h.IsItemsView v d
def rItems:V->List V->Hp->VK->Prop:=fun x vs H Q=>∃d rows,x=.ref d/\vs=[]/\H d=some (dR rows)/\∀v,H v=none->Q (.ref v) (upd H v (vwO v d))
theorem z6h:MtR X "dict.items" rItems:=by
 intro pins s σ H x vs v us Q I rx rv h;obtain⟨d,rows,rfl,rfl,hd,q⟩:=h;cases rx;have hus:=rv.zero;subst hus;obtain⟨hsys,hz,ob,es,ep,ho,hex,hob,_⟩:=I.rows hd;refine wpAny_call_entry F.slot_dict_items ⟨ob,ho,hex.1⟩ F.entry_dict_items ?_ (F.args_dict_items_1 _);refine wpAny_bind ?_;unfold Builtin.Dict.noArgs;refine wpAny_bind (wpAny_notOrdered_dict ⟨ob,ho,hex.1⟩ ?_);show wpAny _ _ (pure d) _ _ s;refine wpAny_pure ?_;unfold Builtin.Dict.showsAll;rw[if_neg (by rw[hsys];exact Bool.false_ne_true)];refine wpAny_bind (wpAny_pure (wpAny_bind (wpAny_newObj_type (wpAny_pure ⟨_,rfl,.ref s.heap.objs.size,_,I.laid (t':=s.toks) (fun b u e=>Heap.get?_push_of_some _ e) (Nat.le_refl _) ?_,rfl,q _ I.fresh⟩))));exact⟨⟨_,Heap.get?_push_size _ rfl,rfl,rfl⟩,⟨_,Heap.get?_push_size _ rfl⟩,fun h1 h2 ⟨o,e,c,dd⟩ k=>⟨o,k o e,c,dd⟩⟩
def PR(H:Hp)(a:Addr)(r:HRow):Prop:=∃b,H a=some (.tup [.ref b,r.2])/\H b=some (.tup (vP r.1))
abbrev PRs(H:Hp):List Addr->List HRow->Prop:=Paired (PR H)
def rSortV:List V->Hp->VK->Prop:=fun vs H Q=>∃v d rows,vs=[.ref v]/\H v=some (vwO v d)/\H d=some (dR rows)/\rows.length<64/\(∀r∈rows,Low r.1) /\
 ∀L as rs H',H L=none->rs.Perm rows->(rs.map (·.1)).Pairwise (fun a b=>pLt b a=false)->Same H H'->H' L=some (.lst (as.map V.ref))->PRs H' as rs->Q (.ref L) H'
theorem Inv.tracks{σ:St}:∀{zs:List (Addr×List V)} {H:Hp},Inv X pins σ H s->X.s₀.heap.objs.size<=n->(zs.map (·.1)).Nodup ->
  (∀z∈zs,n<=z.1/\FpOk X pins H z.1/\z.2.length<=sizeLine/\∃its,Vals z.2 its/\IsTup s.heap z.1 its.toArray)->∃H',Inv X pins σ H' s/\Same H H'/\(∀z∈zs,H' z.1=some (.tup z.2))/\∀b,(∀z∈zs,z.1≠b)->H' b=H b:=by
 intro zs;induction zs with
 |nil=>intro H I _ _ _;exact⟨H,I,Same.refl H,(fun _ h=>nomatch h),fun _ _=>rfl⟩
 |cons z zs ih =>
  intro H I hn nd hz;obtain⟨h1,h2,h3,its,h4,h5⟩:=hz z List.mem_cons_self;rw[List.map_cons,List.nodup_cons] at nd;have I2:=I.track (o:=.tup z.2) (Nat.le_trans hn h1) h2 ⟨h3,its,h4,h5⟩;obtain⟨H',J,sm,ht,ho⟩:=ih I2 hn nd.2 (fun y hy=>by
   obtain⟨g1,g2,g3,g4⟩:=hz y (List.mem_cons_of_mem _ hy);exact⟨g1,⟨by rw[q0c (fun e=>nd.1 (by rw[<- e];exact List.mem_map.mpr ⟨y,hy,rfl⟩))];exact g2.1,g2.2⟩,g3,g4⟩)
  refine⟨H',J,((Same.refl H).new h2.1).trans sm,fun y hy=>?_,fun b hb'=>?_⟩
  ·rcases List.mem_cons.mp hy with rfl|hy
   ·exact sm _ _ q0b
   ·exact ht y hy
  ·rw[ho b fun y hy=>hb' y (List.mem_cons_of_mem _ hy),q0c (Ne.symm (hb' z List.mem_cons_self))]
theorem q0w{α β:Type}{f:α->β}:∀{l:List α},(l.map f).Nodup->∀{x y:α},x∈l->y∈l->f x=f y->x=y
 |[],_,_,_,h,_,_=>nomatch h
 |a::l,nd,x,y,hx,hy,e=>by
  rw[List.map_cons,List.nodup_cons] at nd;rcases List.mem_cons.mp hx with ex|hx1
  ·rcases List.mem_cons.mp hy with ey|hy1
   ·rw[ex,ey]
   ·exact absurd (by rw[<- ex,e];exact List.mem_map.mpr ⟨y,hy1,rfl⟩) nd.1
  ·rcases List.mem_cons.mp hy with ey|hy1
   ·exact absurd (by rw[<- ey,<- e];exact List.mem_map.mpr ⟨x,hx1,rfl⟩) nd.1
   ·exact q0w nd.2 hx1 hy1 e
abbrev Zt:=Addr×Value×HRow
structure Made (h:Heap) (lo:Nat) (ws:List (Addr×Zt)):Prop where
 rise:(ws.map (·.1)).Pairwise fun a b:Nat=>a<b
 low:∀x∈ws,lo<=(show Nat from x.1)
 at_:∀x∈ws,IsTup h x.1 #[.ref x.2.1,x.2.2.1]
theorem Made.keep{lo:Nat}(m:Made h lo ws)(k:∀(a:Nat) o,lo<=a->h.get? a=some o->h'.get? a=some o):Made h' lo ws :=
 ⟨m.rise,m.low,fun x hx=>SB.IsTup.keep (m.at_ x hx) fun o e=>k _ o (m.low x hx) e⟩
theorem z4i{H:Hp}{α:Type}{f:α->Addr}{g:α->HRow}:∀{zs:List α},(∀z∈zs,PR H (f z) (g z))->PRs H (zs.map f) (zs.map g)
 |[],_=>.nil
 |z::zs,h=>.cons (h z List.mem_cons_self) (z4i fun y hy=>h y (List.mem_cons_of_mem _ hy))
theorem z2a(hr:Room k X.A):CallR X (.builtin "sorted") rSortV:=by
 intro pins s σ H xs us Q I rv h;obtain⟨v,d,rows,rfl,hv,hd,few,hlow,q⟩:=h;obtain⟨u,rfl,ru⟩:=rv.one;cases ru;obtain⟨hsys,hz,ob,es,ep,ho,hex,hob,nd,zs,z1,z2,z3⟩:=I.rows hd;obtain⟨vo,vho,vc,vd⟩:s.heap.IsItemsView v d:=(I.hok v _ hv).1;have hlen:es.size=rows.length:=by
  have:=congrArg List.length z2;rw[List.length_map,List.length_map,Array.length_toList] at this;rw[this,<- z1,List.length_map]
 have hkeys:∀{i:Nat} (hi:i<es.size),∃z∈zs,zs[i]?=some z/\es[i].key=.ref z.1/\es[i].val=z.2.1:=fun{i} hi=>by
  have e:=congrArg (fun l=>l[i]?) z2;simp only[List.getElem?_map,Array.getElem?_toList,Array.getElem?_eq_getElem hi,Option.map_some] at e;cases hzi:zs[i]? with
  |none=>simp_all
  |some z =>
   rw[hzi] at e;injection e with e;injection e with e1 e2;exact⟨z,List.mem_of_getElem? hzi,rfl,e1,e2⟩
 have hzl:zs.length=es.size:=by grind
 have hdL:=Heap.lt_size ho;have hu:=hr.un;refine SB.sorted_ok fun{Q'} kk=>?_;refine PySem.Rv.collect_runs (n:=es.size) (oI:=PySem.Rv.itemObj d 0 es.size ep .none (.bool false) .none .none) (Fc:=fun acc h=>∃ws,acc=ws.map (fun x=>Value.ref x.1)/\ws.map (·.2)=zs.take acc.length/\Made h (s.heap.objs.size+2) ws)
  (It:=fun i h=>PySem.Rv.ItemIt h (s.heap.objs.size+1) d i es.size ep/\h.get? d=some ob) (fun h kh=>⟨vo,kh _ _ vho,vc⟩) (Heap.lt_size vho) (by decide) (by decide) (fun A E s' Q hT hq=>W.kdx_hint hT hq)
  (fun A E h Q kh hq=>PySem.Rv.items_iter ⟨vo,kh _ _ vho,vc,vd⟩ (kh _ _ ho) hob hq) (fun h=>Heap.get?_push_size _ rfl) ⟨?_,fun i h h' ⟨f1,f2⟩ kp=>⟨f1.keep fun o e=>kp _ _ (Nat.ne_of_gt (Nat.lt_succ_self _)) e,kp _ _ (Nat.ne_of_lt hdL) f2⟩,?_,?_⟩ (by lia)
  (fun h kh ki=>⟨⟨[],rfl,rfl,.nil,(fun _ z=>nomatch z),(fun _ z=>nomatch z)⟩,⟨_,_,_,_,ki,.inl rfl⟩,kh _ _ ho⟩) (fun acc h el f hz2 kh=>?_)
 ·rintro acc h h' ⟨ws,e1,e2,m⟩ kp;refine⟨ws,e1,e2,m.keep fun a o ha e=>kp a o (fun z=>?_) (fun z=>?_) e⟩
  ·rw[z] at ha;exact absurd ha (by lia)
  ·grind
 ·rintro acc s' Q E hl ⟨ws,e1,e2,m⟩ ⟨i1,i2⟩ hq;refine PySem.Rv.items_item i1 i2 hob hl fun h' j1 j2 j3 j4=>?_;obtain⟨z,hzm,hzi,hzk,hzv⟩:=hkeys hl;have lo:=i1.lt;have ni:∀{a:Nat},s.heap.objs.size+2<=a->a≠s.heap.objs.size+1:=fun h=>by lia
  refine hq _ h' ⟨ws++[(s'.heap.objs.size,z)],by rw[e1,List.map_append];rfl,?_,?_⟩ ⟨j1,j4 d ob (Nat.ne_of_lt (Nat.lt_succ_of_lt hdL)) i2⟩ j4
  ·rw[List.map_append,e2,List.length_append,List.length_singleton,List.take_succ,hzi];rfl
  ·have m':=m.keep (h':=h') fun a o ha e=>j4 a o (ni ha) e;refine⟨?_,fun x hx=>?_,fun x hx=>?_⟩
   ·rw[List.map_append];refine List.pairwise_append.mpr ⟨m.rise,List.pairwise_singleton _ _,fun a ha b hb=>?_⟩;obtain⟨x,hx,rfl⟩:=List.mem_map.mp ha;have hb':b=s'.heap.objs.size:=by simpa using hb
    rw[hb'];obtain⟨o,eo,_⟩:=m.at_ x hx;exact Heap.lt_size eo
   ·rcases List.mem_append.mp hx with hx|hx
    ·exact m.low x hx
    ·rw[List.mem_singleton.mp hx];exact lo
   ·rcases List.mem_append.mp hx with hx|hx
    ·exact m'.at_ x hx
    ·rw[List.mem_singleton.mp hx];refine⟨_,j2,rfl,0,?_⟩;rw[hzk,hzv]
 ·rintro s' Q E ⟨i1,i2⟩ hq;exact PySem.Rv.items_end hr.hd i1 i2 hob (Nat.le_refl _) fun h' eb=>hq h' fun b o hb e=>eb b o hb e
 ·obtain⟨ws,e1,e2,m⟩:=f;rw[el,<- hzl,List.take_length] at e2;have hwz:∀{x:Addr×Zt},x∈ws->x.2∈zs:=fun{x} hx=>by rw[<- e2];exact List.mem_map.mpr ⟨x,hx,rfl⟩
  have hrow:∀{x:Addr×Zt},x∈ws->x.2.2.2∈rows:=fun{x} hx=>by rw[<- z1];exact List.mem_map.mpr ⟨_,hwz hx,rfl⟩
  have hpa:∀{x:Addr×Zt},x∈ws->PairAt h (.ref x.1) x.2.2.2.1 x.2.2.1:=fun{x} hx=>⟨x.1,.ref x.2.1,rfl,m.at_ x hx,(I.path (z3 _ (hwz hx)).1).keep kh⟩
  have hnd:(ws.map fun x=>x.2.2.2.1).Nodup:=by grind
  have hacc:∀{w:Value},w∈acc->∃x∈ws,w=.ref x.1:=fun{w} hw=>by
   rw[e1] at hw;obtain⟨x,hx,rfl⟩:=List.mem_map.mp hw;exact⟨x,hx,rfl⟩
  refine kk acc h s.toks _ _ _ (SB.ready_pairs (ps:=rows.map (·.1)) (by lia) (fun w hw=>?_) (fun w hw y hy p mm mm' hp1 hp2=>?_) (by lia)) fun h' out so kh' ⟨e,he⟩=>?_
  ·grind
  ·obtain⟨x,hx,rfl⟩:=hacc hw;obtain⟨x2,hx2,rfl⟩:=hacc hy;have q1:=SB.PairAt.inj hp1 (hpa hx);have q2:=SB.PairAt.inj hp2 (hpa hx2);rw[q0w hnd hx hx2 (q1.symm.trans q2)]
  ·have pm:=so.perm;rw[e1] at pm;obtain⟨ws',p1,p2⟩:=SB.perm_map_inv pm rfl;have hrise:=so.rise;rw[p2] at hrise;have hps:=SB.rise_paths (fun w a b ⟨_,x⟩ ⟨_,y⟩=>SB.PairAt.inj x y) (fun x hx=>by
    have hxm:=p1.mem_iff.mp hx;exact⟨⟨_,hpa hxm⟩,List.mem_map.mpr ⟨_,hrow hxm,rfl⟩⟩) hrise
   have keep:=fun b o z=>kh' b o (kh b o z);have I1:=I.kept (t':=s.toks) keep;have hlo:=fun{x} hx=>Nat.le_trans (Nat.le_add_right _ 2) (m.low x (p1.mem_iff.mp hx));have ndA:(ws'.map (·.1)).Nodup:=by
    have:(ws.map (·.1)).Nodup:=m.rise.imp fun h e=>by subst e;exact absurd h (Nat.lt_irrefl _)
    exact(p1.map (·.1)).nodup_iff.mpr this
   obtain⟨H1,J,sm,ht,hot⟩:=I1.tracks (zs:=ws'.map fun x=>(x.1,[V.ref x.2.1,x.2.2.2.2])) I.sz (by rw[List.map_map];exact ndA) (fun z hz=>by
    obtain⟨x,hx,rfl⟩:=List.mem_map.mp hz;refine⟨hlo hx,I.fpOk (hlo hx) (I.hok.fresh (hlo hx)),by show 2<=sizeLine;decide,[.ref x.2.1,x.2.2.1],.cons rfl (.cons (z3 _ (hwz (p1.mem_iff.mp hx))).2 .nil),?_⟩;exact SB.IsTup.keep (m.at_ x (p1.mem_iff.mp hx)) fun o e=>kh' _ o e)
   have hL1:H1 h.objs.size=none:=by
    rw[hot _ fun z hz e=>?_]
    ·exact I.hok.fresh hz2
    ·obtain⟨x,hx,rfl⟩:=List.mem_map.mp hz;obtain⟨o,eo,_⟩:=m.at_ x (p1.mem_iff.mp hx);exact absurd (Heap.lt_size eo) (by rw[show x.1=h.objs.size from e];exact Nat.lt_irrefl _)
   have el2:(ws'.map (·.1)).length=es.size:=by rw[List.length_map,p1.length_eq,<- hzl,<- e2,List.length_map]
   have eo:out.toList=(ws'.map (·.1)).map Value.ref:=by rw[p2,List.map_map];rfl
   have J2:=J.track (o:=.lst ((ws'.map (·.1)).map V.ref)) (Nat.le_trans I.sz hz2) (I.fpOk hz2 hL1) ⟨by rw[List.length_map,el2];lia,_,e,q5m _,by rw[<- eo];exact he⟩;have sm2:Same H (upd H1 h.objs.size (.lst ((ws'.map (·.1)).map V.ref))):=sm.trans ((Same.refl H1).new hL1);refine⟨.ref h.objs.size,_,J2,rfl,q _ (ws'.map (·.1)) (ws'.map fun x=>x.2.2.2) _ (I.hok.fresh hz2) ?_ (by rw[List.map_map];exact hps) sm2 q0b (z4i fun x hx=>?_)⟩
   ·have e3:ws.map (fun x=>x.2.2.2)=rows:=by rw[<- z1,<- e2,List.map_map];rfl
    rw[<- e3];exact p1.map _
   ·refine⟨x.2.1,?_,sm2 _ _ (z3 _ (hwz (p1.mem_iff.mp hx))).1⟩;exact(Same.refl H1).new hL1 _ _ (ht _ (List.mem_map.mpr ⟨x,hx,rfl⟩))
open PySem PySem.Spec PyProof.Rows
theorem d_set{σ:St}(hu:A.units+1<cLine)(I:Inv X pins σ H s)(e:H a=some (.dT kvs))(eb:H b=some (.tup (k.map kV)))(l:kvs.length<sizeLine)(rv:RelV v r)(h:∀s',Inv X pins σ (upd H a (.dT (putK kvs k v))) s'->(∀b o,b≠a->s.heap.get? b=some o->s'.heap.get? b=some o)->Q () s'):wpAny (model X.prog X.w) A (dictSet a (.ref b) r) Q E s:=by
 obtain⟨z,hd,xs,rel,dd⟩:=z8r I.hok e;have hz:xs.length<=sizeLine:=by rw[<- Paired.length rel];exact z
 have hl:(putK kvs k v).length<=sizeLine:=by have:=q2a kvs k v;lia
 refine wpAny_dictSet_heap (show(tupleKind (mixKind X.prog X.w)).room A from Nat.lt_of_succ_lt hu) (q4h I.hok eb) dd fun h' dd' hs=>h _ ?_ fun b o hb e=>(hs.2 b hb).trans e;obtain⟨q,es,ep,hq,h2,h3,h4,_,h5⟩:=dd';refine q9s I (by rw[e];exact True.intro) hs ⟨q,hq⟩ ⟨hl,hd,_,(rel.put k eb rv).keeps fun c ys ec=>?_,q,es,ep,hq,h2,h3,h4,h5⟩;rw[q0c (z2q ec e (fun z=>nomatch z))];exact ec
def CompWD(J:It)(g:TG)(tt:TT)(tk tv:TE)(σ0:St)(D:Addr)(Fin:List (List Key×V)->Hp->Prop)(H1:Hp):Prop :=
 ∃W:Nat->Nat->List (List Key×V)->Hp->Prop,(∃m,W 0 m [] (upd H1 D (.dT [])))/\∀i m ys H,W i m ys H->H D=some (.dT ys) /\
  ((J.stop i H/\Fin ys H)\/(J.go i H/\∃N:List (List Key×V)->Hp->Prop,(∀zs H',N zs H'->∃m',m'<m/\W (i+1) m' zs H')/\∀x H',J.yld i H x H'->g x σ0 H' fun σ2 H2=>Keeps0 σ0 σ2/\tt σ2 H2 fun b H3 =>
   if b=true then tk σ2 H3 fun y H4=>tv σ2 H4 fun v H5=>∃k c,y=.ref c/\H5 c=some (.tup (k.map kV))/\H5 D=some (.dT ys)/\ys.length<sizeLine/\N (putK ys k v) (upd H5 D (.dT (putK ys k v)))
   else N ys H3))
theorem q8t{σ:St}{Fin:Addr->List (List Key×V)->Hp->Prop}{RR:Value->Addr->Result->Shared->Prop}(hc:X.calm=true)(hkind:scope.kind=.function)(hnc:∀y∈scope.names,y.2≠.cell)(hc1:∀x c,cl.lookup x=some c->X.env.cells.lookup x=some c)(hc2:∀x,(x,NameKind.free)∈scope.names->∃c,cl.lookup x=some c)(co:CapOk X scope caps)(hg:∀C s H,PG (cxComp X (tg++caps.map (·.1)) scope cl C fp s H) target g)(ht:∀C s H,PIfs (cxComp X (tg++caps.map (·.1)) scope cl C fp s H) ifs tt)(he:∀C s H,PE (cxComp X (tg++caps.map (·.1)) scope cl C fp s H) kx tk)(hv:∀C s H,PE (cxComp X (tg++caps.map (·.1)) scope cl C fp s H) vx tv)(hu:X.A.units+1<cLine)(I2:Inv X pins σ H1 s₂)(T:Turn X.prog X.w X.K target J fp it tn)(st:tn 0 s₂.heap)(hf:∀b∈fp,FpOk X pins H1 b)(hw:∀D,H1 D=none->CompWD J g tt tk tv (tg0 tg σ caps) D (Fin D) H1)(hRR:∀D C ys H' s',H1 D=none->Inv X pins σ H' s'->(∃m,s'.heap.Ns C m)->FpOk X pins H' C->Fin D ys H'->RR (.ref D) C (.ok .next) s'):
  wpAny (model X.prog X.w) X.A newDict (fun acc s₃=>wpAny (model X.prog X.w) X.A (newFunctionEnv scope X.env.globals cl [] X.env.qual none .none (some X.env)) (fun cenv s₄ =>
   codeAny (model X.prog X.w) X.A (.compStart (.DictComp kx vx [⟨target,iter,ifs,0⟩] scope pos) 0 (.ref it) acc { cenv with scope:=relabel scope X.env }) (RR acc cenv.locals) s₄) E s₃) E s₂:=by
 have I3:Inv X pins σ (upd H1 s₂.heap.objs.size (.dT [])) { s₂ with heap:=s₂.heap.push { cls:=.type "dict",dict:=none,data:=.dict #[] },toks:=s₂.toks }:=I2.laid (fun _ _ q=>Heap.get?_push_of_some _ q) (Nat.le_refl _) (q6y s₂.heap I2.big);have hD0:=I2.fresh;refine wpAny_newObj_type (wpAny_newFunctionEnv hnc (by intro y hy;simp at hy) (fun h₁ hns₁ hsb₁=>?_) hkind);dsimp only at hns₁ hsb₁ ⊢;generalize hDd:s₂.heap.objs.size=D at I3 hD0 hns₁ hsb₁ ⊢;generalize hs3:({ s₂ with heap:=s₂.heap.push { cls:=.type "dict",dict:=none,data:=.dict #[] } }:Shared)=s₃ at I3 hns₁ hsb₁ ⊢;have e3:s₂.heap.push { cls:=.type "dict",dict:=none,data:=.dict #[] }=s₃.heap:=by grind
 have o3:({ s₂ with heap:=h₁,toks:=s₂.toks+([]:List (Str×Value)).length }:Shared)={ s₃ with heap:=h₁,toks:=s₂.toks }:=by grind
 have size3:s₃.heap.objs.size=D+1:=by rw[<- e3,Heap.size_push,hDd]
 rw[e3] at hns₁ hsb₁ ⊢;have old3:∀b o,s₂.heap.get? b=some o->s₃.heap.get? b=some o:=fun b o e=>by rw[<- e3];exact Heap.get?_push_of_some _ e
 generalize hCd:s₃.heap.objs.size=C at hns₁ hsb₁ ⊢;have hk:=fun b o e=>hsb₁.extBut b o (by rw[<- hCd];exact Nat.ne_of_lt (Heap.lt_size e)) (Heap.get?_push_of_some _ e);have fpo:∀b∈fp,∃o,s₂.heap.get? b=some o:=fun b hb=>by obtain⟨o,e,_⟩:=T.obj 0 _ st b hb;exact⟨o,e⟩
 have fpne:∀b∈fp,b≠D:=fun b hb=>by obtain⟨o,e⟩:=fpo b hb;rw[<- hDd];exact Nat.ne_of_lt (Heap.lt_size e)
 have hf3:∀b∈fp,FpOk X pins (upd H1 D (.dT [])) b:=fun b hb=>⟨by rw[q0c (fpne b hb)];exact(hf b hb).1,(hf b hb).2⟩
 have IY:=Inv.ofcomp (tk:=s₂.toks) tg I3 hkind hnc hc1 hc2 hf3 (fun b hb=>let ⟨o,e⟩:=fpo b hb;⟨o,old3 b o e⟩) (Nat.le_of_eq hCd) hns₁ hk co;have FC:FpOk X pins H1 C:=by
  have z:=I3.fpOk (H':=H1) (Nat.le_of_eq hCd) (I2.hok.fresh (by rw[hDd,<- hCd,size3];exact Nat.le_succ _));exact z
 generalize hY:cxComp X (tg++caps.map (·.1)) scope cl C fp s₃ (upd H1 D (.dT []))=Y at IY;have hgY:PG Y target g:=by grind
 have htY:PIfs Y ifs tt:=by grind
 have heY:PE Y kx tk:=by grind
 have hvY:PE Y vx tv:=by grind
 have hYp:Y.prog=X.prog:=by rw[<- hY];rfl
 have hYw:Y.w=X.w:=by rw[<- hY];rfl
 have hYK:Y.K=X.K:=by rw[<- hY];rfl
 have hYA:Y.A=X.A:=by rw[<- hY];rfl
 have hYe:Y.env=compEnvC scope cl C X.env:=by rw[<- hY];rfl
 have hYx:Y.ex=fp:=by rw[<- hY];rfl
 have hYn:Y.pn=[]:=by rw[<- hY];rfl
 have hYc:Y.calm=true:=by rw[<- hY];exact hc
 have hYxe:Y.xe=fun _ _=>False:=by rw[<- hY];rfl
 have fpY:∀{H':Hp},(∀b∈fp,H' b=none)->∀b∈fp,FpOk Y [] H' b:=fun{H'} hn b hb=>by
  refine⟨hn b hb,?_,?_,.inl (by rw[hYx];exact hb),fun x c e=>?_,fun p hp=>?_⟩
  ·have:=(IY.ok.exf b (by rw[hYx];exact hb)).1;exact this
  ·exact IY.ok.exfs b (by rw[hYx];exact hb)
  ·exact(IY.ok.exf b (by rw[hYx];exact hb)).2 x c e
  ·grind
 obtain⟨W,⟨m0,w0⟩,turn⟩:=hw D hD0;have stY:=T.keep 0 _ _ st fun b hb o e=>hk b o (old3 b o e)
 have back:∀{H':Hp} {s':Shared} {σ':St},Inv Y [] σ' H' s'->Inv X pins σ H' s':=fun{H' s' σ'} IE=>by
  have hun:=IE.base;have hos:=IE.os;rw[<- hY] at hun hos;exact I3.call' hos hun (by have z:=IE.hok;rw[hYp,hYw] at z;exact z) IE.bare fun b hb=>⟨(hf b hb).2.2.2.1,(hf b hb).2.1,(hf b hb).2.2.2.2.1,(hf b hb).2.2.2.2.2⟩
 have gY:∀pins s σ H v u Q (E':Value->Shared->Prop),Inv Y pins σ H s->RelV v u->g v σ H Q->wpAny (model X.prog X.w) X.A (assign target (compEnvC scope cl C X.env) u) (fun _ s'=>∃σ' H',Inv Y pins σ' H' s'/\Q σ' H') E' s:=fun pins s σ H v u Q E' IE r q=>by
  have z:=hgY pins s σ H v u Q IE r q;rw[hYp,hYw,hYA,hYe,hYxe] at z;exact wpAny_mono z (fun _ _ x=>x) fun _ _ f=>f.elim
 have tY:∀pins s σ H Q (E':Value->Shared->Prop),Inv Y pins σ H s->tt σ H Q->wpAny (model X.prog X.w) X.A (forIn ifs true fun c r=>if r=true then do let ok<-isTrue c (compEnvC scope cl C X.env) (eval c (compEnvC scope cl C X.env));pure (ForInStep.yield ok) else pure (ForInStep.yield r)) (TP Y pins σ Q) E' s:=fun pins s σ H Q E' IE q=>by
  have z:=htY pins s σ H Q IE q;rw[hYp,hYw,hYA,hYe,hYxe] at z;exact wpAny_mono z (fun _ _ x=>x) fun _ _ f=>f.elim
 have eY:∀pins s σ H Q (E':Value->Shared->Prop),Inv Y pins σ H s->tk σ H Q->wpAny (model X.prog X.w) X.A (eval kx (compEnvC scope cl C X.env)) (EP Y pins σ Q) E' s:=fun pins s σ H Q E' IE q=>by
  have z:=heY pins s σ H Q IE q;rw[hYp,hYw,hYA,hYe,hYxe] at z;exact wpAny_mono z (fun _ _ x=>x) fun _ _ f=>f.elim
 have vY:∀pins s σ H Q (E':Value->Shared->Prop),Inv Y pins σ H s->tv σ H Q->wpAny (model X.prog X.w) X.A (eval vx (compEnvC scope cl C X.env)) (EP Y pins σ Q) E' s:=fun pins s σ H Q E' IE q=>by
  have z:=hvY pins s σ H Q IE q;rw[hYp,hYw,hYA,hYe,hYxe] at z;exact wpAny_mono z (fun _ _ x=>x) fun _ _ f=>f.elim
 have tiY:∀i pins s σ H (E':Value->Shared->Prop),Inv Y pins σ H s->(∀b∈fp,FpOk Y pins H b)->tn i s.heap->J.go i H ->
   wpAny (model X.prog X.w) X.A (pyNext (.ref it)) (fun r s1=>∃u,r=some u /\
    wpAny (model X.prog X.w) X.A (letOwnedTupleGo target (.ref it) u) (fun _ s2=>∃x H',Inv Y pins σ H' s2/\RelV x u/\J.yld i H x H'/\tn (i+1) s2.heap/\∀b∈fp,H' b=none) E' s1) E' s:=fun i pins s σ H E' IE hfy st go=>by
  have z:=T.item Y hYp hYw hYK hYc i pins s σ H E' IE hfy st go;rw[hYA] at z;exact z
 have tdY:∀i pins s σ H (E':Value->Shared->Prop),Inv Y pins σ H s->(∀b∈fp,FpOk Y pins H b)->tn i s.heap->J.stop i H ->
   wpAny (model X.prog X.w) X.A (pyNext (.ref it)) (fun r s1=>r=none/\Inv Y pins σ H s1) E' s:=fun i pins s σ H E' IE hfy st go=>by
  have z:=T.done Y hYp hYw hYK hYc i pins s σ H E' IE hfy st go;rw[hYA] at z;exact z
 have loop:codeAny (model X.prog X.w) X.A (.compLoop (.DictComp kx vx [⟨target,iter,ifs,0⟩] scope pos) 0 (.ref it) (.ref D) (compEnvC scope cl C X.env)) (RR (.ref D) C) { s₃ with heap:=h₁,toks:=s₂.toks }:=by
  refine codeAny_loop rfl (fun n s'=>∃i ys H',Inv Y [] (tg0 tg σ caps) H' s'/\tn i s'.heap/\(∀b∈fp,H' b=none)/\W i n ys H') ?_ m0 ⟨0,[],_,IY,stY,fun b hb=>(hf3 b hb).1,w0⟩;rintro n s4 ⟨i,ys,H4,I4,st4,fr4,w4⟩;refine wpAny_noted ?_;obtain⟨hHD,alt⟩:=turn i n ys H4 w4;rcases alt with⟨stop,fin⟩|⟨go,N,hN,step⟩
  ·refine wpAny_bind (wpAny_standAt (wpAny_bind (thn (tdY i [] s4 _ H4 _ I4 (fpY fr4) st4 stop) fun r s5 ⟨hr,I5⟩=>?_)));subst hr;refine wpAny_pure (hRR D C ys H4 s5 hD0 (back I5) ?_ ⟨?_,FC.2⟩ fin)
   ·obtain⟨m,hm,_⟩:=I5.loc;rw[hYe] at hm;exact⟨m,hm⟩
   ·have z:=I5.free;rw[hYe] at z;exact z
  ·refine wpAny_bind (wpAny_standAt (wpAny_bind (thn (tiY i [] s4 _ H4 _ I4 (fpY fr4) st4 go) fun r s5 ⟨u,hr,h5⟩=>?_)));subst hr;refine wpAny_bind (thn h5 fun _ s6 ⟨x,H6,I6,r6,y6,st6,fr6⟩=>?_);have I6':=I6.pinned (fpY fr6) (T.obj _ _ st6);refine wpAny_bind (thn (gY _ s6 _ H6 x u _ _ I6' r6 (step x H6 y6)) fun _ s7 ⟨σ7,H7,I7,kp,q7⟩=>?_);refine wpAny_bind (thn (tY _ s7 σ7 H7 _ _ I7 q7) fun b s8 ⟨H8,I8,q8⟩=>?_);have again:∀{H9:Hp} {s9:Shared} {zs:List (List Key×V)} {m':Nat},Inv Y ([]++pinsAt fp s6.heap) σ7 H9 s9->m'<n->W (i+1) m' zs H9->∃m,m<n/\∃i ys H',Inv Y [] (tg0 tg σ caps) H' s9/\tn i s9.heap/\(∀b∈fp,H' b=none)/\W i m ys H':=fun{H9 s9 zs m'} I9 hm w9=>by
    refine⟨m',hm,i+1,zs,H9,I9.unpinned.weak kp.1 kp.2,T.keep _ _ _ st6 fun b hb o e=>(I9.pin (b,o) (List.mem_append_right _ (List.mem_append_right _ (q1v hb e)))).1,fun b hb=>?_,w9⟩;obtain⟨o,e,d⟩:=T.obj _ _ st6 b hb;exact(I9.pin (b,o) (List.mem_append_right _ (List.mem_append_right _ (q1v hb e)))).2.1
   cases b with
   |true =>
    refine wpAny_bind (wpAny_bind (thn (eY _ s8 σ7 H8 _ _ I8 q8) fun kv s9 ⟨yy,H9,I9,r9,q9⟩=>?_));refine wpAny_bind (wpAny_holding (thn (vY _ s9 σ7 H9 _ _ I9 q9) fun vv s10 ⟨v,H10,I10,r10,kk,bb,ey,hbb,hH10,hz10,n10⟩=>?_));subst ey;cases r9;obtain⟨m',hm',w10⟩:=hN _ _ n10;refine wpAny_bind (wpAny_standAt (wpAny_holding ?_));have z:=d_set (E:=notedBy (model X.prog X.w) X.A (compEnvC scope cl C X.env) fun e s'=>RR (.ref D) C (.error e) s') (Q:=fun _ s'=>Inv Y ([]++pinsAt fp s6.heap) σ7 (upd H10 D (.dT (putK ys kk v))) s') hu I10 hH10 hbb hz10 r10 fun s' I' _=>I';rw[hYp,hYw] at z;exact thn z fun _ s11 I11=>wpAny_pure ⟨rfl,again I11 hm' w10⟩
   |false =>
    obtain⟨m',hm',w8⟩:=hN _ _ q8;exact wpAny_pure ⟨rfl,again I8 hm' w8⟩
 rw[o3];exact codeAny_compStart_dict loop (T.self _ 0 _ _ _ stY loop)
def tCompD(wi:TI)(g:TG)(tt:TT)(tk tv:TE)(tg:List Str)(caps:Caps):TE:=fun σ H Q=>wi σ H fun J H1=>∀D,H1 D=none->CompWD J g tt tk tv (tg0 tg σ caps) D (fun _ H'=>Q (.ref D) H') H1
section
variable{X:Cx}{iter target kx vx:Expr}{ifs:List Expr}{scope:Scope}{pos:Pos}{wi:TI}{g:TG}{tt:TT}{tk tv:TE}
theorem z6i(tg:List Str)(caps:Caps)(hc:X.calm=true)(hi:PI X target iter wi)(hg:∀cl C fp s H,PG (cxComp X (tg++caps.map (·.1)) scope cl C fp s H) target g)(ht:∀cl C fp s H,PIfs (cxComp X (tg++caps.map (·.1)) scope cl C fp s H) ifs tt)(he:∀cl C fp s H,PE (cxComp X (tg++caps.map (·.1)) scope cl C fp s H) kx tk)(hv:∀cl C fp s H,PE (cxComp X (tg++caps.map (·.1)) scope cl C fp s H) vx tv)(hu:X.A.units+1<cLine)(hk:compChk X.N X.env.scope scope caps=true:=by rfl)(hs:∀x,foldedSetIterable iter X.env x=pure x:=by intro _;rfl):
  PE X (.DictComp kx vx [⟨target,iter,ifs,0⟩] scope pos) (tCompD wi g tt tk tv tg caps):=by
 intro pins s σ H Q I h;obtain⟨hkind,hnc,hnames,hfree,co⟩:=q3g hk;obtain⟨cl,hclos,hc1,hc2⟩:=q6u I hfree;refine wpAny_comprehension_free rfl hs hclos hkind hnames (thn (hi pins s σ H _ I h) fun v s1 h1=>thn h1 fun itv s2 h2=>?_);obtain⟨it,fp,tn,J,H2,e,I2,T,st2,f2,hw⟩:=h2;subst e;refine q8t hc hkind hnc hc1 hc2 co (fun C s H=>hg cl C fp s H) (fun C s H=>ht cl C fp s H) (fun C s H=>he cl C fp s H) (fun C s H=>hv cl C fp s H) hu I2 T st2 f2 hw ?_;intro D C ys H' s' hD I' hm F fin;obtain⟨m,hm⟩:=hm;refine⟨m,hm,fun h' hsb=>⟨.ref D,H',I'.turned (t':=s'.toks) (fun b o hb e=>(hsb.2 b hb).trans e) F.1 F.2.1 F.2.2.2.1 F.2.2.2.2.1 F.2.2.2.2.2,rfl,fin⟩⟩
def tSetDC(wi:TI)(g:TG)(tt:TT)(tk tv:TE)(tg:List Str)(caps:Caps)(i:Nat):TS:=fun D' σ H=>wi σ H fun J H1=>∀D,H1 D=none->CompWD J g tt tk tv (tg0 tg σ caps) D (fun _ H'=>D'.nx (σ.set i (some (.ref D))) H') H1
theorem z6j{i:Nat}{y:Str}{py spos:Pos}(tg:List Str)(caps:Caps)(hN:X.N.Nodup)(hiN:X.N[i]?=some y)(hx:Loc X.env.scope y)(hc:X.calm=true)(hi:PI X target iter wi)(hg:∀cl C fp s H,PG (cxComp X (tg++caps.map (·.1)) scope cl C fp s H) target g)(ht:∀cl C fp s H,PIfs (cxComp X (tg++caps.map (·.1)) scope cl C fp s H) ifs tt)(he:∀cl C fp s H,PE (cxComp X (tg++caps.map (·.1)) scope cl C fp s H) kx tk)(hv:∀cl C fp s H,PE (cxComp X (tg++caps.map (·.1)) scope cl C fp s H) vx tv)(hu:X.A.units+1<cLine)(hk:compChk X.N X.env.scope scope caps=true:=by rfl)(hs:∀x,foldedSetIterable iter X.env x=pure x:=by intro _;rfl)(hsw:swapsWith (.DictComp kx vx [⟨target,iter,ifs,0⟩] scope pos) (some (.Name y py)) spos.line X.env=pure true:=by rfl)(hf:X.fn y=true\/X.env.scope.names.lookup y=some .local:=by first|exact .inl rfl|exact .inr rfl|assumption):
  PS X (.Assign [.Name y py] (.DictComp kx vx [⟨target,iter,ifs,0⟩] scope pos) spos) (tSetDC wi g tt tk tv tg caps i):=by
 intro pins s σ H D' I h;obtain⟨hkind,hnc,hnames,hfree,co⟩:=q3g hk;obtain⟨cl,hclos,hc1,hc2⟩:=q6u I hfree;rw[exec_Assign_Name_used _ _ _ _ hsw];refine wpAny_bind (wpAny_standAt (wpAny_bind ?_));refine wpAny_bind (wpAny_mono (wpAny_comprehension_free (use:=some (assign (.Name y py) X.env)) rfl hs hclos hkind hnames
  (thn (hi pins s σ H _ I h) fun v s1 h1=>thn h1 fun itv s2 h2=>?_)) (fun _ s' hq=>wpAny_pure (wpAny_pure hq)) fun _ _ e=>e)
 obtain⟨it,fp,tn,J,H2,e,I2,T,st2,f2,hw⟩:=h2;subst e;refine q8t (RR:=fun acc C=>compPost (model X.prog X.w) X.A X.xe (some (assign (.Name y py) X.env)) (fun _ s'=>SP X pins D' .next s') acc C) (Fin:=fun D _ H'=>D'.nx (σ.set i (some (.ref D))) H') hc hkind hnc hc1 hc2 co (fun C s H=>hg cl C fp s H) (fun C s H=>ht cl C fp s H) (fun C s H=>he cl C fp s H) (fun C s H=>hv cl C fp s H) hu I2 T st2 f2 hw ?_;intro D C ys H' s' hD I' hm F fin;obtain⟨m,hm⟩:=hm;refine wpAny_assign_Name (q4q (v:=.ref D) I' hN hiN hx rfl (fun s'' I'' hsb=>?_) hf);obtain⟨a,sb,ha⟩:=hsb;have hCa:C≠a:=by
  rcases ha with ha|ha
  ·rw[ha];exact F.2.1
  ·exact fun z=>F.2.2.2.2.1 y a ha z.symm
 refine⟨m,hm.sameBut sb hCa,fun h' hs'=>?_⟩;exact⟨_,H',I''.turned (t':=s''.toks) (fun b o hb e=>(hs'.2 b hb).trans e) F.1 F.2.1 F.2.2.2.1 F.2.2.2.2.1 F.2.2.2.2.2,fin⟩
end
theorem z6k{Fin:List (List Key×V)->Hp->Prop}(Pv:Nat->List (List Key×V)->Hp->Prop)(h0:Pv 0 [] (upd H1 D (.dT [])))(hl:∀i ys H,Pv i ys H->H D=some (.dT ys))(hgo:∀i ys H,i<n->Pv i ys H->J.go i H)(hstop:∀ys H,Pv n ys H->J.stop n H)(hs:∀i ys H x H',i<n->Pv i ys H->J.yld i H x H'->g x σ0 H' fun σ2 H2=>Keeps0 σ0 σ2/\tt σ2 H2 fun b H3 =>
   if b=true then tk σ2 H3 fun y H4=>tv σ2 H4 fun v H5=>∃k c,y=.ref c/\H5 c=some (.tup (k.map kV))/\H5 D=some (.dT ys)/\ys.length<sizeLine/\Pv (i+1) (putK ys k v) (upd H5 D (.dT (putK ys k v))) else Pv (i+1) ys H3)(hd:∀ys H,Pv n ys H->Fin ys H):CompWD J g tt tk tv σ0 D Fin H1:=by
 refine⟨fun i m ys H=>m=n-i/\i<=n/\Pv i ys H,⟨n,by simp,Nat.zero_le _,h0⟩,?_⟩;rintro i m ys H ⟨rfl,hi,p⟩;refine⟨hl i ys H p,?_⟩;by_cases hlt:i<n
 ·exact .inr ⟨hgo i ys H hlt p,Pv (i+1),fun zs H' q=>⟨n-(i+1),by lia,rfl,hlt,q⟩,fun x H' y=>hs i ys H x H' hlt p y⟩
 ·have e:i=n:=by lia
  subst e;exact .inl ⟨hstop ys H p,hd ys H p⟩
theorem q6h{K:W.Frag}{Fin:List (List Key×V)->Hp->Prop}(Pv:Nat->List (List Key×V)->Hp->Prop)(h0:Pv 0 [] (upd H1 D (.dT [])))(hl:∀i ys H,Pv i ys H->H D=some (.dT ys)/\SqL K H a xs)(hs:∀i ys H x,xs[i]?=some x->Pv i ys H->g x σ0 H fun σ2 H2=>Keeps0 σ0 σ2/\tt σ2 H2 fun b H3 =>
   if b=true then tk σ2 H3 fun y H4=>tv σ2 H4 fun v H5=>∃k c,y=.ref c/\H5 c=some (.tup (k.map kV))/\H5 D=some (.dT ys)/\ys.length<sizeLine/\Pv (i+1) (putK ys k v) (upd H5 D (.dT (putK ys k v))) else Pv (i+1) ys H3)(hd:∀ys H,Pv xs.length ys H->Fin ys H):CompWD (Itl K a) g tt tk tv σ0 D Fin H1 :=
 z6k Pv h0 (fun i ys H p=>(hl i ys H p).1) (fun i ys H h p=>⟨xs,xs[i],(hl i ys H p).2,by simp[h]⟩) (fun ys H p=>⟨xs,(hl _ ys H p).2,Nat.le_refl _⟩)
  (fun i ys H x H' h p y=>by obtain⟨e,y⟩:=y;subst e;exact hs i ys _ x (y xs (hl i ys _ p).2) p) hd
end L2
namespace PySem.Rv
open Sem (wp)
section
variable{prog:Program}{w:World}{A:Around}{E:Value->Shared->Prop}{s:Shared}
theorem q5u:typeLookup (.type "list") "keys" = pure none:=by rw[typeLookup_type,builtinLookup_eq_fast];kernel_rfl
theorem no_keys(hx:s.heap.get? a=some { cls:=.type "list",dict:=none,data:=.seq xs k,slots:=#[] })(hA:A.handled=none)(h:∀h' tk,(∀b o,s.heap.get? b=some o->h'.get? b=some o)->Q none { s with heap:=h',toks:=tk }):wpAny (model prog w) A (getAttr? (.ref a) "keys") Q E s:=by
 obtain⟨hp,g,d,tk,os⟩:=s;have hT:∀tk',(⟨hp,g,d,tk',os⟩:Shared).TypeIs (.ref a) "list" := fun _=>⟨_,hx,rfl⟩
 have f1:=sub_AttributeError;have f3:=F.slot_list_getattribute.lookup;have f4:=F.slot_list_getattribute.bind (.ref a);have f5:=am_list_getattr_none;repeat (any_goals (first|assumption|exact hT _|((with_reducible show wpAny _ _ (call (Value.builtin "list.__getattribute__") _ _) _ _ _);refine call_meets F.slot_list_getattribute (hT _) am_entry_list_getattribute (F.args_list_getattribute_2 _ _) (meets_getattribute_miss_list a xs k #[] "keys" _ q5u (by decide +kernel) (by decide +kernel)) ⟨hx,hA,fun h' tk' e hx'=>?_⟩)|wp_step))
 obtain⟨t',u',he⟩:=hx'.there;show wpAny _ _ (getattributeRaised _ _ _ _ _ _ _) _ _ _;repeat (any_goals (first|assumption|wp_step))
 exact h _ _ hx'.keeps
end
theorem plain_upd:plainId "dict.update.loop" = true:=by decide +kernel
theorem entry_upd:entryFor table "dict.update.loop" = some Builtin.«dict.update.loop» := entryFor_of_fast (by kernel_rfl)
end PySem.Rv
namespace L2
open PySem PySem.Spec PyProof.Rows SB TX
def putR(acc:List (List Key×V))(r:HRow):List (List Key×V):=putK acc (kP r.1) r.2
theorem z0y:∀(rows:List HRow) (acc:List (List Key×V)),(rows.foldl putR acc).length<=acc.length+rows.length
 |[],acc=>Nat.le_refl _
 |r::rows,acc=>by
  have h1:=z0y rows (putR acc r);have h2:=q2a acc (kP r.1) r.2;rw[List.foldl_cons,List.length_cons];unfold putR at h1 ⊢;lia
section
variable{X:Cx}{pins:List (Addr×Obj)}{σ:St}
theorem q7a(I:Inv X pins σ H s)(h:H L=some (.lst xs)):∃its,Vals xs its/\s.heap.IsList L its.toArray:=by
 obtain⟨z,its,n,r,e⟩:=I.hok L _ h;exact⟨its,r,_,e,rfl,n,rfl⟩
theorem z4j(hh:A.handled=none)(hu:A.units+3<cLine)(few:rows.length<sizeLine):∀(k i:Nat) (H:Hp) (s:Shared),rows.length-i=k->i<=rows.length->Inv X pins σ H s->H L=some (.lst (as.map V.ref))->PRs H as rows ->
  H D=some (.dT ((rows.take i).foldl putR []))->s.heap.IsListIter it L i->FpOk X pins H it->(∀H' s',Inv X pins σ H' s'->H' D=some (.dT (rows.foldl putR []))->(∀b,b≠D->H' b=H b)->R (.ok (.ret .none)) s') ->
  codeAny (model X.prog X.w) A (.builtin "dict.update.loop" ⟨[.ref D,.ref it,rawInt i,.none],[]⟩) R s:=by
 intro k;induction k with
 |zero =>
  intro i H s hk hi I hL hp hD hit hf hR;have ei:i=rows.length:=by lia
  subst ei;rw[List.take_length] at hD;obtain⟨its,rv,hl⟩:=q7a I hL;have hlen:its.length=rows.length:=by rw[<- rv.length,List.length_map];exact Paired.length hp
  refine codeAny_builtin PySem.Rv.entry_upd ?_;rw[Around.under_plainId PySem.Rv.plain_upd _];refine wpAny_bind (wpAny_pyNext_list_end hh hit hl (by simp[hlen]) fun h' eb=>?_);exact wpAny_bind (wpAny_pure (wpAny_pure (hR H _ (I.turned (t':=s.toks) (fun b o hb e=>eb b o hb e) hf.1 hf.2.1 hf.2.2.2.1 hf.2.2.2.2.1 hf.2.2.2.2.2) hD fun _ _=>rfl)))
 |succ k ih =>
  intro i H s hk hi I hL hp hD hit hf hR;obtain⟨its,rv,hl⟩:=q7a I hL;have hil:i<rows.length:=by lia
  obtain⟨a,ha⟩:∃a,as[i]?=some a:=⟨as[i]'(by rw[Paired.length hp];exact hil),by simp[Paired.length hp,hil]⟩
  obtain⟨r,hr,b,hpa,hpb⟩:=Paired.at' hp ha;obtain⟨u,hu1,hu2⟩:=rv.get (by rw[List.getElem?_map,ha];rfl);cases hu2;refine codeAny_builtin PySem.Rv.entry_upd ?_;rw[Around.under_plainId PySem.Rv.plain_upd _];refine wpAny_bind (wpAny_pyNext_list_item hit hl (by simpa using hu1) fun h' hit' sb=>?_);have I1:Inv X pins σ H { s with heap:=h' }:=I.turned (t':=s.toks) (fun b o hb e=>(sb.2 b hb).trans e) hf.1 hf.2.1 hf.2.2.2.1 hf.2.2.2.2.1 hf.2.2.2.2.2;obtain⟨z,pits,pr,o,po,pc,pn,pd⟩:=I1.hok a _ hpa;obtain⟨u1,u2,e12,r1,r2⟩:=pr.two;subst e12;cases r1;refine wpAny_bind (wpAny_holding ?_);refine wpAny_bind (wpAny_tryCatch ?_);refine wpAny_bind (wpAny_typeOf ⟨o,po,pc⟩ ?_);refine wpAny_bind (wpAny_seqItems po pd (wpAny_pure ?_));have elen:((rows.take i).foldl putR []).length<sizeLine:=by
   have h1:=z0y (rows.take i) [];rw[List.length_take] at h1;have h2:([]:List (List Key×V)).length=0:=rfl;lia
  refine wpAny_holding (d_set (by show A.units+1+1<cLine;lia) I1 hD (by rw[q1u];exact hpb) elen r2 fun s' I' kp=>?_);refine wpAny_pure ⟨plainId_quiet PySem.Rv.plain_upd _,?_⟩;have hLD:L≠D:=fun z=>by rw[z,hD] at hL;cases hL
  have hitD:it≠D:=fun z=>by have y:=hf.1;rw[z,hD] at y;cases y
  have hnt:∀{T:Addr} {xs:List V},H T=some (.tup xs)->T≠D:=fun{T xs} e z=>by rw[z,hD] at e;cases e
  have et:(rows.take (i+1)).foldl putR []=putK ((rows.take i).foldl putR []) (kP r.1) r.2:=by
   rw[List.take_succ,hr];rw[List.foldl_append];rfl
  have hit2:=hit'.at fun o e=>kp _ _ hitD e;refine ih (i+1) _ s' (by lia) hil I' (by rw[q0c hLD];exact hL) (Paired.imp' (fun a r ⟨b,h1,h2⟩=>⟨b,by rw[q0c (hnt h1)];exact h1,by rw[q0c (hnt h2)];exact h2⟩) hp) (by rw[q0b,et]) hit2 ⟨by rw[q0c hitD];exact hf.1,hf.2⟩ fun H' s'' J j1 j2=>?_;exact hR H' s'' J j1 fun b hb=>by rw[j2 b hb,q0c hb]
end
def rDictL:List V->Hp->VK->Prop:=fun vs H Q=>∃L as rows,vs=[.ref L]/\H L=some (.lst (as.map V.ref))/\PRs H as rows/\rows.length<1000/\∀D,H D=none->Q (.ref D) (upd H D (.dT (rows.foldl putR [])))
theorem z2b(hr:Room k X.A):CallR X (.type "dict") rDictL:=by
 intro pins s σ H xs us Q I rv h;obtain⟨L,as,rows,rfl,hL,hp,few,q⟩:=h;obtain⟨u,rfl,ru⟩:=rv.one;cases ru;have hu:=hr.un;have hh:=hr.hd;refine callType_codes (Q₁:=fun obj s₁=>obj=.ref s.heap.objs.size/\s₁={ s with heap:=s.heap.push { cls:=.type "dict",data:=.dict #[] } }) F.kt_called_dict (F.kt_typeCall_dict_1 _) F.entry_dict_init (kt_code_dict_new _ ⟨rfl,rfl⟩) fun obj s₁ h₁=>?_;obtain⟨rfl,rfl⟩:=h₁;have hDf:=I.fresh;have I1:Inv X pins σ (upd H s.heap.objs.size (.dT [])) { s with heap:=s.heap.push { cls:=.type "dict",data:=.dict #[] } }:=I.laid (t':=s.toks) (fun _ _ e=>Heap.get?_push_of_some _ e) (Nat.le_refl _) (q6y s.heap I.big);have hD1:(s.heap.push { cls:=.type "dict",data:=.dict #[] }).get? s.heap.objs.size=some { cls:=.type "dict",data:=.dict #[] }:=Heap.get?_push_size _ rfl;have hLD:=q0h hL hDf;have hL1:upd H s.heap.objs.size (.dT []) L=some (.lst (as.map V.ref)):=by rw[q0c hLD];exact hL
 have sm:=(Same.refl H).new (o:=.dT []) hDf;have hp1:PRs (upd H s.heap.objs.size (.dT [])) as rows:=Paired.imp' (fun a r ⟨b,h1,h2⟩=>⟨b,sm _ _ h1,sm _ _ h2⟩) hp;obtain⟨z,its,n,r1,e1⟩:=I1.hok L _ hL1;refine⟨⟨_,hD1,rfl⟩,F.args_dict_init_2 _ _,?_⟩;refine wpAny_bind ?_;unfold Builtin.Dict.selfAndRest;refine wpAny_bind (wpAny_notOrdered_dict ⟨_,hD1,rfl⟩ ?_);show wpAny _ _ (pure (s.heap.objs.size,[Value.ref L])) _ _ _;refine wpAny_pure ?_;refine wpAny_bind (wpAny_typeOf ⟨_,e1,rfl⟩ ?_);refine wpAny_bind (PySem.Rv.no_keys e1 hh fun h' tk kp=>?_);have I2:=I1.kept (t':=tk) kp;refine wpAny_bind (wpAny_rule ?_);have e2:=kp _ _ e1;refine wpAny_bind (wpAny_pyIter_list ⟨_,e2,rfl,n,rfl⟩ ?_);have hsz:=Heap.lt_size (kp _ _ hD1);have I3:Inv X pins σ (upd H s.heap.objs.size (.dT [])) { s with heap:=h'.push { cls:=.type "list_iterator",data:=.fields #[.ref L,.int 0 0] },toks:=tk }:=I2.kept (t':=tk) fun _ _ e=>Heap.get?_push_of_some _ e;refine wpAny_pure ⟨plainId_quiet PySem.Rv.plain_upd _,?_⟩;refine z4j (A:=X.A.in1) hh (by show X.A.units+1+3<cLine;lia) (TX.small' (by lia)) rows.length 0 _ _ (by lia) (Nat.zero_le _) I3 hL1 hp1 q0b ⟨_,Heap.get?_push_size _ rfl,rfl,rfl⟩ ?_ fun H' s' J j1 j2=>?_
 ·exact I2.fpOk (Nat.le_refl _) (by rw[q0c (Nat.ne_of_gt hsz)];exact I.hok.fresh (Nat.le_of_lt hsz))
 ·have eH:H'=upd H s.heap.objs.size (.dT (rows.foldl putR [])):=by
   funext b;by_cases hb:b=s.heap.objs.size
   ·rw[hb,j1,q0b]
   ·rw[j2 b hb,q0c hb,q0c hb]
  rw[eH] at J;exact⟨rfl,.ref s.heap.objs.size,_,J,rfl,q _ hDf⟩
open PySem PySem.Spec PyProof.Rows
structure Mf (K:W.Frag) (C:Addr) (m qual:Str) (st:Stmt) (ps:List Str):Prop where
 ex:∃f fd,Fun K m qual st f fd/\Meth K C m f/\Binds K fd ps []
structure MCal (P:Program) (w:World) (K:W.Frag) (mg:Str->Option Value) (base:Heap) (C:Addr) (m:Str) (k:Nat) (ps:List Str) (sp:Sp):Prop where
 ex:∃f fd,FnOk P w K mg base CX0 k f fd ps sp/\Meth K C m f/\Binds K fd ps []
 cl:Cls K C
theorem Mf.cal{K:W.Frag}{st:Stmt}(D:Mf K C m qual st ps)(cl:Cls K C)(S:FnScope N ps (defScope st))(len:∀vs H Q E,sp vs H Q E->vs.length=ps.length)(hbody:∀(f:Addr) (cdv:Value) (A:Around) (outer:List Env) (s:Shared) (H:Hp) (vs:List V) (Q:VK) (E:XK),Room k (A.deeper (envOfC qual (defScope st) s.heap.objs.size f cdv))->sp vs H Q E ->
   ∃t,PSs (cxOf CX0 P w K mg base N qual (defScope st) f cdv A outer s H E).nox (defBody st) t/\t { nx:=fun _ H'=>Q .non H',rt:=Q } (start N vs) H):MCal P w K mg base C m (k+1) ps sp:=by
 obtain⟨f,fd,F,hm,hb⟩:=D.ex;exact⟨⟨f,fd,F.ok S len fun cdv A outer s H vs Q E hr h=>hbody f cdv A outer s H vs Q E hr h,hm,hb⟩,cl⟩
theorem MCal.imp{K:W.Frag}(M:MCal P w K mg base C m k ps sp)(h:∀vs H Q E,sp' vs H Q E->sp vs H Q E):MCal P w K mg base C m k ps sp':=by
 obtain⟨f,fd,F,r⟩:=M.ex;exact⟨⟨f,fd,F.imp h,r⟩,M.cl⟩
section
variable{X:Cx}{C:Addr}{x m:Str}{k j:Nat}{ps:List Str}{sp:Sp}{p pos apos:Pos}{o e:Expr}{es:List Expr}{ta:TE}{t:TA}
theorem pe_m{pl:Sem Bool}(M:MCal X.prog X.w X.K X.mg X.base C m k ps sp)(hr:Room j X.A)(he:PE X o ta)(ha:PA X (e::es) t)(hjk:k<=j:=by decide)(hst:starEach (e::es) X.env=(false,eval e X.env)::starEach es X.env:=by rfl)(hpl:(backTo pos (starEach es X.env)).any (·.1)=false:=by rfl)(ht:eval (.Call (.Attribute o m apos) (e::es) [] pos) X.env=(do
   let ov<-eval o X.env
   standAt apos.atName
   let (f,first)<-holding [ov] (getMethod ov m pl)
   callWith pos f first (backTo pos (starEach (e::es) X.env)) (backToKw pos (keywordEach [] X.env))):=by rfl):PE X (.Call (.Attribute o m apos) (e::es) [] pos) (tMeth C m sp [] E0 ta t):=by
 obtain⟨f,fd,F,hm,hb⟩:=M.ex;exact z8h he M.cl hm F (hr.mono hjk) hb .nil pass0 ha hst hpl ht
theorem pe_m0{pl:Sem Bool}(M:MCal X.prog X.w X.K X.mg X.base C m k ps sp)(hr:Room j X.A)(he:PE X o ta)(hjk:k<=j:=by decide)(ht:eval (.Call (.Attribute o m apos) [] [] pos) X.env=(do
   let ov<-eval o X.env
   standAt apos.atName
   let (f,first)<-holding [ov] (getMethod ov m pl)
   callWith pos f first (backTo pos (starEach [] X.env)) (backToKw pos (keywordEach [] X.env))):=by rfl):PE X (.Call (.Attribute o m apos) [] [] pos) (tMeth C m sp [] E0 ta tNil):=by
 obtain⟨f,fd,F,hm,hb⟩:=M.ex;exact z5p he M.cl hm F (hr.mono hjk) hb .nil pass0 ht
end
structure Kf (K:W.Frag) (mg:Str->Option Value) (C:Addr) (x qual:Str) (st:Stmt) (ps:List Str):Prop where
 ex:∃(f:Addr) (fd:FuncData) (oc:Value) (od:Option Addr) (dV kV doc pm:Value) (an:Option Addr) (cdv ct:Value) (osl:Array (Option Value)),fd=W.fnOf "__init__" qual (defArgs st) (defBody st) (defScope st) dV kV doc pm an cdv ct /\
  K.lookup f=some ⟨oc,od,.func fd,osl⟩/\W.codeIn K cdv qual=true/\Mk K C f/\Binds K fd ps []/\Binds K fd ps [.bool false]
 at_:mg x=some (.ref C)
 cl:Cls K C
structure KCal (P:Program) (w:World) (K:W.Frag) (mg:Str->Option Value) (base:Heap) (C:Addr) (x:Str) (k:Nat) (ps:List Str) (sp:Sp):Prop where
 ex:∃f fd,FnOk P w K mg base CX0 k f fd ps sp/\Mk K C f/\Binds K fd ps []/\Binds K fd ps [.bool false]
 at_:mg x=some (.ref C)
 cl:Cls K C
theorem Kf.cal{K:W.Frag}{st:Stmt}(D:Kf K mg C x qual st ps)(S:FnScope N ps (defScope st))(len:∀vs H Q E,sp vs H Q E->vs.length=ps.length)(hbody:∀(f:Addr) (cdv:Value) (A:Around) (outer:List Env) (s:Shared) (H:Hp) (vs:List V) (Q:VK) (E:XK),Room k (A.deeper (envOfC qual (defScope st) s.heap.objs.size f cdv))->sp vs H Q E ->
   ∃t,PSs (cxOf CX0 P w K mg base N qual (defScope st) f cdv A outer s H E).nox (defBody st) t/\t { nx:=fun _ H'=>Q .non H',rt:=Q } (start N vs) H):KCal P w K mg base C x (k+1) ps sp:=by
 obtain⟨f,fd,oc,od,dV,kV,doc,pm,an,cdv,ct,osl,rfl,lk,hcd,M,b1,b2⟩:=D.ex;refine⟨⟨f,_,fn_of lk hcd S len fun A outer s H vs Q E hr hsp=>?_,M,b1,b2⟩,D.at_,D.cl⟩;obtain⟨t,h,q⟩:=hbody f cdv A outer s H vs Q E hr hsp;exact⟨t,h.nox,q⟩
section
variable{X:Cx}{C:Addr}{x:Str}{k j:Nat}{ps:List Str}{sp:Sp}{p pos:Pos}{e:Expr}{es:List Expr}{t:TA}
theorem pe_k(M:KCal X.prog X.w X.K X.mg X.base C x k ps sp)(hr:Room j X.A)(ha:PA X (e::es) t)(hjk:k+1<=j:=by decide)(hg:Gl X x:=by rfl)(hdb:(x==("__debug__" : Str))=false:=by decide)(he:starEach (e::es) X.env=(false,eval e X.env)::starEach es X.env:=by rfl)(hpl:(backTo pos (starEach es X.env)).any (·.1)=false:=by rfl):PE X (.Call (.Name x p) (e::es) [] pos) (tMake C sp [] E0 t):=by
 obtain⟨f,fd,F,m,b1,_⟩:=M.ex;exact z8i m F (hr.mono hjk) hg M.at_ b1 .nil pass0 ha hdb he hpl
end
theorem q5n{K:PySem.W.Frag}{g:TG}{tb:TS}{D:Ends}(Pv:Nat->St->Hp->Prop)(h0:Pv 0 σ H)(hl:∀i σ H,Pv i σ H->SqL K H a xs)(hs:∀i x T σ H,xs[i]?=some x->Pv i σ H->H T=none->g (.ref T) σ (upd H T (.tup [.int i,x])) fun σ2 H2=>tb { D with nx:=Pv (i+1),ct:=Pv (i+1),bk:=D.nx } σ2 H2)(hd:∀σ H,Pv xs.length σ H->D.nx σ H):
  ∃W:Nat->Nat->St->Hp->Prop,(∃m,W 0 m σ H)/\∀i m σ H,W i m σ H ->
   ((Ite (Itl K a)).stop i H/\D.nx σ H)\/((Ite (Itl K a)).go i H/\∃N:St->Hp->Prop,(∀σ' H',N σ' H'->∃m',m'<m/\W (i+1) m' σ' H')/\∀v H',(Ite (Itl K a)).yld i H v H'->g v σ H' fun σ2 H2=>tb { D with nx:=N,ct:=N,bk:=D.nx } σ2 H2):=by
 refine z3q Pv h0 (fun i σ H h p=>⟨xs,xs[i],hl i σ H p,by simp[h]⟩) (fun σ H p=>⟨xs,hl _ σ H p,Nat.le_refl _⟩) (fun i v σ H H' h p yl=>?_) hd;obtain⟨T,y,hT,⟨_,hy⟩,rfl,rfl⟩:=yl;exact hs i y T σ H (hy xs (hl i σ H p)) p hT
open PySem PySem.Spec PyProof.Rows
def rCatP:R2:=fun x y H Q=>∃a b xs ys,x=.ref a/\y=.ref b/\H a=some (.tup xs)/\H b=some (.tup ys)/\xs.length+ys.length<=sizeLine/\∀p H',Same H H'->H' p=some (.tup (xs++ys))->(∀c,c≠p->H' c=H c)->Q (.ref p) H'
theorem q7b:OpR X (binaryOp .Add) rCatP:=by
 intro pins s σ H x y v u Q I rx ry h;obtain⟨a,b,xs,ys,rfl,rfl,ha,hb,hz,q⟩:=h;cases rx;cases ry;obtain⟨za,its,r1,p1⟩:=I.hok a _ ha;obtain⟨zb,its2,r2,p2⟩:=I.hok b _ hb;by_cases hx:its=[]
 ·have hx':xs=[]:=r1.nil_iff.mp hx;obtain⟨⟨cls,dd,data,sl⟩,ho,hc,n,hd⟩:=id p1;obtain⟨⟨cls2,dd2,data2,sl2⟩,ho2,hc2,n2,hd2⟩:=id p2;subst hc hd hc2 hd2;refine concat_meets ⟨_,ho,rfl⟩ ⟨_,ho2,rfl⟩ noFill_tuple_add seq_tuple_add PySem.F.slot_tuple_add PySem.F.entry_tuple_add (PySem.F.args_tuple_add_2 _ _) (tuple_addW0 a b its.toArray its2.toArray n n2 dd dd2 sl sl2 (by simp[hx])) ⟨ho,ho2,?_⟩;exact⟨.ref b,H,I,rfl,q b H (Same.refl H) (by rw[hx',List.nil_append];exact hb) fun _ _=>rfl⟩
 ·refine HT.cat_tup p1 p2 hx (fun z=>?_) (fun z=>?_) (by rw[<- r1.length,<- r2.length];exact hz)
  ·have hy:ys=[]:=r2.nil_iff.mp z;exact⟨.ref a,H,I,rfl,q a H (Same.refl H) (by rw[hy,List.append_nil];exact ha) fun _ _=>rfl⟩
  ·refine⟨.ref s.heap.objs.size,_,I.laid (t':=s.toks) (fun b ob q=>Heap.get?_push_of_some _ q) (Nat.le_refl _) ?_,rfl,q _ _ ((Same.refl H).new I.fresh) q0b fun c hc=>q0c hc⟩;exact⟨by rw[List.length_append];exact hz,_,r1.append r2,IsTup.new _ _⟩
theorem z2c{X:Cx}{e:Expr}{f:Str}{pos:Pos}{ta:TE}(K:W.Frag)(hK:X.K=K)(he:PE X e ta)(hb:attributeBase e f X.env (eval e X.env)=eval e X.env:=by rfl):PE X (.Attribute e f pos) (tFld K ta f):=by subst hK;exact pe_fld he hb
theorem z7p{X:Cx}{o value:Expr}{f:Str}{pos pos':Pos}{ta tv:TE}(K:W.Frag)(hK:X.K=K)(ha:PE X o ta)(hv:PE X value tv)(hs:swapsWith value (some (.Attribute o f pos')) pos.line X.env=pure false:=by rfl):PS X (.Assign [.Attribute o f pos'] value pos) (sFld K ta tv f):=by subst hK;exact ps_fld ha hv hs
end L2
namespace HM
open PySem PySem.Spec PyProof.Rows L2 TX SB
def NSs:Str:=Str.ofString "abcdefghijklmnopqrstuvwxyzABCDEFGHIJKLMNOPQRSTUVWXYZ0123456789-_."
abbrev NS:List Nat:=tl NSs
theorem z7q:∀c∈NS,c<128:=by decide +kernel
structure okN (n:List Nat):Prop where
 one:1<=n.length
 few:n.length<=12
 all:∀c∈n,c∈NS
theorem okN.low(h:okN n):∀c∈n,c<128:=fun c hc=>z7q c (h.all c hc)
structure okP (p:Pth):Prop where
 ne:p≠[]
 few:p.length<=6
 all:∀n∈p,okN n
theorem okP.low(h:okP p):Low p:=fun n hn=>(h.all n hn).low
abbrev Rw:=Pth×Option Int
def mV:Option Int->V
 |none=>.non
 |some i=>.int i
def rR(r:Rw):HRow:=(r.1,mV r.2)
theorem mV_inj(h:mV a=mV b):a=b:=by
 cases a with
 |none=>cases b with
  |none=>rfl
  |some j=>cases h
 |some i=>cases b with
  |none=>cases h
  |some j=>cases h;rfl
theorem mV_none:mV a=.non↔a=none:=⟨fun h=>mV_inj (b:=none) h,fun h=>by rw[h];rfl⟩
def lowN(n:List Nat):List Nat:=n.map lo1
def fold(bl:Bool)(p:Pth):Pth:=if bl then p.dropLast++[lowN (p.getLastD [])] else p
theorem z7r(p:Pth):fold false p=p:=rfl
theorem z7s(p:Pth):fold true p=p.dropLast++[lowN (p.getLastD [])]:=rfl
theorem z4k{p:Pth}(h:p≠[]):p=p.dropLast++[p.getLastD []]:=by
 have e:=List.dropLast_concat_getLast h;have e2:p.getLastD []=p.getLast h:=by rw[List.getLastD_eq_getLast?,List.getLast?_eq_some_getLast h];rfl
 rw[e2];exact e.symm
theorem q7c{p q:Pth}(hp:p≠[])(hq:q≠[]):fold bl p=fold bl q↔p.dropLast=q.dropLast/\(if bl then lowN (p.getLastD [])=lowN (q.getLastD []) else p.getLastD []=q.getLastD []):=by
 cases bl with
 |true =>
  rw[z7s,z7s];constructor
  ·simp_all
  ·simp_all
 |false =>
  rw[z7r,z7r];constructor
  ·grind
  ·rintro⟨h1,h2⟩;rw[z4k hp,z4k hq,h1,h2]
structure Hl (bl:Bool) (rows:List Rw):Prop where
 ok:∀r∈rows,okP r.1
 nd:(rows.map fun r=>fold bl r.1).Nodup
 dr:∀r∈rows,r.1.dropLast=[]\/(r.1.dropLast,none)∈rows
theorem Hl.perm(h:Hl bl rows)(p:rows'.Perm rows):Hl bl rows' :=
 ⟨fun r hr=>h.ok r (p.mem_iff.mp hr),(p.map _).nodup_iff.mpr h.nd,fun r hr=>(h.dr r (p.mem_iff.mp hr)).imp id fun z=>p.mem_iff.mpr z⟩
theorem Hl.nil(bl:Bool):Hl bl []:=⟨(fun _ h=>nomatch h),.nil,(fun _ h=>nomatch h)⟩
theorem q2f{α β:Type}{f:α->β}:∀{l:List α},(l.map f).Nodup->l.Nodup
 |[],_=>.nil
 |a::l,h=>by
  rw[List.map_cons,List.nodup_cons] at h;exact List.nodup_cons.mpr ⟨fun z=>h.1 (List.mem_map.mpr ⟨a,z,rfl⟩),q2f h.2⟩
theorem Hl.paths(h:Hl bl rows):(rows.map (·.1)).Nodup:=by
 have e:rows.map (fun r=>fold bl r.1)=(rows.map (·.1)).map (fold bl):=by simp_all
 have:=h.nd;rw[e] at this;exact q2f this
abbrev Zr:=Addr×Rw
structure RL (H:Hp) (L:Addr) (zs:List Zr):Prop where
 at_:H L=some (.lst (zs.map fun z=>V.ref z.1))
 pr:∀z∈zs,PR H z.1 (rR z.2)
theorem PR.same(h:PR H a r)(k:∀T xs,H T=some (.tup xs)->H' T=some (.tup xs)):PR H' a r:=let ⟨b,h1,h2⟩:=h;⟨b,k _ _ h1,k _ _ h2⟩
theorem RL.same(h:RL H L zs)(s:Same H H'):RL H' L zs:=⟨s _ _ h.at_,fun z hz=>PR.same (h.pr z hz) fun T xs e=>s _ _ e⟩
theorem tupFd(F:FeedAt H a b)(fd:Fd a b H H'):∀T xs,H T=some (.tup xs)->H' T=some (.tup xs):=fun T xs e=>fd.at e fun z=>by
 subst z;obtain⟨i,j,q⟩:=F.fa;rw[q] at e;cases e
theorem RL.fd(h:RL H L zs)(F:FeedAt H a b)(fd:Fd a b H H')(hL:L≠a):RL H' L zs:=⟨fd.at h.at_ hL,fun z hz=>PR.same (h.pr z hz) (tupFd F fd)⟩
theorem prs_zs{zs:List Zr}(h:∀z∈zs,PR H z.1 (rR z.2)):PRs H (zs.map (·.1)) (zs.map fun z=>rR z.2):=z4i h
theorem zs_of:∀{as:List Addr} {rs:List HRow} {rows:List Rw},PRs H as rs->rs=rows.map rR->∃zs:List Zr,zs.map (·.1)=as/\zs.map (·.2)=rows/\∀z∈zs,PR H z.1 (rR z.2)
 |_,_,[],.nil,_=>⟨[],rfl,rfl,(fun _ h=>nomatch h)⟩
 |_,_,_::_,.nil,e=>by cases e
 |_,_,[],.cons _ _,e=>by cases e
 |a::as,_,r::rows,.cons h t,e=>by
  rw[List.map_cons] at e;injection e with e1 e2;obtain⟨zs,z1,z2,z3⟩:=zs_of t e2;refine⟨(a,r)::zs,by rw[List.map_cons,z1],by rw[List.map_cons,z2],fun z hz=>?_⟩;rcases List.mem_cons.mp hz with rfl|hz
  ·rw[<- e1];exact h
  ·exact z3 z hz
theorem q5o:∀{l m:List Pth},l.Perm m->l.Nodup->l.Pairwise (fun a b=>pLt b a=false)->m.Pairwise (fun a b=>pLt b a=false)->l=m
 |[],m,p,_,_,_=>(List.perm_nil.mp p.symm).symm
 |a::l,[],p,_,_,_=>absurd (p.length_eq) (by simp)
 |a::l,b::m,p,nd,h1,h2=>by
  obtain⟨n1,n2⟩:=List.nodup_cons.mp nd;obtain⟨a1,a2⟩:=List.pairwise_cons.mp h1;obtain⟨b1,b2⟩:=List.pairwise_cons.mp h2;have e:a=b:=by
   have ha:=p.mem_iff.mp List.mem_cons_self;have hb:=p.mem_iff.mpr List.mem_cons_self;rcases List.mem_cons.mp ha with e|ha
   ·exact e
   ·rcases List.mem_cons.mp hb with e|hb
    ·exact e.symm
    ·exact q9v (b1 a ha) (a1 b hb)
  subst e;rw[q5o ((List.perm_cons a).mp p) n2 a2 b2]
def dMk:Option Int->PyData
 |none=>.none
 |some i=>.int i
def dRw(r:Rw):PyData:=.tuple [.tuple (dP r.1),dMk r.2]
theorem z8z{K:W.Frag}(m:Option Int):Dt K H (mV m) (dMk m):=by
 cases m with
 |none=>exact .non
 |some i=>exact .int i
theorem z0z{K:W.Frag}{H:Hp}:∀p:Pth,Dts K H (vP p) (dP p)
 |[]=>.nil
 |n::p=>.cons (.str _) (z0z p)
theorem q1m{K:W.Frag}(h:H a=some (.tup (vP p))):Dt K H (.ref a) (.tuple (dP p)):=.tup (SqT.of h) (z0z p)
theorem dt_row{K:W.Frag}(h:PR H a (rR r)):Dt K H (.ref a) (dRw r):=by
 obtain⟨b,h1,h2⟩:=h;exact .tup (SqT.of h1) (.cons (q1m h2) (.cons (z8z _) .nil))
theorem z1a{K:W.Frag}{H:Hp}:∀{zs:List Zr},(∀z∈zs,PR H z.1 (rR z.2))->Dts K H (zs.map fun z=>V.ref z.1) (zs.map fun z=>dRw z.2)
 |[],_=>.nil
 |z::zs,h=>.cons (dt_row (h z List.mem_cons_self)) (z1a fun x hx=>h x (List.mem_cons_of_mem _ hx))
theorem RL.dt{K:W.Frag}(h:RL H L zs):Dt K H (.ref L) (.list (zs.map fun z=>dRw z.2)):=.lst (SqL.of h.at_) (z1a h.pr)
theorem q2c(h:Low p):(PyData.tuple (dP p)).canLay0=true:=by simp only[PySem.PyData.canLay0,q5j h]
theorem q3w(p:Pth):(PyData.tuple (dP p)).depth<=2:=by
 have h1:(PyData.tuple (dP p)).depth=PySem.PyData.depthAll (dP p)+1:=by simp only[PySem.PyData.depth]
 have:=q4n p;lia
theorem q3x(p q:Pth):PyData.eqv (.tuple (dP p)) (.tuple (dP q))=decide (p=q):=by simp only[PyData.eqv,q5k]
theorem q2g{K:W.Frag}(ha:H a=some (.tup (vP p)))(hb:H b=some (.tup (vP q)))(lp:Low p)(lq:Low q)(k:Q (.bl (!decide (p=q))) H):rNeU K (.ref a) (.ref b) H Q:=by
 refine .inr ⟨_,_,q1m ha,q1m hb,q2c lp,q2c lq,by have:=q3w p;lia,?_⟩;rw[q3x];exact k
end HM
namespace L2
open PySem PySem.Spec PyProof.Rows SB
abbrev Zp:=Addr×Pth
theorem ers_map{α β:Type}(f:α->β):∀(l:List α) (k:Nat),(l.map f).eraseIdx k=(l.eraseIdx k).map f
 |[],_=>rfl
 |_::_,0=>rfl
 |a::l,k+1=>by show f a::(l.map f).eraseIdx k=f a::(l.eraseIdx k).map f;rw[ers_map f l k]
def tThawV(h₀:Hp)(t:TE):TE:=fun σ H Q=>∃d,(∀o v,h₀ d≠some (.frz o v))/\t σ H fun x H'=>∃ob u,H' d=some (.frz ob u)/\Q x (upd H' d u)
theorem z4l{X:Cx}{e:Expr}{t:TE}(h₀:Hp)(hH:X.H₀=h₀)(h:PE X e t):PE X e (tThawV h₀ t):=by
 subst hH;intro pins s σ H Q I q;obtain⟨d,hd,q⟩:=q;exact thn (h pins s σ H _ I q) fun v s1 ⟨x,H1,I1,r1,ob,u,e1,q1⟩=>⟨x,_,I1.thaw e1 hd,r1,q1⟩
theorem Paired.ers{α β:Type}{F:α->β->Prop}:∀{l:List α} {m:List β} (j:Nat),Paired F l m->Paired F (l.eraseIdx j) (m.eraseIdx j)
 |_,_,_,.nil=>.nil
 |_,_,0,.cons _ t=>t
 |_,_,j+1,.cons h t=>.cons h (Paired.ers j t)
end L2
namespace HM
open PySem PySem.Spec PyProof.Rows L2 TX SB
def carry(p q x:Pth):Pth:=if x.take p.length=p then q++x.drop p.length else x
def cR(p q:Pth)(r:Rw):Rw:=(carry p q r.1,r.2)
def mvR(p q:Pth)(r:Rw):Rw:=if r.1=p then(q,r.2) else r
theorem Hl.anc(h:Hl bl rows):∀(n:Nat) (r:Rw),r∈rows->r.1.length<=n->∀k,1<=k->k<r.1.length->(r.1.take k,none)∈rows
 |0,r,_,hl,k,_,hk=>absurd hk (by lia)
 |n+1,r,hr,hl,k,h1,hk=>by
  have hd:r.1.dropLast=r.1.take (r.1.length-1):=List.dropLast_eq_take;have hne:r.1.dropLast≠[]:=fun z=>by
   have:=congrArg List.length z;simp at this;lia
  have hm:=(h.dr r hr).resolve_left hne;by_cases e:k=r.1.length-1
  ·grind
  ·have:=h.anc n (r.1.dropLast,none) hm (by rw[List.length_dropLast];lia) k h1 (by rw[List.length_dropLast];lia);rw[show((r.1.dropLast,(none:Option Int)):Rw).1=r.1.dropLast from rfl,hd,List.take_take,Nat.min_eq_left (by lia)] at this;exact this
theorem Hl.one(h:Hl bl rows)(h1:(p,a)∈rows)(h2:(p,b)∈rows):a=b:=by
 have:=q0w h.paths h1 h2 rfl;cases this;rfl
theorem Hl.slip(h:Hl bl rows)(hp:(p,some m)∈rows)(hr:r∈rows)(ht:r.1.take p.length=p):r.1=p:=by
 by_cases hl:p.length<r.1.length
 ·have h0:=List.length_pos_iff.mpr (h.ok _ hp).ne;have:=h.anc _ r hr (Nat.le_refl _) p.length h0 hl;rw[ht] at this;cases h.one hp this
 ·grind
theorem Hl.carry(h:Hl bl rows)(hp:(p,some m)∈rows):rows.map (cR p q)=rows.map (mvR p q):=by
 refine List.map_congr_left fun r hr=>?_;unfold cR mvR HM.carry;by_cases e:r.1=p
 ·simp_all
 ·rw[if_neg e,if_neg fun z=>e (h.slip hp hr z)]
theorem Hl.eq(h:Hl bl rows)(hr:r∈rows)(hs:s∈rows)(e:fold bl r.1=fold bl s.1):r=s:=q0w (f:=fun r:Rw=>fold bl r.1) h.nd hr hs e
theorem ns_lo:∀c∈NS,lo1 c∈NS:=by decide +kernel
theorem okN.lo(h:okN n):okN (lowN n):=⟨by unfold lowN;rw[List.length_map];exact h.one,by unfold lowN;rw[List.length_map];exact h.few,fun c hc=>by
 obtain⟨x,hx,rfl⟩:=List.mem_map.mp hc;exact ns_lo x (h.all x hx)⟩
theorem okP.snoc{q:Pth}(h:q=[]\/okP q)(hl:q.length<6)(hn:okN n):okP (q++[n]):=by
 refine⟨by simp,by rw[List.length_append];show _+1<=6;lia,fun x hx=>?_⟩;rcases List.mem_append.mp hx with hx|hx
 ·rcases h with e|h
  ·rw[e] at hx;cases hx
  ·exact h.all x hx
 ·grind
theorem q8u{K:W.Frag}{H:Hp}:∀{zs:List Zp},(∀z∈zs,H z.1=some (.tup (vP z.2)))->Dts K H (zs.map fun z=>V.ref z.1) (zs.map fun z=>PyData.tuple (dP z.2))
 |[],_=>.nil
 |z::zs,h=>.cons (q1m (h z List.mem_cons_self)) (q8u fun x hx=>h x (List.mem_cons_of_mem _ hx))
theorem q8v:∀{zs:List Zp},(∀z∈zs,Low z.2)->PyData.canLayAll0 (zs.map fun z=>PyData.tuple (dP z.2))=true
 |[],_=>by simp[PyData.canLayAll0]
 |z::zs,h=>by
  simp only[List.map_cons,PyData.canLayAll0];rw[q2c (h z List.mem_cons_self),q8v fun x hx=>h x (List.mem_cons_of_mem _ hx)];rfl
theorem z1b{K:W.Frag}{zs:List Zp}(ha:H a=some (.lst (zs.map fun z=>V.ref z.1)))(hz:∀z∈zs,H z.1=some (.tup (vP z.2)))(hb:H b=some (.lst []))(l:∀z∈zs,Low z.2)(k:Q (.bl (!decide (zs=[]))) H):rNeU K (.ref a) (.ref b) H Q:=by
 refine .inr ⟨_,_,.lst (SqL.of ha) (q8u hz),.lst (SqL.of hb) .nil,by simp only[PyData.canLay0];exact q8v l,by simp[PyData.canLay0,PyData.canLayAll0],?_,?_⟩
 ·have:(PyData.list []).depth<=100:=by simp[PyData.depth,PyData.depthAll]
  lia
 ·have e:PyData.eqv (.list (zs.map fun z=>PyData.tuple (dP z.2))) (.list [])=decide (zs=[]):=by cases zs<;>simp[PyData.eqv,PyData.eqvAll]
  rw[e];exact k
theorem q2z{K:W.Frag}(ha:H a=some (.tup (vP p)))(hb:H b=some (.tup (vP q)))(lp:Low p)(lq:Low q)(k:Q (.bl (decide (p=q))) H):rEqU K (.ref a) (.ref b) H Q:=by
 refine .inr ⟨_,_,q1m ha,q1m hb,q2c lp,q2c lq,by have:=q3w p;lia,?_⟩;rw[q3x];exact k
def uppN(n:List Nat):List Nat:=n.map up1
theorem ns_up:∀c∈NS,up1 c∈NS:=by decide +kernel
theorem okN.up(h:okN n):okN (uppN n):=⟨by unfold uppN;rw[List.length_map];exact h.one,by unfold uppN;rw[List.length_map];exact h.few,fun c hc=>by
 obtain⟨x,hx,rfl⟩:=List.mem_map.mp hc;exact ns_up x (h.all x hx)⟩
theorem z6l(h:∀c∈n,c<128):PySem.Txt.upper (mk n)=mk (uppN n):=by
 rw[upper_ascii (by show ∀c∈tl (mk n),c<128;exact h)];apply ext;rw[q2j];rw[Array.toList_map];rfl
theorem q4i(e:H a=some (dR rs))(eb:H b=some (.tup (vP p))):DGet H a (.ref b) (valV (rs.map fun r=>(kP r.1,r.2)) (kP p)) :=
 .inr ⟨_,kP p,b,.inl e,rfl,by rw[q1u];exact eb,rfl⟩
end HM
namespace L2
open PySem PySem.Spec PyProof.Rows
section
variable{X:Cx}{pins:List (Addr×Obj)}{σ:St}{H:Hp}{s:Shared}
abbrev Cx.pinned(X:Cx)(pn:List (Addr×Obj)):Cx:={ X with pn:=pn }
theorem Cx.Ok.pinned{pn:List (Addr×Obj)}(ok:X.Ok):(X.pinned pn).Ok:=⟨ok.mod,ok.kind,ok.glob,ok.blt,ok.above,ok.inj,ok.has,ok.cab,ok.hd,ok.frames,ok.stk,ok.exf,ok.bs,ok.bsz,ok.noex,ok.exfs,ok.funs,ok.frf⟩
end
open PySem PySem.Spec PyProof.Rows
theorem q6i:∀{cs:List Addr} {us:List Value},Vals (cs.map V.ref) us->us=cs.map Value.ref
 |[],_,.nil=>rfl
 |c::cs,_,.cons r t=>by
  have h:_=Value.ref c:=r;rw[h,q6i t,List.map_cons]
end L2
namespace HM
open PySem PySem.Spec PyProof.Rows L2 TX SB
def inP(H:Hp)(q:Pth)(a:Addr):Bool:=match H a with|some (.tup xs)=>decide (xs=vP q)|_=>false
theorem vP_inj(h:vP p=vP q):p=q:=by
 have e:(vP p).map (fun v=>match v with|.str s=>tl s|_=>[])=(vP q).map (fun v=>match v with|.str s=>tl s|_=>[]):=by rw[h]
 have f:∀x:Pth,(vP x).map (fun v=>match v with|.str s=>tl s|_=>[])=x:=fun x=>by
  rw[List.map_map];refine Eq.trans (List.map_congr_left fun n _=>q2j n) (List.map_id x)
 rw[f,f] at e;exact e
theorem q8w(h:H a=some (.tup (vP r))):inP H q a=decide (r=q):=by
 unfold inP;rw[h];exact decide_eq_decide.mpr ⟨vP_inj,fun z=>by rw[z]⟩
def rInP(neg:Bool):R2:=fun x y H Q=>∃(p L:Addr) (bs:List Addr) (q:Pth),x=.ref p/\y=.ref L/\H L=some (.lst (bs.map V.ref))/\H p=some (.tup (vP q))/\Low q/\(∀b∈bs,∃r,H b=some (.tup (vP r))/\Low r)/\Q (.bl (if neg then !bs.any (inP H q) else bs.any (inP H q))) H
section
variable{X:Cx}{k:Nat}
def eR(H:Hp)(q:Pth):Value->Bool|.ref a=>inP H q a|_=>false
theorem any_eR(bs:List Addr):(bs.map Value.ref).toArray.any (eR H q)=bs.any (inP H q):=by
 rw[show(bs.map Value.ref).toArray.any (eR H q)=(bs.map Value.ref).any (eR H q) by simp,List.any_map];rfl
theorem z4m(hr:Room k X.A){σ:L2.St}(I:Inv X pins σ H s){bs:List Addr}(hp:H p=some (.tup (vP q)))(lq:Low q)(hb:∀b∈bs,∃r,H b=some (.tup (vP r))/\Low r):
  ∀w∈(bs.map Value.ref).toArray,SeqAt.EqAt X.A.in1 s w (.ref p) (eR H q w):=fun w hw=>by
 obtain⟨b,hbm,rfl⟩:∃b∈bs,w=.ref b:=by
  have:w∈bs.map Value.ref:=by grind
  obtain⟨b,h1,h2⟩:=List.mem_map.mp this;exact⟨b,h1,h2.symm⟩
 obtain⟨r,hr1,lr⟩:=hb b hbm;obtain⟨as,r1⟩:=(q1m hr1).reads I rfl;obtain⟨as2,r2⟩:=(q1m hp).reads I rfl;have hd:=q3w r;have hu:=hr.un;have e:=SeqAt.eqAt_reads _ _ X.A.in1 s _ _ _ _ r1 r2 (q2c lr) (q2c lq) (by show X.A.units+1+_<_;lia);rw[q3x] at e;show SeqAt.EqAt X.A.in1 s (.ref b) (.ref p) (inP H q b);rw[q8w hr1];exact e
theorem nin_P(hr:Room k X.A):OpR X (compareOp .NotIn) (rInP true):=by
 intro pins s σ H x y v u Q I rx ry h;obtain⟨p,L,bs,q,rfl,rfl,hL,hp,lq,hb,qq⟩:=h;cases rx;cases ry;obtain⟨its,r,pl,hz⟩:=I.list (SqL.of hL);obtain rfl:=q6i r;exact SeqAt.notIn_listAt (eR H q) pl.isList (z4m hr I hp lq hb) ⟨.bl _,H,I,rfl,by rw[any_eR];exact qq⟩
end
open PySem PySem.Spec PyProof.Rows L2 TX SB
abbrev Mv:=Pth×Pth
def wk:List Rw->List Mv->List Rw
 |rows,[]=>rows
 |rows,m::r=>wk (rows.map (cR m.1 m.2)) r
section
variable{bl:Bool}
def tb(ms:List Mv):List Mv:=ms.reverse.map fun m=>(m.2,m.1)
end
def MT(H:Hp)(T:Addr)(m:Mv):Prop:=∃A B,H T=some (.tup [.ref A,.ref B])/\H A=some (.tup (vP m.1))/\H B=some (.tup (vP m.2))
abbrev Zm:=Addr×Mv
structure ML (H:Hp) (L:Addr) (zs:List Zm):Prop where
 at_:H L=some (.lst (zs.map fun z=>V.ref z.1))
 pr:∀z∈zs,MT H z.1 z.2
theorem MT.keep(h:MT H T m)(k:∀T xs,H T=some (.tup xs)->H' T=some (.tup xs)):MT H' T m:=let ⟨A,B,h1,h2,h3⟩:=h;⟨A,B,k _ _ h1,k _ _ h2,k _ _ h3⟩
theorem ML.same(h:ML H L zs)(s:Same H H'):ML H' L zs:=⟨s _ _ h.at_,fun z hz=>(h.pr z hz).keep fun T xs e=>s _ _ e⟩
theorem ML.fd(h:ML H L zs)(F:FeedAt H a b)(fd:Fd a b H H')(hL:L≠a):ML H' L zs:=⟨fd.at h.at_ hL,fun z hz=>(h.pr z hz).keep (tupFd F fd)⟩
theorem ML.nil(h:H L=some (.lst [])):ML H L []:=⟨h,fun _ z=>nomatch z⟩
theorem ML.cut(h:ML H L zs)(hL:H L'=none)(n:Nat):ML (upd H L' (.lst ((zs.map fun z=>V.ref z.1).drop n))) L' (zs.drop n) :=
 ⟨by rw[q0b,List.map_drop],fun z hz=>(h.pr z (List.mem_of_mem_drop hz)).keep fun T xs e=>by rw[q0c (q0h e hL)];exact e⟩
theorem ML.pre(h:ML H L zs)(hL:H L'=none)(n:Nat):ML (upd H L' (.lst ((zs.map fun z=>V.ref z.1).take n))) L' (zs.take n) :=
 ⟨by rw[q0b,List.map_take],fun z hz=>(h.pr z (List.mem_of_mem_take hz)).keep fun T xs e=>by rw[q0c (q0h e hL)];exact e⟩
end HM
namespace L2
open PySem PySem.Spec PyProof.Rows
theorem q7d(ho:s.heap.get? a=some o)(hc:o.ExactDict)(hd:o.data=.dict es ep)(hs:(a==sysModules)=false)(hz:es.size<=sizeLine)(h:∀t t',Q (.int es.size t) { s with toks:=t' }):wpAny (model prog w) A (call (.builtin "len") [.ref a]) Q E s:=by
  have hT:s.TypeIs (.ref a) "dict" := ⟨o,ho,hc.1⟩
  have hz63:¬((es.size:Nat):Int)>=2^63:=by rw[sizeLine_eq] at hz;lia
  refine wpAny_call (codeAny_call_builtin (by decide +kernel) entry_len ?_);have hck:checkBuiltinCall "len" ⟨[.ref a],[]⟩=pure ():=by
    first
      |exact checkBuiltinCall_of_none (by decide +kernel) (by decide +kernel) _
      |rfl
      |(unfold checkBuiltinCall;rfl)
  refine wpAny_of_eq hck ?_;refine wpAny_bind ?_;refine wpAny_pure (wpAny_bind (wpAny_callSpecial?_slot hT PySem.F.slot_dict_len (wpAny_call_entry PySem.F.slot_dict_len hT PySem.F.entry_dict_len ?_ (PySem.F.args_dict_len_1 _))));refine wpAny_bind (wpAny_bind (wpAny_notOrdered_dict hT ?_));refine wpAny_pure ?_;show wpAny _ _ (do
      let __do_lift<-dictSize a;let __do_lift_1<-Builtin.Dict.pendingCount a
      retInt (↑__do_lift + ↑__do_lift_1)) _ _ _
  unfold dictSize Builtin.Dict.pendingCount;rw[hs];refine wpAny_bind (wpAny_bind (wpAny_dictEntries ho hd (wpAny_pure ?_)));refine wpAny_bind (wpAny_pure ?_);have e0:((es.size:Nat):Int)+((0:Nat):Int)=es.size:=by lia
  rw[e0]
  wp_walk
  refine⟨_,rfl,?_⟩;have hn:¬((es.size:Nat):Int)<0:=by lia
  refine wpAny_bind (wpAny_holding ?_);refine wpAny_pure (wpAny_bind (wpAny_letGo ?_));rw[if_neg hn,if_neg hz63]
  wp_walk
  exact h _ _
theorem z4n:CallR X (.builtin "len") (fun xs H Q=>∃d kvs,xs=[V.ref d]/\H d=some (.dT kvs)/\Q (.int kvs.length) H):=by
 intro pins s σ H xs us Q I r h;obtain⟨d,kvs,rfl,e,q⟩:=h;obtain⟨u,rfl,ru⟩:=vals1 r;cases ru;obtain⟨z,hd,xs,rel,dd⟩:=z8r I.hok e;obtain⟨o',es,ep,ho',hc,hdd,he,his,hn⟩:=dd;have hlen:es.size=kvs.length:=by
  have:=congrArg List.length he;rw[List.length_map,Array.length_toList] at this;rw[this,Paired.length rel]
 refine q7d ho' hc hdd hd (by rw[hlen];exact z) fun t t'=>⟨.int kvs.length,H,I.tok _,⟨t,by rw[hlen]⟩,q⟩
section
variable{P:Program}{w:World}
def IsPairKey(P:Program)(w:World)(h:Heap)(k:List Key×Key)(a:Addr):Prop:=∃o n b v,h.get? a=some o/\o.cls=.type "tuple" /\ o.data=.seq #[.ref b,v] n/\IsTupleKey (mixKind P w) h k.1 b/\(mixKind P w).is k.2 v=true
theorem IsPairKey.typeIs{s:Shared}{k:List Key×Key}{a:Addr}(x:IsPairKey P w s.heap k a):s.TypeIs (.ref a) "tuple" := let ⟨o,_,_,_,ho,hc,_⟩:=x;⟨o,ho,hc⟩
theorem IsPairKey.inj{h:Heap}{a:Addr}{x y:List Key×Key}(hx:IsPairKey P w h x a)(hy:IsPairKey P w h y a):x=y:=by
 obtain⟨o,n,b,v,ho,_,hd,h1,h2⟩:=hx;obtain⟨o',n',b',v',ho',_,hd',h1',h2'⟩:=hy;obtain rfl:o=o':=Option.some.inj (ho.symm.trans ho');rw[hd] at hd';injection hd' with e1 _;have e2:=congrArg Array.toList e1;injection e2 with e3 e4;injection e3 with e3;injection e4 with e4 _;subst e3 e4;exact Prod.ext (h1.inj h1') ((mixKind P w).inj _ _ _ h2 h2')
theorem IsPairKey.keeps{h h':Heap}{k:List Key×Key}{a d:Addr}{o:Obj}{es ep}(x:IsPairKey P w h k a)(ho:h.get? d=some o)(hd:o.data=.dict es ep)(hs:Heap.SameBut d h h'):IsPairKey P w h' k a:=by
 obtain⟨o',n,b,v,ho',hc,hd',h1,h2⟩:=x;have hne:a≠d:=by
  rintro rfl;obtain rfl:o'=o:=Option.some.inj (ho'.symm.trans ho);rw[hd] at hd';exact nomatch hd'
 exact⟨o',n,b,v,(hs.2 a hne).trans ho',hc,hd',h1.keeps ho hd hs,h2⟩
def pairHash(P:Program)(w:World)(k:List Key×Key):Int:=reduceHash (Builtin.Tuple.tupleHashOf [tupleKeyHash (mixKind P w) k.1,(mixKind P w).hash k.2])
variable{A:Around}{E:Value->Shared->Prop}{s:Shared}
theorem z4o{k:List Key×Key}{a:Addr}{Q:Int->Shared->Prop}(hu:A.units+1<cLine)(hk:IsPairKey P w s.heap k a)(h:Q (pairHash P w k) { s with toks:=s.toks+(k.1.length+3) }):
  wpAny (model P w) A (pyHash (.ref a)) Q E s:=by
 have hT:=hk.typeIs;obtain⟨o,n,b,v,ho,_,hd,h1,h2⟩:=hk;unfold pyHash;first|unfold pyHashByItsType|skip
 first|refine wpAny_bind (wpAny_cRoomFor_or (.inr (by lia)) ?_)|skip
 refine wpAny_bind (wpAny_specialOf hT F.slot_tuple_hash.lookup ?_);show wpAny _ _ (if (some (Value.builtin "tuple.__hash__")==some Value.none)=true then _ else _) Q E s;rw[if_neg (by rw[beq_builtin_none];exact Bool.false_ne_true)];refine wpAny_bind (wpAny_specialOf hT F.slot_tuple_hash.lookup ?_);show wpAny _ _ (callSpecialIfBoundUnlessNone? (.ref a) "__hash__" _ >>= _) Q E s;refine wpAny_bind (wpAny_callSpecialIfBoundUnlessNone?_slot hT F.slot_tuple_hash (wpAny_call_entry F.slot_tuple_hash hT F.entry_tuple_hash ?_ (F.args_tuple_hash_1 _)));show wpAny _ _ (Builtin.Tuple.tupleItemsOf (.ref a) >>= _) _ _ s;refine wpAny_bind (wpAny_tupleItemsOf ho hd ?_);refine wpAny_bind ?_;rw[<- Array.forIn_toList];refine wpAny_forIn_list _
  (fun rest (c:Array Int) s'=>(rest=[.ref b,v]/\c.toList=[]/\s'=s)\/(rest=[v]/\c.toList=[tupleKeyHash (mixKind P w) k.1]/\s'={ s with toks:=s.toks+(k.1.length+1) }) \/
   (rest=[]/\c.toList=[tupleKeyHash (mixKind P w) k.1,(mixKind P w).hash k.2]/\s'={ s with toks:=s.toks+(k.1.length+2) }))
  _ ?_ ?_ _ _ (.inl ⟨rfl,rfl,rfl⟩)
 ·rintro x rest c s' (⟨e,hc,rfl⟩|⟨e,hc,rfl⟩|⟨e,_⟩)
  ·cases e;refine wpAny_bind (wpAny_pyHash_tuple (tupleKind_room_in1 (knd:=mixKind P w) hu) h1 ?_);have q:∀{x:Array Int},x=c.push (tupleKeyHash (mixKind P w) k.1)->x.toList=[tupleKeyHash (mixKind P w) k.1]:=fun e=>by rw[e];simp[hc]
   first
    |exact wpAny_pure (.inr (.inl ⟨rfl,q rfl,rfl⟩))
    |exact wpAny_bind (wpAny_pure (wpAny_pure (.inr (.inl ⟨rfl,q rfl,rfl⟩))))
  ·cases e;refine wpAny_bind ((mixKind P w).pyHash h2 ?_);have q:∀{x:Array Int},x=c.push ((mixKind P w).hash k.2)->x.toList=[tupleKeyHash (mixKind P w) k.1,(mixKind P w).hash k.2]:=fun e=>by rw[e];simp[hc]
   first
    |exact wpAny_pure (.inr (.inr ⟨rfl,q rfl,rfl⟩))
    |exact wpAny_bind (wpAny_pure (wpAny_pure (.inr (.inr ⟨rfl,q rfl,rfl⟩))))
  ·cases e
 ·rintro c s' (⟨e,_⟩|⟨e,_⟩|⟨_,hc,rfl⟩)
  ·cases e
  ·cases e
  show wpAny _ _ (retInt (Builtin.Tuple.tupleHashOf c.toList)) _ _ _;rw[hc];refine wpAny_ret_mkInt ?_;show wpAny _ _ (if (decide (-(2:Int)^63<=Builtin.Tuple.tupleHashOf [tupleKeyHash (mixKind P w) k.1,(mixKind P w).hash k.2])&&decide (Builtin.Tuple.tupleHashOf [tupleKeyHash (mixKind P w) k.1,(mixKind P w).hash k.2]<2^63))=true then _ else _) Q E _;unfold pairHash reduceHash at h;split
  ·rename_i hr;rw[if_pos hr] at h;exact wpAny_pure h
  ·rename_i hr;rw[if_neg hr] at h;exact wpAny_bind (wpAny_rule (wpAny_pure h))
theorem q8x{x y:List Key×Key}{a b:Addr}{R:Fin->Shared->Prop}(hu:A.units<cLine)(hx:IsPairKey P w s.heap x a)(hy:IsPairKey P w s.heap y b)(h:R (.done (.ret (.bool (decide (x=y))))) s):
  wpAny (model P w) A (Builtin.«tuple.__eq__» ⟨[.ref a,.ref b],[]⟩) R E s:=by
 have hTb:=hy.typeIs;obtain⟨oa,na,a1,v1,hoa,_,hda,ha1,hv1⟩:=hx;obtain⟨ob,nb,b1,v2,hob,_,hdb,hb1,hv2⟩:=hy;show wpAny _ _ (isInstance (.ref b) (.type "tuple") >>= _) _ _ s;refine wpAny_bind (wpAny_isInstance hTb isSubtype_tuple_tuple ?_);simp only[Bool.not_true,Bool.false_eq_true,if_false];refine wpAny_bind (wpAny_tupleItemsOf hoa hda ?_);refine wpAny_bind (wpAny_tupleItemsOf hob hdb ?_);refine wpAny_bind ?_;refine wpAny_forIn_list _
  (fun rest r s'=>r.1=none/\s'=s/\((rest=[(.ref a1,.ref b1),(v1,v2)])\/(rest=[(v1,v2)]/\x.1=y.1)\/(rest=[]/\x=y)))
  _ ?_ ?_ _ _ ⟨rfl,rfl,.inl rfl⟩
 ·rintro⟨u,v⟩ rest r s' ⟨hr,rfl,e|⟨e,e1⟩|⟨e,_⟩⟩
  ·cases e;refine wpAny_bind (wpAny_eqBool_tuple hu ha1 hb1 ?_);by_cases hk:x.1=y.1
   ·rw[decide_eq_true hk];simp only[Bool.not_true,Bool.false_eq_true,if_false];exact wpAny_pure ⟨rfl,rfl,.inr (.inl ⟨by trivial,hk⟩)⟩
   ·rw[decide_eq_false hk];simp only[Bool.not_false,if_true];have hf:decide (x=y)=false:=decide_eq_false fun z=>hk (by rw[z]);rw[hf] at h;exact wpAny_bind (wpAny_pure (wpAny_pure (wpAny_pure h)))
  ·cases e;refine wpAny_bind ((mixKind P w).eqBool (a:=x.2) (b:=y.2) hv1 hv2 ?_);by_cases hk:x.2=y.2
   ·rw[decide_eq_true hk];simp only[Bool.not_true,Bool.false_eq_true,if_false];exact wpAny_pure ⟨rfl,rfl,.inr (.inr ⟨by trivial,Prod.ext e1 hk⟩)⟩
   ·rw[decide_eq_false hk];simp only[Bool.not_false,if_true];have hf:decide (x=y)=false:=decide_eq_false fun z=>hk (by rw[z]);rw[hf] at h;exact wpAny_bind (wpAny_pure (wpAny_pure (wpAny_pure h)))
  ·cases e
 ·rintro⟨r1,r2⟩ s' ⟨hr,rfl,e|⟨e,_⟩|⟨_,e⟩⟩
  ·cases e
  ·cases e
  simp only at hr;subst hr;refine wpAny_pure ?_;rw[decide_eq_true e] at h;exact h
theorem z9a{x y:List Key×Key}{a b:Addr}{Q:Bool->Shared->Prop}(hu:A.units+1<cLine)(hx:IsPairKey P w s.heap x a)(hy:IsPairKey P w s.heap y b)(h:Q (decide (x=y)) s):
  wpAny (model P w) A (eqBool (.ref a) (.ref b)) Q E s:=by
 unfold eqBool;try with_reducible refine wpAny_holding ?_
 show wpAny _ _ (if (Value.ref a==Value.ref b)=true then _ else _) Q E s;by_cases hab:(Value.ref a==Value.ref b)=true
 ·rw[if_pos hab];have e:a=b:=by have:=eq_of_beq hab;injection this
  subst e;obtain rfl:=hx.inj hy;exact wpAny_bind (wpAny_rule (wpAny_pure (by simpa using h)))
 ·rw[if_neg hab];exact wpAny_bind (wpAny_richCompare_same_room (op:=.Eq) hx.typeIs hy.typeIs F.slot_tuple_eq
   (wpAny_call_entry F.slot_tuple_eq hx.typeIs F.entry_tuple_eq (q8x (tupleKind_room_in1 (knd:=mixKind P w) hu) hx hy ⟨_,rfl,(fun e=>nomatch e),wpAny_truthy_bool h⟩) (F.args_tuple_eq_2 _ _)) (by lia))
theorem q9w{n:Nat}{ks:List Key}{a:Addr}{Q:Bool->Shared->Prop}(hk:IsTupleKey (mixKind P w) s.heap ks a)(h:Q true s):wpAny (model P w) A (eqIsQuiet (n+1) (.ref a)) Q E s:=by
 have hT:=hk.typeIs;obtain⟨o,items,m,ho,_,hd,hi⟩:=hk;unfold eqIsQuiet;refine wpAny_bind (wpAny_specialOf hT F.slot_tuple_eq.lookup ?_);show wpAny _ _ (isInstance (.ref a) (.type "tuple") >>= _) _ _ s;refine wpAny_bind (wpAny_isInstance hT isSubtype_tuple_tuple ?_);simp only[Bool.not_true,Bool.false_eq_true,if_false];refine wpAny_bind (wpAny_seqItems ho hd ?_);refine wpAny_bind ?_;show wpAny _ _ (forIn items _ _) _ _ s;rw[<- Array.forIn_toList];refine wpAny_forIn_list _ (fun rest r s'=>r.1=none/\s'=s/\∀v∈rest,carriedByValue v=true) _ ?_ ?_ _ _ ⟨rfl,rfl,hi.byValue⟩
 ·rintro v rest r s' ⟨hr,rfl,hall⟩;rw[eqIsQuiet_byValue _ (hall v List.mem_cons_self)];refine wpAny_bind (wpAny_pure ?_);simp only[Bool.not_true,Bool.false_eq_true,if_false];exact wpAny_pure ⟨rfl,rfl,fun u hu'=>hall u (List.mem_cons_of_mem _ hu')⟩
 ·rintro⟨r1,r2⟩ s' ⟨hr,rfl,_⟩;simp only at hr;subst hr;exact wpAny_pure h
theorem z2d{k:List Key×Key}{a:Addr}{Q:Bool->Shared->Prop}(hk:IsPairKey P w s.heap k a)(h:Q true s):wpAny (model P w) A (eqIsQuiet 8 (.ref a)) Q E s:=by
 have hT:=hk.typeIs;obtain⟨o,m,b,v,ho,_,hd,h1,h2⟩:=hk;unfold eqIsQuiet;refine wpAny_bind (wpAny_specialOf hT F.slot_tuple_eq.lookup ?_);show wpAny _ _ (isInstance (.ref a) (.type "tuple") >>= _) _ _ s;refine wpAny_bind (wpAny_isInstance hT isSubtype_tuple_tuple ?_);simp only[Bool.not_true,Bool.false_eq_true,if_false];refine wpAny_bind (wpAny_seqItems ho hd ?_);refine wpAny_bind ?_;show wpAny _ _ (forIn #[Value.ref b,v] _ _) _ _ s;rw[<- Array.forIn_toList];refine wpAny_forIn_list _ (fun rest r s'=>r.1=none/\s'=s/\(rest=[.ref b,v]\/rest=[v]\/rest=[])) _ ?_ ?_ _ _ ⟨rfl,rfl,.inl rfl⟩
 ·rintro u rest r s' ⟨hr,rfl,e|e|e⟩
  ·cases e;refine wpAny_bind (q9w h1 ?_);simp only[Bool.not_true,Bool.false_eq_true,if_false];exact wpAny_pure ⟨rfl,rfl,.inr (.inl (by trivial))⟩
  ·cases e;rw[eqIsQuiet_byValue _ ((mixKind P w).byValue _ _ h2)];refine wpAny_bind (wpAny_pure ?_);simp only[Bool.not_true,Bool.false_eq_true,if_false];exact wpAny_pure ⟨rfl,rfl,.inr (.inr (by trivial))⟩
  ·cases e
 ·rintro⟨r1,r2⟩ s' ⟨hr,rfl,_⟩;simp only at hr;subst hr;exact wpAny_pure h
def pairKind(P:Program)(w:World):HeapKind P w (List Key×Key) where
 is:=IsPairKey P w
 hash:=pairHash P w
 draws:=fun k=>k.1.length+3
 room:=fun A=>A.units+1<cLine
 inj:=fun hx hy=>hx.inj hy
 keeps:=fun x ho hd hs=>x.keeps ho hd hs
 pyHash:=fun hu hk h=>z4o hu hk h
 eqBool:=fun hu hx hy h=>z9a hu hx hy h
 quiet:=fun hk h=>z2d hk h
end
open PySem PySem.Spec PyProof.Rows
abbrev PKey:=List Key×Key
def hasP(ks:List (PKey×Addr))(k:PKey):Bool:=ks.any fun x=>decide (x.1=k)
def entP(ks:List (PKey×Addr)):List (PKey×Addr×Value):=ks.map fun x=>(x.1,x.2,.bool true)
def PdO(P:Program)(w:World)(d:Addr)(ks:List (PKey×Addr)):HO:=.ext fun h=>∃o es ep,h.get? d=some o/\o.ExactDict/\o.data=.dict es ep/\es.toList=(entP ks).map (entryOfKey (pairKind P w))/\((entP ks).map (·.1)).Nodup
def PrK(H:Hp)(k:PKey)(a:Addr):Prop:=∃c,H a=some (.tup [.ref c,kV k.2])/\H c=some (.tup (k.1.map kV))
structure DPr (P:Program) (w:World) (H:Hp) (d:Addr) (ks:List (PKey×Addr)):Prop where
 at_:H d=some (PdO P w d ks)
 sys:(d==sysModules)=false
 len:ks.length<=sizeLine
 pk:∀x∈ks,PrK H x.1 x.2
section
variable{P:Program}{w:World}{H:Hp}{h:Heap}{d a:Addr}{ks:List (PKey×Addr)}{k:PKey}
theorem PrK.of(ok:HOk P w H h)(e:PrK H k a):(pairKind P w).is h k a:=by
 obtain⟨c,e1,e2⟩:=e;obtain⟨_,its,r,o,h1,h2,n,h3⟩:=(show ObjOk P w H h a (.tup [.ref c,kV k.2]) from ok a _ e1)
 cases r with
 |cons r1 r =>
 cases r with
 |cons r2 r =>
 cases r;cases(show _=Value.ref c from r1);exact⟨o,n,c,_,h1,h2,h3,q4h ok e2,q9p r2⟩
theorem DPr.of(x:DPr P w H d ks)(ok:HOk P w H h):h.DictOfH (pairKind P w) d (entP ks):=by
 obtain⟨⟨o,es,ep,h1,h2,h3,h4,h5⟩,_⟩:=(show ObjOk P w H h d (PdO P w d ks) from ok d _ x.at_)
 refine⟨o,es,ep,h1,h2,h3,h4,fun y hy=>?_,h5⟩;obtain⟨z,hz,rfl⟩:=List.mem_map.mp hy;exact(x.pk z hz).of ok
theorem q6j:(atKey (entP ks) k).isSome=hasP ks k:=by
 unfold atKey entP hasP;rw[Option.isSome_map];induction ks with
 |nil=>rfl
 |cons x xs ih =>
  rw[List.map_cons,List.find?_cons,List.any_cons];cases e:decide (x.1=k)
  ·rw[<- ih];simp[e]
  ·simp[e]
end
theorem PrK.same{H H':Hp}{k:PKey}{a:Addr}(h:PrK H k a)(s:Same H H'):PrK H' k a:=let ⟨c,e1,e2⟩:=h;⟨c,s _ _ e1,s _ _ e2⟩
theorem DPr.same{P:Program}{w:World}{H H':Hp}{d:Addr}{ks:List (PKey×Addr)}(x:DPr P w H d ks)(s:Same H H'):DPr P w H' d ks:=⟨s _ _ x.at_,x.sys,x.len,fun y hy=>(x.pk y hy).same s⟩
theorem DPr.put{P:Program}{w:World}{H:Hp}{d b:Addr}{ks:List (PKey×Addr)}{k:PKey}(x:DPr P w H d ks)(e:PrK H k b)(l:ks.length<sizeLine):DPr P w (upd H d (PdO P w d (ks++[(k,b)]))) d (ks++[(k,b)]):=by
 have nt:∀{c:Addr} {ys:List V},H c=some (.tup ys)->upd H d (PdO P w d (ks++[(k,b)])) c=some (.tup ys):=fun{c ys} e=>by
  rw[q0c (fun z=>by rw[z,x.at_] at e;cases e)];exact e
 have pk:∀{k':PKey} {a:Addr},PrK H k' a->PrK (upd H d (PdO P w d (ks++[(k,b)]))) k' a:=fun⟨c,e1,e2⟩=>⟨c,nt e1,nt e2⟩
 refine⟨q0b,x.sys,by rw[List.length_append];exact l,fun y hy=>?_⟩;rcases List.mem_append.mp hy with hy|hy
 ·exact pk (x.pk y hy)
 ·rw[List.mem_singleton.mp hy];exact pk e
section
variable{X:Cx}
def tDNewP(P:Program)(w:World):TE:=fun _ H Q=>∀p,H p=none->(p==sysModules)=false->Q (.ref p) (upd H p (PdO P w p []))
theorem q7e{pos:Pos}(P:Program)(w:World)(hP:X.prog=P)(hw:X.w=w):PE X (.Dict [] [] pos) (tDNewP P w):=fun pins s σ H Q I h=>by
 subst hP hw;have hb:=I.big;have hs:(s.heap.objs.size==sysModules)=false:=by rw[beq_eq_false_iff_ne];exact Nat.ne_of_gt hb
 refine wpAny_Dict_empty ⟨.ref s.heap.objs.size,_,I.laid (o:=PdO X.prog X.w s.heap.objs.size []) (t':=s.toks) (fun _ _ q=>Heap.get?_push_of_some _ q) (Nat.le_refl _) ⟨⟨_,#[],0,Heap.get?_push_size _ rfl,⟨rfl,rfl,rfl⟩,rfl,rfl,List.nodup_nil⟩,⟨_,Heap.get?_push_size _ rfl⟩,fun h1 h2 ⟨o,es,ep,q1,q⟩ k=>⟨o,es,ep,k _ q1,q⟩⟩,rfl,h _ (I.hok.fresh (Nat.le_refl _)) hs⟩
def tPNotIn(P:Program)(w:World)(ty td:TE):TE:=fun σ H Q=>ty σ H fun y H1=>td σ H1 fun x H2=>∃d ks b k,x=.ref d/\y=.ref b/\DPr P w H2 d ks/\PrK H2 k b/\Q (.bl (!hasP ks k)) H2
theorem q8y{i o:Expr}{ty td:TE}(P:Program)(w:World)(hP:X.prog=P)(hw:X.w=w)(hu:X.A.units+2<cLine)(hi:PE X i ty)(ho:PE X o td):PC X .NotIn i o (tPNotIn P w ty td):=by
 subst hP hw;intro pins s σ H Q I h;refine thn (hi pins s σ H _ I h) fun iv s1 ⟨y,H1,I1,ry,q1⟩=>thn (ho pins s1 σ H1 _ I1 q1) fun u s2 ⟨x,H2,I2,rx,d,ks,b,k,ex,ey,dp,pk,q2⟩=>?_;subst ex ey;obtain rfl:u=Value.ref d:=rx;obtain rfl:iv=Value.ref b:=ry;refine wpAny_notIn_heap (knd:=pairKind X.prog X.w) hu (pk.of I2.hok) dp.sys (dp.of I2.hok) ?_;rw[q6j];exact⟨.bl (!hasP ks k),H2,I2.tok _,rfl,q2⟩
def sPPut(P:Program)(w:World)(td ty tv:TE):TS:=fun D σ H=>tv σ H fun v H1=>td σ H1 fun x H2=>ty σ H2 fun y H3=>∃d ks b k,x=.ref d/\y=.ref b/\v=.bl true/\DPr P w H3 d ks/\PrK H3 k b/\hasP ks k=false/\ks.length<sizeLine/\D.nx σ (upd H3 d (PdO P w d (ks++[(k,b)])))
theorem q9x{i o value:Expr}{td ty tv:TE}{pos pos':Pos}(P:Program)(w:World)(hP:X.prog=P)(hw:X.w=w)(hu:X.A.units+2<cLine)(ho:PE X o td)(hi:PE X i ty)(hv:PE X value tv)(hs:swapsWith value (some (.Subscript o i pos')) pos.line X.env=pure false):
  PS X (.Assign [.Subscript o i pos'] value pos) (sPPut P w td ty tv):=by
 subst hP hw;intro pins s σ H D I h;refine wpAny_Assign_Subscript (thn (hv pins s σ H _ I h) fun r s1 ⟨v,H1,I1,rv,q1⟩=>thn (ho pins s1 σ H1 _ I1 q1) fun u s2 ⟨x,H2,I2,rx,q2⟩=>thn (hi pins s2 σ H2 _ I2 q2) fun iv s3 ⟨y,H3,I3,ry,d,ks,b,k,ex,ey,ev,dp,pk,nk,lk,q3⟩=>?_) hs;subst ex ey ev;obtain rfl:u=Value.ref d:=rx;obtain rfl:iv=Value.ref b:=ry;obtain rfl:r=Value.bool true:=rv;refine wpAny_setItem_heap (knd:=pairKind X.prog X.w) hu (pk.of I3.hok) (dp.of I3.hok) (fun h' dd hs=>?_) (by unfold entP;rw[List.length_map];exact Nat.le_of_lt lk);have hn:atKey (entP ks) k=none:=by
  have:=q6j (ks:=ks) (k:=k);rw[nk] at this;cases e:atKey (entP ks) k with
  |none=>rfl
  |some _=>rw[e] at this;cases this
 rw[storedH_new hn] at dd;have ee:entP ks++[(k,b,Value.bool true)]=entP (ks++[(k,b)]):=by unfold entP;rw[List.map_append];rfl
 rw[ee] at dd;obtain⟨o,es,ep,e1,e2,e3,e4,_,e5⟩:=dd;refine⟨σ,_,I3.write (x:=d) (e:=d) (o:=PdO X.prog X.w d (ks++[(k,b)])) (by rw[dp.at_];exact True.intro) (.inl rfl) (fun c q hc z=>(hs.2 c hc).trans z) ⟨o,e1⟩ ⟨⟨o,es,ep,e1,e2,e3,e4,e5⟩,⟨o,e1⟩,fun h1 h2 ⟨o,es,ep,q1,q⟩ k=>⟨o,es,ep,k _ q1,q⟩⟩,q3⟩
end
theorem q5p{k:Nat}{A:Around}(hr:Room k A):A.units+2<cLine:=Nat.lt_of_le_of_lt (Nat.add_le_add_left (by decide:2<=64) _) hr.units
end L2
namespace SB
open PySem PyProof.Rows PySem.SeqAt
open AutoSeq1 (wpAny_loadPart')
open MeetsSeq MeetsSeq2 MeetsSeq3
theorem z6m(l:Addr)(items:Array Value)(n:Nat)(dd:Option Addr)(sl:Array (Option Value))(k:Nat):
  ∀i:Nat,items.size-i=k->Meets (Builtin.«list.__eq__.loop» ⟨[.ref l,.ref l,rawInt i,rawInt 0],[]⟩)
   (fun _ R s=>s.heap.get? l=some { cls:=.type "list",dict:=dd,data:=.seq items n,slots:=sl }/\R (.ok (.ret (.bool false))) s):=by
 induction k with
 |zero =>
  intro i hk prog w A R s h;obtain⟨hp,g,d,tk,os⟩:=s;obtain⟨hl,h⟩:=h
  wp_walk using wpAny_loadPart' hl
  have hi1:items[((i:Nat):Int).toNat]?=none:=by simp;lia
  rw[hi1]
  wp_walk using wpAny_loadPart' hl
  show R (.ok (.ret (.bool (decide (items.size<items.size))))) _;simpa using h
 |succ k ih =>
  intro i hk prog w A R s h;obtain⟨hp,g,d,tk,os⟩:=s;obtain⟨hl,h⟩:=h
  wp_walk using wpAny_loadPart' hl
  have hlt:i<items.size:=by lia
  have hi1:items[((i:Nat):Int).toNat]?=some items[i]:=by simp[hlt]
  have hc:((i:Int)+1)=((i+1:Nat):Int):=by push_cast;rfl
  rw[hi1];refine wpAny_bind (EqAt.same items[i] prog w _ _ ?_)
  wp_walk
  rw[hc];exact⟨plainId_quiet plain_eq_loop _,codeAny_builtin entry_eq_loop (by
   rw[Around.under_plainId plain_eq_loop _];exact ih (i+1) (by lia) prog w A R _ ⟨hl,h⟩)⟩
theorem z6n (l : Addr) (items : Array Value) (n : Nat) (dd : Option Addr) (sl : Array (Option Value)) : Meets (Builtin.«list.__lt__» ⟨[.ref l, .ref l], []⟩)
      (fun _ R s => s.heap.get? l = some { cls := .type "list", dict := dd, data := .seq items n, slots := sl } ∧ R (.ok (.ret (.bool false))) s) := by
  intro prog w A R s h;obtain ⟨hp, g, d, tk, os⟩ := s; obtain ⟨hl, h⟩ := h;have f3 := AutoSeq1.sub_list_list
  wp_walk using wpAny_loadPart' hl
  exact ⟨plainId_quiet plain_eq_loop _, codeAny_builtin entry_eq_loop (by
    rw [Around.under_plainId plain_eq_loop _];exact z6m l items n dd sl _ 0 rfl prog w A R _ ⟨hl, h⟩)⟩
theorem z6o (l b : Addr) (items items2 : Array Value) (n n2 : Nat) (dd dd2 : Option Addr) (sl sl2 : Array (Option Value)) {x y : Value} (hx : items[0]? = some x) (hy : items2[0]? = some y) (r : Bool) : Meets (Builtin.«list.__lt__» ⟨[.ref l, .ref b], []⟩)
      (fun A R s => s.heap.get? l = some { cls := .type "list", dict := dd, data := .seq items n, slots := sl } ∧ s.heap.get? b = some { cls := .type "list", dict := dd2, data := .seq items2 n2, slots := sl2 } ∧ EqAt A.in1 s x y false ∧
        (∀ (prog : Program) (w : World) (E : Value → Shared → Prop) (Q : Value → Shared → Prop), Q (.bool r) s → wpAny (model prog w) A.in1 (richCompare .Lt x y) Q E s) ∧ R (.ok (.ret (.bool r))) s) := by
  intro prog w A R s h;obtain ⟨hp, g, d, tk, os⟩ := s; obtain ⟨hl, hb, he, hc, h⟩ := h;have f3 := AutoSeq1.sub_list_list
  wp_walk using wpAny_loadPart' hl, wpAny_loadPart' hb
  refine ⟨plainId_quiet plain_eq_loop _, codeAny_builtin entry_eq_loop ?_⟩;rw [Around.under_plainId plain_eq_loop _];have go : ∀ i : Nat, i = 0 → wpAny (model prog w) A.in1 (Builtin.«list.__eq__.loop» ⟨[.ref l, .ref b, rawInt i, rawInt 0], []⟩) (fun fin s' => match fin with | .done f => R (.ok f) s' | .again c' => c'.quiet = true ∧ codeAny (model prog w) A c' R s') (fun e s' => R (.error e) s') ⟨hp, g, d, tk, os⟩ := fun i e0 => by
    wp_walk using wpAny_loadPart' hl, wpAny_loadPart' hb
    have hi1 : items[((i : Nat) : Int).toNat]? = some x := by rw [e0]; simpa using hx
    have hi2 : items2[((i : Nat) : Int).toNat]? = some y := by rw [e0]; simpa using hy
    rw [hi1, hi2];refine wpAny_bind (he prog w _ _ ?_)
    wp_walk using wpAny_loadPart' hl, wpAny_loadPart' hb
    rw [hi1, hi2];refine wpAny_bind (hc prog w _ _ ?_)
    wp_walk
    exact h
  exact go 0 rfl
section
variable{prog:Program}{w:World}{A:Around}{E:Value->Shared->Prop}{s:Shared}{x y:Value}{p q:Pth}
def HeadAt(h:Heap)(v:Value)(p:Pth):Prop:=∃a its k,v=.ref a/\h.IsList a its/\its[0]?=some k/\PathAt h k p
theorem HeadAt.keep{h h':Heap}{v:Value}{p:Pth}(x:HeadAt h v p)(k:∀b o,h.get? b=some o->h'.get? b=some o):HeadAt h' v p:=let ⟨a,its,z,e,⟨o,ho,r⟩,i,s⟩:=x;⟨a,its,z,e,⟨o,k _ _ ho,r⟩,i,s.keep k⟩
theorem HeadAt.inj{h:Heap}{v:Value}(h1:HeadAt h v p)(h2:HeadAt h v q):p=q:=by
 obtain⟨a,its,k,rfl,⟨o,ho,_,n,hd⟩,i1,s1⟩:=h1;obtain⟨a',its',k',e,⟨o',ho',_,n',hd'⟩,i2,s2⟩:=h2;cases e;obtain rfl:o=o':=Option.some.inj (ho.symm.trans ho');rw[hd] at hd';injection hd' with e1 _;subst e1;obtain rfl:k=k':=Option.some.inj (i1.symm.trans i2);exact s1.inj s2
theorem z4p{Q:Bool->Shared->Prop}(hx:HeadAt s.heap x p)(hy:HeadAt s.heap y q)(hxy:p=q->x=y)(lp:Low p)(lq:Low q)(hu:A.units+4<cLine)(h:Q (pLt p q) s):wpAny (model prog w) A (keyLt' oneType' x y) Q E s:=by
 obtain⟨l,its,k,rfl,hl,hk0,hk⟩:=hx;obtain⟨l2,its2,k2,rfl,hl2,hk02,hk2⟩:=hy;obtain⟨⟨cls,dd,data,sl⟩,ho,hc,n,hd⟩:=id hl;obtain⟨⟨cls2,dd2,data2,sl2⟩,ho2,hc2,n2,hd2⟩:=id hl2;simp only at hc hd hc2 hd2;subst hc hd hc2 hd2;rw[keyLt'_oneType,oneLt'_eq];simp only[if_true];refine wpAny_bind (wpAny_cRoomFor (by lia) ?_);refine wpAny_bind (wpAny_callSpecialIfBound?_slot (T := "list") ⟨_,ho,rfl⟩ PySem.F.slot_list_lt ?_);by_cases e:p=q
 ·have e1:=hxy e;cases e1;subst e;rw[q3h] at h;exact call_meets PySem.F.slot_list_lt ⟨_,ho,rfl⟩ PySem.F.entry_list_lt (PySem.F.args_list_lt_2 _ _) (z6n l its n dd sl) ⟨ho,show wpAny _ _ _ _ _ _ from wpAny_truthy_bool h⟩
 ·refine call_meets PySem.F.slot_list_lt ⟨_,ho,rfl⟩ PySem.F.entry_list_lt (PySem.F.args_list_lt_2 _ _) (z6o l l2 its its2 n n2 dd dd2 sl sl2 hk0 hk02 (pLt p q)) ⟨ho,ho2,?_,fun prog w E Q h'=>?_,show wpAny _ _ _ _ _ _ from wpAny_truthy_bool h⟩
  ·have:=z0w (A:=A.in1) hk hk2 lp lq (by show A.units+1+2<_;lia)
   rwa [decide_eq_false e] at this
  ·exact z0x hk hk2 (by show A.units+1<_;lia) h'
theorem z2e{vs:List Value}{Q:SortKind->Shared->Prop}(h2:2<=vs.length)(hf:∀v∈vs,∃a,v=.ref a/\s.TypeIs v "list")(h:Q oneType' s):wpAny (model prog w) A (keyKind' vs.toArray) Q E s:=by
 rw[keyKind'_eq,List.mapM_toArray];refine wpAny_bind (wpAny_bind (q5l (g:=fun _=>none) vs (fun v hv Q' h'=>?_) (wpAny_pure ?_)))
 ·obtain⟨a,rfl,hT⟩:=hf v hv;refine wpAny_bind (m:=typeOf (.ref a)) (wpAny_typeOf (T := "list") hT ?_);have e:(Value.type "list" != Value.type "tuple")=true:=by decide
  rw[e];simp only[if_true];exact wpAny_pure h'
 ·cases vs with
  |nil=>simp at h2
  |cons v vs =>
   rw[if_neg (by simp),if_neg (by simp)];rw[oneTypeOnly'_eq,List.mapM_toArray];refine wpAny_bind (wpAny_bind (wpAny_bind (q5l (g:=fun _=>Value.type "list") (v::vs) (fun x hx Q' h'=>?_) (wpAny_pure ?_))))
   ·obtain⟨a,rfl,hT⟩:=hf x hx;exact wpAny_typeOf (T := "list") hT h'
   ·have e0:((v::vs).map fun _=>Value.type "list").toArray[0]?=some (Value.type "list"):=by simp
    have ea:(((v::vs).map fun _=>Value.type "list").toArray.all fun x=>x==Value.type "list")=true:=by simp
    rw[e0];dsimp only;rw[ea];simp only[if_true];exact wpAny_pure (wpAny_pure (by simpa using h))
theorem ready_lists{ps:List Pth}{vs:List Value}{h:Heap}(few:vs.length<64)(hp:∀v∈vs,∃p∈ps,Low p/\HeadAt h v p)(hi:∀u∈vs,∀v∈vs,∀p,HeadAt h u p->HeadAt h v p->u=v)(hu:A.units+16<cLine):
  Ready prog w A vs h oneType' (fun v=>v∈vs) (fun v=>(pRank ps (keyBy (HeadAt h) v):Int)) where
 few:=few
 all:=fun v hv=>hv
 kind:=fun h2 A' s' E Q _ k q=>by
  refine z2e h2 (fun v hv=>?_) q;obtain⟨p,_,_,x⟩:=hp v hv;obtain⟨a,its,z,rfl,⟨o,ho,hc,n,hd⟩,_,_⟩:=x.keep k;exact⟨a,rfl,o,ho,hc⟩
 tells:=fun A' s' hA k E x y Q hx hy h'=>by
  obtain⟨p,hp1,lp,x1⟩:=hp x hx;obtain⟨q,hq1,lq,y1⟩:=hp y hy;refine z4p (x1.keep k) (y1.keep k) (fun e=>by subst e;exact hi x hx y hy _ x1 y1) lp lq (by lia) ?_;have hK:∀v p q,HeadAt h v p->HeadAt h v q->p=q:=fun v p q a b=>a.inj b
  have e1:=q2e hK x1;have e2:=q2e hK y1;rw[q6z hp1 hq1,<- e1,<- e2];exact h'
end
end SB
namespace L2
open PySem PySem.Spec PyProof.Rows SB
def HdL(H:Hp)(a:Addr)(p:Pth):Prop:=∃b rest,H a=some (.lst (.ref b::rest))/\H b=some (.tup (vP p))
def rSortH:List V->Hp->VK->Prop:=fun vs H Q=>∃(α:Type) (f:α->Pth) (l:Addr) (zs:List (Addr×α)),vs=[.ref l]/\H l=some (.lst (zs.map fun z=>V.ref z.1))/\zs.length<64/\(∀z∈zs,HdL H z.1 (f z.2)/\Low (f z.2))/\(zs.map fun z=>f z.2).Nodup /\
 ∀(L:Addr) (zs':List (Addr×α)),H L=none->zs'.Perm zs->(zs'.map fun z=>f z.2).Pairwise (fun a b=>pLt b a=false)->Q (.ref L) (upd H L (.lst (zs'.map fun z=>V.ref z.1)))
theorem z4q{α:Type}:∀{zs:List (Addr×α)} {us:List Value},Vals (zs.map fun z=>V.ref z.1) us->us=zs.map fun z=>Value.ref z.1
 |[],_,.nil=>rfl
 |z::zs,_,.cons r t=>by cases r;rw[z4q t];rfl
theorem q6k{α:Type}:∀(zs:List (Addr×α)),Vals (zs.map fun z=>V.ref z.1) (zs.map fun z=>Value.ref z.1)
 |[]=>.nil
 |z::zs=>.cons rfl (q6k zs)
theorem z2f(hr:Room k X.A):CallR X (.builtin "sorted") rSortH:=by
 intro pins s σ H xs us Q I rv h;obtain⟨α,f,l,zs,rfl,hl,few,hz,nd,q⟩:=h;obtain⟨u,rfl,ru⟩:=rv.one;cases ru;obtain⟨its,rv2,hil⟩:=q7a I hl;have e1:=z4q rv2;subst e1;refine SB.sorted_ok fun{Q'} kk=>?_;refine PyProof.Rows.collect_list hil ?_;have kh:∀b o,s.heap.get? b=some o->((s.heap.push (seqObj "list" #[] 0)).update s.heap.objs.size (Obj.mapSeq (· ++ (zs.map fun z=>Value.ref z.1).toArray))).get? b=some o:=fun b o e=>by
  rw[(Heap.SameBut.update ..).2 b (Nat.ne_of_lt (Heap.lt_size e))];exact Heap.get?_push_of_some _ e
 have hz2:s.heap.objs.size<=((s.heap.push (seqObj "list" #[] 0)).update s.heap.objs.size (Obj.mapSeq (· ++ (zs.map fun z=>Value.ref z.1).toArray))).objs.size:=by simp_all
 generalize (s.heap.push (seqObj "list" #[] 0)).update s.heap.objs.size (Obj.mapSeq (· ++ (zs.map fun z=>Value.ref z.1).toArray))=h at kh hz2;have hpa:∀{z:Addr×α},z∈zs->HeadAt h (.ref z.1) (f z.2):=fun{z} hzm=>by
  obtain⟨b,rest,h1,h2⟩:=(hz z hzm).1;obtain⟨its2,r,ht⟩:=q7a I h1;cases r with
  |cons r1 r =>
  cases(show _=Value.ref b from r1);obtain⟨o,ho,hrest⟩:=ht;exact⟨z.1,_,.ref b,rfl,⟨o,kh _ _ ho,hrest⟩,rfl,(I.path h2).keep kh⟩
 have hacc:∀{w:Value},w∈zs.map (fun z=>Value.ref z.1)->∃x∈zs,w=.ref x.1:=fun{w} hw=>by
  obtain⟨x,hx,rfl⟩:=List.mem_map.mp hw;exact⟨x,hx,rfl⟩
 refine kk (zs.map fun z=>Value.ref z.1) h s.toks _ _ _ (SB.ready_lists (ps:=zs.map fun z=>f z.2) (by rw[List.length_map];exact few) (fun w hw=>?_) (fun w hw y hy p hp1 hp2=>?_) (by have:=hr.un;lia)) fun h' out so kh' ⟨e,he⟩=>?_
 ·obtain⟨x,hx,rfl⟩:=hacc hw;exact⟨_,List.mem_map.mpr ⟨x,hx,rfl⟩,(hz x hx).2,hpa hx⟩
 ·obtain⟨x,hx,rfl⟩:=hacc hw;obtain⟨x2,hx2,rfl⟩:=hacc hy;rw[q0w (f:=fun z=>f z.2) nd hx hx2 ((hp1.inj (hpa hx)).symm.trans (hp2.inj (hpa hx2)))]
 obtain⟨zs',p1,p2⟩:=SB.perm_map_inv so.perm rfl;have hrise:=so.rise;rw[p2] at hrise;have hps:=SB.rise_paths (K:=HeadAt h) (f:=fun z:Addr×α=>f z.2) (fun w a b x y=>SB.HeadAt.inj x y) (fun z hzz=>by
  have hzm:=p1.mem_iff.mp hzz;exact⟨hpa hzm,List.mem_map.mpr ⟨_,hzm,rfl⟩⟩) hrise
 have keep:=fun b o z=>kh' b o (kh b o z);have hfr:=I.hok.fresh hz2;refine⟨.ref h.objs.size,upd H h.objs.size (.lst (zs'.map fun z=>V.ref z.1)),I.laid (t':=s.toks) keep hz2 ⟨by rw[List.length_map,p1.length_eq,sizeLine_eq];lia,_,e,q6k _,?_⟩,rfl,q _ zs' hfr p1 hps⟩;rw[he,<- p2]
abbrev PVal:=PKey×Addr×Addr
def entV(ks:List PVal):List (PKey×Addr×Value):=ks.map fun x=>(x.1,x.2.1,.ref x.2.2)
def valP(ks:List PVal)(k:PKey):Option Addr:=(ks.find? fun x=>decide (x.1=k)).map (·.2.2)
def PvO(P:Program)(w:World)(d:Addr)(ks:List PVal):HO:=.ext fun h=>∃o es ep,h.get? d=some o/\o.ExactDict/\o.data=.dict es ep/\es.toList=(entV ks).map (entryOfKey (pairKind P w))/\((entV ks).map (·.1)).Nodup
structure DPv (P:Program) (w:World) (H:Hp) (d:Addr) (ks:List PVal):Prop where
 at_:H d=some (PvO P w d ks)
 sys:(d==sysModules)=false
 len:ks.length<=sizeLine
 pk:∀x∈ks,PrK H x.1 x.2.1
section
variable{P:Program}{w:World}{H:Hp}{h:Heap}{d a:Addr}{ks:List PVal}{k:PKey}
theorem DPv.of(x:DPv P w H d ks)(ok:HOk P w H h):h.DictOfH (pairKind P w) d (entV ks):=by
 obtain⟨⟨o,es,ep,h1,h2,h3,h4,h5⟩,_⟩:=(show ObjOk P w H h d (PvO P w d ks) from ok d _ x.at_)
 refine⟨o,es,ep,h1,h2,h3,h4,fun y hy=>?_,h5⟩;obtain⟨z,hz,rfl⟩:=List.mem_map.mp hy;exact(x.pk z hz).of ok
theorem q6l:(atKey (entV ks) k).map (·.2)=(valP ks k).map Value.ref:=by
 unfold atKey entV valP;induction ks with
 |nil=>rfl
 |cons x xs ih =>
  rw[List.map_cons,List.find?_cons,List.find?_cons];cases e:decide (x.1=k)
  ·simp only[e];exact ih
  ·simp[e]
end
theorem DPv.same{P:Program}{w:World}{H H':Hp}{d:Addr}{ks:List PVal}(x:DPv P w H d ks)(s:Same H H'):DPv P w H' d ks:=⟨s _ _ x.at_,x.sys,x.len,fun y hy=>(x.pk y hy).same s⟩
theorem DPv.put{P:Program}{w:World}{H:Hp}{d b v:Addr}{ks:List PVal}{k:PKey}(x:DPv P w H d ks)(e:PrK H k b)(l:ks.length<sizeLine):DPv P w (upd H d (PvO P w d (ks++[(k,b,v)]))) d (ks++[(k,b,v)]):=by
 have nt:∀{c:Addr} {ys:List V},H c=some (.tup ys)->upd H d (PvO P w d (ks++[(k,b,v)])) c=some (.tup ys):=fun{c ys} e=>by
  rw[q0c (fun z=>by rw[z,x.at_] at e;cases e)];exact e
 have pk:∀{k':PKey} {a:Addr},PrK H k' a->PrK (upd H d (PvO P w d (ks++[(k,b,v)]))) k' a:=fun⟨c,e1,e2⟩=>⟨c,nt e1,nt e2⟩
 refine⟨q0b,x.sys,by rw[List.length_append];exact l,fun y hy=>?_⟩;rcases List.mem_append.mp hy with hy|hy
 ·exact pk (x.pk y hy)
 ·rw[List.mem_singleton.mp hy];exact pk e
section
variable{X:Cx}
def sPPutV(P:Program)(w:World)(td ty tv:TE):TS:=fun D σ H=>tv σ H fun v H1=>td σ H1 fun x H2=>ty σ H2 fun y H3=>∃d ks b k e,x=.ref d/\y=.ref b/\v=.ref e/\DPv P w H3 d ks/\PrK H3 k b/\valP ks k=none/\ks.length<sizeLine/\D.nx σ (upd H3 d (PvO P w d (ks++[(k,b,e)])))
theorem z6p{i o value:Expr}{td ty tv:TE}{pos pos':Pos}(P:Program)(w:World)(hP:X.prog=P)(hw:X.w=w)(hu:X.A.units+2<cLine)(ho:PE X o td)(hi:PE X i ty)(hv:PE X value tv)(hs:swapsWith value (some (.Subscript o i pos')) pos.line X.env=pure false):
  PS X (.Assign [.Subscript o i pos'] value pos) (sPPutV P w td ty tv):=by
 subst hP hw;intro pins s σ H D I h;refine wpAny_Assign_Subscript (thn (hv pins s σ H _ I h) fun r s1 ⟨v,H1,I1,rv,q1⟩=>thn (ho pins s1 σ H1 _ I1 q1) fun u s2 ⟨x,H2,I2,rx,q2⟩=>thn (hi pins s2 σ H2 _ I2 q2) fun iv s3 ⟨y,H3,I3,ry,d,ks,b,k,e,ex,ey,ev,dp,pk,nk,lk,q3⟩=>?_) hs;subst ex ey ev;obtain rfl:u=Value.ref d:=rx;obtain rfl:iv=Value.ref b:=ry;obtain rfl:r=Value.ref e:=rv;refine wpAny_setItem_heap (knd:=pairKind X.prog X.w) hu (pk.of I3.hok) (dp.of I3.hok) (fun h' dd hs=>?_) (by unfold entV;rw[List.length_map];exact Nat.le_of_lt lk);have hn:atKey (entV ks) k=none:=by
  have:=q6l (ks:=ks) (k:=k);rw[nk] at this;exact Option.map_eq_none_iff.mp this
 rw[storedH_new hn] at dd;have ee:entV ks++[(k,b,Value.ref e)]=entV (ks++[(k,b,e)]):=by unfold entV;rw[List.map_append];rfl
 rw[ee] at dd;obtain⟨o,es,ep,e1,e2,e3,e4,_,e5⟩:=dd;refine⟨σ,_,I3.write (x:=d) (e:=d) (o:=PvO X.prog X.w d (ks++[(k,b,e)])) (by rw[dp.at_];exact True.intro) (.inl rfl) (fun c q hc z=>(hs.2 c hc).trans z) ⟨o,e1⟩ ⟨⟨o,es,ep,e1,e2,e3,e4,e5⟩,⟨o,e1⟩,fun h1 h2 ⟨o,es,ep,q1,q⟩ k=>⟨o,es,ep,k _ q1,q⟩⟩,q3⟩
def tPGet(P:Program)(w:World)(td ty:TE):TE:=fun σ H Q=>td σ H fun x H1=>∃d ks,x=.ref d/\DPv P w H1 d ks/\ty σ H1 fun y H2=>∃b k,y=.ref b/\DPv P w H2 d ks/\PrK H2 k b/\Q (match valP ks k with|some e=>.ref e|none=>.non) H2
theorem z9b{o e:Expr}{apos cpos:Pos}{td ty:TE}(P:Program)(w:World)(hP:X.prog=P)(hw:X.w=w)(hu:X.A.units+2<cLine)(ho:PE X o td)(he:PE X e ty)(m:M1 X o "get" apos e cpos):PE X (.Call (.Attribute o "get" apos) [e] [] cpos) (tPGet P w td ty):=by
 subst hP hw;intro pins s σ H Q I h;refine wpAny_Call_method m.base m.few m.line PySem.F.plainAttrs_dict PySem.F.slot_dict_get PySem.F.type_dict_get (thn (ho pins s σ H _ I h) fun u s1 ⟨x,H1,I1,rx,d,ks,ex,dp,q1⟩=>?_);subst ex;obtain rfl:u=Value.ref d:=rx;have dd:=dp.of I1.hok;refine⟨dd.typeIs,fun b q=>?_,?_⟩
 ·cases q;obtain⟨ob,_,_,h1,h2,_⟩:=dd;exact⟨ob,h1,h2.2.1⟩
 rw[m.trees];refine Calls.callWith_builtin rfl (Calls.evalArgs_plain (Calls.spliced_cons (thn (he pins s1 σ H1 _ I1 q1) fun iv s2 ⟨y,H2,I2,ry,b,k,ey,dp2,pk,q2⟩=>Calls.spliced_nil ?_)));subst ey;obtain rfl:iv=Value.ref b:=ry;have dd2:=dp2.of I2.hok;refine call_meetsIn PySem.F.slot_dict_get dd2.typeIs PySem.F.entry_dict_get (PySem.F.args_dict_get_2 _ _) (meetsH_dict_get (pairKind X.prog X.w) d b dp2.sys) ⟨hu,k,entV ks,pk.of I2.hok,dd2,?_⟩;show EP X pins σ Q (((atKey (entV ks) k).map (·.2)).getD Value.none) _;rw[q6l];refine⟨_,H2,I2.tok _,?_,q2⟩;cases valP ks k<;>rfl
end
end L2
namespace HM
open PySem PySem.Spec PyProof.Rows L2 TX SB
def vO:Option Zp->V
 |none=>.non
 |some z=>.ref z.1
def uO:Option Zp->Value
 |none=>.none
 |some z=>.ref z.1
theorem z4r:∀{os:List (Option Zp)} {us:List Value},Vals (os.map vO) us->us=os.map uO
 |[],_,.nil=>rfl
 |none::os,_,.cons r t=>by cases r;rw[z4r t];rfl
 |some z::os,_,.cons r t=>by cases r;rw[z4r t];rfl
def hasO(os:List (Option Zp))(q:Pth):Bool:=os.any fun o=>decide (o.map (·.2)=some q)
def rInO(neg:Bool):R2:=fun x y H Q=>∃(p L:Addr) (os:List (Option Zp)) (q:Pth),x=.ref p/\y=.ref L/\H L=some (.lst (os.map vO))/\H p=some (.tup (vP q))/\Low q/\(∀z,some z∈os->H z.1=some (.tup (vP z.2))/\Low z.2)/\Q (.bl (if neg then !hasO os q else hasO os q)) H
section
variable{X:Cx}{k:Nat}
theorem any_eO{os:List (Option Zp)}{H:Hp}{q:Pth}(h:∀z,some z∈os->H z.1=some (.tup (vP z.2))/\Low z.2):(os.map uO).toArray.any (eR H q)=hasO os q:=by
 rw[show(os.map uO).toArray.any (eR H q)=(os.map uO).any (eR H q) by simp,List.any_map];unfold hasO;induction os with
 |nil=>rfl
 |cons o os ih =>
  rw[List.any_cons,List.any_cons,ih fun z hz=>h z (List.mem_cons_of_mem _ hz)];congr 1;cases o with
  |none=>simp[uO,eR]
  |some z =>
   show inP H q z.1=_;rw[q8w (h z List.mem_cons_self).1];exact decide_eq_decide.mpr ⟨fun e=>by rw[<- e];rfl,fun e=>Option.some.inj e⟩
theorem eqAt_O(hr:Room k X.A){σ:L2.St}(I:Inv X pins σ H s){os:List (Option Zp)}(hp:H p=some (.tup (vP q)))(lq:Low q)(hb:∀z,some z∈os->H z.1=some (.tup (vP z.2))/\Low z.2):
  ∀w∈(os.map uO).toArray,SeqAt.EqAt X.A.in1 s w (.ref p) (eR H q w):=fun w hw=>by
 obtain⟨o,ho,rfl⟩:∃o∈os,w=uO o:=by
  have:w∈os.map uO:=by grind
  obtain⟨b,h1,h2⟩:=List.mem_map.mp this;exact⟨b,h1,h2.symm⟩
 obtain⟨as2,r2⟩:=(q1m hp).reads I rfl;have hu:=hr.un;cases o with
 |none =>
  obtain⟨as,r1⟩:=(Dt.non (K:=X.K) (H:=H)).reads I rfl;have e:=SeqAt.eqAt_reads _ _ X.A.in1 s _ _ _ _ r1 r2 rfl (q2c lq) (by simp only[PyData.depth];show X.A.units+1+_<_;lia);simp only[PyData.eqv] at e;exact e
 |some z =>
  obtain⟨hr1,lr⟩:=hb z ho;obtain⟨as,r1⟩:=(q1m hr1).reads I rfl;have hd:=q3w z.2;have e:=SeqAt.eqAt_reads _ _ X.A.in1 s _ _ _ _ r1 r2 (q2c lr) (q2c lq) (by show X.A.units+1+_<_;lia);rw[q3x] at e;show SeqAt.EqAt X.A.in1 s (.ref z.1) (.ref p) (inP H q z.1);rw[q8w hr1];exact e
theorem nin_O(hr:Room k X.A):OpR X (compareOp .NotIn) (rInO true):=by
 intro pins s σ H x y v u Q I rx ry h;obtain⟨p,L,os,q,rfl,rfl,hL,hp,lq,hb,qq⟩:=h;cases rx;cases ry;obtain⟨its,r,pl,hz⟩:=I.list (SqL.of hL);obtain rfl:=z4r r;exact SeqAt.notIn_listAt (eR H q) pl.isList (eqAt_O hr I hp lq hb) ⟨.bl _,H,I,rfl,by rw[any_eO hb];exact qq⟩
end
end HM
namespace PySem.Rv
open Sem (wp)
section
variable{prog:Program}{w:World}{A:Around}{E:Value->Shared->Prop}{s:Shared}{it d v:Addr}{i ep:Nat}{dob:Obj}{ens:Array DictEntry}
abbrev valObj(d:Addr)(n ep:Nat):Obj:={ cls:=.type "dict_valueiterator",data:=.fields #[.ref d,.int 0 0,.int n 0,.int ep 0] }
theorem q9y(hv:s.heap.IsValuesView v d)(hdo:s.heap.get? d=some dob)(hda:dob.data=.dict ens ep)(hQ:Q (.ref s.heap.objs.size) { s with heap:=s.heap.push (valObj d ens.size ep) }):wpAny (model prog w) A (pyIter (.ref v)) Q E s:=by
 obtain⟨ov,hov,hcv,hdv⟩:=id hv;refine wpAny_pyIter_slot hv.typeIs F.slot_dict_values_iter (wpAny_call_entry F.slot_dict_values_iter hv.typeIs F.entry_dict_values_iter ?_ (F.args_dict_values_iter_1 _));unfold Builtin.«dict_values.__iter__»;refine wpAny_bind (wpAny_pure (wpAny_bind ?_));unfold Builtin.Dict_items.dictOf;refine wpAny_bind (wpAny_field hov hdv (x:=.ref d) rfl (wpAny_pure (wpAny_bind ?_)));unfold Builtin.Dict_items.newIterator;refine wpAny_bind (wpAny_dictEntries hdo hda (wpAny_bind (wpAny_dictEpoch hdo hda ?_)));simp only[show Builtin.Dict_items.ownsTuple "dict_valueiterator" = false from by decide,Bool.false_eq_true,if_false];refine wpAny_newObj_type (wpAny_pure ⟨_,rfl, "dict_valueiterator",_,⟨_,Heap.get?_push_size _ rfl,rfl⟩,F.slot_dict_valueiterator_next.lookup,?_⟩);simpa[rawInt,valObj] using hQ
theorem q9z(x:s.heap.IsValIter it d i ens.size ep)(hdo:s.heap.get? d=some dob)(hda:dob.data=.dict ens ep)(hlt:i<ens.size)(hQ:∀h',h'.IsValIter it d (i+1) ens.size ep->Heap.SameBut it s.heap h'->Q (some ens[i].val) { s with heap:=h' }):wpAny (model prog w) A (pyNext (.ref it)) Q E s:=by
 obtain⟨o,ho,hc,hd⟩:=id x;refine wpAny_bind (wpAny_attempt (wpAny_callSpecial?_slot (name:=Str.ofString "__next__") x.typeIs F.slot_dict_valueiterator_next (wpAny_call_entry F.slot_dict_valueiterator_next x.typeIs F.entry_dict_valueiterator_next ?_ (F.args_dict_valueiterator_next_1 _))));refine wpAny_bind (wpAny_pure (wpAny_bind (wpAny_bind ?_)));first|refine wpAny_bind (wpAny_typeNameOfWhole_valiter x.typeIs (wpAny_pure ?_))|refine wpAny_bind (wpAny_typeNameOf_valiter x.typeIs (wpAny_pure ?_))
 refine wpAny_bind (wpAny_fieldsOf ho hd ?_);simp only[show Builtin.Dict_items.ownsTuple "dict_valueiterator" = false from by decide,Bool.false_eq_true,if_false];show wpAny _ _ (if (Value.ref d==Value.none)=true then _ else _) _ _ s;rw[if_neg (show ¬((Value.ref d==Value.none)=true) from Bool.false_ne_true)];refine wpAny_bind (wpAny_pure (wpAny_bind (wpAny_dictEntries hdo hda ?_)));rw[if_neg (by simp)];refine wpAny_bind (wpAny_pure (wpAny_bind (wpAny_dictEpoch hdo hda ?_)));rw[if_neg (by simp)];refine wpAny_pure ?_;simp only[show ¬((i:Int)<0) from by lia,if_false,Int.toNat_natCast,Array.getElem?_eq_getElem hlt];refine wpAny_bind ?_;first|refine wpAny_bind (wpAny_typeNameOfWhole_valiter x.typeIs (wpAny_pure ?_))|refine wpAny_bind (wpAny_typeNameOf_valiter x.typeIs (wpAny_pure ?_))
 refine wpAny_bind (wpAny_isOneOf_valiter x.typeIs ?_);show wpAny _ _ (setField (.ref it) 1 (rawInt ((i:Int)+1)) >>= _) _ _ s;refine wpAny_bind (wpAny_setField ho hd (by simp) ?_);have x':(s.heap.update it (Obj.mapFields (·.setIfInBounds 1 (rawInt ((i:Int)+1))))).IsValIter it d (i+1) ens.size ep:=⟨_,Heap.get?_update_self _ ho (Obj.isFreed_of_fields (Obj.data_mapFields hd _)),(Obj.cls_mapFields ..).trans hc,by rw[Obj.data_mapFields hd];simp[rawInt]⟩
 refine wpAny_bind (wpAny_holding (wpAny_bind (wpAny_isOneOf_valiter (s:={ s with heap:=s.heap.update it (Obj.mapFields (·.setIfInBounds 1 (rawInt ((i:Int)+1)))) }) x'.typeIs ?_)));refine wpAny_bind (wpAny_isOneOf_valiter (s:={ s with heap:=s.heap.update it (Obj.mapFields (·.setIfInBounds 1 (rawInt ((i:Int)+1)))) }) x'.typeIs ?_);exact wpAny_pure (wpAny_pure ⟨_,rfl,wpAny_pure (hQ _ x' (Heap.SameBut.update ..))⟩)
theorem z2g(hh:A.handled=none)(x:s.heap.IsValIter it d i ens.size ep)(hdo:s.heap.get? d=some dob)(hda:dob.data=.dict ens ep)(hge:ens.size<=i)(hQ:∀h',Heap.ExtBut it s.heap h'->Q none { s with heap:=h' }):wpAny (model prog w) A (pyNext (.ref it)) Q E s:=by
 obtain⟨o,ho,hc,hd⟩:=id x;refine wpAny_bind (wpAny_attempt (wpAny_callSpecial?_slot (name:=Str.ofString "__next__") x.typeIs F.slot_dict_valueiterator_next (wpAny_call_entry F.slot_dict_valueiterator_next x.typeIs F.entry_dict_valueiterator_next ?_ (F.args_dict_valueiterator_next_1 _))));refine wpAny_bind (wpAny_pure (wpAny_bind (wpAny_bind ?_)));first|refine wpAny_bind (wpAny_typeNameOfWhole_valiter x.typeIs (wpAny_pure ?_))|refine wpAny_bind (wpAny_typeNameOf_valiter x.typeIs (wpAny_pure ?_))
 refine wpAny_bind (wpAny_fieldsOf ho hd ?_);simp only[show Builtin.Dict_items.ownsTuple "dict_valueiterator" = false from by decide,Bool.false_eq_true,if_false];show wpAny _ _ (if (Value.ref d==Value.none)=true then _ else _) _ _ s;rw[if_neg (show ¬((Value.ref d==Value.none)=true) from Bool.false_ne_true)];refine wpAny_bind (wpAny_pure (wpAny_bind (wpAny_dictEntries hdo hda ?_)));rw[if_neg (by simp)];refine wpAny_bind (wpAny_pure (wpAny_bind (wpAny_dictEpoch hdo hda ?_)));rw[if_neg (by simp)];refine wpAny_pure ?_;simp only[show ¬((i:Int)<0) from by lia,if_false,Int.toNat_natCast,Array.getElem?_eq_none hge];refine wpAny_bind ?_;first|refine wpAny_bind (wpAny_typeNameOfWhole_valiter x.typeIs (wpAny_pure ?_))|refine wpAny_bind (wpAny_typeNameOf_valiter x.typeIs (wpAny_pure ?_))
 show wpAny _ _ (setField (.ref it) 0 .none >>= _) _ _ s;refine wpAny_bind (wpAny_setField ho hd (by simp) ?_);show wpAny _ _ (newExc (.type "StopIteration") [] >>= _) _ _ _;refine wpAny_bind ?_;simp only[newExc,newTuple];refine wpAny_bind (wpAny_newObj_type (wpAny_bind (m:=firstArgMember _ _) (wpAny_of_eq (a:=Value.none) (by first|rfl|(simp only[firstArgMember];rfl)) ?_)) (by size_fits));refine wpAny_newObj_type ?_ (by size_fits);simp only[raiseNew];refine wpAny_bind (wpAny_handled ?_);rw[show A.in1.handled=none from hh];refine wpAny_bind (wpAny_pure (wpAny_throw ?_));refine wpAny_bind (wpAny_isInstance (T := "StopIteration") (b:=true) ⟨_,Heap.get?_push_size _ rfl,rfl⟩ isSubtype_stop ?_);exact wpAny_pure (hQ _ (((Heap.SameBut.update ..).extBut.push _).push _))
theorem list_values(hh:A.handled=none)(hv:s.heap.IsValuesView v d)(hdo:s.heap.get? d=some dob)(hda:dob.data=.dict ens ep)(hn:ens.size<=1000)(hQ:∀h' c',(∀b o,s.heap.get? b=some o->h'.get? b=some o)->h'.get? s.heap.objs.size=some { cls:=.type "list",data:=.seq (ens.map (·.val)) c' }->Q (.ref s.heap.objs.size) { s with heap:=h' }):
  wpAny (model prog w) A (call (.type "list") [.ref v]) Q E s:=by
 refine callType_codes (Q₁:=fun obj s₁=>obj=.ref s.heap.objs.size/\s₁={ s with heap:=s.heap.push { cls:=.type "list",data:=.seq #[] } }) F.called_list (F.typeCall_list_1 _) F.entry_list_init (code_list_new _ ⟨rfl,rfl⟩) fun obj s₁ h₁=>?_;obtain⟨rfl,rfl⟩:=h₁;generalize hS0:s.heap.objs.size=S at hQ;have hg:(s.heap.push { cls:=.type "list",data:=.seq #[] }).get? S=some { cls:=.type "list",data:=.seq #[] }:=by rw[<- hS0];exact Heap.get?_push_size _ rfl
 have kg:∀b o,s.heap.get? b=some o->(s.heap.push { cls:=.type "list",data:=.seq #[] }).get? b=some o:=fun b o e=>Heap.get?_push_of_some _ e;have gz:(s.heap.push { cls:=.type "list",data:=.seq #[] }).objs.size=S+1:=by rw[<- hS0];exact Heap.size_push _ _
 generalize s.heap.push { cls:=.type "list",data:=.seq #[] }=g at hg kg gz;refine⟨⟨_,hg,rfl⟩,F.args_list_init_2 _ _,?_⟩;show wpAny _ _ (do let old<-Builtin.List.listItems (.ref S);Builtin.List.listUpdate (.ref S) (fun _=>#[]);letGo old.toList.reverse;Builtin.List.listExtendWith (.ref S) (.ref v) .none) _ _ _;refine wpAny_bind ?_;unfold Builtin.List.listItems;refine wpAny_bind (wpAny_seqItems hg rfl (wpAny_pure ?_));show wpAny _ _ (updateSeq S (fun _=>#[]) >>= fun _=>letGo (#[]:Array Value).toList.reverse >>= fun _=>Builtin.List.listExtendWith (.ref S) (.ref v) .none) _ _ _;refine wpAny_bind (wpAny_updateSeq hg rfl (wpAny_bind (wpAny_letGo ?_)));have old:∀{b:Addr} {o:Obj},s.heap.get? b=some o->b≠S:=fun{b o} e=>by rw[<- hS0];exact Nat.ne_of_lt (Heap.lt_size e)
 have hg2:=PyProof.Rows.get?_update_seq hg (fun _=>(#[]:Array Value));have kg2:∀b o,s.heap.get? b=some o->(g.update S (Obj.mapSeq fun _=>(#[]:Array Value))).get? b=some o:=fun b o e=>(Heap.get?_update_other _ _ (Ne.symm (old e))).trans (kg b o e);have gz2:(g.update S (Obj.mapSeq fun _=>(#[]:Array Value))).objs.size=S+1:=by rw[(Heap.SameBut.update ..).1];exact gz
 generalize g.update S (Obj.mapSeq fun _=>(#[]:Array Value))=g2 at hg2 kg2 gz2;obtain⟨ov,hov,hcv,hdv⟩:=id hv;unfold Builtin.List.listExtendWith;refine wpAny_bind (wpAny_typeOf (T := "dict_values") ⟨ov,kg2 _ _ hov,hcv⟩ ?_);have h1:Builtin.List.listSameRef (.ref S) (.ref v)=false:=by simp[Builtin.List.listSameRef,(old hov).symm]
 simp only[h1,show(Value.type "dict_values" == Value.type "list")=false from by decide,show(Value.type "dict_values" == Value.type "tuple")=false from by decide,Bool.or_false,Bool.false_eq_true,if_false];refine wpAny_bind (q9y ⟨ov,kg2 _ _ hov,hcv,hdv⟩ (kg2 _ _ hdo) hda ?_);rw[gz2];have kI:∀b o,g2.get? b=some o->(g2.push (valObj d ens.size ep)).get? b=some o:=fun b o q=>Heap.get?_push_of_some _ q;have gI:(g2.push (valObj d ens.size ep)).get? (S+1)=some (valObj d ens.size ep):=by rw[<- gz2];exact Heap.get?_push_size _ rfl
 have hS1:=kI _ _ hg2;have nS:S≠S+1:=Nat.ne_of_lt (Nat.lt_succ_self _);refine wpAny_bind (wpAny_holding (PySem.W.kdl_hint_values (s:={ s with heap:=g2.push (valObj d ens.size ep) }) ⟨ov,kI _ _ (kg2 _ _ hov),hcv⟩ ?_));have W:Runs prog w A.in1 S (S+1) ens.size (fun acc _=>acc=(ens.map (·.val)).toList.take acc.length) (fun i h=>h.IsValIter (S+1) d i ens.size ep/\h.get? d=some dob):=by
  have dS:d≠S:=old hdo;have dI:d≠S+1:=fun e=>by have:=Heap.lt_size hdo;rw[hS0,e] at this;exact absurd this (Nat.not_lt.mpr (Nat.le_succ _))
  refine⟨fun acc h h' f _=>f,fun i h h' ⟨⟨o,e1,e2⟩,f2⟩ kp=>⟨⟨o,kp _ _ nS.symm e1,e2⟩,kp _ _ dS f2⟩,fun acc s' Q' E' hl f ⟨i1,i2⟩ hq=>?_,fun s' Q' E' ⟨i1,i2⟩ hq=>?_⟩
  ·refine q9z i1 i2 hda hl fun h' j1 j2=>hq _ h' ?_ ⟨j1,(j2.2 _ dI).trans i2⟩ fun b o hb e=>(j2.2 b hb).trans e;have hl':acc.length<(ens.map (·.val)).toList.length:=by simpa using hl
   rw[List.length_append,List.length_singleton,List.take_succ,<- f,List.getElem?_eq_getElem hl'];simp
  ·exact z2g hh i1 i2 hda (Nat.le_refl _) fun h' eb=>hq h' fun b o hb e=>eb b o hb e
 have fin:∀(h:Heap) (c:Nat),(∀b o,b≠S->(g2.push (valObj d ens.size ep)).get? b=some o->h.get? b=some o)->h.get? S=some { cls:=.type "list",data:=.seq ([]:List Value).toArray c } ->
   codeAny (model prog w) A.in1 (.builtin "list.extend.loop" ⟨[.ref S,.ref (S+1),.none],[]⟩) (fun r s'=>r=.ok (.ret .none)/\Q (.ref S) s') { s with heap:=h }:=fun h c kh hh2=>by
  refine grow W nS (by rw[sizeLine_eq];lia) _ ens.size [] _ c (by simp) (Nat.zero_le _) rfl ⟨⟨_,kh _ _ nS.symm gI,rfl,rfl⟩,kh _ _ (old hdo) (kI _ _ (kg2 _ _ hdo))⟩ hh2 fun acc h' c' e f' k' s'=>⟨rfl,hQ h' c' (fun b o q=>k' b o (old q) (fun e2=>by have:=Heap.lt_size q;rw[hS0,e2] at this;exact absurd this (Nat.not_lt.mpr (Nat.le_succ _))) (kh b o (old q) (kI _ _ (kg2 _ _ q)))) ?_⟩
  rw[s'];have e2:acc=(ens.map (·.val)).toList:=by rw[f',e];exact List.take_of_length_le (by simp)
  rw[e2]
 have last:∀(h:Heap) (c:Nat),(∀b o,b≠S->(g2.push (valObj d ens.size ep)).get? b=some o->h.get? b=some o)->h.get? S=some { cls:=.type "list",data:=.seq ([]:List Value).toArray c }->∀{R:Result->Shared->Prop},(∀s',Q (.ref S) s'->R (.ok (.ret .none)) s') ->
   codeAny (model prog w) A.in1 (.builtin "list.extend.loop" ⟨[.ref S,.ref (S+1),.none],[]⟩) R { s with heap:=h }:=fun h c kh hh2 {R} hR=>codeAny_mono (fin h c kh hh2) fun r s' ⟨e,q⟩=>by rw[e];exact hR s' q
 refine wpAny_ite_split (fun _=>?_) (fun _=>wpAny_pure ⟨plainId_quiet F.plain_extend_loop _,last _ _ (fun b o _ q=>q) hS1 fun s' q=>⟨rfl,q⟩⟩);refine wpAny_bind (wpAny_rule (wpAny_bind ?_));show wpAny _ _ (updateSeq S (·.push .none) >>= fun _=>updateSeq S (·.pop)) _ _ _;refine wpAny_bind (wpAny_updateSeq hS1 rfl ?_);have hS2:=PyProof.Rows.get?_update_seq hS1 (fun x=>x.push Value.none);refine wpAny_updateSeq hS2 rfl ?_;have hS3:=PyProof.Rows.get?_update_seq hS2 (fun x=>x.pop);exact wpAny_pure ⟨plainId_quiet F.plain_extend_loop _,last _ _ (fun b o hb q=>(Heap.get?_update_other _ _ (Ne.symm hb)).trans ((Heap.get?_update_other _ _ (Ne.symm hb)).trans q)) hS3 fun s' q=>⟨rfl,q⟩⟩
end
end PySem.Rv
namespace L2
open PySem PySem.Spec PyProof.Rows SB
def vlO(v d:Addr):HO:=.ext fun h=>h.IsValuesView v d
def rValues:V->List V->Hp->VK->Prop:=fun x vs H Q=>∃d rows,x=.ref d/\vs=[]/\H d=some (dR rows)/\∀v,H v=none->Q (.ref v) (upd H v (vlO v d))
theorem z4s:MtR X "dict.values" rValues:=by
 intro pins s σ H x vs v us Q I rx rv h;obtain⟨d,rows,rfl,rfl,hd,q⟩:=h;cases rx;have hus:=rv.zero;subst hus;obtain⟨hsys,hz,ob,es,ep,ho,hex,hob,_⟩:=I.rows hd;refine wpAny_call_entry F.slot_dict_values ⟨ob,ho,hex.1⟩ F.entry_dict_values ?_ (F.args_dict_values_1 _);refine wpAny_bind ?_;unfold Builtin.Dict.noArgs;refine wpAny_bind (wpAny_notOrdered_dict ⟨ob,ho,hex.1⟩ ?_);show wpAny _ _ (pure d) _ _ s;refine wpAny_pure ?_;unfold Builtin.Dict.showsAll;rw[if_neg (by rw[hsys];exact Bool.false_ne_true)];refine wpAny_bind (wpAny_pure (wpAny_bind (wpAny_newObj_type (wpAny_pure ⟨_,rfl,.ref s.heap.objs.size,_,I.laid (t':=s.toks) (fun b u e=>Heap.get?_push_of_some _ e) (Nat.le_refl _) ?_,rfl,q _ I.fresh⟩))));exact⟨⟨_,Heap.get?_push_size _ rfl,rfl,rfl⟩,⟨_,Heap.get?_push_size _ rfl⟩,fun h1 h2 ⟨o,e,c,dd⟩ k=>⟨o,k o e,c,dd⟩⟩
def rListV:List V->Hp->VK->Prop:=fun vs H Q=>∃v d,∃rows:List HRow,vs=[.ref v]/\H v=some (vlO v d)/\H d=some (dR rows)/\rows.length<=60/\∀L,H L=none->Q (.ref L) (upd H L (.lst (rows.map (·.2))))
theorem z2h(hc:X.calm=true):CallR X (.type "list") rListV:=by
 intro pins s σ H xs us Q I rv h;obtain⟨v,d,rows,rfl,hv,hd,few,q⟩:=h;obtain⟨u,rfl,ru⟩:=rv.one;cases ru;obtain⟨hsys,hz,ob,es,ep,ho,hex,hob,nd,zs,z1,z2,z3⟩:=I.rows hd;obtain⟨hvv,_⟩:=(show ObjOk X.prog X.w H s.heap v (vlO v d) from I.hok v _ hv)
 have hv2:∀{l:List (Addr×Value×HRow)},(∀z∈l,RelV z.2.2.2 z.2.1)->Vals ((l.map (·.2.2)).map (·.2)) (l.map (·.2.1)):=fun{l}=>by
  induction l with
  |nil=>exact fun _=>.nil
  |cons z l ih=>exact fun h=>.cons (h z List.mem_cons_self) (ih fun y hy=>h y (List.mem_cons_of_mem _ hy))
 have ee:(es.map (·.val)).toList=zs.map (·.2.1):=by
  have:=congrArg (List.map (·.2)) z2;rw[List.map_map,List.map_map] at this;rw[Array.toList_map];exact this
 have esz:es.size<=1000:=by
  have e1:=congrArg List.length z2;have e2:=congrArg List.length z1;rw[List.length_map,List.length_map] at e1;rw[List.length_map] at e2;have:es.toList.length=es.size:=rfl;lia
 refine PySem.Rv.list_values (I.ok.hd hc) hvv ho hob esz fun h' c' kp e=>⟨.ref s.heap.objs.size,_,I.laid (t':=s.toks) kp (Nat.le_refl _) (show ObjOk X.prog X.w _ h' _ (.lst (rows.map (·.2))) from⟨by rw[List.length_map];exact hz,zs.map (·.2.1),c',?_,?_⟩),rfl,q _ (I.hok.fresh (Nat.le_refl _))⟩
 ·rw[<- z1];exact hv2 fun z hz=>(z3 z hz).2
 ·rw[e,<- ee]
end L2
namespace HD
open PySem PySem.W PyProof.Rows
theorem end0:(∃f,endAt 0 t=some f)/\through t=true\/endAt 0 t=none/\through t=false:=by
 unfold endAt through;obtain⟨cur,code,pos,stack⟩:=t;cases stack with
 |cons a r=>exact .inr ⟨by cases cur<;>rfl,rfl⟩
 |nil =>
  cases cur with
  |pure f =>
   cases f with
   |done f=>simp_all
   |_=>simp_all
  |_=>exact .inr ⟨rfl,rfl⟩
theorem z1c{tb:String->Option Builtin}{p:Program}{w:World}{n₀:Nat}{ann:Option Value}:∀{n:Nat} {s s':Shared} {t:Thread} {f:Flow} {c:Code} {q:Pos},segRun tb p w n₀ ann 0 n s t=some (f,s',c,q)->topRun tb p w n₀ ann n s t=some s'
 |0,_,_,_,_,_,_,h=>by cases h
 |n+1,s,s',t,f,c,q,h=>by
  unfold segRun at h;unfold topRun;rcases end0 (t:=t) with⟨⟨f',e⟩,th⟩|⟨e,th⟩
  ·rw[e] at h;rw[th];cases h;rfl
  ·rw[e] at h;rw[th];dsimp only at h ⊢;cases ok:stepOk n₀ ann t with
   |false=>rw[ok] at h;cases h
   |true =>
    rw[ok] at h;dsimp only at h ⊢;cases st:step (denote tb) p w s t with
    |go s1 t1=>rw[st] at h;exact z1c h
    |halt _ _=>rw[st] at h;cases h
def mkT(l:List Obj):BT:=(l.foldl (fun(a:BT×Nat) o=>(a.1.ins a.2 o,a.2+1)) (BT.nil,0)).1
noncomputable def bootT (P:Params) (os:OsState):SharedT:=⟨mkT (boot_heap P).objs.toList,11,(boot_heap P).life,#[],boot_drawn,boot_toks,os⟩
theorem z6q(P:Params)(os:OsState):(bootT P os).abs=⟨boot_heap P,#[],boot_drawn,boot_toks,os⟩:=by kernel_rfl
theorem z4t(P:Params):((boot_heap P).isNs mainGlobals&&(#[]:Array GenState).size==0,(boot_heap P).objs.size,(boot_heap P).nsMap mainGlobals "__annotations__")=(true,11,some (.ref 6)):=by kernel_rfl
theorem left{Yf:Shared->α}{Ya:World->α}(e:opening p=plainProg p.main.scope.names)(hN:Nat.ble 600 N=true)(f:∀s,fenceModules? p s=some s)(h:∀(w:World) (os:OsState),(segRunT treeTable p w 11 (some (.ref 6)) 0 N (bootT w.params os) (topStub p)).map (fun r=>((staticsOk (importedModules p.main.body) (boot_heap w.params) r.2.1.abs.heap&&namesBound p r.2.1.abs.heap&&gensDone r.2.1.abs&&laidKept (boot_heap w.params) r.2.1.abs.heap),
   openSeen q loose (importedModules p.main.body) Xt true r.2.1.abs,Yf r.2.1.abs))=some (true,openGood q loose,Ya w)):LeftO p q loose Xt Yf Ya N:=fun w=>by
 obtain⟨⟨hp,gs,d,k,os⟩,e1,e2⟩:=Option.map_eq_some_iff.mp (boot_open e hN f w);obtain⟨rfl,rfl,rfl,rfl⟩:hp=boot_heap w.params/\gs=#[]/\d=boot_drawn/\k=boot_toks:=by simpa using e2
 obtain⟨z1,z2,z3⟩:_/\_/\_:=by simpa only[Prod.mk.injEq] using z4t w.params
 obtain⟨⟨fl,st,c,ps⟩,r1,r2⟩:=Option.map_eq_some_iff.mp (h w os);obtain⟨l1,l2,l3⟩:_/\_/\_:=by simpa only[Prod.mk.injEq] using r2
 have r:=z1c (segRun_of r1);rw[z6q] at r;have t:topFrom treeTable p w N ⟨boot_heap w.params,#[],boot_drawn,boot_toks,os⟩=some st.abs:=by
  unfold topFrom;rw[z1,z2,z3,r];show(match staticsOk (importedModules p.main.body) (boot_heap w.params) st.abs.heap&&namesBound p st.abs.heap&&gensDone st.abs&&laidKept (boot_heap w.params) st.abs.heap with|true=>_|false=>_)=_;rw[l1]
 unfold openEnds;rw[e1];show(topFrom treeTable p w N _).map _=_;rw[t];exact congrArg some (Prod.ext l2 l3)
end HD
set_option maxHeartbeats 4000000
namespace K
open PySem L2 TX SB HM
def top(i:Nat):Stmt:=PySem.Challenge.pw_renamehall_k41_chains.main.body.getD i (.Pass ⟨0,0,0,0⟩)
structure Txt (mg:Str->Option Value):Prop where
 b_all:mg "all" = none
 b_dict:mg "dict" = none
 b_enumerate:mg "enumerate" = none
 b_isinstance:mg "isinstance" = none
 b_len:mg "len" = none
 b_list:mg "list" = none
 b_max:mg "max" = none
 b_min:mg "min" = none
 b_range:mg "range" = none
 b_sorted:mg "sorted" = none
 b_tuple:mg "tuple" = none
 b_zip:mg "zip" = none
structure Calls (P:Program) (w:World) (K:W.Frag) (mg:Str->Option Value) (base:Heap):Prop where
 draw:Cal P w K mg base "_law_draw" 1 ["_law_feed", "_law_many"] spDraw
section
variable{P:Program}{w:World}{K:W.Frag}{mg:Str->Option Value}{base:Heap}
abbrev z0a:Stmt:=top 23
theorem sc_draw:FnScope ["_law_feed", "_law_many", "_law_cell", "_law_number", "_law_found"] ["_law_feed", "_law_many"] (defScope z0a):=⟨rfl,rfl,rfl,by decide +kernel,rfl,by decide +kernel,by decide +kernel⟩
theorem z9c (D : Df K mg "_law_draw" z0a ["_law_feed", "_law_many"]) (T : Txt mg) : Cal P w K mg base "_law_draw" 1 ["_law_feed", "_law_many"] spDraw := by
  refine D.cal sc_draw (fun vs H Q E h => ?_) (fun f cdv A outer s H vs Q E hr h => ?_)
  · obtain ⟨a, b, m, rfl, _⟩ := h; rfl
  · obtain ⟨a, b, m, rfl, ⟨⟨i, j, ha⟩, ns, hb⟩, hm0, hm1, k⟩ := h;refine ⟨_, (q0e (q7s (q1a q1d (q0x (ix_k K rfl) (pv 0) q0g (fun _ _ => rfl)) q0g) (z2v (pv 0) q0g q6r)) (q0e (q1l (q0k (eq_k K rfl hr) (q0x (ix_k K rfl) (pv 0) q0g (fun _ _ => rfl)) q0g (nomark _)) (q0e (q0j (i := 2) sc_draw.nd rfl (by first | exact Or.inl rfl | exact Or.inr rfl) (q0x (ix_k K rfl) (pv 0) q0g (fun _ _ => rfl))) (q0e (q1l (q0k op_gt (q0l (q5e K rfl) (by rfl) T.b_len PySem.boot_len (q0a (q0x (ix_k K rfl) (pv 0) q0g (fun _ _ => rfl)) q0d)) q0g (nomark _)) (q0f (q0j (i := 2) sc_draw.nd rfl (by first | exact Or.inl rfl | exact Or.inr rfl) (q0x (ix_k K rfl) (q0x (ix_k K rfl) (pv 0) q0g (fun _ _ => rfl)) (q1a q5w (q0x (ix_k K rfl) (pv 0) q0g (fun _ _ => rfl)) (q0l (q5e K rfl) (by rfl) T.b_len PySem.boot_len (q0a (q0x (ix_k K rfl) (pv 0) q0g (fun _ _ => rfl)) q0d))) (fun _ _ => rfl)))) q0n) (q0e (q1l (q0k z5j (pv 2) (q1a z7h q0g q0g) (nomark _)) (q0e (q0j (i := 3) sc_draw.nd rfl (by first | exact Or.inl rfl | exact Or.inr rfl) (q1a q5w (q1a q9m (q1a q1d (q1a q1d (q1a q5w (pv 2) q0g) (q1a q9m q0g (q0x (ix_k K rfl) (pv 0) q0g (fun _ _ => rfl)))) q0g) q0g) q0g)) (q0e (q0j (i := 3) sc_draw.nd rfl (by first | exact Or.inl rfl | exact Or.inr rfl) (q1a q5w (q1a q9m (pv 3) (q1a q1d (pv 3) q0g)) q0g)) (q0f (q0m (q1a q5w (q1a z2y (pv 3) q0g) (pv 1)))))) q0n) (q0f (q7s (pv 2) (z2v (pv 0) q0g q6r)))))) q0n) (q0e (q0j (i := 4) sc_draw.nd rfl (by first | exact Or.inl rfl | exact Or.inr rfl) (q1a q5w (q0x (ix_k K rfl) (pv 0) q0g (fun _ _ => rfl)) (pv 1))) (q0e (q7s (q1a z2y (q0x (ix_k K rfl) (pv 0) q0g (fun _ _ => rfl)) (pv 1)) (z2v (pv 0) q0g q6r)) (q0f (q0m (pv 4))))))), ?_⟩;have nba : b ≠ a := FeedAt.ne ⟨⟨i, j, ha⟩, ns, hb⟩;refine ⟨_, rfl, .inl ⟨a, _, 1, _, rfl, rfl, SqL.of ha, rfl, .inl ⟨_, _, rfl, rfl, _, rfl, a, _, 1, 1, rfl, rfl, ha, rfl, ?_⟩⟩⟩;generalize hH1 : upd H a _ = H1;have ha1 : H1 a = some (.lst [.ref b, .int (i + 1), .int j]) := by rw [← hH1]; exact q0b
    have hb1 : H1 b = some (.lst (ns.map V.int)) := by rw [← hH1, q0c nba]; exact hb
    have fd : ∀ (x y : Int), Fd a b H (upd H1 a (.lst [.ref b, .int x, .int y])) := fun x y => ⟨⟨⟨x, y, q0b⟩, ns, by rw [q0c nba]; exact hb1⟩, fun c o e hc => by rw [q0c hc, ← hH1, q0c hc]; exact e⟩
    have fd1 : Fd a b H H1 := ⟨⟨⟨_, _, ha1⟩, ns, hb1⟩, fun c o e hc => by rw [← hH1, q0c hc]; exact e⟩
    refine ⟨_, rfl, .inl ⟨a, _, 2, _, rfl, rfl, SqL.of ha1, rfl, .inl ⟨rfl, _, rfl, ?_⟩⟩⟩;have last : ∀ (H2 : Hp) (σ2 : St) (y : Int), H2 a = some (.lst [.ref b, .int (i + 1), .int y]) → (∀ x y : Int, Fd a b H (upd H2 a (.lst [.ref b, .int x, .int y]))) → σ2[0]? = some (some (.ref a)) → σ2[1]? = some (some (.int m)) → σ2.length = 5 →
        tSeq (tAsg (tOp (rI (fun _ j => 0 < j) fun i j => .int (i % j)) (tOp (rIx K) (tVar 0) (tC (.int 2))) (tVar 1)) (gName 4)) (tSeq (tAsg (tOp (rI CDiv fun i j => .int (i / j)) (tOp (rIx K) (tVar 0) (tC (.int 2))) (tVar 1)) (gSub (tVar 0) (tC (.int 2)) rSetL)) (tRet (tVar 4))) { nx := fun _ H' => Q .non H', rt := Q } σ2 H2 := by
      intro H2 σ2 y h2 f2 e0 e1 el;match σ2, e0, e1, el with
      | [x0, x1, x2, x3, x4], e0, e1, _ =>
        cases e0;cases e1;refine ⟨_, rfl, .inl ⟨a, _, 2, _, rfl, rfl, SqL.of h2, rfl, _, rfl, _, _, rfl, rfl, hm0, ?_⟩⟩;refine ⟨_, rfl, .inl ⟨a, _, 2, _, rfl, rfl, SqL.of h2, rfl, _, rfl, _, _, rfl, rfl, ⟨hm0, hm1⟩, _, rfl, a, _, 2, 2, rfl, rfl, h2, rfl, _, rfl, ?_⟩⟩;exact k _ _ (Int.emod_nonneg _ (by lia)) (Int.emod_lt_of_pos _ hm0) (f2 _ _)
    refine ite2 (fun _ => ?_) (fun _ => last H1 _ j ha1 fd rfl rfl rfl);refine ⟨_, rfl, .inl ⟨a, _, 1, _, rfl, rfl, SqL.of ha1, rfl, ?_⟩⟩;refine ⟨_, rfl, .inl ⟨a, _, 0, _, rfl, rfl, SqL.of ha1, rfl, ⟨_, _, rfl, .inl ⟨_, SqL.of hb1, rfl⟩, ⟨_, _, rfl, rfl, _, rfl, ?_⟩⟩⟩⟩
    have rest : ∀ cell : Int, tSeq (tIfS (tTest (tOp (rI0 fun i j => .bl (decide (i < j))) (tVar 2) (tOp (rI CPow fun i j => .int (i ^ j.toNat)) (tC (.int 10)) (tC (.int 18)))))
          (tSeq (tAsg (tOp (rI (fun _ j => 0 < j) fun i j => .int (i % j)) (tOp rMulU (tOp rAddU (tOp rAddU (tOp (rI (fun _ j => 0 < j) fun i j => .int (i % j)) (tVar 2) (tC (.int 2147483647))) (tOp rMulU (tC (.int 613)) (tOp (rIx K) (tVar 0) (tC (.int 1))))) (tC (.int 7))) (tC (.int 48271))) (tC (.int 2147483647))) (gName 3))
            (tSeq (tAsg (tOp (rI (fun _ j => 0 < j) fun i j => .int (i % j)) (tOp rMulU (tVar 3) (tOp rAddU (tVar 3) (tC (.int 69621)))) (tC (.int 2147483629))) (gName 3))
              (tRet (tOp (rI (fun _ j => 0 < j) fun i j => .int (i % j)) (tOp (rI CDiv fun i j => .int (i / j)) (tVar 3) (tC (.int 64))) (tVar 1))))) tNext)
          (tAsg (tVar 2) (gSub (tVar 0) (tC (.int 2)) rSetL))
        { nx := fun σ2 H2 => tSeq (tAsg (tOp (rI (fun _ j => 0 < j) fun i j => .int (i % j)) (tOp (rIx K) (tVar 0) (tC (.int 2))) (tVar 1)) (gName 4)) (tSeq (tAsg (tOp (rI CDiv fun i j => .int (i / j)) (tOp (rIx K) (tVar 0) (tC (.int 2))) (tVar 1)) (gSub (tVar 0) (tC (.int 2)) rSetL)) (tRet (tVar 4))) { nx := fun _ H' => Q .non H', rt := Q } σ2 H2, rt := Q }
        [some (.ref a), some (.int m), some (.int cell), none, none] H1 := by
      intro cell;refine ⟨_, rfl, _, _, rfl, rfl, ⟨by decide, by decide, by decide⟩, _, _, rfl, rfl, _, rfl, ?_⟩;refine ite2 (fun _ => ?_) (fun _ => ?_)
      · refine ⟨_, rfl, _, _, rfl, rfl, (by show (0 : Int) < 2147483647; decide), ?_⟩;refine ⟨_, rfl, .inl ⟨a, _, 1, _, rfl, rfl, SqL.of ha1, rfl, .inl ⟨_, _, rfl, rfl, .inl ⟨by decide, by decide⟩, .inl ⟨_, _, rfl, rfl, .inl ⟨_, _, rfl, rfl, .inl ⟨_, _, rfl, rfl, .inr ⟨by decide, by decide⟩, _, _, rfl, rfl, (by show (0 : Int) < 2147483647; decide), ?_⟩⟩⟩⟩⟩⟩;generalize hn : ((cell % 2147483647 + 613 * (i + 1) + 7) * 48271) % 2147483647 = n;have n0 : 0 ≤ n := by rw [← hn]; exact Int.emod_nonneg _ (by decide)
        have n1 : n < 2147483647 := by rw [← hn]; exact Int.emod_lt_of_pos _ (by decide)
        refine ⟨_, rfl, _, rfl, .inl ⟨_, _, rfl, rfl, .inl ⟨_, _, rfl, rfl, .inl ⟨by lia, by lia⟩, _, _, rfl, rfl, (by show (0 : Int) < 2147483629; decide), ?_⟩⟩⟩;refine ⟨_, rfl, _, _, rfl, rfl, ⟨by decide, by decide⟩, _, rfl, _, _, rfl, rfl, hm0, ?_⟩;exact k _ _ (Int.emod_nonneg _ (by lia)) (Int.emod_lt_of_pos _ hm0) fd1
      · refine ⟨_, rfl, _, rfl, a, _, 2, 2, rfl, rfl, ha1, rfl, ?_⟩;refine last _ _ cell q0b (fun x y => ?_) rfl rfl rfl;have := fd x y;rw [z8b];exact this
    refine ite2 (fun hl => ?_) (fun _ => rest _);have hne : ns.map V.int ≠ [] := by
      intro z;rw [z] at hl;simp at hl
    obtain ⟨x, hx, ex⟩ := z8n (i + 1) hne;obtain ⟨c, rfl⟩ : ∃ c, x = V.int c := by
      obtain ⟨c, _, e⟩ := List.mem_map.mp hx;exact ⟨c, e.symm⟩
    refine ⟨_, rfl, .inl ⟨a, _, 0, _, rfl, rfl, SqL.of ha1, rfl, ⟨_, rfl, .inl ⟨a, _, 1, _, rfl, rfl, SqL.of ha1, rfl, ⟨_, rfl, .inl ⟨a, _, 0, _, rfl, rfl, SqL.of ha1, rfl, ⟨_, _, rfl, .inl ⟨_, SqL.of hb1, rfl⟩, _, _, rfl, rfl, ?_, ?_⟩⟩⟩⟩⟩⟩⟩
    · have : 0 < (ns.map V.int).length := by
        cases e : ns.map V.int with
        | nil => exact absurd e hne
        | cons _ _ => simp
      show (0 : Int) < ((ns.map V.int).length : Int);lia
    · exact .inl ⟨b, _, _, _, rfl, rfl, SqL.of hb1, ex, rest c⟩
abbrev z0b:Stmt:=top 26
theorem z9d:FnScope ["_law_feed", "_law_signs", "_law_size"] ["_law_feed", "_law_signs", "_law_size"] (defScope z0b):=⟨rfl,rfl,rfl,by decide +kernel,rfl,by decide +kernel,by decide +kernel⟩
theorem z9e(D:Df K mg "_law_text" z0b ["_law_feed", "_law_signs", "_law_size"])(T:Txt mg)(draw:Cal P w K mg base "_law_draw" 1 ["_law_feed", "_law_many"] spDraw):Cal P w K mg base "_law_text" 2 ["_law_feed", "_law_signs", "_law_size"] spText:=by
 refine D.cal z9d (fun vs H Q E h=>?_) (fun f cdv A outer s H vs Q E hr h=>?_)
 ·obtain⟨a,b,g,n,rfl,_⟩:=h;rfl
 ·obtain⟨a,b,g,n,rfl,F,hg0,hg1,hn0,hn1,k⟩:=h;have C:Calls P w K mg base:=⟨draw⟩
  refine⟨_,(q0f (q0m (@bm_k _ _ _ _ _ _ _ _ _ _ _ _ K rfl PySem.F.plainAttrs_str PySem.F.slot_str_join PySem.F.type_str_join (z7l K rfl) q3j (q0a (q2d ["_law_k"] [("_law_signs",1),("_law_feed",0)] rfl (q2w rfl T.b_range (q0a (pv 2) q0d)) (fun _ _ _ _ _=>(q0i (i:=0) (show(["_law_k", "_law_signs", "_law_feed"]:List Str).Nodup by decide +kernel) rfl (by first|exact Or.inl rfl|exact Or.inr rfl))) (fun _ _ _ _ _=>q4a) (fun _ _ _ _ _=>(q0x (ix_k K rfl) (pv 1) (pe_c C.draw hr (q0a (pv 2) (q0a (q0l (q5e K rfl) (by rfl) T.b_len PySem.boot_len (q0a (pv 1) q0d)) q0d))) (fun _ _=>rfl)))) q0d) (by rfl) (by rfl) (by rfl) (by rfl) (by rfl)))),?_⟩;refine⟨rfl,_,rfl,n,rfl,by lia,by lia,fun D hD=>?_⟩;refine q9o (n:=n.toNat) (fun i ys H'=>∃cs:List Nat,ys=cs.map (fun c=>V.str ⟨#[c]⟩)/\cs.length=i/\i<=n.toNat/\(∀c∈cs,c∈tl g)/\Fd a b H H'/\H' D=some (.lst ys)) ⟨[],rfl,rfl,Nat.zero_le _,fun _ h=>(nomatch h),(Fd.refl F).new hD,q0b⟩ (fun i ys H' ⟨cs,_,_,_,_,_,h⟩=>h) ?_ ?_
  ·rintro i ys H' hi ⟨cs,rfl,hl,_,hc,fd,hHD⟩;refine⟨_,rfl,_,rfl,_,rfl,_,_,rfl,⟨small (by lia),rfl⟩,a,b,_,rfl,fd.feed,by lia,by lia,fun r H2 r0 r1 fd2=>?_⟩;have hl2:(tl g).length=g.length:=(len g).symm;obtain⟨c,hc1,hc2⟩:=q6b (xs:=tl g) r0 (by lia);refine .inr (.inr ⟨g,r,c,rfl,rfl,small (by lia),hc2,?_⟩);have hDa:D≠a:=fun z=>by subst z;exact F.na hD rfl
   refine⟨fd2.at hHD hDa,small' (by rw[List.length_map];lia),cs++[c],by rw[List.map_append];rfl,by rw[List.length_append,hl];rfl,by lia,fun d hd=>?_,(fd.trans fd2).put F hD,q0b⟩;rcases List.mem_append.mp hd with z|z
   ·exact hc d z
   ·rw[List.mem_singleton.mp z];exact List.mem_of_getElem? hc1
  ·rintro ys H' ⟨cs,rfl,hl,_,hc,fd,hHD⟩;have e:cs.map (fun c=>V.str ⟨#[c]⟩)=(cs.map fun c=>(⟨#[c]⟩:Str)).map V.str:=by rw[List.map_map];rfl
   refine⟨_,D,cs.map fun c=>⟨#[c]⟩,rfl,rfl,.inl (SqL.of (by rw[<- e];exact hHD)),?_,?_⟩
   ·rw[z0t,List.length_map];have:(Str.ofString "").length=0:=by decide +kernel
    rw[this];lia
   ·have z:=q8e cs;rw[z];exact k cs H' hl hc fd
theorem q3k(p:Pth):(vP p).length=p.length:=List.length_map _
theorem q1g{q:Pth}(h:q≠[]):cutV (vP q) none (some (-1))=vP q.dropLast/\¬(HT.sIx (vP q).length 0 none=0/\HT.sIx (vP q).length (vP q).length (some (-1))=(vP q).length):=by
 have hl:=List.length_pos_iff.mpr h;have e:HT.sIx (vP q).length (vP q).length (some (-1))=q.length-1:=by
  show(if (-1:Int)<0 then((-1:Int)+((vP q).length:Int)).toNat else min (-1:Int).toNat (vP q).length)=_;rw[if_pos (by decide),q3k];lia
 refine⟨?_,fun z=>by rw[e,q3k] at z;lia⟩;unfold cutV;rw[e];show((vP q).drop 0).take _=_;rw[List.drop_zero];show(vP q).take (q.length-1-0)=_;rw[Nat.sub_zero,<- List.map_take,<- List.dropLast_eq_take]
theorem q3a{q:Pth}(h:q≠[]):atI (vP q) (-1)=some (.str (mk (q.getLastD []))):=by
 have hl:=List.length_pos_iff.mpr h;unfold atI ixN;rw[if_neg (by decide),if_pos (by rw[q3k];lia)];have e:((-1:Int)+((vP q).length:Int)).toNat=q.length-1:=by rw[q3k];lia
 show(vP q)[((-1:Int)+((vP q).length:Int)).toNat]?=_;rw[e,List.getElem?_map,<- List.getLast?_eq_getElem?,List.getLastD_eq_getLast?,List.getLast?_eq_some_getLast h];rfl
theorem q4c{q:Pth}(h:okP q):okN (q.getLastD []):=by
 rw[List.getLastD_eq_getLast?,List.getLast?_eq_some_getLast h.ne];exact h.all _ (List.getLast_mem h.ne)
theorem z1d{n:List Nat}(h:∀c∈n,c<128):PySem.Txt.lower (mk n)=mk (lowN n):=by
 apply ext;rw[TX.lower (by rw[q2j];exact h),q2j,q2j];rfl
abbrev q2o:Stmt:=top 24
theorem q7f:FnScope [] [] (defScope q2o):=⟨rfl,rfl,rfl,by decide +kernel,rfl,by decide +kernel,by decide +kernel⟩
theorem q7g(D:Df K mg "_law_name_signs" q2o []):Cal P w K mg base "_law_name_signs" 1 [] (spConst HM.NSs):=by
 refine D.cal q7f (fun vs H Q E h=>?_) (fun f cdv A outer s H vs Q E hr h=>?_)
 ·obtain⟨rfl,_⟩:=h;rfl
 ·obtain⟨rfl,k⟩:=h;refine⟨_,(q0f (q0m q3j)),?_⟩;exact k
structure CallsAN (P:Program) (w:World) (K:W.Frag) (mg:Str->Option Value) (base:Heap):Prop where
 draw:Cal P w K mg base "_law_draw" 1 ["_law_feed", "_law_many"] spDraw
 text:Cal P w K mg base "_law_text" 2 ["_law_feed", "_law_signs", "_law_size"] spText
 name_signs:Cal P w K mg base "_law_name_signs" 1 [] (spConst HM.NSs)
def spName:Sp:=fun vs H Q _=>∃a b,vs=[.ref a]/\FeedAt H a b/\∀(t:List Nat) H',okN t->Fd a b H H'->Q (.str (mk t)) H'
theorem fig_in:∀c∈tl (Str.ofString "0123456789"),c∈HM.NS:=by decide +kernel
abbrev q5q:Stmt:=top 27
theorem sc_a_name:FnScope ["_law_feed", "_law_way"] ["_law_feed"] (defScope q5q):=⟨rfl,rfl,rfl,by decide +kernel,rfl,by decide +kernel,by decide +kernel⟩
theorem z4u(D:Df K mg "_law_a_name" q5q ["_law_feed"])(T:Txt mg)(C:CallsAN P w K mg base):Cal P w K mg base "_law_a_name" 3 ["_law_feed"] spName:=by
 refine D.cal sc_a_name (fun vs H Q E h=>?_) (fun f cdv A outer s H vs Q E hr h=>?_)
 ·obtain⟨a,b,rfl,_⟩:=h;rfl
 ·obtain⟨a,b,rfl,F,k⟩:=h;refine⟨_,(q0e (q0j (i:=1) sc_a_name.nd rfl (by first|exact Or.inl rfl|exact Or.inr rfl) (pe_c C.draw hr (q0a (pv 0) (q0a q0g q0d)))) (q0e (q1l (q0k (eq_k K rfl hr) (pv 1) q0g (nomark _)) (q0f (q0m (pe_c C.text hr (q0a (pv 0) (q0a (pe_c0 C.name_signs hr) (q0a (q1a q1d q0g (pe_c C.draw hr (q0a (pv 0) (q0a q0g q0d)))) q0d)))))) q0n) (q0e (q1l (q0k (eq_k K rfl hr) (pv 1) q0g (nomark _)) (q0f (q0m (q1a q1d (q0x (ix_k K rfl) (q1k (q0a q3j (q0a q3j (q0a q3j q0d)))) (pe_c C.draw hr (q0a (pv 0) (q0a q0g q0d))) (fun _ _=>rfl)) (pe_c C.text hr (q0a (pv 0) (q0a q3j (q0a (q1a q1d q0g (pe_c C.draw hr (q0a (pv 0) (q0a q0g q0d)))) q0d))))))) q0n) (q0f (q0m (pe_c C.text hr (q0a (pv 0) (q0a (q0t (sl_k K rfl) q3j q1b (q1c (q1a q1d q0g (pe_c C.draw hr (q0a (pv 0) (q0a q0g q0d)))))) (q0a (q1a q1d q0g (pe_c C.draw hr (q0a (pv 0) (q0a q0g q0d)))) q0d))))))))),?_⟩;refine⟨_,rfl,a,b,_,rfl,F,by decide,by decide,fun r1 H1 r10 r11 fd1=>?_⟩;have kN:∀{g:Str} {n:Int} {H2:Hp},Fd a b H H2->(∀c∈tl g,c∈HM.NS)->1<=n->n<=12->∀(t:List Nat) H',t.length=n.toNat->(∀c∈t,c∈tl g)->Fd a b H2 H'->Q (.str (mk t)) H':=fun{g n H2} fd hg n1 n2 t H' l hc fd'=>k t H' ⟨by lia,by lia,fun c h=>hg c (hc c h)⟩ (fd.trans fd')
  refine⟨_,rfl,.inl ⟨rfl,_,rfl,ite2 (fun h=>?_) (fun h=>?_)⟩⟩
  ·refine⟨_,rfl,rfl,_,rfl,a,b,_,rfl,fd1.feed,by decide,by decide,fun r2 H2 r20 r21 fd2=>.inl ⟨_,_,rfl,rfl,?_⟩⟩;exact⟨a,b,HM.NSs,_,rfl,(fd1.trans fd2).feed,by decide +kernel,by decide +kernel,by lia,by lia,kN (fd1.trans fd2) (fun c h=>h) (by lia) (by lia)⟩
  refine⟨_,rfl,.inl ⟨rfl,_,rfl,ite2 (fun h=>?_) (fun h=>?_)⟩⟩
  ·refine⟨by show 3<=sizeLine;decide,fun M hM=>?_⟩;have fdM:=fd1.new (o:=.lst [.str (Str.ofString "img"),.str (Str.ofString "IMG"),.str (Str.ofString "a")]) hM;have hMa:M≠a:=(fd1.feed.na hM).symm;refine⟨_,rfl,a,b,_,rfl,fdM.feed,by decide,by decide,fun r2 H2 r20 r21 fd2=>?_⟩;have hat:∃g:List Nat,atI [V.str (Str.ofString "img"),V.str (Str.ofString "IMG"),V.str (Str.ofString "a")] r2=some (.str (mk g))/\g.length<=3/\∀c∈g,c∈HM.NS:=by
    have e:r2=0\/r2=1\/r2=2:=by lia
    rcases e with rfl|rfl|rfl
    ·exact⟨tl (Str.ofString "img"),by rw[z6a];rfl,by decide +kernel,by decide +kernel⟩
    ·exact⟨tl (Str.ofString "IMG"),by rw[z6a];rfl,by decide +kernel,by decide +kernel⟩
    ·exact⟨tl (Str.ofString "a"),by rw[z6a];rfl,by decide +kernel,by decide +kernel⟩
   obtain⟨g,hat,hg1,hg2⟩:=hat;refine .inl ⟨M,_,r2,_,rfl,rfl,SqL.of (fd2.at q0b hMa),hat,?_⟩;have fd2':=fdM.trans fd2;refine⟨_,rfl,_,rfl,a,b,_,rfl,fd2'.feed,by decide,by decide,fun r3 H3 r30 r31 fd3=>.inl ⟨_,_,rfl,rfl,?_⟩⟩;have fd3':=fd2'.trans fd3;refine⟨a,b,Str.ofString "0123456789",_,rfl,fd3'.feed,by decide +kernel,by decide +kernel,by lia,by lia,fun t H4 l hc fd4=>.inr (.inl ⟨_,_,rfl,rfl,?_,?_⟩)⟩
   ·rw[q8j,q8j];exact small (by lia)
   ·have e:mk g++mk t=mk (g++t):=by rw[<- z6a (mk g++mk t),z3s,q2j,q2j]
    rw[e];refine k (g++t) H4 ⟨by rw[List.length_append];lia,by rw[List.length_append];lia,fun c h=>?_⟩ (fd3'.trans fd4);rcases List.mem_append.mp h with h|h
    ·exact hg2 c h
    ·exact fig_in c (hc c h)
  ·refine⟨_,rfl,_,rfl,a,b,_,rfl,fd1.feed,by decide,by decide,fun r2 H2 r20 r21 fd2=>.inl ⟨_,_,rfl,rfl,?_⟩⟩;have fd2':=fd1.trans fd2;have hs:0<(Txt.slice (Str.ofString "aAbB-") none (some (2+r2))).length/\(Txt.slice (Str.ofString "aAbB-") none (some (2+r2))).length<=1000/\∀c∈tl (Txt.slice (Str.ofString "aAbB-") none (some (2+r2))),c∈HM.NS:=by
    have e:r2=0\/r2=1\/r2=2\/r2=3:=by lia
    rcases e with rfl|rfl|rfl|rfl<;>decide +kernel
   refine⟨_,rfl,.inl ⟨_,rfl,by decide +kernel,_,rfl,a,b,_,rfl,fd2'.feed,by decide,by decide,fun r3 H3 r30 r31 fd3=>.inl ⟨_,_,rfl,rfl,?_⟩⟩⟩;exact⟨a,b,_,_,rfl,(fd2'.trans fd3).feed,hs.1,hs.2.1,by lia,by lia,kN (fd2'.trans fd3) hs.2.2 (by lia) (by lia)⟩
def spFold:Sp:=fun vs H Q _=>∃(t:List Nat) (bl:Bool),vs=[.str (mk t),.bl bl]/\okN t/\Q (.str (mk (if bl then lowN t else t))) H
abbrev z0c:Stmt:=top 28
theorem z9f:FnScope ["_law_name", "_law_blind"] ["_law_name", "_law_blind"] (defScope z0c):=⟨rfl,rfl,rfl,by decide +kernel,rfl,by decide +kernel,by decide +kernel⟩
theorem z9g(D:Df K mg "_law_fold" z0c ["_law_name", "_law_blind"])(T:Txt mg):Cal P w K mg base "_law_fold" 1 ["_law_name", "_law_blind"] spFold:=by
 refine D.cal z9f (fun vs H Q E h=>?_) (fun f cdv A outer s H vs Q E hr h=>?_)
 ·obtain⟨t,bl,rfl,_⟩:=h;rfl
 ·obtain⟨t,bl,rfl,ok,k⟩:=h;refine⟨_,(q0f (q0m (pe_j (z5h (@q6x _ _ _ K rfl (pv 1) (fun _=>rfl)) (@q9n _ _ _ _ _ _ _ _ _ K rfl PySem.F.plainAttrs_str PySem.F.slot_str_lower PySem.F.type_str_lower q4m (pv 0) (by rfl) (by rfl)) (pv 0))))),?_⟩;refine⟨fun v H'=>v=.str (mk (if bl then lowN t else t))/\H'=H,fun v H' ⟨e1,e2⟩=>by rw[e1,e2];exact k,?_⟩;refine⟨_,rfl,bl,rfl,?_⟩;cases bl with
  |true =>
   refine iteT ⟨_,rfl,rfl,_,rfl,rfl,small (by rw[q8j];have:=ok.few;lia),?_,rfl⟩;exact congrArg V.str (z1d ok.low)
  |false=>exact iteF ⟨_,rfl,rfl,rfl⟩
end
end K
set_option maxHeartbeats 4000000
namespace K
open PySem L2 TX SB HM
section
variable{P:Program}{w:World}{K:W.Frag}{mg:Str->Option Value}{base:Heap}
theorem q8z:∀{p q:Pth},kP p=kP q->p=q
 |[],[],_=>rfl
 |[],_::_,h=>by cases h
 |_::_,[],h=>by cases h
 |a::p,b::q,h=>by
  unfold kP at h;rw[List.map_cons,List.map_cons] at h;injection h with h1 h2;injection h1 with h1;rw[SB.mk_inj h1,q8z h2]
theorem q5r{rs:List HRow}{p:Pth}(h:∀r∈rs,r.1≠p):valV (rs.map fun r=>(kP r.1,r.2)) (kP p)=none:=by
 induction rs with
 |nil=>rfl
 |cons r rs ih =>
  rw[List.map_cons,q0v (fun z=>h r List.mem_cons_self (q8z z))];exact ih fun x hx=>h x (List.mem_cons_of_mem _ hx)
theorem q3b{rs:List HRow}{r:HRow}(hr:r∈rs)(nd:(rs.map (·.1)).Nodup):valV (rs.map fun r=>(kP r.1,r.2)) (kP r.1)=some r.2:=by
 induction rs with
 |nil=>cases hr
 |cons x rs ih =>
  rw[List.map_cons,List.nodup_cons] at nd;rcases List.mem_cons.mp hr with rfl|hr
  ·rw[List.map_cons];exact q0z rfl
  ·rw[List.map_cons,q0v (fun z=>nd.1 (by rw[q8z z];exact List.mem_map.mpr ⟨r,hr,rfl⟩))];exact ih hr nd.2
theorem q2p{rs:List HRow}{p:Pth}{v:V}(h:∀r∈rs,r.1≠p):putK (rs.map fun r=>(kP r.1,r.2)) (kP p) v=(rs++[(p,v)]).map fun r=>(kP r.1,r.2):=by
 rw[z6c v (q5r h),List.map_append];rfl
def keyO(bl:Bool)(p:Pth):PKey:=(kP p.dropLast,.inr (mk (if bl then lowN (p.getLastD []) else p.getLastD [])))
theorem q5s{bl:Bool}{p q:Pth}(hp:p≠[])(hq:q≠[])(h:fold bl p=fold bl q):keyO bl p=keyO bl q:=by
 obtain⟨h1,h2⟩:=(q7c hp hq).mp h;unfold keyO;cases bl with
 |true=>rw[if_pos rfl] at h2;rw[if_pos rfl,if_pos rfl,h1,h2]
 |false=>rw[if_neg (by decide)] at h2;rw[if_neg (by decide),if_neg (by decide),h1,h2]
theorem q4o{ks:List (PKey×Addr)}{k k':PKey}{b:Addr}(h:hasP ks k=true):hasP (ks++[(k',b)]) k=true:=by
 unfold hasP at *;rw[List.any_append,h,Bool.true_or]
theorem q7h{ks:List (PKey×Addr)}{k:PKey}{b:Addr}:hasP (ks++[(k,b)]) k=true:=by
 unfold hasP;rw[List.any_append,List.any_cons];simp
structure RwI (P:Program) (w:World) (H:Hp) (a b L Dr d:Addr) (bl:Bool) (i:Nat) (H':Hp) (zs:List Zr) (ds:List (Addr×Pth)) (ks:List (PKey×Addr)):Prop where
 fd:Fd a b H H'
 rl:RL H' L zs
 hl:Hl bl (zs.map (·.2))
 len:zs.length<=i
 da:H' Dr=some (.lst (ds.map fun z=>V.ref z.1))
 dt:∀z∈ds,H' z.1=some (.tup (vP z.2))/\(z.2=[]\/((z.2,none)∈zs.map (·.2)))
 dn:ds≠[]
 dl:ds.length<=i+1
 hd:DPr P w H' d ks
 kl:ks.length<=i
 hk:∀z∈zs,hasP ks (keyO bl z.2.1)=true
theorem DPr.fd{P:Program}{w:World}{H H':Hp}{a b d:Addr}{ks:List (PKey×Addr)}(x:DPr P w H d ks)(F:FeedAt H a b)(fd:Fd a b H H')(hd:d≠a):DPr P w H' d ks :=
 ⟨fd.at x.at_ hd,x.sys,x.len,fun y hy=>by obtain⟨c,e1,e2⟩:=x.pk y hy;exact⟨c,tupFd F fd _ _ e1,tupFd F fd _ _ e2⟩⟩
section
variable{H:Hp}{a b L Dr d:Addr}{bl:Bool}{i:Nat}{H' H2:Hp}{zs:List Zr}{ds:List (Addr×Pth)}{ks:List (PKey×Addr)}
theorem RwI.go(x:RwI P w H a b L Dr d bl i H' zs ds ks)(fd:Fd a b H' H2)(hL:L≠a)(hD:Dr≠a)(hd:d≠a):RwI P w H a b L Dr d bl i H2 zs ds ks :=
 ⟨x.fd.trans fd,x.rl.fd x.fd.feed fd hL,x.hl,x.len,fd.at x.da hD,fun z hz=>⟨tupFd x.fd.feed fd _ _ (x.dt z hz).1,(x.dt z hz).2⟩,x.dn,x.dl,DPr.fd x.hd x.fd.feed fd hd,x.kl,x.hk⟩
theorem RwI.sm(x:RwI P w H a b L Dr d bl i H' zs ds ks)(s:Same H' H2):RwI P w H a b L Dr d bl i H2 zs ds ks :=
 ⟨x.fd.same s,x.rl.same s,x.hl,x.len,s _ _ x.da,fun z hz=>⟨s _ _ (x.dt z hz).1,(x.dt z hz).2⟩,x.dn,x.dl,x.hd.same s,x.kl,x.hk⟩
theorem RwI.dput{k:PKey}{e:Addr}(x:RwI P w H a b L Dr d bl i H' zs ds ks)(F:FeedAt H a b)(hd:H d=none)(pk:PrK H' k e)(l:ks.length<sizeLine)(nLd:L≠d)(nDd:Dr≠d):RwI P w H a b L Dr d bl (i+1) (upd H' d (PdO P w d (ks++[(k,e)]))) zs ds (ks++[(k,e)]):=by
 have tk:∀S xs,H' S=some (.tup xs)->upd H' d (PdO P w d (ks++[(k,e)])) S=some (.tup xs):=fun S xs e=>by rw[q0c (fun z=>by rw[z,x.hd.at_] at e;cases e)];exact e
 exact⟨x.fd.put F hd,⟨by rw[q0c nLd];exact x.rl.at_,fun z hz=>PR.same (x.rl.pr z hz) tk⟩,x.hl,Nat.le_succ_of_le x.len,by rw[q0c nDd];exact x.da,fun z hz=>⟨tk _ _ (x.dt z hz).1,(x.dt z hz).2⟩,x.dn,Nat.le_succ_of_le x.dl,x.hd.put pk l,by rw[List.length_append];exact Nat.succ_le_succ x.kl,fun z hz=>q4o (x.hk z hz)⟩
theorem PR.put{T:Addr}{r:Rw}{ys xs:List V}(h:PR H' T (rR r))(hL:H' L=some (.lst xs)):PR (upd H' L (.lst ys)) T (rR r):=PR.same h fun S xs e=>by rw[q0c (fun z=>by rw[z,hL] at e;cases e)];exact e
theorem RwI.rput{T p:Addr}{q:Pth}{m:Option Int}(x:RwI P w H a b L Dr d bl (i+1) H' zs ds ks)(F:FeedAt H a b)(hL:H L=none)(nLd:L≠d)(nDL:Dr≠L)(hz:zs.length<=i)(hT:H' T=some (.tup [.ref p,mV m]))(hp:H' p=some (.tup (vP q)))(ok:okP q)(hnew:∀z∈zs,fold bl z.2.1≠fold bl q)(hq:q.dropLast=[]\/(q.dropLast,none)∈zs.map (·.2))(hk:hasP ks (keyO bl q)=true):RwI P w H a b L Dr d bl (i+1) (upd H' L (.lst (zs.map (fun z=>V.ref z.1)++[.ref T]))) (zs++[(T,(q,m))]) ds ks:=by
 have tk:∀S xs,H' S=some (.tup xs)->upd H' L (.lst (zs.map (fun z=>V.ref z.1)++[.ref T])) S=some (.tup xs):=fun S xs e=>by rw[q0c (fun z=>by rw[z,x.rl.at_] at e;cases e)];exact e
 have em:(zs++[(T,(q,m))]).map (·.2)=zs.map (·.2)++[(q,m)]:=by rw[List.map_append];rfl
 refine⟨x.fd.put F hL,⟨by rw[q0b,List.map_append];rfl,fun z hz=>?_⟩,?_,by rw[List.length_append];exact Nat.succ_le_succ hz,by rw[q0c nDL];exact x.da,fun z hz=>⟨tk _ _ (x.dt z hz).1,(x.dt z hz).2.imp id fun y=>by rw[em];exact List.mem_append_left _ y⟩,x.dn,x.dl,⟨by rw[q0c nLd.symm];exact x.hd.at_,x.hd.sys,x.hd.len,fun y hy=>by obtain⟨c,e1,e2⟩:=x.hd.pk y hy;exact⟨c,tk _ _ e1,tk _ _ e2⟩⟩,x.kl,fun z hz=>?_⟩
 ·rcases List.mem_append.mp hz with hz|hz
  ·exact PR.same (x.rl.pr z hz) tk
  ·rw[List.mem_singleton.mp hz];exact⟨p,tk _ _ hT,tk _ _ hp⟩
 ·rw[em];refine⟨fun r hr=>?_,?_,fun r hr=>?_⟩
  ·rcases List.mem_append.mp hr with hr|hr
   ·exact x.hl.ok r hr
   ·rw[List.mem_singleton.mp hr];exact ok
  ·rw[List.map_append];refine List.nodup_append.mpr ⟨x.hl.nd,(List.pairwise_singleton _ _),fun y hy y' hy'=>?_⟩;rw[List.mem_singleton.mp hy'];obtain⟨r,hr,rfl⟩:=List.mem_map.mp hy;obtain⟨z,hz,rfl⟩:=List.mem_map.mp hr;exact hnew z hz
  ·rcases List.mem_append.mp hr with hr|hr
   ·exact(x.hl.dr r hr).imp id fun z=>List.mem_append_left _ z
   ·rw[List.mem_singleton.mp hr];exact hq.imp id fun z=>List.mem_append_left _ z
 ·rcases List.mem_append.mp hz with hz|hz
  ·exact x.hk z hz
  ·rw[List.mem_singleton.mp hz];exact hk
theorem RwI.draw{p:Addr}{q:Pth}(x:RwI P w H a b L Dr d bl (i+1) H' zs ds ks)(F:FeedAt H a b)(hD:H Dr=none)(nDL:Dr≠L)(nDd:Dr≠d)(hl:ds.length<=i+1)(hp:H' p=some (.tup (vP q)))(hq:(q,none)∈zs.map (·.2)):RwI P w H a b L Dr d bl (i+1) (upd H' Dr (.lst (ds.map (fun z=>V.ref z.1)++[.ref p]))) zs (ds++[(p,q)]) ks:=by
 have tk:∀S xs,H' S=some (.tup xs)->upd H' Dr (.lst (ds.map (fun z=>V.ref z.1)++[.ref p])) S=some (.tup xs):=fun S xs e=>by rw[q0c (fun z=>by rw[z,x.da] at e;cases e)];exact e
 refine⟨x.fd.put F hD,⟨by rw[q0c nDL.symm];exact x.rl.at_,fun z hz=>PR.same (x.rl.pr z hz) tk⟩,x.hl,x.len,by rw[q0b,List.map_append];rfl,fun z hz=>?_,by simp,by rw[List.length_append];exact Nat.succ_le_succ hl,⟨by rw[q0c nDd.symm];exact x.hd.at_,x.hd.sys,x.hd.len,fun y hy=>by obtain⟨c,e1,e2⟩:=x.hd.pk y hy;exact⟨c,tk _ _ e1,tk _ _ e2⟩⟩,x.kl,x.hk⟩;rcases List.mem_append.mp hz with hz|hz
 ·exact⟨tk _ _ (x.dt z hz).1,(x.dt z hz).2⟩
 ·rw[List.mem_singleton.mp hz];exact⟨tk _ _ hp,.inr hq⟩
end
structure CallsN (P:Program) (w:World) (K:W.Frag) (mg:Str->Option Value) (base:Heap):Prop where
 draw:Cal P w K mg base "_law_draw" 1 ["_law_feed", "_law_many"] spDraw
 a_name:Cal P w K mg base "_law_a_name" 3 ["_law_feed"] spName
 fold:Cal P w K mg base "_law_fold" 1 ["_law_name", "_law_blind"] spFold
def spRows:Sp:=fun vs H Q _=>∃a b bl m,vs=[.ref a,.bl bl,.int m]/\FeedAt H a b/\0<=m/\m<=60/\∀L zs H',Fd a b H H'->H L=none->RL H' L zs->Hl bl (zs.map (·.2))->zs.length<=m.toNat->Q (.ref L) H'
abbrev z0d:Stmt:=top 29
theorem sc_rows:FnScope ["_law_feed", "_law_blind", "_law_most", "_law_rows_here", "_law_drawers", "_law_there", "_law_k", "_law_drawer", "_law_name", "_law_mark"] ["_law_feed", "_law_blind", "_law_most"] (defScope z0d):=⟨rfl,rfl,rfl,by decide +kernel,rfl,by decide +kernel,by decide +kernel⟩
theorem z9h(D:Df K mg "_law_rows" z0d ["_law_feed", "_law_blind", "_law_most"])(T:Txt mg)(C:CallsN P w K mg base):Cal P w K mg base "_law_rows" 4 ["_law_feed", "_law_blind", "_law_most"] spRows:=by
 refine D.cal sc_rows (fun vs H Q E h=>?_) (fun f cdv A outer s H vs Q E hr h=>?_)
 ·obtain⟨a,b,bl,m,rfl,_⟩:=h;rfl
 ·obtain⟨a,b,bl,m,rfl,F,hm0,hm1,k⟩:=h;refine⟨_,(q0e (q0j (i:=3) sc_rows.nd rfl (by first|exact Or.inl rfl|exact Or.inr rfl) (q1k q0d)) (q0e (q0j (i:=4) sc_rows.nd rfl (by first|exact Or.inl rfl|exact Or.inr rfl) (q1k (q0a (q1f q0d) q0d))) (q0e (q0j (i:=5) sc_rows.nd rfl (by first|exact Or.inl rfl|exact Or.inr rfl) (q7e P w rfl rfl)) (q0e (q1x PassesOwn.never rfl (q2w rfl T.b_range (q0a (pe_c C.draw hr (q0a (pv 0) (q0a (q1a q1d (pv 2) q0g) q0d))) q0d)) (q0i (i:=6) sc_rows.nd rfl (by first|exact Or.inl rfl|exact Or.inr rfl)) (q0e (q0j (i:=7) sc_rows.nd rfl (by first|exact Or.inl rfl|exact Or.inr rfl) (q0x (ix_k K rfl) (pv 4) (pe_c C.draw hr (q0a (pv 0) (q0a (q0l (q5e K rfl) (by rfl) T.b_len PySem.boot_len (q0a (pv 4) q0d)) q0d))) (fun _ _=>rfl))) (q0e (q0j (i:=8) sc_rows.nd rfl (by first|exact Or.inl rfl|exact Or.inr rfl) (pe_c C.a_name hr (q0a (pv 0) q0d))) (q0e (q0j (i:=9) sc_rows.nd rfl (by first|exact Or.inl rfl|exact Or.inr rfl) (q0x (ix_k K rfl) (q1k (q0a q7r (q0a q0g (q0a (pe_c C.draw hr (q0a (pv 0) (q0a q0g q0d))) (q0a (pe_c C.draw hr (q0a (pv 0) (q0a (q1a q1d (q1a z7h q0g q0g) q0g) q0d))) q0d))))) (pe_c C.draw hr (q0a (pv 0) (q0a q0g q0d))) (fun _ _=>rfl))) (q0f (q1l (pt_j (@PW.pt _ _ _ (q2v (q0k z5j (q0l (q5e K rfl) (by rfl) T.b_len PySem.boot_len (q0a (pv 7) q0d)) q0g (nomark _)) (q1q (q1t (q8y P w rfl rfl (q5p hr) (q1f (q0a (pv 7) (q0a (pe_c C.fold hr (q0a (pv 8) (q0a (pv 1) q0d))) q0d))) (pv 5))))))) (q0e (q9x P w rfl rfl (q5p hr) (pv 5) (q1f (q0a (pv 7) (q0a (pe_c C.fold hr (q0a (pv 8) (q0a (pv 1) q0d))) q0d))) q4r rfl) (q0e (q2n (@bm_k _ _ _ _ _ _ _ _ _ _ _ _ K rfl PySem.F.plainAttrs_list PySem.F.slot_list_append PySem.F.type_list_append q1y (pv 3) (q0a (q1f (q0a (q1a q7b (pv 7) (q1f (q0a (pv 8) q0d))) (q0a (pv 9) q0d))) q0d) (by rfl) (by rfl) (by rfl) (by rfl) (by rfl))) (q0f (q1l (q1t (z0l (pv 9))) (q0f (q2n (@bm_k _ _ _ _ _ _ _ _ _ _ _ _ K rfl PySem.F.plainAttrs_list PySem.F.slot_list_append PySem.F.type_list_append q1y (pv 4) (q0a (q1a q7b (pv 7) (q1f (q0a (pv 8) q0d))) q0d) (by rfl) (by rfl) (by rfl) (by rfl) (by rfl)))) q0n)))) q0n)))))) (q0f (q0m (pv 3))))))),?_⟩;refine⟨by show 0<=sizeLine;decide,fun L hL=>⟨by show 0<=sizeLine;decide,fun p0 hp0=>⟨by show 1<=sizeLine;decide,fun Dr hDr=>?_⟩⟩⟩;intro d hd hsys;have hLa:L≠a:=(q0h F.fa.choose_spec.choose_spec hL).symm;have s1:=(Same.refl H).new (o:=.lst []) hL;have s2:=s1.new (o:=.tup []) hp0;have s3:=s2.new (o:=.lst [.ref p0]) hDr;have s4:=s3.new (o:=PdO P w d []) hd;have hDrH:H Dr=none:=s2.free hDr;have hdH:H d=none:=s3.free hd;have hDa:Dr≠a:=(q0h F.fa.choose_spec.choose_spec hDrH).symm;have hda:d≠a:=(q0h F.fa.choose_spec.choose_spec hdH).symm;have hLp:p0≠L:=fun z=>by rw[z,q0b] at hp0;cases hp0
  have hLDr:Dr≠L:=fun z=>by rw[z,q0c hLp.symm,q0b] at hDr;cases hDr
  have hpDr:Dr≠p0:=fun z=>by rw[z,q0b] at hDr;cases hDr
  have hLd:d≠L:=fun z=>by rw[z,q0c hLDr.symm,q0c hLp.symm,q0b] at hd;cases hd
  have hDd:d≠Dr:=fun z=>by rw[z,q0b] at hd;cases hd
  have hpd:d≠p0:=fun z=>by rw[z,q0c hpDr.symm,q0b] at hd;cases hd
  have I0:RwI P w H a b L Dr d bl 0 (upd (upd (upd (upd H L (.lst [])) p0 (.tup [])) Dr (.lst [.ref p0])) d (PdO P w d [])) [] [(p0,[])] []:=by
   refine⟨(Fd.refl F).same s4,⟨?_,(fun _ h=>nomatch h)⟩,Hl.nil bl,Nat.le_refl _,?_,fun z hz=>?_,by simp,Nat.le_refl _,⟨q0b,hsys,Nat.zero_le _,(fun _ h=>nomatch h)⟩,Nat.le_refl _,(fun _ h=>nomatch h)⟩
   ·rw[q0c hLd.symm,q0c hLDr.symm,q0c hLp.symm];exact q0b
   ·rw[q0c hDd.symm];exact q0b
   ·rw[List.mem_singleton.mp hz];exact⟨by rw[q0c hpd.symm,q0c hpDr.symm];exact q0b,.inl rfl⟩
  refine⟨_,rfl,_,rfl,.inl ⟨_,_,rfl,rfl,a,b,_,rfl,I0.fd.feed,by lia,by lia,fun r0 H1 r00 r01 fd1=>?_⟩⟩;have I1:=I0.go fd1 hLa hDa hda;refine⟨r0,rfl,by lia,by lia,q3r (n:=r0.toNat) (fun i σ' H'=>∃zs ds ks x6 x7 x8 x9,σ'=[some (.ref a),some (.bl bl),some (.int m),some (.ref L),some (.ref Dr),some (.ref d),x6,x7,x8,x9]/\RwI P w H a b L Dr d bl i H' zs ds ks/\i<=r0.toNat) ⟨[],_,_,none,none,none,none,rfl,I1,Nat.zero_le _⟩ ?_ ?_⟩
  ·rintro i σ' H' hi ⟨zs,ds,ks,x6,x7,x8,x9,rfl,I2,_⟩;have hdl:=I2.dl;have hdn:0<ds.length:=List.length_pos_iff.mpr I2.dn;refine⟨_,rfl,_,rfl,_,rfl,_,_,rfl,.inl ⟨_,SqL.of I2.da,rfl⟩,a,b,_,rfl,I2.fd.feed,by rw[List.length_map];lia,by rw[List.length_map];lia,fun r1 H2 r10 r11 fd2=>?_⟩;have I3:=I2.go fd2 hLa hDa hda;rw[List.length_map] at r11;obtain⟨v,hv1,hv2⟩:=q6b (xs:=ds.map fun z=>V.ref z.1) r10 (by rw[List.length_map];exact r11);obtain⟨z,hz,rfl⟩:∃z∈ds,v=V.ref z.1:=by
    rw[List.getElem?_map] at hv1;cases e:ds[r1.toNat]? with
    |none=>rw[e] at hv1;cases hv1
    |some z=>rw[e] at hv1;cases hv1;exact⟨z,List.mem_of_getElem? e,rfl⟩
   refine .inl ⟨Dr,_,r1,_,rfl,rfl,SqL.of I3.da,hv2,?_⟩;refine⟨_,rfl,a,b,rfl,I3.fd.feed,fun t H3 okt fd3=>?_⟩;have I4:=I3.go fd3 hLa hDa hda;refine⟨_,rfl,a,b,_,rfl,I4.fd.feed,by decide,by decide,fun m1 H5 m10 m11 fd5=>?_⟩;have I5:=I4.go fd5 hLa hDa hda;refine⟨_,rfl,_,_,rfl,rfl,⟨by decide,by decide,by decide⟩,.inl ⟨_,_,rfl,rfl,a,b,_,rfl,I5.fd.feed,by decide,by decide,fun m2 H6 m20 m21 fd6=>⟨by show 4<=sizeLine;decide,fun M hM=>?_⟩⟩⟩;have I6:=I5.go fd6 hLa hDa hda;have hMa:M≠a:=(I6.fd.feed.na hM).symm;have I7:=I6.sm ((Same.refl H6).new (o:=.lst [.non,.int 0,.int m1,.int m2]) hM);refine⟨_,rfl,a,b,_,rfl,I7.fd.feed,by decide,by decide,fun m3 H8 m30 m31 fd8=>?_⟩;have I8:=I7.go fd8 hLa hDa hda;have hat:∃mk0:Option Int,atI [V.non,V.int 0,V.int m1,V.int m2] m3=some (mV mk0):=by
    have e:m3=0\/m3=1\/m3=2\/m3=3:=by lia
    rcases e with rfl|rfl|rfl|rfl
    ·exact⟨none,rfl⟩
    ·exact⟨some 0,rfl⟩
    ·exact⟨some m1,rfl⟩
    ·exact⟨some m2,rfl⟩
   obtain⟨mk0,hat⟩:=hat;refine .inl ⟨M,_,m3,_,rfl,rfl,SqL.of (fd8.at q0b hMa),hat,?_⟩;clear hat I7 I6 I5 I4 I3 fd2 fd3 fd5 fd6 hv1 hv2 hMa;obtain⟨zt,zd⟩:=I8.dt z hz;have hqne:z.2++[t]≠[]:=by simp
   have hk2:keyO bl (z.2++[t])=(kP z.2,.inr (mk (if bl then lowN t else t))):=by
    unfold keyO;rw[List.dropLast_concat,List.getLastD_concat]
   have pk:∀{H9:Hp} {p:Addr},H9 z.1=some (.tup (vP z.2))->H9 p=some (.tup [.ref z.1,.str (mk (if bl then lowN t else t))])->PrK H9 (keyO bl (z.2++[t])) p:=fun{H9 p} e1 e2=>by
    rw[hk2];exact⟨z.1,e2,by rw[q1u];exact e1⟩
   refine⟨fun bb H9=>RwI P w H a b L Dr d bl i H9 zs ds ks/\(bb=true->z.2.length<6/\hasP ks (keyO bl (z.2++[t]))=false),?_,?_⟩;rotate_left
   ·refine⟨_,rfl,_,_,rfl,.inr ⟨_,SqT.of zt,rfl⟩,_,_,rfl,rfl,_,rfl,?_⟩;refine iteB (fun hb=>?_) (fun hb=>⟨I8,(fun z=>by cases z)⟩);have hb':z.2.length<6:=by
     have e:=of_decide_eq_true hb;rw[q3k] at e;lia
    refine⟨_,rfl,_,rfl,_,rfl,t,bl,rfl,okt,by show 2<=sizeLine;decide,fun p2 hp2=>?_⟩;have s9:=(Same.refl H8).new (o:=.tup [.ref z.1,.str (mk (if bl then lowN t else t))]) hp2;exact⟨_,rfl,d,ks,p2,keyO bl (z.2++[t]),rfl,rfl,(I8.sm s9).hd,pk (s9 _ _ zt) q0b,_,rfl,I8.sm s9,fun e=>⟨hb',by simpa using e⟩⟩
   rintro bb H9 ⟨I9,hbb⟩;refine ite2 (fun hb=>?_) (fun hb=>⟨zs,ds,ks,_,_,_,_,rfl,⟨I9.fd,I9.rl,I9.hl,Nat.le_succ_of_le I9.len,I9.da,I9.dt,I9.dn,Nat.le_succ_of_le I9.dl,I9.hd,Nat.le_succ_of_le I9.kl,I9.hk⟩,hi⟩);obtain⟨h6,hno⟩:=hbb hb;obtain⟨zt9,_⟩:=I9.dt z hz;refine⟨_,rfl,_,rfl,_,rfl,_,rfl,t,bl,rfl,okt,by show 2<=sizeLine;decide,fun p3 hp3=>?_⟩;have sA:=(Same.refl H9).new (o:=.tup [.ref z.1,.str (mk (if bl then lowN t else t))]) hp3;have IA:=I9.sm sA;have pkA:=pk (sA _ _ zt9) (p:=p3) q0b;have ksl:ks.length<sizeLine:=by have:=I9.kl;exact small' (by lia)
   refine⟨d,ks,p3,keyO bl (z.2++[t]),rfl,rfl,rfl,IA.hd,pkA,hno,ksl,?_⟩;have IB:=IA.dput F hdH pkA ksl hLd.symm hDd.symm;have hl9:zs.length<=i:=I9.len;have hnew:∀y∈zs,fold bl y.2.1≠fold bl (z.2++[t]):=fun y hy e=>by
    have h1:=I9.hk y hy;rw[q5s (I9.hl.ok _ (List.mem_map.mpr ⟨y,hy,rfl⟩)).ne hqne e] at h1;rw[h1] at hno;cases hno
   have okp:okP (z.2++[t]):=by
    refine⟨by simp,by rw[List.length_append];show _+1<=6;lia,fun n hn=>?_⟩;rcases List.mem_append.mp hn with hn|hn
    ·rcases zd with e|e
     ·rw[e] at hn;cases hn
     ·exact(I9.hl.ok _ e).all n hn
    ·rw[List.mem_singleton.mp hn];exact okt
   have hqd:(z.2++[t]).dropLast=[]\/((z.2++[t]).dropLast,none)∈zs.map (·.2):=by rw[List.dropLast_concat];exact zd
   have hkB:hasP (ks++[(keyO bl (z.2++[t]),p3)]) (keyO bl (z.2++[t]))=true:=q7h;clear IA I8 zt zt9 pkA pk hno hbb I9 sA;generalize upd (upd H9 p3 (.tup [.ref z.1,.str (mk (if bl then lowN t else t))])) d _=HB at IB;generalize ks++[(keyO bl (z.2++[t]),p3)]=ks2 at IB hkB;obtain⟨ztB,_⟩:=IB.dt z hz;refine⟨_,rfl,.inl ⟨rfl,_,SqL.of IB.rl.at_⟩,_,rfl,_,rfl,by show 1<=sizeLine;decide,fun p4 hp4=>?_⟩;have s5:=(Same.refl HB).new (o:=.tup [.str (mk t)]) hp4;refine⟨z.1,p4,_,_,rfl,rfl,s5 _ _ ztB,q0b,by rw[q3k];exact small (by show _+1<=_;lia),fun p5 HC sC hp5 _=>?_⟩;have hp5':HC p5=some (.tup (vP (z.2++[t]))):=by rw[hp5];show _=some (HO.tup ((z.2++[t]).map _));rw[List.map_append];rfl
   have IC:=IB.sm (s5.trans sC);refine⟨_,rfl,by show 2<=sizeLine;decide,fun T1 hT1=>?_⟩;have sD:=(Same.refl HC).new (o:=.tup [.ref p5,mV mk0]) hT1;have ID:=IC.sm sD;refine⟨L,_,_,rfl,rfl,ID.rl.at_,by rw[List.length_map];exact small' (by lia),?_⟩;have IE:=ID.rput (m:=mk0) F hL hLd.symm hLDr hl9 q0b (sD _ _ hp5') okp hnew hqd hkB;have zE:=(IE.dt z hz).1;generalize upd (upd HC T1 (.tup [.ref p5,mV mk0])) L _=HE at IE zE;refine⟨_,rfl,_,rfl,?_⟩;cases mk0 with
   |some x=>exact iteF ⟨_,_,_,_,_,_,_,rfl,IE,hi⟩
   |none =>
    refine iteT ⟨_,rfl,.inl ⟨rfl,_,SqL.of IE.da⟩,_,rfl,_,rfl,by show 1<=sizeLine;decide,fun p6 hp6=>?_⟩;have s6:=(Same.refl HE).new (o:=.tup [.str (mk t)]) hp6;refine⟨z.1,p6,_,_,rfl,rfl,s6 _ _ zE,q0b,by rw[q3k];exact small (by show _+1<=_;lia),fun p7 HF sF hp7 _=>?_⟩;have hp7':HF p7=some (.tup (vP (z.2++[t]))):=by rw[hp7];show _=some (HO.tup ((z.2++[t]).map _));rw[List.map_append];rfl
    have IF:=IE.sm (s6.trans sF);refine⟨Dr,_,_,rfl,rfl,IF.da,by rw[List.length_map];exact small' (by lia),?_⟩;exact⟨_,_,_,_,_,_,_,rfl,IF.draw F hDrH hLDr hDd.symm hdl hp7' (by simp),hi⟩
  ·rintro σ' H' ⟨zs,ds,ks,x6,x7,x8,x9,rfl,I2,_⟩;exact⟨_,rfl,k L zs H' I2.fd hL I2.rl I2.hl (by have:=I2.len;lia)⟩
end
end K
set_option maxHeartbeats 4000000
namespace K
open PySem L2 TX SB HM
section
variable{P:Program}{w:World}{K:W.Frag}{mg:Str->Option Value}{base:Heap}
structure Hk (K:W.Frag) (c:Addr):Prop where
 cl:Cls K c
 b:NoAttr K c "blind"
 m:NoAttr K c "marks"
abbrev hF(bl:Bool)(d:Addr):List (Str×V):=[("blind",.bl bl),("marks",.ref d)]
structure HallAt (c:Addr) (H:Hp) (h d:Addr) (bl:Bool) (rows:List Rw):Prop where
 i:∃dx,H h=some (.ins c dx (hF bl d))
 d:H d=some (dR (rows.map rR))
theorem HallAt.same{c:Addr}{H H':Hp}{h d:Addr}{bl:Bool}{rows:List Rw}(x:HallAt c H h d bl rows)(s:Same H H'):HallAt c H' h d bl rows:=⟨x.i.imp fun dx e=>s _ _ e,s _ _ x.d⟩
def spAlike:Sp:=fun vs H Q _=>∃x y,vs=[.str x,.str y]/\(∀c∈tl x,c<128)/\(∀c∈tl y,c<128)/\x.length<=1000/\y.length<=1000/\Q (.bl (decide ((tl x).map PyProof.Rows.lo1=(tl y).map PyProof.Rows.lo1))) H
abbrev q7i:Stmt:=top 19
theorem z6r:FnScope ["one", "other"] ["one", "other"] (defScope q7i):=⟨rfl,rfl,rfl,by decide +kernel,rfl,by decide +kernel,by decide +kernel⟩
theorem z6s(D:Df K mg "alike" q7i ["one", "other"])(T:Txt mg):Cal P w K mg base "alike" 1 ["one", "other"] spAlike:=by
 refine D.cal z6r (fun vs H Q E h=>?_) (fun f cdv A outer s H vs Q E hr h=>?_)
 ·obtain⟨x,y,rfl,_⟩:=h;rfl
 ·obtain⟨x,y,rfl,ax,ay,lx,ly,k⟩:=h;refine⟨_,(q0f (q0m (q4t (eq_k K rfl hr) (@q9n _ _ _ _ _ _ _ _ _ K rfl PySem.F.plainAttrs_str PySem.F.slot_str_lower PySem.F.type_str_lower q4m (pv 0) (by rfl) (by rfl)) (@q9n _ _ _ _ _ _ _ _ _ K rfl PySem.F.plainAttrs_str PySem.F.slot_str_lower PySem.F.type_str_lower q4m (pv 1) (by rfl) (by rfl)) (nomark _)))),?_⟩;refine⟨_,rfl,rfl,_,rfl,rfl,small (by lia),⟨_,rfl,rfl,_,rfl,rfl,small (by lia),.inl ⟨rfl,?_⟩⟩⟩;have e:decide ((V.str (PySem.Txt.lower x))=V.str (PySem.Txt.lower y))=decide ((tl x).map PyProof.Rows.lo1=(tl y).map PyProof.Rows.lo1):=by
   rw[<- TX.lower ax,<- TX.lower ay];by_cases h:PySem.Txt.lower x=PySem.Txt.lower y
   ·rw[h];simp
   ·rw[decide_eq_false (fun z=>h (V.str.inj z)),decide_eq_false (fun z=>h (TX.ext z))]
  rw[e];exact k
structure CallsH (P:Program) (w:World) (K:W.Frag) (mg:Str->Option Value) (base:Heap):Prop where
 alike:Cal P w K mg base "alike" 1 ["one", "other"] spAlike
theorem q2h{p:Pth}(h:Low p):Low p.dropLast:=fun n hn=>h n (List.dropLast_subset _ hn)
def spOneP(c:Addr):Sp:=fun vs H Q _=>∃h p q bl dx fs one other,vs=[.ref h,.ref p,.ref q]/\H h=some (.ins c dx fs)/\fs.lookup ("blind" : Str)=some (V.bl bl)/\H p=some (.tup (vP one))/\H q=some (.tup (vP other))/\okP one/\okP other /\
 ∀H',Same H H'->Q (.bl (decide (fold bl one=fold bl other))) H'
abbrev q1e:Stmt:=inClass (top 21) 3
theorem q3i:FnScope ["self", "one", "other"] ["self", "one", "other"] (defScope q1e):=⟨rfl,rfl,rfl,by decide +kernel,rfl,by decide +kernel,by decide +kernel⟩
theorem q9a{c:Addr}(D:Mf K c "is_one_place" "Hall.is_one_place" q1e ["self", "one", "other"])(hk:Hk K c)(T:Txt mg)(C:CallsH P w K mg base):MCal P w K mg base c "is_one_place" 2 ["self", "one", "other"] (spOneP c):=by
 refine D.cal hk.cl q3i (fun vs H Q E h=>?_) (fun f cdv A outer s H vs Q E hr h=>?_)
 ·obtain⟨h,p,q,bl,dx,fs,one,other,rfl,_⟩:=h;rfl
 ·obtain⟨h,p,q,bl,dx,fs,one,other,rfl,hh,hb,hp,hq,ok1,ok2,k⟩:=h;refine⟨_,(q0e (q1l (q0k (ne_k K rfl hr) (q0t (sl_k K rfl) (pv 1) q1b (q1c (q1o q0s q0g))) (q0t (sl_k K rfl) (pv 2) q1b (q1c (q1o q0s q0g))) (nomark _)) (q0f (q0m q4r)) q0n) (q0e (q1l (@q6x _ _ _ K rfl (@z2c _ _ _ _ _ K rfl (pv 0) (by rfl)) (fun _=>rfl)) (q0f (q0m (pe_c C.alike hr (q0a (q0x (ix_k K rfl) (pv 1) (q1o q0s q0g) (fun _ _=>rfl)) (q0a (q0x (ix_k K rfl) (pv 2) (q1o q0s q0g) (fun _ _=>rfl)) q0d))))) q0n) (q0f (q0m (q4t (eq_k K rfl hr) (q0x (ix_k K rfl) (pv 1) (q1o q0s q0g) (fun _ _=>rfl)) (q0x (ix_k K rfl) (pv 2) (q1o q0s q0g) (fun _ _=>rfl)) (nomark _)))))),?_⟩;obtain⟨c1,c2⟩:=q1g ok1.ne;obtain⟨d1,d2⟩:=q1g ok2.ne;refine⟨_,rfl,_,rfl,_,rfl,.inr (.inr ⟨p,_,rfl,SqT.of hp,c2,fun p1 hp1=>?_⟩)⟩;rw[c1];have s1:=(Same.refl H).new (o:=.tup (vP one.dropLast)) hp1;refine⟨_,rfl,_,rfl,_,rfl,.inr (.inr ⟨q,_,rfl,SqT.of (s1 _ _ hq),d2,fun p2 hp2=>?_⟩)⟩;rw[d1];have s2:=s1.new (o:=.tup (vP other.dropLast)) hp2;have hp1':upd (upd H p1 (.tup (vP one.dropLast))) p2 (.tup (vP other.dropLast)) p1=some (.tup (vP one.dropLast)):=by
   rw[q0c (fun z=>by rw[<- z,q0b] at hp2;cases hp2)];exact q0b
  generalize hH2:upd (upd H p1 (.tup (vP one.dropLast))) p2 (.tup (vP other.dropLast))=H2 at s2 hp1';have hp2':H2 p2=some (.tup (vP other.dropLast)):=by rw[<- hH2];exact q0b
  have fe:=q7c (bl:=bl) ok1.ne ok2.ne;refine q2g hp1' hp2' (q2h ok1.low) (q2h ok2.low) ⟨_,rfl,ite2 (fun hne=>?_) (fun hne=>?_)⟩
  ·have hne':one.dropLast≠other.dropLast:=by simpa using hne
   have e:decide (fold bl one=fold bl other)=false:=decide_eq_false fun z=>hne' (fe.mp z).1;refine(?_:Q _ _);rw[<- e];exact k _ s2
  ·have heq:one.dropLast=other.dropLast:=by simpa using hne
   refine⟨_,rfl,h,c,dx,fs,_,rfl,s2 _ _ hh,hk.cl,hk.b,hb,_,rfl,?_⟩;have l1:=q4c ok1;have l2:=q4c ok2;cases bl with
   |true =>
    refine iteT ⟨_,rfl,_,rfl,.inr (.inl ⟨p,_,-1,_,rfl,rfl,SqT.of (s2 _ _ hp),q3a ok1.ne,?_⟩)⟩;refine⟨_,rfl,_,rfl,.inr (.inl ⟨q,_,-1,_,rfl,rfl,SqT.of (s2 _ _ hq),q3a ok2.ne,?_⟩)⟩;refine⟨_,_,rfl,by rw[q2j];exact l1.low,by rw[q2j];exact l2.low,by rw[q8j];have:=l1.few;lia,by rw[q8j];have:=l2.few;lia,?_⟩;rw[q2j,q2j];have e:decide (fold true one=fold true other)=decide (lowN (one.getLastD [])=lowN (other.getLastD [])):=by
     refine decide_eq_decide.mpr (fe.trans ⟨fun z=>by simpa using z.2,fun z=>⟨heq,by simpa using z⟩⟩)
    have:=k _ s2;rw[e] at this;exact this
   |false =>
    refine iteF ⟨_,rfl,_,rfl,.inr (.inl ⟨p,_,-1,_,rfl,rfl,SqT.of (s2 _ _ hp),q3a ok1.ne,?_⟩)⟩;refine⟨_,rfl,_,rfl,.inr (.inl ⟨q,_,-1,_,rfl,rfl,SqT.of (s2 _ _ hq),q3a ok2.ne,?_⟩)⟩;refine .inl ⟨rfl,?_⟩;have e:decide (fold false one=fold false other)=decide (V.str (mk (one.getLastD []))=V.str (mk (other.getLastD []))):=by
     refine decide_eq_decide.mpr (fe.trans ⟨fun z=>?_,fun z=>⟨heq,?_⟩⟩)
     ·have:=z.2;simp only[Bool.false_eq_true,if_false] at this;rw[this]
     ·simp only[Bool.false_eq_true,if_false];exact SB.mk_inj (V.str.inj z)
    have:=k _ s2;rw[e] at this;exact this
def spThere(c:Addr):Sp:=fun vs H Q _=>∃h d p bl rows place,vs=[.ref h,.ref p]/\HallAt c H h d bl rows/\H p=some (.tup (vP place))/\okP place/\(∀r∈rows,okP r.1) /\
 (∀H',Same H H'->(∀r∈rows,fold bl r.1≠fold bl place)->Q .non H')/\∀H' b r,Same H H'->r∈rows->fold bl r.1=fold bl place->H' b=some (.tup (vP r.1))->Q (.ref b) H'
structure CallsI (P:Program) (w:World) (K:W.Frag) (mg:Str->Option Value) (base:Heap) (c:Addr):Prop where
 m_is_one_place:MCal P w K mg base c "is_one_place" 2 ["self", "one", "other"] (spOneP c)
theorem q3c{H H':Hp}{d:Addr}{o:HO}(hd:H d=some o)(k:∀a u,a≠d->H a=some u->H' a=some u):Same H (upd H' d o):=fun a u e=>by
 by_cases z:a=d
 ·subst z;rw[q0b,<- hd];exact e
 ·rw[q0c z];exact k a u z e
abbrev q2q:Stmt:=inClass (top 21) 4
theorem sc_Hall_there:FnScope ["self", "place", "path"] ["self", "place"] (defScope q2q):=⟨rfl,rfl,rfl,by decide +kernel,rfl,by decide +kernel,by decide +kernel⟩
theorem z6t{c:Addr}(D:Mf K c "there" "Hall.there" q2q ["self", "place"])(hk:Hk K c)(T:Txt mg)(C:CallsI P w K mg base c):MCal P w K mg base c "there" 3 ["self", "place"] (spThere c):=by
 refine D.cal hk.cl sc_Hall_there (fun vs H Q E h=>?_) (fun f cdv A outer s H vs Q E hr h=>?_)
 ·obtain⟨h,d,p,bl,rows,place,rfl,_⟩:=h;rfl
 ·obtain⟨h,d,p,bl,rows,place,rfl,hh,hp,ok,oks,k1,k2⟩:=h;refine⟨_,(q0e (q9u H rfl (q1x PassesOwn.never rfl (@q8l _ _ _ _ K rfl (@z2c _ _ _ _ _ K rfl (pv 0) (by rfl))) (q0i (i:=2) sc_Hall_there.nd rfl (by first|exact Or.inl rfl|exact Or.inr rfl)) (q0f (q1l (@q6x _ _ _ K rfl (pe_m C.m_is_one_place hr (pv 0) (q0a (pv 2) (q0a (pv 1) q0d))) (fun _=>rfl)) (q0f (q0m (pv 2))) q0n)))) (q0f (q0m q7r))),?_⟩;obtain⟨dx,hi⟩:=hh.i;have hd:=hh.d;have hhd:h≠d:=fun z=>by rw[z,hd] at hi;cases hi
  have hpd:p≠d:=fun z=>by rw[z,hd] at hp;cases hp
  refine⟨d,(fun o v e=>by rw[hd] at e;cases e),?_⟩;refine⟨_,rfl,h,c,dx,_,_,rfl,hi,hk.cl,hk.m,rfl,d,_,rfl,hd,fun ob=>?_⟩;refine q5g (fun i σ' H'=>(∃x,σ'=[some (.ref h),some (.ref p),x])/\H' d=some (.frz ob (dR (rows.map rR)))/\(∀a u,a≠d->H a=some u->H' a=some u)/\∀r∈rows.take i,fold bl r.1≠fold bl place)
   ⟨⟨none,rfl⟩,q0b,fun a u n e=>by rw[q0c n];exact e,fun r hr=>by rw[List.take_zero] at hr;cases hr⟩ (fun i σ' H' x=>x.2.1) ?_ ?_
  ·rintro i ky v b σ' H' hk' hb ⟨⟨x,rfl⟩,hfz,kp,hno⟩;obtain⟨r,hr,rfl,rfl⟩:∃r,rows[i]?=some r/\ky=kP r.1/\v=mV r.2:=by
    rw[List.getElem?_map,List.getElem?_map] at hk';cases e:rows[i]? with
    |none=>rw[e] at hk';cases hk'
    |some r=>rw[e] at hk';cases hk';exact⟨r,rfl,rfl,rfl⟩
   have hrm:=List.mem_of_getElem? hr;rw[q1u] at hb;refine⟨_,rfl,h,dx,_,rfl,kp _ _ hhd hi,rfl,_,rfl,_,rfl,h,b,p,bl,dx,_,r.1,place,rfl,kp _ _ hhd hi,rfl,hb,kp _ _ hpd hp,oks r hrm,ok,fun H2 s2=>⟨_,rfl,?_⟩⟩;have kp2:∀a u,a≠d->H a=some u->H2 a=some u:=fun a u n e=>s2 _ _ (kp a u n e);refine iteB (fun he=>?_) (fun he=>?_)
   ·refine⟨_,rfl,ob,_,s2 _ _ hfz,k2 _ b r (q3c hd kp2) hrm (of_decide_eq_true he) ?_⟩;rw[q0c (fun z=>by rw[z,hfz] at hb;cases hb)];exact s2 _ _ hb
   ·refine⟨⟨_,rfl⟩,s2 _ _ hfz,kp2,fun y hy=>?_⟩;rw[List.take_add_one,hr] at hy;rcases List.mem_append.mp hy with hy|hy
    ·exact hno y hy
    ·cases List.mem_singleton.mp hy;exact of_decide_eq_false he
  ·rintro σ' H' ⟨⟨x,rfl⟩,hfz,kp,hno⟩;refine⟨ob,_,hfz,k1 _ (q3c hd kp) fun r hr=>hno r ?_⟩;rw[List.length_map,List.length_map,List.take_length];exact hr
def spHRows(c:Addr):Sp:=fun vs H Q _=>∃h d bl rows,vs=[.ref h]/\HallAt c H h d bl rows/\rows.length<64/\(∀r∈rows,Low r.1) /\
 ∀L zs H',H L=none->Same H H'->RL H' L zs->(zs.map (·.2)).Perm rows->(zs.map (·.2.1)).Pairwise (fun a b=>pLt b a=false)->Q (.ref L) H'
abbrev q3d:Stmt:=inClass (top 21) 1
theorem q9b:FnScope ["self"] ["self"] (defScope q3d):=⟨rfl,rfl,rfl,by decide +kernel,rfl,by decide +kernel,by decide +kernel⟩
theorem z6u{c:Addr}(D:Mf K c "rows" "Hall.rows" q3d ["self"])(hk:Hk K c)(T:Txt mg):MCal P w K mg base c "rows" 2 ["self"] (spHRows c):=by
 refine D.cal hk.cl q9b (fun vs H Q E h=>?_) (fun f cdv A outer s H vs Q E hr h=>?_)
 ·obtain⟨h,d,bl,rows,rfl,_⟩:=h;rfl
 ·obtain⟨h,d,bl,rows,rfl,hh,h64,hlow,k⟩:=h;refine⟨_,(q0f (q0m (q0l (z2a hr) (by rfl) T.b_sorted (by decide +kernel) (q0a (@q9n _ _ _ _ _ _ _ _ _ K rfl PySem.F.plainAttrs_dict PySem.F.slot_dict_items PySem.F.type_dict_items z6h (@z2c _ _ _ _ _ K rfl (pv 0) (by rfl)) (by rfl) (by rfl)) q0d)))),?_⟩;obtain⟨dx,hi⟩:=hh.i;refine⟨_,rfl,h,c,dx,_,_,rfl,hi,hk.cl,hk.m,rfl,.inr (.inr (.inl ⟨rfl,.inr ⟨_,hh.d⟩⟩)),d,_,rfl,rfl,hh.d,fun v hv=>?_⟩;have s1:=(Same.refl H).new (o:=vwO v d) hv;refine⟨v,d,rows.map rR,rfl,q0b,s1 _ _ hh.d,by rw[List.length_map];exact h64,fun r hr=>?_,fun L as rs H' hL hp hs sm hLL prs=>?_⟩
  ·obtain⟨x,hx,rfl⟩:=List.mem_map.mp hr;exact hlow x hx
  ·obtain⟨rows',p',rfl⟩:=perm_map_inv hp rfl;obtain⟨zs,z1,z2,z3⟩:=zs_of prs rfl;refine k L zs H' (s1.free hL) (s1.trans sm) ⟨?_,z3⟩ (by rw[z2];exact p') ?_
   ·rw[hLL,<- z1,List.map_map];rfl
   ·have e:zs.map (·.2.1)=(rows'.map rR).map (·.1):=by rw[<- z2,List.map_map,List.map_map];rfl
    rw[e];exact hs
theorem z1e{α:Type}:∀{l:List α} {i:Nat} {r:α},l[i]?=some r->l=l.take i++r::l.drop (i+1)
 |[],_,_,h=>by cases h
 |a::l,0,_,h=>by cases h;rfl
 |a::l,i+1,r,h=>by show a::l=a::(l.take i++r::l.drop (i+1));rw[<- z1e (l:=l) (i:=i) h]
theorem z0e{α β:Type}{f:α->β}{l:List α}{i:Nat}{r r':α}(nd:(l.map f).Nodup)(hr:l[i]?=some r)(hr':r'∈l.take i):f r'≠f r:=by
 rw[z1e hr,List.map_append,List.map_cons] at nd;exact fun z=>(List.nodup_append.mp nd).2.2 _ (List.mem_map.mpr ⟨r',hr',rfl⟩) _ List.mem_cons_self z
structure InInv (c:Addr) (H:Hp) (x dx d Dr:Addr) (bl:Bool) (rows:List Rw) (ys:List (List Key×V)) (i:Nat) (H':Hp):Prop where
 ins:H' x=some (.ins c dx (hF bl d))
 d:H' d=some (dR ((rows.take i).map rR))
 r:H' Dr=some (.dT ys)
 k:∀a u,a≠x->H a=some u->H' a=some u
theorem InInv.same{c:Addr}{H H' H2:Hp}{x dx d Dr:Addr}{bl:Bool}{rows:List Rw}{ys:List (List Key×V)}{i:Nat}(v:InInv c H x dx d Dr bl rows ys i H')(s:Same H' H2):InInv c H x dx d Dr bl rows ys i H2:=⟨s _ _ v.ins,s _ _ v.d,s _ _ v.r,fun a u n e=>s _ _ (v.k a u n e)⟩
def spInit(c:Addr):Sp:=fun vs H Q _=>∃x dx L bl zs,vs=[.ref x,.ref L,.bl bl]/\H x=some (.ins c dx [])/\RL H L zs/\Hl bl (zs.map (·.2))/\zs.length<=60 /\
 ∀d H',H d=none->H' x=some (.ins c dx (hF bl d))->H' d=some (dR ((zs.map (·.2)).map rR))->(∀a u,a≠x->H a=some u->H' a=some u)->Q .non H'
structure CallsK (P:Program) (w:World) (K:W.Frag) (mg:Str->Option Value) (base:Heap) (c:Addr):Prop where
 m_there:MCal P w K mg base c "there" 3 ["self", "place"] (spThere c)
abbrev q0r:Stmt:=inClass (top 21) 0
theorem sc_Hall___init__:FnScope ["self", "rows", "blind", "drawers", "at", "path", "mark", "drawer"] ["self", "rows", "blind"] (defScope q0r):=⟨rfl,rfl,rfl,by decide +kernel,rfl,by decide +kernel,by decide +kernel⟩
theorem z9i{c:Addr}(D:Kf K mg c "Hall" "Hall.__init__" q0r ["self", "rows", "blind"])(hk:Hk K c)(T:Txt mg)(C:CallsK P w K mg base c):KCal P w K mg base c "Hall" 4 ["self", "rows", "blind"] (spInit c):=by
 refine D.cal sc_Hall___init__ (fun vs H Q E h=>?_) (fun f cdv A outer s H vs Q E hr h=>?_)
 ·obtain⟨x,dx,L,bl,zs,rfl,_⟩:=h;rfl
 ·obtain⟨x,dx,L,bl,zs,rfl,hx,hl,hH,h60,k⟩:=h;refine⟨_,(q0e (@z7p _ _ _ _ _ _ _ _ K rfl (pv 0) (pv 2) (by rfl)) (q0e (@z7p _ _ _ _ _ _ _ _ K rfl (pv 0) q3u (by rfl)) (q0e (z6j (i:=3) ["path", "mark"] [] sc_Hall___init__.nd rfl (by first|exact Or.inl rfl|exact Or.inr rfl) rfl (@q3n _ _ _ _ K rfl (pv 1)) (fun _ _ _ _ _=>(@q2y _ _ _ _ (2) _ K rfl rfl (q0o (q0i (i:=0) (show(["path", "mark"]:List Str).Nodup by decide +kernel) rfl (by first|exact Or.inl rfl|exact Or.inr rfl)) (q0o (q0i (i:=1) (show(["path", "mark"]:List Str).Nodup by decide +kernel) rfl (by first|exact Or.inl rfl|exact Or.inr rfl)) q1w)) (by rfl) (by rfl))) (fun _ _ _ _ _=>(q2x (q1t (z0l (pv 1))))) (fun _ _ _ _ _=>(pv 0)) (fun _ _ _ _ _=>q4r) (q1h hr)) (q0f (q1x PassesOwn.never rfl (@z3u _ _ _ _ _ _ _ _ K rfl rfl T.b_enumerate (q0a (pv 1) q0d) (by rfl)) (@q2y _ _ _ _ (2) _ K rfl rfl (q0o (q0i (i:=4) sc_Hall___init__.nd rfl (by first|exact Or.inl rfl|exact Or.inr rfl)) (q0o (@q2y _ _ _ _ (2) _ K rfl rfl (q0o (q0i (i:=5) sc_Hall___init__.nd rfl (by first|exact Or.inl rfl|exact Or.inr rfl)) (q0o (q0i (i:=6) sc_Hall___init__.nd rfl (by first|exact Or.inl rfl|exact Or.inr rfl)) q1w)) (by rfl) (by rfl)) q1w)) (by rfl) (by rfl)) (q0e (q0j (i:=7) sc_Hall___init__.nd rfl (by first|exact Or.inl rfl|exact Or.inr rfl) (q0t (sl_k K rfl) (pv 5) q1b (q1c (q1o q0s q0g)))) (q0e (q1l (pt_j (@PW.pt _ _ _ (q2v (q0k (ne_k K rfl hr) (pv 7) (q1f q0d) (nomark _)) (q1q (q1t (q8i (q1h hr) (pv 7) (pv 3))))))) (q0f q4k) q0n) (q0e (q1l (q1t (q3l (pe_m C.m_there hr (pv 0) (q0a (pv 5) q0d)))) (q0f q4k) q0n) (q0f (q5f (q1h hr) (@z2c _ _ _ _ _ K rfl (pv 0) (by rfl)) (pv 5) (pv 6) rfl)))))))))),?_⟩;have hLx:L≠x:=fun z=>by have e:=hl.at_;rw[z,hx] at e;cases e
  refine⟨_,rfl,_,rfl,x,c,dx,_,rfl,hx,hk.cl,hk.b,by decide,?_⟩;intro d hd;have hdx:d≠x:=fun z=>by rw[z,q0b] at hd;cases hd
  have hdH:H d=none:=by rw[q0c hdx] at hd;exact hd
  refine⟨_,rfl,x,c,dx,_,rfl,by rw[q0c hdx.symm];exact q0b,hk.cl,hk.m,by show 1<1000;decide,?_⟩;have pf:putF ("marks" : Str) (V.ref d) (putF ("blind" : Str) (V.bl bl) [])=hF bl d:=rfl;generalize hH3:upd (upd (upd H x (.ins c dx (putF ("blind" : Str) (.bl bl) []))) d (.dT [])) x (.ins c dx (putF ("marks" : Str) (.ref d) (putF ("blind" : Str) (.bl bl) [])))=H3;have k3:∀a u,a≠x->H a=some u->H3 a=some u:=fun a u n e=>by
   rw[<- hH3,q0c n,q0c (fun z=>by rw[z,hdH] at e;cases e),q0c n];exact e
  have i3:H3 x=some (.ins c dx (hF bl d)):=by rw[<- hH3,<- pf];exact q0b
  have d3:H3 d=some (.dT []):=by rw[<- hH3,q0c hdx];exact q0b
  have hl3:∀{H':Hp},(∀a u,a≠x->H a=some u->H' a=some u)->RL H' L zs:=fun{H'} kk=>⟨kk _ _ hLx hl.at_,fun z hz=>PR.same (hl.pr z hz) fun T' xs e=>kk _ _ (fun y=>by rw[y,hx] at e;cases e) e⟩
  refine⟨_,rfl,.inl ⟨L,rfl,⟨_,SqL.of (hl3 k3).at_⟩,fun Dr hDr=>?_⟩⟩;refine q6h (fun i ys H'=>H' Dr=some (.dT ys)/\Same H3 H'/\ys.length<=i/\i<=zs.length/\∀p,(p,none)∈(zs.take i).map (·.2)->(valV ys (kP p)).isSome=true) ⟨q0b,(Same.refl H3).new hDr,Nat.le_refl _,Nat.zero_le _,fun p hp=>by rw[List.take_zero] at hp;cases hp⟩ (fun i ys H' h=>⟨h.1,SqL.of (h.2.1 _ _ (hl3 k3).at_)⟩) ?_ ?_
  ·rintro i ys H' v hv ⟨hD',s',hlen,_,hsome⟩;obtain⟨z,hz,rfl⟩:∃z,zs[i]?=some z/\v=.ref z.1:=by
    rw[List.getElem?_map] at hv;cases e:zs[i]? with
    |none=>rw[e] at hv;cases hv
    |some z=>rw[e] at hv;cases hv;exact⟨z,rfl,rfl⟩
   have hi:i<zs.length:=(List.getElem?_eq_some_iff.mp hz).1;obtain⟨b,h1,h2⟩:=((hl3 k3).same s').pr z (List.mem_of_getElem? hz);refine⟨z.1,_,rfl,SqT.of h1,rfl,_,_,rfl,_,_,rfl,rfl,q6a,?_⟩;refine⟨_,rfl,_,rfl,?_⟩;refine iteB (fun hm=>?_) (fun hm=>?_)
   ·refine⟨_,rfl,kP z.2.1,b,rfl,by rw[q1u];exact h2,hD',small' (by lia),q0b,fun a u e=>?_,?_,hi,fun p hp=>?_⟩
    ·rw[q0c (fun y=>by rw[y] at e;rw[hDr] at e;cases e)];exact s' _ _ e
    ·have:=q2a ys (kP z.2.1) (.bl true);lia
    ·rw[z6b];by_cases e:kP p=kP z.2.1
     ·rw[if_pos e];rfl
     ·rw[if_neg e];rw[List.take_add_one,hz,List.map_append] at hp;rcases List.mem_append.mp hp with hp|hp
      ·exact hsome p hp
      ·exfalso;have e2:(p,none)=z.2:=List.mem_singleton.mp hp;exact e (by rw[<- e2])
   ·refine⟨hD',s',by lia,hi,fun p hp=>?_⟩;rw[List.take_add_one,hz,List.map_append] at hp;rcases List.mem_append.mp hp with hp|hp
    ·exact hsome p hp
    ·exfalso;have e:(p,none)=z.2:=List.mem_singleton.mp hp;refine of_decide_eq_false hm ?_;show mV z.2.2=_;rw[<- e];rfl
  ·rintro ys H' ⟨hD',s',hlen,_,hsome⟩;rw[List.length_map,List.take_length] at hsome;have I0:InInv c H x dx d Dr bl (zs.map (·.2)) ys 0 H':=⟨s' _ _ i3,s' _ _ d3,hD',fun a u n e=>s' _ _ (k3 a u n e)⟩
   have hDx:Dr≠x:=fun z=>by rw[z,i3] at hDr;cases hDr
   have hDd:Dr≠d:=fun z=>by rw[z,d3] at hDr;cases hDr
   refine⟨_,rfl,.inr ⟨L,_,rfl,SqL.of (hl3 I0.k).at_,?_⟩⟩;refine q5n (fun i σ' H2=>∃x4 x5 x6 x7,σ'=[some (.ref x),some (.ref L),some (.bl bl),some (.ref Dr),x4,x5,x6,x7]/\InInv c H x dx d Dr bl (zs.map (·.2)) ys i H2) ⟨none,none,none,none,rfl,I0⟩ (fun i σ' H2 h=>by obtain⟨_,_,_,_,_,h⟩:=h;exact SqL.of (hl3 h.k).at_) ?_ ?_
   ·rintro i v T' σ' H2 hv ⟨x4,x5,x6,x7,rfl,I⟩ hT;obtain⟨z,hz,rfl⟩:∃z,zs[i]?=some z/\v=.ref z.1:=by
     rw[List.getElem?_map] at hv;cases e:zs[i]? with
     |none=>rw[e] at hv;cases hv
     |some z=>rw[e] at hv;cases hv;exact⟨z,rfl,rfl⟩
    have hi:i<zs.length:=(List.getElem?_eq_some_iff.mp hz).1;have hzr:(zs.map (·.2))[i]?=some z.2:=by rw[List.getElem?_map,hz];rfl
    have hzm:=List.mem_of_getElem? hzr;have okz:=hH.ok _ hzm;have sT:=(Same.refl H2).new (o:=.tup [.int i,.ref z.1]) hT;have I1:=I.same sT;obtain⟨b,h1,h2⟩:=(hl3 I1.k).pr z (List.mem_of_getElem? hz);refine⟨T',_,rfl,SqT.of q0b,rfl,_,_,rfl,_,_,rfl,z.1,_,rfl,SqT.of h1,rfl,_,_,rfl,_,_,rfl,rfl,rfl,?_⟩;generalize upd H2 T' (.tup [.int i,.ref z.1])=H4 at sT I1 h1 h2;replace h1:H4 z.1=some (.tup [.ref b,mV z.2.2]):=h1;replace h2:H4 b=some (.tup (vP z.2.1)):=h2;obtain⟨c1,c2⟩:=q1g okz.ne;refine⟨_,rfl,_,rfl,_,rfl,.inr (.inr ⟨b,_,rfl,SqT.of (xs:=vP z.2.1) h2,c2,fun p1 hp1=>?_⟩)⟩;rw[c1];have s5:=(Same.refl H4).new (o:=.tup (vP z.2.1.dropLast)) hp1;have I2:=I1.same s5;have h2':=s5 _ _ h2;have hp1':upd H4 p1 (.tup (vP z.2.1.dropLast)) p1=some (.tup (vP z.2.1.dropLast)):=q0b;generalize upd H4 p1 (.tup (vP z.2.1.dropLast))=H5 at s5 I2 h2' hp1';refine⟨fun bb H6=>bb=false/\Same H5 H6,?_,?_⟩
    ·rintro bb H6 ⟨rfl,s6⟩;refine iteF ?_;have I3:=I2.same s6;refine⟨_,rfl,x,dx,_,rfl,I3.ins,rfl,_,rfl,x,d,b,bl,_,z.2.1,rfl,⟨⟨dx,I3.ins⟩,I3.d⟩,s6 _ _ h2',okz,fun r hr=>hH.ok r (List.mem_of_mem_take hr),fun H7 s7 _=>?_,fun H7 b' r s7 hr e _=>absurd e (z0e (f:=fun r:Rw=>fold bl r.1) hH.nd hzr hr)⟩;refine⟨_,rfl,iteF ?_⟩;have I4:=I3.same s7;refine⟨_,rfl,_,rfl,x,c,dx,_,_,rfl,I4.ins,hk.cl,hk.m,rfl,_,rfl,d,_,rfl,DPut.t (k:=kP z.2.1) I4.d (by rw[q1u];exact s7 _ _ (s6 _ _ h2')) (by rw[List.length_map,List.length_map,List.length_take,List.length_map];exact small' (by lia)),?_⟩;have hnew:∀r∈((zs.map (·.2)).take i).map rR,r.1≠z.2.1:=fun r hr=>by
      obtain⟨y,hy,rfl⟩:=List.mem_map.mp hr;exact z0e (f:=fun r:Rw=>r.1) hH.paths hzr hy
     rw[q2p hnew];refine⟨_,_,_,_,rfl,?_,?_,?_,fun a u n e=>?_⟩
     ·rw[q0c hdx.symm];exact I4.ins
     ·have e:((zs.map (·.2)).take (i+1)).map rR=((zs.map (·.2)).take i).map rR++[(z.2.1,mV z.2.2)]:=by rw[List.take_add_one,hzr,List.map_append];rfl
      rw[e];exact q0b
     ·rw[q0c hDd];exact I4.r
     ·rw[q0c (fun y=>by rw[y,hdH] at e;cases e)];exact I4.k a u n e
    ·refine⟨_,rfl,by show 0<=sizeLine;decide,fun e0 he0=>?_⟩;have s6:=(Same.refl H5).new (o:=.tup []) he0;refine q2g (q:=[]) (s6 _ _ hp1') q0b (q2h okz.low) (fun _ h=>nomatch h) ⟨_,rfl,?_⟩;refine iteB (fun hne=>?_) (fun hne=>?_)
     ·have hne':z.2.1.dropLast≠[]:=by simpa using hne
      have hin:=hsome _ ((hH.dr _ hzm).resolve_left hne');refine⟨_,rfl,_,rfl,Dr,_,rfl,DGet.t (k:=kP z.2.1.dropLast) (I2.same s6).r (by rw[q1u];exact s6 _ _ hp1'),_,rfl,?_,s6⟩;cases e:valV ys (kP z.2.1.dropLast) with
      |none=>rw[e] at hin;cases hin
      |some v=>rfl
     ·exact⟨rfl,s6⟩
   ·rintro σ' H2 ⟨x4,x5,x6,x7,rfl,I⟩;have hd2:=I.d;rw[List.length_map,<- List.length_map (f:=fun z:Zr=>z.2),List.take_length] at hd2;exact k d H2 hdH I.ins hd2 I.k
end
end K
set_option maxHeartbeats 4000000
namespace K
open PySem L2 TX SB HM
section
variable{P:Program}{w:World}{K:W.Frag}{mg:Str->Option Value}{base:Heap}
theorem z6v{rs:List HRow}{p:Pth}{v:V}(h:valV (rs.map fun r=>(kP r.1,r.2)) (kP p)=some v):(p,v)∈rs:=by
 induction rs with
 |nil=>cases h
 |cons r rs ih =>
  rw[List.map_cons] at h;by_cases e:kP r.1=kP p
  ·rw[q0z e] at h;cases h;rw[<- q8z e];exact List.mem_cons_self
  ·rw[q0v e] at h;exact List.mem_cons_of_mem _ (ih h)
theorem q4p{rows:List Rw}(nd:(rows.map (·.1)).Nodup){p:Pth}{m:Option Int}(h:(p,m)∈rows):valV ((rows.map rR).map fun r=>(kP r.1,r.2)) (kP p)=some (mV m) :=
 q3b (rs:=rows.map rR) (r:=rR (p,m)) (List.mem_map.mpr ⟨_,h,rfl⟩) (by rw[List.map_map];exact nd)
theorem q9c{rows:List Rw}{p:Pth}{v:V}(h:valV ((rows.map rR).map fun r=>(kP r.1,r.2)) (kP p)=some v):∃m,v=mV m/\(p,m)∈rows:=by
 obtain⟨r,hr,e⟩:=List.mem_map.mp (z6v h);cases e;exact⟨r.2,rfl,hr⟩
def spIsDrawer(c:Addr):Sp:=fun vs H Q _=>∃h d p bl rows q,vs=[.ref h,.ref p]/\HallAt c H h d bl rows/\H p=some (.tup (vP q))/\Low q/\(rows.map (·.1)).Nodup/\∀H' bb,Same H H'->(bb=true↔q=[]\/(q,none)∈rows)->Q (.bl bb) H'
abbrev q1p:Stmt:=inClass (top 21) 6
theorem q4d:FnScope ["self", "path"] ["self", "path"] (defScope q1p):=⟨rfl,rfl,rfl,by decide +kernel,rfl,by decide +kernel,by decide +kernel⟩
theorem q9d{c:Addr}(D:Mf K c "is_drawer" "Hall.is_drawer" q1p ["self", "path"])(hk:Hk K c)(T:Txt mg):MCal P w K mg base c "is_drawer" 1 ["self", "path"] (spIsDrawer c):=by
 refine D.cal hk.cl q4d (fun vs H Q E h=>?_) (fun f cdv A outer s H vs Q E hr h=>?_)
 ·obtain⟨h,d,p,bl,rows,q,rfl,_⟩:=h;rfl
 ·obtain⟨h,d,p,bl,rows,q,rfl,hh,hp,lq,nd,k⟩:=h;refine⟨_,(q0f (q0m (pe_j (pe_or (q4t (eq_k K rfl hr) (pv 1) (q1f q0d) (nomark _)) (z2u (pe_j (pe_and (z7g (z3x (q1h hr) (pv 1) (@z2c _ _ _ _ _ K rfl (pv 0) (by rfl)))) (z2u (z7g (z0l (q0y (q1h hr) (@z2c _ _ _ _ _ K rfl (pv 0) (by rfl)) (pv 1) (fun _ _=>rfl)))))))))))),?_⟩;obtain⟨dx,hi⟩:=hh.i;refine⟨fun v H'=>∃bb,v=.bl bb/\Same H H'/\(bb=true↔q=[]\/(q,none)∈rows),fun v H' x=>?_,?_⟩
  ·obtain⟨bb,rfl,s1,e⟩:=x;exact k H' bb s1 e
  refine⟨_,rfl,by show 0<=sizeLine;decide,fun e0 he0=>?_⟩;have s1:=(Same.refl H).new (o:=.tup []) he0;refine q2z (q:=[]) (s1 _ _ hp) q0b lq (fun _ h=>nomatch h) ⟨_,rfl,?_⟩;refine iteB (fun he=>?_) (fun he=>?_)
  ·exact⟨true,rfl,s1,⟨fun _=>.inl (of_decide_eq_true he),fun _=>rfl⟩⟩
  have he:=of_decide_eq_false he;refine⟨fun v H'=>∃bb,v=.bl bb/\Same H H'/\(bb=true↔q=[]\/(q,none)∈rows),fun v H' x=>x,?_⟩;refine⟨_,rfl,_,rfl,h,c,dx,_,_,rfl,s1 _ _ hi,hk.cl,hk.m,rfl,d,_,rfl,q4i (s1 _ _ hh.d) (s1 _ _ hp),_,rfl,?_⟩;cases hv:valV ((rows.map rR).map fun r=>(kP r.1,r.2)) (kP q) with
  |none =>
   refine iteF ⟨false,rfl,s1,⟨(fun z=>by cases z),fun z=>?_⟩⟩;exfalso;rw[q4p nd (z.resolve_left he)] at hv;cases hv
  |some v =>
   obtain⟨m,rfl,hm⟩:=q9c hv;refine iteT ⟨_,rfl,h,c,dx,_,_,rfl,s1 _ _ hi,hk.cl,hk.m,rfl,_,rfl,d,mV m,rfl,?_,_,rfl,s1,?_⟩
   ·rw[<- hv];exact q4i (s1 _ _ hh.d) (s1 _ _ hp)
   ·rw[decide_eq_true_iff];refine⟨fun z=>.inr (by rw[mV_none.mp z] at hm;exact hm),fun z=>mV_none.mpr ?_⟩;have:=q0w (f:=fun r:Rw=>r.1) nd hm (z.resolve_left he) rfl;cases this;rfl
def spThere1(c:Addr):Sp:=fun vs H Q _=>∃h d p bl rows place,vs=[.ref h,.ref p]/\HallAt c H h d bl rows/\H p=some (.tup (vP place))/\okP place/\(∀r∈rows,okP r.1) /\
 ∀H' v,Same H H'->(v=.non/\(∀r∈rows,fold bl r.1≠fold bl place)\/∃b r,v=.ref b/\r∈rows/\fold bl r.1=fold bl place/\H' b=some (.tup (vP r.1)))->Q v H'
theorem there1{c:Addr}(M:MCal P w K mg base c "there" 3 ["self", "place"] (spThere c)):MCal P w K mg base c "there" 3 ["self", "place"] (spThere1 c) :=
 M.imp fun vs H Q E h=>by
  obtain⟨h,d,p,bl,rows,place,e,hh,hp,ok,oks,k⟩:=h;exact⟨h,d,p,bl,rows,place,e,hh,hp,ok,oks,fun H' s1 n=>k H' _ s1 (.inl ⟨rfl,n⟩),fun H' b r s1 hr e hb=>k H' _ s1 (.inr ⟨b,r,rfl,hr,e,hb⟩)⟩
end
end K
set_option maxHeartbeats 4000000
namespace K
open PySem L2 TX SB HM
section
variable{P:Program}{w:World}{K:W.Frag}{mg:Str->Option Value}{base:Heap}
theorem z4v{σ:St}{H:Hp}{Q:Bool->Hp->Prop}(h:Q true H):tIf0 σ H Q:=h
def IsD(rows:List Rw)(q:Pth):Prop:=q=[]\/(q,none)∈rows
def plc:List Mv->Pth->Pth
 |[],p=>p
 |m::ms,p=>if m.1=p then m.2 else plc ms p
structure Wsh (rows:List Rw) (m:Mv):Prop where
 th:∃k,(m.1,k)∈rows/\(m.2.dropLast=m.1.dropLast\/k≠none)
 ok:okP m.2
 dr:IsD rows m.2.dropLast
structure GoodW (rows:List Rw) (ms:List Mv):Prop where
 all:∀m∈ms,Wsh rows m
 nd:(ms.map (·.1)).Nodup
structure PDt (H:Hp) (d:Addr) (ps:List (Addr×Mv)):Prop where
 at_:H d=some (dR (ps.map fun x=>(x.2.1,.ref x.1)))
 pr:∀x∈ps,H x.1=some (.tup (vP x.2.2))
theorem PDt.same{H H':Hp}{d:Addr}{ps:List (Addr×Mv)}(h:PDt H d ps)(s:Same H H'):PDt H' d ps:=⟨s _ _ h.at_,fun x hx=>s _ _ (h.pr x hx)⟩
structure CallsIW (P:Program) (w:World) (K:W.Frag) (mg:Str->Option Value) (base:Heap) (c:Addr):Prop where
 m_there:MCal P w K mg base c "there" 3 ["self", "place"] (spThere1 c)
 m_is_drawer:MCal P w K mg base c "is_drawer" 1 ["self", "path"] (spIsDrawer c)
def spIsWish(c:Addr):Sp:=fun vs H Q _=>∃h d a b e bl rows m ps,vs=[.ref h,.ref a,.ref b,.ref e]/\HallAt c H h d bl rows/\Hl bl rows/\H a=some (.tup (vP m.1))/\H b=some (.tup (vP m.2))/\Wsh rows m/\PDt H e ps/\m.1∉ps.map (·.2.1)/\∀H',Same H H'->Q (.bl true) H'
abbrev q4e:Stmt:=top 7
theorem z2i:FnScope ["hall", "path", "place", "places"] ["hall", "path", "place", "places"] (defScope q4e):=⟨rfl,rfl,rfl,by decide +kernel,rfl,by decide +kernel,by decide +kernel⟩
theorem z2j{c:Addr}(D:Df K mg "is_wish" q4e ["hall", "path", "place", "places"])(T:Txt mg)(C:CallsIW P w K mg base c):Cal P w K mg base "is_wish" 4 ["hall", "path", "place", "places"] (spIsWish c):=by
 refine D.cal z2i (fun vs H Q E h=>?_) (fun f cdv A outer s H vs Q E hr h=>?_)
 ·obtain⟨h,d,a,b,e,bl,rows,m,ps,rfl,_⟩:=h;rfl
 ·obtain⟨h,d,a,b,e,bl,rows,m,ps,rfl,hh,hl,ha,hb,wsh,pd,hno,k⟩:=h;refine⟨_,(q0e (q1l (pt_j (@PW.pt _ _ _ (z2t (q0k (ne_k K rfl hr) (pe_m C.m_there hr (pv 0) (q0a (pv 1) q0d)) (pv 1) (nomark _)) (z0m (q1t (z3x (q1h hr) (pv 1) (pv 3))))))) (q0f (q0m q4r)) q0n) (q0e (q1l (z0n (@q6x _ _ _ K rfl (pe_m C.m_is_drawer hr (pv 0) (q0a (q0t (sl_k K rfl) (pv 2) q1b (q1c (q1o q0s q0g))) q0d)) (fun _=>rfl))) (q0f (q0m q4r)) q0n) (q0f (q0m (pe_j (pe_or (q4t (eq_k K rfl hr) (q0t (sl_k K rfl) (pv 2) q1b (q1c (q1o q0s q0g))) (q0t (sl_k K rfl) (pv 1) q1b (q1c (q1o q0s q0g))) (nomark _)) (z2u (pe_not (pe_m C.m_is_drawer hr (pv 0) (q0a (pv 1) q0d)))))))))),?_⟩;obtain⟨mk0,hin,hor⟩:=wsh.th;have okp:=hl.ok _ hin;have okq:=wsh.ok;obtain⟨dx,hi⟩:=hh.i;obtain⟨c1,c2⟩:=q1g okq.ne;obtain⟨c3,c4⟩:=q1g okp.ne;refine⟨fun bb H1=>bb=false/\Same H H1,?_,?_⟩;rotate_left
  ·refine⟨_,rfl,h,dx,_,rfl,hi,rfl,_,rfl,h,d,a,bl,rows,m.1,rfl,hh,ha,okp,hl.ok,fun H1 ov s1 hov=>?_⟩;rcases hov with⟨_,no⟩|⟨e1,r,rfl,hr,hf,he⟩
   ·exact absurd rfl (no _ hin)
   have er:r.1=m.1:=congrArg Prod.fst (hl.eq hr hin hf);rw[er] at he;refine⟨_,rfl,q2g he (s1 _ _ ha) okp.low okp.low ⟨_,rfl,?_⟩⟩;rw[decide_eq_true rfl];have hv:valV ((ps.map fun x=>((x.2.1,.ref x.1):HRow)).map fun r=>(kP r.1,r.2)) (kP m.1)=none:=q5r fun r hr z=>by
    obtain⟨x,hx,rfl⟩:=List.mem_map.mp hr;exact hno (List.mem_map.mpr ⟨x,hx,z⟩)
   refine iteF ⟨_,rfl,_,rfl,e,_,rfl,q4i (rs:=ps.map fun x=>(x.2.1,.ref x.1)) (pd.same s1).at_ (s1 _ _ ha),_,rfl,?_,s1⟩;rw[hv];rfl
  rintro bb H1 ⟨rfl,s1⟩;refine iteF ?_;refine⟨_,rfl,h,dx,_,rfl,s1 _ _ hi,rfl,_,rfl,_,rfl,_,rfl,.inr (.inr ⟨b,_,rfl,SqT.of (s1 _ _ hb),c2,fun t1 ht1=>?_⟩)⟩;rw[c1];have s2:=s1.new (o:=.tup (vP m.2.dropLast)) ht1;refine⟨h,d,t1,bl,rows,m.2.dropLast,rfl,hh.same s2,q0b,q2h okq.low,hl.paths,fun H3 bb s3 hbb=>⟨bb,rfl,?_⟩⟩;have s23:=s2.trans s3;rw[hbb.mpr wsh.dr];refine iteF ⟨fun v H4=>v=.bl true/\Same H H4,fun v H4 x=>by rw[x.1];exact k _ x.2,?_⟩;refine⟨_,rfl,_,rfl,_,rfl,.inr (.inr ⟨b,_,rfl,SqT.of (s23 _ _ hb),c2,fun t2 ht2=>?_⟩)⟩;rw[c1];have s4:=s23.new (o:=.tup (vP m.2.dropLast)) ht2;have e2:upd H3 t2 (.tup (vP m.2.dropLast)) t2=some (.tup (vP m.2.dropLast)):=q0b;generalize upd H3 t2 (.tup (vP m.2.dropLast))=H4 at s4 e2;refine⟨_,rfl,_,rfl,_,rfl,.inr (.inr ⟨a,_,rfl,SqT.of (s4 _ _ ha),c4,fun t3 ht3=>?_⟩)⟩;rw[c3];have s5':=(Same.refl H4).new (o:=.tup (vP m.1.dropLast)) ht3;have s5:=s4.trans s5';refine q2z (s5' _ _ e2) q0b (q2h okq.low) (q2h okp.low) ⟨_,rfl,iteB (fun e=>⟨rfl,s5⟩) (fun e=>?_)⟩;have e:=of_decide_eq_false e;have hk0:mk0≠none:=hor.resolve_left e;refine⟨_,rfl,h,dx,_,rfl,s5 _ _ hi,rfl,_,rfl,h,d,a,bl,rows,m.1,rfl,hh.same s5,s5 _ _ ha,okp.low,hl.paths,fun H6 bb s6 hbb=>⟨bb,rfl,?_,s5.trans s6⟩⟩;cases bb with
  |false=>rfl
  |true =>
   rcases hbb.mp rfl with z|z
   ·exact absurd z okp.ne
   ·exact absurd (hl.one hin z) hk0
structure CallsWP (P:Program) (w:World) (K:W.Frag) (mg:Str->Option Value) (base:Heap) (c:Addr):Prop where
 is_wish:Cal P w K mg base "is_wish" 4 ["hall", "path", "place", "places"] (spIsWish c)
def spWishedP(c:Addr):Sp:=fun vs H Q _=>∃h d L bl rows zs,vs=[.ref h,.ref L]/\HallAt c H h d bl rows/\Hl bl rows/\ML H L zs/\GoodW rows (zs.map (·.2))/\zs.length<=60 /\
 ∀D ps H',H D=none->Same H H'->PDt H' D ps->ps.map (·.2)=zs.map (·.2)->Q (.ref D) H'
abbrev q1r:Stmt:=top 8
theorem sc_wished_places:FnScope ["hall", "wishes", "places", "at", "path", "place"] ["hall", "wishes"] (defScope q1r):=⟨rfl,rfl,rfl,by decide +kernel,rfl,by decide +kernel,by decide +kernel⟩
theorem z2k{c:Addr}(D:Df K mg "wished_places" q1r ["hall", "wishes"])(T:Txt mg)(C:CallsWP P w K mg base c):Cal P w K mg base "wished_places" 5 ["hall", "wishes"] (spWishedP c):=by
 refine D.cal sc_wished_places (fun vs H Q E h=>?_) (fun f cdv A outer s H vs Q E hr h=>?_)
 ·obtain⟨h,d,L,bl,rows,zs,rfl,_⟩:=h;rfl
 ·obtain⟨h,d,L,bl,rows,zs,rfl,hh,hl,ml,gw,few,k⟩:=h;refine⟨_,(q0e (q0j (i:=2) sc_wished_places.nd rfl (by first|exact Or.inl rfl|exact Or.inr rfl) q3u) (q0e (q1x PassesOwn.never rfl (@z3u _ _ _ _ _ _ _ _ K rfl rfl T.b_enumerate (q0a (pv 1) q0d) (by rfl)) (@q2y _ _ _ _ (2) _ K rfl rfl (q0o (q0i (i:=3) sc_wished_places.nd rfl (by first|exact Or.inl rfl|exact Or.inr rfl)) (q0o (@q2y _ _ _ _ (2) _ K rfl rfl (q0o (q0i (i:=4) sc_wished_places.nd rfl (by first|exact Or.inl rfl|exact Or.inr rfl)) (q0o (q0i (i:=5) sc_wished_places.nd rfl (by first|exact Or.inl rfl|exact Or.inr rfl)) q1w)) (by rfl) (by rfl)) q1w)) (by rfl) (by rfl)) (q0e (q1l (z0n (@q6x _ _ _ K rfl (pe_c C.is_wish hr (q0a (pv 0) (q0a (pv 4) (q0a (pv 5) (q0a (pv 2) q0d))))) (fun _=>rfl))) (q0f q4k) q0n) (q0f (q5f (q1h hr) (pv 2) (pv 4) (pv 5) rfl)))) (q0f (q0m (pv 2))))),?_⟩;intro D hD;have s0:=(Same.refl H).new (o:=.dT []) hD;refine⟨_,rfl,.inr ⟨L,_,rfl,SqL.of (s0 _ _ ml.at_),?_⟩⟩;refine q5n (fun i σ' H2=>∃ps x3 x4 x5,σ'=[some (.ref h),some (.ref L),some (.ref D),x3,x4,x5]/\Same H H2/\PDt H2 D ps/\ps.map (·.2)=(zs.map (·.2)).take i) ⟨[],none,none,none,rfl,s0,⟨q0b,(fun _ h=>nomatch h)⟩,rfl⟩ (fun i σ' H2 h=>by obtain⟨_,_,_,_,_,s2,_⟩:=h;exact SqL.of (s2 _ _ ml.at_)) ?_ ?_
  ·rintro i v T' σ' H2 hv ⟨ps,x3,x4,x5,rfl,s2,pd,eps⟩ hT;obtain⟨z,hz,rfl⟩:∃z,zs[i]?=some z/\v=.ref z.1:=by
    rw[List.getElem?_map] at hv;cases e:zs[i]? with
    |none=>rw[e] at hv;cases hv
    |some z=>rw[e] at hv;cases hv;exact⟨z,rfl,rfl⟩
   have sT:=(Same.refl H2).new (o:=.tup [.int i,.ref z.1]) hT;obtain⟨A1,B1,g1,g2,g3⟩:=((ml.same s2).same sT).pr z (List.mem_of_getElem? hz);have hzr:(zs.map (·.2))[i]?=some z.2:=by rw[List.getElem?_map,hz];rfl
   have e1:(zs.map (·.2)).take (i+1)=(zs.map (·.2)).take i++[z.2]:=by rw[List.take_add_one,hzr];rfl
   have hno:z.2.1∉ps.map (·.2.1):=fun hin=>by
    have e2:ps.map (·.2.1)=((zs.map (·.2)).take i).map (·.1):=by rw[<- eps,List.map_map];rfl
    rw[e2] at hin;have nd:=gw.nd;have e3:((zs.map (·.2)).take (i+1)).map (·.1)=((zs.map (·.2)).take i).map (·.1)++[z.2.1]:=by rw[e1,List.map_append];rfl
    have nd2:(((zs.map (·.2)).take (i+1)).map (·.1)).Nodup:=by rw[List.map_take];exact nd.sublist (List.take_sublist _ _)
    rw[e3] at nd2;exact(List.nodup_append.mp nd2).2.2 _ hin _ (List.mem_singleton.mpr rfl) rfl
   refine⟨T',_,rfl,SqT.of q0b,rfl,_,_,rfl,_,_,rfl,z.1,_,rfl,SqT.of g1,rfl,_,_,rfl,_,_,rfl,rfl,rfl,?_⟩;have s3:=s2.trans sT;refine⟨_,rfl,_,rfl,_,rfl,_,rfl,h,d,A1,B1,D,bl,rows,z.2,ps,rfl,hh.same s3,hl,g2,g3,gw.all z.2 (List.mem_of_getElem? hzr),pd.same sT,hno,fun H4 s4=>⟨true,rfl,iteF ?_⟩⟩;have s34:=s3.trans s4;have pd4:=(pd.same sT).same s4;have pl:ps.length<=60:=by
    have:=congrArg List.length eps;rw[List.length_map,List.length_take,List.length_map] at this;lia
   refine⟨_,rfl,_,rfl,_,rfl,D,_,rfl,DPut.t (k:=kP z.2.1) pd4.at_ (by rw[q1u];exact s4 _ _ g2) (by rw[List.length_map,List.length_map];exact small' (by lia)),?_⟩;rw[q2p (p:=z.2.1) (v:=.ref B1) fun r hr z'=>by
    obtain⟨x,hx,rfl⟩:=List.mem_map.mp hr;exact hno (List.mem_map.mpr ⟨x,hx,z'⟩)]
   have nD:∀(x:Addr) (u:HO),H4 x=some u->(∀kvs,u≠.dT kvs)->upd H4 D (dR ((ps.map fun x=>((x.2.1,.ref x.1):HRow))++[(z.2.1,.ref B1)])) x=some u:=fun x u e n=>by
    rw[q0c (fun y=>by rw[y,pd4.at_] at e;cases e;exact n _ rfl)];exact e
   have em:(ps++[(B1,z.2)]).map (fun x=>((x.2.1,.ref x.1):HRow))=(ps.map fun x=>((x.2.1,.ref x.1):HRow))++[(z.2.1,.ref B1)]:=by rw[List.map_append];rfl
   refine⟨ps++[(B1,z.2)],_,_,_,rfl,fun x u e=>?_,⟨by rw[q0b,em],fun x hx=>?_⟩,by rw[e1,List.map_append,eps];rfl⟩
   ·rw[q0c (fun y=>by rw[y,hD] at e;cases e)];exact s34 _ _ e
   ·rcases List.mem_append.mp hx with hx|hx
    ·exact nD _ _ (pd4.pr x hx) (fun _ y=>by cases y)
    ·rw[List.mem_singleton.mp hx];exact nD _ _ (s4 _ _ g3) (fun _ y=>by cases y)
  ·rintro σ' H2 ⟨ps,x3,x4,x5,rfl,s2,pd,eps⟩;rw[List.length_map,<- List.length_map (f:=fun z:Zm=>z.2),List.take_length] at eps;exact⟨_,rfl,k D ps H2 hD s2 pd eps⟩
theorem val_ps{ps:List (Addr×Mv)}{p:Pth}(h:p∉ps.map (·.2.1)):valV ((ps.map fun x=>((x.2.1,.ref x.1):HRow)).map fun r=>(kP r.1,r.2)) (kP p)=none:=q5r fun r hr z=>by
 obtain⟨x,hx,rfl⟩:=List.mem_map.mp hr;exact h (List.mem_map.mpr ⟨x,hx,z⟩)
theorem q3y{ms:List Mv}{p:Pth}(h:p∉ms.map (·.1)):plc ms p=p:=by
 induction ms with
 |nil=>rfl
 |cons m ms ih =>
  rw[List.map_cons,List.mem_cons,not_or] at h;unfold plc;rw[if_neg (fun z=>h.1 z.symm)];exact ih h.2
theorem q3z{ms:List Mv}{m:Mv}(nd:(ms.map (·.1)).Nodup)(h:m∈ms):plc ms m.1=m.2:=by
 induction ms with
 |nil=>cases h
 |cons x ms ih =>
  rw[List.map_cons,List.nodup_cons] at nd;unfold plc;rcases List.mem_cons.mp h with rfl|h
  ·rw[if_pos rfl]
  ·rw[if_neg (fun z=>nd.1 (List.mem_map.mpr ⟨m,h,z.symm⟩))];exact ih nd.2 h
theorem PDt.get{H:Hp}{d b:Addr}{ps:List (Addr×Mv)}{p:Pth}(x:PDt H d ps)(nd:((ps.map (·.2)).map (·.1)).Nodup)(hb:H b=some (.tup (vP p))):(p∉(ps.map (·.2)).map (·.1)/\DGet H d (.ref b) none)\/∃y∈ps,y.2.1=p/\DGet H d (.ref b) (some (.ref y.1))/\H y.1=some (.tup (vP (plc (ps.map (·.2)) p))):=by
 have em:(ps.map (·.2)).map (·.1)=ps.map (·.2.1):=by rw[List.map_map];rfl
 by_cases h:p∈ps.map (·.2.1)
 ·obtain⟨y,hy,rfl⟩:=List.mem_map.mp h;refine .inr ⟨y,hy,rfl,?_,?_⟩
  ·have e:=q3b (rs:=ps.map fun x=>((x.2.1,.ref x.1):HRow)) (r:=(y.2.1,.ref y.1)) (List.mem_map.mpr ⟨y,hy,rfl⟩) (by rw[List.map_map];rw[em] at nd;exact nd);rw[<- e];exact q4i x.at_ hb
  ·rw[q3z nd (List.mem_map.mpr ⟨y,hy,rfl⟩)];exact x.pr y hy
 ·refine .inl ⟨by rw[em];exact h,?_⟩;rw[<- val_ps h];exact q4i x.at_ hb
structure CallsAP (P:Program) (w:World) (K:W.Frag) (mg:Str->Option Value) (base:Heap) (c:Addr):Prop where
 wished_places:Cal P w K mg base "wished_places" 5 ["hall", "wishes"] (spWishedP c)
 m_rows:MCal P w K mg base c "rows" 2 ["self"] (spHRows c)
def spAllP(c:Addr):Sp:=fun vs H Q _=>∃h d L bl rows zs,vs=[.ref h,.ref L]/\HallAt c H h d bl rows/\Hl bl rows/\rows.length<=60/\ML H L zs/\GoodW rows (zs.map (·.2))/\zs.length<=60 /\
 ∀D ps (rs:List Rw) H',H D=none->Same H H'->PDt H' D ps->rs.Perm rows->(rs.map (·.1)).Pairwise (fun a b=>pLt b a=false)->ps.map (·.2)=rs.map (fun r=>(r.1,plc (zs.map (·.2)) r.1))->Q (.ref D) H'
abbrev q2r:Stmt:=top 9
theorem sc_all_places:FnScope ["hall", "wishes", "places"] ["hall", "wishes"] (defScope q2r):=⟨rfl,rfl,rfl,by decide +kernel,rfl,by decide +kernel,by decide +kernel⟩
theorem z9j{c:Addr}(D:Df K mg "all_places" q2r ["hall", "wishes"])(T:Txt mg)(C:CallsAP P w K mg base c):Cal P w K mg base "all_places" 6 ["hall", "wishes"] (spAllP c):=by
 refine D.cal sc_all_places (fun vs H Q E h=>?_) (fun f cdv A outer s H vs Q E hr h=>?_)
 ·obtain⟨h,d,L,bl,rows,zs,rfl,_⟩:=h;rfl
 ·obtain⟨h,d,L,bl,rows,zs,rfl,hh,hl,h60,ml,gw,few,k⟩:=h;refine⟨_,(q0e (q0j (i:=2) sc_all_places.nd rfl (by first|exact Or.inl rfl|exact Or.inr rfl) (pe_c C.wished_places hr (q0a (pv 0) (q0a (pv 1) q0d)))) (q0f (q0m (z6i ["path", "mark"] [("places",2)] rfl (@q3n _ _ _ _ K rfl (pe_m0 C.m_rows hr (pv 0))) (fun _ _ _ _ _=>(@q2y _ _ _ _ (2) _ K rfl rfl (q0o (q0i (i:=0) (show(["path", "mark", "places"]:List Str).Nodup by decide +kernel) rfl (by first|exact Or.inl rfl|exact Or.inr rfl)) (q0o (q0i (i:=1) (show(["path", "mark", "places"]:List Str).Nodup by decide +kernel) rfl (by first|exact Or.inl rfl|exact Or.inr rfl)) q1w)) (by rfl) (by rfl))) (fun _ _ _ _ _=>q4a) (fun _ _ _ _ _=>(pv 0)) (fun _ _ _ _ _=>(z0v (q1h hr) (pv 2) (pv 0) (pv 0) ⟨rfl,rfl,rfl,rfl⟩)) (q1h hr))))),?_⟩;refine⟨_,rfl,_,rfl,h,d,L,bl,rows,zs,rfl,hh,hl,ml,gw,few,fun D0 ps0 H1 hD0 s1 pd0 e0=>?_⟩;obtain⟨dx,hi⟩:=hh.i;have nd0:((ps0.map (·.2)).map (·.1)).Nodup:=by rw[e0];exact gw.nd
  refine⟨_,rfl,h,dx,_,rfl,s1 _ _ hi,rfl,h,d,bl,rows,rfl,hh.same s1,by lia,fun r hr=>(hl.ok r hr).low,fun L2 zs2 H2 hL2 s2 rl2 pm2 pw2=>?_⟩;refine .inl ⟨L2,rfl,⟨_,SqL.of rl2.at_⟩,fun D1 hD1=>?_⟩;have ndz:((zs2.map (·.2)).map (·.1)).Nodup:=(hl.perm pm2).paths;have l2:zs2.length<=60:=by have:=pm2.length_eq;rw[List.length_map] at this;lia
  refine q6h (fun i ys H'=>∃ps,ys=((ps.map fun x=>((x.2.1,.ref x.1):HRow)).map fun r=>(kP r.1,r.2))/\PDt H' D1 ps/\Same H2 H'/\ps.map (·.2)=((zs2.map (·.2)).take i).map (fun r=>(r.1,plc (zs.map (·.2)) r.1))) ⟨[],rfl,⟨q0b,(fun _ h=>nomatch h)⟩,(Same.refl H2).new hD1,rfl⟩ (fun i ys H' h=>by obtain⟨ps,e,pd,s',_⟩:=h;exact⟨by rw[e];exact pd.at_,SqL.of (s' _ _ rl2.at_)⟩) ?_ ?_
  ·rintro i ys H' v hv ⟨ps,rfl,pd,s',eps⟩;obtain⟨z,hz,rfl⟩:∃z,zs2[i]?=some z/\v=.ref z.1:=by
    rw[List.getElem?_map] at hv;cases e:zs2[i]? with
    |none=>rw[e] at hv;cases hv
    |some z=>rw[e] at hv;cases hv;exact⟨z,rfl,rfl⟩
   have hzr:(zs2.map (·.2))[i]?=some z.2:=by rw[List.getElem?_map,hz];rfl
   have e1:(zs2.map (·.2)).take (i+1)=(zs2.map (·.2)).take i++[z.2]:=by rw[List.take_add_one,hzr];rfl
   have hil:i<zs2.length:=(List.getElem?_eq_some_iff.mp hz).1;have pl:ps.length<=60:=by
    have:=congrArg List.length eps;rw[List.length_map,List.length_map,List.length_take,List.length_map] at this;lia
   obtain⟨b,h1,h2⟩:=(rl2.same s').pr z (List.mem_of_getElem? hz);have hno:z.2.1∉ps.map (·.2.1):=fun hin=>by
    have e2:ps.map (·.2.1)=((zs2.map (·.2)).take i).map (·.1):=by
     have:ps.map (·.2.1)=(ps.map (·.2)).map (·.1):=by rw[List.map_map];rfl
     rw[this,eps,List.map_map];rfl
    rw[e2] at hin;have e3:((zs2.map (·.2)).take (i+1)).map (·.1)=((zs2.map (·.2)).take i).map (·.1)++[z.2.1]:=by rw[e1,List.map_append];rfl
    have nd2:(((zs2.map (·.2)).take (i+1)).map (·.1)).Nodup:=by rw[List.map_take];exact ndz.sublist (List.take_sublist _ _)
    rw[e3] at nd2;exact(List.nodup_append.mp nd2).2.2 _ hin _ (List.mem_singleton.mpr rfl) rfl
   refine⟨z.1,_,rfl,SqT.of h1,rfl,_,_,rfl,_,_,rfl,rfl,q6a,?_⟩;refine z4v (iteT ?_);refine⟨_,rfl,_,rfl,D0,rfl,.inr ⟨_,.inl ((s2.trans s') _ _ pd0.at_)⟩,_,rfl,_,rfl,?_⟩;have put:∀(e:Addr),H' e=some (.tup (vP (plc (zs.map (·.2)) z.2.1)))->∃k c,V.ref b=.ref c/\H' c=some (.tup (k.map kV))/\H' D1=some (.dT ((ps.map fun x=>((x.2.1,.ref x.1):HRow)).map fun r=>(kP r.1,r.2)))/\((ps.map fun x=>((x.2.1,.ref x.1):HRow)).map fun r=>(kP r.1,r.2)).length<sizeLine /\
     ∃ps',putK ((ps.map fun x=>((x.2.1,.ref x.1):HRow)).map fun r=>(kP r.1,r.2)) k (.ref e)=((ps'.map fun x=>((x.2.1,.ref x.1):HRow)).map fun r=>(kP r.1,r.2))/\PDt (upd H' D1 (.dT (putK ((ps.map fun x=>((x.2.1,.ref x.1):HRow)).map fun r=>(kP r.1,r.2)) k (.ref e)))) D1 ps'/\Same H2 (upd H' D1 (.dT (putK ((ps.map fun x=>((x.2.1,.ref x.1):HRow)).map fun r=>(kP r.1,r.2)) k (.ref e))))/\ps'.map (·.2)=((zs2.map (·.2)).take (i+1)).map (fun r=>(r.1,plc (zs.map (·.2)) r.1)):=fun e he=>by
    refine⟨kP z.2.1,b,rfl,by rw[q1u];exact h2,pd.at_,by rw[List.length_map,List.length_map];exact small' (by lia),ps++[(e,(z.2.1,plc (zs.map (·.2)) z.2.1))],?_⟩;have em:(ps++[(e,(z.2.1,plc (zs.map (·.2)) z.2.1))]).map (fun x=>((x.2.1,.ref x.1):HRow))=(ps.map fun x=>((x.2.1,.ref x.1):HRow))++[(z.2.1,.ref e)]:=by rw[List.map_append];rfl
    rw[q2p (p:=z.2.1) (v:=.ref e) fun r hr z'=>by
     obtain⟨x,hx,rfl⟩:=List.mem_map.mp hr;exact hno (List.mem_map.mpr ⟨x,hx,z'⟩),em]
    refine⟨rfl,⟨by rw[q0b,em],fun x hx=>?_⟩,fun x u eu=>?_,by rw[e1,List.map_append,List.map_append,eps];rfl⟩
    ·have nD:∀(x:Addr) (xs:List V),H' x=some (.tup xs)->upd H' D1 (dR ((ps.map fun x=>((x.2.1,.ref x.1):HRow))++[(z.2.1,.ref e)])) x=some (.tup xs):=fun x xs e=>by
      rw[q0c (fun y=>by rw[y,pd.at_] at e;cases e)];exact e
     rcases List.mem_append.mp hx with hx|hx
     ·exact nD _ _ (pd.pr x hx)
     ·rw[List.mem_singleton.mp hx];exact nD _ _ he
    ·rw[q0c (fun y=>by rw[y,hD1] at eu;cases eu)];exact s' _ _ eu
   rcases(pd0.same (s2.trans s')).get nd0 h2 with⟨hn,dg⟩|⟨y,hy,ey,dg,hy2⟩
   ·refine⟨none,dg,put b ?_⟩;rw[q3y (by rw[<- e0];exact hn)];exact h2
   ·refine⟨some (.ref y.1),dg,put y.1 ?_⟩;rw[<- e0];exact hy2
  ·rintro ys H' ⟨ps,rfl,pd,s',eps⟩;rw[List.length_map,<- List.length_map (f:=fun z:Zr=>z.2),List.take_length] at eps;exact k D1 ps (zs2.map (·.2)) H' ((s1.trans s2).free hD1) ((s1.trans s2).trans s') pd pm2 (by rw[List.map_map];exact pw2) eps
end
end K
set_option maxHeartbeats 4000000
namespace K
open PySem L2 TX SB HM
section
variable{P:Program}{w:World}{K:W.Frag}{mg:Str->Option Value}{base:Heap}
theorem q9e{xs:List V}{i:Int}(h0:0<=i)(h1:i<=xs.length):cutV xs (some i) none=xs.drop i.toNat:=by
 have e1:HT.sIx xs.length 0 (some i)=i.toNat:=by
  show(if i<0 then(i+(xs.length:Int)).toNat else min i.toNat xs.length)=_;rw[if_neg (by lia)];lia
 have e2:HT.sIx xs.length xs.length none=xs.length:=rfl;unfold cutV;rw[e1,e2];exact List.take_of_length_le (by rw[List.length_drop];exact Nat.le_refl _)
abbrev Tri:=Pth×Pth×Pth
def rowT(bl:Bool)(f:Pth->Pth)(ps:List Pth)(i:Nat):List Tri:=match ps[i]? with
 |none=>[]
 |some p=>((ps.drop (i+1)).filter fun q=>decide (fold bl (f p)=fold bl (f q))).map fun q=>(p,q,f p)
def accT(bl:Bool)(f:Pth->Pth)(ps:List Pth)(i:Nat):List Tri:=(List.range i).flatMap (rowT bl f ps)
theorem q9f{bl:Bool}{f:Pth->Pth}{ps:List Pth}{i:Nat}:accT bl f ps (i+1)=accT bl f ps i++rowT bl f ps i:=by
 unfold accT;rw[List.range_succ,List.flatMap_append];simp
theorem z6w{bl:Bool}{f:Pth->Pth}{ps:List Pth}{i:Nat}:(rowT bl f ps i).length<=ps.length:=by
 unfold rowT;split
 ·exact Nat.zero_le _
 ·rw[List.length_map];refine Nat.le_trans (List.length_filter_le _ _) ?_;rw[List.length_drop];lia
theorem z1f{bl:Bool}{f:Pth->Pth}{ps:List Pth}:∀i,(accT bl f ps i).length<=i*ps.length
 |0=>by simp[accT]
 |i+1=>by
  rw[q9f,List.length_append,Nat.succ_mul];have:=z1f (bl:=bl) (f:=f) (ps:=ps) i;have:=z6w (bl:=bl) (f:=f) (ps:=ps) (i:=i);lia
abbrev Zt:=Addr×Tri
def TT3(H:Hp)(T:Addr)(t:Tri):Prop:=∃A B C,H T=some (.tup [.ref A,.ref B,.ref C])/\H A=some (.tup (vP t.1))/\H B=some (.tup (vP t.2.1))/\H C=some (.tup (vP t.2.2))
structure TL (H:Hp) (L:Addr) (ts:List Zt):Prop where
 at_:H L=some (.lst (ts.map fun z=>V.ref z.1))
 pr:∀z∈ts,TT3 H z.1 z.2
theorem TT3.keep{H H':Hp}{T:Addr}{t:Tri}(h:TT3 H T t)(k:∀T xs,H T=some (.tup xs)->H' T=some (.tup xs)):TT3 H' T t:=let ⟨A,B,C,h1,h2,h3,h4⟩:=h;⟨A,B,C,k _ _ h1,k _ _ h2,k _ _ h3,k _ _ h4⟩
theorem TL.same{H H':Hp}{L:Addr}{ts:List Zt}(h:TL H L ts)(s:Same H H'):TL H' L ts:=⟨s _ _ h.at_,fun z hz=>(h.pr z hz).keep fun _ _ e=>s _ _ e⟩
theorem TL.put{H:Hp}{L T:Addr}{ts:List Zt}{t:Tri}(h:TL H L ts)(ht:TT3 H T t):TL (upd H L (.lst (ts.map (fun z=>V.ref z.1)++[.ref T]))) L (ts++[(T,t)]):=by
 have tk:∀S xs,H S=some (.tup xs)->upd H L (.lst (ts.map (fun z=>V.ref z.1)++[.ref T])) S=some (.tup xs):=fun S xs e=>by rw[q0c (fun z=>by rw[z,h.at_] at e;cases e)];exact e
 refine⟨by rw[q0b,List.map_append];rfl,fun z hz=>?_⟩;rcases List.mem_append.mp hz with hz|hz
 ·exact(h.pr z hz).keep tk
 ·rw[List.mem_singleton.mp hz];exact ht.keep tk
theorem z9k{ms:List Mv}{rs:List Rw}{p:Pth}(h:p∈rs.map (·.1)):plc (rs.map fun r=>(r.1,plc ms r.1)) p=plc ms p:=by
 induction rs with
 |nil=>cases h
 |cons r rs ih =>
  rw[List.map_cons];show(if r.1=p then plc ms r.1 else plc (rs.map fun r=>(r.1,plc ms r.1)) p)=_;by_cases e:r.1=p
  ·rw[if_pos e,e]
  ·rw[if_neg e];rw[List.map_cons] at h;exact ih ((List.mem_cons.mp h).resolve_left fun z=>e z.symm)
theorem q9g{ms:List Mv}{rows:List Rw}{p:Pth}{bl:Bool}(hl:Hl bl rows)(gw:GoodW rows ms)(hp:p∈rows.map (·.1)):okP (plc ms p):=by
 by_cases h:p∈ms.map (·.1)
 ·obtain⟨m,hm,rfl⟩:=List.mem_map.mp h;rw[q3z gw.nd hm];exact(gw.all m hm).ok
 ·rw[q3y h];obtain⟨r,hr,rfl⟩:=List.mem_map.mp hp;exact hl.ok r hr
theorem z6x{H:Hp}:∀{bs:List Addr} {ps:List Pth},Paired (fun b p=>H b=some (.tup (vP p))) bs ps->∃zs:List (Addr×Pth),bs.map V.ref=zs.map (fun z=>V.ref z.1)/\zs.map (·.2)=ps/\∀z∈zs,H z.1=some (.tup (vP z.2))
 |_,_,.nil=>⟨[],rfl,rfl,fun _ h=>nomatch h⟩
 |b::bs,p::ps,.cons h t=>by
  obtain⟨zs,z1,z2,z3⟩:=z6x t;refine⟨(b,p)::zs,by rw[List.map_cons,z1];rfl,by rw[List.map_cons,z2],fun z hz=>?_⟩;rcases List.mem_cons.mp hz with rfl|hz
  ·exact h
  ·exact z3 z hz
structure CallsMe (P:Program) (w:World) (K:W.Frag) (mg:Str->Option Value) (base:Heap) (c:Addr):Prop where
 all_places:Cal P w K mg base "all_places" 6 ["hall", "wishes"] (spAllP c)
 m_is_one_place:MCal P w K mg base c "is_one_place" 2 ["self", "one", "other"] (spOneP c)
def spMeet(c:Addr):Sp:=fun vs H Q _=>∃h d L bl rows zs,vs=[.ref h,.ref L]/\HallAt c H h d bl rows/\Hl bl rows/\rows.length<=30/\ML H L zs/\GoodW rows (zs.map (·.2))/\zs.length<=60 /\
 ∀L' ts ps H',H L'=none->Same H H'->TL H' L' ts->ps.Perm (rows.map (·.1))->ps.Pairwise (fun a b=>pLt b a=false)->ts.map (·.2)=accT bl (plc (zs.map (·.2))) ps ps.length->Q (.ref L') H'
abbrev q3o:Stmt:=top 10
theorem sc_meetings:FnScope ["hall", "wishes", "places", "paths", "told", "at", "one", "other"] ["hall", "wishes"] (defScope q3o):=⟨rfl,rfl,rfl,by decide +kernel,rfl,by decide +kernel,by decide +kernel⟩
theorem z9l{c:Addr}(D:Df K mg "meetings" q3o ["hall", "wishes"])(T:Txt mg)(C:CallsMe P w K mg base c):Cal P w K mg base "meetings" 7 ["hall", "wishes"] (spMeet c):=by
 refine D.cal sc_meetings (fun vs H Q E h=>?_) (fun f cdv A outer s H vs Q E hr h=>?_)
 ·obtain⟨h,d,L,bl,rows,zs,rfl,_⟩:=h;rfl
 ·obtain⟨h,d,L,bl,rows,zs,rfl,hh,hl,h30,ml,gw,few,k⟩:=h;refine⟨_,(q0e (q0j (i:=2) sc_meetings.nd rfl (by first|exact Or.inl rfl|exact Or.inr rfl) (pe_c C.all_places hr (q0a (pv 0) (q0a (pv 1) q0d)))) (q0e (q0j (i:=3) sc_meetings.nd rfl (by first|exact Or.inl rfl|exact Or.inr rfl) (q0l (q2m hr) (by rfl) T.b_sorted (by decide +kernel) (q0a (pv 2) q0d))) (q0e (q0j (i:=4) sc_meetings.nd rfl (by first|exact Or.inl rfl|exact Or.inr rfl) (q1k q0d)) (q0e (q1x PassesOwn.never rfl (@z3u _ _ _ _ _ _ _ _ K rfl rfl T.b_enumerate (q0a (pv 3) q0d) (by rfl)) (@q2y _ _ _ _ (2) _ K rfl rfl (q0o (q0i (i:=5) sc_meetings.nd rfl (by first|exact Or.inl rfl|exact Or.inr rfl)) (q0o (q0i (i:=6) sc_meetings.nd rfl (by first|exact Or.inl rfl|exact Or.inr rfl)) q1w)) (by rfl) (by rfl)) (q0f (q1x PassesOwn.never rfl (@q3n _ _ _ _ K rfl (q0t (sl_k K rfl) (pv 3) (q1c (q1a q1d (pv 5) q0g)) q1b)) (q0i (i:=7) sc_meetings.nd rfl (by first|exact Or.inl rfl|exact Or.inr rfl)) (q0f (q1l (@q6x _ _ _ K rfl (pe_m C.m_is_one_place hr (pv 0) (q0a (q0y (q1h hr) (pv 2) (pv 6) (fun _ _=>rfl)) (q0a (q0y (q1h hr) (pv 2) (pv 7) (fun _ _=>rfl)) q0d))) (fun _=>rfl)) (q0f (q2n (@bm_k _ _ _ _ _ _ _ _ _ _ _ _ K rfl PySem.F.plainAttrs_list PySem.F.slot_list_append PySem.F.type_list_append q1y (pv 4) (q0a (q1f (q0a (pv 6) (q0a (pv 7) (q0a (q0y (q1h hr) (pv 2) (pv 6) (fun _ _=>rfl)) q0d)))) q0d) (by rfl) (by rfl) (by rfl) (by rfl) (by rfl)))) q0n))))) (q0f (q0m (pv 4))))))),?_⟩;obtain⟨dx,hi⟩:=hh.i;refine⟨_,rfl,_,rfl,h,d,L,bl,rows,zs,rfl,hh,hl,by lia,ml,gw,few,fun D0 ps0 rs H1 hD0 s1 pd0 pm0 pw0 e0=>?_⟩;have hks:(ps0.map fun x=>((x.2.1,.ref x.1):HRow)).map (·.1)=rs.map (·.1):=by
   have:(ps0.map fun x=>((x.2.1,.ref x.1):HRow)).map (·.1)=(ps0.map (·.2)).map (·.1):=by rw[List.map_map,List.map_map];rfl
   rw[this,e0,List.map_map];rfl
  have hrl:rs.length=rows.length:=pm0.length_eq;have hpl:ps0.length=rs.length:=by have:=congrArg List.length e0;rw[List.length_map,List.length_map] at this;exact this
  have nd0:((ps0.map (·.2)).map (·.1)).Nodup:=by
   have e:(ps0.map (·.2)).map (·.1)=rs.map (·.1):=by rw[e0,List.map_map];rfl
   rw[e];exact(hl.perm pm0).paths
  refine⟨_,rfl,D0,_,rfl,pd0.at_,by rw[List.length_map];lia,fun r hr=>?_,fun L2 bs ps hL2 hp2 hs2 pts=>?_⟩
  ·have hr1:r.1∈rs.map (·.1):=by rw[<- hks];exact List.mem_map.mpr ⟨r,hr,rfl⟩
   obtain⟨y,hy,e⟩:=List.mem_map.mp hr1;rw[<- e];exact(hl.ok y (pm0.mem_iff.mp hy)).ne
  rw[hks] at hp2;obtain⟨xs,x1,x2,x3⟩:=z6x pts;rw[x1];have hpp:ps.Perm (rows.map (·.1)):=hp2.trans (pm0.map _);have xl:xs.length<=30:=by
   have e1:=congrArg List.length x2;have e2:=hpp.length_eq;rw[List.length_map] at e1 e2;lia
  have s2:=(Same.refl H1).new (o:=.lst (xs.map fun z=>V.ref z.1)) hL2;have hLL:upd H1 L2 (.lst (xs.map fun z=>V.ref z.1)) L2=some (.lst (xs.map fun z=>V.ref z.1)):=q0b;have hx2:∀z∈xs,upd H1 L2 (.lst (xs.map fun z=>V.ref z.1)) z.1=some (.tup (vP z.2)):=fun z hz=>s2 _ _ (x3 z hz);have s12:=s1.trans s2;have pd2:=pd0.same s2;generalize upd H1 L2 (.lst (xs.map fun z=>V.ref z.1))=H2 at s2 hLL hx2 s12 pd2;clear x3 pts x1 s2 pd0;have hds:ps.length=xs.length:=by rw[<- x2,List.length_map]
  have hmem:∀z∈xs,z.2∈rows.map (·.1):=fun z hz=>hpp.mem_iff.mp (by rw[<- x2];exact List.mem_map.mpr ⟨z,hz,rfl⟩);have get:∀{H':Hp} (z:Addr×Pth),z∈xs->Same H2 H'->∃e,DGet H' D0 (.ref z.1) (some (.ref e))/\H' e=some (.tup (vP (plc (zs.map (·.2)) z.2))):=fun{H'} z hz s'=>by
   have hin:z.2∈rs.map (·.1):=(pm0.map _).mem_iff.mpr (hmem z hz);rcases(pd2.same s').get nd0 (s' _ _ (hx2 z hz)) with⟨hn,_⟩|⟨y,hy,ey,dg,hy2⟩
   ·exact absurd (by rw[e0,List.map_map];exact hin) hn
   ·refine⟨y.1,dg,?_⟩;rw[e0,z9k hin] at hy2;exact hy2
  have okz:∀z∈xs,okP (plc (zs.map (·.2)) z.2):=fun z hz=>q9g hl gw (hmem z hz);generalize hf:plc (zs.map (·.2))=f at get okz k;have hi2:=s12 _ _ hi;refine⟨by show 0<=sizeLine;decide,fun L3 hL3=>?_⟩;have s3:=(Same.refl H2).new (o:=.lst []) hL3;refine⟨_,rfl,.inr ⟨L2,_,rfl,SqL.of (s3 _ _ hLL),?_⟩⟩;refine q5n (fun i σ' H'=>∃ts x5 x6 x7,σ'=[some (.ref h),some (.ref L),some (.ref D0),some (.ref L2),some (.ref L3),x5,x6,x7]/\Same H2 H'/\TL H' L3 ts/\ts.map (·.2)=accT bl f ps i) ⟨[],none,none,none,rfl,s3,⟨q0b,(fun _ h=>nomatch h)⟩,rfl⟩ (fun i σ' H' x=>by obtain⟨_,_,_,_,_,s',_⟩:=x;exact SqL.of (s' _ _ hLL)) ?_ ?_
  ·rintro i v T' σ' H4 hv ⟨ts,x5,x6,x7,rfl,s4,tl4,ets⟩ hT;obtain⟨z,hz,rfl⟩:∃z,xs[i]?=some z/\v=.ref z.1:=by
    rw[List.getElem?_map] at hv;cases e:xs[i]? with
    |none=>rw[e] at hv;cases hv
    |some z=>rw[e] at hv;cases hv;exact⟨z,rfl,rfl⟩
   have hzx:=List.mem_of_getElem? hz;have hil:i<xs.length:=(List.getElem?_eq_some_iff.mp hz).1;have hpi:ps[i]?=some z.2:=by rw[<- x2,List.getElem?_map,hz];rfl
   have sT:=(Same.refl H4).new (o:=.tup [.int i,.ref z.1]) hT;refine⟨T',_,rfl,SqT.of q0b,rfl,_,_,rfl,_,_,rfl,rfl,?_⟩;have s5:=s4.trans sT;have tl5:=tl4.same sT;refine⟨_,rfl,_,rfl,.inl ⟨_,_,rfl,rfl,_,rfl,.inr (.inl ⟨L2,_,rfl,SqL.of (s5 _ _ hLL),fun L5 hL5=>?_⟩)⟩⟩;have ec:cutV (xs.map fun z=>V.ref z.1) (some ((i:Int)+1)) none=(xs.drop (i+1)).map fun z=>V.ref z.1:=by
    rw[q9e (by lia) (by rw[List.length_map];lia),List.map_drop];congr 1
   rw[ec];have s6':=(Same.refl (upd H4 T' (.tup [.int i,.ref z.1]))).new (o:=.lst ((xs.drop (i+1)).map fun z=>V.ref z.1)) hL5;have s6:=s5.trans s6';have tl6:=tl5.same s6';have hL6:upd (upd H4 T' (.tup [.int i,.ref z.1])) L5 (.lst ((xs.drop (i+1)).map fun z=>V.ref z.1)) L5=some (.lst ((xs.drop (i+1)).map fun z=>V.ref z.1)):=q0b;have hL53:L5≠L3:=fun y=>by rw[y,tl5.at_] at hL5;cases hL5
   generalize upd (upd H4 T' (.tup [.int i,.ref z.1])) L5 (.lst ((xs.drop (i+1)).map fun z=>V.ref z.1))=H6 at s6' s6 tl6 hL6;refine .inl ⟨L5,rfl,⟨_,SqL.of hL6⟩,?_⟩;refine q4l (xs:=(xs.drop (i+1)).map fun z=>V.ref z.1) (fun j σ' H'=>∃ts x7,σ'=[some (.ref h),some (.ref L),some (.ref D0),some (.ref L2),some (.ref L3),some (.int (i:Int)),some (.ref z.1),x7]/\Same H2 H'/\TL H' L3 ts/\H' L5=some (.lst ((xs.drop (i+1)).map fun z=>V.ref z.1))/\ts.map (·.2)=accT bl f ps i++(((ps.drop (i+1)).take j).filter fun q=>decide (fold bl (f z.2)=fold bl (f q))).map fun q=>(z.2,q,f z.2))
    ⟨ts,x7,rfl,s6,tl6,hL6,by rw[ets];simp⟩ (fun j σ' H' _ x=>by obtain⟨_,_,_,_,_,h5,_⟩:=x;exact SqL.of h5) ?_ ?_
   ·rintro j v σ' H7 hv ⟨ts,x7,rfl,s7,tl7,hL7,ets7⟩;obtain⟨y,hy,rfl⟩:∃y,(xs.drop (i+1))[j]?=some y/\v=.ref y.1:=by
     rw[List.getElem?_map] at hv;cases e:(xs.drop (i+1))[j]? with
     |none=>rw[e] at hv;cases hv
     |some y=>rw[e] at hv;cases hv;exact⟨y,rfl,rfl⟩
    have hyx:y∈xs:=List.mem_of_mem_drop (List.mem_of_getElem? hy);have hpj:(ps.drop (i+1))[j]?=some y.2:=by rw[<- x2,<- List.map_drop,List.getElem?_map,hy];rfl
    have e1:(ps.drop (i+1)).take (j+1)=(ps.drop (i+1)).take j++[y.2]:=by rw[List.take_add_one,hpj];rfl
    obtain⟨ez,dz,hz7⟩:=get z hzx s7;obtain⟨ey,dy,hy7⟩:=get y hyx s7;refine⟨_,rfl,h,dx,_,rfl,s7 _ _ hi2,rfl,_,rfl,_,rfl,D0,_,rfl,dz,_,rfl,_,rfl,D0,_,rfl,dy,h,ez,ey,bl,dx,_,f z.2,f y.2,rfl,s7 _ _ hi2,rfl,hz7,hy7,okz z hzx,okz y hyx,fun H8 s8=>⟨_,rfl,?_⟩⟩;have s78:=s7.trans s8;have tl8:=tl7.same s8;have hlen:ts.length<=930:=by
     have e2:=congrArg List.length ets7;rw[List.length_map,List.length_append,List.length_map] at e2;have e3:=z1f (bl:=bl) (f:=f) (ps:=ps) i;have e4:((((ps.drop (i+1)).take j).filter fun q=>decide (fold bl (f z.2)=fold bl (f q)))).length<=ps.length:=by
      refine Nat.le_trans (List.length_filter_le _ _) ?_;rw[List.length_take,List.length_drop];lia
     have e5:i*ps.length<=30*30:=Nat.mul_le_mul (by lia) (by lia);lia
    refine iteB (fun hc=>?_) (fun hc=>?_)
    ·obtain⟨ez',dz',hz8⟩:=get z hzx s78;refine⟨_,rfl,.inl ⟨rfl,_,SqL.of tl8.at_⟩,_,rfl,_,rfl,_,rfl,_,rfl,D0,_,rfl,dz',by show 3<=sizeLine;decide,fun T1 hT1=>?_⟩;have s9':=(Same.refl H8).new (o:=.tup [.ref z.1,.ref y.1,.ref ez']) hT1;have s9:=s78.trans s9';have tl9:=tl8.same s9';have tt:TT3 (upd H8 T1 (.tup [.ref z.1,.ref y.1,.ref ez'])) T1 (z.2,y.2,f z.2):=⟨z.1,y.1,ez',q0b,s9 _ _ (hx2 z hzx),s9 _ _ (hx2 y hyx),s9' _ _ hz8⟩
     refine⟨L3,_,_,rfl,rfl,tl9.at_,by rw[List.length_map];exact small' (by lia),?_⟩;refine⟨ts++[(T1,(z.2,y.2,f z.2))],_,rfl,fun x u e=>by rw[q0c (fun w'=>by rw[w',hL3] at e;cases e)];exact s9 _ _ e,tl9.put tt,by rw[q0c hL53];exact s9' _ _ (s8 _ _ hL7),?_⟩;rw[List.map_append,ets7,e1,List.filter_append,List.filter_cons_of_pos (by simpa using hc),List.map_append,<- List.append_assoc];rfl
    ·refine⟨ts,_,rfl,s78,tl8,s8 _ _ hL7,?_⟩;rw[ets7,e1,List.filter_append,List.filter_cons_of_neg (by simpa using hc)];simp
   ·rintro σ' H7 ⟨ts,x7,rfl,s7,tl7,hL7,ets7⟩;refine⟨ts,_,_,_,rfl,s7,tl7,?_⟩;rw[q9f,ets7];congr 1;unfold rowT;rw[hpi];have e2:(ps.drop (i+1)).take ((xs.drop (i+1)).map fun z=>V.ref z.1).length=ps.drop (i+1):=List.take_of_length_le (by rw[List.length_map,List.length_drop,List.length_drop];lia);rw[e2]
  ·rintro σ' H4 ⟨ts,x5,x6,x7,rfl,s4,tl4,ets⟩;refine⟨_,rfl,k L3 ts ps H4 (s12.free hL3) (s12.trans s4) tl4 hpp hs2 ?_⟩;rw[ets,List.length_map,hds]
end
end K
set_option maxHeartbeats 4000000
namespace K
open PySem L2 TX SB HM
section
variable{P:Program}{w:World}{K:W.Frag}{mg:Str->Option Value}{base:Heap}
structure PL (H:Hp) (L:Addr) (zs:List (Addr×Pth)):Prop where
 at_:H L=some (.lst (zs.map fun z=>V.ref z.1))
 pr:∀z∈zs,H z.1=some (.tup (vP z.2))/\okP z.2
theorem PL.same{H H':Hp}{L:Addr}{zs:List (Addr×Pth)}(h:PL H L zs)(s:Same H H'):PL H' L zs:=⟨s _ _ h.at_,fun z hz=>⟨s _ _ (h.pr z hz).1,(h.pr z hz).2⟩⟩
theorem PL.fd{a b L:Addr}{H H':Hp}{zs:List (Addr×Pth)}(h:PL H L zs)(F:FeedAt H a b)(fd:Fd a b H H')(hL:L≠a):PL H' L zs:=⟨fd.at h.at_ hL,fun z hz=>⟨tupFd F fd _ _ (h.pr z hz).1,(h.pr z hz).2⟩⟩
theorem PL.get{H:Hp}{L:Addr}{zs:List (Addr×Pth)}(h:PL H L zs){r:Int}(r0:0<=r)(r1:r<zs.length):∃z∈zs,atI (zs.map fun z=>V.ref z.1) r=some (.ref z.1):=by
 obtain⟨v,hv1,hv2⟩:=q6b (xs:=zs.map fun z=>V.ref z.1) r0 (by rw[List.length_map];exact r1);rw[List.getElem?_map] at hv1;cases e:zs[r.toNat]? with
 |none=>rw[e] at hv1;cases hv1
 |some z=>rw[e] at hv1;cases hv1;exact⟨z,List.mem_of_getElem? e,hv2⟩
theorem z9m:∀c∈HM.NS,PyProof.Rows.lo1 (PyProof.Rows.up1 c)=PyProof.Rows.lo1 c:=by decide +kernel
theorem z9n:∀c∈HM.NS,PyProof.Rows.lo1 (PyProof.Rows.lo1 c)=PyProof.Rows.lo1 c:=by decide +kernel
structure CallsOC (P:Program) (w:World) (K:W.Frag) (mg:Str->Option Value) (base:Heap):Prop where
 draw:Cal P w K mg base "_law_draw" 1 ["_law_feed", "_law_many"] spDraw
def spOther:Sp:=fun vs H Q _=>∃a b n,vs=[.ref a,.str (mk n)]/\FeedAt H a b/\okN n/\∀n' H',okN n'->lowN n'=lowN n->Fd a b H H'->Q (.str (mk n')) H'
abbrev q2s:Stmt:=top 30
theorem q7j:FnScope ["_law_feed", "_law_name"] ["_law_feed", "_law_name"] (defScope q2s):=⟨rfl,rfl,rfl,by decide +kernel,rfl,by decide +kernel,by decide +kernel⟩
theorem q7k(D:Df K mg "_law_other_case" q2s ["_law_feed", "_law_name"])(T:Txt mg)(C:CallsOC P w K mg base):Cal P w K mg base "_law_other_case" 2 ["_law_feed", "_law_name"] spOther:=by
 refine D.cal q7j (fun vs H Q E h=>?_) (fun f cdv A outer s H vs Q E hr h=>?_)
 ·obtain⟨a,b,n,rfl,_⟩:=h;rfl
 ·obtain⟨a,b,n,rfl,F,ok,k⟩:=h;refine⟨_,(q0f (q0m (@bm_k _ _ _ _ _ _ _ _ _ _ _ _ K rfl PySem.F.plainAttrs_str PySem.F.slot_str_join PySem.F.type_str_join (z7l K rfl) q3j (q0a (q2d ["_law_sign"] [("_law_feed",0)] rfl (@q3n _ _ _ _ K rfl (pv 1)) (fun _ _ _ _ _=>(q0i (i:=0) (show(["_law_sign", "_law_feed"]:List Str).Nodup by decide +kernel) rfl (by first|exact Or.inl rfl|exact Or.inr rfl))) (fun _ _ _ _ _=>q4a) (fun _ _ _ _ _=>(q0x (ix_k K rfl) (q1k (q0a (pv 0) (q0a (@q9n _ _ _ _ _ _ _ _ _ K rfl PySem.F.plainAttrs_str PySem.F.slot_str_upper PySem.F.type_str_upper z5u (pv 0) (by rfl) (by rfl)) (q0a (@q9n _ _ _ _ _ _ _ _ _ K rfl PySem.F.plainAttrs_str PySem.F.slot_str_lower PySem.F.type_str_lower q4m (pv 0) (by rfl) (by rfl)) q0d)))) (pe_c C.draw hr (q0a (pv 1) (q0a q0g q0d))) (fun _ _=>rfl)))) q0d) (by rfl) (by rfl) (by rfl) (by rfl) (by rfl)))),?_⟩;have hlen:(mk n).length=n.length:=by rw[len,q2j]
  have hfew:=ok.few;refine⟨rfl,_,rfl,.inr (.inr ⟨_,rfl,fun D hD=>?_⟩)⟩;refine z3r (fun i ys H'=>∃cs:List Nat,ys=cs.map (fun c=>V.str ⟨#[c]⟩)/\cs.length=i/\i<=n.length/\(∀c∈cs,c∈HM.NS)/\Fd a b H H'/\H' D=some (.lst ys)/\cs.map PyProof.Rows.lo1=(n.take i).map PyProof.Rows.lo1) ⟨[],rfl,rfl,Nat.zero_le _,fun _ h=>(nomatch h),(Fd.refl F).new hD,q0b,rfl⟩ (fun i ys H' ⟨cs,_,_,_,_,_,h,_⟩=>h) ?_ ?_
  ·rintro i ys H' c hc ⟨cs,rfl,hl',_,hcs,fd,hHD,elo⟩;have hci:n[i]?=some c:=by have:=get hc;rw[q2j] at this;exact this
   have hi:i<n.length:=(List.getElem?_eq_some_iff.mp hci).1;have hcn:=ok.all c (List.mem_of_getElem? hci);have hlow:∀x∈[c],x<128:=fun x hx=>by rw[List.mem_singleton.mp hx];exact z7q c hcn
   have eu:PySem.Txt.upper (⟨#[c]⟩:Str)=⟨#[PyProof.Rows.up1 c]⟩:=z6l (n:=[c]) hlow;have el:PySem.Txt.lower (⟨#[c]⟩:Str)=⟨#[PyProof.Rows.lo1 c]⟩:=z1d (n:=[c]) hlow;refine⟨_,rfl,_,rfl,rfl,_,rfl,rfl,by show 3*1<=sizeLine;decide,?_⟩;rw[eu];refine⟨_,rfl,rfl,_,rfl,rfl,by show 3*1<=sizeLine;decide,?_⟩;rw[el];refine⟨by show 3<=sizeLine;decide,fun M hM=>?_⟩;have hMa:M≠a:=(fd.feed.na hM).symm;have fdM:=fd.new (o:=.lst [.str ⟨#[c]⟩,.str ⟨#[PyProof.Rows.up1 c]⟩,.str ⟨#[PyProof.Rows.lo1 c]⟩]) hM;have hDM:D≠M:=fun y=>by rw[<- y,hHD] at hM;cases hM
   have hDa:D≠a:=(F.na hD).symm;refine⟨_,rfl,a,b,_,rfl,fdM.feed,by decide,by decide,fun r H2 r0 r1 fd2=>?_⟩;have hat:∃c',atI [V.str ⟨#[c]⟩,V.str ⟨#[PyProof.Rows.up1 c]⟩,V.str ⟨#[PyProof.Rows.lo1 c]⟩] r=some (.str ⟨#[c']⟩)/\c'∈HM.NS/\PyProof.Rows.lo1 c'=PyProof.Rows.lo1 c:=by
    have e:r=0\/r=1\/r=2:=by lia
    rcases e with rfl|rfl|rfl
    ·exact⟨c,rfl,hcn,rfl⟩
    ·exact⟨_,rfl,ns_up c hcn,z9m c hcn⟩
    ·exact⟨_,rfl,ns_lo c hcn,z9n c hcn⟩
   obtain⟨c',hat,hc',hlo⟩:=hat;refine .inl ⟨M,_,r,_,rfl,rfl,SqL.of (fd2.at q0b hMa),hat,?_⟩;refine⟨fd2.at (by rw[q0c hDM];exact hHD) hDa,small' (by rw[List.length_map];lia),cs++[c'],by rw[List.map_append];rfl,by rw[List.length_append,hl'];rfl,hi,fun x hx=>?_,(fdM.trans fd2).put F hD,q0b,by rw[List.map_append,elo,List.take_add_one,hci,List.map_append];show _++[PyProof.Rows.lo1 c']=_;rw[hlo];rfl⟩;rcases List.mem_append.mp hx with y|y
   ·exact hcs x y
   ·rw[List.mem_singleton.mp y];exact hc'
  ·rintro ys H2 ⟨cs,rfl,hl',_,hcs,fd,hHD,elo⟩;rw[hlen] at hl';have e:cs.map (fun c=>V.str ⟨#[c]⟩)=(cs.map fun c=>(⟨#[c]⟩:Str)).map V.str:=by rw[List.map_map];rfl
   refine⟨_,D,cs.map fun c=>⟨#[c]⟩,rfl,rfl,.inl (SqL.of (by rw[<- e];exact hHD)),?_,?_⟩
   ·rw[z0t,List.length_map];have:(Str.ofString "").length=0:=by decide +kernel
    rw[this,hl'];exact small (by lia)
   ·have z:=q8e cs;rw[z];have:=ok.one;exact k cs H2 ⟨by lia,by lia,hcs⟩ (by unfold lowN;rw[elo,hlen,List.take_length]) fd
def lenAt(L:Addr)(H:Hp):Nat:=match H L with|some (.lst xs)=>xs.length|_=>0
theorem q2i{L:Addr}{H:Hp}{xs:List V}(h:H L=some (.lst xs)):lenAt L H=xs.length:=by unfold lenAt;rw[h]
theorem ers_map{α β:Type}(f:α->β):∀(l:List α) (k:Nat),(l.map f).eraseIdx k=(l.eraseIdx k).map f
 |[],_=>rfl
 |_::_,0=>rfl
 |a::l,k+1=>by show f a::(l.map f).eraseIdx k=f a::(l.eraseIdx k).map f;rw[ers_map f l k]
theorem z1g{α:Type}{z:α}:∀{l:List α} {k:Nat},l[k]?=some z->l.Perm (z::l.eraseIdx k)
 |[],_,h=>by cases h
 |a::l,0,h=>by cases h;exact List.Perm.refl _
 |a::l,k+1,h=>by
  show(a::l).Perm (z::a::l.eraseIdx k);exact((z1g (l:=l) (k:=k) h).cons a).trans (List.Perm.swap _ _ _)
structure GG (K:W.Frag) {α:Type} (G:Hp->Addr->α->Prop):Prop where
 keep:∀{H H':Hp} {T:Addr} {t:α},G H T t->(∀T xs,H T=some (.tup xs)->H' T=some (.tup xs))->G H' T t
 dat:∀{H:Hp} {T:Addr} {t:α},G H T t->∃d,Dt K H (.ref T) d/\d.canLay0=true
structure GL {α:Type} (G:Hp->Addr->α->Prop) (H:Hp) (L:Addr) (zs:List (Addr×α)):Prop where
 at_:H L=some (.lst (zs.map fun z=>V.ref z.1))
 pr:∀z∈zs,G H z.1 z.2
section
variable{α:Type}{G:Hp->Addr->α->Prop}
theorem GL.same{H H':Hp}{L:Addr}{zs:List (Addr×α)}(g:GG K G)(h:GL G H L zs)(s:Same H H'):GL G H' L zs:=⟨s _ _ h.at_,fun z hz=>g.keep (h.pr z hz) fun T xs e=>s _ _ e⟩
theorem GL.fd{a b L:Addr}{H H':Hp}{zs:List (Addr×α)}(g:GG K G)(h:GL G H L zs)(F:FeedAt H a b)(fd:Fd a b H H')(hL:L≠a):GL G H' L zs:=⟨fd.at h.at_ hL,fun z hz=>g.keep (h.pr z hz) fun T xs e=>tupFd F fd _ _ e⟩
theorem dts_G{H:Hp}(g:GG K G):∀{zs:List (Addr×α)},(∀z∈zs,G H z.1 z.2)->∃ds,Dts K H (zs.map fun z=>V.ref z.1) ds/\PyData.canLayAll0 ds=true/\(ds=[]↔zs=[])
 |[],_=>⟨[],.nil,by simp[PyData.canLayAll0],by simp⟩
 |z::zs,h=>by
  obtain⟨ds,h1,h2,_⟩:=dts_G g fun y hy=>h y (List.mem_cons_of_mem _ hy)
  obtain⟨d,h3,h4⟩:=g.dat (h z List.mem_cons_self);exact⟨d::ds,.cons h3 h1,by simp only[PyData.canLayAll0,h4,h2,Bool.and_self],by simp⟩
theorem ne_noG{H:Hp}{L E:Addr}{zs:List (Addr×α)}{Q:VK}(g:GG K G)(h:GL G H L zs)(he:H E=some (.lst []))(k:Q (.bl (!zs.isEmpty)) H):rNeU K (.ref L) (.ref E) H Q:=by
 obtain⟨ds,h1,h2,h3⟩:=dts_G g h.pr;refine .inr ⟨_,_,.lst (SqL.of h.at_) h1,.lst (SqL.of he) .nil,by simp only[PyData.canLay0];exact h2,by simp[PyData.canLay0,PyData.canLayAll0],?_,?_⟩
 ·have:(PyData.list []).depth<=100:=by simp[PyData.depth,PyData.depthAll]
  lia
 ·have e:PyData.eqv (.list ds) (.list [])=zs.isEmpty:=by
   cases ds with
   |nil=>rw[h3.mp rfl];simp[PyData.eqv,PyData.eqvAll]
   |cons d ds =>
    cases zs with
    |nil=>cases h3.mpr rfl
    |cons _ _=>simp[PyData.eqv,PyData.eqvAll]
  rw[e];exact k
end
structure SmI {α:Type} (G:Hp->Addr->α->Prop) (H:Hp) (a b Lf M:Addr) (zs:List (Addr×α)) (H':Hp) (zl zf:List (Addr×α)):Prop where
 fd:Fd a b H H'
 l:GL G H' Lf zl
 m:GL G H' M zf
 p:(zl++zf).Perm zs
section
variable{α:Type}{G:Hp->Addr->α->Prop}{H:Hp}{a b Lf M:Addr}{zs:List (Addr×α)}{H' H2:Hp}{zl zf:List (Addr×α)}
theorem SmI.go(g:GG K G)(x:SmI G H a b Lf M zs H' zl zf)(fd:Fd a b H' H2)(hL:Lf≠a)(hM:M≠a):SmI G H a b Lf M zs H2 zl zf:=⟨x.fd.trans fd,x.l.fd g x.fd.feed fd hL,x.m.fd g x.fd.feed fd hM,x.p⟩
theorem SmI.mv{k:Nat}{z:Addr×α}(g:GG K G)(x:SmI G H a b Lf M zs H' zl zf)(F:FeedAt H a b)(hL:H Lf=none)(hM:H M=none)(n:M≠Lf)(hz:zl[k]?=some z):
  SmI G H a b Lf M zs (upd (upd H' Lf (.lst ((zl.map fun z=>V.ref z.1).eraseIdx k))) M (.lst (zf.map (fun z=>V.ref z.1)++[.ref z.1]))) (zl.eraseIdx k) (zf++[z]):=by
 have tk:∀S xs,H' S=some (.tup xs)->upd (upd H' Lf (.lst ((zl.map fun z=>V.ref z.1).eraseIdx k))) M (.lst (zf.map (fun z=>V.ref z.1)++[.ref z.1])) S=some (.tup xs):=fun S xs e=>by
  rw[q0c (fun z=>by rw[z,x.m.at_] at e;cases e),q0c (fun z=>by rw[z,x.l.at_] at e;cases e)];exact e
 refine⟨(x.fd.put F hL).put F hM,⟨?_,fun y hy=>g.keep (x.l.pr y (List.mem_of_mem_eraseIdx hy)) tk⟩,⟨by rw[q0b,List.map_append];rfl,fun y hy=>?_⟩,?_⟩
 ·rw[q0c n.symm,q0b,ers_map]
 ·rcases List.mem_append.mp hy with hy|hy
  ·exact g.keep (x.m.pr y hy) tk
  ·rw[List.mem_singleton.mp hy];exact g.keep (x.l.pr z (List.mem_of_getElem? hz)) tk
 ·refine List.Perm.trans ?_ x.p;have e:zl.Perm (z::zl.eraseIdx k):=z1g hz;have e2:(zl.eraseIdx k++(zf++[z])).Perm (z::(zl.eraseIdx k++zf)):=by
   rw[<- List.append_assoc];exact List.perm_append_singleton _ _
  exact e2.trans (List.Perm.append_right zf e.symm)
end
def spSome(K:W.Frag):Sp:=fun vs H Q _=>∃(α:Type) (G:Hp->Addr->α->Prop) (a b L:Addr) (zs:List (Addr×α)) (n:Int),GG K G/\vs=[.ref a,.ref L,.int n]/\FeedAt H a b/\GL G H L zs/\zs.length<=60/\∀M zf zr H',Fd a b H H'->H M=none->GL G H' M zf->(zr++zf).Perm zs->(n<=zf.length\/zr=[])->Q (.ref M) H'
abbrev q4f:Stmt:=top 31
theorem sc_some_of:FnScope ["_law_feed", "_law_things", "_law_many", "_law_left", "_law_found"] ["_law_feed", "_law_things", "_law_many"] (defScope q4f):=⟨rfl,rfl,rfl,by decide +kernel,rfl,by decide +kernel,by decide +kernel⟩
theorem z2l(D:Df K mg "_law_some_of" q4f ["_law_feed", "_law_things", "_law_many"])(T:Txt mg)(C:CallsOC P w K mg base):Cal P w K mg base "_law_some_of" 2 ["_law_feed", "_law_things", "_law_many"] (spSome K):=by
 refine D.cal sc_some_of (fun vs H Q E h=>?_) (fun f cdv A outer s H vs Q E hr h=>?_)
 ·obtain⟨α,G,a,b,L,zs,n,g,rfl,_⟩:=h;rfl
 ·obtain⟨α,G,a,b,L,zs,n,g,rfl,F,hl,h60,k⟩:=h;refine⟨_,(q0e (q0j (i:=3) sc_some_of.nd rfl (by first|exact Or.inl rfl|exact Or.inr rfl) (q3s (z7k K rfl) (by rfl) T.b_list (by decide +kernel) (q0a (pv 1) q0d))) (q0e (q0j (i:=4) sc_some_of.nd rfl (by first|exact Or.inl rfl|exact Or.inr rfl) (q1k q0d)) (q0e (q6n PassesOwn.never (pt_j (@PW.pt _ _ _ (q2v (q0k z5j (q0l (q5e K rfl) (by rfl) T.b_len PySem.boot_len (q0a (pv 4) q0d)) (pv 2) (nomark _)) (q1q (q0k (ne_k K rfl hr) (pv 3) (q1k q0d) (nomark _)))))) (q0f (q2n (@bm_k _ _ _ _ _ _ _ _ _ _ _ _ K rfl PySem.F.plainAttrs_list PySem.F.slot_list_append PySem.F.type_list_append q1y (pv 4) (q0a (@bm_k _ _ _ _ _ _ _ _ _ _ _ _ K rfl PySem.F.plainAttrs_list PySem.F.slot_list_pop PySem.F.type_list_pop z5s (pv 3) (q0a (pe_c C.draw hr (q0a (pv 0) (q0a (q0l (q5e K rfl) (by rfl) T.b_len PySem.boot_len (q0a (pv 3) q0d)) q0d))) q0d) (by rfl) (by rfl) (by rfl) (by rfl) (by rfl)) q0d) (by rfl) (by rfl) (by rfl) (by rfl) (by rfl))))) (q0f (q0m (pv 4)))))),?_⟩;refine⟨_,rfl,L,_,rfl,.inl (SqL.of hl.at_),fun Lf hLf=>⟨by show 0<=sizeLine;decide,fun M hM=>?_⟩⟩;have s1:=(Same.refl H).new (o:=.lst (zs.map fun z=>V.ref z.1)) hLf;have s2:=s1.new (o:=.lst []) hM;have hML:M≠Lf:=fun z=>by rw[z,q0b] at hM;cases hM
  have hMH:H M=none:=s1.free hM;have hLa:Lf≠a:=(F.na hLf).symm;have hMa:M≠a:=(F.na hMH).symm;have I0:SmI G H a b Lf M zs (upd (upd H Lf (.lst (zs.map fun z=>V.ref z.1))) M (.lst [])) zs [] :=
   ⟨(Fd.refl F).same s2,⟨by rw[q0c hML.symm];exact q0b,(hl.same g s2).pr⟩,⟨q0b,(fun _ h=>nomatch h)⟩,by rw[List.append_nil]⟩
  refine q6o (fun σ3 H3=>∃zl zf,σ3=[some (.ref a),some (.ref L),some (.int n),some (.ref Lf),some (.ref M)]/\SmI G H a b Lf M zs H3 zl zf) (fun _ H3=>lenAt Lf H3) ⟨zs,[],rfl,I0⟩ ?_ ?_
  ·rintro σ3 H3 ⟨zl,zf,rfl,I⟩;have hlen:zl.length+zf.length=zs.length:=by rw[<- List.length_append];exact I.p.length_eq
   refine⟨fun bb H4=>SmI G H a b Lf M zs H4 zl zf/\lenAt Lf H4=lenAt Lf H3/\(bb=true->zl≠[])/\(bb=false->n<=zf.length\/zl=[]),?_,?_⟩
   ·rintro bb H4 ⟨I1,el,hb,hbf⟩;refine ite2 (fun h=>?_) (fun h=>⟨_,rfl,k M zf zl _ I1.fd hMH I1.m I1.p (hbf (by simpa using h))⟩);have hne:=hb h;have hpos:=List.length_pos_iff.mpr hne;refine⟨_,rfl,.inl ⟨rfl,_,SqL.of I1.m.at_⟩,_,rfl,.inl ⟨rfl,_,SqL.of I1.l.at_⟩,_,rfl,_,rfl,_,_,rfl,.inl ⟨_,SqL.of I1.l.at_,rfl⟩,a,b,_,rfl,I1.fd.feed,by rw[List.length_map];lia,by rw[List.length_map];lia,fun r H5 r0 r1 fd5=>?_⟩;rw[List.length_map] at r1;have I2:=I1.go g fd5 hLa hMa;obtain⟨v,hv1,hv2⟩:=q6b (xs:=zl) r0 r1;obtain⟨j,hj1,hj2,hj3,_,_⟩:=q6q hv2;refine⟨Lf,_,r,j,.ref v.1,rfl,rfl,I2.l.at_,by lia,by lia,by rw[List.length_map];exact hj1,by rw[List.getElem?_map,hj2];rfl,?_⟩;refine⟨M,_,_,rfl,rfl,by rw[q0c hML];exact I2.m.at_,by rw[List.length_map];exact small' (by lia),?_⟩;have I3:=I2.mv g F hLf hMH hML hj2;refine⟨⟨_,_,rfl,I3⟩,?_⟩;rw[<- el,q2i I3.l.at_,q2i I1.l.at_,List.length_map,List.length_map,List.length_eraseIdx,if_pos hj3];lia
   ·refine⟨_,rfl,_,_,rfl,.inl ⟨_,SqL.of I.m.at_,rfl⟩,_,rfl,_,_,rfl,rfl,_,rfl,?_⟩;refine iteB (fun e=>?_) (fun e=>⟨I,rfl,(fun z=>by cases z),fun _=>.inl ?_⟩)
    ·refine⟨_,rfl,by show 0<=sizeLine;decide,fun E hE=>?_⟩;have sE:=(Same.refl H3).new (o:=.lst []) hE;have I1:SmI G H a b Lf M zs (upd H3 E (.lst [])) zl zf:=⟨I.fd.same sE,I.l.same g sE,I.m.same g sE,I.p⟩
     refine ne_noG g I1.l q0b ⟨_,rfl,I1,by rw[q2i I1.l.at_,q2i I.l.at_],fun h=>by simpa using h,fun h=>.inr (by simpa using h)⟩
    ·have:=of_decide_eq_false e;rw[List.length_map] at this;lia
  ·intro σ3 H3 Q1 Q2 hq h;obtain⟨R,h1,h2⟩:=h;exact⟨R,fun b H1 r=>hq _ _ (h1 b H1 r),h2⟩
end
end K
set_option maxHeartbeats 4000000
namespace K
open PySem L2 TX SB HM
section
variable{P:Program}{w:World}{K:W.Frag}{mg:Str->Option Value}{base:Heap}
theorem foldR:∀{rs acc:List HRow},((acc++rs).map (·.1)).Nodup->rs.foldl putR (acc.map fun r=>(kP r.1,r.2))=(acc++rs).map fun r=>(kP r.1,r.2)
 |[],acc,_=>by rw[List.append_nil];rfl
 |r::rs,acc,nd=>by
  have e:acc++r::rs=(acc++[r])++rs:=by rw[List.append_assoc];rfl
  show rs.foldl putR (putK (acc.map fun r=>(kP r.1,r.2)) (kP r.1) r.2)=_;rw[q2p (p:=r.1) (v:=r.2) fun x hx z=>by
   rw[List.map_append,List.map_cons] at nd;exact(List.nodup_append.mp nd).2.2 _ (List.mem_map.mpr ⟨x,hx,rfl⟩) _ List.mem_cons_self z]
  rw[e] at nd ⊢;exact foldR nd
theorem z4w{bl:Bool}{zs:List Zr}(hl:Hl bl (zs.map (·.2))):HO.dT ((zs.map fun z=>rR z.2).foldl putR [])=dR ((zs.map (·.2)).map rR):=by
 have er:(zs.map fun z=>rR z.2)=(zs.map (·.2)).map rR:=by rw[List.map_map];rfl
 have nd2:(((zs.map (·.2)).map rR).map (·.1)).Nodup:=by rw[List.map_map];exact hl.paths
 rw[er];exact congrArg HO.dT (foldR (acc:=[]) nd2)
theorem z4x{c x dx d:Addr}{H1 H':Hp}(hx:H1 x=none)(hdx:H1 dx=none)(hd:upd (upd H1 dx (.own x)) x (.ins c dx []) d=none)(k:∀a u,a≠x->upd (upd H1 dx (.own x)) x (.ins c dx []) a=some u->H' a=some u):Same H1 H'/\H1 d=none:=by
 refine⟨fun a u e=>k a u (fun z=>by rw[z,hx] at e;cases e) ?_,?_⟩
 ·rw[q0c (fun z=>by rw[z,hx] at e;cases e),q0c (fun z=>by rw[z,hdx] at e;cases e)];exact e
 ·have h1:d≠x:=fun z=>by rw[z,q0b] at hd;cases hd
  rw[q0c h1] at hd;have h2:d≠dx:=fun z=>by rw[z,q0b] at hd;cases hd
  rw[q0c h2] at hd;exact hd
theorem z9o{c x dx L:Addr}{H1:Hp}{zs:List Zr}(h:RL H1 L zs)(hx:H1 x=none)(hdx:H1 dx=none):RL (upd (upd H1 dx (.own x)) x (.ins c dx [])) L zs:=h.same fun a u e=>by
 rw[q0c (fun z=>by rw[z,hx] at e;cases e),q0c (fun z=>by rw[z,hdx] at e;cases e)];exact e
theorem z4y{c a b h d:Addr}{bl:Bool}{rows:List Rw}{H H':Hp}(x:HallAt c H h d bl rows)(F:FeedAt H a b)(fd:Fd a b H H'):HallAt c H' h d bl rows:=by
 obtain⟨i,j,q⟩:=F.fa;exact⟨x.i.imp fun dx e=>fd.at e fun z=>by(rw[z,q] at e;cases e),fd.at x.d fun z=>by have e:=x.d;rw[z,q] at e;cases e⟩
theorem z9p{a b m:Addr}{rs:List HRow}{H H':Hp}(x:H m=some (dR rs))(F:FeedAt H a b)(fd:Fd a b H H'):H' m=some (dR rs):=by
 obtain⟨i,j,q⟩:=F.fa;exact fd.at x fun z=>by rw[z,q] at x;cases x
structure CallsAs (P:Program) (w:World) (K:W.Frag) (mg:Str->Option Value) (base:Heap) (c:Addr):Prop where
 meetings:Cal P w K mg base "meetings" 7 ["hall", "wishes"] (spMeet c)
theorem z9q{bl:Bool}{f:Pth->Pth}{ps:List Pth}{n:Nat}(nd:(ps.map fun p=>fold bl (f p)).Nodup):accT bl f ps n=[]:=by
 refine List.eq_nil_iff_forall_not_mem.mpr fun t h=>?_;obtain⟨i,_,h⟩:=List.mem_flatMap.mp h;unfold rowT at h;cases e:ps[i]? with
 |none=>rw[e] at h;cases h
 |some p =>
  rw[e] at h;obtain⟨q,hq,rfl⟩:=List.mem_map.mp h;obtain⟨h1,h2⟩:=List.mem_filter.mp hq;obtain⟨j,hj⟩:=List.mem_iff_getElem?.mp h1;rw[List.getElem?_drop] at hj;have a1:(ps.map fun p=>fold bl (f p))[i]?=some (fold bl (f p)):=by rw[List.getElem?_map,e];rfl
  have a2:(ps.map fun p=>fold bl (f p))[i+1+j]?=some (fold bl (f q)):=by rw[List.getElem?_map,hj];rfl
  rw[<- of_decide_eq_true h2] at a2;have:=(List.getElem?_inj (List.getElem?_eq_some_iff.mp a1).1 nd).mp (a1.trans a2.symm);lia
def Apart(bl:Bool)(rows:List Rw)(f:Pth->Pth):Prop:=((rows.map (·.1)).map fun p=>fold bl (f p)).Nodup
def spAsk(c:Addr):Sp:=fun vs H Q _=>∃h d L bl rows zs,vs=[.ref h,.ref L]/\HallAt c H h d bl rows/\Hl bl rows/\rows.length<=30/\ML H L zs/\GoodW rows (zs.map (·.2))/\zs.length<=60/\Apart bl rows (plc (zs.map (·.2))) /\
 ∀H',Same H H'->Q (.bl true) H'
abbrev q2t:Stmt:=top 11
theorem sc_ask_wishes:FnScope ["hall", "wishes", "met", "one", "other", "place"] ["hall", "wishes"] (defScope q2t):=⟨rfl,rfl,rfl,by decide +kernel,rfl,by decide +kernel,by decide +kernel⟩
theorem q7l{c:Addr}(D:Df K mg "ask_wishes" q2t ["hall", "wishes"])(T:Txt mg)(C:CallsAs P w K mg base c):Cal P w K mg base "ask_wishes" 8 ["hall", "wishes"] (spAsk c):=by
 refine D.cal sc_ask_wishes (fun vs H Q E h=>?_) (fun f cdv A outer s H vs Q E hr h=>?_)
 ·obtain⟨h,d,L,bl,rows,zs,rfl,_⟩:=h;rfl
 ·obtain⟨h,d,L,bl,rows,zs,rfl,hh,hl,h30,ml,gw,few,ap,k⟩:=h;refine⟨_,(q0e (q0j (i:=2) sc_ask_wishes.nd rfl (by first|exact Or.inl rfl|exact Or.inr rfl) (pe_c C.meetings hr (q0a (pv 0) (q0a (pv 1) q0d)))) (q0e (q1l (q0k (ne_k K rfl hr) (pv 2) (q1k q0d) (nomark _)) (q0e (q7s (q0x (ix_k K rfl) (pv 2) q0g (fun _ _=>rfl)) (@q2y _ _ _ _ (3) _ K rfl rfl (q0o (q0i (i:=3) sc_ask_wishes.nd rfl (by first|exact Or.inl rfl|exact Or.inr rfl)) (q0o (q0i (i:=4) sc_ask_wishes.nd rfl (by first|exact Or.inl rfl|exact Or.inr rfl)) (q0o (q0i (i:=5) sc_ask_wishes.nd rfl (by first|exact Or.inl rfl|exact Or.inr rfl)) q1w))) (by rfl) (by rfl))) (q0f q4k)) q0n) (q0f (q0m q4r)))),?_⟩;refine⟨_,rfl,_,rfl,h,d,L,bl,rows,zs,rfl,hh,hl,h30,ml,gw,few,fun G ts ps H1 hG s1 tl pm pw ets=>?_⟩;have no:ts=[]:=by
   have:ts.map (·.2)=[]:=by
    rw[ets];exact z9q ((pm.map _).nodup_iff.mpr ap)
   exact List.map_eq_nil_iff.mp this
  subst no;refine⟨_,rfl,by show 0<=sizeLine;decide,fun E1 hE1=>?_⟩;have s2:=(Same.refl H1).new (o:=.lst []) hE1;refine z1b (zs:=[]) (s2 _ _ tl.at_) (fun _ h=>nomatch h) q0b (fun _ h=>nomatch h) ⟨_,rfl,iteF ?_⟩;exact k _ (s1.trans s2)
end
end K
set_option maxHeartbeats 4000000
namespace K
open PySem L2 TX SB HM
section
variable{P:Program}{w:World}{K:W.Frag}{mg:Str->Option Value}{base:Heap}
structure DL (rows:List Rw) (H:Hp) (L:Addr) (ds:List (Addr×Pth)):Prop where
 at_:H L=some (.lst (ds.map fun z=>V.ref z.1))
 pr:∀z∈ds,H z.1=some (.tup (vP z.2))/\IsD rows z.2/\z.2.length<6
theorem DL.same{rows:List Rw}{H H':Hp}{L:Addr}{ds:List (Addr×Pth)}(h:DL rows H L ds)(s:Same H H'):DL rows H' L ds:=⟨s _ _ h.at_,fun z hz=>⟨s _ _ (h.pr z hz).1,(h.pr z hz).2⟩⟩
theorem DL.fd{rows:List Rw}{a b L:Addr}{H H':Hp}{ds:List (Addr×Pth)}(h:DL rows H L ds)(F:FeedAt H a b)(fd:Fd a b H H')(hL:L≠a):DL rows H' L ds:=⟨fd.at h.at_ hL,fun z hz=>⟨tupFd F fd _ _ (h.pr z hz).1,(h.pr z hz).2⟩⟩
theorem q7m{bl:Bool}{p q:Pth}(hp:p≠[])(hq:q≠[])(h:keyO bl p=keyO bl q):fold bl p=fold bl q:=by
 unfold keyO at h;have h1:=q8z (Prod.mk.inj h).1;have h2:=SB.mk_inj (Sum.inr.inj (Prod.mk.inj h).2);refine(q7c hp hq).mpr ⟨h1,?_⟩;cases bl with
 |true=>exact h2
 |false=>exact h2
structure CallsFP (P:Program) (w:World) (K:W.Frag) (mg:Str->Option Value) (base:Heap):Prop where
 draw:Cal P w K mg base "_law_draw" 1 ["_law_feed", "_law_many"] spDraw
 a_name:Cal P w K mg base "_law_a_name" 3 ["_law_feed"] spName
 fold:Cal P w K mg base "_law_fold" 1 ["_law_name", "_law_blind"] spFold
def spFree(P:Program)(w:World):Sp:=fun vs H Q _=>∃a b m p t bl rows q k0 ks,vs=[.ref a,.ref m,.ref p,.ref t,.bl bl]/\FeedAt H a b/\H m=some (dR (rows.map rR))/\Hl bl rows/\rows.length<=30/\H p=some (.tup (vP q))/\(q,k0)∈rows/\DPr P w H t ks/\t≠a/\ks.length<=100 /\
 (∀H',Fd a b H H'->Q .non H') /\
 ∀e place kb H1 H',Fd a b H H1->hasP ks (keyO bl place)=false->PrK H1 (keyO bl place) kb->okP place->IsD rows place.dropLast->(place.dropLast=q.dropLast\/k0≠none)->Same (upd H1 t (PdO P w t (ks++[(keyO bl place,kb)]))) H'->H' e=some (.tup (vP place))->Q (.ref e) H'
abbrev q2u:Stmt:=top 32
theorem sc_free_place:FnScope ["_law_feed", "_law_marks", "_law_path", "_law_taken", "_law_blind", "_law_drawer", "_law_drawers", "_law_k", "_law_name"] ["_law_feed", "_law_marks", "_law_path", "_law_taken", "_law_blind"] (defScope q2u):=⟨rfl,rfl,rfl,by decide +kernel,rfl,by decide +kernel,by decide +kernel⟩
theorem z9r(D:Df K mg "_law_free_place" q2u ["_law_feed", "_law_marks", "_law_path", "_law_taken", "_law_blind"])(T:Txt mg)(C:CallsFP P w K mg base):Cal P w K mg base "_law_free_place" 4 ["_law_feed", "_law_marks", "_law_path", "_law_taken", "_law_blind"] (spFree P w):=by
 refine D.cal sc_free_place (fun vs H Q E h=>?_) (fun f cdv A outer s H vs Q E hr h=>?_)
 ·obtain⟨a,b,m,p,t,bl,rows,q,k0,ks,rfl,_⟩:=h;rfl
 ·obtain⟨a,b,m,p,t,bl,rows,q,k0,ks,rfl,F,hm,hl,h30,hp,hq,dp0,hta,ksl,kN,kS⟩:=h;refine⟨_,(q0e (q0j (i:=5) sc_free_place.nd rfl (by first|exact Or.inl rfl|exact Or.inr rfl) (q0t (sl_k K rfl) (pv 2) q1b (q1c (q1o q0s q0g)))) (q0e (q0j (i:=6) sc_free_place.nd rfl (by first|exact Or.inl rfl|exact Or.inr rfl) (q1a q1d (q1k (q0a (q1f q0d) q0d)) (q2d ["_law_one"] [("_law_marks",1)] rfl (@q3n _ _ _ _ K rfl (q0l (q2m hr) (by rfl) T.b_sorted (by decide +kernel) (q0a (pv 1) q0d))) (fun _ _ _ _ _=>(q0i (i:=0) (show(["_law_one", "_law_marks"]:List Str).Nodup by decide +kernel) rfl (by first|exact Or.inl rfl|exact Or.inr rfl))) (fun _ _ _ _ _=>(q2x (pt_j (@PW.pt _ _ _ (q2v (q1t (z0l (q0y (q1h hr) (pv 1) (pv 0) (fun _ _=>rfl)))) (q1q (q0k z5j (q0l (q5e K rfl) (by rfl) T.b_len PySem.boot_len (q0a (pv 0) q0d)) q0g (nomark _)))))))) (fun _ _ _ _ _=>(pv 0))))) (q2l (q1l (pt_j (@PW.pt _ _ _ (q2v (q1t (q3l (q0y (q1h hr) (pv 1) (pv 2) (fun _ _=>rfl)))) (q1q (q0k (eq_k K rfl hr) (pe_c C.draw hr (q0a (pv 0) (q0a q0g q0d))) q0g (nomark _)))))) (q0f (q0j (i:=5) sc_free_place.nd rfl (by first|exact Or.inl rfl|exact Or.inr rfl) (q0x (ix_k K rfl) (pv 6) (pe_c C.draw hr (q0a (pv 0) (q0a (q0l (q5e K rfl) (by rfl) T.b_len PySem.boot_len (q0a (pv 6) q0d)) q0d))) (fun _ _=>rfl)))) q0n) (q0e (q1x PassesOwn.never rfl (q2w rfl T.b_range (q0a q0g q0d)) (q0i (i:=7) sc_free_place.nd rfl (by first|exact Or.inl rfl|exact Or.inr rfl)) (q0e (q0j (i:=8) sc_free_place.nd rfl (by first|exact Or.inl rfl|exact Or.inr rfl) (pe_c C.a_name hr (q0a (pv 0) q0d))) (q0f (q1l (q1t (q8y P w rfl rfl (q5p hr) (q1f (q0a (pv 5) (q0a (pe_c C.fold hr (q0a (pv 8) (q0a (pv 4) q0d))) q0d))) (pv 3))) (q0e (q9x P w rfl rfl (q5p hr) (pv 3) (q1f (q0a (pv 5) (q0a (pe_c C.fold hr (q0a (pv 8) (q0a (pv 4) q0d))) q0d))) q4r rfl) (q0f (q0m (q1a q7b (pv 5) (q1f (q0a (pv 8) q0d)))))) q0n)))) (q0f (q0m q7r)))))),?_⟩;have oks:=hl.ok;have okq:=oks _ hq;obtain⟨c1,c2⟩:=q1g okq.ne;refine⟨_,rfl,_,rfl,_,rfl,.inr (.inr ⟨p,_,rfl,SqT.of hp,c2,fun t1 ht1=>?_⟩)⟩;rw[c1];have s1:=(Same.refl H).new (o:=.tup (vP q.dropLast)) ht1;have ht1':upd H t1 (.tup (vP q.dropLast)) t1=some (.tup (vP q.dropLast)):=q0b;generalize upd H t1 (.tup (vP q.dropLast))=H1 at s1 ht1';refine⟨by show 0<=sizeLine;decide,fun p0 hp0=>⟨by show 1<=sizeLine;decide,fun D1 hD1=>?_⟩⟩;have s2:=((Same.refl H1).new (o:=.tup []) hp0).new (o:=.lst [.ref p0]) hD1;have n01:p0≠D1:=fun z=>by rw[<- z,q0b] at hD1;cases hD1
  have hp2:upd (upd H1 p0 (.tup [])) D1 (.lst [.ref p0]) p0=some (.tup (vP [])):=by rw[q0c n01];exact q0b
  have hD2:upd (upd H1 p0 (.tup [])) D1 (.lst [.ref p0]) D1=some (.lst [.ref p0]):=q0b;generalize upd (upd H1 p0 (.tup [])) D1 (.lst [.ref p0])=H2 at s2 hp2 hD2;have s12:=s1.trans s2;have hm2:=s12 _ _ hm;refine⟨_,rfl,m,_,rfl,hm2,by rw[List.length_map];lia,fun r hr=>?_,fun L3 bs ps hL3 hp3 hs3 pts=>?_⟩
  ·obtain⟨y,hy,rfl⟩:=List.mem_map.mp hr;exact(oks y hy).ne
  obtain⟨ys,y1,y2,y3⟩:=z6x pts;have hkey:(rows.map rR).map (·.1)=rows.map (·.1):=by rw[List.map_map];rfl
  rw[hkey] at hp3;rw[y1];have s4:=(Same.refl H2).new (o:=.lst (ys.map fun z=>V.ref z.1)) hL3;have yin:∀y∈ys,∃k,(y.2,k)∈rows:=fun y hy=>by
   have hy2:y.2∈ps:=by rw[<- y2];exact List.mem_map.mpr ⟨y,hy,rfl⟩
   obtain⟨r,hr,e⟩:=List.mem_map.mp (hp3.mem_iff.mp hy2);exact⟨r.2,by rw[<- e];exact hr⟩
  have ylen:ys.length<=30:=by
   have e1:=congrArg List.length y2;have e2:=hp3.length_eq;rw[List.length_map] at e1 e2;lia
  have hL4:upd H2 L3 (.lst (ys.map fun z=>V.ref z.1)) L3=some (.lst (ys.map fun z=>V.ref z.1)):=q0b;have hy4:∀y∈ys,upd H2 L3 (.lst (ys.map fun z=>V.ref z.1)) y.1=some (.tup (vP y.2)):=fun y hy=>s4 _ _ (y3 y hy);generalize upd H2 L3 (.lst (ys.map fun z=>V.ref z.1))=H4 at s4 hL4 hy4;clear y3 pts y1 hp3 hs3;have hm4:=s4 _ _ hm2;refine .inl ⟨L3,rfl,⟨_,SqL.of hL4⟩,fun Dc hDc=>?_⟩;refine q1z (fun i vs H'=>∃ds:List (Addr×Pth),vs=ds.map (fun z=>V.ref z.1)/\Same H4 H'/\H' Dc=some (.lst vs)/\ds.length<=i/\i<=ys.length/\∀z∈ds,H' z.1=some (.tup (vP z.2))/\IsD rows z.2/\z.2.length<6) ⟨[],rfl,(Same.refl H4).new hDc,q0b,Nat.le_refl _,Nat.zero_le _,(fun _ h=>nomatch h)⟩ (fun i vs H' h=>by obtain⟨ds,_,s',h',_⟩:=h;exact⟨h',SqL.of (s' _ _ hL4)⟩) ?_ ?_
  ·rintro i vs H5 v hv ⟨ds,rfl,s5,hHD,hle,_,hds⟩;obtain⟨y,hy,rfl⟩:∃y,ys[i]?=some y/\v=.ref y.1:=by
    rw[List.getElem?_map] at hv;cases e:ys[i]? with
    |none=>rw[e] at hv;cases hv
    |some y=>rw[e] at hv;cases hv;exact⟨y,rfl,rfl⟩
   have hi:i<ys.length:=(List.getElem?_eq_some_iff.mp hy).1;have hym:=List.mem_of_getElem? hy;obtain⟨mk0,hyr⟩:=yin y hym;have hy5:=s5 _ _ (hy4 y hym);refine⟨q0q,fun bb H6=>H6=H5/\(bb=true->mk0=none/\y.2.length<6),?_,?_⟩
   ·rintro bb H6 ⟨rfl,hb⟩;refine ite2 (fun hb1=>?_) (fun hb1=>⟨ds,rfl,s5,hHD,Nat.le_succ_of_le hle,hi,hds⟩);obtain⟨hn,h6⟩:=hb hb1;have nt:∀{x:Addr} {xs:List V},H6 x=some (.tup xs)->upd H6 Dc (.lst (ds.map (fun z=>V.ref z.1)++[.ref y.1])) x=some (.tup xs):=fun{x xs} e=>by rw[q0c (fun y=>by rw[y,hHD] at e;cases e)];exact e
    refine⟨_,rfl,hHD,small' (by rw[List.length_map];lia),ds++[(y.1,y.2)],by rw[List.map_append];rfl,s5.put hDc,q0b,by rw[List.length_append];exact Nat.succ_le_succ hle,hi,fun x hx=>?_⟩;rcases List.mem_append.mp hx with hx|hx
    ·exact⟨nt (hds x hx).1,(hds x hx).2⟩
    ·rw[List.mem_singleton.mp hx];exact⟨nt hy5,.inr (by rw[<- hn];exact hyr),h6⟩
   ·refine⟨_,rfl,_,rfl,m,mV mk0,rfl,?_,_,rfl,?_⟩
    ·rw[<- q4p hl.paths hyr];exact q4i (s5 _ _ hm4) hy5
    refine iteB (fun hb=>?_) (fun hb=>⟨rfl,(fun z=>by cases z)⟩);refine⟨_,rfl,_,_,rfl,.inr ⟨_,SqT.of hy5,rfl⟩,_,_,rfl,rfl,_,rfl,rfl,fun e6=>⟨mV_none.mp (of_decide_eq_true hb),?_⟩⟩;have e7:=of_decide_eq_true e6;rw[q3k] at e7;have e8:(y.2.length:Int)<6:=e7;lia
  rintro vs H5 ⟨ds,rfl,s5,hHD,hle,_,hds⟩;have hle':ds.length<=30:=by rw[List.length_map] at hle;lia
  refine .inr (.inr ⟨D1,Dc,_,_,rfl,rfl,s5 _ _ (s4 _ _ hD2),hHD,small (by rw[List.length_map];show 1+_<=_;lia),fun Dr hDr=>?_⟩);have s6:=(Same.refl H5).new (o:=.lst ([V.ref p0]++ds.map fun z=>V.ref z.1)) hDr;have dl6:DL rows (upd H5 Dr (.lst ([V.ref p0]++ds.map fun z=>V.ref z.1))) Dr ((p0,[])::ds):=⟨q0b,fun z hz=>by
   rcases List.mem_cons.mp hz with rfl|hz
   ·exact⟨s6 _ _ (s5 _ _ (s4 _ _ hp2)),.inl rfl,by show 0<6;decide⟩
   ·exact⟨s6 _ _ (hds z hz).1,(hds z hz).2⟩⟩
  have s26:=(s4.trans s5).trans s6;have s06:=s12.trans s26;have hDrH:H Dr=none:=((s12.trans s4).trans s5).free hDr;have hDra:Dr≠a:=(F.na hDrH).symm;have ht6:=s26 _ _ (s2 _ _ ht1');generalize hH4:upd H5 Dr (.lst ([V.ref p0]++ds.map fun z=>V.ref z.1))=H6 at s6 dl6 s26 s06 ht6;generalize hdd:(p0,([]:Pth))::ds=dd at dl6;have hdl:dd.length<=31:=by rw[<- hdd,List.length_cons];lia
  have hdn:0<dd.length:=by rw[<- hdd,List.length_cons];lia
  have fd6:=(Fd.refl F).same s06;have hdz:IsD rows q.dropLast:=hl.dr _ hq;have h6:q.dropLast.length<6:=by rw[List.length_dropLast];have f6:q.length<=6:=okq.few;have p6:0<q.length:=List.length_pos_iff.mpr okq.ne;lia
  clear hds hHD hp2 hD2 s2 s4 s5 hy4 hL4 hm4 hm2 s12 yin ylen y2 hL3 hDc hD1 hp0 n01 hle hle' s26 hH4 s6 hdd hDr;refine⟨fun σ' H3=>∃dA dp x7 x8,σ'=[some (.ref a),some (.ref m),some (.ref p),some (.ref t),some (.bl bl),some (.ref dA),some (.ref Dr),x7,x8]/\Fd a b H H3/\H3 dA=some (.tup (vP dp))/\IsD rows dp/\dp.length<6/\(dp=q.dropLast\/k0≠none),?_,?_⟩;rotate_left
  ·refine⟨fun bb H3=>Fd a b H6 H3/\(bb=true->k0≠none),?_,?_⟩
   ·rintro bb H3 ⟨fd,hb⟩;refine ite2 (fun e=>?_) (fun e=>⟨t1,q.dropLast,_,_,rfl,fd6.trans fd,tupFd fd6.feed fd _ _ ht6,hdz,h6,.inl rfl⟩);have dl3:=dl6.fd fd6.feed fd hDra;refine⟨_,rfl,_,rfl,_,rfl,_,_,rfl,.inl ⟨_,SqL.of dl3.at_,rfl⟩,a,b,_,rfl,fd.feed,by rw[List.length_map];lia,by rw[List.length_map];lia,fun r1 H4 r10 r11 fd4=>?_⟩;rw[List.length_map] at r11;have dl4:=dl3.fd fd.feed fd4 hDra;obtain⟨v,hv1,hv2⟩:=q6b (xs:=dd.map fun z=>V.ref z.1) r10 (by rw[List.length_map];exact r11);obtain⟨y,hy,rfl⟩:∃y∈dd,v=V.ref y.1:=by
     rw[List.getElem?_map] at hv1;cases e:dd[r1.toNat]? with
     |none=>rw[e] at hv1;cases hv1
     |some z=>rw[e] at hv1;cases hv1;exact⟨z,List.mem_of_getElem? e,rfl⟩
    refine .inl ⟨Dr,_,r1,_,rfl,rfl,SqL.of dl4.at_,hv2,?_⟩;obtain⟨y1,y2,y3⟩:=dl4.pr y hy;exact⟨y.1,y.2,_,_,rfl,(fd6.trans fd).trans fd4,y1,y2,y3,.inr (hb e)⟩
   ·refine⟨_,rfl,_,rfl,m,mV k0,rfl,?_,_,rfl,?_⟩
    ·rw[<- q4p hl.paths hq];exact q4i (s06 _ _ hm) (s06 _ _ hp)
    refine iteB (fun e=>?_) (fun e=>⟨Fd.refl fd6.feed,(fun z=>by cases z)⟩);have hn:k0≠none:=fun y=>by rw[y] at e;cases e
    exact⟨_,rfl,a,b,_,rfl,fd6.feed,by decide,by decide,fun r1 H3 _ _ fd3=>.inl ⟨rfl,_,rfl,fd3,fun _=>hn⟩⟩
  rintro σ' H3 ⟨dA,dp,x7,x8,rfl,fd3,hd3,hdp,h6p,hor⟩;have okdp:∀n∈dp,okN n:=fun n hn=>by
   rcases hdp with e|e
   ·rw[e] at hn;cases hn
   ·exact(oks _ e).all n hn
  refine⟨4,rfl,by decide,by decide,q3r (n:=4) (fun i σ' H'=>∃x7 x8,σ'=[some (.ref a),some (.ref m),some (.ref p),some (.ref t),some (.bl bl),some (.ref dA),some (.ref Dr),x7,x8]/\Fd a b H H'/\H' dA=some (.tup (vP dp))) ⟨_,_,rfl,fd3,hd3⟩ ?_ ?_⟩
  ·rintro i σ' H4 hi ⟨x7,x8,rfl,fd4,hd4⟩;refine⟨_,rfl,a,b,rfl,fd4.feed,fun n H5 okn fd5=>?_⟩;have fd5':=fd4.trans fd5;have hd5:=tupFd fd4.feed fd5 _ _ hd4;have dp5:=DPr.fd dp0 F fd5' hta;have hk2:keyO bl (dp++[n])=(kP dp,.inr (mk (if bl then lowN n else n))):=by
    unfold keyO;rw[List.dropLast_concat,List.getLastD_concat]
   have pk:∀{H9:Hp} {p:Addr},H9 dA=some (.tup (vP dp))->H9 p=some (.tup [.ref dA,.str (mk (if bl then lowN n else n))])->PrK H9 (keyO bl (dp++[n])) p:=fun{H9 p} e1 e2=>by
    rw[hk2];exact⟨dA,e2,by rw[q1u];exact e1⟩
   refine⟨_,rfl,_,rfl,_,rfl,n,bl,rfl,okn,by show 2<=sizeLine;decide,fun p2 hp2=>?_⟩;have s9:=(Same.refl H5).new (o:=.tup [.ref dA,.str (mk (if bl then lowN n else n))]) hp2;refine⟨_,rfl,t,ks,p2,keyO bl (dp++[n]),rfl,rfl,dp5.same s9,pk (s9 _ _ hd5) q0b,_,rfl,?_⟩;have hd9:=s9 _ _ hd5;have dp9:=dp5.same s9;have fd9:=fd5'.same s9;generalize upd H5 p2 (.tup [.ref dA,.str (mk (if bl then lowN n else n))])=H9 at s9 hd9 dp9 fd9;refine ite2 (fun hb=>?_) (fun hb=>⟨_,_,rfl,fd9,hd9⟩);have hno:hasP ks (keyO bl (dp++[n]))=false:=by simpa using hb
   refine⟨_,rfl,_,rfl,_,rfl,_,rfl,n,bl,rfl,okn,by show 2<=sizeLine;decide,fun p3 hp3=>?_⟩;have sA:=(Same.refl H9).new (o:=.tup [.ref dA,.str (mk (if bl then lowN n else n))]) hp3;have pkA:=pk (sA _ _ hd9) (p:=p3) q0b;have hdA:=sA _ _ hd9;have dpA:=dp9.same sA;have fdA:=fd9.same sA;generalize upd H9 p3 (.tup [.ref dA,.str (mk (if bl then lowN n else n))])=HA at sA pkA hdA dpA fdA;refine⟨t,ks,p3,keyO bl (dp++[n]),rfl,rfl,rfl,dpA,pkA,hno,small' (by lia),?_⟩;have hdB:upd HA t (PdO P w t (ks++[(keyO bl (dp++[n]),p3)])) dA=some (.tup (vP dp)):=by
    rw[q0c (fun z=>by rw[z,dpA.at_] at hdA;cases hdA)];exact hdA
   refine⟨_,rfl,_,rfl,by show 1<=sizeLine;decide,fun p4 hp4=>?_⟩;have sC:=(Same.refl (upd HA t (PdO P w t (ks++[(keyO bl (dp++[n]),p3)])))).new (o:=.tup [.str (mk n)]) hp4;refine⟨dA,p4,_,_,rfl,rfl,sC _ _ hdB,q0b,by rw[q3k];exact small (by show _+1<=_;lia),fun e HE sE he _=>?_⟩;refine kS e (dp++[n]) p3 HA HE fdA hno pkA ?_ (by rw[List.dropLast_concat];exact hdp) (by rw[List.dropLast_concat];exact hor) (sC.trans sE) ?_
   ·refine⟨by simp,by rw[List.length_append];show _+1<=6;lia,fun x hx=>?_⟩;rcases List.mem_append.mp hx with hx|hx
    ·exact okdp x hx
    ·rw[List.mem_singleton.mp hx];exact okn
   ·rw[he];show _=some (HO.tup ((dp++[n]).map _));rw[List.map_append];rfl
  ·rintro σ' H4 ⟨x7,x8,rfl,fd4,hd4⟩;exact kN _ fd4
end
end K
set_option maxHeartbeats 4000000
namespace K
open PySem L2 TX SB HM
section
variable{P:Program}{w:World}{K:W.Frag}{mg:Str->Option Value}{base:Heap}
theorem z9s{l:List Pth}:∀{m:List Pth},l.Nodup->(∀x∈l,x∈m)->l.length<=m.length:=by
 induction l with
 |nil=>intro m _ _;exact Nat.zero_le _
 |cons a l ih =>
  intro m nd h;rw[List.nodup_cons] at nd;have ha:=h a List.mem_cons_self;have h1:=ih (m:=m.erase a) nd.2 fun x hx=>(List.mem_erase_of_ne fun z=>nd.1 (by rw[<- z];exact hx)).mpr (h x (List.mem_cons_of_mem _ hx));rw[List.length_erase_of_mem ha] at h1;have:=List.length_pos_of_mem ha;rw[List.length_cons];lia
theorem GoodW.len{rows:List Rw}{ms:List Mv}(g:GoodW rows ms):ms.length<=rows.length:=by
 have:=z9s (m:=rows.map (·.1)) g.nd fun x hx=>by
  obtain⟨m,hm,rfl⟩:=List.mem_map.mp hx;obtain⟨k,hk,_⟩:=(g.all m hm).th;exact List.mem_map.mpr ⟨_,hk,rfl⟩
 rw[List.length_map,List.length_map] at this;exact this
theorem z4z{ms nw:List Mv}{p:Pth}:plc (ms++nw) p=if p∈ms.map (·.1) then plc ms p else plc nw p:=by
 induction ms with
 |nil=>simp
 |cons m ms ih =>
  show(if m.1=p then m.2 else plc (ms++nw) p)=if p∈m.1::ms.map (·.1) then(if m.1=p then m.2 else plc ms p) else plc nw p
  by_cases e:m.1=p
  ·rw[if_pos e,if_pos (by rw[e];exact List.mem_cons_self),if_pos e]
  ·rw[if_neg e,if_neg e,ih];by_cases c:p∈ms.map (·.1)
   ·rw[if_pos c,if_pos (List.mem_cons_of_mem _ c)]
   ·rw[if_neg c,if_neg fun z=>(List.mem_cons.mp z).elim (fun y=>e y.symm) c]
structure Turn1 (bl:Bool) (rows:List Rw) (ms nw:List Mv) (zf:List Pth) (last:Pth):Prop where
 ne:zf≠[]
 nd:zf.Nodup
 un:∀z∈zf,z∈rows.map (·.1)/\z∉ms.map (·.1)
 ky:nw.map (·.1)=zf
 vl:nw.map (fun m=>(m.2.dropLast,fold bl m.2))=(zf.tail++[last]).map (fun p=>(p.dropLast,fold bl p))
 ok:∀m∈nw,okP m.2
 pl:∀(i:Nat) (one q:Pth),zf[i]?=some one->(zf.tail++[last])[i]?=some q->IsD rows q.dropLast/\∃k,(one,k)∈rows/\(q.dropLast=one.dropLast\/k≠none)
section
variable{bl:Bool}{rows:List Rw}{ms nw:List Mv}{zf:List Pth}{last:Pth}
theorem Turn1.good(t:Turn1 bl rows ms nw zf last)(gw:GoodW rows ms):GoodW rows (ms++nw):=by
 refine⟨fun m hm=>?_,?_⟩
 ·rcases List.mem_append.mp hm with hm|hm
  ·exact gw.all m hm
  ·obtain⟨i,hi⟩:=List.mem_iff_getElem?.mp hm;have h1:zf[i]?=some m.1:=by rw[<- t.ky,List.getElem?_map,hi];rfl
   have h2:((zf.tail++[last]).map (fun p=>(p.dropLast,fold bl p)))[i]?=some (m.2.dropLast,fold bl m.2):=by rw[<- t.vl,List.getElem?_map,hi];rfl
   rw[List.getElem?_map] at h2;cases e:(zf.tail++[last])[i]? with
   |none=>rw[e] at h2;cases h2
   |some q =>
    rw[e] at h2;have e1:q.dropLast=m.2.dropLast:=(Prod.mk.inj (Option.some.inj h2)).1;obtain⟨d,k,hk,hor⟩:=t.pl i _ _ h1 e;rw[e1] at d hor;exact⟨⟨k,hk,hor⟩,t.ok m hm,d⟩
 ·rw[List.map_append,t.ky];exact List.nodup_append.mpr ⟨gw.nd,t.nd,fun x hx y hy z=>(t.un y hy).2 (by rw[<- z];exact hx)⟩
theorem Turn1.folds(t:Turn1 bl rows ms nw zf last):zf.map (fun p=>fold bl (plc (ms++nw) p))=(zf.tail++[last]).map (fold bl):=by
 have e1:zf.map (fun p=>fold bl (plc (ms++nw) p))=nw.map (fun m=>fold bl m.2):=by
  have e2:zf.map (fun p=>fold bl (plc (ms++nw) p))=nw.map (fun m=>fold bl (plc (ms++nw) m.1)):=by
   conv=>lhs;rw[<- t.ky]
   rw[List.map_map];rfl
  rw[e2];refine List.map_congr_left fun m hm=>?_;have hz:m.1∈zf:=by rw[<- t.ky];exact List.mem_map.mpr ⟨m,hm,rfl⟩
  rw[z4z,if_neg (t.un _ hz).2,q3z (by rw[t.ky];exact t.nd) hm]
 have e3:=congrArg (List.map Prod.snd) t.vl;rw[List.map_map,List.map_map] at e3;rw[e1];exact e3
theorem Turn1.out(t:Turn1 bl rows ms nw zf last){p:Pth}(h:p∉zf):plc (ms++nw) p=plc ms p:=by
 rw[z4z];by_cases c:p∈ms.map (·.1)
 ·rw[if_pos c]
 ·rw[if_neg c,q3y c,q3y (by rw[t.ky];exact h)]
theorem Turn1.self(t:Turn1 bl rows ms nw zf last){p:Pth}(h:p∈zf):plc ms p=p:=q3y (t.un p h).2
theorem Turn1.split(t:Turn1 bl rows ms nw zf last)(nd:(rows.map (·.1)).Nodup):(rows.map (·.1)).Perm (zf++(rows.map (·.1)).filter fun p=>decide (p∉zf)):=by
 refine(List.perm_ext_iff_of_nodup nd ?_).mpr fun p=>?_
 ·refine List.nodup_append.mpr ⟨t.nd,nd.filter _,fun x hx y hy z=>?_⟩;have:=(List.mem_filter.mp hy).2;exact(of_decide_eq_true this) (by rw[<- z];exact hx)
 ·rw[List.mem_append,List.mem_filter];refine⟨fun h=>?_,fun h=>?_⟩
  ·by_cases c:p∈zf
   ·exact .inl c
   ·exact .inr ⟨h,decide_eq_true c⟩
  ·rcases h with h|h
   ·exact(t.un p h).1
   ·exact h.1
theorem Turn1.perm(t:Turn1 bl rows ms nw zf last)(nd:(rows.map (·.1)).Nodup):∃rest:List Pth,((rows.map (·.1)).map fun p=>fold bl (plc ms p)).Perm (zf.map (fold bl)++rest)/\((rows.map (·.1)).map fun p=>fold bl (plc (ms++nw) p)).Perm ((zf.tail++[last]).map (fold bl)++rest):=by
 have sp:=t.split nd;refine⟨((rows.map (·.1)).filter fun p=>decide (p∉zf)).map fun p=>fold bl (plc ms p),?_,?_⟩
 ·have h1:=sp.map fun p=>fold bl (plc ms p);rw[List.map_append] at h1;have e:zf.map (fun p=>fold bl (plc ms p))=zf.map (fold bl):=List.map_congr_left fun p hp=>by rw[t.self hp]
  rw[e] at h1;exact h1
 ·have h1:=sp.map fun p=>fold bl (plc (ms++nw) p);rw[List.map_append,t.folds] at h1;have e:((rows.map (·.1)).filter fun p=>decide (p∉zf)).map (fun p=>fold bl (plc (ms++nw) p))=((rows.map (·.1)).filter fun p=>decide (p∉zf)).map (fun p=>fold bl (plc ms p)):=List.map_congr_left fun p hp=>by rw[t.out (of_decide_eq_true (List.mem_filter.mp hp).2)]
  rw[e] at h1;exact h1
theorem Turn1.ring(t:Turn1 bl rows ms nw zf last)(nd:(rows.map (·.1)).Nodup)(ap:Apart bl rows (plc ms))(h:zf.head?=some last):Apart bl rows (plc (ms++nw)):=by
 obtain⟨rest,p1,p2⟩:=t.perm nd;refine p2.nodup_iff.mpr ?_;have n1:=p1.nodup_iff.mp ap;cases zf with
 |nil=>cases h
 |cons z zf =>
  cases h;have e:((zf++[last]).map (fold bl)++rest).Perm ((last::zf).map (fold bl)++rest):=by
   refine List.Perm.append_right rest (List.Perm.map _ ?_);exact List.perm_append_singleton _ _
  exact e.nodup_iff.mpr n1
theorem Turn1.chain(t:Turn1 bl rows ms nw zf last)(nd:(rows.map (·.1)).Nodup)(ap:Apart bl rows (plc ms))(h:∀p∈rows.map (·.1),fold bl (plc ms p)≠fold bl last):Apart bl rows (plc (ms++nw)):=by
 obtain⟨rest,p1,p2⟩:=t.perm nd;refine p2.nodup_iff.mpr ?_;have n1:=p1.nodup_iff.mp ap;have hno:fold bl last∉zf.map (fold bl)++rest:=fun z=>by
  obtain⟨p,hp,e⟩:=List.mem_map.mp (p1.mem_iff.mpr z);exact h p hp e
 have ne:=t.ne;cases zf with
 |nil=>exact absurd rfl ne
 |cons z zf =>
  have e:((zf++[last]).map (fold bl)++rest).Perm (fold bl last::(zf.map (fold bl)++rest)):=by
   rw[List.map_append];show((zf.map (fold bl)++[fold bl last])++rest).Perm _;exact List.Perm.append_right rest (List.perm_append_singleton (fold bl last) (zf.map (fold bl)))
  refine e.nodup_iff.mpr (List.nodup_cons.mpr ⟨fun y=>hno (List.mem_cons_of_mem _ y),?_⟩);exact(List.nodup_cons.mp n1).2
theorem Turn1.cov{ks ks':List (PKey×Addr)}(t:Turn1 bl rows ms nw zf last)(hl:Hl bl rows)(gw:GoodW rows ms)(hk:∀{k},hasP ks k=true->hasP ks' k=true)(org:∀p∈rows.map (·.1),hasP ks (keyO bl p)=true)(cv:∀p∈rows.map (·.1),hasP ks (keyO bl (plc ms p))=true)(hn:last≠[])(hlast:hasP ks' (keyO bl last)=true):∀p∈rows.map (·.1),hasP ks' (keyO bl (plc (ms++nw) p))=true:=fun p hp=>by
 by_cases c:p∈zf
 ·have g:=t.good gw;have h1:fold bl (plc (ms++nw) p)∈(zf.tail++[last]).map (fold bl):=by
   rw[<- t.folds];exact List.mem_map.mpr ⟨p,c,rfl⟩
  obtain⟨q,hq,e⟩:=List.mem_map.mp h1;have ok:=(q9g hl g hp).ne;rcases List.mem_append.mp hq with hq|hq
  ·have hqz:q∈zf:=List.mem_of_mem_tail hq;obtain⟨r,hr,e2⟩:=List.mem_map.mp (t.un q hqz).1;have qne:q≠[]:=by rw[<- e2];exact(hl.ok r hr).ne
   rw[<- q5s qne ok e];exact hk (org q (t.un q hqz).1)
  ·rw[List.mem_singleton.mp hq] at e;rw[<- q5s hn ok e];exact hlast
 ·rw[t.out c];exact hk (cv p hp)
end
end
end K
set_option maxHeartbeats 4000000
namespace K
open PySem L2 TX SB HM
section
variable{P:Program}{w:World}{K:W.Frag}{mg:Str->Option Value}{base:Heap}
theorem PDt.fd{a b:Addr}{H H':Hp}{d:Addr}{ps:List (Addr×Mv)}(x:PDt H d ps)(F:FeedAt H a b)(fd:Fd a b H H'):PDt H' d ps:=⟨z9p x.at_ F fd,fun y hy=>tupFd F fd _ _ (x.pr y hy)⟩
structure GWI (P:Program) (w:World) (H:Hp) (a b m W t:Addr) (bl:Bool) (rows:List Rw) (i:Nat) (H':Hp) (ps:List (Addr×Mv)) (ks:List (PKey×Addr)):Prop where
 fd:Fd a b H H'
 m:H' m=some (dR (rows.map rR))
 wd:PDt H' W ps
 tk:DPr P w H' t ks
 kl:ks.length<=30+i
 gw:GoodW rows (ps.map (·.2))
 ap:Apart bl rows (plc (ps.map (·.2)))
 og:∀p∈rows.map (·.1),hasP ks (keyO bl p)=true
 cv:∀p∈rows.map (·.1),hasP ks (keyO bl (plc (ps.map (·.2)) p))=true
section
variable{H:Hp}{a b m W t:Addr}{bl:Bool}{rows:List Rw}{i:Nat}{H' H2:Hp}{ps:List (Addr×Mv)}{ks:List (PKey×Addr)}
theorem GWI.go(x:GWI P w H a b m W t bl rows i H' ps ks)(fd:Fd a b H' H2)(ht:t≠a):GWI P w H a b m W t bl rows i H2 ps ks:=⟨x.fd.trans fd,z9p x.m x.fd.feed fd,x.wd.fd x.fd.feed fd,DPr.fd x.tk x.fd.feed fd ht,x.kl,x.gw,x.ap,x.og,x.cv⟩
theorem GWI.same(x:GWI P w H a b m W t bl rows i H' ps ks)(s:Same H' H2):GWI P w H a b m W t bl rows i H2 ps ks:=⟨x.fd.same s,s _ _ x.m,x.wd.same s,x.tk.same s,x.kl,x.gw,x.ap,x.og,x.cv⟩
theorem GWI.up(x:GWI P w H a b m W t bl rows i H' ps ks):GWI P w H a b m W t bl rows (i+1) H' ps ks:=⟨x.fd,x.m,x.wd,x.tk,Nat.le_succ_of_le x.kl,x.gw,x.ap,x.og,x.cv⟩
end
structure SomeOk (rows:List Rw) (ms:List Mv) (l:List Pth):Prop where
 nd:l.Nodup
 un:∀z∈l,z∈rows.map (·.1)/\z∉ms.map (·.1)
 go:(∀z∈l,∃k,(z,k)∈rows/\k≠none)\/∃d,∀z∈l,z.dropLast=d
theorem SomeOk.sub{rows:List Rw}{ms:List Mv}{l l' r:List Pth}(x:SomeOk rows ms l)(p:(r++l').Perm l):SomeOk rows ms l':=by
 have hin:∀z∈l',z∈l:=fun z hz=>p.mem_iff.mp (List.mem_append_right _ hz);exact⟨(List.nodup_append.mp (p.nodup_iff.mpr x.nd)).2.1,fun z hz=>x.un z (hin z hz),x.go.imp (fun h z hz=>h z (hin z hz)) (fun⟨d,h⟩=>⟨d,fun z hz=>h z (hin z hz)⟩)⟩
def GP(H:Hp)(T:Addr)(p:Pth):Prop:=H T=some (.tup (vP p))/\okP p
theorem gg_P:GG K GP:=⟨fun h k=>⟨k _ _ h.1,h.2⟩,fun h=>⟨_,q1m h.1,q2c h.2.low⟩⟩
theorem q7n{xs:List V}{v:V}(h:xs.getLast?=some v):atI xs (-1)=some v:=by
 have hne:xs≠[]:=fun z=>by rw[z] at h;cases h
 have hl:=List.length_pos_iff.mpr hne;unfold atI ixN;rw[if_neg (by decide),if_pos (by lia)];rw[List.getLast?_eq_getElem?] at h;rw[<- h];have e:((-1:Int)+(xs.length:Int)).toNat=xs.length-1:=by lia
 show xs[((-1:Int)+(xs.length:Int)).toNat]?=_;rw[e]
structure LastOk (bl:Bool) (rows:List Rw) (ms:List Mv) (ks:List (PKey×Addr)) (zf:List Pth) (q:Pth):Prop where
 ok:okP q
 kq:hasP ks (keyO bl q)=true
 or:zf.head?=some q\/((∀p∈rows.map (·.1),fold bl (plc ms p)≠fold bl q)/\IsD rows q.dropLast/\∀one,zf.getLast?=some one->∃k,(one,k)∈rows/\(q.dropLast=one.dropLast\/k≠none))
theorem GWI.take{H:Hp}{a b m W t e:Addr}{bl:Bool}{rows:List Rw}{i:Nat}{H':Hp}{ps:List (Addr×Mv)}{ks:List (PKey×Addr)}{kk:PKey}(x:GWI P w H a b m W t bl rows i H' ps ks)(F:FeedAt H a b)(htH:H t=none)(hi:i<=30)(pk:PrK H' kk e):GWI P w H a b m W t bl rows (i+1) (upd H' t (PdO P w t (ks++[(kk,e)]))) ps (ks++[(kk,e)]):=by
 have nt:∀{c:Addr} {u:HO},H' c=some u->(∀f,u≠.ext f)->upd H' t (PdO P w t (ks++[(kk,e)])) c=some u:=fun{c u} e n=>by
  rw[q0c (fun z=>by rw[z,x.tk.at_] at e;cases e;exact n _ rfl)];exact e
 refine⟨x.fd.put F htH,nt x.m (fun _ z=>by cases z),⟨nt x.wd.at_ (fun _ z=>by cases z),fun y hy=>nt (x.wd.pr y hy) (fun _ z=>by cases z)⟩,x.tk.put pk (by have:=x.kl;exact small' (by lia)),by rw[List.length_append];have:=x.kl;show _+1<=_;lia,x.gw,x.ap,fun p hp=>q4o (x.og p hp),fun p hp=>q4o (x.cv p hp)⟩
structure ZI (P:Program) (w:World) (H:Hp) (a b m W t M L7:Addr) (bl:Bool) (rows:List Rw) (zf pls:List (Addr×Pth)) (ps:List (Addr×Mv)) (ks:List (PKey×Addr)) (j:Nat) (H':Hp) (nw:List (Addr×Mv)):Prop where
 fd:Fd a b H H'
 m:H' m=some (dR (rows.map rR))
 wd:PDt H' W (ps++nw)
 tk:DPr P w H' t ks
 pz:PL H' M zf
 l7:H' L7=some (.lst (pls.map fun z=>V.ref z.1))
 pp:∀x∈pls,H' x.1=some (.tup (vP x.2))/\okP x.2
 ky:nw.map (·.2.1)=(zf.map (·.2)).take j
 vl:nw.map (fun y=>(y.2.2.dropLast,fold bl y.2.2))=((pls.map (·.2)).take j).map (fun p=>(p.dropLast,fold bl p))
 ok:∀y∈nw,okP y.2.2
section
variable{H:Hp}{a b m W t M L7:Addr}{bl:Bool}{rows:List Rw}{zf pls:List (Addr×Pth)}{ps nw:List (Addr×Mv)}{ks:List (PKey×Addr)}{j:Nat}{H' H2:Hp}
theorem ZI.go(x:ZI P w H a b m W t M L7 bl rows zf pls ps ks j H' nw)(fd:Fd a b H' H2)(ht:t≠a)(hM:M≠a)(hL:L7≠a):ZI P w H a b m W t M L7 bl rows zf pls ps ks j H2 nw :=
 ⟨x.fd.trans fd,z9p x.m x.fd.feed fd,x.wd.fd x.fd.feed fd,DPr.fd x.tk x.fd.feed fd ht,x.pz.fd x.fd.feed fd hM,fd.at x.l7 hL,fun y hy=>⟨tupFd x.fd.feed fd _ _ (x.pp y hy).1,(x.pp y hy).2⟩,x.ky,x.vl,x.ok⟩
theorem ZI.same(x:ZI P w H a b m W t M L7 bl rows zf pls ps ks j H' nw)(s:Same H' H2):ZI P w H a b m W t M L7 bl rows zf pls ps ks j H2 nw :=
 ⟨x.fd.same s,s _ _ x.m,x.wd.same s,x.tk.same s,x.pz.same s,s _ _ x.l7,fun y hy=>⟨s _ _ (x.pp y hy).1,(x.pp y hy).2⟩,x.ky,x.vl,x.ok⟩
theorem ZI.put{e:Addr}{one pl:Pth}{z y:Addr×Pth}(x:ZI P w H a b m W t M L7 bl rows zf pls ps ks j H' nw)(F:FeedAt H a b)(hW:H W=none)(hmW:m≠W)(hz:zf[j]?=some z)(hy:pls[j]?=some y)(he:H' e=some (.tup (vP pl)))(okp:okP pl)(h1:pl.dropLast=y.2.dropLast)(h2:fold bl pl=fold bl y.2):
  ZI P w H a b m W t M L7 bl rows zf pls ps ks (j+1) (upd H' W (dR (((ps++nw).map fun x=>((x.2.1,.ref x.1):HRow))++[(z.2,.ref e)]))) (nw++[(e,(z.2,pl))]):=by
 have nt:∀{c:Addr} {u:HO},H' c=some u->(∀kvs,u≠.dT kvs)->upd H' W (dR (((ps++nw).map fun x=>((x.2.1,.ref x.1):HRow))++[(z.2,.ref e)])) c=some u:=fun{c u} e n=>by
  rw[q0c (fun z=>by rw[z,x.wd.at_] at e;cases e;exact n _ rfl)];exact e
 have tt:∀{c:Addr} {xs:List V},H' c=some (.tup xs)->upd H' W (dR (((ps++nw).map fun x=>((x.2.1,.ref x.1):HRow))++[(z.2,.ref e)])) c=some (.tup xs):=fun h=>nt h (fun _ z=>by cases z);have hz2:(zf.map (·.2))[j]?=some z.2:=by rw[List.getElem?_map,hz];rfl
 have hy2:(pls.map (·.2))[j]?=some y.2:=by rw[List.getElem?_map,hy];rfl
 refine⟨x.fd.put F hW,by rw[q0c hmW];exact x.m,⟨?_,fun u hu=>?_⟩,⟨nt x.tk.at_ (fun _ z=>by cases z),x.tk.sys,x.tk.len,fun u hu=>by obtain⟨c,e1,e2⟩:=x.tk.pk u hu;exact⟨c,tt e1,tt e2⟩⟩,⟨nt x.pz.at_ (fun _ z=>by cases z),fun u hu=>⟨tt (x.pz.pr u hu).1,(x.pz.pr u hu).2⟩⟩,nt x.l7 (fun _ z=>by cases z),fun u hu=>⟨tt (x.pp u hu).1,(x.pp u hu).2⟩,?_,?_,fun u hu=>?_⟩
 ·rw[q0b,<- List.append_assoc,List.map_append (l₁:=ps++nw)];rfl
 ·rw[<- List.append_assoc] at hu;rcases List.mem_append.mp hu with hu|hu
  ·exact tt (x.wd.pr u hu)
  ·rw[List.mem_singleton.mp hu];exact tt he
 ·rw[List.map_append,x.ky,List.take_add_one,hz2];rfl
 ·rw[List.map_append,x.vl,List.take_add_one,hy2,List.map_append];show _++[(pl.dropLast,fold bl pl)]=_;rw[h1,h2];rfl
 ·rcases List.mem_append.mp hu with hu|hu
  ·exact x.ok u hu
  ·rw[List.mem_singleton.mp hu];exact okp
end
structure CallsGW (P:Program) (w:World) (K:W.Frag) (mg:Str->Option Value) (base:Heap):Prop where
 draw:Cal P w K mg base "_law_draw" 1 ["_law_feed", "_law_many"] spDraw
 fold:Cal P w K mg base "_law_fold" 1 ["_law_name", "_law_blind"] spFold
 free_place:Cal P w K mg base "_law_free_place" 4 ["_law_feed", "_law_marks", "_law_path", "_law_taken", "_law_blind"] (spFree P w)
 other_case:Cal P w K mg base "_law_other_case" 2 ["_law_feed", "_law_name"] spOther
 some_of:Cal P w K mg base "_law_some_of" 2 ["_law_feed", "_law_things", "_law_many"] (spSome K)
def spGoodW(P:Program)(w:World):Sp:=fun vs H Q _=>∃a b L bl n zs,vs=[.ref a,.ref L,.bl bl,.int n]/\FeedAt H a b/\RL H L zs/\Hl bl (zs.map (·.2))/\zs.length<=30/\L≠a/\0<n/\n<=20 /\
 ∀W ps H',Fd a b H H'->H W=none->PDt H' W ps->GoodW (zs.map (·.2)) (ps.map (·.2))->Apart bl (zs.map (·.2)) (plc (ps.map (·.2)))->Q (.ref W) H'
abbrev q2k:Stmt:=top 33
theorem sc_good_wishes:FnScope ["_law_feed", "_law_rows_here", "_law_blind", "_law_most", "_law_marks", "_law_wishes", "_law_taken", "_law_path", "_law_turn", "_law_left", "_law_some", "_law_drawer", "_law_way", "_law_last", "_law_one", "_law_place", "_law_name"] ["_law_feed", "_law_rows_here", "_law_blind", "_law_most"] (defScope q2k):=⟨rfl,rfl,rfl,by decide +kernel,rfl,by decide +kernel,by decide +kernel⟩
theorem q5v(D:Df K mg "_law_good_wishes" q2k ["_law_feed", "_law_rows_here", "_law_blind", "_law_most"])(T:Txt mg)(C:CallsGW P w K mg base):Cal P w K mg base "_law_good_wishes" 5 ["_law_feed", "_law_rows_here", "_law_blind", "_law_most"] (spGoodW P w):=by
 refine D.cal sc_good_wishes (fun vs H Q E h=>?_) (fun f cdv A outer s H vs Q E hr h=>?_)
 ·obtain⟨a,b,L,bl,n,zs,rfl,_⟩:=h;rfl
 ·obtain⟨a,b,L,bl,n,zs,rfl,F,rl,hl,h30,hLa,n0,n20,k⟩:=h;refine⟨_,(q0e (q0j (i:=4) sc_good_wishes.nd rfl (by first|exact Or.inl rfl|exact Or.inr rfl) (q3s (z2b hr) (by rfl) T.b_dict (by decide +kernel) (q0a (pv 1) q0d))) (q0e (q0j (i:=5) sc_good_wishes.nd rfl (by first|exact Or.inl rfl|exact Or.inr rfl) q3u) (q0e (q0j (i:=6) sc_good_wishes.nd rfl (by first|exact Or.inl rfl|exact Or.inr rfl) (q7e P w rfl rfl)) (q0e (q9u H rfl (q1x PassesOwn.never rfl (@q8l _ _ _ _ K rfl (pv 4)) (q0i (i:=7) sc_good_wishes.nd rfl (by first|exact Or.inl rfl|exact Or.inr rfl)) (q0f (q9x P w rfl rfl (q5p hr) (pv 6) (q1f (q0a (q0t (sl_k K rfl) (pv 7) q1b (q1c (q1o q0s q0g))) (q0a (pe_c C.fold hr (q0a (q0x (ix_k K rfl) (pv 7) (q1o q0s q0g) (fun _ _=>rfl)) (q0a (pv 2) q0d))) q0d))) q4r rfl)))) (q0e (q1x PassesOwn.never rfl (q2w rfl T.b_range (q0a (q1a q1d q0g (pe_c C.draw hr (q0a (pv 0) (q0a (pv 3) q0d)))) q0d)) (q0i (i:=8) sc_good_wishes.nd rfl (by first|exact Or.inl rfl|exact Or.inr rfl)) (q0e (q6v (i:=9) ["_law_path"] [("_law_wishes",5)] sc_good_wishes.nd rfl (by first|exact Or.inl rfl|exact Or.inr rfl) rfl (@q3n _ _ _ _ K rfl (q0l (q2m hr) (by rfl) T.b_sorted (by decide +kernel) (q0a (pv 4) q0d))) (fun _ _ _ _ _=>(q0i (i:=0) (show(["_law_path", "_law_wishes"]:List Str).Nodup by decide +kernel) rfl (by first|exact Or.inl rfl|exact Or.inr rfl))) (fun _ _ _ _ _=>(q2x (q1t (q8i (q1h hr) (pv 0) (pv 1))))) (fun _ _ _ _ _=>(pv 0))) (q0e (q6v (i:=10) ["_law_path"] [("_law_marks",4)] sc_good_wishes.nd rfl (by first|exact Or.inl rfl|exact Or.inr rfl) rfl (@q3n _ _ _ _ K rfl (pv 9)) (fun _ _ _ _ _=>(q0i (i:=0) (show(["_law_path", "_law_marks"]:List Str).Nodup by decide +kernel) rfl (by first|exact Or.inl rfl|exact Or.inr rfl))) (fun _ _ _ _ _=>(q2x (q1t (q3l (q0y (q1h hr) (pv 1) (pv 0) (fun _ _=>rfl)))))) (fun _ _ _ _ _=>(pv 0))) (q2l (q1l (pt_j (@PW.pt _ _ _ (q2v (q0k (ne_k K rfl hr) (pv 9) (q1k q0d) (nomark _)) (q1q (q0k (eq_k K rfl hr) (pe_c C.draw hr (q0a (pv 0) (q0a q0g q0d))) q0g (nomark _)))))) (q0e (q0j (i:=11) sc_good_wishes.nd rfl (by first|exact Or.inl rfl|exact Or.inr rfl) (q0t (sl_k K rfl) (q0x (ix_k K rfl) (pv 9) (pe_c C.draw hr (q0a (pv 0) (q0a (q0l (q5e K rfl) (by rfl) T.b_len PySem.boot_len (q0a (pv 9) q0d)) q0d))) (fun _ _=>rfl)) q1b (q1c (q1o q0s q0g)))) (q0f (q6v (i:=10) ["_law_path"] [("_law_drawer",11)] sc_good_wishes.nd rfl (by first|exact Or.inl rfl|exact Or.inr rfl) rfl (@q3n _ _ _ _ K rfl (pv 9)) (fun _ _ _ _ _=>(q0i (i:=0) (show(["_law_path", "_law_drawer"]:List Str).Nodup by decide +kernel) rfl (by first|exact Or.inl rfl|exact Or.inr rfl))) (fun _ _ _ _ _=>(q2x (q0k (eq_k K rfl hr) (q0t (sl_k K rfl) (pv 0) q1b (q1c (q1o q0s q0g))) (pv 1) (nomark _)))) (fun _ _ _ _ _=>(pv 0))))) q0n) (q0e (q0j (i:=10) sc_good_wishes.nd rfl (by first|exact Or.inl rfl|exact Or.inr rfl) (pe_c C.some_of hr (q0a (pv 0) (q0a (pv 10) (q0a (q1a q1d q0g (pe_c C.draw hr (q0a (pv 0) (q0a q0g q0d)))) q0d))))) (q0e (q0j (i:=12) sc_good_wishes.nd rfl (by first|exact Or.inl rfl|exact Or.inr rfl) (pe_c C.draw hr (q0a (pv 0) (q0a q0g q0d)))) (q0e (q0j (i:=13) sc_good_wishes.nd rfl (by first|exact Or.inl rfl|exact Or.inr rfl) q7r) (q2l (q1l (pt_j (@PW.pt _ _ _ (q2v (q0k (ne_k K rfl hr) (pv 10) (q1k q0d) (nomark _)) (q1q (q0k (eq_k K rfl hr) (pv 12) q0g (nomark _)))))) (q0f (q0j (i:=13) sc_good_wishes.nd rfl (by first|exact Or.inl rfl|exact Or.inr rfl) (q0x (ix_k K rfl) (pv 10) q0g (fun _ _=>rfl)))) q0n) (q2l (q1l (pt_j (@PW.pt _ _ _ (q2v (q0k (ne_k K rfl hr) (pv 10) (q1k q0d) (nomark _)) (q1q (q0k op_gt (pv 12) q0g (nomark _)))))) (q0f (q0j (i:=13) sc_good_wishes.nd rfl (by first|exact Or.inl rfl|exact Or.inr rfl) (pe_c C.free_place hr (q0a (pv 0) (q0a (pv 4) (q0a (q0x (ix_k K rfl) (pv 10) (q1o q0s q0g) (fun _ _=>rfl)) (q0a (pv 6) (q0a (pv 2) q0d)))))))) q0n) (q0f (q1l (q1t (q3l (pv 13))) (q0f (q1x PassesOwn.never rfl (@zip_k _ _ _ _ _ _ _ _ _ K rfl rfl T.b_zip (q0a (pv 10) (q0a (q1a q1d (q0t (sl_k K rfl) (pv 10) (q1c q0g) q1b) (q1k (q0a (pv 13) q0d))) q0d)) (by rfl) (by rfl)) (@q2y _ _ _ _ (2) _ K rfl rfl (q0o (q0i (i:=14) sc_good_wishes.nd rfl (by first|exact Or.inl rfl|exact Or.inr rfl)) (q0o (q0i (i:=15) sc_good_wishes.nd rfl (by first|exact Or.inl rfl|exact Or.inr rfl)) q1w)) (by rfl) (by rfl)) (q0e (q0j (i:=16) sc_good_wishes.nd rfl (by first|exact Or.inl rfl|exact Or.inr rfl) (q0x (ix_k K rfl) (pv 15) (q1o q0s q0g) (fun _ _=>rfl))) (q2l (q1l (@q6x _ _ _ K rfl (pv 2) (fun _=>rfl)) (q0f (q0j (i:=16) sc_good_wishes.nd rfl (by first|exact Or.inl rfl|exact Or.inr rfl) (pe_c C.other_case hr (q0a (pv 0) (q0a (pv 16) q0d))))) q0n) (q0f (q5f (q1h hr) (pv 5) (pv 14) (q1a q7b (q0t (sl_k K rfl) (pv 15) q1b (q1c (q1o q0s q0g))) (q1f (q0a (pv 16) q0d))) rfl)))))) q0n))))))))))) (q0f (q0m (pv 5)))))))),?_⟩;refine⟨_,rfl,L,zs.map (·.1),zs.map (fun z=>rR z.2),rfl,by rw[List.map_map];exact rl.at_,prs_zs rl.pr,by rw[List.length_map];lia,fun m hm=>?_⟩;rw[z4w hl];have s1:=(Same.refl H).new (o:=dR ((zs.map (·.2)).map rR)) hm;have hm1:upd H m (dR ((zs.map (·.2)).map rR)) m=some (dR ((zs.map (·.2)).map rR)):=q0b;generalize upd H m (dR ((zs.map (·.2)).map rR))=H1 at s1 hm1;generalize hrows:zs.map (·.2)=rows at hl hm1 k;have hrl:rows.length<=30:=by rw[<- hrows,List.length_map];exact h30
  have oks:=hl.ok;intro W hW;have s2:=s1.new (o:=.dT []) hW;have hm2:=(Same.refl H1).new (o:=.dT []) hW _ _ hm1;have hW2:upd H1 W (.dT []) W=some (.dT []):=q0b;have hWH:H W=none:=s1.free hW;have hmW:m≠W:=fun z=>by rw[<- z,hm1] at hW;cases hW
  generalize upd H1 W (.dT [])=H2 at s2 hm2 hW2;intro t ht hsys;have s3':=(Same.refl H2).new (o:=PdO P w t []) ht;have s3:=s2.trans s3';have hm3:=s3' _ _ hm2;have hW3:=s3' _ _ hW2;have htH:H t=none:=s2.free ht;have hta:t≠a:=(F.na htH).symm;have dp3:DPr P w (upd H2 t (PdO P w t [])) t []:=⟨q0b,hsys,Nat.zero_le _,(fun _ h=>nomatch h)⟩
  have hmt:m≠t:=fun z=>by rw[<- z,hm2] at ht;cases ht
  generalize upd H2 t (PdO P w t [])=H3 at s3' s3 hm3 hW3 dp3;refine⟨m,(fun o v e=>by rw[hm] at e;cases e),?_⟩;refine⟨_,rfl,m,_,rfl,hm3,fun ob=>?_⟩;refine q5g (fun i σ' H'=>∃ks x7 x8 x9 x10 x11 x12 x13 x14 x15 x16,σ'=[some (.ref a),some (.ref L),some (.bl bl),some (.int n),some (.ref m),some (.ref W),some (.ref t),x7,x8,x9,x10,x11,x12,x13,x14,x15,x16]/\H' m=some (.frz ob (dR (rows.map rR)))/\DPr P w H' t ks/\(∀c u,c≠m->c≠t->H3 c=some u->H' c=some u)/\ks.length<=i/\(∀r∈rows.take i,hasP ks (keyO bl r.1)=true)/\(∀kk,hasP ks kk=true->∃r∈rows.take i,kk=keyO bl r.1))
   ⟨[],none,none,none,none,none,none,none,none,none,none,rfl,q0b,⟨by rw[q0c hmt.symm];exact dp3.at_,hsys,Nat.zero_le _,(fun _ h=>nomatch h)⟩,fun c u hc _ e=>by rw[q0c hc];exact e,Nat.le_refl _,(fun r hr=>by rw[List.take_zero] at hr;cases hr),(fun kk h=>by cases h)⟩ (fun i σ' H' x=>by obtain⟨_,_,_,_,_,_,_,_,_,_,_,_,h,_⟩:=x;exact h) ?_ ?_
  ·rintro i ky v pb σ' H4 hk' hb ⟨ks,x7,x8,x9,x10,x11,x12,x13,x14,x15,x16,rfl,hfz,dp4,kp,kl,h1,h2⟩;obtain⟨r,hr,rfl,rfl⟩:∃r,rows[i]?=some r/\ky=kP r.1/\v=mV r.2:=by
    rw[List.getElem?_map,List.getElem?_map] at hk';cases e:rows[i]? with
    |none=>rw[e] at hk';cases hk'
    |some r=>rw[e] at hk';cases hk';exact⟨r,rfl,rfl,rfl⟩
   rw[q1u] at hb;have okr:=oks r (List.mem_of_getElem? hr);have hil:i<rows.length:=(List.getElem?_eq_some_iff.mp hr).1;obtain⟨c1,c2⟩:=q1g okr.ne;refine⟨_,rfl,_,rfl,_,rfl,_,rfl,.inr (.inr ⟨pb,_,rfl,SqT.of hb,c2,fun t1 ht1=>?_⟩)⟩;rw[c1];have s5:=(Same.refl H4).new (o:=.tup (vP r.1.dropLast)) ht1;have ht5:upd H4 t1 (.tup (vP r.1.dropLast)) t1=some (.tup (vP r.1.dropLast)):=q0b;generalize upd H4 t1 (.tup (vP r.1.dropLast))=H5 at s5 ht5;refine⟨_,rfl,_,rfl,.inr (.inl ⟨pb,_,-1,_,rfl,rfl,SqT.of (s5 _ _ hb),q3a okr.ne,?_⟩)⟩;refine⟨_,rfl,_,bl,rfl,q4c okr,by show 2<=sizeLine;decide,fun p3 hp3=>?_⟩;have s6:=(Same.refl H5).new (o:=.tup [.ref t1,.str (mk (if bl then lowN (r.1.getLastD []) else r.1.getLastD []))]) hp3;have pk:PrK (upd H5 p3 (.tup [.ref t1,.str (mk (if bl then lowN (r.1.getLastD []) else r.1.getLastD []))])) (keyO bl r.1) p3:=⟨t1,q0b,by show _=some (HO.tup ((kP r.1.dropLast).map kV));rw[q1u];exact s6 _ _ ht5⟩
   have s46:=s5.trans s6;generalize upd H5 p3 (.tup [.ref t1,.str (mk (if bl then lowN (r.1.getLastD []) else r.1.getLastD []))])=H6 at s6 pk s46;have hno:hasP ks (keyO bl r.1)=false:=by
    cases e:hasP ks (keyO bl r.1) with
    |false=>rfl
    |true =>
     obtain⟨r',hr',e2⟩:=h2 _ e;obtain⟨j,hj⟩:=List.mem_iff_getElem?.mp hr';have hj2:j<i:=by
      have:=(List.getElem?_eq_some_iff.mp hj).1;rw[List.length_take] at this;lia
     rw[List.getElem?_take,if_pos hj2] at hj;have hf:=q7m okr.ne (oks r' (List.mem_of_getElem? hj)).ne e2;have a1:(rows.map fun r=>fold bl r.1)[i]?=some (fold bl r.1):=by rw[List.getElem?_map,hr];rfl
     have a2:(rows.map fun r=>fold bl r.1)[j]?=some (fold bl r.1):=by rw[List.getElem?_map,hj,hf];rfl
     have:=(List.getElem?_inj (List.getElem?_eq_some_iff.mp a1).1 hl.nd).mp (a1.trans a2.symm);lia
   have dp6:=dp4.same s46;have ksl:ks.length<sizeLine:=small' (by lia);refine⟨t,ks,p3,keyO bl r.1,rfl,rfl,rfl,dp6,pk,hno,ksl,?_⟩;have etk:rows.take (i+1)=rows.take i++[r]:=by rw[List.take_add_one,hr];rfl
   refine⟨ks++[(keyO bl r.1,p3)],_,_,_,_,_,_,_,_,_,_,rfl,by rw[q0c hmt];exact s46 _ _ hfz,dp6.put pk ksl,fun c u hc ht' e=>by rw[q0c ht'];exact s46 _ _ (kp c u hc ht' e),by rw[List.length_append];exact Nat.succ_le_succ kl,fun r' hr'=>?_,fun kk hkk=>?_⟩
   ·rw[etk] at hr';rcases List.mem_append.mp hr' with hr'|hr'
    ·exact q4o (h1 r' hr')
    ·rw[List.mem_singleton.mp hr'];exact q7h
   ·rw[etk];unfold hasP at hkk;rw[List.any_append,Bool.or_eq_true] at hkk;rcases hkk with hkk|hkk
    ·obtain⟨r',hr',e⟩:=h2 kk hkk;exact⟨r',List.mem_append_left _ hr',e⟩
    ·refine⟨r,List.mem_append_right _ (List.mem_singleton.mpr rfl),?_⟩;simp at hkk;exact hkk.symm
  rintro σ' H4 ⟨ks,x7,x8,x9,x10,x11,x12,x13,x14,x15,x16,rfl,hfz,dp4,kp,kl,h1,h2⟩;rw[List.length_map,List.length_map,List.take_length] at h1;rw[List.length_map,List.length_map] at kl;refine⟨ob,_,hfz,?_⟩;have I0:GWI P w H a b m W t bl rows 0 (upd H4 m (dR (rows.map rR))) [] ks:=by
   have hWm:W≠m:=fun z=>by rw[z,hm1] at hW;cases hW
   have hWt:W≠t:=fun z=>by rw[<- z,hW2] at ht;cases ht
   have kp':∀c u,c≠m->c≠t->H3 c=some u->upd H4 m (dR (rows.map rR)) c=some u:=fun c u h1 h2 e=>by rw[q0c h1];exact kp c u h1 h2 e
   have sF:Same H (upd H4 m (dR (rows.map rR))):=fun c u e=>kp' c u (q0h e hm) (q0h e htH) (s3 _ _ e);have tk4:∀{c:Addr} {xs:List V},H4 c=some (.tup xs)->upd H4 m (dR (rows.map rR)) c=some (.tup xs):=fun{c xs} e=>by rw[q0c (fun z=>by rw[z,hfz] at e;cases e)];exact e
   have og:∀p∈rows.map (·.1),hasP ks (keyO bl p)=true:=fun p hp=>by
    obtain⟨r,hr,rfl⟩:=List.mem_map.mp hp;exact h1 r hr
   refine⟨(Fd.refl F).same sF,q0b,⟨kp' W _ hWm hWt hW3,(fun _ h=>nomatch h)⟩,⟨by rw[q0c hmt.symm];exact dp4.at_,hsys,dp4.len,fun y hy=>?_⟩,by lia,⟨(fun _ h=>nomatch h),.nil⟩,?_,og,og⟩
   ·obtain⟨c,e1,e2⟩:=dp4.pk y hy;exact⟨c,tk4 e1,tk4 e2⟩
   ·show((rows.map (·.1)).map fun p=>fold bl p).Nodup;rw[List.map_map];exact hl.nd
  generalize upd H4 m (dR (rows.map rR))=H5 at I0;clear hfz dp4 kp kl h1 h2 hm3 hW3 dp3 s3' s3 hW2 hm2 s2 hm1 s1 rl;refine⟨_,rfl,_,rfl,a,b,_,rfl,I0.fd.feed,by lia,by lia,fun r0 H6 r00 r01 fd6=>.inl ⟨_,_,rfl,rfl,?_⟩⟩;have I1:=I0.go fd6 hta;refine⟨1+r0,rfl,by lia,by lia,q3r (n:=(1+r0).toNat) (fun i σ' H'=>∃ps ks x7 x8 x9 x10 x11 x12 x13 x14 x15 x16,σ'=[some (.ref a),some (.ref L),some (.bl bl),some (.int n),some (.ref m),some (.ref W),some (.ref t),x7,x8,x9,x10,x11,x12,x13,x14,x15,x16]/\GWI P w H a b m W t bl rows i H' ps ks/\i<=(1+r0).toNat) ⟨[],ks,_,_,_,_,_,_,_,_,_,_,rfl,I1,Nat.zero_le _⟩ ?_ ?_⟩
  ·clear I1 I0 fd6;rintro i σ' H1 hi ⟨ps,ks,x7,x8,x9,x10,x11,x12,x13,x14,x15,x16,rfl,I1,_⟩;refine⟨_,rfl,m,_,rfl,I1.m,by rw[List.length_map];lia,fun r hr=>?_,fun L2 bs qs hL2 hp2 hs2 pts=>?_⟩
   ·obtain⟨y,hy,rfl⟩:=List.mem_map.mp hr;exact(oks y hy).ne
   obtain⟨ys,y1,y2,y3⟩:=z6x pts;have hkey:(rows.map rR).map (·.1)=rows.map (·.1):=by rw[List.map_map];rfl
   rw[hkey] at hp2;rw[y1];have s2:=(Same.refl H1).new (o:=.lst (ys.map fun z=>V.ref z.1)) hL2;have yin:∀y∈ys,y.2∈rows.map (·.1):=fun y hy=>hp2.mem_iff.mp (by rw[<- y2];exact List.mem_map.mpr ⟨y,hy,rfl⟩);have ynd:(ys.map (·.2)).Nodup:=by rw[y2];exact hp2.nodup_iff.mpr hl.paths
   have yok:∀y∈ys,okP y.2:=fun y hy=>by
    obtain⟨r,hr,e⟩:=List.mem_map.mp (yin y hy);rw[<- e];exact oks r hr
   have ylen:ys.length<=30:=by
    have e1:=congrArg List.length y2;have e2:=hp2.length_eq;rw[List.length_map] at e1 e2;lia
   have hL2':upd H1 L2 (.lst (ys.map fun z=>V.ref z.1)) L2=some (.lst (ys.map fun z=>V.ref z.1)):=q0b;have hy2:∀y∈ys,upd H1 L2 (.lst (ys.map fun z=>V.ref z.1)) y.1=some (.tup (vP y.2)):=fun y hy=>s2 _ _ (y3 y hy);have I2:=I1.same s2;generalize upd H1 L2 (.lst (ys.map fun z=>V.ref z.1))=H2 at s2 hL2' hy2 I2;clear y3 pts y1 hp2 hs2 I1 s2 y2;have ndp:((ps.map (·.2)).map (·.1)).Nodup:=I2.gw.nd;refine .inl ⟨L2,rfl,⟨_,SqL.of hL2'⟩,fun Dc hDc=>?_⟩;refine q1z (fun j vs H'=>∃ds:List (Addr×Pth),vs=ds.map (fun z=>V.ref z.1)/\Same H2 H'/\H' Dc=some (.lst vs)/\ds.Sublist (ys.take j)/\j<=ys.length/\∀z∈ds,z.2∉(ps.map (·.2)).map (·.1)) ⟨[],rfl,(Same.refl H2).new hDc,q0b,List.nil_sublist _,Nat.zero_le _,(fun _ h=>nomatch h)⟩ (fun j vs H' h=>by obtain⟨ds,_,s',h',_⟩:=h;exact⟨h',SqL.of (s' _ _ hL2')⟩) ?_ ?_
   ·rintro j vs H3 v hv ⟨ds,rfl,s3,hHD,hsub,_,hds⟩;obtain⟨y,hy,rfl⟩:∃y,ys[j]?=some y/\v=.ref y.1:=by
     rw[List.getElem?_map] at hv;cases e:ys[j]? with
     |none=>rw[e] at hv;cases hv
     |some y=>rw[e] at hv;cases hv;exact⟨y,rfl,rfl⟩
    have hj:j<ys.length:=(List.getElem?_eq_some_iff.mp hy).1;have hym:=List.mem_of_getElem? hy;have etk:ys.take (j+1)=ys.take j++[y]:=by rw[List.take_add_one,hy];rfl
    have dlen:ds.length<=30:=by have:=hsub.length_le;rw[List.length_take] at this;lia
    rcases(I2.wd.same s3).get ndp (s3 _ _ (hy2 y hym)) with⟨hn,dg⟩|⟨z,hz,ez,dg,_⟩
    ·refine⟨q0q,_,rfl,_,rfl,W,_,rfl,dg,_,rfl,iteT ?_⟩;refine⟨_,rfl,hHD,small' (by rw[List.length_map];lia),ds++[y],by rw[List.map_append];rfl,s3.put hDc,q0b,by rw[etk];exact List.Sublist.append hsub (List.Sublist.refl _),hj,fun z hz=>?_⟩;rcases List.mem_append.mp hz with hz|hz
     ·exact hds z hz
     ·rw[List.mem_singleton.mp hz];exact hn
    ·refine⟨q0q,_,rfl,_,rfl,W,_,rfl,dg,_,rfl,iteF ?_⟩;exact⟨ds,rfl,s3,hHD,by rw[etk];exact hsub.trans (List.sublist_append_left _ _),hj,hds⟩
   rintro vs H3 ⟨lf,rfl,s3,hLf,hsub,_,hun⟩;rw[List.length_map,List.take_length] at hsub;have lin:∀z∈lf,z∈ys:=fun z hz=>hsub.subset hz;have lnd:(lf.map (·.2)).Nodup:=ynd.sublist (hsub.map _);have llen:lf.length<=30:=Nat.le_trans hsub.length_le ylen;have I3:=I2.same s3;have pl3:PL H3 Dc lf:=⟨hLf,fun z hz=>⟨s3 _ _ (hy2 z (lin z hz)),yok z (lin z hz)⟩⟩
   have hDca:Dc≠a:=(I2.fd.feed.na hDc).symm;have lun:∀z∈lf,z.2∈rows.map (·.1)/\z.2∉(ps.map (·.2)).map (·.1):=fun z hz=>⟨yin z (lin z hz),hun z hz⟩
   clear hLf hsub hun hy2 hL2' s3 hDc I2 ynd yok ylen;refine⟨_,rfl,.inl ⟨Dc,rfl,⟨_,SqL.of pl3.at_⟩,fun S hS=>?_⟩⟩;refine q1z (fun j vs H'=>∃ds:List (Addr×Pth),vs=ds.map (fun z=>V.ref z.1)/\Same H3 H'/\H' S=some (.lst vs)/\ds.Sublist (lf.take j)/\j<=lf.length/\∀z∈ds,∃k,(z.2,k)∈rows/\k≠none) ⟨[],rfl,(Same.refl H3).new hS,q0b,List.nil_sublist _,Nat.zero_le _,(fun _ h=>nomatch h)⟩ (fun j vs H' h=>by obtain⟨ds,_,s',h',_⟩:=h;exact⟨h',SqL.of (s' _ _ pl3.at_)⟩) ?_ ?_
   ·rintro j vs H4 v hv ⟨ds,rfl,s4,hHD,hsub,_,hds⟩;obtain⟨y,hy,rfl⟩:∃y,lf[j]?=some y/\v=.ref y.1:=by
     rw[List.getElem?_map] at hv;cases e:lf[j]? with
     |none=>rw[e] at hv;cases hv
     |some y=>rw[e] at hv;cases hv;exact⟨y,rfl,rfl⟩
    have hj:j<lf.length:=(List.getElem?_eq_some_iff.mp hy).1;have hym:=List.mem_of_getElem? hy;have etk:lf.take (j+1)=lf.take j++[y]:=by rw[List.take_add_one,hy];rfl
    have dlen:ds.length<=30:=by have:=hsub.length_le;rw[List.length_take] at this;lia
    obtain⟨r,hr,er⟩:=List.mem_map.mp (lun y hym).1;have hyr:(y.2,r.2)∈rows:=by rw[<- er];exact hr
    refine⟨q0q,_,rfl,_,rfl,m,mV r.2,rfl,?_,_,rfl,?_⟩
    ·rw[<- q4p hl.paths hyr];exact q4i (s4 _ _ I3.m) (s4 _ _ (pl3.pr y hym).1)
    refine iteB (fun e=>?_) (fun e=>⟨ds,rfl,s4,hHD,by rw[etk];exact hsub.trans (List.sublist_append_left _ _),hj,hds⟩);have hn:r.2≠none:=fun y=>by rw[y] at e;cases e
    refine⟨_,rfl,hHD,small' (by rw[List.length_map];lia),ds++[y],by rw[List.map_append];rfl,s4.put hS,q0b,by rw[etk];exact List.Sublist.append hsub (List.Sublist.refl _),hj,fun z hz=>?_⟩;rcases List.mem_append.mp hz with hz|hz
    ·exact hds z hz
    ·rw[List.mem_singleton.mp hz];exact⟨r.2,hyr,hn⟩
   rintro vs H4 ⟨sm,rfl,s4,hS4,hsub,_,hsl⟩;rw[List.length_map,List.take_length] at hsub;have I4:=I3.same s4;have pl4:=pl3.same s4;have ps4:PL H4 S sm:=⟨hS4,fun z hz=>pl4.pr z (hsub.subset hz)⟩
   have ok4:SomeOk rows (ps.map (·.2)) (sm.map (·.2)):=⟨lnd.sublist (hsub.map _),fun z hz=>by obtain⟨y,hy,rfl⟩:=List.mem_map.mp hz;exact lun y (hsub.subset hy),.inl fun z hz=>by obtain⟨y,hy,rfl⟩:=List.mem_map.mp hz;exact hsl y hy⟩
   have sl4:sm.length<=30:=Nat.le_trans hsub.length_le llen;have hSa:S≠a:=(I3.fd.feed.na hS).symm;clear hS4 hsub hsl s4 hS I3 pl3;refine⟨fun σ' H'=>∃S sm x7 x11,σ'=[some (.ref a),some (.ref L),some (.bl bl),some (.int n),some (.ref m),some (.ref W),some (.ref t),x7,some (.int (0+(i:Int))),some (.ref Dc),some (.ref S),x11,x12,x13,x14,x15,x16]/\GWI P w H a b m W t bl rows i H' ps ks/\PL H' S sm/\SomeOk rows (ps.map (·.2)) (sm.map (·.2))/\sm.length<=30/\S≠a,?_,?_⟩;rotate_left
   ·refine⟨fun bb H'=>GWI P w H a b m W t bl rows i H' ps ks/\PL H' Dc lf/\PL H' S sm/\(bb=true->lf≠[]),?_,?_⟩
    ·rintro bb H5 ⟨I5,pl5,ps5,hb⟩;refine ite2 (fun e=>?_) (fun e=>⟨S,sm,_,_,rfl,I5,ps5,ok4,sl4,hSa⟩);have lpos:=List.length_pos_iff.mpr (hb e);refine⟨_,rfl,_,rfl,_,rfl,_,_,rfl,.inl ⟨_,SqL.of pl5.at_,rfl⟩,a,b,_,rfl,I5.fd.feed,by rw[List.length_map];lia,by rw[List.length_map];lia,fun r1 H6 r10 r11 fd6=>?_⟩;rw[List.length_map] at r11;have I6:=I5.go fd6 hta;have pl6:=pl5.fd I5.fd.feed fd6 hDca;obtain⟨y,hym,hat⟩:=pl6.get r10 (by lia);have oky:=(pl6.pr y hym).2;obtain⟨c1,c2⟩:=q1g oky.ne;refine .inl ⟨Dc,_,r1,_,rfl,rfl,SqL.of pl6.at_,hat,_,rfl,_,rfl,.inr (.inr ⟨y.1,_,rfl,SqT.of (pl6.pr y hym).1,c2,fun t1 ht1=>?_⟩)⟩;rw[c1];have s7:=(Same.refl H6).new (o:=.tup (vP y.2.dropLast)) ht1;have ht7:upd H6 t1 (.tup (vP y.2.dropLast)) t1=some (.tup (vP y.2.dropLast)):=q0b;have I7:=I6.same s7;have pl7:=pl6.same s7;generalize upd H6 t1 (.tup (vP y.2.dropLast))=H7 at s7 ht7 I7 pl7;refine⟨_,rfl,.inl ⟨Dc,rfl,⟨_,SqL.of pl7.at_⟩,fun S2 hS2=>?_⟩⟩;refine q1z (fun j vs H'=>∃ds:List (Addr×Pth),vs=ds.map (fun z=>V.ref z.1)/\Same H7 H'/\H' S2=some (.lst vs)/\ds.Sublist (lf.take j)/\j<=lf.length/\∀z∈ds,z.2.dropLast=y.2.dropLast) ⟨[],rfl,(Same.refl H7).new hS2,q0b,List.nil_sublist _,Nat.zero_le _,(fun _ h=>nomatch h)⟩ (fun j vs H' h=>by obtain⟨ds,_,s',h',_⟩:=h;exact⟨h',SqL.of (s' _ _ pl7.at_)⟩) ?_ ?_
     ·rintro j vs H8 v hv ⟨ds,rfl,s8,hHD,hsub,_,hds⟩;obtain⟨x,hx,rfl⟩:∃x,lf[j]?=some x/\v=.ref x.1:=by
       rw[List.getElem?_map] at hv;cases e:lf[j]? with
       |none=>rw[e] at hv;cases hv
       |some x=>rw[e] at hv;cases hv;exact⟨x,rfl,rfl⟩
      have hj:j<lf.length:=(List.getElem?_eq_some_iff.mp hx).1;have hxm:=List.mem_of_getElem? hx;have etk:lf.take (j+1)=lf.take j++[x]:=by rw[List.take_add_one,hx];rfl
      have dlen:ds.length<=30:=by have:=hsub.length_le;rw[List.length_take] at this;lia
      obtain⟨hx7,okx⟩:=pl7.pr x hxm;obtain⟨d1,d2⟩:=q1g okx.ne;refine⟨q0q,_,rfl,_,rfl,_,rfl,.inr (.inr ⟨x.1,_,rfl,SqT.of (s8 _ _ hx7),d2,fun u1 hu1=>?_⟩)⟩;rw[d1];have s9:=(Same.refl H8).new (o:=.tup (vP x.2.dropLast)) hu1;have s89:=s8.trans s9;refine⟨_,rfl,q2z q0b (s89 _ _ ht7) (q2h okx.low) (q2h oky.low) ⟨_,rfl,iteB (fun e=>?_) (fun e=>⟨ds,rfl,s89,s9 _ _ hHD,by rw[etk];exact hsub.trans (List.sublist_append_left _ _),hj,hds⟩)⟩⟩;refine⟨_,rfl,s9 _ _ hHD,small' (by rw[List.length_map];lia),ds++[x],by rw[List.map_append];rfl,s89.put hS2,q0b,by rw[etk];exact List.Sublist.append hsub (List.Sublist.refl _),hj,fun z hz=>?_⟩;rcases List.mem_append.mp hz with hz|hz
      ·exact hds z hz
      ·rw[List.mem_singleton.mp hz];exact of_decide_eq_true e
     ·rintro vs H8 ⟨ds,rfl,s8,hHD,hsub,_,hds⟩;rw[List.length_map,List.take_length] at hsub;refine⟨S2,ds,_,_,rfl,I7.same s8,⟨hHD,fun z hz=>(pl7.same s8).pr z (hsub.subset hz)⟩,⟨lnd.sublist (hsub.map _),fun z hz=>by obtain⟨x,hx,rfl⟩:=List.mem_map.mp hz;exact lun x (hsub.subset hx),.inr ⟨y.2.dropLast,fun z hz=>by obtain⟨x,hx,rfl⟩:=List.mem_map.mp hz;exact hds x hx⟩⟩,Nat.le_trans hsub.length_le llen,(I7.fd.feed.na hS2).symm⟩
    ·refine⟨_,rfl,by show 0<=sizeLine;decide,fun E1 hE1=>?_⟩;have sE:=(Same.refl H4).new (o:=.lst []) hE1;refine z1b (pl4.same sE).at_ (fun z hz=>((pl4.same sE).pr z hz).1) q0b (fun z hz=>(pl4.pr z hz).2.low) ⟨_,rfl,iteB (fun e=>?_) (fun e=>⟨I4.same sE,pl4.same sE,ps4.same sE,(fun z=>by cases z)⟩)⟩;have hne:lf≠[]:=by simpa using e
     have IE:=I4.same sE;exact⟨_,rfl,a,b,_,rfl,IE.fd.feed,by decide,by decide,fun r1 H6 _ _ fd6=>.inl ⟨rfl,_,rfl,IE.go fd6 hta,(pl4.same sE).fd IE.fd.feed fd6 hDca,(ps4.same sE).fd IE.fd.feed fd6 hSa,fun _=>hne⟩⟩
   clear I4 pl4 ps4 ok4 sl4 hSa S sm;rintro σ' H4 ⟨S,sm,x7,x11,rfl,I4,ps4,ok4,sl4,hSa⟩;refine⟨_,rfl,_,rfl,_,rfl,a,b,_,rfl,I4.fd.feed,by decide,by decide,fun r1 H5 _ _ fd5=>.inl ⟨_,_,rfl,rfl,?_⟩⟩;have I5:=I4.go fd5 hta;have ps5:=ps4.fd I4.fd.feed fd5 hSa;refine⟨Pth,GP,a,b,S,sm,1+r1,gg_P,rfl,I5.fd.feed,⟨ps5.at_,ps5.pr⟩,by lia,fun M zf zr H6 fd6 hM gl6 pm6 _=>?_⟩;have I6:=I5.go fd6 hta;have pz6:PL H6 M zf:=⟨gl6.at_,gl6.pr⟩
   have hMa:M≠a:=(I5.fd.feed.na hM).symm;have okz:SomeOk rows (ps.map (·.2)) (zf.map (·.2)):=ok4.sub (r:=zr.map (·.2)) (by rw[<- List.map_append];exact pm6.map _);have zl:zf.length<=30:=by have:=pm6.length_eq;rw[List.length_append] at this;lia
   clear gl6 pm6 hM fd6 ps5 I5 fd5 ps4 ok4 I4 sl4 hSa;refine⟨_,rfl,a,b,_,rfl,I6.fd.feed,by decide,by decide,fun wy H7 w0 w1 fd7=>?_⟩;have I7:=I6.go fd7 hta;have pz7:=pz6.fd I6.fd.feed fd7 hMa;clear pz6 I6 fd7;have org:∀z∈zf,hasP ks (keyO bl z.2)=true:=fun z hz=>I7.og _ (okz.un z.2 (List.mem_map.mpr ⟨z,hz,rfl⟩)).1;refine⟨fun σ' H'=>∃v13,σ'=[some (.ref a),some (.ref L),some (.bl bl),some (.int n),some (.ref m),some (.ref W),some (.ref t),x7,some (.int (0+(i:Int))),some (.ref Dc),some (.ref M),x11,some (.int wy),some v13,x14,x15,x16]/\GWI P w H a b m W t bl rows i H' ps ks/\PL H' M zf/\(v13=.non\/∃z,zf.head?=some z/\v13=.ref z.1/\wy=0),?_,?_⟩;rotate_left
   ·refine⟨fun bb H'=>GWI P w H a b m W t bl rows i H' ps ks/\PL H' M zf/\(bb=true->zf≠[]/\wy=0),?_,?_⟩
    ·rintro bb H8 ⟨I8,pz8,hb⟩;refine ite2 (fun e=>?_) (fun e=>⟨_,rfl,I8,pz8,.inl rfl⟩);obtain⟨hne,rfl⟩:=hb e;obtain⟨z,zr',rfl⟩:∃z zr',zf=z::zr':=by
      cases zf with
      |nil=>exact absurd rfl hne
      |cons z zr'=>exact⟨z,zr',rfl⟩
     have hat:atI ((z::zr').map fun z=>V.ref z.1) 0=some (.ref z.1):=by
      obtain⟨v,h1,h2⟩:=q6b (xs:=(z::zr').map fun z=>V.ref z.1) (i:=0) (by decide) (by rw[List.length_map,List.length_cons];lia);cases h1;exact h2
     exact⟨_,rfl,.inl ⟨M,_,0,_,rfl,rfl,SqL.of pz8.at_,hat,_,rfl,I8,pz8,.inr ⟨z,rfl,rfl,rfl⟩⟩⟩
    ·refine⟨_,rfl,by show 0<=sizeLine;decide,fun E1 hE1=>?_⟩;have sE:=(Same.refl H7).new (o:=.lst []) hE1;have pzE:=pz7.same sE;refine z1b pzE.at_ (fun z hz=>(pzE.pr z hz).1) q0b (fun z hz=>(pz7.pr z hz).2.low) ⟨_,rfl,iteB (fun e=>?_) (fun e=>⟨I7.same sE,pzE,(fun z=>by cases z)⟩)⟩;have hne:zf≠[]:=by simpa using e
     exact⟨_,rfl,.inl ⟨rfl,_,rfl,I7.same sE,pzE,fun e2=>⟨hne,by simpa using e2⟩⟩⟩
   clear I7 pz7;rintro σ' H7 ⟨v13,rfl,I7,pz7,hv13⟩;refine⟨fun σ' H'=>∃v13 ks,σ'=[some (.ref a),some (.ref L),some (.bl bl),some (.int n),some (.ref m),some (.ref W),some (.ref t),x7,some (.int (0+(i:Int))),some (.ref Dc),some (.ref M),x11,some (.int wy),some v13,x14,x15,x16]/\GWI P w H a b m W t bl rows (i+1) H' ps ks/\PL H' M zf/\(v13=.non\/∃e q,v13=.ref e/\H' e=some (.tup (vP q))/\zf≠[]/\LastOk bl rows (ps.map (·.2)) ks (zf.map (·.2)) q),?_,?_⟩;rotate_left
   ·refine⟨fun bb H'=>GWI P w H a b m W t bl rows i H' ps ks/\PL H' M zf/\(bb=true->zf≠[]),?_,?_⟩
    ·rintro bb H8 ⟨I8,pz8,hb⟩;refine ite2 (fun e=>?_) (fun e=>⟨_,ks,rfl,I8.up,pz8,hv13.imp id fun⟨z,hz,e2,_⟩=>?_⟩)
     ·have hne:=hb e;obtain⟨z,hz⟩:∃z,zf.getLast?=some z:=⟨_,List.getLast?_eq_some_getLast hne⟩
      have hzm:=List.mem_of_getLast? hz;obtain⟨hz8,_⟩:=pz8.pr z hzm;obtain⟨r,hr,er⟩:=List.mem_map.mp (okz.un z.2 (List.mem_map.mpr ⟨z,hzm,rfl⟩)).1;have hzr:(z.2,r.2)∈rows:=by rw[<- er];exact hr
      refine⟨_,rfl,_,rfl,_,rfl,_,rfl,.inl ⟨M,_,-1,_,rfl,rfl,SqL.of pz8.at_,q7n (by rw[List.getLast?_map,hz];rfl),?_⟩⟩;refine⟨_,rfl,_,rfl,a,b,m,z.1,t,bl,rows,z.2,r.2,ks,rfl,I8.fd.feed,I8.m,hl,hrl,hz8,hzr,I8.tk,hta,by have:=I8.kl;lia,fun H9 fd9=>?_,fun e9 q kb H9 H10 fd9 hno pk okq dq orq s10 he=>?_⟩
      ·exact⟨_,ks,rfl,(I8.go fd9 hta).up,pz8.fd I8.fd.feed fd9 hMa,.inl rfl⟩
      ·have I9:=I8.go fd9 hta;have pz9:=pz8.fd I8.fd.feed fd9 hMa;have I10:=(I9.take F htH (by lia) pk).same s10;have nt:∀{c:Addr} {u:HO},H9 c=some u->(∀f,u≠.ext f)->upd H9 t (PdO P w t (ks++[(keyO bl q,kb)])) c=some u:=fun{c u} e n=>by
        rw[q0c (fun z=>by rw[z,I9.tk.at_] at e;cases e;exact n _ rfl)];exact e
       have pz10:PL H10 M zf:=⟨s10 _ _ (nt pz9.at_ (fun _ z=>by cases z)),fun x hx=>⟨s10 _ _ (nt (pz9.pr x hx).1 (fun _ z=>by cases z)),(pz9.pr x hx).2⟩⟩
       refine⟨_,_,rfl,I10,pz10,.inr ⟨e9,q,rfl,he,hne,okq,q7h,.inr ⟨fun p hp e2=>?_,dq,fun one h1=>?_⟩⟩⟩
       ·have h3:=I8.cv p hp;rw[q5s (q9g hl I8.gw hp).ne okq.ne e2] at h3;rw[h3] at hno;cases hno
       ·rw[List.getLast?_map,hz] at h1;cases h1;exact⟨r.2,hzr,orq⟩
     ·have hzm:z∈zf:=List.mem_of_mem_head? hz;refine⟨z.1,z.2,e2,(pz8.pr z hzm).1,fun y=>by(rw[y] at hz;cases hz),(pz8.pr z hzm).2,org z hzm,.inl ?_⟩;rw[List.head?_map,hz];rfl
    ·refine⟨_,rfl,by show 0<=sizeLine;decide,fun E1 hE1=>?_⟩;have sE:=(Same.refl H7).new (o:=.lst []) hE1;have pzE:=pz7.same sE;refine z1b pzE.at_ (fun z hz=>(pzE.pr z hz).1) q0b (fun z hz=>(pz7.pr z hz).2.low) ⟨_,rfl,iteB (fun e=>?_) (fun e=>⟨I7.same sE,pzE,(fun z=>by cases z)⟩)⟩;have hne:zf≠[]:=by simpa using e
     exact⟨_,rfl,_,_,rfl,rfl,_,rfl,I7.same sE,pzE,fun _=>hne⟩
   clear I7 pz7 hv13 org v13 ks;rintro σ' H7 ⟨v13,ks,rfl,I7,pz7,hv13⟩;have hi1:i+1<=(1+r0).toNat:=hi;rcases hv13 with rfl|⟨e,q,rfl,he,hne,lo⟩
   ·exact⟨_,rfl,_,rfl,iteF ⟨ps,ks,_,_,_,_,_,_,_,_,_,_,rfl,I7,hi1⟩⟩
   refine⟨_,rfl,_,rfl,iteT ?_⟩;have zpos:=List.length_pos_iff.mpr hne;refine .inr ⟨_,rfl,_,rfl,_,rfl,.inr (.inl ⟨M,_,rfl,SqL.of pz7.at_,fun L5 hL5=>?_⟩)⟩;have ec:cutV (zf.map fun z=>V.ref z.1) (some 1) none=(zf.drop 1).map fun z=>V.ref z.1:=by
    rw[q9e (by decide) (by rw[List.length_map];lia),List.map_drop];rfl
   rw[ec];have s8:=(Same.refl H7).new (o:=.lst ((zf.drop 1).map fun z=>V.ref z.1)) hL5;have h58:upd H7 L5 (.lst ((zf.drop 1).map fun z=>V.ref z.1)) L5=some (.lst ((zf.drop 1).map fun z=>V.ref z.1)):=q0b;generalize upd H7 L5 (.lst ((zf.drop 1).map fun z=>V.ref z.1))=H8 at s8 h58;refine⟨_,rfl,by show 1<=sizeLine;decide,fun L6 hL6=>?_⟩;have s9:=(Same.refl H8).new (o:=.lst [.ref e]) hL6;have h69:upd H8 L6 (.lst [.ref e]) L6=some (.lst [.ref e]):=q0b;generalize upd H8 L6 (.lst [.ref e])=H9 at s9 h69;refine .inr (.inr ⟨L5,L6,_,_,rfl,rfl,s9 _ _ h58,h69,small (by rw[List.length_map,List.length_drop];show _+1<=_;lia),fun L7 hL7=>?_⟩);have epl:((zf.drop 1).map fun z=>V.ref z.1)++[.ref e]=(zf.drop 1++[(e,q)]).map fun z=>V.ref z.1:=by rw[List.map_append];rfl
   rw[epl];have s10':=(Same.refl H9).new (o:=.lst ((zf.drop 1++[(e,q)]).map fun z=>V.ref z.1)) hL7;have h710:upd H9 L7 (.lst ((zf.drop 1++[(e,q)]).map fun z=>V.ref z.1)) L7=some (.lst ((zf.drop 1++[(e,q)]).map fun z=>V.ref z.1)):=q0b;have s10:=(s8.trans s9).trans s10';have hL7a:L7≠a:=((I7.same (s8.trans s9)).fd.feed.na hL7).symm;generalize upd H9 L7 (.lst ((zf.drop 1++[(e,q)]).map fun z=>V.ref z.1))=H10 at s10' h710 s10;have I10:=I7.same s10;have pz10:=pz7.same s10;have Z0:ZI P w H a b m W t M L7 bl rows zf (zf.drop 1++[(e,q)]) ps ks 0 H10 []:=⟨I10.fd,I10.m,by rw[List.append_nil];exact I10.wd,I10.tk,pz10,h710,fun x hx=>by
    rcases List.mem_append.mp hx with hx|hx
    ·exact pz10.pr x (List.mem_of_mem_drop hx)
    ·rw[List.mem_singleton.mp hx];exact⟨s10 _ _ he,lo.ok⟩,rfl,rfl,(fun _ h=>nomatch h)⟩
   have plen:(zf.drop 1++[(e,q)]).length=zf.length:=by rw[List.length_append,List.length_drop];show _+1=_;lia
   generalize hpls:zf.drop 1++[(e,q)]=pls at Z0 plen h710;refine⟨M,L7,_,_,rfl,SqL.of pz10.at_,SqL.of h710,z5z (xs:=zf.map fun z=>V.ref z.1) (ys:=pls.map fun z=>V.ref z.1) (fun j σ' H'=>∃nw x14 x15 x16,σ'=[some (.ref a),some (.ref L),some (.bl bl),some (.int n),some (.ref m),some (.ref W),some (.ref t),x7,some (.int (0+(i:Int))),some (.ref Dc),some (.ref M),x11,some (.int wy),some (.ref e),x14,x15,x16]/\ZI P w H a b m W t M L7 bl rows zf pls ps ks j H' nw) ⟨[],_,_,_,rfl,Z0⟩ (fun j σ' H' x=>by obtain⟨_,_,_,_,_,Z⟩:=x;exact⟨SqL.of Z.pz.at_,SqL.of Z.l7⟩) ?_ ?_⟩
   ·rintro j v v' T' σ' H11 hv hv' ⟨nw,x14,x15,x16,rfl,Z⟩ hT;obtain⟨z,hz,rfl⟩:∃z,zf[j]?=some z/\v=.ref z.1:=by
     rw[List.getElem?_map] at hv;cases e:zf[j]? with
     |none=>rw[e] at hv;cases hv
     |some x=>rw[e] at hv;cases hv;exact⟨x,rfl,rfl⟩
    obtain⟨y,hy,rfl⟩:∃y,pls[j]?=some y/\v'=.ref y.1:=by
     rw[List.getElem?_map] at hv';cases e:pls[j]? with
     |none=>rw[e] at hv';cases hv'
     |some x=>rw[e] at hv';cases hv';exact⟨x,rfl,rfl⟩
    have sT:=(Same.refl H11).new (o:=.tup [.ref z.1,.ref y.1]) hT;refine⟨T',_,rfl,SqT.of q0b,rfl,_,_,rfl,_,_,rfl,rfl,?_⟩;have Z1:=Z.same sT;generalize upd H11 T' (.tup [.ref z.1,.ref y.1])=H12 at Z1;clear Z sT;obtain⟨hyt,oky⟩:=Z1.pp y (List.mem_of_getElem? hy);refine⟨_,rfl,_,rfl,.inr (.inl ⟨y.1,_,-1,_,rfl,rfl,SqT.of hyt,q3a oky.ne,?_⟩)⟩;have okl:=q4c oky;refine⟨fun σ' H'=>∃nm,σ'=[some (.ref a),some (.ref L),some (.bl bl),some (.int n),some (.ref m),some (.ref W),some (.ref t),x7,some (.int (0+(i:Int))),some (.ref Dc),some (.ref M),x11,some (.int wy),some (.ref e),some (.ref z.1),some (.ref y.1),some (.str (mk nm))]/\ZI P w H a b m W t M L7 bl rows zf pls ps ks j H' nw/\okN nm/\(if bl then lowN nm=lowN (y.2.getLastD []) else nm=y.2.getLastD []),?_,?_⟩;rotate_left
    ·refine⟨_,rfl,bl,rfl,?_⟩;cases bl with
     |false=>exact iteF ⟨_,rfl,Z1,okl,rfl⟩
     |true =>
      refine iteT ⟨_,rfl,_,rfl,a,b,_,rfl,Z1.fd.feed,okl,fun n' H13 okn elo fd13=>?_⟩;exact⟨n',rfl,Z1.go fd13 hta hMa hL7a,okn,elo⟩
    rintro σ' H13 ⟨nm,rfl,Z2,okn,hnm⟩;have hyt2:=(Z2.pp y (List.mem_of_getElem? hy)).1;obtain⟨c1,c2⟩:=q1g oky.ne;refine⟨_,rfl,_,rfl,_,rfl,.inr (.inr ⟨y.1,_,rfl,SqT.of hyt2,c2,fun t1 ht1=>?_⟩)⟩;rw[c1];have sA:=(Same.refl H13).new (o:=.tup (vP y.2.dropLast)) ht1;have htA:upd H13 t1 (.tup (vP y.2.dropLast)) t1=some (.tup (vP y.2.dropLast)):=q0b;generalize upd H13 t1 (.tup (vP y.2.dropLast))=HA at sA htA;refine⟨_,rfl,by show 1<=sizeLine;decide,fun t2 ht2=>?_⟩;have sB:=(Same.refl HA).new (o:=.tup [.str (mk nm)]) ht2;have y6:y.2.length<=6:=oky.few;refine⟨t1,t2,_,_,rfl,rfl,sB _ _ htA,q0b,by rw[q3k,List.length_dropLast];exact small (by show _+1<=_;lia),fun e2 HC sC he2 _=>?_⟩;have he2':HC e2=some (.tup (vP (y.2.dropLast++[nm]))):=by rw[he2];show _=some (HO.tup ((y.2.dropLast++[nm]).map _));rw[List.map_append];rfl
    have ZC:=Z2.same ((sA.trans sB).trans sC);have okp:okP (y.2.dropLast++[nm]):=by
     refine⟨by simp,by rw[List.length_append,List.length_dropLast];show _+1<=6;have:=List.length_pos_iff.mpr oky.ne;lia,fun x hx=>?_⟩;rcases List.mem_append.mp hx with hx|hx
     ·exact oky.all x (List.dropLast_subset _ hx)
     ·rw[List.mem_singleton.mp hx];exact okn
    have hz3:=(ZC.pz.pr z (List.mem_of_getElem? hz)).1;have hno:∀r∈((ps++nw).map fun x=>((x.2.1,.ref x.1):HRow)),r.1≠z.2:=fun r hr e3=>by
     obtain⟨x,hx,rfl⟩:=List.mem_map.mp hr;rcases List.mem_append.mp hx with hx|hx
     ·refine(okz.un z.2 (List.mem_map.mpr ⟨z,List.mem_of_getElem? hz,rfl⟩)).2 ?_;rw[List.map_map];exact List.mem_map.mpr ⟨x,hx,e3⟩
     ·have h1:z.2∈(zf.map (·.2)).take j:=by rw[<- ZC.ky];exact List.mem_map.mpr ⟨x,hx,e3⟩
      obtain⟨j2,hj2⟩:=List.mem_iff_getElem?.mp h1;have hlt:j2<j:=by have:=(List.getElem?_eq_some_iff.mp hj2).1;rw[List.length_take] at this;lia
      rw[List.getElem?_take,if_pos hlt] at hj2;have h3:(zf.map (·.2))[j]?=some z.2:=by rw[List.getElem?_map,hz];rfl
      have:=(List.getElem?_inj (List.getElem?_eq_some_iff.mp hj2).1 okz.nd).mp (hj2.trans h3.symm);lia
    have nwl:(ps++nw).length<=60:=by
     have e1:=congrArg List.length ZC.ky;have e2:=I7.gw.len;rw[List.length_map] at e2;rw[List.length_map,List.length_take,List.length_map] at e1;rw[List.length_append];lia
    refine⟨_,rfl,_,rfl,W,_,rfl,DPut.t (k:=kP z.2) ZC.wd.at_ (by rw[q1u];exact hz3) (by rw[List.length_map,List.length_map];exact small' (by lia)),?_⟩;rw[q2p (p:=z.2) (v:=.ref e2) hno];have hg:(y.2.dropLast++[nm]).getLastD []=nm:=List.getLastD_concat;refine⟨_,_,_,_,rfl,ZC.put (one:=z.2) F hWH hmW hz hy he2' okp (by rw[List.dropLast_concat]) ?_⟩;refine(q7c okp.ne oky.ne).mpr ⟨by rw[List.dropLast_concat],?_⟩;rw[hg];exact hnm
   ·rintro σ' H11 ⟨nw,x14,x15,x16,rfl,Z⟩;have emin:min (zf.map fun z=>V.ref z.1).length (pls.map fun z=>V.ref z.1).length=zf.length:=by rw[List.length_map,List.length_map,plen,Nat.min_self]
    rw[emin] at Z;have eky:nw.map (·.2.1)=zf.map (·.2):=by have:=Z.ky;rw[<- List.length_map (f:=fun z:Addr×Pth=>z.2),List.take_length] at this;exact this
    have epl2:pls.map (·.2)=(zf.map (·.2)).tail++[q]:=by
     rw[<- hpls,List.map_append,List.map_drop,List.drop_one];rfl
    have evl:nw.map (fun y=>(y.2.2.dropLast,fold bl y.2.2))=((zf.map (·.2)).tail++[q]).map (fun p=>(p.dropLast,fold bl p)):=by
     have:=Z.vl;rw[<- plen,<- List.length_map (f:=fun z:Addr×Pth=>z.2),List.take_length,epl2] at this;exact this
    have inrow:∀p∈zf.map (·.2),IsD rows p.dropLast:=fun p hp=>by
     obtain⟨r,hr,e2⟩:=List.mem_map.mp (okz.un p hp).1;rw[<- e2];exact hl.dr r hr
    have pair:∀p∈zf.map (·.2),∀one∈zf.map (·.2),∃k,(one,k)∈rows/\(p.dropLast=one.dropLast\/k≠none):=fun p hp one ho=>by
     rcases okz.go with h|⟨d,h⟩
     ·obtain⟨k,hk,hn⟩:=h one ho;exact⟨k,hk,.inr hn⟩
     ·obtain⟨r,hr,e2⟩:=List.mem_map.mp (okz.un one ho).1;exact⟨r.2,by rw[<- e2];exact hr,.inl (by rw[h p hp,h one ho])⟩
    have T1:Turn1 bl rows (ps.map (·.2)) (nw.map (·.2)) (zf.map (·.2)) q:=by
     refine⟨fun z=>hne (List.map_eq_nil_iff.mp z),okz.nd,okz.un,by rw[List.map_map];exact eky,by rw[List.map_map];exact evl,fun m hm=>?_,fun i2 one q2 h1 h2=>?_⟩
     ·obtain⟨y,hy,rfl⟩:=List.mem_map.mp hm;exact Z.ok y hy
     ·have ho:=List.mem_of_getElem? h1;have hfree:q2∈zf.map (·.2)->IsD rows q2.dropLast/\∃k,(one,k)∈rows/\(q2.dropLast=one.dropLast\/k≠none):=fun hq2=>⟨inrow q2 hq2,pair q2 hq2 one ho⟩
      by_cases hlt:i2<(zf.map (·.2)).tail.length
      ·rw[List.getElem?_append_left hlt] at h2;exact hfree (List.mem_of_mem_tail (List.mem_of_getElem? h2))
      ·have e3:i2=(zf.map (·.2)).tail.length:=by
        have:=(List.getElem?_eq_some_iff.mp h2).1;rw[List.length_append] at this;have e4:i2<(zf.map (·.2)).tail.length+1:=this;lia
       rw[e3,List.getElem?_append_right (Nat.le_refl _),Nat.sub_self] at h2;cases h2;rcases lo.or with h|⟨_,hd,hf⟩
       ·exact hfree (List.mem_of_mem_head? h)
       ·refine⟨hd,hf one ?_⟩;rw[List.getLast?_eq_getElem?,<- h1,e3,List.length_tail]
    have em:(ps++nw).map (·.2)=ps.map (·.2)++nw.map (·.2):=List.map_append;refine⟨ps++nw,ks,_,_,_,_,_,_,_,_,_,_,rfl,⟨Z.fd,Z.m,Z.wd,Z.tk,I7.kl,by rw[em];exact T1.good I7.gw,?_,I7.og,?_⟩,hi1⟩
    ·rw[em];rcases lo.or with h|⟨h,_⟩
     ·exact T1.ring hl.paths I7.ap h
     ·exact T1.chain hl.paths I7.ap h
    ·rw[em];exact T1.cov hl I7.gw (fun h=>h) I7.og I7.cv lo.ok.ne lo.kq
  ·rintro σ' H7 ⟨ps,ks,x7,x8,x9,x10,x11,x12,x13,x14,x15,x16,rfl,I,_⟩;exact⟨_,rfl,k W ps H7 I.fd hWH I.wd I.gw I.ap⟩
end
end K
set_option maxHeartbeats 4000000
namespace K
open PySem L2 TX SB HM
section
variable{P:Program}{w:World}{K:W.Frag}{mg:Str->Option Value}{base:Heap}
def okMs(ms:List Mv):Prop:=∀m∈ms,okP m.1/\okP m.2
theorem ne_dt{H:Hp}{x y:V}{d:PyData}{Q:VK}(hx:Dt K H x d)(hy:Dt K H y d)(l:d.canLay0=true)(dp:d.depth<=100)(k:Q (.bl false) H):rNeU K x y H Q:=by
 refine .inr ⟨_,_,hx,hy,l,l,by rw[Nat.min_self];exact dp,?_⟩;rw[SeqAt.eqv_refl _ l];exact k
def dM(m:Mv):PyData:=.tuple [.tuple (dP m.1),.tuple (dP m.2)]
theorem dt_M{H:Hp}{T:Addr}{m:Mv}(h:MT H T m):Dt K H (.ref T) (dM m):=by
 obtain⟨A,B,h1,h2,h3⟩:=h;exact .tup (SqT.of h1) (.cons (q1m h2) (.cons (q1m h3) .nil))
theorem lay_M{m:Mv}(h:okP m.1/\okP m.2):(dM m).canLay0=true:=by
 unfold dM;simp only[PyData.canLay0,PyData.canLayAll0,q5j h.1.low,q5j h.2.low,Bool.and_self]
def GM(H:Hp)(T:Addr)(m:Mv):Prop:=MT H T m/\okP m.1/\okP m.2
theorem gg_M:GG K GM:=⟨fun h k=>⟨h.1.keep k,h.2⟩,fun h=>⟨_,dt_M h.1,lay_M h.2⟩⟩
structure CallsIO (P:Program) (w:World) (K:W.Frag) (mg:Str->Option Value) (base:Heap):Prop where
 some_of:Cal P w K mg base "_law_some_of" 2 ["_law_feed", "_law_things", "_law_many"] (spSome K)
def spInOrder:Sp:=fun vs H Q _=>∃a b W ps,vs=[.ref a,.ref W]/\FeedAt H a b/\PDt H W ps/\((ps.map (·.2)).map (·.1)).Nodup/\okMs (ps.map (·.2))/\ps.length<=60/\∀M zs H',Fd a b H H'->H M=none->ML H' M zs->(zs.map (·.2)).Perm (ps.map (·.2))->Q (.ref M) H'
abbrev q3p:Stmt:=top 34
theorem z0f:FnScope ["_law_feed", "_law_wishes"] ["_law_feed", "_law_wishes"] (defScope q3p):=⟨rfl,rfl,rfl,by decide +kernel,rfl,by decide +kernel,by decide +kernel⟩
theorem z0g(D:Df K mg "_law_in_order" q3p ["_law_feed", "_law_wishes"])(T:Txt mg)(C:CallsIO P w K mg base):Cal P w K mg base "_law_in_order" 3 ["_law_feed", "_law_wishes"] spInOrder:=by
 refine D.cal z0f (fun vs H Q E h=>?_) (fun f cdv A outer s H vs Q E hr h=>?_)
 ·obtain⟨a,b,W,ps,rfl,_⟩:=h;rfl
 ·obtain⟨a,b,W,ps,rfl,F,pd,nd,okm,h60,k⟩:=h;refine⟨_,(q0f (q0m (pe_c C.some_of hr (q0a (pv 0) (q0a (q2d ["_law_path"] [("_law_wishes",1)] rfl (@q3n _ _ _ _ K rfl (q0l (q2m hr) (by rfl) T.b_sorted (by decide +kernel) (q0a (pv 1) q0d))) (fun _ _ _ _ _=>(q0i (i:=0) (show(["_law_path", "_law_wishes"]:List Str).Nodup by decide +kernel) rfl (by first|exact Or.inl rfl|exact Or.inr rfl))) (fun _ _ _ _ _=>q4a) (fun _ _ _ _ _=>(q1f (q0a (pv 0) (q0a (q0y (q1h hr) (pv 1) (pv 0) (fun _ _=>rfl)) q0d))))) (q0a (q0l z4n (by rfl) T.b_len PySem.boot_len (q0a (pv 1) q0d)) q0d)))))),?_⟩;have hks:(ps.map fun x=>((x.2.1,.ref x.1):HRow)).map (·.1)=(ps.map (·.2)).map (·.1):=by rw[List.map_map,List.map_map];rfl
  refine⟨_,rfl,_,rfl,W,_,rfl,pd.at_,by rw[List.length_map];lia,fun r hr=>?_,fun L2 bs qs hL2 hp2 hs2 pts=>?_⟩
  ·obtain⟨x,hx,rfl⟩:=List.mem_map.mp hr;exact(okm x.2 (List.mem_map.mpr ⟨x,hx,rfl⟩)).1.ne
  rw[hks] at hp2;have s2:=(Same.refl H).new (o:=.lst (bs.map V.ref)) hL2;have hLL:upd H L2 (.lst (bs.map V.ref)) L2=some (.lst (bs.map V.ref)):=q0b;generalize upd H L2 (.lst (bs.map V.ref))=H2 at s2 hLL;have hbl:bs.length=qs.length:=Paired.length pts;have hql:qs.length=ps.length:=by have:=hp2.length_eq;rw[List.length_map,List.length_map] at this;exact this
  refine .inl ⟨L2,rfl,⟨_,SqL.of hLL⟩,fun Dc hDc=>?_⟩;refine q6c (xs:=bs.map V.ref) (fun i ys H3=>∃ws:List (Addr×Mv),ys=ws.map (fun z=>V.ref z.1)/\ws.map (·.2.1)=qs.take i/\(∀x∈ws,GM H3 x.1 x.2/\x.2∈ps.map (·.2))/\Same H2 H3/\H3 Dc=some (.lst ys)/\i<=qs.length)
   ⟨[],rfl,rfl,(fun _ h=>nomatch h),(Same.refl H2).new hDc,q0b,Nat.zero_le _⟩ (fun i ys H3 ⟨ws,_,_,_,s3,h3,_⟩=>⟨h3,SqL.of (s3 _ _ hLL)⟩) ?_ ?_
  ·rintro i ys H3 v hv ⟨ws,rfl,hw1,hw2,s3,h3,hile⟩;obtain⟨b',hb,rfl⟩:∃b,bs[i]?=some b/\v=.ref b:=by
    rw[List.getElem?_map] at hv;cases e:bs[i]? with
    |none=>rw[e] at hv;cases hv
    |some z=>rw[e] at hv;cases hv;exact⟨z,rfl,rfl⟩
   obtain⟨p,hp3,hbp⟩:=Paired.at' pts hb;have hi':i<qs.length:=(List.getElem?_eq_some_iff.mp hp3).1;have hb3:=s3 _ _ (s2 _ _ hbp);have hpin:p∈(ps.map (·.2)).map (·.1):=hp2.mem_iff.mp (List.mem_of_getElem? hp3);rcases(pd.same (s2.trans s3)).get nd hb3 with⟨hn,_⟩|⟨y,hy,ey,dg,_⟩
   ·exact absurd hpin hn
   have hyt:=(pd.same (s2.trans s3)).pr y hy;have hym:y.2∈ps.map (·.2):=List.mem_map.mpr ⟨y,hy,rfl⟩;refine⟨_,rfl,_,rfl,_,rfl,W,_,rfl,dg,by show 2<=sizeLine;decide,fun Tn hTn=>?_⟩;have sT:=(Same.refl H3).new (o:=.tup [.ref b',.ref y.1]) hTn;have hwl:ws.length=i:=by rw[<- List.length_map (f:=fun z:Addr×Mv=>z.2.1),hw1,List.length_take];lia
   have hDT:Dc≠Tn:=fun z=>by rw[z,hTn] at h3;cases h3
   have tk:∀S xs,upd H3 Tn (.tup [.ref b',.ref y.1]) S=some (.tup xs)->upd (upd H3 Tn (.tup [.ref b',.ref y.1])) Dc (.lst (ws.map (fun z=>V.ref z.1)++[.ref Tn])) S=some (.tup xs):=fun S xs e=>by
    rw[q0c (fun z=>by rw[z,q0c hDT,h3] at e;cases e)];exact e
   refine⟨by rw[q0c hDT];exact h3,small' (by rw[List.length_map];lia),ws++[(Tn,y.2)],by rw[List.map_append];rfl,?_,fun x hx=>?_,(s3.trans sT).put hDc,q0b,hi'⟩
   ·rw[List.map_append,hw1,List.take_add_one,hp3,<- ey];rfl
   ·rcases List.mem_append.mp hx with hx|hx
    ·exact⟨gg_M (K:=K).keep (gg_M (K:=K).keep (hw2 x hx).1 fun S xs e=>sT _ _ e) tk,(hw2 x hx).2⟩
    ·rw[List.mem_singleton.mp hx];exact⟨⟨⟨b',y.1,tk _ _ q0b,tk _ _ (sT _ _ (by rw[ey];exact hb3)),tk _ _ (sT _ _ hyt)⟩,okm _ hym⟩,hym⟩
  ·rintro ys H3 ⟨ws,rfl,hw1,hw2,s3,h3,_⟩;rw[List.length_map,hbl,List.take_length] at hw1;have s23:=s2.trans s3;have pd3:=pd.same s23;have wl:ws.length=ps.length:=by rw[<- List.length_map (f:=fun z:Addr×Mv=>z.2.1),hw1,hql]
   have fd3:=(Fd.refl F).same s23;refine⟨_,rfl,W,_,rfl,pd3.at_,?_⟩;refine⟨Mv,GM,a,b,Dc,ws,_,gg_M,rfl,fd3.feed,⟨h3,fun x hx=>(hw2 x hx).1⟩,by lia,fun M zf zr H4 fd4 hM gl pm hor=>?_⟩;have hzr:zr=[]:=by
    rcases hor with h|h
    ·have e:=pm.length_eq;rw[List.length_append] at e;rw[List.length_map,List.length_map] at h;exact List.length_eq_zero_iff.mp (by lia)
    ·exact h
   subst hzr;rw[List.nil_append] at pm;refine k M zf H4 (fd3.trans fd4) (s23.free hM) ⟨gl.at_,fun z hz=>(gl.pr z hz).1⟩ ((pm.map _).trans ?_);have wk:(ws.map (·.2)).map (·.1)=qs:=by rw[List.map_map];exact hw1
   have wnd:((ws.map (·.2)).map (·.1)).Nodup:=by rw[wk];exact hp2.nodup_iff.mpr nd
   refine(List.perm_ext_iff_of_nodup (q2f wnd) (q2f nd)).mpr fun x=>⟨fun hx=>?_,fun hx=>?_⟩
   ·obtain⟨y,hy,rfl⟩:=List.mem_map.mp hx;exact(hw2 y hy).2
   ·have h1:x.1∈(ws.map (·.2)).map (·.1):=by rw[wk];exact hp2.mem_iff.mpr (List.mem_map.mpr ⟨x,hx,rfl⟩)
    obtain⟨y,hy,e⟩:=List.mem_map.mp h1;obtain⟨z,hz,rfl⟩:=List.mem_map.mp hy;rw[<- q0w nd (hw2 z hz).2 hx e];exact hy
end
end K
set_option maxHeartbeats 4000000
namespace K
open PySem L2 TX SB HM
section
variable{P:Program}{w:World}{K:W.Frag}{mg:Str->Option Value}{base:Heap}
structure Fol (ps:List Pth) (g:Pth->Option Pth):Prop where
 inj:∀{p q x},g p=some x->g q=some x->p=q
 to:∀{p x},g p=some x->x∈ps
 dom:∀{p x},g p=some x->p∈ps
structure Trk (g:Pth->Option Pth) (p:Pth) (xs:List Pth):Prop where
 hd:xs[0]?=some p
 st:∀{i x y},xs[i]?=some x->xs[i+1]?=some y->g x=some y
 nd:xs.Nodup
structure Orb (g:Pth->Option Pth) (p:Pth) (xs:List Pth):Prop extends Trk g p xs where
 fin:∀{x},xs.getLast?=some x->g x=none\/g x=some p
section
variable{ps:List Pth}{g:Pth->Option Pth}{p x y:Pth}{xs ys:List Pth}
theorem nd_at{α:Type}{l:List α}{i j:Nat}{x:α}(nd:l.Nodup)(h1:l[i]?=some x)(h2:l[j]?=some x):i=j :=
 (List.getElem?_inj (List.getElem?_eq_some_iff.mp h1).1 nd).mp (h1.trans h2.symm)
theorem z9t{α:Type}{l:List α}{i:Nat}{x y:α}(h:l[i]?=some x)(h2:l[i+1]?=none)(h3:l.getLast?=some y):x=y:=by
 have e1:=(List.getElem?_eq_some_iff.mp h).1;have e2:=List.getElem?_eq_none_iff.mp h2;rw[List.getLast?_eq_getElem?,show l.length-1=i by lia,h] at h3;exact Option.some.inj h3
theorem z7t{α:Type}{a:α}:[a].Nodup:=List.nodup_cons.mpr ⟨by simp,.nil⟩
theorem Trk.one:Trk g p [p]:=⟨rfl,(fun{i x y} _ h=>by rw[List.getElem?_cons_succ] at h;cases h),z7t⟩
theorem Trk.in_(t:Trk g p xs)(F:Fol ps g)(hp:p∈ps):∀x∈xs,x∈ps:=fun x hx=>by
 obtain⟨i,hi⟩:=List.mem_iff_getElem?.mp hx;cases i with
 |zero=>rw[t.hd] at hi;cases hi;exact hp
 |succ i =>
  have hlt:=(List.getElem?_eq_some_iff.mp hi).1;exact F.to (t.st (List.getElem?_eq_getElem (show i<xs.length by lia)) hi)
theorem Trk.new(t:Trk g p xs)(F:Fol ps g)(hl:xs.getLast?=some x)(h:g x=some y)(n:y≠p):y∉xs:=fun hy=>by
 obtain⟨i,hi⟩:=List.mem_iff_getElem?.mp hy;cases i with
 |zero=>rw[t.hd] at hi;cases hi;exact n rfl
 |succ i =>
  have hlt:=(List.getElem?_eq_some_iff.mp hi).1;have e:=F.inj (t.st (List.getElem?_eq_getElem (show i<xs.length by lia)) hi) h;rw[List.getLast?_eq_getElem?,<- e] at hl;have:=nd_at t.nd (List.getElem?_eq_getElem (show i<xs.length by lia)) hl;lia
theorem Trk.more(t:Trk g p xs)(F:Fol ps g)(hl:xs.getLast?=some x)(h:g x=some y)(n:y≠p):Trk g p (xs++[y]):=by
 have pos:0<xs.length:=(List.getElem?_eq_some_iff.mp t.hd).1;refine⟨by rw[List.getElem?_append_left pos];exact t.hd,fun{i u v} hu hv=>?_,?_⟩
 ·by_cases hi:i+1<xs.length
  ·rw[List.getElem?_append_left (by lia)] at hu;rw[List.getElem?_append_left hi] at hv;exact t.st hu hv
  ·have h1:=(List.getElem?_eq_some_iff.mp hv).1;rw[List.length_append] at h1;have e:i+1=xs.length:=by
    have:[y].length=1:=rfl;lia
   rw[List.getElem?_append_left (by lia)] at hu;rw[List.getElem?_append_right (by lia),e,Nat.sub_self] at hv;cases hv;rw[List.getLast?_eq_getElem?,show xs.length-1=i by lia,hu] at hl;cases hl;exact h
 ·exact List.nodup_append.mpr ⟨t.nd,z7t,fun a ha b hb z=>by rw[List.mem_singleton.mp hb] at z;subst z;exact t.new F hl h n ha⟩
theorem z2m{α:Type}[DecidableEq α]:∀{l m:List α},l.Nodup->(∀x∈l,x∈m)->l.length<=m.length
 |[],_,_,_=>Nat.zero_le _
 |a::l,m,nd,h=>by
  obtain⟨n1,n2⟩:=List.nodup_cons.mp nd;have hm:=h a List.mem_cons_self;have ih:=z2m (m:=m.erase a) n2 fun x hx=>(List.mem_erase_of_ne (fun z:x=a=>n1 (by rw[<- z];exact hx))).mpr (h x (List.mem_cons_of_mem _ hx))
  rw[List.length_erase_of_mem hm] at ih;have:=List.length_pos_of_mem hm;rw[List.length_cons];lia
theorem Trk.len(t:Trk g p xs)(F:Fol ps g)(hp:p∈ps):xs.length<=ps.length:=z2m t.nd (t.in_ F hp)
theorem Orb.step(a:Orb g p xs)(b:Orb g p ys){i:Nat}(h:xs[i]?=ys[i]?):ys[i+1]?=none->xs[i+1]?=none:=fun e2=>by
 cases e:xs[i+1]? with
 |none=>rfl
 |some y =>
  have hlt:=(List.getElem?_eq_some_iff.mp e).1;have hx:=List.getElem?_eq_getElem (show i<xs.length by lia);have gx:=a.st hx e;rw[h] at hx;have ey:=z9t hx e2 (List.getLast?_eq_some_getLast (fun z=>by rw[z] at hx;cases hx));rcases b.fin (List.getLast?_eq_some_getLast (fun z=>by rw[z] at hx;cases hx)) with f|f
  ·rw[<- ey,gx] at f;cases f
  ·rw[<- ey,gx] at f;cases f;have:=nd_at a.nd e a.hd;lia
theorem Orb.uniq(a:Orb g p xs)(b:Orb g p ys):xs=ys:=by
 refine List.ext_getElem? fun i=>?_;induction i with
 |zero=>rw[a.hd,b.hd]
 |succ i ih =>
  cases e:xs[i+1]? with
  |none=>exact(b.step a ih.symm e).symm
  |some u =>
   cases e2:ys[i+1]? with
   |none=>rw[a.step b ih e2] at e;cases e
   |some v =>
    have hlt:=(List.getElem?_eq_some_iff.mp e).1;have hx:=List.getElem?_eq_getElem (show i<xs.length by lia);have h1:=a.st hx e;rw[ih] at hx;have h2:=b.st hx e2;rw[h1] at h2;exact h2
theorem Orb.ex(F:Fol ps g)(hp:p∈ps):∀(k:Nat) {xs:List Pth},ps.length-xs.length=k->Trk g p xs->∃t,Orb g p (xs++t)
 |k,xs,hk,t=>by
  have pos:0<xs.length:=(List.getElem?_eq_some_iff.mp t.hd).1;have hl:=List.getLast?_eq_some_getLast (List.length_pos_iff.mp pos);cases e:g (xs.getLast (List.length_pos_iff.mp pos)) with
  |none=>exact⟨[],by rw[List.append_nil];exact⟨t,fun{x} hx=>by rw[hl] at hx;cases hx;exact .inl e⟩⟩
  |some y =>
   by_cases n:y=p
   ·exact⟨[],by rw[List.append_nil];exact⟨t,fun{x} hx=>by rw[hl] at hx;cases hx;rw[e,n];exact .inr rfl⟩⟩
   ·have t2:=t.more F hl e n;have l2:=t2.len F hp;rw[List.length_append] at l2;have l3:xs.length+1<=ps.length:=l2;cases k with
    |zero=>lia
    |succ k =>
     obtain⟨u,h⟩:=Orb.ex F hp k (by rw[List.length_append];show ps.length-(xs.length+1)=k;lia) t2;exact⟨y::u,by rw[List.append_assoc] at h;exact h⟩
def IsRing(g:Pth->Option Pth)(p:Pth):Prop:=∃xs x,Orb g p xs/\xs.getLast?=some x/\g x=some p
theorem Trk.ring(t:Trk g p xs)(hl:xs.getLast?=some x)(h:g x=some p):IsRing g p:=⟨xs,x,⟨t,fun{z} hz=>by rw[hl] at hz;cases hz;exact .inr h⟩,hl,h⟩
theorem IsRing.pred(F:Fol ps g)(r:IsRing g p)(h:g y=some p):IsRing g y:=by
 obtain⟨xs,x,o,hl,hx⟩:=r;obtain rfl:=F.inj h hx;obtain⟨zs,rfl⟩:∃zs,xs=zs++[y]:=List.getLast?_eq_some_iff.mp hl;cases zs with
 |nil =>
  have e:y=p:=Option.some.inj o.hd;subst e;exact o.toTrk.ring hl hx
 |cons z zs =>
  have e:z=p:=Option.some.inj o.hd;subst e;have pr:=List.perm_append_comm (l₁:=z::zs) (l₂:=[y]);have nd2:(y::z::zs).Nodup:=pr.nodup_iff.mp o.nd;refine Trk.ring (xs:=y::z::zs) (x:=(z::zs).getLast (by simp)) ⟨rfl,fun{i u v} hu hv=>?_,nd2⟩ (by rw[List.getLast?_cons,List.getLast?_eq_some_getLast (by simp)];rfl) ?_
  ·cases i with
   |zero=>cases hu;cases hv;exact h
   |succ i =>
    rw[List.getElem?_cons_succ] at hu hv;have h1:=(List.getElem?_eq_some_iff.mp hv).1;exact o.st (i:=i) (by rw[List.getElem?_append_left (by lia)];exact hu) (by rw[List.getElem?_append_left h1];exact hv)
  ·refine o.st (i:=zs.length) ?_ ?_
   ·rw[List.getElem?_append_left (by simp),<- List.getLast?_eq_some_getLast (by simp),List.getLast?_eq_getElem?];rfl
   ·rw[List.getElem?_append_right (by simp)];simp
theorem IsRing.apart(F:Fol ps g){s:Pth}(hs:∀q,g q≠some s)(t:Trk g s ys):∀{i:Nat} {p:Pth},ys[i]?=some p->¬IsRing g p
 |0,p,h,r=>by
  rw[t.hd] at h;cases h;obtain⟨_,x,_,_,hx⟩:=r;exact hs x hx
 |i+1,p,h,r=>by
  have hlt:=(List.getElem?_eq_some_iff.mp h).1;have hx:=List.getElem?_eq_getElem (show i<ys.length by lia);exact IsRing.apart F hs t hx (r.pred F (t.st hx h))
end
def nx(bl:Bool)(ps:List Pth)(f:Pth->Pth)(p:Pth):Option Pth:=if p∈ps/\f p≠p then ps.find? (fun q=>decide (fold bl q=fold bl (f p)/\q≠p)) else none
theorem q1i{bl:Bool}{rows:List Rw}(hl:Hl bl rows){f:Pth->Pth}{p q:Pth}:nx bl (rows.map (·.1)) f p=some q↔p∈rows.map (·.1)/\f p≠p/\q∈rows.map (·.1)/\fold bl q=fold bl (f p)/\q≠p:=by
 unfold nx;constructor
 ·intro h;split at h
  ·rename_i hc;have h1:=List.find?_some h;have h2:=List.mem_of_find?_eq_some h;exact⟨hc.1,hc.2,h2,(of_decide_eq_true h1).1,(of_decide_eq_true h1).2⟩
  ·cases h
 ·rintro⟨h1,h2,h3,h4,h5⟩;rw[if_pos ⟨h1,h2⟩];cases e:(rows.map (·.1)).find? (fun q=>decide (fold bl q=fold bl (f p)/\q≠p)) with
  |none=>exact absurd (decide_eq_true (show fold bl q=fold bl (f p)/\q≠p from⟨h4,h5⟩)) (by have:=List.find?_eq_none.mp e q h3;simpa using this)
  |some z =>
   have g0:=List.find?_some e;have g1:=of_decide_eq_true g0;have g2:=List.mem_of_find?_eq_some e;have nd:((rows.map (·.1)).map (fold bl)).Nodup:=by rw[List.map_map];exact hl.nd
   rw[q0w nd g2 h3 (g1.1.trans h4.symm)]
theorem z5a{bl:Bool}{rows:List Rw}(hl:Hl bl rows){f:Pth->Pth}(ap:Apart bl rows f):Fol (rows.map (·.1)) (nx bl (rows.map (·.1)) f):=by
 refine⟨fun{p q x} h1 h2=>?_,fun{p x} h=>((q1i hl).mp h).2.2.1,fun{p x} h=>((q1i hl).mp h).1⟩;obtain⟨a1,_,_,a4,_⟩:=(q1i hl).mp h1;obtain⟨b1,_,_,b4,_⟩:=(q1i hl).mp h2;have ap':((rows.map (·.1)).map fun p=>fold bl (f p)).Nodup:=ap;exact q0w ap' a1 b1 (a4.symm.trans b4)
end
end K
set_option maxHeartbeats 4000000
namespace K
open PySem L2 TX SB HM
section
variable{P:Program}{w:World}{K:W.Frag}{mg:Str->Option Value}{base:Heap}
abbrev qR(qs:List (Addr×Mv)):HO:=dR (qs.map fun x=>(x.2.1,.ref x.1))
def mvs(ms:List Mv):List Pth:=(ms.filter fun m=>decide (m.2≠m.1)).map (·.1)
theorem mvs_in{ms:List Mv}{p:Pth}:p∈mvs ms↔∃q,(p,q)∈ms/\q≠p:=by
 unfold mvs;constructor
 ·intro h;obtain⟨m,hm,rfl⟩:=List.mem_map.mp h;obtain⟨h1,h2⟩:=List.mem_filter.mp hm;exact⟨m.2,h1,of_decide_eq_true h2⟩
 ·rintro⟨q,h1,h2⟩;exact List.mem_map.mpr ⟨(p,q),List.mem_filter.mpr ⟨h1,decide_eq_true h2⟩,rfl⟩
theorem q6m{ms:List Mv}(nd:(ms.map (·.1)).Nodup):(mvs ms).Nodup:=nd.sublist (List.filter_sublist.map _)
theorem z1h{H:Hp}{D b:Addr}{ps:List (Addr×Mv)}{x:Addr×Mv}(rd:Rd H D (qR ps))(nd:((ps.map (·.2)).map (·.1)).Nodup)(hx:x∈ps)(hb:H b=some (.tup (vP x.2.1))):DGet H D (.ref b) (some (.ref x.1)):=by
 have e:=q3b (rs:=ps.map fun x=>((x.2.1,.ref x.1):HRow)) (r:=(x.2.1,.ref x.1)) (List.mem_map.mpr ⟨x,hx,rfl⟩) (by rw[List.map_map] at nd ⊢;exact nd);rw[<- e];exact .inr ⟨_,kP x.2.1,b,rd,rfl,by rw[q1u];exact hb,rfl⟩
def spMoves:Sp:=fun vs H Q _=>∃D qs,vs=[.ref D]/\PDt H D qs/\okMs (qs.map (·.2))/\((qs.map (·.2)).map (·.1)).Nodup/\qs.length<=60/\∀L zs H',H L=none->Same H H'->PL H' L zs->zs.map (·.2)=mvs (qs.map (·.2))->Q (.ref L) H'
abbrev q1j:Stmt:=top 13
theorem q3q:FnScope ["places"] ["places"] (defScope q1j):=⟨rfl,rfl,rfl,by decide +kernel,rfl,by decide +kernel,by decide +kernel⟩
theorem z6y(D:Df K mg "things_that_move" q1j ["places"])(T:Txt mg):Cal P w K mg base "things_that_move" 1 ["places"] spMoves:=by
 refine D.cal q3q (fun vs H Q E h=>?_) (fun f cdv A outer s H vs Q E hr h=>?_)
 ·obtain⟨D,qs,rfl,_⟩:=h;rfl
 ·obtain⟨D,qs,rfl,pd,okm,nd,h60,k⟩:=h;refine⟨_,(q0f (q0m (z4l H rfl (q2d ["path"] [("places",0)] rfl (@q8l _ _ _ _ K rfl (pv 0)) (fun _ _ _ _ _=>(q0i (i:=0) (show(["path", "places"]:List Str).Nodup by decide +kernel) rfl (by first|exact Or.inl rfl|exact Or.inr rfl))) (fun _ _ _ _ _=>(q2x (q0k (ne_k K rfl hr) (q0y (q1h hr) (pv 1) (pv 0) (fun _ _=>rfl)) (pv 0) (nomark _)))) (fun _ _ _ _ _=>(pv 0)))))),?_⟩;refine⟨D,(fun o v e=>by rw[pd.at_] at e;cases e),?_⟩;refine⟨_,rfl,D,_,rfl,pd.at_,fun ob=>?_⟩;intro Dc hDc;have hDD:Dc≠D:=fun z=>by rw[z,q0b] at hDc;cases hDc
  have hDcH:H Dc=none:=by rw[q0c hDD] at hDc;exact hDc
  have kv0:((qs.map fun x=>((x.2.1,.ref x.1):HRow)).map fun r=>(kP r.1,r.2)).length=qs.length:=by rw[List.length_map,List.length_map]
  refine q5a (n:=qs.length) (fun j ys H'=>∃zs:List Zp,ys=zs.map (fun z=>V.ref z.1)/\zs.map (·.2)=mvs ((qs.map (·.2)).take j)/\(∀z∈zs,H' z.1=some (.tup (vP z.2))/\okP z.2)/\H' D=some (.frz ob (qR qs))/\(∀c u,c≠D->H c=some u->H' c=some u)/\H' Dc=some (.lst ys))
   ⟨[],rfl,rfl,(fun _ h=>nomatch h),by rw[q0c hDD.symm];exact q0b,fun c u hc e=>by rw[q0c (q0h e hDcH),q0c hc];exact e,q0b⟩ (fun j ys H' x=>by obtain⟨_,_,_,_,_,_,h⟩:=x;exact h) (fun j ys H' hj x=>by obtain⟨_,_,_,_,hf,_,_⟩:=x;exact⟨hf,by rw[kv0];exact hj⟩) (fun ys H' x=>by obtain⟨_,_,_,_,hf,_,_⟩:=x;exact⟨hf,by rw[kv0];exact Nat.le_refl _⟩) ?_ ?_
  ·rintro j ys H1 v H2 hj ⟨zs,rfl,ez,hz,hfz,kp,hDl⟩ ⟨rfl,ky,vv,pb,hk',hb,rfl⟩;obtain⟨y,hy,rfl,rfl⟩:∃y,qs[j]?=some y/\ky=kP y.2.1/\vv=.ref y.1:=by
    rw[List.getElem?_map,List.getElem?_map] at hk';cases e:qs[j]? with
    |none=>rw[e] at hk';cases hk'
    |some r=>rw[e] at hk';cases hk';exact⟨r,rfl,rfl,rfl⟩
   rw[q1u] at hb;have hym:=List.mem_of_getElem? hy;have hyo:=okm y.2 (List.mem_map.mpr ⟨y,hym,rfl⟩);have hyt:H2 y.1=some (.tup (vP y.2.2)):=kp _ _ (fun z=>by have e:=pd.pr y hym;rw[z,pd.at_] at e;cases e) (pd.pr y hym);have e1:(qs.map (·.2)).take (j+1)=(qs.map (·.2)).take j++[y.2]:=by rw[List.take_add_one,List.getElem?_map,hy];rfl
   have zl:zs.length<=60:=by
    have:=congrArg List.length ez;unfold mvs at this;rw[List.length_map,List.length_map] at this;have l2:=List.length_filter_le (fun m:Mv=>decide (m.2≠m.1)) ((qs.map (·.2)).take j);rw[List.length_take,List.length_map] at l2;lia
   refine⟨q0q,_,rfl,_,rfl,D,_,rfl,z1h (.inr ⟨ob,hfz⟩) nd hym hb,_,rfl,q2g hyt hb hyo.2.low hyo.1.low ⟨_,rfl,?_⟩⟩;refine iteB (fun hc=>?_) (fun hc=>?_)
   ·have tk:∀S xs,H2 S=some (.tup xs)->upd H2 Dc (.lst (zs.map (fun z=>V.ref z.1)++[.ref pb])) S=some (.tup xs):=fun S xs e=>by
     rw[q0c (fun z=>by rw[z,hDl] at e;cases e)];exact e
    refine⟨_,rfl,hDl,small' (by rw[List.length_map];lia),zs++[(pb,y.2.1)],by rw[List.map_append];rfl,?_,fun z hz'=>?_,by rw[q0c hDD.symm];exact hfz,fun c u hc e=>by rw[q0c (q0h e hDcH)];exact kp c u hc e,q0b⟩
    ·unfold mvs at ez ⊢;rw[e1,List.filter_append,List.filter_cons_of_pos (by simpa using hc),List.map_append,List.map_append,ez];rfl
    ·rcases List.mem_append.mp hz' with hz'|hz'
     ·exact⟨tk _ _ (hz z hz').1,(hz z hz').2⟩
     ·rw[List.mem_singleton.mp hz'];exact⟨tk _ _ hb,hyo.1⟩
   ·refine⟨zs,rfl,?_,hz,hfz,kp,hDl⟩;unfold mvs at ez ⊢;rw[e1,List.filter_append,List.filter_cons_of_neg (by simpa using hc),List.map_append,ez];simp
  ·rintro ys H1 ⟨zs,rfl,ez,hz,hfz,kp,hDl⟩;rw[<- List.length_map (f:=fun x:Addr×Mv=>x.2),List.take_length] at ez;have s1:Same H (upd H1 D (qR qs)):=q3c pd.at_ kp;exact⟨ob,_,hfz,k Dc zs _ hDcH s1 ⟨by rw[q0c hDD];exact hDl,fun z hz'=>⟨by rw[q0c (fun y=>by have e:=(hz z hz').1;rw[y,hfz] at e;cases e)];exact(hz z hz').1,(hz z hz').2⟩⟩ ez⟩
def nxL(g:Pth->Option Pth)(ps:List Pth):List Mv:=ps.filterMap fun p=>(g p).map fun q=>(p,q)
theorem nxL_in{g:Pth->Option Pth}{ps:List Pth}{m:Mv}:m∈nxL g ps↔m.1∈ps/\g m.1=some m.2:=by
 unfold nxL;constructor
 ·intro h;obtain⟨p,hp,e⟩:=List.mem_filterMap.mp h;cases eg:g p with
  |none=>rw[eg] at e;cases e
  |some q=>rw[eg] at e;cases e;exact⟨hp,eg⟩
 ·rintro⟨h1,h2⟩;exact List.mem_filterMap.mpr ⟨m.1,h1,by rw[h2];rfl⟩
theorem q7o{g:Pth->Option Pth}:∀{ps:List Pth},((nxL g ps).map (·.1)).Sublist ps
 |[]=>List.Sublist.refl _
 |p::ps=>by
  have ih:=q7o (g:=g) (ps:=ps);unfold nxL at ih ⊢;rw[List.filterMap_cons];cases g p with
  |none=>exact ih.cons _
  |some q=>exact ih.cons₂ _
theorem z0h{g:Pth->Option Pth}{ps:List Pth}{p:Pth}:nxL g (ps++[p])=nxL g ps++(match g p with|some q=>[(p,q)]|none=>[]):=by
 unfold nxL;rw[List.filterMap_append,List.filterMap_cons];cases g p<;>rfl
structure NxD (H:Hp) (N:Addr) (ns:List (Addr×Mv)) (g:Pth->Option Pth):Prop where
 pd:PDt H N ns
 nd:((ns.map (·.2)).map (·.1)).Nodup
 is:∀{m:Mv},m∈ns.map (·.2)↔g m.1=some m.2
theorem NxD.same{H H':Hp}{N:Addr}{ns:List (Addr×Mv)}{g:Pth->Option Pth}(x:NxD H N ns g)(s:Same H H'):NxD H' N ns g:=⟨x.pd.same s,x.nd,x.is⟩
theorem NxD.get{H:Hp}{N b:Addr}{ns:List (Addr×Mv)}{g:Pth->Option Pth}{p:Pth}(x:NxD H N ns g)(hb:H b=some (.tup (vP p))):(g p=none/\DGet H N (.ref b) none)\/∃q e,g p=some q/\DGet H N (.ref b) (some (.ref e))/\H e=some (.tup (vP q)):=by
 rcases x.pd.get x.nd hb with⟨hn,dg⟩|⟨y,hy,ey,dg,_⟩
 ·left;refine⟨?_,dg⟩;cases e:g p with
  |none=>rfl
  |some q=>exact absurd (List.mem_map.mpr ⟨(p,q),x.is.mpr e,rfl⟩) hn
 ·have hm:=x.is.mp (List.mem_map.mpr ⟨y,hy,rfl⟩);rw[ey] at hm;exact .inr ⟨y.2.2,y.1,hm,dg,x.pd.pr y hy⟩
structure CallsNx (P:Program) (w:World) (K:W.Frag) (mg:Str->Option Value) (base:Heap) (c:Addr):Prop where
 things_that_move:Cal P w K mg base "things_that_move" 1 ["places"] spMoves
 m_there:MCal P w K mg base c "there" 3 ["self", "place"] (spThere1 c)
def spNext(c:Addr):Sp:=fun vs H Q _=>∃h d D bl rows ms qs,vs=[.ref h,.ref D]/\HallAt c H h d bl rows/\Hl bl rows/\rows.length<=30/\GoodW rows ms/\PDt H D qs/\(qs.map (·.2)).Perm (rows.map fun r=>(r.1,plc ms r.1)) /\
 ∀N ns H',H N=none->Same H H'->NxD H' N ns (nx bl (rows.map (·.1)) (plc ms))->Q (.ref N) H'
theorem z1i{rows:List Rw}{f:Pth->Pth}{qs:List (Addr×Mv)}(p:(qs.map (·.2)).Perm (rows.map fun r=>(r.1,f r.1))):((qs.map (·.2)).map (·.1)).Perm (rows.map (·.1)):=by
 have:=p.map (·.1);rw[List.map_map (l:=rows)] at this;exact this
theorem z7u{rows:List Rw}{f:Pth->Pth}{qs:List (Addr×Mv)}(p:(qs.map (·.2)).Perm (rows.map fun r=>(r.1,f r.1))){x:Addr×Mv}(hx:x∈qs):x.2.1∈rows.map (·.1)/\x.2.2=f x.2.1:=by
 obtain⟨r,hr,e⟩:=List.mem_map.mp (p.mem_iff.mp (List.mem_map.mpr ⟨x,hx,rfl⟩));rw[<- e];exact⟨List.mem_map.mpr ⟨r,hr,rfl⟩,rfl⟩
theorem z7v{bl:Bool}{rows:List Rw}{ms:List Mv}{qs:List (Addr×Mv)}(hl:Hl bl rows)(gw:GoodW rows ms)(p:(qs.map (·.2)).Perm (rows.map fun r=>(r.1,plc ms r.1))):okMs (qs.map (·.2)):=fun m hm=>by
 obtain⟨x,hx,rfl⟩:=List.mem_map.mp hm;obtain⟨h1,h2⟩:=z7u p hx;obtain⟨r,hr,e⟩:=List.mem_map.mp h1;exact⟨by rw[<- e];exact hl.ok r hr,by rw[h2];exact q9g hl gw h1⟩
theorem z0i{rows:List Rw}{f:Pth->Pth}{qs:List (Addr×Mv)}(p:(qs.map (·.2)).Perm (rows.map fun r=>(r.1,f r.1))){x:Pth}:x∈mvs (qs.map (·.2))↔x∈rows.map (·.1)/\f x≠x:=by
 rw[mvs_in];constructor
 ·rintro⟨q,h1,h2⟩;obtain⟨r,hr,e⟩:=List.mem_map.mp (p.mem_iff.mp h1);cases e;exact⟨List.mem_map.mpr ⟨r,hr,rfl⟩,h2⟩
 ·rintro⟨h1,h2⟩;obtain⟨r,hr,rfl⟩:=List.mem_map.mp h1;exact⟨f r.1,p.mem_iff.mpr (List.mem_map.mpr ⟨r,hr,rfl⟩),h2⟩
abbrev q3e:Stmt:=top 14
theorem sc_next_ones:FnScope ["hall", "places", "told", "path", "other"] ["hall", "places"] (defScope q3e):=⟨rfl,rfl,rfl,by decide +kernel,rfl,by decide +kernel,by decide +kernel⟩
theorem z9u{c:Addr}(D:Df K mg "next_ones" q3e ["hall", "places"])(T:Txt mg)(C:CallsNx P w K mg base c):Cal P w K mg base "next_ones" 4 ["hall", "places"] (spNext c):=by
 refine D.cal sc_next_ones (fun vs H Q E h=>?_) (fun f cdv A outer s H vs Q E hr h=>?_)
 ·obtain⟨h,d,D,bl,rows,ms,qs,rfl,_⟩:=h;rfl
 ·obtain⟨h,d,D,bl,rows,ms,qs,rfl,hh,hl,h30,gw,pd,pm,k⟩:=h;refine⟨_,(q0e (q0j (i:=2) sc_next_ones.nd rfl (by first|exact Or.inl rfl|exact Or.inr rfl) q3u) (q0e (q1x PassesOwn.never rfl (@q3n _ _ _ _ K rfl (pe_c C.things_that_move hr (q0a (pv 1) q0d))) (q0i (i:=3) sc_next_ones.nd rfl (by first|exact Or.inl rfl|exact Or.inr rfl)) (q0e (q0j (i:=4) sc_next_ones.nd rfl (by first|exact Or.inl rfl|exact Or.inr rfl) (pe_m C.m_there hr (pv 0) (q0a (q0y (q1h hr) (pv 1) (pv 3) (fun _ _=>rfl)) q0d))) (q0f (q1l (pt_j (@PW.pt _ _ _ (q2v (q1t (q3l (pv 4))) (q1q (q0k (ne_k K rfl hr) (pv 4) (pv 3) (nomark _)))))) (q0f (q5f (q1h hr) (pv 2) (pv 3) (pv 4) rfl)) q0n)))) (q0f (q0m (pv 2))))),?_⟩;have okq:=z7v hl gw pm;have ndq:((qs.map (·.2)).map (·.1)).Nodup:=(z1i pm).nodup_iff.mpr hl.paths;have ql:qs.length<=30:=by have:=pm.length_eq;rw[List.length_map,List.length_map] at this;lia
  obtain⟨dx,hi⟩:=hh.i;intro N hN;have s1:=(Same.refl H).new (o:=.dT []) hN;have hN1:upd H N (.dT []) N=some (.dT []):=q0b;generalize upd H N (.dT [])=H1 at s1 hN1;refine⟨_,rfl,D,qs,rfl,pd.same s1,okq,ndq,by lia,fun L zs H2 hL s2 pl ez=>?_⟩;refine .inl ⟨L,rfl,⟨_,SqL.of pl.at_⟩,?_⟩;have ndz:(zs.map (·.2)).Nodup:=by rw[ez];exact q6m ndq
  have hN2:=s2 _ _ hN1;have s12:=s1.trans s2;refine q4l (fun i σ' H'=>∃ns x3 x4,σ'=[some (.ref h),some (.ref D),some (.ref N),x3,x4]/\Same H H'/\PL H' L zs/\PDt H' N ns/\ns.map (·.2)=nxL (nx bl (rows.map (·.1)) (plc ms)) ((zs.map (·.2)).take i)) ⟨[],none,none,rfl,s12,pl,⟨hN2,(fun _ h=>nomatch h)⟩,rfl⟩ (fun i σ' H' _ x=>by obtain⟨_,_,_,_,_,pl',_⟩:=x;exact SqL.of pl'.at_) ?_ ?_
  ·rintro i v σ' H3 hv ⟨ns,x3,x4,rfl,s3,pl3,pdN,ens⟩;obtain⟨z,hz,rfl⟩:∃z,zs[i]?=some z/\v=.ref z.1:=by
    rw[List.getElem?_map] at hv;cases e:zs[i]? with
    |none=>rw[e] at hv;cases hv
    |some z=>rw[e] at hv;cases hv;exact⟨z,rfl,rfl⟩
   have hzm:=List.mem_of_getElem? hz;have hzr:(zs.map (·.2))[i]?=some z.2:=by rw[List.getElem?_map,hz];rfl
   have e1:(zs.map (·.2)).take (i+1)=(zs.map (·.2)).take i++[z.2]:=by rw[List.take_add_one,hzr];rfl
   have hmv:z.2∈mvs (qs.map (·.2)):=by rw[<- ez];exact List.mem_map.mpr ⟨z,hzm,rfl⟩
   obtain⟨hin,hne⟩:=(z0i pm).mp hmv;obtain⟨q,hq,_⟩:=mvs_in.mp hmv;obtain⟨x,hx,ex⟩:=List.mem_map.mp hq;have hb3:=(pl3.pr z hzm).1;have ex1:x.2.1=z.2:=by rw[ex]
   have ex2:x.2.2=plc ms z.2:=by rw[<- ex1];exact(z7u pm hx).2
   have hx3:=(pd.same s3).pr x hx;rw[ex2] at hx3;have dg:=z1h (b:=z.1) (.inl (pd.same s3).at_) ndq hx (by rw[ex1];exact hb3);refine⟨_,rfl,h,dx,_,rfl,s3 _ _ hi,rfl,_,rfl,_,rfl,D,_,rfl,dg,h,d,x.1,bl,rows,_,rfl,hh.same s3,hx3,q9g hl gw hin,hl.ok,fun H4 ov s4 hov=>?_⟩;have s34:=s3.trans s4;have pl4:=pl3.same s4;have pdN4:=pdN.same s4;have nl:ns.length<=30:=by
    have e:=congrArg List.length ens;have l1:=(q7o (g:=nx bl (rows.map (·.1)) (plc ms)) (ps:=(zs.map (·.2)).take i)).length_le;rw[List.length_map] at l1 e;have l2:=congrArg List.length ez;unfold mvs at l2;have l3:=List.length_filter_le (fun m:Mv=>decide (m.2≠m.1)) (qs.map (·.2));rw[List.length_take,List.length_map] at l1;rw[List.length_map,List.length_map] at l2;rw[List.length_map] at l3;lia
   rcases hov with⟨rfl,no⟩|⟨e1',r,rfl,hrr,hf,he⟩
   ·have hnx:nx bl (rows.map (·.1)) (plc ms) z.2=none:=by
     cases e:nx bl (rows.map (·.1)) (plc ms) z.2 with
     |none=>rfl
     |some q =>
      obtain⟨_,_,h3,h4,_⟩:=(q1i hl).mp e;obtain⟨r,hr',rfl⟩:=List.mem_map.mp h3;exact absurd h4 (no r hr')
    refine⟨fun bb H5=>bb=false/\H5=H4,?_,⟨_,rfl,_,rfl,iteF ⟨rfl,rfl⟩⟩⟩;rintro bb H5 ⟨rfl,rfl⟩;exact iteF ⟨ns,_,_,rfl,s34,pl4,pdN4,by rw[e1,z0h,hnx,ens];simp⟩
   ·refine⟨fun bb H5=>bb=(!decide (r.1=z.2))/\H5=H4,?_,⟨_,rfl,_,rfl,iteT ⟨_,rfl,_,rfl,q2g he (s4 _ _ hb3) (hl.ok r hrr).low (pl3.pr z hzm).2.low ⟨_,rfl,rfl,rfl⟩⟩⟩⟩;rintro bb H5 ⟨rfl,rfl⟩;refine iteB (fun hc=>?_) (fun hc=>?_)
    ·have hc':r.1≠z.2:=by simpa using hc
     have hnx:nx bl (rows.map (·.1)) (plc ms) z.2=some r.1:=(q1i hl).mpr ⟨hin,hne,List.mem_map.mpr ⟨r,hrr,rfl⟩,hf,hc'⟩;have hno:∀y∈(ns.map fun x=>((x.2.1,.ref x.1):HRow)),y.1≠z.2:=fun y hy z'=>by
      obtain⟨x',hx',rfl⟩:=List.mem_map.mp hy;have hx2:x'.2∈nxL (nx bl (rows.map (·.1)) (plc ms)) ((zs.map (·.2)).take i):=by rw[<- ens];exact List.mem_map.mpr ⟨x',hx',rfl⟩
      have h1:=(nxL_in.mp hx2).1;have z2:x'.2.1=z.2:=z';rw[z2] at h1;have nd2:((zs.map (·.2)).take (i+1)).Nodup:=ndz.sublist (List.take_sublist _ _);rw[e1] at nd2;exact(List.nodup_append.mp nd2).2.2 _ h1 _ (List.mem_singleton.mpr rfl) rfl
     refine⟨_,rfl,_,rfl,_,rfl,N,_,rfl,DPut.t (k:=kP z.2) pdN4.at_ (by rw[q1u];exact s4 _ _ hb3) (by rw[List.length_map,List.length_map];exact small' (by lia)),?_⟩;rw[q2p (v:=.ref e1') hno];have nN:∀(x:Addr) (u:HO),H5 x=some u->(∀kvs,u≠.dT kvs)->upd H5 N (dR ((ns.map fun x=>((x.2.1,.ref x.1):HRow))++[(z.2,.ref e1')])) x=some u:=fun x u e n=>by
      rw[q0c (fun y=>by rw[y,pdN4.at_] at e;cases e;exact n _ rfl)];exact e
     refine⟨ns++[(e1',(z.2,r.1))],_,_,rfl,s34.put hN,⟨nN _ _ pl4.at_ (fun _ y=>by cases y),fun y hy=>⟨nN _ _ (pl4.pr y hy).1 (fun _ y=>by cases y),(pl4.pr y hy).2⟩⟩,⟨by rw[q0b,List.map_append (l₁:=ns)];rfl,fun y hy=>?_⟩,by rw[e1,z0h,hnx,List.map_append,ens];rfl⟩;rcases List.mem_append.mp hy with hy|hy
     ·exact nN _ _ (pdN4.pr y hy) (fun _ y=>by cases y)
     ·rw[List.mem_singleton.mp hy];exact nN _ _ he (fun _ y=>by cases y)
    ·have hc':r.1=z.2:=by simpa using hc
     have hnx:nx bl (rows.map (·.1)) (plc ms) z.2=none:=by
      cases e:nx bl (rows.map (·.1)) (plc ms) z.2 with
      |none=>rfl
      |some q =>
       obtain⟨_,_,h3,h4,h5⟩:=(q1i hl).mp e;have nd:((rows.map (·.1)).map (fold bl)).Nodup:=by rw[List.map_map];exact hl.nd
       exact absurd ((q0w nd h3 (List.mem_map.mpr ⟨r,hrr,rfl⟩) (h4.trans hf.symm)).trans hc') h5
     exact⟨ns,_,_,rfl,s34,pl4,pdN4,by rw[e1,z0h,hnx,ens];simp⟩
  ·rintro σ' H3 ⟨ns,x3,x4,rfl,s3,pl3,pdN,ens⟩;rw[List.length_map,<- List.length_map (f:=fun z:Zp=>z.2),List.take_length] at ens;refine⟨_,rfl,k N ns H3 hN s3 ⟨pdN,?_,fun{m}=>?_⟩⟩
   ·rw[ens];exact ndz.sublist q7o
   ·rw[ens,nxL_in,ez,z0i pm];exact⟨fun x=>x.2,fun x=>⟨⟨((q1i hl).mp x).1,((q1i hl).mp x).2.1⟩,x⟩⟩
end
end K
set_option maxHeartbeats 4000000
namespace K
open PySem L2 TX SB HM
section
variable{P:Program}{w:World}{K:W.Frag}{mg:Str->Option Value}{base:Heap}
structure CallsAsk (P:Program) (w:World) (K:W.Frag) (mg:Str->Option Value) (base:Heap) (c:Addr):Prop where
 ask_wishes:Cal P w K mg base "ask_wishes" 8 ["hall", "wishes"] (spAsk c)
 all_places:Cal P w K mg base "all_places" 6 ["hall", "wishes"] (spAllP c)
 things_that_move:Cal P w K mg base "things_that_move" 1 ["places"] spMoves
 next_ones:Cal P w K mg base "next_ones" 4 ["hall", "places"] (spNext c)
structure GW (c:Addr) (H:Hp) (h d L:Addr) (bl:Bool) (rows:List Rw) (zs:List Zm):Prop where
 ha:HallAt c H h d bl rows
 hl:Hl bl rows
 few:rows.length<=30
 ml:ML H L zs
 gw:GoodW rows (zs.map (·.2))
 len:zs.length<=60
 ap:Apart bl rows (plc (zs.map (·.2)))
theorem GW.same{c:Addr}{H H':Hp}{h d L:Addr}{bl:Bool}{rows:List Rw}{zs:List Zm}(g:GW c H h d L bl rows zs)(s:Same H H'):GW c H' h d L bl rows zs:=⟨g.ha.same s,g.hl,g.few,g.ml.same s,g.gw,g.len,g.ap⟩
structure Mvg (bl:Bool) (rows:List Rw) (f:Pth->Pth) (ms:List Pth):Prop where
 nd:ms.Nodup
 is:∀{p},p∈ms↔p∈rows.map (·.1)/\f p≠p
def spAN(c:Addr):Sp:=fun vs H Q _=>∃h d L bl rows zs,vs=[.ref h,.ref L]/\GW c H h d L bl rows zs /\
 ∀T M mz N ns H',Same H H'->H M=none->H N=none->H' T=some (.tup [.ref M,.ref N])->PL H' M mz->Mvg bl rows (plc (zs.map (·.2))) (mz.map (·.2))->NxD H' N ns (nx bl (rows.map (·.1)) (plc (zs.map (·.2))))->Q (.ref T) H'
abbrev q1n:Stmt:=top 15
theorem sc_asked_next_ones:FnScope ["hall", "wishes", "places"] ["hall", "wishes"] (defScope q1n):=⟨rfl,rfl,rfl,by decide +kernel,rfl,by decide +kernel,by decide +kernel⟩
theorem z6z{c:Addr}(D:Df K mg "asked_next_ones" q1n ["hall", "wishes"])(T:Txt mg)(C:CallsAsk P w K mg base c):Cal P w K mg base "asked_next_ones" 9 ["hall", "wishes"] (spAN c):=by
 refine D.cal sc_asked_next_ones (fun vs H Q E h=>?_) (fun f cdv A outer s H vs Q E hr h=>?_)
 ·obtain⟨h,d,L,bl,rows,zs,rfl,_⟩:=h;rfl
 ·obtain⟨h,d,L,bl,rows,zs,rfl,G,k⟩:=h;refine⟨_,(q0e (q2n (pe_c C.ask_wishes hr (q0a (pv 0) (q0a (pv 1) q0d)))) (q0e (q0j (i:=2) sc_asked_next_ones.nd rfl (by first|exact Or.inl rfl|exact Or.inr rfl) (pe_c C.all_places hr (q0a (pv 0) (q0a (pv 1) q0d)))) (q0f (q0m (q1f (q0a (pe_c C.things_that_move hr (q0a (pv 2) q0d)) (q0a (pe_c C.next_ones hr (q0a (pv 0) (q0a (pv 2) q0d))) q0d))))))),?_⟩;refine⟨_,rfl,_,rfl,h,d,L,bl,rows,zs,rfl,G.ha,G.hl,G.few,G.ml,G.gw,G.len,G.ap,fun H1 s1=>?_⟩;have G1:=G.same s1;refine⟨_,rfl,_,rfl,h,d,L,bl,rows,zs,rfl,G1.ha,G.hl,by have:=G.few;lia,G1.ml,G.gw,G.len,fun D0 ps0 rs H2 hD0 s2 pd0 pm0 pw0 e0=>?_⟩;have s12:=s1.trans s2;have pm:(ps0.map (·.2)).Perm (rows.map fun r=>(r.1,plc (zs.map (·.2)) r.1)):=by rw[e0];exact pm0.map _
  have ndq:((ps0.map (·.2)).map (·.1)).Nodup:=(z1i pm).nodup_iff.mpr G.hl.paths;have pl:ps0.length<=30:=by have:=pm.length_eq;rw[List.length_map,List.length_map] at this;have:=G.few;lia
  refine⟨_,rfl,D0,ps0,rfl,pd0,z7v G.hl G.gw pm,ndq,by lia,fun M mz H3 hM s3 pl3 ez=>?_⟩;refine⟨_,rfl,_,rfl,h,d,D0,bl,rows,_,ps0,rfl,(G.same (s12.trans s3)).ha,G.hl,G.few,G.gw,pd0.same s3,pm,fun N ns H4 hN s4 nxd=>?_⟩;refine⟨by show 2<=sizeLine;decide,fun T' hT=>?_⟩;have sT:=(Same.refl H4).new (o:=.tup [.ref M,.ref N]) hT;have s03:=s12.trans s3;exact k T' M mz N ns _ ((s03.trans s4).trans sT) (s12.free hM) (s03.free hN) q0b ((pl3.same s4).same sT) ⟨by rw[ez];exact q6m ndq,fun{p}=>by rw[ez];exact z0i pm⟩ (nxd.same sT)
def spFrom:Sp:=fun vs H Q _=>∃b N ns g ps p,vs=[.ref b,.ref N]/\H b=some (.tup (vP p))/\NxD H N ns g/\Fol ps g/\p∈ps/\ps.length<=30/\(∀x∈ps,okP x)/\∀L zs H',H L=none->Same H H'->PL H' L zs->Orb g p (zs.map (·.2))->Q (.ref L) H'
abbrev q1s:Stmt:=top 16
theorem sc_from_thing_on:FnScope ["path", "nexts", "told"] ["path", "nexts"] (defScope q1s):=⟨rfl,rfl,rfl,by decide +kernel,rfl,by decide +kernel,by decide +kernel⟩
theorem z9v(D:Df K mg "from_thing_on" q1s ["path", "nexts"])(T:Txt mg):Cal P w K mg base "from_thing_on" 1 ["path", "nexts"] spFrom:=by
 refine D.cal sc_from_thing_on (fun vs H Q E h=>?_) (fun f cdv A outer s H vs Q E hr h=>?_)
 ·obtain⟨b,N,ns,g,ps,p,rfl,_⟩:=h;rfl
 ·obtain⟨b,N,ns,g,ps,p,rfl,hb,nxd,F,hp,h30,oks,k⟩:=h;refine⟨_,(q0e (q0j (i:=2) sc_from_thing_on.nd rfl (by first|exact Or.inl rfl|exact Or.inr rfl) (q1k (q0a (pv 0) q0d))) (q0e (q6n PassesOwn.never (pt_j (@PW.pt _ _ _ (q2v (q1t (z3x (q1h hr) (q0x (ix_k K rfl) (pv 2) (q1o q0s q0g) (fun _ _=>rfl)) (pv 1))) (q1q (q0k (ne_k K rfl hr) (q0y (q1h hr) (pv 1) (q0x (ix_k K rfl) (pv 2) (q1o q0s q0g) (fun _ _=>rfl)) (fun _ _=>rfl)) (pv 0) (nomark _)))))) (q0f (q2n (@bm_k _ _ _ _ _ _ _ _ _ _ _ _ K rfl PySem.F.plainAttrs_list PySem.F.slot_list_append PySem.F.type_list_append q1y (pv 2) (q0a (q0y (q1h hr) (pv 1) (q0x (ix_k K rfl) (pv 2) (q1o q0s q0g) (fun _ _=>rfl)) (fun _ _=>rfl)) q0d) (by rfl) (by rfl) (by rfl) (by rfl) (by rfl))))) (q0f (q0m (pv 2))))),?_⟩;refine⟨_,rfl,by show 1<=sizeLine;decide,fun L hL=>?_⟩;have s1:=(Same.refl H).new (o:=.lst [.ref b]) hL;refine q6o (fun σ' H'=>∃zs:List Zp,σ'=[some (.ref b),some (.ref N),some (.ref L)]/\Same H H'/\PL H' L zs/\Trk g p (zs.map (·.2))) (fun _ H'=>100-lenAt L H') ⟨[(b,p)],rfl,s1,⟨q0b,fun z hz=>by rw[List.mem_singleton.mp hz];exact⟨s1 _ _ hb,oks p hp⟩⟩,Trk.one⟩ ?_ ?_
  ·rintro σ' H1 ⟨zs,rfl,s1,pl,t⟩;have pos:zs≠[]:=fun z=>by have:=t.hd;rw[z] at this;cases this
   have hlast:=List.getLast?_eq_some_getLast pos;generalize zs.getLast pos=z at hlast;have hat:atI (zs.map fun z=>V.ref z.1) (-1)=some (.ref z.1):=q7n (by rw[List.getLast?_map,hlast];rfl);have hlp:(zs.map (·.2)).getLast?=some z.2:=by rw[List.getLast?_map,hlast];rfl
   have hzm:=List.mem_of_getLast? hlast;have hz1:=(pl.pr z hzm).1;have zl:zs.length<=30:=by have:=t.len F hp;rw[List.length_map] at this;lia
   have nx1:=nxd.same s1;refine⟨fun bb H2=>H2=H1/\(bb=true->∃q,g z.2=some q/\q≠p)/\(bb=false->g z.2=none\/g z.2=some p),?_,?_⟩
   ·rintro bb H2 ⟨rfl,hT,hF⟩;refine ite2 (fun h=>?_) (fun h=>⟨_,rfl,k L zs _ hL s1 pl ⟨t,fun{x} hx=>by rw[hlp] at hx;cases hx;exact hF (by simpa using h)⟩⟩);obtain⟨q,hq,nq⟩:=hT h;rcases nx1.get hz1 with⟨e,_⟩|⟨q',e,e1,dg,he⟩
    ·rw[hq] at e;cases e
    rw[hq] at e1;cases e1;refine⟨_,rfl,.inl ⟨rfl,_,SqL.of pl.at_⟩,_,rfl,_,rfl,_,rfl,.inl ⟨L,_,-1,_,rfl,rfl,SqL.of pl.at_,hat,N,_,rfl,dg,?_⟩⟩;refine⟨L,_,_,rfl,rfl,pl.at_,by rw[List.length_map];exact small' (by lia),?_⟩;have tk:∀S xs,H2 S=some (.tup xs)->upd H2 L (.lst (zs.map (fun z=>V.ref z.1)++[.ref e])) S=some (.tup xs):=fun S xs e=>by
     rw[q0c (fun z=>by rw[z,pl.at_] at e;cases e)];exact e
    have t2:=t.more F hlp hq nq;refine⟨⟨zs++[(e,q)],rfl,s1.put hL,⟨by rw[q0b,List.map_append];rfl,fun y hy=>?_⟩,by rw[List.map_append];exact t2⟩,?_⟩
    ·rcases List.mem_append.mp hy with hy|hy
     ·exact⟨tk _ _ (pl.pr y hy).1,(pl.pr y hy).2⟩
     ·rw[List.mem_singleton.mp hy];exact⟨tk _ _ he,oks q (F.to hq)⟩
    ·rw[q2i q0b,q2i pl.at_,List.length_append,List.length_map];show 100-(zs.length+1)<100-zs.length;lia
   ·refine⟨_,rfl,_,rfl,.inl ⟨L,_,-1,_,rfl,rfl,SqL.of pl.at_,hat,_,rfl,?_⟩⟩;rcases nx1.get hz1 with⟨e,dg⟩|⟨q,e,e1,dg,he⟩
    ·exact⟨N,_,rfl,dg,_,rfl,iteF ⟨rfl,(fun z=>by cases z),fun _=>.inl e⟩⟩
    ·refine⟨N,_,rfl,dg,_,rfl,iteT ?_⟩;refine⟨_,rfl,_,rfl,_,rfl,.inl ⟨L,_,-1,_,rfl,rfl,SqL.of pl.at_,hat,N,_,rfl,dg,_,rfl,q2g he (s1 _ _ hb) (oks q (F.to e1)).low (oks p hp).low ⟨_,rfl,rfl,fun h=>⟨q,e1,by simpa using h⟩,fun h=>.inr (by rw[e1];congr 1;simpa using h)⟩⟩⟩
  ·intro σ3 H3 Q1 Q2 hq h;obtain⟨R,h1,h2⟩:=h;exact⟨R,fun b H1 r=>hq _ _ (h1 b H1 r),h2⟩
end
end K
set_option maxHeartbeats 4000000
namespace K
open PySem L2 TX SB HM
section
variable{P:Program}{w:World}{K:W.Frag}{mg:Str->Option Value}{base:Heap}
theorem Trk.headD{g:Pth->Option Pth}{p:Pth}{xs:List Pth}(t:Trk g p xs):xs.headD []=p:=by
 have:=t.hd;cases xs with
 |nil=>cases this
 |cons a l=>exact Option.some.inj this
theorem z2n{α:Type}{f:α->Pth}{rs qs:List α}(so:(rs.map f).Pairwise (fun a b=>pLt b a=false))(so2:(qs.map f).Pairwise (fun a b=>pLt b a=false))(nd:(rs.map f).Nodup)(nd2:(qs.map f).Nodup)(is:∀x,x∈rs↔x∈qs):rs=qs:=by
 have e:=q5o ((List.perm_ext_iff_of_nodup nd nd2).mpr fun x=>⟨fun h=>by obtain⟨a,ha,rfl⟩:=List.mem_map.mp h;exact List.mem_map.mpr ⟨a,(is a).mp ha,rfl⟩,fun h=>by obtain⟨a,ha,rfl⟩:=List.mem_map.mp h;exact List.mem_map.mpr ⟨a,(is a).mpr ha,rfl⟩⟩) nd so so2;refine List.ext_getElem? fun i=>?_;have e2:=congrArg (fun l=>l[i]?) e;simp only[List.getElem?_map] at e2;cases h1:rs[i]? with
 |none =>
  cases h2:qs[i]? with
  |none=>rfl
  |some y=>rw[h1,h2] at e2;cases e2
 |some x =>
  cases h2:qs[i]? with
  |none=>rw[h1,h2] at e2;cases e2
  |some y =>
   rw[h1,h2] at e2;rw[q0w nd2 ((is x).mp (List.mem_of_getElem? h1)) (List.mem_of_getElem? h2) (Option.some.inj e2)]
abbrev Zl:=Addr×List Zp
abbrev cont(z:Zl):List Pth:=z.2.map (·.2)
structure LLs (H:Hp) (L:Addr) (zs:List Zl):Prop where
 at_:H L=some (.lst (zs.map fun z=>V.ref z.1))
 pr:∀z∈zs,PL H z.1 z.2
theorem LLs.same{H H':Hp}{L:Addr}{zs:List Zl}(h:LLs H L zs)(s:Same H H'):LLs H' L zs:=⟨s _ _ h.at_,fun z hz=>(h.pr z hz).same s⟩
theorem PL.keep{H H':Hp}{L:Addr}{zs:List Zp}(h:PL H L zs)(k:∀c u,H c=some u->(∀xs,u=.tup xs\/c=L->H' c=some u)):PL H' L zs:=⟨k _ _ h.at_ [] (.inr rfl),fun z hz=>⟨k _ _ (h.pr z hz).1 _ (.inl rfl),(h.pr z hz).2⟩⟩
theorem PL.headAt{H:Hp}{L:Addr}{zs:List Zp}(h:PL H L zs)(ne:zs≠[]):HdL H L ((zs.map (·.2)).headD [])/\Low ((zs.map (·.2)).headD []):=by
 cases zs with
 |nil=>exact absurd rfl ne
 |cons z zs=>exact⟨⟨z.1,_,h.at_,(h.pr z List.mem_cons_self).1⟩,(h.pr z List.mem_cons_self).2.low⟩
structure CallsRg (P:Program) (w:World) (K:W.Frag) (mg:Str->Option Value) (base:Heap) (c:Addr):Prop where
 asked_next_ones:Cal P w K mg base "asked_next_ones" 9 ["hall", "wishes"] (spAN c)
 from_thing_on:Cal P w K mg base "from_thing_on" 1 ["path", "nexts"] spFrom
abbrev gOf(bl:Bool)(rows:List Rw)(ms:List Mv):Pth->Option Pth:=nx bl (rows.map (·.1)) (plc ms)
theorem Mvg.dom{bl:Bool}{rows:List Rw}{f:Pth->Pth}{ms:List Pth}{p q:Pth}(m:Mvg bl rows f ms)(hl:Hl bl rows)(h:nx bl (rows.map (·.1)) f p=some q):p∈ms:=m.is.mpr ⟨((q1i hl).mp h).1,((q1i hl).mp h).2.1⟩
structure ChnP (g:Pth->Option Pth) (p:Pth) (xs:List Pth):Prop where
 o:Orb g p xs
 st:∀q,g q≠some p
open Classical in
noncomputable def isSt (g:Pth->Option Pth) (p:Pth):Bool:=decide (∀q,g q≠some p)
theorem isSt_iff{g:Pth->Option Pth}{p:Pth}:isSt g p=true↔∀q,g q≠some p:=by unfold isSt;exact @decide_eq_true_iff _ (Classical.propDecidable _)
structure Chs (g:Pth->Option Pth) (mv:Pth->Prop) (rs:List (List Pth)):Prop where
 so:(rs.map (·.headD [])).Pairwise (fun a b=>pLt b a=false)
 nd:(rs.map (·.headD [])).Nodup
 is:∀{xs},xs∈rs↔∃p,mv p/\ChnP g p xs
theorem Chs.uniq{g:Pth->Option Pth}{mv:Pth->Prop}{rs qs:List (List Pth)}(a:Chs g mv rs)(b:Chs g mv qs):rs=qs:=z2n a.so b.so a.nd b.nd fun _=>a.is.trans b.is.symm
theorem Chs.of{g:Pth->Option Pth}{mv:Pth->Prop}{rs:List (List Pth)}{ms:List Pth}(nd:ms.Nodup)(hm:∀{p},p∈ms↔mv p)(all:∀xs∈rs,ChnP g (xs.headD []) xs)(e:(rs.map (·.headD [])).Perm (ms.filter (isSt g)))(so:(rs.map (·.headD [])).Pairwise (fun a b=>pLt b a=false)):Chs g mv rs:=by
 refine⟨so,e.nodup_iff.mpr (nd.filter _),fun{xs}=>⟨fun hx=>?_,fun⟨p,hp,c⟩=>?_⟩⟩
 ·have h1:xs.headD []∈ms.filter (isSt g):=e.mem_iff.mp (List.mem_map.mpr ⟨xs,hx,rfl⟩);exact⟨_,hm.mp (List.mem_filter.mp h1).1,all xs hx⟩
 ·have h1:p∈rs.map (·.headD []):=e.mem_iff.mpr (List.mem_filter.mpr ⟨hm.mpr hp,isSt_iff.mpr c.st⟩);obtain⟨ys,hy,ey⟩:=List.mem_map.mp h1;have c2:=all ys hy;rw[show ys.headD []=p from ey] at c2;rw[c.o.uniq c2.o];exact hy
abbrev mvOf(rows:List Rw)(ms:List Mv):Pth->Prop:=fun p=>p∈rows.map (·.1)/\plc ms p≠p
def spChains(c:Addr):Sp:=fun vs H Q _=>∃h d L bl rows zs,vs=[.ref h,.ref L]/\GW c H h d L bl rows zs /\
 ∀R rs H',H R=none->(∀z∈rs,H z.1=none)->Same H H'->LLs H' R rs->Chs (gOf bl rows (zs.map (·.2))) (mvOf rows (zs.map (·.2))) (rs.map cont)->(∀z∈rs,z.1≠R)->Q (.ref R) H'
abbrev q5t:Stmt:=top 17
theorem sc_chains:FnScope ["hall", "wishes", "moving", "nexts", "followed"] ["hall", "wishes"] (defScope q5t):=⟨rfl,rfl,rfl,by decide +kernel,rfl,by decide +kernel,by decide +kernel⟩
theorem z5b{c:Addr}(D:Df K mg "chains" q5t ["hall", "wishes"])(T:Txt mg)(C:CallsRg P w K mg base c):Cal P w K mg base "chains" 10 ["hall", "wishes"] (spChains c):=by
 refine D.cal sc_chains (fun vs H Q E h=>?_) (fun f cdv A outer s H vs Q E hr h=>?_)
 ·obtain⟨h,d,L,bl,rows,zs,rfl,_⟩:=h;rfl
 ·obtain⟨h,d,L,bl,rows,zs,rfl,G,k⟩:=h;refine⟨_,(q0e (q7s (pe_c C.asked_next_ones hr (q0a (pv 0) (q0a (pv 1) q0d))) (@q2y _ _ _ _ (2) _ K rfl rfl (q0o (q0i (i:=2) sc_chains.nd rfl (by first|exact Or.inl rfl|exact Or.inr rfl)) (q0o (q0i (i:=3) sc_chains.nd rfl (by first|exact Or.inl rfl|exact Or.inr rfl)) q1w)) (by rfl) (by rfl))) (q0e (q0j (i:=4) sc_chains.nd rfl (by first|exact Or.inl rfl|exact Or.inr rfl) (q3s (z2h rfl) (by rfl) T.b_list (by decide +kernel) (q0a (@q9n _ _ _ _ _ _ _ _ _ K rfl PySem.F.plainAttrs_dict PySem.F.slot_dict_values PySem.F.type_dict_values z4s (pv 3) (by rfl) (by rfl)) q0d))) (q0f (q0m (q0l (z2f hr) (by rfl) T.b_sorted (by decide +kernel) (q0a (q2d ["path"] [("nexts",3),("followed",4)] rfl (@q3n _ _ _ _ K rfl (pv 2)) (fun _ _ _ _ _=>(q0i (i:=0) (show(["path", "nexts", "followed"]:List Str).Nodup by decide +kernel) rfl (by first|exact Or.inl rfl|exact Or.inr rfl))) (fun _ _ _ _ _=>(q2x (q0k (nin_P hr) (pv 0) (pv 2) (by with_unfolding_all rfl)))) (fun _ _ _ _ _=>(pe_c C.from_thing_on hr (q0a (pv 0) (q0a (pv 1) q0d))))) q0d)))))),?_⟩;refine⟨_,rfl,_,rfl,h,d,L,bl,rows,zs,rfl,G,fun T' M mz N ns H1 s1 hM hN hT pl mv nxd=>?_⟩;refine⟨T',_,rfl,SqT.of hT,rfl,_,_,rfl,_,_,rfl,rfl,?_⟩;have hl:=G.hl;have F:=z5a hl G.ap;have h30:(rows.map (·.1)).length<=30:=by rw[List.length_map];exact G.few
  have oks:∀x∈rows.map (·.1),okP x:=fun x hx=>by obtain⟨r,hr',rfl⟩:=List.mem_map.mp hx;exact hl.ok r hr'
  generalize hg:nx bl (rows.map (·.1)) (plc (zs.map (·.2)))=g at nxd F;have mzl:mz.length<=30:=by
   have:=z2m mv.nd (m:=rows.map (·.1)) fun x hx=>(mv.is.mp hx).1;rw[List.length_map] at this;lia
  have nsl:ns.length<=30:=by
   have:=z2m nxd.nd (m:=rows.map (·.1)) fun x hx=>by obtain⟨m,hm,rfl⟩:=List.mem_map.mp hx;exact F.dom (nxd.is.mp hm)
   rw[List.length_map,List.length_map] at this;lia
  refine⟨_,rfl,.inr (.inr (.inl ⟨rfl,.inr ⟨_,nxd.pd.at_⟩⟩)),N,_,rfl,rfl,nxd.pd.at_,fun v hv=>?_⟩;have sv:=(Same.refl H1).new (o:=vlO v N) hv;refine⟨v,N,ns.map fun x=>(x.2.1,.ref x.1),rfl,q0b,sv _ _ nxd.pd.at_,by rw[List.length_map];lia,fun Fo hFo=>?_⟩;have sF:=(Same.refl (upd H1 v (vlO v N))).new (o:=.lst ((ns.map fun x=>((x.2.1,.ref x.1):HRow)).map (·.2))) hFo;have hF2:upd (upd H1 v (vlO v N)) Fo (.lst ((ns.map fun x=>((x.2.1,.ref x.1):HRow)).map (·.2))) Fo=some (.lst ((ns.map (·.1)).map V.ref)):=by rw[q0b,List.map_map,List.map_map];rfl
  have s12:=sv.trans sF;generalize upd (upd H1 v (vlO v N)) Fo (.lst ((ns.map fun x=>((x.2.1,.ref x.1):HRow)).map (·.2)))=H2 at s12 hF2;have pl2:=pl.same s12;have nx2:=nxd.same s12;refine⟨_,rfl,.inl ⟨M,rfl,⟨_,SqL.of pl2.at_⟩,fun Dc hDc=>?_⟩⟩;refine q1z (fun i ys H'=>∃rs:List Zl,ys=rs.map (fun z=>V.ref z.1)/\Same H2 H'/\H' Dc=some (.lst ys)/\(∀z∈rs,PL H' z.1 z.2/\H2 z.1=none/\z.1≠Dc/\ChnP g ((cont z).headD []) (cont z))/\rs.map (fun z=>(cont z).headD [])=((mz.map (·.2)).take i).filter (isSt g)) ⟨[],rfl,(Same.refl H2).new hDc,q0b,(fun _ h=>nomatch h),rfl⟩ (fun i ys H' h=>by obtain⟨rs,_,s',h',_⟩:=h;exact⟨h',SqL.of (s' _ _ pl2.at_)⟩) ?_ ?_
  ·rintro i ys H3 v' hv' ⟨rs,rfl,s3,hDl,hrs,ers⟩;obtain⟨z,hz,rfl⟩:∃z,mz[i]?=some z/\v'=.ref z.1:=by
    rw[List.getElem?_map] at hv';cases e:mz[i]? with
    |none=>rw[e] at hv';cases hv'
    |some z=>rw[e] at hv';cases hv';exact⟨z,rfl,rfl⟩
   have hzm:=List.mem_of_getElem? hz;have hin:=(mv.is.mp (List.mem_map.mpr ⟨z,hzm,rfl⟩)).1;have e1:(mz.map (·.2)).take (i+1)=(mz.map (·.2)).take i++[z.2]:=by rw[List.take_add_one,List.getElem?_map,hz];rfl
   have hz3:=s3 _ _ (pl2.pr z hzm).1;have okz:=(pl2.pr z hzm).2;have nx3:=nx2.same s3;have rl:rs.length<=30:=by
    have e:=congrArg List.length ers;rw[List.length_map] at e;rw[e];refine Nat.le_trans (List.length_filter_le _ _) ?_;rw[List.length_take,List.length_map];lia
   have hst:(ns.map (·.1)).any (inP H3 z.2)=true↔∃q,g q=some z.2:=by
    rw[List.any_eq_true];constructor
    ·rintro⟨b,hb,e⟩;obtain⟨x,hx,rfl⟩:=List.mem_map.mp hb;rw[q8w (nx3.pd.pr x hx)] at e;have e:=of_decide_eq_true e;exact⟨x.2.1,by rw[<- e];exact nxd.is.mp (List.mem_map.mpr ⟨x,hx,rfl⟩)⟩
    ·rintro⟨q,hq⟩;obtain⟨x,hx,ex⟩:=List.mem_map.mp (nxd.is.mpr (show g (q,z.2).1=some (q,z.2).2 from hq));refine⟨x.1,List.mem_map.mpr ⟨x,hx,rfl⟩,?_⟩;rw[q8w (nx3.pd.pr x hx),ex];exact decide_eq_true rfl
   refine⟨q0q,_,rfl,_,rfl,z.1,Fo,ns.map (·.1),z.2,rfl,rfl,s3 _ _ hF2,hz3,okz.low,fun b hb=>?_,_,rfl,?_⟩
   ·obtain⟨x,hx,rfl⟩:=List.mem_map.mp hb;exact⟨x.2.2,nx3.pd.pr x hx,(oks _ (F.to (nxd.is.mp (List.mem_map.mpr ⟨x,hx,rfl⟩)))).low⟩
   refine iteB (fun hc=>?_) (fun hc=>?_)
   ·have hst':∀q,g q≠some z.2:=fun q hq=>by
     have:=hst.mpr ⟨q,hq⟩;rw[this] at hc;cases hc
    refine⟨_,rfl,_,rfl,z.1,N,ns,g,_,z.2,rfl,hz3,nx3,F,hin,h30,oks,fun Lr zr H4 hLr s4 plr orb=>?_⟩;have hD4:=s4 _ _ hDl;have hLD:Lr≠Dc:=fun e=>by rw[e,hDl] at hLr;cases hLr
    have kD:∀{x:Addr} {xs:List Zp},x≠Dc->PL H4 x xs->PL (upd H4 Dc (.lst (rs.map (fun z=>V.ref z.1)++[.ref Lr]))) x xs:=fun{x xs} n p=>⟨by rw[q0c n];exact p.at_,fun u hu=>⟨by rw[q0c (fun z=>by have e:=(p.pr u hu).1;rw[z,hD4] at e;cases e)];exact(p.pr u hu).1,(p.pr u hu).2⟩⟩
    have hd:(zr.map (·.2)).headD []=z.2:=orb.headD;refine⟨hD4,small' (by rw[List.length_map];lia),rs++[(Lr,zr)],by rw[List.map_append];rfl,(s3.trans s4).put hDc,q0b,fun x hx=>?_,?_⟩
    ·rcases List.mem_append.mp hx with hx|hx
     ·exact⟨kD (hrs x hx).2.2.1 ((hrs x hx).1.same s4),(hrs x hx).2⟩
     ·rw[List.mem_singleton.mp hx];exact⟨kD hLD plr,s3.free hLr,hLD,by show ChnP g ((zr.map (·.2)).headD []) (zr.map (·.2));rw[hd];exact⟨orb,hst'⟩⟩
    ·rw[e1,List.filter_append,List.filter_cons_of_pos (isSt_iff.mpr hst'),List.map_append,ers];show _++[(zr.map (·.2)).headD []]=_;rw[hd];rfl
   ·have hc':(ns.map (·.1)).any (inP H3 z.2)=true:=by simpa using hc
    obtain⟨q,hq⟩:=hst.mp hc';refine⟨rs,rfl,s3,hDl,hrs,?_⟩;rw[e1,List.filter_append,List.filter_cons_of_neg (fun h=>isSt_iff.mp h q hq),ers];simp
  ·rintro ys H3 ⟨rs,rfl,s3,hDl,hrs,ers⟩;rw[List.length_map,<- List.length_map (f:=fun z:Zp=>z.2),List.take_length] at ers;have ndh:(rs.map fun z=>(cont z).headD []).Nodup:=by rw[ers];exact mv.nd.filter _
   have rl:rs.length<=30:=by
    have e:=congrArg List.length ers;rw[List.length_map] at e;rw[e];exact Nat.le_trans (List.length_filter_le _ _) (by rw[List.length_map];exact mzl)
   have ne:∀z∈rs,z.2≠[]:=fun z hz e=>by
    have:=(hrs z hz).2.2.2.o.hd;unfold cont at this;rw[e] at this;cases this
   refine⟨List Zp,(fun l=>(l.map (·.2)).headD []),Dc,rs,rfl,hDl,by lia,fun z hz=>(hrs z hz).1.headAt (ne z hz),ndh,fun R2 rs2 hR2 pm pw=>?_⟩;have sR:=(Same.refl H3).new (o:=.lst (rs2.map fun z=>V.ref z.1)) hR2;have s03:=(s1.trans s12).trans s3;refine k R2 rs2 _ (s03.free hR2) (fun z hz=>(s1.trans s12).free (hrs z (pm.mem_iff.mp hz)).2.1) (s03.trans sR) ⟨q0b,fun z hz=>((hrs z (pm.mem_iff.mp hz)).1).same sR⟩ ?_ (fun z hz e=>by have e9:=(hrs z (pm.mem_iff.mp hz)).1.at_;rw[e,hR2] at e9;cases e9);show Chs (nx bl (rows.map (·.1)) (plc (zs.map (·.2)))) _ _;rw[hg];refine Chs.of mv.nd mv.is (fun xs hx=>?_) ?_ (by rw[List.map_map];exact pw)
   ·obtain⟨z,hz,rfl⟩:=List.mem_map.mp hx;exact(hrs z (pm.mem_iff.mp hz)).2.2.2
   ·rw[List.map_map,<- ers];exact pm.map _
end
end K
set_option maxHeartbeats 4000000
namespace K
open PySem L2 TX SB HM
section
variable{P:Program}{w:World}{K:W.Frag}{mg:Str->Option Value}{base:Heap}
theorem z5c{bl:Bool}{rows:List Rw}{ms:List Mv}(gw:GoodW rows ms)(hl:Hl bl rows):okMs ms:=fun m hm=>by
 obtain⟨kk,hk,_⟩:=(gw.all m hm).th;exact⟨hl.ok _ hk,(gw.all m hm).ok⟩
def oR(as:List (Pth×Option Zp)):HO:=dR (as.map fun x=>(x.1,vO x.2))
structure AhD (H:Hp) (A:Addr) (as:List (Pth×Option Zp)) (g:Pth->Option Pth):Prop where
 rd:Rd H A (oR as)
 pr:∀x∈as,∀z,x.2=some z->H z.1=some (.tup (vP z.2))
 nd:(as.map (·.1)).Nodup
 is:∀x∈as,x.2.map (·.2)=g x.1
theorem AhD.same{H H':Hp}{A:Addr}{as:List (Pth×Option Zp)}{g:Pth->Option Pth}(x:AhD H A as g)(s:Same H H'):AhD H' A as g:=⟨x.rd.imp (fun h=>s _ _ h) (fun⟨o,h⟩=>⟨o,s _ _ h⟩),fun y hy z e=>s _ _ (x.pr y hy z e),x.nd,x.is⟩
theorem AhD.get{H:Hp}{A b:Addr}{as:List (Pth×Option Zp)}{g:Pth->Option Pth}{p:Pth}(x:AhD H A as g)(hp:p∈as.map (·.1))(hb:H b=some (.tup (vP p))):∃o,DGet H A (.ref b) (some (vO o))/\o.map (·.2)=g p/\∀z,o=some z->H z.1=some (.tup (vP z.2)):=by
 obtain⟨y,hy,rfl⟩:=List.mem_map.mp hp;refine⟨y.2,?_,x.is y hy,x.pr y hy⟩;have e:=q3b (rs:=as.map fun x=>((x.1,vO x.2):HRow)) (r:=(y.1,vO y.2)) (List.mem_map.mpr ⟨y,hy,rfl⟩) (by have:=x.nd;rw[List.map_map];exact this);rw[<- e];exact .inr ⟨_,kP y.1,b,x.rd,rfl,by rw[q1u];exact hb,rfl⟩
structure CallsAh (P:Program) (w:World) (K:W.Frag) (mg:Str->Option Value) (base:Heap):Prop where
 fold:Cal P w K mg base "_law_fold" 1 ["_law_name", "_law_blind"] spFold
def spAhead:Sp:=fun vs H Q _=>∃L W bl zs ps,vs=[.ref L,.ref W,.bl bl]/\RL H L zs/\Hl bl (zs.map (·.2))/\zs.length<=30/\PDt H W ps/\GoodW (zs.map (·.2)) (ps.map (·.2))/\Apart bl (zs.map (·.2)) (plc (ps.map (·.2))) /\
 ∀A as H',H A=none->Same H H'->H' A=some (oR as)->AhD H' A as (gOf bl (zs.map (·.2)) (ps.map (·.2)))->Mvg bl (zs.map (·.2)) (plc (ps.map (·.2))) (as.map (·.1))->Q (.ref A) H'
theorem z5d{ks:List PVal}{k:PKey}{e:Addr}(h:valP ks k=some e):∃x∈ks,x.1=k/\x.2.2=e:=by
 unfold valP at h;cases e1:ks.find? (fun x=>decide (x.1=k)) with
 |none=>rw[e1] at h;cases h
 |some x =>
  rw[e1] at h;cases h;have q:=List.find?_some e1;exact⟨x,List.mem_of_find?_eq_some e1,of_decide_eq_true q,rfl⟩
theorem valP_none{ks:List PVal}{k:PKey}:valP ks k=none↔∀x∈ks,x.1≠k:=by
 unfold valP;rw[Option.map_eq_none_iff,List.find?_eq_none];exact⟨fun h x hx z=>h x hx (decide_eq_true z),fun h x hx z=>h x hx (of_decide_eq_true z)⟩
theorem z7a{bl:Bool}{rows:List Rw}{ms:List Mv}(hl:Hl bl rows)(gw:GoodW rows ms):Mvg bl rows (plc ms) (mvs ms):=by
 refine⟨q6m gw.nd,fun{p}=>?_⟩;rw[mvs_in];constructor
 ·rintro⟨q,h1,h2⟩;obtain⟨k,hk,_⟩:=(gw.all _ h1).th;exact⟨List.mem_map.mpr ⟨_,hk,rfl⟩,by rw[show plc ms p=q from q3z gw.nd h1];exact h2⟩
 ·rintro⟨h1,h2⟩;by_cases h:p∈ms.map (·.1)
  ·obtain⟨m,hm,rfl⟩:=List.mem_map.mp h;refine⟨m.2,hm,?_⟩;rw[q3z gw.nd hm] at h2;exact h2
  ·exact absurd (q3y h) h2
abbrev q7p:Stmt:=top 36
theorem sc_ahead:FnScope ["_law_rows_here", "_law_wishes", "_law_blind", "_law_there", "_law_path", "_law_mark", "_law_ahead_here", "_law_place", "_law_other"] ["_law_rows_here", "_law_wishes", "_law_blind"] (defScope q7p):=⟨rfl,rfl,rfl,by decide +kernel,rfl,by decide +kernel,by decide +kernel⟩
theorem z7b(D:Df K mg "_law_ahead" q7p ["_law_rows_here", "_law_wishes", "_law_blind"])(T:Txt mg)(C:CallsAh P w K mg base):Cal P w K mg base "_law_ahead" 2 ["_law_rows_here", "_law_wishes", "_law_blind"] spAhead:=by
 refine D.cal sc_ahead (fun vs H Q E h=>?_) (fun f cdv A outer s H vs Q E hr h=>?_)
 ·obtain⟨L,W,bl,zs,ps,rfl,_⟩:=h;rfl
 ·obtain⟨L,W,bl,zs,ps,rfl,rl,hl,h30,pd,gw,ap,k⟩:=h;refine⟨_,(q0e (q0j (i:=3) sc_ahead.nd rfl (by first|exact Or.inl rfl|exact Or.inr rfl) (q7e P w rfl rfl)) (q0e (q1x PassesOwn.never rfl (@q3n _ _ _ _ K rfl (pv 0)) (@q2y _ _ _ _ (2) _ K rfl rfl (q0o (q0i (i:=4) sc_ahead.nd rfl (by first|exact Or.inl rfl|exact Or.inr rfl)) (q0o (q0i (i:=5) sc_ahead.nd rfl (by first|exact Or.inl rfl|exact Or.inr rfl)) q1w)) (by rfl) (by rfl)) (q0f (z6p P w rfl rfl (q5p hr) (pv 3) (q1f (q0a (q0t (sl_k K rfl) (pv 4) q1b (q1c (q1o q0s q0g))) (q0a (pe_c C.fold hr (q0a (q0x (ix_k K rfl) (pv 4) (q1o q0s q0g) (fun _ _=>rfl)) (q0a (pv 2) q0d))) q0d))) (pv 4) rfl))) (q0e (q0j (i:=6) sc_ahead.nd rfl (by first|exact Or.inl rfl|exact Or.inr rfl) q3u) (q0e (q9u H rfl (q1x PassesOwn.never rfl (@q8l _ _ _ _ K rfl (pv 1)) (q0i (i:=4) sc_ahead.nd rfl (by first|exact Or.inl rfl|exact Or.inr rfl)) (q0e (q0j (i:=7) sc_ahead.nd rfl (by first|exact Or.inl rfl|exact Or.inr rfl) (q0y (q1h hr) (pv 1) (pv 4) (fun _ _=>rfl))) (q0f (q1l (q0k (ne_k K rfl hr) (pv 7) (pv 4) (nomark _)) (q0e (q0j (i:=8) sc_ahead.nd rfl (by first|exact Or.inl rfl|exact Or.inr rfl) (z9b P w rfl rfl (q5p hr) (pv 3) (q1f (q0a (q0t (sl_k K rfl) (pv 7) q1b (q1c (q1o q0s q0g))) (q0a (pe_c C.fold hr (q0a (q0x (ix_k K rfl) (pv 7) (q1o q0s q0g) (fun _ _=>rfl)) (q0a (pv 2) q0d))) q0d))) ⟨rfl,rfl,rfl,rfl⟩)) (q2l (q1l (pt_j (@PW.pt _ _ _ (q2v (q1t (q3l (pv 8))) (q1q (pt_j (@PW.pt _ _ _ (z2t (q0k (eq_k K rfl hr) (pv 8) (pv 4) (nomark _)) (z0m (q0k (eq_k K rfl hr) (z0v (q1h hr) (pv 1) (pv 8) (pv 8) ⟨rfl,rfl,rfl,rfl⟩) (pv 8) (nomark _)))))))))) (q0f (q0j (i:=8) sc_ahead.nd rfl (by first|exact Or.inl rfl|exact Or.inr rfl) q7r)) q0n) (q0f (q5f (q1h hr) (pv 6) (pv 4) (pv 8) rfl)))) q0n))))) (q0f (q0m (pv 6))))))),?_⟩;have oks:=hl.ok;intro t ht hsys;have s1:=(Same.refl H).new (o:=PdO P w t []) ht;have dp1:DPv P w (upd H t (PdO P w t [])) t []:=⟨q0b,hsys,Nat.zero_le _,(fun _ h=>nomatch h)⟩
  generalize upd H t (PdO P w t [])=H1 at s1 dp1;refine⟨_,rfl,.inl ⟨L,rfl,⟨_,SqL.of (s1 _ _ rl.at_)⟩,?_⟩⟩;refine q4l (fun i σ' H'=>∃ks x4 x5,σ'=[some (.ref L),some (.ref W),some (.bl bl),some (.ref t),x4,x5,none,none,none]/\Same H H'/\DPv P w H' t ks/\ks.length<=i/\i<=zs.length/\(∀x∈ks,∃r∈(zs.map (·.2)).take i,x.1=keyO bl r.1/\H' x.2.2=some (.tup (vP r.1)))/\(∀r∈(zs.map (·.2)).take i,∃x∈ks,x.1=keyO bl r.1)) ⟨[],none,none,rfl,s1,dp1,Nat.le_refl _,Nat.zero_le _,(fun _ h=>nomatch h),(fun _ h=>by cases h)⟩ (fun i σ' H' _ x=>by obtain⟨_,_,_,_,s',_⟩:=x;exact SqL.of (s' _ _ rl.at_)) ?_ ?_
  ·rintro i v σ' H2 hv ⟨ks,x4,x5,rfl,s2,dp2,kl,_,h1,h2⟩;obtain⟨z,hz,rfl⟩:∃z,zs[i]?=some z/\v=.ref z.1:=by
    rw[List.getElem?_map] at hv;cases e:zs[i]? with
    |none=>rw[e] at hv;cases hv
    |some z=>rw[e] at hv;cases hv;exact⟨z,rfl,rfl⟩
   have hzr:(zs.map (·.2))[i]?=some z.2:=by rw[List.getElem?_map,hz];rfl
   have hil:i<zs.length:=(List.getElem?_eq_some_iff.mp hz).1;have okr:=oks z.2 (List.mem_of_getElem? hzr);obtain⟨pb,g1,g2⟩:=(rl.same s2).pr z (List.mem_of_getElem? hz);replace g2:H2 pb=some (.tup (vP z.2.1)):=g2;refine⟨z.1,_,rfl,SqT.of g1,rfl,_,_,rfl,_,_,rfl,rfl,?_⟩;obtain⟨c1,c2⟩:=q1g okr.ne;refine⟨_,rfl,_,rfl,_,rfl,_,rfl,_,rfl,.inr (.inr ⟨pb,_,rfl,SqT.of g2,c2,fun t1 ht1=>?_⟩)⟩;rw[c1];have s5:=(Same.refl H2).new (o:=.tup (vP z.2.1.dropLast)) ht1;have ht5:upd H2 t1 (.tup (vP z.2.1.dropLast)) t1=some (.tup (vP z.2.1.dropLast)):=q0b;generalize upd H2 t1 (.tup (vP z.2.1.dropLast))=H5 at s5 ht5;refine⟨_,rfl,_,rfl,.inr (.inl ⟨pb,_,-1,_,rfl,rfl,SqT.of (s5 _ _ g2),q3a okr.ne,?_⟩)⟩;refine⟨_,rfl,_,bl,rfl,q4c okr,by show 2<=sizeLine;decide,fun p3 hp3=>?_⟩;have s6:=(Same.refl H5).new (o:=.tup [.ref t1,.str (mk (if bl then lowN (z.2.1.getLastD []) else z.2.1.getLastD []))]) hp3;have pk:PrK (upd H5 p3 (.tup [.ref t1,.str (mk (if bl then lowN (z.2.1.getLastD []) else z.2.1.getLastD []))])) (keyO bl z.2.1) p3:=⟨t1,q0b,by show _=some (HO.tup ((kP z.2.1.dropLast).map kV));rw[q1u];exact s6 _ _ ht5⟩
   have s26:=s5.trans s6;generalize upd H5 p3 (.tup [.ref t1,.str (mk (if bl then lowN (z.2.1.getLastD []) else z.2.1.getLastD []))])=H6 at s6 pk s26;have hno:valP ks (keyO bl z.2.1)=none:=valP_none.mpr fun x hx e=>by
    obtain⟨r',hr',e1,_⟩:=h1 x hx;have hf:=q7m (oks r' (List.mem_of_mem_take hr')).ne okr.ne (e1.symm.trans e);exact z0e hl.nd hzr hr' hf
   have dp6:=dp2.same s26;have ksl:ks.length<sizeLine:=small' (by lia);refine⟨t,ks,p3,keyO bl z.2.1,pb,rfl,rfl,rfl,dp6,pk,hno,ksl,?_⟩;have etk:(zs.map (·.2)).take (i+1)=(zs.map (·.2)).take i++[z.2]:=by rw[List.take_add_one,hzr];rfl
   have tk:∀{c:Addr} {xs:List V},H6 c=some (.tup xs)->upd H6 t (PvO P w t (ks++[(keyO bl z.2.1,p3,pb)])) c=some (.tup xs):=fun{c xs} e=>by rw[q0c (fun y=>by rw[y,dp6.at_] at e;cases e)];exact e
   refine⟨ks++[(keyO bl z.2.1,p3,pb)],_,_,rfl,(s2.trans s26).put ht,dp6.put pk ksl,by rw[List.length_append];exact Nat.succ_le_succ kl,hil,fun x hx=>?_,fun r hr'=>?_⟩
   ·rcases List.mem_append.mp hx with hx|hx
    ·obtain⟨r',hr',e1,e2⟩:=h1 x hx;exact⟨r',by rw[etk];exact List.mem_append_left _ hr',e1,tk (s26 _ _ e2)⟩
    ·rw[List.mem_singleton.mp hx];exact⟨z.2,by rw[etk];exact List.mem_append_right _ (List.mem_singleton.mpr rfl),rfl,tk (s26 _ _ g2)⟩
   ·rw[etk] at hr';rcases List.mem_append.mp hr' with hr'|hr'
    ·obtain⟨x,hx,e⟩:=h2 r hr';exact⟨x,List.mem_append_left _ hx,e⟩
    ·rw[List.mem_singleton.mp hr'];exact⟨_,List.mem_append_right _ (List.mem_singleton.mpr rfl),rfl⟩
  rintro σ' H2 ⟨ks,x4,x5,rfl,s2,dp2,_,_,h1,h2⟩;rw[List.length_map,<- List.length_map (f:=fun z:Zr=>z.2),List.take_length] at h1 h2;intro A hA;have s3:=(Same.refl H2).new (o:=.dT []) hA;have hA3:upd H2 A (.dT []) A=some (.dT []):=q0b;generalize upd H2 A (.dT [])=H3 at s3 hA3;have pdW:=(pd.same s2).same s3;have hAW:A≠W:=fun z=>by rw[z,(pd.same s2).at_] at hA;cases hA
  have hAH:H A=none:=s2.free hA;refine⟨W,(fun o v e=>by rw[pd.at_] at e;cases e),?_⟩;refine⟨_,rfl,W,_,rfl,pdW.at_,fun ob=>?_⟩;have pl:ps.length<=30:=by have:=gw.len;rw[List.length_map,List.length_map] at this;lia
  refine q5g (fun i σ' H'=>∃(as:List (Pth×Option Zp)) (x4 x7 x8:Option V),σ'=[some (.ref L),some (.ref W),some (.bl bl),some (.ref t),x4,x5,some (.ref A),x7,x8]/\H' W=some (.frz ob (qR ps))/\(∀c u,c≠W->H2 c=some u->H' c=some u)/\H' A=some (oR as)/\(∀x∈as,∀z,x.2=some z->H' z.1=some (.tup (vP z.2)))/\as.map (·.1)=mvs ((ps.map (·.2)).take i)/\(∀x∈as,x.2.map (·.2)=gOf bl (zs.map (·.2)) (ps.map (·.2)) x.1))
   ⟨[],_,_,_,rfl,q0b,fun c u hc e=>by rw[q0c hc];exact s3 _ _ e,by rw[q0c hAW];exact hA3,(fun _ h=>nomatch h),rfl,(fun _ h=>nomatch h)⟩ (fun i σ' H' x=>by obtain⟨_,_,_,_,_,h,_⟩:=x;exact h) ?_ ?_
  ·rintro i ky v pb σ' H4 hk' hb ⟨as,x4,x7,x8,rfl,hfz,kp,hAa,hpr,eas,his⟩;obtain⟨y,hy,rfl,rfl⟩:∃y,ps[i]?=some y/\ky=kP y.2.1/\v=.ref y.1:=by
    rw[List.getElem?_map,List.getElem?_map] at hk';cases e:ps[i]? with
    |none=>rw[e] at hk';cases hk'
    |some r=>rw[e] at hk';cases hk';exact⟨r,rfl,rfl,rfl⟩
   rw[q1u] at hb;have hym:=List.mem_of_getElem? hy;have hymm:y.2∈ps.map (·.2):=List.mem_map.mpr ⟨y,hym,rfl⟩;have pd2:=pd.same s2;have hyt:H4 y.1=some (.tup (vP y.2.2)):=kp _ _ (fun z=>by have e:=pd2.pr y hym;rw[z,pd2.at_] at e;cases e) (pd2.pr y hym);have okq:=(gw.all _ hymm).ok;obtain⟨k0,hk0,_⟩:=(gw.all _ hymm).th;have okp:=hl.ok _ hk0;have hin:y.2.1∈(zs.map (·.2)).map (·.1):=List.mem_map.mpr ⟨_,hk0,rfl⟩;have epl:plc (ps.map (·.2)) y.2.1=y.2.2:=q3z gw.nd hymm;have e1:(ps.map (·.2)).take (i+1)=(ps.map (·.2)).take i++[y.2]:=by rw[List.take_add_one,List.getElem?_map,hy];rfl
   have al:as.length<=30:=by
    have e:=congrArg List.length eas;unfold mvs at e;rw[List.length_map,List.length_map] at e;rw[e];refine Nat.le_trans (List.length_filter_le _ _) ?_;rw[List.length_take,List.length_map];lia
   refine⟨_,rfl,_,rfl,W,_,rfl,z1h (.inr ⟨ob,hfz⟩) gw.nd hym hb,?_⟩;refine⟨_,rfl,_,rfl,q2g hyt hb okq.low okp.low ⟨_,rfl,iteB (fun hc=>?_) (fun hc=>?_)⟩⟩;rotate_left
   ·refine⟨as,_,_,_,rfl,hfz,kp,hAa,hpr,?_,his⟩;unfold mvs at eas ⊢;rw[e1,List.filter_append,List.filter_cons_of_neg (by simpa using hc),List.map_append,eas];simp
   have hne:y.2.2≠y.2.1:=by simpa using hc
   have tW:t≠W:=fun z=>by have e:=dp2.at_;rw[z,pd2.at_] at e;cases e
   have dp4:DPv P w H4 t ks:=⟨kp _ _ tW dp2.at_,dp2.sys,dp2.len,fun x hx=>by
    obtain⟨c,e5,e6⟩:=dp2.pk x hx;exact⟨c,kp _ _ (fun z=>by rw[z,pd2.at_] at e5;cases e5) e5,kp _ _ (fun z=>by rw[z,pd2.at_] at e6;cases e6) e6⟩⟩
   obtain⟨c1,c2⟩:=q1g okq.ne;refine⟨_,rfl,t,ks,rfl,dp4,_,rfl,_,rfl,_,rfl,.inr (.inr ⟨y.1,_,rfl,SqT.of hyt,c2,fun t1 ht1=>?_⟩)⟩;rw[c1];have s5:=(Same.refl H4).new (o:=.tup (vP y.2.2.dropLast)) ht1;have ht5:upd H4 t1 (.tup (vP y.2.2.dropLast)) t1=some (.tup (vP y.2.2.dropLast)):=q0b;generalize upd H4 t1 (.tup (vP y.2.2.dropLast))=H5 at s5 ht5;refine⟨_,rfl,_,rfl,.inr (.inl ⟨y.1,_,-1,_,rfl,rfl,SqT.of (s5 _ _ hyt),q3a okq.ne,?_⟩)⟩;refine⟨_,rfl,_,bl,rfl,q4c okq,by show 2<=sizeLine;decide,fun p3 hp3=>?_⟩;have s6:=(Same.refl H5).new (o:=.tup [.ref t1,.str (mk (if bl then lowN (y.2.2.getLastD []) else y.2.2.getLastD []))]) hp3;have pk:PrK (upd H5 p3 (.tup [.ref t1,.str (mk (if bl then lowN (y.2.2.getLastD []) else y.2.2.getLastD []))])) (keyO bl y.2.2) p3:=⟨t1,q0b,by show _=some (HO.tup ((kP y.2.2.dropLast).map kV));rw[q1u];exact s6 _ _ ht5⟩
   have s46:=s5.trans s6;generalize upd H5 p3 (.tup [.ref t1,.str (mk (if bl then lowN (y.2.2.getLastD []) else y.2.2.getLastD []))])=H6 at s6 pk s46;refine⟨p3,keyO bl y.2.2,rfl,dp4.same s46,pk,?_⟩;have hfz6:=s46 _ _ hfz;have hA6:=s46 _ _ hAa;have hb6:=s46 _ _ hb;have kp6:∀c u,c≠W->H2 c=some u->H6 c=some u:=fun c u hc e=>s46 _ _ (kp c u hc e);have hpr6:∀x∈as,∀z,x.2=some z->H6 z.1=some (.tup (vP z.2)):=fun x hx z e=>s46 _ _ (hpr x hx z e);have ndm:(mvs (ps.map (·.2))).Nodup:=q6m gw.nd;have etk:mvs ((ps.map (·.2)).take (i+1))=mvs ((ps.map (·.2)).take i)++[y.2.1]:=by
    unfold mvs;rw[e1,List.filter_append,List.filter_cons_of_pos (by simpa using hc),List.map_append];rfl
   have hno:∀x∈(as.map fun x=>((x.1,vO x.2):HRow)),x.1≠y.2.1:=fun x hx e=>by
    obtain⟨x',hx',rfl⟩:=List.mem_map.mp hx;have h5:x'.1∈mvs ((ps.map (·.2)).take i):=by rw[<- eas];exact List.mem_map.mpr ⟨x',hx',rfl⟩
    have e':x'.1=y.2.1:=e;rw[e'] at h5;have nd2:(mvs ((ps.map (·.2)).take (i+1))).Nodup:=q6m (by rw[List.map_take];exact gw.nd.sublist (List.take_sublist _ _));rw[etk] at nd2;exact(List.nodup_append.mp nd2).2.2 _ h5 _ (List.mem_singleton.mpr rfl) rfl
   have fin:∀(o:Option Zp) {H':Hp},Same H6 H'->o.map (·.2)=gOf bl (zs.map (·.2)) (ps.map (·.2)) y.2.1->(∀z,o=some z->H' z.1=some (.tup (vP z.2)))->∃as',upd H' A (dR ((as.map fun x=>((x.1,vO x.2):HRow))++[(y.2.1,vO o)])) W=some (.frz ob (qR ps))/\(∀c u,c≠W->H2 c=some u->upd H' A (dR ((as.map fun x=>((x.1,vO x.2):HRow))++[(y.2.1,vO o)])) c=some u)/\upd H' A (dR ((as.map fun x=>((x.1,vO x.2):HRow))++[(y.2.1,vO o)])) A=some (oR as')/\(∀x∈as',∀z,x.2=some z->upd H' A (dR ((as.map fun x=>((x.1,vO x.2):HRow))++[(y.2.1,vO o)])) z.1=some (.tup (vP z.2)))/\as'.map (·.1)=mvs ((ps.map (·.2)).take (i+1))/\(∀x∈as',x.2.map (·.2)=gOf bl (zs.map (·.2)) (ps.map (·.2)) x.1):=fun o {H'} s' eo ho=>by
    have tk:∀{c:Addr} {xs:List V},H' c=some (.tup xs)->upd H' A (dR ((as.map fun x=>((x.1,vO x.2):HRow))++[(y.2.1,vO o)])) c=some (.tup xs):=fun{c xs} e=>by rw[q0c (fun z=>by rw[z,s' _ _ hA6] at e;cases e)];exact e
    refine⟨as++[(y.2.1,o)],by rw[q0c hAW.symm];exact s' _ _ hfz6,fun c u hc e=>by rw[q0c (q0h e hA)];exact s' _ _ (kp6 c u hc e),by rw[q0b];unfold oR;rw[List.map_append];rfl,fun x hx z e=>?_,by rw[List.map_append,etk,eas];rfl,fun x hx=>?_⟩
    ·rcases List.mem_append.mp hx with hx|hx
     ·exact tk (s' _ _ (hpr6 x hx z e))
     ·rw[List.mem_singleton.mp hx] at e;exact tk (ho z e)
    ·rcases List.mem_append.mp hx with hx|hx
     ·exact his x hx
     ·rw[List.mem_singleton.mp hx];exact eo
   refine⟨fun σ' H'=>∃o:Option Zp,σ'=[some (.ref L),some (.ref W),some (.bl bl),some (.ref t),some (.ref pb),x5,some (.ref A),some (.ref y.1),some (vO o)]/\Same H6 H'/\o.map (·.2)=gOf bl (zs.map (·.2)) (ps.map (·.2)) y.2.1/\(∀z,o=some z->H' z.1=some (.tup (vP z.2))),?_,?_⟩
   ·rintro σ' H7 ⟨o,rfl,s7,eo,ho⟩;refine⟨_,rfl,_,rfl,_,rfl,A,_,rfl,DPut.t (k:=kP y.2.1) (s7 _ _ hA6) (by rw[q1u];exact s7 _ _ hb6) (by rw[List.length_map,List.length_map];exact small' (by lia)),?_⟩;rw[q2p (v:=vO o) hno];obtain⟨as',f1,f2,f3,f4,f5,f6⟩:=fin o s7 eo ho;exact⟨as',_,_,_,rfl,f1,f2,f3,f4,f5,f6⟩
   cases ev:valP ks (keyO bl y.2.2) with
   |none =>
    have hg:gOf bl (zs.map (·.2)) (ps.map (·.2)) y.2.1=none:=by
     cases e:gOf bl (zs.map (·.2)) (ps.map (·.2)) y.2.1 with
     |none=>rfl
     |some q =>
      obtain⟨_,_,h3,h4,_⟩:=(q1i hl).mp e;obtain⟨r,hr',rfl⟩:=List.mem_map.mp h3;obtain⟨x,hx,e5⟩:=h2 r hr';rw[epl] at h4;exact absurd (e5.trans (q5s (oks r hr').ne okq.ne h4)) (valP_none.mp ev x hx)
    refine⟨fun bb H7=>bb=false/\H7=H6,?_,⟨_,rfl,_,rfl,iteF ⟨rfl,rfl⟩⟩⟩;rintro bb H7 ⟨rfl,rfl⟩;exact iteF ⟨none,rfl,Same.refl _,hg.symm,fun z e=>by cases e⟩
   |some e =>
    obtain⟨x,hx,ex1,rfl⟩:=z5d ev;obtain⟨r,hrr,er1,er2⟩:=h1 x hx;have okr:=oks r hrr;have hf:fold bl r.1=fold bl y.2.2:=q7m okr.ne okq.ne (er1.symm.trans ex1);have hx6:H6 x.2.2=some (.tup (vP r.1)):=kp6 _ _ (fun z=>by rw[z,pd2.at_] at er2;cases er2) er2;have hrm:r.1∈(zs.map (·.2)).map (·.1):=List.mem_map.mpr ⟨r,hrr,rfl⟩;refine⟨fun bb H7=>bb=decide (r.1=y.2.1)/\H7=H6,?_,⟨_,rfl,_,rfl,iteT ?_⟩⟩
    ·rintro bb H7 ⟨rfl,rfl⟩;refine iteB (fun hc2=>?_) (fun hc2=>?_)
     ·have hc2:=of_decide_eq_true hc2;refine⟨none,rfl,Same.refl _,?_,fun z e=>by cases e⟩;cases e:gOf bl (zs.map (·.2)) (ps.map (·.2)) y.2.1 with
      |none=>rfl
      |some q =>
       obtain⟨_,_,h3,h4,h5⟩:=(q1i hl).mp e;rw[epl] at h4;have nd:(((zs.map (·.2)).map (·.1)).map (fold bl)).Nodup:=by rw[List.map_map];exact hl.nd
       exact absurd ((q0w nd h3 hrm (h4.trans hf.symm)).trans hc2) h5
     ·have hc2:=of_decide_eq_false hc2;refine⟨some (x.2.2,r.1),rfl,Same.refl _,?_,fun z e=>by cases e;exact hx6⟩;exact((q1i hl).mpr ⟨hin,by rw[epl];exact hne,hrm,by rw[epl];exact hf,hc2⟩).symm
    ·refine⟨fun bb H7=>bb=decide (r.1=y.2.1)/\H7=H6,(fun bb H7 z=>z),?_⟩;refine⟨_,rfl,_,rfl,q2z hx6 hb6 okr.low okp.low ⟨_,rfl,iteB (fun hc2=>?_) (fun hc2=>?_)⟩⟩
     ·exact⟨hc2.symm,rfl⟩
     ·have hc3:=of_decide_eq_false hc2;have hne2:plc (ps.map (·.2)) r.1≠r.1:=fun e=>by
       have ap':(((zs.map (·.2)).map (·.1)).map fun p=>fold bl (plc (ps.map (·.2)) p)).Nodup:=ap;exact hc3 (q0w ap' hrm hin (by show fold bl (plc (ps.map (·.2)) r.1)=fold bl (plc (ps.map (·.2)) y.2.1);rw[e,epl];exact hf))
      have pdf:∀u∈ps,H6 u.1=some (.tup (vP u.2.2)):=fun u hu=>kp6 _ _ (fun z=>by have e:=pd2.pr u hu;rw[z,pd2.at_] at e;cases e) (pd2.pr u hu);refine⟨_,rfl,W,rfl,.inr ⟨_,.inr ⟨ob,hfz6⟩⟩,_,rfl,_,rfl,?_⟩;by_cases hm:r.1∈(ps.map (·.2)).map (·.1)
      ·obtain⟨m,hm1,em⟩:=List.mem_map.mp hm;obtain⟨u,hu,rfl⟩:=List.mem_map.mp hm1;have eu:u.2.2=plc (ps.map (·.2)) r.1:=by rw[<- em];exact(q3z gw.nd hm1).symm
       refine⟨_,z1h (.inr ⟨ob,hfz6⟩) gw.nd hu (by rw[show u.2.1=r.1 from em];exact hx6),_,rfl,q2z (pdf u hu) hx6 (z5c gw hl _ hm1).2.low okr.low ⟨_,rfl,?_,rfl⟩⟩;rw[eu,decide_eq_false hne2,hc2]
      ·exact absurd (q3y hm) hne2
  ·rintro σ' H4 ⟨as,x4,x7,x8,rfl,hfz,kp,hAa,hpr,eas,his⟩;rw[List.length_map,List.length_map,<- List.length_map (f:=fun x:Addr×Mv=>x.2),List.take_length] at eas;refine⟨ob,_,hfz,_,rfl,?_⟩;have sE:Same H2 (upd H4 W (qR ps)):=q3c (pd.same s2).at_ kp;have tk:∀{c:Addr} {xs:List V},H4 c=some (.tup xs)->upd H4 W (qR ps) c=some (.tup xs):=fun{c xs} e=>by rw[q0c (fun z=>by rw[z,hfz] at e;cases e)];exact e
   have hAf:upd H4 W (qR ps) A=some (oR as):=by rw[q0c hAW];exact hAa
   exact k A as _ hAH (s2.trans sE) hAf ⟨.inl hAf,fun x hx z e=>tk (hpr x hx z e),by rw[eas];exact q6m gw.nd,his⟩ (by rw[eas];exact z7a hl gw)
end
end K
set_option maxHeartbeats 4000000
namespace K
open PySem L2 TX SB HM
section
variable{P:Program}{w:World}{K:W.Frag}{mg:Str->Option Value}{base:Heap}
def spAlong:Sp:=fun vs H Q _=>∃b A as g ps p,vs=[.ref A,.ref b]/\H b=some (.tup (vP p))/\AhD H A as g/\Fol ps g/\p∈as.map (·.1)/\p∈ps/\(∀{x y},g x=some y->y∈as.map (·.1))/\ps.length<=30/\(∀x∈ps,okP x)/\∀L zs H',H L=none->Same H H'->PL H' L zs->Orb g p (zs.map (·.2))->Q (.ref L) H'
abbrev q7q:Stmt:=top 37
theorem sc_along:FnScope ["_law_ahead_here", "_law_path", "_law_found"] ["_law_ahead_here", "_law_path"] (defScope q7q):=⟨rfl,rfl,rfl,by decide +kernel,rfl,by decide +kernel,by decide +kernel⟩
theorem z7c(D:Df K mg "_law_along" q7q ["_law_ahead_here", "_law_path"])(T:Txt mg):Cal P w K mg base "_law_along" 1 ["_law_ahead_here", "_law_path"] spAlong:=by
 refine D.cal sc_along (fun vs H Q E h=>?_) (fun f cdv A outer s H vs Q E hr h=>?_)
 ·obtain⟨b,A,as,g,ps,p,rfl,_⟩:=h;rfl
 ·obtain⟨b,A,as,g,ps,p,rfl,hb,ahd,F,hpa,hp,hcl,h30,oks,k⟩:=h;refine⟨_,(q0e (q0j (i:=2) sc_along.nd rfl (by first|exact Or.inl rfl|exact Or.inr rfl) (q1k (q0a (pv 1) q0d))) (q0e (q6n PassesOwn.never (pt_j (@PW.pt _ _ _ (q2v (q1t (q3l (q0y (q1h hr) (pv 0) (q0x (ix_k K rfl) (pv 2) (q1o q0s q0g) (fun _ _=>rfl)) (fun _ _=>rfl)))) (q1q (q0k (ne_k K rfl hr) (q0y (q1h hr) (pv 0) (q0x (ix_k K rfl) (pv 2) (q1o q0s q0g) (fun _ _=>rfl)) (fun _ _=>rfl)) (pv 1) (nomark _)))))) (q0f (q2n (@bm_k _ _ _ _ _ _ _ _ _ _ _ _ K rfl PySem.F.plainAttrs_list PySem.F.slot_list_append PySem.F.type_list_append q1y (pv 2) (q0a (q0y (q1h hr) (pv 0) (q0x (ix_k K rfl) (pv 2) (q1o q0s q0g) (fun _ _=>rfl)) (fun _ _=>rfl)) q0d) (by rfl) (by rfl) (by rfl) (by rfl) (by rfl))))) (q0f (q0m (pv 2))))),?_⟩;refine⟨_,rfl,by show 1<=sizeLine;decide,fun L hL=>?_⟩;have s1:=(Same.refl H).new (o:=.lst [.ref b]) hL;refine q6o (fun σ' H'=>∃zs:List Zp,σ'=[some (.ref A),some (.ref b),some (.ref L)]/\Same H H'/\PL H' L zs/\Trk g p (zs.map (·.2))/\∀z∈zs,z.2∈as.map (·.1)) (fun _ H'=>100-lenAt L H') ⟨[(b,p)],rfl,s1,⟨q0b,fun z hz=>by rw[List.mem_singleton.mp hz];exact⟨s1 _ _ hb,oks p hp⟩⟩,Trk.one,fun z hz=>by rw[List.mem_singleton.mp hz];exact hpa⟩ ?_ ?_
  ·rintro σ' H1 ⟨zs,rfl,s1,pl,t,hza⟩;have pos:zs≠[]:=fun z=>by have:=t.hd;rw[z] at this;cases this
   have hlast:=List.getLast?_eq_some_getLast pos;generalize zs.getLast pos=z at hlast;have hat:atI (zs.map fun z=>V.ref z.1) (-1)=some (.ref z.1):=q7n (by rw[List.getLast?_map,hlast];rfl);have hlp:(zs.map (·.2)).getLast?=some z.2:=by rw[List.getLast?_map,hlast];rfl
   have hzm:=List.mem_of_getLast? hlast;have hz1:=(pl.pr z hzm).1;have zl:zs.length<=30:=by have:=t.len F hp;rw[List.length_map] at this;lia
   obtain⟨o,dg,eo,ho⟩:=(ahd.same s1).get (hza z hzm) hz1;refine⟨fun bb H2=>H2=H1/\(bb=true->∃q,g z.2=some q/\q≠p)/\(bb=false->g z.2=none\/g z.2=some p),?_,?_⟩
   ·rintro bb H2 ⟨rfl,hT,hF⟩;refine ite2 (fun h=>?_) (fun h=>⟨_,rfl,k L zs _ hL s1 pl ⟨t,fun{x} hx=>by rw[hlp] at hx;cases hx;exact hF (by simpa using h)⟩⟩);obtain⟨q,hq,nq⟩:=hT h;cases o with
    |none=>rw[hq] at eo;cases eo
    |some u =>
    have eu:u.2=q:=Option.some.inj (eo.trans hq);have he:=ho u rfl;rw[eu] at he;refine⟨_,rfl,.inl ⟨rfl,_,SqL.of pl.at_⟩,_,rfl,_,rfl,_,rfl,.inl ⟨L,_,-1,_,rfl,rfl,SqL.of pl.at_,hat,A,_,rfl,dg,?_⟩⟩;refine⟨L,_,_,rfl,rfl,pl.at_,by rw[List.length_map];exact small' (by lia),?_⟩;have tk:∀S xs,H2 S=some (.tup xs)->upd H2 L (.lst (zs.map (fun z=>V.ref z.1)++[.ref u.1])) S=some (.tup xs):=fun S xs e=>by
     rw[q0c (fun z=>by rw[z,pl.at_] at e;cases e)];exact e
    have t2:=t.more F hlp hq nq;refine⟨⟨zs++[(u.1,q)],rfl,s1.put hL,⟨by rw[List.map_append];exact q0b,fun y hy=>?_⟩,by rw[List.map_append];exact t2,fun y hy=>?_⟩,?_⟩
    ·rcases List.mem_append.mp hy with hy|hy
     ·exact⟨tk _ _ (pl.pr y hy).1,(pl.pr y hy).2⟩
     ·rw[List.mem_singleton.mp hy];exact⟨tk _ _ he,oks q (F.to hq)⟩
    ·rcases List.mem_append.mp hy with hy|hy
     ·exact hza y hy
     ·rw[List.mem_singleton.mp hy];exact hcl hq
    ·rw[q2i q0b,q2i pl.at_,List.length_append,List.length_map];show 100-(zs.length+1)<100-zs.length;lia
   ·refine⟨_,rfl,_,rfl,_,rfl,.inl ⟨L,_,-1,_,rfl,rfl,SqL.of pl.at_,hat,A,_,rfl,dg,_,rfl,?_⟩⟩;cases o with
    |none=>exact iteF ⟨rfl,(fun z=>by cases z),fun _=>.inl eo.symm⟩
    |some u =>
     have e1:g z.2=some u.2:=eo.symm;refine iteT ⟨_,rfl,_,rfl,_,rfl,.inl ⟨L,_,-1,_,rfl,rfl,SqL.of pl.at_,hat,A,_,rfl,dg,_,rfl,q2g (ho u rfl) (s1 _ _ hb) (oks u.2 (F.to e1)).low (oks p hp).low ⟨_,rfl,rfl,fun h=>⟨u.2,e1,by simpa using h⟩,fun h=>.inr (by rw[e1];congr 1;simpa using h)⟩⟩⟩
  ·intro σ3 H3 Q1 Q2 hq h;obtain⟨R,h1,h2⟩:=h;exact⟨R,fun b H1 r=>hq _ _ (h1 b H1 r),h2⟩
end
end K
set_option maxHeartbeats 4000000
namespace K
open PySem L2 TX SB HM
section
variable{P:Program}{w:World}{K:W.Frag}{mg:Str->Option Value}{base:Heap}
structure AhG (H:Hp) (A:Addr) (as:List (Pth×Option Zp)) (g:Pth->Option Pth) (ps:List Pth):Prop where
 at_:H A=some (oR as)
 ah:AhD H A as g
 F:Fol ps g
 sub:∀x∈as.map (·.1),x∈ps
 cl:∀{x y},g x=some y->x∈as.map (·.1)/\y∈as.map (·.1)
 few:ps.length<=30
 oks:∀x∈ps,okP x
theorem AhG.same{H H':Hp}{A:Addr}{as:List (Pth×Option Zp)}{g:Pth->Option Pth}{ps:List Pth}(x:AhG H A as g ps)(s:Same H H'):AhG H' A as g ps:=⟨s _ _ x.at_,x.ah.same s,x.F,x.sub,x.cl,x.few,x.oks⟩
def behs(as:List (Pth×Option Zp)):List (Option Zp):=as.map (·.2)
theorem z7d{os:List (Option Zp)}{q:Pth}:hasO os q=true↔∃z,some z∈os/\z.2=q:=by
 unfold hasO;rw[List.any_eq_true];constructor
 ·rintro⟨o,ho,e⟩;have e:=of_decide_eq_true e;cases o with
  |none=>cases e
  |some z=>exact⟨z,ho,Option.some.inj e⟩
 ·rintro⟨z,hz,e⟩;exact⟨some z,hz,decide_eq_true (by rw[<- e];rfl)⟩
theorem z7e{ms hs:List Mv}(nd:(ms.map (·.1)).Nodup)(p:hs.Perm ms):plc hs=plc ms:=by
 funext x;have nd2:(hs.map (·.1)).Nodup:=(p.map _).nodup_iff.mpr nd;by_cases h:x∈ms.map (·.1)
 ·obtain⟨m,hm,rfl⟩:=List.mem_map.mp h;rw[q3z nd hm,q3z nd2 (p.mem_iff.mpr hm)]
 ·rw[q3y h,q3y fun z=>h ((p.map _).mem_iff.mp z)]
theorem GoodW.perm{rows:List Rw}{ms hs:List Mv}(g:GoodW rows ms)(p:hs.Perm ms):GoodW rows hs:=⟨fun m hm=>g.all m (p.mem_iff.mp hm),(p.map _).nodup_iff.mpr g.nd⟩
theorem z1j{bl:Bool}{rows:List Rw}{f:Pth->Pth}(hl:Hl bl rows)(ap:Apart bl rows f){x y:Pth}(h:nx bl (rows.map (·.1)) f x=some y):(x∈rows.map (·.1)/\f x≠x)/\(y∈rows.map (·.1)/\f y≠y):=by
 obtain⟨h1,h2,h3,h4,h5⟩:=(q1i hl).mp h;refine⟨⟨h1,h2⟩,h3,fun e=>h5 ?_⟩;have ap':((rows.map (·.1)).map fun p=>fold bl (f p)).Nodup:=ap;exact q0w ap' h3 h1 (by show fold bl (f y)=fold bl (f x);rw[e];exact h4)
def dPs(ps:List Pth):PyData:=.list (ps.map fun p=>.tuple (dP p))
theorem z7w{H:Hp}:∀{zs:List Zp},(∀z∈zs,H z.1=some (.tup (vP z.2))/\okP z.2)->Dts K H (zs.map fun z=>V.ref z.1) ((zs.map (·.2)).map fun p=>.tuple (dP p))
 |[],_=>.nil
 |z::zs,h=>.cons (q1m (h z List.mem_cons_self).1) (z7w fun y hy=>h y (List.mem_cons_of_mem _ hy))
theorem z5e{H:Hp}:∀{zs:List Zl},(∀z∈zs,PL H z.1 z.2)->Dts K H (zs.map fun z=>V.ref z.1) ((zs.map cont).map dPs)
 |[],_=>.nil
 |z::zs,h=>.cons (.lst (SqL.of (h z List.mem_cons_self).at_) (z7w (h z List.mem_cons_self).pr)) (z5e fun y hy=>h y (List.mem_cons_of_mem _ hy))
theorem z7x:∀{ps:List Pth},(∀p∈ps,Low p)->PyData.canLayAll0 (ps.map fun p=>.tuple (dP p))=true
 |[],_=>by simp[PyData.canLayAll0]
 |p::ps,h=>by
  rw[List.map_cons];simp only[PyData.canLayAll0,PyData.canLay0,q5j (h p List.mem_cons_self),z7x fun y hy=>h y (List.mem_cons_of_mem _ hy),Bool.and_self]
theorem z7y:∀ps:List Pth,PyData.depthAll (ps.map fun p=>.tuple (dP p))<=20
 |[]=>by simp[PyData.depthAll]
 |p::ps=>by
  have h1:=q4n p;have h3:=z7y ps;rw[List.map_cons];simp only[PyData.depthAll,PyData.depth];lia
theorem z7z:∀{rs:List (List Pth)},(∀r∈rs,∀p∈r,Low p)->PyData.canLayAll0 (rs.map dPs)=true
 |[],_=>by simp[PyData.canLayAll0]
 |r::rs,h=>by
  rw[List.map_cons];unfold dPs;simp only[PyData.canLayAll0,PyData.canLay0,z7x (h r List.mem_cons_self),Bool.true_and];exact z7z fun y hy=>h y (List.mem_cons_of_mem _ hy)
theorem z8a:∀rs:List (List Pth),PyData.depthAll (rs.map dPs)<=30
 |[]=>by simp[PyData.depthAll]
 |r::rs=>by
  have h1:=z7y r;have h3:=z8a rs;rw[List.map_cons];unfold dPs at h3 ⊢;simp only[PyData.depthAll,PyData.depth];lia
theorem z5f{H:Hp}{L M:Addr}{zs ys:List Zl}{Q:VK}(h:LLs H L zs)(g:LLs H M ys)(e:zs.map cont=ys.map cont)(k:Q (.bl false) H):rNeU K (.ref L) (.ref M) H Q :=
 ne_dt (d:=.list ((zs.map cont).map dPs)) (.lst (SqL.of h.at_) (z5e h.pr)) (.lst (SqL.of g.at_) (by rw[e];exact z5e g.pr)) (by
  simp only[PyData.canLay0];refine z7z fun r hr p hp=>?_;obtain⟨z,hz,rfl⟩:=List.mem_map.mp hr;obtain⟨u,hu,rfl⟩:=List.mem_map.mp hp;exact((h.pr z hz).pr u hu).2.low) (by have:=z8a (zs.map cont);simp only[PyData.depth];lia) k
end
end K
set_option maxHeartbeats 4000000
namespace K
open PySem L2 TX SB HM
section
variable{P:Program}{w:World}{K:W.Frag}{mg:Str->Option Value}{base:Heap}
structure CallsL (P:Program) (w:World) (K:W.Frag) (mg:Str->Option Value) (base:Heap) (c:Addr):Prop where
 draw:Cal P w K mg base "_law_draw" 1 ["_law_feed", "_law_many"] spDraw
 rows:Cal P w K mg base "_law_rows" 4 ["_law_feed", "_law_blind", "_law_most"] spRows
 good_wishes:Cal P w K mg base "_law_good_wishes" 5 ["_law_feed", "_law_rows_here", "_law_blind", "_law_most"] (spGoodW P w)
 in_order:Cal P w K mg base "_law_in_order" 3 ["_law_feed", "_law_wishes"] spInOrder
 ahead:Cal P w K mg base "_law_ahead" 2 ["_law_rows_here", "_law_wishes", "_law_blind"] spAhead
 along:Cal P w K mg base "_law_along" 1 ["_law_ahead_here", "_law_path"] spAlong
 chains:Cal P w K mg base "chains" 10 ["hall", "wishes"] (spChains c)
 k_Hall:KCal P w K mg base c "Hall" 4 ["self", "rows", "blind"] (spInit c)
def spLaw(K:W.Frag):Sp:=fun vs H Q _=>∃(a:Addr) (ns:List Int),vs=[.ref a]/\SqL K H a (ns.map V.int)/\ns.length<=63/\∀H',Q (.bl true) H'
abbrev q3f:Stmt:=top 39
theorem sc_law:FnScope ["_law_script", "_law_feed", "_law_k", "_law_blind", "_law_rows_here", "_law_wishes", "_law_ahead_here", "_law_behind", "_law_due", "_law_hall", "_law_found", "_law_chain"] ["_law_script"] (defScope q3f):=⟨rfl,rfl,rfl,by decide +kernel,rfl,by decide +kernel,by decide +kernel⟩
theorem z7f{c:Addr}(T:Txt mg)(C:CallsL P w K mg base c)(f:Addr)(cdv:Value)(A:Around)(outer:List Env)(s:Shared)(H:Hp)(vs:List V)(Q:VK)(E:XK)(hr:Room 10 (A.deeper (PyProof.Rows.envOfC "law" (defScope q3f) s.heap.objs.size f cdv)))(h:spLaw K vs H Q E):
  ∃t,PSs (cxOf CX0 P w K mg base ["_law_script", "_law_feed", "_law_k", "_law_blind", "_law_rows_here", "_law_wishes", "_law_ahead_here", "_law_behind", "_law_due", "_law_hall", "_law_found", "_law_chain"] "law" (defScope q3f) f cdv A outer s H E).nox (defBody q3f) t/\t { nx:=fun _ H'=>Q .non H',rt:=Q } (L2.start ["_law_script", "_law_feed", "_law_k", "_law_blind", "_law_rows_here", "_law_wishes", "_law_ahead_here", "_law_behind", "_law_due", "_law_hall", "_law_found", "_law_chain"] vs) H:=by
  obtain⟨sc,ns,rfl,hS,hns,k⟩:=h;refine⟨_,(q0e (q0j (i:=1) sc_law.nd rfl (by first|exact Or.inl rfl|exact Or.inr rfl) (q1k (q0a (q3s (z7k K rfl) (by rfl) T.b_list (by decide +kernel) (q0a (pv 0) q0d)) (q0a q0g (q0a q0g q0d))))) (q0e (q1x PassesOwn.never rfl (q2w rfl T.b_range (q0a (q0l (z3b rfl) (by rfl) T.b_max (by decide +kernel) (q0a q0g (q0a (q0l (z3c rfl) (by rfl) T.b_min (by decide +kernel) (q0a q0g (q0a (q0l (q5e K rfl) (by rfl) T.b_len PySem.boot_len (q0a (pv 0) q0d)) q0d))) q0d))) q0d)) (q0i (i:=2) sc_law.nd rfl (by first|exact Or.inl rfl|exact Or.inr rfl)) (q0e (q0j (i:=3) sc_law.nd rfl (by first|exact Or.inl rfl|exact Or.inr rfl) (q4t (eq_k K rfl hr) (pe_c C.draw hr (q0a (pv 1) (q0a q0g q0d))) q0g (nomark _))) (q0e (q0j (i:=4) sc_law.nd rfl (by first|exact Or.inl rfl|exact Or.inr rfl) (pe_c C.rows hr (q0a (pv 1) (q0a (pv 3) (q0a q0g q0d))))) (q0e (q0j (i:=5) sc_law.nd rfl (by first|exact Or.inl rfl|exact Or.inr rfl) (pe_c C.good_wishes hr (q0a (pv 1) (q0a (pv 4) (q0a (pv 3) (q0a q0g q0d)))))) (q0e (q0j (i:=6) sc_law.nd rfl (by first|exact Or.inl rfl|exact Or.inr rfl) (pe_c C.ahead hr (q0a (pv 4) (q0a (pv 5) (q0a (pv 3) q0d))))) (q0e (q0j (i:=7) sc_law.nd rfl (by first|exact Or.inl rfl|exact Or.inr rfl) (z4l H rfl (q2d ["_law_path"] [("_law_ahead_here",6)] rfl (@q8l _ _ _ _ K rfl (pv 6)) (fun _ _ _ _ _=>(q0i (i:=0) (show(["_law_path", "_law_ahead_here"]:List Str).Nodup by decide +kernel) rfl (by first|exact Or.inl rfl|exact Or.inr rfl))) (fun _ _ _ _ _=>q4a) (fun _ _ _ _ _=>(q0y (q1h hr) (pv 1) (pv 0) (fun _ _=>rfl)))))) (q0e (q6v (i:=8) ["_law_path"] [("_law_ahead_here",6),("_law_behind",7)] sc_law.nd rfl (by first|exact Or.inl rfl|exact Or.inr rfl) rfl (@q3n _ _ _ _ K rfl (q0l (q2m hr) (by rfl) T.b_sorted (by decide +kernel) (q0a (pv 6) q0d))) (fun _ _ _ _ _=>(q0i (i:=0) (show(["_law_path", "_law_ahead_here", "_law_behind"]:List Str).Nodup by decide +kernel) rfl (by first|exact Or.inl rfl|exact Or.inr rfl))) (fun _ _ _ _ _=>(q2x (q0k (nin_O hr) (pv 0) (pv 2) (by with_unfolding_all rfl)))) (fun _ _ _ _ _=>(pe_c C.along hr (q0a (pv 1) (q0a (pv 0) q0d))))) (q0e (q0j (i:=9) sc_law.nd rfl (by first|exact Or.inl rfl|exact Or.inr rfl) (pe_k C.k_Hall hr (q0a (pv 4) (q0a (pv 3) q0d)))) (q0e (q0j (i:=10) sc_law.nd rfl (by first|exact Or.inl rfl|exact Or.inr rfl) (pe_c C.chains hr (q0a (pv 9) (q0a (pe_c C.in_order hr (q0a (pv 1) (q0a (pv 5) q0d))) q0d)))) (q0e (q1l (pt_j (@PW.pt _ _ _ (z2t (z0n (@q6x _ _ _ K rfl (q0l (isi_k K rfl) (by rfl) T.b_isinstance (by decide +kernel) (q0a (pv 10) (q0a (z2s (by rfl) T.b_list (by decide +kernel) (show RelV (.ty "list") _ from rfl)) q0d))) (fun _=>rfl))) (z2t (q0k (ne_k K rfl hr) (pv 10) (pv 8) (nomark _)) (z0m (z0n (@q6x _ _ _ K rfl (q0l (all_k K rfl rfl) (by rfl) T.b_all (by decide +kernel) (q0a (q2d ["_law_chain"] [] rfl (@q3n _ _ _ _ K rfl (pv 10)) (fun _ _ _ _ _=>(q0i (i:=0) (show(["_law_chain"]:List Str).Nodup by decide +kernel) rfl (by first|exact Or.inl rfl|exact Or.inr rfl))) (fun _ _ _ _ _=>q4a) (fun _ _ _ _ _=>(q0l (isi_k K rfl) (by rfl) T.b_isinstance (by decide +kernel) (q0a (pv 0) (q0a (z2s (by rfl) T.b_list (by decide +kernel) (show RelV (.ty "list") _ from rfl)) q0d))))) q0d)) (fun _=>rfl)))))))) (q0f (q0m q4r)) q0n) (q0e (q1x PassesOwn.never rfl (@q3n _ _ _ _ K rfl (pv 10)) (q0i (i:=11) sc_law.nd rfl (by first|exact Or.inl rfl|exact Or.inr rfl)) (q0f (q2n (@bm_k _ _ _ _ _ _ _ _ _ _ _ _ K rfl PySem.F.plainAttrs_list PySem.F.slot_list_insert PySem.F.type_list_insert q8k (pv 11) (q0a q0g (q0a (q1f (q0a q3j q0d)) q0d)) (by rfl) (by rfl) (by rfl) (by rfl) (by rfl))))) (q0e (q2n (@bm_k _ _ _ _ _ _ _ _ _ _ _ _ K rfl PySem.F.plainAttrs_list PySem.F.slot_list_insert PySem.F.type_list_insert q8k (pv 10) (q0a q0g (q0a (q1k (q0a (q1f (q0a q3j q0d)) q0d)) q0d)) (by rfl) (by rfl) (by rfl) (by rfl) (by rfl))) (q0f (q1l (pt_j (@PW.pt _ _ _ (z2t (q0k (ne_k K rfl hr) (pe_c C.chains hr (q0a (pv 9) (q0a (q1k q0d) q0d))) (q1k q0d) (nomark _)) (z0m (q0k (ne_k K rfl hr) (pe_c C.chains hr (q0a (pv 9) (q0a (pe_c C.in_order hr (q0a (pv 1) (q0a (pv 5) q0d))) q0d))) (pv 8) (nomark _)))))) (q0f (q0m q4r)) q0n)))))))))))))) (q0f (q0m q4r)))),?_⟩;refine⟨_,rfl,sc,_,rfl,.inl hS,fun b hb=>⟨by show 3<=sizeLine;decide,fun a ha=>?_⟩⟩;have nba:b≠a:=q0h q0b ha;have F:FeedAt (upd (upd H b (.lst (ns.map V.int))) a (.lst [.ref b,.int 0,.int 0])) a b:=⟨⟨0,0,q0b⟩,ns,by rw[q0c nba];exact q0b⟩
  have sS:Same H (upd (upd H b (.lst (ns.map V.int))) a (.lst [.ref b,.int 0,.int 0])):=((Same.refl H).new hb).new ha;generalize hH1:upd (upd H b _) a _=H1;rw[hH1] at F sS;refine⟨_,rfl,_,_,rfl,.inl ⟨_,sS.seq hS,rfl⟩,?_⟩;refine⟨_,_,rfl,_,_,rfl,_,rfl,?_,?_,q3r (fun i σ' H'=>∃x2 x3 x4 x5 x6 x7 x8 x9 x10 x11,σ'=[some (.ref sc),some (.ref a),x2,x3,x4,x5,x6,x7,x8,x9,x10,x11]/\Fd a b H1 H') ⟨none,none,none,none,none,none,none,none,none,none,rfl,Fd.refl F⟩ ?_ ?_⟩
  ·rw[List.length_map];split<;>split<;>lia
  ·rw[List.length_map];split<;>split<;>lia
  ·rintro i σ' Hs hi ⟨x2,x3,x4,x5,x6,x7,x8,x9,x10,x11,rfl,fd⟩;have Fs:=fd.feed;refine⟨_,rfl,a,b,_,rfl,Fs,by decide,by decide,fun r0 H2 r00 r01 fd2=>.inl ⟨rfl,?_⟩⟩;generalize decide (V.int r0=V.int 1)=bl;refine⟨_,rfl,_,rfl,a,b,bl,18,rfl,fd2.feed,by decide,by decide,fun L zs H3 fd3 hL rl hl len=>?_⟩;have len20:zs.length<=20:=by lia
   have fd3':=fd2.trans fd3;have hLH:Hs L=none:=fd2.free hL;have hLa:L≠a:=(Fs.na hLH).symm;refine⟨_,rfl,_,rfl,_,rfl,a,b,L,bl,5,zs,rfl,fd3'.feed,rl,hl,by lia,hLa,by decide,by decide,fun W ps H4 fd4 hW pd gw ap=>?_⟩;have fd4':=fd3'.trans fd4;have rl4:=rl.fd fd3'.feed fd4 hLa;have okm:okMs (ps.map (·.2)):=z5c gw hl;have psl:ps.length<=20:=by have:=gw.len;rw[List.length_map,List.length_map] at this;lia
   have rows20:(zs.map (·.2)).length<=20:=by rw[List.length_map];exact len20
   clear fd2 fd3 fd3' fd4 rl hL hW;have hSs:∀{d:Addr},Hs d=none->H d=none:=fun{d} e=>sS.free (fd.free e);refine⟨_,rfl,_,rfl,_,rfl,L,W,bl,zs,ps,rfl,rl4,hl,by lia,pd,gw,ap,fun A0 as H5 hA s5 hAa ahd mv=>?_⟩;have F5:Fol ((zs.map (·.2)).map (·.1)) (gOf bl (zs.map (·.2)) (ps.map (·.2))):=z5a hl ap;have G5:AhG H5 A0 as (gOf bl (zs.map (·.2)) (ps.map (·.2))) ((zs.map (·.2)).map (·.1)):=⟨hAa,ahd,F5,fun x hx=>(mv.is.mp hx).1,fun{x y} h=>⟨mv.is.mpr (z1j hl ap h).1,mv.is.mpr (z1j hl ap h).2⟩,by rw[List.length_map];lia,fun x hx=>by obtain⟨r,hr',rfl⟩:=List.mem_map.mp hx;exact hl.ok r hr'⟩
   generalize hgg:gOf bl (zs.map (·.2)) (ps.map (·.2))=g at G5 F5;have al:as.length<=20:=by
    have:=z2m G5.ah.nd G5.sub;rw[List.length_map,List.length_map] at this;lia
   have kv0:((as.map fun x=>((x.1,vO x.2):HRow)).map fun r=>(kP r.1,r.2)).length=as.length:=by rw[List.length_map,List.length_map]
   have hAH:H A0=none:=hSs (fd4'.free hA);refine⟨A0,(fun o v e=>by rw[hAH] at e;cases e),?_⟩;refine⟨_,rfl,A0,_,rfl,G5.at_,fun ob=>?_⟩;intro Dc hDc;have hDA:Dc≠A0:=fun z=>by rw[z,q0b] at hDc;cases hDc
   have hDc1:H5 Dc=none:=by rw[q0c hDA] at hDc;exact hDc
   refine q5a (n:=as.length) (fun j ys H'=>ys=((behs as).take j).map vO/\H' A0=some (.frz ob (oR as))/\(∀c u,c≠A0->H5 c=some u->H' c=some u)/\H' Dc=some (.lst ys))
    ⟨rfl,by rw[q0c hDA.symm];exact q0b,fun c u hc e=>by rw[q0c (q0h e hDc1),q0c hc];exact e,q0b⟩ (fun j ys H' x=>x.2.2.2) (fun j ys H' hj x=>⟨x.2.1,by rw[kv0];exact hj⟩) (fun ys H' x=>⟨x.2.1,by rw[kv0];exact Nat.le_refl _⟩) ?_ ?_
   ·rintro j ys H2' v H3' hj ⟨rfl,hfz,kp,hDl⟩ ⟨rfl,ky,vv,pb,hk',hpb,rfl⟩;obtain⟨y,hy,rfl,rfl⟩:∃y,as[j]?=some y/\ky=kP y.1/\vv=vO y.2:=by
     rw[List.getElem?_map,List.getElem?_map] at hk';cases e:as[j]? with
     |none=>rw[e] at hk';cases hk'
     |some r=>rw[e] at hk';cases hk';exact⟨r,rfl,rfl,rfl⟩
    rw[q1u] at hpb;have hym:=List.mem_of_getElem? hy;have dg:DGet H3' A0 (.ref pb) (some (vO y.2)):=by
     have e:=q3b (rs:=as.map fun x=>((x.1,vO x.2):HRow)) (r:=(y.1,vO y.2)) (List.mem_map.mpr ⟨y,hym,rfl⟩) (by have:=G5.ah.nd;rw[List.map_map];exact this);rw[<- e];exact .inr ⟨_,kP y.1,pb,.inr ⟨ob,hfz⟩,rfl,by rw[q1u];exact hpb,rfl⟩
    refine⟨q0q,z4v (iteT ⟨_,rfl,_,rfl,A0,_,rfl,dg,hDl,small' (by rw[List.length_map,List.length_take];lia),?_,by rw[q0c hDA.symm];exact hfz,fun c u hc e=>by rw[q0c (q0h e hDc1)];exact kp c u hc e,q0b⟩)⟩;have:(behs as)[j]?=some y.2:=by unfold behs;rw[List.getElem?_map,hy];rfl
    rw[List.take_add_one,this,List.map_append];rfl
   rintro ys H2' ⟨rfl,hfz,kp,hDl⟩;rw[show(behs as).take as.length=behs as from List.take_of_length_le (by unfold behs;rw[List.length_map];exact Nat.le_refl _)] at hDl;refine⟨ob,_,hfz,?_⟩;have s5':Same H5 (upd H2' A0 (oR as)):=q3c G5.at_ kp;have hB2:upd H2' A0 (oR as) Dc=some (.lst ((behs as).map vO)):=by rw[q0c hDA];exact hDl
   generalize upd H2' A0 (oR as)=H5' at s5' hB2;clear hfz kp hDl;have G6:=G5.same s5';have behI:∀{p:Pth},hasO (behs as) p=true↔∃q,g q=some p:=fun{p}=>by
    rw[z7d];constructor
    ·rintro⟨z,hz,rfl⟩;obtain⟨x,hx,e⟩:=List.mem_map.mp hz;have:=G5.ah.is x hx;rw[e] at this;exact⟨x.1,this.symm⟩
    ·rintro⟨q,hq⟩;obtain⟨x,hx,rfl⟩:=List.mem_map.mp (G5.cl hq).1;have:=G5.ah.is x hx;rw[hq] at this;cases e:x.2 with
     |none=>rw[e] at this;cases this
     |some z=>rw[e] at this;exact⟨z,List.mem_map.mpr ⟨x,hx,e⟩,Option.some.inj this⟩
   have hks:(as.map fun x=>((x.1,vO x.2):HRow)).map (·.1)=as.map (·.1):=by rw[List.map_map];rfl
   refine⟨_,rfl,A0,_,rfl,G6.at_,by rw[List.length_map];lia,fun r hr'=>?_,fun L2 bs qs hL2 hp2 hs2 pts=>?_⟩
   ·obtain⟨x,hx,rfl⟩:=List.mem_map.mp hr';exact(G5.oks _ (G5.sub _ (List.mem_map.mpr ⟨x,hx,rfl⟩))).ne
   rw[hks] at hp2;have s7':=(Same.refl H5').new (o:=.lst (bs.map V.ref)) hL2;have hLL:upd H5' L2 (.lst (bs.map V.ref)) L2=some (.lst (bs.map V.ref)):=q0b;generalize upd H5' L2 (.lst (bs.map V.ref))=H6' at s7' hLL;have hbl:bs.length=qs.length:=Paired.length pts;have hql:qs.length=as.length:=by have:=hp2.length_eq;rw[List.length_map] at this;exact this
   have ndq:qs.Nodup:=hp2.nodup_iff.mpr G5.ah.nd;refine .inl ⟨L2,rfl,⟨_,SqL.of hLL⟩,fun R hR=>?_⟩;refine q1z (fun i ys H'=>∃rs:List Zl,ys=rs.map (fun z=>V.ref z.1)/\Same H6' H'/\H' R=some (.lst ys)/\(∀z∈rs,PL H' z.1 z.2/\H6' z.1=none/\z.1≠R/\ChnP g ((cont z).headD []) (cont z))/\rs.map (fun z=>(cont z).headD [])=(qs.take i).filter (isSt g)) ⟨[],rfl,(Same.refl H6').new hR,q0b,(fun _ h=>nomatch h),rfl⟩ (fun i ys H' h=>by obtain⟨rs,_,s',h',_⟩:=h;exact⟨h',SqL.of (s' _ _ hLL)⟩) ?_ ?_
   ·rintro i' ys H8 v hv ⟨rs,rfl,s8,hDl,hrs,ers⟩;obtain⟨b',hb',rfl⟩:∃b,bs[i']?=some b/\v=.ref b:=by
     rw[List.getElem?_map] at hv;cases e:bs[i']? with
     |none=>rw[e] at hv;cases hv
     |some z=>rw[e] at hv;cases hv;exact⟨z,rfl,rfl⟩
    obtain⟨p,hp3,hbp⟩:=Paired.at' pts hb';have hpa:p∈as.map (·.1):=hp2.mem_iff.mp (List.mem_of_getElem? hp3);have okp:=G5.oks _ (G5.sub _ hpa);have e1:qs.take (i'+1)=qs.take i'++[p]:=by rw[List.take_add_one,hp3];rfl
    have s58:=s7'.trans s8;have hb8:=s58 _ _ hbp;have G8:=G6.same s58;have rl:rs.length<=20:=by
     have e:=congrArg List.length ers;rw[List.length_map] at e;rw[e];refine Nat.le_trans (List.length_filter_le _ _) ?_;rw[List.length_take];lia
    refine⟨q0q,_,rfl,_,rfl,b',Dc,behs as,p,rfl,rfl,s58 _ _ hB2,hb8,okp.low,fun z hz=>?_,_,rfl,?_⟩
    ·obtain⟨x,hx,e⟩:=List.mem_map.mp hz;refine⟨G8.ah.pr x hx z e,?_⟩;have:=G5.ah.is x hx;rw[e] at this;exact(G5.oks z.2 (F5.to this.symm)).low
    refine iteB (fun hc=>?_) (fun hc=>?_)
    ·have hst':∀q,g q≠some p:=fun q hq=>by
      have:=behI.mpr ⟨q,hq⟩;rw[this] at hc;cases hc
     refine⟨_,rfl,_,rfl,b',A0,as,g,_,p,rfl,hb8,G8.ah,F5,hpa,G5.sub _ hpa,(fun{x y} h=>(G5.cl h).2),G5.few,G5.oks,fun Lr zr H9 hLr s9 plr orb=>?_⟩;have hD4:=s9 _ _ hDl;have hLD:Lr≠R:=fun e=>by rw[e,hDl] at hLr;cases hLr
     have kD:∀{x:Addr} {xs:List Zp},x≠R->PL H9 x xs->PL (upd H9 R (.lst (rs.map (fun z=>V.ref z.1)++[.ref Lr]))) x xs:=fun{x xs} n p=>⟨by rw[q0c n];exact p.at_,fun u hu=>⟨by rw[q0c (fun z=>by have e:=(p.pr u hu).1;rw[z,hD4] at e;cases e)];exact(p.pr u hu).1,(p.pr u hu).2⟩⟩
     have hd:(zr.map (·.2)).headD []=p:=orb.headD;refine⟨hD4,small' (by rw[List.length_map];lia),rs++[(Lr,zr)],by rw[List.map_append];rfl,(s8.trans s9).put hR,q0b,fun x hx=>?_,?_⟩
     ·rcases List.mem_append.mp hx with hx|hx
      ·exact⟨kD (hrs x hx).2.2.1 ((hrs x hx).1.same s9),(hrs x hx).2⟩
      ·rw[List.mem_singleton.mp hx];exact⟨kD hLD plr,s8.free hLr,hLD,by show ChnP g ((zr.map (·.2)).headD []) (zr.map (·.2));rw[hd];exact⟨orb,hst'⟩⟩
     ·rw[e1,List.filter_append,List.filter_cons_of_pos (isSt_iff.mpr hst'),List.map_append,ers];show _++[(zr.map (·.2)).headD []]=_;rw[hd];rfl
    ·have hc':hasO (behs as) p=true:=by simpa using hc
     obtain⟨q,hq⟩:=behI.mp hc';refine⟨rs,rfl,s8,hDl,hrs,?_⟩;rw[e1,List.filter_append,List.filter_cons_of_neg (fun h=>isSt_iff.mp h q hq),ers];simp
   rintro ys H6 ⟨rs,rfl,s6',hRl,hrs',ers⟩;rw[List.length_map,hbl,List.take_length] at ers;have s46:=((s5.trans s5').trans s7').trans s6';have s46':=(s5.trans s5').trans s7';have ll6:LLs H6 R rs:=⟨hRl,fun z hz=>(hrs' z hz).1⟩
   have rg6:Chs g (mvOf (zs.map (·.2)) (ps.map (·.2))) (rs.map cont):=by
    refine Chs.of ndq (fun{p}=>(hp2.mem_iff).trans mv.is) (fun xs hx=>?_) (by rw[List.map_map,<- ers];exact List.Perm.refl _) ?_
    ·obtain⟨z,hz,rfl⟩:=List.mem_map.mp hx;exact(hrs' z hz).2.2.2
    ·rw[List.map_map];show(rs.map fun z=>(cont z).headD []).Pairwise _;rw[ers];exact hs2.filter _
   rw[<- hgg] at rg6;have rl6:=rl4.same s46;have fd6:=fd4'.same s46;have pd6:=pd.same s46;have hRa:R≠a:=(Fs.na (fd4'.free (s46'.free hR))).symm;have hrsa:∀z∈rs,z.1≠a:=fun z hz=>(Fs.na (fd4'.free (s46'.free (hrs' z hz).2.1))).symm;have hAa':=s46;clear rl4 fd4' pd s46 s46' s5 s5' s7' s6' hA hAa ahd hR hrs' hAa' G5 G6 hB2 hRl ers pts hs2 hp2 hLL hL2;refine⟨_,rfl,_,rfl,fun h dx hh hdx n=>?_⟩;refine⟨h,dx,L,bl,zs,rfl,q0b,z9o rl6 hh hdx,hl,by lia,fun d H7 hd i1 i2 i3=>⟨rfl,?_⟩⟩;obtain⟨s7,_⟩:=z4x hh hdx hd i3;have ha7:HallAt c H7 h d bl (zs.map (·.2)):=⟨⟨dx,i1⟩,i2⟩
   have fd7:=fd6.same s7;have rl7:=rl6.same s7;have pd7:=pd6.same s7;have ll7:=ll6.same s7;clear i1 i2 i3 hd s7 hdx n hh fd6 rl6 pd6 ll6;have llfd:∀{H H':Hp} {c:Addr} {ys:List Zl},LLs H c ys->c≠a->(∀z∈ys,z.1≠a)->FeedAt H a b->Fd a b H H'->LLs H' c ys:=fun{H H' c ys} l n m F fd=>⟨fd.at l.at_ n,fun z hz=>(l.pr z hz).fd F fd (m z hz)⟩
   have asked:∀{H8:Hp} {M:Addr} {ws:List Zm},HallAt c H8 h d bl (zs.map (·.2))->ML H8 M ws->(ws.map (·.2)).Perm (ps.map (·.2))->GW c H8 h d M bl (zs.map (·.2)) ws/\plc (ws.map (·.2))=plc (ps.map (·.2)):=fun{H8 M ws} h8 ml pm=>by
    have hfun:=z7e gw.nd pm;have wsl:ws.length<=20:=by have:=pm.length_eq;rw[List.length_map,List.length_map] at this;lia
    exact⟨⟨h8,hl,by lia,ml,gw.perm pm,by lia,by rw[hfun];exact ap⟩,hfun⟩
   refine⟨_,rfl,_,rfl,_,rfl,a,b,W,ps,rfl,fd7.feed,pd7,gw.nd,okm,by lia,fun M ws H8 fd8 hM ml pm=>?_⟩;have ha8:=z4y ha7 fd7.feed fd8;obtain⟨G8,eg8⟩:=asked ha8 ml pm;have rl8:=rl7.fd fd7.feed fd8 hLa;have pd8:=pd7.fd fd7.feed fd8;have ll8:=llfd ll7 hRa hrsa fd7.feed fd8;have fd8':=fd7.trans fd8;refine⟨h,d,M,bl,_,ws,rfl,G8,fun R2 rs2 H9 hR2 hrs2 s9 ll9 rg9 ne9=>?_⟩;unfold gOf mvOf at rg9;rw[eg8] at rg9;have e9:rs2.map cont=rs.map cont:=rg9.uniq rg6;have rsl:∀{ys:List Zl},Chs (gOf bl (zs.map (·.2)) (ps.map (·.2))) (mvOf (zs.map (·.2)) (ps.map (·.2))) (ys.map cont)->ys.length<=20:=fun{ys} r=>by
    have:=z2m r.nd (m:=(zs.map (·.2)).map (·.1)) fun x hx=>by
     obtain⟨y,hy,rfl⟩:=List.mem_map.mp hx;obtain⟨p,hm,hp⟩:=r.is.mp hy;rw[hp.o.headD];exact hm.1
    rw[List.length_map,List.length_map,List.length_map] at this;lia
   have rsl2:=rsl rg9;refine⟨fun bb H'=>bb=false/\Same H9 H',?_,?_⟩;rotate_left
   ·refine⟨_,rfl,_,_,_,true,rfl,TyOf.lst ll9.at_,rfl,true,rfl,iteF ?_⟩;refine⟨_,rfl,_,rfl,z5f ll9 (ll8.same s9) e9 ⟨_,rfl,iteF ?_⟩⟩;refine⟨_,rfl,.inl ⟨R2,rfl,⟨_,SqL.of ll9.at_⟩,fun D2 hD2=>?_⟩⟩;refine q6c (xs:=rs2.map fun z=>V.ref z.1) (fun j ys H21=>ys=List.replicate j (V.bl true)/\Same H9 H21/\H21 D2=some (.lst ys)/\j<=rs2.length) ⟨rfl,(Same.refl H9).new hD2,q0b,Nat.zero_le _⟩ (fun j ys H21 x=>⟨x.2.2.1,SqL.of (x.2.1 _ _ ll9.at_)⟩) ?_ ?_
    ·rintro j ys H21 v hv ⟨rfl,s21,hHD,hj⟩;obtain⟨z,hz,rfl⟩:∃z,rs2[j]?=some z/\v=.ref z.1:=by
      rw[List.getElem?_map] at hv;cases e:rs2[j]? with
      |none=>rw[e] at hv;cases hv
      |some z=>rw[e] at hv;cases hv;exact⟨z,rfl,rfl⟩
     have hj':=(List.getElem?_eq_some_iff.mp hz).1;exact⟨_,rfl,_,_,_,true,rfl,TyOf.lst (s21 _ _ (ll9.pr z (List.mem_of_getElem? hz)).at_),rfl,hHD,small' (by rw[List.length_replicate];lia),by rw[List.replicate_succ'],s21.put hD2,q0b,hj'⟩
    rintro ys H21 ⟨rfl,s21,hHD,_⟩;refine⟨D2,List.replicate (rs2.map fun z=>V.ref z.1).length true,rfl,SqL.of (by rw[List.map_replicate];exact hHD),true,?_,rfl,s21⟩;show true=(List.replicate _ true).all id;rw[List.all_replicate];simp
   rintro bb H10 ⟨rfl,s10⟩;refine iteF ?_;have ll10:=ll9.same s10;have s810:=s9.trans s10;refine⟨_,rfl,.inl ⟨R2,rfl,⟨_,SqL.of ll10.at_⟩,?_⟩⟩;refine q4l (fun j σ' H'=>∃x11,σ'=[some (.ref sc),some (.ref a),some (.int (0+(i:Int))),some (.bl bl),some (.ref L),some (.ref W),some (.ref A0),some (.ref Dc),some (.ref R),some (.ref h),some (.ref R2),x11]/\Same H8 H'/\H' R2=some (.lst (rs2.map fun z=>V.ref z.1))/\(∀z∈rs2,∃xs,H' z.1=some (.lst xs)/\xs.length<=30+j)/\j<=rs2.length) ⟨_,rfl,s810,ll10.at_,fun z hz=>⟨_,(ll10.pr z hz).at_,?_⟩,Nat.zero_le _⟩ (fun j σ' H' _ x=>by obtain⟨_,_,_,h',_⟩:=x;exact SqL.of h') ?_ ?_
   ·rw[List.length_map];obtain⟨p,hm,hp⟩:=rg9.is.mp (List.mem_map.mpr ⟨z,hz,rfl⟩);have:=hp.o.len (z5a hl ap) hm.1;rw[List.length_map,List.length_map] at this;lia
   ·rintro j v σ' H11 hv ⟨x11,rfl,s11,hR11,hz11,hj⟩;obtain⟨z,hz,rfl⟩:∃z,rs2[j]?=some z/\v=.ref z.1:=by
     rw[List.getElem?_map] at hv;cases e:rs2[j]? with
     |none=>rw[e] at hv;cases hv
     |some z=>rw[e] at hv;cases hv;exact⟨z,rfl,rfl⟩
    have hzm:=List.mem_of_getElem? hz;have hj':=(List.getElem?_eq_some_iff.mp hz).1;obtain⟨xs,hx,xl⟩:=hz11 z hzm;refine⟨_,rfl,.inl ⟨rfl,_,SqL.of hx⟩,by show 1<=sizeLine;decide,fun q1 hq1=>?_⟩;have sq:=(Same.refl H11).new (o:=.tup [.str "x"]) hq1;refine⟨z.1,_,_,rfl,rfl,sq _ _ hx,small' (by lia),_,rfl,(s11.trans sq).put (hrs2 z hzm),by rw[q0c (ne9 z hzm).symm];exact sq _ _ hR11,fun y hy=>?_,hj'⟩;by_cases e:y.1=z.1
    ·rw[e];exact⟨_,q0b,by rw[List.length_cons];lia⟩
    ·obtain⟨ys,hy2,yl⟩:=hz11 y hy;exact⟨ys,by rw[q0c e];exact sq _ _ hy2,by lia⟩
   rintro σ' H11 ⟨x11,rfl,s11,hR11,_,_⟩;refine⟨_,rfl,.inl ⟨rfl,_,SqL.of hR11⟩,by show 1<=sizeLine;decide,fun q1 hq1=>⟨by show 1<=sizeLine;decide,fun q2 hq2=>?_⟩⟩;have sq:=((Same.refl H11).new (o:=.tup [.str "y"]) hq1).new (o:=.lst [.ref q1]) hq2;refine⟨R2,_,_,rfl,rfl,sq _ _ hR11,by rw[List.length_map];exact small' (by lia),?_⟩;have s12:∀{o:HO},Same H8 (upd _ R2 o):=fun{o}=>(s11.trans sq).put (o:=o) hR2;generalize hHB:upd _ R2 _=H12;have s12:Same H8 H12:=by rw[<- hHB];exact s12
   clear hHB sq hq1 hq2 s11 hR11 s810 ll10 s10 s9 ll9 rg9 e9 ne9 hrs2 hR2 G8 eg8 rsl2;have ha12:=ha8.same s12;have rl12:=rl8.same s12;have pd12:=pd8.same s12;have ll12:=ll8.same s12;have fd12:=fd8'.same s12;clear ha8 rl8 pd8 ll8 fd8' s12 fd8 ml;refine⟨fun bb H'=>bb=false/\Fd a b H12 H',?_,?_⟩
   ·rintro bb H' ⟨rfl,f'⟩;exact iteF ⟨_,_,_,_,_,_,_,_,_,_,rfl,fd.trans (fd12.trans f')⟩
   refine⟨_,rfl,by show 0<=sizeLine;decide,fun E1 hE1=>?_⟩;have sE:=(Same.refl H12).new (o:=.lst []) hE1;have mlE:ML (upd H12 E1 (.lst [])) E1 []:=⟨q0b,fun _ h=>nomatch h⟩
   generalize upd H12 E1 (.lst [])=H13 at sE mlE;have GE:GW c H13 h d E1 bl (zs.map (·.2)) []:=⟨ha12.same sE,hl,by lia,mlE,⟨(fun _ h=>nomatch h),.nil⟩,Nat.zero_le _,by show(((zs.map (·.2)).map (·.1)).map fun p=>fold bl p).Nodup;rw[List.map_map];exact hl.nd⟩
   refine⟨h,d,E1,bl,_,[],rfl,GE,fun R3 rs3 H14 hR3 hrs3 s14 ll14 rg14 _=>?_⟩;have no3:rs3=[]:=by
    have:rs3.map cont=[]:=List.eq_nil_iff_forall_not_mem.mpr fun x hx=>by
     obtain⟨p,hm,hp⟩:=rg14.is.mp hx;exact hm.2 rfl
    exact List.map_eq_nil_iff.mp this
   subst no3;have s1214:=sE.trans s14;refine⟨by show 0<=sizeLine;decide,fun E2 hE2=>?_⟩;have sE2:=(Same.refl H14).new (o:=.lst []) hE2;refine z5f (zs:=[]) (ys:=[]) (ll14.same sE2) ⟨q0b,(fun _ h=>nomatch h)⟩ rfl ⟨_,rfl,iteF ?_⟩;have s13:=s1214.trans sE2;generalize upd H14 E2 (.lst [])=H15 at s13;have fd13:=fd12.same s13;refine⟨_,rfl,_,rfl,_,rfl,a,b,W,ps,rfl,fd13.feed,pd12.same s13,gw.nd,okm,by lia,fun M3 ws3 H16 fd14 hM3 ml3 pm3=>?_⟩;obtain⟨G14,eg14⟩:=asked (z4y (ha12.same s13) fd13.feed fd14) ml3 pm3;have ll14':=llfd (ll12.same s13) hRa hrsa fd13.feed fd14;refine⟨h,d,M3,bl,_,ws3,rfl,G14,fun R4 rs4 H17 hR4 hrs4 s15 ll15 rg15 _=>?_⟩;unfold gOf mvOf at rg15;rw[eg14] at rg15;exact⟨_,rfl,z5f ll15 (ll14'.same s15) (rg15.uniq rg6) ⟨_,rfl,rfl,(((Fd.refl fd12.feed).same s13).trans fd14).same s15⟩⟩
  ·rintro σ' H' ⟨x2,x3,x4,x5,x6,x7,x8,x9,x10,x11,rfl,fd⟩;exact k _
end
end K
set_option maxHeartbeats 4000000
namespace K
open PySem L2 TX SB HM
theorem df_mk{K:W.Frag}{mg:Str->Option Value}{h:Heap}{x:Str}{st:Stmt}{ps:List Str}{f:Addr}{oc:Value}{od an:Option Addr}{osl:Array (Option Value)}{kV doc pm cdv ct:Value}(X:K.In h)(G:h.Ns mainGlobals mg)(a:W.nsIn K mainGlobals x=some (some (.ref f)))(l:K.lookup f=some ⟨oc,od,.func (W.fnOf x x (defArgs st) (defBody st) (defScope st) .none kV doc pm an cdv ct),osl⟩)(c:W.codeIn K cdv x=true)(k:W.keepIn K (.ref f)=true)(hb:∀(kV doc pm:Value) (an:Option Addr) (cdv ct:Value) (us:List Value),us.length=ps.length->bindArgs (W.fnOf x x (defArgs st) (defBody st) (defScope st) .none kV doc pm an cdv ct) ⟨us,[]⟩=pure (ps.zip us)):Df K mg x st ps :=
 ⟨f,_,q8c l c k,W.mg_of X G a,(q8c (st:=st) l c k).binds hb⟩
theorem mf_mk{K:W.Frag}{C:Addr}{m qual:Str}{st:Stmt}{ps:List Str}{f:Addr}{oc:Value}{od an:Option Addr}{osl:Array (Option Value)}{kV doc pm cdv ct:Value}(a:W.findIn K (.ref C) m=some (some (.ref f)))(l:K.lookup f=some ⟨oc,od,.func (W.fnOf m qual (defArgs st) (defBody st) (defScope st) .none kV doc pm an cdv ct),osl⟩)(c:W.codeIn K cdv qual=true)(k:W.keepIn K (.ref f)=true)(i:W.isFn K (.ref f)=true)(hb:∀(kV doc pm:Value) (an:Option Addr) (cdv ct:Value) (us:List Value),us.length=ps.length->bindArgs (W.fnOf m qual (defArgs st) (defBody st) (defScope st) .none kV doc pm an cdv ct) ⟨us,[]⟩=pure (ps.zip us)):Mf K C m qual st ps :=
 ⟨⟨f,_,q8c l c k,⟨a,i,k⟩,(q8c (st:=st) l c k).binds hb⟩⟩
theorem len_1{us:List Value}(h:us.length=1):∃x0,us=[x0]:=by
 match us,h with
 |[x0],_=>exact⟨x0,rfl⟩
theorem len_2{us:List Value}(h:us.length=2):∃x0 x1,us=[x0,x1]:=by
 match us,h with
 |[x0,x1],_=>exact⟨x0,x1,rfl⟩
theorem len_3{us:List Value}(h:us.length=3):∃x0 x1 x2,us=[x0,x1,x2]:=by
 match us,h with
 |[x0,x1,x2],_=>exact⟨x0,x1,x2,rfl⟩
theorem len_4{us:List Value}(h:us.length=4):∃x0 x1 x2 x3,us=[x0,x1,x2,x3]:=by
 match us,h with
 |[x0,x1,x2,x3],_=>exact⟨x0,x1,x2,x3,rfl⟩
theorem len_5{us:List Value}(h:us.length=5):∃x0 x1 x2 x3 x4,us=[x0,x1,x2,x3,x4]:=by
 match us,h with
 |[x0,x1,x2,x3,x4],_=>exact⟨x0,x1,x2,x3,x4,rfl⟩
theorem all_mk{lw:W.OpenLaw}{w:World}{K:W.Frag}{h:Heap}{mg:Str->Option Value}{fa:Addr}(X:K.In h)(G:h.Ns mainGlobals mg)(hfa:mg "law" = some (.ref fa)){f24:Addr}{od24 an24:Option Addr}{sl24:Array (Option Value)}{oc24 kV24 dc24 pm24 cd24 ct24:Value}{cHall:Addr}{fminit:Addr}{odminit anminit:Option Addr}{slminit:Array (Option Value)}{ocminit kVminit dcminit pmminit cdminit ctminit:Value}{dtminit:Addr}{tdminit:Option Addr}{tsminit:Array (Option Value)}{tnminit:Nat}(D_is_wish:Df K mg "is_wish" q4e ["hall", "path", "place", "places"])(D_wished_places:Df K mg "wished_places" q1r ["hall", "wishes"])(D_all_places:Df K mg "all_places" q2r ["hall", "wishes"])(D_meetings:Df K mg "meetings" q3o ["hall", "wishes"])(D_ask_wishes:Df K mg "ask_wishes" q2t ["hall", "wishes"])(D_things_that_move:Df K mg "things_that_move" q1j ["places"])(D_next_ones:Df K mg "next_ones" q3e ["hall", "places"])(D_asked_next_ones:Df K mg "asked_next_ones" q1n ["hall", "wishes"])(D_from_thing_on:Df K mg "from_thing_on" q1s ["path", "nexts"])(D_chains:Df K mg "chains" q5t ["hall", "wishes"])(D_alike:Df K mg "alike" q7i ["one", "other"])(D_draw:Df K mg "_law_draw" z0a ["_law_feed", "_law_many"])(D_name_signs:Df K mg "_law_name_signs" q2o [])(D_text:Df K mg "_law_text" z0b ["_law_feed", "_law_signs", "_law_size"])(D_a_name:Df K mg "_law_a_name" q5q ["_law_feed"])(D_fold:Df K mg "_law_fold" z0c ["_law_name", "_law_blind"])(D_rows:Df K mg "_law_rows" z0d ["_law_feed", "_law_blind", "_law_most"])(D_other_case:Df K mg "_law_other_case" q2s ["_law_feed", "_law_name"])(D_some_of:Df K mg "_law_some_of" q4f ["_law_feed", "_law_things", "_law_many"])(D_free_place:Df K mg "_law_free_place" q2u ["_law_feed", "_law_marks", "_law_path", "_law_taken", "_law_blind"])(D_good_wishes:Df K mg "_law_good_wishes" q2k ["_law_feed", "_law_rows_here", "_law_blind", "_law_most"])(D_in_order:Df K mg "_law_in_order" q3p ["_law_feed", "_law_wishes"])(D_ahead:Df K mg "_law_ahead" q7p ["_law_rows_here", "_law_wishes", "_law_blind"])(D_along:Df K mg "_law_along" q7q ["_law_ahead_here", "_law_path"])(a24:W.nsIn K mainGlobals "law" = some (some (.ref f24)))(l24:K.lookup f24=some ⟨oc24,od24,.func (W.fnOf "law" "law" (defArgs q3f) (defBody q3f) (defScope q3f) .none kV24 dc24 pm24 an24 cd24 ct24),sl24⟩)(c24:W.codeIn K cd24 "law" = true)(k24:W.keepIn K (.ref f24)=true)(T:Txt mg)(gcHall:W.nsIn K mainGlobals "Hall" = some (some (.ref cHall)))(pgcHall:W.plainGet K cHall Str.empty=true)(hdcHall:W.hasDictIn K cHall=true)(pocHall:W.plainOver K cHall=true)(sacHall:W.findIn K (.ref cHall) "__setattr__" = some (some (.builtin "object.__setattr__")))(nacHall_blind:W.findIn K (.ref cHall) "blind" = some none)(nacHall_marks:W.findIn K (.ref cHall) "marks" = some none)(aminit:W.findIn K (.ref cHall) "__init__" = some (some (.ref fminit)))(lminit:K.lookup fminit=some ⟨ocminit,odminit,.func (W.fnOf "__init__" "Hall.__init__" (defArgs q0r) (defBody q0r) (defScope q0r) (.ref dtminit) kVminit dcminit pmminit anminit cdminit ctminit),slminit⟩)(cminit:W.codeIn K cdminit "Hall.__init__" = true)(kminit:W.keepIn K (.ref fminit)=true)(iminit:W.isFn K (.ref fminit)=true)(mkcHall:W.makesIn K cHall=true)(kccHall:W.keepIn K (.ref cHall)=true)(tminit:K.lookup dtminit=some ⟨.type "tuple",tdminit,.seq #[.bool false] tnminit,tsminit⟩)(M_is_drawer:Mf K cHall "is_drawer" "Hall.is_drawer" q1p ["self", "path"])(M_is_one_place:Mf K cHall "is_one_place" "Hall.is_one_place" q1e ["self", "one", "other"])(M_rows:Mf K cHall "rows" "Hall.rows" q3d ["self"])(M_there:Mf K cHall "there" "Hall.there" q2q ["self", "place"]):
  ∃fd:FuncData,(∀(s:Shared) (v:Value),BindsTo s fd ⟨[v],[]⟩ [("_law_script",v)])/\∀base:Heap,K.In base->base.Ns mainGlobals mg->FnOk lw.prog w K mg base CX0 11 fa fd ["_law_script"] (spLaw K):=by
 have e:=hfa.symm.trans (W.mg_of X G a24);cases e;have clcHall:Cls K cHall:=⟨pgcHall,hdcHall,pocHall,sacHall⟩
 have K_Hall:Kf K mg cHall "Hall" "Hall.__init__" q0r ["self", "rows", "blind"]:=⟨⟨fminit,_,ocminit,odminit,.ref dtminit,kVminit,dcminit,pmminit,anminit,cdminit,ctminit,slminit,rfl,lminit,cminit,⟨mkcHall,aminit,iminit,kccHall⟩,fun s us Y hl=>by obtain⟨_,_,_,rfl⟩:=len_3 (by rw[List.append_nil] at hl;exact hl:us.length=3);exact W.binds_K Y rfl tminit rfl rfl rfl,fun s us Y hl=>by obtain⟨_,_,rfl⟩:=len_2 (by rw[List.length_append] at hl;exact Nat.succ.inj hl:us.length=2);exact W.binds_K Y rfl tminit rfl rfl rfl⟩,W.mg_of X G gcHall,clcHall⟩
 have FL:=q8c (st:=q3f) l24 c24 k24;refine⟨W.fnOf "law" "law" (defArgs q3f) (defBody q3f) (defScope q3f) .none kV24 dc24 pm24 an24 cd24 ct24,fun s v=>.of_eq rfl,fun base _ _=>?_⟩;have hk:Hk K cHall:=⟨clcHall,nacHall_blind,nacHall_marks⟩
 have c1:=z9c (P:=lw.prog) (w:=w) (base:=base) D_draw T;have c2:=z9e (P:=lw.prog) (w:=w) (base:=base) D_text T c1;have c3:=q7g (P:=lw.prog) (w:=w) (base:=base) D_name_signs;have c4:=z4u (P:=lw.prog) (w:=w) (base:=base) D_a_name T ⟨c1,c2,c3⟩;have c5:=z9g (P:=lw.prog) (w:=w) (base:=base) D_fold T;have c6:=z9h (P:=lw.prog) (w:=w) (base:=base) D_rows T ⟨c1,c4,c5⟩;have c7:=z6s (P:=lw.prog) (w:=w) (base:=base) D_alike T;have c8:=q9a (P:=lw.prog) (w:=w) (base:=base) M_is_one_place hk T ⟨c7⟩;have c9:=z6t (P:=lw.prog) (w:=w) (base:=base) M_there hk T ⟨c8⟩;have c10:=z9i (P:=lw.prog) (w:=w) (base:=base) K_Hall hk T ⟨c9⟩;have c11:=z6u (P:=lw.prog) (w:=w) (base:=base) M_rows hk T;have c12:=q9d (P:=lw.prog) (w:=w) (base:=base) M_is_drawer hk T;have c13:=z2j (P:=lw.prog) (w:=w) (base:=base) D_is_wish T ⟨there1 c9,c12⟩;have c14:=z2k (P:=lw.prog) (w:=w) (base:=base) D_wished_places T ⟨c13⟩;have c15:=z9j (P:=lw.prog) (w:=w) (base:=base) D_all_places T ⟨c14,c11⟩;have c16:=z9l (P:=lw.prog) (w:=w) (base:=base) D_meetings T ⟨c15,c8⟩;have c17:=q7k (P:=lw.prog) (w:=w) (base:=base) D_other_case T ⟨c1⟩;have c18:=z2l (P:=lw.prog) (w:=w) (base:=base) D_some_of T ⟨c1⟩;have c19:=q7l (P:=lw.prog) (w:=w) (base:=base) D_ask_wishes T ⟨c16⟩;have c22:=z9r (P:=lw.prog) (w:=w) (base:=base) D_free_place T ⟨c1,c4,c5⟩;have c23:=q5v (P:=lw.prog) (w:=w) (base:=base) D_good_wishes T ⟨c1,c5,c22,c17,c18⟩;have c24:=z0g (P:=lw.prog) (w:=w) (base:=base) D_in_order T ⟨c18⟩;have d1:=z6y (P:=lw.prog) (w:=w) (base:=base) D_things_that_move T;have d2:=z9u (P:=lw.prog) (w:=w) (base:=base) D_next_ones T ⟨d1,there1 c9⟩;have d3:=z6z (P:=lw.prog) (w:=w) (base:=base) D_asked_next_ones T ⟨c19,c15,d1,d2⟩;have d4:=z9v (P:=lw.prog) (w:=w) (base:=base) D_from_thing_on T;have d5:=z5b (P:=lw.prog) (w:=w) (base:=base) D_chains T ⟨d3,d4⟩;have d6:=z7b (P:=lw.prog) (w:=w) (base:=base) D_ahead T ⟨c5⟩;have d7:=z7c (P:=lw.prog) (w:=w) (base:=base) D_along T;have CL:CallsL lw.prog w K mg base cHall:=⟨c1,c6,c23,c24,d6,d7,d5,c10⟩
 exact FL.ok sc_law (fun vs H Q E h=>by obtain⟨a,ns,rfl,_⟩:=h;rfl) (fun cdv A outer s H vs Q E hr h=>z7f T CL _ cdv A outer s H vs Q E hr h)
theorem walk{l:W.OpenLaw}{q:Program}{loose:List Str}{XP:(Str->Option Value)->Heap->Prop}{YP:World->Heap->Prop}{d:DefRec}{K:Params->W.Frag}(hn:l.most=some 63)(hdf:d.params.defaults=[])(hY:∀(w:World) (h:Heap),YP w h->(K w.params).In h)(F:∀(w:World) (mg:Str->Option Value) (fa:Addr) (h:Heap),(K w.params).In h->h.Ns mainGlobals mg->mg d.name=some (.ref fa) ->
   ∃fd:FuncData,(∀(s:Shared) (u:Value),BindsTo s fd ⟨[u],[]⟩ [("_law_script",u)])/\∀base:Heap,(K w.params).In base->base.Ns mainGlobals mg->FnOk l.prog w (K w.params) mg base CX0 11 fa fd ["_law_script"] (spLaw (K w.params))):
  W.WalkO q loose XP YP l.row.toRowW d [] (fun f vs=>PySem.call f vs) :=
 L2.walk_of (n:=63) (k:=11) (x := "_law_script") (CX:=fun _=>CX0) (sp:=fun w=>spLaw (K w.params)) hn (by decide) hdf ⟨rfl,by decide,by decide,rfl⟩ hY F (fun _ _ a ns hl _ hS=>⟨a,ns,rfl,hS,hl,fun _=>rfl⟩) fun _ _ _ _ _ z=>z
end K
namespace K
open PySem PySem.W PyProof.Rows
abbrev loose:List Str:=[Str.ofString "_wall",Str.ofString "HallError",Str.ofString "NoHall",Str.ofString "NoWish",Str.ofString "Meets",Str.ofString "is_wish",Str.ofString "wished_places",Str.ofString "all_places",Str.ofString "meetings",Str.ofString "ask_wishes",Str.ofString "things_that_move",Str.ofString "next_ones",Str.ofString "asked_next_ones",Str.ofString "from_thing_on",Str.ofString "chains",Str.ofString "alike",Str.ofString "Hall",Str.ofString "_law_draw",Str.ofString "_law_name_signs",Str.ofString "_law_other_signs",Str.ofString "_law_text",Str.ofString "_law_a_name",Str.ofString "_law_fold",Str.ofString "_law_rows",Str.ofString "_law_other_case",Str.ofString "_law_some_of",Str.ofString "_law_free_place",Str.ofString "_law_good_wishes",Str.ofString "_law_in_order",Str.ofString "_law_then",Str.ofString "_law_ahead",Str.ofString "_law_along",Str.ofString "_law_rings"]
abbrev vw:Program:=view PySem.Challenge.pw_renamehall_k41_chains [39]
abbrev xt(s:Shared):Bool:=xlAt vw [] s&&recOk [] s
end K
open PySem PySem.W PyProof.Rows
local macro_rules | `(tactic| o_head $H) => `(tactic| (
  refine holds_open (q := K.vw) (loose := K.loose) (Xt := K.xt) (XP := XL K.vw []) (Yf := Hook.obs $H) (Ya := Hook.val $H) (YP := Hook.says $H) (N := 60000) ?hl (Hook.of $H) (Hook.keeps $H) (fun s e => xl_of s (Bool.and_eq_true_iff.mp e).1) XL.keeps
    (by rfl) (by rfl) (by rfl) (fun s e => recFacts_of (Bool.and_eq_true_iff.mp e).2) (by rfl) (by first | assumption | decide +kernel) (by decide +kernel) ⟨rfl, rfl, rfl, rfl, rfl, by decide +kernel⟩ ?hw ?hc))
set_option maxRecDepth 100000 in
set_option maxHeartbeats 0 in
theorem PySem.Challenge.cw_renamehall_k41_chains_holds : PySem.Challenge.rw_renamehall_k41_chains.Holds := by
  w_on; o_law; k_head; (case hw => w_witness2)
  (case hl =>
    refine HD.left (by kernel_rfl) (by rfl) (fun _ => by kernel_rfl) fun w os => ?_
    change (segRunT treeTable PySem.Challenge.pw_renamehall_k41_chains w 11 (some (.ref 6)) 0 60000 (HD.bootT w.params os) (topStub PySem.Challenge.pw_renamehall_k41_chains)).map (fun r => ((staticsOk (importedModules PySem.Challenge.pw_renamehall_k41_chains.main.body) (boot_heap w.params) r.2.1.abs.heap && namesBound PySem.Challenge.pw_renamehall_k41_chains r.2.1.abs.heap && gensDone r.2.1.abs && laidKept (boot_heap w.params) r.2.1.abs.heap), openSeen K.vw K.loose (importedModules PySem.Challenge.pw_renamehall_k41_chains.main.body) K.xt true r.2.1.abs, _)) = some (true, openGood K.vw K.loose, _)
    unfold K.xt K.vw
    rw [PySem.W.Fast.te10110043849684766642, PySem.W.Fast.te4187177175401517315, PySem.W.Fast.te14364793385576792824, PySem.W.Fast.te5923862056798008813, PySem.W.Fast.te2907704001595003146]
    kernel_rfl)
  k_fill
  refine K.walk (l := PySem.Challenge.rw_renamehall_k41_chains) rfl rfl (fun w h Y => PySem.W.kIn_of Y) ?F
  case F =>
    intro w mg fa h KX G hmg
    refine' K.all_mk KX G hmg (K.df_mk KX G ?_ ?_ ?_ ?_ ?_) (K.df_mk KX G ?_ ?_ ?_ ?_ ?_) (K.df_mk KX G ?_ ?_ ?_ ?_ ?_) (K.df_mk KX G ?_ ?_ ?_ ?_ ?_) (K.df_mk KX G ?_ ?_ ?_ ?_ ?_) (K.df_mk KX G ?_ ?_ ?_ ?_ ?_) (K.df_mk KX G ?_ ?_ ?_ ?_ ?_) (K.df_mk KX G ?_ ?_ ?_ ?_ ?_) (K.df_mk KX G ?_ ?_ ?_ ?_ ?_) (K.df_mk KX G ?_ ?_ ?_ ?_ ?_) (K.df_mk KX G ?_ ?_ ?_ ?_ ?_) (K.df_mk KX G ?_ ?_ ?_ ?_ ?_) (K.df_mk KX G ?_ ?_ ?_ ?_ ?_) (K.df_mk KX G ?_ ?_ ?_ ?_ ?_) (K.df_mk KX G ?_ ?_ ?_ ?_ ?_) (K.df_mk KX G ?_ ?_ ?_ ?_ ?_) (K.df_mk KX G ?_ ?_ ?_ ?_ ?_) (K.df_mk KX G ?_ ?_ ?_ ?_ ?_) (K.df_mk KX G ?_ ?_ ?_ ?_ ?_) (K.df_mk KX G ?_ ?_ ?_ ?_ ?_) (K.df_mk KX G ?_ ?_ ?_ ?_ ?_) (K.df_mk KX G ?_ ?_ ?_ ?_ ?_) (K.df_mk KX G ?_ ?_ ?_ ?_ ?_) (K.df_mk KX G ?_ ?_ ?_ ?_ ?_) ?_ ?_ ?_ ?_ ⟨mg_none_of KX G ?_, mg_none_of KX G ?_, mg_none_of KX G ?_, mg_none_of KX G ?_, mg_none_of KX G ?_, mg_none_of KX G ?_, mg_none_of KX G ?_, mg_none_of KX G ?_, mg_none_of KX G ?_, mg_none_of KX G ?_, mg_none_of KX G ?_, mg_none_of KX G ?_⟩ ?_ ?_ ?_ ?_ ?_ ?_ ?_ ?_ ?_ ?_ ?_ ?_ ?_ ?_ ?_ (K.mf_mk ?_ ?_ ?_ ?_ ?_ ?_) (K.mf_mk ?_ ?_ ?_ ?_ ?_ ?_) (K.mf_mk ?_ ?_ ?_ ?_ ?_ ?_) (K.mf_mk ?_ ?_ ?_ ?_ ?_ ?_)
    all_goals try (first | k_is | kit_is | rfl | decide +kernel | (intro _ _ _ _ _ _ us hl; first | (obtain ⟨_, rfl⟩ := K.len_1 hl; rfl) | (obtain ⟨_, _, rfl⟩ := K.len_2 hl; rfl) | (obtain ⟨_, _, _, rfl⟩ := K.len_3 hl; rfl) | (obtain ⟨_, _, _, _, rfl⟩ := K.len_4 hl; rfl) | (obtain ⟨_, _, _, _, _, rfl⟩ := K.len_5 hl; rfl) | (cases us with | nil => rfl | cons _ _ => cases hl)))
