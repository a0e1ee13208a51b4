import PyProof.Rows.All
import Wide.All
import OpenK.AllK
import Wide.FinOn
import Lean
import PyProof.EqAt
import PyProof.EqKinds
import PyProof.TupleCall
import PySem.Challenge.RW_renamehall_k26_put_and_dropped
import KE.IntTextLaws
import KE.KIsAll
import PyProof.ExcArgsOwn
import PyProof.ExcBaseAll.ValueError
import PyProof.ExcClass2
import PyProof.ExcInit
import PyProof.InstStore
import PyProof.Rows.CatchBare
import PyProof.Rows.CatchOwn
import PyProof.StationsW
import PyProof.SumWalk
import PyProof.ReprRoads
set_option Elab.async false
set_option linter.all false
set_option maxRecDepth 100000
namespace L2
open PySem PySem.Spec PyProof.Rows
abbrev Key:=Sum Int Str
def keyIs:Key→Value→Bool
  | .inl k,v=>Value.isInt k v
  | .inr x,v=>Value.isStrOf x v
def keyH (w:World):Key→Int
  | .inl k=>hashInt k
  | .inr x=>hashStr w x
theorem q1h:∀ {k:Key} {v:Value},keyIs k v=true→(∃ i t,k=Sum.inl i∧v=Value.int i t)∨(∃ x t,k=Sum.inr x∧v=Value.str x t)
  | .inl i,v,h=>by
    obtain⟨t,e⟩:=Value.isInt_shape (k:=i) (v:=v) h
    exact .inl ⟨i,t,rfl,e⟩
  | .inr x,v,h=>by
    obtain⟨t,e⟩:=Value.isStrOf_shape (x:=x) (v:=v) h
    exact .inr ⟨x,t,rfl,e⟩
theorem z2p (i:Int) (t:Tok):keyIs (.inl i) (.int i t)=true:=by simp [keyIs,Value.isInt]
theorem z2q (x:Str) (t:Tok):keyIs (.inr x) (.str x t)=true:=by simp [keyIs,Value.isStrOf]
theorem key_ll (a b:Int):decide ((Sum.inl a:Key)=Sum.inl b)=(a==b):=by
  by_cases e:a=b
  · subst e;simp
  · have h:¬ (Sum.inl a:Key)=Sum.inl b:=fun q=>e (Sum.inl.inj q)
    rw [decide_eq_false h]
    exact (beq_eq_false_iff_ne.mpr e).symm
theorem key_rr (a b:Str):decide ((Sum.inr a:Key)=Sum.inr b)=decide (a=b):=by
  by_cases e:a=b
  · subst e;simp
  · have h:¬ (Sum.inr a:Key)=Sum.inr b:=fun q=>e (Sum.inr.inj q)
    rw [decide_eq_false h,decide_eq_false e]
theorem key_lr (a:Int) (b:Str):decide ((Sum.inl a:Key)=Sum.inr b)=false:=decide_eq_false (fun q=>nomatch q)
theorem key_rl (a:Str) (b:Int):decide ((Sum.inr a:Key)=Sum.inl b)=false:=decide_eq_false (fun q=>nomatch q)
def mixKind (prog:Program) (w:World):PySem.KeyKind prog w Key where
  is:=keyIs
  hash:=keyH w
  inj:=fun v a b ha hb=>by
    rcases q1h ha with ⟨i,t,rfl,rfl⟩ | ⟨x,t,rfl,rfl⟩
    · rcases q1h hb with ⟨j,u,rfl,e⟩ | ⟨y,u,rfl,e⟩
      · injection e with e1 _;rw [e1]
      · exact nomatch e
    · rcases q1h hb with ⟨j,u,rfl,e⟩ | ⟨y,u,rfl,e⟩
      · exact nomatch e
      · injection e with e1 _;rw [e1]
  byValue:=fun k v h=>by
    rcases q1h h with ⟨i,t,rfl,rfl⟩ | ⟨x,t,rfl,rfl⟩ <;> rfl
  pyHash:=fun hv h=>by
    rcases q1h hv with ⟨i,t,rfl,rfl⟩ | ⟨x,t,rfl,rfl⟩
    · exact wpAny_pyHash_int h
    · exact wpAny_pyHash_str h
  eqBool:=fun hu hv h=>by
    rcases q1h hu with ⟨i,t,rfl,rfl⟩ | ⟨x,t,rfl,rfl⟩
    · rcases q1h hv with ⟨j,u,rfl,rfl⟩ | ⟨y,u,rfl,rfl⟩
      · rw [key_ll] at h;exact wpAny_eqBool_int h
      · rw [key_lr] at h;exact SeqAt.EqAt.int_str i t y u _ _ _ _ h
    · rcases q1h hv with ⟨j,u,rfl,rfl⟩ | ⟨y,u,rfl,rfl⟩
      · rw [key_rl] at h;exact SeqAt.EqAt.str_int x t j u _ _ _ _ h
      · rw [key_rr] at h;exact wpAny_eqBool_str h
  «strs» := fun k x t v h=>by
    rcases q1h h with ⟨i,u,rfl,e⟩ | ⟨y,u,rfl,e⟩
    · exact nomatch e
    · injection e with e1 _
      subst e1
      cases v <;> rfl
theorem q9t (prog:Program) (w:World) (i:Int) (t:Tok):(mixKind prog w).is (.inl i) (.int i t)=true:=z2p i t
theorem q9u (prog:Program) (w:World) (x:Str) (t:Tok):(mixKind prog w).is (.inr x) (.str x t)=true:=z2q x t
end L2
namespace L2
open PySem PySem.Spec PyProof.Rows
inductive V where
  | non | bl (b:Bool) | int (i:Int) | str (x:Str) | byt (b:Array UInt8) | flt (b:UInt64) | ref (a:Addr) | ty (n:String)
  deriving DecidableEq
def RelV:V→Value→Prop
  | .non,u=>u=Value.none
  | .bl b,u=>u=Value.bool b
  | .int i,u=>∃ t,u=Value.int i t
  | .str x,u=>∃ t,u=Value.str x t
  | .byt b,u=>∃ t,u=Value.bytes b t
  | .flt b,u=>∃ t,u=Value.float b t
  | .ref a,u=>u=Value.ref a
  | .ty n,u=>u=Value.type n
abbrev Vals:List V→List Value→Prop:=Paired RelV
theorem Vals.length {xs:List V} {us:List Value} (r:Vals xs us):xs.length=us.length:=Paired.length r
theorem Vals.get:∀ {xs:List V} {us:List Value} {i:Nat} {x:V},Vals xs us→xs[i]? = some x→∃ u,us[i]? = some u∧RelV x u
  | _,_,_,_,.nil,e=>by simp at e
  | _,_,0,_,.cons r _,e=>by simp at e;subst e;exact⟨_,rfl,r⟩
  | _,_,i+1,x,.cons _ t,e=>by
    obtain⟨u,h1,h2⟩:=Vals.get (i:=i) (x:=x) t (by simpa using e)
    exact⟨u,by simpa using h1,h2⟩
theorem Vals.set {x:V} {u:Value} (r:RelV x u):∀ {xs:List V} {us:List Value} (i:Nat),Vals xs us→Vals (xs.set i x) (us.set i u)
  | _,_,_,.nil => .nil
  | _,_,0,.cons _ t => .cons r t
  | _,_,i+1,.cons q t => .cons q (Vals.set r i t)
theorem Vals.append:∀ {xs ys:List V} {us ws:List Value},Vals xs us→Vals ys ws→Vals (xs++ys) (us++ws)
  | _,_,_,_,.nil,s=>s
  | _,_,_,_,.cons r t,s => .cons r (Vals.append t s)
theorem Vals.take:∀ {xs:List V} {us:List Value} (n:Nat),Vals xs us→Vals (xs.take n) (us.take n)
  | _,_,0,_ => .nil
  | _,_,_+1,.nil => .nil
  | _,_,n+1,.cons r t => .cons r (Vals.take n t)
theorem Vals.drop:∀ {xs:List V} {us:List Value} (n:Nat),Vals xs us→Vals (xs.drop n) (us.drop n)
  | _,_,0,r=>r
  | _,_,_+1,.nil => .nil
  | _,_,n+1,.cons _ t=>Vals.drop n t
def RelO:Option V→Option Value→Prop
  | some v,some u=>RelV v u
  | none,none=>True
  | _,_=>False
def KV {κ:Type}:List (κ×V)→List (κ×Value)→Prop:=Paired fun (p:κ×V) (q:κ×Value)=>p.1=q.1∧RelV p.2 q.2
def kV:Key→V
  | .inl i => .int i
  | .inr x => .str x
inductive HO where
  | lst (xs:List V)
  | tup (xs:List V)
  | dK (kvs:List (Key×V)) | dT (kvs:List (List Key×V))
  | set (S:Int→Bool) (n:Nat)
  | ins (C dx:Addr) (fs:List (Str×V))
  | own (x:Addr)
  | xd (fs:List (Str×V))
  | met (f x:Addr)
  | rng (lo hi:Int)
  | frz (o:Obj) (u:HO)
  | tbl (ps:Array Value)
  | ext (φ:Heap→Prop)
abbrev Hp:=Addr→Option HO
def upd (H:Hp) (a:Addr) (o:HO):Hp:=fun b=>if b=a then some o else H b
theorem q0b {H:Hp} {a:Addr} {o:HO}:upd H a o a=some o:=by unfold upd;rw [if_pos rfl]
theorem q0c {H:Hp} {a b:Addr} {o:HO} (h:b≠a):upd H a o b=H b:=by unfold upd;rw [if_neg h]
theorem z8w {H:Hp} {a:Addr} {o u:HO}:upd (upd H a o) a u=upd H a u:=by
  funext b;unfold upd;split <;> rfl
theorem z2r {H:Hp} {a b:Addr} {o u:HO} (h:H a=some o) (h' : H b=some u) (d:o≠u):a≠b:=by
  intro e;subst e;rw [h] at h';exact d (Option.some.inj h')
theorem q0k {H:Hp} {a b:Addr} {o:HO} (h:H a=some o) (h' : H b=none):a≠b:=by
  intro e;subst e;rw [h] at h';cases h'
section
variable (P:Program) (w:World)
def ObjOk (H:Hp) (h:Heap) (a:Addr):HO→Prop
  | .lst xs=>xs.length≤sizeLine∧∃ (its:List Value) (n:Nat),Vals xs its∧h.get? a=some { cls := .type "list",data := .seq its.toArray n }
  | .tup xs=>xs.length≤sizeLine∧∃ its:List Value,Vals xs its∧IsTup h a its.toArray
  | .dK kvs=>kvs.length≤sizeLine∧(a==sysModules)=false∧∃ vs,KV kvs vs∧h.DictOf (mixKind P w) a vs
  | .dT kvs=>kvs.length≤sizeLine∧(a==sysModules)=false∧∃ xs:List (List Key×Addr×Value),
      Paired (fun (p:List Key×V) (q:List Key×Addr×Value)=>p.1=q.1∧H q.2.1=some (.tup (p.1.map kV))∧RelV p.2 q.2.2) kvs xs ∧
      ∃ o es ep,h.get? a=some o∧o.ExactDict∧o.data = .dict es ep∧es.toList=xs.map (entryOfKey (tupleKind (mixKind P w)))∧(xs.map (·.1)).Nodup
  | .set S n=>h.SetOf (intKind P w) a S n
  | .ins C dx fs=>H dx=some (.own a)∧fs.length≤1000∧dx≠a∧h.get? a=some (PySem.W.instObj C dx) ∧
      ∃ mA,h.Ns1 dx mA∧(∀ f,RelO (fs.lookup f) (mA f))∧PySem.Within mA (fs.map (·.1))
  | .own _=>∃ o,h.get? a=some o
  | .xd fs=>∃ mA,h.Ns1 a mA∧∀ f,RelO (fs.lookup f) (mA f)
  | .rng lo hi=>∃ t u v,h.get? a=some { cls := .type "range",data := .fields #[.int lo t,.int hi u,.int 1 v] }
  | .frz o u=>h.get? a=some o∧ObjOk H h a u
  | .tbl ps=>h.get? a=some { cls := .none,data := .fields ps }
  | .met f x=>h.get? a=some (PySem.W.methodObj (.ref f) (.ref x))
  | .ext φ=>φ h∧(∃ o,h.get? a=some o)∧∀ h1 h2:Heap,φ h1→(∀ o,h1.get? a=some o→h2.get? a=some o)→φ h2
def HOk (H:Hp) (h:Heap):Prop:=∀ a o,H a=some o→ObjOk P w H h a o
end
section
variable {P:Program} {w:World} {H H' : Hp} {h h' : Heap} {a:Addr} {o:HO}
theorem ObjOk.lt (x:ObjOk P w H h a o):a<h.objs.size:=by
  cases o with
  | lst xs=>obtain⟨_,_,_,_,e⟩:=x;exact Heap.lt_size e
  | tup xs=>obtain⟨_,_,_,p⟩:=x;exact p.lt
  | dK kvs=>obtain⟨_,_,_,_,o,_,_,e,_⟩:=x;exact Heap.lt_size e
  | dT kvs=>obtain⟨_,_,_,_,o,_,_,e,_⟩:=x;exact Heap.lt_size e
  | set S n=>obtain⟨o,_,_,_,e,_⟩:=x;exact Heap.lt_size e
  | ins C dx fs=>obtain⟨_,_,_,e,_⟩:=x;exact Heap.lt_size e
  | own y=>obtain⟨_,e⟩:=x;exact Heap.lt_size e
  | xd fs=>obtain⟨_,⟨_,_,_,e,_⟩,_⟩:=x;exact Heap.lt_size e
  | rng lo hi=>obtain⟨_,_,_,e⟩:=x;exact Heap.lt_size e
  | frz ob u=>obtain⟨e,_⟩:=x;exact Heap.lt_size e
  | tbl ps=>exact Heap.lt_size (show h.get? a=some _ from x)
  | met f y=>exact Heap.lt_size (show h.get? a=some _ from x)
  | ext φ=>obtain⟨_,⟨_,e⟩,_⟩:=x;exact Heap.lt_size e
theorem Paired.mapP {α β:Type} {F G:α→β→Prop}:∀ {l₁:List α} {l₂:List β},Paired F l₁ l₂→(∀ a b,F a b→G a b)→Paired G l₁ l₂
  | _,_,.nil,_ => .nil
  | _,_,.cons r t,f => .cons (f _ _ r) (Paired.mapP t f)
theorem Paired.imp' {α β:Type} {F G:α→β→Prop} (f:∀ a b,F a b→G a b) {l₁:List α} {l₂:List β} (r:Paired F l₁ l₂):Paired G l₁ l₂:=Paired.mapP r f
theorem ObjOk.stay (x:ObjOk P w H h a o) (k:∀ b u,(b=a∨H b=some (.own a))→h.get? b=some u→h'.get? b=some u)
    (ho:∀ b,H b=some (.own a)→H' b=some (.own a)) (ht:∀ b xs,H b=some (.tup xs)→H' b=some (.tup xs)):ObjOk P w H' h' a o:=by
  induction o with
  | lst xs=>obtain⟨z,its,n,r,e⟩:=x;exact⟨z,its,n,r,k _ _ (.inl rfl) e⟩
  | tup xs=>obtain⟨z,its,r,ob,e,c⟩:=x;exact⟨z,its,r,ob,k _ _ (.inl rfl) e,c⟩
  | dK kvs=>obtain⟨z,y,vs,r,ob,es,ep,e,c⟩:=x;exact⟨z,y,vs,r,ob,es,ep,k _ _ (.inl rfl) e,c⟩
  | dT kvs =>
    obtain⟨z,y,xs,r,ob,es,ep,e,c⟩:=x
    exact⟨z,y,xs,Paired.mapP r fun p q z=>⟨z.1,ht _ _ z.2.1,z.2.2⟩,ob,es,ep,k _ _ (.inl rfl) e,c⟩
  | set S n=>obtain⟨ob,es,ep,t,e,c⟩:=x;exact⟨ob,es,ep,t,k _ _ (.inl rfl) e,c⟩
  | ins C dx fs =>
    obtain⟨d,z,ne,e,mA,⟨od,es,ep,e2,c⟩,r⟩:=x
    exact⟨ho _ d,z,ne,k _ _ (.inl rfl) e,mA,⟨od,es,ep,k _ _ (.inr d) e2,c⟩,r⟩
  | own y=>obtain⟨ob,e⟩:=x;exact⟨ob,k _ _ (.inl rfl) e⟩
  | xd fs=>obtain⟨mA,⟨od,es,ep,e,c⟩,r⟩:=x;exact⟨mA,⟨od,es,ep,k _ _ (.inl rfl) e,c⟩,r⟩
  | rng lo hi=>obtain⟨t,u,v,e⟩:=x;exact⟨t,u,v,k _ _ (.inl rfl) e⟩
  | frz ob u ih=>obtain⟨e,q⟩:=x;exact⟨k _ _ (.inl rfl) e,ih q⟩
  | tbl ps =>
    have e:h.get? a=some { cls := .none,data := .fields ps }:=x
    show h'.get? a=some { cls := .none,data := .fields ps }
    exact k a _ (.inl rfl) e
  | met f y =>
    have e:h.get? a=some (PySem.W.methodObj (.ref f) (.ref y)):=x
    show h'.get? a=some (PySem.W.methodObj (.ref f) (.ref y))
    exact k a _ (.inl rfl) e
  | ext φ=>obtain⟨p,⟨o,e⟩,st⟩:=x;exact⟨st _ _ p fun o q=>k _ _ (.inl rfl) q,⟨o,k _ _ (.inl rfl) e⟩,st⟩
theorem HOk.lt (x:HOk P w H h) (e:H a=some o):a<h.objs.size:=(x a o e).lt
theorem HOk.fresh (x:HOk P w H h) (e:h.objs.size≤a):H a=none:=by
  cases q:H a with
  | none=>rfl
  | some u=>exact absurd (Nat.lt_of_lt_of_le (x.lt q) e) (Nat.lt_irrefl _)
theorem HOk.kept (x:HOk P w H h) (k:∀ b u,h.get? b=some u→h'.get? b=some u):HOk P w H h' := fun a o e =>
  (x a o e).stay (fun b u _ q=>k b u q) (fun _ q=>q) fun _ _ q=>q
theorem HOk.laid (x:HOk P w H h) (k:∀ b u,h.get? b=some u→h'.get? b=some u) (hp:h.objs.size≤a) (new:ObjOk P w (upd H a o) h' a o):HOk P w (upd H a o) h' := fun b u e=>by
  have hn:=x.fresh hp
  by_cases hb:b=a
  · subst hb;rw [q0b] at e;cases e;exact new
  · rw [q0c hb] at e
    exact (x b u e).stay (fun c v _ q=>k c v q) (fun c q=>by rw [q0c (q0k q hn)];exact q) fun c xs q=>by rw [q0c (q0k q hn)];exact q
end
def Rd (H:Hp) (a:Addr) (u:HO):Prop:=H a=some u∨∃ o,H a=some (.frz o u)
theorem Rd.ok {P:Program} {w:World} {H:Hp} {h:Heap} {a:Addr} {u:HO} (r:Rd H a u) (x:HOk P w H h):ObjOk P w H h a u:=by
  rcases r with r | ⟨o,r⟩
  · exact x a u r
  · obtain⟨_,q⟩:=x a _ r
    exact q
def Mut:Option HO→Prop
  | some (.lst _)=>True
  | some (.dK _)=>True
  | some (.dT _)=>True
  | some (.set _ _)=>True
  | some (.ins _ _ _)=>True
  | some (.ext _)=>True
  | _=>False
section
variable {P:Program} {w:World} {H:Hp} {h h' : Heap} {x e:Addr} {o' : HO}
theorem HOk.write (ok:HOk P w H h) (mu:Mut (H x)) (he:e=x∨H e=some (.own x)) (k:∀ b u,b≠e→h.get? b=some u→h'.get? b=some u) (heo:∃ u,h'.get? e=some u)
    (new:ObjOk P w (upd H x o') h' x o'):HOk P w (upd H x o') h' := fun b u q=>by
  have nown:∀ c y,H c=some (.own y)→c≠x:=fun c y r z=>by subst z;rw [r] at mu;exact mu
  have ntup:∀ c xs,H c=some (.tup xs)→c≠x:=fun c xs r z=>by subst z;rw [r] at mu;exact mu
  by_cases hb:b=x
  · subst hb;rw [q0b] at q;cases q;exact new
  · rw [q0c hb] at q
    by_cases hbe:b=e
    · have q' : H b=some (.own x):=by
        rcases he with z | z
        · exact absurd (hbe.trans z) hb
        · rw [hbe];exact z
      rw [q] at q';cases q'
      obtain⟨v,hv⟩:=heo
      exact⟨v,by rw [hbe];exact hv⟩
    · refine (ok b u q).stay (fun c v hc r=>k c v ?_ r) (fun c r=>by rw [q0c (nown c b r)];exact r) fun c xs r=>by rw [q0c (ntup c xs r)];exact r
      rcases hc with rfl | hc
      · exact hbe
      · rintro rfl
        rcases he with z | z
        · exact nown c b hc z
        · rw [hc] at z;cases z;exact hb rfl
end
structure Un (fs ex:List Addr) (H H' : Hp) (h h' : Heap):Prop where
  keep:∀ b o,h.get? b=some o→H b=none→b∉fs→b∉ex→h'.get? b=some o
  slot:∀ b o,h.get? b=some o→H b=none→b∈fs→b∉ex→∃ sl,h'.get? b=some { o with slots:=sl }
  free:∀ b o,h.get? b=some o→H b=none→b∉ex→H' b=none
  there:∀ b o,h.get? b=some o→b∉ex→∃ o',h'.get? b=some o'
  tups:∀ b xs,H b=some (.tup xs)→H' b=some (.tup xs)
  frzs:∀ b o u,H b=some (.frz o u)→H' b=some (.frz o u)
  tbls:∀ b ps,H b=some (.tbl ps)→∃ more,H' b=some (.tbl (ps++more))
section
variable {fs fs' ex ex' : List Addr} {H H1 H2:Hp} {h h1 h2 h' : Heap} {a x e:Addr} {o:HO}
theorem Un.any (u:Un fs ex H H1 h h1) {b:Addr} {ob:Obj} (q:h.get? b=some ob) (n:H b=none) (hx:b∉ex):∃ sl,h1.get? b=some { ob with slots:=sl }:=by
  by_cases hb:b∈fs
  · exact u.slot b ob q n hb hx
  · exact⟨ob.slots,u.keep b ob q n hb hx⟩
theorem Un.kept (k:∀ b u,h.get? b=some u→h'.get? b=some u):Un fs ex H H h h' :=
  ⟨fun b ob q _ _ _=>k b ob q,fun b ob q _ _ _=>⟨ob.slots,k b ob q⟩,fun _ _ _ n _=>n,fun b ob q _=>⟨ob,k b ob q⟩,fun _ _ q=>q,fun _ _ _ q=>q,fun _ ps q=>⟨#[],by rw [q];simp⟩⟩
theorem Un.refl:Un fs ex H H h h:=Un.kept fun _ _ q=>q
theorem Un.laid (k:∀ b u,h.get? b=some u→h'.get? b=some u) (hp:h.objs.size≤a) (hn:H a=none):Un fs ex H (upd H a o) h h' where
  keep:=fun b u q _ _ _=>k b u q
  slot:=fun b u q _ _ _=>⟨u.slots,k b u q⟩
  free:=fun b u q n _=>by rw [q0c (Nat.ne_of_lt (Nat.lt_of_lt_of_le (Heap.lt_size q) hp))];exact n
  there:=fun b u q _=>⟨u,k b u q⟩
  tups:=fun b xs q=>by rw [q0c (q0k q hn)];exact q
  frzs:=fun b u xs q=>by rw [q0c (q0k q hn)];exact q
  tbls:=fun b ps q=>⟨#[],by rw [q0c (q0k q hn),q];simp⟩
theorem Un.write (mu:Mut (H x)) (he:e=x∨H e=some (.own x)) (k:∀ b u,b≠e→h.get? b=some u→h'.get? b=some u) (heo:∃ u,h'.get? e=some u):Un fs ex H (upd H x o) h h' := by
  have hx:∀ b,H b=none→b≠x:=fun b n z=>by subst z;rw [n] at mu;exact mu
  have hb:∀ b,H b=none→b≠e:=fun b n z=>by
    subst z
    rcases he with r | r
    · exact hx b n r
    · rw [n] at r;cases r
  have hm:∀ b u,H b=some u→¬ Mut (some u)→b≠x:=fun b u q nm z=>by subst z;rw [q] at mu;exact nm mu
  refine⟨fun b u q n _ _=>k b u (hb b n) q,fun b u q n _ _=>⟨u.slots,k b u (hb b n) q⟩,fun b u q n _=>by rw [q0c (hx b n)];exact n,fun b u q _ => ?_,
    fun b xs q=>by rw [q0c (hm b _ q fun z=>z)];exact q,fun b u xs q=>by rw [q0c (hm b _ q fun z=>z)];exact q,fun b ps q=>⟨#[],by rw [q0c (hm b _ q fun z=>z),q];simp⟩⟩
  by_cases hbe:b=e
  · subst hbe;exact heo
  · exact⟨u,k b u hbe q⟩
end
def trk (h:Heap) (H:Hp):List Addr:=(List.range h.objs.size).filter fun a=>(H a).isSome
def hidT (h:Heap) (H:Hp):Heap:=PySem.W.hideAll h (trk h H)
theorem z2s (h:Heap) (H:Hp):(hidT h H).objs.size=h.objs.size:=PySem.W.hideAll_size _ _
theorem z6f {h:Heap} {H:Hp} {b:Addr} {o:Obj} (e:h.get? b=some o) (n:H b=none):(hidT h H).get? b=some o :=
  PySem.W.hideAll_get _ e fun hm=>by
    have q:(H b).isSome=true:=(List.mem_filter.mp hm).2
    rw [n] at q;simp at q
theorem z8x {h:Heap} {H:Hp} {b:Addr} {o:Obj} (e:(hidT h H).get? b=some o):h.get? b=some o∧H b=none:=by
  have e' : h.get? b=some o:=PySem.W.of_hideAll (trk h H) e
  refine⟨e',?_⟩
  cases q:H b with
  | none=>rfl
  | some x =>
    have hm:b∈trk h H:=List.mem_filter.mpr ⟨List.mem_range.mpr (Heap.lt_size e'),by simp [q]⟩
    have z:(hidT h H).get? b=none:=PySem.W.hideAll_none (trk h H) hm
    rw [z] at e;cases e
def allNews (g h:Heap) (L:Addr):List (Addr×Obj):=(List.range h.objs.size).filterMap fun a=>if a=L∨(g.get? a).isSome=true then none else (h.get? a).map fun o=>(a,o)
def rest (g h:Heap) (L d:Addr):List (Addr×Obj):=(allNews g h L).filter fun p=>decide (p.1≠d)
end L2
namespace L2
open PySem PySem.Spec PyProof.Rows
structure Mod (K:PySem.W.Frag) (mg:Str→Option Value) (base:Heap):Prop where
  kin:K.In base
  glob:base.Ns mainGlobals mg
  blt:∃ mb,base.Ns builtinsNs mb∧∀ x:Str,x ≠ "__name__" → mb x=bootBuiltins x
  nolimit:base.NoLimit
structure Cx where
  prog:Program
  w:World
  K:PySem.W.Frag
  mg:Str→Option Value
  base:Heap
  A:Around
  N:List Str
  s₀:Shared
  H₀:Hp
  env:Env
  outer:List Env
  stack:List Env
  ex:List Addr
  fn:Str→Bool
  calm:Bool
  pn:List (Addr×Obj)
  xe:Value→Shared→Prop
def frs (l:List Env):List Addr:=l.filterMap (·.frame)
abbrev Cx.fs (X:Cx):List Addr:=frs X.outer
def Vis (sc:Scope) (x:Str):Prop:=sc.names.lookup x=some .local∨sc.names.lookup x=some .cell∨sc.names.lookup x=some .free
def Loc (sc:Scope) (x:Str):Prop:=sc.names.lookup x=some .local∨sc.names.lookup x=some .cell
def Look (env:Env) (h:Heap) (m:Str→Option Value) (x:Str) (u:Value):Prop :=
  (env.kindOf x=some .local∧m x=some u)∨((env.kindOf x=some .cell∨env.kindOf x=some .free)∧∃ c,env.cells.lookup x=some c∧h.IsCell c (some u))
structure Cx.Ok (X:Cx):Prop where
  mod:Mod X.K X.mg X.base
  kind:X.env.scope.kind = .function
  glob:X.env.globals=mainGlobals
  blt:X.env.builtins=builtinsNs
  above:X.s₀.heap.objs.size≤X.env.locals
  inj:∀ x y c,X.env.cells.lookup x=some c→X.env.cells.lookup y=some c→x=y
  has:∀ x,(X.env.kindOf x=some .cell∨X.env.kindOf x=some .free)→∃ c,X.env.cells.lookup x=some c
  cab:∀ x c,X.fn x=true→X.env.cells.lookup x=some c→X.s₀.heap.objs.size≤c
  hd:X.calm=true→X.A.handled=none
  frames:X.A.frames=some X.stack
  stk:X.stack=X.outer∨(X.stack=X.env::X.outer∧X.env.frame=some X.env.locals)
  exf:∀ b∈X.ex,b≠X.env.locals∧∀ x c,X.env.cells.lookup x=some c→c≠b
  bs:∀ b o,X.base.get? b=some o→X.s₀.heap.get? b=some o∧X.H₀ b=none
  bsz:X.base.objs.size≤X.s₀.heap.objs.size
  noex:∀ b o,X.base.get? b=some o→b∉X.ex
  exfs:∀ b∈X.ex,b∉X.fs
  funs:X.s₀.heap.FunFrames X.base X.outer
  frf:∀ b∈X.fs,X.H₀ b=none
structure Inv (X:Cx) (pins:List (Addr×Obj)) (σ:List (Option V)) (H:Hp) (s:Shared):Prop where
  ok:X.Ok
  os:s.os=X.s₀.os
  bare:AllBare s.gens
  base:Un X.fs X.ex X.H₀ H X.s₀.heap s.heap
  loc:∃ m,s.heap.Ns X.env.locals m∧∀ (i:Nat) (x:Str) (v:V),X.N[i]? = some x→σ[i]? = some (some v)→Vis X.env.scope x→∃ u,RelV v u∧Look X.env s.heap m x u
  cell:∀ x c,X.env.cells.lookup x=some c→∃ v,s.heap.IsCell c v
  free:H X.env.locals=none
  freeC:∀ x c,X.env.cells.lookup x=some c→H c=none
  pin:∀ p∈X.pn++pins,s.heap.get? p.1=some p.2∧H p.1=none∧p.1≠X.env.locals∧p.1∉X.fs∧∀ v,p.2.data ≠ .cell v
  hok:HOk X.prog X.w H s.heap
  len:σ.length=X.N.length
section
variable {X:Cx} {pins:List (Addr×Obj)} {σ:List (Option V)} {H H' : Hp} {s:Shared} {h' : Heap}
theorem Cx.Ok.nofr (ok:X.Ok) {b:Addr} {o:Obj} (e:X.base.get? b=some o):b∉X.fs:=fun hb=>by
  have:=(ok.funs.mem hb).1
  rw [e] at this;cases this
theorem Inv.bs (I:Inv X pins σ H s):∀ b o,X.base.get? b=some o→s.heap.get? b=some o∧H b=none:=fun b o e =>
  ⟨I.base.keep b o (I.ok.bs b o e).1 (I.ok.bs b o e).2 (I.ok.nofr e) (I.ok.noex b o e),I.base.free b o (I.ok.bs b o e).1 (I.ok.bs b o e).2 (I.ok.noex b o e)⟩
theorem Inv.bk (I:Inv X pins σ H s):∀ b o,X.base.get? b=some o→s.heap.get? b=some o:=fun b o e=>(I.bs b o e).1
theorem Inv.mod (I:Inv X pins σ H s):Mod X.K X.mg X.base:=I.ok.mod
theorem Inv.kIn (I:Inv X pins σ H s):X.K.In s.heap:=I.ok.mod.kin.keeps I.bk
theorem Inv.lt (I:Inv X pins σ H s):X.env.locals<s.heap.objs.size:=let ⟨_,hn,_⟩:=I.loc;hn.lt
theorem Inv.sz (I:Inv X pins σ H s):X.s₀.heap.objs.size≤s.heap.objs.size:=Nat.le_trans I.ok.above (Nat.le_of_lt I.lt)
theorem Inv.nofs (I:Inv X pins σ H s) {a:Addr} (h:s.heap.objs.size≤a):a∉X.fs:=fun hb=>by
  obtain⟨_,o,ho,_⟩:=I.ok.funs.mem hb
  exact absurd (Nat.lt_of_lt_of_le (Heap.lt_size ho) (Nat.le_trans I.sz h)) (Nat.lt_irrefl _)
theorem Inv.cne (I:Inv X pins σ H s):∀ x c,X.env.cells.lookup x=some c→c≠X.env.locals:=fun x c e z=>by
  obtain⟨v,o,ho,hd⟩:=I.cell x c e
  obtain⟨m,⟨o',es,ep,ho',hd',_⟩,_⟩:=I.loc
  rw [z,ho'] at ho;cases ho;rw [hd'] at hd;cases hd
theorem Inv.funs (I:Inv X pins σ H s):s.heap.FunFrames X.base X.outer:=by
  have all:∀ (l:List Env),(∀ b∈frs l,b∈X.fs)→X.s₀.heap.FunFrames X.base l→s.heap.FunFrames X.base l:=by
    intro l
    induction l with
    | nil=>intro _ _;trivial
    | cons env r ih =>
      intro hs hl
      obtain⟨hk,⟨L,o,hf,hn,ho,hd⟩,hr⟩:=hl
      have hL:L∈X.fs:=hs L (by unfold frs;rw [List.filterMap_cons,hf];exact List.mem_cons_self)
      obtain⟨sl,e⟩:=I.base.slot L o ho (I.ok.frf L hL) hL fun z=>I.ok.exfs L z hL
      exact⟨hk,⟨L,_,hf,hn,e,hd⟩,ih (fun b hb=>hs b (by unfold frs;rw [List.filterMap_cons,hf];exact List.mem_cons_of_mem _ hb)) hr⟩
  exact all X.outer (fun _ hb=>hb) I.ok.funs
theorem Inv.stack (I:Inv X pins σ H s):s.heap.FunFrames X.base X.stack:=by
  rcases I.ok.stk with e | ⟨e,hf⟩
  · rw [e];exact I.funs
  · rw [e]
    obtain⟨m,hn,_⟩:=I.loc
    refine .cons (by rw [I.ok.kind];decide) hf hn ?_ I.funs
    exact Heap.get?_none_of_le (Nat.le_trans I.ok.bsz I.ok.above)
theorem Inv.stkSub (I:Inv X pins σ H s):∀ b∈frs X.stack,b∈X.env.locals::X.fs:=fun b hb=>by
  rcases I.ok.stk with e | ⟨e,hf⟩
  · rw [e] at hb;exact List.mem_cons_of_mem _ hb
  · rw [e] at hb
    unfold frs at hb
    rw [List.filterMap_cons,hf] at hb
    exact hb
theorem Inv.stkFree (I:Inv X pins σ H s):∀ b∈frs X.stack,H b=none:=fun b hb=>by
  rcases List.mem_cons.mp (I.stkSub b hb) with e | hb
  · rw [e];exact I.free
  · obtain⟨_,o,ho,_⟩:=I.ok.funs.mem hb
    exact I.base.free b o ho (I.ok.frf b hb) fun z=>I.ok.exfs b z hb
theorem Inv.step {g' : Array GenState} {t' : Nat} {d' : Drawn} {ch:List Addr} (I:Inv X pins σ H s)
    (hch:∀ b∈ch,(b∈X.ex∨X.s₀.heap.objs.size≤b)∧b≠X.env.locals∧(∀ x c,X.env.cells.lookup x=some c→c≠b)∧∀ p∈X.pn++pins,p.1≠b)
    (keep:∀ b o,b≠X.env.locals→b∉X.fs→b∉ch→s.heap.get? b=some o→H b=none→h'.get? b=some o)
    (slot:∀ b o,b≠X.env.locals→b∈X.fs→b∉ch→s.heap.get? b=some o→H b=none→∃ sl,h'.get? b=some { o with slots:=sl }) (free:∀ b o,b∉ch→s.heap.get? b=some o→H b=none→H' b=none)
    (there:∀ b o,b∉ch→s.heap.get? b=some o→∃ o',h'.get? b=some o')
    (tups:∀ b xs,H b=some (.tup xs)→H' b=some (.tup xs)) (frzs:∀ b o u,H b=some (.frz o u)→H' b=some (.frz o u)) (tbls:∀ b ps,H b=some (.tbl ps)→∃ more,H' b=some (.tbl (ps++more)))
    (ns:∀ m,s.heap.Ns X.env.locals m→h'.Ns X.env.locals m) (hok:HOk X.prog X.w H' h') (hg:AllBare g') :
    Inv X pins σ H' { s with heap:=h',gens:=g',drawn:=d',toks:=t' }:=by
  have neL:∀ b o,X.s₀.heap.get? b=some o→b≠X.env.locals:=fun b o e=>Nat.ne_of_lt (Nat.lt_of_lt_of_le (Heap.lt_size e) I.ok.above)
  have neC:∀ b o,X.s₀.heap.get? b=some o→b∉X.ex→b∉ch:=fun b o e hx hb=>by
    rcases (hch b hb).1 with z | z
    · exact hx z
    · exact absurd (Nat.lt_of_lt_of_le (Heap.lt_size e) z) (Nat.lt_irrefl _)
  have cellK:∀ x c,X.env.cells.lookup x=some c→∀ v,s.heap.IsCell c v→h'.IsCell c v:=fun x c e v ⟨o,ho,hd⟩=>by
    have nch:c∉ch:=fun z=>(hch c z).2.2.1 x c e rfl
    by_cases hc:c∈X.fs
    · obtain⟨sl,q⟩:=slot c o (I.cne x c e) hc nch ho (I.freeC x c e)
      exact⟨_,q,hd⟩
    · exact⟨o,keep c o (I.cne x c e) hc nch ho (I.freeC x c e),hd⟩
  refine⟨I.ok,I.os,hg,⟨fun b o e n hb hx => ?_,fun b o e n hb hx => ?_,fun b o e n hx => ?_,fun b o e hx => ?_,fun b xs e=>tups b xs (I.base.tups b xs e),fun b o xs e=>frzs b o xs (I.base.frzs b o xs e),fun b ps e => ?_⟩,?_,fun x c e => ?_,?_,fun x c e => ?_,fun p hp => ?_,hok,I.len⟩
  · exact keep b o (neL b o e) hb (neC b o e hx) (I.base.keep b o e n hb hx) (I.base.free b o e n hx)
  · obtain⟨sl,e1⟩:=I.base.slot b o e n hb hx
    obtain⟨sl',e2⟩:=slot b _ (neL b o e) hb (neC b o e hx) e1 (I.base.free b o e n hx)
    exact⟨sl',e2⟩
  · obtain⟨o',e1⟩:=I.base.there b o e hx
    exact free b o' (neC b o e hx) e1 (I.base.free b o e n hx)
  · obtain⟨o',e1⟩:=I.base.there b o e hx
    exact there b o' (neC b o e hx) e1
  · obtain⟨m1,e1⟩:=I.base.tbls b ps e
    obtain⟨m2,e2⟩:=tbls b _ e1
    exact⟨m1++m2,by rw [e2,Array.append_assoc]⟩
  · obtain⟨m,hn,hl⟩:=I.loc
    refine⟨m,ns m hn,fun i x v e1 e2 e3 => ?_⟩
    obtain⟨u,r,l⟩:=hl i x v e1 e2 e3
    refine⟨u,r,?_⟩
    rcases l with l | ⟨k,c,e,z⟩
    · exact .inl l
    · exact .inr ⟨k,c,e,cellK x c e _ z⟩
  · obtain⟨v,z⟩:=I.cell x c e
    exact⟨v,cellK x c e v z⟩
  · obtain⟨m,⟨o,_,_,ho,_⟩,_⟩:=I.loc
    exact free _ o (fun z=>(hch _ z).2.1 rfl) ho I.free
  · obtain⟨v,o,ho,hd⟩:=I.cell x c e
    exact free c o (fun z=>(hch c z).2.2.1 x c e rfl) ho (I.freeC x c e)
  · obtain⟨e,n,ne,nf,d⟩:=I.pin p hp
    have nch:p.1∉ch:=fun z=>(hch p.1 z).2.2.2 p hp rfl
    exact⟨keep p.1 p.2 ne nf nch e n,free p.1 p.2 nch e n,ne,nf,d⟩
theorem Inv.un {t' : Nat} (I:Inv X pins σ H s) (u:Un X.fs [] H H' s.heap h') (hok:HOk X.prog X.w H' h'):Inv X pins σ H' { s with heap:=h',toks:=t' }:=by
  obtain⟨m,⟨o,es,ep,ho,r⟩,_⟩:=id I.loc
  obtain⟨sl,hL⟩:=u.any ho I.free (by simp)
  exact I.step (g' := s.gens) (d' := s.drawn) (ch := []) (fun _ z=>nomatch z) (fun b o _ hb _ e n=>u.keep b o e n hb (by simp)) (fun b o _ hb _ e n=>u.slot b o e n hb (by simp)) (fun b o _ e n=>u.free b o e n (by simp)) (fun b o _ e=>u.there b o e (by simp)) u.tups u.frzs u.tbls (fun m' hm=>by
    obtain⟨o',es',ep',ho',r'⟩:=hm
    rw [ho] at ho';cases ho'
    exact⟨_,es',ep',hL,r'⟩) hok I.bare
theorem Inv.call {g' : Array GenState} {t' : Nat} {d' : Drawn} {ch:List Addr} (I:Inv X pins σ H s) (u:Un (frs X.stack) ch H H' s.heap h') (hok:HOk X.prog X.w H' h') (hg:AllBare g')
    (hch:∀ b∈ch,(b∈X.ex∨X.s₀.heap.objs.size≤b)∧b≠X.env.locals∧(∀ x c,X.env.cells.lookup x=some c→c≠b)∧∀ p∈X.pn++pins,p.1≠b) :
    Inv X pins σ H' { s with heap:=h',gens:=g',drawn:=d',toks:=t' }:=by
  obtain⟨m,⟨o,es,ep,ho,r⟩,_⟩:=id I.loc
  obtain⟨sl,hL⟩:=u.any ho I.free fun z=>(hch _ z).2.1 rfl
  exact I.step (ch:=ch) hch (fun b o hL hb hc e n=>u.keep b o e n (fun z=>(List.mem_cons.mp (I.stkSub b z)).elim hL hb) hc) (fun b o _ _ hc e n=>u.any e n hc) (fun b o hc e n=>u.free b o e n hc) (fun b o hc e=>u.there b o e hc) u.tups u.frzs u.tbls (fun m' hm=>by
    obtain⟨o',es',ep',ho',r'⟩:=hm
    rw [ho] at ho';cases ho'
    exact⟨_,es',ep',hL,r'⟩) hok hg
theorem Inv.turned {t' : Nat} {it:Addr} (I:Inv X pins σ H s) (k:∀ b o,b≠it→s.heap.get? b=some o→h'.get? b=some o) (hn:H it=none) (hL:it≠X.env.locals)
    (h1:it∈X.ex∨X.s₀.heap.objs.size≤it) (h2:∀ x c,X.env.cells.lookup x=some c→c≠it) (h3:∀ p∈X.pn++pins,p.1≠it):Inv X pins σ H { s with heap:=h',toks:=t' }:=by
  have nit:∀ b u,H b=some u→b≠it:=fun b u e z=>by rw [z,hn] at e;cases e
  refine I.step (g' := s.gens) (d' := s.drawn) (ch := [it]) (fun b hb => ?_) (fun b o _ _ hc e _=>k b o (fun z=>hc (by simp [z])) e) (fun b o _ _ hc e _=>⟨o.slots,k b o (fun z=>hc (by simp [z])) e⟩) (fun _ _ _ _ n=>n)
    (fun b o hc e=>⟨o,k b o (fun z=>hc (by simp [z])) e⟩) (fun _ _ e=>e) (fun _ _ _ e=>e) (fun b ps e=>⟨#[],by rw [e];simp⟩) (fun m hm => ?_) (fun b u e => ?_) I.bare
  · have e:b=it:=by simpa using hb
    subst e
    exact⟨h1,hL,h2,h3⟩
  · obtain⟨o,es,ep,ho,r⟩:=hm
    exact⟨o,es,ep,k _ o (Ne.symm hL) ho,r⟩
  · refine (I.hok b u e).stay (fun c v hc q=>k c v ?_ q) (fun _ q=>q) fun _ _ q=>q
    rcases hc with z | z
    · rw [z];exact nit b u e
    · exact nit c _ z
theorem Inv.tok (I:Inv X pins σ H s) (t:Nat):Inv X pins σ H { s with toks:=t }:=I.un (h' := s.heap) (t' := t) Un.refl I.hok
theorem Inv.kept {t' : Nat} (I:Inv X pins σ H s) (k:∀ b u,s.heap.get? b=some u→h'.get? b=some u):Inv X pins σ H { s with heap:=h',toks:=t' }:=I.un (Un.kept k) (I.hok.kept k)
theorem Inv.laid {a:Addr} {o:HO} {t' : Nat} (I:Inv X pins σ H s) (k:∀ b u,s.heap.get? b=some u→h'.get? b=some u) (hp:s.heap.objs.size≤a) (new:ObjOk X.prog X.w (upd H a o) h' a o) :
    Inv X pins σ (upd H a o) { s with heap:=h',toks:=t' }:=I.un (Un.laid k hp (I.hok.fresh hp)) (I.hok.laid k hp new)
theorem Inv.write {x e:Addr} {o:HO} {t' : Nat} (I:Inv X pins σ H s) (mu:Mut (H x)) (he:e=x∨H e=some (.own x)) (k:∀ b u,b≠e→s.heap.get? b=some u→h'.get? b=some u) (heo:∃ u,h'.get? e=some u)
    (new:ObjOk X.prog X.w (upd H x o) h' x o):Inv X pins σ (upd H x o) { s with heap:=h',toks:=t' }:=I.un (Un.write mu he k heo) (I.hok.write mu he k heo new)
theorem Inv.weak {σ' : List (Option V)} (I:Inv X pins σ H s) (hl:σ'.length=σ.length) (w:∀ (i:Nat) v,σ'[i]? = some (some v)→σ[i]? = some (some v)):Inv X pins σ' H s :=
  ⟨I.ok,I.os,I.bare,I.base,let ⟨m,hn,hl'⟩:=I.loc;⟨m,hn,fun i x v e1 e2 e3=>hl' i x v e1 (w i v e2) e3⟩,I.cell,I.free,I.freeC,I.pin,I.hok,hl.trans I.len⟩
theorem Inv.pins_of {pins' : List (Addr×Obj)} (I:Inv X pins σ H s) (h:∀ p∈pins',s.heap.get? p.1=some p.2∧H p.1=none∧p.1≠X.env.locals∧p.1∉X.fs∧∀ v,p.2.data ≠ .cell v):Inv X pins' σ H s :=
  ⟨I.ok,I.os,I.bare,I.base,I.loc,I.cell,I.free,I.freeC,fun p hp=>(List.mem_append.mp hp).elim (fun z=>I.pin p (List.mem_append_left _ z)) (h p),I.hok,I.len⟩
theorem q7k {N:List Str} (hN:N.Nodup) {i j:Nat} {x:Str} (a:N[i]? = some x) (b:N[j]? = some x):i=j:=by
  obtain⟨h1,e1⟩:=List.getElem?_eq_some_iff.mp a
  obtain⟨h2,e2⟩:=List.getElem?_eq_some_iff.mp b
  exact (List.getElem_inj hN).mp (e1.trans e2.symm)
theorem q5p {M:Model} {A:Around} {E:Value→Shared→Prop} {i:Nat} {x:Str} {v:V} {u:Value} {Q:Unit→Shared→Prop} (I:Inv X pins σ H s) (hN:X.N.Nodup) (hi:X.N[i]? = some x) (hx:Loc X.env.scope x) (r:RelV v u)
    (h:∀ s',Inv X pins (σ.set i (some v)) H s' → (∃ a,Heap.SameBut a s.heap s'.heap∧(a=X.env.locals∨X.env.cells.lookup x=some a))→Q () s') (hf:X.fn x=true∨X.env.scope.names.lookup x=some .local:=by first | exact .inl rfl | exact .inr rfl | assumption):wpAny M A (storeName X.env x u) Q E s:=by
  obtain⟨m,hn,hl⟩:=id I.loc
  have hcls:(X.env.scope.kind == .class||(X.env.scope.kind == .module&&X.env.locals != X.env.globals))=false:=by rw [I.ok.kind];rfl
  have hiσ:i<σ.length:=by rw [I.len];exact (List.getElem?_eq_some_iff.mp hi).1
  have cne:=I.cne
  have tracked:∀ {a:Addr} {h' : Heap},(∃ o,s.heap.get? a=some o∧H a=none)→Heap.SameBut a s.heap h' → HOk X.prog X.w H h' := fun {a h'} ha hs b ob e=>by
    obtain⟨_,_,hfree⟩:=ha
    refine (I.hok b ob e).stay (fun c w' hc q=>(hs.2 c ?_).trans q) (fun _ q=>q) fun _ _ q=>q
    rintro rfl
    rcases hc with rfl | hc
    · rw [hfree] at e;cases e
    · rw [hfree] at hc;cases hc
  rcases hx with hk | hk
  · refine wpAny_storeName_local hk hn (fun h' hn' hs => ?_) hcls
    obtain⟨oL,_,_,hoL,_⟩:=id hn
    refine h _ ⟨I.ok,I.os,I.bare,⟨fun b o e n hb hx => ?_,fun b o e n hb hx => ?_,I.base.free,fun b o e hx => ?_,I.base.tups,I.base.frzs,I.base.tbls⟩,⟨_,hn',fun j y v' e1 e2 e3 => ?_⟩,fun y c e => ?_,I.free,I.freeC,fun p hp => ?_,tracked ⟨oL,hoL,I.free⟩ hs,by simpa using I.len⟩ ⟨_,hs,.inl rfl⟩
    · exact (hs.2 b (Nat.ne_of_lt (Nat.lt_of_lt_of_le (Heap.lt_size e) I.ok.above))).trans (I.base.keep b o e n hb hx)
    · obtain⟨sl,e1⟩:=I.base.slot b o e n hb hx
      exact⟨sl,(hs.2 b (Nat.ne_of_lt (Nat.lt_of_lt_of_le (Heap.lt_size e) I.ok.above))).trans e1⟩
    · obtain⟨o',e1⟩:=I.base.there b o e hx
      exact⟨o',(hs.2 b (Nat.ne_of_lt (Nat.lt_of_lt_of_le (Heap.lt_size e) I.ok.above))).trans e1⟩
    · by_cases hj:j=i
      · subst hj
        rw [hi] at e1;cases e1
        rw [List.getElem?_set_self hiσ] at e2
        cases e2
        exact⟨u,r,.inl ⟨hk,by simp⟩⟩
      · rw [List.getElem?_set_ne (Ne.symm hj)] at e2
        obtain⟨u',r',q⟩:=hl j y v' e1 e2 e3
        refine⟨u',r',?_⟩
        rcases q with ⟨k,e⟩ | ⟨k,c,e,z⟩
        · refine .inl ⟨k,?_⟩
          have:y≠x:=fun e=>hj (q7k hN e1 (e▸hi))
          simp [this,e]
        · exact .inr ⟨k,c,e,z.sameBut hs (cne y c e)⟩
    · obtain⟨w',z⟩:=I.cell y c e
      exact⟨w',z.sameBut hs (cne y c e)⟩
    · obtain⟨e,n,ne,nf,d⟩:=I.pin p hp
      exact⟨(hs.2 p.1 ne).trans e,n,ne,nf,d⟩
  · have hfn:X.fn x=true:=by
      rcases hf with z | z
      · exact z
      · rw [z] at hk;cases hk
    obtain⟨c,hc⟩:=I.ok.has x (.inl hk)
    obtain⟨w',z⟩:=I.cell x c hc
    refine wpAny_storeName_cell I.ok.kind hk hc z (fun h' hc' hs => ?_)
    obtain⟨oc,hoc,hocd⟩:=id z
    refine h { s with heap:=h' } ⟨I.ok,I.os,I.bare,⟨fun b o e n hb hx => ?_,fun b o e n hb hx => ?_,I.base.free,fun b o e hx => ?_,I.base.tups,I.base.frzs,I.base.tbls⟩,⟨m,hn.sameBut hs (Ne.symm (cne x c hc)),fun j y v' e1 e2 e3 => ?_⟩,fun y c' e => ?_,I.free,I.freeC,fun p hp => ?_,tracked ⟨oc,hoc,I.freeC x c hc⟩ hs,by simpa using I.len⟩ ⟨c,hs,.inr hc⟩
    · exact (hs.2 b (Nat.ne_of_lt (Nat.lt_of_lt_of_le (Heap.lt_size e) (I.ok.cab x c hfn hc)))).trans (I.base.keep b o e n hb hx)
    · obtain⟨sl,e1⟩:=I.base.slot b o e n hb hx
      exact⟨sl,(hs.2 b (Nat.ne_of_lt (Nat.lt_of_lt_of_le (Heap.lt_size e) (I.ok.cab x c hfn hc)))).trans e1⟩
    · obtain⟨o',e1⟩:=I.base.there b o e hx
      exact⟨o',(hs.2 b (Nat.ne_of_lt (Nat.lt_of_lt_of_le (Heap.lt_size e) (I.ok.cab x c hfn hc)))).trans e1⟩
    · by_cases hj:j=i
      · subst hj
        rw [hi] at e1;cases e1
        rw [List.getElem?_set_self hiσ] at e2
        cases e2
        exact⟨u,r,.inr ⟨.inl hk,c,hc,hc'⟩⟩
      · rw [List.getElem?_set_ne (Ne.symm hj)] at e2
        obtain⟨u',r',q⟩:=hl j y v' e1 e2 e3
        refine⟨u',r',?_⟩
        rcases q with q | ⟨k,c',e,z'⟩
        · exact .inl q
        · refine .inr ⟨k,c',e,z'.sameBut hs ?_⟩
          rintro rfl
          exact hj (q7k hN e1 (I.ok.inj _ _ _ e hc▸hi))
    · by_cases hcc:c' = c
      · subst hcc;exact⟨_,hc'⟩
      · obtain⟨w2,z2⟩:=I.cell y c' e
        exact⟨w2,z2.sameBut hs hcc⟩
    · obtain⟨e,n,ne,nf,d⟩:=I.pin p hp
      refine⟨(hs.2 p.1 ?_).trans e,n,ne,nf,d⟩
      intro q
      rw [q,hoc] at e
      have q' : oc=p.2:=Option.some.inj e
      exact d w' (by rw [← q'];exact hocd)
theorem q7l {M:Model} {A:Around} {E:Value→Shared→Prop} {i:Nat} {x:Str} {v:V} {u:Value} {Q:Unit→Shared→Prop} (I:Inv X pins σ H s) (hN:X.N.Nodup) (hi:X.N[i]? = some x) (hx:Loc X.env.scope x) (r:RelV v u)
    (h:∀ s',Inv X pins (σ.set i (some v)) H s' → Q () s') (hf:X.fn x=true∨X.env.scope.names.lookup x=some .local:=by first | exact .inl rfl | exact .inr rfl | assumption):wpAny M A (storeName X.env x u) Q E s :=
  q5p I hN hi hx r (fun s' I' _=>h s' I') hf
theorem Inv.call' {s' : Shared} {ch:List Addr} (I:Inv X pins σ H s) (ho:s'.os=s.os) (u:Un (frs X.stack) ch H H' s.heap s'.heap) (hok:HOk X.prog X.w H' s'.heap) (hg:AllBare s'.gens)
    (hch:∀ b∈ch,(b∈X.ex∨X.s₀.heap.objs.size≤b)∧b≠X.env.locals∧(∀ x c,X.env.cells.lookup x=some c→c≠b)∧∀ p∈X.pn++pins,p.1≠b):Inv X pins σ H' s' := by
  obtain⟨h',g',d',t',o'⟩:=s'
  have e:o' = s.os:=ho
  subst e
  exact I.call (g' := g') (t' := t') (d' := d') u hok hg hch
end
abbrev XK:=Value→Option Addr→Hp→Prop
abbrev St:=List (Option V)
abbrev VK:=V→Hp→Prop
abbrev TE:=St→Hp→VK→Prop
abbrev TT:=St→Hp→(Bool→Hp→Prop)→Prop
abbrev TA:=St→Hp→(List V→Hp→Prop)→Prop
structure Ends where
  nx:St→Hp→Prop
  rt:VK
  bk:St→Hp→Prop:=fun _ _=>False
  ct:St→Hp→Prop:=fun _ _=>False
abbrev TS:=Ends→St→Hp→Prop
def EP (X:Cx) (pins:List (Addr×Obj)) (σ:St) (Q:VK) (u:Value) (s' : Shared):Prop:=∃ v H',Inv X pins σ H' s' ∧ RelV v u∧Q v H'
def TP (X:Cx) (pins:List (Addr×Obj)) (σ:St) (Q:Bool→Hp→Prop) (b:Bool) (s' : Shared):Prop:=∃ H',Inv X pins σ H' s' ∧ Q b H'
def AP (X:Cx) (pins:List (Addr×Obj)) (σ:St) (Q:List V→Hp→Prop) (us:List Value) (s' : Shared):Prop:=∃ vs H',Inv X pins σ H' s' ∧ Vals vs us∧Q vs H'
def SP (X:Cx) (pins:List (Addr×Obj)) (D:Ends) (f:Flow) (s' : Shared):Prop :=
  match f with
  | .next=>∃ σ' H',Inv X pins σ' H' s' ∧ D.nx σ' H'
  | .brk=>∃ σ' H',Inv X pins σ' H' s' ∧ D.bk σ' H'
  | .cont=>∃ σ' H',Inv X pins σ' H' s' ∧ D.ct σ' H'
  | .ret u=>∃ v σ' H',Inv X pins σ' H' s' ∧ RelV v u∧D.rt v H'
def PE (X:Cx) (e:Expr) (t:TE):Prop :=
  ∀ (pins:List (Addr×Obj)) (s:Shared) (σ:St) (H:Hp) (Q:VK),Inv X pins σ H s→t σ H Q→wpAny (model X.prog X.w) X.A (eval e X.env) (EP X pins σ Q) X.xe s
def PT (X:Cx) (e:Expr) (t:TT):Prop :=
  ∀ (pins:List (Addr×Obj)) (s:Shared) (σ:St) (H:Hp) (Q:Bool→Hp→Prop),Inv X pins σ H s→t σ H Q→wpAny (model X.prog X.w) X.A (isTrue e X.env (eval e X.env)) (TP X pins σ Q) X.xe s
def PW (X:Cx) (e:Expr) (t:TT):Prop :=
  ∀ (whole:Sem Value) (pins:List (Addr×Obj)) (s:Shared) (σ:St) (H:Hp) (Q:Bool→Hp→Prop),Inv X pins σ H s→t σ H Q→wpAny (model X.prog X.w) X.A (isTrue e X.env whole) (TP X pins σ Q) X.xe s
theorem PW.pt {X:Cx} {e:Expr} {t:TT} (h:PW X e t):PT X e t:=h _
def PA (X:Cx) (es:List Expr) (t:TA):Prop :=
  ∀ (pos:Pos) (pins:List (Addr×Obj)) (s:Shared) (σ:St) (H:Hp) (Q:List V→Hp→Prop),Inv X pins σ H s→t σ H Q→wpAny (model X.prog X.w) X.A (spliced (backTo pos (starEach es X.env))) (AP X pins σ Q) X.xe s
def PS (X:Cx) (st:Stmt) (t:TS):Prop :=
  ∀ (pins:List (Addr×Obj)) (s:Shared) (σ:St) (H:Hp) (D:Ends),Inv X pins σ H s→t D σ H→wpAny (model X.prog X.w) X.A (exec st X.env) (SP X pins D) X.xe s
def PSs (X:Cx) (st:List Stmt) (t:TS):Prop :=
  ∀ (pins:List (Addr×Obj)) (s:Shared) (σ:St) (H:Hp) (D:Ends),Inv X pins σ H s→t D σ H→wpAny (model X.prog X.w) X.A (execs st X.env) (SP X pins D) X.xe s
theorem thn {α:Type} {t:Sem α} {Q Q' : α→Shared→Prop} {M:Model} {A:Around} {E:Value→Shared→Prop} {s:Shared} (h:wpAny M A t Q E s) (hQ:∀ a s,Q a s→Q' a s):wpAny M A t Q' E s:=wpAny_mono h hQ fun _ _ x=>x
end L2
namespace L2
open PySem PySem.Spec PyProof.Rows
section
variable {X:Cx}
def tVar (i:Nat):TE:=fun σ H Q=>∃ v,σ[i]? = some (some v)∧Q v H
def tC (v:V):TE:=fun _ H Q=>Q v H
theorem pe_var {i:Nat} {x:Str} {pos:Pos} (hN:X.N[i]? = some x) (hv:Vis X.env.scope x) (hd:(x==("__debug__" : Str))=false:=by decide) (hcd:(x==("__classdict__" : Str))=false:=by decide):PE X (.Name x pos) (tVar i):=by
  intro pins s σ H Q I h
  obtain⟨v,e,h⟩:=h
  obtain⟨m,hn,hl⟩:=I.loc
  obtain⟨u,r,l⟩:=hl i x v hN e hv
  have fin:EP X pins σ Q u s:=⟨v,H,I,r,h⟩
  rcases l with ⟨hk,hm⟩ | ⟨hk,c,hc,hcell⟩
  · exact wpAny_Name (wpAny_loadName_local I.ok.kind hk hn hm fin) hd
  · rcases hk with hk | hk
    · exact wpAny_Name (wpAny_loadName_cell I.ok.kind hk hc hcell fin) hd
    · exact wpAny_Name (wpAny_loadName_free I.ok.kind hk hc hcell fin hcd) hd
theorem q0g {i j pos}:PE X (.Constant (.int i) j pos) (tC (.int i)):=fun _ _ _ H _ I h=>wpAny_Constant_int ⟨.int i,H,I.tok _,⟨_,rfl⟩,h⟩
theorem q6p {b j pos}:PE X (.Constant (.bool b) j pos) (tC (.bl b)):=fun _ _ _ H _ I h=>Constant_bool ⟨.bl b,H,I,rfl,h⟩
theorem q2v {j pos}:PE X (.Constant .none j pos) (tC .non):=fun _ _ _ H _ I h=>Constant_none ⟨.non,H,I,rfl,h⟩
theorem q1g {x j pos}:PE X (.Constant (.str x) j pos) (tC (.str x)):=fun _ _ _ H _ I h=>Calls.Constant_str ⟨.str x,H,I.tok _,⟨_,rfl⟩,h⟩
def Gl (X:Cx) (x:Str):Prop:=X.env.kindOf x=some .globalImplicit
theorem q3p {E:Value→Shared→Prop} {pins:List (Addr×Obj)} {s:Shared} {σ:St} {H:Hp} {x:Str} {u:Value} {pos:Pos} {Q:Value→Shared→Prop} (I:Inv X pins σ H s) (hg:Gl X x) (hm:X.mg x=some u) (h:Q u s)
    (hd:(x==("__debug__" : Str))=false:=by decide):wpAny (model X.prog X.w) X.A (eval (.Name x pos) X.env) Q E s :=
  Calls.Name_function_global I.ok.kind hg (Calls.loadGlobal_global (by rw [I.ok.glob];exact I.mod.glob.keeps I.bk) hm h) hd
theorem q8h {E:Value→Shared→Prop} {pins:List (Addr×Obj)} {s:Shared} {σ:St} {H:Hp} {x:Str} {u:Value} {pos:Pos} {Q:Value→Shared→Prop} (I:Inv X pins σ H s) (hg:Gl X x) (hm:X.mg x=none) (hv:bootBuiltins x=some u) (h:Q u s)
    (hn:x ≠ "__name__" := by decide) (hd:(x==("__debug__" : Str))=false:=by decide):wpAny (model X.prog X.w) X.A (eval (.Name x pos) X.env) Q E s:=by
  obtain⟨mb,h1,h2⟩:=I.mod.blt
  exact Calls.Name_function_global I.ok.kind hg (Calls.loadGlobal_builtin (by rw [I.ok.glob];exact I.mod.glob.keeps I.bk) hm (by rw [I.ok.blt];exact h1.keeps I.bk) ((h2 x hn).trans hv) h) hd
theorem q0v {x:Str} {v:V} {u:Value} {pos:Pos} (hg:Gl X x) (hm:X.mg x=some u) (r:RelV v u) (hd:(x==("__debug__" : Str))=false:=by decide):PE X (.Name x pos) (tC v) :=
  fun _ _ _ H _ I h=>q3p I hg hm ⟨v,H,I,r,h⟩ hd
theorem q5q {x:Str} {v:V} {u:Value} {pos:Pos} (hg:Gl X x) (hm:X.mg x=none) (hv:bootBuiltins x=some u) (r:RelV v u) (hn:x ≠ "__name__" := by decide) (hd:(x==("__debug__" : Str))=false:=by decide):PE X (.Name x pos) (tC v) :=
  fun _ _ _ H _ I h=>q8h I hg hm hv ⟨v,H,I,r,h⟩ hn hd
variable {a b:Expr} {ta tb:TE} {pos:Pos}
def PC (X:Cx) (op:CmpOp) (a b:Expr) (t:TE):Prop :=
  ∀ (pins:List (Addr×Obj)) (s:Shared) (σ:St) (H:Hp) (Q:VK),Inv X pins σ H s→t σ H Q →
    wpAny (model X.prog X.w) X.A (eval a X.env) (fun v s₁=>wpAny (model X.prog X.w) X.A (eval b X.env) (fun u s₂=>wpAny (model X.prog X.w) X.A (compareOp op v u) (EP X pins σ Q) X.xe s₂) X.xe s₁) X.xe s
theorem nobehind (b:Expr) {op:CmpOp} (h:op ≠ .In) (h2:op ≠ .NotIn):behindInMarks op b=false:=by
  have e1:(op==CmpOp.In)=false:=by cases op <;> first | rfl | exact absurd rfl h
  have e2:(op==CmpOp.NotIn)=false:=by cases op <;> first | rfl | exact absurd rfl h2
  cases b <;> simp [behindInMarks,e1,e2]
def tIsN (ta:TE):TE:=fun σ H Q=>ta σ H fun x H1=>Q (.bl (decide (x = .non))) H1
def tNotN (ta:TE):TE:=fun σ H Q=>ta σ H fun x H1=>Q (.bl (!decide (x = .non))) H1
theorem RelV.none_iff {x:V} {v:Value} (r:RelV x v):(v==Value.none)=decide (x = .non):=by
  cases x with
  | non=>cases r;rfl
  | bl _=>cases r;rfl
  | int _=>obtain⟨t,rfl⟩:=r;rfl
  | str _=>obtain⟨t,rfl⟩:=r;rfl
  | byt _=>obtain⟨t,rfl⟩:=r;rfl
  | flt _=>obtain⟨t,rfl⟩:=r;rfl
  | ref _=>cases r;rfl
  | ty _=>cases r;rfl
theorem q6t {j pos'} (ha:PE X a ta):PC X .Is a (.Constant .none j pos') (tIsN ta):=by
  intro pins s σ H Q I h
  refine thn (ha pins s σ H _ I h) fun v s1 ⟨x,H1,I1,r1,q1⟩ => ?_
  exact Constant_none (is_none_gen ⟨.bl _,H1,I1,by rw [r1.none_iff];rfl,q1⟩)
theorem q7m {j pos'} (ha:PE X a ta):PC X .IsNot a (.Constant .none j pos') (tNotN ta):=by
  intro pins s σ H Q I h
  refine thn (ha pins s σ H _ I h) fun v s1 ⟨x,H1,I1,r1,q1⟩ => ?_
  exact Constant_none (isnot_none_gen ⟨.bl _,H1,I1,by rw [r1.none_iff];rfl,q1⟩)
def tB (t:TE):TT:=fun σ H Q=>t σ H fun x H1=>∃ c,x = .bl c∧Q c H1
theorem z8j {op:CmpOp} {t:TE} (h:PC X op a b t) (h1:behindInMarks op b=false:=by first | exact nobehind _ (by decide) (by decide) | rfl):PE X (.Compare a [op] [b] pos) t:=fun pins s σ H Q I hw=>wpAny_Compare1 (h pins s σ H Q I hw) h1
theorem q2j {op:CmpOp} {t:TE} (h:PC X op a b t) (h1:behindInMarks op b=false:=by first | exact nobehind _ (by decide) (by decide) | rfl):PT X (.Compare a [op] [b] pos) (tB t):=by
  intro pins s σ H Q I hw
  refine wpAny_isTrue_Compare1 (thn (h pins s σ H _ I hw) fun v s1 h1=>thn h1 fun u s2 h2=>thn h2 fun c s3 ⟨x,H1,I1,r1,q1⟩ => ?_) h1
  obtain⟨d,rfl,q⟩:=q1
  cases r1
  exact wpAny_truthy_bool ⟨H1,I1,q⟩
variable {tA tB' : TT} {rest:List Expr}
def tAnd (t u:TT):TT:=fun σ H Q=>t σ H fun c H1=>if c=true then u σ H1 Q else Q false H1
def tOr (t u:TT):TT:=fun σ H Q=>t σ H fun c H1=>if c=true then Q true H1 else u σ H1 Q
def tNot (t:TT):TT:=fun σ H Q=>t σ H fun c H1=>Q (!c) H1
theorem q2p (ha:PT X a tA):PW X (.BoolOp .And [a] pos) tA:=by
  intro wh pins s σ H Q I h
  refine isTrue_and (thn (ha pins s σ H Q I h) fun c s1 e => ?_)
  cases c with
  | true=>exact isTrue_and_nil e
  | false=>exact e
theorem z2t (ha:PT X a tA):PW X (.BoolOp .Or [a] pos) tA:=by
  intro wh pins s σ H Q I h
  refine isTrue_or (thn (ha pins s σ H Q I h) fun c s1 e => ?_)
  cases c with
  | false=>exact isTrue_or_nil e
  | true=>exact e
theorem q3v (ha:PT X a tA) (hb:PW X (.BoolOp .And (b::rest) pos) tB'):PW X (.BoolOp .And (a::b::rest) pos) (tAnd tA tB'):=by
  intro wh pins s σ H Q I h
  refine isTrue_and (thn (ha pins s σ H _ I h) fun c s1 ⟨H1,I1,q1⟩ => ?_)
  cases c with
  | true=>exact hb wh pins s1 σ H1 Q I1 q1
  | false=>exact⟨H1,I1,q1⟩
theorem z2u (ha:PT X a tA) (hb:PW X (.BoolOp .Or (b::rest) pos) tB'):PW X (.BoolOp .Or (a::b::rest) pos) (tOr tA tB'):=by
  intro wh pins s σ H Q I h
  refine isTrue_or (thn (ha pins s σ H _ I h) fun c s1 ⟨H1,I1,q1⟩ => ?_)
  cases c with
  | true=>exact⟨H1,I1,q1⟩
  | false=>exact hb wh pins s1 σ H1 Q I1 q1
theorem q5r (ha:PT X a tA):PT X (.UnaryOp .Not a pos) (tNot tA):=by
  intro pins s σ H Q I h
  exact isTrue_not (ha pins s σ H (fun c H1=>Q (!c) H1) I h)
def tAndV (ta tb:TE):TE:=fun σ H Q=>ta σ H fun x H1=>∃ c,x = .bl c∧if c=true then tb σ H1 Q else Q (.bl false) H1
def tOrV (ta tb:TE):TE:=fun σ H Q=>ta σ H fun x H1=>∃ c,x = .bl c∧if c=true then Q (.bl true) H1 else tb σ H1 Q
theorem z2v {op} {t:TE} (h:PE X a t):PE X (.BoolOp op [a] pos) t:=fun pins s σ H Q I hw=>BoolOp_one (h pins s σ H Q I hw)
theorem pe_and (ha:PE X a ta) (hb:PE X (.BoolOp .And (b::rest) pos) tb):PE X (.BoolOp .And (a::b::rest) pos) (tAndV ta tb):=by
  intro pins s σ H Q I h
  refine BoolOp_and (thn (ha pins s σ H _ I h) fun v s1 ⟨x,H1,I1,r1,q1⟩ => ?_)
  obtain⟨c,rfl,q1⟩:=q1
  cases r1
  refine wpAny_truthy_bool ?_
  cases c with
  | true=>exact hb pins s1 σ H1 Q I1 q1
  | false=>exact⟨.bl false,H1,I1,rfl,q1⟩
theorem pe_or (ha:PE X a ta) (hb:PE X (.BoolOp .Or (b::rest) pos) tb):PE X (.BoolOp .Or (a::b::rest) pos) (tOrV ta tb):=by
  intro pins s σ H Q I h
  refine BoolOp_or (thn (ha pins s σ H _ I h) fun v s1 ⟨x,H1,I1,r1,q1⟩ => ?_)
  obtain⟨c,rfl,q1⟩:=q1
  cases r1
  refine wpAny_truthy_bool ?_
  cases c with
  | false=>exact hb pins s1 σ H1 Q I1 q1
  | true=>exact⟨.bl true,H1,I1,rfl,q1⟩
end
end L2
namespace L2
open PySem PySem.Spec PyProof.Rows
def SqL (K:PySem.W.Frag) (H:Hp) (a:Addr) (xs:List V):Prop :=
  Rd H a (.lst xs) ∨
    ∃ (o:Obj) (its:Array Value) (n:Nat),K.lookup a=some o∧o.cls = .type "list" ∧ o.dict=none∧o.data = .seq its n∧its.size≤sizeLine∧Vals xs its.toList
def SqT (K:PySem.W.Frag) (H:Hp) (a:Addr) (xs:List V):Prop :=
  Rd H a (.tup xs) ∨
    ∃ (o:Obj) (its:Array Value) (n:Nat),K.lookup a=some o∧o.cls = .type "tuple" ∧ o.data = .seq its n∧its.size≤sizeLine∧Vals xs its.toList
def absV:Value→Option V
  | .none=>some .non
  | .bool b=>some (.bl b)
  | .int i _=>some (.int i)
  | .str x _=>some (.str x)
  | .bytes b _=>some (.byt b)
  | .float b _=>some (.flt b)
  | .ref a=>some (.ref a)
  | .type n=>some (.ty n)
  | _=>none
theorem RelV.abs {x:V} {u:Value} (r:RelV x u):absV u=some x:=by
  cases x with
  | non=>cases r;rfl
  | bl _=>cases r;rfl
  | int _=>obtain⟨t,rfl⟩:=r;rfl
  | str _=>obtain⟨t,rfl⟩:=r;rfl
  | byt _=>obtain⟨t,rfl⟩:=r;rfl
  | flt _=>obtain⟨t,rfl⟩:=r;rfl
  | ref _=>cases r;rfl
  | ty _=>cases r;rfl
theorem RelV.inj {x y:V} {u:Value} (r:RelV x u) (q:RelV y u):x=y:=Option.some.inj (r.abs.symm.trans q.abs)
theorem Vals.inj:∀ {xs ys:List V} {us:List Value},Vals xs us→Vals ys us→xs=ys
  | _,_,_,.nil,.nil=>rfl
  | _,_,_,.cons r t,.cons r' t' => by rw [r.inj r',Vals.inj t t']
section
variable {X:Cx} {pins:List (Addr×Obj)} {σ:St} {H:Hp} {s:Shared} {a:Addr} {xs ys:List V}
theorem SqL.of {K:PySem.W.Frag} (h:H a=some (.lst xs)):SqL K H a xs := .inl (.inl h)
theorem SqT.of {K:PySem.W.Frag} (h:H a=some (.tup xs)):SqT K H a xs := .inl (.inl h)
theorem Inv.list (I:Inv X pins σ H s) (h:SqL X.K H a xs):∃ its:List Value,Vals xs its∧PlainL s.heap a its.toArray∧xs.length≤sizeLine:=by
  rcases h with h | ⟨o,its,n,hk,hc,hd,hs,hz,r⟩
  · obtain⟨z,its,n,r,e⟩:=h.ok I.hok
    exact⟨its,r,⟨_,n,e,rfl,rfl,rfl⟩,z⟩
  · refine⟨its.toList,r,⟨o,n,I.kIn a o hk,hc,hd,by simpa using hs⟩,?_⟩
    have e:=r.length
    simp only [Array.length_toList] at e
    lia
theorem Inv.tuple (I:Inv X pins σ H s) (h:SqT X.K H a xs):∃ its:List Value,Vals xs its∧IsTup s.heap a its.toArray∧xs.length≤sizeLine:=by
  rcases h with h | ⟨o,its,n,hk,hc,hs,hz,r⟩
  · obtain⟨z,its,r,p⟩:=h.ok I.hok
    exact⟨its,r,p,z⟩
  · refine⟨its.toList,r,⟨o,I.kIn a o hk,hc,n,by simpa using hs⟩,?_⟩
    have e:=r.length
    simp only [Array.length_toList] at e
    lia
theorem Inv.list_inj (I:Inv X pins σ H s) (h:SqL X.K H a xs) (h' : SqL X.K H a ys):xs=ys:=by
  obtain⟨its,r,⟨o,n,e,_,_,d⟩,_⟩:=I.list h
  obtain⟨its',r',⟨o',n',e',_,_,d'⟩,_⟩:=I.list h'
  rw [e] at e';cases e'
  rw [d] at d'
  injection d' with d1 _
  have:its=its' := by simpa using congrArg Array.toList d1
  subst this
  exact r.inj r'
theorem Inv.tuple_inj (I:Inv X pins σ H s) (h:SqT X.K H a xs) (h' : SqT X.K H a ys):xs=ys:=by
  obtain⟨its,r,⟨o,e,_,n,d⟩,_⟩:=I.tuple h
  obtain⟨its',r',⟨o',e',_,n',d'⟩,_⟩:=I.tuple h'
  rw [e] at e';cases e'
  rw [d] at d'
  injection d' with d1 _
  have:its=its' := by simpa using congrArg Array.toList d1
  subst this
  exact r.inj r'
end
abbrev Cx.wish (X:Cx) (E:Value→Shared→Prop):Cx := { X with xe:=E }
abbrev Cx.nox (X:Cx):Cx:=X.wish fun _ _=>False
theorem Cx.Ok.wish {X:Cx} (ok:X.Ok) (E:Value→Shared→Prop):(X.wish E).Ok :=
  ⟨ok.mod,ok.kind,ok.glob,ok.blt,ok.above,ok.inj,ok.has,ok.cab,ok.hd,ok.frames,ok.stk,ok.exf,ok.bs,ok.bsz,ok.noex,ok.exfs,ok.funs,ok.frf⟩
theorem Cx.Ok.unwish {X:Cx} {E:Value→Shared→Prop} (ok:(X.wish E).Ok):X.Ok :=
  ⟨ok.mod,ok.kind,ok.glob,ok.blt,ok.above,ok.inj,ok.has,ok.cab,ok.hd,ok.frames,ok.stk,ok.exf,ok.bs,ok.bsz,ok.noex,ok.exfs,ok.funs,ok.frf⟩
section
variable {X:Cx} {pins:List (Addr×Obj)} {σ:St} {H:Hp} {s:Shared} {E:Value→Shared→Prop}
theorem Inv.wish (I:Inv X pins σ H s) (E:Value→Shared→Prop):Inv (X.wish E) pins σ H s:=⟨I.ok.wish E,I.os,I.bare,I.base,I.loc,I.cell,I.free,I.freeC,I.pin,I.hok,I.len⟩
theorem Inv.unwish (I:Inv (X.wish E) pins σ H s):Inv X pins σ H s:=⟨I.ok.unwish,I.os,I.bare,I.base,I.loc,I.cell,I.free,I.freeC,I.pin,I.hok,I.len⟩
theorem SP.unwish {D:Ends} {f:Flow} {s' : Shared} (h:SP (X.wish E) pins D f s'):SP X pins D f s' := by
  cases f with
  | next=>obtain⟨σ',H',I,q⟩:=h;exact⟨σ',H',I.unwish,q⟩
  | brk=>obtain⟨σ',H',I,q⟩:=h;exact⟨σ',H',I.unwish,q⟩
  | cont=>obtain⟨σ',H',I,q⟩:=h;exact⟨σ',H',I.unwish,q⟩
  | ret u=>obtain⟨v,σ',H',I,r,q⟩:=h;exact⟨v,σ',H',I.unwish,r,q⟩
theorem PSs.nox {st:List Stmt} {t:TS} (h:PSs X.nox st t):PSs X st t:=fun pins s σ H D I hw =>
  wpAny_mono (h pins s σ H D (I.wish _) hw) (fun _ _ q=>q.unwish) fun _ _ z=>False.elim z
end
section
variable {X:Cx} {st:Stmt} {rest:List Stmt} {t u:TS} {e:Expr} {te:TE} {pos:Pos}
def tNext:TS:=fun D σ H=>D.nx σ H
def tSeq (t u:TS):TS:=fun D σ H=>t { D with nx:=u D } σ H
theorem q0h:PSs X [] tNext:=fun _ _ σ H _ I h=>wpAny_execs_nil ⟨σ,H,I,h⟩
theorem q0e (h1:PS X st t) (h2:PSs X rest u):PSs X (st::rest) (tSeq t u):=by
  intro pins s σ H D I h
  refine wpAny_execs_cons (thn (h1 pins s σ H { D with nx:=u D } I h) fun f s1 q => ?_)
  cases f with
  | next =>
    obtain⟨σ',H',I',q⟩:=q
    exact h2 pins s1 σ' H' D I' q
  | ret v=>exact q
  | brk=>exact q
  | cont=>exact q
theorem q0f (h1:PS X st t):PSs X [st] t:=by
  intro pins s σ H D I h
  refine wpAny_execs_cons (thn (h1 pins s σ H D I h) fun f s1 q => ?_)
  cases f with
  | next=>exact wpAny_execs_nil q
  | ret v=>exact q
  | brk=>exact q
  | cont=>exact q
theorem Inv.quiet {pins:List (Addr×Obj)} {σ:St} {H:Hp} {s:Shared} (I:Inv X pins σ H s):interactive X.env=false:=by simp [interactive,I.ok.kind]
def tDrop (te:TE):TS:=fun D σ H=>te σ H fun _ H1=>D.nx σ H1
theorem q1y (he:PE X e te) (hs:swapsWith e none pos.line X.env=pure false:=by rfl):PS X (.Expr e pos) (tDrop te):=by
  intro pins s σ H D I h
  exact wpAny_Expr_any (thn (he pins s σ H _ I h) fun v s1 ⟨x,H1,I1,r1,q1⟩=>⟨σ,H1,I1,q1⟩) I.quiet hs
def tRet (te:TE):TS:=fun D σ H=>te σ H D.rt
theorem q0l (he:PE X e te):PS X (.Return (some e) pos) (tRet te):=by
  intro pins s σ H D I h
  exact wpAny_Return_some (thn (he pins s σ H _ I h) fun v s1 ⟨x,H1,I1,r1,q1⟩=>⟨x,σ,H1,I1,r1,q1⟩)
def tIfS (c:TT) (t u:TS):TS:=fun D σ H=>c σ H fun b H1=>if b=true then t D σ H1 else u D σ H1
theorem q1b {c:Expr} {a b:List Stmt} {tc:TT} (hc:PT X c tc) (ha:PSs X a t) (hb:PSs X b u):PS X (.If c a b pos) (tIfS tc t u):=by
  intro pins s σ H D I h
  refine wpAny_If (thn (hc pins s σ H _ I h) fun d s1 ⟨H1,I1,q1⟩ => ?_)
  cases d with
  | true=>exact ha pins s1 σ H1 D I1 q1
  | false=>exact hb pins s1 σ H1 D I1 q1
def tNever:TS:=fun _ _ _=>False
theorem z0m:PS X st tNever:=fun _ _ _ _ _ _ h=>h.elim
end
abbrev TG:=V→St→Hp→(St→Hp→Prop)→Prop
abbrev TGs:=List V→St→Hp→(St→Hp→Prop)→Prop
def PG (X:Cx) (target:Expr) (t:TG):Prop :=
  ∀ (pins:List (Addr×Obj)) (s:Shared) (σ:St) (H:Hp) (v:V) (u:Value) (Q:St→Hp→Prop),Inv X pins σ H s→RelV v u→t v σ H Q →
    wpAny (model X.prog X.w) X.A (assign target X.env u) (fun _ s' => ∃ σ' H',Inv X pins σ' H' s' ∧ Q σ' H') X.xe s
def PGs (X:Cx) (ts:List Expr) (t:TGs):Prop :=
  ∀ (pins:List (Addr×Obj)) (s:Shared) (σ:St) (H:Hp) (vs:List V) (us:List Value) (Q:St→Hp→Prop),Inv X pins σ H s→Vals vs us→t vs σ H Q →
    wpAny (model X.prog X.w) X.A (assignInOrder ((assignEach ts X.env).map (·.2)) us) (fun _ s' => ∃ σ' H',Inv X pins σ' H' s' ∧ Q σ' H') X.xe s
abbrev TSet:=V→V→V→Hp→(Hp→Prop)→Prop
def PSet (X:Cx) (t:TSet):Prop :=
  ∀ (pins:List (Addr×Obj)) (s:Shared) (σ:St) (H:Hp) (o i v:V) (ov iv u:Value) (Q:Hp→Prop),Inv X pins σ H s→RelV o ov→RelV i iv→RelV v u→t o i v H Q →
    wpAny (model X.prog X.w) X.A (setItem ov iv u) (fun _ s' => ∃ H',Inv X pins σ H' s' ∧ Q H') X.xe s
section
variable {X:Cx} {pos:Pos}
def gName (i:Nat):TG:=fun v σ H Q=>Q (σ.set i (some v)) H
theorem q1e {i:Nat} {x:Str} (hN:X.N.Nodup) (hi:X.N[i]? = some x) (hx:Loc X.env.scope x) (hf:X.fn x=true∨X.env.scope.names.lookup x=some .local:=by first | exact .inl rfl | exact .inr rfl | assumption):PG X (.Name x pos) (gName i):=by
  intro pins s σ H v u Q I r h
  exact wpAny_assign_Name (q7l I hN hi hx r (fun s' I' => ⟨_,H,I',h⟩) hf)
def gNil:TGs:=fun vs σ H Q=>vs = []∧Q σ H
def gCons (t:TG) (u:TGs):TGs:=fun vs σ H Q=>∃ v r,vs=v::r∧t v σ H fun σ' H' => u r σ' H' Q
theorem q5s:PGs X [] gNil:=by
  intro pins s σ H vs us Q I r h
  obtain⟨e,h⟩:=h
  subst e
  cases r
  exact assignInOrder_nil ⟨σ,H,I,h⟩
theorem q1w {e:Expr} {es:List Expr} {t:TG} {u:TGs} (h1:PG X e t) (h2:PGs X es u)
    (hs:(assignEach (e::es) X.env).map (·.2)=assign e X.env::(assignEach es X.env).map (·.2):=by rfl):PGs X (e::es) (gCons t u):=by
  intro pins s σ H vs us Q I r h
  obtain⟨v,vr,e1,h⟩:=h
  subst e1
  cases r with
  | cons r rr =>
    rw [hs]
    refine assignInOrder_cons (thn (h1 pins s σ H _ _ _ I r h) fun _ s1 ⟨σ1,H1,I1,q1⟩ => ?_)
    exact h2 pins s1 σ1 H1 _ _ Q I1 rr q1
def gTup (K:PySem.W.Frag) (n:Nat) (t:TGs):TG:=fun v σ H Q=>∃ a xs,v = .ref a∧SqT K H a xs∧xs.length=n∧t xs σ H Q
theorem pg_tup {es:List Expr} {k:Nat} {t:TGs} {n:Nat} (hc:X.calm=true) (h:PGs X es t)
    (hn:(assignEach es X.env).length=n:=by rfl) (hst:(assignEach es X.env).findIdx? (·.1)=none:=by rfl):PG X (.Tuple es k pos) (gTup X.K n t):=by
  intro pins s σ H v u Q I r hw
  obtain⟨a,xs,e1,hq,hl,hw⟩:=hw
  subst e1
  cases r
  obtain⟨its,rv,ht,hz⟩:=I.tuple hq
  refine assign_Tuple_tuple (I.ok.hd hc) ht (by simp [hn,← hl,rv.length]) hst fun h' hx => ?_
  have I1:Inv X pins σ H { s with heap:=h' }:=I.kept (t' := s.toks) fun b o e=>hx b o (Nat.ne_of_lt (Heap.lt_size e)) e
  exact h pins _ σ H xs _ Q I1 (by simpa using rv) hw
def gSub (to ti:TE) (t:TSet):TG:=fun v σ H Q=>to σ H fun o H1=>ti σ H1 fun i H2=>t o i v H2 fun H3=>Q σ H3
theorem z2w {o i:Expr} {to ti:TE} {t:TSet} (ho:PE X o to) (hi:PE X i ti) (hs:PSet X t)
    (ha:∀ v,assign (.Subscript o i pos) X.env v=(do
      let ov ← holding [v] (eval o X.env)
      let iv ← holding [v,ov] (eval i X.env)
      standAt pos
      holding [v,ov,iv] (setItem ov iv v)
      release [v,ov,iv] []):=by intro _;rfl):PG X (.Subscript o i pos) (gSub to ti t):=by
  intro pins s σ H v u Q I r h
  rw [ha]
  refine wpAny_bind (wpAny_holding (thn (ho pins s σ H _ I h) fun ov s1 ⟨x,H1,I1,r1,q1⟩ => ?_))
  refine wpAny_bind (wpAny_holding (thn (hi pins s1 σ H1 _ I1 q1) fun iv s2 ⟨y,H2,I2,r2,q2⟩ => ?_))
  refine wpAny_bind (wpAny_standAt (wpAny_bind (wpAny_holding (thn (hs pins s2 σ H2 x y v ov iv u _ I2 r1 r2 r q2) fun _ s3 ⟨H3,I3,q3⟩ => ?_))))
  exact wpAny_release ⟨σ,H3,I3,q3⟩
def tAsg (te:TE) (g:TG):TS:=fun D σ H=>te σ H fun x H1=>g x σ H1 D.nx
theorem z2x {tg e:Expr} {te:TE} {g:TG} (he:PE X e te) (hg:PG X tg g) (hs:swapsWithSole [tg] e pos.line X.env=pure false:=by rfl) (hw:swappedStores [tg] e X.env=pure none:=by rfl)
    (h1:(assignEach [tg] X.env).map (·.2) = [assign tg X.env]:=by rfl):PS X (.Assign [tg] e pos) (tAsg te g):=by
  intro pins s σ H D I h
  refine wpAny_Assign_stores (thn (he pins s σ H _ I h) fun v s1 ⟨x,H1,I1,r1,q1⟩ => ?_) hs hw
  rw [h1]
  exact thn (hg pins s1 σ H1 x v _ I1 r1 q1) fun _ s2 q=>q
theorem q0m {i:Nat} {x:Str} {e:Expr} {te:TE} {pos' : Pos} (hN:X.N.Nodup) (hi:X.N[i]? = some x) (hx:Loc X.env.scope x) (he:PE X e te) (hs:swapsWith e (some (.Name x pos')) pos.line X.env=pure false:=by rfl) (hf:X.fn x=true∨X.env.scope.names.lookup x=some .local:=by first | exact .inl rfl | exact .inr rfl | assumption) :
    PS X (.Assign [.Name x pos'] e pos) (tAsg te (gName i)):=by
  intro pins s σ H D I h
  refine wpAny_Assign_Name (thn (he pins s σ H _ I h) fun v s1 ⟨y,H1,I1,r1,q1⟩ => ?_) hs
  exact q7l I1 hN hi hx r1 (fun s2 I2=>⟨_,H1,I2,q1⟩) hf
end
section
variable {X:Cx} {pos:Pos}
def tWhile (c:TT) (tb:TS):TS:=fun D σ H=>∃ W:Nat→St→Hp→Prop,(∃ m,W m σ H)∧∀ m σ H,W m σ H →
  c σ H fun b H1=>if b=true then ∃ N:St→Hp→Prop,(∀ σ' H',N σ' H' → ∃ m',m' < m∧W m' σ' H')∧tb { D with nx:=N,ct:=N,bk:=D.nx } σ H1 else D.nx σ H1
theorem z6g {c:Expr} {body:List Stmt} {tc:TT} {tb:TS} (hp:PassesOwn (model X.prog X.w) X.A X.env X.xe) (hc:PT X c tc) (hb:PSs X body tb):PS X (.While c body [] pos) (tWhile tc tb):=by
  intro pins s σ H D I h
  obtain⟨W,⟨m0,w0⟩,turn⟩:=h
  refine wpAny_While (codeAny_whileLoop (fun n s' => ∃ σ' H',Inv X pins σ' H' s' ∧ W n σ' H') ?_ m0 ⟨σ,H,I,w0⟩)
  rintro n s1 ⟨σ1,H1,I1,w1⟩
  refine wpAny_passesOwn hp (thn (hc pins s1 σ1 H1 _ I1 (turn n σ1 H1 w1)) fun b s2 ⟨H2,I2,q2⟩ => ?_)
  cases b with
  | true =>
    obtain⟨N,hN,q2⟩:=q2
    rw [if_pos rfl]
    refine wpAny_passesOwn hp (thn (hb pins s2 σ1 H2 _ I2 q2) fun f s3 q3 => ?_)
    cases f with
    | next =>
      obtain⟨σ3,H3,I3,n3⟩:=q3
      obtain⟨m',hm,w3⟩:=hN σ3 H3 n3
      exact⟨m',hm,σ3,H3,I3,w3⟩
    | cont =>
      obtain⟨σ3,H3,I3,n3⟩:=q3
      obtain⟨m',hm,w3⟩:=hN σ3 H3 n3
      exact⟨m',hm,σ3,H3,I3,w3⟩
    | brk=>exact q3
    | ret v=>exact q3
  | false =>
    rw [if_neg Bool.false_ne_true]
    exact wpAny_execs_nil ⟨σ1,H2,I2,q2⟩
end
structure It where
  go:Nat→Hp→Prop
  yld:Nat→Hp→V→Hp→Prop
  stop:Nat→Hp→Prop
def FpOk (X:Cx) (pins:List (Addr×Obj)) (H:Hp) (b:Addr):Prop :=
  H b=none∧b≠X.env.locals∧b∉X.fs∧(b∈X.ex∨X.s₀.heap.objs.size≤b)∧(∀ x c,X.env.cells.lookup x=some c→c≠b)∧∀ p∈X.pn++pins,p.1≠b
theorem Inv.fpOk {X:Cx} {pins:List (Addr×Obj)} {σ:St} {H H' : Hp} {s:Shared} {b:Addr} (I:Inv X pins σ H s) (hb:s.heap.objs.size≤b) (hn:H' b=none):FpOk X pins H' b:=by
  refine⟨hn,Nat.ne_of_gt (Nat.lt_of_lt_of_le I.lt hb),I.nofs hb,.inr (Nat.le_trans I.sz hb),fun x c e z => ?_,fun p hp z => ?_⟩
  · obtain⟨v,q⟩:=I.cell x c e
    exact absurd (Nat.lt_of_lt_of_le q.lt (by rw [z];exact hb)) (Nat.lt_irrefl _)
  · exact absurd (Nat.lt_of_lt_of_le (Heap.lt_size (I.pin p hp).1) (by rw [z];exact hb)) (Nat.lt_irrefl _)
structure Turn (P:Program) (w:World) (K:PySem.W.Frag) (tg:Expr) (J:It) (fp:List Addr) (it:Addr) (tn:Nat→Heap→Prop):Prop where
  mem:it∈fp
  obj:∀ i h,tn i h→∀ b∈fp,∃ o,h.get? b=some o∧∀ v,o.data ≠ .cell v
  keep:∀ i h h',tn i h→(∀ b∈fp,∀ o,h.get? b=some o→h'.get? b=some o)→tn i h'
  item:∀ (X:Cx),X.prog=P→X.w=w→X.K=K→X.calm=true→∀ (i:Nat) (pins:List (Addr×Obj)) (s:Shared) (σ:St) (H:Hp) (E:Value→Shared→Prop),Inv X pins σ H s→(∀ b∈fp,FpOk X pins H b)→tn i s.heap→J.go i H →
    wpAny (model P w) X.A (pyNext (.ref it)) (fun r s1=>∃ u,r=some u ∧
      wpAny (model P w) X.A (letOwnedTupleGo tg (.ref it) u) (fun _ s2=>∃ x H',Inv X pins σ H' s2∧RelV x u∧J.yld i H x H' ∧ tn (i+1) s2.heap∧∀ b∈fp,H' b=none) E s1) E s
  done:∀ (X:Cx),X.prog=P→X.w=w→X.K=K→X.calm=true→∀ (i:Nat) (pins:List (Addr×Obj)) (s:Shared) (σ:St) (H:Hp) (E:Value→Shared→Prop),Inv X pins σ H s→(∀ b∈fp,FpOk X pins H b)→tn i s.heap→J.stop i H →
    wpAny (model P w) X.A (pyNext (.ref it)) (fun r s1=>r=none∧Inv X pins σ H s1) E s
  self:∀ (A:Around) (i:Nat) (s:Shared) (Q:Value→Shared→Prop) (E:Value→Shared→Prop),tn i s.heap→Q (.ref it) s→wpAny (model P w) A (pyIter (.ref it)) Q E s
abbrev TI:=St→Hp→(It→Hp→Prop)→Prop
def PIE (X:Cx) (pins:List (Addr×Obj)) (σ:St) (tg:Expr) (R:It→Hp→Prop) (itv:Value) (s2:Shared):Prop :=
  ∃ (it:Addr) (fp:List Addr) (tn:Nat→Heap→Prop) (J:It) (H' : Hp),itv = .ref it∧Inv X pins σ H' s2∧Turn X.prog X.w X.K tg J fp it tn∧tn 0 s2.heap∧(∀ b∈fp,FpOk X pins H' b)∧R J H'
def PI (X:Cx) (tg iter:Expr) (wi:TI):Prop :=
  ∀ (pins:List (Addr×Obj)) (s:Shared) (σ:St) (H:Hp) (R:It→Hp→Prop),Inv X pins σ H s→wi σ H R →
    wpAny (model X.prog X.w) X.A (eval iter X.env) (fun v s1=>wpAny (model X.prog X.w) X.A (pyIter v) (PIE X pins σ tg R) X.xe s1) X.xe s
theorem z1n {M:Model} {A:Around} {E:Value→Shared→Prop} {s:Shared} {tg:Expr} {it:Addr} {u:Value} {o:Obj} {n:String} {vs:Array Value} {Q:Unit→Shared→Prop} (ho:s.heap.get? it=some o) (hc:o.cls = .type n) (hd:o.data = .fields vs)
    (hn : ["enumerate", "zip", "dict_itemiterator", "dict_reverseitemiterator", "odict_iterator", "itertools.zip_longest", "itertools.pairwise"].contains n=false) (hQ:Q () s):wpAny M A (letOwnedTupleGo tg (.ref it) u) Q E s:=by
  unfold letOwnedTupleGo
  cases tg <;> first
    | exact wpAny_pure hQ
    | (cases u <;> first
        | exact wpAny_pure hQ
        | (refine wpAny_bind (wpAny_load ho ?_)
           rw [hc,hd]
           show wpAny M A (if (["enumerate", "zip", "dict_itemiterator", "dict_reverseitemiterator", "odict_iterator", "itertools.zip_longest", "itertools.pairwise"].contains n&&vs[0]? == some (rawInt _))=true then _ else _) Q E s
           rw [if_neg (by intro h;rw [hn,Bool.false_and] at h;cases h)]
           exact wpAny_pure hQ))
def Itl (K:PySem.W.Frag) (a:Addr):It :=
  ⟨fun i H=>∃ xs x,SqL K H a xs∧xs[i]? = some x,fun i H x H' => H' = H∧∀ xs,SqL K H a xs→xs[i]? = some x,fun i H=>∃ xs,SqL K H a xs∧xs.length≤i⟩
def Itt (K:PySem.W.Frag) (a:Addr):It :=
  ⟨fun i H=>∃ xs x,SqT K H a xs∧xs[i]? = some x,fun i H x H' => H' = H∧∀ xs,SqT K H a xs→xs[i]? = some x,fun i H=>∃ xs,SqT K H a xs∧xs.length≤i⟩
def Itr (lo:Int) (n:Nat):It:=⟨fun i _=>i<n,fun i H x H' => H' = H∧x = .int (lo+i),fun i _=>n≤i⟩
theorem z2y {P:Program} {w:World} {K:PySem.W.Frag} {tg:Expr} (a it:Addr):Turn P w K tg (Itl K a) [it] it (fun i h=>h.IsListIter it a i) where
  mem:=by simp
  obj:=fun i h st b hb=>by
    have e:b=it:=by simpa using hb
    subst e
    obtain⟨o,e,c,d⟩:=st
    exact⟨o,e,fun v z=>by rw [d] at z;cases z⟩
  keep:=fun i h h' st k=>st.at fun o e=>k it (by simp) o e
  item:=by
    intro X hP hw hK hc i pins s σ H E I hf st hg
    subst hP hw hK
    obtain⟨xs,x,hq,hx⟩:=hg
    obtain⟨its,rv,p,hz⟩:=I.list hq
    obtain⟨u,hu,ru⟩:=rv.get hx
    obtain⟨f0,f1,f2,f3,f4,f5⟩:=hf it (by simp)
    refine wpAny_pyNext_list_item st p.isList (x:=u) (by simpa using hu) fun h' st' sb => ?_
    have I1:Inv X pins σ H { s with heap:=h' }:=I.turned (t' := s.toks) (fun b o hb e=>(sb.2 b hb).trans e) f0 f1 f3 f4 f5
    obtain⟨o,e,c,d⟩:=id st'
    exact⟨u,rfl,z1n (s := { s with heap:=h' }) e c d (by decide) ⟨x,H,I1,ru,⟨rfl,fun ys hy=>by rw [I.list_inj hy hq];exact hx⟩,st',fun b hb=>(hf b hb).1⟩⟩
  done:=by
    intro X hP hw hK hc i pins s σ H E I hf st hg
    subst hP hw hK
    obtain⟨xs,hq,hx⟩:=hg
    obtain⟨its,rv,p,hz⟩:=I.list hq
    obtain⟨f0,f1,f2,f3,f4,f5⟩:=hf it (by simp)
    have hl:=rv.length
    exact wpAny_pyNext_list_end (I.ok.hd hc) st p.isList (by simp;lia) fun h' eb=>⟨rfl,I.turned (t' := s.toks) (fun b o hb e=>eb b o hb e) f0 f1 f3 f4 f5⟩
  self:=fun _ _ _ _ _ st h=>wpAny_pyIter_listiter st h
theorem z1o {P:Program} {w:World} {K:PySem.W.Frag} {tg:Expr} (a it:Addr):Turn P w K tg (Itt K a) [it] it (fun i h=>h.IsTupleIter it a i) where
  mem:=by simp
  obj:=fun i h st b hb=>by
    have e:b=it:=by simpa using hb
    subst e
    obtain⟨o,e,c,d⟩:=st
    exact⟨o,e,fun v z=>by rw [d] at z;cases z⟩
  keep:=fun i h h' st k=>st.at fun o e=>k it (by simp) o e
  item:=by
    intro X hP hw hK hc i pins s σ H E I hf st hg
    subst hP hw hK
    obtain⟨xs,x,hq,hx⟩:=hg
    obtain⟨its,rv,p,hz⟩:=I.tuple hq
    obtain⟨u,hu,ru⟩:=rv.get hx
    obtain⟨f0,f1,f2,f3,f4,f5⟩:=hf it (by simp)
    refine wpAny_pyNext_tuple_item st (show s.heap.IsTuple a its.toArray from p) (x:=u) (by simpa using hu) fun h' st' sb => ?_
    have I1:Inv X pins σ H { s with heap:=h' }:=I.turned (t' := s.toks) (fun b o hb e=>(sb.2 b hb).trans e) f0 f1 f3 f4 f5
    obtain⟨o,e,c,d⟩:=id st'
    exact⟨u,rfl,z1n (s := { s with heap:=h' }) e c d (by decide) ⟨x,H,I1,ru,⟨rfl,fun ys hy=>by rw [I.tuple_inj hy hq];exact hx⟩,st',fun b hb=>(hf b hb).1⟩⟩
  done:=by
    intro X hP hw hK hc i pins s σ H E I hf st hg
    subst hP hw hK
    obtain⟨xs,hq,hx⟩:=hg
    obtain⟨its,rv,p,hz⟩:=I.tuple hq
    obtain⟨f0,f1,f2,f3,f4,f5⟩:=hf it (by simp)
    have hl:=rv.length
    exact wpAny_pyNext_tuple_end (I.ok.hd hc) st (show s.heap.IsTuple a its.toArray from p) (by simp;lia) fun h' eb=>⟨rfl,I.turned (t' := s.toks) (fun b o hb e=>eb b o hb e) f0 f1 f3 f4 f5⟩
  self:=fun _ _ _ _ _ st h=>wpAny_pyIter_tupleiter st h
theorem z1p {P:Program} {w:World} {K:PySem.W.Frag} {tg:Expr} (it:Addr) (lo:Int) (n:Nat):Turn P w K tg (Itr lo n) [it] it (fun i h=>IsRangeIter h it (lo+(i:Nat) * 1) ((n:Int) - (i:Nat)) 1) where
  mem:=by simp
  obj:=fun i h st b hb=>by
    have e:b=it:=by simpa using hb
    subst e
    exact⟨_,st,fun v z=>by
      have z' : Data.fields _=Data.cell v:=z
      cases z'⟩
  keep:=fun i h h' st k=>k it (by simp) _ st
  item:=by
    intro X hP hw hK hc i pins s σ H E I hf st hg
    subst hP hw hK
    obtain⟨f0,f1,f2,f3,f4,f5⟩:=hf it (by simp)
    have W:=Walks.range (prog:=X.prog) (w:=X.w) (I.ok.hd hc) it lo 1 n
    refine W.item i s _ _ hg st fun v h' tk hv st' kk => ?_
    obtain⟨t,rfl⟩:=hv
    have I1:Inv X pins σ H { s with heap:=h',toks:=tk }:=I.turned (fun b o hb e=>kk b o (by simpa using hb) e) f0 f1 f3 f4 f5
    refine⟨_,rfl,z1n (s := { s with heap:=h',toks:=tk }) (n := "range_iterator") st' rfl rfl (by decide) ⟨.int (lo+i),H,I1,⟨t,?_⟩,⟨rfl,rfl⟩,st',fun b hb=>(hf b hb).1⟩⟩
    rw [Int.mul_one]
  done:=by
    intro X hP hw hK hc i pins s σ H E I hf st hg
    subst hP hw hK
    obtain⟨f0,f1,f2,f3,f4,f5⟩:=hf it (by simp)
    exact wpAny_pyNext_range_end (I.ok.hd hc) st (by have:n≤i:=hg;lia) fun h' eb=>⟨rfl,I.turned (t' := s.toks) (fun b o hb e=>eb b o hb e) f0 f1 f3 f4 f5⟩
  self:=fun _ _ _ _ _ st h=>wpAny_pyIter_rangeiter st h
end L2
namespace L2
open PySem PySem.Spec PyProof.Rows
section
variable {X:Cx} {tg:Expr}
theorem z6h {pins:List (Addr×Obj)} {σ:St} {H:Hp} {s:Shared} {R:It→Hp→Prop} {E:Value→Shared→Prop} {lo hi:Int} {t u v:Tok} {tk:Nat} (I:Inv X pins σ H s) (h1 : -(2 ^ 62)≤lo) (h2:lo<2 ^ 62) (h3 : -(2 ^ 62)≤hi) (h4:hi<2 ^ 62)
    (q:R (Itr lo (hi - lo).toNat) H):wpAny (model X.prog X.w) X.A (pyIter (.ref s.heap.objs.size)) (PIE X pins σ tg R) E { s with heap:=s.heap.push { cls := .type "range",data := .fields #[.int lo t,.int hi u,.int 1 v] },toks:=tk }:=by
  refine wpAny_pyIter_range (IsRange.new ..) (small_one h1 h2 h3 h4) ?_
  have I1:Inv X pins σ H { s with heap:=s.heap.push { cls := .type "range",data := .fields #[.int lo t,.int hi u,.int 1 v] },toks:=tk }:=I.kept fun b o e=>Heap.get?_push_of_some _ e
  refine⟨(s.heap.push { cls := .type "range",data := .fields #[.int lo t,.int hi u,.int 1 v] }).objs.size,[(s.heap.push { cls := .type "range",data := .fields #[.int lo t,.int hi u,.int 1 v] }).objs.size],_,_,H,rfl,
    I1.kept (t' := tk) fun b o e=>Heap.get?_push_of_some _ e,z1p _ lo (hi - lo).toNat,?_,fun b hb => ?_,q⟩
  · have e1:lo+((0:Nat):Int) * 1=lo:=by simp
    have e2:(((hi - lo).toNat:Nat):Int) - ((0:Nat):Int)=Builtin.Range.rangeSize lo hi 1:=by rw [rangeSize_one];split <;> lia
    show IsRangeIter _ _ (lo+((0:Nat):Int) * 1) ((((hi - lo).toNat:Nat):Int) - ((0:Nat):Int)) 1
    rw [e1,e2]
    exact Heap.get?_push_size _ rfl
  · have e:b=(s.heap.push { cls := .type "range",data := .fields #[.int lo t,.int hi u,.int 1 v] }).objs.size:=by simpa using hb
    subst e
    exact I1.fpOk (Nat.le_refl _) (I1.hok.fresh (Nat.le_refl _))
def iRng1 (ta:TA):TI:=fun σ H R=>ta σ H fun vs H1=>∃ j:Int,vs = [.int j] ∧ -(2 ^ 62)≤j∧j<2 ^ 62∧R (Itr 0 j.toNat) H1
theorem q2k {a:Expr} {ta:TA} {p pos:Pos} (hg:Gl X "range") (hm:X.mg "range" = none) (ha:PA X [a] ta) (hs:starEach [a] X.env = [(false,eval a X.env)]:=by rfl):PI X tg (.Call (.Name "range" p) [a] [] pos) (iRng1 ta):=by
  intro pins s σ H R I h
  refine Call_ (q8h I hg hm boot_range (PyProof.Rows.callWith_type1 (thn (ha pos pins s σ H _ I h) fun us s1 ⟨vs,H1,I1,r1,q1⟩ => ?_) hs rfl))
  obtain⟨j,e,q1,q2,q⟩:=q1
  subst e
  cases r1 with
  | cons r rr =>
    cases rr
    obtain⟨t,rfl⟩:=r
    exact call_range_1 (z6h I1 (by lia) (by lia) q1 q2 (by simpa using q))
def tFor (wi:TI) (g:TG) (tb:TS):TS:=fun D σ H=>wi σ H fun J H1=>∃ W:Nat→Nat→St→Hp→Prop,(∃ m,W 0 m σ H1)∧∀ i m σ H,W i m σ H →
  (J.stop i H∧D.nx σ H)∨(J.go i H∧∃ N:St→Hp→Prop,(∀ σ' H',N σ' H' → ∃ m',m' < m∧W (i+1) m' σ' H')∧∀ x H',J.yld i H x H' → g x σ H' fun σ2 H2=>tb { D with nx:=N,ct:=N,bk:=D.nx } σ2 H2)
def pinsAt (fp:List Addr) (h:Heap):List (Addr×Obj):=fp.filterMap fun b=>(h.get? b).map fun o=>(b,o)
theorem q1z {fp:List Addr} {h:Heap} {b:Addr} {o:Obj} (hb:b∈fp) (e:h.get? b=some o):(b,o)∈pinsAt fp h:=List.mem_filterMap.mpr ⟨b,hb,by rw [e];rfl⟩
theorem z2z {fp:List Addr} {h:Heap} {p:Addr×Obj} (hp:p∈pinsAt fp h):p.1∈fp∧h.get? p.1=some p.2:=by
  obtain⟨b,hb,e⟩:=List.mem_filterMap.mp hp
  cases q:h.get? b with
  | none=>rw [q] at e;cases e
  | some o =>
    rw [q] at e
    have e' : (b,o)=p:=Option.some.inj e
    subst e'
    exact⟨hb,q⟩
theorem Inv.pinned {pins:List (Addr×Obj)} {σ:St} {H:Hp} {s:Shared} {fp:List Addr} (I:Inv X pins σ H s) (hf:∀ b∈fp,FpOk X pins H b) (ho:∀ b∈fp,∃ o,s.heap.get? b=some o∧∀ v,o.data ≠ .cell v):Inv X (pins++pinsAt fp s.heap) σ H s :=
  I.pins_of fun p hp=>(List.mem_append.mp hp).elim (fun z=>I.pin p (List.mem_append_right _ z)) fun z=>by
    obtain⟨hb,e⟩:=z2z z
    obtain⟨f0,f1,f2,_⟩:=hf p.1 hb
    obtain⟨o,e',d⟩:=ho p.1 hb
    rw [e] at e';cases e'
    exact⟨e,f0,f1,f2,d⟩
theorem Inv.unpinned {pins pl:List (Addr×Obj)} {σ:St} {H:Hp} {s:Shared} (I:Inv X (pins++pl) σ H s):Inv X pins σ H s:=I.pins_of fun p hp=>I.pin p (List.mem_append_right _ (List.mem_append_left _ hp))
theorem q3w {iter:Expr} {body:List Stmt} {wi:TI} {g:TG} {tb:TS} {pos:Pos} (hp:PassesOwn (model X.prog X.w) X.A X.env X.xe) (hc:X.calm=true) (hi:PI X tg iter wi) (hg:PG X tg g) (hb:PSs X body tb)
    (hs:∀ x,foldedSetIterable iter X.env x=pure x:=by intro _;rfl):PS X (.For tg iter body [] pos) (tFor wi g tb):=by
  intro pins s σ H D I h
  refine wpAny_For (thn (hi pins s σ H _ I h) fun v s1 h1=>thn h1 fun itv s2 h2 => ?_) hs
  obtain⟨it,fp,tn,J,H2,e,I2,T,st2,f2,W,⟨m0,w0⟩,turn⟩:=h2
  subst e
  have stat:∀ {H' : Hp},(∀ b∈fp,H' b=none)→∀ b∈fp,FpOk X pins H' b:=fun hn b hb=>⟨hn b hb,(f2 b hb).2⟩
  refine codeAny_forLoop_any (fun n s' => ∃ i σ' H',Inv X pins σ' H' s' ∧ tn i s'.heap∧(∀ b∈fp,H' b=none)∧W i n σ' H') ?_ m0 ⟨0,σ,H2,I2,st2,fun b hb=>(f2 b hb).1,w0⟩
  rintro n s3 ⟨i,σ3,H3,I3,st3,fr3,w3⟩
  rcases turn i n σ3 H3 w3 with ⟨stop,qn⟩ | ⟨go,N,hN,step⟩
  · refine wpAny_passesOwn hp (thn (T.done X rfl rfl rfl hc i pins s3 σ3 H3 X.xe I3 (stat fr3) st3 stop) fun r s4 ⟨hr,I4⟩ => ?_)
    subst hr
    exact wpAny_execs_nil ⟨σ3,H3,I4,qn⟩
  · refine wpAny_passesOwn hp (thn (T.item X rfl rfl rfl hc i pins s3 σ3 H3 X.xe I3 (stat fr3) st3 go) fun r s4 ⟨u,hr,h4⟩ => ?_)
    subst hr
    refine wpAny_passesOwn hp (thn h4 fun _ s5 ⟨x,H5,I5,r5,y5,st5,fr5⟩ => ?_)
    have I5' := I5.pinned (stat fr5) (T.obj _ _ st5)
    refine wpAny_passesOwn hp (thn (hg _ s5 σ3 H5 x u _ I5' r5 (step x H5 y5)) fun _ s6 ⟨σ6,H6,I6,q6⟩ => ?_)
    refine wpAny_passesOwn hp (thn (hb _ s6 σ6 H6 _ I6 q6) fun f s7 q7 => ?_)
    have again:∀ {σ7:St} {H7:Hp},Inv X (pins++pinsAt fp s5.heap) σ7 H7 s7→N σ7 H7→∃ m,m<n∧∃ i σ' H',Inv X pins σ' H' s7∧tn i s7.heap∧(∀ b∈fp,H' b=none)∧W i m σ' H' := fun {σ7 H7} I7 n7=>by
      obtain⟨m',hm,w7⟩:=hN σ7 H7 n7
      refine⟨m',hm,i+1,σ7,H7,I7.unpinned,T.keep _ _ _ st5 fun b hb o e=>(I7.pin (b,o) (List.mem_append_right _ (List.mem_append_right _ (q1z hb e)))).1,fun b hb => ?_,w7⟩
      obtain⟨o,e,d⟩:=T.obj _ _ st5 b hb
      exact (I7.pin (b,o) (List.mem_append_right _ (List.mem_append_right _ (q1z hb e)))).2.1
    cases f with
    | next=>obtain⟨σ7,H7,I7,n7⟩:=q7;exact again I7 n7
    | cont=>obtain⟨σ7,H7,I7,n7⟩:=q7;exact again I7 n7
    | brk=>obtain⟨σ7,H7,I7,q7⟩:=q7;exact⟨σ7,H7,I7.unpinned,q7⟩
    | ret v=>obtain⟨x7,σ7,H7,I7,r7,q7⟩:=q7;exact⟨x7,σ7,H7,I7.unpinned,r7,q7⟩
end
theorem z6i {K:PySem.W.Frag} {a:Addr} {xs:List V} {g:TG} {tb:TS} {D:Ends} {σ:St} {H:Hp} (Pv:Nat→St→Hp→Prop) (h0:Pv 0 σ H) (hl:∀ i σ H,i≤xs.length→Pv i σ H→SqL K H a xs)
    (hs:∀ i x σ H,xs[i]? = some x→Pv i σ H→g x σ H fun σ2 H2=>tb { D with nx:=Pv (i+1),ct:=Pv (i+1),bk:=D.nx } σ2 H2) (hd:∀ σ H,Pv xs.length σ H→D.nx σ H) :
    ∃ W:Nat→Nat→St→Hp→Prop,(∃ m,W 0 m σ H)∧∀ i m σ H,W i m σ H →
      ((Itl K a).stop i H∧D.nx σ H)∨((Itl K a).go i H∧∃ N:St→Hp→Prop,(∀ σ' H',N σ' H' → ∃ m',m' < m∧W (i+1) m' σ' H')∧∀ x H',(Itl K a).yld i H x H' → g x σ H' fun σ2 H2=>tb { D with nx:=N,ct:=N,bk:=D.nx } σ2 H2):=by
  refine⟨fun i m σ H=>m=xs.length - i∧i≤xs.length∧Pv i σ H,⟨xs.length,by simp,Nat.zero_le _,h0⟩,?_⟩
  rintro i m σ H ⟨rfl,hi,p⟩
  have q:=hl i σ H hi p
  by_cases hlt:i<xs.length
  · refine .inr ⟨⟨xs,xs[i],q,by simp [hlt]⟩,Pv (i+1),fun σ' H' p' => ⟨xs.length - (i+1),by lia,rfl,hlt,p'⟩,fun x H' y => ?_⟩
    obtain⟨e,y⟩:=y
    subst e
    exact hs i x σ _ (y xs q) p
  · have e:i=xs.length:=by lia
    subst e
    exact .inl ⟨⟨xs,q,Nat.le_refl _⟩,hd σ H p⟩
theorem q2w {lo:Int} {n:Nat} {g:TG} {tb:TS} {D:Ends} {σ:St} {H:Hp} (Pv:Nat→St→Hp→Prop) (h0:Pv 0 σ H)
    (hs:∀ i σ H,i<n→Pv i σ H→g (.int (lo+i)) σ H fun σ2 H2=>tb { D with nx:=Pv (i+1),ct:=Pv (i+1),bk:=D.nx } σ2 H2) (hd:∀ σ H,Pv n σ H→D.nx σ H) :
    ∃ W:Nat→Nat→St→Hp→Prop,(∃ m,W 0 m σ H)∧∀ i m σ H,W i m σ H →
      ((Itr lo n).stop i H∧D.nx σ H)∨((Itr lo n).go i H∧∃ N:St→Hp→Prop,(∀ σ' H',N σ' H' → ∃ m',m' < m∧W (i+1) m' σ' H')∧∀ x H',(Itr lo n).yld i H x H' → g x σ H' fun σ2 H2=>tb { D with nx:=N,ct:=N,bk:=D.nx } σ2 H2):=by
  refine⟨fun i m σ H=>m=n - i∧i≤n∧Pv i σ H,⟨n,by simp,Nat.zero_le _,h0⟩,?_⟩
  rintro i m σ H ⟨rfl,hi,p⟩
  by_cases hlt:i<n
  · refine .inr ⟨hlt,Pv (i+1),fun σ' H' p' => ⟨n - (i+1),by lia,rfl,hlt,p'⟩,fun x H' y => ?_⟩
    obtain⟨e,y⟩:=y
    subst e y
    exact hs i σ _ hlt p
  · have e:i=n:=by lia
    subst e
    exact .inl ⟨Nat.le_refl _,hd σ H p⟩
theorem z6j {c:TT} {tb:TS} {D:Ends} {σ:St} {H:Hp} (Pv:St→Hp→Prop) (μ:St→Hp→Nat) (h0:Pv σ H)
    (hs:∀ σ H,Pv σ H→c σ H fun b H1=>if b=true then tb { D with nx:=fun σ' H' => Pv σ' H' ∧ μ σ' H' < μ σ H,ct:=fun σ' H' => Pv σ' H' ∧ μ σ' H' < μ σ H,bk:=D.nx } σ H1 else D.nx σ H1)
    (mono:∀ σ H Q Q',(∀ b H1,Q b H1→Q' b H1)→c σ H Q→c σ H Q'):tWhile c tb D σ H:=by
  refine⟨fun m σ H=>m=μ σ H∧Pv σ H,⟨_,rfl,h0⟩,?_⟩
  rintro m σ H ⟨rfl,p⟩
  refine mono σ H _ _ (fun b H1 q => ?_) (hs σ H p)
  cases b with
  | true=>exact⟨_,fun σ' H' ⟨p',l⟩=>⟨_,l,rfl,p'⟩,q⟩
  | false=>exact q
end L2
namespace L2
open PySem PySem.Spec PyProof.Rows
abbrev R2:=V→V→Hp→VK→Prop
def OpR (X:Cx) (f:Value→Value→Sem Value) (r:R2):Prop :=
  ∀ (pins:List (Addr×Obj)) (s:Shared) (σ:St) (H:Hp) (x y:V) (v u:Value) (Q:VK),Inv X pins σ H s→RelV x v→RelV y u→r x y H Q →
    wpAny (model X.prog X.w) X.A (f v u) (EP X pins σ Q) X.xe s
def UnR (X:Cx) (f:Value→Sem Value) (r:V→Hp→VK→Prop):Prop :=
  ∀ (pins:List (Addr×Obj)) (s:Shared) (σ:St) (H:Hp) (x:V) (v:Value) (Q:VK),Inv X pins σ H s→RelV x v→r x H Q →
    wpAny (model X.prog X.w) X.A (f v) (EP X pins σ Q) X.xe s
def CallR (X:Cx) (f:Value) (r:List V→Hp→VK→Prop):Prop :=
  ∀ (pins:List (Addr×Obj)) (s:Shared) (σ:St) (H:Hp) (xs:List V) (us:List Value) (Q:VK),Inv X pins σ H s→Vals xs us→r xs H Q →
    wpAny (model X.prog X.w) X.A (call f us) (EP X pins σ Q) X.xe s
def TruR (X:Cx) (r:V→Hp→(Bool→Hp→Prop)→Prop):Prop :=
  ∀ (pins:List (Addr×Obj)) (s:Shared) (σ:St) (H:Hp) (x:V) (v:Value) (Q:Bool→Hp→Prop),Inv X pins σ H s→RelV x v→r x H Q →
    wpAny (model X.prog X.w) X.A (truthy v) (TP X pins σ Q) X.xe s
def tOp (r:R2) (ta tb:TE):TE:=fun σ H Q=>ta σ H fun x H1=>tb σ H1 fun y H2=>r x y H2 Q
def tUn (r:V→Hp→VK→Prop) (ta:TE):TE:=fun σ H Q=>ta σ H fun x H1=>r x H1 Q
def rI (C:Int→Int→Prop) (g:Int→Int→V):R2:=fun x y H Q=>∃ i j,x = .int i∧y = .int j∧C i j∧Q (g i j) H
def rI0 (g:Int→Int→V):R2:=fun x y H Q=>∃ i j,x = .int i∧y = .int j∧Q (g i j) H
def rU (g:Int→V):V→Hp→VK→Prop:=fun x H Q=>∃ i,x = .int i∧Q (g i) H
section
variable {X:Cx} {a b c:Expr} {ta tb tc:TE} {pos:Pos}
theorem binT (ha:PE X a ta) (hb:PE X b tb) {pins:List (Addr×Obj)} {s:Shared} {σ:St} {H:Hp} {R:V→V→Hp→Prop} (I:Inv X pins σ H s)
    (h:ta σ H fun x H1=>tb σ H1 fun y H2=>R x y H2) {Q:Value→Shared→Prop} {f:Value→Value→Sem Value}
    (hf:∀ v u s2 x y H2,Inv X pins σ H2 s2→RelV x v→RelV y u→R x y H2→wpAny (model X.prog X.w) X.A (f v u) Q X.xe s2) :
    wpAny (model X.prog X.w) X.A (eval a X.env) (fun v s₁=>wpAny (model X.prog X.w) X.A (eval b X.env) (fun u s₂=>wpAny (model X.prog X.w) X.A (f v u) Q X.xe s₂) X.xe s₁) X.xe s:=by
  refine thn (ha pins s σ H _ I h) fun v s1 ⟨x,H1,I1,r1,q1⟩ => ?_
  refine thn (hb pins s1 σ H1 _ I1 q1) fun u s2 ⟨y,H2,I2,r2,q2⟩ => ?_
  exact hf v u s2 x y H2 I2 r1 r2 q2
theorem q1f {op:Operator} {r:R2} (ho:OpR X (binaryOp op) r) (ha:PE X a ta) (hb:PE X b tb):PE X (.BinOp a op b pos) (tOp r ta tb):=by
  intro pins s σ H Q I h
  exact wpAny_BinOp (binT ha hb I h fun v u s2 x y H2 I2 rx ry q=>ho pins s2 σ H2 x y v u Q I2 rx ry q)
theorem q2q {op:UnaryOp} {r:V→Hp→VK→Prop} (ho:UnR X (unaryOp op) r) (ha:PE X a ta):PE X (.UnaryOp op a pos) (tUn r ta):=by
  intro pins s σ H Q I h
  exact UnaryOp_ (thn (ha pins s σ H _ I h) fun v s1 ⟨x,H1,I1,r1,q1⟩=>ho pins s1 σ H1 x v Q I1 r1 q1)
theorem opI {f:Value→Value→Sem Value} {C:Int→Int→Prop} {g:Int→Int→Int}
    (rule:∀ (i j:Int) (t u:Tok) (s:Shared) (Q:Value→Shared→Prop) (E:Value→Shared→Prop),C i j→Q (.int (g i j) s.toks) { s with toks:=s.toks+1 }→wpAny (model X.prog X.w) X.A (f (.int i t) (.int j u)) Q E s) :
    OpR X f (rI C fun i j => .int (g i j)):=by
  intro pins s σ H x y v u Q I rx ry h
  obtain⟨i,j,rfl,rfl,hc,q⟩:=h
  obtain⟨t,rfl⟩:=rx
  obtain⟨t',rfl⟩:=ry
  exact rule i j t t' s _ _ hc ⟨.int (g i j),H,I.tok _,⟨_,rfl⟩,q⟩
theorem opI0 {f:Value→Value→Sem Value} {g:Int→Int→Int}
    (rule:∀ (i j:Int) (t u:Tok) (s:Shared) (Q:Value→Shared→Prop) (E:Value→Shared→Prop),Q (.int (g i j) s.toks) { s with toks:=s.toks+1 }→wpAny (model X.prog X.w) X.A (f (.int i t) (.int j u)) Q E s) :
    OpR X f (rI0 fun i j => .int (g i j)):=by
  intro pins s σ H x y v u Q I rx ry h
  obtain⟨i,j,rfl,rfl,q⟩:=h
  obtain⟨t,rfl⟩:=rx
  obtain⟨t',rfl⟩:=ry
  exact rule i j t t' s _ _ ⟨.int (g i j),H,I.tok _,⟨_,rfl⟩,q⟩
theorem opB0 {f:Value→Value→Sem Value} {g:Int→Int→Bool}
    (rule:∀ (i j:Int) (t u:Tok) (s:Shared) (Q:Value→Shared→Prop) (E:Value→Shared→Prop),Q (.bool (g i j)) s→wpAny (model X.prog X.w) X.A (f (.int i t) (.int j u)) Q E s) :
    OpR X f (rI0 fun i j => .bl (g i j)):=by
  intro pins s σ H x y v u Q I rx ry h
  obtain⟨i,j,rfl,rfl,q⟩:=h
  obtain⟨t,rfl⟩:=rx
  obtain⟨t',rfl⟩:=ry
  exact rule i j t t' s _ _ ⟨.bl (g i j),H,I,rfl,q⟩
def CDiv (i j:Int):Prop:=0<j∧j<1073741824
def CPow (i j:Int):Prop:=0≤j∧j≤1000000∧i.natAbs<2 ^ 64
def CMul (i j:Int):Prop:=(-(2 ^ 64)<i∧i<2 ^ 64)∨(-(2 ^ 64)<j∧j<2 ^ 64)
theorem CMul.ok {i j:Int} (h:CMul i j):IntMulOk i j:=by
  rcases h with ⟨h1,h2⟩ | ⟨h1,h2⟩
  · exact .of_left (intBits_le_64 h1 h2)
  · exact .of_right (intBits_le_64 h1 h2)
theorem op_add:OpR X (binaryOp .Add) (rI0 fun i j => .int (i+j)):=opI0 fun _ _ _ _ _ _ _ q=>add_int q
theorem op_mul:OpR X (binaryOp .Mult) (rI CMul fun i j => .int (i * j)):=opI fun _ _ _ _ _ _ _ hc q=>mul_int q hc.ok
theorem z3a:OpR X (binaryOp .FloorDiv) (rI CDiv fun i j => .int (i / j)):=opI fun i j _ _ _ _ _ hc q=>by
  have h1:(0:Int)<j:=hc.1
  have h2:j<1073741824:=hc.2
  exact floordiv_int (by lia) (by rw [Int.fdiv_eq_ediv_of_nonneg i (by lia)];exact q) (.inl (PyProof.noPylong_small (by lia)))
theorem q6u:OpR X (binaryOp .Mod) (rI (fun _ j=>0<j) fun i j => .int (i % j)):=opI fun i j _ _ _ _ _ hc q=>by
  have h1:(0:Int)<j:=hc
  exact mod_int' (by lia) (by rw [Int.fmod_eq_emod_of_nonneg i (by lia)];exact q)
theorem z3b:OpR X (binaryOp .Pow) (rI CPow fun i j => .int (i ^ j.toNat)):=opI fun _ _ _ _ _ _ _ hc q=>pow_int_small hc.1 hc.2.1 hc.2.2 q
theorem unI {f:Value→Sem Value} {g:Int→Int}
    (rule:∀ (i:Int) (t:Tok) (s:Shared) (Q:Value→Shared→Prop) (E:Value→Shared→Prop),Q (.int (g i) s.toks) { s with toks:=s.toks+1 }→wpAny (model X.prog X.w) X.A (f (.int i t)) Q E s) :
    UnR X f (rU fun i => .int (g i)):=by
  intro pins s σ H x v Q I rx h
  obtain⟨i,rfl,q⟩:=h
  obtain⟨t,rfl⟩:=rx
  exact rule i t s _ _ ⟨.int (g i),H,I.tok _,⟨_,rfl⟩,q⟩
theorem q1u:UnR X (unaryOp .USub) (rU fun i => .int (-i)):=unI fun _ _ _ _ _ q=>neg_int q
end
def scal:V→V→Bool
  | .non,.non=>true | .non,.int _=>true | .int _,.non=>true | .non,.bl _=>true | .bl _,.non=>true | .non,.str _=>true | .str _,.non=>true
  | .int _,.int _=>true | .bl _,.bl _=>true | .str _,.str _=>true | .byt _,.byt _=>true
  | .int _,.str _=>true | .str _,.int _=>true | .bl _,.str _=>true | .str _,.bl _=>true
  | _,_=>false
def rEq:R2:=fun x y H Q=>scal x y=true∧Q (.bl (decide (x=y))) H
def rNe:R2:=fun x y H Q=>scal x y=true∧Q (.bl (!decide (x=y))) H
theorem z3c {i j:Int}:decide (V.int i=V.int j)=(i==j):=by
  rw [Bool.eq_iff_iff]
  simp
theorem z8k {i j:Bool}:decide (V.bl i=V.bl j)=(i==j):=by
  rw [Bool.eq_iff_iff]
  simp
theorem z3d {i j:Str}:decide (V.str i=V.str j)=(i==j):=by
  rw [Bool.eq_iff_iff]
  simp
theorem z3e {i j:Array UInt8}:decide (V.byt i=V.byt j)=(i.toList==j.toList):=by
  rw [Bool.eq_iff_iff]
  cases i
  cases j
  simp
section
variable {X:Cx} {a b c:Expr} {ta tb tc:TE} {pos:Pos}
theorem q1c {pins:List (Addr×Obj)} {σ:St} {H:Hp} {s:Shared} {Q:VK} {k k' : Bool} (I:Inv X pins σ H s) (q:Q (.bl k) H) (e:k=k'):EP X pins σ Q (.bool k') s:=by
  subst e
  exact⟨.bl k,H,I,rfl,q⟩
theorem op_eq:OpR X (compareOp .Eq) rEq:=by
  intro pins s σ H x y v u Q I rx ry h
  obtain⟨hs,q⟩:=h
  cases x with
  | non =>
    cases rx
    cases y with
    | non=>cases ry;exact PySem.EqNone.eq_none_none (q1c I q (by simp))
    | bl j=>cases ry;exact PySem.EqNone.eq_none_bool (q1c I q (by simp))
    | int j=>obtain⟨t',rfl⟩:=ry;exact PySem.EqNone.eq_none_int (q1c I q (by simp))
    | str j=>obtain⟨t',rfl⟩:=ry;exact PySem.EqNone.eq_none_str (q1c I q (by simp))
    | _=>exact absurd (show false=true from hs) Bool.false_ne_true
  | bl i =>
    cases rx
    cases y with
    | non=>cases ry;exact PySem.EqNone.eq_bool_none (q1c I q (by simp))
    | bl j=>cases ry;exact eq_bool (q1c I q z8k)
    | str j=>obtain⟨t',rfl⟩:=ry;exact PySem.EqMixed.eq_bool_str (q1c I q (by simp))
    | _=>exact absurd (show false=true from hs) Bool.false_ne_true
  | int i =>
    obtain⟨t,rfl⟩:=rx
    cases y with
    | non=>cases ry;exact PySem.EqNone.eq_int_none (q1c I q (by simp))
    | int j=>obtain⟨t',rfl⟩:=ry;exact eq_int (q1c I q z3c)
    | str j=>obtain⟨t',rfl⟩:=ry;exact PySem.EqMixed.eq_int_str (q1c I q (by simp))
    | _=>exact absurd (show false=true from hs) Bool.false_ne_true
  | str i =>
    obtain⟨t,rfl⟩:=rx
    cases y with
    | non=>cases ry;exact PySem.EqNone.eq_str_none (q1c I q (by simp))
    | bl j=>cases ry;exact PySem.EqMixed.eq_str_bool (q1c I q (by simp))
    | int j=>obtain⟨t',rfl⟩:=ry;exact PySem.EqMixed.eq_str_int (q1c I q (by simp))
    | str j=>obtain⟨t',rfl⟩:=ry;exact eq_str (q1c I q z3d)
    | _=>exact absurd (show false=true from hs) Bool.false_ne_true
  | byt i =>
    obtain⟨t,rfl⟩:=rx
    cases y with
    | byt j=>obtain⟨t',rfl⟩:=ry;exact PySem.W.eq_bytes (q1c I q z3e)
    | _=>exact absurd (show false=true from hs) Bool.false_ne_true
  | _=>cases y <;> exact absurd (show false=true from hs) Bool.false_ne_true
theorem op_ne:OpR X (compareOp .NotEq) rNe:=by
  intro pins s σ H x y v u Q I rx ry h
  obtain⟨hs,q⟩:=h
  cases x with
  | non =>
    cases rx
    cases y with
    | non=>cases ry;exact PySem.EqNone.ne_none_none (q1c I q (by simp))
    | bl j=>cases ry;exact PySem.EqNone.ne_none_bool (q1c I q (by simp))
    | int j=>obtain⟨t',rfl⟩:=ry;exact PySem.EqNone.ne_none_int (q1c I q (by simp))
    | str j=>obtain⟨t',rfl⟩:=ry;exact PySem.EqNone.ne_none_str (q1c I q (by simp))
    | _=>exact absurd (show false=true from hs) Bool.false_ne_true
  | bl i =>
    cases rx
    cases y with
    | non=>cases ry;exact PySem.EqNone.ne_bool_none (q1c I q (by simp))
    | bl j=>cases ry;exact ne_bool (q1c I q (congrArg not z8k))
    | str j=>obtain⟨t',rfl⟩:=ry;exact PySem.EqMixed.ne_bool_str (q1c I q (by simp))
    | _=>exact absurd (show false=true from hs) Bool.false_ne_true
  | int i =>
    obtain⟨t,rfl⟩:=rx
    cases y with
    | non=>cases ry;exact PySem.EqNone.ne_int_none (q1c I q (by simp))
    | int j=>obtain⟨t',rfl⟩:=ry;exact ne_int (q1c I q (congrArg not z3c))
    | str j=>obtain⟨t',rfl⟩:=ry;exact PySem.EqMixed.ne_int_str (q1c I q (by simp))
    | _=>exact absurd (show false=true from hs) Bool.false_ne_true
  | str i =>
    obtain⟨t,rfl⟩:=rx
    cases y with
    | non=>cases ry;exact PySem.EqNone.ne_str_none (q1c I q (by simp))
    | bl j=>cases ry;exact PySem.EqMixed.ne_str_bool (q1c I q (by simp))
    | int j=>obtain⟨t',rfl⟩:=ry;exact PySem.EqMixed.ne_str_int (q1c I q (by simp))
    | str j=>obtain⟨t',rfl⟩:=ry;exact ne_str (q1c I q (congrArg not z3d))
    | _=>exact absurd (show false=true from hs) Bool.false_ne_true
  | byt i =>
    obtain⟨t,rfl⟩:=rx
    cases y with
    | byt j=>obtain⟨t',rfl⟩:=ry;exact PySem.W.ne_bytes (q1c I q (congrArg not z3e))
    | _=>exact absurd (show false=true from hs) Bool.false_ne_true
  | _=>cases y <;> exact absurd (show false=true from hs) Bool.false_ne_true
theorem z6k:OpR X (compareOp .Lt) (rI0 fun i j => .bl (decide (i<j))):=opB0 fun _ _ _ _ _ _ _ q=>lt_int q
theorem z6l:OpR X (compareOp .Gt) (rI0 fun i j => .bl (decide (j<i))):=opB0 fun _ _ _ _ _ _ _ q=>gt_int q
theorem op_ge:OpR X (compareOp .GtE) (rI0 fun i j => .bl (decide (j≤i))):=opB0 fun _ _ _ _ _ _ _ q=>ge_int q
theorem OpR.or {f:Value→Value→Sem Value} {r r' : R2} (h:OpR X f r) (h' : OpR X f r'):OpR X f (fun x y H Q=>r x y H Q∨r' x y H Q):=by
  intro pins s σ H x y v u Q I rx ry q
  rcases q with q | q
  · exact h pins s σ H x y v u Q I rx ry q
  · exact h' pins s σ H x y v u Q I rx ry q
theorem nomark (b:Expr) {op:CmpOp} (h:op ≠ .In:=by decide) (h2:op ≠ .NotIn:=by decide):behindInMarks op b=false:=by
  have e1:(op==CmpOp.In)=false:=by cases op <;> first | rfl | exact absurd rfl h
  have e2:(op==CmpOp.NotIn)=false:=by cases op <;> first | rfl | exact absurd rfl h2
  cases b <;> simp [behindInMarks,e1,e2]
theorem q5t {op:CmpOp} {r:R2} (ho:OpR X (compareOp op) r) (ha:PE X a ta) (hb:PE X b tb) (hm:behindInMarks op b=false):PE X (.Compare a [op] [b] pos) (tOp r ta tb):=by
  intro pins s σ H Q I h
  exact wpAny_Compare1 (binT ha hb I h fun v u s2 x y H2 I2 rx ry q=>ho pins s2 σ H2 x y v u Q I2 rx ry q) hm
def tTest (t:TE):TT:=fun σ H Q=>t σ H fun x H' => ∃ k,x = .bl k∧Q k H'
theorem q0j {op:CmpOp} {r:R2} (ho:OpR X (compareOp op) r) (ha:PE X a ta) (hb:PE X b tb) (hm:behindInMarks op b=false):PT X (.Compare a [op] [b] pos) (tTest (tOp r ta tb)):=by
  intro pins s σ H Q I h
  refine wpAny_isTrue_Compare1 (thn (ha pins s σ H _ I h) fun v s1 ⟨x,H1,I1,r1,q1⟩=>thn (hb pins s1 σ H1 _ I1 q1) fun u s2 ⟨y,H2,I2,r2,q2⟩ =>
    thn (ho pins s2 σ H2 x y v u _ I2 r1 r2 q2) fun c s3 ⟨z,H3,I3,r3,k,e,q3⟩ => ?_) hm
  subst e
  cases r3
  exact wpAny_truthy_bool ⟨H3,I3,q3⟩
def TruV (K:PySem.W.Frag) (x:V) (H:Hp) (k:Bool):Prop :=
  match x with
  | .non=>k=false
  | .bl b=>k=b
  | .int i=>k=(i != 0)
  | .str y=>y.length≤sizeLine∧k=((y.length:Int) != 0)
  | .byt y=>y.size≤sizeLine∧k=((y.size:Int) != 0)
  | .ref p=>(∃ xs,SqL K H p xs∧k = !xs.isEmpty)∨(∃ xs,SqT K H p xs∧k = !xs.isEmpty)∨∃ kvs,H p=some (.dK kvs)∧k = !kvs.isEmpty
  | _=>False
theorem z1q {κ:Type} {kvs:List (κ×V)} {vs:List (κ×Value)} (r:KV kvs vs):(!vs.isEmpty) = !kvs.isEmpty:=by
  cases r <;> rfl
theorem q6v {xs:List V} {its:List Value} (r:Vals xs its):(!its.toArray.isEmpty) = !xs.isEmpty:=by
  cases r <;> simp
theorem line63:(sizeLine:Nat)<2 ^ 63:=by rw [sizeLine_eq];decide
theorem tru_ok:TruR X (fun x H Q=>∃ k,TruV X.K x H k∧Q k H):=by
  intro pins s σ H x v Q I rx h
  obtain⟨k,e,q⟩:=h
  have hl:=line63
  have hs:sizeLine=16777216:=sizeLine_eq
  cases x with
  | non =>
    cases rx
    have e' : k=false:=e
    subst e'
    exact truthy_none ⟨H,I,q⟩
  | bl b =>
    cases rx
    have e' : k=b:=e
    subst e'
    exact wpAny_truthy_bool ⟨H,I,q⟩
  | int i =>
    obtain⟨t,rfl⟩:=rx
    have e' : k=(i != 0):=e
    subst e'
    exact PySem.P.truthy_int ⟨H,I,q⟩
  | str y =>
    obtain⟨t,rfl⟩:=rx
    obtain⟨hy,e'⟩:y.length≤sizeLine∧k=((y.length:Int) != 0):=e
    subst e'
    exact PySem.P.truthy_str (by lia) ⟨H,I.tok _,q⟩
  | byt y =>
    obtain⟨t,rfl⟩:=rx
    obtain⟨hy,e'⟩:y.size≤sizeLine∧k=((y.size:Int) != 0):=e
    subst e'
    exact PySem.W.truthy_bytes (by lia) ⟨H,I.tok _,q⟩
  | ref p =>
    cases rx
    have e' : (∃ xs,SqL X.K H p xs∧k = !xs.isEmpty)∨(∃ xs,SqT X.K H p xs∧k = !xs.isEmpty)∨∃ kvs,H p=some (.dK kvs)∧k = !kvs.isEmpty:=e
    rcases e' with ⟨xs,hx,e'⟩ | ⟨xs,hx,e'⟩ | ⟨kvs,hx,e'⟩
    · subst e'
      obtain⟨its,r,pl,hz⟩:=I.list hx
      have hlen:=r.length
      exact wpAny_truthy_list pl.isList (by simp only [List.size_toArray];lia) ⟨H,I.tok _,by rw [q6v r];exact q⟩
    · subst e'
      obtain⟨its,r,pl,hz⟩:=I.tuple hx
      have hlen:=r.length
      exact truthy_tuple pl (by simp only [List.size_toArray];lia) ⟨H,I.tok _,by rw [q6v r];exact q⟩
    · subst e'
      obtain⟨hz,hS,vs,r,m⟩:kvs.length≤sizeLine∧(p==sysModules)=false∧∃ vs,KV kvs vs∧s.heap.DictOf (mixKind X.prog X.w) p vs:=I.hok p _ hx
      have hlen:kvs.length=vs.length:=Paired.length r
      exact wpAny_truthy_dict hS m (by lia) ⟨H,I.tok _,by rw [z1q r];exact q⟩
  | _=>exact (show False from e).elim
theorem z6m (ha:PE X a ta) (he:∀ whole,isTrue a X.env whole=(do let v ← whole;standAt a.pos;holding [v] (truthy v))) :
    PT X a (fun σ H Q=>ta σ H fun x H' => ∃ k,TruV X.K x H' k∧Q k H'):=by
  intro pins s σ H Q I h
  exact isTrue_plain (thn (ha pins s σ H _ I h) fun v s1 ⟨x,H1,I1,r1,q1⟩=>tru_ok pins s1 σ H1 x v Q I1 r1 q1) (he _)
theorem op_add_str:OpR X (binaryOp .Add) (fun x y H Q=>∃ i j,x = .str i∧y = .str j∧i.length+j.length≤sizeLine∧Q (.str (i++j)) H):=by
  intro pins s σ H x y v u Q I rx ry h
  obtain⟨i,j,rfl,rfl,hz,q⟩:=h
  obtain⟨t,rfl⟩:=rx
  obtain⟨t',rfl⟩:=ry
  exact add_str (fun t' tk=>⟨.str (i++j),H,I.tok _,⟨_,rfl⟩,q⟩) hz
theorem vals1 {x:V} {us:List Value} (r:Vals [x] us):∃ u,us = [u]∧RelV x u:=by
  cases r with
  | cons r1 r2=>cases r2;exact⟨_,rfl,r1⟩
theorem vals2 {x y:V} {us:List Value} (r:Vals [x,y] us):∃ u w',us = [u,w']∧RelV x u∧RelV y w' := by
  cases r with
  | cons r1 r2 =>
    cases r2 with
    | cons r3 r4=>cases r4;exact⟨_,_,rfl,r1,r3⟩
theorem z3f (hc:X.calm=true):CallR X (.builtin "max") (fun xs H Q=>∃ i j,xs = [.int i,.int j]∧Q (.int (if j>i then j else i)) H):=by
  intro pins s σ H xs us Q I r h
  obtain⟨i,j,rfl,q⟩:=h
  obtain⟨u,w',rfl,⟨t,rfl⟩,⟨t',rfl⟩⟩:=vals2 r
  refine max_two_ints (I.ok.hd hc) fun h' tk k=>⟨_,H,I.kept k,?_,q⟩
  by_cases hj:j>i
  · rw [if_pos hj,if_pos hj];exact⟨_,rfl⟩
  · rw [if_neg hj,if_neg hj];exact⟨_,rfl⟩
theorem z3g (hc:X.calm=true):CallR X (.builtin "min") (fun xs H Q=>∃ i j,xs = [.int i,.int j]∧Q (.int (if j<i then j else i)) H):=by
  intro pins s σ H xs us Q I r h
  obtain⟨i,j,rfl,q⟩:=h
  obtain⟨u,w',rfl,⟨t,rfl⟩,⟨t',rfl⟩⟩:=vals2 r
  refine min_two_ints (I.ok.hd hc) fun h' tk k=>⟨_,H,I.kept k,?_,q⟩
  by_cases hj:j<i
  · rw [if_pos hj,if_pos hj];exact⟨_,rfl⟩
  · rw [if_neg hj,if_neg hj];exact⟨_,rfl⟩
def LenV (K:PySem.W.Frag) (x:V) (H:Hp) (n:Nat):Prop :=
  match x with
  | .str y=>y.length≤sizeLine∧n=y.length
  | .byt y=>y.size≤sizeLine∧n=y.size
  | .ref p=>(∃ xs,SqL K H p xs∧n=xs.length)∨∃ xs,SqT K H p xs∧n=xs.length
  | _=>False
theorem z6n:CallR X (.builtin "len") (fun xs H Q=>∃ x n,xs = [x]∧LenV X.K x H n∧Q (.int n) H):=by
  intro pins s σ H xs us Q I r h
  obtain⟨x,n,rfl,e,q⟩:=h
  obtain⟨u,rfl,rx⟩:=vals1 r
  have hl:=line63
  have hs:sizeLine=16777216:=sizeLine_eq
  cases x with
  | str y =>
    obtain⟨t,rfl⟩:=rx
    obtain⟨hy,e'⟩:y.length≤sizeLine∧n=y.length:=e
    subst e'
    exact len_str (by lia) ⟨.int _,H,I.tok _,⟨_,rfl⟩,q⟩
  | byt y =>
    obtain⟨t,rfl⟩:=rx
    obtain⟨hy,e'⟩:y.size≤sizeLine∧n=y.size:=e
    subst e'
    exact PySem.W.len_bytes (by lia) ⟨.int _,H,I.tok _,⟨_,rfl⟩,q⟩
  | ref p =>
    cases rx
    have e' : (∃ xs,SqL X.K H p xs∧n=xs.length)∨∃ xs,SqT X.K H p xs∧n=xs.length:=e
    rcases e' with ⟨xs,hx,e'⟩ | ⟨xs,hx,e'⟩
    · subst e'
      obtain⟨its,r',pl,hz⟩:=I.list hx
      have hlen:=r'.length
      exact Calls.call_len_list pl.isList (by simp only [List.size_toArray];lia) ⟨.int xs.length,H,I.tok _,⟨_,by simp only [List.size_toArray];rw [hlen]⟩,q⟩
    · subst e'
      obtain⟨its,r',pl,hz⟩:=I.tuple hx
      have hlen:=r'.length
      exact len_tuple pl (by simp only [List.size_toArray];lia) ⟨.int xs.length,H,I.tok _,⟨_,by simp only [List.size_toArray];rw [hlen]⟩,q⟩
  | _=>exact (show False from e).elim
end
end L2
namespace L2
open PySem PySem.Spec PyProof.Rows
structure ObjM (h:Heap) (x dx C:Addr) (mA:Str→Option Value):Prop where
  obj:h.get? x=some (PySem.W.instObj C dx)
  ns:h.Ns1 dx mA
  ne:dx≠x
theorem q8i {h:Heap} {dx:Addr} {mA:Str→Option Value} (n:h.Ns1 dx mA):∃ od,h.get? dx=some od∧∀ name,PySem.W.lookIn name od=some (mA name):=by
  obtain⟨o,es,ep,ho,hd,hk,_,hm⟩:=n
  refine⟨o,ho,fun name => ?_⟩
  have e:=hm name
  unfold nsFind findBy at e
  rw [← Array.find?_toList] at e
  unfold PySem.W.lookIn
  rw [hd]
  dsimp only
  split
  · rename_i y q
    rw [q] at e
    exact congrArg some e
  · rename_i q
    rw [q] at e
    have a:es.toList.any (·.refKey)=false:=by
      rw [List.any_eq_false]
      intro y hy
      obtain⟨z,t,hkey⟩:=hk y (Array.mem_toList_iff.mp hy)
      simp [DictEntry.refKey,hkey]
    have a' : ¬ es.toList.any (·.refKey)=true:=by rw [a];exact Bool.false_ne_true
    rw [if_neg a']
    exact congrArg some e
theorem ObjM.look {h:Heap} {x dx C:Addr} {mA:Str→Option Value} (I:ObjM h x dx C mA):∃ od,PySem.W.InstAt h x (PySem.W.instObj C dx) C (some od)∧∀ name,PySem.W.lookIn name od=some (mA name) :=
  let ⟨od,ho,hl⟩:=q8i I.ns
  ⟨od,⟨I.obj,rfl,rfl,ho⟩,hl⟩
section
variable {prog:Program} {w:World} {A:Around} {E:Value→Shared→Prop} {s:Shared} {K:PySem.W.Frag} {x dx C f:Addr} {mA:Str→Option Value} {name:Str} {v:Value}
theorem z8y {expr:Bool} {Q:Value→Shared→Prop} (X:K.In s.heap) (I:ObjM s.heap x dx C mA) (hg:PySem.W.plainGet K C name=true) (hh:PySem.W.hasDictIn K C=true)
    (ha:PySem.W.findIn K (.ref C) name=some none) (hv:mA name=some v) (hv' : PySem.W.handedIn v=true) (h:Q v { s with toks:=s.toks+1 }) :
    wpAny (model prog w) A (getAttr (.ref x) name expr) Q E s:=by
  obtain⟨od,J,hl⟩:=I.look
  exact PySem.W.get_value X J (PySem.W.plainGet_of hg).1 (PySem.W.findObj_own hh ha rfl (by rw [hl,hv])) hv' h
theorem z6o {pl:Sem Bool} {Q:Value×List Value→Shared→Prop} (X:K.In s.heap) (I:ObjM s.heap x dx C mA) (hg:PySem.W.plainGet K C name=true)
    (hf:PySem.W.findIn K (.ref C) name=some (some (.ref f))) (ht:PySem.W.isFn K (.ref f)=true) (hv:mA name=none) (h:Q (.ref f,[.ref x]) s) :
    wpAny (model prog w) A (getMethod (.ref x) name pl) Q E s:=by
  obtain⟨od,J,hl⟩:=I.look
  exact PySem.W.method_fn X J (PySem.W.plainGet_of hg).1 (PySem.W.plainGet_of hg).2 hf (beq_iff_eq.mp ht) (by show (PySem.W.lookIn name od).map (·.isSome)=some false;rw [hl,hv];rfl) h
theorem z8z {ns:List Str} {Q:Unit→Shared→Prop} (X:K.In s.heap) (I:ObjM s.heap x dx C mA)
    (hs:PySem.W.findIn K (.ref C) "__setattr__" = some (some (.builtin "object.__setattr__"))) (hp:PySem.W.plainOver K C=true) (ht:PySem.W.takerIn K C name=some none) (hh:PySem.W.hasDictIn K C=true)
    (hw:PySem.Within mA ns) (hsz:ns.length≤sizeLine)
    (h:∀ h',ObjM h' x dx C (fun y=>if y=name then some v else mA y)→Heap.SameBut dx s.heap h' → Q () { s with heap:=h',toks:=s.toks+2 }) :
    wpAny (model prog w) A (setAttr (.ref x) name v) Q E s:=by
  obtain⟨od,J,hl⟩:=I.look
  refine PySem.W.set_plain X J hs (PySem.W.osa_open (s := { s with toks:=s.toks+1 }) (r:=none) X J hp ht fun b => ?_)
  obtain⟨cd,hc,hd'⟩:=PySem.W.any_some hh
  have hx:s.heap.get? x=some ⟨.ref C,some dx,.plain,#[]⟩:=I.obj
  refine wpAny_bind (wpAny_pure (wpAny_bind (wpAny_bind (wpAny_loadPart hx (wpAny_bind (PySem.W.Looks.here (s := { s with toks:=s.toks+1 }) (PySem.W.looks_clsIn X hc) ?_))))))
  rw [hd']
  refine wpAny_pure (a:=some dx) (wpAny_bind (wpAny_pure (wpAny_bind ?_)))
  refine wpAny_nsSet1 (s := { s with toks:=s.toks+1 }) I.ns fun h' hn2 hs2 => ?_
  obtain⟨oD,esD,epD,hoD,hdD,hcD⟩:=hn2.count (PySem.Within.cons name v hw)
  refine wpAny_bind (wpAny_lookBehind hoD (by rw [hdD];exact pastItsLine_dict (Nat.le_trans hcD (by rw [List.length_cons];lia))) ?_)
  exact wpAny_pure (h _ ⟨(hs2.2 _ (Ne.symm I.ne)).trans I.obj,hn2,I.ne⟩ hs2)
theorem z6p {R:Result→Shared→Prop} {vs:List Value} {kw:List (Str×Value)} (X:K.In s.heap) (hm:PySem.W.makesIn K C=true)
    (hi:PySem.W.findIn K (.ref C) "__init__" = some (some (.ref f))) (hf:PySem.W.typeIn K (.ref f)=some (.type "function"))
    (h:codeAny (model prog w) (A.under (.builtin "type.__call__" ⟨.ref C::vs,kw⟩)) (.call (.ref f) ⟨.ref (s.heap.objs.size+1)::vs,kw⟩) (PySem.W.InitBack (s.heap.objs.size+1) R)
      { s with heap:=(s.heap.push PySem.W.emptyDict).push (PySem.W.instObj C s.heap.objs.size) }) :
    codeAny (model prog w) A (.call (.ref C) ⟨vs,kw⟩) R s:=by
  obtain⟨hh,g,d,t,os⟩:=s
  exact PySem.W.make_core (PySem.W.makes_of X hm) (PySem.W.looks_findIn X hi) (fun self=>PySem.W.bind_fn X self hf) (.inl rfl) h
end
def putF (f:Str) (v:V):List (Str×V)→List (Str×V)
  | [] => [(f,v)]
  | (g,x)::r=>if g=f then (g,v)::r else (g,x)::putF f v r
theorem q2r (f g:Str) (v:V):∀ fs:List (Str×V),(putF f v fs).lookup g=if g=f then some v else fs.lookup g
  | []=>by
    show List.lookup g [(f,v)]=_
    by_cases h:g=f
    · have hb:(g==f)=true:=beq_iff_eq.mpr h
      simp only [List.lookup,hb,if_pos h]
    · have hb:(g==f)=false:=beq_eq_false_iff_ne.mpr h
      simp only [List.lookup,hb,if_neg h]
  | (k,x)::r=>by
    have ih:=q2r f g v r
    rw [show putF f v ((k,x)::r)=(if k=f then (k,v)::r else (k,x)::putF f v r) from rfl]
    by_cases hk:k=f
    · rw [if_pos hk]
      by_cases h:g=k
      · have hb:(g==k)=true:=beq_iff_eq.mpr h
        simp only [List.lookup,hb,if_pos (h.trans hk)]
      · have hb:(g==k)=false:=beq_eq_false_iff_ne.mpr h
        simp only [List.lookup,hb,if_neg (fun e:g=f=>h (e.trans hk.symm))]
    · rw [if_neg hk]
      by_cases h:g=k
      · have hb:(g==k)=true:=beq_iff_eq.mpr h
        simp only [List.lookup,hb,if_neg (fun e:g=f=>hk (h.symm.trans e))]
      · have hb:(g==k)=false:=beq_eq_false_iff_ne.mpr h
        simp only [List.lookup,hb]
        exact ih
theorem q2x (f:Str) (v:V):∀ fs:List (Str×V),f∈(putF f v fs).map (·.1)∧∀ g,g∈fs.map (·.1)→g∈(putF f v fs).map (·.1)
  | []=>⟨by simp [putF],fun g h=>by simp at h⟩
  | (k,x)::r=>by
    obtain⟨i1,i2⟩:=q2x f v r
    rw [show putF f v ((k,x)::r)=(if k=f then (k,v)::r else (k,x)::putF f v r) from rfl]
    by_cases hk:k=f
    · rw [if_pos hk]
      subst hk
      exact⟨by simp,fun g h=>by simpa using h⟩
    · rw [if_neg hk]
      refine⟨?_,fun g h => ?_⟩
      · rw [List.map_cons]
        exact List.mem_cons_of_mem _ i1
      · rw [List.map_cons] at h ⊢
        rcases List.mem_cons.mp h with e | e
        · exact List.mem_cons.mpr (.inl e)
        · exact List.mem_cons_of_mem _ (i2 g e)
theorem q5u (f:Str) (v:V):∀ fs:List (Str×V),(putF f v fs).length≤fs.length+1
  | []=>by simp [putF]
  | (k,x)::r=>by
    have ih:=q5u f v r
    rw [show putF f v ((k,x)::r)=(if k=f then (k,v)::r else (k,x)::putF f v r) from rfl]
    by_cases hk:k=f
    · rw [if_pos hk,List.length_cons,List.length_cons];lia
    · rw [if_neg hk,List.length_cons,List.length_cons];lia
theorem RelO.some_of {v:V} {o:Option Value} (r:RelO (some v) o):∃ u,o=some u∧RelV v u:=by
  cases o with
  | none=>exact (show False from r).elim
  | some u=>exact⟨u,rfl,r⟩
theorem RelO.none_of {o:Option Value} (r:RelO none o):o=none:=by
  cases o with
  | none=>rfl
  | some u=>exact (show False from r).elim
theorem q8j {v:V} {u:Value} (r:RelV v u):PySem.W.handedIn u=true:=by
  cases v with
  | non=>cases (show u=Value.none from r);rfl
  | bl b=>cases (show u=Value.bool b from r);rfl
  | int i=>obtain⟨t,e⟩:=(show ∃ t,u=Value.int i t from r);cases e;rfl
  | str x=>obtain⟨t,e⟩:=(show ∃ t,u=Value.str x t from r);cases e;rfl
  | byt b=>obtain⟨t,e⟩:=(show ∃ t,u=Value.bytes b t from r);cases e;rfl
  | flt b=>obtain⟨t,e⟩:=(show ∃ t,u=Value.float b t from r);cases e;rfl
  | ref a=>cases (show u=Value.ref a from r);rfl
  | ty n=>cases (show u=Value.type n from r);rfl
section
variable {P:Program} {w:World} {H H' : Hp} {h h' : Heap} {a C dx:Addr} {fs fs' : List (Str×V)}
theorem q7n (hok:HOk P w H h) (e:H a=some (.ins C dx fs)):∃ mA,ObjM h a dx C mA∧(∀ f,RelO (fs.lookup f) (mA f))∧PySem.Within mA (fs.map (·.1))∧fs.length≤1000∧H dx=some (.own a):=by
  obtain⟨d,z,ne,ob,mA,n,r,q⟩:=(show ObjOk P w H h a (.ins C dx fs) from hok a _ e)
  exact⟨mA,⟨ob,n,ne⟩,r,q,z,d⟩
end
structure Cls (K:PySem.W.Frag) (C:Addr):Prop where
  pg:PySem.W.plainGet K C Str.empty=true
  hd:PySem.W.hasDictIn K C=true
  po:PySem.W.plainOver K C=true
  sa:PySem.W.findIn K (.ref C) "__setattr__" = some (some (.builtin "object.__setattr__"))
theorem Cls.get {K:PySem.W.Frag} {C:Addr} (c:Cls K C) (f:Str):PySem.W.plainGet K C f=true:=c.pg
def NoAttr (K:PySem.W.Frag) (C:Addr) (f:Str):Prop:=PySem.W.findIn K (.ref C) f=some none
theorem NoAttr.taker {K:PySem.W.Frag} {C:Addr} {f:Str} (n:NoAttr K C f):PySem.W.takerIn K C f=some none:=by
  unfold PySem.W.takerIn
  rw [show PySem.W.findIn K (.ref C) f=some none from n]
  rfl
structure Meth (K:PySem.W.Frag) (C:Addr) (m:Str) (f:Addr):Prop where
  at_:PySem.W.findIn K (.ref C) m=some (some (.ref f))
  fn:PySem.W.isFn K (.ref f)=true
  kp:PySem.W.keepIn K (.ref f)=true
section
variable {X:Cx} {pins:List (Addr×Obj)} {σ:St} {H:Hp} {s:Shared} {a C dx:Addr} {fs:List (Str×V)} {f:Str} {v:V} {A:Around} {E:Value→Shared→Prop}
theorem z1r {b:Bool} {Q:Value→Shared→Prop} (I:Inv X pins σ H s) (e:H a=some (.ins C dx fs)) (c:Cls X.K C) (n:NoAttr X.K C f) (l:fs.lookup f=some v)
    (h:∀ u s',Inv X pins σ H s' → RelV v u→Q u s'):wpAny (model X.prog X.w) A (getAttr (.ref a) f b) Q E s:=by
  obtain⟨mA,O,r,_,_,_⟩:=q7n I.hok e
  obtain⟨u,hu,ru⟩:=RelO.some_of (v:=v) (o:=mA f) (by rw [← l];exact r f)
  exact z8y I.kIn O (c.get f) c.hd n hu (q8j ru) (h u _ (I.tok _) ru)
theorem q4l {m:Str} {g:Addr} {pl:Sem Bool} {Q:Value×List Value→Shared→Prop} (I:Inv X pins σ H s) (e:H a=some (.ins C dx fs)) (c:Cls X.K C) (k:Meth X.K C m g) (l:fs.lookup m=none)
    (h:Q (.ref g,[.ref a]) s):wpAny (model X.prog X.w) A (getMethod (.ref a) m pl) Q E s:=by
  obtain⟨mA,O,r,_,_,_⟩:=q7n I.hok e
  have hn:mA m=none:=RelO.none_of (by rw [← l];exact r m)
  exact z6o I.kIn O (c.get m) k.at_ k.fn hn h
theorem z1s {y:V} {u:Value} {Q:Unit→Shared→Prop} (I:Inv X pins σ H s) (e:H a=some (.ins C dx fs)) (c:Cls X.K C) (n:NoAttr X.K C f) (hl:fs.length<1000) (ry:RelV y u)
    (h:∀ s',Inv X pins σ (upd H a (.ins C dx (putF f y fs))) s' → Q () s'):wpAny (model X.prog X.w) A (setAttr (.ref a) f u) Q E s:=by
  obtain⟨mA,O,r,wi,_,ho⟩:=q7n I.hok e
  have hz:(fs.map (·.1)).length≤sizeLine:=by rw [List.length_map,sizeLine_eq];lia
  refine z8z I.kIn O c.sa c.po n.taker c.hd wi hz fun h' O' sb=>h _ ?_
  have hd:∃ o,h'.get? dx=some o:=let ⟨o,_,_,e',_⟩:=O'.ns;⟨o,e'⟩
  refine I.write (x:=a) (e:=dx) (by rw [e];exact True.intro) (.inr ho) (fun b q hb z=>(sb.2 b hb).trans z) hd ?_
  refine⟨by rw [q0c O.ne];exact ho,?_,O.ne,O'.obj,_,O'.ns,fun g => ?_,fun g hg => ?_⟩
  · have:=q5u f y fs;lia
  · show RelO ((putF f y fs).lookup g) (if g=f then some u else mA g)
    rw [q2r]
    by_cases q:g=f
    · rw [if_pos q,if_pos q];exact ry
    · rw [if_neg q,if_neg q];exact r g
  · by_cases q:g=f
    · rw [q];exact (q2x f y fs).1
    · refine (q2x f y fs).2 g (wi g fun z=>hg ?_)
      show (if g=f then some u else mA g)=none
      rw [if_neg q];exact z
theorem Inv.made (I:Inv X pins σ H s):Inv X pins σ (upd (upd H s.heap.objs.size (.own (s.heap.objs.size+1))) (s.heap.objs.size+1) (.ins C s.heap.objs.size []))
    { s with heap:=(s.heap.push PySem.W.emptyDict).push (PySem.W.instObj C s.heap.objs.size) }:=by
  have e1:(s.heap.push PySem.W.emptyDict).get? s.heap.objs.size=some PySem.W.emptyDict:=Heap.get?_push_size s.heap rfl
  have e2:((s.heap.push PySem.W.emptyDict).push (PySem.W.instObj C s.heap.objs.size)).get? (s.heap.objs.size+1)=some (PySem.W.instObj C s.heap.objs.size):=by
    have:=Heap.get?_push_size (s.heap.push PySem.W.emptyDict) (o:=PySem.W.instObj C s.heap.objs.size) rfl
    rwa [Heap.size_push] at this
  have e3:(s.heap.push PySem.W.emptyDict).Ns s.heap.objs.size (fun _=>none):=⟨PySem.W.emptyDict,#[],_,e1,rfl,(fun e he=>absurd he (by simp)),fun _=>rfl⟩
  have I1:=I.laid (a:=s.heap.objs.size) (o := .own (s.heap.objs.size+1)) (h' := s.heap.push PySem.W.emptyDict) (t' := s.toks) (fun b u q=>Heap.get?_push_of_some _ q) (Nat.le_refl _) ⟨_,e1⟩
  refine I1.laid (a:=s.heap.objs.size+1) (o := .ins C s.heap.objs.size []) (t' := s.toks) (fun b u q=>Heap.get?_push_of_some _ q) (Nat.le_of_eq (Heap.size_push _ _)) ?_
  have ne:s.heap.objs.size≠s.heap.objs.size+1:=Nat.ne_of_lt (Nat.lt_succ_self _)
  refine⟨by rw [q0c ne,q0b],Nat.zero_le _,ne,e2,fun _=>none,(Heap.Ns1.of_empty e3).at fun o q=>Heap.get?_push_of_some _ q,fun _=>True.intro,fun y hy=>absurd rfl hy⟩
theorem z3h {prog:Program} {w:World} {env:Env} {e:Expr} {f:Str} {pos:Pos} {s:Shared} {Q:Value→Shared→Prop} (hb:attributeBase e f env (eval e env)=eval e env)
    (h:wpAny (model prog w) A (eval e env) (fun o s₁=>wpAny (model prog w) A (getAttr o f true) Q E s₁) E s):wpAny (model prog w) A (eval (.Attribute e f pos) env) Q E s :=
  Attribute_any_ h (by rw [arm_eval_Attribute,hb])
end
def tFld (K:PySem.W.Frag) (ta:TE) (f:Str):TE:=fun σ H Q=>ta σ H fun x H1=>∃ a C dx fs v,x = .ref a∧H1 a=some (.ins C dx fs)∧Cls K C∧NoAttr K C f∧fs.lookup f=some v∧Q v H1
def sFld (K:PySem.W.Frag) (ta tv:TE) (f:Str):TS:=fun D σ H=>tv σ H fun y H1=>ta σ H1 fun x H2=>∃ a C dx fs,x = .ref a∧H2 a=some (.ins C dx fs)∧Cls K C∧NoAttr K C f∧fs.length<1000 ∧
  D.nx σ (upd H2 a (.ins C dx (putF f y fs)))
section
variable {X:Cx} {o e value:Expr} {f:Str} {pos pos' tpos:Pos} {ta tv:TE}
theorem pe_fld (he:PE X e ta) (hb:attributeBase e f X.env (eval e X.env)=eval e X.env):PE X (.Attribute e f pos) (tFld X.K ta f):=by
  intro pins s σ H Q I h
  refine z3h hb (thn (he pins s σ H _ I h) fun u s1 ⟨x,H1,I1,rx,a,C,dx,fs,v,ex,ea,c,n,l,q⟩ => ?_)
  subst ex
  obtain rfl:u=Value.ref a:=rx
  exact z1r I1 ea c n l fun u' s2 I2 ru=>⟨v,H1,I2,ru,q⟩
theorem ps_fld (ha:PE X o ta) (hv:PE X value tv) (hs:swapsWith value (some (.Attribute o f pos')) pos.line X.env=pure false):PS X (.Assign [.Attribute o f pos'] value pos) (sFld X.K ta tv f):=by
  intro pins s σ H D I h
  refine plainObj_wpAny_Assign_Attribute (thn (hv pins s σ H _ I h) fun u s1 ⟨y,H1,I1,ry,q⟩=>thn (ha pins s1 σ H1 _ I1 q) fun ov s2 ⟨x,H2,I2,rx,a,C,dx,fs,ex,ea,c,n,l,q2⟩ => ?_) hs
  subst ex
  obtain rfl:ov=Value.ref a:=rx
  exact z1s I2 ea c n l ry fun s3 I3=>⟨σ,_,I3,q2⟩
end
section
variable {X:Cx} {pins:List (Addr×Obj)} {σ:St} {H:Hp} {s:Shared} {A:Around} {E:Value→Shared→Prop} {Q:Value→Shared→Prop} {c:Value} {b:Bool}
inductive TyOf (K:PySem.W.Frag) (H:Hp):V→Value→Prop where
  | non:TyOf K H .non (.type "NoneType")
  | bl (x:Bool):TyOf K H (.bl x) (.type "bool")
  | int (i:Int):TyOf K H (.int i) (.type "int")
  | str (x:Str):TyOf K H (.str x) (.type "str")
  | flt (x:UInt64):TyOf K H (.flt x) (.type "float")
  | lst {a:Addr} {xs:List V} (e:H a=some (.lst xs)):TyOf K H (.ref a) (.type "list")
  | frz {a:Addr} {o:Obj} {xs:List V} (e:H a=some (.frz o (.lst xs))):TyOf K H (.ref a) (.type "list")
  | tup {a:Addr} {xs:List V} (e:H a=some (.tup xs)):TyOf K H (.ref a) (.type "tuple")
  | dK {a:Addr} {kvs:List (Key×V)} (e:H a=some (.dK kvs)):TyOf K H (.ref a) (.type "dict")
  | dT {a:Addr} {kvs:List (List Key×V)} (e:H a=some (.dT kvs)):TyOf K H (.ref a) (.type "dict")
  | ins {a C dx:Addr} {fs:List (Str×V)} (e:H a=some (.ins C dx fs)) (cl:Cls K C) (ha:PySem.W.findIn K (.ref C) "__class__" = some (some (.builtin "object.__class__")))
      (hn:PySem.W.specialIn K (.builtin "object.__class__") "__get__" = some (some (.builtin "getset_descriptor.__get__"))) (htk:PySem.W.takesIn K (.builtin "object.__class__")=some true)
      (hm:PySem.W.mroIn K C (.type "object")=some true):TyOf K H (.ref a) (.ref C)
theorem z3i {x:V} {u t:Value} (I:Inv X pins σ H s) (rx:RelV x u) (ty:TyOf X.K H x t) (e:PySem.W.kitOne X.K t c=some b) (h:∀ tk,Q (.bool b) { s with toks:=tk }) :
    wpAny (model X.prog X.w) A (call (.builtin "isinstance") [u,c]) Q E s:=by
  cases ty with
  | non=>cases (show u=Value.none from rx);exact PySem.W.kia_one PySem.W.kitx_none I.kIn True.intro e (fun z=>nomatch z) h
  | bl y=>cases (show u=Value.bool y from rx);exact PySem.W.kia_one PySem.W.kitx_bool I.kIn True.intro e (fun z=>nomatch z) h
  | int i=>obtain⟨t,q⟩:=(show ∃ t,u=Value.int i t from rx);cases q;exact PySem.W.kia_one PySem.W.kitx_int I.kIn True.intro e (fun z=>nomatch z) h
  | str y=>obtain⟨t,q⟩:=(show ∃ t,u=Value.str y t from rx);cases q;exact PySem.W.kia_one PySem.W.kitx_str I.kIn True.intro e (fun z=>nomatch z) h
  | flt y=>obtain⟨t,q⟩:=(show ∃ t,u=Value.float y t from rx);cases q;exact PySem.W.kia_one PySem.W.kitx_float I.kIn True.intro e (fun z=>nomatch z) h
  | @lst a xs ea =>
    cases (show u=Value.ref a from rx)
    obtain⟨_,_,n,_,h1⟩:=(show ObjOk X.prog X.w H s.heap a (.lst xs) from I.hok a _ ea)
    exact PySem.W.kia_one PySem.W.kitx_list I.kIn ⟨_,h1,rfl⟩ e (fun z=>nomatch z) h
  | @frz a ob xs ea =>
    cases (show u=Value.ref a from rx)
    obtain⟨_,_,_,n,_,h1⟩:=(show ObjOk X.prog X.w H s.heap a (.frz ob (.lst xs)) from I.hok a _ ea)
    exact PySem.W.kia_one PySem.W.kitx_list I.kIn ⟨_,h1,rfl⟩ e (fun z=>nomatch z) h
  | @tup a xs ea =>
    cases (show u=Value.ref a from rx)
    obtain⟨_,_,_,p⟩:=(show ObjOk X.prog X.w H s.heap a (.tup xs) from I.hok a _ ea)
    obtain⟨o,h1,h2,_⟩:=p
    exact PySem.W.kia_one PySem.W.kitx_tuple I.kIn ⟨o,h1,h2⟩ e (fun z=>nomatch z) h
  | @dK a kvs ea =>
    cases (show u=Value.ref a from rx)
    obtain⟨_,_,vs,_,p⟩:=(show ObjOk X.prog X.w H s.heap a (.dK kvs) from I.hok a _ ea)
    obtain⟨o,es,ep,h1,h2,_⟩:=p
    exact PySem.W.kia_one PySem.W.kitx_dict I.kIn ⟨o,h1,h2.1⟩ e (fun z=>nomatch z) h
  | @dT a kvs ea =>
    cases (show u=Value.ref a from rx)
    obtain⟨_,_,xs,_,o,es,ep,h1,h2,_⟩:=(show ObjOk X.prog X.w H s.heap a (.dT kvs) from I.hok a _ ea)
    exact PySem.W.kia_one PySem.W.kitx_dict I.kIn ⟨o,h1,h2.1⟩ e (fun z=>nomatch z) h
  | @ins a C dx fs ea cl ha hn htk hm =>
    cases (show u=Value.ref a from rx)
    obtain⟨mA,O,_⟩:=q7n I.hok ea
    obtain⟨od,J,_⟩:=O.look
    exact PySem.W.kia_one (PySem.W.kitx_own (cl.get _) cl.hd ha hn htk hm) I.kIn J e (fun z=>nomatch z) h
end
end L2
namespace L2
open PySem PySem.Spec PyProof.Rows
structure Room (k:Nat) (A:Around):Prop where
  hd:A.handled=none
  dp:A.depth+3 * k+5<recursionLimit
  un:A.units+16 * k+200<cLine
  gd:A.guards=some []
theorem Room.mono {j k:Nat} {A:Around} (r:Room k A) (h:j≤k):Room j A:=⟨r.hd,by have:=r.dp;lia,by have:=r.un;lia,r.gd⟩
theorem Room.deeper {k:Nat} {A:Around} (r:Room (k+1) A) (env:Env):Room k (A.deeper env) :=
  ⟨r.hd,by have:=r.dp;show A.depth+1+3 * k+5<_;lia,by have:=r.un;show A.units+3+16 * k+200<_;lia,r.gd⟩
theorem z1t {A:Around} {C:Addr} {us:List Value} {kw:List (Str×Value)}:(A.under (.builtin "type.__call__" ⟨.ref C::us,kw⟩)).depth=A.depth+1:=by
  first | rfl | simp [Around.under,Code.weight,Code.isCreation,Code.isGuard,Code.isCaller,Code.frames,Code.isFrame,guardIds]
theorem z1u {A:Around} {C:Addr} {us:List Value} {kw:List (Str×Value)}:(A.under (.builtin "type.__call__" ⟨.ref C::us,kw⟩)).units=A.units+1:=by
  first | rfl | simp [Around.under,Code.cUnits,Code.frames,Code.isFrame]
theorem make_guards {A:Around} {C:Addr} {us:List Value} {kw:List (Str×Value)}:(A.under (.builtin "type.__call__" ⟨.ref C::us,kw⟩)).guards=A.guards:=by
  have:(Code.builtin "type.__call__" ⟨.ref C::us,kw⟩).guards = []:=by simp [Code.guards,Code.isGuard,guardIds]
  unfold Around.under
  rw [this]
  cases e:A.guards <;> simp [pushGuards,e]
theorem Room.make {k:Nat} {A:Around} (r:Room (k+1) A) (C:Addr) (us:List Value) (kw:List (Str×Value)):Room k (A.under (.builtin "type.__call__" ⟨.ref C::us,kw⟩)) :=
  ⟨r.hd,by have:=r.dp;rw [z1t];lia,by have:=r.un;rw [z1u];lia,make_guards.trans r.gd⟩
theorem Room.depth {k:Nat} {A:Around} (r:Room k A):A.depth<recursionLimit:=by have:=r.dp;lia
theorem Room.units {k:Nat} {A:Around} (r:Room k A):A.units+64<cLine:=by have:=r.un;lia
def tNil:TA:=fun _ H Q=>Q [] H
def tCons (ta:TE) (tr:TA):TA:=fun σ H Q=>ta σ H fun x H1=>tr σ H1 fun xs H2=>Q (x::xs) H2
section
variable {X:Cx} {e:Expr} {es:List Expr} {te:TE} {t:TA} {pos:Pos}
theorem q0d:PA X [] tNil:=fun _ _ _ _ H Q I h=>Calls.spliced_nil ⟨[],H,I,.nil,h⟩
theorem q0a (ha:PE X e te) (hr:PA X es t) (hs:starEach (e::es) X.env=(false,eval e X.env)::starEach es X.env:=by rfl):PA X (e::es) (tCons te t):=by
  intro pos pins s σ H Q I h
  rw [hs]
  show wpAny _ _ (spliced ((false,eval e X.env)::backTo pos (starEach es X.env))) _ _ s
  refine Calls.spliced_cons (thn (ha pins s σ H _ I h) fun u s1 ⟨x,H1,I1,r1,q1⟩ => ?_)
  exact thn (hr pos pins s1 σ H1 _ I1 q1) fun us s2 ⟨xs,H2,I2,r2,q2⟩=>⟨x::xs,H2,I2,.cons r1 r2,q2⟩
def tTup (t:TA):TE:=fun σ H Q=>t σ H fun xs H1=>xs.length≤sizeLine∧∀ p,H1 p=none→Q (.ref p) (upd H1 p (.tup xs))
def tLst (t:TA):TE:=fun σ H Q=>t σ H fun xs H1=>xs.length≤sizeLine∧∀ p,H1 p=none→Q (.ref p) (upd H1 p (.lst xs))
theorem q0y {x1} (h:PA X es t):PE X (.Tuple es x1 pos) (tTup t):=by
  intro pins s σ H Q I hq
  refine wpAny_Tuple_spliced (thn (h pos pins s σ H _ I hq) fun us s1 ⟨xs,H1,I1,r,z,q⟩=>⟨by rw [← r.length];exact z,?_⟩)
  have hf:H1 s1.heap.objs.size=none:=I1.hok.fresh (Nat.le_refl _)
  refine⟨.ref s1.heap.objs.size,upd H1 s1.heap.objs.size (.tup xs),I1.laid (t' := s1.toks) (fun b u e=>Heap.get?_push_of_some _ e) (Nat.le_refl _) ?_,rfl,q _ hf⟩
  exact⟨z,us,r,⟨_,Heap.get?_push_size _ rfl,rfl,_,rfl⟩⟩
theorem q2e (h:PA X es t):PE X (.List es pos) (tLst t):=by
  intro pins s σ H Q I hq
  refine wpAny_List_spliced (thn (h pos pins s σ H _ I hq) fun us s1 ⟨xs,H1,I1,r,z,q⟩=>⟨by rw [← r.length];exact z,?_⟩)
  have hf:H1 s1.heap.objs.size=none:=I1.hok.fresh (Nat.le_refl _)
  refine⟨.ref s1.heap.objs.size,upd H1 s1.heap.objs.size (.lst xs),I1.laid (t' := s1.toks) (fun b u e=>Heap.get?_push_of_some _ e) (Nat.le_refl _) ?_,rfl,q _ hf⟩
  exact⟨z,us,0,r,Heap.get?_push_size _ rfl⟩
end
abbrev Sp:=List V→Hp→VK→XK→Prop
abbrev CXT:=List Env→Hp→Shared→XK→Value→Shared→Prop
structure Env0 (P:Program) (w:World) (K:PySem.W.Frag) (mg:Str→Option Value) (base:Heap) (A:Around) (outer:List Env) (s:Shared) (H:Hp):Prop where
  frames:A.frames=some outer
  mod:Mod K mg base
  bs:∀ b o,base.get? b=some o→s.heap.get? b=some o∧H b=none
  bsz:base.objs.size≤s.heap.objs.size
  funs:s.heap.FunFrames base outer
  frf:∀ b∈frs outer,H b=none
  hok:HOk P w H s.heap
  bare:AllBare s.gens
def CE (outer:List Env) (P:Program) (w:World) (H:Hp) (s:Shared) (Q:VK) (u:Value) (s' : Shared):Prop :=
  ∃ v H',s'.os=s.os∧AllBare s'.gens∧Un (frs outer) [] H H' s.heap s'.heap∧HOk P w H' s'.heap∧RelV v u∧Q v H'
def CR (CX:CXT) (outer:List Env) (P:Program) (w:World) (H:Hp) (s:Shared) (Q:VK) (E:XK) (r:Result) (s' : Shared):Prop :=
  match r with
  | .ok (.ret u)=>CE outer P w H s Q u s'
  | .ok _=>False
  | .error e=>CX outer H s E e s'
structure FnOk (P:Program) (w:World) (K:PySem.W.Frag) (mg:Str→Option Value) (base:Heap) (CX:CXT) (k:Nat) (f:Addr) (fd:FuncData) (ps:List Str) (sp:Sp):Prop where
  len:∀ vs H Q E,sp vs H Q E→vs.length=ps.length
  run:∀ (A:Around) (outer:List Env) (s:Shared) (H:Hp) (args:Args) (us:List Value) (vs:List V) (Q:VK) (E:XK),Room k A→Env0 P w K mg base A outer s H→BindsTo s fd args (ps.zip us)→Vals vs us→sp vs H Q E →
    codeAny (model P w) A (.call (.ref f) args) (CR CX outer P w H s Q E) s
theorem FnOk.imp {P:Program} {w:World} {K:PySem.W.Frag} {mg:Str→Option Value} {base:Heap} {CX:CXT} {k:Nat} {f:Addr} {fd:FuncData} {ps:List Str} {sp sp' : Sp} (F:FnOk P w K mg base CX k f fd ps sp)
    (h:∀ vs H Q E,sp' vs H Q E→sp vs H Q E):FnOk P w K mg base CX k f fd ps sp' :=
  ⟨fun vs H Q E q=>F.len vs H Q E (h _ _ _ _ q),fun A outer s H args us vs Q E hr he hb hv hs=>F.run A outer s H args us vs Q E hr he hb hv (h _ _ _ _ hs)⟩
theorem Env0.make {P:Program} {w:World} {K:PySem.W.Frag} {mg:Str→Option Value} {base:Heap} {A:Around} {outer:List Env} {s:Shared} {H:Hp} (e:Env0 P w K mg base A outer s H) (C:Addr) (us:List Value) (kw:List (Str×Value)) :
    Env0 P w K mg base (A.under (.builtin "type.__call__" ⟨.ref C::us,kw⟩)) outer s H:=⟨by first | exact e.frames | (simpa [Around.under,Code.envs,Code.isFrame,pushEnvs] using e.frames),e.mod,e.bs,e.bsz,e.funs,e.frf,e.hok,e.bare⟩
section
variable {X:Cx} {pins:List (Addr×Obj)} {σ:St} {H:Hp} {s s' : Shared}
theorem Inv.env0 (I:Inv X pins σ H s):Env0 X.prog X.w X.K X.mg X.base X.A X.stack s H :=
  ⟨I.ok.frames,I.ok.mod,I.bs,Nat.le_trans I.ok.bsz I.sz,I.stack,I.stkFree,I.hok,I.bare⟩
theorem Inv.after {Q:VK} {u:Value} (I:Inv X pins σ H s) (h:CE X.stack X.prog X.w H s Q u s'):EP X pins σ Q u s' := by
  obtain⟨v,H',os,bare,un,hok,r,q⟩:=h
  obtain⟨hh,g,d,t,os'⟩:=s'
  obtain rfl:os' = s.os:=os
  exact⟨v,H',I.call (h' := hh) (g' := g) (d' := d) (t' := t) (ch := []) un hok bare (fun b z=>absurd z (by simp)),r,q⟩
end
def tCall (sp:Sp) (dvs:List V) (E:XK) (t:TA):TE:=fun σ H Q=>t σ H fun vs H1=>sp (vs++dvs) H1 Q E
def tMeth (C:Addr) (m:Str) (sp:Sp) (dvs:List V) (E:XK) (ta:TE) (t:TA):TE:=fun σ H Q=>ta σ H fun x H1=>∃ a dx fs,x = .ref a∧H1 a=some (.ins C dx fs)∧fs.lookup m=none ∧
  t σ H1 fun vs H2=>sp (x::(vs++dvs)) H2 Q E
def tMake (C:Addr) (sp:Sp) (dvs:List V) (E:XK) (t:TA):TE:=fun σ H Q=>t σ H fun vs H1=>∀ x dx,H1 x=none→H1 dx=none→dx≠x →
  sp (.ref x::(vs++dvs)) (upd (upd H1 dx (.own x)) x (.ins C dx [])) (fun v H2=>v = .non∧Q (.ref x) H2) E
def Binds (K:PySem.W.Frag) (fd:FuncData) (ps:List Str) (ds:List Value):Prop :=
  ∀ (s:Shared) (us:List Value),K.In s.heap→(us++ds).length=ps.length→BindsTo s fd ⟨us,[]⟩ (ps.zip (us++ds))
theorem Binds.all {K:PySem.W.Frag} {fd:FuncData} {ps:List Str} (h:∀ us:List Value,us.length=ps.length→bindArgs fd ⟨us,[]⟩=pure (ps.zip us)):Binds K fd ps []:=fun s us _ hl=>by
  rw [List.append_nil] at hl ⊢
  exact .of_eq (h us hl)
def Passes (CX:CXT) (X:Cx) (E:XK):Prop:=∀ (pins:List (Addr×Obj)) (σ:St) (H:Hp) (s:Shared) (e:Value) (s' : Shared),Inv X pins σ H s→CX X.stack H s E e s' → X.xe e s'
section
variable {X:Cx} {CX:CXT} {k:Nat} {f C:Addr} {fd:FuncData} {ps:List Str} {sp:Sp} {dvs:List V} {ds:List Value} {E:XK} {x m:Str} {p pos apos:Pos} {e o:Expr} {es:List Expr} {ta:TE} {t:TA}
theorem z3j {pins:List (Addr×Obj)} {σ:St} {H:Hp} {s:Shared} {Q:VK} {us:List Value} {vs:List V} (F:FnOk X.prog X.w X.K X.mg X.base CX k f fd ps sp) (hr:Room k X.A) (hb:Binds X.K fd ps ds) (hd:Vals dvs ds) (hx:Passes CX X E)
    (I:Inv X pins σ H s) (r:Vals vs us) (h:sp (vs++dvs) H Q E):wpAny (model X.prog X.w) X.A (call (.ref f) us) (EP X pins σ Q) X.xe s:=by
  have r2:Vals (vs++dvs) (us++ds):=r.append hd
  have hl:(us++ds).length=ps.length:=by rw [← r2.length];exact F.len _ _ _ _ h
  refine wpAny_call (codeAny_mono (F.run X.A X.stack s H ⟨us,[]⟩ (us++ds) (vs++dvs) Q E hr I.env0 (hb s us I.kIn hl) r2 h) fun r s' hq => ?_)
  cases r with
  | error e=>exact hx pins σ H s e s' I hq
  | ok fl =>
    cases fl with
    | ret u=>exact I.after hq
    | next=>exact False.elim hq
    | brk=>exact False.elim hq
    | cont=>exact False.elim hq
theorem z9a (F:FnOk X.prog X.w X.K X.mg X.base CX k f fd ps sp) (hr:Room k X.A) (hg:Gl X x) (hm:X.mg x=some (.ref f)) (hk:PySem.W.keepIn X.K (.ref f)=true) (hb:Binds X.K fd ps ds) (hd:Vals dvs ds) (hx:Passes CX X E)
    (ha:PA X (e::es) t) (hdb:(x==("__debug__" : Str))=false:=by decide) (he:starEach (e::es) X.env=(false,eval e X.env)::starEach es X.env:=by rfl) (hpl:(backTo pos (starEach es X.env)).any (·.1)=false:=by rfl) :
    PE X (.Call (.Name x p) (e::es) [] pos) (tCall sp dvs E t):=by
  intro pins s σ H Q I h
  refine wpAny_Call_Name_kw (q3p I hg hm ?_ hdb)
  refine PySem.W.callWith_K (h₀:=X.base) I.ok.mod.kin hk (thn (ha pos pins s σ H _ I h) fun us s1 ⟨vs,H1,I1,r,q⟩=>⟨I1.kIn,?_⟩) he hpl
  exact z3j F hr hb hd hx I1 r q
theorem z9b {pl:Sem Bool} (he:PE X o ta) (c:Cls X.K C) (hm:Meth X.K C m f) (F:FnOk X.prog X.w X.K X.mg X.base CX k f fd ps sp) (hr:Room k X.A) (hb:Binds X.K fd ps ds) (hd:Vals dvs ds) (hx:Passes CX X E) (ha:PA X (e::es) t)
    (hst:starEach (e::es) X.env=(false,eval e X.env)::starEach es X.env:=by rfl) (hpl:(backTo pos (starEach es X.env)).any (·.1)=false:=by rfl)
    (ht:eval (.Call (.Attribute o m apos) (e::es) [] pos) X.env=(do
      let ov ← eval o X.env
      standAt apos.atName
      let (f,first) ← holding [ov] (getMethod ov m pl)
      callWith pos f first (backTo pos (starEach (e::es) X.env)) (backToKw pos (keywordEach [] X.env))):=by rfl) :
    PE X (.Call (.Attribute o m apos) (e::es) [] pos) (tMeth C m sp dvs E ta t):=by
  intro pins s σ H Q I h
  refine PySem.W.methodCall_KW (pl:=pl) (thn (he pins s σ H _ I h) fun u s1 ⟨x,H1,I1,rx,a,dx,fs,ex,ea,l,q⟩ => ?_) ht
  subst ex
  obtain rfl:u=Value.ref a:=rx
  refine q4l I1 ea c hm l ?_
  refine PySem.W.callWith_K (first := [.ref a]) (h₀:=X.base) I.ok.mod.kin hm.kp (thn (ha pos pins s1 σ H1 _ I1 q) fun us s2 ⟨vs,H2,I2,r,q2⟩=>⟨I2.kIn,?_⟩) hst hpl
  exact z3j (us := .ref a::us) (vs := .ref a::vs) F hr hb hd hx I2 (.cons rfl r) q2
theorem z6q {pl:Sem Bool} (he:PE X o ta) (c:Cls X.K C) (hm:Meth X.K C m f) (F:FnOk X.prog X.w X.K X.mg X.base CX k f fd ps sp) (hr:Room k X.A) (hb:Binds X.K fd ps ds) (hd:Vals dvs ds) (hx:Passes CX X E)
    (ht:eval (.Call (.Attribute o m apos) [] [] pos) X.env=(do
      let ov ← eval o X.env
      standAt apos.atName
      let (f,first) ← holding [ov] (getMethod ov m pl)
      callWith pos f first (backTo pos (starEach [] X.env)) (backToKw pos (keywordEach [] X.env))):=by rfl) :
    PE X (.Call (.Attribute o m apos) [] [] pos) (tMeth C m sp dvs E ta tNil):=by
  intro pins s σ H Q I h
  refine PySem.W.methodCall_KW (pl:=pl) (thn (he pins s σ H _ I h) fun u s1 ⟨x,H1,I1,rx,a,dx,fs,ex,ea,l,q⟩ => ?_) ht
  subst ex
  obtain rfl:u=Value.ref a:=rx
  refine q4l I1 ea c hm l ?_
  exact PySem.W.callWith_K0 (first := [.ref a]) I1.kIn hm.kp (z3j (us := [.ref a]) (vs := [.ref a]) F hr hb hd hx I1 (.cons rfl .nil) q)
structure Mk (K:PySem.W.Frag) (C f:Addr):Prop where
  makes:PySem.W.makesIn K C=true
  init:PySem.W.findIn K (.ref C) "__init__" = some (some (.ref f))
  fn:PySem.W.isFn K (.ref f)=true
  kp:PySem.W.keepIn K (.ref C)=true
theorem z6r {pins:List (Addr×Obj)} {σ:St} {H:Hp} {s:Shared} {Q:VK} {us:List Value} {vs:List V} (M:Mk X.K C f) (F:FnOk X.prog X.w X.K X.mg X.base CX k f fd ps sp) (hr:Room (k+1) X.A) (hb:Binds X.K fd ps ds) (hd:Vals dvs ds)
    (hx:Passes CX X E) (I:Inv X pins σ H s) (r:Vals vs us)
    (h:∀ x dx,H x=none→H dx=none→dx≠x→sp (.ref x::(vs++dvs)) (upd (upd H dx (.own x)) x (.ins C dx [])) (fun v H2=>v = .non∧Q (.ref x) H2) E) :
    wpAny (model X.prog X.w) X.A (call (.ref C) us) (EP X pins σ Q) X.xe s:=by
  have hq:=h (s.heap.objs.size+1) s.heap.objs.size (I.hok.fresh (Nat.le_succ _)) (I.hok.fresh (Nat.le_refl _)) (Nat.ne_of_lt (Nat.lt_succ_self _))
  have I2:=Inv.made (C:=C) I
  have r2:Vals (V.ref (s.heap.objs.size+1)::(vs++dvs)) (Value.ref (s.heap.objs.size+1)::(us++ds)) := .cons rfl (r.append hd)
  have hl:(Value.ref (s.heap.objs.size+1)::us++ds).length=ps.length:=by
    have e:=r2.length
    rw [F.len _ _ _ _ hq] at e
    exact e.symm
  refine wpAny_call (z6p (f:=f) I.kIn M.makes M.init (beq_iff_eq.mp M.fn) (codeAny_mono (F.run _ X.stack _ _ ⟨Value.ref (s.heap.objs.size+1)::us,[]⟩ (Value.ref (s.heap.objs.size+1)::(us++ds)) _ _ E (hr.make C us [])
    (I2.env0.make C us []) (hb _ (Value.ref (s.heap.objs.size+1)::us) I2.kIn hl) r2 hq) fun r s' hq' => ?_))
  cases r with
  | error e=>exact hx pins σ _ _ e s' I2 hq'
  | ok fl =>
    cases fl with
    | ret u =>
      obtain⟨v,H',I3,rv,ev,q3⟩:=I2.after hq'
      subst ev
      exact⟨rv,⟨V.ref (s.heap.objs.size+1),H',I3,rfl,q3⟩⟩
    | next=>exact False.elim hq'
    | brk=>exact False.elim hq'
    | cont=>exact False.elim hq'
theorem z9c (M:Mk X.K C f) (F:FnOk X.prog X.w X.K X.mg X.base CX k f fd ps sp) (hr:Room (k+1) X.A) (hg:Gl X x) (hm:X.mg x=some (.ref C)) (hb:Binds X.K fd ps ds) (hd:Vals dvs ds) (hx:Passes CX X E)
    (ha:PA X (e::es) t) (hdb:(x==("__debug__" : Str))=false:=by decide) (he:starEach (e::es) X.env=(false,eval e X.env)::starEach es X.env:=by rfl) (hpl:(backTo pos (starEach es X.env)).any (·.1)=false:=by rfl) :
    PE X (.Call (.Name x p) (e::es) [] pos) (tMake C sp dvs E t):=by
  intro pins s σ H Q I h
  refine wpAny_Call_Name_kw (q3p I hg hm ?_ hdb)
  refine PySem.W.callWith_K (h₀:=X.base) I.ok.mod.kin M.kp (thn (ha pos pins s σ H _ I h) fun us s1 ⟨vs,H1,I1,r,q⟩=>⟨I1.kIn,?_⟩) he hpl
  exact z6r M F hr hb hd hx I1 r q
end
section
variable {X:Cx} {CX:CXT} {k:Nat} {f C:Addr} {fd:FuncData} {ps ks:List Str} {sp:Sp} {E:XK} {x m:Str} {p pos apos kpos:Pos} {e o:Expr} {es:List Expr} {kws:List Keyword} {te ta:TE} {t tk:TA} {nm:Option Str}
variable {g:List Value→List Value→List Value} {gV:List V→List V→List V}
end
structure FnScope (N P:List Str) (sc:Scope):Prop where
  kind:sc.kind = .function
  co:sc.isCoroutine=false
  gen:sc.isGenerator=false
  nd:N.Nodup
  pre:N.take P.length=P
  par:∀ x∈P,sc.names.lookup x=some .local∨sc.names.lookup x=some .cell
  nofree:∀ y∈sc.names,y.2 ≠ .free
theorem q8k {kindOf:Str→Option NameKind} {x:Str}:∀ {binds:List (Str×Value)} {m:Str→Option Value},(∀ v,(x,v)∉binds)→bindL kindOf binds m x=m x
  | [],_,_=>rfl
  | (n,v)::r,m,h=>by
    unfold bindL
    rw [q8k fun w hw=>h w (List.mem_cons_of_mem _ hw)]
    split
    · have:x≠n:=by rintro rfl;exact h v List.mem_cons_self
      simp [this]
    · rfl
theorem q8l {kindOf:Str→Option NameKind} {x:Str}:∀ {binds:List (Str×Value)} {m:Str→Option Value},(∀ v,(x,v)∉binds)→bindC kindOf binds m x=m x
  | [],_,_=>rfl
  | (n,v)::r,m,h=>by
    unfold bindC
    rw [q8l fun w hw=>h w (List.mem_cons_of_mem _ hw)]
    split
    · rfl
    · have:x≠n:=by rintro rfl;exact h v List.mem_cons_self
      simp [this]
theorem q8m {kindOf:Str→Option NameKind} {x:Str} {v:Value}:∀ {P:List Str} {vs:List Value} {i:Nat} {m:Str→Option Value},P.Nodup→P[i]? = some x→vs[i]? = some v→kindOf x=some .local →
    bindL kindOf (P.zip vs) m x=some v
  | [],_,_,_,_,h,_,_=>by simp at h
  | _::_,[],_,_,_,_,h,_=>by simp at h
  | p::P,w::vs,0,m,nd,h1,h2,hk=>by
    simp at h1 h2;subst h1;subst h2
    show bindL kindOf ((p,w)::P.zip vs) m p=_
    unfold bindL
    rw [q8k fun v hv=>(List.nodup_cons.mp nd).1 (List.of_mem_zip hv).1,if_pos hk]
    simp
  | p::P,w::vs,i+1,m,nd,h1,h2,hk=>by
    show bindL kindOf ((p,w)::P.zip vs) m x=_
    unfold bindL
    exact q8m (i:=i) (List.nodup_cons.mp nd).2 (by simpa using h1) (by simpa using h2) hk
theorem q8n {kindOf:Str→Option NameKind} {x:Str} {v:Value}:∀ {P:List Str} {vs:List Value} {i:Nat} {m:Str→Option Value},P.Nodup→P[i]? = some x→vs[i]? = some v→kindOf x≠some .local →
    bindC kindOf (P.zip vs) m x=some v
  | [],_,_,_,_,h,_,_=>by simp at h
  | _::_,[],_,_,_,_,h,_=>by simp at h
  | p::P,w::vs,0,m,nd,h1,h2,hk=>by
    simp at h1 h2;subst h1;subst h2
    show bindC kindOf ((p,w)::P.zip vs) m p=_
    unfold bindC
    rw [q8l fun v hv=>(List.nodup_cons.mp nd).1 (List.of_mem_zip hv).1,if_neg hk]
    simp
  | p::P,w::vs,i+1,m,nd,h1,h2,hk=>by
    show bindC kindOf ((p,w)::P.zip vs) m x=_
    unfold bindC
    exact q8n (i:=i) (List.nodup_cons.mp nd).2 (by simpa using h1) (by simpa using h2) hk
def start (N:List Str) (vs:List V):St:=vs.map some++List.replicate (N.length - vs.length) none
def cxOf (CX:CXT) (P:Program) (w:World) (K:PySem.W.Frag) (mg:Str→Option Value) (base:Heap) (N:List Str) (qual:Str) (scope:Scope) (f:Addr) (cd:Value) (A:Around) (outer:List Env) (s:Shared) (H:Hp) (E:XK):Cx where
  prog:=P
  w:=w
  K:=K
  mg:=mg
  base:=base
  A:=A.deeper (envOfC qual scope s.heap.objs.size f cd)
  N:=N
  s₀:=s
  H₀:=H
  env:=envOfC qual scope s.heap.objs.size f cd
  outer:=outer
  stack:=envOfC qual scope s.heap.objs.size f cd::outer
  ex := []
  calm:=true
  fn:=fun _=>true
  pn := []
  xe:=fun e s' => wpAny (model P w) (A.deeper (envOfC qual scope s.heap.objs.size f cd)) (leaving (envOfC qual scope s.heap.objs.size f cd) e) (fun _ s'' => CX outer H s E e s'') (fun e' s'' => CX outer H s E e' s'') s'
theorem z0n {sc:Scope} {n:Nat} {x:Str} (h:sc.names.lookup x=some .cell):∃ c,(cellsFrom n sc.names []).lookup x=some c:=by
  have q:=PySem.W.cellsFrom_some sc.names n [] (.inl h)
  exact Option.isSome_iff_exists.mp q
theorem z3k {CX:CXT} {P:Program} {w:World} {K:PySem.W.Frag} {mg:Str→Option Value} {base:Heap} {N ps:List Str} {qual:Str} {scope:Scope} {f:Addr} {cd:Value} {A:Around} {outer:List Env} {s s1:Shared} {H:Hp} {E:XK} {us:List Value} {vs:List V}
    (S:FnScope N ps scope) (hd:A.handled=none) (e0:Env0 P w K mg base A outer s H) (hl:vs.length=ps.length) (r:Vals vs us)
    (x:InCallC s s.heap.objs.size (bindL (envOfC qual scope s.heap.objs.size f cd).kindOf (ps.zip us) fun _=>none) (cellsFrom (s.heap.objs.size+1) scope.names []) (bindC (envOfC qual scope s.heap.objs.size f cd).kindOf (ps.zip us) fun _=>none) s1) :
    Inv (cxOf CX P w K mg base N qual scope f cd A outer s H E) [] (start N vs) H s1:=by
  have hpl:ps.length≤N.length:=by have:=congrArg List.length S.pre;rw [List.length_take] at this;lia
  obtain⟨h1,tk,rfl,hk⟩:=x.done
  have noA:∀ b:Addr,b∉(cxOf CX P w K mg base N qual scope f cd A outer s H E).ex:=fun b z=>absurd (show b∈([]:List Addr) from z) (by simp)
  refine⟨⟨e0.mod,S.kind,rfl,rfl,Nat.le_refl _,fun y z c h1 h2 => ?_,fun y hy => ?_,fun y c _ h => ?_,fun _=>hd,Around.frames_deeper e0.frames,.inr ⟨rfl,rfl⟩,fun b z=>absurd z (noA b),e0.bs,e0.bsz,fun b _ _=>noA b,fun b z=>absurd z (noA b),e0.funs,e0.frf⟩,
    rfl,e0.bare,Un.kept hk,⟨_,x.toInCall.ns,fun i y v h1 h2 h3 => ?_⟩,fun y c h=>⟨_,x.cell y c h⟩,e0.hok.fresh (Nat.le_refl _),fun y c h => ?_,fun p hp=>absurd (show p∈([]:List (Addr×Obj)) from hp) (by simp),e0.hok.kept hk,?_⟩
  · exact name_of_addr x.apart (PySem.mem_of_lookup h1) (PySem.mem_of_lookup h2)
  · have hy:scope.names.lookup y=some .cell∨scope.names.lookup y=some .free:=hy
    rcases hy with hy | hy
    · exact z0n hy
    · exact absurd rfl (S.nofree _ (PySem.mem_of_lookup hy))
  · exact Nat.le_of_lt (x.above y c (PySem.mem_of_lookup h))
  · have hi:i<vs.length:=by
      unfold start at h2
      by_cases hi:i<vs.length
      · exact hi
      · rw [List.getElem?_append_right (by simpa using hi)] at h2
        rw [List.getElem?_replicate] at h2
        split at h2 <;> cases h2
    have ha:vs[i]? = some v:=by
      unfold start at h2
      rw [List.getElem?_append_left (by simpa using hi),List.getElem?_map] at h2
      cases e:vs[i]? with
      | none=>rw [e] at h2;cases h2
      | some a=>rw [e] at h2;cases h2;rfl
    obtain⟨u,hu,rv⟩:=r.get ha
    have hp:ps[i]? = some y:=by
      rw [← S.pre,List.getElem?_take_of_lt (by lia)];exact h1
    have ndP:ps.Nodup:=by rw [← S.pre];exact S.nd.sublist (List.take_sublist _ _)
    refine⟨u,rv,?_⟩
    rcases S.par y (List.mem_of_getElem? hp) with k | k
    · exact .inl ⟨k,q8m ndP hp hu k⟩
    · obtain⟨c,e⟩:=z0n (n:=s.heap.objs.size+1) k
      refine .inr ⟨.inl k,c,e,?_⟩
      have q:=x.cell y c e
      rw [q8n ndP hp hu (by show scope.names.lookup y≠_;rw [k];decide)] at q
      exact q
  · exact e0.hok.fresh (Nat.le_of_lt (x.above y c (PySem.mem_of_lookup h)))
  · unfold start
    show _=N.length
    rw [List.length_append,List.length_map,List.length_replicate]
    lia
theorem z9d {CX:CXT} {P:Program} {w:World} {K:PySem.W.Frag} {mg:Str→Option Value} {base:Heap} {k:Nat} {f:Addr} {name qual:Str} {params:Arguments} {body:List Stmt} {scope:Scope} {dV kV doc pm cdv ct oc:Value} {an od:Option Addr}
    {osl:Array (Option Value)} {N ps:List Str} {sp:Sp} (lk:K.lookup f=some ⟨oc,od,.func (PySem.W.fnOf name qual params body scope dV kV doc pm an cdv ct),osl⟩) (hcd:PySem.W.codeIn K cdv qual=true) (S:FnScope N ps scope)
    (len:∀ vs H Q E,sp vs H Q E→vs.length=ps.length)
    (hbody:∀ (A:Around) (outer:List Env) (s:Shared) (H:Hp) (vs:List V) (Q:VK) (E:XK),Room k (A.deeper (envOfC qual scope s.heap.objs.size f cdv))→sp vs H Q E →
      ∃ t,PSs (cxOf CX P w K mg base N qual scope f cdv A outer s H E) body t∧t { nx:=fun _ H' => Q .non H',rt:=Q } (start N vs) H) :
    FnOk P w K mg base CX (k+1) f (PySem.W.fnOf name qual params body scope dV kV doc pm an cdv ct) ps sp:=by
  refine⟨len,fun A outer s H args us vs Q E hr e0 hb r hsp => ?_⟩
  have hl:=len _ _ _ _ hsp
  have KX:K.In s.heap:=e0.mod.kin.keeps fun b o e=>(e0.bs b o e).1
  have lim:s.heap.NoLimit:=e0.mod.nolimit.keeps fun b o e=>(e0.bs b o e).1
  have hkind:∀ y∈ps.zip us,scope.names.lookup y.1=some .local∨(scope.names.lookup y.1=some .cell∧((cellsFrom (s.heap.objs.size+1) scope.names []).lookup y.1).isSome=true):=fun ⟨n,v⟩ hy=>by
    rcases S.par n (List.of_mem_zip hy).1 with q | q
    · exact .inl q
    · exact .inr ⟨q,PySem.W.cellsFrom_some _ _ _ (.inl q)⟩
  refine codeAny_call_function hr.depth (KX _ _ lk) rfl S.co S.gen rfl (PySem.W.codeRec_of KX hcd) (hb _ _ _ _ ?_)
  refine wpAny_newFunctionEnv_cells S.kind hkind fun env he s1 x => ?_
  subst he
  refine⟨lim.keeps x.toInCall.keep,codeAny_func ?_⟩
  obtain⟨t,ht,hq⟩:=hbody A outer s H vs Q E (hr.deeper _) hsp
  have I:Inv (cxOf CX P w K mg base N qual scope f cdv A outer s H E) [] (start N vs) H s1:=z3k S hr.hd e0 hl r x
  refine wpAny_mono (ht [] s1 (start N vs) H _ I hq) (fun fl s' hs => ?_) fun e s' hs=>hs
  have fin:∀ {σ' : St} {H' : Hp} {v:V} {u:Value},Inv (cxOf CX P w K mg base N qual scope f cdv A outer s H E) [] σ' H' s' → RelV v u→Q v H' → CE outer P w H s Q u s' :=
    fun {σ' H' v u} J rv q=>⟨v,H',J.os,J.bare,J.base,J.hok,rv,q⟩
  cases fl with
  | ret u =>
    obtain⟨v,σ',H',J,rv,q⟩:=hs
    exact fin J rv q
  | next =>
    obtain⟨σ',H',J,q⟩:=hs
    exact fin (v:=V.non) (u:=Value.none) J rfl q
  | brk =>
    obtain⟨_,_,_,q⟩:=hs
    exact False.elim q
  | cont =>
    obtain⟨_,_,_,q⟩:=hs
    exact False.elim q
end L2
namespace L2
open PySem PySem.Spec PyProof.Rows
section
variable {X:Cx} {x:Str} {p pos:Pos} {e:Expr} {es:List Expr} {t:TA} {id T:String} {r:List V→Hp→VK→Prop}
def tCB (r:List V→Hp→VK→Prop) (t:TA):TE:=fun σ H Q=>t σ H fun vs H1=>r vs H1 Q
theorem q0i (hc:CallR X (.builtin id) r) (hg:Gl X x) (hm:X.mg x=none) (hv:bootBuiltins x=some (.builtin id)) (ha:PA X (e::es) t) (hn:x ≠ "__name__" := by decide) (hdb:(x==("__debug__" : Str))=false:=by decide)
    (he:starEach (e::es) X.env=(false,eval e X.env)::starEach es X.env:=by rfl) (hpl:(backTo pos (starEach es X.env)).any (·.1)=false:=by rfl):PE X (.Call (.Name x p) (e::es) [] pos) (tCB r t):=by
  intro pins s σ H Q I h
  refine wpAny_Call_Name_kw (q8h I hg hm hv ?_ hn hdb)
  exact PyProof.Rows.callWith_builtin1 (thn (ha pos pins s σ H _ I h) fun us s1 ⟨vs,H1,I1,r1,q1⟩=>hc pins s1 σ H1 vs us Q I1 r1 q1) he hpl
theorem q2y (hc:CallR X (.type T) r) (hg:Gl X x) (hm:X.mg x=none) (hv:bootBuiltins x=some (.type T)) (ha:PA X (e::es) t) (hn:x ≠ "__name__" := by decide) (hdb:(x==("__debug__" : Str))=false:=by decide)
    (he:starEach (e::es) X.env=(false,eval e X.env)::starEach es X.env:=by rfl) (hpl:(backTo pos (starEach es X.env)).any (·.1)=false:=by rfl):PE X (.Call (.Name x p) (e::es) [] pos) (tCB r t):=by
  intro pins s σ H Q I h
  refine wpAny_Call_Name_kw (q8h I hg hm hv ?_ hn hdb)
  exact PyProof.Rows.callWith_type1 (thn (ha pos pins s σ H _ I h) fun us s1 ⟨vs,H1,I1,r1,q1⟩=>hc pins s1 σ H1 vs us Q I1 r1 q1) he hpl
end
end L2
namespace HT
open PySem PyProof.Rows
section
open PySem.SeqAt
open PySem.AutoSeq1 (wpAny_loadPart')
open PySem.MeetsSeq PySem.MeetsSeq2 PySem.MeetsSeq3
end
section
variable {prog:Program} {w:World} {A:Around} {E:Value→Shared→Prop} {s:Shared}
theorem cat_tup {t b:Addr} {vs ws:List Value} {Q:Value→Shared→Prop} (ht:IsTup s.heap t vs.toArray) (hb:IsTup s.heap b ws.toArray) (hv:vs ≠ [])
    (h1:ws = []→Q (.ref t) s) (h2:ws ≠ []→Q (.ref s.heap.objs.size) { s with heap:=s.heap.push { cls := .type "tuple",data := .seq (vs++ws).toArray } })
    (hsz:vs.length+ws.length≤sizeLine):wpAny (model prog w) A (binaryOp .Add (.ref t) (.ref b)) Q E s:=by
  obtain⟨⟨cls,dd,data,sl⟩,ho,hc,n,hd⟩:=id ht
  obtain⟨⟨cls2,dd2,data2,sl2⟩,ho2,hc2,n2,hd2⟩:=id hb
  simp only at hc hd hc2 hd2
  subst hc hd hc2 hd2
  have e:vs.toArray++ws.toArray=(vs++ws).toArray:=by simp
  by_cases hw:ws = []
  · exact concat_meets ⟨_,ho,rfl⟩ ⟨_,ho2,rfl⟩ noFill_tuple_add seq_tuple_add PySem.F.slot_tuple_add PySem.F.entry_tuple_add (PySem.F.args_tuple_add_2 _ _)
      (tuple_addW1 t b vs.toArray ws.toArray n n2 dd dd2 sl sl2 (by simpa using hv) (by simp [hw])) ⟨ho,ho2,h1 hw⟩
  · refine concat_meets ⟨_,ho,rfl⟩ ⟨_,ho2,rfl⟩ noFill_tuple_add seq_tuple_add PySem.F.slot_tuple_add PySem.F.entry_tuple_add (PySem.F.args_tuple_add_2 _ _)
      (tuple_addW2 t b vs.toArray ws.toArray n n2 dd dd2 sl sl2 (by simpa using hv) (by simpa using hw) (by rw [List.size_toArray,List.size_toArray];exact hsz)) ⟨ho,ho2,?_⟩
    rw [e]
    exact h2 hw
def sIx (n d:Nat):Option Int→Nat
  | none=>d
  | some v=>if v<0 then (v+(n:Int)).toNat else min v.toNat n
theorem sIx_le (n d:Nat) (hd:d≤n) (o:Option Int):sIx n d o≤n:=by
  cases o with
  | none=>exact hd
  | some v =>
    show (if v<0 then (v+(n:Int)).toNat else min v.toNat n)≤n
    by_cases hv:v<0
    · rw [if_pos hv];lia
    · rw [if_neg hv];exact Nat.min_le_right _ _
theorem z3l (v:Int) (n d:Nat):(if v<0 then max (v+(n:Int)) 0 else min v (n:Int))=((sIx n d (some v):Nat):Int):=by
  show (if v<0 then max (v+(n:Int)) 0 else min v (n:Int))=(((if v<0 then (v+(n:Int)).toNat else min v.toNat n):Nat):Int)
  by_cases hv:v<0
  · simp only [if_pos hv];lia
  · simp only [if_neg hv];lia
theorem z1v (lo hi:Option Int) (n:Nat):Builtin.Slice.sliceAdjust lo hi 1 (n:Int)=(((sIx n 0 lo:Nat):Int),((sIx n n hi:Nat):Int)):=by
  have h1:¬ ((1:Int)<0):=by lia
  unfold Builtin.Slice.sliceAdjust
  simp only [h1,if_false]
  refine Prod.ext ?_ ?_
  · cases lo with
    | none=>rfl
    | some v=>exact z3l v n 0
  · cases hi with
    | none=>rfl
    | some v=>exact z3l v n n
theorem z1w (i j:Nat):Builtin.Slice.slicePlaces (i:Int) (j:Int) 1=j - i:=by
  unfold Builtin.Slice.slicePlaces
  have h1:(1:Int)>0:=by lia
  simp only [h1,if_true,Int.ediv_one]
  split <;> lia
theorem q6w {v:Value} {o:Option Int} {Q:Option Int→Shared→Prop} (p:IsPart v o) (h:Q o s):wpAny (model prog w) A (Builtin.Slice.slicePartIndex v) Q E s:=by
  cases p with
  | none=>exact slicePart_none h
  | int i t=>exact slicePart_int h
theorem q2u {sl:Addr} {vl vu:Value} {lo hi:Option Int} {n:Nat} {Q:Int×Int×Nat→Shared→Prop} (hs:s.heap.IsSliceOf sl vl vu .none) (pl:IsPart vl lo) (pu:IsPart vu hi)
    (h:Q (((sIx n 0 lo:Nat):Int),1,sIx n n hi - sIx n 0 lo) s):wpAny (model prog w) A (Builtin.Slice.sliceApplied (.ref sl) (pure (n:Int))) Q E s:=by
  obtain⟨os,hos,hcs,hds⟩:=id hs
  unfold Builtin.Slice.sliceApplied Builtin.Slice.sliceFields
  refine wpAny_bind (wpAny_bind (wpAny_field hos hds (x:=vl) rfl (wpAny_bind (wpAny_field hos hds (x:=vu) rfl (wpAny_bind (wpAny_field hos hds (x := .none) rfl (wpAny_pure ?_)))))))
  refine wpAny_bind (slicePart_none ?_)
  show wpAny _ _ (if ((1:Int)==0)=true then _ else _) _ _ s
  rw [if_neg (by decide)]
  refine wpAny_bind (q6w pl (wpAny_bind (q6w pu (wpAny_bind (wpAny_pure ?_)))))
  show wpAny _ _ (match Builtin.Slice.sliceAdjust lo hi 1 (n:Int) with | (lo,hi)=>pure (lo,(1:Int),Builtin.Slice.slicePlaces lo hi 1)) _ _ s
  rw [z1v lo hi n]
  show wpAny _ _ (pure (((sIx n 0 lo:Nat):Int),(1:Int),Builtin.Slice.slicePlaces ((sIx n 0 lo:Nat):Int) ((sIx n n hi:Nat):Int) 1)) _ _ s
  rw [z1w]
  exact wpAny_pure h
theorem z6s (xs:Array Value) (i k:Nat):((List.range k).filterMap fun (m:Nat)=>xs[((i:Int)+(m:Int) * 1).toNat]?).toArray=((xs.toList.drop i).take k).toArray:=by
  have e:(fun (m:Nat)=>xs[((i:Int)+(m:Int) * 1).toNat]?)=fun m=>xs[i+m]? := by
    funext m
    have:((i:Int)+(m:Int) * 1).toNat=i+m:=by lia
    rw [this]
  rw [e]
  have:=pick_run xs i k
  rw [List.filterMap_map] at this
  have e2:((fun x=>xs[x]?)∘fun x=>i+x)=fun m=>xs[i+m]? := rfl
  rw [e2] at this
  rw [this]
theorem getItem_tuple_cut {t sl:Addr} {items:Array Value} {vl vu:Value} {lo hi:Option Int} {Q:Value→Shared→Prop} (ht:IsTup s.heap t items) (hs:s.heap.IsSliceOf sl vl vu .none) (pl:IsPart vl lo) (pu:IsPart vu hi)
    (hw:¬ (sIx items.size 0 lo=0∧sIx items.size items.size hi=items.size))
    (h:Q (.ref s.heap.objs.size) { s with heap:=s.heap.push { cls := .type "tuple",data := .seq ((items.toList.drop (sIx items.size 0 lo)).take (sIx items.size items.size hi - sIx items.size 0 lo)).toArray } })
    (hsz:items.size≤sizeLine):wpAny (model prog w) A (getItem (.ref t) (.ref sl)) Q E s:=by
  have htake:sizeOk (.seq ((items.toList.drop (sIx items.size 0 lo)).take (sIx items.size items.size hi - sIx items.size 0 lo)).toArray):=by
    show ((items.toList.drop (sIx items.size 0 lo)).take (sIx items.size items.size hi - sIx items.size 0 lo)).toArray.size≤sizeLine
    rw [List.size_toArray,List.length_take,List.length_drop,Array.length_toList]
    lia
  have hj:sIx items.size items.size hi≤items.size:=sIx_le _ _ (Nat.le_refl _) hi
  obtain⟨os,hos,hcs,hds⟩:=id hs
  have hTs:s.TypeIs (.ref sl) "slice" := ⟨os,hos,hcs⟩
  unfold getItem
  try with_reducible refine wpAny_holding ?_
  first | refine wpAny_bind (wpAny_pure ?_) | skip
  refine wpAny_bind (wpAny_sequenceKey ht.typeIs (by decide) ?_)
  refine wpAny_bind (wpAny_callSpecial?_slot (name:=Str.ofString "__getitem__") ht.typeIs PyProof.Rows.slot_tuple_getitem
    (wpAny_call_entry PyProof.Rows.slot_tuple_getitem ht.typeIs entry_tuple_getitem ?_ (args_tuple_getitem _ _)))
  show wpAny _ _ (Builtin.Tuple.tupleItemsOf (.ref t) >>= _) _ _ s
  refine wpAny_bind (tupleItemsOf_ ht ?_)
  refine wpAny_bind (wpAny_typeOf hTs ?_)
  rw [if_pos (by decide)]
  refine wpAny_bind (q2u hs pl pu ?_)
  have hno:¬ ((((sIx items.size 0 lo:Nat):Int)==0&&(1:Int)==1&&(sIx items.size items.size hi - sIx items.size 0 lo)==items.size)=true):=by
    intro q
    rw [Bool.and_eq_true,Bool.and_eq_true] at q
    have q1:((sIx items.size 0 lo:Nat):Int)=0:=eq_of_beq q.1.1
    have q2:sIx items.size items.size hi - sIx items.size 0 lo=items.size:=eq_of_beq q.2
    exact hw ⟨by lia,by lia⟩
  show wpAny _ _ (if (((sIx items.size 0 lo:Nat):Int)==0&&(1:Int)==1&&(sIx items.size items.size hi - sIx items.size 0 lo)==items.size)=true then _ else _) _ _ s
  rw [if_neg hno,z6s]
  first
    | exact wpAny_bind (m:=Builtin.Tuple.tupleExact _) (wpAny_newObj_type (wpAny_pure ⟨_,rfl,wpAny_pure h⟩) htake)
    | exact wpAny_bind (m:=Builtin.Tuple.tupleExact _) (wpAny_newObj_type (wpAny_bind (wpAny_pure (wpAny_pure ⟨_,rfl,wpAny_pure h⟩))) htake)
    | exact wpAny_bind (wpAny_bind (m:=Builtin.Tuple.tupleExact _) (wpAny_newObj_type (wpAny_pure (wpAny_pure ⟨_,rfl,wpAny_pure h⟩)) htake))
    | exact wpAny_bind (wpAny_bind (m:=Builtin.Tuple.tupleExact _) (wpAny_newObj_type (wpAny_pure ⟨_,rfl,wpAny_pure h⟩) htake))
end
end HT
namespace L2
open PySem PySem.Spec PyProof.Rows
abbrev TO:=St→Hp→(Option Int→Hp→Prop)→Prop
def PO (X:Cx) (e:Option Expr) (t:TO):Prop :=
  ∀ (pins:List (Addr×Obj)) (s:Shared) (σ:St) (H:Hp) (Q:Option Int→Hp→Prop),Inv X pins σ H s→t σ H Q →
    wpAny (model X.prog X.w) X.A (evalPart e X.env) (fun u s' => ∃ o H',Inv X pins σ H' s' ∧ IsPart u o∧Q o H') X.xe s
def tNoPart:TO:=fun _ H Q=>Q none H
def tPart (t:TE):TO:=fun σ H Q=>t σ H fun x H1=>∃ i,x = .int i∧Q (some i) H1
section
variable {X:Cx} {e:Expr} {te:TE} {lo hi:Option Expr} {tl th:TO} {pos p2:Pos}
theorem q1j:PO X none tNoPart:=by
  intro pins s σ H Q I h
  rw [evalPart_none]
  exact wpAny_pure ⟨none,H,I,.none,h⟩
theorem q1k (h:PE X e te):PO X (some e) (tPart te):=by
  intro pins s σ H Q I hw
  rw [evalPart_some]
  refine thn (h pins s σ H _ I hw) fun u s1 ⟨x,H1,I1,r1,q1⟩ => ?_
  obtain⟨i,rfl,q⟩:=q1
  obtain⟨t,rfl⟩:=r1
  exact⟨some i,H1,I1,.int i t,q⟩
def SlR (X:Cx) (r:V→Option Int→Option Int→Hp→VK→Prop):Prop :=
  ∀ (pins:List (Addr×Obj)) (s:Shared) (σ:St) (H:Hp) (x:V) (v vl vu:Value) (lo hi:Option Int) (sl:Addr) (Q:VK),Inv X pins σ H s→RelV x v→s.heap.IsSliceOf sl vl vu .none→IsPart vl lo→IsPart vu hi→r x lo hi H Q →
    ∃ T id,typeLookup (.type T) "__getitem__" = pure (some (.builtin id))∧s.TypeIs v T∧wpAny (model X.prog X.w) X.A (getItem v (.ref sl)) (EP X pins σ Q) X.xe s
theorem SlR.or {r r' : V→Option Int→Option Int→Hp→VK→Prop} (h:SlR X r) (h' : SlR X r'):SlR X (fun x lo hi H Q=>r x lo hi H Q∨r' x lo hi H Q):=by
  intro pins s σ H x v vl vu lo hi sl Q I rx hs pl pu q
  rcases q with q | q
  · exact h pins s σ H x v vl vu lo hi sl Q I rx hs pl pu q
  · exact h' pins s σ H x v vl vu lo hi sl Q I rx hs pl pu q
def tSl (r:V→Option Int→Option Int→Hp→VK→Prop) (te:TE) (tl th:TO):TE:=fun σ H Q=>te σ H fun x H1=>tl σ H1 fun l H2=>th σ H2 fun u H3=>r x l u H3 Q
theorem q1a {r:V→Option Int→Option Int→Hp→VK→Prop} (hr:SlR X r) (he:PE X e te) (hl:PO X lo tl) (hu:PO X hi th):PE X (.Subscript e (.Slice lo hi none p2) pos) (tSl r te tl th):=by
  intro pins s σ H Q I h
  refine Subscript_ (thn (he pins s σ H _ I h) fun v s1 ⟨x,H1,I1,r1,q1⟩ => ?_)
  refine wpAny_Slice (thn (hl pins s1 σ H1 _ I1 q1) fun vl s2 ⟨l,H2,I2,pl,q2⟩=>thn (hu pins s2 σ H2 _ I2 q2) fun vu s3 ⟨u,H3,I3,pu,q3⟩ => ?_)
  rw [evalPart_none]
  refine wpAny_pure ?_
  have I4:Inv X pins σ H3 { s3 with heap:=s3.heap.push { cls := .type "slice",data := .fields #[vl,vu,.none] } }:=I3.kept (t' := s3.toks) fun b ob q=>Heap.get?_push_of_some _ q
  obtain⟨T,id,hT,ht,hg⟩:=hr pins { s3 with heap:=s3.heap.push { cls := .type "slice",data := .fields #[vl,vu,.none] } } σ H3 x v vl vu l u s3.heap.objs.size Q I4 r1 (Heap.IsSliceOf.new ..) pl pu q3
  show wpAny (model X.prog X.w) X.A (subscriptTail e (.Slice lo hi none p2) v (.ref s3.heap.objs.size)) (EP X pins σ Q) X.xe { s3 with heap:=s3.heap.push { cls := .type "slice",data := .fields #[vl,vu,.none] } }
  exact tail_any (ops := [.ref s3.heap.objs.size,v]) ht hT hg (by with_unfolding_all rfl)
def cutV (xs:List V) (lo hi:Option Int):List V:=(xs.drop (HT.sIx xs.length 0 lo)).take (HT.sIx xs.length xs.length hi - HT.sIx xs.length 0 lo)
theorem q5v (xs:List V) (lo hi:Option Int):(cutV xs lo hi).length≤xs.length:=by
  unfold cutV
  rw [List.length_take,List.length_drop]
  lia
def rSlT (K:PySem.W.Frag):V→Option Int→Option Int→Hp→VK→Prop:=fun x lo hi H Q=>∃ a xs,x = .ref a∧SqT K H a xs ∧
  ¬ (HT.sIx xs.length 0 lo=0∧HT.sIx xs.length xs.length hi=xs.length)∧∀ p,H p=none→Q (.ref p) (upd H p (.tup (cutV xs lo hi)))
theorem z8l:SlR X (rSlT X.K):=by
  intro pins s σ H x v vl vu lo hi sl Q I rx hs pl pu h
  obtain⟨a,xs,rfl,hx,hw,q⟩:=h
  cases rx
  obtain⟨its,r,ht,hz⟩:=I.tuple hx
  have hlen:its.toArray.size=xs.length:=by rw [List.size_toArray];exact r.length.symm
  refine⟨"tuple",_,PyProof.Rows.slot_tuple_getitem.lookup,ht.typeIs,?_⟩
  refine HT.getItem_tuple_cut ht hs pl pu (by rw [hlen];exact hw) ?_ (by rw [hlen];exact hz)
  rw [hlen]
  refine⟨.ref s.heap.objs.size,_,I.laid (t' := s.toks) (o := .tup (cutV xs lo hi)) (fun b ob q=>Heap.get?_push_of_some _ q) (Nat.le_refl _) ?_,rfl,q _ (I.hok.fresh (Nat.le_refl _))⟩
  exact⟨Nat.le_trans (q5v xs lo hi) hz,_,(r.drop (HT.sIx xs.length 0 lo)).take (HT.sIx xs.length xs.length hi - HT.sIx xs.length 0 lo),IsTup.new _ _⟩
theorem Vals.nil_iff {xs:List V} {us:List Value} (r:Vals xs us):us = []↔xs = []:=by
  cases r with
  | nil=>simp
  | cons _ _=>simp
end
end L2
namespace L2
open PySem PySem.Spec PyProof.Rows
def ixN (n:Nat) (i:Int):Option Nat:=if 0≤i then (if i<n then some i.toNat else none) else if -(n:Int)≤i then some (i+n).toNat else none
def atI {α:Type} (xs:List α) (i:Int):Option α:=(ixN xs.length i).bind fun j=>xs[j]?
theorem z3m {n:Nat} {i:Int} {j:Nat} (h:ixN n i=some j):seqIndex? i n=some j∧j<n ∧ -(n:Int)≤i∧i<n:=by
  unfold ixN at h
  by_cases h0:0≤i
  · rw [if_pos h0] at h
    by_cases h1:i<n
    · rw [if_pos h1] at h
      have e:i.toNat=j:=Option.some.inj h
      exact⟨by rw [seqIndex_of h0 h1,e],by lia,by lia,h1⟩
    · rw [if_neg h1] at h;cases h
  · rw [if_neg h0] at h
    by_cases h1 : -(n:Int)≤i
    · rw [if_pos h1] at h
      have e:(i+n).toNat=j:=Option.some.inj h
      exact⟨by rw [seqIndex_neg (by lia) h1,e],by lia,h1,by lia⟩
    · rw [if_neg h1] at h;cases h
theorem q7o {α:Type} {xs:List α} {i:Int} {v:α} (h:atI xs i=some v):∃ j,seqIndex? i xs.length=some j∧xs[j]? = some v∧j<xs.length ∧ -(xs.length:Int)≤i∧i<xs.length:=by
  unfold atI at h
  cases e:ixN xs.length i with
  | none=>rw [e] at h;cases h
  | some j =>
    rw [e] at h
    obtain⟨h1,h2,h3,h4⟩:=z3m e
    exact⟨j,h1,h,h2,h3,h4⟩
theorem z9e {α:Type} {xs:List α} {j:Nat} {v:α} (h:xs[j]? = some v):atI xs (j:Int)=some v:=by
  have hj:j<xs.length:=(List.getElem?_eq_some_iff.mp h).1
  have e:ixN xs.length (j:Int)=some j:=by
    unfold ixN
    rw [if_pos (by lia),if_pos (by lia)];simp
  unfold atI;rw [e];exact h
def PlainIx (b:Expr):Prop:=∀ o i,subscripted b false o i=operate [o,i] (getItem o i)
def IxR (X:Cx) (r:R2):Prop :=
  ∀ (value slice:Expr) (pins:List (Addr×Obj)) (s:Shared) (σ:St) (H:Hp) (x y:V) (v u:Value) (Q:VK),Inv X pins σ H s→RelV x v→RelV y u→r x y H Q →
    subscripted slice false v u=operate [v,u] (getItem v u)→wpAny (model X.prog X.w) X.A (subscriptTail value slice v u) (EP X pins σ Q) X.xe s
def MtR (X:Cx) (id:String) (r:V→List V→Hp→VK→Prop):Prop :=
  ∀ (pins:List (Addr×Obj)) (s:Shared) (σ:St) (H:Hp) (x:V) (xs:List V) (v:Value) (us:List Value) (Q:VK),Inv X pins σ H s→RelV x v→Vals xs us→r x xs H Q →
    wpAny (model X.prog X.w) X.A (call (.builtin id) (v::us)) (EP X pins σ Q) X.xe s
section
variable {X:Cx} {a b:Expr} {ta tb:TE} {pos:Pos}
theorem IxR.or {r r' : R2} (h:IxR X r) (h' : IxR X r'):IxR X (fun x y H Q=>r x y H Q∨r' x y H Q):=by
  intro value slice pins s σ H x y v u Q I rx ry q hs
  rcases q with q | q
  · exact h value slice pins s σ H x y v u Q I rx ry q hs
  · exact h' value slice pins s σ H x y v u Q I rx ry q hs
theorem q1t {r:R2} (hr:IxR X r) (ha:PE X a ta) (hb:PE X b tb) (hs:PlainIx b):PE X (.Subscript a b pos) (tOp r ta tb):=by
  intro pins s σ H Q I h
  exact Subscript_ (binT ha hb I h fun v u s2 x y H2 I2 rx ry q=>hr a b pins s2 σ H2 x y v u Q I2 rx ry q (hs _ _))
def rIxL (K:PySem.W.Frag):R2:=fun x y H Q=>∃ p xs i v,x = .ref p∧y = .int i∧SqL K H p xs∧atI xs i=some v∧Q v H
def rIxT (K:PySem.W.Frag):R2:=fun x y H Q=>∃ p xs i v,x = .ref p∧y = .int i∧SqT K H p xs∧atI xs i=some v∧Q v H
def rIxS:R2:=fun x y H Q=>∃ z i c,x = .str z∧y = .int i∧z.length≤sizeLine∧atI z.cps.toList i=some c∧Q (.str ⟨#[c]⟩) H
theorem ix_list:IxR X (rIxL X.K):=by
  intro value slice pins s σ H x y v u Q I rx ry h hs
  obtain⟨p,xs,i,z,rfl,rfl,hq,he,q⟩:=h
  cases rx
  obtain⟨t,rfl⟩:=ry
  obtain⟨its,r,pl,hz⟩:=I.list hq
  obtain⟨j,h1,h2,h3,h4,h5⟩:=q7o he
  obtain⟨w,ew,rw'⟩:=r.get h2
  have hl:=r.length
  have hn:=line63
  have fin:EP X pins σ Q w s:=⟨z,H,I,rw',q⟩
  by_cases h0:0≤i
  · have hj:i.toNat=j:=by
      rw [seqIndex_of h0 h5] at h1
      exact Option.some.inj h1
    exact item_listR pl.isList h0 (by lia) (by rw [hj];simpa using ew) fin hs
  · have hj:(i+(its.toArray.size:Int)).toNat=j:=by
      rw [seqIndex_neg (by lia) h4] at h1
      rw [List.size_toArray,← hl]
      exact Option.some.inj h1
    exact subscriptTail_builtinR (x:=w) pl.isList.typeIs slot_list_getitem.lookup
      (wpAny_getItem_list_neg (Q:=fun r s' => r=w∧EP X pins σ Q r s') pl.isList (by lia) (by rw [List.size_toArray] <;> lia) (by lia) (by rw [hj];simpa using ew) ⟨rfl,fin⟩) hs
theorem ix_tup:IxR X (rIxT X.K):=by
  intro value slice pins s σ H x y v u Q I rx ry h hs
  obtain⟨p,xs,i,z,rfl,rfl,hq,he,q⟩:=h
  cases rx
  obtain⟨t,rfl⟩:=ry
  obtain⟨its,r,pl,hz⟩:=I.tuple hq
  obtain⟨j,h1,h2,h3,h4,h5⟩:=q7o he
  obtain⟨w,ew,rw'⟩:=r.get h2
  have hl:=r.length
  have hn:=line63
  have fin:EP X pins σ Q w s:=⟨z,H,I,rw',q⟩
  exact subscriptTail_builtinR (x:=w) pl.typeIs slot_tuple_getitem.lookup
    (getItem_tuple (j:=j) (Q:=fun r s' => r=w∧EP X pins σ Q r s') pl (by lia) (by lia) (by rw [List.size_toArray,← hl];exact h1) (by simpa using ew) ⟨rfl,fin⟩) hs
theorem ix_str:IxR X rIxS:=by
  intro value slice pins s σ H x y v u Q I rx ry h hs
  obtain⟨z,i,c,rfl,rfl,hz,he,q⟩:=h
  obtain⟨t,rfl⟩:=rx
  obtain⟨t',rfl⟩:=ry
  obtain⟨j,h1,h2,h3,h4,h5⟩:=q7o he
  have hl:z.cps.toList.length=z.length:=by simp [Str.length]
  rw [hl] at h1 h4 h5
  have hn:=line63
  exact tail_any (typeIs_str s z t) slot_str_getitem.lookup (getItem_str (c:=c) (by
    have e1:decide (i < -(2 ^ 63:Int))=false:=decide_eq_false (by lia)
    have e2:decide (i≥2 ^ 63)=false:=decide_eq_false (by lia)
    rw [e1,e2,Bool.or_false]) (by rw [h1];simpa using h2) ⟨.str ⟨#[c]⟩,H,I.tok _,⟨_,rfl⟩,q⟩) hs
def rIx (K:PySem.W.Frag):R2:=fun x y H Q=>rIxL K x y H Q∨rIxT K x y H Q∨rIxS x y H Q
theorem ix_seq:IxR X (rIx X.K):=ix_list.or (ix_tup.or ix_str)
theorem z1x (its:List Value) (n j:Nat) (u:Value):Obj.mapSeq (·.setIfInBounds j u) { cls := .type "list",data := .seq its.toArray n } = { cls := .type "list",data := .seq (its.set j u).toArray n }:=by
  simp [Obj.mapSeq]
theorem Inv.lst {pins:List (Addr×Obj)} {σ:St} {H:Hp} {s:Shared} {p:Addr} {xs:List V} (I:Inv X pins σ H s) (h:H p=some (.lst xs)) :
    ∃ (its:List Value) (n:Nat),Vals xs its∧s.heap.get? p=some { cls := .type "list",data := .seq its.toArray n }∧xs.length≤sizeLine:=by
  obtain⟨z,its,n,r,e⟩:=I.hok p _ h
  exact⟨its,n,r,e,z⟩
theorem Inv.lstUpd {pins:List (Addr×Obj)} {σ:St} {H:Hp} {s:Shared} {p:Addr} {xs ys:List V} {its its' : List Value} {n n' : Nat} {f:Obj→Obj} (I:Inv X pins σ H s) (h:H p=some (.lst xs))
    (ho:s.heap.get? p=some { cls := .type "list",data := .seq its.toArray n }) (hf:f { cls := .type "list",data := .seq its.toArray n } = { cls := .type "list",data := .seq its'.toArray n' }) (r:Vals ys its') (hz:ys.length≤sizeLine) (t:Nat) :
    Inv X pins σ (upd H p (.lst ys)) { s with heap:=s.heap.update p f,toks:=t }:=by
  have e:(s.heap.update p f).get? p=some { cls := .type "list",data := .seq its'.toArray n' }:=by
    rw [Heap.get?_update_self f ho (by rw [hf] <;> rfl),hf]
  refine I.write (x:=p) (e:=p) (by rw [h];trivial) (.inl rfl) (fun b u hb q=>(Heap.get?_update_other _ _ (Ne.symm hb)).trans q) ⟨_,e⟩ ?_
  exact⟨hz,its',n',r,e⟩
def rSetL:V→V→V→Hp→(Hp→Prop)→Prop:=fun o i v H Q=>∃ p xs k j,o = .ref p∧i = .int k∧H p=some (.lst xs)∧ixN xs.length k=some j∧Q (upd H p (.lst (xs.set j v)))
theorem q7p:PSet X rSetL:=by
  intro pins s σ H o i v ov iv u Q I ro ri rv h
  obtain⟨p,xs,k,j,rfl,rfl,hp,hj,q⟩:=h
  cases ro
  obtain⟨t,rfl⟩:=ri
  obtain⟨its,n,r,ho,hz⟩:=I.lst hp
  obtain⟨h1,h2,h3,h4⟩:=z3m hj
  have hl:=r.length
  have hn:=line63
  have I' : Inv X pins σ (upd H p (.lst (xs.set j v))) { s with heap:=s.heap.update p (Obj.mapSeq (·.setIfInBounds j u)) } :=
    I.lstUpd hp ho (z1x its n j u) (r.set rv j) (by rw [List.length_set];exact hz) s.toks
  by_cases h0:0≤k
  · have hk:k.toNat=j:=by
      rw [seqIndex_of h0 h4] at h1
      exact Option.some.inj h1
    exact PySem.W.ki_setAt ho h0 (by lia) (by rw [List.size_toArray,← hl];exact h4) (by rw [hk];exact⟨_,I',q⟩)
  · have hk:(k+(its.toArray.size:Int)).toNat=j:=by
      rw [seqIndex_neg (by lia) h3] at h1
      rw [List.size_toArray,← hl]
      exact Option.some.inj h1
    exact PySem.W.ki_setBack ho (by lia) (by rw [List.size_toArray,← hl];exact h3) (by lia) (by rw [hk];exact⟨_,I',q⟩)
theorem q8o (lo hi:Option Int) (n:Nat):(sliceBounds lo hi none n).1=((HT.sIx n 0 lo:Nat):Int)∧(sliceBounds lo hi none n).2.1=((HT.sIx n n hi:Nat):Int)∧(sliceBounds lo hi none n).2.2=1:=by
  refine⟨?_,?_,rfl⟩
  · cases lo with
    | none=>simp [sliceBounds,HT.sIx]
    | some i =>
      simp only [sliceBounds,HT.sIx,Option.getD_none,show (1:Int)>0 by decide,if_true]
      by_cases h:i<0
      · simp only [h,if_true] <;> lia
      · simp only [h,if_false] <;> lia
  · cases hi with
    | none=>simp [sliceBounds,HT.sIx]
    | some i =>
      simp only [sliceBounds,HT.sIx,Option.getD_none,show (1:Int)>0 by decide,if_true]
      by_cases h:i<0
      · simp only [h,if_true] <;> lia
      · simp only [h,if_false] <;> lia
theorem q7q (its:List Value) (lo hi:Option Int):slicePick its.toArray lo hi none=((its.drop (HT.sIx its.length 0 lo)).take (HT.sIx its.length its.length hi - HT.sIx its.length 0 lo)).toArray:=by
  obtain⟨h1,h2,h3⟩:=q8o lo hi its.toArray.size
  unfold slicePick
  rw [h1,h2,h3]
  simp only [sliceRange_one,pick_run,List.size_toArray] <;> rfl
def rSlL (K:PySem.W.Frag):V→Option Int→Option Int→Hp→VK→Prop:=fun x lo hi H Q=>∃ a xs,x = .ref a∧SqL K H a xs∧∀ p,H p=none→Q (.ref p) (upd H p (.lst (cutV xs lo hi)))
theorem sl_list:SlR X (rSlL X.K):=by
  intro pins s σ H x v vl vu lo hi sl Q I rx hs pl pu h
  obtain⟨a,xs,rfl,hx,q⟩:=h
  cases rx
  obtain⟨its,r,ht,hz⟩:=I.list hx
  have hlen:=r.length
  refine⟨"list",_,slot_list_getitem.lookup,ht.isList.typeIs,?_⟩
  refine wpAny_getItem_list_slice ht.isList hs pl pu .none (by simp) ?_ (by rw [List.size_toArray] <;> lia)
  rw [q7q,← hlen]
  refine⟨.ref s.heap.objs.size,_,I.laid (t' := s.toks) (o := .lst (cutV xs lo hi)) (fun b ob q=>Heap.get?_push_of_some _ q) (Nat.le_refl _) ?_,rfl,q _ (I.hok.fresh (Nat.le_refl _))⟩
  exact⟨Nat.le_trans (q5v xs lo hi) hz,_,0,(r.drop (HT.sIx xs.length 0 lo)).take (HT.sIx xs.length xs.length hi - HT.sIx xs.length 0 lo),Heap.get?_push_size _ rfl⟩
theorem q8p:CallR X (.type "list") (fun xs H Q=>∃ p ys,xs = [.ref p]∧(SqL X.K H p ys∨SqT X.K H p ys)∧∀ l,H l=none→Q (.ref l) (upd H l (.lst ys))):=by
  intro pins s σ H xs us Q I r h
  obtain⟨p,ys,rfl,hq,q⟩:=h
  obtain⟨u,rfl,rx⟩:=vals1 r
  cases rx
  have fin:∀ (its:List Value),Vals ys its→ys.length≤sizeLine→∀ (h' : Heap) (c' : Nat),(∀ b o',s.heap.get? b=some o' → h'.get? b=some o') →
      h'.get? s.heap.objs.size=some { cls := .type "list",dict:=none,data := .seq its.toArray c',slots := #[] }→EP X pins σ Q (.ref s.heap.objs.size) { s with heap:=h' }:=fun its r' hz h' c' kp e =>
    ⟨.ref s.heap.objs.size,_,I.laid (t' := s.toks) kp (Nat.le_refl _) (show ObjOk X.prog X.w _ h' _ (.lst ys) from ⟨hz,its,c',r',e⟩),rfl,q _ (I.hok.fresh (Nat.le_refl _))⟩
  rcases hq with hq | hq
  · obtain⟨its,r',pl,hz⟩:=I.list hq
    have hlen:=r'.length
    obtain⟨o,ho,hc,n,hd⟩:=pl.isList
    exact call_list_seq p (.inl rfl) ho hc hd (fun h' c' kp e=>fin its r' hz h' c' kp e) (by simp only [List.size_toArray] <;> lia)
  · obtain⟨its,r',pl,hz⟩:=I.tuple hq
    have hlen:=r'.length
    obtain⟨o,ho,hc,n,hd⟩:=pl
    exact call_list_seq p (.inr rfl) ho hc hd (fun h' c' kp e=>fin its r' hz h' c' kp e) (by simp only [List.size_toArray] <;> lia)
def tyV (K:PySem.W.Frag) (T:String) (x:V) (H:Hp):Prop:=match x with
  | .str _=>T = "str"
  | .int _=>T = "int"
  | .ref p=>(T = "list" ∧ ∃ xs,SqL K H p xs)∨(T = "tuple" ∧ ∃ o,K.lookup p=some o∧o.cls = .type "tuple" ∧ o.dict=none) ∨
      (T = "dict" ∧ ((∃ kvs,H p=some (.dK kvs))∨∃ kvs,H p=some (.dT kvs)))∨(T = "set" ∧ ∃ S n,H p=some (.set S n))
  | _=>False
theorem z8m {pins:List (Addr×Obj)} {σ:St} {H:Hp} {s:Shared} {T:String} {x:V} {v:Value} (I:Inv X pins σ H s) (r:RelV x v) (ty:tyV X.K T x H) :
    s.TypeIs v T∧∀ a,v = .ref a→∃ ob,s.heap.get? a=some ob∧ob.dict=none:=by
  cases x with
  | str z =>
    obtain⟨t,rfl⟩:=r
    cases (show T = "str" from ty)
    exact⟨typeIs_str s z t,fun _ e=>nomatch e⟩
  | int i =>
    obtain⟨t,rfl⟩:=r
    cases (show T = "int" from ty)
    exact⟨typeIs_int s i t,fun _ e=>nomatch e⟩
  | ref p =>
    cases r
    rcases ty with ⟨rfl,xs,hq⟩ | ⟨rfl,o,hk,hc,hd⟩ | ⟨rfl,hk⟩ | ⟨rfl,S,n,hk⟩
    · obtain⟨its,_,pl,_⟩:=I.list hq
      refine⟨pl.isList.typeIs,fun a e => ?_⟩
      cases e
      obtain⟨o,n,e,c,hd,_⟩:=pl
      exact⟨o,e,hd⟩
    · refine⟨⟨o,I.kIn p o hk,hc⟩,fun a e => ?_⟩
      cases e
      exact⟨o,I.kIn _ o hk,hd⟩
    · have z:∃ o,s.heap.get? p=some o∧o.ExactDict:=by
        rcases hk with ⟨kvs,hk⟩ | ⟨kvs,hk⟩
        · obtain⟨_,_,_,_,o,_,_,e,ex,_⟩:=I.hok p _ hk
          exact⟨o,e,ex⟩
        · obtain⟨_,_,_,_,o,_,_,e,ex,_⟩:=I.hok p _ hk
          exact⟨o,e,ex⟩
      obtain⟨o,e,ex⟩:=z
      refine⟨⟨o,e,ex.1⟩,fun a e2 => ?_⟩
      cases e2
      exact⟨o,e,ex.2.1⟩
    · obtain⟨o,_,_,_,e,ex,_⟩:=I.hok p _ hk
      refine⟨⟨o,e,ex.1⟩,fun a e2 => ?_⟩
      cases e2
      exact⟨o,e,ex.2.1⟩
  | _=>exact False.elim ty
def tBM0 (K:PySem.W.Frag) (T:String) (r:V→List V→Hp→VK→Prop) (to:TE):TE:=fun σ H Q=>to σ H fun x H1=>tyV K T x H1∧r x [] H1 Q
def tBM (K:PySem.W.Frag) (T:String) (r:V→List V→Hp→VK→Prop) (to:TE) (t:TA):TE:=fun σ H Q=>to σ H fun x H1=>tyV K T x H1∧t σ H1 fun xs H2=>r x xs H2 Q
variable {o e:Expr} {es:List Expr} {to:TE} {t:TA} {name:Str} {apos cpos:Pos} {T id:String} {r:V→List V→Hp→VK→Prop}
theorem pe_bm0 (pa:PlainAttrs T) (slot:Slot T name id) (hty:typeOf (.builtin id)=pure (.type "method_descriptor")) (hm:MtR X id r) (ho:PE X o to)
    (hbase:attributeBase o name X.env (eval o X.env)=eval o X.env:=by rfl) (hline:(apos.endLine==cpos.line)=true:=by rfl):PE X (.Call (.Attribute o name apos) [] [] cpos) (tBM0 X.K T r to):=by
  intro pins s σ H Q I h
  refine wpAny_Call_method0_late hbase hline (thn (ho pins s σ H _ I h) fun v s1 ⟨x,H1,I1,r1,ty,q1⟩ => ?_)
  obtain⟨h1,h2⟩:=z8m I1 r1 ty
  exact⟨T,id,pa,slot,hty,h1,h2,Calls.callWith_builtin rfl (PySem.evalArgs_none (hm pins s1 σ H1 x [] v [] Q I1 r1 .nil q1))⟩
theorem pe_bm (pa:PlainAttrs T) (slot:Slot T name id) (hty:typeOf (.builtin id)=pure (.type "method_descriptor")) (hm:MtR X id r) (ho:PE X o to) (ha:PA X (e::es) t)
    (hbase:attributeBase o name X.env (eval o X.env)=eval o X.env:=by rfl)
    (hfew:((backTo cpos (starEach (e::es) X.env)).all (fun x => !x.1)&&(backToKw cpos (keywordEach [] X.env)).all (fun x=>x.1.isSome)
      && decide ((e::es).length+([]:List Keyword).length+(if ([]:List Keyword).isEmpty then 0 else 1)<30))=true:=by rfl)
    (hline:(apos.endLine==cpos.line)=true:=by rfl) (hs:starEach (e::es) X.env=(false,eval e X.env)::starEach es X.env:=by rfl) (hplain:(backTo cpos (starEach es X.env)).any (·.1)=false:=by rfl) :
    PE X (.Call (.Attribute o name apos) (e::es) [] cpos) (tBM X.K T r to t):=by
  intro pins s σ H Q I h
  refine wpAny_Call_method_late hbase hfew hline rfl (thn (ho pins s σ H _ I h) fun v s1 ⟨x,H1,I1,r1,ty,q1⟩ => ?_)
  obtain⟨h1,h2⟩:=z8m I1 r1 ty
  refine⟨T,id,pa,slot,hty,h1,h2,?_⟩
  have hA:=ha cpos pins s1 σ H1 _ I1 q1
  rw [hs] at hA ⊢
  refine Calls.callWith_builtin (by show (false||(backTo cpos (starEach es X.env)).any (·.1))=false;rw [hplain] <;> rfl) (Calls.evalArgs_plain ?_)
  exact thn hA fun us s2 ⟨vs,H2,I2,r2,q2⟩=>hm pins s2 σ H2 x vs v us Q I2 r1 r2 q2
end
end L2
namespace L2
open PySem PySem.Spec PyProof.Rows
def MtM (X:Cx) (id:String) (r:V→List V→Hp→VK→Prop):Prop :=
  ∀ (pins:List (Addr×Obj)) (s:Shared) (σ:St) (H:Hp) (x:V) (xs:List V) (v:Value) (us:List Value) (Q:VK),Inv X pins σ H s→RelV x v→Vals xs us→r x xs H Q →
    wpAny (model X.prog X.w) X.A (call (.builtin id) (v::us)) (EP X pins σ Q) X.xe s
theorem Vals.one:∀ {x:V} {us:List Value},Vals [x] us→∃ u,us = [u]∧RelV x u
  | _,_,.cons r .nil=>⟨_,rfl,r⟩
theorem Vals.two:∀ {x y:V} {us:List Value},Vals [x,y] us→∃ u v,us = [u,v]∧RelV x u∧RelV y v
  | _,_,_,.cons r (.cons q .nil)=>⟨_,_,rfl,r,q⟩
theorem Vals.zero:∀ {us:List Value},Vals [] us→us = []
  | _,.nil=>rfl
theorem Vals.eraseIdx:∀ {xs:List V} {us:List Value} (i:Nat),Vals xs us→Vals (xs.eraseIdx i) (us.eraseIdx i)
  | _,_,_,.nil => .nil
  | _,_,0,.cons _ t=>t
  | _,_,i+1,.cons r t => .cons r (Vals.eraseIdx i t)
theorem Vals.rep {xs:List V} {us:List Value} (h:Vals xs us):∀ k:Nat,Vals (List.replicate k xs).flatten (List.replicate k us).flatten
  | 0 => .nil
  | k+1=>by
    rw [List.replicate_succ,List.replicate_succ,List.flatten_cons,List.flatten_cons]
    exact Vals.append h (Vals.rep h k)
theorem q8q {α:Type}:∀ (l:List α) (i:Nat),(l.eraseIdx i).length≤l.length
  | [],_=>Nat.le_refl _
  | _::_,0=>Nat.le_succ _
  | _::r,i+1=>Nat.succ_le_succ (q8q r i)
theorem q8r (its:List Value):∀ (k:Nat) (acc:List Value),
    List.foldl (fun x1 x2=>x1++x2) acc.toArray (List.replicate k its.toArray)=(acc++(List.replicate k its).flatten).toArray
  | 0,acc=>by simp
  | k+1,acc=>by
    have e:acc.toArray++its.toArray=(acc++its).toArray:=by simp
    have e2:(acc++its)++(List.replicate k its).flatten=acc++(List.replicate (k+1) its).flatten:=by
      rw [List.replicate_succ,List.flatten_cons,List.append_assoc]
    rw [← e2,← q8r its k (acc++its),← e,List.replicate_succ,List.foldl_cons]
section
variable {X:Cx} {pins:List (Addr×Obj)} {σ:St} {H:Hp} {s:Shared} {l b:Addr} {xs ys zs:List V}
theorem Inv.lset {its its' : List Value} {n:Nat} {f:Array Value→Array Value} {t' : Nat} (I:Inv X pins σ H s) (hH:H l=some (.lst xs))
    (e:s.heap.get? l=some { cls := .type "list",data := .seq its.toArray n }) (hf:f its.toArray=its'.toArray) (hv:Vals ys its') (hz:ys.length≤sizeLine) :
    Inv X pins σ (upd H l (.lst ys)) { s with heap:=s.heap.update l (Obj.mapSeq f),toks:=t' }:=by
  have q:=PySem.IsL.update e f
  rw [hf] at q
  refine I.write (x:=l) (e:=l) (by rw [hH];exact trivial) (.inl rfl) (fun b' u hb hu=>(Heap.get?_update_other s.heap (Obj.mapSeq f) (Ne.symm hb)).trans hu) ⟨_,q⟩ ?_
  exact⟨hz,its',_,hv,q⟩
theorem Inv.lnew {its:List Value} {t' : Nat} (I:Inv X pins σ H s) (hv:Vals ys its) (hz:ys.length≤sizeLine) :
    Inv X pins σ (upd H s.heap.objs.size (.lst ys)) { s with heap:=s.heap.push { cls := .type "list",data := .seq its.toArray },toks:=t' } :=
  I.laid (fun _ _ q=>Heap.get?_push_of_some _ q) (Nat.le_refl _) ⟨hz,its,0,hv,Heap.get?_push_size _ rfl⟩
theorem Inv.fresh (I:Inv X pins σ H s):H s.heap.objs.size=none:=I.hok.fresh (Nat.le_refl _)
theorem Inv.lstM (I:Inv X pins σ H s) (hH:H l=some (.lst xs)):xs.length≤sizeLine∧∃ (its:List Value) (n:Nat),Vals xs its∧xs.length=its.length∧s.heap.get? l=some { cls := .type "list",data := .seq its.toArray n }:=by
  obtain⟨z,its,n,r,e⟩:=I.hok l _ hH
  exact⟨z,its,n,r,r.length,e⟩
theorem notLongL {n:Nat} (h:n≤sizeLine):Builtin.List.listTooLong n=false:=by
  unfold Builtin.List.listTooLong
  exact decide_eq_false (by lia)
end
section
variable {X:Cx}
def rAppend:V→List V→Hp→VK→Prop:=fun x vs H Q=>∃ l xs y,x = .ref l∧vs = [y]∧H l=some (.lst xs)∧xs.length<sizeLine∧Q .non (upd H l (.lst (xs ++ [y])))
theorem q2z:MtM X "list.append" rAppend:=by
  intro pins s σ H x vs v us Q I rx rv h
  obtain⟨l,xs,y,rfl,rfl,hH,hz,q⟩:=h
  cases rx
  obtain⟨u,rfl,ru⟩:=rv.one
  obtain⟨z,its,n,r,hl,e⟩:=I.lstM hH
  refine call_meets F.slot_list_append ⟨_,e,rfl⟩ F.entry_list_append (F.args_list_append_2 _ _) (PySem.list_append l its.toArray n u (by rw [List.size_toArray];lia)) ⟨e,?_⟩
  refine⟨.non,_,I.lset (its' := its ++ [u]) hH e (by simp) (r.append (.cons ru .nil)) ?_,rfl,q⟩
  rw [List.length_append,List.length_singleton]
  lia
def rPopAt:V→List V→Hp→VK→Prop:=fun x vs H Q=>∃ l xs i k y,x = .ref l∧vs = [.int i]∧H l=some (.lst xs) ∧ -(2 ^ 63)≤i∧i<2 ^ 63∧seqIndex? i xs.length=some k∧xs[k]? = some y∧Q y (upd H l (.lst (xs.eraseIdx k)))
theorem z6t:MtM X "list.pop" rPopAt:=by
  intro pins s σ H x vs v us Q I rx rv h
  obtain⟨l,xs,i,k,y,rfl,rfl,hH,h1,h2,hk,hy,q⟩:=h
  cases rx
  obtain⟨u,rfl,ru⟩:=rv.one
  obtain⟨t,rfl⟩:=ru
  obtain⟨z,its,n,r,hl,e⟩:=I.lstM hH
  obtain⟨w,hw,rw'⟩:=r.get hy
  refine call_meets F.slot_list_pop ⟨_,e,rfl⟩ F.entry_list_pop (F.args_list_pop_2 _ _)
    (MeetsSeq.list_pop_at l its.toArray n i t k w (fitsIndex_both h1 h2) (by rw [List.size_toArray,← hl];exact hk) (by rw [← Array.getElem?_toList];exact hw) (by rw [List.size_toArray];lia)) ⟨e,?_⟩
  refine⟨y,_,I.lset (its' := its.eraseIdx k) hH e ?_ (r.eraseIdx k) ?_,rw',q⟩
  · show its.toArray.eraseIdxIfInBounds k=(its.eraseIdx k).toArray
    rw [List.eraseIdxIfInBounds_toArray]
  · have:=q8q xs k
    lia
def rCat:R2:=fun x y H Q=>∃ l b xs zs,x = .ref l∧y = .ref b∧H l=some (.lst xs)∧H b=some (.lst zs)∧xs.length+zs.length≤sizeLine∧∀ p,H p=none→Q (.ref p) (upd H p (.lst (xs++zs)))
theorem op_cat:OpR X (binaryOp .Add) rCat:=by
  intro pins s σ H x y v u Q I rx ry h
  obtain⟨l,b,xs,zs,rfl,rfl,hH,hB,hz,q⟩:=h
  cases rx
  cases ry
  obtain⟨z,its,n,r,hl,e⟩:=I.lstM hH
  obtain⟨z2,its2,n2,r2,hl2,e2⟩:=I.lstM hB
  refine PySem.P.add_list e e2 ?_ (by rw [List.size_toArray,List.size_toArray];lia)
  have ea:its.toArray++its2.toArray=(its++its2).toArray:=by simp
  rw [ea]
  exact⟨.ref _,_,I.lnew (t' := s.toks) (r.append r2) (by rw [List.length_append];lia),rfl,q _ I.fresh⟩
def rRep:R2:=fun x y H Q=>∃ l k xs,x = .ref l∧y = .int k∧H l=some (.lst xs) ∧ -(2 ^ 63)≤k∧k<2 ^ 63∧xs.length * k.toNat≤sizeLine ∧
  ∀ p,H p=none→Q (.ref p) (upd H p (.lst (List.replicate k.toNat xs).flatten))
theorem z9f {α:Type} (xs:List α) (k:Nat):(List.replicate k xs).flatten.length=k * xs.length:=by
  induction k with
  | zero=>simp
  | succ k ih=>rw [List.replicate_succ,List.flatten_cons,List.length_append,ih,Nat.succ_mul,Nat.add_comm]
theorem op_rep:OpR X (binaryOp .Mult) rRep:=by
  intro pins s σ H x y v u Q I rx ry h
  obtain⟨l,k,xs,rfl,rfl,hH,h1,h2,hz,q⟩:=h
  cases rx
  obtain⟨t,rfl⟩:=ry
  obtain⟨z,its,n,r,hl,e⟩:=I.lstM hH
  have hlen:its.toArray.size * k.toNat≤sizeLine:=by rw [List.size_toArray,← hl];exact hz
  have hcap:¬ its.toArray.size * k.toNat>(2 ^ 63 - 1) / 8:=by
    have:(sizeLine:Nat)≤(2 ^ 63 - 1) / 8:=by decide
    lia
  have hfit:¬ (!Builtin.List.listFitsIndex k)=true:=by
    rw [fitsIndex_both h1 h2]
    exact Bool.false_ne_true
  have hlong:¬ Builtin.List.listTooLong (its.toArray.size * k.toNat)=true:=by
    rw [notLongL hlen]
    exact Bool.false_ne_true
  have hnew:List.foldl (fun x1 x2=>x1++x2) #[] (List.replicate (if its.toArray.isEmpty=true then 0 else k.toNat) its.toArray)=(List.replicate k.toNat its).flatten.toArray:=by
    have f0:∀ m:Nat,List.foldl (fun x1 x2=>x1++x2) #[] (List.replicate m its.toArray)=(List.replicate m its).flatten.toArray:=fun m=>by
      have:=q8r its m []
      rw [List.nil_append] at this
      exact this
    rw [f0]
    cases its with
    | nil=>simp
    | cons a r' => rw [if_neg (by simp)]
  refine wpAny_binaryOp_repeat_ref (T := "list") (U := "int") (by decide) ⟨_,e,rfl⟩ (fun s' => typeIs_int s' k t) noFill_list_mul F.fills_int_mul F.slot_int_rmul repeat_list F.slot_int_index.lookup
    (call_meets F.slot_int_rmul (typeIs_int s k t) F.entry_int_rmul (F.args_int_rmul_2 _ _) (int___rmul___int_list k t l its.toArray n)
      ⟨e,rfl,⟨_,e,rfl⟩,call_meets F.slot_list_mul ⟨_,e,rfl⟩ F.entry_list_mul (F.args_list_mul_2 _ _) (AutoListH.list___mul___list_int_3 l its.toArray n k t hfit hcap hlong) ⟨e,?_⟩⟩)
  rw [hnew]
  exact⟨.ref _,_,I.lnew (t' := s.toks) (r.rep k.toNat) (by rw [z9f,Nat.mul_comm];exact hz),rfl,q _ I.fresh⟩
end
section
variable {prog:Program} {w:World} {A:Around} {E:Value→Shared→Prop} {s:Shared}
set_option maxRecDepth 100000 in
end
section
variable {X:Cx}
end
end L2
namespace Att
open PySem PySem.W PySem.Calls PyProof.Rows
theorem q5w {P:Params} {h:Heap}:∀ (ns:List Int) (vs:List Value),WellAll P h vs (ns.map WData.int)→IntsAre vs ns:=by
  intro ns
  induction ns with
  | nil =>
    intro vs w
    rw [List.map_nil] at w
    cases w
    exact .nil
  | cons n ns ih =>
    intro vs w
    rw [List.map_cons] at w
    cases w with
    | cons a b =>
      cases a
      exact .cons _ _ (ih _ b)
theorem z3n {l:OpenLaw} {n:Nat} (hn:l.most=some n) {P:Params} {h:Heap} {args:List WData} {vals:List Value}
    (hpre:l.row.toRowW.claim.pre args=true) (hwl:WellAll P h vals args) :
    ∃ a vs ns,vals = [Value.ref a]∧args = [WData.list (ns.map WData.int)]∧h.get? a=some { cls := .type "list",data := .seq vs.toArray }∧IntsAre vs ns∧ns.length≤n:=by
  have hsh:WShape.hasAll [] args [.list .int]=true:=(pre_splitW hpre).1
  have hc:l.pre.holds [] { args:=args }=true:=(pre_splitW hpre).2
  obtain⟨d,r,rfl,h1,h2⟩:=hasAllW_cons hsh
  obtain rfl:=hasAllW_nil h2
  obtain⟨xs,rfl,h3⟩:=hasW_list h1
  obtain⟨ns,rfl⟩:=items_int h3
  have hlen:ns.length≤n:=by
    unfold OpenLaw.pre at hc
    have h4:(WTm.not (.lt (.lit (.int (n:Int))) (.len (.arg 0)))).holds [] { args := [.list (ns.map .int)] }=true:=by
      have h4:=(holds_andW hc).1
      rw [hn] at h4
      exact h4
    have h5:=condW_of h4 (w_not (w_lt w_lit (w_len_list (w_arg rfl))))
    rw [List.length_map] at h5
    refine Nat.le_of_not_lt fun q => ?_
    have q' : (n:Int)<((ns.length:Nat):Int):=by lia
    first
      | (rw [decide_eq_true q'] at h5;exact absurd h5 (by decide))
      | (simp at h5;lia)
  cases hwl with
  | cons w1 w2 =>
    cases w2
    cases w1 with
    | list ho hall=>exact⟨_,_,ns,rfl,rfl,ho,q5w ns _ hall,hlen⟩
theorem z3o (l:OpenLaw) (args:List WData):l.row.toRowW.claim.post args (.bool true) args=true :=
  postW_of (r:=l.row.toRowW) (X:=(true==true))
    (show WShape.has [] (.bool true) .bool=true by first | rfl | decide | simp [WShape.has,WShape.arms,WShape.armsAll])
    (show (WTm.eq .res (.lit (.bool true))).value [] { args:=args,res:=some (.bool true),after:=args }=some (.bool (true==true)) from w_eq_bool (w_res rfl) w_lit) rfl
theorem attach_call {l:OpenLaw} {n:Nat} {q:Program} {loose:List Str} {XP:(Str→Option Value)→Heap→Prop} {YP:World→Heap→Prop} {d:DefRec}
    (hn:l.most=some n) (hdf:d.params.defaults = [])
    (call:∀ (w:World) (s₀ s₁:Shared) (mg mb:Str→Option Value) (fa:Addr) (o:Obj) (pm cd doc:Value) (a:Addr) (vs:List Value) (ns:List Int),
      Ground q loose [] XP w s₀ mg mb s₁.heap→YP w s₁.heap →
      s₁.heap.get? fa=some o→o.data = .func (docDef d.name d.params d.body d.scope pm cd doc)→s₁.heap.CodeRec cd d.name→mg d.name=some (.ref fa) →
      s₁.heap.get? a=some { cls := .type "list",data := .seq vs.toArray }→IntsAre vs ns→ns.length≤n→s₁.gens = #[] →
      codeAny (model l.prog w) callerA (.call (.ref fa) ⟨[.ref a],[]⟩) (fun r s' => r = .ok (.ret (.bool true))∧OldK s₁.heap s'.heap∧s'.os=s₁.os∧AllBare s'.gens) s₁) :
    WalkO q loose XP YP l.row.toRowW d [] (fun f vs=>PySem.call f vs):=by
  intro w s₀ s₁ mg mb G Y fa o pm cd doc dV kV ho hd hcd hD hmg hg args vals as hpre hlay hrd hwl hlo
  obtain rfl:dV = .none:=Dflts.none hD hdf
  obtain rfl:kV = .none:=Dflts.noKw hD
  obtain⟨a,vs,ns,rfl,rfl,hobj,hints,hlen⟩:=z3n hn hpre hwl
  refine enter_call (codeAny_mono (call w s₀ s₁ mg mb fa o pm cd doc a vs ns G Y ho (fd_plain hd) hcd hmg hobj hints hlen hg) fun r s' hq => ?_)
  obtain⟨rfl,h2,h3,h4⟩:=hq
  exact⟨.inl ⟨.bool true,.bool true,[],rfl,fun _=>rfl,.bool true,z3o l _,fun _=>⟨List.Pairwise.nil,fun _ hm=>(nomatch hm)⟩⟩,h2,h3,h4⟩
section
variable {prog:Program} {w:World} {A:Around} {E:Value→Shared→Prop} {s:Shared} {K:Frag}
end
end Att
namespace L2
open PySem PySem.Spec PyProof.Rows
theorem q8s:∀ {vs:List Value} {ns:List Int},IntsAre vs ns→Vals (ns.map V.int) vs
  | _,_,.nil => .nil
  | _,_,.cons n t h => .cons ⟨t,rfl⟩ (q8s h)
def Only (H:Hp):Prop:=∀ b,H b=none∨∃ o xs,H b=some (.frz o (.lst xs))
theorem z6u {P:Program} {w:World} {K:PySem.W.Frag} {mg mb:Str→Option Value} {CX:CXT} {k:Nat} {fa a:Addr} {fd:FuncData} {x:Str} {sp:Sp} {s₁:Shared} {vs:List Value} {ns:List Int}
    (KX:K.In s₁.heap) (hns:s₁.heap.Ns mainGlobals mg) (hb:s₁.heap.Ns builtinsNs mb) (hbb:∀ x:Str,x ≠ "__name__" → mb x=bootBuiltins x) (hlim:s₁.heap.NoLimit) (hg:s₁.gens = #[])
    (ha:s₁.heap.get? a=some { cls := .type "list",data := .seq vs.toArray }) (hi:IntsAre vs ns) (hl:ns.length≤sizeLine) (hr:Room k callerA)
    (F:∀ base:Heap,K.In base→base.Ns mainGlobals mg→FnOk P w K mg base CX k fa fd [x] sp) (hbind:∀ (s:Shared) (u:Value),BindsTo s fd ⟨[u],[]⟩ [(x,u)])
    (hsp:∀ H:Hp,Only H→SqL K H a (ns.map V.int)→sp [.ref a] H (fun v _=>v = .bl true) fun _ _ _=>False)
    (hCX:∀ H e s',CX [] H s₁ (fun _ _ _=>False) e s' → False) :
    codeAny (model P w) callerA (.call (.ref fa) ⟨[.ref a],[]⟩) (fun r s' => r = .ok (.ret (.bool true))∧OldK s₁.heap s'.heap∧s'.os=s₁.os∧AllBare s'.gens) s₁:=by
  have rv:=q8s hi
  have lenV:=hi.length
  have core:∀ H:Hp,Only H→SqL K H a (ns.map V.int)→HOk P w H s₁.heap→(∀ b,H b≠none→b=a)→(H a≠none→K.lookup a=none) →
      codeAny (model P w) callerA (.call (.ref fa) ⟨[.ref a],[]⟩) (fun r s' => r = .ok (.ret (.bool true))∧OldK s₁.heap s'.heap∧s'.os=s₁.os∧AllBare s'.gens) s₁:=by
    intro H hO hS hok hA hK
    have base_of:∀ {b:Addr} {o:Obj},s₁.heap.get? b=some o→H b=none→(hidT s₁.heap H).get? b=some o:=fun e n=>z6f e n
    have noA:∀ {b:Addr} {o:Obj} {es:Array DictEntry} {ep:Nat},s₁.heap.get? b=some o→o.data = .dict es ep→H b=none:=fun {b o es ep} e d=>by
      cases q:H b with
      | none=>rfl
      | some u =>
        have e' : b=a:=hA b (by rw [q];simp)
        subst e'
        rw [ha] at e;cases e
        have d' : Data.seq vs.toArray _=Data.dict es ep:=d
        cases d'
    have nsK:∀ {b:Addr} {m:Str→Option Value},s₁.heap.Ns b m→(hidT s₁.heap H).Ns b m:=fun {b m} ⟨o,es,ep,e,d,r⟩=>⟨o,es,ep,base_of e (noA e d),d,r⟩
    have hKb:K.In (hidT s₁.heap H):=fun b o e=>base_of (KX b o e) (by
      cases q:H b with
      | none=>rfl
      | some u =>
        have e' : b=a:=hA b (by rw [q];simp)
        subst e'
        rw [hK (by rw [q];simp)] at e;cases e)
    have hM:Mod K mg (hidT s₁.heap H):=⟨hKb,nsK hns,⟨mb,nsK hb,hbb⟩,let ⟨mc,h1,h2⟩:=hlim;⟨mc,nsK h1,h2⟩⟩
    have e0:Env0 P w K mg (hidT s₁.heap H) callerA [] s₁ H:=⟨rfl,hM,fun b o e=>z8x e,Nat.le_of_eq (z2s _ _),trivial,fun b hb=>absurd (show b∈([]:List Addr) from hb) (by simp),hok,.of_eq hg⟩
    refine codeAny_mono ((F _ hKb (nsK hns)).run callerA [] s₁ H ⟨[.ref a],[]⟩ [.ref a] [.ref a] _ _ hr e0 (hbind s₁ (.ref a)) (.cons rfl .nil) (hsp H hO hS)) fun r s' h => ?_
    cases r with
    | error e=>exact (hCX H e s' h).elim
    | ok fl =>
      cases fl with
      | next=>exact False.elim h
      | brk=>exact False.elim h
      | cont=>exact False.elim h
      | ret u =>
        obtain⟨v,H',os,bare,un,hok',r',q⟩:=h
        have q' : v = .bl true:=q
        subst q'
        obtain rfl:u=Value.bool true:=r'
        refine⟨rfl,OldK.of_keep fun b o e => ?_,os,bare⟩
        cases q:H b with
        | none=>exact un.keep b o e q (by intro z;exact absurd (show b∈([]:List Addr) from z) (by simp)) (by simp)
        | some u =>
          rcases hO b with z | ⟨ob,xs,z⟩
          · rw [q] at z;cases z
          · have z2:=un.frzs b ob _ z
            obtain⟨e1,_⟩:=hok b _ z
            obtain⟨e2,_⟩:=hok' b _ z2
            rw [e] at e1;cases e1
            exact e2
  cases hk:K.lookup a with
  | some o =>
    have e:=KX a o hk
    rw [ha] at e
    cases e
    refine core (fun _=>none) (fun _ => .inl rfl) (.inr ⟨_,vs.toArray,_,hk,rfl,rfl,rfl,by rw [List.size_toArray,lenV];exact hl,by simpa using rv⟩) (fun b u z=>by have z' : (none:Option HO)=some u:=z;cases z') (fun b z=>absurd rfl z) fun z=>absurd rfl z
  | none =>
    refine core (fun b=>if b=a then some (.frz { cls := .type "list",data := .seq vs.toArray } (.lst (ns.map V.int))) else none) (fun b => ?_) (.inl (.inr ⟨{ cls := .type "list",data := .seq vs.toArray },if_pos rfl⟩)) (fun b u z => ?_) (fun b z => ?_) fun _=>hk
    · by_cases hb:b=a
      · exact .inr ⟨_,_,if_pos hb⟩
      · exact .inl (if_neg hb)
    · by_cases hb:b=a
      · have z' := (if_pos hb).symm.trans z
        cases z'
        subst hb
        exact⟨ha,by rw [List.length_map];exact hl,vs,_,rv,ha⟩
      · have z' := (if_neg hb).symm.trans z
        cases z'
    · by_cases hb:b=a
      · exact hb
      · exact absurd (if_neg hb) z
end L2
namespace L2
open PySem PySem.Spec PyProof.Rows
theorem walk_of {l:PySem.W.OpenLaw} {n k:Nat} {q:Program} {loose:List Str} {XP:(Str→Option Value)→Heap→Prop} {YP:World→Heap→Prop} {d:DefRec} {K:Params→PySem.W.Frag} {CX:World→CXT} {sp:World→Sp} {x:Str}
    (hn:l.most=some n) (hn2:n≤sizeLine) (hdf:d.params.defaults = []) (hr:Room k callerA)
    (hY:∀ (w:World) (h:Heap),YP w h→(K w.params).In h)
    (F:∀ (w:World) (mg:Str→Option Value) (fa:Addr) (h:Heap),(K w.params).In h→h.Ns mainGlobals mg→mg d.name=some (.ref fa) →
      ∃ fd:FuncData,(∀ (s:Shared) (u:Value),BindsTo s fd ⟨[u],[]⟩ [(x,u)]) ∧
        ∀ base:Heap,(K w.params).In base→base.Ns mainGlobals mg→FnOk l.prog w (K w.params) mg base (CX w) k fa fd [x] (sp w))
    (hsp:∀ (w:World) (H:Hp) (a:Addr) (ns:List Int),ns.length≤n→Only H→SqL (K w.params) H a (ns.map V.int)→sp w [.ref a] H (fun v _=>v = .bl true) fun _ _ _=>False)
    (hCX:∀ (w:World) (H:Hp) (s:Shared) (e:Value) (s' : Shared),CX w [] H s (fun _ _ _=>False) e s' → False) :
    PySem.W.WalkO q loose XP YP l.row.toRowW d [] (fun f vs=>PySem.call f vs):=by
  refine Att.attach_call hn hdf fun w s₀ s₁ mg mb fa o pm cd doc a vs ns G Y ho hd hcd hmg hobj hints hlen hg => ?_
  have KX:=hY w _ Y
  obtain⟨fd,hb,hF⟩:=F w mg fa _ KX G.T.g hmg
  exact z6u KX G.T.g G.T.b G.T.builtins G.T.nolimit hg hobj hints (Nat.le_trans hlen hn2) hr hF hb (fun H hO hS=>hsp w H a ns hlen hO hS) fun H e s' => hCX w H s₁ e s'
end L2
namespace L2
open PySem PySem.Spec PyProof.Rows
def inClass (s:Stmt) (j:Nat):Stmt:=match s with
  | .ClassDef _ _ _ body _ _ _ _ _ _ _=>body.getD j (.Pass ⟨0,0,0,0⟩)
  | _ => .Pass ⟨0,0,0,0⟩
def defArgs (s:Stmt):Arguments:=match s with
  | .FunctionDef _ a _ _ _ _ _ _ _ _=>a
  | _ => { posonlyargs := [],args := [],vararg:=none,kwonlyargs := [],kw_defaults := [],kwarg:=none,defaults := [] }
def defBody (s:Stmt):List Stmt:=match s with
  | .FunctionDef _ _ b _ _ _ _ _ _ _=>b
  | _ => []
def defScope (s:Stmt):Scope:=match s with
  | .FunctionDef _ _ _ _ _ _ sc _ _ _=>sc
  | _ => { kind := .function,names := [],isGenerator:=false,isCoroutine:=false }
abbrev CX0:CXT:=fun _ _ _ _ _ _=>False
abbrev E0:XK:=fun _ _ _=>False
theorem pass0 {X:Cx}:Passes CX0 X E0:=fun _ _ _ _ _ _ _ h=>h.elim
structure Fun (K:PySem.W.Frag) (x qual:Str) (st:Stmt) (f:Addr) (fd:FuncData):Prop where
  ex:∃ (oc:Value) (od:Option Addr) (kV doc pm:Value) (an:Option Addr) (cdv ct:Value) (osl:Array (Option Value)),
    fd=PySem.W.fnOf x qual (defArgs st) (defBody st) (defScope st) .none kV doc pm an cdv ct∧K.lookup f=some ⟨oc,od,.func fd,osl⟩∧PySem.W.codeIn K cdv qual=true
  kp:PySem.W.keepIn K (.ref f)=true
section
variable {P:Program} {w:World} {K:PySem.W.Frag} {mg:Str→Option Value} {base:Heap}
theorem Fun.ok {x qual:Str} {st:Stmt} {f:Addr} {fd:FuncData} {N ps:List Str} {k:Nat} {sp:Sp} (F:Fun K x qual st f fd) (S:FnScope N ps (defScope st)) (len:∀ vs H Q E,sp vs H Q E→vs.length=ps.length)
    (hbody:∀ (cdv:Value) (A:Around) (outer:List Env) (s:Shared) (H:Hp) (vs:List V) (Q:VK) (E:XK),Room k (A.deeper (envOfC qual (defScope st) s.heap.objs.size f cdv))→sp vs H Q E →
      ∃ t,PSs (cxOf CX0 P w K mg base N qual (defScope st) f cdv A outer s H E).nox (defBody st) t∧t { nx:=fun _ H' => Q .non H',rt:=Q } (start N vs) H):FnOk P w K mg base CX0 (k+1) f fd ps sp:=by
  obtain⟨oc,od,kV,doc,pm,an,cdv,ct,osl,rfl,lk,hcd⟩:=F.ex
  refine z9d lk hcd S len fun A outer s H vs Q E hr hsp => ?_
  obtain⟨t,h,q⟩:=hbody cdv A outer s H vs Q E hr hsp
  exact⟨t,h.nox,q⟩
theorem Fun.binds {x qual:Str} {st:Stmt} {f:Addr} {fd:FuncData} {ps:List Str} (F:Fun K x qual st f fd)
    (h:∀ (kV doc pm:Value) (an:Option Addr) (cdv ct:Value) (us:List Value),us.length=ps.length→bindArgs (PySem.W.fnOf x qual (defArgs st) (defBody st) (defScope st) .none kV doc pm an cdv ct) ⟨us,[]⟩=pure (ps.zip us)):Binds K fd ps []:=by
  obtain⟨oc,od,kV,doc,pm,an,cdv,ct,osl,rfl,lk,hcd⟩:=F.ex
  exact .all (h kV doc pm an cdv ct)
theorem q0z {x qual:Str} {st:Stmt} {f:Addr} {oc:Value} {od an:Option Addr} {osl:Array (Option Value)} {kV doc pm cdv ct:Value} (l:K.lookup f=some ⟨oc,od,.func (PySem.W.fnOf x qual (defArgs st) (defBody st) (defScope st) .none kV doc pm an cdv ct),osl⟩)
    (c:PySem.W.codeIn K cdv qual=true) (k:PySem.W.keepIn K (.ref f)=true):Fun K x qual st f (PySem.W.fnOf x qual (defArgs st) (defBody st) (defScope st) .none kV doc pm an cdv ct):=⟨⟨oc,od,kV,doc,pm,an,cdv,ct,osl,rfl,l,c⟩,k⟩
end
theorem q3q {A:Around} {k:Nat} (hr:Room k A):A.units+1<cLine:=Nat.lt_of_le_of_lt (Nat.add_le_add_left (by decide:1≤64) _) hr.units
section
variable {X:Cx}
theorem pv (i:Nat) {x:Str} {pos:Pos} (hN:X.N[i]? = some x:=by rfl) (hv:Vis X.env.scope x:=by first | exact Or.inl rfl | exact Or.inr (Or.inl rfl) | exact Or.inr (Or.inr rfl)) (hd:(x==("__debug__" : Str))=false:=by decide)
    (hcd:(x==("__classdict__" : Str))=false:=by decide):PE X (.Name x pos) (tVar i):=pe_var hN hv hd hcd
end
theorem iteF {A B:Prop} (h:B):if false=true then A else B:=by
  rw [if_neg Bool.false_ne_true]
  exact h
theorem iteT {A B:Prop} (h:A):if true=true then A else B:=by
  rw [if_pos rfl]
  exact h
theorem ite2 {c A B:Prop} [Decidable c] (h1:c→A) (h2:¬ c→B):if c then A else B:=by
  by_cases h:c
  · rw [if_pos h]
    exact h1 h
  · rw [if_neg h]
    exact h2 h
def Same (H H' : Hp):Prop:=∀ b o,H b=some o→H' b=some o
theorem Same.refl (H:Hp):Same H H:=fun _ _ h=>h
theorem Same.trans {H H1 H2:Hp} (a:Same H H1) (b:Same H1 H2):Same H H2:=fun c o h=>b c o (a c o h)
theorem Same.free {H H' : Hp} (e:Same H H') {l:Addr} (h:H' l=Option.none):H l=Option.none:=by
  cases q:H l with
  | none=>rfl
  | some o =>
    rw [e l o q] at h
    cases h
theorem Same.seq {K:PySem.W.Frag} {H H' : Hp} {a:Addr} {xs:List V} (e:Same H H') (h:SqL K H a xs):SqL K H' a xs:=by
  rcases h with (h | ⟨o,h⟩) | h
  · exact .inl (.inl (e _ _ h))
  · exact .inl (.inr ⟨o,e _ _ h⟩)
  · exact .inr h
end L2
namespace L2
open PySem PySem.Spec PyProof.Rows
abbrev Caps:=List (Str×Nat)
def capV (σ:St):Caps→St
  | [] => []
  | (_,i)::r=>(σ[i]?).join::capV σ r
def CapOk (X:Cx) (scope:Scope):Caps→Prop
  | []=>True
  | (x,i)::r=>(X.N[i]? = some x∧scope.names.lookup x=some .free∧(X.env.scope.names.lookup x=some .cell∨X.env.scope.names.lookup x=some .free))∧CapOk X scope r
def cxComp (X:Cx) (N:List Str) (scope:Scope) (cl:List (Str×Addr)) (C:Addr) (fp:List Addr) (s:Shared) (H:Hp):Cx where
  prog:=X.prog
  w:=X.w
  K:=X.K
  mg:=X.mg
  base:=X.base
  A:=X.A
  N:=N
  s₀:=s
  H₀:=H
  env:=compEnvC scope cl C X.env
  outer:=X.stack
  stack:=X.stack
  ex:=fp
  fn:=fun _=>false
  calm:=X.calm
  pn := []
  xe:=fun _ _=>False
theorem z1y {env:Env} (names:List (Str×NameKind)) (hh:∀ x,(x,NameKind.free)∈names→∃ c,env.cells.lookup x=some c):∀ acc:List (Str×Addr),
    ∃ cl,(forIn names acc (fun (x:Str×NameKind) (r:List (Str×Addr))=>match x with
      | (name,kind)=>if (kind==NameKind.free)=true then do let a ← cellOf env name;pure (ForInStep.yield ((name,a)::r)) else pure (ForInStep.yield r)):Sem (List (Str×Addr)))=pure cl ∧
      (∀ x c,(x,c)∈cl→(x,c)∈acc∨env.cells.lookup x=some c)∧(∀ x,((x,NameKind.free)∈names∨∃ c,(x,c)∈acc)→∃ c,(x,c)∈cl):=by
  induction names with
  | nil=>intro acc;exact⟨acc,rfl,fun x c h => .inl h,fun x h=>h.elim (fun z=>nomatch z) id⟩
  | cons n r ih =>
    intro acc
    obtain⟨name,kind⟩:=n
    by_cases hk:kind=NameKind.free
    · subst hk
      obtain⟨c,hc⟩:=hh name List.mem_cons_self
      obtain⟨cl,e,h1,h2⟩:=ih (fun x hx=>hh x (List.mem_cons_of_mem _ hx)) ((name,c)::acc)
      refine⟨cl,?_,fun x d hd => ?_,fun x hx => ?_⟩
      · rw [List.forIn_cons]
        have:cellOf env name=pure c:=by unfold cellOf;rw [hc]
        simp only [beq_self_eq_true,if_true,this]
        exact e
      · rcases h1 x d hd with z | z
        · rcases List.mem_cons.mp z with z | z
          · cases z;exact .inr hc
          · exact .inl z
        · exact .inr z
      · refine h2 x ?_
        rcases hx with hx | ⟨d,hd⟩
        · rcases List.mem_cons.mp hx with z | z
          · cases z;exact .inr ⟨c,List.mem_cons_self⟩
          · exact .inl z
        · exact .inr ⟨d,List.mem_cons_of_mem _ hd⟩
    · obtain⟨cl,e,h1,h2⟩:=ih (fun x hx=>hh x (List.mem_cons_of_mem _ hx)) acc
      refine⟨cl,?_,h1,fun x hx=>h2 x ?_⟩
      · rw [List.forIn_cons]
        have:(kind==NameKind.free)=false:=by simpa using hk
        simp only [this,Bool.false_eq_true,if_false]
        exact e
      · rcases hx with hx | hx
        · rcases List.mem_cons.mp hx with z | z
          · cases z;exact absurd rfl hk
          · exact .inl z
        · exact .inr hx
theorem q7r {cl:List (Str×Addr)} {x:Str} {c:Addr} (h:(x,c)∈cl):∃ d,cl.lookup x=some d:=by
  induction cl with
  | nil=>cases h
  | cons y r ih =>
    obtain⟨n,a⟩:=y
    cases e:x==n with
    | true=>exact⟨a,by simp only [List.lookup_cons,e]⟩
    | false =>
      rcases List.mem_cons.mp h with z | z
      · cases z;simp at e
      · obtain⟨d,hd⟩:=ih z;exact⟨d,by simp only [List.lookup_cons,e];exact hd⟩
theorem z1z {scope:Scope} {env:Env} (hh:∀ x,(x,NameKind.free)∈scope.names→∃ c,env.cells.lookup x=some c) :
    ∃ cl,closureFor scope env=pure cl∧(∀ x c,cl.lookup x=some c→env.cells.lookup x=some c)∧∀ x,(x,NameKind.free)∈scope.names→∃ c,cl.lookup x=some c:=by
  obtain⟨cl,e,h1,h2⟩:=z1y (env:=env) scope.names hh []
  refine⟨cl,?_,fun x c h => ?_,fun x hx => ?_⟩
  · unfold closureFor
    show (forIn scope.names [] _ >>= _:Sem (List (Str×Addr)))=pure cl
    have e2:=congrArg (fun m:Sem (List (Str×Addr))=>m >>= fun cs=>(pure cs:Sem _)) e
    exact e2
  · rcases h1 x c (PySem.mem_of_lookup h) with z | z
    · cases z
    · exact z
  · obtain⟨c,hc⟩:=h2 x (.inl hx)
    exact q7r hc
theorem q3r {env:Env} {k:NameKind} (hk:k = .cell∨k = .free):∀ {names:List (Str×NameKind)} {x:Str},(∀ y∈names,y.2 ≠ .cell) →
    (names.map fun (n,k)=>if (k==NameKind.free&&env.scope.kind == .function&&env.kindOf n==some .cell) then (n,NameKind.cell) else (n,k)).lookup x=some k→(x,NameKind.free)∈names
  | [],_,_,h=>by simp at h
  | (n,k')::r,x,hc,h=>by
    have ih := @q3r env k hk r x fun y hy=>hc y (List.mem_cons_of_mem _ hy)
    rw [List.map_cons] at h
    by_cases c:(k' == NameKind.free&&env.scope.kind == .function&&env.kindOf n==some .cell)=true
    · have h' : ((n,NameKind.cell)::r.map fun (n,k)=>if (k==NameKind.free&&env.scope.kind == .function&&env.kindOf n==some .cell) then (n,NameKind.cell) else (n,k)).lookup x=some k:=by
        have e:(if (k' == NameKind.free&&env.scope.kind == .function&&env.kindOf n==some .cell)=true then (n,NameKind.cell) else (n,k'))=(n,NameKind.cell):=if_pos c
        rw [← e];exact h
      cases e:x==n with
      | true =>
        have e' : x=n:=by simpa using e
        have:k' = .free:=by simp at c;exact c.1.1
        subst e' this
        exact List.mem_cons_self
      | false=>exact List.mem_cons_of_mem _ (ih (by simp only [List.lookup_cons,e] at h';exact h'))
    · have h' : ((n,k')::r.map fun (n,k)=>if (k==NameKind.free&&env.scope.kind == .function&&env.kindOf n==some .cell) then (n,NameKind.cell) else (n,k)).lookup x=some k:=by
        have e:(if (k' == NameKind.free&&env.scope.kind == .function&&env.kindOf n==some .cell)=true then (n,NameKind.cell) else (n,k'))=(n,k'):=if_neg c
        rw [← e];exact h
      cases e:x==n with
      | true =>
        simp only [List.lookup_cons,e] at h'
        have e' : x=n:=by simpa using e
        have h2:k' = k:=Option.some.inj h'
        subst h2
        rcases hk with hk | hk
        · exact absurd hk (hc (n,k') List.mem_cons_self)
        · subst hk e';exact List.mem_cons_self
      | false=>exact List.mem_cons_of_mem _ (ih (by simp only [List.lookup_cons,e] at h';exact h'))
theorem q5d {env:Env}:∀ {names:List (Str×NameKind)} {x:Str},names.lookup x=some .free →
    ((names.map fun (n,k)=>if (k==NameKind.free&&env.scope.kind == .function&&env.kindOf n==some .cell) then (n,NameKind.cell) else (n,k)).lookup x=some .cell ∨
     (names.map fun (n,k)=>if (k==NameKind.free&&env.scope.kind == .function&&env.kindOf n==some .cell) then (n,NameKind.cell) else (n,k)).lookup x=some .free)
  | [],_,h=>by simp at h
  | (n,k')::r,x,h=>by
    have ih := @q5d env r x
    rw [List.map_cons]
    by_cases c:(k' == NameKind.free&&env.scope.kind == .function&&env.kindOf n==some .cell)=true
    · have e:(if (k' == NameKind.free&&env.scope.kind == .function&&env.kindOf n==some .cell)=true then (n,NameKind.cell) else (n,k'))=(n,NameKind.cell):=if_pos c
      show (List.lookup x ((if (k' == NameKind.free&&env.scope.kind == .function&&env.kindOf n==some .cell)=true then (n,NameKind.cell) else (n,k'))::_)=_∨List.lookup x ((if (k' == NameKind.free&&env.scope.kind == .function&&env.kindOf n==some .cell)=true then (n,NameKind.cell) else (n,k'))::_)=_)
      rw [e]
      cases ex:x==n with
      | true=>left;simp only [List.lookup_cons,ex]
      | false =>
        simp only [List.lookup_cons,ex] at h ⊢
        exact ih h
    · have e:(if (k' == NameKind.free&&env.scope.kind == .function&&env.kindOf n==some .cell)=true then (n,NameKind.cell) else (n,k'))=(n,k'):=if_neg c
      show (List.lookup x ((if (k' == NameKind.free&&env.scope.kind == .function&&env.kindOf n==some .cell)=true then (n,NameKind.cell) else (n,k'))::_)=_∨List.lookup x ((if (k' == NameKind.free&&env.scope.kind == .function&&env.kindOf n==some .cell)=true then (n,NameKind.cell) else (n,k'))::_)=_)
      rw [e]
      cases ex:x==n with
      | true =>
        simp only [List.lookup_cons,ex] at h
        cases h
        right;simp only [List.lookup_cons,ex]
      | false =>
        simp only [List.lookup_cons,ex] at h ⊢
        exact ih h
end L2
namespace L2
open PySem PySem.Spec PyProof.Rows
theorem q5x (σ:St):∀ caps:Caps,(capV σ caps).length=caps.length
  | []=>rfl
  | (_,_)::r=>congrArg (· + 1) (q5x σ r)
theorem z0o {X:Cx} {scope:Scope} {σ:St}:∀ {caps:Caps} {j:Nat} {x:Str} {v:V},CapOk X scope caps→(caps.map (·.1))[j]? = some x→(capV σ caps)[j]? = some (some v) →
    ∃ i:Nat,X.N[i]? = some x∧σ[i]? = some (some v)∧scope.names.lookup x=some .free∧(X.env.scope.names.lookup x=some .cell∨X.env.scope.names.lookup x=some .free)
  | [],_,_,_,_,h,_=>by simp at h
  | (y,i)::r,0,x,v,hc,h1,h2=>by
    simp at h1;subst h1
    have e:(σ[i]?).join=some v:=by simpa [capV] using h2
    refine⟨i,hc.1.1,?_,hc.1.2⟩
    cases q:σ[i]? with
    | none=>rw [q] at e;cases e
    | some z=>rw [q] at e;exact congrArg some e
  | (y,i)::r,j+1,x,v,hc,h1,h2=>z0o (caps:=r) (j:=j) hc.2 (by simpa using h1) (by simpa [capV] using h2)
def tg0 (tg:List Str) (σ:St) (caps:Caps):St:=tg.map (fun _=>none)++capV σ caps
theorem Inv.ofcomp {X:Cx} {pins:List (Addr×Obj)} {σ:St} {H:Hp} {s:Shared} {scope:Scope} {cl:List (Str×Addr)} {C:Addr} {fp:List Addr} {h₁:Heap} {m:Str→Option Value} {tk:Nat} {caps:Caps} (tg:List Str)
    (I:Inv X pins σ H s) (hkind:scope.kind = .function) (hnc:∀ y∈scope.names,y.2 ≠ .cell) (hc1:∀ x c,cl.lookup x=some c→X.env.cells.lookup x=some c) (hc2:∀ x,(x,NameKind.free)∈scope.names→∃ c,cl.lookup x=some c)
    (hf:∀ b∈fp,FpOk X pins H b) (hfo:∀ b∈fp,∃ o,s.heap.get? b=some o) (hC:s.heap.objs.size≤C) (hns:h₁.Ns C m) (hk:∀ b o,s.heap.get? b=some o→h₁.get? b=some o) (co:CapOk X scope caps) :
    Inv (cxComp X (tg++caps.map (·.1)) scope cl C fp s H) [] (tg0 tg σ caps) H { s with heap:=h₁,toks:=tk }:=by
  have hfs:∀ b∈fp,b∉frs X.stack:=fun b hb hx=>by
    rcases List.mem_cons.mp (I.stkSub b hx) with z | z
    · exact (hf b hb).2.1 z
    · exact (hf b hb).2.2.1 z
  have ok:(cxComp X (tg++caps.map (·.1)) scope cl C fp s H).Ok:=by
    refine⟨I.ok.mod,hkind,I.ok.glob,I.ok.blt,hC,fun x y c h1 h2=>I.ok.inj x y c (hc1 x c h1) (hc1 y c h2),fun x hx => ?_,fun x c h=>(nomatch h),I.ok.hd,I.ok.frames,.inl rfl,fun b hb=>⟨?_,fun x c h=>(hf b hb).2.2.2.2.1 x c (hc1 x c h)⟩,
      I.bs,Nat.le_trans I.ok.bsz I.sz,fun b o e hb => ?_,hfs,I.stack,I.stkFree⟩
    · rcases hx with hx | hx
      · exact hc2 x (q3r (.inl rfl) hnc hx)
      · exact hc2 x (q3r (.inr rfl) hnc hx)
    · obtain⟨o,e⟩:=hfo b hb
      exact Nat.ne_of_lt (Nat.lt_of_lt_of_le (Heap.lt_size e) hC)
    · rcases (hf b hb).2.2.2.1 with z | z
      · exact I.ok.noex b o e z
      · exact absurd (Nat.lt_of_lt_of_le (Heap.lt_size (I.ok.bs b o e).1) z) (Nat.lt_irrefl _)
  refine⟨ok,rfl,I.bare,Un.kept hk,⟨m,hns,fun j x v h1 h2 h3 => ?_⟩,fun x c h => ?_,I.hok.fresh hC,fun x c h=>I.freeC x c (hc1 x c h),fun p hp=>(nomatch hp),I.hok.kept hk,?_⟩
  · have h1' : (tg++caps.map (·.1))[j]? = some x:=h1
    have h2' : (tg.map (fun _=>none)++capV σ caps)[j]? = some (some v):=h2
    by_cases hj:j<tg.length
    · rw [List.getElem?_append_left (by simpa using hj),List.getElem?_map] at h2'
      cases e:tg[j]? with
      | none=>rw [e] at h2';cases h2'
      | some z=>rw [e] at h2';cases h2'
    · rw [List.getElem?_append_right (by simpa using hj)] at h2' h1'
      rw [List.length_map] at h2'
      obtain⟨i,e1,e2,e3,e4⟩:=z0o co h1' h2'
      obtain⟨mX,hn,hl⟩:=I.loc
      obtain⟨u,r,l⟩:=hl i x v e1 e2 (.inr e4)
      refine⟨u,r,?_⟩
      have key:∃ c,X.env.cells.lookup x=some c∧s.heap.IsCell c (some u):=by
        rcases l with ⟨k,_⟩ | ⟨_,c,e,z⟩
        · have k' : X.env.scope.names.lookup x=some .local:=k
          rcases e4 with e4 | e4 <;> · rw [e4] at k';cases k'
        · exact⟨c,e,z⟩
      obtain⟨c,ec,o,ho,hd⟩:=key
      obtain⟨d,ed⟩:=hc2 x (PySem.mem_of_lookup e3)
      have hdc:d=c:=Option.some.inj ((hc1 x d ed).symm.trans ec)
      subst hdc
      exact .inr ⟨q5d e3,d,ed,o,hk _ o ho,hd⟩
  · obtain⟨v,o,ho,hd⟩:=I.cell x c (hc1 x c h)
    exact⟨v,o,hk _ o ho,hd⟩
  · show (tg.map (fun _=>(none:Option V))++capV σ caps).length=(tg++caps.map (·.1)).length
    rw [List.length_append,List.length_append,List.length_map,List.length_map,q5x]
def PIfs (X:Cx) (ifs:List Expr) (t:TT):Prop :=
  ∀ (pins:List (Addr×Obj)) (s:Shared) (σ:St) (H:Hp) (Q:Bool→Hp→Prop),Inv X pins σ H s→t σ H Q →
    wpAny (model X.prog X.w) X.A (forIn ifs true fun c r=>if r=true then do let ok ← isTrue c X.env (eval c X.env);pure (ForInStep.yield ok) else pure (ForInStep.yield r)) (TP X pins σ Q) X.xe s
def tIf0:TT:=fun _ H Q=>Q true H
theorem q9v {X:Cx}:PIfs X [] tIf0:=fun pins s σ H Q I h=>wpAny_tests_nil ⟨H,I,h⟩
theorem q7s {X:Cx} {c:Expr} {t:TT} (h:PT X c t):PIfs X [c] t:=fun pins s σ H Q I q=>wpAny_tests_one (h pins s σ H Q I q)
def Keeps0 (σ0 σ2:St):Prop:=σ0.length=σ2.length∧∀ (i:Nat) v,σ0[i]? = some (some v)→σ2[i]? = some (some v)
def CompW (J:It) (g:TG) (tt:TT) (te:TE) (σ0:St) (D:Addr) (Fin:List V→Hp→Prop) (H1:Hp):Prop :=
  ∃ W:Nat→Nat→List V→Hp→Prop,(∃ m,W 0 m [] (upd H1 D (.lst [])))∧∀ i m ys H,W i m ys H→H D=some (.lst ys) ∧
    ((J.stop i H∧Fin ys H)∨(J.go i H∧∃ N:List V→Hp→Prop,(∀ zs H',N zs H' → ∃ m',m' < m∧W (i+1) m' zs H')∧∀ x H',J.yld i H x H' → g x σ0 H' fun σ2 H2=>Keeps0 σ0 σ2∧tt σ2 H2 fun b H3 =>
      if b=true then te σ2 H3 fun v H4=>H4 D=some (.lst ys)∧ys.length<sizeLine∧N (ys ++ [v]) (upd H4 D (.lst (ys ++ [v])))
      else N ys H3))
theorem z3p (elt target iter:Expr) (ifs:List Expr) (scope:Scope) (pos:Pos) (it acc:Value) (env:Env) :
    compTurn (.ListComp elt [⟨target,iter,ifs,0⟩] scope pos) 0 it acc env=(standAt iter.pos >>= fun _=>pyNext it >>= fun r=>match r with
      | none=>pure (.done .next)
      | some v=>letOwnedTupleGo target it v >>= fun _=>assign target env v >>= fun _ =>
        (forIn ifs true fun c r=>if r=true then do let ok ← isTrue c env (eval c env);pure (ForInStep.yield ok) else pure (ForInStep.yield r)) >>= fun ok =>
        if ok=true then (eval elt env >>= fun x=>call (.builtin "list.append") [acc,x] >>= fun _=>pure ()) >>= fun _ =>
          again (.compLoop (.ListComp elt [⟨target,iter,ifs,0⟩] scope pos) 0 it acc env)
        else again (.compLoop (.ListComp elt [⟨target,iter,ifs,0⟩] scope pos) 0 it acc env)):=by
  rw [compTurn_list]
  rfl
theorem z0p {X:Cx} {pins:List (Addr×Obj)} {σ:St} {H1:Hp} {s₂:Shared} {scope:Scope} {cl:List (Str×Addr)} {fp:List Addr} {it:Addr} {tn:Nat→Heap→Prop} {J:It} {caps:Caps} {tg:List Str}
    {elt target iter:Expr} {ifs:List Expr} {pos:Pos} {g:TG} {tt:TT} {te:TE} {E:Value→Shared→Prop} {Fin:Addr→List V→Hp→Prop} {RR:Value→Addr→Result→Shared→Prop}
    (hc:X.calm=true) (hkind:scope.kind = .function) (hnc:∀ y∈scope.names,y.2 ≠ .cell) (hc1:∀ x c,cl.lookup x=some c→X.env.cells.lookup x=some c) (hc2:∀ x,(x,NameKind.free)∈scope.names→∃ c,cl.lookup x=some c)
    (co:CapOk X scope caps)
    (hg:∀ C s H,PG (cxComp X (tg++caps.map (·.1)) scope cl C fp s H) target g) (ht:∀ C s H,PIfs (cxComp X (tg++caps.map (·.1)) scope cl C fp s H) ifs tt) (he:∀ C s H,PE (cxComp X (tg++caps.map (·.1)) scope cl C fp s H) elt te)
    (I2:Inv X pins σ H1 s₂) (T:Turn X.prog X.w X.K target J fp it tn) (st:tn 0 s₂.heap) (hf:∀ b∈fp,FpOk X pins H1 b)
    (hw:∀ D,H1 D=none→CompW J g tt te (tg0 tg σ caps) D (Fin D) H1)
    (hRR:∀ D C ys H' s',H1 D=none→Inv X pins σ H' s' → (∃ m,s'.heap.Ns C m)→FpOk X pins H' C→Fin D ys H' → RR (.ref D) C (.ok .next) s') :
    wpAny (model X.prog X.w) X.A (newList []) (fun acc s₃=>wpAny (model X.prog X.w) X.A (newFunctionEnv scope X.env.globals cl [] X.env.qual none .none (some X.env)) (fun cenv s₄ =>
      codeAny (model X.prog X.w) X.A (.compStart (.ListComp elt [⟨target,iter,ifs,0⟩] scope pos) 0 (.ref it) acc { cenv with scope:=relabel scope X.env }) (RR acc cenv.locals) s₄) E s₃) E s₂:=by
  have I3:Inv X pins σ (upd H1 s₂.heap.objs.size (.lst [])) { s₂ with heap:=s₂.heap.push { cls := .type "list",dict:=none,data := .seq ([]:List Value).toArray },toks:=s₂.toks }:=I2.lnew (its := []) .nil (Nat.zero_le _)
  have hD0:H1 s₂.heap.objs.size=none:=I2.fresh
  refine wpAny_newObj_type (wpAny_newFunctionEnv hnc (by intro y hy;simp at hy) (fun h₁ hns₁ hsb₁ => ?_) hkind)
  dsimp only at hns₁ hsb₁ ⊢
  generalize hDd:s₂.heap.objs.size=D at I3 hD0 hns₁ hsb₁ ⊢
  generalize hs3:({ s₂ with heap:=s₂.heap.push { cls := .type "list",dict:=none,data := .seq ([]:List Value).toArray } }:Shared)=s₃ at I3 hns₁ hsb₁ ⊢
  have e3:s₂.heap.push { cls := .type "list",dict:=none,data := .seq ([]:List Value).toArray }=s₃.heap:=by rw [← hs3]
  have o3:({ s₂ with heap:=h₁,toks:=s₂.toks+([]:List (Str×Value)).length }:Shared) = { s₃ with heap:=h₁,toks:=s₂.toks }:=by rw [← hs3];rfl
  have size3:s₃.heap.objs.size=D+1:=by rw [← e3,Heap.size_push,hDd]
  rw [e3] at hns₁ hsb₁ ⊢
  have old3:∀ b o,s₂.heap.get? b=some o→s₃.heap.get? b=some o:=fun b o e=>by rw [← e3];exact Heap.get?_push_of_some _ e
  generalize hCd:s₃.heap.objs.size=C at hns₁ hsb₁ ⊢
  have hk:∀ b o,s₃.heap.get? b=some o→h₁.get? b=some o:=fun b o e=>hsb₁.extBut b o (by rw [← hCd];exact Nat.ne_of_lt (Heap.lt_size e)) (Heap.get?_push_of_some _ e)
  have fpo:∀ b∈fp,∃ o,s₂.heap.get? b=some o:=fun b hb=>by obtain⟨o,e,_⟩:=T.obj 0 _ st b hb;exact⟨o,e⟩
  have fpne:∀ b∈fp,b≠D:=fun b hb=>by obtain⟨o,e⟩:=fpo b hb;rw [← hDd];exact Nat.ne_of_lt (Heap.lt_size e)
  have hf3:∀ b∈fp,FpOk X pins (upd H1 D (.lst [])) b:=fun b hb=>⟨by rw [q0c (fpne b hb)];exact (hf b hb).1,(hf b hb).2⟩
  have IY:=Inv.ofcomp (tk:=s₂.toks) tg I3 hkind hnc hc1 hc2 hf3 (fun b hb=>let ⟨o,e⟩:=fpo b hb;⟨o,old3 b o e⟩) (Nat.le_of_eq hCd) hns₁ hk co
  have FC:FpOk X pins H1 C:=by
    have z:=I3.fpOk (b:=C) (H' := H1) (Nat.le_of_eq hCd) (I2.hok.fresh (by rw [hDd,← hCd,size3];exact Nat.le_succ _))
    exact z
  generalize hY:cxComp X (tg++caps.map (·.1)) scope cl C fp s₃ (upd H1 D (.lst []))=Y at IY
  have hgY:PG Y target g:=by rw [← hY];exact hg _ _ _
  have htY:PIfs Y ifs tt:=by rw [← hY];exact ht _ _ _
  have heY:PE Y elt te:=by rw [← hY];exact he _ _ _
  have hYp:Y.prog=X.prog:=by rw [← hY];rfl
  have hYw:Y.w=X.w:=by rw [← hY];rfl
  have hYK:Y.K=X.K:=by rw [← hY];rfl
  have hYA:Y.A=X.A:=by rw [← hY];rfl
  have hYe:Y.env=compEnvC scope cl C X.env:=by rw [← hY];rfl
  have hYx:Y.ex=fp:=by rw [← hY];rfl
  have hYn:Y.pn = []:=by rw [← hY];rfl
  have hYc:Y.calm=true:=by rw [← hY];exact hc
  have hYxe:Y.xe=fun _ _=>False:=by rw [← hY];rfl
  have fpY:∀ {H' : Hp},(∀ b∈fp,H' b=none)→∀ b∈fp,FpOk Y [] H' b:=fun {H'} hn b hb=>by
    refine⟨hn b hb,?_,?_,.inl (by rw [hYx];exact hb),fun x c e => ?_,fun p hp => ?_⟩
    · have:=(IY.ok.exf b (by rw [hYx];exact hb)).1;exact this
    · exact IY.ok.exfs b (by rw [hYx];exact hb)
    · exact (IY.ok.exf b (by rw [hYx];exact hb)).2 x c e
    · rw [hYn] at hp;cases hp
  obtain⟨W,⟨m0,w0⟩,turn⟩:=hw D hD0
  have stY:tn 0 h₁:=T.keep 0 _ _ st fun b hb o e=>hk b o (old3 b o e)
  have back:∀ {H' : Hp} {s' : Shared} {σ' : St},Inv Y [] σ' H' s' → Inv X pins σ H' s' := fun {H' s' σ'} IE=>by
    have hun:=IE.base
    have hos:=IE.os
    rw [← hY] at hun hos
    exact I3.call' (ch:=fp) hos hun (by have z:=IE.hok;rw [hYp,hYw] at z;exact z) IE.bare fun b hb=>⟨(hf b hb).2.2.2.1,(hf b hb).2.1,(hf b hb).2.2.2.2.1,(hf b hb).2.2.2.2.2⟩
  have gY:∀ pins s σ H v u Q (E' : Value→Shared→Prop),Inv Y pins σ H s→RelV v u→g v σ H Q→wpAny (model X.prog X.w) X.A (assign target (compEnvC scope cl C X.env) u) (fun _ s' => ∃ σ' H',Inv Y pins σ' H' s' ∧ Q σ' H') E' s:=fun pins s σ H v u Q E' IE r q=>by
    have z:=hgY pins s σ H v u Q IE r q
    rw [hYp,hYw,hYA,hYe,hYxe] at z
    exact wpAny_mono z (fun _ _ x=>x) fun _ _ f=>f.elim
  have tY:∀ pins s σ H Q (E' : Value→Shared→Prop),Inv Y pins σ H s→tt σ H Q→wpAny (model X.prog X.w) X.A (forIn ifs true fun c r=>if r=true then do let ok ← isTrue c (compEnvC scope cl C X.env) (eval c (compEnvC scope cl C X.env));pure (ForInStep.yield ok) else pure (ForInStep.yield r)) (TP Y pins σ Q) E' s:=fun pins s σ H Q E' IE q=>by
    have z:=htY pins s σ H Q IE q
    rw [hYp,hYw,hYA,hYe,hYxe] at z
    exact wpAny_mono z (fun _ _ x=>x) fun _ _ f=>f.elim
  have eY:∀ pins s σ H Q (E' : Value→Shared→Prop),Inv Y pins σ H s→te σ H Q→wpAny (model X.prog X.w) X.A (eval elt (compEnvC scope cl C X.env)) (EP Y pins σ Q) E' s:=fun pins s σ H Q E' IE q=>by
    have z:=heY pins s σ H Q IE q
    rw [hYp,hYw,hYA,hYe,hYxe] at z
    exact wpAny_mono z (fun _ _ x=>x) fun _ _ f=>f.elim
  have aY:∀ pins s σ H ys v u Q (E' : Value→Shared→Prop),Inv Y pins σ H s→RelV v u→H D=some (.lst ys)→ys.length<sizeLine→Q .non (upd H D (.lst (ys ++ [v])))→wpAny (model X.prog X.w) X.A (call (.builtin "list.append") [.ref D,u]) (EP Y pins σ Q) E' s:=fun pins s σ H ys v u Q E' IE r hH hz q=>by
    have z:=q2z (X:=Y) pins s σ H (.ref D) [v] (.ref D) [u] Q IE rfl (.cons r .nil) ⟨D,ys,v,rfl,rfl,hH,hz,q⟩
    rw [hYp,hYw,hYA,hYxe] at z
    exact wpAny_mono z (fun _ _ x=>x) fun _ _ f=>f.elim
  have tiY:∀ i pins s σ H (E' : Value→Shared→Prop),Inv Y pins σ H s→(∀ b∈fp,FpOk Y pins H b)→tn i s.heap→J.go i H →
      wpAny (model X.prog X.w) X.A (pyNext (.ref it)) (fun r s1=>∃ u,r=some u ∧
        wpAny (model X.prog X.w) X.A (letOwnedTupleGo target (.ref it) u) (fun _ s2=>∃ x H',Inv Y pins σ H' s2∧RelV x u∧J.yld i H x H' ∧ tn (i+1) s2.heap∧∀ b∈fp,H' b=none) E' s1) E' s:=fun i pins s σ H E' IE hfy st go=>by
    have z:=T.item Y hYp hYw hYK hYc i pins s σ H E' IE hfy st go
    rw [hYA] at z
    exact z
  have tdY:∀ i pins s σ H (E' : Value→Shared→Prop),Inv Y pins σ H s→(∀ b∈fp,FpOk Y pins H b)→tn i s.heap→J.stop i H →
      wpAny (model X.prog X.w) X.A (pyNext (.ref it)) (fun r s1=>r=none∧Inv Y pins σ H s1) E' s:=fun i pins s σ H E' IE hfy st go=>by
    have z:=T.done Y hYp hYw hYK hYc i pins s σ H E' IE hfy st go
    rw [hYA] at z
    exact z
  have loop:codeAny (model X.prog X.w) X.A (.compLoop (.ListComp elt [⟨target,iter,ifs,0⟩] scope pos) 0 (.ref it) (.ref D) (compEnvC scope cl C X.env)) (RR (.ref D) C) { s₃ with heap:=h₁,toks:=s₂.toks }:=by
    refine codeAny_loop rfl (fun n s' => ∃ i ys H',Inv Y [] (tg0 tg σ caps) H' s' ∧ tn i s'.heap∧(∀ b∈fp,H' b=none)∧W i n ys H') ?_ m0 ⟨0,[],_,IY,stY,fun b hb=>(hf3 b hb).1,w0⟩
    rintro n s4 ⟨i,ys,H4,I4,st4,fr4,w4⟩
    show wpAny _ _ ((compTurn (.ListComp elt [⟨target,iter,ifs,0⟩] scope pos) 0 (.ref it) (.ref D) (compEnvC scope cl C X.env)).onRaise (fun x=>do noteFrame x (compEnvC scope cl C X.env);theTreesLotGoes x)) _ _ s4
    refine wpAny_noted ?_
    rw [z3p]
    obtain⟨hHD,alt⟩:=turn i n ys H4 w4
    rcases alt with ⟨stop,fin⟩ | ⟨go,N,hN,step⟩
    · refine wpAny_bind (wpAny_standAt (wpAny_bind (thn (tdY i [] s4 _ H4 _ I4 (fpY fr4) st4 stop) fun r s5 ⟨hr,I5⟩ => ?_)))
      subst hr
      refine wpAny_pure (hRR D C ys H4 s5 hD0 (back I5) ?_ ⟨?_,FC.2⟩ fin)
      · obtain⟨m,hm,_⟩:=I5.loc
        rw [hYe] at hm
        exact⟨m,hm⟩
      · have z:=I5.free
        rw [hYe] at z
        exact z
    · refine wpAny_bind (wpAny_standAt (wpAny_bind (thn (tiY i [] s4 _ H4 _ I4 (fpY fr4) st4 go) fun r s5 ⟨u,hr,h5⟩ => ?_)))
      subst hr
      refine wpAny_bind (thn h5 fun _ s6 ⟨x,H6,I6,r6,y6,st6,fr6⟩ => ?_)
      have I6' := I6.pinned (fpY fr6) (T.obj _ _ st6)
      refine wpAny_bind (thn (gY _ s6 _ H6 x u _ _ I6' r6 (step x H6 y6)) fun _ s7 ⟨σ7,H7,I7,kp,q7⟩ => ?_)
      refine wpAny_bind (thn (tY _ s7 σ7 H7 _ _ I7 q7) fun b s8 ⟨H8,I8,q8⟩ => ?_)
      have again:∀ {H9:Hp} {s9:Shared} {zs:List V} {m' : Nat},Inv Y ([]++pinsAt fp s6.heap) σ7 H9 s9→m' < n→W (i+1) m' zs H9→∃ m,m<n∧∃ i ys H',Inv Y [] (tg0 tg σ caps) H' s9∧tn i s9.heap∧(∀ b∈fp,H' b=none)∧W i m ys H' := fun {H9 s9 zs m'} I9 hm w9=>by
        refine⟨m',hm,i+1,zs,H9,I9.unpinned.weak kp.1 kp.2,T.keep _ _ _ st6 fun b hb o e=>(I9.pin (b,o) (List.mem_append_right _ (List.mem_append_right _ (q1z hb e)))).1,fun b hb => ?_,w9⟩
        obtain⟨o,e,d⟩:=T.obj _ _ st6 b hb
        exact (I9.pin (b,o) (List.mem_append_right _ (List.mem_append_right _ (q1z hb e)))).2.1
      cases b with
      | true =>
        rw [if_pos rfl] at q8
        simp only [if_true]
        refine wpAny_bind (wpAny_bind (thn (eY _ s8 σ7 H8 _ _ I8 q8) fun v s9 ⟨vv,H9,I9,r9,hH9,hz9,n9⟩ => ?_))
        obtain⟨m',hm',w9⟩:=hN _ _ n9
        refine wpAny_bind (thn (aY _ s9 σ7 H9 ys vv v (fun _ H10=>W (i+1) m' (ys ++ [vv]) H10) _ I9 r9 hH9 hz9 w9) fun _ s10 ⟨_,H10,I10,_,w10⟩ => ?_)
        exact wpAny_pure (wpAny_pure ⟨rfl,again I10 hm' w10⟩)
      | false =>
        rw [if_neg Bool.false_ne_true] at q8
        obtain⟨m',hm',w8⟩:=hN _ _ q8
        simp only [Bool.false_eq_true,if_false]
        exact wpAny_pure ⟨rfl,again I8 hm' w8⟩
  rw [o3]
  exact codeAny_compStart_list loop (T.self _ 0 _ _ _ stY loop)
end L2
namespace L2
open PySem PySem.Spec PyProof.Rows
def isCF (k:Option NameKind):Bool:=k==some .cell||k==some .free
def capChk (N:List Str) (names outer:List (Str×NameKind)):Caps→Bool
  | []=>true
  | (x,i)::r=>decide (N[i]? = some x)&&(names.lookup x==some .free)&&isCF (outer.lookup x)&&capChk N names outer r
def compChk (N:List Str) (outer scope:Scope) (caps:Caps):Bool :=
  (scope.kind == .function)&&(scope.names.all fun y=>y.2 != .cell&&(y.2 != .local||scope.names.lookup y.1==some .local)&&(y.2 != .free||isCF (outer.names.lookup y.1)))&&capChk N scope.names outer.names caps
theorem z3q {k:Option NameKind} (h:isCF k=true):k=some .cell∨k=some .free:=by
  unfold isCF at h
  simpa using h
theorem q8t {X:Cx} {scope:Scope}:∀ {caps:Caps},capChk X.N scope.names X.env.scope.names caps=true→CapOk X scope caps
  | [],_=>trivial
  | (x,i)::r,h=>by
    unfold capChk at h
    simp only [Bool.and_eq_true] at h
    obtain⟨⟨⟨h1,h2⟩,h3⟩,h4⟩:=h
    exact⟨⟨of_decide_eq_true h1,by simpa using h2,z3q h3⟩,q8t h4⟩
theorem q4m {X:Cx} {scope:Scope} {caps:Caps} (h:compChk X.N X.env.scope scope caps=true) :
    scope.kind = .function∧(∀ y∈scope.names,y.2 ≠ .cell)∧(∀ y∈scope.names,y.2 = .local→scope.names.lookup y.1=some .local)∧(∀ x,(x,NameKind.free)∈scope.names→X.env.scope.names.lookup x=some .cell∨X.env.scope.names.lookup x=some .free)∧CapOk X scope caps:=by
  unfold compChk at h
  simp only [Bool.and_eq_true,List.all_eq_true] at h
  obtain⟨⟨h1,h2⟩,h3⟩:=h
  refine⟨by simpa using h1,fun y hy e => ?_,fun y hy e => ?_,fun x hx => ?_,q8t h3⟩
  · have z:=(h2 y hy).1.1
    rw [e] at z;simp at z
  · have z:=(h2 y hy).1.2
    rw [e] at z;simpa using z
  · have z:=(h2 _ hx).2
    exact z3q (by simpa using z)
def tComp (wi:TI) (g:TG) (tt:TT) (te:TE) (tg:List Str) (caps:Caps):TE:=fun σ H Q=>wi σ H fun J H1=>∀ D,H1 D=none→CompW J g tt te (tg0 tg σ caps) D (fun _ H' => Q (.ref D) H') H1
section
variable {X:Cx} {iter target elt:Expr} {ifs:List Expr} {scope:Scope} {pos:Pos} {wi:TI} {g:TG} {tt:TT} {te:TE}
theorem q9w {pins:List (Addr×Obj)} {σ:St} {H:Hp} {s:Shared} (I:Inv X pins σ H s) (hfree:∀ x,(x,NameKind.free)∈scope.names→X.env.scope.names.lookup x=some .cell∨X.env.scope.names.lookup x=some .free) :
    ∃ cl,closureFor scope X.env=pure cl∧(∀ x c,cl.lookup x=some c→X.env.cells.lookup x=some c)∧∀ x,(x,NameKind.free)∈scope.names→∃ c,cl.lookup x=some c :=
  z1z fun x hx=>I.ok.has x (hfree x hx)
theorem q5l (tg:List Str) (caps:Caps) (hc:X.calm=true) (hi:PI X target iter wi)
    (hg:∀ cl C fp s H,PG (cxComp X (tg++caps.map (·.1)) scope cl C fp s H) target g) (ht:∀ cl C fp s H,PIfs (cxComp X (tg++caps.map (·.1)) scope cl C fp s H) ifs tt) (he:∀ cl C fp s H,PE (cxComp X (tg++caps.map (·.1)) scope cl C fp s H) elt te)
    (hk:compChk X.N X.env.scope scope caps=true:=by rfl) (hs:∀ x,foldedSetIterable iter X.env x=pure x:=by intro _;rfl) :
    PE X (.ListComp elt [⟨target,iter,ifs,0⟩] scope pos) (tComp wi g tt te tg caps):=by
  intro pins s σ H Q I h
  obtain⟨hkind,hnc,hnames,hfree,co⟩:=q4m hk
  obtain⟨cl,hclos,hc1,hc2⟩:=q9w I hfree
  rw [eval_ListComp]
  refine wpAny_comprehension_free (use:=none) rfl hs hclos hkind hnames (thn (hi pins s σ H _ I h) fun v s1 h1=>thn h1 fun itv s2 h2 => ?_)
  obtain⟨it,fp,tn,J,H2,e,I2,T,st2,f2,hw⟩:=h2
  subst e
  refine z0p (RR:=fun acc C=>compPost (model X.prog X.w) X.A X.xe none (EP X pins σ Q) acc C) (Fin:=fun D _ H' => Q (.ref D) H') hc hkind hnc hc1 hc2 co (fun C s H=>hg cl C fp s H) (fun C s H=>ht cl C fp s H) (fun C s H=>he cl C fp s H) I2 T st2 f2 hw ?_
  intro D C ys H' s' hD I' hm F fin
  obtain⟨m,hm⟩:=hm
  refine⟨m,hm,fun h' hsb=>⟨.ref D,H',I'.turned (t' := s'.toks) (fun b o hb e=>(hsb.2 b hb).trans e) F.1 F.2.1 F.2.2.2.1 F.2.2.2.2.1 F.2.2.2.2.2,rfl,fin⟩⟩
def tSetC (wi:TI) (g:TG) (tt:TT) (te:TE) (tg:List Str) (caps:Caps) (i:Nat):TS:=fun D' σ H=>wi σ H fun J H1=>∀ D,H1 D=none→CompW J g tt te (tg0 tg σ caps) D (fun _ H' => D'.nx (σ.set i (some (.ref D))) H') H1
theorem z3r {i:Nat} {y:Str} {py spos:Pos} (tg:List Str) (caps:Caps) (hN:X.N.Nodup) (hiN:X.N[i]? = some y) (hx:Loc X.env.scope y) (hc:X.calm=true) (hi:PI X target iter wi)
    (hg:∀ cl C fp s H,PG (cxComp X (tg++caps.map (·.1)) scope cl C fp s H) target g) (ht:∀ cl C fp s H,PIfs (cxComp X (tg++caps.map (·.1)) scope cl C fp s H) ifs tt) (he:∀ cl C fp s H,PE (cxComp X (tg++caps.map (·.1)) scope cl C fp s H) elt te)
    (hk:compChk X.N X.env.scope scope caps=true:=by rfl) (hs:∀ x,foldedSetIterable iter X.env x=pure x:=by intro _;rfl)
    (hsw:swapsWith (.ListComp elt [⟨target,iter,ifs,0⟩] scope pos) (some (.Name y py)) spos.line X.env=pure true:=by rfl)
    (hf:X.fn y=true∨X.env.scope.names.lookup y=some .local:=by first | exact .inl rfl | exact .inr rfl | assumption) :
    PS X (.Assign [.Name y py] (.ListComp elt [⟨target,iter,ifs,0⟩] scope pos) spos) (tSetC wi g tt te tg caps i):=by
  intro pins s σ H D' I h
  obtain⟨hkind,hnc,hnames,hfree,co⟩:=q4m hk
  obtain⟨cl,hclos,hc1,hc2⟩:=q9w I hfree
  rw [exec_Assign_Name_used _ _ _ _ hsw]
  refine wpAny_bind (wpAny_standAt (wpAny_bind ?_))
  show wpAny _ X.A (do let _ ← comprehension (.ListComp elt [⟨target,iter,ifs,0⟩] scope pos) scope X.env _ (newList []) false (eval iter X.env) (some (assign (.Name y py) X.env))) _ _ s
  refine wpAny_bind (wpAny_mono (wpAny_comprehension_free (use:=some (assign (.Name y py) X.env)) (Q:=fun _ s' => SP X pins D' .next s') rfl hs hclos hkind hnames
    (thn (hi pins s σ H _ I h) fun v s1 h1=>thn h1 fun itv s2 h2 => ?_)) (fun _ s' hq=>wpAny_pure (wpAny_pure hq)) fun _ _ e=>e)
  obtain⟨it,fp,tn,J,H2,e,I2,T,st2,f2,hw⟩:=h2
  subst e
  refine z0p (RR:=fun acc C=>compPost (model X.prog X.w) X.A X.xe (some (assign (.Name y py) X.env)) (fun _ s' => SP X pins D' .next s') acc C) (Fin:=fun D _ H' => D'.nx (σ.set i (some (.ref D))) H') hc hkind hnc hc1 hc2 co (fun C s H=>hg cl C fp s H) (fun C s H=>ht cl C fp s H) (fun C s H=>he cl C fp s H) I2 T st2 f2 hw ?_
  intro D C ys H' s' hD I' hm F fin
  obtain⟨m,hm⟩:=hm
  show wpAny _ X.A (assign (.Name y py) X.env (.ref D)) _ _ _
  refine wpAny_assign_Name (q5p (v := .ref D) I' hN hiN hx rfl (fun s'' I'' hsb => ?_) hf)
  obtain⟨a,sb,ha⟩:=hsb
  have hCa:C≠a:=by
    rcases ha with ha | ha
    · rw [ha];exact F.2.1
    · exact fun z=>F.2.2.2.2.1 y a ha z.symm
  refine⟨m,hm.sameBut sb hCa,fun h' hs' => ?_⟩
  exact⟨_,H',I''.turned (t' := s''.toks) (fun b o hb e=>(hs'.2 b hb).trans e) F.1 F.2.1 F.2.2.2.1 F.2.2.2.2.1 F.2.2.2.2.2,fin⟩
end
theorem q7t {J:It} {n:Nat} {g:TG} {tt:TT} {te:TE} {σ0:St} {D:Addr} {Fin:List V→Hp→Prop} {H1:Hp} (Pv:Nat→List V→Hp→Prop) (h0:Pv 0 [] (upd H1 D (.lst []))) (hl:∀ i ys H,Pv i ys H→H D=some (.lst ys))
    (hgo:∀ i ys H,i<n→Pv i ys H→J.go i H) (hstop:∀ ys H,Pv n ys H→J.stop n H)
    (hs:∀ i ys H x H',i<n→Pv i ys H→J.yld i H x H' → g x σ0 H' fun σ2 H2=>Keeps0 σ0 σ2∧tt σ2 H2 fun b H3 =>
      if b=true then te σ2 H3 fun v H4=>H4 D=some (.lst ys)∧ys.length<sizeLine∧Pv (i+1) (ys ++ [v]) (upd H4 D (.lst (ys ++ [v]))) else Pv (i+1) ys H3)
    (hd:∀ ys H,Pv n ys H→Fin ys H):CompW J g tt te σ0 D Fin H1:=by
  refine⟨fun i m ys H=>m=n - i∧i≤n∧Pv i ys H,⟨n,by simp,Nat.zero_le _,h0⟩,?_⟩
  rintro i m ys H ⟨rfl,hi,p⟩
  refine⟨hl i ys H p,?_⟩
  by_cases hlt:i<n
  · exact .inr ⟨hgo i ys H hlt p,Pv (i+1),fun zs H' q=>⟨n - (i+1),by lia,rfl,hlt,q⟩,fun x H' y=>hs i ys H x H' hlt p y⟩
  · have e:i=n:=by lia
    subst e
    exact .inl ⟨hstop ys H p,hd ys H p⟩
theorem z2a {lo:Int} {n:Nat} {g:TG} {tt:TT} {te:TE} {σ0:St} {D:Addr} {Fin:List V→Hp→Prop} {H1:Hp} (Pv:Nat→List V→Hp→Prop) (h0:Pv 0 [] (upd H1 D (.lst []))) (hl:∀ i ys H,Pv i ys H→H D=some (.lst ys))
    (hs:∀ i ys H,i<n→Pv i ys H→g (.int (lo+i)) σ0 H fun σ2 H2=>Keeps0 σ0 σ2∧tt σ2 H2 fun b H3 =>
      if b=true then te σ2 H3 fun v H4=>H4 D=some (.lst ys)∧ys.length<sizeLine∧Pv (i+1) (ys ++ [v]) (upd H4 D (.lst (ys ++ [v]))) else Pv (i+1) ys H3)
    (hd:∀ ys H,Pv n ys H→Fin ys H):CompW (Itr lo n) g tt te σ0 D Fin H1 :=
  q7t Pv h0 hl (fun i ys H h _=>h) (fun ys H _=>Nat.le_refl _) (fun i ys H x H' h p y=>by obtain⟨e,y⟩:=y;subst e y;exact hs i ys _ h p) hd
theorem q5y {K:PySem.W.Frag} {a:Addr} {xs:List V} {g:TG} {tt:TT} {te:TE} {σ0:St} {D:Addr} {Fin:List V→Hp→Prop} {H1:Hp} (Pv:Nat→List V→Hp→Prop) (h0:Pv 0 [] (upd H1 D (.lst []))) (hl:∀ i ys H,Pv i ys H→H D=some (.lst ys)∧SqL K H a xs)
    (hs:∀ i ys H x,xs[i]? = some x→Pv i ys H→g x σ0 H fun σ2 H2=>Keeps0 σ0 σ2∧tt σ2 H2 fun b H3 =>
      if b=true then te σ2 H3 fun v H4=>H4 D=some (.lst ys)∧ys.length<sizeLine∧Pv (i+1) (ys ++ [v]) (upd H4 D (.lst (ys ++ [v]))) else Pv (i+1) ys H3)
    (hd:∀ ys H,Pv xs.length ys H→Fin ys H):CompW (Itl K a) g tt te σ0 D Fin H1 :=
  q7t (n:=xs.length) Pv h0 (fun i ys H p=>(hl i ys H p).1) (fun i ys H h p=>⟨xs,xs[i],(hl i ys H p).2,by simp [h]⟩) (fun ys H p=>⟨xs,(hl _ ys H p).2,Nat.le_refl _⟩)
    (fun i ys H x H' h p y=>by obtain⟨e,y⟩:=y;subst e;exact hs i ys _ x (y xs (hl i ys _ p).2) p) hd
theorem q3e {v:Option V} {r:St}:Keeps0 (none::r) (v::r):=⟨rfl,fun i w h=>by
  cases i with
  | zero=>cases h
  | succ i=>exact h⟩
theorem q4n {v w:Option V} {r:St}:Keeps0 (none::none::r) (v::w::r):=⟨rfl,fun i u h=>by
  cases i with
  | zero=>cases h
  | succ i=>cases i with
    | zero=>cases h
    | succ i=>exact h⟩
end L2
namespace L2
open PySem PySem.Spec PyProof.Rows
section
variable {X:Cx}
def rSlS:V→Option Int→Option Int→Hp→VK→Prop:=fun x lo hi H Q=>∃ z,x = .str z∧z.length≤sizeLine∧Q (.str (Txt.slice z lo hi)) H
theorem q5z {v:Value} {o:Option Int} (h:IsPart v o):∃ p:Option (Int×Tok),v=partValue p∧o=p.map (·.1):=by
  cases h with
  | none=>exact⟨none,rfl,rfl⟩
  | int i t=>exact⟨some (i,t),rfl,rfl⟩
theorem sl_str:SlR X rSlS:=by
  intro pins s σ H x v vl vu lo hi sl Q I rx hs pl pu h
  obtain⟨z,rfl,hz,q⟩:=h
  obtain⟨t,rfl⟩:=rx
  obtain⟨p1,rfl,rfl⟩:=q5z pl
  obtain⟨p2,rfl,rfl⟩:=q5z pu
  refine⟨"str",_,F.slot_str_getitem.lookup,typeIs_str _ _ _,wpAny_getItem_str_slice (l:=p1) (u:=p2) (st:=none) hs rfl
    (post_val_or_str ⟨Nat.le_trans (Txt.slice_le z _ _) hz,fun t' k=>⟨.str (Txt.slice z (p1.map (·.1)) (p2.map (·.1))),H,I.tok _,⟨t',rfl⟩,q⟩⟩)⟩
def rLower:V→List V→Hp→VK→Prop:=fun x vs H Q=>∃ z,x = .str z∧vs = []∧3 * z.length≤sizeLine∧Q (.str (Txt.lower z)) H
theorem fit3 {n m:Nat} (h:n≤3 * m) (h2:3 * m≤sizeLine):Builtin.Str.tooLong n=false:=by
  unfold Builtin.Str.tooLong
  exact decide_eq_false (by lia)
theorem q5m:MtM X "str.lower" rLower:=by
  intro pins s σ H x vs v us Q I rx rv h
  obtain⟨z,rfl,rfl,hz,q⟩:=h
  obtain⟨t,rfl⟩:=rx
  cases rv.zero
  exact SC.lower (fit3 (len_lower z) hz) ⟨.str _,H,I.tok _,⟨_,rfl⟩,q⟩
def rUpper:V→List V→Hp→VK→Prop:=fun x vs H Q=>∃ z,x = .str z∧vs = []∧3 * z.length≤sizeLine∧Q (.str (Txt.upper z)) H
theorem z6v:MtM X "str.upper" rUpper:=by
  intro pins s σ H x vs v us Q I rx rv h
  obtain⟨z,rfl,rfl,hz,q⟩:=h
  obtain⟨t,rfl⟩:=rx
  cases rv.zero
  exact SC.upper (fit3 (len_upper z) hz) ⟨.str _,H,I.tok _,⟨_,rfl⟩,q⟩
theorem q4o:∀ {ys:List Str} {us:List Value},Vals (ys.map V.str) us→StrsAre us ys
  | [],_,.nil => .nil
  | y::ys,_,.cons r t=>by obtain⟨k,rfl⟩:=r;exact .cons y k (q4o t)
def rJoin (K:PySem.W.Frag):V→List V→Hp→VK→Prop:=fun x vs H Q=>∃ (z:Str) (p:Addr) (ys:List Str),x = .str z∧vs = [.ref p]∧(SqL K H p (ys.map V.str)∨SqT K H p (ys.map V.str))∧(ys.map (·.length)).sum+ys.length * z.length≤16777216∧Q (.str (Txt.join z ys)) H
theorem z9g:MtM X "str.join" (rJoin X.K):=by
  intro pins s σ H x vs v us Q I rx rv h
  obtain⟨z,p,ys,rfl,rfl,hq,hz,q⟩:=h
  obtain⟨t,rfl⟩:=rx
  obtain⟨u,rfl,ru⟩:=rv.one
  cases ru
  rcases hq with hq | hq
  · obtain⟨its,r,pl,_⟩:=I.list hq
    exact join_list pl.isList (q4o (by simpa using r)) hz fun t' k=>⟨.str _,H,I.tok _,⟨_,rfl⟩,q⟩
  · obtain⟨its,r,pl,_⟩:=I.tuple hq
    exact join_tuple pl (q4o (by simpa using r)) hz fun t' k=>⟨.str _,H,I.tok _,⟨_,rfl⟩,q⟩
def rMulS:R2:=fun x y H Q=>∃ z n,x = .str z∧y = .int n∧MulOk z n∧Q (.str (Txt.mul z n)) H
theorem op_mulS:OpR X (binaryOp .Mult) rMulS:=by
  intro pins s σ H x y v u Q I rx ry h
  obtain⟨z,n,rfl,rfl,hm,q⟩:=h
  obtain⟨t,rfl⟩:=rx
  obtain⟨t',rfl⟩:=ry
  exact SB.mul hm fun t2 k=>⟨.str _,H,I.tok _,⟨_,rfl⟩,q⟩
theorem q9x:CallR X (.builtin "isinstance") (fun xs H Q=>∃ x c t b,xs = [x,.ty c]∧TyOf X.K H x t∧PySem.W.kitOne X.K t (.type c)=some b∧Q (.bl b) H):=by
  intro pins s σ H xs us Q I r h
  obtain⟨x,c,t,b,rfl,ty,e,q⟩:=h
  obtain⟨u,v,rfl,ru,rv⟩:=r.two
  cases rv
  exact z3i I ru ty e fun tk=>⟨.bl b,H,I.tok _,rfl,q⟩
def Its (z:Str):It:=⟨fun i _=>i<z.length,fun i H x H' => H' = H∧∃ c,z.cps[i]? = some c∧x = .str ⟨#[c]⟩,fun i _=>z.length≤i⟩
end
theorem z3s {P:Program} {w:World} {K:PySem.W.Frag} {tg:Expr} (it:Addr) (z:Str) (t:Tok):Turn P w K tg (Its z) [it] it (fun i h=>i≤z.length∧h.IsStrIter it "str_ascii_iterator" z t i) where
  mem:=by simp
  obj:=fun i h st b hb=>by
    have e:b=it:=by simpa using hb
    subst e
    obtain⟨_,o,e,c,d⟩:=st
    exact⟨o,e,fun v z=>by rw [d] at z;cases z⟩
  keep:=fun i h h' st k=>⟨st.1,let ⟨o,e,c,d⟩:=st.2;⟨o,k it (by simp) o e,c,d⟩⟩
  item:=by
    intro X hP hw hK hc i pins s σ H E I hf st hg
    subst hP hw hK
    obtain⟨f0,f1,f2,f3,f4,f5⟩:=hf it (by simp)
    have hi:i<z.cps.size:=hg
    refine wpAny_pyNext_ascii_item st.2 (c:=z.cps[i]) (by simp [hi]) fun h' hit' hs' => ?_
    have I1:Inv X pins σ H { s with heap:=h',toks:=s.toks+1 }:=I.turned (fun b o hb e=>(hs'.2 b hb).trans e) f0 f1 f3 f4 f5
    obtain⟨o,e,c,d⟩:=id hit'
    exact⟨_,rfl,z1n (s := { s with heap:=h',toks:=s.toks+1 }) e c d (by decide) ⟨.str ⟨#[z.cps[i]]⟩,H,I1,⟨_,rfl⟩,⟨rfl,_,by simp [hi],rfl⟩,⟨hg,hit'⟩,fun b hb=>(hf b hb).1⟩⟩
  done:=by
    intro X hP hw hK hc i pins s σ H E I hf st hg
    subst hP hw hK
    obtain⟨f0,f1,f2,f3,f4,f5⟩:=hf it (by simp)
    have hi:z.cps.size≤i:=hg
    exact wpAny_pyNext_ascii_end (I.ok.hd hc) st.2 (by simp;lia) fun h' eb=>⟨rfl,I.turned (t' := s.toks) (fun b o hb e=>eb b o hb e) f0 f1 f3 f4 f5⟩
  self:=fun _ _ _ _ _ st h=>wpAny_pyIter_striter_ascii st.2 h
theorem z3t {P:Program} {w:World} {K:PySem.W.Frag} {tg:Expr} (it:Addr) (z:Str) (t:Tok):Turn P w K tg (Its z) [it] it (fun i h=>i≤z.length∧h.IsStrIter it "str_iterator" z t i) where
  mem:=by simp
  obj:=fun i h st b hb=>by
    have e:b=it:=by simpa using hb
    subst e
    obtain⟨_,o,e,c,d⟩:=st
    exact⟨o,e,fun v z=>by rw [d] at z;cases z⟩
  keep:=fun i h h' st k=>⟨st.1,let ⟨o,e,c,d⟩:=st.2;⟨o,k it (by simp) o e,c,d⟩⟩
  item:=by
    intro X hP hw hK hc i pins s σ H E I hf st hg
    subst hP hw hK
    obtain⟨f0,f1,f2,f3,f4,f5⟩:=hf it (by simp)
    have hi:i<z.cps.size:=hg
    refine wpAny_pyNext_wide_item st.2 (c:=z.cps[i]) (by simp [hi]) fun h' hit' hs' => ?_
    have I1:Inv X pins σ H { s with heap:=h',toks:=s.toks+1 }:=I.turned (fun b o hb e=>(hs'.2 b hb).trans e) f0 f1 f3 f4 f5
    obtain⟨o,e,c,d⟩:=id hit'
    exact⟨_,rfl,z1n (s := { s with heap:=h',toks:=s.toks+1 }) e c d (by decide) ⟨.str ⟨#[z.cps[i]]⟩,H,I1,⟨_,rfl⟩,⟨rfl,_,by simp [hi],rfl⟩,⟨hg,hit'⟩,fun b hb=>(hf b hb).1⟩⟩
  done:=by
    intro X hP hw hK hc i pins s σ H E I hf st hg
    subst hP hw hK
    obtain⟨f0,f1,f2,f3,f4,f5⟩:=hf it (by simp)
    have hi:z.cps.size≤i:=hg
    exact wpAny_pyNext_wide_end (I.ok.hd hc) st.2 (by simp;lia) fun h' eb=>⟨rfl,I.turned (t' := s.toks) (fun b o hb e=>eb b o hb e) f0 f1 f3 f4 f5⟩
  self:=fun _ _ _ _ _ st h=>wpAny_pyIter_striter_wide st.2 h
section
variable {X:Cx} {tg:Expr}
end
end L2
namespace L2
open PySem PySem.Spec PyProof.Rows
structure Vw (K:PySem.W.Frag) (H:Hp) (h:Heap):Prop where
  lst:∀ a xs,SqL K H a xs→∃ its:List Value,Vals xs its∧h.IsList a its.toArray
  tup:∀ a xs,SqT K H a xs→∃ its:List Value,Vals xs its∧h.IsTuple a its.toArray
theorem Vw.linj {K:PySem.W.Frag} {H:Hp} {h:Heap} {a:Addr} {xs ys:List V} (v:Vw K H h) (p:SqL K H a xs) (q:SqL K H a ys):xs=ys:=by
  obtain⟨its,r,o,e,_,n,d⟩:=v.lst a xs p
  obtain⟨its',r',o',e',_,n',d'⟩:=v.lst a ys q
  rw [e] at e';cases e'
  rw [d] at d'
  injection d' with d1 _
  have:its=its' := by simpa using congrArg Array.toList d1
  subst this
  exact r.inj r'
theorem Inv.vw {X:Cx} {pins:List (Addr×Obj)} {σ:St} {H:Hp} {s:Shared} (I:Inv X pins σ H s):Vw X.K H s.heap :=
  ⟨fun a xs q=>let ⟨its,r,l,_⟩:=I.list q;⟨its,r,l.isList⟩,fun a xs q=>let ⟨its,r,l,_⟩:=I.tuple q;⟨its,r,l⟩⟩
structure Srce (P:Program) (w:World) (K:PySem.W.Frag) (J:It) (it:Addr) (st:Nat→Heap→Prop):Prop where
  obj:∀ i h,st i h→∃ o,h.get? it=some o∧∀ v,o.data ≠ .cell v
  keep:∀ i h h',st i h→(∀ o,h.get? it=some o→h'.get? it=some o)→st i h'
  item:∀ (A:Around) (i:Nat) (s:Shared) (H:Hp) (Q:Value→Shared→Prop) (E:Value→Shared→Prop),A.handled=none→Vw K H s.heap→H it=none→K.lookup it=none→st i s.heap→J.go i H →
    (∀ u x h' tk,RelV x u→J.yld i H x H→st (i+1) h' → Heap.SameBut it s.heap h' → Q u { s with heap:=h',toks:=tk })→wpAny (model P w) A (Builtin.SmallTypes.nextOf (.ref it)) Q E s
  done:∀ (A:Around) (i:Nat) (s:Shared) (H:Hp) (Q:Value→Shared→Prop) (E:Value→Shared→Prop),A.handled=none→Vw K H s.heap→H it=none→K.lookup it=none→st i s.heap→J.stop i H →
    (∀ h' e,Heap.ExtBut it s.heap h' → (∃ o,h'.get? e=some o∧o.cls = .type "StopIteration")→E (.ref e) { s with heap:=h' })→wpAny (model P w) A (Builtin.SmallTypes.nextOf (.ref it)) Q E s
theorem z3u {P:Program} {w:World} {K:PySem.W.Frag} (a it:Addr):Srce P w K (Itl K a) it (fun i h=>h.IsListIter it a i) where
  obj:=fun i h st=>by obtain⟨o,e,c,d⟩:=st;exact⟨o,e,fun v z=>by rw [d] at z;cases z⟩
  keep:=fun i h h' st k=>st.at fun o e=>k o e
  item:=fun A i s H Q E hh vw hn hk st go hQ=>by
    obtain⟨xs,x,hq,hx⟩:=go
    obtain⟨its,rv,p⟩:=vw.lst a xs hq
    obtain⟨u,hu,ru⟩:=rv.get hx
    refine wpAny_nextOf_list_item st p (x:=u) (by simpa using hu) fun h' st' sb => ?_
    exact hQ u x h' s.toks ru ⟨rfl,fun ys hy=>by rw [vw.linj hy hq];exact hx⟩ st' sb
  done:=fun A i s H Q E hh vw hn hk st stop hE=>by
    obtain⟨xs,hq,hx⟩:=stop
    obtain⟨its,rv,p⟩:=vw.lst a xs hq
    have hl:=rv.length
    exact wpAny_nextOf_list_end hh st p (by simp;lia) hE
def stStr (it:Addr) (z:Str) (t:Tok) (i:Nat) (h:Heap):Prop:=h.IsStrIter it (strIterType z) z t i
theorem z6w {P:Program} {w:World} {K:PySem.W.Frag} (it:Addr) (z:Str) (t:Tok):Srce P w K (Its z) it (stStr it z t) where
  obj:=fun i h st=>by obtain⟨o,e,c,d⟩:=st;exact⟨o,e,fun v z=>by rw [d] at z;cases z⟩
  keep:=fun i h h' st k=>by obtain⟨o,e,r⟩:=st;exact⟨o,k o e,r⟩
  item:=fun A i s H Q E hh vw hn hk st go hQ=>by
    have hi:i<z.cps.size:=go
    unfold stStr strIterType at st
    cases ha:z.cps.all (· < 128)
    · rw [ha] at st
      refine wpAny_nextOf_wide_item st (c:=z.cps[i]) (by simp [hi]) fun h' hit' hs' => ?_
      exact hQ _ (.str ⟨#[z.cps[i]]⟩) h' (s.toks+1) ⟨_,rfl⟩ ⟨rfl,_,by simp [hi],rfl⟩ (by unfold stStr strIterType;rw [ha];exact hit') hs'
    · rw [ha] at st
      refine wpAny_nextOf_ascii_item st (c:=z.cps[i]) (by simp [hi]) fun h' hit' hs' => ?_
      exact hQ _ (.str ⟨#[z.cps[i]]⟩) h' (s.toks+1) ⟨_,rfl⟩ ⟨rfl,_,by simp [hi],rfl⟩ (by unfold stStr strIterType;rw [ha];exact hit') hs'
  done:=fun A i s H Q E hh vw hn hk st stop hE=>by
    have hi:z.cps.size≤i:=stop
    unfold stStr strIterType at st
    cases ha:z.cps.all (· < 128)
    · rw [ha] at st
      exact wpAny_nextOf_wide_end hh st (by simp;lia) hE
    · rw [ha] at st
      exact wpAny_nextOf_ascii_end hh st (by simp;lia) hE
theorem Inv.turnedL {X:Cx} {pins:List (Addr×Obj)} {σ:St} {H:Hp} {s:Shared} {h' : Heap} {t' : Nat} {ch:List Addr} (I:Inv X pins σ H s) (k:∀ b o,b∉ch→s.heap.get? b=some o→h'.get? b=some o) (hf:∀ b∈ch,FpOk X pins H b):Inv X pins σ H { s with heap:=h',toks:=t' }:=by
  have nit:∀ b u,H b=some u→b∉ch:=fun b u e z=>by rw [(hf b z).1] at e;cases e
  refine I.step (g' := s.gens) (d' := s.drawn) (ch:=ch) (fun b hb => ?_) (fun b o _ _ hc e _=>k b o hc e) (fun b o _ _ hc e _=>⟨o.slots,k b o hc e⟩) (fun _ _ _ _ n=>n)
    (fun b o hc e => ?_) (fun _ _ e=>e) (fun _ _ _ e=>e) (fun b ps e=>⟨#[],by rw [e];simp⟩) (fun m hm => ?_) (fun b u e => ?_) I.bare
  · exact⟨(hf b hb).2.2.2.1,(hf b hb).2.1,(hf b hb).2.2.2.2.1,(hf b hb).2.2.2.2.2⟩
  · exact⟨o,k b o hc e⟩
  · obtain⟨o,es,ep,ho,r⟩:=hm
    exact⟨o,es,ep,k _ o (fun z=>(hf _ z).2.1 rfl) ho,r⟩
  · refine (I.hok b u e).stay (fun c v hc q=>k c v ?_ q) (fun _ q=>q) fun _ _ q=>q
    rcases hc with z | z
    · rw [z];exact nit b u e
    · exact nit c _ z
theorem Inv.track {X:Cx} {pins:List (Addr×Obj)} {σ:St} {H:Hp} {s:Shared} {T:Addr} {o:HO} (I:Inv X pins σ H s) (hT:X.s₀.heap.objs.size≤T) (hF:FpOk X pins H T) (new:ObjOk X.prog X.w (upd H T o) s.heap T o):Inv X pins σ (upd H T o) s:=by
  have hn:H T=none:=hF.1
  refine⟨I.ok,I.os,I.bare,⟨I.base.keep,I.base.slot,fun b ob e n hx => ?_,I.base.there,fun b xs e => ?_,fun b ob u e => ?_,fun b ps e => ?_⟩,I.loc,I.cell,?_,fun x c e => ?_,fun p hp => ?_,fun b u e => ?_,I.len⟩
  · rw [q0c (Nat.ne_of_lt (Nat.lt_of_lt_of_le (Heap.lt_size e) hT))];exact I.base.free b ob e n hx
  · have z:=I.base.tups b xs e
    rw [q0c (q0k z hn)];exact z
  · have z:=I.base.frzs b ob u e
    rw [q0c (q0k z hn)];exact z
  · obtain⟨m,z⟩:=I.base.tbls b ps e
    exact⟨m,by rw [q0c (q0k z hn)];exact z⟩
  · rw [q0c (Ne.symm hF.2.1)];exact I.free
  · rw [q0c (hF.2.2.2.2.1 x c e)];exact I.freeC x c e
  · obtain⟨e,n,ne,nf,d⟩:=I.pin p hp
    exact⟨e,by rw [q0c (hF.2.2.2.2.2 p hp)];exact n,ne,nf,d⟩
  · by_cases hb:b=T
    · subst hb;rw [q0b] at e;cases e;exact new
    · rw [q0c hb] at e
      exact (I.hok b u e).stay (fun _ _ _ q=>q) (fun c q=>by rw [q0c (q0k q hn)];exact q) fun c xs q=>by rw [q0c (q0k q hn)];exact q
theorem FpOk.noK {X:Cx} {pins:List (Addr×Obj)} {σ:St} {H H' : Hp} {s:Shared} {b:Addr} (I:Inv X pins σ H' s) (f:FpOk X pins H b):X.K.lookup b=none:=by
  cases e:X.K.lookup b with
  | none=>rfl
  | some o =>
    have e1:=I.ok.mod.kin b o e
    rcases f.2.2.2.1 with z | z
    · exact absurd z (I.ok.noex b o e1)
    · exact absurd (Nat.lt_of_lt_of_le (Heap.lt_size (I.ok.bs b o e1).1) z) (Nat.lt_irrefl _)
end L2
namespace L2
open PySem PySem.Spec PyProof.Rows
section
variable {prog:Program} {w:World} {K:PySem.W.Frag} {A:Around} {E:Value→Shared→Prop} {s:Shared} {J1 J2:It} {t1 t2:Nat→Heap→Prop} {z TI TO i1 i2:Addr} {H:Hp}
end
end L2
namespace L2
open PySem PySem.Spec PyProof.Rows
abbrev zs1 (h:Heap) (x:Str) (t:Tok):Heap:=h.push { cls := .type (strIterType x),data := .fields #[.str x t,.int 0 0] }
abbrev zs2 (h:Heap) (x y:Str) (t u:Tok):Heap:=(zs1 h x t).push { cls := .type (strIterType y),data := .fields #[.str y u,.int 0 0] }
set_option maxHeartbeats 4000000 in
section
variable {X:Cx} {elts:List Expr} {kk:Nat} {tpos:Pos}
theorem z8n {J:It} {n:Nat} {g:TG} {tb:TS} {D:Ends} {σ:St} {H:Hp} (Pv:Nat→St→Hp→Prop) (h0:Pv 0 σ H) (hgo:∀ i σ H,i<n→Pv i σ H→J.go i H) (hstop:∀ σ H,Pv n σ H→J.stop n H)
    (hs:∀ i x σ H H',i<n→Pv i σ H→J.yld i H x H' → g x σ H' fun σ2 H2=>tb { D with nx:=Pv (i+1),ct:=Pv (i+1),bk:=D.nx } σ2 H2) (hd:∀ σ H,Pv n σ H→D.nx σ H) :
    ∃ W:Nat→Nat→St→Hp→Prop,(∃ m,W 0 m σ H)∧∀ i m σ H,W i m σ H →
      (J.stop i H∧D.nx σ H)∨(J.go i H∧∃ N:St→Hp→Prop,(∀ σ' H',N σ' H' → ∃ m',m' < m∧W (i+1) m' σ' H')∧∀ x H',J.yld i H x H' → g x σ H' fun σ2 H2=>tb { D with nx:=N,ct:=N,bk:=D.nx } σ2 H2):=by
  refine⟨fun i m σ H=>m=n - i∧i≤n∧Pv i σ H,⟨n,by simp,Nat.zero_le _,h0⟩,?_⟩
  rintro i m σ H ⟨rfl,hi,p⟩
  by_cases hlt:i<n
  · exact .inr ⟨hgo i σ H hlt p,Pv (i+1),fun σ' H' p' => ⟨n - (i+1),by lia,rfl,hlt,p'⟩,fun x H' y=>hs i x σ H H' hlt p y⟩
  · have e:i=n:=by lia
    subst e
    exact .inl ⟨hstop σ H p,hd σ H p⟩
end
end L2
namespace L2
open PySem PySem.Spec PyProof.Rows
structure Cal (P:Program) (w:World) (K:PySem.W.Frag) (mg:Str→Option Value) (base:Heap) (x:Str) (k:Nat) (ps:List Str) (sp:Sp):Prop where
  ex:∃ f fd,FnOk P w K mg base CX0 k f fd ps sp∧mg x=some (.ref f)∧PySem.W.keepIn K (.ref f)=true∧Binds K fd ps []
structure Df (K:PySem.W.Frag) (mg:Str→Option Value) (x:Str) (st:Stmt) (ps:List Str):Prop where
  ex:∃ f fd,Fun K x x st f fd∧mg x=some (.ref f)∧Binds K fd ps []
theorem Df.cal {P:Program} {w:World} {K:PySem.W.Frag} {mg:Str→Option Value} {base:Heap} {x:Str} {st:Stmt} {N ps:List Str} {k:Nat} {sp:Sp} (D:Df K mg x st ps) (S:FnScope N ps (defScope st)) (len:∀ vs H Q E,sp vs H Q E→vs.length=ps.length)
    (hbody:∀ (f:Addr) (cdv:Value) (A:Around) (outer:List Env) (s:Shared) (H:Hp) (vs:List V) (Q:VK) (E:XK),Room k (A.deeper (envOfC x (defScope st) s.heap.objs.size f cdv))→sp vs H Q E →
      ∃ t,PSs (cxOf CX0 P w K mg base N x (defScope st) f cdv A outer s H E).nox (defBody st) t∧t { nx:=fun _ H' => Q .non H',rt:=Q } (start N vs) H):Cal P w K mg base x (k+1) ps sp:=by
  obtain⟨f,fd,F,hm,hb⟩:=D.ex
  exact⟨f,fd,F.ok S len fun cdv A outer s H vs Q E hr h=>hbody f cdv A outer s H vs Q E hr h,hm,F.kp,hb⟩
section
variable {X:Cx} {x:Str} {k j:Nat} {ps:List Str} {sp:Sp} {p pos:Pos} {e:Expr} {es:List Expr} {t:TA}
theorem pe_c (C:Cal X.prog X.w X.K X.mg X.base x k ps sp) (hr:Room j X.A) (ha:PA X (e::es) t) (hjk:k≤j:=by decide) (hg:Gl X x:=by rfl) (hdb:(x==("__debug__" : Str))=false:=by decide)
    (he:starEach (e::es) X.env=(false,eval e X.env)::starEach es X.env:=by rfl) (hpl:(backTo pos (starEach es X.env)).any (·.1)=false:=by rfl) :
    PE X (.Call (.Name x p) (e::es) [] pos) (tCall sp [] E0 t):=by
  obtain⟨f,fd,F,hm,hk,hb⟩:=C.ex
  exact z9a F (hr.mono hjk) hg hm hk hb .nil pass0 ha hdb he hpl
end
structure FeedAt (H:Hp) (a b:Addr):Prop where
  fa:∃ i j:Int,H a=some (.lst [.ref b,.int i,.int j])
  fb:∃ ns:List Int,H b=some (.lst (ns.map V.int))
structure Fd (a b:Addr) (H H' : Hp):Prop where
  feed:FeedAt H' a b
  keep:∀ c o,H c=some o→c≠a→H' c=some o
theorem FeedAt.ne {H:Hp} {a b:Addr} (F:FeedAt H a b):b≠a:=by
  obtain⟨⟨i,j,h⟩,ns,h'⟩:=F
  refine z2r h' h ?_
  intro z
  injection z with z
  cases ns with
  | nil=>cases z
  | cons n r=>simp at z
theorem Fd.refl {a b:Addr} {H:Hp} (F:FeedAt H a b):Fd a b H H:=⟨F,fun _ _ h _=>h⟩
theorem Fd.trans {a b:Addr} {H H1 H2:Hp} (x:Fd a b H H1) (y:Fd a b H1 H2):Fd a b H H2:=⟨y.feed,fun c o h hc=>y.keep c o (x.keep c o h hc) hc⟩
theorem Fd.free {a b:Addr} {H H' : Hp} (x:Fd a b H H') {p:Addr} (h:H' p=none):H p=none:=by
  cases e:H p with
  | none=>rfl
  | some o =>
    by_cases hp:p=a
    · subst hp
      obtain⟨i,j,q⟩:=x.feed.fa
      rw [h] at q;cases q
    · rw [x.keep p o e hp] at h;cases h
theorem FeedAt.upd {H:Hp} {a b p:Addr} {o:HO} (F:FeedAt H a b) (ha:a≠p) (hb:b≠p):FeedAt (upd H p o) a b :=
  ⟨let ⟨i,j,h⟩:=F.fa;⟨i,j,by rw [q0c ha];exact h⟩,let ⟨ns,h⟩:=F.fb;⟨ns,by rw [q0c hb];exact h⟩⟩
theorem FeedAt.na {H:Hp} {a b p:Addr} (F:FeedAt H a b) (h:H p=none):a≠p:=by obtain⟨i,j,q⟩:=F.fa;exact q0k q h
theorem FeedAt.nb {H:Hp} {a b p:Addr} (F:FeedAt H a b) (h:H p=none):b≠p:=by obtain⟨ns,q⟩:=F.fb;exact q0k q h
theorem Fd.put {a b p:Addr} {H H' : Hp} {o:HO} (x:Fd a b H H') (F:FeedAt H a b) (h:H p=none):Fd a b H (upd H' p o) :=
  ⟨x.feed.upd (F.na h) (F.nb h),fun c u e hc=>by rw [q0c (q0k e h)];exact x.keep c u e hc⟩
theorem Fd.new {a b p:Addr} {H H' : Hp} {o:HO} (x:Fd a b H H') (h:H' p=none):Fd a b H (upd H' p o) :=
  ⟨x.feed.upd (x.feed.na h) (x.feed.nb h),fun c u e hc=>by rw [q0c (q0k (x.keep c u e hc) h)];exact x.keep c u e hc⟩
theorem Fd.at {a b c:Addr} {H H' : Hp} {o:HO} (x:Fd a b H H') (h:H c=some o) (hc:c≠a):H' c=some o:=x.keep c o h hc
theorem Fd.same {a b:Addr} {H H' H2:Hp} (x:Fd a b H H') (s:Same H' H2):Fd a b H H2 :=
  ⟨⟨let ⟨i,j,h⟩:=x.feed.fa;⟨i,j,s _ _ h⟩,let ⟨ns,h⟩:=x.feed.fb;⟨ns,s _ _ h⟩⟩,fun c o e hc=>s _ _ (x.keep c o e hc)⟩
theorem Same.new {H H' : Hp} {p:Addr} {o:HO} (s:Same H H') (h:H' p=none):Same H (upd H' p o):=fun c u e=>by rw [q0c (q0k (s c u e) h)];exact s c u e
theorem Same.put {H H' : Hp} {p:Addr} {o:HO} (s:Same H H') (h:H p=none):Same H (upd H' p o):=fun c u e=>by rw [q0c (q0k e h)];exact s c u e
def spDraw:Sp:=fun vs H Q _=>∃ a b m,vs = [.ref a,.int m]∧FeedAt H a b∧0<m∧m<1073741824∧∀ (r:Int) H',0≤r→r<m→Fd a b H H' → Q (.int r) H'
theorem z9h {α:Type} {xs:List α} (i:Int) (h:xs ≠ []):∃ x,x∈xs∧atI xs (i % (xs.length:Int))=some x:=by
  have hl:0<(xs.length:Int):=by
    cases xs with
    | nil=>exact absurd rfl h
    | cons a r=>simp only [List.length_cons];lia
  have h0:=Int.emod_nonneg i (show (xs.length:Int)≠0 by lia)
  have h1:=Int.emod_lt_of_pos i hl
  have hn:(i % (xs.length:Int)).toNat<xs.length:=by lia
  refine⟨xs[(i % (xs.length:Int)).toNat],List.getElem_mem hn,?_⟩
  unfold atI ixN
  rw [if_pos h0,if_pos h1]
  simp [hn]
theorem z0q {α:Type} {xs:List α} {i:Int} (h0:0≤i) (h1:i<(xs.length:Int)):∃ x,xs[i.toNat]? = some x∧atI xs i=some x:=by
  have hn:i.toNat<xs.length:=by lia
  refine⟨xs[i.toNat],by simp,?_⟩
  unfold atI ixN
  rw [if_pos h0,if_pos h1]
  simp [hn]
end L2
namespace L2
open PySem PySem.Spec PyProof.Rows
mutual
inductive Dt (K:PySem.W.Frag) (H:Hp):V→PyData→Prop
  | non:Dt K H .non .none
  | bl (b:Bool):Dt K H (.bl b) (.bool b)
  | int (i:Int):Dt K H (.int i) (.int i)
  | str (x:Str):Dt K H (.str x) (.str x)
  | lst {a:Addr} {xs:List V} {ds:List PyData}:SqL K H a xs→Dts K H xs ds→Dt K H (.ref a) (.list ds)
  | tup {a:Addr} {xs:List V} {ds:List PyData}:SqT K H a xs→Dts K H xs ds→Dt K H (.ref a) (.tuple ds)
inductive Dts (K:PySem.W.Frag) (H:Hp):List V→List PyData→Prop
  | nil:Dts K H [] []
  | cons {x:V} {xs:List V} {d:PyData} {ds:List PyData}:Dt K H x d→Dts K H xs ds→Dts K H (x::xs) (d::ds)
end
section
variable {X:Cx} {pins:List (Addr×Obj)} {σ:St} {H:Hp} {s:Shared}
mutual
theorem Dt.reads (I:Inv X pins σ H s):∀ {x:V} {d:PyData} {u:Value},Dt X.K H x d→RelV x u→∃ as,Reads s.heap u d as
  | _,_,_,.non,r=>by cases r;exact⟨_,.none⟩
  | _,_,_,.bl b,r=>by cases r;exact⟨_,.bool b⟩
  | _,_,_,.int i,r=>by obtain⟨t,rfl⟩:=r;exact⟨_,.int i t⟩
  | _,_,_,.str x,r=>by obtain⟨t,rfl⟩:=r;exact⟨_,.str x t⟩
  | _,_,_,.lst q ds,r=>by
    cases r
    obtain⟨its,rv,⟨o,n,e,c,_,d⟩,_⟩:=I.list q
    obtain⟨as,h⟩:=Dts.reads I ds rv
    exact⟨_,.list e c d (by simpa using h)⟩
  | _,_,_,.tup q ds,r=>by
    cases r
    obtain⟨its,rv,⟨o,e,c,n,d⟩,_⟩:=I.tuple q
    obtain⟨as,h⟩:=Dts.reads I ds rv
    exact⟨_,.tuple e c d (by simpa using h)⟩
theorem Dts.reads (I:Inv X pins σ H s):∀ {xs:List V} {ds:List PyData} {us:List Value},Dts X.K H xs ds→Vals xs us→∃ as,ReadsAll s.heap us ds as
  | _,_,_,.nil,.nil=>⟨_,.nil⟩
  | _,_,_,.cons d ds,.cons r rs=>by
    obtain⟨as,h⟩:=Dt.reads I d r
    obtain⟨bs,h'⟩:=Dts.reads I ds rs
    exact⟨_,.cons h h'⟩
end
end
section
variable {X:Cx} {k:Nat}
def rEqD (K:PySem.W.Frag):R2:=fun x y H Q=>∃ d e,Dt K H x d∧Dt K H y e∧d.canLay0=true∧e.canLay0=true∧min d.depth e.depth≤100∧Q (.bl (PyData.eqv d e)) H
def rNeD (K:PySem.W.Frag):R2:=fun x y H Q=>∃ d e,Dt K H x d∧Dt K H y e∧d.canLay0=true∧e.canLay0=true∧min d.depth e.depth≤100∧Q (.bl (!PyData.eqv d e)) H
theorem op_eqD (hr:Room k X.A):OpR X (compareOp .Eq) (rEqD X.K):=by
  intro pins s σ H x y v u Q I rx ry h
  obtain⟨d,e,hd,he,cd,ce,hm,q⟩:=h
  obtain⟨as,r1⟩:=hd.reads I rx
  obtain⟨bs,r2⟩:=he.reads I ry
  have hu:=hr.un
  exact SeqAt.rcAt_reads r1 r2 cd ce (by lia) X.prog X.w X.xe _ ⟨.bl _,H,I,rfl,q⟩
theorem op_neD (hr:Room k X.A):OpR X (compareOp .NotEq) (rNeD X.K):=by
  intro pins s σ H x y v u Q I rx ry h
  obtain⟨d,e,hd,he,cd,ce,hm,q⟩:=h
  obtain⟨as,r1⟩:=hd.reads I rx
  obtain⟨bs,r2⟩:=he.reads I ry
  have hu:=hr.un
  exact SeqAt.rcNeAt_reads r1 r2 cd ce (by lia) X.prog X.w X.xe _ ⟨.bl _,H,I,rfl,q⟩
def rAddU:R2:=fun x y H Q=>(∃ i j,x = .int i∧y = .int j∧Q (.int (i+j)) H)∨(∃ i j,x = .str i∧y = .str j∧i.length+j.length≤sizeLine∧Q (.str (i++j)) H)∨rCat x y H Q
theorem q1q:OpR X (binaryOp .Add) rAddU:=op_add.or (op_add_str.or op_cat)
def rMulU:R2:=fun x y H Q=>(∃ i j,x = .int i∧y = .int j∧CMul i j∧Q (.int (i * j)) H)∨rMulS x y H Q∨rRep x y H Q
theorem q7u:OpR X (binaryOp .Mult) rMulU:=op_mul.or (op_mulS.or op_rep)
def rEqU (K:PySem.W.Frag):R2:=fun x y H Q=>rEq x y H Q∨rEqD K x y H Q
theorem op_eqU (hr:Room k X.A):OpR X (compareOp .Eq) (rEqU X.K):=op_eq.or (op_eqD hr)
def rNeU (K:PySem.W.Frag):R2:=fun x y H Q=>rNe x y H Q∨rNeD K x y H Q
theorem op_neU (hr:Room k X.A):OpR X (compareOp .NotEq) (rNeU X.K):=op_ne.or (op_neD hr)
def rSlU (K:PySem.W.Frag):V→Option Int→Option Int→Hp→VK→Prop:=fun x lo hi H Q=>rSlS x lo hi H Q∨rSlL K x lo hi H Q∨rSlT K x lo hi H Q
theorem sl_U:SlR X (rSlU X.K):=sl_str.or (sl_list.or z8l)
def iAny (K:PySem.W.Frag) (tl:TE):TI:=fun σ H R=>tl σ H fun x H1=>(∃ a,x = .ref a∧(∃ xs,SqL K H1 a xs)∧R (Itl K a) H1)∨(∃ a,x = .ref a∧(∃ xs,SqT K H1 a xs)∧R (Itt K a) H1)∨∃ z,x = .str z∧R (Its z) H1
theorem pi_any {tg l:Expr} {tl:TE} (hl:PE X l tl):PI X tg l (iAny X.K tl):=by
  intro pins s σ H R I h
  refine thn (hl pins s σ H _ I h) fun v s1 ⟨x,H1,I1,r1,q1⟩ => ?_
  have fp:∀ b ∈ [s1.heap.objs.size],FpOk X pins H1 b:=fun b hb=>by
    have e:b=s1.heap.objs.size:=by simpa using hb
    subst e
    exact I1.fpOk (Nat.le_refl _) (I1.hok.fresh (Nat.le_refl _))
  rcases q1 with ⟨a,e,⟨xs,hq⟩,q⟩ | ⟨a,e,⟨xs,hq⟩,q⟩ | ⟨z,e,q⟩
  · subst e
    cases r1
    obtain⟨its,rv,p,hz⟩:=I1.list hq
    exact wpAny_pyIter_list p.isList ⟨s1.heap.objs.size,[s1.heap.objs.size],_,_,H1,rfl,I1.kept (t' := s1.toks) fun b o e=>Heap.get?_push_of_some _ e,z2y a _,⟨_,Heap.get?_push_size _ rfl,rfl,rfl⟩,fp,q⟩
  · subst e
    cases r1
    obtain⟨its,rv,p,hz⟩:=I1.tuple hq
    exact wpAny_pyIter_tuple (show s1.heap.IsTuple a its.toArray from p) ⟨s1.heap.objs.size,[s1.heap.objs.size],_,_,H1,rfl,I1.kept (t' := s1.toks) fun b o e=>Heap.get?_push_of_some _ e,z1o a _,⟨_,Heap.get?_push_size _ rfl,rfl,rfl⟩,fp,q⟩
  · subst e
    obtain⟨t,rfl⟩:=r1
    cases ha:z.cps.all (· < 128)
    · exact wpAny_pyIter_wide ha ⟨s1.heap.objs.size,[s1.heap.objs.size],_,_,H1,rfl,I1.kept (t' := s1.toks) fun b o e=>Heap.get?_push_of_some _ e,z3t _ z t,⟨Nat.zero_le _,_,Heap.get?_push_size _ rfl,rfl,rfl⟩,fp,q⟩
    · exact wpAny_pyIter_ascii ha ⟨s1.heap.objs.size,[s1.heap.objs.size],_,_,H1,rfl,I1.kept (t' := s1.toks) fun b o e=>Heap.get?_push_of_some _ e,z3s _ z t,⟨Nat.zero_le _,_,Heap.get?_push_size _ rfl,rfl,rfl⟩,fp,q⟩
end
end L2
namespace L2
open PySem PySem.Spec PyProof.Rows
section
variable {X:Cx} {a b o e l:Expr} {es:List Expr} {ta tb to te tl:TE} {t:TA} {pos p2 apos cpos:Pos} {k:Nat} {name:Str} {T idn:String} {r:V→List V→Hp→VK→Prop}
theorem ix_k (K:PySem.W.Frag) (hK:X.K=K):IxR X (rIx K):=by subst hK;exact ix_seq
theorem q3x (K:PySem.W.Frag) (hK:X.K=K):CallR X (.builtin "len") (fun xs H Q=>∃ x n,xs = [x]∧LenV K x H n∧Q (.int n) H):=by subst hK;exact z6n
theorem eq_k (K:PySem.W.Frag) (hK:X.K=K) (hr:Room k X.A):OpR X (compareOp .Eq) (rEqU K):=by subst hK;exact op_eqU hr
theorem ne_k (K:PySem.W.Frag) (hK:X.K=K) (hr:Room k X.A):OpR X (compareOp .NotEq) (rNeU K):=by subst hK;exact op_neU hr
theorem sl_k (K:PySem.W.Frag) (hK:X.K=K):SlR X (rSlU K):=by subst hK;exact sl_U
theorem z3v {tg:Expr} (K:PySem.W.Frag) (hK:X.K=K) (hl:PE X l tl):PI X tg l (iAny K tl):=by subst hK;exact pi_any hl
theorem z6x (K:PySem.W.Frag) (hK:X.K=K):CallR X (.builtin "isinstance") (fun xs H Q=>∃ x c t b,xs = [x,.ty c]∧TyOf K H x t∧PySem.W.kitOne K t (.type c)=some b∧Q (.bl b) H):=by subst hK;exact q9x
theorem z3w (K:PySem.W.Frag) (hK:X.K=K):CallR X (.type "list") (fun xs H Q=>∃ p ys,xs = [.ref p]∧(SqL K H p ys∨SqT K H p ys)∧∀ l,H l=none→Q (.ref l) (upd H l (.lst ys))):=by subst hK;exact q8p
theorem join_k (K:PySem.W.Frag) (hK:X.K=K):MtM X "str.join" (rJoin K):=by subst hK;exact z9g
theorem q8u {kk n:Nat} {u:TGs} (K:PySem.W.Frag) (hK:X.K=K) (hc:X.calm=true) (h:PGs X es u) (hn:(assignEach es X.env).length=n:=by rfl) (hst:(assignEach es X.env).findIdx? (·.1)=none:=by rfl):PG X (.Tuple es kk pos) (gTup K n u):=by subst hK;exact pg_tup hc h hn hst
theorem bm_k (K:PySem.W.Frag) (hK:X.K=K) (pa:PlainAttrs T) (slot:Slot T name idn) (hty:typeOf (.builtin idn)=pure (.type "method_descriptor")) (hm:MtR X idn r) (ho:PE X o to) (ha:PA X (e::es) t)
    (hbase:attributeBase o name X.env (eval o X.env)=eval o X.env:=by rfl)
    (hfew:((backTo cpos (starEach (e::es) X.env)).all (fun x => !x.1)&&(backToKw cpos (keywordEach [] X.env)).all (fun x=>x.1.isSome)
      && decide ((e::es).length+([]:List Keyword).length+(if ([]:List Keyword).isEmpty then 0 else 1)<30))=true:=by rfl)
    (hline:(apos.endLine==cpos.line)=true:=by rfl) (hs:starEach (e::es) X.env=(false,eval e X.env)::starEach es X.env:=by rfl) (hplain:(backTo cpos (starEach es X.env)).any (·.1)=false:=by rfl) :
    PE X (.Call (.Attribute o name apos) (e::es) [] cpos) (tBM K T r to t):=by subst hK;exact pe_bm pa slot hty hm ho ha hbase hfew hline hs hplain
theorem z2b (K:PySem.W.Frag) (hK:X.K=K) (pa:PlainAttrs T) (slot:Slot T name idn) (hty:typeOf (.builtin idn)=pure (.type "method_descriptor")) (hm:MtR X idn r) (ho:PE X o to)
    (hbase:attributeBase o name X.env (eval o X.env)=eval o X.env:=by rfl) (hline:(apos.endLine==cpos.line)=true:=by rfl):PE X (.Call (.Attribute o name apos) [] [] cpos) (tBM0 K T r to):=by subst hK;exact pe_bm0 pa slot hty hm ho hbase hline
theorem q3y (K:PySem.W.Frag) (hK:X.K=K) (ha:PE X a ta) (he:∀ whole,isTrue a X.env whole=(do let v ← whole;standAt a.pos;holding [v] (truthy v))) :
    PT X a (fun σ H Q=>ta σ H fun x H' => ∃ k,TruV K x H' k∧Q k H'):=by subst hK;exact z6m ha he
end
theorem q9y {lo:Int} {n:Nat} {te:TE} {r:St} {D:Addr} {Fin:List V→Hp→Prop} {H1:Hp} (Pv:Nat→List V→Hp→Prop) (h0:Pv 0 [] (upd H1 D (.lst []))) (hl:∀ i ys H,Pv i ys H→H D=some (.lst ys))
    (hs:∀ i ys H,i<n→Pv i ys H→te (some (.int (lo+i))::r) H fun v H4=>H4 D=some (.lst ys)∧ys.length<sizeLine∧Pv (i+1) (ys ++ [v]) (upd H4 D (.lst (ys ++ [v]))))
    (hd:∀ ys H,Pv n ys H→Fin ys H):CompW (Itr lo n) (gName 0) tIf0 te (none::r) D Fin H1 :=
  z2a Pv h0 hl (fun i ys H h p=>(⟨q3e,iteT (hs i ys H h p)⟩:Keeps0 (none::r) (some (.int (lo+i))::r)∧if true=true then te (some (.int (lo+i))::r) H fun v H4=>H4 D=some (.lst ys)∧ys.length<sizeLine∧Pv (i+1) (ys ++ [v]) (upd H4 D (.lst (ys ++ [v]))) else Pv (i+1) ys H)) hd
theorem z2c {K:PySem.W.Frag} {a:Addr} {xs:List V} {te:TE} {r:St} {D:Addr} {Fin:List V→Hp→Prop} {H1:Hp} (Pv:Nat→List V→Hp→Prop) (h0:Pv 0 [] (upd H1 D (.lst []))) (hl:∀ i ys H,Pv i ys H→H D=some (.lst ys)∧SqL K H a xs)
    (hs:∀ i ys H x,xs[i]? = some x→Pv i ys H→te (some x::r) H fun v H4=>H4 D=some (.lst ys)∧ys.length<sizeLine∧Pv (i+1) (ys ++ [v]) (upd H4 D (.lst (ys ++ [v]))))
    (hd:∀ ys H,Pv xs.length ys H→Fin ys H):CompW (Itl K a) (gName 0) tIf0 te (none::r) D Fin H1 :=
  q5y Pv h0 hl (fun i ys H x h p=>(⟨q3e,iteT (hs i ys H x h p)⟩:Keeps0 (none::r) (some x::r)∧if true=true then te (some x::r) H fun v H4=>H4 D=some (.lst ys)∧ys.length<sizeLine∧Pv (i+1) (ys ++ [v]) (upd H4 D (.lst (ys ++ [v]))) else Pv (i+1) ys H)) hd
def tSeqJ (t u:TS):TS:=fun D σ H=>∃ J:St→Hp→Prop,(∀ σ' H',J σ' H' → u D σ' H')∧t { D with nx:=J } σ H
theorem q2l {X:Cx} {st:Stmt} {rest:List Stmt} {t u:TS} (h1:PS X st t) (h2:PSs X rest u):PSs X (st::rest) (tSeqJ t u):=by
  intro pins s σ H D I h
  obtain⟨J,hJ,h⟩:=h
  refine wpAny_execs_cons (thn (h1 pins s σ H { D with nx:=J } I h) fun f s1 q => ?_)
  cases f with
  | next =>
    obtain⟨σ',H',I',q⟩:=q
    exact h2 pins s1 σ' H' D I' (hJ σ' H' q)
  | ret v=>exact q
  | brk=>exact q
  | cont=>exact q
def tVJ (t:TE):TE:=fun σ H Q=>∃ J:VK,(∀ v H',J v H' → Q v H')∧t σ H J
theorem pe_j {X:Cx} {e:Expr} {t:TE} (h:PE X e t):PE X e (tVJ t):=by
  intro pins s σ H Q I hw
  obtain⟨J,hJ,hw⟩:=hw
  exact thn (h pins s σ H J I hw) fun u s' ⟨v,H',I',r,q⟩=>⟨v,H',I',r,hJ v H' q⟩
def tTJ (t:TT):TT:=fun σ H Q=>∃ J:Bool→Hp→Prop,(∀ b H',J b H' → Q b H')∧t σ H J
theorem pt_j {X:Cx} {e:Expr} {t:TT} (h:PT X e t):PT X e (tTJ t):=by
  intro pins s σ H Q I hw
  obtain⟨J,hJ,hw⟩:=hw
  exact thn (h pins s σ H J I hw) fun u s' ⟨H',I',q⟩=>⟨H',I',hJ u H' q⟩
theorem iteB {c:Bool} {A B:Prop} (hA:c=true→A) (hB:c=false→B):if c=true then A else B:=by
  cases c with
  | true=>exact iteT (hA rfl)
  | false=>exact iteF (hB rfl)
end L2
namespace TX
open PySem PySem.Spec PyProof.Rows L2
abbrev tl (x:Str):List Nat:=x.cps.toList
abbrev mk (l:List Nat):Str:=⟨l.toArray⟩
theorem q2h (l:List Nat):tl (mk l)=l:=by simp [tl,mk]
theorem mk_tl (x:Str):mk (tl x)=x:=by simp [tl,mk]
theorem ext {x y:Str} (h:tl x=tl y):x=y:=ext_toList h
theorem len (x:Str):x.length=(tl x).length:=by simp [tl,Str.length]
theorem z0r (x y:Str):tl (x++y)=tl x++tl y:=by
  show (x.cps++y.cps).toList=_
  simp [tl]
theorem app_len (x y:Str):(x++y).length=x.length+y.length:=by rw [len,len,len,z0r,List.length_append]
theorem z9i (z:Str) (ts:List Str):Txt.join z ts=Str.join z ts:=StrLaws.glued_eq_join z ts
theorem z9j:∀ ts:List Str,tl (Txt.join (Str.ofString "") ts)=(ts.map tl).flatten:=by
  intro ts
  rw [z9i]
  induction ts with
  | nil=>rfl
  | cons a r ih =>
    cases r with
    | nil=>simp [Str.join]
    | cons b r =>
      show tl (a++Str.ofString "" ++ Str.join (Str.ofString "") (b::r))=_
      rw [z0r,z0r,ih]
      have e:tl (Str.ofString "") = []:=by decide +kernel
      rw [e]
      simp
theorem z3x (cs:List Nat):Txt.join (Str.ofString "") (cs.map fun c=>(⟨#[c]⟩:Str))=mk cs:=by
  apply ext
  rw [z9j,q2h,List.map_map]
  induction cs with
  | nil=>rfl
  | cons c r ih=>rw [List.map_cons,List.flatten_cons,ih];rfl
theorem z6y (cs:List Nat):((cs.map fun c=>(⟨#[c]⟩:Str)).map (·.length)).sum=cs.length:=by
  induction cs with
  | nil=>rfl
  | cons c r ih=>rw [List.map_cons,List.map_cons,List.sum_cons,ih,List.length_cons];show 1+_=_;lia
theorem lower {x:Str} (h:∀ c∈tl x,c<128):tl (Txt.lower x)=(tl x).map lo1:=by
  rw [lower_ascii h];simp [tl]
theorem small {n:Nat} (h:n≤1000000):n≤sizeLine:=by rw [sizeLine_eq];lia
theorem small' {n:Nat} (h:n≤1000000):n<sizeLine:=by rw [sizeLine_eq];lia
end TX
namespace L2
open PySem PySem.Spec PyProof.Rows TX
end L2
namespace L2
open PySem PySem.Spec PyProof.Rows
section
variable {prog:Program} {w:World} {K:PySem.W.Frag} {A:Around} {E:Value→Shared→Prop} {s:Shared} {J:It} {st:Nat→Heap→Prop} {e it:Addr} {H:Hp}
theorem z2d {i:Nat} {old:Value} {Q:Value→Shared→Prop} (S:Srce prog w K J it st) (hh:A.handled=none) (vw:Vw K H s.heap) (nH:H it=none) (nK:K.lookup it=none)
    (he:IsEnum s.heap e it i old) (hst:st i s.heap) (go:J.go i H) (hne:e≠it)
    (hQ:∀ u x h' tk,RelV x u→J.yld i H x H→IsEnumOut h' e it ((i:Int)+1) u s.heap.objs.size→st (i+1) h' → h'.get? s.heap.objs.size=some { cls := .type "tuple",data := .seq #[.int i tk,u] }→h'.objs.size=s.heap.objs.size+1 →
      (∀ b o,b≠e→b≠it→s.heap.get? b=some o→h'.get? b=some o)→Q (.ref s.heap.objs.size) { s with heap:=h',toks:=tk+1 }) :
    wpAny (model prog w) A (Builtin.«enumerate.__next__» ⟨[.ref e],[]⟩) (fun fin s' => ∃ v,fin = .done (.ret v)∧Q v s') E s:=by
  obtain⟨hp,g,d,tk₀,os⟩:=s
  show wpAny _ _ (field (.ref e) 2 >>= _) _ _ _
  refine wpAny_bind (wpAny_field he rfl (x := .ref it) rfl ?_)
  refine wpAny_bind (S.item _ i _ H _ _ hh vw nH nK hst go fun u x h₁ tk rx yx st₁ hs₁ => ?_)
  replace hs₁:Heap.SameBut it hp h₁:=hs₁
  have he₁:IsEnum h₁ e it i old:=(hs₁.2 e hne).trans he
  show wpAny _ _ (field (.ref e) 3 >>= _) _ _ ⟨h₁,g,d,tk,os⟩
  refine wpAny_bind (wpAny_field he₁ rfl (x:=rawInt i) rfl ?_)
  show wpAny _ _ (field (.ref e) 4 >>= _) _ _ ⟨h₁,g,d,tk,os⟩
  refine wpAny_bind (wpAny_field he₁ rfl (x := .none) rfl ?_)
  show wpAny _ _ (mkInt i >>= _) _ _ ⟨h₁,g,d,tk,os⟩
  refine wpAny_bind (wpAny_mkInt ?_)
  show wpAny _ _ (setField (.ref e) 3 (rawInt ((i:Int)+1)) >>= _) _ _ ⟨h₁,g,d,tk+1,os⟩
  refine wpAny_bind (wpAny_setField_rec he₁ (by simp) fun h₂ he₂ hs₂ => ?_)
  replace hs₂:Heap.SameBut e h₁ h₂:=hs₂
  replace he₂:IsEnum h₂ e it ((i:Int)+1) old:=he₂
  show wpAny _ _ (setField (.ref e) 4 .none >>= _) _ _ ⟨h₂,g,d,tk+1,os⟩
  refine wpAny_bind (wpAny_setField_rec he₂ (by simp) fun h₃ he₃ hs₃ => ?_)
  replace hs₃:Heap.SameBut e h₂ h₃:=hs₃
  replace he₃:IsEnum h₃ e it ((i:Int)+1) old:=he₃
  show wpAny _ _ (newTuple [.int i tk,u] >>= _) _ _ ⟨h₃,g,d,tk+1,os⟩
  refine wpAny_bind (wpAny_newTuple ?_)
  have he₄:IsEnum (h₃.push { cls := .type "tuple",data := .seq #[.int i tk,u] }) e it ((i:Int)+1) old:=Heap.get?_push_of_some _ he₃
  generalize hh₄:h₃.push { cls := .type "tuple",data := .seq #[.int i tk,u] }=h₄ at he₄
  have hsz:h₃.objs.size=hp.objs.size:=by rw [hs₃.1,hs₂.1,hs₁.1]
  have hel:e<hp.objs.size:=Heap.lt_size he
  have ht₄:h₄.get? hp.objs.size=some { cls := .type "tuple",data := .seq #[.int i tk,u] }:=by rw [← hh₄,← hsz];exact Heap.get?_push_size _ rfl
  have hz₄:h₄.objs.size=hp.objs.size+1:=by rw [← hh₄,Heap.size_push,hsz]
  have hk₄:∀ b o,b≠e→b≠it→hp.get? b=some o→h₄.get? b=some o:=fun b o hbe hbi hb=>by
    rw [← hh₄];exact Heap.get?_push_of_some _ (hs₃.extBut b o hbe (hs₂.extBut b o hbe (hs₁.extBut b o hbi hb)))
  have hit₄:st (i+1) h₄:=S.keep _ _ _ st₁ fun o y=>by
    rw [← hh₄];exact Heap.get?_push_of_some _ (hs₃.extBut it o hne.symm (hs₂.extBut it o hne.symm y))
  show wpAny _ _ (Builtin.SmallTypes.ownedTupleIsFree (.ref e) >>= _) _ _ ⟨h₄,g,d,tk+1,os⟩
  rw [hsz]
  clear hh₄ he₃ hs₃ he₂ hs₂ he₁ hs₁ st₁ hsz h₃ h₂ h₁
  refine wpAny_bind ?_
  unfold Builtin.SmallTypes.ownedTupleIsFree
  refine wpAny_bind (wpAny_field he₄ rfl (x := .none) rfl (wpAny_pure ?_))
  simp only [if_true]
  refine wpAny_bind (wpAny_rule ?_)
  refine wpAny_bind (wpAny_field he₄ rfl (x:=old) rfl ?_)
  refine wpAny_bind (wpAny_setField_rec he₄ (by simp) fun h₅ he₅ hs₅ => ?_)
  replace hs₅:Heap.SameBut e h₄ h₅:=hs₅
  replace he₅:IsEnum h₅ e it ((i:Int)+1) u:=he₅
  show wpAny _ _ (Builtin.SmallTypes.ownedTupleHandOut (.ref e) (.ref hp.objs.size) >>= _) _ _ ⟨h₅,g,d,tk+1,os⟩
  refine wpAny_bind ?_
  unfold Builtin.SmallTypes.ownedTupleHandOut
  refine wpAny_bind (wpAny_setField_rec he₅ (by simp) fun h₆ he₆ hs₆ => ?_)
  replace hs₆:Heap.SameBut e h₅ h₆:=hs₆
  replace he₆:IsEnumOut h₆ e it ((i:Int)+1) u hp.objs.size:=he₆
  refine wpAny_setField_rec he₆ (by simp) fun h₇ he₇ hs₇ => ?_
  replace hs₇:Heap.SameBut e h₆ h₇:=hs₇
  replace he₇:IsEnumOut h₇ e it ((i:Int)+1) u hp.objs.size:=he₇
  have up:∀ b o,b≠e→h₄.get? b=some o→h₇.get? b=some o:=fun b o hb y=>hs₇.extBut b o hb (hs₆.extBut b o hb (hs₅.extBut b o hb y))
  refine wpAny_bind (wpAny_letGo (wpAny_pure ⟨_,rfl,hQ u x h₇ tk rx yx he₇ (S.keep _ _ _ hit₄ fun o y=>up _ o hne.symm y) (up _ _ (Nat.ne_of_gt hel) ht₄) ?_ fun b o hbe hbi hb=>up b o hbe (hk₄ b o hbe hbi hb)⟩))
  rw [hs₇.1,hs₆.1,hs₅.1,hz₄]
end
def Ite (J:It):It:=⟨fun i H=>J.go i H,fun i H x H' => ∃ T y,H T=none∧J.yld i H y H∧x = .ref T∧H' = upd H T (.tup [.int i,y]),fun i H=>J.stop i H⟩
theorem z3y {P:Program} {w:World} {K:PySem.W.Frag} {elts:List Expr} {kk:Nat} {pos:Pos} {J:It} {st:Nat→Heap→Prop} {e it:Addr} (hne:e≠it) (S:Srce P w K J it st) :
    Turn P w K (.Tuple elts kk pos) (Ite J) [e,it] e (fun i h=>(∃ old,IsEnum h e it i old)∧st i h) where
  mem:=by simp
  obj:=fun i h hs b hb=>by
    obtain⟨⟨old,he⟩,h1⟩:=hs
    simp only [List.mem_cons,List.not_mem_nil,or_false] at hb
    rcases hb with rfl | rfl
    · exact⟨_,he,fun v z=>by cases z⟩
    · exact S.obj i h h1
  keep:=fun i h h' hs k=>by
    obtain⟨⟨old,he⟩,h1⟩:=hs
    exact⟨⟨old,k e (by simp) _ he⟩,S.keep _ _ _ h1 fun o y=>k it (by simp) o y⟩
  item:=by
    intro X hP hw hK hc i pins s σ H E I hf hs hg
    subst hP hw hK
    obtain⟨⟨old,he⟩,h1⟩:=hs
    have hT:s.TypeIs (.ref e) "enumerate" := ⟨_,he,rfl⟩
    unfold pyNext
    refine wpAny_bind (wpAny_attempt (wpAny_callSpecial?_slot (name:=Str.ofString "__next__") hT F.slot_enumerate_next
      (wpAny_call_entry F.slot_enumerate_next hT F.entry_enumerate_next
        (z2d S (I.ok.hd hc) I.vw (hf it (by simp)).1 ((hf it (by simp)).noK I) he h1 hg hne fun u x h' tk rx yx a1 a2 a3 a4 a5=>wpAny_pure ?_) (F.args_enumerate_next_1 _))))
    refine⟨_,rfl,?_⟩
    refine wpAny_letOwnedTupleGo_enum (s := { s with heap:=h',toks:=tk+1 }) a1 fun h2 he2 hs2 => ?_
    replace hs2:Heap.SameBut e h' h2:=hs2
    have k2:∀ c o,c ∉ [e,it]→s.heap.get? c=some o→h2.get? c=some o:=fun c o hcn y=>by
      simp only [List.mem_cons,List.not_mem_nil,or_false,not_or] at hcn
      exact hs2.extBut _ _ hcn.1 (a5 c o hcn.1 hcn.2 y)
    have elt:e<s.heap.objs.size:=Heap.lt_size he
    have ilt:it<s.heap.objs.size:=by obtain⟨o,y,_⟩:=S.obj _ _ h1;exact Heap.lt_size y
    have I1:Inv X pins σ H { s with heap:=h2,toks:=tk+1 }:=I.turnedL k2 hf
    have FT:FpOk X pins H s.heap.objs.size:=I.fpOk (Nat.le_refl _) I.fresh
    have hT2:h2.get? s.heap.objs.size=some { cls := .type "tuple",data := .seq #[.int i tk,u] }:=hs2.extBut _ _ (Nat.ne_of_gt elt) a3
    have I2:Inv X pins σ (upd H s.heap.objs.size (.tup [.int i,x])) { s with heap:=h2,toks:=tk+1 } :=
      I1.track I.sz FT ⟨by show 2≤sizeLine;decide,[.int i tk,u],.cons ⟨_,rfl⟩ (.cons rx .nil),⟨_,hT2,rfl,_,rfl⟩⟩
    refine⟨.ref s.heap.objs.size,_,I2,rfl,⟨_,x,I.fresh,yx,rfl,rfl⟩,⟨⟨u,by simpa using he2⟩,S.keep _ _ _ a2 fun o y=>hs2.extBut _ _ hne.symm y⟩,fun b hb => ?_⟩
    have hb2:=(hf b hb).1
    rw [q0c]
    · exact hb2
    · simp only [List.mem_cons,List.not_mem_nil,or_false] at hb
      rcases hb with rfl | rfl
      · exact Nat.ne_of_lt elt
      · exact Nat.ne_of_lt ilt
  done:=by
    intro X hP hw hK hc i pins s σ H E I hf hs hg
    subst hP hw hK
    obtain⟨⟨old,he⟩,h1⟩:=hs
    have hT:s.TypeIs (.ref e) "enumerate" := ⟨_,he,rfl⟩
    unfold pyNext
    refine wpAny_bind (wpAny_attempt (wpAny_callSpecial?_slot (name:=Str.ofString "__next__") hT F.slot_enumerate_next
      (wpAny_call_entry F.slot_enumerate_next hT F.entry_enumerate_next ?_ (F.args_enumerate_next_1 _))))
    show wpAny _ _ (field (.ref e) 2 >>= _) _ _ _
    refine wpAny_bind (wpAny_field he rfl (x := .ref it) rfl ?_)
    refine wpAny_bind (S.done _ i _ H _ _ (I.ok.hd hc) I.vw (hf it (by simp)).1 ((hf it (by simp)).noK I) h1 hg fun h' x he' hx' => ?_)
    obtain⟨o,ho,hcl⟩:=hx'
    refine wpAny_bind (wpAny_isInstance (T := "StopIteration") (b:=true) ⟨o,ho,hcl⟩ isSubtype_stop ?_)
    refine wpAny_pure ⟨rfl,I.turnedL (t' := s.toks) (fun c o hcn y => ?_) hf⟩
    simp only [List.mem_cons,List.not_mem_nil,or_false,not_or] at hcn
    exact he' c o hcn.2 y
  self:=fun _ _ _ _ _ hs h=>by
    obtain⟨⟨old,he⟩,_⟩:=hs
    exact wpAny_pyIter_enum he h
section
variable {X:Cx} {elts:List Expr} {kk:Nat} {tpos:Pos}
theorem q8v {pins:List (Addr×Obj)} {σ:St} {H:Hp} {s:Shared} {h' : Heap} {J:It} {st:Nat→Heap→Prop} {R:It→Hp→Prop} {E:Value→Shared→Prop} (I:Inv X pins σ H s) (S:Srce X.prog X.w X.K J s.heap.objs.size st)
    (he:IsEnum h' (s.heap.objs.size+1) s.heap.objs.size 0 .none) (h1:st 0 h') (hk:∀ c o,s.heap.get? c=some o→h'.get? c=some o) (q:R (Ite J) H) :
    wpAny (model X.prog X.w) X.A (pyIter (.ref (s.heap.objs.size+1))) (PIE X pins σ (.Tuple elts kk tpos) R) E { s with heap:=h' }:=by
  refine wpAny_pyIter_enum he ?_
  refine⟨_,_,_,_,H,rfl,I.kept (t' := s.toks) hk,z3y (show (s.heap.objs.size+1:Nat)≠s.heap.objs.size by lia) S,⟨⟨_,he⟩,h1⟩,fun b hb => ?_,q⟩
  have hb' : s.heap.objs.size≤b:=by
    simp only [List.mem_cons,List.not_mem_nil,or_false] at hb
    rcases hb with rfl | rfl
    · exact Nat.le_succ _
    · exact Nat.le_refl _
  exact I.fpOk hb' (I.hok.fresh hb')
def iEnum (K:PySem.W.Frag) (ta:TA):TI:=fun σ H R=>ta σ H fun vs H1=>(∃ z,vs = [.str z]∧R (Ite (Its z)) H1)∨∃ a xs,vs = [.ref a]∧SqL K H1 a xs∧R (Ite (Itl K a)) H1
theorem z9k {a:Expr} {ta:TA} {p pos:Pos} (hg:Gl X "enumerate") (hm:X.mg "enumerate" = none) (ha:PA X [a] ta) (hs:starEach [a] X.env = [(false,eval a X.env)]:=by rfl) :
    PI X (.Tuple elts kk tpos) (.Call (.Name "enumerate" p) [a] [] pos) (iEnum X.K ta):=by
  intro pins s σ H R I h
  refine Call_ (q8h I hg hm (by decide +kernel:bootBuiltins "enumerate" = some (.type "enumerate")) (PyProof.Rows.callWith_type1 (thn (ha pos pins s σ H _ I h) fun us s1 ⟨vs,H1,I1,r1,q1⟩ => ?_) hs rfl))
  rcases q1 with ⟨z,e,q⟩ | ⟨l,xs,e,hq,q⟩
  · subst e
    obtain⟨u,rfl,t,rfl⟩:=vals1 r1
    exact call_enumerate_str fun h' he hi hz hk=>q8v I1 (z6w _ z t) he hi hk q
  · subst e
    obtain⟨u,rfl,r⟩:=vals1 r1
    cases r
    obtain⟨its,rv,pl,_⟩:=I1.list hq
    exact call_enumerate_list pl.isList fun h' he hi hz hk=>q8v I1 (z3u l _) he hi hk q
theorem enum_k {a:Expr} {ta:TA} {p pos:Pos} (K:PySem.W.Frag) (hK:X.K=K) (hg:Gl X "enumerate") (hm:X.mg "enumerate" = none) (ha:PA X [a] ta) (hs:starEach [a] X.env = [(false,eval a X.env)]:=by rfl) :
    PI X (.Tuple elts kk tpos) (.Call (.Name "enumerate" p) [a] [] pos) (iEnum K ta):=by subst hK;exact z9k hg hm ha hs
end
end L2
namespace K
open PySem L2 TX
def NSs:Str:=Str.ofString "abcdefghijklmnopqrstuvwxyzABCDEFGHIJKLMNOPQRSTUVWXYZ0123456789-_."
def GSs:Str:=Str.ofString "?*#@"
abbrev NS:List Nat:=tl NSs
abbrev GS:List Nat:=tl GSs
inductive Pt where
  | tx (l:List Nat)
  | gp (c:Nat)
namespace Pt
def fl:Pt→List Nat
  | tx l=>l
  | gp c => [c]
def isG:Pt→Bool
  | tx _=>false
  | gp _=>true
def ok:Pt→Prop
  | tx l=>l ≠ []∧∀ c∈l,c∈NS
  | gp c=>c∈GS
def word:Pt→Str
  | tx _=>Str.ofString "text"
  | gp _=>Str.ofString "gap"
def vs (p:Pt):List V := [.str p.word,.str (mk p.fl)]
def dat (p:Pt):PyData := .tuple [.str p.word,.str (mk p.fl)]
end Pt
def tp (t:List Nat):List Pt:=if t = [] then [] else [.tx t]
def TKeep (H H' : Hp):Prop:=∀ T xs,H T=some (.tup xs)→H' T=some (.tup xs)
end K
namespace L2
open PySem PySem.Spec PyProof.Rows
section
variable {X:Cx} {x c:Str} {k:Nat} {p pos apos cpos:Pos} {o:Expr} {to:TE}
end
end L2
namespace L2
open PySem PySem.Spec PyProof.Rows
section
variable {κ:Type} [DecidableEq κ]
def valV (kvs:List (κ×V)) (k:κ):Option V:=(kvs.find? fun kv=>decide (kv.1=k)).map (·.2)
def putK (kvs:List (κ×V)) (k:κ) (v:V):List (κ×V) :=
  if (kvs.any fun kv=>decide (kv.1=k))=true then kvs.map (fun kv=>if kv.1=k then (kv.1,v) else kv) else kvs ++ [(k,v)]
def dropK (kvs:List (κ×V)) (k:κ):List (κ×V):=kvs.filter fun kv=>decide (kv.1≠k)
theorem q1o {p:κ×V} {r:List (κ×V)} {k:κ} (e:p.1=k):valV (p::r) k=some p.2:=by simp [valV,List.find?_cons,e]
theorem q1l {p:κ×V} {r:List (κ×V)} {k:κ} (e:¬ p.1=k):valV (p::r) k=valV r k:=by simp [valV,List.find?_cons,e]
theorem q3z (k:κ):∀ kvs:List (κ×V),(kvs.any fun kv=>decide (kv.1=k))=(valV kvs k).isSome
  | []=>rfl
  | p::r=>by
    rw [List.any_cons]
    by_cases e:p.1=k
    · simp only [q1o e,decide_eq_true e,Bool.true_or,Option.isSome_some]
    · rw [q1l e,decide_eq_false e,Bool.false_or];exact q3z k r
theorem z0s (k j:κ) (y:V):∀ kvs:List (κ×V),valV (kvs.map fun kv=>if kv.1=k then (kv.1,y) else kv) j=(valV kvs j).map fun x=>if j=k then y else x
  | []=>rfl
  | p::r=>by
    have ih:=z0s k j y r
    rw [List.map_cons]
    by_cases h:p.1=k
    · rw [if_pos h]
      by_cases e:p.1=j
      · rw [q1o (p:=(p.1,y)) e,q1o e,Option.map_some,if_pos (e.symm.trans h)]
      · rw [q1l (p:=(p.1,y)) e,q1l e,ih]
    · rw [if_neg h]
      by_cases e:p.1=j
      · rw [q1o (p:=p) e,q1o e,Option.map_some,if_neg (fun z=>h (e.trans z))]
      · rw [q1l (p:=p) e,q1l e,ih]
theorem q8w (k j:κ) (y:V):∀ kvs:List (κ×V),valV kvs k=none→valV (kvs ++ [(k,y)]) j=if j=k then some y else valV kvs j
  | [],_=>by
    by_cases e:k=j
    · rw [if_pos e.symm];exact q1o (p:=(k,y)) e
    · rw [if_neg (fun z=>e z.symm)];exact q1l (p:=(k,y)) e
  | p::r,hn=>by
    rw [List.cons_append]
    have hk:¬ p.1=k:=fun z=>by rw [q1o z] at hn;cases hn
    rw [q1l hk] at hn
    have ih:=q8w k j y r hn
    by_cases e:p.1=j
    · rw [q1o e,q1o e,if_neg (fun z=>hk (e.trans z))]
    · rw [q1l e,q1l e,ih]
theorem z6z (kvs:List (κ×V)) (k j:κ) (y:V):valV (putK kvs k y) j=if j=k then some y else valV kvs j:=by
  unfold putK
  by_cases a:(kvs.any fun kv=>decide (kv.1=k))=true
  · rw [if_pos a,z0s]
    rw [q3z] at a
    by_cases e:j=k
    · obtain⟨x,hx⟩:=Option.isSome_iff_exists.mp a
      rw [if_pos e,e,hx,Option.map_some,if_pos rfl]
    · rw [if_neg e]
      cases valV kvs j with
      | none=>rfl
      | some x=>rw [Option.map_some,if_neg e]
  · rw [if_neg a]
    refine q8w k j y kvs ?_
    rw [q3z] at a
    cases q:valV kvs k with
    | none=>rfl
    | some x=>rw [q] at a;exact (a rfl).elim
theorem q2b (kvs:List (κ×V)) (k:κ) (v:V):(putK kvs k v).length≤kvs.length+1:=by
  unfold putK
  split
  · rw [List.length_map];lia
  · rw [List.length_append,List.length_cons,List.length_nil];lia
theorem z7a {kvs:List (κ×V)} {k:κ} (v:V) (h:valV kvs k=none):putK kvs k v=kvs ++ [(k,v)]:=by
  unfold putK
  rw [q3z,h]
  exact if_neg (by decide)
theorem RelO.isSome_eq {o:Option V} {u:Option Value} (r:RelO o u):o.isSome=u.isSome:=by
  cases o with
  | none=>cases u with
    | none=>rfl
    | some _=>exact (show False from r).elim
  | some _=>cases u with
    | none=>exact (show False from r).elim
    | some _=>rfl
theorem RelO.getD {o:Option V} {u:Option Value} {d:V} {d' : Value} (r:RelO o u) (rd:RelV d d'):RelV (o.getD d) (u.getD d'):=by
  cases o with
  | none=>cases u with
    | none=>exact rd
    | some _=>exact (show False from r).elim
  | some _=>cases u with
    | none=>exact (show False from r).elim
    | some _=>exact r
theorem KV.val {kvs:List (κ×V)} {vs:List (κ×Value)} (r:KV kvs vs) (k:κ):RelO (valV kvs k) (valueAt vs k):=by
  unfold KV at r
  induction r with
  | nil=>exact True.intro
  | @cons p q ps qs h t ih =>
    obtain⟨h1,h2⟩:=h
    by_cases e:p.1=k
    · have e' : q.1=k:=h1.symm.trans e
      have b:valueAt (q::qs) k=some q.2:=by simp [valueAt,List.find?_cons,e']
      rw [q1o e,b];exact h2
    · have e' : ¬ q.1=k:=fun z=>e (h1.trans z)
      have b:valueAt (q::qs) k=valueAt qs k:=by simp [valueAt,List.find?_cons,e']
      rw [q1l e,b];exact ih
theorem KV.any {kvs:List (κ×V)} {vs:List (κ×Value)} (r:KV kvs vs) (k:κ):(kvs.any fun kv=>decide (kv.1=k))=vs.any fun kv=>decide (kv.1=k):=by
  unfold KV at r
  induction r with
  | nil=>rfl
  | cons h t ih=>rw [List.any_cons,List.any_cons,ih,h.1]
theorem KV.repl {kvs:List (κ×V)} {vs:List (κ×Value)} (r:KV kvs vs) (k:κ) {y:V} {u:Value} (ry:RelV y u) :
    KV (kvs.map fun kv=>if kv.1=k then (kv.1,y) else kv) (vs.map fun kv=>if kv.1=k then (kv.1,u) else kv):=by
  unfold KV at r ⊢
  induction r with
  | nil=>exact .nil
  | @cons p q ps qs h t ih =>
    rw [List.map_cons,List.map_cons]
    refine .cons ?_ ih
    obtain⟨h1,h2⟩:=h
    by_cases e:p.1=k
    · rw [if_pos e,if_pos (h1.symm.trans e)];exact⟨h1,ry⟩
    · rw [if_neg e,if_neg (fun z=>e (h1.trans z))];exact⟨h1,h2⟩
theorem KV.put {kvs:List (κ×V)} {vs:List (κ×Value)} (r:KV kvs vs) (k:κ) {y:V} {u:Value} (ry:RelV y u):KV (putK kvs k y) (stored vs k u):=by
  unfold putK stored
  rw [r.any k]
  by_cases e:(vs.any fun kv=>decide (kv.1=k))=true
  · rw [if_pos e,if_pos e];exact r.repl k ry
  · rw [if_neg e,if_neg e];exact Paired.snoc r ⟨rfl,ry⟩
theorem KV.length {kvs:List (κ×V)} {vs:List (κ×Value)} (r:KV kvs vs):kvs.length=vs.length:=Paired.length r
end
theorem z2e {P:Program} {w:World} {k:Key} {u:Value} (r:RelV (kV k) u):(mixKind P w).is k u=true:=by
  cases k with
  | inl i=>obtain⟨t,e⟩:=(show ∃ t,u=Value.int i t from r);subst e;exact q9t P w i t
  | inr x=>obtain⟨t,e⟩:=(show ∃ t,u=Value.str x t from r);subst e;exact q9u P w x t
theorem q8x {P:Program} {w:World}:∀ {ks:List Key} {us:List Value},Vals (ks.map kV) us→ItemsAre (mixKind P w) ks us
  | [],_,r=>by rw [List.map_nil] at r;cases r;exact .nil
  | k::ks,_,r=>by
    rw [List.map_cons] at r
    cases r with
    | cons h t=>exact .cons (z2e h) (q8x t)
abbrev KT (H:Hp):List (List Key×V)→List (List Key×Addr×Value)→Prop:=Paired fun p q=>p.1=q.1∧H q.2.1=some (.tup (p.1.map kV))∧RelV p.2 q.2.2
theorem KT.val {H:Hp} {kvs:List (List Key×V)} {xs:List (List Key×Addr×Value)} (r:KT H kvs xs) (k:List Key):RelO (valV kvs k) ((atKey xs k).map (·.2)):=by
  induction r with
  | nil=>exact True.intro
  | @cons p q ps qs h t ih =>
    obtain⟨h1,_,h2⟩:=h
    by_cases e:p.1=k
    · have e' : q.1=k:=h1.symm.trans e
      have b:atKey (q::qs) k=some q.2:=by simp [atKey,List.find?_cons,e']
      rw [q1o e,b];exact h2
    · have e' : ¬ q.1=k:=fun z=>e (h1.trans z)
      have b:atKey (q::qs) k=atKey qs k:=by simp [atKey,List.find?_cons,e']
      rw [q1l e,b];exact ih
theorem KT.repl {H:Hp} {kvs:List (List Key×V)} {xs:List (List Key×Addr×Value)} (r:KT H kvs xs) (k:List Key) {y:V} {u:Value} (ry:RelV y u) :
    KT H (kvs.map fun kv=>if kv.1=k then (kv.1,y) else kv) (xs.map (putAt k u)):=by
  induction r with
  | nil=>exact .nil
  | @cons p q ps qs h t ih =>
    rw [List.map_cons,List.map_cons]
    refine .cons ?_ ih
    obtain⟨h1,h2,h3⟩:=h
    unfold putAt
    by_cases e:p.1=k
    · rw [if_pos e,if_pos (h1.symm.trans e)];exact⟨h1,h2,ry⟩
    · rw [if_neg e,if_neg (fun z=>e (h1.trans z))];exact⟨h1,h2,h3⟩
theorem KT.put {H:Hp} {kvs:List (List Key×V)} {xs:List (List Key×Addr×Value)} (r:KT H kvs xs) (k:List Key) {b:Addr} {y:V} {u:Value} (hb:H b=some (.tup (k.map kV))) (ry:RelV y u) :
    KT H (putK kvs k y) (storedH xs k b u):=by
  have e:(kvs.any fun kv=>decide (kv.1=k))=(atKey xs k).isSome:=by
    rw [q3z,(r.val k).isSome_eq,Option.isSome_map]
  unfold putK storedH
  rw [e]
  by_cases q:(atKey xs k).isSome=true
  · rw [if_pos q,if_pos q];exact r.repl k ry
  · rw [if_neg q,if_neg q];exact Paired.snoc r ⟨rfl,hb,ry⟩
theorem KT.keeps {H H' : Hp} {kvs:List (List Key×V)} {xs:List (List Key×Addr×Value)} (r:KT H kvs xs) (ht:∀ b ys,H b=some (.tup ys)→H' b=some (.tup ys)):KT H' kvs xs :=
  Paired.mapP r fun _ _ z=>⟨z.1,ht _ _ z.2.1,z.2.2⟩
section
variable {P:Program} {w:World} {H:Hp} {h:Heap} {a:Addr}
theorem rd_of {u:HO} (ok:HOk P w H h) (e:Rd H a u):ObjOk P w H h a u:=e.ok ok
theorem q9z {kvs:List (Key×V)} (ok:HOk P w H h) (e:Rd H a (.dK kvs)):kvs.length≤sizeLine∧(a==sysModules)=false∧∃ vs,KV kvs vs∧h.DictOf (mixKind P w) a vs :=
  show ObjOk P w H h a (.dK kvs) from rd_of ok e
theorem dk_of {kvs:List (Key×V)} (ok:HOk P w H h) (e:H a=some (.dK kvs)):kvs.length≤sizeLine∧(a==sysModules)=false∧∃ vs,KV kvs vs∧h.DictOf (mixKind P w) a vs:=q9z ok (.inl e)
theorem q4a {ks:List Key} (ok:HOk P w H h) (e:H a=some (.tup (ks.map kV))):(tupleKind (mixKind P w)).is h ks a:=by
  obtain⟨_,its,r,o,h1,h2,n,h3⟩:=(show ObjOk P w H h a (.tup (ks.map kV)) from ok a _ e)
  exact⟨o,its.toArray,n,h1,h2,h3,by simpa using q8x r⟩
theorem z0a {kvs:List (List Key×V)} (ok:HOk P w H h) (e:Rd H a (.dT kvs)):kvs.length≤sizeLine∧(a==sysModules)=false ∧
    ∃ xs,KT H kvs xs∧h.DictOfH (tupleKind (mixKind P w)) a xs:=by
  obtain⟨z,y,xs,r,o,es,ep,h1,h2,h3,h4,h5⟩:=(show ObjOk P w H h a (.dT kvs) from rd_of ok e)
  refine⟨z,y,xs,r,o,es,ep,h1,h2,h3,h4,fun x hx => ?_,h5⟩
  have all:∀ {l:List (List Key×V)} {m:List (List Key×Addr×Value)},KT H l m→∀ x∈m,(tupleKind (mixKind P w)).is h x.1 x.2.1:=by
    intro l m q
    induction q with
    | nil=>intro x hx;exact nomatch hx
    | @cons p q ps qs hq t ih =>
      intro x hx
      rcases List.mem_cons.mp hx with e | hx
      · subst e
        exact q4a ok (by rw [← hq.1];exact hq.2.1)
      · exact ih x hx
  exact all r x hx
theorem z3z {kvs:List (List Key×V)} (ok:HOk P w H h) (e:H a=some (.dT kvs)):kvs.length≤sizeLine∧(a==sysModules)=false ∧
    ∃ xs,KT H kvs xs∧h.DictOfH (tupleKind (mixKind P w)) a xs:=z0a ok (.inl e)
end
def DGet (H:Hp) (a:Addr) (y:V) (r:Option V):Prop :=
  (∃ kvs k,Rd H a (.dK kvs)∧y=kV k∧r=valV kvs k)∨∃ kvs k b,Rd H a (.dT kvs)∧y = .ref b∧H b=some (.tup (k.map kV))∧r=valV kvs k
def DPut (H:Hp) (a:Addr) (y v:V) (H' : Hp):Prop :=
  (∃ kvs k,H a=some (.dK kvs)∧y=kV k∧kvs.length<sizeLine∧H' = upd H a (.dK (putK kvs k v))) ∨
  ∃ kvs k b,H a=some (.dT kvs)∧y = .ref b∧H b=some (.tup (k.map kV))∧kvs.length<sizeLine∧H' = upd H a (.dT (putK kvs k v))
theorem DGet.t {H:Hp} {a b:Addr} {kvs:List (List Key×V)} {k:List Key} (e:H a=some (.dT kvs)) (eb:H b=some (.tup (k.map kV))):DGet H a (.ref b) (valV kvs k) := .inr ⟨kvs,k,b,.inl e,rfl,eb,rfl⟩
theorem DPut.t {H:Hp} {a b:Addr} {kvs:List (List Key×V)} {k:List Key} {v:V} (e:H a=some (.dT kvs)) (eb:H b=some (.tup (k.map kV))) (hl:kvs.length<sizeLine) :
    DPut H a (.ref b) v (upd H a (.dT (putK kvs k v))) := .inr ⟨kvs,k,b,e,rfl,eb,hl,rfl⟩
section
variable {X:Cx} {pins:List (Addr×Obj)} {σ:St} {H:Hp} {s:Shared} {a:Addr} {y v:V} {u r:Value} {o:Option V} {A:Around} {E:Value→Shared→Prop}
theorem Inv.big (I:Inv X pins σ H s):sysModules<s.heap.objs.size:=by
  have h:mainGlobals<s.heap.objs.size:=(I.mod.glob.keeps I.bk).lt
  exact Nat.lt_trans (by decide) h
theorem z4a {Q:Value→Shared→Prop} (hu:A.units+1<cLine) (I:Inv X pins σ H s) (g:DGet H a y (some v)) (ry:RelV y u) (h:∀ w' s',Inv X pins σ H s' → RelV v w' → Q w' s') :
    wpAny (model X.prog X.w) A (getItem (.ref a) u) Q E s:=by
  rcases g with ⟨kvs,k,e,ey,l⟩ | ⟨kvs,k,b,e,ey,eb,l⟩
  · subst ey
    obtain⟨z,hd,vs,rel,dd⟩:=q9z I.hok e
    obtain⟨w',hw,rw'⟩:=RelO.some_of (v:=v) (o:=valueAt vs k) (by rw [l];exact rel.val k)
    exact wpAny_getItem_of (z2e ry) dd.mapOf hw (h w' _ (I.tok _) rw')
  · subst ey
    cases (show u=Value.ref b from ry)
    obtain⟨z,hd,xs,rel,dd⟩:=z0a I.hok e
    obtain⟨w',hw,rw'⟩:=RelO.some_of (v:=v) (o:=(atKey xs k).map (·.2)) (by rw [l];exact rel.val k)
    obtain⟨p,hp,hp2⟩:=Option.map_eq_some_iff.mp hw
    refine wpAny_getItem_heap (tupleKind_room_in1 hu) (q4a I.hok eb) dd hp ?_
    rw [hp2]
    exact h w' _ (I.tok _) rw'
theorem d_in {Q:Value→Shared→Prop} (hu:A.units+1<cLine) (I:Inv X pins σ H s) (g:DGet H a y o) (ry:RelV y u) (h:∀ s',Inv X pins σ H s' → Q (.bool o.isSome) s') :
    wpAny (model X.prog X.w) A (compareOp .In u (.ref a)) Q E s:=by
  rcases g with ⟨kvs,k,e,ey,l⟩ | ⟨kvs,k,b,e,ey,eb,l⟩
  · subst ey
    obtain⟨z,hd,vs,rel,dd⟩:=q9z I.hok e
    refine wpAny_in_of (z2e ry) hd dd.mapOf ?_
    rw [← (rel.val k).isSome_eq,← l]
    exact h _ (I.tok _)
  · subst ey
    cases (show u=Value.ref b from ry)
    obtain⟨z,hd,xs,rel,dd⟩:=z0a I.hok e
    refine wpAny_in_heap (tupleKind_room_in1 hu) (q4a I.hok eb) hd dd ?_
    have q:=(rel.val k).isSome_eq
    rw [Option.isSome_map] at q
    rw [← q,← l]
    exact h _ (I.tok _)
theorem z9l {Q:Value→Shared→Prop} (hu:A.units+1<cLine) (I:Inv X pins σ H s) (g:DGet H a y o) (ry:RelV y u) (h:∀ s',Inv X pins σ H s' → Q (.bool (!o.isSome)) s') :
    wpAny (model X.prog X.w) A (compareOp .NotIn u (.ref a)) Q E s:=by
  rcases g with ⟨kvs,k,e,ey,l⟩ | ⟨kvs,k,b,e,ey,eb,l⟩
  · subst ey
    obtain⟨z,hd,vs,rel,dd⟩:=q9z I.hok e
    refine wpAny_notIn_of (z2e ry) hd dd.mapOf ?_
    rw [← (rel.val k).isSome_eq,← l]
    exact h _ (I.tok _)
  · subst ey
    cases (show u=Value.ref b from ry)
    obtain⟨z,hd,xs,rel,dd⟩:=z0a I.hok e
    refine wpAny_notIn_heap (tupleKind_room_in1 hu) (q4a I.hok eb) hd dd ?_
    have q:=(rel.val k).isSome_eq
    rw [Option.isSome_map] at q
    rw [← q,← l]
    exact h _ (I.tok _)
theorem q6a {h' : Heap} {t' : Nat} {ob:HO} (I:Inv X pins σ H s) (mu:Mut (H a)) (hs:Heap.SameBut a s.heap h') (he:∃ q,h'.get? a=some q) (new:ObjOk X.prog X.w (upd H a ob) h' a ob) :
    Inv X pins σ (upd H a ob) { s with heap:=h',toks:=t' } :=
  I.write (x:=a) (e:=a) mu (.inl rfl) (fun b q hb z=>(hs.2 b hb).trans z) he new
theorem dk_new {P:Program} {w:World} {H' : Hp} {h' : Heap} {kvs:List (Key×V)} {vs:List (Key×Value)} (z:kvs.length≤sizeLine) (hd:(a==sysModules)=false) (rel:KV kvs vs) (dd:h'.DictOf (mixKind P w) a vs) :
    ObjOk P w H' h' a (.dK kvs):=⟨z,hd,vs,rel,dd⟩
theorem z4b {H' : Hp} {Q:Unit→Shared→Prop} (hu:A.units+1<cLine) (I:Inv X pins σ H s) (g:DPut H a y v H') (ry:RelV y u) (rv:RelV v r) (h:∀ s',Inv X pins σ H' s' → Q () s') :
    wpAny (model X.prog X.w) A (setItem (.ref a) u r) Q E s:=by
  rcases g with ⟨kvs,k,e,ey,l,eH⟩ | ⟨kvs,k,b,e,ey,eb,l,eH⟩
  · subst ey eH
    obtain⟨z,hd,vs,rel,dd⟩:=dk_of I.hok e
    have hz:vs.length≤sizeLine:=by rw [← rel.length];exact z
    have hl:(putK kvs k v).length≤sizeLine:=by have:=q2b kvs k v;lia
    refine wpAny_setItem_pairs (hsz:=hz) (z2e ry) dd fun h' dd' hs=>h _ ?_
    have he:∃ q,h'.get? a=some q:=let ⟨q,_,_,hq,_⟩:=dd';⟨q,hq⟩
    exact q6a I (by rw [e];exact True.intro) hs he (dk_new hl hd (rel.put k rv) dd')
  · subst ey eH
    cases (show u=Value.ref b from ry)
    obtain⟨z,hd,xs,rel,dd⟩:=z3z I.hok e
    have hz:xs.length≤sizeLine:=by rw [← Paired.length rel];exact z
    have hl:(putK kvs k v).length≤sizeLine:=by have:=q2b kvs k v;lia
    refine wpAny_setItem_heap (hsz:=hz) (tupleKind_room_in1 hu) (q4a I.hok eb) dd fun h' dd' hs=>h _ ?_
    obtain⟨q,es,ep,hq,h2,h3,h4,_,h5⟩:=dd'
    refine q6a I (by rw [e];exact True.intro) hs ⟨q,hq⟩ ⟨hl,hd,_,(rel.put k eb rv).keeps fun c ys ec => ?_,q,es,ep,hq,h2,h3,h4,h5⟩
    rw [q0c (z2r ec e (fun z=>nomatch z))]
    exact ec
end
section
variable {X:Cx} {pins:List (Addr×Obj)} {σ:St} {H:Hp} {s:Shared} {a:Addr} {kvs:List (Key×V)} {k:Key} {u:Value} {A:Around} {E:Value→Shared→Prop}
end
def NoSl (i:Expr):Prop:=∀ ov iv,subscripted i false ov iv=operate [ov,iv] (getItem ov iv)
theorem z9m {prog:Program} {w:World} {A:Around} {E:Value→Shared→Prop} {s:Shared} {env:Env} {value slice:Expr} {pos:Pos} {T id:String} {Q:Value→Shared→Prop}
    (hl:typeLookup (.type T) "__getitem__" = pure (some (.builtin id))) (hs:NoSl slice)
    (h:wpAny (model prog w) A (eval value env) (fun o s₁=>wpAny (model prog w) A (eval slice env) (fun i s₂=>s₂.TypeIs o T∧wpAny (model prog w) A (getItem o i) Q E s₂) E s₁) E s) :
    wpAny (model prog w) A (eval (.Subscript value slice pos) env) Q E s:=by
  refine Subscript_ (wpAny_mono h (fun o s₁ h₁=>wpAny_mono h₁ (fun i s₂ h₂ => ?_) fun _ _ x=>x) fun _ _ x=>x)
  obtain⟨hT,h₂⟩:=h₂
  unfold subscriptTail
  refine wpAny_bind ?_
  rw [getitemInPython_of_ne hT.not_modules]
  refine wpAny_bind (wpAny_specialOf hT hl ?_)
  have fin:wpAny (model prog w) A (subscripted slice false o i) (fun r s₃=>wpAny (model prog w) A (letTemporaryGo value o r >>= fun _=>pure r) Q E s₃) E s₂:=by
    rw [hs o i]
    exact wpAny_operating (wpAny_mono h₂ (fun r s₃ h₃=>wpAny_bind (wpAny_letTemporaryGo (wpAny_pure h₃))) fun _ _ x=>x)
  first
    | exact wpAny_pure (wpAny_bind fin)
    | exact wpAny_bind (wpAny_pure (wpAny_bind fin))
    | exact wpAny_bind fin
theorem z0b {X:Cx} {pins:List (Addr×Obj)} {σ:St} {H:Hp} {s:Shared} {a:Addr} {y:V} {o:Option V} (I:Inv X pins σ H s) (g:DGet H a y o):s.TypeIs (.ref a) "dict" := by
  rcases g with ⟨kvs,k,e,_,_⟩ | ⟨kvs,k,b,e,_,_,_⟩
  · obtain⟨_,_,vs,_,dd⟩:=q9z I.hok e
    exact dd.typeIs
  · obtain⟨_,_,xs,_,dd⟩:=z0a I.hok e
    exact dd.typeIs
def tDGet (td ty:TE):TE:=fun σ H Q=>td σ H fun x H1=>ty σ H1 fun y H2=>∃ a v,x = .ref a∧DGet H2 a y (some v)∧Q v H2
def tDIn (ty td:TE):TE:=fun σ H Q=>ty σ H fun y H1=>td σ H1 fun x H2=>∃ a o,x = .ref a∧DGet H2 a y o∧Q (.bl o.isSome) H2
def tDNotIn (ty td:TE):TE:=fun σ H Q=>ty σ H fun y H1=>td σ H1 fun x H2=>∃ a o,x = .ref a∧DGet H2 a y o∧Q (.bl (!o.isSome)) H2
def sDPut (td ty tv:TE):TS:=fun D σ H=>tv σ H fun v H1=>td σ H1 fun x H2=>ty σ H2 fun y H3=>∃ a H4,x = .ref a∧DPut H3 a y v H4∧D.nx σ H4
section
variable {X:Cx} {o i e value:Expr} {pos pos' tpos:Pos} {td ty tv:TE}
theorem z4c (hu:X.A.units+1<cLine) (ho:PE X o td) (hi:PE X i ty) (hs:NoSl i):PE X (.Subscript o i pos) (tDGet td ty):=by
  intro pins s σ H Q I h
  refine z9m PySem.F.slot_dict_getitem.lookup hs (thn (ho pins s σ H _ I h) fun u s1 ⟨x,H1,I1,rx,q1⟩=>thn (hi pins s1 σ H1 _ I1 q1) fun iv s2 ⟨y,H2,I2,ry,a,v,ex,g,q2⟩ => ?_)
  subst ex
  obtain rfl:u=Value.ref a:=rx
  exact⟨z0b I2 g,z4a hu I2 g ry fun w' s3 I3 rw' => ⟨v,H2,I3,rw',q2⟩⟩
theorem pc_din (hu:X.A.units+1<cLine) (hi:PE X i ty) (ho:PE X o td):PC X .In i o (tDIn ty td):=by
  intro pins s σ H Q I h
  refine thn (hi pins s σ H _ I h) fun iv s1 ⟨y,H1,I1,ry,q1⟩=>thn (ho pins s1 σ H1 _ I1 q1) fun u s2 ⟨x,H2,I2,rx,a,ov,ex,g,q2⟩ => ?_
  subst ex
  obtain rfl:u=Value.ref a:=rx
  exact d_in hu I2 g ry fun s3 I3=>⟨.bl ov.isSome,H2,I3,rfl,q2⟩
theorem q4b (hu:X.A.units+1<cLine) (hi:PE X i ty) (ho:PE X o td):PC X .NotIn i o (tDNotIn ty td):=by
  intro pins s σ H Q I h
  refine thn (hi pins s σ H _ I h) fun iv s1 ⟨y,H1,I1,ry,q1⟩=>thn (ho pins s1 σ H1 _ I1 q1) fun u s2 ⟨x,H2,I2,rx,a,ov,ex,g,q2⟩ => ?_
  subst ex
  obtain rfl:u=Value.ref a:=rx
  exact z9l hu I2 g ry fun s3 I3=>⟨.bl (!ov.isSome),H2,I3,rfl,q2⟩
theorem q7v (hu:X.A.units+1<cLine) (ho:PE X o td) (hi:PE X i ty) (hv:PE X value tv) (hs:swapsWith value (some (.Subscript o i pos')) pos.line X.env=pure false) :
    PS X (.Assign [.Subscript o i pos'] value pos) (sDPut td ty tv):=by
  intro pins s σ H D I h
  refine wpAny_Assign_Subscript (thn (hv pins s σ H _ I h) fun r s1 ⟨v,H1,I1,rv,q1⟩=>thn (ho pins s1 σ H1 _ I1 q1) fun u s2 ⟨x,H2,I2,rx,q2⟩=>thn (hi pins s2 σ H2 _ I2 q2) fun iv s3 ⟨y,H3,I3,ry,a,H4,ex,g,q3⟩ => ?_) hs
  subst ex
  obtain rfl:u=Value.ref a:=rx
  exact z4b hu I3 g ry rv fun s4 I4=>⟨σ,H4,I4,q3⟩
end
theorem q7w {P:Program} {w:World} {H:Hp} (h:Heap) (hb:sysModules<h.objs.size):ObjOk P w H (h.push { cls := .type "dict",data := .dict #[] }) h.objs.size (.dT []) :=
  ⟨Nat.zero_le _,beq_eq_false_iff_ne.mpr (Ne.symm (Nat.ne_of_lt hb)),[],.nil,_,#[],0,Heap.get?_push_size _ rfl,⟨rfl,rfl,rfl⟩,rfl,rfl,List.nodup_nil⟩
def tDNewT:TE:=fun _ H Q=>∀ p,H p=none→Q (.ref p) (upd H p (.dT []))
section
variable {X:Cx} {pos:Pos}
theorem z0t:PE X (.Dict [] [] pos) tDNewT:=fun pins s σ H Q I h =>
  wpAny_Dict_empty ⟨.ref s.heap.objs.size,_,I.laid (a:=s.heap.objs.size) (o := .dT []) (t' := s.toks) (fun _ _ q=>Heap.get?_push_of_some _ q) (Nat.le_refl _) (q7w s.heap I.big),rfl,h _ (I.hok.fresh (Nat.le_refl _))⟩
end
structure M2 (X:Cx) (o:Expr) (m:Str) (apos:Pos) (e f:Expr) (cpos:Pos):Prop where
  base:attributeBase o m X.env (eval o X.env)=eval o X.env
  few:((backTo cpos (starEach [e,f] X.env)).all (fun x => !x.1)&&(backToKw cpos (keywordEach [] X.env)).all (fun x=>x.1.isSome)
    && decide (([e,f]:List Expr).length+([]:List Keyword).length+(if ([]:List Keyword).isEmpty then 0 else 1)<30))=true
  line:(apos.endLine==cpos.line)=true
  trees:backTo cpos (starEach [e,f] X.env) = [(false,eval e X.env),(false,eval f X.env)]
def IsD (H:Hp) (a:Addr):Prop:=(∃ kvs,Rd H a (.dK kvs))∨∃ kvs,Rd H a (.dT kvs)
theorem isD_at {X:Cx} {pins:List (Addr×Obj)} {σ:St} {H:Hp} {s:Shared} {a:Addr} (I:Inv X pins σ H s) (d:IsD H a) :
    s.TypeIs (.ref a) "dict" ∧ (∀ b,Value.ref a = .ref b→∃ ob,s.heap.get? b=some ob∧ob.dict=none)∧(a==sysModules)=false:=by
  rcases d with ⟨kvs,e⟩ | ⟨kvs,e⟩
  · obtain⟨_,hd,vs,_,dd⟩:=q9z I.hok e
    refine⟨dd.typeIs,fun b q => ?_,hd⟩
    cases q
    obtain⟨ob,_,_,h1,h2,_⟩:=dd
    exact⟨ob,h1,h2.2.1⟩
  · obtain⟨_,hd,xs,_,dd⟩:=z0a I.hok e
    refine⟨dd.typeIs,fun b q => ?_,hd⟩
    cases q
    obtain⟨ob,_,_,h1,h2,_⟩:=dd
    exact⟨ob,h1,h2.2.1⟩
section
variable {X:Cx} {pins:List (Addr×Obj)} {σ:St} {H:Hp} {s:Shared} {a:Addr} {y d:V} {u r:Value} {o:Option V} {A:Around} {E:Value→Shared→Prop}
theorem d_get2 {Q:Value→Shared→Prop} (hu:A.units+1<cLine) (I:Inv X pins σ H s) (g:DGet H a y o) (ry:RelV y u) (rd:RelV d r) (h:∀ w' s',Inv X pins σ H s' → RelV (o.getD d) w' → Q w' s') :
    wpAny (model X.prog X.w) A (call (.builtin "dict.get") [.ref a,u,r]) Q E s:=by
  rcases g with ⟨kvs,k,e,ey,l⟩ | ⟨kvs,k,b,e,ey,eb,l⟩
  · subst ey
    obtain⟨z,hd,vs,rel,dd⟩:=q9z I.hok e
    refine call_meetsIn PySem.F.slot_dict_get dd.typeIs PySem.F.entry_dict_get (PySem.F.args_dict_get_3 _ _ _) (meets_dict_get_default (mixKind X.prog X.w) a (z2e ry) hd r) ⟨_,dd.mapOf,h _ _ (I.tok _) ?_⟩
    rw [l]
    exact (rel.val k).getD rd
  · subst ey
    cases (show u=Value.ref b from ry)
    obtain⟨z,hd,xs,rel,dd⟩:=z0a I.hok e
    refine call_meetsIn PySem.F.slot_dict_get dd.typeIs PySem.F.entry_dict_get (PySem.F.args_dict_get_3 _ _ _) (meetsH_dict_get_default (tupleKind (mixKind X.prog X.w)) a b hd r) ⟨tupleKind_room_in1 hu,k,xs,q4a I.hok eb,dd,h _ _ (I.tok _) ?_⟩
    rw [l]
    exact (rel.val k).getD rd
end
def tDGet2 (td ty tx:TE):TE:=fun σ H Q=>td σ H fun x H1=>∃ a,x = .ref a∧IsD H1 a∧ty σ H1 fun y H2=>tx σ H2 fun z H3=>∃ o,DGet H3 a y o∧Q (o.getD z) H3
section
variable {X:Cx} {o e f:Expr} {apos cpos:Pos} {td ty tx:TE}
theorem z7b (hu:X.A.units+1<cLine) (ho:PE X o td) (he:PE X e ty) (hf:PE X f tx) (m:M2 X o "get" apos e f cpos):PE X (.Call (.Attribute o "get" apos) [e,f] [] cpos) (tDGet2 td ty tx):=by
  intro pins s σ H Q I h
  refine wpAny_Call_method m.base m.few m.line PySem.F.plainAttrs_dict PySem.F.slot_dict_get PySem.F.type_dict_get (thn (ho pins s σ H _ I h) fun u s1 ⟨x,H1,I1,rx,a,ex,d,q1⟩ => ?_)
  subst ex
  obtain rfl:u=Value.ref a:=rx
  obtain⟨t1,t2,_⟩:=isD_at I1 d
  refine⟨t1,t2,?_⟩
  rw [m.trees]
  refine Calls.callWith_builtin rfl (Calls.evalArgs_plain (Calls.spliced_cons (thn (he pins s1 σ H1 _ I1 q1) fun iv s2 ⟨y,H2,I2,ry,q2⟩ =>
    Calls.spliced_cons (thn (hf pins s2 σ H2 _ I2 q2) fun fv s3 ⟨z,H3,I3,rz,ov,g,q3⟩=>Calls.spliced_nil ?_))))
  exact d_get2 hu I3 g ry rz fun w' s4 I4 rw' => ⟨_,H3,I4,rw',q3⟩
end
section
variable {X:Cx} {pins:List (Addr×Obj)} {σ:St} {H:Hp} {s:Shared} {a:Addr} {kvs:List (Key×V)} {A:Around} {E:Value→Shared→Prop}
end
section
variable {X:Cx} {pins:List (Addr×Obj)} {σ:St} {H:Hp} {s:Shared} {a:Addr} {y:V} {u:Value} {A:Around} {E:Value→Shared→Prop}
end
end L2
namespace L2
open PySem PySem.Spec PyProof.Rows
section
variable {X:Cx}
end
section
variable {κ:Type} [DecidableEq κ]
end
end L2
namespace K
open PySem L2 TX
def FIs:Str:=Str.ofString "0123456789"
def LEs:Str:=Str.ofString "abcdefghijklmnopqrstuvwxyzABCDEFGHIJKLMNOPQRSTUVWXYZ"
abbrev FI:List Nat:=tl FIs
abbrev LE:List Nat:=tl LEs
def allOf (t s:List Nat):Bool:=decide (t ≠ [])&&t.all fun c=>decide (c∈s)
def gapTakes (c:Nat) (t:List Nat):Bool:=if c=63 then decide (t.length=1) else if c=35 then allOf t FI else if c=64 then allOf t LE else true
def Pt.takes:Pt→List Nat→Bool
  | .tx l,t=>decide (t=l)
  | .gp c,t=>gapTakes c t
def cut (n:List Nat) (b e:Nat):List Nat:=(n.drop b).take (e - b)
def farTo (p:Pt) (n:List Nat) (L:Nat→Bool) (b k:Nat):Option Nat:=((List.range' b k).filter fun e=>L e&&p.takes (cut n b e)).getLast?
def far (p:Pt) (n:List Nat) (L:Nat→Bool) (b:Nat):Option Nat:=if b≤n.length then farTo p n L b (n.length+1 - b) else none
def fits (n:List Nat):List Pt→Nat→Bool
  | [],b=>decide (b=n.length)
  | p::ps,b=>(far p n (fits n ps) b).isSome
def rd (n:List Nat):List Pt→Nat→List (List Nat)
  | [],_ => []
  | p::ps,b=>(if p.isG then [cut n b ((far p n (fits n ps) b).getD 0)] else [])++rd n ps ((far p n (fits n ps) b).getD 0)
structure DF (H:Hp) (a:Addr) (f:Nat→Option Nat):Prop where
  ex:∃ kvs:List (Key×V),H a=some (.dK kvs)∧kvs.length≤5000∧∀ b:Nat,valV kvs (Sum.inl (b:Int))=(f b).map fun e=>V.int (e:Nat)
inductive DS (H:Hp) (n:List Nat):List Addr→List Pt→Prop
  | nil:DS H n [] []
  | cons {d:Addr} {p:Pt} {ds:List Addr} {ps:List Pt}:DF H d (far p n (fits n ps))→DS H n ds ps→DS H n (d::ds) (p::ps)
theorem q6b (l:List Nat):(mk l).length=l.length:=by rw [len,q2h]
end K
namespace L2
open PySem PySem.Spec PyProof.Rows
section
variable {X:Cx}
end
end L2
namespace PySem.Rv
open Sem (wp)
namespace F
end F
end PySem.Rv
namespace PySem.Rv
open Sem (wp)
section
variable {prog:Program} {w:World} {A:Around} {E:Value→Shared→Prop} {s:Shared}
end
end PySem.Rv
namespace L2
open PySem PySem.Spec PyProof.Rows
section
variable {X:Cx} {tg:Expr}
end
theorem Inv.freezeK {X:Cx} {pins:List (Addr×Obj)} {σ:St} {H:Hp} {s:Shared} {d:Addr} {u:HO} {ob:Obj} (I:Inv X pins σ H s) (hd:H d=some u) (ho:s.heap.get? d=some ob) (hu:(∃ kvs,u = .dK kvs)∨∃ kvs,u = .dT kvs):Inv X pins σ (upd H d (.frz ob u)) s:=by
  have no:∀ {v:HO} {b:Addr},H b=some v→((∀ kvs,v ≠ .dK kvs)∧∀ kvs,v ≠ .dT kvs)→b≠d:=fun {v b} z hv y=>by
    subst y
    rw [hd] at z
    cases z
    rcases hu with ⟨kvs,rfl⟩ | ⟨kvs,rfl⟩
    · exact hv.1 _ rfl
    · exact hv.2 _ rfl
  have nn:∀ {b:Addr},H b=none→b≠d:=fun {b} z y=>by subst y;rw [hd] at z;cases z
  refine⟨I.ok,I.os,I.bare,⟨I.base.keep,I.base.slot,fun b o e n hx => ?_,I.base.there,fun b xs e => ?_,fun b o v e => ?_,fun b ps e => ?_⟩,I.loc,I.cell,?_,fun x c e => ?_,fun p hp => ?_,fun b v e => ?_,I.len⟩
  · have z:=I.base.free b o e n hx
    rw [q0c (nn z)];exact z
  · have z:=I.base.tups b xs e
    rw [q0c (no z ⟨fun _ y=>(by cases y),fun _ y=>(by cases y)⟩)];exact z
  · have z:=I.base.frzs b o v e
    rw [q0c (no z ⟨fun _ y=>(by cases y),fun _ y=>(by cases y)⟩)];exact z
  · obtain⟨m,z⟩:=I.base.tbls b ps e
    exact⟨m,by rw [q0c (no z ⟨fun _ y=>(by cases y),fun _ y=>(by cases y)⟩)];exact z⟩
  · rw [q0c (nn I.free)];exact I.free
  · rw [q0c (nn (I.freeC x c e))];exact I.freeC x c e
  · obtain⟨e,n,ne,nf',dd⟩:=I.pin p hp
    exact⟨e,by rw [q0c (nn n)];exact n,ne,nf',dd⟩
  · have st:∀ {b:Addr} {v:HO},ObjOk X.prog X.w H s.heap b v→ObjOk X.prog X.w (upd H d (.frz ob u)) s.heap b v:=fun x =>
      x.stay (fun _ _ _ q=>q) (fun c q=>by rw [q0c (no q ⟨fun _ y=>(by cases y),fun _ y=>(by cases y)⟩)];exact q) fun c xs q=>by rw [q0c (no q ⟨fun _ y=>(by cases y),fun _ y=>(by cases y)⟩)];exact q
    by_cases hb:b=d
    · subst hb
      rw [q0b] at e
      cases e
      exact⟨ho,st (I.hok b u hd)⟩
    · rw [q0c hb] at e
      exact st (I.hok b v e)
section
variable {X:Cx} {tg l:Expr} {tl:TE}
end
end L2
namespace L2
open PySem PySem.Spec PyProof.Rows
section
variable {X:Cx}
end
end L2
namespace K
open PySem L2 TX
end K
namespace L2
open PySem PySem.Spec PyProof.Rows
section
variable {X:Cx}
theorem z4d:CallR X (.type "str") (fun xs H Q=>∃ n:Nat,xs = [.int (n:Int)]∧n≤10 ^ 12∧Q (.str (Str.ofString (toString (n:Int)))) H):=by
  intro pins s σ H xs us Q I r h
  obtain⟨n,rfl,h1,q⟩:=h
  obtain⟨u,rfl,t,rfl⟩:=vals1 r
  refine PySem.P.str_of_int ?_ ⟨.str (Str.ofString (toString (n:Int))),H,I.tok _,⟨_,rfl⟩,q⟩
  rw [Int.natAbs_natCast]
  have h2:n<2 ^ 40:=Nat.lt_of_le_of_lt h1 (by decide)
  have:n.log2<40:=by
    by_cases hz:n=0
    · rw [hz];decide
    · exact (Nat.log2_lt hz).mpr h2
  lia
end
end L2
namespace K
open PySem L2 TX
def dg (m:Nat):List Nat:=tl (Str.ofString (toString (m:Int)))
theorem dg_mk (m:Nat):Str.ofString (toString (m:Int))=mk (dg m):=(mk_tl _).symm
theorem z7c (m:Nat):dg m=(Nat.toDigits 10 m).map Char.toNat:=PySem.W.KIN.signs_num m
theorem q5n {m:Nat} (h:m<10):dg m = [48+m]:=by
  rw [z7c,Nat.toDigits_of_lt_base h]
  exact (by decide:∀ m:Nat,m<10 → [Nat.digitChar m].map Char.toNat = [48+m]) m h
theorem z4e {m:Nat} (h:10≤m):dg m=dg (m / 10) ++ [48+m % 10]:=by
  have hm:m % 10<10:=Nat.mod_lt m (by decide)
  have t:Nat.toDigits 10 (m / 10)++Nat.toDigits 10 (m % 10)=Nat.toDigits 10 (10 * (m / 10)+m % 10):=Nat.toDigits_append_toDigits (by decide) (by lia) hm
  rw [Nat.div_add_mod] at t
  rw [z7c,z7c,← t,List.map_append]
  congr 1
  exact (z7c (m % 10)).symm.trans (q5n hm)
theorem z8o (m:Nat):∀ c∈dg m,c∈FI:=by
  have hf:∀ d:Nat,d<10→48+d∈FI:=by decide +kernel
  induction m using Nat.strongRecOn with
  | _ m ih =>
    by_cases h:m<10
    · rw [q5n h];intro c hc;rw [List.mem_singleton.mp hc];exact hf m h
    · rw [z4e (by lia)]
      intro c hc
      rcases List.mem_append.mp hc with z | z
      · exact ih (m / 10) (by lia) c z
      · rw [List.mem_singleton.mp z];exact hf _ (Nat.mod_lt m (by decide))
theorem z4f:∀ (k m:Nat),m<10 ^ (k+1)→(dg m).length≤k+1
  | 0,m,h=>by rw [q5n (by simpa using h)];exact Nat.le_refl _
  | k+1,m,h=>by
    by_cases hz:m<10
    · rw [q5n hz];simp
    · rw [z4e (by lia),List.length_append,List.length_singleton]
      have:=z4f k (m / 10) (by rw [Nat.pow_succ] at h;lia)
      lia
theorem z4g {m:Nat} (h:m<10 ^ 10):PySem.intText? (mk (dg m))=some (m:Int):=by
  rw [← dg_mk]
  exact PySem.W.KIN.num_reads (by lia) (by lia)
end K
namespace L2
open PySem PySem.Spec PyProof.Rows
end L2
namespace L2
open PySem PySem.Spec PyProof.Rows
section
variable {prog:Program} {w:World} {A:Around} {E:Value→Shared→Prop} {s:Shared}
end
set_option maxHeartbeats 4000000 in
section
variable {X:Cx} {elts:List Expr} {kk:Nat} {tpos:Pos}
end
end L2
namespace L2
open PySem PySem.Spec PyProof.Rows
section
variable {X:Cx}
end
end L2
namespace L2
open PySem PySem.Spec PyProof.Rows
theorem Inv.thaw {X:Cx} {pins:List (Addr×Obj)} {σ:St} {H:Hp} {s:Shared} {d:Addr} {u:HO} {ob:Obj} (I:Inv X pins σ H s) (hd:H d=some (.frz ob u)) (h0:∀ o v,X.H₀ d≠some (.frz o v)):Inv X pins σ (upd H d u) s:=by
  have no:∀ {v:HO} {b:Addr},H b=some v→(∀ o z,v ≠ .frz o z)→b≠d:=fun {v b} z hv y=>by
    subst y
    rw [hd] at z
    cases z
    exact hv _ _ rfl
  have nn:∀ {b:Addr},H b=none→b≠d:=fun {b} z y=>by subst y;rw [hd] at z;cases z
  refine⟨I.ok,I.os,I.bare,⟨I.base.keep,I.base.slot,fun b o e n hx => ?_,I.base.there,fun b xs e => ?_,fun b o v e => ?_,fun b ps e => ?_⟩,I.loc,I.cell,?_,fun x c e => ?_,fun p hp => ?_,fun b v e => ?_,I.len⟩
  · have z:=I.base.free b o e n hx
    rw [q0c (nn z)];exact z
  · have z:=I.base.tups b xs e
    rw [q0c (no z fun _ _ y=>(by cases y))];exact z
  · have z:=I.base.frzs b o v e
    rw [q0c (fun y=>by subst y;exact h0 _ _ e)];exact z
  · obtain⟨m,z⟩:=I.base.tbls b ps e
    exact⟨m,by rw [q0c (no z fun _ _ y=>(by cases y))];exact z⟩
  · rw [q0c (nn I.free)];exact I.free
  · rw [q0c (nn (I.freeC x c e))];exact I.freeC x c e
  · obtain⟨e,n,ne,nf',dd⟩:=I.pin p hp
    exact⟨e,by rw [q0c (nn n)];exact n,ne,nf',dd⟩
  · have st:∀ {b:Addr} {v:HO},ObjOk X.prog X.w H s.heap b v→ObjOk X.prog X.w (upd H d u) s.heap b v:=fun x =>
      x.stay (fun _ _ _ q=>q) (fun c q=>by rw [q0c (no q fun _ _ y=>(by cases y))];exact q) fun c xs q=>by rw [q0c (no q fun _ _ y=>(by cases y))];exact q
    by_cases hb:b=d
    · subst hb
      rw [q0b] at e
      cases e
      exact st (I.hok b _ hd).2
    · rw [q0c hb] at e
      exact st (I.hok b v e)
def Ends.thaw (D:Ends) (d:Addr):Ends where
  nx:=fun σ H=>∃ ob u,H d=some (.frz ob u)∧D.nx σ (upd H d u)
  rt:=fun v H=>∃ ob u,H d=some (.frz ob u)∧D.rt v (upd H d u)
  bk:=fun σ H=>∃ ob u,H d=some (.frz ob u)∧D.bk σ (upd H d u)
  ct:=fun σ H=>∃ ob u,H d=some (.frz ob u)∧D.ct σ (upd H d u)
def tThaw (h₀:Hp) (t:TS):TS:=fun D σ H=>∃ d,(∀ o v,h₀ d≠some (.frz o v))∧t (D.thaw d) σ H
theorem z4h {X:Cx} {st:Stmt} {t:TS} (h₀:Hp) (hH:X.H₀=h₀) (h:PS X st t):PS X st (tThaw h₀ t):=by
  subst hH
  intro pins s σ H D I q
  obtain⟨d,hd,q⟩:=q
  refine wpAny_mono (h pins s σ H _ I q) (fun f s' z => ?_) fun _ _ z=>z
  cases f with
  | next=>obtain⟨σ',H',I',ob,u,e,n⟩:=z;exact⟨σ',_,I'.thaw e hd,n⟩
  | brk=>obtain⟨σ',H',I',ob,u,e,n⟩:=z;exact⟨σ',_,I'.thaw e hd,n⟩
  | cont=>obtain⟨σ',H',I',ob,u,e,n⟩:=z;exact⟨σ',_,I'.thaw e hd,n⟩
  | ret v=>obtain⟨x,σ',H',I',r,ob,u,e,n⟩:=z;exact⟨x,σ',_,I'.thaw e hd,r,n⟩
end L2
namespace PySem.Rv
open Sem (wp)
section
variable {prog:Program} {w:World} {A:Around} {E:Value→Shared→Prop} {s:Shared} {it d:Addr} {i ep:Nat} {dob:Obj} {ens:Array DictEntry}
theorem keys_iter {Q:Value→Shared→Prop} (hsys:(d==sysModules)=false) (hT:s.TypeIs (.ref d) "dict") (hdo:s.heap.get? d=some dob) (hda:dob.data = .dict ens ep)
    (hQ:Q (.ref s.heap.objs.size) { s with heap:=s.heap.push { cls := .type "dict_keyiterator",data := .fields #[.ref d,.int 0 0,.int ens.size 0,.int ep 0] } }) :
    wpAny (model prog w) A (pyIter (.ref d)) Q E s:=by
  refine wpAny_pyIter_slot hT F.slot_dict_iter (wpAny_call_entry F.slot_dict_iter hT F.entry_dict_iter ?_ (F.args_dict_iter_1 _))
  unfold Builtin.«dict.__iter__» Builtin.Dict.dictSlotNone
  refine wpAny_bind (wpAny_bind (wpAny_notOrdered_dict hT (wpAny_pure ?_)))
  show wpAny _ _ (Builtin.Dict.showsAll d >>= _) _ _ s
  unfold Builtin.Dict.showsAll
  rw [if_neg (by rw [hsys];decide)]
  refine wpAny_bind (wpAny_pure (wpAny_bind (wpAny_dictEntries hdo hda (wpAny_bind (wpAny_dictEpoch hdo hda ?_)))))
  refine wpAny_bind (wpAny_newObj_type (wpAny_pure ⟨_,rfl, "dict_keyiterator",_,⟨_,Heap.get?_push_size _ rfl,rfl⟩,F.slot_dict_keyiterator_next.lookup,?_⟩))
  simpa [rawInt] using hQ
theorem keys_item {Q:Option Value→Shared→Prop} (hki:s.heap.IsKeyIter it d i ens.size ep) (hdo:s.heap.get? d=some dob) (hda:dob.data = .dict ens ep) (hlt:i<ens.size)
    (hQ:∀ h',h'.IsKeyIter it d (i+1) ens.size ep→Heap.SameBut it s.heap h' → Q (some ens[i].key) { s with heap:=h' }):wpAny (model prog w) A (pyNext (.ref it)) Q E s:=by
  obtain⟨io,hio,hic,hid⟩:=id hki
  unfold pyNext
  refine wpAny_bind (wpAny_attempt (wpAny_callSpecial?_slot (name:=Str.ofString "__next__") hki.typeIs F.slot_dict_keyiterator_next
    (wpAny_call_entry F.slot_dict_keyiterator_next hki.typeIs F.entry_dict_keyiterator_next ?_ (F.args_dict_keyiterator_next_1 _))))
  refine wpAny_bind (wpAny_pure (wpAny_bind (wpAny_bind ?_)))
  first | refine wpAny_bind (wpAny_typeNameOfWhole_keyiter hki.typeIs (wpAny_pure ?_)) | refine wpAny_bind (wpAny_typeNameOf_keyiter hki.typeIs (wpAny_pure ?_))
  refine wpAny_bind (wpAny_fieldsOf hio hid ?_)
  have nown:Builtin.Dict_items.ownsTuple "dict_keyiterator" = false:=by decide
  simp only [nown,Bool.false_eq_true,if_false]
  show wpAny _ _ (if (Value.ref d==Value.none)=true then _ else _) _ _ s
  rw [if_neg (show ¬ ((Value.ref d==Value.none)=true) from Bool.false_ne_true)]
  refine wpAny_bind (wpAny_pure (wpAny_bind (wpAny_dictEntries hdo hda ?_)))
  rw [if_neg (by simp)]
  refine wpAny_bind (wpAny_pure (wpAny_bind (wpAny_dictEpoch hdo hda ?_)))
  rw [if_neg (by simp)]
  refine wpAny_pure ?_
  simp only [show ¬ ((i:Int)<0) from by lia,if_false,Int.toNat_natCast,Array.getElem?_eq_getElem hlt]
  refine wpAny_bind ?_
  first | refine wpAny_bind (wpAny_typeNameOfWhole_keyiter hki.typeIs (wpAny_pure ?_)) | refine wpAny_bind (wpAny_typeNameOf_keyiter hki.typeIs (wpAny_pure ?_))
  refine wpAny_bind (wpAny_isOneOf_keyiter hki.typeIs ?_)
  show wpAny _ _ (setField (.ref it) 1 (rawInt ((i:Int)+1)) >>= _) _ _ s
  refine wpAny_bind (wpAny_setField hio hid (by simp) ?_)
  have hki2:(s.heap.update it (Obj.mapFields (·.setIfInBounds 1 (rawInt ((i:Int)+1))))).IsKeyIter it d (i+1) ens.size ep :=
    ⟨_,Heap.get?_update_self _ hio (Obj.isFreed_of_fields (Obj.data_mapFields hid _)),(Obj.cls_mapFields ..).trans hic,by rw [Obj.data_mapFields hid];simp [rawInt]⟩
  refine wpAny_bind (wpAny_holding (wpAny_bind (wpAny_isOneOf_keyiter (s := { s with heap:=s.heap.update it (Obj.mapFields (·.setIfInBounds 1 (rawInt ((i:Int)+1)))) }) hki2.typeIs ?_)))
  show wpAny _ _ (pure ens[i].key) _ _ _
  exact wpAny_pure (wpAny_pure ⟨_,rfl,wpAny_pure (hQ _ hki2 (Heap.SameBut.update ..))⟩)
theorem keys_end {Q:Option Value→Shared→Prop} (hh:A.handled=none) (hki:s.heap.IsKeyIter it d i ens.size ep) (hdo:s.heap.get? d=some dob) (hda:dob.data = .dict ens ep) (hge:ens.size≤i)
    (hQ:∀ h',Heap.ExtBut it s.heap h' → Q none { s with heap:=h' }):wpAny (model prog w) A (pyNext (.ref it)) Q E s:=by
  obtain⟨io,hio,hic,hid⟩:=id hki
  unfold pyNext
  refine wpAny_bind (wpAny_attempt (wpAny_callSpecial?_slot (name:=Str.ofString "__next__") hki.typeIs F.slot_dict_keyiterator_next
    (wpAny_call_entry F.slot_dict_keyiterator_next hki.typeIs F.entry_dict_keyiterator_next ?_ (F.args_dict_keyiterator_next_1 _))))
  refine wpAny_bind (wpAny_pure (wpAny_bind (wpAny_bind ?_)))
  first | refine wpAny_bind (wpAny_typeNameOfWhole_keyiter hki.typeIs (wpAny_pure ?_)) | refine wpAny_bind (wpAny_typeNameOf_keyiter hki.typeIs (wpAny_pure ?_))
  refine wpAny_bind (wpAny_fieldsOf hio hid ?_)
  have nown:Builtin.Dict_items.ownsTuple "dict_keyiterator" = false:=by decide
  simp only [nown,Bool.false_eq_true,if_false]
  show wpAny _ _ (if (Value.ref d==Value.none)=true then _ else _) _ _ s
  rw [if_neg (show ¬ ((Value.ref d==Value.none)=true) from Bool.false_ne_true)]
  refine wpAny_bind (wpAny_pure (wpAny_bind (wpAny_dictEntries hdo hda ?_)))
  rw [if_neg (by simp)]
  refine wpAny_bind (wpAny_pure (wpAny_bind (wpAny_dictEpoch hdo hda ?_)))
  rw [if_neg (by simp)]
  refine wpAny_pure ?_
  simp only [show ¬ ((i:Int)<0) from by lia,if_false,Int.toNat_natCast,Array.getElem?_eq_none hge]
  refine wpAny_bind ?_
  first | refine wpAny_bind (wpAny_typeNameOfWhole_keyiter hki.typeIs (wpAny_pure ?_)) | refine wpAny_bind (wpAny_typeNameOf_keyiter hki.typeIs (wpAny_pure ?_))
  show wpAny _ _ (setField (.ref it) 0 .none >>= _) _ _ s
  refine wpAny_bind (wpAny_setField hio hid (by simp) ?_)
  show wpAny _ _ (newExc (.type "StopIteration") [] >>= _) _ _ _
  refine wpAny_bind ?_
  simp only [newExc,newTuple]
  refine wpAny_bind (wpAny_newObj_type ?_ (by size_fits))
  refine wpAny_bind (m:=firstArgMember _ _) (wpAny_of_eq (a:=Value.none) (by first | rfl | (simp only [firstArgMember];rfl)) ?_)
  refine wpAny_newObj_type ?_ (by size_fits)
  simp only [raiseNew]
  refine wpAny_bind (wpAny_handled ?_)
  rw [show A.in1.handled=none from hh]
  refine wpAny_bind (wpAny_pure (wpAny_throw ?_))
  refine wpAny_bind (wpAny_isInstance (T := "StopIteration") (b:=true) ⟨_,Heap.get?_push_size _ rfl,rfl⟩ isSubtype_stop ?_)
  exact wpAny_pure (hQ _ (((Heap.SameBut.update ..).extBut.push _).push _))
end
end PySem.Rv
namespace L2
open PySem PySem.Spec PyProof.Rows
def Itk (d:Addr) (ob:Obj) (kvs:List (List Key×V)):It :=
  ⟨fun i H=>H d=some (.frz ob (.dT kvs))∧i<kvs.length,fun i H x H' => H' = H∧∃ k v b,kvs[i]? = some (k,v)∧H b=some (.tup (k.map kV))∧x = .ref b,fun i H=>H d=some (.frz ob (.dT kvs))∧kvs.length≤i⟩
theorem Paired.at' {α β:Type} {F:α→β→Prop}:∀ {l:List α} {m:List β} {i:Nat} {p:α},Paired F l m→l[i]? = some p→∃ q,m[i]? = some q∧F p q
  | _,_,0,_,.cons h t,e=>by simp at e;subst e;exact⟨_,rfl,h⟩
  | _,_,i+1,_,.cons h t,e=>by
    obtain⟨q,h1,h2⟩:=Paired.at' t (by simpa using e)
    exact⟨q,by simpa using h1,h2⟩
theorem z4i {P:Program} {w:World} {H:Hp} {h:Heap} {d:Addr} {ob:Obj} {kvs:List (List Key×V)} {ens:Array DictEntry} {ep:Nat} (ok:HOk P w H h) (hfz:H d=some (.frz ob (.dT kvs))) (hob:ob.data = .dict ens ep) :
    h.get? d=some ob∧ens.size=kvs.length∧∀ {i:Nat} {k:List Key} {v:V} (hlt:i<ens.size),kvs[i]? = some (k,v)→∃ b,ens[i].key = .ref b∧H b=some (.tup (k.map kV)):=by
  obtain⟨hget,z,hsys,xs,hp,o,es,ep',h1,h2,h3,h4,h5⟩:=(show ObjOk P w H h d (.frz ob (.dT kvs)) from ok d _ hfz)
  rw [hget] at h1
  cases h1
  rw [hob] at h3
  cases h3
  have hl:kvs.length=xs.length:=Paired.length hp
  have hz:ens.size=xs.length:=by rw [← Array.length_toList,h4,List.length_map]
  refine⟨hget,by lia,fun {i k v} hlt hk => ?_⟩
  obtain⟨q,hq,e1,e2,e3⟩:=Paired.at' hp hk
  refine⟨q.2.1,?_,e2⟩
  have:ens.toList[i]? = some (entryOfKey (tupleKind (mixKind P w)) q):=by rw [h4,List.getElem?_map,hq];rfl
  rw [Array.getElem?_toList,Array.getElem?_eq_getElem hlt] at this
  injection this with this
  rw [this]
  rfl
theorem z2f {P:Program} {w:World} {K:PySem.W.Frag} {tg:Expr} (d it:Addr) (ob:Obj) (kvs:List (List Key×V)) (ens:Array DictEntry) (ep:Nat) (hob:ob.data = .dict ens ep) :
    Turn P w K tg (Itk d ob kvs) [it] it (fun i h=>h.IsKeyIter it d i ens.size ep) where
  mem:=by simp
  obj:=fun i h st b hb=>by
    have e:b=it:=by simpa using hb
    subst e
    obtain⟨o,e,c,dd⟩:=st
    exact⟨o,e,fun v z=>by rw [dd] at z;cases z⟩
  keep:=fun i h h' st k=>st.at fun o e=>k it (by simp) o e
  item:=by
    intro X hP hw hK hc i pins s σ H E I hf st hg
    subst hP hw hK
    obtain⟨hfz,hi⟩:=hg
    obtain⟨hget,hsz,hkey⟩:=z4i I.hok hfz hob
    obtain⟨f0,f1,f2,f3,f4,f5⟩:=hf it (by simp)
    obtain⟨⟨k,v⟩,hkv⟩:∃ p,kvs[i]? = some p:=⟨kvs[i],by simp [hi]⟩
    have hlt:i<ens.size:=by lia
    obtain⟨b,hb1,hb2⟩:=hkey hlt hkv
    refine PySem.Rv.keys_item st hget hob hlt fun h' st' sb => ?_
    rw [hb1]
    have I1:Inv X pins σ H { s with heap:=h' }:=I.turned (t' := s.toks) (fun b o hb e=>(sb.2 b hb).trans e) f0 f1 f3 f4 f5
    obtain⟨o,e,c,dd⟩:=id st'
    exact⟨.ref b,rfl,z1n (s := { s with heap:=h' }) e c dd (by decide) ⟨.ref b,H,I1,rfl,⟨rfl,k,v,b,hkv,hb2,rfl⟩,st',fun b hb=>(hf b hb).1⟩⟩
  done:=by
    intro X hP hw hK hc i pins s σ H E I hf st hg
    subst hP hw hK
    obtain⟨hfz,hi⟩:=hg
    obtain⟨hget,hsz,hkey⟩:=z4i I.hok hfz hob
    obtain⟨f0,f1,f2,f3,f4,f5⟩:=hf it (by simp)
    exact PySem.Rv.keys_end (I.ok.hd hc) st hget hob (by lia) fun h' eb=>⟨rfl,I.turned (t' := s.toks) (fun b o hb e=>eb b o hb e) f0 f1 f3 f4 f5⟩
  self:=fun _ _ _ _ _ st h=>wpAny_pyIter_keyiter st h
section
variable {X:Cx} {tg l:Expr} {tl:TE}
def iDictT (tl:TE):TI:=fun σ H R=>tl σ H fun x H1=>∃ d kvs,x = .ref d∧H1 d=some (.dT kvs)∧∀ ob,R (Itk d ob kvs) (upd H1 d (.frz ob (.dT kvs)))
theorem z7d (hl:PE X l tl):PI X tg l (iDictT tl):=by
  intro pins s σ H R I h
  refine thn (hl pins s σ H _ I h) fun v s1 ⟨x,H1,I1,r1,q1⟩ => ?_
  obtain⟨d,kvs,e,hd,q⟩:=q1
  subst e
  cases r1
  obtain⟨z,hsys,xs,hp,ob,ens,ep,ho,hex,hob,h4,h5⟩:=(show ObjOk X.prog X.w H1 s1.heap d (.dT kvs) from I1.hok d _ hd)
  refine PySem.Rv.keys_iter hsys ⟨ob,ho,hex.1⟩ ho hob ?_
  have hne:d≠s1.heap.objs.size:=Nat.ne_of_lt (Heap.lt_size ho)
  have I2:=(I1.freezeK hd ho (.inr ⟨_,rfl⟩)).kept (t' := s1.toks) (h' := s1.heap.push { cls := .type "dict_keyiterator",data := .fields #[.ref d,.int 0 0,.int ens.size 0,.int ep 0] }) fun b o e=>Heap.get?_push_of_some _ e
  refine⟨s1.heap.objs.size,[s1.heap.objs.size],_,_,_,rfl,I2,z2f d _ ob kvs ens ep hob,⟨_,Heap.get?_push_size _ rfl,rfl,rfl⟩,fun b hb => ?_,q ob⟩
  have e:b=s1.heap.objs.size:=by simpa using hb
  subst e
  exact I1.fpOk (Nat.le_refl _) (by rw [q0c (Ne.symm hne)];exact I1.hok.fresh (Nat.le_refl _))
theorem z0u (K:PySem.W.Frag) (hK:X.K=K) (hl:PE X l tl):PI X tg l (iDictT tl):=z7d hl
theorem q8y {d:Addr} {ob:Obj} {kvs:List (List Key×V)} {g:TG} {tb:TS} {D:Ends} {σ:St} {H:Hp} (Pv:Nat→St→Hp→Prop) (h0:Pv 0 σ H) (hl:∀ i σ H,Pv i σ H→H d=some (.frz ob (.dT kvs)))
    (hs:∀ i k v b σ H,kvs[i]? = some (k,v)→H b=some (.tup (k.map kV))→Pv i σ H→g (.ref b) σ H fun σ2 H2=>tb { D with nx:=Pv (i+1),ct:=Pv (i+1),bk:=D.nx } σ2 H2) (hd:∀ σ H,Pv kvs.length σ H→D.nx σ H) :
    ∃ W:Nat→Nat→St→Hp→Prop,(∃ m,W 0 m σ H)∧∀ i m σ H,W i m σ H →
      ((Itk d ob kvs).stop i H∧D.nx σ H)∨((Itk d ob kvs).go i H∧∃ N:St→Hp→Prop,(∀ σ' H',N σ' H' → ∃ m',m' < m∧W (i+1) m' σ' H')∧∀ x H',(Itk d ob kvs).yld i H x H' → g x σ H' fun σ2 H2=>tb { D with nx:=N,ct:=N,bk:=D.nx } σ2 H2):=by
  refine z8n (n:=kvs.length) Pv h0 (fun i σ H h p=>⟨hl i σ H p,h⟩) (fun σ H p=>⟨hl _ σ H p,Nat.le_refl _⟩) (fun i x σ H H' h p yl => ?_) hd
  obtain⟨rfl,k,v,b,hk,hb,rfl⟩:=yl
  exact hs i k v b σ _ hk hb p
end
end L2
namespace SB
open PySem PyProof.Rows
section
variable {prog:Program} {w:World} {A:Around} {E:Value→Shared→Prop} {s:Shared}
def Tells (prog:Program) (w:World) (A:Around) (s:Shared) (kd:SortKind) (S:Value→Prop) (r:Value→Int):Prop :=
  ∀ (E:Value→Shared→Prop) (x y:Value) (Q:Bool→Shared→Prop),S x→S y→Q (decide (r x<r y)) s→wpAny (model prog w) A (keyLt' kd x y) Q E s
def rk (r:Value→Int) (xs:Array Keyed) (i:Nat):Int:=((xs[i]?).map fun p=>r p.1).getD 0
theorem z9n {r:Value→Int} {xs ys:Array Keyed} {i j:Nat} (h:xs[i]? = ys[j]?):rk r xs i=rk r ys j:=by unfold rk;rw [h]
theorem rk_if {r:Value→Int} {xs ys:Array Keyed} {i a b:Nat} {c:Prop} [Decidable c] (h:xs[i]? = if c then ys[a]? else ys[b]?):rk r xs i=if c then rk r ys a else rk r ys b:=by
  by_cases hc:c
  · rw [if_pos hc] at h ⊢;exact z9n h
  · rw [if_neg hc] at h ⊢;exact z9n h
theorem z4j {r:Value→Int} {xs:Array Keyed} {i j:Nat} (hj:j≤xs.size) (k:Nat):rk r (mirror xs i j ((j - i) / 2)) k=if i≤k∧k<j then rk r xs (i+j - 1 - k) else rk r xs k:=rk_if (getElem?_mirror_all hj k)
theorem z8p {r:Value→Int} {xs:Array Keyed} {n d:Nat} (hn:n<xs.size) (hd:d≤n) (k:Nat):rk r (bubble xs n d) k=if k=n - d then rk r xs n else if n - d<k∧k≤n then rk r xs (k - 1) else rk r xs k:=by
  have e:=getElem?_bubble hn d hd k
  by_cases h:k=n - d
  · rw [if_pos h] at e ⊢;exact z9n e
  · rw [if_neg h] at e ⊢;exact rk_if e
structure Mid (kd:SortKind) (a₀:Array Keyed) (st:SortSt):Prop where
  pm:(arrOf st).Perm a₀
  kn:kindOf st=kd
  fl:failedOf st=none
  pd:pendingOf st = #[]
variable {kd:SortKind} {S:Value→Prop} {r:Value→Int} {a₀:Array Keyed}
theorem Mid.sz {st:SortSt} (h:Mid kd a₀ st):(arrOf st).size=a₀.size:=h.pm.size_eq
theorem Mid.put {st:SortSt} {xs:Array Keyed} (h:Mid kd a₀ st) (p:xs.Perm (arrOf st)):Mid kd a₀ (setArr st xs):=⟨p.trans h.pm,h.kn,h.fl,h.pd⟩
theorem z4k {st:SortSt} {i j:Nat} {Q:Option Bool→SortSt→Prop} (T:Tells prog w A s kd S r) (hS:∀ p∈a₀.toList,S p.1) (m:Mid kd a₀ st) (hi:i<a₀.size) (hj:j<a₀.size)
    (h:Q (some (decide (rk r (arrOf st) i<rk r (arrOf st) j))) st):wpS (model prog w) A E s (ltAt' i j) Q st:=by
  have get:∀ {k:Nat},k<a₀.size→∃ p,(arrOf st)[k]? = some p∧S p.1∧rk r (arrOf st) k=r p.1:=fun {k} hk=>by
    have hk' : k<(arrOf st).size:=by rw [m.sz];exact hk
    have e:(arrOf st)[k]? = some (arrOf st)[k]:=getElem?_pos _ k hk'
    refine⟨_,e,hS _ ((Array.perm_iff_toList_perm.mp m.pm).mem_iff.mp (by simp)),?_⟩
    unfold rk;rw [e];rfl
  obtain⟨p,e1,s1,r1⟩:=get hi
  obtain⟨q,e2,s2,r2⟩:=get hj
  rw [r1,r2] at h
  rw [ltAt'_eq]
  refine wpS_bind (wpS_get ?_);show wpS _ _ _ _ (elem' (arrOf st) i >>= fun x=>elem' (arrOf st) j >>= fun y=>lt' x y) Q st
  rw [elem'_eq,elem'_eq,e1,e2]
  refine wpS_bind (wpS_pure (wpS_bind (wpS_pure ?_)));rw [lt'_eq]
  refine wpS_bind (wpS_get ?_);rw [m.kn]
  exact wpS_bind (wpS_lift (wpAny_attempt (T _ p.1 q.1 _ s1 s2 ⟨rfl,wpS_pure h⟩)))
def Up (r:Value→Int) (xs:Array Keyed) (n:Nat):Prop:=∀ i j,i≤j→j<n→rk r xs i≤rk r xs j
def Down (r:Value→Int) (xs:Array Keyed) (n:Nat):Prop:=∀ i j,i≤j→j<n→rk r xs j≤rk r xs i
theorem Up.one {xs:Array Keyed}:Up r xs 1:=fun i j h1 h2=>by rw [show i=j by lia];exact Int.le_refl _
theorem Up.more {xs:Array Keyed} {n:Nat} (h:Up r xs n) (h1:1≤n) (e:rk r xs (n - 1)≤rk r xs n):Up r xs (n+1):=fun i j a b=>by
  by_cases z:j<n
  · exact h i j a z
  · have hj:j=n:=by lia
    subst hj
    by_cases y:i=j
    · rw [y];exact Int.le_refl _
    · have:=h i (j - 1) (by lia) (by lia);lia
theorem Down.more {xs:Array Keyed} {n:Nat} (h:Down r xs n) (h1:1≤n) (e:rk r xs n≤rk r xs (n - 1)):Down r xs (n+1):=fun i j a b=>by
  by_cases z:j<n
  · exact h i j a z
  · have hj:j=n:=by lia
    subst hj
    by_cases y:i=j
    · rw [y];exact Int.le_refl _
    · have:=h i (j - 1) (by lia) (by lia);lia
theorem Down.mir {xs:Array Keyed} {n:Nat} (h:Down r xs n) (hn:n≤xs.size):Up r (mirror xs 0 n ((n - 0) / 2)) n:=fun i j a b=>by
  rw [z4j hn,z4j hn,if_pos (by lia),if_pos (by lia)]
  exact h _ _ (by lia) (by lia)
theorem q6c {xs:Array Keyed} {i j:Nat} (hj:j≤xs.size) (h:∀ k,i≤k→k<j→rk r xs k=rk r xs (j - 1)) (k:Nat):rk r (mirror xs i j ((j - i) / 2)) k=rk r xs k:=by
  rw [z4j hj]
  by_cases z:i≤k∧k<j
  · rw [if_pos z,h _ (by lia) (by lia),h k z.1 z.2]
  · rw [if_neg z]
theorem z8q {st:SortSt} {a n:Nat} {Q:AscSt→SortSt→Prop} (T:Tells prog w A s kd S r) (hS:∀ p∈a₀.toList,S p.1) (m:Mid kd a₀ st) (hn:n≤a₀.size) (h1:1≤a) (han:a≤n) (u:Up r (arrOf st) a)
    (h:∀ k,a≤k→k≤n→Up r (arrOf st) k→(k=n∨rk r (arrOf st) k<rk r (arrOf st) (k - 1))→Q (none,k) st):wpS (model prog w) A E s (ascLoop a n) Q st:=by
  unfold ascLoop
  refine wpS_forRange (fun x c t=>t=st∧c=(none,x)∧Up r (arrOf st) x) (fun x c t hx hxn ⟨et,ec,ux⟩ => ?_) (fun c t ⟨et,ec,ux⟩ => ?_) ⟨rfl,rfl,u⟩
  · subst et ec
    refine wpS_bind (z4k T hS m (by lia) (by lia) ?_)
    by_cases z:rk r (arrOf t) x<rk r (arrOf t) (x - 1)
    · simp only [decide_eq_true z,if_true]
      exact wpS_pure (h x hx (by lia) ux (.inr z))
    · simp only [decide_eq_false z,Bool.false_eq_true,if_false]
      exact wpS_pure ⟨rfl,rfl,ux.more (by lia) (by lia)⟩
  · subst et ec
    have e:max a n=n:=by lia
    rw [e] at ux ⊢
    exact h n han (Nat.le_refl _) ux (.inl rfl)
theorem z4l {st:SortSt} {k n:Nat} {Q:Option Nat→SortSt→Prop} (T:Tells prog w A s kd S r) (hS:∀ p∈a₀.toList,S p.1) (m:Mid kd a₀ st) (hn:n≤a₀.size) (h1:1≤k) (hkn:k≤n) (d:Down r (arrOf st) k)
    (h:∀ j t,Mid kd a₀ t→1≤j→j≤n→Up r (arrOf t) j→Q (some j) t):wpS (model prog w) A E s (tail3 k n) Q st:=by
  unfold tail3
  have m2:=m.put (mirror_perm (arrOf st) 0 k ((k - 0) / 2))
  refine wpS_bind (wpS_reverse (wpS_bind (z8q T hS m2 hn h1 hkn (d.mir (by rw [m.sz];lia)) fun j a b u _=>wpS_pure (h j _ m2 (by lia) b u))))
theorem z9o {st:SortSt} {k n:Nat} {Q:DescSt→SortSt→Prop} (T:Tells prog w A s kd S r) (hS:∀ p∈a₀.toList,S p.1) (m:Mid kd a₀ st) (hn:n≤a₀.size) (h1:1≤k) (hkn:k≤n) (d:Down r (arrOf st) k)
    (h:∀ j q t,Mid kd a₀ t→k≤j→j≤n→Down r (arrOf t) j→q+1≤j→(∀ i,j - (q+1)≤i→i<j→rk r (arrOf t) i=rk r (arrOf t) (j - 1))→Q (none,j,q) t):wpS (model prog w) A E s (descLoop k n) Q st:=by
  unfold descLoop
  refine wpS_forRange (fun x c t=>∃ q,c=(none,x,q)∧Mid kd a₀ t∧Down r (arrOf t) x∧q+1≤x∧∀ i,x - (q+1)≤i→i<x→rk r (arrOf t) i=rk r (arrOf t) (x - 1))
    (fun x c t hx hxn ⟨q,ec,mt,dx,hq,eq⟩ => ?_) (fun c t ⟨q,ec,mt,dx,hq,eq⟩ => ?_) ⟨0,rfl,m,d,by lia,fun i a b=>by rw [show i=k - 1 by lia]⟩
  · subst ec
    have zs:x≤(arrOf t).size:=by rw [mt.sz];lia
    dsimp only
    refine wpS_bind (z4k T hS mt (by lia) (by lia) ?_)
    by_cases z:rk r (arrOf t) x<rk r (arrOf t) (x - 1)
    · simp only [decide_eq_true z,if_true]
      by_cases y:q>0
      · rw [if_pos y]
        have em:=fun k=>q6c (r:=r) zs eq k
        have d2:Down r (mirror (arrOf t) (x - (q+1)) x ((x - (x - (q+1))) / 2)) x:=fun i j a b=>by rw [em,em];exact dx i j a b
        exact wpS_bind (wpS_reverse (wpS_pure ⟨0,rfl,mt.put (mirror_perm _ _ _ _),d2.more (by lia) (by rw [em,em];lia),by lia,fun i a b=>by rw [show i=x+1 - 1 by lia]⟩))
      · rw [if_neg y]
        exact wpS_pure ⟨0,rfl,mt,dx.more (by lia) (by lia),by lia,fun i a b=>by rw [show i=x+1 - 1 by lia]⟩
    · simp only [decide_eq_false z,Bool.false_eq_true,if_false]
      refine wpS_bind (z4k T hS mt (by lia) (by lia) ?_)
      by_cases y:rk r (arrOf t) (x - 1)<rk r (arrOf t) x
      · simp only [decide_eq_true y,if_true]
        exact wpS_pure (h x q t mt hx (by lia) dx hq eq)
      · simp only [decide_eq_false y,Bool.false_eq_true,if_false]
        have ex:rk r (arrOf t) x=rk r (arrOf t) (x - 1):=by lia
        refine wpS_pure ⟨q+1,rfl,mt,dx.more (by lia) (by lia),by lia,fun i a b => ?_⟩
        rw [show x+1 - 1=x by lia,ex]
        by_cases c:i=x
        · rw [c,ex]
        · exact eq i (by lia) (by lia)
  · subst ec
    have e:max k n=n:=by lia
    rw [e] at dx hq eq ⊢
    exact h n q t mt hkn (Nat.le_refl _) dx hq eq
theorem z4m {st:SortSt} {k n:Nat} {Q:Option Nat→SortSt→Prop} (T:Tells prog w A s kd S r) (hS:∀ p∈a₀.toList,S p.1) (m:Mid kd a₀ st) (hn:n≤a₀.size) (hkn:k+1≤n) (d:Down r (arrOf st) (k+1))
    (h:∀ j t,Mid kd a₀ t→1≤j→j≤n→Up r (arrOf t) j→Q (some j) t):wpS (model prog w) A E s (descPart k n) Q st:=by
  unfold descPart
  refine wpS_bind (wpS_lift (wpAny_rule ⟨rfl,wpS_bind (z9o T hS m hn (by lia) hkn d fun j q t mt a b dt hq eq => ?_)⟩))
  have zs:j≤(arrOf t).size:=by rw [mt.sz];lia
  dsimp only
  by_cases y:q>0
  · rw [if_pos y]
    exact wpS_bind (wpS_reverse (z4l T hS (mt.put (mirror_perm _ _ _ _)) hn (by lia) b (fun i i' a' b' => by show rk r (mirror _ _ _ _) i' ≤ rk r (mirror _ _ _ _) i;rw [q6c zs eq,q6c zs eq];exact dt i i' a' b') h))
  · rw [if_neg y]
    exact z4l T hS mt hn (by lia) b dt h
theorem run_ok {st:SortSt} {n:Nat} {Q:Option Nat→SortSt→Prop} (T:Tells prog w A s kd S r) (hS:∀ p∈a₀.toList,S p.1) (m:Mid kd a₀ st) (hn:n≤a₀.size) (h1:1≤n)
    (h:∀ j t,Mid kd a₀ t→1≤j→j≤n→Up r (arrOf t) j→Q (some j) t):wpS (model prog w) A E s (countRun' 0 n) Q st:=by
  rw [countRun0_eq]
  refine wpS_bind (z8q T hS m hn (Nat.le_refl 1) h1 Up.one fun k a b u o => ?_)
  have zs:k≤(arrOf st).size:=by rw [m.sz];lia
  dsimp only
  by_cases e:k=n
  · rw [if_pos (by simpa using e)]
    exact wpS_pure (h k st m a b u)
  have lo:=o.resolve_left e
  rw [if_neg (by simpa using e)]
  by_cases g:k>1
  · rw [if_pos g]
    refine wpS_bind (z4k T hS m (by lia) (by lia) ?_)
    by_cases z:rk r (arrOf st) 0<rk r (arrOf st) (k - 1)
    · simp only [decide_eq_true z,if_true]
      exact wpS_pure (h k st m a b u)
    · simp only [decide_eq_false z,Bool.false_eq_true,if_false]
      have al:∀ i,0≤i→i<k→rk r (arrOf st) i=rk r (arrOf st) (k - 1):=fun i _ hi=>by
        have u1:=u 0 i (by lia) hi
        have u2:=u i (k - 1) (by lia) (by lia)
        lia
      refine wpS_bind (wpS_reverse (z4m T hS (m.put (mirror_perm _ _ _ _)) hn (by lia) (Down.more (fun i j a' b' => ?_) (by lia) ?_) h))
      · show rk r (mirror _ _ _ _) j≤rk r (mirror _ _ _ _) i
        rw [q6c zs al,q6c zs al,al i (by lia) (by lia),al j (by lia) (by lia)];exact Int.le_refl _
      · show rk r (mirror _ _ _ _) k≤rk r (mirror _ _ _ _) (k - 1)
        rw [q6c zs al,q6c zs al];lia
  · rw [if_neg g]
    have hk:k=1:=by lia
    subst hk
    exact z4m T hS m hn (by lia) (Down.more (fun i j a' b' => by rw [show i=j by lia];exact Int.le_refl _) (by lia) (by lia)) h
theorem ins_ok {st:SortSt} {n k:Nat} {Q:Bool→SortSt→Prop} (T:Tells prog w A s kd S r) (hS:∀ p∈a₀.toList,S p.1) (m:Mid kd a₀ st) (hn:n≤a₀.size) (hk:k≤n) (u:Up r (arrOf st) k)
    (h:∀ t,Mid kd a₀ t→Up r (arrOf t) n→Q true t):wpS (model prog w) A E s (binarySort' 0 n k) Q st:=by
  rw [binarySort'_eq]
  simp only [Nat.zero_add]
  refine wpS_bind (wpS_mono (wpS_forRange (fun j c t=>c=(none,())∧Mid kd a₀ t∧Up r (arrOf t) (min j n)) (Q:=fun c t=>c=(none,())∧Mid kd a₀ t∧Up r (arrOf t) n) ?step ?fin ⟨rfl,m,?init⟩) ?post)
  case step =>
    rintro j c t hj hjn ⟨rfl,mt,ut⟩
    have hmin:min j n=j:=by lia
    rw [hmin] at ut
    refine wpS_bind (wpS_mono (wpS_forRange (fun x c t' => t' = t∧∃ lo hi,c=(none,lo,hi)∧lo≤hi∧hi≤j∧hi - lo≤j - x∧(∀ i,i<lo→rk r (arrOf t) i≤rk r (arrOf t) j)∧∀ i,hi≤i→i<j→rk r (arrOf t) j<rk r (arrOf t) i)
      (Q:=fun c t' => t' = t∧∃ lo hi,c=(none,lo,hi)∧lo≤j∧(∀ i,i<lo→rk r (arrOf t) i≤rk r (arrOf t) j)∧∀ i,lo≤i→i<j→rk r (arrOf t) j<rk r (arrOf t) i)
      ?st2 ?fi2 ⟨rfl,0,j,rfl,by lia,by lia,by lia,fun i z=>by lia,fun i z y=>by lia⟩) ?po2)
    case st2 =>
      rintro x c t' hx hxj ⟨rfl,lo,hi,rfl,a1,a2,a3,a4,a5⟩
      dsimp only
      by_cases z:lo≥hi
      · rw [if_pos z]
        exact wpS_pure ⟨rfl,lo,hi,rfl,by lia,a4,fun i b c=>a5 i (by lia) c⟩
      · rw [if_neg z]
        refine wpS_bind (z4k T hS mt (by lia) (by lia) ?_)
        by_cases y:rk r (arrOf t') j<rk r (arrOf t') ((lo+hi) / 2)
        · simp only [decide_eq_true y,if_true]
          refine wpS_pure ⟨rfl,lo,(lo+hi) / 2,rfl,by lia,by lia,by lia,a4,fun i b c => ?_⟩
          have:=ut ((lo+hi) / 2) i b (by lia)
          lia
        · simp only [decide_eq_false y,Bool.false_eq_true,if_false]
          refine wpS_pure ⟨rfl,(lo+hi) / 2+1,hi,rfl,by lia,a2,by lia,fun i b => ?_,a5⟩
          have:=ut i ((lo+hi) / 2) (by lia) (by lia)
          lia
    case fi2 =>
      rintro c t' ⟨rfl,lo,hi,rfl,a1,a2,a3,a4,a5⟩
      exact⟨rfl,lo,hi,rfl,by lia,a4,fun i b c=>a5 i (by lia) c⟩
    case po2 =>
      rintro c t' ⟨rfl,lo,hi,rfl,a1,a4,a5⟩
      dsimp only
      rw [moveDown'_eq]
      have zs:j<(arrOf t').size:=by rw [mt.sz];lia
      refine wpS_bind (wpS_modify (wpS_pure ⟨rfl,mt.put (bubble_perm _ _ _),fun i i' b c => ?_⟩))
      show rk r (bubble (arrOf t') j (j - lo)) i≤rk r (bubble (arrOf t') j (j - lo)) i'
      have e1:j - (j - lo)=lo:=by lia
      rw [z8p zs (by lia),z8p zs (by lia),e1]
      have e2:i' ≤ j:=by lia
      by_cases b1:i=lo
      · rw [if_pos b1]
        by_cases b2:i' = lo
        · rw [if_pos b2];exact Int.le_refl _
        · rw [if_neg b2,if_pos (by lia)]
          exact Int.le_of_lt (a5 (i' - 1) (by lia) (by lia))
      · rw [if_neg b1]
        by_cases b2:i' = lo
        · rw [if_pos b2,if_neg (by lia)]
          exact a4 i (by lia)
        · rw [if_neg b2]
          by_cases b3:lo<i∧i≤j
          · rw [if_pos b3,if_pos (by lia)]
            exact ut _ _ (by lia) (by lia)
          · rw [if_neg b3]
            by_cases b4:lo<i' ∧ i' ≤ j
            · rw [if_pos b4];exact ut _ _ (by lia) (by lia)
            · rw [if_neg b4];exact ut _ _ b (by lia)
  case fin =>
    rintro c t ⟨ec,mt,ut⟩
    have e:min (max (max k 1) n) n=n:=by lia
    rw [e] at ut
    exact⟨ec,mt,ut⟩
  case init =>
    intro i j a b
    by_cases z:k=0
    · rw [show i=j by lia];exact Int.le_refl _
    · exact u i j a (by lia)
  case post =>
    rintro c t ⟨rfl,mt,ut⟩
    exact wpS_pure (h t mt ut)
structure Fin' (a₀:Array Keyed) (r:Value→Int) (st:SortSt):Prop where
  pm:(arrOf st).Perm a₀
  fl:failedOf st=none
  pd:pendingOf st = #[(0,a₀.size,0)]
  up:Up r (arrOf st) a₀.size
theorem z9p {st:SortSt} {Q:Unit→SortSt→Prop} (T:Tells prog w A s kd S r) (hS:∀ p∈a₀.toList,S p.1) (m:Mid kd a₀ st) (h2:2≤a₀.size) (h64:a₀.size<64)
    (h:∀ t,(arrOf t).Perm a₀→failedOf t=none→Up r (arrOf t) a₀.size→Q () t):wpS (model prog w) A E s sortRuns' Q st:=by
  rw [sortRuns'_eq]
  have em:minRun' a₀.size a₀.size 0=a₀.size:=by
    cases z:a₀.size with
    | zero=>rfl
    | succ f=>rw [minRun'_succ,if_pos (by lia)]
  have fin:∀ {t:SortSt},Mid kd a₀ t→Up r (arrOf t) a₀.size→Fin' a₀ r (setPending t ((pendingOf t).push (0,a₀.size,0))):=fun {t} mt ut=>⟨mt.pm,mt.fl,by show (pendingOf t).push _=_;rw [mt.pd];rfl,ut⟩
  have none_back:∀ {t:SortSt},Mid kd a₀ t→(pendingOf t).back? = none:=fun {t} mt=>by rw [mt.pd];rfl
  refine wpS_bind (wpS_get ?_);dsimp only;simp only [m.sz,em]
  refine wpS_bind (wpS_mono (wpS_forRange (fun x c t=>(x=0∧c=(none,0)∧Mid kd a₀ t)∨(1≤x∧c=(none,a₀.size)∧Fin' a₀ r t)) (Q:=fun c t=>c=(none,a₀.size)∧Fin' a₀ r t) ?st1 ?fi1 (.inl ⟨rfl,rfl,m⟩)) ?po1)
  case st1 =>
    intro x c t _ hx o
    rcases o with ⟨rfl,rfl,mt⟩ | ⟨x1,rfl,f⟩
    · dsimp only
      rw [if_neg (by lia)]
      simp only [Nat.sub_zero,Nat.min_self,Nat.zero_add]
      refine wpS_bind (run_ok T hS mt (Nat.le_refl _) (by lia) fun j t' mt' j1 j2 ut' => ?_)
      dsimp only
      by_cases z:j<a₀.size
      · rw [if_pos z]
        refine wpS_bind (wpS_lift (wpAny_rule ⟨rfl,wpS_bind (ins_ok T hS mt' (Nat.le_refl _) j2 ut' fun t2 mt2 ut2 => ?_)⟩))
        simp only [Bool.not_true,Bool.false_eq_true,if_false]
        refine wpS_bind (wpS_get ?_);rw [none_back mt2]
        exact wpS_bind (wpS_modify (wpS_pure (.inr ⟨by lia,rfl,fin mt2 ut2⟩)))
      · rw [if_neg z]
        have ej:j=a₀.size:=by lia
        subst ej
        refine wpS_bind (wpS_get ?_);rw [none_back mt']
        exact wpS_bind (wpS_modify (wpS_pure (.inr ⟨by lia,rfl,fin mt' ut'⟩)))
    · dsimp only
      rw [if_pos (Nat.le_refl _)]
      exact wpS_pure ⟨rfl,f⟩
  case fi1 =>
    intro c t o
    rcases o with ⟨z,_⟩ | ⟨_,ec,f⟩
    · lia
    · exact⟨ec,f⟩
  case po1 =>
    rintro c t ⟨rfl,f⟩
    dsimp only
    refine wpS_bind (wpS_mono (wpS_forRange (fun _ c t' => t' = t∧c=(none,())) (Q:=fun c t' => t' = t∧c=(none,())) ?st3 (fun _ _ z=>z) ⟨rfl,rfl⟩) ?po3)
    case st3 =>
      rintro x c t' _ _ ⟨rfl,rfl⟩
      refine wpS_bind (wpS_get ?_);rw [if_pos (by rw [f.pd];exact Nat.le_refl 1)]
      exact wpS_pure ⟨rfl,rfl⟩
    case po3 =>
      rintro c t' ⟨rfl,rfl⟩
      exact wpS_pure (h _ f.pm f.fl f.up)
end
end SB
namespace PySem.Rv
open Sem (wp)
abbrev itemObj (d:Addr) (i n ep:Nat) (f0 f1 ok ov:Value):Obj := { cls := .type "dict_itemiterator",dict:=none,data := .fields #[f0,f1,.ref d,.int i 0,.int n 0,.int ep 0,ok,ov],slots := #[] }
def ItemIt (h:Heap) (it d:Addr) (i n ep:Nat):Prop:=∃ f0 f1 ok ov,h.get? it=some (itemObj d i n ep f0 f1 ok ov)∧(f0 = .none∨∃ a:Addr,f0=rawInt a)
theorem ItemIt.typeIs {s:Shared} {it d:Addr} {i n ep:Nat} (x:ItemIt s.heap it d i n ep):s.TypeIs (.ref it) "dict_itemiterator" := by
  obtain⟨f0,f1,ok,ov,e,_⟩:=x;exact⟨_,e,rfl⟩
theorem ItemIt.lt {h:Heap} {it d:Addr} {i n ep:Nat} (x:ItemIt h it d i n ep):it<h.objs.size:=by
  obtain⟨f0,f1,ok,ov,e,_⟩:=x;exact Heap.lt_size e
theorem ItemIt.keep {h h' : Heap} {it d:Addr} {i n ep:Nat} (x:ItemIt h it d i n ep) (k:∀ o,h.get? it=some o→h'.get? it=some o):ItemIt h' it d i n ep:=by
  obtain⟨f0,f1,ok,ov,e,z⟩:=x;exact⟨f0,f1,ok,ov,k _ e,z⟩
section
variable {prog:Program} {w:World} {A:Around} {E:Value→Shared→Prop} {s:Shared} {it d v:Addr} {i ep:Nat} {dob:Obj} {ens:Array DictEntry}
theorem items_iter {Q:Value→Shared→Prop} (hv:s.heap.IsItemsView v d) (hdo:s.heap.get? d=some dob) (hda:dob.data = .dict ens ep)
    (hQ:Q (.ref s.heap.objs.size) { s with heap:=s.heap.push (itemObj d 0 ens.size ep .none (.bool false) .none .none) }):wpAny (model prog w) A (pyIter (.ref v)) Q E s:=by
  obtain⟨o,ho,hc,hf⟩:=id hv
  refine wpAny_pyIter_slot hv.typeIs F.slot_dict_items_iter (wpAny_call_entry F.slot_dict_items_iter hv.typeIs F.entry_dict_items_iter ?_ (F.args_dict_items_iter_1 _));unfold Builtin.«dict_items.__iter__»
  refine wpAny_bind (wpAny_pure (wpAny_bind ?_));unfold Builtin.Dict_items.dictOf
  refine wpAny_bind (wpAny_field ho hf (x := .ref d) rfl (wpAny_pure (wpAny_bind ?_)));unfold Builtin.Dict_items.newIterator
  refine wpAny_bind (wpAny_dictEntries hdo hda (wpAny_bind (wpAny_dictEpoch hdo hda ?_)))
  simp only [show Builtin.Dict_items.ownsTuple "dict_itemiterator" = true from by decide,if_true]
  refine wpAny_newObj_type (wpAny_pure ⟨_,rfl, "dict_itemiterator",_,⟨_,Heap.get?_push_size _ rfl,rfl⟩,F.slot_dict_itemiterator_next.lookup,?_⟩) (by simp [sizeOk,Builtin.Dict_items.ownedTupleFields,sizeLine_eq])
  simpa [rawInt,itemObj,Builtin.Dict_items.ownedTupleFields] using hQ
theorem q6x {f0 f1 ok ov x:Value} {k:Nat} {Q:Unit→Shared→Prop} (e:s.heap.get? it=some (itemObj d i n ep f0 f1 ok ov)) (hk:k<8)
    (hQ:∀ h',h'.get? it=some { cls := .type "dict_itemiterator",dict:=none,data := .fields ((#[f0,f1,.ref d,.int i 0,.int n 0,.int ep 0,ok,ov]:Array Value).setIfInBounds k x),slots := #[] }→Heap.SameBut it s.heap h' → Q () { s with heap:=h' }) :
    wpAny (model prog w) A (setField (.ref it) k x) Q E s:=wpAny_setField_rec e (by simpa using hk) hQ
theorem owned {n:Nat} {Q:Bool→Shared→Prop} (x:ItemIt s.heap it d i n ep) (hQ:∀ b h',ItemIt h' it d i n ep→Heap.SameBut it s.heap h' → Q b { s with heap:=h' }) :
    wpAny (model prog w) A (Builtin.Dict_items.ownedTupleIsFree (.ref it)) Q E s:=by
  obtain⟨f0,f1,ok,ov,e,z⟩:=id x
  unfold Builtin.Dict_items.ownedTupleIsFree
  refine wpAny_bind (wpAny_field e rfl (x:=f0) rfl ?_)
  rcases z with rfl | ⟨a,rfl⟩
  · exact wpAny_pure (hQ true s.heap x (Heap.SameBut.refl _ _))
  · show wpAny _ _ (loadIfAlive (Int.toNat (a:Int)) >>= _) _ _ _
    have al:∀ {Q' : Option Obj→Shared→Prop},Q' (s.heap.get? (Int.toNat (a:Int))) s→wpAny (model prog w) A (loadIfAlive (Int.toNat (a:Int))) Q' E s:=fun h' _ _ _=>h'
    refine wpAny_bind (al ?_)
    by_cases hn:(s.heap.get? (Int.toNat (a:Int))).isNone=true
    · rw [if_pos hn]
      exact wpAny_pure (hQ true s.heap x (Heap.SameBut.refl _ _))
    · rw [if_neg hn]
      refine wpAny_bind (wpAny_field e rfl (x:=f1) rfl ?_)
      dsimp only
      by_cases hb:(f1 != Value.bool true)=true
      · rw [if_pos hb]
        refine wpAny_bind (q6x e (by decide) fun h' e' sb=>wpAny_pure (hQ false h' ⟨_,_,_,_,e',.inr ⟨a,rfl⟩⟩ sb))
      · rw [if_neg hb]
        exact wpAny_pure (hQ false s.heap x (Heap.SameBut.refl _ _))
theorem items_item {Q:Option Value→Shared→Prop} (x:ItemIt s.heap it d i ens.size ep) (hdo:s.heap.get? d=some dob) (hda:dob.data = .dict ens ep) (hlt:i<ens.size)
    (hQ:∀ h',ItemIt h' it d (i+1) ens.size ep→h'.get? s.heap.objs.size=some { cls := .type "tuple",data := .seq #[ens[i].key,ens[i].val] }→h'.objs.size=s.heap.objs.size+1 →
      (∀ b o,b≠it→s.heap.get? b=some o→h'.get? b=some o)→Q (some (.ref s.heap.objs.size)) { s with heap:=h' }):wpAny (model prog w) A (pyNext (.ref it)) Q E s:=by
  obtain⟨f0,f1,ok,ov,e,z⟩:=id x
  have hT:=x.typeIs
  unfold pyNext
  refine wpAny_bind (wpAny_attempt (wpAny_callSpecial?_slot (name:=Str.ofString "__next__") hT F.slot_dict_itemiterator_next (wpAny_call_entry F.slot_dict_itemiterator_next hT F.entry_dict_itemiterator_next ?_ (F.args_dict_itemiterator_next_1 _))))
  refine wpAny_bind (wpAny_pure (wpAny_bind (wpAny_bind ?_)))
  first | refine wpAny_bind (wpAny_typeNameOfWhole_itemiter hT (wpAny_pure ?_)) | refine wpAny_bind (wpAny_typeNameOf_itemiter hT (wpAny_pure ?_))
  refine wpAny_bind (wpAny_fieldsOf e rfl ?_);simp only [show Builtin.Dict_items.ownsTuple "dict_itemiterator" = true from by decide,if_true]
  show wpAny _ _ (if (Value.ref d==Value.none)=true then _ else _) _ _ s
  rw [if_neg (show ¬ ((Value.ref d==Value.none)=true) from Bool.false_ne_true)]
  refine wpAny_bind (wpAny_pure (wpAny_bind (wpAny_dictEntries hdo hda ?_)))
  rw [if_neg (by simp)]
  refine wpAny_bind (wpAny_pure (wpAny_bind (wpAny_dictEpoch hdo hda ?_)))
  rw [if_neg (by simp)]
  refine wpAny_pure ?_
  simp only [show ¬ ((i:Int)<0) from by lia,if_false,Int.toNat_natCast,Array.getElem?_eq_getElem hlt]
  refine wpAny_bind ?_
  first | refine wpAny_bind (wpAny_typeNameOfWhole_itemiter hT (wpAny_pure ?_)) | refine wpAny_bind (wpAny_typeNameOf_itemiter hT (wpAny_pure ?_))
  refine wpAny_bind (wpAny_isOneOf_itemiter hT ?_)
  show wpAny _ _ (setField (.ref it) 3 (rawInt ((i:Int)+1)) >>= _) _ _ s
  refine wpAny_bind (q6x e (by decide) fun h₁ e₁ sb₁ => ?_)
  have x₁:ItemIt h₁ it d (i+1) ens.size ep:=⟨f0,f1,ok,ov,by rw [e₁];simp [itemObj,rawInt],z⟩
  refine wpAny_bind (wpAny_holding ?_)
  refine wpAny_bind (wpAny_isOneOf_itemiter (s := { s with heap:=h₁ }) x₁.typeIs (wpAny_bind (wpAny_isOneOf_itemiter (s := { s with heap:=h₁ }) x₁.typeIs ?_)))
  show wpAny _ _ (Builtin.Dict_items.pairFromOwner (.ref it) 6 ens[i].key ens[i].val) _ _ { s with heap:=h₁ }
  unfold Builtin.Dict_items.pairFromOwner
  have z₁:h₁.objs.size=s.heap.objs.size:=sb₁.1
  have hil:it≠s.heap.objs.size:=Nat.ne_of_lt x.lt
  refine wpAny_bind (wpAny_newTuple ?_)
  refine wpAny_bind (owned (s := { s with heap:=h₁.push { cls := .type "tuple",data := .seq #[ens[i].key,ens[i].val] } }) (x₁.keep fun o q=>Heap.get?_push_of_some _ q) fun b h₂ x₂ sb₂ => ?_)
  have t₂:h₂.get? s.heap.objs.size=some { cls := .type "tuple",data := .seq #[ens[i].key,ens[i].val] }:=by
    rw [sb₂.2 _ (Ne.symm hil),← z₁];exact Heap.get?_push_size _ rfl
  have n₂:h₂.objs.size=s.heap.objs.size+1:=by rw [sb₂.1];show (h₁.push _).objs.size=_;rw [Heap.size_push,z₁]
  have k₂:∀ b o,b≠it→s.heap.get? b=some o→h₂.get? b=some o:=fun b o hb q=>by
    rw [sb₂.2 b hb];exact Heap.get?_push_of_some _ ((sb₁.2 b hb).trans q)
  show wpAny _ _ _ _ _ { s with heap:=h₂ }
  have ez:(Value.ref h₁.objs.size) = .ref s.heap.objs.size:=by rw [z₁]
  cases b with
  | false =>
    simp only [Bool.false_eq_true,if_false]
    refine wpAny_pure (wpAny_pure ⟨_,rfl,wpAny_pure ?_⟩)
    rw [ez]
    exact hQ h₂ x₂ t₂ n₂ k₂
  | true =>
    simp only [if_true]
    obtain⟨g0,g1,ok2,ov2,e₂,_⟩:=x₂
    refine wpAny_bind (wpAny_field e₂ rfl (x:=ok2) rfl (wpAny_bind (wpAny_field e₂ rfl (x:=ov2) rfl ?_)))
    refine wpAny_bind (q6x (s := { s with heap:=h₂ }) e₂ (by decide) fun h₃ e₃ sb₃ => ?_)
    refine wpAny_bind (q6x (s := { s with heap:=h₃ }) (f0:=g0) (f1:=g1) (ok:=ens[i].key) (ov:=ov2) e₃ (by decide) fun h₄ e₄ sb₄ => ?_)
    refine wpAny_bind (q6x (s := { s with heap:=h₄ }) (f0:=g0) (f1:=g1) (ok:=ens[i].key) (ov:=ens[i].val) e₄ (by decide) fun h₅ e₅ sb₅ => ?_)
    refine wpAny_bind (q6x (s := { s with heap:=h₅ }) (f0:=rawInt h₁.objs.size) (f1:=g1) (ok:=ens[i].key) (ov:=ens[i].val) e₅ (by decide) fun h₆ e₆ sb₆ => ?_)
    have kk:∀ b o,b≠it→h₂.get? b=some o→h₆.get? b=some o:=fun b o hb q=>(sb₆.2 b hb).trans ((sb₅.2 b hb).trans ((sb₄.2 b hb).trans ((sb₃.2 b hb).trans q)))
    refine wpAny_bind (wpAny_letGo (wpAny_pure (wpAny_pure ⟨_,rfl,wpAny_pure ?_⟩)))
    rw [ez]
    refine hQ h₆ ⟨_,_,_,_,e₆,.inr ⟨_,rfl⟩⟩ (kk _ _ (Ne.symm hil) t₂) ?_ fun b o hb q=>kk b o hb (k₂ b o hb q)
    rw [sb₆.1];show h₅.objs.size=_;rw [sb₅.1];show h₄.objs.size=_;rw [sb₄.1];show h₃.objs.size=_;rw [sb₃.1];exact n₂
theorem items_end {Q:Option Value→Shared→Prop} (hh:A.handled=none) (x:ItemIt s.heap it d i ens.size ep) (hdo:s.heap.get? d=some dob) (hda:dob.data = .dict ens ep) (hge:ens.size≤i)
    (hQ:∀ h',Heap.ExtBut it s.heap h' → Q none { s with heap:=h' }):wpAny (model prog w) A (pyNext (.ref it)) Q E s:=by
  obtain⟨f0,f1,ok,ov,e,z⟩:=id x
  have hT:=x.typeIs
  unfold pyNext
  refine wpAny_bind (wpAny_attempt (wpAny_callSpecial?_slot (name:=Str.ofString "__next__") hT F.slot_dict_itemiterator_next (wpAny_call_entry F.slot_dict_itemiterator_next hT F.entry_dict_itemiterator_next ?_ (F.args_dict_itemiterator_next_1 _))))
  refine wpAny_bind (wpAny_pure (wpAny_bind (wpAny_bind ?_)))
  first | refine wpAny_bind (wpAny_typeNameOfWhole_itemiter hT (wpAny_pure ?_)) | refine wpAny_bind (wpAny_typeNameOf_itemiter hT (wpAny_pure ?_))
  refine wpAny_bind (wpAny_fieldsOf e rfl ?_);simp only [show Builtin.Dict_items.ownsTuple "dict_itemiterator" = true from by decide,if_true]
  show wpAny _ _ (if (Value.ref d==Value.none)=true then _ else _) _ _ s
  rw [if_neg (show ¬ ((Value.ref d==Value.none)=true) from Bool.false_ne_true)]
  refine wpAny_bind (wpAny_pure (wpAny_bind (wpAny_dictEntries hdo hda ?_)))
  rw [if_neg (by simp)]
  refine wpAny_bind (wpAny_pure (wpAny_bind (wpAny_dictEpoch hdo hda ?_)))
  rw [if_neg (by simp)]
  refine wpAny_pure ?_
  simp only [show ¬ ((i:Int)<0) from by lia,if_false,Int.toNat_natCast,Array.getElem?_eq_none hge]
  refine wpAny_bind ?_
  first | refine wpAny_bind (wpAny_typeNameOfWhole_itemiter hT (wpAny_pure ?_)) | refine wpAny_bind (wpAny_typeNameOf_itemiter hT (wpAny_pure ?_))
  show wpAny _ _ (setField (.ref it) 2 .none >>= _) _ _ s
  refine wpAny_bind (wpAny_setField e rfl (by simp) ?_);show wpAny _ _ (newExc (.type "StopIteration") [] >>= _) _ _ _
  refine wpAny_bind ?_
  simp only [newExc,newTuple]
  refine wpAny_bind (wpAny_newObj_type (wpAny_bind (m:=firstArgMember _ _) (wpAny_of_eq (a:=Value.none) (by first | rfl | (simp only [firstArgMember];rfl)) ?_)) (by size_fits))
  refine wpAny_newObj_type ?_ (by size_fits)
  simp only [raiseNew]
  refine wpAny_bind (wpAny_handled ?_);rw [show A.in1.handled=none from hh]
  refine wpAny_bind (wpAny_pure (wpAny_throw ?_))
  refine wpAny_bind (wpAny_isInstance (T := "StopIteration") (b:=true) ⟨_,Heap.get?_push_size _ rfl,rfl⟩ isSubtype_stop ?_)
  exact wpAny_pure (hQ _ (((Heap.SameBut.update ..).extBut.push _).push _))
end
end PySem.Rv
namespace SB
open PySem PyProof.Rows TX
abbrev Pth:=List (List Nat)
def pLt:Pth→Pth→Bool
  | [],[]=>false
  | [],_::_=>true
  | _::_,[]=>false
  | a::r,b::t=>if a=b then pLt r t else decide (a<b)
theorem q4c (a b:List Nat) (r t:Pth):pLt (a::r) (b::t)=if a=b then pLt r t else decide (a<b):=rfl
theorem q4p:∀ p:Pth,pLt p p=false
  | []=>rfl
  | a::r=>by rw [q4c,if_pos rfl];exact q4p r
theorem q8z {a b c:List Nat} (h:a<b) (h' : b<c):a<c:=List.lt_trans h h'
theorem z9q {a b:List Nat} (h:¬ a<b) (h' : ¬ b<a):a=b:=List.le_antisymm (List.not_lt.mp h') (List.not_lt.mp h)
theorem q9a:∀ {p q t:Pth},pLt p q=true→pLt q t=true→pLt p t=true
  | [],[],_,h,_=>by cases h
  | _::_,[],_,h,_=>by cases h
  | _,_::_,[],_,h=>by cases h
  | [],_::_,_::_,_,_=>rfl
  | a::p,b::q,c::t,h,h' => by
    rw [q4c] at h h' ⊢
    by_cases e1:a=b
    · subst e1
      rw [if_pos rfl] at h
      by_cases e2:a=c
      · rw [if_pos e2] at h' ⊢;exact q9a h h'
      · rw [if_neg e2] at h' ⊢;exact h'
    · rw [if_neg e1] at h
      by_cases e2:b=c
      · subst e2;rw [if_neg e1];exact h
      · rw [if_neg e2] at h'
        have h1:=of_decide_eq_true h
        have h2:=of_decide_eq_true h'
        have h3:=q8z h1 h2
        rw [if_neg (fun e=>by subst e;exact absurd (q8z h1 h2) (List.lt_irrefl _))]
        exact decide_eq_true h3
theorem z0c:∀ {p q:Pth},pLt p q=false→pLt q p=false→p=q
  | [],[],_,_=>rfl
  | [],_::_,h,_=>by cases h
  | _::_,[],_,h=>by cases h
  | a::p,b::q,h,h' => by
    rw [q4c] at h h'
    by_cases e:a=b
    · subst e
      rw [if_pos rfl] at h h'
      rw [z0c h h']
    · rw [if_neg e] at h
      rw [if_neg (Ne.symm e)] at h'
      exact absurd (z9q (of_decide_eq_false h) (of_decide_eq_false h')) e
def pRank (ps:List Pth) (p:Pth):Nat:=(ps.filter fun q=>pLt q p).length
theorem q9b {α:Type} {f g:α→Bool}:∀ (l:List α),(∀ x∈l,f x=true→g x=true)→(l.filter f).length≤(l.filter g).length
  | [],_=>Nat.le_refl _
  | x::r,h=>by
    have ih:=q9b r fun y hy=>h y (List.mem_cons_of_mem _ hy)
    by_cases hf:f x=true
    · rw [List.filter_cons_of_pos hf,List.filter_cons_of_pos (h x List.mem_cons_self hf)]
      exact Nat.succ_le_succ ih
    · rw [List.filter_cons_of_neg hf]
      by_cases hg:g x=true
      · rw [List.filter_cons_of_pos hg];exact Nat.le_succ_of_le ih
      · rw [List.filter_cons_of_neg hg];exact ih
theorem q9c {α:Type} {f g:α→Bool} {y:α}:∀ (l:List α),(∀ x∈l,f x=true→g x=true)→y∈l→f y=false→g y=true→(l.filter f).length<(l.filter g).length
  | [],_,hy,_,_=>by cases hy
  | x::r,h,hy,h1,h2=>by
    rcases List.mem_cons.mp hy with e | hy
    · subst e
      rw [List.filter_cons_of_neg (by rw [h1];decide),List.filter_cons_of_pos h2]
      exact Nat.lt_succ_of_le (q9b r fun z hz=>h z (List.mem_cons_of_mem _ hz))
    · have ih:=q9c r (fun z hz=>h z (List.mem_cons_of_mem _ hz)) hy h1 h2
      by_cases hf:f x=true
      · rw [List.filter_cons_of_pos hf,List.filter_cons_of_pos (h x List.mem_cons_self hf)]
        exact Nat.succ_lt_succ ih
      · rw [List.filter_cons_of_neg hf]
        by_cases hg:g x=true
        · rw [List.filter_cons_of_pos hg];exact Nat.lt_succ_of_lt ih
        · rw [List.filter_cons_of_neg hg];exact ih
theorem q6y {ps:List Pth} {p q:Pth} (hp:p∈ps) (h:pLt p q=true):pRank ps p<pRank ps q :=
  q9c ps (fun x _ hx=>q9a hx h) hp (q4p p) h
theorem z0d {ps:List Pth} {p q:Pth} (hp:p∈ps) (hq:q∈ps):pLt p q=decide ((pRank ps p:Int)<(pRank ps q:Int)):=by
  cases h:pLt p q with
  | true=>have:=q6y hp h;exact (decide_eq_true (by lia)).symm
  | false =>
    cases h' : pLt q p with
    | true=>have:=q6y hq h';exact (decide_eq_false (by lia)).symm
    | false=>rw [z0c h h'];exact (decide_eq_false (by lia)).symm
def PathAt (h:Heap) (v:Value) (p:Pth):Prop:=∃ a its,v = .ref a∧IsTup h a its∧StrsAre its.toList (p.map mk)
theorem mk_inj {a b:List Nat} (h:mk a=mk b):a=b:=by have:=congrArg tl h;rwa [q2h,q2h] at this
theorem q6d:∀ {vs:List Value} {ss ts:List Str},StrsAre vs ss→StrsAre vs ts→ss=ts
  | _,_,_,.nil,.nil=>rfl
  | _,_,_,.cons y t h,.cons _ _ h' => by rw [q6d h h']
theorem q6z:∀ {p q:Pth},p.map mk=q.map mk→p=q
  | [],[],_=>rfl
  | [],_::_,h=>by simp at h
  | _::_,[],h=>by simp at h
  | a::p,b::q,h=>by
    rw [List.map_cons,List.map_cons] at h
    injection h with h1 h2
    rw [mk_inj h1,q6z h2]
theorem q2c:∀ {vs:List Value} {p:Pth},StrsAre vs (p.map mk)→vs.length=p.length
  | _,[],.nil=>rfl
  | vs,n::p,h=>by
    rw [List.map_cons] at h
    cases h with
    | cons _ _ h' => rw [List.length_cons,List.length_cons,q2c h']
theorem IsTup.inj {h:Heap} {a:Addr} {x y:Array Value} (h1:IsTup h a x) (h2:IsTup h a y):x=y:=by
  obtain⟨o,e,_,n,d⟩:=h1
  obtain⟨o',e',_,n',d'⟩:=h2
  rw [e] at e';cases e';rw [d] at d';cases d';rfl
theorem PathAt.inj {h:Heap} {v:Value} {p q:Pth} (h1:PathAt h v p) (h2:PathAt h v q):p=q:=by
  obtain⟨a,its,rfl,t,s⟩:=h1
  obtain⟨a',its',e,t',s'⟩:=h2
  cases e
  rw [IsTup.inj t t'] at s
  exact q6z (q6d s s')
theorem IsTup.keep {h h' : Heap} {a:Addr} {x:Array Value} (t:IsTup h a x) (k:∀ o,h.get? a=some o→h'.get? a=some o):IsTup h' a x:=let ⟨o,e,r⟩:=t;⟨o,k o e,r⟩
theorem PathAt.keep {h h' : Heap} {v:Value} {p:Pth} (x:PathAt h v p) (k:∀ b o,h.get? b=some o→h'.get? b=some o):PathAt h' v p:=let ⟨a,its,e,t,s⟩:=x;⟨a,its,e,IsTup.keep t fun o=>k a o,s⟩
def dP (p:Pth):List PyData:=p.map fun n=>PyData.str (mk n)
def Low (p:Pth):Prop:=∀ n∈p,∀ c∈n,c<128
theorem q7a {h:Heap}:∀ {p:Pth} {vs:List Value},StrsAre vs (p.map mk)→∃ as,ReadsAll h vs (dP p) as
  | [],_,.nil=>⟨_,.nil⟩
  | n::p,vs,x=>by
    rw [List.map_cons] at x
    cases x with
    | cons y t s =>
      obtain⟨as,h'⟩:=q7a s
      exact⟨_,.cons (.str _ t) h'⟩
theorem PathAt.reads {h:Heap} {v:Value} {p:Pth} (x:PathAt h v p):∃ as,Reads h v (.tuple (dP p)) as:=by
  obtain⟨a,its,rfl,⟨o,e,c,n,d⟩,s⟩:=x
  obtain⟨as,r⟩:=q7a (h:=h) s
  exact⟨_,.tuple e c d r⟩
theorem z4n {l:List Nat} (h:∀ c∈l,c<128):PySem.PyData.strOk (mk l)=true:=by
  unfold PySem.PyData.strOk
  simp only [mk,List.all_toArray,List.all_eq_true]
  intro c hc
  have:=h c hc
  simp
  lia
theorem q7b:∀ {p:Pth},Low p→PySem.PyData.canLayAll0 (dP p)=true
  | [],_=>rfl
  | n::r,h=>by
    have h1:=z4n (h n List.mem_cons_self)
    have ih:=q7b (p:=r) fun x hx=>h x (List.mem_cons_of_mem _ hx)
    show PySem.PyData.canLayAll0 (PyData.str (mk n)::dP r)=true
    simp only [PySem.PyData.canLayAll0,PySem.PyData.canLay0,h1,ih,Bool.and_self]
theorem q4d:∀ p:Pth,PySem.PyData.depthAll (dP p)≤1
  | []=>by simp [dP,PySem.PyData.depthAll]
  | n::r=>by
    have ih:=q4d r
    show PySem.PyData.depthAll (PyData.str (mk n)::dP r)≤1
    simp only [PySem.PyData.depthAll,PySem.PyData.depth]
    lia
theorem q6e:∀ p q:Pth,PyData.eqvAll (dP p) (dP q)=decide (p=q)
  | [],[]=>rfl
  | [],_::_=>rfl
  | _::_,[]=>rfl
  | a::p,b::q=>by
    show PyData.eqvAll (PyData.str (mk a)::dP p) (PyData.str (mk b)::dP q)=_
    have e:PyData.eqvAll (PyData.str (mk a)::dP p) (PyData.str (mk b)::dP q)=(PyData.eqv (PyData.str (mk a)) (PyData.str (mk b))&&PyData.eqvAll (dP p) (dP q)):=by simp only [PyData.eqvAll]
    have e2:PyData.eqv (PyData.str (mk a)) (PyData.str (mk b))=(mk a==mk b):=by simp only [PyData.eqv]
    rw [e,e2,q6e p q]
    by_cases h:a=b
    · subst h;simp
    · have:(mk a==mk b)=false:=beq_eq_false_iff_ne.mpr fun z=>h (mk_inj z)
      rw [this];simp [h]
section
variable {prog:Program} {w:World} {A:Around} {E:Value→Shared→Prop} {s:Shared} {x y:Value} {p q:Pth}
theorem z7e (hx:PathAt s.heap x p) (hy:PathAt s.heap y q) (lp:Low p) (lq:Low q) (hu:A.units+2<cLine):SeqAt.EqAt A s x y (decide (p=q)):=by
  obtain⟨as,r1⟩:=hx.reads
  obtain⟨bs,r2⟩:=hy.reads
  have h:=SeqAt.eqAt_reads (.tuple (dP p)) (.tuple (dP q)) A s x y as bs r1 r2 (by simp only [PySem.PyData.canLay0,q7b lp]) (by simp only [PySem.PyData.canLay0,q7b lq]) (by
    have h1:(PyData.tuple (dP p)).depth=PySem.PyData.depthAll (dP p)+1:=by simp only [PySem.PyData.depth]
    have:=q4d p
    lia)
  have e:PyData.eqv (.tuple (dP p)) (.tuple (dP q))=decide (p=q):=by simp only [PyData.eqv,q6e]
  rwa [e] at h
theorem q9d (l b:Addr) (items items2:Array Value) (n n2:Nat) (dd dd2:Option Addr) (sl sl2:Array (Option Value)) (p q:Pth) (hi:StrsAre items.toList (p.map mk)) (hj:StrsAre items2.toList (q.map mk)) :
    Meets (Builtin.«tuple.__lt__» ⟨[.ref l,.ref b],[]⟩)
      (fun _ R s=>s.heap.get? l=some { cls := .type "tuple",dict:=dd,data := .seq items n,slots:=sl }∧s.heap.get? b=some { cls := .type "tuple",dict:=dd2,data := .seq items2 n2,slots:=sl2 } ∧
        R (.ok (.ret (.bool (pLt p q)))) s) :=
  .of_wp fun prog w A R s h=>by
    obtain⟨hp,g,d,tk,os⟩:=s;obtain⟨hl,hb,h⟩:=h
    have f2:=AutoSeq1.sub_tuple_tuple
    have z1:items.size=p.length:=by have:=q2c hi;simpa using this
    have z2:items2.size=q.length:=by have:=q2c hj;simpa using this
    wp_walk using PySem.AutoSeq1.wpAny_loadPart' hl,PySem.AutoSeq1.wpAny_loadPart' hb,wpAny_forIn_list _ (fun rest c s' => c.1=none∧s' = ⟨hp,g,d,tk,os⟩∧∃ (vs ws:List Value) (p' q' : Pth),rest=vs.zip ws ∧
      StrsAre vs (p'.map mk)∧StrsAre ws (q'.map mk)∧p'.length+items2.size=q'.length+items.size∧R (.ok (.ret (.bool (pLt p' q')))) ⟨hp,g,d,tk,os⟩) _
    case turn =>
      rintro ⟨y,x⟩ rest c s' ⟨hb',rfl,vs,ws,p',q',hz,hvi,hwi,hlen,hR⟩
      cases p' with
      | nil=>cases hvi;rw [List.zip_nil_left] at hz;cases hz
      | cons m p' =>
        cases q' with
        | nil=>cases hwi;rw [List.zip_nil_right] at hz;cases hz
        | cons m' q' =>
          rw [List.map_cons] at hvi hwi
          cases hvi with
          | cons _ t hvi' =>
            cases hwi with
            | cons _ u hwi' =>
              rw [List.zip_cons_cons] at hz
              injection hz with hyx hrest
              injection hyx with hy hx
              subst hy hx
              rw [q4c] at hR
              simp only [List.length_cons] at hlen
              refine wpAny_bind (SeqAt.EqAt.str_str (mk m) t (mk m') u (A:=A.in1) (s:=⟨hp,g,d,tk,os⟩) prog w _ _ ?_)
              by_cases e:m=m'
              · subst e
                rw [if_pos rfl] at hR
                rw [beq_self_eq_true]
                wp_walk
                exact⟨rfl,rfl,_,_,_,_,hrest,hvi',hwi',by lia,hR⟩
              · rw [if_neg e] at hR
                have e2:(mk m==mk m')=false:=beq_eq_false_iff_ne.mpr fun z=>e (mk_inj z)
                rw [e2]
                have hri:∀ (E:Value→Shared→Prop) (Q:Value→Shared→Prop),Q (.bool (decide (m<m'))) ⟨hp,g,d,tk,os⟩→wpAny (model prog w) A.in1 (richCompare .Lt (.str (mk m) t) (.str (mk m') u)) Q E ⟨hp,g,d,tk,os⟩:=fun E Q hq =>
                  (PyProof.Rows.lt_str (by
                    have e3:(mk m).cps.toList=m:=q2h m
                    have e4:(mk m').cps.toList=m' := q2h m'
                    rw [e3,e4];exact hq):wpAny (model prog w) A.in1 (compareOp .Lt (.str (mk m) t) (.str (mk m') u)) Q E ⟨hp,g,d,tk,os⟩)
                wp_walk using hri
                exact⟨_,rfl,by simpa using hR⟩
    case fin =>
      rintro ⟨b1,b2⟩ s' ⟨hb',rfl,vs,ws,p',q',hz,hvi,hwi,hlen,hR⟩
      simp only at hb'
      subst hb'
      have hv:pLt p' q' = decide (items.size<items2.size):=by
        cases p' with
        | nil =>
          cases q' with
          | nil=>exact (decide_eq_false (by simp only [List.length_nil] at hlen;lia)).symm
          | cons m' q' => exact (decide_eq_true (by simp only [List.length_nil,List.length_cons] at hlen;lia)).symm
        | cons m p' =>
          cases q' with
          | nil=>exact (decide_eq_false (by simp only [List.length_nil,List.length_cons] at hlen;lia)).symm
          | cons m' q' =>
            rw [List.map_cons] at hvi hwi
            cases hvi with
            | cons _ t _=>cases hwi with | cons _ u _=>rw [List.zip_cons_cons] at hz;cases hz
      rw [hv] at hR
      wp_walk
      exact⟨_,rfl,by simpa [Builtin.Tuple.tupleCompareSizes] using hR⟩
    case h =>
      exact⟨rfl,rfl,items.toList,items2.toList,p,q,rfl,hi,hj,by lia,h⟩
theorem z7f {Q:Value→Shared→Prop} (hx:PathAt s.heap x p) (hy:PathAt s.heap y q) (hu:A.units<cLine) (h:Q (.bool (pLt p q)) s):wpAny (model prog w) A (compareOp .Lt x y) Q E s:=by
  obtain⟨l,items,rfl,hl,hi⟩:=hx
  obtain⟨b,items2,rfl,hb,hj⟩:=hy
  obtain⟨⟨cls,dd,data,sl⟩,ho,hc,n,hd⟩:=id hl
  obtain⟨⟨cls2,dd2,data2,sl2⟩,ho2,hc2,n2,hd2⟩:=id hb
  simp only at hc hd hc2 hd2
  subst hc hd hc2 hd2
  exact richCompare_meets_room (op := .Lt) ⟨_,ho,rfl⟩ ⟨_,ho2,rfl⟩ PySem.F.slot_tuple_lt PySem.F.entry_tuple_lt (PySem.F.args_tuple_lt_2 _ _) (q9d l b items items2 n n2 dd dd2 sl sl2 p q hi hj)
    ⟨ho,ho2,show Value.bool (pLt p q)≠Value.notImplemented∧Q (.bool (pLt p q)) s from ⟨(fun x=>nomatch x),h⟩⟩ hu
theorem z9r {b:Bool} {m m' : List Nat} {t u:Tok} {Q:Bool→Shared→Prop} (h:Q (decide (m<m')) s):wpAny (model prog w) A (oneLt' b (.str (mk m) t) (.str (mk m') u)) Q E s:=by
  have e3:(mk m).cps.toList=m:=q2h m
  have e4:(mk m').cps.toList=m' := q2h m'
  cases b with
  | true=>exact oneLt_str (by rw [e3,e4];exact h)
  | false =>
    rw [oneLt'_eq]
    simp only [Bool.false_eq_true,if_false]
    exact wpAny_bind ((PyProof.Rows.lt_str (by rw [e3,e4];exact wpAny_truthy_bool h):wpAny (model prog w) A (compareOp .Lt (.str (mk m) t) (.str (mk m') u)) _ E s))
theorem z7g {Q:Bool→Shared→Prop} (hx:PathAt s.heap x p) (hy:PathAt s.heap y q) (hu:A.units<cLine) (h:Q (pLt p q) s):wpAny (model prog w) A (oneLt' false x y) Q E s:=by
  rw [oneLt'_eq]
  simp only [Bool.false_eq_true,if_false]
  exact wpAny_bind (z7f hx hy hu (wpAny_truthy_bool h):wpAny (model prog w) A (compareOp .Lt x y) _ E s)
theorem z4o {b:Bool} {Q:Bool→Shared→Prop} (hx:PathAt s.heap x p) (hy:PathAt s.heap y q) (h:Q (pLt p q) s):wpAny (model prog w) A (keyLt' (tuples' b) x y) Q E s:=by
  obtain⟨l,items,rfl,⟨o,ho,hc,n,hd⟩,hi⟩:=hx
  obtain⟨m,items2,rfl,⟨o2,ho2,hc2,n2,hd2⟩,hj⟩:=hy
  refine wpAny_bind (m:=Builtin.List.listItems (.ref l)) (listItems_at ho hd (wpAny_bind (m:=Builtin.List.listItems (.ref m)) (listItems_at ho2 hd2 ?_)))
  have z1:items.size=p.length:=by have:=q2c hi;simpa using this
  have z2:items2.size=q.length:=by have:=q2c hj;simpa using this
  refine wpAny_bind (wpAny_forIn_list _ (fun rest c s' => c=(none,())∧s' = s∧∃ (vs ws:List Value) (p' q' : Pth) (k:Nat),rest=(vs.zip ws).zipIdx k∧StrsAre vs (p'.map mk)∧StrsAre ws (q'.map mk) ∧
      p'.length+items2.size=q'.length+items.size∧Q (pLt p' q') s) (fun c s' => match c.1 with | some r=>Q r s' | none=>c.1=none∧Q (decide (items.size<items2.size)) s') ?turn ?fin _ _ ?h0 |> fun z=>wpAny_mono z ?post fun _ _ e=>e)
  case post =>
    rintro ⟨c,⟨⟩⟩ s' hc
    cases c with
    | none=>exact wpAny_pure hc.2
    | some r=>exact wpAny_pure hc
  case h0=>exact⟨rfl,rfl,items.toList,items2.toList,p,q,0,rfl,hi,hj,by lia,h⟩
  case fin =>
    rintro c s' ⟨rfl,rfl,vs,ws,p',q',k,hz,hv,hw,hl,hQ⟩
    have e:pLt p' q' = decide (items.size<items2.size):=by
      cases p' with
      | nil =>
        cases q' with
        | nil=>exact (decide_eq_false (by simp only [List.length_nil] at hl;lia)).symm
        | cons m' q' => exact (decide_eq_true (by simp only [List.length_nil,List.length_cons] at hl;lia)).symm
      | cons m p' =>
        cases q' with
        | nil=>exact (decide_eq_false (by simp only [List.length_nil,List.length_cons] at hl;lia)).symm
        | cons m' q' =>
          rw [List.map_cons] at hv hw
          cases hv with
          | cons _ t _=>cases hw with | cons _ u _=>rw [List.zip_cons_cons,List.zipIdx_cons] at hz;cases hz
    rw [e] at hQ
    exact⟨rfl,hQ⟩
  case turn =>
    rintro ⟨⟨y,x⟩,i⟩ rest c s' ⟨rfl,rfl,vs,ws,p',q',k,hz,hv,hw,hl,hQ⟩
    cases p' with
    | nil=>cases hv;rw [List.zip_nil_left] at hz;cases hz
    | cons m p' =>
      cases q' with
      | nil=>cases hw;rw [List.zip_nil_right] at hz;cases hz
      | cons m' q' =>
        rw [List.map_cons] at hv hw
        cases hv with
        | cons _ t hv' =>
          cases hw with
          | cons _ u hw' =>
            rw [List.zip_cons_cons,List.zipIdx_cons] at hz
            injection hz with h1 h2
            injection h1 with h1 h3
            injection h1 with h4 h5
            subst h4 h5 h3
            rw [q4c] at hQ
            simp only [List.length_cons] at hl
            refine wpAny_bind (SeqAt.EqAt.str_str (mk m) t (mk m') u (A:=A) (s:=s') prog w _ _ ?_)
            by_cases e:m=m'
            · subst e
              rw [if_pos rfl] at hQ
              rw [beq_self_eq_true]
              simp only [Bool.not_true,Bool.false_eq_true,if_false]
              exact wpAny_pure ⟨rfl,rfl,_,_,_,_,_,h2,hv',hw',by lia,hQ⟩
            · rw [if_neg e] at hQ
              have e2:(mk m==mk m')=false:=beq_eq_false_iff_ne.mpr fun z=>e (mk_inj z)
              rw [e2]
              simp only [Bool.not_false,if_true]
              exact wpAny_bind (z9r (b:=b&&i==0) (wpAny_pure hQ))
def PairAt (h:Heap) (v:Value) (p:Pth) (m:Value):Prop:=∃ a k,v = .ref a∧IsTup h a #[k,m]∧PathAt h k p
theorem PairAt.keep {h h' : Heap} {v m:Value} {p:Pth} (x:PairAt h v p m) (k:∀ b o,h.get? b=some o→h'.get? b=some o):PairAt h' v p m:=let ⟨a,z,e,t,s⟩:=x;⟨a,z,e,IsTup.keep t fun o=>k a o,s.keep k⟩
theorem z4p {m m' : Value} {Q:Bool→Shared→Prop} (hx:PairAt s.heap x p m) (hy:PairAt s.heap y q m') (hxy:p=q→x=y) (lp:Low p) (lq:Low q) (hu:A.units+2<cLine) (h:Q (pLt p q) s):wpAny (model prog w) A (keyLt' (tuples' false) x y) Q E s:=by
  obtain⟨l,k,rfl,hl,hk⟩:=hx
  obtain⟨l2,k2,rfl,hl2,hk2⟩:=hy
  obtain⟨o,ho,hc,n,hd⟩:=id hl
  obtain⟨o2,ho2,hc2,n2,hd2⟩:=id hl2
  refine wpAny_bind (m:=Builtin.List.listItems (.ref l)) (listItems_at ho hd (wpAny_bind (m:=Builtin.List.listItems (.ref l2)) (listItems_at ho2 hd2 ?_)))
  show wpAny (model prog w) A (forIn [((k,k2),0),((m,m'),1)] ((none,()):Option Bool×Unit) _ >>= _) Q E s
  rw [List.forIn_cons]
  refine wpAny_bind (wpAny_bind (wpAny_bind (z7e hk hk2 lp lq hu prog w _ _ ?_)))
  by_cases e:p=q
  · have e1:=hxy e
    cases e1
    have e2:=IsTup.inj hl hl2
    have e3:k=k2∧m=m' := by
      have:=congrArg Array.toList e2
      simpa using this
    obtain⟨rfl,rfl⟩:=e3
    subst e
    rw [decide_eq_true rfl]
    simp only [Bool.not_true,Bool.false_eq_true,if_false]
    refine wpAny_pure ?_
    dsimp only
    rw [List.forIn_cons]
    refine wpAny_bind (wpAny_bind (SeqAt.EqAt.same m (A:=A) (s:=s) prog w _ _ ?_))
    simp only [Bool.not_true,Bool.false_eq_true,if_false]
    refine wpAny_pure ?_
    dsimp only
    rw [List.forIn_nil]
    refine wpAny_pure (wpAny_pure ?_)
    rw [q4p] at h
    simpa using h
  · rw [decide_eq_false e]
    simp only [Bool.not_false,if_true,Bool.false_and]
    refine wpAny_bind (z7g hk hk2 (by lia) (wpAny_pure ?_))
    exact wpAny_pure (wpAny_pure h)
theorem z0e {α β:Type} {f:α→Sem β} {g:α→β}:∀ (l:List α) {Q:List β→Shared→Prop},(∀ a∈l,∀ (Q' : β→Shared→Prop),Q' (g a) s→wpAny (model prog w) A (f a) Q' E s)→Q (l.map g) s→wpAny (model prog w) A (l.mapM f) Q E s
  | [],Q,_,h=>by rw [List.mapM_nil];exact wpAny_pure h
  | a::l,Q,hf,h=>by
    rw [List.mapM_cons]
    refine wpAny_bind (hf a List.mem_cons_self _ (wpAny_bind (z0e l (fun b hb=>hf b (List.mem_cons_of_mem _ hb)) (wpAny_pure h))))
theorem z7h {a:Addr} {its:Array Value} {Q:Option Value→Shared→Prop} (t:IsTup s.heap a its) (h:Q its[0]? s):wpAny (model prog w) A (firstOfTuple' (.ref a)) Q E s:=by
  obtain⟨o,ho,hc,n,hd⟩:=t
  refine wpAny_bind (m:=typeOf (.ref a)) (wpAny_typeOf (T := "tuple") ⟨o,ho,hc⟩ ?_)
  have e:(Value.type "tuple" != Value.type "tuple")=false:=by decide
  rw [e]
  simp only [Bool.false_eq_true,if_false]
  exact wpAny_bind (m:=Builtin.List.listItems (.ref a)) (listItems_at ho hd (wpAny_pure h))
theorem z4q {T:String} {vs:List Value} {fs:Value→Value} {Q:SortKind→Shared→Prop} (hne:vs ≠ []) (hf:∀ v∈vs,∃ a its,v = .ref a∧IsTup s.heap a its∧its[0]? = some (fs v)) (hT:∀ v∈vs,s.TypeIs (fs v) T)
    (h:Q (tuples' (Value.type T != Value.type "tuple")) s):wpAny (model prog w) A (keyKind' vs.toArray) Q E s:=by
  rw [keyKind'_eq,List.mapM_toArray]
  refine wpAny_bind (wpAny_bind (z0e (g:=fun v=>some (fs v)) vs (fun v hv Q' h' => ?_) (wpAny_pure ?_)))
  · obtain⟨a,its,rfl,t,e⟩:=hf v hv
    exact z7h t (by rw [e];exact h')
  · have hall:((vs.map fun v=>some (fs v)).toArray.all fun x=>x.isSome)=true:=by simp
    rw [if_pos (by simpa using hall)]
    refine wpAny_bind (wpAny_rule ?_)
    rw [oneTypeOnly'_eq]
    have e:Array.filterMap id (vs.map fun v=>some (fs v)).toArray=(vs.map fs).toArray:=by
      simp [List.filterMap_map]
    rw [e,List.mapM_toArray]
    refine wpAny_bind (wpAny_bind (wpAny_bind (z0e (g:=fun _=>Value.type T) (vs.map fs) (fun x hx Q' h' => ?_) (wpAny_pure ?_))))
    · obtain⟨v,hv,rfl⟩:=List.mem_map.mp hx
      exact wpAny_typeOf (hT v hv) h'
    · cases vs with
      | nil=>exact absurd rfl hne
      | cons v vs =>
        have e0:(((v::vs).map fs).map fun _=>Value.type T).toArray[0]? = some (Value.type T):=by simp
        have ea:((((v::vs).map fs).map fun _=>Value.type T).toArray.all fun x=>x==Value.type T)=true:=by simp
        rw [e0]
        dsimp only
        rw [ea]
        simp only [if_true]
        exact wpAny_pure (wpAny_pure (by simpa using h))
end
end SB
namespace SB
open PySem PyProof.Rows TX
section
variable {prog:Program} {w:World} {A:Around} {E:Value→Shared→Prop} {s:Shared} {kd:SortKind} {S:Value→Prop} {r:Value→Int} {vs:List Value}
def KeptBut (a:Addr) (h h' : Heap):Prop:=∀ b o,b≠a→h.get? b=some o→h'.get? b=some o
structure Sorted (r:Value→Int) (vs:List Value) (out:Array Value):Prop where
  perm:out.toList.Perm vs
  rise:out.toList.Pairwise fun x y=>r x≤r y
theorem z7i {xs:Array Keyed} (hp:xs.Perm (pairsOf vs)):(∀ p∈xs.toList,p.1=p.2)∧(xs.map (·.2)).toList.Perm vs:=by
  have hl:xs.toList.Perm (vs.zip vs):=by rw [← pairsOf_toList];exact Array.perm_iff_toList_perm.mp hp
  refine⟨fun p hp' => (mem_zip_self (hl.mem_iff.mp hp')).1,?_⟩
  rw [Array.toList_map]
  have:=hl.map (·.2)
  rwa [List.map_snd_zip (Nat.le_refl _)] at this
theorem q9e {st:SortSt} (hp:(arrOf st).Perm (pairsOf vs)) (u:Up r (arrOf st) (pairsOf vs).size):Sorted r vs ((arrOf st).map (·.2)):=by
  obtain⟨h1,h2⟩:=z7i hp
  refine⟨h2,?_⟩
  rw [List.pairwise_iff_getElem]
  intro i j hi hj hij
  have hi' : i<(arrOf st).size:=by simpa using hi
  have hj' : j<(arrOf st).size:=by simpa using hj
  have e:=u i j (Nat.le_of_lt hij) (by rw [← hp.size_eq];exact hj')
  have k:∀ {n:Nat} (hn:n<(arrOf st).size),rk r (arrOf st) n=r (arrOf st)[n].2:=fun {n} hn=>by
    unfold rk
    rw [getElem?_pos (arrOf st) n hn]
    show r (arrOf st)[n].1=_
    rw [h1 (arrOf st)[n] (by simp)]
  rw [k hi',k hj'] at e
  simpa using e
theorem z4r {a:Addr} {n:Nat} {P:PySem.Fin→Shared→Prop} (ho:s.heap.get? a=some (seqObj "list" vs.toArray n)) (h64:vs.length<64) (hS:∀ v∈vs,S v)
    (hk:2≤vs.length→∀ s' (E:Value→Shared→Prop) (Q:SortKind→Shared→Prop),KeptBut a s.heap s'.heap→Q kd s' → wpAny (model prog w) A (keyKind' vs.toArray) Q E s')
    (T:∀ s',KeptBut a s.heap s'.heap→Tells prog w A s' kd S r) (h:∀ out,Sorted r vs out→P (.done (.ret .none)) { s with heap:=sortedHeap s.heap a vs out }) :
    wpAny (model prog w) A (Builtin.«list.sort» ⟨[.ref a],[]⟩) P E s:=by
  have la:=Heap.lt_size ho
  have hz:vs.toArray.size=vs.length:=by simp
  have hz2:(pairsOf vs).size=vs.length:=pairsOf_size vs
  have hz3:vs.length≤sizeLine:=by rw [sizeLine_eq];lia
  rw [list_sort_plain]
  refine wpAny_bind (listItems_at ho rfl (wpAny_bind (listUpdate_at ho rfl ?_)))
  have o1:=get?_update_seq ho (fun _ => #[])
  refine wpAny_bind (seqEpoch_at o1 rfl (wpAny_bind (wpAny_newTuple (wpAny_bind (wpAny_newList (wpAny_holding ?_))))))
  generalize hg:(((s.heap.update a (Obj.mapSeq fun _ => #[])).push (seqObj "tuple" vs.toArray 0)).push (seqObj "list" #[] 0))=g
  have kg:KeptBut a s.heap g:=fun b o hb e=>by
    rw [← hg];exact Heap.get?_push_of_some _ (Heap.get?_push_of_some _ ((Heap.get?_update_other _ _ (Ne.symm hb)).trans e))
  have og:=Heap.get?_push_of_some (seqObj "list" #[] 0) (Heap.get?_push_of_some (seqObj "tuple" vs.toArray 0) o1)
  rw [hg] at og
  have fin:∀ out,Sorted r vs out→P (.done (.ret .none)) { s with heap:=g.update a (Obj.mapSeq fun _=>out) }:=fun out so=>by
    have:=h out so
    unfold sortedHeap at this
    rwa [hg] at this
  show wpAny (model prog w) A _ P E { s with heap:=g }
  clear h
  by_cases h2:vs.length<2
  · have h2' : vs.toArray.size<2:=by lia
    simp only [if_pos h2']
    refine wpAny_bind (wpAny_pure ?_)
    rw [StateT.run_pure]
    refine wpAny_bind (wpAny_pure (wpAny_bind (seqEpoch_at og rfl (wpAny_bind (listUpdate_at og rfl ?_ (hsz2:=by show ((pairsOf vs).map _).size≤_;rw [Array.size_map];lia))))))
    simp only [bne_self_eq_false,Bool.false_eq_true,if_false]
    exact wpAny_pure (fin _ (q9e (st:=SortSt.mk' general' (pairsOf vs) #[] 7 none) (Array.Perm.refl _) fun i j a' b' => by rw [show i=j by lia];exact Int.le_refl _))
  · have h2' : ¬ vs.toArray.size<2:=by lia
    simp only [if_neg h2']
    refine wpAny_bind (hk (by lia) _ _ _ kg ?_)
    refine wpAny_bind (wpAny_mono (z9p (kd:=kd) (S:=S) (r:=r) (a₀:=pairsOf vs) (st:=SortSt.mk' kd (pairsOf vs) #[] 7 none) (Q:=fun _ t=>(arrOf t).Perm (pairsOf vs)∧failedOf t=none∧Up r (arrOf t) (pairsOf vs).size) (T _ kg) (fun p hp=>hS _ ?_)
      ⟨Array.Perm.refl _,rfl,rfl,rfl⟩ (by lia) (by lia) fun t a1 a2 a3=>⟨a1,a2,a3⟩) ?_ fun _ _ e=>e)
    · rw [pairsOf_toList] at hp
      exact (mem_zip_self hp).2
    · rintro ⟨⟨⟩,t⟩ s' ⟨rfl,pm,fl,up⟩
      refine wpAny_bind (seqEpoch_at og rfl (wpAny_bind (listUpdate_at og rfl ?_ (hsz2:=by show ((arrOf t).map _).size≤_;rw [Array.size_map,pm.size_eq];lia))))
      rw [fl]
      simp only [bne_self_eq_false,Bool.false_eq_true,if_false]
      exact wpAny_pure (fin _ (q9e pm up))
end
section
variable {prog:Program} {w:World} {A:Around} {E:Value→Shared→Prop} {s:Shared}
structure Ready (prog:Program) (w:World) (A:Around) (vs:List Value) (h:Heap) (kd:SortKind) (S:Value→Prop) (r:Value→Int):Prop where
  few:vs.length<64
  all:∀ v∈vs,S v
  kind:2≤vs.length→∀ A' s' (E:Value→Shared→Prop) (Q:SortKind→Shared→Prop),A'.units≤A.units+9→(∀ b o,h.get? b=some o→s'.heap.get? b=some o)→Q kd s' → wpAny (model prog w) A' (keyKind' vs.toArray) Q E s'
  tells:∀ A' s',A'.units≤A.units+9→(∀ b o,h.get? b=some o→s'.heap.get? b=some o)→Tells prog w A' s' kd S r
theorem sorted_ok {x:Value} {Q:Value→Shared→Prop}
    (hc:∀ {Q' : List Value→Shared→Prop},(∀ vs h tk kd S r,Ready prog w A vs h kd S r →
        (∀ h' out,Sorted r vs out→(∀ b o,h.get? b=some o→h'.get? b=some o)→(∃ e,h'.get? h.objs.size=some (seqObj "list" out e))→Q (.ref h.objs.size) { s with heap:=h',toks:=tk })→Q' vs { s with heap:=h,toks:=tk }) →
      wpAny (model prog w) A.in1 (collect x) Q' E s):wpAny (model prog w) A (call (.builtin "sorted") [x]) Q E s:=by
  refine Calls.call_function_entry kind_sorted plain_sorted entry_sorted (args_sorted1 _) ?_
  refine wpAny_bind (m:=checkCount "sorted" 1 1 _) (wpAny_pure (wpAny_bind (hc fun vs h tk kd S r rd hQ => ?_)))
  have hz3:vs.length≤sizeLine:=by have:=rd.few;rw [sizeLine_eq];lia
  refine wpAny_bind (wpAny_newList ?_ (hsz:=hz3))
  have ho:(h.push (seqObj "list" vs.toArray 0)).get? h.objs.size=some (seqObj "list" vs.toArray 0):=Heap.get?_push_size _ rfl
  have kb:∀ {g:Heap},KeptBut h.objs.size (h.push (seqObj "list" vs.toArray 0)) g→∀ b o,h.get? b=some o→g.get? b=some o:=fun kg b o e=>kg b o (Nat.ne_of_lt (Heap.lt_size e)) (Heap.get?_push_of_some _ e)
  show wpAny (model prog w) A.in1 _ _ _ { s with heap:=h.push (seqObj "list" vs.toArray 0),toks:=tk }
  refine wpAny_bind (wpAny_holding (wpAny_call_entry slot_list_sort ⟨_,ho,rfl⟩ entry_list_sort (z4r (S:=S) (r:=r) ho rd.few rd.all (fun h2 s' E Q kg q=>rd.kind h2 _ s' E Q (by show A.units+1+1≤_;lia) (kb kg) q) (fun s' kg=>rd.tells _ s' (by show A.units+1+1≤_;lia) (kb kg)) fun out so=>⟨_,rfl,?_⟩) (args_list_sort _)))
  refine wpAny_pure ⟨_,rfl,hQ _ out so (fun b o e => ?_) (sortedHeap_at ho)⟩
  have:=sortedHeap_old (vs:=vs) (out:=out) (b:=b) (a:=h.objs.size) (h:=h.push (seqObj "list" vs.toArray 0)) (Nat.ne_of_lt (Heap.lt_size e)) (by rw [size_push'];exact Nat.lt_succ_of_lt (Heap.lt_size e))
  rw [this];exact Heap.get?_push_of_some _ e
theorem perm_map_inv {α β:Type} {g:α→β}:∀ {l m:List β},l.Perm m→∀ {zs:List α},m=zs.map g→∃ zs' : List α,zs'.Perm zs∧l=zs'.map g:=by
  intro l m h
  induction h with
  | nil=>intro zs e;cases zs with
    | nil=>exact⟨[],.nil,rfl⟩
    | cons z zs=>cases e
  | cons x h ih=>intro zs e;cases zs with
    | nil=>cases e
    | cons z zs =>
      rw [List.map_cons] at e
      injection e with e1 e2
      obtain⟨zs',h1,h2⟩:=ih e2
      exact⟨z::zs',h1.cons z,by rw [List.map_cons,← h2,e1]⟩
  | swap x y l=>intro zs e;cases zs with
    | nil=>cases e
    | cons z zs=>cases zs with
      | nil=>cases e
      | cons z2 zs =>
        rw [List.map_cons,List.map_cons] at e
        injection e with e1 e2
        injection e2 with e2 e3
        exact⟨z2::z::zs,List.Perm.swap _ _ _,by rw [List.map_cons,List.map_cons,← e1,← e2,← e3]⟩
  | trans h1 h2 ih1 ih2 => intro zs e
                           obtain⟨zs',p1,e1⟩:=ih2 e
                           obtain⟨zs2,p2,e2⟩:=ih1 e1
                           exact⟨zs2,p2.trans p1,e2⟩
open Classical in
noncomputable def keyBy (K:Value→Pth→Prop) (v:Value):Pth:=if h:∃ p,K v p then choose h else []
theorem q3f {K:Value→Pth→Prop} (hK:∀ v p q,K v p→K v q→p=q) {v:Value} {p:Pth} (h:K v p):keyBy K v=p:=by
  unfold keyBy
  have hx:∃ p,K v p:=⟨p,h⟩
  rw [dif_pos hx]
  exact hK v _ _ (Classical.choose_spec hx) h
theorem rise_paths {K:Value→Pth→Prop} (hK:∀ v p q,K v p→K v q→p=q) {ps:List Pth} {α:Type} {g:α→Value} {f:α→Pth}:∀ {zs:List α},(∀ z∈zs,K (g z) (f z)∧f z∈ps)→(zs.map g).Pairwise (fun x y=>(pRank ps (keyBy K x):Int)≤(pRank ps (keyBy K y):Int))→(zs.map f).Pairwise fun a b=>pLt b a=false
  | [],_,_ => .nil
  | z::zs,hz,h=>by
    rw [List.map_cons] at h ⊢
    obtain⟨h1,h2⟩:=List.pairwise_cons.mp h
    refine List.pairwise_cons.mpr ⟨fun b hb => ?_,rise_paths hK (fun y hy=>hz y (List.mem_cons_of_mem _ hy)) h2⟩
    obtain⟨y,hy,rfl⟩:=List.mem_map.mp hb
    obtain⟨k1,m1⟩:=hz z List.mem_cons_self
    obtain⟨k2,m2⟩:=hz y (List.mem_cons_of_mem _ hy)
    have:=h1 (g y) (List.mem_map.mpr ⟨y,hy,rfl⟩)
    rw [q3f hK k1,q3f hK k2] at this
    rw [z0d m2 m1]
    exact decide_eq_false (by lia)
theorem ready_paths {vs:List Value} {h:Heap} {ps:List Pth} (few:vs.length<64) (hp:∀ v∈vs,∃ p∈ps,p ≠ []∧PathAt h v p) :
    Ready prog w A vs h (tuples' true) (fun v=>∃ p∈ps,PathAt h v p) (fun v=>(pRank ps (keyBy (PathAt h) v):Int)) where
  few:=few
  all:=fun v hv=>let ⟨p,a,_,b⟩:=hp v hv;⟨p,a,b⟩
  kind:=fun h2 A' s' E Q _ k q=>by
    have hne:vs ≠ []:=fun z=>by rw [z] at h2;simp at h2
    have ex:∀ v∈vs,∃ a its n p t,v = .ref a∧IsTup s'.heap a its∧its[0]? = some (.str (mk n) t):=fun v hv=>by
      obtain⟨p,_,hne,x⟩:=hp v hv
      obtain⟨a,its,rfl,tt,st⟩:=x.keep k
      cases p with
      | nil=>exact absurd rfl hne
      | cons n p =>
        rw [List.map_cons] at st
        obtain⟨l⟩:=its
        cases st with
        | cons _ t st' => exact⟨a,_,n,p,t,rfl,tt,rfl⟩
    refine z4q (T := "str") (fs:=fun v=>(match v with | .ref a=>(match s'.heap.get? a with | some o=>(match o.data with | .seq its _=>its.getD 0 .none | _ => .none) | none => .none) | _ => .none)) hne (fun v hv => ?_) (fun v hv => ?_) (by rw [show (Value.type "str" != Value.type "tuple")=true from by decide];exact q)
    · obtain⟨a,its,n,p,t,rfl,tt,e⟩:=ex v hv
      refine⟨a,its,rfl,tt,?_⟩
      obtain⟨o,e1,e2,m,e3⟩:=tt
      simp only [e1,e3]
      rw [e,Array.getD_eq_getD_getElem?,e];rfl
    · obtain⟨a,its,n,p,t,rfl,tt,e⟩:=ex v hv
      obtain⟨o,e1,e2,m,e3⟩:=tt
      simp only [e1,e3]
      rw [Array.getD_eq_getD_getElem?,e]
      exact typeIs_str _ _ _
  tells:=fun A' s' _ k E x y Q ⟨p,hp1,x1⟩ ⟨q,hq1,y1⟩ h' => by
    refine z4o (x1.keep k) (y1.keep k) ?_
    have hK:∀ v p q,PathAt h v p→PathAt h v q→p=q:=fun _ _ _ a b=>a.inj b
    have e1:=q3f hK x1
    have e2:=q3f hK y1
    rw [z0d hp1 hq1,← e1,← e2];exact h'
theorem PairAt.inj {h:Heap} {v m m' : Value} {p q:Pth} (h1:PairAt h v p m) (h2:PairAt h v q m'):p=q:=by
  obtain⟨a,k,rfl,t,s⟩:=h1
  obtain⟨a',k',e,t',s'⟩:=h2
  cases e
  have e:=congrArg Array.toList (IsTup.inj t t')
  have e2 : k = k' := by have e3 : k = k' ∧ m = m' := by simpa using e
                         exact e3.1
  subst e2
  exact s.inj s'
theorem ready_pairs {vs:List Value} {h:Heap} {ps:List Pth} (few:vs.length<64) (hp:∀ v∈vs,∃ p∈ps,∃ m,Low p∧PairAt h v p m) (hi:∀ u∈vs,∀ v∈vs,∀ p m m',PairAt h u p m→PairAt h v p m' → u=v) (hu:A.units+12<cLine) :
    Ready prog w A vs h (tuples' false) (fun v=>v∈vs) (fun v=>(pRank ps (keyBy (fun v p=>∃ m,PairAt h v p m) v):Int)) where
  few:=few
  all:=fun v hv=>hv
  kind:=fun h2 A' s' E Q _ k q=>by
    have hne:vs ≠ []:=fun z=>by rw [z] at h2;simp at h2
    have ex:∀ v∈vs,∃ a b its m,v = .ref a∧IsTup s'.heap a #[.ref b,m]∧IsTup s'.heap b its:=fun v hv=>by
      obtain⟨p,_,m,_,x⟩:=hp v hv
      obtain⟨a,z,rfl,tt,b,its,rfl,t2,_⟩:=x.keep k
      exact⟨a,b,its,m,rfl,tt,t2⟩
    refine z4q (T := "tuple") (fs:=fun v=>(match v with | .ref a=>(match s'.heap.get? a with | some o=>(match o.data with | .seq its _=>its.getD 0 .none | _ => .none) | none => .none) | _ => .none)) hne (fun v hv => ?_) (fun v hv => ?_) (by rw [show (Value.type "tuple" != Value.type "tuple")=false from by decide];exact q)
    · obtain⟨a,b,its,m,rfl,tt,_⟩:=ex v hv
      refine⟨a,_,rfl,tt,?_⟩
      obtain⟨o,e1,e2,n,e3⟩:=tt
      simp only [e1,e3]
      rfl
    · obtain⟨a,b,its,m,rfl,tt,t2⟩:=ex v hv
      obtain⟨o,e1,e2,n,e3⟩:=tt
      simp only [e1,e3]
      obtain⟨o2,f1,f2,_⟩:=t2
      exact⟨o2,f1,f2⟩
  tells:=fun A' s' hA k E x y Q hx hy h' => by
    obtain⟨p,hp1,m,lp,x1⟩:=hp x hx
    obtain⟨q,hq1,m',lq,y1⟩:=hp y hy
    refine z4p (x1.keep k) (y1.keep k) (fun e=>by subst e;exact hi x hx y hy _ _ _ x1 y1) lp lq (by lia) ?_
    have hK:∀ v p q,(∃ m,PairAt h v p m)→(∃ m,PairAt h v q m)→p=q:=fun v p q ⟨_,a⟩ ⟨_,b⟩=>PairAt.inj a b
    have e1:=q3f hK ⟨m,x1⟩
    have e2:=q3f hK ⟨m',y1⟩
    rw [z0d hp1 hq1,← e1,← e2];exact h'
end
end SB
namespace PySem.Rv
open Sem (wp)
structure Runs (prog:Program) (w:World) (A:Around) (S I:Addr) (n:Nat) (Fc:List Value→Heap→Prop) (It:Nat→Heap→Prop):Prop where
  keepF:∀ acc h h',Fc acc h→(∀ b o,b≠S→b≠I→h.get? b=some o→h'.get? b=some o)→Fc acc h'
  keepI:∀ i h h',It i h→(∀ b o,b≠S→h.get? b=some o→h'.get? b=some o)→It i h'
  item:∀ acc (s:Shared) (Q:Option Value→Shared→Prop) (E:Value→Shared→Prop),acc.length<n→Fc acc s.heap→It acc.length s.heap →
    (∀ v h',Fc (acc ++ [v]) h' → It (acc.length+1) h' → (∀ b o,b≠I→s.heap.get? b=some o→h'.get? b=some o)→Q (some v) { s with heap:=h' })→wpAny (model prog w) A.in1 (pyNext (.ref I)) Q E s
  done:∀ (s:Shared) (Q:Option Value→Shared→Prop) (E:Value→Shared→Prop),It n s.heap→(∀ h',(∀ b o,b≠I→s.heap.get? b=some o→h'.get? b=some o)→Q none { s with heap:=h' })→wpAny (model prog w) A.in1 (pyNext (.ref I)) Q E s
section
variable {prog:Program} {w:World} {A:Around} {E:Value→Shared→Prop} {S I:Addr} {n:Nat} {Fc:List Value→Heap→Prop} {It:Nat→Heap→Prop}
theorem grow (W:Runs prog w A S I n Fc It) (hSI:S≠I) (hn:n≤sizeLine) (res:Value) {R:Result→Shared→Prop}:∀ (k:Nat) (acc:List Value) (s:Shared) (c:Nat),n - acc.length=k→acc.length≤n→Fc acc s.heap→It acc.length s.heap →
    s.heap.get? S=some { cls := .type "list",data := .seq acc.toArray c } →
    (∀ acc' h' c',acc'.length=n→Fc acc' h' → (∀ b o,b≠S→b≠I→s.heap.get? b=some o→h'.get? b=some o)→h'.get? S=some { cls := .type "list",data := .seq acc'.toArray c' }→R (.ok (.ret res)) { s with heap:=h' }) →
    codeAny (model prog w) A (.builtin "list.extend.loop" ⟨[.ref S,.ref I,res],[]⟩) R s:=by
  intro k
  induction k with
  | zero =>
    intro acc s c hk hl f i hS hR
    refine codeAny_builtin F.entry_extend_loop ?_;rw [Around.under_plainId F.plain_extend_loop _]
    show wpAny _ A.in1 (pyNext (.ref I) >>= _) _ _ s
    have e:acc.length=n:=by lia
    refine wpAny_bind (W.done s _ _ (by rw [← e];exact i) fun h' kp=>wpAny_pure ?_)
    exact hR acc h' c e (W.keepF _ _ _ f fun b o _ hb q=>kp b o hb q) (fun b o _ hb q=>kp b o hb q) (kp S _ hSI hS)
  | succ k ih =>
    intro acc s c hk hl f i hS hR
    refine codeAny_builtin F.entry_extend_loop ?_;rw [Around.under_plainId F.plain_extend_loop _]
    show wpAny _ A.in1 (pyNext (.ref I) >>= _) _ _ s
    refine wpAny_bind (W.item acc s _ _ (by lia) f i fun v h' f' i' kp => ?_)
    have hS' := kp S _ hSI hS
    show wpAny _ A.in1 (updateSeq S (·.push v) >>= _) _ _ _
    have oth:∀ b o,b≠S→h'.get? b=some o→(h'.update S (Obj.mapSeq (·.push v))).get? b=some o:=fun b o hb q=>(Heap.get?_update_other _ _ (Ne.symm hb)).trans q
    have hS2:(h'.update S (Obj.mapSeq (·.push v))).get? S=some { cls := .type "list",data := .seq (acc ++ [v]).toArray (c+1) }:=by
      have:=PyProof.Rows.get?_update_seq (c := "list") hS' (fun x=>x.push v)
      rw [this]
      simp
    refine wpAny_bind (wpAny_updateSeq hS' rfl (wpAny_pure ⟨plainId_quiet F.plain_extend_loop _,ih (acc ++ [v]) _ (c+1) (by rw [List.length_append,List.length_singleton];lia) (by rw [List.length_append,List.length_singleton];lia)
      (W.keepF _ _ _ f' fun b o hb _ q=>oth b o hb q) (by rw [List.length_append,List.length_singleton];exact W.keepI _ _ _ i' oth) hS2 fun acc' h2 c' e2 f2 k2 s2=>hR acc' h2 c' e2 f2 (fun b o hb hb' q=>k2 b o hb hb' (oth b o hb (kp b o hb' q))) s2⟩) (by rw [List.size_toArray];lia) (by simp;lia))
theorem collect_runs {s:Shared} {v:Addr} {T:String} {oI:Obj} {Q:List Value→Shared→Prop} (hT:∀ h,(∀ b o,s.heap.get? b=some o→h.get? b=some o)→(⟨h,s.gens,s.drawn,s.toks,s.os⟩:Shared).TypeIs (.ref v) T) (hv:v<s.heap.objs.size)
    (h1:(Value.type T==Value.type "list")=false) (h2:(Value.type T==Value.type "tuple")=false)
    (hint:∀ (A:Around) (E:Value→Shared→Prop) (s' : Shared) (Q:Bool→Shared→Prop),s'.TypeIs (.ref v) T→Q false s' → wpAny (model prog w) A (Builtin.List.listLengthHint (.ref v)) Q E s')
    (iter:∀ (A:Around) (E:Value→Shared→Prop) (h:Heap) (Q:Value→Shared→Prop),(∀ b o,s.heap.get? b=some o→h.get? b=some o)→Q (.ref h.objs.size) { s with heap:=h.push oI }→wpAny (model prog w) A (pyIter (.ref v)) Q E { s with heap:=h })
    (hoI:∀ h:Heap,(h.push oI).get? h.objs.size=some oI) (W:Runs prog w A s.heap.objs.size (s.heap.objs.size+1) n Fc It) (hn:n≤sizeLine)
    (h0:∀ h,(∀ b o,s.heap.get? b=some o→h.get? b=some o)→h.get? (s.heap.objs.size+1)=some oI→Fc [] h∧It 0 h)
    (hQ:∀ acc h,acc.length=n→Fc acc h→s.heap.objs.size≤h.objs.size→(∀ b o,s.heap.get? b=some o→h.get? b=some o)→Q acc { s with heap:=h }):wpAny (model prog w) A (collect (.ref v)) Q E s:=by
  unfold collect
  refine wpAny_bind (wpAny_runValue (codeAny_builtin F.entry_proto_collect ?_));rw [Around.under_plainId F.plain_proto_collect _]
  show wpAny _ A.in1 (newList [] >>= fun l=>again (.builtin "list.__iadd__" ⟨[l,.ref v],[]⟩)) _ _ s
  refine wpAny_bind (wpAny_newObj_type (wpAny_pure ⟨plainId_quiet F.plain_list_iadd _,codeAny_builtin F.entry_list_iadd ?_⟩));rw [Around.under_plainId F.plain_list_iadd _]
  show wpAny _ A.in1 (Builtin.List.listExtendWith (.ref s.heap.objs.size) (.ref v) (.ref s.heap.objs.size)) _ _ { s with heap:=s.heap.push { cls := .type "list",data := .seq ([]:List Value).toArray } }
  generalize hg:s.heap.push { cls := .type "list",data := .seq ([]:List Value).toArray }=g
  have kg:∀ b o,s.heap.get? b=some o→g.get? b=some o:=fun b o q=>by rw [← hg];exact Heap.get?_push_of_some _ q
  have gz:g.objs.size=s.heap.objs.size+1:=by rw [← hg];exact Heap.size_push _ _
  have gS:g.get? s.heap.objs.size=some { cls := .type "list",data := .seq ([]:List Value).toArray }:=by rw [← hg];exact Heap.get?_push_size _ rfl
  unfold Builtin.List.listExtendWith
  refine wpAny_bind (wpAny_typeOf (T:=T) (hT g kg) ?_)
  have hs:Builtin.List.listSameRef (.ref s.heap.objs.size) (.ref v)=false:=by simp [Builtin.List.listSameRef,Nat.ne_of_gt hv]
  simp only [hs,h1,h2,Bool.or_false,Bool.false_eq_true,if_false]
  refine wpAny_bind (iter _ _ g _ kg ?_)
  rw [gz]
  have kI:∀ b o,g.get? b=some o→(g.push oI).get? b=some o:=fun b o q=>Heap.get?_push_of_some _ q
  have hS₁:=kI _ _ gS
  have put:∀ (h:Heap) (c:Nat),(∀ b o,b≠s.heap.objs.size→(g.push oI).get? b=some o→h.get? b=some o)→h.get? s.heap.objs.size=some { cls := .type "list",data := .seq ([]:List Value).toArray c }→h.get? (s.heap.objs.size+1)=some oI →
      codeAny (model prog w) A (.builtin "list.extend.loop" ⟨[.ref s.heap.objs.size,.ref (s.heap.objs.size+1),.ref s.heap.objs.size],[]⟩) (fun r s' => ∃ acc c',r = .ok (.ret (.ref s.heap.objs.size))∧s'.heap.get? s.heap.objs.size=some { cls := .type "list",data := .seq acc c' }∧Q acc.toList s') { s with heap:=h }:=by
    intro h c kh hh hi
    obtain⟨f,i⟩:=h0 h (fun b o q=>kh b o (Nat.ne_of_lt (Heap.lt_size q)) (kI b o (kg b o q))) hi
    refine grow W (Nat.ne_of_lt (Nat.lt_succ_self _)) hn _ n [] _ c (by simp) (Nat.zero_le _) f i hh fun acc h' c' e f' k' s' => ⟨acc.toArray,c',rfl,s',?_⟩
    have:=hQ acc h' e f' (Nat.le_of_lt (Heap.lt_size s')) fun b o q=>k' b o (Nat.ne_of_lt (Heap.lt_size q)) (Nat.ne_of_lt (Nat.lt_succ_of_lt (Heap.lt_size q))) (kh b o (Nat.ne_of_lt (Heap.lt_size q)) (kI b o (kg b o q)))
    simpa using this
  have gI:(g.push oI).get? (s.heap.objs.size+1)=some oI:=by rw [← gz];exact hoI g
  refine wpAny_bind (wpAny_holding (hint _ _ _ _ (hT (g.push oI) fun b o q=>kI b o (kg b o q)) ?_))
  have last:∀ (h:Heap) (c:Nat),(∀ b o,b≠s.heap.objs.size→(g.push oI).get? b=some o→h.get? b=some o)→h.get? s.heap.objs.size=some { cls := .type "list",data := .seq ([]:List Value).toArray c }→h.get? (s.heap.objs.size+1)=some oI→∀ {R:Result→Shared→Prop},
      (∀ s' acc c',s'.heap.get? s.heap.objs.size=some { cls := .type "list",data := .seq acc c' }→Q acc.toList s' → R (.ok (.ret (.ref s.heap.objs.size))) s')→codeAny (model prog w) A (.builtin "list.extend.loop" ⟨[.ref s.heap.objs.size,.ref (s.heap.objs.size+1),.ref s.heap.objs.size],[]⟩) R { s with heap:=h }:=by
    intro h c kh hh hi R hR
    refine codeAny_mono (put h c kh hh hi) fun r s' z => ?_
    obtain⟨acc,c',rfl,e,q⟩:=z
    exact hR s' acc c' e q
  refine wpAny_ite_split (fun _ => ?_) (fun _ => ?_)
  · refine wpAny_bind (wpAny_rule (wpAny_bind ?_));show wpAny _ _ (updateSeq s.heap.objs.size (·.push .none) >>= fun _=>updateSeq s.heap.objs.size (·.pop)) _ _ _
    refine wpAny_bind (wpAny_updateSeq hS₁ rfl ?_)
    have hS₂:=PyProof.Rows.get?_update_seq (c := "list") hS₁ (fun x=>x.push Value.none)
    refine wpAny_updateSeq hS₂ rfl ?_
    have hS₃:=PyProof.Rows.get?_update_seq (c := "list") hS₂ (fun x=>x.pop)
    have oth:∀ b o,b≠s.heap.objs.size→(g.push oI).get? b=some o→(((g.push oI).update s.heap.objs.size (Obj.mapSeq fun x=>x.push Value.none)).update s.heap.objs.size (Obj.mapSeq fun x=>x.pop)).get? b=some o :=
      fun b o hb q=>(Heap.get?_update_other _ _ (Ne.symm hb)).trans ((Heap.get?_update_other _ _ (Ne.symm hb)).trans q)
    refine wpAny_pure ⟨plainId_quiet F.plain_extend_loop _,last _ _ oth hS₃ (oth _ _ (Nat.ne_of_gt (Nat.lt_succ_self _)) gI) fun s' acc c' e q => ?_⟩
    show wpAny _ A (load s.heap.objs.size >>= _) _ _ s'
    exact wpAny_bind (wpAny_load e (wpAny_pure q))
  · refine wpAny_pure ⟨plainId_quiet F.plain_extend_loop _,last _ _ (fun b o _ q=>q) hS₁ gI fun s' acc c' e q => ?_⟩
    show wpAny _ A (load s.heap.objs.size >>= _) _ _ s'
    exact wpAny_bind (wpAny_load e (wpAny_pure q))
end
end PySem.Rv
namespace L2
open PySem PySem.Spec PyProof.Rows SB TX
def kP (p:Pth):List Key:=p.map fun n=>Sum.inr (mk n)
abbrev vP (p:Pth):List V:=p.map fun n=>V.str (mk n)
theorem q3a (p:Pth):(kP p).map kV=vP p:=by unfold kP;rw [List.map_map];rfl
abbrev HRow:=Pth×V
abbrev dR (rows:List HRow):HO := .dT (rows.map fun r=>(kP r.1,r.2))
theorem q9f:∀ {p:Pth} {us:List Value},Vals (vP p) us→StrsAre us (p.map mk)
  | [],_,.nil => .nil
  | n::p,us,h=>by
    cases h with
    | cons r t =>
      obtain⟨k,rfl⟩:=r
      exact .cons _ k (q9f t)
section
variable {X:Cx} {pins:List (Addr×Obj)} {σ:St} {H:Hp} {s:Shared}
theorem Inv.path (I:Inv X pins σ H s) {b:Addr} {p:Pth} (h:H b=some (.tup (vP p))):PathAt s.heap (.ref b) p:=by
  obtain⟨z,its,r,t⟩:=I.hok b _ h
  exact⟨b,its.toArray,rfl,t,by simpa using q9f r⟩
theorem Inv.rows (I:Inv X pins σ H s) {d:Addr} {rows:List HRow} (hd:H d=some (dR rows)):(d==sysModules)=false∧rows.length≤sizeLine∧∃ ob es ep,s.heap.get? d=some ob∧ob.ExactDict∧ob.data = .dict es ep∧(rows.map (·.1)).Nodup ∧
    ∃ zs:List (Addr×Value×HRow),zs.map (·.2.2)=rows∧es.toList.map (fun e=>(e.key,e.val))=zs.map (fun z=>(Value.ref z.1,z.2.1))∧∀ z∈zs,H z.1=some (.tup (vP z.2.2.1))∧RelV z.2.2.2 z.2.1:=by
  obtain⟨z,hsys,xs,hp,ob,es,ep,ho,hex,hob,h4,h5⟩:=(show ObjOk X.prog X.w H s.heap d (dR rows) from I.hok d _ hd)
  rw [List.length_map] at z
  have go:∀ (rows:List HRow) (xs:List (List Key×Addr×Value)),Paired (fun (p:List Key×V) (q:List Key×Addr×Value)=>p.1=q.1∧H q.2.1=some (.tup (p.1.map kV))∧RelV p.2 q.2.2) (rows.map fun r=>(kP r.1,r.2)) xs →
      xs.map (·.1)=rows.map (fun r=>kP r.1)∧∃ zs:List (Addr×Value×HRow),zs.map (·.2.2)=rows∧(xs.map (entryOfKey (tupleKind (mixKind X.prog X.w)))).map (fun e=>(e.key,e.val))=zs.map (fun z=>(Value.ref z.1,z.2.1))∧∀ z∈zs,H z.1=some (.tup (vP z.2.2.1))∧RelV z.2.2.2 z.2.1:=by
    intro rows
    induction rows with
    | nil=>intro xs h;cases h;exact⟨rfl,[],rfl,rfl,fun _ h=>nomatch h⟩
    | cons r rows ih =>
      intro xs h
      rw [List.map_cons] at h
      cases h with
      | cons hq t =>
        rename_i q ys
        obtain⟨e1,e2,e3⟩:=hq
        obtain⟨i0,zs,i1,i2,i3⟩:=ih ys t
        refine⟨by rw [List.map_cons,List.map_cons,i0,← e1],(q.2.1,q.2.2,r)::zs,by rw [List.map_cons,i1],by rw [List.map_cons,List.map_cons,List.map_cons,i2];rfl,fun z hz => ?_⟩
        rcases List.mem_cons.mp hz with rfl | hz
        · exact⟨by rw [← q3a];exact e2,e3⟩
        · exact i3 z hz
  obtain⟨g0,zs,g1,g2,g3⟩:=go rows xs hp
  refine⟨hsys,z,ob,es,ep,ho,hex,hob,?_,zs,g1,by rw [h4];exact g2,g3⟩
  rw [g0] at h5
  have e:rows.map (fun r=>kP r.1)=(rows.map (·.1)).map kP:=by rw [List.map_map];rfl
  rw [e] at h5
  exact (List.pairwise_map.mp h5).imp fun hne z=>hne (by rw [z])
end
abbrev PTs (H:Hp):List Addr→List Pth→Prop:=Paired fun b p=>H b=some (.tup (vP p))
def rSortD:List V→Hp→VK→Prop:=fun vs H Q=>∃ d rows,vs = [.ref d]∧H d=some (dR rows)∧rows.length<64∧(∀ r∈rows,r.1 ≠ []) ∧
  ∀ L bs ps,H L=none→ps.Perm (rows.map (·.1))→ps.Pairwise (fun a b=>pLt b a=false)→PTs H bs ps→Q (.ref L) (upd H L (.lst (bs.map V.ref)))
theorem q6f:∀ (bs:List Addr),Vals (bs.map V.ref) (bs.map Value.ref)
  | [] => .nil
  | b::bs => .cons rfl (q6f bs)
theorem z8r {H:Hp} {α:Type} {f:α→Addr} {g:α→Pth}:∀ {zs:List α},(∀ z∈zs,H (f z)=some (.tup (vP (g z))))→PTs H (zs.map f) (zs.map g)
  | [],_ => .nil
  | z::zs,h => .cons (h z List.mem_cons_self) (z8r fun y hy=>h y (List.mem_cons_of_mem _ hy))
theorem q7c {X:Cx} {k:Nat} (hr:Room k X.A):CallR X (.builtin "sorted") rSortD:=by
  intro pins s σ H xs us Q I rv h
  obtain⟨d,rows,rfl,hd,few,hne,q⟩:=h
  obtain⟨u,rfl,ru⟩:=rv.one
  cases ru
  obtain⟨hsys,hz,ob,es,ep,ho,hex,hob,nd,zs,z1,z2,z3⟩:=I.rows hd
  have hlen:es.size=rows.length:=by
    have:=congrArg List.length z2
    rw [List.length_map,List.length_map,Array.length_toList] at this
    rw [this,← z1,List.length_map]
  have hkeys:∀ {i:Nat} (hi:i<es.size),∃ z∈zs,zs[i]? = some z∧es[i].key = .ref z.1:=fun {i} hi=>by
    have e:=congrArg (fun l=>l[i]?) z2
    simp only [List.getElem?_map,Array.getElem?_toList,Array.getElem?_eq_getElem hi,Option.map_some] at e
    cases hzi:zs[i]? with
    | none=>rw [hzi] at e;cases e
    | some z =>
      rw [hzi] at e
      injection e with e
      injection e with e1 e2
      exact⟨z,List.mem_of_getElem? hzi,rfl,e1⟩
  have hdL:=Heap.lt_size ho
  refine SB.sorted_ok fun {Q'} kk => ?_
  refine PySem.Rv.collect_runs (T := "dict") (n:=es.size) (oI := { cls := .type "dict_keyiterator",data := .fields #[.ref d,.int 0 0,.int es.size 0,.int ep 0] }) (Fc:=fun acc _=>acc=(zs.take acc.length).map fun z=>Value.ref z.1)
    (It:=fun i h=>h.IsKeyIter (s.heap.objs.size+1) d i es.size ep∧h.get? d=some ob) (fun h kh=>⟨ob,kh _ _ ho,hex.1⟩) hdL (by decide) (by decide) (fun A E s' Q hT hq=>PySem.W.kdl_hint_dict hT hq)
    (fun A E h Q kh hq=>PySem.Rv.keys_iter (s := { s with heap:=h }) hsys ⟨ob,kh _ _ ho,hex.1⟩ (kh _ _ ho) hob hq) (fun h=>Heap.get?_push_size _ rfl) ⟨fun acc h h' f _=>f,fun i h h' ⟨f1,f2⟩ kp=>⟨f1.at fun o e=>kp _ _ (Nat.ne_of_gt (Nat.lt_succ_self _)) e,kp _ _ (Nat.ne_of_lt hdL) f2⟩,?_,?_⟩ (by lia)
    (fun h kh ki=>⟨rfl,⟨_,ki,rfl,rfl⟩,kh _ _ ho⟩) (fun acc h el f hz2 kh => ?_)
  · intro acc s' Q E hl f ⟨i1,i2⟩ hq
    refine PySem.Rv.keys_item i1 i2 hob hl fun h' j1 sb => ?_
    obtain⟨z,hzm,hzi,hzk⟩:=hkeys hl
    rw [hzk]
    refine hq _ h' ?_ ⟨j1,(sb.2 d (Nat.ne_of_lt (Nat.lt_succ_of_lt hdL))).trans i2⟩ fun b o hb e=>(sb.2 b hb).trans e
    rw [List.length_append,List.length_singleton,List.take_succ,hzi,List.map_append,← f];rfl
  · intro s' Q E ⟨i1,i2⟩ hq
    exact PySem.Rv.keys_end hr.hd i1 i2 hob (Nat.le_refl _) fun h' eb=>hq h' fun b o hb e=>eb b o hb e
  · have hzl:zs.length=es.size:=by rw [hlen,← z1,List.length_map]
    have ea:acc=zs.map fun z=>Value.ref z.1:=by rw [f,el,← hzl,List.take_length]
    have hpa:∀ v∈acc,∃ p∈rows.map (·.1),p ≠ []∧PathAt h v p:=fun v hv=>by
      rw [ea] at hv
      obtain⟨z,hzm,rfl⟩:=List.mem_map.mp hv
      have hm:z.2.2∈rows:=by rw [← z1];exact List.mem_map.mpr ⟨z,hzm,rfl⟩
      exact⟨z.2.2.1,List.mem_map.mpr ⟨_,hm,rfl⟩,hne _ hm,(I.path (z3 z hzm).1).keep kh⟩
    refine kk acc h s.toks _ _ _ (SB.ready_paths (by lia) hpa) fun h' out so kh' ⟨e,he⟩ => ?_
    have pm:=so.perm
    rw [ea] at pm
    obtain⟨zs',p1,p2⟩:=SB.perm_map_inv pm rfl
    have hrise:=so.rise
    rw [p2] at hrise
    have hps:=SB.rise_paths (K:=PathAt h) (fun _ _ _ a b=>a.inj b) (ps:=rows.map (·.1)) (g:=fun z:Addr×Value×HRow=>Value.ref z.1) (f:=fun z=>z.2.2.1) (zs:=zs') (fun z hz=>by
      have hzm:=p1.mem_iff.mp hz
      have hm:z.2.2∈rows:=by rw [← z1];exact List.mem_map.mpr ⟨z,hzm,rfl⟩
      exact⟨(I.path (z3 z hzm).1).keep kh,List.mem_map.mpr ⟨_,hm,rfl⟩⟩) hrise
    have keep:∀ b o,s.heap.get? b=some o→h'.get? b=some o:=fun b o z=>kh' b o (kh b o z)
    have hfr:H h.objs.size=none:=I.hok.fresh hz2
    have eo:out.toList=(zs'.map (·.1)).map Value.ref:=by rw [p2,List.map_map];rfl
    have el2:(zs'.map (·.1)).length=es.size:=by rw [List.length_map,p1.length_eq,hzl]
    refine⟨.ref h.objs.size,upd H h.objs.size (.lst ((zs'.map (·.1)).map V.ref)),I.laid (t' := s.toks) keep hz2 ⟨by rw [List.length_map,el2];lia,_,e,q6f _,?_⟩,rfl,?_⟩
    · rw [he,← eo]
    · refine q _ (zs'.map (·.1)) (zs'.map fun z=>z.2.2.1) hfr ?_ hps (z8r fun z hz=>(z3 z (p1.mem_iff.mp hz)).1)
      have:=p1.map fun z:Addr×Value×HRow=>z.2.2.1
      have e3:zs.map (fun z=>z.2.2.1)=rows.map (·.1):=by rw [← z1,List.map_map];rfl
      rwa [e3] at this
def vwO (v d:Addr):HO := .ext fun h=>h.IsItemsView v d
def rItems:V→List V→Hp→VK→Prop:=fun x vs H Q=>∃ d rows,x = .ref d∧vs = []∧H d=some (dR rows)∧∀ v,H v=none→Q (.ref v) (upd H v (vwO v d))
theorem z7j {X:Cx}:MtR X "dict.items" rItems:=by
  intro pins s σ H x vs v us Q I rx rv h
  obtain⟨d,rows,rfl,rfl,hd,q⟩:=h
  cases rx
  have hus:=rv.zero
  subst hus
  obtain⟨hsys,hz,ob,es,ep,ho,hex,hob,_⟩:=I.rows hd
  refine wpAny_call_entry F.slot_dict_items ⟨ob,ho,hex.1⟩ F.entry_dict_items ?_ (F.args_dict_items_1 _)
  unfold Builtin.«dict.items»
  refine wpAny_bind ?_;unfold Builtin.Dict.noArgs
  refine wpAny_bind (wpAny_notOrdered_dict ⟨ob,ho,hex.1⟩ ?_);show wpAny _ _ (pure d) _ _ s
  refine wpAny_pure ?_
  show wpAny _ _ (Builtin.Dict.showsAll d >>= _) _ _ s
  unfold Builtin.Dict.showsAll
  rw [if_neg (by rw [hsys];exact Bool.false_ne_true)]
  refine wpAny_bind (wpAny_pure (wpAny_bind (wpAny_newObj_type (wpAny_pure ⟨_,rfl,.ref s.heap.objs.size,_,I.laid (t' := s.toks) (o:=vwO s.heap.objs.size d) (fun b u e=>Heap.get?_push_of_some _ e) (Nat.le_refl _) ?_,rfl,q _ I.fresh⟩))))
  exact⟨⟨_,Heap.get?_push_size _ rfl,rfl,rfl⟩,⟨_,Heap.get?_push_size _ rfl⟩,fun h1 h2 ⟨o,e,c,dd⟩ k=>⟨o,k o e,c,dd⟩⟩
def PR (H:Hp) (a:Addr) (r:HRow):Prop:=∃ b,H a=some (.tup [.ref b,r.2])∧H b=some (.tup (vP r.1))
abbrev PRs (H:Hp):List Addr→List HRow→Prop:=Paired (PR H)
def rSortV:List V→Hp→VK→Prop:=fun vs H Q=>∃ v d rows,vs = [.ref v]∧H v=some (vwO v d)∧H d=some (dR rows)∧rows.length<64∧(∀ r∈rows,Low r.1) ∧
  ∀ L as rs H',H L=none→rs.Perm rows→(rs.map (·.1)).Pairwise (fun a b=>pLt b a=false)→Same H H' → H' L=some (.lst (as.map V.ref))→PRs H' as rs→Q (.ref L) H'
theorem Inv.tracks {X:Cx} {pins:List (Addr×Obj)} {σ:St} {s:Shared} {n:Nat}:∀ {zs:List (Addr×List V)} {H:Hp},Inv X pins σ H s→X.s₀.heap.objs.size≤n→(zs.map (·.1)).Nodup →
    (∀ z∈zs,n≤z.1∧FpOk X pins H z.1∧z.2.length≤sizeLine∧∃ its,Vals z.2 its∧IsTup s.heap z.1 its.toArray)→∃ H',Inv X pins σ H' s∧Same H H' ∧ (∀ z∈zs,H' z.1=some (.tup z.2))∧∀ b,(∀ z∈zs,z.1≠b)→H' b=H b:=by
  intro zs
  induction zs with
  | nil=>intro H I _ _ _;exact⟨H,I,Same.refl H,(fun _ h=>nomatch h),fun _ _=>rfl⟩
  | cons z zs ih =>
    intro H I hn nd hz
    obtain⟨h1,h2,h3,its,h4,h5⟩:=hz z List.mem_cons_self
    rw [List.map_cons,List.nodup_cons] at nd
    have I2:=I.track (o := .tup z.2) (Nat.le_trans hn h1) h2 ⟨h3,its,h4,h5⟩
    obtain⟨H',J,sm,ht,ho⟩:=ih I2 hn nd.2 (fun y hy=>by
      obtain⟨g1,g2,g3,g4⟩:=hz y (List.mem_cons_of_mem _ hy)
      exact⟨g1,⟨by rw [q0c (fun e=>nd.1 (by rw [← e];exact List.mem_map.mpr ⟨y,hy,rfl⟩))];exact g2.1,g2.2⟩,g3,g4⟩)
    refine⟨H',J,((Same.refl H).new h2.1).trans sm,fun y hy => ?_,fun b hb' => ?_⟩
    · rcases List.mem_cons.mp hy with rfl | hy
      · exact sm _ _ q0b
      · exact ht y hy
    · rw [ho b fun y hy=>hb' y (List.mem_cons_of_mem _ hy),q0c (Ne.symm (hb' z List.mem_cons_self))]
theorem q3g {α β:Type} {f:α→β}:∀ {l:List α},(l.map f).Nodup→∀ {x y:α},x∈l→y∈l→f x=f y→x=y
  | [],_,_,_,h,_,_=>nomatch h
  | a::l,nd,x,y,hx,hy,e=>by
    rw [List.map_cons,List.nodup_cons] at nd
    rcases List.mem_cons.mp hx with ex | hx1
    · rcases List.mem_cons.mp hy with ey | hy1
      · rw [ex,ey]
      · exact absurd (by rw [← ex,e];exact List.mem_map.mpr ⟨y,hy1,rfl⟩) nd.1
    · rcases List.mem_cons.mp hy with ey | hy1
      · exact absurd (by rw [← ey,← e];exact List.mem_map.mpr ⟨x,hx1,rfl⟩) nd.1
      · exact q3g nd.2 hx1 hy1 e
abbrev Zt:=Addr×Value×HRow
structure Made (h:Heap) (lo:Nat) (ws:List (Addr×Zt)):Prop where
  rise:(ws.map (·.1)).Pairwise fun a b:Nat=>a<b
  low:∀ x∈ws,lo≤(show Nat from x.1)
  at_:∀ x∈ws,IsTup h x.1 #[.ref x.2.1,x.2.2.1]
theorem Made.keep {h h' : Heap} {lo:Nat} {ws:List (Addr×Zt)} (m:Made h lo ws) (k:∀ (a:Nat) o,lo≤a→h.get? a=some o→h'.get? a=some o):Made h' lo ws :=
  ⟨m.rise,m.low,fun x hx=>SB.IsTup.keep (m.at_ x hx) fun o e=>k _ o (m.low x hx) e⟩
theorem z4s {H:Hp} {α:Type} {f:α→Addr} {g:α→HRow}:∀ {zs:List α},(∀ z∈zs,PR H (f z) (g z))→PRs H (zs.map f) (zs.map g)
  | [],_ => .nil
  | z::zs,h => .cons (h z List.mem_cons_self) (z4s fun y hy=>h y (List.mem_cons_of_mem _ hy))
theorem z2g {X:Cx} {k:Nat} (hr:Room k X.A):CallR X (.builtin "sorted") rSortV:=by
  intro pins s σ H xs us Q I rv h
  obtain⟨v,d,rows,rfl,hv,hd,few,hlow,q⟩:=h
  obtain⟨u,rfl,ru⟩:=rv.one
  cases ru
  obtain⟨hsys,hz,ob,es,ep,ho,hex,hob,nd,zs,z1,z2,z3⟩:=I.rows hd
  obtain⟨vo,vho,vc,vd⟩:s.heap.IsItemsView v d:=(I.hok v _ hv).1
  have hlen:es.size=rows.length:=by
    have:=congrArg List.length z2
    rw [List.length_map,List.length_map,Array.length_toList] at this
    rw [this,← z1,List.length_map]
  have hkeys:∀ {i:Nat} (hi:i<es.size),∃ z∈zs,zs[i]? = some z∧es[i].key = .ref z.1∧es[i].val=z.2.1:=fun {i} hi=>by
    have e:=congrArg (fun l=>l[i]?) z2
    simp only [List.getElem?_map,Array.getElem?_toList,Array.getElem?_eq_getElem hi,Option.map_some] at e
    cases hzi:zs[i]? with
    | none=>rw [hzi] at e;cases e
    | some z =>
      rw [hzi] at e
      injection e with e
      injection e with e1 e2
      exact⟨z,List.mem_of_getElem? hzi,rfl,e1,e2⟩
  have hzl:zs.length=es.size:=by rw [hlen,← z1,List.length_map]
  have hdL:=Heap.lt_size ho
  have hu:=hr.un
  refine SB.sorted_ok fun {Q'} kk => ?_
  refine PySem.Rv.collect_runs (T := "dict_items") (n:=es.size) (oI:=PySem.Rv.itemObj d 0 es.size ep .none (.bool false) .none .none) (Fc:=fun acc h=>∃ ws,acc=ws.map (fun x=>Value.ref x.1)∧ws.map (·.2)=zs.take acc.length∧Made h (s.heap.objs.size+2) ws)
    (It:=fun i h=>PySem.Rv.ItemIt h (s.heap.objs.size+1) d i es.size ep∧h.get? d=some ob) (fun h kh=>⟨vo,kh _ _ vho,vc⟩) (Heap.lt_size vho) (by decide) (by decide) (fun A E s' Q hT hq=>PySem.W.kdx_hint hT hq)
    (fun A E h Q kh hq=>PySem.Rv.items_iter (s := { s with heap:=h }) ⟨vo,kh _ _ vho,vc,vd⟩ (kh _ _ ho) hob hq) (fun h=>Heap.get?_push_size _ rfl) ⟨?_,fun i h h' ⟨f1,f2⟩ kp=>⟨f1.keep fun o e=>kp _ _ (Nat.ne_of_gt (Nat.lt_succ_self _)) e,kp _ _ (Nat.ne_of_lt hdL) f2⟩,?_,?_⟩ (by lia)
    (fun h kh ki=>⟨⟨[],rfl,rfl,.nil,(fun _ z=>nomatch z),(fun _ z=>nomatch z)⟩,⟨_,_,_,_,ki,.inl rfl⟩,kh _ _ ho⟩) (fun acc h el f hz2 kh => ?_)
  · rintro acc h h' ⟨ws,e1,e2,m⟩ kp
    refine⟨ws,e1,e2,m.keep fun a o ha e=>kp a o (fun z => ?_) (fun z => ?_) e⟩
    · rw [z] at ha;exact absurd ha (by lia)
    · rw [z] at ha;exact absurd ha (by lia)
  · rintro acc s' Q E hl ⟨ws,e1,e2,m⟩ ⟨i1,i2⟩ hq
    refine PySem.Rv.items_item i1 i2 hob hl fun h' j1 j2 j3 j4 => ?_
    obtain⟨z,hzm,hzi,hzk,hzv⟩:=hkeys hl
    have lo:s.heap.objs.size+2≤s'.heap.objs.size:=i1.lt
    have ni:∀ {a:Nat},s.heap.objs.size+2≤a→a≠s.heap.objs.size+1:=fun h=>by lia
    refine hq _ h' ⟨ws ++ [(s'.heap.objs.size,z)],by rw [e1,List.map_append];rfl,?_,?_⟩ ⟨j1,j4 d ob (Nat.ne_of_lt (Nat.lt_succ_of_lt hdL)) i2⟩ j4
    · rw [List.map_append,e2,List.length_append,List.length_singleton,List.take_succ,hzi];rfl
    · have m' := m.keep (h' := h') fun a o ha e=>j4 a o (ni ha) e
      refine⟨?_,fun x hx => ?_,fun x hx => ?_⟩
      · rw [List.map_append]
        refine List.pairwise_append.mpr ⟨m.rise,List.pairwise_singleton _ _,fun a ha b hb => ?_⟩
        obtain⟨x,hx,rfl⟩:=List.mem_map.mp ha
        have hb' : b=s'.heap.objs.size:=by simpa using hb
        rw [hb']
        obtain⟨o,eo,_⟩:=m.at_ x hx
        exact Heap.lt_size eo
      · rcases List.mem_append.mp hx with hx | hx
        · exact m.low x hx
        · rw [List.mem_singleton.mp hx];exact lo
      · rcases List.mem_append.mp hx with hx | hx
        · exact m'.at_ x hx
        · rw [List.mem_singleton.mp hx]
          refine⟨_,j2,rfl,0,?_⟩
          rw [hzk,hzv]
  · rintro s' Q E ⟨i1,i2⟩ hq
    exact PySem.Rv.items_end hr.hd i1 i2 hob (Nat.le_refl _) fun h' eb=>hq h' fun b o hb e=>eb b o hb e
  · obtain⟨ws,e1,e2,m⟩:=f
    rw [el,← hzl,List.take_length] at e2
    have hwz:∀ {x:Addr×Zt},x∈ws→x.2∈zs:=fun {x} hx=>by rw [← e2];exact List.mem_map.mpr ⟨x,hx,rfl⟩
    have hrow:∀ {x:Addr×Zt},x∈ws→x.2.2.2∈rows:=fun {x} hx=>by rw [← z1];exact List.mem_map.mpr ⟨_,hwz hx,rfl⟩
    have hpa:∀ {x:Addr×Zt},x∈ws→PairAt h (.ref x.1) x.2.2.2.1 x.2.2.1:=fun {x} hx=>⟨x.1,.ref x.2.1,rfl,m.at_ x hx,(I.path (z3 _ (hwz hx)).1).keep kh⟩
    have hnd:(ws.map fun x=>x.2.2.2.1).Nodup:=by
      have e3:ws.map (fun x=>x.2.2.2.1)=rows.map (·.1):=by
        rw [← z1,← e2,List.map_map,List.map_map];rfl
      rw [e3];exact nd
    have hacc:∀ {w:Value},w∈acc→∃ x∈ws,w = .ref x.1:=fun {w} hw=>by
      rw [e1] at hw
      obtain⟨x,hx,rfl⟩:=List.mem_map.mp hw
      exact⟨x,hx,rfl⟩
    refine kk acc h s.toks _ _ _ (SB.ready_pairs (ps:=rows.map (·.1)) (by lia) (fun w hw => ?_) (fun w hw y hy p mm mm' hp1 hp2 => ?_) (by lia)) fun h' out so kh' ⟨e,he⟩ => ?_
    · obtain⟨x,hx,rfl⟩:=hacc hw
      exact⟨_,List.mem_map.mpr ⟨_,hrow hx,rfl⟩,_,hlow _ (hrow hx),hpa hx⟩
    · obtain⟨x,hx,rfl⟩:=hacc hw
      obtain⟨x2,hx2,rfl⟩:=hacc hy
      have q1:=SB.PairAt.inj hp1 (hpa hx)
      have q2:=SB.PairAt.inj hp2 (hpa hx2)
      rw [q3g hnd hx hx2 (q1.symm.trans q2)]
    · have pm:=so.perm
      rw [e1] at pm
      obtain⟨ws',p1,p2⟩:=SB.perm_map_inv pm rfl
      have hrise:=so.rise
      rw [p2] at hrise
      have hps:=SB.rise_paths (K:=fun w p=>∃ mm,PairAt h w p mm) (fun w a b ⟨_,x⟩ ⟨_,y⟩=>SB.PairAt.inj x y) (ps:=rows.map (·.1)) (g:=fun x:Addr×Zt=>Value.ref x.1) (f:=fun x=>x.2.2.2.1) (zs:=ws') (fun x hx=>by
        have hxm:=p1.mem_iff.mp hx
        exact⟨⟨_,hpa hxm⟩,List.mem_map.mpr ⟨_,hrow hxm,rfl⟩⟩) hrise
      have keep:∀ b o,s.heap.get? b=some o→h'.get? b=some o:=fun b o z=>kh' b o (kh b o z)
      have I1:=I.kept (t' := s.toks) keep
      have hlo:∀ {x:Addr×Zt},x∈ws' → s.heap.objs.size≤x.1:=fun {x} hx=>Nat.le_trans (Nat.le_add_right _ 2) (m.low x (p1.mem_iff.mp hx))
      have ndA:(ws'.map (·.1)).Nodup:=by
        have:(ws.map (·.1)).Nodup:=m.rise.imp fun h e=>by subst e;exact absurd h (Nat.lt_irrefl _)
        exact (p1.map (·.1)).nodup_iff.mpr this
      obtain⟨H1,J,sm,ht,hot⟩:=I1.tracks (n:=s.heap.objs.size) (zs:=ws'.map fun x=>(x.1,[V.ref x.2.1,x.2.2.2.2])) I.sz (by rw [List.map_map];exact ndA) (fun z hz=>by
        obtain⟨x,hx,rfl⟩:=List.mem_map.mp hz
        refine⟨hlo hx,I.fpOk (hlo hx) (I.hok.fresh (hlo hx)),by show 2≤sizeLine;decide,[.ref x.2.1,x.2.2.1],.cons rfl (.cons (z3 _ (hwz (p1.mem_iff.mp hx))).2 .nil),?_⟩
        exact SB.IsTup.keep (m.at_ x (p1.mem_iff.mp hx)) fun o e=>kh' _ o e)
      have hL1:H1 h.objs.size=none:=by
        rw [hot _ fun z hz e => ?_]
        · exact I.hok.fresh hz2
        · obtain⟨x,hx,rfl⟩:=List.mem_map.mp hz
          obtain⟨o,eo,_⟩:=m.at_ x (p1.mem_iff.mp hx)
          exact absurd (Heap.lt_size eo) (by rw [show x.1=h.objs.size from e];exact Nat.lt_irrefl _)
      have el2:(ws'.map (·.1)).length=es.size:=by rw [List.length_map,p1.length_eq,← hzl,← e2,List.length_map]
      have eo:out.toList=(ws'.map (·.1)).map Value.ref:=by rw [p2,List.map_map];rfl
      have J2:=J.track (T:=h.objs.size) (o := .lst ((ws'.map (·.1)).map V.ref)) (Nat.le_trans I.sz hz2) (I.fpOk hz2 hL1) ⟨by rw [List.length_map,el2];lia,_,e,q6f _,by rw [← eo];exact he⟩
      have sm2:Same H (upd H1 h.objs.size (.lst ((ws'.map (·.1)).map V.ref))):=sm.trans ((Same.refl H1).new hL1)
      refine⟨.ref h.objs.size,_,J2,rfl,q _ (ws'.map (·.1)) (ws'.map fun x=>x.2.2.2) _ (I.hok.fresh hz2) ?_ (by rw [List.map_map];exact hps) sm2 q0b (z4s fun x hx => ?_)⟩
      · have e3:ws.map (fun x=>x.2.2.2)=rows:=by rw [← z1,← e2,List.map_map];rfl
        rw [← e3];exact p1.map _
      · refine⟨x.2.1,?_,sm2 _ _ (z3 _ (hwz (p1.mem_iff.mp hx))).1⟩
        exact (Same.refl H1).new hL1 _ _ (ht _ (List.mem_map.mpr ⟨x,hx,rfl⟩))
end L2
namespace L2
open PySem PySem.Spec PyProof.Rows
theorem d_set {X:Cx} {pins:List (Addr×Obj)} {σ:St} {H:Hp} {s:Shared} {a b:Addr} {A:Around} {E:Value→Shared→Prop} {kvs:List (List Key×V)} {k:List Key} {v:V} {r:Value} {Q:Unit→Shared→Prop} (hu:A.units+1<cLine) (I:Inv X pins σ H s) (e:H a=some (.dT kvs)) (eb:H b=some (.tup (k.map kV))) (l:kvs.length<sizeLine) (rv:RelV v r)
    (h:∀ s',Inv X pins σ (upd H a (.dT (putK kvs k v))) s' → (∀ b o,b≠a→s.heap.get? b=some o→s'.heap.get? b=some o)→Q () s'):wpAny (model X.prog X.w) A (dictSet a (.ref b) r) Q E s:=by
  obtain⟨z,hd,xs,rel,dd⟩:=z3z I.hok e
  have hz:xs.length≤sizeLine:=by rw [← Paired.length rel];exact z
  have hl:(putK kvs k v).length≤sizeLine:=by have:=q2b kvs k v;lia
  refine wpAny_dictSet_heap (hsz:=hz) (show (tupleKind (mixKind X.prog X.w)).room A from Nat.lt_of_succ_lt hu) (q4a I.hok eb) dd fun h' dd' hs=>h _ ?_ fun b o hb e=>(hs.2 b hb).trans e
  obtain⟨q,es,ep,hq,h2,h3,h4,_,h5⟩:=dd'
  refine q6a I (by rw [e];exact True.intro) hs ⟨q,hq⟩ ⟨hl,hd,_,(rel.put k eb rv).keeps fun c ys ec => ?_,q,es,ep,hq,h2,h3,h4,h5⟩
  rw [q0c (z2r ec e (fun z=>nomatch z))]
  exact ec
def CompWD (J:It) (g:TG) (tt:TT) (tk tv:TE) (σ0:St) (D:Addr) (Fin:List (List Key×V)→Hp→Prop) (H1:Hp):Prop :=
  ∃ W:Nat→Nat→List (List Key×V)→Hp→Prop,(∃ m,W 0 m [] (upd H1 D (.dT [])))∧∀ i m ys H,W i m ys H→H D=some (.dT ys) ∧
    ((J.stop i H∧Fin ys H)∨(J.go i H∧∃ N:List (List Key×V)→Hp→Prop,(∀ zs H',N zs H' → ∃ m',m' < m∧W (i+1) m' zs H')∧∀ x H',J.yld i H x H' → g x σ0 H' fun σ2 H2=>Keeps0 σ0 σ2∧tt σ2 H2 fun b H3 =>
      if b=true then tk σ2 H3 fun y H4=>tv σ2 H4 fun v H5=>∃ k c,y = .ref c∧H5 c=some (.tup (k.map kV))∧H5 D=some (.dT ys)∧ys.length<sizeLine∧N (putK ys k v) (upd H5 D (.dT (putK ys k v)))
      else N ys H3))
theorem z2h (kx vx target iter:Expr) (ifs:List Expr) (scope:Scope) (pos:Pos) (it:Value) (D:Addr) (env:Env) :
    compTurn (.DictComp kx vx [⟨target,iter,ifs,0⟩] scope pos) 0 it (.ref D) env=(standAt iter.pos >>= fun _=>pyNext it >>= fun r=>match r with
      | none=>pure (.done .next)
      | some v=>letOwnedTupleGo target it v >>= fun _=>assign target env v >>= fun _ =>
        (forIn ifs true fun c r=>if r=true then do let ok ← isTrue c env (eval c env);pure (ForInStep.yield ok) else pure (ForInStep.yield r)) >>= fun ok =>
        if ok=true then (eval kx env >>= fun kv=>holding [kv] (eval vx env) >>= fun vv=>standAt { kx.pos with endLine:=vx.pos.endLine,endCol:=vx.pos.endCol } >>= fun _=>holding [kv,vv] (dictSet D kv vv)) >>= fun _ =>
          again (.compLoop (.DictComp kx vx [⟨target,iter,ifs,0⟩] scope pos) 0 it (.ref D) env)
        else again (.compLoop (.DictComp kx vx [⟨target,iter,ifs,0⟩] scope pos) 0 it (.ref D) env)):=by
  rw [compTurn_dict]
  rfl
theorem z4t {X:Cx} {pins:List (Addr×Obj)} {σ:St} {H1:Hp} {s₂:Shared} {scope:Scope} {cl:List (Str×Addr)} {fp:List Addr} {it:Addr} {tn:Nat→Heap→Prop} {J:It} {caps:Caps} {tg:List Str}
    {kx vx target iter:Expr} {ifs:List Expr} {pos:Pos} {g:TG} {tt:TT} {tk tv:TE} {E:Value→Shared→Prop} {Fin:Addr→List (List Key×V)→Hp→Prop} {RR:Value→Addr→Result→Shared→Prop}
    (hc:X.calm=true) (hkind:scope.kind = .function) (hnc:∀ y∈scope.names,y.2 ≠ .cell) (hc1:∀ x c,cl.lookup x=some c→X.env.cells.lookup x=some c) (hc2:∀ x,(x,NameKind.free)∈scope.names→∃ c,cl.lookup x=some c)
    (co:CapOk X scope caps)
    (hg:∀ C s H,PG (cxComp X (tg++caps.map (·.1)) scope cl C fp s H) target g) (ht:∀ C s H,PIfs (cxComp X (tg++caps.map (·.1)) scope cl C fp s H) ifs tt) (he:∀ C s H,PE (cxComp X (tg++caps.map (·.1)) scope cl C fp s H) kx tk) (hv:∀ C s H,PE (cxComp X (tg++caps.map (·.1)) scope cl C fp s H) vx tv)
    (hu:X.A.units+1<cLine)
    (I2:Inv X pins σ H1 s₂) (T:Turn X.prog X.w X.K target J fp it tn) (st:tn 0 s₂.heap) (hf:∀ b∈fp,FpOk X pins H1 b)
    (hw:∀ D,H1 D=none→CompWD J g tt tk tv (tg0 tg σ caps) D (Fin D) H1)
    (hRR:∀ D C ys H' s',H1 D=none→Inv X pins σ H' s' → (∃ m,s'.heap.Ns C m)→FpOk X pins H' C→Fin D ys H' → RR (.ref D) C (.ok .next) s') :
    wpAny (model X.prog X.w) X.A newDict (fun acc s₃=>wpAny (model X.prog X.w) X.A (newFunctionEnv scope X.env.globals cl [] X.env.qual none .none (some X.env)) (fun cenv s₄ =>
      codeAny (model X.prog X.w) X.A (.compStart (.DictComp kx vx [⟨target,iter,ifs,0⟩] scope pos) 0 (.ref it) acc { cenv with scope:=relabel scope X.env }) (RR acc cenv.locals) s₄) E s₃) E s₂:=by
  have I3:Inv X pins σ (upd H1 s₂.heap.objs.size (.dT [])) { s₂ with heap:=s₂.heap.push { cls := .type "dict",dict:=none,data := .dict #[] },toks:=s₂.toks }:=I2.laid (o := .dT []) (fun _ _ q=>Heap.get?_push_of_some _ q) (Nat.le_refl _) (q7w s₂.heap I2.big)
  have hD0:H1 s₂.heap.objs.size=none:=I2.fresh
  refine wpAny_newObj_type (wpAny_newFunctionEnv hnc (by intro y hy;simp at hy) (fun h₁ hns₁ hsb₁ => ?_) hkind)
  dsimp only at hns₁ hsb₁ ⊢
  generalize hDd:s₂.heap.objs.size=D at I3 hD0 hns₁ hsb₁ ⊢
  generalize hs3:({ s₂ with heap:=s₂.heap.push { cls := .type "dict",dict:=none,data := .dict #[] } }:Shared)=s₃ at I3 hns₁ hsb₁ ⊢
  have e3:s₂.heap.push { cls := .type "dict",dict:=none,data := .dict #[] }=s₃.heap:=by rw [← hs3]
  have o3:({ s₂ with heap:=h₁,toks:=s₂.toks+([]:List (Str×Value)).length }:Shared) = { s₃ with heap:=h₁,toks:=s₂.toks }:=by rw [← hs3];rfl
  have size3:s₃.heap.objs.size=D+1:=by rw [← e3,Heap.size_push,hDd]
  rw [e3] at hns₁ hsb₁ ⊢
  have old3:∀ b o,s₂.heap.get? b=some o→s₃.heap.get? b=some o:=fun b o e=>by rw [← e3];exact Heap.get?_push_of_some _ e
  generalize hCd:s₃.heap.objs.size=C at hns₁ hsb₁ ⊢
  have hk:∀ b o,s₃.heap.get? b=some o→h₁.get? b=some o:=fun b o e=>hsb₁.extBut b o (by rw [← hCd];exact Nat.ne_of_lt (Heap.lt_size e)) (Heap.get?_push_of_some _ e)
  have fpo:∀ b∈fp,∃ o,s₂.heap.get? b=some o:=fun b hb=>by obtain⟨o,e,_⟩:=T.obj 0 _ st b hb;exact⟨o,e⟩
  have fpne:∀ b∈fp,b≠D:=fun b hb=>by obtain⟨o,e⟩:=fpo b hb;rw [← hDd];exact Nat.ne_of_lt (Heap.lt_size e)
  have hf3:∀ b∈fp,FpOk X pins (upd H1 D (.dT [])) b:=fun b hb=>⟨by rw [q0c (fpne b hb)];exact (hf b hb).1,(hf b hb).2⟩
  have IY:=Inv.ofcomp (tk:=s₂.toks) tg I3 hkind hnc hc1 hc2 hf3 (fun b hb=>let ⟨o,e⟩:=fpo b hb;⟨o,old3 b o e⟩) (Nat.le_of_eq hCd) hns₁ hk co
  have FC:FpOk X pins H1 C:=by
    have z:=I3.fpOk (b:=C) (H' := H1) (Nat.le_of_eq hCd) (I2.hok.fresh (by rw [hDd,← hCd,size3];exact Nat.le_succ _))
    exact z
  generalize hY:cxComp X (tg++caps.map (·.1)) scope cl C fp s₃ (upd H1 D (.dT []))=Y at IY
  have hgY:PG Y target g:=by rw [← hY];exact hg _ _ _
  have htY:PIfs Y ifs tt:=by rw [← hY];exact ht _ _ _
  have heY:PE Y kx tk:=by rw [← hY];exact he _ _ _
  have hvY:PE Y vx tv:=by rw [← hY];exact hv _ _ _
  have hYp:Y.prog=X.prog:=by rw [← hY];rfl
  have hYw:Y.w=X.w:=by rw [← hY];rfl
  have hYK:Y.K=X.K:=by rw [← hY];rfl
  have hYA:Y.A=X.A:=by rw [← hY];rfl
  have hYe:Y.env=compEnvC scope cl C X.env:=by rw [← hY];rfl
  have hYx:Y.ex=fp:=by rw [← hY];rfl
  have hYn:Y.pn = []:=by rw [← hY];rfl
  have hYc:Y.calm=true:=by rw [← hY];exact hc
  have hYxe:Y.xe=fun _ _=>False:=by rw [← hY];rfl
  have fpY:∀ {H' : Hp},(∀ b∈fp,H' b=none)→∀ b∈fp,FpOk Y [] H' b:=fun {H'} hn b hb=>by
    refine⟨hn b hb,?_,?_,.inl (by rw [hYx];exact hb),fun x c e => ?_,fun p hp => ?_⟩
    · have:=(IY.ok.exf b (by rw [hYx];exact hb)).1;exact this
    · exact IY.ok.exfs b (by rw [hYx];exact hb)
    · exact (IY.ok.exf b (by rw [hYx];exact hb)).2 x c e
    · rw [hYn] at hp;cases hp
  obtain⟨W,⟨m0,w0⟩,turn⟩:=hw D hD0
  have stY:tn 0 h₁:=T.keep 0 _ _ st fun b hb o e=>hk b o (old3 b o e)
  have back:∀ {H' : Hp} {s' : Shared} {σ' : St},Inv Y [] σ' H' s' → Inv X pins σ H' s' := fun {H' s' σ'} IE=>by
    have hun:=IE.base
    have hos:=IE.os
    rw [← hY] at hun hos
    exact I3.call' (ch:=fp) hos hun (by have z:=IE.hok;rw [hYp,hYw] at z;exact z) IE.bare fun b hb=>⟨(hf b hb).2.2.2.1,(hf b hb).2.1,(hf b hb).2.2.2.2.1,(hf b hb).2.2.2.2.2⟩
  have gY:∀ pins s σ H v u Q (E' : Value→Shared→Prop),Inv Y pins σ H s→RelV v u→g v σ H Q→wpAny (model X.prog X.w) X.A (assign target (compEnvC scope cl C X.env) u) (fun _ s' => ∃ σ' H',Inv Y pins σ' H' s' ∧ Q σ' H') E' s:=fun pins s σ H v u Q E' IE r q=>by
    have z:=hgY pins s σ H v u Q IE r q
    rw [hYp,hYw,hYA,hYe,hYxe] at z
    exact wpAny_mono z (fun _ _ x=>x) fun _ _ f=>f.elim
  have tY:∀ pins s σ H Q (E' : Value→Shared→Prop),Inv Y pins σ H s→tt σ H Q→wpAny (model X.prog X.w) X.A (forIn ifs true fun c r=>if r=true then do let ok ← isTrue c (compEnvC scope cl C X.env) (eval c (compEnvC scope cl C X.env));pure (ForInStep.yield ok) else pure (ForInStep.yield r)) (TP Y pins σ Q) E' s:=fun pins s σ H Q E' IE q=>by
    have z:=htY pins s σ H Q IE q
    rw [hYp,hYw,hYA,hYe,hYxe] at z
    exact wpAny_mono z (fun _ _ x=>x) fun _ _ f=>f.elim
  have eY:∀ pins s σ H Q (E' : Value→Shared→Prop),Inv Y pins σ H s→tk σ H Q→wpAny (model X.prog X.w) X.A (eval kx (compEnvC scope cl C X.env)) (EP Y pins σ Q) E' s:=fun pins s σ H Q E' IE q=>by
    have z:=heY pins s σ H Q IE q
    rw [hYp,hYw,hYA,hYe,hYxe] at z
    exact wpAny_mono z (fun _ _ x=>x) fun _ _ f=>f.elim
  have vY:∀ pins s σ H Q (E' : Value→Shared→Prop),Inv Y pins σ H s→tv σ H Q→wpAny (model X.prog X.w) X.A (eval vx (compEnvC scope cl C X.env)) (EP Y pins σ Q) E' s:=fun pins s σ H Q E' IE q=>by
    have z:=hvY pins s σ H Q IE q
    rw [hYp,hYw,hYA,hYe,hYxe] at z
    exact wpAny_mono z (fun _ _ x=>x) fun _ _ f=>f.elim
  have tiY:∀ i pins s σ H (E' : Value→Shared→Prop),Inv Y pins σ H s→(∀ b∈fp,FpOk Y pins H b)→tn i s.heap→J.go i H →
      wpAny (model X.prog X.w) X.A (pyNext (.ref it)) (fun r s1=>∃ u,r=some u ∧
        wpAny (model X.prog X.w) X.A (letOwnedTupleGo target (.ref it) u) (fun _ s2=>∃ x H',Inv Y pins σ H' s2∧RelV x u∧J.yld i H x H' ∧ tn (i+1) s2.heap∧∀ b∈fp,H' b=none) E' s1) E' s:=fun i pins s σ H E' IE hfy st go=>by
    have z:=T.item Y hYp hYw hYK hYc i pins s σ H E' IE hfy st go
    rw [hYA] at z
    exact z
  have tdY:∀ i pins s σ H (E' : Value→Shared→Prop),Inv Y pins σ H s→(∀ b∈fp,FpOk Y pins H b)→tn i s.heap→J.stop i H →
      wpAny (model X.prog X.w) X.A (pyNext (.ref it)) (fun r s1=>r=none∧Inv Y pins σ H s1) E' s:=fun i pins s σ H E' IE hfy st go=>by
    have z:=T.done Y hYp hYw hYK hYc i pins s σ H E' IE hfy st go
    rw [hYA] at z
    exact z
  have loop:codeAny (model X.prog X.w) X.A (.compLoop (.DictComp kx vx [⟨target,iter,ifs,0⟩] scope pos) 0 (.ref it) (.ref D) (compEnvC scope cl C X.env)) (RR (.ref D) C) { s₃ with heap:=h₁,toks:=s₂.toks }:=by
    refine codeAny_loop rfl (fun n s' => ∃ i ys H',Inv Y [] (tg0 tg σ caps) H' s' ∧ tn i s'.heap∧(∀ b∈fp,H' b=none)∧W i n ys H') ?_ m0 ⟨0,[],_,IY,stY,fun b hb=>(hf3 b hb).1,w0⟩
    rintro n s4 ⟨i,ys,H4,I4,st4,fr4,w4⟩
    show wpAny _ _ ((compTurn (.DictComp kx vx [⟨target,iter,ifs,0⟩] scope pos) 0 (.ref it) (.ref D) (compEnvC scope cl C X.env)).onRaise (fun x=>do noteFrame x (compEnvC scope cl C X.env);theTreesLotGoes x)) _ _ s4
    refine wpAny_noted ?_
    rw [z2h]
    obtain⟨hHD,alt⟩:=turn i n ys H4 w4
    rcases alt with ⟨stop,fin⟩ | ⟨go,N,hN,step⟩
    · refine wpAny_bind (wpAny_standAt (wpAny_bind (thn (tdY i [] s4 _ H4 _ I4 (fpY fr4) st4 stop) fun r s5 ⟨hr,I5⟩ => ?_)))
      subst hr
      refine wpAny_pure (hRR D C ys H4 s5 hD0 (back I5) ?_ ⟨?_,FC.2⟩ fin)
      · obtain⟨m,hm,_⟩:=I5.loc
        rw [hYe] at hm
        exact⟨m,hm⟩
      · have z:=I5.free
        rw [hYe] at z
        exact z
    · refine wpAny_bind (wpAny_standAt (wpAny_bind (thn (tiY i [] s4 _ H4 _ I4 (fpY fr4) st4 go) fun r s5 ⟨u,hr,h5⟩ => ?_)))
      subst hr
      refine wpAny_bind (thn h5 fun _ s6 ⟨x,H6,I6,r6,y6,st6,fr6⟩ => ?_)
      have I6' := I6.pinned (fpY fr6) (T.obj _ _ st6)
      refine wpAny_bind (thn (gY _ s6 _ H6 x u _ _ I6' r6 (step x H6 y6)) fun _ s7 ⟨σ7,H7,I7,kp,q7⟩ => ?_)
      refine wpAny_bind (thn (tY _ s7 σ7 H7 _ _ I7 q7) fun b s8 ⟨H8,I8,q8⟩ => ?_)
      have again:∀ {H9:Hp} {s9:Shared} {zs:List (List Key×V)} {m' : Nat},Inv Y ([]++pinsAt fp s6.heap) σ7 H9 s9→m' < n→W (i+1) m' zs H9→∃ m,m<n∧∃ i ys H',Inv Y [] (tg0 tg σ caps) H' s9∧tn i s9.heap∧(∀ b∈fp,H' b=none)∧W i m ys H' := fun {H9 s9 zs m'} I9 hm w9=>by
        refine⟨m',hm,i+1,zs,H9,I9.unpinned.weak kp.1 kp.2,T.keep _ _ _ st6 fun b hb o e=>(I9.pin (b,o) (List.mem_append_right _ (List.mem_append_right _ (q1z hb e)))).1,fun b hb => ?_,w9⟩
        obtain⟨o,e,d⟩:=T.obj _ _ st6 b hb
        exact (I9.pin (b,o) (List.mem_append_right _ (List.mem_append_right _ (q1z hb e)))).2.1
      cases b with
      | true =>
        rw [if_pos rfl] at q8
        simp only [if_true]
        refine wpAny_bind (wpAny_bind (thn (eY _ s8 σ7 H8 _ _ I8 q8) fun kv s9 ⟨yy,H9,I9,r9,q9⟩ => ?_))
        refine wpAny_bind (wpAny_holding (thn (vY _ s9 σ7 H9 _ _ I9 q9) fun vv s10 ⟨v,H10,I10,r10,kk,bb,ey,hbb,hH10,hz10,n10⟩ => ?_))
        subst ey
        cases r9
        obtain⟨m',hm',w10⟩:=hN _ _ n10
        refine wpAny_bind (wpAny_standAt (wpAny_holding ?_))
        have z:=d_set (A:=X.A) (E:=notedBy (model X.prog X.w) X.A (compEnvC scope cl C X.env) fun e s' => RR (.ref D) C (.error e) s') (Q:=fun _ s' => Inv Y ([]++pinsAt fp s6.heap) σ7 (upd H10 D (.dT (putK ys kk v))) s') hu I10 hH10 hbb hz10 r10 fun s' I' _=>I'
        rw [hYp,hYw] at z
        exact thn z fun _ s11 I11=>wpAny_pure ⟨rfl,again I11 hm' w10⟩
      | false =>
        rw [if_neg Bool.false_ne_true] at q8
        obtain⟨m',hm',w8⟩:=hN _ _ q8
        simp only [Bool.false_eq_true,if_false]
        exact wpAny_pure ⟨rfl,again I8 hm' w8⟩
  rw [o3]
  exact codeAny_compStart_dict loop (T.self _ 0 _ _ _ stY loop)
section
variable {X:Cx} {iter target kx vx:Expr} {ifs:List Expr} {scope:Scope} {pos:Pos} {wi:TI} {g:TG} {tt:TT} {tk tv:TE}
def tSetDC (wi:TI) (g:TG) (tt:TT) (tk tv:TE) (tg:List Str) (caps:Caps) (i:Nat):TS:=fun D' σ H=>wi σ H fun J H1=>∀ D,H1 D=none→CompWD J g tt tk tv (tg0 tg σ caps) D (fun _ H' => D'.nx (σ.set i (some (.ref D))) H') H1
theorem z7k {i:Nat} {y:Str} {py spos:Pos} (tg:List Str) (caps:Caps) (hN:X.N.Nodup) (hiN:X.N[i]? = some y) (hx:Loc X.env.scope y) (hc:X.calm=true) (hi:PI X target iter wi)
    (hg:∀ cl C fp s H,PG (cxComp X (tg++caps.map (·.1)) scope cl C fp s H) target g) (ht:∀ cl C fp s H,PIfs (cxComp X (tg++caps.map (·.1)) scope cl C fp s H) ifs tt) (he:∀ cl C fp s H,PE (cxComp X (tg++caps.map (·.1)) scope cl C fp s H) kx tk) (hv:∀ cl C fp s H,PE (cxComp X (tg++caps.map (·.1)) scope cl C fp s H) vx tv) (hu:X.A.units+1<cLine)
    (hk:compChk X.N X.env.scope scope caps=true:=by rfl) (hs:∀ x,foldedSetIterable iter X.env x=pure x:=by intro _;rfl)
    (hsw:swapsWith (.DictComp kx vx [⟨target,iter,ifs,0⟩] scope pos) (some (.Name y py)) spos.line X.env=pure true:=by rfl)
    (hf:X.fn y=true∨X.env.scope.names.lookup y=some .local:=by first | exact .inl rfl | exact .inr rfl | assumption) :
    PS X (.Assign [.Name y py] (.DictComp kx vx [⟨target,iter,ifs,0⟩] scope pos) spos) (tSetDC wi g tt tk tv tg caps i):=by
  intro pins s σ H D' I h
  obtain⟨hkind,hnc,hnames,hfree,co⟩:=q4m hk
  obtain⟨cl,hclos,hc1,hc2⟩:=q9w I hfree
  rw [exec_Assign_Name_used _ _ _ _ hsw]
  refine wpAny_bind (wpAny_standAt (wpAny_bind ?_))
  show wpAny _ X.A (do let _ ← comprehension (.DictComp kx vx [⟨target,iter,ifs,0⟩] scope pos) scope X.env _ newDict false (eval iter X.env) (some (assign (.Name y py) X.env))) _ _ s
  refine wpAny_bind (wpAny_mono (wpAny_comprehension_free (use:=some (assign (.Name y py) X.env)) (Q:=fun _ s' => SP X pins D' .next s') rfl hs hclos hkind hnames
    (thn (hi pins s σ H _ I h) fun v s1 h1=>thn h1 fun itv s2 h2 => ?_)) (fun _ s' hq=>wpAny_pure (wpAny_pure hq)) fun _ _ e=>e)
  obtain⟨it,fp,tn,J,H2,e,I2,T,st2,f2,hw⟩:=h2
  subst e
  refine z4t (RR:=fun acc C=>compPost (model X.prog X.w) X.A X.xe (some (assign (.Name y py) X.env)) (fun _ s' => SP X pins D' .next s') acc C) (Fin:=fun D _ H' => D'.nx (σ.set i (some (.ref D))) H') hc hkind hnc hc1 hc2 co (fun C s H=>hg cl C fp s H) (fun C s H=>ht cl C fp s H) (fun C s H=>he cl C fp s H) (fun C s H=>hv cl C fp s H) hu I2 T st2 f2 hw ?_
  intro D C ys H' s' hD I' hm F fin
  obtain⟨m,hm⟩:=hm
  show wpAny _ X.A (assign (.Name y py) X.env (.ref D)) _ _ _
  refine wpAny_assign_Name (q5p (v := .ref D) I' hN hiN hx rfl (fun s'' I'' hsb => ?_) hf)
  obtain⟨a,sb,ha⟩:=hsb
  have hCa:C≠a:=by
    rcases ha with ha | ha
    · rw [ha];exact F.2.1
    · exact fun z=>F.2.2.2.2.1 y a ha z.symm
  refine⟨m,hm.sameBut sb hCa,fun h' hs' => ?_⟩
  exact⟨_,H',I''.turned (t' := s''.toks) (fun b o hb e=>(hs'.2 b hb).trans e) F.1 F.2.1 F.2.2.2.1 F.2.2.2.2.1 F.2.2.2.2.2,fin⟩
end
theorem z7l {J:It} {n:Nat} {g:TG} {tt:TT} {tk tv:TE} {σ0:St} {D:Addr} {Fin:List (List Key×V)→Hp→Prop} {H1:Hp} (Pv:Nat→List (List Key×V)→Hp→Prop) (h0:Pv 0 [] (upd H1 D (.dT []))) (hl:∀ i ys H,Pv i ys H→H D=some (.dT ys))
    (hgo:∀ i ys H,i<n→Pv i ys H→J.go i H) (hstop:∀ ys H,Pv n ys H→J.stop n H)
    (hs:∀ i ys H x H',i<n→Pv i ys H→J.yld i H x H' → g x σ0 H' fun σ2 H2=>Keeps0 σ0 σ2∧tt σ2 H2 fun b H3 =>
      if b=true then tk σ2 H3 fun y H4=>tv σ2 H4 fun v H5=>∃ k c,y = .ref c∧H5 c=some (.tup (k.map kV))∧H5 D=some (.dT ys)∧ys.length<sizeLine∧Pv (i+1) (putK ys k v) (upd H5 D (.dT (putK ys k v))) else Pv (i+1) ys H3)
    (hd:∀ ys H,Pv n ys H→Fin ys H):CompWD J g tt tk tv σ0 D Fin H1:=by
  refine⟨fun i m ys H=>m=n - i∧i≤n∧Pv i ys H,⟨n,by simp,Nat.zero_le _,h0⟩,?_⟩
  rintro i m ys H ⟨rfl,hi,p⟩
  refine⟨hl i ys H p,?_⟩
  by_cases hlt:i<n
  · exact .inr ⟨hgo i ys H hlt p,Pv (i+1),fun zs H' q=>⟨n - (i+1),by lia,rfl,hlt,q⟩,fun x H' y=>hs i ys H x H' hlt p y⟩
  · have e:i=n:=by lia
    subst e
    exact .inl ⟨hstop ys H p,hd ys H p⟩
theorem z2i {K:PySem.W.Frag} {a:Addr} {xs:List V} {g:TG} {tt:TT} {tk tv:TE} {σ0:St} {D:Addr} {Fin:List (List Key×V)→Hp→Prop} {H1:Hp} (Pv:Nat→List (List Key×V)→Hp→Prop) (h0:Pv 0 [] (upd H1 D (.dT []))) (hl:∀ i ys H,Pv i ys H→H D=some (.dT ys)∧SqL K H a xs)
    (hs:∀ i ys H x,xs[i]? = some x→Pv i ys H→g x σ0 H fun σ2 H2=>Keeps0 σ0 σ2∧tt σ2 H2 fun b H3 =>
      if b=true then tk σ2 H3 fun y H4=>tv σ2 H4 fun v H5=>∃ k c,y = .ref c∧H5 c=some (.tup (k.map kV))∧H5 D=some (.dT ys)∧ys.length<sizeLine∧Pv (i+1) (putK ys k v) (upd H5 D (.dT (putK ys k v))) else Pv (i+1) ys H3)
    (hd:∀ ys H,Pv xs.length ys H→Fin ys H):CompWD (Itl K a) g tt tk tv σ0 D Fin H1 :=
  z7l (n:=xs.length) Pv h0 (fun i ys H p=>(hl i ys H p).1) (fun i ys H h p=>⟨xs,xs[i],(hl i ys H p).2,by simp [h]⟩) (fun ys H p=>⟨xs,(hl _ ys H p).2,Nat.le_refl _⟩)
    (fun i ys H x H' h p y=>by obtain⟨e,y⟩:=y;subst e;exact hs i ys _ x (y xs (hl i ys _ p).2) p) hd
end L2
namespace PySem.Rv
open Sem (wp)
section
variable {prog:Program} {w:World} {A:Around} {E:Value→Shared→Prop} {s:Shared}
theorem q6q:typeLookup (.type "list") "keys" = pure none:=by rw [typeLookup_type,builtinLookup_eq_fast];kernel_rfl
theorem no_keys {a:Addr} {xs:Array Value} {k:Nat} {Q:Option Value→Shared→Prop} (hx:s.heap.get? a=some { cls := .type "list",dict:=none,data := .seq xs k,slots := #[] }) (hA:A.handled=none)
    (h:∀ h' tk,(∀ b o,s.heap.get? b=some o→h'.get? b=some o)→Q none { s with heap:=h',toks:=tk }):wpAny (model prog w) A (getAttr? (.ref a) "keys") Q E s:=by
  obtain⟨hp,g,d,tk,os⟩:=s
  have hT:∀ tk',(⟨hp,g,d,tk',os⟩:Shared).TypeIs (.ref a) "list" := fun _=>⟨_,hx,rfl⟩
  have f1:=sub_AttributeError
  have f3:=F.slot_list_getattribute.lookup
  have f4:=F.slot_list_getattribute.bind (.ref a)
  have f5:=am_list_getattr_none
  unfold getAttr? getAttrBy? getAttrBy
  repeat (any_goals (first | assumption | exact hT _ | ((with_reducible show wpAny _ _ (call (Value.builtin "list.__getattribute__") _ _) _ _ _);refine call_meets F.slot_list_getattribute (hT _) am_entry_list_getattribute (F.args_list_getattribute_2 _ _) (meets_getattribute_miss_list a xs k #[] "keys" _ q6q (by decide +kernel) (by decide +kernel)) ⟨hx,hA,fun h' tk' e hx' => ?_⟩) | wp_step))
  obtain⟨t',u',he⟩:=hx'.there
  have hi:(⟨h',g,d,tk',os⟩:Shared).TypeIs (.ref e) "AttributeError" := ⟨_,he,rfl⟩
  show wpAny _ _ (getattributeRaised _ _ _ _ _ _ _) _ _ _
  unfold getattributeRaised
  repeat (any_goals (first | assumption | wp_step))
  exact h _ _ hx'.keeps
end
end PySem.Rv
namespace PySem.Rv
theorem plain_upd:plainId "dict.update.loop" = true:=by decide +kernel
theorem entry_upd:entryFor table "dict.update.loop" = some Builtin.«dict.update.loop» := entryFor_of_fast (by kernel_rfl)
end PySem.Rv
namespace L2
open PySem PySem.Spec PyProof.Rows SB TX
def putR (acc:List (List Key×V)) (r:HRow):List (List Key×V):=putK acc (kP r.1) r.2
theorem z0v:∀ (rows:List HRow) (acc:List (List Key×V)),(rows.foldl putR acc).length≤acc.length+rows.length
  | [],acc=>Nat.le_refl _
  | r::rows,acc=>by
    have h1:=z0v rows (putR acc r)
    have h2:=q2b acc (kP r.1) r.2
    rw [List.foldl_cons,List.length_cons]
    unfold putR at h1 ⊢
    lia
section
variable {X:Cx} {pins:List (Addr×Obj)} {σ:St}
theorem z0f {H:Hp} {s:Shared} (I:Inv X pins σ H s) {L:Addr} {xs:List V} (h:H L=some (.lst xs)):∃ its,Vals xs its∧s.heap.IsList L its.toArray:=by
  obtain⟨z,its,n,r,e⟩:=I.hok L _ h
  exact⟨its,r,_,e,rfl,n,rfl⟩
theorem z4u {A:Around} {L D it:Addr} {as:List Addr} {rows:List HRow} {R:Result→Shared→Prop} (hh:A.handled=none) (hu:A.units+3<cLine) (few:rows.length<sizeLine):∀ (k i:Nat) (H:Hp) (s:Shared),rows.length - i=k→i≤rows.length→Inv X pins σ H s→H L=some (.lst (as.map V.ref))→PRs H as rows →
    H D=some (.dT ((rows.take i).foldl putR []))→s.heap.IsListIter it L i→FpOk X pins H it→(∀ H' s',Inv X pins σ H' s' → H' D=some (.dT (rows.foldl putR []))→(∀ b,b≠D→H' b=H b)→R (.ok (.ret .none)) s') →
    codeAny (model X.prog X.w) A (.builtin "dict.update.loop" ⟨[.ref D,.ref it,rawInt i,.none],[]⟩) R s:=by
  intro k
  induction k with
  | zero =>
    intro i H s hk hi I hL hp hD hit hf hR
    have ei:i=rows.length:=by lia
    subst ei
    rw [List.take_length] at hD
    obtain⟨its,rv,hl⟩:=z0f I hL
    have hlen:its.length=rows.length:=by rw [← rv.length,List.length_map];exact Paired.length hp
    refine codeAny_builtin PySem.Rv.entry_upd ?_;rw [Around.under_plainId PySem.Rv.plain_upd _]
    refine wpAny_bind (m:=pyNext (.ref it)) (wpAny_pyNext_list_end hh hit hl (by simp [hlen]) fun h' eb => ?_)
    show wpAny _ _ (Builtin.Dict.addKeywords D [] >>= _) _ _ _
    exact wpAny_bind (wpAny_pure (wpAny_pure (hR H _ (I.turned (t' := s.toks) (fun b o hb e=>eb b o hb e) hf.1 hf.2.1 hf.2.2.2.1 hf.2.2.2.2.1 hf.2.2.2.2.2) hD fun _ _=>rfl)))
  | succ k ih =>
    intro i H s hk hi I hL hp hD hit hf hR
    obtain⟨its,rv,hl⟩:=z0f I hL
    have hil:i<rows.length:=by lia
    obtain⟨a,ha⟩:∃ a,as[i]? = some a:=⟨as[i]'(by rw [Paired.length hp];exact hil),by simp [Paired.length hp,hil]⟩
    obtain⟨r,hr,b,hpa,hpb⟩:=Paired.at' hp ha
    obtain⟨u,hu1,hu2⟩:=rv.get (i:=i) (x := .ref a) (by rw [List.getElem?_map,ha];rfl)
    cases hu2
    refine codeAny_builtin PySem.Rv.entry_upd ?_;rw [Around.under_plainId PySem.Rv.plain_upd _]
    refine wpAny_bind (m:=pyNext (.ref it)) (wpAny_pyNext_list_item hit hl (x := .ref a) (by simpa using hu1) fun h' hit' sb => ?_)
    have I1:Inv X pins σ H { s with heap:=h' }:=I.turned (t' := s.toks) (fun b o hb e=>(sb.2 b hb).trans e) hf.1 hf.2.1 hf.2.2.2.1 hf.2.2.2.2.1 hf.2.2.2.2.2
    obtain⟨z,pits,pr,o,po,pc,pn,pd⟩:=I1.hok a _ hpa
    obtain⟨u1,u2,e12,r1,r2⟩:=pr.two
    subst e12
    cases r1
    dsimp only
    refine wpAny_bind (wpAny_holding ?_)
    refine wpAny_bind (wpAny_tryCatch ?_)
    unfold Builtin.Dict.pairItems
    refine wpAny_bind (wpAny_typeOf (T := "tuple") ⟨o,po,pc⟩ ?_)
    rw [if_pos (by decide)]
    refine wpAny_bind (wpAny_seqItems po pd (wpAny_pure ?_))
    show wpAny _ _ (holding [.ref b,u2] (dictSet D (.ref b) u2)) _ _ _
    have elen:((rows.take i).foldl putR []).length<sizeLine:=by
      have h1:=z0v (rows.take i) []
      rw [List.length_take] at h1
      have h2:([]:List (List Key×V)).length=0:=rfl
      lia
    refine wpAny_holding (d_set (k:=kP r.1) (by show A.units+1+1<cLine;lia) I1 hD (by rw [q3a];exact hpb) elen r2 fun s' I' kp => ?_)
    refine wpAny_pure ⟨plainId_quiet PySem.Rv.plain_upd _,?_⟩
    have hLD:L≠D:=fun z=>by rw [z,hD] at hL;cases hL
    have hitD:it≠D:=fun z=>by have y:=hf.1;rw [z,hD] at y;cases y
    have hnt:∀ {T:Addr} {xs:List V},H T=some (.tup xs)→T≠D:=fun {T xs} e z=>by rw [z,hD] at e;cases e
    have et:(rows.take (i+1)).foldl putR []=putK ((rows.take i).foldl putR []) (kP r.1) r.2:=by
      rw [List.take_succ,hr]
      show ((rows.take i) ++ [r]).foldl putR []=_
      rw [List.foldl_append];rfl
    have hit2:s'.heap.IsListIter it L (i+1):=hit'.at fun o e=>kp _ _ hitD e
    refine ih (i+1) _ s' (by lia) hil I' (by rw [q0c hLD];exact hL) (Paired.imp' (fun a r ⟨b,h1,h2⟩=>⟨b,by rw [q0c (hnt h1)];exact h1,by rw [q0c (hnt h2)];exact h2⟩) hp) (by rw [q0b,et]) hit2 ⟨by rw [q0c hitD];exact hf.1,hf.2⟩ fun H' s'' J j1 j2 => ?_
    exact hR H' s'' J j1 fun b hb=>by rw [j2 b hb,q0c hb]
end
def rDictL:List V→Hp→VK→Prop:=fun vs H Q=>∃ L as rows,vs = [.ref L]∧H L=some (.lst (as.map V.ref))∧PRs H as rows∧rows.length<1000∧∀ D,H D=none→Q (.ref D) (upd H D (.dT (rows.foldl putR [])))
theorem z2j {X:Cx} {k:Nat} (hr:Room k X.A):CallR X (.type "dict") rDictL:=by
  intro pins s σ H xs us Q I rv h
  obtain⟨L,as,rows,rfl,hL,hp,few,q⟩:=h
  obtain⟨u,rfl,ru⟩:=rv.one
  cases ru
  have hu:=hr.un
  have hh:=hr.hd
  refine callType_codes (Q₁:=fun obj s₁=>obj = .ref s.heap.objs.size∧s₁ = { s with heap:=s.heap.push { cls := .type "dict",data := .dict #[] } }) F.kt_called_dict (F.kt_typeCall_dict_1 _) F.entry_dict_init (kt_code_dict_new _ ⟨rfl,rfl⟩) fun obj s₁ h₁ => ?_
  obtain⟨rfl,rfl⟩:=h₁
  have hDf:=I.fresh
  have I1:Inv X pins σ (upd H s.heap.objs.size (.dT [])) { s with heap:=s.heap.push { cls := .type "dict",data := .dict #[] } }:=I.laid (t' := s.toks) (fun _ _ e=>Heap.get?_push_of_some _ e) (Nat.le_refl _) (q7w s.heap I.big)
  have hD1:(s.heap.push { cls := .type "dict",data := .dict #[] }).get? s.heap.objs.size=some { cls := .type "dict",data := .dict #[] }:=Heap.get?_push_size _ rfl
  have hLD:L≠s.heap.objs.size:=q0k hL hDf
  have hL1:upd H s.heap.objs.size (.dT []) L=some (.lst (as.map V.ref)):=by rw [q0c hLD];exact hL
  have sm:=(Same.refl H).new (o := .dT []) hDf
  have hp1:PRs (upd H s.heap.objs.size (.dT [])) as rows:=Paired.imp' (fun a r ⟨b,h1,h2⟩=>⟨b,sm _ _ h1,sm _ _ h2⟩) hp
  obtain⟨z,its,n,r1,e1⟩:=I1.hok L _ hL1
  refine⟨⟨_,hD1,rfl⟩,F.args_dict_init_2 _ _,?_⟩
  unfold Builtin.«dict.__init__»
  refine wpAny_bind ?_;unfold Builtin.Dict.selfAndRest
  refine wpAny_bind (wpAny_notOrdered_dict ⟨_,hD1,rfl⟩ ?_);show wpAny _ _ (pure (s.heap.objs.size,[Value.ref L])) _ _ _
  refine wpAny_pure ?_
  show wpAny _ _ (Builtin.Dict.updateFrom "dict.__init__" s.heap.objs.size (.ref L) [] .none) _ _ _
  unfold Builtin.Dict.updateFrom
  refine wpAny_bind (wpAny_typeOf (T := "list") ⟨_,e1,rfl⟩ ?_)
  rw [if_pos (by decide)]
  refine wpAny_bind (PySem.Rv.no_keys e1 hh fun h' tk kp => ?_)
  simp only [Option.isNone_none,if_true]
  have I2:=I1.kept (t' := tk) kp
  refine wpAny_bind (wpAny_rule ?_)
  have e2:=kp _ _ e1
  refine wpAny_bind (wpAny_pyIter_list (l:=L) (items:=its.toArray) ⟨_,e2,rfl,n,rfl⟩ ?_)
  have hsz:s.heap.objs.size<h'.objs.size:=Heap.lt_size (kp _ _ hD1)
  have I3:Inv X pins σ (upd H s.heap.objs.size (.dT [])) { s with heap:=h'.push { cls := .type "list_iterator",data := .fields #[.ref L,.int 0 0] },toks:=tk }:=I2.kept (t' := tk) fun _ _ e=>Heap.get?_push_of_some _ e
  refine wpAny_pure ⟨plainId_quiet PySem.Rv.plain_upd _,?_⟩
  refine z4u (A:=X.A.in1) (X:=X) (pins:=pins) (σ:=σ) (as:=as) (rows:=rows) hh (by show X.A.units+1+3<cLine;lia) (TX.small' (by lia)) rows.length 0 _ _ (by lia) (Nat.zero_le _) I3 hL1 hp1 q0b ⟨_,Heap.get?_push_size _ rfl,rfl,rfl⟩ ?_ fun H' s' J j1 j2 => ?_
  · exact I2.fpOk (Nat.le_refl _) (by rw [q0c (Nat.ne_of_gt hsz)];exact I.hok.fresh (Nat.le_of_lt hsz))
  · have eH:H' = upd H s.heap.objs.size (.dT (rows.foldl putR [])):=by
      funext b
      by_cases hb:b=s.heap.objs.size
      · rw [hb,j1,q0b]
      · rw [j2 b hb,q0c hb,q0c hb]
    rw [eH] at J
    exact⟨rfl,.ref s.heap.objs.size,_,J,rfl,q _ hDf⟩
end L2
namespace L2
open PySem PySem.Spec PyProof.Rows
structure Mf (K:PySem.W.Frag) (C:Addr) (m qual:Str) (st:Stmt) (ps:List Str):Prop where
  ex:∃ f fd,Fun K m qual st f fd∧Meth K C m f∧Binds K fd ps []
structure MCal (P:Program) (w:World) (K:PySem.W.Frag) (mg:Str→Option Value) (base:Heap) (C:Addr) (m:Str) (k:Nat) (ps:List Str) (sp:Sp):Prop where
  ex:∃ f fd,FnOk P w K mg base CX0 k f fd ps sp∧Meth K C m f∧Binds K fd ps []
  cl:Cls K C
theorem Mf.cal {P:Program} {w:World} {K:PySem.W.Frag} {mg:Str→Option Value} {base:Heap} {C:Addr} {m qual:Str} {st:Stmt} {N ps:List Str} {k:Nat} {sp:Sp} (D:Mf K C m qual st ps) (cl:Cls K C) (S:FnScope N ps (defScope st)) (len:∀ vs H Q E,sp vs H Q E→vs.length=ps.length)
    (hbody:∀ (f:Addr) (cdv:Value) (A:Around) (outer:List Env) (s:Shared) (H:Hp) (vs:List V) (Q:VK) (E:XK),Room k (A.deeper (envOfC qual (defScope st) s.heap.objs.size f cdv))→sp vs H Q E →
      ∃ t,PSs (cxOf CX0 P w K mg base N qual (defScope st) f cdv A outer s H E).nox (defBody st) t∧t { nx:=fun _ H' => Q .non H',rt:=Q } (start N vs) H):MCal P w K mg base C m (k+1) ps sp:=by
  obtain⟨f,fd,F,hm,hb⟩:=D.ex
  exact⟨⟨f,fd,F.ok S len fun cdv A outer s H vs Q E hr h=>hbody f cdv A outer s H vs Q E hr h,hm,hb⟩,cl⟩
theorem MCal.imp {P:Program} {w:World} {K:PySem.W.Frag} {mg:Str→Option Value} {base:Heap} {C:Addr} {m:Str} {k:Nat} {ps:List Str} {sp sp' : Sp} (M:MCal P w K mg base C m k ps sp) (h:∀ vs H Q E,sp' vs H Q E→sp vs H Q E):MCal P w K mg base C m k ps sp' := by
  obtain⟨f,fd,F,r⟩:=M.ex
  exact⟨⟨f,fd,F.imp h,r⟩,M.cl⟩
section
variable {X:Cx} {C:Addr} {x m:Str} {k j:Nat} {ps:List Str} {sp:Sp} {p pos apos:Pos} {o e:Expr} {es:List Expr} {ta:TE} {t:TA}
theorem pe_m {pl:Sem Bool} (M:MCal X.prog X.w X.K X.mg X.base C m k ps sp) (hr:Room j X.A) (he:PE X o ta) (ha:PA X (e::es) t) (hjk:k≤j:=by decide)
    (hst:starEach (e::es) X.env=(false,eval e X.env)::starEach es X.env:=by rfl) (hpl:(backTo pos (starEach es X.env)).any (·.1)=false:=by rfl)
    (ht:eval (.Call (.Attribute o m apos) (e::es) [] pos) X.env=(do
      let ov ← eval o X.env
      standAt apos.atName
      let (f,first) ← holding [ov] (getMethod ov m pl)
      callWith pos f first (backTo pos (starEach (e::es) X.env)) (backToKw pos (keywordEach [] X.env))):=by rfl):PE X (.Call (.Attribute o m apos) (e::es) [] pos) (tMeth C m sp [] E0 ta t):=by
  obtain⟨f,fd,F,hm,hb⟩:=M.ex
  exact z9b he M.cl hm F (hr.mono hjk) hb .nil pass0 ha hst hpl ht
theorem pe_m0 {pl:Sem Bool} (M:MCal X.prog X.w X.K X.mg X.base C m k ps sp) (hr:Room j X.A) (he:PE X o ta) (hjk:k≤j:=by decide)
    (ht:eval (.Call (.Attribute o m apos) [] [] pos) X.env=(do
      let ov ← eval o X.env
      standAt apos.atName
      let (f,first) ← holding [ov] (getMethod ov m pl)
      callWith pos f first (backTo pos (starEach [] X.env)) (backToKw pos (keywordEach [] X.env))):=by rfl):PE X (.Call (.Attribute o m apos) [] [] pos) (tMeth C m sp [] E0 ta tNil):=by
  obtain⟨f,fd,F,hm,hb⟩:=M.ex
  exact z6q he M.cl hm F (hr.mono hjk) hb .nil pass0 ht
end
structure Kf (K:PySem.W.Frag) (mg:Str→Option Value) (C:Addr) (x qual:Str) (st:Stmt) (ps:List Str):Prop where
  ex:∃ (f:Addr) (fd:FuncData) (oc:Value) (od:Option Addr) (dV kV doc pm:Value) (an:Option Addr) (cdv ct:Value) (osl:Array (Option Value)),fd=PySem.W.fnOf "__init__" qual (defArgs st) (defBody st) (defScope st) dV kV doc pm an cdv ct ∧
    K.lookup f=some ⟨oc,od,.func fd,osl⟩∧PySem.W.codeIn K cdv qual=true∧Mk K C f∧Binds K fd ps []∧Binds K fd ps [.bool false]
  at_:mg x=some (.ref C)
  cl:Cls K C
structure KCal (P:Program) (w:World) (K:PySem.W.Frag) (mg:Str→Option Value) (base:Heap) (C:Addr) (x:Str) (k:Nat) (ps:List Str) (sp:Sp):Prop where
  ex:∃ f fd,FnOk P w K mg base CX0 k f fd ps sp∧Mk K C f∧Binds K fd ps []∧Binds K fd ps [.bool false]
  at_:mg x=some (.ref C)
  cl:Cls K C
theorem Kf.cal {P:Program} {w:World} {K:PySem.W.Frag} {mg:Str→Option Value} {base:Heap} {C:Addr} {x qual:Str} {st:Stmt} {N ps:List Str} {k:Nat} {sp:Sp} (D:Kf K mg C x qual st ps) (S:FnScope N ps (defScope st)) (len:∀ vs H Q E,sp vs H Q E→vs.length=ps.length)
    (hbody:∀ (f:Addr) (cdv:Value) (A:Around) (outer:List Env) (s:Shared) (H:Hp) (vs:List V) (Q:VK) (E:XK),Room k (A.deeper (envOfC qual (defScope st) s.heap.objs.size f cdv))→sp vs H Q E →
      ∃ t,PSs (cxOf CX0 P w K mg base N qual (defScope st) f cdv A outer s H E).nox (defBody st) t∧t { nx:=fun _ H' => Q .non H',rt:=Q } (start N vs) H):KCal P w K mg base C x (k+1) ps sp:=by
  obtain⟨f,fd,oc,od,dV,kV,doc,pm,an,cdv,ct,osl,rfl,lk,hcd,M,b1,b2⟩:=D.ex
  refine⟨⟨f,_,z9d lk hcd S len fun A outer s H vs Q E hr hsp => ?_,M,b1,b2⟩,D.at_,D.cl⟩
  obtain⟨t,h,q⟩:=hbody f cdv A outer s H vs Q E hr hsp
  exact⟨t,h.nox,q⟩
section
variable {X:Cx} {C:Addr} {x:Str} {k j:Nat} {ps:List Str} {sp:Sp} {p pos:Pos} {e:Expr} {es:List Expr} {t:TA}
theorem pe_k (M:KCal X.prog X.w X.K X.mg X.base C x k ps sp) (hr:Room j X.A) (ha:PA X (e::es) t) (hjk:k+1≤j:=by decide) (hg:Gl X x:=by rfl) (hdb:(x==("__debug__" : Str))=false:=by decide)
    (he:starEach (e::es) X.env=(false,eval e X.env)::starEach es X.env:=by rfl) (hpl:(backTo pos (starEach es X.env)).any (·.1)=false:=by rfl):PE X (.Call (.Name x p) (e::es) [] pos) (tMake C sp [] E0 t):=by
  obtain⟨f,fd,F,m,b1,_⟩:=M.ex
  exact z9c m F (hr.mono hjk) hg M.at_ b1 .nil pass0 ha hdb he hpl
end
theorem z4v {K:PySem.W.Frag} {a:Addr} {xs:List V} {g:TG} {tb:TS} {D:Ends} {σ:St} {H:Hp} (Pv:Nat→St→Hp→Prop) (h0:Pv 0 σ H) (hl:∀ i σ H,Pv i σ H→SqL K H a xs)
    (hs:∀ i x T σ H,xs[i]? = some x→Pv i σ H→H T=none→g (.ref T) σ (upd H T (.tup [.int i,x])) fun σ2 H2=>tb { D with nx:=Pv (i+1),ct:=Pv (i+1),bk:=D.nx } σ2 H2) (hd:∀ σ H,Pv xs.length σ H→D.nx σ H) :
    ∃ W:Nat→Nat→St→Hp→Prop,(∃ m,W 0 m σ H)∧∀ i m σ H,W i m σ H →
      ((Ite (Itl K a)).stop i H∧D.nx σ H)∨((Ite (Itl K a)).go i H∧∃ N:St→Hp→Prop,(∀ σ' H',N σ' H' → ∃ m',m' < m∧W (i+1) m' σ' H')∧∀ v H',(Ite (Itl K a)).yld i H v H' → g v σ H' fun σ2 H2=>tb { D with nx:=N,ct:=N,bk:=D.nx } σ2 H2):=by
  refine z8n (n:=xs.length) Pv h0 (fun i σ H h p=>⟨xs,xs[i],hl i σ H p,by simp [h]⟩) (fun σ H p=>⟨xs,hl _ σ H p,Nat.le_refl _⟩) (fun i v σ H H' h p yl => ?_) hd
  obtain⟨T,y,hT,⟨_,hy⟩,rfl,rfl⟩:=yl
  exact hs i y T σ H (hy xs (hl i σ H p)) p hT
end L2
namespace L2
open PySem PySem.Spec PyProof.Rows
def rCatP:R2:=fun x y H Q=>∃ a b xs ys,x = .ref a∧y = .ref b∧H a=some (.tup xs)∧H b=some (.tup ys)∧xs.length+ys.length≤sizeLine∧∀ p H',Same H H' → H' p=some (.tup (xs++ys))→(∀ c,c≠p→H' c=H c)→Q (.ref p) H'
theorem q2i {X:Cx}:OpR X (binaryOp .Add) rCatP:=by
  intro pins s σ H x y v u Q I rx ry h
  obtain⟨a,b,xs,ys,rfl,rfl,ha,hb,hz,q⟩:=h
  cases rx
  cases ry
  obtain⟨za,its,r1,p1⟩:=I.hok a _ ha
  obtain⟨zb,its2,r2,p2⟩:=I.hok b _ hb
  by_cases hx:its = []
  · have hx' : xs = []:=r1.nil_iff.mp hx
    obtain⟨⟨cls,dd,data,sl⟩,ho,hc,n,hd⟩:=id p1
    obtain⟨⟨cls2,dd2,data2,sl2⟩,ho2,hc2,n2,hd2⟩:=id p2
    simp only at hc hd hc2 hd2
    subst hc hd hc2 hd2
    refine concat_meets ⟨_,ho,rfl⟩ ⟨_,ho2,rfl⟩ noFill_tuple_add seq_tuple_add PySem.F.slot_tuple_add PySem.F.entry_tuple_add (PySem.F.args_tuple_add_2 _ _) (tuple_addW0 a b its.toArray its2.toArray n n2 dd dd2 sl sl2 (by simp [hx])) ⟨ho,ho2,?_⟩
    exact⟨.ref b,H,I,rfl,q b H (Same.refl H) (by rw [hx',List.nil_append];exact hb) fun _ _=>rfl⟩
  · refine HT.cat_tup p1 p2 hx (fun z => ?_) (fun z => ?_) (by rw [← r1.length,← r2.length];exact hz)
    · have hy:ys = []:=r2.nil_iff.mp z
      exact⟨.ref a,H,I,rfl,q a H (Same.refl H) (by rw [hy,List.append_nil];exact ha) fun _ _=>rfl⟩
    · refine⟨.ref s.heap.objs.size,_,I.laid (t' := s.toks) (o := .tup (xs++ys)) (fun b ob q=>Heap.get?_push_of_some _ q) (Nat.le_refl _) ?_,rfl,q _ _ ((Same.refl H).new I.fresh) q0b fun c hc=>q0c hc⟩
      exact⟨by rw [List.length_append];exact hz,_,r1.append r2,IsTup.new _ _⟩
theorem q5f {X:Cx} {e:Expr} {f:Str} {pos:Pos} {ta:TE} (K:PySem.W.Frag) (hK:X.K=K) (he:PE X e ta) (hb:attributeBase e f X.env (eval e X.env)=eval e X.env:=by rfl):PE X (.Attribute e f pos) (tFld K ta f):=by subst hK;exact pe_fld he hb
theorem z8s {X:Cx} {o value:Expr} {f:Str} {pos pos' : Pos} {ta tv:TE} (K:PySem.W.Frag) (hK:X.K=K) (ha:PE X o ta) (hv:PE X value tv) (hs:swapsWith value (some (.Attribute o f pos')) pos.line X.env=pure false:=by rfl):PS X (.Assign [.Attribute o f pos'] value pos) (sFld K ta tv f):=by subst hK;exact ps_fld ha hv hs
end L2
namespace HM
open PySem PySem.Spec PyProof.Rows L2 TX SB
def NSs:Str:=Str.ofString "abcdefghijklmnopqrstuvwxyzABCDEFGHIJKLMNOPQRSTUVWXYZ0123456789-_."
abbrev NS:List Nat:=tl NSs
theorem ns_low:∀ c∈NS,c<128:=by decide +kernel
structure okN (n:List Nat):Prop where
  one:1≤n.length
  few:n.length≤12
  all:∀ c∈n,c∈NS
theorem okN.low {n:List Nat} (h:okN n):∀ c∈n,c<128:=fun c hc=>ns_low c (h.all c hc)
structure okP (p:Pth):Prop where
  ne:p ≠ []
  few:p.length≤6
  all:∀ n∈p,okN n
theorem okP.low {p:Pth} (h:okP p):Low p:=fun n hn=>(h.all n hn).low
abbrev Rw:=Pth×Option Int
def mV:Option Int→V
  | none => .non
  | some i => .int i
def rR (r:Rw):HRow:=(r.1,mV r.2)
theorem mV_inj {a b:Option Int} (h:mV a=mV b):a=b:=by
  cases a with
  | none=>cases b with
    | none=>rfl
    | some j=>cases h
  | some i=>cases b with
    | none=>cases h
    | some j=>cases h;rfl
theorem mV_none {a:Option Int}:mV a = .non↔a=none:=⟨fun h=>mV_inj (b:=none) h,fun h=>by rw [h];rfl⟩
def lowN (n:List Nat):List Nat:=n.map lo1
def fold (bl:Bool) (p:Pth):Pth:=if bl then p.dropLast ++ [lowN (p.getLastD [])] else p
theorem z8t (p:Pth):fold false p=p:=rfl
theorem z0w (p:Pth):fold true p=p.dropLast ++ [lowN (p.getLastD [])]:=rfl
theorem z0g {p:Pth} (h:p ≠ []):p=p.dropLast ++ [p.getLastD []]:=by
  have e:=List.dropLast_concat_getLast h
  have e2:p.getLastD []=p.getLast h:=by rw [List.getLastD_eq_getLast?,List.getLast?_eq_some_getLast h];rfl
  rw [e2];exact e.symm
theorem z9s {bl:Bool} {p q:Pth} (hp:p ≠ []) (hq:q ≠ []):fold bl p=fold bl q↔p.dropLast=q.dropLast∧(if bl then lowN (p.getLastD [])=lowN (q.getLastD []) else p.getLastD []=q.getLastD []):=by
  cases bl with
  | true =>
    rw [z0w,z0w]
    constructor
    · intro h
      obtain⟨h1,h2⟩:=List.append_inj' h rfl
      exact⟨h1,by simpa using h2⟩
    · rintro ⟨h1,h2⟩
      rw [h1]
      have:lowN (p.getLastD [])=lowN (q.getLastD []):=by simpa using h2
      rw [this]
  | false =>
    rw [z8t,z8t]
    constructor
    · intro h;rw [h];exact⟨rfl,by simp⟩
    · rintro ⟨h1,h2⟩
      have h2:p.getLastD []=q.getLastD []:=by simpa using h2
      rw [z0g hp,z0g hq,h1,h2]
structure Hl (bl:Bool) (rows:List Rw):Prop where
  ok:∀ r∈rows,okP r.1
  nd:(rows.map fun r=>fold bl r.1).Nodup
  dr:∀ r∈rows,r.1.dropLast = []∨(r.1.dropLast,none)∈rows
theorem Hl.perm {bl:Bool} {rows rows' : List Rw} (h:Hl bl rows) (p:rows'.Perm rows):Hl bl rows' :=
  ⟨fun r hr=>h.ok r (p.mem_iff.mp hr),(p.map _).nodup_iff.mpr h.nd,fun r hr=>(h.dr r (p.mem_iff.mp hr)).imp id fun z=>p.mem_iff.mpr z⟩
theorem Hl.nil (bl:Bool):Hl bl []:=⟨(fun _ h=>nomatch h),.nil,(fun _ h=>nomatch h)⟩
theorem q3b {α β:Type} {f:α→β}:∀ {l:List α},(l.map f).Nodup→l.Nodup
  | [],_ => .nil
  | a::l,h=>by
    rw [List.map_cons,List.nodup_cons] at h
    exact List.nodup_cons.mpr ⟨fun z=>h.1 (List.mem_map.mpr ⟨a,z,rfl⟩),q3b h.2⟩
theorem Hl.paths {bl:Bool} {rows:List Rw} (h:Hl bl rows):(rows.map (·.1)).Nodup:=by
  have e:rows.map (fun r=>fold bl r.1)=(rows.map (·.1)).map (fold bl):=by rw [List.map_map];rfl
  have:=h.nd
  rw [e] at this
  exact q3b this
abbrev Zr:=Addr×Rw
structure RL (H:Hp) (L:Addr) (zs:List Zr):Prop where
  at_:H L=some (.lst (zs.map fun z=>V.ref z.1))
  pr:∀ z∈zs,PR H z.1 (rR z.2)
theorem PR.same {H H' : Hp} {a:Addr} {r:HRow} (h:PR H a r) (k:∀ T xs,H T=some (.tup xs)→H' T=some (.tup xs)):PR H' a r:=let ⟨b,h1,h2⟩:=h;⟨b,k _ _ h1,k _ _ h2⟩
theorem RL.same {H H' : Hp} {L:Addr} {zs:List Zr} (h:RL H L zs) (s:Same H H'):RL H' L zs:=⟨s _ _ h.at_,fun z hz=>PR.same (h.pr z hz) fun T xs e=>s _ _ e⟩
theorem tupFd {a b:Addr} {H H' : Hp} (F:FeedAt H a b) (fd:Fd a b H H'):∀ T xs,H T=some (.tup xs)→H' T=some (.tup xs):=fun T xs e=>fd.at e fun z=>by
  subst z
  obtain⟨i,j,q⟩:=F.fa
  rw [q] at e;cases e
theorem RL.fd {a b L:Addr} {H H' : Hp} {zs:List Zr} (h:RL H L zs) (F:FeedAt H a b) (fd:Fd a b H H') (hL:L≠a):RL H' L zs:=⟨fd.at h.at_ hL,fun z hz=>PR.same (h.pr z hz) (tupFd F fd)⟩
theorem prs_zs {H:Hp} {zs:List Zr} (h:∀ z∈zs,PR H z.1 (rR z.2)):PRs H (zs.map (·.1)) (zs.map fun z=>rR z.2):=z4s h
theorem zs_of {H:Hp}:∀ {as:List Addr} {rs:List HRow} {rows:List Rw},PRs H as rs→rs=rows.map rR→∃ zs:List Zr,zs.map (·.1)=as∧zs.map (·.2)=rows∧∀ z∈zs,PR H z.1 (rR z.2)
  | _,_,[],.nil,_=>⟨[],rfl,rfl,(fun _ h=>nomatch h)⟩
  | _,_,_::_,.nil,e=>by cases e
  | _,_,[],.cons _ _,e=>by cases e
  | a::as,_,r::rows,.cons h t,e=>by
    rw [List.map_cons] at e
    injection e with e1 e2
    obtain⟨zs,z1,z2,z3⟩:=zs_of t e2
    refine⟨(a,r)::zs,by rw [List.map_cons,z1],by rw [List.map_cons,z2],fun z hz => ?_⟩
    rcases List.mem_cons.mp hz with rfl | hz
    · rw [← e1];exact h
    · exact z3 z hz
theorem q6g:∀ {l m:List Pth},l.Perm m→l.Nodup→l.Pairwise (fun a b=>pLt b a=false)→m.Pairwise (fun a b=>pLt b a=false)→l=m
  | [],m,p,_,_,_=>(List.perm_nil.mp p.symm).symm
  | a::l,[],p,_,_,_=>absurd (p.length_eq) (by simp)
  | a::l,b::m,p,nd,h1,h2=>by
    obtain⟨n1,n2⟩:=List.nodup_cons.mp nd
    obtain⟨a1,a2⟩:=List.pairwise_cons.mp h1
    obtain⟨b1,b2⟩:=List.pairwise_cons.mp h2
    have e:a=b:=by
      have ha:a∈b::m:=p.mem_iff.mp List.mem_cons_self
      have hb:b∈a::l:=p.mem_iff.mpr List.mem_cons_self
      rcases List.mem_cons.mp ha with e | ha
      · exact e
      · rcases List.mem_cons.mp hb with e | hb
        · exact e.symm
        · exact z0c (b1 a ha) (a1 b hb)
    subst e
    rw [q6g ((List.perm_cons a).mp p) n2 a2 b2]
end HM
namespace HM
open PySem PySem.Spec PyProof.Rows L2 TX SB
def dMk:Option Int→PyData
  | none => .none
  | some i => .int i
def dRw (r:Rw):PyData := .tuple [.tuple (dP r.1),dMk r.2]
theorem z9t {K:PySem.W.Frag} {H:Hp} (m:Option Int):Dt K H (mV m) (dMk m):=by
  cases m with
  | none=>exact .non
  | some i=>exact .int i
theorem q7x {K:PySem.W.Frag} {H:Hp}:∀ p:Pth,Dts K H (vP p) (dP p)
  | [] => .nil
  | n::p => .cons (.str _) (q7x p)
theorem q3c {K:PySem.W.Frag} {H:Hp} {a:Addr} {p:Pth} (h:H a=some (.tup (vP p))):Dt K H (.ref a) (.tuple (dP p)) := .tup (SqT.of h) (q7x p)
theorem dt_row {K:PySem.W.Frag} {H:Hp} {a:Addr} {r:Rw} (h:PR H a (rR r)):Dt K H (.ref a) (dRw r):=by
  obtain⟨b,h1,h2⟩:=h
  exact .tup (SqT.of h1) (.cons (q3c h2) (.cons (z9t _) .nil))
theorem z0x {K:PySem.W.Frag} {H:Hp}:∀ {zs:List Zr},(∀ z∈zs,PR H z.1 (rR z.2))→Dts K H (zs.map fun z=>V.ref z.1) (zs.map fun z=>dRw z.2)
  | [],_ => .nil
  | z::zs,h => .cons (dt_row (h z List.mem_cons_self)) (z0x fun x hx=>h x (List.mem_cons_of_mem _ hx))
theorem RL.dt {K:PySem.W.Frag} {H:Hp} {L:Addr} {zs:List Zr} (h:RL H L zs):Dt K H (.ref L) (.list (zs.map fun z=>dRw z.2)) := .lst (SqL.of h.at_) (z0x h.pr)
theorem z9u (m:Option Int):(dMk m).canLay0=true:=by cases m <;> simp [dMk,PyData.canLay0]
theorem q3s {p:Pth} (h:Low p):(PyData.tuple (dP p)).canLay0=true:=by simp only [PySem.PyData.canLay0,q7b h]
theorem z9v {r:Rw} (h:Low r.1):(dRw r).canLay0=true:=by
  have:=q3s h
  simp only [dRw,PyData.canLay0,PyData.canLayAll0] at this ⊢
  rw [this,z9u];rfl
theorem z0y:∀ {rows:List Rw},(∀ r∈rows,Low r.1)→PyData.canLayAll0 (rows.map dRw)=true
  | [],_=>by simp [PyData.canLayAll0]
  | r::rows,h=>by
    simp only [List.map_cons,PyData.canLayAll0]
    rw [z9v (h r List.mem_cons_self),z0y fun x hx=>h x (List.mem_cons_of_mem _ hx)];rfl
theorem z0z {rows:List Rw} (h:∀ r∈rows,Low r.1):(PyData.list (rows.map dRw)).canLay0=true:=by simp only [PyData.canLay0];exact z0y h
theorem z4w (m:Option Int):(dMk m).depth≤1:=by cases m <;> simp [dMk,PyData.depth]
theorem q4e (p:Pth):(PyData.tuple (dP p)).depth≤2:=by
  have h1:(PyData.tuple (dP p)).depth=PySem.PyData.depthAll (dP p)+1:=by simp only [PySem.PyData.depth]
  have:=q4d p
  lia
theorem z4x (r:Rw):(dRw r).depth≤3:=by
  have h1:=q4e r.1
  have h2:=z4w r.2
  have e:(dRw r).depth=max (PyData.tuple (dP r.1)).depth (max (dMk r.2).depth 0)+1:=by simp only [dRw,PyData.depth,PyData.depthAll]
  lia
theorem q7d:∀ rows:List Rw,PyData.depthAll (rows.map dRw)≤3
  | []=>by simp [PyData.depthAll]
  | r::rows=>by
    have h1:=z4x r
    have h2:=q7d rows
    simp only [List.map_cons,PyData.depthAll]
    lia
theorem z1a (rows:List Rw):(PyData.list (rows.map dRw)).depth≤100:=by
  have:=q7d rows
  simp only [PyData.depth];lia
theorem q6h (p q:Pth):PyData.eqv (.tuple (dP p)) (.tuple (dP q))=decide (p=q):=by simp only [PyData.eqv,q6e]
theorem eqv_no (rows:List Rw):PyData.eqv (.list (rows.map dRw)) (.list [])=decide (rows = []):=by
  cases rows with
  | nil=>simp [PyData.eqv,PyData.eqvAll]
  | cons p r=>simp [PyData.eqv,PyData.eqvAll]
theorem q4f (zs:List Zr):zs.map (fun z=>dRw z.2)=(zs.map (·.2)).map dRw:=by rw [List.map_map];rfl
theorem q7y {K:PySem.W.Frag} {H:Hp} {a b:Addr} {p q:Pth} {Q:VK} (ha:H a=some (.tup (vP p))) (hb:H b=some (.tup (vP q))) (lp:Low p) (lq:Low q) (k:Q (.bl (!decide (p=q))) H):rNeU K (.ref a) (.ref b) H Q:=by
  refine .inr ⟨_,_,q3c ha,q3c hb,q3s lp,q3s lq,by have:=q4e p;lia,?_⟩
  rw [q6h];exact k
theorem z9w {K:PySem.W.Frag} {H:Hp} {a b:Addr} {zs zs' : List Zr} {Q:VK} (ha:RL H a zs) (hb:RL H b zs') (e:zs.map (·.2)=zs'.map (·.2)) (l:∀ r∈zs.map (·.2),Low r.1) (k:Q (.bl false) H):rNeU K (.ref a) (.ref b) H Q:=by
  refine .inr ⟨_,_,ha.dt,hb.dt,?_,?_,?_,?_⟩
  · rw [q4f];exact z0z l
  · rw [q4f,← e];exact z0z l
  · rw [q4f,q4f];have:=z1a (zs.map (·.2));lia
  · rw [q4f,q4f,← e,SeqAt.eqv_refl _ (z0z l)];exact k
theorem ne_no {K:PySem.W.Frag} {H:Hp} {a b:Addr} {zs:List Zr} {Q:VK} (ha:RL H a zs) (hb:H b=some (.lst [])) (l:∀ r∈zs.map (·.2),Low r.1) (k:Q (.bl (!decide (zs = []))) H):rNeU K (.ref a) (.ref b) H Q:=by
  refine .inr ⟨_,_,ha.dt,.lst (SqL.of hb) .nil,?_,by simp [PyData.canLay0,PyData.canLayAll0],?_,?_⟩
  · rw [q4f];exact z0z l
  · rw [q4f];have:=z1a (zs.map (·.2));lia
  · rw [q4f,eqv_no]
    have:decide (zs.map (·.2) = [])=decide (zs = []):=decide_eq_decide.mpr List.map_eq_nil_iff
    rw [this];exact k
end HM
namespace L2
open PySem PySem.Spec PyProof.Rows SB
theorem ers_map {α β:Type} (f:α→β):∀ (l:List α) (k:Nat),(l.map f).eraseIdx k=(l.eraseIdx k).map f
  | [],_=>rfl
  | _::_,0=>rfl
  | a::l,k+1=>by show f a::(l.map f).eraseIdx k=f a::(l.eraseIdx k).map f;rw [ers_map f l k]
section
variable {X:Cx} {tg l:Expr} {tl:TE}
end
def tThawV (h₀:Hp) (t:TE):TE:=fun σ H Q=>∃ d,(∀ o v,h₀ d≠some (.frz o v))∧t σ H fun x H' => ∃ ob u,H' d=some (.frz ob u)∧Q x (upd H' d u)
theorem z4y {X:Cx} {e:Expr} {t:TE} (h₀:Hp) (hH:X.H₀=h₀) (h:PE X e t):PE X e (tThawV h₀ t):=by
  subst hH
  intro pins s σ H Q I q
  obtain⟨d,hd,q⟩:=q
  exact thn (h pins s σ H _ I q) fun v s1 ⟨x,H1,I1,r1,ob,u,e1,q1⟩=>⟨x,_,I1.thaw e1 hd,r1,q1⟩
section
variable {prog:Program} {w:World} {K:Type} [DecidableEq K] {knd:HeapKind prog w K} {A:Around} {E:Value→Shared→Prop} {s:Shared}
theorem q2f {d a:Addr} {xs:List (K×Addr×Value)} {k:K} {Q:Option DictEntry→Shared→Prop} (hu:knd.room A) (hkey:knd.is s.heap k a) (hm:s.heap.DictOfH knd d xs)
    (hin:∃ (j:Nat) (p:Addr×Value),xs[j]? = some (k,p))
    (hQ:∀ (j:Nat) (p:Addr×Value),xs[j]? = some (k,p)→∀ h',h'.DictOfH knd d (xs.eraseIdx j)→Heap.SameBut d s.heap h' → Q (some (entryOfKey knd (k,p))) { s with heap:=h',toks:=s.toks+knd.draws k })
    (hsz:xs.length≤sizeLine:=by size_fits):wpAny (model prog w) A (Builtin.Dict.takeOut d (.ref a)) Q E s:=by
  obtain⟨o,es,ep,ho,hc,hd,he,his,hn⟩:=hm
  unfold Builtin.Dict.takeOut
  try with_reducible refine wpAny_holding ?_
  refine wpAny_bind (knd.pyHash hu hkey ?_)
  refine wpAny_bind (wpAny_dictFind_heap (s := { s with toks:=s.toks+knd.draws k }) hu hkey ho hd he his hn ?_ ?_)
  · intro hno
    obtain⟨j,p,hj⟩:=hin
    exact absurd hj (hno j p)
  · intro j p hj
    refine wpAny_bind (wpAny_dictEntries (s := { s with toks:=s.toks+knd.draws k }) ho hd ?_)
    rw [entry_at he j,hj]
    refine wpAny_bind (wpAny_updateDictKeys (hz:=by have e:=size_of_entries he;lia) (s := { s with toks:=s.toks+knd.draws k }) ho hd (wpAny_pure (hQ j p hj _ ⟨_,_,ep+1,Heap.get?_update_self _ ho (Obj.isFreed_of_dict (Obj.data_mapDictKeys hd _)),
      hc.mapDictKeys _,Obj.data_mapDictKeys hd _,?_,?_,?_⟩ (Heap.SameBut.update ..))))
    · have:(es.eraseIdxIfInBounds j).toList=es.toList.eraseIdx j:=by obtain⟨l⟩:=es;simp
      rw [this,he,ers_map]
    · intro x hx
      exact knd.keeps (his x (List.mem_of_mem_eraseIdx hx)) ho hd (Heap.SameBut.update ..)
    · rw [← ers_map];exact hn.sublist (List.eraseIdx_sublist _ _)
end
theorem Paired.ers {α β:Type} {F:α→β→Prop}:∀ {l:List α} {m:List β} (j:Nat),Paired F l m→Paired F (l.eraseIdx j) (m.eraseIdx j)
  | _,_,_,.nil => .nil
  | _,_,0,.cons _ t=>t
  | _,_,j+1,.cons h t => .cons h (Paired.ers j t)
def rPopT:V→List V→Hp→VK→Prop:=fun x vs H Q=>∃ d kvs b,∃ k:List Key,x = .ref d∧vs = [.ref b]∧H d=some (.dT kvs)∧H b=some (.tup (k.map kV))∧(∃ (j:Nat) (v:V),kvs[j]? = some (k,v)) ∧
  ∀ (j:Nat) (v:V),kvs[j]? = some (k,v)→Q v (upd H d (.dT (kvs.eraseIdx j)))
theorem z9x {X:Cx} {n:Nat} (hr:Room n X.A):MtR X "dict.pop" rPopT:=by
  intro pins s σ H x vs v us Q I rx rv h
  obtain⟨d,kvs,b,k,rfl,rfl,e,eb,hin,q⟩:=h
  cases rx
  obtain⟨u,rfl,ru⟩:=rv.one
  cases ru
  obtain⟨z,hd,xs,rel,dd⟩:=z3z I.hok e
  have hz:xs.length≤sizeLine:=by rw [← Paired.length rel];exact z
  have hu:=q3q hr
  obtain⟨o,es,ep,ho,hc,hdd,he,his,hn⟩:=id dd
  have hT:s.TypeIs (.ref d) "dict" := ⟨o,ho,hc.1⟩
  refine wpAny_call_entry F.slot_dict_pop hT F.entry_dict_pop ?_ (F.args_dict_pop_2 _ _)
  unfold Builtin.«dict.pop»
  refine wpAny_bind ?_
  unfold Builtin.Dict.keyAndDefault
  refine wpAny_bind (wpAny_notOrdered_dict hT ?_)
  show wpAny _ _ (pure (d,Value.ref b,none)) _ _ s
  refine wpAny_pure ?_
  have hin2:∃ (j:Nat) (p:Addr×Value),xs[j]? = some (k,p):=by
    obtain⟨j,v,hj⟩:=hin
    obtain⟨⟨k',p⟩,hp,e1,_⟩:=Paired.at' rel hj
    exact⟨j,p,by rw [hp,← show k=k' from e1]⟩
  have hne:es.isEmpty=false:=by
    obtain⟨j,p,hj⟩:=hin2
    have h1:=(List.getElem?_eq_some_iff.mp hj).1
    have h2:=size_of_entries he
    rw [Array.isEmpty_eq_false_iff]
    intro h0
    rw [h0] at h2
    simp at h2
    lia
  simp only [show (keyPart (Value.ref b)).isSome=false from rfl,Bool.false_eq_true,if_false]
  refine wpAny_bind (wpAny_dictEntries ho hdd (wpAny_bind (wpAny_pure ?_)))
  rw [hne]
  simp only [Bool.false_eq_true,if_false]
  refine wpAny_bind (q2f (hsz:=hz) (tupleKind_room_in1 hu) (q4a I.hok eb) dd hin2 fun j p hj h' dd' hs => ?_)
  simp only [Option.isNone_some,Bool.false_eq_true,if_false]
  refine wpAny_bind (wpAny_letGo (wpAny_pure ⟨_,rfl,?_⟩))
  obtain⟨⟨k',v⟩,hv⟩:∃ y,kvs[j]? = some y:=⟨kvs[j]'(by rw [Paired.length rel];exact (List.getElem?_eq_some_iff.mp hj).1),by simp [Paired.length rel,(List.getElem?_eq_some_iff.mp hj).1]⟩
  obtain⟨y,hy,e1,e2,e3⟩:=Paired.at' rel hv
  rw [hj] at hy
  cases hy
  replace e1:k' = k:=e1
  subst e1
  refine⟨v,_,?_,e3,q j v hv⟩
  obtain⟨qo,es2,ep2,hq,h2,h3,h4,_,h5⟩:=dd'
  refine q6a I (by rw [e];exact True.intro) hs ⟨qo,hq⟩ ⟨Nat.le_trans (List.length_eraseIdx_le _ _) z,hd,_,KT.keeps (Paired.ers j rel) fun c ys ec => ?_,qo,es2,ep2,hq,h2,h3,h4,h5⟩
  rw [q0c (z2r ec e (fun z=>nomatch z))]
  exact ec
end L2
namespace HM
open PySem PySem.Spec PyProof.Rows L2 TX SB
theorem Hl.one {bl:Bool} {rows:List Rw} (h:Hl bl rows) {p:Pth} {a b:Option Int} (h1:(p,a)∈rows) (h2:(p,b)∈rows):a=b:=by
  have:=q3g (f:=fun r:Rw=>r.1) h.paths h1 h2 rfl
  cases this;rfl
theorem Hl.nodup {bl:Bool} {rows:List Rw} (h:Hl bl rows):rows.Nodup:=q3b h.nd
theorem Hl.eq {bl:Bool} {rows:List Rw} (h:Hl bl rows) {r s:Rw} (hr:r∈rows) (hs:s∈rows) (e:fold bl r.1=fold bl s.1):r=s:=q3g (f:=fun r:Rw=>fold bl r.1) h.nd hr hs e
theorem Hl.eqP {bl:Bool} {rows:List Rw} (h:Hl bl rows) {r s:Rw} (hr:r∈rows) (hs:s∈rows) (e:r.1=s.1):r=s:=h.eq hr hs (by rw [e])
theorem ns_lo:∀ c∈NS,lo1 c∈NS:=by decide +kernel
theorem okN.lo {n:List Nat} (h:okN n):okN (lowN n):=⟨by unfold lowN;rw [List.length_map];exact h.one,by unfold lowN;rw [List.length_map];exact h.few,fun c hc=>by
  obtain⟨x,hx,rfl⟩:=List.mem_map.mp hc;exact ns_lo x (h.all x hx)⟩
theorem okP.snoc {q:Pth} {n:List Nat} (h:q = []∨okP q) (hl:q.length<6) (hn:okN n):okP (q ++ [n]):=by
  refine⟨by simp,by rw [List.length_append];show _+1≤6;lia,fun x hx => ?_⟩
  rcases List.mem_append.mp hx with hx | hx
  · rcases h with e | h
    · rw [e] at hx;cases hx
    · exact h.all x hx
  · rw [List.mem_singleton.mp hx];exact hn
theorem q4g {K:PySem.W.Frag} {H:Hp} {a b:Addr} {p q:Pth} {Q:VK} (ha:H a=some (.tup (vP p))) (hb:H b=some (.tup (vP q))) (lp:Low p) (lq:Low q) (k:Q (.bl (decide (p=q))) H):rEqU K (.ref a) (.ref b) H Q:=by
  refine .inr ⟨_,_,q3c ha,q3c hb,q3s lp,q3s lq,by have:=q4e p;lia,?_⟩
  rw [q6h];exact k
end HM
namespace HM
open PySem PySem.Spec PyProof.Rows L2 TX SB
def uppN (n:List Nat):List Nat:=n.map up1
theorem ns_up:∀ c∈NS,up1 c∈NS:=by decide +kernel
theorem okN.up {n:List Nat} (h:okN n):okN (uppN n):=⟨by unfold uppN;rw [List.length_map];exact h.one,by unfold uppN;rw [List.length_map];exact h.few,fun c hc=>by
  obtain⟨x,hx,rfl⟩:=List.mem_map.mp hc;exact ns_up x (h.all x hx)⟩
theorem z7m {n:List Nat} (h:∀ c∈n,c<128):PySem.Txt.upper (mk n)=mk (uppN n):=by
  rw [upper_ascii (by show ∀ c∈tl (mk n),c<128;rw [q2h];exact h)]
  apply ext
  rw [q2h]
  show (((mk n).cps.map up1).toList)=_
  rw [Array.toList_map]
  show (tl (mk n)).map up1=_
  rw [q2h];rfl
theorem q9g {H:Hp} {a b:Addr} {rs:List HRow} {p:Pth} (e:H a=some (dR rs)) (eb:H b=some (.tup (vP p))):DGet H a (.ref b) (valV (rs.map fun r=>(kP r.1,r.2)) (kP p)) :=
  .inr ⟨_,kP p,b,.inl e,rfl,by rw [q3a];exact eb,rfl⟩
end HM
namespace HT
open PySem PyProof.Rows
section
variable {prog:Program} {w:World} {A:Around} {E:Value→Shared→Prop} {s:Shared}
theorem getItem_tuple_whole {t sl:Addr} {items:Array Value} {vl vu:Value} {lo hi:Option Int} {Q:Value→Shared→Prop} (ht:IsTup s.heap t items) (hs:s.heap.IsSliceOf sl vl vu .none) (pl:IsPart vl lo) (pu:IsPart vu hi)
    (hw:sIx items.size 0 lo=0∧sIx items.size items.size hi=items.size) (h:Q (.ref t) s):wpAny (model prog w) A (getItem (.ref t) (.ref sl)) Q E s:=by
  obtain⟨os,hos,hcs,hds⟩:=id hs
  have hTs:s.TypeIs (.ref sl) "slice" := ⟨os,hos,hcs⟩
  unfold getItem
  try with_reducible refine wpAny_holding ?_
  first | refine wpAny_bind (wpAny_pure ?_) | skip
  refine wpAny_bind (wpAny_sequenceKey ht.typeIs (by decide) ?_)
  refine wpAny_bind (wpAny_callSpecial?_slot (name:=Str.ofString "__getitem__") ht.typeIs PyProof.Rows.slot_tuple_getitem
    (wpAny_call_entry PyProof.Rows.slot_tuple_getitem ht.typeIs entry_tuple_getitem ?_ (args_tuple_getitem _ _)))
  show wpAny _ _ (Builtin.Tuple.tupleItemsOf (.ref t) >>= _) _ _ s
  refine wpAny_bind (tupleItemsOf_ ht ?_)
  refine wpAny_bind (wpAny_typeOf hTs ?_)
  rw [if_pos (by decide)]
  refine wpAny_bind (q2u hs pl pu ?_)
  show wpAny _ _ (if (((sIx items.size 0 lo:Nat):Int)==0&&(1:Int)==1&&(sIx items.size items.size hi - sIx items.size 0 lo)==items.size)=true then _ else _) _ _ s
  rw [if_pos (by rw [hw.1,hw.2];simp)]
  unfold Builtin.Tuple.tupleIsExact
  refine wpAny_bind (wpAny_bind (wpAny_typeOf ht.typeIs (wpAny_pure ?_)))
  rw [if_pos (by decide)]
  exact wpAny_bind (wpAny_rule (wpAny_pure ⟨_,rfl,wpAny_pure h⟩))
end
end HT
namespace L2
open PySem PySem.Spec PyProof.Rows
def rSlP:V→Option Int→Option Int→Hp→VK→Prop:=fun x lo hi H Q=>∃ a xs,x = .ref a∧H a=some (.tup xs)∧∀ c H',Same H H' → H' c=some (.tup (cutV xs lo hi))→Q (.ref c) H'
theorem sl_P {X:Cx}:SlR X rSlP:=by
  intro pins s σ H x v vl vu lo hi sl Q I rx hs pl pu h
  obtain⟨a,xs,rfl,hx,q⟩:=h
  by_cases hw:HT.sIx xs.length 0 lo=0∧HT.sIx xs.length xs.length hi=xs.length
  · cases rx
    obtain⟨its,r,ht,hz⟩:=I.tuple (SqT.of hx)
    have hlen:its.toArray.size=xs.length:=by rw [List.size_toArray];exact r.length.symm
    refine⟨"tuple",_,PyProof.Rows.slot_tuple_getitem.lookup,ht.typeIs,?_⟩
    refine HT.getItem_tuple_whole ht hs pl pu (by rw [hlen];exact hw) ⟨.ref a,H,I,rfl,q a H (Same.refl H) ?_⟩
    unfold cutV
    rw [hw.1,hw.2,List.drop_zero,Nat.sub_zero,List.take_length];exact hx
  · exact z8l pins s σ H _ v vl vu lo hi sl Q I rx hs pl pu ⟨a,xs,rfl,SqT.of hx,hw,fun p hp=>q p _ ((Same.refl H).new hp) q0b⟩
end L2
namespace L2
open PySem PySem.Spec PyProof.Rows
theorem q5e:∀ (p:Str) (l:List Str),risingS p l=true→(p::l).Pairwise fun a b=>¬ (b.cps.toList<a.cps.toList)
  | p,[],_=>List.pairwise_singleton _ _
  | p,x::r,h=>by
    have h' : (!ltCps x.cps.toList p.cps.toList&&risingS x r)=true:=h
    rw [Bool.and_eq_true] at h'
    have h1:¬ (x.cps.toList<p.cps.toList):=by have:=h'.1;rw [ltCps_eq] at this;simpa using this
    have ih:=q5e x r h'.2
    refine List.pairwise_cons.mpr ⟨fun y hy => ?_,ih⟩
    rcases List.mem_cons.mp hy with rfl | hy
    · exact h1
    · have h2:=(List.pairwise_cons.mp ih).1 y hy
      exact fun z=>h1 (List.lt_of_le_of_lt (List.not_lt.mp h2) z)
theorem q9h:∀ (l:List Str),sortedS l=true→l.Pairwise fun a b=>¬ (b.cps.toList<a.cps.toList)
  | [],_ => .nil
  | x::r,h=>q5e x r h
def rSortS:List V→Hp→VK→Prop:=fun vs H Q=>∃ l,∃ ss:List Str,vs = [.ref l]∧H l=some (.lst (ss.map V.str))∧ss.length<64 ∧
  ∀ (L:Addr) (ss' : List Str),H L=none→ss'.Perm ss→ss'.Pairwise (fun a b=>¬ (b.cps.toList<a.cps.toList))→Q (.ref L) (upd H L (.lst (ss'.map V.str)))
theorem z4z:∀ {ss:List Str} {us:List Value},Vals (ss.map V.str) us→StrsAre us ss
  | [],_,.nil => .nil
  | s::ss,_,.cons r t=>by obtain⟨k,rfl⟩:=r;exact .cons s k (z4z t)
theorem z5a:∀ {ss:List Str} {us:List Value},StrsAre us ss→Vals (ss.map V.str) us
  | _,_,.nil => .nil
  | _,_,.cons _ _ t => .cons ⟨_,rfl⟩ (z5a t)
theorem z2k {X:Cx} {k:Nat} (hr:Room k X.A):CallR X (.builtin "sorted") rSortS:=by
  intro pins s σ H xs us Q I rv h
  obtain⟨l,ss,rfl,hl,few,q⟩:=h
  obtain⟨u,rfl,ru⟩:=rv.one
  cases ru
  obtain⟨its,rv2,hil⟩:=z0f I hl
  have hlen:its.length=ss.length:=by have:=rv2.length;rw [List.length_map] at this;exact this.symm
  refine PyProof.Rows.sorted_strs hil (z4z rv2) (by lia) fun out ss' h1 h2 h3 => ?_
  obtain⟨e,he⟩:=sortedAll_at s.heap its out
  have keep:∀ b o,s.heap.get? b=some o→(sortedAll s.heap its out).get? b=some o:=fun b o=>sortedAll_old
  have hfr:H (s.heap.objs.size+1)=none:=I.hok.fresh (Nat.le_succ _)
  exact⟨.ref (s.heap.objs.size+1),_,I.laid (t' := s.toks) (o := .lst (ss'.map V.str)) keep (Nat.le_succ _) ⟨by rw [List.length_map,h2.length_eq,sizeLine_eq];lia,_,e,z5a h1,he⟩,rfl,q _ ss' hfr h2 (q9h _ h3)⟩
end L2
namespace HM
open PySem PySem.Spec PyProof.Rows L2 TX SB
section
variable {bl:Bool} {rows:List Rw} {p q:Pth}
def nms (p:Pth) (rows:List Rw):List (List Nat):=(rows.filter fun r=>decide (r.1.dropLast=p)).map fun r=>r.1.getLastD []
end
end HM
namespace L2
open PySem PySem.Spec PyProof.Rows
end L2
namespace L2
open PySem PySem.Spec PyProof.Rows
section
variable {M:Model} {A:Around} {E:Value→Shared→Prop} {s:Shared}
def TbAt (h:Heap) (e:Addr) (vs:Array Value) (T:Addr) (fl:Value):Prop:=vs[1]? = some (.ref T)∧T≠e∧∃ oT ts,h.get? T=some oT∧oT.data = .fields ts∧ts[3]? = some fl
def TbOk (L:Addr) (h:Heap) (e:Addr) (vs:Array Value):Prop:=vs[1]? = some .none∨∃ T,TbAt h e vs T .none∨TbAt h e vs T (rawInt L)
structure LeftX (fr:List Addr) (e:Addr) (oe:Obj) (vs:Array Value) (fl:Value) (h h' : Heap):Prop where
  ex:∃ T,(h.objs.size≤T∨vs[1]? = some (.ref T))∧T≠e∧h'.get? e=some (oe.mapFields (·.setIfInBounds 1 (.ref T)))∧∃ oT ts,h'.get? T=some oT∧oT.data = .fields ts∧ts[3]? = some fl
  keep:∀ b o,h.get? b=some o→b≠e→vs[1]? ≠ some (.ref b)→b∉fr→h'.get? b=some o
  slot:∀ b o,h.get? b=some o→b∈fr→∃ sl,h'.get? b=some { o with slots:=sl }
theorem q9i {oe:Obj} {vs:Array Value} {x:Value} (hd:oe.data = .fields vs) (h1:vs[1]? = some x):oe.mapFields (·.setIfInBounds 1 x)=oe:=by
  obtain⟨c,d,dt,sl⟩:=oe
  cases hd
  have e:vs.setIfInBounds 1 x=vs:=by
    have hs:=(Array.getElem?_eq_some_iff.mp h1)
    obtain⟨hlt,hx⟩:=hs
    apply Array.ext
    · simp
    · intro i h2 h3
      rw [Array.getElem_setIfInBounds (by simpa using h3)]
      split
      · rename_i z;subst z;exact hx.symm
      · rfl
  show (⟨c,d,.fields (vs.setIfInBounds 1 x),sl⟩:Obj)=_
  rw [e]
theorem entryX {base:Heap} {env:Env} {outer:List Env} {L e:Addr} {oe:Obj} {vs:Array Value} {head:Value} {hadNext:Bool} {Q:Unit→Shared→Prop}
    (hfr:A.frames=some (env::outer)) (hl:s.heap.FunFrames base (env::outer)) (hf:env.frame=some L)
    (he:s.heap.get? e=some oe) (hd:oe.data = .fields vs) (hsz:1<vs.size)
    (h:∀ h',(∃ T,s.heap.objs.size≤T∧h'.get? e=some (oe.mapFields (·.setIfInBounds 1 (.ref T)))∧∃ oT ts,h'.get? T=some oT∧oT.data = .fields ts∧ts[3]? = some (rawInt L)) →
      (∀ b o,s.heap.get? b=some o→b≠e→b∉(env::outer).filterMap (·.frame)→h'.get? b=some o) →
      (∀ b o,s.heap.get? b=some o→b∈(env::outer).filterMap (·.frame)→∃ sl,h'.get? b=some { o with slots:=sl })→Q () { s with heap:=h' }) :
    wpAny M A (do let a ← frameOf env;let pl ← entryPlaceOf L hadNext;let b ← EntryCells.newEntry head a .none (rawInt L) .none pl;setField (.ref e) 1 b) Q E s:=by
  have hene:e∉(env::outer).filterMap (·.frame):=fun hm=>by
    obtain⟨_,o,ho,hnf⟩:=hl.mem hm
    rw [he] at ho;injection ho with ho;subst ho;exact hnf vs hd
  refine wpAny_bind (wpAny_frameOf_fun hfr hl hf fun h₁ hs₁ => ?_)
  refine wpAny_bind (wpAny_entryPlaceOf fun pl hpl => ?_)
  unfold EntryCells.newEntry newFields
  refine wpAny_bind (wpAny_newObj_type ?_ (hpl.sizeOk5 _ _ _ _ _))
  have he₁:h₁.get? e=some oe:=(hs₁.2.1 e hene).trans he
  have he₂:=Heap.get?_push_of_some (h:=h₁) { cls := .type "traceback",dict:=none,data := .fields ([head,.ref L,.none,rawInt L,.none]++(if pl.isEmpty then List.replicate 6 Value.none else pl)).toArray } he₁
  have hTe:h₁.objs.size≠e:=Nat.ne_of_gt (Heap.lt_size he₁)
  have hd₃:=Obj.data_mapFields hd (·.setIfInBounds 1 (Value.ref h₁.objs.size))
  have he₃:=Heap.get?_update_self (Obj.mapFields (·.setIfInBounds 1 (Value.ref h₁.objs.size))) he₂ (Obj.isFreed_of_fields hd₃)
  have hT₃:=(Heap.get?_update_other (h₁.push { cls := .type "traceback",dict:=none,data := .fields ([head,.ref L,.none,rawInt L,.none]++(if pl.isEmpty then List.replicate 6 Value.none else pl)).toArray })
    (Obj.mapFields (·.setIfInBounds 1 (Value.ref h₁.objs.size))) (Ne.symm hTe)).trans (Heap.get?_push_size h₁ rfl)
  refine wpAny_setField he₂ hd hsz (h _ ⟨h₁.objs.size,by rw [hs₁.1];exact Nat.le_refl _,he₃,_,_,hT₃,rfl,by first | (simp;done) | (rcases hpl with rfl | ⟨_,_,_,_,_,_,_,rfl⟩ <;> simp)⟩ ?_ ?_)
  · intro b o hb hbe hbf
    have hb₁:h₁.get? b=some o:=(hs₁.2.1 b hbf).trans hb
    rw [Heap.get?_update_other _ _ (Ne.symm hbe)]
    exact Heap.get?_push_of_some _ hb₁
  · intro b o hb hbf
    have hbe:b≠e:=fun z=>hene (z▸hbf)
    obtain⟨sl,hb₁⟩:=hs₁.2.2 b o hb
    refine⟨sl,?_⟩
    rw [Heap.get?_update_other _ _ (Ne.symm hbe)]
    exact Heap.get?_push_of_some _ hb₁
theorem noteX {base:Heap} {env:Env} {outer:List Env} {L e:Addr} {oe:Obj} {vs:Array Value} {Q:Unit→Shared→Prop}
    (hfr:A.frames=some (env::outer)) (hl:s.heap.FunFrames base (env::outer)) (hf:env.frame=some L) (he:s.heap.get? e=some oe) (hd:oe.data = .fields vs) (ht:TbOk L s.heap e vs)
    (h:∀ h',LeftX ((env::outer).filterMap (·.frame)) e oe vs (rawInt L) s.heap h' → Q () { s with heap:=h' }):wpAny M A (noteFrame (.ref e) env) Q E s:=by
  have helt:=Heap.lt_size he
  unfold noteFrame
  simp only [hf]
  rcases ht with h1 | ⟨T,⟨h1,hTe,oT,ts,hT,hdT,h3⟩ | ⟨h1,hTe,oT,ts,hT,hdT,h3⟩⟩
  · refine wpAny_bind (wpAny_field he hd h1 ?_)
    rw [if_neg (by decide)]
    refine entryX hfr hl hf he hd (Array.getElem?_eq_some_iff.mp h1).1 fun h' ⟨T,q1,q2,q3⟩ b c=>h h' ⟨⟨T,.inl q1,fun z=>absurd helt (Nat.not_lt.mpr (z▸q1)),q2,q3⟩,fun x o hx hxe _ hxf=>b x o hx hxe hxf,c⟩
  · refine wpAny_bind (wpAny_field he hd h1 ?_)
    rw [if_pos (show (Value.ref T != Value.none)=true from by simp)]
    refine wpAny_bind (wpAny_field hT hdT h3 ?_)
    rw [if_neg (show ¬ ((Value.none==rawInt L)=true) from by simp [rawInt])]
    refine wpAny_bind (wpAny_setField hT hdT (Array.getElem?_eq_some_iff.mp h3).1 ?_)
    have other:∀ b,b≠T→(s.heap.update T (Obj.mapFields (·.setIfInBounds 3 Value.none))).get? b=s.heap.get? b:=fun b hb=>Heap.get?_update_other _ _ (Ne.symm hb)
    have noRecord:∀ b o,s.heap.get? b=some o→(∀ vs,o.data ≠ .fields vs)→b≠T:=fun b o hb hnf q=>by
      rw [q,hT] at hb;injection hb with hb;subst hb;exact hnf ts hdT
    have hTf:T∉(env::outer).filterMap (·.frame):=fun hm=>by
      obtain⟨_,o,ho,hnf⟩:=hl.mem hm
      rw [hT] at ho;injection ho with ho;subst ho;exact hnf ts hdT
    have hsz:(s.heap.update T (Obj.mapFields (·.setIfInBounds 3 Value.none))).objs.size=s.heap.objs.size:=by first | exact Heap.size_update .. | simp
    refine entryX hfr (hl.of_keeps fun b o hb hnf=>⟨o,(other b (noRecord b o hb hnf)).trans hb,rfl⟩) hf ((other e (Ne.symm hTe)).trans he) hd (Array.getElem?_eq_some_iff.mp h1).1 fun h' a b c=>h h' ⟨?_,fun x o hx hxe hx1 hxf => ?_,fun x o hx hxf => ?_⟩
    · obtain⟨T',q1,q2,q3⟩:=a
      rw [hsz] at q1
      exact⟨T',.inl q1,fun z=>absurd helt (Nat.not_lt.mpr (z▸q1)),q2,q3⟩
    · exact b x o ((other x fun z=>hx1 (by rw [z];exact h1)).trans hx) hxe hxf
    · exact c x o ((other x fun z=>hTf (z▸hxf)).trans hx) hxf
  · refine wpAny_bind (wpAny_field he hd h1 ?_)
    rw [if_pos (show (Value.ref T != Value.none)=true from by simp)]
    refine wpAny_bind (wpAny_field hT hdT h3 ?_)
    rw [if_pos (show (rawInt L==rawInt L)=true from by simp)]
    refine wpAny_pure (h s.heap ⟨⟨T,.inr h1,hTe,by rw [q9i hd h1];exact he,oT,ts,hT,hdT,h3⟩,fun x o hx _ _ _=>hx,fun x o hx _=>⟨o.slots,hx⟩⟩)
theorem flightX {fr:List Addr} {e T:Addr} {oe:Obj} {vs:Array Value} {fl:Value} {f:Option Addr} {Q:Unit→Shared→Prop} (he:s.heap.get? e=some oe) (hd:oe.data = .fields vs) (ht:TbAt s.heap e vs T fl) (hTf:T∉fr)
    (h:∀ h',LeftX fr e oe vs (f.elim .none fun f=>rawInt f) s.heap h' → Q () { s with heap:=h' }):wpAny M A (setFlight (.ref e) f) Q E s:=by
  obtain⟨h1,hTe,oT,ts,hT,hdT,h3⟩:=ht
  have other:∀ b,b≠T→(s.heap.update T (Obj.mapFields (·.setIfInBounds 3 (f.elim Value.none fun f=>rawInt f)))).get? b=s.heap.get? b:=fun b hb=>Heap.get?_update_other _ _ (Ne.symm hb)
  unfold setFlight
  refine wpAny_bind (wpAny_field he hd h1 ?_)
  rw [if_pos (show (Value.ref T != Value.none)=true from by simp)]
  refine wpAny_setField hT hdT (Array.getElem?_eq_some_iff.mp h3).1 (h _ ⟨⟨T,.inr h1,hTe,?_,_,_,Heap.get?_update_self _ hT (Obj.isFreed_of_fields (Obj.data_mapFields hdT _)),Obj.data_mapFields hdT _,?_⟩,fun x o hx _ hx1 _ => ?_,fun x o hx hxf => ?_⟩)
  · rw [q9i hd h1,other e (Ne.symm hTe)];exact he
  · simp [(Array.getElem?_eq_some_iff.mp h3).1]
  · rw [other x fun z=>hx1 (by rw [z];exact h1)];exact hx
  · rw [other x fun z=>hTf (z▸hxf)];exact⟨o.slots,hx⟩
end
end L2
namespace L2
open PySem PySem.Spec PyProof.Rows
def ExO (C:Value) (dd:Option Addr) (e:Addr):HO := .ext fun h=>∃ vs sl,h.get? e=some { cls:=C,dict:=dd,data := .fields vs,slots:=sl }∧vs.size=6
structure FlX (X:Cx) (pins:List (Addr×Obj)) (H:Hp) (s:Shared) (e:Addr):Prop where
  at_:∃ C dd,H e=some (ExO C dd e)
  tb:∃ oe vs,s.heap.get? e=some oe∧oe.data = .fields vs∧TbOk X.env.locals s.heap e vs∧∀ T,vs[1]? = some (.ref T)→X.s₀.heap.objs.size≤T∧H T=none∧T≠X.env.locals∧(∀ x c,X.env.cells.lookup x=some c→c≠T)∧∀ p∈X.pn++pins,p.1≠T
  new:X.s₀.heap.objs.size≤e
section
variable {X:Cx} {pins:List (Addr×Obj)} {σ:St} {H:Hp} {s:Shared} {e:Addr} {oe:Obj} {vs:Array Value} {fl:Value} {h' : Heap}
def chOf (vs:Array Value):List Addr:=match vs[(1:Nat)]? with | some (Value.ref T) => [T] | _ => []
theorem chOf_mem {vs:Array Value} {b:Addr}:b∈chOf vs↔vs[(1:Nat)]? = some (Value.ref b):=by
  unfold chOf
  constructor
  · intro h
    split at h
    · rename_i T e;rw [List.mem_singleton.mp h];exact e
    · cases h
  · intro h
    rw [h]
    exact List.mem_singleton.mpr rfl
theorem Inv.leftX (I:Inv X pins σ H s) (F:FlX X pins H s e) (he:s.heap.get? e=some oe) (hd:oe.data = .fields vs) (hfl:fl = .none∨fl=rawInt X.env.locals)
    (hT:∀ T,vs[1]? = some (.ref T)→X.s₀.heap.objs.size≤T∧H T=none∧T≠X.env.locals∧(∀ x c,X.env.cells.lookup x=some c→c≠T)∧∀ p∈X.pn++pins,p.1≠T)
    (L:LeftX (frs X.stack) e oe vs fl s.heap h'):Inv X pins σ H { s with heap:=h' }∧FlX X pins H { s with heap:=h' } e∧∃ oe' vs' T,h'.get? e=some oe' ∧ oe'.data = .fields vs' ∧ TbAt h' e vs' T fl:=by
  obtain⟨C,dd,hE⟩:=F.at_
  obtain⟨T',hT'1,hT'e,hE',oT,ts,q1,q2,q3⟩:=L.ex
  have helt:=Heap.lt_size he
  have hne:∀ b,H b=none→b≠e:=fun b h z=>by rw [z,hE] at h;cases h
  have un:Un (frs X.stack) (chOf vs) H H s.heap h' := ⟨fun b o hb n hf hc=>L.keep b o hb (hne b n) (fun z=>hc (chOf_mem.mpr z)) hf,fun b o hb n hf hc=>L.slot b o hb hf,fun _ _ _ n _=>n,fun b o hb hc=>by
      by_cases z:b=e
      · rw [z];exact⟨_,hE'⟩
      · by_cases y:b∈frs X.stack
        · obtain⟨sl,k⟩:=L.slot b o hb y;exact⟨_,k⟩
        · exact⟨o,L.keep b o hb z (fun x=>hc (chOf_mem.mpr x)) y⟩,
    fun _ _ q=>q,fun _ _ _ q=>q,fun _ ps q=>⟨#[],by rw [q];simp⟩⟩
  have hsz6:vs.size=6∧oe.cls=C∧oe.dict=dd:=by
    obtain⟨⟨vs2,sl,z,z6⟩,_,_⟩:=I.hok e _ hE
    rw [he] at z
    cases z
    cases hd
    exact⟨z6,rfl,rfl⟩
  have hok:HOk X.prog X.w H h' := fun a o ha=>by
    by_cases z:a=e
    · subst z
      rw [hE] at ha
      cases ha
      refine⟨⟨vs.setIfInBounds 1 (.ref T'),oe.slots,?_,by simpa using hsz6.1⟩,⟨_,hE'⟩,fun h1 h2 ⟨ws,sl,k1,k2⟩ k=>⟨ws,sl,k _ k1,k2⟩⟩
      rw [hE']
      obtain⟨c,d,dt,sl⟩:=oe
      cases hd
      obtain⟨_,rfl,rfl⟩:=hsz6
      rfl
    · refine (I.hok a o ha).stay (fun b u hb hu => ?_) (fun _ q=>q) fun _ _ q=>q
      have hbt:H b≠none∧b≠e:=by
        rcases hb with rfl | hb
        · exact⟨by rw [ha];simp,z⟩
        · refine⟨by rw [hb];simp,fun y => ?_⟩
          rw [y,hE] at hb
          cases hb
      exact L.keep b u hu hbt.2 (fun y=>hbt.1 (hT b y).2.1) fun y=>hbt.1 (I.stkFree b y)
  have hch:∀ b∈chOf vs,(b∈X.ex∨X.s₀.heap.objs.size≤b)∧b≠X.env.locals∧(∀ x c,X.env.cells.lookup x=some c→c≠b)∧∀ p∈X.pn++pins,p.1≠b:=fun b hb=>by
    obtain⟨a1,_,a3,a4,a5⟩:=hT b (chOf_mem.mp hb)
    exact⟨.inr a1,a3,a4,a5⟩
  have I' : Inv X pins σ H { s with heap:=h' }:=I.call' (s' := { s with heap:=h' }) rfl un hok I.bare hch
  have hd' := Obj.data_mapFields hd (·.setIfInBounds 1 (Value.ref T'))
  have hlt1:1<vs.size:=by rw [hsz6.1];decide
  have hTb:TbAt h' e (vs.setIfInBounds 1 (.ref T')) T' fl:=⟨by simp [hlt1],hT'e,oT,ts,q1,q2,q3⟩
  refine⟨I',⟨⟨C,dd,hE⟩,⟨_,_,hE',hd',.inr ⟨T',?_⟩,fun T hTT => ?_⟩,F.new⟩,_,_,T',hE',hd',hTb⟩
  · rcases hfl with z | z
    · exact .inl (z▸hTb)
    · exact .inr (z▸hTb)
  · have:T=T' := by
      have z:(vs.setIfInBounds 1 (Value.ref T'))[1]? = some (.ref T'):=hTb.1
      rw [z] at hTT
      injection hTT with y
      injection y with y
      exact y.symm
    subst this
    rcases hT'1 with k | k
    · refine⟨Nat.le_trans I.sz k,I.hok.fresh k,fun z=>absurd I.lt (Nat.not_lt.mpr (z▸k)),fun x c hx z => ?_,fun p hp z => ?_⟩
      · obtain⟨v,o,ho,_⟩:=I.cell x c hx
        exact absurd (Heap.lt_size ho) (Nat.not_lt.mpr (z▸k))
      · obtain⟨ho,_⟩:=I.pin p hp
        exact absurd (Heap.lt_size ho) (Nat.not_lt.mpr (z▸k))
    · exact hT T k
def XE (X:Cx) (J:Addr→St→Hp→Prop) (e:Value) (s:Shared):Prop:=∃ pins σ H ea,e = .ref ea∧Inv X pins σ H s∧FlX X pins H s ea∧J ea σ H
theorem frs_eq (hst:X.stack=X.env::X.outer):frs X.stack=(X.env::X.outer).filterMap (·.frame):=by rw [hst];rfl
end
end L2
namespace L2
open PySem PySem.Spec PyProof.Rows
def CXR (P:Program) (w:World):CXT:=fun outer H s E e s' => ∃ ea H',e = .ref ea∧s'.os=s.os∧AllBare s'.gens∧Un (frs outer) [] H H' s.heap s'.heap∧HOk P w H' s'.heap∧s.heap.objs.size≤ea∧(∃ C dd,H' ea=some (ExO C dd ea)) ∧
  (∃ oe vs,s'.heap.get? ea=some oe∧oe.data = .fields vs∧(vs[1]? = some .none∨∃ T,TbAt s'.heap ea vs T .none)∧∀ T,vs[1]? = some (.ref T)→s.heap.objs.size≤T∧H' T=none)∧E (.ref ea) none H'
section
variable {X:Cx} {J J' : Addr→St→Hp→Prop} {E:Value→Shared→Prop} {e:Value} {s:Shared}
theorem FlX.unwish {pins:List (Addr×Obj)} {H:Hp} {ea:Addr} (F:FlX (X.wish E) pins H s ea):FlX X pins H s ea:=⟨F.at_,F.tb,F.new⟩
theorem XE.unwish (h:XE (X.wish E) J e s):XE X J e s:=by
  obtain⟨pins,σ,H,ea,rfl,I,F,j⟩:=h
  exact⟨pins,σ,H,ea,rfl,I.unwish,F.unwish,j⟩
structure AccX (X:Cx) (J:Addr→St→Hp→Prop):Prop where
  acc:∀ e s,XE X J e s→X.xe e s
theorem AccX.of:AccX (X.wish (XE X J)) J:=⟨fun _ _ h=>h.unwish⟩
theorem PSs.wishX {st:List Stmt} {t:TS} (hE:∀ e s,E e s→X.xe e s) (h:PSs (X.wish E) st t):PSs X st t:=fun pins s σ H D I hw =>
  wpAny_mono (h pins s σ H D (I.wish _) hw) (fun _ _ q=>q.unwish) hE
theorem leaves {P:Program} {w:World} {K:PySem.W.Frag} {mg:Str→Option Value} {base:Heap} {N:List Str} {qual:Str} {scope:Scope} {f:Addr} {cd:Value} {A:Around} {outer:List Env} {s₀:Shared} {H₀:Hp} {E₀:XK}
    (h:XE (cxOf (CXR P w) P w K mg base N qual scope f cd A outer s₀ H₀ E₀) (fun ea _ H' => E₀ (.ref ea) none H') e s):(cxOf (CXR P w) P w K mg base N qual scope f cd A outer s₀ H₀ E₀).xe e s:=by
  obtain⟨pins,σ,H,ea,rfl,I,F,j⟩:=h
  obtain⟨oe,vs,he,hd,ht,hT⟩:=F.tb
  have hst:(cxOf (CXR P w) P w K mg base N qual scope f cd A outer s₀ H₀ E₀).stack=(cxOf (CXR P w) P w K mg base N qual scope f cd A outer s₀ H₀ E₀).env::outer:=rfl
  show wpAny _ _ (leaving _ _) _ _ _
  unfold leaving
  refine wpAny_bind (noteX I.ok.frames I.stack rfl he hd ht fun h1 L1 => ?_)
  obtain⟨I1,F1,oe1,vs1,T1,e1,d1,t1⟩:=I.leftX F he hd (.inr rfl) hT L1
  have hT1f:T1∉frs (cxOf (CXR P w) P w K mg base N qual scope f cd A outer s₀ H₀ E₀).stack:=fun hm=>by
    obtain⟨_,_,oT,ts,q1,q2,_⟩:=t1
    obtain⟨_,o,ho,hnf⟩:=I1.stack.mem hm
    rw [q1] at ho;injection ho with ho;subst ho;exact hnf ts q2
  obtain⟨oe1',vs1',e1',d1',_,hT1⟩:=F1.tb
  have q:oe1' = oe1∧vs1' = vs1:=by
    have e1'' : h1.get? ea=some oe1' := e1'
    rw [e1] at e1''
    injection e1'' with z
    subst z
    rw [d1] at d1'
    injection d1' with y
    exact⟨rfl,y.symm⟩
  obtain⟨rfl,rfl⟩:=q
  refine flightX (s := { s with heap:=h1 }) (f:=none) e1 d1 t1 hT1f fun h2 L2 => ?_
  obtain⟨I2,F2,oe2,vs2,T2,e2,d2,t2⟩:=I1.leftX F1 e1 d1 (.inl rfl) hT1 L2
  obtain⟨oe2',vs2',e2',d2',_,hT2⟩:=F2.tb
  have q:oe2' = oe2∧vs2' = vs2:=by
    have e2'' : h2.get? ea=some oe2' := e2'
    rw [e2] at e2''
    injection e2'' with z
    subst z
    rw [d2] at d2'
    injection d2' with y
    exact⟨rfl,y.symm⟩
  obtain⟨rfl,rfl⟩:=q
  exact⟨ea,H,rfl,I2.os,I2.bare,I2.base,I2.hok,F2.new,F2.at_,⟨_,_,e2,d2,.inr ⟨T2,t2⟩,fun T hTT=>⟨(hT2 T hTT).1,(hT2 T hTT).2.1⟩⟩,j⟩
end
abbrev cxX (P:Program) (w:World) (K:PySem.W.Frag) (mg:Str→Option Value) (base:Heap) (N:List Str) (qual:Str) (scope:Scope) (f:Addr) (cd:Value) (A:Around) (outer:List Env) (s:Shared) (H:Hp) (E:XK):Cx :=
  (cxOf (CXR P w) P w K mg base N qual scope f cd A outer s H E).wish (XE (cxOf (CXR P w) P w K mg base N qual scope f cd A outer s H E) fun ea _ H' => E (.ref ea) none H')
section
variable {P:Program} {w:World} {K:PySem.W.Frag} {mg:Str→Option Value} {base:Heap}
theorem accX {N:List Str} {qual:Str} {scope:Scope} {f:Addr} {cd:Value} {A:Around} {outer:List Env} {s:Shared} {H:Hp} {E:XK}:AccX (cxX P w K mg base N qual scope f cd A outer s H E) fun ea _ H' => E (.ref ea) none H' := AccX.of
theorem Fun.okX {x qual:Str} {st:Stmt} {f:Addr} {fd:FuncData} {N ps:List Str} {k:Nat} {sp:Sp} (F:Fun K x qual st f fd) (S:FnScope N ps (defScope st)) (len:∀ vs H Q E,sp vs H Q E→vs.length=ps.length)
    (hbody:∀ (cdv:Value) (A:Around) (outer:List Env) (s:Shared) (H:Hp) (vs:List V) (Q:VK) (E:XK),Room k (A.deeper (envOfC qual (defScope st) s.heap.objs.size f cdv))→sp vs H Q E →
      ∃ t,PSs (cxX P w K mg base N qual (defScope st) f cdv A outer s H E) (defBody st) t∧t { nx:=fun _ H' => Q .non H',rt:=Q } (start N vs) H):FnOk P w K mg base (CXR P w) (k+1) f fd ps sp:=by
  obtain⟨oc,od,kV,doc,pm,an,cdv,ct,osl,rfl,lk,hcd⟩:=F.ex
  refine z9d lk hcd S len fun A outer s H vs Q E hr hsp => ?_
  obtain⟨t,h,q⟩:=hbody cdv A outer s H vs Q E hr hsp
  exact⟨t,PSs.wishX (fun e s' z=>leaves z) h,q⟩
structure CalX (P:Program) (w:World) (K:PySem.W.Frag) (mg:Str→Option Value) (base:Heap) (x:Str) (k:Nat) (ps:List Str) (sp:Sp):Prop where
  ex:∃ f fd,FnOk P w K mg base (CXR P w) k f fd ps sp∧mg x=some (.ref f)∧PySem.W.keepIn K (.ref f)=true∧Binds K fd ps []
end
section
variable {X:Cx} {J:Addr→St→Hp→Prop} {k j:Nat} {f:Addr} {fd:FuncData} {ps:List Str} {sp:Sp} {x:Str} {p pos:Pos} {e:Expr} {es:List Expr} {t:TA}
theorem z9y {pins:List (Addr×Obj)} {σ:St} {H:Hp} {s:Shared} {Q:VK} {us:List Value} {vs:List V} (F:FnOk X.prog X.w X.K X.mg X.base (CXR X.prog X.w) k f fd ps sp) (hr:Room k X.A) (hb:Binds X.K fd ps []) (hx:AccX X J)
    (I:Inv X pins σ H s) (r:Vals vs us) (h:sp vs H Q fun e _ H' => ∀ ea,e = .ref ea→J ea σ H'):wpAny (model X.prog X.w) X.A (call (.ref f) us) (EP X pins σ Q) X.xe s:=by
  have hl:(us ++ []).length=ps.length:=by rw [List.append_nil,← r.length];exact F.len _ _ _ _ h
  have hb' := hb s us I.kIn hl
  rw [List.append_nil] at hb'
  refine wpAny_call (codeAny_mono (F.run X.A X.stack s H ⟨us,[]⟩ us vs Q _ hr I.env0 hb' r h) fun r s' hq => ?_)
  cases r with
  | error e =>
    obtain⟨ea,H',rfl,os,bare,un,hok,hnew,hat,⟨oe,ws,he,hd,ht,hT⟩,j⟩:=hq
    have I' : Inv X pins σ H' s' := I.call' os un hok bare fun b z=>absurd z (by simp)
    refine hx.acc _ _ ⟨pins,σ,H',ea,rfl,I',⟨hat,⟨oe,ws,he,hd,?_,fun T hTT => ?_⟩,Nat.le_trans I.sz hnew⟩,j ea rfl⟩
    · rcases ht with z | ⟨T,z⟩
      · exact .inl z
      · exact .inr ⟨T,.inl z⟩
    · obtain⟨a1,a2⟩:=hT T hTT
      refine⟨Nat.le_trans I.sz a1,a2,fun z=>absurd I.lt (Nat.not_lt.mpr (z▸a1)),fun y c hy z => ?_,fun q hq z => ?_⟩
      · obtain⟨v,o,ho,_⟩:=I.cell y c hy
        exact absurd (Heap.lt_size ho) (Nat.not_lt.mpr (z▸a1))
      · obtain⟨ho,_⟩:=I.pin q hq
        exact absurd (Heap.lt_size ho) (Nat.not_lt.mpr (z▸a1))
  | ok fl =>
    cases fl with
    | ret u=>exact I.after hq
    | next=>exact False.elim hq
    | brk=>exact False.elim hq
    | cont=>exact False.elim hq
end
end L2
namespace L2
open PySem PySem.Spec PyProof.Rows
structure ECls (K:PySem.W.Frag) (C:Addr) (bm:List Value):Prop where
  ex:∃ nm q N bs hdct sn sub ab col dd k0 k1 k2 k3 k5 newId,K.lookup C=some (excClassObj nm q C N bs bm hdct sn sub ab col dd k0 k1 k2 k3 k5 newId)
  base:bm.contains (.type "BaseException")=true
section
variable {M:Model} {A:Around} {E:Value→Shared→Prop} {h:Heap} {g:Array GenState} {d:Drawn} {t:Nat} {os:OsState}
variable {nm q:Str} {C N:Addr} {bs bm:List Value} {hdct:Bool} {sn:List Str} {sub:List Value} {ab:Bool} {col:Option Bool} {dd:Option Addr} {k0 k1 k2 k3 k5:Option Value} {newId:String}
variable {nm' q' : Str} {D N' : Addr} {bs' bm' : List Value} {hdct' : Bool} {sn' : List Str} {sub' : List Value} {ab' : Bool} {col' : Option Bool} {dd' : Option Addr} {k0' k1' k2' k3' k5' : Option Value} {newId' : String}
theorem excMatchX {e:Addr} {oe:Obj} {Q:Bool→Shared→Prop} (hC:h.get? C=some (excClassObj nm q C N bs bm hdct sn sub ab col dd k0 k1 k2 k3 k5 newId)) (hD:h.get? D=some (excClassObj nm' q' D N' bs' bm' hdct' sn' sub' ab' col' dd' k0' k1' k2' k3' k5' newId'))
    (he:h.get? e=some oe) (hcls:oe.cls = .ref C) (hbase:bm'.contains (.type "BaseException")=true) (hq:Q ((Value.ref C::bm).contains (.ref D)) ⟨h,g,d,t,os⟩):wpAny M A (excMatches (.ref e) (.ref D)) Q E ⟨h,g,d,t,os⟩:=by
  have hcB:(Value.ref D::bm').contains (.type "BaseException")=true:=by rw [List.contains_cons,hbase,Bool.or_true]
  have f:=tc_notTuple
  unfold excMatches
  repeat (first | (with_reducible refine wpAny_loadPart_at he ?_;rw [hcls]) | with_reducible refine wpAny_loadPart_at hD ?_ | (with_reducible refine wpAny_isSubtype_exc hD ?_;rw [hcB]) | (with_reducible refine wpAny_isSubtype_exc hC ?_) | wp_step)
  cases hb:(Value.ref C::bm).contains (.ref D) <;> (rw [hb] at hq;wp_walk;exact hq)
end
section
variable {X:Cx} {pins:List (Addr×Obj)} {σ:St} {H:Hp} {s:Shared}
theorem q7z {M:Model} {A:Around} {E:Value→Shared→Prop} {i:Nat} {x:Str} {pos:Pos} {Q:Unit→Shared→Prop} (I:Inv X pins σ H s) (hN:X.N.Nodup) (hi:X.N[i]? = some x) (hk:X.env.scope.names.lookup x=some .local)
    (h:∀ s',Inv X pins (σ.set i none) H s' → Q () s'):wpAny M A (do bindName X.env x .none;unbindBehindTheSuite X.env x pos) Q E s:=by
  obtain⟨m,hn,hl⟩:=id I.loc
  have hcls:(X.env.scope.kind == .class||(X.env.scope.kind == .module&&X.env.locals != X.env.globals))=false:=by rw [I.ok.kind];rfl
  have hiσ:i<σ.length:=by rw [I.len];exact (List.getElem?_eq_some_iff.mp hi).1
  have cne:=I.cne
  have tracked:∀ {a:Addr} {h' : Heap},(∃ o,s.heap.get? a=some o∧H a=none)→Heap.SameBut a s.heap h' → HOk X.prog X.w H h' := fun {a h'} ha hs b ob e=>by
    obtain⟨_,_,hfree⟩:=ha
    refine (I.hok b ob e).stay (fun c w' hc q=>(hs.2 c ?_).trans q) (fun _ q=>q) fun _ _ q=>q
    rintro rfl
    rcases hc with rfl | hc
    · rw [hfree] at e;cases e
    · rw [hfree] at hc;cases hc
  refine wpAny_nameGoes_keeps hk hn hcls fun h' v hn' hs => ?_
  obtain⟨oL,_,_,hoL,_⟩:=id hn
  refine h _ ⟨I.ok,I.os,I.bare,⟨fun b o e n hb hx => ?_,fun b o e n hb hx => ?_,I.base.free,fun b o e hx => ?_,I.base.tups,I.base.frzs,I.base.tbls⟩,⟨_,hn',fun j y v' e1 e2 e3 => ?_⟩,fun y c e => ?_,I.free,I.freeC,fun p hp => ?_,tracked ⟨oL,hoL,I.free⟩ hs,by simpa using I.len⟩
  · exact (hs.2 b (Nat.ne_of_lt (Nat.lt_of_lt_of_le (Heap.lt_size e) I.ok.above))).trans (I.base.keep b o e n hb hx)
  · obtain⟨sl,e1⟩:=I.base.slot b o e n hb hx
    exact⟨sl,(hs.2 b (Nat.ne_of_lt (Nat.lt_of_lt_of_le (Heap.lt_size e) I.ok.above))).trans e1⟩
  · obtain⟨o',e1⟩:=I.base.there b o e hx
    exact⟨o',(hs.2 b (Nat.ne_of_lt (Nat.lt_of_lt_of_le (Heap.lt_size e) I.ok.above))).trans e1⟩
  · by_cases hj:j=i
    · subst hj
      rw [List.getElem?_set_self hiσ] at e2
      cases e2
    · rw [List.getElem?_set_ne (Ne.symm hj)] at e2
      obtain⟨u',r',q⟩:=hl j y v' e1 e2 e3
      refine⟨u',r',?_⟩
      rcases q with ⟨k,e⟩ | ⟨k,c,e,z⟩
      · refine .inl ⟨k,?_⟩
        have:y≠x:=fun e=>hj (q7k hN e1 (e▸hi))
        simp [this,e]
      · exact .inr ⟨k,c,e,z.sameBut hs (cne y c e)⟩
  · obtain⟨w',z⟩:=I.cell y c e
    exact⟨w',z.sameBut hs (cne y c e)⟩
  · obtain⟨e,n,ne,nf,d⟩:=I.pin p hp
    exact⟨(hs.2 p.1 ne).trans e,n,ne,nf,d⟩
abbrev Cx.pinned (X:Cx) (pn:List (Addr×Obj)):Cx := { X with pn:=pn }
theorem Cx.Ok.pinned {pn:List (Addr×Obj)} (ok:X.Ok):(X.pinned pn).Ok:=⟨ok.mod,ok.kind,ok.glob,ok.blt,ok.above,ok.inj,ok.has,ok.cab,ok.hd,ok.frames,ok.stk,ok.exf,ok.bs,ok.bsz,ok.noex,ok.exfs,ok.funs,ok.frf⟩
theorem Cx.Ok.unpin {pn:List (Addr×Obj)} (ok:(X.pinned pn).Ok):X.Ok:=⟨ok.mod,ok.kind,ok.glob,ok.blt,ok.above,ok.inj,ok.has,ok.cab,ok.hd,ok.frames,ok.stk,ok.exf,ok.bs,ok.bsz,ok.noex,ok.exfs,ok.funs,ok.frf⟩
theorem Inv.toPn (I:Inv X pins σ H s):Inv (X.pinned (X.pn++pins)) [] σ H s:=⟨I.ok.pinned,I.os,I.bare,I.base,I.loc,I.cell,I.free,I.freeC,fun p hp=>I.pin p (by simpa using hp),I.hok,I.len⟩
theorem Inv.ofPn {pins' : List (Addr×Obj)} (I:Inv (X.pinned (X.pn++pins)) pins' σ H s):Inv X pins σ H s:=⟨I.ok.unpin,I.os,I.bare,I.base,I.loc,I.cell,I.free,I.freeC,fun p hp=>I.pin p (List.mem_append_left _ hp),I.hok,I.len⟩
theorem FlX.ofPn {pins' : List (Addr×Obj)} {e:Addr} (F:FlX (X.pinned (X.pn++pins)) pins' H s e):FlX X pins H s e:=by
  obtain⟨oe,vs,h1,h2,h3,h4⟩:=F.tb
  exact⟨F.at_,⟨oe,vs,h1,h2,h3,fun T hT=>let ⟨a,b,c,d,f⟩:=h4 T hT;⟨a,b,c,d,fun p hp=>f p (List.mem_append_left _ hp)⟩⟩,F.new⟩
abbrev Cx.hand (X:Cx) (e:Addr):Cx := { X with A:=X.A.mark (some (.ref e)),calm:=false,xe:=fun _ _=>False }
theorem Cx.Ok.hand {e:Addr} (ok:X.Ok):(X.hand e).Ok:=⟨ok.mod,ok.kind,ok.glob,ok.blt,ok.above,ok.inj,ok.has,ok.cab,(fun z=>by cases z),ok.frames,ok.stk,ok.exf,ok.bs,ok.bsz,ok.noex,ok.exfs,ok.funs,ok.frf⟩
theorem Inv.hand (I:Inv X pins σ H s) (e:Addr):Inv (X.hand e) pins σ H s:=⟨I.ok.hand,I.os,I.bare,I.base,I.loc,I.cell,I.free,I.freeC,I.pin,I.hok,I.len⟩
theorem Inv.unhand {e:Addr} (I:Inv (X.hand e) pins σ H s) (ok:X.Ok):Inv X pins σ H s:=⟨ok,I.os,I.bare,I.base,I.loc,I.cell,I.free,I.freeC,I.pin,I.hok,I.len⟩
def SubX (K:PySem.W.Frag) (C:Value) (D:Addr):Prop:=∃ c bm,C = .ref c∧ECls K c bm∧(Value.ref c::bm).contains (.ref D)=true
def gone (i:Nat) (D:Ends):Ends:=⟨fun σ H=>D.nx (σ.set i none) H,D.rt,fun σ H=>D.bk (σ.set i none) H,fun σ H=>D.ct (σ.set i none) H⟩
def tTry (K:PySem.W.Frag) (i:Nat) (C:Addr) (th:TS) (tb:(Addr→St→Hp→Prop)→TS):TS:=fun D σ H=>∃ J:Addr→St→Hp→Prop,
  (∀ ea σ' H',J ea σ' H' → (∃ c dd,H' ea=some (ExO c dd ea)∧SubX K c C)∧th (gone i D) (σ'.set i (some (.ref ea))) H')∧tb J D σ H
theorem ps_try {body suite:List Stmt} {b₀:Stmt} {dn n:Str} {i:Nat} {C:Addr} {bmC:List Value} {dp hp pos:Pos} {tb:(Addr→St→Hp→Prop)→TS} {th:TS} (K:PySem.W.Frag) (hK:X.K=K) (hst:X.stack=X.env::X.outer) (hf:X.env.frame=some X.env.locals)
    (hN:X.N.Nodup) (hi:X.N[i]? = some n) (hk:X.env.scope.names.lookup n=some .local) (hg:Gl X dn) (hm:X.mg dn=some (.ref C)) (eC:ECls X.K C bmC)
    (hb:∀ pn J,PSs ((X.pinned pn).wish (XE (X.pinned pn) J)) body (tb J)) (hh:∀ ea,PSs (X.hand ea) (b₀::suite) th) (hdb:(dn==("__debug__" : Str))=false:=by decide) :
    PS X (.Try body [.ExceptHandler (some (.Name dn dp)) (some n) (b₀::suite) hp] [] [] pos) (tTry K i C th tb):=by
  subst hK
  intro pins s σ H D I ⟨J,hJ,q⟩
  refine wpAny_Try_except (wpAny_mono (hb (X.pn++pins) J [] s σ H D (I.toPn.wish _) q) (fun f s1 z => ?_) fun e s1 z => ?_)
  · have z' := z.unwish
    have z2:SP X pins D f s1:=by
      cases f with
      | next=>obtain⟨σ',H',I',q'⟩:=z';exact⟨σ',H',I'.ofPn,q'⟩
      | brk=>obtain⟨σ',H',I',q'⟩:=z';exact⟨σ',H',I'.ofPn,q'⟩
      | cont=>obtain⟨σ',H',I',q'⟩:=z';exact⟨σ',H',I'.ofPn,q'⟩
      | ret u=>obtain⟨v,σ',H',I',r,q'⟩:=z';exact⟨v,σ',H',I'.ofPn,r,q'⟩
    cases f with
    | next=>exact wpAny_execs_nil z2
    | ret v=>exact z2
    | brk=>exact z2
    | cont=>exact z2
  · obtain⟨pins',σ1,H1,ea,rfl,I1,F1,j⟩:=z
    have I1:=I1.ofPn
    have F1:=F1.ofPn
    obtain⟨⟨c,dd,hat,cc,bm,rfl,eCc,hsub⟩,hth⟩:=hJ ea σ1 H1 j
    obtain⟨oe,vs,he,hd,ht,hT⟩:=F1.tb
    have hfr:X.A.frames=some (X.env::X.outer):=by rw [← hst];exact I.ok.frames
    have hl:s1.heap.FunFrames X.base (X.env::X.outer):=by rw [← hst];exact I1.stack
    refine noteX hfr hl hf he hd ht fun h2 L2 => ?_
    rw [← frs_eq hst] at L2
    obtain⟨I2,F2,oe2,vs2,T2,e2,d2,t2⟩:=I1.leftX F1 he hd (.inr rfl) hT L2
    have land:∀ {s' : Shared} {oe:Obj} {vs:Array Value} {T:Addr} {fl:Value} {Aa:Around} {Ee:Value→Shared→Prop} {Q:Unit→Shared→Prop},Inv X pins σ1 H1 s' → FlX X pins H1 s' ea→s'.heap.get? ea=some oe→oe.data = .fields vs→TbAt s'.heap ea vs T fl →
        (∀ h',Inv X pins σ1 H1 { s' with heap:=h' }→FlX X pins H1 { s' with heap:=h' } ea→(∃ oe' vs' T',h'.get? ea=some oe' ∧ oe'.data = .fields vs' ∧ TbAt h' ea vs' T' .none)→Q () { s' with heap:=h' })→wpAny (model X.prog X.w) Aa (setFlight (.ref ea) none) Q Ee s' := by
      intro s' oe vs T fl Aa Ee Q I' F' e' d' t' k
      have hTf:T∉frs X.stack:=fun hm=>by
        obtain⟨_,_,oT,ts,q1,q2,_⟩:=t'
        obtain⟨_,o,ho,hnf⟩:=I'.stack.mem hm
        rw [q1] at ho;injection ho with ho;subst ho;exact hnf ts q2
      obtain⟨oe1',vs1',e1',d1',_,hT1⟩:=F'.tb
      have q:oe1' = oe∧vs1' = vs:=by
        rw [e'] at e1'
        injection e1' with z
        subst z
        rw [d'] at d1'
        injection d1' with y
        exact⟨rfl,y.symm⟩
      obtain⟨rfl,rfl⟩:=q
      refine flightX (f:=none) e' d' t' hTf fun h3 L3 => ?_
      obtain⟨I3,F3,oe3,vs3,T3,e3,d3,t3⟩:=I'.leftX F' e' d' (.inl rfl) hT1 L3
      exact k h3 I3 F3 ⟨oe3,vs3,T3,e3,d3,t3⟩
    refine land I2 F2 e2 d2 t2 fun h3 I3 F3 ⟨oe3,vs3,T3,e3,d3,t3⟩ => ?_
    refine wpAny_handleBy_cons (codeAny_handlers_test ?_) (by intro z;cases z)
    refine q3p (X:=X.hand ea) (I3.hand ea) hg hm ?_ hdb
    obtain⟨nm,q0,N,bs,hdct,sn,sub,ab,col,dd0,k0,k1,k2,k3,k5,newId,lk⟩:=eCc.ex
    obtain⟨nm',q0',N',bs',hdct',sn',sub',ab',col',dd0',k0',k1',k2',k3',k5',newId',lk'⟩:=eC.ex
    have hcls:∃ oe,h3.get? ea=some oe∧oe.cls = .ref cc:=by
      obtain⟨⟨ws,sl,z,_⟩,_,_⟩:=I3.hok ea _ hat
      exact⟨_,z,rfl⟩
    obtain⟨oe4,e4,c4⟩:=hcls
    refine excMatchX (I3.kIn _ _ lk) (I3.kIn _ _ lk') e4 c4 eC.base ?_
    rw [hsub]
    refine codeAny_handlers_suite_as (land I3 F3 e3 d3 t3 fun h5 I5 F5 _ => ?_)
    refine q7l (X:=X.hand ea) (I5.hand ea) hN hi (.inl hk) (show RelV (.ref ea) (.ref ea) from rfl) (fun s6 I6 => ?_) (.inr hk)
    refine wpAny_mono (hh ea pins s6 _ H1 (gone i D) I6 hth) (fun f s7 z => ?_) fun _ _ z=>z.elim
    cases f with
    | next =>
      obtain⟨σ',H',I',q'⟩:=z
      exact q7z (I'.unhand I.ok) hN hi hk fun s8 I8=>⟨_,H',I8,q'⟩
    | brk =>
      obtain⟨σ',H',I',q'⟩:=z
      exact q7z (I'.unhand I.ok) hN hi hk fun s8 I8=>⟨_,H',I8,q'⟩
    | cont =>
      obtain⟨σ',H',I',q'⟩:=z
      exact q7z (I'.unhand I.ok) hN hi hk fun s8 I8=>⟨_,H',I8,q'⟩
    | ret u =>
      obtain⟨v,σ',H',I',r,q'⟩:=z
      exact q7z (I'.unhand I.ok) hN hi hk fun s8 I8=>⟨v,_,H',I8,r,q'⟩
end
end L2
namespace L2
open PySem PySem.Spec PyProof.Rows
section
variable {prog:Program} {w:World} {A:Around} {E:Value→Shared→Prop} {h:Heap} {g:Array GenState} {d:Drawn} {t:Nat} {os:OsState}
variable {nm q:Str} {C N:Addr} {bs bm bmB:List Value} {hdct:Bool} {sn:List Str} {sub:List Value} {ab:Bool} {col:Option Bool} {dd:Option Addr} {k0 k1 k2 k3 k5:Option Value} {B newId initId:String}
theorem q3t (F:ExcBaseFacts B newId initId bmB) (T:OwnTail h bmB bm) {mN:Str→Option Value} {rest:List Value} {fI:Addr} {oI:Obj} {Q:Fin→Shared→Prop}
    (hC:h.get? C=some (excClassObj nm q C N bs bm hdct sn sub ab col dd k0 k1 k2 k3 k5 newId)) (hn:h.Ns N mN) (hi:mN "__init__" = some (.ref fI))
    (hfI:h.get? fI=some oI) (hfc:oI.cls = .type "function")
    (hq:∀ h' e,Heap.MadeExcOf h h' e (.ref C) rest→h.objs.size≤e →
      wpAny (model prog w) A (call (.ref fI) (.ref e::rest)) (fun r s' => r = .none∧Q (.done (.ret (.ref e))) s') E ⟨h',g,d,t,os⟩) (hrest:rest.length≤sizeLine:=by size_fits) :
    wpAny (model prog w) A (Builtin.«type.__call__» ⟨.ref C::rest,[]⟩) Q E ⟨h,g,d,t,os⟩:=by
  repeat (first | with_reducible refine wpAny_loadPart_at hC ?_ | with_reducible refine wpAny_madeBy_exc hC ?_ | wp_step)
  refine codeAny_call_builtin_code (Code.quiet_builtin _ F.quiet) (wpAny_check_new_subT F T hC ?_)
  refine codeAny_exc_new_subT F T hC ?_ hrest
  show wpAny _ _ _ _ _ _
  have hC₁:=Heap.get?_push_of_some { cls := .ref C,data := .fields #[.ref h.objs.size,.none,.none,.none,.bool false,.none] }
    (Heap.get?_push_of_some { cls := .type "tuple",data := .seq rest.toArray } hC)
  have hfI₁:=Heap.get?_push_of_some { cls := .ref C,data := .fields #[.ref h.objs.size,.none,.none,.none,.bool false,.none] }
    (Heap.get?_push_of_some { cls := .type "tuple",data := .seq rest.toArray } hfI)
  have hn₁:((h.push { cls := .type "tuple",data := .seq rest.toArray }).push { cls := .ref C,data := .fields #[.ref h.objs.size,.none,.none,.none,.bool false,.none] }).Ns N mN :=
    let ⟨o,es,ep,e,r⟩:=hn;⟨o,es,ep,Heap.get?_push_of_some _ (Heap.get?_push_of_some _ e),r⟩
  have hget:((h.push { cls := .type "tuple",data := .seq rest.toArray }).push
      { cls := .ref C,data := .fields #[.ref h.objs.size,.none,.none,.none,.bool false,.none] }).get? (h.objs.size+1)=some
      { cls := .ref C,data := .fields #[.ref h.objs.size,.none,.none,.none,.bool false,.none] }:=by heap_get
  have T₁:=T.keeps (h' := (h.push { cls := .type "tuple",data := .seq rest.toArray }).push { cls := .ref C,data := .fields #[.ref h.objs.size,.none,.none,.none,.bool false,.none] })
    fun b o e=>Heap.get?_push_of_some _ (Heap.get?_push_of_some _ e)
  have hcC:(Value.ref C::bm).contains (.ref C)=true:=by simp
  unfold isInstance
  repeat (first | with_reducible refine wpAny_loadPart_at hget ?_ | (with_reducible refine wpAny_isSubtype_exc hC₁ ?_;rw [hcC]) | wp_step)
  show wpAny _ _ (typeLookup (.ref C) _) _ _ _
  refine wpAny_typeLookup_tail hC₁ hn₁ T₁ F.mroIs F.init.lookup ?_
  rw [hi]
  refine wpAny_holding (wpAny_bind ?_)
  unfold bindSpecial
  refine wpAny_bind (wpAny_typeOf (T := "function") ⟨_,hfI₁,hfc⟩ ?_)
  rw [if_pos (by decide)]
  refine wpAny_pure (wpAny_bind (wpAny_mono (hq _ (h.objs.size+1) ⟨fun b o hb=>Heap.get?_push_of_some _ (Heap.get?_push_of_some _ hb),Heap.get?_none_of_le (Nat.le_succ _),h.objs.size,hget,Heap.get?_none_of_le (Nat.le_refl _),?_⟩ (Nat.le_succ _)) (fun r s' hr => ?_) fun _ _ x=>x))
  · exact Heap.get?_push_of_some _ (Heap.get?_push_at rfl rfl)
  · obtain⟨rfl,hQ⟩:=hr
    wp_walk
    exact hQ
theorem q6r (F:ExcBaseFacts B newId initId bmB) (T:OwnTail h bmB bm) {mN:Str→Option Value} {rest:List Value} {fI:Addr} {oI:Obj} {Q:Value→Shared→Prop}
    (hC:h.get? C=some (excClassObj nm q C N bs bm hdct sn sub ab col dd k0 k1 k2 k3 k5 newId)) (hn:h.Ns N mN) (hi:mN "__init__" = some (.ref fI))
    (hfI:h.get? fI=some oI) (hfc:oI.cls = .type "function")
    (hq:∀ h' e,Heap.MadeExcOf h h' e (.ref C) rest→h.objs.size≤e →
      wpAny (model prog w) (A.under (.builtin "type.__call__" ⟨.ref C::rest,[]⟩)) (call (.ref fI) (.ref e::rest)) (fun r s' => r = .none∧Q (.ref e) s') E ⟨h',g,d,t,os⟩) (hrest:rest.length≤sizeLine:=by size_fits) :
    wpAny (model prog w) A (call (.ref C) rest) Q E ⟨h,g,d,t,os⟩:=by
  have f1:=tc_lookup
  have f2:=tc_bind (.ref C)
  have hT:(⟨h,g,d,t,os⟩:Shared).TypeIs (.ref C) "type" := ⟨_,hC,rfl⟩
  refine wpAny_call (codeAny_of_tree ?_)
  show wpAny _ _ (callAny (.ref C) _) _ _ _
  repeat (any_goals (first | assumption | with_reducible refine wpAny_loadPart_at hC ?_ | wp_step))
  refine⟨rfl,?_⟩
  refine codeAny_call_builtin_at (Code.quiet_builtin _ (by decide +kernel)) entry_typeCall (wpAny_check_type_call_sub hC (q3t (hrest:=hrest) F T hC hn hi hfI hfc fun h' e hm hle => ?_))
  exact hq h' e hm hle
theorem raiseX {env:Env} {M:Model} {s:Shared} {x:Sem Value} {Q:Flow→Shared→Prop} (hbase:bm.contains (.type "BaseException")=true) (hh:A.handled=none)
    (h:wpAny M A x (fun v s₁=>∃ e de vs sl,v = .ref e∧s₁.heap.get? C=some (excClassObj nm q C N bs bm hdct sn sub ab col dd k0 k1 k2 k3 k5 newId) ∧
      s₁.heap.get? e=some { cls := .ref C,dict:=de,data := .fields vs,slots:=sl }∧vs[1]? = some .none∧E (.ref e) s₁) E s) :
    wpAny M A (raiseStmt env (some x) none) Q E s:=by
  have hcB:(Value.ref C::bm).contains (.type "BaseException")=true:=by rw [List.contains_cons,hbase,Bool.or_true]
  unfold raiseStmt
  refine wpAny_bind (wpAny_mono h (fun v s₁ h₁ => ?_) fun _ _ x=>x)
  obtain⟨e,de,vs,sl,rfl,hC,he,h1,hE⟩:=h₁
  obtain⟨hp,g,d,tk,os⟩:=s₁
  repeat (first | with_reducible refine wpAny_loadPart_at he ?_ | with_reducible refine wpAny_loadPart_at hC ?_ | (with_reducible refine wpAny_isSubtype_exc hC ?_;rw [hcB]) | (with_reducible refine wpAny_field he rfl h1 ?_) | wp_step)
  exact wpAny_raiseNew_none hh hE
end
end L2
namespace L2
open PySem PySem.Spec PyProof.Rows
def ExN (C:Value) (dd:Option Addr) (e:Addr):HO := .ext fun h=>∃ vs sl,h.get? e=some { cls:=C,dict:=dd,data := .fields vs,slots:=sl }∧vs.size=6∧vs[1]? = some .none
abbrev bmV:List Value := [.type "ValueError",.type "Exception",.type "BaseException",.type "object"]
structure EMk (K:PySem.W.Frag) (C fI:Addr) (bm:List Value):Prop where
  ex:∃ nm q N bs hdct sn sub ab col dd k0 k1 k2 k3 k5 mN,K.lookup C=some (excClassObj nm q C N bs bm hdct sn sub ab col dd k0 k1 k2 k3 k5 "ValueError.__new__")∧(∀ h:Heap,K.In h→h.Ns N mN)∧mN "__init__" = some (.ref fI)
  tail:∀ h:Heap,K.In h→OwnTail h bmV bm
  fn:∃ oI,K.lookup fI=some oI∧oI.cls = .type "function"
  kp:PySem.W.keepIn K (.ref C)=true
theorem EMk.base {K:PySem.W.Frag} {C fI:Addr} {bm:List Value} (M:EMk K C fI bm) {h:Heap} (KX:K.In h):bm.contains (.type "BaseException")=true:=(M.tail h KX).hasType (by decide)
section
variable {X:Cx} {pins:List (Addr×Obj)} {σ:St} {H:Hp} {s:Shared} {e:Addr}
theorem Inv.asO {C:Value} {dd:Option Addr} (I:Inv X pins σ H s) (h:H e=some (ExN C dd e)):Inv X pins σ (upd H e (ExO C dd e)) s:=by
  have un:Un (frs X.stack) [] H (upd H e (ExO C dd e)) s.heap s.heap:=by
    have hk:∀ {b:Addr} {o:HO},H b=some o→b≠e∨o=ExN C dd e:=fun {b o} hb=>by
      by_cases z:b=e
      · right;rw [z,h] at hb;exact (Option.some.inj hb).symm
      · exact .inl z
    refine⟨fun b o hb _ _ _=>hb,fun b o hb _ _ _=>⟨o.slots,hb⟩,fun b o _ n _ => ?_,fun b o hb _=>⟨o,hb⟩,fun b xs q => ?_,fun b o u q => ?_,fun b ps q=>⟨#[],?_⟩⟩
    · rw [q0c (fun z=>by rw [z,h] at n;cases n)];exact n
    · rcases hk q with z | z
      · rw [q0c z];exact q
      · cases z
    · rcases hk q with z | z
      · rw [q0c z];exact q
      · cases z
    · rcases hk q with z | z
      · rw [q0c z,q];simp
      · cases z
  have hok:HOk X.prog X.w (upd H e (ExO C dd e)) s.heap:=fun a o ha=>by
    by_cases z:a=e
    · subst z
      rw [q0b] at ha
      cases ha
      obtain⟨⟨vs,sl,q1,q2,_⟩,q3,_⟩:=I.hok a _ h
      exact⟨⟨vs,sl,q1,q2⟩,q3,fun h1 h2 ⟨ws,sl,k1,k2⟩ k=>⟨ws,sl,k _ k1,k2⟩⟩
    · rw [q0c z] at ha
      refine (I.hok a o ha).stay (fun b u _ q=>q) (fun b q => ?_) fun b xs q => ?_
      · rw [q0c (fun y=>by rw [y,h] at q;cases q)];exact q
      · rw [q0c (fun y=>by rw [y,h] at q;cases q)];exact q
  exact I.call' (s' := s) rfl un hok I.bare fun b z=>absurd z (by simp)
def tRaise (C:Addr) (sp:Sp) (J:Addr→St→Hp→Prop) (t:TA):TS:=fun _ σ H=>t σ H fun vs H1=>∀ ea,H1 ea=none →
  sp (.ref ea::vs) (upd H1 ea (ExN (.ref C) none ea)) (fun v H2=>v = .non∧∃ dd,H2 ea=some (ExN (.ref C) dd ea)∧J ea σ (upd H2 ea (ExO (.ref C) dd ea))) E0
theorem z7n {J:Addr→St→Hp→Prop} {k:Nat} {C fI:Addr} {bm:List Value} {fd:FuncData} {ps:List Str} {sp:Sp} {x:Str} {np cpos pos:Pos} {e₀:Expr} {es:List Expr} {t:TA} (M:EMk X.K C fI bm) (F:FnOk X.prog X.w X.K X.mg X.base CX0 k fI fd ps sp) (hr:Room (k+1) X.A)
    (hb:Binds X.K fd ps []) (hx:AccX X J) (hc:X.calm=true) (hg:Gl X x) (hm:X.mg x=some (.ref C)) (ha:PA X (e₀::es) t) (hps:ps.length≤100:=by decide) (hdb:(x==("__debug__" : Str))=false:=by decide)
    (he:starEach (e₀::es) X.env=(false,eval e₀ X.env)::starEach es X.env:=by rfl) (hpl:(backTo cpos (starEach es X.env)).any (·.1)=false:=by rfl) :
    PS X (.Raise (some (.Call (.Name x np) (e₀::es) [] cpos)) none pos) (tRaise C sp J t):=by
  intro pins s σ H D I h
  obtain⟨nm,q,N,bs,hdct,sn,sub,ab,col,dd,k0,k1,k2,k3,k5,mN,lk,hN,hi⟩:=M.ex
  obtain⟨oI,lkI,hfc⟩:=M.fn
  have key:wpAny (model X.prog X.w) X.A (eval (.Call (.Name x np) (e₀::es) [] cpos) X.env) (fun v s₁=>∃ e de vs sl,v = .ref e∧s₁.heap.get? C=some (excClassObj nm q C N bs bm hdct sn sub ab col dd k0 k1 k2 k3 k5 "ValueError.__new__") ∧
      s₁.heap.get? e=some { cls := .ref C,dict:=de,data := .fields vs,slots:=sl }∧vs[1]? = some .none∧X.xe (.ref e) s₁) X.xe s:=by
    refine wpAny_Call_Name_kw (q3p I hg hm ?_ hdb)
    refine PySem.W.callWith_K (h₀:=X.base) I.ok.mod.kin M.kp (thn (ha cpos pins s σ H _ I h) fun us s1 ⟨vs,H1,I1,r,hq⟩=>⟨I1.kIn,?_⟩) he hpl
    obtain⟨hp,g,dr,tk,os⟩:=s1
    have KX:=I1.kIn
    have hlen:us.length≤sizeLine:=by
      have hh:=F.len _ _ _ _ (hq hp.objs.size (I1.hok.fresh (Nat.le_refl _)))
      rw [List.length_cons] at hh
      rw [← r.length,sizeLine_eq]
      lia
    refine q6r (hrest:=hlen) PySem.F.excBase_ValueError (M.tail hp KX) (KX _ _ lk) (hN hp KX) hi (KX _ _ lkI) hfc fun h' e hme hle => ?_
    have hfree:=I1.hok.fresh hle
    obtain⟨t0,hrec,_,_⟩:=hme.there
    have I2:Inv X pins σ (upd H1 e (ExN (.ref C) none e)) ⟨h',g,dr,tk,os⟩:=I1.laid (h' := h') (t' := tk) (fun b u q=>hme.keeps b u q) hle ⟨⟨_,_,hrec,rfl,rfl⟩,⟨_,hrec⟩,fun h1 h2 ⟨ws,sl,k1,k2⟩ k=>⟨ws,sl,k _ k1,k2⟩⟩
    have hq' := hq e hfree
    have r2:Vals (V.ref e::vs) (Value.ref e::us) := .cons rfl r
    have hl:((Value.ref e::us) ++ []).length=ps.length:=by rw [List.append_nil,← r2.length];exact F.len _ _ _ _ hq'
    have hb' := hb ⟨h',g,dr,tk,os⟩ (Value.ref e::us) I2.kIn hl
    rw [List.append_nil] at hb'
    refine wpAny_call (codeAny_mono (F.run _ X.stack _ _ ⟨Value.ref e::us,[]⟩ (Value.ref e::us) _ _ _ (hr.make C us []) (I2.env0.make C us []) hb' r2 hq') fun r s' hz => ?_)
    cases r with
    | error e=>exact hz.elim
    | ok fl =>
      cases fl with
      | ret u =>
        obtain⟨v,H',I3,rv,ev,de,hE,j⟩:=I2.after hz
        subst ev
        refine⟨rv,?_⟩
        obtain⟨⟨ws,sl,q1,q2,q3⟩,_,_⟩:=I3.hok e _ hE
        refine⟨e,de,ws,sl,rfl,I3.kIn _ _ lk,q1,q3,hx.acc _ _ ⟨pins,σ,_,e,rfl,I3.asO hE,⟨⟨_,_,q0b⟩,⟨_,ws,q1,rfl,.inl q3,fun T hT => ?_⟩,Nat.le_trans I1.sz hle⟩,j⟩⟩
        rw [q3] at hT
        cases hT
      | next=>exact False.elim hz
      | brk=>exact False.elim hz
      | cont=>exact False.elim hz
  rw [arm_exec_Raise]
  have hbase:=M.base I.kIn
  first
    | exact wpAny_bind (wpAny_standAt (raiseX hbase (I.ok.hd hc) (wpAny_bind (wpAny_mono key (fun v s₁ z=>wpAny_bind (wpAny_standAt (wpAny_pure z))) fun _ _ z=>z))))
    | (simp only [evalOpt,Option.map];exact wpAny_bind (wpAny_standAt (raiseX hbase (I.ok.hd hc) (wpAny_bind (wpAny_mono key (fun v s₁ z=>wpAny_bind (wpAny_standAt (wpAny_pure z))) fun _ _ z=>z)))))
    | exact wpAny_bind (wpAny_standAt (raiseX hbase (I.ok.hd hc) key))
end
end L2
namespace L2
open PySem PySem.Spec PyProof.Rows
section
variable {prog:Program} {w:World} {A:Around} {R:Result→Shared→Prop} {h:Heap} {g:Array GenState} {d:Drawn} {t:Nat} {os:OsState}
variable {nm q:Str} {C N:Addr} {bs bm bmB:List Value} {hdct:Bool} {sn:List Str} {sub:List Value} {ab:Bool} {col:Option Bool} {dd:Option Addr} {k0 k1 k2 k3 k5:Option Value} {B newId initId:String}
theorem q9j (F:ExcBaseFacts B newId initId bmB) (T:OwnTail h bmB bm) {e:Addr} {de:Option Addr} {vs:Array Value} {sl:Array (Option Value)} {rest:List Value}
    (hC:h.get? C=some (excClassObj nm q C N bs bm hdct sn sub ab col dd k0 k1 k2 k3 k5 newId)) (he:h.get? e=some { cls := .ref C,dict:=de,data := .fields vs,slots:=sl }) (hs:vs.size=6) (hrest:rest.length≤sizeLine)
    (hq:R (.ok (.ret .none)) ⟨(h.push { cls := .type "tuple",data := .seq rest.toArray }).update e (Obj.mapFields (·.setIfInBounds 0 (.ref h.objs.size))),g,d,t,os⟩) :
    codeAny (model prog w) A (.call (.builtin initId) ⟨.ref e::rest,[]⟩) R ⟨h,g,d,t,os⟩:=by
  refine codeAny_call_builtin F.init.plain F.initEntry (wpAny_check_init_subT F T hC he rfl ?_)
  have he2:=Heap.get?_push_of_some { cls := .type "tuple",data := .seq rest.toArray } he
  wp_walk
  have h0:vs[(0:Nat)]? = some (vs[0]'(by lia)):=Array.getElem?_eq_getElem (by lia)
  rw [h0]
  refine wpAny_pure (wpAny_bind (wpAny_setField he2 rfl (by lia) ?_))
  generalize vs[0]'(by lia)=v0
  cases v0 <;> (wp_walk;exact hq)
end
theorem upd_id {H:Hp} {a:Addr} {o:HO} (h:H a=some o):upd H a o=H:=by
  funext b
  by_cases z:b=a
  · rw [z,q0b,h]
  · rw [q0c z]
structure ELow (K:PySem.W.Frag) (C:Addr) (bm:List Value):Prop where
  ex:∃ nm q N bs hdct sn sub ab col dd k0 k1 k2 k3 k5,K.lookup C=some (excClassObj nm q C N bs bm hdct sn sub ab col dd k0 k1 k2 k3 k5 "ValueError.__new__")
  tail:∀ h:Heap,K.In h→OwnTail h bmV bm
theorem EMk.low {K:PySem.W.Frag} {C fI:Addr} {bm:List Value} (M:EMk K C fI bm):ELow K C bm:=by
  obtain⟨nm,q,N,bs,hdct,sn,sub,ab,col,dd,k0,k1,k2,k3,k5,mN,lk,_⟩:=M.ex
  exact⟨⟨nm,q,N,bs,hdct,sn,sub,ab,col,dd,k0,k1,k2,k3,k5,lk⟩,M.tail⟩
structure EIni (K:PySem.W.Frag) (D:Addr) (mc:Value):Prop where
  sp:PySem.W.specialIn K (.ref D) "__getattribute__" = some (some (.builtin "type.__getattribute__"))
  rd:PySem.W.readsIn K D mc=true
  fc:PySem.W.findCls K (.ref D) mc "__init__" = some (.val (.builtin "ValueError.__init__"))
section
variable {X:Cx} {x:Str} {p pos apos:Pos} {a b:Expr} {t:TA} {C D:Addr} {bm:List Value} {mc:Value}
def tIni (C:Addr) (t:TA):TE:=fun σ H Q=>t σ H fun vs H1=>∃ ea v de,vs = [.ref ea,v]∧H1 ea=some (ExN (.ref C) de ea)∧Q .non H1
theorem z1b {pl:Sem Bool} (L:ELow X.K C bm) (N:EIni X.K D mc) (hg:Gl X x) (hm:X.mg x=some (.ref D)) (ha:PA X [a,b] t) (hdb:(x==("__debug__" : Str))=false:=by decide)
    (hst:starEach [a,b] X.env=(false,eval a X.env)::starEach [b] X.env:=by rfl) (hpl:(backTo pos (starEach [b] X.env)).any (·.1)=false:=by rfl)
    (ht:eval (.Call (.Attribute (.Name x p) "__init__" apos) [a,b] [] pos) X.env=(do
      let ov ← eval (.Name x p) X.env
      standAt apos.atName
      let (f,first) ← holding [ov] (getMethod ov "__init__" pl)
      callWith pos f first (backTo pos (starEach [a,b] X.env)) (backToKw pos (keywordEach [] X.env))):=by rfl) :
    PE X (.Call (.Attribute (.Name x p) "__init__" apos) [a,b] [] pos) (tIni C t):=by
  intro pins s σ H Q I h
  refine PySem.W.methodCall_KW (pl:=pl) (q3p I hg hm ?_ hdb) ht
  refine PySem.W.method_cls I.kIn N.sp (PySem.W.cls_value I.kIn N.rd N.fc rfl ?_)
  refine PyProof.Rows.callWith_builtin1 (thn (ha pos pins _ σ H _ (I.tok _) h) fun us s1 ⟨vs,H1,I1,r,ea,v,de,ev,hE,q⟩ => ?_) hst hpl
  subst ev
  obtain⟨u1,u2,rfl,ru,rv⟩:=r.two
  obtain rfl:u1=Value.ref ea:=ru
  obtain⟨hp,g,dr,tk,os⟩:=s1
  obtain⟨nm,q0,N0,bs,hdct,sn,sub,ab,col,dd,k0,k1,k2,k3,k5,lk⟩:=L.ex
  obtain⟨⟨ws,sl,q1,q2,q3⟩,_,_⟩:=I1.hok ea _ hE
  refine wpAny_call (q9j PySem.F.excBase_ValueError (L.tail hp I1.kIn) (I1.kIn _ _ lk) q1 q2 (by show 1≤sizeLine;decide) ?_)
  have q1' := Heap.get?_push_of_some { cls := .type "tuple",data := .seq #[u2] } q1
  have hrec:=Heap.get?_update_self (Obj.mapFields (·.setIfInBounds 0 (Value.ref hp.objs.size))) q1' rfl
  have I2:=I1.write (x:=ea) (e:=ea) (o:=ExN (.ref C) de ea) (t' := tk) (h' := (hp.push { cls := .type "tuple",data := .seq #[u2] }).update ea (Obj.mapFields (·.setIfInBounds 0 (Value.ref hp.objs.size)))) (by rw [hE];exact trivial) (.inl rfl)
    (fun b u hb hu=>by rw [Heap.get?_update_other _ _ (Ne.symm hb)];exact Heap.get?_push_of_some _ hu) ⟨_,hrec⟩
    ⟨⟨ws.setIfInBounds 0 (.ref hp.objs.size),sl,hrec,by simpa using q2,by rw [Array.getElem?_setIfInBounds_ne (by decide)];exact q3⟩,⟨_,hrec⟩,fun h1 h2 ⟨ws,sl,k1,k2⟩ k=>⟨ws,sl,k _ k1,k2⟩⟩
  rw [upd_id hE] at I2
  exact⟨.non,H1,I2,rfl,q⟩
end
end L2
namespace L2
open PySem PySem.Spec PyProof.Rows
def ExMro (l:List Value):Prop:=∃ rs:List Addr,l=rs.map Value.ref++bmV
theorem z2l (self:Value):refuseLoop self "__setattr__" bmV=pure ():=by kernel_rfl
theorem z5b (self:Value) {l:List Value} (h:ExMro l):refuseLoop self "__setattr__" l=pure ():=by
  obtain⟨rs,rfl⟩:=h
  induction rs with
  | nil=>exact z2l self
  | cons c r ih=>show refuseLoop self "__setattr__" (.ref c::(r.map Value.ref++bmV))=_;rw [refuseLoop_ref];exact ih
theorem q7e {l:List Value} (h:ExMro l):l.contains (.type "object")=true∧l.isEmpty=false:=by
  obtain⟨rs,rfl⟩:=h
  refine⟨?_,?_⟩
  · induction rs with
    | nil=>decide
    | cons c r ih=>show (Value.ref c::(r.map Value.ref++bmV)).contains _=true;rw [List.contains_cons,ih,Bool.or_true]
  · cases rs <;> rfl
structure ESet (K:PySem.W.Frag) (C:Addr) (f:Str):Prop where
  cls:∃ cd,PySem.W.clsIn K C=some cd∧ExMro cd.mro∧cd.hasDict=true
  sa:PySem.W.findIn K (.ref C) "__setattr__" = some (some (.builtin "object.__setattr__"))
  tk:PySem.W.findIn K (.ref C) f=some none
section
variable {prog:Program} {w:World} {A:Around} {R:Result→Shared→Prop} {s:Shared} {K:PySem.W.Frag} {x C:Addr}
theorem q9k {ox:Obj} {od:Option Obj} {name:Str} {tk:Tok} {v:Value} (X:K.In s.heap) (I:PySem.W.InstAt s.heap x ox C od) (S:ESet K C name)
    (h:wpAny (model prog w) A.in1 (Builtin.ObjectAttr.storeInOwnDict (.ref x) (.ref C) (.str name tk) name v false)
      (fun fin s' => match fin with | .done f=>R (.ok f) s' | .again c' => c'.quiet=true∧codeAny (model prog w) A c' R s') (fun e s' => R (.error e) s') s) :
    codeAny (model prog w) A (.call (.builtin "object.__setattr__") ⟨[.ref x,.str name tk,v],[]⟩) R s:=by
  have SF:=PySem.F.store_object
  obtain⟨cd,hc,ho,_⟩:=S.cls
  have sub:PySem.W.Looks (model prog w) s.heap (isInstance (.ref x) (.type "object")) true:=I.type.andThen (PySem.W.looks_mroIn X (by unfold PySem.W.mroIn;rw [hc,Option.bind_some,if_neg (by rw [(q7e ho).2];decide),(q7e ho).1]))
  refine codeAny_call_builtin SF.slot.plain SF.entry (@PySem.W.check_slot (model prog w) _ _ s "object.__setattr__" "object" "__setattr__" (.ref x) [.str name tk,v] [] _ SF.kind SF.split sub (SF.args (.ref x) (.str name tk) v) ?_)
  have hm:PySem.W.Looks (model prog w) s.heap (mroOf (.ref C)) cd.mro:=(PySem.W.looks_clsIn X hc).andThen .now
  rw [PySem.W.osa_eq,refuse_eq]
  refine wpAny_bind (wpAny_bind (I.type.here (wpAny_bind (hm.here ?_))))
  rw [z5b _ ho]
  refine wpAny_pure (wpAny_bind (I.type.here (wpAny_bind ((PySem.W.looks_findIn X S.tk).here (wpAny_bind ?_)))))
  exact wpAny_pure h
end
end L2
namespace L2
open PySem PySem.Spec PyProof.Rows
def XdO (d:Addr) (fs:List (Str×V)):HO := .ext fun h=>∃ mA,h.Ns1 d mA∧(∀ f,RelO (fs.lookup f) (mA f))∧PySem.Within mA (fs.map (·.1))
theorem z9z {P:Program} {w:World} {H:Hp} {h:Heap} {d:Addr} {fs:List (Str×V)} {mA:Str→Option Value} (n:h.Ns1 d mA) (r:∀ f,RelO (fs.lookup f) (mA f)) (wi:PySem.Within mA (fs.map (·.1))):ObjOk P w H h d (XdO d fs) :=
  ⟨⟨mA,n,r,wi⟩,let ⟨o,_,_,e,_⟩:=n;⟨o,e⟩,fun h1 h2 ⟨mA,n,r,wi⟩ k=>⟨mA,n.at k,r,wi⟩⟩
theorem exn_ok {P:Program} {w:World} {H:Hp} {h:Heap} {e:Addr} {C:Value} {dd:Option Addr} {vs:Array Value} {sl:Array (Option Value)} (q1:h.get? e=some { cls:=C,dict:=dd,data := .fields vs,slots:=sl }) (q2:vs.size=6) (q3:vs[1]? = some .none):ObjOk P w H h e (ExN C dd e) :=
  ⟨⟨vs,sl,q1,q2,q3⟩,⟨_,q1⟩,fun h1 h2 ⟨ws,sl,k1,k2⟩ k=>⟨ws,sl,k _ k1,k2⟩⟩
section
variable {X:Cx} {pins:List (Addr×Obj)} {σ:St} {H:Hp} {s:Shared} {x C d:Addr} {f:Str} {y:V} {u:Value} {A:Around} {E:Value→Shared→Prop} {Q:Unit→Shared→Prop}
theorem z5c {fs:List (Str×V)} (I:Inv X pins σ H s) (hE:H x=some (ExN (.ref C) (some d) x)) (hd:H d=some (XdO d fs)) (S:ESet X.K C f) (hl:fs.length<1000) (ry:RelV y u)
    (h:∀ s',Inv X pins σ (upd H d (XdO d (putF f y fs))) s' → Q () s'):wpAny (model X.prog X.w) A (setAttr (.ref x) f u) Q E s:=by
  obtain⟨⟨vs,sl,q1,q2,q3⟩,_,_⟩:=I.hok x _ hE
  obtain⟨⟨mA,n,r,wi⟩,⟨od,hod⟩,_⟩:=I.hok d _ hd
  have J:PySem.W.InstAt s.heap x { cls := .ref C,dict:=some d,data := .fields vs,slots:=sl } C (some od):=⟨q1,rfl,rfl,hod⟩
  refine PySem.W.set_plain I.kIn J S.sa (q9k (s := { s with toks:=s.toks+1 }) I.kIn J S ?_)
  obtain⟨cd,hc,_,hd'⟩:=S.cls
  refine wpAny_bind (wpAny_pure (wpAny_bind (wpAny_bind (wpAny_loadPart q1 (wpAny_bind (PySem.W.Looks.here (s := { s with toks:=s.toks+1 }) (PySem.W.looks_clsIn I.kIn hc) ?_))))))
  rw [hd']
  refine wpAny_pure (a:=some d) (wpAny_bind (wpAny_pure (wpAny_bind ?_)))
  refine wpAny_nsSet1 (s := { s with toks:=s.toks+1 }) n fun h' hn2 hs2 => ?_
  obtain⟨oD,esD,epD,hoD,hdD,hcD⟩:=hn2.count (PySem.Within.cons f u wi)
  refine wpAny_bind (wpAny_lookBehind hoD (by rw [hdD];exact pastItsLine_dict (Nat.le_trans hcD (by rw [List.length_cons,List.length_map,sizeLine_eq];lia))) ?_)
  refine wpAny_pure (h _ (I.write (x:=d) (e:=d) (o:=XdO d (putF f y fs)) (t' := s.toks+1+1) (h' := h') (by rw [hd];exact trivial) (.inl rfl) (fun b q hb z=>(hs2.2 b hb).trans z) ⟨_,hoD⟩ (z9z hn2 (fun g => ?_) fun g hg => ?_)))
  · show RelO ((putF f y fs).lookup g) (if g=f then some u else mA g)
    rw [q2r]
    by_cases q:g=f
    · rw [if_pos q,if_pos q];exact ry
    · rw [if_neg q,if_neg q];exact r g
  · by_cases q:g=f
    · rw [q];exact (q2x f y fs).1
    · refine (q2x f y fs).2 g (wi g fun z=>hg ?_)
      show (if g=f then some u else mA g)=none
      rw [if_neg q];exact z
theorem z5d (I:Inv X pins σ H s) (hE:H x=some (ExN (.ref C) none x)) (S:ESet X.K C f) (ry:RelV y u)
    (h:∀ d s',H d=none→d≠x→Inv X pins σ (upd (upd (upd H d (XdO d [])) x (ExN (.ref C) (some d) x)) d (XdO d [(f,y)])) s' → Q () s'):wpAny (model X.prog X.w) A (setAttr (.ref x) f u) Q E s:=by
  obtain⟨⟨vs,sl,q1,q2,q3⟩,_,_⟩:=I.hok x _ hE
  have J:PySem.W.InstAt s.heap x { cls := .ref C,dict:=none,data := .fields vs,slots:=sl } C none:=⟨q1,rfl,rfl,trivial⟩
  refine PySem.W.set_plain I.kIn J S.sa (q9k (s := { s with toks:=s.toks+1 }) I.kIn J S ?_)
  obtain⟨cd,hc,_,hd'⟩:=S.cls
  refine wpAny_bind (wpAny_pure (wpAny_bind (wpAny_bind (wpAny_loadPart q1 (wpAny_bind (PySem.W.Looks.here (s := { s with toks:=s.toks+1 }) (PySem.W.looks_clsIn I.kIn hc) ?_))))))
  rw [hd']
  have hxlt:=Heap.lt_size q1
  have hfresh:=I.hok.fresh (Nat.le_refl s.heap.objs.size)
  have hne:s.heap.objs.size≠x:=Nat.ne_of_gt hxlt
  have e1:(s.heap.push PySem.W.emptyDict).get? s.heap.objs.size=some PySem.W.emptyDict:=Heap.get?_push_size s.heap rfl
  have e3:(s.heap.push PySem.W.emptyDict).Ns s.heap.objs.size (fun _=>none):=⟨PySem.W.emptyDict,#[],_,e1,rfl,(fun e he=>absurd he (by simp)),fun _=>rfl⟩
  have I1:=I.laid (a:=s.heap.objs.size) (o:=XdO s.heap.objs.size []) (h' := s.heap.push PySem.W.emptyDict) (t' := s.toks+1) (fun b u q=>Heap.get?_push_of_some _ q) (Nat.le_refl _) (z9z (Heap.Ns1.of_empty e3) (fun _=>True.intro) fun y hy=>absurd rfl hy)
  have q1' := Heap.get?_push_of_some PySem.W.emptyDict q1
  have hrec:=Heap.get?_update_self (fun o:Obj => { o with dict:=some s.heap.objs.size }) q1' rfl
  have hE1:upd H s.heap.objs.size (XdO s.heap.objs.size []) x=some (ExN (.ref C) none x):=by rw [q0c (Ne.symm hne)];exact hE
  have I2:=I1.write (x:=x) (e:=x) (o:=ExN (.ref C) (some s.heap.objs.size) x) (t' := s.toks+1) (h' := (s.heap.push PySem.W.emptyDict).update x (fun o:Obj => { o with dict:=some s.heap.objs.size })) (by rw [hE1];exact trivial) (.inl rfl)
    (fun b u hb hu=>by rw [Heap.get?_update_other _ _ (Ne.symm hb)];exact hu) ⟨_,hrec⟩ (exn_ok hrec q2 q3)
  have hd2:upd (upd H s.heap.objs.size (XdO s.heap.objs.size [])) x (ExN (.ref C) (some s.heap.objs.size) x) s.heap.objs.size=some (XdO s.heap.objs.size []):=by rw [q0c hne,q0b]
  obtain⟨⟨mA,n,r,wi⟩,⟨od,hod⟩,_⟩:=I2.hok _ _ hd2
  refine wpAny_bind (wpAny_alloc (wpAny_bind (wpAny_update q1' ?_)))
  refine wpAny_pure (a:=some s.heap.objs.size) (wpAny_bind (wpAny_pure (wpAny_bind ?_)))
  refine wpAny_nsSet1 (s := { s with heap:=(s.heap.push PySem.W.emptyDict).update x (fun o:Obj => { o with dict:=some s.heap.objs.size }),toks:=s.toks+1 }) n fun h' hn2 hs2 => ?_
  obtain⟨oD,esD,epD,hoD,hdD,hcD⟩:=hn2.count (PySem.Within.cons f u wi)
  refine wpAny_bind (wpAny_lookBehind hoD (by rw [hdD];exact pastItsLine_dict (Nat.le_trans hcD (by rw [List.length_cons,List.length_map,sizeLine_eq];decide))) ?_)
  refine wpAny_pure (h s.heap.objs.size _ hfresh hne (I2.write (x:=s.heap.objs.size) (e:=s.heap.objs.size) (o:=XdO s.heap.objs.size [(f,y)]) (t' := s.toks+1+1) (h' := h') (by rw [hd2];exact trivial) (.inl rfl) (fun b q hb z=>(hs2.2 b hb).trans z) ⟨_,hoD⟩ (z9z hn2 (fun g => ?_) fun g hg => ?_)))
  · have e:(putF f y []).lookup g=if g=f then some y else List.lookup g []:=q2r f g y []
    show RelO ((putF f y []).lookup g) (if g=f then some u else mA g)
    rw [e]
    by_cases q:g=f
    · rw [if_pos q,if_pos q];exact ry
    · rw [if_neg q,if_neg q];exact r g
  · by_cases q:g=f
    · rw [q];exact List.mem_cons_self
    · exfalso
      have:=wi g fun z=>hg (by show (if g=f then some u else mA g)=none;rw [if_neg q];exact z)
      cases this
end
end L2
namespace L2
open PySem PySem.Spec PyProof.Rows
structure EGet (K:PySem.W.Frag) (C:Addr) (f:Str):Prop where
  cls:∃ cd,PySem.W.clsIn K C=some cd∧ExMro cd.mro∧cd.hasDict=true
  ga:PySem.W.findIn K (.ref C) "__getattribute__" = some (some (.builtin "BaseException.__getattribute__"))
  gh:PySem.W.findIn K (.ref C) "__getattr__" = some none
  tk:PySem.W.findIn K (.ref C) f=some none
theorem z5e {l:List Value} (h:ExMro l):l.contains (.type "BaseException")=true:=by
  obtain⟨rs,rfl⟩:=h
  induction rs with
  | nil=>decide
  | cons c r ih=>show (Value.ref c::(r.map Value.ref++bmV)).contains _=true;rw [List.contains_cons,ih,Bool.or_true]
section
variable {prog:Program} {w:World} {A:Around} {E:Value→Shared→Prop} {s:Shared} {K:PySem.W.Frag} {x C:Addr} {ox:Obj} {od:Option Obj} {name:Str} {expr:Bool} {v:Value} {Q:Value→Shared→Prop}
theorem getE (X:K.In s.heap) (I:PySem.W.InstAt s.heap x ox C od) (G:EGet K C name) (hf:PySem.W.findObj K C od name=some (.value v)) (hh:PySem.W.handedIn v=true) (h:Q v { s with toks:=s.toks+1 }) :
    wpAny (model prog w) A (getAttr (.ref x) name expr) Q E s:=by
  obtain⟨hp,g,d,t,os⟩:=s
  have L0:=I.type (M:=model prog w)
  have L1:=PySem.W.looks_findIn (M:=model prog w) X G.ga
  have L2:=PySem.W.looks_findIn (M:=model prog w) X G.gh
  have L3:=PySem.W.looks_find (M:=model prog w) X I hf
  have SG:=PySem.F.excAttr_ValueError.ga
  obtain⟨cd,hc,ho,_⟩:=G.cls
  have sub:PySem.W.Looks (model prog w) hp (isInstance (.ref x) (.type "BaseException")) true:=I.type.andThen (PySem.W.looks_mroIn X (by unfold PySem.W.mroIn;rw [hc,Option.bind_some,if_neg (by rw [(q7e ho).2];decide),z5e ho]))
  have hk:builtinKind "BaseException.__getattribute__" = some .slot:=by decide +kernel
  have hsplit:splitId "BaseException.__getattribute__" = some ("BaseException", "__getattribute__"):=by decide +kernel
  unfold getAttr getAttrBy
  refine wpAny_bind (wpAny_mkText (wpAny_holding (wpAny_bind (L0.at (wpAny_bind (L1.at ?_))))))
  have hx2:(onTheHeap (Value.ref C)&&Value.builtin "BaseException.__getattribute__" == Value.builtin "object.__getattribute__")=false:=by
    have z:(Value.builtin "BaseException.__getattribute__" == Value.builtin "object.__getattribute__")=false:=by decide +kernel
    rw [z];rfl
  show wpAny _ _ (if (onTheHeap (Value.ref C)&&Value.builtin "BaseException.__getattribute__" == Value.builtin "object.__getattribute__")=true then _ else _) _ _ _
  rw [hx2]
  show wpAny _ _ (getAttrByItsOwn _ _ _ _ _ _) _ _ _
  unfold getAttrByItsOwn hookBefore
  refine wpAny_bind (show wpAny _ _ (typeLookup (.ref C) "__getattr__") _ _ _ from L2.at ?_)
  have hx0:(expr&&onTheHeap (Value.builtin "BaseException.__getattribute__"))=false:=by cases expr <;> rfl
  unfold callGetattribute boundAndCalled
  rw [hx0]
  refine wpAny_bind (wpAny_attempt (wpAny_holding (show wpAny _ _ (bindSpecial _ _ >>= _) _ _ _ from ?_)))
  rw [SG.bind]
  refine wpAny_bind (wpAny_pure (wpAny_call (codeAny_call_builtin SG.plain PySem.F.entry_bexc_ga (@PySem.W.check_slot (model prog w) _ _ _ "BaseException.__getattribute__" "BaseException" "__getattribute__" (.ref x) [.str name t] [] _ hk hsplit sub (PySem.F.args_bexc_ga (.ref x) (.str name t)) ?_))))
  refine wpAny_bind (wpAny_pure (wpAny_bind (wpAny_pure (wpAny_bind (L0.at (wpAny_bind (L3.at ?_)))))))
  refine wpAny_pure ?_
  show wpAny _ _ (handedOut v) _ _ _
  rw [PySem.W.handedOut_of hh];exact wpAny_pure h
end
end L2
namespace L2
open PySem PySem.Spec PyProof.Rows
section
variable {X:Cx} {e o value:Expr} {f:Str} {pos pos' : Pos} {ta tv:TE}
def tEfld (K:PySem.W.Frag) (ta:TE) (f:Str):TE:=fun σ H Q=>ta σ H fun x H1=>∃ a C d fs v,x = .ref a∧(H1 a=some (ExO (.ref C) (some d) a)∨H1 a=some (ExN (.ref C) (some d) a))∧H1 d=some (XdO d fs)∧EGet K C f∧fs.lookup f=some v∧Q v H1
theorem efld_k (K:PySem.W.Frag) (hK:X.K=K) (he:PE X e ta) (hb:attributeBase e f X.env (eval e X.env)=eval e X.env:=by rfl):PE X (.Attribute e f pos) (tEfld K ta f):=by
  subst hK
  intro pins s σ H Q I h
  refine z3h hb (thn (he pins s σ H _ I h) fun u s1 ⟨x,H1,I1,rx,a,C,d,fs,v,ex,ea,hd,G,l,q⟩ => ?_)
  subst ex
  obtain rfl:u=Value.ref a:=rx
  obtain⟨⟨mA,n,r,wi⟩,_,_⟩:=I1.hok d _ hd
  obtain⟨od,hod,hlk⟩:=q8i n
  have hrec:∃ vs sl,s1.heap.get? a=some { cls := .ref C,dict:=some d,data := .fields vs,slots:=sl }:=by
    rcases ea with ea | ea
    · obtain⟨⟨vs,sl,q1,_⟩,_,_⟩:=I1.hok a _ ea;exact⟨vs,sl,q1⟩
    · obtain⟨⟨vs,sl,q1,_⟩,_,_⟩:=I1.hok a _ ea;exact⟨vs,sl,q1⟩
  obtain⟨vs,sl,q1⟩:=hrec
  have J:PySem.W.InstAt s1.heap a { cls := .ref C,dict:=some d,data := .fields vs,slots:=sl } C (some od):=⟨q1,rfl,rfl,hod⟩
  have hr:=r f
  rw [l] at hr
  cases hm:mA f with
  | none=>rw [hm] at hr;exact hr.elim
  | some u =>
    rw [hm] at hr
    have ru:RelV v u:=hr
    have hh:PySem.W.hasDictIn X.K C=true:=by
      obtain⟨cd,hc,_,hd'⟩:=G.cls
      unfold PySem.W.hasDictIn
      rw [hc]
      exact hd'
    exact getE I1.kIn J G (PySem.W.findObj_own hh G.tk rfl (by rw [hlk,hm])) (q8j ru) ⟨v,H1,I1.tok _,ru,q⟩
def sEfld (K:PySem.W.Frag) (ta tv:TE) (f:Str):TS:=fun D σ H=>tv σ H fun y H1=>ta σ H1 fun x H2=>∃ a C,x = .ref a∧ESet K C f ∧
  ((H2 a=some (ExN (.ref C) none a)∧∀ d,H2 d=none→d≠a→D.nx σ (upd (upd (upd H2 d (XdO d [])) a (ExN (.ref C) (some d) a)) d (XdO d [(f,y)]))) ∨
    ∃ d fs,H2 a=some (ExN (.ref C) (some d) a)∧H2 d=some (XdO d fs)∧fs.length<1000∧D.nx σ (upd H2 d (XdO d (putF f y fs))))
theorem z1c (K:PySem.W.Frag) (hK:X.K=K) (ha:PE X o ta) (hv:PE X value tv) (hs:swapsWith value (some (.Attribute o f pos')) pos.line X.env=pure false:=by rfl):PS X (.Assign [.Attribute o f pos'] value pos) (sEfld K ta tv f):=by
  subst hK
  intro pins s σ H D I h
  refine plainObj_wpAny_Assign_Attribute (thn (hv pins s σ H _ I h) fun u s1 ⟨y,H1,I1,ry,q⟩=>thn (ha pins s1 σ H1 _ I1 q) fun ov s2 ⟨x,H2,I2,rx,a,C,ex,S,q2⟩ => ?_) hs
  subst ex
  obtain rfl:ov=Value.ref a:=rx
  rcases q2 with ⟨hE,q2⟩ | ⟨d,fs,hE,hd,hl,q2⟩
  · exact z5d I2 hE S ry fun d s3 hn hne I3=>⟨σ,_,I3,q2 d hn hne⟩
  · exact z5c I2 hE hd S hl ry fun s3 I3=>⟨σ,_,I3,q2⟩
end
end L2
namespace L2
open PySem PySem.Spec PyProof.Rows
structure EIsi (K:PySem.W.Frag) (C:Addr):Prop where
  cls:∃ cd,PySem.W.clsIn K C=some cd∧ExMro cd.mro∧cd.hasDict=true
  ga:PySem.W.findIn K (.ref C) "__getattribute__" = some (some (.builtin "BaseException.__getattribute__"))
  gh:PySem.W.findIn K (.ref C) "__getattr__" = some none
  ha:PySem.W.findIn K (.ref C) "__class__" = some (some (.builtin "object.__class__"))
  hn:PySem.W.specialIn K (.builtin "object.__class__") "__get__" = some (some (.builtin "getset_descriptor.__get__"))
  htk:PySem.W.takesIn K (.builtin "object.__class__")=some true
section
variable {prog:Program} {w:World} {A:Around} {E:Value→Shared→Prop} {s:Shared} {K:PySem.W.Frag} {x C:Addr} {ox:Obj} {od:Option Obj}
theorem EIsi.obj (G:EIsi K C):PySem.W.mroIn K C (.type "object")=some true:=by
  obtain⟨cd,hc,ho,_⟩:=G.cls
  unfold PySem.W.mroIn;rw [hc,Option.bind_some,if_neg (by rw [(q7e ho).2];decide),(q7e ho).1]
theorem classE {fill expr:Bool} {tk:Tok} {Q:Value→Shared→Prop} (X:K.In s.heap) (I:PySem.W.InstAt s.heap x ox C od) (G:EIsi K C) (h:Q (.ref C) s) :
    wpAny (model prog w) A (getAttrBy (.ref x) (.str "__class__" tk) fill expr) Q E s:=by
  obtain⟨hp,g,d,t,os⟩:=s
  have L0:=I.type (M:=model prog w)
  have L1:=PySem.W.looks_findIn (M:=model prog w) X G.ga
  have L2:=PySem.W.looks_findIn (M:=model prog w) X G.gh
  obtain⟨cd,hc,ho,_⟩:=G.cls
  have hf:PySem.W.findObj K C od "__class__" = some (.bind (.builtin "getset_descriptor.__get__") (.builtin "object.__class__")):=by
    unfold PySem.W.findObj
    rw [hc,Option.bind_some,G.ha,Option.bind_some]
    dsimp only
    rw [G.hn,Option.bind_some]
    dsimp only
    rw [G.htk,Option.bind_some]
  have L3:=PySem.W.looks_find (M:=model prog w) X I hf
  have SG:=PySem.F.excAttr_ValueError.ga
  have sub:PySem.W.Looks (model prog w) hp (isInstance (.ref x) (.type "BaseException")) true:=I.type.andThen (PySem.W.looks_mroIn X (by unfold PySem.W.mroIn;rw [hc,Option.bind_some,if_neg (by rw [(q7e ho).2];decide),z5e ho]))
  have hk:builtinKind "BaseException.__getattribute__" = some .slot:=by decide +kernel
  have hsplit:splitId "BaseException.__getattribute__" = some ("BaseException", "__getattribute__"):=by decide +kernel
  unfold getAttrBy
  refine wpAny_holding (wpAny_bind (L0.at (wpAny_bind (L1.at ?_))))
  have hx2:(onTheHeap (Value.ref C)&&Value.builtin "BaseException.__getattribute__" == Value.builtin "object.__getattribute__")=false:=by
    have z:(Value.builtin "BaseException.__getattribute__" == Value.builtin "object.__getattribute__")=false:=by decide +kernel
    rw [z];rfl
  show wpAny _ _ (if (onTheHeap (Value.ref C)&&Value.builtin "BaseException.__getattribute__" == Value.builtin "object.__getattribute__")=true then _ else _) _ _ _
  rw [hx2]
  show wpAny _ _ (getAttrByItsOwn _ _ _ _ _ _) _ _ _
  unfold getAttrByItsOwn hookBefore
  refine wpAny_bind (show wpAny _ _ (typeLookup (.ref C) "__getattr__") _ _ _ from L2.at ?_)
  have hx0:(expr&&onTheHeap (Value.builtin "BaseException.__getattribute__"))=false:=by cases expr <;> rfl
  unfold callGetattribute boundAndCalled
  rw [hx0]
  refine wpAny_bind (wpAny_attempt (wpAny_holding (show wpAny _ _ (bindSpecial _ _ >>= _) _ _ _ from ?_)))
  rw [SG.bind]
  refine wpAny_bind (wpAny_pure (wpAny_call (codeAny_call_builtin SG.plain PySem.F.entry_bexc_ga (@PySem.W.check_slot (model prog w) _ _ _ "BaseException.__getattribute__" "BaseException" "__getattribute__" (.ref x) [.str "__class__" tk] [] _ hk hsplit sub (PySem.F.args_bexc_ga (.ref x) (.str "__class__" tk)) ?_))))
  refine wpAny_bind (wpAny_pure (wpAny_bind (wpAny_pure (wpAny_bind (L0.at (wpAny_bind (L3.at ?_)))))))
  show wpAny _ _ (holding [.builtin "object.__class__"] (call (.builtin "getset_descriptor.__get__") [.builtin "object.__class__",.ref x,.ref C]) >>= _) _ _ _
  refine wpAny_bind (wpAny_holding (wpAny_call (PySem.W.class_get X I G.obj (wpAny_pure ?_))))
  show wpAny _ _ (handedOut _) _ _ _
  rw [PySem.W.handedOut_of rfl];exact wpAny_pure h
theorem q8a (G:EIsi K C):PySem.W.KitX K (.ref x) (.ref C) (fun h=>∃ ox od,PySem.W.InstAt h x ox C od) where
  ty:=fun _ _ _ ⟨_,_,I⟩=>I.type
  it:=fun _ _ X _=>by
    obtain⟨cdD,hcD,_⟩:=G.cls
    unfold PySem.W.clsIn at hcD
    split at hcD
    · rename_i c' d' cd' sl' ho
      intro A' Q' E' s' k q
      unfold isType loadHead
      exact wpAny_bind (wpAny_loadPart (k _ _ (X _ _ ho)) (wpAny_pure q))
    · cases hcD
  ne:=fun h tp dd its n sl X htp=>by
    obtain⟨cdD,hcD,_⟩:=G.cls
    refine Bool.eq_false_iff.mpr fun q => ?_
    have e:C=tp:=Value.ref.inj (beq_iff_eq.mp q)
    subst e
    unfold PySem.W.clsIn at hcD
    split at hcD
    · rename_i c' d' cd' sl' ho
      have z:=(X _ _ ho).symm.trans htp
      cases z
    · cases hcD
  ca:=fun {prog w A E Q s} X ⟨ox,od,I⟩ k=>by
    unfold getAttr? getAttrBy?
    refine wpAny_bind (wpAny_mkText (wpAny_bind (wpAny_attempt (classE (s := { s with toks:=s.toks+1 }) X I G ?_))))
    exact wpAny_pure k
end
section
variable {X:Cx}
end
end L2
namespace L2
open PySem PySem.Spec PyProof.Rows
def strKey (e:DictEntry):Bool:=match e.key with | .str _ _=>true | _=>false
def isNsK (K:PySem.W.Frag) (N:Addr):Bool:=match K.lookup N with | some ⟨_,_,.dict es _,_⟩=>es.toList.all strKey | _=>false
def nsMapK (K:PySem.W.Frag) (N:Addr) (name:Str):Option Value:=match K.lookup N with | some ⟨_,_,.dict es _,_⟩=>nsFind es name | _=>none
theorem ns_K {K:PySem.W.Frag} {N:Addr} (e:isNsK K N=true) (h:Heap) (X:K.In h):h.Ns N (nsMapK K N):=by
  unfold isNsK at e
  split at e
  · rename_i c d es ep sl q
    refine⟨_,es,ep,X _ _ q,rfl,fun x hx => ?_,fun name => ?_⟩
    · have hx' := List.all_eq_true.mp e x (Array.mem_toList_iff.mpr hx)
      unfold strKey at hx'
      split at hx'
      · exact⟨_,_,by assumption⟩
      · cases hx'
    · unfold nsMapK;rw [q]
  · cases e
theorem z0h {K:PySem.W.Frag} {N:Addr} {name:Str} {v:Value} (e:PySem.W.nsIn K N name=some (some v)):nsMapK K N name=some v:=by
  unfold PySem.W.nsIn at e
  unfold nsMapK
  split at e
  · rename_i c d es ep sl q
    rw [q]
    dsimp only
    split at e
    · rename_i x hx
      unfold nsFind findBy
      rw [← Array.find?_toList,hx]
      exact Option.some.inj e
    · split at e <;> cases e
  · cases e
theorem q6i {K:PySem.W.Frag} {N:Addr} {name:Str} (e:PySem.W.nsIn K N name=some none):nsMapK K N name=none:=by
  unfold PySem.W.nsIn at e
  unfold nsMapK
  split at e
  · rename_i c d es ep sl q
    rw [q]
    dsimp only
    split at e
    · cases e
    · rename_i hx
      unfold nsFind findBy
      rw [← Array.find?_toList,hx]
      rfl
  · cases e
theorem q3h {K:PySem.W.Frag} {N:Addr} {oc:Value} {od:Option Addr} {es:Array DictEntry} {ep:Nat} {sl:Array (Option Value)} (l:K.lookup N=some ⟨oc,od,.dict es ep,sl⟩) (h:es.toList.all strKey=true):isNsK K N=true:=by
  unfold isNsK;rw [l];exact h
structure EBase (K:PySem.W.Frag) (D:Addr):Prop where
  ex:∃ nm q N bs sn sub ab col dd k0 k1 k2 k3 k5,K.lookup D=some (excClassObj nm q D N bs bmV true sn sub ab col dd k0 k1 k2 k3 k5 "ValueError.__new__")∧isNsK K N=true∧PySem.W.nsIn K N "__init__" = some none
theorem EBase.cls {K:PySem.W.Frag} {D:Addr} (B:EBase K D):ECls K D bmV:=by
  obtain⟨nm,q,N,bs,sn,sub,ab,col,dd,k0,k1,k2,k3,k5,lk,_⟩:=B.ex
  exact⟨⟨nm,q,N,bs,true,sn,sub,ab,col,dd,k0,k1,k2,k3,k5,_,lk⟩,by decide⟩
theorem EBase.tail {K:PySem.W.Frag} {D:Addr} (B:EBase K D) (h:Heap) (X:K.In h):OwnTail h bmV (.ref D::bmV):=by
  obtain⟨nm,q,N,bs,sn,sub,ab,col,dd,k0,k1,k2,k3,k5,lk,hn,hi⟩:=B.ex
  exact .own (X _ _ lk) (ns_K hn h X) (q6i hi) .base
structure ELaw (K:PySem.W.Frag) (C D fI:Addr):Prop where
  ex:∃ nm q N bs sn sub ab col dd k0 k1 k2 k3 k5,K.lookup C=some (excClassObj nm q C N bs (.ref D::bmV) true sn sub ab col dd k0 k1 k2 k3 k5 "ValueError.__new__")∧isNsK K N=true∧PySem.W.nsIn K N "__init__" = some (some (.ref fI))
  fn:∃ oI,K.lookup fI=some oI∧oI.cls = .type "function"
  kp:PySem.W.keepIn K (.ref C)=true
section
variable {K:PySem.W.Frag} {C D fI:Addr}
theorem ELaw.mk_ (L:ELaw K C D fI) (B:EBase K D):EMk K C fI (.ref D::bmV):=by
  obtain⟨nm,q,N,bs,sn,sub,ab,col,dd,k0,k1,k2,k3,k5,lk,hn,hi⟩:=L.ex
  exact⟨⟨nm,q,N,bs,true,sn,sub,ab,col,dd,k0,k1,k2,k3,k5,nsMapK K N,lk,ns_K hn,z0h hi⟩,fun h X=>B.tail h X,L.fn,L.kp⟩
theorem ELaw.cls (L:ELaw K C D fI):ECls K C (.ref D::bmV):=by
  obtain⟨nm,q,N,bs,sn,sub,ab,col,dd,k0,k1,k2,k3,k5,lk,_⟩:=L.ex
  exact⟨⟨nm,q,N,bs,true,sn,sub,ab,col,dd,k0,k1,k2,k3,k5,_,lk⟩,by rw [List.contains_cons,show bmV.contains (.type "BaseException")=true from by decide,Bool.or_true]⟩
theorem ELaw.sub (L:ELaw K C D fI):SubX K (.ref C) D:=⟨C,_,rfl,L.cls,by simp⟩
theorem ELaw.clsIn (L:ELaw K C D fI):∃ cd,PySem.W.clsIn K C=some cd∧ExMro cd.mro∧cd.hasDict=true:=by
  obtain⟨nm,q,N,bs,sn,sub,ab,col,dd,k0,k1,k2,k3,k5,lk,_⟩:=L.ex
  unfold PySem.W.clsIn
  rw [lk]
  exact⟨_,rfl,⟨[C,D],rfl⟩,rfl⟩
theorem ELaw.set (L:ELaw K C D fI) {f:Str} (sa:PySem.W.findIn K (.ref C) "__setattr__" = some (some (.builtin "object.__setattr__"))) (tk:PySem.W.findIn K (.ref C) f=some none):ESet K C f:=⟨L.clsIn,sa,tk⟩
theorem ELaw.get (L:ELaw K C D fI) {f:Str} (ga:PySem.W.findIn K (.ref C) "__getattribute__" = some (some (.builtin "BaseException.__getattribute__"))) (gh:PySem.W.findIn K (.ref C) "__getattr__" = some none) (tk:PySem.W.findIn K (.ref C) f=some none):EGet K C f:=⟨L.clsIn,ga,gh,tk⟩
end
end L2
namespace L2
open PySem PySem.Spec PyProof.Rows
structure CalE (P:Program) (w:World) (K:PySem.W.Frag) (mg:Str→Option Value) (base:Heap) (x:Str) (C:Addr) (k:Nat) (ps:List Str) (sp:Sp):Prop where
  ex:∃ fI fd bm,EMk K C fI bm∧FnOk P w K mg base CX0 k fI fd ps sp∧Binds K fd ps []
  at_:mg x=some (.ref C)
  sz:ps.length≤100
section
variable {X:Cx} {J:Addr→St→Hp→Prop} {k j:Nat} {C:Addr} {ps:List Str} {sp:Sp} {x:Str} {np cpos pos:Pos} {e₀:Expr} {es:List Expr} {t:TA}
theorem z7o (F:CalE X.prog X.w X.K X.mg X.base x C k ps sp) (hr:Room j X.A) (hx:AccX X J) (hc:X.calm=true) (ha:PA X (e₀::es) t) (hjk:k+1≤j:=by decide) (hg:Gl X x:=by rfl) (hdb:(x==("__debug__" : Str))=false:=by decide)
    (he:starEach (e₀::es) X.env=(false,eval e₀ X.env)::starEach es X.env:=by rfl) (hpl:(backTo cpos (starEach es X.env)).any (·.1)=false:=by rfl) :
    PS X (.Raise (some (.Call (.Name x np) (e₀::es) [] cpos)) none pos) (tRaise C sp J t):=by
  obtain⟨fI,fd,bm,M,Fn,hb⟩:=F.ex
  exact z7n M Fn (hr.mono hjk) hb hx hc hg F.at_ ha F.sz hdb he hpl
end
structure Rfd (H:Hp) (ea C:Addr) (f:Str) (v:V):Prop where
  ex:∃ d,H ea=some (ExO (.ref C) (some d) ea)∧H d=some (XdO d [(f,v)])
theorem raised1 {H1:Hp} {ea C d:Addr} {f:Str} {v:V} (hd:upd H1 ea (ExN (.ref C) none ea) d=none) (hne:d≠ea) :
    ∃ dd,(upd (upd (upd (upd H1 ea (ExN (.ref C) none ea)) d (XdO d [])) ea (ExN (.ref C) (some d) ea)) d (XdO d [(f,v)])) ea=some (ExN (.ref C) dd ea) ∧
      Rfd (upd (upd (upd (upd (upd H1 ea (ExN (.ref C) none ea)) d (XdO d [])) ea (ExN (.ref C) (some d) ea)) d (XdO d [(f,v)])) ea (ExO (.ref C) dd ea)) ea C f v:=by
  refine⟨some d,?_,d,?_,?_⟩
  · rw [q0c (Ne.symm hne),q0b]
  · rw [q0b]
  · rw [q0c hne,q0b]
structure Ef (K:PySem.W.Frag) (mg:Str→Option Value) (x:Str) (C D:Addr) (qual:Str) (st:Stmt) (ps:List Str):Prop where
  ex:∃ f fd mc,Fun K "__init__" qual st f fd∧ELaw K C D f∧EBase K D∧EIni K D mc∧Binds K fd ps []
  at_:mg x=some (.ref C)
theorem Ef.cal {P:Program} {w:World} {K:PySem.W.Frag} {mg:Str→Option Value} {base:Heap} {x qual:Str} {C D:Addr} {st:Stmt} {N ps:List Str} {k:Nat} {sp:Sp} (F:Ef K mg x C D qual st ps) (S:FnScope N ps (defScope st)) (len:∀ vs H Q E,sp vs H Q E→vs.length=ps.length) (hsz:ps.length≤100)
    (hbody:∀ (mc:Value) (f:Addr) (cdv:Value) (A:Around) (outer:List Env) (s:Shared) (H:Hp) (vs:List V) (Q:VK) (E:XK),ELow K C (.ref D::bmV)→EIni K D mc→Room k (A.deeper (envOfC qual (defScope st) s.heap.objs.size f cdv))→sp vs H Q E →
      ∃ t,PSs (cxOf CX0 P w K mg base N qual (defScope st) f cdv A outer s H E).nox (defBody st) t∧t { nx:=fun _ H' => Q .non H',rt:=Q } (start N vs) H):CalE P w K mg base x C (k+1) ps sp:=by
  obtain⟨f,fd,mc,Fn,L,B,I,hb⟩:=F.ex
  exact⟨⟨f,fd,_,L.mk_ B,Fn.ok S len fun cdv A outer s H vs Q E hr h=>hbody mc f cdv A outer s H vs Q E (L.mk_ B).low I hr h,hb⟩,F.at_,hsz⟩
end L2
namespace L2
open PySem PySem.Spec PyProof.Rows
structure Err (H:Hp) (a C:Addr):Prop where
  ex:∃ dd,(H a=some (ExO (.ref C) dd a)∨H a=some (ExN (.ref C) dd a))∧(dd=none∨∃ d fs,dd=some d∧H d=some (XdO d fs))
theorem Rfd.err {H:Hp} {ea C:Addr} {f:Str} {v:V} (r:Rfd H ea C f v):Err H ea C:=by
  obtain⟨d,h1,h2⟩:=r.ex
  exact⟨some d,.inl h1,.inr ⟨d,_,rfl,h2⟩⟩
theorem Rfd.same {H H' : Hp} {ea C:Addr} {f:Str} {v:V} (r:Rfd H ea C f v) (sm:∀ b o,H b=some o→H' b=some o):Rfd H' ea C f v:=by
  obtain⟨d,h1,h2⟩:=r.ex
  exact⟨d,sm _ _ h1,sm _ _ h2⟩
theorem Err.same {H H' : Hp} {ea C:Addr} (r:Err H ea C) (sm:∀ b o,H b=some o→H' b=some o):Err H' ea C:=by
  obtain⟨dd,h1,h2⟩:=r.ex
  refine⟨dd,h1.imp (sm _ _) (sm _ _),?_⟩
  rcases h2 with h2 | ⟨d,fs,h2,h3⟩
  · exact .inl h2
  · exact .inr ⟨d,fs,h2,sm _ _ h3⟩
theorem q4q:∀ {cs:List Addr} {us:List Value},Vals (cs.map V.ref) us→us=cs.map Value.ref
  | [],_,.nil=>rfl
  | c::cs,_,.cons r t=>by
    have h:_=Value.ref c:=r
    rw [h,q4q t,List.map_cons]
section
variable {X:Cx}
theorem q4h (K:PySem.W.Frag) (hK:X.K=K):CallR X (.builtin "isinstance") (fun xs H Q=>∃ a C b,(∃ c,xs = [.ref a,c]∧((∃ D,c = .ref D∧PySem.W.kitOne K (.ref C) (.ref D)=some b)∨(∃ n,c = .ty n∧PySem.W.kitOne K (.ref C) (.type n)=some b)∨∃ (T:Addr) (cs:List Addr),c = .ref T∧SqT K H T (cs.map V.ref)∧PySem.W.kitAny K (.ref C) (cs.map Value.ref)=some b))∧Err H a C∧EIsi K C∧Q (.bl b) H):=by
  subst hK
  intro pins s σ H xs us Q I r h
  obtain⟨a,C,b,⟨c,rfl,hc⟩,⟨dd,ha,hdd⟩,G,q⟩:=h
  obtain⟨u,v,rfl,ru,rv⟩:=r.two
  obtain rfl:u=Value.ref a:=ru
  have hrec:∃ ox od,PySem.W.InstAt s.heap a ox C od:=by
    have hr:∃ vs sl,s.heap.get? a=some { cls := .ref C,dict:=dd,data := .fields vs,slots:=sl }:=by
      rcases ha with ea | ea
      · obtain⟨⟨vs,sl,q1,_⟩,_,_⟩:=I.hok a _ ea;exact⟨vs,sl,q1⟩
      · obtain⟨⟨vs,sl,q1,_⟩,_,_⟩:=I.hok a _ ea;exact⟨vs,sl,q1⟩
    obtain⟨vs,sl,q1⟩:=hr
    rcases hdd with rfl | ⟨d,fs,rfl,hd⟩
    · exact⟨_,none,q1,rfl,rfl,trivial⟩
    · obtain⟨_,⟨od,hod⟩,_⟩:=I.hok d _ hd
      exact⟨_,some od,q1,rfl,rfl,hod⟩
  rcases hc with ⟨D,rfl,e⟩ | ⟨n,rfl,e⟩ | ⟨T,cs,rfl,hT,e⟩
  · obtain rfl:v=Value.ref D:=rv
    exact PySem.W.kia_one (q8a G) I.kIn hrec e (fun z=>nomatch z) fun tk=>⟨.bl b,H,I.tok _,rfl,q⟩
  · obtain rfl:v=Value.type n:=rv
    exact PySem.W.kia_one (q8a G) I.kIn hrec e (fun z=>nomatch z) fun tk=>⟨.bl b,H,I.tok _,rfl,q⟩
  · obtain rfl:v=Value.ref T:=rv
    obtain⟨its,r',⟨o,ho,oc,n,od⟩,_⟩:=I.tuple hT
    rw [q4q r'] at od
    obtain⟨c0,d0,dt0,sl0⟩:=o
    simp only at oc od
    subst oc;subst od
    exact PySem.W.kia_tup (q8a G) I.kIn hrec ho e (fun z=>nomatch z) fun tk=>⟨.bl b,H,I.tok _,rfl,q⟩
end
end L2
namespace L2
open PySem PySem.Spec PyProof.Rows
section
variable {X:Cx}
end
end L2
namespace L2
open PySem PySem.Spec PyProof.Rows
section
variable {X:Cx}
end
end L2
namespace K
open PySem L2 TX
end K
namespace L2
open PySem PySem.Spec PyProof.Rows
abbrev TF:=St→Hp→(Str→Hp→Prop)→Prop
def PF1 (X:Cx) (e:Expr) (t:TF):Prop:=∀ (pins:List (Addr×Obj)) (s:Shared) (σ:St) (H:Hp) (R:Str→Hp→Prop),Inv X pins σ H s→t σ H R →
  wpAny (model X.prog X.w) X.A (eval e X.env) (fun v s1=>∃ y k H1,v = .str y k∧Inv X pins σ H1 s1∧R y H1) X.xe s
def PFs (X:Cx):List Expr→List TF→Prop
  | [],[]=>True
  | e::es,t::ts=>PF1 X e t∧PFs X es ts
  | _,_=>False
def tFs:List TF→Str→St→Hp→VK→Prop
  | [],acc,_,H,Q=>acc.length≤sizeLine∧Q (.str acc) H
  | t::ts,acc,σ,H,Q=>t σ H fun y H1=>(acc++y).length≤sizeLine∧tFs ts (acc++y) σ H1 Q
section
variable {X:Cx}
theorem z7p {pins:List (Addr×Obj)} {σ:St} {Q:VK}:∀ {ts:List TF} {es:List Expr} {acc:Str} {H:Hp} {s:Shared},PFs X es ts→Inv X pins σ H s→tFs ts acc σ H Q →
    Joins (model X.prog X.w) X.A X.xe (evalEach es X.env) acc (fun out s₁=>out.length≤sizeLine∧EP X pins σ Q (.str out s₁.toks) { s₁ with toks:=s₁.toks+1 }) s:=by
  intro ts
  induction ts with
  | nil =>
    intro es acc H s hp I h
    cases es with
    | nil=>exact⟨h.1,.str acc,H,I.tok _,⟨_,rfl⟩,h.2⟩
    | cons e es=>exact False.elim hp
  | cons t ts ih =>
    intro es acc H s hp I h
    cases es with
    | nil=>exact False.elim hp
    | cons e es =>
      show wpAny _ _ (eval e X.env) _ _ s
      refine wpAny_mono (hp.1 pins s σ H _ I h) (fun v s1 z => ?_) fun _ _ z=>z
      obtain⟨y,k,H1,ev,I1,hz,q⟩:=z
      exact⟨y,k,ev,hz,ih hp.2 I1 q⟩
theorem q6j {v₁ v₂:Expr} {rest:List Expr} {pos:Pos} {t₁ t₂:TF} {ts:List TF} (h1:PF1 X v₁ t₁) (h2:PF1 X v₂ t₂) (h3:PFs X rest ts):PE X (.JoinedStr (v₁::v₂::rest) pos) (fun σ H Q=>tFs (t₁::t₂::ts) Str.empty σ H Q):=by
  intro pins s σ H Q I h
  exact wpAny_JoinedStr (z7p (ts:=t₁::t₂::ts) (es:=v₁::v₂::rest) ⟨h1,h2,h3⟩ I h)
theorem q6k:PFs X [] []:=trivial
theorem z7q {e:Expr} {es:List Expr} {t:TF} {ts:List TF} (h:PF1 X e t) (r:PFs X es ts):PFs X (e::es) (t::ts):=⟨h,r⟩
def tFv (te:TE):TF:=fun σ H R=>te σ H fun v H1=>(∃ x,v = .str x∧x.length≤sizeLine∧R x H1)∨∃ n:Nat,v = .int (n:Int)∧n≤10 ^ 12∧R (Str.ofString (toString (n:Int))) H1
theorem z5f {n:Nat} (h:n≤10 ^ 12):(n:Int).natAbs.log2<1920:=by
  rw [Int.natAbs_natCast]
  by_cases h0:n=0
  · subst h0;decide
  · rw [Nat.log2_lt h0]
    exact Nat.lt_of_le_of_lt h (Nat.lt_of_lt_of_le (by decide:10 ^ 12<2 ^ 64) (Nat.pow_le_pow_right (by decide) (by decide)))
theorem pf_val {e:Expr} {pos:Pos} {te:TE} (he:PE X e te):PF1 X (.FormattedValue e (-1) none pos) (tFv te):=by
  intro pins s σ H R I h
  refine FormattedValue_plain (thn (he pins s σ H _ I h) fun u s1 ⟨v,H1,I1,rv,q⟩ => ?_)
  rcases q with ⟨x,rfl,hz,q⟩ | ⟨n,rfl,hn,q⟩
  · obtain⟨t,rfl⟩:=rv
    exact formatField_str (fun t' tk=>⟨x,t',H1,rfl,I1.tok _,q⟩) hz
  · obtain⟨t,rfl⟩:=rv
    exact formatField_int_small (z5f hn) ⟨_,_,H1,rfl,I1.tok _,q⟩
theorem q7f {c:Str} {k:Nat} {pos:Pos}:PF1 X (.Constant (.str c) k pos) (fun _ H R=>R c H):=by
  intro pins s σ H R I h
  exact thn (q1g pins s σ H (fun v H1=>∃ y,v = .str y∧R y H1) I ⟨c,rfl,h⟩) fun u s1 ⟨v,H1,I1,rv,y,ev,q⟩=>by
    subst ev
    obtain⟨t,rfl⟩:=rv
    exact⟨y,t,H1,rfl,I1,q⟩
end
end L2
namespace L2
open PySem PySem.Spec PyProof.Rows
structure MCalX (P:Program) (w:World) (K:PySem.W.Frag) (mg:Str→Option Value) (base:Heap) (C:Addr) (m:Str) (k:Nat) (ps:List Str) (sp:Sp):Prop where
  ex:∃ f fd,FnOk P w K mg base (CXR P w) k f fd ps sp∧Meth K C m f∧Binds K fd ps []
  cl:Cls K C
theorem Mf.calX {P:Program} {w:World} {K:PySem.W.Frag} {mg:Str→Option Value} {base:Heap} {C:Addr} {m qual:Str} {st:Stmt} {N ps:List Str} {k:Nat} {sp:Sp} (D:Mf K C m qual st ps) (cl:Cls K C) (S:FnScope N ps (defScope st)) (len:∀ vs H Q E,sp vs H Q E→vs.length=ps.length)
    (hbody:∀ (f:Addr) (cdv:Value) (A:Around) (outer:List Env) (s:Shared) (H:Hp) (vs:List V) (Q:VK) (E:XK),Room k (A.deeper (envOfC qual (defScope st) s.heap.objs.size f cdv))→sp vs H Q E →
      ∃ t,PSs (cxX P w K mg base N qual (defScope st) f cdv A outer s H E) (defBody st) t∧t { nx:=fun _ H' => Q .non H',rt:=Q } (start N vs) H):MCalX P w K mg base C m (k+1) ps sp:=by
  obtain⟨f,fd,F,hm,hb⟩:=D.ex
  exact⟨⟨f,fd,F.okX S len fun cdv A outer s H vs Q E hr h=>hbody f cdv A outer s H vs Q E hr h,hm,hb⟩,cl⟩
structure KCalX (P:Program) (w:World) (K:PySem.W.Frag) (mg:Str→Option Value) (base:Heap) (C:Addr) (x:Str) (k:Nat) (ps:List Str) (sp:Sp):Prop where
  ex:∃ f fd,FnOk P w K mg base (CXR P w) k f fd ps sp∧Mk K C f∧Binds K fd ps []∧Binds K fd ps [.bool false]
  at_:mg x=some (.ref C)
  cl:Cls K C
section
variable {X:Cx} {J:Addr→St→Hp→Prop} {C f:Addr} {fd:FuncData} {x m:Str} {k j:Nat} {ps:List Str} {sp:Sp} {p pos apos:Pos} {o e:Expr} {es:List Expr} {ta:TE} {t:TA}
def tMethX (C:Addr) (m:Str) (sp:Sp) (J:Addr→St→Hp→Prop) (ta:TE) (t:TA):TE:=fun σ H Q=>ta σ H fun x H1=>∃ a dx fs,x = .ref a∧H1 a=some (.ins C dx fs)∧fs.lookup m=none∧t σ H1 fun vs H2=>sp (.ref a::vs) H2 Q fun e _ H' => ∀ ea,e = .ref ea→J ea σ H'
theorem z2m {pl:Sem Bool} (M:MCalX X.prog X.w X.K X.mg X.base C m k ps sp) (hr:Room j X.A) (hx:AccX X J) (he:PE X o ta) (ha:PA X (e::es) t) (hjk:k≤j:=by decide)
    (hst:starEach (e::es) X.env=(false,eval e X.env)::starEach es X.env:=by rfl) (hpl:(backTo pos (starEach es X.env)).any (·.1)=false:=by rfl)
    (ht:eval (.Call (.Attribute o m apos) (e::es) [] pos) X.env=(do
      let ov ← eval o X.env
      standAt apos.atName
      let (f,first) ← holding [ov] (getMethod ov m pl)
      callWith pos f first (backTo pos (starEach (e::es) X.env)) (backToKw pos (keywordEach [] X.env))):=by rfl):PE X (.Call (.Attribute o m apos) (e::es) [] pos) (tMethX C m sp J ta t):=by
  obtain⟨f,fd,F,hm,hb⟩:=M.ex
  intro pins s σ H Q I h
  refine PySem.W.methodCall_KW (pl:=pl) (thn (he pins s σ H _ I h) fun u s1 ⟨x,H1,I1,rx,a,dx,fs,ex,ea,l,q⟩ => ?_) ht
  subst ex
  obtain rfl:u=Value.ref a:=rx
  refine q4l I1 ea M.cl hm l ?_
  refine PySem.W.callWith_K (first := [.ref a]) (h₀:=X.base) I.ok.mod.kin hm.kp (thn (ha pos pins s1 σ H1 _ I1 q) fun us s2 ⟨vs,H2,I2,r,q2⟩=>⟨I2.kIn,?_⟩) hst hpl
  exact z9y (us := .ref a::us) (vs := .ref a::vs) F (hr.mono hjk) hb hx I2 (.cons rfl r) q2
end
theorem z5g {K:PySem.W.Frag} {H:Hp}:∀ xs:List Str,Dts K H (xs.map V.str) (xs.map PyData.str)
  | [] => .nil
  | x::xs => .cons (.str x) (z5g xs)
theorem z5h:∀ xs:List Str,PyData.showableAll (xs.map PyData.str)=true
  | []=>rfl
  | x::xs=>by
    rw [List.map_cons]
    unfold PyData.showableAll PyData.showable
    rw [z5h xs];rfl
theorem z5i:∀ xs:List Str,PyData.hasDictAll (xs.map PyData.str)=false
  | []=>rfl
  | x::xs=>by
    rw [List.map_cons]
    unfold PyData.hasDictAll PyData.hasDict
    rw [z5i xs];rfl
theorem z5j:∀ xs:List Str,PyData.depthAll (xs.map PyData.str)≤2
  | []=>by simp [PyData.depthAll]
  | x::xs=>by
    have:=z5j xs
    rw [List.map_cons]
    simp only [PyData.depthAll,PyData.depth]
    lia
theorem q9l:∀ xs:List Str,(∀ x∈xs,x.length≤100∧∀ c∈x.cps.toList,c<16 ^ 8)→piled (PyData.shownAll (xs.map PyData.str))≤1004 * xs.length
  | [],_=>by simp [PyData.shownAll,piled]
  | x::xs,h=>by
    have ih:=q9l xs fun y hy=>h y (List.mem_cons_of_mem _ hy)
    obtain⟨h1,h2⟩:=h x List.mem_cons_self
    have h3:=StrLaws.reprText_len x h2
    rw [List.map_cons]
    unfold PyData.shownAll
    rw [piled_cons,List.length_cons]
    show (reprText x).length+2+_≤_
    lia
theorem q6l (x y:Str):(x++y).length=x.length+y.length:=TX.app_len x y
theorem q8b {ts:List Str}:(tupleText ts).length≤piled ts+10:=by
  unfold tupleText
  rw [q6l,q6l]
  have h1:(Str.ofString "(").length=1:=by decide +kernel
  have h2:(Str.join ", " ts).length≤piled ts:=by
    cases ts with
    | nil=>show (Str.join ", " []).length≤_;decide +kernel
    | cons t ts=>have:=join_length_add (t::ts) (by simp);lia
  have h3:∀ b:Bool,(Str.ofString (if b=true then ",)" else ")" : String)).length≤2:=by intro b;cases b <;> decide +kernel
  have h4:=h3 (ts.length==1)
  have h1' : (("(" : Str)).length=1:=h1
  lia
section
variable {X:Cx} {k:Nat}
def tFt (K:PySem.W.Frag) (te:TE):TF:=fun σ H R=>te σ H fun v H1=>∃ (a:Addr) (xs:List Str),v = .ref a∧SqT K H1 a (xs.map V.str)∧xs.length≤100∧(∀ x∈xs,x.length≤100∧∀ c∈x.cps.toList,c<16 ^ 8)∧∀ y:Str,y.length≤200000→R y H1
theorem z1d {e:Expr} {pos:Pos} {te:TE} (K:PySem.W.Frag) (hK:X.K=K) (hr:Room k X.A) (he:PE X e te):PF1 X (.FormattedValue e (-1) none pos) (tFt K te):=by
  subst hK
  intro pins s σ H R I h
  refine FormattedValue_plain (thn (he pins s σ H _ I h) fun u s1 ⟨v,H1,I1,rv,a,xs,ev,ha,hl,hx,q⟩ => ?_)
  subst ev
  obtain rfl:u=Value.ref a:=rv
  obtain⟨as,rd⟩:=Dt.reads I1 (.tup ha (z5g xs)) (show RelV (.ref a) (.ref a) from rfl)
  have hu:=hr.un
  have hd:(PyData.tuple (xs.map PyData.str)).depth≤3:=by
    have:=z5j xs
    simp only [PyData.depth]
    lia
  have hz:(PyData.tuple (xs.map PyData.str)).shown.length≤200000:=by
    show (tupleText (PyData.shownAll (xs.map PyData.str))).length≤_
    have h1:=q8b (ts:=PyData.shownAll (xs.map PyData.str))
    have h2:=q9l xs hx
    have h3:1004 * xs.length≤1004 * 100:=Nat.mul_le_mul_left _ hl
    lia
  refine formatField_of_reads rd (show PyData.showableAll _=true from z5h xs) (fun z => ?_) hr.gd (by lia) (fun b o h=>h) (fun h' u tk hk=>⟨_,u,H1,rfl,I1.kept hk,q _ hz⟩) (Nat.le_trans hz (TX.small (by lia)))
  rw [show (PyData.tuple (xs.map PyData.str)).hasDict=false from z5i xs] at z
  cases z
end
end L2
namespace HM
open PySem PySem.Spec PyProof.Rows L2 TX SB
def inP (H:Hp) (q:Pth) (a:Addr):Bool:=match H a with | some (.tup xs)=>decide (xs=vP q) | _=>false
theorem vP_inj {p q:Pth} (h:vP p=vP q):p=q:=by
  have e:(vP p).map (fun v=>match v with | .str s=>tl s | _ => [])=(vP q).map (fun v=>match v with | .str s=>tl s | _ => []):=by rw [h]
  have f:∀ x:Pth,(vP x).map (fun v=>match v with | .str s=>tl s | _ => [])=x:=fun x=>by
    unfold vP
    rw [List.map_map]
    refine Eq.trans (List.map_congr_left (g:=id) fun n _=>q2h n) (List.map_id x)
  rw [f,f] at e;exact e
theorem z8u {H:Hp} {q r:Pth} {a:Addr} (h:H a=some (.tup (vP r))):inP H q a=decide (r=q):=by
  unfold inP
  rw [h]
  exact decide_eq_decide.mpr ⟨vP_inj,fun z=>by rw [z]⟩
def rInP (neg:Bool):R2:=fun x y H Q=>∃ (p L:Addr) (bs:List Addr) (q:Pth),x = .ref p∧y = .ref L∧H L=some (.lst (bs.map V.ref))∧H p=some (.tup (vP q))∧Low q∧(∀ b∈bs,∃ r,H b=some (.tup (vP r))∧Low r)∧Q (.bl (if neg then !bs.any (inP H q) else bs.any (inP H q))) H
section
variable {X:Cx} {k:Nat}
def eR (H:Hp) (q:Pth):Value→Bool | .ref a=>inP H q a | _=>false
theorem any_eR {H:Hp} {q:Pth} (bs:List Addr):(bs.map Value.ref).toArray.any (eR H q)=bs.any (inP H q):=by
  rw [show (bs.map Value.ref).toArray.any (eR H q)=(bs.map Value.ref).any (eR H q) by simp,List.any_map];rfl
theorem z5k (hr:Room k X.A) {pins:List (Addr×Obj)} {σ:L2.St} {H:Hp} {s:Shared} (I:Inv X pins σ H s) {p:Addr} {q:Pth} {bs:List Addr} (hp:H p=some (.tup (vP q))) (lq:Low q) (hb:∀ b∈bs,∃ r,H b=some (.tup (vP r))∧Low r) :
    ∀ w∈(bs.map Value.ref).toArray,SeqAt.EqAt X.A.in1 s w (.ref p) (eR H q w):=fun w hw=>by
  obtain⟨b,hbm,rfl⟩:∃ b∈bs,w = .ref b:=by
    have:w∈bs.map Value.ref:=by simpa using hw
    obtain⟨b,h1,h2⟩:=List.mem_map.mp this
    exact⟨b,h1,h2.symm⟩
  obtain⟨r,hr1,lr⟩:=hb b hbm
  obtain⟨as,r1⟩:=(q3c (K:=X.K) hr1).reads I (u := .ref b) rfl
  obtain⟨as2,r2⟩:=(q3c (K:=X.K) hp).reads I (u := .ref p) rfl
  have hd:=q4e r
  have hu:=hr.un
  have e:=SeqAt.eqAt_reads _ _ X.A.in1 s _ _ _ _ r1 r2 (q3s lr) (q3s lq) (by show X.A.units+1+_<_;lia)
  rw [q6h] at e
  show SeqAt.EqAt X.A.in1 s (.ref b) (.ref p) (inP H q b)
  rw [z8u hr1];exact e
theorem nin_P (hr:Room k X.A):OpR X (compareOp .NotIn) (rInP true):=by
  intro pins s σ H x y v u Q I rx ry h
  obtain⟨p,L,bs,q,rfl,rfl,hL,hp,lq,hb,qq⟩:=h
  cases rx
  cases ry
  obtain⟨its,r,pl,hz⟩:=I.list (SqL.of hL)
  obtain rfl:=q4q r
  exact SeqAt.notIn_listAt (eR H q) pl.isList (z5k hr I hp lq hb) ⟨.bl _,H,I,rfl,by rw [any_eR];exact qq⟩
end
end HM
namespace L2
open PySem PySem.Spec PyProof.Rows
section
variable {X:Cx} {n:Nat} {o i:Expr} {td ty:TE} {tpos pos:Pos}
def sDDelT (td ty:TE):TS:=fun D σ H=>td σ H fun x H1=>ty σ H1 fun y H2=>∃ d kvs b,∃ k:List Key,x = .ref d∧y = .ref b∧H2 d=some (.dT kvs)∧H2 b=some (.tup (k.map kV))∧(∃ (j:Nat) (v:V),kvs[j]? = some (k,v)) ∧
  ∀ (j:Nat) (v:V),kvs[j]? = some (k,v)→D.nx σ (upd H2 d (.dT (kvs.eraseIdx j)))
theorem z7r (hr:Room n X.A) (ho:PE X o td) (hi:PE X i ty):PS X (.Delete [.Subscript o i tpos] pos) (sDDelT td ty):=by
  intro pins s0 σ H0 D I0 h
  refine wpAny_Delete (wpAny_deleteEach_cons (wpAny_delete_Subscript (thn (ho pins s0 σ H0 _ I0 h) fun u s1 ⟨x,H1,I1,rx,q1⟩=>thn (hi pins s1 σ H1 _ I1 q1) fun iv s ⟨y,H,I,ry,d,kvs,b,k,ex,ey,e,eb,hin,q⟩ => ?_)))
  subst ex ey
  obtain rfl:u=Value.ref d:=rx
  obtain rfl:iv=Value.ref b:=ry
  obtain⟨z,hd,xs,rel,dd⟩:=z3z I.hok e
  have hz:xs.length≤sizeLine:=by rw [← Paired.length rel];exact z
  have hu:=q3q hr
  obtain⟨o',es,ep,ho',hc,hdd,he,his,hn⟩:=id dd
  have hT:s.TypeIs (.ref d) "dict" := ⟨o',ho',hc.1⟩
  have hin2:∃ (j:Nat) (p:Addr×Value),xs[j]? = some (k,p):=by
    obtain⟨j,v,hj⟩:=hin
    obtain⟨⟨k',p⟩,hp,e1,_⟩:=Paired.at' rel hj
    exact⟨j,p,by rw [hp,← show k=k' from e1]⟩
  refine wpAny_delItem_slot hT (by decide) PySem.F.slot_dict_delitem (wpAny_call_entry PySem.F.slot_dict_delitem hT PySem.F.entry_dict_delitem ?_ (PySem.F.args_dict_delitem_2 _ _))
  unfold Builtin.«dict.__delitem__»
  refine wpAny_bind ?_
  unfold Builtin.Dict.dictSlotArgs
  refine wpAny_bind (wpAny_notOrdered_dict hT ?_)
  show wpAny _ _ (pure (Value.ref d,Value.ref b)) _ _ s
  refine wpAny_pure ?_
  show wpAny _ _ (do
    let __x ← Builtin.Dict.takeOut d (Value.ref b)
    match __x with
      | some e=>do
        letGo [e.key,e.val]
        ret Value.none
      | x=>do
        Builtin.Dict.missedRemoval d (Value.ref b)
        rule "dict.__delitem__.keyerror"
        let __do_lift ← newExc (Value.type "KeyError") [Value.ref b]
        raiseNew __do_lift) _ _ _
  refine wpAny_bind (q2f (hsz:=hz) (tupleKind_room_in1 hu) (q4a I.hok eb) dd hin2 fun j p hj h' dd' hs => ?_)
  refine wpAny_bind (wpAny_letGo (wpAny_pure ⟨_,rfl,?_⟩))
  obtain⟨⟨k',v⟩,hv⟩:∃ y,kvs[j]? = some y:=⟨kvs[j]'(by rw [Paired.length rel];exact (List.getElem?_eq_some_iff.mp hj).1),by simp [Paired.length rel,(List.getElem?_eq_some_iff.mp hj).1]⟩
  obtain⟨y,hy,e1,e2,e3⟩:=Paired.at' rel hv
  rw [hj] at hy
  cases hy
  replace e1:k' = k:=e1
  subst e1
  refine wpAny_deleteEach_nil ⟨σ,_,?_,q j v hv⟩
  obtain⟨qo,es2,ep2,hq,h2,h3,h4,_,h5⟩:=dd'
  refine q6a I (by rw [e];exact True.intro) hs ⟨qo,hq⟩ ⟨Nat.le_trans (List.length_eraseIdx_le _ _) z,hd,_,KT.keeps (Paired.ers j rel) fun c ys ec => ?_,qo,es2,ep2,hq,h2,h3,h4,h5⟩
  rw [q0c (z2r ec e (fun z=>nomatch z))]
  exact ec
end
theorem q8c {prog:Program} {w:World} {A:Around} {E:Value→Shared→Prop} {s:Shared} {a:Addr} {o:Obj} {es:Array DictEntry} {ep:Nat} {Q:Value→Shared→Prop} (ho:s.heap.get? a=some o) (hc:o.ExactDict) (hd:o.data = .dict es ep) (hs:(a==sysModules)=false) (hz:es.size≤sizeLine)
   (h:∀ t t',Q (.int es.size t) { s with toks:=t' }):wpAny (model prog w) A (call (.builtin "len") [.ref a]) Q E s:=by
  have hT:s.TypeIs (.ref a) "dict" := ⟨o,ho,hc.1⟩
  have hz63:¬ ((es.size:Nat):Int)≥2 ^ 63:=by rw [sizeLine_eq] at hz;lia
  refine wpAny_call (codeAny_call_builtin (by decide +kernel) entry_len ?_)
  have hck:checkBuiltinCall "len" ⟨[.ref a],[]⟩=pure ():=by
    first
      | exact checkBuiltinCall_of_none (by decide +kernel) (by decide +kernel) _
      | rfl
      | (unfold checkBuiltinCall;rfl)
  refine wpAny_of_eq hck ?_
  unfold Builtin.len
  refine wpAny_bind ?_
  show wpAny _ _ (pure (Value.ref a)) _ _ _
  refine wpAny_pure (wpAny_bind (wpAny_callSpecial?_slot hT PySem.F.slot_dict_len (wpAny_call_entry PySem.F.slot_dict_len hT PySem.F.entry_dict_len ?_ (PySem.F.args_dict_len_1 _))))
  unfold Builtin.«dict.__len__»
  unfold Builtin.Dict.dictSlotNone
  refine wpAny_bind (wpAny_bind (wpAny_notOrdered_dict hT ?_))
  show wpAny _ _ (pure (Value.ref a)) _ _ _
  refine wpAny_pure ?_
  show wpAny _ _ (do
      let __do_lift ← dictSize a
      let __do_lift_1 ← Builtin.Dict.pendingCount a
      retInt (↑__do_lift + ↑__do_lift_1)) _ _ _
  unfold dictSize Builtin.Dict.pendingCount
  rw [hs]
  refine wpAny_bind (wpAny_bind (wpAny_dictEntries ho hd (wpAny_pure ?_)))
  simp only [Bool.false_eq_true,if_false]
  refine wpAny_bind (wpAny_pure ?_)
  have e0:((es.size:Nat):Int)+((0:Nat):Int)=es.size:=by lia
  rw [e0]
  wp_walk
  refine⟨_,rfl,?_⟩
  have hn:¬ ((es.size:Nat):Int)<0:=by lia
  refine wpAny_bind (wpAny_holding ?_)
  show wpAny _ _ (pure (es.size:Int)) _ _ _
  refine wpAny_pure (wpAny_bind (wpAny_letGo ?_))
  rw [if_neg hn,if_neg hz63]
  wp_walk
  exact h _ _
theorem q9m {X:Cx}:CallR X (.builtin "len") (fun xs H Q=>∃ d kvs,xs = [V.ref d]∧H d=some (.dT kvs)∧Q (.int kvs.length) H):=by
  intro pins s σ H xs us Q I r h
  obtain⟨d,kvs,rfl,e,q⟩:=h
  obtain⟨u,rfl,ru⟩:=vals1 r
  cases ru
  obtain⟨z,hd,xs,rel,dd⟩:=z3z I.hok e
  obtain⟨o',es,ep,ho',hc,hdd,he,his,hn⟩:=dd
  have hlen:es.size=kvs.length:=by
    have:=congrArg List.length he
    rw [List.length_map,Array.length_toList] at this
    rw [this,Paired.length rel]
  refine q8c ho' hc hdd hd (by rw [hlen];exact z) fun t t' => ⟨.int kvs.length,H,I.tok _,⟨t,by rw [hlen]⟩,q⟩
end L2
namespace L2
open PySem PySem.Spec PyProof.Rows
section
variable {prog:Program} {w:World} {A:Around} {E:Value→Shared→Prop} {h:Heap} {g:Array GenState} {d:Drawn} {t:Nat} {os:OsState}
variable {nm q:Str} {C N:Addr} {bs bm bmB:List Value} {hdct:Bool} {sn:List Str} {sub:List Value} {ab:Bool} {col:Option Bool} {dd:Option Addr} {k0 k1 k2 k3 k5:Option Value} {B newId initId:String}
theorem q5g (F:ExcBaseFacts B newId initId bmB) (T:OwnTail h bmB bm) {mN:Str→Option Value} {rest:List Value} {Q:Fin→Shared→Prop}
    (hC:h.get? C=some (excClassObj nm q C N bs bm hdct sn sub ab col dd k0 k1 k2 k3 k5 newId)) (hn:h.Ns N mN) (hi:mN "__init__" = none)
    (hq:∀ h' e,Heap.MadeExcOf h h' e (.ref C) rest→h.objs.size≤e →
      Q (.done (.ret (.ref e))) ⟨h',g,d,t,os⟩) (hrest:rest.length≤sizeLine:=by size_fits) :
    wpAny (model prog w) A (Builtin.«type.__call__» ⟨.ref C::rest,[]⟩) Q E ⟨h,g,d,t,os⟩:=by
  repeat (first | with_reducible refine wpAny_loadPart_at hC ?_ | with_reducible refine wpAny_madeBy_exc hC ?_ | wp_step)
  refine codeAny_call_builtin_code (Code.quiet_builtin _ F.quiet) (wpAny_check_new_subT F T hC ?_)
  refine codeAny_exc_new_subT F T hC ?_ hrest
  show wpAny _ _ _ _ _ _
  have hC₁:=Heap.get?_push_of_some { cls := .ref C,data := .fields #[.ref h.objs.size,.none,.none,.none,.bool false,.none] }
    (Heap.get?_push_of_some { cls := .type "tuple",data := .seq rest.toArray } hC)
  have hn₁:((h.push { cls := .type "tuple",data := .seq rest.toArray }).push { cls := .ref C,data := .fields #[.ref h.objs.size,.none,.none,.none,.bool false,.none] }).Ns N mN :=
    let ⟨o,es,ep,e,r⟩:=hn;⟨o,es,ep,Heap.get?_push_of_some _ (Heap.get?_push_of_some _ e),r⟩
  have hget:((h.push { cls := .type "tuple",data := .seq rest.toArray }).push
      { cls := .ref C,data := .fields #[.ref h.objs.size,.none,.none,.none,.bool false,.none] }).get? (h.objs.size+1)=some
      { cls := .ref C,data := .fields #[.ref h.objs.size,.none,.none,.none,.bool false,.none] }:=by heap_get
  have T₁:=T.keeps (h' := (h.push { cls := .type "tuple",data := .seq rest.toArray }).push { cls := .ref C,data := .fields #[.ref h.objs.size,.none,.none,.none,.bool false,.none] })
    fun b o e=>Heap.get?_push_of_some _ (Heap.get?_push_of_some _ e)
  have hcC:(Value.ref C::bm).contains (.ref C)=true:=by simp
  unfold isInstance
  repeat (first | with_reducible refine wpAny_loadPart_at hget ?_ | (with_reducible refine wpAny_isSubtype_exc hC₁ ?_;rw [hcC]) | wp_step)
  show wpAny _ _ (typeLookup (.ref C) _) _ _ _
  refine wpAny_typeLookup_tail hC₁ hn₁ T₁ F.mroIs F.init.lookup ?_
  rw [hi]
  refine wpAny_holding (wpAny_bind ?_)
  have hb:=F.init.bind (.ref (h.objs.size+1))
  show wpAny _ _ (bindSpecial (.builtin initId) (.ref (h.objs.size+1))) _ _ _
  rw [hb]
  refine wpAny_pure (wpAny_bind (wpAny_call (q9j F T₁ hC₁ hget rfl hrest ?_)))
  have hget2:=Heap.get?_push_of_some { cls := .type "tuple",data := .seq rest.toArray } hget
  generalize hP:(h.push { cls := .type "tuple",data := .seq rest.toArray }).push { cls := .ref C,data := .fields #[.ref h.objs.size,.none,.none,.none,.bool false,.none] }=P at *
  have hrec:=Heap.get?_update_self (Obj.mapFields (·.setIfInBounds 0 (Value.ref P.objs.size))) hget2 rfl
  have hPs:P.objs.size=h.objs.size+2:=by rw [← hP];simp [Heap.push]
  show wpAny _ _ (pure (some Value.none)) _ _ _
  refine wpAny_pure ?_
  show wpAny _ _ (ret (Value.ref (h.objs.size+1))) _ _ _
  wp_walk
  refine hq _ (h.objs.size+1) ⟨fun b o hb => ?_,Heap.get?_none_of_le (Nat.le_succ _),P.objs.size,hrec,Heap.get?_none_of_le (by lia),?_⟩ (Nat.le_succ _)
  · have hlt:=Heap.lt_size hb
    rw [Heap.get?_update_other _ _ (fun z=>absurd hlt (Nat.not_lt.mpr (by rw [← z];exact Nat.le_succ _)))]
    refine Heap.get?_push_of_some _ ?_
    rw [← hP];exact Heap.get?_push_of_some _ (Heap.get?_push_of_some _ hb)
  · rw [Heap.get?_update_other _ _ (fun z=>absurd (hPs.symm.trans z.symm) (by lia))]
    exact Heap.get?_push_at rfl rfl
theorem z0i (F:ExcBaseFacts B newId initId bmB) (T:OwnTail h bmB bm) {mN:Str→Option Value} {rest:List Value} {Q:Value→Shared→Prop}
    (hC:h.get? C=some (excClassObj nm q C N bs bm hdct sn sub ab col dd k0 k1 k2 k3 k5 newId)) (hn:h.Ns N mN) (hi:mN "__init__" = none)
    (hq:∀ h' e,Heap.MadeExcOf h h' e (.ref C) rest→h.objs.size≤e →
      Q (.ref e) ⟨h',g,d,t,os⟩) (hrest:rest.length≤sizeLine:=by size_fits) :
    wpAny (model prog w) A (call (.ref C) rest) Q E ⟨h,g,d,t,os⟩:=by
  have f1:=tc_lookup
  have f2:=tc_bind (.ref C)
  have hT:(⟨h,g,d,t,os⟩:Shared).TypeIs (.ref C) "type" := ⟨_,hC,rfl⟩
  refine wpAny_call (codeAny_of_tree ?_)
  show wpAny _ _ (callAny (.ref C) _) _ _ _
  repeat (any_goals (first | assumption | with_reducible refine wpAny_loadPart_at hC ?_ | wp_step))
  refine⟨rfl,?_⟩
  refine codeAny_call_builtin_at (Code.quiet_builtin _ (by decide +kernel)) entry_typeCall (wpAny_check_type_call_sub hC (q5g (hrest:=hrest) F T hC hn hi fun h' e hm hle => ?_))
  exact hq h' e hm hle
end
end L2
namespace L2
open PySem PySem.Spec PyProof.Rows
structure ELaw0 (K:PySem.W.Frag) (C D:Addr):Prop where
  ex:∃ nm q N bs sn sub ab col dd k0 k1 k2 k3 k5,K.lookup C=some (excClassObj nm q C N bs (.ref D::bmV) true sn sub ab col dd k0 k1 k2 k3 k5 "ValueError.__new__")∧isNsK K N=true∧PySem.W.nsIn K N "__init__" = some none
  kp:PySem.W.keepIn K (.ref C)=true
  base:EBase K D
theorem ELaw0.clsIn {K:PySem.W.Frag} {C D:Addr} (L:ELaw0 K C D):∃ cd,PySem.W.clsIn K C=some cd∧ExMro cd.mro∧cd.hasDict=true:=by
  obtain⟨nm,q,N,bs,sn,sub,ab,col,dd,k0,k1,k2,k3,k5,lk,_⟩:=L.ex
  unfold PySem.W.clsIn
  rw [lk]
  exact⟨_,rfl,⟨[C,D],rfl⟩,rfl⟩
theorem ELaw0.sub {K:PySem.W.Frag} {C D:Addr} (L:ELaw0 K C D):SubX K (.ref C) D:=by
  obtain⟨nm,q,N,bs,sn,sub,ab,col,dd,k0,k1,k2,k3,k5,lk,_⟩:=L.ex
  exact⟨C,_,rfl,⟨⟨nm,q,N,bs,true,sn,sub,ab,col,dd,k0,k1,k2,k3,k5,_,lk⟩,by rw [List.contains_cons,show bmV.contains (.type "BaseException")=true from by decide,Bool.or_true]⟩,by simp⟩
section
variable {X:Cx} {J:Addr→St→Hp→Prop} {C D:Addr} {x:Str} {np cpos pos:Pos} {e₀:Expr} {es:List Expr} {t:TA}
def tRaise0 (C:Addr) (J:Addr→St→Hp→Prop) (t:TA):TS:=fun _ σ H=>t σ H fun vs H1=>vs.length≤100∧∀ ea,H1 ea=none→J ea σ (upd (upd H1 ea (ExN (.ref C) none ea)) ea (ExO (.ref C) none ea))
theorem z5l (M:ELaw0 X.K C D) (hx:AccX X J) (hc:X.calm=true) (hm:X.mg x=some (.ref C)) (ha:PA X (e₀::es) t) (hg:Gl X x:=by rfl) (hdb:(x==("__debug__" : Str))=false:=by decide)
    (he:starEach (e₀::es) X.env=(false,eval e₀ X.env)::starEach es X.env:=by rfl) (hpl:(backTo cpos (starEach es X.env)).any (·.1)=false:=by rfl) :
    PS X (.Raise (some (.Call (.Name x np) (e₀::es) [] cpos)) none pos) (tRaise0 C J t):=by
  intro pins s σ H Dn I h
  obtain⟨nm,q,N,bs,sn,sub,ab,col,dd,k0,k1,k2,k3,k5,lk,hN,hi⟩:=M.ex
  have key:wpAny (model X.prog X.w) X.A (eval (.Call (.Name x np) (e₀::es) [] cpos) X.env) (fun v s₁=>∃ e de vs sl,v = .ref e∧s₁.heap.get? C=some (excClassObj nm q C N bs (.ref D::bmV) true sn sub ab col dd k0 k1 k2 k3 k5 "ValueError.__new__") ∧
      s₁.heap.get? e=some { cls := .ref C,dict:=de,data := .fields vs,slots:=sl }∧vs[1]? = some .none∧X.xe (.ref e) s₁) X.xe s:=by
    refine wpAny_Call_Name_kw (q3p I hg hm ?_ hdb)
    refine PySem.W.callWith_K (h₀:=X.base) I.ok.mod.kin M.kp (thn (ha cpos pins s σ H _ I h) fun us s1 ⟨vs,H1,I1,r,hq0,hq⟩=>⟨I1.kIn,?_⟩) he hpl
    obtain⟨hp,g,dr,tk,os⟩:=s1
    have KX:=I1.kIn
    have hlen:us.length≤sizeLine:=by
      rw [← r.length,sizeLine_eq]
      lia
    refine z0i (hrest:=hlen) PySem.F.excBase_ValueError (M.base.tail hp KX) (KX _ _ lk) (ns_K hN hp KX) (q6i hi) fun h' e hme hle => ?_
    have hfree:=I1.hok.fresh hle
    obtain⟨t0,hrec,_,_⟩:=hme.there
    have I2:Inv X pins σ (upd H1 e (ExN (.ref C) none e)) ⟨h',g,dr,tk,os⟩:=I1.laid (h' := h') (t' := tk) (fun b u q=>hme.keeps b u q) hle ⟨⟨_,_,hrec,rfl,rfl⟩,⟨_,hrec⟩,fun h1 h2 ⟨ws,sl,k1,k2⟩ k=>⟨ws,sl,k _ k1,k2⟩⟩
    have j:=hq e hfree
    have hE:upd H1 e (ExN (.ref C) none e) e=some (ExN (.ref C) none e):=q0b
    obtain⟨⟨ws,sl,q1,q2,q3⟩,_,_⟩:=I2.hok e _ hE
    refine⟨e,none,ws,sl,rfl,I2.kIn _ _ lk,q1,q3,hx.acc _ _ ⟨pins,σ,_,e,rfl,I2.asO hE,⟨⟨_,_,q0b⟩,⟨_,ws,q1,rfl,.inl q3,fun T hT => ?_⟩,Nat.le_trans I1.sz hle⟩,j⟩⟩
    rw [q3] at hT
    cases hT
  rw [arm_exec_Raise]
  have hbase:=(M.base.tail _ I.kIn).hasType (show bmV.contains (.type "BaseException")=true by decide)
  first
    | exact wpAny_bind (wpAny_standAt (raiseX hbase (I.ok.hd hc) (wpAny_bind (wpAny_mono key (fun v s₁ z=>wpAny_bind (wpAny_standAt (wpAny_pure z))) fun _ _ z=>z))))
    | (simp only [evalOpt,Option.map];exact wpAny_bind (wpAny_standAt (raiseX hbase (I.ok.hd hc) (wpAny_bind (wpAny_mono key (fun v s₁ z=>wpAny_bind (wpAny_standAt (wpAny_pure z))) fun _ _ z=>z)))))
    | exact wpAny_bind (wpAny_standAt (raiseX hbase (I.ok.hd hc) key))
end
end L2
namespace HD
open PySem PySem.W PyProof.Rows
theorem end0 {t:Thread}:(∃ f,endAt 0 t=some f)∧through t=true∨endAt 0 t=none∧through t=false:=by
  unfold endAt through
  obtain⟨cur,code,pos,stack⟩:=t
  cases stack with
  | cons a r=>exact .inr ⟨by cases cur <;> rfl,rfl⟩
  | nil =>
    cases cur with
    | pure f =>
      cases f with
      | done f=>exact .inl ⟨⟨f,rfl⟩,rfl⟩
      | _=>exact .inr ⟨rfl,rfl⟩
    | _=>exact .inr ⟨rfl,rfl⟩
theorem z1e {tb:String→Option Builtin} {p:Program} {w:World} {n₀:Nat} {ann:Option Value}:∀ {n:Nat} {s s' : Shared} {t:Thread} {f:Flow} {c:Code} {q:Pos},segRun tb p w n₀ ann 0 n s t=some (f,s',c,q)→topRun tb p w n₀ ann n s t=some s'
  | 0,_,_,_,_,_,_,h=>by cases h
  | n+1,s,s',t,f,c,q,h=>by
    unfold segRun at h
    unfold topRun
    rcases end0 (t:=t) with ⟨⟨f',e⟩,th⟩ | ⟨e,th⟩
    · rw [e] at h
      rw [th]
      cases h
      rfl
    · rw [e] at h
      rw [th]
      dsimp only at h ⊢
      cases ok:stepOk n₀ ann t with
      | false=>rw [ok] at h;cases h
      | true =>
        rw [ok] at h
        dsimp only at h ⊢
        cases st:step (denote tb) p w s t with
        | go s1 t1=>rw [st] at h;exact z1e h
        | halt _ _=>rw [st] at h;cases h
def mkT (l:List Obj):BT:=(l.foldl (fun (a:BT×Nat) o=>(a.1.ins a.2 o,a.2+1)) (BT.nil,0)).1
noncomputable def bootT (P:Params) (os:OsState):SharedT:=⟨mkT (boot_heap P).objs.toList,11,(boot_heap P).life,#[],boot_drawn,boot_toks,os⟩
theorem z7s (P:Params) (os:OsState):(bootT P os).abs=⟨boot_heap P,#[],boot_drawn,boot_toks,os⟩:=by kernel_rfl
theorem z5m (P:Params):((boot_heap P).isNs mainGlobals&&(#[]:Array GenState).size==0,(boot_heap P).objs.size,(boot_heap P).nsMap mainGlobals "__annotations__")=(true,11,some (.ref 6)):=by kernel_rfl
theorem left {p q:Program} {loose:List Str} {Xt:Shared→Bool} {α:Type} {Yf:Shared→α} {Ya:World→α} {N:Nat} (e:opening p=plainProg p.main.scope.names) (hN:Nat.ble 600 N=true) (f:∀ s,fenceModules? p s=some s)
    (h:∀ (w:World) (os:OsState),(segRunT treeTable p w 11 (some (.ref 6)) 0 N (bootT w.params os) (topStub p)).map (fun r=>((staticsOk (importedModules p.main.body) (boot_heap w.params) r.2.1.abs.heap&&namesBound p r.2.1.abs.heap&&gensDone r.2.1.abs&&laidKept (boot_heap w.params) r.2.1.abs.heap),
      openSeen q loose (importedModules p.main.body) Xt true r.2.1.abs,Yf r.2.1.abs))=some (true,openGood q loose,Ya w)):LeftO p q loose Xt Yf Ya N:=fun w=>by
  obtain⟨⟨hp,gs,d,k,os⟩,e1,e2⟩:=Option.map_eq_some_iff.mp (boot_open e hN f w)
  obtain⟨rfl,rfl,rfl,rfl⟩:hp=boot_heap w.params∧gs = #[]∧d=boot_drawn∧k=boot_toks:=by simpa using e2
  obtain⟨z1,z2,z3⟩:_∧_∧_:=by simpa only [Prod.mk.injEq] using z5m w.params
  obtain⟨⟨fl,st,c,ps⟩,r1,r2⟩:=Option.map_eq_some_iff.mp (h w os)
  obtain⟨l1,l2,l3⟩:_∧_∧_:=by simpa only [Prod.mk.injEq] using r2
  have r:=z1e (segRun_of r1)
  rw [z7s] at r
  have t:topFrom treeTable p w N ⟨boot_heap w.params,#[],boot_drawn,boot_toks,os⟩=some st.abs:=by
    unfold topFrom
    dsimp only
    rw [z1,z2,z3,r]
    show (match staticsOk (importedModules p.main.body) (boot_heap w.params) st.abs.heap&&namesBound p st.abs.heap&&gensDone st.abs&&laidKept (boot_heap w.params) st.abs.heap with | true=>_ | false=>_)=_
    rw [l1]
  unfold openEnds
  rw [e1]
  show (topFrom treeTable p w N _).map _=_
  rw [t]
  exact congrArg some (Prod.ext l2 l3)
end HD
set_option maxHeartbeats 4000000
namespace K
open PySem L2 TX SB HM
def top (i:Nat):Stmt:=PySem.Challenge.pw_renamehall_k26_put_and_dropped.main.body.getD i (.Pass ⟨0,0,0,0⟩)
structure Txt (mg:Str→Option Value):Prop where
  b_ValueError:mg "ValueError" = none
  b_bool:mg "bool" = none
  b_dict:mg "dict" = none
  b_enumerate:mg "enumerate" = none
  b_isinstance:mg "isinstance" = none
  b_len:mg "len" = none
  b_list:mg "list" = none
  b_max:mg "max" = none
  b_min:mg "min" = none
  b_range:mg "range" = none
  b_str:mg "str" = none
  b_sorted:mg "sorted" = none
  b_tuple:mg "tuple" = none
  MOST_THINGS:∃ t,mg "MOST_THINGS" = some (.int 60 t)
structure Calls (P:Program) (w:World) (K:PySem.W.Frag) (mg:Str→Option Value) (base:Heap):Prop where
  draw:Cal P w K mg base "_law_draw" 1 ["_law_feed", "_law_many"] spDraw
section
variable {P:Program} {w:World} {K:PySem.W.Frag} {mg:Str→Option Value} {base:Heap}
abbrev q4r:Stmt:=top 33
theorem sc_draw:FnScope ["_law_feed", "_law_many", "_law_cell", "_law_number", "_law_found"] ["_law_feed", "_law_many"] (defScope q4r):=⟨rfl,rfl,rfl,by decide +kernel,rfl,by decide +kernel,by decide +kernel⟩
theorem x0a (D:Df K mg "_law_draw" q4r ["_law_feed", "_law_many"]) (T:Txt mg):Cal P w K mg base "_law_draw" 1 ["_law_feed", "_law_many"] spDraw:=by
  refine D.cal sc_draw (fun vs H Q E h => ?_) (fun f cdv A outer s H vs Q E hr h => ?_)
  · obtain⟨a,b,m,rfl,_⟩:=h;rfl
  · obtain⟨a,b,m,rfl,⟨⟨i,j,ha⟩,ns,hb⟩,hm0,hm1,k⟩:=h
    refine⟨_,(@q0e _ _ _ _ _ (@z2x _ _ _ _ _ _ (q1f q1q (q1t (ix_k K rfl) (pv 0) q0g (fun _ _=>rfl)) q0g) (@z2w _ _ _ _ _ _ _ (pv 0) q0g q7p (by intro _;rfl)) (by rfl) (by rfl) (by rfl)) (@q0e _ _ _ _ _ (@q1b _ _ _ _ _ _ _ _ (q0j (eq_k K rfl hr) (q1t (ix_k K rfl) (pv 0) q0g (fun _ _=>rfl)) q0g (nomark _)) (@q0e _ _ _ _ _ (@q0m _ _ (2) _ _ _ _ sc_draw.nd rfl (by first | exact Or.inl rfl | exact Or.inr rfl) (q1t (ix_k K rfl) (pv 0) q0g (fun _ _=>rfl)) (by rfl) (by first | exact .inl rfl | exact .inr rfl | assumption)) (@q0e _ _ _ _ _ (@q1b _ _ _ _ _ _ _ _ (q0j z6l (q0i (q3x K rfl) (by rfl) T.b_len PySem.boot_len (q0a (q1t (ix_k K rfl) (pv 0) q0g (fun _ _=>rfl)) q0d (by rfl)) (by decide) (by decide) (by rfl) (by rfl)) q0g (nomark _)) (@q0f _ _ _ (@q0m _ _ (2) _ _ _ _ sc_draw.nd rfl (by first | exact Or.inl rfl | exact Or.inr rfl) (q1t (ix_k K rfl) (q1t (ix_k K rfl) (pv 0) q0g (fun _ _=>rfl)) (q1f q6u (q1t (ix_k K rfl) (pv 0) q0g (fun _ _=>rfl)) (q0i (q3x K rfl) (by rfl) T.b_len PySem.boot_len (q0a (q1t (ix_k K rfl) (pv 0) q0g (fun _ _=>rfl)) q0d (by rfl)) (by decide) (by decide) (by rfl) (by rfl))) (fun _ _=>rfl)) (by rfl) (by first | exact .inl rfl | exact .inr rfl | assumption))) q0h) (@q0e _ _ _ _ _ (@q1b _ _ _ _ _ _ _ _ (q0j z6k (pv 2) (q1f z3b q0g q0g) (nomark _)) (@q0e _ _ _ _ _ (@q0m _ _ (3) _ _ _ _ sc_draw.nd rfl (by first | exact Or.inl rfl | exact Or.inr rfl) (q1f q6u (q1f q7u (q1f q1q (q1f q1q (q1f q6u (pv 2) q0g) (q1f q7u q0g (q1t (ix_k K rfl) (pv 0) q0g (fun _ _=>rfl)))) q0g) q0g) q0g) (by rfl) (by first | exact .inl rfl | exact .inr rfl | assumption)) (@q0e _ _ _ _ _ (@q0m _ _ (3) _ _ _ _ sc_draw.nd rfl (by first | exact Or.inl rfl | exact Or.inr rfl) (q1f q6u (q1f q7u (pv 3) (q1f q1q (pv 3) q0g)) q0g) (by rfl) (by first | exact .inl rfl | exact .inr rfl | assumption)) (@q0f _ _ _ (@q0l _ _ _ _ (q1f q6u (q1f z3a (pv 3) q0g) (pv 1)))))) q0h) (@q0f _ _ _ (@z2x _ _ _ _ _ _ (pv 2) (@z2w _ _ _ _ _ _ _ (pv 0) q0g q7p (by intro _;rfl)) (by rfl) (by rfl) (by rfl)))))) q0h) (@q0e _ _ _ _ _ (@q0m _ _ (4) _ _ _ _ sc_draw.nd rfl (by first | exact Or.inl rfl | exact Or.inr rfl) (q1f q6u (q1t (ix_k K rfl) (pv 0) q0g (fun _ _=>rfl)) (pv 1)) (by rfl) (by first | exact .inl rfl | exact .inr rfl | assumption)) (@q0e _ _ _ _ _ (@z2x _ _ _ _ _ _ (q1f z3a (q1t (ix_k K rfl) (pv 0) q0g (fun _ _=>rfl)) (pv 1)) (@z2w _ _ _ _ _ _ _ (pv 0) q0g q7p (by intro _;rfl)) (by rfl) (by rfl) (by rfl)) (@q0f _ _ _ (@q0l _ _ _ _ (pv 4))))))),?_⟩
    have nba:b≠a:=FeedAt.ne ⟨⟨i,j,ha⟩,ns,hb⟩
    refine⟨_,rfl,.inl ⟨a,_,1,_,rfl,rfl,SqL.of ha,rfl,.inl ⟨_,_,rfl,rfl,_,rfl,a,_,1,1,rfl,rfl,ha,rfl,?_⟩⟩⟩
    generalize hH1:upd H a _=H1
    have ha1:H1 a=some (.lst [.ref b,.int (i+1),.int j]):=by rw [← hH1];exact q0b
    have hb1:H1 b=some (.lst (ns.map V.int)):=by rw [← hH1,q0c nba];exact hb
    have fd:∀ (x y:Int),Fd a b H (upd H1 a (.lst [.ref b,.int x,.int y])):=fun x y=>⟨⟨⟨x,y,q0b⟩,ns,by rw [q0c nba];exact hb1⟩,fun c o e hc=>by rw [q0c hc,← hH1,q0c hc];exact e⟩
    have fd1:Fd a b H H1:=⟨⟨⟨_,_,ha1⟩,ns,hb1⟩,fun c o e hc=>by rw [← hH1,q0c hc];exact e⟩
    refine⟨_,rfl,.inl ⟨a,_,2,_,rfl,rfl,SqL.of ha1,rfl,.inl ⟨rfl,_,rfl,?_⟩⟩⟩
    have last:∀ (H2:Hp) (σ2:St) (y:Int),H2 a=some (.lst [.ref b,.int (i+1),.int y])→(∀ x y:Int,Fd a b H (upd H2 a (.lst [.ref b,.int x,.int y])))→σ2[0]? = some (some (.ref a))→σ2[1]? = some (some (.int m))→σ2.length=5 →
        tSeq (tAsg (tOp (rI (fun _ j=>0<j) fun i j => .int (i % j)) (tOp (rIx K) (tVar 0) (tC (.int 2))) (tVar 1)) (gName 4)) (tSeq (tAsg (tOp (rI CDiv fun i j => .int (i / j)) (tOp (rIx K) (tVar 0) (tC (.int 2))) (tVar 1)) (gSub (tVar 0) (tC (.int 2)) rSetL)) (tRet (tVar 4))) { nx:=fun _ H' => Q .non H',rt:=Q } σ2 H2:=by
      intro H2 σ2 y h2 f2 e0 e1 el
      match σ2,e0,e1,el with
      | [x0,x1,x2,x3,x4],e0,e1,_ =>
        cases e0
        cases e1
        refine⟨_,rfl,.inl ⟨a,_,2,_,rfl,rfl,SqL.of h2,rfl,_,rfl,_,_,rfl,rfl,hm0,?_⟩⟩
        refine⟨_,rfl,.inl ⟨a,_,2,_,rfl,rfl,SqL.of h2,rfl,_,rfl,_,_,rfl,rfl,⟨hm0,hm1⟩,_,rfl,a,_,2,2,rfl,rfl,h2,rfl,_,rfl,?_⟩⟩
        exact k _ _ (Int.emod_nonneg _ (by lia)) (Int.emod_lt_of_pos _ hm0) (f2 _ _)
    refine ite2 (fun _ => ?_) (fun _=>last H1 _ j ha1 fd rfl rfl rfl)
    refine⟨_,rfl,.inl ⟨a,_,1,_,rfl,rfl,SqL.of ha1,rfl,?_⟩⟩
    refine⟨_,rfl,.inl ⟨a,_,0,_,rfl,rfl,SqL.of ha1,rfl,⟨_,_,rfl,.inl ⟨_,SqL.of hb1,rfl⟩,⟨_,_,rfl,rfl,_,rfl,?_⟩⟩⟩⟩
    have rest : ∀ cell : Int, tSeq (tIfS (tTest (tOp (rI0 fun i j => .bl (decide (i < j))) (tVar 2) (tOp (rI CPow fun i j => .int (i ^ j.toNat)) (tC (.int 10)) (tC (.int 18)))))
          (tSeq (tAsg (tOp (rI (fun _ j=>0<j) fun i j => .int (i % j)) (tOp rMulU (tOp rAddU (tOp rAddU (tOp (rI (fun _ j=>0<j) fun i j => .int (i % j)) (tVar 2) (tC (.int 2147483647))) (tOp rMulU (tC (.int 613)) (tOp (rIx K) (tVar 0) (tC (.int 1))))) (tC (.int 7))) (tC (.int 48271))) (tC (.int 2147483647))) (gName 3))
            (tSeq (tAsg (tOp (rI (fun _ j=>0<j) fun i j => .int (i % j)) (tOp rMulU (tVar 3) (tOp rAddU (tVar 3) (tC (.int 69621)))) (tC (.int 2147483629))) (gName 3))
              (tRet (tOp (rI (fun _ j=>0<j) fun i j => .int (i % j)) (tOp (rI CDiv fun i j => .int (i / j)) (tVar 3) (tC (.int 64))) (tVar 1))))) tNext)
          (tAsg (tVar 2) (gSub (tVar 0) (tC (.int 2)) rSetL))
        { nx:=fun σ2 H2=>tSeq (tAsg (tOp (rI (fun _ j=>0<j) fun i j => .int (i % j)) (tOp (rIx K) (tVar 0) (tC (.int 2))) (tVar 1)) (gName 4)) (tSeq (tAsg (tOp (rI CDiv fun i j => .int (i / j)) (tOp (rIx K) (tVar 0) (tC (.int 2))) (tVar 1)) (gSub (tVar 0) (tC (.int 2)) rSetL)) (tRet (tVar 4))) { nx:=fun _ H' => Q .non H',rt:=Q } σ2 H2,rt:=Q }
        [some (.ref a),some (.int m),some (.int cell),none,none] H1:=by
      intro cell
      refine⟨_,rfl,_,_,rfl,rfl,⟨by decide,by decide,by decide⟩,_,_,rfl,rfl,_,rfl,?_⟩
      refine ite2 (fun _ => ?_) (fun _ => ?_)
      · refine⟨_,rfl,_,_,rfl,rfl,(by show (0:Int)<2147483647;decide),?_⟩
        refine⟨_,rfl,.inl ⟨a,_,1,_,rfl,rfl,SqL.of ha1,rfl,.inl ⟨_,_,rfl,rfl,.inl ⟨by decide,by decide⟩,.inl ⟨_,_,rfl,rfl,.inl ⟨_,_,rfl,rfl,.inl ⟨_,_,rfl,rfl,.inr ⟨by decide,by decide⟩,_,_,rfl,rfl,(by show (0:Int)<2147483647;decide),?_⟩⟩⟩⟩⟩⟩
        generalize hn:((cell % 2147483647+613 * (i+1)+7) * 48271) % 2147483647=n
        have n0:0≤n:=by rw [← hn];exact Int.emod_nonneg _ (by decide)
        have n1:n<2147483647:=by rw [← hn];exact Int.emod_lt_of_pos _ (by decide)
        refine⟨_,rfl,_,rfl,.inl ⟨_,_,rfl,rfl,.inl ⟨_,_,rfl,rfl,.inl ⟨by lia,by lia⟩,_,_,rfl,rfl,(by show (0:Int)<2147483629;decide),?_⟩⟩⟩
        refine⟨_,rfl,_,_,rfl,rfl,⟨by decide,by decide⟩,_,rfl,_,_,rfl,rfl,hm0,?_⟩
        exact k _ _ (Int.emod_nonneg _ (by lia)) (Int.emod_lt_of_pos _ hm0) fd1
      · refine⟨_,rfl,_,rfl,a,_,2,2,rfl,rfl,ha1,rfl,?_⟩
        refine last _ _ cell q0b (fun x y => ?_) rfl rfl rfl
        have:=fd x y
        rw [z8w]
        exact this
    refine ite2 (fun hl => ?_) (fun _=>rest _)
    have hne:ns.map V.int ≠ []:=by
      intro z
      rw [z] at hl
      simp at hl
    obtain⟨x,hx,ex⟩:=z9h (i+1) hne
    obtain⟨c,rfl⟩:∃ c,x=V.int c:=by
      obtain⟨c,_,e⟩:=List.mem_map.mp hx
      exact⟨c,e.symm⟩
    refine⟨_,rfl,.inl ⟨a,_,0,_,rfl,rfl,SqL.of ha1,rfl,⟨_,rfl,.inl ⟨a,_,1,_,rfl,rfl,SqL.of ha1,rfl,⟨_,rfl,.inl ⟨a,_,0,_,rfl,rfl,SqL.of ha1,rfl,⟨_,_,rfl,.inl ⟨_,SqL.of hb1,rfl⟩,_,_,rfl,rfl,?_,?_⟩⟩⟩⟩⟩⟩⟩
    · have:0<(ns.map V.int).length:=by
        cases e:ns.map V.int with
        | nil=>exact absurd e hne
        | cons _ _=>simp
      show (0:Int)<((ns.map V.int).length:Int)
      lia
    · exact .inl ⟨b,_,_,_,rfl,rfl,SqL.of hb1,ex,rest c⟩
theorem aab_in:∀ c∈tl (Str.ofString "aAb"),c∈NS:=by decide +kernel
def spName:Sp:=fun vs H Q _=>∃ a b,vs = [.ref a]∧FeedAt H a b∧∀ (t:List Nat) H',okN t→Fd a b H H' → Q (.str (mk t)) H'
abbrev q4s:Stmt:=top 34
theorem sc_name:FnScope ["_law_feed", "_law_signs", "_law_size"] ["_law_feed"] (defScope q4s):=⟨rfl,rfl,rfl,by decide +kernel,rfl,by decide +kernel,by decide +kernel⟩
theorem x0b (D:Df K mg "_law_name" q4s ["_law_feed"]) (T:Txt mg) (C:Calls P w K mg base):Cal P w K mg base "_law_name" 2 ["_law_feed"] spName:=by
  refine D.cal sc_name (fun vs H Q E h => ?_) (fun f cdv A outer s H vs Q E hr h => ?_)
  · obtain⟨a,b,rfl,_⟩:=h;rfl
  · obtain⟨a,b,rfl,F,k⟩:=h
    refine⟨_,(@q0e _ _ _ _ _ (@q0m _ _ (1) _ _ _ _ sc_name.nd rfl (by first | exact Or.inl rfl | exact Or.inr rfl) q1g (by rfl) (by first | exact .inl rfl | exact .inr rfl | assumption)) (@q0e _ _ _ _ _ (@q0m _ _ (2) _ _ _ _ sc_name.nd rfl (by first | exact Or.inl rfl | exact Or.inr rfl) (q1f q1q q0g (pe_c C.draw hr (q0a (pv 0) (q0a q0g q0d (by rfl)) (by rfl)) (by decide) (by rfl) (by decide) (by rfl) (by rfl))) (by rfl) (by first | exact .inl rfl | exact .inr rfl | assumption)) (@q2l _ _ _ _ _ (@q1b _ _ _ _ _ _ _ _ (q0j z6l (pe_c C.draw hr (q0a (pv 0) (q0a q0g q0d (by rfl)) (by rfl)) (by decide) (by rfl) (by decide) (by rfl) (by rfl)) q0g (nomark _)) (@q0e _ _ _ _ _ (@q0m _ _ (1) _ _ _ _ sc_name.nd rfl (by first | exact Or.inl rfl | exact Or.inr rfl) q1g (by rfl) (by first | exact .inl rfl | exact .inr rfl | assumption)) (@q0f _ _ _ (@q0m _ _ (2) _ _ _ _ sc_name.nd rfl (by first | exact Or.inl rfl | exact Or.inr rfl) (q1f q1q q0g (pe_c C.draw hr (q0a (pv 0) (q0a q0g q0d (by rfl)) (by rfl)) (by decide) (by rfl) (by decide) (by rfl) (by rfl))) (by rfl) (by first | exact .inl rfl | exact .inr rfl | assumption)))) q0h) (@q0f _ _ _ (@q0l _ _ _ _ (@bm_k _ _ _ _ _ _ _ _ _ _ _ _ K rfl PySem.F.plainAttrs_str PySem.F.slot_str_join PySem.F.type_str_join (join_k K rfl) q1g (q0a (@q5l _ _ _ _ _ _ _ _ _ _ _ ["_law_k"] [("_law_signs",1),("_law_feed",0)] rfl (@q2k _ _ _ _ _ _ rfl T.b_range (q0a (pv 2) q0d (by rfl)) (by rfl)) (fun _ _ _ _ _=>(@q1e _ _ (0) _ (show (["_law_k", "_law_signs", "_law_feed"]:List Str).Nodup by decide +kernel) rfl (by first | exact Or.inl rfl | exact Or.inr rfl) (by first | exact .inl rfl | exact .inr rfl | assumption))) (fun _ _ _ _ _=>q9v) (fun _ _ _ _ _=>(q1t (ix_k K rfl) (pv 1) (pe_c C.draw hr (q0a (pv 2) (q0a (q0i (q3x K rfl) (by rfl) T.b_len PySem.boot_len (q0a (pv 1) q0d (by rfl)) (by decide) (by decide) (by rfl) (by rfl)) q0d (by rfl)) (by rfl)) (by decide) (by rfl) (by decide) (by rfl) (by rfl)) (fun _ _=>rfl))) (by rfl) (by intro _;rfl)) q0d (by rfl)) (by rfl) (by rfl) (by rfl) (by rfl) (by rfl))))))),?_⟩
    refine⟨_,rfl,a,b,_,rfl,F,by decide,by decide,fun r1 H1 r10 r11 fd1 => .inl ⟨_,_,rfl,rfl,?_⟩⟩
    refine⟨fun σ' H' => ∃ (g:Str) (n:Int),σ' = [some (.ref a),some (.str g),some (.int n)]∧Fd a b H H' ∧ 0<g.length∧g.length≤100∧1≤n∧n≤12∧∀ c∈tl g,c∈NS,?_,?_⟩
    · rintro σ' H' ⟨g,n,rfl,fd,hg0,hg1,hn0,hn1,hg⟩
      refine⟨rfl,_,rfl,n,rfl,by lia,by lia,fun D hD => ?_⟩
      have F' := fd.feed
      refine q9y (n:=n.toNat) (fun i ys H2=>∃ cs:List Nat,ys=cs.map (fun c=>V.str ⟨#[c]⟩)∧cs.length=i∧i≤n.toNat∧(∀ c∈cs,c∈tl g)∧Fd a b H' H2∧H2 D=some (.lst ys)) ⟨[],rfl,rfl,Nat.zero_le _,fun _ h=>(nomatch h),(Fd.refl F').new hD,q0b⟩ (fun i ys H' ⟨cs,_,_,_,_,_,h⟩=>h) ?_ ?_
      · rintro i ys H2 hi ⟨cs,rfl,hl,_,hc,fd2,hHD⟩
        refine⟨_,rfl,_,rfl,_,rfl,_,_,rfl,⟨small (by lia),rfl⟩,a,b,_,rfl,fd2.feed,by lia,by lia,fun r H3 r0 r1 fd3 => ?_⟩
        have hl2:(tl g).length=g.length:=(len g).symm
        obtain⟨c,hc1,hc2⟩:=z0q (xs:=tl g) r0 (by lia)
        refine .inr (.inr ⟨g,r,c,rfl,rfl,small (by lia),hc2,?_⟩)
        have hDa:D≠a:=fun z=>by subst z;exact F'.na hD rfl
        refine⟨fd3.at hHD hDa,small' (by rw [List.length_map];lia),cs ++ [c],by rw [List.map_append];rfl,by rw [List.length_append,hl];rfl,by lia,fun d hd => ?_,(fd2.trans fd3).put F' hD,q0b⟩
        rcases List.mem_append.mp hd with z | z
        · exact hc d z
        · rw [List.mem_singleton.mp z];exact List.mem_of_getElem? hc1
      · rintro ys H2 ⟨cs,rfl,hl,_,hc,fd2,hHD⟩
        have e:cs.map (fun c=>V.str ⟨#[c]⟩)=(cs.map fun c=>(⟨#[c]⟩:Str)).map V.str:=by rw [List.map_map];rfl
        refine⟨_,D,cs.map fun c=>⟨#[c]⟩,rfl,rfl,.inl (SqL.of (by rw [← e];exact hHD)),?_,?_⟩
        · rw [z6y,List.length_map]
          have:(Str.ofString "").length=0:=by decide +kernel
          rw [this,hl];exact small (by lia)
        · have z:=z3x cs
          rw [z]
          exact k cs H2 ⟨by lia,by lia,fun c hc' => hg c (hc c hc')⟩ (fd.trans fd2)
    · refine⟨_,rfl,a,b,_,rfl,fd1.feed,by decide,by decide,fun r2 H2 r20 r21 fd2 => ?_⟩
      refine⟨_,_,rfl,rfl,_,rfl,ite2 (fun h => ?_) (fun h => ?_)⟩
      · refine⟨_,rfl,a,b,_,rfl,fd2.feed,by decide,by decide,fun r3 H3 r30 r31 fd3 => .inl ⟨_,_,rfl,rfl,?_⟩⟩
        exact⟨_,_,rfl,(fd1.trans fd2).trans fd3,by decide +kernel,by decide +kernel,by lia,by lia,aab_in⟩
      · exact⟨_,_,rfl,fd1.trans fd2,by decide +kernel,by decide +kernel,by lia,by lia,fun c hc=>hc⟩
def spFolded:Sp:=fun vs H Q _=>∃ p q bl,vs = [.ref p,.bl bl]∧H p=some (.tup (vP q))∧okP q∧∀ p' H',Same H H' → H' p' = some (.tup (vP (fold bl q)))→Q (.ref p') H'
theorem q1r (p:Pth):(vP p).length=p.length:=List.length_map _
theorem q1x {q:Pth} (h:q ≠ []):cutV (vP q) none (some (-1))=vP q.dropLast∧¬ (HT.sIx (vP q).length 0 none=0∧HT.sIx (vP q).length (vP q).length (some (-1))=(vP q).length):=by
  have hl:=List.length_pos_iff.mpr h
  have e:HT.sIx (vP q).length (vP q).length (some (-1))=q.length - 1:=by
    show (if (-1:Int)<0 then ((-1:Int)+((vP q).length:Int)).toNat else min (-1:Int).toNat (vP q).length)=_
    rw [if_pos (by decide),q1r];lia
  refine⟨?_,fun z=>by rw [e,q1r] at z;lia⟩
  unfold cutV
  rw [e]
  show ((vP q).drop 0).take _=_
  rw [List.drop_zero]
  show (vP q).take (q.length - 1 - 0)=_
  rw [Nat.sub_zero,← List.map_take,← List.dropLast_eq_take]
theorem q4t {q:Pth} (h:q ≠ []):atI (vP q) (-1)=some (.str (mk (q.getLastD []))):=by
  have hl:=List.length_pos_iff.mpr h
  unfold atI ixN
  rw [if_neg (by decide),if_pos (by rw [q1r];lia)]
  have e:((-1:Int)+((vP q).length:Int)).toNat=q.length - 1:=by rw [q1r];lia
  show (vP q)[((-1:Int)+((vP q).length:Int)).toNat]? = _
  rw [e,List.getElem?_map,← List.getLast?_eq_getElem?,List.getLastD_eq_getLast?,List.getLast?_eq_some_getLast h];rfl
theorem q4u {q:Pth} (h:okP q):okN (q.getLastD []):=by
  rw [List.getLastD_eq_getLast?,List.getLast?_eq_some_getLast h.ne]
  exact h.all _ (List.getLast_mem h.ne)
theorem z1f {n:List Nat} (h:∀ c∈n,c<128):PySem.Txt.lower (mk n)=mk (lowN n):=by
  apply ext
  rw [TX.lower (by rw [q2h];exact h),q2h,q2h];rfl
abbrev q2m:Stmt:=top 35
theorem z5n:FnScope ["_law_path_here", "_law_blind"] ["_law_path_here", "_law_blind"] (defScope q2m):=⟨rfl,rfl,rfl,by decide +kernel,rfl,by decide +kernel,by decide +kernel⟩
theorem z5o (D:Df K mg "_law_folded" q2m ["_law_path_here", "_law_blind"]) (T:Txt mg):Cal P w K mg base "_law_folded" 1 ["_law_path_here", "_law_blind"] spFolded:=by
  refine D.cal z5n (fun vs H Q E h => ?_) (fun f cdv A outer s H vs Q E hr h => ?_)
  · obtain⟨p,q,bl,rfl,_⟩:=h;rfl
  · obtain⟨p,q,bl,rfl,hp,ok,k⟩:=h
    refine⟨_,(@q0e _ _ _ _ _ (@q1b _ _ _ _ _ _ _ _ (@q3y _ _ _ K rfl (pv 1) (fun _=>rfl)) (@q0f _ _ _ (@q0l _ _ _ _ (q1f q2i (q1a (sl_k K rfl) (pv 0) q1j (@q1k _ _ _ (q2q q1u q0g))) (q0y (q0a (@z2b _ _ _ _ _ _ _ _ _ K rfl PySem.F.plainAttrs_str PySem.F.slot_str_lower PySem.F.type_str_lower q5m (q1t (ix_k K rfl) (pv 0) (q2q q1u q0g) (fun _ _=>rfl)) (by rfl) (by rfl)) q0d (by rfl)))))) q0h) (@q0f _ _ _ (@q0l _ _ _ _ (pv 0)))),?_⟩
    cases bl with
    | false=>exact⟨_,rfl,false,rfl,iteF ⟨_,rfl,k p H (Same.refl H) hp⟩⟩
    | true =>
      obtain⟨c1,c2⟩:=q1x ok.ne
      have ln:=(q4u ok).low
      refine⟨_,rfl,true,rfl,iteT ⟨_,rfl,_,rfl,_,rfl,.inr (.inr ⟨p,_,rfl,SqT.of hp,c2,fun p1 hp1 => ?_⟩)⟩⟩
      rw [c1]
      have s1:=(Same.refl H).new (o := .tup (vP q.dropLast)) hp1
      refine⟨_,rfl,_,rfl,.inr (.inl ⟨p,_,-1,_,rfl,rfl,SqT.of (s1 _ _ hp),q4t ok.ne,rfl,_,rfl,rfl,small (by rw [q6b];have:=(q4u ok).few;lia),?_⟩)⟩
      refine⟨by show 1≤sizeLine;decide,fun p2 hp2 => ?_⟩
      have s2:=s1.new (o := .tup [.str (PySem.Txt.lower (mk (q.getLastD [])))]) hp2
      refine⟨p1,p2,_,_,rfl,rfl,by rw [q0c (fun z=>by subst z;rw [q0b] at hp2;cases hp2)];exact q0b,q0b,by rw [q1r];exact small (by rw [List.length_dropLast];have:=ok.few;show _+1≤_;lia),fun p3 H3 s3 h3 _ => ?_⟩
      refine k p3 H3 (s2.trans s3) ?_
      rw [h3,z1f ln,z0w]
      show _=some (HO.tup ((q.dropLast ++ [lowN (q.getLastD [])]).map _))
      rw [List.map_append];rfl
end
end K
set_option maxHeartbeats 4000000
namespace K
open PySem L2 TX SB HM
section
variable {P:Program} {w:World} {K:PySem.W.Frag} {mg:Str→Option Value} {base:Heap}
theorem q7g:∀ {p q:Pth},kP p=kP q→p=q
  | [],[],_=>rfl
  | [],_::_,h=>by cases h
  | _::_,[],h=>by cases h
  | a::p,b::q,h=>by
    unfold kP at h
    rw [List.map_cons,List.map_cons] at h
    injection h with h1 h2
    injection h1 with h1
    rw [SB.mk_inj h1,q7g h2]
theorem z5p {rs:List HRow} {p:Pth} (h:∀ r∈rs,r.1≠p):valV (rs.map fun r=>(kP r.1,r.2)) (kP p)=none:=by
  induction rs with
  | nil=>rfl
  | cons r rs ih =>
    rw [List.map_cons,q1l (fun z=>h r List.mem_cons_self (q7g z))]
    exact ih fun x hx=>h x (List.mem_cons_of_mem _ hx)
theorem q6m {rs:List HRow} {r:HRow} (hr:r∈rs) (nd:(rs.map (·.1)).Nodup):valV (rs.map fun r=>(kP r.1,r.2)) (kP r.1)=some r.2:=by
  induction rs with
  | nil=>cases hr
  | cons x rs ih =>
    rw [List.map_cons,List.nodup_cons] at nd
    rcases List.mem_cons.mp hr with rfl | hr
    · rw [List.map_cons];exact q1o rfl
    · rw [List.map_cons,q1l (fun z=>nd.1 (by rw [q7g z];exact List.mem_map.mpr ⟨r,hr,rfl⟩))]
      exact ih hr nd.2
theorem q4i {rs:List HRow} {p:Pth} {v:V} (h:∀ r∈rs,r.1≠p):putK (rs.map fun r=>(kP r.1,r.2)) (kP p) v=(rs ++ [(p,v)]).map fun r=>(kP r.1,r.2):=by
  rw [z7a v (z5p h),List.map_append];rfl
structure RwInv (H:Hp) (a b L Dr d:Addr) (bl:Bool) (i:Nat) (H' : Hp) (zs:List Zr) (ds:List (Addr×Pth)):Prop where
  fd:Fd a b H H'
  rl:RL H' L zs
  hl:Hl bl (zs.map (·.2))
  len:zs.length≤i
  da:H' Dr=some (.lst (ds.map fun z=>V.ref z.1))
  dt:∀ z∈ds,H' z.1=some (.tup (vP z.2))∧(z.2 = []∨((z.2,none)∈zs.map (·.2)))∧z.2.length<6
  dn:ds ≠ []
  dl:ds.length≤i+1
  hd:H' d=some (dR (zs.map fun z=>(fold bl z.2.1,.bl true)))
theorem RwInv.go {H:Hp} {a b L Dr d:Addr} {bl:Bool} {i:Nat} {H' H2:Hp} {zs:List Zr} {ds:List (Addr×Pth)} (x:RwInv H a b L Dr d bl i H' zs ds) (fd:Fd a b H' H2) (hL:L≠a) (hD:Dr≠a) (hd:d≠a):RwInv H a b L Dr d bl i H2 zs ds :=
  ⟨x.fd.trans fd,x.rl.fd x.fd.feed fd hL,x.hl,x.len,fd.at x.da hD,fun z hz=>⟨tupFd x.fd.feed fd _ _ (x.dt z hz).1,(x.dt z hz).2⟩,x.dn,x.dl,fd.at x.hd hd⟩
theorem RwInv.sm {H:Hp} {a b L Dr d:Addr} {bl:Bool} {i:Nat} {H' H2:Hp} {zs:List Zr} {ds:List (Addr×Pth)} (x:RwInv H a b L Dr d bl i H' zs ds) (s:Same H' H2):RwInv H a b L Dr d bl i H2 zs ds :=
  ⟨x.fd.same s,x.rl.same s,x.hl,x.len,s _ _ x.da,fun z hz=>⟨s _ _ (x.dt z hz).1,(x.dt z hz).2⟩,x.dn,x.dl,s _ _ x.hd⟩
theorem RwInv.put {H:Hp} {a b L Dr d T p:Addr} {bl:Bool} {i:Nat} {H' : Hp} {zs:List Zr} {ds:List (Addr×Pth)} {q:Pth} {m:Option Int} (x:RwInv H a b L Dr d bl i H' zs ds) (F:FeedAt H a b) (hL:H L=none) (hd:H d=none) (nLd:d≠L) (nDL:Dr≠L)
    (hp:H' p=some (.tup (vP q))) (ok:okP q) (hnew:∀ r∈zs.map (fun z=>((fold bl z.2.1,.bl true):HRow)),r.1≠fold bl q) (hq:q.dropLast = []∨(q.dropLast,none)∈zs.map (·.2))
    (hT:upd H' d (dR (zs.map (fun z=>((fold bl z.2.1,.bl true):HRow)) ++ [(fold bl q,.bl true)])) T=none) :
    RwInv H a b L Dr d bl (i+1) (upd (upd (upd H' d (dR (zs.map (fun z=>((fold bl z.2.1,.bl true):HRow)) ++ [(fold bl q,.bl true)]))) T (.tup [.ref p,mV m])) L (.lst (zs.map (fun z=>V.ref z.1) ++ [.ref T]))) (zs ++ [(T,(q,m))]) ds:=by
  have hTd:T≠d:=fun z=>by rw [z,q0b] at hT;cases hT
  have hT' : H' T=none:=by rw [q0c hTd] at hT;exact hT
  have hLT:T≠L:=fun z=>by rw [z,x.rl.at_] at hT';cases hT'
  have hDT:Dr≠T:=fun z=>by rw [← z,x.da] at hT';cases hT'
  have hDd:Dr≠d:=fun z=>by have e:=x.da;rw [z,x.hd] at e;cases e
  have tk:∀ S xs,H' S=some (.tup xs)→upd (upd (upd H' d (dR (zs.map (fun z=>((fold bl z.2.1,.bl true):HRow)) ++ [(fold bl q,.bl true)]))) T (.tup [.ref p,mV m])) L (.lst (zs.map (fun z=>V.ref z.1) ++ [.ref T])) S=some (.tup xs):=fun S xs e=>by
    rw [q0c (fun z=>by rw [z,x.rl.at_] at e;cases e),q0c (fun z=>by rw [z,hT'] at e;cases e),q0c (fun z=>by rw [z,x.hd] at e;cases e)];exact e
  have em:(zs ++ [(T,(q,m))]).map (·.2)=zs.map (·.2) ++ [(q,m)]:=by rw [List.map_append];rfl
  refine⟨((x.fd.put F hd).new hT).put F hL,⟨by rw [q0b,List.map_append];rfl,fun z hz => ?_⟩,?_,by rw [List.length_append];exact Nat.succ_le_succ x.len,?_,fun z hz => ?_,x.dn,Nat.le_succ_of_le x.dl,?_⟩
  · rcases List.mem_append.mp hz with hz | hz
    · exact PR.same (x.rl.pr z hz) tk
    · rw [List.mem_singleton.mp hz]
      exact⟨p,by rw [q0c hLT];exact q0b,tk _ _ hp⟩
  · rw [em]
    refine⟨fun r hr => ?_,?_,fun r hr => ?_⟩
    · rcases List.mem_append.mp hr with hr | hr
      · exact x.hl.ok r hr
      · rw [List.mem_singleton.mp hr];exact ok
    · rw [List.map_append]
      refine List.nodup_append.mpr ⟨x.hl.nd,(List.pairwise_singleton _ _),fun y hy y' hy' => ?_⟩
      rw [List.mem_singleton.mp hy']
      obtain⟨r,hr,rfl⟩:=List.mem_map.mp hy
      obtain⟨z,hz,rfl⟩:=List.mem_map.mp hr
      exact hnew (fold bl z.2.1,.bl true) (List.mem_map.mpr ⟨z,hz,rfl⟩)
    · rcases List.mem_append.mp hr with hr | hr
      · exact (x.hl.dr r hr).imp id fun z=>List.mem_append_left _ z
      · rw [List.mem_singleton.mp hr];exact hq.imp id fun z=>List.mem_append_left _ z
  · rw [q0c nDL,q0c hDT,q0c hDd];exact x.da
  · obtain⟨z1,z2,z3⟩:=x.dt z hz
    exact⟨tk _ _ z1,z2.imp id fun y=>by rw [em];exact List.mem_append_left _ y,z3⟩
  · rw [q0c nLd,q0c hTd.symm,q0b,List.map_append];rfl
theorem RwInv.draw {H:Hp} {a b L Dr d p:Addr} {bl:Bool} {i:Nat} {H' : Hp} {zs:List Zr} {ds:List (Addr×Pth)} {q:Pth} (x:RwInv H a b L Dr d bl (i+1) H' zs ds) (F:FeedAt H a b) (hD:H Dr=none) (nDL:Dr≠L) (hl:ds.length≤i+1)
    (hp:H' p=some (.tup (vP q))) (hq:(q,none)∈zs.map (·.2)) (h6:q.length<6):RwInv H a b L Dr d bl (i+1) (upd H' Dr (.lst (ds.map (fun z=>V.ref z.1) ++ [.ref p]))) zs (ds ++ [(p,q)]):=by
  have hDd:d≠Dr:=fun z=>by have e:=x.da;rw [← z,x.hd] at e;cases e
  have tk:∀ S xs,H' S=some (.tup xs)→upd H' Dr (.lst (ds.map (fun z=>V.ref z.1) ++ [.ref p])) S=some (.tup xs):=fun S xs e=>by rw [q0c (fun z=>by rw [z,x.da] at e;cases e)];exact e
  refine⟨x.fd.put F hD,⟨by rw [q0c nDL.symm];exact x.rl.at_,fun z hz=>PR.same (x.rl.pr z hz) tk⟩,x.hl,x.len,by rw [q0b,List.map_append];rfl,fun z hz => ?_,by simp,by rw [List.length_append];exact Nat.succ_le_succ hl,by rw [q0c hDd];exact x.hd⟩
  rcases List.mem_append.mp hz with hz | hz
  · exact⟨tk _ _ (x.dt z hz).1,(x.dt z hz).2⟩
  · rw [List.mem_singleton.mp hz];exact⟨tk _ _ hp,.inr hq,h6⟩
structure CallsN (P:Program) (w:World) (K:PySem.W.Frag) (mg:Str→Option Value) (base:Heap):Prop where
  draw:Cal P w K mg base "_law_draw" 1 ["_law_feed", "_law_many"] spDraw
  name:Cal P w K mg base "_law_name" 2 ["_law_feed"] spName
  folded:Cal P w K mg base "_law_folded" 1 ["_law_path_here", "_law_blind"] spFolded
def spRows:Sp:=fun vs H Q _=>∃ a b bl m,vs = [.ref a,.bl bl,.int m]∧FeedAt H a b∧0≤m∧m≤60∧∀ L zs H',Fd a b H H' → H L=none→RL H' L zs→Hl bl (zs.map (·.2))→zs.length≤m.toNat→Q (.ref L) H'
abbrev q4v:Stmt:=top 36
theorem sc_rows:FnScope ["_law_feed", "_law_blind", "_law_most", "_law_rows_here", "_law_drawers", "_law_held", "_law_k", "_law_path_here", "_law_mark"] ["_law_feed", "_law_blind", "_law_most"] (defScope q4v):=⟨rfl,rfl,rfl,by decide +kernel,rfl,by decide +kernel,by decide +kernel⟩
theorem x0c (D:Df K mg "_law_rows" q4v ["_law_feed", "_law_blind", "_law_most"]) (T:Txt mg) (C:CallsN P w K mg base):Cal P w K mg base "_law_rows" 3 ["_law_feed", "_law_blind", "_law_most"] spRows:=by
  refine D.cal sc_rows (fun vs H Q E h => ?_) (fun f cdv A outer s H vs Q E hr h => ?_)
  · obtain⟨a,b,bl,m,rfl,_⟩:=h;rfl
  · obtain⟨a,b,bl,m,rfl,F,hm0,hm1,k⟩:=h
    refine⟨_,(@q0e _ _ _ _ _ (@q0m _ _ (3) _ _ _ _ sc_rows.nd rfl (by first | exact Or.inl rfl | exact Or.inr rfl) (q2e q0d) (by rfl) (by first | exact .inl rfl | exact .inr rfl | assumption)) (@q0e _ _ _ _ _ (@q0m _ _ (4) _ _ _ _ sc_rows.nd rfl (by first | exact Or.inl rfl | exact Or.inr rfl) (q2e (q0a (q0y q0d) q0d (by rfl))) (by rfl) (by first | exact .inl rfl | exact .inr rfl | assumption)) (@q0e _ _ _ _ _ (@q0m _ _ (5) _ _ _ _ sc_rows.nd rfl (by first | exact Or.inl rfl | exact Or.inr rfl) z0t (by rfl) (by first | exact .inl rfl | exact .inr rfl | assumption)) (@q0e _ _ _ _ _ (@q3w _ _ _ _ _ _ _ _ PassesOwn.never rfl (@q2k _ _ _ _ _ _ rfl T.b_range (q0a (pe_c C.draw hr (q0a (pv 0) (q0a (q1f q1q (pv 2) q0g) q0d (by rfl)) (by rfl)) (by decide) (by rfl) (by decide) (by rfl) (by rfl)) q0d (by rfl)) (by rfl)) (@q1e _ _ (6) _ sc_rows.nd rfl (by first | exact Or.inl rfl | exact Or.inr rfl) (by first | exact .inl rfl | exact .inr rfl | assumption)) (@q0e _ _ _ _ _ (@q0m _ _ (7) _ _ _ _ sc_rows.nd rfl (by first | exact Or.inl rfl | exact Or.inr rfl) (q1f q2i (q1t (ix_k K rfl) (pv 4) (pe_c C.draw hr (q0a (pv 0) (q0a (q0i (q3x K rfl) (by rfl) T.b_len PySem.boot_len (q0a (pv 4) q0d (by rfl)) (by decide) (by decide) (by rfl) (by rfl)) q0d (by rfl)) (by rfl)) (by decide) (by rfl) (by decide) (by rfl) (by rfl)) (fun _ _=>rfl)) (q0y (q0a (pe_c C.name hr (q0a (pv 0) q0d (by rfl)) (by decide) (by rfl) (by decide) (by rfl) (by rfl)) q0d (by rfl)))) (by rfl) (by first | exact .inl rfl | exact .inr rfl | assumption)) (@q0e _ _ _ _ _ (@q0m _ _ (8) _ _ _ _ sc_rows.nd rfl (by first | exact Or.inl rfl | exact Or.inr rfl) (q1t (ix_k K rfl) (q2e (q0a (pe_c C.draw hr (q0a (pv 0) (q0a q0g q0d (by rfl)) (by rfl)) (by decide) (by rfl) (by decide) (by rfl) (by rfl)) (q0a (pe_c C.draw hr (q0a (pv 0) (q0a (q1f q1q (q1f z3b q0g q0g) q0g) q0d (by rfl)) (by rfl)) (by decide) (by rfl) (by decide) (by rfl) (by rfl)) q0d (by rfl)) (by rfl))) (pe_c C.draw hr (q0a (pv 0) (q0a q0g q0d (by rfl)) (by rfl)) (by decide) (by rfl) (by decide) (by rfl) (by rfl)) (fun _ _=>rfl)) (by rfl) (by first | exact .inl rfl | exact .inr rfl | assumption)) (@q2l _ _ _ _ _ (@q1b _ _ _ _ _ _ _ _ (q0j (eq_k K rfl hr) (pe_c C.draw hr (q0a (pv 0) (q0a q0g q0d (by rfl)) (by rfl)) (by decide) (by rfl) (by decide) (by rfl) (by rfl)) q0g (nomark _)) (@q0f _ _ _ (@q0m _ _ (8) _ _ _ _ sc_rows.nd rfl (by first | exact Or.inl rfl | exact Or.inr rfl) q2v (by rfl) (by first | exact .inl rfl | exact .inr rfl | assumption))) q0h) (@q0f _ _ _ (@q1b _ _ _ _ _ _ _ _ (@q2j _ _ _ _ _ _ (@q4b _ _ _ _ _ (q3q hr) (pe_c C.folded hr (q0a (pv 7) (q0a (pv 1) q0d (by rfl)) (by rfl)) (by decide) (by rfl) (by decide) (by rfl) (by rfl)) (pv 5)) (by first | exact nobehind _ (by decide) (by decide) | rfl)) (@q0e _ _ _ _ _ (@q7v _ _ _ _ _ _ _ _ _ (q3q hr) (pv 5) (pe_c C.folded hr (q0a (pv 7) (q0a (pv 1) q0d (by rfl)) (by rfl)) (by decide) (by rfl) (by decide) (by rfl) (by rfl)) q6p rfl) (@q0e _ _ _ _ _ (@q1y _ _ _ _ (@bm_k _ _ _ _ _ _ _ _ _ _ _ _ K rfl PySem.F.plainAttrs_list PySem.F.slot_list_append PySem.F.type_list_append q2z (pv 3) (q0a (q0y (q0a (pv 7) (q0a (pv 8) q0d (by rfl)) (by rfl))) q0d (by rfl)) (by rfl) (by rfl) (by rfl) (by rfl) (by rfl)) (by rfl)) (@q0f _ _ _ (@q1b _ _ _ _ _ _ _ _ (@pt_j _ _ _ (@PW.pt _ _ _ (@q3v _ _ _ _ _ _ _ (@q2j _ _ _ _ _ _ (@q6t _ _ _ _ _ (pv 8)) (by first | exact nobehind _ (by decide) (by decide) | rfl)) (@q2p _ _ _ _ (q0j z6k (q0i (q3x K rfl) (by rfl) T.b_len PySem.boot_len (q0a (pv 7) q0d (by rfl)) (by decide) (by decide) (by rfl) (by rfl)) q0g (nomark _)))))) (@q0f _ _ _ (@q1y _ _ _ _ (@bm_k _ _ _ _ _ _ _ _ _ _ _ _ K rfl PySem.F.plainAttrs_list PySem.F.slot_list_append PySem.F.type_list_append q2z (pv 4) (q0a (pv 7) q0d (by rfl)) (by rfl) (by rfl) (by rfl) (by rfl) (by rfl)) (by rfl))) q0h)))) q0h))))) (by intro _;rfl)) (@q0f _ _ _ (@q0l _ _ _ _ (pv 3))))))),?_⟩
    refine⟨by show 0≤sizeLine;decide,fun L hL=>⟨by show 0≤sizeLine;decide,fun p0 hp0=>⟨by show 1≤sizeLine;decide,fun Dr hDr => ?_⟩⟩⟩
    intro d hd
    have hLa:L≠a:=(q0k F.fa.choose_spec.choose_spec hL).symm
    have s1:=(Same.refl H).new (o := .lst []) hL
    have s2:=s1.new (o := .tup []) hp0
    have s3:=s2.new (o := .lst [.ref p0]) hDr
    have s4:=s3.new (o := .dT []) hd
    have hDrH:H Dr=none:=s2.free hDr
    have hdH:H d=none:=s3.free hd
    have hDa:Dr≠a:=(q0k F.fa.choose_spec.choose_spec hDrH).symm
    have hda:d≠a:=(q0k F.fa.choose_spec.choose_spec hdH).symm
    have hLp:p0≠L:=fun z=>by rw [z,q0b] at hp0;cases hp0
    have hLDr:Dr≠L:=fun z=>by rw [z,q0c hLp.symm,q0b] at hDr;cases hDr
    have hpDr:Dr≠p0:=fun z=>by rw [z,q0b] at hDr;cases hDr
    have hLd:d≠L:=fun z=>by rw [z,q0c hLDr.symm,q0c hLp.symm,q0b] at hd;cases hd
    have hDd:d≠Dr:=fun z=>by rw [z,q0b] at hd;cases hd
    have hpd:d≠p0:=fun z=>by rw [z,q0c hpDr.symm,q0b] at hd;cases hd
    have I0:RwInv H a b L Dr d bl 0 (upd (upd (upd (upd H L (.lst [])) p0 (.tup [])) Dr (.lst [.ref p0])) d (.dT [])) [] [(p0,[])]:=by
      refine⟨(Fd.refl F).same s4,⟨?_,(fun _ h=>nomatch h)⟩,Hl.nil bl,Nat.le_refl _,?_,fun z hz => ?_,by simp,Nat.le_refl _,q0b⟩
      · rw [q0c hLd.symm,q0c hLDr.symm,q0c hLp.symm];exact q0b
      · rw [q0c hDd.symm];exact q0b
      · rw [List.mem_singleton.mp hz]
        exact⟨by rw [q0c hpd.symm,q0c hpDr.symm];exact q0b,.inl rfl,by show 0<6;decide⟩
    generalize hH0:upd (upd (upd (upd H L (.lst [])) p0 (.tup [])) Dr (.lst [.ref p0])) d (.dT [])=H0 at I0
    refine⟨_,rfl,_,rfl,.inl ⟨_,_,rfl,rfl,a,b,_,rfl,I0.fd.feed,by lia,by lia,fun r0 H1 r00 r01 fd1 => ?_⟩⟩
    have I1:=I0.go fd1 hLa hDa hda
    refine⟨r0,rfl,by lia,by lia,q2w (n:=r0.toNat) (fun i σ' H' => ∃ zs ds x6 x7 x8,σ' = [some (.ref a),some (.bl bl),some (.int m),some (.ref L),some (.ref Dr),some (.ref d),x6,x7,x8]∧RwInv H a b L Dr d bl i H' zs ds∧i≤r0.toNat) ⟨[],_,none,none,none,rfl,I1,Nat.zero_le _⟩ ?_ ?_⟩
    · rintro i σ' H' hi ⟨zs,ds,x6,x7,x8,rfl,I2,_⟩
      have hdl:=I2.dl
      have hdn:0<ds.length:=List.length_pos_iff.mpr I2.dn
      refine⟨_,rfl,_,rfl,_,rfl,_,_,rfl,.inl ⟨_,SqL.of I2.da,rfl⟩,a,b,_,rfl,I2.fd.feed,by rw [List.length_map];lia,by rw [List.length_map];lia,fun r1 H2 r10 r11 fd2 => ?_⟩
      have I3:=I2.go fd2 hLa hDa hda
      rw [List.length_map] at r11
      obtain⟨v,hv1,hv2⟩:=z0q (xs:=ds.map fun z=>V.ref z.1) r10 (by rw [List.length_map];exact r11)
      obtain⟨z,hz,rfl⟩:∃ z∈ds,v=V.ref z.1:=by
        rw [List.getElem?_map] at hv1
        cases e:ds[r1.toNat]? with
        | none=>rw [e] at hv1;cases hv1
        | some z=>rw [e] at hv1;cases hv1;exact⟨z,List.mem_of_getElem? e,rfl⟩
      refine .inl ⟨Dr,_,r1,_,rfl,rfl,SqL.of I3.da,hv2,?_⟩
      refine⟨_,rfl,a,b,rfl,I3.fd.feed,fun t H3 okt fd3=>⟨by show 1≤sizeLine;decide,fun p1 hp1 => ?_⟩⟩
      have I4:=(I3.go fd3 hLa hDa hda).sm ((Same.refl H3).new (o := .tup [.str (mk t)]) hp1)
      obtain⟨zt,zd,zl⟩:=I4.dt z hz
      refine⟨z.1,p1,_,_,rfl,rfl,zt,q0b,by rw [q1r];exact small (by show _+1≤_;lia),fun p2 H5 s5 hp2 _ => ?_⟩
      have I5:=I4.sm s5
      have hp2' : H5 p2=some (.tup (vP (z.2 ++ [t]))):=by rw [hp2];show _=some (HO.tup ((z.2 ++ [t]).map _));rw [List.map_append];rfl
      have okp:okP (z.2 ++ [t]):=by
        refine⟨by simp,by rw [List.length_append];show _+1≤6;lia,fun n hn => ?_⟩
        rcases List.mem_append.mp hn with hn | hn
        · rcases zd with e | e
          · rw [e] at hn;cases hn
          · exact (I4.hl.ok _ e).all n hn
        · rw [List.mem_singleton.mp hn];exact okt
      clear hp2 I4 I3 zt
      generalize hq:z.2 ++ [t]=q at hp2' okp
      have hqd:q.dropLast = []∨(q.dropLast,none)∈zs.map (·.2):=by rw [← hq,List.dropLast_concat];exact zd
      refine⟨_,rfl,a,b,_,rfl,I5.fd.feed,by decide,by decide,fun m1 H6 m10 m11 fd6 => ?_⟩
      have I6:=I5.go fd6 hLa hDa hda
      refine⟨_,rfl,_,_,rfl,rfl,⟨by decide,by decide,by decide⟩,.inl ⟨_,_,rfl,rfl,a,b,_,rfl,I6.fd.feed,by decide,by decide,fun m2 H7 m20 m21 fd7=>⟨by show 2≤sizeLine;decide,fun M hM => ?_⟩⟩⟩
      have I7:=(I6.go fd7 hLa hDa hda).sm ((Same.refl H7).new (o := .lst [.int m1,.int m2]) hM)
      have fdM:=fd6.trans (fd7.new (o := .lst [.int m1,.int m2]) hM)
      refine⟨_,rfl,a,b,_,rfl,I7.fd.feed,by decide,by decide,fun m3 H8 m30 m31 fd8 => ?_⟩
      have I8:=I7.go fd8 hLa hDa hda
      have fdp:=fdM.trans fd8
      have hMa:M≠a:=fun z=>by rw [z] at hM;obtain⟨_,_,e⟩:=(I6.go fd7 hLa hDa hda).fd.feed.fa;rw [hM] at e;cases e
      have hm8:H8 M=some (.lst [.int m1,.int m2]):=fd8.at q0b hMa
      have hat:∃ mk0:Int,atI [V.int m1,V.int m2] m3=some (.int mk0):=by
        have e:m3=0∨m3=1:=by lia
        rcases e with rfl | rfl
        · exact⟨m1,rfl⟩
        · exact⟨m2,rfl⟩
      obtain⟨mk0,hat⟩:=hat
      refine .inl ⟨M,_,m3,_,rfl,rfl,SqL.of hm8,hat,?_⟩
      have hp8:H8 p2=some (.tup (vP q)):=tupFd I5.fd.feed fdp _ _ hp2'
      refine⟨fun σ' H' => ∃ mk0 x6,σ' = [some (.ref a),some (.bl bl),some (.int m),some (.ref L),some (.ref Dr),some (.ref d),x6,some (.ref p2),some (mV mk0)]∧RwInv H a b L Dr d bl i H' zs ds∧H' p2=some (.tup (vP q)),?_,?_⟩
      · rintro σ' H' ⟨mk0,x6,rfl,I9,hp9⟩
        refine⟨_,rfl,_,rfl,p2,q,bl,rfl,hp9,okp,fun pf H10 s10 hpf=>⟨_,rfl,d,_,rfl,DGet.t (k:=kP (fold bl q)) (I9.sm s10).hd (by rw [q3a];exact hpf),_,rfl,?_⟩⟩
        have I10:=I9.sm s10
        refine iteB (fun hno => ?_) (fun hno => ?_)
        · have hnew:∀ r∈zs.map (fun z=>((fold bl z.2.1,.bl true):HRow)),r.1≠fold bl q:=fun r hr e=>by
            have:=q6m hr (by rw [List.map_map];have:=I10.hl.nd;rw [List.map_map] at this;exact this)
            rw [e] at this
            rw [this] at hno;cases hno
          refine⟨_,rfl,_,rfl,_,rfl,p2,q,bl,rfl,s10 _ _ hp9,okp,fun pg H11 s11 hpg => ?_⟩
          have I11:=I10.sm s11
          refine⟨d,_,rfl,DPut.t (k:=kP (fold bl q)) I11.hd (by rw [q3a];exact hpg) (by rw [List.length_map,List.length_map];have:=I11.len;exact small' (by lia)),?_⟩
          rw [q4i hnew]
          have hL12:upd H11 d (dR (zs.map (fun z=>((fold bl z.2.1,.bl true):HRow)) ++ [(fold bl q,.bl true)])) L=some (.lst (zs.map fun z=>V.ref z.1)):=by rw [q0c hLd.symm];exact I11.rl.at_
          refine⟨_,rfl,.inl ⟨rfl,_,SqL.of hL12⟩,_,rfl,_,rfl,by show 2≤sizeLine;decide,fun T hT => ?_⟩
          have hLT:L≠T:=fun z=>by rw [← z,hL12] at hT;cases hT
          refine⟨L,_,_,rfl,rfl,by rw [q0c hLT];exact hL12,by rw [List.length_map];have:=I11.len;exact small' (by lia),?_⟩
          have I12:=I11.put (m:=mk0) F hL hdH hLd hLDr (s11 _ _ (s10 _ _ hp9)) okp hnew hqd hT
          have hp12:upd (upd (upd H11 d (dR (zs.map (fun z=>((fold bl z.2.1,.bl true):HRow)) ++ [(fold bl q,.bl true)]))) T (.tup [.ref p2,mV mk0])) L (.lst (zs.map (fun z=>V.ref z.1) ++ [.ref T])) p2=some (.tup (vP q)):=by
            obtain⟨b',e1,e2⟩:=I12.rl.pr (T,(q,mk0)) (by simp)
            have e3:H11 p2=some (.tup (vP q)):=s11 _ _ (s10 _ _ hp9)
            have hTd:T≠d:=fun z=>by rw [z,q0b] at hT;cases hT
            rw [q0c (fun z=>by rw [z,I11.rl.at_] at e3;cases e3),q0c (fun z=>by rw [q0c hTd,← z,e3] at hT;cases hT),q0c (fun z=>by rw [z,I11.hd] at e3;cases e3)];exact e3
          refine⟨fun b H' => b=(decide (mV mk0 = .non)&&decide (q.length<6))∧H' = upd (upd (upd H11 d (dR (zs.map (fun z=>((fold bl z.2.1,.bl true):HRow)) ++ [(fold bl q,.bl true)]))) T (.tup [.ref p2,mV mk0])) L (.lst (zs.map (fun z=>V.ref z.1) ++ [.ref T])),?_,?_⟩
          · rintro bb H' ⟨rfl,rfl⟩
            refine iteB (fun hb => ?_) (fun hb => ?_)
            · rw [Bool.and_eq_true] at hb
              have hmk:=mV_none.mp (of_decide_eq_true hb.1)
              subst hmk
              refine⟨_,rfl,.inl ⟨rfl,_,SqL.of I12.da⟩,_,rfl,Dr,_,_,rfl,rfl,I12.da,by rw [List.length_map];exact small' (by lia),?_⟩
              exact⟨_,_,_,_,_,rfl,I12.draw F hDrH hLDr (by lia) hp12 (by simp) (of_decide_eq_true hb.2),hi⟩
            · exact⟨_,_,_,_,_,rfl,I12,hi⟩
          · refine⟨_,rfl,_,rfl,?_⟩
            refine iteB (fun hb => ?_) (fun hb => ?_)
            · refine⟨_,rfl,_,_,rfl,.inr ⟨_,SqT.of hp12,rfl⟩,_,_,rfl,rfl,_,rfl,?_,rfl⟩
              rw [hb,q1r,Bool.true_and]
              exact decide_eq_decide.mpr (by lia)
            · exact⟨by rw [hb,Bool.false_and],rfl⟩
        · exact⟨zs,ds,_,_,_,rfl,⟨I10.fd,I10.rl,I10.hl,Nat.le_succ_of_le I10.len,I10.da,I10.dt,I10.dn,Nat.le_succ_of_le I10.dl,I10.hd⟩,hi⟩
      · refine⟨_,rfl,a,b,_,rfl,I8.fd.feed,by decide,by decide,fun r9 H9 r90 r91 fd9 => .inl ⟨rfl,_,rfl,?_⟩⟩
        have I9:=I8.go fd9 hLa hDa hda
        have hp9:H9 p2=some (.tup (vP q)):=tupFd I8.fd.feed fd9 _ _ hp8
        refine ite2 (fun h => ?_) (fun h => ?_)
        · exact⟨none,_,rfl,I9,hp9⟩
        · exact⟨some mk0,_,rfl,I9,hp9⟩
    · rintro σ' H' ⟨zs,ds,x6,x7,x8,rfl,I2,_⟩
      exact⟨_,rfl,k L zs H' I2.fd hL I2.rl I2.hl (by have:=I2.len;lia)⟩
def lenAt (L:Addr) (H:Hp):Nat:=match H L with | some (.lst xs)=>xs.length | _=>0
theorem z1g {L:Addr} {H:Hp} {xs:List V} (h:H L=some (.lst xs)):lenAt L H=xs.length:=by unfold lenAt;rw [h]
theorem ers_map {α β:Type} (f:α→β):∀ (l:List α) (k:Nat),(l.map f).eraseIdx k=(l.eraseIdx k).map f
  | [],_=>rfl
  | _::_,0=>rfl
  | a::l,k+1=>by show f a::(l.map f).eraseIdx k=f a::(l.eraseIdx k).map f;rw [ers_map f l k]
theorem q4j {α:Type} {z:α}:∀ {l:List α} {k:Nat},l[k]? = some z→l.Perm (z::l.eraseIdx k)
  | [],_,h=>by cases h
  | a::l,0,h=>by cases h;exact List.Perm.refl _
  | a::l,k+1,h=>by
    show (a::l).Perm (z::a::l.eraseIdx k)
    exact ((q4j (l:=l) (k:=k) h).cons a).trans (List.Perm.swap _ _ _)
structure MxInv (H:Hp) (a b Lf M:Addr) (zs:List Zr) (H' : Hp) (zl zf:List Zr):Prop where
  fd:Fd a b H H'
  l:RL H' Lf zl
  m:RL H' M zf
  p:(zl++zf).Perm zs
theorem MxInv.go {H:Hp} {a b Lf M:Addr} {zs:List Zr} {H' H2:Hp} {zl zf:List Zr} (x:MxInv H a b Lf M zs H' zl zf) (fd:Fd a b H' H2) (hL:Lf≠a) (hM:M≠a):MxInv H a b Lf M zs H2 zl zf:=⟨x.fd.trans fd,x.l.fd x.fd.feed fd hL,x.m.fd x.fd.feed fd hM,x.p⟩
theorem MxInv.mv {H:Hp} {a b Lf M:Addr} {zs:List Zr} {H' : Hp} {zl zf:List Zr} {k:Nat} {z:Zr} (x:MxInv H a b Lf M zs H' zl zf) (F:FeedAt H a b) (hL:H Lf=none) (hM:H M=none) (n:M≠Lf) (hz:zl[k]? = some z) :
    MxInv H a b Lf M zs (upd (upd H' Lf (.lst ((zl.map fun z=>V.ref z.1).eraseIdx k))) M (.lst (zf.map (fun z=>V.ref z.1) ++ [.ref z.1]))) (zl.eraseIdx k) (zf ++ [z]):=by
  have tk:∀ S xs,H' S=some (.tup xs)→upd (upd H' Lf (.lst ((zl.map fun z=>V.ref z.1).eraseIdx k))) M (.lst (zf.map (fun z=>V.ref z.1) ++ [.ref z.1])) S=some (.tup xs):=fun S xs e=>by
    rw [q0c (fun z=>by rw [z,x.m.at_] at e;cases e),q0c (fun z=>by rw [z,x.l.at_] at e;cases e)];exact e
  refine⟨(x.fd.put F hL).put F hM,⟨?_,fun y hy=>PR.same (x.l.pr y (List.mem_of_mem_eraseIdx hy)) tk⟩,⟨by rw [q0b,List.map_append];rfl,fun y hy => ?_⟩,?_⟩
  · rw [q0c n.symm,q0b,ers_map]
  · rcases List.mem_append.mp hy with hy | hy
    · exact PR.same (x.m.pr y hy) tk
    · rw [List.mem_singleton.mp hy];exact PR.same (x.l.pr z (List.mem_of_getElem? hz)) tk
  · refine List.Perm.trans ?_ x.p
    have e:zl.Perm (z::zl.eraseIdx k):=q4j hz
    have e2:(zl.eraseIdx k++(zf ++ [z])).Perm (z::(zl.eraseIdx k++zf)):=by
      rw [← List.append_assoc]
      exact List.perm_append_singleton _ _
    exact e2.trans (List.Perm.append_right zf e.symm)
def spMixed:Sp:=fun vs H Q _=>∃ a b L zs,vs = [.ref a,.ref L]∧FeedAt H a b∧RL H L zs∧zs.length≤60∧(∀ r∈zs.map (·.2),Low r.1)∧∀ M zs' H',Fd a b H H' → H M=none→RL H' M zs' → zs'.Perm zs→Q (.ref M) H'
abbrev q3i:Stmt:=top 37
theorem sc_mixed:FnScope ["_law_feed", "_law_rows_here", "_law_left", "_law_found"] ["_law_feed", "_law_rows_here"] (defScope q3i):=⟨rfl,rfl,rfl,by decide +kernel,rfl,by decide +kernel,by decide +kernel⟩
theorem z7t (D:Df K mg "_law_mixed" q3i ["_law_feed", "_law_rows_here"]) (T:Txt mg) (C:Calls P w K mg base):Cal P w K mg base "_law_mixed" 2 ["_law_feed", "_law_rows_here"] spMixed:=by
  refine D.cal sc_mixed (fun vs H Q E h => ?_) (fun f cdv A outer s H vs Q E hr h => ?_)
  · obtain⟨a,b,L,zs,rfl,_⟩:=h;rfl
  · obtain⟨a,b,L,zs,rfl,F,hl,h60,hlow,k⟩:=h
    refine⟨_,(@q0e _ _ _ _ _ (@q0m _ _ (2) _ _ _ _ sc_mixed.nd rfl (by first | exact Or.inl rfl | exact Or.inr rfl) (@q2y _ _ _ _ _ _ _ _ _ (z3w K rfl) (by rfl) T.b_list (by decide +kernel) (q0a (pv 1) q0d (by rfl)) (by decide) (by decide) (by rfl) (by rfl)) (by rfl) (by first | exact .inl rfl | exact .inr rfl | assumption)) (@q0e _ _ _ _ _ (@q0m _ _ (3) _ _ _ _ sc_mixed.nd rfl (by first | exact Or.inl rfl | exact Or.inr rfl) (q2e q0d) (by rfl) (by first | exact .inl rfl | exact .inr rfl | assumption)) (@q0e _ _ _ _ _ (@z6g _ _ _ _ _ _ PassesOwn.never (q0j (ne_k K rfl hr) (pv 2) (q2e q0d) (nomark _)) (@q0f _ _ _ (@q1y _ _ _ _ (@bm_k _ _ _ _ _ _ _ _ _ _ _ _ K rfl PySem.F.plainAttrs_list PySem.F.slot_list_append PySem.F.type_list_append q2z (pv 3) (q0a (@bm_k _ _ _ _ _ _ _ _ _ _ _ _ K rfl PySem.F.plainAttrs_list PySem.F.slot_list_pop PySem.F.type_list_pop z6t (pv 2) (q0a (pe_c C.draw hr (q0a (pv 0) (q0a (q0i (q3x K rfl) (by rfl) T.b_len PySem.boot_len (q0a (pv 2) q0d (by rfl)) (by decide) (by decide) (by rfl) (by rfl)) q0d (by rfl)) (by rfl)) (by decide) (by rfl) (by decide) (by rfl) (by rfl)) q0d (by rfl)) (by rfl) (by rfl) (by rfl) (by rfl) (by rfl)) q0d (by rfl)) (by rfl) (by rfl) (by rfl) (by rfl) (by rfl)) (by rfl)))) (@q0f _ _ _ (@q0l _ _ _ _ (pv 3)))))),?_⟩
    refine⟨_,rfl,L,_,rfl,.inl (SqL.of hl.at_),fun Lf hLf=>⟨by show 0≤sizeLine;decide,fun M hM => ?_⟩⟩
    have s1:=(Same.refl H).new (o := .lst (zs.map fun z=>V.ref z.1)) hLf
    have s2:=s1.new (o := .lst []) hM
    have hML:M≠Lf:=fun z=>by rw [z,q0b] at hM;cases hM
    have hMH:H M=none:=s1.free hM
    have hLa:Lf≠a:=(F.na hLf).symm
    have hMa:M≠a:=(F.na hMH).symm
    have I0:MxInv H a b Lf M zs (upd (upd H Lf (.lst (zs.map fun z=>V.ref z.1))) M (.lst [])) zs [] :=
      ⟨(Fd.refl F).same s2,⟨by rw [q0c hML.symm];exact q0b,(hl.same s2).pr⟩,⟨q0b,(fun _ h=>nomatch h)⟩,by rw [List.append_nil]⟩
    refine z6j (fun σ3 H3=>∃ zl zf,σ3 = [some (.ref a),some (.ref L),some (.ref Lf),some (.ref M)]∧MxInv H a b Lf M zs H3 zl zf) (fun _ H3=>lenAt Lf H3) ⟨zs,[],rfl,I0⟩ ?_ ?_
    · rintro σ3 H3 ⟨zl,zf,rfl,I⟩
      have hlen:zl.length+zf.length=zs.length:=by rw [← List.length_append];exact I.p.length_eq
      have hlw:∀ r∈zl.map (·.2),Low r.1:=fun r hr=>by
        obtain⟨z,hz,rfl⟩:=List.mem_map.mp hr
        exact hlow _ (List.mem_map.mpr ⟨z,I.p.mem_iff.mp (List.mem_append_left _ hz),rfl⟩)
      refine⟨_,rfl,by show 0≤sizeLine;decide,fun E hE => ?_⟩
      have sE:=(Same.refl H3).new (o := .lst []) hE
      have I1:MxInv H a b Lf M zs (upd H3 E (.lst [])) zl zf:=⟨I.fd.same sE,I.l.same sE,I.m.same sE,I.p⟩
      refine ne_no I1.l q0b hlw ⟨_,rfl,ite2 (fun h => ?_) (fun h => ?_)⟩
      · have hne:zl ≠ []:=by simpa using h
        have hpos:=List.length_pos_iff.mpr hne
        refine⟨_,rfl,.inl ⟨rfl,_,SqL.of I1.m.at_⟩,_,rfl,.inl ⟨rfl,_,SqL.of I1.l.at_⟩,_,rfl,_,rfl,_,_,rfl,.inl ⟨_,SqL.of I1.l.at_,rfl⟩,a,b,_,rfl,I1.fd.feed,by rw [List.length_map];lia,by rw [List.length_map];lia,fun r H4 r0 r1 fd4 => ?_⟩
        rw [List.length_map] at r1
        have I2:=I1.go fd4 hLa hMa
        obtain⟨v,hv1,hv2⟩:=z0q (xs:=zl) r0 r1
        obtain⟨j,hj1,hj2,hj3,_,_⟩:=q7o hv2
        refine⟨Lf,_,r,j,.ref v.1,rfl,rfl,I2.l.at_,by lia,by lia,by rw [List.length_map];exact hj1,by rw [List.getElem?_map,hj2];rfl,?_⟩
        refine⟨M,_,_,rfl,rfl,by rw [q0c hML];exact I2.m.at_,by rw [List.length_map];exact small' (by lia),?_⟩
        have I3:=I2.mv F hLf hMH hML hj2
        refine⟨⟨_,_,rfl,I3⟩,?_⟩
        rw [z1g I3.l.at_,z1g I.l.at_,List.length_map,List.length_map,List.length_eraseIdx,if_pos hj3];lia
      · have hz:zl = []:=by simpa using h
        subst hz
        exact⟨_,rfl,k M zf _ I1.fd hMH I1.m I1.p⟩
    · intro σ3 H3 Q1 Q2 hq h
      obtain⟨v,e,z,h⟩:=h
      refine⟨v,e,z,fun E hE => ?_⟩
      rcases h E hE with h | h
      · obtain⟨h1,b1,h2,h3⟩:=h
        exact .inl ⟨h1,b1,h2,hq _ _ h3⟩
      · obtain⟨d,e,h1,h2,h3,h4,h5,b1,h6,h7⟩:=h
        exact .inr ⟨d,e,h1,h2,h3,h4,h5,b1,h6,hq _ _ h7⟩
end
end K
set_option maxHeartbeats 4000000
namespace K
open PySem L2 TX SB HM
section
variable {P:Program} {w:World} {K:PySem.W.Frag} {mg:Str→Option Value} {base:Heap}
structure Hk (K:PySem.W.Frag) (c:Addr):Prop where
  cl:Cls K c
  b:NoAttr K c "blind"
  m:NoAttr K c "marks"
abbrev hF (bl:Bool) (d:Addr):List (Str×V) := [("blind",.bl bl),("marks",.ref d)]
structure HallAt (c:Addr) (H:Hp) (h d:Addr) (bl:Bool) (rows:List Rw):Prop where
  i:∃ dx,H h=some (.ins c dx (hF bl d))
  d:H d=some (dR (rows.map rR))
theorem HallAt.same {c:Addr} {H H' : Hp} {h d:Addr} {bl:Bool} {rows:List Rw} (x:HallAt c H h d bl rows) (s:Same H H'):HallAt c H' h d bl rows:=⟨x.i.imp fun dx e=>s _ _ e,s _ _ x.d⟩
def spAlike:Sp:=fun vs H Q _=>∃ x y,vs = [.str x,.str y]∧(∀ c∈tl x,c<128)∧(∀ c∈tl y,c<128)∧x.length≤1000∧y.length≤1000∧Q (.bl (decide ((tl x).map PyProof.Rows.lo1=(tl y).map PyProof.Rows.lo1))) H
abbrev q3j:Stmt:=top 27
theorem z7u:FnScope ["one", "other"] ["one", "other"] (defScope q3j):=⟨rfl,rfl,rfl,by decide +kernel,rfl,by decide +kernel,by decide +kernel⟩
theorem z7v (D:Df K mg "alike" q3j ["one", "other"]) (T:Txt mg):Cal P w K mg base "alike" 1 ["one", "other"] spAlike:=by
  refine D.cal z7u (fun vs H Q E h => ?_) (fun f cdv A outer s H vs Q E hr h => ?_)
  · obtain⟨x,y,rfl,_⟩:=h;rfl
  · obtain⟨x,y,rfl,ax,ay,lx,ly,k⟩:=h
    refine⟨_,(@q0f _ _ _ (@q0l _ _ _ _ (@q5t _ _ _ _ _ _ _ _ (eq_k K rfl hr) (@z2b _ _ _ _ _ _ _ _ _ K rfl PySem.F.plainAttrs_str PySem.F.slot_str_lower PySem.F.type_str_lower q5m (pv 0) (by rfl) (by rfl)) (@z2b _ _ _ _ _ _ _ _ _ K rfl PySem.F.plainAttrs_str PySem.F.slot_str_lower PySem.F.type_str_lower q5m (pv 1) (by rfl) (by rfl)) (nomark _)))),?_⟩
    refine⟨_,rfl,rfl,_,rfl,rfl,small (by lia),⟨_,rfl,rfl,_,rfl,rfl,small (by lia),.inl ⟨rfl,?_⟩⟩⟩
    have e:decide ((V.str (PySem.Txt.lower x))=V.str (PySem.Txt.lower y))=decide ((tl x).map PyProof.Rows.lo1=(tl y).map PyProof.Rows.lo1):=by
      rw [← TX.lower ax,← TX.lower ay]
      by_cases h:PySem.Txt.lower x=PySem.Txt.lower y
      · rw [h];simp
      · rw [decide_eq_false (fun z=>h (V.str.inj z)),decide_eq_false (fun z=>h (TX.ext z))]
    rw [e]
    exact k
structure CallsH (P:Program) (w:World) (K:PySem.W.Frag) (mg:Str→Option Value) (base:Heap):Prop where
  alike:Cal P w K mg base "alike" 1 ["one", "other"] spAlike
theorem q2s {p:Pth} (h:Low p):Low p.dropLast:=fun n hn=>h n (List.dropLast_subset _ hn)
def spOneP (c:Addr):Sp:=fun vs H Q _=>∃ h p q bl dx fs one other,vs = [.ref h,.ref p,.ref q]∧H h=some (.ins c dx fs)∧fs.lookup ("blind" : Str)=some (V.bl bl)∧H p=some (.tup (vP one))∧H q=some (.tup (vP other))∧okP one∧okP other ∧
  ∀ H',Same H H' → Q (.bl (decide (fold bl one=fold bl other))) H'
abbrev q0n:Stmt:=inClass (top 31) 3
theorem q3l:FnScope ["self", "one", "other"] ["self", "one", "other"] (defScope q0n):=⟨rfl,rfl,rfl,by decide +kernel,rfl,by decide +kernel,by decide +kernel⟩
theorem q9n {c:Addr} (D:Mf K c "is_one_place" "Hall.is_one_place" q0n ["self", "one", "other"]) (hk:Hk K c) (T:Txt mg) (C:CallsH P w K mg base):MCal P w K mg base c "is_one_place" 2 ["self", "one", "other"] (spOneP c):=by
  refine D.cal hk.cl q3l (fun vs H Q E h => ?_) (fun f cdv A outer s H vs Q E hr h => ?_)
  · obtain⟨h,p,q,bl,dx,fs,one,other,rfl,_⟩:=h;rfl
  · obtain⟨h,p,q,bl,dx,fs,one,other,rfl,hh,hb,hp,hq,ok1,ok2,k⟩:=h
    refine⟨_,(@q0e _ _ _ _ _ (@q1b _ _ _ _ _ _ _ _ (q0j (ne_k K rfl hr) (q1a (sl_k K rfl) (pv 1) q1j (@q1k _ _ _ (q2q q1u q0g))) (q1a (sl_k K rfl) (pv 2) q1j (@q1k _ _ _ (q2q q1u q0g))) (nomark _)) (@q0f _ _ _ (@q0l _ _ _ _ q6p)) q0h) (@q0e _ _ _ _ _ (@q1b _ _ _ _ _ _ _ _ (@q3y _ _ _ K rfl (@q5f _ _ _ _ _ K rfl (pv 0) (by rfl)) (fun _=>rfl)) (@q0f _ _ _ (@q0l _ _ _ _ (pe_c C.alike hr (q0a (q1t (ix_k K rfl) (pv 1) (q2q q1u q0g) (fun _ _=>rfl)) (q0a (q1t (ix_k K rfl) (pv 2) (q2q q1u q0g) (fun _ _=>rfl)) q0d (by rfl)) (by rfl)) (by decide) (by rfl) (by decide) (by rfl) (by rfl)))) q0h) (@q0f _ _ _ (@q0l _ _ _ _ (@q5t _ _ _ _ _ _ _ _ (eq_k K rfl hr) (q1t (ix_k K rfl) (pv 1) (q2q q1u q0g) (fun _ _=>rfl)) (q1t (ix_k K rfl) (pv 2) (q2q q1u q0g) (fun _ _=>rfl)) (nomark _)))))),?_⟩
    obtain⟨c1,c2⟩:=q1x ok1.ne
    obtain⟨d1,d2⟩:=q1x ok2.ne
    refine⟨_,rfl,_,rfl,_,rfl,.inr (.inr ⟨p,_,rfl,SqT.of hp,c2,fun p1 hp1 => ?_⟩)⟩
    rw [c1]
    have s1:=(Same.refl H).new (o := .tup (vP one.dropLast)) hp1
    refine⟨_,rfl,_,rfl,_,rfl,.inr (.inr ⟨q,_,rfl,SqT.of (s1 _ _ hq),d2,fun p2 hp2 => ?_⟩)⟩
    rw [d1]
    have s2:=s1.new (o := .tup (vP other.dropLast)) hp2
    have hp1' : upd (upd H p1 (.tup (vP one.dropLast))) p2 (.tup (vP other.dropLast)) p1=some (.tup (vP one.dropLast)):=by
      rw [q0c (fun z=>by rw [← z,q0b] at hp2;cases hp2)];exact q0b
    generalize hH2:upd (upd H p1 (.tup (vP one.dropLast))) p2 (.tup (vP other.dropLast))=H2 at s2 hp1'
    have hp2' : H2 p2=some (.tup (vP other.dropLast)):=by rw [← hH2];exact q0b
    have fe:=z9s (bl:=bl) ok1.ne ok2.ne
    refine q7y hp1' hp2' (q2s ok1.low) (q2s ok2.low) ⟨_,rfl,ite2 (fun hne => ?_) (fun hne => ?_)⟩
    · have hne' : one.dropLast≠other.dropLast:=by simpa using hne
      have e:decide (fold bl one=fold bl other)=false:=decide_eq_false fun z=>hne' (fe.mp z).1
      refine (?_:Q _ _)
      rw [← e];exact k _ s2
    · have heq:one.dropLast=other.dropLast:=by simpa using hne
      refine⟨_,rfl,h,c,dx,fs,_,rfl,s2 _ _ hh,hk.cl,hk.b,hb,_,rfl,?_⟩
      have l1:=q4u ok1
      have l2:=q4u ok2
      cases bl with
      | true =>
        refine iteT ⟨_,rfl,_,rfl,.inr (.inl ⟨p,_,-1,_,rfl,rfl,SqT.of (s2 _ _ hp),q4t ok1.ne,?_⟩)⟩
        refine⟨_,rfl,_,rfl,.inr (.inl ⟨q,_,-1,_,rfl,rfl,SqT.of (s2 _ _ hq),q4t ok2.ne,?_⟩)⟩
        refine⟨_,_,rfl,by rw [q2h];exact l1.low,by rw [q2h];exact l2.low,by rw [q6b];have:=l1.few;lia,by rw [q6b];have:=l2.few;lia,?_⟩
        rw [q2h,q2h]
        have e:decide (fold true one=fold true other)=decide (lowN (one.getLastD [])=lowN (other.getLastD [])):=by
          refine decide_eq_decide.mpr (fe.trans ⟨fun z=>by simpa using z.2,fun z=>⟨heq,by simpa using z⟩⟩)
        have:=k _ s2
        rw [e] at this;exact this
      | false =>
        refine iteF ⟨_,rfl,_,rfl,.inr (.inl ⟨p,_,-1,_,rfl,rfl,SqT.of (s2 _ _ hp),q4t ok1.ne,?_⟩)⟩
        refine⟨_,rfl,_,rfl,.inr (.inl ⟨q,_,-1,_,rfl,rfl,SqT.of (s2 _ _ hq),q4t ok2.ne,?_⟩)⟩
        refine .inl ⟨rfl,?_⟩
        have e:decide (fold false one=fold false other)=decide (V.str (mk (one.getLastD []))=V.str (mk (other.getLastD []))):=by
          refine decide_eq_decide.mpr (fe.trans ⟨fun z => ?_,fun z=>⟨heq,?_⟩⟩)
          · have:=z.2
            simp only [Bool.false_eq_true,if_false] at this
            rw [this]
          · simp only [Bool.false_eq_true,if_false]
            exact SB.mk_inj (V.str.inj z)
        have:=k _ s2
        rw [e] at this;exact this
def spThere (c:Addr):Sp:=fun vs H Q _=>∃ h d p bl rows place,vs = [.ref h,.ref p]∧HallAt c H h d bl rows∧H p=some (.tup (vP place))∧okP place∧(∀ r∈rows,okP r.1) ∧
  (∀ H',Same H H' → (∀ r∈rows,fold bl r.1≠fold bl place)→Q .non H')∧∀ H' b r,Same H H' → r∈rows→fold bl r.1=fold bl place→H' b=some (.tup (vP r.1))→Q (.ref b) H'
structure CallsI (P:Program) (w:World) (K:PySem.W.Frag) (mg:Str→Option Value) (base:Heap) (c:Addr):Prop where
  m_is_one_place:MCal P w K mg base c "is_one_place" 2 ["self", "one", "other"] (spOneP c)
theorem q2n {H H' : Hp} {d:Addr} {o:HO} (hd:H d=some o) (k:∀ a u,a≠d→H a=some u→H' a=some u):Same H (upd H' d o):=fun a u e=>by
  by_cases z:a=d
  · subst z;rw [q0b,← hd];exact e
  · rw [q0c z];exact k a u z e
abbrev q1i:Stmt:=inClass (top 31) 4
theorem sc_Hall_there:FnScope ["self", "place", "path"] ["self", "place"] (defScope q1i):=⟨rfl,rfl,rfl,by decide +kernel,rfl,by decide +kernel,by decide +kernel⟩
theorem z7w {c:Addr} (D:Mf K c "there" "Hall.there" q1i ["self", "place"]) (hk:Hk K c) (T:Txt mg) (C:CallsI P w K mg base c):MCal P w K mg base c "there" 3 ["self", "place"] (spThere c):=by
  refine D.cal hk.cl sc_Hall_there (fun vs H Q E h => ?_) (fun f cdv A outer s H vs Q E hr h => ?_)
  · obtain⟨h,d,p,bl,rows,place,rfl,_⟩:=h;rfl
  · obtain⟨h,d,p,bl,rows,place,rfl,hh,hp,ok,oks,k1,k2⟩:=h
    refine⟨_,(@q0e _ _ _ _ _ (@z4h _ _ _ H rfl (@q3w _ _ _ _ _ _ _ _ PassesOwn.never rfl (@z0u _ _ _ _ K rfl (@q5f _ _ _ _ _ K rfl (pv 0) (by rfl))) (@q1e _ _ (2) _ sc_Hall_there.nd rfl (by first | exact Or.inl rfl | exact Or.inr rfl) (by first | exact .inl rfl | exact .inr rfl | assumption)) (@q0f _ _ _ (@q1b _ _ _ _ _ _ _ _ (@q3y _ _ _ K rfl (@pe_m _ _ _ _ _ _ _ _ _ _ _ _ _ _ _ C.m_is_one_place hr (pv 0) (q0a (pv 2) (q0a (pv 1) q0d (by rfl)) (by rfl)) (by decide) (by rfl) (by rfl) (by rfl)) (fun _=>rfl)) (@q0f _ _ _ (@q0l _ _ _ _ (pv 2))) q0h)) (by intro _;rfl))) (@q0f _ _ _ (@q0l _ _ _ _ q2v))),?_⟩
    obtain⟨dx,hi⟩:=hh.i
    have hd:=hh.d
    have hhd:h≠d:=fun z=>by rw [z,hd] at hi;cases hi
    have hpd:p≠d:=fun z=>by rw [z,hd] at hp;cases hp
    refine⟨d,(fun o v e=>by rw [hd] at e;cases e),?_⟩
    refine⟨_,rfl,h,c,dx,_,_,rfl,hi,hk.cl,hk.m,rfl,d,_,rfl,hd,fun ob => ?_⟩
    refine q8y (fun i σ' H' => (∃ x,σ' = [some (.ref h),some (.ref p),x])∧H' d=some (.frz ob (dR (rows.map rR)))∧(∀ a u,a≠d→H a=some u→H' a=some u)∧∀ r∈rows.take i,fold bl r.1≠fold bl place)
      ⟨⟨none,rfl⟩,q0b,fun a u n e=>by rw [q0c n];exact e,fun r hr=>by rw [List.take_zero] at hr;cases hr⟩ (fun i σ' H' x=>x.2.1) ?_ ?_
    · rintro i ky v b σ' H' hk' hb ⟨⟨x,rfl⟩,hfz,kp,hno⟩
      obtain⟨r,hr,rfl,rfl⟩:∃ r,rows[i]? = some r∧ky=kP r.1∧v=mV r.2:=by
        rw [List.getElem?_map,List.getElem?_map] at hk'
        cases e:rows[i]? with
        | none=>rw [e] at hk';cases hk'
        | some r=>rw [e] at hk';cases hk';exact⟨r,rfl,rfl,rfl⟩
      have hrm:=List.mem_of_getElem? hr
      rw [q3a] at hb
      refine⟨_,rfl,h,dx,_,rfl,kp _ _ hhd hi,rfl,_,rfl,_,rfl,h,b,p,bl,dx,_,r.1,place,rfl,kp _ _ hhd hi,rfl,hb,kp _ _ hpd hp,oks r hrm,ok,fun H2 s2=>⟨_,rfl,?_⟩⟩
      have kp2:∀ a u,a≠d→H a=some u→H2 a=some u:=fun a u n e=>s2 _ _ (kp a u n e)
      refine iteB (fun he => ?_) (fun he => ?_)
      · refine⟨_,rfl,ob,_,s2 _ _ hfz,k2 _ b r (q2n hd kp2) hrm (of_decide_eq_true he) ?_⟩
        rw [q0c (fun z=>by rw [z,hfz] at hb;cases hb)];exact s2 _ _ hb
      · refine⟨⟨_,rfl⟩,s2 _ _ hfz,kp2,fun y hy => ?_⟩
        rw [List.take_add_one,hr] at hy
        rcases List.mem_append.mp hy with hy | hy
        · exact hno y hy
        · cases List.mem_singleton.mp hy;exact of_decide_eq_false he
    · rintro σ' H' ⟨⟨x,rfl⟩,hfz,kp,hno⟩
      refine⟨ob,_,hfz,k1 _ (q2n hd kp) fun r hr=>hno r ?_⟩
      rw [List.length_map,List.length_map,List.take_length];exact hr
def spBlind (c:Addr):Sp:=fun vs H Q _=>∃ h d bl rows,vs = [.ref h]∧HallAt c H h d bl rows∧Q (.bl bl) H
abbrev q0w:Stmt:=inClass (top 31) 2
theorem q5h:FnScope ["self"] ["self"] (defScope q0w):=⟨rfl,rfl,rfl,by decide +kernel,rfl,by decide +kernel,by decide +kernel⟩
theorem z7x {c:Addr} (D:Mf K c "is_blind" "Hall.is_blind" q0w ["self"]) (hk:Hk K c) (T:Txt mg):MCal P w K mg base c "is_blind" 1 ["self"] (spBlind c):=by
  refine D.cal hk.cl q5h (fun vs H Q E h => ?_) (fun f cdv A outer s H vs Q E hr h => ?_)
  · obtain⟨h,d,bl,rows,rfl,_⟩:=h;rfl
  · obtain⟨h,d,bl,rows,rfl,hh,k⟩:=h
    refine⟨_,(@q0f _ _ _ (@q0l _ _ _ _ (@q5f _ _ _ _ _ K rfl (pv 0) (by rfl)))),?_⟩
    obtain⟨dx,hi⟩:=hh.i
    exact⟨_,rfl,h,c,dx,_,_,rfl,hi,hk.cl,hk.b,rfl,k⟩
def spHRows (c:Addr):Sp:=fun vs H Q _=>∃ h d bl rows,vs = [.ref h]∧HallAt c H h d bl rows∧rows.length<64∧(∀ r∈rows,Low r.1) ∧
  ∀ L zs H',H L=none→Same H H' → RL H' L zs→(zs.map (·.2)).Perm rows→(zs.map (·.2.1)).Pairwise (fun a b=>pLt b a=false)→Q (.ref L) H'
abbrev q1m:Stmt:=inClass (top 31) 1
theorem q9o:FnScope ["self"] ["self"] (defScope q1m):=⟨rfl,rfl,rfl,by decide +kernel,rfl,by decide +kernel,by decide +kernel⟩
theorem z7y {c:Addr} (D:Mf K c "rows" "Hall.rows" q1m ["self"]) (hk:Hk K c) (T:Txt mg):MCal P w K mg base c "rows" 2 ["self"] (spHRows c):=by
  refine D.cal hk.cl q9o (fun vs H Q E h => ?_) (fun f cdv A outer s H vs Q E hr h => ?_)
  · obtain⟨h,d,bl,rows,rfl,_⟩:=h;rfl
  · obtain⟨h,d,bl,rows,rfl,hh,h64,hlow,k⟩:=h
    refine⟨_,(@q0f _ _ _ (@q0l _ _ _ _ (q0i (z2g hr) (by rfl) T.b_sorted (by decide +kernel) (q0a (@z2b _ _ _ _ _ _ _ _ _ K rfl PySem.F.plainAttrs_dict PySem.F.slot_dict_items PySem.F.type_dict_items z7j (@q5f _ _ _ _ _ K rfl (pv 0) (by rfl)) (by rfl) (by rfl)) q0d (by rfl)) (by decide) (by decide) (by rfl) (by rfl)))),?_⟩
    obtain⟨dx,hi⟩:=hh.i
    refine⟨_,rfl,h,c,dx,_,_,rfl,hi,hk.cl,hk.m,rfl,.inr (.inr (.inl ⟨rfl,.inr ⟨_,hh.d⟩⟩)),d,_,rfl,rfl,hh.d,fun v hv => ?_⟩
    have s1:=(Same.refl H).new (o:=vwO v d) hv
    refine⟨v,d,rows.map rR,rfl,q0b,s1 _ _ hh.d,by rw [List.length_map];exact h64,fun r hr => ?_,fun L as rs H' hL hp hs sm hLL prs => ?_⟩
    · obtain⟨x,hx,rfl⟩:=List.mem_map.mp hr
      exact hlow x hx
    · obtain⟨rows',p',rfl⟩:=perm_map_inv hp rfl
      obtain⟨zs,z1,z2,z3⟩:=zs_of prs rfl
      refine k L zs H' (s1.free hL) (s1.trans sm) ⟨?_,z3⟩ (by rw [z2];exact p') ?_
      · rw [hLL,← z1,List.map_map];rfl
      · have e:zs.map (·.2.1)=(rows'.map rR).map (·.1):=by rw [← z2,List.map_map,List.map_map];rfl
        rw [e];exact hs
theorem z1h {α:Type}:∀ {l:List α} {i:Nat} {r:α},l[i]? = some r→l=l.take i++r::l.drop (i+1)
  | [],_,_,h=>by cases h
  | a::l,0,_,h=>by cases h;rfl
  | a::l,i+1,r,h=>by show a::l=a::(l.take i++r::l.drop (i+1));rw [← z1h (l:=l) (i:=i) h]
theorem z5q {α β:Type} {f:α→β} {l:List α} {i:Nat} {r r' : α} (nd:(l.map f).Nodup) (hr:l[i]? = some r) (hr' : r' ∈ l.take i):f r' ≠ f r:=by
  rw [z1h hr,List.map_append,List.map_cons] at nd
  exact fun z=>(List.nodup_append.mp nd).2.2 _ (List.mem_map.mpr ⟨r',hr',rfl⟩) _ List.mem_cons_self z
structure InInv (c:Addr) (H:Hp) (x dx d Dr:Addr) (bl:Bool) (rows:List Rw) (ys:List (List Key×V)) (i:Nat) (H' : Hp):Prop where
  ins:H' x=some (.ins c dx (hF bl d))
  d:H' d=some (dR ((rows.take i).map rR))
  r:H' Dr=some (.dT ys)
  k:∀ a u,a≠x→H a=some u→H' a=some u
theorem InInv.same {c:Addr} {H H' H2:Hp} {x dx d Dr:Addr} {bl:Bool} {rows:List Rw} {ys:List (List Key×V)} {i:Nat} (v:InInv c H x dx d Dr bl rows ys i H') (s:Same H' H2):InInv c H x dx d Dr bl rows ys i H2:=⟨s _ _ v.ins,s _ _ v.d,s _ _ v.r,fun a u n e=>s _ _ (v.k a u n e)⟩
def spInit (c:Addr):Sp:=fun vs H Q _=>∃ x dx L bl zs,vs = [.ref x,.ref L,.bl bl]∧H x=some (.ins c dx [])∧RL H L zs∧Hl bl (zs.map (·.2))∧zs.length≤60 ∧
  ∀ d H',H d=none→H' x=some (.ins c dx (hF bl d))→H' d=some (dR ((zs.map (·.2)).map rR))→(∀ a u,a≠x→H a=some u→H' a=some u)→Q .non H'
structure CallsK (P:Program) (w:World) (K:PySem.W.Frag) (mg:Str→Option Value) (base:Heap) (c:Addr):Prop where
  m_there:MCal P w K mg base c "there" 3 ["self", "place"] (spThere c)
abbrev q1d:Stmt:=inClass (top 31) 0
theorem sc_Hall___init__:FnScope ["self", "rows", "blind", "drawers", "at", "path", "mark", "drawer"] ["self", "rows", "blind"] (defScope q1d):=⟨rfl,rfl,rfl,by decide +kernel,rfl,by decide +kernel,by decide +kernel⟩
theorem x0d {c:Addr} (D:Kf K mg c "Hall" "Hall.__init__" q1d ["self", "rows", "blind"]) (hk:Hk K c) (T:Txt mg) (C:CallsK P w K mg base c):KCal P w K mg base c "Hall" 4 ["self", "rows", "blind"] (spInit c):=by
  refine D.cal sc_Hall___init__ (fun vs H Q E h => ?_) (fun f cdv A outer s H vs Q E hr h => ?_)
  · obtain⟨x,dx,L,bl,zs,rfl,_⟩:=h;rfl
  · obtain⟨x,dx,L,bl,zs,rfl,hx,hl,hH,h60,k⟩:=h
    refine⟨_,(@q0e _ _ _ _ _ (@z8s _ _ _ _ _ _ _ _ K rfl (pv 0) (pv 2) (by rfl)) (@q0e _ _ _ _ _ (@z8s _ _ _ _ _ _ _ _ K rfl (pv 0) z0t (by rfl)) (@q0e _ _ _ _ _ (@z7k _ _ _ _ _ _ _ _ _ _ _ _ _ (3) _ _ _ ["path", "mark"] [] sc_Hall___init__.nd rfl (by first | exact Or.inl rfl | exact Or.inr rfl) rfl (@z3v _ _ _ _ K rfl (pv 1)) (fun _ _ _ _ _=>(@q8u _ _ _ _ (2) _ K rfl rfl (@q1w _ _ _ _ _ (@q1e _ _ (0) _ (show (["path", "mark"]:List Str).Nodup by decide +kernel) rfl (by first | exact Or.inl rfl | exact Or.inr rfl) (by first | exact .inl rfl | exact .inr rfl | assumption)) (@q1w _ _ _ _ _ (@q1e _ _ (1) _ (show (["path", "mark"]:List Str).Nodup by decide +kernel) rfl (by first | exact Or.inl rfl | exact Or.inr rfl) (by first | exact .inl rfl | exact .inr rfl | assumption)) q5s (by rfl)) (by rfl)) (by rfl) (by rfl))) (fun _ _ _ _ _=>(@q7s _ _ _ (@q2j _ _ _ _ _ _ (@q6t _ _ _ _ _ (pv 1)) (by first | exact nobehind _ (by decide) (by decide) | rfl)))) (fun _ _ _ _ _=>(pv 0)) (fun _ _ _ _ _=>q6p) (q3q hr) (by rfl) (by intro _;rfl) (by rfl) (by first | exact .inl rfl | exact .inr rfl | assumption)) (@q0f _ _ _ (@q3w _ _ _ _ _ _ _ _ PassesOwn.never rfl (@enum_k _ _ _ _ _ _ _ _ K rfl rfl T.b_enumerate (q0a (pv 1) q0d (by rfl)) (by rfl)) (@q8u _ _ _ _ (2) _ K rfl rfl (@q1w _ _ _ _ _ (@q1e _ _ (4) _ sc_Hall___init__.nd rfl (by first | exact Or.inl rfl | exact Or.inr rfl) (by first | exact .inl rfl | exact .inr rfl | assumption)) (@q1w _ _ _ _ _ (@q8u _ _ _ _ (2) _ K rfl rfl (@q1w _ _ _ _ _ (@q1e _ _ (5) _ sc_Hall___init__.nd rfl (by first | exact Or.inl rfl | exact Or.inr rfl) (by first | exact .inl rfl | exact .inr rfl | assumption)) (@q1w _ _ _ _ _ (@q1e _ _ (6) _ sc_Hall___init__.nd rfl (by first | exact Or.inl rfl | exact Or.inr rfl) (by first | exact .inl rfl | exact .inr rfl | assumption)) q5s (by rfl)) (by rfl)) (by rfl) (by rfl)) q5s (by rfl)) (by rfl)) (by rfl) (by rfl)) (@q0e _ _ _ _ _ (@q0m _ _ (7) _ _ _ _ sc_Hall___init__.nd rfl (by first | exact Or.inl rfl | exact Or.inr rfl) (q1a (sl_k K rfl) (pv 5) q1j (@q1k _ _ _ (q2q q1u q0g))) (by rfl) (by first | exact .inl rfl | exact .inr rfl | assumption)) (@q0e _ _ _ _ _ (@q1b _ _ _ _ _ _ _ _ (@pt_j _ _ _ (@PW.pt _ _ _ (@q3v _ _ _ _ _ _ _ (q0j (ne_k K rfl hr) (pv 7) (q0y q0d) (nomark _)) (@q2p _ _ _ _ (@q2j _ _ _ _ _ _ (@q4b _ _ _ _ _ (q3q hr) (pv 7) (pv 3)) (by first | exact nobehind _ (by decide) (by decide) | rfl)))))) (@q0f _ _ _ z0m) q0h) (@q0e _ _ _ _ _ (@q1b _ _ _ _ _ _ _ _ (@q2j _ _ _ _ _ _ (@q7m _ _ _ _ _ (@pe_m _ _ _ _ _ _ _ _ _ _ _ _ _ _ _ C.m_there hr (pv 0) (q0a (pv 5) q0d (by rfl)) (by decide) (by rfl) (by rfl) (by rfl))) (by first | exact nobehind _ (by decide) (by decide) | rfl)) (@q0f _ _ _ z0m) q0h) (@q0f _ _ _ (@q7v _ _ _ _ _ _ _ _ _ (q3q hr) (@q5f _ _ _ _ _ K rfl (pv 0) (by rfl)) (pv 5) (pv 6) rfl))))) (by intro _;rfl)))))),?_⟩
    have hLx:L≠x:=fun z=>by have e:=hl.at_;rw [z,hx] at e;cases e
    refine⟨_,rfl,_,rfl,x,c,dx,_,rfl,hx,hk.cl,hk.b,by decide,?_⟩
    intro d hd
    have hdx:d≠x:=fun z=>by rw [z,q0b] at hd;cases hd
    have hdH:H d=none:=by rw [q0c hdx] at hd;exact hd
    refine⟨_,rfl,x,c,dx,_,rfl,by rw [q0c hdx.symm];exact q0b,hk.cl,hk.m,by show 1<1000;decide,?_⟩
    have pf:putF ("marks" : Str) (V.ref d) (putF ("blind" : Str) (V.bl bl) [])=hF bl d:=rfl
    generalize hH3:upd (upd (upd H x (.ins c dx (putF ("blind" : Str) (.bl bl) []))) d (.dT [])) x (.ins c dx (putF ("marks" : Str) (.ref d) (putF ("blind" : Str) (.bl bl) [])))=H3
    have k3:∀ a u,a≠x→H a=some u→H3 a=some u:=fun a u n e=>by
      rw [← hH3,q0c n,q0c (fun z=>by rw [z,hdH] at e;cases e),q0c n];exact e
    have i3:H3 x=some (.ins c dx (hF bl d)):=by rw [← hH3,← pf];exact q0b
    have d3:H3 d=some (.dT []):=by rw [← hH3,q0c hdx];exact q0b
    have hl3:∀ {H' : Hp},(∀ a u,a≠x→H a=some u→H' a=some u)→RL H' L zs:=fun {H'} kk=>⟨kk _ _ hLx hl.at_,fun z hz=>PR.same (hl.pr z hz) fun T' xs e=>kk _ _ (fun y=>by rw [y,hx] at e;cases e) e⟩
    refine⟨_,rfl,.inl ⟨L,rfl,⟨_,SqL.of (hl3 k3).at_⟩,fun Dr hDr => ?_⟩⟩
    refine z2i (fun i ys H' => H' Dr=some (.dT ys)∧Same H3 H' ∧ ys.length≤i∧i≤zs.length∧∀ p,(p,none)∈(zs.take i).map (·.2)→(valV ys (kP p)).isSome=true) ⟨q0b,(Same.refl H3).new hDr,Nat.le_refl _,Nat.zero_le _,fun p hp=>by rw [List.take_zero] at hp;cases hp⟩ (fun i ys H' h=>⟨h.1,SqL.of (h.2.1 _ _ (hl3 k3).at_)⟩) ?_ ?_
    · rintro i ys H' v hv ⟨hD',s',hlen,_,hsome⟩
      obtain⟨z,hz,rfl⟩:∃ z,zs[i]? = some z∧v = .ref z.1:=by
        rw [List.getElem?_map] at hv
        cases e:zs[i]? with
        | none=>rw [e] at hv;cases hv
        | some z=>rw [e] at hv;cases hv;exact⟨z,rfl,rfl⟩
      have hi:i<zs.length:=(List.getElem?_eq_some_iff.mp hz).1
      obtain⟨b,h1,h2⟩:=((hl3 k3).same s').pr z (List.mem_of_getElem? hz)
      refine⟨z.1,_,rfl,SqT.of h1,rfl,_,_,rfl,_,_,rfl,rfl,q4n,?_⟩
      refine⟨_,rfl,_,rfl,?_⟩
      refine iteB (fun hm => ?_) (fun hm => ?_)
      · refine⟨_,rfl,kP z.2.1,b,rfl,by rw [q3a];exact h2,hD',small' (by lia),q0b,fun a u e => ?_,?_,hi,fun p hp => ?_⟩
        · rw [q0c (fun y=>by rw [y] at e;rw [hDr] at e;cases e)];exact s' _ _ e
        · have:=q2b ys (kP z.2.1) (.bl true);lia
        · rw [z6z]
          by_cases e:kP p=kP z.2.1
          · rw [if_pos e];rfl
          · rw [if_neg e]
            rw [List.take_add_one,hz,List.map_append] at hp
            rcases List.mem_append.mp hp with hp | hp
            · exact hsome p hp
            · exfalso
              have e2:(p,none)=z.2:=List.mem_singleton.mp hp
              exact e (by rw [← e2])
      · refine⟨hD',s',by lia,hi,fun p hp => ?_⟩
        rw [List.take_add_one,hz,List.map_append] at hp
        rcases List.mem_append.mp hp with hp | hp
        · exact hsome p hp
        · exfalso
          have e:(p,none)=z.2:=List.mem_singleton.mp hp
          refine of_decide_eq_false hm ?_
          show mV z.2.2=_
          rw [← e];rfl
    · rintro ys H' ⟨hD',s',hlen,_,hsome⟩
      rw [List.length_map,List.take_length] at hsome
      have I0:InInv c H x dx d Dr bl (zs.map (·.2)) ys 0 H' := ⟨s' _ _ i3,s' _ _ d3,hD',fun a u n e=>s' _ _ (k3 a u n e)⟩
      have hDx:Dr≠x:=fun z=>by rw [z,i3] at hDr;cases hDr
      have hDd:Dr≠d:=fun z=>by rw [z,d3] at hDr;cases hDr
      refine⟨_,rfl,.inr ⟨L,_,rfl,SqL.of (hl3 I0.k).at_,?_⟩⟩
      refine z4v (fun i σ' H2=>∃ x4 x5 x6 x7,σ' = [some (.ref x),some (.ref L),some (.bl bl),some (.ref Dr),x4,x5,x6,x7]∧InInv c H x dx d Dr bl (zs.map (·.2)) ys i H2) ⟨none,none,none,none,rfl,I0⟩ (fun i σ' H2 h=>by obtain⟨_,_,_,_,_,h⟩:=h;exact SqL.of (hl3 h.k).at_) ?_ ?_
      · rintro i v T' σ' H2 hv ⟨x4,x5,x6,x7,rfl,I⟩ hT
        obtain⟨z,hz,rfl⟩:∃ z,zs[i]? = some z∧v = .ref z.1:=by
          rw [List.getElem?_map] at hv
          cases e:zs[i]? with
          | none=>rw [e] at hv;cases hv
          | some z=>rw [e] at hv;cases hv;exact⟨z,rfl,rfl⟩
        have hi:i<zs.length:=(List.getElem?_eq_some_iff.mp hz).1
        have hzr:(zs.map (·.2))[i]? = some z.2:=by rw [List.getElem?_map,hz];rfl
        have hzm:=List.mem_of_getElem? hzr
        have okz:=hH.ok _ hzm
        have sT:=(Same.refl H2).new (o := .tup [.int i,.ref z.1]) hT
        have I1:=I.same sT
        obtain⟨b,h1,h2⟩:=(hl3 I1.k).pr z (List.mem_of_getElem? hz)
        refine⟨T',_,rfl,SqT.of q0b,rfl,_,_,rfl,_,_,rfl,z.1,_,rfl,SqT.of h1,rfl,_,_,rfl,_,_,rfl,rfl,rfl,?_⟩
        generalize upd H2 T' (.tup [.int i,.ref z.1])=H4 at sT I1 h1 h2
        replace h1:H4 z.1=some (.tup [.ref b,mV z.2.2]):=h1
        replace h2:H4 b=some (.tup (vP z.2.1)):=h2
        obtain⟨c1,c2⟩:=q1x okz.ne
        refine⟨_,rfl,_,rfl,_,rfl,.inr (.inr ⟨b,_,rfl,SqT.of (xs:=vP z.2.1) h2,c2,fun p1 hp1 => ?_⟩)⟩
        rw [c1]
        have s5:=(Same.refl H4).new (o := .tup (vP z.2.1.dropLast)) hp1
        have I2:=I1.same s5
        have h2' := s5 _ _ h2
        have hp1' : upd H4 p1 (.tup (vP z.2.1.dropLast)) p1=some (.tup (vP z.2.1.dropLast)):=q0b
        generalize upd H4 p1 (.tup (vP z.2.1.dropLast))=H5 at s5 I2 h2' hp1'
        refine⟨fun bb H6=>bb=false∧Same H5 H6,?_,?_⟩
        · rintro bb H6 ⟨rfl,s6⟩
          refine iteF ?_
          have I3:=I2.same s6
          refine⟨_,rfl,x,dx,_,rfl,I3.ins,rfl,_,rfl,x,d,b,bl,_,z.2.1,rfl,⟨⟨dx,I3.ins⟩,I3.d⟩,s6 _ _ h2',okz,fun r hr=>hH.ok r (List.mem_of_mem_take hr),fun H7 s7 _ => ?_,fun H7 b' r s7 hr e _=>absurd e (z5q (f:=fun r:Rw=>fold bl r.1) hH.nd hzr hr)⟩
          refine⟨_,rfl,iteF ?_⟩
          have I4:=I3.same s7
          refine⟨_,rfl,_,rfl,x,c,dx,_,_,rfl,I4.ins,hk.cl,hk.m,rfl,_,rfl,d,_,rfl,DPut.t (k:=kP z.2.1) I4.d (by rw [q3a];exact s7 _ _ (s6 _ _ h2')) (by rw [List.length_map,List.length_map,List.length_take,List.length_map];exact small' (by lia)),?_⟩
          have hnew:∀ r∈((zs.map (·.2)).take i).map rR,r.1≠z.2.1:=fun r hr=>by
            obtain⟨y,hy,rfl⟩:=List.mem_map.mp hr
            exact z5q (f:=fun r:Rw=>r.1) hH.paths hzr hy
          rw [q4i hnew]
          refine⟨_,_,_,_,rfl,?_,?_,?_,fun a u n e => ?_⟩
          · rw [q0c hdx.symm];exact I4.ins
          · have e:((zs.map (·.2)).take (i+1)).map rR=((zs.map (·.2)).take i).map rR ++ [(z.2.1,mV z.2.2)]:=by rw [List.take_add_one,hzr,List.map_append];rfl
            rw [e];exact q0b
          · rw [q0c hDd];exact I4.r
          · rw [q0c (fun y=>by rw [y,hdH] at e;cases e)];exact I4.k a u n e
        · refine⟨_,rfl,by show 0≤sizeLine;decide,fun e0 he0 => ?_⟩
          have s6:=(Same.refl H5).new (o := .tup []) he0
          refine q7y (q := []) (s6 _ _ hp1') q0b (q2s okz.low) (fun _ h=>nomatch h) ⟨_,rfl,?_⟩
          refine iteB (fun hne => ?_) (fun hne => ?_)
          · have hne' : z.2.1.dropLast ≠ []:=by simpa using hne
            have hin:=hsome _ ((hH.dr _ hzm).resolve_left hne')
            refine⟨_,rfl,_,rfl,Dr,_,rfl,DGet.t (k:=kP z.2.1.dropLast) (I2.same s6).r (by rw [q3a];exact s6 _ _ hp1'),_,rfl,?_,s6⟩
            cases e:valV ys (kP z.2.1.dropLast) with
            | none=>rw [e] at hin;cases hin
            | some v=>rfl
          · exact⟨rfl,s6⟩
      · rintro σ' H2 ⟨x4,x5,x6,x7,rfl,I⟩
        have hd2:=I.d
        rw [List.length_map,← List.length_map (f:=fun z:Zr=>z.2),List.take_length] at hd2
        exact k d H2 hdH I.ins hd2 I.k
end
end K
set_option maxHeartbeats 4000000
namespace K
open PySem L2 TX SB HM
section
variable {P:Program} {w:World} {K:PySem.W.Frag} {mg:Str→Option Value} {base:Heap}
theorem q7h {α β:Type} {F:α→β→Prop}:∀ {l:List α} {m:List β},Paired F l m→l.length=m.length
  | _,_,.nil=>rfl
  | _,_,.cons _ t=>congrArg (· + 1) (q7h t)
theorem z1i {rows:List Rw} (nd:(rows.map (·.1)).Nodup):∀ {l m:List Rw},(∀ r∈l,r∈rows)→(∀ r∈m,r∈rows)→l.map (·.1)=m.map (·.1)→l=m
  | [],[],_,_,_=>rfl
  | [],_::_,_,_,h=>by cases h
  | _::_,[],_,_,h=>by cases h
  | a::l,b::m,h1,h2,h=>by
    rw [List.map_cons,List.map_cons] at h
    injection h with e1 e2
    rw [q3g (f:=fun r:Rw=>r.1) nd (h1 a List.mem_cons_self) (h2 b List.mem_cons_self) e1,z1i nd (fun r hr=>h1 r (List.mem_cons_of_mem _ hr)) (fun r hr=>h2 r (List.mem_cons_of_mem _ hr)) e2]
structure CallsR (P:Program) (w:World) (K:PySem.W.Frag) (mg:Str→Option Value) (base:Heap) (c:Addr):Prop where
  m_rows:MCal P w K mg base c "rows" 2 ["self"] (spHRows c)
def spRight (c:Addr):Sp:=fun vs H Q _=>∃ h m d bl rows,∃ mrows:List Rw,vs = [.ref h,.ref m]∧HallAt c H h d bl rows∧H m=some (dR (mrows.map rR))∧mrows.Perm rows∧(rows.map (·.1)).Nodup∧(∀ r∈rows,okP r.1)∧rows.length<64∧∀ H',Same H H' → Q (.bl true) H'
abbrev q1p:Stmt:=top 38
theorem sc_rows_right:FnScope ["_law_hall", "_law_marks", "_law_found", "_law_row"] ["_law_hall", "_law_marks"] (defScope q1p):=⟨rfl,rfl,rfl,by decide +kernel,rfl,by decide +kernel,by decide +kernel⟩
theorem z7z {c:Addr} (D:Df K mg "_law_rows_right" q1p ["_law_hall", "_law_marks"]) (T:Txt mg) (C:CallsR P w K mg base c):Cal P w K mg base "_law_rows_right" 3 ["_law_hall", "_law_marks"] (spRight c):=by
  refine D.cal sc_rows_right (fun vs H Q E h => ?_) (fun f cdv A outer s H vs Q E hr h => ?_)
  · obtain⟨h,m,d,bl,rows,mrows,rfl,_⟩:=h;rfl
  · obtain⟨h,m,d,bl,rows,mrows,rfl,hh,hm,mpm,nd,oks,h64,k⟩:=h
    refine⟨_,(@q0e _ _ _ _ _ (@q0m _ _ (2) _ _ _ _ sc_rows_right.nd rfl (by first | exact Or.inl rfl | exact Or.inr rfl) (@pe_m0 _ _ _ _ _ _ _ _ _ _ _ _ C.m_rows hr (pv 0) (by decide) (by rfl)) (by rfl) (by first | exact .inl rfl | exact .inr rfl | assumption)) (@q0e _ _ _ _ _ (@q1b _ _ _ _ _ _ _ _ (@pt_j _ _ _ (@PW.pt _ _ _ (@z2u _ _ _ _ _ _ _ (@q5r _ _ _ _ (@q3y _ _ _ K rfl (q0i (z6x K rfl) (by rfl) T.b_isinstance (by decide +kernel) (q0a (pv 2) (q0a (@q5q _ _ _ _ _ (by rfl) T.b_list (by decide +kernel) (show RelV (.ty "list") _ from rfl) (by decide) (by decide)) q0d (by rfl)) (by rfl)) (by decide) (by decide) (by rfl) (by rfl)) (fun _=>rfl))) (@z2t _ _ _ _ (q0j (ne_k K rfl hr) (pv 2) (@q5l _ _ _ _ _ _ _ _ _ _ _ ["_law_path_here"] [("_law_marks",1)] rfl (@z3v _ _ _ _ K rfl (q0i (q7c hr) (by rfl) T.b_sorted (by decide +kernel) (q0a (pv 1) q0d (by rfl)) (by decide) (by decide) (by rfl) (by rfl))) (fun _ _ _ _ _=>(@q1e _ _ (0) _ (show (["_law_path_here", "_law_marks"]:List Str).Nodup by decide +kernel) rfl (by first | exact Or.inl rfl | exact Or.inr rfl) (by first | exact .inl rfl | exact .inr rfl | assumption))) (fun _ _ _ _ _=>q9v) (fun _ _ _ _ _=>(q0y (q0a (pv 0) (q0a (@z4c _ _ _ _ _ _ (q3q hr) (pv 1) (pv 0) (fun _ _=>rfl)) q0d (by rfl)) (by rfl)))) (by rfl) (by intro _;rfl)) (nomark _)))))) (@q0f _ _ _ (@q0l _ _ _ _ q6p)) q0h) (@q0e _ _ _ _ _ (@q3w _ _ _ _ _ _ _ _ PassesOwn.never rfl (@z3v _ _ _ _ K rfl (pv 2)) (@q1e _ _ (3) _ sc_rows_right.nd rfl (by first | exact Or.inl rfl | exact Or.inr rfl) (by first | exact .inl rfl | exact .inr rfl | assumption)) (@q0f _ _ _ (@q1b _ _ _ _ _ _ _ _ (@pt_j _ _ _ (@PW.pt _ _ _ (@z2u _ _ _ _ _ _ _ (@q5r _ _ _ _ (@q3y _ _ _ K rfl (q0i (z6x K rfl) (by rfl) T.b_isinstance (by decide +kernel) (q0a (pv 3) (q0a (@q5q _ _ _ _ _ (by rfl) T.b_tuple (by decide +kernel) (show RelV (.ty "tuple") _ from rfl) (by decide) (by decide)) q0d (by rfl)) (by rfl)) (by decide) (by decide) (by rfl) (by rfl)) (fun _=>rfl))) (@z2u _ _ _ _ _ _ _ (@q5r _ _ _ _ (@q3y _ _ _ K rfl (q0i (z6x K rfl) (by rfl) T.b_isinstance (by decide +kernel) (q0a (q1t (ix_k K rfl) (pv 3) q0g (fun _ _=>rfl)) (q0a (@q5q _ _ _ _ _ (by rfl) T.b_tuple (by decide +kernel) (show RelV (.ty "tuple") _ from rfl) (by decide) (by decide)) q0d (by rfl)) (by rfl)) (by decide) (by decide) (by rfl) (by rfl)) (fun _=>rfl))) (@z2t _ _ _ _ (@q3y _ _ _ K rfl (q0i (z6x K rfl) (by rfl) T.b_isinstance (by decide +kernel) (q0a (q1t (ix_k K rfl) (pv 3) q0g (fun _ _=>rfl)) (q0a (@q5q _ _ _ _ _ (by rfl) T.b_bool (by decide +kernel) (show RelV (.ty "bool") _ from rfl) (by decide) (by decide)) q0d (by rfl)) (by rfl)) (by decide) (by decide) (by rfl) (by rfl)) (fun _=>rfl))))))) (@q0f _ _ _ (@q0l _ _ _ _ q6p)) q0h)) (by intro _;rfl)) (@q0f _ _ _ (@q0l _ _ _ _ q6p))))),?_⟩
    obtain⟨dx,hi⟩:=hh.i
    have low:∀ r∈rows,Low r.1:=fun r hr=>(oks r hr).low
    refine⟨_,rfl,h,dx,_,rfl,hi,rfl,h,d,bl,rows,rfl,hh,h64,low,fun L zs H1 hL s1 rl hp hs => ?_⟩
    have zin:∀ r∈zs.map (·.2),r∈rows:=fun r hr=>hp.mem_iff.mp hr
    have lowz:∀ r∈zs.map (·.2),Low r.1:=fun r hr=>low r (zin r hr)
    refine⟨fun b H' => b=false∧Same H1 H',?_,?_⟩
    · rintro b H' ⟨rfl,s2⟩
      refine iteF ?_
      have rl2:=rl.same s2
      refine⟨_,rfl,.inl ⟨L,rfl,⟨_,SqL.of rl2.at_⟩,?_⟩⟩
      refine z6i (xs:=zs.map fun z=>V.ref z.1) (fun i σ' H3=>(∃ x3,σ' = [some (.ref h),some (.ref m),some (.ref L),x3])∧H3=H') ⟨⟨none,rfl⟩,rfl⟩ (fun i σ' H3 _ x=>by rw [x.2];exact SqL.of rl2.at_) ?_ ?_
      · rintro i v σ' H3 hv ⟨⟨x3,rfl⟩,rfl⟩
        obtain⟨z,hz,rfl⟩:∃ z,zs[i]? = some z∧v = .ref z.1:=by
          rw [List.getElem?_map] at hv
          cases e:zs[i]? with
          | none=>rw [e] at hv;cases hv
          | some z=>rw [e] at hv;cases hv;exact⟨z,rfl,rfl⟩
        obtain⟨b,h1,h2⟩:=rl2.pr z (List.mem_of_getElem? hz)
        refine⟨fun b H4=>b=false∧H4=H3,?_,?_⟩
        · rintro b H4 ⟨rfl,rfl⟩
          exact iteF ⟨⟨_,rfl⟩,rfl⟩
        · refine⟨_,rfl,_,_,_,true,rfl,TyOf.tup h1,rfl,true,rfl,iteF ?_⟩
          refine⟨_,rfl,.inr (.inl ⟨z.1,_,0,_,rfl,rfl,SqT.of h1,rfl,?_⟩)⟩
          refine⟨_,_,_,true,rfl,TyOf.tup h2,rfl,true,rfl,iteF ?_⟩
          refine⟨_,rfl,.inr (.inl ⟨z.1,_,1,_,rfl,rfl,SqT.of h1,rfl,?_⟩)⟩
          show ∃ x c t b,[mV z.2.2,_] = [x,.ty c]∧_
          cases z.2.2 with
          | none=>exact⟨_,_,_,false,rfl,TyOf.non,rfl,false,rfl,rfl,rfl⟩
          | some n=>exact⟨_,_,_,false,rfl,TyOf.int n,rfl,false,rfl,rfl,rfl⟩
      · rintro σ' H3 ⟨⟨x3,rfl⟩,rfl⟩
        exact k _ (s1.trans s2)
    · refine⟨_,rfl,_,_,_,true,rfl,TyOf.lst rl.at_,rfl,true,rfl,iteF ?_⟩
      refine⟨_,rfl,_,rfl,m,_,rfl,s1 _ _ hm,by rw [List.length_map,mpm.length_eq];exact h64,fun r hr => ?_,fun L2 bs ps hL2 hp2 hs2 pts => ?_⟩
      · obtain⟨y,hy,rfl⟩:=List.mem_map.mp hr
        exact (oks y (mpm.mem_iff.mp hy)).ne
      have s2:=(Same.refl H1).new (o := .lst (bs.map V.ref)) hL2
      have hLL:upd H1 L2 (.lst (bs.map V.ref)) L2=some (.lst (bs.map V.ref)):=q0b
      generalize upd H1 L2 (.lst (bs.map V.ref))=H2 at s2 hLL
      refine .inl ⟨L2,rfl,⟨_,SqL.of hLL⟩,fun Dl hDl => ?_⟩
      have hps:(mrows.map rR).map (·.1)=mrows.map (·.1):=by rw [List.map_map];rfl
      rw [hps] at hp2
      have ndm:(mrows.map (·.1)).Nodup:=(mpm.map _).nodup_iff.mpr nd
      replace hp2:=hp2.trans (mpm.map _)
      have hbl:bs.length=ps.length:=q7h pts
      have hpl:ps.length=rows.length:=by rw [hp2.length_eq,List.length_map]
      refine z2c (xs:=bs.map V.ref) (fun i ys H3=>∃ ws:List Zr,ys=ws.map (fun z=>V.ref z.1)∧ws.map (fun z=>z.2.1)=ps.take i∧(∀ w∈ws,w.2∈rows∧PR H3 w.1 (rR w.2))∧Same H2 H3∧H3 Dl=some (.lst ys)∧i≤ps.length)
        ⟨[],rfl,rfl,(fun _ h=>nomatch h),(Same.refl H2).new hDl,q0b,Nat.zero_le _⟩ (fun i ys H3 ⟨ws,_,_,_,s3,h3,_⟩=>⟨h3,SqL.of (s3 _ _ hLL)⟩) ?_ ?_
      · rintro i ys H3 v hv ⟨ws,rfl,hw1,hw2,s3,h3,hile⟩
        obtain⟨b,hb,rfl⟩:∃ b,bs[i]? = some b∧v = .ref b:=by
          rw [List.getElem?_map] at hv
          cases e:bs[i]? with
          | none=>rw [e] at hv;cases hv
          | some z=>rw [e] at hv;cases hv;exact⟨z,rfl,rfl⟩
        obtain⟨p,hp3,hbp⟩:=Paired.at' pts hb
        have hi' : i<ps.length:=(List.getElem?_eq_some_iff.mp hp3).1
        obtain⟨r,hr,rfl⟩:=List.mem_map.mp (hp2.mem_iff.mp (List.mem_of_getElem? hp3))
        have hb3:=s3 _ _ (s2 _ _ hbp)
        have hm3:=s3 _ _ (s2 _ _ (s1 _ _ hm))
        have hval:=q6m (rs:=mrows.map rR) (r:=rR r) (List.mem_map.mpr ⟨r,mpm.mem_iff.mpr hr,rfl⟩) (by rw [hps];exact ndm)
        have hg:=DGet.t (k:=kP r.1) hm3 (by rw [q3a];exact hb3)
        rw [show valV ((mrows.map rR).map fun r=>(kP r.1,r.2)) (kP r.1)=some (mV r.2) from hval] at hg
        refine⟨_,rfl,_,rfl,_,rfl,m,_,rfl,hg,by show 2≤sizeLine;decide,fun Tn hTn => ?_⟩
        have sT:=(Same.refl H3).new (o := .tup [.ref b,mV r.2]) hTn
        have hwl:ws.length=i:=by rw [← List.length_map (f:=fun z:Zr=>z.2.1),hw1,List.length_take];lia
        have hDT:Dl≠Tn:=fun z=>by rw [z,hTn] at h3;cases h3
        have tk:∀ S xs,upd H3 Tn (.tup [.ref b,mV r.2]) S=some (.tup xs)→upd (upd H3 Tn (.tup [.ref b,mV r.2])) Dl (.lst (ws.map (fun z=>V.ref z.1) ++ [.ref Tn])) S=some (.tup xs):=fun S xs e=>by
          rw [q0c (fun z=>by rw [z,q0c hDT,h3] at e;cases e)];exact e
        refine⟨by rw [q0c hDT];exact h3,small' (by rw [List.length_map];lia),ws ++ [(Tn,r)],by rw [List.map_append];rfl,?_,fun w hw => ?_,(s3.trans sT).put hDl,q0b,hi'⟩
        · rw [List.map_append,hw1,List.take_add_one,hp3];rfl
        · rcases List.mem_append.mp hw with hw | hw
          · exact⟨(hw2 w hw).1,PR.same (PR.same (hw2 w hw).2 fun S xs e=>sT _ _ e) tk⟩
          · rw [List.mem_singleton.mp hw]
            exact⟨hr,b,tk _ _ q0b,tk _ _ (sT _ _ hb3)⟩
      · rintro ys H3 ⟨ws,rfl,hw1,hw2,s3,h3,_⟩
        rw [List.length_map,hbl,List.take_length] at hw1
        have e1:zs.map (·.2.1)=ps:=by
          have z1:(zs.map (·.2)).map (·.1)=zs.map (·.2.1):=by rw [List.map_map];rfl
          have p1:(zs.map (·.2.1)).Perm (rows.map (·.1)):=by rw [← z1];exact hp.map _
          exact q6g (p1.trans hp2.symm) (p1.nodup_iff.mpr nd) hs hs2
        have e2:zs.map (·.2)=ws.map (·.2):=z1i nd zin (fun r hr=>by obtain⟨w,hw,rfl⟩:=List.mem_map.mp hr;exact (hw2 w hw).1) (by
          rw [List.map_map,List.map_map]
          show zs.map (fun z=>z.2.1)=ws.map (fun z=>z.2.1)
          rw [e1,hw1])
        exact z9w (rl.same (s2.trans s3)) ⟨h3,fun w hw=>(hw2 w hw).2⟩ e2 lowz ⟨_,rfl,rfl,s2.trans s3⟩
end
end K
set_option maxHeartbeats 4000000
namespace K
open PySem L2 TX SB HM
section
variable {P:Program} {w:World} {K:PySem.W.Frag} {mg:Str→Option Value} {base:Heap}
theorem q7i (p q:Pth):vP (p++q)=vP p++vP q:=List.map_append
theorem z5r (x:Pth) (n:Nat):cutV (vP x) none (some (n:Int))=vP (x.take n):=by
  unfold cutV
  have e0:HT.sIx (vP x).length 0 none=0:=rfl
  have e1:HT.sIx (vP x).length (vP x).length (some (n:Int))=min n x.length:=by
    show (if (n:Int)<0 then ((n:Int)+((vP x).length:Int)).toNat else min ((n:Int)).toNat (vP x).length)=_
    rw [if_neg (by lia),q1r,Int.toNat_natCast]
  rw [e0,e1,List.drop_zero,Nat.sub_zero,← List.map_take]
  rw [← List.take_take,List.take_length]
theorem z1j (x:Pth) (n:Nat):cutV (vP x) (some (n:Int)) none=vP (x.drop n):=by
  unfold cutV
  have e0:HT.sIx (vP x).length 0 (some (n:Int))=min n x.length:=by
    show (if (n:Int)<0 then ((n:Int)+((vP x).length:Int)).toNat else min ((n:Int)).toNat (vP x).length)=_
    rw [if_neg (by lia),q1r,Int.toNat_natCast]
  have e1:HT.sIx (vP x).length (vP x).length none=x.length:=q1r x
  rw [e0,e1,← List.map_drop,← List.map_take]
  congr 1
  rcases Nat.lt_or_ge n x.length with h | h
  · rw [Nat.min_eq_left (Nat.le_of_lt h)]
    exact List.take_of_length_le (by rw [List.length_drop];lia)
  · rw [Nat.min_eq_right h,List.drop_length,List.drop_of_length_le h];exact List.take_nil
theorem z8a {rs:List HRow} {p:Pth} {v:V} (h:valV (rs.map fun r=>(kP r.1,r.2)) (kP p)=some v):(p,v)∈rs:=by
  induction rs with
  | nil=>cases h
  | cons r rs ih =>
    rw [List.map_cons] at h
    by_cases e:kP r.1=kP p
    · rw [q1o e] at h
      cases h
      rw [← q7g e];exact List.mem_cons_self
    · rw [q1l e] at h
      exact List.mem_cons_of_mem _ (ih h)
theorem q5o {rows:List Rw} (nd:(rows.map (·.1)).Nodup) {p:Pth} {m:Option Int} (h:(p,m)∈rows):valV ((rows.map rR).map fun r=>(kP r.1,r.2)) (kP p)=some (mV m) :=
  q6m (rs:=rows.map rR) (r:=rR (p,m)) (List.mem_map.mpr ⟨_,h,rfl⟩) (by rw [List.map_map];exact nd)
theorem q2g {rows:List Rw} {p:Pth} {v:V} (h:valV ((rows.map rR).map fun r=>(kP r.1,r.2)) (kP p)=some v):∃ m,v=mV m∧(p,m)∈rows:=by
  obtain⟨r,hr,e⟩:=List.mem_map.mp (z8a h)
  cases e
  exact⟨r.2,rfl,hr⟩
def spIsDrawer (c:Addr):Sp:=fun vs H Q _=>∃ h d p bl rows q,vs = [.ref h,.ref p]∧HallAt c H h d bl rows∧H p=some (.tup (vP q))∧Low q∧(rows.map (·.1)).Nodup∧∀ H' bb,Same H H' → (bb=true↔q = []∨(q,none)∈rows)→Q (.bl bb) H'
abbrev q0s:Stmt:=inClass (top 31) 6
theorem q4w:FnScope ["self", "path"] ["self", "path"] (defScope q0s):=⟨rfl,rfl,rfl,by decide +kernel,rfl,by decide +kernel,by decide +kernel⟩
theorem q9p {c:Addr} (D:Mf K c "is_drawer" "Hall.is_drawer" q0s ["self", "path"]) (hk:Hk K c) (T:Txt mg):MCal P w K mg base c "is_drawer" 1 ["self", "path"] (spIsDrawer c):=by
  refine D.cal hk.cl q4w (fun vs H Q E h => ?_) (fun f cdv A outer s H vs Q E hr h => ?_)
  · obtain⟨h,d,p,bl,rows,q,rfl,_⟩:=h;rfl
  · obtain⟨h,d,p,bl,rows,q,rfl,hh,hp,lq,nd,k⟩:=h
    refine⟨_,(@q0f _ _ _ (@q0l _ _ _ _ (@pe_j _ _ _ (@pe_or _ _ _ _ _ _ _ (@q5t _ _ _ _ _ _ _ _ (eq_k K rfl hr) (pv 1) (q0y q0d) (nomark _)) (@z2v _ _ _ _ _ (@pe_j _ _ _ (@pe_and _ _ _ _ _ _ _ (@z8j _ _ _ _ _ _ (@pc_din _ _ _ _ _ (q3q hr) (pv 1) (@q5f _ _ _ _ _ K rfl (pv 0) (by rfl))) (by first | exact nobehind _ (by decide) (by decide) | rfl)) (@z2v _ _ _ _ _ (@z8j _ _ _ _ _ _ (@q6t _ _ _ _ _ (@z4c _ _ _ _ _ _ (q3q hr) (@q5f _ _ _ _ _ K rfl (pv 0) (by rfl)) (pv 1) (fun _ _=>rfl))) (by first | exact nobehind _ (by decide) (by decide) | rfl)))))))))),?_⟩
    obtain⟨dx,hi⟩:=hh.i
    refine⟨fun v H' => ∃ bb,v = .bl bb∧Same H H' ∧ (bb=true↔q = []∨(q,none)∈rows),fun v H' x => ?_,?_⟩
    · obtain⟨bb,rfl,s1,e⟩:=x
      exact k H' bb s1 e
    refine⟨_,rfl,by show 0≤sizeLine;decide,fun e0 he0 => ?_⟩
    have s1:=(Same.refl H).new (o := .tup []) he0
    refine q4g (q := []) (s1 _ _ hp) q0b lq (fun _ h=>nomatch h) ⟨_,rfl,?_⟩
    refine iteB (fun he => ?_) (fun he => ?_)
    · exact⟨true,rfl,s1,⟨fun _ => .inl (of_decide_eq_true he),fun _=>rfl⟩⟩
    have he:=of_decide_eq_false he
    refine⟨fun v H' => ∃ bb,v = .bl bb∧Same H H' ∧ (bb=true↔q = []∨(q,none)∈rows),fun v H' x=>x,?_⟩
    refine⟨_,rfl,_,rfl,h,c,dx,_,_,rfl,s1 _ _ hi,hk.cl,hk.m,rfl,d,_,rfl,q9g (s1 _ _ hh.d) (s1 _ _ hp),_,rfl,?_⟩
    cases hv:valV ((rows.map rR).map fun r=>(kP r.1,r.2)) (kP q) with
    | none =>
      refine iteF ⟨false,rfl,s1,⟨(fun z=>by cases z),fun z => ?_⟩⟩
      exfalso
      rw [q5o nd (z.resolve_left he)] at hv
      cases hv
    | some v =>
      obtain⟨m,rfl,hm⟩:=q2g hv
      refine iteT ⟨_,rfl,h,c,dx,_,_,rfl,s1 _ _ hi,hk.cl,hk.m,rfl,_,rfl,d,mV m,rfl,?_,_,rfl,s1,?_⟩
      · rw [← hv];exact q9g (s1 _ _ hh.d) (s1 _ _ hp)
      · rw [decide_eq_true_iff]
        refine⟨fun z => .inr (by rw [mV_none.mp z] at hm;exact hm),fun z=>mV_none.mpr ?_⟩
        have:=q3g (f:=fun r:Rw=>r.1) nd hm (z.resolve_left he) rfl
        cases this;rfl
def spThere1 (c:Addr):Sp:=fun vs H Q _=>∃ h d p bl rows place,vs = [.ref h,.ref p]∧HallAt c H h d bl rows∧H p=some (.tup (vP place))∧okP place∧(∀ r∈rows,okP r.1) ∧
  ∀ H' v,Same H H' → (v = .non∧(∀ r∈rows,fold bl r.1≠fold bl place)∨∃ b r,v = .ref b∧r∈rows∧fold bl r.1=fold bl place∧H' b=some (.tup (vP r.1)))→Q v H'
theorem there1 {c:Addr} (M:MCal P w K mg base c "there" 3 ["self", "place"] (spThere c)):MCal P w K mg base c "there" 3 ["self", "place"] (spThere1 c) :=
  M.imp fun vs H Q E h=>by
    obtain⟨h,d,p,bl,rows,place,e,hh,hp,ok,oks,k⟩:=h
    exact⟨h,d,p,bl,rows,place,e,hh,hp,ok,oks,fun H' s1 n=>k H' _ s1 (.inl ⟨rfl,n⟩),fun H' b r s1 hr e hb=>k H' _ s1 (.inr ⟨b,r,rfl,hr,e,hb⟩)⟩
structure PB (q:Pth):Prop where
  few:q.length≤20
  all:∀ n∈q,n.length≤20∧∀ c∈n,c<128
theorem okP.pb {q:Pth} (h:okP q):PB q:=⟨Nat.le_trans h.few (by decide),fun n hn=>⟨Nat.le_trans (h.all n hn).few (by decide),(h.all n hn).low⟩⟩
theorem PB.low {q:Pth} (h:PB q):Low q:=fun n hn=>(h.all n hn).2
def spIniP (C:Addr) (f:Str):Sp:=fun vs H Q _=>∃ ea p q,vs = [.ref ea,.ref p]∧H ea=some (ExN (.ref C) none ea)∧H p=some (.tup (vP q))∧PB q∧∀ d,H d=none→d≠ea→Q .non (upd (upd (upd H d (XdO d [])) ea (ExN (.ref C) (some d) ea)) d (XdO d [(f,.ref p)]))
theorem z1k (q:Pth):vP q=(q.map mk).map V.str:=by rw [List.map_map];rfl
theorem q8d {q:Pth} (h:PB q):∀ x∈q.map mk,x.length≤100∧∀ c∈x.cps.toList,c<16 ^ 8:=fun x hx=>by
  obtain⟨n,hn,rfl⟩:=List.mem_map.mp hx
  obtain⟨h1,h2⟩:=h.all n hn
  refine⟨by rw [q6b];lia,fun c hc => ?_⟩
  have:c∈n:=by rw [← q2h n];exact hc
  have:=h2 c this
  lia
theorem q2d {H H1:Hp} {ea d:Addr} {o1 o2 o3 o4 o5:HO} (sm:Same H H1) (h1:H1 ea=none) (h2:upd H1 ea o1 d=none):Same H (upd (upd (upd (upd (upd H1 ea o1) d o2) ea o3) d o4) ea o5):=fun b o hb=>by
  have hb1:=sm b o hb
  have n1:b≠ea:=fun z=>by rw [z,h1] at hb1;cases hb1
  have n2:b≠d:=fun z=>by rw [← z,q0c n1,hb1] at h2;cases h2
  rw [q0c n1,q0c n2,q0c n1,q0c n2,q0c n1]
  exact hb1
abbrev q0q:Stmt:=inClass (top 6) 0
theorem q3u:FnScope ["self", "path"] ["self", "path"] (defScope q0q):=⟨rfl,rfl,rfl,by decide +kernel,rfl,by decide +kernel,by decide +kernel⟩
theorem q6n {Cn Dn:Addr} (F:Ef K mg "NoThing" Cn Dn "NoThing.__init__" q0q ["self", "path"]) (g_HallError:mg "HallError" = some (.ref Dn)) (S:ESet K Cn "path"):CalE P w K mg base "NoThing" Cn 1 ["self", "path"] (spIniP Cn "path"):=by
  refine F.cal q3u (fun vs H Q E h => ?_) (by decide) (fun mc f cdv A outer s H vs Q E L_low N_ini hr h => ?_)
  · obtain⟨ea,p,q,rfl,_⟩:=h;rfl
  · obtain⟨ea,p,q,rfl,hE,hp,pb,k⟩:=h
    refine⟨_,(@q0e _ _ _ _ _ (@q1y _ _ _ _ (z1b L_low N_ini rfl g_HallError (q0a (pv 0) (q0a (@q6j _ _ _ _ _ _ _ _ q7f (z1d K rfl hr (pv 1)) q6k) q0d (by rfl)) (by rfl))) (by rfl)) (@q0f _ _ _ (z1c K rfl (pv 0) (pv 1)))),?_⟩
    have l0:Str.empty.length=0:=by decide +kernel
    have l1:(Str.ofString "no thing has the path ").length≤100:=by decide +kernel
    refine⟨_,rfl,TX.small (by rw [app_len];lia),_,rfl,p,q.map mk,rfl,SqT.of (by rw [← z1k];exact hp),by rw [List.length_map];have:=pb.few;lia,q8d pb,fun y hy=>⟨TX.small (by rw [app_len,app_len];lia),TX.small (by rw [app_len,app_len];lia),?_⟩⟩
    exact⟨ea,_,none,rfl,hE,_,rfl,_,rfl,ea,Cn,rfl,S,.inl ⟨hE,fun d hd hne=>k d hd hne⟩⟩
abbrev q0o:Stmt:=inClass (top 7) 0
theorem q3m:FnScope ["self", "path"] ["self", "path"] (defScope q0o):=⟨rfl,rfl,rfl,by decide +kernel,rfl,by decide +kernel,by decide +kernel⟩
theorem q5i {Cn Dn:Addr} (F:Ef K mg "NoDrawer" Cn Dn "NoDrawer.__init__" q0o ["self", "path"]) (g_HallError:mg "HallError" = some (.ref Dn)) (S:ESet K Cn "path"):CalE P w K mg base "NoDrawer" Cn 1 ["self", "path"] (spIniP Cn "path"):=by
  refine F.cal q3m (fun vs H Q E h => ?_) (by decide) (fun mc f cdv A outer s H vs Q E L_low N_ini hr h => ?_)
  · obtain⟨ea,p,q,rfl,_⟩:=h;rfl
  · obtain⟨ea,p,q,rfl,hE,hp,pb,k⟩:=h
    refine⟨_,(@q0e _ _ _ _ _ (@q1y _ _ _ _ (z1b L_low N_ini rfl g_HallError (q0a (pv 0) (q0a (@q6j _ _ _ _ _ _ _ _ q7f (z1d K rfl hr (pv 1)) q6k) q0d (by rfl)) (by rfl))) (by rfl)) (@q0f _ _ _ (z1c K rfl (pv 0) (pv 1)))),?_⟩
    have l0:Str.empty.length=0:=by decide +kernel
    have l1:(Str.ofString "no drawer has the path ").length≤100:=by decide +kernel
    refine⟨_,rfl,TX.small (by rw [app_len];lia),_,rfl,p,q.map mk,rfl,SqT.of (by rw [← z1k];exact hp),by rw [List.length_map];have:=pb.few;lia,q8d pb,fun y hy=>⟨TX.small (by rw [app_len,app_len];lia),TX.small (by rw [app_len,app_len];lia),?_⟩⟩
    exact⟨ea,_,none,rfl,hE,_,rfl,_,rfl,ea,Cn,rfl,S,.inl ⟨hE,fun d hd hne=>k d hd hne⟩⟩
abbrev q0t:Stmt:=inClass (top 8) 0
theorem q4x:FnScope ["self", "path"] ["self", "path"] (defScope q0t):=⟨rfl,rfl,rfl,by decide +kernel,rfl,by decide +kernel,by decide +kernel⟩
theorem q8e {Cn Dn:Addr} (F:Ef K mg "Taken" Cn Dn "Taken.__init__" q0t ["self", "path"]) (g_HallError:mg "HallError" = some (.ref Dn)) (S:ESet K Cn "path"):CalE P w K mg base "Taken" Cn 1 ["self", "path"] (spIniP Cn "path"):=by
  refine F.cal q4x (fun vs H Q E h => ?_) (by decide) (fun mc f cdv A outer s H vs Q E L_low N_ini hr h => ?_)
  · obtain⟨ea,p,q,rfl,_⟩:=h;rfl
  · obtain⟨ea,p,q,rfl,hE,hp,pb,k⟩:=h
    refine⟨_,(@q0e _ _ _ _ _ (@q1y _ _ _ _ (z1b L_low N_ini rfl g_HallError (q0a (pv 0) (q0a (@q6j _ _ _ _ _ _ _ _ q7f (z1d K rfl hr (pv 1)) q6k) q0d (by rfl)) (by rfl))) (by rfl)) (@q0f _ _ _ (z1c K rfl (pv 0) (pv 1)))),?_⟩
    have l0:Str.empty.length=0:=by decide +kernel
    have l1:(Str.ofString "the place is taken by ").length≤100:=by decide +kernel
    refine⟨_,rfl,TX.small (by rw [app_len];lia),_,rfl,p,q.map mk,rfl,SqT.of (by rw [← z1k];exact hp),by rw [List.length_map];have:=pb.few;lia,q8d pb,fun y hy=>⟨TX.small (by rw [app_len,app_len];lia),TX.small (by rw [app_len,app_len];lia),?_⟩⟩
    exact⟨ea,_,none,rfl,hE,_,rfl,_,rfl,ea,Cn,rfl,S,.inl ⟨hE,fun d hd hne=>k d hd hne⟩⟩
abbrev q0p:Stmt:=inClass (top 10) 0
theorem q3n:FnScope ["self", "path"] ["self", "path"] (defScope q0p):=⟨rfl,rfl,rfl,by decide +kernel,rfl,by decide +kernel,by decide +kernel⟩
theorem q5j {Cn Dn:Addr} (F:Ef K mg "NotEmpty" Cn Dn "NotEmpty.__init__" q0p ["self", "path"]) (g_HallError:mg "HallError" = some (.ref Dn)) (S:ESet K Cn "path"):CalE P w K mg base "NotEmpty" Cn 1 ["self", "path"] (spIniP Cn "path"):=by
  refine F.cal q3n (fun vs H Q E h => ?_) (by decide) (fun mc f cdv A outer s H vs Q E L_low N_ini hr h => ?_)
  · obtain⟨ea,p,q,rfl,_⟩:=h;rfl
  · obtain⟨ea,p,q,rfl,hE,hp,pb,k⟩:=h
    refine⟨_,(@q0e _ _ _ _ _ (@q1y _ _ _ _ (z1b L_low N_ini rfl g_HallError (q0a (pv 0) (q0a (@q6j _ _ _ _ _ _ _ _ q7f (z1d K rfl hr (pv 1)) (@z7q _ _ _ _ _ q7f q6k)) q0d (by rfl)) (by rfl))) (by rfl)) (@q0f _ _ _ (z1c K rfl (pv 0) (pv 1)))),?_⟩
    have l0:Str.empty.length=0:=by decide +kernel
    have l1:(Str.ofString "the drawer ").length≤100:=by decide +kernel
    have l2:(Str.ofString " is not empty").length≤100:=by decide +kernel
    refine⟨_,rfl,TX.small (by rw [app_len];lia),_,rfl,p,q.map mk,rfl,SqT.of (by rw [← z1k];exact hp),by rw [List.length_map];have:=pb.few;lia,q8d pb,fun y hy=>⟨TX.small (by rw [app_len,app_len];lia),TX.small (by rw [app_len,app_len,app_len];lia),TX.small (by rw [app_len,app_len,app_len];lia),?_⟩⟩
    exact⟨ea,_,none,rfl,hE,_,rfl,_,rfl,ea,Cn,rfl,S,.inl ⟨hE,fun d hd hne=>k d hd hne⟩⟩
structure CallsAT (P:Program) (w:World) (K:PySem.W.Frag) (mg:Str→Option Value) (base:Heap) (Cn:Addr):Prop where
  e_NoThing:CalE P w K mg base "NoThing" Cn 1 ["self", "path"] (spIniP Cn "path")
structure CallsAD (P:Program) (w:World) (K:PySem.W.Frag) (mg:Str→Option Value) (base:Heap) (c Cd:Addr):Prop where
  e_NoDrawer:CalE P w K mg base "NoDrawer" Cd 1 ["self", "path"] (spIniP Cd "path")
  m_is_drawer:MCal P w K mg base c "is_drawer" 1 ["self", "path"] (spIsDrawer c)
def NoT (rows:List Rw) (q:Pth):Prop:=∀ m,(q,m)∉rows
def IsD (rows:List Rw) (q:Pth):Prop:=q = []∨(q,none)∈rows
def spAskThingX (c Cn:Addr):Sp:=fun vs H Q E=>∃ h d p bl rows q,vs = [.ref h,.ref p]∧HallAt c H h d bl rows∧H p=some (.tup (vP q))∧PB q∧(rows.map (·.1)).Nodup∧(∀ m,(q,m)∈rows→Q .non H) ∧
  (NoT rows q→∀ ea H',Same H H' → H ea=none→Rfd H' ea Cn "path" (.ref p)→E (.ref ea) none H')
abbrev q0u:Stmt:=inClass (top 31) 11
theorem q4y:FnScope ["self", "path"] ["self", "path"] (defScope q0u):=⟨rfl,rfl,rfl,by decide +kernel,rfl,by decide +kernel,by decide +kernel⟩
theorem q8f {c Cn:Addr} (D:Mf K c "ask_thing" "Hall.ask_thing" q0u ["self", "path"]) (hk:Hk K c) (T:Txt mg) (C:CallsAT P w K mg base Cn):MCalX P w K mg base c "ask_thing" 3 ["self", "path"] (spAskThingX c Cn):=by
  refine D.calX hk.cl q4y (fun vs H Q E h => ?_) (fun f cdv A outer s H vs Q E hr h => ?_)
  · obtain⟨h,d,p,bl,rows,q,rfl,_⟩:=h;rfl
  · obtain⟨h,d,p,bl,rows,q,rfl,hh,hp,pb,nd,k,kE⟩:=h
    refine⟨_,(@q0f _ _ _ (@q1b _ _ _ _ _ _ _ _ (@q2j _ _ _ _ _ _ (@q4b _ _ _ _ _ (q3q hr) (pv 1) (@q5f _ _ _ _ _ K rfl (pv 0) (by rfl))) (by first | exact nobehind _ (by decide) (by decide) | rfl)) (@q0f _ _ _ (z7o C.e_NoThing hr accX rfl (q0a (pv 1) q0d (by rfl)))) q0h)),?_⟩
    obtain⟨dx,hi⟩:=hh.i
    refine⟨_,rfl,_,rfl,h,c,dx,_,_,rfl,hi,hk.cl,hk.m,rfl,d,_,rfl,q9g hh.d hp,_,rfl,?_⟩
    cases hv:valV ((rows.map rR).map fun r=>(kP r.1,r.2)) (kP q) with
    | none =>
      refine iteT ⟨_,rfl,fun ea hea=>⟨ea,p,q,rfl,q0b,?_,pb,fun d' hd hne=>⟨rfl,?_⟩⟩⟩
      · rw [q0c (fun z=>by rw [z,hea] at hp;cases hp)];exact hp
      obtain⟨dd,r1,r2⟩:=raised1 (f := "path") (v := .ref p) hd hne
      refine⟨dd,r1,kE (fun m hm => ?_) ea _ (q2d (Same.refl H) hea hd) hea r2⟩
      rw [q5o nd hm] at hv
      cases hv
    | some v =>
      obtain⟨m,rfl,hm⟩:=q2g hv
      exact iteF (k m hm)
def spAskDrawerX (c Cd:Addr):Sp:=fun vs H Q E=>∃ h d p bl rows q,vs = [.ref h,.ref p]∧HallAt c H h d bl rows∧H p=some (.tup (vP q))∧PB q∧(rows.map (·.1)).Nodup∧(IsD rows q→∀ H',Same H H' → Q .non H') ∧
  (¬ IsD rows q→∀ ea H',Same H H' → H ea=none→Rfd H' ea Cd "path" (.ref p)→E (.ref ea) none H')
abbrev q0r:Stmt:=inClass (top 31) 12
theorem q4k:FnScope ["self", "path"] ["self", "path"] (defScope q0r):=⟨rfl,rfl,rfl,by decide +kernel,rfl,by decide +kernel,by decide +kernel⟩
theorem q6s {c Cd:Addr} (D:Mf K c "ask_drawer" "Hall.ask_drawer" q0r ["self", "path"]) (hk:Hk K c) (T:Txt mg) (C:CallsAD P w K mg base c Cd):MCalX P w K mg base c "ask_drawer" 3 ["self", "path"] (spAskDrawerX c Cd):=by
  refine D.calX hk.cl q4k (fun vs H Q E h => ?_) (fun f cdv A outer s H vs Q E hr h => ?_)
  · obtain⟨h,d,p,bl,rows,q,rfl,_⟩:=h;rfl
  · obtain⟨h,d,p,bl,rows,q,rfl,hh,hp,pb,nd,k,kE⟩:=h
    refine⟨_,(@q0f _ _ _ (@q1b _ _ _ _ _ _ _ _ (@q5r _ _ _ _ (@q3y _ _ _ K rfl (@pe_m _ _ _ _ _ _ _ _ _ _ _ _ _ _ _ C.m_is_drawer hr (pv 0) (q0a (pv 1) q0d (by rfl)) (by decide) (by rfl) (by rfl) (by rfl)) (fun _=>rfl))) (@q0f _ _ _ (z7o C.e_NoDrawer hr accX rfl (q0a (pv 1) q0d (by rfl)))) q0h)),?_⟩
    obtain⟨dx,hi⟩:=hh.i
    refine⟨_,rfl,h,dx,_,rfl,hi,rfl,_,rfl,h,d,p,bl,rows,q,rfl,hh,hp,pb.low,nd,fun H1 bb s1 hb=>⟨bb,rfl,?_⟩⟩
    cases bb with
    | true=>exact iteF (k (hb.mp rfl) H1 s1)
    | false =>
      refine iteT ⟨_,rfl,fun ea hea=>⟨ea,p,q,rfl,q0b,?_,pb,fun d' hd hne=>⟨rfl,?_⟩⟩⟩
      · rw [q0c (fun z=>by have:=s1 _ _ hp;rw [z,hea] at this;cases this)];exact s1 _ _ hp
      obtain⟨dd,r1,r2⟩:=raised1 (f := "path") (v := .ref p) hd hne
      refine⟨dd,r1,kE (fun z => ?_) ea _ (q2d s1 hea hd) (s1.free hea) r2⟩
      have:=hb.mpr z
      cases this
structure CallsMO (P:Program) (w:World) (K:PySem.W.Frag) (mg:Str→Option Value) (base:Heap) (c Cn Cd:Addr):Prop where
  m_ask_thing:MCalX P w K mg base c "ask_thing" 3 ["self", "path"] (spAskThingX c Cn)
  m_ask_drawer:MCalX P w K mg base c "ask_drawer" 3 ["self", "path"] (spAskDrawerX c Cd)
end
end K
set_option maxHeartbeats 4000000
namespace K
open PySem L2 TX SB HM
section
variable {P:Program} {w:World} {K:PySem.W.Frag} {mg:Str→Option Value} {base:Heap}
theorem z2n {K:PySem.W.Frag} {tt:TT} {te:TE} {m D:Addr} {ob:Obj} {rows:List Rw} {p:Pth} {r:St} {H1 H2:Hp} {Fin:List V→Hp→Prop} (hm:H1 m=some (dR (rows.map rR))) (h2:H2=upd H1 m (.frz ob (dR (rows.map rR)))) (hD:H2 D=none) (few:rows.length≤1000)
    (ht:∀ (b:Addr) (x:Rw) (H:Hp) (Q:Bool→Hp→Prop),x∈rows→H b=some (.tup (vP x.1))→H m=some (.frz ob (dR (rows.map rR)))→(∀ a u,a≠m→H1 a=some u→H a=some u)→(∀ H',Same H H' → Q (decide (x.1.dropLast=p)) H')→tt (some (.ref b)::r) H Q)
    (he:∀ (b:Addr) (x:Rw) (H:Hp) (Q:VK),x∈rows→H b=some (.tup (vP x.1))→Q (.str (mk (x.1.getLastD []))) H→te (some (.ref b)::r) H Q)
    (k:∀ (H' : Hp),H' D=some (.lst ((nms p rows).map fun n=>V.str (mk n)))→H' m=some (.frz ob (dR (rows.map rR)))→(∀ a u,a≠m→H1 a=some u→H' a=some u)→Fin ((nms p rows).map fun n=>V.str (mk n)) H') :
    CompW (Itk m ob ((rows.map rR).map fun r=>(kP r.1,r.2))) (gName 0) tt te (none::r) D Fin H2:=by
  subst h2
  have hDm:D≠m:=fun z=>by rw [z,q0b] at hD;cases hD
  have hD1:H1 D=none:=by rw [q0c hDm] at hD;exact hD
  have hlen:((rows.map rR).map fun r=>(kP r.1,r.2)).length=rows.length:=by rw [List.length_map,List.length_map]
  refine q7t (n:=rows.length) (fun i ys H' => ys=(nms p (rows.take i)).map (fun n=>V.str (mk n))∧H' D=some (.lst ys)∧H' m=some (.frz ob (dR (rows.map rR)))∧(∀ a u,a≠m→H1 a=some u→H' a=some u))
    ⟨rfl,q0b,by rw [q0c hDm.symm];exact q0b,fun a u n e=>by rw [q0c (fun z=>by rw [z,hD1] at e;cases e),q0c n];exact e⟩
    (fun i ys H' x=>x.2.1) (fun i ys H' hi x=>⟨x.2.2.1,by rw [hlen];exact hi⟩) (fun ys H' x=>⟨x.2.2.1,by rw [hlen];exact Nat.le_refl _⟩) ?_ ?_
  · rintro i ys H' x H6 hi ⟨rfl,hHD,hfz,kp⟩ ⟨rfl,ky,v,b,hk',hb,rfl⟩
    obtain⟨x,hx,rfl,rfl⟩:∃ x,rows[i]? = some x∧ky=kP x.1∧v=mV x.2:=by
      rw [List.getElem?_map,List.getElem?_map] at hk'
      cases e:rows[i]? with
      | none=>rw [e] at hk';cases hk'
      | some r=>rw [e] at hk';cases hk';exact⟨r,rfl,rfl,rfl⟩
    rw [q3a] at hb
    have hxm:=List.mem_of_getElem? hx
    have e1:rows.take (i+1)=rows.take i ++ [x]:=by rw [List.take_add_one,hx];rfl
    have hnl:(nms p (rows.take i)).length≤1000:=by
      unfold nms
      rw [List.length_map]
      refine Nat.le_trans (List.length_filter_le _ _) ?_
      rw [List.length_take];lia
    refine⟨q3e,ht b x _ _ hxm hb hfz kp fun H7 s7 => ?_⟩
    have kp7:∀ a u,a≠m→H1 a=some u→H7 a=some u:=fun a u n e=>s7 _ _ (kp a u n e)
    refine iteB (fun hc => ?_) (fun hc => ?_)
    · refine he b x _ _ hxm (s7 _ _ hb) ⟨s7 _ _ hHD,small' (by rw [List.length_map];lia),?_,q0b,by rw [q0c hDm.symm];exact s7 _ _ hfz,fun a u n e=>by rw [q0c (fun z=>by rw [z,hD1] at e;cases e)];exact kp7 a u n e⟩
      unfold nms
      rw [e1,List.filter_append,List.filter_cons_of_pos (by simpa using hc)]
      simp
    · refine⟨?_,s7 _ _ hHD,s7 _ _ hfz,kp7⟩
      unfold nms
      rw [e1,List.filter_append,List.filter_cons_of_neg (by simpa using hc)]
      simp
  · rintro ys H' ⟨rfl,hHD,hfz,kp⟩
    rw [List.take_length] at hHD ⊢
    exact k H' hHD hfz kp
def spNamesX (c Cd:Addr):Sp:=fun vs H Q E=>∃ h d e bl rows p,vs = [.ref h,.ref e]∧HallAt c H h d bl rows∧H e=some (.tup (vP p))∧PB p∧(rows.map (·.1)).Nodup∧(∀ r∈rows,okP r.1)∧rows.length<64 ∧
  (IsD rows p→∀ (L:Addr) (ss:List Str) H',H L=none→Same H H' → H' L=some (.lst (ss.map V.str))→ss.Perm ((nms p rows).map mk)→ss.Pairwise (fun a b=>¬ (b.cps.toList<a.cps.toList))→Q (.ref L) H') ∧
  (¬ IsD rows p→∀ ea H',Same H H' → H ea=none→Rfd H' ea Cd "path" (.ref e)→E (.ref ea) none H')
abbrev q0x:Stmt:=inClass (top 31) 7
theorem q5k:FnScope ["self", "path"] ["self", "path"] (defScope q0x):=⟨rfl,rfl,rfl,by decide +kernel,rfl,by decide +kernel,by decide +kernel⟩
theorem z5s {c Cn Cd:Addr} (D:Mf K c "names_in" "Hall.names_in" q0x ["self", "path"]) (hk:Hk K c) (T:Txt mg) (C:CallsMO P w K mg base c Cn Cd):MCalX P w K mg base c "names_in" 4 ["self", "path"] (spNamesX c Cd):=by
  refine D.calX hk.cl q5k (fun vs H Q E h => ?_) (fun f cdv A outer s H vs Q E hr h => ?_)
  · obtain⟨h,d,e,bl,rows,p,rfl,_⟩:=h;rfl
  · obtain⟨h,d,e,bl,rows,p,rfl,hh,he,pb,nd,oks,h64,k,kE⟩:=h
    refine⟨_,(@q0e _ _ _ _ _ (@q1y _ _ _ _ (z2m C.m_ask_drawer hr accX (pv 0) (q0a (pv 1) q0d (by rfl))) (by rfl)) (@q0f _ _ _ (@q0l _ _ _ _ (q0i (z2k hr) (by rfl) T.b_sorted (by decide +kernel) (q0a (@z4y _ _ _ H rfl (@q5l _ _ _ _ _ _ _ _ _ _ _ ["thing"] [("path",1)] rfl (@z0u _ _ _ _ K rfl (@q5f _ _ _ _ _ K rfl (pv 0) (by rfl))) (fun _ _ _ _ _=>(@q1e _ _ (0) _ (show (["thing", "path"]:List Str).Nodup by decide +kernel) rfl (by first | exact Or.inl rfl | exact Or.inr rfl) (by first | exact .inl rfl | exact .inr rfl | assumption))) (fun _ _ _ _ _=>(@q7s _ _ _ (q0j (eq_k K rfl hr) (q1a (sl_k K rfl) (pv 0) q1j (@q1k _ _ _ (q2q q1u q0g))) (pv 1) (nomark _)))) (fun _ _ _ _ _=>(q1t (ix_k K rfl) (pv 0) (q2q q1u q0g) (fun _ _=>rfl))) (by rfl) (by intro _;rfl))) q0d (by rfl)) (by decide) (by decide) (by rfl) (by rfl))))),?_⟩
    obtain⟨dx,hi⟩:=hh.i
    have lp:=pb.low
    refine⟨_,rfl,h,dx,_,rfl,hi,rfl,_,rfl,h,d,e,bl,rows,p,rfl,hh,he,pb,nd,fun hp H1 s1 => ?_,fun hn ea H' sm hea rf ea' ez => ?_⟩
    rotate_left
    · cases ez
      exact kE hn ea H' sm hea rf
    replace k:=k hp
    have hh1:=hh.same s1
    have hed:e≠d:=fun z=>by rw [z,hh.d] at he;cases he
    refine⟨d,(fun o v e=>by rw [hh.d] at e;cases e),_,rfl,h,c,dx,_,_,rfl,s1 _ _ hi,hk.cl,hk.m,rfl,d,_,rfl,hh1.d,fun ob D hD => ?_⟩
    refine z2n (K:=K) (H1:=H1) (rows:=rows) (p:=p) hh1.d rfl hD (by lia) (fun b x H2 Q' hx hb hf kp q => ?_) (fun b x H2 Q' hx hb q => ?_) (fun H2 hHD hfz kp => ?_)
    · have okx:=oks x hx
      obtain⟨c1,c2⟩:=q1x okx.ne
      refine⟨_,rfl,_,rfl,_,rfl,.inr (.inr ⟨b,_,rfl,SqT.of hb,c2,fun u1 hu1 => ?_⟩)⟩
      rw [c1]
      have s2:=(Same.refl H2).new (o := .tup (vP x.1.dropLast)) hu1
      exact⟨_,rfl,q4g q0b (s2 _ _ (kp _ _ hed (s1 _ _ he))) (q2s okx.low) lp ⟨_,rfl,q _ s2⟩⟩
    · exact⟨_,rfl,_,rfl,.inr (.inl ⟨b,_,-1,_,rfl,rfl,SqT.of hb,q4t (oks x hx).ne,q⟩)⟩
    · have hDd:D≠d:=fun z=>by rw [z,q0b] at hD;cases hD
      have s2:Same H1 (upd H2 d (dR (rows.map rR))):=q2n hh1.d kp
      have hnl:(nms p rows).length≤rows.length:=by unfold nms;rw [List.length_map];exact List.length_filter_le _ _
      refine⟨ob,_,hfz,D,(nms p rows).map mk,rfl,by rw [q0c hDd,hHD,List.map_map];rfl,by rw [List.length_map];lia,fun L ss hL pm pw => ?_⟩
      exact k L ss _ ((s1.trans s2).free hL) ((s1.trans s2).new hL) q0b pm pw
def PutR (bl:Bool) (rows:List Rw) (p:Pth) (i:Nat) (w:Pth):Prop :=
  (i=1∧w=p.dropLast∧¬ IsD rows p.dropLast)∨(i=2∧IsD rows p.dropLast∧(∃ m,(w,m)∈rows)∧fold bl w=fold bl p)
def Frp (bl:Bool) (rows:List Rw) (p:Pth):Prop:=IsD rows p.dropLast∧∀ r∈rows,fold bl r.1≠fold bl p
def DrpR (rows:List Rw) (p:Pth) (i:Nat):Prop:=(i=0∧NoT rows p)∨(i=4∧(∃ m,(p,m)∈rows)∧∃ r∈rows,r.1.dropLast=p)
def Drp (rows:List Rw) (p:Pth):Prop:=(∃ m,(p,m)∈rows)∧∀ r∈rows,r.1.dropLast≠p
def cAt (Cn Cd Ct Ce:Addr):Nat→Addr | 0=>Cn | 1=>Cd | 2=>Ct | _=>Ce
structure CallsPu (P:Program) (w:World) (K:PySem.W.Frag) (mg:Str→Option Value) (base:Heap) (c Cd Ct Cl Dn:Addr):Prop where
  m_ask_drawer:MCalX P w K mg base c "ask_drawer" 3 ["self", "path"] (spAskDrawerX c Cd)
  m_there:MCal P w K mg base c "there" 3 ["self", "place"] (spThere1 c)
  e_Taken:CalE P w K mg base "Taken" Ct 1 ["self", "path"] (spIniP Ct "path")
  f_Full:ELaw0 K Cl Dn
  g_Full:mg "Full" = some (.ref Cl)
def spPutX (c Cn Cd Ct Ce Cl:Addr):Sp:=fun vs H Q E=>∃ h d a bl rows p m,vs = [.ref h,.ref a,mV m]∧HallAt c H h d bl rows∧Hl bl rows∧rows.length≤60∧H a=some (.tup (vP p))∧okP p ∧
  (Frp bl rows p→rows.length<60→∀ H',(∀ x u,x≠d→H x=some u→H' x=some u)→HallAt c H' h d bl (rows ++ [(p,m)])→Q .non H') ∧
  (∀ i w,PutR bl rows p i w→∀ ea x H',Same H H' → H ea=none→H' x=some (.tup (vP w))→Rfd H' ea (cAt Cn Cd Ct Ce i) "path" (.ref x)→E (.ref ea) none H') ∧
  (Frp bl rows p→¬ rows.length<60→∀ ea H',Same H H' → H ea=none→H' ea=some (ExO (.ref Cl) none ea)→E (.ref ea) none H')
abbrev q1s:Stmt:=inClass (top 31) 8
theorem sc_Hall_put:FnScope ["self", "path", "mark", "other"] ["self", "path", "mark"] (defScope q1s):=⟨rfl,rfl,rfl,by decide +kernel,rfl,by decide +kernel,by decide +kernel⟩
theorem x0e {c Cn Cd Ct Ce Cl Dn:Addr} (D:Mf K c "put" "Hall.put" q1s ["self", "path", "mark"]) (hk:Hk K c) (T:Txt mg) (C:CallsPu P w K mg base c Cd Ct Cl Dn):MCalX P w K mg base c "put" 5 ["self", "path", "mark"] (spPutX c Cn Cd Ct Ce Cl):=by
  refine D.calX hk.cl sc_Hall_put (fun vs H Q E h => ?_) (fun f cdv A outer s H vs Q E hr h => ?_)
  · obtain⟨h,d,a,bl,rows,p,m,rfl,_⟩:=h;rfl
  · obtain⟨h,d,a,bl,rows,p,m,rfl,hh,hl,h60,ha,okp,k,kE,kF⟩:=h
    obtain⟨_,g_MOST_THINGS⟩:=T.MOST_THINGS
    refine⟨_,(@q0e _ _ _ _ _ (@q1y _ _ _ _ (z2m C.m_ask_drawer hr accX (pv 0) (q0a (q1a (sl_k K rfl) (pv 1) q1j (@q1k _ _ _ (q2q q1u q0g))) q0d (by rfl))) (by rfl)) (@q0e _ _ _ _ _ (@q0m _ _ (3) _ _ _ _ sc_Hall_put.nd rfl (by first | exact Or.inl rfl | exact Or.inr rfl) (@pe_m _ _ _ _ _ _ _ _ _ _ _ _ _ _ _ C.m_there hr (pv 0) (q0a (pv 1) q0d (by rfl)) (by decide) (by rfl) (by rfl) (by rfl)) (by rfl) (by first | exact .inl rfl | exact .inr rfl | assumption)) (@q0e _ _ _ _ _ (@q1b _ _ _ _ _ _ _ _ (@q2j _ _ _ _ _ _ (@q7m _ _ _ _ _ (pv 3)) (by first | exact nobehind _ (by decide) (by decide) | rfl)) (@q0f _ _ _ (z7o C.e_Taken hr accX rfl (q0a (pv 3) q0d (by rfl)))) q0h) (@q0e _ _ _ _ _ (@q1b _ _ _ _ _ _ _ _ (q0j op_ge (q0i q9m (by rfl) T.b_len PySem.boot_len (q0a (@q5f _ _ _ _ _ K rfl (pv 0) (by rfl)) q0d (by rfl)) (by decide) (by decide) (by rfl) (by rfl)) (@q0v _ _ (.int 60) _ _ (by rfl) g_MOST_THINGS ⟨_,rfl⟩ (by decide)) (nomark _)) (@q0f _ _ _ (z5l C.f_Full accX rfl C.g_Full (q0a (@q6j _ _ _ _ _ _ _ _ (@pf_val _ _ _ _ (@q0v _ _ (.int 60) _ _ (by rfl) g_MOST_THINGS ⟨_,rfl⟩ (by decide))) q7f q6k) q0d (by rfl)))) q0h) (@q0f _ _ _ (@q7v _ _ _ _ _ _ _ _ _ (q3q hr) (@q5f _ _ _ _ _ K rfl (pv 0) (by rfl)) (pv 1) (pv 2) rfl)))))),?_⟩
    obtain⟨dx,hi⟩:=hh.i
    obtain⟨c1,c2⟩:=q1x okp.ne
    refine⟨_,rfl,h,dx,_,rfl,hi,rfl,_,rfl,_,rfl,_,rfl,.inr (.inr ⟨a,_,rfl,SqT.of ha,c2,fun t1 ht1 => ?_⟩)⟩
    rw [c1]
    have s1:=(Same.refl H).new (o := .tup (vP p.dropLast)) ht1
    have pbd:PB p.dropLast:=⟨by rw [List.length_dropLast];have:=okp.few;lia,fun n hn=>(okP.pb okp).all n (List.dropLast_subset _ hn)⟩
    refine⟨h,d,t1,bl,rows,p.dropLast,rfl,hh.same s1,q0b,pbd,hl.paths,fun hD H1 s2 => ?_,fun hn ea H' sm hea rf ea' ez=>by cases ez;exact kE 1 p.dropLast (.inl ⟨rfl,rfl,hn⟩) ea t1 H' (s1.trans sm) (s1.free hea) (sm _ _ q0b) rf⟩
    have s3:=s1.trans s2
    refine⟨_,rfl,h,dx,_,rfl,s3 _ _ hi,rfl,_,rfl,h,d,a,bl,rows,p,rfl,hh.same s3,s3 _ _ ha,okp,hl.ok,fun H3 ov s4 hov => ?_⟩
    have s34:=s3.trans s4
    refine⟨_,rfl,_,rfl,?_⟩
    rcases hov with ⟨rfl,no⟩ | ⟨e,r,rfl,hr,hf,he⟩
    rotate_left
    · refine iteT ⟨_,rfl,fun ea hea=>⟨ea,e,r.1,rfl,q0b,?_,okP.pb (hl.ok r hr),fun d' hd hne=>⟨rfl,?_⟩⟩⟩
      · rw [q0c (fun z=>by rw [z,hea] at he;cases he)];exact he
      obtain⟨dd,r1,r2⟩:=raised1 (f := "path") (v := .ref e) hd hne
      exact⟨dd,r1,kE 2 r.1 (.inr ⟨rfl,hD,⟨r.2,hr⟩,hf⟩) ea e _ (q2d s34 hea hd) (s34.free hea) (q2d (Same.refl _) hea hd _ _ he) r2⟩
    refine iteF ?_
    have fr:Frp bl rows p:=⟨hD,no⟩
    have hh3:=hh.same s34
    refine⟨_,rfl,h,c,dx,_,_,rfl,s34 _ _ hi,hk.cl,hk.m,rfl,d,_,rfl,hh3.d,_,_,rfl,rfl,_,rfl,?_⟩
    rw [List.length_map,List.length_map]
    refine iteB (fun hb => ?_) (fun hb => ?_)
    · have hb:(60:Int)≤(rows.length:Int):=of_decide_eq_true hb
      have l1:(Str.ofString " things are there").length≤100:=by decide +kernel
      have l0:Str.empty.length=0:=by decide +kernel
      have l2:(Str.ofString (toString ((60:Nat):Int))).length≤13:=by decide +kernel
      refine .inr ⟨60,rfl,by decide,TX.small (by rw [app_len];lia),TX.small (by rw [app_len,app_len];lia),TX.small (by rw [app_len,app_len];lia),by show 1≤100;decide,fun ea hea => ?_⟩
      have sm:Same H3 (upd (upd H3 ea (ExN (.ref Cl) none ea)) ea (ExO (.ref Cl) none ea)):=fun b o e=>by
        have n:b≠ea:=fun z=>by rw [z,hea] at e;cases e
        rw [q0c n,q0c n];exact e
      exact kF fr (by lia) ea _ (s34.trans sm) (s34.free hea) q0b
    · have hb:¬ (60:Int)≤(rows.length:Int):=of_decide_eq_false hb
      have hlt:rows.length<60:=by lia
      refine⟨_,rfl,_,rfl,h,c,dx,_,_,rfl,s34 _ _ hi,hk.cl,hk.m,rfl,_,rfl,d,_,rfl,DPut.t (k:=kP p) hh3.d (by rw [q3a];exact s34 _ _ ha) (by rw [List.length_map,List.length_map];exact small' (by lia)),?_⟩
      have hnew:∀ r∈rows.map rR,r.1≠p:=fun r hr e=>by
        obtain⟨y,hy,rfl⟩:=List.mem_map.mp hr
        exact no y hy (congrArg (fold bl) e)
      rw [q4i hnew]
      have hhd:h≠d:=fun z=>by rw [z,hh.d] at hi;cases hi
      refine k fr hlt _ (fun x u n e=>by rw [q0c n];exact s34 _ _ e) ⟨⟨dx,by rw [q0c hhd];exact s34 _ _ hi⟩,?_⟩
      have em:(rows ++ [(p,m)]).map rR=rows.map rR ++ [(p,mV m)]:=by rw [List.map_append];rfl
      rw [q0b,em]
def SrtN (ss:List Str) (p:Pth) (rows:List Rw):Prop:=ss.Perm ((nms p rows).map mk)∧ss.Pairwise (fun a b=>¬ (b.cps.toList<a.cps.toList))
theorem x0f {rows:List Rw} (oks:∀ r∈rows,okP r.1) (q:Pth):Low (nms q rows):=fun n hn=>by
  unfold nms at hn
  obtain⟨r,hr,rfl⟩:=List.mem_map.mp hn
  exact (q4u (oks r (List.mem_filter.mp hr).1)).low
theorem SrtN.ms {ss:List Str} {q:Pth} {rows:List Rw} (h:SrtN ss q rows) (oks:∀ r∈rows,okP r.1):∃ ms:Pth,ss.map V.str=vP ms∧Low ms:=by
  obtain⟨ms,p1,rfl⟩:=SB.perm_map_inv h.1 rfl
  exact⟨ms,by rw [List.map_map];rfl,fun n hn=>x0f oks q n (p1.mem_iff.mp hn)⟩
structure CallsDp (P:Program) (w:World) (K:PySem.W.Frag) (mg:Str→Option Value) (base:Heap) (c Cn Cd Ce:Addr):Prop where
  m_ask_thing:MCalX P w K mg base c "ask_thing" 3 ["self", "path"] (spAskThingX c Cn)
  m_is_drawer:MCal P w K mg base c "is_drawer" 1 ["self", "path"] (spIsDrawer c)
  m_names_in:MCalX P w K mg base c "names_in" 4 ["self", "path"] (spNamesX c Cd)
  e_NotEmpty:CalE P w K mg base "NotEmpty" Ce 1 ["self", "path"] (spIniP Ce "path")
theorem kids_nms {rows:List Rw} {p:Pth}:(∃ r∈rows,r.1.dropLast=p)↔nms p rows ≠ []:=by
  unfold nms
  rw [ne_eq,List.map_eq_nil_iff,List.filter_eq_nil_iff]
  refine⟨fun ⟨r,hr,e⟩ z=>z r hr (decide_eq_true e),fun z=>Classical.byContradiction fun y=>z fun r hr e=>y ⟨r,hr,of_decide_eq_true e⟩⟩
theorem x0g (ms:Pth):PyData.eqv (.list (dP ms)) (.list [])=decide (ms = []):=by
  cases ms with
  | nil=>simp [dP,PyData.eqv,PyData.eqvAll]
  | cons a b=>simp [dP,PyData.eqv,PyData.eqvAll]
def spDropX (c Cn Cd Ct Ce:Addr):Sp:=fun vs H Q E=>∃ h d a bl rows p,vs = [.ref h,.ref a]∧HallAt c H h d bl rows∧Hl bl rows∧rows.length≤60∧H a=some (.tup (vP p))∧okP p ∧
  (Drp rows p→∀ (j:Nat) m H',rows[j]? = some (p,m)→(∀ x u,x≠d→H x=some u→H' x=some u)→HallAt c H' h d bl (rows.eraseIdx j)→Q .non H') ∧
  ∀ i,DrpR rows p i→∀ ea H',Same H H' → H ea=none→Rfd H' ea (cAt Cn Cd Ct Ce i) "path" (.ref a)→E (.ref ea) none H'
abbrev q1n:Stmt:=inClass (top 31) 9
theorem q9q:FnScope ["self", "path"] ["self", "path"] (defScope q1n):=⟨rfl,rfl,rfl,by decide +kernel,rfl,by decide +kernel,by decide +kernel⟩
theorem z8b {c Cn Cd Ct Ce:Addr} (D:Mf K c "drop" "Hall.drop" q1n ["self", "path"]) (hk:Hk K c) (T:Txt mg) (C:CallsDp P w K mg base c Cn Cd Ce):MCalX P w K mg base c "drop" 5 ["self", "path"] (spDropX c Cn Cd Ct Ce):=by
  refine D.calX hk.cl q9q (fun vs H Q E h => ?_) (fun f cdv A outer s H vs Q E hr h => ?_)
  · obtain⟨h,d,a,bl,rows,p,rfl,_⟩:=h;rfl
  · obtain⟨h,d,a,bl,rows,p,rfl,hh,hl,h60,ha,okp,k,kE⟩:=h
    refine⟨_,(@q0e _ _ _ _ _ (@q1y _ _ _ _ (z2m C.m_ask_thing hr accX (pv 0) (q0a (pv 1) q0d (by rfl))) (by rfl)) (@q0e _ _ _ _ _ (@q1b _ _ _ _ _ _ _ _ (@pt_j _ _ _ (@PW.pt _ _ _ (@q3v _ _ _ _ _ _ _ (@q3y _ _ _ K rfl (@pe_m _ _ _ _ _ _ _ _ _ _ _ _ _ _ _ C.m_is_drawer hr (pv 0) (q0a (pv 1) q0d (by rfl)) (by decide) (by rfl) (by rfl) (by rfl)) (fun _=>rfl)) (@q2p _ _ _ _ (q0j (ne_k K rfl hr) (z2m C.m_names_in hr accX (pv 0) (q0a (pv 1) q0d (by rfl))) (q2e q0d) (nomark _)))))) (@q0f _ _ _ (z7o C.e_NotEmpty hr accX rfl (q0a (pv 1) q0d (by rfl)))) q0h) (@q0f _ _ _ (z7r hr (@q5f _ _ _ _ _ K rfl (pv 0) (by rfl)) (pv 1))))),?_⟩
    obtain⟨dx,hi⟩:=hh.i
    refine⟨_,rfl,h,dx,_,rfl,hi,rfl,_,rfl,h,d,a,bl,rows,p,rfl,hh,ha,okP.pb okp,hl.paths,fun m hp => ?_,fun hn ea H' sm hea rf ea' ez=>by cases ez;exact kE 0 (.inl ⟨rfl,hn⟩) ea H' sm hea rf⟩
    refine⟨fun bb H2=>(bb=true↔∃ r∈rows,r.1.dropLast=p)∧Same H H2,?_,?_⟩
    rotate_left
    · refine⟨_,rfl,h,dx,_,rfl,hi,rfl,_,rfl,h,d,a,bl,rows,p,rfl,hh,ha,okp.low,hl.paths,fun H2 bb s3 hbb=>⟨bb,rfl,?_⟩⟩
      refine iteB (fun e => ?_) (fun e=>⟨⟨(fun z=>by cases z),fun ⟨r,hr,er⟩ => ?_⟩,s3⟩)
      rotate_left
      · have:=hbb.mpr ((hl.dr r hr).imp (fun z=>er.symm.trans z) fun z=>by rw [er] at z;exact z)
        rw [e] at this;cases this
      have hD:IsD rows p:=hbb.mp e
      refine⟨_,rfl,h,dx,_,rfl,s3 _ _ hi,rfl,_,rfl,h,d,a,bl,rows,p,rfl,hh.same s3,s3 _ _ ha,okP.pb okp,hl.paths,hl.ok,by lia,fun _ L ss H4 hL s4 hLL pm pw => ?_,fun hn=>absurd hD hn⟩
      obtain⟨ms,em,lm⟩:=SrtN.ms ⟨pm,pw⟩ hl.ok
      refine⟨by show 0≤sizeLine;decide,fun E0 hE0 => ?_⟩
      have s5:=(Same.refl H4).new (o := .lst []) hE0
      have hLs:=s5 _ _ hLL
      rw [em] at hLs
      have laym:(PyData.list (dP ms)).canLay0=true:=by simp only [PyData.canLay0,q7b lm]
      have depm:(PyData.list (dP ms)).depth≤100:=by have:=q4d ms;simp only [PyData.depth];lia
      refine .inr ⟨_,_,.lst (SqL.of hLs) (q7x ms),.lst (SqL.of q0b) .nil,laym,by simp [PyData.canLay0,PyData.canLayAll0],Nat.le_trans (Nat.min_le_left _ _) depm,_,rfl,?_,(s3.trans s4).trans s5⟩
      rw [x0g,kids_nms]
      have h1:ss = []↔nms p rows = []:=⟨fun z=>by rw [z] at pm;exact List.map_eq_nil_iff.mp (List.nil_perm.mp pm),fun z=>by rw [z] at pm;exact List.perm_nil.mp pm⟩
      have h2:ss = []↔ms = []:=by
        rw [← List.map_eq_nil_iff (f:=V.str) (l:=ss),em];exact List.map_eq_nil_iff
      rw [Bool.not_eq_true',decide_eq_false_iff_not,← h2,h1]
    rintro bb H2 ⟨hbb,s3⟩
    refine ite2 (fun hb1 => ?_) (fun hb1 => ?_)
    · refine⟨_,rfl,fun ea hea=>⟨ea,a,p,rfl,q0b,?_,okP.pb okp,fun d' hd hne=>⟨rfl,?_⟩⟩⟩
      · rw [q0c (fun z=>by have:=s3 _ _ ha;rw [z,hea] at this;cases this)];exact s3 _ _ ha
      obtain⟨dd,r1,r2⟩:=raised1 (f := "path") (v := .ref a) hd hne
      exact⟨dd,r1,kE 4 (.inr ⟨rfl,⟨m,hp⟩,hbb.mp hb1⟩) ea _ (q2d s3 hea hd) (s3.free hea) r2⟩
    have hdr:Drp rows p:=⟨⟨m,hp⟩,fun r hr e=>hb1 (hbb.mpr ⟨r,hr,e⟩)⟩
    have hh3:=hh.same s3
    obtain⟨j0,hj0⟩:=List.mem_iff_getElem?.mp hp
    refine⟨_,rfl,h,c,dx,_,_,rfl,s3 _ _ hi,hk.cl,hk.m,rfl,_,rfl,d,_,a,kP p,rfl,rfl,hh3.d,by rw [q3a];exact s3 _ _ ha,⟨j0,mV m,by rw [List.getElem?_map,List.getElem?_map,hj0];rfl⟩,fun j v hj => ?_⟩
    obtain⟨r,hr,e1⟩:∃ r,rows[j]? = some r∧(kP r.1,mV r.2)=(kP p,v):=by
      rw [List.getElem?_map,List.getElem?_map] at hj
      cases e:rows[j]? with
      | none=>rw [e] at hj;cases hj
      | some r=>rw [e] at hj;exact⟨r,rfl,Option.some.inj hj⟩
    have er:r=(p,r.2):=by rw [← q7g (congrArg Prod.fst e1)]
    rw [er] at hr
    have hhd:h≠d:=fun z=>by rw [z,hh.d] at hi;cases hi
    refine k hdr j r.2 _ hr (fun x u n e=>by rw [q0c n];exact s3 _ _ e) ⟨⟨dx,by rw [q0c hhd];exact s3 _ _ hi⟩,?_⟩
    rw [q0b,ers_map,ers_map]
end
end K
set_option maxHeartbeats 4000000
namespace K
open PySem L2 TX SB HM
section
variable {P:Program} {w:World} {K:PySem.W.Frag} {mg:Str→Option Value} {base:Heap}
structure Wd (K:PySem.W.Frag) (C:Addr) (cs ds es:List Addr) (i:Nat):Prop where
  six:∀ j D,cs[j]? = some D→PySem.W.kitOne K (.ref C) (.ref D)=some (decide (j=i))
  ds:PySem.W.kitAny K (.ref C) (ds.map Value.ref)=some false
  es:PySem.W.kitAny K (.ref C) (es.map Value.ref)=some false
  val:PySem.W.kitOne K (.ref C) (.type "ValueError")=some true
  isi:EIsi K C
  get:i<5→EGet K C "path"
def w6:List Str := [Str.ofString "thing",Str.ofString "drawer",Str.ofString "taken",Str.ofString "fixed",Str.ofString "filled",Str.ofString "full"]
def wB (i:Nat):List (Str×Bool) := [(Str.ofString "thing",decide (0=i)),(Str.ofString "drawer",decide (1=i)),(Str.ofString "taken",decide (2=i)),(Str.ofString "fixed",decide (3=i)),(Str.ofString "filled",decide (4=i)),(Str.ofString "full",decide (5=i))]
structure Glw (mg:Str→Option Value) (c0 c1 c2 c3 c4 c5:Addr) (d e:List Addr):Prop where
  g_NoThing:mg "NoThing" = some (.ref c0)
  g_NoDrawer:mg "NoDrawer" = some (.ref c1)
  g_Taken:mg "Taken" = some (.ref c2)
  g_Fixed:mg "Fixed" = some (.ref c3)
  g_NotEmpty:mg "NotEmpty" = some (.ref c4)
  g_Full:mg "Full" = some (.ref c5)
  ex:∃ c_Broken c_Busy c_Meets c_NoBook c_NoDoer c_NoHall c_NoLine c_NoPattern c_NoPlace c_NoRule c_NoRules c_NoSame c_NoTemplate c_NoText c_NoWish c_Strayed c_TooMuch,
    d = [c_Broken,c_Busy,c_Meets,c_NoBook,c_NoDoer,c_NoHall,c_NoLine,c_NoPattern,c_NoPlace,c_NoRule]∧e = [c_NoRules,c_NoSame,c_NoTemplate,c_NoText,c_NoWish,c_Strayed,c_TooMuch] ∧
    mg "Broken" = some (.ref c_Broken)∧mg "Busy" = some (.ref c_Busy)∧mg "Meets" = some (.ref c_Meets)∧mg "NoBook" = some (.ref c_NoBook)∧mg "NoDoer" = some (.ref c_NoDoer)∧mg "NoHall" = some (.ref c_NoHall)∧mg "NoLine" = some (.ref c_NoLine)∧mg "NoPattern" = some (.ref c_NoPattern)∧mg "NoPlace" = some (.ref c_NoPlace)∧mg "NoRule" = some (.ref c_NoRule) ∧
    mg "NoRules" = some (.ref c_NoRules)∧mg "NoSame" = some (.ref c_NoSame)∧mg "NoTemplate" = some (.ref c_NoTemplate)∧mg "NoText" = some (.ref c_NoText)∧mg "NoWish" = some (.ref c_NoWish)∧mg "Strayed" = some (.ref c_Strayed)∧mg "TooMuch" = some (.ref c_TooMuch)
def spWord (K:PySem.W.Frag) (cs ds es:List Addr):Sp:=fun vs H Q _=>∃ ea C i,vs = [.ref ea]∧Err H ea C∧Wd K C cs ds es i∧i<6∧((∃ v,i<5∧Rfd H ea C "path" v∧∀ T wd H',w6[i]? = some wd→Same H H' → H' T=some (.tup [.str wd,v])→Q (.ref T) H')∨(i=5∧∀ T H',Same H H' → H' T=some (.tup [.str (Str.ofString "full"),.non])→Q (.ref T) H'))
def TW (H:Hp):List Addr→List (Str×Bool)→Prop:=Paired fun T p=>H T=some (.tup [.str p.1,.bl p.2])
theorem TW.same {H H' : Hp} (s:Same H H'):∀ {Ts:List Addr} {ps:List (Str×Bool)},TW H Ts ps→TW H' Ts ps
  | _,_,.nil => .nil
  | _,_,.cons h t => .cons (s _ _ h) (TW.same s t)
theorem TW.app {H:Hp}:∀ {Ts Us:List Addr} {ps qs:List (Str×Bool)},TW H Ts ps→TW H Us qs→TW H (Ts++Us) (ps++qs)
  | _,_,_,_,.nil,h=>h
  | _,_,_,_,.cons h t,u => .cons h (TW.app t u)
theorem TW.get {H:Hp}:∀ {Ts:List Addr} {ps:List (Str×Bool)} {i:Nat} {x:V},TW H Ts ps→(Ts.map V.ref)[i]? = some x→∃ T p,x = .ref T∧ps[i]? = some p∧H T=some (.tup [.str p.1,.bl p.2])
  | _,_,0,_,.cons h t,e=>by simp at e;subst e;exact⟨_,_,rfl,rfl,h⟩
  | _,_,i+1,_,.cons h t,e=>by
    obtain⟨T,p,h1,h2,h3⟩:=TW.get t (by simpa using e)
    exact⟨T,p,h1,by simpa using h2,h3⟩
theorem TW.len {H:Hp} {Ts:List Addr} {ps:List (Str×Bool)} (h:TW H Ts ps):Ts.length=ps.length:=Paired.length h
def yes (ps:List (Str×Bool)):List V:=(ps.filter (·.2)).map fun p=>V.str p.1
theorem x0h {i:Nat} (h:i<6):∃ wd,w6[i]? = some wd∧yes (wB i) = [.str wd]∧decide (V.str wd=V.str (Str.ofString "full"))=decide (i=5):=by
  match i,h with
  | 0,_=>exact⟨_,rfl,rfl,by decide +kernel⟩
  | 1,_=>exact⟨_,rfl,rfl,by decide +kernel⟩
  | 2,_=>exact⟨_,rfl,rfl,by decide +kernel⟩
  | 3,_=>exact⟨_,rfl,rfl,by decide +kernel⟩
  | 4,_=>exact⟨_,rfl,rfl,by decide +kernel⟩
  | 5,_=>exact⟨_,rfl,rfl,by decide +kernel⟩
theorem z1l {ps:List (Str×Bool)} {i:Nat} {p:Str×Bool} (h:ps[i]? = some p):yes (ps.take (i+1))=yes (ps.take i)++(if p.2=true then [.str p.1] else []):=by
  unfold yes
  rw [List.take_add_one,h,List.filter_append,List.map_append]
  congr 1
  show List.map _ (List.filter _ [p])=_
  cases e:p.2 <;> simp [e]
theorem x0i (ps:List (Str×Bool)):(yes ps).length≤ps.length:=by unfold yes;rw [List.length_map];exact List.length_filter_le _ _
abbrev q4z:Stmt:=top 44
theorem sc_word:FnScope ["_law_error", "_law_some", "_law_words", "_law_others"] ["_law_error"] (defScope q4z):=⟨rfl,rfl,rfl,by decide +kernel,rfl,by decide +kernel,by decide +kernel⟩
theorem x0j {c_NoThing c_NoDrawer c_Taken c_Fixed c_NotEmpty c_Full:Addr} {ds es:List Addr} (D:Df K mg "_law_word" q4z ["_law_error"]) (T:Txt mg) (C:Glw mg c_NoThing c_NoDrawer c_Taken c_Fixed c_NotEmpty c_Full ds es):Cal P w K mg base "_law_word" 1 ["_law_error"] (spWord K [c_NoThing,c_NoDrawer,c_Taken,c_Fixed,c_NotEmpty,c_Full] ds es):=by
  refine D.cal sc_word (fun vs H Q E h => ?_) (fun f cdv A outer s H vs Q E hr h => ?_)
  · obtain⟨ea,C,i,rfl,_⟩:=h;rfl
  · obtain⟨ea,Ce,i,rfl,er,W,hi,kk⟩:=h
    have g_NoThing:=C.g_NoThing
    have g_NoDrawer:=C.g_NoDrawer
    have g_Taken:=C.g_Taken
    have g_Fixed:=C.g_Fixed
    have g_NotEmpty:=C.g_NotEmpty
    have g_Full:=C.g_Full
    obtain⟨c_Broken,c_Busy,c_Meets,c_NoBook,c_NoDoer,c_NoHall,c_NoLine,c_NoPattern,c_NoPlace,c_NoRule,c_NoRules,c_NoSame,c_NoTemplate,c_NoText,c_NoWish,c_Strayed,c_TooMuch,rfl,rfl,g_Broken,g_Busy,g_Meets,g_NoBook,g_NoDoer,g_NoHall,g_NoLine,g_NoPattern,g_NoPlace,g_NoRule,g_NoRules,g_NoSame,g_NoTemplate,g_NoText,g_NoWish,g_Strayed,g_TooMuch⟩:=C.ex
    refine⟨_,(@q0e _ _ _ _ _ (@q0m _ _ (1) _ _ _ _ sc_word.nd rfl (by first | exact Or.inl rfl | exact Or.inr rfl) (q2e (q0a (q0y (q0a q1g (q0a (q0i (q4h K rfl) (by rfl) T.b_isinstance (by decide +kernel) (q0a (pv 0) (q0a (@q0v _ _ (.ref c_NoThing) _ _ (by rfl) g_NoThing rfl (by decide)) q0d (by rfl)) (by rfl)) (by decide) (by decide) (by rfl) (by rfl)) q0d (by rfl)) (by rfl))) (q0a (q0y (q0a q1g (q0a (q0i (q4h K rfl) (by rfl) T.b_isinstance (by decide +kernel) (q0a (pv 0) (q0a (@q0v _ _ (.ref c_NoDrawer) _ _ (by rfl) g_NoDrawer rfl (by decide)) q0d (by rfl)) (by rfl)) (by decide) (by decide) (by rfl) (by rfl)) q0d (by rfl)) (by rfl))) q0d (by rfl)) (by rfl))) (by rfl) (by first | exact .inl rfl | exact .inr rfl | assumption)) (@q0e _ _ _ _ _ (@q0m _ _ (1) _ _ _ _ sc_word.nd rfl (by first | exact Or.inl rfl | exact Or.inr rfl) (q1f q1q (pv 1) (q2e (q0a (q0y (q0a q1g (q0a (q0i (q4h K rfl) (by rfl) T.b_isinstance (by decide +kernel) (q0a (pv 0) (q0a (@q0v _ _ (.ref c_Taken) _ _ (by rfl) g_Taken rfl (by decide)) q0d (by rfl)) (by rfl)) (by decide) (by decide) (by rfl) (by rfl)) q0d (by rfl)) (by rfl))) (q0a (q0y (q0a q1g (q0a (q0i (q4h K rfl) (by rfl) T.b_isinstance (by decide +kernel) (q0a (pv 0) (q0a (@q0v _ _ (.ref c_Fixed) _ _ (by rfl) g_Fixed rfl (by decide)) q0d (by rfl)) (by rfl)) (by decide) (by decide) (by rfl) (by rfl)) q0d (by rfl)) (by rfl))) q0d (by rfl)) (by rfl)))) (by rfl) (by first | exact .inl rfl | exact .inr rfl | assumption)) (@q0e _ _ _ _ _ (@q0m _ _ (1) _ _ _ _ sc_word.nd rfl (by first | exact Or.inl rfl | exact Or.inr rfl) (q1f q1q (pv 1) (q2e (q0a (q0y (q0a q1g (q0a (q0i (q4h K rfl) (by rfl) T.b_isinstance (by decide +kernel) (q0a (pv 0) (q0a (@q0v _ _ (.ref c_NotEmpty) _ _ (by rfl) g_NotEmpty rfl (by decide)) q0d (by rfl)) (by rfl)) (by decide) (by decide) (by rfl) (by rfl)) q0d (by rfl)) (by rfl))) (q0a (q0y (q0a q1g (q0a (q0i (q4h K rfl) (by rfl) T.b_isinstance (by decide +kernel) (q0a (pv 0) (q0a (@q0v _ _ (.ref c_Full) _ _ (by rfl) g_Full rfl (by decide)) q0d (by rfl)) (by rfl)) (by decide) (by decide) (by rfl) (by rfl)) q0d (by rfl)) (by rfl))) q0d (by rfl)) (by rfl)))) (by rfl) (by first | exact .inl rfl | exact .inr rfl | assumption)) (@q0e _ _ _ _ _ (@z3r _ _ _ _ _ _ _ _ _ _ _ (2) _ _ _ ["_law_word_here", "_law_isof"] [] sc_word.nd rfl (by first | exact Or.inl rfl | exact Or.inr rfl) rfl (@z3v _ _ _ _ K rfl (pv 1)) (fun _ _ _ _ _=>(@q8u _ _ _ _ (2) _ K rfl rfl (@q1w _ _ _ _ _ (@q1e _ _ (0) _ (show (["_law_word_here", "_law_isof"]:List Str).Nodup by decide +kernel) rfl (by first | exact Or.inl rfl | exact Or.inr rfl) (by first | exact .inl rfl | exact .inr rfl | assumption)) (@q1w _ _ _ _ _ (@q1e _ _ (1) _ (show (["_law_word_here", "_law_isof"]:List Str).Nodup by decide +kernel) rfl (by first | exact Or.inl rfl | exact Or.inr rfl) (by first | exact .inl rfl | exact .inr rfl | assumption)) q5s (by rfl)) (by rfl)) (by rfl) (by rfl))) (fun _ _ _ _ _=>(@q7s _ _ _ (@q3y _ _ _ K rfl (pv 1) (fun _=>rfl)))) (fun _ _ _ _ _=>(pv 0)) (by rfl) (by intro _;rfl) (by rfl) (by first | exact .inl rfl | exact .inr rfl | assumption)) (@q0e _ _ _ _ _ (@q0m _ _ (3) _ _ _ _ sc_word.nd rfl (by first | exact Or.inl rfl | exact Or.inr rfl) (q0i (q4h K rfl) (by rfl) T.b_isinstance (by decide +kernel) (q0a (pv 0) (q0a (q0y (q0a (@q0v _ _ (.ref c_Broken) _ _ (by rfl) g_Broken rfl (by decide)) (q0a (@q0v _ _ (.ref c_Busy) _ _ (by rfl) g_Busy rfl (by decide)) (q0a (@q0v _ _ (.ref c_Meets) _ _ (by rfl) g_Meets rfl (by decide)) (q0a (@q0v _ _ (.ref c_NoBook) _ _ (by rfl) g_NoBook rfl (by decide)) (q0a (@q0v _ _ (.ref c_NoDoer) _ _ (by rfl) g_NoDoer rfl (by decide)) (q0a (@q0v _ _ (.ref c_NoHall) _ _ (by rfl) g_NoHall rfl (by decide)) (q0a (@q0v _ _ (.ref c_NoLine) _ _ (by rfl) g_NoLine rfl (by decide)) (q0a (@q0v _ _ (.ref c_NoPattern) _ _ (by rfl) g_NoPattern rfl (by decide)) (q0a (@q0v _ _ (.ref c_NoPlace) _ _ (by rfl) g_NoPlace rfl (by decide)) (q0a (@q0v _ _ (.ref c_NoRule) _ _ (by rfl) g_NoRule rfl (by decide)) q0d (by rfl)) (by rfl)) (by rfl)) (by rfl)) (by rfl)) (by rfl)) (by rfl)) (by rfl)) (by rfl)) (by rfl))) q0d (by rfl)) (by rfl)) (by decide) (by decide) (by rfl) (by rfl)) (by rfl) (by first | exact .inl rfl | exact .inr rfl | assumption)) (@q0e _ _ _ _ _ (@q0m _ _ (3) _ _ _ _ sc_word.nd rfl (by first | exact Or.inl rfl | exact Or.inr rfl) (@pe_j _ _ _ (@pe_or _ _ _ _ _ _ _ (pv 3) (@z2v _ _ _ _ _ (q0i (q4h K rfl) (by rfl) T.b_isinstance (by decide +kernel) (q0a (pv 0) (q0a (q0y (q0a (@q0v _ _ (.ref c_NoRules) _ _ (by rfl) g_NoRules rfl (by decide)) (q0a (@q0v _ _ (.ref c_NoSame) _ _ (by rfl) g_NoSame rfl (by decide)) (q0a (@q0v _ _ (.ref c_NoTemplate) _ _ (by rfl) g_NoTemplate rfl (by decide)) (q0a (@q0v _ _ (.ref c_NoText) _ _ (by rfl) g_NoText rfl (by decide)) (q0a (@q0v _ _ (.ref c_NoWish) _ _ (by rfl) g_NoWish rfl (by decide)) (q0a (@q0v _ _ (.ref c_Strayed) _ _ (by rfl) g_Strayed rfl (by decide)) (q0a (@q0v _ _ (.ref c_TooMuch) _ _ (by rfl) g_TooMuch rfl (by decide)) q0d (by rfl)) (by rfl)) (by rfl)) (by rfl)) (by rfl)) (by rfl)) (by rfl))) q0d (by rfl)) (by rfl)) (by decide) (by decide) (by rfl) (by rfl))))) (by rfl) (by first | exact .inl rfl | exact .inr rfl | assumption)) (@q0e _ _ _ _ _ (@q1b _ _ _ _ _ _ _ _ (@pt_j _ _ _ (@PW.pt _ _ _ (@z2u _ _ _ _ _ _ _ (@q3y _ _ _ K rfl (pv 3) (fun _=>rfl)) (@z2u _ _ _ _ _ _ _ (q0j (ne_k K rfl hr) (q0i (q3x K rfl) (by rfl) T.b_len PySem.boot_len (q0a (pv 2) q0d (by rfl)) (by decide) (by decide) (by rfl) (by rfl)) q0g (nomark _)) (@z2t _ _ _ _ (@q5r _ _ _ _ (@q3y _ _ _ K rfl (q0i (q4h K rfl) (by rfl) T.b_isinstance (by decide +kernel) (q0a (pv 0) (q0a (@q5q _ _ _ _ _ (by rfl) T.b_ValueError (by decide +kernel) (show RelV (.ty "ValueError") _ from rfl) (by decide) (by decide)) q0d (by rfl)) (by rfl)) (by decide) (by decide) (by rfl) (by rfl)) (fun _=>rfl)))))))) (@q0f _ _ _ (@q0l _ _ _ _ (q0y (q0a q1g (q0a q2v q0d (by rfl)) (by rfl))))) q0h) (@q0e _ _ _ _ _ (@q1b _ _ _ _ _ _ _ _ (q0j (eq_k K rfl hr) (q1t (ix_k K rfl) (pv 2) q0g (fun _ _=>rfl)) q1g (nomark _)) (@q0f _ _ _ (@q0l _ _ _ _ (q0y (q0a q1g (q0a q2v q0d (by rfl)) (by rfl))))) q0h) (@q0f _ _ _ (@q0l _ _ _ _ (q0y (q0a (q1t (ix_k K rfl) (pv 2) q0g (fun _ _=>rfl)) (q0a (efld_k K rfl (pv 0)) q0d (by rfl)) (by rfl))))))))))))),?_⟩
    refine⟨_,rfl,ea,Ce,_,⟨_,rfl,.inl ⟨c_NoThing,rfl,W.six 0 _ rfl⟩⟩,er.same (Same.refl H),W.isi,by show 2≤sizeLine;decide,fun T0 h0 => ?_⟩
    have s0:=(Same.refl H).new (o := .tup [.str (Str.ofString "thing"),.bl (decide (0=i))]) h0
    have t0:TW (upd H T0 (.tup [.str (Str.ofString "thing"),.bl (decide (0=i))])) [T0] [(Str.ofString "thing",decide (0=i))] := .cons q0b .nil
    generalize upd H T0 _=H0 at s0 t0
    refine⟨_,rfl,ea,Ce,_,⟨_,rfl,.inl ⟨c_NoDrawer,rfl,W.six 1 _ rfl⟩⟩,er.same s0,W.isi,by show 2≤sizeLine;decide,fun T1 h1 => ?_⟩
    have s1' := (Same.refl H0).new (o := .tup [.str (Str.ofString "drawer"),.bl (decide (1=i))]) h1
    have s1:=s0.trans s1'
    have t1:TW (upd H0 T1 (.tup [.str (Str.ofString "drawer"),.bl (decide (1=i))])) ([T0] ++ [T1]) ([(Str.ofString "thing",decide (0=i))] ++ [(Str.ofString "drawer",decide (1=i))]):=TW.app (t0.same s1') (.cons q0b .nil)
    generalize upd H0 T1 _=H1 at s1 s1' t1
    refine⟨by show 2≤sizeLine;decide,fun L1 hL1 => ?_⟩
    have sL' := (Same.refl H1).new (o := .lst [.ref T0,.ref T1]) hL1
    have sL:=s1.trans sL'
    have tL:=t1.same sL'
    have hLL:upd H1 L1 (.lst [.ref T0,.ref T1]) L1=some (.lst [.ref T0,.ref T1]):=q0b
    generalize upd H1 L1 _=H2 at sL tL hLL
    clear s0 s1 s1' sL' t0 t1
    refine⟨_,rfl,_,rfl,ea,Ce,_,⟨_,rfl,.inl ⟨c_Taken,rfl,W.six 2 _ rfl⟩⟩,er.same sL,W.isi,by show 2≤sizeLine;decide,fun T2 h2 => ?_⟩
    have s2' := (Same.refl H2).new (o := .tup [.str (Str.ofString "taken"),.bl (decide (2=i))]) h2
    have s2:=sL.trans s2'
    have t2:=TW.app (tL.same s2') (Us := [T2]) (qs := [(Str.ofString "taken",decide (2=i))]) (.cons q0b .nil)
    have hLL2:=s2' _ _ hLL
    generalize upd H2 T2 _=H3 at s2 s2' t2 hLL2
    refine⟨_,rfl,ea,Ce,_,⟨_,rfl,.inl ⟨c_Fixed,rfl,W.six 3 _ rfl⟩⟩,er.same s2,W.isi,by show 2≤sizeLine;decide,fun T3 h3 => ?_⟩
    have s3' := (Same.refl H3).new (o := .tup [.str (Str.ofString "fixed"),.bl (decide (3=i))]) h3
    have s3:=s2.trans s3'
    have t3:=TW.app (t2.same s3') (Us := [T3]) (qs := [(Str.ofString "fixed",decide (3=i))]) (.cons q0b .nil)
    have hLL3:=s3' _ _ hLL2
    generalize upd H3 T3 _=H4 at s3 s3' t3 hLL3
    refine⟨by show 2≤sizeLine;decide,fun L2 hL2 => ?_⟩
    have s4' := (Same.refl H4).new (o := .lst [.ref T2,.ref T3]) hL2
    have s4:=s3.trans s4'
    have t4:=t3.same s4'
    have hLL4:=s4' _ _ hLL3
    have hL24:upd H4 L2 (.lst [.ref T2,.ref T3]) L2=some (.lst [.ref T2,.ref T3]):=q0b
    generalize upd H4 L2 _=H5 at s4 t4 hLL4 hL24
    refine .inr (.inr ⟨L1,L2,_,_,rfl,rfl,hLL4,hL24,by show 4≤sizeLine;decide,fun L3 hL3 => ?_⟩)
    have s5' := (Same.refl H5).new (o := .lst ([.ref T0,.ref T1] ++ [.ref T2,.ref T3])) hL3
    have s5:=s4.trans s5'
    have t5:=t4.same s5'
    have hL35:upd H5 L3 (.lst ([.ref T0,.ref T1] ++ [.ref T2,.ref T3])) L3=some (.lst ([.ref T0,.ref T1] ++ [.ref T2,.ref T3])):=q0b
    generalize upd H5 L3 _=H6 at s5 t5 hL35
    clear s2 s2' s3 s3' s4 s4' s5' t2 t3 t4 hLL hLL2 hLL3 hLL4 hL24 tL sL
    refine⟨_,rfl,_,rfl,ea,Ce,_,⟨_,rfl,.inl ⟨c_NotEmpty,rfl,W.six 4 _ rfl⟩⟩,er.same s5,W.isi,by show 2≤sizeLine;decide,fun T4 h4 => ?_⟩
    have s6' := (Same.refl H6).new (o := .tup [.str (Str.ofString "filled"),.bl (decide (4=i))]) h4
    have s6:=s5.trans s6'
    have t6:=TW.app (t5.same s6') (Us := [T4]) (qs := [(Str.ofString "filled",decide (4=i))]) (.cons q0b .nil)
    have hL36:=s6' _ _ hL35
    generalize upd H6 T4 _=H7 at s6 s6' t6 hL36
    refine⟨_,rfl,ea,Ce,_,⟨_,rfl,.inl ⟨c_Full,rfl,W.six 5 _ rfl⟩⟩,er.same s6,W.isi,by show 2≤sizeLine;decide,fun T5 h5 => ?_⟩
    have s7' := (Same.refl H7).new (o := .tup [.str (Str.ofString "full"),.bl (decide (5=i))]) h5
    have s7:=s6.trans s7'
    have t7:=TW.app (t6.same s7') (Us := [T5]) (qs := [(Str.ofString "full",decide (5=i))]) (.cons q0b .nil)
    have hL37:=s7' _ _ hL36
    generalize upd H7 T5 _=H8 at s7 s7' t7 hL37
    refine⟨by show 2≤sizeLine;decide,fun L4 hL4 => ?_⟩
    have s8' := (Same.refl H8).new (o := .lst [.ref T4,.ref T5]) hL4
    have s8:=s7.trans s8'
    have t8:=t7.same s8'
    have hL38:=s8' _ _ hL37
    have hL48:upd H8 L4 (.lst [.ref T4,.ref T5]) L4=some (.lst [.ref T4,.ref T5]):=q0b
    generalize upd H8 L4 _=H9 at s8 t8 hL38 hL48
    refine .inr (.inr ⟨L3,L4,_,_,rfl,rfl,hL38,hL48,by show 6≤sizeLine;decide,fun L5 hL5 => ?_⟩)
    have s9' := (Same.refl H9).new (o := .lst ([.ref T0,.ref T1] ++ [.ref T2,.ref T3] ++ [.ref T4,.ref T5])) hL5
    have s9:=s8.trans s9'
    have t9:TW _ [T0,T1,T2,T3,T4,T5] (wB i):=t8.same s9'
    have hL59:upd H9 L5 (.lst ([.ref T0,.ref T1] ++ [.ref T2,.ref T3] ++ [.ref T4,.ref T5])) L5=some (.lst ([T0,T1,T2,T3,T4,T5].map V.ref)):=q0b
    generalize upd H9 L5 _=HA at s9 t9 hL59
    clear s5 s6 s6' s7 s7' s8 s8' s9' t5 t6 t7 t8 hL35 hL36 hL37 hL38 hL48
    refine⟨_,rfl,.inl ⟨L5,rfl,⟨_,SqL.of hL59⟩,fun Dl hDl => ?_⟩⟩
    have t9l:=t9.len
    refine q5y (xs := [T0,T1,T2,T3,T4,T5].map V.ref) (fun j ys H' => ys=yes ((wB i).take j)∧Same HA H' ∧ H' Dl=some (.lst ys)) ⟨rfl,(Same.refl HA).new hDl,q0b⟩ (fun j ys H' ⟨_,sm,hD⟩=>⟨hD,SqL.of (sm _ _ hL59)⟩) ?_ ?_
    · rintro j ys H' x hx ⟨rfl,sm,hHD⟩
      obtain⟨T1',p,rfl,hp,ht⟩:=t9.get hx
      refine⟨T1',_,rfl,SqT.of (sm _ _ ht),rfl,_,_,rfl,_,_,rfl,rfl,q4n,?_⟩
      have hyl:=x0i ((wB i).take j)
      have:((wB i).take j).length≤6:=by rw [List.length_take];exact Nat.min_le_right _ _
      refine⟨_,rfl,p.2,rfl,?_⟩
      refine iteB (fun h=>⟨_,rfl,hHD,TX.small' (by lia),?_,sm.put hDl,q0b⟩) (fun h=>⟨?_,sm,hHD⟩)
      · rw [z1l hp,if_pos h]
      · rw [z1l hp,if_neg (by rw [h];decide),List.append_nil]
    rintro ys HB ⟨rfl,sB,hDB⟩
    obtain⟨wd,hw,hy,hf⟩:=x0h hi
    have hfull:(wB i).take ([T0,T1,T2,T3,T4,T5].map V.ref).length=wB i:=rfl
    rw [hfull,hy] at hDB
    have sHB:=s9.trans sB
    refine⟨_,rfl,by show 10≤sizeLine;decide,fun U0 hU0 => ?_⟩
    have sU:=(Same.refl HB).new (o := .tup [.ref c_Broken,.ref c_Busy,.ref c_Meets,.ref c_NoBook,.ref c_NoDoer,.ref c_NoHall,.ref c_NoLine,.ref c_NoPattern,.ref c_NoPlace,.ref c_NoRule]) hU0
    refine⟨ea,Ce,false,⟨_,rfl,.inr (.inr ⟨U0,[c_Broken,c_Busy,c_Meets,c_NoBook,c_NoDoer,c_NoHall,c_NoLine,c_NoPattern,c_NoPlace,c_NoRule],rfl,SqT.of q0b,W.ds⟩)⟩,er.same (sHB.trans sU),W.isi,?_⟩
    have sHU:=sHB.trans sU
    have hDU:=sU _ _ hDB
    generalize upd HB U0 _=HC at sU sHU hDU
    refine⟨fun v' HD=>v' = .bl false∧Same HC HD,?_,?_⟩
    rotate_left
    · refine⟨_,rfl,false,rfl,iteF ⟨_,rfl,by show 7≤sizeLine;decide,fun U1 hU1 => ?_⟩⟩
      have sV:=(Same.refl HC).new (o := .tup [.ref c_NoRules,.ref c_NoSame,.ref c_NoTemplate,.ref c_NoText,.ref c_NoWish,.ref c_Strayed,.ref c_TooMuch]) hU1
      exact⟨ea,Ce,false,⟨_,rfl,.inr (.inr ⟨U1,[c_NoRules,c_NoSame,c_NoTemplate,c_NoText,c_NoWish,c_Strayed,c_TooMuch],rfl,SqT.of q0b,W.es⟩)⟩,er.same (sHU.trans sV),W.isi,rfl,sV⟩
    rintro v' HD ⟨rfl,sD⟩
    have sHD:=sHU.trans sD
    have hDD:=sD _ _ hDU
    refine⟨fun b HE=>b=false∧HE=HD,?_,?_⟩
    rotate_left
    · refine⟨_,rfl,false,rfl,iteF ⟨_,rfl,_,_,rfl,.inl ⟨_,SqL.of hDD,rfl⟩,.inl ⟨rfl,_,rfl,?_⟩⟩⟩
      refine iteF ⟨_,rfl,ea,Ce,true,⟨_,rfl,.inr (.inl ⟨_,rfl,W.val⟩)⟩,er.same sHD,W.isi,true,rfl,rfl,rfl⟩
    rintro b HE ⟨rfl,rfl⟩
    refine iteF ⟨_,rfl,.inl ⟨Dl,_,0,_,rfl,rfl,SqL.of hDD,rfl,.inl ⟨rfl,_,rfl,?_⟩⟩⟩
    rw [hf]
    rcases kk with ⟨v,h5,rf,k⟩ | ⟨h5,k⟩
    · rw [decide_eq_false (show ¬ i=5 by lia)]
      obtain⟨de,q1,q2⟩:=(rf.same sHD).ex
      refine iteF ⟨_,rfl,.inl ⟨Dl,_,0,_,rfl,rfl,SqL.of hDD,rfl,?_⟩⟩
      refine⟨_,rfl,ea,Ce,de,_,_,rfl,.inl q1,q2,W.get h5,rfl,by show 2≤sizeLine;decide,fun U2 hU2 => ?_⟩
      exact k U2 wd _ hw (sHD.new hU2) q0b
    · rw [decide_eq_true h5]
      exact iteT ⟨by show 2≤sizeLine;decide,fun U2 hU2=>k U2 _ (sHD.new hU2) q0b⟩
theorem q9r {C c0 c1 c2 c3 c4 c5:Addr} {i:Nat} (h0:PySem.W.kitOne K (.ref C) (.ref c0)=some (decide (0=i))) (h1:PySem.W.kitOne K (.ref C) (.ref c1)=some (decide (1=i))) (h2:PySem.W.kitOne K (.ref C) (.ref c2)=some (decide (2=i))) (h3:PySem.W.kitOne K (.ref C) (.ref c3)=some (decide (3=i))) (h4:PySem.W.kitOne K (.ref C) (.ref c4)=some (decide (4=i))) (h5:PySem.W.kitOne K (.ref C) (.ref c5)=some (decide (5=i))) :
    ∀ j D,[c0,c1,c2,c3,c4,c5][j]? = some D→PySem.W.kitOne K (.ref C) (.ref D)=some (decide (j=i))
  | 0,_,h=>by cases h;exact h0
  | 1,_,h=>by cases h;exact h1
  | 2,_,h=>by cases h;exact h2
  | 3,_,h=>by cases h;exact h3
  | 4,_,h=>by cases h;exact h4
  | 5,_,h=>by cases h;exact h5
end
end K
set_option maxHeartbeats 4000000
namespace K
open PySem L2 TX SB HM
section
variable {P:Program} {w:World} {K:PySem.W.Frag} {mg:Str→Option Value} {base:Heap}
theorem rfd_at {H:Hp} {ea C:Addr} {f:Str} {v:V} (r:Rfd H ea C f v) {K:PySem.W.Frag} {D:Addr} (s:SubX K (.ref C) D):∃ c dd,H ea=some (ExO c dd ea)∧SubX K c D:=by
  obtain⟨d,h1,_⟩:=r.ex
  exact⟨_,_,h1,s⟩
structure CallsTo (P:Program) (w:World) (K:PySem.W.Frag) (mg:Str→Option Value) (base:Heap) (c Cn Cd Ct Ce Cl Dn:Addr) (cs ds es:List Addr):Prop where
  m_put:MCalX P w K mg base c "put" 5 ["self", "path", "mark"] (spPutX c Cn Cd Ct Ce Cl)
  m_drop:MCalX P w K mg base c "drop" 5 ["self", "path"] (spDropX c Cn Cd Ct Ce)
  word:Cal P w K mg base "_law_word" 1 ["_law_error"] (spWord K cs ds es)
  g_HallError:mg "HallError" = some (.ref Dn)
  e_HallError:ECls K Dn bmV
  sub:SubX K (.ref Cn) Dn∧SubX K (.ref Cd) Dn∧SubX K (.ref Ct) Dn∧SubX K (.ref Ce) Dn∧SubX K (.ref Cl) Dn
  wd:Wd K Cn cs ds es 0∧Wd K Cd cs ds es 1∧Wd K Ct cs ds es 2∧Wd K Ce cs ds es 4∧Wd K Cl cs ds es 5
def Rfs (b bl:Bool) (rows:List Rw) (p:Pth) (i:Nat) (w:Pth):Prop:=(b=true∧PutR bl rows p i w)∨(b=false∧DrpR rows p i∧w=p)
theorem Rfs.at_ {b bl:Bool} {rows:List Rw} {p w:Pth} {i:Nat} (h:Rfs b bl rows p i w):i=0∨i=1∨i=2∨i=4:=by
  rcases h with ⟨_,h | h⟩ | ⟨_,h | h,_⟩ <;> lia
theorem Rfs.lt {b bl:Bool} {rows:List Rw} {p w:Pth} {i:Nat} (h:Rfs b bl rows p i w):i<5:=by have:=h.at_;lia
theorem CallsTo.at_ {c Cn Cd Ct Ce Cl Dn:Addr} {cs ds es:List Addr} (C:CallsTo P w K mg base c Cn Cd Ct Ce Cl Dn cs ds es) {i:Nat} (h:i=0∨i=1∨i=2∨i=4):SubX K (.ref (cAt Cn Cd Ct Ce i)) Dn∧Wd K (cAt Cn Cd Ct Ce i) cs ds es i:=by
  rcases h with rfl | rfl | rfl | rfl
  · exact⟨C.sub.1,C.wd.1⟩
  · exact⟨C.sub.2.1,C.wd.2.1⟩
  · exact⟨C.sub.2.2.1,C.wd.2.2.1⟩
  · exact⟨C.sub.2.2.2.1,C.wd.2.2.2.1⟩
def wS (b:Bool):Str:=if b then Str.ofString "put" else Str.ofString "drop"
def spTold (c:Addr):Sp:=fun vs H Q _=>∃ h d a bl rows p m b,vs = [.ref h,.str (wS b),.ref a,mV m]∧HallAt c H h d bl rows∧Hl bl rows∧rows.length≤60∧H a=some (.tup (vP p))∧okP p ∧
  (b=true→Frp bl rows p→rows.length<60→∀ H',(∀ x u,x≠d→H x=some u→H' x=some u)→HallAt c H' h d bl (rows ++ [(p,m)])→Q .non H') ∧
  (b=false→Drp rows p→∀ (j:Nat) m' H',rows[j]? = some (p,m')→(∀ x u,x≠d→H x=some u→H' x=some u)→HallAt c H' h d bl (rows.eraseIdx j)→Q .non H') ∧
  (∀ i w,Rfs b bl rows p i w→∀ T x wd H',Same H H' → w6[i]? = some wd→H' x=some (.tup (vP w))→H' T=some (.tup [.str wd,.ref x])→Q (.ref T) H') ∧
  (b=true→Frp bl rows p→¬ rows.length<60→∀ T H',Same H H' → H' T=some (.tup [.str (Str.ofString "full"),.non])→Q (.ref T) H')
abbrev q5a:Stmt:=top 45
theorem sc_told:FnScope ["_law_hall", "_law_word_here", "_law_path_here", "_law_mark", "_law_told_here", "_law_found", "e"] ["_law_hall", "_law_word_here", "_law_path_here", "_law_mark"] (defScope q5a):=⟨rfl,rfl,rfl,by decide +kernel,rfl,by decide +kernel,by decide +kernel⟩
theorem x0k {c Cn Cd Ct Ce Cl Dn:Addr} {cs ds es:List Addr} (D:Df K mg "_law_told" q5a ["_law_hall", "_law_word_here", "_law_path_here", "_law_mark"]) (T:Txt mg) (C:CallsTo P w K mg base c Cn Cd Ct Ce Cl Dn cs ds es):Cal P w K mg base "_law_told" 6 ["_law_hall", "_law_word_here", "_law_path_here", "_law_mark"] (spTold c):=by
  refine D.cal sc_told (fun vs H Q E h => ?_) (fun f cdv A outer s H vs Q E hr h => ?_)
  · obtain⟨h,d,a,bl,rows,p,m,b,rfl,_⟩:=h;rfl
  · obtain⟨h,d,a,bl,rows,p,m,b,rfl,hh,hl,h60,ha,okp,k1,k2,kE,kF⟩:=h
    have g_HallError:=C.g_HallError
    have e_HallError:=C.e_HallError
    refine⟨_,(@q0e _ _ _ _ _ (@q0m _ _ (4) _ _ _ _ sc_told.nd rfl (by first | exact Or.inl rfl | exact Or.inr rfl) q2v (by rfl) (by first | exact .inl rfl | exact .inr rfl | assumption)) (@q0e _ _ _ _ _ (@q0m _ _ (5) _ _ _ _ sc_told.nd rfl (by first | exact Or.inl rfl | exact Or.inr rfl) q2v (by rfl) (by first | exact .inl rfl | exact .inr rfl | assumption)) (@q0e _ _ _ _ _ (ps_try (i:=6) K rfl rfl rfl sc_told.nd rfl rfl rfl g_HallError e_HallError (fun _ _=>(@q0f _ _ _ (@q1b _ _ _ _ _ _ _ _ (q0j (eq_k K rfl hr) (pv 1) q1g (nomark _)) (@q0f _ _ _ (@q0m _ _ (5) _ _ _ _ sc_told.nd rfl (by first | exact Or.inl rfl | exact Or.inr rfl) (z2m C.m_put hr AccX.of (pv 0) (q0a (pv 2) (q0a (pv 3) q0d (by rfl)) (by rfl))) (by rfl) (by first | exact .inl rfl | exact .inr rfl | assumption))) (@q0f _ _ _ (@q0m _ _ (5) _ _ _ _ sc_told.nd rfl (by first | exact Or.inl rfl | exact Or.inr rfl) (z2m C.m_drop hr AccX.of (pv 0) (q0a (pv 2) q0d (by rfl))) (by rfl) (by first | exact .inl rfl | exact .inr rfl | assumption))))))
        (fun _=>(@q0f _ _ _ (@q0m _ _ (4) _ _ _ _ sc_told.nd rfl (by first | exact Or.inl rfl | exact Or.inr rfl) (pv 6) (by rfl) (by first | exact .inl rfl | exact .inr rfl | assumption))))) (@q0e _ _ _ _ _ (@q1b _ _ _ _ _ _ _ _ (@q2j _ _ _ _ _ _ (@q6t _ _ _ _ _ (pv 4)) (by first | exact nobehind _ (by decide) (by decide) | rfl)) (@q0f _ _ _ (@q0l _ _ _ _ (pv 5))) q0h) (@q0f _ _ _ (@q0l _ _ _ _ (pe_c C.word hr (q0a (pv 4) q0d (by rfl)) (by decide) (by rfl) (by decide) (by rfl) (by rfl)))))))),?_⟩
    obtain⟨dx,hi⟩:=hh.i
    refine⟨fun ea σ' H' => σ' = [some (.ref h),some (.str (wS b)),some (.ref a),some (mV m),some .non,some .non,none]∧Same H H' ∧ ((∃ i w x,Rfs b bl rows p i w∧H' x=some (.tup (vP w))∧Rfd H' ea (cAt Cn Cd Ct Ce i) "path" (.ref x))∨(b=true∧Frp bl rows p∧¬ rows.length<60∧H' ea=some (ExO (.ref Cl) none ea))),?_,?_⟩
    · rintro ea σ' H' ⟨rfl,sm,hc⟩
      rcases hc with ⟨i,w,x,ft,hx,rf⟩ | ⟨hb,fr,hn,hE⟩
      · obtain⟨sb,wd⟩:=C.at_ ft.at_
        refine⟨rfd_at rf sb,_,rfl,_,rfl,_,rfl,iteF ?_⟩
        refine⟨_,rfl,ea,_,i,rfl,rf.err,wd,by have:=ft.lt;lia,.inl ⟨.ref x,ft.lt,rf,fun T1 wd H2 hw s2 hT => ?_⟩⟩
        exact kE i w ft T1 x wd H2 (sm.trans s2) hw (s2 _ _ hx) hT
      · refine⟨⟨_,_,hE,C.sub.2.2.2.2⟩,_,rfl,_,rfl,_,rfl,iteF ?_⟩
        refine⟨_,rfl,ea,_,5,rfl,⟨none,.inl hE,.inl rfl⟩,C.wd.2.2.2.2,by decide,.inr ⟨rfl,fun T1 H2 s2 hT => ?_⟩⟩
        exact kF hb fr hn T1 H2 (sm.trans s2) hT
    · cases b with
      | true =>
        refine⟨_,rfl,.inl ⟨rfl,true,by show V.bl (decide (V.str (Str.ofString "put")=V.str (Str.ofString "put")))=_;rw [decide_eq_true rfl],iteT ?_⟩⟩
        refine⟨_,rfl,h,dx,_,rfl,hi,rfl,_,rfl,_,rfl,h,d,a,bl,rows,p,m,rfl,hh,hl,h60,ha,okp,fun fr hlt H' kp hh' => ?_,fun i w ft ea x H' sm hea hx rf ea' ez => ?_,fun fr hn ea H' sm hea hE ea' ez => ?_⟩
        · exact⟨_,rfl,_,rfl,iteT ⟨_,rfl,k1 rfl fr hlt H' kp hh'⟩⟩
        · cases ez
          exact⟨rfl,sm,.inl ⟨i,w,x,.inl ⟨rfl,ft⟩,hx,rf⟩⟩
        · cases ez
          exact⟨rfl,sm,.inr ⟨rfl,fr,hn,hE⟩⟩
      | false =>
        refine⟨_,rfl,.inl ⟨rfl,false,by show V.bl (decide (V.str (Str.ofString "drop")=V.str (Str.ofString "put")))=_;rw [decide_eq_false (by decide +kernel)],iteF ?_⟩⟩
        refine⟨_,rfl,h,dx,_,rfl,hi,rfl,_,rfl,h,d,a,bl,rows,p,rfl,hh,hl,h60,ha,okp,fun dr j m' H' hj kp hh' => ?_,fun i ft ea H' sm hea rf ea' ez => ?_⟩
        · exact⟨_,rfl,_,rfl,iteT ⟨_,rfl,k2 rfl dr j m' H' hj kp hh'⟩⟩
        · cases ez
          exact⟨rfl,sm,.inl ⟨i,p,a,.inr ⟨rfl,ft,rfl⟩,sm _ _ ha,rf⟩⟩
end
end K
set_option maxHeartbeats 4000000
namespace K
open PySem L2 TX SB HM
section
variable {P:Program} {w:World} {K:PySem.W.Frag} {mg:Str→Option Value} {base:Heap}
theorem q8g {p:Pth} (h:okP p) (bl:Bool):okP (fold bl p):=by
  cases bl with
  | false=>exact h
  | true =>
    rw [z0w]
    have e:=z0g h.ne
    have hl:p.dropLast.length<6:=by rw [List.length_dropLast];have:=h.few;have:=List.length_pos_iff.mpr h.ne;lia
    refine okP.snoc ?_ hl (q4u h).lo
    by_cases z:p.dropLast = []
    · exact .inl z
    · exact .inr ⟨z,by lia,fun n hn=>h.all n (List.dropLast_subset _ hn)⟩
structure CallsT (P:Program) (w:World) (K:PySem.W.Frag) (mg:Str→Option Value) (base:Heap):Prop where
  folded:Cal P w K mg base "_law_folded" 1 ["_law_path_here", "_law_blind"] spFolded
def spThereL:Sp:=fun vs H Q _=>∃ m p bl,∃ rows:List Rw,∃ place,vs = [.ref m,.bl bl,.ref p]∧H m=some (dR (rows.map rR))∧H p=some (.tup (vP place))∧okP place∧(∀ r∈rows,okP r.1) ∧
  ∀ H' v,Same H H' → (v = .non∧(∀ r∈rows,fold bl r.1≠fold bl place)∨∃ b r,v = .ref b∧r∈rows∧fold bl r.1=fold bl place∧H' b=some (.tup (vP r.1)))→Q v H'
abbrev q3k:Stmt:=top 39
theorem sc_there:FnScope ["_law_marks", "_law_blind", "_law_place", "_law_path_here"] ["_law_marks", "_law_blind", "_law_place"] (defScope q3k):=⟨rfl,rfl,rfl,by decide +kernel,rfl,by decide +kernel,by decide +kernel⟩
theorem z5t (D:Df K mg "_law_there" q3k ["_law_marks", "_law_blind", "_law_place"]) (T:Txt mg) (C:CallsT P w K mg base):Cal P w K mg base "_law_there" 2 ["_law_marks", "_law_blind", "_law_place"] spThereL:=by
  refine D.cal sc_there (fun vs H Q E h => ?_) (fun f cdv A outer s H vs Q E hr h => ?_)
  · obtain⟨m,p,bl,rows,place,rfl,_⟩:=h;rfl
  · obtain⟨m,p,bl,rows,place,rfl,hd,hp,ok,oks,k⟩:=h
    refine⟨_,(@q0e _ _ _ _ _ (@z4h _ _ _ H rfl (@q3w _ _ _ _ _ _ _ _ PassesOwn.never rfl (@z0u _ _ _ _ K rfl (pv 0)) (@q1e _ _ (3) _ sc_there.nd rfl (by first | exact Or.inl rfl | exact Or.inr rfl) (by first | exact .inl rfl | exact .inr rfl | assumption)) (@q0f _ _ _ (@q1b _ _ _ _ _ _ _ _ (q0j (eq_k K rfl hr) (pe_c C.folded hr (q0a (pv 3) (q0a (pv 1) q0d (by rfl)) (by rfl)) (by decide) (by rfl) (by decide) (by rfl) (by rfl)) (pe_c C.folded hr (q0a (pv 2) (q0a (pv 1) q0d (by rfl)) (by rfl)) (by decide) (by rfl) (by decide) (by rfl) (by rfl)) (nomark _)) (@q0f _ _ _ (@q0l _ _ _ _ (pv 3))) q0h)) (by intro _;rfl))) (@q0f _ _ _ (@q0l _ _ _ _ q2v))),?_⟩
    have hpd:p≠m:=fun z=>by rw [z,hd] at hp;cases hp
    refine⟨m,(fun o v e=>by rw [hd] at e;cases e),?_⟩
    refine⟨_,rfl,m,_,rfl,hd,fun ob => ?_⟩
    refine q8y (fun i σ' H' => (∃ x,σ' = [some (.ref m),some (.bl bl),some (.ref p),x])∧H' m=some (.frz ob (dR (rows.map rR)))∧(∀ a u,a≠m→H a=some u→H' a=some u)∧∀ r∈rows.take i,fold bl r.1≠fold bl place)
      ⟨⟨none,rfl⟩,q0b,fun a u n e=>by rw [q0c n];exact e,fun r hr=>by rw [List.take_zero] at hr;cases hr⟩ (fun i σ' H' x=>x.2.1) ?_ ?_
    · rintro i ky v b σ' H' hk' hb ⟨⟨x,rfl⟩,hfz,kp,hno⟩
      obtain⟨r,hr,rfl,rfl⟩:∃ r,rows[i]? = some r∧ky=kP r.1∧v=mV r.2:=by
        rw [List.getElem?_map,List.getElem?_map] at hk'
        cases e:rows[i]? with
        | none=>rw [e] at hk';cases hk'
        | some r=>rw [e] at hk';cases hk';exact⟨r,rfl,rfl,rfl⟩
      have hrm:=List.mem_of_getElem? hr
      rw [q3a] at hb
      refine⟨_,rfl,_,rfl,b,r.1,bl,rfl,hb,oks r hrm,fun f1 H2 s2 hf1 => ?_⟩
      refine⟨_,rfl,_,rfl,p,place,bl,rfl,s2 _ _ (kp _ _ hpd hp),ok,fun f2 H3 s3 hf2 => ?_⟩
      have s23:=s2.trans s3
      have kp2:∀ a u,a≠m→H a=some u→H3 a=some u:=fun a u n e=>s23 _ _ (kp a u n e)
      refine q4g (s3 _ _ hf1) hf2 (q8g (oks r hrm) bl).low (q8g ok bl).low ⟨_,rfl,?_⟩
      refine iteB (fun he => ?_) (fun he => ?_)
      · refine⟨_,rfl,ob,_,s23 _ _ hfz,k _ _ (q2n hd kp2) (.inr ⟨b,r,rfl,hrm,of_decide_eq_true he,?_⟩)⟩
        rw [q0c (fun z=>by rw [z,hfz] at hb;cases hb)];exact s23 _ _ hb
      · refine⟨⟨_,rfl⟩,s23 _ _ hfz,kp2,fun y hy => ?_⟩
        rw [List.take_add_one,hr] at hy
        rcases List.mem_append.mp hy with hy | hy
        · exact hno y hy
        · cases List.mem_singleton.mp hy;exact of_decide_eq_false he
    · rintro σ' H' ⟨⟨x,rfl⟩,hfz,kp,hno⟩
      refine⟨ob,_,hfz,k _ _ (q2n hd kp) (.inl ⟨rfl,fun r hr=>hno r ?_⟩)⟩
      rw [List.length_map,List.length_map,List.take_length];exact hr
structure CallsNe (P:Program) (w:World) (K:PySem.W.Frag) (mg:Str→Option Value) (base:Heap):Prop where
  draw:Cal P w K mg base "_law_draw" 1 ["_law_feed", "_law_many"] spDraw
  name:Cal P w K mg base "_law_name" 2 ["_law_feed"] spName
def spNear:Sp:=fun vs H Q _=>∃ a b p q,vs = [.ref a,.ref p]∧FeedAt H a b∧H p=some (.tup (vP q))∧okP q∧∀ e q' H',okP q' → Fd a b H H' → H' e=some (.tup (vP q'))→Q (.ref e) H'
theorem q9s {q:Pth}:cutV (vP q) none (some (-1))=vP q.dropLast:=by
  by_cases h:q = []
  · subst h;rfl
  · exact (q1x h).1
theorem x0l {q:Pth} (h:okP q) {i:Nat} (hi:i<q.length) {n:List Nat} (hn:okN n):okP (q.take i ++ [n]++q.drop (i+1)) where
  ne:=by simp
  few:=by
    have:=h.few
    rw [List.length_append,List.length_append,List.length_take,List.length_drop,List.length_singleton];lia
  all:=fun x hx=>by
    rcases List.mem_append.mp hx with hx | hx
    · rcases List.mem_append.mp hx with hx | hx
      · exact h.all x (List.mem_of_mem_take hx)
      · rw [List.mem_singleton.mp hx];exact hn
    · exact h.all x (List.mem_of_mem_drop hx)
theorem q6o {H:Hp} {a b p:Addr} {xs:List V} (F:FeedAt H a b) (hp:H p=some (.tup xs)):p≠a:=fun z=>by
  obtain⟨_,_,e⟩:=F.fa
  rw [z,e] at hp;cases hp
abbrev q5b:Stmt:=top 43
theorem sc_near:FnScope ["_law_feed", "_law_path_here", "_law_way", "_law_at"] ["_law_feed", "_law_path_here"] (defScope q5b):=⟨rfl,rfl,rfl,by decide +kernel,rfl,by decide +kernel,by decide +kernel⟩
theorem x0m (D:Df K mg "_law_near" q5b ["_law_feed", "_law_path_here"]) (T:Txt mg) (C:CallsNe P w K mg base):Cal P w K mg base "_law_near" 3 ["_law_feed", "_law_path_here"] spNear:=by
  refine D.cal sc_near (fun vs H Q E h => ?_) (fun f cdv A outer s H vs Q E hr h => ?_)
  · obtain⟨a,b,p,q,rfl,_⟩:=h;rfl
  · obtain⟨a,b,p,q,rfl,F,hp,ok,k⟩:=h
    refine⟨_,(@q0e _ _ _ _ _ (@q0m _ _ (2) _ _ _ _ sc_near.nd rfl (by first | exact Or.inl rfl | exact Or.inr rfl) (pe_c C.draw hr (q0a (pv 0) (q0a q0g q0d (by rfl)) (by rfl)) (by decide) (by rfl) (by decide) (by rfl) (by rfl)) (by rfl) (by first | exact .inl rfl | exact .inr rfl | assumption)) (@q0e _ _ _ _ _ (@q0m _ _ (3) _ _ _ _ sc_near.nd rfl (by first | exact Or.inl rfl | exact Or.inr rfl) (pe_c C.draw hr (q0a (pv 0) (q0a (q0i (q3x K rfl) (by rfl) T.b_len PySem.boot_len (q0a (pv 1) q0d (by rfl)) (by decide) (by decide) (by rfl) (by rfl)) q0d (by rfl)) (by rfl)) (by decide) (by rfl) (by decide) (by rfl) (by rfl)) (by rfl) (by first | exact .inl rfl | exact .inr rfl | assumption)) (@q0e _ _ _ _ _ (@q1b _ _ _ _ _ _ _ _ (q0j (eq_k K rfl hr) (pv 2) q0g (nomark _)) (@q0f _ _ _ (@q0l _ _ _ _ (q1f q2i (q1f q2i (q1a sl_P (pv 1) q1j (@q1k _ _ _ (pv 3))) (q0y (q0a (@z2b _ _ _ _ _ _ _ _ _ K rfl PySem.F.plainAttrs_str PySem.F.slot_str_upper PySem.F.type_str_upper z6v (q1t (ix_k K rfl) (pv 1) (pv 3) (fun _ _=>rfl)) (by rfl) (by rfl)) q0d (by rfl)))) (q1a sl_P (pv 1) (@q1k _ _ _ (q1f q1q (pv 3) q0g)) q1j)))) q0h) (@q0e _ _ _ _ _ (@q1b _ _ _ _ _ _ _ _ (q0j (eq_k K rfl hr) (pv 2) q0g (nomark _)) (@q0f _ _ _ (@q0l _ _ _ _ (q1f q2i (q1f q2i (q1a sl_P (pv 1) q1j (@q1k _ _ _ (pv 3))) (q0y (q0a (@z2b _ _ _ _ _ _ _ _ _ K rfl PySem.F.plainAttrs_str PySem.F.slot_str_lower PySem.F.type_str_lower q5m (q1t (ix_k K rfl) (pv 1) (pv 3) (fun _ _=>rfl)) (by rfl) (by rfl)) q0d (by rfl)))) (q1a sl_P (pv 1) (@q1k _ _ _ (q1f q1q (pv 3) q0g)) q1j)))) q0h) (@q0e _ _ _ _ _ (@q1b _ _ _ _ _ _ _ _ (q0j (eq_k K rfl hr) (pv 2) q0g (nomark _)) (@q0f _ _ _ (@q0l _ _ _ _ (q1f q2i (q1a sl_P (pv 1) q1j (@q1k _ _ _ (q2q q1u q0g))) (q0y (q0a (pe_c C.name hr (q0a (pv 0) q0d (by rfl)) (by decide) (by rfl) (by decide) (by rfl) (by rfl)) q0d (by rfl)))))) q0h) (@q0e _ _ _ _ _ (@q1b _ _ _ _ _ _ _ _ (@pt_j _ _ _ (@PW.pt _ _ _ (@q3v _ _ _ _ _ _ _ (q0j (eq_k K rfl hr) (pv 2) q0g (nomark _)) (@q2p _ _ _ _ (q0j z6k (q0i (q3x K rfl) (by rfl) T.b_len PySem.boot_len (q0a (pv 1) q0d (by rfl)) (by decide) (by decide) (by rfl) (by rfl)) q0g (nomark _)))))) (@q0f _ _ _ (@q0l _ _ _ _ (q1f q2i (pv 1) (q0y (q0a (pe_c C.name hr (q0a (pv 0) q0d (by rfl)) (by decide) (by rfl) (by decide) (by rfl) (by rfl)) q0d (by rfl)))))) q0h) (@q0e _ _ _ _ _ (@q1b _ _ _ _ _ _ _ _ (@pt_j _ _ _ (@PW.pt _ _ _ (@q3v _ _ _ _ _ _ _ (q0j (eq_k K rfl hr) (pv 2) q0g (nomark _)) (@q2p _ _ _ _ (q0j z6l (q0i (q3x K rfl) (by rfl) T.b_len PySem.boot_len (q0a (pv 1) q0d (by rfl)) (by decide) (by decide) (by rfl) (by rfl)) q0g (nomark _)))))) (@q0f _ _ _ (@q0l _ _ _ _ (q1a sl_P (pv 1) q1j (@q1k _ _ _ (q2q q1u q0g))))) q0h) (@q0f _ _ _ (@q0l _ _ _ _ (pv 1)))))))))),?_⟩
    have hpa:=q6o F hp
    have hq0:=List.length_pos_iff.mpr ok.ne
    have hq6:=ok.few
    have hvl:=q1r q
    refine⟨_,rfl,a,b,6,rfl,F,by decide,by decide,fun wy H1 _ _ fd1 => ?_⟩
    have hp1:=fd1.at hp hpa
    refine⟨_,rfl,_,rfl,_,_,rfl,.inr ⟨_,SqT.of hp1,rfl⟩,a,b,_,rfl,fd1.feed,by rw [hvl];lia,by rw [hvl];lia,fun at_ H2 p0 p1 fd2 => ?_⟩
    rw [hvl] at p1
    have hp2:=fd2.at hp1 hpa
    have fd:=fd1.trans fd2
    obtain⟨i,rfl⟩:∃ i:Nat,at_=(i:Int):=⟨at_.toNat,by lia⟩
    have hi:i<q.length:=by lia
    have hqi:q[i]? = some q[i]:=List.getElem?_eq_getElem hi
    have okn:=ok.all _ (List.mem_of_getElem? hqi)
    have hix:atI (vP q) ((i:Nat):Int)=some (.str (mk q[i])):=z9e (by show (q.map _)[i]? = _;rw [List.getElem?_map,hqi];rfl)
    have fin:∀ {H3:Hp} {t:Addr} (n:List Nat),okN n→Fd a b H H3→H3 t=some (.tup (vP (q.take i)))→H3 p=some (.tup (vP q))→∀ u,H3 u=none→∀ v H4,Same (upd H3 u (.tup [.str (mk n)])) H4→H4 v=some (.tup (vP (q.take i) ++ [.str (mk n)])) →
        ∀ v2 H5,Same H4 H5→H5 v2=some (.tup (vP (q.drop (i+1))))→∀ v3 H6,Same H5 H6→H6 v3=some (.tup ((vP (q.take i) ++ [.str (mk n)])++vP (q.drop (i+1))))→Q (.ref v3) H6:=by
      intro H3 t n hn fd3 ht hp3 u hu v H4 s4 hv v2 H5 s5 hv2 v3 H6 s6 hv3
      refine k v3 (q.take i ++ [n]++q.drop (i+1)) H6 (x0l ok hi hn) ((((fd3.new hu).same s4).same s5).same s6) ?_
      rw [hv3,q7i,q7i];rfl
    have e1:((i:Nat):Int)+1=((i+1:Nat):Int):=by lia
    refine⟨_,rfl,.inl ⟨rfl,_,rfl,?_⟩⟩
    refine ite2 (fun h => ?_) (fun h => ?_)
    · refine⟨_,rfl,_,rfl,_,rfl,p,_,rfl,hp2,fun t H3 s3 ht => ?_⟩
      rw [z5r] at ht
      refine⟨_,rfl,_,rfl,.inr (.inl ⟨p,_,_,_,rfl,rfl,SqT.of (s3 _ _ hp2),hix,rfl,_,rfl,rfl,small (by rw [q6b];have:=okn.few;lia),by show 1≤sizeLine;decide,fun u hu => ?_⟩)⟩
      rw [z7m okn.low]
      have sb:=(Same.refl H3).new (o := .tup [.str (mk (uppN q[i]))]) hu
      refine⟨t,u,_,_,rfl,rfl,sb _ _ ht,q0b,by rw [q1r,List.length_take];exact small (by show _+1≤_;lia),fun v H4 s4 hv _ => ?_⟩
      refine⟨_,rfl,_,rfl,.inl ⟨_,_,rfl,rfl,_,rfl,p,_,rfl,s4 _ _ (sb _ _ (s3 _ _ hp2)),fun v2 H5 s5 hv2 => ?_⟩⟩
      rw [e1,z1j] at hv2
      refine⟨v,v2,_,_,rfl,rfl,s5 _ _ hv,hv2,by rw [List.length_append,q1r,q1r,List.length_take,List.length_drop];exact small (by show _+1+_≤_;lia),fun v3 H6 s6 hv3 _ => ?_⟩
      exact fin _ okn.up (fd.same s3) ht (s3 _ _ hp2) u hu v H4 s4 hv v2 H5 s5 hv2 v3 H6 s6 hv3
    refine⟨_,rfl,.inl ⟨rfl,_,rfl,?_⟩⟩
    refine ite2 (fun h => ?_) (fun h => ?_)
    · refine⟨_,rfl,_,rfl,_,rfl,p,_,rfl,hp2,fun t H3 s3 ht => ?_⟩
      rw [z5r] at ht
      refine⟨_,rfl,_,rfl,.inr (.inl ⟨p,_,_,_,rfl,rfl,SqT.of (s3 _ _ hp2),hix,rfl,_,rfl,rfl,small (by rw [q6b];have:=okn.few;lia),by show 1≤sizeLine;decide,fun u hu => ?_⟩)⟩
      rw [z1f okn.low]
      have sb:=(Same.refl H3).new (o := .tup [.str (mk (lowN q[i]))]) hu
      refine⟨t,u,_,_,rfl,rfl,sb _ _ ht,q0b,by rw [q1r,List.length_take];exact small (by show _+1≤_;lia),fun v H4 s4 hv _ => ?_⟩
      refine⟨_,rfl,_,rfl,.inl ⟨_,_,rfl,rfl,_,rfl,p,_,rfl,s4 _ _ (sb _ _ (s3 _ _ hp2)),fun v2 H5 s5 hv2 => ?_⟩⟩
      rw [e1,z1j] at hv2
      refine⟨v,v2,_,_,rfl,rfl,s5 _ _ hv,hv2,by rw [List.length_append,q1r,q1r,List.length_take,List.length_drop];exact small (by show _+1+_≤_;lia),fun v3 H6 s6 hv3 _ => ?_⟩
      exact fin _ okn.lo (fd.same s3) ht (s3 _ _ hp2) u hu v H4 s4 hv v2 H5 s5 hv2 v3 H6 s6 hv3
    have hdl:q.dropLast.length<6:=by rw [List.length_dropLast];lia
    have hdo:q.dropLast = []∨okP q.dropLast:=by
      by_cases z:q.dropLast = []
      · exact .inl z
      · exact .inr ⟨z,by lia,fun n hn=>ok.all n (List.dropLast_subset _ hn)⟩
    refine⟨_,rfl,.inl ⟨rfl,_,rfl,?_⟩⟩
    refine ite2 (fun h => ?_) (fun h => ?_)
    · refine⟨_,rfl,_,rfl,_,rfl,p,_,rfl,hp2,fun t H3 s3 ht => ?_⟩
      rw [q9s] at ht
      refine⟨_,rfl,a,b,rfl,(fd.same s3).feed,fun n H4 okn4 fd4 => ?_⟩
      have fd3:=(fd.same s3).trans fd4
      have ht4:=fd4.at ht (q6o (fd.same s3).feed ht)
      refine⟨by show 1≤sizeLine;decide,fun u hu => ?_⟩
      have sb:=(Same.refl H4).new (o := .tup [.str (mk n)]) hu
      refine⟨t,u,_,_,rfl,rfl,sb _ _ ht4,q0b,by rw [q1r];exact small (by show _+1≤_;lia),fun v H5 s5 hv _ => ?_⟩
      refine k v (q.dropLast ++ [n]) H5 (okP.snoc hdo hdl okn4) ((fd3.new hu).same s5) ?_
      rw [hv,q7i];rfl
    refine⟨fun bb H' => H' = H2∧(bb=true→q.length<6),?_,?_⟩
    rotate_left
    · refine⟨_,rfl,.inl ⟨rfl,_,rfl,?_⟩⟩
      refine iteB (fun h => ?_) (fun h=>⟨rfl,fun z=>(by cases z)⟩)
      refine⟨_,rfl,_,_,rfl,.inr ⟨_,SqT.of hp2,rfl⟩,_,_,rfl,rfl,_,rfl,rfl,fun z => ?_⟩
      have:=of_decide_eq_true z
      rw [hvl] at this
      lia
    rintro bb H' ⟨rfl,hb⟩
    refine ite2 (fun h => ?_) (fun h => ?_)
    · have hlt:=hb h
      refine⟨_,rfl,_,rfl,a,b,rfl,fd.feed,fun n H4 okn4 fd4 => ?_⟩
      have hp4:=fd4.at hp2 hpa
      refine⟨by show 1≤sizeLine;decide,fun u hu => ?_⟩
      have sb:=(Same.refl H4).new (o := .tup [.str (mk n)]) hu
      refine⟨p,u,_,_,rfl,rfl,sb _ _ hp4,q0b,by rw [q1r];exact small (by show _+1≤_;lia),fun v H5 s5 hv _ => ?_⟩
      refine k v (q ++ [n]) H5 (okP.snoc (.inr ok) hlt okn4) (((fd.trans fd4).new hu).same s5) ?_
      rw [hv,q7i];rfl
    refine⟨fun bb H3=>H3=H' ∧ (bb=true→1<q.length),?_,?_⟩
    rotate_left
    · refine⟨_,rfl,.inl ⟨rfl,_,rfl,?_⟩⟩
      refine iteB (fun h => ?_) (fun h=>⟨rfl,fun z=>(by cases z)⟩)
      refine⟨_,rfl,_,_,rfl,.inr ⟨_,SqT.of hp2,rfl⟩,_,_,rfl,rfl,_,rfl,rfl,fun z => ?_⟩
      have:=of_decide_eq_true z
      rw [hvl] at this
      lia
    rintro bb H3 ⟨rfl,hb2⟩
    refine ite2 (fun h => ?_) (fun h => ?_)
    · have hgt:=hb2 h
      refine⟨_,rfl,_,rfl,_,rfl,p,_,rfl,hp2,fun t H4 s4 ht => ?_⟩
      rw [q9s] at ht
      refine k t q.dropLast H4 (hdo.resolve_left fun z => ?_) (fd.same s4) ht
      have:=congrArg List.length z
      rw [List.length_dropLast] at this
      simp at this
      lia
    exact⟨_,rfl,k p q H3 ok fd hp2⟩
end
end K
set_option maxHeartbeats 4000000
namespace K
open PySem L2 TX SB HM
section
variable {P:Program} {w:World} {K:PySem.W.Frag} {mg:Str→Option Value} {base:Heap}
structure CallsPD (P:Program) (w:World) (K:PySem.W.Frag) (mg:Str→Option Value) (base:Heap):Prop where
  there:Cal P w K mg base "_law_there" 2 ["_law_marks", "_law_blind", "_law_place"] spThereL
def spPDue:Sp:=fun vs H Q _=>∃ m bl a,∃ rows:List Rw,∃ p,vs = [.ref m,.bl bl,.ref a]∧H m=some (dR (rows.map rR))∧Hl bl rows∧rows.length≤60∧H a=some (.tup (vP p))∧okP p ∧
  (Frp bl rows p→rows.length<60→∀ H',Same H H' → Q .non H')∧(∀ i w,PutR bl rows p i w→∀ T x wd H',Same H H' → w6[i]? = some wd→H' x=some (.tup (vP w))→H' T=some (.tup [.str wd,.ref x])→Q (.ref T) H') ∧
  (Frp bl rows p→¬ rows.length<60→∀ T H',Same H H' → H' T=some (.tup [.str (Str.ofString "full"),.non])→Q (.ref T) H')
abbrev q2a:Stmt:=top 40
theorem sc_put_due:FnScope ["_law_marks", "_law_blind", "_law_path_here", "_law_there_here"] ["_law_marks", "_law_blind", "_law_path_here"] (defScope q2a):=⟨rfl,rfl,rfl,by decide +kernel,rfl,by decide +kernel,by decide +kernel⟩
theorem z2o (D:Df K mg "_law_put_due" q2a ["_law_marks", "_law_blind", "_law_path_here"]) (T:Txt mg) (C:CallsPD P w K mg base):Cal P w K mg base "_law_put_due" 3 ["_law_marks", "_law_blind", "_law_path_here"] spPDue:=by
  refine D.cal sc_put_due (fun vs H Q E h => ?_) (fun f cdv A outer s H vs Q E hr h => ?_)
  · obtain⟨m,bl,a,rows,p,rfl,_⟩:=h;rfl
  · obtain⟨m,bl,a,rows,p,rfl,hm,hl,h60,ha,okp,k,kE,kF⟩:=h
    refine⟨_,(@q0e _ _ _ _ _ (@q1b _ _ _ _ _ _ _ _ (@pt_j _ _ _ (@PW.pt _ _ _ (@q3v _ _ _ _ _ _ _ (q0j (ne_k K rfl hr) (q1a (sl_k K rfl) (pv 2) q1j (@q1k _ _ _ (q2q q1u q0g))) (q0y q0d) (nomark _)) (@q2p _ _ _ _ (@q2j _ _ _ _ _ _ (@q7m _ _ _ _ _ (z7b (q3q hr) (pv 0) (q1a (sl_k K rfl) (pv 2) q1j (@q1k _ _ _ (q2q q1u q0g))) q0g ⟨rfl,rfl,rfl,rfl⟩)) (by first | exact nobehind _ (by decide) (by decide) | rfl)))))) (@q0f _ _ _ (@q0l _ _ _ _ (q0y (q0a q1g (q0a (q1a (sl_k K rfl) (pv 2) q1j (@q1k _ _ _ (q2q q1u q0g))) q0d (by rfl)) (by rfl))))) q0h) (@q0e _ _ _ _ _ (@q0m _ _ (3) _ _ _ _ sc_put_due.nd rfl (by first | exact Or.inl rfl | exact Or.inr rfl) (pe_c C.there hr (q0a (pv 0) (q0a (pv 1) (q0a (pv 2) q0d (by rfl)) (by rfl)) (by rfl)) (by decide) (by rfl) (by decide) (by rfl) (by rfl)) (by rfl) (by first | exact .inl rfl | exact .inr rfl | assumption)) (@q0e _ _ _ _ _ (@q1b _ _ _ _ _ _ _ _ (@q2j _ _ _ _ _ _ (@q7m _ _ _ _ _ (pv 3)) (by first | exact nobehind _ (by decide) (by decide) | rfl)) (@q0f _ _ _ (@q0l _ _ _ _ (q0y (q0a q1g (q0a (pv 3) q0d (by rfl)) (by rfl))))) q0h) (@q0e _ _ _ _ _ (@q1b _ _ _ _ _ _ _ _ (q0j (eq_k K rfl hr) (q0i q9m (by rfl) T.b_len PySem.boot_len (q0a (pv 0) q0d (by rfl)) (by decide) (by decide) (by rfl) (by rfl)) q0g (nomark _)) (@q0f _ _ _ (@q0l _ _ _ _ (q0y (q0a q1g (q0a q2v q0d (by rfl)) (by rfl))))) q0h) (@q0f _ _ _ (@q0l _ _ _ _ q2v)))))),?_⟩
    obtain⟨c1,c2⟩:=q1x okp.ne
    refine⟨fun bb H1=>Same H H1∧(bb=true↔¬ IsD rows p.dropLast),?_,?_⟩
    rotate_left
    · refine⟨_,rfl,_,rfl,_,rfl,.inr (.inr ⟨a,_,rfl,SqT.of ha,c2,fun t1 ht1 => ?_⟩)⟩
      rw [c1]
      have s0:=(Same.refl H).new (o := .tup (vP p.dropLast)) ht1
      have ht1' : upd H t1 (.tup (vP p.dropLast)) t1=some (.tup (vP p.dropLast)):=q0b
      generalize upd H t1 (.tup (vP p.dropLast))=H1 at s0 ht1'
      refine⟨by show 0≤sizeLine;decide,fun e0 he0 => ?_⟩
      have s1:=(Same.refl H1).new (o := .tup []) he0
      refine q7y (q := []) (s1 _ _ ht1') q0b (q2s okp.low) (fun _ h=>nomatch h) ⟨_,rfl,?_⟩
      have s01:=s0.trans s1
      generalize upd H1 e0 (.tup [])=H2 at s1 s01
      refine iteB (fun hne => ?_) (fun hne => ?_)
      · have hne' : p.dropLast ≠ []:=by simpa using hne
        refine⟨_,rfl,m,rfl,.inr ⟨_,.inl (s01 _ _ hm)⟩,_,rfl,_,rfl,_,rfl,.inr (.inr ⟨a,_,rfl,SqT.of (s01 _ _ ha),c2,fun t2 ht2 => ?_⟩)⟩
        rw [c1]
        have s2:=s01.new (o := .tup (vP p.dropLast)) ht2
        refine⟨_,q9g (s2 _ _ hm) q0b,_,rfl,s2,?_⟩
        cases hv2:valV ((rows.map rR).map fun r=>(kP r.1,r.2)) (kP p.dropLast) with
        | none =>
          refine⟨fun _ z => ?_,fun _=>rfl⟩
          have:=q5o hl.paths (z.resolve_left hne')
          rw [this] at hv2;cases hv2
        | some v =>
          obtain⟨m2,rfl,hm2⟩:=q2g hv2
          show (!decide (mV m2=V.non))=true↔_
          cases m2 with
          | none=>exact⟨(fun z=>by cases z),fun z=>absurd (.inr hm2) z⟩
          | some i =>
            refine⟨fun _ z => ?_,fun _=>rfl⟩
            have:=hl.one hm2 (z.resolve_left hne')
            cases this
      · have hq:p.dropLast = []:=by simpa using hne
        exact⟨s01,⟨(fun z=>by cases z),fun z=>absurd (.inl hq) z⟩⟩
    rintro bb H1 ⟨s1,hbb⟩
    refine ite2 (fun hb1 => ?_) (fun hb1 => ?_)
    · refine⟨_,rfl,_,rfl,_,rfl,.inr (.inr ⟨a,_,rfl,SqT.of (s1 _ _ ha),c2,fun t1 ht1 => ?_⟩)⟩
      rw [c1]
      have s2:=s1.new (o := .tup (vP p.dropLast)) ht1
      have ht1' : upd H1 t1 (.tup (vP p.dropLast)) t1=some (.tup (vP p.dropLast)):=q0b
      generalize upd H1 t1 (.tup (vP p.dropLast))=H2 at s2 ht1'
      refine⟨by show 2≤sizeLine;decide,fun T1 hT1 => ?_⟩
      have s3:=(Same.refl H2).new (o := .tup [.str (Str.ofString "drawer"),.ref t1]) hT1
      exact kE 1 p.dropLast (.inl ⟨rfl,rfl,hbb.mp hb1⟩) T1 t1 _ _ (s2.trans s3) rfl (s3 _ _ ht1') q0b
    have hD:IsD rows p.dropLast:=Classical.byContradiction fun z=>hb1 (hbb.mpr z)
    refine⟨_,rfl,_,rfl,_,rfl,m,a,bl,rows,p,rfl,s1 _ _ hm,s1 _ _ ha,okp,hl.ok,fun H3 ov s3 hov => ?_⟩
    have s23:=s1.trans s3
    refine⟨_,rfl,_,rfl,?_⟩
    rcases hov with ⟨rfl,no⟩ | ⟨e,r,rfl,hr,hf,he⟩
    rotate_left
    · refine iteT ⟨_,rfl,by show 2≤sizeLine;decide,fun T1 hT1 => ?_⟩
      have s4:=(Same.refl H3).new (o := .tup [.str (Str.ofString "taken"),.ref e]) hT1
      exact kE 2 r.1 (.inr ⟨rfl,hD,⟨r.2,hr⟩,hf⟩) T1 e _ _ (s23.trans s4) rfl (s4 _ _ he) q0b
    refine iteF ⟨_,rfl,m,_,rfl,s23 _ _ hm,.inl ⟨rfl,_,rfl,?_⟩⟩
    rw [List.length_map,List.length_map]
    refine iteB (fun e => ?_) (fun e => ?_)
    · have e1:(rows.length:Int)=60:=V.int.inj (of_decide_eq_true e)
      refine⟨by show 2≤sizeLine;decide,fun T1 hT1 => ?_⟩
      exact kF ⟨hD,no⟩ (by lia) T1 _ (s23.new hT1) q0b
    · have e1:¬ rows.length=60:=fun z=>of_decide_eq_false e (by rw [z];rfl)
      exact k ⟨hD,no⟩ (by lia) _ s23
theorem z5u {K:PySem.W.Frag} {tt:TT} {te:TE} {m D:Addr} {ob:Obj} {rows:List Rw} {p:Pth} {r:St} {H1 H2:Hp} {Fin:List V→Hp→Prop} (hm:H1 m=some (dR (rows.map rR))) (h2:H2=upd H1 m (.frz ob (dR (rows.map rR)))) (hD:H2 D=none) (few:rows.length≤1000)
    (ht:∀ (b:Addr) (x:Rw) (H:Hp) (Q:Bool→Hp→Prop),x∈rows→H b=some (.tup (vP x.1))→H m=some (.frz ob (dR (rows.map rR)))→(∀ a u,a≠m→H1 a=some u→H a=some u)→(∀ H',Same H H' → Q (decide (x.1.dropLast=p)) H')→tt (some (.ref b)::r) H Q)
    (he:∀ (b:Addr) (x:Rw) (H:Hp) (Q:VK),x∈rows→H b=some (.tup (vP x.1))→Q (.ref b) H→te (some (.ref b)::r) H Q)
    (k:∀ (ys:List V) (H' : Hp),ys.length=(nms p rows).length→H' D=some (.lst ys)→H' m=some (.frz ob (dR (rows.map rR)))→(∀ a u,a≠m→H1 a=some u→H' a=some u)→Fin ys H') :
    CompW (Itk m ob ((rows.map rR).map fun r=>(kP r.1,r.2))) (gName 0) tt te (none::r) D Fin H2:=by
  subst h2
  have hDm:D≠m:=fun z=>by rw [z,q0b] at hD;cases hD
  have hD1:H1 D=none:=by rw [q0c hDm] at hD;exact hD
  have hlen:((rows.map rR).map fun r=>(kP r.1,r.2)).length=rows.length:=by rw [List.length_map,List.length_map]
  refine q7t (n:=rows.length) (fun i ys H' => ys.length=(nms p (rows.take i)).length∧H' D=some (.lst ys)∧H' m=some (.frz ob (dR (rows.map rR)))∧(∀ a u,a≠m→H1 a=some u→H' a=some u))
    ⟨rfl,q0b,by rw [q0c hDm.symm];exact q0b,fun a u n e=>by rw [q0c (fun z=>by rw [z,hD1] at e;cases e),q0c n];exact e⟩
    (fun i ys H' x=>x.2.1) (fun i ys H' hi x=>⟨x.2.2.1,by rw [hlen];exact hi⟩) (fun ys H' x=>⟨x.2.2.1,by rw [hlen];exact Nat.le_refl _⟩) ?_ ?_
  · rintro i ys H' x H6 hi ⟨hyl,hHD,hfz,kp⟩ ⟨rfl,ky,v,b,hk',hb,rfl⟩
    obtain⟨x,hx,rfl,rfl⟩:∃ x,rows[i]? = some x∧ky=kP x.1∧v=mV x.2:=by
      rw [List.getElem?_map,List.getElem?_map] at hk'
      cases e:rows[i]? with
      | none=>rw [e] at hk';cases hk'
      | some r=>rw [e] at hk';cases hk';exact⟨r,rfl,rfl,rfl⟩
    rw [q3a] at hb
    have hxm:=List.mem_of_getElem? hx
    have e1:rows.take (i+1)=rows.take i ++ [x]:=by rw [List.take_add_one,hx];rfl
    have hnl:(nms p (rows.take i)).length≤1000:=by
      unfold nms
      rw [List.length_map]
      refine Nat.le_trans (List.length_filter_le _ _) ?_
      rw [List.length_take];lia
    refine⟨q3e,ht b x _ _ hxm hb hfz kp fun H7 s7 => ?_⟩
    have kp7:∀ a u,a≠m→H1 a=some u→H7 a=some u:=fun a u n e=>s7 _ _ (kp a u n e)
    refine iteB (fun hc => ?_) (fun hc => ?_)
    · refine he b x _ _ hxm (s7 _ _ hb) ⟨s7 _ _ hHD,small' (by lia),?_,q0b,by rw [q0c hDm.symm];exact s7 _ _ hfz,fun a u n e=>by rw [q0c (fun z=>by rw [z,hD1] at e;cases e)];exact kp7 a u n e⟩
      rw [List.length_append,hyl]
      unfold nms
      rw [e1,List.filter_append,List.filter_cons_of_pos (by simpa using hc)]
      simp
    · refine⟨?_,s7 _ _ hHD,s7 _ _ hfz,kp7⟩
      rw [hyl]
      unfold nms
      rw [e1,List.filter_append,List.filter_cons_of_neg (by simpa using hc)]
      simp
  · rintro ys H' ⟨hyl,hHD,hfz,kp⟩
    rw [List.take_length] at hyl
    exact k ys H' hyl hHD hfz kp
def DueD (rows:List Rw) (p:Pth) (a:Addr) (v:V) (H:Hp):Prop:=(v = .non∧Drp rows p)∨∃ T i wd,v = .ref T∧DrpR rows p i∧w6[i]? = some wd∧H T=some (.tup [.str wd,.ref a])
def spDDue:Sp:=fun vs H Q _=>∃ m a,∃ rows:List Rw,∃ p,vs = [.ref m,.ref a]∧H m=some (dR (rows.map rR))∧(rows.map (·.1)).Nodup∧(∀ r∈rows,okP r.1)∧rows.length≤60∧H a=some (.tup (vP p))∧okP p ∧
  ∀ v H',Same H H' → DueD rows p a v H' → Q v H'
abbrev q1v:Stmt:=top 41
theorem z0j:FnScope ["_law_marks", "_law_path_here"] ["_law_marks", "_law_path_here"] (defScope q1v):=⟨rfl,rfl,rfl,by decide +kernel,rfl,by decide +kernel,by decide +kernel⟩
theorem z0k (D:Df K mg "_law_drop_due" q1v ["_law_marks", "_law_path_here"]) (T:Txt mg):Cal P w K mg base "_law_drop_due" 1 ["_law_marks", "_law_path_here"] spDDue:=by
  refine D.cal z0j (fun vs H Q E h => ?_) (fun f cdv A outer s H vs Q E hr h => ?_)
  · obtain⟨m,a,rows,p,rfl,_⟩:=h;rfl
  · obtain⟨m,a,rows,p,rfl,hm,nd,oks,h60,ha,okp,kk⟩:=h
    have k:Drp rows p→∀ H',Same H H' → Q .non H' := fun dr H' s=>kk _ H' s (.inl ⟨rfl,dr⟩)
    have kE:∀ i,DrpR rows p i→∀ T wd H',Same H H' → w6[i]? = some wd→H' T=some (.tup [.str wd,.ref a])→Q (.ref T) H' := fun i ft T wd H' s hw hT=>kk _ H' s (.inr ⟨T,i,wd,rfl,ft,hw,hT⟩)
    refine⟨_,(@q0e _ _ _ _ _ (@q1b _ _ _ _ _ _ _ _ (@q2j _ _ _ _ _ _ (@q4b _ _ _ _ _ (q3q hr) (pv 1) (pv 0)) (by first | exact nobehind _ (by decide) (by decide) | rfl)) (@q0f _ _ _ (@q0l _ _ _ _ (q0y (q0a q1g (q0a (pv 1) q0d (by rfl)) (by rfl))))) q0h) (@q0e _ _ _ _ _ (@q1b _ _ _ _ _ _ _ _ (q0j z6l (q0i (q3x K rfl) (by rfl) T.b_len PySem.boot_len (q0a (@z4y _ _ _ H rfl (@q5l _ _ _ _ _ _ _ _ _ _ _ ["_law_other"] [("_law_path_here",1)] rfl (@z0u _ _ _ _ K rfl (pv 0)) (fun _ _ _ _ _=>(@q1e _ _ (0) _ (show (["_law_other", "_law_path_here"]:List Str).Nodup by decide +kernel) rfl (by first | exact Or.inl rfl | exact Or.inr rfl) (by first | exact .inl rfl | exact .inr rfl | assumption))) (fun _ _ _ _ _=>(@q7s _ _ _ (q0j (eq_k K rfl hr) (q1a (sl_k K rfl) (pv 0) q1j (@q1k _ _ _ (q2q q1u q0g))) (pv 1) (nomark _)))) (fun _ _ _ _ _=>(pv 0)) (by rfl) (by intro _;rfl))) q0d (by rfl)) (by decide) (by decide) (by rfl) (by rfl)) q0g (nomark _)) (@q0f _ _ _ (@q0l _ _ _ _ (q0y (q0a q1g (q0a (pv 1) q0d (by rfl)) (by rfl))))) q0h) (@q0f _ _ _ (@q0l _ _ _ _ q2v)))),?_⟩
    have ham:a≠m:=fun z=>by rw [z,hm] at ha;cases ha
    refine⟨_,rfl,_,rfl,m,_,rfl,q9g hm ha,_,rfl,?_⟩
    cases hv:valV ((rows.map rR).map fun r=>(kP r.1,r.2)) (kP p) with
    | none =>
      refine iteT ⟨_,rfl,by show 2≤sizeLine;decide,fun T1 hT1 => ?_⟩
      have s1:=(Same.refl H).new (o := .tup [.str (Str.ofString "thing"),.ref a]) hT1
      refine kE 0 (.inl ⟨rfl,fun mm hmm => ?_⟩) T1 _ _ s1 rfl q0b
      rw [q5o nd hmm] at hv;cases hv
    | some v =>
    obtain⟨mm,rfl,hp⟩:=q2g hv
    refine iteF ?_
    refine⟨m,(fun o v e=>by rw [hm] at e;cases e),_,rfl,m,_,rfl,hm,fun ob D0 hD0 => ?_⟩
    refine z5u (K:=K) (H1:=H) (rows:=rows) (p:=p) hm rfl hD0 (by lia) (fun b x H2 Q' hx hb' hf kp q' => ?_) (fun b x H2 Q' hx hb' q' => ?_) (fun ys H2 hyl hHD hfz kp => ?_)
    · have okx:=oks x hx
      obtain⟨c1,c2⟩:=q1x okx.ne
      refine⟨_,rfl,_,rfl,_,rfl,.inr (.inr ⟨b,_,rfl,SqT.of hb',c2,fun u1 hu1 => ?_⟩)⟩
      rw [c1]
      have s2:=(Same.refl H2).new (o := .tup (vP x.1.dropLast)) hu1
      exact⟨_,rfl,q4g q0b (s2 _ _ (kp _ _ ham ha)) (q2s okx.low) okp.low ⟨_,rfl,q' _ s2⟩⟩
    · exact⟨_,rfl,q'⟩
    have hDm:D0≠m:=fun z=>by rw [z,q0b] at hD0;cases hD0
    have s2:Same H (upd H2 m (dR (rows.map rR))):=q2n hm kp
    refine⟨ob,_,hfz,_,_,rfl,.inl ⟨_,SqL.of (by rw [q0c hDm];exact hHD),rfl⟩,_,_,rfl,rfl,_,rfl,?_⟩
    refine iteB (fun e => ?_) (fun e => ?_)
    · have e1:(0:Int)<(ys.length:Int):=of_decide_eq_true e
      have hne:nms p rows ≠ []:=fun z=>by rw [z] at hyl;have:ys.length=0:=hyl;lia
      refine⟨_,rfl,by show 2≤sizeLine;decide,fun T1 hT1 => ?_⟩
      exact kE 4 (.inr ⟨rfl,⟨mm,hp⟩,kids_nms.mpr hne⟩) T1 _ _ (s2.new hT1) rfl q0b
    · have e1:¬ (0:Int)<(ys.length:Int):=of_decide_eq_false e
      have hn:nms p rows = []:=List.eq_nil_of_length_eq_zero (by lia)
      exact k ⟨⟨mm,hp⟩,fun r hr er=>kids_nms.mp ⟨r,hr,er⟩ hn⟩ _ s2
end
end K
set_option maxHeartbeats 4000000
namespace K
open PySem L2 TX SB HM
section
variable {P:Program} {w:World} {K:PySem.W.Frag} {mg:Str→Option Value} {base:Heap}
theorem x0n {σ:St} {H:Hp} {Q:Bool→Hp→Prop} (h:Q true H):tIf0 σ H Q:=h
theorem z5v {bl:Bool} {rows:List Rw} {q:Pth} {m:Option Int} (h:Hl bl rows) (ok:okP q) (hn:∀ r∈rows,fold bl r.1≠fold bl q) (hd:IsD rows q.dropLast):Hl bl (rows ++ [(q,m)]):=by
  refine⟨fun r hr => ?_,?_,fun r hr => ?_⟩
  · rcases List.mem_append.mp hr with hr | hr
    · exact h.ok r hr
    · rw [List.mem_singleton.mp hr];exact ok
  · rw [List.map_append]
    refine List.nodup_append.mpr ⟨h.nd,List.pairwise_singleton _ _,fun y hy y' hy' => ?_⟩
    rw [List.mem_singleton.mp hy']
    obtain⟨r,hr,rfl⟩:=List.mem_map.mp hy
    exact hn r hr
  · rcases List.mem_append.mp hr with hr | hr
    · exact (h.dr r hr).imp id fun z=>List.mem_append_left _ z
    · rw [List.mem_singleton.mp hr];exact hd.imp id fun z=>List.mem_append_left _ z
def nF (k:Nat):List Nat:=tl (Str.ofString "f")++dg k
theorem nF_mk (k:Nat):Str.ofString "f" ++ Str.ofString (toString (k:Int))=mk (nF k):=by
  apply ext;rw [z0r,q2h];rfl
theorem fi_ns:∀ c∈FI,c∈NS:=by decide +kernel
theorem fi_lo:∀ c∈FI,PyProof.Rows.lo1 c=c:=by decide +kernel
theorem nF_ok {k:Nat} (h:k<1000):okN (nF k):=by
  have hl:=z4f 2 k h
  have hf:(tl (Str.ofString "f")).length=1:=by decide +kernel
  refine⟨by unfold nF;rw [List.length_append];lia,by unfold nF;rw [List.length_append];lia,fun c hc => ?_⟩
  rcases List.mem_append.mp hc with z | z
  · exact (show ∀ c∈tl (Str.ofString "f"),c∈NS by decide +kernel) c z
  · exact fi_ns c (z8o k c z)
theorem nF_inj {j k:Nat} (hj:j<1000) (hk:k<1000) (h:nF j=nF k):j=k:=by
  have e:=List.append_cancel_left h
  have e1:=z4g (m:=j) (by lia)
  rw [e,z4g (m:=k) (by lia)] at e1
  have:=Option.some.inj e1
  lia
theorem nF_low (k:Nat):lowN (nF k)=nF k:=by
  unfold lowN
  conv=>rhs;rw [← List.map_id (nF k)]
  refine List.map_congr_left fun c hc => ?_
  rcases List.mem_append.mp hc with z | z
  · exact (show ∀ c∈tl (Str.ofString "f"),PyProof.Rows.lo1 c=c by decide +kernel) c z
  · exact fi_lo c (z8o k c z)
theorem z5w (bl:Bool) (k:Nat):fold bl [nF k] = [nF k]:=by
  cases bl with
  | false=>rfl
  | true=>show [] ++ [lowN (nF k)]=_;rw [nF_low];rfl
theorem z5x {H:Hp} {q:Pth}:∀ {xs:List (Addr×Pth)},(∀ x∈xs,H x.1=some (.tup (vP x.2))∧Low x.2)→(xs.map (·.1)).any (inP H q)=decide (q∈xs.map (·.2))
  | [],_=>rfl
  | x::xs,h=>by
    rw [List.map_cons,List.any_cons,z8u (h x List.mem_cons_self).1,z5x fun y hy=>h y (List.mem_cons_of_mem _ hy),List.map_cons,← Bool.decide_or]
    refine decide_eq_decide.mpr ?_
    rw [List.mem_cons]
    exact⟨fun z=>z.imp Eq.symm id,fun z=>z.imp Eq.symm id⟩
theorem z8c {neg:Bool} {H:Hp} {p L:Addr} {xs:List (Addr×Pth)} {q:Pth} {Q:VK} (hL:H L=some (.lst (xs.map fun x=>V.ref x.1))) (hx:∀ x∈xs,H x.1=some (.tup (vP x.2))∧Low x.2) (hp:H p=some (.tup (vP q))) (lq:Low q) (k:Q (.bl (if neg then !decide (q∈xs.map (·.2)) else decide (q∈xs.map (·.2)))) H):rInP neg (.ref p) (.ref L) H Q:=by
  refine⟨p,L,xs.map (·.1),q,rfl,rfl,by rw [hL,List.map_map];rfl,hp,lq,fun b hb => ?_,?_⟩
  · obtain⟨x,h1,rfl⟩:=List.mem_map.mp hb
    exact⟨_,hx x h1⟩
  · rw [z5x hx];exact k
theorem z5y {n:List Nat} (hn:okN n):okP [n]:=⟨by simp,by show 1≤6;decide,fun x hx=>by rw [List.mem_singleton.mp hx];exact hn⟩
structure CallsFi (P:Program) (w:World) (K:PySem.W.Frag) (mg:Str→Option Value) (base:Heap):Prop where
  folded:Cal P w K mg base "_law_folded" 1 ["_law_path_here", "_law_blind"] spFolded
def spFilled:Sp:=fun vs H Q _=>∃ L bl zs,∃ many:Int,vs = [.ref L,.bl bl,.int many]∧RL H L zs∧Hl bl (zs.map (·.2))∧zs.length≤40∧58≤many∧many≤60∧∀ L' zs' H',Same H H' → H L' = none→RL H' L' zs' → Hl bl (zs'.map (·.2))→zs'.length≤60→Q (.ref L') H'
abbrev q2o:Stmt:=top 42
theorem sc_filled:FnScope ["_law_rows_here", "_law_blind", "_law_many", "_law_found", "_law_held", "_law_k", "_law_path_here"] ["_law_rows_here", "_law_blind", "_law_many"] (defScope q2o):=⟨rfl,rfl,rfl,by decide +kernel,rfl,by decide +kernel,by decide +kernel⟩
theorem z5z (D:Df K mg "_law_filled" q2o ["_law_rows_here", "_law_blind", "_law_many"]) (T:Txt mg) (C:CallsFi P w K mg base):Cal P w K mg base "_law_filled" 2 ["_law_rows_here", "_law_blind", "_law_many"] spFilled:=by
  refine D.cal sc_filled (fun vs H Q E h => ?_) (fun f cdv A outer s H vs Q E hr h => ?_)
  · obtain⟨L,bl,zs,many,rfl,_⟩:=h;rfl
  · obtain⟨L,bl,zs,many,rfl,rl,hl,h40,hm0,hm1,k⟩:=h
    refine⟨_,(@q0e _ _ _ _ _ (@q0m _ _ (3) _ _ _ _ sc_filled.nd rfl (by first | exact Or.inl rfl | exact Or.inr rfl) (@q2y _ _ _ _ _ _ _ _ _ (z3w K rfl) (by rfl) T.b_list (by decide +kernel) (q0a (pv 0) q0d (by rfl)) (by decide) (by decide) (by rfl) (by rfl)) (by rfl) (by first | exact .inl rfl | exact .inr rfl | assumption)) (@q0e _ _ _ _ _ (@z3r _ _ _ _ _ _ _ _ _ _ _ (4) _ _ _ ["_law_path_here", "_law_mark"] [("_law_blind",1)] sc_filled.nd rfl (by first | exact Or.inl rfl | exact Or.inr rfl) rfl (@z3v _ _ _ _ K rfl (pv 0)) (fun _ _ _ _ _=>(@q8u _ _ _ _ (2) _ K rfl rfl (@q1w _ _ _ _ _ (@q1e _ _ (0) _ (show (["_law_path_here", "_law_mark", "_law_blind"]:List Str).Nodup by decide +kernel) rfl (by first | exact Or.inl rfl | exact Or.inr rfl) (by first | exact .inl rfl | exact .inr rfl | assumption)) (@q1w _ _ _ _ _ (@q1e _ _ (1) _ (show (["_law_path_here", "_law_mark", "_law_blind"]:List Str).Nodup by decide +kernel) rfl (by first | exact Or.inl rfl | exact Or.inr rfl) (by first | exact .inl rfl | exact .inr rfl | assumption)) q5s (by rfl)) (by rfl)) (by rfl) (by rfl))) (fun _ _ _ _ _=>q9v) (fun _ _ _ _ _=>(pe_c C.folded hr (q0a (pv 0) (q0a (pv 2) q0d (by rfl)) (by rfl)) (by decide) (by rfl) (by decide) (by rfl) (by rfl))) (by rfl) (by intro _;rfl) (by rfl) (by first | exact .inl rfl | exact .inr rfl | assumption)) (@q0e _ _ _ _ _ (@q3w _ _ _ _ _ _ _ _ PassesOwn.never rfl (@q2k _ _ _ _ _ _ rfl T.b_range (q0a (q1f q7u q0g (pv 2)) q0d (by rfl)) (by rfl)) (@q1e _ _ (5) _ sc_filled.nd rfl (by first | exact Or.inl rfl | exact Or.inr rfl) (by first | exact .inl rfl | exact .inr rfl | assumption)) (@q0e _ _ _ _ _ (@q0m _ _ (6) _ _ _ _ sc_filled.nd rfl (by first | exact Or.inl rfl | exact Or.inr rfl) (q0y (q0a (q1f q1q q1g (@q2y _ _ _ _ _ _ _ _ _ z4d (by rfl) T.b_str (by decide +kernel) (q0a (pv 5) q0d (by rfl)) (by decide) (by decide) (by rfl) (by rfl))) q0d (by rfl))) (by rfl) (by first | exact .inl rfl | exact .inr rfl | assumption)) (@q0f _ _ _ (@q1b _ _ _ _ _ _ _ _ (@pt_j _ _ _ (@PW.pt _ _ _ (@q3v _ _ _ _ _ _ _ (q0j z6k (q0i (q3x K rfl) (by rfl) T.b_len PySem.boot_len (q0a (pv 3) q0d (by rfl)) (by decide) (by decide) (by rfl) (by rfl)) (pv 2) (nomark _)) (@q2p _ _ _ _ (q0j (nin_P hr) (pv 6) (pv 4) (by with_unfolding_all rfl)))))) (@q0f _ _ _ (@q1y _ _ _ _ (@bm_k _ _ _ _ _ _ _ _ _ _ _ _ K rfl PySem.F.plainAttrs_list PySem.F.slot_list_append PySem.F.type_list_append q2z (pv 3) (q0a (q0y (q0a (pv 6) (q0a (pv 5) q0d (by rfl)) (by rfl))) q0d (by rfl)) (by rfl) (by rfl) (by rfl) (by rfl) (by rfl)) (by rfl))) q0h))) (by intro _;rfl)) (@q0f _ _ _ (@q0l _ _ _ _ (pv 3)))))),?_⟩
    refine⟨_,rfl,L,_,rfl,.inl (SqL.of rl.at_),fun Lf hLf => ?_⟩
    have s1:=(Same.refl H).new (o := .lst (zs.map fun z=>V.ref z.1)) hLf
    have rlf:RL (upd H Lf (.lst (zs.map fun z=>V.ref z.1))) Lf zs:=⟨q0b,(rl.same s1).pr⟩
    have rl1:=rl.same s1
    generalize upd H Lf (.lst (zs.map fun z=>V.ref z.1))=H1 at s1 rlf rl1
    refine⟨_,rfl,.inl ⟨L,rfl,⟨_,SqL.of rl1.at_⟩,fun Dl hDl => ?_⟩⟩
    refine q5y (K:=K) (xs:=zs.map fun z=>V.ref z.1) (fun i ys H' => ∃ bs:List (Addr×Pth),ys=bs.map (fun x=>V.ref x.1)∧(∀ x∈bs,H' x.1=some (.tup (vP x.2))∧Low x.2)∧bs.map (·.2)=(zs.take i).map (fun z=>fold bl z.2.1)∧i≤zs.length∧Same H1 H' ∧ H' Dl=some (.lst ys)) ⟨[],rfl,(fun _ h=>nomatch h),rfl,Nat.zero_le _,(Same.refl H1).new hDl,q0b⟩ (fun i ys H' ⟨bs,_,_,_,_,s',h'⟩=>⟨h',SqL.of (s' _ _ rl1.at_)⟩) ?_ ?_
    · rintro i ys H' v hv ⟨bs,rfl,hb,hbs,_,s',h'⟩
      obtain⟨z,hz,rfl⟩:∃ z,zs[i]? = some z∧v = .ref z.1:=by
        rw [List.getElem?_map] at hv
        cases e:zs[i]? with
        | none=>rw [e] at hv;cases hv
        | some z=>rw [e] at hv;cases hv;exact⟨z,rfl,rfl⟩
      have hi:i<zs.length:=(List.getElem?_eq_some_iff.mp hz).1
      obtain⟨b,h1,h2⟩:=(rl1.same s').pr z (List.mem_of_getElem? hz)
      have okz' := hl.ok z.2 (List.mem_map.mpr ⟨z,List.mem_of_getElem? hz,rfl⟩)
      have hbl:bs.length=i:=by
        have e:=congrArg List.length hbs
        rw [List.length_map,List.length_map,List.length_take] at e;lia
      refine⟨z.1,_,rfl,SqT.of h1,rfl,_,_,rfl,_,_,rfl,rfl,q4n,x0n (iteT ?_)⟩
      refine⟨_,rfl,_,rfl,b,z.2.1,bl,rfl,h2,okz',fun pf H2 s2 hpf => ?_⟩
      have h2' := s2 _ _ h'
      have tk:∀ S xs,H2 S=some (.tup xs)→upd H2 Dl (.lst (bs.map (fun x=>V.ref x.1) ++ [.ref pf])) S=some (.tup xs):=fun S xs e=>by
        rw [q0c (fun z=>by rw [z,h2'] at e;cases e)];exact e
      refine⟨h2',small' (by rw [List.length_map];lia),bs ++ [(pf,fold bl z.2.1)],by rw [List.map_append];rfl,fun x hx => ?_,?_,hi,(s'.trans s2).put hDl,q0b⟩
      · rcases List.mem_append.mp hx with y | y
        · exact⟨tk _ _ (s2 _ _ (hb x y).1),(hb x y).2⟩
        · rw [List.mem_singleton.mp y];exact⟨tk _ _ hpf,(q8g okz' bl).low⟩
      · rw [List.map_append,hbs,List.take_add_one,hz,List.map_append];rfl
    rintro ys H2 ⟨bs,rfl,hb,hbs,_,s2,hD2⟩
    rw [List.length_map,List.take_length] at hbs
    have hDf:Dl≠Lf:=fun z=>by rw [z,rlf.at_] at hDl;cases hDl
    refine⟨_,rfl,.inl ⟨_,_,rfl,rfl,.inl ⟨by decide,by decide⟩,?_⟩⟩
    refine⟨_,rfl,by lia,by lia,q2w (n:=(2 * many).toNat) (fun i σ' H' => ∃ fs x5 x6,σ' = [some (.ref L),some (.bl bl),some (.int many),some (.ref Lf),some (.ref Dl),x5,x6]∧(∀ a u,a≠Lf→H2 a=some u→H' a=some u)∧RL H' Lf fs∧Hl bl (fs.map (·.2))∧fs.length≤60∧∀ r∈fs.map (·.2),r∈zs.map (·.2)∨∃ j,j<i∧r.1 = [nF j]) ⟨zs,_,_,rfl,fun a u _ e=>e,rlf.same s2,hl,by lia,fun r hr => .inl hr⟩ ?_ ?_⟩
    · rintro i σ' H' hi ⟨fs,x5,x6,rfl,kp,rf,hf,flen,hr⟩
      have hi120:i<120:=by lia
      refine⟨_,rfl,i,by rw [Int.zero_add],by lia,.inr (.inl ⟨_,_,rfl,rfl,?_,by show 1≤sizeLine;decide,fun pk hpk => ?_⟩)⟩
      · have h2:(Str.ofString (toString (i:Int))).length=(dg i).length:=by rw [dg_mk];exact q6b _
        rw [h2]
        have:=z4f 2 i (by lia)
        have hf1:(Str.ofString "f").length=1:=by decide +kernel
        exact small (by lia)
      rw [nF_mk] at *
      have sk:=(Same.refl H').new (o := .tup [.str (mk (nF i))]) hpk
      have hpk' : upd H' pk (.tup [.str (mk (nF i))]) pk=some (.tup (vP [nF i])):=q0b
      generalize upd H' pk (.tup [.str (mk (nF i))])=H3 at sk hpk'
      have rf3:=rf.same sk
      have okn:okP [nF i]:=z5y (nF_ok (by lia))
      have kp3:∀ a u,a≠Lf→H2 a=some u→H3 a=some u:=fun a u n e=>sk _ _ (kp a u n e)
      refine⟨fun bb H4=>(bb=true→fs.length<60 ∧ [nF i]∉bs.map (·.2))∧H4=H3,?_,?_⟩
      rotate_left
      · refine⟨_,rfl,_,_,rfl,.inl ⟨_,SqL.of rf3.at_,rfl⟩,_,rfl,_,_,rfl,rfl,_,rfl,?_⟩
        rw [List.length_map]
        refine iteB (fun e => ?_) (fun e=>⟨(fun z=>by cases z),rfl⟩)
        have e1:(fs.length:Int)<many:=of_decide_eq_true e
        have hbm:∀ x∈bs,x.1≠Lf:=fun x hx z=>by
          have h1:=(hb x hx).1
          rw [z,(rlf.same s2).at_] at h1;cases h1
        refine⟨_,rfl,_,rfl,z8c (kp3 _ _ hDf hD2) (fun x hx=>⟨kp3 _ _ (hbm x hx) (hb x hx).1,(hb x hx).2⟩) hpk' okn.low ⟨_,rfl,fun z=>⟨by lia,by simpa using z⟩,rfl⟩⟩
      rintro bb H4 ⟨hbb,rfl⟩
      refine ite2 (fun hb1 => ?_) (fun hb1=>⟨fs,_,_,rfl,kp3,rf3,hf,flen,fun r hr' => (hr r hr').imp id fun ⟨j,h1,h2⟩=>⟨j,by lia,h2⟩⟩)
      obtain⟨f1,f2⟩:=hbb hb1
      refine⟨_,rfl,.inl ⟨rfl,_,SqL.of rf3.at_⟩,_,rfl,_,rfl,by show 2≤sizeLine;decide,fun T1 hT1 => ?_⟩
      have hLT:Lf≠T1:=fun z=>by rw [← z,rf3.at_] at hT1;cases hT1
      refine⟨Lf,_,_,rfl,rfl,by rw [q0c hLT];exact rf3.at_,by rw [List.length_map];exact small' (by lia),?_⟩
      have e0:V.int (0+(i:Int))=mV (some (i:Int)):=by rw [Int.zero_add];rfl
      have tk:∀ S xs,H4 S=some (.tup xs)→upd (upd H4 T1 (.tup [.ref pk,V.int (0+(i:Int))])) Lf (.lst (fs.map (fun z=>V.ref z.1) ++ [.ref T1])) S=some (.tup xs):=fun S xs e=>by
        rw [q0c (fun z=>by rw [z,rf3.at_] at e;cases e),q0c (fun z=>by rw [z,hT1] at e;cases e)];exact e
      have em:(fs ++ [(T1,([nF i],some (i:Int)))]).map (·.2)=fs.map (·.2) ++ [([nF i],some (i:Int))]:=by rw [List.map_append];rfl
      refine⟨fs ++ [(T1,([nF i],some (i:Int)))],_,_,rfl,fun a u n e => ?_,⟨by rw [q0b,List.map_append];rfl,fun z hz => ?_⟩,?_,by rw [List.length_append];show _+1≤_;lia,fun r hr' => ?_⟩
      · have e4:=kp3 a u n e
        rw [q0c n,q0c (fun z=>by rw [z,hT1] at e4;cases e4)];exact e4
      · rcases List.mem_append.mp hz with y | y
        · exact PR.same (rf3.pr z y) tk
        · rw [List.mem_singleton.mp y]
          exact⟨pk,by rw [q0c hLT.symm,q0b,e0];rfl,tk _ _ hpk'⟩
      · rw [em]
        refine z5v hf okn (fun r hr' e => ?_) (.inl rfl)
        rw [z5w] at e
        rcases hr r hr' with y | ⟨j,h1,h2⟩
        · refine f2 ?_
          rw [hbs,← e]
          obtain⟨z,hz,rfl⟩:=List.mem_map.mp y
          exact List.mem_map.mpr ⟨z,hz,rfl⟩
        · rw [h2,z5w] at e
          have:=nF_inj (by lia) (by lia) (List.cons.inj e).1
          lia
      · rw [em] at hr'
        rcases List.mem_append.mp hr' with y | y
        · exact (hr r y).imp id fun ⟨j,h1,h2⟩=>⟨j,by lia,h2⟩
        · rw [List.mem_singleton.mp y];exact .inr ⟨i,by lia,rfl⟩
    · rintro σ' H' ⟨fs,x5,x6,rfl,kp,rf,hf,flen,hr⟩
      exact⟨_,rfl,k Lf fs H' (fun a u e=>kp a u (fun z=>by rw [z,hLf] at e;cases e) (s2 _ _ (s1 _ _ e))) hLf rf hf flen⟩
end
end K
set_option maxHeartbeats 4000000
namespace K
open PySem L2 TX SB HM
section
variable {P:Program} {w:World} {K:PySem.W.Frag} {mg:Str→Option Value} {base:Heap}
theorem zp_of {H:Hp}:∀ {bs:List Addr} {ps:List Pth},Paired (fun b p=>H b=some (.tup (vP p))) bs ps→∃ xs:List (Addr×Pth),xs.map (·.1)=bs∧xs.map (·.2)=ps∧∀ x∈xs,H x.1=some (.tup (vP x.2))
  | _,_,.nil=>⟨[],rfl,rfl,(fun _ h=>nomatch h)⟩
  | _,_,.cons (a:=b) (b:=p) h t=>by
    obtain⟨xs,x1,x2,x3⟩:=zp_of t
    refine⟨(b,p)::xs,by rw [List.map_cons,x1],by rw [List.map_cons,x2],fun x hx => ?_⟩
    rcases List.mem_cons.mp hx with rfl | hx
    · exact h
    · exact x3 x hx
structure PL (H:Hp) (L:Addr) (zs:List (Addr×Pth)):Prop where
  at_:H L=some (.lst (zs.map fun z=>V.ref z.1))
  pr:∀ z∈zs,H z.1=some (.tup (vP z.2))∧okP z.2
theorem PL.same {H H' : Hp} {L:Addr} {zs:List (Addr×Pth)} (h:PL H L zs) (s:Same H H'):PL H' L zs:=⟨s _ _ h.at_,fun z hz=>⟨s _ _ (h.pr z hz).1,(h.pr z hz).2⟩⟩
theorem PL.fd {a b L:Addr} {H H' : Hp} {zs:List (Addr×Pth)} (h:PL H L zs) (F:FeedAt H a b) (fd:Fd a b H H') (hL:L≠a):PL H' L zs:=⟨fd.at h.at_ hL,fun z hz=>⟨tupFd F fd _ _ (h.pr z hz).1,(h.pr z hz).2⟩⟩
theorem PL.get {H:Hp} {L:Addr} {zs:List (Addr×Pth)} (h:PL H L zs) {r:Int} (r0:0≤r) (r1:r<zs.length):∃ z∈zs,atI (zs.map fun z=>V.ref z.1) r=some (.ref z.1):=by
  obtain⟨v,hv1,hv2⟩:=z0q (xs:=zs.map fun z=>V.ref z.1) r0 (by rw [List.length_map];exact r1)
  rw [List.getElem?_map] at hv1
  cases e:zs[r.toNat]? with
  | none=>rw [e] at hv1;cases hv1
  | some z=>rw [e] at hv1;cases hv1;exact⟨z,List.mem_of_getElem? e,hv2⟩
theorem z8d {p:Pth} {n:List Nat} (h:okP p) (hn:okN n):okP ((p ++ [n]).take 6):=by
  have h1:=List.length_pos_iff.mpr h.ne
  refine⟨fun z => ?_,by rw [List.length_take];lia,fun x hx => ?_⟩
  · have e:=congrArg List.length z
    rw [List.length_take,List.length_append] at e
    have e2:min 6 (p.length+1)=0:=e
    lia
  · rcases List.mem_append.mp (List.mem_of_mem_take hx) with y | y
    · exact h.all x y
    · rw [List.mem_singleton.mp y];exact hn
theorem z8e {q:Pth} (h:okP q) {n:List Nat} (hn:okN n):okP (q.dropLast ++ [n]):=by
  have h1:=List.length_pos_iff.mpr h.ne
  refine⟨by simp,by rw [List.length_append,List.length_dropLast];have:=h.few;show _+1≤_;lia,fun x hx => ?_⟩
  rcases List.mem_append.mp hx with z | z
  · exact h.all x (List.dropLast_subset _ z)
  · rw [List.mem_singleton.mp z];exact hn
structure CallsPt (P:Program) (w:World) (K:PySem.W.Frag) (mg:Str→Option Value) (base:Heap):Prop where
  draw:Cal P w K mg base "_law_draw" 1 ["_law_feed", "_law_many"] spDraw
  name:Cal P w K mg base "_law_name" 2 ["_law_feed"] spName
  near:Cal P w K mg base "_law_near" 3 ["_law_feed", "_law_path_here"] spNear
def spPath:Sp:=fun vs H Q _=>∃ a b m,∃ mrows:List Rw,vs = [.ref a,.ref m]∧FeedAt H a b∧H m=some (dR (mrows.map rR))∧(∀ r∈mrows,okP r.1)∧mrows.length≤60∧∀ t q H',okP q→Fd a b H H' → H' t=some (.tup (vP q))→Q (.ref t) H'
abbrev q5c:Stmt:=top 46
theorem sc_path:FnScope ["_law_feed", "_law_marks", "_law_paths", "_law_path_here", "_law_way"] ["_law_feed", "_law_marks"] (defScope q5c):=⟨rfl,rfl,rfl,by decide +kernel,rfl,by decide +kernel,by decide +kernel⟩
theorem x0o (D:Df K mg "_law_path" q5c ["_law_feed", "_law_marks"]) (T:Txt mg) (C:CallsPt P w K mg base):Cal P w K mg base "_law_path" 4 ["_law_feed", "_law_marks"] spPath:=by
  refine D.cal sc_path (fun vs H Q E h => ?_) (fun f cdv A outer s H vs Q E hr h => ?_)
  · obtain⟨a,b,m,mrows,rfl,_⟩:=h;rfl
  · obtain⟨a,b,m,mrows,rfl,F,hm,okm,mlen,k⟩:=h
    refine⟨_,(@q0e _ _ _ _ _ (@q0m _ _ (2) _ _ _ _ sc_path.nd rfl (by first | exact Or.inl rfl | exact Or.inr rfl) (q1f q1q (q0i (q7c hr) (by rfl) T.b_sorted (by decide +kernel) (q0a (pv 1) q0d (by rfl)) (by decide) (by decide) (by rfl) (by rfl)) (q2e (q0a (q0y (q0a (pe_c C.name hr (q0a (pv 0) q0d (by rfl)) (by decide) (by rfl) (by decide) (by rfl) (by rfl)) q0d (by rfl))) q0d (by rfl)))) (by rfl) (by first | exact .inl rfl | exact .inr rfl | assumption)) (@q0e _ _ _ _ _ (@q0m _ _ (3) _ _ _ _ sc_path.nd rfl (by first | exact Or.inl rfl | exact Or.inr rfl) (q1t (ix_k K rfl) (pv 2) (pe_c C.draw hr (q0a (pv 0) (q0a (q0i (q3x K rfl) (by rfl) T.b_len PySem.boot_len (q0a (pv 2) q0d (by rfl)) (by decide) (by decide) (by rfl) (by rfl)) q0d (by rfl)) (by rfl)) (by decide) (by rfl) (by decide) (by rfl) (by rfl)) (fun _ _=>rfl)) (by rfl) (by first | exact .inl rfl | exact .inr rfl | assumption)) (@q0e _ _ _ _ _ (@q0m _ _ (4) _ _ _ _ sc_path.nd rfl (by first | exact Or.inl rfl | exact Or.inr rfl) (pe_c C.draw hr (q0a (pv 0) (q0a q0g q0d (by rfl)) (by rfl)) (by decide) (by rfl) (by decide) (by rfl) (by rfl)) (by rfl) (by first | exact .inl rfl | exact .inr rfl | assumption)) (@q0e _ _ _ _ _ (@q1b _ _ _ _ _ _ _ _ (q0j (eq_k K rfl hr) (pv 4) q0g (nomark _)) (@q0f _ _ _ (@q0l _ _ _ _ (pe_c C.near hr (q0a (pv 0) (q0a (pv 3) q0d (by rfl)) (by rfl)) (by decide) (by rfl) (by decide) (by rfl) (by rfl)))) q0h) (@q0e _ _ _ _ _ (@q1b _ _ _ _ _ _ _ _ (q0j (eq_k K rfl hr) (pv 4) q0g (nomark _)) (@q0f _ _ _ (@q0l _ _ _ _ (q1a sl_P (q1f q2i (pv 3) (q0y (q0a (pe_c C.name hr (q0a (pv 0) q0d (by rfl)) (by decide) (by rfl) (by decide) (by rfl) (by rfl)) q0d (by rfl)))) q1j (@q1k _ _ _ q0g)))) q0h) (@q0e _ _ _ _ _ (@q1b _ _ _ _ _ _ _ _ (q0j (eq_k K rfl hr) (pv 4) q0g (nomark _)) (@q0f _ _ _ (@q0l _ _ _ _ (q1f q2i (q1a (sl_k K rfl) (pv 3) q1j (@q1k _ _ _ (q2q q1u q0g))) (q0y (q0a (pe_c C.name hr (q0a (pv 0) q0d (by rfl)) (by decide) (by rfl) (by decide) (by rfl) (by rfl)) q0d (by rfl)))))) q0h) (@q0f _ _ _ (@q0l _ _ _ _ (pv 3))))))))),?_⟩
    refine⟨_,rfl,m,_,rfl,hm,by rw [List.length_map];lia,fun r hr => ?_,fun L2 bs ps hL2 hp2 hs2 pts => ?_⟩
    · obtain⟨y,hy,rfl⟩:=List.mem_map.mp hr
      exact (okm y hy).ne
    obtain⟨xs,x1,x2,x3⟩:=zp_of pts
    have okx:∀ x∈xs,okP x.2:=fun x hx=>by
      have hx2:x.2∈ps:=by rw [← x2];exact List.mem_map.mpr ⟨x,hx,rfl⟩
      obtain⟨r,hr,e⟩:=List.mem_map.mp (hp2.mem_iff.mp hx2)
      obtain⟨y,hy,rfl⟩:=List.mem_map.mp hr
      rw [← e];exact okm y hy
    have xlen:xs.length≤60:=by
      have e1:ps.length=xs.length:=by rw [← x2,List.length_map]
      have e2:=hp2.length_eq
      rw [List.length_map,List.length_map] at e2
      lia
    have s1:=(Same.refl H).new (o := .lst (bs.map V.ref)) hL2
    have pl1:PL (upd H L2 (.lst (bs.map V.ref))) L2 xs:=⟨by rw [q0b,← x1,List.map_map];rfl,fun x hx=>⟨s1 _ _ (x3 x hx),okx x hx⟩⟩
    have fd1:=(Fd.refl F).same s1
    have hL2a:L2≠a:=(F.na hL2).symm
    generalize upd H L2 (.lst (bs.map V.ref))=H1 at s1 pl1 fd1
    clear pts x1 x2 x3 hp2 hs2
    refine⟨_,rfl,a,b,rfl,fd1.feed,fun n H2 okn fd2=>⟨by show 1≤sizeLine;decide,fun p1 hp1=>⟨by show 1≤sizeLine;decide,fun l1 hl1 => ?_⟩⟩⟩
    have s3:=((Same.refl H2).new (o := .tup [.str (mk n)]) hp1).new (o := .lst [.ref p1]) hl1
    have n1:p1≠l1:=fun z=>by rw [← z,q0b] at hl1;cases hl1
    have hp1' : upd (upd H2 p1 (.tup [.str (mk n)])) l1 (.lst [.ref p1]) p1=some (.tup (vP [n])):=by rw [q0c n1];exact q0b
    have hl1' : upd (upd H2 p1 (.tup [.str (mk n)])) l1 (.lst [.ref p1]) l1=some (.lst [.ref p1]):=q0b
    have pl3:=(pl1.fd fd1.feed fd2 hL2a).same s3
    have fd3:=(fd1.trans fd2).same s3
    generalize upd (upd H2 p1 (.tup [.str (mk n)])) l1 (.lst [.ref p1])=H3 at s3 hp1' hl1' pl3 fd3
    refine .inr (.inr ⟨L2,l1,_,_,rfl,rfl,pl3.at_,hl1',small (by rw [List.length_map];show _+1≤_;lia),fun l2 hl2 => ?_⟩)
    have s4:=(Same.refl H3).new (o := .lst ((xs.map fun z=>V.ref z.1) ++ [.ref p1])) hl2
    have pl4:PL (upd H3 l2 (.lst ((xs.map fun z=>V.ref z.1) ++ [.ref p1]))) l2 (xs ++ [(p1,[n])]):=⟨by rw [q0b,List.map_append];rfl,fun z hz=>by
      rcases List.mem_append.mp hz with y | y
      · exact⟨s4 _ _ (pl3.pr z y).1,(pl3.pr z y).2⟩
      · rw [List.mem_singleton.mp y];exact⟨s4 _ _ hp1',z5y okn⟩⟩
    have fd4:=fd3.same s4
    have hl2a:l2≠a:=(fd3.feed.na hl2).symm
    have zlen:(xs ++ [(p1,[n])]).length≤61:=by rw [List.length_append];show _+1≤_;lia
    have zne:xs ++ [(p1,[n])] ≠ []:=by simp
    generalize upd H3 l2 (.lst ((xs.map fun z=>V.ref z.1) ++ [.ref p1]))=H4 at s4 pl4 fd4
    generalize xs ++ [(p1,[n])]=zs at pl4 zlen zne
    have zpos:=List.length_pos_iff.mpr zne
    have hlm:(zs.map fun z=>V.ref z.1).length=zs.length:=List.length_map _
    refine⟨_,rfl,_,rfl,_,rfl,_,_,rfl,.inl ⟨_,SqL.of pl4.at_,rfl⟩,a,b,_,rfl,fd4.feed,by rw [hlm];lia,by rw [hlm];lia,fun r5 H5 r50 r51 fd5 => ?_⟩
    rw [hlm] at r51
    have pl5:=pl4.fd fd4.feed fd5 hl2a
    obtain⟨z,hz,hv⟩:=pl5.get r50 r51
    obtain⟨z1,z2⟩:=pl5.pr z hz
    refine .inl ⟨l2,_,r5,_,rfl,rfl,SqL.of pl5.at_,hv,?_⟩
    have fd5' := fd4.trans fd5
    generalize z.1=e at z1
    generalize z.2=p at z1 z2
    have hp6:=z2.few
    refine⟨_,rfl,a,b,_,rfl,fd5'.feed,by decide,by decide,fun wy H6 _ _ fd6 => ?_⟩
    have he6:=tupFd fd5'.feed fd6 _ _ z1
    have fd6' := fd5'.trans fd6
    refine⟨_,rfl,.inl ⟨rfl,_,rfl,ite2 (fun h => ?_) (fun h => ?_)⟩⟩
    · exact⟨_,rfl,_,rfl,a,b,e,p,rfl,fd6'.feed,he6,z2,fun t q H2 okq fd2 ht=>k t q H2 okq (fd6'.trans fd2) ht⟩
    refine⟨_,rfl,.inl ⟨rfl,_,rfl,ite2 (fun h => ?_) (fun h => ?_)⟩⟩
    · refine⟨_,rfl,_,rfl,a,b,rfl,fd6'.feed,fun n H2 okn fd2=>⟨by show 1≤sizeLine;decide,fun p1 hp1 => ?_⟩⟩
      have s3:=(Same.refl H2).new (o := .tup [.str (mk n)]) hp1
      refine⟨e,p1,_,_,rfl,rfl,s3 _ _ (tupFd fd6'.feed fd2 _ _ he6),q0b,by rw [q1r];exact small (by show _+1≤_;lia),fun p2 H3 t3 h3 _ => ?_⟩
      refine⟨_,rfl,p2,_,rfl,h3,fun t H4 s4 h4 => ?_⟩
      refine k t ((p ++ [n]).take 6) H4 (z8d z2 okn) ((((fd6'.trans fd2).same s3).same t3).same s4) ?_
      have e6:cutV (vP (p ++ [n])) none (some 6)=vP ((p ++ [n]).take 6):=z5r _ 6
      rw [h4,← e6,q7i];rfl
    refine⟨_,rfl,.inl ⟨rfl,_,rfl,ite2 (fun h => ?_) (fun h => ?_)⟩⟩
    · obtain⟨c1,c2⟩:=q1x z2.ne
      refine⟨_,rfl,_,rfl,_,rfl,.inr (.inr ⟨e,_,rfl,SqT.of he6,c2,fun t1 ht1 => ?_⟩)⟩
      rw [c1]
      have fdt:=fd6'.new (o := .tup (vP p.dropLast)) ht1
      have ht1' : upd H6 t1 (.tup (vP p.dropLast)) t1=some (.tup (vP p.dropLast)):=q0b
      generalize upd H6 t1 (.tup (vP p.dropLast))=H1' at fdt ht1'
      refine⟨_,rfl,a,b,rfl,fdt.feed,fun n H2 okn fd2=>⟨by show 1≤sizeLine;decide,fun p1 hp1 => ?_⟩⟩
      have s3:=(Same.refl H2).new (o := .tup [.str (mk n)]) hp1
      refine⟨t1,p1,_,_,rfl,rfl,s3 _ _ (tupFd fdt.feed fd2 _ _ ht1'),q0b,by rw [q1r];exact small (by rw [List.length_dropLast];show _+1≤_;lia),fun p2 H3 t3 h3 _ => ?_⟩
      refine k p2 (p.dropLast ++ [n]) H3 (z8e z2 okn) (((fdt.trans fd2).same s3).same t3) ?_
      rw [h3,q7i];rfl
    exact⟨_,rfl,k e p _ z2 fd6' he6⟩
end
end K
set_option maxHeartbeats 4000000
namespace K
open PySem L2 TX SB HM
section
variable {P:Program} {w:World} {K:PySem.W.Frag} {mg:Str→Option Value} {base:Heap}
theorem foldR:∀ {rs acc:List HRow},((acc++rs).map (·.1)).Nodup→rs.foldl putR (acc.map fun r=>(kP r.1,r.2))=(acc++rs).map fun r=>(kP r.1,r.2)
  | [],acc,_=>by rw [List.append_nil];rfl
  | r::rs,acc,nd=>by
    have e:acc++r::rs=(acc ++ [r])++rs:=by rw [List.append_assoc];rfl
    show rs.foldl putR (putK (acc.map fun r=>(kP r.1,r.2)) (kP r.1) r.2)=_
    rw [q4i (p:=r.1) (v:=r.2) fun x hx z=>by
      rw [List.map_append,List.map_cons] at nd
      exact (List.nodup_append.mp nd).2.2 _ (List.mem_map.mpr ⟨x,hx,rfl⟩) _ List.mem_cons_self z]
    rw [e] at nd ⊢
    exact foldR nd
theorem z6a {bl:Bool} {zs:List Zr} (hl:Hl bl (zs.map (·.2))):HO.dT ((zs.map fun z=>rR z.2).foldl putR [])=dR ((zs.map (·.2)).map rR):=by
  have er:(zs.map fun z=>rR z.2)=(zs.map (·.2)).map rR:=by rw [List.map_map];rfl
  have nd2:(((zs.map (·.2)).map rR).map (·.1)).Nodup:=by rw [List.map_map];exact hl.paths
  rw [er]
  exact congrArg HO.dT (foldR (acc := []) nd2)
theorem z6b {c x dx d:Addr} {H1 H' : Hp} (hx:H1 x=none) (hdx:H1 dx=none) (hd:upd (upd H1 dx (.own x)) x (.ins c dx []) d=none) (k:∀ a u,a≠x→upd (upd H1 dx (.own x)) x (.ins c dx []) a=some u→H' a=some u):Same H1 H' ∧ H1 d=none:=by
  refine⟨fun a u e=>k a u (fun z=>by rw [z,hx] at e;cases e) ?_,?_⟩
  · rw [q0c (fun z=>by rw [z,hx] at e;cases e),q0c (fun z=>by rw [z,hdx] at e;cases e)];exact e
  · have h1:d≠x:=fun z=>by rw [z,q0b] at hd;cases hd
    rw [q0c h1] at hd
    have h2:d≠dx:=fun z=>by rw [z,q0b] at hd;cases hd
    rw [q0c h2] at hd;exact hd
theorem x0p {c x dx L:Addr} {H1:Hp} {zs:List Zr} (h:RL H1 L zs) (hx:H1 x=none) (hdx:H1 dx=none):RL (upd (upd H1 dx (.own x)) x (.ins c dx [])) L zs:=h.same fun a u e=>by
  rw [q0c (fun z=>by rw [z,hx] at e;cases e),q0c (fun z=>by rw [z,hdx] at e;cases e)];exact e
theorem z8v {a b h:Addr} {H H' H2:Hp} (x:Fd a b H H') (F:FeedAt H a b) (hh:H h=none) (kp:∀ c u,c≠h→H' c=some u→H2 c=some u):Fd a b H H2:=by
  refine⟨?_,fun c o e hc=>kp c o (fun z=>by rw [z,hh] at e;cases e) (x.keep c o e hc)⟩
  obtain⟨⟨i,j,e1⟩,ns,e2⟩:=x.feed
  exact⟨⟨i,j,kp _ _ (F.na hh) e1⟩,ns,kp _ _ (F.nb hh) e2⟩
theorem x0q {c a b h d:Addr} {bl:Bool} {rows:List Rw} {H H' : Hp} (x:HallAt c H h d bl rows) (F:FeedAt H a b) (fd:Fd a b H H'):HallAt c H' h d bl rows:=by
  obtain⟨i,j,q⟩:=F.fa
  exact⟨x.i.imp fun dx e=>fd.at e fun z=>by (rw [z,q] at e;cases e),fd.at x.d fun z=>by have e:=x.d;rw [z,q] at e;cases e⟩
theorem dR_fd {a b m:Addr} {rs:List HRow} {H H' : Hp} (x:H m=some (dR rs)) (F:FeedAt H a b) (fd:Fd a b H H'):H' m=some (dR rs):=by
  obtain⟨i,j,q⟩:=F.fa
  exact fd.at x fun z=>by rw [z,q] at x;cases x
structure T4 (c:Addr) (H:Hp) (a b h:Addr) (bl:Bool) (H' : Hp) (m d:Addr) (rows mrows:List Rw):Prop where
  fd:Fd a b H H'
  ha:HallAt c H' h d bl rows
  hl:Hl bl rows
  mn:H m=none
  m:H' m=some (dR (mrows.map rR))
  pm:mrows.Perm rows
  few:rows.length≤60
theorem z8f {H:Hp} {x y:V} {d:PyData} {Q:VK} (hx:Dt K H x d) (hy:Dt K H y d) (l:d.canLay0=true) (dp:d.depth≤100) (k:Q (.bl false) H):rNeU K x y H Q:=by
  refine .inr ⟨_,_,hx,hy,l,l,by rw [Nat.min_self];exact dp,?_⟩
  rw [SeqAt.eqv_refl _ l];exact k
def dWP (wd:Str) (q:Pth):PyData := .tuple [.str wd,.tuple (dP q)]
theorem dt_WP {H:Hp} {T p:Addr} {wd:Str} {q:Pth} (h:H T=some (.tup [.str wd,.ref p])) (hp:H p=some (.tup (vP q))):Dt K H (.ref T) (dWP wd q) := .tup (SqT.of h) (.cons (.str _) (.cons (q3c hp) .nil))
theorem lay_WP {wd:Str} {q:Pth} (h:PySem.PyData.strOk wd=true) (l:Low q):(dWP wd q).canLay0=true:=by
  unfold dWP
  simp only [PyData.canLay0,PyData.canLayAll0,h,q7b l,Bool.and_self]
theorem dep_WP (wd:Str) (q:Pth):(dWP wd q).depth≤100:=by
  have:=q4d q
  unfold dWP
  simp only [PyData.depth,PyData.depthAll];lia
theorem z1m {bl:Bool} {rows rows' : List Rw} {p:Pth} (pm:rows.Perm rows') (h:Frp bl rows p):Frp bl rows' p:=⟨h.1.imp id fun z=>pm.mem_iff.mp z,fun r hr=>h.2 r (pm.mem_iff.mpr hr)⟩
theorem z8g {rows rows' : List Rw} {p:Pth} (pm:rows.Perm rows') (h:Drp rows p):Drp rows' p:=⟨h.1.imp fun m z=>pm.mem_iff.mp z,fun r hr=>h.2 r (pm.mem_iff.mpr hr)⟩
theorem Rfs.perm {b bl:Bool} {rows rows' : List Rw} {p w:Pth} {i:Nat} (h:Rfs b bl rows p i w) (pm:rows.Perm rows'):Rfs b bl rows' p i w:=by
  have hd:∀ {q:Pth},IsD rows q→IsD rows' q:=fun {q} z=>z.imp id fun z=>pm.mem_iff.mp z
  have hd' : ∀ {q:Pth},IsD rows' q→IsD rows q:=fun {q} z=>z.imp id fun z=>pm.mem_iff.mpr z
  rcases h with ⟨e,⟨h1,h2,h3⟩ | ⟨h1,h2,⟨m,h3⟩,h4⟩⟩ | ⟨e,⟨h1,h2⟩ | ⟨h1,⟨m,h2⟩,r,h3,h4⟩,h5⟩
  · exact .inl ⟨e,.inl ⟨h1,h2,fun z=>h3 (hd' z)⟩⟩
  · exact .inl ⟨e,.inr ⟨h1,hd h2,⟨m,pm.mem_iff.mp h3⟩,h4⟩⟩
  · exact .inr ⟨e,.inl ⟨h1,fun m hm=>h2 m (pm.mem_iff.mpr hm)⟩,h5⟩
  · exact .inr ⟨e,.inr ⟨h1,⟨m,pm.mem_iff.mp h2⟩,r,pm.mem_iff.mp h3,h4⟩,h5⟩
theorem Rfs.frp {bl:Bool} {rows:List Rw} {p w:Pth} {i:Nat} (h:Rfs true bl rows p i w) (f:Frp bl rows p):False:=by
  rcases h with ⟨_,⟨_,_,h3⟩ | ⟨_,_,⟨m,h3⟩,h4⟩⟩ | ⟨e,_⟩
  · exact h3 f.1
  · exact f.2 _ h3 h4
  · cases e
theorem Rfs.drp {bl:Bool} {rows:List Rw} {p w:Pth} {i:Nat} (h:Rfs false bl rows p i w) (f:Drp rows p):False:=by
  rcases h with ⟨e,_⟩ | ⟨_,⟨_,h2⟩ | ⟨_,_,r,h3,h4⟩,_⟩
  · cases e
  · obtain⟨m,hm⟩:=f.1;exact h2 m hm
  · exact f.2 r h3 h4
theorem Rfs.one {b bl:Bool} {rows:List Rw} {p w w' : Pth} {i i' : Nat} (hl:Hl bl rows) (h:Rfs b bl rows p i w) (h' : Rfs b bl rows p i' w'):i=i' ∧ w=w' := by
  rcases h with ⟨rfl,⟨rfl,rfl,h3⟩ | ⟨rfl,h2,⟨m,h3⟩,h4⟩⟩ | ⟨rfl,⟨rfl,h2⟩ | ⟨rfl,⟨m,h2⟩,r,h3,h4⟩,rfl⟩
  · rcases h' with ⟨_,⟨rfl,rfl,g3⟩ | ⟨rfl,g2,_⟩⟩ | ⟨e,_⟩
    · exact⟨rfl,rfl⟩
    · exact absurd g2 h3
    · cases e
  · rcases h' with ⟨_,⟨rfl,rfl,g3⟩ | ⟨rfl,g2,⟨m',g3⟩,g4⟩⟩ | ⟨e,_⟩
    · exact absurd h2 g3
    · exact⟨rfl,congrArg Prod.fst (hl.eq h3 g3 (h4.trans g4.symm))⟩
    · cases e
  · rcases h' with ⟨e,_⟩ | ⟨_,⟨rfl,g2⟩ | ⟨rfl,⟨m',g2⟩,_⟩,rfl⟩
    · cases e
    · exact⟨rfl,rfl⟩
    · exact absurd g2 (h2 m')
  · rcases h' with ⟨e,_⟩ | ⟨_,⟨rfl,g2⟩ | ⟨rfl,_⟩,rfl⟩
    · cases e
    · exact absurd h2 (g2 m)
    · exact⟨rfl,rfl⟩
theorem Rfs.pb {b bl:Bool} {rows:List Rw} {p w:Pth} {i:Nat} (h:Rfs b bl rows p i w) (hl:Hl bl rows) (op:okP p):Low w:=by
  rcases h with ⟨_,⟨_,rfl,_⟩ | ⟨_,_,⟨m,hm⟩,_⟩⟩ | ⟨_,_,rfl⟩
  · exact q2s op.low
  · exact (hl.ok _ hm).low
  · exact op.low
theorem z8h {l m:List Rw} {j j' : Nat} {x:Rw} (p:l.Perm m) (hj:l[j]? = some x) (hj' : m[j']? = some x):(l.eraseIdx j).Perm (m.eraseIdx j') :=
  List.Perm.cons_inv (((q4j hj).symm.trans p).trans (q4j hj'))
theorem x0r {bl:Bool} {rows:List Rw} {p:Pth} {m:Option Int} {j:Nat} (h:Hl bl rows) (hj:rows[j]? = some (p,m)) (d:Drp rows p):Hl bl (rows.eraseIdx j):=by
  have sub:∀ r∈rows.eraseIdx j,r∈rows:=fun r hr=>List.mem_of_mem_eraseIdx hr
  refine⟨fun r hr=>h.ok r (sub r hr),?_,fun r hr=>(h.dr r (sub r hr)).imp id fun z => ?_⟩
  · exact ((List.eraseIdx_sublist rows j).map _).nodup h.nd
  · rcases List.mem_cons.mp ((q4j hj).mem_iff.mp z) with e | e
    · exact absurd (congrArg Prod.fst e) (d.2 r (sub r hr))
    · exact e
structure T6 (c:Addr) (H:Hp) (a b h:Addr) (bl:Bool) (H' : Hp) (m d:Addr) (rows mrows:List Rw):Prop where
  fd:Fd a b H H'
  ha:HallAt c H' h d bl rows
  hl:Hl bl rows
  mn:H m=none
  dn:H d=none
  md:m≠d
  m:H' m=some (dR (mrows.map rR))
  pm:mrows.Perm rows
  few:rows.length≤60
theorem T6.same {c:Addr} {H:Hp} {a b h:Addr} {bl:Bool} {H' H2:Hp} {m d:Addr} {rows mrows:List Rw} (x:T6 c H a b h bl H' m d rows mrows) (s:Same H' H2):T6 c H a b h bl H2 m d rows mrows :=
  ⟨x.fd.same s,x.ha.same s,x.hl,x.mn,x.dn,x.md,s _ _ x.m,x.pm,x.few⟩
theorem T6.go {c:Addr} {H:Hp} {a b h:Addr} {bl:Bool} {H' H2:Hp} {m d:Addr} {rows mrows:List Rw} (x:T6 c H a b h bl H' m d rows mrows) (fd:Fd a b H' H2):T6 c H a b h bl H2 m d rows mrows :=
  ⟨x.fd.trans fd,x0q x.ha x.fd.feed fd,x.hl,x.mn,x.dn,x.md,dR_fd x.m x.fd.feed fd,x.pm,x.few⟩
theorem w6_ok {i:Nat} {wd:Str} (hi:i<5) (h:w6[i]? = some wd):PySem.PyData.strOk wd=true:=by
  have e:i=0∨i=1∨i=2∨i=3∨i=4:=by lia
  rcases e with rfl | rfl | rfl | rfl | rfl <;> (cases h;decide +kernel)
def dWN (wd:Str):PyData := .tuple [.str wd,.none]
theorem dt_WN {H:Hp} {T:Addr} {wd:Str} (h:H T=some (.tup [.str wd,.non])):Dt K H (.ref T) (dWN wd) := .tup (SqT.of h) (.cons (.str _) (.cons .non .nil))
theorem lay_WN:(dWN (Str.ofString "full")).canLay0=true:=by decide +kernel
theorem dep_WN (wd:Str):(dWN wd).depth≤100:=by unfold dWN;simp [PyData.depth,PyData.depthAll]
theorem wS_at {r:Int} (r0:0≤r) (r1:r<3):∃ b,atI [V.str (Str.ofString "put"),V.str (Str.ofString "put"),V.str (Str.ofString "drop")] r=some (.str (wS b)):=by
  have e:r=0∨r=1∨r=2:=by lia
  rcases e with rfl | rfl | rfl
  · exact⟨true,rfl⟩
  · exact⟨true,rfl⟩
  · exact⟨false,rfl⟩
theorem z6c (b:Bool):decide (V.str (wS b)=V.str (Str.ofString "put"))=b:=by cases b <;> decide +kernel
theorem z6d (b:Bool):decide (V.str (wS b)=V.str (Str.ofString "drop")) = !b:=by cases b <;> decide +kernel
theorem mk2_at {i r:Int} (r0:0≤r) (r1:r<2):∃ m:Option Int,atI [V.non,V.int i] r=some (mV m):=by
  have e:r=0∨r=1:=by lia
  rcases e with rfl | rfl
  · exact⟨none,rfl⟩
  · exact⟨some i,rfl⟩
def DueAt (b bl:Bool) (rows:List Rw) (p:Pth) (v:V) (H:Hp):Prop :=
  (v = .non∧((b=true∧Frp bl rows p∧rows.length<60)∨(b=false∧Drp rows p))) ∨
  ∃ T,v = .ref T∧((∃ i w x wd,Rfs b bl rows p i w∧w6[i]? = some wd∧H x=some (.tup (vP w))∧H T=some (.tup [.str wd,.ref x]))∨(b=true∧Frp bl rows p∧¬ rows.length<60∧H T=some (.tup [.str (Str.ofString "full"),.non])))
structure CallsO (P:Program) (w:World) (K:PySem.W.Frag) (mg:Str→Option Value) (base:Heap) (c:Addr):Prop where
  draw:Cal P w K mg base "_law_draw" 1 ["_law_feed", "_law_many"] spDraw
  rows:Cal P w K mg base "_law_rows" 3 ["_law_feed", "_law_blind", "_law_most"] spRows
  mixed:Cal P w K mg base "_law_mixed" 2 ["_law_feed", "_law_rows_here"] spMixed
  filled:Cal P w K mg base "_law_filled" 2 ["_law_rows_here", "_law_blind", "_law_many"] spFilled
  path:Cal P w K mg base "_law_path" 4 ["_law_feed", "_law_marks"] spPath
  put_due:Cal P w K mg base "_law_put_due" 3 ["_law_marks", "_law_blind", "_law_path_here"] spPDue
  drop_due:Cal P w K mg base "_law_drop_due" 1 ["_law_marks", "_law_path_here"] spDDue
  told:Cal P w K mg base "_law_told" 6 ["_law_hall", "_law_word_here", "_law_path_here", "_law_mark"] (spTold c)
  rows_right:Cal P w K mg base "_law_rows_right" 3 ["_law_hall", "_law_marks"] (spRight c)
  m_is_blind:MCal P w K mg base c "is_blind" 1 ["self"] (spBlind c)
  k_Hall:KCal P w K mg base c "Hall" 4 ["self", "rows", "blind"] (spInit c)
def spOne:Sp:=fun vs H Q _=>∃ a b,vs = [.ref a]∧FeedAt H a b∧∀ H',Fd a b H H' → Q (.bl true) H'
abbrev q7j:Stmt:=top 47
theorem sc_one:FnScope ["_law_feed", "_law_blind", "_law_rows_here", "_law_marks", "_law_hall", "_law_k", "_law_word_here", "_law_path_here", "_law_mark", "_law_again", "_law_due"] ["_law_feed"] (defScope q7j):=⟨rfl,rfl,rfl,by decide +kernel,rfl,by decide +kernel,by decide +kernel⟩
theorem ok_one {c:Addr} (D:Df K mg "_law_one" q7j ["_law_feed"]) (T:Txt mg) (C:CallsO P w K mg base c):Cal P w K mg base "_law_one" 8 ["_law_feed"] spOne:=by
  refine D.cal sc_one (fun vs H Q E h => ?_) (fun f cdv A outer s H vs Q E hr h => ?_)
  · obtain⟨a,b,rfl,_⟩:=h;rfl
  · obtain⟨a,b,rfl,F,k⟩:=h
    refine⟨_,(@q0e _ _ _ _ _ (@q0m _ _ (1) _ _ _ _ sc_one.nd rfl (by first | exact Or.inl rfl | exact Or.inr rfl) (@q5t _ _ _ _ _ _ _ _ (eq_k K rfl hr) (pe_c C.draw hr (q0a (pv 0) (q0a q0g q0d (by rfl)) (by rfl)) (by decide) (by rfl) (by decide) (by rfl) (by rfl)) q0g (nomark _)) (by rfl) (by first | exact .inl rfl | exact .inr rfl | assumption)) (@q0e _ _ _ _ _ (@q0m _ _ (2) _ _ _ _ sc_one.nd rfl (by first | exact Or.inl rfl | exact Or.inr rfl) (pe_c C.rows hr (q0a (pv 0) (q0a (pv 1) (q0a (q1t (ix_k K rfl) (q2e (q0a q0g (q0a q0g (q0a q0g q0d (by rfl)) (by rfl)) (by rfl))) (pe_c C.draw hr (q0a (pv 0) (q0a q0g q0d (by rfl)) (by rfl)) (by decide) (by rfl) (by decide) (by rfl) (by rfl)) (fun _ _=>rfl)) q0d (by rfl)) (by rfl)) (by rfl)) (by decide) (by rfl) (by decide) (by rfl) (by rfl)) (by rfl) (by first | exact .inl rfl | exact .inr rfl | assumption)) (@q2l _ _ _ _ _ (@q1b _ _ _ _ _ _ _ _ (q0j (eq_k K rfl hr) (pe_c C.draw hr (q0a (pv 0) (q0a q0g q0d (by rfl)) (by rfl)) (by decide) (by rfl) (by decide) (by rfl) (by rfl)) q0g (nomark _)) (@q0f _ _ _ (@q0m _ _ (2) _ _ _ _ sc_one.nd rfl (by first | exact Or.inl rfl | exact Or.inr rfl) (pe_c C.filled hr (q0a (pv 2) (q0a (pv 1) (q0a (q1f q1q q0g (pe_c C.draw hr (q0a (pv 0) (q0a q0g q0d (by rfl)) (by rfl)) (by decide) (by rfl) (by decide) (by rfl) (by rfl))) q0d (by rfl)) (by rfl)) (by rfl)) (by decide) (by rfl) (by decide) (by rfl) (by rfl)) (by rfl) (by first | exact .inl rfl | exact .inr rfl | assumption))) q0h) (@q0e _ _ _ _ _ (@q0m _ _ (3) _ _ _ _ sc_one.nd rfl (by first | exact Or.inl rfl | exact Or.inr rfl) (@q2y _ _ _ _ _ _ _ _ _ (z2j hr) (by rfl) T.b_dict (by decide +kernel) (q0a (pv 2) q0d (by rfl)) (by decide) (by decide) (by rfl) (by rfl)) (by rfl) (by first | exact .inl rfl | exact .inr rfl | assumption)) (@q0e _ _ _ _ _ (@q0m _ _ (4) _ _ _ _ sc_one.nd rfl (by first | exact Or.inl rfl | exact Or.inr rfl) (@pe_k _ _ _ _ _ _ _ _ _ _ _ _ C.k_Hall hr (q0a (pe_c C.mixed hr (q0a (pv 0) (q0a (pv 2) q0d (by rfl)) (by rfl)) (by decide) (by rfl) (by decide) (by rfl) (by rfl)) (q0a (pv 1) q0d (by rfl)) (by rfl)) (by decide) (by rfl) (by decide) (by rfl) (by rfl)) (by rfl) (by first | exact .inl rfl | exact .inr rfl | assumption)) (@q0e _ _ _ _ _ (@q3w _ _ _ _ _ _ _ _ PassesOwn.never rfl (@q2k _ _ _ _ _ _ rfl T.b_range (q0a q0g q0d (by rfl)) (by rfl)) (@q1e _ _ (5) _ sc_one.nd rfl (by first | exact Or.inl rfl | exact Or.inr rfl) (by first | exact .inl rfl | exact .inr rfl | assumption)) (@q0e _ _ _ _ _ (@q0m _ _ (6) _ _ _ _ sc_one.nd rfl (by first | exact Or.inl rfl | exact Or.inr rfl) (q1t (ix_k K rfl) (q2e (q0a q1g (q0a q1g (q0a q1g q0d (by rfl)) (by rfl)) (by rfl))) (pe_c C.draw hr (q0a (pv 0) (q0a q0g q0d (by rfl)) (by rfl)) (by decide) (by rfl) (by decide) (by rfl) (by rfl)) (fun _ _=>rfl)) (by rfl) (by first | exact .inl rfl | exact .inr rfl | assumption)) (@q0e _ _ _ _ _ (@q0m _ _ (7) _ _ _ _ sc_one.nd rfl (by first | exact Or.inl rfl | exact Or.inr rfl) (pe_c C.path hr (q0a (pv 0) (q0a (pv 3) q0d (by rfl)) (by rfl)) (by decide) (by rfl) (by decide) (by rfl) (by rfl)) (by rfl) (by first | exact .inl rfl | exact .inr rfl | assumption)) (@q0e _ _ _ _ _ (@q0m _ _ (8) _ _ _ _ sc_one.nd rfl (by first | exact Or.inl rfl | exact Or.inr rfl) (q1t (ix_k K rfl) (q2e (q0a q2v (q0a (pe_c C.draw hr (q0a (pv 0) (q0a (q1f q1q (q1f z3b q0g q0g) q0g) q0d (by rfl)) (by rfl)) (by decide) (by rfl) (by decide) (by rfl) (by rfl)) q0d (by rfl)) (by rfl))) (pe_c C.draw hr (q0a (pv 0) (q0a q0g q0d (by rfl)) (by rfl)) (by decide) (by rfl) (by decide) (by rfl) (by rfl)) (fun _ _=>rfl)) (by rfl) (by first | exact .inl rfl | exact .inr rfl | assumption)) (@q0f _ _ _ (@q3w _ _ _ _ _ _ _ _ PassesOwn.never rfl (@q2k _ _ _ _ _ _ rfl T.b_range (q0a q0g q0d (by rfl)) (by rfl)) (@q1e _ _ (9) _ sc_one.nd rfl (by first | exact Or.inl rfl | exact Or.inr rfl) (by first | exact .inl rfl | exact .inr rfl | assumption)) (@q0e _ _ _ _ _ (@q0m _ _ (10) _ _ _ _ sc_one.nd rfl (by first | exact Or.inl rfl | exact Or.inr rfl) (pe_c C.drop_due hr (q0a (pv 3) (q0a (pv 7) q0d (by rfl)) (by rfl)) (by decide) (by rfl) (by decide) (by rfl) (by rfl)) (by rfl) (by first | exact .inl rfl | exact .inr rfl | assumption)) (@q2l _ _ _ _ _ (@q1b _ _ _ _ _ _ _ _ (q0j (eq_k K rfl hr) (pv 6) q1g (nomark _)) (@q0f _ _ _ (@q0m _ _ (10) _ _ _ _ sc_one.nd rfl (by first | exact Or.inl rfl | exact Or.inr rfl) (pe_c C.put_due hr (q0a (pv 3) (q0a (pv 1) (q0a (pv 7) q0d (by rfl)) (by rfl)) (by rfl)) (by decide) (by rfl) (by decide) (by rfl) (by rfl)) (by rfl) (by first | exact .inl rfl | exact .inr rfl | assumption))) q0h) (@q0e _ _ _ _ _ (@q1b _ _ _ _ _ _ _ _ (q0j (ne_k K rfl hr) (pe_c C.told hr (q0a (pv 4) (q0a (pv 6) (q0a (pv 7) (q0a (pv 8) q0d (by rfl)) (by rfl)) (by rfl)) (by rfl)) (by decide) (by rfl) (by decide) (by rfl) (by rfl)) (pv 10) (nomark _)) (@q0f _ _ _ (@q0l _ _ _ _ q6p)) q0h) (@q2l _ _ _ _ _ (@q1b _ _ _ _ _ _ _ _ (@pt_j _ _ _ (@PW.pt _ _ _ (@q3v _ _ _ _ _ _ _ (@q2j _ _ _ _ _ _ (@q6t _ _ _ _ _ (pv 10)) (by first | exact nobehind _ (by decide) (by decide) | rfl)) (@q2p _ _ _ _ (q0j (eq_k K rfl hr) (pv 6) q1g (nomark _)))))) (@q0f _ _ _ (@q7v _ _ _ _ _ _ _ _ _ (q3q hr) (pv 3) (pv 7) (pv 8) rfl)) q0h) (@q2l _ _ _ _ _ (@q1b _ _ _ _ _ _ _ _ (@pt_j _ _ _ (@PW.pt _ _ _ (@q3v _ _ _ _ _ _ _ (@q2j _ _ _ _ _ _ (@q6t _ _ _ _ _ (pv 10)) (by first | exact nobehind _ (by decide) (by decide) | rfl)) (@q2p _ _ _ _ (q0j (eq_k K rfl hr) (pv 6) q1g (nomark _)))))) (@q0f _ _ _ (@q1y _ _ _ _ (@bm_k _ _ _ _ _ _ _ _ _ _ _ _ K rfl PySem.F.plainAttrs_dict PySem.F.slot_dict_pop PySem.F.type_dict_pop (z9x hr) (pv 3) (q0a (pv 7) q0d (by rfl)) (by rfl) (by rfl) (by rfl) (by rfl) (by rfl)) (by rfl))) q0h) (@q0f _ _ _ (@q1b _ _ _ _ _ _ _ _ (@q5r _ _ _ _ (@q3y _ _ _ K rfl (pe_c C.rows_right hr (q0a (pv 4) (q0a (pv 3) q0d (by rfl)) (by rfl)) (by decide) (by rfl) (by decide) (by rfl) (by rfl)) (fun _=>rfl))) (@q0f _ _ _ (@q0l _ _ _ _ q6p)) q0h))))))) (by intro _;rfl)))))) (by intro _;rfl)) (@q0f _ _ _ (@q0l _ _ _ _ (@q5t _ _ _ _ _ _ _ _ (eq_k K rfl hr) (@pe_m0 _ _ _ _ _ _ _ _ _ _ _ _ C.m_is_blind hr (pv 4) (by decide) (by rfl)) (pv 1) (nomark _)))))))))),?_⟩
    refine⟨_,rfl,a,b,_,rfl,F,by decide,by decide,fun r0 H1 r00 r01 fd1 => .inl ⟨rfl,?_⟩⟩
    generalize decide (V.int r0=V.int 0)=bl
    refine⟨_,rfl,_,rfl,by show 3≤sizeLine;decide,fun M0 hM0 => ?_⟩
    have fd1' := fd1.new (o := .lst [.int 4,.int 12,.int 40]) hM0
    have hM0a:M0≠a:=(fd1.feed.na hM0).symm
    refine⟨_,rfl,a,b,_,rfl,fd1'.feed,by decide,by decide,fun r1 H2 r10 r11 fd2 => ?_⟩
    have hat:∃ m0:Int,atI [V.int 4,V.int 12,V.int 40] r1=some (.int m0)∧0≤m0∧m0≤40:=by
      have e:r1=0∨r1=1∨r1=2:=by lia
      rcases e with rfl | rfl | rfl
      · exact⟨4,rfl,by decide,by decide⟩
      · exact⟨12,rfl,by decide,by decide⟩
      · exact⟨40,rfl,by decide,by decide⟩
    obtain⟨m0,hat,hm0,hm1⟩:=hat
    refine .inl ⟨M0,_,r1,_,rfl,rfl,SqL.of (fd2.at q0b hM0a),hat,?_⟩
    have fd2' := fd1'.trans fd2
    refine⟨a,b,bl,m0,rfl,fd2'.feed,hm0,by lia,fun L0 zs0 H3 fd3 hL0 rl0 hl0 len0 => ?_⟩
    have fd3' := fd2'.trans fd3
    have hL0a:L0≠a:=(fd2'.feed.na hL0).symm
    refine⟨fun σ' H' => ∃ L0 zs0,σ' = [some (.ref a),some (.bl bl),some (.ref L0),none,none,none,none,none,none,none,none]∧Fd a b H H' ∧ RL H' L0 zs0∧Hl bl (zs0.map (·.2))∧zs0.length≤60∧L0≠a,?_,?_⟩
    rotate_left
    · refine⟨_,rfl,a,b,_,rfl,fd3'.feed,by decide,by decide,fun r4 H4 r40 r41 fd4 => .inl ⟨rfl,_,rfl,?_⟩⟩
      have fd4' := fd3'.trans fd4
      have rl4:=rl0.fd fd3'.feed fd4 hL0a
      refine ite2 (fun hh => ?_) (fun hh=>⟨L0,zs0,rfl,fd4',rl4,hl0,by lia,hL0a⟩)
      refine⟨_,rfl,_,rfl,_,rfl,a,b,_,rfl,fd4'.feed,by decide,by decide,fun r5 H5 r50 r51 fd5 => .inl ⟨_,_,rfl,rfl,?_⟩⟩
      have fd5' := fd4'.trans fd5
      refine⟨L0,bl,zs0,_,rfl,rl4.fd fd4'.feed fd5 hL0a,hl0,by lia,by lia,by lia,fun L' zs' H6 s6 hL' rl' hl' len' => ?_⟩
      exact⟨L',zs',rfl,fd5'.same s6,rl',hl',len',(fd5'.feed.na hL').symm⟩
    clear hat fd2 fd3 hM0a fd1' fd2' fd3' rl0 hl0 len0 hL0 hL0a L0 zs0
    rintro σ' H3 ⟨L0,zs0,rfl,fd3',rl0,hl0,len60,hL0a⟩
    refine⟨_,rfl,L0,zs0.map (·.1),zs0.map (fun z=>rR z.2),rfl,by rw [List.map_map];exact rl0.at_,prs_zs rl0.pr,by rw [List.length_map];lia,fun m hm => ?_⟩
    rw [z6a hl0]
    have s4:=(Same.refl H3).new (o:=dR ((zs0.map (·.2)).map rR)) hm
    have hm4:upd H3 m (dR ((zs0.map (·.2)).map rR)) m=some (dR ((zs0.map (·.2)).map rR)):=q0b
    have hmH:H m=none:=fd3'.free hm
    have rl4:=rl0.same s4
    have fd4:=fd3'.same s4
    generalize upd H3 m (dR ((zs0.map (·.2)).map rR))=H4 at s4 hm4 rl4 fd4
    refine⟨_,rfl,_,rfl,a,b,L0,zs0,rfl,fd4.feed,rl4,len60,fun r hr=>(hl0.ok r hr).low,fun L zs H5 fd5 hL rl5 perm => ?_⟩
    have hl5:Hl bl (zs.map (·.2)):=hl0.perm (perm.map _)
    have hlen5:zs.length≤60:=by rw [perm.length_eq];exact len60
    have hm5:=dR_fd hm4 fd4.feed fd5
    have fd45:=fd4.trans fd5
    refine⟨_,rfl,fun h dx hh hdx n => ?_⟩
    refine⟨h,dx,L,bl,zs,rfl,q0b,x0p rl5 hh hdx,hl5,hlen5,fun d H6 hd i1 i2 i3=>⟨rfl,?_⟩⟩
    obtain⟨s6,hd5⟩:=z6b hh hdx hd i3
    have I6:T6 c H a b h bl H6 m d (zs.map (·.2)) (zs0.map (·.2)):=⟨fd45.same s6,⟨⟨dx,i1⟩,i2⟩,hl5,hmH,fd45.free hd5,fun z=>(by rw [z,hd5] at hm5;cases hm5),s6 _ _ hm5,(perm.map _).symm,by rw [List.length_map];exact hlen5⟩
    generalize zs.map (·.2)=rows at I6
    generalize zs0.map (·.2)=mrows at I6
    refine⟨16,rfl,by decide,by decide,q2w (n:=16) (fun i σ' H' => ∃ rows mrows x5 x6 x7 x8 x9 x10,σ' = [some (.ref a),some (.bl bl),some (.ref L0),some (.ref m),some (.ref h),x5,x6,x7,x8,x9,x10]∧T6 c H a b h bl H' m d rows mrows) ⟨rows,mrows,_,_,_,_,_,_,rfl,I6⟩ ?_ ?_⟩
    · rintro i σ' H' hi ⟨rows,mrows,x5,x6,x7,x8,x9,x10,rfl,I⟩
      refine⟨by show 3≤sizeLine;decide,fun W hW => ?_⟩
      have I1:=I.same ((Same.refl H').new (o := .lst [.str (Str.ofString "put"),.str (Str.ofString "put"),.str (Str.ofString "drop")]) hW)
      have hWa:W≠a:=(I.fd.feed.na hW).symm
      refine⟨_,rfl,a,b,_,rfl,I1.fd.feed,by decide,by decide,fun r2 H2 r20 r21 fd2 => ?_⟩
      obtain⟨bb,hat⟩:=wS_at r20 r21
      refine .inl ⟨W,_,r2,_,rfl,rfl,SqL.of (fd2.at q0b hWa),hat,?_⟩
      have I2:=I1.go fd2
      have okm:∀ r∈mrows,okP r.1:=fun r hr=>I.hl.ok r (I.pm.mem_iff.mp hr)
      refine⟨_,rfl,_,rfl,a,b,m,mrows,rfl,I2.fd.feed,I2.m,okm,by rw [I.pm.length_eq];exact I.few,fun e p H3 okp fd3 he3 => ?_⟩
      have I3:=I2.go fd3
      refine⟨_,rfl,_,_,rfl,rfl,⟨by decide,by decide,by decide⟩,.inl ⟨_,_,rfl,rfl,a,b,_,rfl,I3.fd.feed,by decide,by decide,fun m2 H4 m20 m21 fd4=>⟨by show 2≤sizeLine;decide,fun M hM => ?_⟩⟩⟩
      have I4:=(I3.go fd4).same ((Same.refl H4).new (o := .lst [.non,.int m2]) hM)
      have hMa:M≠a:=((I3.go fd4).fd.feed.na hM).symm
      have he4:=(Same.refl H4).new (o := .lst [.non,.int m2]) hM _ _ (tupFd I3.fd.feed fd4 _ _ he3)
      refine⟨_,rfl,a,b,_,rfl,I4.fd.feed,by decide,by decide,fun r5 H5 r50 r51 fd5 => ?_⟩
      obtain⟨mk0,hat2⟩:=mk2_at (i:=m2) r50 r51
      refine .inl ⟨M,_,r5,_,rfl,rfl,SqL.of (fd5.at q0b hMa),hat2,?_⟩
      have I5:=I4.go fd5
      have he5:=tupFd I4.fd.feed fd5 _ _ he4
      clear I1 I2 I3 I4 he3 he4 okm I
      refine⟨2,rfl,by decide,by decide,q2w (n:=2) (fun j σ' H' => ∃ rows mrows x9 x10,σ' = [some (.ref a),some (.bl bl),some (.ref L0),some (.ref m),some (.ref h),some (.int (0+(i:Int))),some (.str (wS bb)),some (.ref e),some (mV mk0),x9,x10]∧T6 c H a b h bl H' m d rows mrows∧H' e=some (.tup (vP p))) ⟨rows,mrows,_,_,rfl,I5,he5⟩ ?_ ?_⟩
      · clear I5 he5
        rintro j σ' H8 hj ⟨rows,mrows,x9,x10,rfl,I8,he8⟩
        have hlm8:Hl bl mrows:=I8.hl.perm I8.pm
        have mlen:mrows.length≤60:=by rw [I8.pm.length_eq];exact I8.few
        have plen:=I8.pm.length_eq
        have hed:e≠d:=fun z=>by rw [z,I8.ha.d] at he8;cases he8
        have hem:e≠m:=fun z=>by rw [z,I8.m] at he8;cases he8
        refine⟨_,rfl,_,rfl,m,e,mrows,p,rfl,I8.m,hlm8.paths,hlm8.ok,mlen,he8,okp,fun dv0 H9 s9 hd1 => ?_⟩
        have hd0:DueAt false bl mrows p dv0 H9:=by
          rcases hd1 with ⟨rfl,dr⟩ | ⟨T1,i1,wd,rfl,ft,hw,hT⟩
          · exact .inl ⟨rfl,.inr ⟨rfl,dr⟩⟩
          · exact .inr ⟨T1,rfl,.inl ⟨i1,p,e,wd,.inr ⟨rfl,ft,rfl⟩,hw,s9 _ _ he8,hT⟩⟩
        clear hd1
        have I9:=I8.same s9
        have he9:=s9 _ _ he8
        refine⟨fun σ' HX=>∃ dv,σ' = [some (.ref a),some (.bl bl),some (.ref L0),some (.ref m),some (.ref h),some (.int (0+(i:Int))),some (.str (wS bb)),some (.ref e),some (mV mk0),some (.int (0+(j:Int))),some dv]∧Same H8 HX∧DueAt bb bl mrows p dv HX,?_,?_⟩
        rotate_left
        · refine⟨_,rfl,.inl ⟨rfl,bb,by rw [z6c],?_⟩⟩
          cases bb with
          | false=>exact iteF ⟨dv0,rfl,s9,hd0⟩
          | true =>
            refine iteT ⟨_,rfl,_,rfl,_,rfl,m,bl,e,mrows,p,rfl,I9.m,hlm8,mlen,he9,okp,fun fr hlt HX sX => ?_,fun i1 w1 ft T1 x1 wd HX sX hw hx hT => ?_,fun fr hn T1 HX sX hT => ?_⟩
            · exact⟨.non,rfl,s9.trans sX,.inl ⟨rfl,.inl ⟨rfl,fr,hlt⟩⟩⟩
            · exact⟨.ref T1,rfl,s9.trans sX,.inr ⟨T1,rfl,.inl ⟨i1,w1,x1,wd,.inl ⟨rfl,ft⟩,hw,hx,hT⟩⟩⟩
            · exact⟨.ref T1,rfl,s9.trans sX,.inr ⟨T1,rfl,.inr ⟨rfl,fr,hn,hT⟩⟩⟩
        clear I9 he9 s9 hd0 H9
        rintro σ' H9 ⟨dv,rfl,s9,hdue⟩
        have I9:=I8.same s9
        have he9:=s9 _ _ he8
        rcases hdue with ⟨rfl,⟨rfl,fr,hlt⟩ | ⟨rfl,dr⟩⟩ | ⟨T1,rfl,⟨i1,w1,y1,wd1,ft,hw1,hy1,hT1⟩ | ⟨rfl,fr,hn,hT1⟩⟩
        · have fr' := z1m I8.pm fr
          refine⟨_,rfl,_,rfl,_,rfl,_,rfl,h,d,e,bl,rows,p,mk0,true,rfl,I9.ha,I9.hl,I9.few,he9,okp,fun _ _ hlt' HA kp hh => ?_,(fun z=>by cases z),fun i2 w2 ft=>(ft.frp fr').elim,fun _ _ hn=>absurd (by lia) hn⟩
          refine⟨_,rfl,z8f (d := .none) .non .non rfl (by decide) ⟨_,rfl,iteF ?_⟩⟩
          have fdA:=z8v I9.fd F I9.dn kp
          have heA:=kp _ _ hed he9
          have hmA:=kp _ _ I9.md I9.m
          refine⟨fun σ' HX=>∃ rows mrows,σ' = [some (.ref a),some (.bl bl),some (.ref L0),some (.ref m),some (.ref h),some (.int (0+(i:Int))),some (.str (wS true)),some (.ref e),some (mV mk0),some (.int (0+(j:Int))),some .non]∧T6 c H a b h bl HX m d rows mrows∧HX e=some (.tup (vP p)),?_,?_⟩
          · rintro σ' HB ⟨rows,mrows,rfl,IB,heB⟩
            refine⟨fun σ' HX=>∃ rows mrows,σ' = [some (.ref a),some (.bl bl),some (.ref L0),some (.ref m),some (.ref h),some (.int (0+(i:Int))),some (.str (wS true)),some (.ref e),some (mV mk0),some (.int (0+(j:Int))),some .non]∧T6 c H a b h bl HX m d rows mrows∧HX e=some (.tup (vP p)),?_,?_⟩
            · rintro σ' HB ⟨rows,mrows,rfl,IB,heB⟩
              exact⟨_,rfl,_,rfl,h,m,d,bl,_,_,rfl,IB.ha,IB.m,IB.pm,IB.hl.paths,IB.hl.ok,by have:=IB.few;lia,fun HC sC=>⟨true,rfl,iteF ⟨rows,mrows,_,_,rfl,IB.same sC,sC _ _ heB⟩⟩⟩
            · refine⟨fun b' HX=>b' = false∧HX=HB,?_,?_⟩
              · rintro b' HX ⟨rfl,rfl⟩
                exact iteF ⟨rows,mrows,rfl,IB,heB⟩
              · exact⟨_,rfl,_,rfl,iteT ⟨_,rfl,.inl ⟨rfl,_,rfl,z6d true,rfl⟩⟩⟩
          · refine⟨fun b' HX=>b' = true∧HX=HA,?_,?_⟩
            · rintro b' HX ⟨rfl,rfl⟩
              refine iteT ⟨_,rfl,_,rfl,_,rfl,m,_,rfl,DPut.t (k:=kP p) hmA (by rw [q3a];exact heA) (by rw [List.length_map,List.length_map];exact small' (by lia)),?_⟩
              have hnew:∀ r∈mrows.map rR,r.1≠p:=fun r hr z=>by
                obtain⟨y,hy,rfl⟩:=List.mem_map.mp hr
                exact fr.2 y hy (congrArg (fold bl) z)
              rw [q4i hnew]
              have em:(mrows ++ [(p,mk0)]).map rR=mrows.map rR ++ [(p,mV mk0)]:=by rw [List.map_append];rfl
              rw [← em]
              have hmh:h≠m:=fun z=>by obtain⟨dx,hi'⟩:=hh.i;rw [z,hmA] at hi';cases hi'
              refine⟨rows ++ [(p,mk0)],mrows ++ [(p,mk0)],rfl,⟨fdA.put F I9.mn,⟨hh.i.imp fun dx z=>by rw [q0c hmh];exact z,by rw [q0c (Ne.symm I9.md)];exact hh.d⟩,z5v I8.hl okp fr'.2 fr'.1,I9.mn,I9.dn,I9.md,q0b,I8.pm.append_right _,by rw [List.length_append];show _+1≤_;lia⟩,by rw [q0c hem];exact heA⟩
            · exact⟨_,rfl,_,rfl,iteT ⟨_,rfl,.inl ⟨rfl,_,rfl,z6c true,rfl⟩⟩⟩
        · have dr' := z8g I8.pm dr
          refine⟨_,rfl,_,rfl,_,rfl,_,rfl,h,d,e,bl,rows,p,mk0,false,rfl,I9.ha,I9.hl,I9.few,he9,okp,(fun z=>by cases z),fun _ _ j1 m1 HA hj1 kp hh => ?_,fun i2 w2 ft=>(ft.drp dr').elim,(fun z=>by cases z)⟩
          refine⟨_,rfl,z8f (d := .none) .non .non rfl (by decide) ⟨_,rfl,iteF ?_⟩⟩
          have fdA:=z8v I9.fd F I9.dn kp
          have heA:=kp _ _ hed he9
          have hmA:=kp _ _ I9.md I9.m
          refine⟨fun σ' HX=>σ' = [some (.ref a),some (.bl bl),some (.ref L0),some (.ref m),some (.ref h),some (.int (0+(i:Int))),some (.str (wS false)),some (.ref e),some (mV mk0),some (.int (0+(j:Int))),some .non]∧HX=HA,?_,?_⟩
          · rintro σ' HB ⟨rfl,rfl⟩
            refine⟨fun σ' HX=>∃ rows mrows,σ' = [some (.ref a),some (.bl bl),some (.ref L0),some (.ref m),some (.ref h),some (.int (0+(i:Int))),some (.str (wS false)),some (.ref e),some (mV mk0),some (.int (0+(j:Int))),some .non]∧T6 c H a b h bl HX m d rows mrows∧HX e=some (.tup (vP p)),?_,?_⟩
            · rintro σ' HB ⟨rows,mrows,rfl,IB,heB⟩
              exact⟨_,rfl,_,rfl,h,m,d,bl,_,_,rfl,IB.ha,IB.m,IB.pm,IB.hl.paths,IB.hl.ok,by have:=IB.few;lia,fun HC sC=>⟨true,rfl,iteF ⟨rows,mrows,_,_,rfl,IB.same sC,sC _ _ heB⟩⟩⟩
            · refine⟨fun b' HX=>b' = true∧HX=HB,?_,?_⟩
              · rintro b' HX ⟨rfl,rfl⟩
                obtain⟨m0',hm0'⟩:=dr.1
                obtain⟨j0,hj0⟩:=List.mem_iff_getElem?.mp hm0'
                refine iteT ⟨_,rfl,.inr (.inr (.inl ⟨rfl,.inr ⟨_,hmA⟩⟩)),_,rfl,m,_,e,kP p,rfl,rfl,hmA,by rw [q3a];exact heA,⟨j0,mV m0',by rw [List.getElem?_map,List.getElem?_map,hj0];rfl⟩,fun j2 v hj2 => ?_⟩
                obtain⟨r,hr,e1⟩:∃ r,mrows[j2]? = some r∧(kP r.1,mV r.2)=(kP p,v):=by
                  rw [List.getElem?_map,List.getElem?_map] at hj2
                  cases e:mrows[j2]? with
                  | none=>rw [e] at hj2;cases hj2
                  | some r=>rw [e] at hj2;exact⟨r,rfl,Option.some.inj hj2⟩
                have er:r=(p,m1):=by
                  have e2:r.1=p:=q7g (congrArg Prod.fst e1)
                  have e3:=I8.pm.mem_iff.mp (List.mem_of_getElem? hr)
                  exact I8.hl.eqP e3 (List.mem_of_getElem? hj1) e2
                rw [er] at hr
                have hmh:h≠m:=fun z=>by obtain⟨dx,hi'⟩:=hh.i;rw [z,hmA] at hi';cases hi'
                rw [ers_map,ers_map]
                refine⟨rows.eraseIdx j1,mrows.eraseIdx j2,rfl,⟨fdA.put F I9.mn,⟨hh.i.imp fun dx z=>by rw [q0c hmh];exact z,by rw [q0c (Ne.symm I9.md)];exact hh.d⟩,x0r I8.hl hj1 dr',I9.mn,I9.dn,I9.md,q0b,z8h I8.pm hr hj1,Nat.le_trans (List.length_eraseIdx_le _ _) I8.few⟩,by rw [q0c hem];exact heA⟩
              · exact⟨_,rfl,_,rfl,iteT ⟨_,rfl,.inl ⟨rfl,_,rfl,z6d false,rfl⟩⟩⟩
          · refine⟨fun b' HX=>b' = false∧HX=HA,?_,?_⟩
            · rintro b' HX ⟨rfl,rfl⟩
              exact iteF ⟨rfl,rfl⟩
            · exact⟨_,rfl,_,rfl,iteT ⟨_,rfl,.inl ⟨rfl,_,rfl,z6c false,rfl⟩⟩⟩
        · have ft' := ft.perm I8.pm
          refine⟨_,rfl,_,rfl,_,rfl,_,rfl,h,d,e,bl,rows,p,mk0,bb,rfl,I9.ha,I9.hl,I9.few,he9,okp,fun hb fr=>(by subst hb;exact (ft'.frp fr).elim),fun hb dr=>(by subst hb;exact (ft'.drp dr).elim),fun i2 w2 ft2 T2 y2 wd2 HA sA hw2 hy2 hT2 => ?_,fun hb fr=>(by subst hb;exact (ft'.frp fr).elim)⟩
          obtain⟨rfl,rfl⟩:=Rfs.one I8.hl ft' ft2
          rw [hw1] at hw2
          cases hw2
          refine⟨_,rfl,z8f (dt_WP hT2 hy2) (dt_WP (sA _ _ hT1) (sA _ _ hy1)) (lay_WP (w6_ok ft2.lt hw1) (ft2.pb I8.hl okp)) (dep_WP _ _) ⟨_,rfl,iteF ?_⟩⟩
          have IA:=I9.same sA
          have heA:=sA _ _ he9
          refine⟨fun σ' HX=>σ' = [some (.ref a),some (.bl bl),some (.ref L0),some (.ref m),some (.ref h),some (.int (0+(i:Int))),some (.str (wS bb)),some (.ref e),some (mV mk0),some (.int (0+(j:Int))),some (.ref T1)]∧HX=HA,?_,?_⟩
          · rintro σ' HB ⟨rfl,rfl⟩
            refine⟨fun σ' HX=>σ' = [some (.ref a),some (.bl bl),some (.ref L0),some (.ref m),some (.ref h),some (.int (0+(i:Int))),some (.str (wS bb)),some (.ref e),some (mV mk0),some (.int (0+(j:Int))),some (.ref T1)]∧HX=HB,?_,?_⟩
            · rintro σ' HB ⟨rfl,rfl⟩
              have IB:=IA
              have heB:=heA
              exact⟨_,rfl,_,rfl,h,m,d,bl,_,_,rfl,IB.ha,IB.m,IB.pm,IB.hl.paths,IB.hl.ok,by have:=IB.few;lia,fun HC sC=>⟨true,rfl,iteF ⟨rows,mrows,_,_,rfl,IB.same sC,sC _ _ heB⟩⟩⟩
            · refine⟨fun b' HX=>b' = false∧HX=HB,?_,?_⟩
              · rintro b' HX ⟨rfl,rfl⟩
                exact iteF ⟨rfl,rfl⟩
              · exact⟨_,rfl,_,rfl,iteF ⟨rfl,rfl⟩⟩
          · refine⟨fun b' HX=>b' = false∧HX=HA,?_,?_⟩
            · rintro b' HX ⟨rfl,rfl⟩
              exact iteF ⟨rfl,rfl⟩
            · exact⟨_,rfl,_,rfl,iteF ⟨rfl,rfl⟩⟩
        · have fr' := z1m I8.pm fr
          refine⟨_,rfl,_,rfl,_,rfl,_,rfl,h,d,e,bl,rows,p,mk0,true,rfl,I9.ha,I9.hl,I9.few,he9,okp,fun _ _ hlt=>absurd (by lia) hn,(fun z=>by cases z),fun i2 w2 ft=>(ft.frp fr').elim,fun _ _ _ T2 HA sA hT2 => ?_⟩
          refine⟨_,rfl,z8f (dt_WN hT2) (dt_WN (sA _ _ hT1)) lay_WN (dep_WN _) ⟨_,rfl,iteF ?_⟩⟩
          have IA:=I9.same sA
          have heA:=sA _ _ he9
          refine⟨fun σ' HX=>σ' = [some (.ref a),some (.bl bl),some (.ref L0),some (.ref m),some (.ref h),some (.int (0+(i:Int))),some (.str (wS true)),some (.ref e),some (mV mk0),some (.int (0+(j:Int))),some (.ref T1)]∧HX=HA,?_,?_⟩
          · rintro σ' HB ⟨rfl,rfl⟩
            refine⟨fun σ' HX=>σ' = [some (.ref a),some (.bl bl),some (.ref L0),some (.ref m),some (.ref h),some (.int (0+(i:Int))),some (.str (wS true)),some (.ref e),some (mV mk0),some (.int (0+(j:Int))),some (.ref T1)]∧HX=HB,?_,?_⟩
            · rintro σ' HB ⟨rfl,rfl⟩
              have IB:=IA
              have heB:=heA
              exact⟨_,rfl,_,rfl,h,m,d,bl,_,_,rfl,IB.ha,IB.m,IB.pm,IB.hl.paths,IB.hl.ok,by have:=IB.few;lia,fun HC sC=>⟨true,rfl,iteF ⟨rows,mrows,_,_,rfl,IB.same sC,sC _ _ heB⟩⟩⟩
            · refine⟨fun b' HX=>b' = false∧HX=HB,?_,?_⟩
              · rintro b' HX ⟨rfl,rfl⟩
                exact iteF ⟨rfl,rfl⟩
              · exact⟨_,rfl,_,rfl,iteF ⟨rfl,rfl⟩⟩
          · refine⟨fun b' HX=>b' = false∧HX=HA,?_,?_⟩
            · rintro b' HX ⟨rfl,rfl⟩
              exact iteF ⟨rfl,rfl⟩
            · exact⟨_,rfl,_,rfl,iteF ⟨rfl,rfl⟩⟩
      · rintro σ' H8 ⟨rows,mrows,x9,x10,rfl,I8,_⟩
        exact⟨rows,mrows,_,_,_,_,_,_,rfl,I8⟩
    · rintro σ' H' ⟨rows,mrows,x5,x6,x7,x8,x9,x10,rfl,I⟩
      obtain⟨dx,hi⟩:=I.ha.i
      refine⟨_,rfl,h,dx,_,rfl,hi,rfl,h,d,bl,_,rfl,I.ha,_,rfl,.inl ⟨rfl,?_⟩⟩
      rw [decide_eq_true rfl]
      exact k _ I.fd
structure CallsL (P:Program) (w:World) (K:PySem.W.Frag) (mg:Str→Option Value) (base:Heap):Prop where
  one:Cal P w K mg base "_law_one" 8 ["_law_feed"] spOne
def spLaw (K:PySem.W.Frag):Sp:=fun vs H Q _=>∃ (a:Addr) (ns:List Int),vs = [.ref a]∧SqL K H a (ns.map V.int)∧ns.length≤63∧∀ H',Q (.bl true) H'
abbrev q3d:Stmt:=top 48
theorem sc_law:FnScope ["_law_script", "_law_feed", "_law_k"] ["_law_script"] (defScope q3d):=⟨rfl,rfl,rfl,by decide +kernel,rfl,by decide +kernel,by decide +kernel⟩
theorem z8i (T:Txt mg) (C:CallsL P w K mg base) (f:Addr) (cdv:Value) (A:Around) (outer:List Env) (s:Shared) (H:Hp) (vs:List V) (Q:VK) (E:XK) (hr:Room 8 (A.deeper (PyProof.Rows.envOfC "law" (defScope q3d) s.heap.objs.size f cdv))) (h:spLaw K vs H Q E) :
    ∃ t,PSs (cxOf CX0 P w K mg base ["_law_script", "_law_feed", "_law_k"] "law" (defScope q3d) f cdv A outer s H E).nox (defBody q3d) t∧t { nx:=fun _ H' => Q .non H',rt:=Q } (L2.start ["_law_script", "_law_feed", "_law_k"] vs) H:=by
    obtain⟨sc,ns,rfl,hS,hns,k⟩:=h
    refine⟨_,(@q0e _ _ _ _ _ (@q0m _ _ (1) _ _ _ _ sc_law.nd rfl (by first | exact Or.inl rfl | exact Or.inr rfl) (q2e (q0a (@q2y _ _ _ _ _ _ _ _ _ (z3w K rfl) (by rfl) T.b_list (by decide +kernel) (q0a (pv 0) q0d (by rfl)) (by decide) (by decide) (by rfl) (by rfl)) (q0a q0g (q0a q0g q0d (by rfl)) (by rfl)) (by rfl))) (by rfl) (by first | exact .inl rfl | exact .inr rfl | assumption)) (@q0e _ _ _ _ _ (@q3w _ _ _ _ _ _ _ _ PassesOwn.never rfl (@q2k _ _ _ _ _ _ rfl T.b_range (q0a (q0i (z3f rfl) (by rfl) T.b_max (by decide +kernel) (q0a q0g (q0a (q0i (z3g rfl) (by rfl) T.b_min (by decide +kernel) (q0a q0g (q0a (q0i (q3x K rfl) (by rfl) T.b_len PySem.boot_len (q0a (pv 0) q0d (by rfl)) (by decide) (by decide) (by rfl) (by rfl)) q0d (by rfl)) (by rfl)) (by decide) (by decide) (by rfl) (by rfl)) q0d (by rfl)) (by rfl)) (by decide) (by decide) (by rfl) (by rfl)) q0d (by rfl)) (by rfl)) (@q1e _ _ (2) _ sc_law.nd rfl (by first | exact Or.inl rfl | exact Or.inr rfl) (by first | exact .inl rfl | exact .inr rfl | assumption)) (@q0f _ _ _ (@q1b _ _ _ _ _ _ _ _ (@q5r _ _ _ _ (@q3y _ _ _ K rfl (pe_c C.one hr (q0a (pv 1) q0d (by rfl)) (by decide) (by rfl) (by decide) (by rfl) (by rfl)) (fun _=>rfl))) (@q0f _ _ _ (@q0l _ _ _ _ q6p)) q0h)) (by intro _;rfl)) (@q0f _ _ _ (@q0l _ _ _ _ q6p)))),?_⟩
    refine⟨_,rfl,sc,_,rfl,.inl hS,fun b hb=>⟨by show 3≤sizeLine;decide,fun a ha => ?_⟩⟩
    have nba:b≠a:=q0k q0b ha
    have F:FeedAt (upd (upd H b (.lst (ns.map V.int))) a (.lst [.ref b,.int 0,.int 0])) a b:=⟨⟨0,0,q0b⟩,ns,by rw [q0c nba];exact q0b⟩
    have sS:Same H (upd (upd H b (.lst (ns.map V.int))) a (.lst [.ref b,.int 0,.int 0])):=((Same.refl H).new hb).new ha
    generalize hH1:upd (upd H b _) a _=H1
    rw [hH1] at F sS
    refine⟨_,rfl,_,_,rfl,.inl ⟨_,sS.seq hS,rfl⟩,?_⟩
    refine⟨_,_,rfl,_,_,rfl,_,rfl,?_,?_,q2w (fun i σ' H' => ∃ x2,σ' = [some (.ref sc),some (.ref a),x2]∧Fd a b H1 H') ⟨none,rfl,Fd.refl F⟩ ?_ ?_⟩
    · rw [List.length_map];split <;> split <;> lia
    · rw [List.length_map];split <;> split <;> lia
    · rintro i σ' H' hi ⟨x2,rfl,fd⟩
      exact⟨_,rfl,a,b,rfl,fd.feed,fun H2 fd2=>⟨true,rfl,iteF ⟨_,rfl,fd.trans fd2⟩⟩⟩
    · rintro σ' H' ⟨x2,rfl,fd⟩
      exact k _
end
end K
set_option maxHeartbeats 4000000
namespace K
open PySem L2 TX SB HM
theorem q3o {K:PySem.W.Frag} {mg:Str→Option Value} {h:Heap} {x:Str} {st:Stmt} {ps:List Str} {f:Addr} {oc:Value} {od an:Option Addr} {osl:Array (Option Value)} {kV doc pm cdv ct:Value} (X:K.In h) (G:h.Ns mainGlobals mg)
    (a:PySem.W.nsIn K mainGlobals x=some (some (.ref f))) (l:K.lookup f=some ⟨oc,od,.func (PySem.W.fnOf x x (defArgs st) (defBody st) (defScope st) .none kV doc pm an cdv ct),osl⟩) (c:PySem.W.codeIn K cdv x=true) (k:PySem.W.keepIn K (.ref f)=true)
    (hb:∀ (kV doc pm:Value) (an:Option Addr) (cdv ct:Value) (us:List Value),us.length=ps.length→bindArgs (PySem.W.fnOf x x (defArgs st) (defBody st) (defScope st) .none kV doc pm an cdv ct) ⟨us,[]⟩=pure (ps.zip us)):Df K mg x st ps :=
  ⟨f,_,q0z l c k,PySem.W.mg_of X G a,(q0z (st:=st) l c k).binds hb⟩
theorem z6e {us:List Value} (h:us.length=1):∃ x0,us = [x0]:=by
  match us,h with
  | [x0],_=>exact⟨x0,rfl⟩
theorem q2t {us:List Value} (h:us.length=2):∃ x0 x1,us = [x0,x1]:=by
  match us,h with
  | [x0,x1],_=>exact⟨x0,x1,rfl⟩
theorem z0l {us:List Value} (h:us.length=3):∃ x0 x1 x2,us = [x0,x1,x2]:=by
  match us,h with
  | [x0,x1,x2],_=>exact⟨x0,x1,x2,rfl⟩
theorem len_4 {us:List Value} (h:us.length=4):∃ x0 x1 x2 x3,us = [x0,x1,x2,x3]:=by
  match us,h with
  | [x0,x1,x2,x3],_=>exact⟨x0,x1,x2,x3,rfl⟩
theorem all_mk {lw:PySem.W.OpenLaw} {w:World} {K:PySem.W.Frag} {h:Heap} {mg:Str→Option Value} {fa:Addr} (X:K.In h) (G:h.Ns mainGlobals mg) (hfa:mg "law" = some (.ref fa))
    {f0:Addr} {od0 an0:Option Addr} {sl0:Array (Option Value)} {oc0 kV0 dc0 pm0 cd0 ct0:Value}
    {f1:Addr} {od1 an1:Option Addr} {sl1:Array (Option Value)} {oc1 kV1 dc1 pm1 cd1 ct1:Value}
    {f2:Addr} {od2 an2:Option Addr} {sl2:Array (Option Value)} {oc2 kV2 dc2 pm2 cd2 ct2:Value}
    {f3:Addr} {od3 an3:Option Addr} {sl3:Array (Option Value)} {oc3 kV3 dc3 pm3 cd3 ct3:Value}
    {f4:Addr} {od4 an4:Option Addr} {sl4:Array (Option Value)} {oc4 kV4 dc4 pm4 cd4 ct4:Value}
    {f5:Addr} {od5 an5:Option Addr} {sl5:Array (Option Value)} {oc5 kV5 dc5 pm5 cd5 ct5:Value}
    {f6:Addr} {od6 an6:Option Addr} {sl6:Array (Option Value)} {oc6 kV6 dc6 pm6 cd6 ct6:Value}
    {f7:Addr} {od7 an7:Option Addr} {sl7:Array (Option Value)} {oc7 kV7 dc7 pm7 cd7 ct7:Value}
    {f8:Addr} {od8 an8:Option Addr} {sl8:Array (Option Value)} {oc8 kV8 dc8 pm8 cd8 ct8:Value}
    {f9:Addr} {od9 an9:Option Addr} {sl9:Array (Option Value)} {oc9 kV9 dc9 pm9 cd9 ct9:Value}
    {f10:Addr} {od10 an10:Option Addr} {sl10:Array (Option Value)} {oc10 kV10 dc10 pm10 cd10 ct10:Value}
    {f11:Addr} {od11 an11:Option Addr} {sl11:Array (Option Value)} {oc11 kV11 dc11 pm11 cd11 ct11:Value}
    {f12:Addr} {od12 an12:Option Addr} {sl12:Array (Option Value)} {oc12 kV12 dc12 pm12 cd12 ct12:Value}
    {f13:Addr} {od13 an13:Option Addr} {sl13:Array (Option Value)} {oc13 kV13 dc13 pm13 cd13 ct13:Value}
    {f14:Addr} {od14 an14:Option Addr} {sl14:Array (Option Value)} {oc14 kV14 dc14 pm14 cd14 ct14:Value}
    {f15:Addr} {od15 an15:Option Addr} {sl15:Array (Option Value)} {oc15 kV15 dc15 pm15 cd15 ct15:Value}
    {f16:Addr} {od16 an16:Option Addr} {sl16:Array (Option Value)} {oc16 kV16 dc16 pm16 cd16 ct16:Value}
    {tk0:Tok}
    {eHallError:Addr} {nmeHallError qneHallError:Str} {NeHallError:Addr} {bseHallError:List Value} {sneHallError:List Str} {subeHallError:List Value} {abeHallError:Bool} {coleHallError:Option Bool} {ddeHallError:Option Addr} {k0eHallError k1eHallError k2eHallError k3eHallError k5eHallError:Option Value} {oceHallError:Value} {odeHallError:Option Addr} {eseHallError:Array DictEntry} {epeHallError:Nat} {sleHallError:Array (Option Value)}
    {mcH:Value}
    {eNoPattern:Addr}
    {eNoTemplate:Addr}
    {eNoHall:Addr}
    {eNoThing:Addr} {nmeNoThing qneNoThing:Str} {NeNoThing:Addr} {bseNoThing:List Value} {sneNoThing:List Str} {subeNoThing:List Value} {abeNoThing:Bool} {coleNoThing:Option Bool} {ddeNoThing:Option Addr} {k0eNoThing k1eNoThing k2eNoThing k3eNoThing k5eNoThing:Option Value} {oceNoThing:Value} {odeNoThing:Option Addr} {eseNoThing:Array DictEntry} {epeNoThing:Nat} {sleNoThing:Array (Option Value)}
    {fiNoThing:Addr} {odiNoThing aniNoThing:Option Addr} {sliNoThing:Array (Option Value)} {ociNoThing kViNoThing dciNoThing pmiNoThing cdiNoThing ctiNoThing:Value}
    {eNoDrawer:Addr} {nmeNoDrawer qneNoDrawer:Str} {NeNoDrawer:Addr} {bseNoDrawer:List Value} {sneNoDrawer:List Str} {subeNoDrawer:List Value} {abeNoDrawer:Bool} {coleNoDrawer:Option Bool} {ddeNoDrawer:Option Addr} {k0eNoDrawer k1eNoDrawer k2eNoDrawer k3eNoDrawer k5eNoDrawer:Option Value} {oceNoDrawer:Value} {odeNoDrawer:Option Addr} {eseNoDrawer:Array DictEntry} {epeNoDrawer:Nat} {sleNoDrawer:Array (Option Value)}
    {fiNoDrawer:Addr} {odiNoDrawer aniNoDrawer:Option Addr} {sliNoDrawer:Array (Option Value)} {ociNoDrawer kViNoDrawer dciNoDrawer pmiNoDrawer cdiNoDrawer ctiNoDrawer:Value}
    {eTaken:Addr} {nmeTaken qneTaken:Str} {NeTaken:Addr} {bseTaken:List Value} {sneTaken:List Str} {subeTaken:List Value} {abeTaken:Bool} {coleTaken:Option Bool} {ddeTaken:Option Addr} {k0eTaken k1eTaken k2eTaken k3eTaken k5eTaken:Option Value} {oceTaken:Value} {odeTaken:Option Addr} {eseTaken:Array DictEntry} {epeTaken:Nat} {sleTaken:Array (Option Value)}
    {fiTaken:Addr} {odiTaken aniTaken:Option Addr} {sliTaken:Array (Option Value)} {ociTaken kViTaken dciTaken pmiTaken cdiTaken ctiTaken:Value}
    {eFixed:Addr}
    {eNotEmpty:Addr} {nmeNotEmpty qneNotEmpty:Str} {NeNotEmpty:Addr} {bseNotEmpty:List Value} {sneNotEmpty:List Str} {subeNotEmpty:List Value} {abeNotEmpty:Bool} {coleNotEmpty:Option Bool} {ddeNotEmpty:Option Addr} {k0eNotEmpty k1eNotEmpty k2eNotEmpty k3eNotEmpty k5eNotEmpty:Option Value} {oceNotEmpty:Value} {odeNotEmpty:Option Addr} {eseNotEmpty:Array DictEntry} {epeNotEmpty:Nat} {sleNotEmpty:Array (Option Value)}
    {fiNotEmpty:Addr} {odiNotEmpty aniNotEmpty:Option Addr} {sliNotEmpty:Array (Option Value)} {ociNotEmpty kViNotEmpty dciNotEmpty pmiNotEmpty cdiNotEmpty ctiNotEmpty:Value}
    {eNoWish:Addr}
    {eMeets:Addr}
    {eNoPlace:Addr}
    {eBroken:Addr}
    {eStrayed:Addr}
    {eNoText:Addr}
    {eNoRule:Addr}
    {eFull:Addr} {nmeFull qneFull:Str} {NeFull:Addr} {bseFull:List Value} {sneFull:List Str} {subeFull:List Value} {abeFull:Bool} {coleFull:Option Bool} {ddeFull:Option Addr} {k0eFull k1eFull k2eFull k3eFull k5eFull:Option Value} {oceFull:Value} {odeFull:Option Addr} {eseFull:Array DictEntry} {epeFull:Nat} {sleFull:Array (Option Value)}
    {eNoBook:Addr}
    {eNoSame:Addr}
    {eTooMuch:Addr}
    {eNoLine:Addr}
    {eBusy:Addr}
    {eNoDoer:Addr}
    {eNoRules:Addr}
    {cHall:Addr}
    {fminit:Addr} {odminit anminit:Option Addr} {slminit:Array (Option Value)} {ocminit kVminit dcminit pmminit cdminit ctminit:Value}
    {dtminit:Addr} {tdminit:Option Addr} {tsminit:Array (Option Value)} {tnminit:Nat}
    {fmask_drawer:Addr} {odmask_drawer anmask_drawer:Option Addr} {slmask_drawer:Array (Option Value)} {ocmask_drawer kVmask_drawer dcmask_drawer pmmask_drawer cdmask_drawer ctmask_drawer:Value}
    {fmask_thing:Addr} {odmask_thing anmask_thing:Option Addr} {slmask_thing:Array (Option Value)} {ocmask_thing kVmask_thing dcmask_thing pmmask_thing cdmask_thing ctmask_thing:Value}
    {fmdrop:Addr} {odmdrop anmdrop:Option Addr} {slmdrop:Array (Option Value)} {ocmdrop kVmdrop dcmdrop pmmdrop cdmdrop ctmdrop:Value}
    {fmis_blind:Addr} {odmis_blind anmis_blind:Option Addr} {slmis_blind:Array (Option Value)} {ocmis_blind kVmis_blind dcmis_blind pmmis_blind cdmis_blind ctmis_blind:Value}
    {fmis_drawer:Addr} {odmis_drawer anmis_drawer:Option Addr} {slmis_drawer:Array (Option Value)} {ocmis_drawer kVmis_drawer dcmis_drawer pmmis_drawer cdmis_drawer ctmis_drawer:Value}
    {fmis_one_place:Addr} {odmis_one_place anmis_one_place:Option Addr} {slmis_one_place:Array (Option Value)} {ocmis_one_place kVmis_one_place dcmis_one_place pmmis_one_place cdmis_one_place ctmis_one_place:Value}
    {fmnames_in:Addr} {odmnames_in anmnames_in:Option Addr} {slmnames_in:Array (Option Value)} {ocmnames_in kVmnames_in dcmnames_in pmmnames_in cdmnames_in ctmnames_in:Value}
    {fmput:Addr} {odmput anmput:Option Addr} {slmput:Array (Option Value)} {ocmput kVmput dcmput pmmput cdmput ctmput:Value}
    {fmrows:Addr} {odmrows anmrows:Option Addr} {slmrows:Array (Option Value)} {ocmrows kVmrows dcmrows pmmrows cdmrows ctmrows:Value}
    {fmthere:Addr} {odmthere anmthere:Option Addr} {slmthere:Array (Option Value)} {ocmthere kVmthere dcmthere pmmthere cdmthere ctmthere:Value}
    (a0:PySem.W.nsIn K mainGlobals "alike" = some (some (.ref f0)))
    (l0:K.lookup f0=some ⟨oc0,od0,.func (PySem.W.fnOf "alike" "alike" (defArgs q3j) (defBody q3j) (defScope q3j) .none kV0 dc0 pm0 an0 cd0 ct0),sl0⟩) (c0:PySem.W.codeIn K cd0 "alike" = true) (k0:PySem.W.keepIn K (.ref f0)=true)
    (a1:PySem.W.nsIn K mainGlobals "_law_draw" = some (some (.ref f1)))
    (l1:K.lookup f1=some ⟨oc1,od1,.func (PySem.W.fnOf "_law_draw" "_law_draw" (defArgs q4r) (defBody q4r) (defScope q4r) .none kV1 dc1 pm1 an1 cd1 ct1),sl1⟩) (c1:PySem.W.codeIn K cd1 "_law_draw" = true) (k1:PySem.W.keepIn K (.ref f1)=true)
    (a2:PySem.W.nsIn K mainGlobals "_law_name" = some (some (.ref f2)))
    (l2:K.lookup f2=some ⟨oc2,od2,.func (PySem.W.fnOf "_law_name" "_law_name" (defArgs q4s) (defBody q4s) (defScope q4s) .none kV2 dc2 pm2 an2 cd2 ct2),sl2⟩) (c2:PySem.W.codeIn K cd2 "_law_name" = true) (k2:PySem.W.keepIn K (.ref f2)=true)
    (a3:PySem.W.nsIn K mainGlobals "_law_folded" = some (some (.ref f3)))
    (l3:K.lookup f3=some ⟨oc3,od3,.func (PySem.W.fnOf "_law_folded" "_law_folded" (defArgs q2m) (defBody q2m) (defScope q2m) .none kV3 dc3 pm3 an3 cd3 ct3),sl3⟩) (c3:PySem.W.codeIn K cd3 "_law_folded" = true) (k3:PySem.W.keepIn K (.ref f3)=true)
    (a4:PySem.W.nsIn K mainGlobals "_law_rows" = some (some (.ref f4)))
    (l4:K.lookup f4=some ⟨oc4,od4,.func (PySem.W.fnOf "_law_rows" "_law_rows" (defArgs q4v) (defBody q4v) (defScope q4v) .none kV4 dc4 pm4 an4 cd4 ct4),sl4⟩) (c4:PySem.W.codeIn K cd4 "_law_rows" = true) (k4:PySem.W.keepIn K (.ref f4)=true)
    (a5:PySem.W.nsIn K mainGlobals "_law_mixed" = some (some (.ref f5)))
    (l5:K.lookup f5=some ⟨oc5,od5,.func (PySem.W.fnOf "_law_mixed" "_law_mixed" (defArgs q3i) (defBody q3i) (defScope q3i) .none kV5 dc5 pm5 an5 cd5 ct5),sl5⟩) (c5:PySem.W.codeIn K cd5 "_law_mixed" = true) (k5:PySem.W.keepIn K (.ref f5)=true)
    (a6:PySem.W.nsIn K mainGlobals "_law_rows_right" = some (some (.ref f6)))
    (l6:K.lookup f6=some ⟨oc6,od6,.func (PySem.W.fnOf "_law_rows_right" "_law_rows_right" (defArgs q1p) (defBody q1p) (defScope q1p) .none kV6 dc6 pm6 an6 cd6 ct6),sl6⟩) (c6:PySem.W.codeIn K cd6 "_law_rows_right" = true) (k6:PySem.W.keepIn K (.ref f6)=true)
    (a7:PySem.W.nsIn K mainGlobals "_law_there" = some (some (.ref f7)))
    (l7:K.lookup f7=some ⟨oc7,od7,.func (PySem.W.fnOf "_law_there" "_law_there" (defArgs q3k) (defBody q3k) (defScope q3k) .none kV7 dc7 pm7 an7 cd7 ct7),sl7⟩) (c7:PySem.W.codeIn K cd7 "_law_there" = true) (k7:PySem.W.keepIn K (.ref f7)=true)
    (a8:PySem.W.nsIn K mainGlobals "_law_put_due" = some (some (.ref f8)))
    (l8:K.lookup f8=some ⟨oc8,od8,.func (PySem.W.fnOf "_law_put_due" "_law_put_due" (defArgs q2a) (defBody q2a) (defScope q2a) .none kV8 dc8 pm8 an8 cd8 ct8),sl8⟩) (c8:PySem.W.codeIn K cd8 "_law_put_due" = true) (k8:PySem.W.keepIn K (.ref f8)=true)
    (a9:PySem.W.nsIn K mainGlobals "_law_drop_due" = some (some (.ref f9)))
    (l9:K.lookup f9=some ⟨oc9,od9,.func (PySem.W.fnOf "_law_drop_due" "_law_drop_due" (defArgs q1v) (defBody q1v) (defScope q1v) .none kV9 dc9 pm9 an9 cd9 ct9),sl9⟩) (c9:PySem.W.codeIn K cd9 "_law_drop_due" = true) (k9:PySem.W.keepIn K (.ref f9)=true)
    (a10:PySem.W.nsIn K mainGlobals "_law_filled" = some (some (.ref f10)))
    (l10:K.lookup f10=some ⟨oc10,od10,.func (PySem.W.fnOf "_law_filled" "_law_filled" (defArgs q2o) (defBody q2o) (defScope q2o) .none kV10 dc10 pm10 an10 cd10 ct10),sl10⟩) (c10:PySem.W.codeIn K cd10 "_law_filled" = true) (k10:PySem.W.keepIn K (.ref f10)=true)
    (a11:PySem.W.nsIn K mainGlobals "_law_near" = some (some (.ref f11)))
    (l11:K.lookup f11=some ⟨oc11,od11,.func (PySem.W.fnOf "_law_near" "_law_near" (defArgs q5b) (defBody q5b) (defScope q5b) .none kV11 dc11 pm11 an11 cd11 ct11),sl11⟩) (c11:PySem.W.codeIn K cd11 "_law_near" = true) (k11:PySem.W.keepIn K (.ref f11)=true)
    (a12:PySem.W.nsIn K mainGlobals "_law_word" = some (some (.ref f12)))
    (l12:K.lookup f12=some ⟨oc12,od12,.func (PySem.W.fnOf "_law_word" "_law_word" (defArgs q4z) (defBody q4z) (defScope q4z) .none kV12 dc12 pm12 an12 cd12 ct12),sl12⟩) (c12:PySem.W.codeIn K cd12 "_law_word" = true) (k12:PySem.W.keepIn K (.ref f12)=true)
    (a13:PySem.W.nsIn K mainGlobals "_law_told" = some (some (.ref f13)))
    (l13:K.lookup f13=some ⟨oc13,od13,.func (PySem.W.fnOf "_law_told" "_law_told" (defArgs q5a) (defBody q5a) (defScope q5a) .none kV13 dc13 pm13 an13 cd13 ct13),sl13⟩) (c13:PySem.W.codeIn K cd13 "_law_told" = true) (k13:PySem.W.keepIn K (.ref f13)=true)
    (a14:PySem.W.nsIn K mainGlobals "_law_path" = some (some (.ref f14)))
    (l14:K.lookup f14=some ⟨oc14,od14,.func (PySem.W.fnOf "_law_path" "_law_path" (defArgs q5c) (defBody q5c) (defScope q5c) .none kV14 dc14 pm14 an14 cd14 ct14),sl14⟩) (c14:PySem.W.codeIn K cd14 "_law_path" = true) (k14:PySem.W.keepIn K (.ref f14)=true)
    (a15:PySem.W.nsIn K mainGlobals "_law_one" = some (some (.ref f15)))
    (l15:K.lookup f15=some ⟨oc15,od15,.func (PySem.W.fnOf "_law_one" "_law_one" (defArgs q7j) (defBody q7j) (defScope q7j) .none kV15 dc15 pm15 an15 cd15 ct15),sl15⟩) (c15:PySem.W.codeIn K cd15 "_law_one" = true) (k15:PySem.W.keepIn K (.ref f15)=true)
    (a16:PySem.W.nsIn K mainGlobals "law" = some (some (.ref f16)))
    (l16:K.lookup f16=some ⟨oc16,od16,.func (PySem.W.fnOf "law" "law" (defArgs q3d) (defBody q3d) (defScope q3d) .none kV16 dc16 pm16 an16 cd16 ct16),sl16⟩) (c16:PySem.W.codeIn K cd16 "law" = true) (k16:PySem.W.keepIn K (.ref f16)=true)
    (z0:PySem.W.nsIn K mainGlobals "ValueError" = some none)
    (z1:PySem.W.nsIn K mainGlobals "bool" = some none)
    (z2:PySem.W.nsIn K mainGlobals "dict" = some none)
    (z3:PySem.W.nsIn K mainGlobals "enumerate" = some none)
    (z4:PySem.W.nsIn K mainGlobals "isinstance" = some none)
    (z5:PySem.W.nsIn K mainGlobals "len" = some none)
    (z6:PySem.W.nsIn K mainGlobals "list" = some none)
    (z7:PySem.W.nsIn K mainGlobals "max" = some none)
    (z8:PySem.W.nsIn K mainGlobals "min" = some none)
    (z9:PySem.W.nsIn K mainGlobals "range" = some none)
    (z10:PySem.W.nsIn K mainGlobals "str" = some none)
    (z11:PySem.W.nsIn K mainGlobals "sorted" = some none)
    (z12:PySem.W.nsIn K mainGlobals "tuple" = some none)
    (gv0:PySem.W.nsIn K mainGlobals "MOST_THINGS" = some (some (.int 60 tk0)))
    (geHallError:PySem.W.nsIn K mainGlobals "HallError" = some (some (.ref eHallError)))
    (leHallError:K.lookup eHallError=some (excClassObj nmeHallError qneHallError eHallError NeHallError bseHallError bmV true sneHallError subeHallError abeHallError coleHallError ddeHallError k0eHallError k1eHallError k2eHallError k3eHallError k5eHallError "ValueError.__new__")) (neHallError:K.lookup NeHallError=some ⟨oceHallError,odeHallError,.dict eseHallError epeHallError,sleHallError⟩) (seHallError:eseHallError.toList.all strKey=true) (ieHallError:PySem.W.nsIn K NeHallError "__init__" = some none)
    (spH:PySem.W.specialIn K (.ref eHallError) "__getattribute__" = some (some (.builtin "type.__getattribute__"))) (tmH:PySem.W.typeIn K (.ref eHallError)=some mcH) (rdH:PySem.W.readsIn K eHallError mcH=true) (fcH:PySem.W.findCls K (.ref eHallError) mcH "__init__" = some (.val (.builtin "ValueError.__init__")))
    (hnO:PySem.W.specialIn K (.builtin "object.__class__") "__get__" = some (some (.builtin "getset_descriptor.__get__"))) (htkO:PySem.W.takesIn K (.builtin "object.__class__")=some true)
    (geNoPattern:PySem.W.nsIn K mainGlobals "NoPattern" = some (some (.ref eNoPattern)))
    (geNoTemplate:PySem.W.nsIn K mainGlobals "NoTemplate" = some (some (.ref eNoTemplate)))
    (geNoHall:PySem.W.nsIn K mainGlobals "NoHall" = some (some (.ref eNoHall)))
    (geNoThing:PySem.W.nsIn K mainGlobals "NoThing" = some (some (.ref eNoThing)))
    (leNoThing:K.lookup eNoThing=some (excClassObj nmeNoThing qneNoThing eNoThing NeNoThing bseNoThing (.ref eHallError::bmV) true sneNoThing subeNoThing abeNoThing coleNoThing ddeNoThing k0eNoThing k1eNoThing k2eNoThing k3eNoThing k5eNoThing "ValueError.__new__")) (neNoThing:K.lookup NeNoThing=some ⟨oceNoThing,odeNoThing,.dict eseNoThing epeNoThing,sleNoThing⟩) (seNoThing:eseNoThing.toList.all strKey=true) (ieNoThing:PySem.W.nsIn K NeNoThing "__init__" = some (some (.ref fiNoThing)))
    (liNoThing:K.lookup fiNoThing=some ⟨ociNoThing,odiNoThing,.func (PySem.W.fnOf "__init__" "NoThing.__init__" (defArgs q0q) (defBody q0q) (defScope q0q) .none kViNoThing dciNoThing pmiNoThing aniNoThing cdiNoThing ctiNoThing),sliNoThing⟩) (ciNoThing:PySem.W.codeIn K cdiNoThing "NoThing.__init__" = true) (kiNoThing:PySem.W.keepIn K (.ref fiNoThing)=true) (tiNoThing:ociNoThing = .type "function")
    (kpeNoThing:PySem.W.keepIn K (.ref eNoThing)=true)
    (saeNoThing:PySem.W.findIn K (.ref eNoThing) "__setattr__" = some (some (.builtin "object.__setattr__"))) (gaeNoThing:PySem.W.findIn K (.ref eNoThing) "__getattribute__" = some (some (.builtin "BaseException.__getattribute__"))) (gheNoThing:PySem.W.findIn K (.ref eNoThing) "__getattr__" = some none) (haeNoThing:PySem.W.findIn K (.ref eNoThing) "__class__" = some (some (.builtin "object.__class__")))
    (tkeNoThing_path:PySem.W.findIn K (.ref eNoThing) "path" = some none)
    (geNoDrawer:PySem.W.nsIn K mainGlobals "NoDrawer" = some (some (.ref eNoDrawer)))
    (leNoDrawer:K.lookup eNoDrawer=some (excClassObj nmeNoDrawer qneNoDrawer eNoDrawer NeNoDrawer bseNoDrawer (.ref eHallError::bmV) true sneNoDrawer subeNoDrawer abeNoDrawer coleNoDrawer ddeNoDrawer k0eNoDrawer k1eNoDrawer k2eNoDrawer k3eNoDrawer k5eNoDrawer "ValueError.__new__")) (neNoDrawer:K.lookup NeNoDrawer=some ⟨oceNoDrawer,odeNoDrawer,.dict eseNoDrawer epeNoDrawer,sleNoDrawer⟩) (seNoDrawer:eseNoDrawer.toList.all strKey=true) (ieNoDrawer:PySem.W.nsIn K NeNoDrawer "__init__" = some (some (.ref fiNoDrawer)))
    (liNoDrawer:K.lookup fiNoDrawer=some ⟨ociNoDrawer,odiNoDrawer,.func (PySem.W.fnOf "__init__" "NoDrawer.__init__" (defArgs q0o) (defBody q0o) (defScope q0o) .none kViNoDrawer dciNoDrawer pmiNoDrawer aniNoDrawer cdiNoDrawer ctiNoDrawer),sliNoDrawer⟩) (ciNoDrawer:PySem.W.codeIn K cdiNoDrawer "NoDrawer.__init__" = true) (kiNoDrawer:PySem.W.keepIn K (.ref fiNoDrawer)=true) (tiNoDrawer:ociNoDrawer = .type "function")
    (kpeNoDrawer:PySem.W.keepIn K (.ref eNoDrawer)=true)
    (saeNoDrawer:PySem.W.findIn K (.ref eNoDrawer) "__setattr__" = some (some (.builtin "object.__setattr__"))) (gaeNoDrawer:PySem.W.findIn K (.ref eNoDrawer) "__getattribute__" = some (some (.builtin "BaseException.__getattribute__"))) (gheNoDrawer:PySem.W.findIn K (.ref eNoDrawer) "__getattr__" = some none) (haeNoDrawer:PySem.W.findIn K (.ref eNoDrawer) "__class__" = some (some (.builtin "object.__class__")))
    (tkeNoDrawer_path:PySem.W.findIn K (.ref eNoDrawer) "path" = some none)
    (geTaken:PySem.W.nsIn K mainGlobals "Taken" = some (some (.ref eTaken)))
    (leTaken:K.lookup eTaken=some (excClassObj nmeTaken qneTaken eTaken NeTaken bseTaken (.ref eHallError::bmV) true sneTaken subeTaken abeTaken coleTaken ddeTaken k0eTaken k1eTaken k2eTaken k3eTaken k5eTaken "ValueError.__new__")) (neTaken:K.lookup NeTaken=some ⟨oceTaken,odeTaken,.dict eseTaken epeTaken,sleTaken⟩) (seTaken:eseTaken.toList.all strKey=true) (ieTaken:PySem.W.nsIn K NeTaken "__init__" = some (some (.ref fiTaken)))
    (liTaken:K.lookup fiTaken=some ⟨ociTaken,odiTaken,.func (PySem.W.fnOf "__init__" "Taken.__init__" (defArgs q0t) (defBody q0t) (defScope q0t) .none kViTaken dciTaken pmiTaken aniTaken cdiTaken ctiTaken),sliTaken⟩) (ciTaken:PySem.W.codeIn K cdiTaken "Taken.__init__" = true) (kiTaken:PySem.W.keepIn K (.ref fiTaken)=true) (tiTaken:ociTaken = .type "function")
    (kpeTaken:PySem.W.keepIn K (.ref eTaken)=true)
    (saeTaken:PySem.W.findIn K (.ref eTaken) "__setattr__" = some (some (.builtin "object.__setattr__"))) (gaeTaken:PySem.W.findIn K (.ref eTaken) "__getattribute__" = some (some (.builtin "BaseException.__getattribute__"))) (gheTaken:PySem.W.findIn K (.ref eTaken) "__getattr__" = some none) (haeTaken:PySem.W.findIn K (.ref eTaken) "__class__" = some (some (.builtin "object.__class__")))
    (tkeTaken_path:PySem.W.findIn K (.ref eTaken) "path" = some none)
    (geFixed:PySem.W.nsIn K mainGlobals "Fixed" = some (some (.ref eFixed)))
    (geNotEmpty:PySem.W.nsIn K mainGlobals "NotEmpty" = some (some (.ref eNotEmpty)))
    (leNotEmpty:K.lookup eNotEmpty=some (excClassObj nmeNotEmpty qneNotEmpty eNotEmpty NeNotEmpty bseNotEmpty (.ref eHallError::bmV) true sneNotEmpty subeNotEmpty abeNotEmpty coleNotEmpty ddeNotEmpty k0eNotEmpty k1eNotEmpty k2eNotEmpty k3eNotEmpty k5eNotEmpty "ValueError.__new__")) (neNotEmpty:K.lookup NeNotEmpty=some ⟨oceNotEmpty,odeNotEmpty,.dict eseNotEmpty epeNotEmpty,sleNotEmpty⟩) (seNotEmpty:eseNotEmpty.toList.all strKey=true) (ieNotEmpty:PySem.W.nsIn K NeNotEmpty "__init__" = some (some (.ref fiNotEmpty)))
    (liNotEmpty:K.lookup fiNotEmpty=some ⟨ociNotEmpty,odiNotEmpty,.func (PySem.W.fnOf "__init__" "NotEmpty.__init__" (defArgs q0p) (defBody q0p) (defScope q0p) .none kViNotEmpty dciNotEmpty pmiNotEmpty aniNotEmpty cdiNotEmpty ctiNotEmpty),sliNotEmpty⟩) (ciNotEmpty:PySem.W.codeIn K cdiNotEmpty "NotEmpty.__init__" = true) (kiNotEmpty:PySem.W.keepIn K (.ref fiNotEmpty)=true) (tiNotEmpty:ociNotEmpty = .type "function")
    (kpeNotEmpty:PySem.W.keepIn K (.ref eNotEmpty)=true)
    (saeNotEmpty:PySem.W.findIn K (.ref eNotEmpty) "__setattr__" = some (some (.builtin "object.__setattr__"))) (gaeNotEmpty:PySem.W.findIn K (.ref eNotEmpty) "__getattribute__" = some (some (.builtin "BaseException.__getattribute__"))) (gheNotEmpty:PySem.W.findIn K (.ref eNotEmpty) "__getattr__" = some none) (haeNotEmpty:PySem.W.findIn K (.ref eNotEmpty) "__class__" = some (some (.builtin "object.__class__")))
    (tkeNotEmpty_path:PySem.W.findIn K (.ref eNotEmpty) "path" = some none)
    (geNoWish:PySem.W.nsIn K mainGlobals "NoWish" = some (some (.ref eNoWish)))
    (geMeets:PySem.W.nsIn K mainGlobals "Meets" = some (some (.ref eMeets)))
    (geNoPlace:PySem.W.nsIn K mainGlobals "NoPlace" = some (some (.ref eNoPlace)))
    (geBroken:PySem.W.nsIn K mainGlobals "Broken" = some (some (.ref eBroken)))
    (geStrayed:PySem.W.nsIn K mainGlobals "Strayed" = some (some (.ref eStrayed)))
    (geNoText:PySem.W.nsIn K mainGlobals "NoText" = some (some (.ref eNoText)))
    (geNoRule:PySem.W.nsIn K mainGlobals "NoRule" = some (some (.ref eNoRule)))
    (geFull:PySem.W.nsIn K mainGlobals "Full" = some (some (.ref eFull)))
    (leFull:K.lookup eFull=some (excClassObj nmeFull qneFull eFull NeFull bseFull (.ref eHallError::bmV) true sneFull subeFull abeFull coleFull ddeFull k0eFull k1eFull k2eFull k3eFull k5eFull "ValueError.__new__")) (neFull:K.lookup NeFull=some ⟨oceFull,odeFull,.dict eseFull epeFull,sleFull⟩) (seFull:eseFull.toList.all strKey=true) (ieFull:PySem.W.nsIn K NeFull "__init__" = some none)
    (kpeFull:PySem.W.keepIn K (.ref eFull)=true)
    (gaeFull:PySem.W.findIn K (.ref eFull) "__getattribute__" = some (some (.builtin "BaseException.__getattribute__"))) (gheFull:PySem.W.findIn K (.ref eFull) "__getattr__" = some none) (haeFull:PySem.W.findIn K (.ref eFull) "__class__" = some (some (.builtin "object.__class__")))
    (geNoBook:PySem.W.nsIn K mainGlobals "NoBook" = some (some (.ref eNoBook)))
    (geNoSame:PySem.W.nsIn K mainGlobals "NoSame" = some (some (.ref eNoSame)))
    (geTooMuch:PySem.W.nsIn K mainGlobals "TooMuch" = some (some (.ref eTooMuch)))
    (geNoLine:PySem.W.nsIn K mainGlobals "NoLine" = some (some (.ref eNoLine)))
    (geBusy:PySem.W.nsIn K mainGlobals "Busy" = some (some (.ref eBusy)))
    (geNoDoer:PySem.W.nsIn K mainGlobals "NoDoer" = some (some (.ref eNoDoer)))
    (geNoRules:PySem.W.nsIn K mainGlobals "NoRules" = some (some (.ref eNoRules)))
    (KO_Full_Fixed:PySem.W.kitOne K (.ref eFull) (.ref eFixed)=some false)
    (KO_Full_Full:PySem.W.kitOne K (.ref eFull) (.ref eFull)=some true)
    (KO_Full_NoDrawer:PySem.W.kitOne K (.ref eFull) (.ref eNoDrawer)=some false)
    (KO_Full_NoThing:PySem.W.kitOne K (.ref eFull) (.ref eNoThing)=some false)
    (KO_Full_NotEmpty:PySem.W.kitOne K (.ref eFull) (.ref eNotEmpty)=some false)
    (KO_Full_Taken:PySem.W.kitOne K (.ref eFull) (.ref eTaken)=some false)
    (KO_Full_ValueError:PySem.W.kitOne K (.ref eFull) (.type "ValueError")=some true)
    (KO_NoDrawer_Fixed:PySem.W.kitOne K (.ref eNoDrawer) (.ref eFixed)=some false)
    (KO_NoDrawer_Full:PySem.W.kitOne K (.ref eNoDrawer) (.ref eFull)=some false)
    (KO_NoDrawer_NoDrawer:PySem.W.kitOne K (.ref eNoDrawer) (.ref eNoDrawer)=some true)
    (KO_NoDrawer_NoThing:PySem.W.kitOne K (.ref eNoDrawer) (.ref eNoThing)=some false)
    (KO_NoDrawer_NotEmpty:PySem.W.kitOne K (.ref eNoDrawer) (.ref eNotEmpty)=some false)
    (KO_NoDrawer_Taken:PySem.W.kitOne K (.ref eNoDrawer) (.ref eTaken)=some false)
    (KO_NoDrawer_ValueError:PySem.W.kitOne K (.ref eNoDrawer) (.type "ValueError")=some true)
    (KO_NoThing_Fixed:PySem.W.kitOne K (.ref eNoThing) (.ref eFixed)=some false)
    (KO_NoThing_Full:PySem.W.kitOne K (.ref eNoThing) (.ref eFull)=some false)
    (KO_NoThing_NoDrawer:PySem.W.kitOne K (.ref eNoThing) (.ref eNoDrawer)=some false)
    (KO_NoThing_NoThing:PySem.W.kitOne K (.ref eNoThing) (.ref eNoThing)=some true)
    (KO_NoThing_NotEmpty:PySem.W.kitOne K (.ref eNoThing) (.ref eNotEmpty)=some false)
    (KO_NoThing_Taken:PySem.W.kitOne K (.ref eNoThing) (.ref eTaken)=some false)
    (KO_NoThing_ValueError:PySem.W.kitOne K (.ref eNoThing) (.type "ValueError")=some true)
    (KO_NotEmpty_Fixed:PySem.W.kitOne K (.ref eNotEmpty) (.ref eFixed)=some false)
    (KO_NotEmpty_Full:PySem.W.kitOne K (.ref eNotEmpty) (.ref eFull)=some false)
    (KO_NotEmpty_NoDrawer:PySem.W.kitOne K (.ref eNotEmpty) (.ref eNoDrawer)=some false)
    (KO_NotEmpty_NoThing:PySem.W.kitOne K (.ref eNotEmpty) (.ref eNoThing)=some false)
    (KO_NotEmpty_NotEmpty:PySem.W.kitOne K (.ref eNotEmpty) (.ref eNotEmpty)=some true)
    (KO_NotEmpty_Taken:PySem.W.kitOne K (.ref eNotEmpty) (.ref eTaken)=some false)
    (KO_NotEmpty_ValueError:PySem.W.kitOne K (.ref eNotEmpty) (.type "ValueError")=some true)
    (KO_Taken_Fixed:PySem.W.kitOne K (.ref eTaken) (.ref eFixed)=some false)
    (KO_Taken_Full:PySem.W.kitOne K (.ref eTaken) (.ref eFull)=some false)
    (KO_Taken_NoDrawer:PySem.W.kitOne K (.ref eTaken) (.ref eNoDrawer)=some false)
    (KO_Taken_NoThing:PySem.W.kitOne K (.ref eTaken) (.ref eNoThing)=some false)
    (KO_Taken_NotEmpty:PySem.W.kitOne K (.ref eTaken) (.ref eNotEmpty)=some false)
    (KO_Taken_Taken:PySem.W.kitOne K (.ref eTaken) (.ref eTaken)=some true)
    (KO_Taken_ValueError:PySem.W.kitOne K (.ref eTaken) (.type "ValueError")=some true)
    (KA_Full__Broken__Busy__Meets__NoBook__NoDoer__NoHall__NoLine__NoPattern__NoPlace__NoRule:PySem.W.kitAny K (.ref eFull) [.ref eBroken,.ref eBusy,.ref eMeets,.ref eNoBook,.ref eNoDoer,.ref eNoHall,.ref eNoLine,.ref eNoPattern,.ref eNoPlace,.ref eNoRule]=some false)
    (KA_Full__NoRules__NoSame__NoTemplate__NoText__NoWish__Strayed__TooMuch:PySem.W.kitAny K (.ref eFull) [.ref eNoRules,.ref eNoSame,.ref eNoTemplate,.ref eNoText,.ref eNoWish,.ref eStrayed,.ref eTooMuch]=some false)
    (KA_NoDrawer__Broken__Busy__Meets__NoBook__NoDoer__NoHall__NoLine__NoPattern__NoPlace__NoRule:PySem.W.kitAny K (.ref eNoDrawer) [.ref eBroken,.ref eBusy,.ref eMeets,.ref eNoBook,.ref eNoDoer,.ref eNoHall,.ref eNoLine,.ref eNoPattern,.ref eNoPlace,.ref eNoRule]=some false)
    (KA_NoDrawer__NoRules__NoSame__NoTemplate__NoText__NoWish__Strayed__TooMuch:PySem.W.kitAny K (.ref eNoDrawer) [.ref eNoRules,.ref eNoSame,.ref eNoTemplate,.ref eNoText,.ref eNoWish,.ref eStrayed,.ref eTooMuch]=some false)
    (KA_NoThing__Broken__Busy__Meets__NoBook__NoDoer__NoHall__NoLine__NoPattern__NoPlace__NoRule:PySem.W.kitAny K (.ref eNoThing) [.ref eBroken,.ref eBusy,.ref eMeets,.ref eNoBook,.ref eNoDoer,.ref eNoHall,.ref eNoLine,.ref eNoPattern,.ref eNoPlace,.ref eNoRule]=some false)
    (KA_NoThing__NoRules__NoSame__NoTemplate__NoText__NoWish__Strayed__TooMuch:PySem.W.kitAny K (.ref eNoThing) [.ref eNoRules,.ref eNoSame,.ref eNoTemplate,.ref eNoText,.ref eNoWish,.ref eStrayed,.ref eTooMuch]=some false)
    (KA_NotEmpty__Broken__Busy__Meets__NoBook__NoDoer__NoHall__NoLine__NoPattern__NoPlace__NoRule:PySem.W.kitAny K (.ref eNotEmpty) [.ref eBroken,.ref eBusy,.ref eMeets,.ref eNoBook,.ref eNoDoer,.ref eNoHall,.ref eNoLine,.ref eNoPattern,.ref eNoPlace,.ref eNoRule]=some false)
    (KA_NotEmpty__NoRules__NoSame__NoTemplate__NoText__NoWish__Strayed__TooMuch:PySem.W.kitAny K (.ref eNotEmpty) [.ref eNoRules,.ref eNoSame,.ref eNoTemplate,.ref eNoText,.ref eNoWish,.ref eStrayed,.ref eTooMuch]=some false)
    (KA_Taken__Broken__Busy__Meets__NoBook__NoDoer__NoHall__NoLine__NoPattern__NoPlace__NoRule:PySem.W.kitAny K (.ref eTaken) [.ref eBroken,.ref eBusy,.ref eMeets,.ref eNoBook,.ref eNoDoer,.ref eNoHall,.ref eNoLine,.ref eNoPattern,.ref eNoPlace,.ref eNoRule]=some false)
    (KA_Taken__NoRules__NoSame__NoTemplate__NoText__NoWish__Strayed__TooMuch:PySem.W.kitAny K (.ref eTaken) [.ref eNoRules,.ref eNoSame,.ref eNoTemplate,.ref eNoText,.ref eNoWish,.ref eStrayed,.ref eTooMuch]=some false)
    (gcHall:PySem.W.nsIn K mainGlobals "Hall" = some (some (.ref cHall)))
    (pgcHall:PySem.W.plainGet K cHall Str.empty=true) (hdcHall:PySem.W.hasDictIn K cHall=true) (pocHall:PySem.W.plainOver K cHall=true) (sacHall:PySem.W.findIn K (.ref cHall) "__setattr__" = some (some (.builtin "object.__setattr__")))
    (nacHall_blind:PySem.W.findIn K (.ref cHall) "blind" = some none)
    (nacHall_marks:PySem.W.findIn K (.ref cHall) "marks" = some none)
    (aminit:PySem.W.findIn K (.ref cHall) "__init__" = some (some (.ref fminit)))
    (lminit:K.lookup fminit=some ⟨ocminit,odminit,.func (PySem.W.fnOf "__init__" "Hall.__init__" (defArgs q1d) (defBody q1d) (defScope q1d) (.ref dtminit) kVminit dcminit pmminit anminit cdminit ctminit),slminit⟩) (cminit:PySem.W.codeIn K cdminit "Hall.__init__" = true) (kminit:PySem.W.keepIn K (.ref fminit)=true) (iminit:PySem.W.isFn K (.ref fminit)=true)
    (mkcHall:PySem.W.makesIn K cHall=true) (kccHall:PySem.W.keepIn K (.ref cHall)=true)
    (tminit:K.lookup dtminit=some ⟨.type "tuple",tdminit,.seq #[.bool false] tnminit,tsminit⟩)
    (amask_drawer:PySem.W.findIn K (.ref cHall) "ask_drawer" = some (some (.ref fmask_drawer)))
    (lmask_drawer:K.lookup fmask_drawer=some ⟨ocmask_drawer,odmask_drawer,.func (PySem.W.fnOf "ask_drawer" "Hall.ask_drawer" (defArgs q0r) (defBody q0r) (defScope q0r) .none kVmask_drawer dcmask_drawer pmmask_drawer anmask_drawer cdmask_drawer ctmask_drawer),slmask_drawer⟩) (cmask_drawer:PySem.W.codeIn K cdmask_drawer "Hall.ask_drawer" = true) (kmask_drawer:PySem.W.keepIn K (.ref fmask_drawer)=true) (imask_drawer:PySem.W.isFn K (.ref fmask_drawer)=true)
    (amask_thing:PySem.W.findIn K (.ref cHall) "ask_thing" = some (some (.ref fmask_thing)))
    (lmask_thing:K.lookup fmask_thing=some ⟨ocmask_thing,odmask_thing,.func (PySem.W.fnOf "ask_thing" "Hall.ask_thing" (defArgs q0u) (defBody q0u) (defScope q0u) .none kVmask_thing dcmask_thing pmmask_thing anmask_thing cdmask_thing ctmask_thing),slmask_thing⟩) (cmask_thing:PySem.W.codeIn K cdmask_thing "Hall.ask_thing" = true) (kmask_thing:PySem.W.keepIn K (.ref fmask_thing)=true) (imask_thing:PySem.W.isFn K (.ref fmask_thing)=true)
    (amdrop:PySem.W.findIn K (.ref cHall) "drop" = some (some (.ref fmdrop)))
    (lmdrop:K.lookup fmdrop=some ⟨ocmdrop,odmdrop,.func (PySem.W.fnOf "drop" "Hall.drop" (defArgs q1n) (defBody q1n) (defScope q1n) .none kVmdrop dcmdrop pmmdrop anmdrop cdmdrop ctmdrop),slmdrop⟩) (cmdrop:PySem.W.codeIn K cdmdrop "Hall.drop" = true) (kmdrop:PySem.W.keepIn K (.ref fmdrop)=true) (imdrop:PySem.W.isFn K (.ref fmdrop)=true)
    (amis_blind:PySem.W.findIn K (.ref cHall) "is_blind" = some (some (.ref fmis_blind)))
    (lmis_blind:K.lookup fmis_blind=some ⟨ocmis_blind,odmis_blind,.func (PySem.W.fnOf "is_blind" "Hall.is_blind" (defArgs q0w) (defBody q0w) (defScope q0w) .none kVmis_blind dcmis_blind pmmis_blind anmis_blind cdmis_blind ctmis_blind),slmis_blind⟩) (cmis_blind:PySem.W.codeIn K cdmis_blind "Hall.is_blind" = true) (kmis_blind:PySem.W.keepIn K (.ref fmis_blind)=true) (imis_blind:PySem.W.isFn K (.ref fmis_blind)=true)
    (amis_drawer:PySem.W.findIn K (.ref cHall) "is_drawer" = some (some (.ref fmis_drawer)))
    (lmis_drawer:K.lookup fmis_drawer=some ⟨ocmis_drawer,odmis_drawer,.func (PySem.W.fnOf "is_drawer" "Hall.is_drawer" (defArgs q0s) (defBody q0s) (defScope q0s) .none kVmis_drawer dcmis_drawer pmmis_drawer anmis_drawer cdmis_drawer ctmis_drawer),slmis_drawer⟩) (cmis_drawer:PySem.W.codeIn K cdmis_drawer "Hall.is_drawer" = true) (kmis_drawer:PySem.W.keepIn K (.ref fmis_drawer)=true) (imis_drawer:PySem.W.isFn K (.ref fmis_drawer)=true)
    (amis_one_place:PySem.W.findIn K (.ref cHall) "is_one_place" = some (some (.ref fmis_one_place)))
    (lmis_one_place:K.lookup fmis_one_place=some ⟨ocmis_one_place,odmis_one_place,.func (PySem.W.fnOf "is_one_place" "Hall.is_one_place" (defArgs q0n) (defBody q0n) (defScope q0n) .none kVmis_one_place dcmis_one_place pmmis_one_place anmis_one_place cdmis_one_place ctmis_one_place),slmis_one_place⟩) (cmis_one_place:PySem.W.codeIn K cdmis_one_place "Hall.is_one_place" = true) (kmis_one_place:PySem.W.keepIn K (.ref fmis_one_place)=true) (imis_one_place:PySem.W.isFn K (.ref fmis_one_place)=true)
    (amnames_in:PySem.W.findIn K (.ref cHall) "names_in" = some (some (.ref fmnames_in)))
    (lmnames_in:K.lookup fmnames_in=some ⟨ocmnames_in,odmnames_in,.func (PySem.W.fnOf "names_in" "Hall.names_in" (defArgs q0x) (defBody q0x) (defScope q0x) .none kVmnames_in dcmnames_in pmmnames_in anmnames_in cdmnames_in ctmnames_in),slmnames_in⟩) (cmnames_in:PySem.W.codeIn K cdmnames_in "Hall.names_in" = true) (kmnames_in:PySem.W.keepIn K (.ref fmnames_in)=true) (imnames_in:PySem.W.isFn K (.ref fmnames_in)=true)
    (amput:PySem.W.findIn K (.ref cHall) "put" = some (some (.ref fmput)))
    (lmput:K.lookup fmput=some ⟨ocmput,odmput,.func (PySem.W.fnOf "put" "Hall.put" (defArgs q1s) (defBody q1s) (defScope q1s) .none kVmput dcmput pmmput anmput cdmput ctmput),slmput⟩) (cmput:PySem.W.codeIn K cdmput "Hall.put" = true) (kmput:PySem.W.keepIn K (.ref fmput)=true) (imput:PySem.W.isFn K (.ref fmput)=true)
    (amrows:PySem.W.findIn K (.ref cHall) "rows" = some (some (.ref fmrows)))
    (lmrows:K.lookup fmrows=some ⟨ocmrows,odmrows,.func (PySem.W.fnOf "rows" "Hall.rows" (defArgs q1m) (defBody q1m) (defScope q1m) .none kVmrows dcmrows pmmrows anmrows cdmrows ctmrows),slmrows⟩) (cmrows:PySem.W.codeIn K cdmrows "Hall.rows" = true) (kmrows:PySem.W.keepIn K (.ref fmrows)=true) (imrows:PySem.W.isFn K (.ref fmrows)=true)
    (amthere:PySem.W.findIn K (.ref cHall) "there" = some (some (.ref fmthere)))
    (lmthere:K.lookup fmthere=some ⟨ocmthere,odmthere,.func (PySem.W.fnOf "there" "Hall.there" (defArgs q1i) (defBody q1i) (defScope q1i) .none kVmthere dcmthere pmmthere anmthere cdmthere ctmthere),slmthere⟩) (cmthere:PySem.W.codeIn K cdmthere "Hall.there" = true) (kmthere:PySem.W.keepIn K (.ref fmthere)=true) (imthere:PySem.W.isFn K (.ref fmthere)=true) :
    ∃ fd:FuncData,(∀ (s:Shared) (v:Value),BindsTo s fd ⟨[v],[]⟩ [("_law_script",v)])∧∀ base:Heap,K.In base→base.Ns mainGlobals mg→FnOk lw.prog w K mg base CX0 9 fa fd ["_law_script"] (spLaw K):=by
  have e:=hfa.symm.trans (PySem.W.mg_of X G a16)
  cases e
  have D_alike:Df K mg "alike" q3j ["one", "other"]:=q3o X G a0 l0 c0 k0 fun _ _ _ _ _ _ us hl=>by obtain⟨_,_,rfl⟩:=q2t hl;rfl
  have D_draw:Df K mg "_law_draw" q4r ["_law_feed", "_law_many"]:=q3o X G a1 l1 c1 k1 fun _ _ _ _ _ _ us hl=>by obtain⟨_,_,rfl⟩:=q2t hl;rfl
  have D_name:Df K mg "_law_name" q4s ["_law_feed"]:=q3o X G a2 l2 c2 k2 fun _ _ _ _ _ _ us hl=>by obtain⟨_,rfl⟩:=z6e hl;rfl
  have D_folded:Df K mg "_law_folded" q2m ["_law_path_here", "_law_blind"]:=q3o X G a3 l3 c3 k3 fun _ _ _ _ _ _ us hl=>by obtain⟨_,_,rfl⟩:=q2t hl;rfl
  have D_rows:Df K mg "_law_rows" q4v ["_law_feed", "_law_blind", "_law_most"]:=q3o X G a4 l4 c4 k4 fun _ _ _ _ _ _ us hl=>by obtain⟨_,_,_,rfl⟩:=z0l hl;rfl
  have D_mixed:Df K mg "_law_mixed" q3i ["_law_feed", "_law_rows_here"]:=q3o X G a5 l5 c5 k5 fun _ _ _ _ _ _ us hl=>by obtain⟨_,_,rfl⟩:=q2t hl;rfl
  have D_rows_right:Df K mg "_law_rows_right" q1p ["_law_hall", "_law_marks"]:=q3o X G a6 l6 c6 k6 fun _ _ _ _ _ _ us hl=>by obtain⟨_,_,rfl⟩:=q2t hl;rfl
  have D_there:Df K mg "_law_there" q3k ["_law_marks", "_law_blind", "_law_place"]:=q3o X G a7 l7 c7 k7 fun _ _ _ _ _ _ us hl=>by obtain⟨_,_,_,rfl⟩:=z0l hl;rfl
  have D_put_due:Df K mg "_law_put_due" q2a ["_law_marks", "_law_blind", "_law_path_here"]:=q3o X G a8 l8 c8 k8 fun _ _ _ _ _ _ us hl=>by obtain⟨_,_,_,rfl⟩:=z0l hl;rfl
  have D_drop_due:Df K mg "_law_drop_due" q1v ["_law_marks", "_law_path_here"]:=q3o X G a9 l9 c9 k9 fun _ _ _ _ _ _ us hl=>by obtain⟨_,_,rfl⟩:=q2t hl;rfl
  have D_filled:Df K mg "_law_filled" q2o ["_law_rows_here", "_law_blind", "_law_many"]:=q3o X G a10 l10 c10 k10 fun _ _ _ _ _ _ us hl=>by obtain⟨_,_,_,rfl⟩:=z0l hl;rfl
  have D_near:Df K mg "_law_near" q5b ["_law_feed", "_law_path_here"]:=q3o X G a11 l11 c11 k11 fun _ _ _ _ _ _ us hl=>by obtain⟨_,_,rfl⟩:=q2t hl;rfl
  have D_word:Df K mg "_law_word" q4z ["_law_error"]:=q3o X G a12 l12 c12 k12 fun _ _ _ _ _ _ us hl=>by obtain⟨_,rfl⟩:=z6e hl;rfl
  have D_told:Df K mg "_law_told" q5a ["_law_hall", "_law_word_here", "_law_path_here", "_law_mark"]:=q3o X G a13 l13 c13 k13 fun _ _ _ _ _ _ us hl=>by obtain⟨_,_,_,_,rfl⟩:=len_4 hl;rfl
  have D_path:Df K mg "_law_path" q5c ["_law_feed", "_law_marks"]:=q3o X G a14 l14 c14 k14 fun _ _ _ _ _ _ us hl=>by obtain⟨_,_,rfl⟩:=q2t hl;rfl
  have D_one:Df K mg "_law_one" q7j ["_law_feed"]:=q3o X G a15 l15 c15 k15 fun _ _ _ _ _ _ us hl=>by obtain⟨_,rfl⟩:=z6e hl;rfl
  have gl_HallError:mg "HallError" = some (.ref eHallError):=PySem.W.mg_of X G geHallError
  have EB_HallError:EBase K eHallError:=⟨nmeHallError,qneHallError,NeHallError,bseHallError,sneHallError,subeHallError,abeHallError,coleHallError,ddeHallError,k0eHallError,k1eHallError,k2eHallError,k3eHallError,k5eHallError,leHallError,q3h neHallError seHallError,ieHallError⟩
  have EN_HallError:EIni K eHallError mcH:=⟨spH,rdH,fcH⟩
  have gl_NoPattern:mg "NoPattern" = some (.ref eNoPattern):=PySem.W.mg_of X G geNoPattern
  have gl_NoTemplate:mg "NoTemplate" = some (.ref eNoTemplate):=PySem.W.mg_of X G geNoTemplate
  have gl_NoHall:mg "NoHall" = some (.ref eNoHall):=PySem.W.mg_of X G geNoHall
  have gl_NoThing:mg "NoThing" = some (.ref eNoThing):=PySem.W.mg_of X G geNoThing
  have EL_NoThing:ELaw K eNoThing eHallError fiNoThing:=⟨⟨nmeNoThing,qneNoThing,NeNoThing,bseNoThing,sneNoThing,subeNoThing,abeNoThing,coleNoThing,ddeNoThing,k0eNoThing,k1eNoThing,k2eNoThing,k3eNoThing,k5eNoThing,leNoThing,q3h neNoThing seNoThing,ieNoThing⟩,⟨_,liNoThing,tiNoThing⟩,kpeNoThing⟩
  have EF_NoThing:Ef K mg "NoThing" eNoThing eHallError "NoThing.__init__" q0q ["self", "path"]:=⟨⟨fiNoThing,_,mcH,q0z liNoThing ciNoThing kiNoThing,EL_NoThing,EB_HallError,EN_HallError,(q0z (st:=q0q) liNoThing ciNoThing kiNoThing).binds fun _ _ _ _ _ _ us hl=>by obtain⟨_,_,rfl⟩:=q2t hl;rfl⟩,gl_NoThing⟩
  have ES_NoThing_path:ESet K eNoThing "path" := EL_NoThing.set saeNoThing tkeNoThing_path
  have EG_NoThing_path:EGet K eNoThing "path" := EL_NoThing.get gaeNoThing gheNoThing tkeNoThing_path
  have EI_NoThing:EIsi K eNoThing:=⟨EL_NoThing.clsIn,gaeNoThing,gheNoThing,haeNoThing,hnO,htkO⟩
  have gl_NoDrawer:mg "NoDrawer" = some (.ref eNoDrawer):=PySem.W.mg_of X G geNoDrawer
  have EL_NoDrawer:ELaw K eNoDrawer eHallError fiNoDrawer:=⟨⟨nmeNoDrawer,qneNoDrawer,NeNoDrawer,bseNoDrawer,sneNoDrawer,subeNoDrawer,abeNoDrawer,coleNoDrawer,ddeNoDrawer,k0eNoDrawer,k1eNoDrawer,k2eNoDrawer,k3eNoDrawer,k5eNoDrawer,leNoDrawer,q3h neNoDrawer seNoDrawer,ieNoDrawer⟩,⟨_,liNoDrawer,tiNoDrawer⟩,kpeNoDrawer⟩
  have EF_NoDrawer:Ef K mg "NoDrawer" eNoDrawer eHallError "NoDrawer.__init__" q0o ["self", "path"]:=⟨⟨fiNoDrawer,_,mcH,q0z liNoDrawer ciNoDrawer kiNoDrawer,EL_NoDrawer,EB_HallError,EN_HallError,(q0z (st:=q0o) liNoDrawer ciNoDrawer kiNoDrawer).binds fun _ _ _ _ _ _ us hl=>by obtain⟨_,_,rfl⟩:=q2t hl;rfl⟩,gl_NoDrawer⟩
  have ES_NoDrawer_path:ESet K eNoDrawer "path" := EL_NoDrawer.set saeNoDrawer tkeNoDrawer_path
  have EG_NoDrawer_path:EGet K eNoDrawer "path" := EL_NoDrawer.get gaeNoDrawer gheNoDrawer tkeNoDrawer_path
  have EI_NoDrawer:EIsi K eNoDrawer:=⟨EL_NoDrawer.clsIn,gaeNoDrawer,gheNoDrawer,haeNoDrawer,hnO,htkO⟩
  have gl_Taken:mg "Taken" = some (.ref eTaken):=PySem.W.mg_of X G geTaken
  have EL_Taken:ELaw K eTaken eHallError fiTaken:=⟨⟨nmeTaken,qneTaken,NeTaken,bseTaken,sneTaken,subeTaken,abeTaken,coleTaken,ddeTaken,k0eTaken,k1eTaken,k2eTaken,k3eTaken,k5eTaken,leTaken,q3h neTaken seTaken,ieTaken⟩,⟨_,liTaken,tiTaken⟩,kpeTaken⟩
  have EF_Taken:Ef K mg "Taken" eTaken eHallError "Taken.__init__" q0t ["self", "path"]:=⟨⟨fiTaken,_,mcH,q0z liTaken ciTaken kiTaken,EL_Taken,EB_HallError,EN_HallError,(q0z (st:=q0t) liTaken ciTaken kiTaken).binds fun _ _ _ _ _ _ us hl=>by obtain⟨_,_,rfl⟩:=q2t hl;rfl⟩,gl_Taken⟩
  have ES_Taken_path:ESet K eTaken "path" := EL_Taken.set saeTaken tkeTaken_path
  have EG_Taken_path:EGet K eTaken "path" := EL_Taken.get gaeTaken gheTaken tkeTaken_path
  have EI_Taken:EIsi K eTaken:=⟨EL_Taken.clsIn,gaeTaken,gheTaken,haeTaken,hnO,htkO⟩
  have gl_Fixed:mg "Fixed" = some (.ref eFixed):=PySem.W.mg_of X G geFixed
  have gl_NotEmpty:mg "NotEmpty" = some (.ref eNotEmpty):=PySem.W.mg_of X G geNotEmpty
  have EL_NotEmpty:ELaw K eNotEmpty eHallError fiNotEmpty:=⟨⟨nmeNotEmpty,qneNotEmpty,NeNotEmpty,bseNotEmpty,sneNotEmpty,subeNotEmpty,abeNotEmpty,coleNotEmpty,ddeNotEmpty,k0eNotEmpty,k1eNotEmpty,k2eNotEmpty,k3eNotEmpty,k5eNotEmpty,leNotEmpty,q3h neNotEmpty seNotEmpty,ieNotEmpty⟩,⟨_,liNotEmpty,tiNotEmpty⟩,kpeNotEmpty⟩
  have EF_NotEmpty:Ef K mg "NotEmpty" eNotEmpty eHallError "NotEmpty.__init__" q0p ["self", "path"]:=⟨⟨fiNotEmpty,_,mcH,q0z liNotEmpty ciNotEmpty kiNotEmpty,EL_NotEmpty,EB_HallError,EN_HallError,(q0z (st:=q0p) liNotEmpty ciNotEmpty kiNotEmpty).binds fun _ _ _ _ _ _ us hl=>by obtain⟨_,_,rfl⟩:=q2t hl;rfl⟩,gl_NotEmpty⟩
  have ES_NotEmpty_path:ESet K eNotEmpty "path" := EL_NotEmpty.set saeNotEmpty tkeNotEmpty_path
  have EG_NotEmpty_path:EGet K eNotEmpty "path" := EL_NotEmpty.get gaeNotEmpty gheNotEmpty tkeNotEmpty_path
  have EI_NotEmpty:EIsi K eNotEmpty:=⟨EL_NotEmpty.clsIn,gaeNotEmpty,gheNotEmpty,haeNotEmpty,hnO,htkO⟩
  have gl_NoWish:mg "NoWish" = some (.ref eNoWish):=PySem.W.mg_of X G geNoWish
  have gl_Meets:mg "Meets" = some (.ref eMeets):=PySem.W.mg_of X G geMeets
  have gl_NoPlace:mg "NoPlace" = some (.ref eNoPlace):=PySem.W.mg_of X G geNoPlace
  have gl_Broken:mg "Broken" = some (.ref eBroken):=PySem.W.mg_of X G geBroken
  have gl_Strayed:mg "Strayed" = some (.ref eStrayed):=PySem.W.mg_of X G geStrayed
  have gl_NoText:mg "NoText" = some (.ref eNoText):=PySem.W.mg_of X G geNoText
  have gl_NoRule:mg "NoRule" = some (.ref eNoRule):=PySem.W.mg_of X G geNoRule
  have gl_Full:mg "Full" = some (.ref eFull):=PySem.W.mg_of X G geFull
  have EL_Full:ELaw0 K eFull eHallError:=⟨⟨nmeFull,qneFull,NeFull,bseFull,sneFull,subeFull,abeFull,coleFull,ddeFull,k0eFull,k1eFull,k2eFull,k3eFull,k5eFull,leFull,q3h neFull seFull,ieFull⟩,kpeFull,EB_HallError⟩
  have EI_Full:EIsi K eFull:=⟨EL_Full.clsIn,gaeFull,gheFull,haeFull,hnO,htkO⟩
  have gl_NoBook:mg "NoBook" = some (.ref eNoBook):=PySem.W.mg_of X G geNoBook
  have gl_NoSame:mg "NoSame" = some (.ref eNoSame):=PySem.W.mg_of X G geNoSame
  have gl_TooMuch:mg "TooMuch" = some (.ref eTooMuch):=PySem.W.mg_of X G geTooMuch
  have gl_NoLine:mg "NoLine" = some (.ref eNoLine):=PySem.W.mg_of X G geNoLine
  have gl_Busy:mg "Busy" = some (.ref eBusy):=PySem.W.mg_of X G geBusy
  have gl_NoDoer:mg "NoDoer" = some (.ref eNoDoer):=PySem.W.mg_of X G geNoDoer
  have gl_NoRules:mg "NoRules" = some (.ref eNoRules):=PySem.W.mg_of X G geNoRules
  have clcHall:Cls K cHall:=⟨pgcHall,hdcHall,pocHall,sacHall⟩
  have K_Hall:Kf K mg cHall "Hall" "Hall.__init__" q1d ["self", "rows", "blind"]:=⟨⟨fminit,_,ocminit,odminit,.ref dtminit,kVminit,dcminit,pmminit,anminit,cdminit,ctminit,slminit,rfl,lminit,cminit,⟨mkcHall,aminit,iminit,kccHall⟩,fun s us Y hl=>by obtain⟨_,_,_,rfl⟩:=z0l (by rw [List.append_nil] at hl;exact hl:us.length=3);exact PySem.W.binds_K Y rfl tminit rfl rfl rfl,fun s us Y hl=>by obtain⟨_,_,rfl⟩:=q2t (by rw [List.length_append] at hl;exact Nat.succ.inj hl:us.length=2);exact PySem.W.binds_K Y rfl tminit rfl rfl rfl⟩,PySem.W.mg_of X G gcHall,clcHall⟩
  have M_ask_drawer:Mf K cHall "ask_drawer" "Hall.ask_drawer" q0r ["self", "path"]:=⟨⟨fmask_drawer,_,q0z lmask_drawer cmask_drawer kmask_drawer,⟨amask_drawer,imask_drawer,kmask_drawer⟩,(q0z (st:=q0r) lmask_drawer cmask_drawer kmask_drawer).binds fun _ _ _ _ _ _ us hl=>by obtain⟨_,_,rfl⟩:=q2t hl;rfl⟩⟩
  have M_ask_thing:Mf K cHall "ask_thing" "Hall.ask_thing" q0u ["self", "path"]:=⟨⟨fmask_thing,_,q0z lmask_thing cmask_thing kmask_thing,⟨amask_thing,imask_thing,kmask_thing⟩,(q0z (st:=q0u) lmask_thing cmask_thing kmask_thing).binds fun _ _ _ _ _ _ us hl=>by obtain⟨_,_,rfl⟩:=q2t hl;rfl⟩⟩
  have M_drop:Mf K cHall "drop" "Hall.drop" q1n ["self", "path"]:=⟨⟨fmdrop,_,q0z lmdrop cmdrop kmdrop,⟨amdrop,imdrop,kmdrop⟩,(q0z (st:=q1n) lmdrop cmdrop kmdrop).binds fun _ _ _ _ _ _ us hl=>by obtain⟨_,_,rfl⟩:=q2t hl;rfl⟩⟩
  have M_is_blind:Mf K cHall "is_blind" "Hall.is_blind" q0w ["self"]:=⟨⟨fmis_blind,_,q0z lmis_blind cmis_blind kmis_blind,⟨amis_blind,imis_blind,kmis_blind⟩,(q0z (st:=q0w) lmis_blind cmis_blind kmis_blind).binds fun _ _ _ _ _ _ us hl=>by obtain⟨_,rfl⟩:=z6e hl;rfl⟩⟩
  have M_is_drawer:Mf K cHall "is_drawer" "Hall.is_drawer" q0s ["self", "path"]:=⟨⟨fmis_drawer,_,q0z lmis_drawer cmis_drawer kmis_drawer,⟨amis_drawer,imis_drawer,kmis_drawer⟩,(q0z (st:=q0s) lmis_drawer cmis_drawer kmis_drawer).binds fun _ _ _ _ _ _ us hl=>by obtain⟨_,_,rfl⟩:=q2t hl;rfl⟩⟩
  have M_is_one_place:Mf K cHall "is_one_place" "Hall.is_one_place" q0n ["self", "one", "other"]:=⟨⟨fmis_one_place,_,q0z lmis_one_place cmis_one_place kmis_one_place,⟨amis_one_place,imis_one_place,kmis_one_place⟩,(q0z (st:=q0n) lmis_one_place cmis_one_place kmis_one_place).binds fun _ _ _ _ _ _ us hl=>by obtain⟨_,_,_,rfl⟩:=z0l hl;rfl⟩⟩
  have M_names_in:Mf K cHall "names_in" "Hall.names_in" q0x ["self", "path"]:=⟨⟨fmnames_in,_,q0z lmnames_in cmnames_in kmnames_in,⟨amnames_in,imnames_in,kmnames_in⟩,(q0z (st:=q0x) lmnames_in cmnames_in kmnames_in).binds fun _ _ _ _ _ _ us hl=>by obtain⟨_,_,rfl⟩:=q2t hl;rfl⟩⟩
  have M_put:Mf K cHall "put" "Hall.put" q1s ["self", "path", "mark"]:=⟨⟨fmput,_,q0z lmput cmput kmput,⟨amput,imput,kmput⟩,(q0z (st:=q1s) lmput cmput kmput).binds fun _ _ _ _ _ _ us hl=>by obtain⟨_,_,_,rfl⟩:=z0l hl;rfl⟩⟩
  have M_rows:Mf K cHall "rows" "Hall.rows" q1m ["self"]:=⟨⟨fmrows,_,q0z lmrows cmrows kmrows,⟨amrows,imrows,kmrows⟩,(q0z (st:=q1m) lmrows cmrows kmrows).binds fun _ _ _ _ _ _ us hl=>by obtain⟨_,rfl⟩:=z6e hl;rfl⟩⟩
  have M_there:Mf K cHall "there" "Hall.there" q1i ["self", "place"]:=⟨⟨fmthere,_,q0z lmthere cmthere kmthere,⟨amthere,imthere,kmthere⟩,(q0z (st:=q1i) lmthere cmthere kmthere).binds fun _ _ _ _ _ _ us hl=>by obtain⟨_,_,rfl⟩:=q2t hl;rfl⟩⟩
  have T:Txt mg:=⟨PySem.W.mg_none_of X G z0,PySem.W.mg_none_of X G z1,PySem.W.mg_none_of X G z2,PySem.W.mg_none_of X G z3,PySem.W.mg_none_of X G z4,PySem.W.mg_none_of X G z5,PySem.W.mg_none_of X G z6,PySem.W.mg_none_of X G z7,PySem.W.mg_none_of X G z8,PySem.W.mg_none_of X G z9,PySem.W.mg_none_of X G z10,PySem.W.mg_none_of X G z11,PySem.W.mg_none_of X G z12,⟨_,PySem.W.mg_of X G gv0⟩⟩
  have FL:=q0z (st:=q3d) l16 c16 k16
  refine⟨PySem.W.fnOf "law" "law" (defArgs q3d) (defBody q3d) (defScope q3d) .none kV16 dc16 pm16 an16 cd16 ct16,fun s v => .of_eq rfl,fun base _ _ => ?_⟩
  have hk:Hk K cHall:=⟨clcHall,nacHall_blind,nacHall_marks⟩
  have c1:=x0a (P:=lw.prog) (w:=w) (base:=base) D_draw T
  have c2:=x0b (P:=lw.prog) (w:=w) (base:=base) D_name T ⟨c1⟩
  have c3:=z5o (P:=lw.prog) (w:=w) (base:=base) D_folded T
  have c4:=x0c (P:=lw.prog) (w:=w) (base:=base) D_rows T ⟨c1,c2,c3⟩
  have c5:=z7t (P:=lw.prog) (w:=w) (base:=base) D_mixed T ⟨c1⟩
  have c6:=z7v (P:=lw.prog) (w:=w) (base:=base) D_alike T
  have c7:=q9n (P:=lw.prog) (w:=w) (base:=base) M_is_one_place hk T ⟨c6⟩
  have c8:=z7w (P:=lw.prog) (w:=w) (base:=base) M_there hk T ⟨c7⟩
  have c9:=x0d (P:=lw.prog) (w:=w) (base:=base) K_Hall hk T ⟨c8⟩
  have c10:=z7y (P:=lw.prog) (w:=w) (base:=base) M_rows hk T
  have c11:=z7x (P:=lw.prog) (w:=w) (base:=base) M_is_blind hk T
  have c12:=z7z (P:=lw.prog) (w:=w) (base:=base) D_rows_right T ⟨c10⟩
  have c14:=q9p (P:=lw.prog) (w:=w) (base:=base) M_is_drawer hk T
  have eT:=q6n (P:=lw.prog) (w:=w) (base:=base) EF_NoThing gl_HallError ES_NoThing_path
  have eD:=q5i (P:=lw.prog) (w:=w) (base:=base) EF_NoDrawer gl_HallError ES_NoDrawer_path
  have eK:=q8e (P:=lw.prog) (w:=w) (base:=base) EF_Taken gl_HallError ES_Taken_path
  have eN:=q5j (P:=lw.prog) (w:=w) (base:=base) EF_NotEmpty gl_HallError ES_NotEmpty_path
  have c15:=q8f (P:=lw.prog) (w:=w) (base:=base) M_ask_thing hk T ⟨eT⟩
  have c16:=q6s (P:=lw.prog) (w:=w) (base:=base) M_ask_drawer hk T ⟨eD,c14⟩
  have c17:=z5s (P:=lw.prog) (w:=w) (base:=base) M_names_in hk T ⟨c15,c16⟩
  have c18:=x0e (P:=lw.prog) (w:=w) (base:=base) (Cn:=eNoThing) (Ce:=eNotEmpty) M_put hk T ⟨c16,there1 c8,eK,EL_Full,gl_Full⟩
  have c18b:=z8b (P:=lw.prog) (w:=w) (base:=base) (Ct:=eTaken) M_drop hk T ⟨c15,c14,c17,eN⟩
  have wd_NoThing:Wd K eNoThing [eNoThing,eNoDrawer,eTaken,eFixed,eNotEmpty,eFull] [eBroken,eBusy,eMeets,eNoBook,eNoDoer,eNoHall,eNoLine,eNoPattern,eNoPlace,eNoRule] [eNoRules,eNoSame,eNoTemplate,eNoText,eNoWish,eStrayed,eTooMuch] 0:=⟨q9r KO_NoThing_NoThing KO_NoThing_NoDrawer KO_NoThing_Taken KO_NoThing_Fixed KO_NoThing_NotEmpty KO_NoThing_Full,KA_NoThing__Broken__Busy__Meets__NoBook__NoDoer__NoHall__NoLine__NoPattern__NoPlace__NoRule,KA_NoThing__NoRules__NoSame__NoTemplate__NoText__NoWish__Strayed__TooMuch,KO_NoThing_ValueError,EI_NoThing,fun _=>EG_NoThing_path⟩
  have wd_NoDrawer:Wd K eNoDrawer [eNoThing,eNoDrawer,eTaken,eFixed,eNotEmpty,eFull] [eBroken,eBusy,eMeets,eNoBook,eNoDoer,eNoHall,eNoLine,eNoPattern,eNoPlace,eNoRule] [eNoRules,eNoSame,eNoTemplate,eNoText,eNoWish,eStrayed,eTooMuch] 1:=⟨q9r KO_NoDrawer_NoThing KO_NoDrawer_NoDrawer KO_NoDrawer_Taken KO_NoDrawer_Fixed KO_NoDrawer_NotEmpty KO_NoDrawer_Full,KA_NoDrawer__Broken__Busy__Meets__NoBook__NoDoer__NoHall__NoLine__NoPattern__NoPlace__NoRule,KA_NoDrawer__NoRules__NoSame__NoTemplate__NoText__NoWish__Strayed__TooMuch,KO_NoDrawer_ValueError,EI_NoDrawer,fun _=>EG_NoDrawer_path⟩
  have wd_Taken:Wd K eTaken [eNoThing,eNoDrawer,eTaken,eFixed,eNotEmpty,eFull] [eBroken,eBusy,eMeets,eNoBook,eNoDoer,eNoHall,eNoLine,eNoPattern,eNoPlace,eNoRule] [eNoRules,eNoSame,eNoTemplate,eNoText,eNoWish,eStrayed,eTooMuch] 2:=⟨q9r KO_Taken_NoThing KO_Taken_NoDrawer KO_Taken_Taken KO_Taken_Fixed KO_Taken_NotEmpty KO_Taken_Full,KA_Taken__Broken__Busy__Meets__NoBook__NoDoer__NoHall__NoLine__NoPattern__NoPlace__NoRule,KA_Taken__NoRules__NoSame__NoTemplate__NoText__NoWish__Strayed__TooMuch,KO_Taken_ValueError,EI_Taken,fun _=>EG_Taken_path⟩
  have wd_NotEmpty:Wd K eNotEmpty [eNoThing,eNoDrawer,eTaken,eFixed,eNotEmpty,eFull] [eBroken,eBusy,eMeets,eNoBook,eNoDoer,eNoHall,eNoLine,eNoPattern,eNoPlace,eNoRule] [eNoRules,eNoSame,eNoTemplate,eNoText,eNoWish,eStrayed,eTooMuch] 4:=⟨q9r KO_NotEmpty_NoThing KO_NotEmpty_NoDrawer KO_NotEmpty_Taken KO_NotEmpty_Fixed KO_NotEmpty_NotEmpty KO_NotEmpty_Full,KA_NotEmpty__Broken__Busy__Meets__NoBook__NoDoer__NoHall__NoLine__NoPattern__NoPlace__NoRule,KA_NotEmpty__NoRules__NoSame__NoTemplate__NoText__NoWish__Strayed__TooMuch,KO_NotEmpty_ValueError,EI_NotEmpty,fun _=>EG_NotEmpty_path⟩
  have wd_Full:Wd K eFull [eNoThing,eNoDrawer,eTaken,eFixed,eNotEmpty,eFull] [eBroken,eBusy,eMeets,eNoBook,eNoDoer,eNoHall,eNoLine,eNoPattern,eNoPlace,eNoRule] [eNoRules,eNoSame,eNoTemplate,eNoText,eNoWish,eStrayed,eTooMuch] 5:=⟨q9r KO_Full_NoThing KO_Full_NoDrawer KO_Full_Taken KO_Full_Fixed KO_Full_NotEmpty KO_Full_Full,KA_Full__Broken__Busy__Meets__NoBook__NoDoer__NoHall__NoLine__NoPattern__NoPlace__NoRule,KA_Full__NoRules__NoSame__NoTemplate__NoText__NoWish__Strayed__TooMuch,KO_Full_ValueError,EI_Full,fun z=>absurd z (by decide)⟩
  have gw:Glw mg eNoThing eNoDrawer eTaken eFixed eNotEmpty eFull [eBroken,eBusy,eMeets,eNoBook,eNoDoer,eNoHall,eNoLine,eNoPattern,eNoPlace,eNoRule] [eNoRules,eNoSame,eNoTemplate,eNoText,eNoWish,eStrayed,eTooMuch]:=⟨gl_NoThing,gl_NoDrawer,gl_Taken,gl_Fixed,gl_NotEmpty,gl_Full,eBroken,eBusy,eMeets,eNoBook,eNoDoer,eNoHall,eNoLine,eNoPattern,eNoPlace,eNoRule,eNoRules,eNoSame,eNoTemplate,eNoText,eNoWish,eStrayed,eTooMuch,rfl,rfl,gl_Broken,gl_Busy,gl_Meets,gl_NoBook,gl_NoDoer,gl_NoHall,gl_NoLine,gl_NoPattern,gl_NoPlace,gl_NoRule,gl_NoRules,gl_NoSame,gl_NoTemplate,gl_NoText,gl_NoWish,gl_Strayed,gl_TooMuch⟩
  have c19:=x0j (P:=lw.prog) (w:=w) (base:=base) D_word T gw
  have CT:CallsTo lw.prog w K mg base cHall eNoThing eNoDrawer eTaken eNotEmpty eFull eHallError _ _ _:=⟨c18,c18b,c19,gl_HallError,EB_HallError.cls,⟨EL_NoThing.sub,EL_NoDrawer.sub,EL_Taken.sub,EL_NotEmpty.sub,EL_Full.sub⟩,⟨wd_NoThing,wd_NoDrawer,wd_Taken,wd_NotEmpty,wd_Full⟩⟩
  have c20:=x0k (P:=lw.prog) (w:=w) (base:=base) D_told T CT
  have c21:=z5t (P:=lw.prog) (w:=w) (base:=base) D_there T ⟨c3⟩
  have c22:=x0m (P:=lw.prog) (w:=w) (base:=base) D_near T ⟨c1,c2⟩
  have c23:=z2o (P:=lw.prog) (w:=w) (base:=base) D_put_due T ⟨c21⟩
  have c24:=z0k (P:=lw.prog) (w:=w) (base:=base) D_drop_due T
  have c25:=x0o (P:=lw.prog) (w:=w) (base:=base) D_path T ⟨c1,c2,c22⟩
  have c26:=z5z (P:=lw.prog) (w:=w) (base:=base) D_filled T ⟨c3⟩
  have CL:CallsL lw.prog w K mg base:=⟨ok_one D_one T ⟨c1,c4,c5,c26,c25,c23,c24,c20,c12,c11,c9⟩⟩
  exact FL.ok sc_law (fun vs H Q E h=>by obtain⟨a,ns,rfl,_⟩:=h;rfl) (fun cdv A outer s H vs Q E hr h=>z8i T CL _ cdv A outer s H vs Q E hr h)
theorem walk {l:PySem.W.OpenLaw} {q:Program} {loose:List Str} {XP:(Str→Option Value)→Heap→Prop} {YP:World→Heap→Prop} {d:DefRec} {K:Params→PySem.W.Frag} (hn:l.most=some 63) (hdf:d.params.defaults = [])
    (hY:∀ (w:World) (h:Heap),YP w h→(K w.params).In h)
    (F:∀ (w:World) (mg:Str→Option Value) (fa:Addr) (h:Heap),(K w.params).In h→h.Ns mainGlobals mg→mg d.name=some (.ref fa) →
      ∃ fd:FuncData,(∀ (s:Shared) (u:Value),BindsTo s fd ⟨[u],[]⟩ [("_law_script",u)])∧∀ base:Heap,(K w.params).In base→base.Ns mainGlobals mg→FnOk l.prog w (K w.params) mg base CX0 9 fa fd ["_law_script"] (spLaw (K w.params))) :
    PySem.W.WalkO q loose XP YP l.row.toRowW d [] (fun f vs=>PySem.call f vs) :=
  L2.walk_of (n:=63) (k:=9) (x := "_law_script") (CX:=fun _=>CX0) (sp:=fun w=>spLaw (K w.params)) hn (by decide) hdf ⟨rfl,by decide,by decide,rfl⟩ hY F (fun _ _ a ns hl _ hS=>⟨a,ns,rfl,hS,hl,fun _=>rfl⟩) fun _ _ _ _ _ z=>z
end K
namespace K
open PySem PySem.W PyProof.Rows
abbrev loose:List Str := [Str.ofString "_wall",Str.ofString "HallError",Str.ofString "NoPattern",Str.ofString "NoTemplate",Str.ofString "NoHall",Str.ofString "NoThing",Str.ofString "NoDrawer",Str.ofString "Taken",Str.ofString "Fixed",Str.ofString "NotEmpty",Str.ofString "NoWish",Str.ofString "Meets",Str.ofString "NoPlace",Str.ofString "Broken",Str.ofString "Strayed",Str.ofString "NoText",Str.ofString "NoRule",Str.ofString "Full",Str.ofString "NoBook",Str.ofString "NoSame",Str.ofString "TooMuch",Str.ofString "NoLine",Str.ofString "Busy",Str.ofString "NoDoer",Str.ofString "NoRules",Str.ofString "alike",Str.ofString "MOST_THINGS",Str.ofString "carried",Str.ofString "Hall",Str.ofString "_law_draw",Str.ofString "_law_name",Str.ofString "_law_folded",Str.ofString "_law_rows",Str.ofString "_law_mixed",Str.ofString "_law_rows_right",Str.ofString "_law_there",Str.ofString "_law_put_due",Str.ofString "_law_drop_due",Str.ofString "_law_filled",Str.ofString "_law_near",Str.ofString "_law_word",Str.ofString "_law_told",Str.ofString "_law_path",Str.ofString "_law_one"]
abbrev vw:Program:=view PySem.Challenge.pw_renamehall_k26_put_and_dropped [48]
abbrev xt (s:Shared):Bool:=xlAt vw [] s&&recOk [] s
end K
open PySem PySem.W PyProof.Rows
local macro_rules | `(tactic| o_head $H) => `(tactic| (
  refine holds_open (q:=K.vw) (loose:=K.loose) (Xt:=K.xt) (XP:=XL K.vw []) (Yf:=Hook.obs $H) (Ya:=Hook.val $H) (YP:=Hook.says $H) (N:=60000) ?hl (Hook.of $H) (Hook.keeps $H) (fun s e=>xl_of s (Bool.and_eq_true_iff.mp e).1) XL.keeps
    (by rfl) (by rfl) (by rfl) (fun s e=>recFacts_of (Bool.and_eq_true_iff.mp e).2) (by rfl) (by first | assumption | decide +kernel) (by decide +kernel) ⟨rfl,rfl,rfl,rfl,rfl,by decide +kernel⟩ ?hw ?hc))
set_option maxRecDepth 100000 in
set_option maxHeartbeats 0 in
theorem PySem.Challenge.cw_renamehall_k26_put_and_dropped_holds : PySem.Challenge.rw_renamehall_k26_put_and_dropped.Holds := by
  w_on;o_law;k_head;(case hw=>w_witness2)
  (case hl =>
    refine HD.left (by kernel_rfl) (by rfl) (fun _=>by kernel_rfl) fun w os => ?_
    change (segRunT treeTable PySem.Challenge.pw_renamehall_k26_put_and_dropped w 11 (some (.ref 6)) 0 60000 (HD.bootT w.params os) (topStub PySem.Challenge.pw_renamehall_k26_put_and_dropped)).map (fun r=>((staticsOk (importedModules PySem.Challenge.pw_renamehall_k26_put_and_dropped.main.body) (boot_heap w.params) r.2.1.abs.heap&&namesBound PySem.Challenge.pw_renamehall_k26_put_and_dropped r.2.1.abs.heap&&gensDone r.2.1.abs&&laidKept (boot_heap w.params) r.2.1.abs.heap),openSeen K.vw K.loose (importedModules PySem.Challenge.pw_renamehall_k26_put_and_dropped.main.body) K.xt true r.2.1.abs,_))=some (true,openGood K.vw K.loose,_)
    unfold K.xt K.vw
    rw [PySem.W.Fast.te10110043849684766642,PySem.W.Fast.te4187177175401517315,PySem.W.Fast.te14364793385576792824,PySem.W.Fast.te5923862056798008813,PySem.W.Fast.te7885868222562651938]
    kernel_rfl)
  k_fill
  refine K.walk (l:=PySem.Challenge.rw_renamehall_k26_put_and_dropped) rfl rfl (fun w h Y=>PySem.W.kIn_of Y) ?F
  case F =>
    intro w mg fa h KX G hmg
    refine' K.all_mk KX G hmg ?da0 ?dl0 ?dc0 ?dk0 ?da1 ?dl1 ?dc1 ?dk1 ?da2 ?dl2 ?dc2 ?dk2 ?da3 ?dl3 ?dc3 ?dk3 ?da4 ?dl4 ?dc4 ?dk4 ?da5 ?dl5 ?dc5 ?dk5 ?da6 ?dl6 ?dc6 ?dk6 ?da7 ?dl7 ?dc7 ?dk7 ?da8 ?dl8 ?dc8 ?dk8 ?da9 ?dl9 ?dc9 ?dk9 ?da10 ?dl10 ?dc10 ?dk10 ?da11 ?dl11 ?dc11 ?dk11 ?da12 ?dl12 ?dc12 ?dk12 ?da13 ?dl13 ?dc13 ?dk13 ?da14 ?dl14 ?dc14 ?dk14 ?da15 ?dl15 ?dc15 ?dk15 ?da16 ?dl16 ?dc16 ?dk16 ?bz0 ?bz1 ?bz2 ?bz3 ?bz4 ?bz5 ?bz6 ?bz7 ?bz8 ?bz9 ?bz10 ?bz11 ?bz12 ?gv0 ?geHallError ?leHallError ?neHallError ?seHallError ?ieHallError ?spH ?tmH ?rdH ?fcH ?hnO ?htkO ?geNoPattern ?geNoTemplate ?geNoHall ?geNoThing ?leNoThing ?neNoThing ?seNoThing ?ieNoThing ?hliNoThing ?hciNoThing ?hkiNoThing ?htiNoThing ?kpeNoThing ?saeNoThing ?gaeNoThing ?gheNoThing ?haeNoThing ?tkeNoThing_path ?geNoDrawer ?leNoDrawer ?neNoDrawer ?seNoDrawer ?ieNoDrawer ?hliNoDrawer ?hciNoDrawer ?hkiNoDrawer ?htiNoDrawer ?kpeNoDrawer ?saeNoDrawer ?gaeNoDrawer ?gheNoDrawer ?haeNoDrawer ?tkeNoDrawer_path ?geTaken ?leTaken ?neTaken ?seTaken ?ieTaken ?hliTaken ?hciTaken ?hkiTaken ?htiTaken ?kpeTaken ?saeTaken ?gaeTaken ?gheTaken ?haeTaken ?tkeTaken_path ?geFixed ?geNotEmpty ?leNotEmpty ?neNotEmpty ?seNotEmpty ?ieNotEmpty ?hliNotEmpty ?hciNotEmpty ?hkiNotEmpty ?htiNotEmpty ?kpeNotEmpty ?saeNotEmpty ?gaeNotEmpty ?gheNotEmpty ?haeNotEmpty ?tkeNotEmpty_path ?geNoWish ?geMeets ?geNoPlace ?geBroken ?geStrayed ?geNoText ?geNoRule ?geFull ?leFull ?neFull ?seFull ?ieFull ?kpeFull ?gaeFull ?gheFull ?haeFull ?geNoBook ?geNoSame ?geTooMuch ?geNoLine ?geBusy ?geNoDoer ?geNoRules ?KO_Full_Fixed ?KO_Full_Full ?KO_Full_NoDrawer ?KO_Full_NoThing ?KO_Full_NotEmpty ?KO_Full_Taken ?KO_Full_ValueError ?KO_NoDrawer_Fixed ?KO_NoDrawer_Full ?KO_NoDrawer_NoDrawer ?KO_NoDrawer_NoThing ?KO_NoDrawer_NotEmpty ?KO_NoDrawer_Taken ?KO_NoDrawer_ValueError ?KO_NoThing_Fixed ?KO_NoThing_Full ?KO_NoThing_NoDrawer ?KO_NoThing_NoThing ?KO_NoThing_NotEmpty ?KO_NoThing_Taken ?KO_NoThing_ValueError ?KO_NotEmpty_Fixed ?KO_NotEmpty_Full ?KO_NotEmpty_NoDrawer ?KO_NotEmpty_NoThing ?KO_NotEmpty_NotEmpty ?KO_NotEmpty_Taken ?KO_NotEmpty_ValueError ?KO_Taken_Fixed ?KO_Taken_Full ?KO_Taken_NoDrawer ?KO_Taken_NoThing ?KO_Taken_NotEmpty ?KO_Taken_Taken ?KO_Taken_ValueError ?KA_Full__Broken__Busy__Meets__NoBook__NoDoer__NoHall__NoLine__NoPattern__NoPlace__NoRule ?KA_Full__NoRules__NoSame__NoTemplate__NoText__NoWish__Strayed__TooMuch ?KA_NoDrawer__Broken__Busy__Meets__NoBook__NoDoer__NoHall__NoLine__NoPattern__NoPlace__NoRule ?KA_NoDrawer__NoRules__NoSame__NoTemplate__NoText__NoWish__Strayed__TooMuch ?KA_NoThing__Broken__Busy__Meets__NoBook__NoDoer__NoHall__NoLine__NoPattern__NoPlace__NoRule ?KA_NoThing__NoRules__NoSame__NoTemplate__NoText__NoWish__Strayed__TooMuch ?KA_NotEmpty__Broken__Busy__Meets__NoBook__NoDoer__NoHall__NoLine__NoPattern__NoPlace__NoRule ?KA_NotEmpty__NoRules__NoSame__NoTemplate__NoText__NoWish__Strayed__TooMuch ?KA_Taken__Broken__Busy__Meets__NoBook__NoDoer__NoHall__NoLine__NoPattern__NoPlace__NoRule ?KA_Taken__NoRules__NoSame__NoTemplate__NoText__NoWish__Strayed__TooMuch ?gcHall ?pgcHall ?hdcHall ?pocHall ?sacHall ?nacHall_blind ?nacHall_marks ?haminit ?hlminit ?hcminit ?hkminit ?himinit ?mkcHall ?kccHall ?htminit ?hamask_drawer ?hlmask_drawer ?hcmask_drawer ?hkmask_drawer ?himask_drawer ?hamask_thing ?hlmask_thing ?hcmask_thing ?hkmask_thing ?himask_thing ?hamdrop ?hlmdrop ?hcmdrop ?hkmdrop ?himdrop ?hamis_blind ?hlmis_blind ?hcmis_blind ?hkmis_blind ?himis_blind ?hamis_drawer ?hlmis_drawer ?hcmis_drawer ?hkmis_drawer ?himis_drawer ?hamis_one_place ?hlmis_one_place ?hcmis_one_place ?hkmis_one_place ?himis_one_place ?hamnames_in ?hlmnames_in ?hcmnames_in ?hkmnames_in ?himnames_in ?hamput ?hlmput ?hcmput ?hkmput ?himput ?hamrows ?hlmrows ?hcmrows ?hkmrows ?himrows ?hamthere ?hlmthere ?hcmthere ?hkmthere ?himthere
    (case da0=>k_is)
    (case dl0=>k_is)
    (case dc0=>k_is)
    (case dk0=>k_is)
    (case da1=>k_is)
    (case dl1=>k_is)
    (case dc1=>k_is)
    (case dk1=>k_is)
    (case da2=>k_is)
    (case dl2=>k_is)
    (case dc2=>k_is)
    (case dk2=>k_is)
    (case da3=>k_is)
    (case dl3=>k_is)
    (case dc3=>k_is)
    (case dk3=>k_is)
    (case da4=>k_is)
    (case dl4=>k_is)
    (case dc4=>k_is)
    (case dk4=>k_is)
    (case da5=>k_is)
    (case dl5=>k_is)
    (case dc5=>k_is)
    (case dk5=>k_is)
    (case da6=>k_is)
    (case dl6=>k_is)
    (case dc6=>k_is)
    (case dk6=>k_is)
    (case da7=>k_is)
    (case dl7=>k_is)
    (case dc7=>k_is)
    (case dk7=>k_is)
    (case da8=>k_is)
    (case dl8=>k_is)
    (case dc8=>k_is)
    (case dk8=>k_is)
    (case da9=>k_is)
    (case dl9=>k_is)
    (case dc9=>k_is)
    (case dk9=>k_is)
    (case da10=>k_is)
    (case dl10=>k_is)
    (case dc10=>k_is)
    (case dk10=>k_is)
    (case da11=>k_is)
    (case dl11=>k_is)
    (case dc11=>k_is)
    (case dk11=>k_is)
    (case da12=>k_is)
    (case dl12=>k_is)
    (case dc12=>k_is)
    (case dk12=>k_is)
    (case da13=>k_is)
    (case dl13=>k_is)
    (case dc13=>k_is)
    (case dk13=>k_is)
    (case da14=>k_is)
    (case dl14=>k_is)
    (case dc14=>k_is)
    (case dk14=>k_is)
    (case da15=>k_is)
    (case dl15=>k_is)
    (case dc15=>k_is)
    (case dk15=>k_is)
    (case da16=>k_is)
    (case dl16=>k_is)
    (case dc16=>k_is)
    (case dk16=>k_is)
    (case bz0=>k_is)
    (case bz1=>k_is)
    (case bz2=>k_is)
    (case bz3=>k_is)
    (case bz4=>k_is)
    (case bz5=>k_is)
    (case bz6=>k_is)
    (case bz7=>k_is)
    (case bz8=>k_is)
    (case bz9=>k_is)
    (case bz10=>k_is)
    (case bz11=>k_is)
    (case bz12=>k_is)
    (case gv0=>k_is)
    (case geHallError=>k_is)
    (case leHallError=>k_is)
    (case neHallError=>k_is)
    (case seHallError=>first | rfl | decide +kernel)
    (case ieHallError=>k_is)
    (case spH=>k_is)
    (case tmH=>k_is)
    (case rdH=>k_is)
    (case fcH=>k_is)
    (case hnO=>k_is)
    (case htkO=>k_is)
    (case geNoPattern=>k_is)
    (case geNoTemplate=>k_is)
    (case geNoHall=>k_is)
    (case geNoThing=>k_is)
    (case leNoThing=>k_is)
    (case neNoThing=>k_is)
    (case seNoThing=>first | rfl | decide +kernel)
    (case ieNoThing=>k_is)
    (case hliNoThing=>k_is)
    (case hciNoThing=>k_is)
    (case hkiNoThing=>k_is)
    (case htiNoThing=>first | rfl | decide +kernel)
    (case kpeNoThing=>k_is)
    (case saeNoThing=>k_is)
    (case gaeNoThing=>k_is)
    (case gheNoThing=>k_is)
    (case haeNoThing=>k_is)
    (case tkeNoThing_path=>k_is)
    (case geNoDrawer=>k_is)
    (case leNoDrawer=>k_is)
    (case neNoDrawer=>k_is)
    (case seNoDrawer=>first | rfl | decide +kernel)
    (case ieNoDrawer=>k_is)
    (case hliNoDrawer=>k_is)
    (case hciNoDrawer=>k_is)
    (case hkiNoDrawer=>k_is)
    (case htiNoDrawer=>first | rfl | decide +kernel)
    (case kpeNoDrawer=>k_is)
    (case saeNoDrawer=>k_is)
    (case gaeNoDrawer=>k_is)
    (case gheNoDrawer=>k_is)
    (case haeNoDrawer=>k_is)
    (case tkeNoDrawer_path=>k_is)
    (case geTaken=>k_is)
    (case leTaken=>k_is)
    (case neTaken=>k_is)
    (case seTaken=>first | rfl | decide +kernel)
    (case ieTaken=>k_is)
    (case hliTaken=>k_is)
    (case hciTaken=>k_is)
    (case hkiTaken=>k_is)
    (case htiTaken=>first | rfl | decide +kernel)
    (case kpeTaken=>k_is)
    (case saeTaken=>k_is)
    (case gaeTaken=>k_is)
    (case gheTaken=>k_is)
    (case haeTaken=>k_is)
    (case tkeTaken_path=>k_is)
    (case geFixed=>k_is)
    (case geNotEmpty=>k_is)
    (case leNotEmpty=>k_is)
    (case neNotEmpty=>k_is)
    (case seNotEmpty=>first | rfl | decide +kernel)
    (case ieNotEmpty=>k_is)
    (case hliNotEmpty=>k_is)
    (case hciNotEmpty=>k_is)
    (case hkiNotEmpty=>k_is)
    (case htiNotEmpty=>first | rfl | decide +kernel)
    (case kpeNotEmpty=>k_is)
    (case saeNotEmpty=>k_is)
    (case gaeNotEmpty=>k_is)
    (case gheNotEmpty=>k_is)
    (case haeNotEmpty=>k_is)
    (case tkeNotEmpty_path=>k_is)
    (case geNoWish=>k_is)
    (case geMeets=>k_is)
    (case geNoPlace=>k_is)
    (case geBroken=>k_is)
    (case geStrayed=>k_is)
    (case geNoText=>k_is)
    (case geNoRule=>k_is)
    (case geFull=>k_is)
    (case leFull=>k_is)
    (case neFull=>k_is)
    (case seFull=>first | rfl | decide +kernel)
    (case ieFull=>k_is)
    (case kpeFull=>k_is)
    (case gaeFull=>k_is)
    (case gheFull=>k_is)
    (case haeFull=>k_is)
    (case geNoBook=>k_is)
    (case geNoSame=>k_is)
    (case geTooMuch=>k_is)
    (case geNoLine=>k_is)
    (case geBusy=>k_is)
    (case geNoDoer=>k_is)
    (case geNoRules=>k_is)
    (case KO_Full_Fixed=>kit_is)
    (case KO_Full_Full=>kit_is)
    (case KO_Full_NoDrawer=>kit_is)
    (case KO_Full_NoThing=>kit_is)
    (case KO_Full_NotEmpty=>kit_is)
    (case KO_Full_Taken=>kit_is)
    (case KO_Full_ValueError=>kit_is)
    (case KO_NoDrawer_Fixed=>kit_is)
    (case KO_NoDrawer_Full=>kit_is)
    (case KO_NoDrawer_NoDrawer=>kit_is)
    (case KO_NoDrawer_NoThing=>kit_is)
    (case KO_NoDrawer_NotEmpty=>kit_is)
    (case KO_NoDrawer_Taken=>kit_is)
    (case KO_NoDrawer_ValueError=>kit_is)
    (case KO_NoThing_Fixed=>kit_is)
    (case KO_NoThing_Full=>kit_is)
    (case KO_NoThing_NoDrawer=>kit_is)
    (case KO_NoThing_NoThing=>kit_is)
    (case KO_NoThing_NotEmpty=>kit_is)
    (case KO_NoThing_Taken=>kit_is)
    (case KO_NoThing_ValueError=>kit_is)
    (case KO_NotEmpty_Fixed=>kit_is)
    (case KO_NotEmpty_Full=>kit_is)
    (case KO_NotEmpty_NoDrawer=>kit_is)
    (case KO_NotEmpty_NoThing=>kit_is)
    (case KO_NotEmpty_NotEmpty=>kit_is)
    (case KO_NotEmpty_Taken=>kit_is)
    (case KO_NotEmpty_ValueError=>kit_is)
    (case KO_Taken_Fixed=>kit_is)
    (case KO_Taken_Full=>kit_is)
    (case KO_Taken_NoDrawer=>kit_is)
    (case KO_Taken_NoThing=>kit_is)
    (case KO_Taken_NotEmpty=>kit_is)
    (case KO_Taken_Taken=>kit_is)
    (case KO_Taken_ValueError=>kit_is)
    (case KA_Full__Broken__Busy__Meets__NoBook__NoDoer__NoHall__NoLine__NoPattern__NoPlace__NoRule=>kit_is)
    (case KA_Full__NoRules__NoSame__NoTemplate__NoText__NoWish__Strayed__TooMuch=>kit_is)
    (case KA_NoDrawer__Broken__Busy__Meets__NoBook__NoDoer__NoHall__NoLine__NoPattern__NoPlace__NoRule=>kit_is)
    (case KA_NoDrawer__NoRules__NoSame__NoTemplate__NoText__NoWish__Strayed__TooMuch=>kit_is)
    (case KA_NoThing__Broken__Busy__Meets__NoBook__NoDoer__NoHall__NoLine__NoPattern__NoPlace__NoRule=>kit_is)
    (case KA_NoThing__NoRules__NoSame__NoTemplate__NoText__NoWish__Strayed__TooMuch=>kit_is)
    (case KA_NotEmpty__Broken__Busy__Meets__NoBook__NoDoer__NoHall__NoLine__NoPattern__NoPlace__NoRule=>kit_is)
    (case KA_NotEmpty__NoRules__NoSame__NoTemplate__NoText__NoWish__Strayed__TooMuch=>kit_is)
    (case KA_Taken__Broken__Busy__Meets__NoBook__NoDoer__NoHall__NoLine__NoPattern__NoPlace__NoRule=>kit_is)
    (case KA_Taken__NoRules__NoSame__NoTemplate__NoText__NoWish__Strayed__TooMuch=>kit_is)
    (case gcHall=>k_is)
    (case pgcHall=>k_is)
    (case hdcHall=>k_is)
    (case pocHall=>k_is)
    (case sacHall=>k_is)
    (case nacHall_blind=>k_is)
    (case nacHall_marks=>k_is)
    (case haminit=>k_is)
    (case hlminit=>k_is)
    (case hcminit=>k_is)
    (case hkminit=>k_is)
    (case himinit=>k_is)
    (case mkcHall=>k_is)
    (case kccHall=>k_is)
    (case htminit=>k_is)
    (case hamask_drawer=>k_is)
    (case hlmask_drawer=>k_is)
    (case hcmask_drawer=>k_is)
    (case hkmask_drawer=>k_is)
    (case himask_drawer=>k_is)
    (case hamask_thing=>k_is)
    (case hlmask_thing=>k_is)
    (case hcmask_thing=>k_is)
    (case hkmask_thing=>k_is)
    (case himask_thing=>k_is)
    (case hamdrop=>k_is)
    (case hlmdrop=>k_is)
    (case hcmdrop=>k_is)
    (case hkmdrop=>k_is)
    (case himdrop=>k_is)
    (case hamis_blind=>k_is)
    (case hlmis_blind=>k_is)
    (case hcmis_blind=>k_is)
    (case hkmis_blind=>k_is)
    (case himis_blind=>k_is)
    (case hamis_drawer=>k_is)
    (case hlmis_drawer=>k_is)
    (case hcmis_drawer=>k_is)
    (case hkmis_drawer=>k_is)
    (case himis_drawer=>k_is)
    (case hamis_one_place=>k_is)
    (case hlmis_one_place=>k_is)
    (case hcmis_one_place=>k_is)
    (case hkmis_one_place=>k_is)
    (case himis_one_place=>k_is)
    (case hamnames_in=>k_is)
    (case hlmnames_in=>k_is)
    (case hcmnames_in=>k_is)
    (case hkmnames_in=>k_is)
    (case himnames_in=>k_is)
    (case hamput=>k_is)
    (case hlmput=>k_is)
    (case hcmput=>k_is)
    (case hkmput=>k_is)
    (case himput=>k_is)
    (case hamrows=>k_is)
    (case hlmrows=>k_is)
    (case hcmrows=>k_is)
    (case hkmrows=>k_is)
    (case himrows=>k_is)
    (case hamthere=>k_is)
    (case hlmthere=>k_is)
    (case hcmthere=>k_is)
    (case hkmthere=>k_is)
    (case himthere=>k_is)
