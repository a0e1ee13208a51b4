import PyProof.Rows.All
import Wide.All
import OpenK.AllK
import Wide.FinOn
import Lean
import PyProof.EqAt
import PyProof.EqKinds
import PyProof.TupleCall
import PySem.Challenge.RW_renamehall_k06_no_template
import KE.IntTextLaws
import KE.KIsAll
import PyProof.ExcArgsOwn
import PyProof.ExcBaseAll.ValueError
import PyProof.ExcClass2
import PyProof.ExcInit
import PyProof.InstStore
import PyProof.Rows.CatchBare
import PyProof.Rows.CatchOwn
import PyProof.StationsW
import PyProof.SumWalk
set_option Elab.async false
set_option linter.all false
set_option maxRecDepth 100000
namespace L2
open PySem PySem.Spec PyProof.Rows
abbrev Key:=Sum Int Str
def keyIs:Key→Value→Bool
  | .inl k,v=>Value.isInt k v
  | .inr x,v=>Value.isStrOf x v
def keyH (w:World):Key→Int
  | .inl k=>hashInt k
  | .inr x=>hashStr w x
theorem keyIs_shape:∀ {k:Key} {v:Value},keyIs k v=true→(∃ i t,k=Sum.inl i∧v=Value.int i t)∨(∃ x t,k=Sum.inr x∧v=Value.str x t)
  | .inl i,v,h=>by
    obtain⟨t,e⟩:=Value.isInt_shape (k:=i) (v:=v) h
    exact .inl ⟨i,t,rfl,e⟩
  | .inr x,v,h=>by
    obtain⟨t,e⟩:=Value.isStrOf_shape (x:=x) (v:=v) h
    exact .inr ⟨x,t,rfl,e⟩
theorem keyIs_int (i:Int) (t:Tok):keyIs (.inl i) (.int i t)=true:=by simp [keyIs,Value.isInt]
theorem keyIs_str (x:Str) (t:Tok):keyIs (.inr x) (.str x t)=true:=by simp [keyIs,Value.isStrOf]
theorem key_ll (a b:Int):decide ((Sum.inl a:Key)=Sum.inl b)=(a==b):=by
  by_cases e:a=b
  · subst e;simp
  · have h:¬ (Sum.inl a:Key)=Sum.inl b:=fun q=>e (Sum.inl.inj q)
    rw [decide_eq_false h]
    exact (beq_eq_false_iff_ne.mpr e).symm
theorem key_rr (a b:Str):decide ((Sum.inr a:Key)=Sum.inr b)=decide (a=b):=by
  by_cases e:a=b
  · subst e;simp
  · have h:¬ (Sum.inr a:Key)=Sum.inr b:=fun q=>e (Sum.inr.inj q)
    rw [decide_eq_false h,decide_eq_false e]
theorem key_lr (a:Int) (b:Str):decide ((Sum.inl a:Key)=Sum.inr b)=false:=decide_eq_false (fun q=>nomatch q)
theorem key_rl (a:Str) (b:Int):decide ((Sum.inr a:Key)=Sum.inl b)=false:=decide_eq_false (fun q=>nomatch q)
def mixKind (prog:Program) (w:World):PySem.KeyKind prog w Key where
  is:=keyIs
  hash:=keyH w
  inj:=fun v a b ha hb=>by
    rcases keyIs_shape ha with ⟨i,t,rfl,rfl⟩ | ⟨x,t,rfl,rfl⟩
    · rcases keyIs_shape hb with ⟨j,u,rfl,e⟩ | ⟨y,u,rfl,e⟩
      · injection e with e1 _;rw [e1]
      · exact nomatch e
    · rcases keyIs_shape hb with ⟨j,u,rfl,e⟩ | ⟨y,u,rfl,e⟩
      · exact nomatch e
      · injection e with e1 _;rw [e1]
  byValue:=fun k v h=>by
    rcases keyIs_shape h with ⟨i,t,rfl,rfl⟩ | ⟨x,t,rfl,rfl⟩ <;> rfl
  pyHash:=fun hv h=>by
    rcases keyIs_shape hv with ⟨i,t,rfl,rfl⟩ | ⟨x,t,rfl,rfl⟩
    · exact wpAny_pyHash_int h
    · exact wpAny_pyHash_str h
  eqBool:=fun hu hv h=>by
    rcases keyIs_shape hu with ⟨i,t,rfl,rfl⟩ | ⟨x,t,rfl,rfl⟩
    · rcases keyIs_shape hv with ⟨j,u,rfl,rfl⟩ | ⟨y,u,rfl,rfl⟩
      · rw [key_ll] at h;exact wpAny_eqBool_int h
      · rw [key_lr] at h;exact SeqAt.EqAt.int_str i t y u _ _ _ _ h
    · rcases keyIs_shape hv with ⟨j,u,rfl,rfl⟩ | ⟨y,u,rfl,rfl⟩
      · rw [key_rl] at h;exact SeqAt.EqAt.str_int x t j u _ _ _ _ h
      · rw [key_rr] at h;exact wpAny_eqBool_str h
  «strs» := fun k x t v h=>by
    rcases keyIs_shape h with ⟨i,u,rfl,e⟩ | ⟨y,u,rfl,e⟩
    · exact nomatch e
    · injection e with e1 _
      subst e1
      cases v <;> rfl
theorem mixKind_int (prog:Program) (w:World) (i:Int) (t:Tok):(mixKind prog w).is (.inl i) (.int i t)=true:=keyIs_int i t
theorem mixKind_str (prog:Program) (w:World) (x:Str) (t:Tok):(mixKind prog w).is (.inr x) (.str x t)=true:=keyIs_str x t
end L2
namespace L2
open PySem PySem.Spec PyProof.Rows
inductive V where
  | non | bl (b:Bool) | int (i:Int) | str (x:Str) | byt (b:Array UInt8) | flt (b:UInt64) | ref (a:Addr) | ty (n:String)
  deriving DecidableEq
def RelV:V→Value→Prop
  | .non,u=>u=Value.none
  | .bl b,u=>u=Value.bool b
  | .int i,u=>∃ t,u=Value.int i t
  | .str x,u=>∃ t,u=Value.str x t
  | .byt b,u=>∃ t,u=Value.bytes b t
  | .flt b,u=>∃ t,u=Value.float b t
  | .ref a,u=>u=Value.ref a
  | .ty n,u=>u=Value.type n
abbrev Vals:List V→List Value→Prop:=Paired RelV
theorem Vals.length {xs:List V} {us:List Value} (r:Vals xs us):xs.length=us.length:=Paired.length r
theorem Vals.get:∀ {xs:List V} {us:List Value} {i:Nat} {x:V},Vals xs us→xs[i]? = some x→∃ u,us[i]? = some u∧RelV x u
  | _,_,_,_,.nil,e=>by simp at e
  | _,_,0,_,.cons r _,e=>by simp at e;subst e;exact⟨_,rfl,r⟩
  | _,_,i+1,x,.cons _ t,e=>by
    obtain⟨u,h1,h2⟩:=Vals.get (i:=i) (x:=x) t (by simpa using e)
    exact⟨u,by simpa using h1,h2⟩
theorem Vals.set {x:V} {u:Value} (r:RelV x u):∀ {xs:List V} {us:List Value} (i:Nat),Vals xs us→Vals (xs.set i x) (us.set i u)
  | _,_,_,.nil => .nil
  | _,_,0,.cons _ t => .cons r t
  | _,_,i+1,.cons q t => .cons q (Vals.set r i t)
theorem Vals.append:∀ {xs ys:List V} {us ws:List Value},Vals xs us→Vals ys ws→Vals (xs++ys) (us++ws)
  | _,_,_,_,.nil,s=>s
  | _,_,_,_,.cons r t,s => .cons r (Vals.append t s)
theorem Vals.take:∀ {xs:List V} {us:List Value} (n:Nat),Vals xs us→Vals (xs.take n) (us.take n)
  | _,_,0,_ => .nil
  | _,_,_+1,.nil => .nil
  | _,_,n+1,.cons r t => .cons r (Vals.take n t)
theorem Vals.drop:∀ {xs:List V} {us:List Value} (n:Nat),Vals xs us→Vals (xs.drop n) (us.drop n)
  | _,_,0,r=>r
  | _,_,_+1,.nil => .nil
  | _,_,n+1,.cons _ t=>Vals.drop n t
def RelO:Option V→Option Value→Prop
  | some v,some u=>RelV v u
  | none,none=>True
  | _,_=>False
def KV {κ:Type}:List (κ×V)→List (κ×Value)→Prop:=Paired fun (p:κ×V) (q:κ×Value)=>p.1=q.1∧RelV p.2 q.2
def kV:Key→V
  | .inl i => .int i
  | .inr x => .str x
inductive HO where
  | lst (xs:List V)
  | tup (xs:List V)
  | dK (kvs:List (Key×V)) | dT (kvs:List (List Key×V))
  | set (S:Int→Bool) (n:Nat)
  | ins (C dx:Addr) (fs:List (Str×V))
  | own (x:Addr)
  | xd (fs:List (Str×V))
  | met (f x:Addr)
  | rng (lo hi:Int)
  | frz (o:Obj) (u:HO)
  | tbl (ps:Array Value)
  | ext (φ:Heap→Prop)
abbrev Hp:=Addr→Option HO
def upd (H:Hp) (a:Addr) (o:HO):Hp:=fun b=>if b=a then some o else H b
theorem upd_same {H:Hp} {a:Addr} {o:HO}:upd H a o a=some o:=by unfold upd;rw [if_pos rfl]
theorem upd_ne {H:Hp} {a b:Addr} {o:HO} (h:b≠a):upd H a o b=H b:=by unfold upd;rw [if_neg h]
theorem upd_upd {H:Hp} {a:Addr} {o u:HO}:upd (upd H a o) a u=upd H a u:=by
  funext b;unfold upd;split <;> rfl
theorem ne_of {H:Hp} {a b:Addr} {o u:HO} (h:H a=some o) (h' : H b=some u) (d:o≠u):a≠b:=by
  intro e;subst e;rw [h] at h';exact d (Option.some.inj h')
theorem ne_of_none {H:Hp} {a b:Addr} {o:HO} (h:H a=some o) (h' : H b=none):a≠b:=by
  intro e;subst e;rw [h] at h';cases h'
section
variable (P:Program) (w:World)
def ObjOk (H:Hp) (h:Heap) (a:Addr):HO→Prop
  | .lst xs=>xs.length≤sizeLine∧∃ (its:List Value) (n:Nat),Vals xs its∧h.get? a=some { cls := .type "list",data := .seq its.toArray n }
  | .tup xs=>xs.length≤sizeLine∧∃ its:List Value,Vals xs its∧IsTup h a its.toArray
  | .dK kvs=>kvs.length≤sizeLine∧(a==sysModules)=false∧∃ vs,KV kvs vs∧h.DictOf (mixKind P w) a vs
  | .dT kvs=>kvs.length≤sizeLine∧(a==sysModules)=false∧∃ xs:List (List Key×Addr×Value),
      Paired (fun (p:List Key×V) (q:List Key×Addr×Value)=>p.1=q.1∧H q.2.1=some (.tup (p.1.map kV))∧RelV p.2 q.2.2) kvs xs ∧
      ∃ o es ep,h.get? a=some o∧o.ExactDict∧o.data = .dict es ep∧es.toList=xs.map (entryOfKey (tupleKind (mixKind P w)))∧(xs.map (·.1)).Nodup
  | .set S n=>h.SetOf (intKind P w) a S n
  | .ins C dx fs=>H dx=some (.own a)∧fs.length≤1000∧dx≠a∧h.get? a=some (PySem.W.instObj C dx) ∧
      ∃ mA,h.Ns1 dx mA∧(∀ f,RelO (fs.lookup f) (mA f))∧PySem.Within mA (fs.map (·.1))
  | .own _=>∃ o,h.get? a=some o
  | .xd fs=>∃ mA,h.Ns1 a mA∧∀ f,RelO (fs.lookup f) (mA f)
  | .rng lo hi=>∃ t u v,h.get? a=some { cls := .type "range",data := .fields #[.int lo t,.int hi u,.int 1 v] }
  | .frz o u=>h.get? a=some o∧ObjOk H h a u
  | .tbl ps=>h.get? a=some { cls := .none,data := .fields ps }
  | .met f x=>h.get? a=some (PySem.W.methodObj (.ref f) (.ref x))
  | .ext φ=>φ h∧(∃ o,h.get? a=some o)∧∀ h1 h2:Heap,φ h1→(∀ o,h1.get? a=some o→h2.get? a=some o)→φ h2
def HOk (H:Hp) (h:Heap):Prop:=∀ a o,H a=some o→ObjOk P w H h a o
end
section
variable {P:Program} {w:World} {H H' : Hp} {h h' : Heap} {a:Addr} {o:HO}
theorem ObjOk.lt (x:ObjOk P w H h a o):a<h.objs.size:=by
  cases o with
  | lst xs=>obtain⟨_,_,_,_,e⟩:=x;exact Heap.lt_size e
  | tup xs=>obtain⟨_,_,_,p⟩:=x;exact p.lt
  | dK kvs=>obtain⟨_,_,_,_,o,_,_,e,_⟩:=x;exact Heap.lt_size e
  | dT kvs=>obtain⟨_,_,_,_,o,_,_,e,_⟩:=x;exact Heap.lt_size e
  | set S n=>obtain⟨o,_,_,_,e,_⟩:=x;exact Heap.lt_size e
  | ins C dx fs=>obtain⟨_,_,_,e,_⟩:=x;exact Heap.lt_size e
  | own y=>obtain⟨_,e⟩:=x;exact Heap.lt_size e
  | xd fs=>obtain⟨_,⟨_,_,_,e,_⟩,_⟩:=x;exact Heap.lt_size e
  | rng lo hi=>obtain⟨_,_,_,e⟩:=x;exact Heap.lt_size e
  | frz ob u=>obtain⟨e,_⟩:=x;exact Heap.lt_size e
  | tbl ps=>exact Heap.lt_size (show h.get? a=some _ from x)
  | met f y=>exact Heap.lt_size (show h.get? a=some _ from x)
  | ext φ=>obtain⟨_,⟨_,e⟩,_⟩:=x;exact Heap.lt_size e
theorem Paired.mapP {α β:Type} {F G:α→β→Prop}:∀ {l₁:List α} {l₂:List β},Paired F l₁ l₂→(∀ a b,F a b→G a b)→Paired G l₁ l₂
  | _,_,.nil,_ => .nil
  | _,_,.cons r t,f => .cons (f _ _ r) (Paired.mapP t f)
theorem ObjOk.stay (x:ObjOk P w H h a o) (k:∀ b u,(b=a∨H b=some (.own a))→h.get? b=some u→h'.get? b=some u)
    (ho:∀ b,H b=some (.own a)→H' b=some (.own a)) (ht:∀ b xs,H b=some (.tup xs)→H' b=some (.tup xs)):ObjOk P w H' h' a o:=by
  induction o with
  | lst xs=>obtain⟨z,its,n,r,e⟩:=x;exact⟨z,its,n,r,k _ _ (.inl rfl) e⟩
  | tup xs=>obtain⟨z,its,r,ob,e,c⟩:=x;exact⟨z,its,r,ob,k _ _ (.inl rfl) e,c⟩
  | dK kvs=>obtain⟨z,y,vs,r,ob,es,ep,e,c⟩:=x;exact⟨z,y,vs,r,ob,es,ep,k _ _ (.inl rfl) e,c⟩
  | dT kvs =>
    obtain⟨z,y,xs,r,ob,es,ep,e,c⟩:=x
    exact⟨z,y,xs,Paired.mapP r fun p q z=>⟨z.1,ht _ _ z.2.1,z.2.2⟩,ob,es,ep,k _ _ (.inl rfl) e,c⟩
  | set S n=>obtain⟨ob,es,ep,t,e,c⟩:=x;exact⟨ob,es,ep,t,k _ _ (.inl rfl) e,c⟩
  | ins C dx fs =>
    obtain⟨d,z,ne,e,mA,⟨od,es,ep,e2,c⟩,r⟩:=x
    exact⟨ho _ d,z,ne,k _ _ (.inl rfl) e,mA,⟨od,es,ep,k _ _ (.inr d) e2,c⟩,r⟩
  | own y=>obtain⟨ob,e⟩:=x;exact⟨ob,k _ _ (.inl rfl) e⟩
  | xd fs=>obtain⟨mA,⟨od,es,ep,e,c⟩,r⟩:=x;exact⟨mA,⟨od,es,ep,k _ _ (.inl rfl) e,c⟩,r⟩
  | rng lo hi=>obtain⟨t,u,v,e⟩:=x;exact⟨t,u,v,k _ _ (.inl rfl) e⟩
  | frz ob u ih=>obtain⟨e,q⟩:=x;exact⟨k _ _ (.inl rfl) e,ih q⟩
  | tbl ps =>
    have e:h.get? a=some { cls := .none,data := .fields ps }:=x
    show h'.get? a=some { cls := .none,data := .fields ps }
    exact k a _ (.inl rfl) e
  | met f y =>
    have e:h.get? a=some (PySem.W.methodObj (.ref f) (.ref y)):=x
    show h'.get? a=some (PySem.W.methodObj (.ref f) (.ref y))
    exact k a _ (.inl rfl) e
  | ext φ=>obtain⟨p,⟨o,e⟩,st⟩:=x;exact⟨st _ _ p fun o q=>k _ _ (.inl rfl) q,⟨o,k _ _ (.inl rfl) e⟩,st⟩
theorem HOk.lt (x:HOk P w H h) (e:H a=some o):a<h.objs.size:=(x a o e).lt
theorem HOk.fresh (x:HOk P w H h) (e:h.objs.size≤a):H a=none:=by
  cases q:H a with
  | none=>rfl
  | some u=>exact absurd (Nat.lt_of_lt_of_le (x.lt q) e) (Nat.lt_irrefl _)
theorem HOk.kept (x:HOk P w H h) (k:∀ b u,h.get? b=some u→h'.get? b=some u):HOk P w H h' := fun a o e =>
  (x a o e).stay (fun b u _ q=>k b u q) (fun _ q=>q) fun _ _ q=>q
theorem HOk.laid (x:HOk P w H h) (k:∀ b u,h.get? b=some u→h'.get? b=some u) (hp:h.objs.size≤a) (new:ObjOk P w (upd H a o) h' a o):HOk P w (upd H a o) h' := fun b u e=>by
  have hn:=x.fresh hp
  by_cases hb:b=a
  · subst hb;rw [upd_same] at e;cases e;exact new
  · rw [upd_ne hb] at e
    exact (x b u e).stay (fun c v _ q=>k c v q) (fun c q=>by rw [upd_ne (ne_of_none q hn)];exact q) fun c xs q=>by rw [upd_ne (ne_of_none q hn)];exact q
end
def Rd (H:Hp) (a:Addr) (u:HO):Prop:=H a=some u∨∃ o,H a=some (.frz o u)
theorem Rd.of {H:Hp} {a:Addr} {u:HO} (h:H a=some u):Rd H a u := .inl h
theorem Rd.ok {P:Program} {w:World} {H:Hp} {h:Heap} {a:Addr} {u:HO} (r:Rd H a u) (x:HOk P w H h):ObjOk P w H h a u:=by
  rcases r with r | ⟨o,r⟩
  · exact x a u r
  · obtain⟨_,q⟩:=x a _ r
    exact q
def Mut:Option HO→Prop
  | some (.lst _)=>True
  | some (.dK _)=>True
  | some (.dT _)=>True
  | some (.set _ _)=>True
  | some (.ins _ _ _)=>True
  | some (.ext _)=>True
  | _=>False
section
variable {P:Program} {w:World} {H:Hp} {h h' : Heap} {x e:Addr} {o' : HO}
theorem HOk.write (ok:HOk P w H h) (mu:Mut (H x)) (he:e=x∨H e=some (.own x)) (k:∀ b u,b≠e→h.get? b=some u→h'.get? b=some u) (heo:∃ u,h'.get? e=some u)
    (new:ObjOk P w (upd H x o') h' x o'):HOk P w (upd H x o') h' := fun b u q=>by
  have nown:∀ c y,H c=some (.own y)→c≠x:=fun c y r z=>by subst z;rw [r] at mu;exact mu
  have ntup:∀ c xs,H c=some (.tup xs)→c≠x:=fun c xs r z=>by subst z;rw [r] at mu;exact mu
  by_cases hb:b=x
  · subst hb;rw [upd_same] at q;cases q;exact new
  · rw [upd_ne hb] at q
    by_cases hbe:b=e
    · have q' : H b=some (.own x):=by
        rcases he with z | z
        · exact absurd (hbe.trans z) hb
        · rw [hbe];exact z
      rw [q] at q';cases q'
      obtain⟨v,hv⟩:=heo
      exact⟨v,by rw [hbe];exact hv⟩
    · refine (ok b u q).stay (fun c v hc r=>k c v ?_ r) (fun c r=>by rw [upd_ne (nown c b r)];exact r) fun c xs r=>by rw [upd_ne (ntup c xs r)];exact r
      rcases hc with rfl | hc
      · exact hbe
      · rintro rfl
        rcases he with z | z
        · exact nown c b hc z
        · rw [hc] at z;cases z;exact hb rfl
end
structure Un (fs ex:List Addr) (H H' : Hp) (h h' : Heap):Prop where
  keep:∀ b o,h.get? b=some o→H b=none→b∉fs→b∉ex→h'.get? b=some o
  slot:∀ b o,h.get? b=some o→H b=none→b∈fs→b∉ex→∃ sl,h'.get? b=some { o with slots:=sl }
  free:∀ b o,h.get? b=some o→H b=none→b∉ex→H' b=none
  there:∀ b o,h.get? b=some o→b∉ex→∃ o',h'.get? b=some o'
  tups:∀ b xs,H b=some (.tup xs)→H' b=some (.tup xs)
  frzs:∀ b o u,H b=some (.frz o u)→H' b=some (.frz o u)
  tbls:∀ b ps,H b=some (.tbl ps)→∃ more,H' b=some (.tbl (ps++more))
section
variable {fs fs' ex ex' : List Addr} {H H1 H2:Hp} {h h1 h2 h' : Heap} {a x e:Addr} {o:HO}
theorem Un.any (u:Un fs ex H H1 h h1) {b:Addr} {ob:Obj} (q:h.get? b=some ob) (n:H b=none) (hx:b∉ex):∃ sl,h1.get? b=some { ob with slots:=sl }:=by
  by_cases hb:b∈fs
  · exact u.slot b ob q n hb hx
  · exact⟨ob.slots,u.keep b ob q n hb hx⟩
theorem Un.trans (a:Un fs ex H H1 h h1) (b:Un fs ex H1 H2 h1 h2):Un fs ex H H2 h h2 where
  keep:=fun c ob q n hc hx=>b.keep c ob (a.keep c ob q n hc hx) (a.free c ob q n hx) hc hx
  slot:=fun c ob q n hc hx=>by
    obtain⟨sl,e1⟩:=a.slot c ob q n hc hx
    obtain⟨sl',e2⟩:=b.slot c _ e1 (a.free c ob q n hx) hc hx
    exact⟨sl',e2⟩
  free:=fun c ob q n hx=>by
    obtain⟨o',e1⟩:=a.there c ob q hx
    exact b.free c o' e1 (a.free c ob q n hx) hx
  there:=fun c ob q hx=>by
    obtain⟨o',e1⟩:=a.there c ob q hx
    exact b.there c o' e1 hx
  tups:=fun c xs q=>b.tups c xs (a.tups c xs q)
  frzs:=fun c ob xs q=>b.frzs c ob xs (a.frzs c ob xs q)
  tbls:=fun c ps q=>by
    obtain⟨m1,e1⟩:=a.tbls c ps q
    obtain⟨m2,e2⟩:=b.tbls c _ e1
    exact⟨m1++m2,by rw [e2,Array.append_assoc]⟩
theorem Un.kept (k:∀ b u,h.get? b=some u→h'.get? b=some u):Un fs ex H H h h' :=
  ⟨fun b ob q _ _ _=>k b ob q,fun b ob q _ _ _=>⟨ob.slots,k b ob q⟩,fun _ _ _ n _=>n,fun b ob q _=>⟨ob,k b ob q⟩,fun _ _ q=>q,fun _ _ _ q=>q,fun _ ps q=>⟨#[],by rw [q];simp⟩⟩
theorem Un.refl:Un fs ex H H h h:=Un.kept fun _ _ q=>q
theorem Un.laid (k:∀ b u,h.get? b=some u→h'.get? b=some u) (hp:h.objs.size≤a) (hn:H a=none):Un fs ex H (upd H a o) h h' where
  keep:=fun b u q _ _ _=>k b u q
  slot:=fun b u q _ _ _=>⟨u.slots,k b u q⟩
  free:=fun b u q n _=>by rw [upd_ne (Nat.ne_of_lt (Nat.lt_of_lt_of_le (Heap.lt_size q) hp))];exact n
  there:=fun b u q _=>⟨u,k b u q⟩
  tups:=fun b xs q=>by rw [upd_ne (ne_of_none q hn)];exact q
  frzs:=fun b u xs q=>by rw [upd_ne (ne_of_none q hn)];exact q
  tbls:=fun b ps q=>⟨#[],by rw [upd_ne (ne_of_none q hn),q];simp⟩
theorem Un.write (mu:Mut (H x)) (he:e=x∨H e=some (.own x)) (k:∀ b u,b≠e→h.get? b=some u→h'.get? b=some u) (heo:∃ u,h'.get? e=some u):Un fs ex H (upd H x o) h h' := by
  have hx:∀ b,H b=none→b≠x:=fun b n z=>by subst z;rw [n] at mu;exact mu
  have hb:∀ b,H b=none→b≠e:=fun b n z=>by
    subst z
    rcases he with r | r
    · exact hx b n r
    · rw [n] at r;cases r
  have hm:∀ b u,H b=some u→¬ Mut (some u)→b≠x:=fun b u q nm z=>by subst z;rw [q] at mu;exact nm mu
  refine⟨fun b u q n _ _=>k b u (hb b n) q,fun b u q n _ _=>⟨u.slots,k b u (hb b n) q⟩,fun b u q n _=>by rw [upd_ne (hx b n)];exact n,fun b u q _ => ?_,
    fun b xs q=>by rw [upd_ne (hm b _ q fun z=>z)];exact q,fun b u xs q=>by rw [upd_ne (hm b _ q fun z=>z)];exact q,fun b ps q=>⟨#[],by rw [upd_ne (hm b _ q fun z=>z),q];simp⟩⟩
  by_cases hbe:b=e
  · subst hbe;exact heo
  · exact⟨u,k b u hbe q⟩
theorem Un.mono (u:Un fs ex H H1 h h1) (hs:∀ b∈fs,b∈fs') (hx:∀ b∈ex,b∈ex'):Un fs' ex' H H1 h h1 :=
  ⟨fun b ob q n hb he=>u.keep b ob q n (fun z=>hb (hs b z)) fun z=>he (hx b z),fun _ _ q n _ he=>u.any q n fun z=>he (hx _ z),fun b ob q n he=>u.free b ob q n fun z=>he (hx b z),fun b ob q he=>u.there b ob q fun z=>he (hx b z),u.tups,u.frzs,u.tbls⟩
end
def trk (h:Heap) (H:Hp):List Addr:=(List.range h.objs.size).filter fun a=>(H a).isSome
def hidT (h:Heap) (H:Hp):Heap:=PySem.W.hideAll h (trk h H)
theorem hidT_size (h:Heap) (H:Hp):(hidT h H).objs.size=h.objs.size:=PySem.W.hideAll_size _ _
theorem hidT_get {h:Heap} {H:Hp} {b:Addr} {o:Obj} (e:h.get? b=some o) (n:H b=none):(hidT h H).get? b=some o :=
  PySem.W.hideAll_get _ e fun hm=>by
    have q:(H b).isSome=true:=(List.mem_filter.mp hm).2
    rw [n] at q;simp at q
theorem of_hidT {h:Heap} {H:Hp} {b:Addr} {o:Obj} (e:(hidT h H).get? b=some o):h.get? b=some o∧H b=none:=by
  have e' : h.get? b=some o:=PySem.W.of_hideAll (trk h H) e
  refine⟨e',?_⟩
  cases q:H b with
  | none=>rfl
  | some x =>
    have hm:b∈trk h H:=List.mem_filter.mpr ⟨List.mem_range.mpr (Heap.lt_size e'),by simp [q]⟩
    have z:(hidT h H).get? b=none:=PySem.W.hideAll_none (trk h H) hm
    rw [z] at e;cases e
def allNews (g h:Heap) (L:Addr):List (Addr×Obj):=(List.range h.objs.size).filterMap fun a=>if a=L∨(g.get? a).isSome=true then none else (h.get? a).map fun o=>(a,o)
def rest (g h:Heap) (L d:Addr):List (Addr×Obj):=(allNews g h L).filter fun p=>decide (p.1≠d)
end L2
namespace L2
open PySem PySem.Spec PyProof.Rows
structure Mod (K:PySem.W.Frag) (mg:Str→Option Value) (base:Heap):Prop where
  kin:K.In base
  glob:base.Ns mainGlobals mg
  blt:∃ mb,base.Ns builtinsNs mb∧∀ x:Str,x ≠ "__name__" → mb x=bootBuiltins x
  nolimit:base.NoLimit
structure Cx where
  prog:Program
  w:World
  K:PySem.W.Frag
  mg:Str→Option Value
  base:Heap
  A:Around
  N:List Str
  s₀:Shared
  H₀:Hp
  env:Env
  outer:List Env
  stack:List Env
  ex:List Addr
  fn:Str→Bool
  calm:Bool
  pn:List (Addr×Obj)
  xe:Value→Shared→Prop
def frs (l:List Env):List Addr:=l.filterMap (·.frame)
abbrev Cx.fs (X:Cx):List Addr:=frs X.outer
def Vis (sc:Scope) (x:Str):Prop:=sc.names.lookup x=some .local∨sc.names.lookup x=some .cell∨sc.names.lookup x=some .free
def Loc (sc:Scope) (x:Str):Prop:=sc.names.lookup x=some .local∨sc.names.lookup x=some .cell
def Look (env:Env) (h:Heap) (m:Str→Option Value) (x:Str) (u:Value):Prop :=
  (env.kindOf x=some .local∧m x=some u)∨((env.kindOf x=some .cell∨env.kindOf x=some .free)∧∃ c,env.cells.lookup x=some c∧h.IsCell c (some u))
structure Cx.Ok (X:Cx):Prop where
  mod:Mod X.K X.mg X.base
  kind:X.env.scope.kind = .function
  glob:X.env.globals=mainGlobals
  blt:X.env.builtins=builtinsNs
  above:X.s₀.heap.objs.size≤X.env.locals
  inj:∀ x y c,X.env.cells.lookup x=some c→X.env.cells.lookup y=some c→x=y
  has:∀ x,(X.env.kindOf x=some .cell∨X.env.kindOf x=some .free)→∃ c,X.env.cells.lookup x=some c
  cab:∀ x c,X.fn x=true→X.env.cells.lookup x=some c→X.s₀.heap.objs.size≤c
  hd:X.calm=true→X.A.handled=none
  frames:X.A.frames=some X.stack
  stk:X.stack=X.outer∨(X.stack=X.env::X.outer∧X.env.frame=some X.env.locals)
  exf:∀ b∈X.ex,b≠X.env.locals∧∀ x c,X.env.cells.lookup x=some c→c≠b
  bs:∀ b o,X.base.get? b=some o→X.s₀.heap.get? b=some o∧X.H₀ b=none
  bsz:X.base.objs.size≤X.s₀.heap.objs.size
  noex:∀ b o,X.base.get? b=some o→b∉X.ex
  exfs:∀ b∈X.ex,b∉X.fs
  funs:X.s₀.heap.FunFrames X.base X.outer
  frf:∀ b∈X.fs,X.H₀ b=none
structure Inv (X:Cx) (pins:List (Addr×Obj)) (σ:List (Option V)) (H:Hp) (s:Shared):Prop where
  ok:X.Ok
  os:s.os=X.s₀.os
  bare:AllBare s.gens
  base:Un X.fs X.ex X.H₀ H X.s₀.heap s.heap
  loc:∃ m,s.heap.Ns X.env.locals m∧∀ (i:Nat) (x:Str) (v:V),X.N[i]? = some x→σ[i]? = some (some v)→Vis X.env.scope x→∃ u,RelV v u∧Look X.env s.heap m x u
  cell:∀ x c,X.env.cells.lookup x=some c→∃ v,s.heap.IsCell c v
  free:H X.env.locals=none
  freeC:∀ x c,X.env.cells.lookup x=some c→H c=none
  pin:∀ p∈X.pn++pins,s.heap.get? p.1=some p.2∧H p.1=none∧p.1≠X.env.locals∧p.1∉X.fs∧∀ v,p.2.data ≠ .cell v
  hok:HOk X.prog X.w H s.heap
  len:σ.length=X.N.length
section
variable {X:Cx} {pins:List (Addr×Obj)} {σ:List (Option V)} {H H' : Hp} {s:Shared} {h' : Heap}
theorem Cx.Ok.nofr (ok:X.Ok) {b:Addr} {o:Obj} (e:X.base.get? b=some o):b∉X.fs:=fun hb=>by
  have:=(ok.funs.mem hb).1
  rw [e] at this;cases this
theorem Inv.bs (I:Inv X pins σ H s):∀ b o,X.base.get? b=some o→s.heap.get? b=some o∧H b=none:=fun b o e =>
  ⟨I.base.keep b o (I.ok.bs b o e).1 (I.ok.bs b o e).2 (I.ok.nofr e) (I.ok.noex b o e),I.base.free b o (I.ok.bs b o e).1 (I.ok.bs b o e).2 (I.ok.noex b o e)⟩
theorem Inv.bk (I:Inv X pins σ H s):∀ b o,X.base.get? b=some o→s.heap.get? b=some o:=fun b o e=>(I.bs b o e).1
theorem Inv.mod (I:Inv X pins σ H s):Mod X.K X.mg X.base:=I.ok.mod
theorem Inv.kIn (I:Inv X pins σ H s):X.K.In s.heap:=I.ok.mod.kin.keeps I.bk
theorem Inv.nolimit (I:Inv X pins σ H s):s.heap.NoLimit:=I.ok.mod.nolimit.keeps I.bk
theorem Inv.fr (I:Inv X pins σ H s):∃ m,Fr X.base X.env.locals s.heap m :=
  let ⟨m,hn,_⟩:=I.loc
  ⟨m,hn,I.bk,Nat.le_trans I.ok.bsz I.ok.above⟩
theorem Inv.lt (I:Inv X pins σ H s):X.env.locals<s.heap.objs.size:=let ⟨_,hn,_⟩:=I.loc;hn.lt
theorem Inv.sz (I:Inv X pins σ H s):X.s₀.heap.objs.size≤s.heap.objs.size:=Nat.le_trans I.ok.above (Nat.le_of_lt I.lt)
theorem Inv.nofs (I:Inv X pins σ H s) {a:Addr} (h:s.heap.objs.size≤a):a∉X.fs:=fun hb=>by
  obtain⟨_,o,ho,_⟩:=I.ok.funs.mem hb
  exact absurd (Nat.lt_of_lt_of_le (Heap.lt_size ho) (Nat.le_trans I.sz h)) (Nat.lt_irrefl _)
theorem Inv.cne (I:Inv X pins σ H s):∀ x c,X.env.cells.lookup x=some c→c≠X.env.locals:=fun x c e z=>by
  obtain⟨v,o,ho,hd⟩:=I.cell x c e
  obtain⟨m,⟨o',es,ep,ho',hd',_⟩,_⟩:=I.loc
  rw [z,ho'] at ho;cases ho;rw [hd'] at hd;cases hd
theorem Inv.funs (I:Inv X pins σ H s):s.heap.FunFrames X.base X.outer:=by
  have all:∀ (l:List Env),(∀ b∈frs l,b∈X.fs)→X.s₀.heap.FunFrames X.base l→s.heap.FunFrames X.base l:=by
    intro l
    induction l with
    | nil=>intro _ _;trivial
    | cons env r ih =>
      intro hs hl
      obtain⟨hk,⟨L,o,hf,hn,ho,hd⟩,hr⟩:=hl
      have hL:L∈X.fs:=hs L (by unfold frs;rw [List.filterMap_cons,hf];exact List.mem_cons_self)
      obtain⟨sl,e⟩:=I.base.slot L o ho (I.ok.frf L hL) hL fun z=>I.ok.exfs L z hL
      exact⟨hk,⟨L,_,hf,hn,e,hd⟩,ih (fun b hb=>hs b (by unfold frs;rw [List.filterMap_cons,hf];exact List.mem_cons_of_mem _ hb)) hr⟩
  exact all X.outer (fun _ hb=>hb) I.ok.funs
theorem Inv.stack (I:Inv X pins σ H s):s.heap.FunFrames X.base X.stack:=by
  rcases I.ok.stk with e | ⟨e,hf⟩
  · rw [e];exact I.funs
  · rw [e]
    obtain⟨m,hn,_⟩:=I.loc
    refine .cons (by rw [I.ok.kind];decide) hf hn ?_ I.funs
    exact Heap.get?_none_of_le (Nat.le_trans I.ok.bsz I.ok.above)
theorem Inv.stkSub (I:Inv X pins σ H s):∀ b∈frs X.stack,b∈X.env.locals::X.fs:=fun b hb=>by
  rcases I.ok.stk with e | ⟨e,hf⟩
  · rw [e] at hb;exact List.mem_cons_of_mem _ hb
  · rw [e] at hb
    unfold frs at hb
    rw [List.filterMap_cons,hf] at hb
    exact hb
theorem Inv.stkFree (I:Inv X pins σ H s):∀ b∈frs X.stack,H b=none:=fun b hb=>by
  rcases List.mem_cons.mp (I.stkSub b hb) with e | hb
  · rw [e];exact I.free
  · obtain⟨_,o,ho,_⟩:=I.ok.funs.mem hb
    exact I.base.free b o ho (I.ok.frf b hb) fun z=>I.ok.exfs b z hb
theorem Inv.step {g' : Array GenState} {t' : Nat} {d' : Drawn} {ch:List Addr} (I:Inv X pins σ H s)
    (hch:∀ b∈ch,(b∈X.ex∨X.s₀.heap.objs.size≤b)∧b≠X.env.locals∧(∀ x c,X.env.cells.lookup x=some c→c≠b)∧∀ p∈X.pn++pins,p.1≠b)
    (keep:∀ b o,b≠X.env.locals→b∉X.fs→b∉ch→s.heap.get? b=some o→H b=none→h'.get? b=some o)
    (slot:∀ b o,b≠X.env.locals→b∈X.fs→b∉ch→s.heap.get? b=some o→H b=none→∃ sl,h'.get? b=some { o with slots:=sl }) (free:∀ b o,b∉ch→s.heap.get? b=some o→H b=none→H' b=none)
    (there:∀ b o,b∉ch→s.heap.get? b=some o→∃ o',h'.get? b=some o')
    (tups:∀ b xs,H b=some (.tup xs)→H' b=some (.tup xs)) (frzs:∀ b o u,H b=some (.frz o u)→H' b=some (.frz o u)) (tbls:∀ b ps,H b=some (.tbl ps)→∃ more,H' b=some (.tbl (ps++more)))
    (ns:∀ m,s.heap.Ns X.env.locals m→h'.Ns X.env.locals m) (hok:HOk X.prog X.w H' h') (hg:AllBare g') :
    Inv X pins σ H' { s with heap:=h',gens:=g',drawn:=d',toks:=t' }:=by
  have neL:∀ b o,X.s₀.heap.get? b=some o→b≠X.env.locals:=fun b o e=>Nat.ne_of_lt (Nat.lt_of_lt_of_le (Heap.lt_size e) I.ok.above)
  have neC:∀ b o,X.s₀.heap.get? b=some o→b∉X.ex→b∉ch:=fun b o e hx hb=>by
    rcases (hch b hb).1 with z | z
    · exact hx z
    · exact absurd (Nat.lt_of_lt_of_le (Heap.lt_size e) z) (Nat.lt_irrefl _)
  have cellK:∀ x c,X.env.cells.lookup x=some c→∀ v,s.heap.IsCell c v→h'.IsCell c v:=fun x c e v ⟨o,ho,hd⟩=>by
    have nch:c∉ch:=fun z=>(hch c z).2.2.1 x c e rfl
    by_cases hc:c∈X.fs
    · obtain⟨sl,q⟩:=slot c o (I.cne x c e) hc nch ho (I.freeC x c e)
      exact⟨_,q,hd⟩
    · exact⟨o,keep c o (I.cne x c e) hc nch ho (I.freeC x c e),hd⟩
  refine⟨I.ok,I.os,hg,⟨fun b o e n hb hx => ?_,fun b o e n hb hx => ?_,fun b o e n hx => ?_,fun b o e hx => ?_,fun b xs e=>tups b xs (I.base.tups b xs e),fun b o xs e=>frzs b o xs (I.base.frzs b o xs e),fun b ps e => ?_⟩,?_,fun x c e => ?_,?_,fun x c e => ?_,fun p hp => ?_,hok,I.len⟩
  · exact keep b o (neL b o e) hb (neC b o e hx) (I.base.keep b o e n hb hx) (I.base.free b o e n hx)
  · obtain⟨sl,e1⟩:=I.base.slot b o e n hb hx
    obtain⟨sl',e2⟩:=slot b _ (neL b o e) hb (neC b o e hx) e1 (I.base.free b o e n hx)
    exact⟨sl',e2⟩
  · obtain⟨o',e1⟩:=I.base.there b o e hx
    exact free b o' (neC b o e hx) e1 (I.base.free b o e n hx)
  · obtain⟨o',e1⟩:=I.base.there b o e hx
    exact there b o' (neC b o e hx) e1
  · obtain⟨m1,e1⟩:=I.base.tbls b ps e
    obtain⟨m2,e2⟩:=tbls b _ e1
    exact⟨m1++m2,by rw [e2,Array.append_assoc]⟩
  · obtain⟨m,hn,hl⟩:=I.loc
    refine⟨m,ns m hn,fun i x v e1 e2 e3 => ?_⟩
    obtain⟨u,r,l⟩:=hl i x v e1 e2 e3
    refine⟨u,r,?_⟩
    rcases l with l | ⟨k,c,e,z⟩
    · exact .inl l
    · exact .inr ⟨k,c,e,cellK x c e _ z⟩
  · obtain⟨v,z⟩:=I.cell x c e
    exact⟨v,cellK x c e v z⟩
  · obtain⟨m,⟨o,_,_,ho,_⟩,_⟩:=I.loc
    exact free _ o (fun z=>(hch _ z).2.1 rfl) ho I.free
  · obtain⟨v,o,ho,hd⟩:=I.cell x c e
    exact free c o (fun z=>(hch c z).2.2.1 x c e rfl) ho (I.freeC x c e)
  · obtain⟨e,n,ne,nf,d⟩:=I.pin p hp
    have nch:p.1∉ch:=fun z=>(hch p.1 z).2.2.2 p hp rfl
    exact⟨keep p.1 p.2 ne nf nch e n,free p.1 p.2 nch e n,ne,nf,d⟩
theorem Inv.un {t' : Nat} (I:Inv X pins σ H s) (u:Un X.fs [] H H' s.heap h') (hok:HOk X.prog X.w H' h'):Inv X pins σ H' { s with heap:=h',toks:=t' }:=by
  obtain⟨m,⟨o,es,ep,ho,r⟩,_⟩:=id I.loc
  obtain⟨sl,hL⟩:=u.any ho I.free (by simp)
  exact I.step (g' := s.gens) (d' := s.drawn) (ch := []) (fun _ z=>nomatch z) (fun b o _ hb _ e n=>u.keep b o e n hb (by simp)) (fun b o _ hb _ e n=>u.slot b o e n hb (by simp)) (fun b o _ e n=>u.free b o e n (by simp)) (fun b o _ e=>u.there b o e (by simp)) u.tups u.frzs u.tbls (fun m' hm=>by
    obtain⟨o',es',ep',ho',r'⟩:=hm
    rw [ho] at ho';cases ho'
    exact⟨_,es',ep',hL,r'⟩) hok I.bare
theorem Inv.call {g' : Array GenState} {t' : Nat} {d' : Drawn} {ch:List Addr} (I:Inv X pins σ H s) (u:Un (frs X.stack) ch H H' s.heap h') (hok:HOk X.prog X.w H' h') (hg:AllBare g')
    (hch:∀ b∈ch,(b∈X.ex∨X.s₀.heap.objs.size≤b)∧b≠X.env.locals∧(∀ x c,X.env.cells.lookup x=some c→c≠b)∧∀ p∈X.pn++pins,p.1≠b) :
    Inv X pins σ H' { s with heap:=h',gens:=g',drawn:=d',toks:=t' }:=by
  obtain⟨m,⟨o,es,ep,ho,r⟩,_⟩:=id I.loc
  obtain⟨sl,hL⟩:=u.any ho I.free fun z=>(hch _ z).2.1 rfl
  exact I.step (ch:=ch) hch (fun b o hL hb hc e n=>u.keep b o e n (fun z=>(List.mem_cons.mp (I.stkSub b z)).elim hL hb) hc) (fun b o _ _ hc e n=>u.any e n hc) (fun b o hc e n=>u.free b o e n hc) (fun b o hc e=>u.there b o e hc) u.tups u.frzs u.tbls (fun m' hm=>by
    obtain⟨o',es',ep',ho',r'⟩:=hm
    rw [ho] at ho';cases ho'
    exact⟨_,es',ep',hL,r'⟩) hok hg
theorem Inv.turned {t' : Nat} {it:Addr} (I:Inv X pins σ H s) (k:∀ b o,b≠it→s.heap.get? b=some o→h'.get? b=some o) (hn:H it=none) (hL:it≠X.env.locals)
    (h1:it∈X.ex∨X.s₀.heap.objs.size≤it) (h2:∀ x c,X.env.cells.lookup x=some c→c≠it) (h3:∀ p∈X.pn++pins,p.1≠it):Inv X pins σ H { s with heap:=h',toks:=t' }:=by
  have nit:∀ b u,H b=some u→b≠it:=fun b u e z=>by rw [z,hn] at e;cases e
  refine I.step (g' := s.gens) (d' := s.drawn) (ch := [it]) (fun b hb => ?_) (fun b o _ _ hc e _=>k b o (fun z=>hc (by simp [z])) e) (fun b o _ _ hc e _=>⟨o.slots,k b o (fun z=>hc (by simp [z])) e⟩) (fun _ _ _ _ n=>n)
    (fun b o hc e=>⟨o,k b o (fun z=>hc (by simp [z])) e⟩) (fun _ _ e=>e) (fun _ _ _ e=>e) (fun b ps e=>⟨#[],by rw [e];simp⟩) (fun m hm => ?_) (fun b u e => ?_) I.bare
  · have e:b=it:=by simpa using hb
    subst e
    exact⟨h1,hL,h2,h3⟩
  · obtain⟨o,es,ep,ho,r⟩:=hm
    exact⟨o,es,ep,k _ o (Ne.symm hL) ho,r⟩
  · refine (I.hok b u e).stay (fun c v hc q=>k c v ?_ q) (fun _ q=>q) fun _ _ q=>q
    rcases hc with z | z
    · rw [z];exact nit b u e
    · exact nit c _ z
theorem Inv.tok (I:Inv X pins σ H s) (t:Nat):Inv X pins σ H { s with toks:=t }:=I.un (h' := s.heap) (t' := t) Un.refl I.hok
theorem Inv.kept {t' : Nat} (I:Inv X pins σ H s) (k:∀ b u,s.heap.get? b=some u→h'.get? b=some u):Inv X pins σ H { s with heap:=h',toks:=t' }:=I.un (Un.kept k) (I.hok.kept k)
theorem Inv.laid {a:Addr} {o:HO} {t' : Nat} (I:Inv X pins σ H s) (k:∀ b u,s.heap.get? b=some u→h'.get? b=some u) (hp:s.heap.objs.size≤a) (new:ObjOk X.prog X.w (upd H a o) h' a o) :
    Inv X pins σ (upd H a o) { s with heap:=h',toks:=t' }:=I.un (Un.laid k hp (I.hok.fresh hp)) (I.hok.laid k hp new)
theorem Inv.write {x e:Addr} {o:HO} {t' : Nat} (I:Inv X pins σ H s) (mu:Mut (H x)) (he:e=x∨H e=some (.own x)) (k:∀ b u,b≠e→s.heap.get? b=some u→h'.get? b=some u) (heo:∃ u,h'.get? e=some u)
    (new:ObjOk X.prog X.w (upd H x o) h' x o):Inv X pins σ (upd H x o) { s with heap:=h',toks:=t' }:=I.un (Un.write mu he k heo) (I.hok.write mu he k heo new)
theorem Inv.weak {σ' : List (Option V)} (I:Inv X pins σ H s) (hl:σ'.length=σ.length) (w:∀ (i:Nat) v,σ'[i]? = some (some v)→σ[i]? = some (some v)):Inv X pins σ' H s :=
  ⟨I.ok,I.os,I.bare,I.base,let ⟨m,hn,hl'⟩:=I.loc;⟨m,hn,fun i x v e1 e2 e3=>hl' i x v e1 (w i v e2) e3⟩,I.cell,I.free,I.freeC,I.pin,I.hok,hl.trans I.len⟩
theorem Inv.pins_of {pins' : List (Addr×Obj)} (I:Inv X pins σ H s) (h:∀ p∈pins',s.heap.get? p.1=some p.2∧H p.1=none∧p.1≠X.env.locals∧p.1∉X.fs∧∀ v,p.2.data ≠ .cell v):Inv X pins' σ H s :=
  ⟨I.ok,I.os,I.bare,I.base,I.loc,I.cell,I.free,I.freeC,fun p hp=>(List.mem_append.mp hp).elim (fun z=>I.pin p (List.mem_append_left _ z)) (h p),I.hok,I.len⟩
theorem nodup_ix {N:List Str} (hN:N.Nodup) {i j:Nat} {x:Str} (a:N[i]? = some x) (b:N[j]? = some x):i=j:=by
  obtain⟨h1,e1⟩:=List.getElem?_eq_some_iff.mp a
  obtain⟨h2,e2⟩:=List.getElem?_eq_some_iff.mp b
  exact (List.getElem_inj hN).mp (e1.trans e2.symm)
theorem store_ok2 {M:Model} {A:Around} {E:Value→Shared→Prop} {i:Nat} {x:Str} {v:V} {u:Value} {Q:Unit→Shared→Prop} (I:Inv X pins σ H s) (hN:X.N.Nodup) (hi:X.N[i]? = some x) (hx:Loc X.env.scope x) (r:RelV v u)
    (h:∀ s',Inv X pins (σ.set i (some v)) H s' → (∃ a,Heap.SameBut a s.heap s'.heap∧(a=X.env.locals∨X.env.cells.lookup x=some a))→Q () s') (hf:X.fn x=true∨X.env.scope.names.lookup x=some .local:=by first | exact .inl rfl | exact .inr rfl | assumption):wpAny M A (storeName X.env x u) Q E s:=by
  obtain⟨m,hn,hl⟩:=id I.loc
  have hcls:(X.env.scope.kind == .class||(X.env.scope.kind == .module&&X.env.locals != X.env.globals))=false:=by rw [I.ok.kind];rfl
  have hiσ:i<σ.length:=by rw [I.len];exact (List.getElem?_eq_some_iff.mp hi).1
  have cne:=I.cne
  have tracked:∀ {a:Addr} {h' : Heap},(∃ o,s.heap.get? a=some o∧H a=none)→Heap.SameBut a s.heap h' → HOk X.prog X.w H h' := fun {a h'} ha hs b ob e=>by
    obtain⟨_,_,hfree⟩:=ha
    refine (I.hok b ob e).stay (fun c w' hc q=>(hs.2 c ?_).trans q) (fun _ q=>q) fun _ _ q=>q
    rintro rfl
    rcases hc with rfl | hc
    · rw [hfree] at e;cases e
    · rw [hfree] at hc;cases hc
  rcases hx with hk | hk
  · refine wpAny_storeName_local hk hn (fun h' hn' hs => ?_) hcls
    obtain⟨oL,_,_,hoL,_⟩:=id hn
    refine h _ ⟨I.ok,I.os,I.bare,⟨fun b o e n hb hx => ?_,fun b o e n hb hx => ?_,I.base.free,fun b o e hx => ?_,I.base.tups,I.base.frzs,I.base.tbls⟩,⟨_,hn',fun j y v' e1 e2 e3 => ?_⟩,fun y c e => ?_,I.free,I.freeC,fun p hp => ?_,tracked ⟨oL,hoL,I.free⟩ hs,by simpa using I.len⟩ ⟨_,hs,.inl rfl⟩
    · exact (hs.2 b (Nat.ne_of_lt (Nat.lt_of_lt_of_le (Heap.lt_size e) I.ok.above))).trans (I.base.keep b o e n hb hx)
    · obtain⟨sl,e1⟩:=I.base.slot b o e n hb hx
      exact⟨sl,(hs.2 b (Nat.ne_of_lt (Nat.lt_of_lt_of_le (Heap.lt_size e) I.ok.above))).trans e1⟩
    · obtain⟨o',e1⟩:=I.base.there b o e hx
      exact⟨o',(hs.2 b (Nat.ne_of_lt (Nat.lt_of_lt_of_le (Heap.lt_size e) I.ok.above))).trans e1⟩
    · by_cases hj:j=i
      · subst hj
        rw [hi] at e1;cases e1
        rw [List.getElem?_set_self hiσ] at e2
        cases e2
        exact⟨u,r,.inl ⟨hk,by simp⟩⟩
      · rw [List.getElem?_set_ne (Ne.symm hj)] at e2
        obtain⟨u',r',q⟩:=hl j y v' e1 e2 e3
        refine⟨u',r',?_⟩
        rcases q with ⟨k,e⟩ | ⟨k,c,e,z⟩
        · refine .inl ⟨k,?_⟩
          have:y≠x:=fun e=>hj (nodup_ix hN e1 (e▸hi))
          simp [this,e]
        · exact .inr ⟨k,c,e,z.sameBut hs (cne y c e)⟩
    · obtain⟨w',z⟩:=I.cell y c e
      exact⟨w',z.sameBut hs (cne y c e)⟩
    · obtain⟨e,n,ne,nf,d⟩:=I.pin p hp
      exact⟨(hs.2 p.1 ne).trans e,n,ne,nf,d⟩
  · have hfn:X.fn x=true:=by
      rcases hf with z | z
      · exact z
      · rw [z] at hk;cases hk
    obtain⟨c,hc⟩:=I.ok.has x (.inl hk)
    obtain⟨w',z⟩:=I.cell x c hc
    refine wpAny_storeName_cell I.ok.kind hk hc z (fun h' hc' hs => ?_)
    obtain⟨oc,hoc,hocd⟩:=id z
    refine h { s with heap:=h' } ⟨I.ok,I.os,I.bare,⟨fun b o e n hb hx => ?_,fun b o e n hb hx => ?_,I.base.free,fun b o e hx => ?_,I.base.tups,I.base.frzs,I.base.tbls⟩,⟨m,hn.sameBut hs (Ne.symm (cne x c hc)),fun j y v' e1 e2 e3 => ?_⟩,fun y c' e => ?_,I.free,I.freeC,fun p hp => ?_,tracked ⟨oc,hoc,I.freeC x c hc⟩ hs,by simpa using I.len⟩ ⟨c,hs,.inr hc⟩
    · exact (hs.2 b (Nat.ne_of_lt (Nat.lt_of_lt_of_le (Heap.lt_size e) (I.ok.cab x c hfn hc)))).trans (I.base.keep b o e n hb hx)
    · obtain⟨sl,e1⟩:=I.base.slot b o e n hb hx
      exact⟨sl,(hs.2 b (Nat.ne_of_lt (Nat.lt_of_lt_of_le (Heap.lt_size e) (I.ok.cab x c hfn hc)))).trans e1⟩
    · obtain⟨o',e1⟩:=I.base.there b o e hx
      exact⟨o',(hs.2 b (Nat.ne_of_lt (Nat.lt_of_lt_of_le (Heap.lt_size e) (I.ok.cab x c hfn hc)))).trans e1⟩
    · by_cases hj:j=i
      · subst hj
        rw [hi] at e1;cases e1
        rw [List.getElem?_set_self hiσ] at e2
        cases e2
        exact⟨u,r,.inr ⟨.inl hk,c,hc,hc'⟩⟩
      · rw [List.getElem?_set_ne (Ne.symm hj)] at e2
        obtain⟨u',r',q⟩:=hl j y v' e1 e2 e3
        refine⟨u',r',?_⟩
        rcases q with q | ⟨k,c',e,z'⟩
        · exact .inl q
        · refine .inr ⟨k,c',e,z'.sameBut hs ?_⟩
          rintro rfl
          exact hj (nodup_ix hN e1 (I.ok.inj _ _ _ e hc▸hi))
    · by_cases hcc:c' = c
      · subst hcc;exact⟨_,hc'⟩
      · obtain⟨w2,z2⟩:=I.cell y c' e
        exact⟨w2,z2.sameBut hs hcc⟩
    · obtain⟨e,n,ne,nf,d⟩:=I.pin p hp
      refine⟨(hs.2 p.1 ?_).trans e,n,ne,nf,d⟩
      intro q
      rw [q,hoc] at e
      have q' : oc=p.2:=Option.some.inj e
      exact d w' (by rw [← q'];exact hocd)
theorem store_ok {M:Model} {A:Around} {E:Value→Shared→Prop} {i:Nat} {x:Str} {v:V} {u:Value} {Q:Unit→Shared→Prop} (I:Inv X pins σ H s) (hN:X.N.Nodup) (hi:X.N[i]? = some x) (hx:Loc X.env.scope x) (r:RelV v u)
    (h:∀ s',Inv X pins (σ.set i (some v)) H s' → Q () s') (hf:X.fn x=true∨X.env.scope.names.lookup x=some .local:=by first | exact .inl rfl | exact .inr rfl | assumption):wpAny M A (storeName X.env x u) Q E s :=
  store_ok2 I hN hi hx r (fun s' I' _=>h s' I') hf
theorem Inv.call' {s' : Shared} {ch:List Addr} (I:Inv X pins σ H s) (ho:s'.os=s.os) (u:Un (frs X.stack) ch H H' s.heap s'.heap) (hok:HOk X.prog X.w H' s'.heap) (hg:AllBare s'.gens)
    (hch:∀ b∈ch,(b∈X.ex∨X.s₀.heap.objs.size≤b)∧b≠X.env.locals∧(∀ x c,X.env.cells.lookup x=some c→c≠b)∧∀ p∈X.pn++pins,p.1≠b):Inv X pins σ H' s' := by
  obtain⟨h',g',d',t',o'⟩:=s'
  have e:o' = s.os:=ho
  subst e
  exact I.call (g' := g') (t' := t') (d' := d') u hok hg hch
end
abbrev XK:=Value→Option Addr→Hp→Prop
abbrev St:=List (Option V)
abbrev VK:=V→Hp→Prop
abbrev TE:=St→Hp→VK→Prop
abbrev TT:=St→Hp→(Bool→Hp→Prop)→Prop
abbrev TA:=St→Hp→(List V→Hp→Prop)→Prop
structure Ends where
  nx:St→Hp→Prop
  rt:VK
  bk:St→Hp→Prop:=fun _ _=>False
  ct:St→Hp→Prop:=fun _ _=>False
abbrev TS:=Ends→St→Hp→Prop
def EP (X:Cx) (pins:List (Addr×Obj)) (σ:St) (Q:VK) (u:Value) (s' : Shared):Prop:=∃ v H',Inv X pins σ H' s' ∧ RelV v u∧Q v H'
def TP (X:Cx) (pins:List (Addr×Obj)) (σ:St) (Q:Bool→Hp→Prop) (b:Bool) (s' : Shared):Prop:=∃ H',Inv X pins σ H' s' ∧ Q b H'
def AP (X:Cx) (pins:List (Addr×Obj)) (σ:St) (Q:List V→Hp→Prop) (us:List Value) (s' : Shared):Prop:=∃ vs H',Inv X pins σ H' s' ∧ Vals vs us∧Q vs H'
def SP (X:Cx) (pins:List (Addr×Obj)) (D:Ends) (f:Flow) (s' : Shared):Prop :=
  match f with
  | .next=>∃ σ' H',Inv X pins σ' H' s' ∧ D.nx σ' H'
  | .brk=>∃ σ' H',Inv X pins σ' H' s' ∧ D.bk σ' H'
  | .cont=>∃ σ' H',Inv X pins σ' H' s' ∧ D.ct σ' H'
  | .ret u=>∃ v σ' H',Inv X pins σ' H' s' ∧ RelV v u∧D.rt v H'
def PE (X:Cx) (e:Expr) (t:TE):Prop :=
  ∀ (pins:List (Addr×Obj)) (s:Shared) (σ:St) (H:Hp) (Q:VK),Inv X pins σ H s→t σ H Q→wpAny (model X.prog X.w) X.A (eval e X.env) (EP X pins σ Q) X.xe s
def PT (X:Cx) (e:Expr) (t:TT):Prop :=
  ∀ (pins:List (Addr×Obj)) (s:Shared) (σ:St) (H:Hp) (Q:Bool→Hp→Prop),Inv X pins σ H s→t σ H Q→wpAny (model X.prog X.w) X.A (isTrue e X.env (eval e X.env)) (TP X pins σ Q) X.xe s
def PW (X:Cx) (e:Expr) (t:TT):Prop :=
  ∀ (whole:Sem Value) (pins:List (Addr×Obj)) (s:Shared) (σ:St) (H:Hp) (Q:Bool→Hp→Prop),Inv X pins σ H s→t σ H Q→wpAny (model X.prog X.w) X.A (isTrue e X.env whole) (TP X pins σ Q) X.xe s
theorem PW.pt {X:Cx} {e:Expr} {t:TT} (h:PW X e t):PT X e t:=h _
def PA (X:Cx) (es:List Expr) (t:TA):Prop :=
  ∀ (pos:Pos) (pins:List (Addr×Obj)) (s:Shared) (σ:St) (H:Hp) (Q:List V→Hp→Prop),Inv X pins σ H s→t σ H Q→wpAny (model X.prog X.w) X.A (spliced (backTo pos (starEach es X.env))) (AP X pins σ Q) X.xe s
def PS (X:Cx) (st:Stmt) (t:TS):Prop :=
  ∀ (pins:List (Addr×Obj)) (s:Shared) (σ:St) (H:Hp) (D:Ends),Inv X pins σ H s→t D σ H→wpAny (model X.prog X.w) X.A (exec st X.env) (SP X pins D) X.xe s
def PSs (X:Cx) (st:List Stmt) (t:TS):Prop :=
  ∀ (pins:List (Addr×Obj)) (s:Shared) (σ:St) (H:Hp) (D:Ends),Inv X pins σ H s→t D σ H→wpAny (model X.prog X.w) X.A (execs st X.env) (SP X pins D) X.xe s
theorem thn {α:Type} {t:Sem α} {Q Q' : α→Shared→Prop} {M:Model} {A:Around} {E:Value→Shared→Prop} {s:Shared} (h:wpAny M A t Q E s) (hQ:∀ a s,Q a s→Q' a s):wpAny M A t Q' E s:=wpAny_mono h hQ fun _ _ x=>x
end L2
namespace L2
open PySem PySem.Spec PyProof.Rows
section
variable {X:Cx}
def tVar (i:Nat):TE:=fun σ H Q=>∃ v,σ[i]? = some (some v)∧Q v H
def tC (v:V):TE:=fun _ H Q=>Q v H
theorem pe_var {i:Nat} {x:Str} {pos:Pos} (hN:X.N[i]? = some x) (hv:Vis X.env.scope x) (hd:(x==("__debug__" : Str))=false:=by decide) (hcd:(x==("__classdict__" : Str))=false:=by decide):PE X (.Name x pos) (tVar i):=by
  intro pins s σ H Q I h
  obtain⟨v,e,h⟩:=h
  obtain⟨m,hn,hl⟩:=I.loc
  obtain⟨u,r,l⟩:=hl i x v hN e hv
  have fin:EP X pins σ Q u s:=⟨v,H,I,r,h⟩
  rcases l with ⟨hk,hm⟩ | ⟨hk,c,hc,hcell⟩
  · exact wpAny_Name (wpAny_loadName_local I.ok.kind hk hn hm fin) hd
  · rcases hk with hk | hk
    · exact wpAny_Name (wpAny_loadName_cell I.ok.kind hk hc hcell fin) hd
    · exact wpAny_Name (wpAny_loadName_free I.ok.kind hk hc hcell fin hcd) hd
theorem pe_int {i j pos}:PE X (.Constant (.int i) j pos) (tC (.int i)):=fun _ _ _ H _ I h=>wpAny_Constant_int ⟨.int i,H,I.tok _,⟨_,rfl⟩,h⟩
theorem pe_bl {b j pos}:PE X (.Constant (.bool b) j pos) (tC (.bl b)):=fun _ _ _ H _ I h=>Constant_bool ⟨.bl b,H,I,rfl,h⟩
theorem pe_non {j pos}:PE X (.Constant .none j pos) (tC .non):=fun _ _ _ H _ I h=>Constant_none ⟨.non,H,I,rfl,h⟩
theorem pe_str {x j pos}:PE X (.Constant (.str x) j pos) (tC (.str x)):=fun _ _ _ H _ I h=>Calls.Constant_str ⟨.str x,H,I.tok _,⟨_,rfl⟩,h⟩
def Gl (X:Cx) (x:Str):Prop:=X.env.kindOf x=some .globalImplicit
theorem ld_glob {E:Value→Shared→Prop} {pins:List (Addr×Obj)} {s:Shared} {σ:St} {H:Hp} {x:Str} {u:Value} {pos:Pos} {Q:Value→Shared→Prop} (I:Inv X pins σ H s) (hg:Gl X x) (hm:X.mg x=some u) (h:Q u s)
    (hd:(x==("__debug__" : Str))=false:=by decide):wpAny (model X.prog X.w) X.A (eval (.Name x pos) X.env) Q E s :=
  Calls.Name_function_global I.ok.kind hg (Calls.loadGlobal_global (by rw [I.ok.glob];exact I.mod.glob.keeps I.bk) hm h) hd
theorem ld_blt {E:Value→Shared→Prop} {pins:List (Addr×Obj)} {s:Shared} {σ:St} {H:Hp} {x:Str} {u:Value} {pos:Pos} {Q:Value→Shared→Prop} (I:Inv X pins σ H s) (hg:Gl X x) (hm:X.mg x=none) (hv:bootBuiltins x=some u) (h:Q u s)
    (hn:x ≠ "__name__" := by decide) (hd:(x==("__debug__" : Str))=false:=by decide):wpAny (model X.prog X.w) X.A (eval (.Name x pos) X.env) Q E s:=by
  obtain⟨mb,h1,h2⟩:=I.mod.blt
  exact Calls.Name_function_global I.ok.kind hg (Calls.loadGlobal_builtin (by rw [I.ok.glob];exact I.mod.glob.keeps I.bk) hm (by rw [I.ok.blt];exact h1.keeps I.bk) ((h2 x hn).trans hv) h) hd
theorem pe_glob {x:Str} {v:V} {u:Value} {pos:Pos} (hg:Gl X x) (hm:X.mg x=some u) (r:RelV v u) (hd:(x==("__debug__" : Str))=false:=by decide):PE X (.Name x pos) (tC v) :=
  fun _ _ _ H _ I h=>ld_glob I hg hm ⟨v,H,I,r,h⟩ hd
theorem pe_bltn {x:Str} {v:V} {u:Value} {pos:Pos} (hg:Gl X x) (hm:X.mg x=none) (hv:bootBuiltins x=some u) (r:RelV v u) (hn:x ≠ "__name__" := by decide) (hd:(x==("__debug__" : Str))=false:=by decide):PE X (.Name x pos) (tC v) :=
  fun _ _ _ H _ I h=>ld_blt I hg hm hv ⟨v,H,I,r,h⟩ hn hd
variable {a b:Expr} {ta tb:TE} {pos:Pos}
def PC (X:Cx) (op:CmpOp) (a b:Expr) (t:TE):Prop :=
  ∀ (pins:List (Addr×Obj)) (s:Shared) (σ:St) (H:Hp) (Q:VK),Inv X pins σ H s→t σ H Q →
    wpAny (model X.prog X.w) X.A (eval a X.env) (fun v s₁=>wpAny (model X.prog X.w) X.A (eval b X.env) (fun u s₂=>wpAny (model X.prog X.w) X.A (compareOp op v u) (EP X pins σ Q) X.xe s₂) X.xe s₁) X.xe s
theorem nobehind (b:Expr) {op:CmpOp} (h:op ≠ .In) (h2:op ≠ .NotIn):behindInMarks op b=false:=by
  have e1:(op==CmpOp.In)=false:=by cases op <;> first | rfl | exact absurd rfl h
  have e2:(op==CmpOp.NotIn)=false:=by cases op <;> first | rfl | exact absurd rfl h2
  cases b <;> simp [behindInMarks,e1,e2]
def tIsN (ta:TE):TE:=fun σ H Q=>ta σ H fun x H1=>Q (.bl (decide (x = .non))) H1
def tNotN (ta:TE):TE:=fun σ H Q=>ta σ H fun x H1=>Q (.bl (!decide (x = .non))) H1
theorem RelV.none_iff {x:V} {v:Value} (r:RelV x v):(v==Value.none)=decide (x = .non):=by
  cases x with
  | non=>cases r;rfl
  | bl _=>cases r;rfl
  | int _=>obtain⟨t,rfl⟩:=r;rfl
  | str _=>obtain⟨t,rfl⟩:=r;rfl
  | byt _=>obtain⟨t,rfl⟩:=r;rfl
  | flt _=>obtain⟨t,rfl⟩:=r;rfl
  | ref _=>cases r;rfl
  | ty _=>cases r;rfl
theorem pc_isN {j pos'} (ha:PE X a ta):PC X .Is a (.Constant .none j pos') (tIsN ta):=by
  intro pins s σ H Q I h
  refine thn (ha pins s σ H _ I h) fun v s1 ⟨x,H1,I1,r1,q1⟩ => ?_
  exact Constant_none (is_none_gen ⟨.bl _,H1,I1,by rw [r1.none_iff];rfl,q1⟩)
theorem pc_notN {j pos'} (ha:PE X a ta):PC X .IsNot a (.Constant .none j pos') (tNotN ta):=by
  intro pins s σ H Q I h
  refine thn (ha pins s σ H _ I h) fun v s1 ⟨x,H1,I1,r1,q1⟩ => ?_
  exact Constant_none (isnot_none_gen ⟨.bl _,H1,I1,by rw [r1.none_iff];rfl,q1⟩)
def tB (t:TE):TT:=fun σ H Q=>t σ H fun x H1=>∃ c,x = .bl c∧Q c H1
theorem pt_cmp {op:CmpOp} {t:TE} (h:PC X op a b t) (h1:behindInMarks op b=false:=by first | exact nobehind _ (by decide) (by decide) | rfl):PT X (.Compare a [op] [b] pos) (tB t):=by
  intro pins s σ H Q I hw
  refine wpAny_isTrue_Compare1 (thn (h pins s σ H _ I hw) fun v s1 h1=>thn h1 fun u s2 h2=>thn h2 fun c s3 ⟨x,H1,I1,r1,q1⟩ => ?_) h1
  obtain⟨d,rfl,q⟩:=q1
  cases r1
  exact wpAny_truthy_bool ⟨H1,I1,q⟩
variable {tA tB' : TT} {rest:List Expr}
def tAnd (t u:TT):TT:=fun σ H Q=>t σ H fun c H1=>if c=true then u σ H1 Q else Q false H1
def tOr (t u:TT):TT:=fun σ H Q=>t σ H fun c H1=>if c=true then Q true H1 else u σ H1 Q
def tNot (t:TT):TT:=fun σ H Q=>t σ H fun c H1=>Q (!c) H1
theorem pw_and1 (ha:PT X a tA):PW X (.BoolOp .And [a] pos) tA:=by
  intro wh pins s σ H Q I h
  refine isTrue_and (thn (ha pins s σ H Q I h) fun c s1 e => ?_)
  cases c with
  | true=>exact isTrue_and_nil e
  | false=>exact e
theorem pw_or1 (ha:PT X a tA):PW X (.BoolOp .Or [a] pos) tA:=by
  intro wh pins s σ H Q I h
  refine isTrue_or (thn (ha pins s σ H Q I h) fun c s1 e => ?_)
  cases c with
  | false=>exact isTrue_or_nil e
  | true=>exact e
theorem pw_and (ha:PT X a tA) (hb:PW X (.BoolOp .And (b::rest) pos) tB'):PW X (.BoolOp .And (a::b::rest) pos) (tAnd tA tB'):=by
  intro wh pins s σ H Q I h
  refine isTrue_and (thn (ha pins s σ H _ I h) fun c s1 ⟨H1,I1,q1⟩ => ?_)
  cases c with
  | true=>exact hb wh pins s1 σ H1 Q I1 q1
  | false=>exact⟨H1,I1,q1⟩
theorem pw_or (ha:PT X a tA) (hb:PW X (.BoolOp .Or (b::rest) pos) tB'):PW X (.BoolOp .Or (a::b::rest) pos) (tOr tA tB'):=by
  intro wh pins s σ H Q I h
  refine isTrue_or (thn (ha pins s σ H _ I h) fun c s1 ⟨H1,I1,q1⟩ => ?_)
  cases c with
  | true=>exact⟨H1,I1,q1⟩
  | false=>exact hb wh pins s1 σ H1 Q I1 q1
theorem pt_not (ha:PT X a tA):PT X (.UnaryOp .Not a pos) (tNot tA):=by
  intro pins s σ H Q I h
  exact isTrue_not (ha pins s σ H (fun c H1=>Q (!c) H1) I h)
def tIf (t:TT) (ta tb:TE):TE:=fun σ H Q=>t σ H fun c H1=>if c=true then ta σ H1 Q else tb σ H1 Q
theorem pe_ifExp {c:Expr} (hc:PT X c tA) (ha:PE X a ta) (hb:PE X b tb):PE X (.IfExp c a b pos) (tIf tA ta tb):=by
  intro pins s σ H Q I h
  refine wpAny_IfExp (thn (hc pins s σ H _ I h) fun d s1 ⟨H1,I1,q1⟩ => ?_)
  cases d with
  | true=>exact ha pins s1 σ H1 Q I1 q1
  | false=>exact hb pins s1 σ H1 Q I1 q1
end
end L2
namespace L2
open PySem PySem.Spec PyProof.Rows
def SqL (K:PySem.W.Frag) (H:Hp) (a:Addr) (xs:List V):Prop :=
  Rd H a (.lst xs) ∨
    ∃ (o:Obj) (its:Array Value) (n:Nat),K.lookup a=some o∧o.cls = .type "list" ∧ o.dict=none∧o.data = .seq its n∧its.size≤sizeLine∧Vals xs its.toList
def SqT (K:PySem.W.Frag) (H:Hp) (a:Addr) (xs:List V):Prop :=
  Rd H a (.tup xs) ∨
    ∃ (o:Obj) (its:Array Value) (n:Nat),K.lookup a=some o∧o.cls = .type "tuple" ∧ o.data = .seq its n∧its.size≤sizeLine∧Vals xs its.toList
def absV:Value→Option V
  | .none=>some .non
  | .bool b=>some (.bl b)
  | .int i _=>some (.int i)
  | .str x _=>some (.str x)
  | .bytes b _=>some (.byt b)
  | .float b _=>some (.flt b)
  | .ref a=>some (.ref a)
  | .type n=>some (.ty n)
  | _=>none
theorem RelV.abs {x:V} {u:Value} (r:RelV x u):absV u=some x:=by
  cases x with
  | non=>cases r;rfl
  | bl _=>cases r;rfl
  | int _=>obtain⟨t,rfl⟩:=r;rfl
  | str _=>obtain⟨t,rfl⟩:=r;rfl
  | byt _=>obtain⟨t,rfl⟩:=r;rfl
  | flt _=>obtain⟨t,rfl⟩:=r;rfl
  | ref _=>cases r;rfl
  | ty _=>cases r;rfl
theorem RelV.inj {x y:V} {u:Value} (r:RelV x u) (q:RelV y u):x=y:=Option.some.inj (r.abs.symm.trans q.abs)
theorem Vals.inj:∀ {xs ys:List V} {us:List Value},Vals xs us→Vals ys us→xs=ys
  | _,_,_,.nil,.nil=>rfl
  | _,_,_,.cons r t,.cons r' t' => by rw [r.inj r',Vals.inj t t']
section
variable {X:Cx} {pins:List (Addr×Obj)} {σ:St} {H:Hp} {s:Shared} {a:Addr} {xs ys:List V}
theorem SqL.of {K:PySem.W.Frag} (h:H a=some (.lst xs)):SqL K H a xs := .inl (.inl h)
theorem SqT.of {K:PySem.W.Frag} (h:H a=some (.tup xs)):SqT K H a xs := .inl (.inl h)
theorem Inv.list (I:Inv X pins σ H s) (h:SqL X.K H a xs):∃ its:List Value,Vals xs its∧PlainL s.heap a its.toArray∧xs.length≤sizeLine:=by
  rcases h with h | ⟨o,its,n,hk,hc,hd,hs,hz,r⟩
  · obtain⟨z,its,n,r,e⟩:=h.ok I.hok
    exact⟨its,r,⟨_,n,e,rfl,rfl,rfl⟩,z⟩
  · refine⟨its.toList,r,⟨o,n,I.kIn a o hk,hc,hd,by simpa using hs⟩,?_⟩
    have e:=r.length
    simp only [Array.length_toList] at e
    lia
theorem Inv.tuple (I:Inv X pins σ H s) (h:SqT X.K H a xs):∃ its:List Value,Vals xs its∧IsTup s.heap a its.toArray∧xs.length≤sizeLine:=by
  rcases h with h | ⟨o,its,n,hk,hc,hs,hz,r⟩
  · obtain⟨z,its,r,p⟩:=h.ok I.hok
    exact⟨its,r,p,z⟩
  · refine⟨its.toList,r,⟨o,I.kIn a o hk,hc,n,by simpa using hs⟩,?_⟩
    have e:=r.length
    simp only [Array.length_toList] at e
    lia
theorem Inv.list_inj (I:Inv X pins σ H s) (h:SqL X.K H a xs) (h' : SqL X.K H a ys):xs=ys:=by
  obtain⟨its,r,⟨o,n,e,_,_,d⟩,_⟩:=I.list h
  obtain⟨its',r',⟨o',n',e',_,_,d'⟩,_⟩:=I.list h'
  rw [e] at e';cases e'
  rw [d] at d'
  injection d' with d1 _
  have:its=its' := by simpa using congrArg Array.toList d1
  subst this
  exact r.inj r'
theorem Inv.tuple_inj (I:Inv X pins σ H s) (h:SqT X.K H a xs) (h' : SqT X.K H a ys):xs=ys:=by
  obtain⟨its,r,⟨o,e,_,n,d⟩,_⟩:=I.tuple h
  obtain⟨its',r',⟨o',e',_,n',d'⟩,_⟩:=I.tuple h'
  rw [e] at e';cases e'
  rw [d] at d'
  injection d' with d1 _
  have:its=its' := by simpa using congrArg Array.toList d1
  subst this
  exact r.inj r'
end
abbrev Cx.wish (X:Cx) (E:Value→Shared→Prop):Cx := { X with xe:=E }
abbrev Cx.nox (X:Cx):Cx:=X.wish fun _ _=>False
theorem Cx.Ok.wish {X:Cx} (ok:X.Ok) (E:Value→Shared→Prop):(X.wish E).Ok :=
  ⟨ok.mod,ok.kind,ok.glob,ok.blt,ok.above,ok.inj,ok.has,ok.cab,ok.hd,ok.frames,ok.stk,ok.exf,ok.bs,ok.bsz,ok.noex,ok.exfs,ok.funs,ok.frf⟩
theorem Cx.Ok.unwish {X:Cx} {E:Value→Shared→Prop} (ok:(X.wish E).Ok):X.Ok :=
  ⟨ok.mod,ok.kind,ok.glob,ok.blt,ok.above,ok.inj,ok.has,ok.cab,ok.hd,ok.frames,ok.stk,ok.exf,ok.bs,ok.bsz,ok.noex,ok.exfs,ok.funs,ok.frf⟩
section
variable {X:Cx} {pins:List (Addr×Obj)} {σ:St} {H:Hp} {s:Shared} {E:Value→Shared→Prop}
theorem Inv.wish (I:Inv X pins σ H s) (E:Value→Shared→Prop):Inv (X.wish E) pins σ H s:=⟨I.ok.wish E,I.os,I.bare,I.base,I.loc,I.cell,I.free,I.freeC,I.pin,I.hok,I.len⟩
theorem Inv.unwish (I:Inv (X.wish E) pins σ H s):Inv X pins σ H s:=⟨I.ok.unwish,I.os,I.bare,I.base,I.loc,I.cell,I.free,I.freeC,I.pin,I.hok,I.len⟩
theorem SP.unwish {D:Ends} {f:Flow} {s' : Shared} (h:SP (X.wish E) pins D f s'):SP X pins D f s' := by
  cases f with
  | next=>obtain⟨σ',H',I,q⟩:=h;exact⟨σ',H',I.unwish,q⟩
  | brk=>obtain⟨σ',H',I,q⟩:=h;exact⟨σ',H',I.unwish,q⟩
  | cont=>obtain⟨σ',H',I,q⟩:=h;exact⟨σ',H',I.unwish,q⟩
  | ret u=>obtain⟨v,σ',H',I,r,q⟩:=h;exact⟨v,σ',H',I.unwish,r,q⟩
theorem PE.nox {e:Expr} {t:TE} (h:PE X.nox e t):PE X e t:=fun pins s σ H Q I hw =>
  wpAny_mono (h pins s σ H Q (I.wish _) hw) (fun _ _ ⟨v,H',I',r,q⟩=>⟨v,H',I'.unwish,r,q⟩) fun _ _ z=>False.elim z
theorem PT.nox {e:Expr} {t:TT} (h:PT X.nox e t):PT X e t:=fun pins s σ H Q I hw =>
  wpAny_mono (h pins s σ H Q (I.wish _) hw) (fun _ _ ⟨H',I',q⟩=>⟨H',I'.unwish,q⟩) fun _ _ z=>False.elim z
theorem PSs.nox {st:List Stmt} {t:TS} (h:PSs X.nox st t):PSs X st t:=fun pins s σ H D I hw =>
  wpAny_mono (h pins s σ H D (I.wish _) hw) (fun _ _ q=>q.unwish) fun _ _ z=>False.elim z
end
section
variable {X:Cx} {st:Stmt} {rest:List Stmt} {t u:TS} {e:Expr} {te:TE} {pos:Pos}
def tNext:TS:=fun D σ H=>D.nx σ H
def tSeq (t u:TS):TS:=fun D σ H=>t { D with nx:=u D } σ H
theorem pss_nil:PSs X [] tNext:=fun _ _ σ H _ I h=>wpAny_execs_nil ⟨σ,H,I,h⟩
theorem pss_cons (h1:PS X st t) (h2:PSs X rest u):PSs X (st::rest) (tSeq t u):=by
  intro pins s σ H D I h
  refine wpAny_execs_cons (thn (h1 pins s σ H { D with nx:=u D } I h) fun f s1 q => ?_)
  cases f with
  | next =>
    obtain⟨σ',H',I',q⟩:=q
    exact h2 pins s1 σ' H' D I' q
  | ret v=>exact q
  | brk=>exact q
  | cont=>exact q
theorem pss_one (h1:PS X st t):PSs X [st] t:=by
  intro pins s σ H D I h
  refine wpAny_execs_cons (thn (h1 pins s σ H D I h) fun f s1 q => ?_)
  cases f with
  | next=>exact wpAny_execs_nil q
  | ret v=>exact q
  | brk=>exact q
  | cont=>exact q
theorem Inv.quiet {pins:List (Addr×Obj)} {σ:St} {H:Hp} {s:Shared} (I:Inv X pins σ H s):interactive X.env=false:=by simp [interactive,I.ok.kind]
def tDrop (te:TE):TS:=fun D σ H=>te σ H fun _ H1=>D.nx σ H1
theorem ps_expr (he:PE X e te) (hs:swapsWith e none pos.line X.env=pure false:=by rfl):PS X (.Expr e pos) (tDrop te):=by
  intro pins s σ H D I h
  exact wpAny_Expr_any (thn (he pins s σ H _ I h) fun v s1 ⟨x,H1,I1,r1,q1⟩=>⟨σ,H1,I1,q1⟩) I.quiet hs
def tRet (te:TE):TS:=fun D σ H=>te σ H D.rt
theorem ps_ret (he:PE X e te):PS X (.Return (some e) pos) (tRet te):=by
  intro pins s σ H D I h
  exact wpAny_Return_some (thn (he pins s σ H _ I h) fun v s1 ⟨x,H1,I1,r1,q1⟩=>⟨x,σ,H1,I1,r1,q1⟩)
def tIfS (c:TT) (t u:TS):TS:=fun D σ H=>c σ H fun b H1=>if b=true then t D σ H1 else u D σ H1
theorem ps_if {c:Expr} {a b:List Stmt} {tc:TT} (hc:PT X c tc) (ha:PSs X a t) (hb:PSs X b u):PS X (.If c a b pos) (tIfS tc t u):=by
  intro pins s σ H D I h
  refine wpAny_If (thn (hc pins s σ H _ I h) fun d s1 ⟨H1,I1,q1⟩ => ?_)
  cases d with
  | true=>exact ha pins s1 σ H1 D I1 q1
  | false=>exact hb pins s1 σ H1 D I1 q1
end
abbrev TG:=V→St→Hp→(St→Hp→Prop)→Prop
abbrev TGs:=List V→St→Hp→(St→Hp→Prop)→Prop
def PG (X:Cx) (target:Expr) (t:TG):Prop :=
  ∀ (pins:List (Addr×Obj)) (s:Shared) (σ:St) (H:Hp) (v:V) (u:Value) (Q:St→Hp→Prop),Inv X pins σ H s→RelV v u→t v σ H Q →
    wpAny (model X.prog X.w) X.A (assign target X.env u) (fun _ s' => ∃ σ' H',Inv X pins σ' H' s' ∧ Q σ' H') X.xe s
def PGs (X:Cx) (ts:List Expr) (t:TGs):Prop :=
  ∀ (pins:List (Addr×Obj)) (s:Shared) (σ:St) (H:Hp) (vs:List V) (us:List Value) (Q:St→Hp→Prop),Inv X pins σ H s→Vals vs us→t vs σ H Q →
    wpAny (model X.prog X.w) X.A (assignInOrder ((assignEach ts X.env).map (·.2)) us) (fun _ s' => ∃ σ' H',Inv X pins σ' H' s' ∧ Q σ' H') X.xe s
abbrev TSet:=V→V→V→Hp→(Hp→Prop)→Prop
def PSet (X:Cx) (t:TSet):Prop :=
  ∀ (pins:List (Addr×Obj)) (s:Shared) (σ:St) (H:Hp) (o i v:V) (ov iv u:Value) (Q:Hp→Prop),Inv X pins σ H s→RelV o ov→RelV i iv→RelV v u→t o i v H Q →
    wpAny (model X.prog X.w) X.A (setItem ov iv u) (fun _ s' => ∃ H',Inv X pins σ H' s' ∧ Q H') X.xe s
abbrev TIp:=V→V→Hp→VK→Prop
def PIp (X:Cx) (op:Operator) (t:TIp):Prop :=
  ∀ (pins:List (Addr×Obj)) (s:Shared) (σ:St) (H:Hp) (x y:V) (v u:Value) (Q:VK),Inv X pins σ H s→RelV x v→RelV y u→t x y H Q →
    wpAny (model X.prog X.w) X.A (inplaceOp op v u) (EP X pins σ Q) X.xe s
section
variable {X:Cx} {pos:Pos}
def gName (i:Nat):TG:=fun v σ H Q=>Q (σ.set i (some v)) H
theorem pg_name {i:Nat} {x:Str} (hN:X.N.Nodup) (hi:X.N[i]? = some x) (hx:Loc X.env.scope x) (hf:X.fn x=true∨X.env.scope.names.lookup x=some .local:=by first | exact .inl rfl | exact .inr rfl | assumption):PG X (.Name x pos) (gName i):=by
  intro pins s σ H v u Q I r h
  exact wpAny_assign_Name (store_ok I hN hi hx r (fun s' I' => ⟨_,H,I',h⟩) hf)
def gNil:TGs:=fun vs σ H Q=>vs = []∧Q σ H
def gCons (t:TG) (u:TGs):TGs:=fun vs σ H Q=>∃ v r,vs=v::r∧t v σ H fun σ' H' => u r σ' H' Q
theorem pgs_nil:PGs X [] gNil:=by
  intro pins s σ H vs us Q I r h
  obtain⟨e,h⟩:=h
  subst e
  cases r
  exact assignInOrder_nil ⟨σ,H,I,h⟩
theorem pgs_cons {e:Expr} {es:List Expr} {t:TG} {u:TGs} (h1:PG X e t) (h2:PGs X es u)
    (hs:(assignEach (e::es) X.env).map (·.2)=assign e X.env::(assignEach es X.env).map (·.2):=by rfl):PGs X (e::es) (gCons t u):=by
  intro pins s σ H vs us Q I r h
  obtain⟨v,vr,e1,h⟩:=h
  subst e1
  cases r with
  | cons r rr =>
    rw [hs]
    refine assignInOrder_cons (thn (h1 pins s σ H _ _ _ I r h) fun _ s1 ⟨σ1,H1,I1,q1⟩ => ?_)
    exact h2 pins s1 σ1 H1 _ _ Q I1 rr q1
def gTup (K:PySem.W.Frag) (n:Nat) (t:TGs):TG:=fun v σ H Q=>∃ a xs,v = .ref a∧SqT K H a xs∧xs.length=n∧t xs σ H Q
theorem pg_tup {es:List Expr} {k:Nat} {t:TGs} {n:Nat} (hc:X.calm=true) (h:PGs X es t)
    (hn:(assignEach es X.env).length=n:=by rfl) (hst:(assignEach es X.env).findIdx? (·.1)=none:=by rfl):PG X (.Tuple es k pos) (gTup X.K n t):=by
  intro pins s σ H v u Q I r hw
  obtain⟨a,xs,e1,hq,hl,hw⟩:=hw
  subst e1
  cases r
  obtain⟨its,rv,ht,hz⟩:=I.tuple hq
  refine assign_Tuple_tuple (I.ok.hd hc) ht (by simp [hn,← hl,rv.length]) hst fun h' hx => ?_
  have I1:Inv X pins σ H { s with heap:=h' }:=I.kept (t' := s.toks) fun b o e=>hx b o (Nat.ne_of_lt (Heap.lt_size e)) e
  exact h pins _ σ H xs _ Q I1 (by simpa using rv) hw
def gSub (to ti:TE) (t:TSet):TG:=fun v σ H Q=>to σ H fun o H1=>ti σ H1 fun i H2=>t o i v H2 fun H3=>Q σ H3
theorem pg_sub {o i:Expr} {to ti:TE} {t:TSet} (ho:PE X o to) (hi:PE X i ti) (hs:PSet X t)
    (ha:∀ v,assign (.Subscript o i pos) X.env v=(do
      let ov ← holding [v] (eval o X.env)
      let iv ← holding [v,ov] (eval i X.env)
      standAt pos
      holding [v,ov,iv] (setItem ov iv v)
      release [v,ov,iv] []):=by intro _;rfl):PG X (.Subscript o i pos) (gSub to ti t):=by
  intro pins s σ H v u Q I r h
  rw [ha]
  refine wpAny_bind (wpAny_holding (thn (ho pins s σ H _ I h) fun ov s1 ⟨x,H1,I1,r1,q1⟩ => ?_))
  refine wpAny_bind (wpAny_holding (thn (hi pins s1 σ H1 _ I1 q1) fun iv s2 ⟨y,H2,I2,r2,q2⟩ => ?_))
  refine wpAny_bind (wpAny_standAt (wpAny_bind (wpAny_holding (thn (hs pins s2 σ H2 x y v ov iv u _ I2 r1 r2 r q2) fun _ s3 ⟨H3,I3,q3⟩ => ?_))))
  exact wpAny_release ⟨σ,H3,I3,q3⟩
def tAsg (te:TE) (g:TG):TS:=fun D σ H=>te σ H fun x H1=>g x σ H1 D.nx
theorem ps_asg {tg e:Expr} {te:TE} {g:TG} (he:PE X e te) (hg:PG X tg g) (hs:swapsWithSole [tg] e pos.line X.env=pure false:=by rfl) (hw:swappedStores [tg] e X.env=pure none:=by rfl)
    (h1:(assignEach [tg] X.env).map (·.2) = [assign tg X.env]:=by rfl):PS X (.Assign [tg] e pos) (tAsg te g):=by
  intro pins s σ H D I h
  refine wpAny_Assign_stores (thn (he pins s σ H _ I h) fun v s1 ⟨x,H1,I1,r1,q1⟩ => ?_) hs hw
  rw [h1]
  exact thn (hg pins s1 σ H1 x v _ I1 r1 q1) fun _ s2 q=>q
theorem ps_set {i:Nat} {x:Str} {e:Expr} {te:TE} {pos' : Pos} (hN:X.N.Nodup) (hi:X.N[i]? = some x) (hx:Loc X.env.scope x) (he:PE X e te) (hs:swapsWith e (some (.Name x pos')) pos.line X.env=pure false:=by rfl) (hf:X.fn x=true∨X.env.scope.names.lookup x=some .local:=by first | exact .inl rfl | exact .inr rfl | assumption) :
    PS X (.Assign [.Name x pos'] e pos) (tAsg te (gName i)):=by
  intro pins s σ H D I h
  refine wpAny_Assign_Name (thn (he pins s σ H _ I h) fun v s1 ⟨y,H1,I1,r1,q1⟩ => ?_) hs
  exact store_ok I1 hN hi hx r1 (fun s2 I2=>⟨_,H1,I2,q1⟩) hf
def tAug (i:Nat) (te:TE) (ti:TIp):TS:=fun D σ H=>∃ x,σ[i]? = some (some x)∧te σ H fun y H1=>ti x y H1 fun z H2=>D.nx (σ.set i (some z)) H2
theorem ps_aug {i:Nat} {x:Str} {e:Expr} {te:TE} {op:Operator} {ti:TIp} {pos' : Pos} (hN:X.N.Nodup) (hi:X.N[i]? = some x) (hx:Loc X.env.scope x) (he:PE X e te) (ho:PIp X op ti) (hf:X.fn x=true∨X.env.scope.names.lookup x=some .local:=by first | exact .inl rfl | exact .inr rfl | assumption) :
    PS X (.AugAssign (.Name x pos') op e pos) (tAug i te ti):=by
  intro pins s σ H D I h
  obtain⟨v,e1,h⟩:=h
  obtain⟨m,hn,hl⟩:=I.loc
  have vis:Vis X.env.scope x:=by rcases hx with k | k;exact .inl k;exact .inr (.inl k)
  obtain⟨u,r,l⟩:=hl i x v hi e1 vis
  refine wpAny_AugAssign_Name ?_
  have go:wpAny (model X.prog X.w) X.A (eval e X.env) (fun w s₂=>wpAny (model X.prog X.w) X.A (inplaceOp op u w) (fun r s₃=>wpAny (model X.prog X.w) X.A (storeName X.env x r) (fun _=>SP X pins D .next) X.xe s₃) X.xe s₂) X.xe s:=by
    refine thn (he pins s σ H _ I h) fun w s1 ⟨y,H1,I1,r1,q1⟩ => ?_
    refine thn (ho pins s1 σ H1 v y u w _ I1 r r1 q1) fun z s2 ⟨zv,H2,I2,r2,q2⟩ => ?_
    exact store_ok I2 hN hi hx r2 (fun s3 I3=>⟨_,H2,I3,q2⟩) hf
  rcases l with ⟨hk,hm⟩ | ⟨hk,c,hc,hcell⟩
  · exact wpAny_loadName_local I.ok.kind hk hn hm go
  · rcases hk with hk | hk
    · exact wpAny_loadName_cell I.ok.kind hk hc hcell go
    · rcases hx with k | k
      · have:X.env.scope.names.lookup x=some .free:=hk
        rw [k] at this;cases this
      · have:X.env.scope.names.lookup x=some .free:=hk
        rw [k] at this;cases this
end
section
variable {X:Cx} {pos:Pos}
def tWhile (c:TT) (tb:TS):TS:=fun D σ H=>∃ W:Nat→St→Hp→Prop,(∃ m,W m σ H)∧∀ m σ H,W m σ H →
  c σ H fun b H1=>if b=true then ∃ N:St→Hp→Prop,(∀ σ' H',N σ' H' → ∃ m',m' < m∧W m' σ' H')∧tb { D with nx:=N,ct:=N,bk:=D.nx } σ H1 else D.nx σ H1
theorem ps_while {c:Expr} {body:List Stmt} {tc:TT} {tb:TS} (hp:PassesOwn (model X.prog X.w) X.A X.env X.xe) (hc:PT X c tc) (hb:PSs X body tb):PS X (.While c body [] pos) (tWhile tc tb):=by
  intro pins s σ H D I h
  obtain⟨W,⟨m0,w0⟩,turn⟩:=h
  refine wpAny_While (codeAny_whileLoop (fun n s' => ∃ σ' H',Inv X pins σ' H' s' ∧ W n σ' H') ?_ m0 ⟨σ,H,I,w0⟩)
  rintro n s1 ⟨σ1,H1,I1,w1⟩
  refine wpAny_passesOwn hp (thn (hc pins s1 σ1 H1 _ I1 (turn n σ1 H1 w1)) fun b s2 ⟨H2,I2,q2⟩ => ?_)
  cases b with
  | true =>
    obtain⟨N,hN,q2⟩:=q2
    rw [if_pos rfl]
    refine wpAny_passesOwn hp (thn (hb pins s2 σ1 H2 _ I2 q2) fun f s3 q3 => ?_)
    cases f with
    | next =>
      obtain⟨σ3,H3,I3,n3⟩:=q3
      obtain⟨m',hm,w3⟩:=hN σ3 H3 n3
      exact⟨m',hm,σ3,H3,I3,w3⟩
    | cont =>
      obtain⟨σ3,H3,I3,n3⟩:=q3
      obtain⟨m',hm,w3⟩:=hN σ3 H3 n3
      exact⟨m',hm,σ3,H3,I3,w3⟩
    | brk=>exact q3
    | ret v=>exact q3
  | false =>
    rw [if_neg Bool.false_ne_true]
    exact wpAny_execs_nil ⟨σ1,H2,I2,q2⟩
end
structure It where
  go:Nat→Hp→Prop
  yld:Nat→Hp→V→Hp→Prop
  stop:Nat→Hp→Prop
def FpOk (X:Cx) (pins:List (Addr×Obj)) (H:Hp) (b:Addr):Prop :=
  H b=none∧b≠X.env.locals∧b∉X.fs∧(b∈X.ex∨X.s₀.heap.objs.size≤b)∧(∀ x c,X.env.cells.lookup x=some c→c≠b)∧∀ p∈X.pn++pins,p.1≠b
theorem Inv.fpOk {X:Cx} {pins:List (Addr×Obj)} {σ:St} {H H' : Hp} {s:Shared} {b:Addr} (I:Inv X pins σ H s) (hb:s.heap.objs.size≤b) (hn:H' b=none):FpOk X pins H' b:=by
  refine⟨hn,Nat.ne_of_gt (Nat.lt_of_lt_of_le I.lt hb),I.nofs hb,.inr (Nat.le_trans I.sz hb),fun x c e z => ?_,fun p hp z => ?_⟩
  · obtain⟨v,q⟩:=I.cell x c e
    exact absurd (Nat.lt_of_lt_of_le q.lt (by rw [z];exact hb)) (Nat.lt_irrefl _)
  · exact absurd (Nat.lt_of_lt_of_le (Heap.lt_size (I.pin p hp).1) (by rw [z];exact hb)) (Nat.lt_irrefl _)
structure Turn (P:Program) (w:World) (K:PySem.W.Frag) (tg:Expr) (J:It) (fp:List Addr) (it:Addr) (tn:Nat→Heap→Prop):Prop where
  mem:it∈fp
  obj:∀ i h,tn i h→∀ b∈fp,∃ o,h.get? b=some o∧∀ v,o.data ≠ .cell v
  keep:∀ i h h',tn i h→(∀ b∈fp,∀ o,h.get? b=some o→h'.get? b=some o)→tn i h'
  item:∀ (X:Cx),X.prog=P→X.w=w→X.K=K→X.calm=true→∀ (i:Nat) (pins:List (Addr×Obj)) (s:Shared) (σ:St) (H:Hp) (E:Value→Shared→Prop),Inv X pins σ H s→(∀ b∈fp,FpOk X pins H b)→tn i s.heap→J.go i H →
    wpAny (model P w) X.A (pyNext (.ref it)) (fun r s1=>∃ u,r=some u ∧
      wpAny (model P w) X.A (letOwnedTupleGo tg (.ref it) u) (fun _ s2=>∃ x H',Inv X pins σ H' s2∧RelV x u∧J.yld i H x H' ∧ tn (i+1) s2.heap∧∀ b∈fp,H' b=none) E s1) E s
  done:∀ (X:Cx),X.prog=P→X.w=w→X.K=K→X.calm=true→∀ (i:Nat) (pins:List (Addr×Obj)) (s:Shared) (σ:St) (H:Hp) (E:Value→Shared→Prop),Inv X pins σ H s→(∀ b∈fp,FpOk X pins H b)→tn i s.heap→J.stop i H →
    wpAny (model P w) X.A (pyNext (.ref it)) (fun r s1=>r=none∧Inv X pins σ H s1) E s
  self:∀ (A:Around) (i:Nat) (s:Shared) (Q:Value→Shared→Prop) (E:Value→Shared→Prop),tn i s.heap→Q (.ref it) s→wpAny (model P w) A (pyIter (.ref it)) Q E s
abbrev TI:=St→Hp→(It→Hp→Prop)→Prop
def PIE (X:Cx) (pins:List (Addr×Obj)) (σ:St) (tg:Expr) (R:It→Hp→Prop) (itv:Value) (s2:Shared):Prop :=
  ∃ (it:Addr) (fp:List Addr) (tn:Nat→Heap→Prop) (J:It) (H' : Hp),itv = .ref it∧Inv X pins σ H' s2∧Turn X.prog X.w X.K tg J fp it tn∧tn 0 s2.heap∧(∀ b∈fp,FpOk X pins H' b)∧R J H'
def PI (X:Cx) (tg iter:Expr) (wi:TI):Prop :=
  ∀ (pins:List (Addr×Obj)) (s:Shared) (σ:St) (H:Hp) (R:It→Hp→Prop),Inv X pins σ H s→wi σ H R →
    wpAny (model X.prog X.w) X.A (eval iter X.env) (fun v s1=>wpAny (model X.prog X.w) X.A (pyIter v) (PIE X pins σ tg R) X.xe s1) X.xe s
theorem go_of {M:Model} {A:Around} {E:Value→Shared→Prop} {s:Shared} {tg:Expr} {it:Addr} {u:Value} {o:Obj} {n:String} {vs:Array Value} {Q:Unit→Shared→Prop} (ho:s.heap.get? it=some o) (hc:o.cls = .type n) (hd:o.data = .fields vs)
    (hn : ["enumerate", "zip", "dict_itemiterator", "dict_reverseitemiterator", "odict_iterator", "itertools.zip_longest", "itertools.pairwise"].contains n=false) (hQ:Q () s):wpAny M A (letOwnedTupleGo tg (.ref it) u) Q E s:=by
  unfold letOwnedTupleGo
  cases tg <;> first
    | exact wpAny_pure hQ
    | (cases u <;> first
        | exact wpAny_pure hQ
        | (refine wpAny_bind (wpAny_load ho ?_)
           rw [hc,hd]
           show wpAny M A (if (["enumerate", "zip", "dict_itemiterator", "dict_reverseitemiterator", "odict_iterator", "itertools.zip_longest", "itertools.pairwise"].contains n&&vs[0]? == some (rawInt _))=true then _ else _) Q E s
           rw [if_neg (by intro h;rw [hn,Bool.false_and] at h;cases h)]
           exact wpAny_pure hQ))
def Itl (K:PySem.W.Frag) (a:Addr):It :=
  ⟨fun i H=>∃ xs x,SqL K H a xs∧xs[i]? = some x,fun i H x H' => H' = H∧∀ xs,SqL K H a xs→xs[i]? = some x,fun i H=>∃ xs,SqL K H a xs∧xs.length≤i⟩
def Itt (K:PySem.W.Frag) (a:Addr):It :=
  ⟨fun i H=>∃ xs x,SqT K H a xs∧xs[i]? = some x,fun i H x H' => H' = H∧∀ xs,SqT K H a xs→xs[i]? = some x,fun i H=>∃ xs,SqT K H a xs∧xs.length≤i⟩
def Itr (lo:Int) (n:Nat):It:=⟨fun i _=>i<n,fun i H x H' => H' = H∧x = .int (lo+i),fun i _=>n≤i⟩
theorem turn_list {P:Program} {w:World} {K:PySem.W.Frag} {tg:Expr} (a it:Addr):Turn P w K tg (Itl K a) [it] it (fun i h=>h.IsListIter it a i) where
  mem:=by simp
  obj:=fun i h st b hb=>by
    have e:b=it:=by simpa using hb
    subst e
    obtain⟨o,e,c,d⟩:=st
    exact⟨o,e,fun v z=>by rw [d] at z;cases z⟩
  keep:=fun i h h' st k=>st.at fun o e=>k it (by simp) o e
  item:=by
    intro X hP hw hK hc i pins s σ H E I hf st hg
    subst hP hw hK
    obtain⟨xs,x,hq,hx⟩:=hg
    obtain⟨its,rv,p,hz⟩:=I.list hq
    obtain⟨u,hu,ru⟩:=rv.get hx
    obtain⟨f0,f1,f2,f3,f4,f5⟩:=hf it (by simp)
    refine wpAny_pyNext_list_item st p.isList (x:=u) (by simpa using hu) fun h' st' sb => ?_
    have I1:Inv X pins σ H { s with heap:=h' }:=I.turned (t' := s.toks) (fun b o hb e=>(sb.2 b hb).trans e) f0 f1 f3 f4 f5
    obtain⟨o,e,c,d⟩:=id st'
    exact⟨u,rfl,go_of (s := { s with heap:=h' }) e c d (by decide) ⟨x,H,I1,ru,⟨rfl,fun ys hy=>by rw [I.list_inj hy hq];exact hx⟩,st',fun b hb=>(hf b hb).1⟩⟩
  done:=by
    intro X hP hw hK hc i pins s σ H E I hf st hg
    subst hP hw hK
    obtain⟨xs,hq,hx⟩:=hg
    obtain⟨its,rv,p,hz⟩:=I.list hq
    obtain⟨f0,f1,f2,f3,f4,f5⟩:=hf it (by simp)
    have hl:=rv.length
    exact wpAny_pyNext_list_end (I.ok.hd hc) st p.isList (by simp;lia) fun h' eb=>⟨rfl,I.turned (t' := s.toks) (fun b o hb e=>eb b o hb e) f0 f1 f3 f4 f5⟩
  self:=fun _ _ _ _ _ st h=>wpAny_pyIter_listiter st h
theorem turn_tuple {P:Program} {w:World} {K:PySem.W.Frag} {tg:Expr} (a it:Addr):Turn P w K tg (Itt K a) [it] it (fun i h=>h.IsTupleIter it a i) where
  mem:=by simp
  obj:=fun i h st b hb=>by
    have e:b=it:=by simpa using hb
    subst e
    obtain⟨o,e,c,d⟩:=st
    exact⟨o,e,fun v z=>by rw [d] at z;cases z⟩
  keep:=fun i h h' st k=>st.at fun o e=>k it (by simp) o e
  item:=by
    intro X hP hw hK hc i pins s σ H E I hf st hg
    subst hP hw hK
    obtain⟨xs,x,hq,hx⟩:=hg
    obtain⟨its,rv,p,hz⟩:=I.tuple hq
    obtain⟨u,hu,ru⟩:=rv.get hx
    obtain⟨f0,f1,f2,f3,f4,f5⟩:=hf it (by simp)
    refine wpAny_pyNext_tuple_item st (show s.heap.IsTuple a its.toArray from p) (x:=u) (by simpa using hu) fun h' st' sb => ?_
    have I1:Inv X pins σ H { s with heap:=h' }:=I.turned (t' := s.toks) (fun b o hb e=>(sb.2 b hb).trans e) f0 f1 f3 f4 f5
    obtain⟨o,e,c,d⟩:=id st'
    exact⟨u,rfl,go_of (s := { s with heap:=h' }) e c d (by decide) ⟨x,H,I1,ru,⟨rfl,fun ys hy=>by rw [I.tuple_inj hy hq];exact hx⟩,st',fun b hb=>(hf b hb).1⟩⟩
  done:=by
    intro X hP hw hK hc i pins s σ H E I hf st hg
    subst hP hw hK
    obtain⟨xs,hq,hx⟩:=hg
    obtain⟨its,rv,p,hz⟩:=I.tuple hq
    obtain⟨f0,f1,f2,f3,f4,f5⟩:=hf it (by simp)
    have hl:=rv.length
    exact wpAny_pyNext_tuple_end (I.ok.hd hc) st (show s.heap.IsTuple a its.toArray from p) (by simp;lia) fun h' eb=>⟨rfl,I.turned (t' := s.toks) (fun b o hb e=>eb b o hb e) f0 f1 f3 f4 f5⟩
  self:=fun _ _ _ _ _ st h=>wpAny_pyIter_tupleiter st h
theorem turn_range {P:Program} {w:World} {K:PySem.W.Frag} {tg:Expr} (it:Addr) (lo:Int) (n:Nat):Turn P w K tg (Itr lo n) [it] it (fun i h=>IsRangeIter h it (lo+(i:Nat) * 1) ((n:Int) - (i:Nat)) 1) where
  mem:=by simp
  obj:=fun i h st b hb=>by
    have e:b=it:=by simpa using hb
    subst e
    exact⟨_,st,fun v z=>by
      have z' : Data.fields _=Data.cell v:=z
      cases z'⟩
  keep:=fun i h h' st k=>k it (by simp) _ st
  item:=by
    intro X hP hw hK hc i pins s σ H E I hf st hg
    subst hP hw hK
    obtain⟨f0,f1,f2,f3,f4,f5⟩:=hf it (by simp)
    have W:=Walks.range (prog:=X.prog) (w:=X.w) (I.ok.hd hc) it lo 1 n
    refine W.item i s _ _ hg st fun v h' tk hv st' kk => ?_
    obtain⟨t,rfl⟩:=hv
    have I1:Inv X pins σ H { s with heap:=h',toks:=tk }:=I.turned (fun b o hb e=>kk b o (by simpa using hb) e) f0 f1 f3 f4 f5
    refine⟨_,rfl,go_of (s := { s with heap:=h',toks:=tk }) (n := "range_iterator") st' rfl rfl (by decide) ⟨.int (lo+i),H,I1,⟨t,?_⟩,⟨rfl,rfl⟩,st',fun b hb=>(hf b hb).1⟩⟩
    rw [Int.mul_one]
  done:=by
    intro X hP hw hK hc i pins s σ H E I hf st hg
    subst hP hw hK
    obtain⟨f0,f1,f2,f3,f4,f5⟩:=hf it (by simp)
    exact wpAny_pyNext_range_end (I.ok.hd hc) st (by have:n≤i:=hg;lia) fun h' eb=>⟨rfl,I.turned (t' := s.toks) (fun b o hb e=>eb b o hb e) f0 f1 f3 f4 f5⟩
  self:=fun _ _ _ _ _ st h=>wpAny_pyIter_rangeiter st h
end L2
namespace L2
open PySem PySem.Spec PyProof.Rows
section
variable {X:Cx} {tg:Expr}
def iList (K:PySem.W.Frag) (tl:TE):TI:=fun σ H R=>tl σ H fun x H1=>∃ a,x = .ref a∧(∃ xs,SqL K H1 a xs)∧R (Itl K a) H1
theorem pi_list {l:Expr} {tl:TE} (hl:PE X l tl):PI X tg l (iList X.K tl):=by
  intro pins s σ H R I h
  refine thn (hl pins s σ H _ I h) fun v s1 ⟨x,H1,I1,r1,q1⟩ => ?_
  obtain⟨a,e,⟨xs,hq⟩,q⟩:=q1
  subst e
  cases r1
  obtain⟨its,rv,p,hz⟩:=I1.list hq
  refine wpAny_pyIter_list p.isList ?_
  refine⟨s1.heap.objs.size,[s1.heap.objs.size],_,_,H1,rfl,I1.kept (t' := s1.toks) fun b o e=>Heap.get?_push_of_some _ e,turn_list a _,⟨_,Heap.get?_push_size _ rfl,rfl,rfl⟩,fun b hb => ?_,q⟩
  have e:b=s1.heap.objs.size:=by simpa using hb
  subst e
  exact I1.fpOk (Nat.le_refl _) (I1.hok.fresh (Nat.le_refl _))
theorem range_it {pins:List (Addr×Obj)} {σ:St} {H:Hp} {s:Shared} {R:It→Hp→Prop} {E:Value→Shared→Prop} {lo hi:Int} {t u v:Tok} {tk:Nat} (I:Inv X pins σ H s) (h1 : -(2 ^ 62)≤lo) (h2:lo<2 ^ 62) (h3 : -(2 ^ 62)≤hi) (h4:hi<2 ^ 62)
    (q:R (Itr lo (hi - lo).toNat) H):wpAny (model X.prog X.w) X.A (pyIter (.ref s.heap.objs.size)) (PIE X pins σ tg R) E { s with heap:=s.heap.push { cls := .type "range",data := .fields #[.int lo t,.int hi u,.int 1 v] },toks:=tk }:=by
  refine wpAny_pyIter_range (IsRange.new ..) (small_one h1 h2 h3 h4) ?_
  have I1:Inv X pins σ H { s with heap:=s.heap.push { cls := .type "range",data := .fields #[.int lo t,.int hi u,.int 1 v] },toks:=tk }:=I.kept fun b o e=>Heap.get?_push_of_some _ e
  refine⟨(s.heap.push { cls := .type "range",data := .fields #[.int lo t,.int hi u,.int 1 v] }).objs.size,[(s.heap.push { cls := .type "range",data := .fields #[.int lo t,.int hi u,.int 1 v] }).objs.size],_,_,H,rfl,
    I1.kept (t' := tk) fun b o e=>Heap.get?_push_of_some _ e,turn_range _ lo (hi - lo).toNat,?_,fun b hb => ?_,q⟩
  · have e1:lo+((0:Nat):Int) * 1=lo:=by simp
    have e2:(((hi - lo).toNat:Nat):Int) - ((0:Nat):Int)=Builtin.Range.rangeSize lo hi 1:=by rw [rangeSize_one];split <;> lia
    show IsRangeIter _ _ (lo+((0:Nat):Int) * 1) ((((hi - lo).toNat:Nat):Int) - ((0:Nat):Int)) 1
    rw [e1,e2]
    exact Heap.get?_push_size _ rfl
  · have e:b=(s.heap.push { cls := .type "range",data := .fields #[.int lo t,.int hi u,.int 1 v] }).objs.size:=by simpa using hb
    subst e
    exact I1.fpOk (Nat.le_refl _) (I1.hok.fresh (Nat.le_refl _))
def iRng1 (ta:TA):TI:=fun σ H R=>ta σ H fun vs H1=>∃ j:Int,vs = [.int j] ∧ -(2 ^ 62)≤j∧j<2 ^ 62∧R (Itr 0 j.toNat) H1
theorem pi_range1 {a:Expr} {ta:TA} {p pos:Pos} (hg:Gl X "range") (hm:X.mg "range" = none) (ha:PA X [a] ta) (hs:starEach [a] X.env = [(false,eval a X.env)]:=by rfl):PI X tg (.Call (.Name "range" p) [a] [] pos) (iRng1 ta):=by
  intro pins s σ H R I h
  refine Call_ (ld_blt I hg hm boot_range (PyProof.Rows.callWith_type1 (thn (ha pos pins s σ H _ I h) fun us s1 ⟨vs,H1,I1,r1,q1⟩ => ?_) hs rfl))
  obtain⟨j,e,q1,q2,q⟩:=q1
  subst e
  cases r1 with
  | cons r rr =>
    cases rr
    obtain⟨t,rfl⟩:=r
    exact call_range_1 (range_it I1 (by lia) (by lia) q1 q2 (by simpa using q))
def tFor (wi:TI) (g:TG) (tb:TS):TS:=fun D σ H=>wi σ H fun J H1=>∃ W:Nat→Nat→St→Hp→Prop,(∃ m,W 0 m σ H1)∧∀ i m σ H,W i m σ H →
  (J.stop i H∧D.nx σ H)∨(J.go i H∧∃ N:St→Hp→Prop,(∀ σ' H',N σ' H' → ∃ m',m' < m∧W (i+1) m' σ' H')∧∀ x H',J.yld i H x H' → g x σ H' fun σ2 H2=>tb { D with nx:=N,ct:=N,bk:=D.nx } σ2 H2)
def pinsAt (fp:List Addr) (h:Heap):List (Addr×Obj):=fp.filterMap fun b=>(h.get? b).map fun o=>(b,o)
theorem mem_pinsAt {fp:List Addr} {h:Heap} {b:Addr} {o:Obj} (hb:b∈fp) (e:h.get? b=some o):(b,o)∈pinsAt fp h:=List.mem_filterMap.mpr ⟨b,hb,by rw [e];rfl⟩
theorem of_pinsAt {fp:List Addr} {h:Heap} {p:Addr×Obj} (hp:p∈pinsAt fp h):p.1∈fp∧h.get? p.1=some p.2:=by
  obtain⟨b,hb,e⟩:=List.mem_filterMap.mp hp
  cases q:h.get? b with
  | none=>rw [q] at e;cases e
  | some o =>
    rw [q] at e
    have e' : (b,o)=p:=Option.some.inj e
    subst e'
    exact⟨hb,q⟩
theorem Inv.pinned {pins:List (Addr×Obj)} {σ:St} {H:Hp} {s:Shared} {fp:List Addr} (I:Inv X pins σ H s) (hf:∀ b∈fp,FpOk X pins H b) (ho:∀ b∈fp,∃ o,s.heap.get? b=some o∧∀ v,o.data ≠ .cell v):Inv X (pins++pinsAt fp s.heap) σ H s :=
  I.pins_of fun p hp=>(List.mem_append.mp hp).elim (fun z=>I.pin p (List.mem_append_right _ z)) fun z=>by
    obtain⟨hb,e⟩:=of_pinsAt z
    obtain⟨f0,f1,f2,_⟩:=hf p.1 hb
    obtain⟨o,e',d⟩:=ho p.1 hb
    rw [e] at e';cases e'
    exact⟨e,f0,f1,f2,d⟩
theorem Inv.unpinned {pins pl:List (Addr×Obj)} {σ:St} {H:Hp} {s:Shared} (I:Inv X (pins++pl) σ H s):Inv X pins σ H s:=I.pins_of fun p hp=>I.pin p (List.mem_append_right _ (List.mem_append_left _ hp))
theorem ps_for {iter:Expr} {body:List Stmt} {wi:TI} {g:TG} {tb:TS} {pos:Pos} (hp:PassesOwn (model X.prog X.w) X.A X.env X.xe) (hc:X.calm=true) (hi:PI X tg iter wi) (hg:PG X tg g) (hb:PSs X body tb)
    (hs:∀ x,foldedSetIterable iter X.env x=pure x:=by intro _;rfl):PS X (.For tg iter body [] pos) (tFor wi g tb):=by
  intro pins s σ H D I h
  refine wpAny_For (thn (hi pins s σ H _ I h) fun v s1 h1=>thn h1 fun itv s2 h2 => ?_) hs
  obtain⟨it,fp,tn,J,H2,e,I2,T,st2,f2,W,⟨m0,w0⟩,turn⟩:=h2
  subst e
  have stat:∀ {H' : Hp},(∀ b∈fp,H' b=none)→∀ b∈fp,FpOk X pins H' b:=fun hn b hb=>⟨hn b hb,(f2 b hb).2⟩
  refine codeAny_forLoop_any (fun n s' => ∃ i σ' H',Inv X pins σ' H' s' ∧ tn i s'.heap∧(∀ b∈fp,H' b=none)∧W i n σ' H') ?_ m0 ⟨0,σ,H2,I2,st2,fun b hb=>(f2 b hb).1,w0⟩
  rintro n s3 ⟨i,σ3,H3,I3,st3,fr3,w3⟩
  rcases turn i n σ3 H3 w3 with ⟨stop,qn⟩ | ⟨go,N,hN,step⟩
  · refine wpAny_passesOwn hp (thn (T.done X rfl rfl rfl hc i pins s3 σ3 H3 X.xe I3 (stat fr3) st3 stop) fun r s4 ⟨hr,I4⟩ => ?_)
    subst hr
    exact wpAny_execs_nil ⟨σ3,H3,I4,qn⟩
  · refine wpAny_passesOwn hp (thn (T.item X rfl rfl rfl hc i pins s3 σ3 H3 X.xe I3 (stat fr3) st3 go) fun r s4 ⟨u,hr,h4⟩ => ?_)
    subst hr
    refine wpAny_passesOwn hp (thn h4 fun _ s5 ⟨x,H5,I5,r5,y5,st5,fr5⟩ => ?_)
    have I5' := I5.pinned (stat fr5) (T.obj _ _ st5)
    refine wpAny_passesOwn hp (thn (hg _ s5 σ3 H5 x u _ I5' r5 (step x H5 y5)) fun _ s6 ⟨σ6,H6,I6,q6⟩ => ?_)
    refine wpAny_passesOwn hp (thn (hb _ s6 σ6 H6 _ I6 q6) fun f s7 q7 => ?_)
    have again:∀ {σ7:St} {H7:Hp},Inv X (pins++pinsAt fp s5.heap) σ7 H7 s7→N σ7 H7→∃ m,m<n∧∃ i σ' H',Inv X pins σ' H' s7∧tn i s7.heap∧(∀ b∈fp,H' b=none)∧W i m σ' H' := fun {σ7 H7} I7 n7=>by
      obtain⟨m',hm,w7⟩:=hN σ7 H7 n7
      refine⟨m',hm,i+1,σ7,H7,I7.unpinned,T.keep _ _ _ st5 fun b hb o e=>(I7.pin (b,o) (List.mem_append_right _ (List.mem_append_right _ (mem_pinsAt hb e)))).1,fun b hb => ?_,w7⟩
      obtain⟨o,e,d⟩:=T.obj _ _ st5 b hb
      exact (I7.pin (b,o) (List.mem_append_right _ (List.mem_append_right _ (mem_pinsAt hb e)))).2.1
    cases f with
    | next=>obtain⟨σ7,H7,I7,n7⟩:=q7;exact again I7 n7
    | cont=>obtain⟨σ7,H7,I7,n7⟩:=q7;exact again I7 n7
    | brk=>obtain⟨σ7,H7,I7,q7⟩:=q7;exact⟨σ7,H7,I7.unpinned,q7⟩
    | ret v=>obtain⟨x7,σ7,H7,I7,r7,q7⟩:=q7;exact⟨x7,σ7,H7,I7.unpinned,r7,q7⟩
end
theorem for_list {K:PySem.W.Frag} {a:Addr} {xs:List V} {g:TG} {tb:TS} {D:Ends} {σ:St} {H:Hp} (Pv:Nat→St→Hp→Prop) (h0:Pv 0 σ H) (hl:∀ i σ H,i≤xs.length→Pv i σ H→SqL K H a xs)
    (hs:∀ i x σ H,xs[i]? = some x→Pv i σ H→g x σ H fun σ2 H2=>tb { D with nx:=Pv (i+1),ct:=Pv (i+1),bk:=D.nx } σ2 H2) (hd:∀ σ H,Pv xs.length σ H→D.nx σ H) :
    ∃ W:Nat→Nat→St→Hp→Prop,(∃ m,W 0 m σ H)∧∀ i m σ H,W i m σ H →
      ((Itl K a).stop i H∧D.nx σ H)∨((Itl K a).go i H∧∃ N:St→Hp→Prop,(∀ σ' H',N σ' H' → ∃ m',m' < m∧W (i+1) m' σ' H')∧∀ x H',(Itl K a).yld i H x H' → g x σ H' fun σ2 H2=>tb { D with nx:=N,ct:=N,bk:=D.nx } σ2 H2):=by
  refine⟨fun i m σ H=>m=xs.length - i∧i≤xs.length∧Pv i σ H,⟨xs.length,by simp,Nat.zero_le _,h0⟩,?_⟩
  rintro i m σ H ⟨rfl,hi,p⟩
  have q:=hl i σ H hi p
  by_cases hlt:i<xs.length
  · refine .inr ⟨⟨xs,xs[i],q,by simp [hlt]⟩,Pv (i+1),fun σ' H' p' => ⟨xs.length - (i+1),by lia,rfl,hlt,p'⟩,fun x H' y => ?_⟩
    obtain⟨e,y⟩:=y
    subst e
    exact hs i x σ _ (y xs q) p
  · have e:i=xs.length:=by lia
    subst e
    exact .inl ⟨⟨xs,q,Nat.le_refl _⟩,hd σ H p⟩
theorem for_range {lo:Int} {n:Nat} {g:TG} {tb:TS} {D:Ends} {σ:St} {H:Hp} (Pv:Nat→St→Hp→Prop) (h0:Pv 0 σ H)
    (hs:∀ i σ H,i<n→Pv i σ H→g (.int (lo+i)) σ H fun σ2 H2=>tb { D with nx:=Pv (i+1),ct:=Pv (i+1),bk:=D.nx } σ2 H2) (hd:∀ σ H,Pv n σ H→D.nx σ H) :
    ∃ W:Nat→Nat→St→Hp→Prop,(∃ m,W 0 m σ H)∧∀ i m σ H,W i m σ H →
      ((Itr lo n).stop i H∧D.nx σ H)∨((Itr lo n).go i H∧∃ N:St→Hp→Prop,(∀ σ' H',N σ' H' → ∃ m',m' < m∧W (i+1) m' σ' H')∧∀ x H',(Itr lo n).yld i H x H' → g x σ H' fun σ2 H2=>tb { D with nx:=N,ct:=N,bk:=D.nx } σ2 H2):=by
  refine⟨fun i m σ H=>m=n - i∧i≤n∧Pv i σ H,⟨n,by simp,Nat.zero_le _,h0⟩,?_⟩
  rintro i m σ H ⟨rfl,hi,p⟩
  by_cases hlt:i<n
  · refine .inr ⟨hlt,Pv (i+1),fun σ' H' p' => ⟨n - (i+1),by lia,rfl,hlt,p'⟩,fun x H' y => ?_⟩
    obtain⟨e,y⟩:=y
    subst e y
    exact hs i σ _ hlt p
  · have e:i=n:=by lia
    subst e
    exact .inl ⟨Nat.le_refl _,hd σ H p⟩
theorem while_by {c:TT} {tb:TS} {D:Ends} {σ:St} {H:Hp} (Pv:St→Hp→Prop) (μ:St→Hp→Nat) (h0:Pv σ H)
    (hs:∀ σ H,Pv σ H→c σ H fun b H1=>if b=true then tb { D with nx:=fun σ' H' => Pv σ' H' ∧ μ σ' H' < μ σ H,ct:=fun σ' H' => Pv σ' H' ∧ μ σ' H' < μ σ H,bk:=D.nx } σ H1 else D.nx σ H1)
    (mono:∀ σ H Q Q',(∀ b H1,Q b H1→Q' b H1)→c σ H Q→c σ H Q'):tWhile c tb D σ H:=by
  refine⟨fun m σ H=>m=μ σ H∧Pv σ H,⟨_,rfl,h0⟩,?_⟩
  rintro m σ H ⟨rfl,p⟩
  refine mono σ H _ _ (fun b H1 q => ?_) (hs σ H p)
  cases b with
  | true=>exact⟨_,fun σ' H' ⟨p',l⟩=>⟨_,l,rfl,p'⟩,q⟩
  | false=>exact q
end L2
namespace L2
open PySem PySem.Spec PyProof.Rows
abbrev R2:=V→V→Hp→VK→Prop
def OpR (X:Cx) (f:Value→Value→Sem Value) (r:R2):Prop :=
  ∀ (pins:List (Addr×Obj)) (s:Shared) (σ:St) (H:Hp) (x y:V) (v u:Value) (Q:VK),Inv X pins σ H s→RelV x v→RelV y u→r x y H Q →
    wpAny (model X.prog X.w) X.A (f v u) (EP X pins σ Q) X.xe s
def UnR (X:Cx) (f:Value→Sem Value) (r:V→Hp→VK→Prop):Prop :=
  ∀ (pins:List (Addr×Obj)) (s:Shared) (σ:St) (H:Hp) (x:V) (v:Value) (Q:VK),Inv X pins σ H s→RelV x v→r x H Q →
    wpAny (model X.prog X.w) X.A (f v) (EP X pins σ Q) X.xe s
def CallR (X:Cx) (f:Value) (r:List V→Hp→VK→Prop):Prop :=
  ∀ (pins:List (Addr×Obj)) (s:Shared) (σ:St) (H:Hp) (xs:List V) (us:List Value) (Q:VK),Inv X pins σ H s→Vals xs us→r xs H Q →
    wpAny (model X.prog X.w) X.A (call f us) (EP X pins σ Q) X.xe s
def TruR (X:Cx) (r:V→Hp→(Bool→Hp→Prop)→Prop):Prop :=
  ∀ (pins:List (Addr×Obj)) (s:Shared) (σ:St) (H:Hp) (x:V) (v:Value) (Q:Bool→Hp→Prop),Inv X pins σ H s→RelV x v→r x H Q →
    wpAny (model X.prog X.w) X.A (truthy v) (TP X pins σ Q) X.xe s
def tOp (r:R2) (ta tb:TE):TE:=fun σ H Q=>ta σ H fun x H1=>tb σ H1 fun y H2=>r x y H2 Q
def tUn (r:V→Hp→VK→Prop) (ta:TE):TE:=fun σ H Q=>ta σ H fun x H1=>r x H1 Q
def rI (C:Int→Int→Prop) (g:Int→Int→V):R2:=fun x y H Q=>∃ i j,x = .int i∧y = .int j∧C i j∧Q (g i j) H
def rI0 (g:Int→Int→V):R2:=fun x y H Q=>∃ i j,x = .int i∧y = .int j∧Q (g i j) H
def rU (g:Int→V):V→Hp→VK→Prop:=fun x H Q=>∃ i,x = .int i∧Q (g i) H
section
variable {X:Cx} {a b c:Expr} {ta tb tc:TE} {pos:Pos}
theorem binT (ha:PE X a ta) (hb:PE X b tb) {pins:List (Addr×Obj)} {s:Shared} {σ:St} {H:Hp} {R:V→V→Hp→Prop} (I:Inv X pins σ H s)
    (h:ta σ H fun x H1=>tb σ H1 fun y H2=>R x y H2) {Q:Value→Shared→Prop} {f:Value→Value→Sem Value}
    (hf:∀ v u s2 x y H2,Inv X pins σ H2 s2→RelV x v→RelV y u→R x y H2→wpAny (model X.prog X.w) X.A (f v u) Q X.xe s2) :
    wpAny (model X.prog X.w) X.A (eval a X.env) (fun v s₁=>wpAny (model X.prog X.w) X.A (eval b X.env) (fun u s₂=>wpAny (model X.prog X.w) X.A (f v u) Q X.xe s₂) X.xe s₁) X.xe s:=by
  refine thn (ha pins s σ H _ I h) fun v s1 ⟨x,H1,I1,r1,q1⟩ => ?_
  refine thn (hb pins s1 σ H1 _ I1 q1) fun u s2 ⟨y,H2,I2,r2,q2⟩ => ?_
  exact hf v u s2 x y H2 I2 r1 r2 q2
theorem pe_op {op:Operator} {r:R2} (ho:OpR X (binaryOp op) r) (ha:PE X a ta) (hb:PE X b tb):PE X (.BinOp a op b pos) (tOp r ta tb):=by
  intro pins s σ H Q I h
  exact wpAny_BinOp (binT ha hb I h fun v u s2 x y H2 I2 rx ry q=>ho pins s2 σ H2 x y v u Q I2 rx ry q)
theorem pe_un {op:UnaryOp} {r:V→Hp→VK→Prop} (ho:UnR X (unaryOp op) r) (ha:PE X a ta):PE X (.UnaryOp op a pos) (tUn r ta):=by
  intro pins s σ H Q I h
  exact UnaryOp_ (thn (ha pins s σ H _ I h) fun v s1 ⟨x,H1,I1,r1,q1⟩=>ho pins s1 σ H1 x v Q I1 r1 q1)
theorem opI {f:Value→Value→Sem Value} {C:Int→Int→Prop} {g:Int→Int→Int}
    (rule:∀ (i j:Int) (t u:Tok) (s:Shared) (Q:Value→Shared→Prop) (E:Value→Shared→Prop),C i j→Q (.int (g i j) s.toks) { s with toks:=s.toks+1 }→wpAny (model X.prog X.w) X.A (f (.int i t) (.int j u)) Q E s) :
    OpR X f (rI C fun i j => .int (g i j)):=by
  intro pins s σ H x y v u Q I rx ry h
  obtain⟨i,j,rfl,rfl,hc,q⟩:=h
  obtain⟨t,rfl⟩:=rx
  obtain⟨t',rfl⟩:=ry
  exact rule i j t t' s _ _ hc ⟨.int (g i j),H,I.tok _,⟨_,rfl⟩,q⟩
theorem opI0 {f:Value→Value→Sem Value} {g:Int→Int→Int}
    (rule:∀ (i j:Int) (t u:Tok) (s:Shared) (Q:Value→Shared→Prop) (E:Value→Shared→Prop),Q (.int (g i j) s.toks) { s with toks:=s.toks+1 }→wpAny (model X.prog X.w) X.A (f (.int i t) (.int j u)) Q E s) :
    OpR X f (rI0 fun i j => .int (g i j)):=by
  intro pins s σ H x y v u Q I rx ry h
  obtain⟨i,j,rfl,rfl,q⟩:=h
  obtain⟨t,rfl⟩:=rx
  obtain⟨t',rfl⟩:=ry
  exact rule i j t t' s _ _ ⟨.int (g i j),H,I.tok _,⟨_,rfl⟩,q⟩
theorem opB0 {f:Value→Value→Sem Value} {g:Int→Int→Bool}
    (rule:∀ (i j:Int) (t u:Tok) (s:Shared) (Q:Value→Shared→Prop) (E:Value→Shared→Prop),Q (.bool (g i j)) s→wpAny (model X.prog X.w) X.A (f (.int i t) (.int j u)) Q E s) :
    OpR X f (rI0 fun i j => .bl (g i j)):=by
  intro pins s σ H x y v u Q I rx ry h
  obtain⟨i,j,rfl,rfl,q⟩:=h
  obtain⟨t,rfl⟩:=rx
  obtain⟨t',rfl⟩:=ry
  exact rule i j t t' s _ _ ⟨.bl (g i j),H,I,rfl,q⟩
def CDiv (i j:Int):Prop:=0<j∧j<1073741824
def CPow (i j:Int):Prop:=0≤j∧j≤1000000∧i.natAbs<2 ^ 64
def CMul (i j:Int):Prop:=(-(2 ^ 64)<i∧i<2 ^ 64)∨(-(2 ^ 64)<j∧j<2 ^ 64)
theorem CMul.ok {i j:Int} (h:CMul i j):IntMulOk i j:=by
  rcases h with ⟨h1,h2⟩ | ⟨h1,h2⟩
  · exact .of_left (intBits_le_64 h1 h2)
  · exact .of_right (intBits_le_64 h1 h2)
theorem op_add:OpR X (binaryOp .Add) (rI0 fun i j => .int (i+j)):=opI0 fun _ _ _ _ _ _ _ q=>add_int q
theorem op_sub:OpR X (binaryOp .Sub) (rI0 fun i j => .int (i - j)):=opI0 fun _ _ _ _ _ _ _ q=>sub_int q
theorem op_mul:OpR X (binaryOp .Mult) (rI CMul fun i j => .int (i * j)):=opI fun _ _ _ _ _ _ _ hc q=>mul_int q hc.ok
theorem op_fdiv:OpR X (binaryOp .FloorDiv) (rI CDiv fun i j => .int (i / j)):=opI fun i j _ _ _ _ _ hc q=>by
  have h1:(0:Int)<j:=hc.1
  have h2:j<1073741824:=hc.2
  exact floordiv_int (by lia) (by rw [Int.fdiv_eq_ediv_of_nonneg i (by lia)];exact q) (.inl (PyProof.noPylong_small (by lia)))
theorem op_mod:OpR X (binaryOp .Mod) (rI (fun _ j=>0<j) fun i j => .int (i % j)):=opI fun i j _ _ _ _ _ hc q=>by
  have h1:(0:Int)<j:=hc
  exact mod_int' (by lia) (by rw [Int.fmod_eq_emod_of_nonneg i (by lia)];exact q)
theorem op_pow:OpR X (binaryOp .Pow) (rI CPow fun i j => .int (i ^ j.toNat)):=opI fun _ _ _ _ _ _ _ hc q=>pow_int_small hc.1 hc.2.1 hc.2.2 q
theorem iop_add:OpR X (inplaceOp .Add) (rI0 fun i j => .int (i+j)):=opI0 fun _ _ _ _ _ _ _ q=>iadd_int q
theorem unI {f:Value→Sem Value} {g:Int→Int}
    (rule:∀ (i:Int) (t:Tok) (s:Shared) (Q:Value→Shared→Prop) (E:Value→Shared→Prop),Q (.int (g i) s.toks) { s with toks:=s.toks+1 }→wpAny (model X.prog X.w) X.A (f (.int i t)) Q E s) :
    UnR X f (rU fun i => .int (g i)):=by
  intro pins s σ H x v Q I rx h
  obtain⟨i,rfl,q⟩:=h
  obtain⟨t,rfl⟩:=rx
  exact rule i t s _ _ ⟨.int (g i),H,I.tok _,⟨_,rfl⟩,q⟩
theorem un_neg:UnR X (unaryOp .USub) (rU fun i => .int (-i)):=unI fun _ _ _ _ _ q=>neg_int q
end
def scal:V→V→Bool
  | .non,.non=>true | .non,.int _=>true | .int _,.non=>true | .non,.bl _=>true | .bl _,.non=>true | .non,.str _=>true | .str _,.non=>true
  | .int _,.int _=>true | .bl _,.bl _=>true | .str _,.str _=>true | .byt _,.byt _=>true
  | .int _,.str _=>true | .str _,.int _=>true | .bl _,.str _=>true | .str _,.bl _=>true
  | _,_=>false
def rEq:R2:=fun x y H Q=>scal x y=true∧Q (.bl (decide (x=y))) H
def rNe:R2:=fun x y H Q=>scal x y=true∧Q (.bl (!decide (x=y))) H
theorem dec_int {i j:Int}:decide (V.int i=V.int j)=(i==j):=by
  rw [Bool.eq_iff_iff]
  simp
theorem dec_bl {i j:Bool}:decide (V.bl i=V.bl j)=(i==j):=by
  rw [Bool.eq_iff_iff]
  simp
theorem dec_str {i j:Str}:decide (V.str i=V.str j)=(i==j):=by
  rw [Bool.eq_iff_iff]
  simp
theorem dec_byt {i j:Array UInt8}:decide (V.byt i=V.byt j)=(i.toList==j.toList):=by
  rw [Bool.eq_iff_iff]
  cases i
  cases j
  simp
section
variable {X:Cx} {a b c:Expr} {ta tb tc:TE} {pos:Pos}
theorem fin_bl {pins:List (Addr×Obj)} {σ:St} {H:Hp} {s:Shared} {Q:VK} {k k' : Bool} (I:Inv X pins σ H s) (q:Q (.bl k) H) (e:k=k'):EP X pins σ Q (.bool k') s:=by
  subst e
  exact⟨.bl k,H,I,rfl,q⟩
theorem op_eq:OpR X (compareOp .Eq) rEq:=by
  intro pins s σ H x y v u Q I rx ry h
  obtain⟨hs,q⟩:=h
  cases x with
  | non =>
    cases rx
    cases y with
    | non=>cases ry;exact PySem.EqNone.eq_none_none (fin_bl I q (by simp))
    | bl j=>cases ry;exact PySem.EqNone.eq_none_bool (fin_bl I q (by simp))
    | int j=>obtain⟨t',rfl⟩:=ry;exact PySem.EqNone.eq_none_int (fin_bl I q (by simp))
    | str j=>obtain⟨t',rfl⟩:=ry;exact PySem.EqNone.eq_none_str (fin_bl I q (by simp))
    | _=>exact absurd (show false=true from hs) Bool.false_ne_true
  | bl i =>
    cases rx
    cases y with
    | non=>cases ry;exact PySem.EqNone.eq_bool_none (fin_bl I q (by simp))
    | bl j=>cases ry;exact eq_bool (fin_bl I q dec_bl)
    | str j=>obtain⟨t',rfl⟩:=ry;exact PySem.EqMixed.eq_bool_str (fin_bl I q (by simp))
    | _=>exact absurd (show false=true from hs) Bool.false_ne_true
  | int i =>
    obtain⟨t,rfl⟩:=rx
    cases y with
    | non=>cases ry;exact PySem.EqNone.eq_int_none (fin_bl I q (by simp))
    | int j=>obtain⟨t',rfl⟩:=ry;exact eq_int (fin_bl I q dec_int)
    | str j=>obtain⟨t',rfl⟩:=ry;exact PySem.EqMixed.eq_int_str (fin_bl I q (by simp))
    | _=>exact absurd (show false=true from hs) Bool.false_ne_true
  | str i =>
    obtain⟨t,rfl⟩:=rx
    cases y with
    | non=>cases ry;exact PySem.EqNone.eq_str_none (fin_bl I q (by simp))
    | bl j=>cases ry;exact PySem.EqMixed.eq_str_bool (fin_bl I q (by simp))
    | int j=>obtain⟨t',rfl⟩:=ry;exact PySem.EqMixed.eq_str_int (fin_bl I q (by simp))
    | str j=>obtain⟨t',rfl⟩:=ry;exact eq_str (fin_bl I q dec_str)
    | _=>exact absurd (show false=true from hs) Bool.false_ne_true
  | byt i =>
    obtain⟨t,rfl⟩:=rx
    cases y with
    | byt j=>obtain⟨t',rfl⟩:=ry;exact PySem.W.eq_bytes (fin_bl I q dec_byt)
    | _=>exact absurd (show false=true from hs) Bool.false_ne_true
  | _=>cases y <;> exact absurd (show false=true from hs) Bool.false_ne_true
theorem op_ne:OpR X (compareOp .NotEq) rNe:=by
  intro pins s σ H x y v u Q I rx ry h
  obtain⟨hs,q⟩:=h
  cases x with
  | non =>
    cases rx
    cases y with
    | non=>cases ry;exact PySem.EqNone.ne_none_none (fin_bl I q (by simp))
    | bl j=>cases ry;exact PySem.EqNone.ne_none_bool (fin_bl I q (by simp))
    | int j=>obtain⟨t',rfl⟩:=ry;exact PySem.EqNone.ne_none_int (fin_bl I q (by simp))
    | str j=>obtain⟨t',rfl⟩:=ry;exact PySem.EqNone.ne_none_str (fin_bl I q (by simp))
    | _=>exact absurd (show false=true from hs) Bool.false_ne_true
  | bl i =>
    cases rx
    cases y with
    | non=>cases ry;exact PySem.EqNone.ne_bool_none (fin_bl I q (by simp))
    | bl j=>cases ry;exact ne_bool (fin_bl I q (congrArg not dec_bl))
    | str j=>obtain⟨t',rfl⟩:=ry;exact PySem.EqMixed.ne_bool_str (fin_bl I q (by simp))
    | _=>exact absurd (show false=true from hs) Bool.false_ne_true
  | int i =>
    obtain⟨t,rfl⟩:=rx
    cases y with
    | non=>cases ry;exact PySem.EqNone.ne_int_none (fin_bl I q (by simp))
    | int j=>obtain⟨t',rfl⟩:=ry;exact ne_int (fin_bl I q (congrArg not dec_int))
    | str j=>obtain⟨t',rfl⟩:=ry;exact PySem.EqMixed.ne_int_str (fin_bl I q (by simp))
    | _=>exact absurd (show false=true from hs) Bool.false_ne_true
  | str i =>
    obtain⟨t,rfl⟩:=rx
    cases y with
    | non=>cases ry;exact PySem.EqNone.ne_str_none (fin_bl I q (by simp))
    | bl j=>cases ry;exact PySem.EqMixed.ne_str_bool (fin_bl I q (by simp))
    | int j=>obtain⟨t',rfl⟩:=ry;exact PySem.EqMixed.ne_str_int (fin_bl I q (by simp))
    | str j=>obtain⟨t',rfl⟩:=ry;exact ne_str (fin_bl I q (congrArg not dec_str))
    | _=>exact absurd (show false=true from hs) Bool.false_ne_true
  | byt i =>
    obtain⟨t,rfl⟩:=rx
    cases y with
    | byt j=>obtain⟨t',rfl⟩:=ry;exact PySem.W.ne_bytes (fin_bl I q (congrArg not dec_byt))
    | _=>exact absurd (show false=true from hs) Bool.false_ne_true
  | _=>cases y <;> exact absurd (show false=true from hs) Bool.false_ne_true
theorem op_lt:OpR X (compareOp .Lt) (rI0 fun i j => .bl (decide (i<j))):=opB0 fun _ _ _ _ _ _ _ q=>lt_int q
theorem op_le:OpR X (compareOp .LtE) (rI0 fun i j => .bl (decide (i≤j))):=opB0 fun _ _ _ _ _ _ _ q=>le_int q
theorem op_gt:OpR X (compareOp .Gt) (rI0 fun i j => .bl (decide (j<i))):=opB0 fun _ _ _ _ _ _ _ q=>gt_int q
theorem op_ge:OpR X (compareOp .GtE) (rI0 fun i j => .bl (decide (j≤i))):=opB0 fun _ _ _ _ _ _ _ q=>ge_int q
theorem op_in_str:OpR X (compareOp .In) (fun x y H Q=>∃ i j,x = .str i∧y = .str j∧Q (.bl (!(Builtin.Str.occurrences j i 0 j.length 1).isEmpty)) H):=by
  intro pins s σ H x y v u Q I rx ry h
  obtain⟨i,j,rfl,rfl,q⟩:=h
  obtain⟨t,rfl⟩:=rx
  obtain⟨t',rfl⟩:=ry
  exact in_str (fin_bl I q rfl)
theorem OpR.or {f:Value→Value→Sem Value} {r r' : R2} (h:OpR X f r) (h' : OpR X f r'):OpR X f (fun x y H Q=>r x y H Q∨r' x y H Q):=by
  intro pins s σ H x y v u Q I rx ry q
  rcases q with q | q
  · exact h pins s σ H x y v u Q I rx ry q
  · exact h' pins s σ H x y v u Q I rx ry q
theorem nomark (b:Expr) {op:CmpOp} (h:op ≠ .In:=by decide) (h2:op ≠ .NotIn:=by decide):behindInMarks op b=false:=by
  have e1:(op==CmpOp.In)=false:=by cases op <;> first | rfl | exact absurd rfl h
  have e2:(op==CmpOp.NotIn)=false:=by cases op <;> first | rfl | exact absurd rfl h2
  cases b <;> simp [behindInMarks,e1,e2]
theorem pe_cmpR {op:CmpOp} {r:R2} (ho:OpR X (compareOp op) r) (ha:PE X a ta) (hb:PE X b tb) (hm:behindInMarks op b=false):PE X (.Compare a [op] [b] pos) (tOp r ta tb):=by
  intro pins s σ H Q I h
  exact wpAny_Compare1 (binT ha hb I h fun v u s2 x y H2 I2 rx ry q=>ho pins s2 σ H2 x y v u Q I2 rx ry q) hm
def tTest (t:TE):TT:=fun σ H Q=>t σ H fun x H' => ∃ k,x = .bl k∧Q k H'
theorem pt_cmpR {op:CmpOp} {r:R2} (ho:OpR X (compareOp op) r) (ha:PE X a ta) (hb:PE X b tb) (hm:behindInMarks op b=false):PT X (.Compare a [op] [b] pos) (tTest (tOp r ta tb)):=by
  intro pins s σ H Q I h
  refine wpAny_isTrue_Compare1 (thn (ha pins s σ H _ I h) fun v s1 ⟨x,H1,I1,r1,q1⟩=>thn (hb pins s1 σ H1 _ I1 q1) fun u s2 ⟨y,H2,I2,r2,q2⟩ =>
    thn (ho pins s2 σ H2 x y v u _ I2 r1 r2 q2) fun c s3 ⟨z,H3,I3,r3,k,e,q3⟩ => ?_) hm
  subst e
  cases r3
  exact wpAny_truthy_bool ⟨H3,I3,q3⟩
def TruV (K:PySem.W.Frag) (x:V) (H:Hp) (k:Bool):Prop :=
  match x with
  | .non=>k=false
  | .bl b=>k=b
  | .int i=>k=(i != 0)
  | .str y=>y.length≤sizeLine∧k=((y.length:Int) != 0)
  | .byt y=>y.size≤sizeLine∧k=((y.size:Int) != 0)
  | .ref p=>(∃ xs,SqL K H p xs∧k = !xs.isEmpty)∨(∃ xs,SqT K H p xs∧k = !xs.isEmpty)∨∃ kvs,H p=some (.dK kvs)∧k = !kvs.isEmpty
  | _=>False
theorem isEmpty_kv {κ:Type} {kvs:List (κ×V)} {vs:List (κ×Value)} (r:KV kvs vs):(!vs.isEmpty) = !kvs.isEmpty:=by
  cases r <;> rfl
theorem isEmpty_of {xs:List V} {its:List Value} (r:Vals xs its):(!its.toArray.isEmpty) = !xs.isEmpty:=by
  cases r <;> simp
theorem line63:(sizeLine:Nat)<2 ^ 63:=by rw [sizeLine_eq];decide
theorem tru_ok:TruR X (fun x H Q=>∃ k,TruV X.K x H k∧Q k H):=by
  intro pins s σ H x v Q I rx h
  obtain⟨k,e,q⟩:=h
  have hl:=line63
  have hs:sizeLine=16777216:=sizeLine_eq
  cases x with
  | non =>
    cases rx
    have e' : k=false:=e
    subst e'
    exact truthy_none ⟨H,I,q⟩
  | bl b =>
    cases rx
    have e' : k=b:=e
    subst e'
    exact wpAny_truthy_bool ⟨H,I,q⟩
  | int i =>
    obtain⟨t,rfl⟩:=rx
    have e' : k=(i != 0):=e
    subst e'
    exact PySem.P.truthy_int ⟨H,I,q⟩
  | str y =>
    obtain⟨t,rfl⟩:=rx
    obtain⟨hy,e'⟩:y.length≤sizeLine∧k=((y.length:Int) != 0):=e
    subst e'
    exact PySem.P.truthy_str (by lia) ⟨H,I.tok _,q⟩
  | byt y =>
    obtain⟨t,rfl⟩:=rx
    obtain⟨hy,e'⟩:y.size≤sizeLine∧k=((y.size:Int) != 0):=e
    subst e'
    exact PySem.W.truthy_bytes (by lia) ⟨H,I.tok _,q⟩
  | ref p =>
    cases rx
    have e' : (∃ xs,SqL X.K H p xs∧k = !xs.isEmpty)∨(∃ xs,SqT X.K H p xs∧k = !xs.isEmpty)∨∃ kvs,H p=some (.dK kvs)∧k = !kvs.isEmpty:=e
    rcases e' with ⟨xs,hx,e'⟩ | ⟨xs,hx,e'⟩ | ⟨kvs,hx,e'⟩
    · subst e'
      obtain⟨its,r,pl,hz⟩:=I.list hx
      have hlen:=r.length
      exact wpAny_truthy_list pl.isList (by simp only [List.size_toArray];lia) ⟨H,I.tok _,by rw [isEmpty_of r];exact q⟩
    · subst e'
      obtain⟨its,r,pl,hz⟩:=I.tuple hx
      have hlen:=r.length
      exact truthy_tuple pl (by simp only [List.size_toArray];lia) ⟨H,I.tok _,by rw [isEmpty_of r];exact q⟩
    · subst e'
      obtain⟨hz,hS,vs,r,m⟩:kvs.length≤sizeLine∧(p==sysModules)=false∧∃ vs,KV kvs vs∧s.heap.DictOf (mixKind X.prog X.w) p vs:=I.hok p _ hx
      have hlen:kvs.length=vs.length:=Paired.length r
      exact wpAny_truthy_dict hS m (by lia) ⟨H,I.tok _,by rw [isEmpty_kv r];exact q⟩
  | _=>exact (show False from e).elim
theorem pt_truth (ha:PE X a ta) (he:∀ whole,isTrue a X.env whole=(do let v ← whole;standAt a.pos;holding [v] (truthy v))) :
    PT X a (fun σ H Q=>ta σ H fun x H' => ∃ k,TruV X.K x H' k∧Q k H'):=by
  intro pins s σ H Q I h
  exact isTrue_plain (thn (ha pins s σ H _ I h) fun v s1 ⟨x,H1,I1,r1,q1⟩=>tru_ok pins s1 σ H1 x v Q I1 r1 q1) (he _)
theorem op_add_str:OpR X (binaryOp .Add) (fun x y H Q=>∃ i j,x = .str i∧y = .str j∧i.length+j.length≤sizeLine∧Q (.str (i++j)) H):=by
  intro pins s σ H x y v u Q I rx ry h
  obtain⟨i,j,rfl,rfl,hz,q⟩:=h
  obtain⟨t,rfl⟩:=rx
  obtain⟨t',rfl⟩:=ry
  exact add_str (fun t' tk=>⟨.str (i++j),H,I.tok _,⟨_,rfl⟩,q⟩) hz
theorem vals1 {x:V} {us:List Value} (r:Vals [x] us):∃ u,us = [u]∧RelV x u:=by
  cases r with
  | cons r1 r2=>cases r2;exact⟨_,rfl,r1⟩
theorem vals2 {x y:V} {us:List Value} (r:Vals [x,y] us):∃ u w',us = [u,w']∧RelV x u∧RelV y w' := by
  cases r with
  | cons r1 r2 =>
    cases r2 with
    | cons r3 r4=>cases r4;exact⟨_,_,rfl,r1,r3⟩
theorem call_max2 (hc:X.calm=true):CallR X (.builtin "max") (fun xs H Q=>∃ i j,xs = [.int i,.int j]∧Q (.int (if j>i then j else i)) H):=by
  intro pins s σ H xs us Q I r h
  obtain⟨i,j,rfl,q⟩:=h
  obtain⟨u,w',rfl,⟨t,rfl⟩,⟨t',rfl⟩⟩:=vals2 r
  refine max_two_ints (I.ok.hd hc) fun h' tk k=>⟨_,H,I.kept k,?_,q⟩
  by_cases hj:j>i
  · rw [if_pos hj,if_pos hj];exact⟨_,rfl⟩
  · rw [if_neg hj,if_neg hj];exact⟨_,rfl⟩
theorem call_min2 (hc:X.calm=true):CallR X (.builtin "min") (fun xs H Q=>∃ i j,xs = [.int i,.int j]∧Q (.int (if j<i then j else i)) H):=by
  intro pins s σ H xs us Q I r h
  obtain⟨i,j,rfl,q⟩:=h
  obtain⟨u,w',rfl,⟨t,rfl⟩,⟨t',rfl⟩⟩:=vals2 r
  refine min_two_ints (I.ok.hd hc) fun h' tk k=>⟨_,H,I.kept k,?_,q⟩
  by_cases hj:j<i
  · rw [if_pos hj,if_pos hj];exact⟨_,rfl⟩
  · rw [if_neg hj,if_neg hj];exact⟨_,rfl⟩
theorem call_int1:CallR X (.type "int") (fun xs H Q=>(∃ i,xs = [.int i]∧Q (.int i) H)∨∃ k,xs = [.bl k]∧Q (.int (if k then 1 else 0)) H):=by
  intro pins s σ H xs us Q I r h
  rcases h with ⟨i,rfl,q⟩ | ⟨k,rfl,q⟩
  · obtain⟨u,rfl,t,rfl⟩:=vals1 r
    exact call_int_int ⟨.int i,H,I,⟨_,rfl⟩,q⟩
  · obtain⟨u,rfl,r1⟩:=vals1 r
    cases r1
    exact call_int_bool ⟨.int (if k then 1 else 0),H,I.tok _,⟨_,rfl⟩,q⟩
def LenV (K:PySem.W.Frag) (x:V) (H:Hp) (n:Nat):Prop :=
  match x with
  | .str y=>y.length≤sizeLine∧n=y.length
  | .byt y=>y.size≤sizeLine∧n=y.size
  | .ref p=>(∃ xs,SqL K H p xs∧n=xs.length)∨∃ xs,SqT K H p xs∧n=xs.length
  | _=>False
theorem call_len:CallR X (.builtin "len") (fun xs H Q=>∃ x n,xs = [x]∧LenV X.K x H n∧Q (.int n) H):=by
  intro pins s σ H xs us Q I r h
  obtain⟨x,n,rfl,e,q⟩:=h
  obtain⟨u,rfl,rx⟩:=vals1 r
  have hl:=line63
  have hs:sizeLine=16777216:=sizeLine_eq
  cases x with
  | str y =>
    obtain⟨t,rfl⟩:=rx
    obtain⟨hy,e'⟩:y.length≤sizeLine∧n=y.length:=e
    subst e'
    exact len_str (by lia) ⟨.int _,H,I.tok _,⟨_,rfl⟩,q⟩
  | byt y =>
    obtain⟨t,rfl⟩:=rx
    obtain⟨hy,e'⟩:y.size≤sizeLine∧n=y.size:=e
    subst e'
    exact PySem.W.len_bytes (by lia) ⟨.int _,H,I.tok _,⟨_,rfl⟩,q⟩
  | ref p =>
    cases rx
    have e' : (∃ xs,SqL X.K H p xs∧n=xs.length)∨∃ xs,SqT X.K H p xs∧n=xs.length:=e
    rcases e' with ⟨xs,hx,e'⟩ | ⟨xs,hx,e'⟩
    · subst e'
      obtain⟨its,r',pl,hz⟩:=I.list hx
      have hlen:=r'.length
      exact Calls.call_len_list pl.isList (by simp only [List.size_toArray];lia) ⟨.int xs.length,H,I.tok _,⟨_,by simp only [List.size_toArray];rw [hlen]⟩,q⟩
    · subst e'
      obtain⟨its,r',pl,hz⟩:=I.tuple hx
      have hlen:=r'.length
      exact len_tuple pl (by simp only [List.size_toArray];lia) ⟨.int xs.length,H,I.tok _,⟨_,by simp only [List.size_toArray];rw [hlen]⟩,q⟩
  | _=>exact (show False from e).elim
end
end L2
namespace L2
open PySem PySem.Spec PyProof.Rows
structure ObjM (h:Heap) (x dx C:Addr) (mA:Str→Option Value):Prop where
  obj:h.get? x=some (PySem.W.instObj C dx)
  ns:h.Ns1 dx mA
  ne:dx≠x
theorem lookIn_ns {h:Heap} {dx:Addr} {mA:Str→Option Value} (n:h.Ns1 dx mA):∃ od,h.get? dx=some od∧∀ name,PySem.W.lookIn name od=some (mA name):=by
  obtain⟨o,es,ep,ho,hd,hk,_,hm⟩:=n
  refine⟨o,ho,fun name => ?_⟩
  have e:=hm name
  unfold nsFind findBy at e
  rw [← Array.find?_toList] at e
  unfold PySem.W.lookIn
  rw [hd]
  dsimp only
  split
  · rename_i y q
    rw [q] at e
    exact congrArg some e
  · rename_i q
    rw [q] at e
    have a:es.toList.any (·.refKey)=false:=by
      rw [List.any_eq_false]
      intro y hy
      obtain⟨z,t,hkey⟩:=hk y (Array.mem_toList_iff.mp hy)
      simp [DictEntry.refKey,hkey]
    have a' : ¬ es.toList.any (·.refKey)=true:=by rw [a];exact Bool.false_ne_true
    rw [if_neg a']
    exact congrArg some e
theorem ObjM.look {h:Heap} {x dx C:Addr} {mA:Str→Option Value} (I:ObjM h x dx C mA):∃ od,PySem.W.InstAt h x (PySem.W.instObj C dx) C (some od)∧∀ name,PySem.W.lookIn name od=some (mA name) :=
  let ⟨od,ho,hl⟩:=lookIn_ns I.ns
  ⟨od,⟨I.obj,rfl,rfl,ho⟩,hl⟩
section
variable {prog:Program} {w:World} {A:Around} {E:Value→Shared→Prop} {s:Shared} {K:PySem.W.Frag} {x dx C f:Addr} {mA:Str→Option Value} {name:Str} {v:Value}
end
def putF (f:Str) (v:V):List (Str×V)→List (Str×V)
  | [] => [(f,v)]
  | (g,x)::r=>if g=f then (g,v)::r else (g,x)::putF f v r
theorem lookup_putF (f g:Str) (v:V):∀ fs:List (Str×V),(putF f v fs).lookup g=if g=f then some v else fs.lookup g
  | []=>by
    show List.lookup g [(f,v)]=_
    by_cases h:g=f
    · have hb:(g==f)=true:=beq_iff_eq.mpr h
      simp only [List.lookup,hb,if_pos h]
    · have hb:(g==f)=false:=beq_eq_false_iff_ne.mpr h
      simp only [List.lookup,hb,if_neg h]
  | (k,x)::r=>by
    have ih:=lookup_putF f g v r
    rw [show putF f v ((k,x)::r)=(if k=f then (k,v)::r else (k,x)::putF f v r) from rfl]
    by_cases hk:k=f
    · rw [if_pos hk]
      by_cases h:g=k
      · have hb:(g==k)=true:=beq_iff_eq.mpr h
        simp only [List.lookup,hb,if_pos (h.trans hk)]
      · have hb:(g==k)=false:=beq_eq_false_iff_ne.mpr h
        simp only [List.lookup,hb,if_neg (fun e:g=f=>h (e.trans hk.symm))]
    · rw [if_neg hk]
      by_cases h:g=k
      · have hb:(g==k)=true:=beq_iff_eq.mpr h
        simp only [List.lookup,hb,if_neg (fun e:g=f=>hk (h.symm.trans e))]
      · have hb:(g==k)=false:=beq_eq_false_iff_ne.mpr h
        simp only [List.lookup,hb]
        exact ih
theorem keys_putF (f:Str) (v:V):∀ fs:List (Str×V),f∈(putF f v fs).map (·.1)∧∀ g,g∈fs.map (·.1)→g∈(putF f v fs).map (·.1)
  | []=>⟨by simp [putF],fun g h=>by simp at h⟩
  | (k,x)::r=>by
    obtain⟨i1,i2⟩:=keys_putF f v r
    rw [show putF f v ((k,x)::r)=(if k=f then (k,v)::r else (k,x)::putF f v r) from rfl]
    by_cases hk:k=f
    · rw [if_pos hk]
      subst hk
      exact⟨by simp,fun g h=>by simpa using h⟩
    · rw [if_neg hk]
      refine⟨?_,fun g h => ?_⟩
      · rw [List.map_cons]
        exact List.mem_cons_of_mem _ i1
      · rw [List.map_cons] at h ⊢
        rcases List.mem_cons.mp h with e | e
        · exact List.mem_cons.mpr (.inl e)
        · exact List.mem_cons_of_mem _ (i2 g e)
theorem RelO.some_of {v:V} {o:Option Value} (r:RelO (some v) o):∃ u,o=some u∧RelV v u:=by
  cases o with
  | none=>exact (show False from r).elim
  | some u=>exact⟨u,rfl,r⟩
theorem handed_of {v:V} {u:Value} (r:RelV v u):PySem.W.handedIn u=true:=by
  cases v with
  | non=>cases (show u=Value.none from r);rfl
  | bl b=>cases (show u=Value.bool b from r);rfl
  | int i=>obtain⟨t,e⟩:=(show ∃ t,u=Value.int i t from r);cases e;rfl
  | str x=>obtain⟨t,e⟩:=(show ∃ t,u=Value.str x t from r);cases e;rfl
  | byt b=>obtain⟨t,e⟩:=(show ∃ t,u=Value.bytes b t from r);cases e;rfl
  | flt b=>obtain⟨t,e⟩:=(show ∃ t,u=Value.float b t from r);cases e;rfl
  | ref a=>cases (show u=Value.ref a from r);rfl
  | ty n=>cases (show u=Value.type n from r);rfl
section
variable {P:Program} {w:World} {H H' : Hp} {h h' : Heap} {a C dx:Addr} {fs fs' : List (Str×V)}
theorem ins_get (hok:HOk P w H h) (e:H a=some (.ins C dx fs)):∃ mA,ObjM h a dx C mA∧(∀ f,RelO (fs.lookup f) (mA f))∧PySem.Within mA (fs.map (·.1))∧fs.length≤1000∧H dx=some (.own a):=by
  obtain⟨d,z,ne,ob,mA,n,r,q⟩:=(show ObjOk P w H h a (.ins C dx fs) from hok a _ e)
  exact⟨mA,⟨ob,n,ne⟩,r,q,z,d⟩
end
structure Cls (K:PySem.W.Frag) (C:Addr):Prop where
  pg:PySem.W.plainGet K C Str.empty=true
  hd:PySem.W.hasDictIn K C=true
  po:PySem.W.plainOver K C=true
  sa:PySem.W.findIn K (.ref C) "__setattr__" = some (some (.builtin "object.__setattr__"))
theorem Cls.get {K:PySem.W.Frag} {C:Addr} (c:Cls K C) (f:Str):PySem.W.plainGet K C f=true:=c.pg
section
variable {X:Cx} {pins:List (Addr×Obj)} {σ:St} {H:Hp} {s:Shared} {a C dx:Addr} {fs:List (Str×V)} {f:Str} {v:V} {A:Around} {E:Value→Shared→Prop}
theorem attr_of {prog:Program} {w:World} {env:Env} {e:Expr} {f:Str} {pos:Pos} {s:Shared} {Q:Value→Shared→Prop} (hb:attributeBase e f env (eval e env)=eval e env)
    (h:wpAny (model prog w) A (eval e env) (fun o s₁=>wpAny (model prog w) A (getAttr o f true) Q E s₁) E s):wpAny (model prog w) A (eval (.Attribute e f pos) env) Q E s :=
  Attribute_any_ h (by rw [arm_eval_Attribute,hb])
end
section
variable {X:Cx} {o e value:Expr} {f:Str} {pos pos' tpos:Pos} {ta tv:TE}
end
section
variable {X:Cx} {pins:List (Addr×Obj)} {σ:St} {H:Hp} {s:Shared} {A:Around} {E:Value→Shared→Prop} {Q:Value→Shared→Prop} {c:Value} {b:Bool}
inductive TyOf (K:PySem.W.Frag) (H:Hp):V→Value→Prop where
  | non:TyOf K H .non (.type "NoneType")
  | bl (x:Bool):TyOf K H (.bl x) (.type "bool")
  | int (i:Int):TyOf K H (.int i) (.type "int")
  | str (x:Str):TyOf K H (.str x) (.type "str")
  | flt (x:UInt64):TyOf K H (.flt x) (.type "float")
  | lst {a:Addr} {xs:List V} (e:H a=some (.lst xs)):TyOf K H (.ref a) (.type "list")
  | frz {a:Addr} {o:Obj} {xs:List V} (e:H a=some (.frz o (.lst xs))):TyOf K H (.ref a) (.type "list")
  | tup {a:Addr} {xs:List V} (e:H a=some (.tup xs)):TyOf K H (.ref a) (.type "tuple")
  | dK {a:Addr} {kvs:List (Key×V)} (e:H a=some (.dK kvs)):TyOf K H (.ref a) (.type "dict")
  | dT {a:Addr} {kvs:List (List Key×V)} (e:H a=some (.dT kvs)):TyOf K H (.ref a) (.type "dict")
  | ins {a C dx:Addr} {fs:List (Str×V)} (e:H a=some (.ins C dx fs)) (cl:Cls K C) (ha:PySem.W.findIn K (.ref C) "__class__" = some (some (.builtin "object.__class__")))
      (hn:PySem.W.specialIn K (.builtin "object.__class__") "__get__" = some (some (.builtin "getset_descriptor.__get__"))) (htk:PySem.W.takesIn K (.builtin "object.__class__")=some true)
      (hm:PySem.W.mroIn K C (.type "object")=some true):TyOf K H (.ref a) (.ref C)
theorem isinst_ok {x:V} {u t:Value} (I:Inv X pins σ H s) (rx:RelV x u) (ty:TyOf X.K H x t) (e:PySem.W.kitOne X.K t c=some b) (h:∀ tk,Q (.bool b) { s with toks:=tk }) :
    wpAny (model X.prog X.w) A (call (.builtin "isinstance") [u,c]) Q E s:=by
  cases ty with
  | non=>cases (show u=Value.none from rx);exact PySem.W.kia_one PySem.W.kitx_none I.kIn True.intro e (fun z=>nomatch z) h
  | bl y=>cases (show u=Value.bool y from rx);exact PySem.W.kia_one PySem.W.kitx_bool I.kIn True.intro e (fun z=>nomatch z) h
  | int i=>obtain⟨t,q⟩:=(show ∃ t,u=Value.int i t from rx);cases q;exact PySem.W.kia_one PySem.W.kitx_int I.kIn True.intro e (fun z=>nomatch z) h
  | str y=>obtain⟨t,q⟩:=(show ∃ t,u=Value.str y t from rx);cases q;exact PySem.W.kia_one PySem.W.kitx_str I.kIn True.intro e (fun z=>nomatch z) h
  | flt y=>obtain⟨t,q⟩:=(show ∃ t,u=Value.float y t from rx);cases q;exact PySem.W.kia_one PySem.W.kitx_float I.kIn True.intro e (fun z=>nomatch z) h
  | @lst a xs ea =>
    cases (show u=Value.ref a from rx)
    obtain⟨_,_,n,_,h1⟩:=(show ObjOk X.prog X.w H s.heap a (.lst xs) from I.hok a _ ea)
    exact PySem.W.kia_one PySem.W.kitx_list I.kIn ⟨_,h1,rfl⟩ e (fun z=>nomatch z) h
  | @frz a ob xs ea =>
    cases (show u=Value.ref a from rx)
    obtain⟨_,_,_,n,_,h1⟩:=(show ObjOk X.prog X.w H s.heap a (.frz ob (.lst xs)) from I.hok a _ ea)
    exact PySem.W.kia_one PySem.W.kitx_list I.kIn ⟨_,h1,rfl⟩ e (fun z=>nomatch z) h
  | @tup a xs ea =>
    cases (show u=Value.ref a from rx)
    obtain⟨_,_,_,p⟩:=(show ObjOk X.prog X.w H s.heap a (.tup xs) from I.hok a _ ea)
    obtain⟨o,h1,h2,_⟩:=p
    exact PySem.W.kia_one PySem.W.kitx_tuple I.kIn ⟨o,h1,h2⟩ e (fun z=>nomatch z) h
  | @dK a kvs ea =>
    cases (show u=Value.ref a from rx)
    obtain⟨_,_,vs,_,p⟩:=(show ObjOk X.prog X.w H s.heap a (.dK kvs) from I.hok a _ ea)
    obtain⟨o,es,ep,h1,h2,_⟩:=p
    exact PySem.W.kia_one PySem.W.kitx_dict I.kIn ⟨o,h1,h2.1⟩ e (fun z=>nomatch z) h
  | @dT a kvs ea =>
    cases (show u=Value.ref a from rx)
    obtain⟨_,_,xs,_,o,es,ep,h1,h2,_⟩:=(show ObjOk X.prog X.w H s.heap a (.dT kvs) from I.hok a _ ea)
    exact PySem.W.kia_one PySem.W.kitx_dict I.kIn ⟨o,h1,h2.1⟩ e (fun z=>nomatch z) h
  | @ins a C dx fs ea cl ha hn htk hm =>
    cases (show u=Value.ref a from rx)
    obtain⟨mA,O,_⟩:=ins_get I.hok ea
    obtain⟨od,J,_⟩:=O.look
    exact PySem.W.kia_one (PySem.W.kitx_own (cl.get _) cl.hd ha hn htk hm) I.kIn J e (fun z=>nomatch z) h
end
end L2
namespace L2
open PySem PySem.Spec PyProof.Rows
structure Room (k:Nat) (A:Around):Prop where
  hd:A.handled=none
  dp:A.depth+3 * k+5<recursionLimit
  un:A.units+16 * k+200<cLine
  gd:A.guards=some []
theorem Room.mono {j k:Nat} {A:Around} (r:Room k A) (h:j≤k):Room j A:=⟨r.hd,by have:=r.dp;lia,by have:=r.un;lia,r.gd⟩
theorem Room.deeper {k:Nat} {A:Around} (r:Room (k+1) A) (env:Env):Room k (A.deeper env) :=
  ⟨r.hd,by have:=r.dp;show A.depth+1+3 * k+5<_;lia,by have:=r.un;show A.units+3+16 * k+200<_;lia,r.gd⟩
theorem Room.in1 {k:Nat} {A:Around} (r:Room (k+1) A):Room k A.in1 :=
  ⟨r.hd,by have:=r.dp;show A.depth+3 * k+5<_;lia,by have:=r.un;show A.units+1+16 * k+200<_;lia,r.gd⟩
theorem make_depth {A:Around} {C:Addr} {us:List Value} {kw:List (Str×Value)}:(A.under (.builtin "type.__call__" ⟨.ref C::us,kw⟩)).depth=A.depth+1:=by
  first | rfl | simp [Around.under,Code.weight,Code.isCreation,Code.isGuard,Code.isCaller,Code.frames,Code.isFrame,guardIds]
theorem make_units {A:Around} {C:Addr} {us:List Value} {kw:List (Str×Value)}:(A.under (.builtin "type.__call__" ⟨.ref C::us,kw⟩)).units=A.units+1:=by
  first | rfl | simp [Around.under,Code.cUnits,Code.frames,Code.isFrame]
theorem make_guards {A:Around} {C:Addr} {us:List Value} {kw:List (Str×Value)}:(A.under (.builtin "type.__call__" ⟨.ref C::us,kw⟩)).guards=A.guards:=by
  have:(Code.builtin "type.__call__" ⟨.ref C::us,kw⟩).guards = []:=by simp [Code.guards,Code.isGuard,guardIds]
  unfold Around.under
  rw [this]
  cases e:A.guards <;> simp [pushGuards,e]
theorem Room.make {k:Nat} {A:Around} (r:Room (k+1) A) (C:Addr) (us:List Value) (kw:List (Str×Value)):Room k (A.under (.builtin "type.__call__" ⟨.ref C::us,kw⟩)) :=
  ⟨r.hd,by have:=r.dp;rw [make_depth];lia,by have:=r.un;rw [make_units];lia,make_guards.trans r.gd⟩
theorem Room.depth {k:Nat} {A:Around} (r:Room k A):A.depth<recursionLimit:=by have:=r.dp;lia
theorem Room.units {k:Nat} {A:Around} (r:Room k A):A.units+64<cLine:=by have:=r.un;lia
def tNil:TA:=fun _ H Q=>Q [] H
def tCons (ta:TE) (tr:TA):TA:=fun σ H Q=>ta σ H fun x H1=>tr σ H1 fun xs H2=>Q (x::xs) H2
section
variable {X:Cx} {e:Expr} {es:List Expr} {te:TE} {t:TA} {pos:Pos}
theorem pa_nil:PA X [] tNil:=fun _ _ _ _ H Q I h=>Calls.spliced_nil ⟨[],H,I,.nil,h⟩
theorem pa_cons (ha:PE X e te) (hr:PA X es t) (hs:starEach (e::es) X.env=(false,eval e X.env)::starEach es X.env:=by rfl):PA X (e::es) (tCons te t):=by
  intro pos pins s σ H Q I h
  rw [hs]
  show wpAny _ _ (spliced ((false,eval e X.env)::backTo pos (starEach es X.env))) _ _ s
  refine Calls.spliced_cons (thn (ha pins s σ H _ I h) fun u s1 ⟨x,H1,I1,r1,q1⟩ => ?_)
  exact thn (hr pos pins s1 σ H1 _ I1 q1) fun us s2 ⟨xs,H2,I2,r2,q2⟩=>⟨x::xs,H2,I2,.cons r1 r2,q2⟩
def tTup (t:TA):TE:=fun σ H Q=>t σ H fun xs H1=>xs.length≤sizeLine∧∀ p,H1 p=none→Q (.ref p) (upd H1 p (.tup xs))
def tLst (t:TA):TE:=fun σ H Q=>t σ H fun xs H1=>xs.length≤sizeLine∧∀ p,H1 p=none→Q (.ref p) (upd H1 p (.lst xs))
theorem pe_tup {x1} (h:PA X es t):PE X (.Tuple es x1 pos) (tTup t):=by
  intro pins s σ H Q I hq
  refine wpAny_Tuple_spliced (thn (h pos pins s σ H _ I hq) fun us s1 ⟨xs,H1,I1,r,z,q⟩=>⟨by rw [← r.length];exact z,?_⟩)
  have hf:H1 s1.heap.objs.size=none:=I1.hok.fresh (Nat.le_refl _)
  refine⟨.ref s1.heap.objs.size,upd H1 s1.heap.objs.size (.tup xs),I1.laid (t' := s1.toks) (fun b u e=>Heap.get?_push_of_some _ e) (Nat.le_refl _) ?_,rfl,q _ hf⟩
  exact⟨z,us,r,⟨_,Heap.get?_push_size _ rfl,rfl,_,rfl⟩⟩
theorem pe_lst (h:PA X es t):PE X (.List es pos) (tLst t):=by
  intro pins s σ H Q I hq
  refine wpAny_List_spliced (thn (h pos pins s σ H _ I hq) fun us s1 ⟨xs,H1,I1,r,z,q⟩=>⟨by rw [← r.length];exact z,?_⟩)
  have hf:H1 s1.heap.objs.size=none:=I1.hok.fresh (Nat.le_refl _)
  refine⟨.ref s1.heap.objs.size,upd H1 s1.heap.objs.size (.lst xs),I1.laid (t' := s1.toks) (fun b u e=>Heap.get?_push_of_some _ e) (Nat.le_refl _) ?_,rfl,q _ hf⟩
  exact⟨z,us,0,r,Heap.get?_push_size _ rfl⟩
end
abbrev Sp:=List V→Hp→VK→XK→Prop
abbrev CXT:=List Env→Hp→Shared→XK→Value→Shared→Prop
structure Env0 (P:Program) (w:World) (K:PySem.W.Frag) (mg:Str→Option Value) (base:Heap) (A:Around) (outer:List Env) (s:Shared) (H:Hp):Prop where
  frames:A.frames=some outer
  mod:Mod K mg base
  bs:∀ b o,base.get? b=some o→s.heap.get? b=some o∧H b=none
  bsz:base.objs.size≤s.heap.objs.size
  funs:s.heap.FunFrames base outer
  frf:∀ b∈frs outer,H b=none
  hok:HOk P w H s.heap
  bare:AllBare s.gens
def CE (outer:List Env) (P:Program) (w:World) (H:Hp) (s:Shared) (Q:VK) (u:Value) (s' : Shared):Prop :=
  ∃ v H',s'.os=s.os∧AllBare s'.gens∧Un (frs outer) [] H H' s.heap s'.heap∧HOk P w H' s'.heap∧RelV v u∧Q v H'
def CR (CX:CXT) (outer:List Env) (P:Program) (w:World) (H:Hp) (s:Shared) (Q:VK) (E:XK) (r:Result) (s' : Shared):Prop :=
  match r with
  | .ok (.ret u)=>CE outer P w H s Q u s'
  | .ok _=>False
  | .error e=>CX outer H s E e s'
structure FnOk (P:Program) (w:World) (K:PySem.W.Frag) (mg:Str→Option Value) (base:Heap) (CX:CXT) (k:Nat) (f:Addr) (fd:FuncData) (ps:List Str) (sp:Sp):Prop where
  len:∀ vs H Q E,sp vs H Q E→vs.length=ps.length
  run:∀ (A:Around) (outer:List Env) (s:Shared) (H:Hp) (args:Args) (us:List Value) (vs:List V) (Q:VK) (E:XK),Room k A→Env0 P w K mg base A outer s H→BindsTo s fd args (ps.zip us)→Vals vs us→sp vs H Q E →
    codeAny (model P w) A (.call (.ref f) args) (CR CX outer P w H s Q E) s
theorem FnOk.mono {P:Program} {w:World} {K:PySem.W.Frag} {mg:Str→Option Value} {base:Heap} {CX:CXT} {j k:Nat} {f:Addr} {fd:FuncData} {ps:List Str} {sp:Sp} (F:FnOk P w K mg base CX j f fd ps sp) (h:j≤k) :
    FnOk P w K mg base CX k f fd ps sp:=⟨F.len,fun A outer s H args us vs Q E hr=>F.run A outer s H args us vs Q E (hr.mono h)⟩
theorem FnOk.imp {P:Program} {w:World} {K:PySem.W.Frag} {mg:Str→Option Value} {base:Heap} {CX:CXT} {k:Nat} {f:Addr} {fd:FuncData} {ps:List Str} {sp sp' : Sp} (F:FnOk P w K mg base CX k f fd ps sp)
    (h:∀ vs H Q E,sp' vs H Q E→sp vs H Q E):FnOk P w K mg base CX k f fd ps sp' :=
  ⟨fun vs H Q E q=>F.len vs H Q E (h _ _ _ _ q),fun A outer s H args us vs Q E hr he hb hv hs=>F.run A outer s H args us vs Q E hr he hb hv (h _ _ _ _ hs)⟩
theorem Env0.make {P:Program} {w:World} {K:PySem.W.Frag} {mg:Str→Option Value} {base:Heap} {A:Around} {outer:List Env} {s:Shared} {H:Hp} (e:Env0 P w K mg base A outer s H) (C:Addr) (us:List Value) (kw:List (Str×Value)) :
    Env0 P w K mg base (A.under (.builtin "type.__call__" ⟨.ref C::us,kw⟩)) outer s H:=⟨by first | exact e.frames | (simpa [Around.under,Code.envs,Code.isFrame,pushEnvs] using e.frames),e.mod,e.bs,e.bsz,e.funs,e.frf,e.hok,e.bare⟩
theorem Env0.in1 {P:Program} {w:World} {K:PySem.W.Frag} {mg:Str→Option Value} {base:Heap} {A:Around} {outer:List Env} {s:Shared} {H:Hp} (e:Env0 P w K mg base A outer s H) :
    Env0 P w K mg base A.in1 outer s H:=⟨e.frames,e.mod,e.bs,e.bsz,e.funs,e.frf,e.hok,e.bare⟩
section
variable {X:Cx} {pins:List (Addr×Obj)} {σ:St} {H:Hp} {s s' : Shared}
theorem Inv.env0 (I:Inv X pins σ H s):Env0 X.prog X.w X.K X.mg X.base X.A X.stack s H :=
  ⟨I.ok.frames,I.ok.mod,I.bs,Nat.le_trans I.ok.bsz I.sz,I.stack,I.stkFree,I.hok,I.bare⟩
theorem Inv.after {Q:VK} {u:Value} (I:Inv X pins σ H s) (h:CE X.stack X.prog X.w H s Q u s'):EP X pins σ Q u s' := by
  obtain⟨v,H',os,bare,un,hok,r,q⟩:=h
  obtain⟨hh,g,d,t,os'⟩:=s'
  obtain rfl:os' = s.os:=os
  exact⟨v,H',I.call (h' := hh) (g' := g) (d' := d) (t' := t) (ch := []) un hok bare (fun b z=>absurd z (by simp)),r,q⟩
end
def tCall (sp:Sp) (dvs:List V) (E:XK) (t:TA):TE:=fun σ H Q=>t σ H fun vs H1=>sp (vs++dvs) H1 Q E
def Binds (K:PySem.W.Frag) (fd:FuncData) (ps:List Str) (ds:List Value):Prop :=
  ∀ (s:Shared) (us:List Value),K.In s.heap→(us++ds).length=ps.length→BindsTo s fd ⟨us,[]⟩ (ps.zip (us++ds))
theorem Binds.all {K:PySem.W.Frag} {fd:FuncData} {ps:List Str} (h:∀ us:List Value,us.length=ps.length→bindArgs fd ⟨us,[]⟩=pure (ps.zip us)):Binds K fd ps []:=fun s us _ hl=>by
  rw [List.append_nil] at hl ⊢
  exact .of_eq (h us hl)
def Passes (CX:CXT) (X:Cx) (E:XK):Prop:=∀ (pins:List (Addr×Obj)) (σ:St) (H:Hp) (s:Shared) (e:Value) (s' : Shared),Inv X pins σ H s→CX X.stack H s E e s' → X.xe e s'
section
variable {X:Cx} {CX:CXT} {k:Nat} {f C:Addr} {fd:FuncData} {ps:List Str} {sp:Sp} {dvs:List V} {ds:List Value} {E:XK} {x m:Str} {p pos apos:Pos} {e o:Expr} {es:List Expr} {ta:TE} {t:TA}
theorem run_fn {pins:List (Addr×Obj)} {σ:St} {H:Hp} {s:Shared} {Q:VK} {us:List Value} {vs:List V} (F:FnOk X.prog X.w X.K X.mg X.base CX k f fd ps sp) (hr:Room k X.A) (hb:Binds X.K fd ps ds) (hd:Vals dvs ds) (hx:Passes CX X E)
    (I:Inv X pins σ H s) (r:Vals vs us) (h:sp (vs++dvs) H Q E):wpAny (model X.prog X.w) X.A (call (.ref f) us) (EP X pins σ Q) X.xe s:=by
  have r2:Vals (vs++dvs) (us++ds):=r.append hd
  have hl:(us++ds).length=ps.length:=by rw [← r2.length];exact F.len _ _ _ _ h
  refine wpAny_call (codeAny_mono (F.run X.A X.stack s H ⟨us,[]⟩ (us++ds) (vs++dvs) Q E hr I.env0 (hb s us I.kIn hl) r2 h) fun r s' hq => ?_)
  cases r with
  | error e=>exact hx pins σ H s e s' I hq
  | ok fl =>
    cases fl with
    | ret u=>exact I.after hq
    | next=>exact False.elim hq
    | brk=>exact False.elim hq
    | cont=>exact False.elim hq
theorem pe_call (F:FnOk X.prog X.w X.K X.mg X.base CX k f fd ps sp) (hr:Room k X.A) (hg:Gl X x) (hm:X.mg x=some (.ref f)) (hk:PySem.W.keepIn X.K (.ref f)=true) (hb:Binds X.K fd ps ds) (hd:Vals dvs ds) (hx:Passes CX X E)
    (ha:PA X (e::es) t) (hdb:(x==("__debug__" : Str))=false:=by decide) (he:starEach (e::es) X.env=(false,eval e X.env)::starEach es X.env:=by rfl) (hpl:(backTo pos (starEach es X.env)).any (·.1)=false:=by rfl) :
    PE X (.Call (.Name x p) (e::es) [] pos) (tCall sp dvs E t):=by
  intro pins s σ H Q I h
  refine wpAny_Call_Name_kw (ld_glob I hg hm ?_ hdb)
  refine PySem.W.callWith_K (h₀:=X.base) I.ok.mod.kin hk (thn (ha pos pins s σ H _ I h) fun us s1 ⟨vs,H1,I1,r,q⟩=>⟨I1.kIn,?_⟩) he hpl
  exact run_fn F hr hb hd hx I1 r q
theorem pe_call0 (F:FnOk X.prog X.w X.K X.mg X.base CX k f fd ps sp) (hr:Room k X.A) (hg:Gl X x) (hm:X.mg x=some (.ref f)) (hk:PySem.W.keepIn X.K (.ref f)=true) (hb:Binds X.K fd ps ds) (hd:Vals dvs ds) (hx:Passes CX X E)
    (hdb:(x==("__debug__" : Str))=false:=by decide):PE X (.Call (.Name x p) [] [] pos) (tCall sp dvs E tNil):=by
  intro pins s σ H Q I h
  refine wpAny_Call_Name_kw (ld_glob I hg hm ?_ hdb)
  exact PySem.W.callWith_K0 I.kIn hk (run_fn (us := []) F hr hb hd hx I .nil h)
end
section
variable {X:Cx} {CX:CXT} {k:Nat} {f C:Addr} {fd:FuncData} {ps ks:List Str} {sp:Sp} {E:XK} {x m:Str} {p pos apos kpos:Pos} {e o:Expr} {es:List Expr} {kws:List Keyword} {te ta:TE} {t tk:TA} {nm:Option Str}
variable {g:List Value→List Value→List Value} {gV:List V→List V→List V}
end
structure FnScope (N P:List Str) (sc:Scope):Prop where
  kind:sc.kind = .function
  co:sc.isCoroutine=false
  gen:sc.isGenerator=false
  nd:N.Nodup
  pre:N.take P.length=P
  par:∀ x∈P,sc.names.lookup x=some .local∨sc.names.lookup x=some .cell
  nofree:∀ y∈sc.names,y.2 ≠ .free
theorem bindL_out {kindOf:Str→Option NameKind} {x:Str}:∀ {binds:List (Str×Value)} {m:Str→Option Value},(∀ v,(x,v)∉binds)→bindL kindOf binds m x=m x
  | [],_,_=>rfl
  | (n,v)::r,m,h=>by
    unfold bindL
    rw [bindL_out fun w hw=>h w (List.mem_cons_of_mem _ hw)]
    split
    · have:x≠n:=by rintro rfl;exact h v List.mem_cons_self
      simp [this]
    · rfl
theorem bindC_out {kindOf:Str→Option NameKind} {x:Str}:∀ {binds:List (Str×Value)} {m:Str→Option Value},(∀ v,(x,v)∉binds)→bindC kindOf binds m x=m x
  | [],_,_=>rfl
  | (n,v)::r,m,h=>by
    unfold bindC
    rw [bindC_out fun w hw=>h w (List.mem_cons_of_mem _ hw)]
    split
    · rfl
    · have:x≠n:=by rintro rfl;exact h v List.mem_cons_self
      simp [this]
theorem bindL_get {kindOf:Str→Option NameKind} {x:Str} {v:Value}:∀ {P:List Str} {vs:List Value} {i:Nat} {m:Str→Option Value},P.Nodup→P[i]? = some x→vs[i]? = some v→kindOf x=some .local →
    bindL kindOf (P.zip vs) m x=some v
  | [],_,_,_,_,h,_,_=>by simp at h
  | _::_,[],_,_,_,_,h,_=>by simp at h
  | p::P,w::vs,0,m,nd,h1,h2,hk=>by
    simp at h1 h2;subst h1;subst h2
    show bindL kindOf ((p,w)::P.zip vs) m p=_
    unfold bindL
    rw [bindL_out fun v hv=>(List.nodup_cons.mp nd).1 (List.of_mem_zip hv).1,if_pos hk]
    simp
  | p::P,w::vs,i+1,m,nd,h1,h2,hk=>by
    show bindL kindOf ((p,w)::P.zip vs) m x=_
    unfold bindL
    exact bindL_get (i:=i) (List.nodup_cons.mp nd).2 (by simpa using h1) (by simpa using h2) hk
theorem bindC_get {kindOf:Str→Option NameKind} {x:Str} {v:Value}:∀ {P:List Str} {vs:List Value} {i:Nat} {m:Str→Option Value},P.Nodup→P[i]? = some x→vs[i]? = some v→kindOf x≠some .local →
    bindC kindOf (P.zip vs) m x=some v
  | [],_,_,_,_,h,_,_=>by simp at h
  | _::_,[],_,_,_,_,h,_=>by simp at h
  | p::P,w::vs,0,m,nd,h1,h2,hk=>by
    simp at h1 h2;subst h1;subst h2
    show bindC kindOf ((p,w)::P.zip vs) m p=_
    unfold bindC
    rw [bindC_out fun v hv=>(List.nodup_cons.mp nd).1 (List.of_mem_zip hv).1,if_neg hk]
    simp
  | p::P,w::vs,i+1,m,nd,h1,h2,hk=>by
    show bindC kindOf ((p,w)::P.zip vs) m x=_
    unfold bindC
    exact bindC_get (i:=i) (List.nodup_cons.mp nd).2 (by simpa using h1) (by simpa using h2) hk
def start (N:List Str) (vs:List V):St:=vs.map some++List.replicate (N.length - vs.length) none
def cxOf (CX:CXT) (P:Program) (w:World) (K:PySem.W.Frag) (mg:Str→Option Value) (base:Heap) (N:List Str) (qual:Str) (scope:Scope) (f:Addr) (cd:Value) (A:Around) (outer:List Env) (s:Shared) (H:Hp) (E:XK):Cx where
  prog:=P
  w:=w
  K:=K
  mg:=mg
  base:=base
  A:=A.deeper (envOfC qual scope s.heap.objs.size f cd)
  N:=N
  s₀:=s
  H₀:=H
  env:=envOfC qual scope s.heap.objs.size f cd
  outer:=outer
  stack:=envOfC qual scope s.heap.objs.size f cd::outer
  ex := []
  calm:=true
  fn:=fun _=>true
  pn := []
  xe:=fun e s' => wpAny (model P w) (A.deeper (envOfC qual scope s.heap.objs.size f cd)) (leaving (envOfC qual scope s.heap.objs.size f cd) e) (fun _ s'' => CX outer H s E e s'') (fun e' s'' => CX outer H s E e' s'') s'
theorem cell_has {sc:Scope} {n:Nat} {x:Str} (h:sc.names.lookup x=some .cell):∃ c,(cellsFrom n sc.names []).lookup x=some c:=by
  have q:=PySem.W.cellsFrom_some sc.names n [] (.inl h)
  exact Option.isSome_iff_exists.mp q
theorem inv_start {CX:CXT} {P:Program} {w:World} {K:PySem.W.Frag} {mg:Str→Option Value} {base:Heap} {N ps:List Str} {qual:Str} {scope:Scope} {f:Addr} {cd:Value} {A:Around} {outer:List Env} {s s1:Shared} {H:Hp} {E:XK} {us:List Value} {vs:List V}
    (S:FnScope N ps scope) (hd:A.handled=none) (e0:Env0 P w K mg base A outer s H) (hl:vs.length=ps.length) (r:Vals vs us)
    (x:InCallC s s.heap.objs.size (bindL (envOfC qual scope s.heap.objs.size f cd).kindOf (ps.zip us) fun _=>none) (cellsFrom (s.heap.objs.size+1) scope.names []) (bindC (envOfC qual scope s.heap.objs.size f cd).kindOf (ps.zip us) fun _=>none) s1) :
    Inv (cxOf CX P w K mg base N qual scope f cd A outer s H E) [] (start N vs) H s1:=by
  have hpl:ps.length≤N.length:=by have:=congrArg List.length S.pre;rw [List.length_take] at this;lia
  obtain⟨h1,tk,rfl,hk⟩:=x.done
  have noA:∀ b:Addr,b∉(cxOf CX P w K mg base N qual scope f cd A outer s H E).ex:=fun b z=>absurd (show b∈([]:List Addr) from z) (by simp)
  refine⟨⟨e0.mod,S.kind,rfl,rfl,Nat.le_refl _,fun y z c h1 h2 => ?_,fun y hy => ?_,fun y c _ h => ?_,fun _=>hd,Around.frames_deeper e0.frames,.inr ⟨rfl,rfl⟩,fun b z=>absurd z (noA b),e0.bs,e0.bsz,fun b _ _=>noA b,fun b z=>absurd z (noA b),e0.funs,e0.frf⟩,
    rfl,e0.bare,Un.kept hk,⟨_,x.toInCall.ns,fun i y v h1 h2 h3 => ?_⟩,fun y c h=>⟨_,x.cell y c h⟩,e0.hok.fresh (Nat.le_refl _),fun y c h => ?_,fun p hp=>absurd (show p∈([]:List (Addr×Obj)) from hp) (by simp),e0.hok.kept hk,?_⟩
  · exact name_of_addr x.apart (PySem.mem_of_lookup h1) (PySem.mem_of_lookup h2)
  · have hy:scope.names.lookup y=some .cell∨scope.names.lookup y=some .free:=hy
    rcases hy with hy | hy
    · exact cell_has hy
    · exact absurd rfl (S.nofree _ (PySem.mem_of_lookup hy))
  · exact Nat.le_of_lt (x.above y c (PySem.mem_of_lookup h))
  · have hi:i<vs.length:=by
      unfold start at h2
      by_cases hi:i<vs.length
      · exact hi
      · rw [List.getElem?_append_right (by simpa using hi)] at h2
        rw [List.getElem?_replicate] at h2
        split at h2 <;> cases h2
    have ha:vs[i]? = some v:=by
      unfold start at h2
      rw [List.getElem?_append_left (by simpa using hi),List.getElem?_map] at h2
      cases e:vs[i]? with
      | none=>rw [e] at h2;cases h2
      | some a=>rw [e] at h2;cases h2;rfl
    obtain⟨u,hu,rv⟩:=r.get ha
    have hp:ps[i]? = some y:=by
      rw [← S.pre,List.getElem?_take_of_lt (by lia)];exact h1
    have ndP:ps.Nodup:=by rw [← S.pre];exact S.nd.sublist (List.take_sublist _ _)
    refine⟨u,rv,?_⟩
    rcases S.par y (List.mem_of_getElem? hp) with k | k
    · exact .inl ⟨k,bindL_get ndP hp hu k⟩
    · obtain⟨c,e⟩:=cell_has (n:=s.heap.objs.size+1) k
      refine .inr ⟨.inl k,c,e,?_⟩
      have q:=x.cell y c e
      rw [bindC_get ndP hp hu (by show scope.names.lookup y≠_;rw [k];decide)] at q
      exact q
  · exact e0.hok.fresh (Nat.le_of_lt (x.above y c (PySem.mem_of_lookup h)))
  · unfold start
    show _=N.length
    rw [List.length_append,List.length_map,List.length_replicate]
    lia
theorem fn_of {CX:CXT} {P:Program} {w:World} {K:PySem.W.Frag} {mg:Str→Option Value} {base:Heap} {k:Nat} {f:Addr} {name qual:Str} {params:Arguments} {body:List Stmt} {scope:Scope} {dV kV doc pm cdv ct oc:Value} {an od:Option Addr}
    {osl:Array (Option Value)} {N ps:List Str} {sp:Sp} (lk:K.lookup f=some ⟨oc,od,.func (PySem.W.fnOf name qual params body scope dV kV doc pm an cdv ct),osl⟩) (hcd:PySem.W.codeIn K cdv qual=true) (S:FnScope N ps scope)
    (len:∀ vs H Q E,sp vs H Q E→vs.length=ps.length)
    (hbody:∀ (A:Around) (outer:List Env) (s:Shared) (H:Hp) (vs:List V) (Q:VK) (E:XK),Room k (A.deeper (envOfC qual scope s.heap.objs.size f cdv))→sp vs H Q E →
      ∃ t,PSs (cxOf CX P w K mg base N qual scope f cdv A outer s H E) body t∧t { nx:=fun _ H' => Q .non H',rt:=Q } (start N vs) H) :
    FnOk P w K mg base CX (k+1) f (PySem.W.fnOf name qual params body scope dV kV doc pm an cdv ct) ps sp:=by
  refine⟨len,fun A outer s H args us vs Q E hr e0 hb r hsp => ?_⟩
  have hl:=len _ _ _ _ hsp
  have KX:K.In s.heap:=e0.mod.kin.keeps fun b o e=>(e0.bs b o e).1
  have lim:s.heap.NoLimit:=e0.mod.nolimit.keeps fun b o e=>(e0.bs b o e).1
  have hkind:∀ y∈ps.zip us,scope.names.lookup y.1=some .local∨(scope.names.lookup y.1=some .cell∧((cellsFrom (s.heap.objs.size+1) scope.names []).lookup y.1).isSome=true):=fun ⟨n,v⟩ hy=>by
    rcases S.par n (List.of_mem_zip hy).1 with q | q
    · exact .inl q
    · exact .inr ⟨q,PySem.W.cellsFrom_some _ _ _ (.inl q)⟩
  refine codeAny_call_function hr.depth (KX _ _ lk) rfl S.co S.gen rfl (PySem.W.codeRec_of KX hcd) (hb _ _ _ _ ?_)
  refine wpAny_newFunctionEnv_cells S.kind hkind fun env he s1 x => ?_
  subst he
  refine⟨lim.keeps x.toInCall.keep,codeAny_func ?_⟩
  obtain⟨t,ht,hq⟩:=hbody A outer s H vs Q E (hr.deeper _) hsp
  have I:Inv (cxOf CX P w K mg base N qual scope f cdv A outer s H E) [] (start N vs) H s1:=inv_start S hr.hd e0 hl r x
  refine wpAny_mono (ht [] s1 (start N vs) H _ I hq) (fun fl s' hs => ?_) fun e s' hs=>hs
  have fin:∀ {σ' : St} {H' : Hp} {v:V} {u:Value},Inv (cxOf CX P w K mg base N qual scope f cdv A outer s H E) [] σ' H' s' → RelV v u→Q v H' → CE outer P w H s Q u s' :=
    fun {σ' H' v u} J rv q=>⟨v,H',J.os,J.bare,J.base,J.hok,rv,q⟩
  cases fl with
  | ret u =>
    obtain⟨v,σ',H',J,rv,q⟩:=hs
    exact fin J rv q
  | next =>
    obtain⟨σ',H',J,q⟩:=hs
    exact fin (v:=V.non) (u:=Value.none) J rfl q
  | brk =>
    obtain⟨_,_,_,q⟩:=hs
    exact False.elim q
  | cont =>
    obtain⟨_,_,_,q⟩:=hs
    exact False.elim q
end L2
namespace L2
open PySem PySem.Spec PyProof.Rows
section
variable {X:Cx} {x:Str} {p pos:Pos} {e:Expr} {es:List Expr} {t:TA} {id T:String} {r:List V→Hp→VK→Prop}
def tCB (r:List V→Hp→VK→Prop) (t:TA):TE:=fun σ H Q=>t σ H fun vs H1=>r vs H1 Q
theorem pe_callB (hc:CallR X (.builtin id) r) (hg:Gl X x) (hm:X.mg x=none) (hv:bootBuiltins x=some (.builtin id)) (ha:PA X (e::es) t) (hn:x ≠ "__name__" := by decide) (hdb:(x==("__debug__" : Str))=false:=by decide)
    (he:starEach (e::es) X.env=(false,eval e X.env)::starEach es X.env:=by rfl) (hpl:(backTo pos (starEach es X.env)).any (·.1)=false:=by rfl):PE X (.Call (.Name x p) (e::es) [] pos) (tCB r t):=by
  intro pins s σ H Q I h
  refine wpAny_Call_Name_kw (ld_blt I hg hm hv ?_ hn hdb)
  exact PyProof.Rows.callWith_builtin1 (thn (ha pos pins s σ H _ I h) fun us s1 ⟨vs,H1,I1,r1,q1⟩=>hc pins s1 σ H1 vs us Q I1 r1 q1) he hpl
theorem pe_callTy (hc:CallR X (.type T) r) (hg:Gl X x) (hm:X.mg x=none) (hv:bootBuiltins x=some (.type T)) (ha:PA X (e::es) t) (hn:x ≠ "__name__" := by decide) (hdb:(x==("__debug__" : Str))=false:=by decide)
    (he:starEach (e::es) X.env=(false,eval e X.env)::starEach es X.env:=by rfl) (hpl:(backTo pos (starEach es X.env)).any (·.1)=false:=by rfl):PE X (.Call (.Name x p) (e::es) [] pos) (tCB r t):=by
  intro pins s σ H Q I h
  refine wpAny_Call_Name_kw (ld_blt I hg hm hv ?_ hn hdb)
  exact PyProof.Rows.callWith_type1 (thn (ha pos pins s σ H _ I h) fun us s1 ⟨vs,H1,I1,r1,q1⟩=>hc pins s1 σ H1 vs us Q I1 r1 q1) he hpl
end
end L2
namespace HT
open PySem PyProof.Rows
section
open PySem.SeqAt
open PySem.AutoSeq1 (wpAny_loadPart')
open PySem.MeetsSeq PySem.MeetsSeq2 PySem.MeetsSeq3
end
section
variable {prog:Program} {w:World} {A:Around} {E:Value→Shared→Prop} {s:Shared}
def sIx (n d:Nat):Option Int→Nat
  | none=>d
  | some v=>if v<0 then (v+(n:Int)).toNat else min v.toNat n
theorem sIx_le (n d:Nat) (hd:d≤n) (o:Option Int):sIx n d o≤n:=by
  cases o with
  | none=>exact hd
  | some v =>
    show (if v<0 then (v+(n:Int)).toNat else min v.toNat n)≤n
    by_cases hv:v<0
    · rw [if_pos hv];lia
    · rw [if_neg hv];exact Nat.min_le_right _ _
theorem clip_eq (v:Int) (n d:Nat):(if v<0 then max (v+(n:Int)) 0 else min v (n:Int))=((sIx n d (some v):Nat):Int):=by
  show (if v<0 then max (v+(n:Int)) 0 else min v (n:Int))=(((if v<0 then (v+(n:Int)).toNat else min v.toNat n):Nat):Int)
  by_cases hv:v<0
  · simp only [if_pos hv];lia
  · simp only [if_neg hv];lia
theorem adjust_gen (lo hi:Option Int) (n:Nat):Builtin.Slice.sliceAdjust lo hi 1 (n:Int)=(((sIx n 0 lo:Nat):Int),((sIx n n hi:Nat):Int)):=by
  have h1:¬ ((1:Int)<0):=by lia
  unfold Builtin.Slice.sliceAdjust
  simp only [h1,if_false]
  refine Prod.ext ?_ ?_
  · cases lo with
    | none=>rfl
    | some v=>exact clip_eq v n 0
  · cases hi with
    | none=>rfl
    | some v=>exact clip_eq v n n
theorem places_gen (i j:Nat):Builtin.Slice.slicePlaces (i:Int) (j:Int) 1=j - i:=by
  unfold Builtin.Slice.slicePlaces
  have h1:(1:Int)>0:=by lia
  simp only [h1,if_true,Int.ediv_one]
  split <;> lia
theorem slicePart_ {v:Value} {o:Option Int} {Q:Option Int→Shared→Prop} (p:IsPart v o) (h:Q o s):wpAny (model prog w) A (Builtin.Slice.slicePartIndex v) Q E s:=by
  cases p with
  | none=>exact slicePart_none h
  | int i t=>exact slicePart_int h
theorem sliceApplied_gen {sl:Addr} {vl vu:Value} {lo hi:Option Int} {n:Nat} {Q:Int×Int×Nat→Shared→Prop} (hs:s.heap.IsSliceOf sl vl vu .none) (pl:IsPart vl lo) (pu:IsPart vu hi)
    (h:Q (((sIx n 0 lo:Nat):Int),1,sIx n n hi - sIx n 0 lo) s):wpAny (model prog w) A (Builtin.Slice.sliceApplied (.ref sl) (pure (n:Int))) Q E s:=by
  obtain⟨os,hos,hcs,hds⟩:=id hs
  unfold Builtin.Slice.sliceApplied Builtin.Slice.sliceFields
  refine wpAny_bind (wpAny_bind (wpAny_field hos hds (x:=vl) rfl (wpAny_bind (wpAny_field hos hds (x:=vu) rfl (wpAny_bind (wpAny_field hos hds (x := .none) rfl (wpAny_pure ?_)))))))
  refine wpAny_bind (slicePart_none ?_)
  show wpAny _ _ (if ((1:Int)==0)=true then _ else _) _ _ s
  rw [if_neg (by decide)]
  refine wpAny_bind (slicePart_ pl (wpAny_bind (slicePart_ pu (wpAny_bind (wpAny_pure ?_)))))
  show wpAny _ _ (match Builtin.Slice.sliceAdjust lo hi 1 (n:Int) with | (lo,hi)=>pure (lo,(1:Int),Builtin.Slice.slicePlaces lo hi 1)) _ _ s
  rw [adjust_gen lo hi n]
  show wpAny _ _ (pure (((sIx n 0 lo:Nat):Int),(1:Int),Builtin.Slice.slicePlaces ((sIx n 0 lo:Nat):Int) ((sIx n n hi:Nat):Int) 1)) _ _ s
  rw [places_gen]
  exact wpAny_pure h
theorem pick_gen (xs:Array Value) (i k:Nat):((List.range k).filterMap fun (m:Nat)=>xs[((i:Int)+(m:Int) * 1).toNat]?).toArray=((xs.toList.drop i).take k).toArray:=by
  have e:(fun (m:Nat)=>xs[((i:Int)+(m:Int) * 1).toNat]?)=fun m=>xs[i+m]? := by
    funext m
    have:((i:Int)+(m:Int) * 1).toNat=i+m:=by lia
    rw [this]
  rw [e]
  have:=pick_run xs i k
  rw [List.filterMap_map] at this
  have e2:((fun x=>xs[x]?)∘fun x=>i+x)=fun m=>xs[i+m]? := rfl
  rw [e2] at this
  rw [this]
theorem getItem_tuple_cut {t sl:Addr} {items:Array Value} {vl vu:Value} {lo hi:Option Int} {Q:Value→Shared→Prop} (ht:IsTup s.heap t items) (hs:s.heap.IsSliceOf sl vl vu .none) (pl:IsPart vl lo) (pu:IsPart vu hi)
    (hw:¬ (sIx items.size 0 lo=0∧sIx items.size items.size hi=items.size))
    (h:Q (.ref s.heap.objs.size) { s with heap:=s.heap.push { cls := .type "tuple",data := .seq ((items.toList.drop (sIx items.size 0 lo)).take (sIx items.size items.size hi - sIx items.size 0 lo)).toArray } })
    (hsz:items.size≤sizeLine):wpAny (model prog w) A (getItem (.ref t) (.ref sl)) Q E s:=by
  have htake:sizeOk (.seq ((items.toList.drop (sIx items.size 0 lo)).take (sIx items.size items.size hi - sIx items.size 0 lo)).toArray):=by
    show ((items.toList.drop (sIx items.size 0 lo)).take (sIx items.size items.size hi - sIx items.size 0 lo)).toArray.size≤sizeLine
    rw [List.size_toArray,List.length_take,List.length_drop,Array.length_toList]
    lia
  have hj:sIx items.size items.size hi≤items.size:=sIx_le _ _ (Nat.le_refl _) hi
  obtain⟨os,hos,hcs,hds⟩:=id hs
  have hTs:s.TypeIs (.ref sl) "slice" := ⟨os,hos,hcs⟩
  unfold getItem
  try with_reducible refine wpAny_holding ?_
  first | refine wpAny_bind (wpAny_pure ?_) | skip
  refine wpAny_bind (wpAny_sequenceKey ht.typeIs (by decide) ?_)
  refine wpAny_bind (wpAny_callSpecial?_slot (name:=Str.ofString "__getitem__") ht.typeIs PyProof.Rows.slot_tuple_getitem
    (wpAny_call_entry PyProof.Rows.slot_tuple_getitem ht.typeIs entry_tuple_getitem ?_ (args_tuple_getitem _ _)))
  show wpAny _ _ (Builtin.Tuple.tupleItemsOf (.ref t) >>= _) _ _ s
  refine wpAny_bind (tupleItemsOf_ ht ?_)
  refine wpAny_bind (wpAny_typeOf hTs ?_)
  rw [if_pos (by decide)]
  refine wpAny_bind (sliceApplied_gen hs pl pu ?_)
  have hno:¬ ((((sIx items.size 0 lo:Nat):Int)==0&&(1:Int)==1&&(sIx items.size items.size hi - sIx items.size 0 lo)==items.size)=true):=by
    intro q
    rw [Bool.and_eq_true,Bool.and_eq_true] at q
    have q1:((sIx items.size 0 lo:Nat):Int)=0:=eq_of_beq q.1.1
    have q2:sIx items.size items.size hi - sIx items.size 0 lo=items.size:=eq_of_beq q.2
    exact hw ⟨by lia,by lia⟩
  show wpAny _ _ (if (((sIx items.size 0 lo:Nat):Int)==0&&(1:Int)==1&&(sIx items.size items.size hi - sIx items.size 0 lo)==items.size)=true then _ else _) _ _ s
  rw [if_neg hno,pick_gen]
  first
    | exact wpAny_bind (m:=Builtin.Tuple.tupleExact _) (wpAny_newObj_type (wpAny_pure ⟨_,rfl,wpAny_pure h⟩) htake)
    | exact wpAny_bind (m:=Builtin.Tuple.tupleExact _) (wpAny_newObj_type (wpAny_bind (wpAny_pure (wpAny_pure ⟨_,rfl,wpAny_pure h⟩))) htake)
    | exact wpAny_bind (wpAny_bind (m:=Builtin.Tuple.tupleExact _) (wpAny_newObj_type (wpAny_pure (wpAny_pure ⟨_,rfl,wpAny_pure h⟩)) htake))
    | exact wpAny_bind (wpAny_bind (m:=Builtin.Tuple.tupleExact _) (wpAny_newObj_type (wpAny_pure ⟨_,rfl,wpAny_pure h⟩) htake))
end
end HT
namespace L2
open PySem PySem.Spec PyProof.Rows
abbrev TO:=St→Hp→(Option Int→Hp→Prop)→Prop
def PO (X:Cx) (e:Option Expr) (t:TO):Prop :=
  ∀ (pins:List (Addr×Obj)) (s:Shared) (σ:St) (H:Hp) (Q:Option Int→Hp→Prop),Inv X pins σ H s→t σ H Q →
    wpAny (model X.prog X.w) X.A (evalPart e X.env) (fun u s' => ∃ o H',Inv X pins σ H' s' ∧ IsPart u o∧Q o H') X.xe s
def tNoPart:TO:=fun _ H Q=>Q none H
def tPart (t:TE):TO:=fun σ H Q=>t σ H fun x H1=>∃ i,x = .int i∧Q (some i) H1
section
variable {X:Cx} {e:Expr} {te:TE} {lo hi:Option Expr} {tl th:TO} {pos p2:Pos}
theorem po_none:PO X none tNoPart:=by
  intro pins s σ H Q I h
  rw [evalPart_none]
  exact wpAny_pure ⟨none,H,I,.none,h⟩
theorem po_some (h:PE X e te):PO X (some e) (tPart te):=by
  intro pins s σ H Q I hw
  rw [evalPart_some]
  refine thn (h pins s σ H _ I hw) fun u s1 ⟨x,H1,I1,r1,q1⟩ => ?_
  obtain⟨i,rfl,q⟩:=q1
  obtain⟨t,rfl⟩:=r1
  exact⟨some i,H1,I1,.int i t,q⟩
def SlR (X:Cx) (r:V→Option Int→Option Int→Hp→VK→Prop):Prop :=
  ∀ (pins:List (Addr×Obj)) (s:Shared) (σ:St) (H:Hp) (x:V) (v vl vu:Value) (lo hi:Option Int) (sl:Addr) (Q:VK),Inv X pins σ H s→RelV x v→s.heap.IsSliceOf sl vl vu .none→IsPart vl lo→IsPart vu hi→r x lo hi H Q →
    ∃ T id,typeLookup (.type T) "__getitem__" = pure (some (.builtin id))∧s.TypeIs v T∧wpAny (model X.prog X.w) X.A (getItem v (.ref sl)) (EP X pins σ Q) X.xe s
theorem SlR.or {r r' : V→Option Int→Option Int→Hp→VK→Prop} (h:SlR X r) (h' : SlR X r'):SlR X (fun x lo hi H Q=>r x lo hi H Q∨r' x lo hi H Q):=by
  intro pins s σ H x v vl vu lo hi sl Q I rx hs pl pu q
  rcases q with q | q
  · exact h pins s σ H x v vl vu lo hi sl Q I rx hs pl pu q
  · exact h' pins s σ H x v vl vu lo hi sl Q I rx hs pl pu q
def tSl (r:V→Option Int→Option Int→Hp→VK→Prop) (te:TE) (tl th:TO):TE:=fun σ H Q=>te σ H fun x H1=>tl σ H1 fun l H2=>th σ H2 fun u H3=>r x l u H3 Q
theorem pe_slice {r:V→Option Int→Option Int→Hp→VK→Prop} (hr:SlR X r) (he:PE X e te) (hl:PO X lo tl) (hu:PO X hi th):PE X (.Subscript e (.Slice lo hi none p2) pos) (tSl r te tl th):=by
  intro pins s σ H Q I h
  refine Subscript_ (thn (he pins s σ H _ I h) fun v s1 ⟨x,H1,I1,r1,q1⟩ => ?_)
  refine wpAny_Slice (thn (hl pins s1 σ H1 _ I1 q1) fun vl s2 ⟨l,H2,I2,pl,q2⟩=>thn (hu pins s2 σ H2 _ I2 q2) fun vu s3 ⟨u,H3,I3,pu,q3⟩ => ?_)
  rw [evalPart_none]
  refine wpAny_pure ?_
  have I4:Inv X pins σ H3 { s3 with heap:=s3.heap.push { cls := .type "slice",data := .fields #[vl,vu,.none] } }:=I3.kept (t' := s3.toks) fun b ob q=>Heap.get?_push_of_some _ q
  obtain⟨T,id,hT,ht,hg⟩:=hr pins { s3 with heap:=s3.heap.push { cls := .type "slice",data := .fields #[vl,vu,.none] } } σ H3 x v vl vu l u s3.heap.objs.size Q I4 r1 (Heap.IsSliceOf.new ..) pl pu q3
  show wpAny (model X.prog X.w) X.A (subscriptTail e (.Slice lo hi none p2) v (.ref s3.heap.objs.size)) (EP X pins σ Q) X.xe { s3 with heap:=s3.heap.push { cls := .type "slice",data := .fields #[vl,vu,.none] } }
  exact tail_any (ops := [.ref s3.heap.objs.size,v]) ht hT hg (by with_unfolding_all rfl)
def cutV (xs:List V) (lo hi:Option Int):List V:=(xs.drop (HT.sIx xs.length 0 lo)).take (HT.sIx xs.length xs.length hi - HT.sIx xs.length 0 lo)
theorem cutV_length (xs:List V) (lo hi:Option Int):(cutV xs lo hi).length≤xs.length:=by
  unfold cutV
  rw [List.length_take,List.length_drop]
  lia
def rSlT (K:PySem.W.Frag):V→Option Int→Option Int→Hp→VK→Prop:=fun x lo hi H Q=>∃ a xs,x = .ref a∧SqT K H a xs ∧
  ¬ (HT.sIx xs.length 0 lo=0∧HT.sIx xs.length xs.length hi=xs.length)∧∀ p,H p=none→Q (.ref p) (upd H p (.tup (cutV xs lo hi)))
theorem sl_tup:SlR X (rSlT X.K):=by
  intro pins s σ H x v vl vu lo hi sl Q I rx hs pl pu h
  obtain⟨a,xs,rfl,hx,hw,q⟩:=h
  cases rx
  obtain⟨its,r,ht,hz⟩:=I.tuple hx
  have hlen:its.toArray.size=xs.length:=by rw [List.size_toArray];exact r.length.symm
  refine⟨"tuple",_,PyProof.Rows.slot_tuple_getitem.lookup,ht.typeIs,?_⟩
  refine HT.getItem_tuple_cut ht hs pl pu (by rw [hlen];exact hw) ?_ (by rw [hlen];exact hz)
  rw [hlen]
  refine⟨.ref s.heap.objs.size,_,I.laid (t' := s.toks) (o := .tup (cutV xs lo hi)) (fun b ob q=>Heap.get?_push_of_some _ q) (Nat.le_refl _) ?_,rfl,q _ (I.hok.fresh (Nat.le_refl _))⟩
  exact⟨Nat.le_trans (cutV_length xs lo hi) hz,_,(r.drop (HT.sIx xs.length 0 lo)).take (HT.sIx xs.length xs.length hi - HT.sIx xs.length 0 lo),IsTup.new _ _⟩
end
end L2
namespace L2
open PySem PySem.Spec PyProof.Rows
def ixN (n:Nat) (i:Int):Option Nat:=if 0≤i then (if i<n then some i.toNat else none) else if -(n:Int)≤i then some (i+n).toNat else none
def atI {α:Type} (xs:List α) (i:Int):Option α:=(ixN xs.length i).bind fun j=>xs[j]?
theorem ixN_seq {n:Nat} {i:Int} {j:Nat} (h:ixN n i=some j):seqIndex? i n=some j∧j<n ∧ -(n:Int)≤i∧i<n:=by
  unfold ixN at h
  by_cases h0:0≤i
  · rw [if_pos h0] at h
    by_cases h1:i<n
    · rw [if_pos h1] at h
      have e:i.toNat=j:=Option.some.inj h
      exact⟨by rw [seqIndex_of h0 h1,e],by lia,by lia,h1⟩
    · rw [if_neg h1] at h;cases h
  · rw [if_neg h0] at h
    by_cases h1 : -(n:Int)≤i
    · rw [if_pos h1] at h
      have e:(i+n).toNat=j:=Option.some.inj h
      exact⟨by rw [seqIndex_neg (by lia) h1,e],by lia,h1,by lia⟩
    · rw [if_neg h1] at h;cases h
theorem atI_get {α:Type} {xs:List α} {i:Int} {v:α} (h:atI xs i=some v):∃ j,seqIndex? i xs.length=some j∧xs[j]? = some v∧j<xs.length ∧ -(xs.length:Int)≤i∧i<xs.length:=by
  unfold atI at h
  cases e:ixN xs.length i with
  | none=>rw [e] at h;cases h
  | some j =>
    rw [e] at h
    obtain⟨h1,h2,h3,h4⟩:=ixN_seq e
    exact⟨j,h1,h,h2,h3,h4⟩
theorem atI_nat {α:Type} {xs:List α} {j:Nat} {v:α} (h:xs[j]? = some v):atI xs (j:Int)=some v:=by
  have hj:j<xs.length:=(List.getElem?_eq_some_iff.mp h).1
  have e:ixN xs.length (j:Int)=some j:=by
    unfold ixN
    rw [if_pos (by lia),if_pos (by lia)];simp
  unfold atI;rw [e];exact h
def PlainIx (b:Expr):Prop:=∀ o i,subscripted b false o i=operate [o,i] (getItem o i)
def IxR (X:Cx) (r:R2):Prop :=
  ∀ (value slice:Expr) (pins:List (Addr×Obj)) (s:Shared) (σ:St) (H:Hp) (x y:V) (v u:Value) (Q:VK),Inv X pins σ H s→RelV x v→RelV y u→r x y H Q →
    subscripted slice false v u=operate [v,u] (getItem v u)→wpAny (model X.prog X.w) X.A (subscriptTail value slice v u) (EP X pins σ Q) X.xe s
def MtR (X:Cx) (id:String) (r:V→List V→Hp→VK→Prop):Prop :=
  ∀ (pins:List (Addr×Obj)) (s:Shared) (σ:St) (H:Hp) (x:V) (xs:List V) (v:Value) (us:List Value) (Q:VK),Inv X pins σ H s→RelV x v→Vals xs us→r x xs H Q →
    wpAny (model X.prog X.w) X.A (call (.builtin id) (v::us)) (EP X pins σ Q) X.xe s
section
variable {X:Cx} {a b:Expr} {ta tb:TE} {pos:Pos}
theorem IxR.or {r r' : R2} (h:IxR X r) (h' : IxR X r'):IxR X (fun x y H Q=>r x y H Q∨r' x y H Q):=by
  intro value slice pins s σ H x y v u Q I rx ry q hs
  rcases q with q | q
  · exact h value slice pins s σ H x y v u Q I rx ry q hs
  · exact h' value slice pins s σ H x y v u Q I rx ry q hs
theorem MtR.or {id:String} {r r' : V→List V→Hp→VK→Prop} (h:MtR X id r) (h' : MtR X id r'):MtR X id (fun x xs H Q=>r x xs H Q∨r' x xs H Q):=by
  intro pins s σ H x xs v us Q I rx rs q
  rcases q with q | q
  · exact h pins s σ H x xs v us Q I rx rs q
  · exact h' pins s σ H x xs v us Q I rx rs q
theorem pe_ix {r:R2} (hr:IxR X r) (ha:PE X a ta) (hb:PE X b tb) (hs:PlainIx b):PE X (.Subscript a b pos) (tOp r ta tb):=by
  intro pins s σ H Q I h
  exact Subscript_ (binT ha hb I h fun v u s2 x y H2 I2 rx ry q=>hr a b pins s2 σ H2 x y v u Q I2 rx ry q (hs _ _))
def rIxL (K:PySem.W.Frag):R2:=fun x y H Q=>∃ p xs i v,x = .ref p∧y = .int i∧SqL K H p xs∧atI xs i=some v∧Q v H
def rIxT (K:PySem.W.Frag):R2:=fun x y H Q=>∃ p xs i v,x = .ref p∧y = .int i∧SqT K H p xs∧atI xs i=some v∧Q v H
def rIxS:R2:=fun x y H Q=>∃ z i c,x = .str z∧y = .int i∧z.length≤sizeLine∧atI z.cps.toList i=some c∧Q (.str ⟨#[c]⟩) H
theorem ix_list:IxR X (rIxL X.K):=by
  intro value slice pins s σ H x y v u Q I rx ry h hs
  obtain⟨p,xs,i,z,rfl,rfl,hq,he,q⟩:=h
  cases rx
  obtain⟨t,rfl⟩:=ry
  obtain⟨its,r,pl,hz⟩:=I.list hq
  obtain⟨j,h1,h2,h3,h4,h5⟩:=atI_get he
  obtain⟨w,ew,rw'⟩:=r.get h2
  have hl:=r.length
  have hn:=line63
  have fin:EP X pins σ Q w s:=⟨z,H,I,rw',q⟩
  by_cases h0:0≤i
  · have hj:i.toNat=j:=by
      rw [seqIndex_of h0 h5] at h1
      exact Option.some.inj h1
    exact item_listR pl.isList h0 (by lia) (by rw [hj];simpa using ew) fin hs
  · have hj:(i+(its.toArray.size:Int)).toNat=j:=by
      rw [seqIndex_neg (by lia) h4] at h1
      rw [List.size_toArray,← hl]
      exact Option.some.inj h1
    exact subscriptTail_builtinR (x:=w) pl.isList.typeIs slot_list_getitem.lookup
      (wpAny_getItem_list_neg (Q:=fun r s' => r=w∧EP X pins σ Q r s') pl.isList (by lia) (by rw [List.size_toArray] <;> lia) (by lia) (by rw [hj];simpa using ew) ⟨rfl,fin⟩) hs
theorem ix_tup:IxR X (rIxT X.K):=by
  intro value slice pins s σ H x y v u Q I rx ry h hs
  obtain⟨p,xs,i,z,rfl,rfl,hq,he,q⟩:=h
  cases rx
  obtain⟨t,rfl⟩:=ry
  obtain⟨its,r,pl,hz⟩:=I.tuple hq
  obtain⟨j,h1,h2,h3,h4,h5⟩:=atI_get he
  obtain⟨w,ew,rw'⟩:=r.get h2
  have hl:=r.length
  have hn:=line63
  have fin:EP X pins σ Q w s:=⟨z,H,I,rw',q⟩
  exact subscriptTail_builtinR (x:=w) pl.typeIs slot_tuple_getitem.lookup
    (getItem_tuple (j:=j) (Q:=fun r s' => r=w∧EP X pins σ Q r s') pl (by lia) (by lia) (by rw [List.size_toArray,← hl];exact h1) (by simpa using ew) ⟨rfl,fin⟩) hs
theorem ix_str:IxR X rIxS:=by
  intro value slice pins s σ H x y v u Q I rx ry h hs
  obtain⟨z,i,c,rfl,rfl,hz,he,q⟩:=h
  obtain⟨t,rfl⟩:=rx
  obtain⟨t',rfl⟩:=ry
  obtain⟨j,h1,h2,h3,h4,h5⟩:=atI_get he
  have hl:z.cps.toList.length=z.length:=by simp [Str.length]
  rw [hl] at h1 h4 h5
  have hn:=line63
  exact tail_any (typeIs_str s z t) slot_str_getitem.lookup (getItem_str (c:=c) (by
    have e1:decide (i < -(2 ^ 63:Int))=false:=decide_eq_false (by lia)
    have e2:decide (i≥2 ^ 63)=false:=decide_eq_false (by lia)
    rw [e1,e2,Bool.or_false]) (by rw [h1];simpa using h2) ⟨.str ⟨#[c]⟩,H,I.tok _,⟨_,rfl⟩,q⟩) hs
def rIx (K:PySem.W.Frag):R2:=fun x y H Q=>rIxL K x y H Q∨rIxT K x y H Q∨rIxS x y H Q
theorem ix_seq:IxR X (rIx X.K):=ix_list.or (ix_tup.or ix_str)
theorem mapSeq_set (its:List Value) (n j:Nat) (u:Value):Obj.mapSeq (·.setIfInBounds j u) { cls := .type "list",data := .seq its.toArray n } = { cls := .type "list",data := .seq (its.set j u).toArray n }:=by
  simp [Obj.mapSeq]
theorem Inv.lst {pins:List (Addr×Obj)} {σ:St} {H:Hp} {s:Shared} {p:Addr} {xs:List V} (I:Inv X pins σ H s) (h:H p=some (.lst xs)) :
    ∃ (its:List Value) (n:Nat),Vals xs its∧s.heap.get? p=some { cls := .type "list",data := .seq its.toArray n }∧xs.length≤sizeLine:=by
  obtain⟨z,its,n,r,e⟩:=I.hok p _ h
  exact⟨its,n,r,e,z⟩
theorem Inv.lstUpd {pins:List (Addr×Obj)} {σ:St} {H:Hp} {s:Shared} {p:Addr} {xs ys:List V} {its its' : List Value} {n n' : Nat} {f:Obj→Obj} (I:Inv X pins σ H s) (h:H p=some (.lst xs))
    (ho:s.heap.get? p=some { cls := .type "list",data := .seq its.toArray n }) (hf:f { cls := .type "list",data := .seq its.toArray n } = { cls := .type "list",data := .seq its'.toArray n' }) (r:Vals ys its') (hz:ys.length≤sizeLine) (t:Nat) :
    Inv X pins σ (upd H p (.lst ys)) { s with heap:=s.heap.update p f,toks:=t }:=by
  have e:(s.heap.update p f).get? p=some { cls := .type "list",data := .seq its'.toArray n' }:=by
    rw [Heap.get?_update_self f ho (by rw [hf] <;> rfl),hf]
  refine I.write (x:=p) (e:=p) (by rw [h];trivial) (.inl rfl) (fun b u hb q=>(Heap.get?_update_other _ _ (Ne.symm hb)).trans q) ⟨_,e⟩ ?_
  exact⟨hz,its',n',r,e⟩
def rSetL:V→V→V→Hp→(Hp→Prop)→Prop:=fun o i v H Q=>∃ p xs k j,o = .ref p∧i = .int k∧H p=some (.lst xs)∧ixN xs.length k=some j∧Q (upd H p (.lst (xs.set j v)))
theorem set_list:PSet X rSetL:=by
  intro pins s σ H o i v ov iv u Q I ro ri rv h
  obtain⟨p,xs,k,j,rfl,rfl,hp,hj,q⟩:=h
  cases ro
  obtain⟨t,rfl⟩:=ri
  obtain⟨its,n,r,ho,hz⟩:=I.lst hp
  obtain⟨h1,h2,h3,h4⟩:=ixN_seq hj
  have hl:=r.length
  have hn:=line63
  have I' : Inv X pins σ (upd H p (.lst (xs.set j v))) { s with heap:=s.heap.update p (Obj.mapSeq (·.setIfInBounds j u)) } :=
    I.lstUpd hp ho (mapSeq_set its n j u) (r.set rv j) (by rw [List.length_set];exact hz) s.toks
  by_cases h0:0≤k
  · have hk:k.toNat=j:=by
      rw [seqIndex_of h0 h4] at h1
      exact Option.some.inj h1
    exact PySem.W.ki_setAt ho h0 (by lia) (by rw [List.size_toArray,← hl];exact h4) (by rw [hk];exact⟨_,I',q⟩)
  · have hk:(k+(its.toArray.size:Int)).toNat=j:=by
      rw [seqIndex_neg (by lia) h3] at h1
      rw [List.size_toArray,← hl]
      exact Option.some.inj h1
    exact PySem.W.ki_setBack ho (by lia) (by rw [List.size_toArray,← hl];exact h3) (by lia) (by rw [hk];exact⟨_,I',q⟩)
theorem slice_bounds (lo hi:Option Int) (n:Nat):(sliceBounds lo hi none n).1=((HT.sIx n 0 lo:Nat):Int)∧(sliceBounds lo hi none n).2.1=((HT.sIx n n hi:Nat):Int)∧(sliceBounds lo hi none n).2.2=1:=by
  refine⟨?_,?_,rfl⟩
  · cases lo with
    | none=>simp [sliceBounds,HT.sIx]
    | some i =>
      simp only [sliceBounds,HT.sIx,Option.getD_none,show (1:Int)>0 by decide,if_true]
      by_cases h:i<0
      · simp only [h,if_true] <;> lia
      · simp only [h,if_false] <;> lia
  · cases hi with
    | none=>simp [sliceBounds,HT.sIx]
    | some i =>
      simp only [sliceBounds,HT.sIx,Option.getD_none,show (1:Int)>0 by decide,if_true]
      by_cases h:i<0
      · simp only [h,if_true] <;> lia
      · simp only [h,if_false] <;> lia
theorem slicePick_cut (its:List Value) (lo hi:Option Int):slicePick its.toArray lo hi none=((its.drop (HT.sIx its.length 0 lo)).take (HT.sIx its.length its.length hi - HT.sIx its.length 0 lo)).toArray:=by
  obtain⟨h1,h2,h3⟩:=slice_bounds lo hi its.toArray.size
  unfold slicePick
  rw [h1,h2,h3]
  simp only [sliceRange_one,pick_run,List.size_toArray] <;> rfl
def rSlL (K:PySem.W.Frag):V→Option Int→Option Int→Hp→VK→Prop:=fun x lo hi H Q=>∃ a xs,x = .ref a∧SqL K H a xs∧∀ p,H p=none→Q (.ref p) (upd H p (.lst (cutV xs lo hi)))
theorem sl_list:SlR X (rSlL X.K):=by
  intro pins s σ H x v vl vu lo hi sl Q I rx hs pl pu h
  obtain⟨a,xs,rfl,hx,q⟩:=h
  cases rx
  obtain⟨its,r,ht,hz⟩:=I.list hx
  have hlen:=r.length
  refine⟨"list",_,slot_list_getitem.lookup,ht.isList.typeIs,?_⟩
  refine wpAny_getItem_list_slice ht.isList hs pl pu .none (by simp) ?_ (by rw [List.size_toArray] <;> lia)
  rw [slicePick_cut,← hlen]
  refine⟨.ref s.heap.objs.size,_,I.laid (t' := s.toks) (o := .lst (cutV xs lo hi)) (fun b ob q=>Heap.get?_push_of_some _ q) (Nat.le_refl _) ?_,rfl,q _ (I.hok.fresh (Nat.le_refl _))⟩
  exact⟨Nat.le_trans (cutV_length xs lo hi) hz,_,0,(r.drop (HT.sIx xs.length 0 lo)).take (HT.sIx xs.length xs.length hi - HT.sIx xs.length 0 lo),Heap.get?_push_size _ rfl⟩
def flatV:V→Bool
  | .non=>true
  | .bl _=>true
  | .int _=>true
  | .str _=>true
  | _=>false
def eqV:V→V→Bool
  | .non,.non=>true
  | .bl a,.bl b=>a==b
  | .bl a,.int b=>(if a then 1 else 0)==b
  | .int a,.bl b=>a==(if b then 1 else 0)
  | .int a,.int b=>a==b
  | .str a,.str b=>a==b
  | _,_=>false
theorem eqAt_V {A:Around} {s:Shared} {y x:V} {u v:Value} (ry:RelV y u) (rx:RelV x v) (fy:flatV y=true) (fx:flatV x=true):SeqAt.EqAt A s u v (eqV y x):=by
  cases y with
  | non =>
    cases ry
    cases x with
    | non=>cases rx;exact SeqAt.EqAt.same _
    | bl b=>cases rx;exact SeqAt.EqAt.none_bool b
    | int b=>obtain⟨t,rfl⟩:=rx;exact SeqAt.EqAt.none_int b t
    | str b=>obtain⟨t,rfl⟩:=rx;exact SeqAt.EqAt.none_str b t
    | _=>exact absurd (show false=true from fx) Bool.false_ne_true
  | bl a =>
    cases ry
    cases x with
    | non=>cases rx;exact SeqAt.EqAt.bool_none a
    | bl b=>cases rx;exact SeqAt.EqAt.bool_bool a b
    | int b=>obtain⟨t,rfl⟩:=rx;exact SeqAt.EqAt.bool_int a b t
    | str b=>obtain⟨t,rfl⟩:=rx;exact SeqAt.EqAt.bool_str a b t
    | _=>exact absurd (show false=true from fx) Bool.false_ne_true
  | int a =>
    obtain⟨t',rfl⟩:=ry
    cases x with
    | non=>cases rx;exact SeqAt.EqAt.int_none a t'
    | bl b=>cases rx;exact SeqAt.EqAt.int_bool a t' b
    | int b=>obtain⟨t,rfl⟩:=rx;exact SeqAt.EqAt.int_int a t' b t
    | str b=>obtain⟨t,rfl⟩:=rx;exact SeqAt.EqAt.int_str a t' b t
    | _=>exact absurd (show false=true from fx) Bool.false_ne_true
  | str a =>
    obtain⟨t',rfl⟩:=ry
    cases x with
    | non=>cases rx;exact SeqAt.EqAt.str_none a t'
    | bl b=>cases rx;exact SeqAt.EqAt.str_bool a t' b
    | int b=>obtain⟨t,rfl⟩:=rx;exact SeqAt.EqAt.str_int a t' b t
    | str b=>obtain⟨t,rfl⟩:=rx;exact SeqAt.EqAt.str_str a t' b t
    | _=>exact absurd (show false=true from fx) Bool.false_ne_true
  | _=>exact absurd (show false=true from fy) Bool.false_ne_true
def eqU (x:V) (u:Value):Bool:=match u with
  | .none=>eqV .non x
  | .bool b=>eqV (.bl b) x
  | .int i _=>eqV (.int i) x
  | .str z _=>eqV (.str z) x
  | _=>false
theorem eqU_of {x y:V} {u:Value} (r:RelV y u) (f:flatV y=true):eqU x u=eqV y x:=by
  cases y with
  | non=>cases r;rfl
  | bl b=>cases r;rfl
  | int i=>obtain⟨t,rfl⟩:=r;rfl
  | str z=>obtain⟨t,rfl⟩:=r;rfl
  | _=>exact absurd (show false=true from f) Bool.false_ne_true
theorem any_eqU {x:V}:∀ {xs:List V} {us:List Value},Vals xs us→xs.all flatV=true→us.any (eqU x)=xs.any fun y=>eqV y x
  | _,_,.nil,_=>rfl
  | y::xs,u::us,.cons r t,f=>by
    rw [List.all_cons,Bool.and_eq_true] at f
    rw [List.any_cons,List.any_cons,eqU_of r f.1,any_eqU t f.2]
theorem mem_eqAt {A:Around} {s:Shared} {x:V} {v:Value} (rx:RelV x v) (fx:flatV x=true):∀ {xs:List V} {us:List Value},Vals xs us→xs.all flatV=true→∀ u∈us,SeqAt.EqAt A s u v (eqU x u)
  | _,_,.nil,_=>fun u hu=>by cases hu
  | y::xs,u::us,.cons r t,f=>fun u' hu=>by
    rw [List.all_cons,Bool.and_eq_true] at f
    rcases List.mem_cons.mp hu with rfl | hu
    · rw [eqU_of r f.1];exact eqAt_V r rx f.1 fx
    · exact mem_eqAt rx fx t f.2 u' hu
def inV (x:V) (xs:List V):Bool:=xs.any fun y=>eqV y x
def rIn (K:PySem.W.Frag) (neg:Bool):R2:=fun x y H Q=>∃ p xs,y = .ref p∧(SqL K H p xs∨SqT K H p xs)∧flatV x=true∧xs.all flatV=true∧Q (.bl (if neg then !inV x xs else inV x xs)) H
theorem op_in_seq:OpR X (compareOp .In) (rIn X.K false):=by
  intro pins s σ H x y v u Q I rx ry h
  obtain⟨p,xs,rfl,hq,fx,fs,q⟩:=h
  cases ry
  rcases hq with hq | hq
  · obtain⟨its,r,pl,hz⟩:=I.list hq
    refine SeqAt.in_listAt (eqU x) pl.isList (fun w hw=>mem_eqAt rx fx r fs w (by simpa using hw)) ⟨.bl _,H,I,rfl,?_⟩
    rw [show its.toArray.any (eqU x)=its.any (eqU x) by simp,any_eqU r fs]
    exact q
  · obtain⟨its,r,pl,hz⟩:=I.tuple hq
    refine SeqAt.in_tupleAt (eqU x) pl (fun w hw=>mem_eqAt rx fx r fs w (by simpa using hw)) ⟨.bl _,H,I,rfl,?_⟩
    rw [show its.toArray.any (eqU x)=its.any (eqU x) by simp,any_eqU r fs]
    exact q
theorem op_notIn_seq:OpR X (compareOp .NotIn) (rIn X.K true):=by
  intro pins s σ H x y v u Q I rx ry h
  obtain⟨p,xs,rfl,hq,fx,fs,q⟩:=h
  cases ry
  rcases hq with hq | hq
  · obtain⟨its,r,pl,hz⟩:=I.list hq
    refine SeqAt.notIn_listAt (eqU x) pl.isList (fun w hw=>mem_eqAt rx fx r fs w (by simpa using hw)) ⟨.bl _,H,I,rfl,?_⟩
    rw [show its.toArray.any (eqU x)=its.any (eqU x) by simp,any_eqU r fs]
    exact q
  · obtain⟨its,r,pl,hz⟩:=I.tuple hq
    refine SeqAt.notIn_tupleAt (eqU x) pl (fun w hw=>mem_eqAt rx fx r fs w (by simpa using hw)) ⟨.bl _,H,I,rfl,?_⟩
    rw [show its.toArray.any (eqU x)=its.any (eqU x) by simp,any_eqU r fs]
    exact q
theorem op_notIn_str:OpR X (compareOp .NotIn) (fun x y H Q=>∃ i j,x = .str i∧y = .str j∧Q (.bl (!(!(Builtin.Str.occurrences j i 0 j.length 1).isEmpty))) H):=by
  intro pins s σ H x y v u Q I rx ry h
  obtain⟨i,j,rfl,rfl,q⟩:=h
  obtain⟨t,rfl⟩:=rx
  obtain⟨t',rfl⟩:=ry
  exact notIn_str ⟨.bl _,H,I,rfl,q⟩
theorem CallR.or {f:Value} {r r' : List V→Hp→VK→Prop} (h:CallR X f r) (h' : CallR X f r'):CallR X f (fun xs H Q=>r xs H Q∨r' xs H Q):=by
  intro pins s σ H xs us Q I rs q
  rcases q with q | q
  · exact h pins s σ H xs us Q I rs q
  · exact h' pins s σ H xs us Q I rs q
theorem call_list_of:CallR X (.type "list") (fun xs H Q=>∃ p ys,xs = [.ref p]∧(SqL X.K H p ys∨SqT X.K H p ys)∧∀ l,H l=none→Q (.ref l) (upd H l (.lst ys))):=by
  intro pins s σ H xs us Q I r h
  obtain⟨p,ys,rfl,hq,q⟩:=h
  obtain⟨u,rfl,rx⟩:=vals1 r
  cases rx
  have fin:∀ (its:List Value),Vals ys its→ys.length≤sizeLine→∀ (h' : Heap) (c' : Nat),(∀ b o',s.heap.get? b=some o' → h'.get? b=some o') →
      h'.get? s.heap.objs.size=some { cls := .type "list",dict:=none,data := .seq its.toArray c',slots := #[] }→EP X pins σ Q (.ref s.heap.objs.size) { s with heap:=h' }:=fun its r' hz h' c' kp e =>
    ⟨.ref s.heap.objs.size,_,I.laid (t' := s.toks) kp (Nat.le_refl _) (show ObjOk X.prog X.w _ h' _ (.lst ys) from ⟨hz,its,c',r',e⟩),rfl,q _ (I.hok.fresh (Nat.le_refl _))⟩
  rcases hq with hq | hq
  · obtain⟨its,r',pl,hz⟩:=I.list hq
    have hlen:=r'.length
    obtain⟨o,ho,hc,n,hd⟩:=pl.isList
    exact call_list_seq p (.inl rfl) ho hc hd (fun h' c' kp e=>fin its r' hz h' c' kp e) (by simp only [List.size_toArray] <;> lia)
  · obtain⟨its,r',pl,hz⟩:=I.tuple hq
    have hlen:=r'.length
    obtain⟨o,ho,hc,n,hd⟩:=pl
    exact call_list_seq p (.inr rfl) ho hc hd (fun h' c' kp e=>fin its r' hz h' c' kp e) (by simp only [List.size_toArray] <;> lia)
def tyV (K:PySem.W.Frag) (T:String) (x:V) (H:Hp):Prop:=match x with
  | .str _=>T = "str"
  | .int _=>T = "int"
  | .ref p=>(T = "list" ∧ ∃ xs,SqL K H p xs)∨(T = "tuple" ∧ ∃ o,K.lookup p=some o∧o.cls = .type "tuple" ∧ o.dict=none) ∨
      (T = "dict" ∧ ((∃ kvs,H p=some (.dK kvs))∨∃ kvs,H p=some (.dT kvs)))∨(T = "set" ∧ ∃ S n,H p=some (.set S n))
  | _=>False
theorem tyV_is {pins:List (Addr×Obj)} {σ:St} {H:Hp} {s:Shared} {T:String} {x:V} {v:Value} (I:Inv X pins σ H s) (r:RelV x v) (ty:tyV X.K T x H) :
    s.TypeIs v T∧∀ a,v = .ref a→∃ ob,s.heap.get? a=some ob∧ob.dict=none:=by
  cases x with
  | str z =>
    obtain⟨t,rfl⟩:=r
    cases (show T = "str" from ty)
    exact⟨typeIs_str s z t,fun _ e=>nomatch e⟩
  | int i =>
    obtain⟨t,rfl⟩:=r
    cases (show T = "int" from ty)
    exact⟨typeIs_int s i t,fun _ e=>nomatch e⟩
  | ref p =>
    cases r
    rcases ty with ⟨rfl,xs,hq⟩ | ⟨rfl,o,hk,hc,hd⟩ | ⟨rfl,hk⟩ | ⟨rfl,S,n,hk⟩
    · obtain⟨its,_,pl,_⟩:=I.list hq
      refine⟨pl.isList.typeIs,fun a e => ?_⟩
      cases e
      obtain⟨o,n,e,c,hd,_⟩:=pl
      exact⟨o,e,hd⟩
    · refine⟨⟨o,I.kIn p o hk,hc⟩,fun a e => ?_⟩
      cases e
      exact⟨o,I.kIn _ o hk,hd⟩
    · have z:∃ o,s.heap.get? p=some o∧o.ExactDict:=by
        rcases hk with ⟨kvs,hk⟩ | ⟨kvs,hk⟩
        · obtain⟨_,_,_,_,o,_,_,e,ex,_⟩:=I.hok p _ hk
          exact⟨o,e,ex⟩
        · obtain⟨_,_,_,_,o,_,_,e,ex,_⟩:=I.hok p _ hk
          exact⟨o,e,ex⟩
      obtain⟨o,e,ex⟩:=z
      refine⟨⟨o,e,ex.1⟩,fun a e2 => ?_⟩
      cases e2
      exact⟨o,e,ex.2.1⟩
    · obtain⟨o,_,_,_,e,ex,_⟩:=I.hok p _ hk
      refine⟨⟨o,e,ex.1⟩,fun a e2 => ?_⟩
      cases e2
      exact⟨o,e,ex.2.1⟩
  | _=>exact False.elim ty
def tBM0 (K:PySem.W.Frag) (T:String) (r:V→List V→Hp→VK→Prop) (to:TE):TE:=fun σ H Q=>to σ H fun x H1=>tyV K T x H1∧r x [] H1 Q
def tBM (K:PySem.W.Frag) (T:String) (r:V→List V→Hp→VK→Prop) (to:TE) (t:TA):TE:=fun σ H Q=>to σ H fun x H1=>tyV K T x H1∧t σ H1 fun xs H2=>r x xs H2 Q
variable {o e:Expr} {es:List Expr} {to:TE} {t:TA} {name:Str} {apos cpos:Pos} {T id:String} {r:V→List V→Hp→VK→Prop}
theorem pe_bm0 (pa:PlainAttrs T) (slot:Slot T name id) (hty:typeOf (.builtin id)=pure (.type "method_descriptor")) (hm:MtR X id r) (ho:PE X o to)
    (hbase:attributeBase o name X.env (eval o X.env)=eval o X.env:=by rfl) (hline:(apos.endLine==cpos.line)=true:=by rfl):PE X (.Call (.Attribute o name apos) [] [] cpos) (tBM0 X.K T r to):=by
  intro pins s σ H Q I h
  refine wpAny_Call_method0_late hbase hline (thn (ho pins s σ H _ I h) fun v s1 ⟨x,H1,I1,r1,ty,q1⟩ => ?_)
  obtain⟨h1,h2⟩:=tyV_is I1 r1 ty
  exact⟨T,id,pa,slot,hty,h1,h2,Calls.callWith_builtin rfl (PySem.evalArgs_none (hm pins s1 σ H1 x [] v [] Q I1 r1 .nil q1))⟩
theorem pe_bm (pa:PlainAttrs T) (slot:Slot T name id) (hty:typeOf (.builtin id)=pure (.type "method_descriptor")) (hm:MtR X id r) (ho:PE X o to) (ha:PA X (e::es) t)
    (hbase:attributeBase o name X.env (eval o X.env)=eval o X.env:=by rfl)
    (hfew:((backTo cpos (starEach (e::es) X.env)).all (fun x => !x.1)&&(backToKw cpos (keywordEach [] X.env)).all (fun x=>x.1.isSome)
      && decide ((e::es).length+([]:List Keyword).length+(if ([]:List Keyword).isEmpty then 0 else 1)<30))=true:=by rfl)
    (hline:(apos.endLine==cpos.line)=true:=by rfl) (hs:starEach (e::es) X.env=(false,eval e X.env)::starEach es X.env:=by rfl) (hplain:(backTo cpos (starEach es X.env)).any (·.1)=false:=by rfl) :
    PE X (.Call (.Attribute o name apos) (e::es) [] cpos) (tBM X.K T r to t):=by
  intro pins s σ H Q I h
  refine wpAny_Call_method_late hbase hfew hline rfl (thn (ho pins s σ H _ I h) fun v s1 ⟨x,H1,I1,r1,ty,q1⟩ => ?_)
  obtain⟨h1,h2⟩:=tyV_is I1 r1 ty
  refine⟨T,id,pa,slot,hty,h1,h2,?_⟩
  have hA:=ha cpos pins s1 σ H1 _ I1 q1
  rw [hs] at hA ⊢
  refine Calls.callWith_builtin (by show (false||(backTo cpos (starEach es X.env)).any (·.1))=false;rw [hplain] <;> rfl) (Calls.evalArgs_plain ?_)
  exact thn hA fun us s2 ⟨vs,H2,I2,r2,q2⟩=>hm pins s2 σ H2 x vs v us Q I2 r1 r2 q2
end
end L2
namespace L2
open PySem PySem.Spec PyProof.Rows
def MtM (X:Cx) (id:String) (r:V→List V→Hp→VK→Prop):Prop :=
  ∀ (pins:List (Addr×Obj)) (s:Shared) (σ:St) (H:Hp) (x:V) (xs:List V) (v:Value) (us:List Value) (Q:VK),Inv X pins σ H s→RelV x v→Vals xs us→r x xs H Q →
    wpAny (model X.prog X.w) X.A (call (.builtin id) (v::us)) (EP X pins σ Q) X.xe s
theorem Vals.one:∀ {x:V} {us:List Value},Vals [x] us→∃ u,us = [u]∧RelV x u
  | _,_,.cons r .nil=>⟨_,rfl,r⟩
theorem Vals.two:∀ {x y:V} {us:List Value},Vals [x,y] us→∃ u v,us = [u,v]∧RelV x u∧RelV y v
  | _,_,_,.cons r (.cons q .nil)=>⟨_,_,rfl,r,q⟩
theorem Vals.zero:∀ {us:List Value},Vals [] us→us = []
  | _,.nil=>rfl
theorem Vals.dropLast {xs:List V} {us:List Value} (h:Vals xs us):Vals xs.dropLast us.dropLast:=by
  induction h with
  | nil=>exact .nil
  | cons r t ih =>
    cases t with
    | nil=>exact .nil
    | cons q t' => exact .cons r ih
theorem Vals.eraseIdx:∀ {xs:List V} {us:List Value} (i:Nat),Vals xs us→Vals (xs.eraseIdx i) (us.eraseIdx i)
  | _,_,_,.nil => .nil
  | _,_,0,.cons _ t=>t
  | _,_,i+1,.cons r t => .cons r (Vals.eraseIdx i t)
theorem Vals.rep {xs:List V} {us:List Value} (h:Vals xs us):∀ k:Nat,Vals (List.replicate k xs).flatten (List.replicate k us).flatten
  | 0 => .nil
  | k+1=>by
    rw [List.replicate_succ,List.replicate_succ,List.flatten_cons,List.flatten_cons]
    exact Vals.append h (Vals.rep h k)
theorem erase_last {α:Type} (l:List α):l.eraseIdx (l.length - 1)=l.dropLast:=by
  induction l with
  | nil=>rfl
  | cons a r ih =>
    cases r with
    | nil=>rfl
    | cons b r =>
      have e:(a::b::r).length - 1=((b::r).length - 1)+1:=by
        have h1:(a::b::r).length=r.length+2:=rfl
        have h2:(b::r).length=r.length+1:=rfl
        lia
      rw [e,List.eraseIdx_cons_succ,ih]
      all_goals rfl
theorem foldl_rep (its:List Value):∀ (k:Nat) (acc:List Value),
    List.foldl (fun x1 x2=>x1++x2) acc.toArray (List.replicate k its.toArray)=(acc++(List.replicate k its).flatten).toArray
  | 0,acc=>by simp
  | k+1,acc=>by
    have e:acc.toArray++its.toArray=(acc++its).toArray:=by simp
    have e2:(acc++its)++(List.replicate k its).flatten=acc++(List.replicate (k+1) its).flatten:=by
      rw [List.replicate_succ,List.flatten_cons,List.append_assoc]
    rw [← e2,← foldl_rep its k (acc++its),← e,List.replicate_succ,List.foldl_cons]
section
variable {X:Cx} {pins:List (Addr×Obj)} {σ:St} {H:Hp} {s:Shared} {l b:Addr} {xs ys zs:List V}
theorem Inv.lset {its its' : List Value} {n:Nat} {f:Array Value→Array Value} {t' : Nat} (I:Inv X pins σ H s) (hH:H l=some (.lst xs))
    (e:s.heap.get? l=some { cls := .type "list",data := .seq its.toArray n }) (hf:f its.toArray=its'.toArray) (hv:Vals ys its') (hz:ys.length≤sizeLine) :
    Inv X pins σ (upd H l (.lst ys)) { s with heap:=s.heap.update l (Obj.mapSeq f),toks:=t' }:=by
  have q:=PySem.IsL.update e f
  rw [hf] at q
  refine I.write (x:=l) (e:=l) (by rw [hH];exact trivial) (.inl rfl) (fun b' u hb hu=>(Heap.get?_update_other s.heap (Obj.mapSeq f) (Ne.symm hb)).trans hu) ⟨_,q⟩ ?_
  exact⟨hz,its',_,hv,q⟩
theorem Inv.lnew {its:List Value} {t' : Nat} (I:Inv X pins σ H s) (hv:Vals ys its) (hz:ys.length≤sizeLine) :
    Inv X pins σ (upd H s.heap.objs.size (.lst ys)) { s with heap:=s.heap.push { cls := .type "list",data := .seq its.toArray },toks:=t' } :=
  I.laid (fun _ _ q=>Heap.get?_push_of_some _ q) (Nat.le_refl _) ⟨hz,its,0,hv,Heap.get?_push_size _ rfl⟩
theorem Inv.fresh (I:Inv X pins σ H s):H s.heap.objs.size=none:=I.hok.fresh (Nat.le_refl _)
theorem Inv.lstM (I:Inv X pins σ H s) (hH:H l=some (.lst xs)):xs.length≤sizeLine∧∃ (its:List Value) (n:Nat),Vals xs its∧xs.length=its.length∧s.heap.get? l=some { cls := .type "list",data := .seq its.toArray n }:=by
  obtain⟨z,its,n,r,e⟩:=I.hok l _ hH
  exact⟨z,its,n,r,r.length,e⟩
theorem notLongL {n:Nat} (h:n≤sizeLine):Builtin.List.listTooLong n=false:=by
  unfold Builtin.List.listTooLong
  exact decide_eq_false (by lia)
end
section
variable {X:Cx}
def rAppend:V→List V→Hp→VK→Prop:=fun x vs H Q=>∃ l xs y,x = .ref l∧vs = [y]∧H l=some (.lst xs)∧xs.length<sizeLine∧Q .non (upd H l (.lst (xs ++ [y])))
theorem mt_append:MtM X "list.append" rAppend:=by
  intro pins s σ H x vs v us Q I rx rv h
  obtain⟨l,xs,y,rfl,rfl,hH,hz,q⟩:=h
  cases rx
  obtain⟨u,rfl,ru⟩:=rv.one
  obtain⟨z,its,n,r,hl,e⟩:=I.lstM hH
  refine call_meets F.slot_list_append ⟨_,e,rfl⟩ F.entry_list_append (F.args_list_append_2 _ _) (PySem.list_append l its.toArray n u (by rw [List.size_toArray];lia)) ⟨e,?_⟩
  refine⟨.non,_,I.lset (its' := its ++ [u]) hH e (by simp) (r.append (.cons ru .nil)) ?_,rfl,q⟩
  rw [List.length_append,List.length_singleton]
  lia
def rPop:V→List V→Hp→VK→Prop:=fun x vs H Q=>∃ l xs y,x = .ref l∧vs = []∧H l=some (.lst xs)∧xs[xs.length - 1]? = some y∧Q y (upd H l (.lst xs.dropLast))
theorem mt_pop:MtM X "list.pop" rPop:=by
  intro pins s σ H x vs v us Q I rx rv h
  obtain⟨l,xs,y,rfl,rfl,hH,hy,q⟩:=h
  cases rx
  have hus:=rv.zero
  subst hus
  obtain⟨z,its,n,r,hl,e⟩:=I.lstM hH
  obtain⟨u,hu,ru⟩:=r.get hy
  have hy' : its.toArray[its.toArray.size - 1]? = some u:=by
    show its.toArray[its.length - 1]? = some u
    rw [← Array.getElem?_toList,← hl]
    exact hu
  refine call_meets F.slot_list_pop ⟨_,e,rfl⟩ F.entry_list_pop (F.args_list_pop_1 _) (MeetsSeq.list_pop_last l its.toArray n u hy' (by rw [List.size_toArray];lia)) ⟨e,?_⟩
  refine⟨y,_,I.lset (its' := its.dropLast) hH e ?_ r.dropLast ?_,ru,q⟩
  · show its.toArray.eraseIdxIfInBounds (its.toArray.size - 1)=its.dropLast.toArray
    rw [List.size_toArray,List.eraseIdxIfInBounds_toArray,erase_last]
  · rw [List.length_dropLast]
    lia
def rCat:R2:=fun x y H Q=>∃ l b xs zs,x = .ref l∧y = .ref b∧H l=some (.lst xs)∧H b=some (.lst zs)∧xs.length+zs.length≤sizeLine∧∀ p,H p=none→Q (.ref p) (upd H p (.lst (xs++zs)))
theorem op_cat:OpR X (binaryOp .Add) rCat:=by
  intro pins s σ H x y v u Q I rx ry h
  obtain⟨l,b,xs,zs,rfl,rfl,hH,hB,hz,q⟩:=h
  cases rx
  cases ry
  obtain⟨z,its,n,r,hl,e⟩:=I.lstM hH
  obtain⟨z2,its2,n2,r2,hl2,e2⟩:=I.lstM hB
  refine PySem.P.add_list e e2 ?_ (by rw [List.size_toArray,List.size_toArray];lia)
  have ea:its.toArray++its2.toArray=(its++its2).toArray:=by simp
  rw [ea]
  exact⟨.ref _,_,I.lnew (t' := s.toks) (r.append r2) (by rw [List.length_append];lia),rfl,q _ I.fresh⟩
def rRep:R2:=fun x y H Q=>∃ l k xs,x = .ref l∧y = .int k∧H l=some (.lst xs) ∧ -(2 ^ 63)≤k∧k<2 ^ 63∧xs.length * k.toNat≤sizeLine ∧
  ∀ p,H p=none→Q (.ref p) (upd H p (.lst (List.replicate k.toNat xs).flatten))
theorem len_rep {α:Type} (xs:List α) (k:Nat):(List.replicate k xs).flatten.length=k * xs.length:=by
  induction k with
  | zero=>simp
  | succ k ih=>rw [List.replicate_succ,List.flatten_cons,List.length_append,ih,Nat.succ_mul,Nat.add_comm]
theorem op_rep:OpR X (binaryOp .Mult) rRep:=by
  intro pins s σ H x y v u Q I rx ry h
  obtain⟨l,k,xs,rfl,rfl,hH,h1,h2,hz,q⟩:=h
  cases rx
  obtain⟨t,rfl⟩:=ry
  obtain⟨z,its,n,r,hl,e⟩:=I.lstM hH
  have hlen:its.toArray.size * k.toNat≤sizeLine:=by rw [List.size_toArray,← hl];exact hz
  have hcap:¬ its.toArray.size * k.toNat>(2 ^ 63 - 1) / 8:=by
    have:(sizeLine:Nat)≤(2 ^ 63 - 1) / 8:=by decide
    lia
  have hfit:¬ (!Builtin.List.listFitsIndex k)=true:=by
    rw [fitsIndex_both h1 h2]
    exact Bool.false_ne_true
  have hlong:¬ Builtin.List.listTooLong (its.toArray.size * k.toNat)=true:=by
    rw [notLongL hlen]
    exact Bool.false_ne_true
  have hnew:List.foldl (fun x1 x2=>x1++x2) #[] (List.replicate (if its.toArray.isEmpty=true then 0 else k.toNat) its.toArray)=(List.replicate k.toNat its).flatten.toArray:=by
    have f0:∀ m:Nat,List.foldl (fun x1 x2=>x1++x2) #[] (List.replicate m its.toArray)=(List.replicate m its).flatten.toArray:=fun m=>by
      have:=foldl_rep its m []
      rw [List.nil_append] at this
      exact this
    rw [f0]
    cases its with
    | nil=>simp
    | cons a r' => rw [if_neg (by simp)]
  refine wpAny_binaryOp_repeat_ref (T := "list") (U := "int") (by decide) ⟨_,e,rfl⟩ (fun s' => typeIs_int s' k t) noFill_list_mul F.fills_int_mul F.slot_int_rmul repeat_list F.slot_int_index.lookup
    (call_meets F.slot_int_rmul (typeIs_int s k t) F.entry_int_rmul (F.args_int_rmul_2 _ _) (int___rmul___int_list k t l its.toArray n)
      ⟨e,rfl,⟨_,e,rfl⟩,call_meets F.slot_list_mul ⟨_,e,rfl⟩ F.entry_list_mul (F.args_list_mul_2 _ _) (AutoListH.list___mul___list_int_3 l its.toArray n k t hfit hcap hlong) ⟨e,?_⟩⟩)
  rw [hnew]
  exact⟨.ref _,_,I.lnew (t' := s.toks) (r.rep k.toNat) (by rw [len_rep,Nat.mul_comm];exact hz),rfl,q _ I.fresh⟩
end
section
variable {prog:Program} {w:World} {A:Around} {E:Value→Shared→Prop} {s:Shared}
set_option maxRecDepth 100000 in
end
section
variable {X:Cx}
end
end L2
namespace Att
open PySem PySem.W PySem.Calls PyProof.Rows
theorem ints_of_wellAll {P:Params} {h:Heap}:∀ (ns:List Int) (vs:List Value),WellAll P h vs (ns.map WData.int)→IntsAre vs ns:=by
  intro ns
  induction ns with
  | nil =>
    intro vs w
    rw [List.map_nil] at w
    cases w
    exact .nil
  | cons n ns ih =>
    intro vs w
    rw [List.map_cons] at w
    cases w with
    | cons a b =>
      cases a
      exact .cons _ _ (ih _ b)
theorem script_of {l:OpenLaw} {n:Nat} (hn:l.most=some n) {P:Params} {h:Heap} {args:List WData} {vals:List Value}
    (hpre:l.row.toRowW.claim.pre args=true) (hwl:WellAll P h vals args) :
    ∃ a vs ns,vals = [Value.ref a]∧args = [WData.list (ns.map WData.int)]∧h.get? a=some { cls := .type "list",data := .seq vs.toArray }∧IntsAre vs ns∧ns.length≤n:=by
  have hsh:WShape.hasAll [] args [.list .int]=true:=(pre_splitW hpre).1
  have hc:l.pre.holds [] { args:=args }=true:=(pre_splitW hpre).2
  obtain⟨d,r,rfl,h1,h2⟩:=hasAllW_cons hsh
  obtain rfl:=hasAllW_nil h2
  obtain⟨xs,rfl,h3⟩:=hasW_list h1
  obtain⟨ns,rfl⟩:=items_int h3
  have hlen:ns.length≤n:=by
    unfold OpenLaw.pre at hc
    have h4:(WTm.not (.lt (.lit (.int (n:Int))) (.len (.arg 0)))).holds [] { args := [.list (ns.map .int)] }=true:=by
      have h4:=(holds_andW hc).1
      rw [hn] at h4
      exact h4
    have h5:=condW_of h4 (w_not (w_lt w_lit (w_len_list (w_arg rfl))))
    rw [List.length_map] at h5
    refine Nat.le_of_not_lt fun q => ?_
    have q' : (n:Int)<((ns.length:Nat):Int):=by lia
    first
      | (rw [decide_eq_true q'] at h5;exact absurd h5 (by decide))
      | (simp at h5;lia)
  cases hwl with
  | cons w1 w2 =>
    cases w2
    cases w1 with
    | list ho hall=>exact⟨_,_,ns,rfl,rfl,ho,ints_of_wellAll ns _ hall,hlen⟩
theorem post_true (l:OpenLaw) (args:List WData):l.row.toRowW.claim.post args (.bool true) args=true :=
  postW_of (r:=l.row.toRowW) (X:=(true==true))
    (show WShape.has [] (.bool true) .bool=true by first | rfl | decide | simp [WShape.has,WShape.arms,WShape.armsAll])
    (show (WTm.eq .res (.lit (.bool true))).value [] { args:=args,res:=some (.bool true),after:=args }=some (.bool (true==true)) from w_eq_bool (w_res rfl) w_lit) rfl
theorem attach_call {l:OpenLaw} {n:Nat} {q:Program} {loose:List Str} {XP:(Str→Option Value)→Heap→Prop} {YP:World→Heap→Prop} {d:DefRec}
    (hn:l.most=some n) (hdf:d.params.defaults = [])
    (call:∀ (w:World) (s₀ s₁:Shared) (mg mb:Str→Option Value) (fa:Addr) (o:Obj) (pm cd doc:Value) (a:Addr) (vs:List Value) (ns:List Int),
      Ground q loose [] XP w s₀ mg mb s₁.heap→YP w s₁.heap →
      s₁.heap.get? fa=some o→o.data = .func (docDef d.name d.params d.body d.scope pm cd doc)→s₁.heap.CodeRec cd d.name→mg d.name=some (.ref fa) →
      s₁.heap.get? a=some { cls := .type "list",data := .seq vs.toArray }→IntsAre vs ns→ns.length≤n→s₁.gens = #[] →
      codeAny (model l.prog w) callerA (.call (.ref fa) ⟨[.ref a],[]⟩) (fun r s' => r = .ok (.ret (.bool true))∧OldK s₁.heap s'.heap∧s'.os=s₁.os∧AllBare s'.gens) s₁) :
    WalkO q loose XP YP l.row.toRowW d [] (fun f vs=>PySem.call f vs):=by
  intro w s₀ s₁ mg mb G Y fa o pm cd doc dV kV ho hd hcd hD hmg hg args vals as hpre hlay hrd hwl hlo
  obtain rfl:dV = .none:=Dflts.none hD hdf
  obtain rfl:kV = .none:=Dflts.noKw hD
  obtain⟨a,vs,ns,rfl,rfl,hobj,hints,hlen⟩:=script_of hn hpre hwl
  refine enter_call (codeAny_mono (call w s₀ s₁ mg mb fa o pm cd doc a vs ns G Y ho (fd_plain hd) hcd hmg hobj hints hlen hg) fun r s' hq => ?_)
  obtain⟨rfl,h2,h3,h4⟩:=hq
  exact⟨.inl ⟨.bool true,.bool true,[],rfl,fun _=>rfl,.bool true,post_true l _,fun _=>⟨List.Pairwise.nil,fun _ hm=>(nomatch hm)⟩⟩,h2,h3,h4⟩
section
variable {prog:Program} {w:World} {A:Around} {E:Value→Shared→Prop} {s:Shared} {K:Frag}
end
end Att
namespace L2
open PySem PySem.Spec PyProof.Rows
theorem vals_ints:∀ {vs:List Value} {ns:List Int},IntsAre vs ns→Vals (ns.map V.int) vs
  | _,_,.nil => .nil
  | _,_,.cons n t h => .cons ⟨t,rfl⟩ (vals_ints h)
def Only (H:Hp):Prop:=∀ b,H b=none∨∃ o xs,H b=some (.frz o (.lst xs))
theorem law_call {P:Program} {w:World} {K:PySem.W.Frag} {mg mb:Str→Option Value} {CX:CXT} {k:Nat} {fa a:Addr} {fd:FuncData} {x:Str} {sp:Sp} {s₁:Shared} {vs:List Value} {ns:List Int}
    (KX:K.In s₁.heap) (hns:s₁.heap.Ns mainGlobals mg) (hb:s₁.heap.Ns builtinsNs mb) (hbb:∀ x:Str,x ≠ "__name__" → mb x=bootBuiltins x) (hlim:s₁.heap.NoLimit) (hg:s₁.gens = #[])
    (ha:s₁.heap.get? a=some { cls := .type "list",data := .seq vs.toArray }) (hi:IntsAre vs ns) (hl:ns.length≤sizeLine) (hr:Room k callerA)
    (F:∀ base:Heap,K.In base→base.Ns mainGlobals mg→FnOk P w K mg base CX k fa fd [x] sp) (hbind:∀ (s:Shared) (u:Value),BindsTo s fd ⟨[u],[]⟩ [(x,u)])
    (hsp:∀ H:Hp,Only H→SqL K H a (ns.map V.int)→sp [.ref a] H (fun v _=>v = .bl true) fun _ _ _=>False)
    (hCX:∀ H e s',CX [] H s₁ (fun _ _ _=>False) e s' → False) :
    codeAny (model P w) callerA (.call (.ref fa) ⟨[.ref a],[]⟩) (fun r s' => r = .ok (.ret (.bool true))∧OldK s₁.heap s'.heap∧s'.os=s₁.os∧AllBare s'.gens) s₁:=by
  have rv:=vals_ints hi
  have lenV:=hi.length
  have core:∀ H:Hp,Only H→SqL K H a (ns.map V.int)→HOk P w H s₁.heap→(∀ b,H b≠none→b=a)→(H a≠none→K.lookup a=none) →
      codeAny (model P w) callerA (.call (.ref fa) ⟨[.ref a],[]⟩) (fun r s' => r = .ok (.ret (.bool true))∧OldK s₁.heap s'.heap∧s'.os=s₁.os∧AllBare s'.gens) s₁:=by
    intro H hO hS hok hA hK
    have base_of:∀ {b:Addr} {o:Obj},s₁.heap.get? b=some o→H b=none→(hidT s₁.heap H).get? b=some o:=fun e n=>hidT_get e n
    have noA:∀ {b:Addr} {o:Obj} {es:Array DictEntry} {ep:Nat},s₁.heap.get? b=some o→o.data = .dict es ep→H b=none:=fun {b o es ep} e d=>by
      cases q:H b with
      | none=>rfl
      | some u =>
        have e' : b=a:=hA b (by rw [q];simp)
        subst e'
        rw [ha] at e;cases e
        have d' : Data.seq vs.toArray _=Data.dict es ep:=d
        cases d'
    have nsK:∀ {b:Addr} {m:Str→Option Value},s₁.heap.Ns b m→(hidT s₁.heap H).Ns b m:=fun {b m} ⟨o,es,ep,e,d,r⟩=>⟨o,es,ep,base_of e (noA e d),d,r⟩
    have hKb:K.In (hidT s₁.heap H):=fun b o e=>base_of (KX b o e) (by
      cases q:H b with
      | none=>rfl
      | some u =>
        have e' : b=a:=hA b (by rw [q];simp)
        subst e'
        rw [hK (by rw [q];simp)] at e;cases e)
    have hM:Mod K mg (hidT s₁.heap H):=⟨hKb,nsK hns,⟨mb,nsK hb,hbb⟩,let ⟨mc,h1,h2⟩:=hlim;⟨mc,nsK h1,h2⟩⟩
    have e0:Env0 P w K mg (hidT s₁.heap H) callerA [] s₁ H:=⟨rfl,hM,fun b o e=>of_hidT e,Nat.le_of_eq (hidT_size _ _),trivial,fun b hb=>absurd (show b∈([]:List Addr) from hb) (by simp),hok,.of_eq hg⟩
    refine codeAny_mono ((F _ hKb (nsK hns)).run callerA [] s₁ H ⟨[.ref a],[]⟩ [.ref a] [.ref a] _ _ hr e0 (hbind s₁ (.ref a)) (.cons rfl .nil) (hsp H hO hS)) fun r s' h => ?_
    cases r with
    | error e=>exact (hCX H e s' h).elim
    | ok fl =>
      cases fl with
      | next=>exact False.elim h
      | brk=>exact False.elim h
      | cont=>exact False.elim h
      | ret u =>
        obtain⟨v,H',os,bare,un,hok',r',q⟩:=h
        have q' : v = .bl true:=q
        subst q'
        obtain rfl:u=Value.bool true:=r'
        refine⟨rfl,OldK.of_keep fun b o e => ?_,os,bare⟩
        cases q:H b with
        | none=>exact un.keep b o e q (by intro z;exact absurd (show b∈([]:List Addr) from z) (by simp)) (by simp)
        | some u =>
          rcases hO b with z | ⟨ob,xs,z⟩
          · rw [q] at z;cases z
          · have z2:=un.frzs b ob _ z
            obtain⟨e1,_⟩:=hok b _ z
            obtain⟨e2,_⟩:=hok' b _ z2
            rw [e] at e1;cases e1
            exact e2
  cases hk:K.lookup a with
  | some o =>
    have e:=KX a o hk
    rw [ha] at e
    cases e
    refine core (fun _=>none) (fun _ => .inl rfl) (.inr ⟨_,vs.toArray,_,hk,rfl,rfl,rfl,by rw [List.size_toArray,lenV];exact hl,by simpa using rv⟩) (fun b u z=>by have z' : (none:Option HO)=some u:=z;cases z') (fun b z=>absurd rfl z) fun z=>absurd rfl z
  | none =>
    refine core (fun b=>if b=a then some (.frz { cls := .type "list",data := .seq vs.toArray } (.lst (ns.map V.int))) else none) (fun b => ?_) (.inl (.inr ⟨{ cls := .type "list",data := .seq vs.toArray },if_pos rfl⟩)) (fun b u z => ?_) (fun b z => ?_) fun _=>hk
    · by_cases hb:b=a
      · exact .inr ⟨_,_,if_pos hb⟩
      · exact .inl (if_neg hb)
    · by_cases hb:b=a
      · have z' := (if_pos hb).symm.trans z
        cases z'
        subst hb
        exact⟨ha,by rw [List.length_map];exact hl,vs,_,rv,ha⟩
      · have z' := (if_neg hb).symm.trans z
        cases z'
    · by_cases hb:b=a
      · exact hb
      · exact absurd (if_neg hb) z
end L2
namespace L2
open PySem PySem.Spec PyProof.Rows
theorem walk_of {l:PySem.W.OpenLaw} {n k:Nat} {q:Program} {loose:List Str} {XP:(Str→Option Value)→Heap→Prop} {YP:World→Heap→Prop} {d:DefRec} {K:Params→PySem.W.Frag} {CX:World→CXT} {sp:World→Sp} {x:Str}
    (hn:l.most=some n) (hn2:n≤sizeLine) (hdf:d.params.defaults = []) (hr:Room k callerA)
    (hY:∀ (w:World) (h:Heap),YP w h→(K w.params).In h)
    (F:∀ (w:World) (mg:Str→Option Value) (fa:Addr) (h:Heap),(K w.params).In h→h.Ns mainGlobals mg→mg d.name=some (.ref fa) →
      ∃ fd:FuncData,(∀ (s:Shared) (u:Value),BindsTo s fd ⟨[u],[]⟩ [(x,u)]) ∧
        ∀ base:Heap,(K w.params).In base→base.Ns mainGlobals mg→FnOk l.prog w (K w.params) mg base (CX w) k fa fd [x] (sp w))
    (hsp:∀ (w:World) (H:Hp) (a:Addr) (ns:List Int),ns.length≤n→Only H→SqL (K w.params) H a (ns.map V.int)→sp w [.ref a] H (fun v _=>v = .bl true) fun _ _ _=>False)
    (hCX:∀ (w:World) (H:Hp) (s:Shared) (e:Value) (s' : Shared),CX w [] H s (fun _ _ _=>False) e s' → False) :
    PySem.W.WalkO q loose XP YP l.row.toRowW d [] (fun f vs=>PySem.call f vs):=by
  refine Att.attach_call hn hdf fun w s₀ s₁ mg mb fa o pm cd doc a vs ns G Y ho hd hcd hmg hobj hints hlen hg => ?_
  have KX:=hY w _ Y
  obtain⟨fd,hb,hF⟩:=F w mg fa _ KX G.T.g hmg
  exact law_call KX G.T.g G.T.b G.T.builtins G.T.nolimit hg hobj hints (Nat.le_trans hlen hn2) hr hF hb (fun H hO hS=>hsp w H a ns hlen hO hS) fun H e s' => hCX w H s₁ e s'
end L2
namespace L2
open PySem PySem.Spec PyProof.Rows
def inClass (s:Stmt) (j:Nat):Stmt:=match s with
  | .ClassDef _ _ _ body _ _ _ _ _ _ _=>body.getD j (.Pass ⟨0,0,0,0⟩)
  | _ => .Pass ⟨0,0,0,0⟩
def defArgs (s:Stmt):Arguments:=match s with
  | .FunctionDef _ a _ _ _ _ _ _ _ _=>a
  | _ => { posonlyargs := [],args := [],vararg:=none,kwonlyargs := [],kw_defaults := [],kwarg:=none,defaults := [] }
def defBody (s:Stmt):List Stmt:=match s with
  | .FunctionDef _ _ b _ _ _ _ _ _ _=>b
  | _ => []
def defScope (s:Stmt):Scope:=match s with
  | .FunctionDef _ _ _ _ _ _ sc _ _ _=>sc
  | _ => { kind := .function,names := [],isGenerator:=false,isCoroutine:=false }
abbrev CX0:CXT:=fun _ _ _ _ _ _=>False
abbrev E0:XK:=fun _ _ _=>False
theorem pass0 {X:Cx}:Passes CX0 X E0:=fun _ _ _ _ _ _ _ h=>h.elim
structure Fun (K:PySem.W.Frag) (x qual:Str) (st:Stmt) (f:Addr) (fd:FuncData):Prop where
  ex:∃ (oc:Value) (od:Option Addr) (kV doc pm:Value) (an:Option Addr) (cdv ct:Value) (osl:Array (Option Value)),
    fd=PySem.W.fnOf x qual (defArgs st) (defBody st) (defScope st) .none kV doc pm an cdv ct∧K.lookup f=some ⟨oc,od,.func fd,osl⟩∧PySem.W.codeIn K cdv qual=true
  kp:PySem.W.keepIn K (.ref f)=true
section
variable {P:Program} {w:World} {K:PySem.W.Frag} {mg:Str→Option Value} {base:Heap}
theorem Fun.ok {x qual:Str} {st:Stmt} {f:Addr} {fd:FuncData} {N ps:List Str} {k:Nat} {sp:Sp} (F:Fun K x qual st f fd) (S:FnScope N ps (defScope st)) (len:∀ vs H Q E,sp vs H Q E→vs.length=ps.length)
    (hbody:∀ (cdv:Value) (A:Around) (outer:List Env) (s:Shared) (H:Hp) (vs:List V) (Q:VK) (E:XK),Room k (A.deeper (envOfC qual (defScope st) s.heap.objs.size f cdv))→sp vs H Q E →
      ∃ t,PSs (cxOf CX0 P w K mg base N qual (defScope st) f cdv A outer s H E).nox (defBody st) t∧t { nx:=fun _ H' => Q .non H',rt:=Q } (start N vs) H):FnOk P w K mg base CX0 (k+1) f fd ps sp:=by
  obtain⟨oc,od,kV,doc,pm,an,cdv,ct,osl,rfl,lk,hcd⟩:=F.ex
  refine fn_of lk hcd S len fun A outer s H vs Q E hr hsp => ?_
  obtain⟨t,h,q⟩:=hbody cdv A outer s H vs Q E hr hsp
  exact⟨t,h.nox,q⟩
theorem Fun.binds {x qual:Str} {st:Stmt} {f:Addr} {fd:FuncData} {ps:List Str} (F:Fun K x qual st f fd)
    (h:∀ (kV doc pm:Value) (an:Option Addr) (cdv ct:Value) (us:List Value),us.length=ps.length→bindArgs (PySem.W.fnOf x qual (defArgs st) (defBody st) (defScope st) .none kV doc pm an cdv ct) ⟨us,[]⟩=pure (ps.zip us)):Binds K fd ps []:=by
  obtain⟨oc,od,kV,doc,pm,an,cdv,ct,osl,rfl,lk,hcd⟩:=F.ex
  exact .all (h kV doc pm an cdv ct)
theorem fun_mk {x qual:Str} {st:Stmt} {f:Addr} {oc:Value} {od an:Option Addr} {osl:Array (Option Value)} {kV doc pm cdv ct:Value} (l:K.lookup f=some ⟨oc,od,.func (PySem.W.fnOf x qual (defArgs st) (defBody st) (defScope st) .none kV doc pm an cdv ct),osl⟩)
    (c:PySem.W.codeIn K cdv qual=true) (k:PySem.W.keepIn K (.ref f)=true):Fun K x qual st f (PySem.W.fnOf x qual (defArgs st) (defBody st) (defScope st) .none kV doc pm an cdv ct):=⟨⟨oc,od,kV,doc,pm,an,cdv,ct,osl,rfl,l,c⟩,k⟩
end
section
variable {X:Cx}
theorem pv (i:Nat) {x:Str} {pos:Pos} (hN:X.N[i]? = some x:=by rfl) (hv:Vis X.env.scope x:=by first | exact Or.inl rfl | exact Or.inr (Or.inl rfl) | exact Or.inr (Or.inr rfl)) (hd:(x==("__debug__" : Str))=false:=by decide)
    (hcd:(x==("__classdict__" : Str))=false:=by decide):PE X (.Name x pos) (tVar i):=pe_var hN hv hd hcd
end
theorem iteF {A B:Prop} (h:B):if false=true then A else B:=by
  rw [if_neg Bool.false_ne_true]
  exact h
theorem iteT {A B:Prop} (h:A):if true=true then A else B:=by
  rw [if_pos rfl]
  exact h
theorem ite2 {c A B:Prop} [Decidable c] (h1:c→A) (h2:¬ c→B):if c then A else B:=by
  by_cases h:c
  · rw [if_pos h]
    exact h1 h
  · rw [if_neg h]
    exact h2 h
def Same (H H' : Hp):Prop:=∀ b o,H b=some o→H' b=some o
theorem Same.refl (H:Hp):Same H H:=fun _ _ h=>h
theorem Same.trans {H H1 H2:Hp} (a:Same H H1) (b:Same H1 H2):Same H H2:=fun c o h=>b c o (a c o h)
theorem Same.free {H H' : Hp} (e:Same H H') {l:Addr} (h:H' l=Option.none):H l=Option.none:=by
  cases q:H l with
  | none=>rfl
  | some o =>
    rw [e l o q] at h
    cases h
theorem Same.seq {K:PySem.W.Frag} {H H' : Hp} {a:Addr} {xs:List V} (e:Same H H') (h:SqL K H a xs):SqL K H' a xs:=by
  rcases h with (h | ⟨o,h⟩) | h
  · exact .inl (.inl (e _ _ h))
  · exact .inl (.inr ⟨o,e _ _ h⟩)
  · exact .inr h
end L2
namespace L2
open PySem PySem.Spec PyProof.Rows
abbrev Caps:=List (Str×Nat)
def capV (σ:St):Caps→St
  | [] => []
  | (_,i)::r=>(σ[i]?).join::capV σ r
def CapOk (X:Cx) (scope:Scope):Caps→Prop
  | []=>True
  | (x,i)::r=>(X.N[i]? = some x∧scope.names.lookup x=some .free∧(X.env.scope.names.lookup x=some .cell∨X.env.scope.names.lookup x=some .free))∧CapOk X scope r
def cxComp (X:Cx) (N:List Str) (scope:Scope) (cl:List (Str×Addr)) (C:Addr) (fp:List Addr) (s:Shared) (H:Hp):Cx where
  prog:=X.prog
  w:=X.w
  K:=X.K
  mg:=X.mg
  base:=X.base
  A:=X.A
  N:=N
  s₀:=s
  H₀:=H
  env:=compEnvC scope cl C X.env
  outer:=X.stack
  stack:=X.stack
  ex:=fp
  fn:=fun _=>false
  calm:=X.calm
  pn := []
  xe:=fun _ _=>False
theorem closure_go {env:Env} (names:List (Str×NameKind)) (hh:∀ x,(x,NameKind.free)∈names→∃ c,env.cells.lookup x=some c):∀ acc:List (Str×Addr),
    ∃ cl,(forIn names acc (fun (x:Str×NameKind) (r:List (Str×Addr))=>match x with
      | (name,kind)=>if (kind==NameKind.free)=true then do let a ← cellOf env name;pure (ForInStep.yield ((name,a)::r)) else pure (ForInStep.yield r)):Sem (List (Str×Addr)))=pure cl ∧
      (∀ x c,(x,c)∈cl→(x,c)∈acc∨env.cells.lookup x=some c)∧(∀ x,((x,NameKind.free)∈names∨∃ c,(x,c)∈acc)→∃ c,(x,c)∈cl):=by
  induction names with
  | nil=>intro acc;exact⟨acc,rfl,fun x c h => .inl h,fun x h=>h.elim (fun z=>nomatch z) id⟩
  | cons n r ih =>
    intro acc
    obtain⟨name,kind⟩:=n
    by_cases hk:kind=NameKind.free
    · subst hk
      obtain⟨c,hc⟩:=hh name List.mem_cons_self
      obtain⟨cl,e,h1,h2⟩:=ih (fun x hx=>hh x (List.mem_cons_of_mem _ hx)) ((name,c)::acc)
      refine⟨cl,?_,fun x d hd => ?_,fun x hx => ?_⟩
      · rw [List.forIn_cons]
        have:cellOf env name=pure c:=by unfold cellOf;rw [hc]
        simp only [beq_self_eq_true,if_true,this]
        exact e
      · rcases h1 x d hd with z | z
        · rcases List.mem_cons.mp z with z | z
          · cases z;exact .inr hc
          · exact .inl z
        · exact .inr z
      · refine h2 x ?_
        rcases hx with hx | ⟨d,hd⟩
        · rcases List.mem_cons.mp hx with z | z
          · cases z;exact .inr ⟨c,List.mem_cons_self⟩
          · exact .inl z
        · exact .inr ⟨d,List.mem_cons_of_mem _ hd⟩
    · obtain⟨cl,e,h1,h2⟩:=ih (fun x hx=>hh x (List.mem_cons_of_mem _ hx)) acc
      refine⟨cl,?_,h1,fun x hx=>h2 x ?_⟩
      · rw [List.forIn_cons]
        have:(kind==NameKind.free)=false:=by simpa using hk
        simp only [this,Bool.false_eq_true,if_false]
        exact e
      · rcases hx with hx | hx
        · rcases List.mem_cons.mp hx with z | z
          · cases z;exact absurd rfl hk
          · exact .inl z
        · exact .inr hx
theorem lookup_of_mem {cl:List (Str×Addr)} {x:Str} {c:Addr} (h:(x,c)∈cl):∃ d,cl.lookup x=some d:=by
  induction cl with
  | nil=>cases h
  | cons y r ih =>
    obtain⟨n,a⟩:=y
    cases e:x==n with
    | true=>exact⟨a,by simp only [List.lookup_cons,e]⟩
    | false =>
      rcases List.mem_cons.mp h with z | z
      · cases z;simp at e
      · obtain⟨d,hd⟩:=ih z;exact⟨d,by simp only [List.lookup_cons,e];exact hd⟩
theorem closure_ok {scope:Scope} {env:Env} (hh:∀ x,(x,NameKind.free)∈scope.names→∃ c,env.cells.lookup x=some c) :
    ∃ cl,closureFor scope env=pure cl∧(∀ x c,cl.lookup x=some c→env.cells.lookup x=some c)∧∀ x,(x,NameKind.free)∈scope.names→∃ c,cl.lookup x=some c:=by
  obtain⟨cl,e,h1,h2⟩:=closure_go (env:=env) scope.names hh []
  refine⟨cl,?_,fun x c h => ?_,fun x hx => ?_⟩
  · unfold closureFor
    show (forIn scope.names [] _ >>= _:Sem (List (Str×Addr)))=pure cl
    have e2:=congrArg (fun m:Sem (List (Str×Addr))=>m >>= fun cs=>(pure cs:Sem _)) e
    exact e2
  · rcases h1 x c (PySem.mem_of_lookup h) with z | z
    · cases z
    · exact z
  · obtain⟨c,hc⟩:=h2 x (.inl hx)
    exact lookup_of_mem hc
theorem relabel_inv {env:Env} {k:NameKind} (hk:k = .cell∨k = .free):∀ {names:List (Str×NameKind)} {x:Str},(∀ y∈names,y.2 ≠ .cell) →
    (names.map fun (n,k)=>if (k==NameKind.free&&env.scope.kind == .function&&env.kindOf n==some .cell) then (n,NameKind.cell) else (n,k)).lookup x=some k→(x,NameKind.free)∈names
  | [],_,_,h=>by simp at h
  | (n,k')::r,x,hc,h=>by
    have ih := @relabel_inv env k hk r x fun y hy=>hc y (List.mem_cons_of_mem _ hy)
    rw [List.map_cons] at h
    by_cases c:(k' == NameKind.free&&env.scope.kind == .function&&env.kindOf n==some .cell)=true
    · have h' : ((n,NameKind.cell)::r.map fun (n,k)=>if (k==NameKind.free&&env.scope.kind == .function&&env.kindOf n==some .cell) then (n,NameKind.cell) else (n,k)).lookup x=some k:=by
        have e:(if (k' == NameKind.free&&env.scope.kind == .function&&env.kindOf n==some .cell)=true then (n,NameKind.cell) else (n,k'))=(n,NameKind.cell):=if_pos c
        rw [← e];exact h
      cases e:x==n with
      | true =>
        have e' : x=n:=by simpa using e
        have:k' = .free:=by simp at c;exact c.1.1
        subst e' this
        exact List.mem_cons_self
      | false=>exact List.mem_cons_of_mem _ (ih (by simp only [List.lookup_cons,e] at h';exact h'))
    · have h' : ((n,k')::r.map fun (n,k)=>if (k==NameKind.free&&env.scope.kind == .function&&env.kindOf n==some .cell) then (n,NameKind.cell) else (n,k)).lookup x=some k:=by
        have e:(if (k' == NameKind.free&&env.scope.kind == .function&&env.kindOf n==some .cell)=true then (n,NameKind.cell) else (n,k'))=(n,k'):=if_neg c
        rw [← e];exact h
      cases e:x==n with
      | true =>
        simp only [List.lookup_cons,e] at h'
        have e' : x=n:=by simpa using e
        have h2:k' = k:=Option.some.inj h'
        subst h2
        rcases hk with hk | hk
        · exact absurd hk (hc (n,k') List.mem_cons_self)
        · subst hk e';exact List.mem_cons_self
      | false=>exact List.mem_cons_of_mem _ (ih (by simp only [List.lookup_cons,e] at h';exact h'))
theorem relabel_free {env:Env}:∀ {names:List (Str×NameKind)} {x:Str},names.lookup x=some .free →
    ((names.map fun (n,k)=>if (k==NameKind.free&&env.scope.kind == .function&&env.kindOf n==some .cell) then (n,NameKind.cell) else (n,k)).lookup x=some .cell ∨
     (names.map fun (n,k)=>if (k==NameKind.free&&env.scope.kind == .function&&env.kindOf n==some .cell) then (n,NameKind.cell) else (n,k)).lookup x=some .free)
  | [],_,h=>by simp at h
  | (n,k')::r,x,h=>by
    have ih := @relabel_free env r x
    rw [List.map_cons]
    by_cases c:(k' == NameKind.free&&env.scope.kind == .function&&env.kindOf n==some .cell)=true
    · have e:(if (k' == NameKind.free&&env.scope.kind == .function&&env.kindOf n==some .cell)=true then (n,NameKind.cell) else (n,k'))=(n,NameKind.cell):=if_pos c
      show (List.lookup x ((if (k' == NameKind.free&&env.scope.kind == .function&&env.kindOf n==some .cell)=true then (n,NameKind.cell) else (n,k'))::_)=_∨List.lookup x ((if (k' == NameKind.free&&env.scope.kind == .function&&env.kindOf n==some .cell)=true then (n,NameKind.cell) else (n,k'))::_)=_)
      rw [e]
      cases ex:x==n with
      | true=>left;simp only [List.lookup_cons,ex]
      | false =>
        simp only [List.lookup_cons,ex] at h ⊢
        exact ih h
    · have e:(if (k' == NameKind.free&&env.scope.kind == .function&&env.kindOf n==some .cell)=true then (n,NameKind.cell) else (n,k'))=(n,k'):=if_neg c
      show (List.lookup x ((if (k' == NameKind.free&&env.scope.kind == .function&&env.kindOf n==some .cell)=true then (n,NameKind.cell) else (n,k'))::_)=_∨List.lookup x ((if (k' == NameKind.free&&env.scope.kind == .function&&env.kindOf n==some .cell)=true then (n,NameKind.cell) else (n,k'))::_)=_)
      rw [e]
      cases ex:x==n with
      | true =>
        simp only [List.lookup_cons,ex] at h
        cases h
        right;simp only [List.lookup_cons,ex]
      | false =>
        simp only [List.lookup_cons,ex] at h ⊢
        exact ih h
end L2
namespace L2
open PySem PySem.Spec PyProof.Rows
theorem capV_length (σ:St):∀ caps:Caps,(capV σ caps).length=caps.length
  | []=>rfl
  | (_,_)::r=>congrArg (· + 1) (capV_length σ r)
theorem capV_get {X:Cx} {scope:Scope} {σ:St}:∀ {caps:Caps} {j:Nat} {x:Str} {v:V},CapOk X scope caps→(caps.map (·.1))[j]? = some x→(capV σ caps)[j]? = some (some v) →
    ∃ i:Nat,X.N[i]? = some x∧σ[i]? = some (some v)∧scope.names.lookup x=some .free∧(X.env.scope.names.lookup x=some .cell∨X.env.scope.names.lookup x=some .free)
  | [],_,_,_,_,h,_=>by simp at h
  | (y,i)::r,0,x,v,hc,h1,h2=>by
    simp at h1;subst h1
    have e:(σ[i]?).join=some v:=by simpa [capV] using h2
    refine⟨i,hc.1.1,?_,hc.1.2⟩
    cases q:σ[i]? with
    | none=>rw [q] at e;cases e
    | some z=>rw [q] at e;exact congrArg some e
  | (y,i)::r,j+1,x,v,hc,h1,h2=>capV_get (caps:=r) (j:=j) hc.2 (by simpa using h1) (by simpa [capV] using h2)
def tg0 (tg:List Str) (σ:St) (caps:Caps):St:=tg.map (fun _=>none)++capV σ caps
theorem Inv.ofcomp {X:Cx} {pins:List (Addr×Obj)} {σ:St} {H:Hp} {s:Shared} {scope:Scope} {cl:List (Str×Addr)} {C:Addr} {fp:List Addr} {h₁:Heap} {m:Str→Option Value} {tk:Nat} {caps:Caps} (tg:List Str)
    (I:Inv X pins σ H s) (hkind:scope.kind = .function) (hnc:∀ y∈scope.names,y.2 ≠ .cell) (hc1:∀ x c,cl.lookup x=some c→X.env.cells.lookup x=some c) (hc2:∀ x,(x,NameKind.free)∈scope.names→∃ c,cl.lookup x=some c)
    (hf:∀ b∈fp,FpOk X pins H b) (hfo:∀ b∈fp,∃ o,s.heap.get? b=some o) (hC:s.heap.objs.size≤C) (hns:h₁.Ns C m) (hk:∀ b o,s.heap.get? b=some o→h₁.get? b=some o) (co:CapOk X scope caps) :
    Inv (cxComp X (tg++caps.map (·.1)) scope cl C fp s H) [] (tg0 tg σ caps) H { s with heap:=h₁,toks:=tk }:=by
  have hfs:∀ b∈fp,b∉frs X.stack:=fun b hb hx=>by
    rcases List.mem_cons.mp (I.stkSub b hx) with z | z
    · exact (hf b hb).2.1 z
    · exact (hf b hb).2.2.1 z
  have ok:(cxComp X (tg++caps.map (·.1)) scope cl C fp s H).Ok:=by
    refine⟨I.ok.mod,hkind,I.ok.glob,I.ok.blt,hC,fun x y c h1 h2=>I.ok.inj x y c (hc1 x c h1) (hc1 y c h2),fun x hx => ?_,fun x c h=>(nomatch h),I.ok.hd,I.ok.frames,.inl rfl,fun b hb=>⟨?_,fun x c h=>(hf b hb).2.2.2.2.1 x c (hc1 x c h)⟩,
      I.bs,Nat.le_trans I.ok.bsz I.sz,fun b o e hb => ?_,hfs,I.stack,I.stkFree⟩
    · rcases hx with hx | hx
      · exact hc2 x (relabel_inv (.inl rfl) hnc hx)
      · exact hc2 x (relabel_inv (.inr rfl) hnc hx)
    · obtain⟨o,e⟩:=hfo b hb
      exact Nat.ne_of_lt (Nat.lt_of_lt_of_le (Heap.lt_size e) hC)
    · rcases (hf b hb).2.2.2.1 with z | z
      · exact I.ok.noex b o e z
      · exact absurd (Nat.lt_of_lt_of_le (Heap.lt_size (I.ok.bs b o e).1) z) (Nat.lt_irrefl _)
  refine⟨ok,rfl,I.bare,Un.kept hk,⟨m,hns,fun j x v h1 h2 h3 => ?_⟩,fun x c h => ?_,I.hok.fresh hC,fun x c h=>I.freeC x c (hc1 x c h),fun p hp=>(nomatch hp),I.hok.kept hk,?_⟩
  · have h1' : (tg++caps.map (·.1))[j]? = some x:=h1
    have h2' : (tg.map (fun _=>none)++capV σ caps)[j]? = some (some v):=h2
    by_cases hj:j<tg.length
    · rw [List.getElem?_append_left (by simpa using hj),List.getElem?_map] at h2'
      cases e:tg[j]? with
      | none=>rw [e] at h2';cases h2'
      | some z=>rw [e] at h2';cases h2'
    · rw [List.getElem?_append_right (by simpa using hj)] at h2' h1'
      rw [List.length_map] at h2'
      obtain⟨i,e1,e2,e3,e4⟩:=capV_get co h1' h2'
      obtain⟨mX,hn,hl⟩:=I.loc
      obtain⟨u,r,l⟩:=hl i x v e1 e2 (.inr e4)
      refine⟨u,r,?_⟩
      have key:∃ c,X.env.cells.lookup x=some c∧s.heap.IsCell c (some u):=by
        rcases l with ⟨k,_⟩ | ⟨_,c,e,z⟩
        · have k' : X.env.scope.names.lookup x=some .local:=k
          rcases e4 with e4 | e4 <;> · rw [e4] at k';cases k'
        · exact⟨c,e,z⟩
      obtain⟨c,ec,o,ho,hd⟩:=key
      obtain⟨d,ed⟩:=hc2 x (PySem.mem_of_lookup e3)
      have hdc:d=c:=Option.some.inj ((hc1 x d ed).symm.trans ec)
      subst hdc
      exact .inr ⟨relabel_free e3,d,ed,o,hk _ o ho,hd⟩
  · obtain⟨v,o,ho,hd⟩:=I.cell x c (hc1 x c h)
    exact⟨v,o,hk _ o ho,hd⟩
  · show (tg.map (fun _=>(none:Option V))++capV σ caps).length=(tg++caps.map (·.1)).length
    rw [List.length_append,List.length_append,List.length_map,List.length_map,capV_length]
def PIfs (X:Cx) (ifs:List Expr) (t:TT):Prop :=
  ∀ (pins:List (Addr×Obj)) (s:Shared) (σ:St) (H:Hp) (Q:Bool→Hp→Prop),Inv X pins σ H s→t σ H Q →
    wpAny (model X.prog X.w) X.A (forIn ifs true fun c r=>if r=true then do let ok ← isTrue c X.env (eval c X.env);pure (ForInStep.yield ok) else pure (ForInStep.yield r)) (TP X pins σ Q) X.xe s
def tIf0:TT:=fun _ H Q=>Q true H
theorem pif_nil {X:Cx}:PIfs X [] tIf0:=fun pins s σ H Q I h=>wpAny_tests_nil ⟨H,I,h⟩
def Keeps0 (σ0 σ2:St):Prop:=σ0.length=σ2.length∧∀ (i:Nat) v,σ0[i]? = some (some v)→σ2[i]? = some (some v)
def CompW (J:It) (g:TG) (tt:TT) (te:TE) (σ0:St) (D:Addr) (Fin:List V→Hp→Prop) (H1:Hp):Prop :=
  ∃ W:Nat→Nat→List V→Hp→Prop,(∃ m,W 0 m [] (upd H1 D (.lst [])))∧∀ i m ys H,W i m ys H→H D=some (.lst ys) ∧
    ((J.stop i H∧Fin ys H)∨(J.go i H∧∃ N:List V→Hp→Prop,(∀ zs H',N zs H' → ∃ m',m' < m∧W (i+1) m' zs H')∧∀ x H',J.yld i H x H' → g x σ0 H' fun σ2 H2=>Keeps0 σ0 σ2∧tt σ2 H2 fun b H3 =>
      if b=true then te σ2 H3 fun v H4=>H4 D=some (.lst ys)∧ys.length<sizeLine∧N (ys ++ [v]) (upd H4 D (.lst (ys ++ [v])))
      else N ys H3))
theorem comp_turn (elt target iter:Expr) (ifs:List Expr) (scope:Scope) (pos:Pos) (it acc:Value) (env:Env) :
    compTurn (.ListComp elt [⟨target,iter,ifs,0⟩] scope pos) 0 it acc env=(standAt iter.pos >>= fun _=>pyNext it >>= fun r=>match r with
      | none=>pure (.done .next)
      | some v=>letOwnedTupleGo target it v >>= fun _=>assign target env v >>= fun _ =>
        (forIn ifs true fun c r=>if r=true then do let ok ← isTrue c env (eval c env);pure (ForInStep.yield ok) else pure (ForInStep.yield r)) >>= fun ok =>
        if ok=true then (eval elt env >>= fun x=>call (.builtin "list.append") [acc,x] >>= fun _=>pure ()) >>= fun _ =>
          again (.compLoop (.ListComp elt [⟨target,iter,ifs,0⟩] scope pos) 0 it acc env)
        else again (.compLoop (.ListComp elt [⟨target,iter,ifs,0⟩] scope pos) 0 it acc env)):=by
  rw [compTurn_list]
  rfl
theorem comp_run {X:Cx} {pins:List (Addr×Obj)} {σ:St} {H1:Hp} {s₂:Shared} {scope:Scope} {cl:List (Str×Addr)} {fp:List Addr} {it:Addr} {tn:Nat→Heap→Prop} {J:It} {caps:Caps} {tg:List Str}
    {elt target iter:Expr} {ifs:List Expr} {pos:Pos} {g:TG} {tt:TT} {te:TE} {E:Value→Shared→Prop} {Fin:Addr→List V→Hp→Prop} {RR:Value→Addr→Result→Shared→Prop}
    (hc:X.calm=true) (hkind:scope.kind = .function) (hnc:∀ y∈scope.names,y.2 ≠ .cell) (hc1:∀ x c,cl.lookup x=some c→X.env.cells.lookup x=some c) (hc2:∀ x,(x,NameKind.free)∈scope.names→∃ c,cl.lookup x=some c)
    (co:CapOk X scope caps)
    (hg:∀ C s H,PG (cxComp X (tg++caps.map (·.1)) scope cl C fp s H) target g) (ht:∀ C s H,PIfs (cxComp X (tg++caps.map (·.1)) scope cl C fp s H) ifs tt) (he:∀ C s H,PE (cxComp X (tg++caps.map (·.1)) scope cl C fp s H) elt te)
    (I2:Inv X pins σ H1 s₂) (T:Turn X.prog X.w X.K target J fp it tn) (st:tn 0 s₂.heap) (hf:∀ b∈fp,FpOk X pins H1 b)
    (hw:∀ D,H1 D=none→CompW J g tt te (tg0 tg σ caps) D (Fin D) H1)
    (hRR:∀ D C ys H' s',H1 D=none→Inv X pins σ H' s' → (∃ m,s'.heap.Ns C m)→FpOk X pins H' C→Fin D ys H' → RR (.ref D) C (.ok .next) s') :
    wpAny (model X.prog X.w) X.A (newList []) (fun acc s₃=>wpAny (model X.prog X.w) X.A (newFunctionEnv scope X.env.globals cl [] X.env.qual none .none (some X.env)) (fun cenv s₄ =>
      codeAny (model X.prog X.w) X.A (.compStart (.ListComp elt [⟨target,iter,ifs,0⟩] scope pos) 0 (.ref it) acc { cenv with scope:=relabel scope X.env }) (RR acc cenv.locals) s₄) E s₃) E s₂:=by
  have I3:Inv X pins σ (upd H1 s₂.heap.objs.size (.lst [])) { s₂ with heap:=s₂.heap.push { cls := .type "list",dict:=none,data := .seq ([]:List Value).toArray },toks:=s₂.toks }:=I2.lnew (its := []) .nil (Nat.zero_le _)
  have hD0:H1 s₂.heap.objs.size=none:=I2.fresh
  refine wpAny_newObj_type (wpAny_newFunctionEnv hnc (by intro y hy;simp at hy) (fun h₁ hns₁ hsb₁ => ?_) hkind)
  dsimp only at hns₁ hsb₁ ⊢
  generalize hDd:s₂.heap.objs.size=D at I3 hD0 hns₁ hsb₁ ⊢
  generalize hs3:({ s₂ with heap:=s₂.heap.push { cls := .type "list",dict:=none,data := .seq ([]:List Value).toArray } }:Shared)=s₃ at I3 hns₁ hsb₁ ⊢
  have e3:s₂.heap.push { cls := .type "list",dict:=none,data := .seq ([]:List Value).toArray }=s₃.heap:=by rw [← hs3]
  have o3:({ s₂ with heap:=h₁,toks:=s₂.toks+([]:List (Str×Value)).length }:Shared) = { s₃ with heap:=h₁,toks:=s₂.toks }:=by rw [← hs3];rfl
  have size3:s₃.heap.objs.size=D+1:=by rw [← e3,Heap.size_push,hDd]
  rw [e3] at hns₁ hsb₁ ⊢
  have old3:∀ b o,s₂.heap.get? b=some o→s₃.heap.get? b=some o:=fun b o e=>by rw [← e3];exact Heap.get?_push_of_some _ e
  generalize hCd:s₃.heap.objs.size=C at hns₁ hsb₁ ⊢
  have hk:∀ b o,s₃.heap.get? b=some o→h₁.get? b=some o:=fun b o e=>hsb₁.extBut b o (by rw [← hCd];exact Nat.ne_of_lt (Heap.lt_size e)) (Heap.get?_push_of_some _ e)
  have fpo:∀ b∈fp,∃ o,s₂.heap.get? b=some o:=fun b hb=>by obtain⟨o,e,_⟩:=T.obj 0 _ st b hb;exact⟨o,e⟩
  have fpne:∀ b∈fp,b≠D:=fun b hb=>by obtain⟨o,e⟩:=fpo b hb;rw [← hDd];exact Nat.ne_of_lt (Heap.lt_size e)
  have hf3:∀ b∈fp,FpOk X pins (upd H1 D (.lst [])) b:=fun b hb=>⟨by rw [upd_ne (fpne b hb)];exact (hf b hb).1,(hf b hb).2⟩
  have IY:=Inv.ofcomp (tk:=s₂.toks) tg I3 hkind hnc hc1 hc2 hf3 (fun b hb=>let ⟨o,e⟩:=fpo b hb;⟨o,old3 b o e⟩) (Nat.le_of_eq hCd) hns₁ hk co
  have FC:FpOk X pins H1 C:=by
    have z:=I3.fpOk (b:=C) (H' := H1) (Nat.le_of_eq hCd) (I2.hok.fresh (by rw [hDd,← hCd,size3];exact Nat.le_succ _))
    exact z
  generalize hY:cxComp X (tg++caps.map (·.1)) scope cl C fp s₃ (upd H1 D (.lst []))=Y at IY
  have hgY:PG Y target g:=by rw [← hY];exact hg _ _ _
  have htY:PIfs Y ifs tt:=by rw [← hY];exact ht _ _ _
  have heY:PE Y elt te:=by rw [← hY];exact he _ _ _
  have hYp:Y.prog=X.prog:=by rw [← hY];rfl
  have hYw:Y.w=X.w:=by rw [← hY];rfl
  have hYK:Y.K=X.K:=by rw [← hY];rfl
  have hYA:Y.A=X.A:=by rw [← hY];rfl
  have hYe:Y.env=compEnvC scope cl C X.env:=by rw [← hY];rfl
  have hYx:Y.ex=fp:=by rw [← hY];rfl
  have hYn:Y.pn = []:=by rw [← hY];rfl
  have hYc:Y.calm=true:=by rw [← hY];exact hc
  have hYxe:Y.xe=fun _ _=>False:=by rw [← hY];rfl
  have fpY:∀ {H' : Hp},(∀ b∈fp,H' b=none)→∀ b∈fp,FpOk Y [] H' b:=fun {H'} hn b hb=>by
    refine⟨hn b hb,?_,?_,.inl (by rw [hYx];exact hb),fun x c e => ?_,fun p hp => ?_⟩
    · have:=(IY.ok.exf b (by rw [hYx];exact hb)).1;exact this
    · exact IY.ok.exfs b (by rw [hYx];exact hb)
    · exact (IY.ok.exf b (by rw [hYx];exact hb)).2 x c e
    · rw [hYn] at hp;cases hp
  obtain⟨W,⟨m0,w0⟩,turn⟩:=hw D hD0
  have stY:tn 0 h₁:=T.keep 0 _ _ st fun b hb o e=>hk b o (old3 b o e)
  have back:∀ {H' : Hp} {s' : Shared} {σ' : St},Inv Y [] σ' H' s' → Inv X pins σ H' s' := fun {H' s' σ'} IE=>by
    have hun:=IE.base
    have hos:=IE.os
    rw [← hY] at hun hos
    exact I3.call' (ch:=fp) hos hun (by have z:=IE.hok;rw [hYp,hYw] at z;exact z) IE.bare fun b hb=>⟨(hf b hb).2.2.2.1,(hf b hb).2.1,(hf b hb).2.2.2.2.1,(hf b hb).2.2.2.2.2⟩
  have gY:∀ pins s σ H v u Q (E' : Value→Shared→Prop),Inv Y pins σ H s→RelV v u→g v σ H Q→wpAny (model X.prog X.w) X.A (assign target (compEnvC scope cl C X.env) u) (fun _ s' => ∃ σ' H',Inv Y pins σ' H' s' ∧ Q σ' H') E' s:=fun pins s σ H v u Q E' IE r q=>by
    have z:=hgY pins s σ H v u Q IE r q
    rw [hYp,hYw,hYA,hYe,hYxe] at z
    exact wpAny_mono z (fun _ _ x=>x) fun _ _ f=>f.elim
  have tY:∀ pins s σ H Q (E' : Value→Shared→Prop),Inv Y pins σ H s→tt σ H Q→wpAny (model X.prog X.w) X.A (forIn ifs true fun c r=>if r=true then do let ok ← isTrue c (compEnvC scope cl C X.env) (eval c (compEnvC scope cl C X.env));pure (ForInStep.yield ok) else pure (ForInStep.yield r)) (TP Y pins σ Q) E' s:=fun pins s σ H Q E' IE q=>by
    have z:=htY pins s σ H Q IE q
    rw [hYp,hYw,hYA,hYe,hYxe] at z
    exact wpAny_mono z (fun _ _ x=>x) fun _ _ f=>f.elim
  have eY:∀ pins s σ H Q (E' : Value→Shared→Prop),Inv Y pins σ H s→te σ H Q→wpAny (model X.prog X.w) X.A (eval elt (compEnvC scope cl C X.env)) (EP Y pins σ Q) E' s:=fun pins s σ H Q E' IE q=>by
    have z:=heY pins s σ H Q IE q
    rw [hYp,hYw,hYA,hYe,hYxe] at z
    exact wpAny_mono z (fun _ _ x=>x) fun _ _ f=>f.elim
  have aY:∀ pins s σ H ys v u Q (E' : Value→Shared→Prop),Inv Y pins σ H s→RelV v u→H D=some (.lst ys)→ys.length<sizeLine→Q .non (upd H D (.lst (ys ++ [v])))→wpAny (model X.prog X.w) X.A (call (.builtin "list.append") [.ref D,u]) (EP Y pins σ Q) E' s:=fun pins s σ H ys v u Q E' IE r hH hz q=>by
    have z:=mt_append (X:=Y) pins s σ H (.ref D) [v] (.ref D) [u] Q IE rfl (.cons r .nil) ⟨D,ys,v,rfl,rfl,hH,hz,q⟩
    rw [hYp,hYw,hYA,hYxe] at z
    exact wpAny_mono z (fun _ _ x=>x) fun _ _ f=>f.elim
  have tiY:∀ i pins s σ H (E' : Value→Shared→Prop),Inv Y pins σ H s→(∀ b∈fp,FpOk Y pins H b)→tn i s.heap→J.go i H →
      wpAny (model X.prog X.w) X.A (pyNext (.ref it)) (fun r s1=>∃ u,r=some u ∧
        wpAny (model X.prog X.w) X.A (letOwnedTupleGo target (.ref it) u) (fun _ s2=>∃ x H',Inv Y pins σ H' s2∧RelV x u∧J.yld i H x H' ∧ tn (i+1) s2.heap∧∀ b∈fp,H' b=none) E' s1) E' s:=fun i pins s σ H E' IE hfy st go=>by
    have z:=T.item Y hYp hYw hYK hYc i pins s σ H E' IE hfy st go
    rw [hYA] at z
    exact z
  have tdY:∀ i pins s σ H (E' : Value→Shared→Prop),Inv Y pins σ H s→(∀ b∈fp,FpOk Y pins H b)→tn i s.heap→J.stop i H →
      wpAny (model X.prog X.w) X.A (pyNext (.ref it)) (fun r s1=>r=none∧Inv Y pins σ H s1) E' s:=fun i pins s σ H E' IE hfy st go=>by
    have z:=T.done Y hYp hYw hYK hYc i pins s σ H E' IE hfy st go
    rw [hYA] at z
    exact z
  have loop:codeAny (model X.prog X.w) X.A (.compLoop (.ListComp elt [⟨target,iter,ifs,0⟩] scope pos) 0 (.ref it) (.ref D) (compEnvC scope cl C X.env)) (RR (.ref D) C) { s₃ with heap:=h₁,toks:=s₂.toks }:=by
    refine codeAny_loop rfl (fun n s' => ∃ i ys H',Inv Y [] (tg0 tg σ caps) H' s' ∧ tn i s'.heap∧(∀ b∈fp,H' b=none)∧W i n ys H') ?_ m0 ⟨0,[],_,IY,stY,fun b hb=>(hf3 b hb).1,w0⟩
    rintro n s4 ⟨i,ys,H4,I4,st4,fr4,w4⟩
    show wpAny _ _ ((compTurn (.ListComp elt [⟨target,iter,ifs,0⟩] scope pos) 0 (.ref it) (.ref D) (compEnvC scope cl C X.env)).onRaise (fun x=>do noteFrame x (compEnvC scope cl C X.env);theTreesLotGoes x)) _ _ s4
    refine wpAny_noted ?_
    rw [comp_turn]
    obtain⟨hHD,alt⟩:=turn i n ys H4 w4
    rcases alt with ⟨stop,fin⟩ | ⟨go,N,hN,step⟩
    · refine wpAny_bind (wpAny_standAt (wpAny_bind (thn (tdY i [] s4 _ H4 _ I4 (fpY fr4) st4 stop) fun r s5 ⟨hr,I5⟩ => ?_)))
      subst hr
      refine wpAny_pure (hRR D C ys H4 s5 hD0 (back I5) ?_ ⟨?_,FC.2⟩ fin)
      · obtain⟨m,hm,_⟩:=I5.loc
        rw [hYe] at hm
        exact⟨m,hm⟩
      · have z:=I5.free
        rw [hYe] at z
        exact z
    · refine wpAny_bind (wpAny_standAt (wpAny_bind (thn (tiY i [] s4 _ H4 _ I4 (fpY fr4) st4 go) fun r s5 ⟨u,hr,h5⟩ => ?_)))
      subst hr
      refine wpAny_bind (thn h5 fun _ s6 ⟨x,H6,I6,r6,y6,st6,fr6⟩ => ?_)
      have I6' := I6.pinned (fpY fr6) (T.obj _ _ st6)
      refine wpAny_bind (thn (gY _ s6 _ H6 x u _ _ I6' r6 (step x H6 y6)) fun _ s7 ⟨σ7,H7,I7,kp,q7⟩ => ?_)
      refine wpAny_bind (thn (tY _ s7 σ7 H7 _ _ I7 q7) fun b s8 ⟨H8,I8,q8⟩ => ?_)
      have again:∀ {H9:Hp} {s9:Shared} {zs:List V} {m' : Nat},Inv Y ([]++pinsAt fp s6.heap) σ7 H9 s9→m' < n→W (i+1) m' zs H9→∃ m,m<n∧∃ i ys H',Inv Y [] (tg0 tg σ caps) H' s9∧tn i s9.heap∧(∀ b∈fp,H' b=none)∧W i m ys H' := fun {H9 s9 zs m'} I9 hm w9=>by
        refine⟨m',hm,i+1,zs,H9,I9.unpinned.weak kp.1 kp.2,T.keep _ _ _ st6 fun b hb o e=>(I9.pin (b,o) (List.mem_append_right _ (List.mem_append_right _ (mem_pinsAt hb e)))).1,fun b hb => ?_,w9⟩
        obtain⟨o,e,d⟩:=T.obj _ _ st6 b hb
        exact (I9.pin (b,o) (List.mem_append_right _ (List.mem_append_right _ (mem_pinsAt hb e)))).2.1
      cases b with
      | true =>
        rw [if_pos rfl] at q8
        simp only [if_true]
        refine wpAny_bind (wpAny_bind (thn (eY _ s8 σ7 H8 _ _ I8 q8) fun v s9 ⟨vv,H9,I9,r9,hH9,hz9,n9⟩ => ?_))
        obtain⟨m',hm',w9⟩:=hN _ _ n9
        refine wpAny_bind (thn (aY _ s9 σ7 H9 ys vv v (fun _ H10=>W (i+1) m' (ys ++ [vv]) H10) _ I9 r9 hH9 hz9 w9) fun _ s10 ⟨_,H10,I10,_,w10⟩ => ?_)
        exact wpAny_pure (wpAny_pure ⟨rfl,again I10 hm' w10⟩)
      | false =>
        rw [if_neg Bool.false_ne_true] at q8
        obtain⟨m',hm',w8⟩:=hN _ _ q8
        simp only [Bool.false_eq_true,if_false]
        exact wpAny_pure ⟨rfl,again I8 hm' w8⟩
  rw [o3]
  exact codeAny_compStart_list loop (T.self _ 0 _ _ _ stY loop)
end L2
namespace L2
open PySem PySem.Spec PyProof.Rows
def isCF (k:Option NameKind):Bool:=k==some .cell||k==some .free
def capChk (N:List Str) (names outer:List (Str×NameKind)):Caps→Bool
  | []=>true
  | (x,i)::r=>decide (N[i]? = some x)&&(names.lookup x==some .free)&&isCF (outer.lookup x)&&capChk N names outer r
def compChk (N:List Str) (outer scope:Scope) (caps:Caps):Bool :=
  (scope.kind == .function)&&(scope.names.all fun y=>y.2 != .cell&&(y.2 != .local||scope.names.lookup y.1==some .local)&&(y.2 != .free||isCF (outer.names.lookup y.1)))&&capChk N scope.names outer.names caps
theorem isCF_of {k:Option NameKind} (h:isCF k=true):k=some .cell∨k=some .free:=by
  unfold isCF at h
  simpa using h
theorem capChk_ok {X:Cx} {scope:Scope}:∀ {caps:Caps},capChk X.N scope.names X.env.scope.names caps=true→CapOk X scope caps
  | [],_=>trivial
  | (x,i)::r,h=>by
    unfold capChk at h
    simp only [Bool.and_eq_true] at h
    obtain⟨⟨⟨h1,h2⟩,h3⟩,h4⟩:=h
    exact⟨⟨of_decide_eq_true h1,by simpa using h2,isCF_of h3⟩,capChk_ok h4⟩
theorem compChk_ok {X:Cx} {scope:Scope} {caps:Caps} (h:compChk X.N X.env.scope scope caps=true) :
    scope.kind = .function∧(∀ y∈scope.names,y.2 ≠ .cell)∧(∀ y∈scope.names,y.2 = .local→scope.names.lookup y.1=some .local)∧(∀ x,(x,NameKind.free)∈scope.names→X.env.scope.names.lookup x=some .cell∨X.env.scope.names.lookup x=some .free)∧CapOk X scope caps:=by
  unfold compChk at h
  simp only [Bool.and_eq_true,List.all_eq_true] at h
  obtain⟨⟨h1,h2⟩,h3⟩:=h
  refine⟨by simpa using h1,fun y hy e => ?_,fun y hy e => ?_,fun x hx => ?_,capChk_ok h3⟩
  · have z:=(h2 y hy).1.1
    rw [e] at z;simp at z
  · have z:=(h2 y hy).1.2
    rw [e] at z;simpa using z
  · have z:=(h2 _ hx).2
    exact isCF_of (by simpa using z)
def tComp (wi:TI) (g:TG) (tt:TT) (te:TE) (tg:List Str) (caps:Caps):TE:=fun σ H Q=>wi σ H fun J H1=>∀ D,H1 D=none→CompW J g tt te (tg0 tg σ caps) D (fun _ H' => Q (.ref D) H') H1
section
variable {X:Cx} {iter target elt:Expr} {ifs:List Expr} {scope:Scope} {pos:Pos} {wi:TI} {g:TG} {tt:TT} {te:TE}
theorem clos_of {pins:List (Addr×Obj)} {σ:St} {H:Hp} {s:Shared} (I:Inv X pins σ H s) (hfree:∀ x,(x,NameKind.free)∈scope.names→X.env.scope.names.lookup x=some .cell∨X.env.scope.names.lookup x=some .free) :
    ∃ cl,closureFor scope X.env=pure cl∧(∀ x c,cl.lookup x=some c→X.env.cells.lookup x=some c)∧∀ x,(x,NameKind.free)∈scope.names→∃ c,cl.lookup x=some c :=
  closure_ok fun x hx=>I.ok.has x (hfree x hx)
theorem pe_lcomp (tg:List Str) (caps:Caps) (hc:X.calm=true) (hi:PI X target iter wi)
    (hg:∀ cl C fp s H,PG (cxComp X (tg++caps.map (·.1)) scope cl C fp s H) target g) (ht:∀ cl C fp s H,PIfs (cxComp X (tg++caps.map (·.1)) scope cl C fp s H) ifs tt) (he:∀ cl C fp s H,PE (cxComp X (tg++caps.map (·.1)) scope cl C fp s H) elt te)
    (hk:compChk X.N X.env.scope scope caps=true:=by rfl) (hs:∀ x,foldedSetIterable iter X.env x=pure x:=by intro _;rfl) :
    PE X (.ListComp elt [⟨target,iter,ifs,0⟩] scope pos) (tComp wi g tt te tg caps):=by
  intro pins s σ H Q I h
  obtain⟨hkind,hnc,hnames,hfree,co⟩:=compChk_ok hk
  obtain⟨cl,hclos,hc1,hc2⟩:=clos_of I hfree
  rw [eval_ListComp]
  refine wpAny_comprehension_free (use:=none) rfl hs hclos hkind hnames (thn (hi pins s σ H _ I h) fun v s1 h1=>thn h1 fun itv s2 h2 => ?_)
  obtain⟨it,fp,tn,J,H2,e,I2,T,st2,f2,hw⟩:=h2
  subst e
  refine comp_run (RR:=fun acc C=>compPost (model X.prog X.w) X.A X.xe none (EP X pins σ Q) acc C) (Fin:=fun D _ H' => Q (.ref D) H') hc hkind hnc hc1 hc2 co (fun C s H=>hg cl C fp s H) (fun C s H=>ht cl C fp s H) (fun C s H=>he cl C fp s H) I2 T st2 f2 hw ?_
  intro D C ys H' s' hD I' hm F fin
  obtain⟨m,hm⟩:=hm
  refine⟨m,hm,fun h' hsb=>⟨.ref D,H',I'.turned (t' := s'.toks) (fun b o hb e=>(hsb.2 b hb).trans e) F.1 F.2.1 F.2.2.2.1 F.2.2.2.2.1 F.2.2.2.2.2,rfl,fin⟩⟩
end
theorem comp_go {J:It} {n:Nat} {g:TG} {tt:TT} {te:TE} {σ0:St} {D:Addr} {Fin:List V→Hp→Prop} {H1:Hp} (Pv:Nat→List V→Hp→Prop) (h0:Pv 0 [] (upd H1 D (.lst []))) (hl:∀ i ys H,Pv i ys H→H D=some (.lst ys))
    (hgo:∀ i ys H,i<n→Pv i ys H→J.go i H) (hstop:∀ ys H,Pv n ys H→J.stop n H)
    (hs:∀ i ys H x H',i<n→Pv i ys H→J.yld i H x H' → g x σ0 H' fun σ2 H2=>Keeps0 σ0 σ2∧tt σ2 H2 fun b H3 =>
      if b=true then te σ2 H3 fun v H4=>H4 D=some (.lst ys)∧ys.length<sizeLine∧Pv (i+1) (ys ++ [v]) (upd H4 D (.lst (ys ++ [v]))) else Pv (i+1) ys H3)
    (hd:∀ ys H,Pv n ys H→Fin ys H):CompW J g tt te σ0 D Fin H1:=by
  refine⟨fun i m ys H=>m=n - i∧i≤n∧Pv i ys H,⟨n,by simp,Nat.zero_le _,h0⟩,?_⟩
  rintro i m ys H ⟨rfl,hi,p⟩
  refine⟨hl i ys H p,?_⟩
  by_cases hlt:i<n
  · exact .inr ⟨hgo i ys H hlt p,Pv (i+1),fun zs H' q=>⟨n - (i+1),by lia,rfl,hlt,q⟩,fun x H' y=>hs i ys H x H' hlt p y⟩
  · have e:i=n:=by lia
    subst e
    exact .inl ⟨hstop ys H p,hd ys H p⟩
theorem comp_range {lo:Int} {n:Nat} {g:TG} {tt:TT} {te:TE} {σ0:St} {D:Addr} {Fin:List V→Hp→Prop} {H1:Hp} (Pv:Nat→List V→Hp→Prop) (h0:Pv 0 [] (upd H1 D (.lst []))) (hl:∀ i ys H,Pv i ys H→H D=some (.lst ys))
    (hs:∀ i ys H,i<n→Pv i ys H→g (.int (lo+i)) σ0 H fun σ2 H2=>Keeps0 σ0 σ2∧tt σ2 H2 fun b H3 =>
      if b=true then te σ2 H3 fun v H4=>H4 D=some (.lst ys)∧ys.length<sizeLine∧Pv (i+1) (ys ++ [v]) (upd H4 D (.lst (ys ++ [v]))) else Pv (i+1) ys H3)
    (hd:∀ ys H,Pv n ys H→Fin ys H):CompW (Itr lo n) g tt te σ0 D Fin H1 :=
  comp_go Pv h0 hl (fun i ys H h _=>h) (fun ys H _=>Nat.le_refl _) (fun i ys H x H' h p y=>by obtain⟨e,y⟩:=y;subst e y;exact hs i ys _ h p) hd
theorem keeps_set0 {v:Option V} {r:St}:Keeps0 (none::r) (v::r):=⟨rfl,fun i w h=>by
  cases i with
  | zero=>cases h
  | succ i=>exact h⟩
end L2
namespace L2
open PySem PySem.Spec PyProof.Rows
section
variable {X:Cx}
def rSlS:V→Option Int→Option Int→Hp→VK→Prop:=fun x lo hi H Q=>∃ z,x = .str z∧z.length≤sizeLine∧Q (.str (Txt.slice z lo hi)) H
theorem isPart_part {v:Value} {o:Option Int} (h:IsPart v o):∃ p:Option (Int×Tok),v=partValue p∧o=p.map (·.1):=by
  cases h with
  | none=>exact⟨none,rfl,rfl⟩
  | int i t=>exact⟨some (i,t),rfl,rfl⟩
theorem sl_str:SlR X rSlS:=by
  intro pins s σ H x v vl vu lo hi sl Q I rx hs pl pu h
  obtain⟨z,rfl,hz,q⟩:=h
  obtain⟨t,rfl⟩:=rx
  obtain⟨p1,rfl,rfl⟩:=isPart_part pl
  obtain⟨p2,rfl,rfl⟩:=isPart_part pu
  refine⟨"str",_,F.slot_str_getitem.lookup,typeIs_str _ _ _,wpAny_getItem_str_slice (l:=p1) (u:=p2) (st:=none) hs rfl
    (post_val_or_str ⟨Nat.le_trans (Txt.slice_le z _ _) hz,fun t' k=>⟨.str (Txt.slice z (p1.map (·.1)) (p2.map (·.1))),H,I.tok _,⟨t',rfl⟩,q⟩⟩)⟩
theorem strsAre_of:∀ {ys:List Str} {us:List Value},Vals (ys.map V.str) us→StrsAre us ys
  | [],_,.nil => .nil
  | y::ys,_,.cons r t=>by obtain⟨k,rfl⟩:=r;exact .cons y k (strsAre_of t)
def rJoin (K:PySem.W.Frag):V→List V→Hp→VK→Prop:=fun x vs H Q=>∃ (z:Str) (p:Addr) (ys:List Str),x = .str z∧vs = [.ref p]∧(SqL K H p (ys.map V.str)∨SqT K H p (ys.map V.str))∧(ys.map (·.length)).sum+ys.length * z.length≤16777216∧Q (.str (Txt.join z ys)) H
theorem mt_join:MtM X "str.join" (rJoin X.K):=by
  intro pins s σ H x vs v us Q I rx rv h
  obtain⟨z,p,ys,rfl,rfl,hq,hz,q⟩:=h
  obtain⟨t,rfl⟩:=rx
  obtain⟨u,rfl,ru⟩:=rv.one
  cases ru
  rcases hq with hq | hq
  · obtain⟨its,r,pl,_⟩:=I.list hq
    exact join_list pl.isList (strsAre_of (by simpa using r)) hz fun t' k=>⟨.str _,H,I.tok _,⟨_,rfl⟩,q⟩
  · obtain⟨its,r,pl,_⟩:=I.tuple hq
    exact join_tuple pl (strsAre_of (by simpa using r)) hz fun t' k=>⟨.str _,H,I.tok _,⟨_,rfl⟩,q⟩
def rMulS:R2:=fun x y H Q=>∃ z n,x = .str z∧y = .int n∧MulOk z n∧Q (.str (Txt.mul z n)) H
theorem op_mulS:OpR X (binaryOp .Mult) rMulS:=by
  intro pins s σ H x y v u Q I rx ry h
  obtain⟨z,n,rfl,rfl,hm,q⟩:=h
  obtain⟨t,rfl⟩:=rx
  obtain⟨t',rfl⟩:=ry
  exact SB.mul hm fun t2 k=>⟨.str _,H,I.tok _,⟨_,rfl⟩,q⟩
theorem call_isinst:CallR X (.builtin "isinstance") (fun xs H Q=>∃ x c t b,xs = [x,.ty c]∧TyOf X.K H x t∧PySem.W.kitOne X.K t (.type c)=some b∧Q (.bl b) H):=by
  intro pins s σ H xs us Q I r h
  obtain⟨x,c,t,b,rfl,ty,e,q⟩:=h
  obtain⟨u,v,rfl,ru,rv⟩:=r.two
  cases rv
  exact isinst_ok I ru ty e fun tk=>⟨.bl b,H,I.tok _,rfl,q⟩
def Its (z:Str):It:=⟨fun i _=>i<z.length,fun i H x H' => H' = H∧∃ c,z.cps[i]? = some c∧x = .str ⟨#[c]⟩,fun i _=>z.length≤i⟩
end
theorem turn_strA {P:Program} {w:World} {K:PySem.W.Frag} {tg:Expr} (it:Addr) (z:Str) (t:Tok):Turn P w K tg (Its z) [it] it (fun i h=>i≤z.length∧h.IsStrIter it "str_ascii_iterator" z t i) where
  mem:=by simp
  obj:=fun i h st b hb=>by
    have e:b=it:=by simpa using hb
    subst e
    obtain⟨_,o,e,c,d⟩:=st
    exact⟨o,e,fun v z=>by rw [d] at z;cases z⟩
  keep:=fun i h h' st k=>⟨st.1,let ⟨o,e,c,d⟩:=st.2;⟨o,k it (by simp) o e,c,d⟩⟩
  item:=by
    intro X hP hw hK hc i pins s σ H E I hf st hg
    subst hP hw hK
    obtain⟨f0,f1,f2,f3,f4,f5⟩:=hf it (by simp)
    have hi:i<z.cps.size:=hg
    refine wpAny_pyNext_ascii_item st.2 (c:=z.cps[i]) (by simp [hi]) fun h' hit' hs' => ?_
    have I1:Inv X pins σ H { s with heap:=h',toks:=s.toks+1 }:=I.turned (fun b o hb e=>(hs'.2 b hb).trans e) f0 f1 f3 f4 f5
    obtain⟨o,e,c,d⟩:=id hit'
    exact⟨_,rfl,go_of (s := { s with heap:=h',toks:=s.toks+1 }) e c d (by decide) ⟨.str ⟨#[z.cps[i]]⟩,H,I1,⟨_,rfl⟩,⟨rfl,_,by simp [hi],rfl⟩,⟨hg,hit'⟩,fun b hb=>(hf b hb).1⟩⟩
  done:=by
    intro X hP hw hK hc i pins s σ H E I hf st hg
    subst hP hw hK
    obtain⟨f0,f1,f2,f3,f4,f5⟩:=hf it (by simp)
    have hi:z.cps.size≤i:=hg
    exact wpAny_pyNext_ascii_end (I.ok.hd hc) st.2 (by simp;lia) fun h' eb=>⟨rfl,I.turned (t' := s.toks) (fun b o hb e=>eb b o hb e) f0 f1 f3 f4 f5⟩
  self:=fun _ _ _ _ _ st h=>wpAny_pyIter_striter_ascii st.2 h
theorem turn_strW {P:Program} {w:World} {K:PySem.W.Frag} {tg:Expr} (it:Addr) (z:Str) (t:Tok):Turn P w K tg (Its z) [it] it (fun i h=>i≤z.length∧h.IsStrIter it "str_iterator" z t i) where
  mem:=by simp
  obj:=fun i h st b hb=>by
    have e:b=it:=by simpa using hb
    subst e
    obtain⟨_,o,e,c,d⟩:=st
    exact⟨o,e,fun v z=>by rw [d] at z;cases z⟩
  keep:=fun i h h' st k=>⟨st.1,let ⟨o,e,c,d⟩:=st.2;⟨o,k it (by simp) o e,c,d⟩⟩
  item:=by
    intro X hP hw hK hc i pins s σ H E I hf st hg
    subst hP hw hK
    obtain⟨f0,f1,f2,f3,f4,f5⟩:=hf it (by simp)
    have hi:i<z.cps.size:=hg
    refine wpAny_pyNext_wide_item st.2 (c:=z.cps[i]) (by simp [hi]) fun h' hit' hs' => ?_
    have I1:Inv X pins σ H { s with heap:=h',toks:=s.toks+1 }:=I.turned (fun b o hb e=>(hs'.2 b hb).trans e) f0 f1 f3 f4 f5
    obtain⟨o,e,c,d⟩:=id hit'
    exact⟨_,rfl,go_of (s := { s with heap:=h',toks:=s.toks+1 }) e c d (by decide) ⟨.str ⟨#[z.cps[i]]⟩,H,I1,⟨_,rfl⟩,⟨rfl,_,by simp [hi],rfl⟩,⟨hg,hit'⟩,fun b hb=>(hf b hb).1⟩⟩
  done:=by
    intro X hP hw hK hc i pins s σ H E I hf st hg
    subst hP hw hK
    obtain⟨f0,f1,f2,f3,f4,f5⟩:=hf it (by simp)
    have hi:z.cps.size≤i:=hg
    exact wpAny_pyNext_wide_end (I.ok.hd hc) st.2 (by simp;lia) fun h' eb=>⟨rfl,I.turned (t' := s.toks) (fun b o hb e=>eb b o hb e) f0 f1 f3 f4 f5⟩
  self:=fun _ _ _ _ _ st h=>wpAny_pyIter_striter_wide st.2 h
section
variable {X:Cx} {tg:Expr}
end
end L2
namespace L2
open PySem PySem.Spec PyProof.Rows
structure Vw (K:PySem.W.Frag) (H:Hp) (h:Heap):Prop where
  lst:∀ a xs,SqL K H a xs→∃ its:List Value,Vals xs its∧h.IsList a its.toArray
  tup:∀ a xs,SqT K H a xs→∃ its:List Value,Vals xs its∧h.IsTuple a its.toArray
theorem SqL.ne {K:PySem.W.Frag} {H:Hp} {a b:Addr} {xs:List V} (h:SqL K H a xs) (hb:H b=none) (hk:K.lookup b=none):a≠b:=by
  rintro rfl
  rcases h with (h | ⟨o,h⟩) | ⟨o,_,_,h,_⟩
  · rw [hb] at h;cases h
  · rw [hb] at h;cases h
  · rw [hk] at h;cases h
theorem SqT.ne {K:PySem.W.Frag} {H:Hp} {a b:Addr} {xs:List V} (h:SqT K H a xs) (hb:H b=none) (hk:K.lookup b=none):a≠b:=by
  rintro rfl
  rcases h with (h | ⟨o,h⟩) | ⟨o,_,_,h,_⟩
  · rw [hb] at h;cases h
  · rw [hb] at h;cases h
  · rw [hk] at h;cases h
theorem Inv.vw {X:Cx} {pins:List (Addr×Obj)} {σ:St} {H:Hp} {s:Shared} (I:Inv X pins σ H s):Vw X.K H s.heap :=
  ⟨fun a xs q=>let ⟨its,r,l,_⟩:=I.list q;⟨its,r,l.isList⟩,fun a xs q=>let ⟨its,r,l,_⟩:=I.tuple q;⟨its,r,l⟩⟩
end L2
namespace L2
open PySem PySem.Spec PyProof.Rows
section
variable {prog:Program} {w:World} {K:PySem.W.Frag} {A:Around} {E:Value→Shared→Prop} {s:Shared} {J1 J2:It} {t1 t2:Nat→Heap→Prop} {z TI TO i1 i2:Addr} {H:Hp}
end
end L2
namespace L2
open PySem PySem.Spec PyProof.Rows
set_option maxHeartbeats 4000000 in
section
variable {X:Cx} {elts:List Expr} {kk:Nat} {tpos:Pos}
end
end L2
namespace L2
open PySem PySem.Spec PyProof.Rows
structure Cal (P:Program) (w:World) (K:PySem.W.Frag) (mg:Str→Option Value) (base:Heap) (x:Str) (k:Nat) (ps:List Str) (sp:Sp):Prop where
  ex:∃ f fd,FnOk P w K mg base CX0 k f fd ps sp∧mg x=some (.ref f)∧PySem.W.keepIn K (.ref f)=true∧Binds K fd ps []
structure Df (K:PySem.W.Frag) (mg:Str→Option Value) (x:Str) (st:Stmt) (ps:List Str):Prop where
  ex:∃ f fd,Fun K x x st f fd∧mg x=some (.ref f)∧Binds K fd ps []
theorem Df.cal {P:Program} {w:World} {K:PySem.W.Frag} {mg:Str→Option Value} {base:Heap} {x:Str} {st:Stmt} {N ps:List Str} {k:Nat} {sp:Sp} (D:Df K mg x st ps) (S:FnScope N ps (defScope st)) (len:∀ vs H Q E,sp vs H Q E→vs.length=ps.length)
    (hbody:∀ (f:Addr) (cdv:Value) (A:Around) (outer:List Env) (s:Shared) (H:Hp) (vs:List V) (Q:VK) (E:XK),Room k (A.deeper (envOfC x (defScope st) s.heap.objs.size f cdv))→sp vs H Q E →
      ∃ t,PSs (cxOf CX0 P w K mg base N x (defScope st) f cdv A outer s H E).nox (defBody st) t∧t { nx:=fun _ H' => Q .non H',rt:=Q } (start N vs) H):Cal P w K mg base x (k+1) ps sp:=by
  obtain⟨f,fd,F,hm,hb⟩:=D.ex
  exact⟨f,fd,F.ok S len fun cdv A outer s H vs Q E hr h=>hbody f cdv A outer s H vs Q E hr h,hm,F.kp,hb⟩
theorem Cal.imp {P:Program} {w:World} {K:PySem.W.Frag} {mg:Str→Option Value} {base:Heap} {x:Str} {k:Nat} {ps:List Str} {sp sp' : Sp} (C:Cal P w K mg base x k ps sp) (h:∀ vs H Q E,sp' vs H Q E→sp vs H Q E):Cal P w K mg base x k ps sp' := by
  obtain⟨f,fd,F,r⟩:=C.ex
  exact⟨f,fd,F.imp h,r⟩
section
variable {X:Cx} {x:Str} {k j:Nat} {ps:List Str} {sp:Sp} {p pos:Pos} {e:Expr} {es:List Expr} {t:TA}
theorem pe_c (C:Cal X.prog X.w X.K X.mg X.base x k ps sp) (hr:Room j X.A) (ha:PA X (e::es) t) (hjk:k≤j:=by decide) (hg:Gl X x:=by rfl) (hdb:(x==("__debug__" : Str))=false:=by decide)
    (he:starEach (e::es) X.env=(false,eval e X.env)::starEach es X.env:=by rfl) (hpl:(backTo pos (starEach es X.env)).any (·.1)=false:=by rfl) :
    PE X (.Call (.Name x p) (e::es) [] pos) (tCall sp [] E0 t):=by
  obtain⟨f,fd,F,hm,hk,hb⟩:=C.ex
  exact pe_call F (hr.mono hjk) hg hm hk hb .nil pass0 ha hdb he hpl
theorem pe_c0 (C:Cal X.prog X.w X.K X.mg X.base x k ps sp) (hr:Room j X.A) (hjk:k≤j:=by decide) (hg:Gl X x:=by rfl) (hdb:(x==("__debug__" : Str))=false:=by decide) :
    PE X (.Call (.Name x p) [] [] pos) (tCall sp [] E0 tNil):=by
  obtain⟨f,fd,F,hm,hk,hb⟩:=C.ex
  exact pe_call0 F (hr.mono hjk) hg hm hk hb .nil pass0 hdb
end
theorem PI.or {X:Cx} {tg l:Expr} {w1 w2:TI} (h1:PI X tg l w1) (h2:PI X tg l w2):PI X tg l (fun σ H R=>w1 σ H R∨w2 σ H R):=by
  intro pins s σ H R I h
  rcases h with h | h
  · exact h1 pins s σ H R I h
  · exact h2 pins s σ H R I h
structure FeedAt (H:Hp) (a b:Addr):Prop where
  fa:∃ i j:Int,H a=some (.lst [.ref b,.int i,.int j])
  fb:∃ ns:List Int,H b=some (.lst (ns.map V.int))
structure Fd (a b:Addr) (H H' : Hp):Prop where
  feed:FeedAt H' a b
  keep:∀ c o,H c=some o→c≠a→H' c=some o
theorem FeedAt.ne {H:Hp} {a b:Addr} (F:FeedAt H a b):b≠a:=by
  obtain⟨⟨i,j,h⟩,ns,h'⟩:=F
  refine ne_of h' h ?_
  intro z
  injection z with z
  cases ns with
  | nil=>cases z
  | cons n r=>simp at z
theorem Fd.refl {a b:Addr} {H:Hp} (F:FeedAt H a b):Fd a b H H:=⟨F,fun _ _ h _=>h⟩
theorem Fd.trans {a b:Addr} {H H1 H2:Hp} (x:Fd a b H H1) (y:Fd a b H1 H2):Fd a b H H2:=⟨y.feed,fun c o h hc=>y.keep c o (x.keep c o h hc) hc⟩
theorem Fd.free {a b:Addr} {H H' : Hp} (x:Fd a b H H') {p:Addr} (h:H' p=none):H p=none:=by
  cases e:H p with
  | none=>rfl
  | some o =>
    by_cases hp:p=a
    · subst hp
      obtain⟨i,j,q⟩:=x.feed.fa
      rw [h] at q;cases q
    · rw [x.keep p o e hp] at h;cases h
theorem FeedAt.upd {H:Hp} {a b p:Addr} {o:HO} (F:FeedAt H a b) (ha:a≠p) (hb:b≠p):FeedAt (upd H p o) a b :=
  ⟨let ⟨i,j,h⟩:=F.fa;⟨i,j,by rw [upd_ne ha];exact h⟩,let ⟨ns,h⟩:=F.fb;⟨ns,by rw [upd_ne hb];exact h⟩⟩
theorem FeedAt.na {H:Hp} {a b p:Addr} (F:FeedAt H a b) (h:H p=none):a≠p:=by obtain⟨i,j,q⟩:=F.fa;exact ne_of_none q h
theorem FeedAt.nb {H:Hp} {a b p:Addr} (F:FeedAt H a b) (h:H p=none):b≠p:=by obtain⟨ns,q⟩:=F.fb;exact ne_of_none q h
theorem Fd.put {a b p:Addr} {H H' : Hp} {o:HO} (x:Fd a b H H') (F:FeedAt H a b) (h:H p=none):Fd a b H (upd H' p o) :=
  ⟨x.feed.upd (F.na h) (F.nb h),fun c u e hc=>by rw [upd_ne (ne_of_none e h)];exact x.keep c u e hc⟩
theorem Fd.new {a b p:Addr} {H H' : Hp} {o:HO} (x:Fd a b H H') (h:H' p=none):Fd a b H (upd H' p o) :=
  ⟨x.feed.upd (x.feed.na h) (x.feed.nb h),fun c u e hc=>by rw [upd_ne (ne_of_none (x.keep c u e hc) h)];exact x.keep c u e hc⟩
theorem Fd.at {a b c:Addr} {H H' : Hp} {o:HO} (x:Fd a b H H') (h:H c=some o) (hc:c≠a):H' c=some o:=x.keep c o h hc
theorem Fd.same {a b:Addr} {H H' H2:Hp} (x:Fd a b H H') (s:Same H' H2):Fd a b H H2 :=
  ⟨⟨let ⟨i,j,h⟩:=x.feed.fa;⟨i,j,s _ _ h⟩,let ⟨ns,h⟩:=x.feed.fb;⟨ns,s _ _ h⟩⟩,fun c o e hc=>s _ _ (x.keep c o e hc)⟩
theorem Same.new {H H' : Hp} {p:Addr} {o:HO} (s:Same H H') (h:H' p=none):Same H (upd H' p o):=fun c u e=>by rw [upd_ne (ne_of_none (s c u e) h)];exact s c u e
theorem Same.put {H H' : Hp} {p:Addr} {o:HO} (s:Same H H') (h:H p=none):Same H (upd H' p o):=fun c u e=>by rw [upd_ne (ne_of_none e h)];exact s c u e
def spDraw:Sp:=fun vs H Q _=>∃ a b m,vs = [.ref a,.int m]∧FeedAt H a b∧0<m∧m<1073741824∧∀ (r:Int) H',0≤r→r<m→Fd a b H H' → Q (.int r) H'
def spConst (x:Str):Sp:=fun vs H Q _=>vs = []∧Q (.str x) H
theorem atI_mod {α:Type} {xs:List α} (i:Int) (h:xs ≠ []):∃ x,x∈xs∧atI xs (i % (xs.length:Int))=some x:=by
  have hl:0<(xs.length:Int):=by
    cases xs with
    | nil=>exact absurd rfl h
    | cons a r=>simp only [List.length_cons];lia
  have h0:=Int.emod_nonneg i (show (xs.length:Int)≠0 by lia)
  have h1:=Int.emod_lt_of_pos i hl
  have hn:(i % (xs.length:Int)).toNat<xs.length:=by lia
  refine⟨xs[(i % (xs.length:Int)).toNat],List.getElem_mem hn,?_⟩
  unfold atI ixN
  rw [if_pos h0,if_pos h1]
  simp [hn]
theorem atI_lt {α:Type} {xs:List α} {i:Int} (h0:0≤i) (h1:i<(xs.length:Int)):∃ x,xs[i.toNat]? = some x∧atI xs i=some x:=by
  have hn:i.toNat<xs.length:=by lia
  refine⟨xs[i.toNat],by simp,?_⟩
  unfold atI ixN
  rw [if_pos h0,if_pos h1]
  simp [hn]
end L2
namespace L2
open PySem PySem.Spec PyProof.Rows
mutual
inductive Dt (K:PySem.W.Frag) (H:Hp):V→PyData→Prop
  | non:Dt K H .non .none
  | bl (b:Bool):Dt K H (.bl b) (.bool b)
  | int (i:Int):Dt K H (.int i) (.int i)
  | str (x:Str):Dt K H (.str x) (.str x)
  | lst {a:Addr} {xs:List V} {ds:List PyData}:SqL K H a xs→Dts K H xs ds→Dt K H (.ref a) (.list ds)
  | tup {a:Addr} {xs:List V} {ds:List PyData}:SqT K H a xs→Dts K H xs ds→Dt K H (.ref a) (.tuple ds)
inductive Dts (K:PySem.W.Frag) (H:Hp):List V→List PyData→Prop
  | nil:Dts K H [] []
  | cons {x:V} {xs:List V} {d:PyData} {ds:List PyData}:Dt K H x d→Dts K H xs ds→Dts K H (x::xs) (d::ds)
end
section
variable {X:Cx} {pins:List (Addr×Obj)} {σ:St} {H:Hp} {s:Shared}
mutual
theorem Dt.reads (I:Inv X pins σ H s):∀ {x:V} {d:PyData} {u:Value},Dt X.K H x d→RelV x u→∃ as,Reads s.heap u d as
  | _,_,_,.non,r=>by cases r;exact⟨_,.none⟩
  | _,_,_,.bl b,r=>by cases r;exact⟨_,.bool b⟩
  | _,_,_,.int i,r=>by obtain⟨t,rfl⟩:=r;exact⟨_,.int i t⟩
  | _,_,_,.str x,r=>by obtain⟨t,rfl⟩:=r;exact⟨_,.str x t⟩
  | _,_,_,.lst q ds,r=>by
    cases r
    obtain⟨its,rv,⟨o,n,e,c,_,d⟩,_⟩:=I.list q
    obtain⟨as,h⟩:=Dts.reads I ds rv
    exact⟨_,.list e c d (by simpa using h)⟩
  | _,_,_,.tup q ds,r=>by
    cases r
    obtain⟨its,rv,⟨o,e,c,n,d⟩,_⟩:=I.tuple q
    obtain⟨as,h⟩:=Dts.reads I ds rv
    exact⟨_,.tuple e c d (by simpa using h)⟩
theorem Dts.reads (I:Inv X pins σ H s):∀ {xs:List V} {ds:List PyData} {us:List Value},Dts X.K H xs ds→Vals xs us→∃ as,ReadsAll s.heap us ds as
  | _,_,_,.nil,.nil=>⟨_,.nil⟩
  | _,_,_,.cons d ds,.cons r rs=>by
    obtain⟨as,h⟩:=Dt.reads I d r
    obtain⟨bs,h'⟩:=Dts.reads I ds rs
    exact⟨_,.cons h h'⟩
end
end
section
variable {X:Cx} {k:Nat}
def rEqD (K:PySem.W.Frag):R2:=fun x y H Q=>∃ d e,Dt K H x d∧Dt K H y e∧d.canLay0=true∧e.canLay0=true∧min d.depth e.depth≤100∧Q (.bl (PyData.eqv d e)) H
def rNeD (K:PySem.W.Frag):R2:=fun x y H Q=>∃ d e,Dt K H x d∧Dt K H y e∧d.canLay0=true∧e.canLay0=true∧min d.depth e.depth≤100∧Q (.bl (!PyData.eqv d e)) H
theorem op_eqD (hr:Room k X.A):OpR X (compareOp .Eq) (rEqD X.K):=by
  intro pins s σ H x y v u Q I rx ry h
  obtain⟨d,e,hd,he,cd,ce,hm,q⟩:=h
  obtain⟨as,r1⟩:=hd.reads I rx
  obtain⟨bs,r2⟩:=he.reads I ry
  have hu:=hr.un
  exact SeqAt.rcAt_reads r1 r2 cd ce (by lia) X.prog X.w X.xe _ ⟨.bl _,H,I,rfl,q⟩
theorem op_neD (hr:Room k X.A):OpR X (compareOp .NotEq) (rNeD X.K):=by
  intro pins s σ H x y v u Q I rx ry h
  obtain⟨d,e,hd,he,cd,ce,hm,q⟩:=h
  obtain⟨as,r1⟩:=hd.reads I rx
  obtain⟨bs,r2⟩:=he.reads I ry
  have hu:=hr.un
  exact SeqAt.rcNeAt_reads r1 r2 cd ce (by lia) X.prog X.w X.xe _ ⟨.bl _,H,I,rfl,q⟩
def rAddU:R2:=fun x y H Q=>(∃ i j,x = .int i∧y = .int j∧Q (.int (i+j)) H)∨(∃ i j,x = .str i∧y = .str j∧i.length+j.length≤sizeLine∧Q (.str (i++j)) H)∨rCat x y H Q
theorem op_addU:OpR X (binaryOp .Add) rAddU:=op_add.or (op_add_str.or op_cat)
def rMulU:R2:=fun x y H Q=>(∃ i j,x = .int i∧y = .int j∧CMul i j∧Q (.int (i * j)) H)∨rMulS x y H Q∨rRep x y H Q
theorem op_mulU:OpR X (binaryOp .Mult) rMulU:=op_mul.or (op_mulS.or op_rep)
def rEqU (K:PySem.W.Frag):R2:=fun x y H Q=>rEq x y H Q∨rEqD K x y H Q
theorem op_eqU (hr:Room k X.A):OpR X (compareOp .Eq) (rEqU X.K):=op_eq.or (op_eqD hr)
def rNeU (K:PySem.W.Frag):R2:=fun x y H Q=>rNe x y H Q∨rNeD K x y H Q
theorem op_neU (hr:Room k X.A):OpR X (compareOp .NotEq) (rNeU X.K):=op_ne.or (op_neD hr)
def rInU (K:PySem.W.Frag):R2:=fun x y H Q=>(∃ i j,x = .str i∧y = .str j∧Q (.bl (!(Builtin.Str.occurrences j i 0 j.length 1).isEmpty)) H)∨rIn K false x y H Q
theorem op_inU:OpR X (compareOp .In) (rInU X.K):=op_in_str.or op_in_seq
def rNinU (K:PySem.W.Frag):R2:=fun x y H Q=>(∃ i j,x = .str i∧y = .str j∧Q (.bl (!(!(Builtin.Str.occurrences j i 0 j.length 1).isEmpty))) H)∨rIn K true x y H Q
theorem op_ninU:OpR X (compareOp .NotIn) (rNinU X.K):=op_notIn_str.or op_notIn_seq
def rSlU (K:PySem.W.Frag):V→Option Int→Option Int→Hp→VK→Prop:=fun x lo hi H Q=>rSlS x lo hi H Q∨rSlL K x lo hi H Q∨rSlT K x lo hi H Q
theorem sl_U:SlR X (rSlU X.K):=sl_str.or (sl_list.or sl_tup)
def iAny (K:PySem.W.Frag) (tl:TE):TI:=fun σ H R=>tl σ H fun x H1=>(∃ a,x = .ref a∧(∃ xs,SqL K H1 a xs)∧R (Itl K a) H1)∨(∃ a,x = .ref a∧(∃ xs,SqT K H1 a xs)∧R (Itt K a) H1)∨∃ z,x = .str z∧R (Its z) H1
theorem pi_any {tg l:Expr} {tl:TE} (hl:PE X l tl):PI X tg l (iAny X.K tl):=by
  intro pins s σ H R I h
  refine thn (hl pins s σ H _ I h) fun v s1 ⟨x,H1,I1,r1,q1⟩ => ?_
  have fp:∀ b ∈ [s1.heap.objs.size],FpOk X pins H1 b:=fun b hb=>by
    have e:b=s1.heap.objs.size:=by simpa using hb
    subst e
    exact I1.fpOk (Nat.le_refl _) (I1.hok.fresh (Nat.le_refl _))
  rcases q1 with ⟨a,e,⟨xs,hq⟩,q⟩ | ⟨a,e,⟨xs,hq⟩,q⟩ | ⟨z,e,q⟩
  · subst e
    cases r1
    obtain⟨its,rv,p,hz⟩:=I1.list hq
    exact wpAny_pyIter_list p.isList ⟨s1.heap.objs.size,[s1.heap.objs.size],_,_,H1,rfl,I1.kept (t' := s1.toks) fun b o e=>Heap.get?_push_of_some _ e,turn_list a _,⟨_,Heap.get?_push_size _ rfl,rfl,rfl⟩,fp,q⟩
  · subst e
    cases r1
    obtain⟨its,rv,p,hz⟩:=I1.tuple hq
    exact wpAny_pyIter_tuple (show s1.heap.IsTuple a its.toArray from p) ⟨s1.heap.objs.size,[s1.heap.objs.size],_,_,H1,rfl,I1.kept (t' := s1.toks) fun b o e=>Heap.get?_push_of_some _ e,turn_tuple a _,⟨_,Heap.get?_push_size _ rfl,rfl,rfl⟩,fp,q⟩
  · subst e
    obtain⟨t,rfl⟩:=r1
    cases ha:z.cps.all (· < 128)
    · exact wpAny_pyIter_wide ha ⟨s1.heap.objs.size,[s1.heap.objs.size],_,_,H1,rfl,I1.kept (t' := s1.toks) fun b o e=>Heap.get?_push_of_some _ e,turn_strW _ z t,⟨Nat.zero_le _,_,Heap.get?_push_size _ rfl,rfl,rfl⟩,fp,q⟩
    · exact wpAny_pyIter_ascii ha ⟨s1.heap.objs.size,[s1.heap.objs.size],_,_,H1,rfl,I1.kept (t' := s1.toks) fun b o e=>Heap.get?_push_of_some _ e,turn_strA _ z t,⟨Nat.zero_le _,_,Heap.get?_push_size _ rfl,rfl,rfl⟩,fp,q⟩
end
end L2
namespace L2
open PySem PySem.Spec PyProof.Rows
section
variable {X:Cx} {a b o e l:Expr} {es:List Expr} {ta tb to te tl:TE} {t:TA} {pos p2 apos cpos:Pos} {k:Nat} {name:Str} {T idn:String} {r:V→List V→Hp→VK→Prop}
theorem ix_k (K:PySem.W.Frag) (hK:X.K=K):IxR X (rIx K):=by subst hK;exact ix_seq
theorem len_k (K:PySem.W.Frag) (hK:X.K=K):CallR X (.builtin "len") (fun xs H Q=>∃ x n,xs = [x]∧LenV K x H n∧Q (.int n) H):=by subst hK;exact call_len
theorem eq_k (K:PySem.W.Frag) (hK:X.K=K) (hr:Room k X.A):OpR X (compareOp .Eq) (rEqU K):=by subst hK;exact op_eqU hr
theorem ne_k (K:PySem.W.Frag) (hK:X.K=K) (hr:Room k X.A):OpR X (compareOp .NotEq) (rNeU K):=by subst hK;exact op_neU hr
theorem in_k (K:PySem.W.Frag) (hK:X.K=K):OpR X (compareOp .In) (rInU K):=by subst hK;exact op_inU
theorem nin_k (K:PySem.W.Frag) (hK:X.K=K):OpR X (compareOp .NotIn) (rNinU K):=by subst hK;exact op_ninU
theorem sl_k (K:PySem.W.Frag) (hK:X.K=K):SlR X (rSlU K):=by subst hK;exact sl_U
theorem any_k {tg:Expr} (K:PySem.W.Frag) (hK:X.K=K) (hl:PE X l tl):PI X tg l (iAny K tl):=by subst hK;exact pi_any hl
theorem lst_k {tg:Expr} (K:PySem.W.Frag) (hK:X.K=K) (hl:PE X l tl):PI X tg l (iList K tl):=by subst hK;exact pi_list hl
theorem isi_k (K:PySem.W.Frag) (hK:X.K=K):CallR X (.builtin "isinstance") (fun xs H Q=>∃ x c t b,xs = [x,.ty c]∧TyOf K H x t∧PySem.W.kitOne K t (.type c)=some b∧Q (.bl b) H):=by subst hK;exact call_isinst
theorem list_k (K:PySem.W.Frag) (hK:X.K=K):CallR X (.type "list") (fun xs H Q=>∃ p ys,xs = [.ref p]∧(SqL K H p ys∨SqT K H p ys)∧∀ l,H l=none→Q (.ref l) (upd H l (.lst ys))):=by subst hK;exact call_list_of
theorem join_k (K:PySem.W.Frag) (hK:X.K=K):MtM X "str.join" (rJoin K):=by subst hK;exact mt_join
theorem gtup_k {kk n:Nat} {u:TGs} (K:PySem.W.Frag) (hK:X.K=K) (hc:X.calm=true) (h:PGs X es u) (hn:(assignEach es X.env).length=n:=by rfl) (hst:(assignEach es X.env).findIdx? (·.1)=none:=by rfl):PG X (.Tuple es kk pos) (gTup K n u):=by subst hK;exact pg_tup hc h hn hst
theorem bm_k (K:PySem.W.Frag) (hK:X.K=K) (pa:PlainAttrs T) (slot:Slot T name idn) (hty:typeOf (.builtin idn)=pure (.type "method_descriptor")) (hm:MtR X idn r) (ho:PE X o to) (ha:PA X (e::es) t)
    (hbase:attributeBase o name X.env (eval o X.env)=eval o X.env:=by rfl)
    (hfew:((backTo cpos (starEach (e::es) X.env)).all (fun x => !x.1)&&(backToKw cpos (keywordEach [] X.env)).all (fun x=>x.1.isSome)
      && decide ((e::es).length+([]:List Keyword).length+(if ([]:List Keyword).isEmpty then 0 else 1)<30))=true:=by rfl)
    (hline:(apos.endLine==cpos.line)=true:=by rfl) (hs:starEach (e::es) X.env=(false,eval e X.env)::starEach es X.env:=by rfl) (hplain:(backTo cpos (starEach es X.env)).any (·.1)=false:=by rfl) :
    PE X (.Call (.Attribute o name apos) (e::es) [] cpos) (tBM K T r to t):=by subst hK;exact pe_bm pa slot hty hm ho ha hbase hfew hline hs hplain
theorem bm0_k (K:PySem.W.Frag) (hK:X.K=K) (pa:PlainAttrs T) (slot:Slot T name idn) (hty:typeOf (.builtin idn)=pure (.type "method_descriptor")) (hm:MtR X idn r) (ho:PE X o to)
    (hbase:attributeBase o name X.env (eval o X.env)=eval o X.env:=by rfl) (hline:(apos.endLine==cpos.line)=true:=by rfl):PE X (.Call (.Attribute o name apos) [] [] cpos) (tBM0 K T r to):=by subst hK;exact pe_bm0 pa slot hty hm ho hbase hline
theorem tru_k (K:PySem.W.Frag) (hK:X.K=K) (ha:PE X a ta) (he:∀ whole,isTrue a X.env whole=(do let v ← whole;standAt a.pos;holding [v] (truthy v))) :
    PT X a (fun σ H Q=>ta σ H fun x H' => ∃ k,TruV K x H' k∧Q k H'):=by subst hK;exact pt_truth ha he
end
theorem comp_rangeN {lo:Int} {n:Nat} {te:TE} {r:St} {D:Addr} {Fin:List V→Hp→Prop} {H1:Hp} (Pv:Nat→List V→Hp→Prop) (h0:Pv 0 [] (upd H1 D (.lst []))) (hl:∀ i ys H,Pv i ys H→H D=some (.lst ys))
    (hs:∀ i ys H,i<n→Pv i ys H→te (some (.int (lo+i))::r) H fun v H4=>H4 D=some (.lst ys)∧ys.length<sizeLine∧Pv (i+1) (ys ++ [v]) (upd H4 D (.lst (ys ++ [v]))))
    (hd:∀ ys H,Pv n ys H→Fin ys H):CompW (Itr lo n) (gName 0) tIf0 te (none::r) D Fin H1 :=
  comp_range Pv h0 hl (fun i ys H h p=>(⟨keeps_set0,iteT (hs i ys H h p)⟩:Keeps0 (none::r) (some (.int (lo+i))::r)∧if true=true then te (some (.int (lo+i))::r) H fun v H4=>H4 D=some (.lst ys)∧ys.length<sizeLine∧Pv (i+1) (ys ++ [v]) (upd H4 D (.lst (ys ++ [v]))) else Pv (i+1) ys H)) hd
def tSeqJ (t u:TS):TS:=fun D σ H=>∃ J:St→Hp→Prop,(∀ σ' H',J σ' H' → u D σ' H')∧t { D with nx:=J } σ H
theorem pss_consJ {X:Cx} {st:Stmt} {rest:List Stmt} {t u:TS} (h1:PS X st t) (h2:PSs X rest u):PSs X (st::rest) (tSeqJ t u):=by
  intro pins s σ H D I h
  obtain⟨J,hJ,h⟩:=h
  refine wpAny_execs_cons (thn (h1 pins s σ H { D with nx:=J } I h) fun f s1 q => ?_)
  cases f with
  | next =>
    obtain⟨σ',H',I',q⟩:=q
    exact h2 pins s1 σ' H' D I' (hJ σ' H' q)
  | ret v=>exact q
  | brk=>exact q
  | cont=>exact q
def tVJ (t:TE):TE:=fun σ H Q=>∃ J:VK,(∀ v H',J v H' → Q v H')∧t σ H J
theorem pe_j {X:Cx} {e:Expr} {t:TE} (h:PE X e t):PE X e (tVJ t):=by
  intro pins s σ H Q I hw
  obtain⟨J,hJ,hw⟩:=hw
  exact thn (h pins s σ H J I hw) fun u s' ⟨v,H',I',r,q⟩=>⟨v,H',I',r,hJ v H' q⟩
def tTJ (t:TT):TT:=fun σ H Q=>∃ J:Bool→Hp→Prop,(∀ b H',J b H' → Q b H')∧t σ H J
theorem pt_j {X:Cx} {e:Expr} {t:TT} (h:PT X e t):PT X e (tTJ t):=by
  intro pins s σ H Q I hw
  obtain⟨J,hJ,hw⟩:=hw
  exact thn (h pins s σ H J I hw) fun u s' ⟨H',I',q⟩=>⟨H',I',hJ u H' q⟩
theorem iteB {c:Bool} {A B:Prop} (hA:c=true→A) (hB:c=false→B):if c=true then A else B:=by
  cases c with
  | true=>exact iteT (hA rfl)
  | false=>exact iteF (hB rfl)
end L2
namespace TX
open PySem PySem.Spec PyProof.Rows L2
abbrev tl (x:Str):List Nat:=x.cps.toList
abbrev mk (l:List Nat):Str:=⟨l.toArray⟩
theorem tl_mk (l:List Nat):tl (mk l)=l:=by simp [tl,mk]
theorem mk_tl (x:Str):mk (tl x)=x:=by simp [tl,mk]
theorem ext {x y:Str} (h:tl x=tl y):x=y:=ext_toList h
theorem len (x:Str):x.length=(tl x).length:=by simp [tl,Str.length]
theorem tl_app (x y:Str):tl (x++y)=tl x++tl y:=by
  show (x.cps++y.cps).toList=_
  simp [tl]
theorem app_len (x y:Str):(x++y).length=x.length+y.length:=by rw [len,len,len,tl_app,List.length_append]
theorem get {x:Str} {i c:Nat} (h:x.cps[i]? = some c):(tl x)[i]? = some c:=by simpa [tl] using h
theorem join_eq (z:Str) (ts:List Str):Txt.join z ts=Str.join z ts:=StrLaws.glued_eq_join z ts
theorem tl_join:∀ ts:List Str,tl (Txt.join (Str.ofString "") ts)=(ts.map tl).flatten:=by
  intro ts
  rw [join_eq]
  induction ts with
  | nil=>rfl
  | cons a r ih =>
    cases r with
    | nil=>simp [Str.join]
    | cons b r =>
      show tl (a++Str.ofString "" ++ Str.join (Str.ofString "") (b::r))=_
      rw [tl_app,tl_app,ih]
      have e:tl (Str.ofString "") = []:=by decide +kernel
      rw [e]
      simp
theorem tl_one (c:Nat):tl ⟨#[c]⟩ = [c]:=rfl
theorem join_ones (cs:List Nat):Txt.join (Str.ofString "") (cs.map fun c=>(⟨#[c]⟩:Str))=mk cs:=by
  apply ext
  rw [tl_join,tl_mk,List.map_map]
  induction cs with
  | nil=>rfl
  | cons c r ih=>rw [List.map_cons,List.flatten_cons,ih];rfl
theorem ones_sum (cs:List Nat):((cs.map fun c=>(⟨#[c]⟩:Str)).map (·.length)).sum=cs.length:=by
  induction cs with
  | nil=>rfl
  | cons c r ih=>rw [List.map_cons,List.map_cons,List.sum_cons,ih,List.length_cons];show 1+_=_;lia
theorem slice_to {x:Str} {j:Int} (h0:0≤j) (h1:j≤(tl x).length):Txt.slice x none (some j)=mk ((tl x).take j.toNat):=by
  show StrLaws.sliceText x none (some j)=_
  rw [StrLaws.sliceText_to ⟨h0,h1⟩]
  simp [mk,tl]
theorem slice_from {x:Str} {i:Int} (h0:0≤i) (h1:i≤(tl x).length):Txt.slice x (some i) none=mk ((tl x).drop i.toNat):=by
  show StrLaws.sliceText x (some i) none=_
  rw [StrLaws.sliceText_from ⟨h0,h1⟩]
  congr 2
  rw [List.take_of_length_le]
  rw [List.length_drop]
  have:(x.cps.toList).length=(tl x).length:=rfl
  lia
theorem in_one (x:Str) (c:Nat):(!(Builtin.Str.occurrences x ⟨#[c]⟩ 0 x.length 1).isEmpty)=decide (c∈tl x):=StrLaws.found_one x c
theorem small {n:Nat} (h:n≤1000000):n≤sizeLine:=by rw [sizeLine_eq];lia
theorem small' {n:Nat} (h:n≤1000000):n<sizeLine:=by rw [sizeLine_eq];lia
end TX
namespace L2
open PySem PySem.Spec PyProof.Rows TX
def spText:Sp:=fun vs H Q _=>∃ a b g n,vs = [.ref a,.str g,.int n]∧FeedAt H a b∧0<g.length∧g.length≤1000∧0≤n∧n≤1000 ∧
  ∀ (t:List Nat) H',t.length=n.toNat→(∀ c∈t,c∈tl g)→Fd a b H H' → Q (.str (mk t)) H'
end L2
namespace L2
open PySem PySem.Spec PyProof.Rows
section
variable {prog:Program} {w:World} {K:PySem.W.Frag} {A:Around} {E:Value→Shared→Prop} {s:Shared} {J:It} {st:Nat→Heap→Prop} {e it:Addr} {H:Hp}
end
section
variable {X:Cx} {elts:List Expr} {kk:Nat} {tpos:Pos}
end
end L2
namespace K
open PySem L2 TX
def NSs:Str:=Str.ofString "abcdefghijklmnopqrstuvwxyzABCDEFGHIJKLMNOPQRSTUVWXYZ0123456789-_."
def GSs:Str:=Str.ofString "?*#@"
abbrev NS:List Nat:=tl NSs
abbrev GS:List Nat:=tl GSs
theorem ns_small:∀ c∈NS,c<128:=by decide +kernel
theorem gs_small:∀ c∈GS,c<128:=by decide +kernel
theorem ns_len:NSs.length=65:=by decide +kernel
inductive Pt where
  | tx (l:List Nat)
  | gp (c:Nat)
namespace Pt
def fl:Pt→List Nat
  | tx l=>l
  | gp c => [c]
def isG:Pt→Bool
  | tx _=>false
  | gp _=>true
def ok:Pt→Prop
  | tx l=>l ≠ []∧∀ c∈l,c∈NS
  | gp c=>c∈GS
def word:Pt→Str
  | tx _=>Str.ofString "text"
  | gp _=>Str.ofString "gap"
def vs (p:Pt):List V := [.str p.word,.str (mk p.fl)]
def dat (p:Pt):PyData := .tuple [.str p.word,.str (mk p.fl)]
end Pt
def tp (t:List Nat):List Pt:=if t = [] then [] else [.tx t]
def TKeep (H H' : Hp):Prop:=∀ T xs,H T=some (.tup xs)→H' T=some (.tup xs)
theorem TKeep.refl (H:Hp):TKeep H H:=fun _ _ h=>h
theorem TKeep.trans {H H1 H2:Hp} (a:TKeep H H1) (b:TKeep H1 H2):TKeep H H2:=fun T xs h=>b T xs (a T xs h)
theorem TKeep.new {H H' : Hp} {p:Addr} {o:HO} (k:TKeep H H') (h:H' p=none):TKeep H (upd H' p o):=fun T xs e=>by rw [upd_ne (ne_of_none (k T xs e) h)];exact k T xs e
theorem TKeep.lst {H H' : Hp} {p:Addr} {ys zs:List V} (k:TKeep H H') (h:H' p=some (.lst ys)):TKeep H (upd H' p (.lst zs)):=fun T xs e=>by
  rw [upd_ne (ne_of (k T xs e) h (by intro z;cases z))];exact k T xs e
theorem Fd.tk {a b:Addr} {H H' : Hp} (F:FeedAt H a b) (x:Fd a b H H'):TKeep H H' := fun T xs e=>by
  obtain⟨i,j,h⟩:=F.fa
  exact x.at e (ne_of e h (by intro z;cases z))
theorem Same.tk {H H' : Hp} (s:Same H H'):TKeep H H' := fun T xs e=>s _ _ e
theorem ref_last (Us:List Addr) (T:Addr):atI ((Us ++ [T]).map V.ref) (-1)=some (.ref T):=by
  unfold atI ixN
  rw [if_neg (by decide),if_pos (by simp;lia)]
  have e:(-1+(((Us ++ [T]).map V.ref).length:Int)).toNat=Us.length:=by simp;lia
  rw [e]
  simp
theorem strOk_of {l:List Nat} (h:∀ c∈l,c<128):PySem.PyData.strOk (mk l)=true:=by
  unfold PySem.PyData.strOk
  rw [Array.all_eq_true']
  intro c hc
  have:=h c (by simpa [mk] using hc)
  simp
  lia
theorem Pt.lay {p:Pt} (h:p.ok):p.dat.canLay0=true:=by
  have hs:∀ c∈p.fl,c<128:=by
    cases p with
    | gp c =>
      intro d hd
      have e:d=c:=by simpa [Pt.fl] using hd
      rw [e];exact gs_small c h
    | tx l=>exact fun c hc=>ns_small c (h.2 c hc)
  have hw:PySem.PyData.strOk p.word=true:=by
    cases p with
    | gp c=>show PySem.PyData.strOk (Str.ofString "gap")=true;decide +kernel
    | tx l=>show PySem.PyData.strOk (Str.ofString "text")=true;decide +kernel
  simp only [Pt.dat,PySem.PyData.canLay0,PySem.PyData.canLayAll0,hw,strOk_of hs,Bool.and_self]
theorem Pt.dt {K:PySem.W.Frag} {H:Hp} {T:Addr} {p:Pt} (h:H T=some (.tup p.vs)):Dt K H (.ref T) p.dat :=
  .tup (SqT.of h) (.cons (.str _) (.cons (.str _) .nil))
end K
namespace L2
open PySem PySem.Spec PyProof.Rows
section
variable {X:Cx} {x c:Str} {k:Nat} {p pos apos cpos:Pos} {o:Expr} {to:TE}
end
end L2
namespace L2
open PySem PySem.Spec PyProof.Rows
section
variable {κ:Type} [DecidableEq κ]
def valV (kvs:List (κ×V)) (k:κ):Option V:=(kvs.find? fun kv=>decide (kv.1=k)).map (·.2)
def putK (kvs:List (κ×V)) (k:κ) (v:V):List (κ×V) :=
  if (kvs.any fun kv=>decide (kv.1=k))=true then kvs.map (fun kv=>if kv.1=k then (kv.1,v) else kv) else kvs ++ [(k,v)]
def dropK (kvs:List (κ×V)) (k:κ):List (κ×V):=kvs.filter fun kv=>decide (kv.1≠k)
theorem valV_pos {p:κ×V} {r:List (κ×V)} {k:κ} (e:p.1=k):valV (p::r) k=some p.2:=by simp [valV,List.find?_cons,e]
theorem valV_neg {p:κ×V} {r:List (κ×V)} {k:κ} (e:¬ p.1=k):valV (p::r) k=valV r k:=by simp [valV,List.find?_cons,e]
theorem RelO.getD {o:Option V} {u:Option Value} {d:V} {d' : Value} (r:RelO o u) (rd:RelV d d'):RelV (o.getD d) (u.getD d'):=by
  cases o with
  | none=>cases u with
    | none=>exact rd
    | some _=>exact (show False from r).elim
  | some _=>cases u with
    | none=>exact (show False from r).elim
    | some _=>exact r
theorem KV.val {kvs:List (κ×V)} {vs:List (κ×Value)} (r:KV kvs vs) (k:κ):RelO (valV kvs k) (valueAt vs k):=by
  unfold KV at r
  induction r with
  | nil=>exact True.intro
  | @cons p q ps qs h t ih =>
    obtain⟨h1,h2⟩:=h
    by_cases e:p.1=k
    · have e' : q.1=k:=h1.symm.trans e
      have b:valueAt (q::qs) k=some q.2:=by simp [valueAt,List.find?_cons,e']
      rw [valV_pos e,b];exact h2
    · have e' : ¬ q.1=k:=fun z=>e (h1.trans z)
      have b:valueAt (q::qs) k=valueAt qs k:=by simp [valueAt,List.find?_cons,e']
      rw [valV_neg e,b];exact ih
theorem KV.any {kvs:List (κ×V)} {vs:List (κ×Value)} (r:KV kvs vs) (k:κ):(kvs.any fun kv=>decide (kv.1=k))=vs.any fun kv=>decide (kv.1=k):=by
  unfold KV at r
  induction r with
  | nil=>rfl
  | cons h t ih=>rw [List.any_cons,List.any_cons,ih,h.1]
theorem KV.repl {kvs:List (κ×V)} {vs:List (κ×Value)} (r:KV kvs vs) (k:κ) {y:V} {u:Value} (ry:RelV y u) :
    KV (kvs.map fun kv=>if kv.1=k then (kv.1,y) else kv) (vs.map fun kv=>if kv.1=k then (kv.1,u) else kv):=by
  unfold KV at r ⊢
  induction r with
  | nil=>exact .nil
  | @cons p q ps qs h t ih =>
    rw [List.map_cons,List.map_cons]
    refine .cons ?_ ih
    obtain⟨h1,h2⟩:=h
    by_cases e:p.1=k
    · rw [if_pos e,if_pos (h1.symm.trans e)];exact⟨h1,ry⟩
    · rw [if_neg e,if_neg (fun z=>e (h1.trans z))];exact⟨h1,h2⟩
theorem KV.put {kvs:List (κ×V)} {vs:List (κ×Value)} (r:KV kvs vs) (k:κ) {y:V} {u:Value} (ry:RelV y u):KV (putK kvs k y) (stored vs k u):=by
  unfold putK stored
  rw [r.any k]
  by_cases e:(vs.any fun kv=>decide (kv.1=k))=true
  · rw [if_pos e,if_pos e];exact r.repl k ry
  · rw [if_neg e,if_neg e];exact Paired.snoc r ⟨rfl,ry⟩
theorem KV.drop {kvs:List (κ×V)} {vs:List (κ×Value)} (r:KV kvs vs) (k:κ):KV (dropK kvs k) (without vs k):=by
  unfold KV at r ⊢
  unfold dropK without
  induction r with
  | nil=>exact .nil
  | @cons p q ps qs h t ih =>
    obtain⟨h1,h2⟩:=h
    rw [List.filter_cons,List.filter_cons]
    by_cases e:p.1=k
    · have a:¬ decide (p.1≠k)=true:=by simp [e]
      have b:¬ decide (q.1≠k)=true:=by simp [h1.symm.trans e]
      rw [if_neg a,if_neg b];exact ih
    · have e' : ¬ q.1=k:=fun z=>e (h1.trans z)
      have a:decide (p.1≠k)=true:=by simp [e]
      have b:decide (q.1≠k)=true:=by simp [e']
      rw [if_pos a,if_pos b];exact .cons ⟨h1,h2⟩ ih
theorem KV.length {kvs:List (κ×V)} {vs:List (κ×Value)} (r:KV kvs vs):kvs.length=vs.length:=Paired.length r
end
theorem kV_is {P:Program} {w:World} {k:Key} {u:Value} (r:RelV (kV k) u):(mixKind P w).is k u=true:=by
  cases k with
  | inl i=>obtain⟨t,e⟩:=(show ∃ t,u=Value.int i t from r);subst e;exact mixKind_int P w i t
  | inr x=>obtain⟨t,e⟩:=(show ∃ t,u=Value.str x t from r);subst e;exact mixKind_str P w x t
section
variable {P:Program} {w:World} {H:Hp} {h:Heap} {a:Addr}
end
def DGet (H:Hp) (a:Addr) (y:V) (r:Option V):Prop :=
  (∃ kvs k,Rd H a (.dK kvs)∧y=kV k∧r=valV kvs k)∨∃ kvs k b,Rd H a (.dT kvs)∧y = .ref b∧H b=some (.tup (k.map kV))∧r=valV kvs k
theorem DGet.k {H:Hp} {a:Addr} {kvs:List (Key×V)} {k:Key} (e:H a=some (.dK kvs)):DGet H a (kV k) (valV kvs k) := .inl ⟨kvs,k,.inl e,rfl,rfl⟩
theorem DGet.t {H:Hp} {a b:Addr} {kvs:List (List Key×V)} {k:List Key} (e:H a=some (.dT kvs)) (eb:H b=some (.tup (k.map kV))):DGet H a (.ref b) (valV kvs k) := .inr ⟨kvs,k,b,.inl e,rfl,eb,rfl⟩
section
variable {X:Cx} {pins:List (Addr×Obj)} {σ:St} {H:Hp} {s:Shared} {a:Addr} {y v:V} {u r:Value} {o:Option V} {A:Around} {E:Value→Shared→Prop}
end
section
variable {X:Cx} {pins:List (Addr×Obj)} {σ:St} {H:Hp} {s:Shared} {a:Addr} {kvs:List (Key×V)} {k:Key} {u:Value} {A:Around} {E:Value→Shared→Prop}
end
def NoSl (i:Expr):Prop:=∀ ov iv,subscripted i false ov iv=operate [ov,iv] (getItem ov iv)
theorem subD_of {prog:Program} {w:World} {A:Around} {E:Value→Shared→Prop} {s:Shared} {env:Env} {value slice:Expr} {pos:Pos} {T id:String} {Q:Value→Shared→Prop}
    (hl:typeLookup (.type T) "__getitem__" = pure (some (.builtin id))) (hs:NoSl slice)
    (h:wpAny (model prog w) A (eval value env) (fun o s₁=>wpAny (model prog w) A (eval slice env) (fun i s₂=>s₂.TypeIs o T∧wpAny (model prog w) A (getItem o i) Q E s₂) E s₁) E s) :
    wpAny (model prog w) A (eval (.Subscript value slice pos) env) Q E s:=by
  refine Subscript_ (wpAny_mono h (fun o s₁ h₁=>wpAny_mono h₁ (fun i s₂ h₂ => ?_) fun _ _ x=>x) fun _ _ x=>x)
  obtain⟨hT,h₂⟩:=h₂
  unfold subscriptTail
  refine wpAny_bind ?_
  rw [getitemInPython_of_ne hT.not_modules]
  refine wpAny_bind (wpAny_specialOf hT hl ?_)
  have fin:wpAny (model prog w) A (subscripted slice false o i) (fun r s₃=>wpAny (model prog w) A (letTemporaryGo value o r >>= fun _=>pure r) Q E s₃) E s₂:=by
    rw [hs o i]
    exact wpAny_operating (wpAny_mono h₂ (fun r s₃ h₃=>wpAny_bind (wpAny_letTemporaryGo (wpAny_pure h₃))) fun _ _ x=>x)
  first
    | exact wpAny_pure (wpAny_bind fin)
    | exact wpAny_bind (wpAny_pure (wpAny_bind fin))
    | exact wpAny_bind fin
section
variable {X:Cx} {o i e value:Expr} {pos pos' tpos:Pos} {td ty tv:TE}
end
section
variable {X:Cx} {pos:Pos}
end
def mergeK (kvs more:List (Key×V)):List (Key×V):=more.foldl (fun acc kv=>putK acc kv.1 kv.2) kvs
theorem KV.merge:∀ {more:List (Key×V)} {rs:List (Key×Value)} {kvs:List (Key×V)} {vs:List (Key×Value)},KV more rs→KV kvs vs→KV (mergeK kvs more) (merged vs rs):=by
  intro more rs kvs vs r
  unfold KV at r
  induction r generalizing kvs vs with
  | nil=>intro q;exact q
  | @cons p q ps qs h t ih =>
    intro r0
    have e:KV (putK kvs p.1 p.2) (stored vs q.1 q.2):=by
      have:=r0.put p.1 h.2
      rw [← h.1];exact this
    exact ih e
section
variable {X:Cx} {pins:List (Addr×Obj)} {σ:St} {H:Hp} {s:Shared} {a:Addr} {y d:V} {u r:Value} {o:Option V} {A:Around} {E:Value→Shared→Prop}
end
section
variable {X:Cx} {o e f:Expr} {apos cpos:Pos} {td ty tx:TE}
end
section
variable {X:Cx} {pins:List (Addr×Obj)} {σ:St} {H:Hp} {s:Shared} {a:Addr} {kvs:List (Key×V)} {A:Around} {E:Value→Shared→Prop}
end
section
variable {X:Cx} {pins:List (Addr×Obj)} {σ:St} {H:Hp} {s:Shared} {a:Addr} {y:V} {u:Value} {A:Around} {E:Value→Shared→Prop}
end
end L2
namespace L2
open PySem PySem.Spec PyProof.Rows
section
variable {X:Cx}
end
section
variable {κ:Type} [DecidableEq κ]
end
end L2
namespace K
open PySem L2 TX
def FIs:Str:=Str.ofString "0123456789"
def LEs:Str:=Str.ofString "abcdefghijklmnopqrstuvwxyzABCDEFGHIJKLMNOPQRSTUVWXYZ"
abbrev FI:List Nat:=tl FIs
abbrev LE:List Nat:=tl LEs
def allOf (t s:List Nat):Bool:=decide (t ≠ [])&&t.all fun c=>decide (c∈s)
def gapTakes (c:Nat) (t:List Nat):Bool:=if c=63 then decide (t.length=1) else if c=35 then allOf t FI else if c=64 then allOf t LE else true
def Pt.takes:Pt→List Nat→Bool
  | .tx l,t=>decide (t=l)
  | .gp c,t=>gapTakes c t
def cut (n:List Nat) (b e:Nat):List Nat:=(n.drop b).take (e - b)
def farTo (p:Pt) (n:List Nat) (L:Nat→Bool) (b k:Nat):Option Nat:=((List.range' b k).filter fun e=>L e&&p.takes (cut n b e)).getLast?
def far (p:Pt) (n:List Nat) (L:Nat→Bool) (b:Nat):Option Nat:=if b≤n.length then farTo p n L b (n.length+1 - b) else none
def fits (n:List Nat):List Pt→Nat→Bool
  | [],b=>decide (b=n.length)
  | p::ps,b=>(far p n (fits n ps) b).isSome
def rd (n:List Nat):List Pt→Nat→List (List Nat)
  | [],_ => []
  | p::ps,b=>(if p.isG then [cut n b ((far p n (fits n ps) b).getD 0)] else [])++rd n ps ((far p n (fits n ps) b).getD 0)
structure DF (H:Hp) (a:Addr) (f:Nat→Option Nat):Prop where
  ex:∃ kvs:List (Key×V),H a=some (.dK kvs)∧kvs.length≤5000∧∀ b:Nat,valV kvs (Sum.inl (b:Int))=(f b).map fun e=>V.int (e:Nat)
theorem DF.same {H H' : Hp} {a:Addr} {f:Nat→Option Nat} (h:DF H a f) (sm:Same H H'):DF H' a f:=let ⟨kvs,h1,h2,h3⟩:=h.ex;⟨kvs,sm _ _ h1,h2,h3⟩
theorem DF.get {H:Hp} {a:Addr} {f:Nat→Option Nat} (h:DF H a f) (b:Nat):DGet H a (.int (b:Int)) ((f b).map fun e=>V.int (e:Nat)):=by
  obtain⟨kvs,h1,h2,h3⟩:=h.ex
  have:=DGet.k (k:=Sum.inl (b:Int)) h1
  rw [h3] at this
  exact this
theorem DF.new {H:Hp} {a b:Addr} {o:HO} {f:Nat→Option Nat} (h:DF H a f) (hb:H b=none):DF (upd H b o) a f:=h.same ((Same.refl H).new hb)
inductive DS (H:Hp) (n:List Nat):List Addr→List Pt→Prop
  | nil:DS H n [] []
  | cons {d:Addr} {p:Pt} {ds:List Addr} {ps:List Pt}:DF H d (far p n (fits n ps))→DS H n ds ps→DS H n (d::ds) (p::ps)
theorem DS.same {H H' : Hp} {n:List Nat} {ds:List Addr} {ps:List Pt} (h:DS H n ds ps) (sm:Same H H'):DS H' n ds ps:=by
  induction h with
  | nil=>exact .nil
  | cons a _ ih=>exact .cons (a.same sm) ih
theorem DS.len {H:Hp} {n:List Nat} {ds:List Addr} {ps:List Pt} (h:DS H n ds ps):ds.length=ps.length:=by
  induction h with
  | nil=>rfl
  | cons _ _ ih=>simp [ih]
theorem DS.get {H:Hp} {n:List Nat} {ds:List Addr} {ps:List Pt} (h:DS H n ds ps):∀ {i:Nat} {d:Addr},ds[i]? = some d→∃ p,ps[i]? = some p∧DF H d (far p n (fits n (ps.drop (i+1)))):=by
  induction h with
  | nil=>intro i d h;simp at h
  | @cons d0 p ds ps a _ ih =>
    intro i d h
    cases i with
    | zero=>simp at h;subst h;exact⟨p,rfl,by simpa using a⟩
    | succ i =>
      obtain⟨q,h1,h2⟩:=ih (by simpa using h)
      exact⟨q,by simpa using h1,by simpa using h2⟩
theorem mk_len (l:List Nat):(mk l).length=l.length:=by rw [len,tl_mk]
theorem mk_inj {a b:List Nat}:mk a=mk b↔a=b:=⟨fun h=>by have:=congrArg tl h;rwa [tl_mk,tl_mk] at this,fun h=>by rw [h]⟩
theorem dec_str (a b:List Nat):decide (V.str (mk a)=V.str (mk b))=decide (a=b):=decide_eq_decide.mpr ⟨fun h=>by injection h with h;exact mk_inj.mp h,fun h=>by rw [h]⟩
end K
namespace L2
open PySem PySem.Spec PyProof.Rows
section
variable {X:Cx}
end
end L2
namespace PySem.Rv
open Sem (wp)
namespace F
end F
end PySem.Rv
namespace PySem.Rv
open Sem (wp)
section
variable {prog:Program} {w:World} {A:Around} {E:Value→Shared→Prop} {s:Shared}
end
end PySem.Rv
namespace L2
open PySem PySem.Spec PyProof.Rows
section
variable {X:Cx} {tg:Expr}
end
section
variable {X:Cx} {tg l:Expr} {tl:TE}
end
end L2
namespace L2
open PySem PySem.Spec PyProof.Rows
section
variable {X:Cx}
end
end L2
namespace K
open PySem L2 TX
theorem sliceIdx_over (l:Option Int) (len:Nat) {j:Int} (h:(len:Int)≤j):Builtin.Str.strSliceIndices l (some j) 1 len=Builtin.Str.strSliceIndices l (some (len:Int)) 1 len:=by
  have a:¬ (j<0):=by lia
  have b:¬ ((len:Int)<0):=by lia
  have c:min j (len:Int)=(len:Int):=by lia
  simp [Builtin.Str.strSliceIndices,a,b,c]
theorem slice_any {l:List Nat} {i j:Nat} (h1:i≤j) (h2:i≤l.length):PySem.Txt.slice (mk l) (some (i:Int)) (some (j:Int))=mk ((l.drop i).take (j - i)):=by
  have hlen:(mk l).cps.toList=l:=tl_mk l
  by_cases h:j≤l.length
  · show StrLaws.sliceText (mk l) (some (i:Int)) (some (j:Int))=_
    rw [StrLaws.sliceText_nat (mk l) h1 (by rw [mk_len];exact h),hlen]
  · have e:StrLaws.sliceText (mk l) (some (i:Int)) (some (j:Int))=StrLaws.sliceText (mk l) (some (i:Int)) (some (((mk l).length:Nat):Int)):=by
      unfold StrLaws.sliceText
      rw [sliceIdx_over (some (i:Int)) (mk l).length (j:=(j:Int)) (by rw [mk_len];lia)]
    show StrLaws.sliceText (mk l) (some (i:Int)) (some (j:Int))=_
    rw [e,StrLaws.sliceText_nat (mk l) (by rw [mk_len];exact h2) (Nat.le_refl _),hlen,mk_len]
    congr 2
    rw [List.take_of_length_le (by rw [List.length_drop];lia),List.take_of_length_le (by rw [List.length_drop];lia)]
end K
namespace L2
open PySem PySem.Spec PyProof.Rows
section
variable {X:Cx}
theorem call_intS:CallR X (.type "int") (fun xs H Q=>∃ x n,xs = [.str x]∧PySem.intText? x=some n∧x.length≤640∧Q (.int n) H):=by
  intro pins s σ H xs us Q I r h
  obtain⟨x,n,rfl,h1,h2,q⟩:=h
  obtain⟨u,rfl,t,rfl⟩:=vals1 r
  exact PySem.W.KIN.call_text h1 h2 ⟨.int n,H,I.tok _,⟨_,rfl⟩,q⟩
theorem call_intU:CallR X (.type "int") (fun xs H Q=>((∃ i,xs = [.int i]∧Q (.int i) H)∨∃ k,xs = [.bl k]∧Q (.int (if k then 1 else 0)) H)∨∃ x n,xs = [.str x]∧PySem.intText? x=some n∧x.length≤640∧Q (.int n) H):=call_int1.or call_intS
theorem call_strI:CallR X (.type "str") (fun xs H Q=>∃ n:Nat,xs = [.int (n:Int)]∧n≤10 ^ 12∧Q (.str (Str.ofString (toString (n:Int)))) H):=by
  intro pins s σ H xs us Q I r h
  obtain⟨n,rfl,h1,q⟩:=h
  obtain⟨u,rfl,t,rfl⟩:=vals1 r
  refine PySem.P.str_of_int ?_ ⟨.str (Str.ofString (toString (n:Int))),H,I.tok _,⟨_,rfl⟩,q⟩
  rw [Int.natAbs_natCast]
  have h2:n<2 ^ 40:=Nat.lt_of_le_of_lt h1 (by decide)
  have:n.log2<40:=by
    by_cases hz:n=0
    · rw [hz];decide
    · exact (Nat.log2_lt hz).mpr h2
  lia
end
end L2
namespace K
open PySem L2 TX
def dg (m:Nat):List Nat:=tl (Str.ofString (toString (m:Int)))
theorem dg_mk (m:Nat):Str.ofString (toString (m:Int))=mk (dg m):=(mk_tl _).symm
theorem dg_eq (m:Nat):dg m=(Nat.toDigits 10 m).map Char.toNat:=PySem.W.KIN.signs_num m
theorem dg_small {m:Nat} (h:m<10):dg m = [48+m]:=by
  rw [dg_eq,Nat.toDigits_of_lt_base h]
  exact (by decide:∀ m:Nat,m<10 → [Nat.digitChar m].map Char.toNat = [48+m]) m h
theorem dg_step {m:Nat} (h:10≤m):dg m=dg (m / 10) ++ [48+m % 10]:=by
  have hm:m % 10<10:=Nat.mod_lt m (by decide)
  have t:Nat.toDigits 10 (m / 10)++Nat.toDigits 10 (m % 10)=Nat.toDigits 10 (10 * (m / 10)+m % 10):=Nat.toDigits_append_toDigits (by decide) (by lia) hm
  rw [Nat.div_add_mod] at t
  rw [dg_eq,dg_eq,← t,List.map_append]
  congr 1
  exact (dg_eq (m % 10)).symm.trans (dg_small hm)
theorem dg_len:∀ (k m:Nat),m<10 ^ (k+1)→(dg m).length≤k+1
  | 0,m,h=>by rw [dg_small (by simpa using h)];exact Nat.le_refl _
  | k+1,m,h=>by
    by_cases hz:m<10
    · rw [dg_small hz];simp
    · rw [dg_step (by lia),List.length_append,List.length_singleton]
      have:=dg_len k (m / 10) (by rw [Nat.pow_succ] at h;lia)
      lia
theorem dg_read {m:Nat} (h:m<10 ^ 10):PySem.intText? (mk (dg m))=some (m:Int):=by
  rw [← dg_mk]
  exact PySem.W.KIN.num_reads (by lia) (by lia)
end K
namespace L2
open PySem PySem.Spec PyProof.Rows
structure KDict (P:Program) (w:World) (K:PySem.W.Frag) (d:Addr) (kvs:List (Key×V)):Prop where
  ex:∃ ob vs,K.lookup d=some ob∧KV kvs vs∧∀ h:Heap,h.get? d=some ob→h.DictOf (mixKind P w) d vs
def tKGet (kvs:List (Key×V)) (ty:TE):TE:=fun σ H Q=>ty σ H fun y H1=>∃ k v,y=kV k∧valV kvs k=some v∧Q v H1
theorem pe_kget {X:Cx} {x:Str} {d:Addr} {kvs:List (Key×V)} {i:Expr} {ty:TE} {p pos:Pos} (hg:Gl X x) (hm:X.mg x=some (.ref d)) (D:KDict X.prog X.w X.K d kvs) (hi:PE X i ty) (hs:NoSl i) (hdb:(x==("__debug__" : Str))=false:=by decide) :
    PE X (.Subscript (.Name x p) i pos) (tKGet kvs ty):=by
  intro pins s σ H Q I h
  refine subD_of PySem.F.slot_dict_getitem.lookup hs (ld_glob I hg hm (thn (hi pins s σ H _ I h) fun iv s2 ⟨y,H2,I2,ry,k,v,ey,l,q2⟩ => ?_) hdb)
  subst ey
  obtain⟨ob,vs,hk,rel,hd⟩:=D.ex
  have dd:=hd _ (I2.kIn d ob hk)
  obtain⟨w',hw,rw'⟩:=RelO.some_of (v:=v) (o:=valueAt vs k) (by rw [← l];exact rel.val k)
  exact⟨dd.typeIs,wpAny_getItem_of (kV_is ry) dd.mapOf hw ⟨v,H2,I2.tok _,rw',q2⟩⟩
end L2
namespace L2
open PySem PySem.Spec PyProof.Rows
section
variable {prog:Program} {w:World} {A:Around} {E:Value→Shared→Prop} {s:Shared}
end
set_option maxHeartbeats 4000000 in
section
variable {X:Cx} {elts:List Expr} {kk:Nat} {tpos:Pos}
end
end L2
namespace L2
open PySem PySem.Spec PyProof.Rows
section
variable {X:Cx}
end
end L2
namespace L2
open PySem PySem.Spec PyProof.Rows
end L2
namespace PySem.Rv
open Sem (wp)
section
variable {prog:Program} {w:World} {A:Around} {E:Value→Shared→Prop} {s:Shared} {it d:Addr} {i ep:Nat} {dob:Obj} {ens:Array DictEntry}
end
end PySem.Rv
namespace L2
open PySem PySem.Spec PyProof.Rows
section
variable {X:Cx} {tg l:Expr} {tl:TE}
end
end L2
namespace SB
open PySem PyProof.Rows
section
variable {prog:Program} {w:World} {A:Around} {E:Value→Shared→Prop} {s:Shared}
variable {kd:SortKind} {S:Value→Prop} {r:Value→Int} {a₀:Array Keyed}
end
end SB
namespace PySem.Rv
open Sem (wp)
section
variable {prog:Program} {w:World} {A:Around} {E:Value→Shared→Prop} {s:Shared} {it d v:Addr} {i ep:Nat} {dob:Obj} {ens:Array DictEntry}
end
end PySem.Rv
namespace SB
open PySem PyProof.Rows TX
abbrev Pth:=List (List Nat)
theorem mk_inj {a b:List Nat} (h:mk a=mk b):a=b:=by have:=congrArg tl h;rwa [tl_mk,tl_mk] at this
theorem IsTup.inj {h:Heap} {a:Addr} {x y:Array Value} (h1:IsTup h a x) (h2:IsTup h a y):x=y:=by
  obtain⟨o,e,_,n,d⟩:=h1
  obtain⟨o',e',_,n',d'⟩:=h2
  rw [e] at e';cases e';rw [d] at d';cases d';rfl
theorem IsTup.keep {h h' : Heap} {a:Addr} {x:Array Value} (t:IsTup h a x) (k:∀ o,h.get? a=some o→h'.get? a=some o):IsTup h' a x:=let ⟨o,e,r⟩:=t;⟨o,k o e,r⟩
section
variable {prog:Program} {w:World} {A:Around} {E:Value→Shared→Prop} {s:Shared} {x y:Value} {p q:Pth}
end
end SB
namespace SB
open PySem PyProof.Rows TX
section
variable {prog:Program} {w:World} {A:Around} {E:Value→Shared→Prop} {s:Shared} {kd:SortKind} {S:Value→Prop} {r:Value→Int} {vs:List Value}
end
section
variable {prog:Program} {w:World} {A:Around} {E:Value→Shared→Prop} {s:Shared}
open Classical in
noncomputable def keyBy (K:Value→Pth→Prop) (v:Value):Pth:=if h:∃ p,K v p then choose h else []
end
end SB
namespace PySem.Rv
open Sem (wp)
section
variable {prog:Program} {w:World} {A:Around} {E:Value→Shared→Prop} {S I:Addr} {n:Nat} {Fc:List Value→Heap→Prop} {It:Nat→Heap→Prop}
end
end PySem.Rv
namespace L2
open PySem PySem.Spec PyProof.Rows SB TX
def kP (p:Pth):List Key:=p.map fun n=>Sum.inr (mk n)
abbrev vP (p:Pth):List V:=p.map fun n=>V.str (mk n)
theorem kP_kV (p:Pth):(kP p).map kV=vP p:=by unfold kP;rw [List.map_map];rfl
abbrev HRow:=Pth×V
abbrev dR (rows:List HRow):HO := .dT (rows.map fun r=>(kP r.1,r.2))
section
variable {X:Cx} {pins:List (Addr×Obj)} {σ:St} {H:Hp} {s:Shared}
theorem Inv.rows (I:Inv X pins σ H s) {d:Addr} {rows:List HRow} (hd:H d=some (dR rows)):(d==sysModules)=false∧rows.length≤sizeLine∧∃ ob es ep,s.heap.get? d=some ob∧ob.ExactDict∧ob.data = .dict es ep∧(rows.map (·.1)).Nodup ∧
    ∃ zs:List (Addr×Value×HRow),zs.map (·.2.2)=rows∧es.toList.map (fun e=>(e.key,e.val))=zs.map (fun z=>(Value.ref z.1,z.2.1))∧∀ z∈zs,H z.1=some (.tup (vP z.2.2.1))∧RelV z.2.2.2 z.2.1:=by
  obtain⟨z,hsys,xs,hp,ob,es,ep,ho,hex,hob,h4,h5⟩:=(show ObjOk X.prog X.w H s.heap d (dR rows) from I.hok d _ hd)
  rw [List.length_map] at z
  have go:∀ (rows:List HRow) (xs:List (List Key×Addr×Value)),Paired (fun (p:List Key×V) (q:List Key×Addr×Value)=>p.1=q.1∧H q.2.1=some (.tup (p.1.map kV))∧RelV p.2 q.2.2) (rows.map fun r=>(kP r.1,r.2)) xs →
      xs.map (·.1)=rows.map (fun r=>kP r.1)∧∃ zs:List (Addr×Value×HRow),zs.map (·.2.2)=rows∧(xs.map (entryOfKey (tupleKind (mixKind X.prog X.w)))).map (fun e=>(e.key,e.val))=zs.map (fun z=>(Value.ref z.1,z.2.1))∧∀ z∈zs,H z.1=some (.tup (vP z.2.2.1))∧RelV z.2.2.2 z.2.1:=by
    intro rows
    induction rows with
    | nil=>intro xs h;cases h;exact⟨rfl,[],rfl,rfl,fun _ h=>nomatch h⟩
    | cons r rows ih =>
      intro xs h
      rw [List.map_cons] at h
      cases h with
      | cons hq t =>
        rename_i q ys
        obtain⟨e1,e2,e3⟩:=hq
        obtain⟨i0,zs,i1,i2,i3⟩:=ih ys t
        refine⟨by rw [List.map_cons,List.map_cons,i0,← e1],(q.2.1,q.2.2,r)::zs,by rw [List.map_cons,i1],by rw [List.map_cons,List.map_cons,List.map_cons,i2];rfl,fun z hz => ?_⟩
        rcases List.mem_cons.mp hz with rfl | hz
        · exact⟨by rw [← kP_kV];exact e2,e3⟩
        · exact i3 z hz
  obtain⟨g0,zs,g1,g2,g3⟩:=go rows xs hp
  refine⟨hsys,z,ob,es,ep,ho,hex,hob,?_,zs,g1,by rw [h4];exact g2,g3⟩
  rw [g0] at h5
  have e:rows.map (fun r=>kP r.1)=(rows.map (·.1)).map kP:=by rw [List.map_map];rfl
  rw [e] at h5
  exact (List.pairwise_map.mp h5).imp fun hne z=>hne (by rw [z])
end
end L2
namespace L2
open PySem PySem.Spec PyProof.Rows
section
variable {X:Cx} {iter target kx vx:Expr} {ifs:List Expr} {scope:Scope} {pos:Pos} {wi:TI} {g:TG} {tt:TT} {tk tv:TE}
end
end L2
namespace PySem.Rv
open Sem (wp)
section
variable {prog:Program} {w:World} {A:Around} {E:Value→Shared→Prop} {s:Shared}
end
end PySem.Rv
namespace PySem.Rv
end PySem.Rv
namespace L2
open PySem PySem.Spec PyProof.Rows SB TX
section
variable {X:Cx} {pins:List (Addr×Obj)} {σ:St}
end
end L2
namespace L2
open PySem PySem.Spec PyProof.Rows
section
variable {X:Cx} {C:Addr} {x m:Str} {k j:Nat} {ps:List Str} {sp:Sp} {p pos apos:Pos} {o e:Expr} {es:List Expr} {ta:TE} {t:TA}
end
section
variable {X:Cx} {C:Addr} {x:Str} {k j:Nat} {ps:List Str} {sp:Sp} {p pos:Pos} {e:Expr} {es:List Expr} {t:TA}
end
end L2
namespace L2
open PySem PySem.Spec PyProof.Rows
end L2
namespace HM
open PySem PySem.Spec PyProof.Rows L2 TX SB
def NSs:Str:=Str.ofString "abcdefghijklmnopqrstuvwxyzABCDEFGHIJKLMNOPQRSTUVWXYZ0123456789-_."
abbrev NS:List Nat:=tl NSs
abbrev Rw:=Pth×Option Int
end HM
namespace HM
open PySem PySem.Spec PyProof.Rows L2 TX SB
end HM
namespace L2
open PySem PySem.Spec PyProof.Rows SB
section
variable {X:Cx} {tg l:Expr} {tl:TE}
end
section
variable {prog:Program} {w:World} {K:Type} [DecidableEq K] {knd:HeapKind prog w K} {A:Around} {E:Value→Shared→Prop} {s:Shared}
end
end L2
namespace HM
open PySem PySem.Spec PyProof.Rows L2 TX SB
def carry (p q x:Pth):Pth:=if x.take p.length=p then q++x.drop p.length else x
def cR (p q:Pth) (r:Rw):Rw:=(carry p q r.1,r.2)
end HM
namespace HM
open PySem PySem.Spec PyProof.Rows L2 TX SB
end HM
namespace HT
open PySem PyProof.Rows
section
variable {prog:Program} {w:World} {A:Around} {E:Value→Shared→Prop} {s:Shared}
end
end HT
namespace L2
open PySem PySem.Spec PyProof.Rows
end L2
namespace L2
open PySem PySem.Spec PyProof.Rows
end L2
namespace HM
open PySem PySem.Spec PyProof.Rows L2 TX SB
section
variable {bl:Bool} {rows:List Rw} {p q:Pth}
end
end HM
namespace L2
open PySem PySem.Spec PyProof.Rows
end L2
namespace L2
open PySem PySem.Spec PyProof.Rows
section
variable {M:Model} {A:Around} {E:Value→Shared→Prop} {s:Shared}
def TbAt (h:Heap) (e:Addr) (vs:Array Value) (T:Addr) (fl:Value):Prop:=vs[1]? = some (.ref T)∧T≠e∧∃ oT ts,h.get? T=some oT∧oT.data = .fields ts∧ts[3]? = some fl
def TbOk (L:Addr) (h:Heap) (e:Addr) (vs:Array Value):Prop:=vs[1]? = some .none∨∃ T,TbAt h e vs T .none∨TbAt h e vs T (rawInt L)
structure LeftX (fr:List Addr) (e:Addr) (oe:Obj) (vs:Array Value) (fl:Value) (h h' : Heap):Prop where
  ex:∃ T,(h.objs.size≤T∨vs[1]? = some (.ref T))∧T≠e∧h'.get? e=some (oe.mapFields (·.setIfInBounds 1 (.ref T)))∧∃ oT ts,h'.get? T=some oT∧oT.data = .fields ts∧ts[3]? = some fl
  keep:∀ b o,h.get? b=some o→b≠e→vs[1]? ≠ some (.ref b)→b∉fr→h'.get? b=some o
  slot:∀ b o,h.get? b=some o→b∈fr→∃ sl,h'.get? b=some { o with slots:=sl }
theorem mapF_same {oe:Obj} {vs:Array Value} {x:Value} (hd:oe.data = .fields vs) (h1:vs[1]? = some x):oe.mapFields (·.setIfInBounds 1 x)=oe:=by
  obtain⟨c,d,dt,sl⟩:=oe
  cases hd
  have e:vs.setIfInBounds 1 x=vs:=by
    have hs:=(Array.getElem?_eq_some_iff.mp h1)
    obtain⟨hlt,hx⟩:=hs
    apply Array.ext
    · simp
    · intro i h2 h3
      rw [Array.getElem_setIfInBounds (by simpa using h3)]
      split
      · rename_i z;subst z;exact hx.symm
      · rfl
  show (⟨c,d,.fields (vs.setIfInBounds 1 x),sl⟩:Obj)=_
  rw [e]
theorem entryX {base:Heap} {env:Env} {outer:List Env} {L e:Addr} {oe:Obj} {vs:Array Value} {head:Value} {hadNext:Bool} {Q:Unit→Shared→Prop}
    (hfr:A.frames=some (env::outer)) (hl:s.heap.FunFrames base (env::outer)) (hf:env.frame=some L)
    (he:s.heap.get? e=some oe) (hd:oe.data = .fields vs) (hsz:1<vs.size)
    (h:∀ h',(∃ T,s.heap.objs.size≤T∧h'.get? e=some (oe.mapFields (·.setIfInBounds 1 (.ref T)))∧∃ oT ts,h'.get? T=some oT∧oT.data = .fields ts∧ts[3]? = some (rawInt L)) →
      (∀ b o,s.heap.get? b=some o→b≠e→b∉(env::outer).filterMap (·.frame)→h'.get? b=some o) →
      (∀ b o,s.heap.get? b=some o→b∈(env::outer).filterMap (·.frame)→∃ sl,h'.get? b=some { o with slots:=sl })→Q () { s with heap:=h' }) :
    wpAny M A (do let a ← frameOf env;let pl ← entryPlaceOf L hadNext;let b ← EntryCells.newEntry head a .none (rawInt L) .none pl;setField (.ref e) 1 b) Q E s:=by
  have hene:e∉(env::outer).filterMap (·.frame):=fun hm=>by
    obtain⟨_,o,ho,hnf⟩:=hl.mem hm
    rw [he] at ho;injection ho with ho;subst ho;exact hnf vs hd
  refine wpAny_bind (wpAny_frameOf_fun hfr hl hf fun h₁ hs₁ => ?_)
  refine wpAny_bind (wpAny_entryPlaceOf fun pl hpl => ?_)
  unfold EntryCells.newEntry newFields
  refine wpAny_bind (wpAny_newObj_type ?_ (hpl.sizeOk5 _ _ _ _ _))
  have he₁:h₁.get? e=some oe:=(hs₁.2.1 e hene).trans he
  have he₂:=Heap.get?_push_of_some (h:=h₁) { cls := .type "traceback",dict:=none,data := .fields ([head,.ref L,.none,rawInt L,.none]++(if pl.isEmpty then List.replicate 6 Value.none else pl)).toArray } he₁
  have hTe:h₁.objs.size≠e:=Nat.ne_of_gt (Heap.lt_size he₁)
  have hd₃:=Obj.data_mapFields hd (·.setIfInBounds 1 (Value.ref h₁.objs.size))
  have he₃:=Heap.get?_update_self (Obj.mapFields (·.setIfInBounds 1 (Value.ref h₁.objs.size))) he₂ (Obj.isFreed_of_fields hd₃)
  have hT₃:=(Heap.get?_update_other (h₁.push { cls := .type "traceback",dict:=none,data := .fields ([head,.ref L,.none,rawInt L,.none]++(if pl.isEmpty then List.replicate 6 Value.none else pl)).toArray })
    (Obj.mapFields (·.setIfInBounds 1 (Value.ref h₁.objs.size))) (Ne.symm hTe)).trans (Heap.get?_push_size h₁ rfl)
  refine wpAny_setField he₂ hd hsz (h _ ⟨h₁.objs.size,by rw [hs₁.1];exact Nat.le_refl _,he₃,_,_,hT₃,rfl,by first | (simp;done) | (rcases hpl with rfl | ⟨_,_,_,_,_,_,_,rfl⟩ <;> simp)⟩ ?_ ?_)
  · intro b o hb hbe hbf
    have hb₁:h₁.get? b=some o:=(hs₁.2.1 b hbf).trans hb
    rw [Heap.get?_update_other _ _ (Ne.symm hbe)]
    exact Heap.get?_push_of_some _ hb₁
  · intro b o hb hbf
    have hbe:b≠e:=fun z=>hene (z▸hbf)
    obtain⟨sl,hb₁⟩:=hs₁.2.2 b o hb
    refine⟨sl,?_⟩
    rw [Heap.get?_update_other _ _ (Ne.symm hbe)]
    exact Heap.get?_push_of_some _ hb₁
theorem noteX {base:Heap} {env:Env} {outer:List Env} {L e:Addr} {oe:Obj} {vs:Array Value} {Q:Unit→Shared→Prop}
    (hfr:A.frames=some (env::outer)) (hl:s.heap.FunFrames base (env::outer)) (hf:env.frame=some L) (he:s.heap.get? e=some oe) (hd:oe.data = .fields vs) (ht:TbOk L s.heap e vs)
    (h:∀ h',LeftX ((env::outer).filterMap (·.frame)) e oe vs (rawInt L) s.heap h' → Q () { s with heap:=h' }):wpAny M A (noteFrame (.ref e) env) Q E s:=by
  have helt:=Heap.lt_size he
  unfold noteFrame
  simp only [hf]
  rcases ht with h1 | ⟨T,⟨h1,hTe,oT,ts,hT,hdT,h3⟩ | ⟨h1,hTe,oT,ts,hT,hdT,h3⟩⟩
  · refine wpAny_bind (wpAny_field he hd h1 ?_)
    rw [if_neg (by decide)]
    refine entryX hfr hl hf he hd (Array.getElem?_eq_some_iff.mp h1).1 fun h' ⟨T,q1,q2,q3⟩ b c=>h h' ⟨⟨T,.inl q1,fun z=>absurd helt (Nat.not_lt.mpr (z▸q1)),q2,q3⟩,fun x o hx hxe _ hxf=>b x o hx hxe hxf,c⟩
  · refine wpAny_bind (wpAny_field he hd h1 ?_)
    rw [if_pos (show (Value.ref T != Value.none)=true from by simp)]
    refine wpAny_bind (wpAny_field hT hdT h3 ?_)
    rw [if_neg (show ¬ ((Value.none==rawInt L)=true) from by simp [rawInt])]
    refine wpAny_bind (wpAny_setField hT hdT (Array.getElem?_eq_some_iff.mp h3).1 ?_)
    have other:∀ b,b≠T→(s.heap.update T (Obj.mapFields (·.setIfInBounds 3 Value.none))).get? b=s.heap.get? b:=fun b hb=>Heap.get?_update_other _ _ (Ne.symm hb)
    have noRecord:∀ b o,s.heap.get? b=some o→(∀ vs,o.data ≠ .fields vs)→b≠T:=fun b o hb hnf q=>by
      rw [q,hT] at hb;injection hb with hb;subst hb;exact hnf ts hdT
    have hTf:T∉(env::outer).filterMap (·.frame):=fun hm=>by
      obtain⟨_,o,ho,hnf⟩:=hl.mem hm
      rw [hT] at ho;injection ho with ho;subst ho;exact hnf ts hdT
    have hsz:(s.heap.update T (Obj.mapFields (·.setIfInBounds 3 Value.none))).objs.size=s.heap.objs.size:=by first | exact Heap.size_update .. | simp
    refine entryX hfr (hl.of_keeps fun b o hb hnf=>⟨o,(other b (noRecord b o hb hnf)).trans hb,rfl⟩) hf ((other e (Ne.symm hTe)).trans he) hd (Array.getElem?_eq_some_iff.mp h1).1 fun h' a b c=>h h' ⟨?_,fun x o hx hxe hx1 hxf => ?_,fun x o hx hxf => ?_⟩
    · obtain⟨T',q1,q2,q3⟩:=a
      rw [hsz] at q1
      exact⟨T',.inl q1,fun z=>absurd helt (Nat.not_lt.mpr (z▸q1)),q2,q3⟩
    · exact b x o ((other x fun z=>hx1 (by rw [z];exact h1)).trans hx) hxe hxf
    · exact c x o ((other x fun z=>hTf (z▸hxf)).trans hx) hxf
  · refine wpAny_bind (wpAny_field he hd h1 ?_)
    rw [if_pos (show (Value.ref T != Value.none)=true from by simp)]
    refine wpAny_bind (wpAny_field hT hdT h3 ?_)
    rw [if_pos (show (rawInt L==rawInt L)=true from by simp)]
    refine wpAny_pure (h s.heap ⟨⟨T,.inr h1,hTe,by rw [mapF_same hd h1];exact he,oT,ts,hT,hdT,h3⟩,fun x o hx _ _ _=>hx,fun x o hx _=>⟨o.slots,hx⟩⟩)
theorem flightX {fr:List Addr} {e T:Addr} {oe:Obj} {vs:Array Value} {fl:Value} {f:Option Addr} {Q:Unit→Shared→Prop} (he:s.heap.get? e=some oe) (hd:oe.data = .fields vs) (ht:TbAt s.heap e vs T fl) (hTf:T∉fr)
    (h:∀ h',LeftX fr e oe vs (f.elim .none fun f=>rawInt f) s.heap h' → Q () { s with heap:=h' }):wpAny M A (setFlight (.ref e) f) Q E s:=by
  obtain⟨h1,hTe,oT,ts,hT,hdT,h3⟩:=ht
  have other:∀ b,b≠T→(s.heap.update T (Obj.mapFields (·.setIfInBounds 3 (f.elim Value.none fun f=>rawInt f)))).get? b=s.heap.get? b:=fun b hb=>Heap.get?_update_other _ _ (Ne.symm hb)
  unfold setFlight
  refine wpAny_bind (wpAny_field he hd h1 ?_)
  rw [if_pos (show (Value.ref T != Value.none)=true from by simp)]
  refine wpAny_setField hT hdT (Array.getElem?_eq_some_iff.mp h3).1 (h _ ⟨⟨T,.inr h1,hTe,?_,_,_,Heap.get?_update_self _ hT (Obj.isFreed_of_fields (Obj.data_mapFields hdT _)),Obj.data_mapFields hdT _,?_⟩,fun x o hx _ hx1 _ => ?_,fun x o hx hxf => ?_⟩)
  · rw [mapF_same hd h1,other e (Ne.symm hTe)];exact he
  · simp [(Array.getElem?_eq_some_iff.mp h3).1]
  · rw [other x fun z=>hx1 (by rw [z];exact h1)];exact hx
  · rw [other x fun z=>hTf (z▸hxf)];exact⟨o.slots,hx⟩
end
end L2
namespace L2
open PySem PySem.Spec PyProof.Rows
def ExO (C:Value) (dd:Option Addr) (e:Addr):HO := .ext fun h=>∃ vs sl,h.get? e=some { cls:=C,dict:=dd,data := .fields vs,slots:=sl }∧vs.size=6
structure FlX (X:Cx) (pins:List (Addr×Obj)) (H:Hp) (s:Shared) (e:Addr):Prop where
  at_:∃ C dd,H e=some (ExO C dd e)
  tb:∃ oe vs,s.heap.get? e=some oe∧oe.data = .fields vs∧TbOk X.env.locals s.heap e vs∧∀ T,vs[1]? = some (.ref T)→X.s₀.heap.objs.size≤T∧H T=none∧T≠X.env.locals∧(∀ x c,X.env.cells.lookup x=some c→c≠T)∧∀ p∈X.pn++pins,p.1≠T
  new:X.s₀.heap.objs.size≤e
section
variable {X:Cx} {pins:List (Addr×Obj)} {σ:St} {H:Hp} {s:Shared} {e:Addr} {oe:Obj} {vs:Array Value} {fl:Value} {h' : Heap}
def chOf (vs:Array Value):List Addr:=match vs[(1:Nat)]? with | some (Value.ref T) => [T] | _ => []
theorem chOf_mem {vs:Array Value} {b:Addr}:b∈chOf vs↔vs[(1:Nat)]? = some (Value.ref b):=by
  unfold chOf
  constructor
  · intro h
    split at h
    · rename_i T e;rw [List.mem_singleton.mp h];exact e
    · cases h
  · intro h
    rw [h]
    exact List.mem_singleton.mpr rfl
theorem Inv.leftX (I:Inv X pins σ H s) (F:FlX X pins H s e) (he:s.heap.get? e=some oe) (hd:oe.data = .fields vs) (hfl:fl = .none∨fl=rawInt X.env.locals)
    (hT:∀ T,vs[1]? = some (.ref T)→X.s₀.heap.objs.size≤T∧H T=none∧T≠X.env.locals∧(∀ x c,X.env.cells.lookup x=some c→c≠T)∧∀ p∈X.pn++pins,p.1≠T)
    (L:LeftX (frs X.stack) e oe vs fl s.heap h'):Inv X pins σ H { s with heap:=h' }∧FlX X pins H { s with heap:=h' } e∧∃ oe' vs' T,h'.get? e=some oe' ∧ oe'.data = .fields vs' ∧ TbAt h' e vs' T fl:=by
  obtain⟨C,dd,hE⟩:=F.at_
  obtain⟨T',hT'1,hT'e,hE',oT,ts,q1,q2,q3⟩:=L.ex
  have helt:=Heap.lt_size he
  have hne:∀ b,H b=none→b≠e:=fun b h z=>by rw [z,hE] at h;cases h
  have un:Un (frs X.stack) (chOf vs) H H s.heap h' := ⟨fun b o hb n hf hc=>L.keep b o hb (hne b n) (fun z=>hc (chOf_mem.mpr z)) hf,fun b o hb n hf hc=>L.slot b o hb hf,fun _ _ _ n _=>n,fun b o hb hc=>by
      by_cases z:b=e
      · rw [z];exact⟨_,hE'⟩
      · by_cases y:b∈frs X.stack
        · obtain⟨sl,k⟩:=L.slot b o hb y;exact⟨_,k⟩
        · exact⟨o,L.keep b o hb z (fun x=>hc (chOf_mem.mpr x)) y⟩,
    fun _ _ q=>q,fun _ _ _ q=>q,fun _ ps q=>⟨#[],by rw [q];simp⟩⟩
  have hsz6:vs.size=6∧oe.cls=C∧oe.dict=dd:=by
    obtain⟨⟨vs2,sl,z,z6⟩,_,_⟩:=I.hok e _ hE
    rw [he] at z
    cases z
    cases hd
    exact⟨z6,rfl,rfl⟩
  have hok:HOk X.prog X.w H h' := fun a o ha=>by
    by_cases z:a=e
    · subst z
      rw [hE] at ha
      cases ha
      refine⟨⟨vs.setIfInBounds 1 (.ref T'),oe.slots,?_,by simpa using hsz6.1⟩,⟨_,hE'⟩,fun h1 h2 ⟨ws,sl,k1,k2⟩ k=>⟨ws,sl,k _ k1,k2⟩⟩
      rw [hE']
      obtain⟨c,d,dt,sl⟩:=oe
      cases hd
      obtain⟨_,rfl,rfl⟩:=hsz6
      rfl
    · refine (I.hok a o ha).stay (fun b u hb hu => ?_) (fun _ q=>q) fun _ _ q=>q
      have hbt:H b≠none∧b≠e:=by
        rcases hb with rfl | hb
        · exact⟨by rw [ha];simp,z⟩
        · refine⟨by rw [hb];simp,fun y => ?_⟩
          rw [y,hE] at hb
          cases hb
      exact L.keep b u hu hbt.2 (fun y=>hbt.1 (hT b y).2.1) fun y=>hbt.1 (I.stkFree b y)
  have hch:∀ b∈chOf vs,(b∈X.ex∨X.s₀.heap.objs.size≤b)∧b≠X.env.locals∧(∀ x c,X.env.cells.lookup x=some c→c≠b)∧∀ p∈X.pn++pins,p.1≠b:=fun b hb=>by
    obtain⟨a1,_,a3,a4,a5⟩:=hT b (chOf_mem.mp hb)
    exact⟨.inr a1,a3,a4,a5⟩
  have I' : Inv X pins σ H { s with heap:=h' }:=I.call' (s' := { s with heap:=h' }) rfl un hok I.bare hch
  have hd' := Obj.data_mapFields hd (·.setIfInBounds 1 (Value.ref T'))
  have hlt1:1<vs.size:=by rw [hsz6.1];decide
  have hTb:TbAt h' e (vs.setIfInBounds 1 (.ref T')) T' fl:=⟨by simp [hlt1],hT'e,oT,ts,q1,q2,q3⟩
  refine⟨I',⟨⟨C,dd,hE⟩,⟨_,_,hE',hd',.inr ⟨T',?_⟩,fun T hTT => ?_⟩,F.new⟩,_,_,T',hE',hd',hTb⟩
  · rcases hfl with z | z
    · exact .inl (z▸hTb)
    · exact .inr (z▸hTb)
  · have:T=T' := by
      have z:(vs.setIfInBounds 1 (Value.ref T'))[1]? = some (.ref T'):=hTb.1
      rw [z] at hTT
      injection hTT with y
      injection y with y
      exact y.symm
    subst this
    rcases hT'1 with k | k
    · refine⟨Nat.le_trans I.sz k,I.hok.fresh k,fun z=>absurd I.lt (Nat.not_lt.mpr (z▸k)),fun x c hx z => ?_,fun p hp z => ?_⟩
      · obtain⟨v,o,ho,_⟩:=I.cell x c hx
        exact absurd (Heap.lt_size ho) (Nat.not_lt.mpr (z▸k))
      · obtain⟨ho,_⟩:=I.pin p hp
        exact absurd (Heap.lt_size ho) (Nat.not_lt.mpr (z▸k))
    · exact hT T k
def XE (X:Cx) (J:Addr→St→Hp→Prop) (e:Value) (s:Shared):Prop:=∃ pins σ H ea,e = .ref ea∧Inv X pins σ H s∧FlX X pins H s ea∧J ea σ H
theorem frs_eq (hst:X.stack=X.env::X.outer):frs X.stack=(X.env::X.outer).filterMap (·.frame):=by rw [hst];rfl
theorem passX {J:Addr→St→Hp→Prop} (hst:X.stack=X.env::X.outer) (hf:X.env.frame=some X.env.locals):PassesOwn (model X.prog X.w) X.A X.env (XE X J):=by
  rintro e s' ⟨pins,σ,H,ea,rfl,I,F,j⟩
  obtain⟨oe,vs,he,hd,ht,hT⟩:=F.tb
  have hfr:X.A.frames=some (X.env::X.outer):=by rw [← hst];exact I.ok.frames
  have hl:s'.heap.FunFrames X.base (X.env::X.outer):=by rw [← hst];exact I.stack
  refine noteX hfr hl hf he hd ht fun h1 L1 => ?_
  rw [← frs_eq hst] at L1
  obtain⟨I1,F1,oe1,vs1,T1,e1,d1,t1⟩:=I.leftX F he hd (.inr rfl) hT L1
  refine wpAny_bind (wpAny_field e1 d1 t1.1 ?_)
  rw [if_neg (show ¬ ((Value.ref T1==Value.none)=true) from by simp)]
  have hT1f:T1∉frs X.stack:=fun hm=>by
    obtain⟨_,_,oT,ts,q1,q2,_⟩:=t1
    obtain⟨_,o,ho,hnf⟩:=I1.stack.mem hm
    rw [q1] at ho;injection ho with ho;subst ho;exact hnf ts q2
  obtain⟨oe1',vs1',e1',d1',_,hT1⟩:=F1.tb
  have q:oe1' = oe1∧vs1' = vs1:=by
    have e1'' : h1.get? ea=some oe1' := e1'
    rw [e1] at e1''
    injection e1'' with z
    subst z
    rw [d1] at d1'
    injection d1' with y
    exact⟨rfl,y.symm⟩
  obtain⟨rfl,rfl⟩:=q
  refine flightX (s := { s' with heap:=h1 }) e1 d1 t1 hT1f fun h2 L2 => ?_
  rw [hf] at L2
  obtain⟨I2,F2,_⟩:=I1.leftX F1 e1 d1 (.inr rfl) hT1 L2
  exact⟨pins,σ,H,ea,rfl,I2,F2,j⟩
end
end L2
namespace L2
open PySem PySem.Spec PyProof.Rows
def CXR (P:Program) (w:World):CXT:=fun outer H s E e s' => ∃ ea H',e = .ref ea∧s'.os=s.os∧AllBare s'.gens∧Un (frs outer) [] H H' s.heap s'.heap∧HOk P w H' s'.heap∧s.heap.objs.size≤ea∧(∃ C dd,H' ea=some (ExO C dd ea)) ∧
  (∃ oe vs,s'.heap.get? ea=some oe∧oe.data = .fields vs∧(vs[1]? = some .none∨∃ T,TbAt s'.heap ea vs T .none)∧∀ T,vs[1]? = some (.ref T)→s.heap.objs.size≤T∧H' T=none)∧E (.ref ea) none H'
section
variable {X:Cx} {J J' : Addr→St→Hp→Prop} {E:Value→Shared→Prop} {e:Value} {s:Shared}
theorem FlX.wish {pins:List (Addr×Obj)} {H:Hp} {ea:Addr} (F:FlX X pins H s ea) (E:Value→Shared→Prop):FlX (X.wish E) pins H s ea:=⟨F.at_,F.tb,F.new⟩
theorem FlX.unwish {pins:List (Addr×Obj)} {H:Hp} {ea:Addr} (F:FlX (X.wish E) pins H s ea):FlX X pins H s ea:=⟨F.at_,F.tb,F.new⟩
theorem XE.wish (h:XE X J e s):XE (X.wish E) J e s:=by
  obtain⟨pins,σ,H,ea,rfl,I,F,j⟩:=h
  exact⟨pins,σ,H,ea,rfl,I.wish _,F.wish _,j⟩
theorem XE.unwish (h:XE (X.wish E) J e s):XE X J e s:=by
  obtain⟨pins,σ,H,ea,rfl,I,F,j⟩:=h
  exact⟨pins,σ,H,ea,rfl,I.unwish,F.unwish,j⟩
structure AccX (X:Cx) (J:Addr→St→Hp→Prop):Prop where
  acc:∀ e s,XE X J e s→X.xe e s
theorem AccX.of:AccX (X.wish (XE X J)) J:=⟨fun _ _ h=>h.unwish⟩
theorem PSs.wishX {st:List Stmt} {t:TS} (hE:∀ e s,E e s→X.xe e s) (h:PSs (X.wish E) st t):PSs X st t:=fun pins s σ H D I hw =>
  wpAny_mono (h pins s σ H D (I.wish _) hw) (fun _ _ q=>q.unwish) hE
theorem leaves {P:Program} {w:World} {K:PySem.W.Frag} {mg:Str→Option Value} {base:Heap} {N:List Str} {qual:Str} {scope:Scope} {f:Addr} {cd:Value} {A:Around} {outer:List Env} {s₀:Shared} {H₀:Hp} {E₀:XK}
    (h:XE (cxOf (CXR P w) P w K mg base N qual scope f cd A outer s₀ H₀ E₀) (fun ea _ H' => E₀ (.ref ea) none H') e s):(cxOf (CXR P w) P w K mg base N qual scope f cd A outer s₀ H₀ E₀).xe e s:=by
  obtain⟨pins,σ,H,ea,rfl,I,F,j⟩:=h
  obtain⟨oe,vs,he,hd,ht,hT⟩:=F.tb
  have hst:(cxOf (CXR P w) P w K mg base N qual scope f cd A outer s₀ H₀ E₀).stack=(cxOf (CXR P w) P w K mg base N qual scope f cd A outer s₀ H₀ E₀).env::outer:=rfl
  show wpAny _ _ (leaving _ _) _ _ _
  unfold leaving
  refine wpAny_bind (noteX I.ok.frames I.stack rfl he hd ht fun h1 L1 => ?_)
  obtain⟨I1,F1,oe1,vs1,T1,e1,d1,t1⟩:=I.leftX F he hd (.inr rfl) hT L1
  have hT1f:T1∉frs (cxOf (CXR P w) P w K mg base N qual scope f cd A outer s₀ H₀ E₀).stack:=fun hm=>by
    obtain⟨_,_,oT,ts,q1,q2,_⟩:=t1
    obtain⟨_,o,ho,hnf⟩:=I1.stack.mem hm
    rw [q1] at ho;injection ho with ho;subst ho;exact hnf ts q2
  obtain⟨oe1',vs1',e1',d1',_,hT1⟩:=F1.tb
  have q:oe1' = oe1∧vs1' = vs1:=by
    have e1'' : h1.get? ea=some oe1' := e1'
    rw [e1] at e1''
    injection e1'' with z
    subst z
    rw [d1] at d1'
    injection d1' with y
    exact⟨rfl,y.symm⟩
  obtain⟨rfl,rfl⟩:=q
  refine flightX (s := { s with heap:=h1 }) (f:=none) e1 d1 t1 hT1f fun h2 L2 => ?_
  obtain⟨I2,F2,oe2,vs2,T2,e2,d2,t2⟩:=I1.leftX F1 e1 d1 (.inl rfl) hT1 L2
  obtain⟨oe2',vs2',e2',d2',_,hT2⟩:=F2.tb
  have q:oe2' = oe2∧vs2' = vs2:=by
    have e2'' : h2.get? ea=some oe2' := e2'
    rw [e2] at e2''
    injection e2'' with z
    subst z
    rw [d2] at d2'
    injection d2' with y
    exact⟨rfl,y.symm⟩
  obtain⟨rfl,rfl⟩:=q
  exact⟨ea,H,rfl,I2.os,I2.bare,I2.base,I2.hok,F2.new,F2.at_,⟨_,_,e2,d2,.inr ⟨T2,t2⟩,fun T hTT=>⟨(hT2 T hTT).1,(hT2 T hTT).2.1⟩⟩,j⟩
end
abbrev cxX (P:Program) (w:World) (K:PySem.W.Frag) (mg:Str→Option Value) (base:Heap) (N:List Str) (qual:Str) (scope:Scope) (f:Addr) (cd:Value) (A:Around) (outer:List Env) (s:Shared) (H:Hp) (E:XK):Cx :=
  (cxOf (CXR P w) P w K mg base N qual scope f cd A outer s H E).wish (XE (cxOf (CXR P w) P w K mg base N qual scope f cd A outer s H E) fun ea _ H' => E (.ref ea) none H')
section
variable {P:Program} {w:World} {K:PySem.W.Frag} {mg:Str→Option Value} {base:Heap}
theorem accX {N:List Str} {qual:Str} {scope:Scope} {f:Addr} {cd:Value} {A:Around} {outer:List Env} {s:Shared} {H:Hp} {E:XK}:AccX (cxX P w K mg base N qual scope f cd A outer s H E) fun ea _ H' => E (.ref ea) none H' := AccX.of
theorem passDef {N:List Str} {qual:Str} {scope:Scope} {f:Addr} {cd:Value} {A:Around} {outer:List Env} {s:Shared} {H:Hp} {E:XK}:PassesOwn (model P w) (A.deeper (envOfC qual scope s.heap.objs.size f cd)) (envOfC qual scope s.heap.objs.size f cd) (cxX P w K mg base N qual scope f cd A outer s H E).xe :=
  passX (X:=cxOf (CXR P w) P w K mg base N qual scope f cd A outer s H E) rfl rfl
theorem Fun.okX {x qual:Str} {st:Stmt} {f:Addr} {fd:FuncData} {N ps:List Str} {k:Nat} {sp:Sp} (F:Fun K x qual st f fd) (S:FnScope N ps (defScope st)) (len:∀ vs H Q E,sp vs H Q E→vs.length=ps.length)
    (hbody:∀ (cdv:Value) (A:Around) (outer:List Env) (s:Shared) (H:Hp) (vs:List V) (Q:VK) (E:XK),Room k (A.deeper (envOfC qual (defScope st) s.heap.objs.size f cdv))→sp vs H Q E →
      ∃ t,PSs (cxX P w K mg base N qual (defScope st) f cdv A outer s H E) (defBody st) t∧t { nx:=fun _ H' => Q .non H',rt:=Q } (start N vs) H):FnOk P w K mg base (CXR P w) (k+1) f fd ps sp:=by
  obtain⟨oc,od,kV,doc,pm,an,cdv,ct,osl,rfl,lk,hcd⟩:=F.ex
  refine fn_of lk hcd S len fun A outer s H vs Q E hr hsp => ?_
  obtain⟨t,h,q⟩:=hbody cdv A outer s H vs Q E hr hsp
  exact⟨t,PSs.wishX (fun e s' z=>leaves z) h,q⟩
structure CalX (P:Program) (w:World) (K:PySem.W.Frag) (mg:Str→Option Value) (base:Heap) (x:Str) (k:Nat) (ps:List Str) (sp:Sp):Prop where
  ex:∃ f fd,FnOk P w K mg base (CXR P w) k f fd ps sp∧mg x=some (.ref f)∧PySem.W.keepIn K (.ref f)=true∧Binds K fd ps []
theorem Df.calX {x:Str} {st:Stmt} {N ps:List Str} {k:Nat} {sp:Sp} (D:Df K mg x st ps) (S:FnScope N ps (defScope st)) (len:∀ vs H Q E,sp vs H Q E→vs.length=ps.length)
    (hbody:∀ (f:Addr) (cdv:Value) (A:Around) (outer:List Env) (s:Shared) (H:Hp) (vs:List V) (Q:VK) (E:XK),Room k (A.deeper (envOfC x (defScope st) s.heap.objs.size f cdv))→sp vs H Q E →
      ∃ t,PSs (cxX P w K mg base N x (defScope st) f cdv A outer s H E) (defBody st) t∧t { nx:=fun _ H' => Q .non H',rt:=Q } (start N vs) H):CalX P w K mg base x (k+1) ps sp:=by
  obtain⟨f,fd,F,hm,hb⟩:=D.ex
  exact⟨f,fd,F.okX S len fun cdv A outer s H vs Q E hr h=>hbody f cdv A outer s H vs Q E hr h,hm,F.kp,hb⟩
end
section
variable {X:Cx} {J:Addr→St→Hp→Prop} {k j:Nat} {f:Addr} {fd:FuncData} {ps:List Str} {sp:Sp} {x:Str} {p pos:Pos} {e:Expr} {es:List Expr} {t:TA}
def tCallX (sp:Sp) (J:Addr→St→Hp→Prop) (t:TA):TE:=fun σ H Q=>t σ H fun vs H1=>sp vs H1 Q fun e _ H' => ∀ ea,e = .ref ea→J ea σ H'
theorem run_fnX {pins:List (Addr×Obj)} {σ:St} {H:Hp} {s:Shared} {Q:VK} {us:List Value} {vs:List V} (F:FnOk X.prog X.w X.K X.mg X.base (CXR X.prog X.w) k f fd ps sp) (hr:Room k X.A) (hb:Binds X.K fd ps []) (hx:AccX X J)
    (I:Inv X pins σ H s) (r:Vals vs us) (h:sp vs H Q fun e _ H' => ∀ ea,e = .ref ea→J ea σ H'):wpAny (model X.prog X.w) X.A (call (.ref f) us) (EP X pins σ Q) X.xe s:=by
  have hl:(us ++ []).length=ps.length:=by rw [List.append_nil,← r.length];exact F.len _ _ _ _ h
  have hb' := hb s us I.kIn hl
  rw [List.append_nil] at hb'
  refine wpAny_call (codeAny_mono (F.run X.A X.stack s H ⟨us,[]⟩ us vs Q _ hr I.env0 hb' r h) fun r s' hq => ?_)
  cases r with
  | error e =>
    obtain⟨ea,H',rfl,os,bare,un,hok,hnew,hat,⟨oe,ws,he,hd,ht,hT⟩,j⟩:=hq
    have I' : Inv X pins σ H' s' := I.call' os un hok bare fun b z=>absurd z (by simp)
    refine hx.acc _ _ ⟨pins,σ,H',ea,rfl,I',⟨hat,⟨oe,ws,he,hd,?_,fun T hTT => ?_⟩,Nat.le_trans I.sz hnew⟩,j ea rfl⟩
    · rcases ht with z | ⟨T,z⟩
      · exact .inl z
      · exact .inr ⟨T,.inl z⟩
    · obtain⟨a1,a2⟩:=hT T hTT
      refine⟨Nat.le_trans I.sz a1,a2,fun z=>absurd I.lt (Nat.not_lt.mpr (z▸a1)),fun y c hy z => ?_,fun q hq z => ?_⟩
      · obtain⟨v,o,ho,_⟩:=I.cell y c hy
        exact absurd (Heap.lt_size ho) (Nat.not_lt.mpr (z▸a1))
      · obtain⟨ho,_⟩:=I.pin q hq
        exact absurd (Heap.lt_size ho) (Nat.not_lt.mpr (z▸a1))
  | ok fl =>
    cases fl with
    | ret u=>exact I.after hq
    | next=>exact False.elim hq
    | brk=>exact False.elim hq
    | cont=>exact False.elim hq
theorem pe_cX (C:CalX X.prog X.w X.K X.mg X.base x k ps sp) (hr:Room j X.A) (hx:AccX X J) (ha:PA X (e::es) t) (hjk:k≤j:=by decide) (hg:Gl X x:=by rfl) (hdb:(x==("__debug__" : Str))=false:=by decide)
    (he:starEach (e::es) X.env=(false,eval e X.env)::starEach es X.env:=by rfl) (hpl:(backTo pos (starEach es X.env)).any (·.1)=false:=by rfl) :
    PE X (.Call (.Name x p) (e::es) [] pos) (tCallX sp J t):=by
  obtain⟨f,fd,F,hm,hk,hb⟩:=C.ex
  intro pins s σ H Q I h
  refine wpAny_Call_Name_kw (ld_glob I hg hm ?_ hdb)
  refine PySem.W.callWith_K (h₀:=X.base) I.ok.mod.kin hk (thn (ha pos pins s σ H _ I h) fun us s1 ⟨vs,H1,I1,r,q⟩=>⟨I1.kIn,?_⟩) he hpl
  exact run_fnX F (hr.mono hjk) hb hx I1 r q
end
end L2
namespace L2
open PySem PySem.Spec PyProof.Rows
structure ECls (K:PySem.W.Frag) (C:Addr) (bm:List Value):Prop where
  ex:∃ nm q N bs hdct sn sub ab col dd k0 k1 k2 k3 k5 newId,K.lookup C=some (excClassObj nm q C N bs bm hdct sn sub ab col dd k0 k1 k2 k3 k5 newId)
  base:bm.contains (.type "BaseException")=true
section
variable {M:Model} {A:Around} {E:Value→Shared→Prop} {h:Heap} {g:Array GenState} {d:Drawn} {t:Nat} {os:OsState}
variable {nm q:Str} {C N:Addr} {bs bm:List Value} {hdct:Bool} {sn:List Str} {sub:List Value} {ab:Bool} {col:Option Bool} {dd:Option Addr} {k0 k1 k2 k3 k5:Option Value} {newId:String}
variable {nm' q' : Str} {D N' : Addr} {bs' bm' : List Value} {hdct' : Bool} {sn' : List Str} {sub' : List Value} {ab' : Bool} {col' : Option Bool} {dd' : Option Addr} {k0' k1' k2' k3' k5' : Option Value} {newId' : String}
theorem excMatchX {e:Addr} {oe:Obj} {Q:Bool→Shared→Prop} (hC:h.get? C=some (excClassObj nm q C N bs bm hdct sn sub ab col dd k0 k1 k2 k3 k5 newId)) (hD:h.get? D=some (excClassObj nm' q' D N' bs' bm' hdct' sn' sub' ab' col' dd' k0' k1' k2' k3' k5' newId'))
    (he:h.get? e=some oe) (hcls:oe.cls = .ref C) (hbase:bm'.contains (.type "BaseException")=true) (hq:Q ((Value.ref C::bm).contains (.ref D)) ⟨h,g,d,t,os⟩):wpAny M A (excMatches (.ref e) (.ref D)) Q E ⟨h,g,d,t,os⟩:=by
  have hcB:(Value.ref D::bm').contains (.type "BaseException")=true:=by rw [List.contains_cons,hbase,Bool.or_true]
  have f:=tc_notTuple
  unfold excMatches
  repeat (first | (with_reducible refine wpAny_loadPart_at he ?_;rw [hcls]) | with_reducible refine wpAny_loadPart_at hD ?_ | (with_reducible refine wpAny_isSubtype_exc hD ?_;rw [hcB]) | (with_reducible refine wpAny_isSubtype_exc hC ?_) | wp_step)
  cases hb:(Value.ref C::bm).contains (.ref D) <;> (rw [hb] at hq;wp_walk;exact hq)
end
section
variable {X:Cx} {pins:List (Addr×Obj)} {σ:St} {H:Hp} {s:Shared}
theorem goes_ok {M:Model} {A:Around} {E:Value→Shared→Prop} {i:Nat} {x:Str} {pos:Pos} {Q:Unit→Shared→Prop} (I:Inv X pins σ H s) (hN:X.N.Nodup) (hi:X.N[i]? = some x) (hk:X.env.scope.names.lookup x=some .local)
    (h:∀ s',Inv X pins (σ.set i none) H s' → Q () s'):wpAny M A (do bindName X.env x .none;unbindBehindTheSuite X.env x pos) Q E s:=by
  obtain⟨m,hn,hl⟩:=id I.loc
  have hcls:(X.env.scope.kind == .class||(X.env.scope.kind == .module&&X.env.locals != X.env.globals))=false:=by rw [I.ok.kind];rfl
  have hiσ:i<σ.length:=by rw [I.len];exact (List.getElem?_eq_some_iff.mp hi).1
  have cne:=I.cne
  have tracked:∀ {a:Addr} {h' : Heap},(∃ o,s.heap.get? a=some o∧H a=none)→Heap.SameBut a s.heap h' → HOk X.prog X.w H h' := fun {a h'} ha hs b ob e=>by
    obtain⟨_,_,hfree⟩:=ha
    refine (I.hok b ob e).stay (fun c w' hc q=>(hs.2 c ?_).trans q) (fun _ q=>q) fun _ _ q=>q
    rintro rfl
    rcases hc with rfl | hc
    · rw [hfree] at e;cases e
    · rw [hfree] at hc;cases hc
  refine wpAny_nameGoes_keeps hk hn hcls fun h' v hn' hs => ?_
  obtain⟨oL,_,_,hoL,_⟩:=id hn
  refine h _ ⟨I.ok,I.os,I.bare,⟨fun b o e n hb hx => ?_,fun b o e n hb hx => ?_,I.base.free,fun b o e hx => ?_,I.base.tups,I.base.frzs,I.base.tbls⟩,⟨_,hn',fun j y v' e1 e2 e3 => ?_⟩,fun y c e => ?_,I.free,I.freeC,fun p hp => ?_,tracked ⟨oL,hoL,I.free⟩ hs,by simpa using I.len⟩
  · exact (hs.2 b (Nat.ne_of_lt (Nat.lt_of_lt_of_le (Heap.lt_size e) I.ok.above))).trans (I.base.keep b o e n hb hx)
  · obtain⟨sl,e1⟩:=I.base.slot b o e n hb hx
    exact⟨sl,(hs.2 b (Nat.ne_of_lt (Nat.lt_of_lt_of_le (Heap.lt_size e) I.ok.above))).trans e1⟩
  · obtain⟨o',e1⟩:=I.base.there b o e hx
    exact⟨o',(hs.2 b (Nat.ne_of_lt (Nat.lt_of_lt_of_le (Heap.lt_size e) I.ok.above))).trans e1⟩
  · by_cases hj:j=i
    · subst hj
      rw [List.getElem?_set_self hiσ] at e2
      cases e2
    · rw [List.getElem?_set_ne (Ne.symm hj)] at e2
      obtain⟨u',r',q⟩:=hl j y v' e1 e2 e3
      refine⟨u',r',?_⟩
      rcases q with ⟨k,e⟩ | ⟨k,c,e,z⟩
      · refine .inl ⟨k,?_⟩
        have:y≠x:=fun e=>hj (nodup_ix hN e1 (e▸hi))
        simp [this,e]
      · exact .inr ⟨k,c,e,z.sameBut hs (cne y c e)⟩
  · obtain⟨w',z⟩:=I.cell y c e
    exact⟨w',z.sameBut hs (cne y c e)⟩
  · obtain⟨e,n,ne,nf,d⟩:=I.pin p hp
    exact⟨(hs.2 p.1 ne).trans e,n,ne,nf,d⟩
abbrev Cx.pinned (X:Cx) (pn:List (Addr×Obj)):Cx := { X with pn:=pn }
theorem Cx.Ok.pinned {pn:List (Addr×Obj)} (ok:X.Ok):(X.pinned pn).Ok:=⟨ok.mod,ok.kind,ok.glob,ok.blt,ok.above,ok.inj,ok.has,ok.cab,ok.hd,ok.frames,ok.stk,ok.exf,ok.bs,ok.bsz,ok.noex,ok.exfs,ok.funs,ok.frf⟩
theorem Cx.Ok.unpin {pn:List (Addr×Obj)} (ok:(X.pinned pn).Ok):X.Ok:=⟨ok.mod,ok.kind,ok.glob,ok.blt,ok.above,ok.inj,ok.has,ok.cab,ok.hd,ok.frames,ok.stk,ok.exf,ok.bs,ok.bsz,ok.noex,ok.exfs,ok.funs,ok.frf⟩
theorem Inv.toPn (I:Inv X pins σ H s):Inv (X.pinned (X.pn++pins)) [] σ H s:=⟨I.ok.pinned,I.os,I.bare,I.base,I.loc,I.cell,I.free,I.freeC,fun p hp=>I.pin p (by simpa using hp),I.hok,I.len⟩
theorem Inv.ofPn {pins' : List (Addr×Obj)} (I:Inv (X.pinned (X.pn++pins)) pins' σ H s):Inv X pins σ H s:=⟨I.ok.unpin,I.os,I.bare,I.base,I.loc,I.cell,I.free,I.freeC,fun p hp=>I.pin p (List.mem_append_left _ hp),I.hok,I.len⟩
theorem FlX.ofPn {pins' : List (Addr×Obj)} {e:Addr} (F:FlX (X.pinned (X.pn++pins)) pins' H s e):FlX X pins H s e:=by
  obtain⟨oe,vs,h1,h2,h3,h4⟩:=F.tb
  exact⟨F.at_,⟨oe,vs,h1,h2,h3,fun T hT=>let ⟨a,b,c,d,f⟩:=h4 T hT;⟨a,b,c,d,fun p hp=>f p (List.mem_append_left _ hp)⟩⟩,F.new⟩
abbrev Cx.hand (X:Cx) (e:Addr):Cx := { X with A:=X.A.mark (some (.ref e)),calm:=false,xe:=fun _ _=>False }
theorem Cx.Ok.hand {e:Addr} (ok:X.Ok):(X.hand e).Ok:=⟨ok.mod,ok.kind,ok.glob,ok.blt,ok.above,ok.inj,ok.has,ok.cab,(fun z=>by cases z),ok.frames,ok.stk,ok.exf,ok.bs,ok.bsz,ok.noex,ok.exfs,ok.funs,ok.frf⟩
theorem Inv.hand (I:Inv X pins σ H s) (e:Addr):Inv (X.hand e) pins σ H s:=⟨I.ok.hand,I.os,I.bare,I.base,I.loc,I.cell,I.free,I.freeC,I.pin,I.hok,I.len⟩
theorem Inv.unhand {e:Addr} (I:Inv (X.hand e) pins σ H s) (ok:X.Ok):Inv X pins σ H s:=⟨ok,I.os,I.bare,I.base,I.loc,I.cell,I.free,I.freeC,I.pin,I.hok,I.len⟩
def SubX (K:PySem.W.Frag) (C:Value) (D:Addr):Prop:=∃ c bm,C = .ref c∧ECls K c bm∧(Value.ref c::bm).contains (.ref D)=true
def gone (i:Nat) (D:Ends):Ends:=⟨fun σ H=>D.nx (σ.set i none) H,D.rt,fun σ H=>D.bk (σ.set i none) H,fun σ H=>D.ct (σ.set i none) H⟩
def tTry (K:PySem.W.Frag) (i:Nat) (C:Addr) (th:TS) (tb:(Addr→St→Hp→Prop)→TS):TS:=fun D σ H=>∃ J:Addr→St→Hp→Prop,
  (∀ ea σ' H',J ea σ' H' → (∃ c dd,H' ea=some (ExO c dd ea)∧SubX K c C)∧th (gone i D) (σ'.set i (some (.ref ea))) H')∧tb J D σ H
theorem ps_try {body suite:List Stmt} {b₀:Stmt} {dn n:Str} {i:Nat} {C:Addr} {bmC:List Value} {dp hp pos:Pos} {tb:(Addr→St→Hp→Prop)→TS} {th:TS} (K:PySem.W.Frag) (hK:X.K=K) (hst:X.stack=X.env::X.outer) (hf:X.env.frame=some X.env.locals)
    (hN:X.N.Nodup) (hi:X.N[i]? = some n) (hk:X.env.scope.names.lookup n=some .local) (hg:Gl X dn) (hm:X.mg dn=some (.ref C)) (eC:ECls X.K C bmC)
    (hb:∀ pn J,PSs ((X.pinned pn).wish (XE (X.pinned pn) J)) body (tb J)) (hh:∀ ea,PSs (X.hand ea) (b₀::suite) th) (hdb:(dn==("__debug__" : Str))=false:=by decide) :
    PS X (.Try body [.ExceptHandler (some (.Name dn dp)) (some n) (b₀::suite) hp] [] [] pos) (tTry K i C th tb):=by
  subst hK
  intro pins s σ H D I ⟨J,hJ,q⟩
  refine wpAny_Try_except (wpAny_mono (hb (X.pn++pins) J [] s σ H D (I.toPn.wish _) q) (fun f s1 z => ?_) fun e s1 z => ?_)
  · have z' := z.unwish
    have z2:SP X pins D f s1:=by
      cases f with
      | next=>obtain⟨σ',H',I',q'⟩:=z';exact⟨σ',H',I'.ofPn,q'⟩
      | brk=>obtain⟨σ',H',I',q'⟩:=z';exact⟨σ',H',I'.ofPn,q'⟩
      | cont=>obtain⟨σ',H',I',q'⟩:=z';exact⟨σ',H',I'.ofPn,q'⟩
      | ret u=>obtain⟨v,σ',H',I',r,q'⟩:=z';exact⟨v,σ',H',I'.ofPn,r,q'⟩
    cases f with
    | next=>exact wpAny_execs_nil z2
    | ret v=>exact z2
    | brk=>exact z2
    | cont=>exact z2
  · obtain⟨pins',σ1,H1,ea,rfl,I1,F1,j⟩:=z
    have I1:=I1.ofPn
    have F1:=F1.ofPn
    obtain⟨⟨c,dd,hat,cc,bm,rfl,eCc,hsub⟩,hth⟩:=hJ ea σ1 H1 j
    obtain⟨oe,vs,he,hd,ht,hT⟩:=F1.tb
    have hfr:X.A.frames=some (X.env::X.outer):=by rw [← hst];exact I.ok.frames
    have hl:s1.heap.FunFrames X.base (X.env::X.outer):=by rw [← hst];exact I1.stack
    refine noteX hfr hl hf he hd ht fun h2 L2 => ?_
    rw [← frs_eq hst] at L2
    obtain⟨I2,F2,oe2,vs2,T2,e2,d2,t2⟩:=I1.leftX F1 he hd (.inr rfl) hT L2
    have land:∀ {s' : Shared} {oe:Obj} {vs:Array Value} {T:Addr} {fl:Value} {Aa:Around} {Ee:Value→Shared→Prop} {Q:Unit→Shared→Prop},Inv X pins σ1 H1 s' → FlX X pins H1 s' ea→s'.heap.get? ea=some oe→oe.data = .fields vs→TbAt s'.heap ea vs T fl →
        (∀ h',Inv X pins σ1 H1 { s' with heap:=h' }→FlX X pins H1 { s' with heap:=h' } ea→(∃ oe' vs' T',h'.get? ea=some oe' ∧ oe'.data = .fields vs' ∧ TbAt h' ea vs' T' .none)→Q () { s' with heap:=h' })→wpAny (model X.prog X.w) Aa (setFlight (.ref ea) none) Q Ee s' := by
      intro s' oe vs T fl Aa Ee Q I' F' e' d' t' k
      have hTf:T∉frs X.stack:=fun hm=>by
        obtain⟨_,_,oT,ts,q1,q2,_⟩:=t'
        obtain⟨_,o,ho,hnf⟩:=I'.stack.mem hm
        rw [q1] at ho;injection ho with ho;subst ho;exact hnf ts q2
      obtain⟨oe1',vs1',e1',d1',_,hT1⟩:=F'.tb
      have q:oe1' = oe∧vs1' = vs:=by
        rw [e'] at e1'
        injection e1' with z
        subst z
        rw [d'] at d1'
        injection d1' with y
        exact⟨rfl,y.symm⟩
      obtain⟨rfl,rfl⟩:=q
      refine flightX (f:=none) e' d' t' hTf fun h3 L3 => ?_
      obtain⟨I3,F3,oe3,vs3,T3,e3,d3,t3⟩:=I'.leftX F' e' d' (.inl rfl) hT1 L3
      exact k h3 I3 F3 ⟨oe3,vs3,T3,e3,d3,t3⟩
    refine land I2 F2 e2 d2 t2 fun h3 I3 F3 ⟨oe3,vs3,T3,e3,d3,t3⟩ => ?_
    refine wpAny_handleBy_cons (codeAny_handlers_test ?_) (by intro z;cases z)
    refine ld_glob (X:=X.hand ea) (I3.hand ea) hg hm ?_ hdb
    obtain⟨nm,q0,N,bs,hdct,sn,sub,ab,col,dd0,k0,k1,k2,k3,k5,newId,lk⟩:=eCc.ex
    obtain⟨nm',q0',N',bs',hdct',sn',sub',ab',col',dd0',k0',k1',k2',k3',k5',newId',lk'⟩:=eC.ex
    have hcls:∃ oe,h3.get? ea=some oe∧oe.cls = .ref cc:=by
      obtain⟨⟨ws,sl,z,_⟩,_,_⟩:=I3.hok ea _ hat
      exact⟨_,z,rfl⟩
    obtain⟨oe4,e4,c4⟩:=hcls
    refine excMatchX (I3.kIn _ _ lk) (I3.kIn _ _ lk') e4 c4 eC.base ?_
    rw [hsub]
    refine codeAny_handlers_suite_as (land I3 F3 e3 d3 t3 fun h5 I5 F5 _ => ?_)
    refine store_ok (X:=X.hand ea) (I5.hand ea) hN hi (.inl hk) (show RelV (.ref ea) (.ref ea) from rfl) (fun s6 I6 => ?_) (.inr hk)
    refine wpAny_mono (hh ea pins s6 _ H1 (gone i D) I6 hth) (fun f s7 z => ?_) fun _ _ z=>z.elim
    cases f with
    | next =>
      obtain⟨σ',H',I',q'⟩:=z
      exact goes_ok (I'.unhand I.ok) hN hi hk fun s8 I8=>⟨_,H',I8,q'⟩
    | brk =>
      obtain⟨σ',H',I',q'⟩:=z
      exact goes_ok (I'.unhand I.ok) hN hi hk fun s8 I8=>⟨_,H',I8,q'⟩
    | cont =>
      obtain⟨σ',H',I',q'⟩:=z
      exact goes_ok (I'.unhand I.ok) hN hi hk fun s8 I8=>⟨_,H',I8,q'⟩
    | ret u =>
      obtain⟨v,σ',H',I',r,q'⟩:=z
      exact goes_ok (I'.unhand I.ok) hN hi hk fun s8 I8=>⟨v,_,H',I8,r,q'⟩
end
end L2
namespace L2
open PySem PySem.Spec PyProof.Rows
section
variable {prog:Program} {w:World} {A:Around} {E:Value→Shared→Prop} {h:Heap} {g:Array GenState} {d:Drawn} {t:Nat} {os:OsState}
variable {nm q:Str} {C N:Addr} {bs bm bmB:List Value} {hdct:Bool} {sn:List Str} {sub:List Value} {ab:Bool} {col:Option Bool} {dd:Option Addr} {k0 k1 k2 k3 k5:Option Value} {B newId initId:String}
theorem type_call_exc_initT (F:ExcBaseFacts B newId initId bmB) (T:OwnTail h bmB bm) {mN:Str→Option Value} {rest:List Value} {fI:Addr} {oI:Obj} {Q:Fin→Shared→Prop}
    (hC:h.get? C=some (excClassObj nm q C N bs bm hdct sn sub ab col dd k0 k1 k2 k3 k5 newId)) (hn:h.Ns N mN) (hi:mN "__init__" = some (.ref fI))
    (hfI:h.get? fI=some oI) (hfc:oI.cls = .type "function")
    (hq:∀ h' e,Heap.MadeExcOf h h' e (.ref C) rest→h.objs.size≤e →
      wpAny (model prog w) A (call (.ref fI) (.ref e::rest)) (fun r s' => r = .none∧Q (.done (.ret (.ref e))) s') E ⟨h',g,d,t,os⟩) (hrest:rest.length≤sizeLine:=by size_fits) :
    wpAny (model prog w) A (Builtin.«type.__call__» ⟨.ref C::rest,[]⟩) Q E ⟨h,g,d,t,os⟩:=by
  repeat (first | with_reducible refine wpAny_loadPart_at hC ?_ | with_reducible refine wpAny_madeBy_exc hC ?_ | wp_step)
  refine codeAny_call_builtin_code (Code.quiet_builtin _ F.quiet) (wpAny_check_new_subT F T hC ?_)
  refine codeAny_exc_new_subT F T hC ?_ hrest
  show wpAny _ _ _ _ _ _
  have hC₁:=Heap.get?_push_of_some { cls := .ref C,data := .fields #[.ref h.objs.size,.none,.none,.none,.bool false,.none] }
    (Heap.get?_push_of_some { cls := .type "tuple",data := .seq rest.toArray } hC)
  have hfI₁:=Heap.get?_push_of_some { cls := .ref C,data := .fields #[.ref h.objs.size,.none,.none,.none,.bool false,.none] }
    (Heap.get?_push_of_some { cls := .type "tuple",data := .seq rest.toArray } hfI)
  have hn₁:((h.push { cls := .type "tuple",data := .seq rest.toArray }).push { cls := .ref C,data := .fields #[.ref h.objs.size,.none,.none,.none,.bool false,.none] }).Ns N mN :=
    let ⟨o,es,ep,e,r⟩:=hn;⟨o,es,ep,Heap.get?_push_of_some _ (Heap.get?_push_of_some _ e),r⟩
  have hget:((h.push { cls := .type "tuple",data := .seq rest.toArray }).push
      { cls := .ref C,data := .fields #[.ref h.objs.size,.none,.none,.none,.bool false,.none] }).get? (h.objs.size+1)=some
      { cls := .ref C,data := .fields #[.ref h.objs.size,.none,.none,.none,.bool false,.none] }:=by heap_get
  have T₁:=T.keeps (h' := (h.push { cls := .type "tuple",data := .seq rest.toArray }).push { cls := .ref C,data := .fields #[.ref h.objs.size,.none,.none,.none,.bool false,.none] })
    fun b o e=>Heap.get?_push_of_some _ (Heap.get?_push_of_some _ e)
  have hcC:(Value.ref C::bm).contains (.ref C)=true:=by simp
  unfold isInstance
  repeat (first | with_reducible refine wpAny_loadPart_at hget ?_ | (with_reducible refine wpAny_isSubtype_exc hC₁ ?_;rw [hcC]) | wp_step)
  show wpAny _ _ (typeLookup (.ref C) _) _ _ _
  refine wpAny_typeLookup_tail hC₁ hn₁ T₁ F.mroIs F.init.lookup ?_
  rw [hi]
  refine wpAny_holding (wpAny_bind ?_)
  unfold bindSpecial
  refine wpAny_bind (wpAny_typeOf (T := "function") ⟨_,hfI₁,hfc⟩ ?_)
  rw [if_pos (by decide)]
  refine wpAny_pure (wpAny_bind (wpAny_mono (hq _ (h.objs.size+1) ⟨fun b o hb=>Heap.get?_push_of_some _ (Heap.get?_push_of_some _ hb),Heap.get?_none_of_le (Nat.le_succ _),h.objs.size,hget,Heap.get?_none_of_le (Nat.le_refl _),?_⟩ (Nat.le_succ _)) (fun r s' hr => ?_) fun _ _ x=>x))
  · exact Heap.get?_push_of_some _ (Heap.get?_push_at rfl rfl)
  · obtain⟨rfl,hQ⟩:=hr
    wp_walk
    exact hQ
theorem call_exc_initT (F:ExcBaseFacts B newId initId bmB) (T:OwnTail h bmB bm) {mN:Str→Option Value} {rest:List Value} {fI:Addr} {oI:Obj} {Q:Value→Shared→Prop}
    (hC:h.get? C=some (excClassObj nm q C N bs bm hdct sn sub ab col dd k0 k1 k2 k3 k5 newId)) (hn:h.Ns N mN) (hi:mN "__init__" = some (.ref fI))
    (hfI:h.get? fI=some oI) (hfc:oI.cls = .type "function")
    (hq:∀ h' e,Heap.MadeExcOf h h' e (.ref C) rest→h.objs.size≤e →
      wpAny (model prog w) (A.under (.builtin "type.__call__" ⟨.ref C::rest,[]⟩)) (call (.ref fI) (.ref e::rest)) (fun r s' => r = .none∧Q (.ref e) s') E ⟨h',g,d,t,os⟩) (hrest:rest.length≤sizeLine:=by size_fits) :
    wpAny (model prog w) A (call (.ref C) rest) Q E ⟨h,g,d,t,os⟩:=by
  have f1:=tc_lookup
  have f2:=tc_bind (.ref C)
  have hT:(⟨h,g,d,t,os⟩:Shared).TypeIs (.ref C) "type" := ⟨_,hC,rfl⟩
  refine wpAny_call (codeAny_of_tree ?_)
  show wpAny _ _ (callAny (.ref C) _) _ _ _
  repeat (any_goals (first | assumption | with_reducible refine wpAny_loadPart_at hC ?_ | wp_step))
  refine⟨rfl,?_⟩
  refine codeAny_call_builtin_at (Code.quiet_builtin _ (by decide +kernel)) entry_typeCall (wpAny_check_type_call_sub hC (type_call_exc_initT (hrest:=hrest) F T hC hn hi hfI hfc fun h' e hm hle => ?_))
  exact hq h' e hm hle
theorem raiseX {env:Env} {M:Model} {s:Shared} {x:Sem Value} {Q:Flow→Shared→Prop} (hbase:bm.contains (.type "BaseException")=true) (hh:A.handled=none)
    (h:wpAny M A x (fun v s₁=>∃ e de vs sl,v = .ref e∧s₁.heap.get? C=some (excClassObj nm q C N bs bm hdct sn sub ab col dd k0 k1 k2 k3 k5 newId) ∧
      s₁.heap.get? e=some { cls := .ref C,dict:=de,data := .fields vs,slots:=sl }∧vs[1]? = some .none∧E (.ref e) s₁) E s) :
    wpAny M A (raiseStmt env (some x) none) Q E s:=by
  have hcB:(Value.ref C::bm).contains (.type "BaseException")=true:=by rw [List.contains_cons,hbase,Bool.or_true]
  unfold raiseStmt
  refine wpAny_bind (wpAny_mono h (fun v s₁ h₁ => ?_) fun _ _ x=>x)
  obtain⟨e,de,vs,sl,rfl,hC,he,h1,hE⟩:=h₁
  obtain⟨hp,g,d,tk,os⟩:=s₁
  repeat (first | with_reducible refine wpAny_loadPart_at he ?_ | with_reducible refine wpAny_loadPart_at hC ?_ | (with_reducible refine wpAny_isSubtype_exc hC ?_;rw [hcB]) | (with_reducible refine wpAny_field he rfl h1 ?_) | wp_step)
  exact wpAny_raiseNew_none hh hE
end
end L2
namespace L2
open PySem PySem.Spec PyProof.Rows
def ExN (C:Value) (dd:Option Addr) (e:Addr):HO := .ext fun h=>∃ vs sl,h.get? e=some { cls:=C,dict:=dd,data := .fields vs,slots:=sl }∧vs.size=6∧vs[1]? = some .none
abbrev bmV:List Value := [.type "ValueError",.type "Exception",.type "BaseException",.type "object"]
structure EMk (K:PySem.W.Frag) (C fI:Addr) (bm:List Value):Prop where
  ex:∃ nm q N bs hdct sn sub ab col dd k0 k1 k2 k3 k5 mN,K.lookup C=some (excClassObj nm q C N bs bm hdct sn sub ab col dd k0 k1 k2 k3 k5 "ValueError.__new__")∧(∀ h:Heap,K.In h→h.Ns N mN)∧mN "__init__" = some (.ref fI)
  tail:∀ h:Heap,K.In h→OwnTail h bmV bm
  fn:∃ oI,K.lookup fI=some oI∧oI.cls = .type "function"
  kp:PySem.W.keepIn K (.ref C)=true
theorem EMk.base {K:PySem.W.Frag} {C fI:Addr} {bm:List Value} (M:EMk K C fI bm) {h:Heap} (KX:K.In h):bm.contains (.type "BaseException")=true:=(M.tail h KX).hasType (by decide)
section
variable {X:Cx} {pins:List (Addr×Obj)} {σ:St} {H:Hp} {s:Shared} {e:Addr}
theorem Inv.asO {C:Value} {dd:Option Addr} (I:Inv X pins σ H s) (h:H e=some (ExN C dd e)):Inv X pins σ (upd H e (ExO C dd e)) s:=by
  have un:Un (frs X.stack) [] H (upd H e (ExO C dd e)) s.heap s.heap:=by
    have hk:∀ {b:Addr} {o:HO},H b=some o→b≠e∨o=ExN C dd e:=fun {b o} hb=>by
      by_cases z:b=e
      · right;rw [z,h] at hb;exact (Option.some.inj hb).symm
      · exact .inl z
    refine⟨fun b o hb _ _ _=>hb,fun b o hb _ _ _=>⟨o.slots,hb⟩,fun b o _ n _ => ?_,fun b o hb _=>⟨o,hb⟩,fun b xs q => ?_,fun b o u q => ?_,fun b ps q=>⟨#[],?_⟩⟩
    · rw [upd_ne (fun z=>by rw [z,h] at n;cases n)];exact n
    · rcases hk q with z | z
      · rw [upd_ne z];exact q
      · cases z
    · rcases hk q with z | z
      · rw [upd_ne z];exact q
      · cases z
    · rcases hk q with z | z
      · rw [upd_ne z,q];simp
      · cases z
  have hok:HOk X.prog X.w (upd H e (ExO C dd e)) s.heap:=fun a o ha=>by
    by_cases z:a=e
    · subst z
      rw [upd_same] at ha
      cases ha
      obtain⟨⟨vs,sl,q1,q2,_⟩,q3,_⟩:=I.hok a _ h
      exact⟨⟨vs,sl,q1,q2⟩,q3,fun h1 h2 ⟨ws,sl,k1,k2⟩ k=>⟨ws,sl,k _ k1,k2⟩⟩
    · rw [upd_ne z] at ha
      refine (I.hok a o ha).stay (fun b u _ q=>q) (fun b q => ?_) fun b xs q => ?_
      · rw [upd_ne (fun y=>by rw [y,h] at q;cases q)];exact q
      · rw [upd_ne (fun y=>by rw [y,h] at q;cases q)];exact q
  exact I.call' (s' := s) rfl un hok I.bare fun b z=>absurd z (by simp)
def tRaise (C:Addr) (sp:Sp) (J:Addr→St→Hp→Prop) (t:TA):TS:=fun _ σ H=>t σ H fun vs H1=>∀ ea,H1 ea=none →
  sp (.ref ea::vs) (upd H1 ea (ExN (.ref C) none ea)) (fun v H2=>v = .non∧∃ dd,H2 ea=some (ExN (.ref C) dd ea)∧J ea σ (upd H2 ea (ExO (.ref C) dd ea))) E0
theorem ps_raise {J:Addr→St→Hp→Prop} {k:Nat} {C fI:Addr} {bm:List Value} {fd:FuncData} {ps:List Str} {sp:Sp} {x:Str} {np cpos pos:Pos} {e₀:Expr} {es:List Expr} {t:TA} (M:EMk X.K C fI bm) (F:FnOk X.prog X.w X.K X.mg X.base CX0 k fI fd ps sp) (hr:Room (k+1) X.A)
    (hb:Binds X.K fd ps []) (hx:AccX X J) (hc:X.calm=true) (hg:Gl X x) (hm:X.mg x=some (.ref C)) (ha:PA X (e₀::es) t) (hps:ps.length≤100:=by decide) (hdb:(x==("__debug__" : Str))=false:=by decide)
    (he:starEach (e₀::es) X.env=(false,eval e₀ X.env)::starEach es X.env:=by rfl) (hpl:(backTo cpos (starEach es X.env)).any (·.1)=false:=by rfl) :
    PS X (.Raise (some (.Call (.Name x np) (e₀::es) [] cpos)) none pos) (tRaise C sp J t):=by
  intro pins s σ H D I h
  obtain⟨nm,q,N,bs,hdct,sn,sub,ab,col,dd,k0,k1,k2,k3,k5,mN,lk,hN,hi⟩:=M.ex
  obtain⟨oI,lkI,hfc⟩:=M.fn
  have key:wpAny (model X.prog X.w) X.A (eval (.Call (.Name x np) (e₀::es) [] cpos) X.env) (fun v s₁=>∃ e de vs sl,v = .ref e∧s₁.heap.get? C=some (excClassObj nm q C N bs bm hdct sn sub ab col dd k0 k1 k2 k3 k5 "ValueError.__new__") ∧
      s₁.heap.get? e=some { cls := .ref C,dict:=de,data := .fields vs,slots:=sl }∧vs[1]? = some .none∧X.xe (.ref e) s₁) X.xe s:=by
    refine wpAny_Call_Name_kw (ld_glob I hg hm ?_ hdb)
    refine PySem.W.callWith_K (h₀:=X.base) I.ok.mod.kin M.kp (thn (ha cpos pins s σ H _ I h) fun us s1 ⟨vs,H1,I1,r,hq⟩=>⟨I1.kIn,?_⟩) he hpl
    obtain⟨hp,g,dr,tk,os⟩:=s1
    have KX:=I1.kIn
    have hlen:us.length≤sizeLine:=by
      have hh:=F.len _ _ _ _ (hq hp.objs.size (I1.hok.fresh (Nat.le_refl _)))
      rw [List.length_cons] at hh
      rw [← r.length,sizeLine_eq]
      lia
    refine call_exc_initT (hrest:=hlen) PySem.F.excBase_ValueError (M.tail hp KX) (KX _ _ lk) (hN hp KX) hi (KX _ _ lkI) hfc fun h' e hme hle => ?_
    have hfree:=I1.hok.fresh hle
    obtain⟨t0,hrec,_,_⟩:=hme.there
    have I2:Inv X pins σ (upd H1 e (ExN (.ref C) none e)) ⟨h',g,dr,tk,os⟩:=I1.laid (h' := h') (t' := tk) (fun b u q=>hme.keeps b u q) hle ⟨⟨_,_,hrec,rfl,rfl⟩,⟨_,hrec⟩,fun h1 h2 ⟨ws,sl,k1,k2⟩ k=>⟨ws,sl,k _ k1,k2⟩⟩
    have hq' := hq e hfree
    have r2:Vals (V.ref e::vs) (Value.ref e::us) := .cons rfl r
    have hl:((Value.ref e::us) ++ []).length=ps.length:=by rw [List.append_nil,← r2.length];exact F.len _ _ _ _ hq'
    have hb' := hb ⟨h',g,dr,tk,os⟩ (Value.ref e::us) I2.kIn hl
    rw [List.append_nil] at hb'
    refine wpAny_call (codeAny_mono (F.run _ X.stack _ _ ⟨Value.ref e::us,[]⟩ (Value.ref e::us) _ _ _ (hr.make C us []) (I2.env0.make C us []) hb' r2 hq') fun r s' hz => ?_)
    cases r with
    | error e=>exact hz.elim
    | ok fl =>
      cases fl with
      | ret u =>
        obtain⟨v,H',I3,rv,ev,de,hE,j⟩:=I2.after hz
        subst ev
        refine⟨rv,?_⟩
        obtain⟨⟨ws,sl,q1,q2,q3⟩,_,_⟩:=I3.hok e _ hE
        refine⟨e,de,ws,sl,rfl,I3.kIn _ _ lk,q1,q3,hx.acc _ _ ⟨pins,σ,_,e,rfl,I3.asO hE,⟨⟨_,_,upd_same⟩,⟨_,ws,q1,rfl,.inl q3,fun T hT => ?_⟩,Nat.le_trans I1.sz hle⟩,j⟩⟩
        rw [q3] at hT
        cases hT
      | next=>exact False.elim hz
      | brk=>exact False.elim hz
      | cont=>exact False.elim hz
  rw [arm_exec_Raise]
  have hbase:=M.base I.kIn
  first
    | exact wpAny_bind (wpAny_standAt (raiseX hbase (I.ok.hd hc) (wpAny_bind (wpAny_mono key (fun v s₁ z=>wpAny_bind (wpAny_standAt (wpAny_pure z))) fun _ _ z=>z))))
    | (simp only [evalOpt,Option.map];exact wpAny_bind (wpAny_standAt (raiseX hbase (I.ok.hd hc) (wpAny_bind (wpAny_mono key (fun v s₁ z=>wpAny_bind (wpAny_standAt (wpAny_pure z))) fun _ _ z=>z)))))
    | exact wpAny_bind (wpAny_standAt (raiseX hbase (I.ok.hd hc) key))
end
end L2
namespace L2
open PySem PySem.Spec PyProof.Rows
section
variable {prog:Program} {w:World} {A:Around} {R:Result→Shared→Prop} {h:Heap} {g:Array GenState} {d:Drawn} {t:Nat} {os:OsState}
variable {nm q:Str} {C N:Addr} {bs bm bmB:List Value} {hdct:Bool} {sn:List Str} {sub:List Value} {ab:Bool} {col:Option Bool} {dd:Option Addr} {k0 k1 k2 k3 k5:Option Value} {B newId initId:String}
theorem init_call (F:ExcBaseFacts B newId initId bmB) (T:OwnTail h bmB bm) {e:Addr} {de:Option Addr} {vs:Array Value} {sl:Array (Option Value)} {rest:List Value}
    (hC:h.get? C=some (excClassObj nm q C N bs bm hdct sn sub ab col dd k0 k1 k2 k3 k5 newId)) (he:h.get? e=some { cls := .ref C,dict:=de,data := .fields vs,slots:=sl }) (hs:vs.size=6) (hrest:rest.length≤sizeLine)
    (hq:R (.ok (.ret .none)) ⟨(h.push { cls := .type "tuple",data := .seq rest.toArray }).update e (Obj.mapFields (·.setIfInBounds 0 (.ref h.objs.size))),g,d,t,os⟩) :
    codeAny (model prog w) A (.call (.builtin initId) ⟨.ref e::rest,[]⟩) R ⟨h,g,d,t,os⟩:=by
  refine codeAny_call_builtin F.init.plain F.initEntry (wpAny_check_init_subT F T hC he rfl ?_)
  have he2:=Heap.get?_push_of_some { cls := .type "tuple",data := .seq rest.toArray } he
  wp_walk
  have h0:vs[(0:Nat)]? = some (vs[0]'(by lia)):=Array.getElem?_eq_getElem (by lia)
  rw [h0]
  refine wpAny_pure (wpAny_bind (wpAny_setField he2 rfl (by lia) ?_))
  generalize vs[0]'(by lia)=v0
  cases v0 <;> (wp_walk;exact hq)
end
theorem upd_id {H:Hp} {a:Addr} {o:HO} (h:H a=some o):upd H a o=H:=by
  funext b
  by_cases z:b=a
  · rw [z,upd_same,h]
  · rw [upd_ne z]
structure ELow (K:PySem.W.Frag) (C:Addr) (bm:List Value):Prop where
  ex:∃ nm q N bs hdct sn sub ab col dd k0 k1 k2 k3 k5,K.lookup C=some (excClassObj nm q C N bs bm hdct sn sub ab col dd k0 k1 k2 k3 k5 "ValueError.__new__")
  tail:∀ h:Heap,K.In h→OwnTail h bmV bm
theorem EMk.low {K:PySem.W.Frag} {C fI:Addr} {bm:List Value} (M:EMk K C fI bm):ELow K C bm:=by
  obtain⟨nm,q,N,bs,hdct,sn,sub,ab,col,dd,k0,k1,k2,k3,k5,mN,lk,_⟩:=M.ex
  exact⟨⟨nm,q,N,bs,hdct,sn,sub,ab,col,dd,k0,k1,k2,k3,k5,lk⟩,M.tail⟩
structure EIni (K:PySem.W.Frag) (D:Addr) (mc:Value):Prop where
  sp:PySem.W.specialIn K (.ref D) "__getattribute__" = some (some (.builtin "type.__getattribute__"))
  rd:PySem.W.readsIn K D mc=true
  fc:PySem.W.findCls K (.ref D) mc "__init__" = some (.val (.builtin "ValueError.__init__"))
section
variable {X:Cx} {x:Str} {p pos apos:Pos} {a b:Expr} {t:TA} {C D:Addr} {bm:List Value} {mc:Value}
def tIni (C:Addr) (t:TA):TE:=fun σ H Q=>t σ H fun vs H1=>∃ ea v de,vs = [.ref ea,v]∧H1 ea=some (ExN (.ref C) de ea)∧Q .non H1
theorem pe_ini {pl:Sem Bool} (L:ELow X.K C bm) (N:EIni X.K D mc) (hg:Gl X x) (hm:X.mg x=some (.ref D)) (ha:PA X [a,b] t) (hdb:(x==("__debug__" : Str))=false:=by decide)
    (hst:starEach [a,b] X.env=(false,eval a X.env)::starEach [b] X.env:=by rfl) (hpl:(backTo pos (starEach [b] X.env)).any (·.1)=false:=by rfl)
    (ht:eval (.Call (.Attribute (.Name x p) "__init__" apos) [a,b] [] pos) X.env=(do
      let ov ← eval (.Name x p) X.env
      standAt apos.atName
      let (f,first) ← holding [ov] (getMethod ov "__init__" pl)
      callWith pos f first (backTo pos (starEach [a,b] X.env)) (backToKw pos (keywordEach [] X.env))):=by rfl) :
    PE X (.Call (.Attribute (.Name x p) "__init__" apos) [a,b] [] pos) (tIni C t):=by
  intro pins s σ H Q I h
  refine PySem.W.methodCall_KW (pl:=pl) (ld_glob I hg hm ?_ hdb) ht
  refine PySem.W.method_cls I.kIn N.sp (PySem.W.cls_value I.kIn N.rd N.fc rfl ?_)
  refine PyProof.Rows.callWith_builtin1 (thn (ha pos pins _ σ H _ (I.tok _) h) fun us s1 ⟨vs,H1,I1,r,ea,v,de,ev,hE,q⟩ => ?_) hst hpl
  subst ev
  obtain⟨u1,u2,rfl,ru,rv⟩:=r.two
  obtain rfl:u1=Value.ref ea:=ru
  obtain⟨hp,g,dr,tk,os⟩:=s1
  obtain⟨nm,q0,N0,bs,hdct,sn,sub,ab,col,dd,k0,k1,k2,k3,k5,lk⟩:=L.ex
  obtain⟨⟨ws,sl,q1,q2,q3⟩,_,_⟩:=I1.hok ea _ hE
  refine wpAny_call (init_call PySem.F.excBase_ValueError (L.tail hp I1.kIn) (I1.kIn _ _ lk) q1 q2 (by show 1≤sizeLine;decide) ?_)
  have q1' := Heap.get?_push_of_some { cls := .type "tuple",data := .seq #[u2] } q1
  have hrec:=Heap.get?_update_self (Obj.mapFields (·.setIfInBounds 0 (Value.ref hp.objs.size))) q1' rfl
  have I2:=I1.write (x:=ea) (e:=ea) (o:=ExN (.ref C) de ea) (t' := tk) (h' := (hp.push { cls := .type "tuple",data := .seq #[u2] }).update ea (Obj.mapFields (·.setIfInBounds 0 (Value.ref hp.objs.size)))) (by rw [hE];exact trivial) (.inl rfl)
    (fun b u hb hu=>by rw [Heap.get?_update_other _ _ (Ne.symm hb)];exact Heap.get?_push_of_some _ hu) ⟨_,hrec⟩
    ⟨⟨ws.setIfInBounds 0 (.ref hp.objs.size),sl,hrec,by simpa using q2,by rw [Array.getElem?_setIfInBounds_ne (by decide)];exact q3⟩,⟨_,hrec⟩,fun h1 h2 ⟨ws,sl,k1,k2⟩ k=>⟨ws,sl,k _ k1,k2⟩⟩
  rw [upd_id hE] at I2
  exact⟨.non,H1,I2,rfl,q⟩
end
end L2
namespace L2
open PySem PySem.Spec PyProof.Rows
def ExMro (l:List Value):Prop:=∃ rs:List Addr,l=rs.map Value.ref++bmV
theorem refuse_bmV (self:Value):refuseLoop self "__setattr__" bmV=pure ():=by kernel_rfl
theorem refuse_ex (self:Value) {l:List Value} (h:ExMro l):refuseLoop self "__setattr__" l=pure ():=by
  obtain⟨rs,rfl⟩:=h
  induction rs with
  | nil=>exact refuse_bmV self
  | cons c r ih=>show refuseLoop self "__setattr__" (.ref c::(r.map Value.ref++bmV))=_;rw [refuseLoop_ref];exact ih
theorem ex_has {l:List Value} (h:ExMro l):l.contains (.type "object")=true∧l.isEmpty=false:=by
  obtain⟨rs,rfl⟩:=h
  refine⟨?_,?_⟩
  · induction rs with
    | nil=>decide
    | cons c r ih=>show (Value.ref c::(r.map Value.ref++bmV)).contains _=true;rw [List.contains_cons,ih,Bool.or_true]
  · cases rs <;> rfl
structure ESet (K:PySem.W.Frag) (C:Addr) (f:Str):Prop where
  cls:∃ cd,PySem.W.clsIn K C=some cd∧ExMro cd.mro∧cd.hasDict=true
  sa:PySem.W.findIn K (.ref C) "__setattr__" = some (some (.builtin "object.__setattr__"))
  tk:PySem.W.findIn K (.ref C) f=some none
section
variable {prog:Program} {w:World} {A:Around} {R:Result→Shared→Prop} {s:Shared} {K:PySem.W.Frag} {x C:Addr}
theorem osa_openE {ox:Obj} {od:Option Obj} {name:Str} {tk:Tok} {v:Value} (X:K.In s.heap) (I:PySem.W.InstAt s.heap x ox C od) (S:ESet K C name)
    (h:wpAny (model prog w) A.in1 (Builtin.ObjectAttr.storeInOwnDict (.ref x) (.ref C) (.str name tk) name v false)
      (fun fin s' => match fin with | .done f=>R (.ok f) s' | .again c' => c'.quiet=true∧codeAny (model prog w) A c' R s') (fun e s' => R (.error e) s') s) :
    codeAny (model prog w) A (.call (.builtin "object.__setattr__") ⟨[.ref x,.str name tk,v],[]⟩) R s:=by
  have SF:=PySem.F.store_object
  obtain⟨cd,hc,ho,_⟩:=S.cls
  have sub:PySem.W.Looks (model prog w) s.heap (isInstance (.ref x) (.type "object")) true:=I.type.andThen (PySem.W.looks_mroIn X (by unfold PySem.W.mroIn;rw [hc,Option.bind_some,if_neg (by rw [(ex_has ho).2];decide),(ex_has ho).1]))
  refine codeAny_call_builtin SF.slot.plain SF.entry (@PySem.W.check_slot (model prog w) _ _ s "object.__setattr__" "object" "__setattr__" (.ref x) [.str name tk,v] [] _ SF.kind SF.split sub (SF.args (.ref x) (.str name tk) v) ?_)
  have hm:PySem.W.Looks (model prog w) s.heap (mroOf (.ref C)) cd.mro:=(PySem.W.looks_clsIn X hc).andThen .now
  rw [PySem.W.osa_eq,refuse_eq]
  refine wpAny_bind (wpAny_bind (I.type.here (wpAny_bind (hm.here ?_))))
  rw [refuse_ex _ ho]
  refine wpAny_pure (wpAny_bind (I.type.here (wpAny_bind ((PySem.W.looks_findIn X S.tk).here (wpAny_bind ?_)))))
  exact wpAny_pure h
end
end L2
namespace L2
open PySem PySem.Spec PyProof.Rows
def XdO (d:Addr) (fs:List (Str×V)):HO := .ext fun h=>∃ mA,h.Ns1 d mA∧(∀ f,RelO (fs.lookup f) (mA f))∧PySem.Within mA (fs.map (·.1))
theorem xd_ok {P:Program} {w:World} {H:Hp} {h:Heap} {d:Addr} {fs:List (Str×V)} {mA:Str→Option Value} (n:h.Ns1 d mA) (r:∀ f,RelO (fs.lookup f) (mA f)) (wi:PySem.Within mA (fs.map (·.1))):ObjOk P w H h d (XdO d fs) :=
  ⟨⟨mA,n,r,wi⟩,let ⟨o,_,_,e,_⟩:=n;⟨o,e⟩,fun h1 h2 ⟨mA,n,r,wi⟩ k=>⟨mA,n.at k,r,wi⟩⟩
theorem exn_ok {P:Program} {w:World} {H:Hp} {h:Heap} {e:Addr} {C:Value} {dd:Option Addr} {vs:Array Value} {sl:Array (Option Value)} (q1:h.get? e=some { cls:=C,dict:=dd,data := .fields vs,slots:=sl }) (q2:vs.size=6) (q3:vs[1]? = some .none):ObjOk P w H h e (ExN C dd e) :=
  ⟨⟨vs,sl,q1,q2,q3⟩,⟨_,q1⟩,fun h1 h2 ⟨ws,sl,k1,k2⟩ k=>⟨ws,sl,k _ k1,k2⟩⟩
section
variable {X:Cx} {pins:List (Addr×Obj)} {σ:St} {H:Hp} {s:Shared} {x C d:Addr} {f:Str} {y:V} {u:Value} {A:Around} {E:Value→Shared→Prop} {Q:Unit→Shared→Prop}
theorem setE_some {fs:List (Str×V)} (I:Inv X pins σ H s) (hE:H x=some (ExN (.ref C) (some d) x)) (hd:H d=some (XdO d fs)) (S:ESet X.K C f) (hl:fs.length<1000) (ry:RelV y u)
    (h:∀ s',Inv X pins σ (upd H d (XdO d (putF f y fs))) s' → Q () s'):wpAny (model X.prog X.w) A (setAttr (.ref x) f u) Q E s:=by
  obtain⟨⟨vs,sl,q1,q2,q3⟩,_,_⟩:=I.hok x _ hE
  obtain⟨⟨mA,n,r,wi⟩,⟨od,hod⟩,_⟩:=I.hok d _ hd
  have J:PySem.W.InstAt s.heap x { cls := .ref C,dict:=some d,data := .fields vs,slots:=sl } C (some od):=⟨q1,rfl,rfl,hod⟩
  refine PySem.W.set_plain I.kIn J S.sa (osa_openE (s := { s with toks:=s.toks+1 }) I.kIn J S ?_)
  obtain⟨cd,hc,_,hd'⟩:=S.cls
  refine wpAny_bind (wpAny_pure (wpAny_bind (wpAny_bind (wpAny_loadPart q1 (wpAny_bind (PySem.W.Looks.here (s := { s with toks:=s.toks+1 }) (PySem.W.looks_clsIn I.kIn hc) ?_))))))
  rw [hd']
  refine wpAny_pure (a:=some d) (wpAny_bind (wpAny_pure (wpAny_bind ?_)))
  refine wpAny_nsSet1 (s := { s with toks:=s.toks+1 }) n fun h' hn2 hs2 => ?_
  obtain⟨oD,esD,epD,hoD,hdD,hcD⟩:=hn2.count (PySem.Within.cons f u wi)
  refine wpAny_bind (wpAny_lookBehind hoD (by rw [hdD];exact pastItsLine_dict (Nat.le_trans hcD (by rw [List.length_cons,List.length_map,sizeLine_eq];lia))) ?_)
  refine wpAny_pure (h _ (I.write (x:=d) (e:=d) (o:=XdO d (putF f y fs)) (t' := s.toks+1+1) (h' := h') (by rw [hd];exact trivial) (.inl rfl) (fun b q hb z=>(hs2.2 b hb).trans z) ⟨_,hoD⟩ (xd_ok hn2 (fun g => ?_) fun g hg => ?_)))
  · show RelO ((putF f y fs).lookup g) (if g=f then some u else mA g)
    rw [lookup_putF]
    by_cases q:g=f
    · rw [if_pos q,if_pos q];exact ry
    · rw [if_neg q,if_neg q];exact r g
  · by_cases q:g=f
    · rw [q];exact (keys_putF f y fs).1
    · refine (keys_putF f y fs).2 g (wi g fun z=>hg ?_)
      show (if g=f then some u else mA g)=none
      rw [if_neg q];exact z
theorem setE_none (I:Inv X pins σ H s) (hE:H x=some (ExN (.ref C) none x)) (S:ESet X.K C f) (ry:RelV y u)
    (h:∀ d s',H d=none→d≠x→Inv X pins σ (upd (upd (upd H d (XdO d [])) x (ExN (.ref C) (some d) x)) d (XdO d [(f,y)])) s' → Q () s'):wpAny (model X.prog X.w) A (setAttr (.ref x) f u) Q E s:=by
  obtain⟨⟨vs,sl,q1,q2,q3⟩,_,_⟩:=I.hok x _ hE
  have J:PySem.W.InstAt s.heap x { cls := .ref C,dict:=none,data := .fields vs,slots:=sl } C none:=⟨q1,rfl,rfl,trivial⟩
  refine PySem.W.set_plain I.kIn J S.sa (osa_openE (s := { s with toks:=s.toks+1 }) I.kIn J S ?_)
  obtain⟨cd,hc,_,hd'⟩:=S.cls
  refine wpAny_bind (wpAny_pure (wpAny_bind (wpAny_bind (wpAny_loadPart q1 (wpAny_bind (PySem.W.Looks.here (s := { s with toks:=s.toks+1 }) (PySem.W.looks_clsIn I.kIn hc) ?_))))))
  rw [hd']
  have hxlt:=Heap.lt_size q1
  have hfresh:=I.hok.fresh (Nat.le_refl s.heap.objs.size)
  have hne:s.heap.objs.size≠x:=Nat.ne_of_gt hxlt
  have e1:(s.heap.push PySem.W.emptyDict).get? s.heap.objs.size=some PySem.W.emptyDict:=Heap.get?_push_size s.heap rfl
  have e3:(s.heap.push PySem.W.emptyDict).Ns s.heap.objs.size (fun _=>none):=⟨PySem.W.emptyDict,#[],_,e1,rfl,(fun e he=>absurd he (by simp)),fun _=>rfl⟩
  have I1:=I.laid (a:=s.heap.objs.size) (o:=XdO s.heap.objs.size []) (h' := s.heap.push PySem.W.emptyDict) (t' := s.toks+1) (fun b u q=>Heap.get?_push_of_some _ q) (Nat.le_refl _) (xd_ok (Heap.Ns1.of_empty e3) (fun _=>True.intro) fun y hy=>absurd rfl hy)
  have q1' := Heap.get?_push_of_some PySem.W.emptyDict q1
  have hrec:=Heap.get?_update_self (fun o:Obj => { o with dict:=some s.heap.objs.size }) q1' rfl
  have hE1:upd H s.heap.objs.size (XdO s.heap.objs.size []) x=some (ExN (.ref C) none x):=by rw [upd_ne (Ne.symm hne)];exact hE
  have I2:=I1.write (x:=x) (e:=x) (o:=ExN (.ref C) (some s.heap.objs.size) x) (t' := s.toks+1) (h' := (s.heap.push PySem.W.emptyDict).update x (fun o:Obj => { o with dict:=some s.heap.objs.size })) (by rw [hE1];exact trivial) (.inl rfl)
    (fun b u hb hu=>by rw [Heap.get?_update_other _ _ (Ne.symm hb)];exact hu) ⟨_,hrec⟩ (exn_ok hrec q2 q3)
  have hd2:upd (upd H s.heap.objs.size (XdO s.heap.objs.size [])) x (ExN (.ref C) (some s.heap.objs.size) x) s.heap.objs.size=some (XdO s.heap.objs.size []):=by rw [upd_ne hne,upd_same]
  obtain⟨⟨mA,n,r,wi⟩,⟨od,hod⟩,_⟩:=I2.hok _ _ hd2
  refine wpAny_bind (wpAny_alloc (wpAny_bind (wpAny_update q1' ?_)))
  refine wpAny_pure (a:=some s.heap.objs.size) (wpAny_bind (wpAny_pure (wpAny_bind ?_)))
  refine wpAny_nsSet1 (s := { s with heap:=(s.heap.push PySem.W.emptyDict).update x (fun o:Obj => { o with dict:=some s.heap.objs.size }),toks:=s.toks+1 }) n fun h' hn2 hs2 => ?_
  obtain⟨oD,esD,epD,hoD,hdD,hcD⟩:=hn2.count (PySem.Within.cons f u wi)
  refine wpAny_bind (wpAny_lookBehind hoD (by rw [hdD];exact pastItsLine_dict (Nat.le_trans hcD (by rw [List.length_cons,List.length_map,sizeLine_eq];decide))) ?_)
  refine wpAny_pure (h s.heap.objs.size _ hfresh hne (I2.write (x:=s.heap.objs.size) (e:=s.heap.objs.size) (o:=XdO s.heap.objs.size [(f,y)]) (t' := s.toks+1+1) (h' := h') (by rw [hd2];exact trivial) (.inl rfl) (fun b q hb z=>(hs2.2 b hb).trans z) ⟨_,hoD⟩ (xd_ok hn2 (fun g => ?_) fun g hg => ?_)))
  · have e:(putF f y []).lookup g=if g=f then some y else List.lookup g []:=lookup_putF f g y []
    show RelO ((putF f y []).lookup g) (if g=f then some u else mA g)
    rw [e]
    by_cases q:g=f
    · rw [if_pos q,if_pos q];exact ry
    · rw [if_neg q,if_neg q];exact r g
  · by_cases q:g=f
    · rw [q];exact List.mem_cons_self
    · exfalso
      have:=wi g fun z=>hg (by show (if g=f then some u else mA g)=none;rw [if_neg q];exact z)
      cases this
end
end L2
namespace L2
open PySem PySem.Spec PyProof.Rows
structure EGet (K:PySem.W.Frag) (C:Addr) (f:Str):Prop where
  cls:∃ cd,PySem.W.clsIn K C=some cd∧ExMro cd.mro∧cd.hasDict=true
  ga:PySem.W.findIn K (.ref C) "__getattribute__" = some (some (.builtin "BaseException.__getattribute__"))
  gh:PySem.W.findIn K (.ref C) "__getattr__" = some none
  tk:PySem.W.findIn K (.ref C) f=some none
theorem ex_base {l:List Value} (h:ExMro l):l.contains (.type "BaseException")=true:=by
  obtain⟨rs,rfl⟩:=h
  induction rs with
  | nil=>decide
  | cons c r ih=>show (Value.ref c::(r.map Value.ref++bmV)).contains _=true;rw [List.contains_cons,ih,Bool.or_true]
section
variable {prog:Program} {w:World} {A:Around} {E:Value→Shared→Prop} {s:Shared} {K:PySem.W.Frag} {x C:Addr} {ox:Obj} {od:Option Obj} {name:Str} {expr:Bool} {v:Value} {Q:Value→Shared→Prop}
theorem getE (X:K.In s.heap) (I:PySem.W.InstAt s.heap x ox C od) (G:EGet K C name) (hf:PySem.W.findObj K C od name=some (.value v)) (hh:PySem.W.handedIn v=true) (h:Q v { s with toks:=s.toks+1 }) :
    wpAny (model prog w) A (getAttr (.ref x) name expr) Q E s:=by
  obtain⟨hp,g,d,t,os⟩:=s
  have L0:=I.type (M:=model prog w)
  have L1:=PySem.W.looks_findIn (M:=model prog w) X G.ga
  have L2:=PySem.W.looks_findIn (M:=model prog w) X G.gh
  have L3:=PySem.W.looks_find (M:=model prog w) X I hf
  have SG:=PySem.F.excAttr_ValueError.ga
  obtain⟨cd,hc,ho,_⟩:=G.cls
  have sub:PySem.W.Looks (model prog w) hp (isInstance (.ref x) (.type "BaseException")) true:=I.type.andThen (PySem.W.looks_mroIn X (by unfold PySem.W.mroIn;rw [hc,Option.bind_some,if_neg (by rw [(ex_has ho).2];decide),ex_base ho]))
  have hk:builtinKind "BaseException.__getattribute__" = some .slot:=by decide +kernel
  have hsplit:splitId "BaseException.__getattribute__" = some ("BaseException", "__getattribute__"):=by decide +kernel
  unfold getAttr getAttrBy
  refine wpAny_bind (wpAny_mkText (wpAny_holding (wpAny_bind (L0.at (wpAny_bind (L1.at ?_))))))
  have hx2:(onTheHeap (Value.ref C)&&Value.builtin "BaseException.__getattribute__" == Value.builtin "object.__getattribute__")=false:=by
    have z:(Value.builtin "BaseException.__getattribute__" == Value.builtin "object.__getattribute__")=false:=by decide +kernel
    rw [z];rfl
  show wpAny _ _ (if (onTheHeap (Value.ref C)&&Value.builtin "BaseException.__getattribute__" == Value.builtin "object.__getattribute__")=true then _ else _) _ _ _
  rw [hx2]
  show wpAny _ _ (getAttrByItsOwn _ _ _ _ _ _) _ _ _
  unfold getAttrByItsOwn hookBefore
  refine wpAny_bind (show wpAny _ _ (typeLookup (.ref C) "__getattr__") _ _ _ from L2.at ?_)
  have hx0:(expr&&onTheHeap (Value.builtin "BaseException.__getattribute__"))=false:=by cases expr <;> rfl
  unfold callGetattribute boundAndCalled
  rw [hx0]
  refine wpAny_bind (wpAny_attempt (wpAny_holding (show wpAny _ _ (bindSpecial _ _ >>= _) _ _ _ from ?_)))
  rw [SG.bind]
  refine wpAny_bind (wpAny_pure (wpAny_call (codeAny_call_builtin SG.plain PySem.F.entry_bexc_ga (@PySem.W.check_slot (model prog w) _ _ _ "BaseException.__getattribute__" "BaseException" "__getattribute__" (.ref x) [.str name t] [] _ hk hsplit sub (PySem.F.args_bexc_ga (.ref x) (.str name t)) ?_))))
  refine wpAny_bind (wpAny_pure (wpAny_bind (wpAny_pure (wpAny_bind (L0.at (wpAny_bind (L3.at ?_)))))))
  refine wpAny_pure ?_
  show wpAny _ _ (handedOut v) _ _ _
  rw [PySem.W.handedOut_of hh];exact wpAny_pure h
end
end L2
namespace L2
open PySem PySem.Spec PyProof.Rows
section
variable {X:Cx} {e o value:Expr} {f:Str} {pos pos' : Pos} {ta tv:TE}
def tEfld (K:PySem.W.Frag) (ta:TE) (f:Str):TE:=fun σ H Q=>ta σ H fun x H1=>∃ a C d fs v,x = .ref a∧(H1 a=some (ExO (.ref C) (some d) a)∨H1 a=some (ExN (.ref C) (some d) a))∧H1 d=some (XdO d fs)∧EGet K C f∧fs.lookup f=some v∧Q v H1
theorem efld_k (K:PySem.W.Frag) (hK:X.K=K) (he:PE X e ta) (hb:attributeBase e f X.env (eval e X.env)=eval e X.env:=by rfl):PE X (.Attribute e f pos) (tEfld K ta f):=by
  subst hK
  intro pins s σ H Q I h
  refine attr_of hb (thn (he pins s σ H _ I h) fun u s1 ⟨x,H1,I1,rx,a,C,d,fs,v,ex,ea,hd,G,l,q⟩ => ?_)
  subst ex
  obtain rfl:u=Value.ref a:=rx
  obtain⟨⟨mA,n,r,wi⟩,_,_⟩:=I1.hok d _ hd
  obtain⟨od,hod,hlk⟩:=lookIn_ns n
  have hrec:∃ vs sl,s1.heap.get? a=some { cls := .ref C,dict:=some d,data := .fields vs,slots:=sl }:=by
    rcases ea with ea | ea
    · obtain⟨⟨vs,sl,q1,_⟩,_,_⟩:=I1.hok a _ ea;exact⟨vs,sl,q1⟩
    · obtain⟨⟨vs,sl,q1,_⟩,_,_⟩:=I1.hok a _ ea;exact⟨vs,sl,q1⟩
  obtain⟨vs,sl,q1⟩:=hrec
  have J:PySem.W.InstAt s1.heap a { cls := .ref C,dict:=some d,data := .fields vs,slots:=sl } C (some od):=⟨q1,rfl,rfl,hod⟩
  have hr:=r f
  rw [l] at hr
  cases hm:mA f with
  | none=>rw [hm] at hr;exact hr.elim
  | some u =>
    rw [hm] at hr
    have ru:RelV v u:=hr
    have hh:PySem.W.hasDictIn X.K C=true:=by
      obtain⟨cd,hc,_,hd'⟩:=G.cls
      unfold PySem.W.hasDictIn
      rw [hc]
      exact hd'
    exact getE I1.kIn J G (PySem.W.findObj_own hh G.tk rfl (by rw [hlk,hm])) (handed_of ru) ⟨v,H1,I1.tok _,ru,q⟩
def sEfld (K:PySem.W.Frag) (ta tv:TE) (f:Str):TS:=fun D σ H=>tv σ H fun y H1=>ta σ H1 fun x H2=>∃ a C,x = .ref a∧ESet K C f ∧
  ((H2 a=some (ExN (.ref C) none a)∧∀ d,H2 d=none→d≠a→D.nx σ (upd (upd (upd H2 d (XdO d [])) a (ExN (.ref C) (some d) a)) d (XdO d [(f,y)]))) ∨
    ∃ d fs,H2 a=some (ExN (.ref C) (some d) a)∧H2 d=some (XdO d fs)∧fs.length<1000∧D.nx σ (upd H2 d (XdO d (putF f y fs))))
theorem eset_k (K:PySem.W.Frag) (hK:X.K=K) (ha:PE X o ta) (hv:PE X value tv) (hs:swapsWith value (some (.Attribute o f pos')) pos.line X.env=pure false:=by rfl):PS X (.Assign [.Attribute o f pos'] value pos) (sEfld K ta tv f):=by
  subst hK
  intro pins s σ H D I h
  refine plainObj_wpAny_Assign_Attribute (thn (hv pins s σ H _ I h) fun u s1 ⟨y,H1,I1,ry,q⟩=>thn (ha pins s1 σ H1 _ I1 q) fun ov s2 ⟨x,H2,I2,rx,a,C,ex,S,q2⟩ => ?_) hs
  subst ex
  obtain rfl:ov=Value.ref a:=rx
  rcases q2 with ⟨hE,q2⟩ | ⟨d,fs,hE,hd,hl,q2⟩
  · exact setE_none I2 hE S ry fun d s3 hn hne I3=>⟨σ,_,I3,q2 d hn hne⟩
  · exact setE_some I2 hE hd S hl ry fun s3 I3=>⟨σ,_,I3,q2⟩
end
end L2
namespace L2
open PySem PySem.Spec PyProof.Rows
structure EIsi (K:PySem.W.Frag) (C:Addr):Prop where
  cls:∃ cd,PySem.W.clsIn K C=some cd∧ExMro cd.mro∧cd.hasDict=true
  ga:PySem.W.findIn K (.ref C) "__getattribute__" = some (some (.builtin "BaseException.__getattribute__"))
  gh:PySem.W.findIn K (.ref C) "__getattr__" = some none
  ha:PySem.W.findIn K (.ref C) "__class__" = some (some (.builtin "object.__class__"))
  hn:PySem.W.specialIn K (.builtin "object.__class__") "__get__" = some (some (.builtin "getset_descriptor.__get__"))
  htk:PySem.W.takesIn K (.builtin "object.__class__")=some true
section
variable {prog:Program} {w:World} {A:Around} {E:Value→Shared→Prop} {s:Shared} {K:PySem.W.Frag} {x C:Addr} {ox:Obj} {od:Option Obj}
theorem EIsi.obj (G:EIsi K C):PySem.W.mroIn K C (.type "object")=some true:=by
  obtain⟨cd,hc,ho,_⟩:=G.cls
  unfold PySem.W.mroIn;rw [hc,Option.bind_some,if_neg (by rw [(ex_has ho).2];decide),(ex_has ho).1]
theorem classE {fill expr:Bool} {tk:Tok} {Q:Value→Shared→Prop} (X:K.In s.heap) (I:PySem.W.InstAt s.heap x ox C od) (G:EIsi K C) (h:Q (.ref C) s) :
    wpAny (model prog w) A (getAttrBy (.ref x) (.str "__class__" tk) fill expr) Q E s:=by
  obtain⟨hp,g,d,t,os⟩:=s
  have L0:=I.type (M:=model prog w)
  have L1:=PySem.W.looks_findIn (M:=model prog w) X G.ga
  have L2:=PySem.W.looks_findIn (M:=model prog w) X G.gh
  obtain⟨cd,hc,ho,_⟩:=G.cls
  have hf:PySem.W.findObj K C od "__class__" = some (.bind (.builtin "getset_descriptor.__get__") (.builtin "object.__class__")):=by
    unfold PySem.W.findObj
    rw [hc,Option.bind_some,G.ha,Option.bind_some]
    dsimp only
    rw [G.hn,Option.bind_some]
    dsimp only
    rw [G.htk,Option.bind_some]
  have L3:=PySem.W.looks_find (M:=model prog w) X I hf
  have SG:=PySem.F.excAttr_ValueError.ga
  have sub:PySem.W.Looks (model prog w) hp (isInstance (.ref x) (.type "BaseException")) true:=I.type.andThen (PySem.W.looks_mroIn X (by unfold PySem.W.mroIn;rw [hc,Option.bind_some,if_neg (by rw [(ex_has ho).2];decide),ex_base ho]))
  have hk:builtinKind "BaseException.__getattribute__" = some .slot:=by decide +kernel
  have hsplit:splitId "BaseException.__getattribute__" = some ("BaseException", "__getattribute__"):=by decide +kernel
  unfold getAttrBy
  refine wpAny_holding (wpAny_bind (L0.at (wpAny_bind (L1.at ?_))))
  have hx2:(onTheHeap (Value.ref C)&&Value.builtin "BaseException.__getattribute__" == Value.builtin "object.__getattribute__")=false:=by
    have z:(Value.builtin "BaseException.__getattribute__" == Value.builtin "object.__getattribute__")=false:=by decide +kernel
    rw [z];rfl
  show wpAny _ _ (if (onTheHeap (Value.ref C)&&Value.builtin "BaseException.__getattribute__" == Value.builtin "object.__getattribute__")=true then _ else _) _ _ _
  rw [hx2]
  show wpAny _ _ (getAttrByItsOwn _ _ _ _ _ _) _ _ _
  unfold getAttrByItsOwn hookBefore
  refine wpAny_bind (show wpAny _ _ (typeLookup (.ref C) "__getattr__") _ _ _ from L2.at ?_)
  have hx0:(expr&&onTheHeap (Value.builtin "BaseException.__getattribute__"))=false:=by cases expr <;> rfl
  unfold callGetattribute boundAndCalled
  rw [hx0]
  refine wpAny_bind (wpAny_attempt (wpAny_holding (show wpAny _ _ (bindSpecial _ _ >>= _) _ _ _ from ?_)))
  rw [SG.bind]
  refine wpAny_bind (wpAny_pure (wpAny_call (codeAny_call_builtin SG.plain PySem.F.entry_bexc_ga (@PySem.W.check_slot (model prog w) _ _ _ "BaseException.__getattribute__" "BaseException" "__getattribute__" (.ref x) [.str "__class__" tk] [] _ hk hsplit sub (PySem.F.args_bexc_ga (.ref x) (.str "__class__" tk)) ?_))))
  refine wpAny_bind (wpAny_pure (wpAny_bind (wpAny_pure (wpAny_bind (L0.at (wpAny_bind (L3.at ?_)))))))
  show wpAny _ _ (holding [.builtin "object.__class__"] (call (.builtin "getset_descriptor.__get__") [.builtin "object.__class__",.ref x,.ref C]) >>= _) _ _ _
  refine wpAny_bind (wpAny_holding (wpAny_call (PySem.W.class_get X I G.obj (wpAny_pure ?_))))
  show wpAny _ _ (handedOut _) _ _ _
  rw [PySem.W.handedOut_of rfl];exact wpAny_pure h
theorem kitx_exc (G:EIsi K C):PySem.W.KitX K (.ref x) (.ref C) (fun h=>∃ ox od,PySem.W.InstAt h x ox C od) where
  ty:=fun _ _ _ ⟨_,_,I⟩=>I.type
  it:=fun _ _ X _=>by
    obtain⟨cdD,hcD,_⟩:=G.cls
    unfold PySem.W.clsIn at hcD
    split at hcD
    · rename_i c' d' cd' sl' ho
      intro A' Q' E' s' k q
      unfold isType loadHead
      exact wpAny_bind (wpAny_loadPart (k _ _ (X _ _ ho)) (wpAny_pure q))
    · cases hcD
  ne:=fun h tp dd its n sl X htp=>by
    obtain⟨cdD,hcD,_⟩:=G.cls
    refine Bool.eq_false_iff.mpr fun q => ?_
    have e:C=tp:=Value.ref.inj (beq_iff_eq.mp q)
    subst e
    unfold PySem.W.clsIn at hcD
    split at hcD
    · rename_i c' d' cd' sl' ho
      have z:=(X _ _ ho).symm.trans htp
      cases z
    · cases hcD
  ca:=fun {prog w A E Q s} X ⟨ox,od,I⟩ k=>by
    unfold getAttr? getAttrBy?
    refine wpAny_bind (wpAny_mkText (wpAny_bind (wpAny_attempt (classE (s := { s with toks:=s.toks+1 }) X I G ?_))))
    exact wpAny_pure k
end
section
variable {X:Cx}
end
end L2
namespace L2
open PySem PySem.Spec PyProof.Rows
def strKey (e:DictEntry):Bool:=match e.key with | .str _ _=>true | _=>false
def isNsK (K:PySem.W.Frag) (N:Addr):Bool:=match K.lookup N with | some ⟨_,_,.dict es _,_⟩=>es.toList.all strKey | _=>false
def nsMapK (K:PySem.W.Frag) (N:Addr) (name:Str):Option Value:=match K.lookup N with | some ⟨_,_,.dict es _,_⟩=>nsFind es name | _=>none
theorem ns_K {K:PySem.W.Frag} {N:Addr} (e:isNsK K N=true) (h:Heap) (X:K.In h):h.Ns N (nsMapK K N):=by
  unfold isNsK at e
  split at e
  · rename_i c d es ep sl q
    refine⟨_,es,ep,X _ _ q,rfl,fun x hx => ?_,fun name => ?_⟩
    · have hx' := List.all_eq_true.mp e x (Array.mem_toList_iff.mpr hx)
      unfold strKey at hx'
      split at hx'
      · exact⟨_,_,by assumption⟩
      · cases hx'
    · unfold nsMapK;rw [q]
  · cases e
theorem nsMapK_some {K:PySem.W.Frag} {N:Addr} {name:Str} {v:Value} (e:PySem.W.nsIn K N name=some (some v)):nsMapK K N name=some v:=by
  unfold PySem.W.nsIn at e
  unfold nsMapK
  split at e
  · rename_i c d es ep sl q
    rw [q]
    dsimp only
    split at e
    · rename_i x hx
      unfold nsFind findBy
      rw [← Array.find?_toList,hx]
      exact Option.some.inj e
    · split at e <;> cases e
  · cases e
theorem nsMapK_none {K:PySem.W.Frag} {N:Addr} {name:Str} (e:PySem.W.nsIn K N name=some none):nsMapK K N name=none:=by
  unfold PySem.W.nsIn at e
  unfold nsMapK
  split at e
  · rename_i c d es ep sl q
    rw [q]
    dsimp only
    split at e
    · cases e
    · rename_i hx
      unfold nsFind findBy
      rw [← Array.find?_toList,hx]
      rfl
  · cases e
theorem isNsK_of {K:PySem.W.Frag} {N:Addr} {oc:Value} {od:Option Addr} {es:Array DictEntry} {ep:Nat} {sl:Array (Option Value)} (l:K.lookup N=some ⟨oc,od,.dict es ep,sl⟩) (h:es.toList.all strKey=true):isNsK K N=true:=by
  unfold isNsK;rw [l];exact h
structure EBase (K:PySem.W.Frag) (D:Addr):Prop where
  ex:∃ nm q N bs sn sub ab col dd k0 k1 k2 k3 k5,K.lookup D=some (excClassObj nm q D N bs bmV true sn sub ab col dd k0 k1 k2 k3 k5 "ValueError.__new__")∧isNsK K N=true∧PySem.W.nsIn K N "__init__" = some none
theorem EBase.cls {K:PySem.W.Frag} {D:Addr} (B:EBase K D):ECls K D bmV:=by
  obtain⟨nm,q,N,bs,sn,sub,ab,col,dd,k0,k1,k2,k3,k5,lk,_⟩:=B.ex
  exact⟨⟨nm,q,N,bs,true,sn,sub,ab,col,dd,k0,k1,k2,k3,k5,_,lk⟩,by decide⟩
theorem EBase.tail {K:PySem.W.Frag} {D:Addr} (B:EBase K D) (h:Heap) (X:K.In h):OwnTail h bmV (.ref D::bmV):=by
  obtain⟨nm,q,N,bs,sn,sub,ab,col,dd,k0,k1,k2,k3,k5,lk,hn,hi⟩:=B.ex
  exact .own (X _ _ lk) (ns_K hn h X) (nsMapK_none hi) .base
structure ELaw (K:PySem.W.Frag) (C D fI:Addr):Prop where
  ex:∃ nm q N bs sn sub ab col dd k0 k1 k2 k3 k5,K.lookup C=some (excClassObj nm q C N bs (.ref D::bmV) true sn sub ab col dd k0 k1 k2 k3 k5 "ValueError.__new__")∧isNsK K N=true∧PySem.W.nsIn K N "__init__" = some (some (.ref fI))
  fn:∃ oI,K.lookup fI=some oI∧oI.cls = .type "function"
  kp:PySem.W.keepIn K (.ref C)=true
section
variable {K:PySem.W.Frag} {C D fI:Addr}
theorem ELaw.mk_ (L:ELaw K C D fI) (B:EBase K D):EMk K C fI (.ref D::bmV):=by
  obtain⟨nm,q,N,bs,sn,sub,ab,col,dd,k0,k1,k2,k3,k5,lk,hn,hi⟩:=L.ex
  exact⟨⟨nm,q,N,bs,true,sn,sub,ab,col,dd,k0,k1,k2,k3,k5,nsMapK K N,lk,ns_K hn,nsMapK_some hi⟩,fun h X=>B.tail h X,L.fn,L.kp⟩
theorem ELaw.cls (L:ELaw K C D fI):ECls K C (.ref D::bmV):=by
  obtain⟨nm,q,N,bs,sn,sub,ab,col,dd,k0,k1,k2,k3,k5,lk,_⟩:=L.ex
  exact⟨⟨nm,q,N,bs,true,sn,sub,ab,col,dd,k0,k1,k2,k3,k5,_,lk⟩,by rw [List.contains_cons,show bmV.contains (.type "BaseException")=true from by decide,Bool.or_true]⟩
theorem ELaw.sub (L:ELaw K C D fI):SubX K (.ref C) D:=⟨C,_,rfl,L.cls,by simp⟩
theorem ELaw.clsIn (L:ELaw K C D fI):∃ cd,PySem.W.clsIn K C=some cd∧ExMro cd.mro∧cd.hasDict=true:=by
  obtain⟨nm,q,N,bs,sn,sub,ab,col,dd,k0,k1,k2,k3,k5,lk,_⟩:=L.ex
  unfold PySem.W.clsIn
  rw [lk]
  exact⟨_,rfl,⟨[C,D],rfl⟩,rfl⟩
theorem ELaw.set (L:ELaw K C D fI) {f:Str} (sa:PySem.W.findIn K (.ref C) "__setattr__" = some (some (.builtin "object.__setattr__"))) (tk:PySem.W.findIn K (.ref C) f=some none):ESet K C f:=⟨L.clsIn,sa,tk⟩
theorem ELaw.get (L:ELaw K C D fI) {f:Str} (ga:PySem.W.findIn K (.ref C) "__getattribute__" = some (some (.builtin "BaseException.__getattribute__"))) (gh:PySem.W.findIn K (.ref C) "__getattr__" = some none) (tk:PySem.W.findIn K (.ref C) f=some none):EGet K C f:=⟨L.clsIn,ga,gh,tk⟩
end
end L2
namespace L2
open PySem PySem.Spec PyProof.Rows
structure CalE (P:Program) (w:World) (K:PySem.W.Frag) (mg:Str→Option Value) (base:Heap) (x:Str) (C:Addr) (k:Nat) (ps:List Str) (sp:Sp):Prop where
  ex:∃ fI fd bm,EMk K C fI bm∧FnOk P w K mg base CX0 k fI fd ps sp∧Binds K fd ps []
  at_:mg x=some (.ref C)
  sz:ps.length≤100
section
variable {X:Cx} {J:Addr→St→Hp→Prop} {k j:Nat} {C:Addr} {ps:List Str} {sp:Sp} {x:Str} {np cpos pos:Pos} {e₀:Expr} {es:List Expr} {t:TA}
theorem ps_rs (F:CalE X.prog X.w X.K X.mg X.base x C k ps sp) (hr:Room j X.A) (hx:AccX X J) (hc:X.calm=true) (ha:PA X (e₀::es) t) (hjk:k+1≤j:=by decide) (hg:Gl X x:=by rfl) (hdb:(x==("__debug__" : Str))=false:=by decide)
    (he:starEach (e₀::es) X.env=(false,eval e₀ X.env)::starEach es X.env:=by rfl) (hpl:(backTo cpos (starEach es X.env)).any (·.1)=false:=by rfl) :
    PS X (.Raise (some (.Call (.Name x np) (e₀::es) [] cpos)) none pos) (tRaise C sp J t):=by
  obtain⟨fI,fd,bm,M,Fn,hb⟩:=F.ex
  exact ps_raise M Fn (hr.mono hjk) hb hx hc hg F.at_ ha F.sz hdb he hpl
end
def spIni1 (C:Addr) (f:Str):Sp:=fun vs H Q _=>∃ ea v,vs = [.ref ea,v]∧H ea=some (ExN (.ref C) none ea)∧(∃ n:Nat,v = .int (n:Int)∧n≤10 ^ 12)∧∀ d,H d=none→d≠ea→Q .non (upd (upd (upd H d (XdO d [])) ea (ExN (.ref C) (some d) ea)) d (XdO d [(f,v)]))
structure Rfd (H:Hp) (ea C:Addr) (f:Str) (v:V):Prop where
  ex:∃ d,H ea=some (ExO (.ref C) (some d) ea)∧H d=some (XdO d [(f,v)])
theorem raised1 {H1:Hp} {ea C d:Addr} {f:Str} {v:V} (hd:upd H1 ea (ExN (.ref C) none ea) d=none) (hne:d≠ea) :
    ∃ dd,(upd (upd (upd (upd H1 ea (ExN (.ref C) none ea)) d (XdO d [])) ea (ExN (.ref C) (some d) ea)) d (XdO d [(f,v)])) ea=some (ExN (.ref C) dd ea) ∧
      Rfd (upd (upd (upd (upd (upd H1 ea (ExN (.ref C) none ea)) d (XdO d [])) ea (ExN (.ref C) (some d) ea)) d (XdO d [(f,v)])) ea (ExO (.ref C) dd ea)) ea C f v:=by
  refine⟨some d,?_,d,?_,?_⟩
  · rw [upd_ne (Ne.symm hne),upd_same]
  · rw [upd_same]
  · rw [upd_ne hne,upd_same]
structure Ef (K:PySem.W.Frag) (mg:Str→Option Value) (x:Str) (C D:Addr) (qual:Str) (st:Stmt) (ps:List Str):Prop where
  ex:∃ f fd mc,Fun K "__init__" qual st f fd∧ELaw K C D f∧EBase K D∧EIni K D mc∧Binds K fd ps []
  at_:mg x=some (.ref C)
theorem Ef.cal {P:Program} {w:World} {K:PySem.W.Frag} {mg:Str→Option Value} {base:Heap} {x qual:Str} {C D:Addr} {st:Stmt} {N ps:List Str} {k:Nat} {sp:Sp} (F:Ef K mg x C D qual st ps) (S:FnScope N ps (defScope st)) (len:∀ vs H Q E,sp vs H Q E→vs.length=ps.length) (hsz:ps.length≤100)
    (hbody:∀ (mc:Value) (f:Addr) (cdv:Value) (A:Around) (outer:List Env) (s:Shared) (H:Hp) (vs:List V) (Q:VK) (E:XK),ELow K C (.ref D::bmV)→EIni K D mc→Room k (A.deeper (envOfC qual (defScope st) s.heap.objs.size f cdv))→sp vs H Q E →
      ∃ t,PSs (cxOf CX0 P w K mg base N qual (defScope st) f cdv A outer s H E).nox (defBody st) t∧t { nx:=fun _ H' => Q .non H',rt:=Q } (start N vs) H):CalE P w K mg base x C (k+1) ps sp:=by
  obtain⟨f,fd,mc,Fn,L,B,I,hb⟩:=F.ex
  exact⟨⟨f,fd,_,L.mk_ B,Fn.ok S len fun cdv A outer s H vs Q E hr h=>hbody mc f cdv A outer s H vs Q E (L.mk_ B).low I hr h,hb⟩,F.at_,hsz⟩
end L2
namespace L2
open PySem PySem.Spec PyProof.Rows
structure Err (H:Hp) (a C:Addr):Prop where
  ex:∃ dd,(H a=some (ExO (.ref C) dd a)∨H a=some (ExN (.ref C) dd a))∧(dd=none∨∃ d fs,dd=some d∧H d=some (XdO d fs))
theorem Rfd.err {H:Hp} {ea C:Addr} {f:Str} {v:V} (r:Rfd H ea C f v):Err H ea C:=by
  obtain⟨d,h1,h2⟩:=r.ex
  exact⟨some d,.inl h1,.inr ⟨d,_,rfl,h2⟩⟩
theorem Rfd.same {H H' : Hp} {ea C:Addr} {f:Str} {v:V} (r:Rfd H ea C f v) (sm:∀ b o,H b=some o→H' b=some o):Rfd H' ea C f v:=by
  obtain⟨d,h1,h2⟩:=r.ex
  exact⟨d,sm _ _ h1,sm _ _ h2⟩
theorem Err.same {H H' : Hp} {ea C:Addr} (r:Err H ea C) (sm:∀ b o,H b=some o→H' b=some o):Err H' ea C:=by
  obtain⟨dd,h1,h2⟩:=r.ex
  refine⟨dd,h1.imp (sm _ _) (sm _ _),?_⟩
  rcases h2 with h2 | ⟨d,fs,h2,h3⟩
  · exact .inl h2
  · exact .inr ⟨d,fs,h2,sm _ _ h3⟩
theorem vals_refsE:∀ {cs:List Addr} {us:List Value},Vals (cs.map V.ref) us→us=cs.map Value.ref
  | [],_,.nil=>rfl
  | c::cs,_,.cons r t=>by
    have h:_=Value.ref c:=r
    rw [h,vals_refsE t,List.map_cons]
section
variable {X:Cx}
theorem isiX_k (K:PySem.W.Frag) (hK:X.K=K):CallR X (.builtin "isinstance") (fun xs H Q=>∃ a C b,(∃ c,xs = [.ref a,c]∧((∃ D,c = .ref D∧PySem.W.kitOne K (.ref C) (.ref D)=some b)∨(∃ n,c = .ty n∧PySem.W.kitOne K (.ref C) (.type n)=some b)∨∃ (T:Addr) (cs:List Addr),c = .ref T∧SqT K H T (cs.map V.ref)∧PySem.W.kitAny K (.ref C) (cs.map Value.ref)=some b))∧Err H a C∧EIsi K C∧Q (.bl b) H):=by
  subst hK
  intro pins s σ H xs us Q I r h
  obtain⟨a,C,b,⟨c,rfl,hc⟩,⟨dd,ha,hdd⟩,G,q⟩:=h
  obtain⟨u,v,rfl,ru,rv⟩:=r.two
  obtain rfl:u=Value.ref a:=ru
  have hrec:∃ ox od,PySem.W.InstAt s.heap a ox C od:=by
    have hr:∃ vs sl,s.heap.get? a=some { cls := .ref C,dict:=dd,data := .fields vs,slots:=sl }:=by
      rcases ha with ea | ea
      · obtain⟨⟨vs,sl,q1,_⟩,_,_⟩:=I.hok a _ ea;exact⟨vs,sl,q1⟩
      · obtain⟨⟨vs,sl,q1,_⟩,_,_⟩:=I.hok a _ ea;exact⟨vs,sl,q1⟩
    obtain⟨vs,sl,q1⟩:=hr
    rcases hdd with rfl | ⟨d,fs,rfl,hd⟩
    · exact⟨_,none,q1,rfl,rfl,trivial⟩
    · obtain⟨_,⟨od,hod⟩,_⟩:=I.hok d _ hd
      exact⟨_,some od,q1,rfl,rfl,hod⟩
  rcases hc with ⟨D,rfl,e⟩ | ⟨n,rfl,e⟩ | ⟨T,cs,rfl,hT,e⟩
  · obtain rfl:v=Value.ref D:=rv
    exact PySem.W.kia_one (kitx_exc G) I.kIn hrec e (fun z=>nomatch z) fun tk=>⟨.bl b,H,I.tok _,rfl,q⟩
  · obtain rfl:v=Value.type n:=rv
    exact PySem.W.kia_one (kitx_exc G) I.kIn hrec e (fun z=>nomatch z) fun tk=>⟨.bl b,H,I.tok _,rfl,q⟩
  · obtain rfl:v=Value.ref T:=rv
    obtain⟨its,r',⟨o,ho,oc,n,od⟩,_⟩:=I.tuple hT
    rw [vals_refsE r'] at od
    obtain⟨c0,d0,dt0,sl0⟩:=o
    simp only at oc od
    subst oc;subst od
    exact PySem.W.kia_tup (kitx_exc G) I.kIn hrec ho e (fun z=>nomatch z) fun tk=>⟨.bl b,H,I.tok _,rfl,q⟩
end
end L2
namespace L2
open PySem PySem.Spec PyProof.Rows
section
variable {X:Cx}
end
end L2
namespace K
open PySem L2 TX
end K
namespace L2
open PySem PySem.Spec PyProof.Rows
abbrev TF:=St→Hp→(Str→Hp→Prop)→Prop
def PF1 (X:Cx) (e:Expr) (t:TF):Prop:=∀ (pins:List (Addr×Obj)) (s:Shared) (σ:St) (H:Hp) (R:Str→Hp→Prop),Inv X pins σ H s→t σ H R →
  wpAny (model X.prog X.w) X.A (eval e X.env) (fun v s1=>∃ y k H1,v = .str y k∧Inv X pins σ H1 s1∧R y H1) X.xe s
def PFs (X:Cx):List Expr→List TF→Prop
  | [],[]=>True
  | e::es,t::ts=>PF1 X e t∧PFs X es ts
  | _,_=>False
def tFs:List TF→Str→St→Hp→VK→Prop
  | [],acc,_,H,Q=>acc.length≤sizeLine∧Q (.str acc) H
  | t::ts,acc,σ,H,Q=>t σ H fun y H1=>(acc++y).length≤sizeLine∧tFs ts (acc++y) σ H1 Q
section
variable {X:Cx}
theorem joins_of {pins:List (Addr×Obj)} {σ:St} {Q:VK}:∀ {ts:List TF} {es:List Expr} {acc:Str} {H:Hp} {s:Shared},PFs X es ts→Inv X pins σ H s→tFs ts acc σ H Q →
    Joins (model X.prog X.w) X.A X.xe (evalEach es X.env) acc (fun out s₁=>out.length≤sizeLine∧EP X pins σ Q (.str out s₁.toks) { s₁ with toks:=s₁.toks+1 }) s:=by
  intro ts
  induction ts with
  | nil =>
    intro es acc H s hp I h
    cases es with
    | nil=>exact⟨h.1,.str acc,H,I.tok _,⟨_,rfl⟩,h.2⟩
    | cons e es=>exact False.elim hp
  | cons t ts ih =>
    intro es acc H s hp I h
    cases es with
    | nil=>exact False.elim hp
    | cons e es =>
      show wpAny _ _ (eval e X.env) _ _ s
      refine wpAny_mono (hp.1 pins s σ H _ I h) (fun v s1 z => ?_) fun _ _ z=>z
      obtain⟨y,k,H1,ev,I1,hz,q⟩:=z
      exact⟨y,k,ev,hz,ih hp.2 I1 q⟩
theorem pe_fstr {v₁ v₂:Expr} {rest:List Expr} {pos:Pos} {t₁ t₂:TF} {ts:List TF} (h1:PF1 X v₁ t₁) (h2:PF1 X v₂ t₂) (h3:PFs X rest ts):PE X (.JoinedStr (v₁::v₂::rest) pos) (fun σ H Q=>tFs (t₁::t₂::ts) Str.empty σ H Q):=by
  intro pins s σ H Q I h
  exact wpAny_JoinedStr (joins_of (ts:=t₁::t₂::ts) (es:=v₁::v₂::rest) ⟨h1,h2,h3⟩ I h)
theorem pfs_nil:PFs X [] []:=trivial
theorem pfs_cons {e:Expr} {es:List Expr} {t:TF} {ts:List TF} (h:PF1 X e t) (r:PFs X es ts):PFs X (e::es) (t::ts):=⟨h,r⟩
def tFv (te:TE):TF:=fun σ H R=>te σ H fun v H1=>(∃ x,v = .str x∧x.length≤sizeLine∧R x H1)∨∃ n:Nat,v = .int (n:Int)∧n≤10 ^ 12∧R (Str.ofString (toString (n:Int))) H1
theorem log_small {n:Nat} (h:n≤10 ^ 12):(n:Int).natAbs.log2<1920:=by
  rw [Int.natAbs_natCast]
  by_cases h0:n=0
  · subst h0;decide
  · rw [Nat.log2_lt h0]
    exact Nat.lt_of_le_of_lt h (Nat.lt_of_lt_of_le (by decide:10 ^ 12<2 ^ 64) (Nat.pow_le_pow_right (by decide) (by decide)))
theorem pf_val {e:Expr} {pos:Pos} {te:TE} (he:PE X e te):PF1 X (.FormattedValue e (-1) none pos) (tFv te):=by
  intro pins s σ H R I h
  refine FormattedValue_plain (thn (he pins s σ H _ I h) fun u s1 ⟨v,H1,I1,rv,q⟩ => ?_)
  rcases q with ⟨x,rfl,hz,q⟩ | ⟨n,rfl,hn,q⟩
  · obtain⟨t,rfl⟩:=rv
    exact formatField_str (fun t' tk=>⟨x,t',H1,rfl,I1.tok _,q⟩) hz
  · obtain⟨t,rfl⟩:=rv
    exact formatField_int_small (log_small hn) ⟨_,_,H1,rfl,I1.tok _,q⟩
theorem pf_str {c:Str} {k:Nat} {pos:Pos}:PF1 X (.Constant (.str c) k pos) (fun _ H R=>R c H):=by
  intro pins s σ H R I h
  exact thn (pe_str pins s σ H (fun v H1=>∃ y,v = .str y∧R y H1) I ⟨c,rfl,h⟩) fun u s1 ⟨v,H1,I1,rv,y,ev,q⟩=>by
    subst ev
    obtain⟨t,rfl⟩:=rv
    exact⟨y,t,H1,rfl,I1,q⟩
end
end L2
namespace HD
open PySem PySem.W PyProof.Rows
theorem end0 {t:Thread}:(∃ f,endAt 0 t=some f)∧through t=true∨endAt 0 t=none∧through t=false:=by
  unfold endAt through
  obtain⟨cur,code,pos,stack⟩:=t
  cases stack with
  | cons a r=>exact .inr ⟨by cases cur <;> rfl,rfl⟩
  | nil =>
    cases cur with
    | pure f =>
      cases f with
      | done f=>exact .inl ⟨⟨f,rfl⟩,rfl⟩
      | _=>exact .inr ⟨rfl,rfl⟩
    | _=>exact .inr ⟨rfl,rfl⟩
theorem seg0_top {tb:String→Option Builtin} {p:Program} {w:World} {n₀:Nat} {ann:Option Value}:∀ {n:Nat} {s s' : Shared} {t:Thread} {f:Flow} {c:Code} {q:Pos},segRun tb p w n₀ ann 0 n s t=some (f,s',c,q)→topRun tb p w n₀ ann n s t=some s'
  | 0,_,_,_,_,_,_,h=>by cases h
  | n+1,s,s',t,f,c,q,h=>by
    unfold segRun at h
    unfold topRun
    rcases end0 (t:=t) with ⟨⟨f',e⟩,th⟩ | ⟨e,th⟩
    · rw [e] at h
      rw [th]
      cases h
      rfl
    · rw [e] at h
      rw [th]
      dsimp only at h ⊢
      cases ok:stepOk n₀ ann t with
      | false=>rw [ok] at h;cases h
      | true =>
        rw [ok] at h
        dsimp only at h ⊢
        cases st:step (denote tb) p w s t with
        | go s1 t1=>rw [st] at h;exact seg0_top h
        | halt _ _=>rw [st] at h;cases h
def mkT (l:List Obj):BT:=(l.foldl (fun (a:BT×Nat) o=>(a.1.ins a.2 o,a.2+1)) (BT.nil,0)).1
noncomputable def bootT (P:Params) (os:OsState):SharedT:=⟨mkT (boot_heap P).objs.toList,11,(boot_heap P).life,#[],boot_drawn,boot_toks,os⟩
theorem boot_abs (P:Params) (os:OsState):(bootT P os).abs=⟨boot_heap P,#[],boot_drawn,boot_toks,os⟩:=by kernel_rfl
theorem boot_size (P:Params):((boot_heap P).isNs mainGlobals&&(#[]:Array GenState).size==0,(boot_heap P).objs.size,(boot_heap P).nsMap mainGlobals "__annotations__")=(true,11,some (.ref 6)):=by kernel_rfl
theorem left {p q:Program} {loose:List Str} {Xt:Shared→Bool} {α:Type} {Yf:Shared→α} {Ya:World→α} {N:Nat} (e:opening p=plainProg p.main.scope.names) (hN:Nat.ble 600 N=true) (f:∀ s,fenceModules? p s=some s)
    (h:∀ (w:World) (os:OsState),(segRunT treeTable p w 11 (some (.ref 6)) 0 N (bootT w.params os) (topStub p)).map (fun r=>((staticsOk (importedModules p.main.body) (boot_heap w.params) r.2.1.abs.heap&&namesBound p r.2.1.abs.heap&&gensDone r.2.1.abs&&laidKept (boot_heap w.params) r.2.1.abs.heap),
      openSeen q loose (importedModules p.main.body) Xt true r.2.1.abs,Yf r.2.1.abs))=some (true,openGood q loose,Ya w)):LeftO p q loose Xt Yf Ya N:=fun w=>by
  obtain⟨⟨hp,gs,d,k,os⟩,e1,e2⟩:=Option.map_eq_some_iff.mp (boot_open e hN f w)
  obtain⟨rfl,rfl,rfl,rfl⟩:hp=boot_heap w.params∧gs = #[]∧d=boot_drawn∧k=boot_toks:=by simpa using e2
  obtain⟨z1,z2,z3⟩:_∧_∧_:=by simpa only [Prod.mk.injEq] using boot_size w.params
  obtain⟨⟨fl,st,c,ps⟩,r1,r2⟩:=Option.map_eq_some_iff.mp (h w os)
  obtain⟨l1,l2,l3⟩:_∧_∧_:=by simpa only [Prod.mk.injEq] using r2
  have r:=seg0_top (segRun_of r1)
  rw [boot_abs] at r
  have t:topFrom treeTable p w N ⟨boot_heap w.params,#[],boot_drawn,boot_toks,os⟩=some st.abs:=by
    unfold topFrom
    dsimp only
    rw [z1,z2,z3,r]
    show (match staticsOk (importedModules p.main.body) (boot_heap w.params) st.abs.heap&&namesBound p st.abs.heap&&gensDone st.abs&&laidKept (boot_heap w.params) st.abs.heap with | true=>_ | false=>_)=_
    rw [l1]
  unfold openEnds
  rw [e1]
  show (topFrom treeTable p w N _).map _=_
  rw [t]
  exact congrArg some (Prod.ext l2 l3)
theorem left2 (row:String) {p q:Program} {loose:List Str} {Xt:Shared→Bool} {α:Type} {Yf:Shared→α} {Ya:World→α} {N:Nat} (e:opening p=plainProg p.main.scope.names) (hN:Nat.ble 600 N=true) (f:∀ s,fenceModules? p s=some s)
    (h:∀ (b:Bool) (w:World) (os:OsState),(segRunT treeTable p (w.withFollow row b) 11 (some (.ref 6)) 0 N (bootT (w.withFollow row b).params os) (topStub p)).map (fun r=>((staticsOk (importedModules p.main.body) (boot_heap (w.withFollow row b).params) r.2.1.abs.heap&&namesBound p r.2.1.abs.heap&&gensDone r.2.1.abs&&laidKept (boot_heap (w.withFollow row b).params) r.2.1.abs.heap),
      openSeen q loose (importedModules p.main.body) Xt true r.2.1.abs,Yf r.2.1.abs))=some (true,openGood q loose,Ya (w.withFollow row b))):LeftO p q loose Xt Yf Ya N :=
  left e hN f fun w os=>by
    have:=h (w.params.followText row) w os
    rwa [World.withFollow_self w row] at this
end HD
set_option maxHeartbeats 4000000
namespace K
open PySem L2 TX
def top (i:Nat):Stmt:=PySem.Challenge.pw_renamehall_k06_no_template.main.body.getD i (.Pass ⟨0,0,0,0⟩)
structure Txt (mg:Str→Option Value):Prop where
  b_ValueError:mg "ValueError" = none
  b_bool:mg "bool" = none
  b_int:mg "int" = none
  b_isinstance:mg "isinstance" = none
  b_len:mg "len" = none
  b_list:mg "list" = none
  b_max:mg "max" = none
  b_min:mg "min" = none
  b_range:mg "range" = none
  b_str:mg "str" = none
  b_tuple:mg "tuple" = none
  b_zip:mg "zip" = none
  NAME_SIGNS:∃ t,mg "NAME_SIGNS" = some (.str (Str.ofString "abcdefghijklmnopqrstuvwxyzABCDEFGHIJKLMNOPQRSTUVWXYZ0123456789-_.") t)
  FIGURES:∃ t,mg "FIGURES" = some (.str (Str.ofString "0123456789") t)
  FROM_ONE:∃ t,mg "FROM_ONE" = some (.str (Str.ofString "123456789") t)
  FROM_TWO:∃ t,mg "FROM_TWO" = some (.str (Str.ofString "23456789") t)
  MOST_FIGURES:∃ t,mg "MOST_FIGURES" = some (.int 9 t)
structure Calls (P:Program) (w:World) (K:PySem.W.Frag) (mg:Str→Option Value) (base:Heap):Prop where
  draw:Cal P w K mg base "_law_draw" 1 ["_law_feed", "_law_many"] spDraw
section
variable {P:Program} {w:World} {K:PySem.W.Frag} {mg:Str→Option Value} {base:Heap}
abbrev st_draw:Stmt:=top 26
theorem sc_draw:FnScope ["_law_feed", "_law_many", "_law_cell", "_law_number", "_law_found"] ["_law_feed", "_law_many"] (defScope st_draw):=⟨rfl,rfl,rfl,by decide +kernel,rfl,by decide +kernel,by decide +kernel⟩
theorem ok_draw (D:Df K mg "_law_draw" st_draw ["_law_feed", "_law_many"]) (T:Txt mg):Cal P w K mg base "_law_draw" 1 ["_law_feed", "_law_many"] spDraw:=by
  refine D.cal sc_draw (fun vs H Q E h => ?_) (fun f cdv A outer s H vs Q E hr h => ?_)
  · obtain⟨a,b,m,rfl,_⟩:=h;rfl
  · obtain⟨a,b,m,rfl,⟨⟨i,j,ha⟩,ns,hb⟩,hm0,hm1,k⟩:=h
    refine⟨_,(@pss_cons _ _ _ _ _ (@ps_asg _ _ _ _ _ _ (@pe_op _ _ _ _ _ _ _ _ op_addU (@pe_ix _ _ _ _ _ _ _ (ix_k K rfl) (@pv _ 0 _ _ (by rfl) (by first | exact Or.inl rfl | exact Or.inr (Or.inl rfl) | exact Or.inr (Or.inr rfl)) (by decide) (by decide)) pe_int (fun _ _=>rfl)) pe_int) (@pg_sub _ _ _ _ _ _ _ (@pv _ 0 _ _ (by rfl) (by first | exact Or.inl rfl | exact Or.inr (Or.inl rfl) | exact Or.inr (Or.inr rfl)) (by decide) (by decide)) pe_int set_list (by intro _;rfl)) (by rfl) (by rfl) (by rfl)) (@pss_cons _ _ _ _ _ (@ps_if _ _ _ _ _ _ _ _ (@pt_cmpR _ _ _ _ _ _ _ _ (eq_k K rfl hr) (@pe_ix _ _ _ _ _ _ _ (ix_k K rfl) (@pv _ 0 _ _ (by rfl) (by first | exact Or.inl rfl | exact Or.inr (Or.inl rfl) | exact Or.inr (Or.inr rfl)) (by decide) (by decide)) pe_int (fun _ _=>rfl)) pe_int (nomark _)) (@pss_cons _ _ _ _ _ (@ps_set _ _ (2) _ _ _ _ sc_draw.nd rfl (by first | exact Or.inl rfl | exact Or.inr rfl) (@pe_ix _ _ _ _ _ _ _ (ix_k K rfl) (@pv _ 0 _ _ (by rfl) (by first | exact Or.inl rfl | exact Or.inr (Or.inl rfl) | exact Or.inr (Or.inr rfl)) (by decide) (by decide)) pe_int (fun _ _=>rfl)) (by rfl) (by first | exact .inl rfl | exact .inr rfl | assumption)) (@pss_cons _ _ _ _ _ (@ps_if _ _ _ _ _ _ _ _ (@pt_cmpR _ _ _ _ _ _ _ _ op_gt (@pe_callB _ _ _ _ _ _ _ _ _ (len_k K rfl) (by rfl) T.b_len PySem.boot_len (@pa_cons _ _ _ _ _ (@pe_ix _ _ _ _ _ _ _ (ix_k K rfl) (@pv _ 0 _ _ (by rfl) (by first | exact Or.inl rfl | exact Or.inr (Or.inl rfl) | exact Or.inr (Or.inr rfl)) (by decide) (by decide)) pe_int (fun _ _=>rfl)) pa_nil (by rfl)) (by decide) (by decide) (by rfl) (by rfl)) pe_int (nomark _)) (@pss_one _ _ _ (@ps_set _ _ (2) _ _ _ _ sc_draw.nd rfl (by first | exact Or.inl rfl | exact Or.inr rfl) (@pe_ix _ _ _ _ _ _ _ (ix_k K rfl) (@pe_ix _ _ _ _ _ _ _ (ix_k K rfl) (@pv _ 0 _ _ (by rfl) (by first | exact Or.inl rfl | exact Or.inr (Or.inl rfl) | exact Or.inr (Or.inr rfl)) (by decide) (by decide)) pe_int (fun _ _=>rfl)) (@pe_op _ _ _ _ _ _ _ _ op_mod (@pe_ix _ _ _ _ _ _ _ (ix_k K rfl) (@pv _ 0 _ _ (by rfl) (by first | exact Or.inl rfl | exact Or.inr (Or.inl rfl) | exact Or.inr (Or.inr rfl)) (by decide) (by decide)) pe_int (fun _ _=>rfl)) (@pe_callB _ _ _ _ _ _ _ _ _ (len_k K rfl) (by rfl) T.b_len PySem.boot_len (@pa_cons _ _ _ _ _ (@pe_ix _ _ _ _ _ _ _ (ix_k K rfl) (@pv _ 0 _ _ (by rfl) (by first | exact Or.inl rfl | exact Or.inr (Or.inl rfl) | exact Or.inr (Or.inr rfl)) (by decide) (by decide)) pe_int (fun _ _=>rfl)) pa_nil (by rfl)) (by decide) (by decide) (by rfl) (by rfl))) (fun _ _=>rfl)) (by rfl) (by first | exact .inl rfl | exact .inr rfl | assumption))) pss_nil) (@pss_cons _ _ _ _ _ (@ps_if _ _ _ _ _ _ _ _ (@pt_cmpR _ _ _ _ _ _ _ _ op_lt (@pv _ 2 _ _ (by rfl) (by first | exact Or.inl rfl | exact Or.inr (Or.inl rfl) | exact Or.inr (Or.inr rfl)) (by decide) (by decide)) (@pe_op _ _ _ _ _ _ _ _ op_pow pe_int pe_int) (nomark _)) (@pss_cons _ _ _ _ _ (@ps_set _ _ (3) _ _ _ _ sc_draw.nd rfl (by first | exact Or.inl rfl | exact Or.inr rfl) (@pe_op _ _ _ _ _ _ _ _ op_mod (@pe_op _ _ _ _ _ _ _ _ op_mulU (@pe_op _ _ _ _ _ _ _ _ op_addU (@pe_op _ _ _ _ _ _ _ _ op_addU (@pe_op _ _ _ _ _ _ _ _ op_mod (@pv _ 2 _ _ (by rfl) (by first | exact Or.inl rfl | exact Or.inr (Or.inl rfl) | exact Or.inr (Or.inr rfl)) (by decide) (by decide)) pe_int) (@pe_op _ _ _ _ _ _ _ _ op_mulU pe_int (@pe_ix _ _ _ _ _ _ _ (ix_k K rfl) (@pv _ 0 _ _ (by rfl) (by first | exact Or.inl rfl | exact Or.inr (Or.inl rfl) | exact Or.inr (Or.inr rfl)) (by decide) (by decide)) pe_int (fun _ _=>rfl)))) pe_int) pe_int) pe_int) (by rfl) (by first | exact .inl rfl | exact .inr rfl | assumption)) (@pss_cons _ _ _ _ _ (@ps_set _ _ (3) _ _ _ _ sc_draw.nd rfl (by first | exact Or.inl rfl | exact Or.inr rfl) (@pe_op _ _ _ _ _ _ _ _ op_mod (@pe_op _ _ _ _ _ _ _ _ op_mulU (@pv _ 3 _ _ (by rfl) (by first | exact Or.inl rfl | exact Or.inr (Or.inl rfl) | exact Or.inr (Or.inr rfl)) (by decide) (by decide)) (@pe_op _ _ _ _ _ _ _ _ op_addU (@pv _ 3 _ _ (by rfl) (by first | exact Or.inl rfl | exact Or.inr (Or.inl rfl) | exact Or.inr (Or.inr rfl)) (by decide) (by decide)) pe_int)) pe_int) (by rfl) (by first | exact .inl rfl | exact .inr rfl | assumption)) (@pss_one _ _ _ (@ps_ret _ _ _ _ (@pe_op _ _ _ _ _ _ _ _ op_mod (@pe_op _ _ _ _ _ _ _ _ op_fdiv (@pv _ 3 _ _ (by rfl) (by first | exact Or.inl rfl | exact Or.inr (Or.inl rfl) | exact Or.inr (Or.inr rfl)) (by decide) (by decide)) pe_int) (@pv _ 1 _ _ (by rfl) (by first | exact Or.inl rfl | exact Or.inr (Or.inl rfl) | exact Or.inr (Or.inr rfl)) (by decide) (by decide))))))) pss_nil) (@pss_one _ _ _ (@ps_asg _ _ _ _ _ _ (@pv _ 2 _ _ (by rfl) (by first | exact Or.inl rfl | exact Or.inr (Or.inl rfl) | exact Or.inr (Or.inr rfl)) (by decide) (by decide)) (@pg_sub _ _ _ _ _ _ _ (@pv _ 0 _ _ (by rfl) (by first | exact Or.inl rfl | exact Or.inr (Or.inl rfl) | exact Or.inr (Or.inr rfl)) (by decide) (by decide)) pe_int set_list (by intro _;rfl)) (by rfl) (by rfl) (by rfl)))))) pss_nil) (@pss_cons _ _ _ _ _ (@ps_set _ _ (4) _ _ _ _ sc_draw.nd rfl (by first | exact Or.inl rfl | exact Or.inr rfl) (@pe_op _ _ _ _ _ _ _ _ op_mod (@pe_ix _ _ _ _ _ _ _ (ix_k K rfl) (@pv _ 0 _ _ (by rfl) (by first | exact Or.inl rfl | exact Or.inr (Or.inl rfl) | exact Or.inr (Or.inr rfl)) (by decide) (by decide)) pe_int (fun _ _=>rfl)) (@pv _ 1 _ _ (by rfl) (by first | exact Or.inl rfl | exact Or.inr (Or.inl rfl) | exact Or.inr (Or.inr rfl)) (by decide) (by decide))) (by rfl) (by first | exact .inl rfl | exact .inr rfl | assumption)) (@pss_cons _ _ _ _ _ (@ps_asg _ _ _ _ _ _ (@pe_op _ _ _ _ _ _ _ _ op_fdiv (@pe_ix _ _ _ _ _ _ _ (ix_k K rfl) (@pv _ 0 _ _ (by rfl) (by first | exact Or.inl rfl | exact Or.inr (Or.inl rfl) | exact Or.inr (Or.inr rfl)) (by decide) (by decide)) pe_int (fun _ _=>rfl)) (@pv _ 1 _ _ (by rfl) (by first | exact Or.inl rfl | exact Or.inr (Or.inl rfl) | exact Or.inr (Or.inr rfl)) (by decide) (by decide))) (@pg_sub _ _ _ _ _ _ _ (@pv _ 0 _ _ (by rfl) (by first | exact Or.inl rfl | exact Or.inr (Or.inl rfl) | exact Or.inr (Or.inr rfl)) (by decide) (by decide)) pe_int set_list (by intro _;rfl)) (by rfl) (by rfl) (by rfl)) (@pss_one _ _ _ (@ps_ret _ _ _ _ (@pv _ 4 _ _ (by rfl) (by first | exact Or.inl rfl | exact Or.inr (Or.inl rfl) | exact Or.inr (Or.inr rfl)) (by decide) (by decide)))))))),?_⟩
    have nba:b≠a:=FeedAt.ne ⟨⟨i,j,ha⟩,ns,hb⟩
    refine⟨_,rfl,.inl ⟨a,_,1,_,rfl,rfl,SqL.of ha,rfl,.inl ⟨_,_,rfl,rfl,_,rfl,a,_,1,1,rfl,rfl,ha,rfl,?_⟩⟩⟩
    generalize hH1:upd H a _=H1
    have ha1:H1 a=some (.lst [.ref b,.int (i+1),.int j]):=by rw [← hH1];exact upd_same
    have hb1:H1 b=some (.lst (ns.map V.int)):=by rw [← hH1,upd_ne nba];exact hb
    have fd:∀ (x y:Int),Fd a b H (upd H1 a (.lst [.ref b,.int x,.int y])):=fun x y=>⟨⟨⟨x,y,upd_same⟩,ns,by rw [upd_ne nba];exact hb1⟩,fun c o e hc=>by rw [upd_ne hc,← hH1,upd_ne hc];exact e⟩
    have fd1:Fd a b H H1:=⟨⟨⟨_,_,ha1⟩,ns,hb1⟩,fun c o e hc=>by rw [← hH1,upd_ne hc];exact e⟩
    refine⟨_,rfl,.inl ⟨a,_,2,_,rfl,rfl,SqL.of ha1,rfl,.inl ⟨rfl,_,rfl,?_⟩⟩⟩
    have last:∀ (H2:Hp) (σ2:St) (y:Int),H2 a=some (.lst [.ref b,.int (i+1),.int y])→(∀ x y:Int,Fd a b H (upd H2 a (.lst [.ref b,.int x,.int y])))→σ2[0]? = some (some (.ref a))→σ2[1]? = some (some (.int m))→σ2.length=5 →
        tSeq (tAsg (tOp (rI (fun _ j=>0<j) fun i j => .int (i % j)) (tOp (rIx K) (tVar 0) (tC (.int 2))) (tVar 1)) (gName 4)) (tSeq (tAsg (tOp (rI CDiv fun i j => .int (i / j)) (tOp (rIx K) (tVar 0) (tC (.int 2))) (tVar 1)) (gSub (tVar 0) (tC (.int 2)) rSetL)) (tRet (tVar 4))) { nx:=fun _ H' => Q .non H',rt:=Q } σ2 H2:=by
      intro H2 σ2 y h2 f2 e0 e1 el
      match σ2,e0,e1,el with
      | [x0,x1,x2,x3,x4],e0,e1,_ =>
        cases e0
        cases e1
        refine⟨_,rfl,.inl ⟨a,_,2,_,rfl,rfl,SqL.of h2,rfl,_,rfl,_,_,rfl,rfl,hm0,?_⟩⟩
        refine⟨_,rfl,.inl ⟨a,_,2,_,rfl,rfl,SqL.of h2,rfl,_,rfl,_,_,rfl,rfl,⟨hm0,hm1⟩,_,rfl,a,_,2,2,rfl,rfl,h2,rfl,_,rfl,?_⟩⟩
        exact k _ _ (Int.emod_nonneg _ (by lia)) (Int.emod_lt_of_pos _ hm0) (f2 _ _)
    refine ite2 (fun _ => ?_) (fun _=>last H1 _ j ha1 fd rfl rfl rfl)
    refine⟨_,rfl,.inl ⟨a,_,1,_,rfl,rfl,SqL.of ha1,rfl,?_⟩⟩
    refine⟨_,rfl,.inl ⟨a,_,0,_,rfl,rfl,SqL.of ha1,rfl,⟨_,_,rfl,.inl ⟨_,SqL.of hb1,rfl⟩,⟨_,_,rfl,rfl,_,rfl,?_⟩⟩⟩⟩
    have rest : ∀ cell : Int, tSeq (tIfS (tTest (tOp (rI0 fun i j => .bl (decide (i < j))) (tVar 2) (tOp (rI CPow fun i j => .int (i ^ j.toNat)) (tC (.int 10)) (tC (.int 18)))))
          (tSeq (tAsg (tOp (rI (fun _ j=>0<j) fun i j => .int (i % j)) (tOp rMulU (tOp rAddU (tOp rAddU (tOp (rI (fun _ j=>0<j) fun i j => .int (i % j)) (tVar 2) (tC (.int 2147483647))) (tOp rMulU (tC (.int 613)) (tOp (rIx K) (tVar 0) (tC (.int 1))))) (tC (.int 7))) (tC (.int 48271))) (tC (.int 2147483647))) (gName 3))
            (tSeq (tAsg (tOp (rI (fun _ j=>0<j) fun i j => .int (i % j)) (tOp rMulU (tVar 3) (tOp rAddU (tVar 3) (tC (.int 69621)))) (tC (.int 2147483629))) (gName 3))
              (tRet (tOp (rI (fun _ j=>0<j) fun i j => .int (i % j)) (tOp (rI CDiv fun i j => .int (i / j)) (tVar 3) (tC (.int 64))) (tVar 1))))) tNext)
          (tAsg (tVar 2) (gSub (tVar 0) (tC (.int 2)) rSetL))
        { nx:=fun σ2 H2=>tSeq (tAsg (tOp (rI (fun _ j=>0<j) fun i j => .int (i % j)) (tOp (rIx K) (tVar 0) (tC (.int 2))) (tVar 1)) (gName 4)) (tSeq (tAsg (tOp (rI CDiv fun i j => .int (i / j)) (tOp (rIx K) (tVar 0) (tC (.int 2))) (tVar 1)) (gSub (tVar 0) (tC (.int 2)) rSetL)) (tRet (tVar 4))) { nx:=fun _ H' => Q .non H',rt:=Q } σ2 H2,rt:=Q }
        [some (.ref a),some (.int m),some (.int cell),none,none] H1:=by
      intro cell
      refine⟨_,rfl,_,_,rfl,rfl,⟨by decide,by decide,by decide⟩,_,_,rfl,rfl,_,rfl,?_⟩
      refine ite2 (fun _ => ?_) (fun _ => ?_)
      · refine⟨_,rfl,_,_,rfl,rfl,(by show (0:Int)<2147483647;decide),?_⟩
        refine⟨_,rfl,.inl ⟨a,_,1,_,rfl,rfl,SqL.of ha1,rfl,.inl ⟨_,_,rfl,rfl,.inl ⟨by decide,by decide⟩,.inl ⟨_,_,rfl,rfl,.inl ⟨_,_,rfl,rfl,.inl ⟨_,_,rfl,rfl,.inr ⟨by decide,by decide⟩,_,_,rfl,rfl,(by show (0:Int)<2147483647;decide),?_⟩⟩⟩⟩⟩⟩
        generalize hn:((cell % 2147483647+613 * (i+1)+7) * 48271) % 2147483647=n
        have n0:0≤n:=by rw [← hn];exact Int.emod_nonneg _ (by decide)
        have n1:n<2147483647:=by rw [← hn];exact Int.emod_lt_of_pos _ (by decide)
        refine⟨_,rfl,_,rfl,.inl ⟨_,_,rfl,rfl,.inl ⟨_,_,rfl,rfl,.inl ⟨by lia,by lia⟩,_,_,rfl,rfl,(by show (0:Int)<2147483629;decide),?_⟩⟩⟩
        refine⟨_,rfl,_,_,rfl,rfl,⟨by decide,by decide⟩,_,rfl,_,_,rfl,rfl,hm0,?_⟩
        exact k _ _ (Int.emod_nonneg _ (by lia)) (Int.emod_lt_of_pos _ hm0) fd1
      · refine⟨_,rfl,_,rfl,a,_,2,2,rfl,rfl,ha1,rfl,?_⟩
        refine last _ _ cell upd_same (fun x y => ?_) rfl rfl rfl
        have:=fd x y
        rw [upd_upd]
        exact this
    refine ite2 (fun hl => ?_) (fun _=>rest _)
    have hne:ns.map V.int ≠ []:=by
      intro z
      rw [z] at hl
      simp at hl
    obtain⟨x,hx,ex⟩:=atI_mod (i+1) hne
    obtain⟨c,rfl⟩:∃ c,x=V.int c:=by
      obtain⟨c,_,e⟩:=List.mem_map.mp hx
      exact⟨c,e.symm⟩
    refine⟨_,rfl,.inl ⟨a,_,0,_,rfl,rfl,SqL.of ha1,rfl,⟨_,rfl,.inl ⟨a,_,1,_,rfl,rfl,SqL.of ha1,rfl,⟨_,rfl,.inl ⟨a,_,0,_,rfl,rfl,SqL.of ha1,rfl,⟨_,_,rfl,.inl ⟨_,SqL.of hb1,rfl⟩,_,_,rfl,rfl,?_,?_⟩⟩⟩⟩⟩⟩⟩
    · have:0<(ns.map V.int).length:=by
        cases e:ns.map V.int with
        | nil=>exact absurd e hne
        | cons _ _=>simp
      show (0:Int)<((ns.map V.int).length:Int)
      lia
    · exact .inl ⟨b,_,_,_,rfl,rfl,SqL.of hb1,ex,rest c⟩
abbrev st_text:Stmt:=top 29
theorem sc_text:FnScope ["_law_feed", "_law_signs", "_law_size"] ["_law_feed", "_law_signs", "_law_size"] (defScope st_text):=⟨rfl,rfl,rfl,by decide +kernel,rfl,by decide +kernel,by decide +kernel⟩
theorem ok_text (D:Df K mg "_law_text" st_text ["_law_feed", "_law_signs", "_law_size"]) (T:Txt mg) (draw:Cal P w K mg base "_law_draw" 1 ["_law_feed", "_law_many"] spDraw):Cal P w K mg base "_law_text" 2 ["_law_feed", "_law_signs", "_law_size"] spText:=by
  refine D.cal sc_text (fun vs H Q E h => ?_) (fun f cdv A outer s H vs Q E hr h => ?_)
  · obtain⟨a,b,g,n,rfl,_⟩:=h;rfl
  · obtain⟨a,b,g,n,rfl,F,hg0,hg1,hn0,hn1,k⟩:=h
    have C:Calls P w K mg base:=⟨draw⟩
    refine⟨_,(@pss_one _ _ _ (@ps_ret _ _ _ _ (@bm_k _ _ _ _ _ _ _ _ _ _ _ _ K rfl PySem.F.plainAttrs_str PySem.F.slot_str_join PySem.F.type_str_join (join_k K rfl) pe_str (@pa_cons _ _ _ _ _ (@pe_lcomp _ _ _ _ _ _ _ _ _ _ _ ["_law_k"] [("_law_signs",1),("_law_feed",0)] rfl (@pi_range1 _ _ _ _ _ _ rfl T.b_range (@pa_cons _ _ _ _ _ (@pv _ 2 _ _ (by rfl) (by first | exact Or.inl rfl | exact Or.inr (Or.inl rfl) | exact Or.inr (Or.inr rfl)) (by decide) (by decide)) pa_nil (by rfl)) (by rfl)) (fun _ _ _ _ _=>(@pg_name _ _ (0) _ (show (["_law_k", "_law_signs", "_law_feed"]:List Str).Nodup by decide +kernel) rfl (by first | exact Or.inl rfl | exact Or.inr rfl) (by first | exact .inl rfl | exact .inr rfl | assumption))) (fun _ _ _ _ _=>pif_nil) (fun _ _ _ _ _=>(@pe_ix _ _ _ _ _ _ _ (ix_k K rfl) (@pv _ 1 _ _ (by rfl) (by first | exact Or.inl rfl | exact Or.inr (Or.inl rfl) | exact Or.inr (Or.inr rfl)) (by decide) (by decide)) (@pe_c _ _ _ _ _ _ _ _ _ _ _ C.draw hr (@pa_cons _ _ _ _ _ (@pv _ 2 _ _ (by rfl) (by first | exact Or.inl rfl | exact Or.inr (Or.inl rfl) | exact Or.inr (Or.inr rfl)) (by decide) (by decide)) (@pa_cons _ _ _ _ _ (@pe_callB _ _ _ _ _ _ _ _ _ (len_k K rfl) (by rfl) T.b_len PySem.boot_len (@pa_cons _ _ _ _ _ (@pv _ 1 _ _ (by rfl) (by first | exact Or.inl rfl | exact Or.inr (Or.inl rfl) | exact Or.inr (Or.inr rfl)) (by decide) (by decide)) pa_nil (by rfl)) (by decide) (by decide) (by rfl) (by rfl)) pa_nil (by rfl)) (by rfl)) (by decide) (by rfl) (by decide) (by rfl) (by rfl)) (fun _ _=>rfl))) (by rfl) (by intro _;rfl)) pa_nil (by rfl)) (by rfl) (by rfl) (by rfl) (by rfl) (by rfl)))),?_⟩
    refine⟨rfl,_,rfl,n,rfl,by lia,by lia,fun D hD => ?_⟩
    refine comp_rangeN (n:=n.toNat) (fun i ys H' => ∃ cs:List Nat,ys=cs.map (fun c=>V.str ⟨#[c]⟩)∧cs.length=i∧i≤n.toNat∧(∀ c∈cs,c∈tl g)∧Fd a b H H' ∧ H' D=some (.lst ys)) ⟨[],rfl,rfl,Nat.zero_le _,fun _ h=>(nomatch h),(Fd.refl F).new hD,upd_same⟩ (fun i ys H' ⟨cs,_,_,_,_,_,h⟩=>h) ?_ ?_
    · rintro i ys H' hi ⟨cs,rfl,hl,_,hc,fd,hHD⟩
      refine⟨_,rfl,_,rfl,_,rfl,_,_,rfl,⟨small (by lia),rfl⟩,a,b,_,rfl,fd.feed,by lia,by lia,fun r H2 r0 r1 fd2 => ?_⟩
      have hl2:(tl g).length=g.length:=(len g).symm
      obtain⟨c,hc1,hc2⟩:=atI_lt (xs:=tl g) r0 (by lia)
      refine .inr (.inr ⟨g,r,c,rfl,rfl,small (by lia),hc2,?_⟩)
      have hDa:D≠a:=fun z=>by subst z;exact F.na hD rfl
      refine⟨fd2.at hHD hDa,small' (by rw [List.length_map];lia),cs ++ [c],by rw [List.map_append];rfl,by rw [List.length_append,hl];rfl,by lia,fun d hd => ?_,(fd.trans fd2).put F hD,upd_same⟩
      rcases List.mem_append.mp hd with z | z
      · exact hc d z
      · rw [List.mem_singleton.mp z];exact List.mem_of_getElem? hc1
    · rintro ys H' ⟨cs,rfl,hl,_,hc,fd,hHD⟩
      have e:cs.map (fun c=>V.str ⟨#[c]⟩)=(cs.map fun c=>(⟨#[c]⟩:Str)).map V.str:=by rw [List.map_map];rfl
      refine⟨_,D,cs.map fun c=>⟨#[c]⟩,rfl,rfl,.inl (SqL.of (by rw [← e];exact hHD)),?_,?_⟩
      · rw [ones_sum,List.length_map]
        have:(Str.ofString "").length=0:=by decide +kernel
        rw [this];lia
      · have z:=join_ones cs
        rw [z]
        exact k cs H' hl hc fd
end
end K
set_option maxHeartbeats 4000000
namespace K
open PySem L2 TX
section
variable {P:Program} {w:World} {K:PySem.W.Frag} {mg:Str→Option Value} {base:Heap}
def spEndOf:Sp:=fun vs H Q _=>∃ (l:List Nat) (at_ most k:Nat) (g:Str),vs = [.str (mk l),.int (at_:Int),.str g,.int (most:Int)]∧l.length≤1000∧at_+k≤l.length∧k≤most∧(∀ j,j<k→∃ c,l[at_+j]? = some c∧c∈tl g)∧(k=most∨at_+k=l.length∨∃ c,l[at_+k]? = some c∧¬ c∈tl g)∧Q (.int ((at_+k:Nat):Int)) H
def enMeas (n:Nat) (σ:St):Nat:=match σ[4]? with | some (some (V.int e))=>n - e.toNat | _=>0
abbrev st_end_of:Stmt:=top 15
theorem sc_end_of:FnScope ["template", "at", "signs", "most", "end"] ["template", "at", "signs", "most"] (defScope st_end_of):=⟨rfl,rfl,rfl,by decide +kernel,rfl,by decide +kernel,by decide +kernel⟩
theorem ok_end_of (D:Df K mg "end_of" st_end_of ["template", "at", "signs", "most"]) (T:Txt mg):Cal P w K mg base "end_of" 1 ["template", "at", "signs", "most"] spEndOf:=by
  refine D.cal sc_end_of (fun vs H Q E h => ?_) (fun f cdv A outer s H vs Q E hr h => ?_)
  · obtain⟨l,at_,most,n,g,rfl,_⟩:=h;rfl
  · obtain⟨l,at_,most,n,g,rfl,hl,hle,hm,hin,hst,k⟩:=h
    refine⟨_,(@pss_cons _ _ _ _ _ (@ps_set _ _ (4) _ _ _ _ sc_end_of.nd rfl (by first | exact Or.inl rfl | exact Or.inr rfl) (@pv _ 1 _ _ (by rfl) (by first | exact Or.inl rfl | exact Or.inr (Or.inl rfl) | exact Or.inr (Or.inr rfl)) (by decide) (by decide)) (by rfl) (by first | exact .inl rfl | exact .inr rfl | assumption)) (@pss_cons _ _ _ _ _ (@ps_while _ _ _ _ _ _ PassesOwn.never (@pt_j _ _ _ (@PW.pt _ _ _ (@pw_and _ _ _ _ _ _ _ (@pt_cmpR _ _ _ _ _ _ _ _ op_lt (@pv _ 4 _ _ (by rfl) (by first | exact Or.inl rfl | exact Or.inr (Or.inl rfl) | exact Or.inr (Or.inr rfl)) (by decide) (by decide)) (@pe_callB _ _ _ _ _ _ _ _ _ (call_min2 rfl) (by rfl) T.b_min (by decide +kernel) (@pa_cons _ _ _ _ _ (@pe_callB _ _ _ _ _ _ _ _ _ (len_k K rfl) (by rfl) T.b_len PySem.boot_len (@pa_cons _ _ _ _ _ (@pv _ 0 _ _ (by rfl) (by first | exact Or.inl rfl | exact Or.inr (Or.inl rfl) | exact Or.inr (Or.inr rfl)) (by decide) (by decide)) pa_nil (by rfl)) (by decide) (by decide) (by rfl) (by rfl)) (@pa_cons _ _ _ _ _ (@pe_op _ _ _ _ _ _ _ _ op_addU (@pv _ 1 _ _ (by rfl) (by first | exact Or.inl rfl | exact Or.inr (Or.inl rfl) | exact Or.inr (Or.inr rfl)) (by decide) (by decide)) (@pv _ 3 _ _ (by rfl) (by first | exact Or.inl rfl | exact Or.inr (Or.inl rfl) | exact Or.inr (Or.inr rfl)) (by decide) (by decide))) pa_nil (by rfl)) (by rfl)) (by decide) (by decide) (by rfl) (by rfl)) (nomark _)) (@pw_and1 _ _ _ _ (@pt_cmpR _ _ _ _ _ _ _ _ (in_k K rfl) (@pe_ix _ _ _ _ _ _ _ (ix_k K rfl) (@pv _ 0 _ _ (by rfl) (by first | exact Or.inl rfl | exact Or.inr (Or.inl rfl) | exact Or.inr (Or.inr rfl)) (by decide) (by decide)) (@pv _ 4 _ _ (by rfl) (by first | exact Or.inl rfl | exact Or.inr (Or.inl rfl) | exact Or.inr (Or.inr rfl)) (by decide) (by decide)) (fun _ _=>rfl)) (@pv _ 2 _ _ (by rfl) (by first | exact Or.inl rfl | exact Or.inr (Or.inl rfl) | exact Or.inr (Or.inr rfl)) (by decide) (by decide)) (by with_unfolding_all rfl)))))) (@pss_one _ _ _ (@ps_aug _ _ (4) _ _ _ _ _ _ sc_end_of.nd rfl (by first | exact Or.inl rfl | exact Or.inr rfl) pe_int iop_add (by first | exact .inl rfl | exact .inr rfl | assumption)))) (@pss_one _ _ _ (@ps_ret _ _ _ _ (@pv _ 4 _ _ (by rfl) (by first | exact Or.inl rfl | exact Or.inr (Or.inl rfl) | exact Or.inr (Or.inr rfl)) (by decide) (by decide)))))),?_⟩
    have hlen:=mk_len l
    refine⟨_,rfl,?_⟩
    refine while_by (fun σ3 H3=>∃ j:Nat,σ3 = [some (.str (mk l)),some (.int (at_:Int)),some (.str g),some (.int (most:Int)),some (.int ((at_+j:Nat):Int))]∧H3=H∧j≤n) (fun σ3 _=>enMeas (at_+n+1) σ3) ⟨0,rfl,rfl,Nat.zero_le _⟩ ?_ ?_
    · rintro σ3 H3 ⟨j,rfl,rfl,hj⟩
      refine⟨fun b H4=>H4=H3∧b=decide (j<n),?_,?_⟩
      rotate_left
      · refine⟨_,rfl,_,rfl,_,_,rfl,⟨small (by lia),rfl⟩,_,rfl,_,rfl,.inl ⟨_,_,rfl,rfl,_,_,rfl,?_⟩⟩
        refine⟨_,_,rfl,rfl,_,rfl,?_⟩
        refine iteB (fun h => ?_) (fun h => ?_)
        · have h1:=of_decide_eq_true h
          have hlt:at_+j<l.length∧j<most:=by
            split at h1 <;> lia
          have hd:l[at_+j]? = some l[at_+j]:=List.getElem?_eq_getElem hlt.1
          refine⟨_,rfl,_,rfl,.inr (.inr ⟨mk l,_,l[at_+j],rfl,rfl,small (by lia),atI_nat (show (tl (mk l))[at_+j]? = _ by rw [tl_mk];exact hd),_,rfl,.inl ⟨_,_,rfl,rfl,_,rfl,rfl,?_⟩⟩)⟩
          rw [in_one]
          by_cases hz:j<n
          · obtain⟨c,hc1,hc2⟩:=hin j hz
            rw [hd] at hc1;cases hc1
            rw [decide_eq_true hc2,decide_eq_true hz]
          · have ej:j=n:=by lia
            subst ej
            rcases hst with z | z | ⟨c,hc1,hc2⟩
            · lia
            · lia
            · rw [hd] at hc1;cases hc1
              rw [decide_eq_false hc2,decide_eq_false hz]
        · have h1:=of_decide_eq_false h
          refine⟨rfl,?_⟩
          have:¬ j<n:=by
            intro z
            refine h1 ?_
            split <;> lia
          rw [decide_eq_false this]
      rintro b H4 ⟨rfl,rfl⟩
      refine ite2 (fun h => ?_) (fun h => ?_)
      · have hz:=of_decide_eq_true h
        refine⟨_,rfl,_,_,rfl,rfl,⟨j+1,rfl,rfl,by lia⟩,?_⟩
        show at_+n+1 - (((at_+j:Nat):Int)+1).toNat<at_+n+1 - ((at_+j:Nat):Int).toNat
        lia
      · have hz:¬ j<n:=fun z=>h (decide_eq_true z)
        have ej:j=n:=by lia
        subst ej
        exact⟨_,rfl,k⟩
    · rintro σ H Q Q' hq ⟨J,hJ,hw⟩
      exact⟨J,fun b H1 z=>hq b H1 (hJ b H1 z),hw⟩
inductive Pc where
  | tx (l:List Nat)
  | gap (k:Nat)
  | great (k:Nat)
  | small (k:Nat)
  | nou (k w:Nat)
  | more (k m:Nat)
  | cnt (v:Nat)
  | into
def Pc.vs:Pc→List V
  | .tx l => [.str (Str.ofString "text"),.str (mk l)]
  | .gap k => [.str (Str.ofString "gap"),.int (k:Int)]
  | .great k => [.str (Str.ofString "great"),.int (k:Int)]
  | .small k => [.str (Str.ofString "small"),.int (k:Int)]
  | .nou k w => [.str (Str.ofString "noughts"),.int (k:Int),.int (w:Int)]
  | .more k m => [.str (Str.ofString "more"),.int (k:Int),.int (m:Int)]
  | .cnt v => [.str (Str.ofString "count"),.int (v:Int)]
  | .into => [.str (Str.ofString "into")]
def cntW (v:Nat):List Nat:=if v=1 then [125] else [48+v,125]
def Pc.wr:Pc→List Nat
  | .tx l=>l
  | .gap k=>123::(48+k) :: [125]
  | .great k=>123::(48+k) :: [117,125]
  | .small k=>123::(48+k) :: [108,125]
  | .nou k w=>123::(48+k)::122 :: [48+w,125]
  | .more k m=>123::(48+k)::43::(dg m ++ [125])
  | .cnt v=>123::110::cntW v
  | .into => [47]
def Pc.ok:Pc→Prop
  | .tx l=>l ≠ []∧∀ c∈l,c∈NS
  | .gap k=>1≤k∧k≤9
  | .great k=>1≤k∧k≤9
  | .small k=>1≤k∧k≤9
  | .nou k w=>(1≤k∧k≤9)∧1≤w∧w≤9
  | .more k m=>(1≤k∧k≤9)∧m<10 ^ 9
  | .cnt v=>1≤v∧v≤9
  | .into=>True
def RT (H:Hp) (Q:VK) (p:Pc) (e:Nat):Prop:=∀ T1 T2 H',H T1=none→H T2=none→Same H H' → H' T1=some (.tup p.vs)→H' T2=some (.tup [.ref T1,.int ((e:Nat):Int)])→Q (.ref T2) H'
theorem RT.go {H:Hp} {Q:VK} {p:Pc} {e:Nat} {i:Int} (h:RT H Q p e) (hi:i=((e:Nat):Int)) {T1 T2:Addr} (h1:H T1=none) (h2:upd H T1 (.tup p.vs) T2=none):Q (.ref T2) (upd (upd H T1 (.tup p.vs)) T2 (.tup [.ref T1,.int i])):=by
  subst hi
  have hne:T1≠T2:=ne_of_none upd_same h2
  refine h T1 T2 _ h1 (by rw [upd_ne (Ne.symm hne)] at h2;exact h2) (((Same.refl H).new h1).new h2) ?_ upd_same
  rw [upd_ne hne];exact upd_same
theorem RT.same {H H1:Hp} {Q:VK} {p:Pc} {e:Nat} (h:RT H Q p e) (sm:Same H H1):RT H1 Q p e:=fun T1 T2 H' a b c d f=>h T1 T2 H' (sm.free a) (sm.free b) (sm.trans c) d f
theorem lit1 (c d:Nat) (s:String) (h:Str.ofString s=mk [d]):decide (V.str (mk [c])=V.str (Str.ofString s))=decide (c=d):=by
  rw [h,dec_str]
  exact decide_eq_decide.mpr ⟨fun z=>by injection z,fun z=>by rw [z]⟩
theorem int_dg {v:Nat} (h:v<10):PySem.intText? (mk [48+v])=some (v:Int):=by rw [← dg_small h];exact dg_read (by lia)
def casesKV:List (Key×V) := [(Sum.inr (Str.ofString "u"),.str (Str.ofString "great")),(Sum.inr (Str.ofString "l"),.str (Str.ofString "small"))]
theorem no123:(123:Nat)∉NS:=by decide +kernel
theorem no47:(47:Nat)∉NS:=by decide +kernel
def flatP (ps:List Pc):List Nat:=(ps.map Pc.wr).flatten
theorem flatP_cons (p:Pc) (ps:List Pc):flatP (p::ps)=p.wr++flatP ps:=by simp [flatP]
theorem flatP_app (a b:List Pc):flatP (a++b)=flatP a++flatP b:=by simp [flatP]
theorem wr_ne {p:Pc} (h:p.ok):p.wr ≠ []:=by
  cases p with
  | tx l=>exact h.1
  | _=>simp [Pc.wr]
structure WP (ps:List Pc):Prop where
  ne:ps ≠ []
  ok:∀ p∈ps,p.ok
  tt:∀ i x y,ps[i]? = some (.tx x)→ps[i+1]? ≠ some (.tx y)
  ii:∀ i,ps[i]? = some .into→1≤i∧ps[i - 1]? ≠ some .into
  la:∀ q,ps.getLast? = some q→q ≠ .into
  sz:(flatP ps).length≤100
abbrev PTu (H:Hp):List Addr→List Pc→Prop:=Paired fun T p=>H T=some (.tup p.vs)
structure HP (H:Hp) (L:Addr) (ps:List Pc):Prop where
  ex:∃ Ts,H L=some (.lst (Ts.map V.ref))∧PTu H Ts ps
theorem PTu.keep {H H' : Hp} (k:∀ T xs,H T=some (.tup xs)→H' T=some (.tup xs)):∀ {Ts:List Addr} {ps:List Pc},PTu H Ts ps→PTu H' Ts ps
  | _,_,.nil => .nil
  | _,_,.cons h t => .cons (k _ _ h) (PTu.keep k t)
theorem PTu.len {H:Hp} {Ts:List Addr} {ps:List Pc} (h:PTu H Ts ps):Ts.length=ps.length:=Paired.length h
theorem PTu.snoc {H:Hp} {T:Addr} {p:Pc} (hT:H T=some (.tup p.vs)):∀ {Ts:List Addr} {ps:List Pc},PTu H Ts ps→PTu H (Ts ++ [T]) (ps ++ [p])
  | _,_,.nil => .cons hT .nil
  | _,_,.cons h t => .cons h (PTu.snoc hT t)
theorem PTu.get {H:Hp}:∀ {Ts:List Addr} {ps:List Pc} {i:Nat} {T:Addr},PTu H Ts ps→Ts[i]? = some T→∃ p,ps[i]? = some p∧H T=some (.tup p.vs)
  | _,_,0,_,.cons h t,e=>by simp at e;subst e;exact⟨_,rfl,h⟩
  | _,_,i+1,_,.cons h t,e=>by
    obtain⟨p,h1,h2⟩:=PTu.get t (by simpa using e)
    exact⟨p,by simpa using h1,h2⟩
theorem HP.same {H H' : Hp} {L:Addr} {ps:List Pc} (h:HP H L ps) (s:Same H H'):HP H' L ps:=let ⟨Ts,h1,h2⟩:=h.ex;⟨Ts,s _ _ h1,h2.keep fun T xs e=>s _ _ e⟩
theorem HP.sq {K:PySem.W.Frag} {H:Hp} {L:Addr} {ps:List Pc} (h:HP H L ps):∃ xs,SqL K H L xs:=let ⟨Ts,h1,_⟩:=h.ex;⟨_,SqL.of h1⟩
def Pc.ds:Pc→List PyData
  | .tx l => [.str (Str.ofString "text"),.str (mk l)]
  | .gap k => [.str (Str.ofString "gap"),.int (k:Int)]
  | .great k => [.str (Str.ofString "great"),.int (k:Int)]
  | .small k => [.str (Str.ofString "small"),.int (k:Int)]
  | .nou k w => [.str (Str.ofString "noughts"),.int (k:Int),.int (w:Int)]
  | .more k m => [.str (Str.ofString "more"),.int (k:Int),.int (m:Int)]
  | .cnt v => [.str (Str.ofString "count"),.int (v:Int)]
  | .into => [.str (Str.ofString "into")]
theorem Pc.dts {K:PySem.W.Frag} {H:Hp} (p:Pc):Dts K H p.vs p.ds:=by
  cases p <;> first | exact .cons (.str _) (.cons (.str _) .nil) | exact .cons (.str _) (.cons (.int _) .nil) | exact .cons (.str _) (.cons (.int _) (.cons (.int _) .nil)) | exact .cons (.str _) .nil
theorem PTu.dts {K:PySem.W.Frag} {H:Hp}:∀ {Ts:List Addr} {ps:List Pc},PTu H Ts ps→Dts K H (Ts.map V.ref) (ps.map fun p => .tuple p.ds)
  | _,_,.nil => .nil
  | _,_,.cons h t => .cons (.tup (SqT.of h) (Pc.dts _)) (PTu.dts t)
theorem Pc.lay {p:Pc} (h:p.ok):(PyData.tuple p.ds).canLay0=true:=by
  show PySem.PyData.canLayAll0 p.ds=true
  cases p with
  | tx l =>
    have h1:PySem.PyData.strOk (mk l)=true:=strOk_of fun c hc=>ns_small c (h.2 c hc)
    have h2:PySem.PyData.strOk (Str.ofString "text")=true:=by decide +kernel
    show PySem.PyData.canLayAll0 [.str (Str.ofString "text"),.str (mk l)]=true
    simp only [PySem.PyData.canLayAll0,PySem.PyData.canLay0,h1,h2,Bool.and_self]
  | gap k => have h2 : PySem.PyData.strOk (Str.ofString "gap") = true := by decide +kernel
             simp only [Pc.ds,PySem.PyData.canLayAll0,PySem.PyData.canLay0,h2,Bool.and_self]
  | great k => have h2 : PySem.PyData.strOk (Str.ofString "great") = true := by decide +kernel
               simp only [Pc.ds,PySem.PyData.canLayAll0,PySem.PyData.canLay0,h2,Bool.and_self]
  | small k => have h2 : PySem.PyData.strOk (Str.ofString "small") = true := by decide +kernel
               simp only [Pc.ds,PySem.PyData.canLayAll0,PySem.PyData.canLay0,h2,Bool.and_self]
  | nou k w => have h2 : PySem.PyData.strOk (Str.ofString "noughts") = true := by decide +kernel
               simp only [Pc.ds,PySem.PyData.canLayAll0,PySem.PyData.canLay0,h2,Bool.and_self]
  | more k m => have h2 : PySem.PyData.strOk (Str.ofString "more") = true := by decide +kernel
                simp only [Pc.ds,PySem.PyData.canLayAll0,PySem.PyData.canLay0,h2,Bool.and_self]
  | cnt v => have h2 : PySem.PyData.strOk (Str.ofString "count") = true := by decide +kernel
             simp only [Pc.ds,PySem.PyData.canLayAll0,PySem.PyData.canLay0,h2,Bool.and_self]
  | into=>decide +kernel
theorem lays:∀ {ps:List Pc},(∀ p∈ps,p.ok)→(PyData.list (ps.map fun p => .tuple p.ds)).canLay0=true:=by
  intro ps
  show _→PySem.PyData.canLayAll0 (ps.map fun p => .tuple p.ds)=true
  induction ps with
  | nil=>intro _;rfl
  | cons p r ih =>
    intro h
    have h1:=Pc.lay (h p List.mem_cons_self)
    have h2:=ih fun q hq=>h q (List.mem_cons_of_mem _ hq)
    show PySem.PyData.canLayAll0 (.tuple p.ds::r.map fun p => .tuple p.ds)=true
    simp only [PySem.PyData.canLayAll0,h1,h2,Bool.and_self]
theorem eqv_into {p:Pc} (h:p ≠ .into):PyData.eqv (.tuple p.ds) (.tuple [.str (Str.ofString "into")])=false:=by
  cases p with
  | into=>exact absurd rfl h
  | _=>simp [Pc.ds,PyData.eqv,PyData.eqvAll]
theorem eqv_nilP {ps:List Pc} (h:ps ≠ []):PyData.eqv (.list (ps.map fun p => .tuple p.ds)) (.list [])=false:=by
  cases ps with
  | nil=>exact absurd rfl h
  | cons p r=>simp [PyData.eqv,PyData.eqvAll]
def pcMeas (n:Nat) (σ:St):Nat:=match σ[2]? with | some (some (V.int e))=>n - e.toNat | _=>0
inductive Sx where
  | beg | beh | into | opn | cnt | gap | nou | cls
  | sum (k:Nat)
def D9:List Nat:=tl (Str.ofString "0123456789")
def D1:List Nat:=tl (Str.ofString "123456789")
def D2:List Nat:=tl (Str.ofString "23456789")
def nx:Sx→Nat→Option Sx
  | .beg,c=>if c∈NS then some .beh else if c=123 then some .opn else none
  | .beh,c=>if c∈NS then some .beh else if c=123 then some .opn else if c=47 then some .into else none
  | .into,c=>if c∈NS then some .beh else if c=123 then some .opn else none
  | .opn,c=>if c=110 then some .cnt else if c∈D1 then some .gap else none
  | .cnt,c=>if c∈D2 then some .cls else if c=125 then some .beh else none
  | .gap,c=>if c=117∨c=108 then some .cls else if c=122 then some .nou else if c=43 then some (.sum 0) else if c=125 then some .beh else none
  | .nou,c=>if c∈D1 then some .cls else none
  | .cls,c=>if c=125 then some .beh else none
  | .sum 0,c=>if c=48 then some .cls else if c∈D9 then some (.sum 1) else none
  | .sum (k+1),c=>if c∈D9∧k+1≠9 then some (.sum (k+2)) else if c=125 then some .beh else none
inductive Stp (l:List Nat):Nat→Sx→Nat→Sx→Prop
  | refl {a:Nat} {s:Sx}:Stp l a s a s
  | step {a e c:Nat} {s s1 s2:Sx}:l[a]? = some c→nx s c=some s1→Stp l (a+1) s1 e s2→Stp l a s e s2
theorem Stp.trans {l:List Nat} {a e f:Nat} {s t u:Sx} (h:Stp l a s e t) (g:Stp l e t f u):Stp l a s f u:=by
  induction h with
  | refl=>exact g
  | step h1 h2 _ ih=>exact .step h1 h2 (ih g)
theorem Stp.one {l:List Nat} {a c:Nat} {s s1:Sx} (h1:l[a]? = some c) (h2:nx s c=some s1):Stp l a s (a+1) s1 := .step h1 h2 .refl
def Bad (l:List Nat) (i:Nat) (s:Sx):Prop:=(i=l.length∧s ≠ .beh)∨∃ c,l[i]? = some c∧nx s c=none
def Refu (l:List Nat) (a:Nat) (s:Sx) (i:Nat):Prop:=∃ s',Stp l a s i s' ∧ Bad l i s'
theorem Refu.step {l:List Nat} {a c i:Nat} {s s1:Sx} (h1:l[a]? = some c) (h2:nx s c=some s1) (h:Refu l (a+1) s1 i):Refu l a s i:=by
  obtain⟨s',g,b⟩:=h
  exact⟨s',.step h1 h2 g,b⟩
theorem Refu.via {l:List Nat} {a e i:Nat} {s t:Sx} (g:Stp l a s e t) (h:Refu l e t i):Refu l a s i:=by
  obtain⟨s',g',b⟩:=h
  exact⟨s',g.trans g',b⟩
theorem Stp.le {l:List Nat} {a e:Nat} {s t:Sx} (h:Stp l a s e t):a≤e:=by
  induction h with
  | refl=>exact Nat.le_refl _
  | step _ _ _ ih=>lia
theorem Stp.det {l:List Nat} {a e f:Nat} {s t u:Sx} (h:Stp l a s e t) (g:Stp l a s f u) (hb:Bad l e t∨(e=l.length∧t = .beh)) (gb:Bad l f u∨(f=l.length∧u = .beh)):e=f∧t=u:=by
  induction h with
  | refl =>
    cases g with
    | refl=>exact⟨rfl,rfl⟩
    | step h1 h2 g =>
      exfalso
      have hlt:=(List.getElem?_eq_some_iff.mp h1).1
      rcases hb with (⟨z,_⟩ | ⟨c,c1,c2⟩) | ⟨z,_⟩
      · lia
      · rw [h1] at c1;cases c1;rw [h2] at c2;cases c2
      · lia
  | step h1 h2 h ih =>
    cases g with
    | refl =>
      exfalso
      have hlt:=(List.getElem?_eq_some_iff.mp h1).1
      rcases gb with (⟨z,_⟩ | ⟨c,c1,c2⟩) | ⟨z,_⟩
      · lia
      · rw [h1] at c1;cases c1;rw [h2] at c2;cases c2
      · lia
    | step g1 g2 g =>
      rw [h1] at g1;cases g1
      rw [h2] at g2;cases g2
      exact ih g hb
theorem refu_one {l:List Nat} {i j:Nat} (h:Refu l 0 .beg i) (g:Refu l 0 .beg j):i=j:=by
  obtain⟨s,h1,h2⟩:=h
  obtain⟨t,g1,g2⟩:=g
  exact (h1.det g1 (.inl h2) (.inl g2)).1
theorem refu_not {l:List Nat} {i:Nat} (h:Refu l 0 .beg i) (g:Stp l 0 .beg l.length .beh):False:=by
  obtain⟨s,h1,h2⟩:=h
  obtain⟨e1,e2⟩:=h1.det g (.inl h2) (.inr ⟨rfl,rfl⟩)
  subst e1 e2
  rcases h2 with ⟨_,z⟩ | ⟨c,c1,_⟩
  · exact z rfl
  · rw [List.getElem?_eq_none (Nat.le_refl _)] at c1;cases c1
def Prev (l:List Nat) (a:Nat) (s:Sx):Prop:=(s = .beg∧a=0)∨(s = .into∧1≤a∧l[a - 1]? = some 47)∨(s = .beh∧1≤a∧∃ c,l[a - 1]? = some c∧c≠47)
theorem ns47:∀ c∈NS,c≠47:=by decide +kernel
theorem d_fig:∀ c∈D9,48≤c∧c≤57:=by decide +kernel
theorem d1_fig:∀ c∈D1,49≤c∧c≤57:=by decide +kernel
theorem d2_fig:∀ c∈D2,50≤c∧c≤57:=by decide +kernel
end
end K
set_option maxHeartbeats 4000000
namespace K
open PySem L2 TX
section
variable {P:Program} {w:World} {K:PySem.W.Frag} {mg:Str→Option Value} {base:Heap}
abbrev st_NoTemplate___init__:Stmt:=inClass (top 3) 0
theorem sc_NoTemplate___init__:FnScope ["self", "at"] ["self", "at"] (defScope st_NoTemplate___init__):=⟨rfl,rfl,rfl,by decide +kernel,rfl,by decide +kernel,by decide +kernel⟩
theorem ok_NoTemplate_init {Cn Dn:Addr} (F:Ef K mg "NoTemplate" Cn Dn "NoTemplate.__init__" st_NoTemplate___init__ ["self", "at"]) (g_HallError:mg "HallError" = some (.ref Dn)) (S:ESet K Cn "at"):CalE P w K mg base "NoTemplate" Cn 1 ["self", "at"] (spIni1 Cn "at"):=by
  refine F.cal sc_NoTemplate___init__ (fun vs H Q E h => ?_) (by decide) (fun mc f cdv A outer s H vs Q E L_low N_ini hr h => ?_)
  · obtain⟨ea,v,rfl,_⟩:=h;rfl
  · obtain⟨ea,v,rfl,hE,⟨n,rfl,hn⟩,k⟩:=h
    refine⟨_,(@pss_cons _ _ _ _ _ (@ps_expr _ _ _ _ (pe_ini L_low N_ini rfl g_HallError (@pa_cons _ _ _ _ _ (@pv _ 0 _ _ (by rfl) (by first | exact Or.inl rfl | exact Or.inr (Or.inl rfl) | exact Or.inr (Or.inr rfl)) (by decide) (by decide)) (@pa_cons _ _ _ _ _ (@pe_fstr _ _ _ _ _ _ _ _ pf_str (@pf_val _ _ _ _ (@pv _ 1 _ _ (by rfl) (by first | exact Or.inl rfl | exact Or.inr (Or.inl rfl) | exact Or.inr (Or.inr rfl)) (by decide) (by decide))) (@pfs_cons _ _ _ _ _ pf_str pfs_nil)) pa_nil (by rfl)) (by rfl))) (by rfl)) (@pss_one _ _ _ (eset_k K rfl (@pv _ 0 _ _ (by rfl) (by first | exact Or.inl rfl | exact Or.inr (Or.inl rfl) | exact Or.inr (Or.inr rfl)) (by decide) (by decide)) (@pv _ 1 _ _ (by rfl) (by first | exact Or.inl rfl | exact Or.inr (Or.inl rfl) | exact Or.inr (Or.inr rfl)) (by decide) (by decide))))),?_⟩
    have ln:=dg_len 12 n (by lia)
    have l1:(Str.ofString "no template: wrong behind ").length≤100:=by decide +kernel
    have l2:(Str.ofString " signs").length≤100:=by decide +kernel
    have l0:Str.empty.length=0:=by decide +kernel
    have e1:(Str.ofString (toString (n:Int))).length≤13:=by rw [dg_mk,mk_len];exact ln
    refine⟨_,rfl,TX.small (by rw [app_len];lia),_,rfl,.inr ⟨n,rfl,hn,TX.small (by rw [app_len,app_len];lia),TX.small (by rw [app_len,app_len,app_len];lia),TX.small (by rw [app_len,app_len,app_len];lia),?_⟩⟩
    exact⟨ea,_,none,rfl,hE,_,rfl,_,rfl,ea,Cn,rfl,S,.inl ⟨hE,fun d hd hne=>k d hd hne⟩⟩
theorem same_raised {H H1:Hp} {ea d:Addr} {o1 o2 o3 o4 o5:HO} (sm:Same H H1) (h1:H1 ea=none) (h2:upd H1 ea o1 d=none):Same H (upd (upd (upd (upd (upd H1 ea o1) d o2) ea o3) d o4) ea o5):=fun b o hb=>by
  have hb1:=sm b o hb
  have n1:b≠ea:=fun z=>by rw [z,h1] at hb1;cases hb1
  have n2:b≠d:=fun z=>by rw [← z,upd_ne n1,hb1] at h2;cases h2
  rw [upd_ne n1,upd_ne n2,upd_ne n1,upd_ne n2,upd_ne n1]
  exact hb1
def RE (H:Hp) (E:XK) (Cn:Addr) (i:Nat):Prop:=∀ ea H',Same H H' → H ea=none→Rfd H' ea Cn "at" (.int ((i:Nat):Int))→E (.ref ea) none H'
def spAskedX (Cn:Addr):Sp:=fun vs H Q E=>∃ (l:List Nat) (at_:Nat) (g:Str),vs = [.str (mk l),.int (at_:Int),.str g]∧l.length≤1000∧at_≤1000∧(∀ c,l[at_]? = some c→c∈tl g→Q (.str (mk [c])) H)∧((∀ c,l[at_]? = some c→¬ c∈tl g)→RE H E Cn at_)
structure CallsN (P:Program) (w:World) (K:PySem.W.Frag) (mg:Str→Option Value) (base:Heap) (Cn:Addr):Prop where
  e_NoTemplate:CalE P w K mg base "NoTemplate" Cn 1 ["self", "at"] (spIni1 Cn "at")
abbrev st_asked:Stmt:=top 14
theorem sc_asked:FnScope ["template", "at", "signs"] ["template", "at", "signs"] (defScope st_asked):=⟨rfl,rfl,rfl,by decide +kernel,rfl,by decide +kernel,by decide +kernel⟩
theorem ok_askedX {Cn:Addr} (D:Df K mg "asked" st_asked ["template", "at", "signs"]) (T:Txt mg) (C:CallsN P w K mg base Cn):CalX P w K mg base "asked" 3 ["template", "at", "signs"] (spAskedX Cn):=by
  refine D.calX sc_asked (fun vs H Q E h => ?_) (fun f cdv A outer s H vs Q E hr h => ?_)
  · obtain⟨l,at_,g,rfl,_⟩:=h;rfl
  · obtain⟨l,at_,g,rfl,hl,ha,k,kE⟩:=h
    refine⟨_,(@pss_cons _ _ _ _ _ (@ps_if _ _ _ _ _ _ _ _ (@pt_j _ _ _ (@PW.pt _ _ _ (@pw_or _ _ _ _ _ _ _ (@pt_cmpR _ _ _ _ _ _ _ _ op_ge (@pv _ 1 _ _ (by rfl) (by first | exact Or.inl rfl | exact Or.inr (Or.inl rfl) | exact Or.inr (Or.inr rfl)) (by decide) (by decide)) (@pe_callB _ _ _ _ _ _ _ _ _ (len_k K rfl) (by rfl) T.b_len PySem.boot_len (@pa_cons _ _ _ _ _ (@pv _ 0 _ _ (by rfl) (by first | exact Or.inl rfl | exact Or.inr (Or.inl rfl) | exact Or.inr (Or.inr rfl)) (by decide) (by decide)) pa_nil (by rfl)) (by decide) (by decide) (by rfl) (by rfl)) (nomark _)) (@pw_or1 _ _ _ _ (@pt_cmpR _ _ _ _ _ _ _ _ (nin_k K rfl) (@pe_ix _ _ _ _ _ _ _ (ix_k K rfl) (@pv _ 0 _ _ (by rfl) (by first | exact Or.inl rfl | exact Or.inr (Or.inl rfl) | exact Or.inr (Or.inr rfl)) (by decide) (by decide)) (@pv _ 1 _ _ (by rfl) (by first | exact Or.inl rfl | exact Or.inr (Or.inl rfl) | exact Or.inr (Or.inr rfl)) (by decide) (by decide)) (fun _ _=>rfl)) (@pv _ 2 _ _ (by rfl) (by first | exact Or.inl rfl | exact Or.inr (Or.inl rfl) | exact Or.inr (Or.inr rfl)) (by decide) (by decide)) (by with_unfolding_all rfl)))))) (@pss_one _ _ _ (ps_rs C.e_NoTemplate hr accX rfl (@pa_cons _ _ _ _ _ (@pv _ 1 _ _ (by rfl) (by first | exact Or.inl rfl | exact Or.inr (Or.inl rfl) | exact Or.inr (Or.inr rfl)) (by decide) (by decide)) pa_nil (by rfl)))) pss_nil) (@pss_one _ _ _ (@ps_ret _ _ _ _ (@pe_ix _ _ _ _ _ _ _ (ix_k K rfl) (@pv _ 0 _ _ (by rfl) (by first | exact Or.inl rfl | exact Or.inr (Or.inl rfl) | exact Or.inr (Or.inr rfl)) (by decide) (by decide)) (@pv _ 1 _ _ (by rfl) (by first | exact Or.inl rfl | exact Or.inr (Or.inl rfl) | exact Or.inr (Or.inr rfl)) (by decide) (by decide)) (fun _ _=>rfl))))),?_⟩
    have hlen:=mk_len l
    refine⟨fun b H' => H' = H∧(b=true→∀ c,l[at_]? = some c→¬ c∈tl g)∧(b=false→∃ c,l[at_]? = some c∧c∈tl g),?_,?_⟩
    rotate_left
    · refine⟨_,rfl,_,rfl,_,_,rfl,⟨small (by lia),rfl⟩,_,_,rfl,rfl,_,rfl,?_⟩
      refine iteB (fun h=>⟨rfl,fun _ c hc => ?_,fun z=>(by cases z)⟩) (fun h => ?_)
      · have:=of_decide_eq_true h
        have:=(List.getElem?_eq_some_iff.mp hc).1
        lia
      have hlt:at_<l.length:=by
        have:=of_decide_eq_false h
        lia
      have hc:l[at_]? = some l[at_]:=List.getElem?_eq_getElem hlt
      refine⟨_,rfl,_,rfl,.inr (.inr ⟨mk l,_,l[at_],rfl,rfl,small (by lia),atI_nat (show (tl (mk l))[at_]? = _ by rw [tl_mk];exact hc),_,rfl,.inl ⟨_,_,rfl,rfl,_,rfl,rfl,?_⟩⟩)⟩
      rw [in_one]
      by_cases hg:l[at_]∈tl g
      · rw [decide_eq_true hg]
        exact⟨(fun z=>by cases z),fun _=>⟨_,hc,hg⟩⟩
      · rw [decide_eq_false hg]
        exact⟨fun _ c hc' => by rw [hc] at hc';cases hc';exact hg,(fun z=>by cases z)⟩
    rintro b H' ⟨rfl,h1,h0⟩
    refine iteB (fun h => ?_) (fun h => ?_)
    · refine⟨_,rfl,fun ea hea=>⟨ea,_,rfl,upd_same,⟨at_,rfl,by lia⟩,fun d hd hne=>⟨rfl,?_⟩⟩⟩
      obtain⟨dd,r1,r2⟩:=raised1 (f := "at") (v := .int ((at_:Nat):Int)) hd hne
      exact⟨dd,r1,kE (h1 h) ea _ (same_raised (Same.refl H') hea hd) hea r2⟩
    · obtain⟨c,hc,hg⟩:=h0 h
      exact⟨_,rfl,_,rfl,.inr (.inr ⟨mk l,_,c,rfl,rfl,small (by lia),atI_nat (show (tl (mk l))[at_]? = _ by rw [tl_mk];exact hc),k c hc hg⟩)⟩
theorem RE.same {H H1:Hp} {E:XK} {Cn:Addr} {i:Nat} (h:RE H E Cn i) (s:Same H H1):RE H1 E Cn i:=fun ea H' sm hea r=>h ea H' (s.trans sm) (s.free hea) r
theorem RE.up {H:Hp} {E:XK} {Cn:Addr} {i:Nat} (h:RE H E Cn i):RE H (fun e _ H' => ∀ ea,e = .ref ea→E (.ref ea) none H') Cn i:=fun ea H' sm hea r ea' ez=>by
  cases ez
  exact h ea H' sm hea r
structure RX (H:Hp) (Q:VK) (E:XK) (Cn:Addr) (l:List Nat) (a:Nat) (s:Sx):Prop where
  go:∀ p e s',Pc.ok p→a<e→e≤l.length→Stp l a s e s' → Prev l e s' → (s' = .into↔p = .into)→RT H Q p e
  no:∀ i,i≤l.length→Refu l a s i→RE H E Cn i
theorem mark_end {l:List Nat} {e:Nat} (h:l[e]? = some 125):Prev l (e+1) .beh := .inr (.inr ⟨rfl,by lia,125,by rw [Nat.add_sub_cancel];exact h,by decide⟩)
theorem lt_of {l:List Nat} {i c:Nat} (h:l[i]? = some c):i<l.length:=(List.getElem?_eq_some_iff.mp h).1
theorem bad_at {l:List Nat} {i:Nat} {s:Sx} (hi:i≤l.length) (hs:s ≠ .beh) (h:∀ c,l[i]? = some c→nx s c=none):Refu l i s i:=by
  refine⟨s,.refl,?_⟩
  rcases Nat.lt_or_ge i l.length with z | z
  · exact .inr ⟨_,List.getElem?_eq_getElem z,h _ (List.getElem?_eq_getElem z)⟩
  · exact .inl ⟨by lia,hs⟩
structure CallsA6 (P:Program) (w:World) (K:PySem.W.Frag) (mg:Str→Option Value) (base:Heap) (Cn:Addr):Prop where
  asked:CalX P w K mg base "asked" 3 ["template", "at", "signs"] (spAskedX Cn)
  end_of:Cal P w K mg base "end_of" 1 ["template", "at", "signs", "most"] spEndOf
theorem dig {c:Nat} (h:c∈D1):∃ v,c=48+v∧1≤v∧v≤9:=⟨c - 48,by have:=d1_fig c h;lia,by have:=d1_fig c h;lia,by have:=d1_fig c h;lia⟩
theorem dig2 {c:Nat} (h:c∈D2):∃ v,c=48+v∧2≤v∧v≤9:=⟨c - 48,by have:=d2_fig c h;lia,by have:=d2_fig c h;lia,by have:=d2_fig c h;lia⟩
theorem brace {c:Nat} (h:c∈tl (Str.ofString "}")):c=125:=by
  have:∀ c∈tl (Str.ofString "}"),c=125:=by decide +kernel
  exact this c h
theorem brace' : (125:Nat)∈tl (Str.ofString "}"):=by decide +kernel
theorem cls_end {l:List Nat} {H:Hp} {Q:VK} {E:XK} {Cn:Addr} {a e:Nat} {s:Sx} (x:RX H Q E Cn l a s) (g:Stp l a s e .cls) (hl:e≤l.length) (h:∀ c,l[e]? = some c→¬ c∈tl (Str.ofString "}")):RE H E Cn e :=
  x.no e hl (.via g (bad_at hl (by intro z;cases z) fun c hc=>by
    show (if c=125 then _ else _)=_
    rw [if_neg (fun z=>h c hc (by rw [z];exact brace'))]))
theorem nx_cnt:nx .cnt 125=some .beh:=by
  show (if 125∈D2 then some Sx.cls else if 125=125 then some Sx.beh else none)=_
  rw [if_neg (by decide +kernel),if_pos rfl]
def spCountX (Cn:Addr):Sp:=fun vs H Q E=>∃ (l:List Nat) (a:Nat),vs = [.str (mk l),.int (a:Int)]∧l.length≤500∧a≤l.length∧RX H Q E Cn l a .cnt
abbrev st_read_count:Stmt:=top 16
theorem sc_read_count:FnScope ["template", "at", "sign"] ["template", "at"] (defScope st_read_count):=⟨rfl,rfl,rfl,by decide +kernel,rfl,by decide +kernel,by decide +kernel⟩
theorem ok_read_countX {Cn:Addr} (D:Df K mg "read_count" st_read_count ["template", "at"]) (T:Txt mg) (C:CallsA6 P w K mg base Cn):CalX P w K mg base "read_count" 4 ["template", "at"] (spCountX Cn):=by
  refine D.calX sc_read_count (fun vs H Q E h => ?_) (fun f cdv A outer s H vs Q E hr h => ?_)
  · obtain⟨l,a,rfl,_⟩:=h;rfl
  · obtain⟨l,a,rfl,hl,ha,x⟩:=h
    obtain⟨_,g_FROM_TWO⟩:=T.FROM_TWO
    refine⟨_,(@pss_cons _ _ _ _ _ (@ps_set _ _ (2) _ _ _ _ sc_read_count.nd rfl (by first | exact Or.inl rfl | exact Or.inr rfl) (pe_cX C.asked hr accX (@pa_cons _ _ _ _ _ (@pv _ 0 _ _ (by rfl) (by first | exact Or.inl rfl | exact Or.inr (Or.inl rfl) | exact Or.inr (Or.inr rfl)) (by decide) (by decide)) (@pa_cons _ _ _ _ _ (@pv _ 1 _ _ (by rfl) (by first | exact Or.inl rfl | exact Or.inr (Or.inl rfl) | exact Or.inr (Or.inr rfl)) (by decide) (by decide)) (@pa_cons _ _ _ _ _ (@pe_op _ _ _ _ _ _ _ _ op_addU pe_str (@pe_glob _ _ (.str (Str.ofString "23456789")) _ _ (by rfl) g_FROM_TWO ⟨_,rfl⟩ (by decide))) pa_nil (by rfl)) (by rfl)) (by rfl))) (by rfl) (by first | exact .inl rfl | exact .inr rfl | assumption)) (@pss_cons _ _ _ _ _ (@ps_if _ _ _ _ _ _ _ _ (@pt_cmpR _ _ _ _ _ _ _ _ (eq_k K rfl hr) (@pv _ 2 _ _ (by rfl) (by first | exact Or.inl rfl | exact Or.inr (Or.inl rfl) | exact Or.inr (Or.inr rfl)) (by decide) (by decide)) pe_str (nomark _)) (@pss_one _ _ _ (@ps_ret _ _ _ _ (@pe_tup _ _ _ _ _ (@pa_cons _ _ _ _ _ (@pe_tup _ _ _ _ _ (@pa_cons _ _ _ _ _ pe_str (@pa_cons _ _ _ _ _ pe_int pa_nil (by rfl)) (by rfl))) (@pa_cons _ _ _ _ _ (@pe_op _ _ _ _ _ _ _ _ op_addU (@pv _ 1 _ _ (by rfl) (by first | exact Or.inl rfl | exact Or.inr (Or.inl rfl) | exact Or.inr (Or.inr rfl)) (by decide) (by decide)) pe_int) pa_nil (by rfl)) (by rfl))))) pss_nil) (@pss_cons _ _ _ _ _ (@ps_expr _ _ _ _ (pe_cX C.asked hr accX (@pa_cons _ _ _ _ _ (@pv _ 0 _ _ (by rfl) (by first | exact Or.inl rfl | exact Or.inr (Or.inl rfl) | exact Or.inr (Or.inr rfl)) (by decide) (by decide)) (@pa_cons _ _ _ _ _ (@pe_op _ _ _ _ _ _ _ _ op_addU (@pv _ 1 _ _ (by rfl) (by first | exact Or.inl rfl | exact Or.inr (Or.inl rfl) | exact Or.inr (Or.inr rfl)) (by decide) (by decide)) pe_int) (@pa_cons _ _ _ _ _ pe_str pa_nil (by rfl)) (by rfl)) (by rfl))) (by rfl)) (@pss_one _ _ _ (@ps_ret _ _ _ _ (@pe_tup _ _ _ _ _ (@pa_cons _ _ _ _ _ (@pe_tup _ _ _ _ _ (@pa_cons _ _ _ _ _ pe_str (@pa_cons _ _ _ _ _ (@pe_callTy _ _ _ _ _ _ _ _ _ call_intU (by rfl) T.b_int (by decide +kernel) (@pa_cons _ _ _ _ _ (@pv _ 2 _ _ (by rfl) (by first | exact Or.inl rfl | exact Or.inr (Or.inl rfl) | exact Or.inr (Or.inr rfl)) (by decide) (by decide)) pa_nil (by rfl)) (by decide) (by decide) (by rfl) (by rfl)) pa_nil (by rfl)) (by rfl))) (@pa_cons _ _ _ _ _ (@pe_op _ _ _ _ _ _ _ _ op_addU (@pv _ 1 _ _ (by rfl) (by first | exact Or.inl rfl | exact Or.inr (Or.inl rfl) | exact Or.inr (Or.inr rfl)) (by decide) (by decide)) pe_int) pa_nil (by rfl)) (by rfl)))))))),?_⟩
    have e9:(Str.ofString "}").length+(Str.ofString "23456789").length≤1000:=by decide +kernel
    have hin:∀ c,c∈tl (Str.ofString "}" ++ Str.ofString "23456789")↔c=125∨c∈D2:=fun c=>by
      rw [tl_app,List.mem_append]
      exact⟨fun z=>z.imp brace id,fun z=>z.imp (fun y=>by rw [y];exact brace') id⟩
    refine⟨_,rfl,_,rfl,.inr (.inl ⟨_,_,rfl,rfl,small (by lia),l,a,_,rfl,by lia,by lia,fun c hc hg => ?_,fun hn => ?_⟩)⟩
    rotate_left
    · refine (x.no a ha (bad_at ha (by intro z;cases z) fun c hc => ?_)).up
      have:=hn c hc
      rw [hin] at this
      show (if c∈D2 then _ else if c=125 then _ else _)=_
      rw [if_neg (fun z=>this (.inr z)),if_neg (fun z=>this (.inl z))]
    have hlt:=lt_of hc
    refine⟨_,rfl,.inl ⟨rfl,_,rfl,?_⟩⟩
    rw [lit1 c 125 "}" (by decide +kernel)]
    refine ite2 (fun h => ?_) (fun h => ?_)
    · have hc' : c=125:=of_decide_eq_true h
      subst hc'
      refine⟨by show 2≤sizeLine;decide,fun T1 hT1=>⟨_,rfl,.inl ⟨_,_,rfl,rfl,by show 2≤sizeLine;decide,fun T2 hT2 => ?_⟩⟩⟩
      have rt:=x.go (.cnt 1) (a+1) .beh ⟨by decide,by decide⟩ (by lia) (by lia) (.one hc nx_cnt) (mark_end hc) ⟨(fun z=>by cases z),(fun z=>by cases z)⟩
      exact rt.go (by show (a:Int)+1=((a+1:Nat):Int);lia) hT1 hT2
    · have hc' : c∈D2:=((hin c).mp hg).resolve_left fun z=>h (decide_eq_true z)
      obtain⟨v,rfl,hv2,hv9⟩:=dig2 hc'
      have st1:Stp l a .cnt (a+1) .cls := .one hc (if_pos hc')
      refine⟨_,rfl,_,rfl,.inl ⟨_,_,rfl,rfl,l,a+1,_,rfl,by lia,by lia,fun c2 hc2 hg2 => ?_,fun hn=>(cls_end x st1 (by lia) hn).up⟩⟩
      have e2:=brace hg2
      subst e2
      have hlt2:=lt_of hc2
      refine⟨_,rfl,.inr ⟨_,_,rfl,int_dg (by lia),by rw [mk_len];show 1≤640;decide,by show 2≤sizeLine;decide,fun T1 hT1=>⟨_,rfl,.inl ⟨_,_,rfl,rfl,by show 2≤sizeLine;decide,fun T2 hT2 => ?_⟩⟩⟩⟩
      have rt:=x.go (.cnt v) (a+2) .beh ⟨by lia,by lia⟩ (by lia) (by lia) (st1.trans (.one hc2 rfl)) (mark_end hc2) ⟨(fun z=>by cases z),(fun z=>by cases z)⟩
      exact rt.go (by show (a:Int)+2=((a+2:Nat):Int);lia) hT1 hT2
end
end K
set_option maxHeartbeats 4000000
namespace K
open PySem L2 TX
section
variable {P:Program} {w:World} {K:PySem.W.Frag} {mg:Str→Option Value} {base:Heap}
def spNoughtsX (Cn:Addr):Sp:=fun vs H Q E=>∃ (l:List Nat) (a g:Nat),vs = [.str (mk l),.int (a:Int),.int (g:Int)]∧l.length≤500∧a≤l.length∧(1≤g∧g≤9)∧RX H Q E Cn l a .nou
abbrev st_read_noughts:Stmt:=top 17
theorem sc_read_noughts:FnScope ["template", "at", "gap", "width"] ["template", "at", "gap"] (defScope st_read_noughts):=⟨rfl,rfl,rfl,by decide +kernel,rfl,by decide +kernel,by decide +kernel⟩
theorem ok_read_noughtsX {Cn:Addr} (D:Df K mg "read_noughts" st_read_noughts ["template", "at", "gap"]) (T:Txt mg) (C:CallsA6 P w K mg base Cn):CalX P w K mg base "read_noughts" 4 ["template", "at", "gap"] (spNoughtsX Cn):=by
  refine D.calX sc_read_noughts (fun vs H Q E h => ?_) (fun f cdv A outer s H vs Q E hr h => ?_)
  · obtain⟨l,a,g,rfl,_⟩:=h;rfl
  · obtain⟨l,a,g,rfl,hl,ha,hg,x⟩:=h
    obtain⟨_,g_FROM_ONE⟩:=T.FROM_ONE
    refine⟨_,(@pss_cons _ _ _ _ _ (@ps_set _ _ (3) _ _ _ _ sc_read_noughts.nd rfl (by first | exact Or.inl rfl | exact Or.inr rfl) (pe_cX C.asked hr accX (@pa_cons _ _ _ _ _ (@pv _ 0 _ _ (by rfl) (by first | exact Or.inl rfl | exact Or.inr (Or.inl rfl) | exact Or.inr (Or.inr rfl)) (by decide) (by decide)) (@pa_cons _ _ _ _ _ (@pv _ 1 _ _ (by rfl) (by first | exact Or.inl rfl | exact Or.inr (Or.inl rfl) | exact Or.inr (Or.inr rfl)) (by decide) (by decide)) (@pa_cons _ _ _ _ _ (@pe_glob _ _ (.str (Str.ofString "123456789")) _ _ (by rfl) g_FROM_ONE ⟨_,rfl⟩ (by decide)) pa_nil (by rfl)) (by rfl)) (by rfl))) (by rfl) (by first | exact .inl rfl | exact .inr rfl | assumption)) (@pss_cons _ _ _ _ _ (@ps_expr _ _ _ _ (pe_cX C.asked hr accX (@pa_cons _ _ _ _ _ (@pv _ 0 _ _ (by rfl) (by first | exact Or.inl rfl | exact Or.inr (Or.inl rfl) | exact Or.inr (Or.inr rfl)) (by decide) (by decide)) (@pa_cons _ _ _ _ _ (@pe_op _ _ _ _ _ _ _ _ op_addU (@pv _ 1 _ _ (by rfl) (by first | exact Or.inl rfl | exact Or.inr (Or.inl rfl) | exact Or.inr (Or.inr rfl)) (by decide) (by decide)) pe_int) (@pa_cons _ _ _ _ _ pe_str pa_nil (by rfl)) (by rfl)) (by rfl))) (by rfl)) (@pss_one _ _ _ (@ps_ret _ _ _ _ (@pe_tup _ _ _ _ _ (@pa_cons _ _ _ _ _ (@pe_tup _ _ _ _ _ (@pa_cons _ _ _ _ _ pe_str (@pa_cons _ _ _ _ _ (@pv _ 2 _ _ (by rfl) (by first | exact Or.inl rfl | exact Or.inr (Or.inl rfl) | exact Or.inr (Or.inr rfl)) (by decide) (by decide)) (@pa_cons _ _ _ _ _ (@pe_callTy _ _ _ _ _ _ _ _ _ call_intU (by rfl) T.b_int (by decide +kernel) (@pa_cons _ _ _ _ _ (@pv _ 3 _ _ (by rfl) (by first | exact Or.inl rfl | exact Or.inr (Or.inl rfl) | exact Or.inr (Or.inr rfl)) (by decide) (by decide)) pa_nil (by rfl)) (by decide) (by decide) (by rfl) (by rfl)) pa_nil (by rfl)) (by rfl)) (by rfl))) (@pa_cons _ _ _ _ _ (@pe_op _ _ _ _ _ _ _ _ op_addU (@pv _ 1 _ _ (by rfl) (by first | exact Or.inl rfl | exact Or.inr (Or.inl rfl) | exact Or.inr (Or.inr rfl)) (by decide) (by decide)) pe_int) pa_nil (by rfl)) (by rfl))))))),?_⟩
    refine⟨_,rfl,_,rfl,l,a,_,rfl,by lia,by lia,fun c hc hg1 => ?_,fun hn => ?_⟩
    rotate_left
    · exact (x.no a ha (bad_at ha (by intro z;cases z) fun c hc=>if_neg (hn c hc))).up
    have hlt:=lt_of hc
    have hc1:c∈D1:=hg1
    obtain⟨v,rfl,hv1,hv9⟩:=dig hc1
    have st1:Stp l a .nou (a+1) .cls := .one hc (if_pos hc1)
    refine⟨_,rfl,_,rfl,.inl ⟨_,_,rfl,rfl,l,a+1,_,rfl,by lia,by lia,fun c2 hc2 hg2 => ?_,fun hn=>(cls_end x st1 (by lia) hn).up⟩⟩
    have e2:=brace hg2
    subst e2
    have hlt2:=lt_of hc2
    refine⟨_,rfl,_,rfl,.inr ⟨_,_,rfl,int_dg (by lia),by rw [mk_len];show 1≤640;decide,by show 3≤sizeLine;decide,fun T1 hT1=>⟨_,rfl,.inl ⟨_,_,rfl,rfl,by show 2≤sizeLine;decide,fun T2 hT2 => ?_⟩⟩⟩⟩
    have rt:=x.go (.nou g v) (a+2) .beh ⟨hg,by lia,by lia⟩ (by lia) (by lia) (st1.trans (.one hc2 rfl)) (mark_end hc2) ⟨(fun z=>by cases z),(fun z=>by cases z)⟩
    exact rt.go (by show (a:Int)+2=((a+2:Nat):Int);lia) hT1 hT2
theorem run_of (g:List Nat):∀ (l:List Nat) (a most:Nat),a≤l.length→∃ k,k≤most∧a+k≤l.length∧(∀ j,j<k→∃ c,l[a+j]? = some c∧c∈g)∧(k=most∨a+k=l.length∨∃ c,l[a+k]? = some c∧¬ c∈g)
  | l,a,0,h=>⟨0,Nat.le_refl _,h,fun j z=>(by lia),.inl rfl⟩
  | l,a,most+1,h=>by
    rcases Nat.lt_or_ge a l.length with z | z
    · have hc:l[a]? = some l[a]:=List.getElem?_eq_getElem z
      by_cases hg:l[a]∈g
      · obtain⟨k,h1,h2,h3,h4⟩:=run_of g l (a+1) most z
        refine⟨k+1,by lia,by lia,fun j hj => ?_,?_⟩
        · cases j with
          | zero=>exact⟨_,hc,hg⟩
          | succ j =>
            obtain⟨c,c1,c2⟩:=h3 j (by lia)
            exact⟨c,by rw [show a+(j+1)=a+1+j from by lia];exact c1,c2⟩
        · rcases h4 with h4 | h4 | ⟨c,c1,c2⟩
          · exact .inl (by lia)
          · exact .inr (.inl (by lia))
          · exact .inr (.inr ⟨c,by rw [show a+(k+1)=a+1+k from by lia];exact c1,c2⟩)
      · exact⟨0,Nat.zero_le _,h,fun j z=>(by lia),.inr (.inr ⟨_,hc,hg⟩)⟩
    · exact⟨0,Nat.zero_le _,h,fun j z=>(by lia),.inr (.inl (by lia))⟩
theorem sum_run {l:List Nat} {a:Nat}:∀ (k:Nat),k≤9→1≤k→(∀ j,j<k→∃ c,l[a+j]? = some c∧c∈D9)→(∀ c,l[a]? = some c→c≠48)→Stp l a (.sum 0) (a+k) (.sum k)
  | 0,_,h,_,_=>absurd h (by decide)
  | 1,_,_,h,h0=>by
    obtain⟨c,c1,c2⟩:=h 0 (by decide)
    refine .one c1 ?_
    show (if c=48 then _ else if c∈D9 then _ else _)=_
    rw [if_neg (h0 c c1),if_pos c2]
  | k+2,h9,_,h,h0=>by
    refine (sum_run (k+1) (by lia) (by lia) (fun j hj=>h j (by lia)) h0).trans ?_
    obtain⟨c,c1,c2⟩:=h (k+1) (by lia)
    refine .one c1 ?_
    show (if c∈D9∧k+1≠9 then _ else _)=_
    rw [if_pos ⟨c2,by lia⟩]
theorem cut_take {l:List Nat} {a k:Nat} (h:a+k≤l.length) {g:List Nat} (hg:∀ j,j<k→∃ c,l[a+j]? = some c∧c∈g):∀ c∈(l.drop a).take k,c∈g:=fun c hc=>by
  obtain⟨j,hj,rfl⟩:=List.mem_iff_getElem.mp hc
  have hjk:j<k:=by rw [List.length_take] at hj;lia
  obtain⟨c,c1,c2⟩:=hg j hjk
  rw [List.getElem_take,List.getElem_drop]
  have:l[a+j]? = some (l[a+j]'(by lia)):=List.getElem?_eq_getElem _
  rw [c1] at this
  cases this
  exact c2
theorem dg_of:∀ (k:Nat) (ds:List Nat),ds.length=k→1≤k→(∀ c∈ds,c∈D9)→(k=1∨∀ c,ds[0]? = some c→c≠48)→∃ m,m<10 ^ k∧ds=dg m∧(2≤k→1≤m)
  | 0,_,_,h,_,_=>absurd h (by decide)
  | 1,ds,hl,_,hd,_=>by
    match ds,hl with
    | [c],_ =>
      have:=d_fig c (hd c (by simp))
      refine⟨c - 48,by lia,?_,fun z=>absurd z (by decide)⟩
      rw [dg_small (by lia)]
      congr 1
      lia
  | k+2,ds,hl,_,hd,h0=>by
    have hne:ds ≠ []:=fun z=>by rw [z] at hl;simp at hl
    have es:=(List.dropLast_concat_getLast hne).symm
    have hdl:ds.dropLast.length=k+1:=by rw [List.length_dropLast];lia
    have h00:∀ c,ds.dropLast[0]? = some c→c≠48:=fun c hc=>by
      refine (h0.resolve_left (by lia)) c ?_
      rw [es,List.getElem?_append_left (by rw [hdl];lia)]
      exact hc
    obtain⟨m,hm,em,h1⟩:=dg_of (k+1) ds.dropLast hdl (by lia) (fun c hc=>hd c (List.dropLast_subset _ hc)) (.inr h00)
    have hlast:=d_fig _ (hd _ (List.getLast_mem hne))
    have m1:1≤m:=by
      rcases Nat.eq_zero_or_pos m with z | z
      · exfalso
        subst z
        have:=h00 48 (by rw [em];rfl)
        exact this rfl
      · exact z
    generalize hg:ds.getLast hne=d at es hlast
    refine⟨10 * m+(d - 48),?_,?_,fun _=>by lia⟩
    · have:10 ^ (k+2)=10 * 10 ^ (k+1):=by rw [Nat.pow_succ];lia
      rw [this];lia
    · rw [es,em,dg_step (m:=10 * m+(d - 48)) (by lia)]
      have e1:(10 * m+(d - 48)) / 10=m:=by lia
      have e2:48+(10 * m+(d - 48)) % 10=d:=by lia
      rw [e1,e2]
def spMoreX (Cn:Addr):Sp:=fun vs H Q E=>∃ (l:List Nat) (a g:Nat),vs = [.str (mk l),.int (a:Int),.int (g:Int)]∧l.length≤500∧a≤l.length∧(1≤g∧g≤9)∧RX H Q E Cn l a (.sum 0)
abbrev st_read_more:Stmt:=top 18
theorem sc_read_more:FnScope ["template", "at", "gap", "first", "end"] ["template", "at", "gap"] (defScope st_read_more):=⟨rfl,rfl,rfl,by decide +kernel,rfl,by decide +kernel,by decide +kernel⟩
theorem ok_read_moreX {Cn:Addr} (D:Df K mg "read_more" st_read_more ["template", "at", "gap"]) (T:Txt mg) (C:CallsA6 P w K mg base Cn):CalX P w K mg base "read_more" 4 ["template", "at", "gap"] (spMoreX Cn):=by
  refine D.calX sc_read_more (fun vs H Q E h => ?_) (fun f cdv A outer s H vs Q E hr h => ?_)
  · obtain⟨l,a,g,rfl,_⟩:=h;rfl
  · obtain⟨l,a,g,rfl,hl,ha,hg,x⟩:=h
    obtain⟨_,g_FIGURES⟩:=T.FIGURES
    obtain⟨_,g_MOST_FIGURES⟩:=T.MOST_FIGURES
    refine⟨_,(@pss_cons _ _ _ _ _ (@ps_set _ _ (3) _ _ _ _ sc_read_more.nd rfl (by first | exact Or.inl rfl | exact Or.inr rfl) (pe_cX C.asked hr accX (@pa_cons _ _ _ _ _ (@pv _ 0 _ _ (by rfl) (by first | exact Or.inl rfl | exact Or.inr (Or.inl rfl) | exact Or.inr (Or.inr rfl)) (by decide) (by decide)) (@pa_cons _ _ _ _ _ (@pv _ 1 _ _ (by rfl) (by first | exact Or.inl rfl | exact Or.inr (Or.inl rfl) | exact Or.inr (Or.inr rfl)) (by decide) (by decide)) (@pa_cons _ _ _ _ _ (@pe_glob _ _ (.str (Str.ofString "0123456789")) _ _ (by rfl) g_FIGURES ⟨_,rfl⟩ (by decide)) pa_nil (by rfl)) (by rfl)) (by rfl))) (by rfl) (by first | exact .inl rfl | exact .inr rfl | assumption)) (@pss_cons _ _ _ _ _ (@ps_set _ _ (4) _ _ _ _ sc_read_more.nd rfl (by first | exact Or.inl rfl | exact Or.inr rfl) (@pe_c _ _ _ _ _ _ _ _ _ _ _ C.end_of hr (@pa_cons _ _ _ _ _ (@pv _ 0 _ _ (by rfl) (by first | exact Or.inl rfl | exact Or.inr (Or.inl rfl) | exact Or.inr (Or.inr rfl)) (by decide) (by decide)) (@pa_cons _ _ _ _ _ (@pv _ 1 _ _ (by rfl) (by first | exact Or.inl rfl | exact Or.inr (Or.inl rfl) | exact Or.inr (Or.inr rfl)) (by decide) (by decide)) (@pa_cons _ _ _ _ _ (@pe_glob _ _ (.str (Str.ofString "0123456789")) _ _ (by rfl) g_FIGURES ⟨_,rfl⟩ (by decide)) (@pa_cons _ _ _ _ _ (@pe_j _ _ _ (@pe_ifExp _ _ _ _ _ _ _ _ (@pt_cmpR _ _ _ _ _ _ _ _ (eq_k K rfl hr) (@pv _ 3 _ _ (by rfl) (by first | exact Or.inl rfl | exact Or.inr (Or.inl rfl) | exact Or.inr (Or.inr rfl)) (by decide) (by decide)) pe_str (nomark _)) pe_int (@pe_glob _ _ (.int 9) _ _ (by rfl) g_MOST_FIGURES ⟨_,rfl⟩ (by decide)))) pa_nil (by rfl)) (by rfl)) (by rfl)) (by rfl)) (by decide) (by rfl) (by decide) (by rfl) (by rfl)) (by rfl) (by first | exact .inl rfl | exact .inr rfl | assumption)) (@pss_cons _ _ _ _ _ (@ps_expr _ _ _ _ (pe_cX C.asked hr accX (@pa_cons _ _ _ _ _ (@pv _ 0 _ _ (by rfl) (by first | exact Or.inl rfl | exact Or.inr (Or.inl rfl) | exact Or.inr (Or.inr rfl)) (by decide) (by decide)) (@pa_cons _ _ _ _ _ (@pv _ 4 _ _ (by rfl) (by first | exact Or.inl rfl | exact Or.inr (Or.inl rfl) | exact Or.inr (Or.inr rfl)) (by decide) (by decide)) (@pa_cons _ _ _ _ _ pe_str pa_nil (by rfl)) (by rfl)) (by rfl))) (by rfl)) (@pss_one _ _ _ (@ps_ret _ _ _ _ (@pe_tup _ _ _ _ _ (@pa_cons _ _ _ _ _ (@pe_tup _ _ _ _ _ (@pa_cons _ _ _ _ _ pe_str (@pa_cons _ _ _ _ _ (@pv _ 2 _ _ (by rfl) (by first | exact Or.inl rfl | exact Or.inr (Or.inl rfl) | exact Or.inr (Or.inr rfl)) (by decide) (by decide)) (@pa_cons _ _ _ _ _ (@pe_callTy _ _ _ _ _ _ _ _ _ call_intU (by rfl) T.b_int (by decide +kernel) (@pa_cons _ _ _ _ _ (@pe_slice _ _ _ _ _ _ _ _ _ _ (sl_k K rfl) (@pv _ 0 _ _ (by rfl) (by first | exact Or.inl rfl | exact Or.inr (Or.inl rfl) | exact Or.inr (Or.inr rfl)) (by decide) (by decide)) (@po_some _ _ _ (@pv _ 1 _ _ (by rfl) (by first | exact Or.inl rfl | exact Or.inr (Or.inl rfl) | exact Or.inr (Or.inr rfl)) (by decide) (by decide))) (@po_some _ _ _ (@pv _ 4 _ _ (by rfl) (by first | exact Or.inl rfl | exact Or.inr (Or.inl rfl) | exact Or.inr (Or.inr rfl)) (by decide) (by decide)))) pa_nil (by rfl)) (by decide) (by decide) (by rfl) (by rfl)) pa_nil (by rfl)) (by rfl)) (by rfl))) (@pa_cons _ _ _ _ _ (@pe_op _ _ _ _ _ _ _ _ op_addU (@pv _ 4 _ _ (by rfl) (by first | exact Or.inl rfl | exact Or.inr (Or.inl rfl) | exact Or.inr (Or.inr rfl)) (by decide) (by decide)) pe_int) pa_nil (by rfl)) (by rfl)))))))),?_⟩
    have hlen:=mk_len l
    refine⟨_,rfl,_,rfl,l,a,_,rfl,by lia,by lia,fun c hc hg1 => ?_,fun hn => ?_⟩
    rotate_left
    · refine (x.no a ha (bad_at ha (by intro z;cases z) fun c hc => ?_)).up
      have hn' : ¬ c∈D9:=hn c hc
      show (if c=48 then some Sx.cls else if c∈D9 then some (Sx.sum 1) else none)=_
      rw [if_neg (fun z=>hn' (by rw [z];decide +kernel)),if_neg hn']
    have hlt:=lt_of hc
    have hc9:c∈D9:=hg1
    refine⟨_,rfl,_,rfl,?_⟩
    refine⟨fun v H' => H' = H∧((c=48∧v = .int 1)∨(c≠48∧v = .int 9)),?_,?_⟩
    rotate_left
    · refine⟨_,rfl,.inl ⟨rfl,_,rfl,?_⟩⟩
      rw [lit1 c 48 "0" (by decide +kernel)]
      refine ite2 (fun h=>⟨rfl,.inl ⟨of_decide_eq_true h,rfl⟩⟩) (fun h=>⟨rfl,.inr ⟨fun z=>h (decide_eq_true z),rfl⟩⟩)
    rintro v H' ⟨rfl,hv⟩
    obtain⟨most,rfl,hm⟩:∃ most:Nat,v = .int (most:Int)∧((c=48∧most=1)∨(c≠48∧most=9)):=by
      rcases hv with ⟨z,rfl⟩ | ⟨z,rfl⟩
      · exact⟨1,rfl,.inl ⟨z,rfl⟩⟩
      · exact⟨9,rfl,.inr ⟨z,rfl⟩⟩
    obtain⟨k,k1,k2,k3,k4⟩:=run_of D9 l a most ha
    have kp:1≤k:=by
      rcases Nat.eq_zero_or_pos k with z | z
      · exfalso
        subst z
        rcases k4 with k4 | k4 | ⟨c',c1,c2⟩
        · lia
        · lia
        · rw [Nat.add_zero,hc] at c1;cases c1;exact c2 hc9
      · exact z
    refine⟨l,a,most,k,_,rfl,by lia,k2,k1,k3,k4,?_⟩
    have st:∃ s1,Stp l a (.sum 0) (a+k) s1∧s1 ≠ .beh∧(∀ c',l[a+k]? = some c' → nx s1 c' = if c' = 125 then some .beh else none):=by
      rcases hm with ⟨z,rfl⟩ | ⟨z,rfl⟩
      · have ek:k=1:=by lia
        subst ek
        refine⟨.cls,.one hc ?_,(by intro z;cases z),fun c' _=>rfl⟩
        show (if c=48 then some Sx.cls else if c∈D9 then some (Sx.sum 1) else none)=_
        rw [if_pos z]
      · refine⟨.sum k,sum_run k k1 kp k3 (fun c' h' => by rw [hc] at h';cases h';exact z),(by intro z;cases z),fun c' hc' => ?_⟩
        obtain⟨k',rfl⟩:∃ k',k=k' + 1:=⟨k - 1,by lia⟩
        show (if c' ∈ D9∧k' + 1≠9 then some (Sx.sum (k' + 2)) else if c' = 125 then some Sx.beh else none)=_
        rw [if_neg]
        rintro ⟨y1,y2⟩
        rcases k4 with k4 | k4 | ⟨c2,c1,c3⟩
        · exact y2 k4
        · have:=lt_of hc';lia
        · rw [hc'] at c1;cases c1;exact c3 y1
    obtain⟨s1,st1,ns1,nx1⟩:=st
    refine⟨_,rfl,_,rfl,l,a+k,_,rfl,by lia,by lia,fun c2 hc2 hg2 => ?_,fun hn => ?_⟩
    rotate_left
    · refine (x.no (a+k) (by lia) (.via st1 (bad_at (by lia) ns1 fun c' hc' => ?_))).up
      rw [nx1 c' hc',if_neg (fun z=>hn c' hc' (by rw [z];exact brace'))]
    have e2:=brace hg2
    subst e2
    have hlt2:=lt_of hc2
    have htl:((l.drop a).take k).length=k:=by rw [List.length_take,List.length_drop];lia
    obtain⟨m,hm9,em,_⟩:=dg_of k _ htl kp (cut_take k2 k3) (by
      rcases hm with ⟨_,y⟩ | ⟨y,_⟩
      · exact .inl (by lia)
      · refine .inr fun c' h' => ?_
        rw [List.getElem?_take_of_lt (by lia),List.getElem?_drop,Nat.add_zero,hc] at h'
        cases h';exact y)
    have hm10:m<10 ^ 9:=Nat.lt_of_lt_of_le hm9 (Nat.pow_le_pow_right (by decide) (by rcases hm with ⟨_,y⟩ | ⟨_,y⟩ <;> lia))
    refine⟨_,rfl,_,rfl,_,rfl,_,rfl,_,rfl,_,rfl,.inl ⟨_,rfl,small (by lia),?_⟩⟩
    rw [slice_any (by lia) (by lia),show a+k - a=k from by lia,em]
    refine .inr ⟨_,_,rfl,dg_read (by lia),by rw [mk_len,← em,htl];lia,by show 3≤sizeLine;decide,fun T1 hT1=>⟨_,rfl,.inl ⟨_,_,rfl,rfl,by show 2≤sizeLine;decide,fun T2 hT2 => ?_⟩⟩⟩
    have rt:=x.go (.more g m) (a+k+1) .beh ⟨hg,hm10⟩ (by lia) (by lia) (st1.trans (.one hc2 (by rw [nx1 125 hc2,if_pos rfl]))) (mark_end hc2) ⟨(fun z=>by cases z),(fun z=>by cases z)⟩
    exact rt.go (by show ((a+k:Nat):Int)+1=((a+k+1:Nat):Int);lia) hT1 hT2
end
end K
set_option maxHeartbeats 4000000
namespace K
open PySem L2 TX
section
variable {P:Program} {w:World} {K:PySem.W.Frag} {mg:Str→Option Value} {base:Heap}
structure CallsG6 (P:Program) (w:World) (K:PySem.W.Frag) (mg:Str→Option Value) (base:Heap) (Cn:Addr):Prop where
  asked:CalX P w K mg base "asked" 3 ["template", "at", "signs"] (spAskedX Cn)
  read_noughts:CalX P w K mg base "read_noughts" 4 ["template", "at", "gap"] (spNoughtsX Cn)
  read_more:CalX P w K mg base "read_more" 4 ["template", "at", "gap"] (spMoreX Cn)
  cases_:∃ d,mg "CASES" = some (.ref d)∧KDict P w K d casesKV
theorem RX.step {H:Hp} {Q:VK} {E:XK} {Cn:Addr} {l:List Nat} {a c:Nat} {s s1:Sx} (x:RX H Q E Cn l a s) (h1:l[a]? = some c) (h2:nx s c=some s1):RX H Q E Cn l (a+1) s1 :=
  ⟨fun p e s' ok h3 h4 h5 h6 h7=>x.go p e s' ok (by lia) h4 (.step h1 h2 h5) h6 h7,fun i h3 h4=>x.no i h3 (.step h1 h2 h4)⟩
theorem RX.up {H:Hp} {Q:VK} {E:XK} {Cn:Addr} {l:List Nat} {a:Nat} {s:Sx} (x:RX H Q E Cn l a s):RX H Q (fun e _ H' => ∀ ea,e = .ref ea→E (.ref ea) none H') Cn l a s :=
  ⟨x.go,fun i h1 h2=>(x.no i h1 h2).up⟩
theorem gap_in:∀ c,c∈tl (Str.ofString "}ulz+")↔c=125∨c=117∨c=108∨c=122∨c=43:=fun c=>by
  rw [show tl (Str.ofString "}ulz+") = [125,117,108,122,43] from by decide +kernel]
  simp
def spGapX (Cn:Addr):Sp:=fun vs H Q E=>∃ (l:List Nat) (a g:Nat),vs = [.str (mk l),.int (a:Int),.int (g:Int)]∧l.length≤500∧a≤l.length∧(1≤g∧g≤9)∧RX H Q E Cn l a .gap
abbrev st_read_gap:Stmt:=top 19
theorem sc_read_gap:FnScope ["template", "at", "gap", "sign"] ["template", "at", "gap"] (defScope st_read_gap):=⟨rfl,rfl,rfl,by decide +kernel,rfl,by decide +kernel,by decide +kernel⟩
theorem ok_read_gapX {Cn:Addr} (D:Df K mg "read_gap" st_read_gap ["template", "at", "gap"]) (T:Txt mg) (C:CallsG6 P w K mg base Cn):CalX P w K mg base "read_gap" 5 ["template", "at", "gap"] (spGapX Cn):=by
  refine D.calX sc_read_gap (fun vs H Q E h => ?_) (fun f cdv A outer s H vs Q E hr h => ?_)
  · obtain⟨l,a,g,rfl,_⟩:=h;rfl
  · obtain⟨l,a,g,rfl,hl,ha,hg,x⟩:=h
    obtain⟨dC,g_CASES,k_CASES⟩:=C.cases_
    refine⟨_,(@pss_cons _ _ _ _ _ (@ps_set _ _ (3) _ _ _ _ sc_read_gap.nd rfl (by first | exact Or.inl rfl | exact Or.inr rfl) (pe_cX C.asked hr accX (@pa_cons _ _ _ _ _ (@pv _ 0 _ _ (by rfl) (by first | exact Or.inl rfl | exact Or.inr (Or.inl rfl) | exact Or.inr (Or.inr rfl)) (by decide) (by decide)) (@pa_cons _ _ _ _ _ (@pv _ 1 _ _ (by rfl) (by first | exact Or.inl rfl | exact Or.inr (Or.inl rfl) | exact Or.inr (Or.inr rfl)) (by decide) (by decide)) (@pa_cons _ _ _ _ _ pe_str pa_nil (by rfl)) (by rfl)) (by rfl))) (by rfl) (by first | exact .inl rfl | exact .inr rfl | assumption)) (@pss_cons _ _ _ _ _ (@ps_if _ _ _ _ _ _ _ _ (@pt_cmpR _ _ _ _ _ _ _ _ (eq_k K rfl hr) (@pv _ 3 _ _ (by rfl) (by first | exact Or.inl rfl | exact Or.inr (Or.inl rfl) | exact Or.inr (Or.inr rfl)) (by decide) (by decide)) pe_str (nomark _)) (@pss_one _ _ _ (@ps_ret _ _ _ _ (@pe_tup _ _ _ _ _ (@pa_cons _ _ _ _ _ (@pe_tup _ _ _ _ _ (@pa_cons _ _ _ _ _ pe_str (@pa_cons _ _ _ _ _ (@pv _ 2 _ _ (by rfl) (by first | exact Or.inl rfl | exact Or.inr (Or.inl rfl) | exact Or.inr (Or.inr rfl)) (by decide) (by decide)) pa_nil (by rfl)) (by rfl))) (@pa_cons _ _ _ _ _ (@pe_op _ _ _ _ _ _ _ _ op_addU (@pv _ 1 _ _ (by rfl) (by first | exact Or.inl rfl | exact Or.inr (Or.inl rfl) | exact Or.inr (Or.inr rfl)) (by decide) (by decide)) pe_int) pa_nil (by rfl)) (by rfl))))) pss_nil) (@pss_cons _ _ _ _ _ (@ps_if _ _ _ _ _ _ _ _ (@pt_cmpR _ _ _ _ _ _ _ _ (eq_k K rfl hr) (@pv _ 3 _ _ (by rfl) (by first | exact Or.inl rfl | exact Or.inr (Or.inl rfl) | exact Or.inr (Or.inr rfl)) (by decide) (by decide)) pe_str (nomark _)) (@pss_one _ _ _ (@ps_ret _ _ _ _ (pe_cX C.read_noughts hr accX (@pa_cons _ _ _ _ _ (@pv _ 0 _ _ (by rfl) (by first | exact Or.inl rfl | exact Or.inr (Or.inl rfl) | exact Or.inr (Or.inr rfl)) (by decide) (by decide)) (@pa_cons _ _ _ _ _ (@pe_op _ _ _ _ _ _ _ _ op_addU (@pv _ 1 _ _ (by rfl) (by first | exact Or.inl rfl | exact Or.inr (Or.inl rfl) | exact Or.inr (Or.inr rfl)) (by decide) (by decide)) pe_int) (@pa_cons _ _ _ _ _ (@pv _ 2 _ _ (by rfl) (by first | exact Or.inl rfl | exact Or.inr (Or.inl rfl) | exact Or.inr (Or.inr rfl)) (by decide) (by decide)) pa_nil (by rfl)) (by rfl)) (by rfl))))) pss_nil) (@pss_cons _ _ _ _ _ (@ps_if _ _ _ _ _ _ _ _ (@pt_cmpR _ _ _ _ _ _ _ _ (eq_k K rfl hr) (@pv _ 3 _ _ (by rfl) (by first | exact Or.inl rfl | exact Or.inr (Or.inl rfl) | exact Or.inr (Or.inr rfl)) (by decide) (by decide)) pe_str (nomark _)) (@pss_one _ _ _ (@ps_ret _ _ _ _ (pe_cX C.read_more hr accX (@pa_cons _ _ _ _ _ (@pv _ 0 _ _ (by rfl) (by first | exact Or.inl rfl | exact Or.inr (Or.inl rfl) | exact Or.inr (Or.inr rfl)) (by decide) (by decide)) (@pa_cons _ _ _ _ _ (@pe_op _ _ _ _ _ _ _ _ op_addU (@pv _ 1 _ _ (by rfl) (by first | exact Or.inl rfl | exact Or.inr (Or.inl rfl) | exact Or.inr (Or.inr rfl)) (by decide) (by decide)) pe_int) (@pa_cons _ _ _ _ _ (@pv _ 2 _ _ (by rfl) (by first | exact Or.inl rfl | exact Or.inr (Or.inl rfl) | exact Or.inr (Or.inr rfl)) (by decide) (by decide)) pa_nil (by rfl)) (by rfl)) (by rfl))))) pss_nil) (@pss_cons _ _ _ _ _ (@ps_expr _ _ _ _ (pe_cX C.asked hr accX (@pa_cons _ _ _ _ _ (@pv _ 0 _ _ (by rfl) (by first | exact Or.inl rfl | exact Or.inr (Or.inl rfl) | exact Or.inr (Or.inr rfl)) (by decide) (by decide)) (@pa_cons _ _ _ _ _ (@pe_op _ _ _ _ _ _ _ _ op_addU (@pv _ 1 _ _ (by rfl) (by first | exact Or.inl rfl | exact Or.inr (Or.inl rfl) | exact Or.inr (Or.inr rfl)) (by decide) (by decide)) pe_int) (@pa_cons _ _ _ _ _ pe_str pa_nil (by rfl)) (by rfl)) (by rfl))) (by rfl)) (@pss_one _ _ _ (@ps_ret _ _ _ _ (@pe_tup _ _ _ _ _ (@pa_cons _ _ _ _ _ (@pe_tup _ _ _ _ _ (@pa_cons _ _ _ _ _ (@pe_kget _ _ _ _ _ _ _ _ (by rfl) g_CASES k_CASES (@pv _ 3 _ _ (by rfl) (by first | exact Or.inl rfl | exact Or.inr (Or.inl rfl) | exact Or.inr (Or.inr rfl)) (by decide) (by decide)) (fun _ _=>rfl) (by decide)) (@pa_cons _ _ _ _ _ (@pv _ 2 _ _ (by rfl) (by first | exact Or.inl rfl | exact Or.inr (Or.inl rfl) | exact Or.inr (Or.inr rfl)) (by decide) (by decide)) pa_nil (by rfl)) (by rfl))) (@pa_cons _ _ _ _ _ (@pe_op _ _ _ _ _ _ _ _ op_addU (@pv _ 1 _ _ (by rfl) (by first | exact Or.inl rfl | exact Or.inr (Or.inl rfl) | exact Or.inr (Or.inr rfl)) (by decide) (by decide)) pe_int) pa_nil (by rfl)) (by rfl)))))))))),?_⟩
    have hnx:∀ c,nx .gap c=if c=117∨c=108 then some Sx.cls else if c=122 then some Sx.nou else if c=43 then some (Sx.sum 0) else if c=125 then some Sx.beh else none:=fun c=>rfl
    refine⟨_,rfl,_,rfl,l,a,_,rfl,by lia,by lia,fun c hc hg1 => ?_,fun hn => ?_⟩
    rotate_left
    · refine (x.no a ha (bad_at ha (by intro z;cases z) fun c hc => ?_)).up
      have hn' := hn c hc
      rw [gap_in] at hn'
      rw [hnx,if_neg (fun z=>hn' (.inr (z.elim .inl fun y => .inr (.inl y)))),if_neg (fun z=>hn' (.inr (.inr (.inr (.inl z))))),if_neg (fun z=>hn' (.inr (.inr (.inr (.inr z))))),if_neg (fun z=>hn' (.inl z))]
    have hlt:=lt_of hc
    rw [gap_in] at hg1
    refine⟨_,rfl,.inl ⟨rfl,_,rfl,?_⟩⟩
    rw [lit1 c 125 "}" (by decide +kernel)]
    refine ite2 (fun h => ?_) (fun h => ?_)
    · have e:=of_decide_eq_true h
      subst e
      refine⟨_,rfl,by show 2≤sizeLine;decide,fun T1 hT1=>⟨_,rfl,.inl ⟨_,_,rfl,rfl,by show 2≤sizeLine;decide,fun T2 hT2 => ?_⟩⟩⟩
      have rt:=x.go (.gap g) (a+1) .beh hg (by lia) (by lia) (.one hc (by rw [hnx];rfl)) (mark_end hc) ⟨(fun z=>by cases z),(fun z=>by cases z)⟩
      exact rt.go (by show (a:Int)+1=((a+1:Nat):Int);lia) hT1 hT2
    have n1:c≠125:=fun z=>h (decide_eq_true z)
    refine⟨_,rfl,.inl ⟨rfl,_,rfl,?_⟩⟩
    rw [lit1 c 122 "z" (by decide +kernel)]
    refine ite2 (fun h => ?_) (fun h => ?_)
    · have e:=of_decide_eq_true h
      subst e
      exact⟨_,rfl,_,rfl,.inl ⟨_,_,rfl,rfl,_,rfl,l,a+1,g,rfl,hl,hlt,hg,(x.step hc (by rw [hnx];rfl)).up⟩⟩
    have n2:c≠122:=fun z=>h (decide_eq_true z)
    refine⟨_,rfl,.inl ⟨rfl,_,rfl,?_⟩⟩
    rw [lit1 c 43 "+" (by decide +kernel)]
    refine ite2 (fun h => ?_) (fun h => ?_)
    · have e:=of_decide_eq_true h
      subst e
      exact⟨_,rfl,_,rfl,.inl ⟨_,_,rfl,rfl,_,rfl,l,a+1,g,rfl,hl,hlt,hg,(x.step hc (by rw [hnx];rfl)).up⟩⟩
    have n3:c≠43:=fun z=>h (decide_eq_true z)
    have hul:c=117∨c=108:=by
      rcases hg1 with z | z | z | z | z
      · exact absurd z n1
      · exact .inl z
      · exact .inr z
      · exact absurd z n2
      · exact absurd z n3
    have st1:Stp l a .gap (a+1) .cls := .one hc (by rw [hnx,if_pos hul])
    refine⟨_,rfl,_,rfl,.inl ⟨_,_,rfl,rfl,l,a+1,_,rfl,by lia,by lia,fun c2 hc2 hg2 => ?_,fun hn=>(cls_end x st1 (by lia) hn).up⟩⟩
    have e2:=brace hg2
    subst e2
    have hlt2:=lt_of hc2
    rcases hul with e | e
    · subst e
      refine⟨_,rfl,Sum.inr (Str.ofString "u"),.str (Str.ofString "great"),congrArg V.str (by decide +kernel:mk [117]=Str.ofString "u"),by decide +kernel,_,rfl,by show 2≤sizeLine;decide,fun T1 hT1=>⟨_,rfl,.inl ⟨_,_,rfl,rfl,by show 2≤sizeLine;decide,fun T2 hT2 => ?_⟩⟩⟩
      have rt:=x.go (.great g) (a+2) .beh hg (by lia) (by lia) (st1.trans (.one hc2 rfl)) (mark_end hc2) ⟨(fun z=>by cases z),(fun z=>by cases z)⟩
      exact rt.go (by show (a:Int)+2=((a+2:Nat):Int);lia) hT1 hT2
    · subst e
      refine⟨_,rfl,Sum.inr (Str.ofString "l"),.str (Str.ofString "small"),congrArg V.str (by decide +kernel:mk [108]=Str.ofString "l"),by decide +kernel,_,rfl,by show 2≤sizeLine;decide,fun T1 hT1=>⟨_,rfl,.inl ⟨_,_,rfl,rfl,by show 2≤sizeLine;decide,fun T2 hT2 => ?_⟩⟩⟩
      have rt:=x.go (.small g) (a+2) .beh hg (by lia) (by lia) (st1.trans (.one hc2 rfl)) (mark_end hc2) ⟨(fun z=>by cases z),(fun z=>by cases z)⟩
      exact rt.go (by show (a:Int)+2=((a+2:Nat):Int);lia) hT1 hT2
end
end K
set_option maxHeartbeats 4000000
namespace K
open PySem L2 TX
section
variable {P:Program} {w:World} {K:PySem.W.Frag} {mg:Str→Option Value} {base:Heap}
structure CallsM6 (P:Program) (w:World) (K:PySem.W.Frag) (mg:Str→Option Value) (base:Heap) (Cn:Addr):Prop where
  asked:CalX P w K mg base "asked" 3 ["template", "at", "signs"] (spAskedX Cn)
  read_count:CalX P w K mg base "read_count" 4 ["template", "at"] (spCountX Cn)
  read_gap:CalX P w K mg base "read_gap" 5 ["template", "at", "gap"] (spGapX Cn)
def spMarkX (Cn:Addr):Sp:=fun vs H Q E=>∃ (l:List Nat) (a:Nat),vs = [.str (mk l),.int (a:Int)]∧l.length≤500∧a≤l.length∧RX H Q E Cn l a .opn
abbrev st_read_mark:Stmt:=top 20
theorem sc_read_mark:FnScope ["template", "at", "sign"] ["template", "at"] (defScope st_read_mark):=⟨rfl,rfl,rfl,by decide +kernel,rfl,by decide +kernel,by decide +kernel⟩
theorem ok_read_markX {Cn:Addr} (D:Df K mg "read_mark" st_read_mark ["template", "at"]) (T:Txt mg) (C:CallsM6 P w K mg base Cn):CalX P w K mg base "read_mark" 6 ["template", "at"] (spMarkX Cn):=by
  refine D.calX sc_read_mark (fun vs H Q E h => ?_) (fun f cdv A outer s H vs Q E hr h => ?_)
  · obtain⟨l,a,rfl,_⟩:=h;rfl
  · obtain⟨l,a,rfl,hl,ha,x⟩:=h
    obtain⟨_,g_FROM_ONE⟩:=T.FROM_ONE
    refine⟨_,(@pss_cons _ _ _ _ _ (@ps_set _ _ (2) _ _ _ _ sc_read_mark.nd rfl (by first | exact Or.inl rfl | exact Or.inr rfl) (pe_cX C.asked hr accX (@pa_cons _ _ _ _ _ (@pv _ 0 _ _ (by rfl) (by first | exact Or.inl rfl | exact Or.inr (Or.inl rfl) | exact Or.inr (Or.inr rfl)) (by decide) (by decide)) (@pa_cons _ _ _ _ _ (@pv _ 1 _ _ (by rfl) (by first | exact Or.inl rfl | exact Or.inr (Or.inl rfl) | exact Or.inr (Or.inr rfl)) (by decide) (by decide)) (@pa_cons _ _ _ _ _ (@pe_op _ _ _ _ _ _ _ _ op_addU pe_str (@pe_glob _ _ (.str (Str.ofString "123456789")) _ _ (by rfl) g_FROM_ONE ⟨_,rfl⟩ (by decide))) pa_nil (by rfl)) (by rfl)) (by rfl))) (by rfl) (by first | exact .inl rfl | exact .inr rfl | assumption)) (@pss_cons _ _ _ _ _ (@ps_if _ _ _ _ _ _ _ _ (@pt_cmpR _ _ _ _ _ _ _ _ (eq_k K rfl hr) (@pv _ 2 _ _ (by rfl) (by first | exact Or.inl rfl | exact Or.inr (Or.inl rfl) | exact Or.inr (Or.inr rfl)) (by decide) (by decide)) pe_str (nomark _)) (@pss_one _ _ _ (@ps_ret _ _ _ _ (pe_cX C.read_count hr accX (@pa_cons _ _ _ _ _ (@pv _ 0 _ _ (by rfl) (by first | exact Or.inl rfl | exact Or.inr (Or.inl rfl) | exact Or.inr (Or.inr rfl)) (by decide) (by decide)) (@pa_cons _ _ _ _ _ (@pe_op _ _ _ _ _ _ _ _ op_addU (@pv _ 1 _ _ (by rfl) (by first | exact Or.inl rfl | exact Or.inr (Or.inl rfl) | exact Or.inr (Or.inr rfl)) (by decide) (by decide)) pe_int) pa_nil (by rfl)) (by rfl))))) pss_nil) (@pss_one _ _ _ (@ps_ret _ _ _ _ (pe_cX C.read_gap hr accX (@pa_cons _ _ _ _ _ (@pv _ 0 _ _ (by rfl) (by first | exact Or.inl rfl | exact Or.inr (Or.inl rfl) | exact Or.inr (Or.inr rfl)) (by decide) (by decide)) (@pa_cons _ _ _ _ _ (@pe_op _ _ _ _ _ _ _ _ op_addU (@pv _ 1 _ _ (by rfl) (by first | exact Or.inl rfl | exact Or.inr (Or.inl rfl) | exact Or.inr (Or.inr rfl)) (by decide) (by decide)) pe_int) (@pa_cons _ _ _ _ _ (@pe_callTy _ _ _ _ _ _ _ _ _ call_intU (by rfl) T.b_int (by decide +kernel) (@pa_cons _ _ _ _ _ (@pv _ 2 _ _ (by rfl) (by first | exact Or.inl rfl | exact Or.inr (Or.inl rfl) | exact Or.inr (Or.inr rfl)) (by decide) (by decide)) pa_nil (by rfl)) (by decide) (by decide) (by rfl) (by rfl)) pa_nil (by rfl)) (by rfl)) (by rfl))))))),?_⟩
    have e9:(Str.ofString "n").length+(Str.ofString "123456789").length≤1000:=by decide +kernel
    have hin:∀ c,c∈tl (Str.ofString "n" ++ Str.ofString "123456789")↔c=110∨c∈D1:=fun c=>by
      rw [tl_app,List.mem_append,show tl (Str.ofString "n") = [110] from by decide +kernel,List.mem_singleton]
      exact Iff.rfl
    have hnx:∀ c,nx .opn c=if c=110 then some Sx.cnt else if c∈D1 then some Sx.gap else none:=fun c=>rfl
    refine⟨_,rfl,_,rfl,.inr (.inl ⟨_,_,rfl,rfl,TX.small (by lia),l,a,_,rfl,by lia,by lia,fun c hc hg => ?_,fun hn => ?_⟩)⟩
    rotate_left
    · refine (x.no a ha (bad_at ha (by intro z;cases z) fun c hc => ?_)).up
      have:=hn c hc
      rw [hin] at this
      rw [hnx,if_neg (fun z=>this (.inl z)),if_neg (fun z=>this (.inr z))]
    have hlt:=lt_of hc
    refine⟨_,rfl,.inl ⟨rfl,_,rfl,?_⟩⟩
    rw [lit1 c 110 "n" (by decide +kernel)]
    refine ite2 (fun h => ?_) (fun h => ?_)
    · have e:=of_decide_eq_true h
      subst e
      exact⟨_,rfl,_,rfl,.inl ⟨_,_,rfl,rfl,l,a+1,rfl,hl,hlt,(x.step hc (by rw [hnx,if_pos rfl])).up⟩⟩
    · have n1:c≠110:=fun z=>h (decide_eq_true z)
      have hc1:=((hin c).mp hg).resolve_left n1
      have x1:=x.step hc (by rw [hnx,if_neg n1,if_pos hc1])
      obtain⟨v,rfl,hv1,hv9⟩:=dig hc1
      exact⟨_,rfl,_,rfl,.inl ⟨_,_,rfl,rfl,_,rfl,.inr ⟨_,_,rfl,int_dg (by lia),by rw [mk_len];show 1≤640;decide,l,a+1,v,rfl,hl,hlt,⟨hv1,hv9⟩,x1.up⟩⟩⟩
def spIntoX (Cn:Addr):Sp:=fun vs H Q E=>∃ (l:List Nat) (a:Nat) (s:Sx),vs = [.str (mk l),.int (a:Int)]∧l.length≤500∧l[a]? = some 47∧Prev l a s∧RX H Q E Cn l a s
theorem nx47 {s:Sx} {l:List Nat} {a:Nat} (p:Prev l a s):(s = .beh→nx s 47=some .into)∧(s ≠ .beh→nx s 47=none):=by
  rcases p with ⟨rfl,_⟩ | ⟨rfl,_⟩ | ⟨rfl,_⟩
  · refine⟨(fun z=>by cases z),fun _ => ?_⟩
    show (if 47∈NS then some Sx.beh else if 47=123 then some Sx.opn else none)=_
    rw [if_neg no47,if_neg (by decide)]
  · refine⟨(fun z=>by cases z),fun _ => ?_⟩
    show (if 47∈NS then some Sx.beh else if 47=123 then some Sx.opn else none)=_
    rw [if_neg no47,if_neg (by decide)]
  · refine⟨fun _ => ?_,fun z=>absurd rfl z⟩
    show (if 47∈NS then some Sx.beh else if 47=123 then some Sx.opn else if 47=47 then some Sx.into else none)=_
    rw [if_neg no47,if_neg (by decide),if_pos rfl]
abbrev st_read_into:Stmt:=top 21
theorem sc_read_into:FnScope ["template", "at"] ["template", "at"] (defScope st_read_into):=⟨rfl,rfl,rfl,by decide +kernel,rfl,by decide +kernel,by decide +kernel⟩
theorem ok_read_intoX {Cn:Addr} (D:Df K mg "read_into" st_read_into ["template", "at"]) (T:Txt mg) (C:CallsN P w K mg base Cn):CalX P w K mg base "read_into" 3 ["template", "at"] (spIntoX Cn):=by
  refine D.calX sc_read_into (fun vs H Q E h => ?_) (fun f cdv A outer s H vs Q E hr h => ?_)
  · obtain⟨l,a,s,rfl,_⟩:=h;rfl
  · obtain⟨l,a,st,rfl,hl,hc,pvv,x⟩:=h
    refine⟨_,(@pss_cons _ _ _ _ _ (@ps_if _ _ _ _ _ _ _ _ (@pt_j _ _ _ (@PW.pt _ _ _ (@pw_or _ _ _ _ _ _ _ (@pt_cmpR _ _ _ _ _ _ _ _ (eq_k K rfl hr) (@pv _ 1 _ _ (by rfl) (by first | exact Or.inl rfl | exact Or.inr (Or.inl rfl) | exact Or.inr (Or.inr rfl)) (by decide) (by decide)) pe_int (nomark _)) (@pw_or1 _ _ _ _ (@pt_cmpR _ _ _ _ _ _ _ _ (eq_k K rfl hr) (@pe_ix _ _ _ _ _ _ _ (ix_k K rfl) (@pv _ 0 _ _ (by rfl) (by first | exact Or.inl rfl | exact Or.inr (Or.inl rfl) | exact Or.inr (Or.inr rfl)) (by decide) (by decide)) (@pe_op _ _ _ _ _ _ _ _ op_sub (@pv _ 1 _ _ (by rfl) (by first | exact Or.inl rfl | exact Or.inr (Or.inl rfl) | exact Or.inr (Or.inr rfl)) (by decide) (by decide)) pe_int) (fun _ _=>rfl)) pe_str (nomark _)))))) (@pss_one _ _ _ (ps_rs C.e_NoTemplate hr accX rfl (@pa_cons _ _ _ _ _ (@pv _ 1 _ _ (by rfl) (by first | exact Or.inl rfl | exact Or.inr (Or.inl rfl) | exact Or.inr (Or.inr rfl)) (by decide) (by decide)) pa_nil (by rfl)))) pss_nil) (@pss_one _ _ _ (@ps_ret _ _ _ _ (@pe_tup _ _ _ _ _ (@pa_cons _ _ _ _ _ (@pe_tup _ _ _ _ _ (@pa_cons _ _ _ _ _ pe_str pa_nil (by rfl))) (@pa_cons _ _ _ _ _ (@pe_op _ _ _ _ _ _ _ _ op_addU (@pv _ 1 _ _ (by rfl) (by first | exact Or.inl rfl | exact Or.inr (Or.inl rfl) | exact Or.inr (Or.inr rfl)) (by decide) (by decide)) pe_int) pa_nil (by rfl)) (by rfl)))))),?_⟩
    have hlen:=mk_len l
    have hlt:=lt_of hc
    refine⟨fun b H' => H' = H∧(b=true↔st ≠ .beh),?_,?_⟩
    rotate_left
    · refine⟨_,rfl,.inl ⟨rfl,_,rfl,?_⟩⟩
      rcases pvv with ⟨rfl,rfl⟩ | ⟨rfl,ha,hp⟩ | ⟨rfl,ha,c,hp,hn⟩
      · exact iteT ⟨rfl,(fun _ z=>by cases z),fun _=>rfl⟩
      · rw [decide_eq_false (by intro z;injection z with z;lia)]
        refine iteF ⟨_,rfl,_,rfl,_,_,rfl,rfl,.inr (.inr ⟨mk l,_,47,rfl,rfl,TX.small (by lia),?_,.inl ⟨rfl,_,rfl,rfl,?_⟩⟩)⟩
        · rw [show ((a:Nat):Int) - 1=((a - 1:Nat):Int) from by lia]
          exact atI_nat (show (tl (mk l))[a - 1]? = _ by rw [tl_mk];exact hp)
        · show decide (V.str (mk [47])=V.str (Str.ofString "/"))=true↔_
          rw [lit1 47 47 "/" (by decide +kernel),decide_eq_true rfl]
          exact⟨(fun _ z=>by cases z),fun _=>rfl⟩
      · rw [decide_eq_false (by intro z;injection z with z;lia)]
        refine iteF ⟨_,rfl,_,rfl,_,_,rfl,rfl,.inr (.inr ⟨mk l,_,c,rfl,rfl,TX.small (by lia),?_,.inl ⟨rfl,_,rfl,rfl,?_⟩⟩)⟩
        · rw [show ((a:Nat):Int) - 1=((a - 1:Nat):Int) from by lia]
          exact atI_nat (show (tl (mk l))[a - 1]? = _ by rw [tl_mk];exact hp)
        · show decide (V.str (mk [c])=V.str (Str.ofString "/"))=true↔_
          rw [lit1 c 47 "/" (by decide +kernel),decide_eq_false hn]
          exact⟨(fun z=>by cases z),fun z=>absurd rfl z⟩
    rintro b H' ⟨rfl,hb⟩
    refine iteB (fun h => ?_) (fun h => ?_)
    · refine⟨_,rfl,fun ea hea=>⟨ea,_,rfl,upd_same,⟨a,rfl,by lia⟩,fun d hd hne=>⟨rfl,?_⟩⟩⟩
      obtain⟨dd,r1,r2⟩:=raised1 (f := "at") (v := .int ((a:Nat):Int)) hd hne
      refine⟨dd,r1,x.no a (by lia) ⟨st,.refl,.inr ⟨47,hc,?_⟩⟩ ea _ (same_raised (Same.refl H') hea hd) hea r2⟩
      exact (nx47 pvv).2 (hb.mp h)
    · have hs:st = .beh:=Classical.byContradiction fun z=>by rw [hb.mpr z] at h;cases h
      refine⟨by show 1≤sizeLine;decide,fun T1 hT1=>⟨_,rfl,.inl ⟨_,_,rfl,rfl,by show 2≤sizeLine;decide,fun T2 hT2 => ?_⟩⟩⟩
      have rt:=x.go .into (a+1) .into trivial (by lia) (by lia) (.one hc ((nx47 pvv).1 hs)) (.inr (.inl ⟨rfl,by lia,by rw [Nat.add_sub_cancel];exact hc⟩)) ⟨fun _=>rfl,fun _=>rfl⟩
      exact rt.go (by show (a:Int)+1=((a+1:Nat):Int);lia) hT1 hT2
theorem Prev.three {l:List Nat} {a:Nat} {s:Sx} (p:Prev l a s):s = .beg∨s = .into∨s = .beh:=by
  rcases p with ⟨z,_⟩ | ⟨z,_⟩ | ⟨z,_⟩
  · exact .inl z
  · exact .inr (.inl z)
  · exact .inr (.inr z)
theorem nx_ns {s:Sx} {c:Nat} (h:s = .beg∨s = .into∨s = .beh) (hc:c∈NS):nx s c=some .beh:=by
  rcases h with rfl | rfl | rfl
  · exact if_pos hc
  · exact if_pos hc
  · exact if_pos hc
theorem ns_run {l:List Nat} {a:Nat} {s:Sx} (hs:s = .beg∨s = .into∨s = .beh):∀ (k:Nat),1≤k→(∀ j,j<k→∃ c,l[a+j]? = some c∧c∈NS)→Stp l a s (a+k) .beh
  | 0,h,_=>absurd h (by decide)
  | 1,_,h=>by
    obtain⟨c,c1,c2⟩:=h 0 (by decide)
    exact .one c1 (nx_ns hs c2)
  | k+2,_,h=>by
    refine (ns_run hs (k+1) (by lia) fun j hj=>h j (by lia)).trans ?_
    obtain⟨c,c1,c2⟩:=h (k+1) (by lia)
    exact .one c1 (nx_ns (.inr (.inr rfl)) c2)
def spTextX (Cn:Addr):Sp:=fun vs H Q E=>∃ (l:List Nat) (a c0:Nat) (s:Sx),vs = [.str (mk l),.int (a:Int)]∧l.length≤500∧l[a]? = some c0∧c0≠47∧c0≠123∧Prev l a s∧RX H Q E Cn l a s
abbrev st_read_text:Stmt:=top 22
theorem sc_read_text:FnScope ["template", "at", "end"] ["template", "at"] (defScope st_read_text):=⟨rfl,rfl,rfl,by decide +kernel,rfl,by decide +kernel,by decide +kernel⟩
theorem ok_read_textX {Cn:Addr} (D:Df K mg "read_text" st_read_text ["template", "at"]) (T:Txt mg) (C:CallsA6 P w K mg base Cn):CalX P w K mg base "read_text" 4 ["template", "at"] (spTextX Cn):=by
  refine D.calX sc_read_text (fun vs H Q E h => ?_) (fun f cdv A outer s H vs Q E hr h => ?_)
  · obtain⟨l,a,c0,s,rfl,_⟩:=h;rfl
  · obtain⟨l,a,c0,st,rfl,hl,hc0,n47,n123,pvv,x⟩:=h
    obtain⟨_,g_NAME_SIGNS⟩:=T.NAME_SIGNS
    refine⟨_,(@pss_cons _ _ _ _ _ (@ps_expr _ _ _ _ (pe_cX C.asked hr accX (@pa_cons _ _ _ _ _ (@pv _ 0 _ _ (by rfl) (by first | exact Or.inl rfl | exact Or.inr (Or.inl rfl) | exact Or.inr (Or.inr rfl)) (by decide) (by decide)) (@pa_cons _ _ _ _ _ (@pv _ 1 _ _ (by rfl) (by first | exact Or.inl rfl | exact Or.inr (Or.inl rfl) | exact Or.inr (Or.inr rfl)) (by decide) (by decide)) (@pa_cons _ _ _ _ _ (@pe_glob _ _ (.str (Str.ofString "abcdefghijklmnopqrstuvwxyzABCDEFGHIJKLMNOPQRSTUVWXYZ0123456789-_.")) _ _ (by rfl) g_NAME_SIGNS ⟨_,rfl⟩ (by decide)) pa_nil (by rfl)) (by rfl)) (by rfl))) (by rfl)) (@pss_cons _ _ _ _ _ (@ps_set _ _ (2) _ _ _ _ sc_read_text.nd rfl (by first | exact Or.inl rfl | exact Or.inr rfl) (@pe_c _ _ _ _ _ _ _ _ _ _ _ C.end_of hr (@pa_cons _ _ _ _ _ (@pv _ 0 _ _ (by rfl) (by first | exact Or.inl rfl | exact Or.inr (Or.inl rfl) | exact Or.inr (Or.inr rfl)) (by decide) (by decide)) (@pa_cons _ _ _ _ _ (@pv _ 1 _ _ (by rfl) (by first | exact Or.inl rfl | exact Or.inr (Or.inl rfl) | exact Or.inr (Or.inr rfl)) (by decide) (by decide)) (@pa_cons _ _ _ _ _ (@pe_glob _ _ (.str (Str.ofString "abcdefghijklmnopqrstuvwxyzABCDEFGHIJKLMNOPQRSTUVWXYZ0123456789-_.")) _ _ (by rfl) g_NAME_SIGNS ⟨_,rfl⟩ (by decide)) (@pa_cons _ _ _ _ _ (@pe_callB _ _ _ _ _ _ _ _ _ (len_k K rfl) (by rfl) T.b_len PySem.boot_len (@pa_cons _ _ _ _ _ (@pv _ 0 _ _ (by rfl) (by first | exact Or.inl rfl | exact Or.inr (Or.inl rfl) | exact Or.inr (Or.inr rfl)) (by decide) (by decide)) pa_nil (by rfl)) (by decide) (by decide) (by rfl) (by rfl)) pa_nil (by rfl)) (by rfl)) (by rfl)) (by rfl)) (by decide) (by rfl) (by decide) (by rfl) (by rfl)) (by rfl) (by first | exact .inl rfl | exact .inr rfl | assumption)) (@pss_one _ _ _ (@ps_ret _ _ _ _ (@pe_tup _ _ _ _ _ (@pa_cons _ _ _ _ _ (@pe_tup _ _ _ _ _ (@pa_cons _ _ _ _ _ pe_str (@pa_cons _ _ _ _ _ (@pe_slice _ _ _ _ _ _ _ _ _ _ (sl_k K rfl) (@pv _ 0 _ _ (by rfl) (by first | exact Or.inl rfl | exact Or.inr (Or.inl rfl) | exact Or.inr (Or.inr rfl)) (by decide) (by decide)) (@po_some _ _ _ (@pv _ 1 _ _ (by rfl) (by first | exact Or.inl rfl | exact Or.inr (Or.inl rfl) | exact Or.inr (Or.inr rfl)) (by decide) (by decide))) (@po_some _ _ _ (@pv _ 2 _ _ (by rfl) (by first | exact Or.inl rfl | exact Or.inr (Or.inl rfl) | exact Or.inr (Or.inr rfl)) (by decide) (by decide)))) pa_nil (by rfl)) (by rfl))) (@pa_cons _ _ _ _ _ (@pv _ 2 _ _ (by rfl) (by first | exact Or.inl rfl | exact Or.inr (Or.inl rfl) | exact Or.inr (Or.inr rfl)) (by decide) (by decide)) pa_nil (by rfl)) (by rfl))))))),?_⟩
    have hlen:=mk_len l
    have hlt:=lt_of hc0
    refine⟨_,rfl,_,rfl,l,a,_,rfl,by lia,by lia,fun c hc hg => ?_,fun hn => ?_⟩
    rotate_left
    · refine (x.no a (by lia) ⟨st,.refl,.inr ⟨c0,hc0,?_⟩⟩).up
      have hn' : ¬ c0∈NS:=hn c0 hc0
      rcases pvv.three with rfl | rfl | rfl
      · show (if c0∈NS then some Sx.beh else if c0=123 then some Sx.opn else none)=_
        rw [if_neg hn',if_neg n123]
      · show (if c0∈NS then some Sx.beh else if c0=123 then some Sx.opn else none)=_
        rw [if_neg hn',if_neg n123]
      · show (if c0∈NS then some Sx.beh else if c0=123 then some Sx.opn else if c0=47 then some Sx.into else none)=_
        rw [if_neg hn',if_neg n123,if_neg n47]
    have hcN:c∈NS:=hg
    obtain⟨k,k1,k2,k3,k4⟩:=run_of NS l a l.length (by lia)
    have kp:1≤k:=by
      rcases Nat.eq_zero_or_pos k with z | z
      · exfalso
        subst z
        rcases k4 with k4 | k4 | ⟨c',c1,c2⟩
        · lia
        · lia
        · rw [Nat.add_zero,hc] at c1;cases c1;exact c2 hcN
      · exact z
    refine⟨_,rfl,_,rfl,_,rfl,_,_,rfl,⟨TX.small (by lia),rfl⟩,?_⟩
    refine⟨l,a,l.length,k,_,by rw [hlen];rfl,by lia,k2,k1,k3,k4,?_⟩
    refine⟨_,rfl,_,rfl,_,rfl,_,rfl,_,rfl,.inl ⟨_,rfl,TX.small (by lia),?_⟩⟩
    rw [slice_any (by lia) (by lia),show a+k - a=k from by lia]
    refine⟨by show 2≤sizeLine;decide,fun T1 hT1=>⟨_,rfl,by show 2≤sizeLine;decide,fun T2 hT2 => ?_⟩⟩
    have htl:((l.drop a).take k).length=k:=by rw [List.length_take,List.length_drop];lia
    have rt:=x.go (.tx ((l.drop a).take k)) (a+k) .beh ⟨fun z=>by rw [z] at htl;simp at htl;lia,cut_take k2 k3⟩ (by lia) (by lia) (ns_run pvv.three k kp k3) (by
      obtain⟨c',c1,c2⟩:=k3 (k - 1) (by lia)
      exact .inr (.inr ⟨rfl,by lia,c',by rw [show a+k - 1=a+(k - 1) from by lia];exact c1,ns47 c' c2⟩)) ⟨(fun z=>by cases z),(fun z=>by cases z)⟩
    exact rt.go rfl hT1 hT2
structure CallsP6 (P:Program) (w:World) (K:PySem.W.Frag) (mg:Str→Option Value) (base:Heap) (Cn:Addr):Prop where
  read_mark:CalX P w K mg base "read_mark" 6 ["template", "at"] (spMarkX Cn)
  read_into:CalX P w K mg base "read_into" 3 ["template", "at"] (spIntoX Cn)
  read_text:CalX P w K mg base "read_text" 4 ["template", "at"] (spTextX Cn)
theorem nx123 {s:Sx} (h:s = .beg∨s = .into∨s = .beh):nx s 123=some .opn:=by
  rcases h with rfl | rfl | rfl
  · show (if 123∈NS then some Sx.beh else if 123=123 then some Sx.opn else none)=_
    rw [if_neg no123,if_pos rfl]
  · show (if 123∈NS then some Sx.beh else if 123=123 then some Sx.opn else none)=_
    rw [if_neg no123,if_pos rfl]
  · show (if 123∈NS then some Sx.beh else if 123=123 then some Sx.opn else if 123=47 then some Sx.into else none)=_
    rw [if_neg no123,if_pos rfl]
def spPieceX (Cn:Addr):Sp:=fun vs H Q E=>∃ (l:List Nat) (a:Nat) (s:Sx),vs = [.str (mk l),.int (a:Int)]∧l.length≤500∧a<l.length∧Prev l a s∧RX H Q E Cn l a s
abbrev st_read_piece:Stmt:=top 23
theorem sc_read_piece:FnScope ["template", "at"] ["template", "at"] (defScope st_read_piece):=⟨rfl,rfl,rfl,by decide +kernel,rfl,by decide +kernel,by decide +kernel⟩
theorem ok_read_pieceX {Cn:Addr} (D:Df K mg "read_piece" st_read_piece ["template", "at"]) (T:Txt mg) (C:CallsP6 P w K mg base Cn):CalX P w K mg base "read_piece" 7 ["template", "at"] (spPieceX Cn):=by
  refine D.calX sc_read_piece (fun vs H Q E h => ?_) (fun f cdv A outer s H vs Q E hr h => ?_)
  · obtain⟨l,a,s,rfl,_⟩:=h;rfl
  · obtain⟨l,a,st,rfl,hl,ha,pvv,x⟩:=h
    refine⟨_,(@pss_cons _ _ _ _ _ (@ps_if _ _ _ _ _ _ _ _ (@pt_cmpR _ _ _ _ _ _ _ _ (eq_k K rfl hr) (@pe_ix _ _ _ _ _ _ _ (ix_k K rfl) (@pv _ 0 _ _ (by rfl) (by first | exact Or.inl rfl | exact Or.inr (Or.inl rfl) | exact Or.inr (Or.inr rfl)) (by decide) (by decide)) (@pv _ 1 _ _ (by rfl) (by first | exact Or.inl rfl | exact Or.inr (Or.inl rfl) | exact Or.inr (Or.inr rfl)) (by decide) (by decide)) (fun _ _=>rfl)) pe_str (nomark _)) (@pss_one _ _ _ (@ps_ret _ _ _ _ (pe_cX C.read_mark hr accX (@pa_cons _ _ _ _ _ (@pv _ 0 _ _ (by rfl) (by first | exact Or.inl rfl | exact Or.inr (Or.inl rfl) | exact Or.inr (Or.inr rfl)) (by decide) (by decide)) (@pa_cons _ _ _ _ _ (@pe_op _ _ _ _ _ _ _ _ op_addU (@pv _ 1 _ _ (by rfl) (by first | exact Or.inl rfl | exact Or.inr (Or.inl rfl) | exact Or.inr (Or.inr rfl)) (by decide) (by decide)) pe_int) pa_nil (by rfl)) (by rfl))))) pss_nil) (@pss_cons _ _ _ _ _ (@ps_if _ _ _ _ _ _ _ _ (@pt_cmpR _ _ _ _ _ _ _ _ (eq_k K rfl hr) (@pe_ix _ _ _ _ _ _ _ (ix_k K rfl) (@pv _ 0 _ _ (by rfl) (by first | exact Or.inl rfl | exact Or.inr (Or.inl rfl) | exact Or.inr (Or.inr rfl)) (by decide) (by decide)) (@pv _ 1 _ _ (by rfl) (by first | exact Or.inl rfl | exact Or.inr (Or.inl rfl) | exact Or.inr (Or.inr rfl)) (by decide) (by decide)) (fun _ _=>rfl)) pe_str (nomark _)) (@pss_one _ _ _ (@ps_ret _ _ _ _ (pe_cX C.read_into hr accX (@pa_cons _ _ _ _ _ (@pv _ 0 _ _ (by rfl) (by first | exact Or.inl rfl | exact Or.inr (Or.inl rfl) | exact Or.inr (Or.inr rfl)) (by decide) (by decide)) (@pa_cons _ _ _ _ _ (@pv _ 1 _ _ (by rfl) (by first | exact Or.inl rfl | exact Or.inr (Or.inl rfl) | exact Or.inr (Or.inr rfl)) (by decide) (by decide)) pa_nil (by rfl)) (by rfl))))) pss_nil) (@pss_one _ _ _ (@ps_ret _ _ _ _ (pe_cX C.read_text hr accX (@pa_cons _ _ _ _ _ (@pv _ 0 _ _ (by rfl) (by first | exact Or.inl rfl | exact Or.inr (Or.inl rfl) | exact Or.inr (Or.inr rfl)) (by decide) (by decide)) (@pa_cons _ _ _ _ _ (@pv _ 1 _ _ (by rfl) (by first | exact Or.inl rfl | exact Or.inr (Or.inl rfl) | exact Or.inr (Or.inr rfl)) (by decide) (by decide)) pa_nil (by rfl)) (by rfl))))))),?_⟩
    have hlen:=mk_len l
    obtain⟨c,hc⟩:∃ c,l[a]? = some c:=⟨_,List.getElem?_eq_getElem ha⟩
    have hat:atI (tl (mk l)) ((a:Nat):Int)=some c:=atI_nat (by rw [tl_mk];exact hc)
    refine⟨_,rfl,_,rfl,.inr (.inr ⟨mk l,_,c,rfl,rfl,TX.small (by lia),hat,.inl ⟨rfl,_,rfl,?_⟩⟩)⟩
    show if decide (V.str (mk [c])=V.str (Str.ofString "{"))=true then _ else _
    rw [lit1 c 123 "{" (by decide +kernel)]
    refine ite2 (fun h => ?_) (fun h => ?_)
    · have e:=of_decide_eq_true h
      subst e
      exact⟨_,rfl,_,rfl,.inl ⟨_,_,rfl,rfl,l,a+1,rfl,hl,ha,(x.step hc (nx123 pvv.three)).up⟩⟩
    have n1:c≠123:=fun z=>h (decide_eq_true z)
    refine⟨_,rfl,_,rfl,.inr (.inr ⟨mk l,_,c,rfl,rfl,TX.small (by lia),hat,.inl ⟨rfl,_,rfl,?_⟩⟩)⟩
    show if decide (V.str (mk [c])=V.str (Str.ofString "/"))=true then _ else _
    rw [lit1 c 47 "/" (by decide +kernel)]
    refine ite2 (fun h => ?_) (fun h => ?_)
    · have e:=of_decide_eq_true h
      subst e
      exact⟨_,rfl,_,rfl,l,a,st,rfl,hl,hc,pvv,x.up⟩
    have n2:c≠47:=fun z=>h (decide_eq_true z)
    exact⟨_,rfl,_,rfl,l,a,c,st,rfl,hl,hc,n2,n1,pvv,x.up⟩
end
end K
set_option maxHeartbeats 4000000
namespace K
open PySem L2 TX
section
variable {P:Program} {w:World} {K:PySem.W.Frag} {mg:Str→Option Value} {base:Heap}
structure CallsQ6 (P:Program) (w:World) (K:PySem.W.Frag) (mg:Str→Option Value) (base:Heap) (Cn:Addr):Prop where
  e_NoTemplate:CalE P w K mg base "NoTemplate" Cn 1 ["self", "at"] (spIni1 Cn "at")
  read_piece:CalX P w K mg base "read_piece" 7 ["template", "at"] (spPieceX Cn)
def spPiecesX (Cn:Addr):Sp:=fun vs H Q E=>∃ (l:List Nat),vs = [.str (mk l)]∧l.length≤500∧(Stp l 0 .beg l.length .beh→∀ L H',H L=none→Same H H' → Q (.ref L) H')∧(∀ i,i≤l.length→Refu l 0 .beg i→RE H E Cn i)
structure PoI (H:Hp) (L:Addr) (l:List Nat) (H3:Hp) (a:Nat) (s:Sx) (ps:List Pc):Prop where
  sm:Same H H3
  hp:HP H3 L ps
  ok:∀ p∈ps,Pc.ok p
  le:a≤l.length
  few:ps.length≤a
  st:Stp l 0 .beg a s
  pr:Prev l a s
  nil:a=0↔ps = []
  la:s = .into↔ps.getLast? = some .into
theorem eqv_two {p:Pc} (h:p.ok):PyData.eqv (.tuple p.ds) (.tuple [.str (Str.ofString "into")])=true↔p = .into:=by
  by_cases z:p = .into
  · subst z
    exact⟨fun _=>rfl,fun _=>SeqAt.eqv_refl _ (Pc.lay (p := .into) trivial)⟩
  · rw [eqv_into z]
    exact⟨(fun y=>by cases y),fun y=>absurd y z⟩
abbrev st_pieces_of:Stmt:=top 24
theorem sc_pieces_of:FnScope ["template", "pieces", "at", "piece"] ["template"] (defScope st_pieces_of):=⟨rfl,rfl,rfl,by decide +kernel,rfl,by decide +kernel,by decide +kernel⟩
theorem ok_pieces_ofX {Cn:Addr} (D:Df K mg "pieces_of" st_pieces_of ["template"]) (T:Txt mg) (C:CallsQ6 P w K mg base Cn):CalX P w K mg base "pieces_of" 8 ["template"] (spPiecesX Cn):=by
  refine D.calX sc_pieces_of (fun vs H Q E h => ?_) (fun f cdv A outer s H vs Q E hr h => ?_)
  · obtain⟨l,rfl,_⟩:=h;rfl
  · obtain⟨l,rfl,hl,k,kE⟩:=h
    refine⟨_,(@pss_cons _ _ _ _ _ (@ps_set _ _ (1) _ _ _ _ sc_pieces_of.nd rfl (by first | exact Or.inl rfl | exact Or.inr rfl) (@pe_lst _ _ _ _ pa_nil) (by rfl) (by first | exact .inl rfl | exact .inr rfl | assumption)) (@pss_cons _ _ _ _ _ (@ps_set _ _ (2) _ _ _ _ sc_pieces_of.nd rfl (by first | exact Or.inl rfl | exact Or.inr rfl) pe_int (by rfl) (by first | exact .inl rfl | exact .inr rfl | assumption)) (@pss_cons _ _ _ _ _ (@ps_while _ _ _ _ _ _ passDef (@pt_cmpR _ _ _ _ _ _ _ _ op_lt (@pv _ 2 _ _ (by rfl) (by first | exact Or.inl rfl | exact Or.inr (Or.inl rfl) | exact Or.inr (Or.inr rfl)) (by decide) (by decide)) (@pe_callB _ _ _ _ _ _ _ _ _ (len_k K rfl) (by rfl) T.b_len PySem.boot_len (@pa_cons _ _ _ _ _ (@pv _ 0 _ _ (by rfl) (by first | exact Or.inl rfl | exact Or.inr (Or.inl rfl) | exact Or.inr (Or.inr rfl)) (by decide) (by decide)) pa_nil (by rfl)) (by decide) (by decide) (by rfl) (by rfl)) (nomark _)) (@pss_cons _ _ _ _ _ (@ps_asg _ _ _ _ _ _ (pe_cX C.read_piece hr accX (@pa_cons _ _ _ _ _ (@pv _ 0 _ _ (by rfl) (by first | exact Or.inl rfl | exact Or.inr (Or.inl rfl) | exact Or.inr (Or.inr rfl)) (by decide) (by decide)) (@pa_cons _ _ _ _ _ (@pv _ 2 _ _ (by rfl) (by first | exact Or.inl rfl | exact Or.inr (Or.inl rfl) | exact Or.inr (Or.inr rfl)) (by decide) (by decide)) pa_nil (by rfl)) (by rfl))) (@gtup_k _ _ _ _ (2) _ K rfl rfl (@pgs_cons _ _ _ _ _ (@pg_name _ _ (3) _ sc_pieces_of.nd rfl (by first | exact Or.inl rfl | exact Or.inr rfl) (by first | exact .inl rfl | exact .inr rfl | assumption)) (@pgs_cons _ _ _ _ _ (@pg_name _ _ (2) _ sc_pieces_of.nd rfl (by first | exact Or.inl rfl | exact Or.inr rfl) (by first | exact .inl rfl | exact .inr rfl | assumption)) pgs_nil (by rfl)) (by rfl)) (by rfl) (by rfl)) (by rfl) (by rfl) (by rfl)) (@pss_one _ _ _ (@ps_expr _ _ _ _ (@bm_k _ _ _ _ _ _ _ _ _ _ _ _ K rfl PySem.F.plainAttrs_list PySem.F.slot_list_append PySem.F.type_list_append mt_append (@pv _ 1 _ _ (by rfl) (by first | exact Or.inl rfl | exact Or.inr (Or.inl rfl) | exact Or.inr (Or.inr rfl)) (by decide) (by decide)) (@pa_cons _ _ _ _ _ (@pv _ 3 _ _ (by rfl) (by first | exact Or.inl rfl | exact Or.inr (Or.inl rfl) | exact Or.inr (Or.inr rfl)) (by decide) (by decide)) pa_nil (by rfl)) (by rfl) (by rfl) (by rfl) (by rfl) (by rfl)) (by rfl))))) (@pss_cons _ _ _ _ _ (@ps_if _ _ _ _ _ _ _ _ (@pt_j _ _ _ (@PW.pt _ _ _ (@pw_or _ _ _ _ _ _ _ (@pt_cmpR _ _ _ _ _ _ _ _ (eq_k K rfl hr) (@pv _ 1 _ _ (by rfl) (by first | exact Or.inl rfl | exact Or.inr (Or.inl rfl) | exact Or.inr (Or.inr rfl)) (by decide) (by decide)) (@pe_lst _ _ _ _ pa_nil) (nomark _)) (@pw_or1 _ _ _ _ (@pt_cmpR _ _ _ _ _ _ _ _ (eq_k K rfl hr) (@pe_ix _ _ _ _ _ _ _ (ix_k K rfl) (@pv _ 1 _ _ (by rfl) (by first | exact Or.inl rfl | exact Or.inr (Or.inl rfl) | exact Or.inr (Or.inr rfl)) (by decide) (by decide)) (@pe_un _ _ _ _ _ _ un_neg pe_int) (fun _ _=>rfl)) (@pe_tup _ _ _ _ _ (@pa_cons _ _ _ _ _ pe_str pa_nil (by rfl))) (nomark _)))))) (@pss_one _ _ _ (ps_rs C.e_NoTemplate hr accX rfl (@pa_cons _ _ _ _ _ (@pe_callB _ _ _ _ _ _ _ _ _ (len_k K rfl) (by rfl) T.b_len PySem.boot_len (@pa_cons _ _ _ _ _ (@pv _ 0 _ _ (by rfl) (by first | exact Or.inl rfl | exact Or.inr (Or.inl rfl) | exact Or.inr (Or.inr rfl)) (by decide) (by decide)) pa_nil (by rfl)) (by decide) (by decide) (by rfl) (by rfl)) pa_nil (by rfl)))) pss_nil) (@pss_one _ _ _ (@ps_ret _ _ _ _ (@pv _ 1 _ _ (by rfl) (by first | exact Or.inl rfl | exact Or.inr (Or.inl rfl) | exact Or.inr (Or.inr rfl)) (by decide) (by decide)))))))),?_⟩
    have hlen:=mk_len l
    refine⟨by show 0≤sizeLine;decide,fun L hL => ?_⟩
    refine while_by (fun σ3 H3=>∃ (a:Nat) (st:Sx) (ps:List Pc) (x3:Option V),σ3 = [some (.str (mk l)),some (.ref L),some (.int ((a:Nat):Int)),x3]∧PoI H L l H3 a st ps) (fun σ3 _=>pcMeas (l.length+1) σ3)
      ⟨0,.beg,[],none,rfl,(Same.refl H).new hL,⟨[],upd_same,.nil⟩,(fun _ h=>nomatch h),Nat.zero_le _,Nat.zero_le _,.refl,.inl ⟨rfl,rfl⟩,⟨fun _=>rfl,fun _=>rfl⟩,⟨(fun z=>by cases z),(fun z=>by cases z)⟩⟩ ?_ ?_
    · rintro σ3 H3 ⟨a,st,ps,x3,rfl,I⟩
      refine⟨_,rfl,_,rfl,_,_,rfl,⟨TX.small (by lia),rfl⟩,_,_,rfl,rfl,_,rfl,?_⟩
      refine ite2 (fun h => ?_) (fun h => ?_)
      · have h1:=of_decide_eq_true h
        have ha:a<l.length:=by lia
        refine⟨_,rfl,_,rfl,l,a,st,rfl,hl,ha,I.pr,⟨fun p e s' okp hae hel stp prv hin T1 T2 H4 hT1 hT2 sm4 h41 h42 => ?_,fun i hi hr=>(((kE i hi (.via I.st hr)).same I.sm).up)⟩⟩
        refine⟨T2,_,rfl,SqT.of h42,rfl,_,_,rfl,_,_,rfl,rfl,?_⟩
        have hp4:=I.hp.same sm4
        obtain⟨Ts,a1,a2⟩:=hp4.ex
        have hTl:=a2.len
        have hfew:=I.few
        refine⟨_,rfl,.inl ⟨rfl,hp4.sq⟩,_,rfl,L,_,_,rfl,rfl,a1,by rw [List.length_map];exact TX.small' (by lia),?_⟩
        have hTL:T1≠L:=fun z=>by subst z;rw [a1] at h41;cases h41
        refine⟨⟨e,s',ps ++ [p],some (.ref T1),rfl,(I.sm.trans sm4).put hL,⟨Ts ++ [T1],by rw [List.map_append];exact upd_same,?_⟩,fun q hq => ?_,hel,by rw [List.length_append,List.length_singleton];lia,I.st.trans stp,prv,⟨(fun z=>by lia),(fun z=>by simp at z)⟩,?_⟩,?_⟩
        · refine PTu.snoc (by rw [upd_ne hTL];exact h41) (a2.keep fun Tx xs e => ?_)
          rw [upd_ne (fun z=>by subst z;rw [a1] at e;cases e)];exact e
        · rcases List.mem_append.mp hq with hq | hq
          · exact I.ok q hq
          · rw [List.mem_singleton.mp hq];exact okp
        · rw [hin,List.getLast?_concat]
          exact⟨(fun z=>by rw [z]),(fun z=>by injection z)⟩
        · show l.length+1 - ((e:Nat):Int).toNat<l.length+1 - ((a:Nat):Int).toNat
          lia
      · have h1:¬ ((a:Nat):Int)<(((mk l).length:Nat):Int):=fun z=>h (decide_eq_true z)
        have hle:=I.le
        have ea:a=l.length:=by lia
        subst ea
        refine⟨fun b H' => Same H3 H' ∧ (b=true↔st ≠ .beh),?_,?_⟩
        · rintro b H' ⟨sm',hb⟩
          refine iteB (fun hb1 => ?_) (fun hb0 => ?_)
          · refine⟨_,rfl,_,_,rfl,⟨TX.small (by lia),rfl⟩,fun ea hea=>⟨ea,_,rfl,upd_same,⟨l.length,by rw [hlen],by lia⟩,fun d hd hne=>⟨rfl,?_⟩⟩⟩
            obtain⟨dd,r1,r2⟩:=raised1 (f := "at") (v := .int (((mk l).length:Nat):Int)) hd hne
            rw [hlen] at r2
            refine⟨dd,by rw [hlen] at r1 ⊢;exact r1,?_⟩
            have:=kE l.length (Nat.le_refl _) ⟨st,I.st,.inl ⟨rfl,hb.mp hb1⟩⟩ ea _ (same_raised (I.sm.trans sm') hea hd) ((I.sm.trans sm').free hea) r2
            rw [hlen];exact this
          · have hs:st = .beh:=Classical.byContradiction fun z=>by rw [hb.mpr z] at hb0;cases hb0
            have ist:=I.st
            rw [hs] at ist
            exact⟨_,rfl,k ist L H' hL (I.sm.trans sm')⟩
        · refine⟨_,rfl,by show 0≤sizeLine;decide,fun E0 hE0 => ?_⟩
          have smE:Same H3 (upd H3 E0 (.lst [])):=(Same.refl H3).new hE0
          have hpE:=I.hp.same smE
          obtain⟨Us,b1,b2⟩:=hpE.ex
          refine .inr ⟨_,_,.lst (SqL.of b1) b2.dts,.lst (SqL.of upd_same) .nil,lays I.ok,rfl,?_,_,rfl,?_⟩
          · refine Nat.le_trans (Nat.min_le_right _ _) ?_
            decide +kernel
          by_cases hne:ps = []
          · have h0:=I.nil.mpr hne
            subst hne
            have hs:st = .beg:=by
              rcases I.pr with ⟨z,_⟩ | ⟨_,z,_⟩ | ⟨_,z,_⟩
              · exact z
              · lia
              · lia
            have e1:PyData.eqv (.list (([]:List Pc).map fun p=>PyData.tuple p.ds)) (.list [])=true:=by simp [PyData.eqv,PyData.eqvAll]
            rw [e1]
            exact iteT ⟨smE,⟨(fun _ z=>by rw [hs] at z;cases z),fun _=>rfl⟩⟩
          rw [eqv_nilP hne]
          refine iteF ?_
          obtain⟨qs,q,hqs⟩:∃ qs q,ps=qs ++ [q]:=⟨ps.dropLast,ps.getLast hne,(List.dropLast_concat_getLast hne).symm⟩
          have hUl:=b2.len
          have hUne:Us ≠ []:=fun z=>by rw [z] at hUl;rw [hqs] at hUl;simp at hUl
          have hUs:=(List.dropLast_concat_getLast hUne).symm
          have hlast:Us[ps.length - 1]? = some (Us.getLast hUne):=by rw [← hUl];simp [List.getLast_eq_getElem]
          obtain⟨q',hq1,hq2⟩:=b2.get hlast
          have eq' : q' = q:=by rw [hqs] at hq1;simp at hq1;exact hq1.symm
          subst eq'
          have hix:atI (Us.map V.ref) (-1)=some (.ref (Us.getLast hUne)):=by
            have:=ref_last Us.dropLast (Us.getLast hUne)
            rwa [← hUs] at this
          refine⟨_,rfl,_,rfl,.inl ⟨L,_,-1,_,rfl,rfl,SqL.of b1,hix,by show 1≤sizeLine;decide,fun T3 hT3 => ?_⟩⟩
          have sm3:Same (upd H3 E0 (.lst [])) (upd (upd H3 E0 (.lst [])) T3 (.tup [.str (Str.ofString "into")])):=(Same.refl _).new hT3
          have okq:=I.ok q' (by rw [hqs];simp)
          refine .inr ⟨_,_,.tup (SqT.of (sm3 _ _ hq2)) (Pc.dts _),.tup (SqT.of upd_same) (.cons (.str _) .nil),Pc.lay okq,by decide +kernel,?_,_,rfl,smE.trans sm3,?_⟩
          · refine Nat.le_trans (Nat.min_le_right _ _) ?_
            decide +kernel
          rw [eqv_two okq]
          have hla:=I.la
          rw [hqs,List.getLast?_concat] at hla
          have h00:l.length≠0:=fun z=>hne (I.nil.mp z)
          rcases I.pr with ⟨_,z⟩ | ⟨rfl,_⟩ | ⟨rfl,_⟩
          · exact absurd z h00
          · exact⟨(fun _ z=>by cases z),(fun _=>by have:=hla.mp rfl;injection this)⟩
          · exact⟨(fun z=>by rw [z] at hla;have:=hla.mpr rfl;cases this),fun z=>absurd rfl z⟩
    · intro σ H Q Q' hq hw
      obtain⟨x,e1,y,e2,n',z,e3,e4,a',b',e5,e6,c',e7,hh⟩:=hw
      exact⟨x,e1,y,e2,n',z,e3,e4,a',b',e5,e6,c',e7,hq _ _ hh⟩
end
end K
set_option maxHeartbeats 4000000
namespace K
open PySem L2 TX
section
variable {P:Program} {w:World} {K:PySem.W.Frag} {mg:Str→Option Value} {base:Heap}
def nm:Sx→Str
  | .beg=>Str.ofString "begin"
  | .beh=>Str.ofString "behind"
  | .into=>Str.ofString "into"
  | .opn=>Str.ofString "open"
  | .cnt=>Str.ofString "count"
  | .gap=>Str.ofString "gap"
  | .nou=>Str.ofString "noughts"
  | .cls=>Str.ofString "close"
  | .sum k=>Str.ofString "sum" ++ Str.ofString (toString (k:Int))
def SxOk:Sx→Prop
  | .sum k=>k≤9
  | _=>True
def qs (st:Str) (t:String):Bool:=decide (V.str st=V.str (Str.ofString t))
abbrev vS (t:String):V:=V.str (Str.ofString t)
def b3 (st:Str):Bool:=inV (.str st) [vS "begin",vS "behind",vS "into"]
def e3 (st:Str):Bool:=inV (.str st) [vS "count",vS "gap",vS "close"]
def s3 (st:Str):Bool:=decide (V.str (PySem.Txt.slice st none (some 3))=V.str (Str.ofString "sum"))
def RNb (b beh opn cnt nou gap sum0 sm sum9 e:Bool) (c:Nat) (nxt:V):V :=
  if b=true then (if decide (c∈NS)=true then vS "behind" else if decide (c=123)=true then vS "open" else if (decide (c=47)&&beh)=true then vS "into" else .non)
  else if opn=true then (if decide (c=110)=true then vS "count" else if decide (c∈D1)=true then vS "gap" else .non)
  else if ((cnt&&decide (c∈D2))||(nou&&decide (c∈D1)))=true then vS "close"
  else if (gap&&decide (c∈tl (Str.ofString "ul")))=true then vS "close"
  else if (gap&&decide (c=122))=true then vS "noughts"
  else if (gap&&decide (c=43))=true then vS "sum0"
  else if (sum0&&decide (c=48))=true then vS "close"
  else if (sm&&(decide (c∈D9) && !sum9))=true then nxt
  else if ((decide (c=125)&&e)||(decide (c=125)&&(sm && !sum0)))=true then vS "behind" else .non
def BB (st:Str):Bool×Bool×Bool×Bool×Bool×Bool×Bool×Bool×Bool×Bool:=(b3 st,qs st "behind",qs st "open",qs st "count",qs st "noughts",qs st "gap",qs st "sum0",s3 st,qs st "sum9",e3 st)
def RN (st:Str) (c:Nat) (nxt:V):V:=RNb (b3 st) (qs st "behind") (qs st "open") (qs st "count") (qs st "noughts") (qs st "gap") (qs st "sum0") (s3 st) (qs st "sum9") (e3 st) c nxt
theorem rn_of {st:Str} {c:Nat} {nxt:V} {a1 a2 a3 a4 a5 a6 a7 a8 a9 a10:Bool} (h:BB st=(a1,a2,a3,a4,a5,a6,a7,a8,a9,a10)):RN st c nxt=RNb a1 a2 a3 a4 a5 a6 a7 a8 a9 a10 c nxt:=by
  unfold BB at h
  simp only [Prod.mk.injEq] at h
  obtain⟨h1,h2,h3,h4,h5,h6,h7,h8,h9,h10⟩:=h
  unfold RN
  rw [h1,h2,h3,h4,h5,h6,h7,h8,h9,h10]
def vO:Option Sx→V
  | none => .non
  | some s => .str (nm s)
structure CallsNx (P:Program) (w:World) (K:PySem.W.Frag) (mg:Str→Option Value) (base:Heap):Prop where
  name_signs:Cal P w K mg base "_law_name_signs" 1 [] (spConst NSs)
def spNextR:Sp:=fun vs H Q _=>∃ (st:Str) (c:Nat) (nxt:V),vs = [.str st,.str (mk [c])]∧st.length≤100∧(s3 st=true→∃ n:Nat,PySem.intText? (PySem.Txt.slice st (some 3) none)=some (n:Int)∧(PySem.Txt.slice st (some 3) none).length≤640∧n≤1000∧nxt = .str (Str.ofString "sum" ++ Str.ofString (toString ((n+1:Nat):Int))))∧∀ H',Same H H' → Q (RN st c nxt) H'
theorem ifT {b:Bool} {x y:V} {R:Hp→Prop} {Q:VK} (k:∀ H',R H' → Q (if b=true then x else y) H') (h:b=true):∀ H',R H' → Q x H' := fun H' r=>by
  have:=k H' r
  rwa [if_pos h] at this
theorem ifF {b:Bool} {x y:V} {R:Hp→Prop} {Q:VK} (k:∀ H',R H' → Q (if b=true then x else y) H') (h:b=false):∀ H',R H' → Q y H' := fun H' r=>by
  have:=k H' r
  rwa [if_neg (by rw [h];decide)] at this
abbrev st_next_state:Stmt:=top 33
theorem sc_next_state:FnScope ["_law_state", "_law_sign"] ["_law_state", "_law_sign"] (defScope st_next_state):=⟨rfl,rfl,rfl,by decide +kernel,rfl,by decide +kernel,by decide +kernel⟩
theorem ok_next_state (D:Df K mg "_law_next_state" st_next_state ["_law_state", "_law_sign"]) (T:Txt mg) (C:CallsNx P w K mg base):Cal P w K mg base "_law_next_state" 2 ["_law_state", "_law_sign"] spNextR:=by
  refine D.cal sc_next_state (fun vs H Q E h => ?_) (fun f cdv A outer s H vs Q E hr h => ?_)
  · obtain⟨st,c,nxt,rfl,_⟩:=h;rfl
  · obtain⟨st,c,nxt,rfl,hst,hsum,k⟩:=h
    refine⟨_,(@pss_cons _ _ _ _ _ (@ps_if _ _ _ _ _ _ _ _ (@pt_cmpR _ _ _ _ _ _ _ _ (in_k K rfl) (@pv _ 0 _ _ (by rfl) (by first | exact Or.inl rfl | exact Or.inr (Or.inl rfl) | exact Or.inr (Or.inr rfl)) (by decide) (by decide)) (@pe_tup _ _ _ _ _ (@pa_cons _ _ _ _ _ pe_str (@pa_cons _ _ _ _ _ pe_str (@pa_cons _ _ _ _ _ pe_str pa_nil (by rfl)) (by rfl)) (by rfl))) (by with_unfolding_all rfl)) (@pss_cons _ _ _ _ _ (@ps_if _ _ _ _ _ _ _ _ (@pt_cmpR _ _ _ _ _ _ _ _ (in_k K rfl) (@pv _ 1 _ _ (by rfl) (by first | exact Or.inl rfl | exact Or.inr (Or.inl rfl) | exact Or.inr (Or.inr rfl)) (by decide) (by decide)) (@pe_c0 _ _ _ _ _ _ _ _ C.name_signs hr (by decide) (by rfl) (by decide)) (by with_unfolding_all rfl)) (@pss_one _ _ _ (@ps_ret _ _ _ _ pe_str)) pss_nil) (@pss_cons _ _ _ _ _ (@ps_if _ _ _ _ _ _ _ _ (@pt_cmpR _ _ _ _ _ _ _ _ (eq_k K rfl hr) (@pv _ 1 _ _ (by rfl) (by first | exact Or.inl rfl | exact Or.inr (Or.inl rfl) | exact Or.inr (Or.inr rfl)) (by decide) (by decide)) pe_str (nomark _)) (@pss_one _ _ _ (@ps_ret _ _ _ _ pe_str)) pss_nil) (@pss_cons _ _ _ _ _ (@ps_if _ _ _ _ _ _ _ _ (@pt_j _ _ _ (@PW.pt _ _ _ (@pw_and _ _ _ _ _ _ _ (@pt_cmpR _ _ _ _ _ _ _ _ (eq_k K rfl hr) (@pv _ 1 _ _ (by rfl) (by first | exact Or.inl rfl | exact Or.inr (Or.inl rfl) | exact Or.inr (Or.inr rfl)) (by decide) (by decide)) pe_str (nomark _)) (@pw_and1 _ _ _ _ (@pt_cmpR _ _ _ _ _ _ _ _ (eq_k K rfl hr) (@pv _ 0 _ _ (by rfl) (by first | exact Or.inl rfl | exact Or.inr (Or.inl rfl) | exact Or.inr (Or.inr rfl)) (by decide) (by decide)) pe_str (nomark _)))))) (@pss_one _ _ _ (@ps_ret _ _ _ _ pe_str)) pss_nil) (@pss_one _ _ _ (@ps_ret _ _ _ _ pe_non))))) pss_nil) (@pss_cons _ _ _ _ _ (@ps_if _ _ _ _ _ _ _ _ (@pt_cmpR _ _ _ _ _ _ _ _ (eq_k K rfl hr) (@pv _ 0 _ _ (by rfl) (by first | exact Or.inl rfl | exact Or.inr (Or.inl rfl) | exact Or.inr (Or.inr rfl)) (by decide) (by decide)) pe_str (nomark _)) (@pss_cons _ _ _ _ _ (@ps_if _ _ _ _ _ _ _ _ (@pt_cmpR _ _ _ _ _ _ _ _ (eq_k K rfl hr) (@pv _ 1 _ _ (by rfl) (by first | exact Or.inl rfl | exact Or.inr (Or.inl rfl) | exact Or.inr (Or.inr rfl)) (by decide) (by decide)) pe_str (nomark _)) (@pss_one _ _ _ (@ps_ret _ _ _ _ pe_str)) pss_nil) (@pss_one _ _ _ (@ps_ret _ _ _ _ (@pe_j _ _ _ (@pe_ifExp _ _ _ _ _ _ _ _ (@pt_cmpR _ _ _ _ _ _ _ _ (in_k K rfl) (@pv _ 1 _ _ (by rfl) (by first | exact Or.inl rfl | exact Or.inr (Or.inl rfl) | exact Or.inr (Or.inr rfl)) (by decide) (by decide)) pe_str (by with_unfolding_all rfl)) pe_str pe_non))))) pss_nil) (@pss_cons _ _ _ _ _ (@ps_if _ _ _ _ _ _ _ _ (@pt_j _ _ _ (@PW.pt _ _ _ (@pw_or _ _ _ _ _ _ _ (@pt_j _ _ _ (@PW.pt _ _ _ (@pw_and _ _ _ _ _ _ _ (@pt_cmpR _ _ _ _ _ _ _ _ (eq_k K rfl hr) (@pv _ 0 _ _ (by rfl) (by first | exact Or.inl rfl | exact Or.inr (Or.inl rfl) | exact Or.inr (Or.inr rfl)) (by decide) (by decide)) pe_str (nomark _)) (@pw_and1 _ _ _ _ (@pt_cmpR _ _ _ _ _ _ _ _ (in_k K rfl) (@pv _ 1 _ _ (by rfl) (by first | exact Or.inl rfl | exact Or.inr (Or.inl rfl) | exact Or.inr (Or.inr rfl)) (by decide) (by decide)) pe_str (by with_unfolding_all rfl)))))) (@pw_or1 _ _ _ _ (@pt_j _ _ _ (@PW.pt _ _ _ (@pw_and _ _ _ _ _ _ _ (@pt_cmpR _ _ _ _ _ _ _ _ (eq_k K rfl hr) (@pv _ 0 _ _ (by rfl) (by first | exact Or.inl rfl | exact Or.inr (Or.inl rfl) | exact Or.inr (Or.inr rfl)) (by decide) (by decide)) pe_str (nomark _)) (@pw_and1 _ _ _ _ (@pt_cmpR _ _ _ _ _ _ _ _ (in_k K rfl) (@pv _ 1 _ _ (by rfl) (by first | exact Or.inl rfl | exact Or.inr (Or.inl rfl) | exact Or.inr (Or.inr rfl)) (by decide) (by decide)) pe_str (by with_unfolding_all rfl)))))))))) (@pss_one _ _ _ (@ps_ret _ _ _ _ pe_str)) pss_nil) (@pss_cons _ _ _ _ _ (@ps_if _ _ _ _ _ _ _ _ (@pt_j _ _ _ (@PW.pt _ _ _ (@pw_and _ _ _ _ _ _ _ (@pt_cmpR _ _ _ _ _ _ _ _ (eq_k K rfl hr) (@pv _ 0 _ _ (by rfl) (by first | exact Or.inl rfl | exact Or.inr (Or.inl rfl) | exact Or.inr (Or.inr rfl)) (by decide) (by decide)) pe_str (nomark _)) (@pw_and1 _ _ _ _ (@pt_cmpR _ _ _ _ _ _ _ _ (in_k K rfl) (@pv _ 1 _ _ (by rfl) (by first | exact Or.inl rfl | exact Or.inr (Or.inl rfl) | exact Or.inr (Or.inr rfl)) (by decide) (by decide)) pe_str (by with_unfolding_all rfl)))))) (@pss_one _ _ _ (@ps_ret _ _ _ _ pe_str)) pss_nil) (@pss_cons _ _ _ _ _ (@ps_if _ _ _ _ _ _ _ _ (@pt_j _ _ _ (@PW.pt _ _ _ (@pw_and _ _ _ _ _ _ _ (@pt_cmpR _ _ _ _ _ _ _ _ (eq_k K rfl hr) (@pv _ 0 _ _ (by rfl) (by first | exact Or.inl rfl | exact Or.inr (Or.inl rfl) | exact Or.inr (Or.inr rfl)) (by decide) (by decide)) pe_str (nomark _)) (@pw_and1 _ _ _ _ (@pt_cmpR _ _ _ _ _ _ _ _ (eq_k K rfl hr) (@pv _ 1 _ _ (by rfl) (by first | exact Or.inl rfl | exact Or.inr (Or.inl rfl) | exact Or.inr (Or.inr rfl)) (by decide) (by decide)) pe_str (nomark _)))))) (@pss_one _ _ _ (@ps_ret _ _ _ _ pe_str)) pss_nil) (@pss_cons _ _ _ _ _ (@ps_if _ _ _ _ _ _ _ _ (@pt_j _ _ _ (@PW.pt _ _ _ (@pw_and _ _ _ _ _ _ _ (@pt_cmpR _ _ _ _ _ _ _ _ (eq_k K rfl hr) (@pv _ 0 _ _ (by rfl) (by first | exact Or.inl rfl | exact Or.inr (Or.inl rfl) | exact Or.inr (Or.inr rfl)) (by decide) (by decide)) pe_str (nomark _)) (@pw_and1 _ _ _ _ (@pt_cmpR _ _ _ _ _ _ _ _ (eq_k K rfl hr) (@pv _ 1 _ _ (by rfl) (by first | exact Or.inl rfl | exact Or.inr (Or.inl rfl) | exact Or.inr (Or.inr rfl)) (by decide) (by decide)) pe_str (nomark _)))))) (@pss_one _ _ _ (@ps_ret _ _ _ _ pe_str)) pss_nil) (@pss_cons _ _ _ _ _ (@ps_if _ _ _ _ _ _ _ _ (@pt_j _ _ _ (@PW.pt _ _ _ (@pw_and _ _ _ _ _ _ _ (@pt_cmpR _ _ _ _ _ _ _ _ (eq_k K rfl hr) (@pv _ 0 _ _ (by rfl) (by first | exact Or.inl rfl | exact Or.inr (Or.inl rfl) | exact Or.inr (Or.inr rfl)) (by decide) (by decide)) pe_str (nomark _)) (@pw_and1 _ _ _ _ (@pt_cmpR _ _ _ _ _ _ _ _ (eq_k K rfl hr) (@pv _ 1 _ _ (by rfl) (by first | exact Or.inl rfl | exact Or.inr (Or.inl rfl) | exact Or.inr (Or.inr rfl)) (by decide) (by decide)) pe_str (nomark _)))))) (@pss_one _ _ _ (@ps_ret _ _ _ _ pe_str)) pss_nil) (@pss_cons _ _ _ _ _ (@ps_if _ _ _ _ _ _ _ _ (@pt_j _ _ _ (@PW.pt _ _ _ (@pw_and _ _ _ _ _ _ _ (@pt_cmpR _ _ _ _ _ _ _ _ (eq_k K rfl hr) (@pe_slice _ _ _ _ _ _ _ _ _ _ (sl_k K rfl) (@pv _ 0 _ _ (by rfl) (by first | exact Or.inl rfl | exact Or.inr (Or.inl rfl) | exact Or.inr (Or.inr rfl)) (by decide) (by decide)) po_none (@po_some _ _ _ pe_int)) pe_str (nomark _)) (@pw_and _ _ _ _ _ _ _ (@pt_cmpR _ _ _ _ _ _ _ _ (in_k K rfl) (@pv _ 1 _ _ (by rfl) (by first | exact Or.inl rfl | exact Or.inr (Or.inl rfl) | exact Or.inr (Or.inr rfl)) (by decide) (by decide)) pe_str (by with_unfolding_all rfl)) (@pw_and1 _ _ _ _ (@pt_cmpR _ _ _ _ _ _ _ _ (ne_k K rfl hr) (@pv _ 0 _ _ (by rfl) (by first | exact Or.inl rfl | exact Or.inr (Or.inl rfl) | exact Or.inr (Or.inr rfl)) (by decide) (by decide)) pe_str (nomark _))))))) (@pss_one _ _ _ (@ps_ret _ _ _ _ (@pe_op _ _ _ _ _ _ _ _ op_addU pe_str (@pe_callTy _ _ _ _ _ _ _ _ _ call_strI (by rfl) T.b_str (by decide +kernel) (@pa_cons _ _ _ _ _ (@pe_op _ _ _ _ _ _ _ _ op_addU (@pe_callTy _ _ _ _ _ _ _ _ _ call_intU (by rfl) T.b_int (by decide +kernel) (@pa_cons _ _ _ _ _ (@pe_slice _ _ _ _ _ _ _ _ _ _ (sl_k K rfl) (@pv _ 0 _ _ (by rfl) (by first | exact Or.inl rfl | exact Or.inr (Or.inl rfl) | exact Or.inr (Or.inr rfl)) (by decide) (by decide)) (@po_some _ _ _ pe_int) po_none) pa_nil (by rfl)) (by decide) (by decide) (by rfl) (by rfl)) pe_int) pa_nil (by rfl)) (by decide) (by decide) (by rfl) (by rfl))))) pss_nil) (@pss_cons _ _ _ _ _ (@ps_if _ _ _ _ _ _ _ _ (@pt_j _ _ _ (@PW.pt _ _ _ (@pw_or _ _ _ _ _ _ _ (@pt_j _ _ _ (@PW.pt _ _ _ (@pw_and _ _ _ _ _ _ _ (@pt_cmpR _ _ _ _ _ _ _ _ (eq_k K rfl hr) (@pv _ 1 _ _ (by rfl) (by first | exact Or.inl rfl | exact Or.inr (Or.inl rfl) | exact Or.inr (Or.inr rfl)) (by decide) (by decide)) pe_str (nomark _)) (@pw_and1 _ _ _ _ (@pt_cmpR _ _ _ _ _ _ _ _ (in_k K rfl) (@pv _ 0 _ _ (by rfl) (by first | exact Or.inl rfl | exact Or.inr (Or.inl rfl) | exact Or.inr (Or.inr rfl)) (by decide) (by decide)) (@pe_tup _ _ _ _ _ (@pa_cons _ _ _ _ _ pe_str (@pa_cons _ _ _ _ _ pe_str (@pa_cons _ _ _ _ _ pe_str pa_nil (by rfl)) (by rfl)) (by rfl))) (by with_unfolding_all rfl)))))) (@pw_or1 _ _ _ _ (@pt_j _ _ _ (@PW.pt _ _ _ (@pw_and _ _ _ _ _ _ _ (@pt_cmpR _ _ _ _ _ _ _ _ (eq_k K rfl hr) (@pv _ 1 _ _ (by rfl) (by first | exact Or.inl rfl | exact Or.inr (Or.inl rfl) | exact Or.inr (Or.inr rfl)) (by decide) (by decide)) pe_str (nomark _)) (@pw_and _ _ _ _ _ _ _ (@pt_cmpR _ _ _ _ _ _ _ _ (eq_k K rfl hr) (@pe_slice _ _ _ _ _ _ _ _ _ _ (sl_k K rfl) (@pv _ 0 _ _ (by rfl) (by first | exact Or.inl rfl | exact Or.inr (Or.inl rfl) | exact Or.inr (Or.inr rfl)) (by decide) (by decide)) po_none (@po_some _ _ _ pe_int)) pe_str (nomark _)) (@pw_and1 _ _ _ _ (@pt_cmpR _ _ _ _ _ _ _ _ (ne_k K rfl hr) (@pv _ 0 _ _ (by rfl) (by first | exact Or.inl rfl | exact Or.inr (Or.inl rfl) | exact Or.inr (Or.inr rfl)) (by decide) (by decide)) pe_str (nomark _))))))))))) (@pss_one _ _ _ (@ps_ret _ _ _ _ pe_str)) pss_nil) (@pss_one _ _ _ (@ps_ret _ _ _ _ pe_non))))))))))),?_⟩
    have e3l:(Str.ofString "sum").length≤100:=by decide +kernel
    refine⟨_,rfl,by show 3≤sizeLine;decide,fun T0 hT0 => ?_⟩
    have s0:=(Same.refl H).new (o := .tup [vS "begin",vS "behind",vS "into"]) hT0
    have hT00:upd H T0 (.tup [vS "begin",vS "behind",vS "into"]) T0=some (.tup [vS "begin",vS "behind",vS "into"]):=upd_same
    refine .inr ⟨T0,_,rfl,.inr (SqT.of hT00),rfl,rfl,_,rfl,?_⟩
    generalize upd H T0 _=H0 at s0 ⊢
    unfold RN RNb at k
    show if b3 st=true then _ else _
    refine iteB (fun h => ?_) (fun h => ?_)
    · replace k:=ifT k h
      refine⟨_,rfl,rfl,.inl ⟨_,_,rfl,rfl,_,rfl,?_⟩⟩
      show if (!(Builtin.Str.occurrences NSs ⟨#[c]⟩ 0 NSs.length 1).isEmpty)=true then _ else _
      rw [in_one]
      refine iteB (fun h1=>ifT k h1 H0 s0) (fun h1 => ?_)
      replace k:=ifF k h1
      refine⟨_,rfl,.inl ⟨rfl,_,rfl,?_⟩⟩
      rw [lit1 c 123 "{" (by decide +kernel)]
      refine iteB (fun h2=>ifT k h2 H0 s0) (fun h2 => ?_)
      replace k:=ifF k h2
      refine⟨fun b H1=>b=(decide (c=47)&&qs st "behind")∧H1=H0,?_,?_⟩
      · rintro b H1 ⟨rfl,rfl⟩
        exact iteB (fun h3=>ifT k h3 H1 s0) (fun h3=>ifF k h3 H1 s0)
      · refine⟨_,rfl,.inl ⟨rfl,_,rfl,?_⟩⟩
        rw [lit1 c 47 "/" (by decide +kernel)]
        refine iteB (fun h3 => ?_) (fun h3=>⟨by rw [h3];rfl,rfl⟩)
        exact⟨_,rfl,.inl ⟨rfl,_,rfl,by rw [h3];rfl,rfl⟩⟩
    replace k:=ifF k h
    refine⟨_,rfl,.inl ⟨rfl,_,rfl,?_⟩⟩
    show if qs st "open" = true then _ else _
    refine iteB (fun h => ?_) (fun h => ?_)
    · replace k:=ifT k h
      refine⟨_,rfl,.inl ⟨rfl,_,rfl,?_⟩⟩
      rw [lit1 c 110 "n" (by decide +kernel)]
      refine iteB (fun h1=>ifT k h1 H0 s0) (fun h1 => ?_)
      replace k:=ifF k h1
      refine⟨fun v H1=>v=(if decide (c∈D1)=true then vS "gap" else .non)∧H1=H0,?_,?_⟩
      · rintro v H1 ⟨rfl,rfl⟩
        exact k H1 s0
      · refine⟨_,rfl,.inl ⟨_,_,rfl,rfl,_,rfl,?_⟩⟩
        show if (!(Builtin.Str.occurrences (Str.ofString "123456789") ⟨#[c]⟩ 0 (Str.ofString "123456789").length 1).isEmpty)=true then _ else _
        rw [in_one]
        refine iteB (fun h2 => ?_) (fun h2 => ?_)
        · exact⟨by rw [if_pos (show decide (c∈D1)=true from h2)],rfl⟩
        · exact⟨by rw [if_neg (show ¬ decide (c∈D1)=true from by rw [show decide (c∈D1)=false from h2];decide)],rfl⟩
    replace k:=ifF k h
    have two:∀ (a:String) (x:Str) {H' : Hp} {J:Bool→Hp→Prop},J (qs st a&&decide (c∈tl x)) H' → ∃ J' : Bool→Hp→Prop,(∀ b H1,J' b H1→J b H1)∧True:=fun _ _ _ J h=>⟨J,fun _ _ z=>z,trivial⟩
    clear two
    refine⟨fun b H1=>b=((qs st "count" && decide (c∈D2))||(qs st "noughts" && decide (c∈D1)))∧H1=H0,?_,?_⟩
    rotate_left
    · refine⟨fun b H1=>b=(qs st "count" && decide (c∈D2))∧H1=H0,?_,?_⟩
      · rintro b H1 ⟨rfl,rfl⟩
        refine iteB (fun h1=>⟨by rw [h1];rfl,rfl⟩) (fun h1 => ?_)
        refine⟨fun b H2=>b=(qs st "noughts" && decide (c∈D1))∧H2=H1,?_,?_⟩
        · rintro b H2 ⟨rfl,rfl⟩
          exact⟨by rw [h1];rfl,rfl⟩
        · refine⟨_,rfl,.inl ⟨rfl,_,rfl,?_⟩⟩
          show if qs st "noughts" = true then _ else _
          refine iteB (fun h2 => ?_) (fun h2=>⟨by rw [h2];rfl,rfl⟩)
          refine⟨_,rfl,.inl ⟨_,_,rfl,rfl,_,rfl,?_,rfl⟩⟩
          rw [h2]
          exact in_one _ c
      · refine⟨_,rfl,.inl ⟨rfl,_,rfl,?_⟩⟩
        show if qs st "count" = true then _ else _
        refine iteB (fun h2 => ?_) (fun h2=>⟨by rw [h2];rfl,rfl⟩)
        refine⟨_,rfl,.inl ⟨_,_,rfl,rfl,_,rfl,?_,rfl⟩⟩
        rw [h2]
        exact in_one _ c
    rintro b H1 ⟨rfl,rfl⟩
    refine iteB (fun h=>ifT k h H1 s0) (fun h => ?_)
    replace k:=ifF k h
    refine⟨fun b H2=>b=(qs st "gap" && decide (c∈tl (Str.ofString "ul")))∧H2=H1,?_,?_⟩
    rotate_left
    · refine⟨_,rfl,.inl ⟨rfl,_,rfl,?_⟩⟩
      show if qs st "gap" = true then _ else _
      refine iteB (fun h2 => ?_) (fun h2=>⟨by rw [h2];rfl,rfl⟩)
      refine⟨_,rfl,.inl ⟨_,_,rfl,rfl,_,rfl,?_,rfl⟩⟩
      rw [h2]
      exact in_one _ c
    rintro b H2 ⟨rfl,rfl⟩
    refine iteB (fun h=>ifT k h H2 s0) (fun h => ?_)
    replace k:=ifF k h
    refine⟨fun b H3=>b=(qs st "gap" && decide (c=122))∧H3=H2,?_,?_⟩
    rotate_left
    · refine⟨_,rfl,.inl ⟨rfl,_,rfl,?_⟩⟩
      show if qs st "gap" = true then _ else _
      refine iteB (fun h2 => ?_) (fun h2=>⟨by rw [h2];rfl,rfl⟩)
      exact⟨_,rfl,.inl ⟨rfl,_,rfl,by rw [h2,lit1 c 122 "z" (by decide +kernel)];rfl,rfl⟩⟩
    rintro b H3 ⟨rfl,rfl⟩
    refine iteB (fun h=>ifT k h H3 s0) (fun h => ?_)
    replace k:=ifF k h
    refine⟨fun b H4=>b=(qs st "gap" && decide (c=43))∧H4=H3,?_,?_⟩
    rotate_left
    · refine⟨_,rfl,.inl ⟨rfl,_,rfl,?_⟩⟩
      show if qs st "gap" = true then _ else _
      refine iteB (fun h2 => ?_) (fun h2=>⟨by rw [h2];rfl,rfl⟩)
      exact⟨_,rfl,.inl ⟨rfl,_,rfl,by rw [h2,lit1 c 43 "+" (by decide +kernel)];rfl,rfl⟩⟩
    rintro b H4 ⟨rfl,rfl⟩
    refine iteB (fun h=>ifT k h H4 s0) (fun h => ?_)
    replace k:=ifF k h
    refine⟨fun b H5=>b=(qs st "sum0" && decide (c=48))∧H5=H4,?_,?_⟩
    rotate_left
    · refine⟨_,rfl,.inl ⟨rfl,_,rfl,?_⟩⟩
      show if qs st "sum0" = true then _ else _
      refine iteB (fun h2 => ?_) (fun h2=>⟨by rw [h2];rfl,rfl⟩)
      exact⟨_,rfl,.inl ⟨rfl,_,rfl,by rw [h2,lit1 c 48 "0" (by decide +kernel)];rfl,rfl⟩⟩
    rintro b H5 ⟨rfl,rfl⟩
    refine iteB (fun h=>ifT k h H5 s0) (fun h => ?_)
    replace k:=ifF k h
    refine⟨fun b H6=>b=(s3 st&&(decide (c∈D9) && !qs st "sum9"))∧H6=H5,?_,?_⟩
    rotate_left
    · refine⟨_,rfl,_,rfl,.inl ⟨_,rfl,TX.small (by lia),.inl ⟨rfl,_,rfl,?_⟩⟩⟩
      show if s3 st=true then _ else _
      refine iteB (fun h2 => ?_) (fun h2=>⟨by rw [h2];rfl,rfl⟩)
      refine⟨_,rfl,.inl ⟨_,_,rfl,rfl,_,rfl,?_⟩⟩
      show if (!(Builtin.Str.occurrences (Str.ofString "0123456789") ⟨#[c]⟩ 0 (Str.ofString "0123456789").length 1).isEmpty)=true then _ else _
      rw [in_one]
      refine iteB (fun h3 => ?_) (fun h3=>⟨by rw [h2,show decide (c∈D9)=false from h3];rfl,rfl⟩)
      exact⟨_,rfl,.inl ⟨rfl,_,rfl,by rw [h2,show decide (c∈D9)=true from h3];rfl,rfl⟩⟩
    rintro b H6 ⟨rfl,rfl⟩
    refine iteB (fun h => ?_) (fun h => ?_)
    · replace k:=ifT k h
      obtain⟨n,n1,n2,n3,rfl⟩:=hsum (by
        cases z:s3 st with
        | true=>rfl
        | false=>rw [z] at h;cases h)
      refine⟨_,rfl,_,rfl,.inl ⟨_,rfl,TX.small (by lia),.inr ⟨_,_,rfl,n1,n2,.inl ⟨_,_,rfl,rfl,n+1,rfl,by lia,?_⟩⟩⟩⟩
      have hl:=dg_len 3 (n+1) (by lia)
      have el:(Str.ofString (toString ((n+1:Nat):Int))).length≤4:=by rw [dg_mk,mk_len];exact hl
      exact .inr (.inl ⟨_,_,rfl,rfl,TX.small (by lia),k H6 s0⟩)
    replace k:=ifF k h
    refine⟨fun b H7=>b=((decide (c=125)&&e3 st)||(decide (c=125)&&(s3 st && !qs st "sum0")))∧Same H6 H7,?_,?_⟩
    rotate_left
    · refine⟨fun b H7=>b=(decide (c=125)&&e3 st)∧Same H6 H7,?_,?_⟩
      · rintro b H7 ⟨rfl,s7⟩
        refine iteB (fun h1=>⟨by rw [h1];rfl,s7⟩) (fun h1 => ?_)
        refine⟨fun b H8=>b=(decide (c=125)&&(s3 st && !qs st "sum0"))∧H8=H7,?_,?_⟩
        · rintro b H8 ⟨rfl,rfl⟩
          exact⟨by rw [h1];rfl,s7⟩
        · refine⟨_,rfl,.inl ⟨rfl,_,rfl,?_⟩⟩
          rw [lit1 c 125 "}" (by decide +kernel)]
          refine iteB (fun h2 => ?_) (fun h2=>⟨by rw [h2];rfl,rfl⟩)
          refine⟨_,rfl,_,rfl,.inl ⟨_,rfl,TX.small (by lia),.inl ⟨rfl,_,rfl,?_⟩⟩⟩
          show if s3 st=true then _ else _
          refine iteB (fun h3 => ?_) (fun h3=>⟨by rw [h2,h3];rfl,rfl⟩)
          exact⟨_,rfl,.inl ⟨rfl,_,rfl,by rw [h2,h3];rfl,rfl⟩⟩
      · refine⟨_,rfl,.inl ⟨rfl,_,rfl,?_⟩⟩
        rw [lit1 c 125 "}" (by decide +kernel)]
        refine iteB (fun h2 => ?_) (fun h2=>⟨by rw [h2];rfl,Same.refl H6⟩)
        refine⟨_,rfl,by show 3≤sizeLine;decide,fun T1 hT1 => ?_⟩
        have s7:=(Same.refl H6).new (o := .tup [vS "count",vS "gap",vS "close"]) hT1
        have hT11:upd H6 T1 (.tup [vS "count",vS "gap",vS "close"]) T1=some (.tup [vS "count",vS "gap",vS "close"]):=upd_same
        exact .inr ⟨T1,_,rfl,.inr (SqT.of hT11),rfl,rfl,_,rfl,by rw [h2];rfl,s7⟩
    rintro b H7 ⟨rfl,s7⟩
    exact iteB (fun h=>ifT k h H7 (s0.trans s7)) (fun h=>ifF k h H7 (s0.trans s7))
theorem mem_ul (c:Nat):c∈tl (Str.ofString "ul")↔c=117∨c=108:=by
  rw [show tl (Str.ofString "ul") = [117,108] from by decide +kernel]
  simp
theorem rn_sum:∀ k,k≤9→BB (nm (.sum k))=(false,false,false,false,false,false,decide (k=0),true,decide (k=9),false)
  | 0,_=>by kernel_rfl
  | 1,_=>by kernel_rfl
  | 2,_=>by kernel_rfl
  | 3,_=>by kernel_rfl
  | 4,_=>by kernel_rfl
  | 5,_=>by kernel_rfl
  | 6,_=>by kernel_rfl
  | 7,_=>by kernel_rfl
  | 8,_=>by kernel_rfl
  | 9,_=>by kernel_rfl
  | k+10,h=>absurd h (by lia)
theorem sum_read:∀ k,k≤9→PySem.intText? (PySem.Txt.slice (nm (.sum k)) (some 3) none)=some (k:Int)∧(PySem.Txt.slice (nm (.sum k)) (some 3) none).length≤640:=by decide +kernel
theorem nm_len:∀ k,k≤9→(nm (.sum k)).length≤100:=by decide +kernel
theorem rn_nx (c:Nat) (nxt:V):∀ s,SxOk s→(∀ k,s = .sum k→nxt = .str (nm (.sum (k+1))))→RN (nm s) c nxt=vO (nx s c)
  | .beg,_,_=>by
    rw [rn_of (show BB (nm .beg)=(true,false,false,false,false,false,false,false,false,false) from by kernel_rfl)]
    show RNb _ _ _ _ _ _ _ _ _ _ _ _=vO (if c∈NS then some .beh else if c=123 then some .opn else none)
    unfold RNb
    simp only [if_true,decide_eq_true_eq,Bool.and_false,Bool.false_eq_true,if_false]
    repeat' split
    all_goals rfl
  | .beh,_,_=>by
    rw [rn_of (show BB (nm .beh)=(true,true,false,false,false,false,false,false,false,false) from by kernel_rfl)]
    show RNb _ _ _ _ _ _ _ _ _ _ _ _=vO (if c∈NS then some .beh else if c=123 then some .opn else if c=47 then some .into else none)
    unfold RNb
    simp only [if_true,decide_eq_true_eq,Bool.and_true,Bool.false_eq_true,if_false]
    repeat' split
    all_goals rfl
  | .into,_,_=>by
    rw [rn_of (show BB (nm .into)=(true,false,false,false,false,false,false,false,false,false) from by kernel_rfl)]
    show RNb _ _ _ _ _ _ _ _ _ _ _ _=vO (if c∈NS then some .beh else if c=123 then some .opn else none)
    unfold RNb
    simp only [if_true,decide_eq_true_eq,Bool.and_false,Bool.false_eq_true,if_false]
    repeat' split
    all_goals rfl
  | .opn,_,_=>by
    rw [rn_of (show BB (nm .opn)=(false,false,true,false,false,false,false,false,false,false) from by kernel_rfl)]
    show RNb _ _ _ _ _ _ _ _ _ _ _ _=vO (if c=110 then some .cnt else if c∈D1 then some .gap else none)
    unfold RNb
    simp only [if_true,decide_eq_true_eq,Bool.false_eq_true,if_false]
    repeat' split
    all_goals rfl
  | .cnt,_,_=>by
    rw [rn_of (show BB (nm .cnt)=(false,false,false,true,false,false,false,false,false,true) from by kernel_rfl)]
    show RNb _ _ _ _ _ _ _ _ _ _ _ _=vO (if c∈D2 then some .cls else if c=125 then some .beh else none)
    unfold RNb
    simp only [if_true,decide_eq_true_eq,Bool.false_eq_true,if_false,Bool.true_and,Bool.false_and,Bool.or_false,Bool.and_true,Bool.and_false]
    repeat' split
    all_goals rfl
  | .gap,_,_=>by
    rw [rn_of (show BB (nm .gap)=(false,false,false,false,false,true,false,false,false,true) from by kernel_rfl)]
    show RNb _ _ _ _ _ _ _ _ _ _ _ _=vO (if c=117∨c=108 then some .cls else if c=122 then some .nou else if c=43 then some (.sum 0) else if c=125 then some .beh else none)
    unfold RNb
    simp only [decide_eq_true_eq,Bool.false_eq_true,if_false,Bool.true_and,Bool.false_and,Bool.or_false,Bool.and_true,Bool.and_false,mem_ul]
    repeat' split
    all_goals first | rfl | exact congrArg V.str (by kernel_rfl)
  | .nou,_,_=>by
    rw [rn_of (show BB (nm .nou)=(false,false,false,false,true,false,false,false,false,false) from by kernel_rfl)]
    show RNb _ _ _ _ _ _ _ _ _ _ _ _=vO (if c∈D1 then some .cls else none)
    unfold RNb
    simp only [decide_eq_true_eq,Bool.false_eq_true,if_false,Bool.true_and,Bool.false_and,Bool.or_false,Bool.false_or,Bool.and_true,Bool.and_false]
    repeat' split
    all_goals rfl
  | .cls,_,_=>by
    rw [rn_of (show BB (nm .cls)=(false,false,false,false,false,false,false,false,false,true) from by kernel_rfl)]
    show RNb _ _ _ _ _ _ _ _ _ _ _ _=vO (if c=125 then some .beh else none)
    unfold RNb
    simp only [decide_eq_true_eq,Bool.false_eq_true,if_false,Bool.true_and,Bool.false_and,Bool.or_false,Bool.false_or,Bool.and_true,Bool.and_false]
    repeat' split
    all_goals rfl
  | .sum 0,_,hn=>by
    rw [rn_of (rn_sum 0 (by decide)),hn 0 rfl]
    show RNb _ _ _ _ _ _ _ _ _ _ _ _=vO (if c=48 then some .cls else if c∈D9 then some (.sum 1) else none)
    unfold RNb
    simp only [decide_eq_true_eq,Bool.false_eq_true,if_false,Bool.true_and,Bool.false_and,Bool.or_false,Bool.false_or,Bool.and_true,Bool.and_false,decide_true,Bool.not_true,Bool.not_false,show decide (0=9)=false from rfl]
    repeat' split
    all_goals rfl
  | .sum (k+1),hk,hn=>by
    have hk' : k+1≤9:=hk
    rw [rn_of (rn_sum (k+1) hk'),hn (k+1) rfl]
    show RNb _ _ _ _ _ _ _ _ _ _ _ _=vO (if c∈D9∧k+1≠9 then some (.sum (k+2)) else if c=125 then some .beh else none)
    unfold RNb
    have e0:decide (k+1=0)=false:=decide_eq_false (by lia)
    rw [e0]
    simp only [Bool.false_eq_true,if_false,Bool.true_and,Bool.false_and,Bool.or_false,Bool.false_or,Bool.and_true,Bool.and_false,Bool.not_false]
    by_cases h1:c∈D9∧k+1≠9
    · rw [if_pos h1,if_pos (by rw [decide_eq_true h1.1,decide_eq_false h1.2];rfl)];rfl
    · rw [if_neg h1,if_neg (by
        intro z
        rw [Bool.and_eq_true] at z
        exact h1 ⟨of_decide_eq_true z.1,by simpa using z.2⟩)]
      simp only [decide_eq_true_eq]
      split <;> rfl
theorem ok_ite {p:Prop} [Decidable p] {x y:Option Sx} {s:Sx} (h:(if p then x else y)=some s) (h1:p→x=some s→SxOk s) (h2:¬ p→y=some s→SxOk s):SxOk s:=by
  by_cases z:p
  · rw [if_pos z] at h;exact h1 z h
  · rw [if_neg z] at h;exact h2 z h
theorem ok_some {s s' : Sx} (h:some s=some s') (k:SxOk s):SxOk s' := by cases h;exact k
theorem nx_ok:∀ {s:Sx} {c:Nat} {s' : Sx},SxOk s→nx s c=some s' → SxOk s'
  | .beg,c,s',_,h=>ok_ite (show (if c∈NS then some Sx.beh else if c=123 then some .opn else none)=some s' from h) (fun _ h=>ok_some h trivial) fun _ h=>ok_ite h (fun _ h=>ok_some h trivial) (fun _ h=>by cases h)
  | .beh,c,s',_,h=>ok_ite (show (if c∈NS then some Sx.beh else if c=123 then some .opn else if c=47 then some .into else none)=some s' from h) (fun _ h=>ok_some h trivial) fun _ h=>ok_ite h (fun _ h=>ok_some h trivial) fun _ h=>ok_ite h (fun _ h=>ok_some h trivial) (fun _ h=>by cases h)
  | .into,c,s',_,h=>ok_ite (show (if c∈NS then some Sx.beh else if c=123 then some .opn else none)=some s' from h) (fun _ h=>ok_some h trivial) fun _ h=>ok_ite h (fun _ h=>ok_some h trivial) (fun _ h=>by cases h)
  | .opn,c,s',_,h=>ok_ite (show (if c=110 then some Sx.cnt else if c∈D1 then some .gap else none)=some s' from h) (fun _ h=>ok_some h trivial) fun _ h=>ok_ite h (fun _ h=>ok_some h trivial) (fun _ h=>by cases h)
  | .cnt,c,s',_,h=>ok_ite (show (if c∈D2 then some Sx.cls else if c=125 then some .beh else none)=some s' from h) (fun _ h=>ok_some h trivial) fun _ h=>ok_ite h (fun _ h=>ok_some h trivial) (fun _ h=>by cases h)
  | .gap,c,s',_,h=>ok_ite (show (if c=117∨c=108 then some Sx.cls else if c=122 then some .nou else if c=43 then some (.sum 0) else if c=125 then some .beh else none)=some s' from h) (fun _ h=>ok_some h trivial) fun _ h=>ok_ite h (fun _ h=>ok_some h trivial) fun _ h=>ok_ite h (fun _ h=>ok_some h (Nat.zero_le _)) fun _ h=>ok_ite h (fun _ h=>ok_some h trivial) (fun _ h=>by cases h)
  | .nou,c,s',_,h=>ok_ite (show (if c∈D1 then some Sx.cls else none)=some s' from h) (fun _ h=>ok_some h trivial) (fun _ h=>by cases h)
  | .cls,c,s',_,h=>ok_ite (show (if c=125 then some Sx.beh else none)=some s' from h) (fun _ h=>ok_some h trivial) (fun _ h=>by cases h)
  | .sum 0,c,s',_,h=>ok_ite (show (if c=48 then some Sx.cls else if c∈D9 then some (.sum 1) else none)=some s' from h) (fun _ h=>ok_some h trivial) fun _ h=>ok_ite h (fun _ h=>ok_some h (show 1≤9 by decide)) (fun _ h=>by cases h)
  | .sum (k+1),c,s',hk,h=>ok_ite (show (if c∈D9∧k+1≠9 then some (Sx.sum (k+2)) else if c=125 then some .beh else none)=some s' from h) (fun z h=>ok_some h (show k+2≤9 by have hk' : k+1≤9:=hk;lia)) fun _ h=>ok_ite h (fun _ h=>ok_some h trivial) (fun _ h=>by cases h)
def spNext:Sp:=fun vs H Q _=>∃ (s:Sx) (c:Nat),vs = [.str (nm s),.str (mk [c])]∧SxOk s∧∀ H',Same H H' → Q (vO (nx s c)) H'
theorem nm_len' : ∀ s,SxOk s→(nm s).length≤100
  | .beg,_=>by decide +kernel
  | .beh,_=>by decide +kernel
  | .into,_=>by decide +kernel
  | .opn,_=>by decide +kernel
  | .cnt,_=>by decide +kernel
  | .gap,_=>by decide +kernel
  | .nou,_=>by decide +kernel
  | .cls,_=>by decide +kernel
  | .sum k,h=>nm_len k h
theorem s3_sum:∀ s,SxOk s→s3 (nm s)=true→∃ k,s = .sum k
  | .beg,_,h=>absurd h (by decide +kernel)
  | .beh,_,h=>absurd h (by decide +kernel)
  | .into,_,h=>absurd h (by decide +kernel)
  | .opn,_,h=>absurd h (by decide +kernel)
  | .cnt,_,h=>absurd h (by decide +kernel)
  | .gap,_,h=>absurd h (by decide +kernel)
  | .nou,_,h=>absurd h (by decide +kernel)
  | .cls,_,h=>absurd h (by decide +kernel)
  | .sum k,_,_=>⟨k,rfl⟩
theorem next_of (M:Cal P w K mg base "_law_next_state" 2 ["_law_state", "_law_sign"] spNextR):Cal P w K mg base "_law_next_state" 2 ["_law_state", "_law_sign"] spNext :=
  M.imp fun vs H Q E h=>by
    obtain⟨s,c,e,ok,k⟩:=h
    refine⟨nm s,c,(match s with | .sum k => .str (nm (.sum (k+1))) | _ => .non),e,nm_len' s ok,fun h3 => ?_,fun H' sm => ?_⟩
    · obtain⟨n,rfl⟩:=s3_sum s ok h3
      obtain⟨r1,r2⟩:=sum_read n ok
      exact⟨n,r1,r2,Nat.le_trans (show n≤9 from ok) (by decide),rfl⟩
    · rw [rn_nx c _ s ok (fun k hk=>by subst hk;rfl)]
      exact k H' sm
end
end K
set_option maxHeartbeats 4000000
namespace K
open PySem L2 TX
section
variable {P:Program} {w:World} {K:PySem.W.Frag} {mg:Str→Option Value} {base:Heap}
theorem cases_mk {P:Program} {w:World} {K:PySem.W.Frag} {dC:Addr} {ep:Nat} {t1 t2 t3 t4:Tok}
    (lC:K.lookup dC=some ⟨.type "dict",none,.dict #[⟨PyData.keyHash w.params (Str.ofString "u"),.str (Str.ofString "u") t1,.str (Str.ofString "great") t2⟩,⟨PyData.keyHash w.params (Str.ofString "l"),.str (Str.ofString "l") t3,.str (Str.ofString "small") t4⟩] ep,#[]⟩):KDict P w K dC casesKV:=by
  refine⟨_,[(Sum.inr (Str.ofString "u"),.str (Str.ofString "great") t2),(Sum.inr (Str.ofString "l"),.str (Str.ofString "small") t4)],lC,.cons ⟨rfl,t2,rfl⟩ (.cons ⟨rfl,t4,rfl⟩ .nil),fun h e => ?_⟩
  have k1:(mixKind P w).is (Sum.inr (Str.ofString "u")) (.str (Str.ofString "u") t1)=true:=keyIs_str (Str.ofString "u") t1
  have k2:(mixKind P w).is (Sum.inr (Str.ofString "l")) (.str (Str.ofString "l") t3)=true:=keyIs_str (Str.ofString "l") t3
  refine⟨_,_,ep,e,⟨rfl,rfl,rfl⟩,rfl,fun en hen => ?_,.cons k1 rfl (.cons k2 rfl .nil),?_⟩
  · simp only [List.mem_toArray,List.mem_cons,List.not_mem_nil,or_false] at hen
    rcases hen with rfl | rfl
    · exact⟨_,k1,rfl⟩
    · exact⟨_,k2,rfl⟩
  · exact (by decide +kernel:([Sum.inr (Str.ofString "u"),Sum.inr (Str.ofString "l")]:List Key).Nodup)
abbrev PW (H:Hp):List Addr→List Pc→Prop:=Paired fun T p=>∃ T1,H T=some (.tup [.ref T1,.str (mk p.wr)])∧H T1=some (.tup p.vs)
structure HPW (H:Hp) (L:Addr) (ps:List Pc):Prop where
  ex:∃ Ts,H L=some (.lst (Ts.map V.ref))∧PW H Ts ps
def OneP (ps:List Pc):Prop:=(∃ p,ps = [p]∧p.ok∧p ≠ .into∧p.wr.length≤30)∨∃ t,ps = [.into,.tx t]∧(Pc.tx t).ok∧t.length≤4
abbrev vI (es:List Nat):List V:=es.map fun e:Nat=>V.int (e:Int)
def spPiece1:Sp:=fun vs H Q _=>∃ a b M,vs = [.ref a,.int 9,.ref M]∧FeedAt H a b∧H M=some (.lst (vI [1,2,3,4,5,6,7,8,9]))∧M≠a∧∀ L ps H',OneP ps→HPW H' L ps→H L=none→Fd a b H H' → Q (.ref L) H'
structure CallsY (P:Program) (w:World) (K:PySem.W.Frag) (mg:Str→Option Value) (base:Heap):Prop where
  draw:Cal P w K mg base "_law_draw" 1 ["_law_feed", "_law_many"] spDraw
  text:Cal P w K mg base "_law_text" 2 ["_law_feed", "_law_signs", "_law_size"] spText
  name_signs:Cal P w K mg base "_law_name_signs" 1 [] (spConst NSs)
abbrev st_name_signs:Stmt:=top 27
theorem sc_name_signs:FnScope [] [] (defScope st_name_signs):=⟨rfl,rfl,rfl,by decide +kernel,rfl,by decide +kernel,by decide +kernel⟩
theorem ok_name_signs (D:Df K mg "_law_name_signs" st_name_signs []):Cal P w K mg base "_law_name_signs" 1 [] (spConst NSs):=by
  refine D.cal sc_name_signs (fun vs H Q E h => ?_) (fun f cdv A outer s H vs Q E hr h => ?_)
  · obtain⟨rfl,_⟩:=h;rfl
  · obtain⟨rfl,k⟩:=h
    refine⟨_,(@pss_one _ _ _ (@ps_ret _ _ _ _ pe_str)),?_⟩
    exact k
theorem app_mk (a b:List Nat):mk a++mk b=mk (a++b):=by apply ext;rw [tl_app,tl_mk,tl_mk,tl_mk]
theorem hpw1 {H:Hp} {p:Pc} {T1 T2 L:Addr} {s:Str} (h1:H T1=some (.tup p.vs)) (h2:H T2=none) (h3:upd H T2 (.tup [.ref T1,.str s]) L=none) (hs:s=mk p.wr) :
    HPW (upd (upd H T2 (.tup [.ref T1,.str s])) L (.lst [.ref T2])) L [p]:=by
  subst hs
  have a:T1≠T2:=ne_of_none h1 h2
  have b:T2≠L:=ne_of_none upd_same h3
  have c:T1≠L:=by
    intro z;subst z;rw [upd_ne a,h1] at h3;cases h3
  refine⟨[T2],upd_same,.cons ⟨T1,?_,?_⟩ .nil⟩
  · rw [upd_ne b];exact upd_same
  · rw [upd_ne c,upd_ne a];exact h1
theorem one_go {H Hx:Hp} {Q:VK} {a b:Addr} {p:Pc} {T1 T2 L:Addr} {s:Str} (k:∀ L ps H',OneP ps→HPW H' L ps→H L=none→Fd a b H H' → Q (.ref L) H') (fd:Fd a b H Hx) (h1:Hx T1=some (.tup p.vs)) (h2:Hx T2=none)
    (h3:upd Hx T2 (.tup [.ref T1,.str s]) L=none) (hs:s=mk p.wr) (hok:p.ok) (hni:p ≠ .into) (hl:p.wr.length≤30):Q (.ref L) (upd (upd Hx T2 (.tup [.ref T1,.str s])) L (.lst [.ref T2])) :=
  k L [p] _ (.inl ⟨p,rfl,hok,hni,hl⟩) (hpw1 h1 h2 h3 hs) ((fd.new h2).free h3) ((fd.new h2).new h3)
theorem two_go {H Hx:Hp} {Q:VK} {a b:Addr} {t:List Nat} {T1 T2 T3 T4 L:Addr} {s:Str} (k:∀ L ps H',OneP ps→HPW H' L ps→H L=none→Fd a b H H' → Q (.ref L) H') (fd:Fd a b H Hx) (hs:s=mk [47]) (h1:Hx T1=none) (h2:upd Hx T1 (.tup Pc.into.vs) T2=none)
    (h3:upd (upd Hx T1 (.tup Pc.into.vs)) T2 (.tup [.ref T1,.str s]) T3=none) (h4:upd (upd (upd Hx T1 (.tup Pc.into.vs)) T2 (.tup [.ref T1,.str s])) T3 (.tup (Pc.tx t).vs) T4=none)
    (h5:upd (upd (upd (upd Hx T1 (.tup Pc.into.vs)) T2 (.tup [.ref T1,.str s])) T3 (.tup (Pc.tx t).vs)) T4 (.tup [.ref T3,.str (mk t)]) L=none) (hok:(Pc.tx t).ok) (hl:t.length≤4) :
    Q (.ref L) (upd (upd (upd (upd (upd Hx T1 (.tup Pc.into.vs)) T2 (.tup [.ref T1,.str s])) T3 (.tup (Pc.tx t).vs)) T4 (.tup [.ref T3,.str (mk t)])) L (.lst [.ref T2,.ref T4])):=by
  subst hs
  generalize e1:upd Hx T1 (.tup Pc.into.vs)=H1 at *
  have q1:H1 T1=some (.tup Pc.into.vs):=by rw [← e1];exact upd_same
  have f1:Fd a b H H1:=by rw [← e1];exact fd.new h1
  generalize e2:upd H1 T2 (.tup [.ref T1,.str (mk [47])])=H2 at *
  have q2:H2 T2=some (.tup [.ref T1,.str (mk [47])]):=by rw [← e2];exact upd_same
  have k2:Same H1 H2:=by rw [← e2];exact (Same.refl _).new h2
  have f2:Fd a b H H2:=by rw [← e2];exact f1.new h2
  generalize e3:upd H2 T3 (.tup (Pc.tx t).vs)=H3 at *
  have q3:H3 T3=some (.tup (Pc.tx t).vs):=by rw [← e3];exact upd_same
  have k3:Same H2 H3:=by rw [← e3];exact (Same.refl _).new h3
  have f3:Fd a b H H3:=by rw [← e3];exact f2.new h3
  generalize e4:upd H3 T4 (.tup [.ref T3,.str (mk t)])=H4 at *
  have q4:H4 T4=some (.tup [.ref T3,.str (mk t)]):=by rw [← e4];exact upd_same
  have k4:Same H3 H4:=by rw [← e4];exact (Same.refl _).new h4
  have f4:Fd a b H H4:=by rw [← e4];exact f3.new h4
  have k5:∀ {o:HO},Same H4 (upd H4 L o):=(Same.refl _).new h5
  refine k L [.into,.tx t] _ (.inr ⟨t,rfl,hok,hl⟩) ⟨[T2,T4],upd_same,.cons ⟨T1,?_,?_⟩ (.cons ⟨T3,?_,?_⟩ .nil)⟩ (f4.free h5) (f4.new h5)
  · exact k5 _ _ (k4 _ _ (k3 _ _ q2))
  · exact k5 _ _ (k4 _ _ (k3 _ _ (k2 _ _ q1)))
  · exact k5 _ _ q4
  · exact k5 _ _ (k4 _ _ q3)
theorem dgl (n:Nat):(Str.ofString (toString (n:Int))).length=(dg n).length:=by rw [dg_mk,mk_len]
theorem dg1 {n:Nat} (h:n≤9):(Str.ofString (toString (n:Int))).length=1:=by rw [dgl,dg_small (by lia)];rfl
theorem t123:tl (Str.ofString "{") = [123]:=by decide +kernel
theorem t125:tl (Str.ofString "}") = [125]:=by decide +kernel
theorem t43:tl (Str.ofString "+") = [43]:=by decide +kernel
theorem t122:tl (Str.ofString "z") = [122]:=by decide +kernel
theorem t117:tl (Str.ofString "u") = [117]:=by decide +kernel
theorem t108:tl (Str.ofString "l") = [108]:=by decide +kernel
theorem t0:tl (Str.ofString "") = []:=by decide +kernel
theorem tn:tl (Str.ofString "{n") = [123,110]:=by decide +kernel
theorem tdg {n:Nat} (h:n≤9):tl (Str.ofString (toString (n:Int))) = [48+n]:=dg_small (by lia)
theorem wnn {x y:String} (h:(Str.ofString x==Str.ofString y)=false):decide (V.str (Str.ofString x)=V.str (Str.ofString y))=false:=by rw [L2.dec_str];exact h
abbrev st_piece:Stmt:=top 30
theorem sc_piece:FnScope ["_law_feed", "_law_gaps", "_law_more", "_law_way", "_law_signs", "_law_text_here", "_law_wide", "_law_sum_here", "_law_gap", "_law_word"] ["_law_feed", "_law_gaps", "_law_more"] (defScope st_piece):=⟨rfl,rfl,rfl,by decide +kernel,rfl,by decide +kernel,by decide +kernel⟩
theorem ok_piece (D:Df K mg "_law_piece" st_piece ["_law_feed", "_law_gaps", "_law_more"]) (T:Txt mg) (C:CallsY P w K mg base):Cal P w K mg base "_law_piece" 3 ["_law_feed", "_law_gaps", "_law_more"] spPiece1:=by
  refine D.cal sc_piece (fun vs H Q E h => ?_) (fun f cdv A outer s H vs Q E hr h => ?_)
  · obtain⟨a,b,M,rfl,_⟩:=h;rfl
  · obtain⟨a,b,M,rfl,F,hM,hMa,k⟩:=h
    refine⟨_,(@pss_cons _ _ _ _ _ (@ps_set _ _ (3) _ _ _ _ sc_piece.nd rfl (by first | exact Or.inl rfl | exact Or.inr rfl) (@pe_c _ _ _ _ _ _ _ _ _ _ _ C.draw hr (@pa_cons _ _ _ _ _ (@pv _ 0 _ _ (by rfl) (by first | exact Or.inl rfl | exact Or.inr (Or.inl rfl) | exact Or.inr (Or.inr rfl)) (by decide) (by decide)) (@pa_cons _ _ _ _ _ pe_int pa_nil (by rfl)) (by rfl)) (by decide) (by rfl) (by decide) (by rfl) (by rfl)) (by rfl) (by first | exact .inl rfl | exact .inr rfl | assumption)) (@pss_cons _ _ _ _ _ (@ps_set _ _ (4) _ _ _ _ sc_piece.nd rfl (by first | exact Or.inl rfl | exact Or.inr rfl) (@pe_ix _ _ _ _ _ _ _ (ix_k K rfl) (@pe_lst _ _ _ _ (@pa_cons _ _ _ _ _ (@pe_c0 _ _ _ _ _ _ _ _ C.name_signs hr (by decide) (by rfl) (by decide)) (@pa_cons _ _ _ _ _ pe_str pa_nil (by rfl)) (by rfl))) (@pe_c _ _ _ _ _ _ _ _ _ _ _ C.draw hr (@pa_cons _ _ _ _ _ (@pv _ 0 _ _ (by rfl) (by first | exact Or.inl rfl | exact Or.inr (Or.inl rfl) | exact Or.inr (Or.inr rfl)) (by decide) (by decide)) (@pa_cons _ _ _ _ _ pe_int pa_nil (by rfl)) (by rfl)) (by decide) (by rfl) (by decide) (by rfl) (by rfl)) (fun _ _=>rfl)) (by rfl) (by first | exact .inl rfl | exact .inr rfl | assumption)) (@pss_cons _ _ _ _ _ (@ps_set _ _ (5) _ _ _ _ sc_piece.nd rfl (by first | exact Or.inl rfl | exact Or.inr rfl) (@pe_c _ _ _ _ _ _ _ _ _ _ _ C.text hr (@pa_cons _ _ _ _ _ (@pv _ 0 _ _ (by rfl) (by first | exact Or.inl rfl | exact Or.inr (Or.inl rfl) | exact Or.inr (Or.inr rfl)) (by decide) (by decide)) (@pa_cons _ _ _ _ _ (@pv _ 4 _ _ (by rfl) (by first | exact Or.inl rfl | exact Or.inr (Or.inl rfl) | exact Or.inr (Or.inr rfl)) (by decide) (by decide)) (@pa_cons _ _ _ _ _ (@pe_op _ _ _ _ _ _ _ _ op_addU pe_int (@pe_c _ _ _ _ _ _ _ _ _ _ _ C.draw hr (@pa_cons _ _ _ _ _ (@pv _ 0 _ _ (by rfl) (by first | exact Or.inl rfl | exact Or.inr (Or.inl rfl) | exact Or.inr (Or.inr rfl)) (by decide) (by decide)) (@pa_cons _ _ _ _ _ pe_int pa_nil (by rfl)) (by rfl)) (by decide) (by rfl) (by decide) (by rfl) (by rfl))) pa_nil (by rfl)) (by rfl)) (by rfl)) (by decide) (by rfl) (by decide) (by rfl) (by rfl)) (by rfl) (by first | exact .inl rfl | exact .inr rfl | assumption)) (@pss_cons _ _ _ _ _ (@ps_set _ _ (6) _ _ _ _ sc_piece.nd rfl (by first | exact Or.inl rfl | exact Or.inr rfl) (@pe_op _ _ _ _ _ _ _ _ op_addU pe_int (@pe_c _ _ _ _ _ _ _ _ _ _ _ C.draw hr (@pa_cons _ _ _ _ _ (@pv _ 0 _ _ (by rfl) (by first | exact Or.inl rfl | exact Or.inr (Or.inl rfl) | exact Or.inr (Or.inr rfl)) (by decide) (by decide)) (@pa_cons _ _ _ _ _ pe_int pa_nil (by rfl)) (by rfl)) (by decide) (by rfl) (by decide) (by rfl) (by rfl))) (by rfl) (by first | exact .inl rfl | exact .inr rfl | assumption)) (@pss_cons _ _ _ _ _ (@ps_set _ _ (7) _ _ _ _ sc_piece.nd rfl (by first | exact Or.inl rfl | exact Or.inr rfl) (@pe_ix _ _ _ _ _ _ _ (ix_k K rfl) (@pe_lst _ _ _ _ (@pa_cons _ _ _ _ _ (@pe_c _ _ _ _ _ _ _ _ _ _ _ C.draw hr (@pa_cons _ _ _ _ _ (@pv _ 0 _ _ (by rfl) (by first | exact Or.inl rfl | exact Or.inr (Or.inl rfl) | exact Or.inr (Or.inr rfl)) (by decide) (by decide)) (@pa_cons _ _ _ _ _ pe_int pa_nil (by rfl)) (by rfl)) (by decide) (by rfl) (by decide) (by rfl) (by rfl)) (@pa_cons _ _ _ _ _ (@pe_c _ _ _ _ _ _ _ _ _ _ _ C.draw hr (@pa_cons _ _ _ _ _ (@pv _ 0 _ _ (by rfl) (by first | exact Or.inl rfl | exact Or.inr (Or.inl rfl) | exact Or.inr (Or.inr rfl)) (by decide) (by decide)) (@pa_cons _ _ _ _ _ (@pe_op _ _ _ _ _ _ _ _ op_pow pe_int pe_int) pa_nil (by rfl)) (by rfl)) (by decide) (by rfl) (by decide) (by rfl) (by rfl)) (@pa_cons _ _ _ _ _ (@pe_op _ _ _ _ _ _ _ _ op_sub (@pe_op _ _ _ _ _ _ _ _ op_pow pe_int pe_int) pe_int) pa_nil (by rfl)) (by rfl)) (by rfl))) (@pe_c _ _ _ _ _ _ _ _ _ _ _ C.draw hr (@pa_cons _ _ _ _ _ (@pv _ 0 _ _ (by rfl) (by first | exact Or.inl rfl | exact Or.inr (Or.inl rfl) | exact Or.inr (Or.inr rfl)) (by decide) (by decide)) (@pa_cons _ _ _ _ _ pe_int pa_nil (by rfl)) (by rfl)) (by decide) (by rfl) (by decide) (by rfl) (by rfl)) (fun _ _=>rfl)) (by rfl) (by first | exact .inl rfl | exact .inr rfl | assumption)) (@pss_cons _ _ _ _ _ (@ps_if _ _ _ _ _ _ _ _ (@pt_cmpR _ _ _ _ _ _ _ _ (eq_k K rfl hr) (@pv _ 3 _ _ (by rfl) (by first | exact Or.inl rfl | exact Or.inr (Or.inl rfl) | exact Or.inr (Or.inr rfl)) (by decide) (by decide)) pe_int (nomark _)) (@pss_one _ _ _ (@ps_ret _ _ _ _ (@pe_lst _ _ _ _ (@pa_cons _ _ _ _ _ (@pe_tup _ _ _ _ _ (@pa_cons _ _ _ _ _ (@pe_tup _ _ _ _ _ (@pa_cons _ _ _ _ _ pe_str (@pa_cons _ _ _ _ _ (@pv _ 6 _ _ (by rfl) (by first | exact Or.inl rfl | exact Or.inr (Or.inl rfl) | exact Or.inr (Or.inr rfl)) (by decide) (by decide)) pa_nil (by rfl)) (by rfl))) (@pa_cons _ _ _ _ _ (@pe_op _ _ _ _ _ _ _ _ op_addU (@pe_op _ _ _ _ _ _ _ _ op_addU pe_str (@pe_ix _ _ _ _ _ _ _ (ix_k K rfl) (@pe_lst _ _ _ _ (@pa_cons _ _ _ _ _ pe_str (@pa_cons _ _ _ _ _ (@pe_callTy _ _ _ _ _ _ _ _ _ call_strI (by rfl) T.b_str (by decide +kernel) (@pa_cons _ _ _ _ _ (@pv _ 6 _ _ (by rfl) (by first | exact Or.inl rfl | exact Or.inr (Or.inl rfl) | exact Or.inr (Or.inr rfl)) (by decide) (by decide)) pa_nil (by rfl)) (by decide) (by decide) (by rfl) (by rfl)) pa_nil (by rfl)) (by rfl))) (@pe_callTy _ _ _ _ _ _ _ _ _ call_intU (by rfl) T.b_int (by decide +kernel) (@pa_cons _ _ _ _ _ (@pe_cmpR _ _ _ _ _ _ _ _ op_gt (@pv _ 6 _ _ (by rfl) (by first | exact Or.inl rfl | exact Or.inr (Or.inl rfl) | exact Or.inr (Or.inr rfl)) (by decide) (by decide)) pe_int (nomark _)) pa_nil (by rfl)) (by decide) (by decide) (by rfl) (by rfl)) (fun _ _=>rfl))) pe_str) pa_nil (by rfl)) (by rfl))) pa_nil (by rfl))))) pss_nil) (@pss_cons _ _ _ _ _ (@ps_if _ _ _ _ _ _ _ _ (@pt_j _ _ _ (@PW.pt _ _ _ (@pw_and _ _ _ _ _ _ _ (@pt_cmpR _ _ _ _ _ _ _ _ (eq_k K rfl hr) (@pv _ 3 _ _ (by rfl) (by first | exact Or.inl rfl | exact Or.inr (Or.inl rfl) | exact Or.inr (Or.inr rfl)) (by decide) (by decide)) pe_int (nomark _)) (@pw_and1 _ _ _ _ (@pt_cmpR _ _ _ _ _ _ _ _ op_gt (@pe_callB _ _ _ _ _ _ _ _ _ (len_k K rfl) (by rfl) T.b_len PySem.boot_len (@pa_cons _ _ _ _ _ (@pv _ 2 _ _ (by rfl) (by first | exact Or.inl rfl | exact Or.inr (Or.inl rfl) | exact Or.inr (Or.inr rfl)) (by decide) (by decide)) pa_nil (by rfl)) (by decide) (by decide) (by rfl) (by rfl)) pe_int (nomark _)))))) (@pss_cons _ _ _ _ _ (@ps_set _ _ (8) _ _ _ _ sc_piece.nd rfl (by first | exact Or.inl rfl | exact Or.inr rfl) (@pe_ix _ _ _ _ _ _ _ (ix_k K rfl) (@pv _ 2 _ _ (by rfl) (by first | exact Or.inl rfl | exact Or.inr (Or.inl rfl) | exact Or.inr (Or.inr rfl)) (by decide) (by decide)) (@pe_c _ _ _ _ _ _ _ _ _ _ _ C.draw hr (@pa_cons _ _ _ _ _ (@pv _ 0 _ _ (by rfl) (by first | exact Or.inl rfl | exact Or.inr (Or.inl rfl) | exact Or.inr (Or.inr rfl)) (by decide) (by decide)) (@pa_cons _ _ _ _ _ (@pe_callB _ _ _ _ _ _ _ _ _ (len_k K rfl) (by rfl) T.b_len PySem.boot_len (@pa_cons _ _ _ _ _ (@pv _ 2 _ _ (by rfl) (by first | exact Or.inl rfl | exact Or.inr (Or.inl rfl) | exact Or.inr (Or.inr rfl)) (by decide) (by decide)) pa_nil (by rfl)) (by decide) (by decide) (by rfl) (by rfl)) pa_nil (by rfl)) (by rfl)) (by decide) (by rfl) (by decide) (by rfl) (by rfl)) (fun _ _=>rfl)) (by rfl) (by first | exact .inl rfl | exact .inr rfl | assumption)) (@pss_one _ _ _ (@ps_ret _ _ _ _ (@pe_lst _ _ _ _ (@pa_cons _ _ _ _ _ (@pe_tup _ _ _ _ _ (@pa_cons _ _ _ _ _ (@pe_tup _ _ _ _ _ (@pa_cons _ _ _ _ _ pe_str (@pa_cons _ _ _ _ _ (@pv _ 8 _ _ (by rfl) (by first | exact Or.inl rfl | exact Or.inr (Or.inl rfl) | exact Or.inr (Or.inr rfl)) (by decide) (by decide)) (@pa_cons _ _ _ _ _ (@pv _ 7 _ _ (by rfl) (by first | exact Or.inl rfl | exact Or.inr (Or.inl rfl) | exact Or.inr (Or.inr rfl)) (by decide) (by decide)) pa_nil (by rfl)) (by rfl)) (by rfl))) (@pa_cons _ _ _ _ _ (@pe_op _ _ _ _ _ _ _ _ op_addU (@pe_op _ _ _ _ _ _ _ _ op_addU (@pe_op _ _ _ _ _ _ _ _ op_addU (@pe_op _ _ _ _ _ _ _ _ op_addU pe_str (@pe_callTy _ _ _ _ _ _ _ _ _ call_strI (by rfl) T.b_str (by decide +kernel) (@pa_cons _ _ _ _ _ (@pv _ 8 _ _ (by rfl) (by first | exact Or.inl rfl | exact Or.inr (Or.inl rfl) | exact Or.inr (Or.inr rfl)) (by decide) (by decide)) pa_nil (by rfl)) (by decide) (by decide) (by rfl) (by rfl))) pe_str) (@pe_callTy _ _ _ _ _ _ _ _ _ call_strI (by rfl) T.b_str (by decide +kernel) (@pa_cons _ _ _ _ _ (@pv _ 7 _ _ (by rfl) (by first | exact Or.inl rfl | exact Or.inr (Or.inl rfl) | exact Or.inr (Or.inr rfl)) (by decide) (by decide)) pa_nil (by rfl)) (by decide) (by decide) (by rfl) (by rfl))) pe_str) pa_nil (by rfl)) (by rfl))) pa_nil (by rfl)))))) pss_nil) (@pss_cons _ _ _ _ _ (@ps_if _ _ _ _ _ _ _ _ (@pt_j _ _ _ (@PW.pt _ _ _ (@pw_and _ _ _ _ _ _ _ (@pt_cmpR _ _ _ _ _ _ _ _ op_lt (@pv _ 3 _ _ (by rfl) (by first | exact Or.inl rfl | exact Or.inr (Or.inl rfl) | exact Or.inr (Or.inr rfl)) (by decide) (by decide)) pe_int (nomark _)) (@pw_and _ _ _ _ _ _ _ (@pt_cmpR _ _ _ _ _ _ _ _ op_gt (@pv _ 1 _ _ (by rfl) (by first | exact Or.inl rfl | exact Or.inr (Or.inl rfl) | exact Or.inr (Or.inr rfl)) (by decide) (by decide)) pe_int (nomark _)) (@pw_and1 _ _ _ _ (@pt_cmpR _ _ _ _ _ _ _ _ op_gt (@pv _ 3 _ _ (by rfl) (by first | exact Or.inl rfl | exact Or.inr (Or.inl rfl) | exact Or.inr (Or.inr rfl)) (by decide) (by decide)) pe_int (nomark _))))))) (@pss_cons _ _ _ _ _ (@ps_set _ _ (8) _ _ _ _ sc_piece.nd rfl (by first | exact Or.inl rfl | exact Or.inr rfl) (@pe_op _ _ _ _ _ _ _ _ op_addU pe_int (@pe_c _ _ _ _ _ _ _ _ _ _ _ C.draw hr (@pa_cons _ _ _ _ _ (@pv _ 0 _ _ (by rfl) (by first | exact Or.inl rfl | exact Or.inr (Or.inl rfl) | exact Or.inr (Or.inr rfl)) (by decide) (by decide)) (@pa_cons _ _ _ _ _ (@pv _ 1 _ _ (by rfl) (by first | exact Or.inl rfl | exact Or.inr (Or.inl rfl) | exact Or.inr (Or.inr rfl)) (by decide) (by decide)) pa_nil (by rfl)) (by rfl)) (by decide) (by rfl) (by decide) (by rfl) (by rfl))) (by rfl) (by first | exact .inl rfl | exact .inr rfl | assumption)) (@pss_cons _ _ _ _ _ (@ps_set _ _ (9) _ _ _ _ sc_piece.nd rfl (by first | exact Or.inl rfl | exact Or.inr rfl) (@pe_ix _ _ _ _ _ _ _ (ix_k K rfl) (@pe_lst _ _ _ _ (@pa_cons _ _ _ _ _ pe_str (@pa_cons _ _ _ _ _ pe_str (@pa_cons _ _ _ _ _ pe_str (@pa_cons _ _ _ _ _ pe_str pa_nil (by rfl)) (by rfl)) (by rfl)) (by rfl))) (@pe_op _ _ _ _ _ _ _ _ op_sub (@pv _ 3 _ _ (by rfl) (by first | exact Or.inl rfl | exact Or.inr (Or.inl rfl) | exact Or.inr (Or.inr rfl)) (by decide) (by decide)) pe_int) (fun _ _=>rfl)) (by rfl) (by first | exact .inl rfl | exact .inr rfl | assumption)) (@pss_cons _ _ _ _ _ (@ps_if _ _ _ _ _ _ _ _ (@pt_cmpR _ _ _ _ _ _ _ _ (eq_k K rfl hr) (@pv _ 9 _ _ (by rfl) (by first | exact Or.inl rfl | exact Or.inr (Or.inl rfl) | exact Or.inr (Or.inr rfl)) (by decide) (by decide)) pe_str (nomark _)) (@pss_one _ _ _ (@ps_ret _ _ _ _ (@pe_lst _ _ _ _ (@pa_cons _ _ _ _ _ (@pe_tup _ _ _ _ _ (@pa_cons _ _ _ _ _ (@pe_tup _ _ _ _ _ (@pa_cons _ _ _ _ _ (@pv _ 9 _ _ (by rfl) (by first | exact Or.inl rfl | exact Or.inr (Or.inl rfl) | exact Or.inr (Or.inr rfl)) (by decide) (by decide)) (@pa_cons _ _ _ _ _ (@pv _ 8 _ _ (by rfl) (by first | exact Or.inl rfl | exact Or.inr (Or.inl rfl) | exact Or.inr (Or.inr rfl)) (by decide) (by decide)) (@pa_cons _ _ _ _ _ (@pv _ 6 _ _ (by rfl) (by first | exact Or.inl rfl | exact Or.inr (Or.inl rfl) | exact Or.inr (Or.inr rfl)) (by decide) (by decide)) pa_nil (by rfl)) (by rfl)) (by rfl))) (@pa_cons _ _ _ _ _ (@pe_op _ _ _ _ _ _ _ _ op_addU (@pe_op _ _ _ _ _ _ _ _ op_addU (@pe_op _ _ _ _ _ _ _ _ op_addU (@pe_op _ _ _ _ _ _ _ _ op_addU pe_str (@pe_callTy _ _ _ _ _ _ _ _ _ call_strI (by rfl) T.b_str (by decide +kernel) (@pa_cons _ _ _ _ _ (@pv _ 8 _ _ (by rfl) (by first | exact Or.inl rfl | exact Or.inr (Or.inl rfl) | exact Or.inr (Or.inr rfl)) (by decide) (by decide)) pa_nil (by rfl)) (by decide) (by decide) (by rfl) (by rfl))) pe_str) (@pe_callTy _ _ _ _ _ _ _ _ _ call_strI (by rfl) T.b_str (by decide +kernel) (@pa_cons _ _ _ _ _ (@pv _ 6 _ _ (by rfl) (by first | exact Or.inl rfl | exact Or.inr (Or.inl rfl) | exact Or.inr (Or.inr rfl)) (by decide) (by decide)) pa_nil (by rfl)) (by decide) (by decide) (by rfl) (by rfl))) pe_str) pa_nil (by rfl)) (by rfl))) pa_nil (by rfl))))) pss_nil) (@pss_one _ _ _ (@ps_ret _ _ _ _ (@pe_lst _ _ _ _ (@pa_cons _ _ _ _ _ (@pe_tup _ _ _ _ _ (@pa_cons _ _ _ _ _ (@pe_tup _ _ _ _ _ (@pa_cons _ _ _ _ _ (@pv _ 9 _ _ (by rfl) (by first | exact Or.inl rfl | exact Or.inr (Or.inl rfl) | exact Or.inr (Or.inr rfl)) (by decide) (by decide)) (@pa_cons _ _ _ _ _ (@pv _ 8 _ _ (by rfl) (by first | exact Or.inl rfl | exact Or.inr (Or.inl rfl) | exact Or.inr (Or.inr rfl)) (by decide) (by decide)) pa_nil (by rfl)) (by rfl))) (@pa_cons _ _ _ _ _ (@pe_op _ _ _ _ _ _ _ _ op_addU (@pe_op _ _ _ _ _ _ _ _ op_addU (@pe_op _ _ _ _ _ _ _ _ op_addU pe_str (@pe_callTy _ _ _ _ _ _ _ _ _ call_strI (by rfl) T.b_str (by decide +kernel) (@pa_cons _ _ _ _ _ (@pv _ 8 _ _ (by rfl) (by first | exact Or.inl rfl | exact Or.inr (Or.inl rfl) | exact Or.inr (Or.inr rfl)) (by decide) (by decide)) pa_nil (by rfl)) (by decide) (by decide) (by rfl) (by rfl))) (@pe_ix _ _ _ _ _ _ _ (ix_k K rfl) (@pe_lst _ _ _ _ (@pa_cons _ _ _ _ _ pe_str (@pa_cons _ _ _ _ _ pe_str (@pa_cons _ _ _ _ _ pe_str pa_nil (by rfl)) (by rfl)) (by rfl))) (@pe_op _ _ _ _ _ _ _ _ op_sub (@pv _ 3 _ _ (by rfl) (by first | exact Or.inl rfl | exact Or.inr (Or.inl rfl) | exact Or.inr (Or.inr rfl)) (by decide) (by decide)) pe_int) (fun _ _=>rfl))) pe_str) pa_nil (by rfl)) (by rfl))) pa_nil (by rfl)))))))) pss_nil) (@pss_cons _ _ _ _ _ (@ps_if _ _ _ _ _ _ _ _ (@pt_cmpR _ _ _ _ _ _ _ _ (eq_k K rfl hr) (@pv _ 3 _ _ (by rfl) (by first | exact Or.inl rfl | exact Or.inr (Or.inl rfl) | exact Or.inr (Or.inr rfl)) (by decide) (by decide)) pe_int (nomark _)) (@pss_one _ _ _ (@ps_ret _ _ _ _ (@pe_lst _ _ _ _ (@pa_cons _ _ _ _ _ (@pe_tup _ _ _ _ _ (@pa_cons _ _ _ _ _ (@pe_tup _ _ _ _ _ (@pa_cons _ _ _ _ _ pe_str pa_nil (by rfl))) (@pa_cons _ _ _ _ _ pe_str pa_nil (by rfl)) (by rfl))) (@pa_cons _ _ _ _ _ (@pe_tup _ _ _ _ _ (@pa_cons _ _ _ _ _ (@pe_tup _ _ _ _ _ (@pa_cons _ _ _ _ _ pe_str (@pa_cons _ _ _ _ _ (@pv _ 5 _ _ (by rfl) (by first | exact Or.inl rfl | exact Or.inr (Or.inl rfl) | exact Or.inr (Or.inr rfl)) (by decide) (by decide)) pa_nil (by rfl)) (by rfl))) (@pa_cons _ _ _ _ _ (@pv _ 5 _ _ (by rfl) (by first | exact Or.inl rfl | exact Or.inr (Or.inl rfl) | exact Or.inr (Or.inr rfl)) (by decide) (by decide)) pa_nil (by rfl)) (by rfl))) pa_nil (by rfl)) (by rfl))))) pss_nil) (@pss_one _ _ _ (@ps_ret _ _ _ _ (@pe_lst _ _ _ _ (@pa_cons _ _ _ _ _ (@pe_tup _ _ _ _ _ (@pa_cons _ _ _ _ _ (@pe_tup _ _ _ _ _ (@pa_cons _ _ _ _ _ pe_str (@pa_cons _ _ _ _ _ (@pv _ 5 _ _ (by rfl) (by first | exact Or.inl rfl | exact Or.inr (Or.inl rfl) | exact Or.inr (Or.inr rfl)) (by decide) (by decide)) pa_nil (by rfl)) (by rfl))) (@pa_cons _ _ _ _ _ (@pv _ 5 _ _ (by rfl) (by first | exact Or.inl rfl | exact Or.inr (Or.inl rfl) | exact Or.inr (Or.inr rfl)) (by decide) (by decide)) pa_nil (by rfl)) (by rfl))) pa_nil (by rfl)))))))))))))),?_⟩
    refine⟨_,rfl,a,b,8,rfl,F,by decide,by decide,fun wy H1 w0 w1 fd1 => ?_⟩
    refine⟨rfl,by show 2≤sizeLine;decide,fun l hl => ?_⟩
    have fdl:Fd a b H (upd H1 l (.lst [.str NSs,.str (Str.ofString "a-0")])):=fd1.new hl
    refine⟨_,rfl,a,b,2,rfl,fdl.feed,by decide,by decide,fun r H2 r0 r1 fd2 => ?_⟩
    have hla:l≠a:=fun z=>fd1.feed.na hl z.symm
    have hl1:=fd2.at upd_same hla
    obtain⟨x,hx1,hx2⟩:=atI_lt (xs := [V.str NSs,V.str (Str.ofString "a-0")]) r0 (by simpa using r1)
    refine .inl ⟨l,_,r,x,rfl,rfl,SqL.of hl1,hx2,?_⟩
    obtain⟨g,rfl,g0,g1,g2⟩:∃ g:Str,x = .str g∧0<g.length∧g.length≤1000∧∀ c∈tl g,c∈NS:=by
      have hx:=List.mem_of_getElem? hx1
      simp only [List.mem_cons,List.not_mem_nil,or_false] at hx
      rcases hx with rfl | rfl
      · exact⟨_,rfl,by rw [ns_len];decide,by rw [ns_len];decide,fun c h=>h⟩
      · exact⟨_,rfl,by decide +kernel,by decide +kernel,by decide +kernel⟩
    have fdA:=fdl.trans fd2
    refine⟨_,rfl,_,rfl,_,rfl,a,b,4,rfl,fdA.feed,by decide,by decide,fun m H3 m0 m1 fd3 => .inl ⟨_,_,rfl,rfl,?_⟩⟩
    refine⟨a,b,g,_,rfl,fd3.feed,g0,g1,by lia,by lia,fun t H4 ht hc fd4 => ?_⟩
    have htok:(Pc.tx t).ok:=⟨fun z=>by rw [z] at ht;simp at ht;lia,fun c h=>g2 c (hc c h)⟩
    have htl:t.length≤4:=by lia
    have fdB:=(fdA.trans fd3).trans fd4
    refine⟨_,rfl,a,b,9,rfl,fdB.feed,by decide,by decide,fun wd H5 wd0 wd1 fd5 => .inl ⟨_,_,rfl,rfl,?_⟩⟩
    obtain⟨v,hv,hv1,hv9⟩:∃ v:Nat,(1:Int)+wd=(v:Int)∧1≤v∧v≤9:=⟨(1+wd).toNat,by lia,by lia,by lia⟩
    rw [hv]
    have fdC:=fdB.trans fd5
    refine⟨_,rfl,a,b,10,rfl,fdC.feed,by decide,by decide,fun s1 H6 s10 s11 fd6 => ?_⟩
    have fdD:=fdC.trans fd6
    refine⟨_,rfl,_,_,rfl,rfl,⟨by decide,by decide,by decide⟩,a,b,_,rfl,fdD.feed,by decide,by decide,fun s2 H7 s20 s21 fd7 => ?_⟩
    have fdE:=fdD.trans fd7
    refine⟨_,_,rfl,rfl,⟨by decide,by decide,by decide⟩,_,_,rfl,rfl,by show 3≤sizeLine;decide,fun l2 hl2 => ?_⟩
    have fdF:=fdE.new (o := .lst [.int s1,.int s2,.int ((10:Int) ^ (9:Int).toNat - 1)]) hl2
    refine⟨_,rfl,a,b,3,rfl,fdF.feed,by decide,by decide,fun r3 H8 r30 r31 fd8 => ?_⟩
    have hl2a:l2≠a:=fun z=>fdE.feed.na hl2 z.symm
    have hl28:=fd8.at upd_same hl2a
    obtain⟨y,hy1,hy2⟩:=atI_lt (xs := [V.int s1,V.int s2,V.int ((10:Int) ^ (9:Int).toNat - 1)]) r30 (by simpa using r31)
    refine .inl ⟨l2,_,r3,y,rfl,rfl,SqL.of hl28,hy2,?_⟩
    have e9:((10:Int) ^ (9:Int).toNat)=1000000000:=by decide
    obtain⟨sm,rfl,hsm⟩:∃ sm:Nat,y = .int (sm:Int)∧sm<10 ^ 9:=by
      have hy:=List.mem_of_getElem? hy1
      simp only [List.mem_cons,List.not_mem_nil,or_false] at hy
      rw [e9] at hy s21
      rcases hy with rfl | rfl | rfl
      · exact⟨s1.toNat,by congr 1;lia,by lia⟩
      · exact⟨s2.toNat,by congr 1;lia,by lia⟩
      · exact⟨999999999,rfl,by decide⟩
    have fdG:=fdF.trans fd8
    have hM8:H8 M=some (.lst (vI [1,2,3,4,5,6,7,8,9])):=fdG.at hM hMa
    have l123:(Str.ofString "{").length=1:=by decide +kernel
    have l125:(Str.ofString "}").length=1:=by decide +kernel
    have l43:(Str.ofString "+").length=1:=by decide +kernel
    have l122:(Str.ofString "z").length=1:=by decide +kernel
    have l117:(Str.ofString "u").length=1:=by decide +kernel
    have l108:(Str.ofString "l").length=1:=by decide +kernel
    have l0:(Str.ofString "").length=0:=by decide +kernel
    have ln:(Str.ofString "{n").length=2:=by decide +kernel
    have lv:=dg1 hv9
    refine⟨_,rfl,.inl ⟨rfl,_,rfl,?_⟩⟩
    refine ite2 (fun h6 => ?_) (fun h6 => ?_)
    · refine⟨_,rfl,by show 2≤sizeLine;decide,fun T1 hT1=>⟨_,rfl,v,rfl,by lia,by show 2≤sizeLine;decide,fun l3 hl3 => ?_⟩⟩
      refine⟨_,rfl,_,_,rfl,rfl,.inl (.inr ⟨_,rfl,?_⟩)⟩
      have fdT:=(fdG.new hT1).new (o := .lst [.str (Str.ofString ""),.str (Str.ofString (toString (v:Int)))]) hl3
      have q1:=((Same.refl _).new (o := .lst [.str (Str.ofString ""),.str (Str.ofString (toString (v:Int)))]) hl3) T1 _ upd_same
      obtain⟨z,hz1,hz2,hz3⟩:∃ z:Str,atI [V.str (Str.ofString ""),V.str (Str.ofString (toString (v:Int)))] (if decide ((1:Int)<(v:Int))=true then 1 else 0)=some (.str z)∧z.length≤1 ∧ [123,110]++tl z ++ [125]=(Pc.cnt v).wr:=by
        by_cases hv2:v=1
        · subst hv2
          exact⟨Str.ofString "",rfl,by rw [l0];decide,by rw [t0];rfl⟩
        · refine⟨Str.ofString (toString (v:Int)),?_,by lia,?_⟩
          · rw [decide_eq_true (show (1:Int)<(v:Int) by lia)];rfl
          · rw [tdg hv9];show _=123::110::cntW v;unfold cntW;rw [if_neg hv2];rfl
      refine .inl ⟨l3,_,_,_,rfl,rfl,SqL.of upd_same,hz1,.inr (.inl ⟨_,_,rfl,rfl,TX.small (by lia),.inr (.inl ⟨_,_,rfl,rfl,TX.small (by rw [app_len];lia),?_⟩)⟩)⟩
      refine⟨by show 2≤sizeLine;decide,fun T2 hT2=>⟨by show 1≤sizeLine;decide,fun L hL => ?_⟩⟩
      refine one_go (p := .cnt v) k fdT q1 hT2 hL ?_ ⟨hv1,hv9⟩ (fun h=>(by cases h)) ?_
      · apply ext;refine Eq.trans ?_ (tl_mk _).symm;rw [tl_app,tl_app,tn,t125,hz3]
      · rw [← hz3,List.length_append,List.length_append,← len];simp only [List.length_cons,List.length_nil];lia
    refine⟨fun b H' => H' = H8∧b=decide (wy=5),?_,?_⟩
    rotate_left
    · refine⟨_,rfl,.inl ⟨rfl,_,rfl,?_⟩⟩
      refine iteB (fun h => ?_) (fun h=>⟨rfl,?_⟩)
      · refine⟨_,rfl,_,_,rfl,.inl ⟨_,SqL.of hM8,rfl⟩,_,_,rfl,rfl,_,rfl,rfl,?_⟩
        have h5:wy=5:=by have:=of_decide_eq_true h;injection this
        rw [decide_eq_true h5]
        rfl
      · have h5:wy≠5:=fun z=>of_decide_eq_false h (by rw [z])
        rw [decide_eq_false h5]
    rintro b H9 ⟨rfl,rfl⟩
    refine ite2 (fun h5 => ?_) (fun h5 => ?_)
    · refine⟨_,rfl,_,rfl,_,rfl,_,_,rfl,.inl ⟨_,SqL.of hM8,rfl⟩,a,b,9,rfl,fdG.feed,by decide,by decide,fun g0 H10 g00 g01 fd10 => ?_⟩
      obtain⟨y,hy1,hy2⟩:=atI_lt (xs:=vI [1,2,3,4,5,6,7,8,9]) g00 (by simpa using g01)
      refine .inl ⟨M,_,g0,y,rfl,rfl,SqL.of (fd10.at hM8 hMa),hy2,?_⟩
      obtain⟨n,rfl,hn1,hn9⟩:∃ n:Nat,y = .int (n:Int)∧1≤n∧n≤9:=by
        have hy:=List.mem_of_getElem? hy1
        simp only [vI,List.map_cons,List.map_nil,List.mem_cons,List.not_mem_nil,or_false] at hy
        rcases hy with rfl | rfl | rfl | rfl | rfl | rfl | rfl | rfl | rfl <;> exact⟨_,rfl,by decide,by decide⟩
      have lg:=dg1 hn9
      have lm:(Str.ofString (toString (sm:Int))).length≤9:=by rw [dgl];exact dg_len 8 sm hsm
      have fdH:=fdG.trans fd10
      refine⟨_,rfl,_,rfl,by show 3≤sizeLine;decide,fun T1 hT1=>⟨_,rfl,n,rfl,by lia,.inr (.inl ⟨_,_,rfl,rfl,TX.small (by lia),.inr (.inl ⟨_,_,rfl,rfl,TX.small (by rw [app_len];lia),?_⟩)⟩)⟩⟩
      refine⟨_,rfl,sm,rfl,by lia,.inr (.inl ⟨_,_,rfl,rfl,TX.small (by rw [app_len,app_len];lia),.inr (.inl ⟨_,_,rfl,rfl,TX.small (by rw [app_len,app_len,app_len];lia),?_⟩)⟩)⟩
      refine⟨by show 2≤sizeLine;decide,fun T2 hT2=>⟨by show 1≤sizeLine;decide,fun L hL => ?_⟩⟩
      refine one_go (p := .more n sm) k (fdH.new hT1) upd_same hT2 hL ?_ ⟨⟨hn1,hn9⟩,hsm⟩ (fun h=>(by cases h)) ?_
      · apply ext;refine Eq.trans ?_ (tl_mk _).symm;rw [tl_app,tl_app,tl_app,tl_app,t123,t43,t125,tdg hn9];rfl
      · rw [dgl] at lm;show (123::(48+n)::43::(dg sm ++ [125])).length≤30;simp only [List.length_cons,List.length_append,List.length_nil];lia
    refine⟨fun b H' => H' = H9∧b=decide (wy<5∧0<wy),?_,?_⟩
    rotate_left
    · refine⟨_,rfl,_,_,rfl,rfl,_,rfl,?_⟩
      refine iteB (fun h => ?_) (fun h=>⟨rfl,?_⟩)
      · refine⟨_,rfl,_,_,rfl,rfl,_,rfl,?_⟩
        refine iteB (fun h2 => ?_) (fun h2=>absurd (of_decide_eq_false h2) (by decide))
        refine⟨_,rfl,_,_,rfl,rfl,_,rfl,rfl,?_⟩
        exact decide_eq_decide.mpr ⟨fun z=>⟨of_decide_eq_true h,z⟩,fun z=>z.2⟩
      · rw [decide_eq_false];exact fun z=>of_decide_eq_false h z.1
    rintro b H10 ⟨rfl,rfl⟩
    refine ite2 (fun h4 => ?_) (fun h4 => ?_)
    · have hw4:=of_decide_eq_true h4
      refine⟨_,rfl,_,rfl,a,b,9,rfl,fdG.feed,by decide,by decide,fun g0 H11 g00 g01 fd11 => .inl ⟨_,_,rfl,rfl,?_⟩⟩
      obtain⟨n,hn,hn1,hn9⟩:∃ n:Nat,(1:Int)+g0=(n:Int)∧1≤n∧n≤9:=⟨(1+g0).toNat,by lia,by lia,by lia⟩
      rw [hn]
      have lg:=dg1 hn9
      have fdH:=fdG.trans fd11
      refine⟨by show 4≤sizeLine;decide,fun l4 hl4=>⟨_,rfl,_,_,rfl,rfl,?_⟩⟩
      have fdI:=fdH.new (o := .lst [.str (Str.ofString "gap"),.str (Str.ofString "great"),.str (Str.ofString "small"),.str (Str.ofString "noughts")]) hl4
      have hway:wy=1∨wy=2∨wy=3∨wy=4:=by lia
      rcases hway with rfl | rfl | rfl | rfl
      · refine .inl ⟨l4,_,_,.str (Str.ofString "gap"),rfl,rfl,SqL.of upd_same,rfl,_,rfl,.inl ⟨rfl,_,rfl,?_⟩⟩
        rw [wnn (x := "gap") (y := "noughts") (by decide +kernel)]
        refine iteF ⟨_,rfl,_,rfl,by show 2≤sizeLine;decide,fun T1 hT1=>⟨_,rfl,n,rfl,by lia,.inr (.inl ⟨_,_,rfl,rfl,TX.small (by lia),by show 3≤sizeLine;decide,fun l5 hl5 => ?_⟩)⟩⟩
        refine⟨_,rfl,_,_,rfl,rfl,.inl ⟨l5,_,_,.str (Str.ofString ""),rfl,rfl,SqL.of upd_same,rfl,.inr (.inl ⟨_,_,rfl,rfl,TX.small (by rw [app_len];lia),.inr (.inl ⟨_,_,rfl,rfl,TX.small (by rw [app_len,app_len];lia),?_⟩)⟩)⟩⟩
        refine⟨by show 2≤sizeLine;decide,fun T2 hT2=>⟨by show 1≤sizeLine;decide,fun L hL => ?_⟩⟩
        refine one_go (p := .gap n) k ((fdI.new hT1).new hl5) (((Same.refl _).new hl5) T1 _ upd_same) hT2 hL ?_ ⟨hn1,hn9⟩ (fun h=>(by cases h)) (by show 3≤30;decide)
        apply ext;refine Eq.trans ?_ (tl_mk _).symm;rw [tl_app,tl_app,tl_app,t123,t0,t125,tdg hn9];rfl
      · refine .inl ⟨l4,_,_,.str (Str.ofString "great"),rfl,rfl,SqL.of upd_same,rfl,_,rfl,.inl ⟨rfl,_,rfl,?_⟩⟩
        rw [wnn (x := "great") (y := "noughts") (by decide +kernel)]
        refine iteF ⟨_,rfl,_,rfl,by show 2≤sizeLine;decide,fun T1 hT1=>⟨_,rfl,n,rfl,by lia,.inr (.inl ⟨_,_,rfl,rfl,TX.small (by lia),by show 3≤sizeLine;decide,fun l5 hl5 => ?_⟩)⟩⟩
        refine⟨_,rfl,_,_,rfl,rfl,.inl ⟨l5,_,_,.str (Str.ofString "u"),rfl,rfl,SqL.of upd_same,rfl,.inr (.inl ⟨_,_,rfl,rfl,TX.small (by rw [app_len];lia),.inr (.inl ⟨_,_,rfl,rfl,TX.small (by rw [app_len,app_len];lia),?_⟩)⟩)⟩⟩
        refine⟨by show 2≤sizeLine;decide,fun T2 hT2=>⟨by show 1≤sizeLine;decide,fun L hL => ?_⟩⟩
        refine one_go (p := .great n) k ((fdI.new hT1).new hl5) (((Same.refl _).new hl5) T1 _ upd_same) hT2 hL ?_ ⟨hn1,hn9⟩ (fun h=>(by cases h)) (by show 4≤30;decide)
        apply ext;refine Eq.trans ?_ (tl_mk _).symm;rw [tl_app,tl_app,tl_app,t123,t117,t125,tdg hn9];rfl
      · refine .inl ⟨l4,_,_,.str (Str.ofString "small"),rfl,rfl,SqL.of upd_same,rfl,_,rfl,.inl ⟨rfl,_,rfl,?_⟩⟩
        rw [wnn (x := "small") (y := "noughts") (by decide +kernel)]
        refine iteF ⟨_,rfl,_,rfl,by show 2≤sizeLine;decide,fun T1 hT1=>⟨_,rfl,n,rfl,by lia,.inr (.inl ⟨_,_,rfl,rfl,TX.small (by lia),by show 3≤sizeLine;decide,fun l5 hl5 => ?_⟩)⟩⟩
        refine⟨_,rfl,_,_,rfl,rfl,.inl ⟨l5,_,_,.str (Str.ofString "l"),rfl,rfl,SqL.of upd_same,rfl,.inr (.inl ⟨_,_,rfl,rfl,TX.small (by rw [app_len];lia),.inr (.inl ⟨_,_,rfl,rfl,TX.small (by rw [app_len,app_len];lia),?_⟩)⟩)⟩⟩
        refine⟨by show 2≤sizeLine;decide,fun T2 hT2=>⟨by show 1≤sizeLine;decide,fun L hL => ?_⟩⟩
        refine one_go (p := .small n) k ((fdI.new hT1).new hl5) (((Same.refl _).new hl5) T1 _ upd_same) hT2 hL ?_ ⟨hn1,hn9⟩ (fun h=>(by cases h)) (by show 4≤30;decide)
        apply ext;refine Eq.trans ?_ (tl_mk _).symm;rw [tl_app,tl_app,tl_app,t123,t108,t125,tdg hn9];rfl
      · refine .inl ⟨l4,_,_,.str (Str.ofString "noughts"),rfl,rfl,SqL.of upd_same,rfl,_,rfl,.inl ⟨rfl,_,rfl,?_⟩⟩
        rw [decide_eq_true rfl]
        refine iteT ⟨_,rfl,_,rfl,_,rfl,by show 3≤sizeLine;decide,fun T1 hT1=>⟨_,rfl,n,rfl,by lia,.inr (.inl ⟨_,_,rfl,rfl,TX.small (by lia),.inr (.inl ⟨_,_,rfl,rfl,TX.small (by rw [app_len];lia),?_⟩)⟩)⟩⟩
        refine⟨_,rfl,v,rfl,by lia,.inr (.inl ⟨_,_,rfl,rfl,TX.small (by rw [app_len,app_len];lia),.inr (.inl ⟨_,_,rfl,rfl,TX.small (by rw [app_len,app_len,app_len];lia),?_⟩)⟩)⟩
        refine⟨by show 2≤sizeLine;decide,fun T2 hT2=>⟨by show 1≤sizeLine;decide,fun L hL => ?_⟩⟩
        refine one_go (p := .nou n v) k (fdI.new hT1) upd_same hT2 hL ?_ ⟨⟨hn1,hn9⟩,hv1,hv9⟩ (fun h=>(by cases h)) (by show 5≤30;decide)
        apply ext;refine Eq.trans ?_ (tl_mk _).symm;rw [tl_app,tl_app,tl_app,tl_app,t123,t122,t125,tdg hn9,tdg hv9];rfl
    refine⟨_,rfl,.inl ⟨rfl,_,rfl,?_⟩⟩
    refine ite2 (fun h7 => ?_) (fun h7 => ?_)
    · refine⟨by show 1≤sizeLine;decide,fun T1 hT1=>⟨by show 2≤sizeLine;decide,fun T2 hT2=>⟨_,rfl,by show 2≤sizeLine;decide,fun T3 hT3=>⟨_,rfl,by show 2≤sizeLine;decide,fun T4 hT4=>⟨by show 2≤sizeLine;decide,fun L hL => ?_⟩⟩⟩⟩⟩
      exact two_go k fdG (by apply ext;rw [tl_mk];decide +kernel) hT1 hT2 hT3 hT4 hL htok (by lia)
    refine⟨_,rfl,by show 2≤sizeLine;decide,fun T1 hT1=>⟨_,rfl,by show 2≤sizeLine;decide,fun T2 hT2=>⟨by show 1≤sizeLine;decide,fun L hL => ?_⟩⟩⟩
    exact one_go (p := .tx t) k (fdG.new hT1) upd_same hT2 hL rfl htok (fun h=>(by cases h)) (by show t.length≤30;lia)
end
end K
set_option maxHeartbeats 4000000
namespace K
open PySem L2 TX
section
variable {P:Program} {w:World} {K:PySem.W.Frag} {mg:Str→Option Value} {base:Heap}
theorem ref_get {Ts:List Addr} {i:Nat} {x:V} (h:(Ts.map V.ref)[i]? = some x):∃ T,Ts[i]? = some T∧x = .ref T:=by
  rw [List.getElem?_map] at h
  cases hz:Ts[i]? with
  | none=>rw [hz] at h;cases h
  | some T=>rw [hz] at h;cases h;exact⟨T,rfl,rfl⟩
structure GP (qs:List Pc):Prop where
  ok:∀ p∈qs,p.ok
  tt:∀ i x y,qs[i]? = some (.tx x)→qs[i+1]? ≠ some (.tx y)
  ii:∀ i,qs[i]? = some .into→1≤i∧qs[i - 1]? ≠ some .into
  sz:(flatP qs).length≤56
theorem GP.nil:GP []:=⟨fun p h=>(by cases h),fun i x y h=>(by simp at h),fun i h=>(by simp at h),(by simp [flatP])⟩
theorem flatP_one (p:Pc):flatP [p]=p.wr:=by simp [flatP]
theorem GP.snoc {qs:List Pc} {p:Pc} (g:GP qs) (hok:p.ok) (ht:∀ x y,p = .tx y→qs.getLast? ≠ some (.tx x)) (hi:p = .into→qs ≠ []∧qs.getLast? ≠ some .into) (hs:(flatP qs).length+p.wr.length≤56):GP (qs ++ [p]):=by
  refine⟨?_,?_,?_,?_⟩
  · intro q hq
    rcases List.mem_append.mp hq with z | z
    · exact g.ok q z
    · rw [List.mem_singleton.mp z];exact hok
  · intro i x y h1 h2
    rcases Nat.lt_trichotomy (i+1) qs.length with z | z | z
    · rw [List.getElem?_append_left (by lia)] at h1
      rw [List.getElem?_append_left z] at h2
      exact g.tt i x y h1 h2
    · rw [List.getElem?_append_left (by lia)] at h1
      rw [List.getElem?_append_right (by lia),show i+1 - qs.length=0 by lia] at h2
      have h3:p = .tx y:=by simpa using h2
      refine ht x y h3 ?_
      rw [List.getLast?_eq_getElem?,show qs.length - 1=i by lia]
      exact h1
    · rw [List.getElem?_eq_none (by simp;lia)] at h2
      cases h2
  · intro i h1
    rcases Nat.lt_or_ge i qs.length with z | z
    · rw [List.getElem?_append_left z] at h1
      obtain⟨a,b⟩:=g.ii i h1
      exact⟨a,by rw [List.getElem?_append_left (by lia)];exact b⟩
    · have hlt:=(List.getElem?_eq_some_iff.mp h1).1
      rw [List.length_append,List.length_singleton] at hlt
      have e:i=qs.length:=by lia
      subst e
      rw [List.getElem?_append_right (Nat.le_refl _),Nat.sub_self] at h1
      have hp:p = .into:=by simpa using h1
      obtain⟨a,b⟩:=hi hp
      have:=List.length_pos_iff.mpr a
      refine⟨this,?_⟩
      rw [List.getElem?_append_left (by lia),← List.getLast?_eq_getElem?]
      exact b
  · rw [flatP_app,List.length_append,flatP_one];exact hs
theorem GP.init {qs:List Pc} {p:Pc} (g:GP (qs ++ [p])):GP qs:=by
  have lt:∀ {i:Nat} {q:Pc},qs[i]? = some q→i<qs.length:=fun h=>(List.getElem?_eq_some_iff.mp h).1
  refine⟨fun q h=>g.ok q (List.mem_append_left _ h),fun i x y h1 h2 => ?_,fun i h => ?_,?_⟩
  · exact g.tt i x y (by rw [List.getElem?_append_left (lt h1)];exact h1) (by rw [List.getElem?_append_left (lt h2)];exact h2)
  · obtain⟨a,b⟩:=g.ii i (by rw [List.getElem?_append_left (lt h)];exact h)
    have:=lt h
    exact⟨a,by rwa [List.getElem?_append_left (by lia)] at b⟩
  · have:=g.sz
    rw [flatP_app,List.length_append] at this
    lia
theorem GP.merge {qs:List Pc} {x y:List Nat} (g:GP (qs ++ [.tx x])) (hy:(Pc.tx y).ok) (hs:(flatP (qs ++ [.tx x])).length+y.length≤56):GP (qs ++ [.tx (x++y)]):=by
  have hx:=g.ok (.tx x) (by simp)
  refine g.init.snoc ⟨fun z=>hx.1 (List.append_eq_nil_iff.mp z).1,fun c hc => ?_⟩ (fun x' y' _ z => ?_) (fun h=>by cases h) ?_
  · rcases List.mem_append.mp hc with z | z
    · exact hx.2 c z
    · exact hy.2 c z
  · rw [List.getLast?_eq_getElem?] at z
    have hlt:=(List.getElem?_eq_some_iff.mp z).1
    refine g.tt (qs.length - 1) x' x (by rw [List.getElem?_append_left hlt];exact z) ?_
    rw [show qs.length - 1+1=qs.length by lia,List.getElem?_append_right (Nat.le_refl _),Nat.sub_self]
    rfl
  · rw [flatP_app,List.length_append,flatP_one] at hs
    show (flatP qs).length+(x++y).length≤56
    rw [List.length_append]
    have:(Pc.tx x).wr.length=x.length:=rfl
    lia
def Pc.wd:Pc→Str
  | .tx _=>Str.ofString "text"
  | .gap _=>Str.ofString "gap"
  | .great _=>Str.ofString "great"
  | .small _=>Str.ofString "small"
  | .nou _ _=>Str.ofString "noughts"
  | .more _ _=>Str.ofString "more"
  | .cnt _=>Str.ofString "count"
  | .into=>Str.ofString "into"
def Pc.isI:Pc→Bool
  | .into=>true
  | _=>false
def Pc.isT:Pc→Bool
  | .tx _=>true
  | _=>false
theorem wd0 (p:Pc):atI p.vs 0=some (.str p.wd):=by cases p <;> rfl
theorem wdI (p:Pc):decide (V.str p.wd=V.str (Str.ofString "into"))=p.isI:=by
  rw [L2.dec_str]
  cases p <;> (simp only [Pc.wd,Pc.isI];decide +kernel)
theorem wdT (p:Pc):decide (V.str p.wd=V.str (Str.ofString "text"))=p.isT:=by
  rw [L2.dec_str]
  cases p <;> (simp only [Pc.wd,Pc.isT];decide +kernel)
theorem isT_eq {p:Pc} (h:p.isT=true):∃ x,p = .tx x:=by cases p <;> first | exact⟨_,rfl⟩ | cases h
theorem isI_eq {p:Pc} (h:p.isI=true):p = .into:=by cases p <;> first | rfl | cases h
theorem isT_ne {p:Pc} (h:p.isT=false):∀ x,p ≠ .tx x:=by intro x z;subst z;cases h
theorem HP.fd {a b L:Addr} {H H' : Hp} {ps:List Pc} (h:HP H L ps) (F:FeedAt H a b) (fd:Fd a b H H') (hL:L≠a):HP H' L ps:=by
  obtain⟨Ts,h1,h2⟩:=h.ex
  refine⟨Ts,fd.at h1 hL,h2.keep fun T xs e=>fd.at e fun z => ?_⟩
  subst z
  obtain⟨i,j,q⟩:=F.fa
  rw [q] at e;cases e
theorem HP.last {H:Hp} {L:Addr} {qs:List Pc} {q:Pc} (h:HP H L (qs ++ [q])):∃ Us U,H L=some (.lst ((Us ++ [U]).map V.ref))∧PTu H Us qs∧H U=some (.tup q.vs)∧atI ((Us ++ [U]).map V.ref) (-1)=some (.ref U):=by
  obtain⟨Ts,h1,h2⟩:=h.ex
  have hl:=h2.len
  have hne:Ts ≠ []:=fun z=>by rw [z] at hl;simp at hl
  have e:=(List.dropLast_concat_getLast hne).symm
  generalize Ts.dropLast=Us at e
  generalize Ts.getLast hne=U at e
  subst e
  have hUl:Us.length=qs.length:=by simpa using hl
  refine⟨Us,U,h1,?_,?_,ref_last Us U⟩
  · have:∀ {Us:List Addr} {qs:List Pc},Us.length=qs.length→PTu H (Us ++ [U]) (qs ++ [q])→PTu H Us qs:=by
      intro Us
      induction Us with
      | nil=>intro qs hq _;cases qs with
        | nil=>exact .nil
        | cons _ _=>cases hq
      | cons A r ih=>intro qs hq hp;cases qs with
        | nil=>cases hq
        | cons p s=>cases hp with
          | cons x y=>exact .cons x (ih (by simpa using hq) y)
    exact this hUl h2
  · obtain⟨p,p1,p2⟩:=h2.get (i:=Us.length) (T:=U) (by rw [List.getElem?_append_right (Nat.le_refl _),Nat.sub_self];rfl)
    rw [hUl,List.getElem?_append_right (Nat.le_refl _),Nat.sub_self] at p1
    cases p1
    exact p2
theorem HP.put {H:Hp} {L T:Addr} {qs:List Pc} {p:Pc} {Ts:List Addr} {xs:List V} (hL:H L=some (.lst xs)) (h2:PTu H Ts qs) (hT:H T=some (.tup p.vs)):HP (upd H L (.lst ((Ts.map V.ref) ++ [.ref T]))) L (qs ++ [p]):=by
  refine⟨Ts ++ [T],by rw [List.map_append];exact upd_same,PTu.snoc ?_ (h2.keep fun U ys e => ?_)⟩
  · rw [upd_ne (fun z=>by subst z;rw [hL] at hT;cases hT)];exact hT
  · rw [upd_ne (fun z=>by subst z;rw [hL] at e;cases e)];exact e
theorem eqv_nil2 (qs:List Pc):PyData.eqv (.list (qs.map fun p => .tuple p.ds)) (.list [])=decide (qs = []):=by
  cases qs with
  | nil=>rfl
  | cons p r=>rw [eqv_nilP (by simp)];rfl
theorem qs_len {qs:List Pc} (h:∀ p∈qs,p.ok):qs.length≤(flatP qs).length:=by
  induction qs with
  | nil=>exact Nat.le_refl _
  | cons q r ih =>
    have h1:=ih fun p hp=>h p (List.mem_cons_of_mem _ hp)
    have h2:=List.length_pos_iff.mpr (wr_ne (h q List.mem_cons_self))
    rw [flatP_cons,List.length_append,List.length_cons];lia
theorem PW.get {H:Hp}:∀ {Ts:List Addr} {ps:List Pc} {i:Nat} {T:Addr},PW H Ts ps→Ts[i]? = some T→∃ p,ps[i]? = some p∧∃ T1,H T=some (.tup [.ref T1,.str (mk p.wr)])∧H T1=some (.tup p.vs)
  | _,_,0,_,.cons h t,e=>by simp at e;subst e;exact⟨_,rfl,h⟩
  | _,_,i+1,_,.cons h t,e=>by
    obtain⟨p,h1,h2⟩:=PW.get t (by simpa using e)
    exact⟨p,by simpa using h1,h2⟩
structure CallsZ (P:Program) (w:World) (K:PySem.W.Frag) (mg:Str→Option Value) (base:Heap):Prop where
  draw:Cal P w K mg base "_law_draw" 1 ["_law_feed", "_law_many"] spDraw
  piece:Cal P w K mg base "_law_piece" 3 ["_law_feed", "_law_gaps", "_law_more"] spPiece1
def spPiecesL:Sp:=fun vs H Q _=>∃ a b M,vs = [.ref a,.int 9,.ref M,.bl true]∧FeedAt H a b∧H M=some (.lst (vI [1,2,3,4,5,6,7,8,9]))∧M≠a∧∀ T L ps H',WP ps→HP H' L ps→H' T=some (.tup [.ref L,.str (mk (flatP ps))])→H L=none→H T=none→Fd a b H H' → Q (.ref T) H'
def InP (ps:List Pc) (i:Nat) (qs:List Pc):Prop:=GP qs∧(qs.getLast? ≠ some .into∨(i=1∧ps.length=2∧(flatP qs).length≤51))
theorem last_or (qs:List Pc):qs = []∨∃ rs q,qs=rs ++ [q]:=by
  by_cases h:qs = []
  · exact .inl h
  · exact .inr ⟨qs.dropLast,qs.getLast h,(List.dropLast_concat_getLast h).symm⟩
theorem mk_nil {t:List Nat}:decide (V.str (mk t)=V.str (Str.ofString ""))=decide (t = []):=by
  refine decide_eq_decide.mpr ⟨fun h => ?_,fun h=>by rw [h];rfl⟩
  injection h with h
  have:=congrArg tl h
  rw [tl_mk] at this
  rw [this]
  decide +kernel
theorem PW.keep {H H' : Hp} (k:∀ T xs,H T=some (.tup xs)→H' T=some (.tup xs)):∀ {Ts:List Addr} {ps:List Pc},PW H Ts ps→PW H' Ts ps
  | _,_,.nil => .nil
  | _,_,.cons ⟨T1,h1,h2⟩ t => .cons ⟨T1,k _ _ h1,k _ _ h2⟩ (PW.keep k t)
theorem wp_x:WP [.tx [120]]:=by
  refine⟨by simp,fun p hp => ?_,fun i x y h1 h2 => ?_,fun i h => ?_,fun q hq z => ?_,by decide⟩
  · rw [List.mem_singleton.mp hp];exact⟨by simp,by decide +kernel⟩
  · rw [List.getElem?_eq_none (by simp)] at h2;cases h2
  · cases i with
    | zero=>cases h
    | succ i=>rw [List.getElem?_eq_none (by simp)] at h;cases h
  · rw [z] at hq;cases hq
theorem gl_app (rs:List Pc) (q:Pc):(rs ++ [q]).getLast? = some q:=by simp
abbrev st_pieces:Stmt:=top 31
theorem sc_pieces:FnScope ["_law_feed", "_law_gaps", "_law_more", "_law_intos", "_law_pieces_here", "_law_template", "_law_k", "_law_piece_here", "_law_text_here"] ["_law_feed", "_law_gaps", "_law_more", "_law_intos"] (defScope st_pieces):=⟨rfl,rfl,rfl,by decide +kernel,rfl,by decide +kernel,by decide +kernel⟩
theorem ok_pieces (D:Df K mg "_law_pieces" st_pieces ["_law_feed", "_law_gaps", "_law_more", "_law_intos"]) (T:Txt mg) (C:CallsZ P w K mg base):Cal P w K mg base "_law_pieces" 4 ["_law_feed", "_law_gaps", "_law_more", "_law_intos"] spPiecesL:=by
  refine D.cal sc_pieces (fun vs H Q E h => ?_) (fun f cdv A outer s H vs Q E hr h => ?_)
  · obtain⟨a,b,M,rfl,_⟩:=h;rfl
  · obtain⟨a,b,M,rfl,F,hM,hMa,k⟩:=h
    refine⟨_,(@pss_cons _ _ _ _ _ (@ps_set _ _ (4) _ _ _ _ sc_pieces.nd rfl (by first | exact Or.inl rfl | exact Or.inr rfl) (@pe_lst _ _ _ _ pa_nil) (by rfl) (by first | exact .inl rfl | exact .inr rfl | assumption)) (@pss_cons _ _ _ _ _ (@ps_set _ _ (5) _ _ _ _ sc_pieces.nd rfl (by first | exact Or.inl rfl | exact Or.inr rfl) pe_str (by rfl) (by first | exact .inl rfl | exact .inr rfl | assumption)) (@pss_cons _ _ _ _ _ (@ps_for _ _ _ _ _ _ _ _ PassesOwn.never rfl (@pi_range1 _ _ _ _ _ _ rfl T.b_range (@pa_cons _ _ _ _ _ (@pe_op _ _ _ _ _ _ _ _ op_addU pe_int (@pe_c _ _ _ _ _ _ _ _ _ _ _ C.draw hr (@pa_cons _ _ _ _ _ (@pv _ 0 _ _ (by rfl) (by first | exact Or.inl rfl | exact Or.inr (Or.inl rfl) | exact Or.inr (Or.inr rfl)) (by decide) (by decide)) (@pa_cons _ _ _ _ _ pe_int pa_nil (by rfl)) (by rfl)) (by decide) (by rfl) (by decide) (by rfl) (by rfl))) pa_nil (by rfl)) (by rfl)) (@pg_name _ _ (6) _ sc_pieces.nd rfl (by first | exact Or.inl rfl | exact Or.inr rfl) (by first | exact .inl rfl | exact .inr rfl | assumption)) (@pss_one _ _ _ (@ps_for _ _ _ _ _ _ _ _ PassesOwn.never rfl (@any_k _ _ _ _ K rfl (@pe_c _ _ _ _ _ _ _ _ _ _ _ C.piece hr (@pa_cons _ _ _ _ _ (@pv _ 0 _ _ (by rfl) (by first | exact Or.inl rfl | exact Or.inr (Or.inl rfl) | exact Or.inr (Or.inr rfl)) (by decide) (by decide)) (@pa_cons _ _ _ _ _ (@pv _ 1 _ _ (by rfl) (by first | exact Or.inl rfl | exact Or.inr (Or.inl rfl) | exact Or.inr (Or.inr rfl)) (by decide) (by decide)) (@pa_cons _ _ _ _ _ (@pv _ 2 _ _ (by rfl) (by first | exact Or.inl rfl | exact Or.inr (Or.inl rfl) | exact Or.inr (Or.inr rfl)) (by decide) (by decide)) pa_nil (by rfl)) (by rfl)) (by rfl)) (by decide) (by rfl) (by decide) (by rfl) (by rfl))) (@gtup_k _ _ _ _ (2) _ K rfl rfl (@pgs_cons _ _ _ _ _ (@pg_name _ _ (7) _ sc_pieces.nd rfl (by first | exact Or.inl rfl | exact Or.inr rfl) (by first | exact .inl rfl | exact .inr rfl | assumption)) (@pgs_cons _ _ _ _ _ (@pg_name _ _ (8) _ sc_pieces.nd rfl (by first | exact Or.inl rfl | exact Or.inr rfl) (by first | exact .inl rfl | exact .inr rfl | assumption)) pgs_nil (by rfl)) (by rfl)) (by rfl) (by rfl)) (@pss_consJ _ _ _ _ _ (@ps_if _ _ _ _ _ _ _ _ (@pt_j _ _ _ (@PW.pt _ _ _ (@pw_and _ _ _ _ _ _ _ (@pt_cmpR _ _ _ _ _ _ _ _ (eq_k K rfl hr) (@pe_ix _ _ _ _ _ _ _ (ix_k K rfl) (@pv _ 7 _ _ (by rfl) (by first | exact Or.inl rfl | exact Or.inr (Or.inl rfl) | exact Or.inr (Or.inr rfl)) (by decide) (by decide)) pe_int (fun _ _=>rfl)) pe_str (nomark _)) (@pw_and1 _ _ _ _ (@pt_j _ _ _ (@PW.pt _ _ _ (@pw_or _ _ _ _ _ _ _ (@pt_cmpR _ _ _ _ _ _ _ _ (eq_k K rfl hr) (@pv _ 4 _ _ (by rfl) (by first | exact Or.inl rfl | exact Or.inr (Or.inl rfl) | exact Or.inr (Or.inr rfl)) (by decide) (by decide)) (@pe_lst _ _ _ _ pa_nil) (nomark _)) (@pw_or _ _ _ _ _ _ _ (@pt_not _ _ _ _ (@tru_k _ _ _ K rfl (@pv _ 3 _ _ (by rfl) (by first | exact Or.inl rfl | exact Or.inr (Or.inl rfl) | exact Or.inr (Or.inr rfl)) (by decide) (by decide)) (fun _=>rfl))) (@pw_or1 _ _ _ _ (@pt_cmpR _ _ _ _ _ _ _ _ op_gt (@pe_callB _ _ _ _ _ _ _ _ _ (len_k K rfl) (by rfl) T.b_len PySem.boot_len (@pa_cons _ _ _ _ _ (@pv _ 5 _ _ (by rfl) (by first | exact Or.inl rfl | exact Or.inr (Or.inl rfl) | exact Or.inr (Or.inr rfl)) (by decide) (by decide)) pa_nil (by rfl)) (by decide) (by decide) (by rfl) (by rfl)) pe_int (nomark _))))))))))) (@pss_one _ _ _ (@ps_set _ _ (8) _ _ _ _ sc_pieces.nd rfl (by first | exact Or.inl rfl | exact Or.inr rfl) pe_str (by rfl) (by first | exact .inl rfl | exact .inr rfl | assumption))) pss_nil) (@pss_consJ _ _ _ _ _ (@ps_if _ _ _ _ _ _ _ _ (@pt_j _ _ _ (@PW.pt _ _ _ (@pw_and _ _ _ _ _ _ _ (@pt_cmpR _ _ _ _ _ _ _ _ (eq_k K rfl hr) (@pe_ix _ _ _ _ _ _ _ (ix_k K rfl) (@pv _ 7 _ _ (by rfl) (by first | exact Or.inl rfl | exact Or.inr (Or.inl rfl) | exact Or.inr (Or.inr rfl)) (by decide) (by decide)) pe_int (fun _ _=>rfl)) pe_str (nomark _)) (@pw_and _ _ _ _ _ _ _ (@pt_cmpR _ _ _ _ _ _ _ _ (ne_k K rfl hr) (@pv _ 4 _ _ (by rfl) (by first | exact Or.inl rfl | exact Or.inr (Or.inl rfl) | exact Or.inr (Or.inr rfl)) (by decide) (by decide)) (@pe_lst _ _ _ _ pa_nil) (nomark _)) (@pw_and1 _ _ _ _ (@pt_cmpR _ _ _ _ _ _ _ _ (eq_k K rfl hr) (@pe_ix _ _ _ _ _ _ _ (ix_k K rfl) (@pe_ix _ _ _ _ _ _ _ (ix_k K rfl) (@pv _ 4 _ _ (by rfl) (by first | exact Or.inl rfl | exact Or.inr (Or.inl rfl) | exact Or.inr (Or.inr rfl)) (by decide) (by decide)) (@pe_un _ _ _ _ _ _ un_neg pe_int) (fun _ _=>rfl)) pe_int (fun _ _=>rfl)) pe_str (nomark _))))))) (@pss_one _ _ _ (@ps_set _ _ (8) _ _ _ _ sc_pieces.nd rfl (by first | exact Or.inl rfl | exact Or.inr rfl) pe_str (by rfl) (by first | exact .inl rfl | exact .inr rfl | assumption))) pss_nil) (@pss_one _ _ _ (@ps_if _ _ _ _ _ _ _ _ (@pt_j _ _ _ (@PW.pt _ _ _ (@pw_and _ _ _ _ _ _ _ (@pt_cmpR _ _ _ _ _ _ _ _ op_le (@pe_op _ _ _ _ _ _ _ _ op_addU (@pe_callB _ _ _ _ _ _ _ _ _ (len_k K rfl) (by rfl) T.b_len PySem.boot_len (@pa_cons _ _ _ _ _ (@pv _ 5 _ _ (by rfl) (by first | exact Or.inl rfl | exact Or.inr (Or.inl rfl) | exact Or.inr (Or.inr rfl)) (by decide) (by decide)) pa_nil (by rfl)) (by decide) (by decide) (by rfl) (by rfl)) (@pe_callB _ _ _ _ _ _ _ _ _ (len_k K rfl) (by rfl) T.b_len PySem.boot_len (@pa_cons _ _ _ _ _ (@pv _ 8 _ _ (by rfl) (by first | exact Or.inl rfl | exact Or.inr (Or.inl rfl) | exact Or.inr (Or.inr rfl)) (by decide) (by decide)) pa_nil (by rfl)) (by decide) (by decide) (by rfl) (by rfl))) pe_int (nomark _)) (@pw_and1 _ _ _ _ (@pt_cmpR _ _ _ _ _ _ _ _ (ne_k K rfl hr) (@pv _ 8 _ _ (by rfl) (by first | exact Or.inl rfl | exact Or.inr (Or.inl rfl) | exact Or.inr (Or.inr rfl)) (by decide) (by decide)) pe_str (nomark _)))))) (@pss_cons _ _ _ _ _ (@ps_set _ _ (5) _ _ _ _ sc_pieces.nd rfl (by first | exact Or.inl rfl | exact Or.inr rfl) (@pe_op _ _ _ _ _ _ _ _ op_addU (@pv _ 5 _ _ (by rfl) (by first | exact Or.inl rfl | exact Or.inr (Or.inl rfl) | exact Or.inr (Or.inr rfl)) (by decide) (by decide)) (@pv _ 8 _ _ (by rfl) (by first | exact Or.inl rfl | exact Or.inr (Or.inl rfl) | exact Or.inr (Or.inr rfl)) (by decide) (by decide))) (by rfl) (by first | exact .inl rfl | exact .inr rfl | assumption)) (@pss_consJ _ _ _ _ _ (@ps_if _ _ _ _ _ _ _ _ (@pt_j _ _ _ (@PW.pt _ _ _ (@pw_and _ _ _ _ _ _ _ (@pt_cmpR _ _ _ _ _ _ _ _ (eq_k K rfl hr) (@pe_ix _ _ _ _ _ _ _ (ix_k K rfl) (@pv _ 7 _ _ (by rfl) (by first | exact Or.inl rfl | exact Or.inr (Or.inl rfl) | exact Or.inr (Or.inr rfl)) (by decide) (by decide)) pe_int (fun _ _=>rfl)) pe_str (nomark _)) (@pw_and _ _ _ _ _ _ _ (@pt_cmpR _ _ _ _ _ _ _ _ (ne_k K rfl hr) (@pv _ 4 _ _ (by rfl) (by first | exact Or.inl rfl | exact Or.inr (Or.inl rfl) | exact Or.inr (Or.inr rfl)) (by decide) (by decide)) (@pe_lst _ _ _ _ pa_nil) (nomark _)) (@pw_and1 _ _ _ _ (@pt_cmpR _ _ _ _ _ _ _ _ (eq_k K rfl hr) (@pe_ix _ _ _ _ _ _ _ (ix_k K rfl) (@pe_ix _ _ _ _ _ _ _ (ix_k K rfl) (@pv _ 4 _ _ (by rfl) (by first | exact Or.inl rfl | exact Or.inr (Or.inl rfl) | exact Or.inr (Or.inr rfl)) (by decide) (by decide)) (@pe_un _ _ _ _ _ _ un_neg pe_int) (fun _ _=>rfl)) pe_int (fun _ _=>rfl)) pe_str (nomark _))))))) (@pss_one _ _ _ (@ps_set _ _ (7) _ _ _ _ sc_pieces.nd rfl (by first | exact Or.inl rfl | exact Or.inr rfl) (@pe_tup _ _ _ _ _ (@pa_cons _ _ _ _ _ pe_str (@pa_cons _ _ _ _ _ (@pe_op _ _ _ _ _ _ _ _ op_addU (@pe_ix _ _ _ _ _ _ _ (ix_k K rfl) (@bm0_k _ _ _ _ _ _ _ _ _ K rfl PySem.F.plainAttrs_list PySem.F.slot_list_pop PySem.F.type_list_pop mt_pop (@pv _ 4 _ _ (by rfl) (by first | exact Or.inl rfl | exact Or.inr (Or.inl rfl) | exact Or.inr (Or.inr rfl)) (by decide) (by decide)) (by rfl) (by rfl)) pe_int (fun _ _=>rfl)) (@pe_ix _ _ _ _ _ _ _ (ix_k K rfl) (@pv _ 7 _ _ (by rfl) (by first | exact Or.inl rfl | exact Or.inr (Or.inl rfl) | exact Or.inr (Or.inr rfl)) (by decide) (by decide)) pe_int (fun _ _=>rfl))) pa_nil (by rfl)) (by rfl))) (by rfl) (by first | exact .inl rfl | exact .inr rfl | assumption))) pss_nil) (@pss_one _ _ _ (@ps_expr _ _ _ _ (@bm_k _ _ _ _ _ _ _ _ _ _ _ _ K rfl PySem.F.plainAttrs_list PySem.F.slot_list_append PySem.F.type_list_append mt_append (@pv _ 4 _ _ (by rfl) (by first | exact Or.inl rfl | exact Or.inr (Or.inl rfl) | exact Or.inr (Or.inr rfl)) (by decide) (by decide)) (@pa_cons _ _ _ _ _ (@pv _ 7 _ _ (by rfl) (by first | exact Or.inl rfl | exact Or.inr (Or.inl rfl) | exact Or.inr (Or.inr rfl)) (by decide) (by decide)) pa_nil (by rfl)) (by rfl) (by rfl) (by rfl) (by rfl) (by rfl)) (by rfl))))) pss_nil)))) (by intro _;rfl))) (by intro _;rfl)) (@pss_cons _ _ _ _ _ (@ps_if _ _ _ _ _ _ _ _ (@pt_cmpR _ _ _ _ _ _ _ _ (eq_k K rfl hr) (@pv _ 4 _ _ (by rfl) (by first | exact Or.inl rfl | exact Or.inr (Or.inl rfl) | exact Or.inr (Or.inr rfl)) (by decide) (by decide)) (@pe_lst _ _ _ _ pa_nil) (nomark _)) (@pss_one _ _ _ (@ps_ret _ _ _ _ (@pe_tup _ _ _ _ _ (@pa_cons _ _ _ _ _ (@pe_lst _ _ _ _ (@pa_cons _ _ _ _ _ (@pe_tup _ _ _ _ _ (@pa_cons _ _ _ _ _ pe_str (@pa_cons _ _ _ _ _ pe_str pa_nil (by rfl)) (by rfl))) pa_nil (by rfl))) (@pa_cons _ _ _ _ _ pe_str pa_nil (by rfl)) (by rfl))))) pss_nil) (@pss_one _ _ _ (@ps_ret _ _ _ _ (@pe_tup _ _ _ _ _ (@pa_cons _ _ _ _ _ (@pv _ 4 _ _ (by rfl) (by first | exact Or.inl rfl | exact Or.inr (Or.inl rfl) | exact Or.inr (Or.inr rfl)) (by decide) (by decide)) (@pa_cons _ _ _ _ _ (@pv _ 5 _ _ (by rfl) (by first | exact Or.inl rfl | exact Or.inr (Or.inl rfl) | exact Or.inr (Or.inr rfl)) (by decide) (by decide)) pa_nil (by rfl)) (by rfl))))))))),?_⟩
    have e0:Str.ofString "" = mk []:=by decide +kernel
    refine⟨by show 0≤sizeLine;decide,fun L hL => ?_⟩
    have hLa:L≠a:=fun z=>F.na hL z.symm
    have fdB:Fd a b H (upd H L (.lst [])):=(Fd.refl F).new hL
    refine⟨_,rfl,a,b,9,rfl,fdB.feed,by decide,by decide,fun n H2 n0 n1 fd2 => .inl ⟨_,_,rfl,rfl,_,rfl,by lia,by lia,?_⟩⟩
    have fdC:=fdB.trans fd2
    refine for_range (fun i σ' H' => ∃ qs x6 x7 x8,σ' = [some (.ref a),some (.int 9),some (.ref M),some (.bl true),some (.ref L),some (.str (mk (flatP qs))),x6,x7,x8]∧Fd a b H H' ∧ HP H' L qs∧GP qs∧qs.getLast? ≠ some .into)
      ⟨[],none,none,none,by rw [e0];rfl,fdC,⟨[],fd2.at upd_same hLa,.nil⟩,GP.nil,by simp⟩ ?_ ?_
    · rintro i σ' H' hi ⟨qs0,x6,x7,x8,rfl,fd,hp0,gp0,gl0⟩
      refine⟨_,rfl,_,rfl,_,rfl,a,b,M,rfl,fd.feed,fd.at hM hMa,hMa,fun L2 ps H3 hone hpw hL2 fd3 => ?_⟩
      obtain⟨Ts,w1,w2⟩:=hpw.ex
      have hL2a:L2≠a:=fun z=>fd.feed.na hL2 z.symm
      have hLL:L2≠L:=fun z=>by
        obtain⟨Us,u1,_⟩:=hp0.ex
        rw [z,u1] at hL2;cases hL2
      have hp3:=hp0.fd fd.feed fd3 hLa
      refine .inl ⟨L2,rfl,⟨_,SqL.of w1⟩,?_⟩
      refine for_list (xs:=Ts.map V.ref) (fun j σ2 H4=>∃ qs x7 x8,σ2 = [some (.ref a),some (.int 9),some (.ref M),some (.bl true),some (.ref L),some (.str (mk (flatP qs))),some (.int (0+(i:Nat))),x7,x8]∧Fd a b H H4∧HP H4 L qs∧InP ps j qs∧H4 L2=some (.lst (Ts.map V.ref))∧PW H4 Ts ps)
        ⟨qs0,x7,x8,rfl,fd.trans fd3,hp3,⟨gp0,.inl gl0⟩,w1,w2⟩ (fun j σ2 H4 _ ⟨_,_,_,_,_,_,_,z,_⟩=>SqL.of z) ?_ ?_
      · rintro j x σ2 H4 hx ⟨qs,x7,x8,rfl,fd4,hp,hin,hl4,pw4⟩
        obtain⟨T1,hx1,rfl⟩:=ref_get hx
        obtain⟨p,hp1,T2,ht1,ht2⟩:=pw4.get hx1
        refine⟨T1,_,rfl,SqT.of ht1,rfl,_,_,rfl,_,_,rfl,rfl,?_⟩
        have hgp:=hin.1
        have hsz:=hgp.sz
        have hql:=qs_len hgp.ok
        have hml:=mk_len (flatP qs)
        have hwl:=mk_len p.wr
        have hST:∀ t:List Nat,(List.length t=0↔t = []):=fun t=>List.length_eq_zero_iff
        have hJI:p = .into→qs.getLast? ≠ some .into:=by
          intro z
          rcases hin.2 with h | ⟨hj,hl,_⟩
          · exact h
          · rcases hone with ⟨q,rfl,_⟩ | ⟨t,rfl,_⟩
            · simp at hl
            · subst hj;rw [z] at hp1;simp at hp1
        refine⟨fun σ3 H5=>∃ t:List Nat,σ3 = [some (.ref a),some (.int 9),some (.ref M),some (.bl true),some (.ref L),some (.str (mk (flatP qs))),some (.int (0+(i:Nat))),some (.ref T2),some (.str (mk t))]∧Same H4 H5∧(t=p.wr∨t = [])∧(p ≠ .into→t=p.wr)∧(p = .into→t=p.wr→qs ≠ []∧(flatP qs).length≤50),?_,?_⟩
        rotate_left
        · refine⟨fun bb H5=>Same H4 H5∧(p ≠ .into→bb=false)∧(p = .into→bb=false→qs ≠ []∧(flatP qs).length≤50),?_,?_⟩
          · rintro bb H5 ⟨sm5,hb0,hbb⟩
            refine ite2 (fun h1=>⟨[],by rw [e0];rfl,sm5,.inr rfl,fun z => ?_,fun z1 z2 => ?_⟩) (fun h1=>⟨p.wr,rfl,sm5,.inl rfl,fun _=>rfl,fun z1 _=>hbb z1 (by simpa using h1)⟩)
            · rw [hb0 z] at h1;cases h1
            · subst z1;cases z2
          refine⟨_,rfl,.inr (.inl ⟨T2,_,0,_,rfl,rfl,SqT.of ht2,wd0 p,.inl ⟨rfl,_,rfl,?_⟩⟩)⟩
          rw [wdI]
          refine iteB (fun h => ?_) (fun h=>⟨Same.refl H4,fun _=>rfl,fun z=>(by subst z;cases h)⟩)
          have hpi:=isI_eq h
          refine⟨fun bb H5=>Same H4 H5∧(bb=false→qs ≠ []∧(flatP qs).length≤50),?_,?_⟩
          · rintro bb H5 ⟨s5,hb⟩
            exact⟨s5,fun z=>absurd hpi z,fun _=>hb⟩
          obtain⟨Us,b1,b2⟩:=hp.ex
          refine⟨_,rfl,by show 0≤sizeLine;decide,fun E0 hE0 => ?_⟩
          have smE:Same H4 (upd H4 E0 (.lst [])):=(Same.refl H4).new hE0
          obtain⟨Us,b1,b2⟩:=(hp.same smE).ex
          refine .inr ⟨_,_,.lst (SqL.of b1) b2.dts,.lst (SqL.of upd_same) .nil,lays hgp.ok,rfl,?_,_,rfl,?_⟩
          · refine Nat.le_trans (Nat.min_le_right _ _) ?_
            decide +kernel
          rw [eqv_nil2]
          refine iteB (fun h2=>⟨smE,fun z=>(by cases z)⟩) (fun h2 => ?_)
          refine⟨_,rfl,true,rfl,iteF ⟨_,rfl,_,_,rfl,⟨TX.small (by lia),rfl⟩,_,_,rfl,rfl,_,rfl,smE,fun z=>⟨of_decide_eq_false h2,?_⟩⟩⟩
          have:=of_decide_eq_false z
          lia
        rintro σ3 H5 ⟨t,rfl,sm5,ht,htN,htI⟩
        have hp5:=hp.same sm5
        have ht25:=sm5 _ _ ht2
        refine⟨fun σ3 H6=>∃ t:List Nat,σ3 = [some (.ref a),some (.int 9),some (.ref M),some (.bl true),some (.ref L),some (.str (mk (flatP qs))),some (.int (0+(i:Nat))),some (.ref T2),some (.str (mk t))]∧Same H4 H6∧(t=p.wr∨t = [])∧(p ≠ .into→t=p.wr)∧(p = .into→t=p.wr→qs ≠ []∧(flatP qs).length≤50),?_,?_⟩
        rotate_left
        · refine⟨fun bb H6=>Same H4 H6∧(p ≠ .into→bb=false),?_,?_⟩
          · rintro bb H6 ⟨sm6,hb0⟩
            refine ite2 (fun h1=>⟨[],by rw [e0];rfl,sm6,.inr rfl,fun z => ?_,fun z1 z2 => ?_⟩) (fun h1=>⟨t,rfl,sm6,ht,htN,htI⟩)
            · rw [hb0 z] at h1;cases h1
            · subst z1;cases z2
          refine⟨_,rfl,.inr (.inl ⟨T2,_,0,_,rfl,rfl,SqT.of ht25,wd0 p,.inl ⟨rfl,_,rfl,?_⟩⟩)⟩
          rw [wdI]
          refine iteB (fun h => ?_) (fun h=>⟨sm5,fun _=>rfl⟩)
          have hpi:=isI_eq h
          refine⟨_,rfl,by show 0≤sizeLine;decide,fun E0 hE0 => ?_⟩
          have smE:Same H5 (upd H5 E0 (.lst [])):=(Same.refl H5).new hE0
          obtain⟨Us,b1,b2⟩:=(hp5.same smE).ex
          refine .inr ⟨_,_,.lst (SqL.of b1) b2.dts,.lst (SqL.of upd_same) .nil,lays hgp.ok,rfl,?_,_,rfl,?_⟩
          · refine Nat.le_trans (Nat.min_le_right _ _) ?_
            decide +kernel
          rw [eqv_nil2]
          refine iteB (fun h2 => ?_) (fun h2=>⟨sm5.trans smE,fun z=>absurd hpi z⟩)
          rcases last_or qs with z | ⟨rs,q,hq⟩
          · rw [decide_eq_true z] at h2;cases h2
          have hpE:=hp5.same smE
          rw [hq] at hpE
          obtain⟨Vs,U,c1,c2,c3,c4⟩:=hpE.last
          refine⟨_,rfl,_,rfl,.inl ⟨L,_,-1,_,rfl,rfl,SqL.of c1,c4,.inr (.inl ⟨U,_,0,_,rfl,rfl,SqT.of c3,wd0 q,.inl ⟨rfl,_,rfl,sm5.trans smE,fun z=>absurd hpi z⟩⟩)⟩⟩
        rintro σ3 H6 ⟨t,rfl,sm6,ht,htN,htI⟩
        have hp6:=hp.same sm6
        have ht26:=sm6 _ _ ht2
        have htl:t.length≤p.wr.length:=by
          rcases ht with z | z
          · rw [z];exact Nat.le_refl _
          · rw [z];exact Nat.zero_le _
        have hpw30:p.wr.length≤30∧p.ok:=by
          have hm:=List.mem_of_getElem? hp1
          rcases hone with ⟨q,rfl,q1,_,q2⟩ | ⟨u,rfl,q1,q2⟩
          · rw [List.mem_singleton.mp hm];exact⟨q2,q1⟩
          · rcases List.mem_cons.mp hm with z | z
            · rw [z];exact⟨by decide,trivial⟩
            · rw [List.mem_singleton.mp z];exact⟨Nat.le_trans q2 (by decide),q1⟩
        have hml2:=mk_len t
        refine⟨fun bb H7=>Same H4 H7∧(bb=true↔((flatP qs).length+t.length≤56∧t ≠ [])),?_,?_⟩
        rotate_left
        · refine⟨_,rfl,_,_,rfl,⟨TX.small (by lia),rfl⟩,_,rfl,_,_,rfl,⟨TX.small (by lia),rfl⟩,.inl ⟨_,_,rfl,rfl,_,_,rfl,rfl,_,rfl,?_⟩⟩
          refine iteB (fun h => ?_) (fun h=>⟨sm6,?_⟩)
          · have h' := of_decide_eq_true h
            refine⟨_,rfl,.inl ⟨rfl,_,rfl,sm6,?_⟩⟩
            rw [mk_nil,Bool.not_eq_true',decide_eq_false_iff_not]
            exact⟨fun z=>⟨by lia,z⟩,fun z=>z.2⟩
          · have h' := of_decide_eq_false h
            exact⟨fun z=>(by cases z),fun z=>absurd z.1 (by lia)⟩
        rintro bb H7 ⟨sm7,hbb⟩
        have hp7:=hp.same sm7
        have ht27:=sm7 _ _ ht2
        refine ite2 (fun h1 => ?_) (fun h1 => ?_)
        · obtain⟨hfit,hne⟩:=hbb.mp h1
          have et:t=p.wr:=ht.resolve_right hne
          subst et
          refine⟨_,rfl,_,rfl,.inr (.inl ⟨_,_,rfl,rfl,TX.small (by lia),?_⟩)⟩
          rw [app_mk]
          refine⟨fun σ3 H8=>∃ rs p' T5,σ3 = [some (.ref a),some (.int 9),some (.ref M),some (.bl true),some (.ref L),some (.str (mk (flatP qs++p.wr))),some (.int (0+(i:Nat))),some (.ref T5),some (.str (mk p.wr))]∧Fd a b H H8∧HP H8 L rs∧H8 T5=some (.tup p'.vs)∧GP (rs ++ [p'])∧flatP (rs ++ [p'])=flatP qs++p.wr∧(p' = .into→p = .into)∧H8 L2=some (.lst (Ts.map V.ref))∧PW H8 Ts ps,?_,?_⟩
          · rintro σ3 H8 ⟨rs,p',T5,rfl,fd8,hp8,hT5,gp8,hfl8,hi8,hl8,pw8⟩
            obtain⟨Us,a1,a2⟩:=hp8.ex
            have hUl:=a2.len
            have hrl:=qs_len gp8.ok
            have hz8:=gp8.sz
            rw [List.length_append,List.length_singleton] at hrl
            refine⟨_,rfl,.inl ⟨rfl,hp8.sq⟩,_,rfl,L,_,_,rfl,rfl,a1,by rw [List.length_map];exact TX.small' (by lia),?_⟩
            refine⟨rs ++ [p'],_,_,by rw [hfl8],fd8.put F hL,HP.put a1 a2 hT5,⟨gp8,?_⟩,by rw [upd_ne hLL];exact hl8,pw8.keep fun Tx xs e => ?_⟩
            · by_cases hpi:p' = .into
              · refine .inr ?_
                have hz:=hi8 hpi
                rcases hone with ⟨q,rfl,_,q1,_⟩ | ⟨u,rfl,_⟩
                · have:=List.mem_of_getElem? hp1
                  rw [List.mem_singleton.mp this] at hz
                  exact absurd hz q1
                · have hj:j=0:=by
                    cases j with
                    | zero=>rfl
                    | succ j =>
                      cases j with
                      | zero=>rw [hz] at hp1;simp at hp1
                      | succ j=>rw [List.getElem?_eq_none (by simp)] at hp1;cases hp1
                  refine⟨by rw [hj],rfl,?_⟩
                  rw [hfl8,List.length_append]
                  have:=(htI hz rfl).2
                  rw [hz]
                  show (flatP qs).length+1≤51
                  lia
              · refine .inl fun z=>hpi ?_
                rw [gl_app] at z
                injection z
            · rw [upd_ne (fun z=>by subst z;rw [a1] at e;cases e)];exact e
          refine⟨fun bb H8=>Same H4 H8∧(bb=true→(∃ y,p = .tx y)∧∃ rs x,qs=rs ++ [.tx x])∧(bb=false→∀ x y,p = .tx y→qs.getLast? ≠ some (.tx x)),?_,?_⟩
          rotate_left
          · refine⟨_,rfl,.inr (.inl ⟨T2,_,0,_,rfl,rfl,SqT.of ht27,wd0 p,.inl ⟨rfl,_,rfl,?_⟩⟩)⟩
            rw [wdT]
            refine iteB (fun h => ?_) (fun h=>⟨sm7,fun z=>(by cases z),fun _ x y z=>(by rw [z] at h;cases h)⟩)
            have hpt:=isT_eq h
            refine⟨_,rfl,by show 0≤sizeLine;decide,fun E0 hE0 => ?_⟩
            have smE:Same H7 (upd H7 E0 (.lst [])):=(Same.refl H7).new hE0
            obtain⟨Us,b1,b2⟩:=(hp7.same smE).ex
            refine .inr ⟨_,_,.lst (SqL.of b1) b2.dts,.lst (SqL.of upd_same) .nil,lays hgp.ok,rfl,?_,_,rfl,?_⟩
            · refine Nat.le_trans (Nat.min_le_right _ _) ?_
              decide +kernel
            rw [eqv_nil2]
            rcases last_or qs with z | ⟨rs,q,hq⟩
            · rw [decide_eq_true z]
              refine iteF ⟨sm7.trans smE,fun z=>(by cases z),fun _ x y _ z2 => ?_⟩
              rw [z] at z2;cases z2
            rw [decide_eq_false (by rw [hq];simp)]
            refine iteT ?_
            have hpE:=hp7.same smE
            rw [hq] at hpE
            obtain⟨Vs,U,c1,c2,c3,c4⟩:=hpE.last
            refine⟨_,rfl,_,rfl,.inl ⟨L,_,-1,_,rfl,rfl,SqL.of c1,c4,.inr (.inl ⟨U,_,0,_,rfl,rfl,SqT.of c3,wd0 q,.inl ⟨rfl,_,rfl,sm7.trans smE,fun z => ?_,fun z x y _ z2 => ?_⟩⟩)⟩⟩
            · rw [wdT] at z
              obtain⟨x,rfl⟩:=isT_eq z
              exact⟨hpt,rs,x,hq⟩
            · rw [wdT] at z
              rw [hq,gl_app] at z2
              injection z2 with z2
              exact isT_ne z x z2
          rintro bb H8 ⟨sm8,hT,hF⟩
          have hp8:=hp.same sm8
          have ht28:=sm8 _ _ ht2
          refine ite2 (fun h2 => ?_) (fun h2 => ?_)
          · obtain⟨⟨y,rfl⟩,rs,x,rfl⟩:=hT h2
            obtain⟨Vs,U,c1,c2,c3,c4⟩:=hp8.last
            have ho:=hgp.ok (.tx x) (by simp)
            have hx56:x.length≤56:=by
              have:=hgp.sz
              rw [flatP_app,List.length_append,flatP_one] at this
              have e:(Pc.tx x).wr.length=x.length:=rfl
              lia
            have hLU:U≠L:=fun z=>by rw [z,c1] at c3;cases c3
            have hLT:T2≠L:=fun z=>by rw [z,c1] at ht28;cases ht28
            refine⟨_,rfl,.inl ⟨rfl,⟨_,SqL.of c1⟩⟩,L,_,.ref U,rfl,rfl,c1,by simp,.inr (.inl ⟨U,_,1,.str (mk x),rfl,rfl,SqT.of (by rw [upd_ne hLU];exact c3),rfl,?_⟩)⟩
            refine⟨_,rfl,.inr (.inl ⟨T2,_,1,.str (mk y),rfl,rfl,SqT.of (by rw [upd_ne hLT];exact ht28),rfl,.inr (.inl ⟨_,_,rfl,rfl,TX.small (by rw [mk_len,mk_len];have:=hpw30.1;have e:(Pc.tx y).wr.length=y.length:=rfl;lia),by show 2≤sizeLine;decide,fun T5 hT5 => ?_⟩)⟩)⟩
            rw [app_mk] at *
            have edl:((Vs ++ [U]).map V.ref).dropLast=Vs.map V.ref:=by simp
            have kp:∀ Tx xs,H8 Tx=some (.tup xs)→upd (upd H8 L (.lst (((Vs ++ [U]).map V.ref).dropLast))) T5 (.tup [.str (Str.ofString "text"),.str (mk (x++y))]) Tx=some (.tup xs):=by
              intro Tx xs e
              have hne:Tx≠L:=fun z=>by rw [z,c1] at e;cases e
              refine ((Same.refl _).new hT5) _ _ ?_
              rw [upd_ne hne];exact e
            refine⟨rs,.tx (x++y),T5,rfl,((fd4.same sm8).put F hL).new hT5,⟨Vs,?_,c2.keep kp⟩,upd_same,hgp.merge hpw30.2 hfit,?_,fun z=>(by cases z),?_,?_⟩
            · refine ((Same.refl _).new hT5) _ _ ?_
              rw [upd_same,edl]
            · simp [flatP,Pc.wr]
            · refine ((Same.refl _).new hT5) _ _ ?_
              rw [upd_ne hLL];exact sm8 _ _ hl4
            · exact (pw4.keep fun Tx xs e=>sm8 _ _ e).keep kp
          · have h2' : bb=false:=by simpa using h2
            refine⟨qs,p,T2,rfl,fd4.same sm8,hp8,ht28,hgp.snoc hpw30.2 (hF h2') (fun z=>⟨(htI z rfl).1,hJI z⟩) hfit,by rw [flatP_app,flatP_one],fun z=>z,sm8 _ _ hl4,pw4.keep fun Tx xs e=>sm8 _ _ e⟩
        · refine⟨qs,_,_,rfl,fd4.same sm7,hp7,⟨hgp,?_⟩,sm7 _ _ hl4,pw4.keep fun Tx xs e=>sm7 _ _ e⟩
          rcases hin.2 with h | ⟨hj,hl,hlen⟩
          · exact .inl h
          · exfalso
            refine h1 (hbb.mpr ?_)
            rcases hone with ⟨q,rfl,_⟩ | ⟨u,rfl,q1,q2⟩
            · simp at hl
            · subst hj
              have hpu:p = .tx u:=by simpa using hp1.symm
              have:=htN (by rw [hpu];exact fun z=>(by cases z))
              rw [this,hpu]
              exact⟨by show (flatP qs).length+u.length≤56;lia,q1.1⟩
      · rintro σ2 H4 ⟨qs,x7,x8,rfl,fd4,hp,hin,_,_⟩
        refine⟨qs,_,_,_,rfl,fd4,hp,hin.1,?_⟩
        rcases hin.2 with h | ⟨h1,h2,_⟩
        · exact h
        · have:=Paired.length w2
          rw [List.length_map] at h1
          lia
    · rintro σ' H' ⟨qs,x6,x7,x8,rfl,fd,hp,gp,gl⟩
      have hgl:=gp.sz
      refine⟨_,rfl,by show 0≤sizeLine;decide,fun E0 hE0 => ?_⟩
      have smE:Same H' (upd H' E0 (.lst [])):=(Same.refl H').new hE0
      have hpE:=hp.same smE
      obtain⟨Us,b1,b2⟩:=hpE.ex
      refine .inr ⟨_,_,.lst (SqL.of b1) b2.dts,.lst (SqL.of upd_same) .nil,lays gp.ok,rfl,?_,_,rfl,?_⟩
      · refine Nat.le_trans (Nat.min_le_right _ _) ?_
        decide +kernel
      rw [eqv_nil2]
      have fdE:=fd.new (o := .lst []) hE0
      refine ite2 (fun h1 => ?_) (fun h1 => ?_)
      · refine⟨by show 2≤sizeLine;decide,fun T1 hT1=>⟨by show 1≤sizeLine;decide,fun L2 hL2=>⟨by show 2≤sizeLine;decide,fun T3 hT3 => ?_⟩⟩⟩
        have ex:Str.ofString "x" = mk (flatP [.tx [120]]):=by decide +kernel
        have s2:=(Same.refl _).new (o := .lst [.ref T1]) hL2
        have s3:=(Same.refl _).new (o := .tup [.ref L2,.str (Str.ofString "x")]) hT3
        have fd1:=fdE.new (o := .tup [.str (Str.ofString "text"),.str (Str.ofString "x")]) hT1
        have fd2' := fd1.new (o := .lst [.ref T1]) hL2
        refine k T3 L2 [.tx [120]] _ wp_x ⟨[T1],?_,.cons ?_ .nil⟩ ?_ (fd1.free hL2) (fd2'.free hT3) (fd2'.new hT3)
        · exact s3 _ _ upd_same
        · have e1:(Pc.tx [120]).vs = [.str (Str.ofString "text"),.str (Str.ofString "x")]:=by rw [ex];rfl
          rw [e1]
          exact s3 _ _ (s2 _ _ upd_same)
        · rw [← ex];exact upd_same
      · have hne:qs ≠ []:=fun z=>h1 (decide_eq_true z)
        refine⟨_,rfl,_,rfl,by show 2≤sizeLine;decide,fun T3 hT3 => ?_⟩
        refine k T3 L qs _ ⟨hne,gp.ok,gp.tt,gp.ii,fun q hq z => ?_,by lia⟩ ⟨Us,?_,?_⟩ upd_same hL ?_ (fdE.new hT3)
        · rw [z] at hq;exact gl hq
        · exact ((Same.refl _).new hT3) _ _ b1
        · exact b2.keep fun Tx xs e=>((Same.refl _).new hT3) _ _ e
        · exact fdE.free hT3
end
end K
set_option maxHeartbeats 4000000
namespace K
open PySem L2 TX
section
variable {P:Program} {w:World} {K:PySem.W.Frag} {mg:Str→Option Value} {base:Heap}
structure CallsFw (P:Program) (w:World) (K:PySem.W.Frag) (mg:Str→Option Value) (base:Heap):Prop where
  next_state:Cal P w K mg base "_law_next_state" 2 ["_law_state", "_law_sign"] spNext
def Due (l:List Nat) (v:V):Prop:=(v = .non∧Stp l 0 .beg l.length .beh)∨∃ i:Nat,v = .int (i:Int)∧i≤l.length∧Refu l 0 .beg i
def spFirst:Sp:=fun vs H Q _=>∃ l,vs = [.str (mk l)]∧l.length≤400∧∀ (v:V) (H' : Hp),Same H H' → Due l v→Q v H'
theorem nm_beh:∀ s,SxOk s→(qs (nm s) "behind" = true↔s = .beh)
  | .beg,_=>⟨fun h=>absurd h (by decide +kernel),(fun h=>by cases h)⟩
  | .beh,_=>⟨fun _=>rfl,fun _=>by decide +kernel⟩
  | .into,_=>⟨fun h=>absurd h (by decide +kernel),(fun h=>by cases h)⟩
  | .opn,_=>⟨fun h=>absurd h (by decide +kernel),(fun h=>by cases h)⟩
  | .cnt,_=>⟨fun h=>absurd h (by decide +kernel),(fun h=>by cases h)⟩
  | .gap,_=>⟨fun h=>absurd h (by decide +kernel),(fun h=>by cases h)⟩
  | .nou,_=>⟨fun h=>absurd h (by decide +kernel),(fun h=>by cases h)⟩
  | .cls,_=>⟨fun h=>absurd h (by decide +kernel),(fun h=>by cases h)⟩
  | .sum k,hk=>by
    have:=rn_sum k hk
    unfold BB at this
    simp only [Prod.mk.injEq] at this
    rw [this.2.1]
    exact⟨(fun h=>by cases h),(fun h=>by cases h)⟩
abbrev st_first_wrong:Stmt:=top 34
theorem sc_first_wrong:FnScope ["_law_text_here", "_law_state", "_law_at"] ["_law_text_here"] (defScope st_first_wrong):=⟨rfl,rfl,rfl,by decide +kernel,rfl,by decide +kernel,by decide +kernel⟩
theorem ok_first_wrong (D:Df K mg "_law_first_wrong" st_first_wrong ["_law_text_here"]) (T:Txt mg) (C:CallsFw P w K mg base):Cal P w K mg base "_law_first_wrong" 3 ["_law_text_here"] spFirst:=by
  refine D.cal sc_first_wrong (fun vs H Q E h => ?_) (fun f cdv A outer s H vs Q E hr h => ?_)
  · obtain⟨l,rfl,_⟩:=h;rfl
  · obtain⟨l,rfl,hl,k⟩:=h
    refine⟨_,(@pss_cons _ _ _ _ _ (@ps_set _ _ (1) _ _ _ _ sc_first_wrong.nd rfl (by first | exact Or.inl rfl | exact Or.inr rfl) pe_str (by rfl) (by first | exact .inl rfl | exact .inr rfl | assumption)) (@pss_cons _ _ _ _ _ (@ps_for _ _ _ _ _ _ _ _ PassesOwn.never rfl (@pi_range1 _ _ _ _ _ _ rfl T.b_range (@pa_cons _ _ _ _ _ (@pe_callB _ _ _ _ _ _ _ _ _ (len_k K rfl) (by rfl) T.b_len PySem.boot_len (@pa_cons _ _ _ _ _ (@pv _ 0 _ _ (by rfl) (by first | exact Or.inl rfl | exact Or.inr (Or.inl rfl) | exact Or.inr (Or.inr rfl)) (by decide) (by decide)) pa_nil (by rfl)) (by decide) (by decide) (by rfl) (by rfl)) pa_nil (by rfl)) (by rfl)) (@pg_name _ _ (2) _ sc_first_wrong.nd rfl (by first | exact Or.inl rfl | exact Or.inr rfl) (by first | exact .inl rfl | exact .inr rfl | assumption)) (@pss_cons _ _ _ _ _ (@ps_set _ _ (1) _ _ _ _ sc_first_wrong.nd rfl (by first | exact Or.inl rfl | exact Or.inr rfl) (@pe_c _ _ _ _ _ _ _ _ _ _ _ C.next_state hr (@pa_cons _ _ _ _ _ (@pv _ 1 _ _ (by rfl) (by first | exact Or.inl rfl | exact Or.inr (Or.inl rfl) | exact Or.inr (Or.inr rfl)) (by decide) (by decide)) (@pa_cons _ _ _ _ _ (@pe_ix _ _ _ _ _ _ _ (ix_k K rfl) (@pv _ 0 _ _ (by rfl) (by first | exact Or.inl rfl | exact Or.inr (Or.inl rfl) | exact Or.inr (Or.inr rfl)) (by decide) (by decide)) (@pv _ 2 _ _ (by rfl) (by first | exact Or.inl rfl | exact Or.inr (Or.inl rfl) | exact Or.inr (Or.inr rfl)) (by decide) (by decide)) (fun _ _=>rfl)) pa_nil (by rfl)) (by rfl)) (by decide) (by rfl) (by decide) (by rfl) (by rfl)) (by rfl) (by first | exact .inl rfl | exact .inr rfl | assumption)) (@pss_one _ _ _ (@ps_if _ _ _ _ _ _ _ _ (@pt_cmp _ _ _ _ _ _ (@pc_isN _ _ _ _ _ (@pv _ 1 _ _ (by rfl) (by first | exact Or.inl rfl | exact Or.inr (Or.inl rfl) | exact Or.inr (Or.inr rfl)) (by decide) (by decide))) (by first | exact nobehind _ (by decide) (by decide) | rfl)) (@pss_one _ _ _ (@ps_ret _ _ _ _ (@pv _ 2 _ _ (by rfl) (by first | exact Or.inl rfl | exact Or.inr (Or.inl rfl) | exact Or.inr (Or.inr rfl)) (by decide) (by decide)))) pss_nil))) (by intro _;rfl)) (@pss_cons _ _ _ _ _ (@ps_if _ _ _ _ _ _ _ _ (@pt_cmpR _ _ _ _ _ _ _ _ (eq_k K rfl hr) (@pv _ 1 _ _ (by rfl) (by first | exact Or.inl rfl | exact Or.inr (Or.inl rfl) | exact Or.inr (Or.inr rfl)) (by decide) (by decide)) pe_str (nomark _)) (@pss_one _ _ _ (@ps_ret _ _ _ _ pe_non)) pss_nil) (@pss_one _ _ _ (@ps_ret _ _ _ _ (@pe_callB _ _ _ _ _ _ _ _ _ (len_k K rfl) (by rfl) T.b_len PySem.boot_len (@pa_cons _ _ _ _ _ (@pv _ 0 _ _ (by rfl) (by first | exact Or.inl rfl | exact Or.inr (Or.inl rfl) | exact Or.inr (Or.inr rfl)) (by decide) (by decide)) pa_nil (by rfl)) (by decide) (by decide) (by rfl) (by rfl))))))),?_⟩
    have hlen:=mk_len l
    refine⟨_,rfl,_,_,rfl,⟨TX.small (by lia),rfl⟩,?_⟩
    refine⟨_,rfl,by lia,by lia,for_range (fun i σ' H' => ∃ st x2,σ' = [some (.str (mk l)),some (.str (nm st)),x2]∧Same H H' ∧ SxOk st∧Stp l 0 .beg i st) ⟨.beg,none,rfl,Same.refl H,trivial,.refl⟩ ?_ ?_⟩
    · rintro i σ' H' hi ⟨st,x2,rfl,sm,ok,stp⟩
      have hi' : i<l.length:=by lia
      rw [show (0:Int)+(i:Int)=((i:Nat):Int) from by lia]
      obtain⟨c,hc⟩:∃ c,l[i]? = some c:=⟨_,List.getElem?_eq_getElem hi'⟩
      refine⟨_,rfl,_,rfl,_,rfl,.inr (.inr ⟨mk l,_,c,rfl,rfl,TX.small (by lia),atI_nat (show (tl (mk l))[i]? = _ by rw [tl_mk];exact hc),?_⟩)⟩
      refine⟨st,c,rfl,ok,fun H2 s2 => ?_⟩
      refine⟨_,rfl,_,rfl,?_⟩
      cases hx:nx st c with
      | none=>exact iteT ⟨_,rfl,k _ _ (sm.trans s2) (.inr ⟨i,rfl,by lia,st,stp,.inr ⟨c,hc,hx⟩⟩)⟩
      | some s' => exact iteF ⟨s',_,rfl,sm.trans s2,nx_ok ok hx,stp.trans (.one hc hx)⟩
    · rintro σ' H' ⟨st,x2,rfl,sm,ok,stp⟩
      have en:(((mk l).length:Nat):Int).toNat=l.length:=by lia
      rw [en] at stp
      refine⟨_,rfl,.inl ⟨rfl,_,rfl,?_⟩⟩
      show if qs (nm st) "behind" = true then _ else _
      refine iteB (fun h => ?_) (fun h => ?_)
      · have e:=(nm_beh st ok).mp h
        subst e
        exact k _ _ sm (.inl ⟨rfl,stp⟩)
      · refine⟨_,rfl,_,_,rfl,⟨TX.small (by lia),rfl⟩,?_⟩
        rw [hlen]
        refine k _ _ sm (.inr ⟨l.length,rfl,Nat.le_refl _,st,stp,.inl ⟨rfl,fun z => ?_⟩⟩)
        have:=(nm_beh st ok).mpr z
        rw [this] at h;cases h
def OSs:Str:=Str.ofString " !\"#$&'()*+,/:;<=>?\x40[\\]^`{|}~"
structure CallsBo (P:Program) (w:World) (K:PySem.W.Frag) (mg:Str→Option Value) (base:Heap):Prop where
  draw:Cal P w K mg base "_law_draw" 1 ["_law_feed", "_law_many"] spDraw
  name_signs:Cal P w K mg base "_law_name_signs" 1 [] (spConst NSs)
  other_signs:Cal P w K mg base "_law_other_signs" 1 [] (spConst OSs)
abbrev st_other_signs:Stmt:=top 28
theorem sc_other_signs:FnScope [] [] (defScope st_other_signs):=⟨rfl,rfl,rfl,by decide +kernel,rfl,by decide +kernel,by decide +kernel⟩
theorem ok_other_signs (D:Df K mg "_law_other_signs" st_other_signs []):Cal P w K mg base "_law_other_signs" 1 [] (spConst OSs):=by
  refine D.cal sc_other_signs (fun vs H Q E h => ?_) (fun f cdv A outer s H vs Q E hr h => ?_)
  · obtain⟨rfl,_⟩:=h;rfl
  · obtain⟨rfl,k⟩:=h
    refine⟨_,(@pss_one _ _ _ (@ps_ret _ _ _ _ pe_str)),?_⟩
    exact k
def spBentO:Sp:=fun vs H Q _=>∃ a b l,vs = [.ref a,.str (mk l)]∧FeedAt H a b∧l.length≤200∧∀ l' H',l'.length≤l.length+1→Fd a b H H' → Q (.str (mk l')) H'
theorem app_mk6 (x y:List Nat):mk x++mk y=mk (x++y):=by
  apply ext
  rw [tl_app,tl_mk,tl_mk,tl_mk]
theorem slice_toA {l:List Nat} {j:Int} (h0:0≤j):PySem.Txt.slice (mk l) none (some j)=mk (l.take j.toNat):=by
  by_cases h:j≤(l.length:Int)
  · rw [slice_to h0 (by rw [tl_mk];exact h),tl_mk]
  · have e:StrLaws.sliceText (mk l) none (some j)=StrLaws.sliceText (mk l) none (some (((mk l).length:Nat):Int)):=by
      unfold StrLaws.sliceText
      rw [sliceIdx_over none (mk l).length (j:=j) (by rw [mk_len];lia)]
    show StrLaws.sliceText (mk l) none (some j)=_
    rw [e]
    have z:=slice_to (x:=mk l) (j:=(((mk l).length:Nat):Int)) (by lia) (by rw [mk_len,tl_mk];exact Int.le_refl _)
    refine z.trans ?_
    rw [tl_mk,mk_len,List.take_of_length_le (by lia),List.take_of_length_le (by lia)]
theorem sliceIdx_lo (u:Option Int) (len:Nat) {j:Int} (h:(len:Int)≤j):Builtin.Str.strSliceIndices (some j) u 1 len=Builtin.Str.strSliceIndices (some (len:Int)) u 1 len:=by
  have a:¬ (j<0):=by lia
  have b:¬ ((len:Int)<0):=by lia
  have c:min j (len:Int)=(len:Int):=by lia
  simp [Builtin.Str.strSliceIndices,a,b,c]
theorem slice_fromA {l:List Nat} {j:Int} (h0:0≤j):PySem.Txt.slice (mk l) (some j) none=mk (l.drop j.toNat):=by
  by_cases h:j≤(l.length:Int)
  · rw [slice_from h0 (by rw [tl_mk];exact h),tl_mk]
  · have e:StrLaws.sliceText (mk l) (some j) none=StrLaws.sliceText (mk l) (some (((mk l).length:Nat):Int)) none:=by
      unfold StrLaws.sliceText
      rw [sliceIdx_lo none (mk l).length (j:=j) (by rw [mk_len];lia)]
    show StrLaws.sliceText (mk l) (some j) none=_
    rw [e]
    have z:=slice_from (x:=mk l) (i:=(((mk l).length:Nat):Int)) (by lia) (by rw [mk_len,tl_mk];exact Int.le_refl _)
    refine z.trans ?_
    rw [tl_mk,mk_len,List.drop_of_length_le (by lia),List.drop_of_length_le (by lia)]
theorem os_len:OSs.length=29:=by decide +kernel
theorem sg1:(Str.ofString "{}ulzn+/0123456789").length=18:=by decide +kernel
theorem sg2:(Str.ofString "{}/n1").length=5:=by decide +kernel
abbrev st_bent_once:Stmt:=top 32
theorem sc_bent_once:FnScope ["_law_feed", "_law_text_here", "_law_at", "_law_signs", "_law_sign", "_law_way"] ["_law_feed", "_law_text_here"] (defScope st_bent_once):=⟨rfl,rfl,rfl,by decide +kernel,rfl,by decide +kernel,by decide +kernel⟩
theorem ok_bent_once (D:Df K mg "_law_bent_once" st_bent_once ["_law_feed", "_law_text_here"]) (T:Txt mg) (C:CallsBo P w K mg base):Cal P w K mg base "_law_bent_once" 2 ["_law_feed", "_law_text_here"] spBentO:=by
  refine D.cal sc_bent_once (fun vs H Q E h => ?_) (fun f cdv A outer s H vs Q E hr h => ?_)
  · obtain⟨a,b,l,rfl,_⟩:=h;rfl
  · obtain⟨a,b,l,rfl,F,hl,k⟩:=h
    refine⟨_,(@pss_cons _ _ _ _ _ (@ps_set _ _ (2) _ _ _ _ sc_bent_once.nd rfl (by first | exact Or.inl rfl | exact Or.inr rfl) (@pe_c _ _ _ _ _ _ _ _ _ _ _ C.draw hr (@pa_cons _ _ _ _ _ (@pv _ 0 _ _ (by rfl) (by first | exact Or.inl rfl | exact Or.inr (Or.inl rfl) | exact Or.inr (Or.inr rfl)) (by decide) (by decide)) (@pa_cons _ _ _ _ _ (@pe_op _ _ _ _ _ _ _ _ op_addU (@pe_callB _ _ _ _ _ _ _ _ _ (len_k K rfl) (by rfl) T.b_len PySem.boot_len (@pa_cons _ _ _ _ _ (@pv _ 1 _ _ (by rfl) (by first | exact Or.inl rfl | exact Or.inr (Or.inl rfl) | exact Or.inr (Or.inr rfl)) (by decide) (by decide)) pa_nil (by rfl)) (by decide) (by decide) (by rfl) (by rfl)) pe_int) pa_nil (by rfl)) (by rfl)) (by decide) (by rfl) (by decide) (by rfl) (by rfl)) (by rfl) (by first | exact .inl rfl | exact .inr rfl | assumption)) (@pss_cons _ _ _ _ _ (@ps_set _ _ (3) _ _ _ _ sc_bent_once.nd rfl (by first | exact Or.inl rfl | exact Or.inr rfl) (@pe_ix _ _ _ _ _ _ _ (ix_k K rfl) (@pe_lst _ _ _ _ (@pa_cons _ _ _ _ _ pe_str (@pa_cons _ _ _ _ _ (@pe_c0 _ _ _ _ _ _ _ _ C.name_signs hr (by decide) (by rfl) (by decide)) (@pa_cons _ _ _ _ _ (@pe_c0 _ _ _ _ _ _ _ _ C.other_signs hr (by decide) (by rfl) (by decide)) (@pa_cons _ _ _ _ _ pe_str pa_nil (by rfl)) (by rfl)) (by rfl)) (by rfl))) (@pe_c _ _ _ _ _ _ _ _ _ _ _ C.draw hr (@pa_cons _ _ _ _ _ (@pv _ 0 _ _ (by rfl) (by first | exact Or.inl rfl | exact Or.inr (Or.inl rfl) | exact Or.inr (Or.inr rfl)) (by decide) (by decide)) (@pa_cons _ _ _ _ _ pe_int pa_nil (by rfl)) (by rfl)) (by decide) (by rfl) (by decide) (by rfl) (by rfl)) (fun _ _=>rfl)) (by rfl) (by first | exact .inl rfl | exact .inr rfl | assumption)) (@pss_cons _ _ _ _ _ (@ps_set _ _ (4) _ _ _ _ sc_bent_once.nd rfl (by first | exact Or.inl rfl | exact Or.inr rfl) (@pe_ix _ _ _ _ _ _ _ (ix_k K rfl) (@pv _ 3 _ _ (by rfl) (by first | exact Or.inl rfl | exact Or.inr (Or.inl rfl) | exact Or.inr (Or.inr rfl)) (by decide) (by decide)) (@pe_c _ _ _ _ _ _ _ _ _ _ _ C.draw hr (@pa_cons _ _ _ _ _ (@pv _ 0 _ _ (by rfl) (by first | exact Or.inl rfl | exact Or.inr (Or.inl rfl) | exact Or.inr (Or.inr rfl)) (by decide) (by decide)) (@pa_cons _ _ _ _ _ (@pe_callB _ _ _ _ _ _ _ _ _ (len_k K rfl) (by rfl) T.b_len PySem.boot_len (@pa_cons _ _ _ _ _ (@pv _ 3 _ _ (by rfl) (by first | exact Or.inl rfl | exact Or.inr (Or.inl rfl) | exact Or.inr (Or.inr rfl)) (by decide) (by decide)) pa_nil (by rfl)) (by decide) (by decide) (by rfl) (by rfl)) pa_nil (by rfl)) (by rfl)) (by decide) (by rfl) (by decide) (by rfl) (by rfl)) (fun _ _=>rfl)) (by rfl) (by first | exact .inl rfl | exact .inr rfl | assumption)) (@pss_cons _ _ _ _ _ (@ps_set _ _ (5) _ _ _ _ sc_bent_once.nd rfl (by first | exact Or.inl rfl | exact Or.inr rfl) (@pe_c _ _ _ _ _ _ _ _ _ _ _ C.draw hr (@pa_cons _ _ _ _ _ (@pv _ 0 _ _ (by rfl) (by first | exact Or.inl rfl | exact Or.inr (Or.inl rfl) | exact Or.inr (Or.inr rfl)) (by decide) (by decide)) (@pa_cons _ _ _ _ _ pe_int pa_nil (by rfl)) (by rfl)) (by decide) (by rfl) (by decide) (by rfl) (by rfl)) (by rfl) (by first | exact .inl rfl | exact .inr rfl | assumption)) (@pss_cons _ _ _ _ _ (@ps_if _ _ _ _ _ _ _ _ (@pt_cmpR _ _ _ _ _ _ _ _ (eq_k K rfl hr) (@pv _ 5 _ _ (by rfl) (by first | exact Or.inl rfl | exact Or.inr (Or.inl rfl) | exact Or.inr (Or.inr rfl)) (by decide) (by decide)) pe_int (nomark _)) (@pss_one _ _ _ (@ps_ret _ _ _ _ (@pe_slice _ _ _ _ _ _ _ _ _ _ (sl_k K rfl) (@pv _ 1 _ _ (by rfl) (by first | exact Or.inl rfl | exact Or.inr (Or.inl rfl) | exact Or.inr (Or.inr rfl)) (by decide) (by decide)) po_none (@po_some _ _ _ (@pv _ 2 _ _ (by rfl) (by first | exact Or.inl rfl | exact Or.inr (Or.inl rfl) | exact Or.inr (Or.inr rfl)) (by decide) (by decide)))))) pss_nil) (@pss_cons _ _ _ _ _ (@ps_if _ _ _ _ _ _ _ _ (@pt_cmpR _ _ _ _ _ _ _ _ (eq_k K rfl hr) (@pv _ 5 _ _ (by rfl) (by first | exact Or.inl rfl | exact Or.inr (Or.inl rfl) | exact Or.inr (Or.inr rfl)) (by decide) (by decide)) pe_int (nomark _)) (@pss_one _ _ _ (@ps_ret _ _ _ _ (@pe_op _ _ _ _ _ _ _ _ op_addU (@pe_slice _ _ _ _ _ _ _ _ _ _ (sl_k K rfl) (@pv _ 1 _ _ (by rfl) (by first | exact Or.inl rfl | exact Or.inr (Or.inl rfl) | exact Or.inr (Or.inr rfl)) (by decide) (by decide)) po_none (@po_some _ _ _ (@pv _ 2 _ _ (by rfl) (by first | exact Or.inl rfl | exact Or.inr (Or.inl rfl) | exact Or.inr (Or.inr rfl)) (by decide) (by decide)))) (@pe_slice _ _ _ _ _ _ _ _ _ _ (sl_k K rfl) (@pv _ 1 _ _ (by rfl) (by first | exact Or.inl rfl | exact Or.inr (Or.inl rfl) | exact Or.inr (Or.inr rfl)) (by decide) (by decide)) (@po_some _ _ _ (@pe_op _ _ _ _ _ _ _ _ op_addU (@pv _ 2 _ _ (by rfl) (by first | exact Or.inl rfl | exact Or.inr (Or.inl rfl) | exact Or.inr (Or.inr rfl)) (by decide) (by decide)) pe_int)) po_none)))) pss_nil) (@pss_cons _ _ _ _ _ (@ps_if _ _ _ _ _ _ _ _ (@pt_cmpR _ _ _ _ _ _ _ _ (eq_k K rfl hr) (@pv _ 5 _ _ (by rfl) (by first | exact Or.inl rfl | exact Or.inr (Or.inl rfl) | exact Or.inr (Or.inr rfl)) (by decide) (by decide)) pe_int (nomark _)) (@pss_one _ _ _ (@ps_ret _ _ _ _ (@pe_op _ _ _ _ _ _ _ _ op_addU (@pe_op _ _ _ _ _ _ _ _ op_addU (@pe_slice _ _ _ _ _ _ _ _ _ _ (sl_k K rfl) (@pv _ 1 _ _ (by rfl) (by first | exact Or.inl rfl | exact Or.inr (Or.inl rfl) | exact Or.inr (Or.inr rfl)) (by decide) (by decide)) po_none (@po_some _ _ _ (@pv _ 2 _ _ (by rfl) (by first | exact Or.inl rfl | exact Or.inr (Or.inl rfl) | exact Or.inr (Or.inr rfl)) (by decide) (by decide)))) (@pv _ 4 _ _ (by rfl) (by first | exact Or.inl rfl | exact Or.inr (Or.inl rfl) | exact Or.inr (Or.inr rfl)) (by decide) (by decide))) (@pe_slice _ _ _ _ _ _ _ _ _ _ (sl_k K rfl) (@pv _ 1 _ _ (by rfl) (by first | exact Or.inl rfl | exact Or.inr (Or.inl rfl) | exact Or.inr (Or.inr rfl)) (by decide) (by decide)) (@po_some _ _ _ (@pv _ 2 _ _ (by rfl) (by first | exact Or.inl rfl | exact Or.inr (Or.inl rfl) | exact Or.inr (Or.inr rfl)) (by decide) (by decide))) po_none)))) pss_nil) (@pss_one _ _ _ (@ps_ret _ _ _ _ (@pe_op _ _ _ _ _ _ _ _ op_addU (@pe_op _ _ _ _ _ _ _ _ op_addU (@pe_slice _ _ _ _ _ _ _ _ _ _ (sl_k K rfl) (@pv _ 1 _ _ (by rfl) (by first | exact Or.inl rfl | exact Or.inr (Or.inl rfl) | exact Or.inr (Or.inr rfl)) (by decide) (by decide)) po_none (@po_some _ _ _ (@pv _ 2 _ _ (by rfl) (by first | exact Or.inl rfl | exact Or.inr (Or.inl rfl) | exact Or.inr (Or.inr rfl)) (by decide) (by decide)))) (@pv _ 4 _ _ (by rfl) (by first | exact Or.inl rfl | exact Or.inr (Or.inl rfl) | exact Or.inr (Or.inr rfl)) (by decide) (by decide))) (@pe_slice _ _ _ _ _ _ _ _ _ _ (sl_k K rfl) (@pv _ 1 _ _ (by rfl) (by first | exact Or.inl rfl | exact Or.inr (Or.inl rfl) | exact Or.inr (Or.inr rfl)) (by decide) (by decide)) (@po_some _ _ _ (@pe_op _ _ _ _ _ _ _ _ op_addU (@pv _ 2 _ _ (by rfl) (by first | exact Or.inl rfl | exact Or.inr (Or.inl rfl) | exact Or.inr (Or.inr rfl)) (by decide) (by decide)) pe_int)) po_none))))))))))),?_⟩
    have hlen:=mk_len l
    refine⟨_,rfl,_,rfl,_,_,rfl,⟨TX.small (by lia),rfl⟩,.inl ⟨_,_,rfl,rfl,a,b,_,rfl,F,by lia,by lia,fun at_ H1 p0 p1 fd1 => ?_⟩⟩
    refine⟨rfl,rfl,by show 4≤sizeLine;decide,fun L hL => ?_⟩
    have fd2:=fd1.new (o := .lst [.str (Str.ofString "{}ulzn+/0123456789"),.str NSs,.str OSs,.str (Str.ofString "{}/n1")]) hL
    refine⟨_,rfl,a,b,4,rfl,fd2.feed,by decide,by decide,fun r3 H3 q0 q1 fd3 => ?_⟩
    have hLa:L≠a:=fun z=>by subst z;exact fd1.feed.na hL rfl
    have hL3:=fd3.at (o := .lst [.str (Str.ofString "{}ulzn+/0123456789"),.str NSs,.str OSs,.str (Str.ofString "{}/n1")]) upd_same hLa
    have fdB:=fd2.trans fd3
    obtain⟨v,hv1,hv2⟩:=atI_lt (xs := [V.str (Str.ofString "{}ulzn+/0123456789"),V.str NSs,V.str OSs,V.str (Str.ofString "{}/n1")]) q0 q1
    obtain⟨g,rfl,g1,g2⟩:∃ g:Str,v = .str g∧0<g.length∧g.length≤100:=by
      have:=List.mem_of_getElem? hv1
      simp only [List.mem_cons,List.not_mem_nil,or_false] at this
      rcases this with rfl | rfl | rfl | rfl
      · exact⟨_,rfl,by rw [sg1];decide,by rw [sg1];decide⟩
      · exact⟨_,rfl,by rw [ns_len];decide,by rw [ns_len];decide⟩
      · exact⟨_,rfl,by rw [os_len];decide,by rw [os_len];decide⟩
      · exact⟨_,rfl,by rw [sg2];decide,by rw [sg2];decide⟩
    refine .inl ⟨L,_,r3,_,rfl,rfl,SqL.of hL3,hv2,?_⟩
    refine⟨_,rfl,_,rfl,_,rfl,_,_,rfl,⟨TX.small (by lia),rfl⟩,a,b,_,rfl,fdB.feed,by lia,by lia,fun r4 H4 t0 t1 fd4 => ?_⟩
    obtain⟨c,hc1,hc2⟩:=atI_lt (xs:=tl g) t0 (by rw [← len];exact t1)
    refine .inr (.inr ⟨g,r4,c,rfl,rfl,TX.small (by lia),hc2,?_⟩)
    have fdC:=fdB.trans fd4
    refine⟨_,rfl,a,b,4,rfl,fdC.feed,by decide,by decide,fun wy H5 _ _ fd5 => ?_⟩
    have fdD:=fdC.trans fd5
    have ltk:(l.take at_.toNat).length≤l.length:=by rw [List.length_take];lia
    have e1:(at_+1).toNat=at_.toNat+1:=by lia
    refine⟨_,rfl,.inl ⟨rfl,_,rfl,?_⟩⟩
    refine ite2 (fun h => ?_) (fun h => ?_)
    · refine⟨_,rfl,_,rfl,_,rfl,.inl ⟨_,rfl,TX.small (by lia),?_⟩⟩
      rw [slice_toA p0]
      exact k _ _ (by lia) fdD
    refine⟨_,rfl,.inl ⟨rfl,_,rfl,?_⟩⟩
    refine ite2 (fun h => ?_) (fun h => ?_)
    · refine⟨_,rfl,_,rfl,_,rfl,.inl ⟨_,rfl,TX.small (by lia),?_⟩⟩
      rw [slice_toA p0]
      refine⟨_,rfl,_,rfl,.inl ⟨_,_,rfl,rfl,_,rfl,.inl ⟨_,rfl,TX.small (by lia),?_⟩⟩⟩
      rw [slice_fromA (by lia)]
      refine .inr (.inl ⟨_,_,rfl,rfl,TX.small (by rw [mk_len,mk_len,List.length_take,List.length_drop];lia),?_⟩)
      rw [app_mk6]
      exact k _ _ (by rw [List.length_append,List.length_take,List.length_drop];lia) fdD
    have one:∀ x:List Nat,mk x++⟨#[c]⟩=mk (x ++ [c]):=fun x=>by
      apply ext
      rw [tl_app,tl_one,tl_mk,tl_mk]
    refine⟨_,rfl,.inl ⟨rfl,_,rfl,?_⟩⟩
    refine ite2 (fun h => ?_) (fun h => ?_)
    · refine⟨_,rfl,_,rfl,_,rfl,.inl ⟨_,rfl,TX.small (by lia),?_⟩⟩
      rw [slice_toA p0]
      refine⟨_,rfl,.inr (.inl ⟨_,_,rfl,rfl,TX.small (by rw [mk_len,List.length_take];show _+1≤_;lia),?_⟩)⟩
      rw [one]
      refine⟨_,rfl,_,rfl,_,rfl,.inl ⟨_,rfl,TX.small (by lia),?_⟩⟩
      rw [slice_fromA (by lia)]
      refine .inr (.inl ⟨_,_,rfl,rfl,TX.small (by rw [mk_len,mk_len,List.length_append,List.length_take,List.length_drop];show _+1+_≤_;lia),?_⟩)
      rw [app_mk6]
      exact k _ _ (by rw [List.length_append,List.length_append,List.length_take,List.length_drop];show _+1+_≤_;lia) fdD
    · refine⟨_,rfl,_,rfl,_,rfl,.inl ⟨_,rfl,TX.small (by lia),?_⟩⟩
      rw [slice_toA p0]
      refine⟨_,rfl,.inr (.inl ⟨_,_,rfl,rfl,TX.small (by rw [mk_len,List.length_take];show _+1≤_;lia),?_⟩)⟩
      rw [one]
      refine⟨_,rfl,_,rfl,.inl ⟨_,_,rfl,rfl,_,rfl,.inl ⟨_,rfl,TX.small (by lia),?_⟩⟩⟩
      rw [slice_fromA (by lia)]
      refine .inr (.inl ⟨_,_,rfl,rfl,TX.small (by rw [mk_len,mk_len,List.length_append,List.length_take,List.length_drop];show _+1+_≤_;lia),?_⟩)
      rw [app_mk6]
      exact k _ _ (by rw [List.length_append,List.length_append,List.length_take,List.length_drop];show _+1+_≤_;lia) fdD
end
end K
set_option maxHeartbeats 4000000
namespace K
open PySem L2 TX
section
variable {P:Program} {w:World} {K:PySem.W.Frag} {mg:Str→Option Value} {base:Heap}
structure CallsF (P:Program) (w:World) (K:PySem.W.Frag) (mg:Str→Option Value) (base:Heap) (Cn Dn cT cR cH cX:Addr):Prop where
  pieces_of:CalX P w K mg base "pieces_of" 8 ["template"] (spPiecesX Cn)
  g_HallError:mg "HallError" = some (.ref Dn)
  e_HallError:ECls K Dn bmV
  g_NoTemplate:mg "NoTemplate" = some (.ref Cn)
  g_NoPattern:mg "NoPattern" = some (.ref cT)
  g_NoRule:mg "NoRule" = some (.ref cR)
  g_NoHall:mg "NoHall" = some (.ref cH)
  g_NoText:mg "NoText" = some (.ref cX)
  sub:SubX K (.ref Cn) Dn
  isi:EIsi K Cn
  get:EGet K Cn "at"
  one:PySem.W.kitOne K (.ref Cn) (.ref Cn)=some true
  val:PySem.W.kitOne K (.ref Cn) (.type "ValueError")=some true
  any:PySem.W.kitAny K (.ref Cn) ([cT,cR,cH,cX].map Value.ref)=some false
def spRefAt:Sp:=fun vs H Q _=>∃ l,vs = [.str (mk l)]∧l.length≤500∧∀ T H',Same H H' → ((Stp l 0 .beg l.length .beh∧H' T=some (.tup [.str (Str.ofString "let by")]))∨∃ i:Nat,Refu l 0 .beg i∧H' T=some (.tup [.str (Str.ofString "refused"),.int (i:Int),.bl false]))→Q (.ref T) H'
abbrev st_refused_at:Stmt:=top 35
theorem sc_refused_at:FnScope ["_law_text_here", "_law_told", "e"] ["_law_text_here"] (defScope st_refused_at):=⟨rfl,rfl,rfl,by decide +kernel,rfl,by decide +kernel,by decide +kernel⟩
theorem ok_refused_at {c_NoTemplate Dn c_NoPattern c_NoRule c_NoHall c_NoText:Addr} (D:Df K mg "_law_refused_at" st_refused_at ["_law_text_here"]) (T:Txt mg) (C:CallsF P w K mg base c_NoTemplate Dn c_NoPattern c_NoRule c_NoHall c_NoText):Cal P w K mg base "_law_refused_at" 9 ["_law_text_here"] spRefAt:=by
  refine D.cal sc_refused_at (fun vs H Q E h => ?_) (fun f cdv A outer s H vs Q E hr h => ?_)
  · obtain⟨l,rfl,_⟩:=h;rfl
  · obtain⟨l,rfl,hl,kk⟩:=h
    have g_HallError:=C.g_HallError
    have e_HallError:=C.e_HallError
    have g_NoPattern:=C.g_NoPattern
    have g_NoTemplate:=C.g_NoTemplate
    have g_NoRule:=C.g_NoRule
    have g_NoHall:=C.g_NoHall
    have g_NoText:=C.g_NoText
    refine⟨_,(@pss_cons _ _ _ _ _ (@ps_set _ _ (1) _ _ _ _ sc_refused_at.nd rfl (by first | exact Or.inl rfl | exact Or.inr rfl) (@pe_tup _ _ _ _ _ (@pa_cons _ _ _ _ _ pe_str pa_nil (by rfl))) (by rfl) (by first | exact .inl rfl | exact .inr rfl | assumption)) (@pss_cons _ _ _ _ _ (ps_try (i:=2) K rfl rfl rfl sc_refused_at.nd rfl rfl rfl g_HallError e_HallError (fun _ _=>(@pss_one _ _ _ (@ps_expr _ _ _ _ (pe_cX C.pieces_of hr AccX.of (@pa_cons _ _ _ _ _ (@pv _ 0 _ _ (by rfl) (by first | exact Or.inl rfl | exact Or.inr (Or.inl rfl) | exact Or.inr (Or.inr rfl)) (by decide) (by decide)) pa_nil (by rfl))) (by rfl))))
        (fun _=>(@pss_cons _ _ _ _ _ (@ps_set _ _ (1) _ _ _ _ sc_refused_at.nd rfl (by first | exact Or.inl rfl | exact Or.inr rfl) (@pe_tup _ _ _ _ _ (@pa_cons _ _ _ _ _ pe_str pa_nil (by rfl))) (by rfl) (by first | exact .inl rfl | exact .inr rfl | assumption)) (@pss_one _ _ _ (@ps_if _ _ _ _ _ _ _ _ (@pt_j _ _ _ (@PW.pt _ _ _ (@pw_and _ _ _ _ _ _ _ (@tru_k _ _ _ K rfl (@pe_callB _ _ _ _ _ _ _ _ _ (isiX_k K rfl) (by rfl) T.b_isinstance (by decide +kernel) (@pa_cons _ _ _ _ _ (@pv _ 2 _ _ (by rfl) (by first | exact Or.inl rfl | exact Or.inr (Or.inl rfl) | exact Or.inr (Or.inr rfl)) (by decide) (by decide)) (@pa_cons _ _ _ _ _ (@pe_glob _ _ (.ref c_NoTemplate) _ _ (by rfl) g_NoTemplate rfl (by decide)) pa_nil (by rfl)) (by rfl)) (by decide) (by decide) (by rfl) (by rfl)) (fun _=>rfl)) (@pw_and1 _ _ _ _ (@tru_k _ _ _ K rfl (@pe_callB _ _ _ _ _ _ _ _ _ (isiX_k K rfl) (by rfl) T.b_isinstance (by decide +kernel) (@pa_cons _ _ _ _ _ (@pv _ 2 _ _ (by rfl) (by first | exact Or.inl rfl | exact Or.inr (Or.inl rfl) | exact Or.inr (Or.inr rfl)) (by decide) (by decide)) (@pa_cons _ _ _ _ _ (@pe_bltn _ _ _ _ _ (by rfl) T.b_ValueError (by decide +kernel) (show RelV (.ty "ValueError") _ from rfl) (by decide) (by decide)) pa_nil (by rfl)) (by rfl)) (by decide) (by decide) (by rfl) (by rfl)) (fun _=>rfl)))))) (@pss_one _ _ _ (@ps_set _ _ (1) _ _ _ _ sc_refused_at.nd rfl (by first | exact Or.inl rfl | exact Or.inr rfl) (@pe_tup _ _ _ _ _ (@pa_cons _ _ _ _ _ pe_str (@pa_cons _ _ _ _ _ (efld_k K rfl (@pv _ 2 _ _ (by rfl) (by first | exact Or.inl rfl | exact Or.inr (Or.inl rfl) | exact Or.inr (Or.inr rfl)) (by decide) (by decide))) (@pa_cons _ _ _ _ _ (@pe_callB _ _ _ _ _ _ _ _ _ (isiX_k K rfl) (by rfl) T.b_isinstance (by decide +kernel) (@pa_cons _ _ _ _ _ (@pv _ 2 _ _ (by rfl) (by first | exact Or.inl rfl | exact Or.inr (Or.inl rfl) | exact Or.inr (Or.inr rfl)) (by decide) (by decide)) (@pa_cons _ _ _ _ _ (@pe_tup _ _ _ _ _ (@pa_cons _ _ _ _ _ (@pe_glob _ _ (.ref c_NoPattern) _ _ (by rfl) g_NoPattern rfl (by decide)) (@pa_cons _ _ _ _ _ (@pe_glob _ _ (.ref c_NoRule) _ _ (by rfl) g_NoRule rfl (by decide)) (@pa_cons _ _ _ _ _ (@pe_glob _ _ (.ref c_NoHall) _ _ (by rfl) g_NoHall rfl (by decide)) (@pa_cons _ _ _ _ _ (@pe_glob _ _ (.ref c_NoText) _ _ (by rfl) g_NoText rfl (by decide)) pa_nil (by rfl)) (by rfl)) (by rfl)) (by rfl))) pa_nil (by rfl)) (by rfl)) (by decide) (by decide) (by rfl) (by rfl)) pa_nil (by rfl)) (by rfl)) (by rfl))) (by rfl) (by first | exact .inl rfl | exact .inr rfl | assumption))) pss_nil))))) (@pss_one _ _ _ (@ps_ret _ _ _ _ (@pv _ 1 _ _ (by rfl) (by first | exact Or.inl rfl | exact Or.inr (Or.inl rfl) | exact Or.inr (Or.inr rfl)) (by decide) (by decide)))))),?_⟩
    refine⟨by show 1≤sizeLine;decide,fun T0 hT0 => ?_⟩
    have sm0:Same H (upd H T0 (.tup [.str (Str.ofString "let by")])):=(Same.refl H).new hT0
    generalize hH1:upd H T0 _=H1 at sm0
    have hHT:H1 T0=some (.tup [.str (Str.ofString "let by")]):=by rw [← hH1];exact upd_same
    refine⟨fun ea σ' H' => σ' = [some (.str (mk l)),some (.ref T0),none]∧∃ i,Refu l 0 .beg i∧Same H H' ∧ Rfd H' ea c_NoTemplate "at" (.int ((i:Nat):Int)),?_,?_⟩
    · rintro ea σ' H' ⟨rfl,i,hw,sm,rf⟩
      obtain⟨d,r1,r2⟩:=id rf.ex
      refine⟨⟨_,_,r1,C.sub⟩,?_⟩
      refine⟨by show 1≤sizeLine;decide,fun T1 hT1 => ?_⟩
      have sm1:Same H' (upd H' T1 (.tup [.str (Str.ofString "other")])):=(Same.refl H').new hT1
      generalize hH2:upd H' T1 _=H2 at sm1
      have rf2:=rf.same sm1
      refine⟨fun b H3=>b=true∧H3=H2,?_,?_⟩
      · rintro b H3 ⟨rfl,rfl⟩
        refine iteT ?_
        obtain⟨d,q1,q2⟩:=id rf2.ex
        refine⟨_,rfl,ea,c_NoTemplate,d,_,_,rfl,.inl q1,q2,C.get,rfl,_,rfl,by show 4≤sizeLine;decide,fun T2 hT2 => ?_⟩
        have sm2:Same H3 (upd H3 T2 (.tup [.ref c_NoPattern,.ref c_NoRule,.ref c_NoHall,.ref c_NoText])):=(Same.refl H3).new hT2
        refine⟨ea,c_NoTemplate,false,⟨_,rfl,.inr (.inr ⟨T2,[c_NoPattern,c_NoRule,c_NoHall,c_NoText],rfl,SqT.of upd_same,C.any⟩)⟩,(rf2.same sm2).err,C.isi,?_⟩
        refine⟨by show 3≤sizeLine;decide,fun T3 hT3 => ?_⟩
        refine⟨_,rfl,kk T3 _ (((sm.trans sm1).trans sm2).new hT3) (.inr ⟨i,hw,upd_same⟩)⟩
      · refine⟨_,rfl,ea,c_NoTemplate,true,⟨_,rfl,.inl ⟨c_NoTemplate,rfl,C.one⟩⟩,rf2.err,C.isi,true,rfl,iteT ?_⟩
        exact⟨_,rfl,ea,c_NoTemplate,true,⟨_,rfl,.inr (.inl ⟨_,rfl,C.val⟩)⟩,rf2.err,C.isi,true,rfl,rfl,rfl⟩
    · refine⟨_,rfl,l,rfl,hl,fun hg L H2 hL sm2 => ?_,fun i hi hw ea H2 sm2 hea rf ea' ez => ?_⟩
      · exact⟨_,rfl,kk T0 H2 (sm0.trans sm2) (.inl ⟨hg,sm2 _ _ hHT⟩)⟩
      · cases ez
        exact⟨rfl,i,hw,sm0.trans sm2,rf⟩
end
end K
set_option maxHeartbeats 4000000
namespace K
open PySem L2 TX
section
variable {P:Program} {w:World} {K:PySem.W.Frag} {mg:Str→Option Value} {base:Heap}
structure CallsL (P:Program) (w:World) (K:PySem.W.Frag) (mg:Str→Option Value) (base:Heap):Prop where
  draw:Cal P w K mg base "_law_draw" 1 ["_law_feed", "_law_many"] spDraw
  pieces:Cal P w K mg base "_law_pieces" 4 ["_law_feed", "_law_gaps", "_law_more", "_law_intos"] spPiecesL
  bent_once:Cal P w K mg base "_law_bent_once" 2 ["_law_feed", "_law_text_here"] spBentO
  first_wrong:Cal P w K mg base "_law_first_wrong" 3 ["_law_text_here"] spFirst
  refused_at:Cal P w K mg base "_law_refused_at" 9 ["_law_text_here"] spRefAt
def spLaw (K:PySem.W.Frag):Sp:=fun vs H Q _=>∃ (a:Addr) (ns:List Int),vs = [.ref a]∧SqL K H a (ns.map V.int)∧ns.length≤63∧∀ H',Q (.bl true) H'
def dLB:PyData := .tuple [.str (Str.ofString "let by")]
def dRf (i:Nat):PyData := .tuple [.str (Str.ofString "refused"),.int (i:Int),.bool false]
theorem dt_LB {K:PySem.W.Frag} {H:Hp} {T:Addr} (h:H T=some (.tup [.str (Str.ofString "let by")])):Dt K H (.ref T) dLB := .tup (SqT.of h) (.cons (.str _) .nil)
theorem dt_Rf {K:PySem.W.Frag} {H:Hp} {T:Addr} {i:Nat} (h:H T=some (.tup [.str (Str.ofString "refused"),.int (i:Int),.bl false])):Dt K H (.ref T) (dRf i) := .tup (SqT.of h) (.cons (.str _) (.cons (.int _) (.cons (.bl _) .nil)))
theorem lay_LB:dLB.canLay0=true:=by decide +kernel
theorem lay_Rf (i:Nat):(dRf i).canLay0=true:=by
  have h1:PySem.PyData.strOk (Str.ofString "refused")=true:=by decide +kernel
  unfold dRf
  simp only [PySem.PyData.canLay0,PySem.PyData.canLayAll0,h1,Bool.and_self]
theorem dep_LB:dLB.depth≤100:=by
  unfold dLB
  simp [PySem.PyData.depth,PySem.PyData.depthAll]
theorem dep_Rf (i:Nat):(dRf i).depth≤100:=by
  unfold dRf
  simp [PySem.PyData.depth,PySem.PyData.depthAll]
theorem good_z:Stp (tl (Str.ofString "{1z2}/{n}")) 0 .beg (tl (Str.ofString "{1z2}/{n}")).length .beh:=by
  have e:tl (Str.ofString "{1z2}/{n}") = [123,49,122,50,125,47,123,110,125]:=by decide +kernel
  rw [e]
  refine .step (c:=123) rfl (show _=some Sx.opn from by kernel_rfl) (.step (c:=49) rfl (show _=some Sx.gap from by kernel_rfl) (.step (c:=122) rfl (show _=some Sx.nou from by kernel_rfl) (.step (c:=50) rfl (show _=some Sx.cls from by kernel_rfl) (.step (c:=125) rfl (show _=some Sx.beh from by kernel_rfl) (.step (c:=47) rfl (show _=some Sx.into from by kernel_rfl) (.step (c:=123) rfl (show _=some Sx.opn from by kernel_rfl) (.step (c:=110) rfl (show _=some Sx.cnt from by kernel_rfl) (.step (c:=125) rfl (show _=some Sx.beh from by kernel_rfl) .refl))))))))
theorem mk_z:Str.ofString "{1z2}/{n}" = mk (tl (Str.ofString "{1z2}/{n}")):=(mk_tl _).symm
abbrev st_law:Stmt:=top 36
theorem sc_law:FnScope ["_law_script", "_law_feed", "_law_k", "_law_text_here", "_law_some", "_law_due", "_law_told"] ["_law_script"] (defScope st_law):=⟨rfl,rfl,rfl,by decide +kernel,rfl,by decide +kernel,by decide +kernel⟩
theorem body_law (T:Txt mg) (C:CallsL P w K mg base) (f:Addr) (cdv:Value) (A:Around) (outer:List Env) (s:Shared) (H:Hp) (vs:List V) (Q:VK) (E:XK) (hr:Room 9 (A.deeper (PyProof.Rows.envOfC "law" (defScope st_law) s.heap.objs.size f cdv))) (h:spLaw K vs H Q E) :
    ∃ t,PSs (cxOf CX0 P w K mg base ["_law_script", "_law_feed", "_law_k", "_law_text_here", "_law_some", "_law_due", "_law_told"] "law" (defScope st_law) f cdv A outer s H E).nox (defBody st_law) t∧t { nx:=fun _ H' => Q .non H',rt:=Q } (L2.start ["_law_script", "_law_feed", "_law_k", "_law_text_here", "_law_some", "_law_due", "_law_told"] vs) H:=by
    obtain⟨sc,ns,rfl,hS,hns,k⟩:=h
    refine⟨_,(@pss_cons _ _ _ _ _ (@ps_set _ _ (1) _ _ _ _ sc_law.nd rfl (by first | exact Or.inl rfl | exact Or.inr rfl) (@pe_lst _ _ _ _ (@pa_cons _ _ _ _ _ (@pe_callTy _ _ _ _ _ _ _ _ _ (list_k K rfl) (by rfl) T.b_list (by decide +kernel) (@pa_cons _ _ _ _ _ (@pv _ 0 _ _ (by rfl) (by first | exact Or.inl rfl | exact Or.inr (Or.inl rfl) | exact Or.inr (Or.inr rfl)) (by decide) (by decide)) pa_nil (by rfl)) (by decide) (by decide) (by rfl) (by rfl)) (@pa_cons _ _ _ _ _ pe_int (@pa_cons _ _ _ _ _ pe_int pa_nil (by rfl)) (by rfl)) (by rfl))) (by rfl) (by first | exact .inl rfl | exact .inr rfl | assumption)) (@pss_cons _ _ _ _ _ (@ps_for _ _ _ _ _ _ _ _ PassesOwn.never rfl (@pi_range1 _ _ _ _ _ _ rfl T.b_range (@pa_cons _ _ _ _ _ (@pe_callB _ _ _ _ _ _ _ _ _ (call_max2 rfl) (by rfl) T.b_max (by decide +kernel) (@pa_cons _ _ _ _ _ pe_int (@pa_cons _ _ _ _ _ (@pe_callB _ _ _ _ _ _ _ _ _ (call_min2 rfl) (by rfl) T.b_min (by decide +kernel) (@pa_cons _ _ _ _ _ pe_int (@pa_cons _ _ _ _ _ (@pe_callB _ _ _ _ _ _ _ _ _ (len_k K rfl) (by rfl) T.b_len PySem.boot_len (@pa_cons _ _ _ _ _ (@pv _ 0 _ _ (by rfl) (by first | exact Or.inl rfl | exact Or.inr (Or.inl rfl) | exact Or.inr (Or.inr rfl)) (by decide) (by decide)) pa_nil (by rfl)) (by decide) (by decide) (by rfl) (by rfl)) pa_nil (by rfl)) (by rfl)) (by decide) (by decide) (by rfl) (by rfl)) pa_nil (by rfl)) (by rfl)) (by decide) (by decide) (by rfl) (by rfl)) pa_nil (by rfl)) (by rfl)) (@pg_name _ _ (2) _ sc_law.nd rfl (by first | exact Or.inl rfl | exact Or.inr rfl) (by first | exact .inl rfl | exact .inr rfl | assumption)) (@pss_cons _ _ _ _ _ (@ps_set _ _ (3) _ _ _ _ sc_law.nd rfl (by first | exact Or.inl rfl | exact Or.inr rfl) (@pe_ix _ _ _ _ _ _ _ (ix_k K rfl) (@pe_c _ _ _ _ _ _ _ _ _ _ _ C.pieces hr (@pa_cons _ _ _ _ _ (@pv _ 1 _ _ (by rfl) (by first | exact Or.inl rfl | exact Or.inr (Or.inl rfl) | exact Or.inr (Or.inr rfl)) (by decide) (by decide)) (@pa_cons _ _ _ _ _ pe_int (@pa_cons _ _ _ _ _ (@pe_lst _ _ _ _ (@pa_cons _ _ _ _ _ pe_int (@pa_cons _ _ _ _ _ pe_int (@pa_cons _ _ _ _ _ pe_int (@pa_cons _ _ _ _ _ pe_int (@pa_cons _ _ _ _ _ pe_int (@pa_cons _ _ _ _ _ pe_int (@pa_cons _ _ _ _ _ pe_int (@pa_cons _ _ _ _ _ pe_int (@pa_cons _ _ _ _ _ pe_int pa_nil (by rfl)) (by rfl)) (by rfl)) (by rfl)) (by rfl)) (by rfl)) (by rfl)) (by rfl)) (by rfl))) (@pa_cons _ _ _ _ _ pe_bl pa_nil (by rfl)) (by rfl)) (by rfl)) (by rfl)) (by decide) (by rfl) (by decide) (by rfl) (by rfl)) pe_int (fun _ _=>rfl)) (by rfl) (by first | exact .inl rfl | exact .inr rfl | assumption)) (@pss_consJ _ _ _ _ _ (@ps_if _ _ _ _ _ _ _ _ (@pt_cmpR _ _ _ _ _ _ _ _ op_gt (@pe_c _ _ _ _ _ _ _ _ _ _ _ C.draw hr (@pa_cons _ _ _ _ _ (@pv _ 1 _ _ (by rfl) (by first | exact Or.inl rfl | exact Or.inr (Or.inl rfl) | exact Or.inr (Or.inr rfl)) (by decide) (by decide)) (@pa_cons _ _ _ _ _ pe_int pa_nil (by rfl)) (by rfl)) (by decide) (by rfl) (by decide) (by rfl) (by rfl)) pe_int (nomark _)) (@pss_one _ _ _ (@ps_set _ _ (3) _ _ _ _ sc_law.nd rfl (by first | exact Or.inl rfl | exact Or.inr rfl) (@pe_c _ _ _ _ _ _ _ _ _ _ _ C.bent_once hr (@pa_cons _ _ _ _ _ (@pv _ 1 _ _ (by rfl) (by first | exact Or.inl rfl | exact Or.inr (Or.inl rfl) | exact Or.inr (Or.inr rfl)) (by decide) (by decide)) (@pa_cons _ _ _ _ _ (@pe_slice _ _ _ _ _ _ _ _ _ _ (sl_k K rfl) (@pv _ 3 _ _ (by rfl) (by first | exact Or.inl rfl | exact Or.inr (Or.inl rfl) | exact Or.inr (Or.inr rfl)) (by decide) (by decide)) po_none (@po_some _ _ _ pe_int)) pa_nil (by rfl)) (by rfl)) (by decide) (by rfl) (by decide) (by rfl) (by rfl)) (by rfl) (by first | exact .inl rfl | exact .inr rfl | assumption))) pss_nil) (@pss_consJ _ _ _ _ _ (@ps_if _ _ _ _ _ _ _ _ (@pt_cmpR _ _ _ _ _ _ _ _ (eq_k K rfl hr) (@pe_c _ _ _ _ _ _ _ _ _ _ _ C.draw hr (@pa_cons _ _ _ _ _ (@pv _ 1 _ _ (by rfl) (by first | exact Or.inl rfl | exact Or.inr (Or.inl rfl) | exact Or.inr (Or.inr rfl)) (by decide) (by decide)) (@pa_cons _ _ _ _ _ pe_int pa_nil (by rfl)) (by rfl)) (by decide) (by rfl) (by decide) (by rfl) (by rfl)) pe_int (nomark _)) (@pss_one _ _ _ (@ps_set _ _ (3) _ _ _ _ sc_law.nd rfl (by first | exact Or.inl rfl | exact Or.inr rfl) (@pe_c _ _ _ _ _ _ _ _ _ _ _ C.bent_once hr (@pa_cons _ _ _ _ _ (@pv _ 1 _ _ (by rfl) (by first | exact Or.inl rfl | exact Or.inr (Or.inl rfl) | exact Or.inr (Or.inr rfl)) (by decide) (by decide)) (@pa_cons _ _ _ _ _ (@pv _ 3 _ _ (by rfl) (by first | exact Or.inl rfl | exact Or.inr (Or.inl rfl) | exact Or.inr (Or.inr rfl)) (by decide) (by decide)) pa_nil (by rfl)) (by rfl)) (by decide) (by rfl) (by decide) (by rfl) (by rfl)) (by rfl) (by first | exact .inl rfl | exact .inr rfl | assumption))) pss_nil) (@pss_cons _ _ _ _ _ (@ps_for _ _ _ _ _ _ _ _ PassesOwn.never rfl (@lst_k _ _ _ _ K rfl (@pe_lst _ _ _ _ (@pa_cons _ _ _ _ _ (@pv _ 3 _ _ (by rfl) (by first | exact Or.inl rfl | exact Or.inr (Or.inl rfl) | exact Or.inr (Or.inr rfl)) (by decide) (by decide)) (@pa_cons _ _ _ _ _ pe_str pa_nil (by rfl)) (by rfl)))) (@pg_name _ _ (4) _ sc_law.nd rfl (by first | exact Or.inl rfl | exact Or.inr rfl) (by first | exact .inl rfl | exact .inr rfl | assumption)) (@pss_cons _ _ _ _ _ (@ps_set _ _ (5) _ _ _ _ sc_law.nd rfl (by first | exact Or.inl rfl | exact Or.inr rfl) (@pe_c _ _ _ _ _ _ _ _ _ _ _ C.first_wrong hr (@pa_cons _ _ _ _ _ (@pv _ 4 _ _ (by rfl) (by first | exact Or.inl rfl | exact Or.inr (Or.inl rfl) | exact Or.inr (Or.inr rfl)) (by decide) (by decide)) pa_nil (by rfl)) (by decide) (by rfl) (by decide) (by rfl) (by rfl)) (by rfl) (by first | exact .inl rfl | exact .inr rfl | assumption)) (@pss_cons _ _ _ _ _ (@ps_set _ _ (6) _ _ _ _ sc_law.nd rfl (by first | exact Or.inl rfl | exact Or.inr rfl) (@pe_c _ _ _ _ _ _ _ _ _ _ _ C.refused_at hr (@pa_cons _ _ _ _ _ (@pv _ 4 _ _ (by rfl) (by first | exact Or.inl rfl | exact Or.inr (Or.inl rfl) | exact Or.inr (Or.inr rfl)) (by decide) (by decide)) pa_nil (by rfl)) (by decide) (by rfl) (by decide) (by rfl) (by rfl)) (by rfl) (by first | exact .inl rfl | exact .inr rfl | assumption)) (@pss_cons _ _ _ _ _ (@ps_if _ _ _ _ _ _ _ _ (@pt_j _ _ _ (@PW.pt _ _ _ (@pw_and _ _ _ _ _ _ _ (@pt_cmp _ _ _ _ _ _ (@pc_isN _ _ _ _ _ (@pv _ 5 _ _ (by rfl) (by first | exact Or.inl rfl | exact Or.inr (Or.inl rfl) | exact Or.inr (Or.inr rfl)) (by decide) (by decide))) (by first | exact nobehind _ (by decide) (by decide) | rfl)) (@pw_and1 _ _ _ _ (@pt_cmpR _ _ _ _ _ _ _ _ (ne_k K rfl hr) (@pv _ 6 _ _ (by rfl) (by first | exact Or.inl rfl | exact Or.inr (Or.inl rfl) | exact Or.inr (Or.inr rfl)) (by decide) (by decide)) (@pe_tup _ _ _ _ _ (@pa_cons _ _ _ _ _ pe_str pa_nil (by rfl))) (nomark _)))))) (@pss_one _ _ _ (@ps_ret _ _ _ _ pe_bl)) pss_nil) (@pss_one _ _ _ (@ps_if _ _ _ _ _ _ _ _ (@pt_j _ _ _ (@PW.pt _ _ _ (@pw_and _ _ _ _ _ _ _ (@pt_cmp _ _ _ _ _ _ (@pc_notN _ _ _ _ _ (@pv _ 5 _ _ (by rfl) (by first | exact Or.inl rfl | exact Or.inr (Or.inl rfl) | exact Or.inr (Or.inr rfl)) (by decide) (by decide))) (by first | exact nobehind _ (by decide) (by decide) | rfl)) (@pw_and1 _ _ _ _ (@pt_j _ _ _ (@PW.pt _ _ _ (@pw_or _ _ _ _ _ _ _ (@pt_cmpR _ _ _ _ _ _ _ _ (ne_k K rfl hr) (@pv _ 6 _ _ (by rfl) (by first | exact Or.inl rfl | exact Or.inr (Or.inl rfl) | exact Or.inr (Or.inr rfl)) (by decide) (by decide)) (@pe_tup _ _ _ _ _ (@pa_cons _ _ _ _ _ pe_str (@pa_cons _ _ _ _ _ (@pv _ 5 _ _ (by rfl) (by first | exact Or.inl rfl | exact Or.inr (Or.inl rfl) | exact Or.inr (Or.inr rfl)) (by decide) (by decide)) (@pa_cons _ _ _ _ _ pe_bl pa_nil (by rfl)) (by rfl)) (by rfl))) (nomark _)) (@pw_or1 _ _ _ _ (@tru_k _ _ _ K rfl (@pe_callB _ _ _ _ _ _ _ _ _ (isi_k K rfl) (by rfl) T.b_isinstance (by decide +kernel) (@pa_cons _ _ _ _ _ (@pe_ix _ _ _ _ _ _ _ (ix_k K rfl) (@pv _ 6 _ _ (by rfl) (by first | exact Or.inl rfl | exact Or.inr (Or.inl rfl) | exact Or.inr (Or.inr rfl)) (by decide) (by decide)) pe_int (fun _ _=>rfl)) (@pa_cons _ _ _ _ _ (@pe_bltn _ _ _ _ _ (by rfl) T.b_bool (by decide +kernel) (show RelV (.ty "bool") _ from rfl) (by decide) (by decide)) pa_nil (by rfl)) (by rfl)) (by decide) (by decide) (by rfl) (by rfl)) (fun _=>rfl)))))))))) (@pss_one _ _ _ (@ps_ret _ _ _ _ pe_bl)) pss_nil))))) (by intro _;rfl)) (@pss_one _ _ _ (@ps_if _ _ _ _ _ _ _ _ (@pt_cmpR _ _ _ _ _ _ _ _ (ne_k K rfl hr) (@pe_c _ _ _ _ _ _ _ _ _ _ _ C.refused_at hr (@pa_cons _ _ _ _ _ pe_str pa_nil (by rfl)) (by decide) (by rfl) (by decide) (by rfl) (by rfl)) (@pe_tup _ _ _ _ _ (@pa_cons _ _ _ _ _ pe_str pa_nil (by rfl))) (nomark _)) (@pss_one _ _ _ (@ps_ret _ _ _ _ pe_bl)) pss_nil)))))) (by intro _;rfl)) (@pss_one _ _ _ (@ps_ret _ _ _ _ pe_bl)))),?_⟩
    refine⟨_,rfl,sc,_,rfl,.inl hS,fun b hb=>⟨by show 3≤sizeLine;decide,fun a ha => ?_⟩⟩
    have nba:b≠a:=ne_of_none upd_same ha
    have F:FeedAt (upd (upd H b (.lst (ns.map V.int))) a (.lst [.ref b,.int 0,.int 0])) a b:=⟨⟨0,0,upd_same⟩,ns,by rw [upd_ne nba];exact upd_same⟩
    have sS:Same H (upd (upd H b (.lst (ns.map V.int))) a (.lst [.ref b,.int 0,.int 0])):=((Same.refl H).new hb).new ha
    generalize hH1:upd (upd H b _) a _=H1
    rw [hH1] at F sS
    refine⟨_,rfl,_,_,rfl,.inl ⟨_,sS.seq hS,rfl⟩,?_⟩
    refine⟨_,_,rfl,_,_,rfl,_,rfl,?_,?_,for_range (fun i σ' H' => ∃ x2 x3 x4 x5 x6,σ' = [some (.ref sc),some (.ref a),x2,x3,x4,x5,x6]∧Fd a b H1 H') ⟨none,none,none,none,none,rfl,Fd.refl F⟩ ?_ ?_⟩
    · rw [List.length_map];split <;> split <;> lia
    · rw [List.length_map];split <;> split <;> lia
    · rintro i σ' H' hi ⟨x2,x3,x4,x5,x6,rfl,fd⟩
      refine⟨_,rfl,by show 9≤sizeLine;decide,fun M hM => ?_⟩
      have fd1:=fd.new (o := .lst (vI [1,2,3,4,5,6,7,8,9])) hM
      have hMa:M≠a:=fun z=>by subst z;exact fd.feed.na hM rfl
      refine⟨a,b,M,rfl,fd1.feed,upd_same,hMa,fun T1 L ps H2 wp hp hT1 hL hT fd2 => ?_⟩
      have fdA:=fd1.trans fd2
      refine .inr (.inl ⟨T1,_,1,_,rfl,rfl,SqT.of hT1,rfl,?_⟩)
      have hz:=wp.sz
      generalize flatP ps=l0 at hz
      refine⟨fun σ' H' => ∃ l,σ' = [some (.ref sc),some (.ref a),some (.int (0+(i:Int))),some (.str (mk l)),x4,x5,x6]∧Fd a b H1 H' ∧ l.length≤110,?_,?_⟩
      rotate_left
      · refine⟨_,rfl,a,b,8,rfl,fdA.feed,by decide,by decide,fun r3 H3 _ _ fd3=>⟨_,_,rfl,rfl,_,rfl,?_⟩⟩
        have fdB:=fdA.trans fd3
        refine ite2 (fun h => ?_) (fun h=>⟨l0,rfl,fdB,by lia⟩)
        refine⟨_,rfl,_,rfl,_,rfl,.inl ⟨_,rfl,TX.small (by rw [mk_len];lia),?_⟩⟩
        rw [slice_toA (by decide)]
        refine⟨a,b,_,rfl,fdB.feed,by rw [List.length_take];lia,fun l' H4 hl' fd4=>⟨l',rfl,fdB.trans fd4,?_⟩⟩
        rw [List.length_take] at hl';lia
      rintro σ' H3 ⟨l1,rfl,fdB,hl1⟩
      refine⟨fun σ' H' => ∃ l,σ' = [some (.ref sc),some (.ref a),some (.int (0+(i:Int))),some (.str (mk l)),x4,x5,x6]∧Fd a b H1 H' ∧ l.length≤111,?_,?_⟩
      rotate_left
      · refine⟨_,rfl,a,b,3,rfl,fdB.feed,by decide,by decide,fun r4 H4 _ _ fd4 => .inl ⟨rfl,_,rfl,?_⟩⟩
        have fdC:=fdB.trans fd4
        refine ite2 (fun h => ?_) (fun h=>⟨l1,rfl,fdC,by lia⟩)
        exact⟨_,rfl,_,rfl,a,b,l1,rfl,fdC.feed,by lia,fun l' H5 hl' fd5=>⟨l',rfl,fdC.trans fd5,by lia⟩⟩
      rintro σ' H4 ⟨l,rfl,fdD,hl⟩
      refine⟨_,rfl,by show 2≤sizeLine;decide,fun L2' hL2=>⟨L2',rfl,⟨_,SqL.of upd_same⟩,?_⟩⟩
      have e0:Str.ofString "" = mk []:=by decide +kernel
      have fdE:Fd a b H1 (upd H4 L2' (.lst [.str (mk l),.str (Str.ofString "")])):=fdD.new hL2
      refine for_list (xs := [V.str (mk l),V.str (Str.ofString "")]) (fun i' σ' H' => ∃ x4 x5 x6,σ' = [some (.ref sc),some (.ref a),some (.int (0+(i:Int))),some (.str (mk l)),x4,x5,x6]∧Fd a b H1 H' ∧ H' L2' = some (.lst [.str (mk l),.str (Str.ofString "")])) ⟨_,_,_,rfl,fdE,upd_same⟩ (fun i' σ' H' _ ⟨_,_,_,_,_,h⟩=>SqL.of h) ?_ ?_
      · rintro i' x σ' H' hx ⟨x4,x5,x6,rfl,fd6,hL6⟩
        obtain⟨m,rfl,hm⟩:∃ m,x=V.str (mk m)∧m.length≤111:=by
          match i',hx with
          | 0,hx=>cases hx;exact⟨l,rfl,hl⟩
          | 1,hx=>cases hx;exact⟨[],congrArg V.str e0,by decide⟩
        refine⟨_,rfl,m,rfl,by lia,fun due H5 sm5 hdue => ?_⟩
        have fd5:=fd6.same sm5
        refine⟨_,rfl,m,rfl,by lia,fun T7 H7 sm7 htold => ?_⟩
        have fd7:=fd5.same sm7
        have hL7:=sm7 _ _ (sm5 _ _ hL6)
        refine⟨fun b H8=>b=false∧Same H7 H8,?_,?_⟩
        · rintro b H8 ⟨rfl,sm8⟩
          refine iteF ?_
          have fd8:=fd7.same sm8
          refine⟨fun b H9=>b=false∧Same H8 H9,?_,?_⟩
          · rintro b H9 ⟨rfl,sm9⟩
            exact iteF ⟨_,_,_,rfl,fd8.same sm9,sm9 _ _ (sm8 _ _ hL7)⟩
          · refine⟨_,rfl,?_⟩
            rcases hdue with ⟨rfl,hg⟩ | ⟨i,rfl,_,hw⟩
            · exact⟨false,rfl,iteF ⟨rfl,Same.refl H8⟩⟩
            · refine⟨true,rfl,iteT ?_⟩
              rcases htold with ⟨hg,_⟩ | ⟨j,hw2,hT⟩
              · exact (refu_not hw hg).elim
              cases refu_one hw hw2
              refine⟨fun b H9=>b=false∧Same H8 H9,?_,?_⟩
              · rintro b H9 ⟨rfl,sm9⟩
                exact⟨rfl,sm9⟩
              · refine⟨_,rfl,_,rfl,by show 3≤sizeLine;decide,fun T9 hT9 => ?_⟩
                have sm9:Same H8 (upd H8 T9 (.tup [.str (Str.ofString "refused"),.int (i:Int),.bl false])):=(Same.refl H8).new hT9
                have hT' := sm9 _ _ (sm8 _ _ hT)
                refine .inr ⟨_,_,dt_Rf hT',dt_Rf upd_same,lay_Rf i,lay_Rf i,by rw [Nat.min_self];exact dep_Rf i,_,rfl,?_⟩
                rw [SeqAt.eqv_refl _ (lay_Rf i)]
                refine iteF ?_
                refine⟨_,rfl,.inr (.inl ⟨T7,_,1,_,rfl,rfl,SqT.of hT',rfl,_,_,_,false,rfl,TyOf.int _,rfl,_,rfl,?_⟩)⟩
                exact⟨rfl,sm9⟩
        · refine⟨_,rfl,?_⟩
          rcases hdue with ⟨rfl,hg⟩ | ⟨i,rfl,_,hw⟩
          · refine⟨true,rfl,iteT ?_⟩
            rcases htold with ⟨_,hT⟩ | ⟨j,hw2,hT⟩
            rotate_left
            · exact (refu_not hw2 hg).elim
            refine⟨_,rfl,by show 1≤sizeLine;decide,fun T9 hT9 => ?_⟩
            have sm9:Same H7 (upd H7 T9 (.tup [.str (Str.ofString "let by")])):=(Same.refl H7).new hT9
            refine .inr ⟨_,_,dt_LB (sm9 _ _ hT),dt_LB upd_same,lay_LB,lay_LB,by rw [Nat.min_self];exact dep_LB,_,rfl,?_⟩
            rw [SeqAt.eqv_refl _ lay_LB]
            exact⟨rfl,sm9⟩
          · exact⟨false,rfl,iteF ⟨rfl,Same.refl H7⟩⟩
      · rintro σ' H' ⟨x4,x5,x6,rfl,fd6,hL6⟩
        rw [mk_z]
        have hzl:(tl (Str.ofString "{1z2}/{n}")).length≤100:=by decide +kernel
        refine⟨tl (Str.ofString "{1z2}/{n}"),rfl,by lia,fun T7 H7 sm7 htold => ?_⟩
        refine⟨by show 1≤sizeLine;decide,fun T9 hT9 => ?_⟩
        rcases htold with ⟨_,hT⟩ | ⟨j,hw2,hT⟩
        rotate_left
        · exact (refu_not hw2 good_z).elim
        have sm9:Same H7 (upd H7 T9 (.tup [.str (Str.ofString "let by")])):=(Same.refl H7).new hT9
        refine .inr ⟨_,_,dt_LB (sm9 _ _ hT),dt_LB upd_same,lay_LB,lay_LB,by rw [Nat.min_self];exact dep_LB,_,rfl,?_⟩
        rw [SeqAt.eqv_refl _ lay_LB]
        exact iteF ⟨_,_,_,_,_,rfl,(fd6.same sm7).same sm9⟩
    · rintro σ' H' ⟨x2,x3,x4,x5,x6,rfl,fd⟩
      exact k _
end
end K
set_option maxHeartbeats 4000000
namespace K
open PySem L2 TX
theorem df_mk {K:PySem.W.Frag} {mg:Str→Option Value} {h:Heap} {x:Str} {st:Stmt} {ps:List Str} {f:Addr} {oc:Value} {od an:Option Addr} {osl:Array (Option Value)} {kV doc pm cdv ct:Value} (X:K.In h) (G:h.Ns mainGlobals mg)
    (a:PySem.W.nsIn K mainGlobals x=some (some (.ref f))) (l:K.lookup f=some ⟨oc,od,.func (PySem.W.fnOf x x (defArgs st) (defBody st) (defScope st) .none kV doc pm an cdv ct),osl⟩) (c:PySem.W.codeIn K cdv x=true) (k:PySem.W.keepIn K (.ref f)=true)
    (hb:∀ (kV doc pm:Value) (an:Option Addr) (cdv ct:Value) (us:List Value),us.length=ps.length→bindArgs (PySem.W.fnOf x x (defArgs st) (defBody st) (defScope st) .none kV doc pm an cdv ct) ⟨us,[]⟩=pure (ps.zip us)):Df K mg x st ps :=
  ⟨f,_,fun_mk l c k,PySem.W.mg_of X G a,(fun_mk (st:=st) l c k).binds hb⟩
theorem len_1 {us:List Value} (h:us.length=1):∃ x0,us = [x0]:=by
  match us,h with
  | [x0],_=>exact⟨x0,rfl⟩
theorem len_2 {us:List Value} (h:us.length=2):∃ x0 x1,us = [x0,x1]:=by
  match us,h with
  | [x0,x1],_=>exact⟨x0,x1,rfl⟩
theorem len_3 {us:List Value} (h:us.length=3):∃ x0 x1 x2,us = [x0,x1,x2]:=by
  match us,h with
  | [x0,x1,x2],_=>exact⟨x0,x1,x2,rfl⟩
theorem len_4 {us:List Value} (h:us.length=4):∃ x0 x1 x2 x3,us = [x0,x1,x2,x3]:=by
  match us,h with
  | [x0,x1,x2,x3],_=>exact⟨x0,x1,x2,x3,rfl⟩
theorem all_mk {lw:PySem.W.OpenLaw} {w:World} {K:PySem.W.Frag} {h:Heap} {mg:Str→Option Value} {fa:Addr} (X:K.In h) (G:h.Ns mainGlobals mg) (hfa:mg "law" = some (.ref fa))
    {f0:Addr} {od0 an0:Option Addr} {sl0:Array (Option Value)} {oc0 kV0 dc0 pm0 cd0 ct0:Value}
    {f1:Addr} {od1 an1:Option Addr} {sl1:Array (Option Value)} {oc1 kV1 dc1 pm1 cd1 ct1:Value}
    {f2:Addr} {od2 an2:Option Addr} {sl2:Array (Option Value)} {oc2 kV2 dc2 pm2 cd2 ct2:Value}
    {f3:Addr} {od3 an3:Option Addr} {sl3:Array (Option Value)} {oc3 kV3 dc3 pm3 cd3 ct3:Value}
    {f4:Addr} {od4 an4:Option Addr} {sl4:Array (Option Value)} {oc4 kV4 dc4 pm4 cd4 ct4:Value}
    {f5:Addr} {od5 an5:Option Addr} {sl5:Array (Option Value)} {oc5 kV5 dc5 pm5 cd5 ct5:Value}
    {f6:Addr} {od6 an6:Option Addr} {sl6:Array (Option Value)} {oc6 kV6 dc6 pm6 cd6 ct6:Value}
    {f7:Addr} {od7 an7:Option Addr} {sl7:Array (Option Value)} {oc7 kV7 dc7 pm7 cd7 ct7:Value}
    {f8:Addr} {od8 an8:Option Addr} {sl8:Array (Option Value)} {oc8 kV8 dc8 pm8 cd8 ct8:Value}
    {f9:Addr} {od9 an9:Option Addr} {sl9:Array (Option Value)} {oc9 kV9 dc9 pm9 cd9 ct9:Value}
    {f10:Addr} {od10 an10:Option Addr} {sl10:Array (Option Value)} {oc10 kV10 dc10 pm10 cd10 ct10:Value}
    {f11:Addr} {od11 an11:Option Addr} {sl11:Array (Option Value)} {oc11 kV11 dc11 pm11 cd11 ct11:Value}
    {f12:Addr} {od12 an12:Option Addr} {sl12:Array (Option Value)} {oc12 kV12 dc12 pm12 cd12 ct12:Value}
    {f13:Addr} {od13 an13:Option Addr} {sl13:Array (Option Value)} {oc13 kV13 dc13 pm13 cd13 ct13:Value}
    {f14:Addr} {od14 an14:Option Addr} {sl14:Array (Option Value)} {oc14 kV14 dc14 pm14 cd14 ct14:Value}
    {f15:Addr} {od15 an15:Option Addr} {sl15:Array (Option Value)} {oc15 kV15 dc15 pm15 cd15 ct15:Value}
    {f16:Addr} {od16 an16:Option Addr} {sl16:Array (Option Value)} {oc16 kV16 dc16 pm16 cd16 ct16:Value}
    {f17:Addr} {od17 an17:Option Addr} {sl17:Array (Option Value)} {oc17 kV17 dc17 pm17 cd17 ct17:Value}
    {f18:Addr} {od18 an18:Option Addr} {sl18:Array (Option Value)} {oc18 kV18 dc18 pm18 cd18 ct18:Value}
    {f19:Addr} {od19 an19:Option Addr} {sl19:Array (Option Value)} {oc19 kV19 dc19 pm19 cd19 ct19:Value}
    {f20:Addr} {od20 an20:Option Addr} {sl20:Array (Option Value)} {oc20 kV20 dc20 pm20 cd20 ct20:Value}
    {f21:Addr} {od21 an21:Option Addr} {sl21:Array (Option Value)} {oc21 kV21 dc21 pm21 cd21 ct21:Value}
    {tk0:Tok}
    {tk1:Tok}
    {tk2:Tok}
    {tk3:Tok}
    {tk4:Tok}
    {eHallError:Addr} {nmeHallError qneHallError:Str} {NeHallError:Addr} {bseHallError:List Value} {sneHallError:List Str} {subeHallError:List Value} {abeHallError:Bool} {coleHallError:Option Bool} {ddeHallError:Option Addr} {k0eHallError k1eHallError k2eHallError k3eHallError k5eHallError:Option Value} {oceHallError:Value} {odeHallError:Option Addr} {eseHallError:Array DictEntry} {epeHallError:Nat} {sleHallError:Array (Option Value)}
    {mcH:Value}
    {eNoPattern:Addr}
    {eNoTemplate:Addr} {nmeNoTemplate qneNoTemplate:Str} {NeNoTemplate:Addr} {bseNoTemplate:List Value} {sneNoTemplate:List Str} {subeNoTemplate:List Value} {abeNoTemplate:Bool} {coleNoTemplate:Option Bool} {ddeNoTemplate:Option Addr} {k0eNoTemplate k1eNoTemplate k2eNoTemplate k3eNoTemplate k5eNoTemplate:Option Value} {oceNoTemplate:Value} {odeNoTemplate:Option Addr} {eseNoTemplate:Array DictEntry} {epeNoTemplate:Nat} {sleNoTemplate:Array (Option Value)}
    {fiNoTemplate:Addr} {odiNoTemplate aniNoTemplate:Option Addr} {sliNoTemplate:Array (Option Value)} {ociNoTemplate kViNoTemplate dciNoTemplate pmiNoTemplate cdiNoTemplate ctiNoTemplate:Value}
    {eNoHall:Addr}
    {eNoText:Addr}
    {eNoRule:Addr}
    {dC:Addr} {ep:Nat} {ck1 ck2 ck3 ck4:Tok}
    (a0:PySem.W.nsIn K mainGlobals "asked" = some (some (.ref f0)))
    (l0:K.lookup f0=some ⟨oc0,od0,.func (PySem.W.fnOf "asked" "asked" (defArgs st_asked) (defBody st_asked) (defScope st_asked) .none kV0 dc0 pm0 an0 cd0 ct0),sl0⟩) (c0:PySem.W.codeIn K cd0 "asked" = true) (k0:PySem.W.keepIn K (.ref f0)=true)
    (a1:PySem.W.nsIn K mainGlobals "end_of" = some (some (.ref f1)))
    (l1:K.lookup f1=some ⟨oc1,od1,.func (PySem.W.fnOf "end_of" "end_of" (defArgs st_end_of) (defBody st_end_of) (defScope st_end_of) .none kV1 dc1 pm1 an1 cd1 ct1),sl1⟩) (c1:PySem.W.codeIn K cd1 "end_of" = true) (k1:PySem.W.keepIn K (.ref f1)=true)
    (a2:PySem.W.nsIn K mainGlobals "read_count" = some (some (.ref f2)))
    (l2:K.lookup f2=some ⟨oc2,od2,.func (PySem.W.fnOf "read_count" "read_count" (defArgs st_read_count) (defBody st_read_count) (defScope st_read_count) .none kV2 dc2 pm2 an2 cd2 ct2),sl2⟩) (c2:PySem.W.codeIn K cd2 "read_count" = true) (k2:PySem.W.keepIn K (.ref f2)=true)
    (a3:PySem.W.nsIn K mainGlobals "read_noughts" = some (some (.ref f3)))
    (l3:K.lookup f3=some ⟨oc3,od3,.func (PySem.W.fnOf "read_noughts" "read_noughts" (defArgs st_read_noughts) (defBody st_read_noughts) (defScope st_read_noughts) .none kV3 dc3 pm3 an3 cd3 ct3),sl3⟩) (c3:PySem.W.codeIn K cd3 "read_noughts" = true) (k3:PySem.W.keepIn K (.ref f3)=true)
    (a4:PySem.W.nsIn K mainGlobals "read_more" = some (some (.ref f4)))
    (l4:K.lookup f4=some ⟨oc4,od4,.func (PySem.W.fnOf "read_more" "read_more" (defArgs st_read_more) (defBody st_read_more) (defScope st_read_more) .none kV4 dc4 pm4 an4 cd4 ct4),sl4⟩) (c4:PySem.W.codeIn K cd4 "read_more" = true) (k4:PySem.W.keepIn K (.ref f4)=true)
    (a5:PySem.W.nsIn K mainGlobals "read_gap" = some (some (.ref f5)))
    (l5:K.lookup f5=some ⟨oc5,od5,.func (PySem.W.fnOf "read_gap" "read_gap" (defArgs st_read_gap) (defBody st_read_gap) (defScope st_read_gap) .none kV5 dc5 pm5 an5 cd5 ct5),sl5⟩) (c5:PySem.W.codeIn K cd5 "read_gap" = true) (k5:PySem.W.keepIn K (.ref f5)=true)
    (a6:PySem.W.nsIn K mainGlobals "read_mark" = some (some (.ref f6)))
    (l6:K.lookup f6=some ⟨oc6,od6,.func (PySem.W.fnOf "read_mark" "read_mark" (defArgs st_read_mark) (defBody st_read_mark) (defScope st_read_mark) .none kV6 dc6 pm6 an6 cd6 ct6),sl6⟩) (c6:PySem.W.codeIn K cd6 "read_mark" = true) (k6:PySem.W.keepIn K (.ref f6)=true)
    (a7:PySem.W.nsIn K mainGlobals "read_into" = some (some (.ref f7)))
    (l7:K.lookup f7=some ⟨oc7,od7,.func (PySem.W.fnOf "read_into" "read_into" (defArgs st_read_into) (defBody st_read_into) (defScope st_read_into) .none kV7 dc7 pm7 an7 cd7 ct7),sl7⟩) (c7:PySem.W.codeIn K cd7 "read_into" = true) (k7:PySem.W.keepIn K (.ref f7)=true)
    (a8:PySem.W.nsIn K mainGlobals "read_text" = some (some (.ref f8)))
    (l8:K.lookup f8=some ⟨oc8,od8,.func (PySem.W.fnOf "read_text" "read_text" (defArgs st_read_text) (defBody st_read_text) (defScope st_read_text) .none kV8 dc8 pm8 an8 cd8 ct8),sl8⟩) (c8:PySem.W.codeIn K cd8 "read_text" = true) (k8:PySem.W.keepIn K (.ref f8)=true)
    (a9:PySem.W.nsIn K mainGlobals "read_piece" = some (some (.ref f9)))
    (l9:K.lookup f9=some ⟨oc9,od9,.func (PySem.W.fnOf "read_piece" "read_piece" (defArgs st_read_piece) (defBody st_read_piece) (defScope st_read_piece) .none kV9 dc9 pm9 an9 cd9 ct9),sl9⟩) (c9:PySem.W.codeIn K cd9 "read_piece" = true) (k9:PySem.W.keepIn K (.ref f9)=true)
    (a10:PySem.W.nsIn K mainGlobals "pieces_of" = some (some (.ref f10)))
    (l10:K.lookup f10=some ⟨oc10,od10,.func (PySem.W.fnOf "pieces_of" "pieces_of" (defArgs st_pieces_of) (defBody st_pieces_of) (defScope st_pieces_of) .none kV10 dc10 pm10 an10 cd10 ct10),sl10⟩) (c10:PySem.W.codeIn K cd10 "pieces_of" = true) (k10:PySem.W.keepIn K (.ref f10)=true)
    (a11:PySem.W.nsIn K mainGlobals "_law_draw" = some (some (.ref f11)))
    (l11:K.lookup f11=some ⟨oc11,od11,.func (PySem.W.fnOf "_law_draw" "_law_draw" (defArgs st_draw) (defBody st_draw) (defScope st_draw) .none kV11 dc11 pm11 an11 cd11 ct11),sl11⟩) (c11:PySem.W.codeIn K cd11 "_law_draw" = true) (k11:PySem.W.keepIn K (.ref f11)=true)
    (a12:PySem.W.nsIn K mainGlobals "_law_name_signs" = some (some (.ref f12)))
    (l12:K.lookup f12=some ⟨oc12,od12,.func (PySem.W.fnOf "_law_name_signs" "_law_name_signs" (defArgs st_name_signs) (defBody st_name_signs) (defScope st_name_signs) .none kV12 dc12 pm12 an12 cd12 ct12),sl12⟩) (c12:PySem.W.codeIn K cd12 "_law_name_signs" = true) (k12:PySem.W.keepIn K (.ref f12)=true)
    (a13:PySem.W.nsIn K mainGlobals "_law_other_signs" = some (some (.ref f13)))
    (l13:K.lookup f13=some ⟨oc13,od13,.func (PySem.W.fnOf "_law_other_signs" "_law_other_signs" (defArgs st_other_signs) (defBody st_other_signs) (defScope st_other_signs) .none kV13 dc13 pm13 an13 cd13 ct13),sl13⟩) (c13:PySem.W.codeIn K cd13 "_law_other_signs" = true) (k13:PySem.W.keepIn K (.ref f13)=true)
    (a14:PySem.W.nsIn K mainGlobals "_law_text" = some (some (.ref f14)))
    (l14:K.lookup f14=some ⟨oc14,od14,.func (PySem.W.fnOf "_law_text" "_law_text" (defArgs st_text) (defBody st_text) (defScope st_text) .none kV14 dc14 pm14 an14 cd14 ct14),sl14⟩) (c14:PySem.W.codeIn K cd14 "_law_text" = true) (k14:PySem.W.keepIn K (.ref f14)=true)
    (a15:PySem.W.nsIn K mainGlobals "_law_piece" = some (some (.ref f15)))
    (l15:K.lookup f15=some ⟨oc15,od15,.func (PySem.W.fnOf "_law_piece" "_law_piece" (defArgs st_piece) (defBody st_piece) (defScope st_piece) .none kV15 dc15 pm15 an15 cd15 ct15),sl15⟩) (c15:PySem.W.codeIn K cd15 "_law_piece" = true) (k15:PySem.W.keepIn K (.ref f15)=true)
    (a16:PySem.W.nsIn K mainGlobals "_law_pieces" = some (some (.ref f16)))
    (l16:K.lookup f16=some ⟨oc16,od16,.func (PySem.W.fnOf "_law_pieces" "_law_pieces" (defArgs st_pieces) (defBody st_pieces) (defScope st_pieces) .none kV16 dc16 pm16 an16 cd16 ct16),sl16⟩) (c16:PySem.W.codeIn K cd16 "_law_pieces" = true) (k16:PySem.W.keepIn K (.ref f16)=true)
    (a17:PySem.W.nsIn K mainGlobals "_law_bent_once" = some (some (.ref f17)))
    (l17:K.lookup f17=some ⟨oc17,od17,.func (PySem.W.fnOf "_law_bent_once" "_law_bent_once" (defArgs st_bent_once) (defBody st_bent_once) (defScope st_bent_once) .none kV17 dc17 pm17 an17 cd17 ct17),sl17⟩) (c17:PySem.W.codeIn K cd17 "_law_bent_once" = true) (k17:PySem.W.keepIn K (.ref f17)=true)
    (a18:PySem.W.nsIn K mainGlobals "_law_next_state" = some (some (.ref f18)))
    (l18:K.lookup f18=some ⟨oc18,od18,.func (PySem.W.fnOf "_law_next_state" "_law_next_state" (defArgs st_next_state) (defBody st_next_state) (defScope st_next_state) .none kV18 dc18 pm18 an18 cd18 ct18),sl18⟩) (c18:PySem.W.codeIn K cd18 "_law_next_state" = true) (k18:PySem.W.keepIn K (.ref f18)=true)
    (a19:PySem.W.nsIn K mainGlobals "_law_first_wrong" = some (some (.ref f19)))
    (l19:K.lookup f19=some ⟨oc19,od19,.func (PySem.W.fnOf "_law_first_wrong" "_law_first_wrong" (defArgs st_first_wrong) (defBody st_first_wrong) (defScope st_first_wrong) .none kV19 dc19 pm19 an19 cd19 ct19),sl19⟩) (c19:PySem.W.codeIn K cd19 "_law_first_wrong" = true) (k19:PySem.W.keepIn K (.ref f19)=true)
    (a20:PySem.W.nsIn K mainGlobals "_law_refused_at" = some (some (.ref f20)))
    (l20:K.lookup f20=some ⟨oc20,od20,.func (PySem.W.fnOf "_law_refused_at" "_law_refused_at" (defArgs st_refused_at) (defBody st_refused_at) (defScope st_refused_at) .none kV20 dc20 pm20 an20 cd20 ct20),sl20⟩) (c20:PySem.W.codeIn K cd20 "_law_refused_at" = true) (k20:PySem.W.keepIn K (.ref f20)=true)
    (a21:PySem.W.nsIn K mainGlobals "law" = some (some (.ref f21)))
    (l21:K.lookup f21=some ⟨oc21,od21,.func (PySem.W.fnOf "law" "law" (defArgs st_law) (defBody st_law) (defScope st_law) .none kV21 dc21 pm21 an21 cd21 ct21),sl21⟩) (c21:PySem.W.codeIn K cd21 "law" = true) (k21:PySem.W.keepIn K (.ref f21)=true)
    (z0:PySem.W.nsIn K mainGlobals "ValueError" = some none)
    (z1:PySem.W.nsIn K mainGlobals "bool" = some none)
    (z2:PySem.W.nsIn K mainGlobals "int" = some none)
    (z3:PySem.W.nsIn K mainGlobals "isinstance" = some none)
    (z4:PySem.W.nsIn K mainGlobals "len" = some none)
    (z5:PySem.W.nsIn K mainGlobals "list" = some none)
    (z6:PySem.W.nsIn K mainGlobals "max" = some none)
    (z7:PySem.W.nsIn K mainGlobals "min" = some none)
    (z8:PySem.W.nsIn K mainGlobals "range" = some none)
    (z9:PySem.W.nsIn K mainGlobals "str" = some none)
    (z10:PySem.W.nsIn K mainGlobals "tuple" = some none)
    (z11:PySem.W.nsIn K mainGlobals "zip" = some none)
    (gv0:PySem.W.nsIn K mainGlobals "NAME_SIGNS" = some (some (.str (Str.ofString "abcdefghijklmnopqrstuvwxyzABCDEFGHIJKLMNOPQRSTUVWXYZ0123456789-_.") tk0)))
    (gv1:PySem.W.nsIn K mainGlobals "FIGURES" = some (some (.str (Str.ofString "0123456789") tk1)))
    (gv2:PySem.W.nsIn K mainGlobals "FROM_ONE" = some (some (.str (Str.ofString "123456789") tk2)))
    (gv3:PySem.W.nsIn K mainGlobals "FROM_TWO" = some (some (.str (Str.ofString "23456789") tk3)))
    (gv4:PySem.W.nsIn K mainGlobals "MOST_FIGURES" = some (some (.int 9 tk4)))
    (geHallError:PySem.W.nsIn K mainGlobals "HallError" = some (some (.ref eHallError)))
    (leHallError:K.lookup eHallError=some (excClassObj nmeHallError qneHallError eHallError NeHallError bseHallError bmV true sneHallError subeHallError abeHallError coleHallError ddeHallError k0eHallError k1eHallError k2eHallError k3eHallError k5eHallError "ValueError.__new__")) (neHallError:K.lookup NeHallError=some ⟨oceHallError,odeHallError,.dict eseHallError epeHallError,sleHallError⟩) (seHallError:eseHallError.toList.all strKey=true) (ieHallError:PySem.W.nsIn K NeHallError "__init__" = some none)
    (spH:PySem.W.specialIn K (.ref eHallError) "__getattribute__" = some (some (.builtin "type.__getattribute__"))) (tmH:PySem.W.typeIn K (.ref eHallError)=some mcH) (rdH:PySem.W.readsIn K eHallError mcH=true) (fcH:PySem.W.findCls K (.ref eHallError) mcH "__init__" = some (.val (.builtin "ValueError.__init__")))
    (hnO:PySem.W.specialIn K (.builtin "object.__class__") "__get__" = some (some (.builtin "getset_descriptor.__get__"))) (htkO:PySem.W.takesIn K (.builtin "object.__class__")=some true)
    (geNoPattern:PySem.W.nsIn K mainGlobals "NoPattern" = some (some (.ref eNoPattern)))
    (geNoTemplate:PySem.W.nsIn K mainGlobals "NoTemplate" = some (some (.ref eNoTemplate)))
    (leNoTemplate:K.lookup eNoTemplate=some (excClassObj nmeNoTemplate qneNoTemplate eNoTemplate NeNoTemplate bseNoTemplate (.ref eHallError::bmV) true sneNoTemplate subeNoTemplate abeNoTemplate coleNoTemplate ddeNoTemplate k0eNoTemplate k1eNoTemplate k2eNoTemplate k3eNoTemplate k5eNoTemplate "ValueError.__new__")) (neNoTemplate:K.lookup NeNoTemplate=some ⟨oceNoTemplate,odeNoTemplate,.dict eseNoTemplate epeNoTemplate,sleNoTemplate⟩) (seNoTemplate:eseNoTemplate.toList.all strKey=true) (ieNoTemplate:PySem.W.nsIn K NeNoTemplate "__init__" = some (some (.ref fiNoTemplate)))
    (liNoTemplate:K.lookup fiNoTemplate=some ⟨ociNoTemplate,odiNoTemplate,.func (PySem.W.fnOf "__init__" "NoTemplate.__init__" (defArgs st_NoTemplate___init__) (defBody st_NoTemplate___init__) (defScope st_NoTemplate___init__) .none kViNoTemplate dciNoTemplate pmiNoTemplate aniNoTemplate cdiNoTemplate ctiNoTemplate),sliNoTemplate⟩) (ciNoTemplate:PySem.W.codeIn K cdiNoTemplate "NoTemplate.__init__" = true) (kiNoTemplate:PySem.W.keepIn K (.ref fiNoTemplate)=true) (tiNoTemplate:ociNoTemplate = .type "function")
    (kpeNoTemplate:PySem.W.keepIn K (.ref eNoTemplate)=true)
    (saeNoTemplate:PySem.W.findIn K (.ref eNoTemplate) "__setattr__" = some (some (.builtin "object.__setattr__"))) (gaeNoTemplate:PySem.W.findIn K (.ref eNoTemplate) "__getattribute__" = some (some (.builtin "BaseException.__getattribute__"))) (gheNoTemplate:PySem.W.findIn K (.ref eNoTemplate) "__getattr__" = some none) (haeNoTemplate:PySem.W.findIn K (.ref eNoTemplate) "__class__" = some (some (.builtin "object.__class__")))
    (tkeNoTemplate_at:PySem.W.findIn K (.ref eNoTemplate) "at" = some none)
    (geNoHall:PySem.W.nsIn K mainGlobals "NoHall" = some (some (.ref eNoHall)))
    (geNoText:PySem.W.nsIn K mainGlobals "NoText" = some (some (.ref eNoText)))
    (geNoRule:PySem.W.nsIn K mainGlobals "NoRule" = some (some (.ref eNoRule)))
    (KO_NoTemplate_NoTemplate:PySem.W.kitOne K (.ref eNoTemplate) (.ref eNoTemplate)=some true)
    (KO_NoTemplate_ValueError:PySem.W.kitOne K (.ref eNoTemplate) (.type "ValueError")=some true)
    (KA_NoTemplate__NoPattern__NoRule__NoHall__NoText:PySem.W.kitAny K (.ref eNoTemplate) [.ref eNoPattern,.ref eNoRule,.ref eNoHall,.ref eNoText]=some false)
    (gC:PySem.W.nsIn K mainGlobals "CASES" = some (some (.ref dC)))
    (lC:K.lookup dC=some ⟨.type "dict",none,.dict #[⟨PyData.keyHash w.params (Str.ofString "u"),.str (Str.ofString "u") ck1,.str (Str.ofString "great") ck2⟩,⟨PyData.keyHash w.params (Str.ofString "l"),.str (Str.ofString "l") ck3,.str (Str.ofString "small") ck4⟩] ep,#[]⟩) :
    ∃ fd:FuncData,(∀ (s:Shared) (v:Value),BindsTo s fd ⟨[v],[]⟩ [("_law_script",v)])∧∀ base:Heap,K.In base→base.Ns mainGlobals mg→FnOk lw.prog w K mg base CX0 10 fa fd ["_law_script"] (spLaw K):=by
  have e:=hfa.symm.trans (PySem.W.mg_of X G a21)
  cases e
  have D_asked:Df K mg "asked" st_asked ["template", "at", "signs"]:=df_mk X G a0 l0 c0 k0 fun _ _ _ _ _ _ us hl=>by obtain⟨_,_,_,rfl⟩:=len_3 hl;rfl
  have D_end_of:Df K mg "end_of" st_end_of ["template", "at", "signs", "most"]:=df_mk X G a1 l1 c1 k1 fun _ _ _ _ _ _ us hl=>by obtain⟨_,_,_,_,rfl⟩:=len_4 hl;rfl
  have D_read_count:Df K mg "read_count" st_read_count ["template", "at"]:=df_mk X G a2 l2 c2 k2 fun _ _ _ _ _ _ us hl=>by obtain⟨_,_,rfl⟩:=len_2 hl;rfl
  have D_read_noughts:Df K mg "read_noughts" st_read_noughts ["template", "at", "gap"]:=df_mk X G a3 l3 c3 k3 fun _ _ _ _ _ _ us hl=>by obtain⟨_,_,_,rfl⟩:=len_3 hl;rfl
  have D_read_more:Df K mg "read_more" st_read_more ["template", "at", "gap"]:=df_mk X G a4 l4 c4 k4 fun _ _ _ _ _ _ us hl=>by obtain⟨_,_,_,rfl⟩:=len_3 hl;rfl
  have D_read_gap:Df K mg "read_gap" st_read_gap ["template", "at", "gap"]:=df_mk X G a5 l5 c5 k5 fun _ _ _ _ _ _ us hl=>by obtain⟨_,_,_,rfl⟩:=len_3 hl;rfl
  have D_read_mark:Df K mg "read_mark" st_read_mark ["template", "at"]:=df_mk X G a6 l6 c6 k6 fun _ _ _ _ _ _ us hl=>by obtain⟨_,_,rfl⟩:=len_2 hl;rfl
  have D_read_into:Df K mg "read_into" st_read_into ["template", "at"]:=df_mk X G a7 l7 c7 k7 fun _ _ _ _ _ _ us hl=>by obtain⟨_,_,rfl⟩:=len_2 hl;rfl
  have D_read_text:Df K mg "read_text" st_read_text ["template", "at"]:=df_mk X G a8 l8 c8 k8 fun _ _ _ _ _ _ us hl=>by obtain⟨_,_,rfl⟩:=len_2 hl;rfl
  have D_read_piece:Df K mg "read_piece" st_read_piece ["template", "at"]:=df_mk X G a9 l9 c9 k9 fun _ _ _ _ _ _ us hl=>by obtain⟨_,_,rfl⟩:=len_2 hl;rfl
  have D_pieces_of:Df K mg "pieces_of" st_pieces_of ["template"]:=df_mk X G a10 l10 c10 k10 fun _ _ _ _ _ _ us hl=>by obtain⟨_,rfl⟩:=len_1 hl;rfl
  have D_draw:Df K mg "_law_draw" st_draw ["_law_feed", "_law_many"]:=df_mk X G a11 l11 c11 k11 fun _ _ _ _ _ _ us hl=>by obtain⟨_,_,rfl⟩:=len_2 hl;rfl
  have D_name_signs:Df K mg "_law_name_signs" st_name_signs []:=df_mk X G a12 l12 c12 k12 fun _ _ _ _ _ _ us hl=>by cases us with | nil=>rfl | cons _ _=>cases hl
  have D_other_signs:Df K mg "_law_other_signs" st_other_signs []:=df_mk X G a13 l13 c13 k13 fun _ _ _ _ _ _ us hl=>by cases us with | nil=>rfl | cons _ _=>cases hl
  have D_text:Df K mg "_law_text" st_text ["_law_feed", "_law_signs", "_law_size"]:=df_mk X G a14 l14 c14 k14 fun _ _ _ _ _ _ us hl=>by obtain⟨_,_,_,rfl⟩:=len_3 hl;rfl
  have D_piece:Df K mg "_law_piece" st_piece ["_law_feed", "_law_gaps", "_law_more"]:=df_mk X G a15 l15 c15 k15 fun _ _ _ _ _ _ us hl=>by obtain⟨_,_,_,rfl⟩:=len_3 hl;rfl
  have D_pieces:Df K mg "_law_pieces" st_pieces ["_law_feed", "_law_gaps", "_law_more", "_law_intos"]:=df_mk X G a16 l16 c16 k16 fun _ _ _ _ _ _ us hl=>by obtain⟨_,_,_,_,rfl⟩:=len_4 hl;rfl
  have D_bent_once:Df K mg "_law_bent_once" st_bent_once ["_law_feed", "_law_text_here"]:=df_mk X G a17 l17 c17 k17 fun _ _ _ _ _ _ us hl=>by obtain⟨_,_,rfl⟩:=len_2 hl;rfl
  have D_next_state:Df K mg "_law_next_state" st_next_state ["_law_state", "_law_sign"]:=df_mk X G a18 l18 c18 k18 fun _ _ _ _ _ _ us hl=>by obtain⟨_,_,rfl⟩:=len_2 hl;rfl
  have D_first_wrong:Df K mg "_law_first_wrong" st_first_wrong ["_law_text_here"]:=df_mk X G a19 l19 c19 k19 fun _ _ _ _ _ _ us hl=>by obtain⟨_,rfl⟩:=len_1 hl;rfl
  have D_refused_at:Df K mg "_law_refused_at" st_refused_at ["_law_text_here"]:=df_mk X G a20 l20 c20 k20 fun _ _ _ _ _ _ us hl=>by obtain⟨_,rfl⟩:=len_1 hl;rfl
  have gl_HallError:mg "HallError" = some (.ref eHallError):=PySem.W.mg_of X G geHallError
  have EB_HallError:EBase K eHallError:=⟨nmeHallError,qneHallError,NeHallError,bseHallError,sneHallError,subeHallError,abeHallError,coleHallError,ddeHallError,k0eHallError,k1eHallError,k2eHallError,k3eHallError,k5eHallError,leHallError,isNsK_of neHallError seHallError,ieHallError⟩
  have EN_HallError:EIni K eHallError mcH:=⟨spH,rdH,fcH⟩
  have gl_NoPattern:mg "NoPattern" = some (.ref eNoPattern):=PySem.W.mg_of X G geNoPattern
  have gl_NoTemplate:mg "NoTemplate" = some (.ref eNoTemplate):=PySem.W.mg_of X G geNoTemplate
  have EL_NoTemplate:ELaw K eNoTemplate eHallError fiNoTemplate:=⟨⟨nmeNoTemplate,qneNoTemplate,NeNoTemplate,bseNoTemplate,sneNoTemplate,subeNoTemplate,abeNoTemplate,coleNoTemplate,ddeNoTemplate,k0eNoTemplate,k1eNoTemplate,k2eNoTemplate,k3eNoTemplate,k5eNoTemplate,leNoTemplate,isNsK_of neNoTemplate seNoTemplate,ieNoTemplate⟩,⟨_,liNoTemplate,tiNoTemplate⟩,kpeNoTemplate⟩
  have EF_NoTemplate:Ef K mg "NoTemplate" eNoTemplate eHallError "NoTemplate.__init__" st_NoTemplate___init__ ["self", "at"]:=⟨⟨fiNoTemplate,_,mcH,fun_mk liNoTemplate ciNoTemplate kiNoTemplate,EL_NoTemplate,EB_HallError,EN_HallError,(fun_mk (st:=st_NoTemplate___init__) liNoTemplate ciNoTemplate kiNoTemplate).binds fun _ _ _ _ _ _ us hl=>by obtain⟨_,_,rfl⟩:=len_2 hl;rfl⟩,gl_NoTemplate⟩
  have ES_NoTemplate_at:ESet K eNoTemplate "at" := EL_NoTemplate.set saeNoTemplate tkeNoTemplate_at
  have EG_NoTemplate_at:EGet K eNoTemplate "at" := EL_NoTemplate.get gaeNoTemplate gheNoTemplate tkeNoTemplate_at
  have EI_NoTemplate:EIsi K eNoTemplate:=⟨EL_NoTemplate.clsIn,gaeNoTemplate,gheNoTemplate,haeNoTemplate,hnO,htkO⟩
  have gl_NoHall:mg "NoHall" = some (.ref eNoHall):=PySem.W.mg_of X G geNoHall
  have gl_NoText:mg "NoText" = some (.ref eNoText):=PySem.W.mg_of X G geNoText
  have gl_NoRule:mg "NoRule" = some (.ref eNoRule):=PySem.W.mg_of X G geNoRule
  have T:Txt mg:=⟨PySem.W.mg_none_of X G z0,PySem.W.mg_none_of X G z1,PySem.W.mg_none_of X G z2,PySem.W.mg_none_of X G z3,PySem.W.mg_none_of X G z4,PySem.W.mg_none_of X G z5,PySem.W.mg_none_of X G z6,PySem.W.mg_none_of X G z7,PySem.W.mg_none_of X G z8,PySem.W.mg_none_of X G z9,PySem.W.mg_none_of X G z10,PySem.W.mg_none_of X G z11,⟨_,PySem.W.mg_of X G gv0⟩,⟨_,PySem.W.mg_of X G gv1⟩,⟨_,PySem.W.mg_of X G gv2⟩,⟨_,PySem.W.mg_of X G gv3⟩,⟨_,PySem.W.mg_of X G gv4⟩⟩
  have FL:=fun_mk (st:=st_law) l21 c21 k21
  refine⟨PySem.W.fnOf "law" "law" (defArgs st_law) (defBody st_law) (defScope st_law) .none kV21 dc21 pm21 an21 cd21 ct21,fun s v => .of_eq rfl,fun base _ _ => ?_⟩
  have c1:=ok_draw (P:=lw.prog) (w:=w) (base:=base) D_draw T
  have c2:=ok_text (P:=lw.prog) (w:=w) (base:=base) D_text T c1
  have cE:=ok_NoTemplate_init (P:=lw.prog) (w:=w) (base:=base) EF_NoTemplate gl_HallError ES_NoTemplate_at
  have cA:=ok_askedX (P:=lw.prog) (w:=w) (base:=base) D_asked T ⟨cE⟩
  have CA:CallsA6 lw.prog w K mg base eNoTemplate:=⟨cA,ok_end_of D_end_of T⟩
  have CG:CallsG6 lw.prog w K mg base eNoTemplate:=⟨cA,ok_read_noughtsX D_read_noughts T CA,ok_read_moreX D_read_more T CA,⟨dC,PySem.W.mg_of X G gC,cases_mk lC⟩⟩
  have CM:CallsM6 lw.prog w K mg base eNoTemplate:=⟨cA,ok_read_countX D_read_count T CA,ok_read_gapX D_read_gap T CG⟩
  have CP:CallsP6 lw.prog w K mg base eNoTemplate:=⟨ok_read_markX D_read_mark T CM,ok_read_intoX D_read_into T ⟨cE⟩,ok_read_textX D_read_text T CA⟩
  have cPi:=ok_pieces_ofX (P:=lw.prog) (w:=w) (base:=base) D_pieces_of T ⟨cE,ok_read_pieceX D_read_piece T CP⟩
  have cNS:=ok_name_signs (P:=lw.prog) (w:=w) (base:=base) D_name_signs
  have CY:CallsY lw.prog w K mg base:=⟨c1,c2,cNS⟩
  have CZ:CallsZ lw.prog w K mg base:=⟨c1,ok_piece D_piece T CY⟩
  have CF:CallsF lw.prog w K mg base eNoTemplate eHallError eNoPattern eNoRule eNoHall eNoText:=⟨cPi,gl_HallError,EB_HallError.cls,gl_NoTemplate,gl_NoPattern,gl_NoRule,gl_NoHall,gl_NoText,EL_NoTemplate.sub,EI_NoTemplate,EG_NoTemplate_at,KO_NoTemplate_NoTemplate,KO_NoTemplate_ValueError,KA_NoTemplate__NoPattern__NoRule__NoHall__NoText⟩
  have CL:CallsL lw.prog w K mg base:=⟨c1,ok_pieces D_pieces T CZ,ok_bent_once D_bent_once T ⟨c1,cNS,ok_other_signs D_other_signs⟩,ok_first_wrong D_first_wrong T ⟨next_of (ok_next_state D_next_state T ⟨cNS⟩)⟩,ok_refused_at D_refused_at T CF⟩
  exact FL.ok sc_law (fun vs H Q E h=>by obtain⟨a,ns,rfl,_⟩:=h;rfl) (fun cdv A outer s H vs Q E hr h=>body_law T CL _ cdv A outer s H vs Q E hr h)
theorem walk {l:PySem.W.OpenLaw} {q:Program} {loose:List Str} {XP:(Str→Option Value)→Heap→Prop} {YP:World→Heap→Prop} {d:DefRec} {K:Params→PySem.W.Frag} (hn:l.most=some 63) (hdf:d.params.defaults = [])
    (hY:∀ (w:World) (h:Heap),YP w h→(K w.params).In h)
    (F:∀ (w:World) (mg:Str→Option Value) (fa:Addr) (h:Heap),(K w.params).In h→h.Ns mainGlobals mg→mg d.name=some (.ref fa) →
      ∃ fd:FuncData,(∀ (s:Shared) (u:Value),BindsTo s fd ⟨[u],[]⟩ [("_law_script",u)])∧∀ base:Heap,(K w.params).In base→base.Ns mainGlobals mg→FnOk l.prog w (K w.params) mg base CX0 10 fa fd ["_law_script"] (spLaw (K w.params))) :
    PySem.W.WalkO q loose XP YP l.row.toRowW d [] (fun f vs=>PySem.call f vs) :=
  L2.walk_of (n:=63) (k:=10) (x := "_law_script") (CX:=fun _=>CX0) (sp:=fun w=>spLaw (K w.params)) hn (by decide) hdf ⟨rfl,by decide,by decide,rfl⟩ hY F (fun _ _ a ns hl _ hS=>⟨a,ns,rfl,hS,hl,fun _=>rfl⟩) fun _ _ _ _ _ z=>z
end K
namespace K
open PySem PySem.W PyProof.Rows
abbrev loose:List Str := [Str.ofString "HallError",Str.ofString "NoPattern",Str.ofString "NoTemplate",Str.ofString "NoHall",Str.ofString "NoText",Str.ofString "NoRule",Str.ofString "FIGURES",Str.ofString "NAME_SIGNS",Str.ofString "FROM_ONE",Str.ofString "FROM_TWO",Str.ofString "MOST_FIGURES",Str.ofString "CASES",Str.ofString "asked",Str.ofString "end_of",Str.ofString "read_count",Str.ofString "read_noughts",Str.ofString "read_more",Str.ofString "read_gap",Str.ofString "read_mark",Str.ofString "read_into",Str.ofString "read_text",Str.ofString "read_piece",Str.ofString "pieces_of",Str.ofString "_law_draw",Str.ofString "_law_name_signs",Str.ofString "_law_other_signs",Str.ofString "_law_text",Str.ofString "_law_piece",Str.ofString "_law_pieces",Str.ofString "_law_bent_once",Str.ofString "_law_next_state",Str.ofString "_law_first_wrong",Str.ofString "_law_refused_at"]
abbrev vw:Program:=view PySem.Challenge.pw_renamehall_k06_no_template [36]
abbrev xt (s:Shared):Bool:=xlAt vw [] s&&recOk [] s
end K
open PySem PySem.W PyProof.Rows
local macro_rules | `(tactic| o_head $H) => `(tactic| (
  refine holds_open (q:=K.vw) (loose:=K.loose) (Xt:=K.xt) (XP:=XL K.vw []) (Yf:=Hook.obs $H) (Ya:=Hook.val $H) (YP:=Hook.says $H) (N:=60000) ?hl (Hook.of $H) (Hook.keeps $H) (fun s e=>xl_of s (Bool.and_eq_true_iff.mp e).1) XL.keeps
    (by rfl) (by rfl) (by rfl) (fun s e=>recFacts_of (Bool.and_eq_true_iff.mp e).2) (by rfl) (by first | assumption | decide +kernel) (by decide +kernel) ⟨rfl,rfl,rfl,rfl,rfl,by decide +kernel⟩ ?hw ?hc))
set_option maxRecDepth 100000 in
set_option maxHeartbeats 0 in
theorem PySem.Challenge.cw_renamehall_k06_no_template_holds : PySem.Challenge.rw_renamehall_k06_no_template.Holds := by
  w_on;o_law;k_head;(case hw=>w_witness2)
  (case hl =>
    refine HD.left2 "special-get-raises" (by kernel_rfl) (by rfl) (fun _=>by kernel_rfl) fun b => ?_
    cases b
    · intro w os
      change (segRunT treeTable PySem.Challenge.pw_renamehall_k06_no_template (w.withFollow "special-get-raises" false) 11 (some (.ref 6)) 0 60000 (HD.bootT (w.withFollow "special-get-raises" false).params os) (topStub PySem.Challenge.pw_renamehall_k06_no_template)).map (fun r=>((staticsOk (importedModules PySem.Challenge.pw_renamehall_k06_no_template.main.body) (boot_heap (w.withFollow "special-get-raises" false).params) r.2.1.abs.heap&&namesBound PySem.Challenge.pw_renamehall_k06_no_template r.2.1.abs.heap&&gensDone r.2.1.abs&&laidKept (boot_heap (w.withFollow "special-get-raises" false).params) r.2.1.abs.heap),openSeen K.vw K.loose (importedModules PySem.Challenge.pw_renamehall_k06_no_template.main.body) K.xt true r.2.1.abs,_))=some (true,openGood K.vw K.loose,_)
      unfold K.xt K.vw
      rw [PySem.W.Fast.te10110043849684766642,PySem.W.Fast.te4187177175401517315,PySem.W.Fast.te14364793385576792824,PySem.W.Fast.te5923862056798008813,PySem.W.Fast.te15131382960953371930]
      kernel_rfl
    · intro w os
      change (segRunT treeTable PySem.Challenge.pw_renamehall_k06_no_template (w.withFollow "special-get-raises" true) 11 (some (.ref 6)) 0 60000 (HD.bootT (w.withFollow "special-get-raises" true).params os) (topStub PySem.Challenge.pw_renamehall_k06_no_template)).map (fun r=>((staticsOk (importedModules PySem.Challenge.pw_renamehall_k06_no_template.main.body) (boot_heap (w.withFollow "special-get-raises" true).params) r.2.1.abs.heap&&namesBound PySem.Challenge.pw_renamehall_k06_no_template r.2.1.abs.heap&&gensDone r.2.1.abs&&laidKept (boot_heap (w.withFollow "special-get-raises" true).params) r.2.1.abs.heap),openSeen K.vw K.loose (importedModules PySem.Challenge.pw_renamehall_k06_no_template.main.body) K.xt true r.2.1.abs,_))=some (true,openGood K.vw K.loose,_)
      unfold K.xt K.vw
      rw [PySem.W.Fast.te10110043849684766642,PySem.W.Fast.te4187177175401517315,PySem.W.Fast.te14364793385576792824,PySem.W.Fast.te5923862056798008813,PySem.W.Fast.te15131382960953371930]
      kernel_rfl)
  k_fill
  refine K.walk (l:=PySem.Challenge.rw_renamehall_k06_no_template) rfl rfl (fun w h Y=>PySem.W.kIn_of Y) ?F
  case F =>
    intro w mg fa h KX G hmg
    refine' K.all_mk KX G hmg ?da0 ?dl0 ?dc0 ?dk0 ?da1 ?dl1 ?dc1 ?dk1 ?da2 ?dl2 ?dc2 ?dk2 ?da3 ?dl3 ?dc3 ?dk3 ?da4 ?dl4 ?dc4 ?dk4 ?da5 ?dl5 ?dc5 ?dk5 ?da6 ?dl6 ?dc6 ?dk6 ?da7 ?dl7 ?dc7 ?dk7 ?da8 ?dl8 ?dc8 ?dk8 ?da9 ?dl9 ?dc9 ?dk9 ?da10 ?dl10 ?dc10 ?dk10 ?da11 ?dl11 ?dc11 ?dk11 ?da12 ?dl12 ?dc12 ?dk12 ?da13 ?dl13 ?dc13 ?dk13 ?da14 ?dl14 ?dc14 ?dk14 ?da15 ?dl15 ?dc15 ?dk15 ?da16 ?dl16 ?dc16 ?dk16 ?da17 ?dl17 ?dc17 ?dk17 ?da18 ?dl18 ?dc18 ?dk18 ?da19 ?dl19 ?dc19 ?dk19 ?da20 ?dl20 ?dc20 ?dk20 ?da21 ?dl21 ?dc21 ?dk21 ?bz0 ?bz1 ?bz2 ?bz3 ?bz4 ?bz5 ?bz6 ?bz7 ?bz8 ?bz9 ?bz10 ?bz11 ?gv0 ?gv1 ?gv2 ?gv3 ?gv4 ?geHallError ?leHallError ?neHallError ?seHallError ?ieHallError ?spH ?tmH ?rdH ?fcH ?hnO ?htkO ?geNoPattern ?geNoTemplate ?leNoTemplate ?neNoTemplate ?seNoTemplate ?ieNoTemplate ?hliNoTemplate ?hciNoTemplate ?hkiNoTemplate ?htiNoTemplate ?kpeNoTemplate ?saeNoTemplate ?gaeNoTemplate ?gheNoTemplate ?haeNoTemplate ?tkeNoTemplate_at ?geNoHall ?geNoText ?geNoRule ?KO_NoTemplate_NoTemplate ?KO_NoTemplate_ValueError ?KA_NoTemplate__NoPattern__NoRule__NoHall__NoText ?hgC ?hlC
    (case da0=>k_is)
    (case dl0=>k_is)
    (case dc0=>k_is)
    (case dk0=>k_is)
    (case da1=>k_is)
    (case dl1=>k_is)
    (case dc1=>k_is)
    (case dk1=>k_is)
    (case da2=>k_is)
    (case dl2=>k_is)
    (case dc2=>k_is)
    (case dk2=>k_is)
    (case da3=>k_is)
    (case dl3=>k_is)
    (case dc3=>k_is)
    (case dk3=>k_is)
    (case da4=>k_is)
    (case dl4=>k_is)
    (case dc4=>k_is)
    (case dk4=>k_is)
    (case da5=>k_is)
    (case dl5=>k_is)
    (case dc5=>k_is)
    (case dk5=>k_is)
    (case da6=>k_is)
    (case dl6=>k_is)
    (case dc6=>k_is)
    (case dk6=>k_is)
    (case da7=>k_is)
    (case dl7=>k_is)
    (case dc7=>k_is)
    (case dk7=>k_is)
    (case da8=>k_is)
    (case dl8=>k_is)
    (case dc8=>k_is)
    (case dk8=>k_is)
    (case da9=>k_is)
    (case dl9=>k_is)
    (case dc9=>k_is)
    (case dk9=>k_is)
    (case da10=>k_is)
    (case dl10=>k_is)
    (case dc10=>k_is)
    (case dk10=>k_is)
    (case da11=>k_is)
    (case dl11=>k_is)
    (case dc11=>k_is)
    (case dk11=>k_is)
    (case da12=>k_is)
    (case dl12=>k_is)
    (case dc12=>k_is)
    (case dk12=>k_is)
    (case da13=>k_is)
    (case dl13=>k_is)
    (case dc13=>k_is)
    (case dk13=>k_is)
    (case da14=>k_is)
    (case dl14=>k_is)
    (case dc14=>k_is)
    (case dk14=>k_is)
    (case da15=>k_is)
    (case dl15=>k_is)
    (case dc15=>k_is)
    (case dk15=>k_is)
    (case da16=>k_is)
    (case dl16=>k_is)
    (case dc16=>k_is)
    (case dk16=>k_is)
    (case da17=>k_is)
    (case dl17=>k_is)
    (case dc17=>k_is)
    (case dk17=>k_is)
    (case da18=>k_is)
    (case dl18=>k_is)
    (case dc18=>k_is)
    (case dk18=>k_is)
    (case da19=>k_is)
    (case dl19=>k_is)
    (case dc19=>k_is)
    (case dk19=>k_is)
    (case da20=>k_is)
    (case dl20=>k_is)
    (case dc20=>k_is)
    (case dk20=>k_is)
    (case da21=>k_is)
    (case dl21=>k_is)
    (case dc21=>k_is)
    (case dk21=>k_is)
    (case bz0=>k_is)
    (case bz1=>k_is)
    (case bz2=>k_is)
    (case bz3=>k_is)
    (case bz4=>k_is)
    (case bz5=>k_is)
    (case bz6=>k_is)
    (case bz7=>k_is)
    (case bz8=>k_is)
    (case bz9=>k_is)
    (case bz10=>k_is)
    (case bz11=>k_is)
    (case gv0=>k_is)
    (case gv1=>k_is)
    (case gv2=>k_is)
    (case gv3=>k_is)
    (case gv4=>k_is)
    (case geHallError=>k_is)
    (case leHallError=>k_is)
    (case neHallError=>k_is)
    (case seHallError=>first | rfl | decide +kernel)
    (case ieHallError=>k_is)
    (case spH=>k_is)
    (case tmH=>k_is)
    (case rdH=>k_is)
    (case fcH=>k_is)
    (case hnO=>k_is)
    (case htkO=>k_is)
    (case geNoPattern=>k_is)
    (case geNoTemplate=>k_is)
    (case leNoTemplate=>k_is)
    (case neNoTemplate=>k_is)
    (case seNoTemplate=>first | rfl | decide +kernel)
    (case ieNoTemplate=>k_is)
    (case hliNoTemplate=>k_is)
    (case hciNoTemplate=>k_is)
    (case hkiNoTemplate=>k_is)
    (case htiNoTemplate=>first | rfl | decide +kernel)
    (case kpeNoTemplate=>k_is)
    (case saeNoTemplate=>k_is)
    (case gaeNoTemplate=>k_is)
    (case gheNoTemplate=>k_is)
    (case haeNoTemplate=>k_is)
    (case tkeNoTemplate_at=>k_is)
    (case geNoHall=>k_is)
    (case geNoText=>k_is)
    (case geNoRule=>k_is)
    (case KO_NoTemplate_NoTemplate=>kit_is)
    (case KO_NoTemplate_ValueError=>kit_is)
    (case KA_NoTemplate__NoPattern__NoRule__NoHall__NoText=>kit_is)
    (case hgC=>k_is)
    (case hlC=>k_is)
