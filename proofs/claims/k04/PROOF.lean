import PyProof.Rows.All
import Wide.All
import OpenK.AllK
import Wide.FinOn
import Lean
import PyProof.EqAt
import PyProof.EqKinds
import PyProof.TupleCall
import PySem.Challenge.RW_renamehall_k04_no_pattern
import KE.IntTextLaws
import KE.KIsAll
import PyProof.ExcArgsOwn
import PyProof.ExcBaseAll.ValueError
import PyProof.ExcClass2
import PyProof.ExcInit
import PyProof.InstStore
import PyProof.Rows.CatchBare
import PyProof.Rows.CatchOwn
import PyProof.StationsW
set_option Elab.async false
set_option linter.all false
set_option maxRecDepth 100000
namespace L2
open PySem PySem.Spec PyProof.Rows
abbrev Key := Sum Int Str
def keyIs : Key → Value → Bool
  | .inl k, v => Value.isInt k v
  | .inr x, v => Value.isStrOf x v
def keyH (w : World) : Key → Int
  | .inl k => hashInt k
  | .inr x => hashStr w x
theorem keyIs_shape : ∀ {k : Key} {v : Value}, keyIs k v = true → (∃ i t, k = Sum.inl i ∧ v = Value.int i t) ∨ (∃ x t, k = Sum.inr x ∧ v = Value.str x t)
  | .inl i, v, h => by
    obtain ⟨t, e⟩ := Value.isInt_shape (k := i) (v := v) h
    exact .inl ⟨i, t, rfl, e⟩
  | .inr x, v, h => by
    obtain ⟨t, e⟩ := Value.isStrOf_shape (x := x) (v := v) h
    exact .inr ⟨x, t, rfl, e⟩
theorem keyIs_int (i : Int) (t : Tok) : keyIs (.inl i) (.int i t) = true := by simp [keyIs, Value.isInt]
theorem keyIs_str (x : Str) (t : Tok) : keyIs (.inr x) (.str x t) = true := by simp [keyIs, Value.isStrOf]
theorem key_ll (a b : Int) : decide ((Sum.inl a : Key) = Sum.inl b) = (a == b) := by
  by_cases e : a = b
  · subst e; simp
  · have h : ¬ (Sum.inl a : Key) = Sum.inl b := fun q => e (Sum.inl.inj q)
    rw [decide_eq_false h]
    exact (beq_eq_false_iff_ne.mpr e).symm
theorem key_rr (a b : Str) : decide ((Sum.inr a : Key) = Sum.inr b) = decide (a = b) := by
  by_cases e : a = b
  · subst e; simp
  · have h : ¬ (Sum.inr a : Key) = Sum.inr b := fun q => e (Sum.inr.inj q)
    rw [decide_eq_false h, decide_eq_false e]
theorem key_lr (a : Int) (b : Str) : decide ((Sum.inl a : Key) = Sum.inr b) = false := decide_eq_false (fun q => nomatch q)
theorem key_rl (a : Str) (b : Int) : decide ((Sum.inr a : Key) = Sum.inl b) = false := decide_eq_false (fun q => nomatch q)
def mixKind (prog : Program) (w : World) : PySem.KeyKind prog w Key where
  is := keyIs
  hash := keyH w
  inj := fun v a b ha hb => by
    rcases keyIs_shape ha with ⟨i, t, rfl, rfl⟩ | ⟨x, t, rfl, rfl⟩
    · rcases keyIs_shape hb with ⟨j, u, rfl, e⟩ | ⟨y, u, rfl, e⟩
      · injection e with e1 _; rw [e1]
      · exact nomatch e
    · rcases keyIs_shape hb with ⟨j, u, rfl, e⟩ | ⟨y, u, rfl, e⟩
      · exact nomatch e
      · injection e with e1 _; rw [e1]
  byValue := fun k v h => by
    rcases keyIs_shape h with ⟨i, t, rfl, rfl⟩ | ⟨x, t, rfl, rfl⟩ <;> rfl
  pyHash := fun hv h => by
    rcases keyIs_shape hv with ⟨i, t, rfl, rfl⟩ | ⟨x, t, rfl, rfl⟩
    · exact wpAny_pyHash_int h
    · exact wpAny_pyHash_str h
  eqBool := fun hu hv h => by
    rcases keyIs_shape hu with ⟨i, t, rfl, rfl⟩ | ⟨x, t, rfl, rfl⟩
    · rcases keyIs_shape hv with ⟨j, u, rfl, rfl⟩ | ⟨y, u, rfl, rfl⟩
      · rw [key_ll] at h; exact wpAny_eqBool_int h
      · rw [key_lr] at h; exact SeqAt.EqAt.int_str i t y u _ _ _ _ h
    · rcases keyIs_shape hv with ⟨j, u, rfl, rfl⟩ | ⟨y, u, rfl, rfl⟩
      · rw [key_rl] at h; exact SeqAt.EqAt.str_int x t j u _ _ _ _ h
      · rw [key_rr] at h; exact wpAny_eqBool_str h
  «strs» := fun k x t v h => by
    rcases keyIs_shape h with ⟨i, u, rfl, e⟩ | ⟨y, u, rfl, e⟩
    · exact nomatch e
    · injection e with e1 _
      subst e1
      cases v <;> rfl
theorem mixKind_int (prog : Program) (w : World) (i : Int) (t : Tok) : (mixKind prog w).is (.inl i) (.int i t) = true := keyIs_int i t
theorem mixKind_str (prog : Program) (w : World) (x : Str) (t : Tok) : (mixKind prog w).is (.inr x) (.str x t) = true := keyIs_str x t
end L2
namespace L2
open PySem PySem.Spec PyProof.Rows
inductive V where
  | non | bl (b : Bool) | int (i : Int) | str (x : Str) | byt (b : Array UInt8) | flt (b : UInt64) | ref (a : Addr) | ty (n : String)
  deriving DecidableEq
def RelV : V → Value → Prop
  | .non, u => u = Value.none
  | .bl b, u => u = Value.bool b
  | .int i, u => ∃ t, u = Value.int i t
  | .str x, u => ∃ t, u = Value.str x t
  | .byt b, u => ∃ t, u = Value.bytes b t
  | .flt b, u => ∃ t, u = Value.float b t
  | .ref a, u => u = Value.ref a
  | .ty n, u => u = Value.type n
abbrev Vals : List V → List Value → Prop := Paired RelV
theorem Vals.length {xs : List V} {us : List Value} (r : Vals xs us) : xs.length = us.length := Paired.length r
theorem Vals.get : ∀ {xs : List V} {us : List Value} {i : Nat} {x : V}, Vals xs us → xs[i]? = some x → ∃ u, us[i]? = some u ∧ RelV x u
  | _, _, _, _, .nil, e => by simp at e
  | _, _, 0, _, .cons r _, e => by simp at e; subst e; exact ⟨_, rfl, r⟩
  | _, _, i + 1, x, .cons _ t, e => by
    obtain ⟨u, h1, h2⟩ := Vals.get (i := i) (x := x) t (by simpa using e)
    exact ⟨u, by simpa using h1, h2⟩
theorem Vals.set {x : V} {u : Value} (r : RelV x u) : ∀ {xs : List V} {us : List Value} (i : Nat), Vals xs us → Vals (xs.set i x) (us.set i u)
  | _, _, _, .nil => .nil
  | _, _, 0, .cons _ t => .cons r t
  | _, _, i + 1, .cons q t => .cons q (Vals.set r i t)
theorem Vals.append : ∀ {xs ys : List V} {us ws : List Value}, Vals xs us → Vals ys ws → Vals (xs ++ ys) (us ++ ws)
  | _, _, _, _, .nil, s => s
  | _, _, _, _, .cons r t, s => .cons r (Vals.append t s)
theorem Vals.take : ∀ {xs : List V} {us : List Value} (n : Nat), Vals xs us → Vals (xs.take n) (us.take n)
  | _, _, 0, _ => .nil
  | _, _, _ + 1, .nil => .nil
  | _, _, n + 1, .cons r t => .cons r (Vals.take n t)
theorem Vals.drop : ∀ {xs : List V} {us : List Value} (n : Nat), Vals xs us → Vals (xs.drop n) (us.drop n)
  | _, _, 0, r => r
  | _, _, _ + 1, .nil => .nil
  | _, _, n + 1, .cons _ t => Vals.drop n t
def RelO : Option V → Option Value → Prop
  | some v, some u => RelV v u
  | none, none => True
  | _, _ => False
def KV {κ : Type} : List (κ × V) → List (κ × Value) → Prop := Paired fun (p : κ × V) (q : κ × Value) => p.1 = q.1 ∧ RelV p.2 q.2
def kV : Key → V
  | .inl i => .int i
  | .inr x => .str x
inductive HO where
  | lst (xs : List V)
  | tup (xs : List V)
  | dK (kvs : List (Key × V)) | dT (kvs : List (List Key × V))
  | set (S : Int → Bool) (n : Nat)
  | ins (C dx : Addr) (fs : List (Str × V))
  | own (x : Addr)
  | xd (fs : List (Str × V))
  | met (f x : Addr)
  | rng (lo hi : Int)
  | frz (o : Obj) (u : HO)
  | tbl (ps : Array Value)
  | ext (φ : Heap → Prop)
abbrev Hp := Addr → Option HO
def upd (H : Hp) (a : Addr) (o : HO) : Hp := fun b => if b = a then some o else H b
theorem upd_same {H : Hp} {a : Addr} {o : HO} : upd H a o a = some o := by unfold upd; rw [if_pos rfl]
theorem upd_ne {H : Hp} {a b : Addr} {o : HO} (h : b ≠ a) : upd H a o b = H b := by unfold upd; rw [if_neg h]
theorem upd_upd {H : Hp} {a : Addr} {o u : HO} : upd (upd H a o) a u = upd H a u := by
  funext b; unfold upd; split <;> rfl
theorem ne_of {H : Hp} {a b : Addr} {o u : HO} (h : H a = some o) (h' : H b = some u) (d : o ≠ u) : a ≠ b := by
  intro e; subst e; rw [h] at h'; exact d (Option.some.inj h')
theorem ne_of_none {H : Hp} {a b : Addr} {o : HO} (h : H a = some o) (h' : H b = none) : a ≠ b := by
  intro e; subst e; rw [h] at h'; cases h'
section
variable (P : Program) (w : World)
def ObjOk (H : Hp) (h : Heap) (a : Addr) : HO → Prop
  | .lst xs => xs.length ≤ sizeLine ∧ ∃ (its : List Value) (n : Nat), Vals xs its ∧ h.get? a = some { cls := .type "list", data := .seq its.toArray n }
  | .tup xs => xs.length ≤ sizeLine ∧ ∃ its : List Value, Vals xs its ∧ IsTup h a its.toArray
  | .dK kvs => kvs.length ≤ sizeLine ∧ (a == sysModules) = false ∧ ∃ vs, KV kvs vs ∧ h.DictOf (mixKind P w) a vs
  | .dT kvs => kvs.length ≤ sizeLine ∧ (a == sysModules) = false ∧ ∃ xs : List (List Key × Addr × Value),
      Paired (fun (p : List Key × V) (q : List Key × Addr × Value) => p.1 = q.1 ∧ H q.2.1 = some (.tup (p.1.map kV)) ∧ RelV p.2 q.2.2) kvs xs ∧
      ∃ o es ep, h.get? a = some o ∧ o.ExactDict ∧ o.data = .dict es ep ∧ es.toList = xs.map (entryOfKey (tupleKind (mixKind P w))) ∧ (xs.map (·.1)).Nodup
  | .set S n => h.SetOf (intKind P w) a S n
  | .ins C dx fs => H dx = some (.own a) ∧ fs.length ≤ 1000 ∧ dx ≠ a ∧ h.get? a = some (PySem.W.instObj C dx) ∧
      ∃ mA, h.Ns1 dx mA ∧ (∀ f, RelO (fs.lookup f) (mA f)) ∧ PySem.Within mA (fs.map (·.1))
  | .own _ => ∃ o, h.get? a = some o
  | .xd fs => ∃ mA, h.Ns1 a mA ∧ ∀ f, RelO (fs.lookup f) (mA f)
  | .rng lo hi => ∃ t u v, h.get? a = some { cls := .type "range", data := .fields #[.int lo t, .int hi u, .int 1 v] }
  | .frz o u => h.get? a = some o ∧ ObjOk H h a u
  | .tbl ps => h.get? a = some { cls := .none, data := .fields ps }
  | .met f x => h.get? a = some (PySem.W.methodObj (.ref f) (.ref x))
  | .ext φ => φ h ∧ (∃ o, h.get? a = some o) ∧ ∀ h1 h2 : Heap, φ h1 → (∀ o, h1.get? a = some o → h2.get? a = some o) → φ h2
def HOk (H : Hp) (h : Heap) : Prop := ∀ a o, H a = some o → ObjOk P w H h a o
end
section
variable {P : Program} {w : World} {H H' : Hp} {h h' : Heap} {a : Addr} {o : HO}
theorem ObjOk.lt (x : ObjOk P w H h a o) : a < h.objs.size := by
  cases o with
  | lst xs => obtain ⟨_, _, _, _, e⟩ := x; exact Heap.lt_size e
  | tup xs => obtain ⟨_, _, _, p⟩ := x; exact p.lt
  | dK kvs => obtain ⟨_, _, _, _, o, _, _, e, _⟩ := x; exact Heap.lt_size e
  | dT kvs => obtain ⟨_, _, _, _, o, _, _, e, _⟩ := x; exact Heap.lt_size e
  | set S n => obtain ⟨o, _, _, _, e, _⟩ := x; exact Heap.lt_size e
  | ins C dx fs => obtain ⟨_, _, _, e, _⟩ := x; exact Heap.lt_size e
  | own y => obtain ⟨_, e⟩ := x; exact Heap.lt_size e
  | xd fs => obtain ⟨_, ⟨_, _, _, e, _⟩, _⟩ := x; exact Heap.lt_size e
  | rng lo hi => obtain ⟨_, _, _, e⟩ := x; exact Heap.lt_size e
  | frz ob u => obtain ⟨e, _⟩ := x; exact Heap.lt_size e
  | tbl ps => exact Heap.lt_size (show h.get? a = some _ from x)
  | met f y => exact Heap.lt_size (show h.get? a = some _ from x)
  | ext φ => obtain ⟨_, ⟨_, e⟩, _⟩ := x; exact Heap.lt_size e
theorem Paired.mapP {α β : Type} {F G : α → β → Prop} : ∀ {l₁ : List α} {l₂ : List β}, Paired F l₁ l₂ → (∀ a b, F a b → G a b) → Paired G l₁ l₂
  | _, _, .nil, _ => .nil
  | _, _, .cons r t, f => .cons (f _ _ r) (Paired.mapP t f)
theorem ObjOk.stay (x : ObjOk P w H h a o) (k : ∀ b u, (b = a ∨ H b = some (.own a)) → h.get? b = some u → h'.get? b = some u)
    (ho : ∀ b, H b = some (.own a) → H' b = some (.own a)) (ht : ∀ b xs, H b = some (.tup xs) → H' b = some (.tup xs)) : ObjOk P w H' h' a o := by
  induction o with
  | lst xs => obtain ⟨z, its, n, r, e⟩ := x; exact ⟨z, its, n, r, k _ _ (.inl rfl) e⟩
  | tup xs => obtain ⟨z, its, r, ob, e, c⟩ := x; exact ⟨z, its, r, ob, k _ _ (.inl rfl) e, c⟩
  | dK kvs => obtain ⟨z, y, vs, r, ob, es, ep, e, c⟩ := x; exact ⟨z, y, vs, r, ob, es, ep, k _ _ (.inl rfl) e, c⟩
  | dT kvs =>
    obtain ⟨z, y, xs, r, ob, es, ep, e, c⟩ := x
    exact ⟨z, y, xs, Paired.mapP r fun p q z => ⟨z.1, ht _ _ z.2.1, z.2.2⟩, ob, es, ep, k _ _ (.inl rfl) e, c⟩
  | set S n => obtain ⟨ob, es, ep, t, e, c⟩ := x; exact ⟨ob, es, ep, t, k _ _ (.inl rfl) e, c⟩
  | ins C dx fs =>
    obtain ⟨d, z, ne, e, mA, ⟨od, es, ep, e2, c⟩, r⟩ := x
    exact ⟨ho _ d, z, ne, k _ _ (.inl rfl) e, mA, ⟨od, es, ep, k _ _ (.inr d) e2, c⟩, r⟩
  | own y => obtain ⟨ob, e⟩ := x; exact ⟨ob, k _ _ (.inl rfl) e⟩
  | xd fs => obtain ⟨mA, ⟨od, es, ep, e, c⟩, r⟩ := x; exact ⟨mA, ⟨od, es, ep, k _ _ (.inl rfl) e, c⟩, r⟩
  | rng lo hi => obtain ⟨t, u, v, e⟩ := x; exact ⟨t, u, v, k _ _ (.inl rfl) e⟩
  | frz ob u ih => obtain ⟨e, q⟩ := x; exact ⟨k _ _ (.inl rfl) e, ih q⟩
  | tbl ps =>
    have e : h.get? a = some { cls := .none, data := .fields ps } := x
    show h'.get? a = some { cls := .none, data := .fields ps }
    exact k a _ (.inl rfl) e
  | met f y =>
    have e : h.get? a = some (PySem.W.methodObj (.ref f) (.ref y)) := x
    show h'.get? a = some (PySem.W.methodObj (.ref f) (.ref y))
    exact k a _ (.inl rfl) e
  | ext φ => obtain ⟨p, ⟨o, e⟩, st⟩ := x; exact ⟨st _ _ p fun o q => k _ _ (.inl rfl) q, ⟨o, k _ _ (.inl rfl) e⟩, st⟩
theorem HOk.lt (x : HOk P w H h) (e : H a = some o) : a < h.objs.size := (x a o e).lt
theorem HOk.fresh (x : HOk P w H h) (e : h.objs.size ≤ a) : H a = none := by
  cases q : H a with
  | none => rfl
  | some u => exact absurd (Nat.lt_of_lt_of_le (x.lt q) e) (Nat.lt_irrefl _)
theorem HOk.kept (x : HOk P w H h) (k : ∀ b u, h.get? b = some u → h'.get? b = some u) : HOk P w H h' := fun a o e =>
  (x a o e).stay (fun b u _ q => k b u q) (fun _ q => q) fun _ _ q => q
theorem HOk.laid (x : HOk P w H h) (k : ∀ b u, h.get? b = some u → h'.get? b = some u) (hp : h.objs.size ≤ a) (new : ObjOk P w (upd H a o) h' a o) : HOk P w (upd H a o) h' := fun b u e => by
  have hn := x.fresh hp
  by_cases hb : b = a
  · subst hb; rw [upd_same] at e; cases e; exact new
  · rw [upd_ne hb] at e
    exact (x b u e).stay (fun c v _ q => k c v q) (fun c q => by rw [upd_ne (ne_of_none q hn)]; exact q) fun c xs q => by rw [upd_ne (ne_of_none q hn)]; exact q
end
def Rd (H : Hp) (a : Addr) (u : HO) : Prop := H a = some u ∨ ∃ o, H a = some (.frz o u)
theorem Rd.of {H : Hp} {a : Addr} {u : HO} (h : H a = some u) : Rd H a u := .inl h
theorem Rd.ok {P : Program} {w : World} {H : Hp} {h : Heap} {a : Addr} {u : HO} (r : Rd H a u) (x : HOk P w H h) : ObjOk P w H h a u := by
  rcases r with r | ⟨o, r⟩
  · exact x a u r
  · obtain ⟨_, q⟩ := x a _ r
    exact q
def Mut : Option HO → Prop
  | some (.lst _) => True
  | some (.dK _) => True
  | some (.dT _) => True
  | some (.set _ _) => True
  | some (.ins _ _ _) => True
  | some (.ext _) => True
  | _ => False
section
variable {P : Program} {w : World} {H : Hp} {h h' : Heap} {x e : Addr} {o' : HO}
theorem HOk.write (ok : HOk P w H h) (mu : Mut (H x)) (he : e = x ∨ H e = some (.own x)) (k : ∀ b u, b ≠ e → h.get? b = some u → h'.get? b = some u) (heo : ∃ u, h'.get? e = some u)
    (new : ObjOk P w (upd H x o') h' x o') : HOk P w (upd H x o') h' := fun b u q => by
  have nown : ∀ c y, H c = some (.own y) → c ≠ x := fun c y r z => by subst z; rw [r] at mu; exact mu
  have ntup : ∀ c xs, H c = some (.tup xs) → c ≠ x := fun c xs r z => by subst z; rw [r] at mu; exact mu
  by_cases hb : b = x
  · subst hb; rw [upd_same] at q; cases q; exact new
  · rw [upd_ne hb] at q
    by_cases hbe : b = e
    · have q' : H b = some (.own x) := by
        rcases he with z | z
        · exact absurd (hbe.trans z) hb
        · rw [hbe]; exact z
      rw [q] at q'; cases q'
      obtain ⟨v, hv⟩ := heo
      exact ⟨v, by rw [hbe]; exact hv⟩
    · refine (ok b u q).stay (fun c v hc r => k c v ?_ r) (fun c r => by rw [upd_ne (nown c b r)]; exact r) fun c xs r => by rw [upd_ne (ntup c xs r)]; exact r
      rcases hc with rfl | hc
      · exact hbe
      · rintro rfl
        rcases he with z | z
        · exact nown c b hc z
        · rw [hc] at z; cases z; exact hb rfl
end
structure Un (fs ex : List Addr) (H H' : Hp) (h h' : Heap) : Prop where
  keep : ∀ b o, h.get? b = some o → H b = none → b ∉ fs → b ∉ ex → h'.get? b = some o
  slot : ∀ b o, h.get? b = some o → H b = none → b ∈ fs → b ∉ ex → ∃ sl, h'.get? b = some { o with slots := sl }
  free : ∀ b o, h.get? b = some o → H b = none → b ∉ ex → H' b = none
  there : ∀ b o, h.get? b = some o → b ∉ ex → ∃ o', h'.get? b = some o'
  tups : ∀ b xs, H b = some (.tup xs) → H' b = some (.tup xs)
  frzs : ∀ b o u, H b = some (.frz o u) → H' b = some (.frz o u)
  tbls : ∀ b ps, H b = some (.tbl ps) → ∃ more, H' b = some (.tbl (ps ++ more))
section
variable {fs fs' ex ex' : List Addr} {H H1 H2 : Hp} {h h1 h2 h' : Heap} {a x e : Addr} {o : HO}
theorem Un.any (u : Un fs ex H H1 h h1) {b : Addr} {ob : Obj} (q : h.get? b = some ob) (n : H b = none) (hx : b ∉ ex) : ∃ sl, h1.get? b = some { ob with slots := sl } := by
  by_cases hb : b ∈ fs
  · exact u.slot b ob q n hb hx
  · exact ⟨ob.slots, u.keep b ob q n hb hx⟩
theorem Un.trans (a : Un fs ex H H1 h h1) (b : Un fs ex H1 H2 h1 h2) : Un fs ex H H2 h h2 where
  keep := fun c ob q n hc hx => b.keep c ob (a.keep c ob q n hc hx) (a.free c ob q n hx) hc hx
  slot := fun c ob q n hc hx => by
    obtain ⟨sl, e1⟩ := a.slot c ob q n hc hx
    obtain ⟨sl', e2⟩ := b.slot c _ e1 (a.free c ob q n hx) hc hx
    exact ⟨sl', e2⟩
  free := fun c ob q n hx => by
    obtain ⟨o', e1⟩ := a.there c ob q hx
    exact b.free c o' e1 (a.free c ob q n hx) hx
  there := fun c ob q hx => by
    obtain ⟨o', e1⟩ := a.there c ob q hx
    exact b.there c o' e1 hx
  tups := fun c xs q => b.tups c xs (a.tups c xs q)
  frzs := fun c ob xs q => b.frzs c ob xs (a.frzs c ob xs q)
  tbls := fun c ps q => by
    obtain ⟨m1, e1⟩ := a.tbls c ps q
    obtain ⟨m2, e2⟩ := b.tbls c _ e1
    exact ⟨m1 ++ m2, by rw [e2, Array.append_assoc]⟩
theorem Un.kept (k : ∀ b u, h.get? b = some u → h'.get? b = some u) : Un fs ex H H h h' :=
  ⟨fun b ob q _ _ _ => k b ob q, fun b ob q _ _ _ => ⟨ob.slots, k b ob q⟩, fun _ _ _ n _ => n, fun b ob q _ => ⟨ob, k b ob q⟩, fun _ _ q => q, fun _ _ _ q => q, fun _ ps q => ⟨#[], by rw [q]; simp⟩⟩
theorem Un.refl : Un fs ex H H h h := Un.kept fun _ _ q => q
theorem Un.laid (k : ∀ b u, h.get? b = some u → h'.get? b = some u) (hp : h.objs.size ≤ a) (hn : H a = none) : Un fs ex H (upd H a o) h h' where
  keep := fun b u q _ _ _ => k b u q
  slot := fun b u q _ _ _ => ⟨u.slots, k b u q⟩
  free := fun b u q n _ => by rw [upd_ne (Nat.ne_of_lt (Nat.lt_of_lt_of_le (Heap.lt_size q) hp))]; exact n
  there := fun b u q _ => ⟨u, k b u q⟩
  tups := fun b xs q => by rw [upd_ne (ne_of_none q hn)]; exact q
  frzs := fun b u xs q => by rw [upd_ne (ne_of_none q hn)]; exact q
  tbls := fun b ps q => ⟨#[], by rw [upd_ne (ne_of_none q hn), q]; simp⟩
theorem Un.write (mu : Mut (H x)) (he : e = x ∨ H e = some (.own x)) (k : ∀ b u, b ≠ e → h.get? b = some u → h'.get? b = some u) (heo : ∃ u, h'.get? e = some u) : Un fs ex H (upd H x o) h h' := by
  have hx : ∀ b, H b = none → b ≠ x := fun b n z => by subst z; rw [n] at mu; exact mu
  have hb : ∀ b, H b = none → b ≠ e := fun b n z => by
    subst z
    rcases he with r | r
    · exact hx b n r
    · rw [n] at r; cases r
  have hm : ∀ b u, H b = some u → ¬ Mut (some u) → b ≠ x := fun b u q nm z => by subst z; rw [q] at mu; exact nm mu
  refine ⟨fun b u q n _ _ => k b u (hb b n) q, fun b u q n _ _ => ⟨u.slots, k b u (hb b n) q⟩, fun b u q n _ => by rw [upd_ne (hx b n)]; exact n, fun b u q _ => ?_,
    fun b xs q => by rw [upd_ne (hm b _ q fun z => z)]; exact q, fun b u xs q => by rw [upd_ne (hm b _ q fun z => z)]; exact q, fun b ps q => ⟨#[], by rw [upd_ne (hm b _ q fun z => z), q]; simp⟩⟩
  by_cases hbe : b = e
  · subst hbe; exact heo
  · exact ⟨u, k b u hbe q⟩
theorem Un.mono (u : Un fs ex H H1 h h1) (hs : ∀ b ∈ fs, b ∈ fs') (hx : ∀ b ∈ ex, b ∈ ex') : Un fs' ex' H H1 h h1 :=
  ⟨fun b ob q n hb he => u.keep b ob q n (fun z => hb (hs b z)) fun z => he (hx b z), fun _ _ q n _ he => u.any q n fun z => he (hx _ z), fun b ob q n he => u.free b ob q n fun z => he (hx b z), fun b ob q he => u.there b ob q fun z => he (hx b z), u.tups, u.frzs, u.tbls⟩
end
def trk (h : Heap) (H : Hp) : List Addr := (List.range h.objs.size).filter fun a => (H a).isSome
def hidT (h : Heap) (H : Hp) : Heap := PySem.W.hideAll h (trk h H)
theorem hidT_size (h : Heap) (H : Hp) : (hidT h H).objs.size = h.objs.size := PySem.W.hideAll_size _ _
theorem hidT_get {h : Heap} {H : Hp} {b : Addr} {o : Obj} (e : h.get? b = some o) (n : H b = none) : (hidT h H).get? b = some o :=
  PySem.W.hideAll_get _ e fun hm => by
    have q : (H b).isSome = true := (List.mem_filter.mp hm).2
    rw [n] at q; simp at q
theorem of_hidT {h : Heap} {H : Hp} {b : Addr} {o : Obj} (e : (hidT h H).get? b = some o) : h.get? b = some o ∧ H b = none := by
  have e' : h.get? b = some o := PySem.W.of_hideAll (trk h H) e
  refine ⟨e', ?_⟩
  cases q : H b with
  | none => rfl
  | some x =>
    have hm : b ∈ trk h H := List.mem_filter.mpr ⟨List.mem_range.mpr (Heap.lt_size e'), by simp [q]⟩
    have z : (hidT h H).get? b = none := PySem.W.hideAll_none (trk h H) hm
    rw [z] at e; cases e
def allNews (g h : Heap) (L : Addr) : List (Addr × Obj) := (List.range h.objs.size).filterMap fun a => if a = L ∨ (g.get? a).isSome = true then none else (h.get? a).map fun o => (a, o)
def rest (g h : Heap) (L d : Addr) : List (Addr × Obj) := (allNews g h L).filter fun p => decide (p.1 ≠ d)
end L2
namespace L2
open PySem PySem.Spec PyProof.Rows
structure Mod (K : PySem.W.Frag) (mg : Str → Option Value) (base : Heap) : Prop where
  kin : K.In base
  glob : base.Ns mainGlobals mg
  blt : ∃ mb, base.Ns builtinsNs mb ∧ ∀ x : Str, x ≠ "__name__" → mb x = bootBuiltins x
  nolimit : base.NoLimit
structure Cx where
  prog : Program
  w : World
  K : PySem.W.Frag
  mg : Str → Option Value
  base : Heap
  A : Around
  N : List Str
  s₀ : Shared
  H₀ : Hp
  env : Env
  outer : List Env
  stack : List Env
  ex : List Addr
  fn : Str → Bool
  calm : Bool
  pn : List (Addr × Obj)
  xe : Value → Shared → Prop
def frs (l : List Env) : List Addr := l.filterMap (·.frame)
abbrev Cx.fs (X : Cx) : List Addr := frs X.outer
def Vis (sc : Scope) (x : Str) : Prop := sc.names.lookup x = some .local ∨ sc.names.lookup x = some .cell ∨ sc.names.lookup x = some .free
def Loc (sc : Scope) (x : Str) : Prop := sc.names.lookup x = some .local ∨ sc.names.lookup x = some .cell
def Look (env : Env) (h : Heap) (m : Str → Option Value) (x : Str) (u : Value) : Prop :=
  (env.kindOf x = some .local ∧ m x = some u) ∨ ((env.kindOf x = some .cell ∨ env.kindOf x = some .free) ∧ ∃ c, env.cells.lookup x = some c ∧ h.IsCell c (some u))
structure Cx.Ok (X : Cx) : Prop where
  mod : Mod X.K X.mg X.base
  kind : X.env.scope.kind = .function
  glob : X.env.globals = mainGlobals
  blt : X.env.builtins = builtinsNs
  above : X.s₀.heap.objs.size ≤ X.env.locals
  inj : ∀ x y c, X.env.cells.lookup x = some c → X.env.cells.lookup y = some c → x = y
  has : ∀ x, (X.env.kindOf x = some .cell ∨ X.env.kindOf x = some .free) → ∃ c, X.env.cells.lookup x = some c
  cab : ∀ x c, X.fn x = true → X.env.cells.lookup x = some c → X.s₀.heap.objs.size ≤ c
  hd : X.calm = true → X.A.handled = none
  frames : X.A.frames = some X.stack
  stk : X.stack = X.outer ∨ (X.stack = X.env :: X.outer ∧ X.env.frame = some X.env.locals)
  exf : ∀ b ∈ X.ex, b ≠ X.env.locals ∧ ∀ x c, X.env.cells.lookup x = some c → c ≠ b
  bs : ∀ b o, X.base.get? b = some o → X.s₀.heap.get? b = some o ∧ X.H₀ b = none
  bsz : X.base.objs.size ≤ X.s₀.heap.objs.size
  noex : ∀ b o, X.base.get? b = some o → b ∉ X.ex
  exfs : ∀ b ∈ X.ex, b ∉ X.fs
  funs : X.s₀.heap.FunFrames X.base X.outer
  frf : ∀ b ∈ X.fs, X.H₀ b = none
structure Inv (X : Cx) (pins : List (Addr × Obj)) (σ : List (Option V)) (H : Hp) (s : Shared) : Prop where
  ok : X.Ok
  os : s.os = X.s₀.os
  bare : AllBare s.gens
  base : Un X.fs X.ex X.H₀ H X.s₀.heap s.heap
  loc : ∃ m, s.heap.Ns X.env.locals m ∧ ∀ (i : Nat) (x : Str) (v : V), X.N[i]? = some x → σ[i]? = some (some v) → Vis X.env.scope x → ∃ u, RelV v u ∧ Look X.env s.heap m x u
  cell : ∀ x c, X.env.cells.lookup x = some c → ∃ v, s.heap.IsCell c v
  free : H X.env.locals = none
  freeC : ∀ x c, X.env.cells.lookup x = some c → H c = none
  pin : ∀ p ∈ X.pn ++ pins, s.heap.get? p.1 = some p.2 ∧ H p.1 = none ∧ p.1 ≠ X.env.locals ∧ p.1 ∉ X.fs ∧ ∀ v, p.2.data ≠ .cell v
  hok : HOk X.prog X.w H s.heap
  len : σ.length = X.N.length
section
variable {X : Cx} {pins : List (Addr × Obj)} {σ : List (Option V)} {H H' : Hp} {s : Shared} {h' : Heap}
theorem Cx.Ok.nofr (ok : X.Ok) {b : Addr} {o : Obj} (e : X.base.get? b = some o) : b ∉ X.fs := fun hb => by
  have := (ok.funs.mem hb).1
  rw [e] at this; cases this
theorem Inv.bs (I : Inv X pins σ H s) : ∀ b o, X.base.get? b = some o → s.heap.get? b = some o ∧ H b = none := fun b o e =>
  ⟨I.base.keep b o (I.ok.bs b o e).1 (I.ok.bs b o e).2 (I.ok.nofr e) (I.ok.noex b o e), I.base.free b o (I.ok.bs b o e).1 (I.ok.bs b o e).2 (I.ok.noex b o e)⟩
theorem Inv.bk (I : Inv X pins σ H s) : ∀ b o, X.base.get? b = some o → s.heap.get? b = some o := fun b o e => (I.bs b o e).1
theorem Inv.mod (I : Inv X pins σ H s) : Mod X.K X.mg X.base := I.ok.mod
theorem Inv.kIn (I : Inv X pins σ H s) : X.K.In s.heap := I.ok.mod.kin.keeps I.bk
theorem Inv.nolimit (I : Inv X pins σ H s) : s.heap.NoLimit := I.ok.mod.nolimit.keeps I.bk
theorem Inv.fr (I : Inv X pins σ H s) : ∃ m, Fr X.base X.env.locals s.heap m :=
  let ⟨m, hn, _⟩ := I.loc
  ⟨m, hn, I.bk, Nat.le_trans I.ok.bsz I.ok.above⟩
theorem Inv.lt (I : Inv X pins σ H s) : X.env.locals < s.heap.objs.size := let ⟨_, hn, _⟩ := I.loc; hn.lt
theorem Inv.sz (I : Inv X pins σ H s) : X.s₀.heap.objs.size ≤ s.heap.objs.size := Nat.le_trans I.ok.above (Nat.le_of_lt I.lt)
theorem Inv.nofs (I : Inv X pins σ H s) {a : Addr} (h : s.heap.objs.size ≤ a) : a ∉ X.fs := fun hb => by
  obtain ⟨_, o, ho, _⟩ := I.ok.funs.mem hb
  exact absurd (Nat.lt_of_lt_of_le (Heap.lt_size ho) (Nat.le_trans I.sz h)) (Nat.lt_irrefl _)
theorem Inv.cne (I : Inv X pins σ H s) : ∀ x c, X.env.cells.lookup x = some c → c ≠ X.env.locals := fun x c e z => by
  obtain ⟨v, o, ho, hd⟩ := I.cell x c e
  obtain ⟨m, ⟨o', es, ep, ho', hd', _⟩, _⟩ := I.loc
  rw [z, ho'] at ho; cases ho; rw [hd'] at hd; cases hd
theorem Inv.funs (I : Inv X pins σ H s) : s.heap.FunFrames X.base X.outer := by
  have all : ∀ (l : List Env), (∀ b ∈ frs l, b ∈ X.fs) → X.s₀.heap.FunFrames X.base l → s.heap.FunFrames X.base l := by
    intro l
    induction l with
    | nil => intro _ _; trivial
    | cons env r ih =>
      intro hs hl
      obtain ⟨hk, ⟨L, o, hf, hn, ho, hd⟩, hr⟩ := hl
      have hL : L ∈ X.fs := hs L (by unfold frs; rw [List.filterMap_cons, hf]; exact List.mem_cons_self)
      obtain ⟨sl, e⟩ := I.base.slot L o ho (I.ok.frf L hL) hL fun z => I.ok.exfs L z hL
      exact ⟨hk, ⟨L, _, hf, hn, e, hd⟩, ih (fun b hb => hs b (by unfold frs; rw [List.filterMap_cons, hf]; exact List.mem_cons_of_mem _ hb)) hr⟩
  exact all X.outer (fun _ hb => hb) I.ok.funs
theorem Inv.stack (I : Inv X pins σ H s) : s.heap.FunFrames X.base X.stack := by
  rcases I.ok.stk with e | ⟨e, hf⟩
  · rw [e]; exact I.funs
  · rw [e]
    obtain ⟨m, hn, _⟩ := I.loc
    refine .cons (by rw [I.ok.kind]; decide) hf hn ?_ I.funs
    exact Heap.get?_none_of_le (Nat.le_trans I.ok.bsz I.ok.above)
theorem Inv.stkSub (I : Inv X pins σ H s) : ∀ b ∈ frs X.stack, b ∈ X.env.locals :: X.fs := fun b hb => by
  rcases I.ok.stk with e | ⟨e, hf⟩
  · rw [e] at hb; exact List.mem_cons_of_mem _ hb
  · rw [e] at hb
    unfold frs at hb
    rw [List.filterMap_cons, hf] at hb
    exact hb
theorem Inv.stkFree (I : Inv X pins σ H s) : ∀ b ∈ frs X.stack, H b = none := fun b hb => by
  rcases List.mem_cons.mp (I.stkSub b hb) with e | hb
  · rw [e]; exact I.free
  · obtain ⟨_, o, ho, _⟩ := I.ok.funs.mem hb
    exact I.base.free b o ho (I.ok.frf b hb) fun z => I.ok.exfs b z hb
theorem Inv.step {g' : Array GenState} {t' : Nat} {d' : Drawn} {ch : List Addr} (I : Inv X pins σ H s)
    (hch : ∀ b ∈ ch, (b ∈ X.ex ∨ X.s₀.heap.objs.size ≤ b) ∧ b ≠ X.env.locals ∧ (∀ x c, X.env.cells.lookup x = some c → c ≠ b) ∧ ∀ p ∈ X.pn ++ pins, p.1 ≠ b)
    (keep : ∀ b o, b ≠ X.env.locals → b ∉ X.fs → b ∉ ch → s.heap.get? b = some o → H b = none → h'.get? b = some o)
    (slot : ∀ b o, b ≠ X.env.locals → b ∈ X.fs → b ∉ ch → s.heap.get? b = some o → H b = none → ∃ sl, h'.get? b = some { o with slots := sl }) (free : ∀ b o, b ∉ ch → s.heap.get? b = some o → H b = none → H' b = none)
    (there : ∀ b o, b ∉ ch → s.heap.get? b = some o → ∃ o', h'.get? b = some o')
    (tups : ∀ b xs, H b = some (.tup xs) → H' b = some (.tup xs)) (frzs : ∀ b o u, H b = some (.frz o u) → H' b = some (.frz o u)) (tbls : ∀ b ps, H b = some (.tbl ps) → ∃ more, H' b = some (.tbl (ps ++ more)))
    (ns : ∀ m, s.heap.Ns X.env.locals m → h'.Ns X.env.locals m) (hok : HOk X.prog X.w H' h') (hg : AllBare g') :
    Inv X pins σ H' { s with heap := h', gens := g', drawn := d', toks := t' } := by
  have neL : ∀ b o, X.s₀.heap.get? b = some o → b ≠ X.env.locals := fun b o e => Nat.ne_of_lt (Nat.lt_of_lt_of_le (Heap.lt_size e) I.ok.above)
  have neC : ∀ b o, X.s₀.heap.get? b = some o → b ∉ X.ex → b ∉ ch := fun b o e hx hb => by
    rcases (hch b hb).1 with z | z
    · exact hx z
    · exact absurd (Nat.lt_of_lt_of_le (Heap.lt_size e) z) (Nat.lt_irrefl _)
  have cellK : ∀ x c, X.env.cells.lookup x = some c → ∀ v, s.heap.IsCell c v → h'.IsCell c v := fun x c e v ⟨o, ho, hd⟩ => by
    have nch : c ∉ ch := fun z => (hch c z).2.2.1 x c e rfl
    by_cases hc : c ∈ X.fs
    · obtain ⟨sl, q⟩ := slot c o (I.cne x c e) hc nch ho (I.freeC x c e)
      exact ⟨_, q, hd⟩
    · exact ⟨o, keep c o (I.cne x c e) hc nch ho (I.freeC x c e), hd⟩
  refine ⟨I.ok, I.os, hg, ⟨fun b o e n hb hx => ?_, fun b o e n hb hx => ?_, fun b o e n hx => ?_, fun b o e hx => ?_, fun b xs e => tups b xs (I.base.tups b xs e), fun b o xs e => frzs b o xs (I.base.frzs b o xs e), fun b ps e => ?_⟩, ?_, fun x c e => ?_, ?_, fun x c e => ?_, fun p hp => ?_, hok, I.len⟩
  · exact keep b o (neL b o e) hb (neC b o e hx) (I.base.keep b o e n hb hx) (I.base.free b o e n hx)
  · obtain ⟨sl, e1⟩ := I.base.slot b o e n hb hx
    obtain ⟨sl', e2⟩ := slot b _ (neL b o e) hb (neC b o e hx) e1 (I.base.free b o e n hx)
    exact ⟨sl', e2⟩
  · obtain ⟨o', e1⟩ := I.base.there b o e hx
    exact free b o' (neC b o e hx) e1 (I.base.free b o e n hx)
  · obtain ⟨o', e1⟩ := I.base.there b o e hx
    exact there b o' (neC b o e hx) e1
  · obtain ⟨m1, e1⟩ := I.base.tbls b ps e
    obtain ⟨m2, e2⟩ := tbls b _ e1
    exact ⟨m1 ++ m2, by rw [e2, Array.append_assoc]⟩
  · obtain ⟨m, hn, hl⟩ := I.loc
    refine ⟨m, ns m hn, fun i x v e1 e2 e3 => ?_⟩
    obtain ⟨u, r, l⟩ := hl i x v e1 e2 e3
    refine ⟨u, r, ?_⟩
    rcases l with l | ⟨k, c, e, z⟩
    · exact .inl l
    · exact .inr ⟨k, c, e, cellK x c e _ z⟩
  · obtain ⟨v, z⟩ := I.cell x c e
    exact ⟨v, cellK x c e v z⟩
  · obtain ⟨m, ⟨o, _, _, ho, _⟩, _⟩ := I.loc
    exact free _ o (fun z => (hch _ z).2.1 rfl) ho I.free
  · obtain ⟨v, o, ho, hd⟩ := I.cell x c e
    exact free c o (fun z => (hch c z).2.2.1 x c e rfl) ho (I.freeC x c e)
  · obtain ⟨e, n, ne, nf, d⟩ := I.pin p hp
    have nch : p.1 ∉ ch := fun z => (hch p.1 z).2.2.2 p hp rfl
    exact ⟨keep p.1 p.2 ne nf nch e n, free p.1 p.2 nch e n, ne, nf, d⟩
theorem Inv.un {t' : Nat} (I : Inv X pins σ H s) (u : Un X.fs [] H H' s.heap h') (hok : HOk X.prog X.w H' h') : Inv X pins σ H' { s with heap := h', toks := t' } := by
  obtain ⟨m, ⟨o, es, ep, ho, r⟩, _⟩ := id I.loc
  obtain ⟨sl, hL⟩ := u.any ho I.free (by simp)
  exact I.step (g' := s.gens) (d' := s.drawn) (ch := []) (fun _ z => nomatch z) (fun b o _ hb _ e n => u.keep b o e n hb (by simp)) (fun b o _ hb _ e n => u.slot b o e n hb (by simp)) (fun b o _ e n => u.free b o e n (by simp)) (fun b o _ e => u.there b o e (by simp)) u.tups u.frzs u.tbls (fun m' hm => by
    obtain ⟨o', es', ep', ho', r'⟩ := hm
    rw [ho] at ho'; cases ho'
    exact ⟨_, es', ep', hL, r'⟩) hok I.bare
theorem Inv.call {g' : Array GenState} {t' : Nat} {d' : Drawn} {ch : List Addr} (I : Inv X pins σ H s) (u : Un (frs X.stack) ch H H' s.heap h') (hok : HOk X.prog X.w H' h') (hg : AllBare g')
    (hch : ∀ b ∈ ch, (b ∈ X.ex ∨ X.s₀.heap.objs.size ≤ b) ∧ b ≠ X.env.locals ∧ (∀ x c, X.env.cells.lookup x = some c → c ≠ b) ∧ ∀ p ∈ X.pn ++ pins, p.1 ≠ b) :
    Inv X pins σ H' { s with heap := h', gens := g', drawn := d', toks := t' } := by
  obtain ⟨m, ⟨o, es, ep, ho, r⟩, _⟩ := id I.loc
  obtain ⟨sl, hL⟩ := u.any ho I.free fun z => (hch _ z).2.1 rfl
  exact I.step (ch := ch) hch (fun b o hL hb hc e n => u.keep b o e n (fun z => (List.mem_cons.mp (I.stkSub b z)).elim hL hb) hc) (fun b o _ _ hc e n => u.any e n hc) (fun b o hc e n => u.free b o e n hc) (fun b o hc e => u.there b o e hc) u.tups u.frzs u.tbls (fun m' hm => by
    obtain ⟨o', es', ep', ho', r'⟩ := hm
    rw [ho] at ho'; cases ho'
    exact ⟨_, es', ep', hL, r'⟩) hok hg
theorem Inv.turned {t' : Nat} {it : Addr} (I : Inv X pins σ H s) (k : ∀ b o, b ≠ it → s.heap.get? b = some o → h'.get? b = some o) (hn : H it = none) (hL : it ≠ X.env.locals)
    (h1 : it ∈ X.ex ∨ X.s₀.heap.objs.size ≤ it) (h2 : ∀ x c, X.env.cells.lookup x = some c → c ≠ it) (h3 : ∀ p ∈ X.pn ++ pins, p.1 ≠ it) : Inv X pins σ H { s with heap := h', toks := t' } := by
  have nit : ∀ b u, H b = some u → b ≠ it := fun b u e z => by rw [z, hn] at e; cases e
  refine I.step (g' := s.gens) (d' := s.drawn) (ch := [it]) (fun b hb => ?_) (fun b o _ _ hc e _ => k b o (fun z => hc (by simp [z])) e) (fun b o _ _ hc e _ => ⟨o.slots, k b o (fun z => hc (by simp [z])) e⟩) (fun _ _ _ _ n => n)
    (fun b o hc e => ⟨o, k b o (fun z => hc (by simp [z])) e⟩) (fun _ _ e => e) (fun _ _ _ e => e) (fun b ps e => ⟨#[], by rw [e]; simp⟩) (fun m hm => ?_) (fun b u e => ?_) I.bare
  · have e : b = it := by simpa using hb
    subst e
    exact ⟨h1, hL, h2, h3⟩
  · obtain ⟨o, es, ep, ho, r⟩ := hm
    exact ⟨o, es, ep, k _ o (Ne.symm hL) ho, r⟩
  · refine (I.hok b u e).stay (fun c v hc q => k c v ?_ q) (fun _ q => q) fun _ _ q => q
    rcases hc with z | z
    · rw [z]; exact nit b u e
    · exact nit c _ z
theorem Inv.tok (I : Inv X pins σ H s) (t : Nat) : Inv X pins σ H { s with toks := t } := I.un (h' := s.heap) (t' := t) Un.refl I.hok
theorem Inv.kept {t' : Nat} (I : Inv X pins σ H s) (k : ∀ b u, s.heap.get? b = some u → h'.get? b = some u) : Inv X pins σ H { s with heap := h', toks := t' } := I.un (Un.kept k) (I.hok.kept k)
theorem Inv.laid {a : Addr} {o : HO} {t' : Nat} (I : Inv X pins σ H s) (k : ∀ b u, s.heap.get? b = some u → h'.get? b = some u) (hp : s.heap.objs.size ≤ a) (new : ObjOk X.prog X.w (upd H a o) h' a o) :
    Inv X pins σ (upd H a o) { s with heap := h', toks := t' } := I.un (Un.laid k hp (I.hok.fresh hp)) (I.hok.laid k hp new)
theorem Inv.write {x e : Addr} {o : HO} {t' : Nat} (I : Inv X pins σ H s) (mu : Mut (H x)) (he : e = x ∨ H e = some (.own x)) (k : ∀ b u, b ≠ e → s.heap.get? b = some u → h'.get? b = some u) (heo : ∃ u, h'.get? e = some u)
    (new : ObjOk X.prog X.w (upd H x o) h' x o) : Inv X pins σ (upd H x o) { s with heap := h', toks := t' } := I.un (Un.write mu he k heo) (I.hok.write mu he k heo new)
theorem Inv.weak {σ' : List (Option V)} (I : Inv X pins σ H s) (hl : σ'.length = σ.length) (w : ∀ (i : Nat) v, σ'[i]? = some (some v) → σ[i]? = some (some v)) : Inv X pins σ' H s :=
  ⟨I.ok, I.os, I.bare, I.base, let ⟨m, hn, hl'⟩ := I.loc; ⟨m, hn, fun i x v e1 e2 e3 => hl' i x v e1 (w i v e2) e3⟩, I.cell, I.free, I.freeC, I.pin, I.hok, hl.trans I.len⟩
theorem Inv.pins_of {pins' : List (Addr × Obj)} (I : Inv X pins σ H s) (h : ∀ p ∈ pins', s.heap.get? p.1 = some p.2 ∧ H p.1 = none ∧ p.1 ≠ X.env.locals ∧ p.1 ∉ X.fs ∧ ∀ v, p.2.data ≠ .cell v) : Inv X pins' σ H s :=
  ⟨I.ok, I.os, I.bare, I.base, I.loc, I.cell, I.free, I.freeC, fun p hp => (List.mem_append.mp hp).elim (fun z => I.pin p (List.mem_append_left _ z)) (h p), I.hok, I.len⟩
theorem nodup_ix {N : List Str} (hN : N.Nodup) {i j : Nat} {x : Str} (a : N[i]? = some x) (b : N[j]? = some x) : i = j := by
  obtain ⟨h1, e1⟩ := List.getElem?_eq_some_iff.mp a
  obtain ⟨h2, e2⟩ := List.getElem?_eq_some_iff.mp b
  exact (List.getElem_inj hN).mp (e1.trans e2.symm)
theorem store_ok2 {M : Model} {A : Around} {E : Value → Shared → Prop} {i : Nat} {x : Str} {v : V} {u : Value} {Q : Unit → Shared → Prop} (I : Inv X pins σ H s) (hN : X.N.Nodup) (hi : X.N[i]? = some x) (hx : Loc X.env.scope x) (r : RelV v u)
    (h : ∀ s', Inv X pins (σ.set i (some v)) H s' → (∃ a, Heap.SameBut a s.heap s'.heap ∧ (a = X.env.locals ∨ X.env.cells.lookup x = some a)) → Q () s') (hf : X.fn x = true ∨ X.env.scope.names.lookup x = some .local := by first | exact .inl rfl | exact .inr rfl | assumption) : wpAny M A (storeName X.env x u) Q E s := by
  obtain ⟨m, hn, hl⟩ := id I.loc
  have hcls : (X.env.scope.kind == .class || (X.env.scope.kind == .module && X.env.locals != X.env.globals)) = false := by rw [I.ok.kind]; rfl
  have hiσ : i < σ.length := by rw [I.len]; exact (List.getElem?_eq_some_iff.mp hi).1
  have cne := I.cne
  have tracked : ∀ {a : Addr} {h' : Heap}, (∃ o, s.heap.get? a = some o ∧ H a = none) → Heap.SameBut a s.heap h' → HOk X.prog X.w H h' := fun {a h'} ha hs b ob e => by
    obtain ⟨_, _, hfree⟩ := ha
    refine (I.hok b ob e).stay (fun c w' hc q => (hs.2 c ?_).trans q) (fun _ q => q) fun _ _ q => q
    rintro rfl
    rcases hc with rfl | hc
    · rw [hfree] at e; cases e
    · rw [hfree] at hc; cases hc
  rcases hx with hk | hk
  · refine wpAny_storeName_local hk hn (fun h' hn' hs => ?_) hcls
    obtain ⟨oL, _, _, hoL, _⟩ := id hn
    refine h _ ⟨I.ok, I.os, I.bare, ⟨fun b o e n hb hx => ?_, fun b o e n hb hx => ?_, I.base.free, fun b o e hx => ?_, I.base.tups, I.base.frzs, I.base.tbls⟩, ⟨_, hn', fun j y v' e1 e2 e3 => ?_⟩, fun y c e => ?_, I.free, I.freeC, fun p hp => ?_, tracked ⟨oL, hoL, I.free⟩ hs, by simpa using I.len⟩ ⟨_, hs, .inl rfl⟩
    · exact (hs.2 b (Nat.ne_of_lt (Nat.lt_of_lt_of_le (Heap.lt_size e) I.ok.above))).trans (I.base.keep b o e n hb hx)
    · obtain ⟨sl, e1⟩ := I.base.slot b o e n hb hx
      exact ⟨sl, (hs.2 b (Nat.ne_of_lt (Nat.lt_of_lt_of_le (Heap.lt_size e) I.ok.above))).trans e1⟩
    · obtain ⟨o', e1⟩ := I.base.there b o e hx
      exact ⟨o', (hs.2 b (Nat.ne_of_lt (Nat.lt_of_lt_of_le (Heap.lt_size e) I.ok.above))).trans e1⟩
    · by_cases hj : j = i
      · subst hj
        rw [hi] at e1; cases e1
        rw [List.getElem?_set_self hiσ] at e2
        cases e2
        exact ⟨u, r, .inl ⟨hk, by simp⟩⟩
      · rw [List.getElem?_set_ne (Ne.symm hj)] at e2
        obtain ⟨u', r', q⟩ := hl j y v' e1 e2 e3
        refine ⟨u', r', ?_⟩
        rcases q with ⟨k, e⟩ | ⟨k, c, e, z⟩
        · refine .inl ⟨k, ?_⟩
          have : y ≠ x := fun e => hj (nodup_ix hN e1 (e ▸ hi))
          simp [this, e]
        · exact .inr ⟨k, c, e, z.sameBut hs (cne y c e)⟩
    · obtain ⟨w', z⟩ := I.cell y c e
      exact ⟨w', z.sameBut hs (cne y c e)⟩
    · obtain ⟨e, n, ne, nf, d⟩ := I.pin p hp
      exact ⟨(hs.2 p.1 ne).trans e, n, ne, nf, d⟩
  · have hfn : X.fn x = true := by
      rcases hf with z | z
      · exact z
      · rw [z] at hk; cases hk
    obtain ⟨c, hc⟩ := I.ok.has x (.inl hk)
    obtain ⟨w', z⟩ := I.cell x c hc
    refine wpAny_storeName_cell I.ok.kind hk hc z (fun h' hc' hs => ?_)
    obtain ⟨oc, hoc, hocd⟩ := id z
    refine h { s with heap := h' } ⟨I.ok, I.os, I.bare, ⟨fun b o e n hb hx => ?_, fun b o e n hb hx => ?_, I.base.free, fun b o e hx => ?_, I.base.tups, I.base.frzs, I.base.tbls⟩, ⟨m, hn.sameBut hs (Ne.symm (cne x c hc)), fun j y v' e1 e2 e3 => ?_⟩, fun y c' e => ?_, I.free, I.freeC, fun p hp => ?_, tracked ⟨oc, hoc, I.freeC x c hc⟩ hs, by simpa using I.len⟩ ⟨c, hs, .inr hc⟩
    · exact (hs.2 b (Nat.ne_of_lt (Nat.lt_of_lt_of_le (Heap.lt_size e) (I.ok.cab x c hfn hc)))).trans (I.base.keep b o e n hb hx)
    · obtain ⟨sl, e1⟩ := I.base.slot b o e n hb hx
      exact ⟨sl, (hs.2 b (Nat.ne_of_lt (Nat.lt_of_lt_of_le (Heap.lt_size e) (I.ok.cab x c hfn hc)))).trans e1⟩
    · obtain ⟨o', e1⟩ := I.base.there b o e hx
      exact ⟨o', (hs.2 b (Nat.ne_of_lt (Nat.lt_of_lt_of_le (Heap.lt_size e) (I.ok.cab x c hfn hc)))).trans e1⟩
    · by_cases hj : j = i
      · subst hj
        rw [hi] at e1; cases e1
        rw [List.getElem?_set_self hiσ] at e2
        cases e2
        exact ⟨u, r, .inr ⟨.inl hk, c, hc, hc'⟩⟩
      · rw [List.getElem?_set_ne (Ne.symm hj)] at e2
        obtain ⟨u', r', q⟩ := hl j y v' e1 e2 e3
        refine ⟨u', r', ?_⟩
        rcases q with q | ⟨k, c', e, z'⟩
        · exact .inl q
        · refine .inr ⟨k, c', e, z'.sameBut hs ?_⟩
          rintro rfl
          exact hj (nodup_ix hN e1 (I.ok.inj _ _ _ e hc ▸ hi))
    · by_cases hcc : c' = c
      · subst hcc; exact ⟨_, hc'⟩
      · obtain ⟨w2, z2⟩ := I.cell y c' e
        exact ⟨w2, z2.sameBut hs hcc⟩
    · obtain ⟨e, n, ne, nf, d⟩ := I.pin p hp
      refine ⟨(hs.2 p.1 ?_).trans e, n, ne, nf, d⟩
      intro q
      rw [q, hoc] at e
      have q' : oc = p.2 := Option.some.inj e
      exact d w' (by rw [← q']; exact hocd)
theorem store_ok {M : Model} {A : Around} {E : Value → Shared → Prop} {i : Nat} {x : Str} {v : V} {u : Value} {Q : Unit → Shared → Prop} (I : Inv X pins σ H s) (hN : X.N.Nodup) (hi : X.N[i]? = some x) (hx : Loc X.env.scope x) (r : RelV v u)
    (h : ∀ s', Inv X pins (σ.set i (some v)) H s' → Q () s') (hf : X.fn x = true ∨ X.env.scope.names.lookup x = some .local := by first | exact .inl rfl | exact .inr rfl | assumption) : wpAny M A (storeName X.env x u) Q E s :=
  store_ok2 I hN hi hx r (fun s' I' _ => h s' I') hf
theorem Inv.call' {s' : Shared} {ch : List Addr} (I : Inv X pins σ H s) (ho : s'.os = s.os) (u : Un (frs X.stack) ch H H' s.heap s'.heap) (hok : HOk X.prog X.w H' s'.heap) (hg : AllBare s'.gens)
    (hch : ∀ b ∈ ch, (b ∈ X.ex ∨ X.s₀.heap.objs.size ≤ b) ∧ b ≠ X.env.locals ∧ (∀ x c, X.env.cells.lookup x = some c → c ≠ b) ∧ ∀ p ∈ X.pn ++ pins, p.1 ≠ b) : Inv X pins σ H' s' := by
  obtain ⟨h', g', d', t', o'⟩ := s'
  have e : o' = s.os := ho
  subst e
  exact I.call (g' := g') (t' := t') (d' := d') u hok hg hch
end
abbrev XK := Value → Option Addr → Hp → Prop
abbrev St := List (Option V)
abbrev VK := V → Hp → Prop
abbrev TE := St → Hp → VK → Prop
abbrev TT := St → Hp → (Bool → Hp → Prop) → Prop
abbrev TA := St → Hp → (List V → Hp → Prop) → Prop
structure Ends where
  nx : St → Hp → Prop
  rt : VK
  bk : St → Hp → Prop := fun _ _ => False
  ct : St → Hp → Prop := fun _ _ => False
abbrev TS := Ends → St → Hp → Prop
def EP (X : Cx) (pins : List (Addr × Obj)) (σ : St) (Q : VK) (u : Value) (s' : Shared) : Prop := ∃ v H', Inv X pins σ H' s' ∧ RelV v u ∧ Q v H'
def TP (X : Cx) (pins : List (Addr × Obj)) (σ : St) (Q : Bool → Hp → Prop) (b : Bool) (s' : Shared) : Prop := ∃ H', Inv X pins σ H' s' ∧ Q b H'
def AP (X : Cx) (pins : List (Addr × Obj)) (σ : St) (Q : List V → Hp → Prop) (us : List Value) (s' : Shared) : Prop := ∃ vs H', Inv X pins σ H' s' ∧ Vals vs us ∧ Q vs H'
def SP (X : Cx) (pins : List (Addr × Obj)) (D : Ends) (f : Flow) (s' : Shared) : Prop :=
  match f with
  | .next => ∃ σ' H', Inv X pins σ' H' s' ∧ D.nx σ' H'
  | .brk => ∃ σ' H', Inv X pins σ' H' s' ∧ D.bk σ' H'
  | .cont => ∃ σ' H', Inv X pins σ' H' s' ∧ D.ct σ' H'
  | .ret u => ∃ v σ' H', Inv X pins σ' H' s' ∧ RelV v u ∧ D.rt v H'
def PE (X : Cx) (e : Expr) (t : TE) : Prop :=
  ∀ (pins : List (Addr × Obj)) (s : Shared) (σ : St) (H : Hp) (Q : VK), Inv X pins σ H s → t σ H Q → wpAny (model X.prog X.w) X.A (eval e X.env) (EP X pins σ Q) X.xe s
def PT (X : Cx) (e : Expr) (t : TT) : Prop :=
  ∀ (pins : List (Addr × Obj)) (s : Shared) (σ : St) (H : Hp) (Q : Bool → Hp → Prop), Inv X pins σ H s → t σ H Q → wpAny (model X.prog X.w) X.A (isTrue e X.env (eval e X.env)) (TP X pins σ Q) X.xe s
def PW (X : Cx) (e : Expr) (t : TT) : Prop :=
  ∀ (whole : Sem Value) (pins : List (Addr × Obj)) (s : Shared) (σ : St) (H : Hp) (Q : Bool → Hp → Prop), Inv X pins σ H s → t σ H Q → wpAny (model X.prog X.w) X.A (isTrue e X.env whole) (TP X pins σ Q) X.xe s
theorem PW.pt {X : Cx} {e : Expr} {t : TT} (h : PW X e t) : PT X e t := h _
def PA (X : Cx) (es : List Expr) (t : TA) : Prop :=
  ∀ (pos : Pos) (pins : List (Addr × Obj)) (s : Shared) (σ : St) (H : Hp) (Q : List V → Hp → Prop), Inv X pins σ H s → t σ H Q → wpAny (model X.prog X.w) X.A (spliced (backTo pos (starEach es X.env))) (AP X pins σ Q) X.xe s
def PS (X : Cx) (st : Stmt) (t : TS) : Prop :=
  ∀ (pins : List (Addr × Obj)) (s : Shared) (σ : St) (H : Hp) (D : Ends), Inv X pins σ H s → t D σ H → wpAny (model X.prog X.w) X.A (exec st X.env) (SP X pins D) X.xe s
def PSs (X : Cx) (st : List Stmt) (t : TS) : Prop :=
  ∀ (pins : List (Addr × Obj)) (s : Shared) (σ : St) (H : Hp) (D : Ends), Inv X pins σ H s → t D σ H → wpAny (model X.prog X.w) X.A (execs st X.env) (SP X pins D) X.xe s
theorem thn {α : Type} {t : Sem α} {Q Q' : α → Shared → Prop} {M : Model} {A : Around} {E : Value → Shared → Prop} {s : Shared} (h : wpAny M A t Q E s) (hQ : ∀ a s, Q a s → Q' a s) : wpAny M A t Q' E s := wpAny_mono h hQ fun _ _ x => x
end L2
namespace L2
open PySem PySem.Spec PyProof.Rows
section
variable {X : Cx}
def tVar (i : Nat) : TE := fun σ H Q => ∃ v, σ[i]? = some (some v) ∧ Q v H
def tC (v : V) : TE := fun _ H Q => Q v H
theorem pe_var {i : Nat} {x : Str} {pos : Pos} (hN : X.N[i]? = some x) (hv : Vis X.env.scope x) (hd : (x == ("__debug__" : Str)) = false := by decide) (hcd : (x == ("__classdict__" : Str)) = false := by decide) : PE X (.Name x pos) (tVar i) := by
  intro pins s σ H Q I h
  obtain ⟨v, e, h⟩ := h
  obtain ⟨m, hn, hl⟩ := I.loc
  obtain ⟨u, r, l⟩ := hl i x v hN e hv
  have fin : EP X pins σ Q u s := ⟨v, H, I, r, h⟩
  rcases l with ⟨hk, hm⟩ | ⟨hk, c, hc, hcell⟩
  · exact wpAny_Name (wpAny_loadName_local I.ok.kind hk hn hm fin) hd
  · rcases hk with hk | hk
    · exact wpAny_Name (wpAny_loadName_cell I.ok.kind hk hc hcell fin) hd
    · exact wpAny_Name (wpAny_loadName_free I.ok.kind hk hc hcell fin hcd) hd
theorem pe_int {i j pos} : PE X (.Constant (.int i) j pos) (tC (.int i)) := fun _ _ _ H _ I h => wpAny_Constant_int ⟨.int i, H, I.tok _, ⟨_, rfl⟩, h⟩
theorem pe_bl {b j pos} : PE X (.Constant (.bool b) j pos) (tC (.bl b)) := fun _ _ _ H _ I h => Constant_bool ⟨.bl b, H, I, rfl, h⟩
theorem pe_non {j pos} : PE X (.Constant .none j pos) (tC .non) := fun _ _ _ H _ I h => Constant_none ⟨.non, H, I, rfl, h⟩
theorem pe_str {x j pos} : PE X (.Constant (.str x) j pos) (tC (.str x)) := fun _ _ _ H _ I h => Calls.Constant_str ⟨.str x, H, I.tok _, ⟨_, rfl⟩, h⟩
def Gl (X : Cx) (x : Str) : Prop := X.env.kindOf x = some .globalImplicit
theorem ld_glob {E : Value → Shared → Prop} {pins : List (Addr × Obj)} {s : Shared} {σ : St} {H : Hp} {x : Str} {u : Value} {pos : Pos} {Q : Value → Shared → Prop} (I : Inv X pins σ H s) (hg : Gl X x) (hm : X.mg x = some u) (h : Q u s)
    (hd : (x == ("__debug__" : Str)) = false := by decide) : wpAny (model X.prog X.w) X.A (eval (.Name x pos) X.env) Q E s :=
  Calls.Name_function_global I.ok.kind hg (Calls.loadGlobal_global (by rw [I.ok.glob]; exact I.mod.glob.keeps I.bk) hm h) hd
theorem ld_blt {E : Value → Shared → Prop} {pins : List (Addr × Obj)} {s : Shared} {σ : St} {H : Hp} {x : Str} {u : Value} {pos : Pos} {Q : Value → Shared → Prop} (I : Inv X pins σ H s) (hg : Gl X x) (hm : X.mg x = none) (hv : bootBuiltins x = some u) (h : Q u s)
    (hn : x ≠ "__name__" := by decide) (hd : (x == ("__debug__" : Str)) = false := by decide) : wpAny (model X.prog X.w) X.A (eval (.Name x pos) X.env) Q E s := by
  obtain ⟨mb, h1, h2⟩ := I.mod.blt
  exact Calls.Name_function_global I.ok.kind hg (Calls.loadGlobal_builtin (by rw [I.ok.glob]; exact I.mod.glob.keeps I.bk) hm (by rw [I.ok.blt]; exact h1.keeps I.bk) ((h2 x hn).trans hv) h) hd
theorem pe_glob {x : Str} {v : V} {u : Value} {pos : Pos} (hg : Gl X x) (hm : X.mg x = some u) (r : RelV v u) (hd : (x == ("__debug__" : Str)) = false := by decide) : PE X (.Name x pos) (tC v) :=
  fun _ _ _ H _ I h => ld_glob I hg hm ⟨v, H, I, r, h⟩ hd
theorem pe_bltn {x : Str} {v : V} {u : Value} {pos : Pos} (hg : Gl X x) (hm : X.mg x = none) (hv : bootBuiltins x = some u) (r : RelV v u) (hn : x ≠ "__name__" := by decide) (hd : (x == ("__debug__" : Str)) = false := by decide) : PE X (.Name x pos) (tC v) :=
  fun _ _ _ H _ I h => ld_blt I hg hm hv ⟨v, H, I, r, h⟩ hn hd
variable {a b : Expr} {ta tb : TE} {pos : Pos}
def PC (X : Cx) (op : CmpOp) (a b : Expr) (t : TE) : Prop :=
  ∀ (pins : List (Addr × Obj)) (s : Shared) (σ : St) (H : Hp) (Q : VK), Inv X pins σ H s → t σ H Q →
    wpAny (model X.prog X.w) X.A (eval a X.env) (fun v s₁ => wpAny (model X.prog X.w) X.A (eval b X.env) (fun u s₂ => wpAny (model X.prog X.w) X.A (compareOp op v u) (EP X pins σ Q) X.xe s₂) X.xe s₁) X.xe s
theorem nobehind (b : Expr) {op : CmpOp} (h : op ≠ .In) (h2 : op ≠ .NotIn) : behindInMarks op b = false := by
  have e1 : (op == CmpOp.In) = false := by cases op <;> first | rfl | exact absurd rfl h
  have e2 : (op == CmpOp.NotIn) = false := by cases op <;> first | rfl | exact absurd rfl h2
  cases b <;> simp [behindInMarks, e1, e2]
def tIsN (ta : TE) : TE := fun σ H Q => ta σ H fun x H1 => Q (.bl (decide (x = .non))) H1
def tNotN (ta : TE) : TE := fun σ H Q => ta σ H fun x H1 => Q (.bl (!decide (x = .non))) H1
theorem RelV.none_iff {x : V} {v : Value} (r : RelV x v) : (v == Value.none) = decide (x = .non) := by
  cases x with
  | non => cases r; rfl
  | bl _ => cases r; rfl
  | int _ => obtain ⟨t, rfl⟩ := r; rfl
  | str _ => obtain ⟨t, rfl⟩ := r; rfl
  | byt _ => obtain ⟨t, rfl⟩ := r; rfl
  | flt _ => obtain ⟨t, rfl⟩ := r; rfl
  | ref _ => cases r; rfl
  | ty _ => cases r; rfl
theorem pc_isN {j pos'} (ha : PE X a ta) : PC X .Is a (.Constant .none j pos') (tIsN ta) := by
  intro pins s σ H Q I h
  refine thn (ha pins s σ H _ I h) fun v s1 ⟨x, H1, I1, r1, q1⟩ => ?_
  exact Constant_none (is_none_gen ⟨.bl _, H1, I1, by rw [r1.none_iff]; rfl, q1⟩)
theorem pc_notN {j pos'} (ha : PE X a ta) : PC X .IsNot a (.Constant .none j pos') (tNotN ta) := by
  intro pins s σ H Q I h
  refine thn (ha pins s σ H _ I h) fun v s1 ⟨x, H1, I1, r1, q1⟩ => ?_
  exact Constant_none (isnot_none_gen ⟨.bl _, H1, I1, by rw [r1.none_iff]; rfl, q1⟩)
def tB (t : TE) : TT := fun σ H Q => t σ H fun x H1 => ∃ c, x = .bl c ∧ Q c H1
theorem pt_cmp {op : CmpOp} {t : TE} (h : PC X op a b t) (h1 : behindInMarks op b = false := by first | exact nobehind _ (by decide) (by decide) | rfl) : PT X (.Compare a [op] [b] pos) (tB t) := by
  intro pins s σ H Q I hw
  refine wpAny_isTrue_Compare1 (thn (h pins s σ H _ I hw) fun v s1 h1 => thn h1 fun u s2 h2 => thn h2 fun c s3 ⟨x, H1, I1, r1, q1⟩ => ?_) h1
  obtain ⟨d, rfl, q⟩ := q1
  cases r1
  exact wpAny_truthy_bool ⟨H1, I1, q⟩
variable {tA tB' : TT} {rest : List Expr}
def tAnd (t u : TT) : TT := fun σ H Q => t σ H fun c H1 => if c = true then u σ H1 Q else Q false H1
def tOr (t u : TT) : TT := fun σ H Q => t σ H fun c H1 => if c = true then Q true H1 else u σ H1 Q
theorem pw_and1 (ha : PT X a tA) : PW X (.BoolOp .And [a] pos) tA := by
  intro wh pins s σ H Q I h
  refine isTrue_and (thn (ha pins s σ H Q I h) fun c s1 e => ?_)
  cases c with
  | true => exact isTrue_and_nil e
  | false => exact e
theorem pw_or1 (ha : PT X a tA) : PW X (.BoolOp .Or [a] pos) tA := by
  intro wh pins s σ H Q I h
  refine isTrue_or (thn (ha pins s σ H Q I h) fun c s1 e => ?_)
  cases c with
  | false => exact isTrue_or_nil e
  | true => exact e
theorem pw_and (ha : PT X a tA) (hb : PW X (.BoolOp .And (b :: rest) pos) tB') : PW X (.BoolOp .And (a :: b :: rest) pos) (tAnd tA tB') := by
  intro wh pins s σ H Q I h
  refine isTrue_and (thn (ha pins s σ H _ I h) fun c s1 ⟨H1, I1, q1⟩ => ?_)
  cases c with
  | true => exact hb wh pins s1 σ H1 Q I1 q1
  | false => exact ⟨H1, I1, q1⟩
theorem pw_or (ha : PT X a tA) (hb : PW X (.BoolOp .Or (b :: rest) pos) tB') : PW X (.BoolOp .Or (a :: b :: rest) pos) (tOr tA tB') := by
  intro wh pins s σ H Q I h
  refine isTrue_or (thn (ha pins s σ H _ I h) fun c s1 ⟨H1, I1, q1⟩ => ?_)
  cases c with
  | true => exact ⟨H1, I1, q1⟩
  | false => exact hb wh pins s1 σ H1 Q I1 q1
def tAndV (ta tb : TE) : TE := fun σ H Q => ta σ H fun x H1 => ∃ c, x = .bl c ∧ if c = true then tb σ H1 Q else Q (.bl false) H1
theorem pe_one {op} {t : TE} (h : PE X a t) : PE X (.BoolOp op [a] pos) t := fun pins s σ H Q I hw => BoolOp_one (h pins s σ H Q I hw)
theorem pe_and (ha : PE X a ta) (hb : PE X (.BoolOp .And (b :: rest) pos) tb) : PE X (.BoolOp .And (a :: b :: rest) pos) (tAndV ta tb) := by
  intro pins s σ H Q I h
  refine BoolOp_and (thn (ha pins s σ H _ I h) fun v s1 ⟨x, H1, I1, r1, q1⟩ => ?_)
  obtain ⟨c, rfl, q1⟩ := q1
  cases r1
  refine wpAny_truthy_bool ?_
  cases c with
  | true => exact hb pins s1 σ H1 Q I1 q1
  | false => exact ⟨.bl false, H1, I1, rfl, q1⟩
end
end L2
namespace L2
open PySem PySem.Spec PyProof.Rows
def SqL (K : PySem.W.Frag) (H : Hp) (a : Addr) (xs : List V) : Prop :=
  Rd H a (.lst xs) ∨
    ∃ (o : Obj) (its : Array Value) (n : Nat), K.lookup a = some o ∧ o.cls = .type "list" ∧ o.dict = none ∧ o.data = .seq its n ∧ its.size ≤ sizeLine ∧ Vals xs its.toList
def SqT (K : PySem.W.Frag) (H : Hp) (a : Addr) (xs : List V) : Prop :=
  Rd H a (.tup xs) ∨
    ∃ (o : Obj) (its : Array Value) (n : Nat), K.lookup a = some o ∧ o.cls = .type "tuple" ∧ o.data = .seq its n ∧ its.size ≤ sizeLine ∧ Vals xs its.toList
def absV : Value → Option V
  | .none => some .non
  | .bool b => some (.bl b)
  | .int i _ => some (.int i)
  | .str x _ => some (.str x)
  | .bytes b _ => some (.byt b)
  | .float b _ => some (.flt b)
  | .ref a => some (.ref a)
  | .type n => some (.ty n)
  | _ => none
theorem RelV.abs {x : V} {u : Value} (r : RelV x u) : absV u = some x := by
  cases x with
  | non => cases r; rfl
  | bl _ => cases r; rfl
  | int _ => obtain ⟨t, rfl⟩ := r; rfl
  | str _ => obtain ⟨t, rfl⟩ := r; rfl
  | byt _ => obtain ⟨t, rfl⟩ := r; rfl
  | flt _ => obtain ⟨t, rfl⟩ := r; rfl
  | ref _ => cases r; rfl
  | ty _ => cases r; rfl
theorem RelV.inj {x y : V} {u : Value} (r : RelV x u) (q : RelV y u) : x = y := Option.some.inj (r.abs.symm.trans q.abs)
theorem Vals.inj : ∀ {xs ys : List V} {us : List Value}, Vals xs us → Vals ys us → xs = ys
  | _, _, _, .nil, .nil => rfl
  | _, _, _, .cons r t, .cons r' t' => by rw [r.inj r', Vals.inj t t']
section
variable {X : Cx} {pins : List (Addr × Obj)} {σ : St} {H : Hp} {s : Shared} {a : Addr} {xs ys : List V}
theorem SqL.of {K : PySem.W.Frag} (h : H a = some (.lst xs)) : SqL K H a xs := .inl (.inl h)
theorem SqT.of {K : PySem.W.Frag} (h : H a = some (.tup xs)) : SqT K H a xs := .inl (.inl h)
theorem Inv.list (I : Inv X pins σ H s) (h : SqL X.K H a xs) : ∃ its : List Value, Vals xs its ∧ PlainL s.heap a its.toArray ∧ xs.length ≤ sizeLine := by
  rcases h with h | ⟨o, its, n, hk, hc, hd, hs, hz, r⟩
  · obtain ⟨z, its, n, r, e⟩ := h.ok I.hok
    exact ⟨its, r, ⟨_, n, e, rfl, rfl, rfl⟩, z⟩
  · refine ⟨its.toList, r, ⟨o, n, I.kIn a o hk, hc, hd, by simpa using hs⟩, ?_⟩
    have e := r.length
    simp only [Array.length_toList] at e
    lia
theorem Inv.tuple (I : Inv X pins σ H s) (h : SqT X.K H a xs) : ∃ its : List Value, Vals xs its ∧ IsTup s.heap a its.toArray ∧ xs.length ≤ sizeLine := by
  rcases h with h | ⟨o, its, n, hk, hc, hs, hz, r⟩
  · obtain ⟨z, its, r, p⟩ := h.ok I.hok
    exact ⟨its, r, p, z⟩
  · refine ⟨its.toList, r, ⟨o, I.kIn a o hk, hc, n, by simpa using hs⟩, ?_⟩
    have e := r.length
    simp only [Array.length_toList] at e
    lia
theorem Inv.list_inj (I : Inv X pins σ H s) (h : SqL X.K H a xs) (h' : SqL X.K H a ys) : xs = ys := by
  obtain ⟨its, r, ⟨o, n, e, _, _, d⟩, _⟩ := I.list h
  obtain ⟨its', r', ⟨o', n', e', _, _, d'⟩, _⟩ := I.list h'
  rw [e] at e'; cases e'
  rw [d] at d'
  injection d' with d1 _
  have : its = its' := by simpa using congrArg Array.toList d1
  subst this
  exact r.inj r'
theorem Inv.tuple_inj (I : Inv X pins σ H s) (h : SqT X.K H a xs) (h' : SqT X.K H a ys) : xs = ys := by
  obtain ⟨its, r, ⟨o, e, _, n, d⟩, _⟩ := I.tuple h
  obtain ⟨its', r', ⟨o', e', _, n', d'⟩, _⟩ := I.tuple h'
  rw [e] at e'; cases e'
  rw [d] at d'
  injection d' with d1 _
  have : its = its' := by simpa using congrArg Array.toList d1
  subst this
  exact r.inj r'
end
abbrev Cx.wish (X : Cx) (E : Value → Shared → Prop) : Cx := { X with xe := E }
abbrev Cx.nox (X : Cx) : Cx := X.wish fun _ _ => False
theorem Cx.Ok.wish {X : Cx} (ok : X.Ok) (E : Value → Shared → Prop) : (X.wish E).Ok :=
  ⟨ok.mod, ok.kind, ok.glob, ok.blt, ok.above, ok.inj, ok.has, ok.cab, ok.hd, ok.frames, ok.stk, ok.exf, ok.bs, ok.bsz, ok.noex, ok.exfs, ok.funs, ok.frf⟩
theorem Cx.Ok.unwish {X : Cx} {E : Value → Shared → Prop} (ok : (X.wish E).Ok) : X.Ok :=
  ⟨ok.mod, ok.kind, ok.glob, ok.blt, ok.above, ok.inj, ok.has, ok.cab, ok.hd, ok.frames, ok.stk, ok.exf, ok.bs, ok.bsz, ok.noex, ok.exfs, ok.funs, ok.frf⟩
section
variable {X : Cx} {pins : List (Addr × Obj)} {σ : St} {H : Hp} {s : Shared} {E : Value → Shared → Prop}
theorem Inv.wish (I : Inv X pins σ H s) (E : Value → Shared → Prop) : Inv (X.wish E) pins σ H s := ⟨I.ok.wish E, I.os, I.bare, I.base, I.loc, I.cell, I.free, I.freeC, I.pin, I.hok, I.len⟩
theorem Inv.unwish (I : Inv (X.wish E) pins σ H s) : Inv X pins σ H s := ⟨I.ok.unwish, I.os, I.bare, I.base, I.loc, I.cell, I.free, I.freeC, I.pin, I.hok, I.len⟩
theorem SP.unwish {D : Ends} {f : Flow} {s' : Shared} (h : SP (X.wish E) pins D f s') : SP X pins D f s' := by
  cases f with
  | next => obtain ⟨σ', H', I, q⟩ := h; exact ⟨σ', H', I.unwish, q⟩
  | brk => obtain ⟨σ', H', I, q⟩ := h; exact ⟨σ', H', I.unwish, q⟩
  | cont => obtain ⟨σ', H', I, q⟩ := h; exact ⟨σ', H', I.unwish, q⟩
  | ret u => obtain ⟨v, σ', H', I, r, q⟩ := h; exact ⟨v, σ', H', I.unwish, r, q⟩
theorem PE.nox {e : Expr} {t : TE} (h : PE X.nox e t) : PE X e t := fun pins s σ H Q I hw =>
  wpAny_mono (h pins s σ H Q (I.wish _) hw) (fun _ _ ⟨v, H', I', r, q⟩ => ⟨v, H', I'.unwish, r, q⟩) fun _ _ z => False.elim z
theorem PT.nox {e : Expr} {t : TT} (h : PT X.nox e t) : PT X e t := fun pins s σ H Q I hw =>
  wpAny_mono (h pins s σ H Q (I.wish _) hw) (fun _ _ ⟨H', I', q⟩ => ⟨H', I'.unwish, q⟩) fun _ _ z => False.elim z
theorem PSs.nox {st : List Stmt} {t : TS} (h : PSs X.nox st t) : PSs X st t := fun pins s σ H D I hw =>
  wpAny_mono (h pins s σ H D (I.wish _) hw) (fun _ _ q => q.unwish) fun _ _ z => False.elim z
end
section
variable {X : Cx} {st : Stmt} {rest : List Stmt} {t u : TS} {e : Expr} {te : TE} {pos : Pos}
def tNext : TS := fun D σ H => D.nx σ H
def tSeq (t u : TS) : TS := fun D σ H => t { D with nx := u D } σ H
theorem pss_nil : PSs X [] tNext := fun _ _ σ H _ I h => wpAny_execs_nil ⟨σ, H, I, h⟩
theorem pss_cons (h1 : PS X st t) (h2 : PSs X rest u) : PSs X (st :: rest) (tSeq t u) := by
  intro pins s σ H D I h
  refine wpAny_execs_cons (thn (h1 pins s σ H { D with nx := u D } I h) fun f s1 q => ?_)
  cases f with
  | next =>
    obtain ⟨σ', H', I', q⟩ := q
    exact h2 pins s1 σ' H' D I' q
  | ret v => exact q
  | brk => exact q
  | cont => exact q
theorem pss_one (h1 : PS X st t) : PSs X [st] t := by
  intro pins s σ H D I h
  refine wpAny_execs_cons (thn (h1 pins s σ H D I h) fun f s1 q => ?_)
  cases f with
  | next => exact wpAny_execs_nil q
  | ret v => exact q
  | brk => exact q
  | cont => exact q
theorem Inv.quiet {pins : List (Addr × Obj)} {σ : St} {H : Hp} {s : Shared} (I : Inv X pins σ H s) : interactive X.env = false := by simp [interactive, I.ok.kind]
def tDrop (te : TE) : TS := fun D σ H => te σ H fun _ H1 => D.nx σ H1
theorem ps_expr (he : PE X e te) (hs : swapsWith e none pos.line X.env = pure false := by rfl) : PS X (.Expr e pos) (tDrop te) := by
  intro pins s σ H D I h
  exact wpAny_Expr_any (thn (he pins s σ H _ I h) fun v s1 ⟨x, H1, I1, r1, q1⟩ => ⟨σ, H1, I1, q1⟩) I.quiet hs
def tRet (te : TE) : TS := fun D σ H => te σ H D.rt
theorem ps_ret (he : PE X e te) : PS X (.Return (some e) pos) (tRet te) := by
  intro pins s σ H D I h
  exact wpAny_Return_some (thn (he pins s σ H _ I h) fun v s1 ⟨x, H1, I1, r1, q1⟩ => ⟨x, σ, H1, I1, r1, q1⟩)
def tIfS (c : TT) (t u : TS) : TS := fun D σ H => c σ H fun b H1 => if b = true then t D σ H1 else u D σ H1
theorem ps_if {c : Expr} {a b : List Stmt} {tc : TT} (hc : PT X c tc) (ha : PSs X a t) (hb : PSs X b u) : PS X (.If c a b pos) (tIfS tc t u) := by
  intro pins s σ H D I h
  refine wpAny_If (thn (hc pins s σ H _ I h) fun d s1 ⟨H1, I1, q1⟩ => ?_)
  cases d with
  | true => exact ha pins s1 σ H1 D I1 q1
  | false => exact hb pins s1 σ H1 D I1 q1
end
abbrev TG := V → St → Hp → (St → Hp → Prop) → Prop
abbrev TGs := List V → St → Hp → (St → Hp → Prop) → Prop
def PG (X : Cx) (target : Expr) (t : TG) : Prop :=
  ∀ (pins : List (Addr × Obj)) (s : Shared) (σ : St) (H : Hp) (v : V) (u : Value) (Q : St → Hp → Prop), Inv X pins σ H s → RelV v u → t v σ H Q →
    wpAny (model X.prog X.w) X.A (assign target X.env u) (fun _ s' => ∃ σ' H', Inv X pins σ' H' s' ∧ Q σ' H') X.xe s
def PGs (X : Cx) (ts : List Expr) (t : TGs) : Prop :=
  ∀ (pins : List (Addr × Obj)) (s : Shared) (σ : St) (H : Hp) (vs : List V) (us : List Value) (Q : St → Hp → Prop), Inv X pins σ H s → Vals vs us → t vs σ H Q →
    wpAny (model X.prog X.w) X.A (assignInOrder ((assignEach ts X.env).map (·.2)) us) (fun _ s' => ∃ σ' H', Inv X pins σ' H' s' ∧ Q σ' H') X.xe s
abbrev TSet := V → V → V → Hp → (Hp → Prop) → Prop
def PSet (X : Cx) (t : TSet) : Prop :=
  ∀ (pins : List (Addr × Obj)) (s : Shared) (σ : St) (H : Hp) (o i v : V) (ov iv u : Value) (Q : Hp → Prop), Inv X pins σ H s → RelV o ov → RelV i iv → RelV v u → t o i v H Q →
    wpAny (model X.prog X.w) X.A (setItem ov iv u) (fun _ s' => ∃ H', Inv X pins σ H' s' ∧ Q H') X.xe s
abbrev TIp := V → V → Hp → VK → Prop
def PIp (X : Cx) (op : Operator) (t : TIp) : Prop :=
  ∀ (pins : List (Addr × Obj)) (s : Shared) (σ : St) (H : Hp) (x y : V) (v u : Value) (Q : VK), Inv X pins σ H s → RelV x v → RelV y u → t x y H Q →
    wpAny (model X.prog X.w) X.A (inplaceOp op v u) (EP X pins σ Q) X.xe s
section
variable {X : Cx} {pos : Pos}
def gName (i : Nat) : TG := fun v σ H Q => Q (σ.set i (some v)) H
theorem pg_name {i : Nat} {x : Str} (hN : X.N.Nodup) (hi : X.N[i]? = some x) (hx : Loc X.env.scope x) (hf : X.fn x = true ∨ X.env.scope.names.lookup x = some .local := by first | exact .inl rfl | exact .inr rfl | assumption) : PG X (.Name x pos) (gName i) := by
  intro pins s σ H v u Q I r h
  exact wpAny_assign_Name (store_ok I hN hi hx r (fun s' I' => ⟨_, H, I', h⟩) hf)
def gNil : TGs := fun vs σ H Q => vs = [] ∧ Q σ H
def gCons (t : TG) (u : TGs) : TGs := fun vs σ H Q => ∃ v r, vs = v :: r ∧ t v σ H fun σ' H' => u r σ' H' Q
theorem pgs_nil : PGs X [] gNil := by
  intro pins s σ H vs us Q I r h
  obtain ⟨e, h⟩ := h
  subst e
  cases r
  exact assignInOrder_nil ⟨σ, H, I, h⟩
theorem pgs_cons {e : Expr} {es : List Expr} {t : TG} {u : TGs} (h1 : PG X e t) (h2 : PGs X es u)
    (hs : (assignEach (e :: es) X.env).map (·.2) = assign e X.env :: (assignEach es X.env).map (·.2) := by rfl) : PGs X (e :: es) (gCons t u) := by
  intro pins s σ H vs us Q I r h
  obtain ⟨v, vr, e1, h⟩ := h
  subst e1
  cases r with
  | cons r rr =>
    rw [hs]
    refine assignInOrder_cons (thn (h1 pins s σ H _ _ _ I r h) fun _ s1 ⟨σ1, H1, I1, q1⟩ => ?_)
    exact h2 pins s1 σ1 H1 _ _ Q I1 rr q1
def gTup (K : PySem.W.Frag) (n : Nat) (t : TGs) : TG := fun v σ H Q => ∃ a xs, v = .ref a ∧ SqT K H a xs ∧ xs.length = n ∧ t xs σ H Q
theorem pg_tup {es : List Expr} {k : Nat} {t : TGs} {n : Nat} (hc : X.calm = true) (h : PGs X es t)
    (hn : (assignEach es X.env).length = n := by rfl) (hst : (assignEach es X.env).findIdx? (·.1) = none := by rfl) : PG X (.Tuple es k pos) (gTup X.K n t) := by
  intro pins s σ H v u Q I r hw
  obtain ⟨a, xs, e1, hq, hl, hw⟩ := hw
  subst e1
  cases r
  obtain ⟨its, rv, ht, hz⟩ := I.tuple hq
  refine assign_Tuple_tuple (I.ok.hd hc) ht (by simp [hn, ← hl, rv.length]) hst fun h' hx => ?_
  have I1 : Inv X pins σ H { s with heap := h' } := I.kept (t' := s.toks) fun b o e => hx b o (Nat.ne_of_lt (Heap.lt_size e)) e
  exact h pins _ σ H xs _ Q I1 (by simpa using rv) hw
def gSub (to ti : TE) (t : TSet) : TG := fun v σ H Q => to σ H fun o H1 => ti σ H1 fun i H2 => t o i v H2 fun H3 => Q σ H3
theorem pg_sub {o i : Expr} {to ti : TE} {t : TSet} (ho : PE X o to) (hi : PE X i ti) (hs : PSet X t)
    (ha : ∀ v, assign (.Subscript o i pos) X.env v = (do
      let ov ← holding [v] (eval o X.env)
      let iv ← holding [v, ov] (eval i X.env)
      standAt pos
      holding [v, ov, iv] (setItem ov iv v)
      release [v, ov, iv] []) := by intro _; rfl) : PG X (.Subscript o i pos) (gSub to ti t) := by
  intro pins s σ H v u Q I r h
  rw [ha]
  refine wpAny_bind (wpAny_holding (thn (ho pins s σ H _ I h) fun ov s1 ⟨x, H1, I1, r1, q1⟩ => ?_))
  refine wpAny_bind (wpAny_holding (thn (hi pins s1 σ H1 _ I1 q1) fun iv s2 ⟨y, H2, I2, r2, q2⟩ => ?_))
  refine wpAny_bind (wpAny_standAt (wpAny_bind (wpAny_holding (thn (hs pins s2 σ H2 x y v ov iv u _ I2 r1 r2 r q2) fun _ s3 ⟨H3, I3, q3⟩ => ?_))))
  exact wpAny_release ⟨σ, H3, I3, q3⟩
def tAsg (te : TE) (g : TG) : TS := fun D σ H => te σ H fun x H1 => g x σ H1 D.nx
theorem ps_asg {tg e : Expr} {te : TE} {g : TG} (he : PE X e te) (hg : PG X tg g) (hs : swapsWithSole [tg] e pos.line X.env = pure false := by rfl) (hw : swappedStores [tg] e X.env = pure none := by rfl)
    (h1 : (assignEach [tg] X.env).map (·.2) = [assign tg X.env] := by rfl) : PS X (.Assign [tg] e pos) (tAsg te g) := by
  intro pins s σ H D I h
  refine wpAny_Assign_stores (thn (he pins s σ H _ I h) fun v s1 ⟨x, H1, I1, r1, q1⟩ => ?_) hs hw
  rw [h1]
  exact thn (hg pins s1 σ H1 x v _ I1 r1 q1) fun _ s2 q => q
theorem ps_set {i : Nat} {x : Str} {e : Expr} {te : TE} {pos' : Pos} (hN : X.N.Nodup) (hi : X.N[i]? = some x) (hx : Loc X.env.scope x) (he : PE X e te) (hs : swapsWith e (some (.Name x pos')) pos.line X.env = pure false := by rfl) (hf : X.fn x = true ∨ X.env.scope.names.lookup x = some .local := by first | exact .inl rfl | exact .inr rfl | assumption) :
    PS X (.Assign [.Name x pos'] e pos) (tAsg te (gName i)) := by
  intro pins s σ H D I h
  refine wpAny_Assign_Name (thn (he pins s σ H _ I h) fun v s1 ⟨y, H1, I1, r1, q1⟩ => ?_) hs
  exact store_ok I1 hN hi hx r1 (fun s2 I2 => ⟨_, H1, I2, q1⟩) hf
def tAug (i : Nat) (te : TE) (ti : TIp) : TS := fun D σ H => ∃ x, σ[i]? = some (some x) ∧ te σ H fun y H1 => ti x y H1 fun z H2 => D.nx (σ.set i (some z)) H2
theorem ps_aug {i : Nat} {x : Str} {e : Expr} {te : TE} {op : Operator} {ti : TIp} {pos' : Pos} (hN : X.N.Nodup) (hi : X.N[i]? = some x) (hx : Loc X.env.scope x) (he : PE X e te) (ho : PIp X op ti) (hf : X.fn x = true ∨ X.env.scope.names.lookup x = some .local := by first | exact .inl rfl | exact .inr rfl | assumption) :
    PS X (.AugAssign (.Name x pos') op e pos) (tAug i te ti) := by
  intro pins s σ H D I h
  obtain ⟨v, e1, h⟩ := h
  obtain ⟨m, hn, hl⟩ := I.loc
  have vis : Vis X.env.scope x := by rcases hx with k | k; exact .inl k; exact .inr (.inl k)
  obtain ⟨u, r, l⟩ := hl i x v hi e1 vis
  refine wpAny_AugAssign_Name ?_
  have go : wpAny (model X.prog X.w) X.A (eval e X.env) (fun w s₂ => wpAny (model X.prog X.w) X.A (inplaceOp op u w) (fun r s₃ => wpAny (model X.prog X.w) X.A (storeName X.env x r) (fun _ => SP X pins D .next) X.xe s₃) X.xe s₂) X.xe s := by
    refine thn (he pins s σ H _ I h) fun w s1 ⟨y, H1, I1, r1, q1⟩ => ?_
    refine thn (ho pins s1 σ H1 v y u w _ I1 r r1 q1) fun z s2 ⟨zv, H2, I2, r2, q2⟩ => ?_
    exact store_ok I2 hN hi hx r2 (fun s3 I3 => ⟨_, H2, I3, q2⟩) hf
  rcases l with ⟨hk, hm⟩ | ⟨hk, c, hc, hcell⟩
  · exact wpAny_loadName_local I.ok.kind hk hn hm go
  · rcases hk with hk | hk
    · exact wpAny_loadName_cell I.ok.kind hk hc hcell go
    · rcases hx with k | k
      · have : X.env.scope.names.lookup x = some .free := hk
        rw [k] at this; cases this
      · have : X.env.scope.names.lookup x = some .free := hk
        rw [k] at this; cases this
end
section
variable {X : Cx} {pos : Pos}
end
structure It where
  go : Nat → Hp → Prop
  yld : Nat → Hp → V → Hp → Prop
  stop : Nat → Hp → Prop
def FpOk (X : Cx) (pins : List (Addr × Obj)) (H : Hp) (b : Addr) : Prop :=
  H b = none ∧ b ≠ X.env.locals ∧ b ∉ X.fs ∧ (b ∈ X.ex ∨ X.s₀.heap.objs.size ≤ b) ∧ (∀ x c, X.env.cells.lookup x = some c → c ≠ b) ∧ ∀ p ∈ X.pn ++ pins, p.1 ≠ b
theorem Inv.fpOk {X : Cx} {pins : List (Addr × Obj)} {σ : St} {H H' : Hp} {s : Shared} {b : Addr} (I : Inv X pins σ H s) (hb : s.heap.objs.size ≤ b) (hn : H' b = none) : FpOk X pins H' b := by
  refine ⟨hn, Nat.ne_of_gt (Nat.lt_of_lt_of_le I.lt hb), I.nofs hb, .inr (Nat.le_trans I.sz hb), fun x c e z => ?_, fun p hp z => ?_⟩
  · obtain ⟨v, q⟩ := I.cell x c e
    exact absurd (Nat.lt_of_lt_of_le q.lt (by rw [z]; exact hb)) (Nat.lt_irrefl _)
  · exact absurd (Nat.lt_of_lt_of_le (Heap.lt_size (I.pin p hp).1) (by rw [z]; exact hb)) (Nat.lt_irrefl _)
structure Turn (P : Program) (w : World) (K : PySem.W.Frag) (tg : Expr) (J : It) (fp : List Addr) (it : Addr) (tn : Nat → Heap → Prop) : Prop where
  mem : it ∈ fp
  obj : ∀ i h, tn i h → ∀ b ∈ fp, ∃ o, h.get? b = some o ∧ ∀ v, o.data ≠ .cell v
  keep : ∀ i h h', tn i h → (∀ b ∈ fp, ∀ o, h.get? b = some o → h'.get? b = some o) → tn i h'
  item : ∀ (X : Cx), X.prog = P → X.w = w → X.K = K → X.calm = true → ∀ (i : Nat) (pins : List (Addr × Obj)) (s : Shared) (σ : St) (H : Hp) (E : Value → Shared → Prop), Inv X pins σ H s → (∀ b ∈ fp, FpOk X pins H b) → tn i s.heap → J.go i H →
    wpAny (model P w) X.A (pyNext (.ref it)) (fun r s1 => ∃ u, r = some u ∧
      wpAny (model P w) X.A (letOwnedTupleGo tg (.ref it) u) (fun _ s2 => ∃ x H', Inv X pins σ H' s2 ∧ RelV x u ∧ J.yld i H x H' ∧ tn (i + 1) s2.heap ∧ ∀ b ∈ fp, H' b = none) E s1) E s
  done : ∀ (X : Cx), X.prog = P → X.w = w → X.K = K → X.calm = true → ∀ (i : Nat) (pins : List (Addr × Obj)) (s : Shared) (σ : St) (H : Hp) (E : Value → Shared → Prop), Inv X pins σ H s → (∀ b ∈ fp, FpOk X pins H b) → tn i s.heap → J.stop i H →
    wpAny (model P w) X.A (pyNext (.ref it)) (fun r s1 => r = none ∧ Inv X pins σ H s1) E s
  self : ∀ (A : Around) (i : Nat) (s : Shared) (Q : Value → Shared → Prop) (E : Value → Shared → Prop), tn i s.heap → Q (.ref it) s → wpAny (model P w) A (pyIter (.ref it)) Q E s
abbrev TI := St → Hp → (It → Hp → Prop) → Prop
def PIE (X : Cx) (pins : List (Addr × Obj)) (σ : St) (tg : Expr) (R : It → Hp → Prop) (itv : Value) (s2 : Shared) : Prop :=
  ∃ (it : Addr) (fp : List Addr) (tn : Nat → Heap → Prop) (J : It) (H' : Hp), itv = .ref it ∧ Inv X pins σ H' s2 ∧ Turn X.prog X.w X.K tg J fp it tn ∧ tn 0 s2.heap ∧ (∀ b ∈ fp, FpOk X pins H' b) ∧ R J H'
def PI (X : Cx) (tg iter : Expr) (wi : TI) : Prop :=
  ∀ (pins : List (Addr × Obj)) (s : Shared) (σ : St) (H : Hp) (R : It → Hp → Prop), Inv X pins σ H s → wi σ H R →
    wpAny (model X.prog X.w) X.A (eval iter X.env) (fun v s1 => wpAny (model X.prog X.w) X.A (pyIter v) (PIE X pins σ tg R) X.xe s1) X.xe s
theorem go_of {M : Model} {A : Around} {E : Value → Shared → Prop} {s : Shared} {tg : Expr} {it : Addr} {u : Value} {o : Obj} {n : String} {vs : Array Value} {Q : Unit → Shared → Prop} (ho : s.heap.get? it = some o) (hc : o.cls = .type n) (hd : o.data = .fields vs)
    (hn : ["enumerate", "zip", "dict_itemiterator", "dict_reverseitemiterator", "odict_iterator", "itertools.zip_longest", "itertools.pairwise"].contains n = false) (hQ : Q () s) : wpAny M A (letOwnedTupleGo tg (.ref it) u) Q E s := by
  unfold letOwnedTupleGo
  cases tg <;> first
    | exact wpAny_pure hQ
    | (cases u <;> first
        | exact wpAny_pure hQ
        | (refine wpAny_bind (wpAny_load ho ?_)
           rw [hc, hd]
           show wpAny M A (if (["enumerate", "zip", "dict_itemiterator", "dict_reverseitemiterator", "odict_iterator", "itertools.zip_longest", "itertools.pairwise"].contains n && vs[0]? == some (rawInt _)) = true then _ else _) Q E s
           rw [if_neg (by intro h; rw [hn, Bool.false_and] at h; cases h)]
           exact wpAny_pure hQ))
def Itl (K : PySem.W.Frag) (a : Addr) : It :=
  ⟨fun i H => ∃ xs x, SqL K H a xs ∧ xs[i]? = some x, fun i H x H' => H' = H ∧ ∀ xs, SqL K H a xs → xs[i]? = some x, fun i H => ∃ xs, SqL K H a xs ∧ xs.length ≤ i⟩
def Itt (K : PySem.W.Frag) (a : Addr) : It :=
  ⟨fun i H => ∃ xs x, SqT K H a xs ∧ xs[i]? = some x, fun i H x H' => H' = H ∧ ∀ xs, SqT K H a xs → xs[i]? = some x, fun i H => ∃ xs, SqT K H a xs ∧ xs.length ≤ i⟩
def Itr (lo : Int) (n : Nat) : It := ⟨fun i _ => i < n, fun i H x H' => H' = H ∧ x = .int (lo + i), fun i _ => n ≤ i⟩
theorem turn_list {P : Program} {w : World} {K : PySem.W.Frag} {tg : Expr} (a it : Addr) : Turn P w K tg (Itl K a) [it] it (fun i h => h.IsListIter it a i) where
  mem := by simp
  obj := fun i h st b hb => by
    have e : b = it := by simpa using hb
    subst e
    obtain ⟨o, e, c, d⟩ := st
    exact ⟨o, e, fun v z => by rw [d] at z; cases z⟩
  keep := fun i h h' st k => st.at fun o e => k it (by simp) o e
  item := by
    intro X hP hw hK hc i pins s σ H E I hf st hg
    subst hP hw hK
    obtain ⟨xs, x, hq, hx⟩ := hg
    obtain ⟨its, rv, p, hz⟩ := I.list hq
    obtain ⟨u, hu, ru⟩ := rv.get hx
    obtain ⟨f0, f1, f2, f3, f4, f5⟩ := hf it (by simp)
    refine wpAny_pyNext_list_item st p.isList (x := u) (by simpa using hu) fun h' st' sb => ?_
    have I1 : Inv X pins σ H { s with heap := h' } := I.turned (t' := s.toks) (fun b o hb e => (sb.2 b hb).trans e) f0 f1 f3 f4 f5
    obtain ⟨o, e, c, d⟩ := id st'
    exact ⟨u, rfl, go_of (s := { s with heap := h' }) e c d (by decide) ⟨x, H, I1, ru, ⟨rfl, fun ys hy => by rw [I.list_inj hy hq]; exact hx⟩, st', fun b hb => (hf b hb).1⟩⟩
  done := by
    intro X hP hw hK hc i pins s σ H E I hf st hg
    subst hP hw hK
    obtain ⟨xs, hq, hx⟩ := hg
    obtain ⟨its, rv, p, hz⟩ := I.list hq
    obtain ⟨f0, f1, f2, f3, f4, f5⟩ := hf it (by simp)
    have hl := rv.length
    exact wpAny_pyNext_list_end (I.ok.hd hc) st p.isList (by simp; lia) fun h' eb => ⟨rfl, I.turned (t' := s.toks) (fun b o hb e => eb b o hb e) f0 f1 f3 f4 f5⟩
  self := fun _ _ _ _ _ st h => wpAny_pyIter_listiter st h
theorem turn_tuple {P : Program} {w : World} {K : PySem.W.Frag} {tg : Expr} (a it : Addr) : Turn P w K tg (Itt K a) [it] it (fun i h => h.IsTupleIter it a i) where
  mem := by simp
  obj := fun i h st b hb => by
    have e : b = it := by simpa using hb
    subst e
    obtain ⟨o, e, c, d⟩ := st
    exact ⟨o, e, fun v z => by rw [d] at z; cases z⟩
  keep := fun i h h' st k => st.at fun o e => k it (by simp) o e
  item := by
    intro X hP hw hK hc i pins s σ H E I hf st hg
    subst hP hw hK
    obtain ⟨xs, x, hq, hx⟩ := hg
    obtain ⟨its, rv, p, hz⟩ := I.tuple hq
    obtain ⟨u, hu, ru⟩ := rv.get hx
    obtain ⟨f0, f1, f2, f3, f4, f5⟩ := hf it (by simp)
    refine wpAny_pyNext_tuple_item st (show s.heap.IsTuple a its.toArray from p) (x := u) (by simpa using hu) fun h' st' sb => ?_
    have I1 : Inv X pins σ H { s with heap := h' } := I.turned (t' := s.toks) (fun b o hb e => (sb.2 b hb).trans e) f0 f1 f3 f4 f5
    obtain ⟨o, e, c, d⟩ := id st'
    exact ⟨u, rfl, go_of (s := { s with heap := h' }) e c d (by decide) ⟨x, H, I1, ru, ⟨rfl, fun ys hy => by rw [I.tuple_inj hy hq]; exact hx⟩, st', fun b hb => (hf b hb).1⟩⟩
  done := by
    intro X hP hw hK hc i pins s σ H E I hf st hg
    subst hP hw hK
    obtain ⟨xs, hq, hx⟩ := hg
    obtain ⟨its, rv, p, hz⟩ := I.tuple hq
    obtain ⟨f0, f1, f2, f3, f4, f5⟩ := hf it (by simp)
    have hl := rv.length
    exact wpAny_pyNext_tuple_end (I.ok.hd hc) st (show s.heap.IsTuple a its.toArray from p) (by simp; lia) fun h' eb => ⟨rfl, I.turned (t' := s.toks) (fun b o hb e => eb b o hb e) f0 f1 f3 f4 f5⟩
  self := fun _ _ _ _ _ st h => wpAny_pyIter_tupleiter st h
theorem turn_range {P : Program} {w : World} {K : PySem.W.Frag} {tg : Expr} (it : Addr) (lo : Int) (n : Nat) : Turn P w K tg (Itr lo n) [it] it (fun i h => IsRangeIter h it (lo + (i : Nat) * 1) ((n : Int) - (i : Nat)) 1) where
  mem := by simp
  obj := fun i h st b hb => by
    have e : b = it := by simpa using hb
    subst e
    exact ⟨_, st, fun v z => by
      have z' : Data.fields _ = Data.cell v := z
      cases z'⟩
  keep := fun i h h' st k => k it (by simp) _ st
  item := by
    intro X hP hw hK hc i pins s σ H E I hf st hg
    subst hP hw hK
    obtain ⟨f0, f1, f2, f3, f4, f5⟩ := hf it (by simp)
    have W := Walks.range (prog := X.prog) (w := X.w) (I.ok.hd hc) it lo 1 n
    refine W.item i s _ _ hg st fun v h' tk hv st' kk => ?_
    obtain ⟨t, rfl⟩ := hv
    have I1 : Inv X pins σ H { s with heap := h', toks := tk } := I.turned (fun b o hb e => kk b o (by simpa using hb) e) f0 f1 f3 f4 f5
    refine ⟨_, rfl, go_of (s := { s with heap := h', toks := tk }) (n := "range_iterator") st' rfl rfl (by decide) ⟨.int (lo + i), H, I1, ⟨t, ?_⟩, ⟨rfl, rfl⟩, st', fun b hb => (hf b hb).1⟩⟩
    rw [Int.mul_one]
  done := by
    intro X hP hw hK hc i pins s σ H E I hf st hg
    subst hP hw hK
    obtain ⟨f0, f1, f2, f3, f4, f5⟩ := hf it (by simp)
    exact wpAny_pyNext_range_end (I.ok.hd hc) st (by have : n ≤ i := hg; lia) fun h' eb => ⟨rfl, I.turned (t' := s.toks) (fun b o hb e => eb b o hb e) f0 f1 f3 f4 f5⟩
  self := fun _ _ _ _ _ st h => wpAny_pyIter_rangeiter st h
end L2
namespace L2
open PySem PySem.Spec PyProof.Rows
section
variable {X : Cx} {tg : Expr}
def iList (K : PySem.W.Frag) (tl : TE) : TI := fun σ H R => tl σ H fun x H1 => ∃ a, x = .ref a ∧ (∃ xs, SqL K H1 a xs) ∧ R (Itl K a) H1
theorem pi_list {l : Expr} {tl : TE} (hl : PE X l tl) : PI X tg l (iList X.K tl) := by
  intro pins s σ H R I h
  refine thn (hl pins s σ H _ I h) fun v s1 ⟨x, H1, I1, r1, q1⟩ => ?_
  obtain ⟨a, e, ⟨xs, hq⟩, q⟩ := q1
  subst e
  cases r1
  obtain ⟨its, rv, p, hz⟩ := I1.list hq
  refine wpAny_pyIter_list p.isList ?_
  refine ⟨s1.heap.objs.size, [s1.heap.objs.size], _, _, H1, rfl, I1.kept (t' := s1.toks) fun b o e => Heap.get?_push_of_some _ e, turn_list a _, ⟨_, Heap.get?_push_size _ rfl, rfl, rfl⟩, fun b hb => ?_, q⟩
  have e : b = s1.heap.objs.size := by simpa using hb
  subst e
  exact I1.fpOk (Nat.le_refl _) (I1.hok.fresh (Nat.le_refl _))
theorem range_it {pins : List (Addr × Obj)} {σ : St} {H : Hp} {s : Shared} {R : It → Hp → Prop} {E : Value → Shared → Prop} {lo hi : Int} {t u v : Tok} {tk : Nat} (I : Inv X pins σ H s) (h1 : -(2 ^ 62) ≤ lo) (h2 : lo < 2 ^ 62) (h3 : -(2 ^ 62) ≤ hi) (h4 : hi < 2 ^ 62)
    (q : R (Itr lo (hi - lo).toNat) H) : wpAny (model X.prog X.w) X.A (pyIter (.ref s.heap.objs.size)) (PIE X pins σ tg R) E { s with heap := s.heap.push { cls := .type "range", data := .fields #[.int lo t, .int hi u, .int 1 v] }, toks := tk } := by
  refine wpAny_pyIter_range (IsRange.new ..) (small_one h1 h2 h3 h4) ?_
  have I1 : Inv X pins σ H { s with heap := s.heap.push { cls := .type "range", data := .fields #[.int lo t, .int hi u, .int 1 v] }, toks := tk } := I.kept fun b o e => Heap.get?_push_of_some _ e
  refine ⟨(s.heap.push { cls := .type "range", data := .fields #[.int lo t, .int hi u, .int 1 v] }).objs.size, [(s.heap.push { cls := .type "range", data := .fields #[.int lo t, .int hi u, .int 1 v] }).objs.size], _, _, H, rfl,
    I1.kept (t' := tk) fun b o e => Heap.get?_push_of_some _ e, turn_range _ lo (hi - lo).toNat, ?_, fun b hb => ?_, q⟩
  · have e1 : lo + ((0 : Nat) : Int) * 1 = lo := by simp
    have e2 : (((hi - lo).toNat : Nat) : Int) - ((0 : Nat) : Int) = Builtin.Range.rangeSize lo hi 1 := by rw [rangeSize_one]; split <;> lia
    show IsRangeIter _ _ (lo + ((0 : Nat) : Int) * 1) ((((hi - lo).toNat : Nat) : Int) - ((0 : Nat) : Int)) 1
    rw [e1, e2]
    exact Heap.get?_push_size _ rfl
  · have e : b = (s.heap.push { cls := .type "range", data := .fields #[.int lo t, .int hi u, .int 1 v] }).objs.size := by simpa using hb
    subst e
    exact I1.fpOk (Nat.le_refl _) (I1.hok.fresh (Nat.le_refl _))
def iRng1 (ta : TA) : TI := fun σ H R => ta σ H fun vs H1 => ∃ j : Int, vs = [.int j] ∧ -(2 ^ 62) ≤ j ∧ j < 2 ^ 62 ∧ R (Itr 0 j.toNat) H1
def iRng2 (ta : TA) : TI := fun σ H R => ta σ H fun vs H1 => ∃ i j : Int, vs = [.int i, .int j] ∧ (-(2 ^ 62) ≤ i ∧ i < 2 ^ 62 ∧ -(2 ^ 62) ≤ j ∧ j < 2 ^ 62) ∧ R (Itr i (j - i).toNat) H1
theorem pi_range1 {a : Expr} {ta : TA} {p pos : Pos} (hg : Gl X "range") (hm : X.mg "range" = none) (ha : PA X [a] ta) (hs : starEach [a] X.env = [(false, eval a X.env)] := by rfl) : PI X tg (.Call (.Name "range" p) [a] [] pos) (iRng1 ta) := by
  intro pins s σ H R I h
  refine Call_ (ld_blt I hg hm boot_range (PyProof.Rows.callWith_type1 (thn (ha pos pins s σ H _ I h) fun us s1 ⟨vs, H1, I1, r1, q1⟩ => ?_) hs rfl))
  obtain ⟨j, e, q1, q2, q⟩ := q1
  subst e
  cases r1 with
  | cons r rr =>
    cases rr
    obtain ⟨t, rfl⟩ := r
    exact call_range_1 (range_it I1 (by lia) (by lia) q1 q2 (by simpa using q))
theorem pi_range2 {a b : Expr} {ta : TA} {p pos : Pos} (hg : Gl X "range") (hm : X.mg "range" = none) (ha : PA X [a, b] ta) (hs : starEach [a, b] X.env = [(false, eval a X.env), (false, eval b X.env)] := by rfl) (hs2 : starEach [b] X.env = [(false, eval b X.env)] := by rfl) :
    PI X tg (.Call (.Name "range" p) [a, b] [] pos) (iRng2 ta) := by
  intro pins s σ H R I h
  refine Call_ (ld_blt I hg hm boot_range (PyProof.Rows.callWith_type1 (thn (ha pos pins s σ H _ I h) fun us s1 ⟨vs, H1, I1, r1, q1⟩ => ?_) (by rw [hs, hs2]) (by rw [hs2]; rfl)))
  obtain ⟨i, j, e, ⟨q1, q2, q3, q4⟩, q⟩ := q1
  subst e
  cases r1 with
  | cons r rr =>
    cases rr with
    | cons r' rr =>
      cases rr
      obtain ⟨t, rfl⟩ := r
      obtain ⟨t', rfl⟩ := r'
      exact call_range_2 (range_it I1 q1 q2 q3 q4 q)
def tFor (wi : TI) (g : TG) (tb : TS) : TS := fun D σ H => wi σ H fun J H1 => ∃ W : Nat → Nat → St → Hp → Prop, (∃ m, W 0 m σ H1) ∧ ∀ i m σ H, W i m σ H →
  (J.stop i H ∧ D.nx σ H) ∨ (J.go i H ∧ ∃ N : St → Hp → Prop, (∀ σ' H', N σ' H' → ∃ m', m' < m ∧ W (i + 1) m' σ' H') ∧ ∀ x H', J.yld i H x H' → g x σ H' fun σ2 H2 => tb { D with nx := N, ct := N, bk := D.nx } σ2 H2)
def pinsAt (fp : List Addr) (h : Heap) : List (Addr × Obj) := fp.filterMap fun b => (h.get? b).map fun o => (b, o)
theorem mem_pinsAt {fp : List Addr} {h : Heap} {b : Addr} {o : Obj} (hb : b ∈ fp) (e : h.get? b = some o) : (b, o) ∈ pinsAt fp h := List.mem_filterMap.mpr ⟨b, hb, by rw [e]; rfl⟩
theorem of_pinsAt {fp : List Addr} {h : Heap} {p : Addr × Obj} (hp : p ∈ pinsAt fp h) : p.1 ∈ fp ∧ h.get? p.1 = some p.2 := by
  obtain ⟨b, hb, e⟩ := List.mem_filterMap.mp hp
  cases q : h.get? b with
  | none => rw [q] at e; cases e
  | some o =>
    rw [q] at e
    have e' : (b, o) = p := Option.some.inj e
    subst e'
    exact ⟨hb, q⟩
theorem Inv.pinned {pins : List (Addr × Obj)} {σ : St} {H : Hp} {s : Shared} {fp : List Addr} (I : Inv X pins σ H s) (hf : ∀ b ∈ fp, FpOk X pins H b) (ho : ∀ b ∈ fp, ∃ o, s.heap.get? b = some o ∧ ∀ v, o.data ≠ .cell v) : Inv X (pins ++ pinsAt fp s.heap) σ H s :=
  I.pins_of fun p hp => (List.mem_append.mp hp).elim (fun z => I.pin p (List.mem_append_right _ z)) fun z => by
    obtain ⟨hb, e⟩ := of_pinsAt z
    obtain ⟨f0, f1, f2, _⟩ := hf p.1 hb
    obtain ⟨o, e', d⟩ := ho p.1 hb
    rw [e] at e'; cases e'
    exact ⟨e, f0, f1, f2, d⟩
theorem Inv.unpinned {pins pl : List (Addr × Obj)} {σ : St} {H : Hp} {s : Shared} (I : Inv X (pins ++ pl) σ H s) : Inv X pins σ H s := I.pins_of fun p hp => I.pin p (List.mem_append_right _ (List.mem_append_left _ hp))
theorem ps_for {iter : Expr} {body : List Stmt} {wi : TI} {g : TG} {tb : TS} {pos : Pos} (hp : PassesOwn (model X.prog X.w) X.A X.env X.xe) (hc : X.calm = true) (hi : PI X tg iter wi) (hg : PG X tg g) (hb : PSs X body tb)
    (hs : ∀ x, foldedSetIterable iter X.env x = pure x := by intro _; rfl) : PS X (.For tg iter body [] pos) (tFor wi g tb) := by
  intro pins s σ H D I h
  refine wpAny_For (thn (hi pins s σ H _ I h) fun v s1 h1 => thn h1 fun itv s2 h2 => ?_) hs
  obtain ⟨it, fp, tn, J, H2, e, I2, T, st2, f2, W, ⟨m0, w0⟩, turn⟩ := h2
  subst e
  have stat : ∀ {H' : Hp}, (∀ b ∈ fp, H' b = none) → ∀ b ∈ fp, FpOk X pins H' b := fun hn b hb => ⟨hn b hb, (f2 b hb).2⟩
  refine codeAny_forLoop_any (fun n s' => ∃ i σ' H', Inv X pins σ' H' s' ∧ tn i s'.heap ∧ (∀ b ∈ fp, H' b = none) ∧ W i n σ' H') ?_ m0 ⟨0, σ, H2, I2, st2, fun b hb => (f2 b hb).1, w0⟩
  rintro n s3 ⟨i, σ3, H3, I3, st3, fr3, w3⟩
  rcases turn i n σ3 H3 w3 with ⟨stop, qn⟩ | ⟨go, N, hN, step⟩
  · refine wpAny_passesOwn hp (thn (T.done X rfl rfl rfl hc i pins s3 σ3 H3 X.xe I3 (stat fr3) st3 stop) fun r s4 ⟨hr, I4⟩ => ?_)
    subst hr
    exact wpAny_execs_nil ⟨σ3, H3, I4, qn⟩
  · refine wpAny_passesOwn hp (thn (T.item X rfl rfl rfl hc i pins s3 σ3 H3 X.xe I3 (stat fr3) st3 go) fun r s4 ⟨u, hr, h4⟩ => ?_)
    subst hr
    refine wpAny_passesOwn hp (thn h4 fun _ s5 ⟨x, H5, I5, r5, y5, st5, fr5⟩ => ?_)
    have I5' := I5.pinned (stat fr5) (T.obj _ _ st5)
    refine wpAny_passesOwn hp (thn (hg _ s5 σ3 H5 x u _ I5' r5 (step x H5 y5)) fun _ s6 ⟨σ6, H6, I6, q6⟩ => ?_)
    refine wpAny_passesOwn hp (thn (hb _ s6 σ6 H6 _ I6 q6) fun f s7 q7 => ?_)
    have again : ∀ {σ7 : St} {H7 : Hp}, Inv X (pins ++ pinsAt fp s5.heap) σ7 H7 s7 → N σ7 H7 → ∃ m, m < n ∧ ∃ i σ' H', Inv X pins σ' H' s7 ∧ tn i s7.heap ∧ (∀ b ∈ fp, H' b = none) ∧ W i m σ' H' := fun {σ7 H7} I7 n7 => by
      obtain ⟨m', hm, w7⟩ := hN σ7 H7 n7
      refine ⟨m', hm, i + 1, σ7, H7, I7.unpinned, T.keep _ _ _ st5 fun b hb o e => (I7.pin (b, o) (List.mem_append_right _ (List.mem_append_right _ (mem_pinsAt hb e)))).1, fun b hb => ?_, w7⟩
      obtain ⟨o, e, d⟩ := T.obj _ _ st5 b hb
      exact (I7.pin (b, o) (List.mem_append_right _ (List.mem_append_right _ (mem_pinsAt hb e)))).2.1
    cases f with
    | next => obtain ⟨σ7, H7, I7, n7⟩ := q7; exact again I7 n7
    | cont => obtain ⟨σ7, H7, I7, n7⟩ := q7; exact again I7 n7
    | brk => obtain ⟨σ7, H7, I7, q7⟩ := q7; exact ⟨σ7, H7, I7.unpinned, q7⟩
    | ret v => obtain ⟨x7, σ7, H7, I7, r7, q7⟩ := q7; exact ⟨x7, σ7, H7, I7.unpinned, r7, q7⟩
end
theorem for_list {K : PySem.W.Frag} {a : Addr} {xs : List V} {g : TG} {tb : TS} {D : Ends} {σ : St} {H : Hp} (Pv : Nat → St → Hp → Prop) (h0 : Pv 0 σ H) (hl : ∀ i σ H, i ≤ xs.length → Pv i σ H → SqL K H a xs)
    (hs : ∀ i x σ H, xs[i]? = some x → Pv i σ H → g x σ H fun σ2 H2 => tb { D with nx := Pv (i + 1), ct := Pv (i + 1), bk := D.nx } σ2 H2) (hd : ∀ σ H, Pv xs.length σ H → D.nx σ H) :
    ∃ W : Nat → Nat → St → Hp → Prop, (∃ m, W 0 m σ H) ∧ ∀ i m σ H, W i m σ H →
      ((Itl K a).stop i H ∧ D.nx σ H) ∨ ((Itl K a).go i H ∧ ∃ N : St → Hp → Prop, (∀ σ' H', N σ' H' → ∃ m', m' < m ∧ W (i + 1) m' σ' H') ∧ ∀ x H', (Itl K a).yld i H x H' → g x σ H' fun σ2 H2 => tb { D with nx := N, ct := N, bk := D.nx } σ2 H2) := by
  refine ⟨fun i m σ H => m = xs.length - i ∧ i ≤ xs.length ∧ Pv i σ H, ⟨xs.length, by simp, Nat.zero_le _, h0⟩, ?_⟩
  rintro i m σ H ⟨rfl, hi, p⟩
  have q := hl i σ H hi p
  by_cases hlt : i < xs.length
  · refine .inr ⟨⟨xs, xs[i], q, by simp [hlt]⟩, Pv (i + 1), fun σ' H' p' => ⟨xs.length - (i + 1), by lia, rfl, hlt, p'⟩, fun x H' y => ?_⟩
    obtain ⟨e, y⟩ := y
    subst e
    exact hs i x σ _ (y xs q) p
  · have e : i = xs.length := by lia
    subst e
    exact .inl ⟨⟨xs, q, Nat.le_refl _⟩, hd σ H p⟩
theorem for_range {lo : Int} {n : Nat} {g : TG} {tb : TS} {D : Ends} {σ : St} {H : Hp} (Pv : Nat → St → Hp → Prop) (h0 : Pv 0 σ H)
    (hs : ∀ i σ H, i < n → Pv i σ H → g (.int (lo + i)) σ H fun σ2 H2 => tb { D with nx := Pv (i + 1), ct := Pv (i + 1), bk := D.nx } σ2 H2) (hd : ∀ σ H, Pv n σ H → D.nx σ H) :
    ∃ W : Nat → Nat → St → Hp → Prop, (∃ m, W 0 m σ H) ∧ ∀ i m σ H, W i m σ H →
      ((Itr lo n).stop i H ∧ D.nx σ H) ∨ ((Itr lo n).go i H ∧ ∃ N : St → Hp → Prop, (∀ σ' H', N σ' H' → ∃ m', m' < m ∧ W (i + 1) m' σ' H') ∧ ∀ x H', (Itr lo n).yld i H x H' → g x σ H' fun σ2 H2 => tb { D with nx := N, ct := N, bk := D.nx } σ2 H2) := by
  refine ⟨fun i m σ H => m = n - i ∧ i ≤ n ∧ Pv i σ H, ⟨n, by simp, Nat.zero_le _, h0⟩, ?_⟩
  rintro i m σ H ⟨rfl, hi, p⟩
  by_cases hlt : i < n
  · refine .inr ⟨hlt, Pv (i + 1), fun σ' H' p' => ⟨n - (i + 1), by lia, rfl, hlt, p'⟩, fun x H' y => ?_⟩
    obtain ⟨e, y⟩ := y
    subst e y
    exact hs i σ _ hlt p
  · have e : i = n := by lia
    subst e
    exact .inl ⟨Nat.le_refl _, hd σ H p⟩
end L2
namespace L2
open PySem PySem.Spec PyProof.Rows
abbrev R2 := V → V → Hp → VK → Prop
def OpR (X : Cx) (f : Value → Value → Sem Value) (r : R2) : Prop :=
  ∀ (pins : List (Addr × Obj)) (s : Shared) (σ : St) (H : Hp) (x y : V) (v u : Value) (Q : VK), Inv X pins σ H s → RelV x v → RelV y u → r x y H Q →
    wpAny (model X.prog X.w) X.A (f v u) (EP X pins σ Q) X.xe s
def CallR (X : Cx) (f : Value) (r : List V → Hp → VK → Prop) : Prop :=
  ∀ (pins : List (Addr × Obj)) (s : Shared) (σ : St) (H : Hp) (xs : List V) (us : List Value) (Q : VK), Inv X pins σ H s → Vals xs us → r xs H Q →
    wpAny (model X.prog X.w) X.A (call f us) (EP X pins σ Q) X.xe s
def TruR (X : Cx) (r : V → Hp → (Bool → Hp → Prop) → Prop) : Prop :=
  ∀ (pins : List (Addr × Obj)) (s : Shared) (σ : St) (H : Hp) (x : V) (v : Value) (Q : Bool → Hp → Prop), Inv X pins σ H s → RelV x v → r x H Q →
    wpAny (model X.prog X.w) X.A (truthy v) (TP X pins σ Q) X.xe s
def tOp (r : R2) (ta tb : TE) : TE := fun σ H Q => ta σ H fun x H1 => tb σ H1 fun y H2 => r x y H2 Q
def rI (C : Int → Int → Prop) (g : Int → Int → V) : R2 := fun x y H Q => ∃ i j, x = .int i ∧ y = .int j ∧ C i j ∧ Q (g i j) H
def rI0 (g : Int → Int → V) : R2 := fun x y H Q => ∃ i j, x = .int i ∧ y = .int j ∧ Q (g i j) H
section
variable {X : Cx} {a b c : Expr} {ta tb tc : TE} {pos : Pos}
theorem binT (ha : PE X a ta) (hb : PE X b tb) {pins : List (Addr × Obj)} {s : Shared} {σ : St} {H : Hp} {R : V → V → Hp → Prop} (I : Inv X pins σ H s)
    (h : ta σ H fun x H1 => tb σ H1 fun y H2 => R x y H2) {Q : Value → Shared → Prop} {f : Value → Value → Sem Value}
    (hf : ∀ v u s2 x y H2, Inv X pins σ H2 s2 → RelV x v → RelV y u → R x y H2 → wpAny (model X.prog X.w) X.A (f v u) Q X.xe s2) :
    wpAny (model X.prog X.w) X.A (eval a X.env) (fun v s₁ => wpAny (model X.prog X.w) X.A (eval b X.env) (fun u s₂ => wpAny (model X.prog X.w) X.A (f v u) Q X.xe s₂) X.xe s₁) X.xe s := by
  refine thn (ha pins s σ H _ I h) fun v s1 ⟨x, H1, I1, r1, q1⟩ => ?_
  refine thn (hb pins s1 σ H1 _ I1 q1) fun u s2 ⟨y, H2, I2, r2, q2⟩ => ?_
  exact hf v u s2 x y H2 I2 r1 r2 q2
theorem pe_op {op : Operator} {r : R2} (ho : OpR X (binaryOp op) r) (ha : PE X a ta) (hb : PE X b tb) : PE X (.BinOp a op b pos) (tOp r ta tb) := by
  intro pins s σ H Q I h
  exact wpAny_BinOp (binT ha hb I h fun v u s2 x y H2 I2 rx ry q => ho pins s2 σ H2 x y v u Q I2 rx ry q)
theorem opI {f : Value → Value → Sem Value} {C : Int → Int → Prop} {g : Int → Int → Int}
    (rule : ∀ (i j : Int) (t u : Tok) (s : Shared) (Q : Value → Shared → Prop) (E : Value → Shared → Prop), C i j → Q (.int (g i j) s.toks) { s with toks := s.toks + 1 } → wpAny (model X.prog X.w) X.A (f (.int i t) (.int j u)) Q E s) :
    OpR X f (rI C fun i j => .int (g i j)) := by
  intro pins s σ H x y v u Q I rx ry h
  obtain ⟨i, j, rfl, rfl, hc, q⟩ := h
  obtain ⟨t, rfl⟩ := rx
  obtain ⟨t', rfl⟩ := ry
  exact rule i j t t' s _ _ hc ⟨.int (g i j), H, I.tok _, ⟨_, rfl⟩, q⟩
theorem opI0 {f : Value → Value → Sem Value} {g : Int → Int → Int}
    (rule : ∀ (i j : Int) (t u : Tok) (s : Shared) (Q : Value → Shared → Prop) (E : Value → Shared → Prop), Q (.int (g i j) s.toks) { s with toks := s.toks + 1 } → wpAny (model X.prog X.w) X.A (f (.int i t) (.int j u)) Q E s) :
    OpR X f (rI0 fun i j => .int (g i j)) := by
  intro pins s σ H x y v u Q I rx ry h
  obtain ⟨i, j, rfl, rfl, q⟩ := h
  obtain ⟨t, rfl⟩ := rx
  obtain ⟨t', rfl⟩ := ry
  exact rule i j t t' s _ _ ⟨.int (g i j), H, I.tok _, ⟨_, rfl⟩, q⟩
theorem opB0 {f : Value → Value → Sem Value} {g : Int → Int → Bool}
    (rule : ∀ (i j : Int) (t u : Tok) (s : Shared) (Q : Value → Shared → Prop) (E : Value → Shared → Prop), Q (.bool (g i j)) s → wpAny (model X.prog X.w) X.A (f (.int i t) (.int j u)) Q E s) :
    OpR X f (rI0 fun i j => .bl (g i j)) := by
  intro pins s σ H x y v u Q I rx ry h
  obtain ⟨i, j, rfl, rfl, q⟩ := h
  obtain ⟨t, rfl⟩ := rx
  obtain ⟨t', rfl⟩ := ry
  exact rule i j t t' s _ _ ⟨.bl (g i j), H, I, rfl, q⟩
def CDiv (i j : Int) : Prop := 0 < j ∧ j < 1073741824
def CPow (i j : Int) : Prop := 0 ≤ j ∧ j ≤ 1000000 ∧ i.natAbs < 2 ^ 64
def CMul (i j : Int) : Prop := (-(2 ^ 64) < i ∧ i < 2 ^ 64) ∨ (-(2 ^ 64) < j ∧ j < 2 ^ 64)
theorem CMul.ok {i j : Int} (h : CMul i j) : IntMulOk i j := by
  rcases h with ⟨h1, h2⟩ | ⟨h1, h2⟩
  · exact .of_left (intBits_le_64 h1 h2)
  · exact .of_right (intBits_le_64 h1 h2)
theorem op_add : OpR X (binaryOp .Add) (rI0 fun i j => .int (i + j)) := opI0 fun _ _ _ _ _ _ _ q => add_int q
theorem op_mul : OpR X (binaryOp .Mult) (rI CMul fun i j => .int (i * j)) := opI fun _ _ _ _ _ _ _ hc q => mul_int q hc.ok
theorem op_fdiv : OpR X (binaryOp .FloorDiv) (rI CDiv fun i j => .int (i / j)) := opI fun i j _ _ _ _ _ hc q => by
  have h1 : (0 : Int) < j := hc.1
  have h2 : j < 1073741824 := hc.2
  exact floordiv_int (by lia) (by rw [Int.fdiv_eq_ediv_of_nonneg i (by lia)]; exact q) (.inl (PyProof.noPylong_small (by lia)))
theorem op_mod : OpR X (binaryOp .Mod) (rI (fun _ j => 0 < j) fun i j => .int (i % j)) := opI fun i j _ _ _ _ _ hc q => by
  have h1 : (0 : Int) < j := hc
  exact mod_int' (by lia) (by rw [Int.fmod_eq_emod_of_nonneg i (by lia)]; exact q)
theorem op_pow : OpR X (binaryOp .Pow) (rI CPow fun i j => .int (i ^ j.toNat)) := opI fun _ _ _ _ _ _ _ hc q => pow_int_small hc.1 hc.2.1 hc.2.2 q
theorem iop_add : OpR X (inplaceOp .Add) (rI0 fun i j => .int (i + j)) := opI0 fun _ _ _ _ _ _ _ q => iadd_int q
end
def scal : V → V → Bool
  | .non, .non => true | .non, .int _ => true | .int _, .non => true | .non, .bl _ => true | .bl _, .non => true | .non, .str _ => true | .str _, .non => true
  | .int _, .int _ => true | .bl _, .bl _ => true | .str _, .str _ => true | .byt _, .byt _ => true
  | .int _, .str _ => true | .str _, .int _ => true | .bl _, .str _ => true | .str _, .bl _ => true
  | _, _ => false
def rEq : R2 := fun x y H Q => scal x y = true ∧ Q (.bl (decide (x = y))) H
def rNe : R2 := fun x y H Q => scal x y = true ∧ Q (.bl (!decide (x = y))) H
theorem dec_int {i j : Int} : decide (V.int i = V.int j) = (i == j) := by
  rw [Bool.eq_iff_iff]
  simp
theorem dec_bl {i j : Bool} : decide (V.bl i = V.bl j) = (i == j) := by
  rw [Bool.eq_iff_iff]
  simp
theorem dec_str {i j : Str} : decide (V.str i = V.str j) = (i == j) := by
  rw [Bool.eq_iff_iff]
  simp
theorem dec_byt {i j : Array UInt8} : decide (V.byt i = V.byt j) = (i.toList == j.toList) := by
  rw [Bool.eq_iff_iff]
  cases i
  cases j
  simp
section
variable {X : Cx} {a b c : Expr} {ta tb tc : TE} {pos : Pos}
theorem fin_bl {pins : List (Addr × Obj)} {σ : St} {H : Hp} {s : Shared} {Q : VK} {k k' : Bool} (I : Inv X pins σ H s) (q : Q (.bl k) H) (e : k = k') : EP X pins σ Q (.bool k') s := by
  subst e
  exact ⟨.bl k, H, I, rfl, q⟩
theorem op_eq : OpR X (compareOp .Eq) rEq := by
  intro pins s σ H x y v u Q I rx ry h
  obtain ⟨hs, q⟩ := h
  cases x with
  | non =>
    cases rx
    cases y with
    | non => cases ry; exact PySem.EqNone.eq_none_none (fin_bl I q (by simp))
    | bl j => cases ry; exact PySem.EqNone.eq_none_bool (fin_bl I q (by simp))
    | int j => obtain ⟨t', rfl⟩ := ry; exact PySem.EqNone.eq_none_int (fin_bl I q (by simp))
    | str j => obtain ⟨t', rfl⟩ := ry; exact PySem.EqNone.eq_none_str (fin_bl I q (by simp))
    | _ => exact absurd (show false = true from hs) Bool.false_ne_true
  | bl i =>
    cases rx
    cases y with
    | non => cases ry; exact PySem.EqNone.eq_bool_none (fin_bl I q (by simp))
    | bl j => cases ry; exact eq_bool (fin_bl I q dec_bl)
    | str j => obtain ⟨t', rfl⟩ := ry; exact PySem.EqMixed.eq_bool_str (fin_bl I q (by simp))
    | _ => exact absurd (show false = true from hs) Bool.false_ne_true
  | int i =>
    obtain ⟨t, rfl⟩ := rx
    cases y with
    | non => cases ry; exact PySem.EqNone.eq_int_none (fin_bl I q (by simp))
    | int j => obtain ⟨t', rfl⟩ := ry; exact eq_int (fin_bl I q dec_int)
    | str j => obtain ⟨t', rfl⟩ := ry; exact PySem.EqMixed.eq_int_str (fin_bl I q (by simp))
    | _ => exact absurd (show false = true from hs) Bool.false_ne_true
  | str i =>
    obtain ⟨t, rfl⟩ := rx
    cases y with
    | non => cases ry; exact PySem.EqNone.eq_str_none (fin_bl I q (by simp))
    | bl j => cases ry; exact PySem.EqMixed.eq_str_bool (fin_bl I q (by simp))
    | int j => obtain ⟨t', rfl⟩ := ry; exact PySem.EqMixed.eq_str_int (fin_bl I q (by simp))
    | str j => obtain ⟨t', rfl⟩ := ry; exact eq_str (fin_bl I q dec_str)
    | _ => exact absurd (show false = true from hs) Bool.false_ne_true
  | byt i =>
    obtain ⟨t, rfl⟩ := rx
    cases y with
    | byt j => obtain ⟨t', rfl⟩ := ry; exact PySem.W.eq_bytes (fin_bl I q dec_byt)
    | _ => exact absurd (show false = true from hs) Bool.false_ne_true
  | _ => cases y <;> exact absurd (show false = true from hs) Bool.false_ne_true
theorem op_ne : OpR X (compareOp .NotEq) rNe := by
  intro pins s σ H x y v u Q I rx ry h
  obtain ⟨hs, q⟩ := h
  cases x with
  | non =>
    cases rx
    cases y with
    | non => cases ry; exact PySem.EqNone.ne_none_none (fin_bl I q (by simp))
    | bl j => cases ry; exact PySem.EqNone.ne_none_bool (fin_bl I q (by simp))
    | int j => obtain ⟨t', rfl⟩ := ry; exact PySem.EqNone.ne_none_int (fin_bl I q (by simp))
    | str j => obtain ⟨t', rfl⟩ := ry; exact PySem.EqNone.ne_none_str (fin_bl I q (by simp))
    | _ => exact absurd (show false = true from hs) Bool.false_ne_true
  | bl i =>
    cases rx
    cases y with
    | non => cases ry; exact PySem.EqNone.ne_bool_none (fin_bl I q (by simp))
    | bl j => cases ry; exact ne_bool (fin_bl I q (congrArg not dec_bl))
    | str j => obtain ⟨t', rfl⟩ := ry; exact PySem.EqMixed.ne_bool_str (fin_bl I q (by simp))
    | _ => exact absurd (show false = true from hs) Bool.false_ne_true
  | int i =>
    obtain ⟨t, rfl⟩ := rx
    cases y with
    | non => cases ry; exact PySem.EqNone.ne_int_none (fin_bl I q (by simp))
    | int j => obtain ⟨t', rfl⟩ := ry; exact ne_int (fin_bl I q (congrArg not dec_int))
    | str j => obtain ⟨t', rfl⟩ := ry; exact PySem.EqMixed.ne_int_str (fin_bl I q (by simp))
    | _ => exact absurd (show false = true from hs) Bool.false_ne_true
  | str i =>
    obtain ⟨t, rfl⟩ := rx
    cases y with
    | non => cases ry; exact PySem.EqNone.ne_str_none (fin_bl I q (by simp))
    | bl j => cases ry; exact PySem.EqMixed.ne_str_bool (fin_bl I q (by simp))
    | int j => obtain ⟨t', rfl⟩ := ry; exact PySem.EqMixed.ne_str_int (fin_bl I q (by simp))
    | str j => obtain ⟨t', rfl⟩ := ry; exact ne_str (fin_bl I q (congrArg not dec_str))
    | _ => exact absurd (show false = true from hs) Bool.false_ne_true
  | byt i =>
    obtain ⟨t, rfl⟩ := rx
    cases y with
    | byt j => obtain ⟨t', rfl⟩ := ry; exact PySem.W.ne_bytes (fin_bl I q (congrArg not dec_byt))
    | _ => exact absurd (show false = true from hs) Bool.false_ne_true
  | _ => cases y <;> exact absurd (show false = true from hs) Bool.false_ne_true
theorem op_lt : OpR X (compareOp .Lt) (rI0 fun i j => .bl (decide (i < j))) := opB0 fun _ _ _ _ _ _ _ q => lt_int q
theorem op_gt : OpR X (compareOp .Gt) (rI0 fun i j => .bl (decide (j < i))) := opB0 fun _ _ _ _ _ _ _ q => gt_int q
theorem op_in_str : OpR X (compareOp .In) (fun x y H Q => ∃ i j, x = .str i ∧ y = .str j ∧ Q (.bl (!(Builtin.Str.occurrences j i 0 j.length 1).isEmpty)) H) := by
  intro pins s σ H x y v u Q I rx ry h
  obtain ⟨i, j, rfl, rfl, q⟩ := h
  obtain ⟨t, rfl⟩ := rx
  obtain ⟨t', rfl⟩ := ry
  exact in_str (fin_bl I q rfl)
theorem OpR.or {f : Value → Value → Sem Value} {r r' : R2} (h : OpR X f r) (h' : OpR X f r') : OpR X f (fun x y H Q => r x y H Q ∨ r' x y H Q) := by
  intro pins s σ H x y v u Q I rx ry q
  rcases q with q | q
  · exact h pins s σ H x y v u Q I rx ry q
  · exact h' pins s σ H x y v u Q I rx ry q
theorem nomark (b : Expr) {op : CmpOp} (h : op ≠ .In := by decide) (h2 : op ≠ .NotIn := by decide) : behindInMarks op b = false := by
  have e1 : (op == CmpOp.In) = false := by cases op <;> first | rfl | exact absurd rfl h
  have e2 : (op == CmpOp.NotIn) = false := by cases op <;> first | rfl | exact absurd rfl h2
  cases b <;> simp [behindInMarks, e1, e2]
theorem pe_cmpR {op : CmpOp} {r : R2} (ho : OpR X (compareOp op) r) (ha : PE X a ta) (hb : PE X b tb) (hm : behindInMarks op b = false) : PE X (.Compare a [op] [b] pos) (tOp r ta tb) := by
  intro pins s σ H Q I h
  exact wpAny_Compare1 (binT ha hb I h fun v u s2 x y H2 I2 rx ry q => ho pins s2 σ H2 x y v u Q I2 rx ry q) hm
def tTest (t : TE) : TT := fun σ H Q => t σ H fun x H' => ∃ k, x = .bl k ∧ Q k H'
theorem pt_cmpR {op : CmpOp} {r : R2} (ho : OpR X (compareOp op) r) (ha : PE X a ta) (hb : PE X b tb) (hm : behindInMarks op b = false) : PT X (.Compare a [op] [b] pos) (tTest (tOp r ta tb)) := by
  intro pins s σ H Q I h
  refine wpAny_isTrue_Compare1 (thn (ha pins s σ H _ I h) fun v s1 ⟨x, H1, I1, r1, q1⟩ => thn (hb pins s1 σ H1 _ I1 q1) fun u s2 ⟨y, H2, I2, r2, q2⟩ =>
    thn (ho pins s2 σ H2 x y v u _ I2 r1 r2 q2) fun c s3 ⟨z, H3, I3, r3, k, e, q3⟩ => ?_) hm
  subst e
  cases r3
  exact wpAny_truthy_bool ⟨H3, I3, q3⟩
def TruV (K : PySem.W.Frag) (x : V) (H : Hp) (k : Bool) : Prop :=
  match x with
  | .non => k = false
  | .bl b => k = b
  | .int i => k = (i != 0)
  | .str y => y.length ≤ sizeLine ∧ k = ((y.length : Int) != 0)
  | .byt y => y.size ≤ sizeLine ∧ k = ((y.size : Int) != 0)
  | .ref p => (∃ xs, SqL K H p xs ∧ k = !xs.isEmpty) ∨ (∃ xs, SqT K H p xs ∧ k = !xs.isEmpty) ∨ ∃ kvs, H p = some (.dK kvs) ∧ k = !kvs.isEmpty
  | _ => False
theorem isEmpty_kv {κ : Type} {kvs : List (κ × V)} {vs : List (κ × Value)} (r : KV kvs vs) : (!vs.isEmpty) = !kvs.isEmpty := by
  cases r <;> rfl
theorem isEmpty_of {xs : List V} {its : List Value} (r : Vals xs its) : (!its.toArray.isEmpty) = !xs.isEmpty := by
  cases r <;> simp
theorem line63 : (sizeLine : Nat) < 2 ^ 63 := by rw [sizeLine_eq]; decide
theorem tru_ok : TruR X (fun x H Q => ∃ k, TruV X.K x H k ∧ Q k H) := by
  intro pins s σ H x v Q I rx h
  obtain ⟨k, e, q⟩ := h
  have hl := line63
  have hs : sizeLine = 16777216 := sizeLine_eq
  cases x with
  | non =>
    cases rx
    have e' : k = false := e
    subst e'
    exact truthy_none ⟨H, I, q⟩
  | bl b =>
    cases rx
    have e' : k = b := e
    subst e'
    exact wpAny_truthy_bool ⟨H, I, q⟩
  | int i =>
    obtain ⟨t, rfl⟩ := rx
    have e' : k = (i != 0) := e
    subst e'
    exact PySem.P.truthy_int ⟨H, I, q⟩
  | str y =>
    obtain ⟨t, rfl⟩ := rx
    obtain ⟨hy, e'⟩ : y.length ≤ sizeLine ∧ k = ((y.length : Int) != 0) := e
    subst e'
    exact PySem.P.truthy_str (by lia) ⟨H, I.tok _, q⟩
  | byt y =>
    obtain ⟨t, rfl⟩ := rx
    obtain ⟨hy, e'⟩ : y.size ≤ sizeLine ∧ k = ((y.size : Int) != 0) := e
    subst e'
    exact PySem.W.truthy_bytes (by lia) ⟨H, I.tok _, q⟩
  | ref p =>
    cases rx
    have e' : (∃ xs, SqL X.K H p xs ∧ k = !xs.isEmpty) ∨ (∃ xs, SqT X.K H p xs ∧ k = !xs.isEmpty) ∨ ∃ kvs, H p = some (.dK kvs) ∧ k = !kvs.isEmpty := e
    rcases e' with ⟨xs, hx, e'⟩ | ⟨xs, hx, e'⟩ | ⟨kvs, hx, e'⟩
    · subst e'
      obtain ⟨its, r, pl, hz⟩ := I.list hx
      have hlen := r.length
      exact wpAny_truthy_list pl.isList (by simp only [List.size_toArray]; lia) ⟨H, I.tok _, by rw [isEmpty_of r]; exact q⟩
    · subst e'
      obtain ⟨its, r, pl, hz⟩ := I.tuple hx
      have hlen := r.length
      exact truthy_tuple pl (by simp only [List.size_toArray]; lia) ⟨H, I.tok _, by rw [isEmpty_of r]; exact q⟩
    · subst e'
      obtain ⟨hz, hS, vs, r, m⟩ : kvs.length ≤ sizeLine ∧ (p == sysModules) = false ∧ ∃ vs, KV kvs vs ∧ s.heap.DictOf (mixKind X.prog X.w) p vs := I.hok p _ hx
      have hlen : kvs.length = vs.length := Paired.length r
      exact wpAny_truthy_dict hS m (by lia) ⟨H, I.tok _, by rw [isEmpty_kv r]; exact q⟩
  | _ => exact (show False from e).elim
theorem pt_truth (ha : PE X a ta) (he : ∀ whole, isTrue a X.env whole = (do let v ← whole; standAt a.pos; holding [v] (truthy v))) :
    PT X a (fun σ H Q => ta σ H fun x H' => ∃ k, TruV X.K x H' k ∧ Q k H') := by
  intro pins s σ H Q I h
  exact isTrue_plain (thn (ha pins s σ H _ I h) fun v s1 ⟨x, H1, I1, r1, q1⟩ => tru_ok pins s1 σ H1 x v Q I1 r1 q1) (he _)
theorem op_add_str : OpR X (binaryOp .Add) (fun x y H Q => ∃ i j, x = .str i ∧ y = .str j ∧ i.length + j.length ≤ sizeLine ∧ Q (.str (i ++ j)) H) := by
  intro pins s σ H x y v u Q I rx ry h
  obtain ⟨i, j, rfl, rfl, hz, q⟩ := h
  obtain ⟨t, rfl⟩ := rx
  obtain ⟨t', rfl⟩ := ry
  exact add_str (fun t' tk => ⟨.str (i ++ j), H, I.tok _, ⟨_, rfl⟩, q⟩) hz
theorem vals1 {x : V} {us : List Value} (r : Vals [x] us) : ∃ u, us = [u] ∧ RelV x u := by
  cases r with
  | cons r1 r2 => cases r2; exact ⟨_, rfl, r1⟩
theorem vals2 {x y : V} {us : List Value} (r : Vals [x, y] us) : ∃ u w', us = [u, w'] ∧ RelV x u ∧ RelV y w' := by
  cases r with
  | cons r1 r2 =>
    cases r2 with
    | cons r3 r4 => cases r4; exact ⟨_, _, rfl, r1, r3⟩
theorem call_max2 (hc : X.calm = true) : CallR X (.builtin "max") (fun xs H Q => ∃ i j, xs = [.int i, .int j] ∧ Q (.int (if j > i then j else i)) H) := by
  intro pins s σ H xs us Q I r h
  obtain ⟨i, j, rfl, q⟩ := h
  obtain ⟨u, w', rfl, ⟨t, rfl⟩, ⟨t', rfl⟩⟩ := vals2 r
  refine max_two_ints (I.ok.hd hc) fun h' tk k => ⟨_, H, I.kept k, ?_, q⟩
  by_cases hj : j > i
  · rw [if_pos hj, if_pos hj]; exact ⟨_, rfl⟩
  · rw [if_neg hj, if_neg hj]; exact ⟨_, rfl⟩
theorem call_min2 (hc : X.calm = true) : CallR X (.builtin "min") (fun xs H Q => ∃ i j, xs = [.int i, .int j] ∧ Q (.int (if j < i then j else i)) H) := by
  intro pins s σ H xs us Q I r h
  obtain ⟨i, j, rfl, q⟩ := h
  obtain ⟨u, w', rfl, ⟨t, rfl⟩, ⟨t', rfl⟩⟩ := vals2 r
  refine min_two_ints (I.ok.hd hc) fun h' tk k => ⟨_, H, I.kept k, ?_, q⟩
  by_cases hj : j < i
  · rw [if_pos hj, if_pos hj]; exact ⟨_, rfl⟩
  · rw [if_neg hj, if_neg hj]; exact ⟨_, rfl⟩
theorem call_int1 : CallR X (.type "int") (fun xs H Q => (∃ i, xs = [.int i] ∧ Q (.int i) H) ∨ ∃ k, xs = [.bl k] ∧ Q (.int (if k then 1 else 0)) H) := by
  intro pins s σ H xs us Q I r h
  rcases h with ⟨i, rfl, q⟩ | ⟨k, rfl, q⟩
  · obtain ⟨u, rfl, t, rfl⟩ := vals1 r
    exact call_int_int ⟨.int i, H, I, ⟨_, rfl⟩, q⟩
  · obtain ⟨u, rfl, r1⟩ := vals1 r
    cases r1
    exact call_int_bool ⟨.int (if k then 1 else 0), H, I.tok _, ⟨_, rfl⟩, q⟩
def LenV (K : PySem.W.Frag) (x : V) (H : Hp) (n : Nat) : Prop :=
  match x with
  | .str y => y.length ≤ sizeLine ∧ n = y.length
  | .byt y => y.size ≤ sizeLine ∧ n = y.size
  | .ref p => (∃ xs, SqL K H p xs ∧ n = xs.length) ∨ ∃ xs, SqT K H p xs ∧ n = xs.length
  | _ => False
theorem call_len : CallR X (.builtin "len") (fun xs H Q => ∃ x n, xs = [x] ∧ LenV X.K x H n ∧ Q (.int n) H) := by
  intro pins s σ H xs us Q I r h
  obtain ⟨x, n, rfl, e, q⟩ := h
  obtain ⟨u, rfl, rx⟩ := vals1 r
  have hl := line63
  have hs : sizeLine = 16777216 := sizeLine_eq
  cases x with
  | str y =>
    obtain ⟨t, rfl⟩ := rx
    obtain ⟨hy, e'⟩ : y.length ≤ sizeLine ∧ n = y.length := e
    subst e'
    exact len_str (by lia) ⟨.int _, H, I.tok _, ⟨_, rfl⟩, q⟩
  | byt y =>
    obtain ⟨t, rfl⟩ := rx
    obtain ⟨hy, e'⟩ : y.size ≤ sizeLine ∧ n = y.size := e
    subst e'
    exact PySem.W.len_bytes (by lia) ⟨.int _, H, I.tok _, ⟨_, rfl⟩, q⟩
  | ref p =>
    cases rx
    have e' : (∃ xs, SqL X.K H p xs ∧ n = xs.length) ∨ ∃ xs, SqT X.K H p xs ∧ n = xs.length := e
    rcases e' with ⟨xs, hx, e'⟩ | ⟨xs, hx, e'⟩
    · subst e'
      obtain ⟨its, r', pl, hz⟩ := I.list hx
      have hlen := r'.length
      exact Calls.call_len_list pl.isList (by simp only [List.size_toArray]; lia) ⟨.int xs.length, H, I.tok _, ⟨_, by simp only [List.size_toArray]; rw [hlen]⟩, q⟩
    · subst e'
      obtain ⟨its, r', pl, hz⟩ := I.tuple hx
      have hlen := r'.length
      exact len_tuple pl (by simp only [List.size_toArray]; lia) ⟨.int xs.length, H, I.tok _, ⟨_, by simp only [List.size_toArray]; rw [hlen]⟩, q⟩
  | _ => exact (show False from e).elim
end
end L2
namespace L2
open PySem PySem.Spec PyProof.Rows
structure ObjM (h : Heap) (x dx C : Addr) (mA : Str → Option Value) : Prop where
  obj : h.get? x = some (PySem.W.instObj C dx)
  ns : h.Ns1 dx mA
  ne : dx ≠ x
theorem lookIn_ns {h : Heap} {dx : Addr} {mA : Str → Option Value} (n : h.Ns1 dx mA) : ∃ od, h.get? dx = some od ∧ ∀ name, PySem.W.lookIn name od = some (mA name) := by
  obtain ⟨o, es, ep, ho, hd, hk, _, hm⟩ := n
  refine ⟨o, ho, fun name => ?_⟩
  have e := hm name
  unfold nsFind findBy at e
  rw [← Array.find?_toList] at e
  unfold PySem.W.lookIn
  rw [hd]
  dsimp only
  split
  · rename_i y q
    rw [q] at e
    exact congrArg some e
  · rename_i q
    rw [q] at e
    have a : es.toList.any (·.refKey) = false := by
      rw [List.any_eq_false]
      intro y hy
      obtain ⟨z, t, hkey⟩ := hk y (Array.mem_toList_iff.mp hy)
      simp [DictEntry.refKey, hkey]
    have a' : ¬ es.toList.any (·.refKey) = true := by rw [a]; exact Bool.false_ne_true
    rw [if_neg a']
    exact congrArg some e
theorem ObjM.look {h : Heap} {x dx C : Addr} {mA : Str → Option Value} (I : ObjM h x dx C mA) : ∃ od, PySem.W.InstAt h x (PySem.W.instObj C dx) C (some od) ∧ ∀ name, PySem.W.lookIn name od = some (mA name) :=
  let ⟨od, ho, hl⟩ := lookIn_ns I.ns
  ⟨od, ⟨I.obj, rfl, rfl, ho⟩, hl⟩
section
variable {prog : Program} {w : World} {A : Around} {E : Value → Shared → Prop} {s : Shared} {K : PySem.W.Frag} {x dx C f : Addr} {mA : Str → Option Value} {name : Str} {v : Value}
end
def putF (f : Str) (v : V) : List (Str × V) → List (Str × V)
  | [] => [(f, v)]
  | (g, x) :: r => if g = f then (g, v) :: r else (g, x) :: putF f v r
theorem lookup_putF (f g : Str) (v : V) : ∀ fs : List (Str × V), (putF f v fs).lookup g = if g = f then some v else fs.lookup g
  | [] => by
    show List.lookup g [(f, v)] = _
    by_cases h : g = f
    · have hb : (g == f) = true := beq_iff_eq.mpr h
      simp only [List.lookup, hb, if_pos h]
    · have hb : (g == f) = false := beq_eq_false_iff_ne.mpr h
      simp only [List.lookup, hb, if_neg h]
  | (k, x) :: r => by
    have ih := lookup_putF f g v r
    rw [show putF f v ((k, x) :: r) = (if k = f then (k, v) :: r else (k, x) :: putF f v r) from rfl]
    by_cases hk : k = f
    · rw [if_pos hk]
      by_cases h : g = k
      · have hb : (g == k) = true := beq_iff_eq.mpr h
        simp only [List.lookup, hb, if_pos (h.trans hk)]
      · have hb : (g == k) = false := beq_eq_false_iff_ne.mpr h
        simp only [List.lookup, hb, if_neg (fun e : g = f => h (e.trans hk.symm))]
    · rw [if_neg hk]
      by_cases h : g = k
      · have hb : (g == k) = true := beq_iff_eq.mpr h
        simp only [List.lookup, hb, if_neg (fun e : g = f => hk (h.symm.trans e))]
      · have hb : (g == k) = false := beq_eq_false_iff_ne.mpr h
        simp only [List.lookup, hb]
        exact ih
theorem keys_putF (f : Str) (v : V) : ∀ fs : List (Str × V), f ∈ (putF f v fs).map (·.1) ∧ ∀ g, g ∈ fs.map (·.1) → g ∈ (putF f v fs).map (·.1)
  | [] => ⟨by simp [putF], fun g h => by simp at h⟩
  | (k, x) :: r => by
    obtain ⟨i1, i2⟩ := keys_putF f v r
    rw [show putF f v ((k, x) :: r) = (if k = f then (k, v) :: r else (k, x) :: putF f v r) from rfl]
    by_cases hk : k = f
    · rw [if_pos hk]
      subst hk
      exact ⟨by simp, fun g h => by simpa using h⟩
    · rw [if_neg hk]
      refine ⟨?_, fun g h => ?_⟩
      · rw [List.map_cons]
        exact List.mem_cons_of_mem _ i1
      · rw [List.map_cons] at h ⊢
        rcases List.mem_cons.mp h with e | e
        · exact List.mem_cons.mpr (.inl e)
        · exact List.mem_cons_of_mem _ (i2 g e)
theorem RelO.some_of {v : V} {o : Option Value} (r : RelO (some v) o) : ∃ u, o = some u ∧ RelV v u := by
  cases o with
  | none => exact (show False from r).elim
  | some u => exact ⟨u, rfl, r⟩
theorem handed_of {v : V} {u : Value} (r : RelV v u) : PySem.W.handedIn u = true := by
  cases v with
  | non => cases (show u = Value.none from r); rfl
  | bl b => cases (show u = Value.bool b from r); rfl
  | int i => obtain ⟨t, e⟩ := (show ∃ t, u = Value.int i t from r); cases e; rfl
  | str x => obtain ⟨t, e⟩ := (show ∃ t, u = Value.str x t from r); cases e; rfl
  | byt b => obtain ⟨t, e⟩ := (show ∃ t, u = Value.bytes b t from r); cases e; rfl
  | flt b => obtain ⟨t, e⟩ := (show ∃ t, u = Value.float b t from r); cases e; rfl
  | ref a => cases (show u = Value.ref a from r); rfl
  | ty n => cases (show u = Value.type n from r); rfl
section
variable {P : Program} {w : World} {H H' : Hp} {h h' : Heap} {a C dx : Addr} {fs fs' : List (Str × V)}
theorem ins_get (hok : HOk P w H h) (e : H a = some (.ins C dx fs)) : ∃ mA, ObjM h a dx C mA ∧ (∀ f, RelO (fs.lookup f) (mA f)) ∧ PySem.Within mA (fs.map (·.1)) ∧ fs.length ≤ 1000 ∧ H dx = some (.own a) := by
  obtain ⟨d, z, ne, ob, mA, n, r, q⟩ := (show ObjOk P w H h a (.ins C dx fs) from hok a _ e)
  exact ⟨mA, ⟨ob, n, ne⟩, r, q, z, d⟩
end
structure Cls (K : PySem.W.Frag) (C : Addr) : Prop where
  pg : PySem.W.plainGet K C Str.empty = true
  hd : PySem.W.hasDictIn K C = true
  po : PySem.W.plainOver K C = true
  sa : PySem.W.findIn K (.ref C) "__setattr__" = some (some (.builtin "object.__setattr__"))
theorem Cls.get {K : PySem.W.Frag} {C : Addr} (c : Cls K C) (f : Str) : PySem.W.plainGet K C f = true := c.pg
section
variable {X : Cx} {pins : List (Addr × Obj)} {σ : St} {H : Hp} {s : Shared} {a C dx : Addr} {fs : List (Str × V)} {f : Str} {v : V} {A : Around} {E : Value → Shared → Prop}
theorem Inv.made (I : Inv X pins σ H s) : Inv X pins σ (upd (upd H s.heap.objs.size (.own (s.heap.objs.size + 1))) (s.heap.objs.size + 1) (.ins C s.heap.objs.size []))
    { s with heap := (s.heap.push PySem.W.emptyDict).push (PySem.W.instObj C s.heap.objs.size) } := by
  have e1 : (s.heap.push PySem.W.emptyDict).get? s.heap.objs.size = some PySem.W.emptyDict := Heap.get?_push_size s.heap rfl
  have e2 : ((s.heap.push PySem.W.emptyDict).push (PySem.W.instObj C s.heap.objs.size)).get? (s.heap.objs.size + 1) = some (PySem.W.instObj C s.heap.objs.size) := by
    have := Heap.get?_push_size (s.heap.push PySem.W.emptyDict) (o := PySem.W.instObj C s.heap.objs.size) rfl
    rwa [Heap.size_push] at this
  have e3 : (s.heap.push PySem.W.emptyDict).Ns s.heap.objs.size (fun _ => none) := ⟨PySem.W.emptyDict, #[], _, e1, rfl, (fun e he => absurd he (by simp)), fun _ => rfl⟩
  have I1 := I.laid (a := s.heap.objs.size) (o := .own (s.heap.objs.size + 1)) (h' := s.heap.push PySem.W.emptyDict) (t' := s.toks) (fun b u q => Heap.get?_push_of_some _ q) (Nat.le_refl _) ⟨_, e1⟩
  refine I1.laid (a := s.heap.objs.size + 1) (o := .ins C s.heap.objs.size []) (t' := s.toks) (fun b u q => Heap.get?_push_of_some _ q) (Nat.le_of_eq (Heap.size_push _ _)) ?_
  have ne : s.heap.objs.size ≠ s.heap.objs.size + 1 := Nat.ne_of_lt (Nat.lt_succ_self _)
  refine ⟨by rw [upd_ne ne, upd_same], Nat.zero_le _, ne, e2, fun _ => none, (Heap.Ns1.of_empty e3).at fun o q => Heap.get?_push_of_some _ q, fun _ => True.intro, fun y hy => absurd rfl hy⟩
theorem attr_of {prog : Program} {w : World} {env : Env} {e : Expr} {f : Str} {pos : Pos} {s : Shared} {Q : Value → Shared → Prop} (hb : attributeBase e f env (eval e env) = eval e env)
    (h : wpAny (model prog w) A (eval e env) (fun o s₁ => wpAny (model prog w) A (getAttr o f true) Q E s₁) E s) : wpAny (model prog w) A (eval (.Attribute e f pos) env) Q E s :=
  Attribute_any_ h (by rw [arm_eval_Attribute, hb])
end
section
variable {X : Cx} {o e value : Expr} {f : Str} {pos pos' tpos : Pos} {ta tv : TE}
end
section
variable {X : Cx} {pins : List (Addr × Obj)} {σ : St} {H : Hp} {s : Shared} {A : Around} {E : Value → Shared → Prop} {Q : Value → Shared → Prop} {c : Value} {b : Bool}
inductive TyOf (K : PySem.W.Frag) (H : Hp) : V → Value → Prop where
  | non : TyOf K H .non (.type "NoneType")
  | bl (x : Bool) : TyOf K H (.bl x) (.type "bool")
  | int (i : Int) : TyOf K H (.int i) (.type "int")
  | str (x : Str) : TyOf K H (.str x) (.type "str")
  | flt (x : UInt64) : TyOf K H (.flt x) (.type "float")
  | lst {a : Addr} {xs : List V} (e : H a = some (.lst xs)) : TyOf K H (.ref a) (.type "list")
  | frz {a : Addr} {o : Obj} {xs : List V} (e : H a = some (.frz o (.lst xs))) : TyOf K H (.ref a) (.type "list")
  | tup {a : Addr} {xs : List V} (e : H a = some (.tup xs)) : TyOf K H (.ref a) (.type "tuple")
  | dK {a : Addr} {kvs : List (Key × V)} (e : H a = some (.dK kvs)) : TyOf K H (.ref a) (.type "dict")
  | dT {a : Addr} {kvs : List (List Key × V)} (e : H a = some (.dT kvs)) : TyOf K H (.ref a) (.type "dict")
  | ins {a C dx : Addr} {fs : List (Str × V)} (e : H a = some (.ins C dx fs)) (cl : Cls K C) (ha : PySem.W.findIn K (.ref C) "__class__" = some (some (.builtin "object.__class__")))
      (hn : PySem.W.specialIn K (.builtin "object.__class__") "__get__" = some (some (.builtin "getset_descriptor.__get__"))) (htk : PySem.W.takesIn K (.builtin "object.__class__") = some true)
      (hm : PySem.W.mroIn K C (.type "object") = some true) : TyOf K H (.ref a) (.ref C)
theorem isinst_ok {x : V} {u t : Value} (I : Inv X pins σ H s) (rx : RelV x u) (ty : TyOf X.K H x t) (e : PySem.W.kitOne X.K t c = some b) (h : ∀ tk, Q (.bool b) { s with toks := tk }) :
    wpAny (model X.prog X.w) A (call (.builtin "isinstance") [u, c]) Q E s := by
  cases ty with
  | non => cases (show u = Value.none from rx); exact PySem.W.kia_one PySem.W.kitx_none I.kIn True.intro e (fun z => nomatch z) h
  | bl y => cases (show u = Value.bool y from rx); exact PySem.W.kia_one PySem.W.kitx_bool I.kIn True.intro e (fun z => nomatch z) h
  | int i => obtain ⟨t, q⟩ := (show ∃ t, u = Value.int i t from rx); cases q; exact PySem.W.kia_one PySem.W.kitx_int I.kIn True.intro e (fun z => nomatch z) h
  | str y => obtain ⟨t, q⟩ := (show ∃ t, u = Value.str y t from rx); cases q; exact PySem.W.kia_one PySem.W.kitx_str I.kIn True.intro e (fun z => nomatch z) h
  | flt y => obtain ⟨t, q⟩ := (show ∃ t, u = Value.float y t from rx); cases q; exact PySem.W.kia_one PySem.W.kitx_float I.kIn True.intro e (fun z => nomatch z) h
  | @lst a xs ea =>
    cases (show u = Value.ref a from rx)
    obtain ⟨_, _, n, _, h1⟩ := (show ObjOk X.prog X.w H s.heap a (.lst xs) from I.hok a _ ea)
    exact PySem.W.kia_one PySem.W.kitx_list I.kIn ⟨_, h1, rfl⟩ e (fun z => nomatch z) h
  | @frz a ob xs ea =>
    cases (show u = Value.ref a from rx)
    obtain ⟨_, _, _, n, _, h1⟩ := (show ObjOk X.prog X.w H s.heap a (.frz ob (.lst xs)) from I.hok a _ ea)
    exact PySem.W.kia_one PySem.W.kitx_list I.kIn ⟨_, h1, rfl⟩ e (fun z => nomatch z) h
  | @tup a xs ea =>
    cases (show u = Value.ref a from rx)
    obtain ⟨_, _, _, p⟩ := (show ObjOk X.prog X.w H s.heap a (.tup xs) from I.hok a _ ea)
    obtain ⟨o, h1, h2, _⟩ := p
    exact PySem.W.kia_one PySem.W.kitx_tuple I.kIn ⟨o, h1, h2⟩ e (fun z => nomatch z) h
  | @dK a kvs ea =>
    cases (show u = Value.ref a from rx)
    obtain ⟨_, _, vs, _, p⟩ := (show ObjOk X.prog X.w H s.heap a (.dK kvs) from I.hok a _ ea)
    obtain ⟨o, es, ep, h1, h2, _⟩ := p
    exact PySem.W.kia_one PySem.W.kitx_dict I.kIn ⟨o, h1, h2.1⟩ e (fun z => nomatch z) h
  | @dT a kvs ea =>
    cases (show u = Value.ref a from rx)
    obtain ⟨_, _, xs, _, o, es, ep, h1, h2, _⟩ := (show ObjOk X.prog X.w H s.heap a (.dT kvs) from I.hok a _ ea)
    exact PySem.W.kia_one PySem.W.kitx_dict I.kIn ⟨o, h1, h2.1⟩ e (fun z => nomatch z) h
  | @ins a C dx fs ea cl ha hn htk hm =>
    cases (show u = Value.ref a from rx)
    obtain ⟨mA, O, _⟩ := ins_get I.hok ea
    obtain ⟨od, J, _⟩ := O.look
    exact PySem.W.kia_one (PySem.W.kitx_own (cl.get _) cl.hd ha hn htk hm) I.kIn J e (fun z => nomatch z) h
end
end L2
namespace L2
open PySem PySem.Spec PyProof.Rows
structure Room (k : Nat) (A : Around) : Prop where
  hd : A.handled = none
  dp : A.depth + 3 * k + 5 < recursionLimit
  un : A.units + 16 * k + 200 < cLine
theorem Room.mono {j k : Nat} {A : Around} (r : Room k A) (h : j ≤ k) : Room j A := ⟨r.hd, by have := r.dp; lia, by have := r.un; lia⟩
theorem Room.deeper {k : Nat} {A : Around} (r : Room (k + 1) A) (env : Env) : Room k (A.deeper env) :=
  ⟨r.hd, by have := r.dp; show A.depth + 1 + 3 * k + 5 < _; lia, by have := r.un; show A.units + 3 + 16 * k + 200 < _; lia⟩
theorem Room.in1 {k : Nat} {A : Around} (r : Room (k + 1) A) : Room k A.in1 :=
  ⟨r.hd, by have := r.dp; show A.depth + 3 * k + 5 < _; lia, by have := r.un; show A.units + 1 + 16 * k + 200 < _; lia⟩
theorem make_depth {A : Around} {C : Addr} {us : List Value} {kw : List (Str × Value)} : (A.under (.builtin "type.__call__" ⟨.ref C :: us, kw⟩)).depth = A.depth + 1 := by
  first | rfl | simp [Around.under, Code.weight, Code.isCreation, Code.isGuard, Code.isCaller, Code.frames, Code.isFrame, guardIds]
theorem make_units {A : Around} {C : Addr} {us : List Value} {kw : List (Str × Value)} : (A.under (.builtin "type.__call__" ⟨.ref C :: us, kw⟩)).units = A.units + 1 := by
  first | rfl | simp [Around.under, Code.cUnits, Code.frames, Code.isFrame]
theorem Room.make {k : Nat} {A : Around} (r : Room (k + 1) A) (C : Addr) (us : List Value) (kw : List (Str × Value)) : Room k (A.under (.builtin "type.__call__" ⟨.ref C :: us, kw⟩)) :=
  ⟨r.hd, by have := r.dp; rw [make_depth]; lia, by have := r.un; rw [make_units]; lia⟩
theorem Room.depth {k : Nat} {A : Around} (r : Room k A) : A.depth < recursionLimit := by have := r.dp; lia
theorem Room.units {k : Nat} {A : Around} (r : Room k A) : A.units + 64 < cLine := by have := r.un; lia
def tNil : TA := fun _ H Q => Q [] H
def tCons (ta : TE) (tr : TA) : TA := fun σ H Q => ta σ H fun x H1 => tr σ H1 fun xs H2 => Q (x :: xs) H2
section
variable {X : Cx} {e : Expr} {es : List Expr} {te : TE} {t : TA} {pos : Pos}
theorem pa_nil : PA X [] tNil := fun _ _ _ _ H Q I h => Calls.spliced_nil ⟨[], H, I, .nil, h⟩
theorem pa_cons (ha : PE X e te) (hr : PA X es t) (hs : starEach (e :: es) X.env = (false, eval e X.env) :: starEach es X.env := by rfl) : PA X (e :: es) (tCons te t) := by
  intro pos pins s σ H Q I h
  rw [hs]
  show wpAny _ _ (spliced ((false, eval e X.env) :: backTo pos (starEach es X.env))) _ _ s
  refine Calls.spliced_cons (thn (ha pins s σ H _ I h) fun u s1 ⟨x, H1, I1, r1, q1⟩ => ?_)
  exact thn (hr pos pins s1 σ H1 _ I1 q1) fun us s2 ⟨xs, H2, I2, r2, q2⟩ => ⟨x :: xs, H2, I2, .cons r1 r2, q2⟩
def tTup (t : TA) : TE := fun σ H Q => t σ H fun xs H1 => xs.length ≤ sizeLine ∧ ∀ p, H1 p = none → Q (.ref p) (upd H1 p (.tup xs))
def tLst (t : TA) : TE := fun σ H Q => t σ H fun xs H1 => xs.length ≤ sizeLine ∧ ∀ p, H1 p = none → Q (.ref p) (upd H1 p (.lst xs))
theorem pe_tup {x1} (h : PA X es t) : PE X (.Tuple es x1 pos) (tTup t) := by
  intro pins s σ H Q I hq
  refine wpAny_Tuple_spliced (thn (h pos pins s σ H _ I hq) fun us s1 ⟨xs, H1, I1, r, z, q⟩ => ⟨by rw [← r.length]; exact z, ?_⟩)
  have hf : H1 s1.heap.objs.size = none := I1.hok.fresh (Nat.le_refl _)
  refine ⟨.ref s1.heap.objs.size, upd H1 s1.heap.objs.size (.tup xs), I1.laid (t' := s1.toks) (fun b u e => Heap.get?_push_of_some _ e) (Nat.le_refl _) ?_, rfl, q _ hf⟩
  exact ⟨z, us, r, ⟨_, Heap.get?_push_size _ rfl, rfl, _, rfl⟩⟩
theorem pe_lst (h : PA X es t) : PE X (.List es pos) (tLst t) := by
  intro pins s σ H Q I hq
  refine wpAny_List_spliced (thn (h pos pins s σ H _ I hq) fun us s1 ⟨xs, H1, I1, r, z, q⟩ => ⟨by rw [← r.length]; exact z, ?_⟩)
  have hf : H1 s1.heap.objs.size = none := I1.hok.fresh (Nat.le_refl _)
  refine ⟨.ref s1.heap.objs.size, upd H1 s1.heap.objs.size (.lst xs), I1.laid (t' := s1.toks) (fun b u e => Heap.get?_push_of_some _ e) (Nat.le_refl _) ?_, rfl, q _ hf⟩
  exact ⟨z, us, 0, r, Heap.get?_push_size _ rfl⟩
end
abbrev Sp := List V → Hp → VK → XK → Prop
abbrev CXT := List Env → Hp → Shared → XK → Value → Shared → Prop
structure Env0 (P : Program) (w : World) (K : PySem.W.Frag) (mg : Str → Option Value) (base : Heap) (A : Around) (outer : List Env) (s : Shared) (H : Hp) : Prop where
  frames : A.frames = some outer
  mod : Mod K mg base
  bs : ∀ b o, base.get? b = some o → s.heap.get? b = some o ∧ H b = none
  bsz : base.objs.size ≤ s.heap.objs.size
  funs : s.heap.FunFrames base outer
  frf : ∀ b ∈ frs outer, H b = none
  hok : HOk P w H s.heap
  bare : AllBare s.gens
def CE (outer : List Env) (P : Program) (w : World) (H : Hp) (s : Shared) (Q : VK) (u : Value) (s' : Shared) : Prop :=
  ∃ v H', s'.os = s.os ∧ AllBare s'.gens ∧ Un (frs outer) [] H H' s.heap s'.heap ∧ HOk P w H' s'.heap ∧ RelV v u ∧ Q v H'
def CR (CX : CXT) (outer : List Env) (P : Program) (w : World) (H : Hp) (s : Shared) (Q : VK) (E : XK) (r : Result) (s' : Shared) : Prop :=
  match r with
  | .ok (.ret u) => CE outer P w H s Q u s'
  | .ok _ => False
  | .error e => CX outer H s E e s'
structure FnOk (P : Program) (w : World) (K : PySem.W.Frag) (mg : Str → Option Value) (base : Heap) (CX : CXT) (k : Nat) (f : Addr) (fd : FuncData) (ps : List Str) (sp : Sp) : Prop where
  len : ∀ vs H Q E, sp vs H Q E → vs.length = ps.length
  run : ∀ (A : Around) (outer : List Env) (s : Shared) (H : Hp) (args : Args) (us : List Value) (vs : List V) (Q : VK) (E : XK), Room k A → Env0 P w K mg base A outer s H → BindsTo s fd args (ps.zip us) → Vals vs us → sp vs H Q E →
    codeAny (model P w) A (.call (.ref f) args) (CR CX outer P w H s Q E) s
theorem FnOk.mono {P : Program} {w : World} {K : PySem.W.Frag} {mg : Str → Option Value} {base : Heap} {CX : CXT} {j k : Nat} {f : Addr} {fd : FuncData} {ps : List Str} {sp : Sp} (F : FnOk P w K mg base CX j f fd ps sp) (h : j ≤ k) :
    FnOk P w K mg base CX k f fd ps sp := ⟨F.len, fun A outer s H args us vs Q E hr => F.run A outer s H args us vs Q E (hr.mono h)⟩
theorem FnOk.imp {P : Program} {w : World} {K : PySem.W.Frag} {mg : Str → Option Value} {base : Heap} {CX : CXT} {k : Nat} {f : Addr} {fd : FuncData} {ps : List Str} {sp sp' : Sp} (F : FnOk P w K mg base CX k f fd ps sp)
    (h : ∀ vs H Q E, sp' vs H Q E → sp vs H Q E) : FnOk P w K mg base CX k f fd ps sp' :=
  ⟨fun vs H Q E q => F.len vs H Q E (h _ _ _ _ q), fun A outer s H args us vs Q E hr he hb hv hs => F.run A outer s H args us vs Q E hr he hb hv (h _ _ _ _ hs)⟩
theorem Env0.make {P : Program} {w : World} {K : PySem.W.Frag} {mg : Str → Option Value} {base : Heap} {A : Around} {outer : List Env} {s : Shared} {H : Hp} (e : Env0 P w K mg base A outer s H) (C : Addr) (us : List Value) (kw : List (Str × Value)) :
    Env0 P w K mg base (A.under (.builtin "type.__call__" ⟨.ref C :: us, kw⟩)) outer s H := ⟨by first | exact e.frames | (simpa [Around.under, Code.envs, Code.isFrame, pushEnvs] using e.frames), e.mod, e.bs, e.bsz, e.funs, e.frf, e.hok, e.bare⟩
theorem Env0.in1 {P : Program} {w : World} {K : PySem.W.Frag} {mg : Str → Option Value} {base : Heap} {A : Around} {outer : List Env} {s : Shared} {H : Hp} (e : Env0 P w K mg base A outer s H) :
    Env0 P w K mg base A.in1 outer s H := ⟨e.frames, e.mod, e.bs, e.bsz, e.funs, e.frf, e.hok, e.bare⟩
section
variable {X : Cx} {pins : List (Addr × Obj)} {σ : St} {H : Hp} {s s' : Shared}
theorem Inv.env0 (I : Inv X pins σ H s) : Env0 X.prog X.w X.K X.mg X.base X.A X.stack s H :=
  ⟨I.ok.frames, I.ok.mod, I.bs, Nat.le_trans I.ok.bsz I.sz, I.stack, I.stkFree, I.hok, I.bare⟩
theorem Inv.after {Q : VK} {u : Value} (I : Inv X pins σ H s) (h : CE X.stack X.prog X.w H s Q u s') : EP X pins σ Q u s' := by
  obtain ⟨v, H', os, bare, un, hok, r, q⟩ := h
  obtain ⟨hh, g, d, t, os'⟩ := s'
  obtain rfl : os' = s.os := os
  exact ⟨v, H', I.call (h' := hh) (g' := g) (d' := d) (t' := t) (ch := []) un hok bare (fun b z => absurd z (by simp)), r, q⟩
end
def tCall (sp : Sp) (dvs : List V) (E : XK) (t : TA) : TE := fun σ H Q => t σ H fun vs H1 => sp (vs ++ dvs) H1 Q E
def Binds (K : PySem.W.Frag) (fd : FuncData) (ps : List Str) (ds : List Value) : Prop :=
  ∀ (s : Shared) (us : List Value), K.In s.heap → (us ++ ds).length = ps.length → BindsTo s fd ⟨us, []⟩ (ps.zip (us ++ ds))
theorem Binds.all {K : PySem.W.Frag} {fd : FuncData} {ps : List Str} (h : ∀ us : List Value, us.length = ps.length → bindArgs fd ⟨us, []⟩ = pure (ps.zip us)) : Binds K fd ps [] := fun s us _ hl => by
  rw [List.append_nil] at hl ⊢
  exact .of_eq (h us hl)
def Passes (CX : CXT) (X : Cx) (E : XK) : Prop := ∀ (pins : List (Addr × Obj)) (σ : St) (H : Hp) (s : Shared) (e : Value) (s' : Shared), Inv X pins σ H s → CX X.stack H s E e s' → X.xe e s'
section
variable {X : Cx} {CX : CXT} {k : Nat} {f C : Addr} {fd : FuncData} {ps : List Str} {sp : Sp} {dvs : List V} {ds : List Value} {E : XK} {x m : Str} {p pos apos : Pos} {e o : Expr} {es : List Expr} {ta : TE} {t : TA}
theorem run_fn {pins : List (Addr × Obj)} {σ : St} {H : Hp} {s : Shared} {Q : VK} {us : List Value} {vs : List V} (F : FnOk X.prog X.w X.K X.mg X.base CX k f fd ps sp) (hr : Room k X.A) (hb : Binds X.K fd ps ds) (hd : Vals dvs ds) (hx : Passes CX X E)
    (I : Inv X pins σ H s) (r : Vals vs us) (h : sp (vs ++ dvs) H Q E) : wpAny (model X.prog X.w) X.A (call (.ref f) us) (EP X pins σ Q) X.xe s := by
  have r2 : Vals (vs ++ dvs) (us ++ ds) := r.append hd
  have hl : (us ++ ds).length = ps.length := by rw [← r2.length]; exact F.len _ _ _ _ h
  refine wpAny_call (codeAny_mono (F.run X.A X.stack s H ⟨us, []⟩ (us ++ ds) (vs ++ dvs) Q E hr I.env0 (hb s us I.kIn hl) r2 h) fun r s' hq => ?_)
  cases r with
  | error e => exact hx pins σ H s e s' I hq
  | ok fl =>
    cases fl with
    | ret u => exact I.after hq
    | next => exact False.elim hq
    | brk => exact False.elim hq
    | cont => exact False.elim hq
theorem pe_call (F : FnOk X.prog X.w X.K X.mg X.base CX k f fd ps sp) (hr : Room k X.A) (hg : Gl X x) (hm : X.mg x = some (.ref f)) (hk : PySem.W.keepIn X.K (.ref f) = true) (hb : Binds X.K fd ps ds) (hd : Vals dvs ds) (hx : Passes CX X E)
    (ha : PA X (e :: es) t) (hdb : (x == ("__debug__" : Str)) = false := by decide) (he : starEach (e :: es) X.env = (false, eval e X.env) :: starEach es X.env := by rfl) (hpl : (backTo pos (starEach es X.env)).any (·.1) = false := by rfl) :
    PE X (.Call (.Name x p) (e :: es) [] pos) (tCall sp dvs E t) := by
  intro pins s σ H Q I h
  refine wpAny_Call_Name_kw (ld_glob I hg hm ?_ hdb)
  refine PySem.W.callWith_K (h₀ := X.base) I.ok.mod.kin hk (thn (ha pos pins s σ H _ I h) fun us s1 ⟨vs, H1, I1, r, q⟩ => ⟨I1.kIn, ?_⟩) he hpl
  exact run_fn F hr hb hd hx I1 r q
theorem pe_call0 (F : FnOk X.prog X.w X.K X.mg X.base CX k f fd ps sp) (hr : Room k X.A) (hg : Gl X x) (hm : X.mg x = some (.ref f)) (hk : PySem.W.keepIn X.K (.ref f) = true) (hb : Binds X.K fd ps ds) (hd : Vals dvs ds) (hx : Passes CX X E)
    (hdb : (x == ("__debug__" : Str)) = false := by decide) : PE X (.Call (.Name x p) [] [] pos) (tCall sp dvs E tNil) := by
  intro pins s σ H Q I h
  refine wpAny_Call_Name_kw (ld_glob I hg hm ?_ hdb)
  exact PySem.W.callWith_K0 I.kIn hk (run_fn (us := []) F hr hb hd hx I .nil h)
end
section
variable {X : Cx} {CX : CXT} {k : Nat} {f C : Addr} {fd : FuncData} {ps ks : List Str} {sp : Sp} {E : XK} {x m : Str} {p pos apos kpos : Pos} {e o : Expr} {es : List Expr} {kws : List Keyword} {te ta : TE} {t tk : TA} {nm : Option Str}
variable {g : List Value → List Value → List Value} {gV : List V → List V → List V}
end
structure FnScope (N P : List Str) (sc : Scope) : Prop where
  kind : sc.kind = .function
  co : sc.isCoroutine = false
  gen : sc.isGenerator = false
  nd : N.Nodup
  pre : N.take P.length = P
  par : ∀ x ∈ P, sc.names.lookup x = some .local ∨ sc.names.lookup x = some .cell
  nofree : ∀ y ∈ sc.names, y.2 ≠ .free
theorem bindL_out {kindOf : Str → Option NameKind} {x : Str} : ∀ {binds : List (Str × Value)} {m : Str → Option Value}, (∀ v, (x, v) ∉ binds) → bindL kindOf binds m x = m x
  | [], _, _ => rfl
  | (n, v) :: r, m, h => by
    unfold bindL
    rw [bindL_out fun w hw => h w (List.mem_cons_of_mem _ hw)]
    split
    · have : x ≠ n := by rintro rfl; exact h v List.mem_cons_self
      simp [this]
    · rfl
theorem bindC_out {kindOf : Str → Option NameKind} {x : Str} : ∀ {binds : List (Str × Value)} {m : Str → Option Value}, (∀ v, (x, v) ∉ binds) → bindC kindOf binds m x = m x
  | [], _, _ => rfl
  | (n, v) :: r, m, h => by
    unfold bindC
    rw [bindC_out fun w hw => h w (List.mem_cons_of_mem _ hw)]
    split
    · rfl
    · have : x ≠ n := by rintro rfl; exact h v List.mem_cons_self
      simp [this]
theorem bindL_get {kindOf : Str → Option NameKind} {x : Str} {v : Value} : ∀ {P : List Str} {vs : List Value} {i : Nat} {m : Str → Option Value}, P.Nodup → P[i]? = some x → vs[i]? = some v → kindOf x = some .local →
    bindL kindOf (P.zip vs) m x = some v
  | [], _, _, _, _, h, _, _ => by simp at h
  | _ :: _, [], _, _, _, _, h, _ => by simp at h
  | p :: P, w :: vs, 0, m, nd, h1, h2, hk => by
    simp at h1 h2; subst h1; subst h2
    show bindL kindOf ((p, w) :: P.zip vs) m p = _
    unfold bindL
    rw [bindL_out fun v hv => (List.nodup_cons.mp nd).1 (List.of_mem_zip hv).1, if_pos hk]
    simp
  | p :: P, w :: vs, i + 1, m, nd, h1, h2, hk => by
    show bindL kindOf ((p, w) :: P.zip vs) m x = _
    unfold bindL
    exact bindL_get (i := i) (List.nodup_cons.mp nd).2 (by simpa using h1) (by simpa using h2) hk
theorem bindC_get {kindOf : Str → Option NameKind} {x : Str} {v : Value} : ∀ {P : List Str} {vs : List Value} {i : Nat} {m : Str → Option Value}, P.Nodup → P[i]? = some x → vs[i]? = some v → kindOf x ≠ some .local →
    bindC kindOf (P.zip vs) m x = some v
  | [], _, _, _, _, h, _, _ => by simp at h
  | _ :: _, [], _, _, _, _, h, _ => by simp at h
  | p :: P, w :: vs, 0, m, nd, h1, h2, hk => by
    simp at h1 h2; subst h1; subst h2
    show bindC kindOf ((p, w) :: P.zip vs) m p = _
    unfold bindC
    rw [bindC_out fun v hv => (List.nodup_cons.mp nd).1 (List.of_mem_zip hv).1, if_neg hk]
    simp
  | p :: P, w :: vs, i + 1, m, nd, h1, h2, hk => by
    show bindC kindOf ((p, w) :: P.zip vs) m x = _
    unfold bindC
    exact bindC_get (i := i) (List.nodup_cons.mp nd).2 (by simpa using h1) (by simpa using h2) hk
def start (N : List Str) (vs : List V) : St := vs.map some ++ List.replicate (N.length - vs.length) none
def cxOf (CX : CXT) (P : Program) (w : World) (K : PySem.W.Frag) (mg : Str → Option Value) (base : Heap) (N : List Str) (qual : Str) (scope : Scope) (f : Addr) (cd : Value) (A : Around) (outer : List Env) (s : Shared) (H : Hp) (E : XK) : Cx where
  prog := P
  w := w
  K := K
  mg := mg
  base := base
  A := A.deeper (envOfC qual scope s.heap.objs.size f cd)
  N := N
  s₀ := s
  H₀ := H
  env := envOfC qual scope s.heap.objs.size f cd
  outer := outer
  stack := envOfC qual scope s.heap.objs.size f cd :: outer
  ex := []
  calm := true
  fn := fun _ => true
  pn := []
  xe := fun e s' => wpAny (model P w) (A.deeper (envOfC qual scope s.heap.objs.size f cd)) (leaving (envOfC qual scope s.heap.objs.size f cd) e) (fun _ s'' => CX outer H s E e s'') (fun e' s'' => CX outer H s E e' s'') s'
theorem cell_has {sc : Scope} {n : Nat} {x : Str} (h : sc.names.lookup x = some .cell) : ∃ c, (cellsFrom n sc.names []).lookup x = some c := by
  have q := PySem.W.cellsFrom_some sc.names n [] (.inl h)
  exact Option.isSome_iff_exists.mp q
theorem inv_start {CX : CXT} {P : Program} {w : World} {K : PySem.W.Frag} {mg : Str → Option Value} {base : Heap} {N ps : List Str} {qual : Str} {scope : Scope} {f : Addr} {cd : Value} {A : Around} {outer : List Env} {s s1 : Shared} {H : Hp} {E : XK} {us : List Value} {vs : List V}
    (S : FnScope N ps scope) (hd : A.handled = none) (e0 : Env0 P w K mg base A outer s H) (hl : vs.length = ps.length) (r : Vals vs us)
    (x : InCallC s s.heap.objs.size (bindL (envOfC qual scope s.heap.objs.size f cd).kindOf (ps.zip us) fun _ => none) (cellsFrom (s.heap.objs.size + 1) scope.names []) (bindC (envOfC qual scope s.heap.objs.size f cd).kindOf (ps.zip us) fun _ => none) s1) :
    Inv (cxOf CX P w K mg base N qual scope f cd A outer s H E) [] (start N vs) H s1 := by
  have hpl : ps.length ≤ N.length := by have := congrArg List.length S.pre; rw [List.length_take] at this; lia
  obtain ⟨h1, tk, rfl, hk⟩ := x.done
  have noA : ∀ b : Addr, b ∉ (cxOf CX P w K mg base N qual scope f cd A outer s H E).ex := fun b z => absurd (show b ∈ ([] : List Addr) from z) (by simp)
  refine ⟨⟨e0.mod, S.kind, rfl, rfl, Nat.le_refl _, fun y z c h1 h2 => ?_, fun y hy => ?_, fun y c _ h => ?_, fun _ => hd, Around.frames_deeper e0.frames, .inr ⟨rfl, rfl⟩, fun b z => absurd z (noA b), e0.bs, e0.bsz, fun b _ _ => noA b, fun b z => absurd z (noA b), e0.funs, e0.frf⟩,
    rfl, e0.bare, Un.kept hk, ⟨_, x.toInCall.ns, fun i y v h1 h2 h3 => ?_⟩, fun y c h => ⟨_, x.cell y c h⟩, e0.hok.fresh (Nat.le_refl _), fun y c h => ?_, fun p hp => absurd (show p ∈ ([] : List (Addr × Obj)) from hp) (by simp), e0.hok.kept hk, ?_⟩
  · exact name_of_addr x.apart (PySem.mem_of_lookup h1) (PySem.mem_of_lookup h2)
  · have hy : scope.names.lookup y = some .cell ∨ scope.names.lookup y = some .free := hy
    rcases hy with hy | hy
    · exact cell_has hy
    · exact absurd rfl (S.nofree _ (PySem.mem_of_lookup hy))
  · exact Nat.le_of_lt (x.above y c (PySem.mem_of_lookup h))
  · have hi : i < vs.length := by
      unfold start at h2
      by_cases hi : i < vs.length
      · exact hi
      · rw [List.getElem?_append_right (by simpa using hi)] at h2
        rw [List.getElem?_replicate] at h2
        split at h2 <;> cases h2
    have ha : vs[i]? = some v := by
      unfold start at h2
      rw [List.getElem?_append_left (by simpa using hi), List.getElem?_map] at h2
      cases e : vs[i]? with
      | none => rw [e] at h2; cases h2
      | some a => rw [e] at h2; cases h2; rfl
    obtain ⟨u, hu, rv⟩ := r.get ha
    have hp : ps[i]? = some y := by
      rw [← S.pre, List.getElem?_take_of_lt (by lia)]; exact h1
    have ndP : ps.Nodup := by rw [← S.pre]; exact S.nd.sublist (List.take_sublist _ _)
    refine ⟨u, rv, ?_⟩
    rcases S.par y (List.mem_of_getElem? hp) with k | k
    · exact .inl ⟨k, bindL_get ndP hp hu k⟩
    · obtain ⟨c, e⟩ := cell_has (n := s.heap.objs.size + 1) k
      refine .inr ⟨.inl k, c, e, ?_⟩
      have q := x.cell y c e
      rw [bindC_get ndP hp hu (by show scope.names.lookup y ≠ _; rw [k]; decide)] at q
      exact q
  · exact e0.hok.fresh (Nat.le_of_lt (x.above y c (PySem.mem_of_lookup h)))
  · unfold start
    show _ = N.length
    rw [List.length_append, List.length_map, List.length_replicate]
    lia
theorem fn_of {CX : CXT} {P : Program} {w : World} {K : PySem.W.Frag} {mg : Str → Option Value} {base : Heap} {k : Nat} {f : Addr} {name qual : Str} {params : Arguments} {body : List Stmt} {scope : Scope} {dV kV doc pm cdv ct oc : Value} {an od : Option Addr}
    {osl : Array (Option Value)} {N ps : List Str} {sp : Sp} (lk : K.lookup f = some ⟨oc, od, .func (PySem.W.fnOf name qual params body scope dV kV doc pm an cdv ct), osl⟩) (hcd : PySem.W.codeIn K cdv qual = true) (S : FnScope N ps scope)
    (len : ∀ vs H Q E, sp vs H Q E → vs.length = ps.length)
    (hbody : ∀ (A : Around) (outer : List Env) (s : Shared) (H : Hp) (vs : List V) (Q : VK) (E : XK), Room k (A.deeper (envOfC qual scope s.heap.objs.size f cdv)) → sp vs H Q E →
      ∃ t, PSs (cxOf CX P w K mg base N qual scope f cdv A outer s H E) body t ∧ t { nx := fun _ H' => Q .non H', rt := Q } (start N vs) H) :
    FnOk P w K mg base CX (k + 1) f (PySem.W.fnOf name qual params body scope dV kV doc pm an cdv ct) ps sp := by
  refine ⟨len, fun A outer s H args us vs Q E hr e0 hb r hsp => ?_⟩
  have hl := len _ _ _ _ hsp
  have KX : K.In s.heap := e0.mod.kin.keeps fun b o e => (e0.bs b o e).1
  have lim : s.heap.NoLimit := e0.mod.nolimit.keeps fun b o e => (e0.bs b o e).1
  have hkind : ∀ y ∈ ps.zip us, scope.names.lookup y.1 = some .local ∨ (scope.names.lookup y.1 = some .cell ∧ ((cellsFrom (s.heap.objs.size + 1) scope.names []).lookup y.1).isSome = true) := fun ⟨n, v⟩ hy => by
    rcases S.par n (List.of_mem_zip hy).1 with q | q
    · exact .inl q
    · exact .inr ⟨q, PySem.W.cellsFrom_some _ _ _ (.inl q)⟩
  refine codeAny_call_function hr.depth (KX _ _ lk) rfl S.co S.gen rfl (PySem.W.codeRec_of KX hcd) (hb _ _ _ _ ?_)
  refine wpAny_newFunctionEnv_cells S.kind hkind fun env he s1 x => ?_
  subst he
  refine ⟨lim.keeps x.toInCall.keep, codeAny_func ?_⟩
  obtain ⟨t, ht, hq⟩ := hbody A outer s H vs Q E (hr.deeper _) hsp
  have I : Inv (cxOf CX P w K mg base N qual scope f cdv A outer s H E) [] (start N vs) H s1 := inv_start S hr.hd e0 hl r x
  refine wpAny_mono (ht [] s1 (start N vs) H _ I hq) (fun fl s' hs => ?_) fun e s' hs => hs
  have fin : ∀ {σ' : St} {H' : Hp} {v : V} {u : Value}, Inv (cxOf CX P w K mg base N qual scope f cdv A outer s H E) [] σ' H' s' → RelV v u → Q v H' → CE outer P w H s Q u s' :=
    fun {σ' H' v u} J rv q => ⟨v, H', J.os, J.bare, J.base, J.hok, rv, q⟩
  cases fl with
  | ret u =>
    obtain ⟨v, σ', H', J, rv, q⟩ := hs
    exact fin J rv q
  | next =>
    obtain ⟨σ', H', J, q⟩ := hs
    exact fin (v := V.non) (u := Value.none) J rfl q
  | brk =>
    obtain ⟨_, _, _, q⟩ := hs
    exact False.elim q
  | cont =>
    obtain ⟨_, _, _, q⟩ := hs
    exact False.elim q
end L2
namespace L2
open PySem PySem.Spec PyProof.Rows
section
variable {X : Cx} {x : Str} {p pos : Pos} {e : Expr} {es : List Expr} {t : TA} {id T : String} {r : List V → Hp → VK → Prop}
def tCB (r : List V → Hp → VK → Prop) (t : TA) : TE := fun σ H Q => t σ H fun vs H1 => r vs H1 Q
theorem pe_callB (hc : CallR X (.builtin id) r) (hg : Gl X x) (hm : X.mg x = none) (hv : bootBuiltins x = some (.builtin id)) (ha : PA X (e :: es) t) (hn : x ≠ "__name__" := by decide) (hdb : (x == ("__debug__" : Str)) = false := by decide)
    (he : starEach (e :: es) X.env = (false, eval e X.env) :: starEach es X.env := by rfl) (hpl : (backTo pos (starEach es X.env)).any (·.1) = false := by rfl) : PE X (.Call (.Name x p) (e :: es) [] pos) (tCB r t) := by
  intro pins s σ H Q I h
  refine wpAny_Call_Name_kw (ld_blt I hg hm hv ?_ hn hdb)
  exact PyProof.Rows.callWith_builtin1 (thn (ha pos pins s σ H _ I h) fun us s1 ⟨vs, H1, I1, r1, q1⟩ => hc pins s1 σ H1 vs us Q I1 r1 q1) he hpl
theorem pe_callTy (hc : CallR X (.type T) r) (hg : Gl X x) (hm : X.mg x = none) (hv : bootBuiltins x = some (.type T)) (ha : PA X (e :: es) t) (hn : x ≠ "__name__" := by decide) (hdb : (x == ("__debug__" : Str)) = false := by decide)
    (he : starEach (e :: es) X.env = (false, eval e X.env) :: starEach es X.env := by rfl) (hpl : (backTo pos (starEach es X.env)).any (·.1) = false := by rfl) : PE X (.Call (.Name x p) (e :: es) [] pos) (tCB r t) := by
  intro pins s σ H Q I h
  refine wpAny_Call_Name_kw (ld_blt I hg hm hv ?_ hn hdb)
  exact PyProof.Rows.callWith_type1 (thn (ha pos pins s σ H _ I h) fun us s1 ⟨vs, H1, I1, r1, q1⟩ => hc pins s1 σ H1 vs us Q I1 r1 q1) he hpl
end
end L2
namespace HT
open PySem PyProof.Rows
section
open PySem.SeqAt
open PySem.AutoSeq1 (wpAny_loadPart')
open PySem.MeetsSeq PySem.MeetsSeq2 PySem.MeetsSeq3
end
section
variable {prog : Program} {w : World} {A : Around} {E : Value → Shared → Prop} {s : Shared}
def sIx (n d : Nat) : Option Int → Nat
  | none => d
  | some v => if v < 0 then (v + (n : Int)).toNat else min v.toNat n
theorem sIx_le (n d : Nat) (hd : d ≤ n) (o : Option Int) : sIx n d o ≤ n := by
  cases o with
  | none => exact hd
  | some v =>
    show (if v < 0 then (v + (n : Int)).toNat else min v.toNat n) ≤ n
    by_cases hv : v < 0
    · rw [if_pos hv]; lia
    · rw [if_neg hv]; exact Nat.min_le_right _ _
theorem clip_eq (v : Int) (n d : Nat) : (if v < 0 then max (v + (n : Int)) 0 else min v (n : Int)) = ((sIx n d (some v) : Nat) : Int) := by
  show (if v < 0 then max (v + (n : Int)) 0 else min v (n : Int)) = (((if v < 0 then (v + (n : Int)).toNat else min v.toNat n) : Nat) : Int)
  by_cases hv : v < 0
  · simp only [if_pos hv]; lia
  · simp only [if_neg hv]; lia
theorem adjust_gen (lo hi : Option Int) (n : Nat) : Builtin.Slice.sliceAdjust lo hi 1 (n : Int) = (((sIx n 0 lo : Nat) : Int), ((sIx n n hi : Nat) : Int)) := by
  have h1 : ¬ ((1 : Int) < 0) := by lia
  unfold Builtin.Slice.sliceAdjust
  simp only [h1, if_false]
  refine Prod.ext ?_ ?_
  · cases lo with
    | none => rfl
    | some v => exact clip_eq v n 0
  · cases hi with
    | none => rfl
    | some v => exact clip_eq v n n
theorem places_gen (i j : Nat) : Builtin.Slice.slicePlaces (i : Int) (j : Int) 1 = j - i := by
  unfold Builtin.Slice.slicePlaces
  have h1 : (1 : Int) > 0 := by lia
  simp only [h1, if_true, Int.ediv_one]
  split <;> lia
theorem slicePart_ {v : Value} {o : Option Int} {Q : Option Int → Shared → Prop} (p : IsPart v o) (h : Q o s) : wpAny (model prog w) A (Builtin.Slice.slicePartIndex v) Q E s := by
  cases p with
  | none => exact slicePart_none h
  | int i t => exact slicePart_int h
theorem sliceApplied_gen {sl : Addr} {vl vu : Value} {lo hi : Option Int} {n : Nat} {Q : Int × Int × Nat → Shared → Prop} (hs : s.heap.IsSliceOf sl vl vu .none) (pl : IsPart vl lo) (pu : IsPart vu hi)
    (h : Q (((sIx n 0 lo : Nat) : Int), 1, sIx n n hi - sIx n 0 lo) s) : wpAny (model prog w) A (Builtin.Slice.sliceApplied (.ref sl) (pure (n : Int))) Q E s := by
  obtain ⟨os, hos, hcs, hds⟩ := id hs
  unfold Builtin.Slice.sliceApplied Builtin.Slice.sliceFields
  refine wpAny_bind (wpAny_bind (wpAny_field hos hds (x := vl) rfl (wpAny_bind (wpAny_field hos hds (x := vu) rfl (wpAny_bind (wpAny_field hos hds (x := .none) rfl (wpAny_pure ?_)))))))
  refine wpAny_bind (slicePart_none ?_)
  show wpAny _ _ (if ((1 : Int) == 0) = true then _ else _) _ _ s
  rw [if_neg (by decide)]
  refine wpAny_bind (slicePart_ pl (wpAny_bind (slicePart_ pu (wpAny_bind (wpAny_pure ?_)))))
  show wpAny _ _ (match Builtin.Slice.sliceAdjust lo hi 1 (n : Int) with | (lo, hi) => pure (lo, (1 : Int), Builtin.Slice.slicePlaces lo hi 1)) _ _ s
  rw [adjust_gen lo hi n]
  show wpAny _ _ (pure (((sIx n 0 lo : Nat) : Int), (1 : Int), Builtin.Slice.slicePlaces ((sIx n 0 lo : Nat) : Int) ((sIx n n hi : Nat) : Int) 1)) _ _ s
  rw [places_gen]
  exact wpAny_pure h
theorem pick_gen (xs : Array Value) (i k : Nat) : ((List.range k).filterMap fun (m : Nat) => xs[((i : Int) + (m : Int) * 1).toNat]?).toArray = ((xs.toList.drop i).take k).toArray := by
  have e : (fun (m : Nat) => xs[((i : Int) + (m : Int) * 1).toNat]?) = fun m => xs[i + m]? := by
    funext m
    have : ((i : Int) + (m : Int) * 1).toNat = i + m := by lia
    rw [this]
  rw [e]
  have := pick_run xs i k
  rw [List.filterMap_map] at this
  have e2 : ((fun x => xs[x]?) ∘ fun x => i + x) = fun m => xs[i + m]? := rfl
  rw [e2] at this
  rw [this]
theorem getItem_tuple_cut {t sl : Addr} {items : Array Value} {vl vu : Value} {lo hi : Option Int} {Q : Value → Shared → Prop} (ht : IsTup s.heap t items) (hs : s.heap.IsSliceOf sl vl vu .none) (pl : IsPart vl lo) (pu : IsPart vu hi)
    (hw : ¬ (sIx items.size 0 lo = 0 ∧ sIx items.size items.size hi = items.size))
    (h : Q (.ref s.heap.objs.size) { s with heap := s.heap.push { cls := .type "tuple", data := .seq ((items.toList.drop (sIx items.size 0 lo)).take (sIx items.size items.size hi - sIx items.size 0 lo)).toArray } })
    (hsz : items.size ≤ sizeLine) : wpAny (model prog w) A (getItem (.ref t) (.ref sl)) Q E s := by
  have htake : sizeOk (.seq ((items.toList.drop (sIx items.size 0 lo)).take (sIx items.size items.size hi - sIx items.size 0 lo)).toArray) := by
    show ((items.toList.drop (sIx items.size 0 lo)).take (sIx items.size items.size hi - sIx items.size 0 lo)).toArray.size ≤ sizeLine
    rw [List.size_toArray, List.length_take, List.length_drop, Array.length_toList]
    lia
  have hj : sIx items.size items.size hi ≤ items.size := sIx_le _ _ (Nat.le_refl _) hi
  obtain ⟨os, hos, hcs, hds⟩ := id hs
  have hTs : s.TypeIs (.ref sl) "slice" := ⟨os, hos, hcs⟩
  unfold getItem
  try with_reducible refine wpAny_holding ?_
  first | refine wpAny_bind (wpAny_pure ?_) | skip
  refine wpAny_bind (wpAny_sequenceKey ht.typeIs (by decide) ?_)
  refine wpAny_bind (wpAny_callSpecial?_slot (name := Str.ofString "__getitem__") ht.typeIs PyProof.Rows.slot_tuple_getitem
    (wpAny_call_entry PyProof.Rows.slot_tuple_getitem ht.typeIs entry_tuple_getitem ?_ (args_tuple_getitem _ _)))
  show wpAny _ _ (Builtin.Tuple.tupleItemsOf (.ref t) >>= _) _ _ s
  refine wpAny_bind (tupleItemsOf_ ht ?_)
  refine wpAny_bind (wpAny_typeOf hTs ?_)
  rw [if_pos (by decide)]
  refine wpAny_bind (sliceApplied_gen hs pl pu ?_)
  have hno : ¬ ((((sIx items.size 0 lo : Nat) : Int) == 0 && (1 : Int) == 1 && (sIx items.size items.size hi - sIx items.size 0 lo) == items.size) = true) := by
    intro q
    rw [Bool.and_eq_true, Bool.and_eq_true] at q
    have q1 : ((sIx items.size 0 lo : Nat) : Int) = 0 := eq_of_beq q.1.1
    have q2 : sIx items.size items.size hi - sIx items.size 0 lo = items.size := eq_of_beq q.2
    exact hw ⟨by lia, by lia⟩
  show wpAny _ _ (if (((sIx items.size 0 lo : Nat) : Int) == 0 && (1 : Int) == 1 && (sIx items.size items.size hi - sIx items.size 0 lo) == items.size) = true then _ else _) _ _ s
  rw [if_neg hno, pick_gen]
  first
    | exact wpAny_bind (m := Builtin.Tuple.tupleExact _) (wpAny_newObj_type (wpAny_pure ⟨_, rfl, wpAny_pure h⟩) htake)
    | exact wpAny_bind (m := Builtin.Tuple.tupleExact _) (wpAny_newObj_type (wpAny_bind (wpAny_pure (wpAny_pure ⟨_, rfl, wpAny_pure h⟩))) htake)
    | exact wpAny_bind (wpAny_bind (m := Builtin.Tuple.tupleExact _) (wpAny_newObj_type (wpAny_pure (wpAny_pure ⟨_, rfl, wpAny_pure h⟩)) htake))
    | exact wpAny_bind (wpAny_bind (m := Builtin.Tuple.tupleExact _) (wpAny_newObj_type (wpAny_pure ⟨_, rfl, wpAny_pure h⟩) htake))
end
end HT
namespace L2
open PySem PySem.Spec PyProof.Rows
abbrev TO := St → Hp → (Option Int → Hp → Prop) → Prop
def PO (X : Cx) (e : Option Expr) (t : TO) : Prop :=
  ∀ (pins : List (Addr × Obj)) (s : Shared) (σ : St) (H : Hp) (Q : Option Int → Hp → Prop), Inv X pins σ H s → t σ H Q →
    wpAny (model X.prog X.w) X.A (evalPart e X.env) (fun u s' => ∃ o H', Inv X pins σ H' s' ∧ IsPart u o ∧ Q o H') X.xe s
def tNoPart : TO := fun _ H Q => Q none H
def tPart (t : TE) : TO := fun σ H Q => t σ H fun x H1 => ∃ i, x = .int i ∧ Q (some i) H1
section
variable {X : Cx} {e : Expr} {te : TE} {lo hi : Option Expr} {tl th : TO} {pos p2 : Pos}
theorem po_none : PO X none tNoPart := by
  intro pins s σ H Q I h
  rw [evalPart_none]
  exact wpAny_pure ⟨none, H, I, .none, h⟩
theorem po_some (h : PE X e te) : PO X (some e) (tPart te) := by
  intro pins s σ H Q I hw
  rw [evalPart_some]
  refine thn (h pins s σ H _ I hw) fun u s1 ⟨x, H1, I1, r1, q1⟩ => ?_
  obtain ⟨i, rfl, q⟩ := q1
  obtain ⟨t, rfl⟩ := r1
  exact ⟨some i, H1, I1, .int i t, q⟩
def SlR (X : Cx) (r : V → Option Int → Option Int → Hp → VK → Prop) : Prop :=
  ∀ (pins : List (Addr × Obj)) (s : Shared) (σ : St) (H : Hp) (x : V) (v vl vu : Value) (lo hi : Option Int) (sl : Addr) (Q : VK), Inv X pins σ H s → RelV x v → s.heap.IsSliceOf sl vl vu .none → IsPart vl lo → IsPart vu hi → r x lo hi H Q →
    ∃ T id, typeLookup (.type T) "__getitem__" = pure (some (.builtin id)) ∧ s.TypeIs v T ∧ wpAny (model X.prog X.w) X.A (getItem v (.ref sl)) (EP X pins σ Q) X.xe s
theorem SlR.or {r r' : V → Option Int → Option Int → Hp → VK → Prop} (h : SlR X r) (h' : SlR X r') : SlR X (fun x lo hi H Q => r x lo hi H Q ∨ r' x lo hi H Q) := by
  intro pins s σ H x v vl vu lo hi sl Q I rx hs pl pu q
  rcases q with q | q
  · exact h pins s σ H x v vl vu lo hi sl Q I rx hs pl pu q
  · exact h' pins s σ H x v vl vu lo hi sl Q I rx hs pl pu q
def tSl (r : V → Option Int → Option Int → Hp → VK → Prop) (te : TE) (tl th : TO) : TE := fun σ H Q => te σ H fun x H1 => tl σ H1 fun l H2 => th σ H2 fun u H3 => r x l u H3 Q
theorem pe_slice {r : V → Option Int → Option Int → Hp → VK → Prop} (hr : SlR X r) (he : PE X e te) (hl : PO X lo tl) (hu : PO X hi th) : PE X (.Subscript e (.Slice lo hi none p2) pos) (tSl r te tl th) := by
  intro pins s σ H Q I h
  refine Subscript_ (thn (he pins s σ H _ I h) fun v s1 ⟨x, H1, I1, r1, q1⟩ => ?_)
  refine wpAny_Slice (thn (hl pins s1 σ H1 _ I1 q1) fun vl s2 ⟨l, H2, I2, pl, q2⟩ => thn (hu pins s2 σ H2 _ I2 q2) fun vu s3 ⟨u, H3, I3, pu, q3⟩ => ?_)
  rw [evalPart_none]
  refine wpAny_pure ?_
  have I4 : Inv X pins σ H3 { s3 with heap := s3.heap.push { cls := .type "slice", data := .fields #[vl, vu, .none] } } := I3.kept (t' := s3.toks) fun b ob q => Heap.get?_push_of_some _ q
  obtain ⟨T, id, hT, ht, hg⟩ := hr pins { s3 with heap := s3.heap.push { cls := .type "slice", data := .fields #[vl, vu, .none] } } σ H3 x v vl vu l u s3.heap.objs.size Q I4 r1 (Heap.IsSliceOf.new ..) pl pu q3
  show wpAny (model X.prog X.w) X.A (subscriptTail e (.Slice lo hi none p2) v (.ref s3.heap.objs.size)) (EP X pins σ Q) X.xe { s3 with heap := s3.heap.push { cls := .type "slice", data := .fields #[vl, vu, .none] } }
  exact tail_any (ops := [.ref s3.heap.objs.size, v]) ht hT hg (by with_unfolding_all rfl)
def cutV (xs : List V) (lo hi : Option Int) : List V := (xs.drop (HT.sIx xs.length 0 lo)).take (HT.sIx xs.length xs.length hi - HT.sIx xs.length 0 lo)
theorem cutV_length (xs : List V) (lo hi : Option Int) : (cutV xs lo hi).length ≤ xs.length := by
  unfold cutV
  rw [List.length_take, List.length_drop]
  lia
def rSlT (K : PySem.W.Frag) : V → Option Int → Option Int → Hp → VK → Prop := fun x lo hi H Q => ∃ a xs, x = .ref a ∧ SqT K H a xs ∧
  ¬ (HT.sIx xs.length 0 lo = 0 ∧ HT.sIx xs.length xs.length hi = xs.length) ∧ ∀ p, H p = none → Q (.ref p) (upd H p (.tup (cutV xs lo hi)))
theorem sl_tup : SlR X (rSlT X.K) := by
  intro pins s σ H x v vl vu lo hi sl Q I rx hs pl pu h
  obtain ⟨a, xs, rfl, hx, hw, q⟩ := h
  cases rx
  obtain ⟨its, r, ht, hz⟩ := I.tuple hx
  have hlen : its.toArray.size = xs.length := by rw [List.size_toArray]; exact r.length.symm
  refine ⟨"tuple", _, PyProof.Rows.slot_tuple_getitem.lookup, ht.typeIs, ?_⟩
  refine HT.getItem_tuple_cut ht hs pl pu (by rw [hlen]; exact hw) ?_ (by rw [hlen]; exact hz)
  rw [hlen]
  refine ⟨.ref s.heap.objs.size, _, I.laid (t' := s.toks) (o := .tup (cutV xs lo hi)) (fun b ob q => Heap.get?_push_of_some _ q) (Nat.le_refl _) ?_, rfl, q _ (I.hok.fresh (Nat.le_refl _))⟩
  exact ⟨Nat.le_trans (cutV_length xs lo hi) hz, _, (r.drop (HT.sIx xs.length 0 lo)).take (HT.sIx xs.length xs.length hi - HT.sIx xs.length 0 lo), IsTup.new _ _⟩
end
end L2
namespace L2
open PySem PySem.Spec PyProof.Rows
def ixN (n : Nat) (i : Int) : Option Nat := if 0 ≤ i then (if i < n then some i.toNat else none) else if -(n : Int) ≤ i then some (i + n).toNat else none
def atI {α : Type} (xs : List α) (i : Int) : Option α := (ixN xs.length i).bind fun j => xs[j]?
theorem ixN_seq {n : Nat} {i : Int} {j : Nat} (h : ixN n i = some j) : seqIndex? i n = some j ∧ j < n ∧ -(n : Int) ≤ i ∧ i < n := by
  unfold ixN at h
  by_cases h0 : 0 ≤ i
  · rw [if_pos h0] at h
    by_cases h1 : i < n
    · rw [if_pos h1] at h
      have e : i.toNat = j := Option.some.inj h
      exact ⟨by rw [seqIndex_of h0 h1, e], by lia, by lia, h1⟩
    · rw [if_neg h1] at h; cases h
  · rw [if_neg h0] at h
    by_cases h1 : -(n : Int) ≤ i
    · rw [if_pos h1] at h
      have e : (i + n).toNat = j := Option.some.inj h
      exact ⟨by rw [seqIndex_neg (by lia) h1, e], by lia, h1, by lia⟩
    · rw [if_neg h1] at h; cases h
theorem atI_get {α : Type} {xs : List α} {i : Int} {v : α} (h : atI xs i = some v) : ∃ j, seqIndex? i xs.length = some j ∧ xs[j]? = some v ∧ j < xs.length ∧ -(xs.length : Int) ≤ i ∧ i < xs.length := by
  unfold atI at h
  cases e : ixN xs.length i with
  | none => rw [e] at h; cases h
  | some j =>
    rw [e] at h
    obtain ⟨h1, h2, h3, h4⟩ := ixN_seq e
    exact ⟨j, h1, h, h2, h3, h4⟩
theorem atI_nat {α : Type} {xs : List α} {j : Nat} {v : α} (h : xs[j]? = some v) : atI xs (j : Int) = some v := by
  have hj : j < xs.length := (List.getElem?_eq_some_iff.mp h).1
  have e : ixN xs.length (j : Int) = some j := by
    unfold ixN
    rw [if_pos (by lia), if_pos (by lia)]; simp
  unfold atI; rw [e]; exact h
def PlainIx (b : Expr) : Prop := ∀ o i, subscripted b false o i = operate [o, i] (getItem o i)
def IxR (X : Cx) (r : R2) : Prop :=
  ∀ (value slice : Expr) (pins : List (Addr × Obj)) (s : Shared) (σ : St) (H : Hp) (x y : V) (v u : Value) (Q : VK), Inv X pins σ H s → RelV x v → RelV y u → r x y H Q →
    subscripted slice false v u = operate [v, u] (getItem v u) → wpAny (model X.prog X.w) X.A (subscriptTail value slice v u) (EP X pins σ Q) X.xe s
def MtR (X : Cx) (id : String) (r : V → List V → Hp → VK → Prop) : Prop :=
  ∀ (pins : List (Addr × Obj)) (s : Shared) (σ : St) (H : Hp) (x : V) (xs : List V) (v : Value) (us : List Value) (Q : VK), Inv X pins σ H s → RelV x v → Vals xs us → r x xs H Q →
    wpAny (model X.prog X.w) X.A (call (.builtin id) (v :: us)) (EP X pins σ Q) X.xe s
section
variable {X : Cx} {a b : Expr} {ta tb : TE} {pos : Pos}
theorem IxR.or {r r' : R2} (h : IxR X r) (h' : IxR X r') : IxR X (fun x y H Q => r x y H Q ∨ r' x y H Q) := by
  intro value slice pins s σ H x y v u Q I rx ry q hs
  rcases q with q | q
  · exact h value slice pins s σ H x y v u Q I rx ry q hs
  · exact h' value slice pins s σ H x y v u Q I rx ry q hs
theorem MtR.or {id : String} {r r' : V → List V → Hp → VK → Prop} (h : MtR X id r) (h' : MtR X id r') : MtR X id (fun x xs H Q => r x xs H Q ∨ r' x xs H Q) := by
  intro pins s σ H x xs v us Q I rx rs q
  rcases q with q | q
  · exact h pins s σ H x xs v us Q I rx rs q
  · exact h' pins s σ H x xs v us Q I rx rs q
theorem pe_ix {r : R2} (hr : IxR X r) (ha : PE X a ta) (hb : PE X b tb) (hs : PlainIx b) : PE X (.Subscript a b pos) (tOp r ta tb) := by
  intro pins s σ H Q I h
  exact Subscript_ (binT ha hb I h fun v u s2 x y H2 I2 rx ry q => hr a b pins s2 σ H2 x y v u Q I2 rx ry q (hs _ _))
def rIxL (K : PySem.W.Frag) : R2 := fun x y H Q => ∃ p xs i v, x = .ref p ∧ y = .int i ∧ SqL K H p xs ∧ atI xs i = some v ∧ Q v H
def rIxT (K : PySem.W.Frag) : R2 := fun x y H Q => ∃ p xs i v, x = .ref p ∧ y = .int i ∧ SqT K H p xs ∧ atI xs i = some v ∧ Q v H
def rIxS : R2 := fun x y H Q => ∃ z i c, x = .str z ∧ y = .int i ∧ z.length ≤ sizeLine ∧ atI z.cps.toList i = some c ∧ Q (.str ⟨#[c]⟩) H
theorem ix_list : IxR X (rIxL X.K) := by
  intro value slice pins s σ H x y v u Q I rx ry h hs
  obtain ⟨p, xs, i, z, rfl, rfl, hq, he, q⟩ := h
  cases rx
  obtain ⟨t, rfl⟩ := ry
  obtain ⟨its, r, pl, hz⟩ := I.list hq
  obtain ⟨j, h1, h2, h3, h4, h5⟩ := atI_get he
  obtain ⟨w, ew, rw'⟩ := r.get h2
  have hl := r.length
  have hn := line63
  have fin : EP X pins σ Q w s := ⟨z, H, I, rw', q⟩
  by_cases h0 : 0 ≤ i
  · have hj : i.toNat = j := by
      rw [seqIndex_of h0 h5] at h1
      exact Option.some.inj h1
    exact item_listR pl.isList h0 (by lia) (by rw [hj]; simpa using ew) fin hs
  · have hj : (i + (its.toArray.size : Int)).toNat = j := by
      rw [seqIndex_neg (by lia) h4] at h1
      rw [List.size_toArray, ← hl]
      exact Option.some.inj h1
    exact subscriptTail_builtinR (x := w) pl.isList.typeIs slot_list_getitem.lookup
      (wpAny_getItem_list_neg (Q := fun r s' => r = w ∧ EP X pins σ Q r s') pl.isList (by lia) (by rw [List.size_toArray] <;> lia) (by lia) (by rw [hj]; simpa using ew) ⟨rfl, fin⟩) hs
theorem ix_tup : IxR X (rIxT X.K) := by
  intro value slice pins s σ H x y v u Q I rx ry h hs
  obtain ⟨p, xs, i, z, rfl, rfl, hq, he, q⟩ := h
  cases rx
  obtain ⟨t, rfl⟩ := ry
  obtain ⟨its, r, pl, hz⟩ := I.tuple hq
  obtain ⟨j, h1, h2, h3, h4, h5⟩ := atI_get he
  obtain ⟨w, ew, rw'⟩ := r.get h2
  have hl := r.length
  have hn := line63
  have fin : EP X pins σ Q w s := ⟨z, H, I, rw', q⟩
  exact subscriptTail_builtinR (x := w) pl.typeIs slot_tuple_getitem.lookup
    (getItem_tuple (j := j) (Q := fun r s' => r = w ∧ EP X pins σ Q r s') pl (by lia) (by lia) (by rw [List.size_toArray, ← hl]; exact h1) (by simpa using ew) ⟨rfl, fin⟩) hs
theorem ix_str : IxR X rIxS := by
  intro value slice pins s σ H x y v u Q I rx ry h hs
  obtain ⟨z, i, c, rfl, rfl, hz, he, q⟩ := h
  obtain ⟨t, rfl⟩ := rx
  obtain ⟨t', rfl⟩ := ry
  obtain ⟨j, h1, h2, h3, h4, h5⟩ := atI_get he
  have hl : z.cps.toList.length = z.length := by simp [Str.length]
  rw [hl] at h1 h4 h5
  have hn := line63
  exact tail_any (typeIs_str s z t) slot_str_getitem.lookup (getItem_str (c := c) (by
    have e1 : decide (i < -(2 ^ 63 : Int)) = false := decide_eq_false (by lia)
    have e2 : decide (i ≥ 2 ^ 63) = false := decide_eq_false (by lia)
    rw [e1, e2, Bool.or_false]) (by rw [h1]; simpa using h2) ⟨.str ⟨#[c]⟩, H, I.tok _, ⟨_, rfl⟩, q⟩) hs
def rIx (K : PySem.W.Frag) : R2 := fun x y H Q => rIxL K x y H Q ∨ rIxT K x y H Q ∨ rIxS x y H Q
theorem ix_seq : IxR X (rIx X.K) := ix_list.or (ix_tup.or ix_str)
theorem mapSeq_set (its : List Value) (n j : Nat) (u : Value) : Obj.mapSeq (·.setIfInBounds j u) { cls := .type "list", data := .seq its.toArray n } = { cls := .type "list", data := .seq (its.set j u).toArray n } := by
  simp [Obj.mapSeq]
theorem Inv.lst {pins : List (Addr × Obj)} {σ : St} {H : Hp} {s : Shared} {p : Addr} {xs : List V} (I : Inv X pins σ H s) (h : H p = some (.lst xs)) :
    ∃ (its : List Value) (n : Nat), Vals xs its ∧ s.heap.get? p = some { cls := .type "list", data := .seq its.toArray n } ∧ xs.length ≤ sizeLine := by
  obtain ⟨z, its, n, r, e⟩ := I.hok p _ h
  exact ⟨its, n, r, e, z⟩
theorem Inv.lstUpd {pins : List (Addr × Obj)} {σ : St} {H : Hp} {s : Shared} {p : Addr} {xs ys : List V} {its its' : List Value} {n n' : Nat} {f : Obj → Obj} (I : Inv X pins σ H s) (h : H p = some (.lst xs))
    (ho : s.heap.get? p = some { cls := .type "list", data := .seq its.toArray n }) (hf : f { cls := .type "list", data := .seq its.toArray n } = { cls := .type "list", data := .seq its'.toArray n' }) (r : Vals ys its') (hz : ys.length ≤ sizeLine) (t : Nat) :
    Inv X pins σ (upd H p (.lst ys)) { s with heap := s.heap.update p f, toks := t } := by
  have e : (s.heap.update p f).get? p = some { cls := .type "list", data := .seq its'.toArray n' } := by
    rw [Heap.get?_update_self f ho (by rw [hf] <;> rfl), hf]
  refine I.write (x := p) (e := p) (by rw [h]; trivial) (.inl rfl) (fun b u hb q => (Heap.get?_update_other _ _ (Ne.symm hb)).trans q) ⟨_, e⟩ ?_
  exact ⟨hz, its', n', r, e⟩
def rSetL : V → V → V → Hp → (Hp → Prop) → Prop := fun o i v H Q => ∃ p xs k j, o = .ref p ∧ i = .int k ∧ H p = some (.lst xs) ∧ ixN xs.length k = some j ∧ Q (upd H p (.lst (xs.set j v)))
theorem set_list : PSet X rSetL := by
  intro pins s σ H o i v ov iv u Q I ro ri rv h
  obtain ⟨p, xs, k, j, rfl, rfl, hp, hj, q⟩ := h
  cases ro
  obtain ⟨t, rfl⟩ := ri
  obtain ⟨its, n, r, ho, hz⟩ := I.lst hp
  obtain ⟨h1, h2, h3, h4⟩ := ixN_seq hj
  have hl := r.length
  have hn := line63
  have I' : Inv X pins σ (upd H p (.lst (xs.set j v))) { s with heap := s.heap.update p (Obj.mapSeq (·.setIfInBounds j u)) } :=
    I.lstUpd hp ho (mapSeq_set its n j u) (r.set rv j) (by rw [List.length_set]; exact hz) s.toks
  by_cases h0 : 0 ≤ k
  · have hk : k.toNat = j := by
      rw [seqIndex_of h0 h4] at h1
      exact Option.some.inj h1
    exact PySem.W.ki_setAt ho h0 (by lia) (by rw [List.size_toArray, ← hl]; exact h4) (by rw [hk]; exact ⟨_, I', q⟩)
  · have hk : (k + (its.toArray.size : Int)).toNat = j := by
      rw [seqIndex_neg (by lia) h3] at h1
      rw [List.size_toArray, ← hl]
      exact Option.some.inj h1
    exact PySem.W.ki_setBack ho (by lia) (by rw [List.size_toArray, ← hl]; exact h3) (by lia) (by rw [hk]; exact ⟨_, I', q⟩)
theorem slice_bounds (lo hi : Option Int) (n : Nat) : (sliceBounds lo hi none n).1 = ((HT.sIx n 0 lo : Nat) : Int) ∧ (sliceBounds lo hi none n).2.1 = ((HT.sIx n n hi : Nat) : Int) ∧ (sliceBounds lo hi none n).2.2 = 1 := by
  refine ⟨?_, ?_, rfl⟩
  · cases lo with
    | none => simp [sliceBounds, HT.sIx]
    | some i =>
      simp only [sliceBounds, HT.sIx, Option.getD_none, show (1 : Int) > 0 by decide, if_true]
      by_cases h : i < 0
      · simp only [h, if_true] <;> lia
      · simp only [h, if_false] <;> lia
  · cases hi with
    | none => simp [sliceBounds, HT.sIx]
    | some i =>
      simp only [sliceBounds, HT.sIx, Option.getD_none, show (1 : Int) > 0 by decide, if_true]
      by_cases h : i < 0
      · simp only [h, if_true] <;> lia
      · simp only [h, if_false] <;> lia
theorem slicePick_cut (its : List Value) (lo hi : Option Int) : slicePick its.toArray lo hi none = ((its.drop (HT.sIx its.length 0 lo)).take (HT.sIx its.length its.length hi - HT.sIx its.length 0 lo)).toArray := by
  obtain ⟨h1, h2, h3⟩ := slice_bounds lo hi its.toArray.size
  unfold slicePick
  rw [h1, h2, h3]
  simp only [sliceRange_one, pick_run, List.size_toArray] <;> rfl
def rSlL (K : PySem.W.Frag) : V → Option Int → Option Int → Hp → VK → Prop := fun x lo hi H Q => ∃ a xs, x = .ref a ∧ SqL K H a xs ∧ ∀ p, H p = none → Q (.ref p) (upd H p (.lst (cutV xs lo hi)))
theorem sl_list : SlR X (rSlL X.K) := by
  intro pins s σ H x v vl vu lo hi sl Q I rx hs pl pu h
  obtain ⟨a, xs, rfl, hx, q⟩ := h
  cases rx
  obtain ⟨its, r, ht, hz⟩ := I.list hx
  have hlen := r.length
  refine ⟨"list", _, slot_list_getitem.lookup, ht.isList.typeIs, ?_⟩
  refine wpAny_getItem_list_slice ht.isList hs pl pu .none (by simp) ?_ (by rw [List.size_toArray] <;> lia)
  rw [slicePick_cut, ← hlen]
  refine ⟨.ref s.heap.objs.size, _, I.laid (t' := s.toks) (o := .lst (cutV xs lo hi)) (fun b ob q => Heap.get?_push_of_some _ q) (Nat.le_refl _) ?_, rfl, q _ (I.hok.fresh (Nat.le_refl _))⟩
  exact ⟨Nat.le_trans (cutV_length xs lo hi) hz, _, 0, (r.drop (HT.sIx xs.length 0 lo)).take (HT.sIx xs.length xs.length hi - HT.sIx xs.length 0 lo), Heap.get?_push_size _ rfl⟩
def flatV : V → Bool
  | .non => true
  | .bl _ => true
  | .int _ => true
  | .str _ => true
  | _ => false
def eqV : V → V → Bool
  | .non, .non => true
  | .bl a, .bl b => a == b
  | .bl a, .int b => (if a then 1 else 0) == b
  | .int a, .bl b => a == (if b then 1 else 0)
  | .int a, .int b => a == b
  | .str a, .str b => a == b
  | _, _ => false
theorem eqAt_V {A : Around} {s : Shared} {y x : V} {u v : Value} (ry : RelV y u) (rx : RelV x v) (fy : flatV y = true) (fx : flatV x = true) : SeqAt.EqAt A s u v (eqV y x) := by
  cases y with
  | non =>
    cases ry
    cases x with
    | non => cases rx; exact SeqAt.EqAt.same _
    | bl b => cases rx; exact SeqAt.EqAt.none_bool b
    | int b => obtain ⟨t, rfl⟩ := rx; exact SeqAt.EqAt.none_int b t
    | str b => obtain ⟨t, rfl⟩ := rx; exact SeqAt.EqAt.none_str b t
    | _ => exact absurd (show false = true from fx) Bool.false_ne_true
  | bl a =>
    cases ry
    cases x with
    | non => cases rx; exact SeqAt.EqAt.bool_none a
    | bl b => cases rx; exact SeqAt.EqAt.bool_bool a b
    | int b => obtain ⟨t, rfl⟩ := rx; exact SeqAt.EqAt.bool_int a b t
    | str b => obtain ⟨t, rfl⟩ := rx; exact SeqAt.EqAt.bool_str a b t
    | _ => exact absurd (show false = true from fx) Bool.false_ne_true
  | int a =>
    obtain ⟨t', rfl⟩ := ry
    cases x with
    | non => cases rx; exact SeqAt.EqAt.int_none a t'
    | bl b => cases rx; exact SeqAt.EqAt.int_bool a t' b
    | int b => obtain ⟨t, rfl⟩ := rx; exact SeqAt.EqAt.int_int a t' b t
    | str b => obtain ⟨t, rfl⟩ := rx; exact SeqAt.EqAt.int_str a t' b t
    | _ => exact absurd (show false = true from fx) Bool.false_ne_true
  | str a =>
    obtain ⟨t', rfl⟩ := ry
    cases x with
    | non => cases rx; exact SeqAt.EqAt.str_none a t'
    | bl b => cases rx; exact SeqAt.EqAt.str_bool a t' b
    | int b => obtain ⟨t, rfl⟩ := rx; exact SeqAt.EqAt.str_int a t' b t
    | str b => obtain ⟨t, rfl⟩ := rx; exact SeqAt.EqAt.str_str a t' b t
    | _ => exact absurd (show false = true from fx) Bool.false_ne_true
  | _ => exact absurd (show false = true from fy) Bool.false_ne_true
def eqU (x : V) (u : Value) : Bool := match u with
  | .none => eqV .non x
  | .bool b => eqV (.bl b) x
  | .int i _ => eqV (.int i) x
  | .str z _ => eqV (.str z) x
  | _ => false
theorem eqU_of {x y : V} {u : Value} (r : RelV y u) (f : flatV y = true) : eqU x u = eqV y x := by
  cases y with
  | non => cases r; rfl
  | bl b => cases r; rfl
  | int i => obtain ⟨t, rfl⟩ := r; rfl
  | str z => obtain ⟨t, rfl⟩ := r; rfl
  | _ => exact absurd (show false = true from f) Bool.false_ne_true
theorem any_eqU {x : V} : ∀ {xs : List V} {us : List Value}, Vals xs us → xs.all flatV = true → us.any (eqU x) = xs.any fun y => eqV y x
  | _, _, .nil, _ => rfl
  | y :: xs, u :: us, .cons r t, f => by
    rw [List.all_cons, Bool.and_eq_true] at f
    rw [List.any_cons, List.any_cons, eqU_of r f.1, any_eqU t f.2]
theorem mem_eqAt {A : Around} {s : Shared} {x : V} {v : Value} (rx : RelV x v) (fx : flatV x = true) : ∀ {xs : List V} {us : List Value}, Vals xs us → xs.all flatV = true → ∀ u ∈ us, SeqAt.EqAt A s u v (eqU x u)
  | _, _, .nil, _ => fun u hu => by cases hu
  | y :: xs, u :: us, .cons r t, f => fun u' hu => by
    rw [List.all_cons, Bool.and_eq_true] at f
    rcases List.mem_cons.mp hu with rfl | hu
    · rw [eqU_of r f.1]; exact eqAt_V r rx f.1 fx
    · exact mem_eqAt rx fx t f.2 u' hu
def inV (x : V) (xs : List V) : Bool := xs.any fun y => eqV y x
def rIn (K : PySem.W.Frag) (neg : Bool) : R2 := fun x y H Q => ∃ p xs, y = .ref p ∧ (SqL K H p xs ∨ SqT K H p xs) ∧ flatV x = true ∧ xs.all flatV = true ∧ Q (.bl (if neg then !inV x xs else inV x xs)) H
theorem op_in_seq : OpR X (compareOp .In) (rIn X.K false) := by
  intro pins s σ H x y v u Q I rx ry h
  obtain ⟨p, xs, rfl, hq, fx, fs, q⟩ := h
  cases ry
  rcases hq with hq | hq
  · obtain ⟨its, r, pl, hz⟩ := I.list hq
    refine SeqAt.in_listAt (eqU x) pl.isList (fun w hw => mem_eqAt rx fx r fs w (by simpa using hw)) ⟨.bl _, H, I, rfl, ?_⟩
    rw [show its.toArray.any (eqU x) = its.any (eqU x) by simp, any_eqU r fs]
    exact q
  · obtain ⟨its, r, pl, hz⟩ := I.tuple hq
    refine SeqAt.in_tupleAt (eqU x) pl (fun w hw => mem_eqAt rx fx r fs w (by simpa using hw)) ⟨.bl _, H, I, rfl, ?_⟩
    rw [show its.toArray.any (eqU x) = its.any (eqU x) by simp, any_eqU r fs]
    exact q
theorem op_notIn_seq : OpR X (compareOp .NotIn) (rIn X.K true) := by
  intro pins s σ H x y v u Q I rx ry h
  obtain ⟨p, xs, rfl, hq, fx, fs, q⟩ := h
  cases ry
  rcases hq with hq | hq
  · obtain ⟨its, r, pl, hz⟩ := I.list hq
    refine SeqAt.notIn_listAt (eqU x) pl.isList (fun w hw => mem_eqAt rx fx r fs w (by simpa using hw)) ⟨.bl _, H, I, rfl, ?_⟩
    rw [show its.toArray.any (eqU x) = its.any (eqU x) by simp, any_eqU r fs]
    exact q
  · obtain ⟨its, r, pl, hz⟩ := I.tuple hq
    refine SeqAt.notIn_tupleAt (eqU x) pl (fun w hw => mem_eqAt rx fx r fs w (by simpa using hw)) ⟨.bl _, H, I, rfl, ?_⟩
    rw [show its.toArray.any (eqU x) = its.any (eqU x) by simp, any_eqU r fs]
    exact q
theorem op_notIn_str : OpR X (compareOp .NotIn) (fun x y H Q => ∃ i j, x = .str i ∧ y = .str j ∧ Q (.bl (!(!(Builtin.Str.occurrences j i 0 j.length 1).isEmpty))) H) := by
  intro pins s σ H x y v u Q I rx ry h
  obtain ⟨i, j, rfl, rfl, q⟩ := h
  obtain ⟨t, rfl⟩ := rx
  obtain ⟨t', rfl⟩ := ry
  exact notIn_str ⟨.bl _, H, I, rfl, q⟩
theorem CallR.or {f : Value} {r r' : List V → Hp → VK → Prop} (h : CallR X f r) (h' : CallR X f r') : CallR X f (fun xs H Q => r xs H Q ∨ r' xs H Q) := by
  intro pins s σ H xs us Q I rs q
  rcases q with q | q
  · exact h pins s σ H xs us Q I rs q
  · exact h' pins s σ H xs us Q I rs q
theorem call_list_of : CallR X (.type "list") (fun xs H Q => ∃ p ys, xs = [.ref p] ∧ (SqL X.K H p ys ∨ SqT X.K H p ys) ∧ ∀ l, H l = none → Q (.ref l) (upd H l (.lst ys))) := by
  intro pins s σ H xs us Q I r h
  obtain ⟨p, ys, rfl, hq, q⟩ := h
  obtain ⟨u, rfl, rx⟩ := vals1 r
  cases rx
  have fin : ∀ (its : List Value), Vals ys its → ys.length ≤ sizeLine → ∀ (h' : Heap) (c' : Nat), (∀ b o', s.heap.get? b = some o' → h'.get? b = some o') →
      h'.get? s.heap.objs.size = some { cls := .type "list", dict := none, data := .seq its.toArray c', slots := #[] } → EP X pins σ Q (.ref s.heap.objs.size) { s with heap := h' } := fun its r' hz h' c' kp e =>
    ⟨.ref s.heap.objs.size, _, I.laid (t' := s.toks) kp (Nat.le_refl _) (show ObjOk X.prog X.w _ h' _ (.lst ys) from ⟨hz, its, c', r', e⟩), rfl, q _ (I.hok.fresh (Nat.le_refl _))⟩
  rcases hq with hq | hq
  · obtain ⟨its, r', pl, hz⟩ := I.list hq
    have hlen := r'.length
    obtain ⟨o, ho, hc, n, hd⟩ := pl.isList
    exact call_list_seq p (.inl rfl) ho hc hd (fun h' c' kp e => fin its r' hz h' c' kp e) (by simp only [List.size_toArray] <;> lia)
  · obtain ⟨its, r', pl, hz⟩ := I.tuple hq
    have hlen := r'.length
    obtain ⟨o, ho, hc, n, hd⟩ := pl
    exact call_list_seq p (.inr rfl) ho hc hd (fun h' c' kp e => fin its r' hz h' c' kp e) (by simp only [List.size_toArray] <;> lia)
def tyV (K : PySem.W.Frag) (T : String) (x : V) (H : Hp) : Prop := match x with
  | .str _ => T = "str"
  | .int _ => T = "int"
  | .ref p => (T = "list" ∧ ∃ xs, SqL K H p xs) ∨ (T = "tuple" ∧ ∃ o, K.lookup p = some o ∧ o.cls = .type "tuple" ∧ o.dict = none) ∨
      (T = "dict" ∧ ((∃ kvs, H p = some (.dK kvs)) ∨ ∃ kvs, H p = some (.dT kvs))) ∨ (T = "set" ∧ ∃ S n, H p = some (.set S n))
  | _ => False
theorem tyV_is {pins : List (Addr × Obj)} {σ : St} {H : Hp} {s : Shared} {T : String} {x : V} {v : Value} (I : Inv X pins σ H s) (r : RelV x v) (ty : tyV X.K T x H) :
    s.TypeIs v T ∧ ∀ a, v = .ref a → ∃ ob, s.heap.get? a = some ob ∧ ob.dict = none := by
  cases x with
  | str z =>
    obtain ⟨t, rfl⟩ := r
    cases (show T = "str" from ty)
    exact ⟨typeIs_str s z t, fun _ e => nomatch e⟩
  | int i =>
    obtain ⟨t, rfl⟩ := r
    cases (show T = "int" from ty)
    exact ⟨typeIs_int s i t, fun _ e => nomatch e⟩
  | ref p =>
    cases r
    rcases ty with ⟨rfl, xs, hq⟩ | ⟨rfl, o, hk, hc, hd⟩ | ⟨rfl, hk⟩ | ⟨rfl, S, n, hk⟩
    · obtain ⟨its, _, pl, _⟩ := I.list hq
      refine ⟨pl.isList.typeIs, fun a e => ?_⟩
      cases e
      obtain ⟨o, n, e, c, hd, _⟩ := pl
      exact ⟨o, e, hd⟩
    · refine ⟨⟨o, I.kIn p o hk, hc⟩, fun a e => ?_⟩
      cases e
      exact ⟨o, I.kIn _ o hk, hd⟩
    · have z : ∃ o, s.heap.get? p = some o ∧ o.ExactDict := by
        rcases hk with ⟨kvs, hk⟩ | ⟨kvs, hk⟩
        · obtain ⟨_, _, _, _, o, _, _, e, ex, _⟩ := I.hok p _ hk
          exact ⟨o, e, ex⟩
        · obtain ⟨_, _, _, _, o, _, _, e, ex, _⟩ := I.hok p _ hk
          exact ⟨o, e, ex⟩
      obtain ⟨o, e, ex⟩ := z
      refine ⟨⟨o, e, ex.1⟩, fun a e2 => ?_⟩
      cases e2
      exact ⟨o, e, ex.2.1⟩
    · obtain ⟨o, _, _, _, e, ex, _⟩ := I.hok p _ hk
      refine ⟨⟨o, e, ex.1⟩, fun a e2 => ?_⟩
      cases e2
      exact ⟨o, e, ex.2.1⟩
  | _ => exact False.elim ty
def tBM0 (K : PySem.W.Frag) (T : String) (r : V → List V → Hp → VK → Prop) (to : TE) : TE := fun σ H Q => to σ H fun x H1 => tyV K T x H1 ∧ r x [] H1 Q
def tBM (K : PySem.W.Frag) (T : String) (r : V → List V → Hp → VK → Prop) (to : TE) (t : TA) : TE := fun σ H Q => to σ H fun x H1 => tyV K T x H1 ∧ t σ H1 fun xs H2 => r x xs H2 Q
variable {o e : Expr} {es : List Expr} {to : TE} {t : TA} {name : Str} {apos cpos : Pos} {T id : String} {r : V → List V → Hp → VK → Prop}
theorem pe_bm0 (pa : PlainAttrs T) (slot : Slot T name id) (hty : typeOf (.builtin id) = pure (.type "method_descriptor")) (hm : MtR X id r) (ho : PE X o to)
    (hbase : attributeBase o name X.env (eval o X.env) = eval o X.env := by rfl) (hline : (apos.endLine == cpos.line) = true := by rfl) : PE X (.Call (.Attribute o name apos) [] [] cpos) (tBM0 X.K T r to) := by
  intro pins s σ H Q I h
  refine wpAny_Call_method0_late hbase hline (thn (ho pins s σ H _ I h) fun v s1 ⟨x, H1, I1, r1, ty, q1⟩ => ?_)
  obtain ⟨h1, h2⟩ := tyV_is I1 r1 ty
  exact ⟨T, id, pa, slot, hty, h1, h2, Calls.callWith_builtin rfl (PySem.evalArgs_none (hm pins s1 σ H1 x [] v [] Q I1 r1 .nil q1))⟩
theorem pe_bm (pa : PlainAttrs T) (slot : Slot T name id) (hty : typeOf (.builtin id) = pure (.type "method_descriptor")) (hm : MtR X id r) (ho : PE X o to) (ha : PA X (e :: es) t)
    (hbase : attributeBase o name X.env (eval o X.env) = eval o X.env := by rfl)
    (hfew : ((backTo cpos (starEach (e :: es) X.env)).all (fun x => !x.1) && (backToKw cpos (keywordEach [] X.env)).all (fun x => x.1.isSome)
      && decide ((e :: es).length + ([] : List Keyword).length + (if ([] : List Keyword).isEmpty then 0 else 1) < 30)) = true := by rfl)
    (hline : (apos.endLine == cpos.line) = true := by rfl) (hs : starEach (e :: es) X.env = (false, eval e X.env) :: starEach es X.env := by rfl) (hplain : (backTo cpos (starEach es X.env)).any (·.1) = false := by rfl) :
    PE X (.Call (.Attribute o name apos) (e :: es) [] cpos) (tBM X.K T r to t) := by
  intro pins s σ H Q I h
  refine wpAny_Call_method_late hbase hfew hline rfl (thn (ho pins s σ H _ I h) fun v s1 ⟨x, H1, I1, r1, ty, q1⟩ => ?_)
  obtain ⟨h1, h2⟩ := tyV_is I1 r1 ty
  refine ⟨T, id, pa, slot, hty, h1, h2, ?_⟩
  have hA := ha cpos pins s1 σ H1 _ I1 q1
  rw [hs] at hA ⊢
  refine Calls.callWith_builtin (by show (false || (backTo cpos (starEach es X.env)).any (·.1)) = false; rw [hplain] <;> rfl) (Calls.evalArgs_plain ?_)
  exact thn hA fun us s2 ⟨vs, H2, I2, r2, q2⟩ => hm pins s2 σ H2 x vs v us Q I2 r1 r2 q2
end
end L2
namespace L2
open PySem PySem.Spec PyProof.Rows
def MtM (X : Cx) (id : String) (r : V → List V → Hp → VK → Prop) : Prop :=
  ∀ (pins : List (Addr × Obj)) (s : Shared) (σ : St) (H : Hp) (x : V) (xs : List V) (v : Value) (us : List Value) (Q : VK), Inv X pins σ H s → RelV x v → Vals xs us → r x xs H Q →
    wpAny (model X.prog X.w) X.A (call (.builtin id) (v :: us)) (EP X pins σ Q) X.xe s
theorem Vals.one : ∀ {x : V} {us : List Value}, Vals [x] us → ∃ u, us = [u] ∧ RelV x u
  | _, _, .cons r .nil => ⟨_, rfl, r⟩
theorem Vals.two : ∀ {x y : V} {us : List Value}, Vals [x, y] us → ∃ u v, us = [u, v] ∧ RelV x u ∧ RelV y v
  | _, _, _, .cons r (.cons q .nil) => ⟨_, _, rfl, r, q⟩
theorem Vals.zero : ∀ {us : List Value}, Vals [] us → us = []
  | _, .nil => rfl
theorem Vals.reverse {xs : List V} {us : List Value} (h : Vals xs us) : Vals xs.reverse us.reverse := by
  induction h with
  | nil => exact .nil
  | cons r t ih => rw [List.reverse_cons, List.reverse_cons]; exact Vals.append ih (.cons r .nil)
theorem Vals.rep {xs : List V} {us : List Value} (h : Vals xs us) : ∀ k : Nat, Vals (List.replicate k xs).flatten (List.replicate k us).flatten
  | 0 => .nil
  | k + 1 => by
    rw [List.replicate_succ, List.replicate_succ, List.flatten_cons, List.flatten_cons]
    exact Vals.append h (Vals.rep h k)
theorem foldl_rep (its : List Value) : ∀ (k : Nat) (acc : List Value),
    List.foldl (fun x1 x2 => x1 ++ x2) acc.toArray (List.replicate k its.toArray) = (acc ++ (List.replicate k its).flatten).toArray
  | 0, acc => by simp
  | k + 1, acc => by
    have e : acc.toArray ++ its.toArray = (acc ++ its).toArray := by simp
    have e2 : (acc ++ its) ++ (List.replicate k its).flatten = acc ++ (List.replicate (k + 1) its).flatten := by
      rw [List.replicate_succ, List.flatten_cons, List.append_assoc]
    rw [← e2, ← foldl_rep its k (acc ++ its), ← e, List.replicate_succ, List.foldl_cons]
section
variable {X : Cx} {pins : List (Addr × Obj)} {σ : St} {H : Hp} {s : Shared} {l b : Addr} {xs ys zs : List V}
theorem Inv.lset {its its' : List Value} {n : Nat} {f : Array Value → Array Value} {t' : Nat} (I : Inv X pins σ H s) (hH : H l = some (.lst xs))
    (e : s.heap.get? l = some { cls := .type "list", data := .seq its.toArray n }) (hf : f its.toArray = its'.toArray) (hv : Vals ys its') (hz : ys.length ≤ sizeLine) :
    Inv X pins σ (upd H l (.lst ys)) { s with heap := s.heap.update l (Obj.mapSeq f), toks := t' } := by
  have q := PySem.IsL.update e f
  rw [hf] at q
  refine I.write (x := l) (e := l) (by rw [hH]; exact trivial) (.inl rfl) (fun b' u hb hu => (Heap.get?_update_other s.heap (Obj.mapSeq f) (Ne.symm hb)).trans hu) ⟨_, q⟩ ?_
  exact ⟨hz, its', _, hv, q⟩
theorem Inv.lnew {its : List Value} {t' : Nat} (I : Inv X pins σ H s) (hv : Vals ys its) (hz : ys.length ≤ sizeLine) :
    Inv X pins σ (upd H s.heap.objs.size (.lst ys)) { s with heap := s.heap.push { cls := .type "list", data := .seq its.toArray }, toks := t' } :=
  I.laid (fun _ _ q => Heap.get?_push_of_some _ q) (Nat.le_refl _) ⟨hz, its, 0, hv, Heap.get?_push_size _ rfl⟩
theorem Inv.fresh (I : Inv X pins σ H s) : H s.heap.objs.size = none := I.hok.fresh (Nat.le_refl _)
theorem Inv.lstM (I : Inv X pins σ H s) (hH : H l = some (.lst xs)) : xs.length ≤ sizeLine ∧ ∃ (its : List Value) (n : Nat), Vals xs its ∧ xs.length = its.length ∧ s.heap.get? l = some { cls := .type "list", data := .seq its.toArray n } := by
  obtain ⟨z, its, n, r, e⟩ := I.hok l _ hH
  exact ⟨z, its, n, r, r.length, e⟩
theorem notLongL {n : Nat} (h : n ≤ sizeLine) : Builtin.List.listTooLong n = false := by
  unfold Builtin.List.listTooLong
  exact decide_eq_false (by lia)
end
section
variable {X : Cx}
def rAppend : V → List V → Hp → VK → Prop := fun x vs H Q => ∃ l xs y, x = .ref l ∧ vs = [y] ∧ H l = some (.lst xs) ∧ xs.length < sizeLine ∧ Q .non (upd H l (.lst (xs ++ [y])))
theorem mt_append : MtM X "list.append" rAppend := by
  intro pins s σ H x vs v us Q I rx rv h
  obtain ⟨l, xs, y, rfl, rfl, hH, hz, q⟩ := h
  cases rx
  obtain ⟨u, rfl, ru⟩ := rv.one
  obtain ⟨z, its, n, r, hl, e⟩ := I.lstM hH
  refine call_meets F.slot_list_append ⟨_, e, rfl⟩ F.entry_list_append (F.args_list_append_2 _ _) (PySem.list_append l its.toArray n u (by rw [List.size_toArray]; lia)) ⟨e, ?_⟩
  refine ⟨.non, _, I.lset (its' := its ++ [u]) hH e (by simp) (r.append (.cons ru .nil)) ?_, rfl, q⟩
  rw [List.length_append, List.length_singleton]
  lia
def rExtend : V → List V → Hp → VK → Prop := fun x vs H Q => ∃ l b xs zs, x = .ref l ∧ vs = [.ref b] ∧ H l = some (.lst xs) ∧ H b = some (.lst zs) ∧ xs.length + zs.length ≤ sizeLine ∧ Q .non (upd H l (.lst (xs ++ zs)))
theorem mt_extend : MtM X "list.extend" rExtend := by
  intro pins s σ H x vs v us Q I rx rv h
  obtain ⟨l, b, xs, zs, rfl, rfl, hH, hB, hz, q⟩ := h
  cases rx
  obtain ⟨u, rfl, ru⟩ := rv.one
  cases ru
  obtain ⟨z, its, n, r, hl, e⟩ := I.lstM hH
  obtain ⟨z2, its2, n2, r2, hl2, e2⟩ := I.lstM hB
  have hsz : its.toArray.size + its2.toArray.size ≤ sizeLine := by rw [List.size_toArray, List.size_toArray]; lia
  have hlong : ¬ (!its.toArray.isEmpty && Builtin.List.listTooLong (its.toArray.size + its2.toArray.size)) = true := by
    rw [notLongL hsz, Bool.and_false]
    exact Bool.false_ne_true
  refine call_meets F.slot_list_extend ⟨_, e, rfl⟩ F.entry_list_extend (F.args_list_extend_2 _ _)
    (AutoSeq1.list_extend_list_list_0 l its.toArray n b its2.toArray n2 hlong (by rw [List.size_toArray]; lia) (by lia)) ⟨e, e2, ?_⟩
  refine ⟨.non, _, I.lset (its' := its ++ its2) hH e (by simp) (r.append r2) ?_, rfl, q⟩
  rw [List.length_append]
  lia
def rReverse : V → List V → Hp → VK → Prop := fun x vs H Q => ∃ l xs, x = .ref l ∧ vs = [] ∧ H l = some (.lst xs) ∧ Q .non (upd H l (.lst xs.reverse))
theorem mt_reverse : MtM X "list.reverse" rReverse := by
  intro pins s σ H x vs v us Q I rx rv h
  obtain ⟨l, xs, rfl, rfl, hH, q⟩ := h
  cases rx
  have hus := rv.zero
  subst hus
  obtain ⟨z, its, n, r, hl, e⟩ := I.lstM hH
  refine call_meets F.slot_list_reverse ⟨_, e, rfl⟩ F.entry_list_reverse (F.args_list_reverse_1 _) (AutoSeq1.list_reverse_list_0 l its.toArray n (by rw [List.size_toArray]; lia)) ⟨e, ?_⟩
  refine ⟨.non, _, I.lset (its' := its.reverse) hH e (by simp) r.reverse ?_, rfl, q⟩
  rw [List.length_reverse]
  lia
def rCat : R2 := fun x y H Q => ∃ l b xs zs, x = .ref l ∧ y = .ref b ∧ H l = some (.lst xs) ∧ H b = some (.lst zs) ∧ xs.length + zs.length ≤ sizeLine ∧ ∀ p, H p = none → Q (.ref p) (upd H p (.lst (xs ++ zs)))
theorem op_cat : OpR X (binaryOp .Add) rCat := by
  intro pins s σ H x y v u Q I rx ry h
  obtain ⟨l, b, xs, zs, rfl, rfl, hH, hB, hz, q⟩ := h
  cases rx
  cases ry
  obtain ⟨z, its, n, r, hl, e⟩ := I.lstM hH
  obtain ⟨z2, its2, n2, r2, hl2, e2⟩ := I.lstM hB
  refine PySem.P.add_list e e2 ?_ (by rw [List.size_toArray, List.size_toArray]; lia)
  have ea : its.toArray ++ its2.toArray = (its ++ its2).toArray := by simp
  rw [ea]
  exact ⟨.ref _, _, I.lnew (t' := s.toks) (r.append r2) (by rw [List.length_append]; lia), rfl, q _ I.fresh⟩
def rRep : R2 := fun x y H Q => ∃ l k xs, x = .ref l ∧ y = .int k ∧ H l = some (.lst xs) ∧ -(2 ^ 63) ≤ k ∧ k < 2 ^ 63 ∧ xs.length * k.toNat ≤ sizeLine ∧
  ∀ p, H p = none → Q (.ref p) (upd H p (.lst (List.replicate k.toNat xs).flatten))
theorem len_rep {α : Type} (xs : List α) (k : Nat) : (List.replicate k xs).flatten.length = k * xs.length := by
  induction k with
  | zero => simp
  | succ k ih => rw [List.replicate_succ, List.flatten_cons, List.length_append, ih, Nat.succ_mul, Nat.add_comm]
theorem op_rep : OpR X (binaryOp .Mult) rRep := by
  intro pins s σ H x y v u Q I rx ry h
  obtain ⟨l, k, xs, rfl, rfl, hH, h1, h2, hz, q⟩ := h
  cases rx
  obtain ⟨t, rfl⟩ := ry
  obtain ⟨z, its, n, r, hl, e⟩ := I.lstM hH
  have hlen : its.toArray.size * k.toNat ≤ sizeLine := by rw [List.size_toArray, ← hl]; exact hz
  have hcap : ¬ its.toArray.size * k.toNat > (2 ^ 63 - 1) / 8 := by
    have : (sizeLine : Nat) ≤ (2 ^ 63 - 1) / 8 := by decide
    lia
  have hfit : ¬ (!Builtin.List.listFitsIndex k) = true := by
    rw [fitsIndex_both h1 h2]
    exact Bool.false_ne_true
  have hlong : ¬ Builtin.List.listTooLong (its.toArray.size * k.toNat) = true := by
    rw [notLongL hlen]
    exact Bool.false_ne_true
  have hnew : List.foldl (fun x1 x2 => x1 ++ x2) #[] (List.replicate (if its.toArray.isEmpty = true then 0 else k.toNat) its.toArray) = (List.replicate k.toNat its).flatten.toArray := by
    have f0 : ∀ m : Nat, List.foldl (fun x1 x2 => x1 ++ x2) #[] (List.replicate m its.toArray) = (List.replicate m its).flatten.toArray := fun m => by
      have := foldl_rep its m []
      rw [List.nil_append] at this
      exact this
    rw [f0]
    cases its with
    | nil => simp
    | cons a r' => rw [if_neg (by simp)]
  refine wpAny_binaryOp_repeat_ref (T := "list") (U := "int") (by decide) ⟨_, e, rfl⟩ (fun s' => typeIs_int s' k t) noFill_list_mul F.fills_int_mul F.slot_int_rmul repeat_list F.slot_int_index.lookup
    (call_meets F.slot_int_rmul (typeIs_int s k t) F.entry_int_rmul (F.args_int_rmul_2 _ _) (int___rmul___int_list k t l its.toArray n)
      ⟨e, rfl, ⟨_, e, rfl⟩, call_meets F.slot_list_mul ⟨_, e, rfl⟩ F.entry_list_mul (F.args_list_mul_2 _ _) (AutoListH.list___mul___list_int_3 l its.toArray n k t hfit hcap hlong) ⟨e, ?_⟩⟩)
  rw [hnew]
  exact ⟨.ref _, _, I.lnew (t' := s.toks) (r.rep k.toNat) (by rw [len_rep, Nat.mul_comm]; exact hz), rfl, q _ I.fresh⟩
end
section
variable {prog : Program} {w : World} {A : Around} {E : Value → Shared → Prop} {s : Shared}
set_option maxRecDepth 100000 in
end
section
variable {X : Cx}
end
end L2
namespace Att
open PySem PySem.W PySem.Calls PyProof.Rows
theorem ints_of_wellAll {P : Params} {h : Heap} : ∀ (ns : List Int) (vs : List Value), WellAll P h vs (ns.map WData.int) → IntsAre vs ns := by
  intro ns
  induction ns with
  | nil =>
    intro vs w
    rw [List.map_nil] at w
    cases w
    exact .nil
  | cons n ns ih =>
    intro vs w
    rw [List.map_cons] at w
    cases w with
    | cons a b =>
      cases a
      exact .cons _ _ (ih _ b)
theorem script_of {l : OpenLaw} {n : Nat} (hn : l.most = some n) {P : Params} {h : Heap} {args : List WData} {vals : List Value}
    (hpre : l.row.toRowW.claim.pre args = true) (hwl : WellAll P h vals args) :
    ∃ a vs ns, vals = [Value.ref a] ∧ args = [WData.list (ns.map WData.int)] ∧ h.get? a = some { cls := .type "list", data := .seq vs.toArray } ∧ IntsAre vs ns ∧ ns.length ≤ n := by
  have hsh : WShape.hasAll [] args [.list .int] = true := (pre_splitW hpre).1
  have hc : l.pre.holds [] { args := args } = true := (pre_splitW hpre).2
  obtain ⟨d, r, rfl, h1, h2⟩ := hasAllW_cons hsh
  obtain rfl := hasAllW_nil h2
  obtain ⟨xs, rfl, h3⟩ := hasW_list h1
  obtain ⟨ns, rfl⟩ := items_int h3
  have hlen : ns.length ≤ n := by
    unfold OpenLaw.pre at hc
    have h4 : (WTm.not (.lt (.lit (.int (n : Int))) (.len (.arg 0)))).holds [] { args := [.list (ns.map .int)] } = true := by
      have h4 := (holds_andW hc).1
      rw [hn] at h4
      exact h4
    have h5 := condW_of h4 (w_not (w_lt w_lit (w_len_list (w_arg rfl))))
    rw [List.length_map] at h5
    refine Nat.le_of_not_lt fun q => ?_
    have q' : (n : Int) < ((ns.length : Nat) : Int) := by lia
    first
      | (rw [decide_eq_true q'] at h5; exact absurd h5 (by decide))
      | (simp at h5; lia)
  cases hwl with
  | cons w1 w2 =>
    cases w2
    cases w1 with
    | list ho hall => exact ⟨_, _, ns, rfl, rfl, ho, ints_of_wellAll ns _ hall, hlen⟩
theorem post_true (l : OpenLaw) (args : List WData) : l.row.toRowW.claim.post args (.bool true) args = true :=
  postW_of (r := l.row.toRowW) (X := (true == true))
    (show WShape.has [] (.bool true) .bool = true by first | rfl | decide | simp [WShape.has, WShape.arms, WShape.armsAll])
    (show (WTm.eq .res (.lit (.bool true))).value [] { args := args, res := some (.bool true), after := args } = some (.bool (true == true)) from w_eq_bool (w_res rfl) w_lit) rfl
theorem attach_call {l : OpenLaw} {n : Nat} {q : Program} {loose : List Str} {XP : (Str → Option Value) → Heap → Prop} {YP : World → Heap → Prop} {d : DefRec}
    (hn : l.most = some n) (hdf : d.params.defaults = [])
    (call : ∀ (w : World) (s₀ s₁ : Shared) (mg mb : Str → Option Value) (fa : Addr) (o : Obj) (pm cd doc : Value) (a : Addr) (vs : List Value) (ns : List Int),
      Ground q loose [] XP w s₀ mg mb s₁.heap → YP w s₁.heap →
      s₁.heap.get? fa = some o → o.data = .func (docDef d.name d.params d.body d.scope pm cd doc) → s₁.heap.CodeRec cd d.name → mg d.name = some (.ref fa) →
      s₁.heap.get? a = some { cls := .type "list", data := .seq vs.toArray } → IntsAre vs ns → ns.length ≤ n → s₁.gens = #[] →
      codeAny (model l.prog w) callerA (.call (.ref fa) ⟨[.ref a], []⟩) (fun r s' => r = .ok (.ret (.bool true)) ∧ OldK s₁.heap s'.heap ∧ s'.os = s₁.os ∧ AllBare s'.gens) s₁) :
    WalkO q loose XP YP l.row.toRowW d [] (fun f vs => PySem.call f vs) := by
  intro w s₀ s₁ mg mb G Y fa o pm cd doc dV kV ho hd hcd hD hmg hg args vals as hpre hlay hrd hwl hlo
  obtain rfl : dV = .none := Dflts.none hD hdf
  obtain rfl : kV = .none := Dflts.noKw hD
  obtain ⟨a, vs, ns, rfl, rfl, hobj, hints, hlen⟩ := script_of hn hpre hwl
  refine enter_call (codeAny_mono (call w s₀ s₁ mg mb fa o pm cd doc a vs ns G Y ho (fd_plain hd) hcd hmg hobj hints hlen hg) fun r s' hq => ?_)
  obtain ⟨rfl, h2, h3, h4⟩ := hq
  exact ⟨.inl ⟨.bool true, .bool true, [], rfl, fun _ => rfl, .bool true, post_true l _, fun _ => ⟨List.Pairwise.nil, fun _ hm => (nomatch hm)⟩⟩, h2, h3, h4⟩
section
variable {prog : Program} {w : World} {A : Around} {E : Value → Shared → Prop} {s : Shared} {K : Frag}
end
end Att
namespace L2
open PySem PySem.Spec PyProof.Rows
theorem vals_ints : ∀ {vs : List Value} {ns : List Int}, IntsAre vs ns → Vals (ns.map V.int) vs
  | _, _, .nil => .nil
  | _, _, .cons n t h => .cons ⟨t, rfl⟩ (vals_ints h)
def Only (H : Hp) : Prop := ∀ b, H b = none ∨ ∃ o xs, H b = some (.frz o (.lst xs))
theorem law_call {P : Program} {w : World} {K : PySem.W.Frag} {mg mb : Str → Option Value} {CX : CXT} {k : Nat} {fa a : Addr} {fd : FuncData} {x : Str} {sp : Sp} {s₁ : Shared} {vs : List Value} {ns : List Int}
    (KX : K.In s₁.heap) (hns : s₁.heap.Ns mainGlobals mg) (hb : s₁.heap.Ns builtinsNs mb) (hbb : ∀ x : Str, x ≠ "__name__" → mb x = bootBuiltins x) (hlim : s₁.heap.NoLimit) (hg : s₁.gens = #[])
    (ha : s₁.heap.get? a = some { cls := .type "list", data := .seq vs.toArray }) (hi : IntsAre vs ns) (hl : ns.length ≤ sizeLine) (hr : Room k callerA)
    (F : ∀ base : Heap, K.In base → base.Ns mainGlobals mg → FnOk P w K mg base CX k fa fd [x] sp) (hbind : ∀ (s : Shared) (u : Value), BindsTo s fd ⟨[u], []⟩ [(x, u)])
    (hsp : ∀ H : Hp, Only H → SqL K H a (ns.map V.int) → sp [.ref a] H (fun v _ => v = .bl true) fun _ _ _ => False)
    (hCX : ∀ H e s', CX [] H s₁ (fun _ _ _ => False) e s' → False) :
    codeAny (model P w) callerA (.call (.ref fa) ⟨[.ref a], []⟩) (fun r s' => r = .ok (.ret (.bool true)) ∧ OldK s₁.heap s'.heap ∧ s'.os = s₁.os ∧ AllBare s'.gens) s₁ := by
  have rv := vals_ints hi
  have lenV := hi.length
  have core : ∀ H : Hp, Only H → SqL K H a (ns.map V.int) → HOk P w H s₁.heap → (∀ b, H b ≠ none → b = a) → (H a ≠ none → K.lookup a = none) →
      codeAny (model P w) callerA (.call (.ref fa) ⟨[.ref a], []⟩) (fun r s' => r = .ok (.ret (.bool true)) ∧ OldK s₁.heap s'.heap ∧ s'.os = s₁.os ∧ AllBare s'.gens) s₁ := by
    intro H hO hS hok hA hK
    have base_of : ∀ {b : Addr} {o : Obj}, s₁.heap.get? b = some o → H b = none → (hidT s₁.heap H).get? b = some o := fun e n => hidT_get e n
    have noA : ∀ {b : Addr} {o : Obj} {es : Array DictEntry} {ep : Nat}, s₁.heap.get? b = some o → o.data = .dict es ep → H b = none := fun {b o es ep} e d => by
      cases q : H b with
      | none => rfl
      | some u =>
        have e' : b = a := hA b (by rw [q]; simp)
        subst e'
        rw [ha] at e; cases e
        have d' : Data.seq vs.toArray _ = Data.dict es ep := d
        cases d'
    have nsK : ∀ {b : Addr} {m : Str → Option Value}, s₁.heap.Ns b m → (hidT s₁.heap H).Ns b m := fun {b m} ⟨o, es, ep, e, d, r⟩ => ⟨o, es, ep, base_of e (noA e d), d, r⟩
    have hKb : K.In (hidT s₁.heap H) := fun b o e => base_of (KX b o e) (by
      cases q : H b with
      | none => rfl
      | some u =>
        have e' : b = a := hA b (by rw [q]; simp)
        subst e'
        rw [hK (by rw [q]; simp)] at e; cases e)
    have hM : Mod K mg (hidT s₁.heap H) := ⟨hKb, nsK hns, ⟨mb, nsK hb, hbb⟩, let ⟨mc, h1, h2⟩ := hlim; ⟨mc, nsK h1, h2⟩⟩
    have e0 : Env0 P w K mg (hidT s₁.heap H) callerA [] s₁ H := ⟨rfl, hM, fun b o e => of_hidT e, Nat.le_of_eq (hidT_size _ _), trivial, fun b hb => absurd (show b ∈ ([] : List Addr) from hb) (by simp), hok, .of_eq hg⟩
    refine codeAny_mono ((F _ hKb (nsK hns)).run callerA [] s₁ H ⟨[.ref a], []⟩ [.ref a] [.ref a] _ _ hr e0 (hbind s₁ (.ref a)) (.cons rfl .nil) (hsp H hO hS)) fun r s' h => ?_
    cases r with
    | error e => exact (hCX H e s' h).elim
    | ok fl =>
      cases fl with
      | next => exact False.elim h
      | brk => exact False.elim h
      | cont => exact False.elim h
      | ret u =>
        obtain ⟨v, H', os, bare, un, hok', r', q⟩ := h
        have q' : v = .bl true := q
        subst q'
        obtain rfl : u = Value.bool true := r'
        refine ⟨rfl, OldK.of_keep fun b o e => ?_, os, bare⟩
        cases q : H b with
        | none => exact un.keep b o e q (by intro z; exact absurd (show b ∈ ([] : List Addr) from z) (by simp)) (by simp)
        | some u =>
          rcases hO b with z | ⟨ob, xs, z⟩
          · rw [q] at z; cases z
          · have z2 := un.frzs b ob _ z
            obtain ⟨e1, _⟩ := hok b _ z
            obtain ⟨e2, _⟩ := hok' b _ z2
            rw [e] at e1; cases e1
            exact e2
  cases hk : K.lookup a with
  | some o =>
    have e := KX a o hk
    rw [ha] at e
    cases e
    refine core (fun _ => none) (fun _ => .inl rfl) (.inr ⟨_, vs.toArray, _, hk, rfl, rfl, rfl, by rw [List.size_toArray, lenV]; exact hl, by simpa using rv⟩) (fun b u z => by have z' : (none : Option HO) = some u := z; cases z') (fun b z => absurd rfl z) fun z => absurd rfl z
  | none =>
    refine core (fun b => if b = a then some (.frz { cls := .type "list", data := .seq vs.toArray } (.lst (ns.map V.int))) else none) (fun b => ?_) (.inl (.inr ⟨{ cls := .type "list", data := .seq vs.toArray }, if_pos rfl⟩)) (fun b u z => ?_) (fun b z => ?_) fun _ => hk
    · by_cases hb : b = a
      · exact .inr ⟨_, _, if_pos hb⟩
      · exact .inl (if_neg hb)
    · by_cases hb : b = a
      · have z' := (if_pos hb).symm.trans z
        cases z'
        subst hb
        exact ⟨ha, by rw [List.length_map]; exact hl, vs, _, rv, ha⟩
      · have z' := (if_neg hb).symm.trans z
        cases z'
    · by_cases hb : b = a
      · exact hb
      · exact absurd (if_neg hb) z
end L2
namespace L2
open PySem PySem.Spec PyProof.Rows
theorem walk_of {l : PySem.W.OpenLaw} {n k : Nat} {q : Program} {loose : List Str} {XP : (Str → Option Value) → Heap → Prop} {YP : World → Heap → Prop} {d : DefRec} {K : Params → PySem.W.Frag} {CX : World → CXT} {sp : World → Sp} {x : Str}
    (hn : l.most = some n) (hn2 : n ≤ sizeLine) (hdf : d.params.defaults = []) (hr : Room k callerA)
    (hY : ∀ (w : World) (h : Heap), YP w h → (K w.params).In h)
    (F : ∀ (w : World) (mg : Str → Option Value) (fa : Addr) (h : Heap), (K w.params).In h → h.Ns mainGlobals mg → mg d.name = some (.ref fa) →
      ∃ fd : FuncData, (∀ (s : Shared) (u : Value), BindsTo s fd ⟨[u], []⟩ [(x, u)]) ∧
        ∀ base : Heap, (K w.params).In base → base.Ns mainGlobals mg → FnOk l.prog w (K w.params) mg base (CX w) k fa fd [x] (sp w))
    (hsp : ∀ (w : World) (H : Hp) (a : Addr) (ns : List Int), ns.length ≤ n → Only H → SqL (K w.params) H a (ns.map V.int) → sp w [.ref a] H (fun v _ => v = .bl true) fun _ _ _ => False)
    (hCX : ∀ (w : World) (H : Hp) (s : Shared) (e : Value) (s' : Shared), CX w [] H s (fun _ _ _ => False) e s' → False) :
    PySem.W.WalkO q loose XP YP l.row.toRowW d [] (fun f vs => PySem.call f vs) := by
  refine Att.attach_call hn hdf fun w s₀ s₁ mg mb fa o pm cd doc a vs ns G Y ho hd hcd hmg hobj hints hlen hg => ?_
  have KX := hY w _ Y
  obtain ⟨fd, hb, hF⟩ := F w mg fa _ KX G.T.g hmg
  exact law_call KX G.T.g G.T.b G.T.builtins G.T.nolimit hg hobj hints (Nat.le_trans hlen hn2) hr hF hb (fun H hO hS => hsp w H a ns hlen hO hS) fun H e s' => hCX w H s₁ e s'
end L2
namespace L2
open PySem PySem.Spec PyProof.Rows
def inClass (s : Stmt) (j : Nat) : Stmt := match s with
  | .ClassDef _ _ _ body _ _ _ _ _ _ _ => body.getD j (.Pass ⟨0, 0, 0, 0⟩)
  | _ => .Pass ⟨0, 0, 0, 0⟩
def defArgs (s : Stmt) : Arguments := match s with
  | .FunctionDef _ a _ _ _ _ _ _ _ _ => a
  | _ => { posonlyargs := [], args := [], vararg := none, kwonlyargs := [], kw_defaults := [], kwarg := none, defaults := [] }
def defBody (s : Stmt) : List Stmt := match s with
  | .FunctionDef _ _ b _ _ _ _ _ _ _ => b
  | _ => []
def defScope (s : Stmt) : Scope := match s with
  | .FunctionDef _ _ _ _ _ _ sc _ _ _ => sc
  | _ => { kind := .function, names := [], isGenerator := false, isCoroutine := false }
abbrev CX0 : CXT := fun _ _ _ _ _ _ => False
abbrev E0 : XK := fun _ _ _ => False
theorem pass0 {X : Cx} : Passes CX0 X E0 := fun _ _ _ _ _ _ _ h => h.elim
structure Fun (K : PySem.W.Frag) (x qual : Str) (st : Stmt) (f : Addr) (fd : FuncData) : Prop where
  ex : ∃ (oc : Value) (od : Option Addr) (kV doc pm : Value) (an : Option Addr) (cdv ct : Value) (osl : Array (Option Value)),
    fd = PySem.W.fnOf x qual (defArgs st) (defBody st) (defScope st) .none kV doc pm an cdv ct ∧ K.lookup f = some ⟨oc, od, .func fd, osl⟩ ∧ PySem.W.codeIn K cdv qual = true
  kp : PySem.W.keepIn K (.ref f) = true
section
variable {P : Program} {w : World} {K : PySem.W.Frag} {mg : Str → Option Value} {base : Heap}
theorem Fun.ok {x qual : Str} {st : Stmt} {f : Addr} {fd : FuncData} {N ps : List Str} {k : Nat} {sp : Sp} (F : Fun K x qual st f fd) (S : FnScope N ps (defScope st)) (len : ∀ vs H Q E, sp vs H Q E → vs.length = ps.length)
    (hbody : ∀ (cdv : Value) (A : Around) (outer : List Env) (s : Shared) (H : Hp) (vs : List V) (Q : VK) (E : XK), Room k (A.deeper (envOfC qual (defScope st) s.heap.objs.size f cdv)) → sp vs H Q E →
      ∃ t, PSs (cxOf CX0 P w K mg base N qual (defScope st) f cdv A outer s H E).nox (defBody st) t ∧ t { nx := fun _ H' => Q .non H', rt := Q } (start N vs) H) : FnOk P w K mg base CX0 (k + 1) f fd ps sp := by
  obtain ⟨oc, od, kV, doc, pm, an, cdv, ct, osl, rfl, lk, hcd⟩ := F.ex
  refine fn_of lk hcd S len fun A outer s H vs Q E hr hsp => ?_
  obtain ⟨t, h, q⟩ := hbody cdv A outer s H vs Q E hr hsp
  exact ⟨t, h.nox, q⟩
theorem Fun.binds {x qual : Str} {st : Stmt} {f : Addr} {fd : FuncData} {ps : List Str} (F : Fun K x qual st f fd)
    (h : ∀ (kV doc pm : Value) (an : Option Addr) (cdv ct : Value) (us : List Value), us.length = ps.length → bindArgs (PySem.W.fnOf x qual (defArgs st) (defBody st) (defScope st) .none kV doc pm an cdv ct) ⟨us, []⟩ = pure (ps.zip us)) : Binds K fd ps [] := by
  obtain ⟨oc, od, kV, doc, pm, an, cdv, ct, osl, rfl, lk, hcd⟩ := F.ex
  exact .all (h kV doc pm an cdv ct)
theorem fun_mk {x qual : Str} {st : Stmt} {f : Addr} {oc : Value} {od an : Option Addr} {osl : Array (Option Value)} {kV doc pm cdv ct : Value} (l : K.lookup f = some ⟨oc, od, .func (PySem.W.fnOf x qual (defArgs st) (defBody st) (defScope st) .none kV doc pm an cdv ct), osl⟩)
    (c : PySem.W.codeIn K cdv qual = true) (k : PySem.W.keepIn K (.ref f) = true) : Fun K x qual st f (PySem.W.fnOf x qual (defArgs st) (defBody st) (defScope st) .none kV doc pm an cdv ct) := ⟨⟨oc, od, kV, doc, pm, an, cdv, ct, osl, rfl, l, c⟩, k⟩
end
theorem hu_of {A : Around} {k : Nat} (hr : Room k A) : A.units + 1 < cLine := Nat.lt_of_le_of_lt (Nat.add_le_add_left (by decide : 1 ≤ 64) _) hr.units
section
variable {X : Cx}
theorem pv (i : Nat) {x : Str} {pos : Pos} (hN : X.N[i]? = some x := by rfl) (hv : Vis X.env.scope x := by first | exact Or.inl rfl | exact Or.inr (Or.inl rfl) | exact Or.inr (Or.inr rfl)) (hd : (x == ("__debug__" : Str)) = false := by decide)
    (hcd : (x == ("__classdict__" : Str)) = false := by decide) : PE X (.Name x pos) (tVar i) := pe_var hN hv hd hcd
end
theorem iteF {A B : Prop} (h : B) : if false = true then A else B := by
  rw [if_neg Bool.false_ne_true]
  exact h
theorem iteT {A B : Prop} (h : A) : if true = true then A else B := by
  rw [if_pos rfl]
  exact h
theorem ite2 {c A B : Prop} [Decidable c] (h1 : c → A) (h2 : ¬ c → B) : if c then A else B := by
  by_cases h : c
  · rw [if_pos h]
    exact h1 h
  · rw [if_neg h]
    exact h2 h
def Same (H H' : Hp) : Prop := ∀ b o, H b = some o → H' b = some o
theorem Same.refl (H : Hp) : Same H H := fun _ _ h => h
theorem Same.trans {H H1 H2 : Hp} (a : Same H H1) (b : Same H1 H2) : Same H H2 := fun c o h => b c o (a c o h)
theorem Same.free {H H' : Hp} (e : Same H H') {l : Addr} (h : H' l = Option.none) : H l = Option.none := by
  cases q : H l with
  | none => rfl
  | some o =>
    rw [e l o q] at h
    cases h
theorem Same.seq {K : PySem.W.Frag} {H H' : Hp} {a : Addr} {xs : List V} (e : Same H H') (h : SqL K H a xs) : SqL K H' a xs := by
  rcases h with (h | ⟨o, h⟩) | h
  · exact .inl (.inl (e _ _ h))
  · exact .inl (.inr ⟨o, e _ _ h⟩)
  · exact .inr h
end L2
namespace L2
open PySem PySem.Spec PyProof.Rows
abbrev Caps := List (Str × Nat)
def capV (σ : St) : Caps → St
  | [] => []
  | (_, i) :: r => (σ[i]?).join :: capV σ r
def CapOk (X : Cx) (scope : Scope) : Caps → Prop
  | [] => True
  | (x, i) :: r => (X.N[i]? = some x ∧ scope.names.lookup x = some .free ∧ (X.env.scope.names.lookup x = some .cell ∨ X.env.scope.names.lookup x = some .free)) ∧ CapOk X scope r
def cxComp (X : Cx) (N : List Str) (scope : Scope) (cl : List (Str × Addr)) (C : Addr) (fp : List Addr) (s : Shared) (H : Hp) : Cx where
  prog := X.prog
  w := X.w
  K := X.K
  mg := X.mg
  base := X.base
  A := X.A
  N := N
  s₀ := s
  H₀ := H
  env := compEnvC scope cl C X.env
  outer := X.stack
  stack := X.stack
  ex := fp
  fn := fun _ => false
  calm := X.calm
  pn := []
  xe := fun _ _ => False
theorem closure_go {env : Env} (names : List (Str × NameKind)) (hh : ∀ x, (x, NameKind.free) ∈ names → ∃ c, env.cells.lookup x = some c) : ∀ acc : List (Str × Addr),
    ∃ cl, (forIn names acc (fun (x : Str × NameKind) (r : List (Str × Addr)) => match x with
      | (name, kind) => if (kind == NameKind.free) = true then do let a ← cellOf env name; pure (ForInStep.yield ((name, a) :: r)) else pure (ForInStep.yield r)) : Sem (List (Str × Addr))) = pure cl ∧
      (∀ x c, (x, c) ∈ cl → (x, c) ∈ acc ∨ env.cells.lookup x = some c) ∧ (∀ x, ((x, NameKind.free) ∈ names ∨ ∃ c, (x, c) ∈ acc) → ∃ c, (x, c) ∈ cl) := by
  induction names with
  | nil => intro acc; exact ⟨acc, rfl, fun x c h => .inl h, fun x h => h.elim (fun z => nomatch z) id⟩
  | cons n r ih =>
    intro acc
    obtain ⟨name, kind⟩ := n
    by_cases hk : kind = NameKind.free
    · subst hk
      obtain ⟨c, hc⟩ := hh name List.mem_cons_self
      obtain ⟨cl, e, h1, h2⟩ := ih (fun x hx => hh x (List.mem_cons_of_mem _ hx)) ((name, c) :: acc)
      refine ⟨cl, ?_, fun x d hd => ?_, fun x hx => ?_⟩
      · rw [List.forIn_cons]
        have : cellOf env name = pure c := by unfold cellOf; rw [hc]
        simp only [beq_self_eq_true, if_true, this]
        exact e
      · rcases h1 x d hd with z | z
        · rcases List.mem_cons.mp z with z | z
          · cases z; exact .inr hc
          · exact .inl z
        · exact .inr z
      · refine h2 x ?_
        rcases hx with hx | ⟨d, hd⟩
        · rcases List.mem_cons.mp hx with z | z
          · cases z; exact .inr ⟨c, List.mem_cons_self⟩
          · exact .inl z
        · exact .inr ⟨d, List.mem_cons_of_mem _ hd⟩
    · obtain ⟨cl, e, h1, h2⟩ := ih (fun x hx => hh x (List.mem_cons_of_mem _ hx)) acc
      refine ⟨cl, ?_, h1, fun x hx => h2 x ?_⟩
      · rw [List.forIn_cons]
        have : (kind == NameKind.free) = false := by simpa using hk
        simp only [this, Bool.false_eq_true, if_false]
        exact e
      · rcases hx with hx | hx
        · rcases List.mem_cons.mp hx with z | z
          · cases z; exact absurd rfl hk
          · exact .inl z
        · exact .inr hx
theorem lookup_of_mem {cl : List (Str × Addr)} {x : Str} {c : Addr} (h : (x, c) ∈ cl) : ∃ d, cl.lookup x = some d := by
  induction cl with
  | nil => cases h
  | cons y r ih =>
    obtain ⟨n, a⟩ := y
    cases e : x == n with
    | true => exact ⟨a, by simp only [List.lookup_cons, e]⟩
    | false =>
      rcases List.mem_cons.mp h with z | z
      · cases z; simp at e
      · obtain ⟨d, hd⟩ := ih z; exact ⟨d, by simp only [List.lookup_cons, e]; exact hd⟩
theorem closure_ok {scope : Scope} {env : Env} (hh : ∀ x, (x, NameKind.free) ∈ scope.names → ∃ c, env.cells.lookup x = some c) :
    ∃ cl, closureFor scope env = pure cl ∧ (∀ x c, cl.lookup x = some c → env.cells.lookup x = some c) ∧ ∀ x, (x, NameKind.free) ∈ scope.names → ∃ c, cl.lookup x = some c := by
  obtain ⟨cl, e, h1, h2⟩ := closure_go (env := env) scope.names hh []
  refine ⟨cl, ?_, fun x c h => ?_, fun x hx => ?_⟩
  · unfold closureFor
    show (forIn scope.names [] _ >>= _ : Sem (List (Str × Addr))) = pure cl
    have e2 := congrArg (fun m : Sem (List (Str × Addr)) => m >>= fun cs => (pure cs : Sem _)) e
    exact e2
  · rcases h1 x c (PySem.mem_of_lookup h) with z | z
    · cases z
    · exact z
  · obtain ⟨c, hc⟩ := h2 x (.inl hx)
    exact lookup_of_mem hc
theorem relabel_inv {env : Env} {k : NameKind} (hk : k = .cell ∨ k = .free) : ∀ {names : List (Str × NameKind)} {x : Str}, (∀ y ∈ names, y.2 ≠ .cell) →
    (names.map fun (n, k) => if (k == NameKind.free && env.scope.kind == .function && env.kindOf n == some .cell) then (n, NameKind.cell) else (n, k)).lookup x = some k → (x, NameKind.free) ∈ names
  | [], _, _, h => by simp at h
  | (n, k') :: r, x, hc, h => by
    have ih := @relabel_inv env k hk r x fun y hy => hc y (List.mem_cons_of_mem _ hy)
    rw [List.map_cons] at h
    by_cases c : (k' == NameKind.free && env.scope.kind == .function && env.kindOf n == some .cell) = true
    · have h' : ((n, NameKind.cell) :: r.map fun (n, k) => if (k == NameKind.free && env.scope.kind == .function && env.kindOf n == some .cell) then (n, NameKind.cell) else (n, k)).lookup x = some k := by
        have e : (if (k' == NameKind.free && env.scope.kind == .function && env.kindOf n == some .cell) = true then (n, NameKind.cell) else (n, k')) = (n, NameKind.cell) := if_pos c
        rw [← e]; exact h
      cases e : x == n with
      | true =>
        have e' : x = n := by simpa using e
        have : k' = .free := by simp at c; exact c.1.1
        subst e' this
        exact List.mem_cons_self
      | false => exact List.mem_cons_of_mem _ (ih (by simp only [List.lookup_cons, e] at h'; exact h'))
    · have h' : ((n, k') :: r.map fun (n, k) => if (k == NameKind.free && env.scope.kind == .function && env.kindOf n == some .cell) then (n, NameKind.cell) else (n, k)).lookup x = some k := by
        have e : (if (k' == NameKind.free && env.scope.kind == .function && env.kindOf n == some .cell) = true then (n, NameKind.cell) else (n, k')) = (n, k') := if_neg c
        rw [← e]; exact h
      cases e : x == n with
      | true =>
        simp only [List.lookup_cons, e] at h'
        have e' : x = n := by simpa using e
        have h2 : k' = k := Option.some.inj h'
        subst h2
        rcases hk with hk | hk
        · exact absurd hk (hc (n, k') List.mem_cons_self)
        · subst hk e'; exact List.mem_cons_self
      | false => exact List.mem_cons_of_mem _ (ih (by simp only [List.lookup_cons, e] at h'; exact h'))
theorem relabel_free {env : Env} : ∀ {names : List (Str × NameKind)} {x : Str}, names.lookup x = some .free →
    ((names.map fun (n, k) => if (k == NameKind.free && env.scope.kind == .function && env.kindOf n == some .cell) then (n, NameKind.cell) else (n, k)).lookup x = some .cell ∨
     (names.map fun (n, k) => if (k == NameKind.free && env.scope.kind == .function && env.kindOf n == some .cell) then (n, NameKind.cell) else (n, k)).lookup x = some .free)
  | [], _, h => by simp at h
  | (n, k') :: r, x, h => by
    have ih := @relabel_free env r x
    rw [List.map_cons]
    by_cases c : (k' == NameKind.free && env.scope.kind == .function && env.kindOf n == some .cell) = true
    · have e : (if (k' == NameKind.free && env.scope.kind == .function && env.kindOf n == some .cell) = true then (n, NameKind.cell) else (n, k')) = (n, NameKind.cell) := if_pos c
      show (List.lookup x ((if (k' == NameKind.free && env.scope.kind == .function && env.kindOf n == some .cell) = true then (n, NameKind.cell) else (n, k')) :: _) = _ ∨ List.lookup x ((if (k' == NameKind.free && env.scope.kind == .function && env.kindOf n == some .cell) = true then (n, NameKind.cell) else (n, k')) :: _) = _)
      rw [e]
      cases ex : x == n with
      | true => left; simp only [List.lookup_cons, ex]
      | false =>
        simp only [List.lookup_cons, ex] at h ⊢
        exact ih h
    · have e : (if (k' == NameKind.free && env.scope.kind == .function && env.kindOf n == some .cell) = true then (n, NameKind.cell) else (n, k')) = (n, k') := if_neg c
      show (List.lookup x ((if (k' == NameKind.free && env.scope.kind == .function && env.kindOf n == some .cell) = true then (n, NameKind.cell) else (n, k')) :: _) = _ ∨ List.lookup x ((if (k' == NameKind.free && env.scope.kind == .function && env.kindOf n == some .cell) = true then (n, NameKind.cell) else (n, k')) :: _) = _)
      rw [e]
      cases ex : x == n with
      | true =>
        simp only [List.lookup_cons, ex] at h
        cases h
        right; simp only [List.lookup_cons, ex]
      | false =>
        simp only [List.lookup_cons, ex] at h ⊢
        exact ih h
end L2
namespace L2
open PySem PySem.Spec PyProof.Rows
theorem capV_length (σ : St) : ∀ caps : Caps, (capV σ caps).length = caps.length
  | [] => rfl
  | (_, _) :: r => congrArg (· + 1) (capV_length σ r)
theorem capV_get {X : Cx} {scope : Scope} {σ : St} : ∀ {caps : Caps} {j : Nat} {x : Str} {v : V}, CapOk X scope caps → (caps.map (·.1))[j]? = some x → (capV σ caps)[j]? = some (some v) →
    ∃ i : Nat, X.N[i]? = some x ∧ σ[i]? = some (some v) ∧ scope.names.lookup x = some .free ∧ (X.env.scope.names.lookup x = some .cell ∨ X.env.scope.names.lookup x = some .free)
  | [], _, _, _, _, h, _ => by simp at h
  | (y, i) :: r, 0, x, v, hc, h1, h2 => by
    simp at h1; subst h1
    have e : (σ[i]?).join = some v := by simpa [capV] using h2
    refine ⟨i, hc.1.1, ?_, hc.1.2⟩
    cases q : σ[i]? with
    | none => rw [q] at e; cases e
    | some z => rw [q] at e; exact congrArg some e
  | (y, i) :: r, j + 1, x, v, hc, h1, h2 => capV_get (caps := r) (j := j) hc.2 (by simpa using h1) (by simpa [capV] using h2)
def tg0 (tg : List Str) (σ : St) (caps : Caps) : St := tg.map (fun _ => none) ++ capV σ caps
theorem Inv.ofcomp {X : Cx} {pins : List (Addr × Obj)} {σ : St} {H : Hp} {s : Shared} {scope : Scope} {cl : List (Str × Addr)} {C : Addr} {fp : List Addr} {h₁ : Heap} {m : Str → Option Value} {tk : Nat} {caps : Caps} (tg : List Str)
    (I : Inv X pins σ H s) (hkind : scope.kind = .function) (hnc : ∀ y ∈ scope.names, y.2 ≠ .cell) (hc1 : ∀ x c, cl.lookup x = some c → X.env.cells.lookup x = some c) (hc2 : ∀ x, (x, NameKind.free) ∈ scope.names → ∃ c, cl.lookup x = some c)
    (hf : ∀ b ∈ fp, FpOk X pins H b) (hfo : ∀ b ∈ fp, ∃ o, s.heap.get? b = some o) (hC : s.heap.objs.size ≤ C) (hns : h₁.Ns C m) (hk : ∀ b o, s.heap.get? b = some o → h₁.get? b = some o) (co : CapOk X scope caps) :
    Inv (cxComp X (tg ++ caps.map (·.1)) scope cl C fp s H) [] (tg0 tg σ caps) H { s with heap := h₁, toks := tk } := by
  have hfs : ∀ b ∈ fp, b ∉ frs X.stack := fun b hb hx => by
    rcases List.mem_cons.mp (I.stkSub b hx) with z | z
    · exact (hf b hb).2.1 z
    · exact (hf b hb).2.2.1 z
  have ok : (cxComp X (tg ++ caps.map (·.1)) scope cl C fp s H).Ok := by
    refine ⟨I.ok.mod, hkind, I.ok.glob, I.ok.blt, hC, fun x y c h1 h2 => I.ok.inj x y c (hc1 x c h1) (hc1 y c h2), fun x hx => ?_, fun x c h => (nomatch h), I.ok.hd, I.ok.frames, .inl rfl, fun b hb => ⟨?_, fun x c h => (hf b hb).2.2.2.2.1 x c (hc1 x c h)⟩,
      I.bs, Nat.le_trans I.ok.bsz I.sz, fun b o e hb => ?_, hfs, I.stack, I.stkFree⟩
    · rcases hx with hx | hx
      · exact hc2 x (relabel_inv (.inl rfl) hnc hx)
      · exact hc2 x (relabel_inv (.inr rfl) hnc hx)
    · obtain ⟨o, e⟩ := hfo b hb
      exact Nat.ne_of_lt (Nat.lt_of_lt_of_le (Heap.lt_size e) hC)
    · rcases (hf b hb).2.2.2.1 with z | z
      · exact I.ok.noex b o e z
      · exact absurd (Nat.lt_of_lt_of_le (Heap.lt_size (I.ok.bs b o e).1) z) (Nat.lt_irrefl _)
  refine ⟨ok, rfl, I.bare, Un.kept hk, ⟨m, hns, fun j x v h1 h2 h3 => ?_⟩, fun x c h => ?_, I.hok.fresh hC, fun x c h => I.freeC x c (hc1 x c h), fun p hp => (nomatch hp), I.hok.kept hk, ?_⟩
  · have h1' : (tg ++ caps.map (·.1))[j]? = some x := h1
    have h2' : (tg.map (fun _ => none) ++ capV σ caps)[j]? = some (some v) := h2
    by_cases hj : j < tg.length
    · rw [List.getElem?_append_left (by simpa using hj), List.getElem?_map] at h2'
      cases e : tg[j]? with
      | none => rw [e] at h2'; cases h2'
      | some z => rw [e] at h2'; cases h2'
    · rw [List.getElem?_append_right (by simpa using hj)] at h2' h1'
      rw [List.length_map] at h2'
      obtain ⟨i, e1, e2, e3, e4⟩ := capV_get co h1' h2'
      obtain ⟨mX, hn, hl⟩ := I.loc
      obtain ⟨u, r, l⟩ := hl i x v e1 e2 (.inr e4)
      refine ⟨u, r, ?_⟩
      have key : ∃ c, X.env.cells.lookup x = some c ∧ s.heap.IsCell c (some u) := by
        rcases l with ⟨k, _⟩ | ⟨_, c, e, z⟩
        · have k' : X.env.scope.names.lookup x = some .local := k
          rcases e4 with e4 | e4 <;> · rw [e4] at k'; cases k'
        · exact ⟨c, e, z⟩
      obtain ⟨c, ec, o, ho, hd⟩ := key
      obtain ⟨d, ed⟩ := hc2 x (PySem.mem_of_lookup e3)
      have hdc : d = c := Option.some.inj ((hc1 x d ed).symm.trans ec)
      subst hdc
      exact .inr ⟨relabel_free e3, d, ed, o, hk _ o ho, hd⟩
  · obtain ⟨v, o, ho, hd⟩ := I.cell x c (hc1 x c h)
    exact ⟨v, o, hk _ o ho, hd⟩
  · show (tg.map (fun _ => (none : Option V)) ++ capV σ caps).length = (tg ++ caps.map (·.1)).length
    rw [List.length_append, List.length_append, List.length_map, List.length_map, capV_length]
def PIfs (X : Cx) (ifs : List Expr) (t : TT) : Prop :=
  ∀ (pins : List (Addr × Obj)) (s : Shared) (σ : St) (H : Hp) (Q : Bool → Hp → Prop), Inv X pins σ H s → t σ H Q →
    wpAny (model X.prog X.w) X.A (forIn ifs true fun c r => if r = true then do let ok ← isTrue c X.env (eval c X.env); pure (ForInStep.yield ok) else pure (ForInStep.yield r)) (TP X pins σ Q) X.xe s
def tIf0 : TT := fun _ H Q => Q true H
theorem pif_nil {X : Cx} : PIfs X [] tIf0 := fun pins s σ H Q I h => wpAny_tests_nil ⟨H, I, h⟩
def Keeps0 (σ0 σ2 : St) : Prop := σ0.length = σ2.length ∧ ∀ (i : Nat) v, σ0[i]? = some (some v) → σ2[i]? = some (some v)
def CompW (J : It) (g : TG) (tt : TT) (te : TE) (σ0 : St) (D : Addr) (Fin : List V → Hp → Prop) (H1 : Hp) : Prop :=
  ∃ W : Nat → Nat → List V → Hp → Prop, (∃ m, W 0 m [] (upd H1 D (.lst []))) ∧ ∀ i m ys H, W i m ys H → H D = some (.lst ys) ∧
    ((J.stop i H ∧ Fin ys H) ∨ (J.go i H ∧ ∃ N : List V → Hp → Prop, (∀ zs H', N zs H' → ∃ m', m' < m ∧ W (i + 1) m' zs H') ∧ ∀ x H', J.yld i H x H' → g x σ0 H' fun σ2 H2 => Keeps0 σ0 σ2 ∧ tt σ2 H2 fun b H3 =>
      if b = true then te σ2 H3 fun v H4 => H4 D = some (.lst ys) ∧ ys.length < sizeLine ∧ N (ys ++ [v]) (upd H4 D (.lst (ys ++ [v])))
      else N ys H3))
theorem comp_turn (elt target iter : Expr) (ifs : List Expr) (scope : Scope) (pos : Pos) (it acc : Value) (env : Env) :
    compTurn (.ListComp elt [⟨target, iter, ifs, 0⟩] scope pos) 0 it acc env = (standAt iter.pos >>= fun _ => pyNext it >>= fun r => match r with
      | none => pure (.done .next)
      | some v => letOwnedTupleGo target it v >>= fun _ => assign target env v >>= fun _ =>
        (forIn ifs true fun c r => if r = true then do let ok ← isTrue c env (eval c env); pure (ForInStep.yield ok) else pure (ForInStep.yield r)) >>= fun ok =>
        if ok = true then (eval elt env >>= fun x => call (.builtin "list.append") [acc, x] >>= fun _ => pure ()) >>= fun _ =>
          again (.compLoop (.ListComp elt [⟨target, iter, ifs, 0⟩] scope pos) 0 it acc env)
        else again (.compLoop (.ListComp elt [⟨target, iter, ifs, 0⟩] scope pos) 0 it acc env)) := by
  rw [compTurn_list]
  rfl
theorem comp_run {X : Cx} {pins : List (Addr × Obj)} {σ : St} {H1 : Hp} {s₂ : Shared} {scope : Scope} {cl : List (Str × Addr)} {fp : List Addr} {it : Addr} {tn : Nat → Heap → Prop} {J : It} {caps : Caps} {tg : List Str}
    {elt target iter : Expr} {ifs : List Expr} {pos : Pos} {g : TG} {tt : TT} {te : TE} {E : Value → Shared → Prop} {Fin : Addr → List V → Hp → Prop} {RR : Value → Addr → Result → Shared → Prop}
    (hc : X.calm = true) (hkind : scope.kind = .function) (hnc : ∀ y ∈ scope.names, y.2 ≠ .cell) (hc1 : ∀ x c, cl.lookup x = some c → X.env.cells.lookup x = some c) (hc2 : ∀ x, (x, NameKind.free) ∈ scope.names → ∃ c, cl.lookup x = some c)
    (co : CapOk X scope caps)
    (hg : ∀ C s H, PG (cxComp X (tg ++ caps.map (·.1)) scope cl C fp s H) target g) (ht : ∀ C s H, PIfs (cxComp X (tg ++ caps.map (·.1)) scope cl C fp s H) ifs tt) (he : ∀ C s H, PE (cxComp X (tg ++ caps.map (·.1)) scope cl C fp s H) elt te)
    (I2 : Inv X pins σ H1 s₂) (T : Turn X.prog X.w X.K target J fp it tn) (st : tn 0 s₂.heap) (hf : ∀ b ∈ fp, FpOk X pins H1 b)
    (hw : ∀ D, H1 D = none → CompW J g tt te (tg0 tg σ caps) D (Fin D) H1)
    (hRR : ∀ D C ys H' s', H1 D = none → Inv X pins σ H' s' → (∃ m, s'.heap.Ns C m) → FpOk X pins H' C → Fin D ys H' → RR (.ref D) C (.ok .next) s') :
    wpAny (model X.prog X.w) X.A (newList []) (fun acc s₃ => wpAny (model X.prog X.w) X.A (newFunctionEnv scope X.env.globals cl [] X.env.qual none .none (some X.env)) (fun cenv s₄ =>
      codeAny (model X.prog X.w) X.A (.compStart (.ListComp elt [⟨target, iter, ifs, 0⟩] scope pos) 0 (.ref it) acc { cenv with scope := relabel scope X.env }) (RR acc cenv.locals) s₄) E s₃) E s₂ := by
  have I3 : Inv X pins σ (upd H1 s₂.heap.objs.size (.lst [])) { s₂ with heap := s₂.heap.push { cls := .type "list", dict := none, data := .seq ([] : List Value).toArray }, toks := s₂.toks } := I2.lnew (its := []) .nil (Nat.zero_le _)
  have hD0 : H1 s₂.heap.objs.size = none := I2.fresh
  refine wpAny_newObj_type (wpAny_newFunctionEnv hnc (by intro y hy; simp at hy) (fun h₁ hns₁ hsb₁ => ?_) hkind)
  dsimp only at hns₁ hsb₁ ⊢
  generalize hDd : s₂.heap.objs.size = D at I3 hD0 hns₁ hsb₁ ⊢
  generalize hs3 : ({ s₂ with heap := s₂.heap.push { cls := .type "list", dict := none, data := .seq ([] : List Value).toArray } } : Shared) = s₃ at I3 hns₁ hsb₁ ⊢
  have e3 : s₂.heap.push { cls := .type "list", dict := none, data := .seq ([] : List Value).toArray } = s₃.heap := by rw [← hs3]
  have o3 : ({ s₂ with heap := h₁, toks := s₂.toks + ([] : List (Str × Value)).length } : Shared) = { s₃ with heap := h₁, toks := s₂.toks } := by rw [← hs3]; rfl
  have size3 : s₃.heap.objs.size = D + 1 := by rw [← e3, Heap.size_push, hDd]
  rw [e3] at hns₁ hsb₁ ⊢
  have old3 : ∀ b o, s₂.heap.get? b = some o → s₃.heap.get? b = some o := fun b o e => by rw [← e3]; exact Heap.get?_push_of_some _ e
  generalize hCd : s₃.heap.objs.size = C at hns₁ hsb₁ ⊢
  have hk : ∀ b o, s₃.heap.get? b = some o → h₁.get? b = some o := fun b o e => hsb₁.extBut b o (by rw [← hCd]; exact Nat.ne_of_lt (Heap.lt_size e)) (Heap.get?_push_of_some _ e)
  have fpo : ∀ b ∈ fp, ∃ o, s₂.heap.get? b = some o := fun b hb => by obtain ⟨o, e, _⟩ := T.obj 0 _ st b hb; exact ⟨o, e⟩
  have fpne : ∀ b ∈ fp, b ≠ D := fun b hb => by obtain ⟨o, e⟩ := fpo b hb; rw [← hDd]; exact Nat.ne_of_lt (Heap.lt_size e)
  have hf3 : ∀ b ∈ fp, FpOk X pins (upd H1 D (.lst [])) b := fun b hb => ⟨by rw [upd_ne (fpne b hb)]; exact (hf b hb).1, (hf b hb).2⟩
  have IY := Inv.ofcomp (tk := s₂.toks) tg I3 hkind hnc hc1 hc2 hf3 (fun b hb => let ⟨o, e⟩ := fpo b hb; ⟨o, old3 b o e⟩) (Nat.le_of_eq hCd) hns₁ hk co
  have FC : FpOk X pins H1 C := by
    have z := I3.fpOk (b := C) (H' := H1) (Nat.le_of_eq hCd) (I2.hok.fresh (by rw [hDd, ← hCd, size3]; exact Nat.le_succ _))
    exact z
  generalize hY : cxComp X (tg ++ caps.map (·.1)) scope cl C fp s₃ (upd H1 D (.lst [])) = Y at IY
  have hgY : PG Y target g := by rw [← hY]; exact hg _ _ _
  have htY : PIfs Y ifs tt := by rw [← hY]; exact ht _ _ _
  have heY : PE Y elt te := by rw [← hY]; exact he _ _ _
  have hYp : Y.prog = X.prog := by rw [← hY]; rfl
  have hYw : Y.w = X.w := by rw [← hY]; rfl
  have hYK : Y.K = X.K := by rw [← hY]; rfl
  have hYA : Y.A = X.A := by rw [← hY]; rfl
  have hYe : Y.env = compEnvC scope cl C X.env := by rw [← hY]; rfl
  have hYx : Y.ex = fp := by rw [← hY]; rfl
  have hYn : Y.pn = [] := by rw [← hY]; rfl
  have hYc : Y.calm = true := by rw [← hY]; exact hc
  have hYxe : Y.xe = fun _ _ => False := by rw [← hY]; rfl
  have fpY : ∀ {H' : Hp}, (∀ b ∈ fp, H' b = none) → ∀ b ∈ fp, FpOk Y [] H' b := fun {H'} hn b hb => by
    refine ⟨hn b hb, ?_, ?_, .inl (by rw [hYx]; exact hb), fun x c e => ?_, fun p hp => ?_⟩
    · have := (IY.ok.exf b (by rw [hYx]; exact hb)).1; exact this
    · exact IY.ok.exfs b (by rw [hYx]; exact hb)
    · exact (IY.ok.exf b (by rw [hYx]; exact hb)).2 x c e
    · rw [hYn] at hp; cases hp
  obtain ⟨W, ⟨m0, w0⟩, turn⟩ := hw D hD0
  have stY : tn 0 h₁ := T.keep 0 _ _ st fun b hb o e => hk b o (old3 b o e)
  have back : ∀ {H' : Hp} {s' : Shared} {σ' : St}, Inv Y [] σ' H' s' → Inv X pins σ H' s' := fun {H' s' σ'} IE => by
    have hun := IE.base
    have hos := IE.os
    rw [← hY] at hun hos
    exact I3.call' (ch := fp) hos hun (by have z := IE.hok; rw [hYp, hYw] at z; exact z) IE.bare fun b hb => ⟨(hf b hb).2.2.2.1, (hf b hb).2.1, (hf b hb).2.2.2.2.1, (hf b hb).2.2.2.2.2⟩
  have gY : ∀ pins s σ H v u Q (E' : Value → Shared → Prop), Inv Y pins σ H s → RelV v u → g v σ H Q → wpAny (model X.prog X.w) X.A (assign target (compEnvC scope cl C X.env) u) (fun _ s' => ∃ σ' H', Inv Y pins σ' H' s' ∧ Q σ' H') E' s := fun pins s σ H v u Q E' IE r q => by
    have z := hgY pins s σ H v u Q IE r q
    rw [hYp, hYw, hYA, hYe, hYxe] at z
    exact wpAny_mono z (fun _ _ x => x) fun _ _ f => f.elim
  have tY : ∀ pins s σ H Q (E' : Value → Shared → Prop), Inv Y pins σ H s → tt σ H Q → wpAny (model X.prog X.w) X.A (forIn ifs true fun c r => if r = true then do let ok ← isTrue c (compEnvC scope cl C X.env) (eval c (compEnvC scope cl C X.env)); pure (ForInStep.yield ok) else pure (ForInStep.yield r)) (TP Y pins σ Q) E' s := fun pins s σ H Q E' IE q => by
    have z := htY pins s σ H Q IE q
    rw [hYp, hYw, hYA, hYe, hYxe] at z
    exact wpAny_mono z (fun _ _ x => x) fun _ _ f => f.elim
  have eY : ∀ pins s σ H Q (E' : Value → Shared → Prop), Inv Y pins σ H s → te σ H Q → wpAny (model X.prog X.w) X.A (eval elt (compEnvC scope cl C X.env)) (EP Y pins σ Q) E' s := fun pins s σ H Q E' IE q => by
    have z := heY pins s σ H Q IE q
    rw [hYp, hYw, hYA, hYe, hYxe] at z
    exact wpAny_mono z (fun _ _ x => x) fun _ _ f => f.elim
  have aY : ∀ pins s σ H ys v u Q (E' : Value → Shared → Prop), Inv Y pins σ H s → RelV v u → H D = some (.lst ys) → ys.length < sizeLine → Q .non (upd H D (.lst (ys ++ [v]))) → wpAny (model X.prog X.w) X.A (call (.builtin "list.append") [.ref D, u]) (EP Y pins σ Q) E' s := fun pins s σ H ys v u Q E' IE r hH hz q => by
    have z := mt_append (X := Y) pins s σ H (.ref D) [v] (.ref D) [u] Q IE rfl (.cons r .nil) ⟨D, ys, v, rfl, rfl, hH, hz, q⟩
    rw [hYp, hYw, hYA, hYxe] at z
    exact wpAny_mono z (fun _ _ x => x) fun _ _ f => f.elim
  have tiY : ∀ i pins s σ H (E' : Value → Shared → Prop), Inv Y pins σ H s → (∀ b ∈ fp, FpOk Y pins H b) → tn i s.heap → J.go i H →
      wpAny (model X.prog X.w) X.A (pyNext (.ref it)) (fun r s1 => ∃ u, r = some u ∧
        wpAny (model X.prog X.w) X.A (letOwnedTupleGo target (.ref it) u) (fun _ s2 => ∃ x H', Inv Y pins σ H' s2 ∧ RelV x u ∧ J.yld i H x H' ∧ tn (i + 1) s2.heap ∧ ∀ b ∈ fp, H' b = none) E' s1) E' s := fun i pins s σ H E' IE hfy st go => by
    have z := T.item Y hYp hYw hYK hYc i pins s σ H E' IE hfy st go
    rw [hYA] at z
    exact z
  have tdY : ∀ i pins s σ H (E' : Value → Shared → Prop), Inv Y pins σ H s → (∀ b ∈ fp, FpOk Y pins H b) → tn i s.heap → J.stop i H →
      wpAny (model X.prog X.w) X.A (pyNext (.ref it)) (fun r s1 => r = none ∧ Inv Y pins σ H s1) E' s := fun i pins s σ H E' IE hfy st go => by
    have z := T.done Y hYp hYw hYK hYc i pins s σ H E' IE hfy st go
    rw [hYA] at z
    exact z
  have loop : codeAny (model X.prog X.w) X.A (.compLoop (.ListComp elt [⟨target, iter, ifs, 0⟩] scope pos) 0 (.ref it) (.ref D) (compEnvC scope cl C X.env)) (RR (.ref D) C) { s₃ with heap := h₁, toks := s₂.toks } := by
    refine codeAny_loop rfl (fun n s' => ∃ i ys H', Inv Y [] (tg0 tg σ caps) H' s' ∧ tn i s'.heap ∧ (∀ b ∈ fp, H' b = none) ∧ W i n ys H') ?_ m0 ⟨0, [], _, IY, stY, fun b hb => (hf3 b hb).1, w0⟩
    rintro n s4 ⟨i, ys, H4, I4, st4, fr4, w4⟩
    show wpAny _ _ ((compTurn (.ListComp elt [⟨target, iter, ifs, 0⟩] scope pos) 0 (.ref it) (.ref D) (compEnvC scope cl C X.env)).onRaise (fun x => do noteFrame x (compEnvC scope cl C X.env); theTreesLotGoes x)) _ _ s4
    refine wpAny_noted ?_
    rw [comp_turn]
    obtain ⟨hHD, alt⟩ := turn i n ys H4 w4
    rcases alt with ⟨stop, fin⟩ | ⟨go, N, hN, step⟩
    · refine wpAny_bind (wpAny_standAt (wpAny_bind (thn (tdY i [] s4 _ H4 _ I4 (fpY fr4) st4 stop) fun r s5 ⟨hr, I5⟩ => ?_)))
      subst hr
      refine wpAny_pure (hRR D C ys H4 s5 hD0 (back I5) ?_ ⟨?_, FC.2⟩ fin)
      · obtain ⟨m, hm, _⟩ := I5.loc
        rw [hYe] at hm
        exact ⟨m, hm⟩
      · have z := I5.free
        rw [hYe] at z
        exact z
    · refine wpAny_bind (wpAny_standAt (wpAny_bind (thn (tiY i [] s4 _ H4 _ I4 (fpY fr4) st4 go) fun r s5 ⟨u, hr, h5⟩ => ?_)))
      subst hr
      refine wpAny_bind (thn h5 fun _ s6 ⟨x, H6, I6, r6, y6, st6, fr6⟩ => ?_)
      have I6' := I6.pinned (fpY fr6) (T.obj _ _ st6)
      refine wpAny_bind (thn (gY _ s6 _ H6 x u _ _ I6' r6 (step x H6 y6)) fun _ s7 ⟨σ7, H7, I7, kp, q7⟩ => ?_)
      refine wpAny_bind (thn (tY _ s7 σ7 H7 _ _ I7 q7) fun b s8 ⟨H8, I8, q8⟩ => ?_)
      have again : ∀ {H9 : Hp} {s9 : Shared} {zs : List V} {m' : Nat}, Inv Y ([] ++ pinsAt fp s6.heap) σ7 H9 s9 → m' < n → W (i + 1) m' zs H9 → ∃ m, m < n ∧ ∃ i ys H', Inv Y [] (tg0 tg σ caps) H' s9 ∧ tn i s9.heap ∧ (∀ b ∈ fp, H' b = none) ∧ W i m ys H' := fun {H9 s9 zs m'} I9 hm w9 => by
        refine ⟨m', hm, i + 1, zs, H9, I9.unpinned.weak kp.1 kp.2, T.keep _ _ _ st6 fun b hb o e => (I9.pin (b, o) (List.mem_append_right _ (List.mem_append_right _ (mem_pinsAt hb e)))).1, fun b hb => ?_, w9⟩
        obtain ⟨o, e, d⟩ := T.obj _ _ st6 b hb
        exact (I9.pin (b, o) (List.mem_append_right _ (List.mem_append_right _ (mem_pinsAt hb e)))).2.1
      cases b with
      | true =>
        rw [if_pos rfl] at q8
        simp only [if_true]
        refine wpAny_bind (wpAny_bind (thn (eY _ s8 σ7 H8 _ _ I8 q8) fun v s9 ⟨vv, H9, I9, r9, hH9, hz9, n9⟩ => ?_))
        obtain ⟨m', hm', w9⟩ := hN _ _ n9
        refine wpAny_bind (thn (aY _ s9 σ7 H9 ys vv v (fun _ H10 => W (i + 1) m' (ys ++ [vv]) H10) _ I9 r9 hH9 hz9 w9) fun _ s10 ⟨_, H10, I10, _, w10⟩ => ?_)
        exact wpAny_pure (wpAny_pure ⟨rfl, again I10 hm' w10⟩)
      | false =>
        rw [if_neg Bool.false_ne_true] at q8
        obtain ⟨m', hm', w8⟩ := hN _ _ q8
        simp only [Bool.false_eq_true, if_false]
        exact wpAny_pure ⟨rfl, again I8 hm' w8⟩
  rw [o3]
  exact codeAny_compStart_list loop (T.self _ 0 _ _ _ stY loop)
end L2
namespace L2
open PySem PySem.Spec PyProof.Rows
def isCF (k : Option NameKind) : Bool := k == some .cell || k == some .free
def capChk (N : List Str) (names outer : List (Str × NameKind)) : Caps → Bool
  | [] => true
  | (x, i) :: r => decide (N[i]? = some x) && (names.lookup x == some .free) && isCF (outer.lookup x) && capChk N names outer r
def compChk (N : List Str) (outer scope : Scope) (caps : Caps) : Bool :=
  (scope.kind == .function) && (scope.names.all fun y => y.2 != .cell && (y.2 != .local || scope.names.lookup y.1 == some .local) && (y.2 != .free || isCF (outer.names.lookup y.1))) && capChk N scope.names outer.names caps
theorem isCF_of {k : Option NameKind} (h : isCF k = true) : k = some .cell ∨ k = some .free := by
  unfold isCF at h
  simpa using h
theorem capChk_ok {X : Cx} {scope : Scope} : ∀ {caps : Caps}, capChk X.N scope.names X.env.scope.names caps = true → CapOk X scope caps
  | [], _ => trivial
  | (x, i) :: r, h => by
    unfold capChk at h
    simp only [Bool.and_eq_true] at h
    obtain ⟨⟨⟨h1, h2⟩, h3⟩, h4⟩ := h
    exact ⟨⟨of_decide_eq_true h1, by simpa using h2, isCF_of h3⟩, capChk_ok h4⟩
theorem compChk_ok {X : Cx} {scope : Scope} {caps : Caps} (h : compChk X.N X.env.scope scope caps = true) :
    scope.kind = .function ∧ (∀ y ∈ scope.names, y.2 ≠ .cell) ∧ (∀ y ∈ scope.names, y.2 = .local → scope.names.lookup y.1 = some .local) ∧ (∀ x, (x, NameKind.free) ∈ scope.names → X.env.scope.names.lookup x = some .cell ∨ X.env.scope.names.lookup x = some .free) ∧ CapOk X scope caps := by
  unfold compChk at h
  simp only [Bool.and_eq_true, List.all_eq_true] at h
  obtain ⟨⟨h1, h2⟩, h3⟩ := h
  refine ⟨by simpa using h1, fun y hy e => ?_, fun y hy e => ?_, fun x hx => ?_, capChk_ok h3⟩
  · have z := (h2 y hy).1.1
    rw [e] at z; simp at z
  · have z := (h2 y hy).1.2
    rw [e] at z; simpa using z
  · have z := (h2 _ hx).2
    exact isCF_of (by simpa using z)
def tComp (wi : TI) (g : TG) (tt : TT) (te : TE) (tg : List Str) (caps : Caps) : TE := fun σ H Q => wi σ H fun J H1 => ∀ D, H1 D = none → CompW J g tt te (tg0 tg σ caps) D (fun _ H' => Q (.ref D) H') H1
section
variable {X : Cx} {iter target elt : Expr} {ifs : List Expr} {scope : Scope} {pos : Pos} {wi : TI} {g : TG} {tt : TT} {te : TE}
theorem clos_of {pins : List (Addr × Obj)} {σ : St} {H : Hp} {s : Shared} (I : Inv X pins σ H s) (hfree : ∀ x, (x, NameKind.free) ∈ scope.names → X.env.scope.names.lookup x = some .cell ∨ X.env.scope.names.lookup x = some .free) :
    ∃ cl, closureFor scope X.env = pure cl ∧ (∀ x c, cl.lookup x = some c → X.env.cells.lookup x = some c) ∧ ∀ x, (x, NameKind.free) ∈ scope.names → ∃ c, cl.lookup x = some c :=
  closure_ok fun x hx => I.ok.has x (hfree x hx)
theorem pe_lcomp (tg : List Str) (caps : Caps) (hc : X.calm = true) (hi : PI X target iter wi)
    (hg : ∀ cl C fp s H, PG (cxComp X (tg ++ caps.map (·.1)) scope cl C fp s H) target g) (ht : ∀ cl C fp s H, PIfs (cxComp X (tg ++ caps.map (·.1)) scope cl C fp s H) ifs tt) (he : ∀ cl C fp s H, PE (cxComp X (tg ++ caps.map (·.1)) scope cl C fp s H) elt te)
    (hk : compChk X.N X.env.scope scope caps = true := by rfl) (hs : ∀ x, foldedSetIterable iter X.env x = pure x := by intro _; rfl) :
    PE X (.ListComp elt [⟨target, iter, ifs, 0⟩] scope pos) (tComp wi g tt te tg caps) := by
  intro pins s σ H Q I h
  obtain ⟨hkind, hnc, hnames, hfree, co⟩ := compChk_ok hk
  obtain ⟨cl, hclos, hc1, hc2⟩ := clos_of I hfree
  rw [eval_ListComp]
  refine wpAny_comprehension_free (use := none) rfl hs hclos hkind hnames (thn (hi pins s σ H _ I h) fun v s1 h1 => thn h1 fun itv s2 h2 => ?_)
  obtain ⟨it, fp, tn, J, H2, e, I2, T, st2, f2, hw⟩ := h2
  subst e
  refine comp_run (RR := fun acc C => compPost (model X.prog X.w) X.A X.xe none (EP X pins σ Q) acc C) (Fin := fun D _ H' => Q (.ref D) H') hc hkind hnc hc1 hc2 co (fun C s H => hg cl C fp s H) (fun C s H => ht cl C fp s H) (fun C s H => he cl C fp s H) I2 T st2 f2 hw ?_
  intro D C ys H' s' hD I' hm F fin
  obtain ⟨m, hm⟩ := hm
  refine ⟨m, hm, fun h' hsb => ⟨.ref D, H', I'.turned (t' := s'.toks) (fun b o hb e => (hsb.2 b hb).trans e) F.1 F.2.1 F.2.2.2.1 F.2.2.2.2.1 F.2.2.2.2.2, rfl, fin⟩⟩
end
theorem comp_go {J : It} {n : Nat} {g : TG} {tt : TT} {te : TE} {σ0 : St} {D : Addr} {Fin : List V → Hp → Prop} {H1 : Hp} (Pv : Nat → List V → Hp → Prop) (h0 : Pv 0 [] (upd H1 D (.lst []))) (hl : ∀ i ys H, Pv i ys H → H D = some (.lst ys))
    (hgo : ∀ i ys H, i < n → Pv i ys H → J.go i H) (hstop : ∀ ys H, Pv n ys H → J.stop n H)
    (hs : ∀ i ys H x H', i < n → Pv i ys H → J.yld i H x H' → g x σ0 H' fun σ2 H2 => Keeps0 σ0 σ2 ∧ tt σ2 H2 fun b H3 =>
      if b = true then te σ2 H3 fun v H4 => H4 D = some (.lst ys) ∧ ys.length < sizeLine ∧ Pv (i + 1) (ys ++ [v]) (upd H4 D (.lst (ys ++ [v]))) else Pv (i + 1) ys H3)
    (hd : ∀ ys H, Pv n ys H → Fin ys H) : CompW J g tt te σ0 D Fin H1 := by
  refine ⟨fun i m ys H => m = n - i ∧ i ≤ n ∧ Pv i ys H, ⟨n, by simp, Nat.zero_le _, h0⟩, ?_⟩
  rintro i m ys H ⟨rfl, hi, p⟩
  refine ⟨hl i ys H p, ?_⟩
  by_cases hlt : i < n
  · exact .inr ⟨hgo i ys H hlt p, Pv (i + 1), fun zs H' q => ⟨n - (i + 1), by lia, rfl, hlt, q⟩, fun x H' y => hs i ys H x H' hlt p y⟩
  · have e : i = n := by lia
    subst e
    exact .inl ⟨hstop ys H p, hd ys H p⟩
theorem comp_range {lo : Int} {n : Nat} {g : TG} {tt : TT} {te : TE} {σ0 : St} {D : Addr} {Fin : List V → Hp → Prop} {H1 : Hp} (Pv : Nat → List V → Hp → Prop) (h0 : Pv 0 [] (upd H1 D (.lst []))) (hl : ∀ i ys H, Pv i ys H → H D = some (.lst ys))
    (hs : ∀ i ys H, i < n → Pv i ys H → g (.int (lo + i)) σ0 H fun σ2 H2 => Keeps0 σ0 σ2 ∧ tt σ2 H2 fun b H3 =>
      if b = true then te σ2 H3 fun v H4 => H4 D = some (.lst ys) ∧ ys.length < sizeLine ∧ Pv (i + 1) (ys ++ [v]) (upd H4 D (.lst (ys ++ [v]))) else Pv (i + 1) ys H3)
    (hd : ∀ ys H, Pv n ys H → Fin ys H) : CompW (Itr lo n) g tt te σ0 D Fin H1 :=
  comp_go Pv h0 hl (fun i ys H h _ => h) (fun ys H _ => Nat.le_refl _) (fun i ys H x H' h p y => by obtain ⟨e, y⟩ := y; subst e y; exact hs i ys _ h p) hd
theorem keeps_set0 {v : Option V} {r : St} : Keeps0 (none :: r) (v :: r) := ⟨rfl, fun i w h => by
  cases i with
  | zero => cases h
  | succ i => exact h⟩
end L2
namespace L2
open PySem PySem.Spec PyProof.Rows
section
variable {X : Cx}
def rSlS : V → Option Int → Option Int → Hp → VK → Prop := fun x lo hi H Q => ∃ z, x = .str z ∧ z.length ≤ sizeLine ∧ Q (.str (Txt.slice z lo hi)) H
theorem isPart_part {v : Value} {o : Option Int} (h : IsPart v o) : ∃ p : Option (Int × Tok), v = partValue p ∧ o = p.map (·.1) := by
  cases h with
  | none => exact ⟨none, rfl, rfl⟩
  | int i t => exact ⟨some (i, t), rfl, rfl⟩
theorem sl_str : SlR X rSlS := by
  intro pins s σ H x v vl vu lo hi sl Q I rx hs pl pu h
  obtain ⟨z, rfl, hz, q⟩ := h
  obtain ⟨t, rfl⟩ := rx
  obtain ⟨p1, rfl, rfl⟩ := isPart_part pl
  obtain ⟨p2, rfl, rfl⟩ := isPart_part pu
  refine ⟨"str", _, F.slot_str_getitem.lookup, typeIs_str _ _ _, wpAny_getItem_str_slice (l := p1) (u := p2) (st := none) hs rfl
    (post_val_or_str ⟨Nat.le_trans (Txt.slice_le z _ _) hz, fun t' k => ⟨.str (Txt.slice z (p1.map (·.1)) (p2.map (·.1))), H, I.tok _, ⟨t', rfl⟩, q⟩⟩)⟩
theorem strsAre_of : ∀ {ys : List Str} {us : List Value}, Vals (ys.map V.str) us → StrsAre us ys
  | [], _, .nil => .nil
  | y :: ys, _, .cons r t => by obtain ⟨k, rfl⟩ := r; exact .cons y k (strsAre_of t)
def rJoin (K : PySem.W.Frag) : V → List V → Hp → VK → Prop := fun x vs H Q => ∃ (z : Str) (p : Addr) (ys : List Str), x = .str z ∧ vs = [.ref p] ∧ (SqL K H p (ys.map V.str) ∨ SqT K H p (ys.map V.str)) ∧ (ys.map (·.length)).sum + ys.length * z.length ≤ 16777216 ∧ Q (.str (Txt.join z ys)) H
theorem mt_join : MtM X "str.join" (rJoin X.K) := by
  intro pins s σ H x vs v us Q I rx rv h
  obtain ⟨z, p, ys, rfl, rfl, hq, hz, q⟩ := h
  obtain ⟨t, rfl⟩ := rx
  obtain ⟨u, rfl, ru⟩ := rv.one
  cases ru
  rcases hq with hq | hq
  · obtain ⟨its, r, pl, _⟩ := I.list hq
    exact join_list pl.isList (strsAre_of (by simpa using r)) hz fun t' k => ⟨.str _, H, I.tok _, ⟨_, rfl⟩, q⟩
  · obtain ⟨its, r, pl, _⟩ := I.tuple hq
    exact join_tuple pl (strsAre_of (by simpa using r)) hz fun t' k => ⟨.str _, H, I.tok _, ⟨_, rfl⟩, q⟩
def rMulS : R2 := fun x y H Q => ∃ z n, x = .str z ∧ y = .int n ∧ MulOk z n ∧ Q (.str (Txt.mul z n)) H
theorem op_mulS : OpR X (binaryOp .Mult) rMulS := by
  intro pins s σ H x y v u Q I rx ry h
  obtain ⟨z, n, rfl, rfl, hm, q⟩ := h
  obtain ⟨t, rfl⟩ := rx
  obtain ⟨t', rfl⟩ := ry
  exact SB.mul hm fun t2 k => ⟨.str _, H, I.tok _, ⟨_, rfl⟩, q⟩
theorem boolsAre_of : ∀ {bs : List Bool} {us : List Value}, Vals (bs.map V.bl) us → LSm.BoolsAre us bs
  | [], _, .nil => .nil
  | b :: bs, _, .cons r t => by cases r; exact .cons b (boolsAre_of t)
theorem call_all (hc : X.calm = true) : CallR X (.builtin "all") (fun xs H Q => ∃ (p : Addr) (bs : List Bool), xs = [.ref p] ∧ SqL X.K H p (bs.map V.bl) ∧ Q (.bl (bs.all id)) H) := by
  intro pins s σ H xs us Q I r h
  obtain ⟨p, bs, rfl, hq, q⟩ := h
  obtain ⟨u, rfl, rx⟩ := vals1 r
  cases rx
  obtain ⟨its, r', pl, hz⟩ := I.list hq
  have hb := boolsAre_of r'
  have hlt : p < s.heap.objs.size := by obtain ⟨_, e, _⟩ := pl.isList; exact Heap.lt_size e
  refine call_all_walk (wpAny_pyIter_list pl.isList ?_)
  refine ⟨s.heap.objs.size, [s.heap.objs.size, p], [s.heap.objs.size], its.toArray.size, _, _, fun i => (bs[i]?).getD true, rfl, Walks.list (A := X.A.in1) (I.ok.hd hc) _ p (Nat.ne_of_lt hlt) its.toArray,
    ⟨⟨_, Heap.get?_push_size _ rfl, rfl, rfl⟩, pl.isList.push _⟩, fun i v s' Q' E' hP hQ => ?_, fun h' tk hk => ?_⟩
  · obtain ⟨b, e, rfl⟩ := hb.get i v (by simpa using hP)
    simp only [e, Option.getD_some] at hQ
    exact wpAny_truthy_bool hQ
  · have e : ((List.range its.toArray.size).all fun i => (bs[i]?).getD true) = bs.all id := by
      rw [List.size_toArray, hb.length]; exact LSm.range_all bs
    rw [e]
    exact ⟨.bl _, H, I.kept (t' := tk) (LSm.kept_iter hk), rfl, q⟩
theorem call_isinst : CallR X (.builtin "isinstance") (fun xs H Q => ∃ x c t b, xs = [x, .ty c] ∧ TyOf X.K H x t ∧ PySem.W.kitOne X.K t (.type c) = some b ∧ Q (.bl b) H) := by
  intro pins s σ H xs us Q I r h
  obtain ⟨x, c, t, b, rfl, ty, e, q⟩ := h
  obtain ⟨u, v, rfl, ru, rv⟩ := r.two
  cases rv
  exact isinst_ok I ru ty e fun tk => ⟨.bl b, H, I.tok _, rfl, q⟩
def Its (z : Str) : It := ⟨fun i _ => i < z.length, fun i H x H' => H' = H ∧ ∃ c, z.cps[i]? = some c ∧ x = .str ⟨#[c]⟩, fun i _ => z.length ≤ i⟩
end
theorem turn_strA {P : Program} {w : World} {K : PySem.W.Frag} {tg : Expr} (it : Addr) (z : Str) (t : Tok) : Turn P w K tg (Its z) [it] it (fun i h => i ≤ z.length ∧ h.IsStrIter it "str_ascii_iterator" z t i) where
  mem := by simp
  obj := fun i h st b hb => by
    have e : b = it := by simpa using hb
    subst e
    obtain ⟨_, o, e, c, d⟩ := st
    exact ⟨o, e, fun v z => by rw [d] at z; cases z⟩
  keep := fun i h h' st k => ⟨st.1, let ⟨o, e, c, d⟩ := st.2; ⟨o, k it (by simp) o e, c, d⟩⟩
  item := by
    intro X hP hw hK hc i pins s σ H E I hf st hg
    subst hP hw hK
    obtain ⟨f0, f1, f2, f3, f4, f5⟩ := hf it (by simp)
    have hi : i < z.cps.size := hg
    refine wpAny_pyNext_ascii_item st.2 (c := z.cps[i]) (by simp [hi]) fun h' hit' hs' => ?_
    have I1 : Inv X pins σ H { s with heap := h', toks := s.toks + 1 } := I.turned (fun b o hb e => (hs'.2 b hb).trans e) f0 f1 f3 f4 f5
    obtain ⟨o, e, c, d⟩ := id hit'
    exact ⟨_, rfl, go_of (s := { s with heap := h', toks := s.toks + 1 }) e c d (by decide) ⟨.str ⟨#[z.cps[i]]⟩, H, I1, ⟨_, rfl⟩, ⟨rfl, _, by simp [hi], rfl⟩, ⟨hg, hit'⟩, fun b hb => (hf b hb).1⟩⟩
  done := by
    intro X hP hw hK hc i pins s σ H E I hf st hg
    subst hP hw hK
    obtain ⟨f0, f1, f2, f3, f4, f5⟩ := hf it (by simp)
    have hi : z.cps.size ≤ i := hg
    exact wpAny_pyNext_ascii_end (I.ok.hd hc) st.2 (by simp; lia) fun h' eb => ⟨rfl, I.turned (t' := s.toks) (fun b o hb e => eb b o hb e) f0 f1 f3 f4 f5⟩
  self := fun _ _ _ _ _ st h => wpAny_pyIter_striter_ascii st.2 h
theorem turn_strW {P : Program} {w : World} {K : PySem.W.Frag} {tg : Expr} (it : Addr) (z : Str) (t : Tok) : Turn P w K tg (Its z) [it] it (fun i h => i ≤ z.length ∧ h.IsStrIter it "str_iterator" z t i) where
  mem := by simp
  obj := fun i h st b hb => by
    have e : b = it := by simpa using hb
    subst e
    obtain ⟨_, o, e, c, d⟩ := st
    exact ⟨o, e, fun v z => by rw [d] at z; cases z⟩
  keep := fun i h h' st k => ⟨st.1, let ⟨o, e, c, d⟩ := st.2; ⟨o, k it (by simp) o e, c, d⟩⟩
  item := by
    intro X hP hw hK hc i pins s σ H E I hf st hg
    subst hP hw hK
    obtain ⟨f0, f1, f2, f3, f4, f5⟩ := hf it (by simp)
    have hi : i < z.cps.size := hg
    refine wpAny_pyNext_wide_item st.2 (c := z.cps[i]) (by simp [hi]) fun h' hit' hs' => ?_
    have I1 : Inv X pins σ H { s with heap := h', toks := s.toks + 1 } := I.turned (fun b o hb e => (hs'.2 b hb).trans e) f0 f1 f3 f4 f5
    obtain ⟨o, e, c, d⟩ := id hit'
    exact ⟨_, rfl, go_of (s := { s with heap := h', toks := s.toks + 1 }) e c d (by decide) ⟨.str ⟨#[z.cps[i]]⟩, H, I1, ⟨_, rfl⟩, ⟨rfl, _, by simp [hi], rfl⟩, ⟨hg, hit'⟩, fun b hb => (hf b hb).1⟩⟩
  done := by
    intro X hP hw hK hc i pins s σ H E I hf st hg
    subst hP hw hK
    obtain ⟨f0, f1, f2, f3, f4, f5⟩ := hf it (by simp)
    have hi : z.cps.size ≤ i := hg
    exact wpAny_pyNext_wide_end (I.ok.hd hc) st.2 (by simp; lia) fun h' eb => ⟨rfl, I.turned (t' := s.toks) (fun b o hb e => eb b o hb e) f0 f1 f3 f4 f5⟩
  self := fun _ _ _ _ _ st h => wpAny_pyIter_striter_wide st.2 h
section
variable {X : Cx} {tg : Expr}
end
theorem comp_str {z : Str} {g : TG} {tt : TT} {te : TE} {σ0 : St} {D : Addr} {Fin : List V → Hp → Prop} {H1 : Hp} (Pv : Nat → List V → Hp → Prop) (h0 : Pv 0 [] (upd H1 D (.lst []))) (hl : ∀ i ys H, Pv i ys H → H D = some (.lst ys))
    (hs : ∀ i ys H c, z.cps[i]? = some c → Pv i ys H → g (.str ⟨#[c]⟩) σ0 H fun σ2 H2 => Keeps0 σ0 σ2 ∧ tt σ2 H2 fun b H3 =>
      if b = true then te σ2 H3 fun v H4 => H4 D = some (.lst ys) ∧ ys.length < sizeLine ∧ Pv (i + 1) (ys ++ [v]) (upd H4 D (.lst (ys ++ [v]))) else Pv (i + 1) ys H3)
    (hd : ∀ ys H, Pv z.length ys H → Fin ys H) : CompW (Its z) g tt te σ0 D Fin H1 :=
  comp_go Pv h0 hl (fun i ys H h _ => h) (fun ys H _ => Nat.le_refl _) (fun i ys H x H' h p y => by obtain ⟨e, c, hc, y⟩ := y; subst e y; exact hs i ys _ c hc p) hd
end L2
namespace L2
open PySem PySem.Spec PyProof.Rows
structure Vw (K : PySem.W.Frag) (H : Hp) (h : Heap) : Prop where
  lst : ∀ a xs, SqL K H a xs → ∃ its : List Value, Vals xs its ∧ h.IsList a its.toArray
  tup : ∀ a xs, SqT K H a xs → ∃ its : List Value, Vals xs its ∧ h.IsTuple a its.toArray
theorem SqL.ne {K : PySem.W.Frag} {H : Hp} {a b : Addr} {xs : List V} (h : SqL K H a xs) (hb : H b = none) (hk : K.lookup b = none) : a ≠ b := by
  rintro rfl
  rcases h with (h | ⟨o, h⟩) | ⟨o, _, _, h, _⟩
  · rw [hb] at h; cases h
  · rw [hb] at h; cases h
  · rw [hk] at h; cases h
theorem SqT.ne {K : PySem.W.Frag} {H : Hp} {a b : Addr} {xs : List V} (h : SqT K H a xs) (hb : H b = none) (hk : K.lookup b = none) : a ≠ b := by
  rintro rfl
  rcases h with (h | ⟨o, h⟩) | ⟨o, _, _, h, _⟩
  · rw [hb] at h; cases h
  · rw [hb] at h; cases h
  · rw [hk] at h; cases h
theorem Vw.but {K : PySem.W.Frag} {H : Hp} {h h' : Heap} {b : Addr} (v : Vw K H h) (hb : H b = none) (hk : K.lookup b = none) (k : ∀ c o, c ≠ b → h.get? c = some o → h'.get? c = some o) : Vw K H h' :=
  ⟨fun a xs q => let ⟨its, r, l⟩ := v.lst a xs q; ⟨its, r, l.at fun o e => k a o (q.ne hb hk) e⟩, fun a xs q => let ⟨its, r, l⟩ := v.tup a xs q; ⟨its, r, by
    obtain ⟨o, e, z⟩ := l
    exact ⟨o, k a o (q.ne hb hk) e, z⟩⟩⟩
theorem Vw.linj {K : PySem.W.Frag} {H : Hp} {h : Heap} {a : Addr} {xs ys : List V} (v : Vw K H h) (p : SqL K H a xs) (q : SqL K H a ys) : xs = ys := by
  obtain ⟨its, r, o, e, _, n, d⟩ := v.lst a xs p
  obtain ⟨its', r', o', e', _, n', d'⟩ := v.lst a ys q
  rw [e] at e'; cases e'
  rw [d] at d'
  injection d' with d1 _
  have : its = its' := by simpa using congrArg Array.toList d1
  subst this
  exact r.inj r'
theorem Inv.vw {X : Cx} {pins : List (Addr × Obj)} {σ : St} {H : Hp} {s : Shared} (I : Inv X pins σ H s) : Vw X.K H s.heap :=
  ⟨fun a xs q => let ⟨its, r, l, _⟩ := I.list q; ⟨its, r, l.isList⟩, fun a xs q => let ⟨its, r, l, _⟩ := I.tuple q; ⟨its, r, l⟩⟩
structure Srce (P : Program) (w : World) (K : PySem.W.Frag) (J : It) (it : Addr) (st : Nat → Heap → Prop) : Prop where
  obj : ∀ i h, st i h → ∃ o, h.get? it = some o ∧ ∀ v, o.data ≠ .cell v
  keep : ∀ i h h', st i h → (∀ o, h.get? it = some o → h'.get? it = some o) → st i h'
  item : ∀ (A : Around) (i : Nat) (s : Shared) (H : Hp) (Q : Value → Shared → Prop) (E : Value → Shared → Prop), A.handled = none → Vw K H s.heap → H it = none → K.lookup it = none → st i s.heap → J.go i H →
    (∀ u x h' tk, RelV x u → J.yld i H x H → st (i + 1) h' → Heap.SameBut it s.heap h' → Q u { s with heap := h', toks := tk }) → wpAny (model P w) A (Builtin.SmallTypes.nextOf (.ref it)) Q E s
  done : ∀ (A : Around) (i : Nat) (s : Shared) (H : Hp) (Q : Value → Shared → Prop) (E : Value → Shared → Prop), A.handled = none → Vw K H s.heap → H it = none → K.lookup it = none → st i s.heap → J.stop i H →
    (∀ h' e, Heap.ExtBut it s.heap h' → (∃ o, h'.get? e = some o ∧ o.cls = .type "StopIteration") → E (.ref e) { s with heap := h' }) → wpAny (model P w) A (Builtin.SmallTypes.nextOf (.ref it)) Q E s
theorem srce_list {P : Program} {w : World} {K : PySem.W.Frag} (a it : Addr) : Srce P w K (Itl K a) it (fun i h => h.IsListIter it a i) where
  obj := fun i h st => by obtain ⟨o, e, c, d⟩ := st; exact ⟨o, e, fun v z => by rw [d] at z; cases z⟩
  keep := fun i h h' st k => st.at fun o e => k o e
  item := fun A i s H Q E hh vw hn hk st go hQ => by
    obtain ⟨xs, x, hq, hx⟩ := go
    obtain ⟨its, rv, p⟩ := vw.lst a xs hq
    obtain ⟨u, hu, ru⟩ := rv.get hx
    refine wpAny_nextOf_list_item st p (x := u) (by simpa using hu) fun h' st' sb => ?_
    exact hQ u x h' s.toks ru ⟨rfl, fun ys hy => by rw [vw.linj hy hq]; exact hx⟩ st' sb
  done := fun A i s H Q E hh vw hn hk st stop hE => by
    obtain ⟨xs, hq, hx⟩ := stop
    obtain ⟨its, rv, p⟩ := vw.lst a xs hq
    have hl := rv.length
    exact wpAny_nextOf_list_end hh st p (by simp; lia) hE
def stStr (it : Addr) (z : Str) (t : Tok) (i : Nat) (h : Heap) : Prop := h.IsStrIter it (strIterType z) z t i
theorem srce_str {P : Program} {w : World} {K : PySem.W.Frag} (it : Addr) (z : Str) (t : Tok) : Srce P w K (Its z) it (stStr it z t) where
  obj := fun i h st => by obtain ⟨o, e, c, d⟩ := st; exact ⟨o, e, fun v z => by rw [d] at z; cases z⟩
  keep := fun i h h' st k => by obtain ⟨o, e, r⟩ := st; exact ⟨o, k o e, r⟩
  item := fun A i s H Q E hh vw hn hk st go hQ => by
    have hi : i < z.cps.size := go
    unfold stStr strIterType at st
    cases ha : z.cps.all (· < 128)
    · rw [ha] at st
      refine wpAny_nextOf_wide_item st (c := z.cps[i]) (by simp [hi]) fun h' hit' hs' => ?_
      exact hQ _ (.str ⟨#[z.cps[i]]⟩) h' (s.toks + 1) ⟨_, rfl⟩ ⟨rfl, _, by simp [hi], rfl⟩ (by unfold stStr strIterType; rw [ha]; exact hit') hs'
    · rw [ha] at st
      refine wpAny_nextOf_ascii_item st (c := z.cps[i]) (by simp [hi]) fun h' hit' hs' => ?_
      exact hQ _ (.str ⟨#[z.cps[i]]⟩) h' (s.toks + 1) ⟨_, rfl⟩ ⟨rfl, _, by simp [hi], rfl⟩ (by unfold stStr strIterType; rw [ha]; exact hit') hs'
  done := fun A i s H Q E hh vw hn hk st stop hE => by
    have hi : z.cps.size ≤ i := stop
    unfold stStr strIterType at st
    cases ha : z.cps.all (· < 128)
    · rw [ha] at st
      exact wpAny_nextOf_wide_end hh st (by simp; lia) hE
    · rw [ha] at st
      exact wpAny_nextOf_ascii_end hh st (by simp; lia) hE
theorem Inv.turnedL {X : Cx} {pins : List (Addr × Obj)} {σ : St} {H : Hp} {s : Shared} {h' : Heap} {t' : Nat} {ch : List Addr} (I : Inv X pins σ H s) (k : ∀ b o, b ∉ ch → s.heap.get? b = some o → h'.get? b = some o) (hf : ∀ b ∈ ch, FpOk X pins H b) : Inv X pins σ H { s with heap := h', toks := t' } := by
  have nit : ∀ b u, H b = some u → b ∉ ch := fun b u e z => by rw [(hf b z).1] at e; cases e
  refine I.step (g' := s.gens) (d' := s.drawn) (ch := ch) (fun b hb => ?_) (fun b o _ _ hc e _ => k b o hc e) (fun b o _ _ hc e _ => ⟨o.slots, k b o hc e⟩) (fun _ _ _ _ n => n)
    (fun b o hc e => ?_) (fun _ _ e => e) (fun _ _ _ e => e) (fun b ps e => ⟨#[], by rw [e]; simp⟩) (fun m hm => ?_) (fun b u e => ?_) I.bare
  · exact ⟨(hf b hb).2.2.2.1, (hf b hb).2.1, (hf b hb).2.2.2.2.1, (hf b hb).2.2.2.2.2⟩
  · exact ⟨o, k b o hc e⟩
  · obtain ⟨o, es, ep, ho, r⟩ := hm
    exact ⟨o, es, ep, k _ o (fun z => (hf _ z).2.1 rfl) ho, r⟩
  · refine (I.hok b u e).stay (fun c v hc q => k c v ?_ q) (fun _ q => q) fun _ _ q => q
    rcases hc with z | z
    · rw [z]; exact nit b u e
    · exact nit c _ z
theorem Inv.track {X : Cx} {pins : List (Addr × Obj)} {σ : St} {H : Hp} {s : Shared} {T : Addr} {o : HO} (I : Inv X pins σ H s) (hT : X.s₀.heap.objs.size ≤ T) (hF : FpOk X pins H T) (new : ObjOk X.prog X.w (upd H T o) s.heap T o) : Inv X pins σ (upd H T o) s := by
  have hn : H T = none := hF.1
  refine ⟨I.ok, I.os, I.bare, ⟨I.base.keep, I.base.slot, fun b ob e n hx => ?_, I.base.there, fun b xs e => ?_, fun b ob u e => ?_, fun b ps e => ?_⟩, I.loc, I.cell, ?_, fun x c e => ?_, fun p hp => ?_, fun b u e => ?_, I.len⟩
  · rw [upd_ne (Nat.ne_of_lt (Nat.lt_of_lt_of_le (Heap.lt_size e) hT))]; exact I.base.free b ob e n hx
  · have z := I.base.tups b xs e
    rw [upd_ne (ne_of_none z hn)]; exact z
  · have z := I.base.frzs b ob u e
    rw [upd_ne (ne_of_none z hn)]; exact z
  · obtain ⟨m, z⟩ := I.base.tbls b ps e
    exact ⟨m, by rw [upd_ne (ne_of_none z hn)]; exact z⟩
  · rw [upd_ne (Ne.symm hF.2.1)]; exact I.free
  · rw [upd_ne (hF.2.2.2.2.1 x c e)]; exact I.freeC x c e
  · obtain ⟨e, n, ne, nf, d⟩ := I.pin p hp
    exact ⟨e, by rw [upd_ne (hF.2.2.2.2.2 p hp)]; exact n, ne, nf, d⟩
  · by_cases hb : b = T
    · subst hb; rw [upd_same] at e; cases e; exact new
    · rw [upd_ne hb] at e
      exact (I.hok b u e).stay (fun _ _ _ q => q) (fun c q => by rw [upd_ne (ne_of_none q hn)]; exact q) fun c xs q => by rw [upd_ne (ne_of_none q hn)]; exact q
theorem FpOk.noK {X : Cx} {pins : List (Addr × Obj)} {σ : St} {H H' : Hp} {s : Shared} {b : Addr} (I : Inv X pins σ H' s) (f : FpOk X pins H b) : X.K.lookup b = none := by
  cases e : X.K.lookup b with
  | none => rfl
  | some o =>
    have e1 := I.ok.mod.kin b o e
    rcases f.2.2.2.1 with z | z
    · exact absurd z (I.ok.noex b o e1)
    · exact absurd (Nat.lt_of_lt_of_le (Heap.lt_size (I.ok.bs b o e1).1) z) (Nat.lt_irrefl _)
end L2
namespace L2
open PySem PySem.Spec PyProof.Rows
structure ZipA (z TI TO i1 i2 : Addr) : Prop where
  TIz : TI ≠ z
  TOz : TO ≠ z
  i1z : i1 ≠ z
  i2z : i2 ≠ z
  TITO : TI ≠ TO
  TIi1 : TI ≠ i1
  TIi2 : TI ≠ i2
  TOi1 : TO ≠ i1
  TOi2 : TO ≠ i2
  i12 : i1 ≠ i2
section
variable {prog : Program} {w : World} {K : PySem.W.Frag} {A : Around} {E : Value → Shared → Prop} {s : Shared} {J1 J2 : It} {t1 t2 : Nat → Heap → Prop} {z TI TO i1 i2 : Addr} {H : Hp}
theorem zipS_item {i : Nat} {a b : Value} {Q : Value → Shared → Prop} (D : ZipA z TI TO i1 i2) (S1 : Srce prog w K J1 i1 t1) (S2 : Srce prog w K J2 i2 t2) (hh : A.handled = none) (vw : Vw K H s.heap)
    (nH : ∀ b ∈ [z, TI, TO, i1, i2], H b = none) (nK : ∀ b ∈ [z, TI, TO, i1, i2], K.lookup b = none)
    (hz : IsZip s.heap z TI TO .none) (hTI : IsPair s.heap TI (.ref i1) (.ref i2)) (hTO : IsPair s.heap TO a b) (h1 : t1 i s.heap) (h2 : t2 i s.heap) (g1 : J1.go i H) (g2 : J2.go i H)
    (hQ : ∀ u v x y h' tk, RelV x u → RelV y v → J1.yld i H x H → J2.yld i H y H → IsZip h' z TI TO (rawInt s.heap.objs.size) → IsPair h' TO u v → t1 (i + 1) h' → t2 (i + 1) h' → IsPair h' s.heap.objs.size u v → h'.objs.size = s.heap.objs.size + 1 →
      (∀ c o, c ≠ z → c ≠ TO → c ≠ i1 → c ≠ i2 → s.heap.get? c = some o → h'.get? c = some o) → Q (.ref s.heap.objs.size) { s with heap := h', toks := tk }) :
    wpAny (model prog w) A (Builtin.«zip.__next__» ⟨[.ref z], []⟩) (fun fin s' => ∃ v, fin = .done (.ret v) ∧ Q v s') E s := by
  show wpAny _ _ (field (.ref z) 2 >>= _) _ _ _
  refine wpAny_bind (wpAny_field hz rfl (x := .bool false) rfl ?_)
  show wpAny _ _ (field (.ref z) 3 >>= _) _ _ _
  refine wpAny_bind (wpAny_field hz rfl (x := .ref TI) rfl ?_)
  refine wpAny_bind (wpAny_seqItems hTI rfl ?_)
  show wpAny _ _ (Builtin.SmallTypes.ownedTupleIsFree (.ref z) >>= _) _ _ _
  refine wpAny_bind ?_
  unfold Builtin.SmallTypes.ownedTupleIsFree
  refine wpAny_bind (wpAny_field hz rfl (x := .none) rfl (wpAny_pure ?_))
  simp only [if_true]
  refine wpAny_bind (wpAny_rule ?_)
  refine wpAny_bind (wpAny_field hz rfl (x := .ref TO) rfl ?_)
  refine wpAny_bind (wpAny_setField_rec hz (by simp) fun h₁ hz₁ hs₁ => ?_)
  replace hz₁ : IsZip h₁ z TI TO .ellipsis := hz₁
  have vw₁ : Vw K H h₁ := vw.but (nH z (by simp)) (nK z (by simp)) fun c o hc e => hs₁.extBut _ _ hc e
  refine wpAny_bind ?_
  simp only [List.zipIdx_cons, List.zipIdx_nil, List.forIn_cons, List.forIn_nil]
  refine wpAny_bind (wpAny_bind (wpAny_onRaise ?_))
  show wpAny _ _ (Builtin.SmallTypes.nextOf (.ref i1) >>= _) _ _ _
  refine wpAny_bind (S1.item _ i _ H _ _ hh vw₁ (nH i1 (by simp)) (nK i1 (by simp)) (S1.keep _ _ _ h1 fun o e => hs₁.extBut _ _ D.i1z e) g1 fun u x h₂ tk₂ rx yx h1₂ hs₂ => wpAny_pure ?_)
  replace hs₂ : Heap.SameBut i1 h₁ h₂ := hs₂
  have hTO₂ : IsPair h₂ TO a b := hs₂.extBut _ _ D.TOi1 (hs₁.extBut _ _ D.TOz hTO)
  refine wpAny_bind (wpAny_seqItems hTO₂ rfl ?_)
  refine wpAny_bind (wpAny_updateSeq_pair hTO₂ fun h₃ hTO₃ hs₃ => ?_)
  replace hTO₃ : IsPair h₃ TO u b := hTO₃
  replace hs₃ : Heap.SameBut TO h₂ h₃ := hs₃
  have vw₃ : Vw K H h₃ := (vw₁.but (nH i1 (by simp)) (nK i1 (by simp)) fun c o hc e => hs₂.extBut _ _ hc e).but (nH TO (by simp)) (nK TO (by simp)) fun c o hc e => hs₃.extBut _ _ hc e
  refine wpAny_bind (wpAny_letGo (wpAny_pure ?_))
  refine wpAny_bind (wpAny_bind (wpAny_onRaise ?_))
  show wpAny _ _ (Builtin.SmallTypes.nextOf (.ref i2) >>= _) _ _ _
  refine wpAny_bind (S2.item _ i _ H _ _ hh vw₃ (nH i2 (by simp)) (nK i2 (by simp)) (S2.keep _ _ _ h2 fun o e => hs₃.extBut _ _ D.TOi2.symm (hs₂.extBut _ _ D.i12.symm (hs₁.extBut _ _ D.i2z e))) g2 fun v y h₄ tk₄ ry yy h2₄ hs₄ => wpAny_pure ?_)
  replace hs₄ : Heap.SameBut i2 h₃ h₄ := hs₄
  have hTO₄ : IsPair h₄ TO u b := hs₄.extBut _ _ D.TOi2 hTO₃
  refine wpAny_bind (wpAny_seqItems hTO₄ rfl ?_)
  refine wpAny_bind (wpAny_updateSeq_pair hTO₄ fun h₅ hTO₅ hs₅ => ?_)
  replace hTO₅ : IsPair h₅ TO u v := hTO₅
  replace hs₅ : Heap.SameBut TO h₄ h₅ := hs₅
  refine wpAny_bind (wpAny_letGo (wpAny_pure (wpAny_pure ?_)))
  refine wpAny_bind (wpAny_seqItems hTO₅ rfl ?_)
  refine wpAny_bind (wpAny_newTuple ?_)
  have hsz : h₅.objs.size = s.heap.objs.size := by rw [hs₅.1, hs₄.1, hs₃.1, hs₂.1, hs₁.1]
  have hz₅ : IsZip h₅ z TI TO .ellipsis := hs₅.extBut _ _ D.TOz.symm (hs₄.extBut _ _ D.i2z.symm (hs₃.extBut _ _ D.TOz.symm (hs₂.extBut _ _ D.i1z.symm hz₁)))
  have hk₅ : ∀ c o, c ≠ z → c ≠ TO → c ≠ i1 → c ≠ i2 → s.heap.get? c = some o → h₅.get? c = some o := fun c o c1 c2 c3 c4 e =>
    hs₅.extBut _ _ c2 (hs₄.extBut _ _ c4 (hs₃.extBut _ _ c2 (hs₂.extBut _ _ c3 (hs₁.extBut _ _ c1 e))))
  have h1₅ : t1 (i + 1) h₅ := S1.keep _ _ _ h1₂ fun o e => hs₅.extBut _ _ D.TOi1.symm (hs₄.extBut _ _ D.i12 (hs₃.extBut _ _ D.TOi1.symm e))
  have h2₅ : t2 (i + 1) h₅ := S2.keep _ _ _ h2₄ fun o e => hs₅.extBut _ _ D.TOi2.symm e
  have hzlt : z < h₅.objs.size := Heap.lt_size hz₅
  show wpAny _ _ (Builtin.SmallTypes.ownedTupleHandOut (.ref z) (.ref h₅.objs.size) >>= _) _ _ _
  refine wpAny_bind ?_
  unfold Builtin.SmallTypes.ownedTupleHandOut
  have hz₆ : IsZip (h₅.push { cls := .type "tuple", data := .seq #[u, v] }) z TI TO .ellipsis := Heap.get?_push_of_some _ hz₅
  refine wpAny_bind (wpAny_setField_rec hz₆ (by simp) fun h₇ hz₇ hs₇ => ?_)
  replace hz₇ : IsZip h₇ z TI TO (rawInt h₅.objs.size) := hz₇
  replace hs₇ : Heap.SameBut z (h₅.push { cls := .type "tuple", data := .seq #[u, v] }) h₇ := hs₇
  refine wpAny_setField_rec hz₇ (by simp) fun h₈ hz₈ hs₈ => ?_
  replace hz₈ : IsZip h₈ z TI TO (rawInt h₅.objs.size) := hz₈
  replace hs₈ : Heap.SameBut z h₇ h₈ := hs₈
  have up : ∀ c o, c ≠ z → h₅.get? c = some o → h₈.get? c = some o := fun c o c1 e => hs₈.extBut _ _ c1 (hs₇.extBut _ _ c1 (Heap.get?_push_of_some _ e))
  have hT₈ : IsPair h₈ h₅.objs.size u v := hs₈.extBut _ _ (Nat.ne_of_gt hzlt) (hs₇.extBut _ _ (Nat.ne_of_gt hzlt) (Heap.get?_push_size _ rfl))
  have hz8 : h₈.objs.size = h₅.objs.size + 1 := by rw [hs₈.1, hs₇.1, Heap.size_push]
  rw [hsz] at hz₈ hT₈ hz8
  refine wpAny_pure ⟨_, rfl, ?_⟩
  show Q (.ref h₅.objs.size) _
  rw [hsz]
  exact hQ u v x y h₈ tk₄ rx ry yx yy hz₈ (up _ _ D.TOz hTO₅) (S1.keep _ _ _ h1₅ fun o e => up _ o D.i1z e) (S2.keep _ _ _ h2₅ fun o e => up _ o D.i2z e) hT₈ hz8 fun c o c1 c2 c3 c4 e => up c o c1 (hk₅ c o c1 c2 c3 c4 e)
theorem zipS_end {i : Nat} {a b : Value} {Q : PySem.Fin → Shared → Prop} (D : ZipA z TI TO i1 i2) (S1 : Srce prog w K J1 i1 t1) (S2 : Srce prog w K J2 i2 t2) (hh : A.handled = none) (vw : Vw K H s.heap)
    (nH : ∀ b ∈ [z, TI, TO, i1, i2], H b = none) (nK : ∀ b ∈ [z, TI, TO, i1, i2], K.lookup b = none)
    (hz : IsZip s.heap z TI TO .none) (hTI : IsPair s.heap TI (.ref i1) (.ref i2)) (hTO : IsPair s.heap TO a b) (h1 : t1 i s.heap) (h2 : t2 i s.heap) (hend : J1.stop i H ∨ (J1.go i H ∧ J2.stop i H))
    (hE : ∀ h' e tk, (∀ c o, c ≠ z → c ≠ TO → c ≠ i1 → c ≠ i2 → s.heap.get? c = some o → h'.get? c = some o) → (∃ o, h'.get? e = some o ∧ o.cls = .type "StopIteration") → E (.ref e) { s with heap := h', toks := tk }) :
    wpAny (model prog w) A (Builtin.«zip.__next__» ⟨[.ref z], []⟩) Q E s := by
  show wpAny _ _ (field (.ref z) 2 >>= _) _ _ _
  refine wpAny_bind (wpAny_field hz rfl (x := .bool false) rfl ?_)
  show wpAny _ _ (field (.ref z) 3 >>= _) _ _ _
  refine wpAny_bind (wpAny_field hz rfl (x := .ref TI) rfl ?_)
  refine wpAny_bind (wpAny_seqItems hTI rfl ?_)
  show wpAny _ _ (Builtin.SmallTypes.ownedTupleIsFree (.ref z) >>= _) _ _ _
  refine wpAny_bind ?_
  unfold Builtin.SmallTypes.ownedTupleIsFree
  refine wpAny_bind (wpAny_field hz rfl (x := .none) rfl (wpAny_pure ?_))
  simp only [if_true]
  refine wpAny_bind (wpAny_rule ?_)
  refine wpAny_bind (wpAny_field hz rfl (x := .ref TO) rfl ?_)
  refine wpAny_bind (wpAny_setField_rec hz (by simp) fun h₁ hz₁ hs₁ => ?_)
  replace hz₁ : IsZip h₁ z TI TO .ellipsis := hz₁
  have vw₁ : Vw K H h₁ := vw.but (nH z (by simp)) (nK z (by simp)) fun c o hc e => hs₁.extBut _ _ hc e
  refine wpAny_bind ?_
  simp only [List.zipIdx_cons, List.zipIdx_nil, List.forIn_cons, List.forIn_nil]
  refine wpAny_bind (wpAny_bind (wpAny_onRaise ?_))
  show wpAny _ _ (Builtin.SmallTypes.nextOf (.ref i1) >>= _) _ _ _
  rcases hend with st | ⟨g1, st⟩
  · refine wpAny_bind (S1.done _ i _ H _ _ hh vw₁ (nH i1 (by simp)) (nK i1 (by simp)) (S1.keep _ _ _ h1 fun o e => hs₁.extBut _ _ D.i1z e) st fun h₂ e hs₂ he => ?_)
    replace hs₂ : Heap.ExtBut i1 h₁ h₂ := hs₂
    obtain ⟨oe, hoe, hce⟩ := he
    have hz₂ : IsZip h₂ z TI TO .ellipsis := hs₂ _ _ D.i1z.symm hz₁
    have hez : e ≠ z := fun x => by subst x; rw [hz₂] at hoe; cases hoe; simp at hce
    refine wpAny_setField_rec hz₂ (by simp) fun h₃ _ hs₃ => hE h₃ e _ (fun c o c1 _ c3 _ x => hs₃.extBut _ _ c1 (hs₂ _ _ c3 (hs₁.extBut _ _ c1 x))) ⟨oe, hs₃.extBut _ _ hez hoe, hce⟩
  · refine wpAny_bind (S1.item _ i _ H _ _ hh vw₁ (nH i1 (by simp)) (nK i1 (by simp)) (S1.keep _ _ _ h1 fun o e => hs₁.extBut _ _ D.i1z e) g1 fun u x h₂ tk₂ rx yx h1₂ hs₂ => wpAny_pure ?_)
    replace hs₂ : Heap.SameBut i1 h₁ h₂ := hs₂
    have hTO₂ : IsPair h₂ TO a b := hs₂.extBut _ _ D.TOi1 (hs₁.extBut _ _ D.TOz hTO)
    refine wpAny_bind (wpAny_seqItems hTO₂ rfl ?_)
    refine wpAny_bind (wpAny_updateSeq_pair hTO₂ fun h₃ hTO₃ hs₃ => ?_)
    replace hs₃ : Heap.SameBut TO h₂ h₃ := hs₃
    have vw₃ : Vw K H h₃ := (vw₁.but (nH i1 (by simp)) (nK i1 (by simp)) fun c o hc e => hs₂.extBut _ _ hc e).but (nH TO (by simp)) (nK TO (by simp)) fun c o hc e => hs₃.extBut _ _ hc e
    refine wpAny_bind (wpAny_letGo (wpAny_pure ?_))
    refine wpAny_bind (wpAny_bind (wpAny_onRaise ?_))
    show wpAny _ _ (Builtin.SmallTypes.nextOf (.ref i2) >>= _) _ _ _
    refine wpAny_bind (S2.done _ i _ H _ _ hh vw₃ (nH i2 (by simp)) (nK i2 (by simp)) (S2.keep _ _ _ h2 fun o e => hs₃.extBut _ _ D.TOi2.symm (hs₂.extBut _ _ D.i12.symm (hs₁.extBut _ _ D.i2z e))) st fun h₄ e hs₄ he => ?_)
    replace hs₄ : Heap.ExtBut i2 h₃ h₄ := hs₄
    obtain ⟨oe, hoe, hce⟩ := he
    have hz₄ : IsZip h₄ z TI TO .ellipsis := hs₄ _ _ D.i2z.symm (hs₃.extBut _ _ D.TOz.symm (hs₂.extBut _ _ D.i1z.symm hz₁))
    have hez : e ≠ z := fun x => by subst x; rw [hz₄] at hoe; cases hoe; simp at hce
    refine wpAny_setField_rec hz₄ (by simp) fun h₅ _ hs₅ => hE h₅ e _ (fun c o c1 c2 c3 c4 x => hs₅.extBut _ _ c1 (hs₄ _ _ c4 (hs₃.extBut _ _ c2 (hs₂.extBut _ _ c3 (hs₁.extBut _ _ c1 x))))) ⟨oe, hs₅.extBut _ _ hez hoe, hce⟩
end
def Itz (J1 J2 : It) : It := ⟨fun i H => J1.go i H ∧ J2.go i H, fun i H x H' => ∃ T x1 x2, H T = none ∧ J1.yld i H x1 H ∧ J2.yld i H x2 H ∧ x = .ref T ∧ H' = upd H T (.tup [x1, x2]), fun i H => J1.stop i H ∨ (J1.go i H ∧ J2.stop i H)⟩
def tnZip (z TI TO i1 i2 : Addr) (t1 t2 : Nat → Heap → Prop) (i : Nat) (h : Heap) : Prop := IsZip h z TI TO .none ∧ IsPair h TI (.ref i1) (.ref i2) ∧ (∃ a b, IsPair h TO a b) ∧ t1 i h ∧ t2 i h
theorem turn_zip {P : Program} {w : World} {K : PySem.W.Frag} {elts : List Expr} {kk : Nat} {pos : Pos} {J1 J2 : It} {t1 t2 : Nat → Heap → Prop} {z TI TO i1 i2 : Addr} (D : ZipA z TI TO i1 i2) (S1 : Srce P w K J1 i1 t1) (S2 : Srce P w K J2 i2 t2) :
    Turn P w K (.Tuple elts kk pos) (Itz J1 J2) [z, TI, TO, i1, i2] z (tnZip z TI TO i1 i2 t1 t2) where
  mem := by simp
  obj := fun i h st b hb => by
    obtain ⟨hz, hTI, ⟨a, c, hTO⟩, h1, h2⟩ := st
    simp only [List.mem_cons, List.not_mem_nil, or_false] at hb
    rcases hb with rfl | rfl | rfl | rfl | rfl
    · exact ⟨_, hz, fun v e => by cases e⟩
    · exact ⟨_, hTI, fun v e => by cases e⟩
    · exact ⟨_, hTO, fun v e => by cases e⟩
    · exact S1.obj i h h1
    · exact S2.obj i h h2
  keep := fun i h h' st k => by
    obtain ⟨hz, hTI, ⟨a, c, hTO⟩, h1, h2⟩ := st
    exact ⟨k z (by simp) _ hz, k TI (by simp) _ hTI, ⟨a, c, k TO (by simp) _ hTO⟩, S1.keep _ _ _ h1 fun o e => k i1 (by simp) o e, S2.keep _ _ _ h2 fun o e => k i2 (by simp) o e⟩
  item := by
    intro X hP hw hK hc i pins s σ H E I hf st hg
    subst hP hw hK
    obtain ⟨hz, hTI, ⟨a, c, hTO⟩, h1, h2⟩ := st
    have hT : s.TypeIs (.ref z) "zip" := ⟨_, hz, rfl⟩
    unfold pyNext
    refine wpAny_bind (wpAny_attempt (wpAny_callSpecial?_slot (name := Str.ofString "__next__") hT F.slot_zip_next
      (wpAny_call_entry F.slot_zip_next hT F.entry_zip_next
        (zipS_item D S1 S2 (I.ok.hd hc) I.vw (fun b hb => (hf b hb).1) (fun b hb => (hf b hb).noK I) hz hTI hTO h1 h2 hg.1 hg.2 fun u v x y h' tk rx ry yx yy a1 a2 a3 a4 a5 a6 a7 => wpAny_pure ?_) (F.args_zip_next_1 _))))
    refine ⟨_, rfl, ?_⟩
    refine wpAny_letOwnedTupleGo_zip (s := { s with heap := h', toks := tk }) a1 fun h2' hz2 hs2 => ?_
    replace hs2 : Heap.SameBut z h' h2' := hs2
    have k2 : ∀ c o, c ∉ [z, TI, TO, i1, i2] → s.heap.get? c = some o → h2'.get? c = some o := fun c o hcn e => by
      simp only [List.mem_cons, List.not_mem_nil, or_false, not_or] at hcn
      exact hs2.extBut _ _ hcn.1 (a7 c o hcn.1 hcn.2.2.1 hcn.2.2.2.1 hcn.2.2.2.2 e)
    have zlt : z < s.heap.objs.size := Heap.lt_size hz
    have I1 : Inv X pins σ H { s with heap := h2', toks := tk } := I.turnedL k2 hf
    have FT : FpOk X pins H s.heap.objs.size := I.fpOk (Nat.le_refl _) I.fresh
    have hT2 : IsPair h2' s.heap.objs.size u v := hs2.extBut _ _ (Nat.ne_of_gt zlt) a5
    have I2 : Inv X pins σ (upd H s.heap.objs.size (.tup [x, y])) { s with heap := h2', toks := tk } :=
      I1.track I.sz FT ⟨by show 2 ≤ sizeLine; decide, [u, v], .cons rx (.cons ry .nil), ⟨_, hT2, rfl, _, rfl⟩⟩
    refine ⟨.ref s.heap.objs.size, _, I2, rfl, ⟨_, x, y, I.fresh, yx, yy, rfl, rfl⟩, ⟨hz2, ?_, ⟨_, _, hs2.extBut _ _ D.TOz a2⟩, S1.keep _ _ _ a3 fun o e => hs2.extBut _ _ D.i1z e, S2.keep _ _ _ a4 fun o e => hs2.extBut _ _ D.i2z e⟩, fun b hb => ?_⟩
    · exact hs2.extBut _ _ D.TIz (a7 _ _ D.TIz D.TITO D.TIi1 D.TIi2 hTI)
    · have hb2 := (hf b hb).1
      rw [upd_ne]
      · exact hb2
      · have : ∃ o, s.heap.get? b = some o := by
          simp only [List.mem_cons, List.not_mem_nil, or_false] at hb
          rcases hb with rfl | rfl | rfl | rfl | rfl
          · exact ⟨_, hz⟩
          · exact ⟨_, hTI⟩
          · exact ⟨_, hTO⟩
          · obtain ⟨o, e, _⟩ := S1.obj _ _ h1; exact ⟨o, e⟩
          · obtain ⟨o, e, _⟩ := S2.obj _ _ h2; exact ⟨o, e⟩
        obtain ⟨o, e⟩ := this
        exact Nat.ne_of_lt (Heap.lt_size e)
  done := by
    intro X hP hw hK hc i pins s σ H E I hf st hg
    subst hP hw hK
    obtain ⟨hz, hTI, ⟨a, c, hTO⟩, h1, h2⟩ := st
    have hT : s.TypeIs (.ref z) "zip" := ⟨_, hz, rfl⟩
    unfold pyNext
    refine wpAny_bind (wpAny_attempt (wpAny_callSpecial?_slot (name := Str.ofString "__next__") hT F.slot_zip_next
      (wpAny_call_entry F.slot_zip_next hT F.entry_zip_next
        (zipS_end D S1 S2 (I.ok.hd hc) I.vw (fun b hb => (hf b hb).1) (fun b hb => (hf b hb).noK I) hz hTI hTO h1 h2 hg fun h' e tk hk he => ?_) (F.args_zip_next_1 _))))
    obtain ⟨o, ho, hcl⟩ := he
    refine wpAny_bind (wpAny_isInstance (T := "StopIteration") (b := true) ⟨o, ho, hcl⟩ isSubtype_stop ?_)
    refine wpAny_pure ⟨rfl, I.turnedL (fun c o hcn e => ?_) hf⟩
    simp only [List.mem_cons, List.not_mem_nil, or_false, not_or] at hcn
    exact hk c o hcn.1 hcn.2.2.1 hcn.2.2.2.1 hcn.2.2.2.2 e
  self := fun _ _ _ _ _ st h => wpAny_pyIter_zip st.1 h
end L2
namespace L2
open PySem PySem.Spec PyProof.Rows
abbrev zs1 (h : Heap) (x : Str) (t : Tok) : Heap := h.push { cls := .type (strIterType x), data := .fields #[.str x t, .int 0 0] }
abbrev zs2 (h : Heap) (x y : Str) (t u : Tok) : Heap := (zs1 h x t).push { cls := .type (strIterType y), data := .fields #[.str y u, .int 0 0] }
abbrev zs3 (h : Heap) (x y : Str) (t u : Tok) : Heap := (zs2 h x y t u).push { cls := .type "tuple", data := .seq #[.ref h.objs.size, .ref (zs1 h x t).objs.size] }
abbrev zs4 (h : Heap) (x y : Str) (t u : Tok) : Heap := (zs3 h x y t u).push { cls := .type "tuple", data := .seq #[.none, .none] }
abbrev zs5 (h : Heap) (x y : Str) (t u : Tok) : Heap := (zs4 h x y t u).push { cls := .type "zip", data := .fields #[.none, .bool false, .bool false, .ref (zs2 h x y t u).objs.size, .ref (zs3 h x y t u).objs.size] }
set_option maxHeartbeats 4000000 in
theorem zipNew_strs (x y : Str) (t u : Tok) :
    Meets (Builtin.«zip.__new__» ⟨[.type "zip", .str x t, .str y u], []⟩) (fun _ R s => R (.ok (.ret (.ref (zs4 s.heap x y t u).objs.size))) { s with heap := zs5 s.heap x y t u }) :=
  .of_wp fun prog w A R s h => by
    obtain ⟨hp, g, d, tk, os⟩ := s
    have hsub := sub_zip
    have i1 : ∀ {A : Around} {E : Value → Shared → Prop} {Q : Value → Shared → Prop}, Q (.ref hp.objs.size) ⟨zs1 hp x t, g, d, tk, os⟩ → wpAny (model prog w) A (pyIter (.str x t)) Q E ⟨hp, g, d, tk, os⟩ := fun q => wpAny_pyIter_strU q
    have i2 : ∀ {A : Around} {E : Value → Shared → Prop} {Q : Value → Shared → Prop}, Q (.ref (zs1 hp x t).objs.size) ⟨zs2 hp x y t u, g, d, tk, os⟩ → wpAny (model prog w) A (pyIter (.str y u)) Q E ⟨zs1 hp x t, g, d, tk, os⟩ := fun q => wpAny_pyIter_strU q
    wp_walk using i1, i2
    exact ⟨_, rfl, h⟩
theorem zipA_next (n : Nat) : ZipA (n + 4) (n + 2) (n + 3) n (n + 1) := by
  constructor <;> (show (_ : Nat) ≠ _; lia)
section
variable {X : Cx} {elts : List Expr} {kk : Nat} {tpos : Pos}
theorem zip_made {pins : List (Addr × Obj)} {σ : St} {H : Hp} {s : Shared} {h' : Heap} {J1 J2 : It} {t1 t2 : Nat → Heap → Prop} {R : It → Hp → Prop} {E : Value → Shared → Prop} (I : Inv X pins σ H s)
    (S1 : Srce X.prog X.w X.K J1 s.heap.objs.size t1) (S2 : Srce X.prog X.w X.K J2 (s.heap.objs.size + 1) t2)
    (hz : IsZip h' (s.heap.objs.size + 4) (s.heap.objs.size + 2) (s.heap.objs.size + 3) .none) (hTI : IsPair h' (s.heap.objs.size + 2) (.ref s.heap.objs.size) (.ref (s.heap.objs.size + 1))) (hTO : IsPair h' (s.heap.objs.size + 3) .none .none)
    (h1 : t1 0 h') (h2 : t2 0 h') (hk : ∀ c o, s.heap.get? c = some o → h'.get? c = some o) (q : R (Itz J1 J2) H) :
    wpAny (model X.prog X.w) X.A (pyIter (.ref (s.heap.objs.size + 4))) (PIE X pins σ (.Tuple elts kk tpos) R) E { s with heap := h' } := by
  refine wpAny_pyIter_zip hz ?_
  refine ⟨_, _, _, _, H, rfl, I.kept (t' := s.toks) hk, turn_zip (zipA_next s.heap.objs.size) S1 S2, ⟨hz, hTI, ⟨_, _, hTO⟩, h1, h2⟩, fun b hb => ?_, q⟩
  have hb' : s.heap.objs.size ≤ b := by
    simp only [List.mem_cons, List.not_mem_nil, or_false] at hb
    rcases hb with rfl | rfl | rfl | rfl | rfl <;> lia
  exact I.fpOk hb' (I.hok.fresh hb')
def iZipS (ta : TA) : TI := fun σ H R => ta σ H fun vs H1 => ∃ x y, vs = [.str x, .str y] ∧ R (Itz (Its x) (Its y)) H1
theorem pi_zipS {a b : Expr} {ta : TA} {p pos : Pos} (hg : Gl X "zip") (hm : X.mg "zip" = none) (ha : PA X [a, b] ta) (hs : starEach [a, b] X.env = [(false, eval a X.env), (false, eval b X.env)] := by rfl) (hs2 : starEach [b] X.env = [(false, eval b X.env)] := by rfl) :
    PI X (.Tuple elts kk tpos) (.Call (.Name "zip" p) [a, b] [] pos) (iZipS ta) := by
  intro pins s σ H R I h
  refine Call_ (ld_blt I hg hm (by decide +kernel : bootBuiltins "zip" = some (.type "zip")) (PyProof.Rows.callWith_type1 (thn (ha pos pins s σ H _ I h) fun us s1 ⟨vs, H1, I1, r1, q1⟩ => ?_) (by rw [hs, hs2]) (by rw [hs2]; rfl)))
  obtain ⟨x, y, e, q⟩ := q1
  subst e
  obtain ⟨u, v, rfl, ⟨t, rfl⟩, ⟨t', rfl⟩⟩ := r1.two
  refine callType_new F.called_zip (by decide) (F.typeCall_zip_2 _ _) (F.newCall_zip_2 _ _) (fun obj => F.args_object_init_3 obj _ _) F.entry_zip_new (zipNew_strs x y t t') ?_
  have z1 : (zs1 s1.heap x t).objs.size = s1.heap.objs.size + 1 := Heap.size_push ..
  have z2 : (zs2 s1.heap x y t t').objs.size = s1.heap.objs.size + 2 := by rw [Heap.size_push, z1]
  have z3 : (zs3 s1.heap x y t t').objs.size = s1.heap.objs.size + 3 := by rw [Heap.size_push, z2]
  have z4 : (zs4 s1.heap x y t t').objs.size = s1.heap.objs.size + 4 := by rw [Heap.size_push, z3]
  have k1 : ∀ c o, s1.heap.get? c = some o → (zs1 s1.heap x t).get? c = some o := fun c o e => Heap.get?_push_of_some _ e
  have k2 : ∀ c o, (zs1 s1.heap x t).get? c = some o → (zs2 s1.heap x y t t').get? c = some o := fun c o e => Heap.get?_push_of_some _ e
  have k3 : ∀ c o, (zs2 s1.heap x y t t').get? c = some o → (zs3 s1.heap x y t t').get? c = some o := fun c o e => Heap.get?_push_of_some _ e
  have k4 : ∀ c o, (zs3 s1.heap x y t t').get? c = some o → (zs4 s1.heap x y t t').get? c = some o := fun c o e => Heap.get?_push_of_some _ e
  have k5 : ∀ c o, (zs4 s1.heap x y t t').get? c = some o → (zs5 s1.heap x y t t').get? c = some o := fun c o e => Heap.get?_push_of_some _ e
  have g1 : (zs1 s1.heap x t).get? s1.heap.objs.size = some { cls := .type (strIterType x), data := .fields #[.str x t, .int 0 0] } := Heap.get?_push_size _ rfl
  have g2 : (zs2 s1.heap x y t t').get? (zs1 s1.heap x t).objs.size = some { cls := .type (strIterType y), data := .fields #[.str y t', .int 0 0] } := Heap.get?_push_size _ rfl
  have g3 : (zs3 s1.heap x y t t').get? (zs2 s1.heap x y t t').objs.size = some { cls := .type "tuple", data := .seq #[.ref s1.heap.objs.size, .ref (zs1 s1.heap x t).objs.size] } := Heap.get?_push_size _ rfl
  have g4 : (zs4 s1.heap x y t t').get? (zs3 s1.heap x y t t').objs.size = some { cls := .type "tuple", data := .seq #[.none, .none] } := Heap.get?_push_size _ rfl
  have g5 : (zs5 s1.heap x y t t').get? (zs4 s1.heap x y t t').objs.size = some { cls := .type "zip", data := .fields #[.none, .bool false, .bool false, .ref (zs2 s1.heap x y t t').objs.size, .ref (zs3 s1.heap x y t t').objs.size] } := Heap.get?_push_size _ rfl
  rw [z1] at g2
  rw [z2, z1] at g3
  rw [z3] at g4
  rw [z4, z2, z3] at g5
  show _ ∧ _
  rw [z4]
  exact ⟨⟨_, g5, rfl⟩, zip_made I1 (srce_str _ x t) (srce_str _ y t') g5 (k5 _ _ (k4 _ _ g3)) (k5 _ _ g4) ⟨_, k5 _ _ (k4 _ _ (k3 _ _ (k2 _ _ g1))), rfl, rfl⟩ ⟨_, k5 _ _ (k4 _ _ (k3 _ _ g2)), rfl, rfl⟩ (fun c o e => k5 _ _ (k4 _ _ (k3 _ _ (k2 _ _ (k1 _ _ e))))) q⟩
def iZipL (K : PySem.W.Frag) (ta : TA) : TI := fun σ H R => ta σ H fun vs H1 => ∃ a b xs ys, vs = [.ref a, .ref b] ∧ SqL K H1 a xs ∧ SqL K H1 b ys ∧ R (Itz (Itl K a) (Itl K b)) H1
theorem pi_zipL {a b : Expr} {ta : TA} {p pos : Pos} (hg : Gl X "zip") (hm : X.mg "zip" = none) (ha : PA X [a, b] ta) (hs : starEach [a, b] X.env = [(false, eval a X.env), (false, eval b X.env)] := by rfl) (hs2 : starEach [b] X.env = [(false, eval b X.env)] := by rfl) :
    PI X (.Tuple elts kk tpos) (.Call (.Name "zip" p) [a, b] [] pos) (iZipL X.K ta) := by
  intro pins s σ H R I h
  refine Call_ (ld_blt I hg hm (by decide +kernel : bootBuiltins "zip" = some (.type "zip")) (PyProof.Rows.callWith_type1 (thn (ha pos pins s σ H _ I h) fun us s1 ⟨vs, H1, I1, r1, q1⟩ => ?_) (by rw [hs, hs2]) (by rw [hs2]; rfl)))
  obtain ⟨l1, l2, xs, ys, e, hx, hy, q⟩ := q1
  subst e
  obtain ⟨u, v, rfl, r1, r2⟩ := r1.two
  cases r1
  cases r2
  obtain ⟨its, rv, pl, _⟩ := I1.list hx
  obtain ⟨its2, rv2, pl2, _⟩ := I1.list hy
  exact call_zip_2 pl.isList pl2.isList fun h' a1 a2 a3 a4 a5 a6 a7 => zip_made I1 (srce_list l1 _) (srce_list l2 _) a1 a2 a3 a4 a5 a7 q
theorem for_go {J : It} {n : Nat} {g : TG} {tb : TS} {D : Ends} {σ : St} {H : Hp} (Pv : Nat → St → Hp → Prop) (h0 : Pv 0 σ H) (hgo : ∀ i σ H, i < n → Pv i σ H → J.go i H) (hstop : ∀ σ H, Pv n σ H → J.stop n H)
    (hs : ∀ i x σ H H', i < n → Pv i σ H → J.yld i H x H' → g x σ H' fun σ2 H2 => tb { D with nx := Pv (i + 1), ct := Pv (i + 1), bk := D.nx } σ2 H2) (hd : ∀ σ H, Pv n σ H → D.nx σ H) :
    ∃ W : Nat → Nat → St → Hp → Prop, (∃ m, W 0 m σ H) ∧ ∀ i m σ H, W i m σ H →
      (J.stop i H ∧ D.nx σ H) ∨ (J.go i H ∧ ∃ N : St → Hp → Prop, (∀ σ' H', N σ' H' → ∃ m', m' < m ∧ W (i + 1) m' σ' H') ∧ ∀ x H', J.yld i H x H' → g x σ H' fun σ2 H2 => tb { D with nx := N, ct := N, bk := D.nx } σ2 H2) := by
  refine ⟨fun i m σ H => m = n - i ∧ i ≤ n ∧ Pv i σ H, ⟨n, by simp, Nat.zero_le _, h0⟩, ?_⟩
  rintro i m σ H ⟨rfl, hi, p⟩
  by_cases hlt : i < n
  · exact .inr ⟨hgo i σ H hlt p, Pv (i + 1), fun σ' H' p' => ⟨n - (i + 1), by lia, rfl, hlt, p'⟩, fun x H' y => hs i x σ H H' hlt p y⟩
  · have e : i = n := by lia
    subst e
    exact .inl ⟨hstop σ H p, hd σ H p⟩
theorem for_zipL {K : PySem.W.Frag} {a b : Addr} {xs ys : List V} {g : TG} {tb : TS} {D : Ends} {σ : St} {H : Hp} (Pv : Nat → St → Hp → Prop) (h0 : Pv 0 σ H) (hl : ∀ i σ H, Pv i σ H → SqL K H a xs ∧ SqL K H b ys)
    (hs : ∀ i x y T σ H, xs[i]? = some x → ys[i]? = some y → Pv i σ H → H T = none → g (.ref T) σ (upd H T (.tup [x, y])) fun σ2 H2 => tb { D with nx := Pv (i + 1), ct := Pv (i + 1), bk := D.nx } σ2 H2) (hd : ∀ σ H, Pv (min xs.length ys.length) σ H → D.nx σ H) :
    ∃ W : Nat → Nat → St → Hp → Prop, (∃ m, W 0 m σ H) ∧ ∀ i m σ H, W i m σ H →
      ((Itz (Itl K a) (Itl K b)).stop i H ∧ D.nx σ H) ∨ ((Itz (Itl K a) (Itl K b)).go i H ∧ ∃ N : St → Hp → Prop, (∀ σ' H', N σ' H' → ∃ m', m' < m ∧ W (i + 1) m' σ' H') ∧ ∀ v H', (Itz (Itl K a) (Itl K b)).yld i H v H' → g v σ H' fun σ2 H2 => tb { D with nx := N, ct := N, bk := D.nx } σ2 H2) := by
  refine for_go (n := min xs.length ys.length) Pv h0 (fun i σ H h p => ⟨?_, ?_⟩) (fun σ H p => ?_) (fun i v σ H H' h p yl => ?_) hd
  · exact ⟨xs, xs[i]'(by lia), (hl i σ H p).1, by simp⟩
  · exact ⟨ys, ys[i]'(by lia), (hl i σ H p).2, by simp⟩
  · by_cases hxy : xs.length ≤ ys.length
    · exact .inl ⟨xs, (hl _ σ H p).1, by lia⟩
    · exact .inr ⟨⟨xs, xs[min xs.length ys.length]'(by lia), (hl _ σ H p).1, by simp⟩, ys, (hl _ σ H p).2, by lia⟩
  · obtain ⟨T, x1, x2, hT, ⟨_, y1⟩, ⟨_, y2⟩, rfl, rfl⟩ := yl
    exact hs i x1 x2 T σ H (y1 xs (hl i σ H p).1) (y2 ys (hl i σ H p).2) p hT
end
end L2
namespace L2
open PySem PySem.Spec PyProof.Rows
structure Cal (P : Program) (w : World) (K : PySem.W.Frag) (mg : Str → Option Value) (base : Heap) (x : Str) (k : Nat) (ps : List Str) (sp : Sp) : Prop where
  ex : ∃ f fd, FnOk P w K mg base CX0 k f fd ps sp ∧ mg x = some (.ref f) ∧ PySem.W.keepIn K (.ref f) = true ∧ Binds K fd ps []
structure Df (K : PySem.W.Frag) (mg : Str → Option Value) (x : Str) (st : Stmt) (ps : List Str) : Prop where
  ex : ∃ f fd, Fun K x x st f fd ∧ mg x = some (.ref f) ∧ Binds K fd ps []
theorem Df.cal {P : Program} {w : World} {K : PySem.W.Frag} {mg : Str → Option Value} {base : Heap} {x : Str} {st : Stmt} {N ps : List Str} {k : Nat} {sp : Sp} (D : Df K mg x st ps) (S : FnScope N ps (defScope st)) (len : ∀ vs H Q E, sp vs H Q E → vs.length = ps.length)
    (hbody : ∀ (f : Addr) (cdv : Value) (A : Around) (outer : List Env) (s : Shared) (H : Hp) (vs : List V) (Q : VK) (E : XK), Room k (A.deeper (envOfC x (defScope st) s.heap.objs.size f cdv)) → sp vs H Q E →
      ∃ t, PSs (cxOf CX0 P w K mg base N x (defScope st) f cdv A outer s H E).nox (defBody st) t ∧ t { nx := fun _ H' => Q .non H', rt := Q } (start N vs) H) : Cal P w K mg base x (k + 1) ps sp := by
  obtain ⟨f, fd, F, hm, hb⟩ := D.ex
  exact ⟨f, fd, F.ok S len fun cdv A outer s H vs Q E hr h => hbody f cdv A outer s H vs Q E hr h, hm, F.kp, hb⟩
theorem Cal.imp {P : Program} {w : World} {K : PySem.W.Frag} {mg : Str → Option Value} {base : Heap} {x : Str} {k : Nat} {ps : List Str} {sp sp' : Sp} (C : Cal P w K mg base x k ps sp) (h : ∀ vs H Q E, sp' vs H Q E → sp vs H Q E) : Cal P w K mg base x k ps sp' := by
  obtain ⟨f, fd, F, r⟩ := C.ex
  exact ⟨f, fd, F.imp h, r⟩
section
variable {X : Cx} {x : Str} {k j : Nat} {ps : List Str} {sp : Sp} {p pos : Pos} {e : Expr} {es : List Expr} {t : TA}
theorem pe_c (C : Cal X.prog X.w X.K X.mg X.base x k ps sp) (hr : Room j X.A) (ha : PA X (e :: es) t) (hjk : k ≤ j := by decide) (hg : Gl X x := by rfl) (hdb : (x == ("__debug__" : Str)) = false := by decide)
    (he : starEach (e :: es) X.env = (false, eval e X.env) :: starEach es X.env := by rfl) (hpl : (backTo pos (starEach es X.env)).any (·.1) = false := by rfl) :
    PE X (.Call (.Name x p) (e :: es) [] pos) (tCall sp [] E0 t) := by
  obtain ⟨f, fd, F, hm, hk, hb⟩ := C.ex
  exact pe_call F (hr.mono hjk) hg hm hk hb .nil pass0 ha hdb he hpl
theorem pe_c0 (C : Cal X.prog X.w X.K X.mg X.base x k ps sp) (hr : Room j X.A) (hjk : k ≤ j := by decide) (hg : Gl X x := by rfl) (hdb : (x == ("__debug__" : Str)) = false := by decide) :
    PE X (.Call (.Name x p) [] [] pos) (tCall sp [] E0 tNil) := by
  obtain ⟨f, fd, F, hm, hk, hb⟩ := C.ex
  exact pe_call0 F (hr.mono hjk) hg hm hk hb .nil pass0 hdb
end
theorem PI.or {X : Cx} {tg l : Expr} {w1 w2 : TI} (h1 : PI X tg l w1) (h2 : PI X tg l w2) : PI X tg l (fun σ H R => w1 σ H R ∨ w2 σ H R) := by
  intro pins s σ H R I h
  rcases h with h | h
  · exact h1 pins s σ H R I h
  · exact h2 pins s σ H R I h
structure FeedAt (H : Hp) (a b : Addr) : Prop where
  fa : ∃ i j : Int, H a = some (.lst [.ref b, .int i, .int j])
  fb : ∃ ns : List Int, H b = some (.lst (ns.map V.int))
structure Fd (a b : Addr) (H H' : Hp) : Prop where
  feed : FeedAt H' a b
  keep : ∀ c o, H c = some o → c ≠ a → H' c = some o
theorem FeedAt.ne {H : Hp} {a b : Addr} (F : FeedAt H a b) : b ≠ a := by
  obtain ⟨⟨i, j, h⟩, ns, h'⟩ := F
  refine ne_of h' h ?_
  intro z
  injection z with z
  cases ns with
  | nil => cases z
  | cons n r => simp at z
theorem Fd.refl {a b : Addr} {H : Hp} (F : FeedAt H a b) : Fd a b H H := ⟨F, fun _ _ h _ => h⟩
theorem Fd.trans {a b : Addr} {H H1 H2 : Hp} (x : Fd a b H H1) (y : Fd a b H1 H2) : Fd a b H H2 := ⟨y.feed, fun c o h hc => y.keep c o (x.keep c o h hc) hc⟩
theorem Fd.free {a b : Addr} {H H' : Hp} (x : Fd a b H H') {p : Addr} (h : H' p = none) : H p = none := by
  cases e : H p with
  | none => rfl
  | some o =>
    by_cases hp : p = a
    · subst hp
      obtain ⟨i, j, q⟩ := x.feed.fa
      rw [h] at q; cases q
    · rw [x.keep p o e hp] at h; cases h
theorem FeedAt.upd {H : Hp} {a b p : Addr} {o : HO} (F : FeedAt H a b) (ha : a ≠ p) (hb : b ≠ p) : FeedAt (upd H p o) a b :=
  ⟨let ⟨i, j, h⟩ := F.fa; ⟨i, j, by rw [upd_ne ha]; exact h⟩, let ⟨ns, h⟩ := F.fb; ⟨ns, by rw [upd_ne hb]; exact h⟩⟩
theorem FeedAt.na {H : Hp} {a b p : Addr} (F : FeedAt H a b) (h : H p = none) : a ≠ p := by obtain ⟨i, j, q⟩ := F.fa; exact ne_of_none q h
theorem FeedAt.nb {H : Hp} {a b p : Addr} (F : FeedAt H a b) (h : H p = none) : b ≠ p := by obtain ⟨ns, q⟩ := F.fb; exact ne_of_none q h
theorem Fd.put {a b p : Addr} {H H' : Hp} {o : HO} (x : Fd a b H H') (F : FeedAt H a b) (h : H p = none) : Fd a b H (upd H' p o) :=
  ⟨x.feed.upd (F.na h) (F.nb h), fun c u e hc => by rw [upd_ne (ne_of_none e h)]; exact x.keep c u e hc⟩
theorem Fd.new {a b p : Addr} {H H' : Hp} {o : HO} (x : Fd a b H H') (h : H' p = none) : Fd a b H (upd H' p o) :=
  ⟨x.feed.upd (x.feed.na h) (x.feed.nb h), fun c u e hc => by rw [upd_ne (ne_of_none (x.keep c u e hc) h)]; exact x.keep c u e hc⟩
theorem Fd.at {a b c : Addr} {H H' : Hp} {o : HO} (x : Fd a b H H') (h : H c = some o) (hc : c ≠ a) : H' c = some o := x.keep c o h hc
theorem Fd.same {a b : Addr} {H H' H2 : Hp} (x : Fd a b H H') (s : Same H' H2) : Fd a b H H2 :=
  ⟨⟨let ⟨i, j, h⟩ := x.feed.fa; ⟨i, j, s _ _ h⟩, let ⟨ns, h⟩ := x.feed.fb; ⟨ns, s _ _ h⟩⟩, fun c o e hc => s _ _ (x.keep c o e hc)⟩
theorem Same.new {H H' : Hp} {p : Addr} {o : HO} (s : Same H H') (h : H' p = none) : Same H (upd H' p o) := fun c u e => by rw [upd_ne (ne_of_none (s c u e) h)]; exact s c u e
theorem Same.put {H H' : Hp} {p : Addr} {o : HO} (s : Same H H') (h : H p = none) : Same H (upd H' p o) := fun c u e => by rw [upd_ne (ne_of_none e h)]; exact s c u e
def spDraw : Sp := fun vs H Q _ => ∃ a b m, vs = [.ref a, .int m] ∧ FeedAt H a b ∧ 0 < m ∧ m < 1073741824 ∧ ∀ (r : Int) H', 0 ≤ r → r < m → Fd a b H H' → Q (.int r) H'
def spConst (x : Str) : Sp := fun vs H Q _ => vs = [] ∧ Q (.str x) H
theorem atI_mod {α : Type} {xs : List α} (i : Int) (h : xs ≠ []) : ∃ x, x ∈ xs ∧ atI xs (i % (xs.length : Int)) = some x := by
  have hl : 0 < (xs.length : Int) := by
    cases xs with
    | nil => exact absurd rfl h
    | cons a r => simp only [List.length_cons]; lia
  have h0 := Int.emod_nonneg i (show (xs.length : Int) ≠ 0 by lia)
  have h1 := Int.emod_lt_of_pos i hl
  have hn : (i % (xs.length : Int)).toNat < xs.length := by lia
  refine ⟨xs[(i % (xs.length : Int)).toNat], List.getElem_mem hn, ?_⟩
  unfold atI ixN
  rw [if_pos h0, if_pos h1]
  simp [hn]
theorem atI_lt {α : Type} {xs : List α} {i : Int} (h0 : 0 ≤ i) (h1 : i < (xs.length : Int)) : ∃ x, xs[i.toNat]? = some x ∧ atI xs i = some x := by
  have hn : i.toNat < xs.length := by lia
  refine ⟨xs[i.toNat], by simp, ?_⟩
  unfold atI ixN
  rw [if_pos h0, if_pos h1]
  simp [hn]
end L2
namespace L2
open PySem PySem.Spec PyProof.Rows
mutual
inductive Dt (K : PySem.W.Frag) (H : Hp) : V → PyData → Prop
  | non : Dt K H .non .none
  | bl (b : Bool) : Dt K H (.bl b) (.bool b)
  | int (i : Int) : Dt K H (.int i) (.int i)
  | str (x : Str) : Dt K H (.str x) (.str x)
  | lst {a : Addr} {xs : List V} {ds : List PyData} : SqL K H a xs → Dts K H xs ds → Dt K H (.ref a) (.list ds)
  | tup {a : Addr} {xs : List V} {ds : List PyData} : SqT K H a xs → Dts K H xs ds → Dt K H (.ref a) (.tuple ds)
inductive Dts (K : PySem.W.Frag) (H : Hp) : List V → List PyData → Prop
  | nil : Dts K H [] []
  | cons {x : V} {xs : List V} {d : PyData} {ds : List PyData} : Dt K H x d → Dts K H xs ds → Dts K H (x :: xs) (d :: ds)
end
section
variable {X : Cx} {pins : List (Addr × Obj)} {σ : St} {H : Hp} {s : Shared}
mutual
theorem Dt.reads (I : Inv X pins σ H s) : ∀ {x : V} {d : PyData} {u : Value}, Dt X.K H x d → RelV x u → ∃ as, Reads s.heap u d as
  | _, _, _, .non, r => by cases r; exact ⟨_, .none⟩
  | _, _, _, .bl b, r => by cases r; exact ⟨_, .bool b⟩
  | _, _, _, .int i, r => by obtain ⟨t, rfl⟩ := r; exact ⟨_, .int i t⟩
  | _, _, _, .str x, r => by obtain ⟨t, rfl⟩ := r; exact ⟨_, .str x t⟩
  | _, _, _, .lst q ds, r => by
    cases r
    obtain ⟨its, rv, ⟨o, n, e, c, _, d⟩, _⟩ := I.list q
    obtain ⟨as, h⟩ := Dts.reads I ds rv
    exact ⟨_, .list e c d (by simpa using h)⟩
  | _, _, _, .tup q ds, r => by
    cases r
    obtain ⟨its, rv, ⟨o, e, c, n, d⟩, _⟩ := I.tuple q
    obtain ⟨as, h⟩ := Dts.reads I ds rv
    exact ⟨_, .tuple e c d (by simpa using h)⟩
theorem Dts.reads (I : Inv X pins σ H s) : ∀ {xs : List V} {ds : List PyData} {us : List Value}, Dts X.K H xs ds → Vals xs us → ∃ as, ReadsAll s.heap us ds as
  | _, _, _, .nil, .nil => ⟨_, .nil⟩
  | _, _, _, .cons d ds, .cons r rs => by
    obtain ⟨as, h⟩ := Dt.reads I d r
    obtain ⟨bs, h'⟩ := Dts.reads I ds rs
    exact ⟨_, .cons h h'⟩
end
end
section
variable {X : Cx} {k : Nat}
def rEqD (K : PySem.W.Frag) : R2 := fun x y H Q => ∃ d e, Dt K H x d ∧ Dt K H y e ∧ d.canLay0 = true ∧ e.canLay0 = true ∧ min d.depth e.depth ≤ 100 ∧ Q (.bl (PyData.eqv d e)) H
def rNeD (K : PySem.W.Frag) : R2 := fun x y H Q => ∃ d e, Dt K H x d ∧ Dt K H y e ∧ d.canLay0 = true ∧ e.canLay0 = true ∧ min d.depth e.depth ≤ 100 ∧ Q (.bl (!PyData.eqv d e)) H
theorem op_eqD (hr : Room k X.A) : OpR X (compareOp .Eq) (rEqD X.K) := by
  intro pins s σ H x y v u Q I rx ry h
  obtain ⟨d, e, hd, he, cd, ce, hm, q⟩ := h
  obtain ⟨as, r1⟩ := hd.reads I rx
  obtain ⟨bs, r2⟩ := he.reads I ry
  have hu := hr.un
  exact SeqAt.rcAt_reads r1 r2 cd ce (by lia) X.prog X.w X.xe _ ⟨.bl _, H, I, rfl, q⟩
theorem op_neD (hr : Room k X.A) : OpR X (compareOp .NotEq) (rNeD X.K) := by
  intro pins s σ H x y v u Q I rx ry h
  obtain ⟨d, e, hd, he, cd, ce, hm, q⟩ := h
  obtain ⟨as, r1⟩ := hd.reads I rx
  obtain ⟨bs, r2⟩ := he.reads I ry
  have hu := hr.un
  exact SeqAt.rcNeAt_reads r1 r2 cd ce (by lia) X.prog X.w X.xe _ ⟨.bl _, H, I, rfl, q⟩
def rAddU : R2 := fun x y H Q => (∃ i j, x = .int i ∧ y = .int j ∧ Q (.int (i + j)) H) ∨ (∃ i j, x = .str i ∧ y = .str j ∧ i.length + j.length ≤ sizeLine ∧ Q (.str (i ++ j)) H) ∨ rCat x y H Q
theorem op_addU : OpR X (binaryOp .Add) rAddU := op_add.or (op_add_str.or op_cat)
def rMulU : R2 := fun x y H Q => (∃ i j, x = .int i ∧ y = .int j ∧ CMul i j ∧ Q (.int (i * j)) H) ∨ rMulS x y H Q ∨ rRep x y H Q
theorem op_mulU : OpR X (binaryOp .Mult) rMulU := op_mul.or (op_mulS.or op_rep)
def rEqU (K : PySem.W.Frag) : R2 := fun x y H Q => rEq x y H Q ∨ rEqD K x y H Q
theorem op_eqU (hr : Room k X.A) : OpR X (compareOp .Eq) (rEqU X.K) := op_eq.or (op_eqD hr)
def rNeU (K : PySem.W.Frag) : R2 := fun x y H Q => rNe x y H Q ∨ rNeD K x y H Q
theorem op_neU (hr : Room k X.A) : OpR X (compareOp .NotEq) (rNeU X.K) := op_ne.or (op_neD hr)
def rInU (K : PySem.W.Frag) : R2 := fun x y H Q => (∃ i j, x = .str i ∧ y = .str j ∧ Q (.bl (!(Builtin.Str.occurrences j i 0 j.length 1).isEmpty)) H) ∨ rIn K false x y H Q
theorem op_inU : OpR X (compareOp .In) (rInU X.K) := op_in_str.or op_in_seq
def rNinU (K : PySem.W.Frag) : R2 := fun x y H Q => (∃ i j, x = .str i ∧ y = .str j ∧ Q (.bl (!(!(Builtin.Str.occurrences j i 0 j.length 1).isEmpty))) H) ∨ rIn K true x y H Q
theorem op_ninU : OpR X (compareOp .NotIn) (rNinU X.K) := op_notIn_str.or op_notIn_seq
def rSlU (K : PySem.W.Frag) : V → Option Int → Option Int → Hp → VK → Prop := fun x lo hi H Q => rSlS x lo hi H Q ∨ rSlL K x lo hi H Q ∨ rSlT K x lo hi H Q
theorem sl_U : SlR X (rSlU X.K) := sl_str.or (sl_list.or sl_tup)
def iAny (K : PySem.W.Frag) (tl : TE) : TI := fun σ H R => tl σ H fun x H1 => (∃ a, x = .ref a ∧ (∃ xs, SqL K H1 a xs) ∧ R (Itl K a) H1) ∨ (∃ a, x = .ref a ∧ (∃ xs, SqT K H1 a xs) ∧ R (Itt K a) H1) ∨ ∃ z, x = .str z ∧ R (Its z) H1
theorem pi_any {tg l : Expr} {tl : TE} (hl : PE X l tl) : PI X tg l (iAny X.K tl) := by
  intro pins s σ H R I h
  refine thn (hl pins s σ H _ I h) fun v s1 ⟨x, H1, I1, r1, q1⟩ => ?_
  have fp : ∀ b ∈ [s1.heap.objs.size], FpOk X pins H1 b := fun b hb => by
    have e : b = s1.heap.objs.size := by simpa using hb
    subst e
    exact I1.fpOk (Nat.le_refl _) (I1.hok.fresh (Nat.le_refl _))
  rcases q1 with ⟨a, e, ⟨xs, hq⟩, q⟩ | ⟨a, e, ⟨xs, hq⟩, q⟩ | ⟨z, e, q⟩
  · subst e
    cases r1
    obtain ⟨its, rv, p, hz⟩ := I1.list hq
    exact wpAny_pyIter_list p.isList ⟨s1.heap.objs.size, [s1.heap.objs.size], _, _, H1, rfl, I1.kept (t' := s1.toks) fun b o e => Heap.get?_push_of_some _ e, turn_list a _, ⟨_, Heap.get?_push_size _ rfl, rfl, rfl⟩, fp, q⟩
  · subst e
    cases r1
    obtain ⟨its, rv, p, hz⟩ := I1.tuple hq
    exact wpAny_pyIter_tuple (show s1.heap.IsTuple a its.toArray from p) ⟨s1.heap.objs.size, [s1.heap.objs.size], _, _, H1, rfl, I1.kept (t' := s1.toks) fun b o e => Heap.get?_push_of_some _ e, turn_tuple a _, ⟨_, Heap.get?_push_size _ rfl, rfl, rfl⟩, fp, q⟩
  · subst e
    obtain ⟨t, rfl⟩ := r1
    cases ha : z.cps.all (· < 128)
    · exact wpAny_pyIter_wide ha ⟨s1.heap.objs.size, [s1.heap.objs.size], _, _, H1, rfl, I1.kept (t' := s1.toks) fun b o e => Heap.get?_push_of_some _ e, turn_strW _ z t, ⟨Nat.zero_le _, _, Heap.get?_push_size _ rfl, rfl, rfl⟩, fp, q⟩
    · exact wpAny_pyIter_ascii ha ⟨s1.heap.objs.size, [s1.heap.objs.size], _, _, H1, rfl, I1.kept (t' := s1.toks) fun b o e => Heap.get?_push_of_some _ e, turn_strA _ z t, ⟨Nat.zero_le _, _, Heap.get?_push_size _ rfl, rfl, rfl⟩, fp, q⟩
def iZip (K : PySem.W.Frag) (ta : TA) : TI := fun σ H R => iZipS ta σ H R ∨ iZipL K ta σ H R
theorem pi_zip {elts : List Expr} {kk : Nat} {tpos : Pos} {a b : Expr} {ta : TA} {p pos : Pos} (hg : Gl X "zip") (hm : X.mg "zip" = none) (ha : PA X [a, b] ta) (hs : starEach [a, b] X.env = [(false, eval a X.env), (false, eval b X.env)] := by rfl) (hs2 : starEach [b] X.env = [(false, eval b X.env)] := by rfl) :
    PI X (.Tuple elts kk tpos) (.Call (.Name "zip" p) [a, b] [] pos) (iZip X.K ta) := (pi_zipS hg hm ha hs hs2).or (pi_zipL hg hm ha hs hs2)
end
end L2
namespace L2
open PySem PySem.Spec PyProof.Rows
section
variable {X : Cx} {a b o e l : Expr} {es : List Expr} {ta tb to te tl : TE} {t : TA} {pos p2 apos cpos : Pos} {k : Nat} {name : Str} {T idn : String} {r : V → List V → Hp → VK → Prop}
theorem ix_k (K : PySem.W.Frag) (hK : X.K = K) : IxR X (rIx K) := by subst hK; exact ix_seq
theorem len_k (K : PySem.W.Frag) (hK : X.K = K) : CallR X (.builtin "len") (fun xs H Q => ∃ x n, xs = [x] ∧ LenV K x H n ∧ Q (.int n) H) := by subst hK; exact call_len
theorem eq_k (K : PySem.W.Frag) (hK : X.K = K) (hr : Room k X.A) : OpR X (compareOp .Eq) (rEqU K) := by subst hK; exact op_eqU hr
theorem ne_k (K : PySem.W.Frag) (hK : X.K = K) (hr : Room k X.A) : OpR X (compareOp .NotEq) (rNeU K) := by subst hK; exact op_neU hr
theorem in_k (K : PySem.W.Frag) (hK : X.K = K) : OpR X (compareOp .In) (rInU K) := by subst hK; exact op_inU
theorem nin_k (K : PySem.W.Frag) (hK : X.K = K) : OpR X (compareOp .NotIn) (rNinU K) := by subst hK; exact op_ninU
theorem sl_k (K : PySem.W.Frag) (hK : X.K = K) : SlR X (rSlU K) := by subst hK; exact sl_U
theorem any_k {tg : Expr} (K : PySem.W.Frag) (hK : X.K = K) (hl : PE X l tl) : PI X tg l (iAny K tl) := by subst hK; exact pi_any hl
theorem lst_k {tg : Expr} (K : PySem.W.Frag) (hK : X.K = K) (hl : PE X l tl) : PI X tg l (iList K tl) := by subst hK; exact pi_list hl
theorem zip_k {elts : List Expr} {kk : Nat} {tpos : Pos} {p : Pos} (K : PySem.W.Frag) (hK : X.K = K) (hg : Gl X "zip") (hm : X.mg "zip" = none) (ha : PA X [a, b] t) (hs : starEach [a, b] X.env = [(false, eval a X.env), (false, eval b X.env)] := by rfl) (hs2 : starEach [b] X.env = [(false, eval b X.env)] := by rfl) :
    PI X (.Tuple elts kk tpos) (.Call (.Name "zip" p) [a, b] [] pos) (iZip K t) := by subst hK; exact pi_zip hg hm ha hs hs2
theorem all_k (K : PySem.W.Frag) (hK : X.K = K) (hc : X.calm = true) : CallR X (.builtin "all") (fun xs H Q => ∃ (p : Addr) (bs : List Bool), xs = [.ref p] ∧ SqL K H p (bs.map V.bl) ∧ Q (.bl (bs.all id)) H) := by subst hK; exact call_all hc
theorem isi_k (K : PySem.W.Frag) (hK : X.K = K) : CallR X (.builtin "isinstance") (fun xs H Q => ∃ x c t b, xs = [x, .ty c] ∧ TyOf K H x t ∧ PySem.W.kitOne K t (.type c) = some b ∧ Q (.bl b) H) := by subst hK; exact call_isinst
theorem list_k (K : PySem.W.Frag) (hK : X.K = K) : CallR X (.type "list") (fun xs H Q => ∃ p ys, xs = [.ref p] ∧ (SqL K H p ys ∨ SqT K H p ys) ∧ ∀ l, H l = none → Q (.ref l) (upd H l (.lst ys))) := by subst hK; exact call_list_of
theorem join_k (K : PySem.W.Frag) (hK : X.K = K) : MtM X "str.join" (rJoin K) := by subst hK; exact mt_join
theorem gtup_k {kk n : Nat} {u : TGs} (K : PySem.W.Frag) (hK : X.K = K) (hc : X.calm = true) (h : PGs X es u) (hn : (assignEach es X.env).length = n := by rfl) (hst : (assignEach es X.env).findIdx? (·.1) = none := by rfl) : PG X (.Tuple es kk pos) (gTup K n u) := by subst hK; exact pg_tup hc h hn hst
theorem bm_k (K : PySem.W.Frag) (hK : X.K = K) (pa : PlainAttrs T) (slot : Slot T name idn) (hty : typeOf (.builtin idn) = pure (.type "method_descriptor")) (hm : MtR X idn r) (ho : PE X o to) (ha : PA X (e :: es) t)
    (hbase : attributeBase o name X.env (eval o X.env) = eval o X.env := by rfl)
    (hfew : ((backTo cpos (starEach (e :: es) X.env)).all (fun x => !x.1) && (backToKw cpos (keywordEach [] X.env)).all (fun x => x.1.isSome)
      && decide ((e :: es).length + ([] : List Keyword).length + (if ([] : List Keyword).isEmpty then 0 else 1) < 30)) = true := by rfl)
    (hline : (apos.endLine == cpos.line) = true := by rfl) (hs : starEach (e :: es) X.env = (false, eval e X.env) :: starEach es X.env := by rfl) (hplain : (backTo cpos (starEach es X.env)).any (·.1) = false := by rfl) :
    PE X (.Call (.Attribute o name apos) (e :: es) [] cpos) (tBM K T r to t) := by subst hK; exact pe_bm pa slot hty hm ho ha hbase hfew hline hs hplain
theorem bm0_k (K : PySem.W.Frag) (hK : X.K = K) (pa : PlainAttrs T) (slot : Slot T name idn) (hty : typeOf (.builtin idn) = pure (.type "method_descriptor")) (hm : MtR X idn r) (ho : PE X o to)
    (hbase : attributeBase o name X.env (eval o X.env) = eval o X.env := by rfl) (hline : (apos.endLine == cpos.line) = true := by rfl) : PE X (.Call (.Attribute o name apos) [] [] cpos) (tBM0 K T r to) := by subst hK; exact pe_bm0 pa slot hty hm ho hbase hline
theorem tru_k (K : PySem.W.Frag) (hK : X.K = K) (ha : PE X a ta) (he : ∀ whole, isTrue a X.env whole = (do let v ← whole; standAt a.pos; holding [v] (truthy v))) :
    PT X a (fun σ H Q => ta σ H fun x H' => ∃ k, TruV K x H' k ∧ Q k H') := by subst hK; exact pt_truth ha he
end
theorem comp_rangeN {lo : Int} {n : Nat} {te : TE} {r : St} {D : Addr} {Fin : List V → Hp → Prop} {H1 : Hp} (Pv : Nat → List V → Hp → Prop) (h0 : Pv 0 [] (upd H1 D (.lst []))) (hl : ∀ i ys H, Pv i ys H → H D = some (.lst ys))
    (hs : ∀ i ys H, i < n → Pv i ys H → te (some (.int (lo + i)) :: r) H fun v H4 => H4 D = some (.lst ys) ∧ ys.length < sizeLine ∧ Pv (i + 1) (ys ++ [v]) (upd H4 D (.lst (ys ++ [v]))))
    (hd : ∀ ys H, Pv n ys H → Fin ys H) : CompW (Itr lo n) (gName 0) tIf0 te (none :: r) D Fin H1 :=
  comp_range Pv h0 hl (fun i ys H h p => (⟨keeps_set0, iteT (hs i ys H h p)⟩ : Keeps0 (none :: r) (some (.int (lo + i)) :: r) ∧ if true = true then te (some (.int (lo + i)) :: r) H fun v H4 => H4 D = some (.lst ys) ∧ ys.length < sizeLine ∧ Pv (i + 1) (ys ++ [v]) (upd H4 D (.lst (ys ++ [v]))) else Pv (i + 1) ys H)) hd
theorem comp_strN {z : Str} {te : TE} {r : St} {D : Addr} {Fin : List V → Hp → Prop} {H1 : Hp} (Pv : Nat → List V → Hp → Prop) (h0 : Pv 0 [] (upd H1 D (.lst []))) (hl : ∀ i ys H, Pv i ys H → H D = some (.lst ys))
    (hs : ∀ i ys H c, z.cps[i]? = some c → Pv i ys H → te (some (.str ⟨#[c]⟩) :: r) H fun v H4 => H4 D = some (.lst ys) ∧ ys.length < sizeLine ∧ Pv (i + 1) (ys ++ [v]) (upd H4 D (.lst (ys ++ [v]))))
    (hd : ∀ ys H, Pv z.length ys H → Fin ys H) : CompW (Its z) (gName 0) tIf0 te (none :: r) D Fin H1 :=
  comp_str Pv h0 hl (fun i ys H c h p => (⟨keeps_set0, iteT (hs i ys H c h p)⟩ : Keeps0 (none :: r) (some (.str ⟨#[c]⟩) :: r) ∧ if true = true then te (some (.str ⟨#[c]⟩) :: r) H fun v H4 => H4 D = some (.lst ys) ∧ ys.length < sizeLine ∧ Pv (i + 1) (ys ++ [v]) (upd H4 D (.lst (ys ++ [v]))) else Pv (i + 1) ys H)) hd
def tSeqJ (t u : TS) : TS := fun D σ H => ∃ J : St → Hp → Prop, (∀ σ' H', J σ' H' → u D σ' H') ∧ t { D with nx := J } σ H
theorem pss_consJ {X : Cx} {st : Stmt} {rest : List Stmt} {t u : TS} (h1 : PS X st t) (h2 : PSs X rest u) : PSs X (st :: rest) (tSeqJ t u) := by
  intro pins s σ H D I h
  obtain ⟨J, hJ, h⟩ := h
  refine wpAny_execs_cons (thn (h1 pins s σ H { D with nx := J } I h) fun f s1 q => ?_)
  cases f with
  | next =>
    obtain ⟨σ', H', I', q⟩ := q
    exact h2 pins s1 σ' H' D I' (hJ σ' H' q)
  | ret v => exact q
  | brk => exact q
  | cont => exact q
def tVJ (t : TE) : TE := fun σ H Q => ∃ J : VK, (∀ v H', J v H' → Q v H') ∧ t σ H J
theorem pe_j {X : Cx} {e : Expr} {t : TE} (h : PE X e t) : PE X e (tVJ t) := by
  intro pins s σ H Q I hw
  obtain ⟨J, hJ, hw⟩ := hw
  exact thn (h pins s σ H J I hw) fun u s' ⟨v, H', I', r, q⟩ => ⟨v, H', I', r, hJ v H' q⟩
def tTJ (t : TT) : TT := fun σ H Q => ∃ J : Bool → Hp → Prop, (∀ b H', J b H' → Q b H') ∧ t σ H J
theorem pt_j {X : Cx} {e : Expr} {t : TT} (h : PT X e t) : PT X e (tTJ t) := by
  intro pins s σ H Q I hw
  obtain ⟨J, hJ, hw⟩ := hw
  exact thn (h pins s σ H J I hw) fun u s' ⟨H', I', q⟩ => ⟨H', I', hJ u H' q⟩
theorem iteB {c : Bool} {A B : Prop} (hA : c = true → A) (hB : c = false → B) : if c = true then A else B := by
  cases c with
  | true => exact iteT (hA rfl)
  | false => exact iteF (hB rfl)
end L2
namespace TX
open PySem PySem.Spec PyProof.Rows L2
abbrev tl (x : Str) : List Nat := x.cps.toList
abbrev mk (l : List Nat) : Str := ⟨l.toArray⟩
theorem tl_mk (l : List Nat) : tl (mk l) = l := by simp [tl, mk]
theorem mk_tl (x : Str) : mk (tl x) = x := by simp [tl, mk]
theorem ext {x y : Str} (h : tl x = tl y) : x = y := ext_toList h
theorem len (x : Str) : x.length = (tl x).length := by simp [tl, Str.length]
theorem tl_app (x y : Str) : tl (x ++ y) = tl x ++ tl y := by
  show (x.cps ++ y.cps).toList = _
  simp [tl]
theorem app_len (x y : Str) : (x ++ y).length = x.length + y.length := by rw [len, len, len, tl_app, List.length_append]
theorem get {x : Str} {i c : Nat} (h : x.cps[i]? = some c) : (tl x)[i]? = some c := by simpa [tl] using h
theorem join_eq (z : Str) (ts : List Str) : Txt.join z ts = Str.join z ts := StrLaws.glued_eq_join z ts
theorem tl_join : ∀ ts : List Str, tl (Txt.join (Str.ofString "") ts) = (ts.map tl).flatten := by
  intro ts
  rw [join_eq]
  induction ts with
  | nil => rfl
  | cons a r ih =>
    cases r with
    | nil => simp [Str.join]
    | cons b r =>
      show tl (a ++ Str.ofString "" ++ Str.join (Str.ofString "") (b :: r)) = _
      rw [tl_app, tl_app, ih]
      have e : tl (Str.ofString "") = [] := by decide +kernel
      rw [e]
      simp
theorem tl_one (c : Nat) : tl ⟨#[c]⟩ = [c] := rfl
theorem join_ones (cs : List Nat) : Txt.join (Str.ofString "") (cs.map fun c => (⟨#[c]⟩ : Str)) = mk cs := by
  apply ext
  rw [tl_join, tl_mk, List.map_map]
  induction cs with
  | nil => rfl
  | cons c r ih => rw [List.map_cons, List.flatten_cons, ih]; rfl
theorem ones_sum (cs : List Nat) : ((cs.map fun c => (⟨#[c]⟩ : Str)).map (·.length)).sum = cs.length := by
  induction cs with
  | nil => rfl
  | cons c r ih => rw [List.map_cons, List.map_cons, List.sum_cons, ih, List.length_cons]; show 1 + _ = _; lia
theorem slice_to {x : Str} {j : Int} (h0 : 0 ≤ j) (h1 : j ≤ (tl x).length) : Txt.slice x none (some j) = mk ((tl x).take j.toNat) := by
  show StrLaws.sliceText x none (some j) = _
  rw [StrLaws.sliceText_to ⟨h0, h1⟩]
  simp [mk, tl]
theorem slice_from {x : Str} {i : Int} (h0 : 0 ≤ i) (h1 : i ≤ (tl x).length) : Txt.slice x (some i) none = mk ((tl x).drop i.toNat) := by
  show StrLaws.sliceText x (some i) none = _
  rw [StrLaws.sliceText_from ⟨h0, h1⟩]
  congr 2
  rw [List.take_of_length_le]
  rw [List.length_drop]
  have : (x.cps.toList).length = (tl x).length := rfl
  lia
theorem in_one (x : Str) (c : Nat) : (!(Builtin.Str.occurrences x ⟨#[c]⟩ 0 x.length 1).isEmpty) = decide (c ∈ tl x) := StrLaws.found_one x c
theorem small {n : Nat} (h : n ≤ 1000000) : n ≤ sizeLine := by rw [sizeLine_eq]; lia
theorem small' {n : Nat} (h : n ≤ 1000000) : n < sizeLine := by rw [sizeLine_eq]; lia
end TX
namespace L2
open PySem PySem.Spec PyProof.Rows TX
def spText : Sp := fun vs H Q _ => ∃ a b g n, vs = [.ref a, .str g, .int n] ∧ FeedAt H a b ∧ 0 < g.length ∧ g.length ≤ 1000 ∧ 0 ≤ n ∧ n ≤ 1000 ∧
  ∀ (t : List Nat) H', t.length = n.toNat → (∀ c ∈ t, c ∈ tl g) → Fd a b H H' → Q (.str (mk t)) H'
theorem take_succ_of {α : Type} {l : List α} {i : Nat} {x : α} (h : l[i]? = some x) : l.take (i + 1) = l.take i ++ [x] := by
  rw [List.take_succ, h]; rfl
end L2
namespace L2
open PySem PySem.Spec PyProof.Rows
section
variable {prog : Program} {w : World} {K : PySem.W.Frag} {A : Around} {E : Value → Shared → Prop} {s : Shared} {J : It} {st : Nat → Heap → Prop} {e it : Addr} {H : Hp}
theorem enumS_item {i : Nat} {old : Value} {Q : Value → Shared → Prop} (S : Srce prog w K J it st) (hh : A.handled = none) (vw : Vw K H s.heap) (nH : H it = none) (nK : K.lookup it = none)
    (he : IsEnum s.heap e it i old) (hst : st i s.heap) (go : J.go i H) (hne : e ≠ it)
    (hQ : ∀ u x h' tk, RelV x u → J.yld i H x H → IsEnumOut h' e it ((i : Int) + 1) u s.heap.objs.size → st (i + 1) h' → h'.get? s.heap.objs.size = some { cls := .type "tuple", data := .seq #[.int i tk, u] } → h'.objs.size = s.heap.objs.size + 1 →
      (∀ b o, b ≠ e → b ≠ it → s.heap.get? b = some o → h'.get? b = some o) → Q (.ref s.heap.objs.size) { s with heap := h', toks := tk + 1 }) :
    wpAny (model prog w) A (Builtin.«enumerate.__next__» ⟨[.ref e], []⟩) (fun fin s' => ∃ v, fin = .done (.ret v) ∧ Q v s') E s := by
  obtain ⟨hp, g, d, tk₀, os⟩ := s
  show wpAny _ _ (field (.ref e) 2 >>= _) _ _ _
  refine wpAny_bind (wpAny_field he rfl (x := .ref it) rfl ?_)
  refine wpAny_bind (S.item _ i _ H _ _ hh vw nH nK hst go fun u x h₁ tk rx yx st₁ hs₁ => ?_)
  replace hs₁ : Heap.SameBut it hp h₁ := hs₁
  have he₁ : IsEnum h₁ e it i old := (hs₁.2 e hne).trans he
  show wpAny _ _ (field (.ref e) 3 >>= _) _ _ ⟨h₁, g, d, tk, os⟩
  refine wpAny_bind (wpAny_field he₁ rfl (x := rawInt i) rfl ?_)
  show wpAny _ _ (field (.ref e) 4 >>= _) _ _ ⟨h₁, g, d, tk, os⟩
  refine wpAny_bind (wpAny_field he₁ rfl (x := .none) rfl ?_)
  show wpAny _ _ (mkInt i >>= _) _ _ ⟨h₁, g, d, tk, os⟩
  refine wpAny_bind (wpAny_mkInt ?_)
  show wpAny _ _ (setField (.ref e) 3 (rawInt ((i : Int) + 1)) >>= _) _ _ ⟨h₁, g, d, tk + 1, os⟩
  refine wpAny_bind (wpAny_setField_rec he₁ (by simp) fun h₂ he₂ hs₂ => ?_)
  replace hs₂ : Heap.SameBut e h₁ h₂ := hs₂
  replace he₂ : IsEnum h₂ e it ((i : Int) + 1) old := he₂
  show wpAny _ _ (setField (.ref e) 4 .none >>= _) _ _ ⟨h₂, g, d, tk + 1, os⟩
  refine wpAny_bind (wpAny_setField_rec he₂ (by simp) fun h₃ he₃ hs₃ => ?_)
  replace hs₃ : Heap.SameBut e h₂ h₃ := hs₃
  replace he₃ : IsEnum h₃ e it ((i : Int) + 1) old := he₃
  show wpAny _ _ (newTuple [.int i tk, u] >>= _) _ _ ⟨h₃, g, d, tk + 1, os⟩
  refine wpAny_bind (wpAny_newTuple ?_)
  have he₄ : IsEnum (h₃.push { cls := .type "tuple", data := .seq #[.int i tk, u] }) e it ((i : Int) + 1) old := Heap.get?_push_of_some _ he₃
  generalize hh₄ : h₃.push { cls := .type "tuple", data := .seq #[.int i tk, u] } = h₄ at he₄
  have hsz : h₃.objs.size = hp.objs.size := by rw [hs₃.1, hs₂.1, hs₁.1]
  have hel : e < hp.objs.size := Heap.lt_size he
  have ht₄ : h₄.get? hp.objs.size = some { cls := .type "tuple", data := .seq #[.int i tk, u] } := by rw [← hh₄, ← hsz]; exact Heap.get?_push_size _ rfl
  have hz₄ : h₄.objs.size = hp.objs.size + 1 := by rw [← hh₄, Heap.size_push, hsz]
  have hk₄ : ∀ b o, b ≠ e → b ≠ it → hp.get? b = some o → h₄.get? b = some o := fun b o hbe hbi hb => by
    rw [← hh₄]; exact Heap.get?_push_of_some _ (hs₃.extBut b o hbe (hs₂.extBut b o hbe (hs₁.extBut b o hbi hb)))
  have hit₄ : st (i + 1) h₄ := S.keep _ _ _ st₁ fun o y => by
    rw [← hh₄]; exact Heap.get?_push_of_some _ (hs₃.extBut it o hne.symm (hs₂.extBut it o hne.symm y))
  show wpAny _ _ (Builtin.SmallTypes.ownedTupleIsFree (.ref e) >>= _) _ _ ⟨h₄, g, d, tk + 1, os⟩
  rw [hsz]
  clear hh₄ he₃ hs₃ he₂ hs₂ he₁ hs₁ st₁ hsz h₃ h₂ h₁
  refine wpAny_bind ?_
  unfold Builtin.SmallTypes.ownedTupleIsFree
  refine wpAny_bind (wpAny_field he₄ rfl (x := .none) rfl (wpAny_pure ?_))
  simp only [if_true]
  refine wpAny_bind (wpAny_rule ?_)
  refine wpAny_bind (wpAny_field he₄ rfl (x := old) rfl ?_)
  refine wpAny_bind (wpAny_setField_rec he₄ (by simp) fun h₅ he₅ hs₅ => ?_)
  replace hs₅ : Heap.SameBut e h₄ h₅ := hs₅
  replace he₅ : IsEnum h₅ e it ((i : Int) + 1) u := he₅
  show wpAny _ _ (Builtin.SmallTypes.ownedTupleHandOut (.ref e) (.ref hp.objs.size) >>= _) _ _ ⟨h₅, g, d, tk + 1, os⟩
  refine wpAny_bind ?_
  unfold Builtin.SmallTypes.ownedTupleHandOut
  refine wpAny_bind (wpAny_setField_rec he₅ (by simp) fun h₆ he₆ hs₆ => ?_)
  replace hs₆ : Heap.SameBut e h₅ h₆ := hs₆
  replace he₆ : IsEnumOut h₆ e it ((i : Int) + 1) u hp.objs.size := he₆
  refine wpAny_setField_rec he₆ (by simp) fun h₇ he₇ hs₇ => ?_
  replace hs₇ : Heap.SameBut e h₆ h₇ := hs₇
  replace he₇ : IsEnumOut h₇ e it ((i : Int) + 1) u hp.objs.size := he₇
  have up : ∀ b o, b ≠ e → h₄.get? b = some o → h₇.get? b = some o := fun b o hb y => hs₇.extBut b o hb (hs₆.extBut b o hb (hs₅.extBut b o hb y))
  refine wpAny_bind (wpAny_letGo (wpAny_pure ⟨_, rfl, hQ u x h₇ tk rx yx he₇ (S.keep _ _ _ hit₄ fun o y => up _ o hne.symm y) (up _ _ (Nat.ne_of_gt hel) ht₄) ?_ fun b o hbe hbi hb => up b o hbe (hk₄ b o hbe hbi hb)⟩))
  rw [hs₇.1, hs₆.1, hs₅.1, hz₄]
end
def Ite (J : It) : It := ⟨fun i H => J.go i H, fun i H x H' => ∃ T y, H T = none ∧ J.yld i H y H ∧ x = .ref T ∧ H' = upd H T (.tup [.int i, y]), fun i H => J.stop i H⟩
theorem turn_enum {P : Program} {w : World} {K : PySem.W.Frag} {elts : List Expr} {kk : Nat} {pos : Pos} {J : It} {st : Nat → Heap → Prop} {e it : Addr} (hne : e ≠ it) (S : Srce P w K J it st) :
    Turn P w K (.Tuple elts kk pos) (Ite J) [e, it] e (fun i h => (∃ old, IsEnum h e it i old) ∧ st i h) where
  mem := by simp
  obj := fun i h hs b hb => by
    obtain ⟨⟨old, he⟩, h1⟩ := hs
    simp only [List.mem_cons, List.not_mem_nil, or_false] at hb
    rcases hb with rfl | rfl
    · exact ⟨_, he, fun v z => by cases z⟩
    · exact S.obj i h h1
  keep := fun i h h' hs k => by
    obtain ⟨⟨old, he⟩, h1⟩ := hs
    exact ⟨⟨old, k e (by simp) _ he⟩, S.keep _ _ _ h1 fun o y => k it (by simp) o y⟩
  item := by
    intro X hP hw hK hc i pins s σ H E I hf hs hg
    subst hP hw hK
    obtain ⟨⟨old, he⟩, h1⟩ := hs
    have hT : s.TypeIs (.ref e) "enumerate" := ⟨_, he, rfl⟩
    unfold pyNext
    refine wpAny_bind (wpAny_attempt (wpAny_callSpecial?_slot (name := Str.ofString "__next__") hT F.slot_enumerate_next
      (wpAny_call_entry F.slot_enumerate_next hT F.entry_enumerate_next
        (enumS_item S (I.ok.hd hc) I.vw (hf it (by simp)).1 ((hf it (by simp)).noK I) he h1 hg hne fun u x h' tk rx yx a1 a2 a3 a4 a5 => wpAny_pure ?_) (F.args_enumerate_next_1 _))))
    refine ⟨_, rfl, ?_⟩
    refine wpAny_letOwnedTupleGo_enum (s := { s with heap := h', toks := tk + 1 }) a1 fun h2 he2 hs2 => ?_
    replace hs2 : Heap.SameBut e h' h2 := hs2
    have k2 : ∀ c o, c ∉ [e, it] → s.heap.get? c = some o → h2.get? c = some o := fun c o hcn y => by
      simp only [List.mem_cons, List.not_mem_nil, or_false, not_or] at hcn
      exact hs2.extBut _ _ hcn.1 (a5 c o hcn.1 hcn.2 y)
    have elt : e < s.heap.objs.size := Heap.lt_size he
    have ilt : it < s.heap.objs.size := by obtain ⟨o, y, _⟩ := S.obj _ _ h1; exact Heap.lt_size y
    have I1 : Inv X pins σ H { s with heap := h2, toks := tk + 1 } := I.turnedL k2 hf
    have FT : FpOk X pins H s.heap.objs.size := I.fpOk (Nat.le_refl _) I.fresh
    have hT2 : h2.get? s.heap.objs.size = some { cls := .type "tuple", data := .seq #[.int i tk, u] } := hs2.extBut _ _ (Nat.ne_of_gt elt) a3
    have I2 : Inv X pins σ (upd H s.heap.objs.size (.tup [.int i, x])) { s with heap := h2, toks := tk + 1 } :=
      I1.track I.sz FT ⟨by show 2 ≤ sizeLine; decide, [.int i tk, u], .cons ⟨_, rfl⟩ (.cons rx .nil), ⟨_, hT2, rfl, _, rfl⟩⟩
    refine ⟨.ref s.heap.objs.size, _, I2, rfl, ⟨_, x, I.fresh, yx, rfl, rfl⟩, ⟨⟨u, by simpa using he2⟩, S.keep _ _ _ a2 fun o y => hs2.extBut _ _ hne.symm y⟩, fun b hb => ?_⟩
    have hb2 := (hf b hb).1
    rw [upd_ne]
    · exact hb2
    · simp only [List.mem_cons, List.not_mem_nil, or_false] at hb
      rcases hb with rfl | rfl
      · exact Nat.ne_of_lt elt
      · exact Nat.ne_of_lt ilt
  done := by
    intro X hP hw hK hc i pins s σ H E I hf hs hg
    subst hP hw hK
    obtain ⟨⟨old, he⟩, h1⟩ := hs
    have hT : s.TypeIs (.ref e) "enumerate" := ⟨_, he, rfl⟩
    unfold pyNext
    refine wpAny_bind (wpAny_attempt (wpAny_callSpecial?_slot (name := Str.ofString "__next__") hT F.slot_enumerate_next
      (wpAny_call_entry F.slot_enumerate_next hT F.entry_enumerate_next ?_ (F.args_enumerate_next_1 _))))
    show wpAny _ _ (field (.ref e) 2 >>= _) _ _ _
    refine wpAny_bind (wpAny_field he rfl (x := .ref it) rfl ?_)
    refine wpAny_bind (S.done _ i _ H _ _ (I.ok.hd hc) I.vw (hf it (by simp)).1 ((hf it (by simp)).noK I) h1 hg fun h' x he' hx' => ?_)
    obtain ⟨o, ho, hcl⟩ := hx'
    refine wpAny_bind (wpAny_isInstance (T := "StopIteration") (b := true) ⟨o, ho, hcl⟩ isSubtype_stop ?_)
    refine wpAny_pure ⟨rfl, I.turnedL (t' := s.toks) (fun c o hcn y => ?_) hf⟩
    simp only [List.mem_cons, List.not_mem_nil, or_false, not_or] at hcn
    exact he' c o hcn.2 y
  self := fun _ _ _ _ _ hs h => by
    obtain ⟨⟨old, he⟩, _⟩ := hs
    exact wpAny_pyIter_enum he h
section
variable {X : Cx} {elts : List Expr} {kk : Nat} {tpos : Pos}
theorem enum_made {pins : List (Addr × Obj)} {σ : St} {H : Hp} {s : Shared} {h' : Heap} {J : It} {st : Nat → Heap → Prop} {R : It → Hp → Prop} {E : Value → Shared → Prop} (I : Inv X pins σ H s) (S : Srce X.prog X.w X.K J s.heap.objs.size st)
    (he : IsEnum h' (s.heap.objs.size + 1) s.heap.objs.size 0 .none) (h1 : st 0 h') (hk : ∀ c o, s.heap.get? c = some o → h'.get? c = some o) (q : R (Ite J) H) :
    wpAny (model X.prog X.w) X.A (pyIter (.ref (s.heap.objs.size + 1))) (PIE X pins σ (.Tuple elts kk tpos) R) E { s with heap := h' } := by
  refine wpAny_pyIter_enum he ?_
  refine ⟨_, _, _, _, H, rfl, I.kept (t' := s.toks) hk, turn_enum (show (s.heap.objs.size + 1 : Nat) ≠ s.heap.objs.size by lia) S, ⟨⟨_, he⟩, h1⟩, fun b hb => ?_, q⟩
  have hb' : s.heap.objs.size ≤ b := by
    simp only [List.mem_cons, List.not_mem_nil, or_false] at hb
    rcases hb with rfl | rfl
    · exact Nat.le_succ _
    · exact Nat.le_refl _
  exact I.fpOk hb' (I.hok.fresh hb')
def iEnum (K : PySem.W.Frag) (ta : TA) : TI := fun σ H R => ta σ H fun vs H1 => (∃ z, vs = [.str z] ∧ R (Ite (Its z)) H1) ∨ ∃ a xs, vs = [.ref a] ∧ SqL K H1 a xs ∧ R (Ite (Itl K a)) H1
theorem pi_enum {a : Expr} {ta : TA} {p pos : Pos} (hg : Gl X "enumerate") (hm : X.mg "enumerate" = none) (ha : PA X [a] ta) (hs : starEach [a] X.env = [(false, eval a X.env)] := by rfl) :
    PI X (.Tuple elts kk tpos) (.Call (.Name "enumerate" p) [a] [] pos) (iEnum X.K ta) := by
  intro pins s σ H R I h
  refine Call_ (ld_blt I hg hm (by decide +kernel : bootBuiltins "enumerate" = some (.type "enumerate")) (PyProof.Rows.callWith_type1 (thn (ha pos pins s σ H _ I h) fun us s1 ⟨vs, H1, I1, r1, q1⟩ => ?_) hs rfl))
  rcases q1 with ⟨z, e, q⟩ | ⟨l, xs, e, hq, q⟩
  · subst e
    obtain ⟨u, rfl, t, rfl⟩ := vals1 r1
    exact call_enumerate_str fun h' he hi hz hk => enum_made I1 (srce_str _ z t) he hi hk q
  · subst e
    obtain ⟨u, rfl, r⟩ := vals1 r1
    cases r
    obtain ⟨its, rv, pl, _⟩ := I1.list hq
    exact call_enumerate_list pl.isList fun h' he hi hz hk => enum_made I1 (srce_list l _) he hi hk q
theorem enum_k {a : Expr} {ta : TA} {p pos : Pos} (K : PySem.W.Frag) (hK : X.K = K) (hg : Gl X "enumerate") (hm : X.mg "enumerate" = none) (ha : PA X [a] ta) (hs : starEach [a] X.env = [(false, eval a X.env)] := by rfl) :
    PI X (.Tuple elts kk tpos) (.Call (.Name "enumerate" p) [a] [] pos) (iEnum K ta) := by subst hK; exact pi_enum hg hm ha hs
theorem for_enumS {z : Str} {g : TG} {tb : TS} {D : Ends} {σ : St} {H : Hp} (Pv : Nat → St → Hp → Prop) (h0 : Pv 0 σ H)
    (hs : ∀ i c T σ H, z.cps[i]? = some c → Pv i σ H → H T = none → g (.ref T) σ (upd H T (.tup [.int i, .str ⟨#[c]⟩])) fun σ2 H2 => tb { D with nx := Pv (i + 1), ct := Pv (i + 1), bk := D.nx } σ2 H2) (hd : ∀ σ H, Pv z.length σ H → D.nx σ H) :
    ∃ W : Nat → Nat → St → Hp → Prop, (∃ m, W 0 m σ H) ∧ ∀ i m σ H, W i m σ H →
      ((Ite (Its z)).stop i H ∧ D.nx σ H) ∨ ((Ite (Its z)).go i H ∧ ∃ N : St → Hp → Prop, (∀ σ' H', N σ' H' → ∃ m', m' < m ∧ W (i + 1) m' σ' H') ∧ ∀ v H', (Ite (Its z)).yld i H v H' → g v σ H' fun σ2 H2 => tb { D with nx := N, ct := N, bk := D.nx } σ2 H2) := by
  refine for_go (n := z.length) Pv h0 (fun i σ H h _ => h) (fun σ H _ => Nat.le_refl _) (fun i v σ H H' h p yl => ?_) hd
  obtain ⟨T, y, hT, ⟨_, c, hc, rfl⟩, rfl, rfl⟩ := yl
  exact hs i c T σ H hc p hT
end
end L2
namespace K
open PySem L2 TX
def NSs : Str := Str.ofString "abcdefghijklmnopqrstuvwxyzABCDEFGHIJKLMNOPQRSTUVWXYZ0123456789-_."
def GSs : Str := Str.ofString "?*#@"
abbrev NS : List Nat := tl NSs
abbrev GS : List Nat := tl GSs
theorem ns_len : NSs.length = 65 := by decide +kernel
theorem filt_pos {c : Nat} (h : c ∈ GS) : ([c].filter fun c => decide (c ∈ GS)) = [c] := List.filter_cons_of_pos (p := fun c => decide (c ∈ GS)) (decide_eq_true h)
theorem filt_neg {c : Nat} (h : ¬ c ∈ GS) : ([c].filter fun c => decide (c ∈ GS)) = [] := List.filter_cons_of_neg (p := fun c => decide (c ∈ GS)) (by simpa using h)
inductive Pt where
  | tx (l : List Nat)
  | gp (c : Nat)
namespace Pt
def fl : Pt → List Nat
  | tx l => l
  | gp c => [c]
def isG : Pt → Bool
  | tx _ => false
  | gp _ => true
def ok : Pt → Prop
  | tx l => l ≠ [] ∧ ∀ c ∈ l, c ∈ NS
  | gp c => c ∈ GS
def word : Pt → Str
  | tx _ => Str.ofString "text"
  | gp _ => Str.ofString "gap"
def vs (p : Pt) : List V := [.str p.word, .str (mk p.fl)]
def dat (p : Pt) : PyData := .tuple [.str p.word, .str (mk p.fl)]
end Pt
def gaps (ps : List Pt) : Nat := (ps.filter Pt.isG).length
def tp (t : List Nat) : List Pt := if t = [] then [] else [.tx t]
def parse (cur : List Nat) : List Nat → List Pt
  | [] => tp cur
  | c :: r => if c ∈ GS then tp cur ++ .gp c :: parse [] r else parse (cur ++ [c]) r
structure Good (l : List Nat) : Prop where
  ne : l ≠ []
  sg : ∀ c ∈ l, c ∈ GS ∨ c ∈ NS
  gp : (l.filter fun c => decide (c ∈ GS)).length ≤ 9
  len : l.length ≤ 1000
def TKeep (H H' : Hp) : Prop := ∀ T xs, H T = some (.tup xs) → H' T = some (.tup xs)
abbrev Tups (H : Hp) : List Addr → List Pt → Prop := Paired fun T p => H T = some (.tup p.vs)
structure HL (H : Hp) (L : Addr) (ps : List Pt) : Prop where
  ex : ∃ Ts : List Addr, H L = some (.lst (Ts.map V.ref)) ∧ Tups H Ts ps
theorem Tups.keep {H H' : Hp} (k : TKeep H H') : ∀ {Ts : List Addr} {ps : List Pt}, Tups H Ts ps → Tups H' Ts ps
  | _, _, .nil => .nil
  | _, _, .cons h t => .cons (k _ _ h) (Tups.keep k t)
theorem Tups.len {H : Hp} {Ts : List Addr} {ps : List Pt} (h : Tups H Ts ps) : Ts.length = ps.length := Paired.length h
theorem Tups.app {H : Hp} : ∀ {Ts Us : List Addr} {ps qs : List Pt}, Tups H Ts ps → Tups H Us qs → Tups H (Ts ++ Us) (ps ++ qs)
  | _, _, _, _, .nil, h => h
  | _, _, _, _, .cons h t, u => .cons h (Tups.app t u)
theorem Tups.last {H : Hp} : ∀ {ps : List Pt} {p : Pt} {Ts : List Addr}, Tups H Ts (ps ++ [p]) → ∃ Us T, Ts = Us ++ [T] ∧ Tups H Us ps ∧ H T = some (.tup p.vs)
  | [], _, _, .cons h .nil => ⟨[], _, rfl, .nil, h⟩
  | _ :: ps, p, _, .cons h t => by
    obtain ⟨Us, T, rfl, h1, h2⟩ := Tups.last (ps := ps) t
    exact ⟨_ :: Us, T, rfl, .cons h h1, h2⟩
theorem Tups.get {H : Hp} : ∀ {Ts : List Addr} {ps : List Pt} {i : Nat} {x : V}, Tups H Ts ps → (Ts.map V.ref)[i]? = some x → ∃ T p, x = .ref T ∧ ps[i]? = some p ∧ H T = some (.tup p.vs)
  | _, _, _, _, .nil, h => by simp at h
  | _, _, 0, x, .cons h t, e => by simp at e; exact ⟨_, _, e.symm, rfl, h⟩
  | _, _, i + 1, x, .cons h t, e => by
    obtain ⟨T, p, h1, h2, h3⟩ := Tups.get (i := i) (x := x) t (by simpa using e)
    exact ⟨T, p, h1, by simpa using h2, h3⟩
theorem TKeep.refl (H : Hp) : TKeep H H := fun _ _ h => h
theorem TKeep.trans {H H1 H2 : Hp} (a : TKeep H H1) (b : TKeep H1 H2) : TKeep H H2 := fun T xs h => b T xs (a T xs h)
theorem TKeep.new {H H' : Hp} {p : Addr} {o : HO} (k : TKeep H H') (h : H' p = none) : TKeep H (upd H' p o) := fun T xs e => by rw [upd_ne (ne_of_none (k T xs e) h)]; exact k T xs e
theorem TKeep.lst {H H' : Hp} {p : Addr} {ys zs : List V} (k : TKeep H H') (h : H' p = some (.lst ys)) : TKeep H (upd H' p (.lst zs)) := fun T xs e => by
  rw [upd_ne (ne_of (k T xs e) h (by intro z; cases z))]; exact k T xs e
theorem Fd.tk {a b : Addr} {H H' : Hp} (F : FeedAt H a b) (x : Fd a b H H') : TKeep H H' := fun T xs e => by
  obtain ⟨i, j, h⟩ := F.fa
  exact x.at e (ne_of e h (by intro z; cases z))
theorem Same.tk {H H' : Hp} (s : Same H H') : TKeep H H' := fun T xs e => s _ _ e
theorem HL.same {H H' : Hp} {L : Addr} {ps : List Pt} (h : HL H L ps) (s : Same H H') : HL H' L ps := by
  obtain ⟨Ts, h1, h2⟩ := h.ex
  exact ⟨Ts, s _ _ h1, h2.keep (Same.tk s)⟩
theorem HL.fd {a b : Addr} {H H' : Hp} {L : Addr} {ps : List Pt} (F : FeedAt H a b) (h : HL H L ps) (x : Fd a b H H') (hL : L ≠ a) : HL H' L ps := by
  obtain ⟨Ts, h1, h2⟩ := h.ex
  exact ⟨Ts, x.at h1 hL, h2.keep (Fd.tk F x)⟩
theorem HL.new {H : Hp} {L p : Addr} {o : HO} {ps : List Pt} (h : HL H L ps) (hp : H p = none) : HL (upd H p o) L ps := h.same ((Same.refl H).new hp)
theorem HL.put {H : Hp} {L M : Addr} {ps : List Pt} {ys zs : List V} (h : HL H L ps) (hM : H M = some (.lst ys)) (hne : L ≠ M) : HL (upd H M (.lst zs)) L ps := by
  obtain ⟨Ts, h1, h2⟩ := h.ex
  exact ⟨Ts, by rw [upd_ne hne]; exact h1, h2.keep ((TKeep.refl H).lst hM)⟩
theorem HL.sq {K : PySem.W.Frag} {H : Hp} {L : Addr} {ps : List Pt} (h : HL H L ps) : ∃ xs, SqL K H L xs := let ⟨Ts, h1, _⟩ := h.ex; ⟨_, SqL.of h1⟩
theorem HL.snoc {H : Hp} {L T : Addr} {ps : List Pt} {p : Pt} {Ts : List Addr} (h1 : H L = some (.lst (Ts.map V.ref))) (h2 : Tups H Ts ps) (hT : H T = none) :
    HL (upd (upd H T (.tup p.vs)) L (.lst (Ts.map V.ref ++ [.ref T]))) L (ps ++ [p]) := by
  have hTL : T ≠ L := fun z => by subst z; rw [hT] at h1; cases h1
  have h1' : (upd H T (.tup p.vs)) L = some (.lst (Ts.map V.ref)) := by rw [upd_ne (Ne.symm hTL)]; exact h1
  refine ⟨Ts ++ [T], by rw [List.map_append]; exact upd_same, Tups.app ((h2.keep ((TKeep.refl H).new hT)).keep ((TKeep.refl _).lst h1')) (.cons ?_ .nil)⟩
  rw [upd_ne hTL]
  exact upd_same
theorem Pt.dt {K : PySem.W.Frag} {H : Hp} {T : Addr} {p : Pt} (h : H T = some (.tup p.vs)) : Dt K H (.ref T) p.dat :=
  .tup (SqT.of h) (.cons (.str _) (.cons (.str _) .nil))
end K
namespace L2
open PySem PySem.Spec PyProof.Rows
def PET (X : Cx) (e : Expr) (t : TE) : Prop :=
  ∀ (pins : List (Addr × Obj)) (s : Shared) (σ : St) (H : Hp) (Q : VK), Inv X pins σ H s → t σ H Q → wpAny (model X.prog X.w) X.A (eval e X.env) (fun u s' => EP X pins σ Q u s' ∧ 0 < s'.toks) X.xe s
theorem PET.pe {X : Cx} {e : Expr} {t : TE} (h : PET X e t) : PE X e t := fun pins s σ H Q I q => thn (h pins s σ H Q I q) fun _ _ z => z.1
structure Kon (P : Program) (w : World) (K : PySem.W.Frag) (mg : Str → Option Value) (base : Heap) (x c : Str) : Prop where
  ex : ∃ f fd, mg x = some (.ref f) ∧ PySem.W.keepIn K (.ref f) = true ∧ Binds K fd [] [] ∧
    ∀ (A : Around) (outer : List Env) (s : Shared) (H : Hp) (args : Args), Room 1 A → Env0 P w K mg base A outer s H → BindsTo s fd args [] →
      codeAny (model P w) A (.call (.ref f) args) (fun r s' => (∃ u, r = .ok (.ret u) ∧ CE outer P w H s (fun v H' => v = .str c ∧ H' = H) u s') ∧ 0 < s'.toks) s
theorem Df.kon {P : Program} {w : World} {K : PySem.W.Frag} {mg : Str → Option Value} {base : Heap} {x c : Str} {st : Stmt} {j : Nat} {p p2 : Pos} (D : Df K mg x st []) (S : FnScope [] [] (defScope st)) (hb : defBody st = [.Return (some (.Constant (.str c) j p)) p2]) : Kon P w K mg base x c := by
  obtain ⟨f, fd, F, hm, hbd⟩ := D.ex
  obtain ⟨oc, od, kV, doc, pm, an, cdv, ct, osl, rfl, lk, hcd⟩ := F.ex
  refine ⟨f, _, hm, F.kp, hbd, fun A outer s H args hr e0 hbt => ?_⟩
  have KX : K.In s.heap := e0.mod.kin.keeps fun b o e => (e0.bs b o e).1
  have lim : s.heap.NoLimit := e0.mod.nolimit.keeps fun b o e => (e0.bs b o e).1
  refine codeAny_call_function hr.depth (KX _ _ lk) rfl S.co S.gen rfl (PySem.W.codeRec_of KX hcd) (hbt _ _ _ _ ?_)
  refine wpAny_newFunctionEnv_cells S.kind (fun y hy => by cases hy) fun env he s1 z => ?_
  subst he
  refine ⟨lim.keeps z.toInCall.keep, codeAny_func ?_⟩
  have I : Inv (cxOf CX0 P w K mg base [] x (defScope st) f cdv A outer s H E0) [] (start [] []) H s1 := inv_start (us := []) (vs := []) S hr.hd e0 rfl .nil z
  rw [hb]
  refine wpAny_execs_cons (wpAny_Return_some (Calls.Constant_str ?_))
  have J : Inv (cxOf CX0 P w K mg base [] x (defScope st) f cdv A outer s H E0) [] (start [] []) H { s1 with toks := s1.toks + 1 } := I.tok _
  exact ⟨⟨_, rfl, .str c, H, J.os, J.bare, J.base, J.hok, ⟨_, rfl⟩, rfl, rfl⟩, Nat.succ_pos _⟩
section
variable {X : Cx} {x c : Str} {k : Nat} {p pos apos cpos : Pos} {o : Expr} {to : TE}
theorem pet_kon (C : Kon X.prog X.w X.K X.mg X.base x c) (hr : Room k X.A) (hk1 : 1 ≤ k := by decide) (hg : Gl X x := by rfl) (hdb : (x == ("__debug__" : Str)) = false := by decide) : PET X (.Call (.Name x p) [] [] pos) (tC (.str c)) := by
  intro pins s σ H Q I h
  obtain ⟨f, fd, hm, hk, hb, run⟩ := C.ex
  refine wpAny_Call_Name_kw (ld_glob I hg hm ?_ hdb)
  refine PySem.W.callWith_K0 I.kIn hk (wpAny_call (codeAny_mono (run X.A X.stack s H ⟨[], []⟩ (hr.mono hk1) I.env0 (hb s [] I.kIn rfl)) fun r s' hq => ?_))
  obtain ⟨⟨u, rfl, ce⟩, ht⟩ := hq
  refine ⟨?_, ht⟩
  obtain ⟨v, H', I', rv, rfl, rfl⟩ := I.after ce
  exact ⟨_, _, I', rv, h⟩
def rRepl (y z : Str) : V → Hp → VK → Prop := fun v H Q => ∃ s, v = .str s ∧ s.length + (s.length + 1) * z.length ≤ 16777216 ∧ Q (.str (Txt.replace s y z)) H
def tRepl (y z : Str) (to : TE) : TE := fun σ H Q => to σ H fun v H1 => rRepl y z v H1 Q
theorem pet_repl {y z : Str} {j1 j2 : Nat} {p1 p2 : Pos} (ho : PET X o to) (hyz : (y == z) = false)
    (hbase : attributeBase o "replace" X.env (eval o X.env) = eval o X.env := by rfl)
    (hfew : ((backTo cpos (starEach [.Constant (.str y) j1 p1, .Constant (.str z) j2 p2] X.env)).all (fun x => !x.1) && (backToKw cpos (keywordEach [] X.env)).all (fun x => x.1.isSome)
      && decide (([.Constant (.str y) j1 p1, .Constant (.str z) j2 p2] : List Expr).length + ([] : List Keyword).length + (if ([] : List Keyword).isEmpty then 0 else 1) < 30)) = true := by rfl)
    (hline : (apos.endLine == cpos.line) = true := by rfl)
    (hs : backTo cpos (starEach [.Constant (.str y) j1 p1, .Constant (.str z) j2 p2] X.env) = [(false, eval (.Constant (.str y) j1 p1) X.env), (false, eval (.Constant (.str z) j2 p2) X.env)] := by rfl) :
    PET X (.Call (.Attribute o "replace" apos) [.Constant (.str y) j1 p1, .Constant (.str z) j2 p2] [] cpos) (tRepl y z to) := by
  intro pins s σ H Q I h
  refine wpAny_Call_method_late hbase hfew hline rfl (thn (ho pins s σ H _ I h) fun v s1 ⟨⟨x, H1, I1, r1, q1⟩, ht⟩ => ?_)
  obtain ⟨a, rfl, hb, q⟩ := q1
  obtain ⟨t, rfl⟩ := r1
  refine ⟨"str", "str.replace", F.plainAttrs_str, F.slot_str_replace, F.type_str_replace, typeIs_str _ _ _, (fun _ e => nomatch e), ?_⟩
  rw [hs]
  refine Calls.callWith_builtin rfl (Calls.evalArgs_plain ?_)
  refine Calls.spliced_cons (Calls.Constant_str (Calls.spliced_cons (Calls.Constant_str (Calls.spliced_nil ?_))))
  refine wpAny_mono (wpAny_toks_of (n := 1) (show 1 ≤ s1.toks + 1 + 1 by lia) (SC.replace (Q := EP X pins σ Q) (show s1.toks ≠ 0 by lia) (show s1.toks + 1 ≠ 0 by lia) (show s1.toks ≠ s1.toks + 1 by lia) hyz hb fun t' k => ⟨.str _, H1, I1.tok _, ⟨_, rfl⟩, q⟩)) (fun _ _ z => ⟨z.2, z.1⟩) fun _ _ z => z.2
end
end L2
namespace L2
open PySem PySem.Spec PyProof.Rows
section
variable {κ : Type} [DecidableEq κ]
def valV (kvs : List (κ × V)) (k : κ) : Option V := (kvs.find? fun kv => decide (kv.1 = k)).map (·.2)
def putK (kvs : List (κ × V)) (k : κ) (v : V) : List (κ × V) :=
  if (kvs.any fun kv => decide (kv.1 = k)) = true then kvs.map (fun kv => if kv.1 = k then (kv.1, v) else kv) else kvs ++ [(k, v)]
def dropK (kvs : List (κ × V)) (k : κ) : List (κ × V) := kvs.filter fun kv => decide (kv.1 ≠ k)
theorem valV_pos {p : κ × V} {r : List (κ × V)} {k : κ} (e : p.1 = k) : valV (p :: r) k = some p.2 := by simp [valV, List.find?_cons, e]
theorem valV_neg {p : κ × V} {r : List (κ × V)} {k : κ} (e : ¬ p.1 = k) : valV (p :: r) k = valV r k := by simp [valV, List.find?_cons, e]
theorem valV_any (k : κ) : ∀ kvs : List (κ × V), (kvs.any fun kv => decide (kv.1 = k)) = (valV kvs k).isSome
  | [] => rfl
  | p :: r => by
    rw [List.any_cons]
    by_cases e : p.1 = k
    · simp only [valV_pos e, decide_eq_true e, Bool.true_or, Option.isSome_some]
    · rw [valV_neg e, decide_eq_false e, Bool.false_or]; exact valV_any k r
theorem valV_map (k j : κ) (y : V) : ∀ kvs : List (κ × V), valV (kvs.map fun kv => if kv.1 = k then (kv.1, y) else kv) j = (valV kvs j).map fun x => if j = k then y else x
  | [] => rfl
  | p :: r => by
    have ih := valV_map k j y r
    rw [List.map_cons]
    by_cases h : p.1 = k
    · rw [if_pos h]
      by_cases e : p.1 = j
      · rw [valV_pos (p := (p.1, y)) e, valV_pos e, Option.map_some, if_pos (e.symm.trans h)]
      · rw [valV_neg (p := (p.1, y)) e, valV_neg e, ih]
    · rw [if_neg h]
      by_cases e : p.1 = j
      · rw [valV_pos (p := p) e, valV_pos e, Option.map_some, if_neg (fun z => h (e.trans z))]
      · rw [valV_neg (p := p) e, valV_neg e, ih]
theorem valV_snoc (k j : κ) (y : V) : ∀ kvs : List (κ × V), valV kvs k = none → valV (kvs ++ [(k, y)]) j = if j = k then some y else valV kvs j
  | [], _ => by
    by_cases e : k = j
    · rw [if_pos e.symm]; exact valV_pos (p := (k, y)) e
    · rw [if_neg (fun z => e z.symm)]; exact valV_neg (p := (k, y)) e
  | p :: r, hn => by
    rw [List.cons_append]
    have hk : ¬ p.1 = k := fun z => by rw [valV_pos z] at hn; cases hn
    rw [valV_neg hk] at hn
    have ih := valV_snoc k j y r hn
    by_cases e : p.1 = j
    · rw [valV_pos e, valV_pos e, if_neg (fun z => hk (e.trans z))]
    · rw [valV_neg e, valV_neg e, ih]
theorem valV_put (kvs : List (κ × V)) (k j : κ) (y : V) : valV (putK kvs k y) j = if j = k then some y else valV kvs j := by
  unfold putK
  by_cases a : (kvs.any fun kv => decide (kv.1 = k)) = true
  · rw [if_pos a, valV_map]
    rw [valV_any] at a
    by_cases e : j = k
    · obtain ⟨x, hx⟩ := Option.isSome_iff_exists.mp a
      rw [if_pos e, e, hx, Option.map_some, if_pos rfl]
    · rw [if_neg e]
      cases valV kvs j with
      | none => rfl
      | some x => rw [Option.map_some, if_neg e]
  · rw [if_neg a]
    refine valV_snoc k j y kvs ?_
    rw [valV_any] at a
    cases q : valV kvs k with
    | none => rfl
    | some x => rw [q] at a; exact (a rfl).elim
theorem length_putK (kvs : List (κ × V)) (k : κ) (v : V) : (putK kvs k v).length ≤ kvs.length + 1 := by
  unfold putK
  split
  · rw [List.length_map]; lia
  · rw [List.length_append, List.length_cons, List.length_nil]; lia
theorem RelO.isSome_eq {o : Option V} {u : Option Value} (r : RelO o u) : o.isSome = u.isSome := by
  cases o with
  | none => cases u with
    | none => rfl
    | some _ => exact (show False from r).elim
  | some _ => cases u with
    | none => exact (show False from r).elim
    | some _ => rfl
theorem RelO.getD {o : Option V} {u : Option Value} {d : V} {d' : Value} (r : RelO o u) (rd : RelV d d') : RelV (o.getD d) (u.getD d') := by
  cases o with
  | none => cases u with
    | none => exact rd
    | some _ => exact (show False from r).elim
  | some _ => cases u with
    | none => exact (show False from r).elim
    | some _ => exact r
theorem KV.val {kvs : List (κ × V)} {vs : List (κ × Value)} (r : KV kvs vs) (k : κ) : RelO (valV kvs k) (valueAt vs k) := by
  unfold KV at r
  induction r with
  | nil => exact True.intro
  | @cons p q ps qs h t ih =>
    obtain ⟨h1, h2⟩ := h
    by_cases e : p.1 = k
    · have e' : q.1 = k := h1.symm.trans e
      have b : valueAt (q :: qs) k = some q.2 := by simp [valueAt, List.find?_cons, e']
      rw [valV_pos e, b]; exact h2
    · have e' : ¬ q.1 = k := fun z => e (h1.trans z)
      have b : valueAt (q :: qs) k = valueAt qs k := by simp [valueAt, List.find?_cons, e']
      rw [valV_neg e, b]; exact ih
theorem KV.any {kvs : List (κ × V)} {vs : List (κ × Value)} (r : KV kvs vs) (k : κ) : (kvs.any fun kv => decide (kv.1 = k)) = vs.any fun kv => decide (kv.1 = k) := by
  unfold KV at r
  induction r with
  | nil => rfl
  | cons h t ih => rw [List.any_cons, List.any_cons, ih, h.1]
theorem KV.repl {kvs : List (κ × V)} {vs : List (κ × Value)} (r : KV kvs vs) (k : κ) {y : V} {u : Value} (ry : RelV y u) :
    KV (kvs.map fun kv => if kv.1 = k then (kv.1, y) else kv) (vs.map fun kv => if kv.1 = k then (kv.1, u) else kv) := by
  unfold KV at r ⊢
  induction r with
  | nil => exact .nil
  | @cons p q ps qs h t ih =>
    rw [List.map_cons, List.map_cons]
    refine .cons ?_ ih
    obtain ⟨h1, h2⟩ := h
    by_cases e : p.1 = k
    · rw [if_pos e, if_pos (h1.symm.trans e)]; exact ⟨h1, ry⟩
    · rw [if_neg e, if_neg (fun z => e (h1.trans z))]; exact ⟨h1, h2⟩
theorem KV.put {kvs : List (κ × V)} {vs : List (κ × Value)} (r : KV kvs vs) (k : κ) {y : V} {u : Value} (ry : RelV y u) : KV (putK kvs k y) (stored vs k u) := by
  unfold putK stored
  rw [r.any k]
  by_cases e : (vs.any fun kv => decide (kv.1 = k)) = true
  · rw [if_pos e, if_pos e]; exact r.repl k ry
  · rw [if_neg e, if_neg e]; exact Paired.snoc r ⟨rfl, ry⟩
theorem KV.drop {kvs : List (κ × V)} {vs : List (κ × Value)} (r : KV kvs vs) (k : κ) : KV (dropK kvs k) (without vs k) := by
  unfold KV at r ⊢
  unfold dropK without
  induction r with
  | nil => exact .nil
  | @cons p q ps qs h t ih =>
    obtain ⟨h1, h2⟩ := h
    rw [List.filter_cons, List.filter_cons]
    by_cases e : p.1 = k
    · have a : ¬ decide (p.1 ≠ k) = true := by simp [e]
      have b : ¬ decide (q.1 ≠ k) = true := by simp [h1.symm.trans e]
      rw [if_neg a, if_neg b]; exact ih
    · have e' : ¬ q.1 = k := fun z => e (h1.trans z)
      have a : decide (p.1 ≠ k) = true := by simp [e]
      have b : decide (q.1 ≠ k) = true := by simp [e']
      rw [if_pos a, if_pos b]; exact .cons ⟨h1, h2⟩ ih
theorem KV.keys {kvs : List (κ × V)} {vs : List (κ × Value)} (r : KV kvs vs) : kvs.map (·.1) = vs.map (·.1) := by
  unfold KV at r
  induction r with
  | nil => rfl
  | cons h t ih => rw [List.map_cons, List.map_cons, ih, h.1]
theorem KV.length {kvs : List (κ × V)} {vs : List (κ × Value)} (r : KV kvs vs) : kvs.length = vs.length := Paired.length r
end
theorem kV_is {P : Program} {w : World} {k : Key} {u : Value} (r : RelV (kV k) u) : (mixKind P w).is k u = true := by
  cases k with
  | inl i => obtain ⟨t, e⟩ := (show ∃ t, u = Value.int i t from r); subst e; exact mixKind_int P w i t
  | inr x => obtain ⟨t, e⟩ := (show ∃ t, u = Value.str x t from r); subst e; exact mixKind_str P w x t
theorem items_are {P : Program} {w : World} : ∀ {ks : List Key} {us : List Value}, Vals (ks.map kV) us → ItemsAre (mixKind P w) ks us
  | [], _, r => by rw [List.map_nil] at r; cases r; exact .nil
  | k :: ks, _, r => by
    rw [List.map_cons] at r
    cases r with
    | cons h t => exact .cons (kV_is h) (items_are t)
abbrev KT (H : Hp) : List (List Key × V) → List (List Key × Addr × Value) → Prop := Paired fun p q => p.1 = q.1 ∧ H q.2.1 = some (.tup (p.1.map kV)) ∧ RelV p.2 q.2.2
theorem KT.val {H : Hp} {kvs : List (List Key × V)} {xs : List (List Key × Addr × Value)} (r : KT H kvs xs) (k : List Key) : RelO (valV kvs k) ((atKey xs k).map (·.2)) := by
  induction r with
  | nil => exact True.intro
  | @cons p q ps qs h t ih =>
    obtain ⟨h1, _, h2⟩ := h
    by_cases e : p.1 = k
    · have e' : q.1 = k := h1.symm.trans e
      have b : atKey (q :: qs) k = some q.2 := by simp [atKey, List.find?_cons, e']
      rw [valV_pos e, b]; exact h2
    · have e' : ¬ q.1 = k := fun z => e (h1.trans z)
      have b : atKey (q :: qs) k = atKey qs k := by simp [atKey, List.find?_cons, e']
      rw [valV_neg e, b]; exact ih
theorem KT.repl {H : Hp} {kvs : List (List Key × V)} {xs : List (List Key × Addr × Value)} (r : KT H kvs xs) (k : List Key) {y : V} {u : Value} (ry : RelV y u) :
    KT H (kvs.map fun kv => if kv.1 = k then (kv.1, y) else kv) (xs.map (putAt k u)) := by
  induction r with
  | nil => exact .nil
  | @cons p q ps qs h t ih =>
    rw [List.map_cons, List.map_cons]
    refine .cons ?_ ih
    obtain ⟨h1, h2, h3⟩ := h
    unfold putAt
    by_cases e : p.1 = k
    · rw [if_pos e, if_pos (h1.symm.trans e)]; exact ⟨h1, h2, ry⟩
    · rw [if_neg e, if_neg (fun z => e (h1.trans z))]; exact ⟨h1, h2, h3⟩
theorem KT.put {H : Hp} {kvs : List (List Key × V)} {xs : List (List Key × Addr × Value)} (r : KT H kvs xs) (k : List Key) {b : Addr} {y : V} {u : Value} (hb : H b = some (.tup (k.map kV))) (ry : RelV y u) :
    KT H (putK kvs k y) (storedH xs k b u) := by
  have e : (kvs.any fun kv => decide (kv.1 = k)) = (atKey xs k).isSome := by
    rw [valV_any, (r.val k).isSome_eq, Option.isSome_map]
  unfold putK storedH
  rw [e]
  by_cases q : (atKey xs k).isSome = true
  · rw [if_pos q, if_pos q]; exact r.repl k ry
  · rw [if_neg q, if_neg q]; exact Paired.snoc r ⟨rfl, hb, ry⟩
theorem KT.keeps {H H' : Hp} {kvs : List (List Key × V)} {xs : List (List Key × Addr × Value)} (r : KT H kvs xs) (ht : ∀ b ys, H b = some (.tup ys) → H' b = some (.tup ys)) : KT H' kvs xs :=
  Paired.mapP r fun _ _ z => ⟨z.1, ht _ _ z.2.1, z.2.2⟩
section
variable {P : Program} {w : World} {H : Hp} {h : Heap} {a : Addr}
theorem rd_of {u : HO} (ok : HOk P w H h) (e : Rd H a u) : ObjOk P w H h a u := e.ok ok
theorem dk_rd {kvs : List (Key × V)} (ok : HOk P w H h) (e : Rd H a (.dK kvs)) : kvs.length ≤ sizeLine ∧ (a == sysModules) = false ∧ ∃ vs, KV kvs vs ∧ h.DictOf (mixKind P w) a vs :=
  show ObjOk P w H h a (.dK kvs) from rd_of ok e
theorem dk_of {kvs : List (Key × V)} (ok : HOk P w H h) (e : H a = some (.dK kvs)) : kvs.length ≤ sizeLine ∧ (a == sysModules) = false ∧ ∃ vs, KV kvs vs ∧ h.DictOf (mixKind P w) a vs := dk_rd ok (.inl e)
theorem key_of {ks : List Key} (ok : HOk P w H h) (e : H a = some (.tup (ks.map kV))) : (tupleKind (mixKind P w)).is h ks a := by
  obtain ⟨_, its, r, o, h1, h2, n, h3⟩ := (show ObjOk P w H h a (.tup (ks.map kV)) from ok a _ e)
  exact ⟨o, its.toArray, n, h1, h2, h3, by simpa using items_are r⟩
theorem dt_rd {kvs : List (List Key × V)} (ok : HOk P w H h) (e : Rd H a (.dT kvs)) : kvs.length ≤ sizeLine ∧ (a == sysModules) = false ∧
    ∃ xs, KT H kvs xs ∧ h.DictOfH (tupleKind (mixKind P w)) a xs := by
  obtain ⟨z, y, xs, r, o, es, ep, h1, h2, h3, h4, h5⟩ := (show ObjOk P w H h a (.dT kvs) from rd_of ok e)
  refine ⟨z, y, xs, r, o, es, ep, h1, h2, h3, h4, fun x hx => ?_, h5⟩
  have all : ∀ {l : List (List Key × V)} {m : List (List Key × Addr × Value)}, KT H l m → ∀ x ∈ m, (tupleKind (mixKind P w)).is h x.1 x.2.1 := by
    intro l m q
    induction q with
    | nil => intro x hx; exact nomatch hx
    | @cons p q ps qs hq t ih =>
      intro x hx
      rcases List.mem_cons.mp hx with e | hx
      · subst e
        exact key_of ok (by rw [← hq.1]; exact hq.2.1)
      · exact ih x hx
  exact all r x hx
theorem dt_of {kvs : List (List Key × V)} (ok : HOk P w H h) (e : H a = some (.dT kvs)) : kvs.length ≤ sizeLine ∧ (a == sysModules) = false ∧
    ∃ xs, KT H kvs xs ∧ h.DictOfH (tupleKind (mixKind P w)) a xs := dt_rd ok (.inl e)
end
def DGet (H : Hp) (a : Addr) (y : V) (r : Option V) : Prop :=
  (∃ kvs k, Rd H a (.dK kvs) ∧ y = kV k ∧ r = valV kvs k) ∨ ∃ kvs k b, Rd H a (.dT kvs) ∧ y = .ref b ∧ H b = some (.tup (k.map kV)) ∧ r = valV kvs k
def DPut (H : Hp) (a : Addr) (y v : V) (H' : Hp) : Prop :=
  (∃ kvs k, H a = some (.dK kvs) ∧ y = kV k ∧ kvs.length < sizeLine ∧ H' = upd H a (.dK (putK kvs k v))) ∨
  ∃ kvs k b, H a = some (.dT kvs) ∧ y = .ref b ∧ H b = some (.tup (k.map kV)) ∧ kvs.length < sizeLine ∧ H' = upd H a (.dT (putK kvs k v))
theorem DGet.k {H : Hp} {a : Addr} {kvs : List (Key × V)} {k : Key} (e : H a = some (.dK kvs)) : DGet H a (kV k) (valV kvs k) := .inl ⟨kvs, k, .inl e, rfl, rfl⟩
theorem DGet.t {H : Hp} {a b : Addr} {kvs : List (List Key × V)} {k : List Key} (e : H a = some (.dT kvs)) (eb : H b = some (.tup (k.map kV))) : DGet H a (.ref b) (valV kvs k) := .inr ⟨kvs, k, b, .inl e, rfl, eb, rfl⟩
theorem DPut.k {H : Hp} {a : Addr} {kvs : List (Key × V)} {k : Key} {v : V} (e : H a = some (.dK kvs)) (hl : kvs.length < sizeLine) : DPut H a (kV k) v (upd H a (.dK (putK kvs k v))) := .inl ⟨kvs, k, e, rfl, hl, rfl⟩
theorem DPut.t {H : Hp} {a b : Addr} {kvs : List (List Key × V)} {k : List Key} {v : V} (e : H a = some (.dT kvs)) (eb : H b = some (.tup (k.map kV))) (hl : kvs.length < sizeLine) :
    DPut H a (.ref b) v (upd H a (.dT (putK kvs k v))) := .inr ⟨kvs, k, b, e, rfl, eb, hl, rfl⟩
section
variable {X : Cx} {pins : List (Addr × Obj)} {σ : St} {H : Hp} {s : Shared} {a : Addr} {y v : V} {u r : Value} {o : Option V} {A : Around} {E : Value → Shared → Prop}
theorem Inv.big (I : Inv X pins σ H s) : sysModules < s.heap.objs.size := by
  have h : mainGlobals < s.heap.objs.size := (I.mod.glob.keeps I.bk).lt
  exact Nat.lt_trans (by decide) h
theorem d_getItem {Q : Value → Shared → Prop} (hu : A.units + 1 < cLine) (I : Inv X pins σ H s) (g : DGet H a y (some v)) (ry : RelV y u) (h : ∀ w' s', Inv X pins σ H s' → RelV v w' → Q w' s') :
    wpAny (model X.prog X.w) A (getItem (.ref a) u) Q E s := by
  rcases g with ⟨kvs, k, e, ey, l⟩ | ⟨kvs, k, b, e, ey, eb, l⟩
  · subst ey
    obtain ⟨z, hd, vs, rel, dd⟩ := dk_rd I.hok e
    obtain ⟨w', hw, rw'⟩ := RelO.some_of (v := v) (o := valueAt vs k) (by rw [l]; exact rel.val k)
    exact wpAny_getItem_of (kV_is ry) dd.mapOf hw (h w' _ (I.tok _) rw')
  · subst ey
    cases (show u = Value.ref b from ry)
    obtain ⟨z, hd, xs, rel, dd⟩ := dt_rd I.hok e
    obtain ⟨w', hw, rw'⟩ := RelO.some_of (v := v) (o := (atKey xs k).map (·.2)) (by rw [l]; exact rel.val k)
    obtain ⟨p, hp, hp2⟩ := Option.map_eq_some_iff.mp hw
    refine wpAny_getItem_heap (tupleKind_room_in1 hu) (key_of I.hok eb) dd hp ?_
    rw [hp2]
    exact h w' _ (I.tok _) rw'
theorem d_in {Q : Value → Shared → Prop} (hu : A.units + 1 < cLine) (I : Inv X pins σ H s) (g : DGet H a y o) (ry : RelV y u) (h : ∀ s', Inv X pins σ H s' → Q (.bool o.isSome) s') :
    wpAny (model X.prog X.w) A (compareOp .In u (.ref a)) Q E s := by
  rcases g with ⟨kvs, k, e, ey, l⟩ | ⟨kvs, k, b, e, ey, eb, l⟩
  · subst ey
    obtain ⟨z, hd, vs, rel, dd⟩ := dk_rd I.hok e
    refine wpAny_in_of (kV_is ry) hd dd.mapOf ?_
    rw [← (rel.val k).isSome_eq, ← l]
    exact h _ (I.tok _)
  · subst ey
    cases (show u = Value.ref b from ry)
    obtain ⟨z, hd, xs, rel, dd⟩ := dt_rd I.hok e
    refine wpAny_in_heap (tupleKind_room_in1 hu) (key_of I.hok eb) hd dd ?_
    have q := (rel.val k).isSome_eq
    rw [Option.isSome_map] at q
    rw [← q, ← l]
    exact h _ (I.tok _)
theorem d_notIn {Q : Value → Shared → Prop} (hu : A.units + 1 < cLine) (I : Inv X pins σ H s) (g : DGet H a y o) (ry : RelV y u) (h : ∀ s', Inv X pins σ H s' → Q (.bool (!o.isSome)) s') :
    wpAny (model X.prog X.w) A (compareOp .NotIn u (.ref a)) Q E s := by
  rcases g with ⟨kvs, k, e, ey, l⟩ | ⟨kvs, k, b, e, ey, eb, l⟩
  · subst ey
    obtain ⟨z, hd, vs, rel, dd⟩ := dk_rd I.hok e
    refine wpAny_notIn_of (kV_is ry) hd dd.mapOf ?_
    rw [← (rel.val k).isSome_eq, ← l]
    exact h _ (I.tok _)
  · subst ey
    cases (show u = Value.ref b from ry)
    obtain ⟨z, hd, xs, rel, dd⟩ := dt_rd I.hok e
    refine wpAny_notIn_heap (tupleKind_room_in1 hu) (key_of I.hok eb) hd dd ?_
    have q := (rel.val k).isSome_eq
    rw [Option.isSome_map] at q
    rw [← q, ← l]
    exact h _ (I.tok _)
theorem d_write {h' : Heap} {t' : Nat} {ob : HO} (I : Inv X pins σ H s) (mu : Mut (H a)) (hs : Heap.SameBut a s.heap h') (he : ∃ q, h'.get? a = some q) (new : ObjOk X.prog X.w (upd H a ob) h' a ob) :
    Inv X pins σ (upd H a ob) { s with heap := h', toks := t' } :=
  I.write (x := a) (e := a) mu (.inl rfl) (fun b q hb z => (hs.2 b hb).trans z) he new
theorem dk_new {P : Program} {w : World} {H' : Hp} {h' : Heap} {kvs : List (Key × V)} {vs : List (Key × Value)} (z : kvs.length ≤ sizeLine) (hd : (a == sysModules) = false) (rel : KV kvs vs) (dd : h'.DictOf (mixKind P w) a vs) :
    ObjOk P w H' h' a (.dK kvs) := ⟨z, hd, vs, rel, dd⟩
theorem d_setItem {H' : Hp} {Q : Unit → Shared → Prop} (hu : A.units + 1 < cLine) (I : Inv X pins σ H s) (g : DPut H a y v H') (ry : RelV y u) (rv : RelV v r) (h : ∀ s', Inv X pins σ H' s' → Q () s') :
    wpAny (model X.prog X.w) A (setItem (.ref a) u r) Q E s := by
  rcases g with ⟨kvs, k, e, ey, l, eH⟩ | ⟨kvs, k, b, e, ey, eb, l, eH⟩
  · subst ey eH
    obtain ⟨z, hd, vs, rel, dd⟩ := dk_of I.hok e
    have hz : vs.length ≤ sizeLine := by rw [← rel.length]; exact z
    have hl : (putK kvs k v).length ≤ sizeLine := by have := length_putK kvs k v; lia
    refine wpAny_setItem_pairs (hsz := hz) (kV_is ry) dd fun h' dd' hs => h _ ?_
    have he : ∃ q, h'.get? a = some q := let ⟨q, _, _, hq, _⟩ := dd'; ⟨q, hq⟩
    exact d_write I (by rw [e]; exact True.intro) hs he (dk_new hl hd (rel.put k rv) dd')
  · subst ey eH
    cases (show u = Value.ref b from ry)
    obtain ⟨z, hd, xs, rel, dd⟩ := dt_of I.hok e
    have hz : xs.length ≤ sizeLine := by rw [← Paired.length rel]; exact z
    have hl : (putK kvs k v).length ≤ sizeLine := by have := length_putK kvs k v; lia
    refine wpAny_setItem_heap (hsz := hz) (tupleKind_room_in1 hu) (key_of I.hok eb) dd fun h' dd' hs => h _ ?_
    obtain ⟨q, es, ep, hq, h2, h3, h4, _, h5⟩ := dd'
    refine d_write I (by rw [e]; exact True.intro) hs ⟨q, hq⟩ ⟨hl, hd, _, (rel.put k eb rv).keeps fun c ys ec => ?_, q, es, ep, hq, h2, h3, h4, h5⟩
    rw [upd_ne (ne_of ec e (fun z => nomatch z))]
    exact ec
end
section
variable {X : Cx} {pins : List (Addr × Obj)} {σ : St} {H : Hp} {s : Shared} {a : Addr} {kvs : List (Key × V)} {k : Key} {u : Value} {A : Around} {E : Value → Shared → Prop}
end
def NoSl (i : Expr) : Prop := ∀ ov iv, subscripted i false ov iv = operate [ov, iv] (getItem ov iv)
theorem subD_of {prog : Program} {w : World} {A : Around} {E : Value → Shared → Prop} {s : Shared} {env : Env} {value slice : Expr} {pos : Pos} {T id : String} {Q : Value → Shared → Prop}
    (hl : typeLookup (.type T) "__getitem__" = pure (some (.builtin id))) (hs : NoSl slice)
    (h : wpAny (model prog w) A (eval value env) (fun o s₁ => wpAny (model prog w) A (eval slice env) (fun i s₂ => s₂.TypeIs o T ∧ wpAny (model prog w) A (getItem o i) Q E s₂) E s₁) E s) :
    wpAny (model prog w) A (eval (.Subscript value slice pos) env) Q E s := by
  refine Subscript_ (wpAny_mono h (fun o s₁ h₁ => wpAny_mono h₁ (fun i s₂ h₂ => ?_) fun _ _ x => x) fun _ _ x => x)
  obtain ⟨hT, h₂⟩ := h₂
  unfold subscriptTail
  refine wpAny_bind ?_
  rw [getitemInPython_of_ne hT.not_modules]
  refine wpAny_bind (wpAny_specialOf hT hl ?_)
  have fin : wpAny (model prog w) A (subscripted slice false o i) (fun r s₃ => wpAny (model prog w) A (letTemporaryGo value o r >>= fun _ => pure r) Q E s₃) E s₂ := by
    rw [hs o i]
    exact wpAny_operating (wpAny_mono h₂ (fun r s₃ h₃ => wpAny_bind (wpAny_letTemporaryGo (wpAny_pure h₃))) fun _ _ x => x)
  first
    | exact wpAny_pure (wpAny_bind fin)
    | exact wpAny_bind (wpAny_pure (wpAny_bind fin))
    | exact wpAny_bind fin
theorem dict_typeIs {X : Cx} {pins : List (Addr × Obj)} {σ : St} {H : Hp} {s : Shared} {a : Addr} {y : V} {o : Option V} (I : Inv X pins σ H s) (g : DGet H a y o) : s.TypeIs (.ref a) "dict" := by
  rcases g with ⟨kvs, k, e, _, _⟩ | ⟨kvs, k, b, e, _, _, _⟩
  · obtain ⟨_, _, vs, _, dd⟩ := dk_rd I.hok e
    exact dd.typeIs
  · obtain ⟨_, _, xs, _, dd⟩ := dt_rd I.hok e
    exact dd.typeIs
def tDGet (td ty : TE) : TE := fun σ H Q => td σ H fun x H1 => ty σ H1 fun y H2 => ∃ a v, x = .ref a ∧ DGet H2 a y (some v) ∧ Q v H2
def tDIn (ty td : TE) : TE := fun σ H Q => ty σ H fun y H1 => td σ H1 fun x H2 => ∃ a o, x = .ref a ∧ DGet H2 a y o ∧ Q (.bl o.isSome) H2
def tDNotIn (ty td : TE) : TE := fun σ H Q => ty σ H fun y H1 => td σ H1 fun x H2 => ∃ a o, x = .ref a ∧ DGet H2 a y o ∧ Q (.bl (!o.isSome)) H2
def sDPut (td ty tv : TE) : TS := fun D σ H => tv σ H fun v H1 => td σ H1 fun x H2 => ty σ H2 fun y H3 => ∃ a H4, x = .ref a ∧ DPut H3 a y v H4 ∧ D.nx σ H4
section
variable {X : Cx} {o i e value : Expr} {pos pos' tpos : Pos} {td ty tv : TE}
theorem pe_dget (hu : X.A.units + 1 < cLine) (ho : PE X o td) (hi : PE X i ty) (hs : NoSl i) : PE X (.Subscript o i pos) (tDGet td ty) := by
  intro pins s σ H Q I h
  refine subD_of PySem.F.slot_dict_getitem.lookup hs (thn (ho pins s σ H _ I h) fun u s1 ⟨x, H1, I1, rx, q1⟩ => thn (hi pins s1 σ H1 _ I1 q1) fun iv s2 ⟨y, H2, I2, ry, a, v, ex, g, q2⟩ => ?_)
  subst ex
  obtain rfl : u = Value.ref a := rx
  exact ⟨dict_typeIs I2 g, d_getItem hu I2 g ry fun w' s3 I3 rw' => ⟨v, H2, I3, rw', q2⟩⟩
theorem pc_din (hu : X.A.units + 1 < cLine) (hi : PE X i ty) (ho : PE X o td) : PC X .In i o (tDIn ty td) := by
  intro pins s σ H Q I h
  refine thn (hi pins s σ H _ I h) fun iv s1 ⟨y, H1, I1, ry, q1⟩ => thn (ho pins s1 σ H1 _ I1 q1) fun u s2 ⟨x, H2, I2, rx, a, ov, ex, g, q2⟩ => ?_
  subst ex
  obtain rfl : u = Value.ref a := rx
  exact d_in hu I2 g ry fun s3 I3 => ⟨.bl ov.isSome, H2, I3, rfl, q2⟩
theorem pc_dnotin (hu : X.A.units + 1 < cLine) (hi : PE X i ty) (ho : PE X o td) : PC X .NotIn i o (tDNotIn ty td) := by
  intro pins s σ H Q I h
  refine thn (hi pins s σ H _ I h) fun iv s1 ⟨y, H1, I1, ry, q1⟩ => thn (ho pins s1 σ H1 _ I1 q1) fun u s2 ⟨x, H2, I2, rx, a, ov, ex, g, q2⟩ => ?_
  subst ex
  obtain rfl : u = Value.ref a := rx
  exact d_notIn hu I2 g ry fun s3 I3 => ⟨.bl (!ov.isSome), H2, I3, rfl, q2⟩
theorem ps_dput (hu : X.A.units + 1 < cLine) (ho : PE X o td) (hi : PE X i ty) (hv : PE X value tv) (hs : swapsWith value (some (.Subscript o i pos')) pos.line X.env = pure false) :
    PS X (.Assign [.Subscript o i pos'] value pos) (sDPut td ty tv) := by
  intro pins s σ H D I h
  refine wpAny_Assign_Subscript (thn (hv pins s σ H _ I h) fun r s1 ⟨v, H1, I1, rv, q1⟩ => thn (ho pins s1 σ H1 _ I1 q1) fun u s2 ⟨x, H2, I2, rx, q2⟩ => thn (hi pins s2 σ H2 _ I2 q2) fun iv s3 ⟨y, H3, I3, ry, a, H4, ex, g, q3⟩ => ?_) hs
  subst ex
  obtain rfl : u = Value.ref a := rx
  exact d_setItem hu I3 g ry rv fun s4 I4 => ⟨σ, H4, I4, q3⟩
end
theorem dk_empty {P : Program} {w : World} {H : Hp} (h : Heap) (hb : sysModules < h.objs.size) : ObjOk P w H (h.push { cls := .type "dict", data := .dict #[] }) h.objs.size (.dK []) :=
  ⟨Nat.zero_le _, beq_eq_false_iff_ne.mpr (Ne.symm (Nat.ne_of_lt hb)), [], .nil, Heap.DictOf.new h⟩
def tDNewK : TE := fun _ H Q => ∀ p, H p = none → Q (.ref p) (upd H p (.dK []))
section
variable {X : Cx} {pos : Pos}
theorem pe_dnewK : PE X (.Dict [] [] pos) tDNewK := fun pins s σ H Q I h =>
  wpAny_Dict_empty ⟨.ref s.heap.objs.size, _, I.laid (a := s.heap.objs.size) (o := .dK []) (t' := s.toks) (fun _ _ q => Heap.get?_push_of_some _ q) (Nat.le_refl _) (dk_empty s.heap I.big), rfl, h _ (I.hok.fresh (Nat.le_refl _))⟩
end
def tPairs : List (TE × TE) → St → Hp → (List (V × V) → Hp → Prop) → Prop
  | [], _, H, Q => Q [] H
  | (tk, tv) :: r, σ, H, Q => tk σ H fun x H1 => tv σ H1 fun y H2 => tPairs r σ H2 fun ps H3 => Q ((x, y) :: ps) H3
abbrev VV : List (V × V) → List (Value × Value) → Prop := Paired fun p q => RelV p.1 q.1 ∧ RelV p.2 q.2
def PPs (X : Cx) (pos : Pos) (keys : List (Option Expr)) (values : List Expr) (trs : List (TE × TE)) : Prop :=
  ∀ (pins : List (Addr × Obj)) (s : Shared) (σ : St) (H : Hp) (Q : List (V × V) → Hp → Prop), Inv X pins σ H s → tPairs trs σ H Q →
    wpAny (model X.prog X.w) X.A (evalPairs (pairTrees keys values X.env pos)) (fun vs s' => ∃ ps H', Inv X pins σ H' s' ∧ VV ps vs ∧ Q ps H') X.xe s
theorem pps_nil {X : Cx} {pos : Pos} : PPs X pos [] [] [] := fun pins s σ H Q I h => pairTrees_nil_walk ⟨[], H, I, .nil, h⟩
theorem pps_cons {X : Cx} {pos : Pos} {k v : Expr} {ks : List (Option Expr)} {vs : List Expr} {tk tv : TE} {trs : List (TE × TE)} (hk : PE X k tk) (hv : PE X v tv) (hr : PPs X pos ks vs trs) :
    PPs X pos (some k :: ks) (v :: vs) ((tk, tv) :: trs) := fun pins s σ H Q I h =>
  pairTrees_cons_walk (thn (hk pins s σ H _ I h) fun u s1 ⟨x, H1, I1, rx, q1⟩ => thn (hv pins s1 σ H1 _ I1 q1) fun w2 s2 ⟨y, H2, I2, ry, q2⟩ =>
    thn (hr pins s2 σ H2 _ I2 q2) fun ws s3 ⟨ps, H3, I3, rel, q3⟩ => ⟨(x, y) :: ps, H3, I3, .cons ⟨rx, ry⟩ rel, q3⟩)
def mergeK (kvs more : List (Key × V)) : List (Key × V) := more.foldl (fun acc kv => putK acc kv.1 kv.2) kvs
theorem KV.merge : ∀ {more : List (Key × V)} {rs : List (Key × Value)} {kvs : List (Key × V)} {vs : List (Key × Value)}, KV more rs → KV kvs vs → KV (mergeK kvs more) (merged vs rs) := by
  intro more rs kvs vs r
  unfold KV at r
  induction r generalizing kvs vs with
  | nil => intro q; exact q
  | @cons p q ps qs h t ih =>
    intro r0
    have e : KV (putK kvs p.1 p.2) (stored vs q.1 q.2) := by
      have := r0.put p.1 h.2
      rw [← h.1]; exact this
    exact ih e
theorem length_mergeK : ∀ (more kvs : List (Key × V)), (mergeK kvs more).length ≤ kvs.length + more.length
  | [], kvs => by show kvs.length ≤ kvs.length + 0; lia
  | p :: r, kvs => by
    have h1 := length_mergeK r (putK kvs p.1 p.2)
    have h2 := length_putK kvs p.1 p.2
    show (mergeK (putK kvs p.1 p.2) r).length ≤ _
    rw [List.length_cons]; lia
theorem carries_of {P : Program} {w : World} : ∀ {kvs : List (Key × V)} {ws : List (Value × Value)}, VV (kvs.map fun kv => (kV kv.1, kv.2)) ws → ∃ rs, Carries (mixKind P w) ws rs ∧ KV kvs rs
  | [], _, r => by rw [List.map_nil] at r; cases r; exact ⟨[], True.intro, .nil⟩
  | p :: kvs, _, r => by
    rw [List.map_cons] at r
    cases r with
    | @cons a b as bs h t =>
      obtain ⟨rs, c, q⟩ := carries_of (P := P) (w := w) t
      obtain ⟨b1, b2⟩ := b
      exact ⟨(p.1, b2) :: rs, ⟨kV_is h.1, rfl, c⟩, .cons ⟨rfl, h.2⟩ q⟩
def tDisp (trs : List (TE × TE)) : TE := fun σ H Q => ∀ p, H p = none → tPairs trs σ (upd H p (.dK [])) fun ps H2 => H2 p = some (.dK []) ∧ ∃ kvs : List (Key × V), ps = kvs.map (fun kv => (kV kv.1, kv.2)) ∧ kvs.length ≤ 15 ∧ Q (.ref p) (upd H2 p (.dK (mergeK [] kvs)))
theorem pe_disp {X : Cx} {pos : Pos} {keys : List (Option Expr)} {values : List Expr} {trs : List (TE × TE)} (h : PPs X pos keys values trs) (hall : keys.all (·.isSome) = true) (hl : keys.length = values.length) (h0 : keys ≠ [])
    (h15 : keys.length ≤ 15) : PE X (.Dict keys values pos) (tDisp trs) := by
  intro pins s σ H Q I q
  have hn := I.hok.fresh (Nat.le_refl s.heap.objs.size)
  have I1 := I.laid (a := s.heap.objs.size) (o := .dK []) (h' := s.heap.push { cls := .type "dict", data := .dict #[] }) (t' := s.toks) (fun _ _ q => Heap.get?_push_of_some _ q) (Nat.le_refl _) (dk_empty s.heap I.big)
  refine wpAny_Dict_walk (knd := mixKind X.prog X.w) hall hl h0 h15 (thn (h pins _ σ _ _ I1 (q _ hn)) fun ws s2 ⟨ps, H2, I2, rel, e, kvs, ep, lk, q2⟩ => ?_)
  subst ep
  obtain ⟨rs, c, rk⟩ := carries_of (P := X.prog) (w := X.w) rel
  obtain ⟨z, hd, vs0, r0, dd⟩ := dk_of I2.hok e
  cases r0
  refine ⟨rs, c, dd, fun h' dd' hs => ⟨.ref s.heap.objs.size, _, ?_, rfl, q2⟩⟩
  have hz : (mergeK [] kvs).length ≤ sizeLine := by
    have h1 := length_mergeK kvs []
    rw [List.length_nil] at h1
    rw [sizeLine_eq]; lia
  have he : ∃ q, h'.get? s.heap.objs.size = some q := let ⟨q, _, _, hq, _⟩ := dd'; ⟨q, hq⟩
  exact d_write I2 (by rw [e]; exact True.intro) hs he (dk_new hz hd (rk.merge .nil) dd')
section
variable {X : Cx} {pins : List (Addr × Obj)} {σ : St} {H : Hp} {s : Shared} {a : Addr} {y d : V} {u r : Value} {o : Option V} {A : Around} {E : Value → Shared → Prop}
end
section
variable {X : Cx} {o e f : Expr} {apos cpos : Pos} {td ty tx : TE}
end
section
variable {X : Cx} {pins : List (Addr × Obj)} {σ : St} {H : Hp} {s : Shared} {a : Addr} {kvs : List (Key × V)} {A : Around} {E : Value → Shared → Prop}
end
section
variable {X : Cx} {pins : List (Addr × Obj)} {σ : St} {H : Hp} {s : Shared} {a : Addr} {y : V} {u : Value} {A : Around} {E : Value → Shared → Prop}
end
end L2
namespace L2
open PySem PySem.Spec PyProof.Rows
section
variable {X : Cx}
end
section
variable {κ : Type} [DecidableEq κ]
end
end L2
namespace K
open PySem L2 TX
def FIs : Str := Str.ofString "0123456789"
def LEs : Str := Str.ofString "abcdefghijklmnopqrstuvwxyzABCDEFGHIJKLMNOPQRSTUVWXYZ"
abbrev FI : List Nat := tl FIs
abbrev LE : List Nat := tl LEs
def allOf (t s : List Nat) : Bool := decide (t ≠ []) && t.all fun c => decide (c ∈ s)
def gapTakes (c : Nat) (t : List Nat) : Bool := if c = 63 then decide (t.length = 1) else if c = 35 then allOf t FI else if c = 64 then allOf t LE else true
def Pt.takes : Pt → List Nat → Bool
  | .tx l, t => decide (t = l)
  | .gp c, t => gapTakes c t
def cut (n : List Nat) (b e : Nat) : List Nat := (n.drop b).take (e - b)
def farTo (p : Pt) (n : List Nat) (L : Nat → Bool) (b k : Nat) : Option Nat := ((List.range' b k).filter fun e => L e && p.takes (cut n b e)).getLast?
def far (p : Pt) (n : List Nat) (L : Nat → Bool) (b : Nat) : Option Nat := if b ≤ n.length then farTo p n L b (n.length + 1 - b) else none
def fits (n : List Nat) : List Pt → Nat → Bool
  | [], b => decide (b = n.length)
  | p :: ps, b => (far p n (fits n ps) b).isSome
def rd (n : List Nat) : List Pt → Nat → List (List Nat)
  | [], _ => []
  | p :: ps, b => (if p.isG then [cut n b ((far p n (fits n ps) b).getD 0)] else []) ++ rd n ps ((far p n (fits n ps) b).getD 0)
theorem farTo_succ (p : Pt) (n : List Nat) (L : Nat → Bool) (b k : Nat) : farTo p n L b (k + 1) = if (L (b + k) && p.takes (cut n b (b + k))) = true then some (b + k) else farTo p n L b k := by
  unfold farTo
  rw [List.range'_concat, List.filter_append]
  by_cases h : (L (b + k) && p.takes (cut n b (b + k))) = true
  · rw [if_pos h, List.filter_cons_of_pos (by simpa using h)]
    simp
  · rw [if_neg h, List.filter_cons_of_neg (by simpa using h)]
    simp
theorem farTo_zero (p : Pt) (n : List Nat) (L : Nat → Bool) (b : Nat) : farTo p n L b 0 = none := rfl
theorem farTo_some : ∀ {k : Nat} {p : Pt} {n : List Nat} {L : Nat → Bool} {b e : Nat}, farTo p n L b k = some e → b ≤ e ∧ e < b + k ∧ L e = true ∧ p.takes (cut n b e) = true ∧ ∀ e', e < e' → e' < b + k → (L e' && p.takes (cut n b e')) = false
  | 0, p, n, L, b, e, h => by rw [farTo_zero] at h; cases h
  | k + 1, p, n, L, b, e, h => by
    rw [farTo_succ] at h
    by_cases c : (L (b + k) && p.takes (cut n b (b + k))) = true
    · rw [if_pos c] at h
      cases h
      rw [Bool.and_eq_true] at c
      exact ⟨by lia, by lia, c.1, c.2, fun e' h1 h2 => absurd h2 (by lia)⟩
    · rw [if_neg c] at h
      obtain ⟨a1, a2, a3, a4, a5⟩ := farTo_some h
      refine ⟨a1, by lia, a3, a4, fun e' h1 h2 => ?_⟩
      by_cases z : e' = b + k
      · subst z; simpa using c
      · exact a5 e' h1 (by lia)
theorem far_some {p : Pt} {n : List Nat} {L : Nat → Bool} {b e : Nat} (h : far p n L b = some e) : b ≤ e ∧ e ≤ n.length ∧ L e = true ∧ p.takes (cut n b e) = true ∧ ∀ e', e < e' → e' ≤ n.length → (L e' && p.takes (cut n b e')) = false := by
  unfold far at h
  by_cases hb : b ≤ n.length
  · rw [if_pos hb] at h
    obtain ⟨a1, a2, a3, a4, a5⟩ := farTo_some h
    exact ⟨a1, by lia, a3, a4, fun e' h1 h2 => a5 e' h1 (by lia)⟩
  · rw [if_neg hb] at h; cases h
theorem parse_ok : ∀ (l cur : List Nat), (∀ c ∈ cur, c ∈ NS) → (∀ c ∈ l, c ∈ GS ∨ c ∈ NS) → ∀ p ∈ parse cur l, p.ok
  | [], cur, h1, _ => fun p hp => by
    have hp' : p ∈ tp cur := hp
    unfold tp at hp'
    split at hp'
    · cases hp'
    · rename_i hne; rw [List.mem_singleton.mp hp']; exact ⟨hne, h1⟩
  | c :: r, cur, h1, h2 => fun p hp => by
    have e : parse cur (c :: r) = if c ∈ GS then tp cur ++ .gp c :: parse [] r else parse (cur ++ [c]) r := rfl
    rw [e] at hp
    have h3 : ∀ d ∈ r, d ∈ GS ∨ d ∈ NS := fun d hd => h2 d (List.mem_cons_of_mem _ hd)
    split at hp
    · rename_i hc
      rcases List.mem_append.mp hp with z | z
      · unfold tp at z
        split at z
        · cases z
        · rename_i hne; rw [List.mem_singleton.mp z]; exact ⟨hne, h1⟩
      · rcases List.mem_cons.mp z with rfl | z
        · exact hc
        · exact parse_ok r [] (fun _ h => nomatch h) h3 p z
    · rename_i hc
      refine parse_ok r (cur ++ [c]) (fun d hd => ?_) h3 p hp
      rcases List.mem_append.mp hd with z | z
      · exact h1 d z
      · rw [List.mem_singleton.mp z]; exact (h2 c List.mem_cons_self).resolve_left hc
theorem prs_ne : ∀ (l cur : List Nat), (cur ≠ [] ∨ l ≠ []) → parse cur l ≠ []
  | [], cur, h => by
    have h1 : cur ≠ [] := h.resolve_right (fun z => z rfl)
    show tp cur ≠ []
    unfold tp; rw [if_neg h1]; simp
  | c :: r, cur, h => by
    have e : parse cur (c :: r) = if c ∈ GS then tp cur ++ .gp c :: parse [] r else parse (cur ++ [c]) r := rfl
    rw [e]
    split
    · simp
    · exact prs_ne r _ (.inl (by simp))
theorem prs_len : ∀ (l cur : List Nat), (parse cur l).length ≤ 2 * l.length + 1
  | [], cur => by show (tp cur).length ≤ _; unfold tp; split <;> simp
  | c :: r, cur => by
    have e : parse cur (c :: r) = if c ∈ GS then tp cur ++ .gp c :: parse [] r else parse (cur ++ [c]) r := rfl
    rw [e]
    have h0 : (tp cur).length ≤ 1 := by unfold tp; split <;> simp
    split
    · have := prs_len r []
      rw [List.length_append, List.length_cons, List.length_cons]; lia
    · have := prs_len r (cur ++ [c])
      rw [List.length_cons]; lia
structure DF (H : Hp) (a : Addr) (f : Nat → Option Nat) : Prop where
  ex : ∃ kvs : List (Key × V), H a = some (.dK kvs) ∧ kvs.length ≤ 5000 ∧ ∀ b : Nat, valV kvs (Sum.inl (b : Int)) = (f b).map fun e => V.int (e : Nat)
theorem DF.same {H H' : Hp} {a : Addr} {f : Nat → Option Nat} (h : DF H a f) (sm : Same H H') : DF H' a f := let ⟨kvs, h1, h2, h3⟩ := h.ex; ⟨kvs, sm _ _ h1, h2, h3⟩
theorem DF.get {H : Hp} {a : Addr} {f : Nat → Option Nat} (h : DF H a f) (b : Nat) : DGet H a (.int (b : Int)) ((f b).map fun e => V.int (e : Nat)) := by
  obtain ⟨kvs, h1, h2, h3⟩ := h.ex
  have := DGet.k (k := Sum.inl (b : Int)) h1
  rw [h3] at this
  exact this
theorem DF.new {H : Hp} {a b : Addr} {o : HO} {f : Nat → Option Nat} (h : DF H a f) (hb : H b = none) : DF (upd H b o) a f := h.same ((Same.refl H).new hb)
theorem key_inj {i j : Nat} : ((Sum.inl (i : Int) : Key) = Sum.inl (j : Int)) ↔ i = j := ⟨fun h => by injection h with h; lia, fun h => by rw [h]⟩
inductive DS (H : Hp) (n : List Nat) : List Addr → List Pt → Prop
  | nil : DS H n [] []
  | cons {d : Addr} {p : Pt} {ds : List Addr} {ps : List Pt} : DF H d (far p n (fits n ps)) → DS H n ds ps → DS H n (d :: ds) (p :: ps)
theorem DS.same {H H' : Hp} {n : List Nat} {ds : List Addr} {ps : List Pt} (h : DS H n ds ps) (sm : Same H H') : DS H' n ds ps := by
  induction h with
  | nil => exact .nil
  | cons a _ ih => exact .cons (a.same sm) ih
theorem DS.keepL {H H' : Hp} {n : List Nat} {ds : List Addr} {ps : List Pt} (h : DS H n ds ps) (k : ∀ b kvs, H b = some (.dK kvs) → H' b = some (.dK kvs)) : DS H' n ds ps := by
  induction h with
  | nil => exact .nil
  | cons a _ ih => obtain ⟨kvs, a1, a2, a3⟩ := a.ex; exact .cons ⟨kvs, k _ _ a1, a2, a3⟩ ih
theorem DS.len {H : Hp} {n : List Nat} {ds : List Addr} {ps : List Pt} (h : DS H n ds ps) : ds.length = ps.length := by
  induction h with
  | nil => rfl
  | cons _ _ ih => simp [ih]
theorem DS.get {H : Hp} {n : List Nat} {ds : List Addr} {ps : List Pt} (h : DS H n ds ps) : ∀ {i : Nat} {d : Addr}, ds[i]? = some d → ∃ p, ps[i]? = some p ∧ DF H d (far p n (fits n (ps.drop (i + 1)))) := by
  induction h with
  | nil => intro i d h; simp at h
  | @cons d0 p ds ps a _ ih =>
    intro i d h
    cases i with
    | zero => simp at h; subst h; exact ⟨p, rfl, by simpa using a⟩
    | succ i =>
      obtain ⟨q, h1, h2⟩ := ih (by simpa using h)
      exact ⟨q, by simpa using h1, by simpa using h2⟩
theorem df_put {kvs : List (Key × V)} {b e : Nat} {f : Nat → Option Nat} (h : ∀ c : Nat, valV kvs (Sum.inl (c : Int)) = (f c).map fun e => V.int (e : Nat)) (c : Nat) :
    valV (putK kvs (Sum.inl (b : Int)) (.int (e : Int))) (Sum.inl (c : Int)) = ((fun c => if c = b then some e else f c) c).map fun e => V.int (e : Nat) := by
  rw [valV_put]
  by_cases z : c = b
  · subst z; rw [if_pos rfl]; show _ = Option.map _ (if c = c then _ else _); rw [if_pos rfl]; rfl
  · rw [if_neg (fun h => z (key_inj.mp h)), h]; show _ = Option.map _ (if c = b then _ else _); rw [if_neg z]
abbrev vN (ns : List (List Nat)) : List V := ns.map fun n => V.str (mk n)
theorem mk_len (l : List Nat) : (mk l).length = l.length := by rw [len, tl_mk]
theorem mk_inj {a b : List Nat} : mk a = mk b ↔ a = b := ⟨fun h => by have := congrArg tl h; rwa [tl_mk, tl_mk] at this, fun h => by rw [h]⟩
theorem dec_str (a b : List Nat) : decide (V.str (mk a) = V.str (mk b)) = decide (a = b) := decide_eq_decide.mpr ⟨fun h => by injection h with h; exact mk_inj.mp h, fun h => by rw [h]⟩
theorem drop_get {α : Type} {l : List α} {i : Nat} {x : α} (h : l[i]? = some x) : l.drop i = x :: l.drop (i + 1) := by
  have hi : i < l.length := (List.getElem?_eq_some_iff.mp h).1
  rw [List.drop_eq_getElem_cons hi]
  congr 1
  exact (List.getElem?_eq_some_iff.mp h).2
end K
namespace L2
open PySem PySem.Spec PyProof.Rows
section
variable {X : Cx}
end
end L2
namespace PySem.Rv
open Sem (wp)
namespace F
theorem mro_reversed : mroOf (.type "reversed") = pure [.type "reversed", .type "object"] := by rw [mroOf_type]; kernel_rfl
theorem lookup_reversed_new : typeLookup (.type "reversed") "__new__" = pure (some (.builtin "reversed.__new__")) := by rw [typeLookup_type, builtinLookup_eq_fast]; kernel_rfl
theorem slot_reversed_init : Slot "reversed" "__init__" "object.__init__" :=
  .of (owner := "object") (n := "__init__") (by rw [typeLookup_type, builtinLookup_eq_fast]; kernel_rfl) (by decide +kernel) (by decide +kernel) (by decide +kernel)
    (by first | exact .inl (by rw [find?_eq_fast]; kernel_rfl) | exact .inr (by rw [find?_eq_fast]; kernel_rfl)) (by rw [isSubtype_type]; kernel_rfl)
theorem called_reversed : TypeCalled "reversed" "reversed.__new__" "object.__init__" :=
  ⟨by decide +kernel, by decide +kernel, ⟨_, _, mro_reversed⟩, madeBy_type mro_reversed lookup_reversed_new (by decide +kernel), by decide +kernel, by rw [isSubtype_type]; kernel_rfl, slot_reversed_init⟩
theorem typeCall_reversed_1 (a : Value) : checkTypeCall "reversed" ⟨[a], []⟩ = pure () := by kernel_rfl
theorem newCall_reversed_1 (a : Value) : checkBuiltinCall "reversed.__new__" ⟨[.type "reversed", a], []⟩ = pure () := by kernel_rfl
theorem entry_reversed_new : entryFor table "reversed.__new__" = some Builtin.«reversed.__new__» := entryFor_of_tree (by kernel_rfl)
theorem slot_lrev_next : Slot "list_reverseiterator" "__next__" "list_reverseiterator.__next__" :=
  .of (owner := "list_reverseiterator") (n := "__next__") (by rw [typeLookup_type, builtinLookup_eq_fast]; kernel_rfl) (by decide +kernel) (by decide +kernel) (by decide +kernel)
    (by first | exact .inl (by rw [find?_eq_fast]; kernel_rfl) | exact .inr (by rw [find?_eq_fast]; kernel_rfl)) (by rw [isSubtype_type]; kernel_rfl)
theorem entry_lrev_next : entryFor table "list_reverseiterator.__next__" = some Builtin.«list_reverseiterator.__next__» := entryFor_of_tree (by kernel_rfl)
theorem slot_lrev_iter : Slot "list_reverseiterator" "__iter__" "list_reverseiterator.__iter__" :=
  .of (owner := "list_reverseiterator") (n := "__iter__") (by rw [typeLookup_type, builtinLookup_eq_fast]; kernel_rfl) (by decide +kernel) (by decide +kernel) (by decide +kernel)
    (by first | exact .inl (by rw [find?_eq_fast]; kernel_rfl) | exact .inr (by rw [find?_eq_fast]; kernel_rfl)) (by rw [isSubtype_type]; kernel_rfl)
theorem entry_lrev_iter : entryFor table "list_reverseiterator.__iter__" = some Builtin.«dict_keyiterator.__iter__» :=
  entryFor_alias (id' := "dict_keyiterator.__iter__") (by kernel_rfl) (by first | rfl | decide +kernel | (unfold String.splitOn; simp +decide [String.splitOnAux])) (by decide +kernel) (by kernel_rfl)
theorem owner_lrev : Manifest.owners.lookup (String.ofList ['r', 'o', 't', 'a', 'r', 'e', 't', 'i', 'e', 's', 'r', 'e', 'v', 'e', 'r', '_', 't', 's', 'i', 'l'].reverse) = some Manifest.sig_list_reverseiterator := by kernel_rfl
theorem args_lrev_next_1 (a : Value) : argsOk "list_reverseiterator.__next__" ⟨[a], []⟩ := by
  unfold argsOk; rw [signature?_of (id := "list_reverseiterator.__next__") (n := ['_', '_', 't', 'x', 'e', 'n', '_', '_']) (o := ['r', 'o', 't', 'a', 'r', 'e', 't', 'i', 'e', 's', 'r', 'e', 'v', 'e', 'r', '_', 't', 's', 'i', 'l']) (by kernel_rfl) owner_lrev]; kernel_rfl
theorem args_lrev_iter_1 (a : Value) : argsOk "list_reverseiterator.__iter__" ⟨[a], []⟩ := by
  unfold argsOk; rw [signature?_of (id := "list_reverseiterator.__iter__") (n := ['_', '_', 'r', 'e', 't', 'i', '_', '_']) (o := ['r', 'o', 't', 'a', 'r', 'e', 't', 'i', 'e', 's', 'r', 'e', 'v', 'e', 'r', '_', 't', 's', 'i', 'l']) (by kernel_rfl) owner_lrev]; kernel_rfl
theorem sub_reversed : isSubtype (.type "reversed") (.type "reversed") = pure true := by rw [isSubtype_type]; kernel_rfl
theorem sub_lrev : isSubtype (.type "list_reverseiterator") (.type "reversed") = pure false := by rw [isSubtype_type]; kernel_rfl
end F
end PySem.Rv
namespace PySem.Rv
open Sem (wp)
def IsRevIter (h : Heap) (it l : Addr) (k : Int) : Prop := ∃ o, h.get? it = some o ∧ o.cls = .type "list_reverseiterator" ∧ o.data = .fields #[.ref l, .int k 0]
section
variable {prog : Program} {w : World} {A : Around} {E : Value → Shared → Prop} {s : Shared}
theorem wpAny_pyNext_rev_item {it l : Addr} {k : Nat} {items} {x : Value} {Q : Option Value → Shared → Prop} (hit : IsRevIter s.heap it l k) (hl : s.heap.IsList l items) (hx : items[k]? = some x)
    (hQ : ∀ h', IsRevIter h' it l ((k : Int) - 1) → Heap.SameBut it s.heap h' → Q (some x) { s with heap := h' }) : wpAny (model prog w) A (pyNext (.ref it)) Q E s := by
  obtain ⟨o, ho, hc, hd⟩ := id hit
  obtain ⟨ol, hol, _, nl, hdl⟩ := hl
  have hT : s.TypeIs (.ref it) "list_reverseiterator" := ⟨o, ho, hc⟩
  unfold pyNext
  refine wpAny_bind (wpAny_attempt (wpAny_callSpecial?_slot (name := Str.ofString "__next__") hT F.slot_lrev_next
    (wpAny_call_entry F.slot_lrev_next hT F.entry_lrev_next ?_ (F.args_lrev_next_1 _))))
  show wpAny _ _ (field (.ref it) 1 >>= _) _ _ s
  refine wpAny_bind (wpAny_field ho hd (x := .int k 0) rfl ?_)
  show wpAny _ _ (if ((k : Int) < 0) then _ else _) _ _ s
  rw [if_neg (by lia)]
  show wpAny _ _ (field (.ref it) 0 >>= _) _ _ s
  refine wpAny_bind (wpAny_field ho hd (x := .ref l) rfl ?_)
  show wpAny _ _ (seqItems? (.ref l) >>= _) _ _ s
  refine wpAny_bind (wpAny_seqItems hol hdl ?_)
  simp only [Int.toNat_natCast, hx]
  refine wpAny_bind (wpAny_setField ho hd (by simp) (wpAny_pure ⟨x, rfl, wpAny_pure (hQ _ ?_ (Heap.SameBut.update ..))⟩))
  exact ⟨_, Heap.get?_update_self _ ho (Obj.isFreed_of_fields (Obj.data_mapFields hd _)), (Obj.cls_mapFields ..).trans hc, by
    rw [Obj.data_mapFields hd]; simp [rawInt]⟩
theorem wpAny_pyNext_rev_end {it l : Addr} {k : Int} {Q : Option Value → Shared → Prop} (hh : A.handled = none) (hit : IsRevIter s.heap it l k) (hk : k < 0)
    (hQ : ∀ h', Heap.ExtBut it s.heap h' → Q none { s with heap := h' }) : wpAny (model prog w) A (pyNext (.ref it)) Q E s := by
  obtain ⟨o, ho, hc, hd⟩ := id hit
  have hT : s.TypeIs (.ref it) "list_reverseiterator" := ⟨o, ho, hc⟩
  unfold pyNext
  refine wpAny_bind (wpAny_attempt (wpAny_callSpecial?_slot (name := Str.ofString "__next__") hT F.slot_lrev_next
    (wpAny_call_entry F.slot_lrev_next hT F.entry_lrev_next ?_ (F.args_lrev_next_1 _))))
  show wpAny _ _ (field (.ref it) 1 >>= _) _ _ s
  refine wpAny_bind (wpAny_field ho hd (x := .int k 0) rfl ?_)
  show wpAny _ _ (if (k < 0) then _ else _) _ _ s
  rw [if_pos hk]
  refine wpAny_bind (wpAny_rule (wpAny_bind ?_))
  show wpAny _ _ (newExc (.type "StopIteration") [] >>= _) _ _ _
  refine wpAny_bind ?_
  simp only [newExc, newTuple]
  refine wpAny_bind (wpAny_newObj_type ?_ (by size_fits))
  refine wpAny_bind (m := firstArgMember _ _) (wpAny_of_eq (a := Value.none) (by first | rfl | (simp only [firstArgMember]; rfl)) ?_)
  refine wpAny_newObj_type ?_ (by size_fits)
  simp only [raiseNew]
  refine wpAny_bind (wpAny_handled ?_)
  rw [show A.in1.handled = none from hh]
  refine wpAny_bind (wpAny_pure (wpAny_throw ?_))
  refine wpAny_bind (wpAny_isInstance (T := "StopIteration") (b := true) ⟨_, Heap.get?_push_size _ rfl, rfl⟩ isSubtype_stop ?_)
  exact wpAny_pure (hQ _ (fun b o _ e => Heap.get?_push_of_some _ (Heap.get?_push_of_some _ e)))
theorem wpAny_pyIter_rev {it l : Addr} {k : Int} {Q : Value → Shared → Prop} (hit : IsRevIter s.heap it l k) (h : Q (.ref it) s) : wpAny (model prog w) A (pyIter (.ref it)) Q E s := by
  obtain ⟨o, ho, hc, hd⟩ := id hit
  have hT : s.TypeIs (.ref it) "list_reverseiterator" := ⟨o, ho, hc⟩
  refine wpAny_pyIter_slot hT F.slot_lrev_iter (wpAny_call_entry F.slot_lrev_iter hT F.entry_lrev_iter ?_ (F.args_lrev_iter_1 _))
  show wpAny _ _ (ret (.ref it)) _ _ s
  exact wpAny_pure ⟨_, rfl, "list_reverseiterator", _, hT, F.slot_lrev_next.lookup, h⟩
theorem meets_reversed_newL (l : Addr) (items : Array Value) (n : Nat) :
    Meets (Builtin.«reversed.__new__» ⟨[.type "reversed", .ref l], []⟩) (fun _ R s => s.heap.get? l = some { cls := .type "list", dict := none, data := .seq items n, slots := #[] } ∧
      R (.ok (.ret (.ref s.heap.objs.size))) { s with heap := s.heap.push { cls := .type "list_reverseiterator", data := .fields #[.ref l, rawInt (((items.size : Nat) : Int) - 1)] } }) :=
  .of_wp fun prog w A R s h => by
    obtain ⟨hp, g, d, tk, os⟩ := s; obtain ⟨hl, h⟩ := h
    have hT : Shared.TypeIs ⟨hp, g, d, tk, os⟩ (.ref l) "list" := ⟨_, hl, rfl⟩
    wp_walk
    refine wpAny_of_eq F.sub_reversed ?_
    wp_walk
    refine wpAny_of_eq F.slot_list_reversed.lookup ?_
    wp_walk
    refine wpAny_of_eq (F.slot_list_reversed.bind (Value.ref l)) ?_
    wp_walk
    have key : codeAny (model prog w) A.in1 (Code.call (.builtin "list.__reversed__") ⟨[.ref l], []⟩) (fun r s' => r = .ok (.ret (.ref hp.objs.size)) ∧ s' = (⟨hp.push { cls := .type "list_reverseiterator", data := .fields #[.ref l, rawInt (((items.size : Nat) : Int) - 1)] }, g, d, tk, os⟩ : Shared)) ⟨hp, g, d, tk, os⟩ :=
      codeAny_call_builtin F.slot_list_reversed.plain F.entry_list_reversed (F.slot_list_reversed.check _ _ _ _ _ _ _ _ hT (F.args_list_reversed_1 _) (AutoListH.list___reversed___list_0 l items n prog w A.in1 (fun r s' => r = .ok (.ret (.ref hp.objs.size)) ∧ s' = (⟨hp.push { cls := .type "list_reverseiterator", data := .fields #[.ref l, rawInt (((items.size : Nat) : Int) - 1)] }, g, d, tk, os⟩ : Shared)) ⟨hp, g, d, tk, os⟩ ⟨hl, rfl, rfl⟩))
    refine codeAny_mono key fun r s' hr => ?_
    obtain ⟨rfl, rfl⟩ := hr
    exact wpAny_pure ⟨_, rfl, h⟩
theorem callType_other {T newId U : String} {Bn : Builtin} {args : List Value} {S : Spec} {Q : Value → Shared → Prop} {initId : String} (ft : TypeCalled T newId initId) (hsubU : isSubtype (.type U) (.type T) = pure false)
    (hct : checkTypeCall T ⟨args, []⟩ = pure ()) (hcn : checkBuiltinCall newId ⟨.type T :: args, []⟩ = pure ()) (entryN : entryFor table newId = some Bn) (g : Meets (Bn ⟨.type T :: args, []⟩) S)
    (h : S A.in1 (wants (fun obj s₁ => s₁.TypeIs obj U ∧ Q obj s₁) E) s) : wpAny (model prog w) A (call (.type T) args) Q E s := by
  obtain ⟨c, tl, hmro⟩ := ft.mro
  have hmade := ft.made
  refine wpAny_call (codeAny_of_tree ?_)
  show wpAny _ _ (callAny (.type T) _) _ _ _
  refine wpAny_pure ⟨Code.quiet_builtin _ (by decide +kernel), codeAny_builtin F.entry_type_call ?_⟩
  rw [Around.under_plain (weight_type_call_type T args []) (units_type_call_type T args [])]
  have h1 := ft.notType
  have h2 := ft.canCreate
  repeat (any_goals (first | assumption | wp_step))
  refine codeAny_mono (codeAny_call_builtin ft.plain entryN (wpAny_of_eq hcn (g prog w A.in1 _ s h))) fun r s₁ hr => ?_
  cases r with
  | error e => exact hr
  | ok fl =>
    cases fl with
    | ret obj =>
      obtain ⟨hT, hq⟩ := hr
      repeat (any_goals (first | assumption | wp_step))
    | _ => exact hr.elim
theorem call_reversed_list {l : Addr} {items : Array Value} {n : Nat} {Q : Value → Shared → Prop} (hl : s.heap.get? l = some { cls := .type "list", dict := none, data := .seq items n, slots := #[] })
    (h : Q (.ref s.heap.objs.size) { s with heap := s.heap.push { cls := .type "list_reverseiterator", data := .fields #[.ref l, rawInt (((items.size : Nat) : Int) - 1)] } }) :
    wpAny (model prog w) A (call (.type "reversed") [.ref l]) Q E s :=
  callType_other F.called_reversed F.sub_lrev (F.typeCall_reversed_1 _) (F.newCall_reversed_1 _) F.entry_reversed_new (meets_reversed_newL l items n) ⟨hl, ⟨_, Heap.get?_push_size _ rfl, rfl⟩, h⟩
end
end PySem.Rv
namespace L2
open PySem PySem.Spec PyProof.Rows
def Itv (K : PySem.W.Frag) (a : Addr) (n : Nat) : It :=
  ⟨fun i H => ∃ xs x, SqL K H a xs ∧ xs.length = n ∧ xs.reverse[i]? = some x, fun i H x H' => H' = H ∧ ∀ xs, SqL K H a xs → xs.reverse[i]? = some x, fun i _ => n ≤ i⟩
theorem revIter_at {h h' : Heap} {it l : Addr} {k : Int} (x : PySem.Rv.IsRevIter h it l k) (e : ∀ o, h.get? it = some o → h'.get? it = some o) : PySem.Rv.IsRevIter h' it l k := let ⟨o, ho, r⟩ := x; ⟨o, e _ ho, r⟩
theorem turn_rev {P : Program} {w : World} {K : PySem.W.Frag} {tg : Expr} (a it : Addr) (n : Nat) : Turn P w K tg (Itv K a n) [it] it (fun i h => PySem.Rv.IsRevIter h it a ((n : Int) - 1 - i)) where
  mem := by simp
  obj := fun i h st b hb => by
    have e : b = it := by simpa using hb
    subst e
    obtain ⟨o, e, c, d⟩ := st
    exact ⟨o, e, fun v z => by rw [d] at z; cases z⟩
  keep := fun i h h' st k => revIter_at st fun o e => k it (by simp) o e
  item := by
    intro X hP hw hK hc i pins s σ H E I hf st hg
    subst hP hw hK
    obtain ⟨xs, x, hq, hn, hx⟩ := hg
    obtain ⟨its, rv, p, hz⟩ := I.list hq
    have hi : i < xs.length := by have := (List.getElem?_eq_some_iff.mp hx).1; simpa using this
    have hx' : xs[xs.length - 1 - i]? = some x := by rwa [List.getElem?_reverse hi] at hx
    obtain ⟨u, hu, ru⟩ := rv.get hx'
    obtain ⟨f0, f1, f2, f3, f4, f5⟩ := hf it (by simp)
    have est : ((n : Int) - 1 - (i : Int)) = ((xs.length - 1 - i : Nat) : Int) := by lia
    have st1 : PySem.Rv.IsRevIter s.heap it a ((xs.length - 1 - i : Nat) : Int) := by rw [← est]; exact st
    refine PySem.Rv.wpAny_pyNext_rev_item st1 p.isList (x := u) (by simpa using hu) fun h' st' sb => ?_
    have I1 : Inv X pins σ H { s with heap := h' } := I.turned (t' := s.toks) (fun b o hb e => (sb.2 b hb).trans e) f0 f1 f3 f4 f5
    obtain ⟨o, e, c, d⟩ := id st'
    refine ⟨u, rfl, go_of (s := { s with heap := h' }) e c d (by decide) ⟨x, H, I1, ru, ⟨rfl, fun ys hy => by rw [I.list_inj hy hq]; exact hx⟩, ?_, fun b hb => (hf b hb).1⟩⟩
    have e2 : ((n : Int) - 1 - ((i + 1 : Nat) : Int)) = ((xs.length - 1 - i : Nat) : Int) - 1 := by lia
    show PySem.Rv.IsRevIter h' it a _
    rw [e2]
    exact st'
  done := by
    intro X hP hw hK hc i pins s σ H E I hf st hg
    subst hP hw hK
    obtain ⟨f0, f1, f2, f3, f4, f5⟩ := hf it (by simp)
    have hle : n ≤ i := hg
    exact PySem.Rv.wpAny_pyNext_rev_end (I.ok.hd hc) st (by lia) fun h' eb => ⟨rfl, I.turned (t' := s.toks) (fun b o hb e => eb b o hb e) f0 f1 f3 f4 f5⟩
  self := fun _ _ _ _ _ st h => PySem.Rv.wpAny_pyIter_rev st h
section
variable {X : Cx} {tg : Expr}
def iRev (K : PySem.W.Frag) (ta : TA) : TI := fun σ H R => ta σ H fun vs H1 => ∃ a xs, vs = [.ref a] ∧ H1 a = some (.lst xs) ∧ R (Itv K a xs.length) H1
theorem pi_rev {a : Expr} {ta : TA} {p pos : Pos} (hg : Gl X "reversed") (hm : X.mg "reversed" = none) (ha : PA X [a] ta) (hs : starEach [a] X.env = [(false, eval a X.env)] := by rfl) :
    PI X tg (.Call (.Name "reversed" p) [a] [] pos) (iRev X.K ta) := by
  intro pins s σ H R I h
  refine Call_ (ld_blt I hg hm (by decide +kernel : bootBuiltins "reversed" = some (.type "reversed")) (PyProof.Rows.callWith_type1 (thn (ha pos pins s σ H _ I h) fun us s1 ⟨vs, H1, I1, r1, q1⟩ => ?_) hs rfl))
  obtain ⟨l, xs, e, hq, q⟩ := q1
  subst e
  obtain ⟨u, rfl, r⟩ := vals1 r1
  cases r
  obtain ⟨z, its, n, rv, hl, e⟩ := I1.lstM hq
  refine PySem.Rv.call_reversed_list e ?_
  have hit : PySem.Rv.IsRevIter (s1.heap.push { cls := .type "list_reverseiterator", data := .fields #[.ref l, rawInt (((its.toArray.size : Nat) : Int) - 1)] }) s1.heap.objs.size l ((xs.length : Int) - 1 - ((0 : Nat) : Int)) := by
    refine ⟨_, Heap.get?_push_size _ rfl, rfl, ?_⟩
    show Data.fields #[.ref l, rawInt (((its.toArray.size : Nat) : Int) - 1)] = _
    rw [List.size_toArray, ← hl]
    simp [rawInt]
  refine PySem.Rv.wpAny_pyIter_rev hit ?_
  refine ⟨s1.heap.objs.size, [s1.heap.objs.size], _, _, H1, rfl, I1.kept (t' := s1.toks) fun b o e => Heap.get?_push_of_some _ e, turn_rev l _ xs.length, hit, fun b hb => ?_, q⟩
  have e : b = s1.heap.objs.size := by simpa using hb
  subst e
  exact I1.fpOk (Nat.le_refl _) (I1.hok.fresh (Nat.le_refl _))
theorem rev_k {a : Expr} {ta : TA} {p pos : Pos} (K : PySem.W.Frag) (hK : X.K = K) (hg : Gl X "reversed") (hm : X.mg "reversed" = none) (ha : PA X [a] ta) (hs : starEach [a] X.env = [(false, eval a X.env)] := by rfl) :
    PI X tg (.Call (.Name "reversed" p) [a] [] pos) (iRev K ta) := by subst hK; exact pi_rev hg hm ha hs
theorem for_rev {K : PySem.W.Frag} {a : Addr} {xs : List V} {g : TG} {tb : TS} {D : Ends} {σ : St} {H : Hp} (Pv : Nat → St → Hp → Prop) (h0 : Pv 0 σ H) (hl : ∀ i σ H, Pv i σ H → SqL K H a xs)
    (hs : ∀ i x σ H, xs.reverse[i]? = some x → Pv i σ H → g x σ H fun σ2 H2 => tb { D with nx := Pv (i + 1), ct := Pv (i + 1), bk := D.nx } σ2 H2) (hd : ∀ σ H, Pv xs.length σ H → D.nx σ H) :
    ∃ W : Nat → Nat → St → Hp → Prop, (∃ m, W 0 m σ H) ∧ ∀ i m σ H, W i m σ H →
      ((Itv K a xs.length).stop i H ∧ D.nx σ H) ∨ ((Itv K a xs.length).go i H ∧ ∃ N : St → Hp → Prop, (∀ σ' H', N σ' H' → ∃ m', m' < m ∧ W (i + 1) m' σ' H') ∧ ∀ x H', (Itv K a xs.length).yld i H x H' → g x σ H' fun σ2 H2 => tb { D with nx := N, ct := N, bk := D.nx } σ2 H2) := by
  refine for_go (n := xs.length) Pv h0 (fun i σ H h p => ⟨xs, xs.reverse[i]'(by simpa using h), hl i σ H p, rfl, List.getElem?_eq_getElem _⟩) (fun σ H _ => Nat.le_refl _) (fun i v σ H H' h p yl => ?_) hd
  obtain ⟨rfl, y⟩ := yl
  exact hs i v σ _ (y xs (hl i σ _ p)) p
end
section
variable {X : Cx} {tg l : Expr} {tl : TE}
end
end L2
namespace L2
open PySem PySem.Spec PyProof.Rows
section
variable {X : Cx}
end
end L2
namespace K
open PySem L2 TX
end K
namespace L2
open PySem PySem.Spec PyProof.Rows
section
variable {X : Cx}
theorem call_intS : CallR X (.type "int") (fun xs H Q => ∃ x n, xs = [.str x] ∧ PySem.intText? x = some n ∧ x.length ≤ 640 ∧ Q (.int n) H) := by
  intro pins s σ H xs us Q I r h
  obtain ⟨x, n, rfl, h1, h2, q⟩ := h
  obtain ⟨u, rfl, t, rfl⟩ := vals1 r
  exact PySem.W.KIN.call_text h1 h2 ⟨.int n, H, I.tok _, ⟨_, rfl⟩, q⟩
theorem call_intU : CallR X (.type "int") (fun xs H Q => ((∃ i, xs = [.int i] ∧ Q (.int i) H) ∨ ∃ k, xs = [.bl k] ∧ Q (.int (if k then 1 else 0)) H) ∨ ∃ x n, xs = [.str x] ∧ PySem.intText? x = some n ∧ x.length ≤ 640 ∧ Q (.int n) H) := call_int1.or call_intS
end
end L2
namespace K
open PySem L2 TX
def dg (m : Nat) : List Nat := tl (Str.ofString (toString (m : Int)))
theorem dg_mk (m : Nat) : Str.ofString (toString (m : Int)) = mk (dg m) := (mk_tl _).symm
theorem dg_eq (m : Nat) : dg m = (Nat.toDigits 10 m).map Char.toNat := PySem.W.KIN.signs_num m
theorem dg_small {m : Nat} (h : m < 10) : dg m = [48 + m] := by
  rw [dg_eq, Nat.toDigits_of_lt_base h]
  exact (by decide : ∀ m : Nat, m < 10 → [Nat.digitChar m].map Char.toNat = [48 + m]) m h
theorem dg_step {m : Nat} (h : 10 ≤ m) : dg m = dg (m / 10) ++ [48 + m % 10] := by
  have hm : m % 10 < 10 := Nat.mod_lt m (by decide)
  have t : Nat.toDigits 10 (m / 10) ++ Nat.toDigits 10 (m % 10) = Nat.toDigits 10 (10 * (m / 10) + m % 10) := Nat.toDigits_append_toDigits (by decide) (by lia) hm
  rw [Nat.div_add_mod] at t
  rw [dg_eq, dg_eq, ← t, List.map_append]
  congr 1
  exact (dg_eq (m % 10)).symm.trans (dg_small hm)
theorem dg_len : ∀ (k m : Nat), m < 10 ^ (k + 1) → (dg m).length ≤ k + 1
  | 0, m, h => by rw [dg_small (by simpa using h)]; exact Nat.le_refl _
  | k + 1, m, h => by
    by_cases hz : m < 10
    · rw [dg_small hz]; simp
    · rw [dg_step (by lia), List.length_append, List.length_singleton]
      have := dg_len k (m / 10) (by rw [Nat.pow_succ] at h; lia)
      lia
end K
namespace L2
open PySem PySem.Spec PyProof.Rows
end L2
namespace L2
open PySem PySem.Spec PyProof.Rows
section
variable {prog : Program} {w : World} {A : Around} {E : Value → Shared → Prop} {s : Shared}
end
set_option maxHeartbeats 4000000 in
section
variable {X : Cx} {elts : List Expr} {kk : Nat} {tpos : Pos}
end
end L2
namespace L2
open PySem PySem.Spec PyProof.Rows
section
variable {X : Cx}
end
end L2
namespace L2
open PySem PySem.Spec PyProof.Rows
end L2
namespace PySem.Rv
open Sem (wp)
section
variable {prog : Program} {w : World} {A : Around} {E : Value → Shared → Prop} {s : Shared} {it d : Addr} {i ep : Nat} {dob : Obj} {ens : Array DictEntry}
end
end PySem.Rv
namespace L2
open PySem PySem.Spec PyProof.Rows
section
variable {X : Cx} {tg l : Expr} {tl : TE}
end
end L2
namespace SB
open PySem PyProof.Rows
section
variable {prog : Program} {w : World} {A : Around} {E : Value → Shared → Prop} {s : Shared}
def rk (r : Value → Int) (xs : Array Keyed) (i : Nat) : Int := ((xs[i]?).map fun p => r p.1).getD 0
variable {kd : SortKind} {S : Value → Prop} {r : Value → Int} {a₀ : Array Keyed}
end
end SB
namespace PySem.Rv
open Sem (wp)
section
variable {prog : Program} {w : World} {A : Around} {E : Value → Shared → Prop} {s : Shared} {it d v : Addr} {i ep : Nat} {dob : Obj} {ens : Array DictEntry}
end
end PySem.Rv
namespace SB
open PySem PyProof.Rows TX
abbrev Pth := List (List Nat)
theorem mk_inj {a b : List Nat} (h : mk a = mk b) : a = b := by have := congrArg tl h; rwa [tl_mk, tl_mk] at this
theorem IsTup.inj {h : Heap} {a : Addr} {x y : Array Value} (h1 : IsTup h a x) (h2 : IsTup h a y) : x = y := by
  obtain ⟨o, e, _, n, d⟩ := h1
  obtain ⟨o', e', _, n', d'⟩ := h2
  rw [e] at e'; cases e'; rw [d] at d'; cases d'; rfl
theorem IsTup.keep {h h' : Heap} {a : Addr} {x : Array Value} (t : IsTup h a x) (k : ∀ o, h.get? a = some o → h'.get? a = some o) : IsTup h' a x := let ⟨o, e, r⟩ := t; ⟨o, k o e, r⟩
section
variable {prog : Program} {w : World} {A : Around} {E : Value → Shared → Prop} {s : Shared} {x y : Value} {p q : Pth}
end
end SB
namespace SB
open PySem PyProof.Rows TX
section
variable {prog : Program} {w : World} {A : Around} {E : Value → Shared → Prop} {s : Shared} {kd : SortKind} {S : Value → Prop} {r : Value → Int} {vs : List Value}
end
section
variable {prog : Program} {w : World} {A : Around} {E : Value → Shared → Prop} {s : Shared}
open Classical in
noncomputable def keyBy (K : Value → Pth → Prop) (v : Value) : Pth := if h : ∃ p, K v p then choose h else []
end
end SB
namespace PySem.Rv
open Sem (wp)
section
variable {prog : Program} {w : World} {A : Around} {E : Value → Shared → Prop} {S I : Addr} {n : Nat} {Fc : List Value → Heap → Prop} {It : Nat → Heap → Prop}
end
end PySem.Rv
namespace L2
open PySem PySem.Spec PyProof.Rows SB TX
def kP (p : Pth) : List Key := p.map fun n => Sum.inr (mk n)
abbrev vP (p : Pth) : List V := p.map fun n => V.str (mk n)
theorem kP_kV (p : Pth) : (kP p).map kV = vP p := by unfold kP; rw [List.map_map]; rfl
abbrev HRow := Pth × V
abbrev dR (rows : List HRow) : HO := .dT (rows.map fun r => (kP r.1, r.2))
section
variable {X : Cx} {pins : List (Addr × Obj)} {σ : St} {H : Hp} {s : Shared}
theorem Inv.rows (I : Inv X pins σ H s) {d : Addr} {rows : List HRow} (hd : H d = some (dR rows)) : (d == sysModules) = false ∧ rows.length ≤ sizeLine ∧ ∃ ob es ep, s.heap.get? d = some ob ∧ ob.ExactDict ∧ ob.data = .dict es ep ∧ (rows.map (·.1)).Nodup ∧
    ∃ zs : List (Addr × Value × HRow), zs.map (·.2.2) = rows ∧ es.toList.map (fun e => (e.key, e.val)) = zs.map (fun z => (Value.ref z.1, z.2.1)) ∧ ∀ z ∈ zs, H z.1 = some (.tup (vP z.2.2.1)) ∧ RelV z.2.2.2 z.2.1 := by
  obtain ⟨z, hsys, xs, hp, ob, es, ep, ho, hex, hob, h4, h5⟩ := (show ObjOk X.prog X.w H s.heap d (dR rows) from I.hok d _ hd)
  rw [List.length_map] at z
  have go : ∀ (rows : List HRow) (xs : List (List Key × Addr × Value)), Paired (fun (p : List Key × V) (q : List Key × Addr × Value) => p.1 = q.1 ∧ H q.2.1 = some (.tup (p.1.map kV)) ∧ RelV p.2 q.2.2) (rows.map fun r => (kP r.1, r.2)) xs →
      xs.map (·.1) = rows.map (fun r => kP r.1) ∧ ∃ zs : List (Addr × Value × HRow), zs.map (·.2.2) = rows ∧ (xs.map (entryOfKey (tupleKind (mixKind X.prog X.w)))).map (fun e => (e.key, e.val)) = zs.map (fun z => (Value.ref z.1, z.2.1)) ∧ ∀ z ∈ zs, H z.1 = some (.tup (vP z.2.2.1)) ∧ RelV z.2.2.2 z.2.1 := by
    intro rows
    induction rows with
    | nil => intro xs h; cases h; exact ⟨rfl, [], rfl, rfl, fun _ h => nomatch h⟩
    | cons r rows ih =>
      intro xs h
      rw [List.map_cons] at h
      cases h with
      | cons hq t =>
        rename_i q ys
        obtain ⟨e1, e2, e3⟩ := hq
        obtain ⟨i0, zs, i1, i2, i3⟩ := ih ys t
        refine ⟨by rw [List.map_cons, List.map_cons, i0, ← e1], (q.2.1, q.2.2, r) :: zs, by rw [List.map_cons, i1], by rw [List.map_cons, List.map_cons, List.map_cons, i2]; rfl, fun z hz => ?_⟩
        rcases List.mem_cons.mp hz with rfl | hz
        · exact ⟨by rw [← kP_kV]; exact e2, e3⟩
        · exact i3 z hz
  obtain ⟨g0, zs, g1, g2, g3⟩ := go rows xs hp
  refine ⟨hsys, z, ob, es, ep, ho, hex, hob, ?_, zs, g1, by rw [h4]; exact g2, g3⟩
  rw [g0] at h5
  have e : rows.map (fun r => kP r.1) = (rows.map (·.1)).map kP := by rw [List.map_map]; rfl
  rw [e] at h5
  exact (List.pairwise_map.mp h5).imp fun hne z => hne (by rw [z])
end
end L2
namespace L2
open PySem PySem.Spec PyProof.Rows
section
variable {X : Cx} {iter target kx vx : Expr} {ifs : List Expr} {scope : Scope} {pos : Pos} {wi : TI} {g : TG} {tt : TT} {tk tv : TE}
end
end L2
namespace PySem.Rv
open Sem (wp)
section
variable {prog : Program} {w : World} {A : Around} {E : Value → Shared → Prop} {s : Shared}
end
end PySem.Rv
namespace PySem.Rv
end PySem.Rv
namespace L2
open PySem PySem.Spec PyProof.Rows SB TX
section
variable {X : Cx} {pins : List (Addr × Obj)} {σ : St}
end
end L2
namespace L2
open PySem PySem.Spec PyProof.Rows
section
variable {X : Cx} {C : Addr} {x m : Str} {k j : Nat} {ps : List Str} {sp : Sp} {p pos apos : Pos} {o e : Expr} {es : List Expr} {ta : TE} {t : TA}
end
section
variable {X : Cx} {C : Addr} {x : Str} {k j : Nat} {ps : List Str} {sp : Sp} {p pos : Pos} {e : Expr} {es : List Expr} {t : TA}
end
end L2
namespace L2
open PySem PySem.Spec PyProof.Rows
end L2
namespace HM
open PySem PySem.Spec PyProof.Rows L2 TX SB
def NSs : Str := Str.ofString "abcdefghijklmnopqrstuvwxyzABCDEFGHIJKLMNOPQRSTUVWXYZ0123456789-_."
abbrev NS : List Nat := tl NSs
abbrev Rw := Pth × Option Int
end HM
namespace HM
open PySem PySem.Spec PyProof.Rows L2 TX SB
end HM
namespace L2
open PySem PySem.Spec PyProof.Rows SB
section
variable {X : Cx} {tg l : Expr} {tl : TE}
end
section
variable {prog : Program} {w : World} {K : Type} [DecidableEq K] {knd : HeapKind prog w K} {A : Around} {E : Value → Shared → Prop} {s : Shared}
end
end L2
namespace HM
open PySem PySem.Spec PyProof.Rows L2 TX SB
def carry (p q x : Pth) : Pth := if x.take p.length = p then q ++ x.drop p.length else x
def cR (p q : Pth) (r : Rw) : Rw := (carry p q r.1, r.2)
end HM
namespace HM
open PySem PySem.Spec PyProof.Rows L2 TX SB
end HM
namespace HT
open PySem PyProof.Rows
section
variable {prog : Program} {w : World} {A : Around} {E : Value → Shared → Prop} {s : Shared}
end
end HT
namespace L2
open PySem PySem.Spec PyProof.Rows
end L2
namespace L2
open PySem PySem.Spec PyProof.Rows
end L2
namespace HM
open PySem PySem.Spec PyProof.Rows L2 TX SB
section
variable {bl : Bool} {rows : List Rw} {p q : Pth}
end
end HM
namespace L2
open PySem PySem.Spec PyProof.Rows
end L2
namespace L2
open PySem PySem.Spec PyProof.Rows
section
variable {M : Model} {A : Around} {E : Value → Shared → Prop} {s : Shared}
def TbAt (h : Heap) (e : Addr) (vs : Array Value) (T : Addr) (fl : Value) : Prop := vs[1]? = some (.ref T) ∧ T ≠ e ∧ ∃ oT ts, h.get? T = some oT ∧ oT.data = .fields ts ∧ ts[3]? = some fl
def TbOk (L : Addr) (h : Heap) (e : Addr) (vs : Array Value) : Prop := vs[1]? = some .none ∨ ∃ T, TbAt h e vs T .none ∨ TbAt h e vs T (rawInt L)
structure LeftX (fr : List Addr) (e : Addr) (oe : Obj) (vs : Array Value) (fl : Value) (h h' : Heap) : Prop where
  ex : ∃ T, (h.objs.size ≤ T ∨ vs[1]? = some (.ref T)) ∧ T ≠ e ∧ h'.get? e = some (oe.mapFields (·.setIfInBounds 1 (.ref T))) ∧ ∃ oT ts, h'.get? T = some oT ∧ oT.data = .fields ts ∧ ts[3]? = some fl
  keep : ∀ b o, h.get? b = some o → b ≠ e → vs[1]? ≠ some (.ref b) → b ∉ fr → h'.get? b = some o
  slot : ∀ b o, h.get? b = some o → b ∈ fr → ∃ sl, h'.get? b = some { o with slots := sl }
theorem mapF_same {oe : Obj} {vs : Array Value} {x : Value} (hd : oe.data = .fields vs) (h1 : vs[1]? = some x) : oe.mapFields (·.setIfInBounds 1 x) = oe := by
  obtain ⟨c, d, dt, sl⟩ := oe
  cases hd
  have e : vs.setIfInBounds 1 x = vs := by
    have hs := (Array.getElem?_eq_some_iff.mp h1)
    obtain ⟨hlt, hx⟩ := hs
    apply Array.ext
    · simp
    · intro i h2 h3
      rw [Array.getElem_setIfInBounds (by simpa using h3)]
      split
      · rename_i z; subst z; exact hx.symm
      · rfl
  show (⟨c, d, .fields (vs.setIfInBounds 1 x), sl⟩ : Obj) = _
  rw [e]
theorem entryX {base : Heap} {env : Env} {outer : List Env} {L e : Addr} {oe : Obj} {vs : Array Value} {head : Value} {hadNext : Bool} {Q : Unit → Shared → Prop}
    (hfr : A.frames = some (env :: outer)) (hl : s.heap.FunFrames base (env :: outer)) (hf : env.frame = some L)
    (he : s.heap.get? e = some oe) (hd : oe.data = .fields vs) (hsz : 1 < vs.size)
    (h : ∀ h', (∃ T, s.heap.objs.size ≤ T ∧ h'.get? e = some (oe.mapFields (·.setIfInBounds 1 (.ref T))) ∧ ∃ oT ts, h'.get? T = some oT ∧ oT.data = .fields ts ∧ ts[3]? = some (rawInt L)) →
      (∀ b o, s.heap.get? b = some o → b ≠ e → b ∉ (env :: outer).filterMap (·.frame) → h'.get? b = some o) →
      (∀ b o, s.heap.get? b = some o → b ∈ (env :: outer).filterMap (·.frame) → ∃ sl, h'.get? b = some { o with slots := sl }) → Q () { s with heap := h' }) :
    wpAny M A (do let a ← frameOf env; let pl ← entryPlaceOf L hadNext; let b ← EntryCells.newEntry head a .none (rawInt L) .none pl; setField (.ref e) 1 b) Q E s := by
  have hene : e ∉ (env :: outer).filterMap (·.frame) := fun hm => by
    obtain ⟨_, o, ho, hnf⟩ := hl.mem hm
    rw [he] at ho; injection ho with ho; subst ho; exact hnf vs hd
  refine wpAny_bind (wpAny_frameOf_fun hfr hl hf fun h₁ hs₁ => ?_)
  refine wpAny_bind (wpAny_entryPlaceOf fun pl hpl => ?_)
  unfold EntryCells.newEntry newFields
  refine wpAny_bind (wpAny_newObj_type ?_ (hpl.sizeOk5 _ _ _ _ _))
  have he₁ : h₁.get? e = some oe := (hs₁.2.1 e hene).trans he
  have he₂ := Heap.get?_push_of_some (h := h₁) { cls := .type "traceback", dict := none, data := .fields ([head, .ref L, .none, rawInt L, .none] ++ (if pl.isEmpty then List.replicate 6 Value.none else pl)).toArray } he₁
  have hTe : h₁.objs.size ≠ e := Nat.ne_of_gt (Heap.lt_size he₁)
  have hd₃ := Obj.data_mapFields hd (·.setIfInBounds 1 (Value.ref h₁.objs.size))
  have he₃ := Heap.get?_update_self (Obj.mapFields (·.setIfInBounds 1 (Value.ref h₁.objs.size))) he₂ (Obj.isFreed_of_fields hd₃)
  have hT₃ := (Heap.get?_update_other (h₁.push { cls := .type "traceback", dict := none, data := .fields ([head, .ref L, .none, rawInt L, .none] ++ (if pl.isEmpty then List.replicate 6 Value.none else pl)).toArray })
    (Obj.mapFields (·.setIfInBounds 1 (Value.ref h₁.objs.size))) (Ne.symm hTe)).trans (Heap.get?_push_size h₁ rfl)
  refine wpAny_setField he₂ hd hsz (h _ ⟨h₁.objs.size, by rw [hs₁.1]; exact Nat.le_refl _, he₃, _, _, hT₃, rfl, by first | (simp; done) | (rcases hpl with rfl | ⟨_, _, _, _, _, _, _, rfl⟩ <;> simp)⟩ ?_ ?_)
  · intro b o hb hbe hbf
    have hb₁ : h₁.get? b = some o := (hs₁.2.1 b hbf).trans hb
    rw [Heap.get?_update_other _ _ (Ne.symm hbe)]
    exact Heap.get?_push_of_some _ hb₁
  · intro b o hb hbf
    have hbe : b ≠ e := fun z => hene (z ▸ hbf)
    obtain ⟨sl, hb₁⟩ := hs₁.2.2 b o hb
    refine ⟨sl, ?_⟩
    rw [Heap.get?_update_other _ _ (Ne.symm hbe)]
    exact Heap.get?_push_of_some _ hb₁
theorem noteX {base : Heap} {env : Env} {outer : List Env} {L e : Addr} {oe : Obj} {vs : Array Value} {Q : Unit → Shared → Prop}
    (hfr : A.frames = some (env :: outer)) (hl : s.heap.FunFrames base (env :: outer)) (hf : env.frame = some L) (he : s.heap.get? e = some oe) (hd : oe.data = .fields vs) (ht : TbOk L s.heap e vs)
    (h : ∀ h', LeftX ((env :: outer).filterMap (·.frame)) e oe vs (rawInt L) s.heap h' → Q () { s with heap := h' }) : wpAny M A (noteFrame (.ref e) env) Q E s := by
  have helt := Heap.lt_size he
  unfold noteFrame
  simp only [hf]
  rcases ht with h1 | ⟨T, ⟨h1, hTe, oT, ts, hT, hdT, h3⟩ | ⟨h1, hTe, oT, ts, hT, hdT, h3⟩⟩
  · refine wpAny_bind (wpAny_field he hd h1 ?_)
    rw [if_neg (by decide)]
    refine entryX hfr hl hf he hd (Array.getElem?_eq_some_iff.mp h1).1 fun h' ⟨T, q1, q2, q3⟩ b c => h h' ⟨⟨T, .inl q1, fun z => absurd helt (Nat.not_lt.mpr (z ▸ q1)), q2, q3⟩, fun x o hx hxe _ hxf => b x o hx hxe hxf, c⟩
  · refine wpAny_bind (wpAny_field he hd h1 ?_)
    rw [if_pos (show (Value.ref T != Value.none) = true from by simp)]
    refine wpAny_bind (wpAny_field hT hdT h3 ?_)
    rw [if_neg (show ¬ ((Value.none == rawInt L) = true) from by simp [rawInt])]
    refine wpAny_bind (wpAny_setField hT hdT (Array.getElem?_eq_some_iff.mp h3).1 ?_)
    have other : ∀ b, b ≠ T → (s.heap.update T (Obj.mapFields (·.setIfInBounds 3 Value.none))).get? b = s.heap.get? b := fun b hb => Heap.get?_update_other _ _ (Ne.symm hb)
    have noRecord : ∀ b o, s.heap.get? b = some o → (∀ vs, o.data ≠ .fields vs) → b ≠ T := fun b o hb hnf q => by
      rw [q, hT] at hb; injection hb with hb; subst hb; exact hnf ts hdT
    have hTf : T ∉ (env :: outer).filterMap (·.frame) := fun hm => by
      obtain ⟨_, o, ho, hnf⟩ := hl.mem hm
      rw [hT] at ho; injection ho with ho; subst ho; exact hnf ts hdT
    have hsz : (s.heap.update T (Obj.mapFields (·.setIfInBounds 3 Value.none))).objs.size = s.heap.objs.size := by first | exact Heap.size_update .. | simp
    refine entryX hfr (hl.of_keeps fun b o hb hnf => ⟨o, (other b (noRecord b o hb hnf)).trans hb, rfl⟩) hf ((other e (Ne.symm hTe)).trans he) hd (Array.getElem?_eq_some_iff.mp h1).1 fun h' a b c => h h' ⟨?_, fun x o hx hxe hx1 hxf => ?_, fun x o hx hxf => ?_⟩
    · obtain ⟨T', q1, q2, q3⟩ := a
      rw [hsz] at q1
      exact ⟨T', .inl q1, fun z => absurd helt (Nat.not_lt.mpr (z ▸ q1)), q2, q3⟩
    · exact b x o ((other x fun z => hx1 (by rw [z]; exact h1)).trans hx) hxe hxf
    · exact c x o ((other x fun z => hTf (z ▸ hxf)).trans hx) hxf
  · refine wpAny_bind (wpAny_field he hd h1 ?_)
    rw [if_pos (show (Value.ref T != Value.none) = true from by simp)]
    refine wpAny_bind (wpAny_field hT hdT h3 ?_)
    rw [if_pos (show (rawInt L == rawInt L) = true from by simp)]
    refine wpAny_pure (h s.heap ⟨⟨T, .inr h1, hTe, by rw [mapF_same hd h1]; exact he, oT, ts, hT, hdT, h3⟩, fun x o hx _ _ _ => hx, fun x o hx _ => ⟨o.slots, hx⟩⟩)
theorem flightX {fr : List Addr} {e T : Addr} {oe : Obj} {vs : Array Value} {fl : Value} {f : Option Addr} {Q : Unit → Shared → Prop} (he : s.heap.get? e = some oe) (hd : oe.data = .fields vs) (ht : TbAt s.heap e vs T fl) (hTf : T ∉ fr)
    (h : ∀ h', LeftX fr e oe vs (f.elim .none fun f => rawInt f) s.heap h' → Q () { s with heap := h' }) : wpAny M A (setFlight (.ref e) f) Q E s := by
  obtain ⟨h1, hTe, oT, ts, hT, hdT, h3⟩ := ht
  have other : ∀ b, b ≠ T → (s.heap.update T (Obj.mapFields (·.setIfInBounds 3 (f.elim Value.none fun f => rawInt f)))).get? b = s.heap.get? b := fun b hb => Heap.get?_update_other _ _ (Ne.symm hb)
  unfold setFlight
  refine wpAny_bind (wpAny_field he hd h1 ?_)
  rw [if_pos (show (Value.ref T != Value.none) = true from by simp)]
  refine wpAny_setField hT hdT (Array.getElem?_eq_some_iff.mp h3).1 (h _ ⟨⟨T, .inr h1, hTe, ?_, _, _, Heap.get?_update_self _ hT (Obj.isFreed_of_fields (Obj.data_mapFields hdT _)), Obj.data_mapFields hdT _, ?_⟩, fun x o hx _ hx1 _ => ?_, fun x o hx hxf => ?_⟩)
  · rw [mapF_same hd h1, other e (Ne.symm hTe)]; exact he
  · simp [(Array.getElem?_eq_some_iff.mp h3).1]
  · rw [other x fun z => hx1 (by rw [z]; exact h1)]; exact hx
  · rw [other x fun z => hTf (z ▸ hxf)]; exact ⟨o.slots, hx⟩
end
end L2
namespace L2
open PySem PySem.Spec PyProof.Rows
def ExO (C : Value) (dd : Option Addr) (e : Addr) : HO := .ext fun h => ∃ vs sl, h.get? e = some { cls := C, dict := dd, data := .fields vs, slots := sl } ∧ vs.size = 6
structure FlX (X : Cx) (pins : List (Addr × Obj)) (H : Hp) (s : Shared) (e : Addr) : Prop where
  at_ : ∃ C dd, H e = some (ExO C dd e)
  tb : ∃ oe vs, s.heap.get? e = some oe ∧ oe.data = .fields vs ∧ TbOk X.env.locals s.heap e vs ∧ ∀ T, vs[1]? = some (.ref T) → X.s₀.heap.objs.size ≤ T ∧ H T = none ∧ T ≠ X.env.locals ∧ (∀ x c, X.env.cells.lookup x = some c → c ≠ T) ∧ ∀ p ∈ X.pn ++ pins, p.1 ≠ T
  new : X.s₀.heap.objs.size ≤ e
section
variable {X : Cx} {pins : List (Addr × Obj)} {σ : St} {H : Hp} {s : Shared} {e : Addr} {oe : Obj} {vs : Array Value} {fl : Value} {h' : Heap}
def chOf (vs : Array Value) : List Addr := match vs[(1 : Nat)]? with | some (Value.ref T) => [T] | _ => []
theorem chOf_mem {vs : Array Value} {b : Addr} : b ∈ chOf vs ↔ vs[(1 : Nat)]? = some (Value.ref b) := by
  unfold chOf
  constructor
  · intro h
    split at h
    · rename_i T e; rw [List.mem_singleton.mp h]; exact e
    · cases h
  · intro h
    rw [h]
    exact List.mem_singleton.mpr rfl
theorem Inv.leftX (I : Inv X pins σ H s) (F : FlX X pins H s e) (he : s.heap.get? e = some oe) (hd : oe.data = .fields vs) (hfl : fl = .none ∨ fl = rawInt X.env.locals)
    (hT : ∀ T, vs[1]? = some (.ref T) → X.s₀.heap.objs.size ≤ T ∧ H T = none ∧ T ≠ X.env.locals ∧ (∀ x c, X.env.cells.lookup x = some c → c ≠ T) ∧ ∀ p ∈ X.pn ++ pins, p.1 ≠ T)
    (L : LeftX (frs X.stack) e oe vs fl s.heap h') : Inv X pins σ H { s with heap := h' } ∧ FlX X pins H { s with heap := h' } e ∧ ∃ oe' vs' T, h'.get? e = some oe' ∧ oe'.data = .fields vs' ∧ TbAt h' e vs' T fl := by
  obtain ⟨C, dd, hE⟩ := F.at_
  obtain ⟨T', hT'1, hT'e, hE', oT, ts, q1, q2, q3⟩ := L.ex
  have helt := Heap.lt_size he
  have hne : ∀ b, H b = none → b ≠ e := fun b h z => by rw [z, hE] at h; cases h
  have un : Un (frs X.stack) (chOf vs) H H s.heap h' := ⟨fun b o hb n hf hc => L.keep b o hb (hne b n) (fun z => hc (chOf_mem.mpr z)) hf, fun b o hb n hf hc => L.slot b o hb hf, fun _ _ _ n _ => n, fun b o hb hc => by
      by_cases z : b = e
      · rw [z]; exact ⟨_, hE'⟩
      · by_cases y : b ∈ frs X.stack
        · obtain ⟨sl, k⟩ := L.slot b o hb y; exact ⟨_, k⟩
        · exact ⟨o, L.keep b o hb z (fun x => hc (chOf_mem.mpr x)) y⟩,
    fun _ _ q => q, fun _ _ _ q => q, fun _ ps q => ⟨#[], by rw [q]; simp⟩⟩
  have hsz6 : vs.size = 6 ∧ oe.cls = C ∧ oe.dict = dd := by
    obtain ⟨⟨vs2, sl, z, z6⟩, _, _⟩ := I.hok e _ hE
    rw [he] at z
    cases z
    cases hd
    exact ⟨z6, rfl, rfl⟩
  have hok : HOk X.prog X.w H h' := fun a o ha => by
    by_cases z : a = e
    · subst z
      rw [hE] at ha
      cases ha
      refine ⟨⟨vs.setIfInBounds 1 (.ref T'), oe.slots, ?_, by simpa using hsz6.1⟩, ⟨_, hE'⟩, fun h1 h2 ⟨ws, sl, k1, k2⟩ k => ⟨ws, sl, k _ k1, k2⟩⟩
      rw [hE']
      obtain ⟨c, d, dt, sl⟩ := oe
      cases hd
      obtain ⟨_, rfl, rfl⟩ := hsz6
      rfl
    · refine (I.hok a o ha).stay (fun b u hb hu => ?_) (fun _ q => q) fun _ _ q => q
      have hbt : H b ≠ none ∧ b ≠ e := by
        rcases hb with rfl | hb
        · exact ⟨by rw [ha]; simp, z⟩
        · refine ⟨by rw [hb]; simp, fun y => ?_⟩
          rw [y, hE] at hb
          cases hb
      exact L.keep b u hu hbt.2 (fun y => hbt.1 (hT b y).2.1) fun y => hbt.1 (I.stkFree b y)
  have hch : ∀ b ∈ chOf vs, (b ∈ X.ex ∨ X.s₀.heap.objs.size ≤ b) ∧ b ≠ X.env.locals ∧ (∀ x c, X.env.cells.lookup x = some c → c ≠ b) ∧ ∀ p ∈ X.pn ++ pins, p.1 ≠ b := fun b hb => by
    obtain ⟨a1, _, a3, a4, a5⟩ := hT b (chOf_mem.mp hb)
    exact ⟨.inr a1, a3, a4, a5⟩
  have I' : Inv X pins σ H { s with heap := h' } := I.call' (s' := { s with heap := h' }) rfl un hok I.bare hch
  have hd' := Obj.data_mapFields hd (·.setIfInBounds 1 (Value.ref T'))
  have hlt1 : 1 < vs.size := by rw [hsz6.1]; decide
  have hTb : TbAt h' e (vs.setIfInBounds 1 (.ref T')) T' fl := ⟨by simp [hlt1], hT'e, oT, ts, q1, q2, q3⟩
  refine ⟨I', ⟨⟨C, dd, hE⟩, ⟨_, _, hE', hd', .inr ⟨T', ?_⟩, fun T hTT => ?_⟩, F.new⟩, _, _, T', hE', hd', hTb⟩
  · rcases hfl with z | z
    · exact .inl (z ▸ hTb)
    · exact .inr (z ▸ hTb)
  · have : T = T' := by
      have z : (vs.setIfInBounds 1 (Value.ref T'))[1]? = some (.ref T') := hTb.1
      rw [z] at hTT
      injection hTT with y
      injection y with y
      exact y.symm
    subst this
    rcases hT'1 with k | k
    · refine ⟨Nat.le_trans I.sz k, I.hok.fresh k, fun z => absurd I.lt (Nat.not_lt.mpr (z ▸ k)), fun x c hx z => ?_, fun p hp z => ?_⟩
      · obtain ⟨v, o, ho, _⟩ := I.cell x c hx
        exact absurd (Heap.lt_size ho) (Nat.not_lt.mpr (z ▸ k))
      · obtain ⟨ho, _⟩ := I.pin p hp
        exact absurd (Heap.lt_size ho) (Nat.not_lt.mpr (z ▸ k))
    · exact hT T k
def XE (X : Cx) (J : Addr → St → Hp → Prop) (e : Value) (s : Shared) : Prop := ∃ pins σ H ea, e = .ref ea ∧ Inv X pins σ H s ∧ FlX X pins H s ea ∧ J ea σ H
theorem frs_eq (hst : X.stack = X.env :: X.outer) : frs X.stack = (X.env :: X.outer).filterMap (·.frame) := by rw [hst]; rfl
theorem passX {J : Addr → St → Hp → Prop} (hst : X.stack = X.env :: X.outer) (hf : X.env.frame = some X.env.locals) : PassesOwn (model X.prog X.w) X.A X.env (XE X J) := by
  rintro e s' ⟨pins, σ, H, ea, rfl, I, F, j⟩
  obtain ⟨oe, vs, he, hd, ht, hT⟩ := F.tb
  have hfr : X.A.frames = some (X.env :: X.outer) := by rw [← hst]; exact I.ok.frames
  have hl : s'.heap.FunFrames X.base (X.env :: X.outer) := by rw [← hst]; exact I.stack
  refine noteX hfr hl hf he hd ht fun h1 L1 => ?_
  rw [← frs_eq hst] at L1
  obtain ⟨I1, F1, oe1, vs1, T1, e1, d1, t1⟩ := I.leftX F he hd (.inr rfl) hT L1
  refine wpAny_bind (wpAny_field e1 d1 t1.1 ?_)
  rw [if_neg (show ¬ ((Value.ref T1 == Value.none) = true) from by simp)]
  have hT1f : T1 ∉ frs X.stack := fun hm => by
    obtain ⟨_, _, oT, ts, q1, q2, _⟩ := t1
    obtain ⟨_, o, ho, hnf⟩ := I1.stack.mem hm
    rw [q1] at ho; injection ho with ho; subst ho; exact hnf ts q2
  obtain ⟨oe1', vs1', e1', d1', _, hT1⟩ := F1.tb
  have q : oe1' = oe1 ∧ vs1' = vs1 := by
    have e1'' : h1.get? ea = some oe1' := e1'
    rw [e1] at e1''
    injection e1'' with z
    subst z
    rw [d1] at d1'
    injection d1' with y
    exact ⟨rfl, y.symm⟩
  obtain ⟨rfl, rfl⟩ := q
  refine flightX (s := { s' with heap := h1 }) e1 d1 t1 hT1f fun h2 L2 => ?_
  rw [hf] at L2
  obtain ⟨I2, F2, _⟩ := I1.leftX F1 e1 d1 (.inr rfl) hT1 L2
  exact ⟨pins, σ, H, ea, rfl, I2, F2, j⟩
end
end L2
namespace L2
open PySem PySem.Spec PyProof.Rows
def CXR (P : Program) (w : World) : CXT := fun outer H s E e s' => ∃ ea H', e = .ref ea ∧ s'.os = s.os ∧ AllBare s'.gens ∧ Un (frs outer) [] H H' s.heap s'.heap ∧ HOk P w H' s'.heap ∧ s.heap.objs.size ≤ ea ∧ (∃ C dd, H' ea = some (ExO C dd ea)) ∧
  (∃ oe vs, s'.heap.get? ea = some oe ∧ oe.data = .fields vs ∧ (vs[1]? = some .none ∨ ∃ T, TbAt s'.heap ea vs T .none) ∧ ∀ T, vs[1]? = some (.ref T) → s.heap.objs.size ≤ T ∧ H' T = none) ∧ E (.ref ea) none H'
section
variable {X : Cx} {J J' : Addr → St → Hp → Prop} {E : Value → Shared → Prop} {e : Value} {s : Shared}
theorem FlX.wish {pins : List (Addr × Obj)} {H : Hp} {ea : Addr} (F : FlX X pins H s ea) (E : Value → Shared → Prop) : FlX (X.wish E) pins H s ea := ⟨F.at_, F.tb, F.new⟩
theorem FlX.unwish {pins : List (Addr × Obj)} {H : Hp} {ea : Addr} (F : FlX (X.wish E) pins H s ea) : FlX X pins H s ea := ⟨F.at_, F.tb, F.new⟩
theorem XE.wish (h : XE X J e s) : XE (X.wish E) J e s := by
  obtain ⟨pins, σ, H, ea, rfl, I, F, j⟩ := h
  exact ⟨pins, σ, H, ea, rfl, I.wish _, F.wish _, j⟩
theorem XE.unwish (h : XE (X.wish E) J e s) : XE X J e s := by
  obtain ⟨pins, σ, H, ea, rfl, I, F, j⟩ := h
  exact ⟨pins, σ, H, ea, rfl, I.unwish, F.unwish, j⟩
structure AccX (X : Cx) (J : Addr → St → Hp → Prop) : Prop where
  acc : ∀ e s, XE X J e s → X.xe e s
theorem AccX.of : AccX (X.wish (XE X J)) J := ⟨fun _ _ h => h.unwish⟩
theorem PSs.wishX {st : List Stmt} {t : TS} (hE : ∀ e s, E e s → X.xe e s) (h : PSs (X.wish E) st t) : PSs X st t := fun pins s σ H D I hw =>
  wpAny_mono (h pins s σ H D (I.wish _) hw) (fun _ _ q => q.unwish) hE
theorem leaves {P : Program} {w : World} {K : PySem.W.Frag} {mg : Str → Option Value} {base : Heap} {N : List Str} {qual : Str} {scope : Scope} {f : Addr} {cd : Value} {A : Around} {outer : List Env} {s₀ : Shared} {H₀ : Hp} {E₀ : XK}
    (h : XE (cxOf (CXR P w) P w K mg base N qual scope f cd A outer s₀ H₀ E₀) (fun ea _ H' => E₀ (.ref ea) none H') e s) : (cxOf (CXR P w) P w K mg base N qual scope f cd A outer s₀ H₀ E₀).xe e s := by
  obtain ⟨pins, σ, H, ea, rfl, I, F, j⟩ := h
  obtain ⟨oe, vs, he, hd, ht, hT⟩ := F.tb
  have hst : (cxOf (CXR P w) P w K mg base N qual scope f cd A outer s₀ H₀ E₀).stack = (cxOf (CXR P w) P w K mg base N qual scope f cd A outer s₀ H₀ E₀).env :: outer := rfl
  show wpAny _ _ (leaving _ _) _ _ _
  unfold leaving
  refine wpAny_bind (noteX I.ok.frames I.stack rfl he hd ht fun h1 L1 => ?_)
  obtain ⟨I1, F1, oe1, vs1, T1, e1, d1, t1⟩ := I.leftX F he hd (.inr rfl) hT L1
  have hT1f : T1 ∉ frs (cxOf (CXR P w) P w K mg base N qual scope f cd A outer s₀ H₀ E₀).stack := fun hm => by
    obtain ⟨_, _, oT, ts, q1, q2, _⟩ := t1
    obtain ⟨_, o, ho, hnf⟩ := I1.stack.mem hm
    rw [q1] at ho; injection ho with ho; subst ho; exact hnf ts q2
  obtain ⟨oe1', vs1', e1', d1', _, hT1⟩ := F1.tb
  have q : oe1' = oe1 ∧ vs1' = vs1 := by
    have e1'' : h1.get? ea = some oe1' := e1'
    rw [e1] at e1''
    injection e1'' with z
    subst z
    rw [d1] at d1'
    injection d1' with y
    exact ⟨rfl, y.symm⟩
  obtain ⟨rfl, rfl⟩ := q
  refine flightX (s := { s with heap := h1 }) (f := none) e1 d1 t1 hT1f fun h2 L2 => ?_
  obtain ⟨I2, F2, oe2, vs2, T2, e2, d2, t2⟩ := I1.leftX F1 e1 d1 (.inl rfl) hT1 L2
  obtain ⟨oe2', vs2', e2', d2', _, hT2⟩ := F2.tb
  have q : oe2' = oe2 ∧ vs2' = vs2 := by
    have e2'' : h2.get? ea = some oe2' := e2'
    rw [e2] at e2''
    injection e2'' with z
    subst z
    rw [d2] at d2'
    injection d2' with y
    exact ⟨rfl, y.symm⟩
  obtain ⟨rfl, rfl⟩ := q
  exact ⟨ea, H, rfl, I2.os, I2.bare, I2.base, I2.hok, F2.new, F2.at_, ⟨_, _, e2, d2, .inr ⟨T2, t2⟩, fun T hTT => ⟨(hT2 T hTT).1, (hT2 T hTT).2.1⟩⟩, j⟩
end
abbrev cxX (P : Program) (w : World) (K : PySem.W.Frag) (mg : Str → Option Value) (base : Heap) (N : List Str) (qual : Str) (scope : Scope) (f : Addr) (cd : Value) (A : Around) (outer : List Env) (s : Shared) (H : Hp) (E : XK) : Cx :=
  (cxOf (CXR P w) P w K mg base N qual scope f cd A outer s H E).wish (XE (cxOf (CXR P w) P w K mg base N qual scope f cd A outer s H E) fun ea _ H' => E (.ref ea) none H')
section
variable {P : Program} {w : World} {K : PySem.W.Frag} {mg : Str → Option Value} {base : Heap}
theorem accX {N : List Str} {qual : Str} {scope : Scope} {f : Addr} {cd : Value} {A : Around} {outer : List Env} {s : Shared} {H : Hp} {E : XK} : AccX (cxX P w K mg base N qual scope f cd A outer s H E) fun ea _ H' => E (.ref ea) none H' := AccX.of
theorem passDef {N : List Str} {qual : Str} {scope : Scope} {f : Addr} {cd : Value} {A : Around} {outer : List Env} {s : Shared} {H : Hp} {E : XK} : PassesOwn (model P w) (A.deeper (envOfC qual scope s.heap.objs.size f cd)) (envOfC qual scope s.heap.objs.size f cd) (cxX P w K mg base N qual scope f cd A outer s H E).xe :=
  passX (X := cxOf (CXR P w) P w K mg base N qual scope f cd A outer s H E) rfl rfl
theorem Fun.okX {x qual : Str} {st : Stmt} {f : Addr} {fd : FuncData} {N ps : List Str} {k : Nat} {sp : Sp} (F : Fun K x qual st f fd) (S : FnScope N ps (defScope st)) (len : ∀ vs H Q E, sp vs H Q E → vs.length = ps.length)
    (hbody : ∀ (cdv : Value) (A : Around) (outer : List Env) (s : Shared) (H : Hp) (vs : List V) (Q : VK) (E : XK), Room k (A.deeper (envOfC qual (defScope st) s.heap.objs.size f cdv)) → sp vs H Q E →
      ∃ t, PSs (cxX P w K mg base N qual (defScope st) f cdv A outer s H E) (defBody st) t ∧ t { nx := fun _ H' => Q .non H', rt := Q } (start N vs) H) : FnOk P w K mg base (CXR P w) (k + 1) f fd ps sp := by
  obtain ⟨oc, od, kV, doc, pm, an, cdv, ct, osl, rfl, lk, hcd⟩ := F.ex
  refine fn_of lk hcd S len fun A outer s H vs Q E hr hsp => ?_
  obtain ⟨t, h, q⟩ := hbody cdv A outer s H vs Q E hr hsp
  exact ⟨t, PSs.wishX (fun e s' z => leaves z) h, q⟩
structure CalX (P : Program) (w : World) (K : PySem.W.Frag) (mg : Str → Option Value) (base : Heap) (x : Str) (k : Nat) (ps : List Str) (sp : Sp) : Prop where
  ex : ∃ f fd, FnOk P w K mg base (CXR P w) k f fd ps sp ∧ mg x = some (.ref f) ∧ PySem.W.keepIn K (.ref f) = true ∧ Binds K fd ps []
theorem Df.calX {x : Str} {st : Stmt} {N ps : List Str} {k : Nat} {sp : Sp} (D : Df K mg x st ps) (S : FnScope N ps (defScope st)) (len : ∀ vs H Q E, sp vs H Q E → vs.length = ps.length)
    (hbody : ∀ (f : Addr) (cdv : Value) (A : Around) (outer : List Env) (s : Shared) (H : Hp) (vs : List V) (Q : VK) (E : XK), Room k (A.deeper (envOfC x (defScope st) s.heap.objs.size f cdv)) → sp vs H Q E →
      ∃ t, PSs (cxX P w K mg base N x (defScope st) f cdv A outer s H E) (defBody st) t ∧ t { nx := fun _ H' => Q .non H', rt := Q } (start N vs) H) : CalX P w K mg base x (k + 1) ps sp := by
  obtain ⟨f, fd, F, hm, hb⟩ := D.ex
  exact ⟨f, fd, F.okX S len fun cdv A outer s H vs Q E hr h => hbody f cdv A outer s H vs Q E hr h, hm, F.kp, hb⟩
end
section
variable {X : Cx} {J : Addr → St → Hp → Prop} {k j : Nat} {f : Addr} {fd : FuncData} {ps : List Str} {sp : Sp} {x : Str} {p pos : Pos} {e : Expr} {es : List Expr} {t : TA}
def tCallX (sp : Sp) (J : Addr → St → Hp → Prop) (t : TA) : TE := fun σ H Q => t σ H fun vs H1 => sp vs H1 Q fun e _ H' => ∀ ea, e = .ref ea → J ea σ H'
theorem run_fnX {pins : List (Addr × Obj)} {σ : St} {H : Hp} {s : Shared} {Q : VK} {us : List Value} {vs : List V} (F : FnOk X.prog X.w X.K X.mg X.base (CXR X.prog X.w) k f fd ps sp) (hr : Room k X.A) (hb : Binds X.K fd ps []) (hx : AccX X J)
    (I : Inv X pins σ H s) (r : Vals vs us) (h : sp vs H Q fun e _ H' => ∀ ea, e = .ref ea → J ea σ H') : wpAny (model X.prog X.w) X.A (call (.ref f) us) (EP X pins σ Q) X.xe s := by
  have hl : (us ++ []).length = ps.length := by rw [List.append_nil, ← r.length]; exact F.len _ _ _ _ h
  have hb' := hb s us I.kIn hl
  rw [List.append_nil] at hb'
  refine wpAny_call (codeAny_mono (F.run X.A X.stack s H ⟨us, []⟩ us vs Q _ hr I.env0 hb' r h) fun r s' hq => ?_)
  cases r with
  | error e =>
    obtain ⟨ea, H', rfl, os, bare, un, hok, hnew, hat, ⟨oe, ws, he, hd, ht, hT⟩, j⟩ := hq
    have I' : Inv X pins σ H' s' := I.call' os un hok bare fun b z => absurd z (by simp)
    refine hx.acc _ _ ⟨pins, σ, H', ea, rfl, I', ⟨hat, ⟨oe, ws, he, hd, ?_, fun T hTT => ?_⟩, Nat.le_trans I.sz hnew⟩, j ea rfl⟩
    · rcases ht with z | ⟨T, z⟩
      · exact .inl z
      · exact .inr ⟨T, .inl z⟩
    · obtain ⟨a1, a2⟩ := hT T hTT
      refine ⟨Nat.le_trans I.sz a1, a2, fun z => absurd I.lt (Nat.not_lt.mpr (z ▸ a1)), fun y c hy z => ?_, fun q hq z => ?_⟩
      · obtain ⟨v, o, ho, _⟩ := I.cell y c hy
        exact absurd (Heap.lt_size ho) (Nat.not_lt.mpr (z ▸ a1))
      · obtain ⟨ho, _⟩ := I.pin q hq
        exact absurd (Heap.lt_size ho) (Nat.not_lt.mpr (z ▸ a1))
  | ok fl =>
    cases fl with
    | ret u => exact I.after hq
    | next => exact False.elim hq
    | brk => exact False.elim hq
    | cont => exact False.elim hq
theorem pe_cX (C : CalX X.prog X.w X.K X.mg X.base x k ps sp) (hr : Room j X.A) (hx : AccX X J) (ha : PA X (e :: es) t) (hjk : k ≤ j := by decide) (hg : Gl X x := by rfl) (hdb : (x == ("__debug__" : Str)) = false := by decide)
    (he : starEach (e :: es) X.env = (false, eval e X.env) :: starEach es X.env := by rfl) (hpl : (backTo pos (starEach es X.env)).any (·.1) = false := by rfl) :
    PE X (.Call (.Name x p) (e :: es) [] pos) (tCallX sp J t) := by
  obtain ⟨f, fd, F, hm, hk, hb⟩ := C.ex
  intro pins s σ H Q I h
  refine wpAny_Call_Name_kw (ld_glob I hg hm ?_ hdb)
  refine PySem.W.callWith_K (h₀ := X.base) I.ok.mod.kin hk (thn (ha pos pins s σ H _ I h) fun us s1 ⟨vs, H1, I1, r, q⟩ => ⟨I1.kIn, ?_⟩) he hpl
  exact run_fnX F (hr.mono hjk) hb hx I1 r q
end
end L2
namespace L2
open PySem PySem.Spec PyProof.Rows
structure ECls (K : PySem.W.Frag) (C : Addr) (bm : List Value) : Prop where
  ex : ∃ nm q N bs hdct sn sub ab col dd k0 k1 k2 k3 k5 newId, K.lookup C = some (excClassObj nm q C N bs bm hdct sn sub ab col dd k0 k1 k2 k3 k5 newId)
  base : bm.contains (.type "BaseException") = true
section
variable {M : Model} {A : Around} {E : Value → Shared → Prop} {h : Heap} {g : Array GenState} {d : Drawn} {t : Nat} {os : OsState}
variable {nm q : Str} {C N : Addr} {bs bm : List Value} {hdct : Bool} {sn : List Str} {sub : List Value} {ab : Bool} {col : Option Bool} {dd : Option Addr} {k0 k1 k2 k3 k5 : Option Value} {newId : String}
variable {nm' q' : Str} {D N' : Addr} {bs' bm' : List Value} {hdct' : Bool} {sn' : List Str} {sub' : List Value} {ab' : Bool} {col' : Option Bool} {dd' : Option Addr} {k0' k1' k2' k3' k5' : Option Value} {newId' : String}
theorem excMatchX {e : Addr} {oe : Obj} {Q : Bool → Shared → Prop} (hC : h.get? C = some (excClassObj nm q C N bs bm hdct sn sub ab col dd k0 k1 k2 k3 k5 newId)) (hD : h.get? D = some (excClassObj nm' q' D N' bs' bm' hdct' sn' sub' ab' col' dd' k0' k1' k2' k3' k5' newId'))
    (he : h.get? e = some oe) (hcls : oe.cls = .ref C) (hbase : bm'.contains (.type "BaseException") = true) (hq : Q ((Value.ref C :: bm).contains (.ref D)) ⟨h, g, d, t, os⟩) : wpAny M A (excMatches (.ref e) (.ref D)) Q E ⟨h, g, d, t, os⟩ := by
  have hcB : (Value.ref D :: bm').contains (.type "BaseException") = true := by rw [List.contains_cons, hbase, Bool.or_true]
  have f := tc_notTuple
  unfold excMatches
  repeat (first | (with_reducible refine wpAny_loadPart_at he ?_; rw [hcls]) | with_reducible refine wpAny_loadPart_at hD ?_ | (with_reducible refine wpAny_isSubtype_exc hD ?_; rw [hcB]) | (with_reducible refine wpAny_isSubtype_exc hC ?_) | wp_step)
  cases hb : (Value.ref C :: bm).contains (.ref D) <;> (rw [hb] at hq; wp_walk; exact hq)
end
section
variable {X : Cx} {pins : List (Addr × Obj)} {σ : St} {H : Hp} {s : Shared}
theorem goes_ok {M : Model} {A : Around} {E : Value → Shared → Prop} {i : Nat} {x : Str} {pos : Pos} {Q : Unit → Shared → Prop} (I : Inv X pins σ H s) (hN : X.N.Nodup) (hi : X.N[i]? = some x) (hk : X.env.scope.names.lookup x = some .local)
    (h : ∀ s', Inv X pins (σ.set i none) H s' → Q () s') : wpAny M A (do bindName X.env x .none; unbindBehindTheSuite X.env x pos) Q E s := by
  obtain ⟨m, hn, hl⟩ := id I.loc
  have hcls : (X.env.scope.kind == .class || (X.env.scope.kind == .module && X.env.locals != X.env.globals)) = false := by rw [I.ok.kind]; rfl
  have hiσ : i < σ.length := by rw [I.len]; exact (List.getElem?_eq_some_iff.mp hi).1
  have cne := I.cne
  have tracked : ∀ {a : Addr} {h' : Heap}, (∃ o, s.heap.get? a = some o ∧ H a = none) → Heap.SameBut a s.heap h' → HOk X.prog X.w H h' := fun {a h'} ha hs b ob e => by
    obtain ⟨_, _, hfree⟩ := ha
    refine (I.hok b ob e).stay (fun c w' hc q => (hs.2 c ?_).trans q) (fun _ q => q) fun _ _ q => q
    rintro rfl
    rcases hc with rfl | hc
    · rw [hfree] at e; cases e
    · rw [hfree] at hc; cases hc
  refine wpAny_nameGoes_keeps hk hn hcls fun h' v hn' hs => ?_
  obtain ⟨oL, _, _, hoL, _⟩ := id hn
  refine h _ ⟨I.ok, I.os, I.bare, ⟨fun b o e n hb hx => ?_, fun b o e n hb hx => ?_, I.base.free, fun b o e hx => ?_, I.base.tups, I.base.frzs, I.base.tbls⟩, ⟨_, hn', fun j y v' e1 e2 e3 => ?_⟩, fun y c e => ?_, I.free, I.freeC, fun p hp => ?_, tracked ⟨oL, hoL, I.free⟩ hs, by simpa using I.len⟩
  · exact (hs.2 b (Nat.ne_of_lt (Nat.lt_of_lt_of_le (Heap.lt_size e) I.ok.above))).trans (I.base.keep b o e n hb hx)
  · obtain ⟨sl, e1⟩ := I.base.slot b o e n hb hx
    exact ⟨sl, (hs.2 b (Nat.ne_of_lt (Nat.lt_of_lt_of_le (Heap.lt_size e) I.ok.above))).trans e1⟩
  · obtain ⟨o', e1⟩ := I.base.there b o e hx
    exact ⟨o', (hs.2 b (Nat.ne_of_lt (Nat.lt_of_lt_of_le (Heap.lt_size e) I.ok.above))).trans e1⟩
  · by_cases hj : j = i
    · subst hj
      rw [List.getElem?_set_self hiσ] at e2
      cases e2
    · rw [List.getElem?_set_ne (Ne.symm hj)] at e2
      obtain ⟨u', r', q⟩ := hl j y v' e1 e2 e3
      refine ⟨u', r', ?_⟩
      rcases q with ⟨k, e⟩ | ⟨k, c, e, z⟩
      · refine .inl ⟨k, ?_⟩
        have : y ≠ x := fun e => hj (nodup_ix hN e1 (e ▸ hi))
        simp [this, e]
      · exact .inr ⟨k, c, e, z.sameBut hs (cne y c e)⟩
  · obtain ⟨w', z⟩ := I.cell y c e
    exact ⟨w', z.sameBut hs (cne y c e)⟩
  · obtain ⟨e, n, ne, nf, d⟩ := I.pin p hp
    exact ⟨(hs.2 p.1 ne).trans e, n, ne, nf, d⟩
abbrev Cx.pinned (X : Cx) (pn : List (Addr × Obj)) : Cx := { X with pn := pn }
theorem Cx.Ok.pinned {pn : List (Addr × Obj)} (ok : X.Ok) : (X.pinned pn).Ok := ⟨ok.mod, ok.kind, ok.glob, ok.blt, ok.above, ok.inj, ok.has, ok.cab, ok.hd, ok.frames, ok.stk, ok.exf, ok.bs, ok.bsz, ok.noex, ok.exfs, ok.funs, ok.frf⟩
theorem Cx.Ok.unpin {pn : List (Addr × Obj)} (ok : (X.pinned pn).Ok) : X.Ok := ⟨ok.mod, ok.kind, ok.glob, ok.blt, ok.above, ok.inj, ok.has, ok.cab, ok.hd, ok.frames, ok.stk, ok.exf, ok.bs, ok.bsz, ok.noex, ok.exfs, ok.funs, ok.frf⟩
theorem Inv.toPn (I : Inv X pins σ H s) : Inv (X.pinned (X.pn ++ pins)) [] σ H s := ⟨I.ok.pinned, I.os, I.bare, I.base, I.loc, I.cell, I.free, I.freeC, fun p hp => I.pin p (by simpa using hp), I.hok, I.len⟩
theorem Inv.ofPn {pins' : List (Addr × Obj)} (I : Inv (X.pinned (X.pn ++ pins)) pins' σ H s) : Inv X pins σ H s := ⟨I.ok.unpin, I.os, I.bare, I.base, I.loc, I.cell, I.free, I.freeC, fun p hp => I.pin p (List.mem_append_left _ hp), I.hok, I.len⟩
theorem FlX.ofPn {pins' : List (Addr × Obj)} {e : Addr} (F : FlX (X.pinned (X.pn ++ pins)) pins' H s e) : FlX X pins H s e := by
  obtain ⟨oe, vs, h1, h2, h3, h4⟩ := F.tb
  exact ⟨F.at_, ⟨oe, vs, h1, h2, h3, fun T hT => let ⟨a, b, c, d, f⟩ := h4 T hT; ⟨a, b, c, d, fun p hp => f p (List.mem_append_left _ hp)⟩⟩, F.new⟩
abbrev Cx.hand (X : Cx) (e : Addr) : Cx := { X with A := X.A.mark (some (.ref e)), calm := false, xe := fun _ _ => False }
theorem Cx.Ok.hand {e : Addr} (ok : X.Ok) : (X.hand e).Ok := ⟨ok.mod, ok.kind, ok.glob, ok.blt, ok.above, ok.inj, ok.has, ok.cab, (fun z => by cases z), ok.frames, ok.stk, ok.exf, ok.bs, ok.bsz, ok.noex, ok.exfs, ok.funs, ok.frf⟩
theorem Inv.hand (I : Inv X pins σ H s) (e : Addr) : Inv (X.hand e) pins σ H s := ⟨I.ok.hand, I.os, I.bare, I.base, I.loc, I.cell, I.free, I.freeC, I.pin, I.hok, I.len⟩
theorem Inv.unhand {e : Addr} (I : Inv (X.hand e) pins σ H s) (ok : X.Ok) : Inv X pins σ H s := ⟨ok, I.os, I.bare, I.base, I.loc, I.cell, I.free, I.freeC, I.pin, I.hok, I.len⟩
def SubX (K : PySem.W.Frag) (C : Value) (D : Addr) : Prop := ∃ c bm, C = .ref c ∧ ECls K c bm ∧ (Value.ref c :: bm).contains (.ref D) = true
def gone (i : Nat) (D : Ends) : Ends := ⟨fun σ H => D.nx (σ.set i none) H, D.rt, fun σ H => D.bk (σ.set i none) H, fun σ H => D.ct (σ.set i none) H⟩
def tTry (K : PySem.W.Frag) (i : Nat) (C : Addr) (th : TS) (tb : (Addr → St → Hp → Prop) → TS) : TS := fun D σ H => ∃ J : Addr → St → Hp → Prop,
  (∀ ea σ' H', J ea σ' H' → (∃ c dd, H' ea = some (ExO c dd ea) ∧ SubX K c C) ∧ th (gone i D) (σ'.set i (some (.ref ea))) H') ∧ tb J D σ H
theorem ps_try {body suite : List Stmt} {b₀ : Stmt} {dn n : Str} {i : Nat} {C : Addr} {bmC : List Value} {dp hp pos : Pos} {tb : (Addr → St → Hp → Prop) → TS} {th : TS} (K : PySem.W.Frag) (hK : X.K = K) (hst : X.stack = X.env :: X.outer) (hf : X.env.frame = some X.env.locals)
    (hN : X.N.Nodup) (hi : X.N[i]? = some n) (hk : X.env.scope.names.lookup n = some .local) (hg : Gl X dn) (hm : X.mg dn = some (.ref C)) (eC : ECls X.K C bmC)
    (hb : ∀ pn J, PSs ((X.pinned pn).wish (XE (X.pinned pn) J)) body (tb J)) (hh : ∀ ea, PSs (X.hand ea) (b₀ :: suite) th) (hdb : (dn == ("__debug__" : Str)) = false := by decide) :
    PS X (.Try body [.ExceptHandler (some (.Name dn dp)) (some n) (b₀ :: suite) hp] [] [] pos) (tTry K i C th tb) := by
  subst hK
  intro pins s σ H D I ⟨J, hJ, q⟩
  refine wpAny_Try_except (wpAny_mono (hb (X.pn ++ pins) J [] s σ H D (I.toPn.wish _) q) (fun f s1 z => ?_) fun e s1 z => ?_)
  · have z' := z.unwish
    have z2 : SP X pins D f s1 := by
      cases f with
      | next => obtain ⟨σ', H', I', q'⟩ := z'; exact ⟨σ', H', I'.ofPn, q'⟩
      | brk => obtain ⟨σ', H', I', q'⟩ := z'; exact ⟨σ', H', I'.ofPn, q'⟩
      | cont => obtain ⟨σ', H', I', q'⟩ := z'; exact ⟨σ', H', I'.ofPn, q'⟩
      | ret u => obtain ⟨v, σ', H', I', r, q'⟩ := z'; exact ⟨v, σ', H', I'.ofPn, r, q'⟩
    cases f with
    | next => exact wpAny_execs_nil z2
    | ret v => exact z2
    | brk => exact z2
    | cont => exact z2
  · obtain ⟨pins', σ1, H1, ea, rfl, I1, F1, j⟩ := z
    have I1 := I1.ofPn
    have F1 := F1.ofPn
    obtain ⟨⟨c, dd, hat, cc, bm, rfl, eCc, hsub⟩, hth⟩ := hJ ea σ1 H1 j
    obtain ⟨oe, vs, he, hd, ht, hT⟩ := F1.tb
    have hfr : X.A.frames = some (X.env :: X.outer) := by rw [← hst]; exact I.ok.frames
    have hl : s1.heap.FunFrames X.base (X.env :: X.outer) := by rw [← hst]; exact I1.stack
    refine noteX hfr hl hf he hd ht fun h2 L2 => ?_
    rw [← frs_eq hst] at L2
    obtain ⟨I2, F2, oe2, vs2, T2, e2, d2, t2⟩ := I1.leftX F1 he hd (.inr rfl) hT L2
    have land : ∀ {s' : Shared} {oe : Obj} {vs : Array Value} {T : Addr} {fl : Value} {Aa : Around} {Ee : Value → Shared → Prop} {Q : Unit → Shared → Prop}, Inv X pins σ1 H1 s' → FlX X pins H1 s' ea → s'.heap.get? ea = some oe → oe.data = .fields vs → TbAt s'.heap ea vs T fl →
        (∀ h', Inv X pins σ1 H1 { s' with heap := h' } → FlX X pins H1 { s' with heap := h' } ea → (∃ oe' vs' T', h'.get? ea = some oe' ∧ oe'.data = .fields vs' ∧ TbAt h' ea vs' T' .none) → Q () { s' with heap := h' }) → wpAny (model X.prog X.w) Aa (setFlight (.ref ea) none) Q Ee s' := by
      intro s' oe vs T fl Aa Ee Q I' F' e' d' t' k
      have hTf : T ∉ frs X.stack := fun hm => by
        obtain ⟨_, _, oT, ts, q1, q2, _⟩ := t'
        obtain ⟨_, o, ho, hnf⟩ := I'.stack.mem hm
        rw [q1] at ho; injection ho with ho; subst ho; exact hnf ts q2
      obtain ⟨oe1', vs1', e1', d1', _, hT1⟩ := F'.tb
      have q : oe1' = oe ∧ vs1' = vs := by
        rw [e'] at e1'
        injection e1' with z
        subst z
        rw [d'] at d1'
        injection d1' with y
        exact ⟨rfl, y.symm⟩
      obtain ⟨rfl, rfl⟩ := q
      refine flightX (f := none) e' d' t' hTf fun h3 L3 => ?_
      obtain ⟨I3, F3, oe3, vs3, T3, e3, d3, t3⟩ := I'.leftX F' e' d' (.inl rfl) hT1 L3
      exact k h3 I3 F3 ⟨oe3, vs3, T3, e3, d3, t3⟩
    refine land I2 F2 e2 d2 t2 fun h3 I3 F3 ⟨oe3, vs3, T3, e3, d3, t3⟩ => ?_
    refine wpAny_handleBy_cons (codeAny_handlers_test ?_) (by intro z; cases z)
    refine ld_glob (X := X.hand ea) (I3.hand ea) hg hm ?_ hdb
    obtain ⟨nm, q0, N, bs, hdct, sn, sub, ab, col, dd0, k0, k1, k2, k3, k5, newId, lk⟩ := eCc.ex
    obtain ⟨nm', q0', N', bs', hdct', sn', sub', ab', col', dd0', k0', k1', k2', k3', k5', newId', lk'⟩ := eC.ex
    have hcls : ∃ oe, h3.get? ea = some oe ∧ oe.cls = .ref cc := by
      obtain ⟨⟨ws, sl, z, _⟩, _, _⟩ := I3.hok ea _ hat
      exact ⟨_, z, rfl⟩
    obtain ⟨oe4, e4, c4⟩ := hcls
    refine excMatchX (I3.kIn _ _ lk) (I3.kIn _ _ lk') e4 c4 eC.base ?_
    rw [hsub]
    refine codeAny_handlers_suite_as (land I3 F3 e3 d3 t3 fun h5 I5 F5 _ => ?_)
    refine store_ok (X := X.hand ea) (I5.hand ea) hN hi (.inl hk) (show RelV (.ref ea) (.ref ea) from rfl) (fun s6 I6 => ?_) (.inr hk)
    refine wpAny_mono (hh ea pins s6 _ H1 (gone i D) I6 hth) (fun f s7 z => ?_) fun _ _ z => z.elim
    cases f with
    | next =>
      obtain ⟨σ', H', I', q'⟩ := z
      exact goes_ok (I'.unhand I.ok) hN hi hk fun s8 I8 => ⟨_, H', I8, q'⟩
    | brk =>
      obtain ⟨σ', H', I', q'⟩ := z
      exact goes_ok (I'.unhand I.ok) hN hi hk fun s8 I8 => ⟨_, H', I8, q'⟩
    | cont =>
      obtain ⟨σ', H', I', q'⟩ := z
      exact goes_ok (I'.unhand I.ok) hN hi hk fun s8 I8 => ⟨_, H', I8, q'⟩
    | ret u =>
      obtain ⟨v, σ', H', I', r, q'⟩ := z
      exact goes_ok (I'.unhand I.ok) hN hi hk fun s8 I8 => ⟨v, _, H', I8, r, q'⟩
end
end L2
namespace L2
open PySem PySem.Spec PyProof.Rows
section
variable {prog : Program} {w : World} {A : Around} {E : Value → Shared → Prop} {h : Heap} {g : Array GenState} {d : Drawn} {t : Nat} {os : OsState}
variable {nm q : Str} {C N : Addr} {bs bm bmB : List Value} {hdct : Bool} {sn : List Str} {sub : List Value} {ab : Bool} {col : Option Bool} {dd : Option Addr} {k0 k1 k2 k3 k5 : Option Value} {B newId initId : String}
theorem type_call_exc_initT (F : ExcBaseFacts B newId initId bmB) (T : OwnTail h bmB bm) {mN : Str → Option Value} {rest : List Value} {fI : Addr} {oI : Obj} {Q : Fin → Shared → Prop}
    (hC : h.get? C = some (excClassObj nm q C N bs bm hdct sn sub ab col dd k0 k1 k2 k3 k5 newId)) (hn : h.Ns N mN) (hi : mN "__init__" = some (.ref fI))
    (hfI : h.get? fI = some oI) (hfc : oI.cls = .type "function")
    (hq : ∀ h' e, Heap.MadeExcOf h h' e (.ref C) rest → h.objs.size ≤ e →
      wpAny (model prog w) A (call (.ref fI) (.ref e :: rest)) (fun r s' => r = .none ∧ Q (.done (.ret (.ref e))) s') E ⟨h', g, d, t, os⟩) (hrest : rest.length ≤ sizeLine := by size_fits) :
    wpAny (model prog w) A (Builtin.«type.__call__» ⟨.ref C :: rest, []⟩) Q E ⟨h, g, d, t, os⟩ := by
  repeat (first | with_reducible refine wpAny_loadPart_at hC ?_ | with_reducible refine wpAny_madeBy_exc hC ?_ | wp_step)
  refine codeAny_call_builtin_code (Code.quiet_builtin _ F.quiet) (wpAny_check_new_subT F T hC ?_)
  refine codeAny_exc_new_subT F T hC ?_ hrest
  show wpAny _ _ _ _ _ _
  have hC₁ := Heap.get?_push_of_some { cls := .ref C, data := .fields #[.ref h.objs.size, .none, .none, .none, .bool false, .none] }
    (Heap.get?_push_of_some { cls := .type "tuple", data := .seq rest.toArray } hC)
  have hfI₁ := Heap.get?_push_of_some { cls := .ref C, data := .fields #[.ref h.objs.size, .none, .none, .none, .bool false, .none] }
    (Heap.get?_push_of_some { cls := .type "tuple", data := .seq rest.toArray } hfI)
  have hn₁ : ((h.push { cls := .type "tuple", data := .seq rest.toArray }).push { cls := .ref C, data := .fields #[.ref h.objs.size, .none, .none, .none, .bool false, .none] }).Ns N mN :=
    let ⟨o, es, ep, e, r⟩ := hn; ⟨o, es, ep, Heap.get?_push_of_some _ (Heap.get?_push_of_some _ e), r⟩
  have hget : ((h.push { cls := .type "tuple", data := .seq rest.toArray }).push
      { cls := .ref C, data := .fields #[.ref h.objs.size, .none, .none, .none, .bool false, .none] }).get? (h.objs.size + 1) = some
      { cls := .ref C, data := .fields #[.ref h.objs.size, .none, .none, .none, .bool false, .none] } := by heap_get
  have T₁ := T.keeps (h' := (h.push { cls := .type "tuple", data := .seq rest.toArray }).push { cls := .ref C, data := .fields #[.ref h.objs.size, .none, .none, .none, .bool false, .none] })
    fun b o e => Heap.get?_push_of_some _ (Heap.get?_push_of_some _ e)
  have hcC : (Value.ref C :: bm).contains (.ref C) = true := by simp
  unfold isInstance
  repeat (first | with_reducible refine wpAny_loadPart_at hget ?_ | (with_reducible refine wpAny_isSubtype_exc hC₁ ?_; rw [hcC]) | wp_step)
  show wpAny _ _ (typeLookup (.ref C) _) _ _ _
  refine wpAny_typeLookup_tail hC₁ hn₁ T₁ F.mroIs F.init.lookup ?_
  rw [hi]
  refine wpAny_holding (wpAny_bind ?_)
  unfold bindSpecial
  refine wpAny_bind (wpAny_typeOf (T := "function") ⟨_, hfI₁, hfc⟩ ?_)
  rw [if_pos (by decide)]
  refine wpAny_pure (wpAny_bind (wpAny_mono (hq _ (h.objs.size + 1) ⟨fun b o hb => Heap.get?_push_of_some _ (Heap.get?_push_of_some _ hb), Heap.get?_none_of_le (Nat.le_succ _), h.objs.size, hget, Heap.get?_none_of_le (Nat.le_refl _), ?_⟩ (Nat.le_succ _)) (fun r s' hr => ?_) fun _ _ x => x))
  · exact Heap.get?_push_of_some _ (Heap.get?_push_at rfl rfl)
  · obtain ⟨rfl, hQ⟩ := hr
    wp_walk
    exact hQ
theorem call_exc_initT (F : ExcBaseFacts B newId initId bmB) (T : OwnTail h bmB bm) {mN : Str → Option Value} {rest : List Value} {fI : Addr} {oI : Obj} {Q : Value → Shared → Prop}
    (hC : h.get? C = some (excClassObj nm q C N bs bm hdct sn sub ab col dd k0 k1 k2 k3 k5 newId)) (hn : h.Ns N mN) (hi : mN "__init__" = some (.ref fI))
    (hfI : h.get? fI = some oI) (hfc : oI.cls = .type "function")
    (hq : ∀ h' e, Heap.MadeExcOf h h' e (.ref C) rest → h.objs.size ≤ e →
      wpAny (model prog w) (A.under (.builtin "type.__call__" ⟨.ref C :: rest, []⟩)) (call (.ref fI) (.ref e :: rest)) (fun r s' => r = .none ∧ Q (.ref e) s') E ⟨h', g, d, t, os⟩) (hrest : rest.length ≤ sizeLine := by size_fits) :
    wpAny (model prog w) A (call (.ref C) rest) Q E ⟨h, g, d, t, os⟩ := by
  have f1 := tc_lookup
  have f2 := tc_bind (.ref C)
  have hT : (⟨h, g, d, t, os⟩ : Shared).TypeIs (.ref C) "type" := ⟨_, hC, rfl⟩
  refine wpAny_call (codeAny_of_tree ?_)
  show wpAny _ _ (callAny (.ref C) _) _ _ _
  repeat (any_goals (first | assumption | with_reducible refine wpAny_loadPart_at hC ?_ | wp_step))
  refine ⟨rfl, ?_⟩
  refine codeAny_call_builtin_at (Code.quiet_builtin _ (by decide +kernel)) entry_typeCall (wpAny_check_type_call_sub hC (type_call_exc_initT (hrest := hrest) F T hC hn hi hfI hfc fun h' e hm hle => ?_))
  exact hq h' e hm hle
theorem raiseX {env : Env} {M : Model} {s : Shared} {x : Sem Value} {Q : Flow → Shared → Prop} (hbase : bm.contains (.type "BaseException") = true) (hh : A.handled = none)
    (h : wpAny M A x (fun v s₁ => ∃ e de vs sl, v = .ref e ∧ s₁.heap.get? C = some (excClassObj nm q C N bs bm hdct sn sub ab col dd k0 k1 k2 k3 k5 newId) ∧
      s₁.heap.get? e = some { cls := .ref C, dict := de, data := .fields vs, slots := sl } ∧ vs[1]? = some .none ∧ E (.ref e) s₁) E s) :
    wpAny M A (raiseStmt env (some x) none) Q E s := by
  have hcB : (Value.ref C :: bm).contains (.type "BaseException") = true := by rw [List.contains_cons, hbase, Bool.or_true]
  unfold raiseStmt
  refine wpAny_bind (wpAny_mono h (fun v s₁ h₁ => ?_) fun _ _ x => x)
  obtain ⟨e, de, vs, sl, rfl, hC, he, h1, hE⟩ := h₁
  obtain ⟨hp, g, d, tk, os⟩ := s₁
  repeat (first | with_reducible refine wpAny_loadPart_at he ?_ | with_reducible refine wpAny_loadPart_at hC ?_ | (with_reducible refine wpAny_isSubtype_exc hC ?_; rw [hcB]) | (with_reducible refine wpAny_field he rfl h1 ?_) | wp_step)
  exact wpAny_raiseNew_none hh hE
end
end L2
namespace L2
open PySem PySem.Spec PyProof.Rows
def ExN (C : Value) (dd : Option Addr) (e : Addr) : HO := .ext fun h => ∃ vs sl, h.get? e = some { cls := C, dict := dd, data := .fields vs, slots := sl } ∧ vs.size = 6 ∧ vs[1]? = some .none
abbrev bmV : List Value := [.type "ValueError", .type "Exception", .type "BaseException", .type "object"]
structure EMk (K : PySem.W.Frag) (C fI : Addr) (bm : List Value) : Prop where
  ex : ∃ nm q N bs hdct sn sub ab col dd k0 k1 k2 k3 k5 mN, K.lookup C = some (excClassObj nm q C N bs bm hdct sn sub ab col dd k0 k1 k2 k3 k5 "ValueError.__new__") ∧ (∀ h : Heap, K.In h → h.Ns N mN) ∧ mN "__init__" = some (.ref fI)
  tail : ∀ h : Heap, K.In h → OwnTail h bmV bm
  fn : ∃ oI, K.lookup fI = some oI ∧ oI.cls = .type "function"
  kp : PySem.W.keepIn K (.ref C) = true
theorem EMk.base {K : PySem.W.Frag} {C fI : Addr} {bm : List Value} (M : EMk K C fI bm) {h : Heap} (KX : K.In h) : bm.contains (.type "BaseException") = true := (M.tail h KX).hasType (by decide)
section
variable {X : Cx} {pins : List (Addr × Obj)} {σ : St} {H : Hp} {s : Shared} {e : Addr}
theorem Inv.asO {C : Value} {dd : Option Addr} (I : Inv X pins σ H s) (h : H e = some (ExN C dd e)) : Inv X pins σ (upd H e (ExO C dd e)) s := by
  have un : Un (frs X.stack) [] H (upd H e (ExO C dd e)) s.heap s.heap := by
    have hk : ∀ {b : Addr} {o : HO}, H b = some o → b ≠ e ∨ o = ExN C dd e := fun {b o} hb => by
      by_cases z : b = e
      · right; rw [z, h] at hb; exact (Option.some.inj hb).symm
      · exact .inl z
    refine ⟨fun b o hb _ _ _ => hb, fun b o hb _ _ _ => ⟨o.slots, hb⟩, fun b o _ n _ => ?_, fun b o hb _ => ⟨o, hb⟩, fun b xs q => ?_, fun b o u q => ?_, fun b ps q => ⟨#[], ?_⟩⟩
    · rw [upd_ne (fun z => by rw [z, h] at n; cases n)]; exact n
    · rcases hk q with z | z
      · rw [upd_ne z]; exact q
      · cases z
    · rcases hk q with z | z
      · rw [upd_ne z]; exact q
      · cases z
    · rcases hk q with z | z
      · rw [upd_ne z, q]; simp
      · cases z
  have hok : HOk X.prog X.w (upd H e (ExO C dd e)) s.heap := fun a o ha => by
    by_cases z : a = e
    · subst z
      rw [upd_same] at ha
      cases ha
      obtain ⟨⟨vs, sl, q1, q2, _⟩, q3, _⟩ := I.hok a _ h
      exact ⟨⟨vs, sl, q1, q2⟩, q3, fun h1 h2 ⟨ws, sl, k1, k2⟩ k => ⟨ws, sl, k _ k1, k2⟩⟩
    · rw [upd_ne z] at ha
      refine (I.hok a o ha).stay (fun b u _ q => q) (fun b q => ?_) fun b xs q => ?_
      · rw [upd_ne (fun y => by rw [y, h] at q; cases q)]; exact q
      · rw [upd_ne (fun y => by rw [y, h] at q; cases q)]; exact q
  exact I.call' (s' := s) rfl un hok I.bare fun b z => absurd z (by simp)
def tRaise (C : Addr) (sp : Sp) (J : Addr → St → Hp → Prop) (t : TA) : TS := fun _ σ H => t σ H fun vs H1 => ∀ ea, H1 ea = none →
  sp (.ref ea :: vs) (upd H1 ea (ExN (.ref C) none ea)) (fun v H2 => v = .non ∧ ∃ dd, H2 ea = some (ExN (.ref C) dd ea) ∧ J ea σ (upd H2 ea (ExO (.ref C) dd ea))) E0
theorem ps_raise {J : Addr → St → Hp → Prop} {k : Nat} {C fI : Addr} {bm : List Value} {fd : FuncData} {ps : List Str} {sp : Sp} {x : Str} {np cpos pos : Pos} {e₀ : Expr} {es : List Expr} {t : TA} (M : EMk X.K C fI bm) (F : FnOk X.prog X.w X.K X.mg X.base CX0 k fI fd ps sp) (hr : Room (k + 1) X.A)
    (hb : Binds X.K fd ps []) (hx : AccX X J) (hc : X.calm = true) (hg : Gl X x) (hm : X.mg x = some (.ref C)) (ha : PA X (e₀ :: es) t) (hps : ps.length ≤ 100 := by decide) (hdb : (x == ("__debug__" : Str)) = false := by decide)
    (he : starEach (e₀ :: es) X.env = (false, eval e₀ X.env) :: starEach es X.env := by rfl) (hpl : (backTo cpos (starEach es X.env)).any (·.1) = false := by rfl) :
    PS X (.Raise (some (.Call (.Name x np) (e₀ :: es) [] cpos)) none pos) (tRaise C sp J t) := by
  intro pins s σ H D I h
  obtain ⟨nm, q, N, bs, hdct, sn, sub, ab, col, dd, k0, k1, k2, k3, k5, mN, lk, hN, hi⟩ := M.ex
  obtain ⟨oI, lkI, hfc⟩ := M.fn
  have key : wpAny (model X.prog X.w) X.A (eval (.Call (.Name x np) (e₀ :: es) [] cpos) X.env) (fun v s₁ => ∃ e de vs sl, v = .ref e ∧ s₁.heap.get? C = some (excClassObj nm q C N bs bm hdct sn sub ab col dd k0 k1 k2 k3 k5 "ValueError.__new__") ∧
      s₁.heap.get? e = some { cls := .ref C, dict := de, data := .fields vs, slots := sl } ∧ vs[1]? = some .none ∧ X.xe (.ref e) s₁) X.xe s := by
    refine wpAny_Call_Name_kw (ld_glob I hg hm ?_ hdb)
    refine PySem.W.callWith_K (h₀ := X.base) I.ok.mod.kin M.kp (thn (ha cpos pins s σ H _ I h) fun us s1 ⟨vs, H1, I1, r, hq⟩ => ⟨I1.kIn, ?_⟩) he hpl
    obtain ⟨hp, g, dr, tk, os⟩ := s1
    have KX := I1.kIn
    have hlen : us.length ≤ sizeLine := by
      have hh := F.len _ _ _ _ (hq hp.objs.size (I1.hok.fresh (Nat.le_refl _)))
      rw [List.length_cons] at hh
      rw [← r.length, sizeLine_eq]
      lia
    refine call_exc_initT (hrest := hlen) PySem.F.excBase_ValueError (M.tail hp KX) (KX _ _ lk) (hN hp KX) hi (KX _ _ lkI) hfc fun h' e hme hle => ?_
    have hfree := I1.hok.fresh hle
    obtain ⟨t0, hrec, _, _⟩ := hme.there
    have I2 : Inv X pins σ (upd H1 e (ExN (.ref C) none e)) ⟨h', g, dr, tk, os⟩ := I1.laid (h' := h') (t' := tk) (fun b u q => hme.keeps b u q) hle ⟨⟨_, _, hrec, rfl, rfl⟩, ⟨_, hrec⟩, fun h1 h2 ⟨ws, sl, k1, k2⟩ k => ⟨ws, sl, k _ k1, k2⟩⟩
    have hq' := hq e hfree
    have r2 : Vals (V.ref e :: vs) (Value.ref e :: us) := .cons rfl r
    have hl : ((Value.ref e :: us) ++ []).length = ps.length := by rw [List.append_nil, ← r2.length]; exact F.len _ _ _ _ hq'
    have hb' := hb ⟨h', g, dr, tk, os⟩ (Value.ref e :: us) I2.kIn hl
    rw [List.append_nil] at hb'
    refine wpAny_call (codeAny_mono (F.run _ X.stack _ _ ⟨Value.ref e :: us, []⟩ (Value.ref e :: us) _ _ _ (hr.make C us []) (I2.env0.make C us []) hb' r2 hq') fun r s' hz => ?_)
    cases r with
    | error e => exact hz.elim
    | ok fl =>
      cases fl with
      | ret u =>
        obtain ⟨v, H', I3, rv, ev, de, hE, j⟩ := I2.after hz
        subst ev
        refine ⟨rv, ?_⟩
        obtain ⟨⟨ws, sl, q1, q2, q3⟩, _, _⟩ := I3.hok e _ hE
        refine ⟨e, de, ws, sl, rfl, I3.kIn _ _ lk, q1, q3, hx.acc _ _ ⟨pins, σ, _, e, rfl, I3.asO hE, ⟨⟨_, _, upd_same⟩, ⟨_, ws, q1, rfl, .inl q3, fun T hT => ?_⟩, Nat.le_trans I1.sz hle⟩, j⟩⟩
        rw [q3] at hT
        cases hT
      | next => exact False.elim hz
      | brk => exact False.elim hz
      | cont => exact False.elim hz
  rw [arm_exec_Raise]
  have hbase := M.base I.kIn
  first
    | exact wpAny_bind (wpAny_standAt (raiseX hbase (I.ok.hd hc) (wpAny_bind (wpAny_mono key (fun v s₁ z => wpAny_bind (wpAny_standAt (wpAny_pure z))) fun _ _ z => z))))
    | (simp only [evalOpt, Option.map]; exact wpAny_bind (wpAny_standAt (raiseX hbase (I.ok.hd hc) (wpAny_bind (wpAny_mono key (fun v s₁ z => wpAny_bind (wpAny_standAt (wpAny_pure z))) fun _ _ z => z)))))
    | exact wpAny_bind (wpAny_standAt (raiseX hbase (I.ok.hd hc) key))
end
end L2
namespace L2
open PySem PySem.Spec PyProof.Rows
section
variable {prog : Program} {w : World} {A : Around} {R : Result → Shared → Prop} {h : Heap} {g : Array GenState} {d : Drawn} {t : Nat} {os : OsState}
variable {nm q : Str} {C N : Addr} {bs bm bmB : List Value} {hdct : Bool} {sn : List Str} {sub : List Value} {ab : Bool} {col : Option Bool} {dd : Option Addr} {k0 k1 k2 k3 k5 : Option Value} {B newId initId : String}
theorem init_call (F : ExcBaseFacts B newId initId bmB) (T : OwnTail h bmB bm) {e : Addr} {de : Option Addr} {vs : Array Value} {sl : Array (Option Value)} {rest : List Value}
    (hC : h.get? C = some (excClassObj nm q C N bs bm hdct sn sub ab col dd k0 k1 k2 k3 k5 newId)) (he : h.get? e = some { cls := .ref C, dict := de, data := .fields vs, slots := sl }) (hs : vs.size = 6) (hrest : rest.length ≤ sizeLine)
    (hq : R (.ok (.ret .none)) ⟨(h.push { cls := .type "tuple", data := .seq rest.toArray }).update e (Obj.mapFields (·.setIfInBounds 0 (.ref h.objs.size))), g, d, t, os⟩) :
    codeAny (model prog w) A (.call (.builtin initId) ⟨.ref e :: rest, []⟩) R ⟨h, g, d, t, os⟩ := by
  refine codeAny_call_builtin F.init.plain F.initEntry (wpAny_check_init_subT F T hC he rfl ?_)
  have he2 := Heap.get?_push_of_some { cls := .type "tuple", data := .seq rest.toArray } he
  wp_walk
  have h0 : vs[(0 : Nat)]? = some (vs[0]'(by lia)) := Array.getElem?_eq_getElem (by lia)
  rw [h0]
  refine wpAny_pure (wpAny_bind (wpAny_setField he2 rfl (by lia) ?_))
  generalize vs[0]'(by lia) = v0
  cases v0 <;> (wp_walk; exact hq)
end
theorem upd_id {H : Hp} {a : Addr} {o : HO} (h : H a = some o) : upd H a o = H := by
  funext b
  by_cases z : b = a
  · rw [z, upd_same, h]
  · rw [upd_ne z]
structure ELow (K : PySem.W.Frag) (C : Addr) (bm : List Value) : Prop where
  ex : ∃ nm q N bs hdct sn sub ab col dd k0 k1 k2 k3 k5, K.lookup C = some (excClassObj nm q C N bs bm hdct sn sub ab col dd k0 k1 k2 k3 k5 "ValueError.__new__")
  tail : ∀ h : Heap, K.In h → OwnTail h bmV bm
theorem EMk.low {K : PySem.W.Frag} {C fI : Addr} {bm : List Value} (M : EMk K C fI bm) : ELow K C bm := by
  obtain ⟨nm, q, N, bs, hdct, sn, sub, ab, col, dd, k0, k1, k2, k3, k5, mN, lk, _⟩ := M.ex
  exact ⟨⟨nm, q, N, bs, hdct, sn, sub, ab, col, dd, k0, k1, k2, k3, k5, lk⟩, M.tail⟩
structure EIni (K : PySem.W.Frag) (D : Addr) (mc : Value) : Prop where
  sp : PySem.W.specialIn K (.ref D) "__getattribute__" = some (some (.builtin "type.__getattribute__"))
  rd : PySem.W.readsIn K D mc = true
  fc : PySem.W.findCls K (.ref D) mc "__init__" = some (.val (.builtin "ValueError.__init__"))
section
variable {X : Cx} {x : Str} {p pos apos : Pos} {a b : Expr} {t : TA} {C D : Addr} {bm : List Value} {mc : Value}
def tIni (C : Addr) (t : TA) : TE := fun σ H Q => t σ H fun vs H1 => ∃ ea v de, vs = [.ref ea, v] ∧ H1 ea = some (ExN (.ref C) de ea) ∧ Q .non H1
theorem pe_ini {pl : Sem Bool} (L : ELow X.K C bm) (N : EIni X.K D mc) (hg : Gl X x) (hm : X.mg x = some (.ref D)) (ha : PA X [a, b] t) (hdb : (x == ("__debug__" : Str)) = false := by decide)
    (hst : starEach [a, b] X.env = (false, eval a X.env) :: starEach [b] X.env := by rfl) (hpl : (backTo pos (starEach [b] X.env)).any (·.1) = false := by rfl)
    (ht : eval (.Call (.Attribute (.Name x p) "__init__" apos) [a, b] [] pos) X.env = (do
      let ov ← eval (.Name x p) X.env
      standAt apos.atName
      let (f, first) ← holding [ov] (getMethod ov "__init__" pl)
      callWith pos f first (backTo pos (starEach [a, b] X.env)) (backToKw pos (keywordEach [] X.env))) := by rfl) :
    PE X (.Call (.Attribute (.Name x p) "__init__" apos) [a, b] [] pos) (tIni C t) := by
  intro pins s σ H Q I h
  refine PySem.W.methodCall_KW (pl := pl) (ld_glob I hg hm ?_ hdb) ht
  refine PySem.W.method_cls I.kIn N.sp (PySem.W.cls_value I.kIn N.rd N.fc rfl ?_)
  refine PyProof.Rows.callWith_builtin1 (thn (ha pos pins _ σ H _ (I.tok _) h) fun us s1 ⟨vs, H1, I1, r, ea, v, de, ev, hE, q⟩ => ?_) hst hpl
  subst ev
  obtain ⟨u1, u2, rfl, ru, rv⟩ := r.two
  obtain rfl : u1 = Value.ref ea := ru
  obtain ⟨hp, g, dr, tk, os⟩ := s1
  obtain ⟨nm, q0, N0, bs, hdct, sn, sub, ab, col, dd, k0, k1, k2, k3, k5, lk⟩ := L.ex
  obtain ⟨⟨ws, sl, q1, q2, q3⟩, _, _⟩ := I1.hok ea _ hE
  refine wpAny_call (init_call PySem.F.excBase_ValueError (L.tail hp I1.kIn) (I1.kIn _ _ lk) q1 q2 (by show 1 ≤ sizeLine; decide) ?_)
  have q1' := Heap.get?_push_of_some { cls := .type "tuple", data := .seq #[u2] } q1
  have hrec := Heap.get?_update_self (Obj.mapFields (·.setIfInBounds 0 (Value.ref hp.objs.size))) q1' rfl
  have I2 := I1.write (x := ea) (e := ea) (o := ExN (.ref C) de ea) (t' := tk) (h' := (hp.push { cls := .type "tuple", data := .seq #[u2] }).update ea (Obj.mapFields (·.setIfInBounds 0 (Value.ref hp.objs.size)))) (by rw [hE]; exact trivial) (.inl rfl)
    (fun b u hb hu => by rw [Heap.get?_update_other _ _ (Ne.symm hb)]; exact Heap.get?_push_of_some _ hu) ⟨_, hrec⟩
    ⟨⟨ws.setIfInBounds 0 (.ref hp.objs.size), sl, hrec, by simpa using q2, by rw [Array.getElem?_setIfInBounds_ne (by decide)]; exact q3⟩, ⟨_, hrec⟩, fun h1 h2 ⟨ws, sl, k1, k2⟩ k => ⟨ws, sl, k _ k1, k2⟩⟩
  rw [upd_id hE] at I2
  exact ⟨.non, H1, I2, rfl, q⟩
end
end L2
namespace L2
open PySem PySem.Spec PyProof.Rows
def ExMro (l : List Value) : Prop := ∃ rs : List Addr, l = rs.map Value.ref ++ bmV
theorem refuse_bmV (self : Value) : refuseLoop self "__setattr__" bmV = pure () := by kernel_rfl
theorem refuse_ex (self : Value) {l : List Value} (h : ExMro l) : refuseLoop self "__setattr__" l = pure () := by
  obtain ⟨rs, rfl⟩ := h
  induction rs with
  | nil => exact refuse_bmV self
  | cons c r ih => show refuseLoop self "__setattr__" (.ref c :: (r.map Value.ref ++ bmV)) = _; rw [refuseLoop_ref]; exact ih
theorem ex_has {l : List Value} (h : ExMro l) : l.contains (.type "object") = true ∧ l.isEmpty = false := by
  obtain ⟨rs, rfl⟩ := h
  refine ⟨?_, ?_⟩
  · induction rs with
    | nil => decide
    | cons c r ih => show (Value.ref c :: (r.map Value.ref ++ bmV)).contains _ = true; rw [List.contains_cons, ih, Bool.or_true]
  · cases rs <;> rfl
structure ESet (K : PySem.W.Frag) (C : Addr) (f : Str) : Prop where
  cls : ∃ cd, PySem.W.clsIn K C = some cd ∧ ExMro cd.mro ∧ cd.hasDict = true
  sa : PySem.W.findIn K (.ref C) "__setattr__" = some (some (.builtin "object.__setattr__"))
  tk : PySem.W.findIn K (.ref C) f = some none
section
variable {prog : Program} {w : World} {A : Around} {R : Result → Shared → Prop} {s : Shared} {K : PySem.W.Frag} {x C : Addr}
theorem osa_openE {ox : Obj} {od : Option Obj} {name : Str} {tk : Tok} {v : Value} (X : K.In s.heap) (I : PySem.W.InstAt s.heap x ox C od) (S : ESet K C name)
    (h : wpAny (model prog w) A.in1 (Builtin.ObjectAttr.storeInOwnDict (.ref x) (.ref C) (.str name tk) name v false)
      (fun fin s' => match fin with | .done f => R (.ok f) s' | .again c' => c'.quiet = true ∧ codeAny (model prog w) A c' R s') (fun e s' => R (.error e) s') s) :
    codeAny (model prog w) A (.call (.builtin "object.__setattr__") ⟨[.ref x, .str name tk, v], []⟩) R s := by
  have SF := PySem.F.store_object
  obtain ⟨cd, hc, ho, _⟩ := S.cls
  have sub : PySem.W.Looks (model prog w) s.heap (isInstance (.ref x) (.type "object")) true := I.type.andThen (PySem.W.looks_mroIn X (by unfold PySem.W.mroIn; rw [hc, Option.bind_some, if_neg (by rw [(ex_has ho).2]; decide), (ex_has ho).1]))
  refine codeAny_call_builtin SF.slot.plain SF.entry (@PySem.W.check_slot (model prog w) _ _ s "object.__setattr__" "object" "__setattr__" (.ref x) [.str name tk, v] [] _ SF.kind SF.split sub (SF.args (.ref x) (.str name tk) v) ?_)
  have hm : PySem.W.Looks (model prog w) s.heap (mroOf (.ref C)) cd.mro := (PySem.W.looks_clsIn X hc).andThen .now
  rw [PySem.W.osa_eq, refuse_eq]
  refine wpAny_bind (wpAny_bind (I.type.here (wpAny_bind (hm.here ?_))))
  rw [refuse_ex _ ho]
  refine wpAny_pure (wpAny_bind (I.type.here (wpAny_bind ((PySem.W.looks_findIn X S.tk).here (wpAny_bind ?_)))))
  exact wpAny_pure h
end
end L2
namespace L2
open PySem PySem.Spec PyProof.Rows
def XdO (d : Addr) (fs : List (Str × V)) : HO := .ext fun h => ∃ mA, h.Ns1 d mA ∧ (∀ f, RelO (fs.lookup f) (mA f)) ∧ PySem.Within mA (fs.map (·.1))
theorem xd_ok {P : Program} {w : World} {H : Hp} {h : Heap} {d : Addr} {fs : List (Str × V)} {mA : Str → Option Value} (n : h.Ns1 d mA) (r : ∀ f, RelO (fs.lookup f) (mA f)) (wi : PySem.Within mA (fs.map (·.1))) : ObjOk P w H h d (XdO d fs) :=
  ⟨⟨mA, n, r, wi⟩, let ⟨o, _, _, e, _⟩ := n; ⟨o, e⟩, fun h1 h2 ⟨mA, n, r, wi⟩ k => ⟨mA, n.at k, r, wi⟩⟩
theorem exn_ok {P : Program} {w : World} {H : Hp} {h : Heap} {e : Addr} {C : Value} {dd : Option Addr} {vs : Array Value} {sl : Array (Option Value)} (q1 : h.get? e = some { cls := C, dict := dd, data := .fields vs, slots := sl }) (q2 : vs.size = 6) (q3 : vs[1]? = some .none) : ObjOk P w H h e (ExN C dd e) :=
  ⟨⟨vs, sl, q1, q2, q3⟩, ⟨_, q1⟩, fun h1 h2 ⟨ws, sl, k1, k2⟩ k => ⟨ws, sl, k _ k1, k2⟩⟩
section
variable {X : Cx} {pins : List (Addr × Obj)} {σ : St} {H : Hp} {s : Shared} {x C d : Addr} {f : Str} {y : V} {u : Value} {A : Around} {E : Value → Shared → Prop} {Q : Unit → Shared → Prop}
theorem setE_some {fs : List (Str × V)} (I : Inv X pins σ H s) (hE : H x = some (ExN (.ref C) (some d) x)) (hd : H d = some (XdO d fs)) (S : ESet X.K C f) (hl : fs.length < 1000) (ry : RelV y u)
    (h : ∀ s', Inv X pins σ (upd H d (XdO d (putF f y fs))) s' → Q () s') : wpAny (model X.prog X.w) A (setAttr (.ref x) f u) Q E s := by
  obtain ⟨⟨vs, sl, q1, q2, q3⟩, _, _⟩ := I.hok x _ hE
  obtain ⟨⟨mA, n, r, wi⟩, ⟨od, hod⟩, _⟩ := I.hok d _ hd
  have J : PySem.W.InstAt s.heap x { cls := .ref C, dict := some d, data := .fields vs, slots := sl } C (some od) := ⟨q1, rfl, rfl, hod⟩
  refine PySem.W.set_plain I.kIn J S.sa (osa_openE (s := { s with toks := s.toks + 1 }) I.kIn J S ?_)
  obtain ⟨cd, hc, _, hd'⟩ := S.cls
  refine wpAny_bind (wpAny_pure (wpAny_bind (wpAny_bind (wpAny_loadPart q1 (wpAny_bind (PySem.W.Looks.here (s := { s with toks := s.toks + 1 }) (PySem.W.looks_clsIn I.kIn hc) ?_))))))
  rw [hd']
  refine wpAny_pure (a := some d) (wpAny_bind (wpAny_pure (wpAny_bind ?_)))
  refine wpAny_nsSet1 (s := { s with toks := s.toks + 1 }) n fun h' hn2 hs2 => ?_
  obtain ⟨oD, esD, epD, hoD, hdD, hcD⟩ := hn2.count (PySem.Within.cons f u wi)
  refine wpAny_bind (wpAny_lookBehind hoD (by rw [hdD]; exact pastItsLine_dict (Nat.le_trans hcD (by rw [List.length_cons, List.length_map, sizeLine_eq]; lia))) ?_)
  refine wpAny_pure (h _ (I.write (x := d) (e := d) (o := XdO d (putF f y fs)) (t' := s.toks + 1 + 1) (h' := h') (by rw [hd]; exact trivial) (.inl rfl) (fun b q hb z => (hs2.2 b hb).trans z) ⟨_, hoD⟩ (xd_ok hn2 (fun g => ?_) fun g hg => ?_)))
  · show RelO ((putF f y fs).lookup g) (if g = f then some u else mA g)
    rw [lookup_putF]
    by_cases q : g = f
    · rw [if_pos q, if_pos q]; exact ry
    · rw [if_neg q, if_neg q]; exact r g
  · by_cases q : g = f
    · rw [q]; exact (keys_putF f y fs).1
    · refine (keys_putF f y fs).2 g (wi g fun z => hg ?_)
      show (if g = f then some u else mA g) = none
      rw [if_neg q]; exact z
theorem setE_none (I : Inv X pins σ H s) (hE : H x = some (ExN (.ref C) none x)) (S : ESet X.K C f) (ry : RelV y u)
    (h : ∀ d s', H d = none → d ≠ x → Inv X pins σ (upd (upd (upd H d (XdO d [])) x (ExN (.ref C) (some d) x)) d (XdO d [(f, y)])) s' → Q () s') : wpAny (model X.prog X.w) A (setAttr (.ref x) f u) Q E s := by
  obtain ⟨⟨vs, sl, q1, q2, q3⟩, _, _⟩ := I.hok x _ hE
  have J : PySem.W.InstAt s.heap x { cls := .ref C, dict := none, data := .fields vs, slots := sl } C none := ⟨q1, rfl, rfl, trivial⟩
  refine PySem.W.set_plain I.kIn J S.sa (osa_openE (s := { s with toks := s.toks + 1 }) I.kIn J S ?_)
  obtain ⟨cd, hc, _, hd'⟩ := S.cls
  refine wpAny_bind (wpAny_pure (wpAny_bind (wpAny_bind (wpAny_loadPart q1 (wpAny_bind (PySem.W.Looks.here (s := { s with toks := s.toks + 1 }) (PySem.W.looks_clsIn I.kIn hc) ?_))))))
  rw [hd']
  have hxlt := Heap.lt_size q1
  have hfresh := I.hok.fresh (Nat.le_refl s.heap.objs.size)
  have hne : s.heap.objs.size ≠ x := Nat.ne_of_gt hxlt
  have e1 : (s.heap.push PySem.W.emptyDict).get? s.heap.objs.size = some PySem.W.emptyDict := Heap.get?_push_size s.heap rfl
  have e3 : (s.heap.push PySem.W.emptyDict).Ns s.heap.objs.size (fun _ => none) := ⟨PySem.W.emptyDict, #[], _, e1, rfl, (fun e he => absurd he (by simp)), fun _ => rfl⟩
  have I1 := I.laid (a := s.heap.objs.size) (o := XdO s.heap.objs.size []) (h' := s.heap.push PySem.W.emptyDict) (t' := s.toks + 1) (fun b u q => Heap.get?_push_of_some _ q) (Nat.le_refl _) (xd_ok (Heap.Ns1.of_empty e3) (fun _ => True.intro) fun y hy => absurd rfl hy)
  have q1' := Heap.get?_push_of_some PySem.W.emptyDict q1
  have hrec := Heap.get?_update_self (fun o : Obj => { o with dict := some s.heap.objs.size }) q1' rfl
  have hE1 : upd H s.heap.objs.size (XdO s.heap.objs.size []) x = some (ExN (.ref C) none x) := by rw [upd_ne (Ne.symm hne)]; exact hE
  have I2 := I1.write (x := x) (e := x) (o := ExN (.ref C) (some s.heap.objs.size) x) (t' := s.toks + 1) (h' := (s.heap.push PySem.W.emptyDict).update x (fun o : Obj => { o with dict := some s.heap.objs.size })) (by rw [hE1]; exact trivial) (.inl rfl)
    (fun b u hb hu => by rw [Heap.get?_update_other _ _ (Ne.symm hb)]; exact hu) ⟨_, hrec⟩ (exn_ok hrec q2 q3)
  have hd2 : upd (upd H s.heap.objs.size (XdO s.heap.objs.size [])) x (ExN (.ref C) (some s.heap.objs.size) x) s.heap.objs.size = some (XdO s.heap.objs.size []) := by rw [upd_ne hne, upd_same]
  obtain ⟨⟨mA, n, r, wi⟩, ⟨od, hod⟩, _⟩ := I2.hok _ _ hd2
  refine wpAny_bind (wpAny_alloc (wpAny_bind (wpAny_update q1' ?_)))
  refine wpAny_pure (a := some s.heap.objs.size) (wpAny_bind (wpAny_pure (wpAny_bind ?_)))
  refine wpAny_nsSet1 (s := { s with heap := (s.heap.push PySem.W.emptyDict).update x (fun o : Obj => { o with dict := some s.heap.objs.size }), toks := s.toks + 1 }) n fun h' hn2 hs2 => ?_
  obtain ⟨oD, esD, epD, hoD, hdD, hcD⟩ := hn2.count (PySem.Within.cons f u wi)
  refine wpAny_bind (wpAny_lookBehind hoD (by rw [hdD]; exact pastItsLine_dict (Nat.le_trans hcD (by rw [List.length_cons, List.length_map, sizeLine_eq]; decide))) ?_)
  refine wpAny_pure (h s.heap.objs.size _ hfresh hne (I2.write (x := s.heap.objs.size) (e := s.heap.objs.size) (o := XdO s.heap.objs.size [(f, y)]) (t' := s.toks + 1 + 1) (h' := h') (by rw [hd2]; exact trivial) (.inl rfl) (fun b q hb z => (hs2.2 b hb).trans z) ⟨_, hoD⟩ (xd_ok hn2 (fun g => ?_) fun g hg => ?_)))
  · have e : (putF f y []).lookup g = if g = f then some y else List.lookup g [] := lookup_putF f g y []
    show RelO ((putF f y []).lookup g) (if g = f then some u else mA g)
    rw [e]
    by_cases q : g = f
    · rw [if_pos q, if_pos q]; exact ry
    · rw [if_neg q, if_neg q]; exact r g
  · by_cases q : g = f
    · rw [q]; exact List.mem_cons_self
    · exfalso
      have := wi g fun z => hg (by show (if g = f then some u else mA g) = none; rw [if_neg q]; exact z)
      cases this
end
end L2
namespace L2
open PySem PySem.Spec PyProof.Rows
structure EGet (K : PySem.W.Frag) (C : Addr) (f : Str) : Prop where
  cls : ∃ cd, PySem.W.clsIn K C = some cd ∧ ExMro cd.mro ∧ cd.hasDict = true
  ga : PySem.W.findIn K (.ref C) "__getattribute__" = some (some (.builtin "BaseException.__getattribute__"))
  gh : PySem.W.findIn K (.ref C) "__getattr__" = some none
  tk : PySem.W.findIn K (.ref C) f = some none
theorem ex_base {l : List Value} (h : ExMro l) : l.contains (.type "BaseException") = true := by
  obtain ⟨rs, rfl⟩ := h
  induction rs with
  | nil => decide
  | cons c r ih => show (Value.ref c :: (r.map Value.ref ++ bmV)).contains _ = true; rw [List.contains_cons, ih, Bool.or_true]
section
variable {prog : Program} {w : World} {A : Around} {E : Value → Shared → Prop} {s : Shared} {K : PySem.W.Frag} {x C : Addr} {ox : Obj} {od : Option Obj} {name : Str} {expr : Bool} {v : Value} {Q : Value → Shared → Prop}
theorem getE (X : K.In s.heap) (I : PySem.W.InstAt s.heap x ox C od) (G : EGet K C name) (hf : PySem.W.findObj K C od name = some (.value v)) (hh : PySem.W.handedIn v = true) (h : Q v { s with toks := s.toks + 1 }) :
    wpAny (model prog w) A (getAttr (.ref x) name expr) Q E s := by
  obtain ⟨hp, g, d, t, os⟩ := s
  have L0 := I.type (M := model prog w)
  have L1 := PySem.W.looks_findIn (M := model prog w) X G.ga
  have L2 := PySem.W.looks_findIn (M := model prog w) X G.gh
  have L3 := PySem.W.looks_find (M := model prog w) X I hf
  have SG := PySem.F.excAttr_ValueError.ga
  obtain ⟨cd, hc, ho, _⟩ := G.cls
  have sub : PySem.W.Looks (model prog w) hp (isInstance (.ref x) (.type "BaseException")) true := I.type.andThen (PySem.W.looks_mroIn X (by unfold PySem.W.mroIn; rw [hc, Option.bind_some, if_neg (by rw [(ex_has ho).2]; decide), ex_base ho]))
  have hk : builtinKind "BaseException.__getattribute__" = some .slot := by decide +kernel
  have hsplit : splitId "BaseException.__getattribute__" = some ("BaseException", "__getattribute__") := by decide +kernel
  unfold getAttr getAttrBy
  refine wpAny_bind (wpAny_mkText (wpAny_holding (wpAny_bind (L0.at (wpAny_bind (L1.at ?_))))))
  have hx2 : (onTheHeap (Value.ref C) && Value.builtin "BaseException.__getattribute__" == Value.builtin "object.__getattribute__") = false := by
    have z : (Value.builtin "BaseException.__getattribute__" == Value.builtin "object.__getattribute__") = false := by decide +kernel
    rw [z]; rfl
  show wpAny _ _ (if (onTheHeap (Value.ref C) && Value.builtin "BaseException.__getattribute__" == Value.builtin "object.__getattribute__") = true then _ else _) _ _ _
  rw [hx2]
  show wpAny _ _ (getAttrByItsOwn _ _ _ _ _ _) _ _ _
  unfold getAttrByItsOwn hookBefore
  refine wpAny_bind (show wpAny _ _ (typeLookup (.ref C) "__getattr__") _ _ _ from L2.at ?_)
  have hx0 : (expr && onTheHeap (Value.builtin "BaseException.__getattribute__")) = false := by cases expr <;> rfl
  unfold callGetattribute boundAndCalled
  rw [hx0]
  refine wpAny_bind (wpAny_attempt (wpAny_holding (show wpAny _ _ (bindSpecial _ _ >>= _) _ _ _ from ?_)))
  rw [SG.bind]
  refine wpAny_bind (wpAny_pure (wpAny_call (codeAny_call_builtin SG.plain PySem.F.entry_bexc_ga (@PySem.W.check_slot (model prog w) _ _ _ "BaseException.__getattribute__" "BaseException" "__getattribute__" (.ref x) [.str name t] [] _ hk hsplit sub (PySem.F.args_bexc_ga (.ref x) (.str name t)) ?_))))
  refine wpAny_bind (wpAny_pure (wpAny_bind (wpAny_pure (wpAny_bind (L0.at (wpAny_bind (L3.at ?_)))))))
  refine wpAny_pure ?_
  show wpAny _ _ (handedOut v) _ _ _
  rw [PySem.W.handedOut_of hh]; exact wpAny_pure h
end
end L2
namespace L2
open PySem PySem.Spec PyProof.Rows
section
variable {X : Cx} {e o value : Expr} {f : Str} {pos pos' : Pos} {ta tv : TE}
def tEfld (K : PySem.W.Frag) (ta : TE) (f : Str) : TE := fun σ H Q => ta σ H fun x H1 => ∃ a C d fs v, x = .ref a ∧ (H1 a = some (ExO (.ref C) (some d) a) ∨ H1 a = some (ExN (.ref C) (some d) a)) ∧ H1 d = some (XdO d fs) ∧ EGet K C f ∧ fs.lookup f = some v ∧ Q v H1
theorem efld_k (K : PySem.W.Frag) (hK : X.K = K) (he : PE X e ta) (hb : attributeBase e f X.env (eval e X.env) = eval e X.env := by rfl) : PE X (.Attribute e f pos) (tEfld K ta f) := by
  subst hK
  intro pins s σ H Q I h
  refine attr_of hb (thn (he pins s σ H _ I h) fun u s1 ⟨x, H1, I1, rx, a, C, d, fs, v, ex, ea, hd, G, l, q⟩ => ?_)
  subst ex
  obtain rfl : u = Value.ref a := rx
  obtain ⟨⟨mA, n, r, wi⟩, _, _⟩ := I1.hok d _ hd
  obtain ⟨od, hod, hlk⟩ := lookIn_ns n
  have hrec : ∃ vs sl, s1.heap.get? a = some { cls := .ref C, dict := some d, data := .fields vs, slots := sl } := by
    rcases ea with ea | ea
    · obtain ⟨⟨vs, sl, q1, _⟩, _, _⟩ := I1.hok a _ ea; exact ⟨vs, sl, q1⟩
    · obtain ⟨⟨vs, sl, q1, _⟩, _, _⟩ := I1.hok a _ ea; exact ⟨vs, sl, q1⟩
  obtain ⟨vs, sl, q1⟩ := hrec
  have J : PySem.W.InstAt s1.heap a { cls := .ref C, dict := some d, data := .fields vs, slots := sl } C (some od) := ⟨q1, rfl, rfl, hod⟩
  have hr := r f
  rw [l] at hr
  cases hm : mA f with
  | none => rw [hm] at hr; exact hr.elim
  | some u =>
    rw [hm] at hr
    have ru : RelV v u := hr
    have hh : PySem.W.hasDictIn X.K C = true := by
      obtain ⟨cd, hc, _, hd'⟩ := G.cls
      unfold PySem.W.hasDictIn
      rw [hc]
      exact hd'
    exact getE I1.kIn J G (PySem.W.findObj_own hh G.tk rfl (by rw [hlk, hm])) (handed_of ru) ⟨v, H1, I1.tok _, ru, q⟩
def sEfld (K : PySem.W.Frag) (ta tv : TE) (f : Str) : TS := fun D σ H => tv σ H fun y H1 => ta σ H1 fun x H2 => ∃ a C, x = .ref a ∧ ESet K C f ∧
  ((H2 a = some (ExN (.ref C) none a) ∧ ∀ d, H2 d = none → d ≠ a → D.nx σ (upd (upd (upd H2 d (XdO d [])) a (ExN (.ref C) (some d) a)) d (XdO d [(f, y)]))) ∨
    ∃ d fs, H2 a = some (ExN (.ref C) (some d) a) ∧ H2 d = some (XdO d fs) ∧ fs.length < 1000 ∧ D.nx σ (upd H2 d (XdO d (putF f y fs))))
theorem eset_k (K : PySem.W.Frag) (hK : X.K = K) (ha : PE X o ta) (hv : PE X value tv) (hs : swapsWith value (some (.Attribute o f pos')) pos.line X.env = pure false := by rfl) : PS X (.Assign [.Attribute o f pos'] value pos) (sEfld K ta tv f) := by
  subst hK
  intro pins s σ H D I h
  refine plainObj_wpAny_Assign_Attribute (thn (hv pins s σ H _ I h) fun u s1 ⟨y, H1, I1, ry, q⟩ => thn (ha pins s1 σ H1 _ I1 q) fun ov s2 ⟨x, H2, I2, rx, a, C, ex, S, q2⟩ => ?_) hs
  subst ex
  obtain rfl : ov = Value.ref a := rx
  rcases q2 with ⟨hE, q2⟩ | ⟨d, fs, hE, hd, hl, q2⟩
  · exact setE_none I2 hE S ry fun d s3 hn hne I3 => ⟨σ, _, I3, q2 d hn hne⟩
  · exact setE_some I2 hE hd S hl ry fun s3 I3 => ⟨σ, _, I3, q2⟩
end
end L2
namespace L2
open PySem PySem.Spec PyProof.Rows
structure EIsi (K : PySem.W.Frag) (C : Addr) : Prop where
  cls : ∃ cd, PySem.W.clsIn K C = some cd ∧ ExMro cd.mro ∧ cd.hasDict = true
  ga : PySem.W.findIn K (.ref C) "__getattribute__" = some (some (.builtin "BaseException.__getattribute__"))
  gh : PySem.W.findIn K (.ref C) "__getattr__" = some none
  ha : PySem.W.findIn K (.ref C) "__class__" = some (some (.builtin "object.__class__"))
  hn : PySem.W.specialIn K (.builtin "object.__class__") "__get__" = some (some (.builtin "getset_descriptor.__get__"))
  htk : PySem.W.takesIn K (.builtin "object.__class__") = some true
section
variable {prog : Program} {w : World} {A : Around} {E : Value → Shared → Prop} {s : Shared} {K : PySem.W.Frag} {x C : Addr} {ox : Obj} {od : Option Obj}
theorem EIsi.obj (G : EIsi K C) : PySem.W.mroIn K C (.type "object") = some true := by
  obtain ⟨cd, hc, ho, _⟩ := G.cls
  unfold PySem.W.mroIn; rw [hc, Option.bind_some, if_neg (by rw [(ex_has ho).2]; decide), (ex_has ho).1]
theorem classE {fill expr : Bool} {tk : Tok} {Q : Value → Shared → Prop} (X : K.In s.heap) (I : PySem.W.InstAt s.heap x ox C od) (G : EIsi K C) (h : Q (.ref C) s) :
    wpAny (model prog w) A (getAttrBy (.ref x) (.str "__class__" tk) fill expr) Q E s := by
  obtain ⟨hp, g, d, t, os⟩ := s
  have L0 := I.type (M := model prog w)
  have L1 := PySem.W.looks_findIn (M := model prog w) X G.ga
  have L2 := PySem.W.looks_findIn (M := model prog w) X G.gh
  obtain ⟨cd, hc, ho, _⟩ := G.cls
  have hf : PySem.W.findObj K C od "__class__" = some (.bind (.builtin "getset_descriptor.__get__") (.builtin "object.__class__")) := by
    unfold PySem.W.findObj
    rw [hc, Option.bind_some, G.ha, Option.bind_some]
    dsimp only
    rw [G.hn, Option.bind_some]
    dsimp only
    rw [G.htk, Option.bind_some]
  have L3 := PySem.W.looks_find (M := model prog w) X I hf
  have SG := PySem.F.excAttr_ValueError.ga
  have sub : PySem.W.Looks (model prog w) hp (isInstance (.ref x) (.type "BaseException")) true := I.type.andThen (PySem.W.looks_mroIn X (by unfold PySem.W.mroIn; rw [hc, Option.bind_some, if_neg (by rw [(ex_has ho).2]; decide), ex_base ho]))
  have hk : builtinKind "BaseException.__getattribute__" = some .slot := by decide +kernel
  have hsplit : splitId "BaseException.__getattribute__" = some ("BaseException", "__getattribute__") := by decide +kernel
  unfold getAttrBy
  refine wpAny_holding (wpAny_bind (L0.at (wpAny_bind (L1.at ?_))))
  have hx2 : (onTheHeap (Value.ref C) && Value.builtin "BaseException.__getattribute__" == Value.builtin "object.__getattribute__") = false := by
    have z : (Value.builtin "BaseException.__getattribute__" == Value.builtin "object.__getattribute__") = false := by decide +kernel
    rw [z]; rfl
  show wpAny _ _ (if (onTheHeap (Value.ref C) && Value.builtin "BaseException.__getattribute__" == Value.builtin "object.__getattribute__") = true then _ else _) _ _ _
  rw [hx2]
  show wpAny _ _ (getAttrByItsOwn _ _ _ _ _ _) _ _ _
  unfold getAttrByItsOwn hookBefore
  refine wpAny_bind (show wpAny _ _ (typeLookup (.ref C) "__getattr__") _ _ _ from L2.at ?_)
  have hx0 : (expr && onTheHeap (Value.builtin "BaseException.__getattribute__")) = false := by cases expr <;> rfl
  unfold callGetattribute boundAndCalled
  rw [hx0]
  refine wpAny_bind (wpAny_attempt (wpAny_holding (show wpAny _ _ (bindSpecial _ _ >>= _) _ _ _ from ?_)))
  rw [SG.bind]
  refine wpAny_bind (wpAny_pure (wpAny_call (codeAny_call_builtin SG.plain PySem.F.entry_bexc_ga (@PySem.W.check_slot (model prog w) _ _ _ "BaseException.__getattribute__" "BaseException" "__getattribute__" (.ref x) [.str "__class__" tk] [] _ hk hsplit sub (PySem.F.args_bexc_ga (.ref x) (.str "__class__" tk)) ?_))))
  refine wpAny_bind (wpAny_pure (wpAny_bind (wpAny_pure (wpAny_bind (L0.at (wpAny_bind (L3.at ?_)))))))
  show wpAny _ _ (holding [.builtin "object.__class__"] (call (.builtin "getset_descriptor.__get__") [.builtin "object.__class__", .ref x, .ref C]) >>= _) _ _ _
  refine wpAny_bind (wpAny_holding (wpAny_call (PySem.W.class_get X I G.obj (wpAny_pure ?_))))
  show wpAny _ _ (handedOut _) _ _ _
  rw [PySem.W.handedOut_of rfl]; exact wpAny_pure h
theorem kitx_exc (G : EIsi K C) : PySem.W.KitX K (.ref x) (.ref C) (fun h => ∃ ox od, PySem.W.InstAt h x ox C od) where
  ty := fun _ _ _ ⟨_, _, I⟩ => I.type
  it := fun _ _ X _ => by
    obtain ⟨cdD, hcD, _⟩ := G.cls
    unfold PySem.W.clsIn at hcD
    split at hcD
    · rename_i c' d' cd' sl' ho
      intro A' Q' E' s' k q
      unfold isType loadHead
      exact wpAny_bind (wpAny_loadPart (k _ _ (X _ _ ho)) (wpAny_pure q))
    · cases hcD
  ne := fun h tp dd its n sl X htp => by
    obtain ⟨cdD, hcD, _⟩ := G.cls
    refine Bool.eq_false_iff.mpr fun q => ?_
    have e : C = tp := Value.ref.inj (beq_iff_eq.mp q)
    subst e
    unfold PySem.W.clsIn at hcD
    split at hcD
    · rename_i c' d' cd' sl' ho
      have z := (X _ _ ho).symm.trans htp
      cases z
    · cases hcD
  ca := fun {prog w A E Q s} X ⟨ox, od, I⟩ k => by
    unfold getAttr? getAttrBy?
    refine wpAny_bind (wpAny_mkText (wpAny_bind (wpAny_attempt (classE (s := { s with toks := s.toks + 1 }) X I G ?_))))
    exact wpAny_pure k
end
section
variable {X : Cx}
end
end L2
namespace L2
open PySem PySem.Spec PyProof.Rows
def strKey (e : DictEntry) : Bool := match e.key with | .str _ _ => true | _ => false
def isNsK (K : PySem.W.Frag) (N : Addr) : Bool := match K.lookup N with | some ⟨_, _, .dict es _, _⟩ => es.toList.all strKey | _ => false
def nsMapK (K : PySem.W.Frag) (N : Addr) (name : Str) : Option Value := match K.lookup N with | some ⟨_, _, .dict es _, _⟩ => nsFind es name | _ => none
theorem ns_K {K : PySem.W.Frag} {N : Addr} (e : isNsK K N = true) (h : Heap) (X : K.In h) : h.Ns N (nsMapK K N) := by
  unfold isNsK at e
  split at e
  · rename_i c d es ep sl q
    refine ⟨_, es, ep, X _ _ q, rfl, fun x hx => ?_, fun name => ?_⟩
    · have hx' := List.all_eq_true.mp e x (Array.mem_toList_iff.mpr hx)
      unfold strKey at hx'
      split at hx'
      · exact ⟨_, _, by assumption⟩
      · cases hx'
    · unfold nsMapK; rw [q]
  · cases e
theorem nsMapK_some {K : PySem.W.Frag} {N : Addr} {name : Str} {v : Value} (e : PySem.W.nsIn K N name = some (some v)) : nsMapK K N name = some v := by
  unfold PySem.W.nsIn at e
  unfold nsMapK
  split at e
  · rename_i c d es ep sl q
    rw [q]
    dsimp only
    split at e
    · rename_i x hx
      unfold nsFind findBy
      rw [← Array.find?_toList, hx]
      exact Option.some.inj e
    · split at e <;> cases e
  · cases e
theorem nsMapK_none {K : PySem.W.Frag} {N : Addr} {name : Str} (e : PySem.W.nsIn K N name = some none) : nsMapK K N name = none := by
  unfold PySem.W.nsIn at e
  unfold nsMapK
  split at e
  · rename_i c d es ep sl q
    rw [q]
    dsimp only
    split at e
    · cases e
    · rename_i hx
      unfold nsFind findBy
      rw [← Array.find?_toList, hx]
      rfl
  · cases e
theorem isNsK_of {K : PySem.W.Frag} {N : Addr} {oc : Value} {od : Option Addr} {es : Array DictEntry} {ep : Nat} {sl : Array (Option Value)} (l : K.lookup N = some ⟨oc, od, .dict es ep, sl⟩) (h : es.toList.all strKey = true) : isNsK K N = true := by
  unfold isNsK; rw [l]; exact h
structure EBase (K : PySem.W.Frag) (D : Addr) : Prop where
  ex : ∃ nm q N bs sn sub ab col dd k0 k1 k2 k3 k5, K.lookup D = some (excClassObj nm q D N bs bmV true sn sub ab col dd k0 k1 k2 k3 k5 "ValueError.__new__") ∧ isNsK K N = true ∧ PySem.W.nsIn K N "__init__" = some none
theorem EBase.cls {K : PySem.W.Frag} {D : Addr} (B : EBase K D) : ECls K D bmV := by
  obtain ⟨nm, q, N, bs, sn, sub, ab, col, dd, k0, k1, k2, k3, k5, lk, _⟩ := B.ex
  exact ⟨⟨nm, q, N, bs, true, sn, sub, ab, col, dd, k0, k1, k2, k3, k5, _, lk⟩, by decide⟩
theorem EBase.tail {K : PySem.W.Frag} {D : Addr} (B : EBase K D) (h : Heap) (X : K.In h) : OwnTail h bmV (.ref D :: bmV) := by
  obtain ⟨nm, q, N, bs, sn, sub, ab, col, dd, k0, k1, k2, k3, k5, lk, hn, hi⟩ := B.ex
  exact .own (X _ _ lk) (ns_K hn h X) (nsMapK_none hi) .base
structure ELaw (K : PySem.W.Frag) (C D fI : Addr) : Prop where
  ex : ∃ nm q N bs sn sub ab col dd k0 k1 k2 k3 k5, K.lookup C = some (excClassObj nm q C N bs (.ref D :: bmV) true sn sub ab col dd k0 k1 k2 k3 k5 "ValueError.__new__") ∧ isNsK K N = true ∧ PySem.W.nsIn K N "__init__" = some (some (.ref fI))
  fn : ∃ oI, K.lookup fI = some oI ∧ oI.cls = .type "function"
  kp : PySem.W.keepIn K (.ref C) = true
section
variable {K : PySem.W.Frag} {C D fI : Addr}
theorem ELaw.mk_ (L : ELaw K C D fI) (B : EBase K D) : EMk K C fI (.ref D :: bmV) := by
  obtain ⟨nm, q, N, bs, sn, sub, ab, col, dd, k0, k1, k2, k3, k5, lk, hn, hi⟩ := L.ex
  exact ⟨⟨nm, q, N, bs, true, sn, sub, ab, col, dd, k0, k1, k2, k3, k5, nsMapK K N, lk, ns_K hn, nsMapK_some hi⟩, fun h X => B.tail h X, L.fn, L.kp⟩
theorem ELaw.cls (L : ELaw K C D fI) : ECls K C (.ref D :: bmV) := by
  obtain ⟨nm, q, N, bs, sn, sub, ab, col, dd, k0, k1, k2, k3, k5, lk, _⟩ := L.ex
  exact ⟨⟨nm, q, N, bs, true, sn, sub, ab, col, dd, k0, k1, k2, k3, k5, _, lk⟩, by rw [List.contains_cons, show bmV.contains (.type "BaseException") = true from by decide, Bool.or_true]⟩
theorem ELaw.sub (L : ELaw K C D fI) : SubX K (.ref C) D := ⟨C, _, rfl, L.cls, by simp⟩
theorem ELaw.clsIn (L : ELaw K C D fI) : ∃ cd, PySem.W.clsIn K C = some cd ∧ ExMro cd.mro ∧ cd.hasDict = true := by
  obtain ⟨nm, q, N, bs, sn, sub, ab, col, dd, k0, k1, k2, k3, k5, lk, _⟩ := L.ex
  unfold PySem.W.clsIn
  rw [lk]
  exact ⟨_, rfl, ⟨[C, D], rfl⟩, rfl⟩
theorem ELaw.set (L : ELaw K C D fI) {f : Str} (sa : PySem.W.findIn K (.ref C) "__setattr__" = some (some (.builtin "object.__setattr__"))) (tk : PySem.W.findIn K (.ref C) f = some none) : ESet K C f := ⟨L.clsIn, sa, tk⟩
theorem ELaw.get (L : ELaw K C D fI) {f : Str} (ga : PySem.W.findIn K (.ref C) "__getattribute__" = some (some (.builtin "BaseException.__getattribute__"))) (gh : PySem.W.findIn K (.ref C) "__getattr__" = some none) (tk : PySem.W.findIn K (.ref C) f = some none) : EGet K C f := ⟨L.clsIn, ga, gh, tk⟩
end
end L2
namespace L2
open PySem PySem.Spec PyProof.Rows
structure CalE (P : Program) (w : World) (K : PySem.W.Frag) (mg : Str → Option Value) (base : Heap) (x : Str) (C : Addr) (k : Nat) (ps : List Str) (sp : Sp) : Prop where
  ex : ∃ fI fd bm, EMk K C fI bm ∧ FnOk P w K mg base CX0 k fI fd ps sp ∧ Binds K fd ps []
  at_ : mg x = some (.ref C)
  sz : ps.length ≤ 100
section
variable {X : Cx} {J : Addr → St → Hp → Prop} {k j : Nat} {C : Addr} {ps : List Str} {sp : Sp} {x : Str} {np cpos pos : Pos} {e₀ : Expr} {es : List Expr} {t : TA}
theorem ps_rs (F : CalE X.prog X.w X.K X.mg X.base x C k ps sp) (hr : Room j X.A) (hx : AccX X J) (hc : X.calm = true) (ha : PA X (e₀ :: es) t) (hjk : k + 1 ≤ j := by decide) (hg : Gl X x := by rfl) (hdb : (x == ("__debug__" : Str)) = false := by decide)
    (he : starEach (e₀ :: es) X.env = (false, eval e₀ X.env) :: starEach es X.env := by rfl) (hpl : (backTo cpos (starEach es X.env)).any (·.1) = false := by rfl) :
    PS X (.Raise (some (.Call (.Name x np) (e₀ :: es) [] cpos)) none pos) (tRaise C sp J t) := by
  obtain ⟨fI, fd, bm, M, Fn, hb⟩ := F.ex
  exact ps_raise M Fn (hr.mono hjk) hb hx hc hg F.at_ ha F.sz hdb he hpl
end
def spIni1 (C : Addr) (f : Str) : Sp := fun vs H Q _ => ∃ ea v, vs = [.ref ea, v] ∧ H ea = some (ExN (.ref C) none ea) ∧ (∃ n : Nat, v = .int (n : Int) ∧ n ≤ 10 ^ 12) ∧ ∀ d, H d = none → d ≠ ea → Q .non (upd (upd (upd H d (XdO d [])) ea (ExN (.ref C) (some d) ea)) d (XdO d [(f, v)]))
structure Rfd (H : Hp) (ea C : Addr) (f : Str) (v : V) : Prop where
  ex : ∃ d, H ea = some (ExO (.ref C) (some d) ea) ∧ H d = some (XdO d [(f, v)])
theorem raised1 {H1 : Hp} {ea C d : Addr} {f : Str} {v : V} (hd : upd H1 ea (ExN (.ref C) none ea) d = none) (hne : d ≠ ea) :
    ∃ dd, (upd (upd (upd (upd H1 ea (ExN (.ref C) none ea)) d (XdO d [])) ea (ExN (.ref C) (some d) ea)) d (XdO d [(f, v)])) ea = some (ExN (.ref C) dd ea) ∧
      Rfd (upd (upd (upd (upd (upd H1 ea (ExN (.ref C) none ea)) d (XdO d [])) ea (ExN (.ref C) (some d) ea)) d (XdO d [(f, v)])) ea (ExO (.ref C) dd ea)) ea C f v := by
  refine ⟨some d, ?_, d, ?_, ?_⟩
  · rw [upd_ne (Ne.symm hne), upd_same]
  · rw [upd_same]
  · rw [upd_ne hne, upd_same]
structure Ef (K : PySem.W.Frag) (mg : Str → Option Value) (x : Str) (C D : Addr) (qual : Str) (st : Stmt) (ps : List Str) : Prop where
  ex : ∃ f fd mc, Fun K "__init__" qual st f fd ∧ ELaw K C D f ∧ EBase K D ∧ EIni K D mc ∧ Binds K fd ps []
  at_ : mg x = some (.ref C)
theorem Ef.cal {P : Program} {w : World} {K : PySem.W.Frag} {mg : Str → Option Value} {base : Heap} {x qual : Str} {C D : Addr} {st : Stmt} {N ps : List Str} {k : Nat} {sp : Sp} (F : Ef K mg x C D qual st ps) (S : FnScope N ps (defScope st)) (len : ∀ vs H Q E, sp vs H Q E → vs.length = ps.length) (hsz : ps.length ≤ 100)
    (hbody : ∀ (mc : Value) (f : Addr) (cdv : Value) (A : Around) (outer : List Env) (s : Shared) (H : Hp) (vs : List V) (Q : VK) (E : XK), ELow K C (.ref D :: bmV) → EIni K D mc → Room k (A.deeper (envOfC qual (defScope st) s.heap.objs.size f cdv)) → sp vs H Q E →
      ∃ t, PSs (cxOf CX0 P w K mg base N qual (defScope st) f cdv A outer s H E).nox (defBody st) t ∧ t { nx := fun _ H' => Q .non H', rt := Q } (start N vs) H) : CalE P w K mg base x C (k + 1) ps sp := by
  obtain ⟨f, fd, mc, Fn, L, B, I, hb⟩ := F.ex
  exact ⟨⟨f, fd, _, L.mk_ B, Fn.ok S len fun cdv A outer s H vs Q E hr h => hbody mc f cdv A outer s H vs Q E (L.mk_ B).low I hr h, hb⟩, F.at_, hsz⟩
end L2
namespace L2
open PySem PySem.Spec PyProof.Rows
structure Err (H : Hp) (a C : Addr) : Prop where
  ex : ∃ dd, (H a = some (ExO (.ref C) dd a) ∨ H a = some (ExN (.ref C) dd a)) ∧ (dd = none ∨ ∃ d fs, dd = some d ∧ H d = some (XdO d fs))
theorem Rfd.err {H : Hp} {ea C : Addr} {f : Str} {v : V} (r : Rfd H ea C f v) : Err H ea C := by
  obtain ⟨d, h1, h2⟩ := r.ex
  exact ⟨some d, .inl h1, .inr ⟨d, _, rfl, h2⟩⟩
theorem Rfd.same {H H' : Hp} {ea C : Addr} {f : Str} {v : V} (r : Rfd H ea C f v) (sm : ∀ b o, H b = some o → H' b = some o) : Rfd H' ea C f v := by
  obtain ⟨d, h1, h2⟩ := r.ex
  exact ⟨d, sm _ _ h1, sm _ _ h2⟩
theorem Err.same {H H' : Hp} {ea C : Addr} (r : Err H ea C) (sm : ∀ b o, H b = some o → H' b = some o) : Err H' ea C := by
  obtain ⟨dd, h1, h2⟩ := r.ex
  refine ⟨dd, h1.imp (sm _ _) (sm _ _), ?_⟩
  rcases h2 with h2 | ⟨d, fs, h2, h3⟩
  · exact .inl h2
  · exact .inr ⟨d, fs, h2, sm _ _ h3⟩
theorem vals_refsE : ∀ {cs : List Addr} {us : List Value}, Vals (cs.map V.ref) us → us = cs.map Value.ref
  | [], _, .nil => rfl
  | c :: cs, _, .cons r t => by
    have h : _ = Value.ref c := r
    rw [h, vals_refsE t, List.map_cons]
section
variable {X : Cx}
theorem isiX_k (K : PySem.W.Frag) (hK : X.K = K) : CallR X (.builtin "isinstance") (fun xs H Q => ∃ a C b, (∃ c, xs = [.ref a, c] ∧ ((∃ D, c = .ref D ∧ PySem.W.kitOne K (.ref C) (.ref D) = some b) ∨ (∃ n, c = .ty n ∧ PySem.W.kitOne K (.ref C) (.type n) = some b) ∨ ∃ (T : Addr) (cs : List Addr), c = .ref T ∧ SqT K H T (cs.map V.ref) ∧ PySem.W.kitAny K (.ref C) (cs.map Value.ref) = some b)) ∧ Err H a C ∧ EIsi K C ∧ Q (.bl b) H) := by
  subst hK
  intro pins s σ H xs us Q I r h
  obtain ⟨a, C, b, ⟨c, rfl, hc⟩, ⟨dd, ha, hdd⟩, G, q⟩ := h
  obtain ⟨u, v, rfl, ru, rv⟩ := r.two
  obtain rfl : u = Value.ref a := ru
  have hrec : ∃ ox od, PySem.W.InstAt s.heap a ox C od := by
    have hr : ∃ vs sl, s.heap.get? a = some { cls := .ref C, dict := dd, data := .fields vs, slots := sl } := by
      rcases ha with ea | ea
      · obtain ⟨⟨vs, sl, q1, _⟩, _, _⟩ := I.hok a _ ea; exact ⟨vs, sl, q1⟩
      · obtain ⟨⟨vs, sl, q1, _⟩, _, _⟩ := I.hok a _ ea; exact ⟨vs, sl, q1⟩
    obtain ⟨vs, sl, q1⟩ := hr
    rcases hdd with rfl | ⟨d, fs, rfl, hd⟩
    · exact ⟨_, none, q1, rfl, rfl, trivial⟩
    · obtain ⟨_, ⟨od, hod⟩, _⟩ := I.hok d _ hd
      exact ⟨_, some od, q1, rfl, rfl, hod⟩
  rcases hc with ⟨D, rfl, e⟩ | ⟨n, rfl, e⟩ | ⟨T, cs, rfl, hT, e⟩
  · obtain rfl : v = Value.ref D := rv
    exact PySem.W.kia_one (kitx_exc G) I.kIn hrec e (fun z => nomatch z) fun tk => ⟨.bl b, H, I.tok _, rfl, q⟩
  · obtain rfl : v = Value.type n := rv
    exact PySem.W.kia_one (kitx_exc G) I.kIn hrec e (fun z => nomatch z) fun tk => ⟨.bl b, H, I.tok _, rfl, q⟩
  · obtain rfl : v = Value.ref T := rv
    obtain ⟨its, r', ⟨o, ho, oc, n, od⟩, _⟩ := I.tuple hT
    rw [vals_refsE r'] at od
    obtain ⟨c0, d0, dt0, sl0⟩ := o
    simp only at oc od
    subst oc; subst od
    exact PySem.W.kia_tup (kitx_exc G) I.kIn hrec ho e (fun z => nomatch z) fun tk => ⟨.bl b, H, I.tok _, rfl, q⟩
end
end L2
namespace L2
open PySem PySem.Spec PyProof.Rows
section
variable {X : Cx}
end
end L2
namespace K
open PySem L2 TX
end K
namespace L2
open PySem PySem.Spec PyProof.Rows
abbrev TF := St → Hp → (Str → Hp → Prop) → Prop
def PF1 (X : Cx) (e : Expr) (t : TF) : Prop := ∀ (pins : List (Addr × Obj)) (s : Shared) (σ : St) (H : Hp) (R : Str → Hp → Prop), Inv X pins σ H s → t σ H R →
  wpAny (model X.prog X.w) X.A (eval e X.env) (fun v s1 => ∃ y k H1, v = .str y k ∧ Inv X pins σ H1 s1 ∧ R y H1) X.xe s
def PFs (X : Cx) : List Expr → List TF → Prop
  | [], [] => True
  | e :: es, t :: ts => PF1 X e t ∧ PFs X es ts
  | _, _ => False
def tFs : List TF → Str → St → Hp → VK → Prop
  | [], acc, _, H, Q => acc.length ≤ sizeLine ∧ Q (.str acc) H
  | t :: ts, acc, σ, H, Q => t σ H fun y H1 => (acc ++ y).length ≤ sizeLine ∧ tFs ts (acc ++ y) σ H1 Q
section
variable {X : Cx}
theorem joins_of {pins : List (Addr × Obj)} {σ : St} {Q : VK} : ∀ {ts : List TF} {es : List Expr} {acc : Str} {H : Hp} {s : Shared}, PFs X es ts → Inv X pins σ H s → tFs ts acc σ H Q →
    Joins (model X.prog X.w) X.A X.xe (evalEach es X.env) acc (fun out s₁ => out.length ≤ sizeLine ∧ EP X pins σ Q (.str out s₁.toks) { s₁ with toks := s₁.toks + 1 }) s := by
  intro ts
  induction ts with
  | nil =>
    intro es acc H s hp I h
    cases es with
    | nil => exact ⟨h.1, .str acc, H, I.tok _, ⟨_, rfl⟩, h.2⟩
    | cons e es => exact False.elim hp
  | cons t ts ih =>
    intro es acc H s hp I h
    cases es with
    | nil => exact False.elim hp
    | cons e es =>
      show wpAny _ _ (eval e X.env) _ _ s
      refine wpAny_mono (hp.1 pins s σ H _ I h) (fun v s1 z => ?_) fun _ _ z => z
      obtain ⟨y, k, H1, ev, I1, hz, q⟩ := z
      exact ⟨y, k, ev, hz, ih hp.2 I1 q⟩
theorem pe_fstr {v₁ v₂ : Expr} {rest : List Expr} {pos : Pos} {t₁ t₂ : TF} {ts : List TF} (h1 : PF1 X v₁ t₁) (h2 : PF1 X v₂ t₂) (h3 : PFs X rest ts) : PE X (.JoinedStr (v₁ :: v₂ :: rest) pos) (fun σ H Q => tFs (t₁ :: t₂ :: ts) Str.empty σ H Q) := by
  intro pins s σ H Q I h
  exact wpAny_JoinedStr (joins_of (ts := t₁ :: t₂ :: ts) (es := v₁ :: v₂ :: rest) ⟨h1, h2, h3⟩ I h)
theorem pfs_nil : PFs X [] [] := trivial
theorem pfs_cons {e : Expr} {es : List Expr} {t : TF} {ts : List TF} (h : PF1 X e t) (r : PFs X es ts) : PFs X (e :: es) (t :: ts) := ⟨h, r⟩
def tFv (te : TE) : TF := fun σ H R => te σ H fun v H1 => (∃ x, v = .str x ∧ x.length ≤ sizeLine ∧ R x H1) ∨ ∃ n : Nat, v = .int (n : Int) ∧ n ≤ 10 ^ 12 ∧ R (Str.ofString (toString (n : Int))) H1
theorem log_small {n : Nat} (h : n ≤ 10 ^ 12) : (n : Int).natAbs.log2 < 1920 := by
  rw [Int.natAbs_natCast]
  by_cases h0 : n = 0
  · subst h0; decide
  · rw [Nat.log2_lt h0]
    exact Nat.lt_of_le_of_lt h (Nat.lt_of_lt_of_le (by decide : 10 ^ 12 < 2 ^ 64) (Nat.pow_le_pow_right (by decide) (by decide)))
theorem pf_val {e : Expr} {pos : Pos} {te : TE} (he : PE X e te) : PF1 X (.FormattedValue e (-1) none pos) (tFv te) := by
  intro pins s σ H R I h
  refine FormattedValue_plain (thn (he pins s σ H _ I h) fun u s1 ⟨v, H1, I1, rv, q⟩ => ?_)
  rcases q with ⟨x, rfl, hz, q⟩ | ⟨n, rfl, hn, q⟩
  · obtain ⟨t, rfl⟩ := rv
    exact formatField_str (fun t' tk => ⟨x, t', H1, rfl, I1.tok _, q⟩) hz
  · obtain ⟨t, rfl⟩ := rv
    exact formatField_int_small (log_small hn) ⟨_, _, H1, rfl, I1.tok _, q⟩
theorem pf_str {c : Str} {k : Nat} {pos : Pos} : PF1 X (.Constant (.str c) k pos) (fun _ H R => R c H) := by
  intro pins s σ H R I h
  exact thn (pe_str pins s σ H (fun v H1 => ∃ y, v = .str y ∧ R y H1) I ⟨c, rfl, h⟩) fun u s1 ⟨v, H1, I1, rv, y, ev, q⟩ => by
    subst ev
    obtain ⟨t, rfl⟩ := rv
    exact ⟨y, t, H1, rfl, I1, q⟩
end
end L2
set_option maxHeartbeats 4000000
namespace K
open PySem L2 TX
def top (i : Nat) : Stmt := PySem.Challenge.pw_renamehall_k04_no_pattern.main.body.getD i (.Pass ⟨0, 0, 0, 0⟩)
structure Txt (mg : Str → Option Value) : Prop where
  b_ValueError : mg "ValueError" = none
  b_all : mg "all" = none
  b_bool : mg "bool" = none
  b_enumerate : mg "enumerate" = none
  b_int : mg "int" = none
  b_isinstance : mg "isinstance" = none
  b_len : mg "len" = none
  b_list : mg "list" = none
  b_max : mg "max" = none
  b_min : mg "min" = none
  b_range : mg "range" = none
  b_reversed : mg "reversed" = none
  b_zip : mg "zip" = none
  NAME_SIGNS : ∃ t, mg "NAME_SIGNS" = some (.str (Str.ofString "abcdefghijklmnopqrstuvwxyzABCDEFGHIJKLMNOPQRSTUVWXYZ0123456789-_.") t)
  GAP_SIGNS : ∃ t, mg "GAP_SIGNS" = some (.str (Str.ofString "?*#@") t)
  MOST_GAPS : ∃ t, mg "MOST_GAPS" = some (.int 9 t)
  FIGURES : ∃ t, mg "FIGURES" = some (.str (Str.ofString "0123456789") t)
  LETTERS : ∃ t, mg "LETTERS" = some (.str (Str.ofString "abcdefghijklmnopqrstuvwxyzABCDEFGHIJKLMNOPQRSTUVWXYZ") t)
section
variable {P : Program} {w : World} {K : PySem.W.Frag} {mg : Str → Option Value} {base : Heap}
abbrev st_name_signs : Stmt := top 26
theorem sc_name_signs : FnScope [] [] (defScope st_name_signs) := ⟨rfl, rfl, rfl, by decide +kernel, rfl, by decide +kernel, by decide +kernel⟩
theorem ok_name_signs (D : Df K mg "_law_name_signs" st_name_signs []) : Cal P w K mg base "_law_name_signs" 1 [] (spConst NSs) := by
  refine D.cal sc_name_signs (fun vs H Q E h => ?_) (fun f cdv A outer s H vs Q E hr h => ?_)
  · obtain ⟨rfl, _⟩ := h; rfl
  · obtain ⟨rfl, k⟩ := h
    refine ⟨_, (@pss_one _ _ _ (@ps_ret _ _ _ _ pe_str)), ?_⟩
    exact k
theorem gn_in : ∀ c, decide (c ∈ tl (Str.ofString "?*#@" ++ Str.ofString "abcdefghijklmnopqrstuvwxyzABCDEFGHIJKLMNOPQRSTUVWXYZ0123456789-_.")) = decide (c ∈ GS ∨ c ∈ NS) := fun c => by
  rw [tl_app]
  exact decide_eq_decide.mpr List.mem_append
def okAt (l : List Nat) (i : Nat) : Prop := ∀ c, l[i]? = some c → ((l.take (i + 1)).filter fun c => decide (c ∈ GS)).length ≤ 9 ∧ (c ∈ GS ∨ c ∈ NS)
def spAskX (C : Addr) : Sp := fun vs H Q E => ∃ l, vs = [.str (mk l)] ∧ l.length ≤ 1000 ∧ ((∀ i, okAt l i) → ∀ H', Same H H' → Q .non H') ∧
  ∀ i : Nat, ¬ okAt l i → (∀ j, j < i → okAt l j) → ∀ ea H', Same H H' → H ea = none → Rfd H' ea C "at" (.int (i : Int)) → E (.ref ea) none H'
structure CallsX (P : Program) (w : World) (K : PySem.W.Frag) (mg : Str → Option Value) (base : Heap) (C : Addr) : Prop where
  e_NoPattern : CalE P w K mg base "NoPattern" C 1 ["self", "at"] (spIni1 C "at")
theorem same_raised {H H1 : Hp} {ea d : Addr} {o1 o2 o3 o4 o5 : HO} (sm : Same H H1) (h1 : H1 ea = none) (h2 : upd H1 ea o1 d = none) : Same H (upd (upd (upd (upd (upd H1 ea o1) d o2) ea o3) d o4) ea o5) := fun b o hb => by
  have hb1 := sm b o hb
  have n1 : b ≠ ea := fun z => by rw [z, h1] at hb1; cases hb1
  have n2 : b ≠ d := fun z => by rw [← z, upd_ne n1, hb1] at h2; cases h2
  rw [upd_ne n1, upd_ne n2, upd_ne n1, upd_ne n2, upd_ne n1]
  exact hb1
abbrev st_ask_signs : Stmt := top 15
theorem sc_ask_signs : FnScope ["pattern", "gaps", "at", "sign"] ["pattern"] (defScope st_ask_signs) := ⟨rfl, rfl, rfl, by decide +kernel, rfl, by decide +kernel, by decide +kernel⟩
theorem ok_ask_signs {Cn : Addr} (D : Df K mg "ask_signs" st_ask_signs ["pattern"]) (T : Txt mg) (C : CallsX P w K mg base Cn) : CalX P w K mg base "ask_signs" 3 ["pattern"] (spAskX Cn) := by
  refine D.calX sc_ask_signs (fun vs H Q E h => ?_) (fun f cdv A outer s H vs Q E hr h => ?_)
  · obtain ⟨l, rfl, _⟩ := h; rfl
  · obtain ⟨l, rfl, hlt, k, kE⟩ := h
    obtain ⟨_, g_NAME_SIGNS⟩ := T.NAME_SIGNS
    obtain ⟨_, g_GAP_SIGNS⟩ := T.GAP_SIGNS
    obtain ⟨_, g_MOST_GAPS⟩ := T.MOST_GAPS
    refine ⟨_, (@pss_cons _ _ _ _ _ (@ps_set _ _ (1) _ _ _ _ sc_ask_signs.nd rfl (by first | exact Or.inl rfl | exact Or.inr rfl) pe_int (by rfl) (by first | exact .inl rfl | exact .inr rfl | assumption)) (@pss_one _ _ _ (@ps_for _ _ _ _ _ _ _ _ passDef rfl (@enum_k _ _ _ _ _ _ _ _ K rfl rfl T.b_enumerate (@pa_cons _ _ _ _ _ (@pv _ 0 _ _ (by rfl) (by first | exact Or.inl rfl | exact Or.inr (Or.inl rfl) | exact Or.inr (Or.inr rfl)) (by decide) (by decide)) pa_nil (by rfl)) (by rfl)) (@gtup_k _ _ _ _ (2) _ K rfl rfl (@pgs_cons _ _ _ _ _ (@pg_name _ _ (2) _ sc_ask_signs.nd rfl (by first | exact Or.inl rfl | exact Or.inr rfl) (by first | exact .inl rfl | exact .inr rfl | assumption)) (@pgs_cons _ _ _ _ _ (@pg_name _ _ (3) _ sc_ask_signs.nd rfl (by first | exact Or.inl rfl | exact Or.inr rfl) (by first | exact .inl rfl | exact .inr rfl | assumption)) pgs_nil (by rfl)) (by rfl)) (by rfl) (by rfl)) (@pss_consJ _ _ _ _ _ (@ps_if _ _ _ _ _ _ _ _ (@pt_cmpR _ _ _ _ _ _ _ _ (in_k K rfl) (@pv _ 3 _ _ (by rfl) (by first | exact Or.inl rfl | exact Or.inr (Or.inl rfl) | exact Or.inr (Or.inr rfl)) (by decide) (by decide)) (@pe_glob _ _ (.str (Str.ofString "?*#@")) _ _ (by rfl) g_GAP_SIGNS ⟨_, rfl⟩ (by decide)) (by with_unfolding_all rfl)) (@pss_one _ _ _ (@ps_aug _ _ (1) _ _ _ _ _ _ sc_ask_signs.nd rfl (by first | exact Or.inl rfl | exact Or.inr rfl) pe_int iop_add (by first | exact .inl rfl | exact .inr rfl | assumption))) pss_nil) (@pss_one _ _ _ (@ps_if _ _ _ _ _ _ _ _ (@pt_j _ _ _ (@PW.pt _ _ _ (@pw_or _ _ _ _ _ _ _ (@pt_cmpR _ _ _ _ _ _ _ _ op_gt (@pv _ 1 _ _ (by rfl) (by first | exact Or.inl rfl | exact Or.inr (Or.inl rfl) | exact Or.inr (Or.inr rfl)) (by decide) (by decide)) (@pe_glob _ _ (.int 9) _ _ (by rfl) g_MOST_GAPS ⟨_, rfl⟩ (by decide)) (nomark _)) (@pw_or1 _ _ _ _ (@pt_cmpR _ _ _ _ _ _ _ _ (nin_k K rfl) (@pv _ 3 _ _ (by rfl) (by first | exact Or.inl rfl | exact Or.inr (Or.inl rfl) | exact Or.inr (Or.inr rfl)) (by decide) (by decide)) (@pe_op _ _ _ _ _ _ _ _ op_addU (@pe_glob _ _ (.str (Str.ofString "?*#@")) _ _ (by rfl) g_GAP_SIGNS ⟨_, rfl⟩ (by decide)) (@pe_glob _ _ (.str (Str.ofString "abcdefghijklmnopqrstuvwxyzABCDEFGHIJKLMNOPQRSTUVWXYZ0123456789-_.")) _ _ (by rfl) g_NAME_SIGNS ⟨_, rfl⟩ (by decide))) (by with_unfolding_all rfl)))))) (@pss_one _ _ _ (ps_rs C.e_NoPattern hr accX rfl (@pa_cons _ _ _ _ _ (@pv _ 2 _ _ (by rfl) (by first | exact Or.inl rfl | exact Or.inr (Or.inl rfl) | exact Or.inr (Or.inr rfl)) (by decide) (by decide)) pa_nil (by rfl)))) pss_nil))) (by intro _; rfl)))), ?_⟩
    have hlen : (mk l).length = l.length := by rw [len, tl_mk]
    refine ⟨_, rfl, .inl ⟨_, rfl, for_enumS (fun i σ' H' => ∃ x2 x3, σ' = [some (.str (mk l)), some (.int (((l.take i).filter fun c => decide (c ∈ GS)).length : Nat)), x2, x3] ∧ Same H H' ∧ ∀ j, j < i → okAt l j) ⟨none, none, rfl, Same.refl H, fun j h => (by lia)⟩ ?_ ?_⟩⟩
    · rintro i c T' σ' H' hc ⟨x2, x3, rfl, sm, hok⟩ hT
      have hci : l[i]? = some c := by have := get hc; rw [tl_mk] at this; exact this
      have hi : i < l.length := (List.getElem?_eq_some_iff.mp hci).1
      have hfl : ((l.take (i + 1)).filter fun c => decide (c ∈ GS)).length ≤ l.length := Nat.le_trans (List.length_filter_le _ _) (by rw [List.length_take]; lia)
      have htake : ((l.take (i + 1)).filter fun c => decide (c ∈ GS)).length = ((l.take i).filter fun c => decide (c ∈ GS)).length + (if c ∈ GS then 1 else 0) := by
        rw [take_succ_of hci, List.filter_append, List.length_append]
        congr 1
        by_cases h : c ∈ GS
        · rw [if_pos h, filt_pos h]; rfl
        · rw [if_neg h, filt_neg h]; rfl
      refine ⟨T', _, rfl, SqT.of upd_same, rfl, _, _, rfl, _, _, rfl, rfl, ?_⟩
      generalize hH2 : upd H' T' _ = H2
      have sm2 : Same H H2 := by rw [← hH2]; exact sm.new hT
      refine ⟨fun σ2 H3 => σ2 = [some (.str (mk l)), some (.int (((l.take (i + 1)).filter fun c => decide (c ∈ GS)).length : Nat)), some (.int (i : Nat)), some (.str ⟨#[c]⟩)] ∧ H3 = H2, ?_, ?_⟩
      · rintro σ2 H3 ⟨rfl, rfl⟩
        refine ⟨fun b H4 => (b = true → ¬ okAt l i) ∧ (b = false → okAt l i) ∧ H4 = H3, ?_, ?_⟩
        · rintro b H4 ⟨hb1, hb0, rfl⟩
          refine ite2 (fun h => ?_) (fun h => ⟨_, _, rfl, sm2, fun j hj => ?_⟩)
          · refine ⟨_, rfl, fun ea hea => ⟨ea, _, rfl, upd_same, ⟨i, rfl, by lia⟩, fun d hd hne => ⟨rfl, ?_⟩⟩⟩
            obtain ⟨dd, r1, r2⟩ := raised1 (f := "at") (v := .int ((i : Nat) : Int)) hd hne
            exact ⟨dd, r1, kE i (hb1 h) hok ea _ (same_raised sm2 hea hd) (sm2.free hea) r2⟩
          · rcases Nat.lt_succ_iff_lt_or_eq.mp hj with z | z
            · exact hok j z
            · rw [z]; exact hb0 (by simpa using h)
        · refine ⟨_, rfl, _, _, rfl, rfl, _, rfl, ?_⟩
          refine iteB (fun h => ⟨fun _ z => ?_, fun z => (by cases z), rfl⟩) (fun h => ?_)
          · have := (z c hci).1
            have h' := of_decide_eq_true h
            lia
          · refine ⟨_, rfl, .inr (.inl ⟨_, _, rfl, rfl, by decide +kernel, .inl ⟨_, _, rfl, rfl, _, rfl, ?_⟩⟩)⟩
            rw [in_one, gn_in]
            have h' := of_decide_eq_false h
            refine ⟨fun z y => ?_, fun z c' hc' => ?_, rfl⟩
            · rw [decide_eq_true (y c hci).2] at z; cases z
            · rw [hci] at hc'
              cases hc'
              refine ⟨by lia, ?_⟩
              have : decide (c ∈ GS ∨ c ∈ NS) = true := by cases q : decide (c ∈ GS ∨ c ∈ NS) with
                | true => rfl
                | false => rw [q] at z; cases z
              exact of_decide_eq_true this
      · refine ⟨_, rfl, .inl ⟨_, _, rfl, rfl, _, rfl, ?_⟩⟩
        rw [in_one]
        refine ite2 (fun h => ?_) (fun h => ?_)
        · have h' : c ∈ GS := of_decide_eq_true h
          refine ⟨_, rfl, _, _, rfl, rfl, ?_, rfl⟩
          rw [htake, if_pos h']
          rfl
        · have h' : ¬ c ∈ GS := fun z => h (decide_eq_true z)
          refine ⟨?_, rfl⟩
          rw [htake, if_neg h']
          rfl
    · rintro σ' H' ⟨x2, x3, rfl, sm, hok⟩
      rw [hlen] at hok
      refine k (fun i => ?_) _ sm
      by_cases hi : i < l.length
      · exact hok i hi
      · intro c hc
        rw [List.getElem?_eq_none (by lia)] at hc
        cases hc
end
end K
set_option maxHeartbeats 4000000
namespace K
open PySem L2 TX
section
variable {P : Program} {w : World} {K : PySem.W.Frag} {mg : Str → Option Value} {base : Heap}
abbrev st_NoPattern___init__ : Stmt := inClass (top 2) 0
theorem sc_NoPattern___init__ : FnScope ["self", "at"] ["self", "at"] (defScope st_NoPattern___init__) := ⟨rfl, rfl, rfl, by decide +kernel, rfl, by decide +kernel, by decide +kernel⟩
theorem ok_NoPattern_init {Cn Dn : Addr} (F : Ef K mg "NoPattern" Cn Dn "NoPattern.__init__" st_NoPattern___init__ ["self", "at"]) (g_HallError : mg "HallError" = some (.ref Dn)) (S : ESet K Cn "at") : CalE P w K mg base "NoPattern" Cn 1 ["self", "at"] (spIni1 Cn "at") := by
  refine F.cal sc_NoPattern___init__ (fun vs H Q E h => ?_) (by decide) (fun mc f cdv A outer s H vs Q E L_low N_ini hr h => ?_)
  · obtain ⟨ea, v, rfl, _⟩ := h; rfl
  · obtain ⟨ea, v, rfl, hE, ⟨n, rfl, hn⟩, k⟩ := h
    refine ⟨_, (@pss_cons _ _ _ _ _ (@ps_expr _ _ _ _ (pe_ini L_low N_ini rfl g_HallError (@pa_cons _ _ _ _ _ (@pv _ 0 _ _ (by rfl) (by first | exact Or.inl rfl | exact Or.inr (Or.inl rfl) | exact Or.inr (Or.inr rfl)) (by decide) (by decide)) (@pa_cons _ _ _ _ _ (@pe_fstr _ _ _ _ _ _ _ _ pf_str (@pf_val _ _ _ _ (@pv _ 1 _ _ (by rfl) (by first | exact Or.inl rfl | exact Or.inr (Or.inl rfl) | exact Or.inr (Or.inr rfl)) (by decide) (by decide))) (@pfs_cons _ _ _ _ _ pf_str pfs_nil)) pa_nil (by rfl)) (by rfl))) (by rfl)) (@pss_one _ _ _ (eset_k K rfl (@pv _ 0 _ _ (by rfl) (by first | exact Or.inl rfl | exact Or.inr (Or.inl rfl) | exact Or.inr (Or.inr rfl)) (by decide) (by decide)) (@pv _ 1 _ _ (by rfl) (by first | exact Or.inl rfl | exact Or.inr (Or.inl rfl) | exact Or.inr (Or.inr rfl)) (by decide) (by decide))))), ?_⟩
    have ln := dg_len 12 n (by lia)
    have l1 : (Str.ofString "no pattern: wrong behind ").length ≤ 100 := by decide +kernel
    have l2 : (Str.ofString " signs").length ≤ 100 := by decide +kernel
    have l0 : Str.empty.length = 0 := by decide +kernel
    have e1 : (Str.ofString (toString (n : Int))).length ≤ 13 := by rw [dg_mk, mk_len]; exact ln
    refine ⟨_, rfl, TX.small (by rw [app_len]; lia), _, rfl, .inr ⟨n, rfl, hn, TX.small (by rw [app_len, app_len]; lia), TX.small (by rw [app_len, app_len, app_len]; lia), TX.small (by rw [app_len, app_len, app_len]; lia), ?_⟩⟩
    exact ⟨ea, _, none, rfl, hE, _, rfl, _, rfl, ea, Cn, rfl, S, .inl ⟨hE, fun d hd hne => k d hd hne⟩⟩
end
end K
set_option maxHeartbeats 4000000
namespace K
open PySem L2 TX
section
variable {P : Program} {w : World} {K : PySem.W.Frag} {mg : Str → Option Value} {base : Heap}
def spTextParts : Sp := fun vs H Q _ => ∃ t, vs = [.str (mk t)] ∧ ∀ L H', H L = none → Same H H' → HL H' L (tp t) → Q (.ref L) H'
theorem mk_nil {t : List Nat} : decide (V.str (mk t) = V.str (Str.ofString "")) = decide (t = []) := by
  refine decide_eq_decide.mpr ⟨fun h => ?_, fun h => by rw [h]; rfl⟩
  injection h with h
  have := congrArg tl h
  rw [tl_mk] at this
  rw [this]
  decide +kernel
abbrev st_text_parts : Stmt := top 16
theorem sc_text_parts : FnScope ["text"] ["text"] (defScope st_text_parts) := ⟨rfl, rfl, rfl, by decide +kernel, rfl, by decide +kernel, by decide +kernel⟩
theorem ok_text_parts (D : Df K mg "text_parts" st_text_parts ["text"]) (T : Txt mg) : Cal P w K mg base "text_parts" 1 ["text"] spTextParts := by
  refine D.cal sc_text_parts (fun vs H Q E h => ?_) (fun f cdv A outer s H vs Q E hr h => ?_)
  · obtain ⟨t, rfl, _⟩ := h; rfl
  · obtain ⟨t, rfl, k⟩ := h
    refine ⟨_, (@pss_cons _ _ _ _ _ (@ps_if _ _ _ _ _ _ _ _ (@pt_cmpR _ _ _ _ _ _ _ _ (eq_k K rfl hr) (@pv _ 0 _ _ (by rfl) (by first | exact Or.inl rfl | exact Or.inr (Or.inl rfl) | exact Or.inr (Or.inr rfl)) (by decide) (by decide)) pe_str (nomark _)) (@pss_one _ _ _ (@ps_ret _ _ _ _ (@pe_lst _ _ _ _ pa_nil))) pss_nil) (@pss_one _ _ _ (@ps_ret _ _ _ _ (@pe_lst _ _ _ _ (@pa_cons _ _ _ _ _ (@pe_tup _ _ _ _ _ (@pa_cons _ _ _ _ _ pe_str (@pa_cons _ _ _ _ _ (@pv _ 0 _ _ (by rfl) (by first | exact Or.inl rfl | exact Or.inr (Or.inl rfl) | exact Or.inr (Or.inr rfl)) (by decide) (by decide)) pa_nil (by rfl)) (by rfl))) pa_nil (by rfl)))))), ?_⟩
    refine ⟨_, rfl, .inl ⟨rfl, _, rfl, ?_⟩⟩
    rw [mk_nil]
    refine ite2 (fun h => ?_) (fun h => ?_)
    · have h' := of_decide_eq_true h
      refine ⟨by show 0 ≤ sizeLine; decide, fun L hL => k L _ hL ((Same.refl H).new hL) ⟨[], upd_same, ?_⟩⟩
      unfold tp
      rw [if_pos h']
      exact .nil
    · have h' : ¬ t = [] := fun z => h (decide_eq_true z)
      refine ⟨_, rfl, by show 2 ≤ sizeLine; decide, fun T1 h1 => ⟨by show 1 ≤ sizeLine; decide, fun L hL => k L _ ?_ (((Same.refl H).new h1).new hL) ⟨[T1], upd_same, ?_⟩⟩⟩
      · have s1 : Same H (upd H T1 (.tup [.str (Str.ofString "text"), .str (mk t)])) := (Same.refl H).new h1
        exact s1.free hL
      · unfold tp
        rw [if_neg h']
        refine .cons ?_ .nil
        have : T1 ≠ L := ne_of_none upd_same hL
        rw [upd_ne this]
        exact upd_same
structure Calls1 (P : Program) (w : World) (K : PySem.W.Frag) (mg : Str → Option Value) (base : Heap) (Cn : Addr) : Prop where
  e_NoPattern : CalE P w K mg base "NoPattern" Cn 1 ["self", "at"] (spIni1 Cn "at")
  ask_signs : CalX P w K mg base "ask_signs" 3 ["pattern"] (spAskX Cn)
  text_parts : Cal P w K mg base "text_parts" 1 ["text"] spTextParts
def WrongAt (l : List Nat) (i : Nat) : Prop := (l = [] ∧ i = 0) ∨ (l ≠ [] ∧ ¬ okAt l i ∧ ∀ j, j < i → okAt l j)
theorem good_of {l : List Nat} (hne : l ≠ []) (hl : l.length ≤ 1000) (h : ∀ i, okAt l i) : Good l := by
  refine ⟨hne, fun c hc => ?_, ?_, hl⟩
  · obtain ⟨i, hi, rfl⟩ := List.mem_iff_getElem.mp hc
    exact (h i _ (List.getElem?_eq_getElem hi)).2
  · have hp := List.length_pos_iff.mpr hne
    have := (h (l.length - 1) (l[l.length - 1]'(by lia)) (List.getElem?_eq_getElem (by lia))).1
    rwa [show l.length - 1 + 1 = l.length by lia, List.take_length] at this
def spPartsX (C : Addr) : Sp := fun vs H Q E => ∃ l, vs = [.str (mk l)] ∧ l.length ≤ 1000 ∧ (Good l → ∀ L H', H L = none → Same H H' → HL H' L (parse [] l) → Q (.ref L) H') ∧
  ∀ i : Nat, WrongAt l i → ∀ ea H', Same H H' → H ea = none → Rfd H' ea C "at" (.int (i : Int)) → E (.ref ea) none H'
theorem slice_mid {l : List Nat} {i j : Nat} (h1 : i ≤ j) (h2 : j ≤ l.length) : PySem.Txt.slice (mk l) (some (i : Int)) (some (j : Int)) = mk ((l.drop i).take (j - i)) := by
  show StrLaws.sliceText (mk l) (some (i : Int)) (some (j : Int)) = _
  rw [StrLaws.sliceText_plain ⟨by lia, by lia, by rw [show ((mk l).cps.toList).length = l.length from congrArg List.length (tl_mk l)]; lia⟩]
  have e1 : ((i : Nat) : Int).toNat = i := by lia
  have e2 : (((j : Nat) : Int) - ((i : Nat) : Int)).toNat = j - i := by lia
  show mk (((mk l).cps.toList.drop ((i : Nat) : Int).toNat).take (((j : Nat) : Int) - ((i : Nat) : Int)).toNat) = _
  rw [show (mk l).cps.toList = l from tl_mk l, e1, e2]
abbrev st_parts_of : Stmt := top 17
theorem sc_parts_of : FnScope ["pattern", "parts", "begin", "at", "sign"] ["pattern"] (defScope st_parts_of) := ⟨rfl, rfl, rfl, by decide +kernel, rfl, by decide +kernel, by decide +kernel⟩
theorem ok_parts_of {Cn : Addr} (D : Df K mg "parts_of" st_parts_of ["pattern"]) (T : Txt mg) (C : Calls1 P w K mg base Cn) : CalX P w K mg base "parts_of" 4 ["pattern"] (spPartsX Cn) := by
  refine D.calX sc_parts_of (fun vs H Q E h => ?_) (fun f cdv A outer s H vs Q E hr h => ?_)
  · obtain ⟨l, rfl, _⟩ := h; rfl
  · obtain ⟨l, rfl, hl0, k, kE⟩ := h
    obtain ⟨_, g_NAME_SIGNS⟩ := T.NAME_SIGNS
    obtain ⟨_, g_GAP_SIGNS⟩ := T.GAP_SIGNS
    refine ⟨_, (@pss_cons _ _ _ _ _ (@ps_if _ _ _ _ _ _ _ _ (@pt_cmpR _ _ _ _ _ _ _ _ (eq_k K rfl hr) (@pv _ 0 _ _ (by rfl) (by first | exact Or.inl rfl | exact Or.inr (Or.inl rfl) | exact Or.inr (Or.inr rfl)) (by decide) (by decide)) pe_str (nomark _)) (@pss_one _ _ _ (ps_rs C.e_NoPattern hr accX rfl (@pa_cons _ _ _ _ _ pe_int pa_nil (by rfl)))) pss_nil) (@pss_cons _ _ _ _ _ (@ps_expr _ _ _ _ (pe_cX C.ask_signs hr accX (@pa_cons _ _ _ _ _ (@pv _ 0 _ _ (by rfl) (by first | exact Or.inl rfl | exact Or.inr (Or.inl rfl) | exact Or.inr (Or.inr rfl)) (by decide) (by decide)) pa_nil (by rfl))) (by rfl)) (@pss_cons _ _ _ _ _ (@ps_set _ _ (1) _ _ _ _ sc_parts_of.nd rfl (by first | exact Or.inl rfl | exact Or.inr rfl) (@pe_lst _ _ _ _ pa_nil) (by rfl) (by first | exact .inl rfl | exact .inr rfl | assumption)) (@pss_cons _ _ _ _ _ (@ps_set _ _ (2) _ _ _ _ sc_parts_of.nd rfl (by first | exact Or.inl rfl | exact Or.inr rfl) pe_int (by rfl) (by first | exact .inl rfl | exact .inr rfl | assumption)) (@pss_cons _ _ _ _ _ (@ps_for _ _ _ _ _ _ _ _ passDef rfl (@enum_k _ _ _ _ _ _ _ _ K rfl rfl T.b_enumerate (@pa_cons _ _ _ _ _ (@pv _ 0 _ _ (by rfl) (by first | exact Or.inl rfl | exact Or.inr (Or.inl rfl) | exact Or.inr (Or.inr rfl)) (by decide) (by decide)) pa_nil (by rfl)) (by rfl)) (@gtup_k _ _ _ _ (2) _ K rfl rfl (@pgs_cons _ _ _ _ _ (@pg_name _ _ (3) _ sc_parts_of.nd rfl (by first | exact Or.inl rfl | exact Or.inr rfl) (by first | exact .inl rfl | exact .inr rfl | assumption)) (@pgs_cons _ _ _ _ _ (@pg_name _ _ (4) _ sc_parts_of.nd rfl (by first | exact Or.inl rfl | exact Or.inr rfl) (by first | exact .inl rfl | exact .inr rfl | assumption)) pgs_nil (by rfl)) (by rfl)) (by rfl) (by rfl)) (@pss_one _ _ _ (@ps_if _ _ _ _ _ _ _ _ (@pt_cmpR _ _ _ _ _ _ _ _ (in_k K rfl) (@pv _ 4 _ _ (by rfl) (by first | exact Or.inl rfl | exact Or.inr (Or.inl rfl) | exact Or.inr (Or.inr rfl)) (by decide) (by decide)) (@pe_glob _ _ (.str (Str.ofString "?*#@")) _ _ (by rfl) g_GAP_SIGNS ⟨_, rfl⟩ (by decide)) (by with_unfolding_all rfl)) (@pss_cons _ _ _ _ _ (@ps_expr _ _ _ _ (@bm_k _ _ _ _ _ _ _ _ _ _ _ _ K rfl PySem.F.plainAttrs_list PySem.F.slot_list_extend PySem.F.type_list_extend mt_extend (@pv _ 1 _ _ (by rfl) (by first | exact Or.inl rfl | exact Or.inr (Or.inl rfl) | exact Or.inr (Or.inr rfl)) (by decide) (by decide)) (@pa_cons _ _ _ _ _ (@pe_c _ _ _ _ _ _ _ _ _ _ _ C.text_parts hr (@pa_cons _ _ _ _ _ (@pe_slice _ _ _ _ _ _ _ _ _ _ (sl_k K rfl) (@pv _ 0 _ _ (by rfl) (by first | exact Or.inl rfl | exact Or.inr (Or.inl rfl) | exact Or.inr (Or.inr rfl)) (by decide) (by decide)) (@po_some _ _ _ (@pv _ 2 _ _ (by rfl) (by first | exact Or.inl rfl | exact Or.inr (Or.inl rfl) | exact Or.inr (Or.inr rfl)) (by decide) (by decide))) (@po_some _ _ _ (@pv _ 3 _ _ (by rfl) (by first | exact Or.inl rfl | exact Or.inr (Or.inl rfl) | exact Or.inr (Or.inr rfl)) (by decide) (by decide)))) pa_nil (by rfl)) (by decide) (by rfl) (by decide) (by rfl) (by rfl)) pa_nil (by rfl)) (by rfl) (by rfl) (by rfl) (by rfl) (by rfl)) (by rfl)) (@pss_cons _ _ _ _ _ (@ps_expr _ _ _ _ (@bm_k _ _ _ _ _ _ _ _ _ _ _ _ K rfl PySem.F.plainAttrs_list PySem.F.slot_list_append PySem.F.type_list_append mt_append (@pv _ 1 _ _ (by rfl) (by first | exact Or.inl rfl | exact Or.inr (Or.inl rfl) | exact Or.inr (Or.inr rfl)) (by decide) (by decide)) (@pa_cons _ _ _ _ _ (@pe_tup _ _ _ _ _ (@pa_cons _ _ _ _ _ pe_str (@pa_cons _ _ _ _ _ (@pv _ 4 _ _ (by rfl) (by first | exact Or.inl rfl | exact Or.inr (Or.inl rfl) | exact Or.inr (Or.inr rfl)) (by decide) (by decide)) pa_nil (by rfl)) (by rfl))) pa_nil (by rfl)) (by rfl) (by rfl) (by rfl) (by rfl) (by rfl)) (by rfl)) (@pss_one _ _ _ (@ps_set _ _ (2) _ _ _ _ sc_parts_of.nd rfl (by first | exact Or.inl rfl | exact Or.inr rfl) (@pe_op _ _ _ _ _ _ _ _ op_addU (@pv _ 3 _ _ (by rfl) (by first | exact Or.inl rfl | exact Or.inr (Or.inl rfl) | exact Or.inr (Or.inr rfl)) (by decide) (by decide)) pe_int) (by rfl) (by first | exact .inl rfl | exact .inr rfl | assumption))))) pss_nil)) (by intro _; rfl)) (@pss_cons _ _ _ _ _ (@ps_expr _ _ _ _ (@bm_k _ _ _ _ _ _ _ _ _ _ _ _ K rfl PySem.F.plainAttrs_list PySem.F.slot_list_extend PySem.F.type_list_extend mt_extend (@pv _ 1 _ _ (by rfl) (by first | exact Or.inl rfl | exact Or.inr (Or.inl rfl) | exact Or.inr (Or.inr rfl)) (by decide) (by decide)) (@pa_cons _ _ _ _ _ (@pe_c _ _ _ _ _ _ _ _ _ _ _ C.text_parts hr (@pa_cons _ _ _ _ _ (@pe_slice _ _ _ _ _ _ _ _ _ _ (sl_k K rfl) (@pv _ 0 _ _ (by rfl) (by first | exact Or.inl rfl | exact Or.inr (Or.inl rfl) | exact Or.inr (Or.inr rfl)) (by decide) (by decide)) (@po_some _ _ _ (@pv _ 2 _ _ (by rfl) (by first | exact Or.inl rfl | exact Or.inr (Or.inl rfl) | exact Or.inr (Or.inr rfl)) (by decide) (by decide))) po_none) pa_nil (by rfl)) (by decide) (by rfl) (by decide) (by rfl) (by rfl)) pa_nil (by rfl)) (by rfl) (by rfl) (by rfl) (by rfl) (by rfl)) (by rfl)) (@pss_one _ _ _ (@ps_ret _ _ _ _ (@pv _ 1 _ _ (by rfl) (by first | exact Or.inl rfl | exact Or.inr (Or.inl rfl) | exact Or.inr (Or.inr rfl)) (by decide) (by decide)))))))))), ?_⟩
    have hlen : (mk l).length = l.length := by rw [len, tl_mk]
    refine ⟨_, rfl, .inl ⟨rfl, _, rfl, ?_⟩⟩
    rw [mk_nil]
    by_cases hne : l = []
    · rw [decide_eq_true hne]
      refine iteT (fun ea hea => ⟨ea, _, rfl, upd_same, ⟨0, rfl, by decide⟩, fun d hd hne => ⟨rfl, ?_⟩⟩)
      obtain ⟨dd, r1, r2⟩ := raised1 (f := "at") (v := .int ((0 : Nat) : Int)) hd hne
      exact ⟨dd, r1, kE 0 (.inl ⟨by assumption, rfl⟩) ea _ (same_raised (Same.refl H) hea hd) hea r2⟩
    rw [decide_eq_false hne]
    refine iteF ?_
    refine ⟨_, rfl, l, rfl, hl0, fun hall H1 sm1 => ?_, fun i hn hj ea H' sm hea r ea' ez => ?_⟩
    rotate_left
    · cases ez
      exact kE i (.inr ⟨hne, hn, hj⟩) ea H' sm hea r
    have hg := good_of hne hl0 hall
    replace k := k hg
    refine ⟨by show 0 ≤ sizeLine; decide, fun L hL => ?_⟩
    have hL0 : H L = none := sm1.free hL
    have ext : ∀ (H' : Hp) (acc : List Pt) (t : List Nat) (M : Addr) (H2 : Hp), HL H' L acc → acc.length ≤ 5000 → Same H H' → H' M = none → Same H' H2 → HL H2 M (tp t) →
        ∃ xs zs, H2 L = some (.lst xs) ∧ H2 M = some (.lst zs) ∧ xs.length + zs.length ≤ sizeLine ∧ HL (upd H2 L (.lst (xs ++ zs))) L (acc ++ tp t) ∧ Same H (upd H2 L (.lst (xs ++ zs))) := by
      intro H' acc t M H2 hl ha sm hM sm2 hm
      obtain ⟨Ts, h1, h2⟩ := hl.ex
      obtain ⟨Us, h3, h4⟩ := hm.ex
      have l1 := h2.len
      have l2 := h4.len
      have l3 : (tp t).length ≤ 1 := by unfold tp; split <;> simp
      have hL2 : H2 L = some (.lst (Ts.map V.ref)) := sm2 _ _ h1
      refine ⟨_, _, hL2, h3, by rw [List.length_map, List.length_map]; exact small (by lia), ⟨Ts ++ Us, by rw [List.map_append]; exact upd_same, ?_⟩, (sm.trans sm2).put hL0⟩
      exact Tups.app ((h2.keep (Same.tk sm2)).keep ((TKeep.refl H2).lst hL2)) (h4.keep ((TKeep.refl H2).lst hL2))
    refine ⟨_, rfl, .inl ⟨_, rfl, for_enumS (fun i σ' H' => ∃ acc x3 x4 bg, σ' = [some (.str (mk l)), some (.ref L), some (.int (bg : Nat)), x3, x4] ∧ Same H H' ∧ HL H' L acc ∧ bg ≤ i ∧ i ≤ l.length ∧ acc.length ≤ 2 * i ∧ acc ++ parse ((l.drop bg).take (i - bg)) (l.drop i) = parse [] l) ⟨[], none, none, 0, rfl, (sm1.new hL), ⟨[], upd_same, .nil⟩, Nat.le_refl _, Nat.zero_le _, Nat.le_refl _, by simp⟩ ?_ ?_⟩⟩
    · rintro i c T' σ' H' hc ⟨acc, x3, x4, bg, rfl, sm, hl, hbi, hil, hal, hp⟩ hT
      have hci : l[i]? = some c := by have := get hc; rw [tl_mk] at this; exact this
      have hi : i < l.length := (List.getElem?_eq_some_iff.mp hci).1
      have hdr : l.drop i = c :: l.drop (i + 1) := by
        have := List.drop_eq_getElem_cons hi
        rw [this]
        congr 1
        exact (List.getElem?_eq_some_iff.mp hci).2
      refine ⟨T', _, rfl, SqT.of upd_same, rfl, _, _, rfl, _, _, rfl, rfl, ?_⟩
      generalize hH2 : upd H' T' _ = H2
      have s12 : Same H' H2 := by rw [← hH2]; exact (Same.refl H').new hT
      have sm2 : Same H H2 := sm.trans s12
      have hl2 : HL H2 L acc := hl.same s12
      refine ⟨_, rfl, .inl ⟨_, _, rfl, rfl, _, rfl, ?_⟩⟩
      rw [in_one]
      rw [hdr, parse] at hp
      refine ite2 (fun h => ?_) (fun h => ?_)
      · have h' : c ∈ GS := of_decide_eq_true h
        rw [if_pos h'] at hp
        refine ⟨_, rfl, .inl ⟨rfl, hl2.sq⟩, _, rfl, _, rfl, _, rfl, _, rfl, _, rfl, .inl ⟨_, rfl, small (by lia), ?_⟩⟩
        rw [slice_mid hbi hil]
        refine ⟨_, rfl, fun M H3 hM sm3 hm => ?_⟩
        obtain ⟨xs, zs, e1, e2, e3, e4, e5⟩ := ext H2 acc _ M H3 hl2 (by lia) sm2 hM sm3 hm
        refine ⟨L, M, xs, zs, rfl, rfl, e1, e2, e3, ?_⟩
        generalize hH4 : upd H3 L _ = H4
        rw [hH4] at e4 e5
        refine ⟨_, rfl, .inl ⟨rfl, e4.sq⟩, _, rfl, by show 2 ≤ sizeLine; decide, fun T2 hT2 => ?_⟩
        have e6 : HL (upd H4 T2 (.tup (Pt.gp c).vs)) L _ := e4.new hT2
        obtain ⟨Ts, h1, h2⟩ := e6.ex
        have htl : (tp ((l.drop bg).take (i - bg))).length ≤ 1 := by unfold tp; split <;> simp
        have hTl := h2.len
        rw [List.length_append] at hTl
        refine ⟨L, _, _, rfl, rfl, h1, by rw [List.length_map]; exact small' (by lia), ?_⟩
        refine ⟨_, rfl, .inl ⟨_, _, rfl, rfl, ?_⟩⟩
        have hT2L : T2 ≠ L := fun z => by subst z; rw [upd_same] at h1; cases h1
        refine ⟨acc ++ tp ((l.drop bg).take (i - bg)) ++ [.gp c], some (.int (i : Nat)), some (.str ⟨#[c]⟩), i + 1, rfl, (e5.new hT2).put hL0, ⟨Ts ++ [T2], by rw [List.map_append]; exact upd_same, ?_⟩, Nat.le_refl _, hi, by rw [List.length_append, List.length_append, List.length_singleton]; lia, ?_⟩
        · refine Tups.app (h2.keep ((TKeep.refl _).lst h1)) (.cons ?_ .nil)
          rw [upd_ne hT2L]
          exact upd_same
        · rw [← hp]
          simp
      · have h' : ¬ c ∈ GS := fun z => h (decide_eq_true z)
        rw [if_neg h'] at hp
        refine ⟨acc, _, _, bg, rfl, sm2, hl2, by lia, hi, by lia, ?_⟩
        rw [← hp]
        congr 2
        have e1 : i + 1 - bg = (i - bg) + 1 := by lia
        rw [e1]
        refine take_succ_of ?_
        rw [List.getElem?_drop]
        have e2 : bg + (i - bg) = i := by lia
        rw [e2]
        exact hci
    · rintro σ' H' ⟨acc, x3, x4, bg, rfl, sm, hl, hbi, hil, hal, hp⟩
      refine ⟨_, rfl, .inl ⟨rfl, hl.sq⟩, _, rfl, _, rfl, _, rfl, .inl ⟨_, rfl, small (by lia), ?_⟩⟩
      have hbl : bg ≤ l.length := by lia
      rw [slice_from (by lia) (by rw [tl_mk]; lia), tl_mk]
      refine ⟨_, rfl, fun M H3 hM sm3 hm => ?_⟩
      obtain ⟨xs, zs, e1, e2, e3, e4, e5⟩ := ext H' acc _ M H3 hl (by lia) sm hM sm3 hm
      refine ⟨L, M, xs, zs, rfl, rfl, e1, e2, e3, _, rfl, ?_⟩
      refine k L _ hL0 e5 ?_
      rw [hlen] at hp
      have e6 : (l.drop bg).take (l.length - bg) = l.drop bg := List.take_of_length_le (by rw [List.length_drop]; exact Nat.le_refl _)
      rw [List.drop_length, parse, e6] at hp
      have e7 : ((bg : Nat) : Int).toNat = bg := by lia
      rw [e7] at e4
      rw [← hp]
      exact e4
end
end K
set_option maxHeartbeats 4000000
namespace K
open PySem L2 TX
section
variable {P : Program} {w : World} {K : PySem.W.Frag} {mg : Str → Option Value} {base : Heap}
def spAllOf : Sp := fun vs H Q _ => ∃ t g, vs = [.str (mk t), .str g] ∧ t.length ≤ 1000 ∧ ∀ H', Same H H' → Q (.bl (allOf t (tl g))) H'
abbrev st_all_of : Stmt := top 11
theorem sc_all_of : FnScope ["text", "signs"] ["text", "signs"] (defScope st_all_of) := ⟨rfl, rfl, rfl, by decide +kernel, rfl, by decide +kernel, by decide +kernel⟩
theorem ok_all_of (D : Df K mg "all_of" st_all_of ["text", "signs"]) (T : Txt mg) : Cal P w K mg base "all_of" 1 ["text", "signs"] spAllOf := by
  refine D.cal sc_all_of (fun vs H Q E h => ?_) (fun f cdv A outer s H vs Q E hr h => ?_)
  · obtain ⟨t, g, rfl, _⟩ := h; rfl
  · obtain ⟨t, g, rfl, hl, k⟩ := h
    refine ⟨_, (@pss_one _ _ _ (@ps_ret _ _ _ _ (@pe_j _ _ _ (@pe_and _ _ _ _ _ _ _ (@pe_cmpR _ _ _ _ _ _ _ _ (ne_k K rfl hr) (@pv _ 0 _ _ (by rfl) (by first | exact Or.inl rfl | exact Or.inr (Or.inl rfl) | exact Or.inr (Or.inr rfl)) (by decide) (by decide)) pe_str (nomark _)) (@pe_one _ _ _ _ _ (@pe_callB _ _ _ _ _ _ _ _ _ (all_k K rfl rfl) (by rfl) T.b_all (by decide +kernel) (@pa_cons _ _ _ _ _ (@pe_lcomp _ _ _ _ _ _ _ _ _ _ _ ["sign"] [("signs", 1)] rfl (@any_k _ _ _ _ K rfl (@pv _ 0 _ _ (by rfl) (by first | exact Or.inl rfl | exact Or.inr (Or.inl rfl) | exact Or.inr (Or.inr rfl)) (by decide) (by decide))) (fun _ _ _ _ _ => (@pg_name _ _ (0) _ (show (["sign", "signs"] : List Str).Nodup by decide +kernel) rfl (by first | exact Or.inl rfl | exact Or.inr rfl) (by first | exact .inl rfl | exact .inr rfl | assumption))) (fun _ _ _ _ _ => pif_nil) (fun _ _ _ _ _ => (@pe_cmpR _ _ _ _ _ _ _ _ (in_k K rfl) (@pv _ 0 _ _ (by rfl) (by first | exact Or.inl rfl | exact Or.inr (Or.inl rfl) | exact Or.inr (Or.inr rfl)) (by decide) (by decide)) (@pv _ 1 _ _ (by rfl) (by first | exact Or.inl rfl | exact Or.inr (Or.inl rfl) | exact Or.inr (Or.inr rfl)) (by decide) (by decide)) (by with_unfolding_all rfl))) (by rfl) (by intro _; rfl)) pa_nil (by rfl)) (by decide) (by decide) (by rfl) (by rfl))))))), ?_⟩
    refine ⟨fun v H' => v = .bl (allOf t (tl g)) ∧ Same H H', ?_, ?_⟩
    · rintro v H' ⟨rfl, sm⟩
      exact k H' sm
    refine ⟨_, rfl, .inl ⟨rfl, _, rfl, ?_⟩⟩
    rw [mk_nil]
    refine iteB (fun h => ?_) (fun h => ?_)
    · have hne : ¬ t = [] := fun z => by rw [decide_eq_true z] at h; cases h
      refine ⟨_, rfl, .inr (.inr ⟨mk t, rfl, fun D hD => ?_⟩)⟩
      refine comp_strN (fun i ys H' => ys = (t.take i).map (fun c => V.bl (decide (c ∈ tl g))) ∧ Same H H' ∧ H' D = some (.lst ys) ∧ ys.length ≤ i ∧ i ≤ t.length) ⟨rfl, (Same.refl H).new hD, upd_same, Nat.le_refl _, Nat.zero_le _⟩ (fun i ys H' h => h.2.2.1) ?_ ?_
      · rintro i ys H' c hc ⟨rfl, sm, hHD, hle, _⟩
        have hci : t[i]? = some c := by have := get hc; rw [tl_mk] at this; exact this
        have hi : i < t.length := (List.getElem?_eq_some_iff.mp hci).1
        refine ⟨_, rfl, _, rfl, .inl ⟨_, _, rfl, rfl, hHD, small' (by lia), ?_, sm.put hD, upd_same, ?_, hi⟩⟩
        · rw [take_succ_of hci, List.map_append, in_one]
          rfl
        · rw [List.length_append, List.length_singleton]; lia
      · rintro ys H' ⟨rfl, sm, hHD, _, _⟩
        have e3 : t.take (mk t).length = t := by rw [mk_len]; exact List.take_of_length_le (Nat.le_refl _)
        rw [e3] at hHD
        refine ⟨D, t.map fun c => decide (c ∈ tl g), rfl, SqL.of (by rw [List.map_map]; exact hHD), ?_, sm⟩
        unfold allOf
        rw [decide_eq_true hne, Bool.true_and, List.all_map]
        rfl
    · have he : t = [] := Classical.byContradiction fun z => by rw [decide_eq_false z] at h; cases h
      refine ⟨?_, Same.refl H⟩
      subst he
      rfl
def spGapTakes : Sp := fun vs H Q _ => ∃ c t, vs = [.str (mk [c]), .str (mk t)] ∧ t.length ≤ 1000 ∧ ∀ H', Same H H' → Q (.bl (gapTakes c t)) H'
structure CallsA (P : Program) (w : World) (K : PySem.W.Frag) (mg : Str → Option Value) (base : Heap) : Prop where
  all_of : Cal P w K mg base "all_of" 1 ["text", "signs"] spAllOf
theorem lit1 (c d : Nat) (s : String) (h : Str.ofString s = mk [d]) : decide (V.str (mk [c]) = V.str (Str.ofString s)) = decide (c = d) := by
  rw [h, dec_str]
  exact decide_eq_decide.mpr ⟨fun z => by injection z, fun z => by rw [z]⟩
theorem len_eq1 (t : List Nat) : decide (V.int (((mk t).length : Nat) : Int) = V.int 1) = decide (t.length = 1) := by
  rw [mk_len]
  exact decide_eq_decide.mpr ⟨fun z => by injection z with z; lia, fun z => by rw [z]; rfl⟩
abbrev st_gap_takes : Stmt := top 19
theorem sc_gap_takes : FnScope ["gap_sign", "text"] ["gap_sign", "text"] (defScope st_gap_takes) := ⟨rfl, rfl, rfl, by decide +kernel, rfl, by decide +kernel, by decide +kernel⟩
theorem ok_gap_takes (D : Df K mg "gap_takes" st_gap_takes ["gap_sign", "text"]) (T : Txt mg) (C : CallsA P w K mg base) : Cal P w K mg base "gap_takes" 2 ["gap_sign", "text"] spGapTakes := by
  refine D.cal sc_gap_takes (fun vs H Q E h => ?_) (fun f cdv A outer s H vs Q E hr h => ?_)
  · obtain ⟨c, t, rfl, _⟩ := h; rfl
  · obtain ⟨c, t, rfl, hl, k⟩ := h
    obtain ⟨_, g_FIGURES⟩ := T.FIGURES
    obtain ⟨_, g_LETTERS⟩ := T.LETTERS
    refine ⟨_, (@pss_cons _ _ _ _ _ (@ps_if _ _ _ _ _ _ _ _ (@pt_cmpR _ _ _ _ _ _ _ _ (eq_k K rfl hr) (@pv _ 0 _ _ (by rfl) (by first | exact Or.inl rfl | exact Or.inr (Or.inl rfl) | exact Or.inr (Or.inr rfl)) (by decide) (by decide)) pe_str (nomark _)) (@pss_one _ _ _ (@ps_ret _ _ _ _ (@pe_cmpR _ _ _ _ _ _ _ _ (eq_k K rfl hr) (@pe_callB _ _ _ _ _ _ _ _ _ (len_k K rfl) (by rfl) T.b_len PySem.boot_len (@pa_cons _ _ _ _ _ (@pv _ 1 _ _ (by rfl) (by first | exact Or.inl rfl | exact Or.inr (Or.inl rfl) | exact Or.inr (Or.inr rfl)) (by decide) (by decide)) pa_nil (by rfl)) (by decide) (by decide) (by rfl) (by rfl)) pe_int (nomark _)))) pss_nil) (@pss_cons _ _ _ _ _ (@ps_if _ _ _ _ _ _ _ _ (@pt_cmpR _ _ _ _ _ _ _ _ (eq_k K rfl hr) (@pv _ 0 _ _ (by rfl) (by first | exact Or.inl rfl | exact Or.inr (Or.inl rfl) | exact Or.inr (Or.inr rfl)) (by decide) (by decide)) pe_str (nomark _)) (@pss_one _ _ _ (@ps_ret _ _ _ _ (@pe_c _ _ _ _ _ _ _ _ _ _ _ C.all_of hr (@pa_cons _ _ _ _ _ (@pv _ 1 _ _ (by rfl) (by first | exact Or.inl rfl | exact Or.inr (Or.inl rfl) | exact Or.inr (Or.inr rfl)) (by decide) (by decide)) (@pa_cons _ _ _ _ _ (@pe_glob _ _ (.str (Str.ofString "0123456789")) _ _ (by rfl) g_FIGURES ⟨_, rfl⟩ (by decide)) pa_nil (by rfl)) (by rfl)) (by decide) (by rfl) (by decide) (by rfl) (by rfl)))) pss_nil) (@pss_cons _ _ _ _ _ (@ps_if _ _ _ _ _ _ _ _ (@pt_cmpR _ _ _ _ _ _ _ _ (eq_k K rfl hr) (@pv _ 0 _ _ (by rfl) (by first | exact Or.inl rfl | exact Or.inr (Or.inl rfl) | exact Or.inr (Or.inr rfl)) (by decide) (by decide)) pe_str (nomark _)) (@pss_one _ _ _ (@ps_ret _ _ _ _ (@pe_c _ _ _ _ _ _ _ _ _ _ _ C.all_of hr (@pa_cons _ _ _ _ _ (@pv _ 1 _ _ (by rfl) (by first | exact Or.inl rfl | exact Or.inr (Or.inl rfl) | exact Or.inr (Or.inr rfl)) (by decide) (by decide)) (@pa_cons _ _ _ _ _ (@pe_glob _ _ (.str (Str.ofString "abcdefghijklmnopqrstuvwxyzABCDEFGHIJKLMNOPQRSTUVWXYZ")) _ _ (by rfl) g_LETTERS ⟨_, rfl⟩ (by decide)) pa_nil (by rfl)) (by rfl)) (by decide) (by rfl) (by decide) (by rfl) (by rfl)))) pss_nil) (@pss_one _ _ _ (@ps_ret _ _ _ _ pe_bl))))), ?_⟩
    have hlen := mk_len t
    refine ⟨_, rfl, .inl ⟨rfl, _, rfl, ?_⟩⟩
    rw [lit1 c 63 "?" (by decide +kernel)]
    refine ite2 (fun h => ?_) (fun h => ?_)
    · have h' : c = 63 := of_decide_eq_true h
      refine ⟨_, rfl, _, _, rfl, ⟨small (by lia), rfl⟩, .inl ⟨rfl, ?_⟩⟩
      rw [len_eq1]
      have := k H (Same.refl H)
      unfold gapTakes at this
      rw [if_pos h'] at this
      exact this
    have n1 : ¬ c = 63 := fun z => h (decide_eq_true z)
    refine ⟨_, rfl, .inl ⟨rfl, _, rfl, ?_⟩⟩
    rw [lit1 c 35 "#" (by decide +kernel)]
    refine ite2 (fun h => ?_) (fun h => ?_)
    · have h' : c = 35 := of_decide_eq_true h
      refine ⟨_, rfl, t, _, rfl, hl, fun H' sm => ?_⟩
      have := k H' sm
      unfold gapTakes at this
      rw [if_neg n1, if_pos h'] at this
      exact this
    have n2 : ¬ c = 35 := fun z => h (decide_eq_true z)
    refine ⟨_, rfl, .inl ⟨rfl, _, rfl, ?_⟩⟩
    rw [lit1 c 64 "\x40" (by decide +kernel)]
    refine ite2 (fun h => ?_) (fun h => ?_)
    · have h' : c = 64 := of_decide_eq_true h
      refine ⟨_, rfl, t, _, rfl, hl, fun H' sm => ?_⟩
      have := k H' sm
      unfold gapTakes at this
      rw [if_neg n1, if_neg n2, if_pos h'] at this
      exact this
    have n3 : ¬ c = 64 := fun z => h (decide_eq_true z)
    have := k H (Same.refl H)
    unfold gapTakes at this
    rw [if_neg n1, if_neg n2, if_neg n3] at this
    exact this
structure CallsB (P : Program) (w : World) (K : PySem.W.Frag) (mg : Str → Option Value) (base : Heap) : Prop where
  gap_takes : Cal P w K mg base "gap_takes" 2 ["gap_sign", "text"] spGapTakes
def spTakes : Sp := fun vs H Q _ => ∃ (a : Addr) (p : Pt) (t : List Nat), vs = [.ref a, .str (mk t)] ∧ H a = some (.tup p.vs) ∧ p.ok ∧ t.length ≤ 1000 ∧ ∀ H', Same H H' → Q (.bl (p.takes t)) H'
theorem wtext : decide (V.str (Str.ofString "text") = V.str (Str.ofString "text")) = true := decide_eq_true rfl
theorem wgap : decide (V.str (Str.ofString "gap") = V.str (Str.ofString "text")) = false := by decide +kernel
abbrev st_takes : Stmt := top 20
theorem sc_takes : FnScope ["part", "text", "sort", "what"] ["part", "text"] (defScope st_takes) := ⟨rfl, rfl, rfl, by decide +kernel, rfl, by decide +kernel, by decide +kernel⟩
theorem ok_takes (D : Df K mg "takes" st_takes ["part", "text"]) (T : Txt mg) (C : CallsB P w K mg base) : Cal P w K mg base "takes" 3 ["part", "text"] spTakes := by
  refine D.cal sc_takes (fun vs H Q E h => ?_) (fun f cdv A outer s H vs Q E hr h => ?_)
  · obtain ⟨a, p, t, rfl, _⟩ := h; rfl
  · obtain ⟨a, p, t, rfl, ha, hok, hl, k⟩ := h
    refine ⟨_, (@pss_cons _ _ _ _ _ (@ps_asg _ _ _ _ _ _ (@pv _ 0 _ _ (by rfl) (by first | exact Or.inl rfl | exact Or.inr (Or.inl rfl) | exact Or.inr (Or.inr rfl)) (by decide) (by decide)) (@gtup_k _ _ _ _ (2) _ K rfl rfl (@pgs_cons _ _ _ _ _ (@pg_name _ _ (2) _ sc_takes.nd rfl (by first | exact Or.inl rfl | exact Or.inr rfl) (by first | exact .inl rfl | exact .inr rfl | assumption)) (@pgs_cons _ _ _ _ _ (@pg_name _ _ (3) _ sc_takes.nd rfl (by first | exact Or.inl rfl | exact Or.inr rfl) (by first | exact .inl rfl | exact .inr rfl | assumption)) pgs_nil (by rfl)) (by rfl)) (by rfl) (by rfl)) (by rfl) (by rfl) (by rfl)) (@pss_cons _ _ _ _ _ (@ps_if _ _ _ _ _ _ _ _ (@pt_cmpR _ _ _ _ _ _ _ _ (eq_k K rfl hr) (@pv _ 2 _ _ (by rfl) (by first | exact Or.inl rfl | exact Or.inr (Or.inl rfl) | exact Or.inr (Or.inr rfl)) (by decide) (by decide)) pe_str (nomark _)) (@pss_one _ _ _ (@ps_ret _ _ _ _ (@pe_cmpR _ _ _ _ _ _ _ _ (eq_k K rfl hr) (@pv _ 1 _ _ (by rfl) (by first | exact Or.inl rfl | exact Or.inr (Or.inl rfl) | exact Or.inr (Or.inr rfl)) (by decide) (by decide)) (@pv _ 3 _ _ (by rfl) (by first | exact Or.inl rfl | exact Or.inr (Or.inl rfl) | exact Or.inr (Or.inr rfl)) (by decide) (by decide)) (nomark _)))) pss_nil) (@pss_one _ _ _ (@ps_ret _ _ _ _ (@pe_c _ _ _ _ _ _ _ _ _ _ _ C.gap_takes hr (@pa_cons _ _ _ _ _ (@pv _ 3 _ _ (by rfl) (by first | exact Or.inl rfl | exact Or.inr (Or.inl rfl) | exact Or.inr (Or.inr rfl)) (by decide) (by decide)) (@pa_cons _ _ _ _ _ (@pv _ 1 _ _ (by rfl) (by first | exact Or.inl rfl | exact Or.inr (Or.inl rfl) | exact Or.inr (Or.inr rfl)) (by decide) (by decide)) pa_nil (by rfl)) (by rfl)) (by decide) (by rfl) (by decide) (by rfl) (by rfl)))))), ?_⟩
    refine ⟨_, rfl, a, _, rfl, SqT.of ha, rfl, _, _, rfl, _, _, rfl, rfl, ?_⟩
    cases p with
    | tx l =>
      refine ⟨_, rfl, .inl ⟨rfl, _, rfl, ?_⟩⟩
      refine Eq.mpr (congrArg (fun b => if b = true then _ else _) wtext) ?_
      refine iteT ?_
      refine ⟨_, rfl, _, rfl, .inl ⟨rfl, ?_⟩⟩
      have := k H (Same.refl H)
      rw [show (Pt.tx l).takes t = decide (V.str (mk t) = V.str (mk l)) from (dec_str t l).symm] at this
      exact this
    | gp c =>
      refine ⟨_, rfl, .inl ⟨rfl, _, rfl, ?_⟩⟩
      refine Eq.mpr (congrArg (fun b => if b = true then _ else _) wgap) ?_
      refine iteF ?_
      exact ⟨_, rfl, _, rfl, c, t, rfl, hl, fun H' sm => k H' sm⟩
structure CallsC (P : Program) (w : World) (K : PySem.W.Frag) (mg : Str → Option Value) (base : Heap) : Prop where
  takes : Cal P w K mg base "takes" 3 ["part", "text"] spTakes
def spFurthest : Sp := fun vs H Q _ => ∃ a p n d g, vs = [.ref a, .str (mk n), .ref d] ∧ H a = some (.tup p.vs) ∧ p.ok ∧ n.length ≤ 60 ∧ DF H d g ∧ ∀ e H', H e = none → Same H H' → DF H' e (far p n fun x => (g x).isSome) → Q (.ref e) H'
abbrev st_furthest_ends : Stmt := top 21
theorem sc_furthest_ends : FnScope ["part", "name", "later", "ends", "begin", "end"] ["part", "name", "later"] (defScope st_furthest_ends) := ⟨rfl, rfl, rfl, by decide +kernel, rfl, by decide +kernel, by decide +kernel⟩
theorem ok_furthest_ends (D : Df K mg "furthest_ends" st_furthest_ends ["part", "name", "later"]) (T : Txt mg) (C : CallsC P w K mg base) : Cal P w K mg base "furthest_ends" 4 ["part", "name", "later"] spFurthest := by
  refine D.cal sc_furthest_ends (fun vs H Q E h => ?_) (fun f cdv A outer s H vs Q E hr h => ?_)
  · obtain ⟨a, p, n, d, g, rfl, _⟩ := h; rfl
  · obtain ⟨a, p, n, d, g, rfl, ha, hok, hn, hd, k⟩ := h
    refine ⟨_, (@pss_cons _ _ _ _ _ (@ps_set _ _ (3) _ _ _ _ sc_furthest_ends.nd rfl (by first | exact Or.inl rfl | exact Or.inr rfl) pe_dnewK (by rfl) (by first | exact .inl rfl | exact .inr rfl | assumption)) (@pss_cons _ _ _ _ _ (@ps_for _ _ _ _ _ _ _ _ PassesOwn.never rfl (@pi_range1 _ _ _ _ _ _ rfl T.b_range (@pa_cons _ _ _ _ _ (@pe_op _ _ _ _ _ _ _ _ op_addU (@pe_callB _ _ _ _ _ _ _ _ _ (len_k K rfl) (by rfl) T.b_len PySem.boot_len (@pa_cons _ _ _ _ _ (@pv _ 1 _ _ (by rfl) (by first | exact Or.inl rfl | exact Or.inr (Or.inl rfl) | exact Or.inr (Or.inr rfl)) (by decide) (by decide)) pa_nil (by rfl)) (by decide) (by decide) (by rfl) (by rfl)) pe_int) pa_nil (by rfl)) (by rfl)) (@pg_name _ _ (4) _ sc_furthest_ends.nd rfl (by first | exact Or.inl rfl | exact Or.inr rfl) (by first | exact .inl rfl | exact .inr rfl | assumption)) (@pss_one _ _ _ (@ps_for _ _ _ _ _ _ _ _ PassesOwn.never rfl (@pi_range2 _ _ _ _ _ _ _ rfl T.b_range (@pa_cons _ _ _ _ _ (@pv _ 4 _ _ (by rfl) (by first | exact Or.inl rfl | exact Or.inr (Or.inl rfl) | exact Or.inr (Or.inr rfl)) (by decide) (by decide)) (@pa_cons _ _ _ _ _ (@pe_op _ _ _ _ _ _ _ _ op_addU (@pe_callB _ _ _ _ _ _ _ _ _ (len_k K rfl) (by rfl) T.b_len PySem.boot_len (@pa_cons _ _ _ _ _ (@pv _ 1 _ _ (by rfl) (by first | exact Or.inl rfl | exact Or.inr (Or.inl rfl) | exact Or.inr (Or.inr rfl)) (by decide) (by decide)) pa_nil (by rfl)) (by decide) (by decide) (by rfl) (by rfl)) pe_int) pa_nil (by rfl)) (by rfl)) (by rfl) (by rfl)) (@pg_name _ _ (5) _ sc_furthest_ends.nd rfl (by first | exact Or.inl rfl | exact Or.inr rfl) (by first | exact .inl rfl | exact .inr rfl | assumption)) (@pss_one _ _ _ (@ps_if _ _ _ _ _ _ _ _ (@pt_j _ _ _ (@PW.pt _ _ _ (@pw_and _ _ _ _ _ _ _ (@pt_cmp _ _ _ _ _ _ (@pc_din _ _ _ _ _ (hu_of hr) (@pv _ 5 _ _ (by rfl) (by first | exact Or.inl rfl | exact Or.inr (Or.inl rfl) | exact Or.inr (Or.inr rfl)) (by decide) (by decide)) (@pv _ 2 _ _ (by rfl) (by first | exact Or.inl rfl | exact Or.inr (Or.inl rfl) | exact Or.inr (Or.inr rfl)) (by decide) (by decide))) (by first | exact nobehind _ (by decide) (by decide) | rfl)) (@pw_and1 _ _ _ _ (@tru_k _ _ _ K rfl (@pe_c _ _ _ _ _ _ _ _ _ _ _ C.takes hr (@pa_cons _ _ _ _ _ (@pv _ 0 _ _ (by rfl) (by first | exact Or.inl rfl | exact Or.inr (Or.inl rfl) | exact Or.inr (Or.inr rfl)) (by decide) (by decide)) (@pa_cons _ _ _ _ _ (@pe_slice _ _ _ _ _ _ _ _ _ _ (sl_k K rfl) (@pv _ 1 _ _ (by rfl) (by first | exact Or.inl rfl | exact Or.inr (Or.inl rfl) | exact Or.inr (Or.inr rfl)) (by decide) (by decide)) (@po_some _ _ _ (@pv _ 4 _ _ (by rfl) (by first | exact Or.inl rfl | exact Or.inr (Or.inl rfl) | exact Or.inr (Or.inr rfl)) (by decide) (by decide))) (@po_some _ _ _ (@pv _ 5 _ _ (by rfl) (by first | exact Or.inl rfl | exact Or.inr (Or.inl rfl) | exact Or.inr (Or.inr rfl)) (by decide) (by decide)))) pa_nil (by rfl)) (by rfl)) (by decide) (by rfl) (by decide) (by rfl) (by rfl)) (fun _ => rfl)))))) (@pss_one _ _ _ (@ps_dput _ _ _ _ _ _ _ _ _ (hu_of hr) (@pv _ 3 _ _ (by rfl) (by first | exact Or.inl rfl | exact Or.inr (Or.inl rfl) | exact Or.inr (Or.inr rfl)) (by decide) (by decide)) (@pv _ 4 _ _ (by rfl) (by first | exact Or.inl rfl | exact Or.inr (Or.inl rfl) | exact Or.inr (Or.inr rfl)) (by decide) (by decide)) (@pv _ 5 _ _ (by rfl) (by first | exact Or.inl rfl | exact Or.inr (Or.inl rfl) | exact Or.inr (Or.inr rfl)) (by decide) (by decide)) rfl)) pss_nil)) (by intro _; rfl))) (by intro _; rfl)) (@pss_one _ _ _ (@ps_ret _ _ _ _ (@pv _ 3 _ _ (by rfl) (by first | exact Or.inl rfl | exact Or.inr (Or.inl rfl) | exact Or.inr (Or.inr rfl)) (by decide) (by decide)))))), ?_⟩
    have hlen := mk_len n
    intro e he
    generalize hL : (fun x => (g x).isSome) = L at k
    refine ⟨_, rfl, _, _, rfl, ⟨small (by lia), rfl⟩, .inl ⟨_, _, rfl, rfl, ?_⟩⟩
    refine ⟨_, rfl, by lia, by lia, for_range (fun i σ' H' => ∃ x4 x5 kvs, σ' = [some (.ref a), some (.str (mk n)), some (.ref d), some (.ref e), x4, x5] ∧ Same H H' ∧ H' e = some (.dK kvs) ∧ kvs.length ≤ i * 61 ∧ ∀ b : Nat, valV kvs (Sum.inl (b : Int)) = (if b < i then far p n L b else none).map fun e => V.int (e : Nat))
      ⟨none, none, [], rfl, (Same.refl H).new he, upd_same, Nat.zero_le _, fun b => by rw [if_neg (Nat.not_lt_zero b)]; rfl⟩ ?_ ?_⟩
    · rintro i σ' H' hi ⟨x4, x5, kvs, rfl, sm, hHe, hkl, hkv⟩
      have hi' : i ≤ n.length := by lia
      rw [show (0 : Int) + (i : Int) = ((i : Nat) : Int) from by lia]
      refine ⟨_, rfl, _, rfl, _, _, rfl, ⟨small (by lia), rfl⟩, .inl ⟨_, _, rfl, rfl, ?_⟩⟩
      have ek : ((((mk n).length : Nat) : Int) + 1 - ((i : Nat) : Int)).toNat = n.length + 1 - i := by lia
      refine ⟨_, _, rfl, ⟨by lia, by lia, by lia, by lia⟩, ?_⟩
      rw [ek]
      refine for_range (fun j σ2 H2 => ∃ x5 kvs, σ2 = [some (.ref a), some (.str (mk n)), some (.ref d), some (.ref e), some (.int (i : Nat)), x5] ∧ Same H H2 ∧ H2 e = some (.dK kvs) ∧ kvs.length ≤ i * 61 + j ∧ ∀ b : Nat, valV kvs (Sum.inl (b : Int)) = (if b < i then far p n L b else if b = i then farTo p n L i j else none).map fun e => V.int (e : Nat))
        ⟨x5, kvs, rfl, sm, hHe, hkl, fun b => ?_⟩ ?_ ?_
      · rw [hkv b]
        by_cases z : b < i
        · rw [if_pos z, if_pos z]
        · rw [if_neg z, if_neg z]; split <;> rfl
      · rintro j σ2 H2 hj ⟨x5, kvs, rfl, sm2, hHe2, hkl2, hkv2⟩
        rw [show ((i : Nat) : Int) + (j : Int) = ((i + j : Nat) : Int) from by lia]
        have hfs := farTo_succ p n L i j
        refine ⟨fun bb H3 => bb = (L (i + j) && p.takes (cut n i (i + j))) ∧ Same H2 H3, ?_, ?_⟩
        · rintro bb H3 ⟨rfl, sm3⟩
          refine ite2 (fun h => ?_) (fun h => ?_)
          · refine ⟨_, rfl, _, rfl, _, rfl, e, _, rfl, DPut.k (k := Sum.inl ((i : Nat) : Int)) (sm3 _ _ hHe2) (small' (by lia)), ?_⟩
            refine ⟨_, _, rfl, (sm2.trans sm3).put he, upd_same, Nat.le_trans (length_putK _ _ _) (by lia), fun b => ?_⟩
            have := df_put (b := i) (e := i + j) hkv2 b
            refine this.trans (congrArg (Option.map _) ?_)
            show (if b = i then some (i + j) else _) = _
            rw [hfs, if_pos h]
            by_cases z : b = i
            · subst z
              rw [if_pos rfl, if_neg (Nat.lt_irrefl _), if_pos rfl]
            · rw [if_neg z, if_neg z, if_neg z]
          · refine ⟨_, _, rfl, sm2.trans sm3, sm3 _ _ hHe2, by lia, fun b => ?_⟩
            rw [hkv2 b, hfs, if_neg h]
        · refine ⟨_, rfl, _, rfl, d, _, rfl, (hd.same sm2).get (i + j), _, rfl, ?_⟩
          have eL : ((g (i + j)).map fun e => V.int (e : Nat)).isSome = L (i + j) := by rw [← hL]; show _ = (g (i + j)).isSome; cases g (i + j) <;> rfl
          rw [eL]
          refine iteB (fun h => ?_) (fun h => ?_)
          · refine ⟨_, rfl, _, rfl, _, rfl, _, rfl, _, rfl, _, rfl, .inl ⟨_, rfl, small (by lia), ?_⟩⟩
            rw [slice_mid (by lia) (by lia)]
            refine ⟨a, p, cut n i (i + j), rfl, sm2 _ _ ha, hok, ?_, fun H3 sm3 => ⟨_, rfl, ?_, sm3⟩⟩
            · unfold cut; rw [List.length_take, List.length_drop]; lia
            · rw [h, Bool.true_and]
          · refine ⟨?_, Same.refl H2⟩
            rw [h, Bool.false_and]
      · rintro σ2 H2 ⟨x5, kvs, rfl, sm2, hHe2, hkl2, hkv2⟩
        refine ⟨_, _, kvs, rfl, sm2, hHe2, by lia, fun b => ?_⟩
        rw [hkv2 b]
        by_cases z : b < i
        · rw [if_pos z, if_pos (by lia)]
        · rw [if_neg z]
          by_cases z2 : b = i
          · subst z2
            rw [if_pos rfl, if_pos (by lia)]
            unfold far
            rw [if_pos hi']
          · rw [if_neg z2, if_neg (by lia)]
    · rintro σ' H' ⟨x4, x5, kvs, rfl, sm, hHe, hkl, hkv⟩
      have et : ((((mk n).length : Nat) : Int) + 1).toNat = n.length + 1 := by lia
      rw [et] at hkl hkv
      refine ⟨_, rfl, k e H' he sm ⟨kvs, hHe, ?_, fun b => ?_⟩⟩
      · have : (n.length + 1) * 61 ≤ 61 * 61 := Nat.mul_le_mul_right _ (by lia)
        lia
      · rw [hkv b]
        by_cases z : b < n.length + 1
        · rw [if_pos z]
        · rw [if_neg z]
          unfold far
          rw [if_neg (by lia)]
end
end K
set_option maxHeartbeats 4000000
namespace K
open PySem L2 TX
section
variable {P : Program} {w : World} {K : PySem.W.Frag} {mg : Str → Option Value} {base : Heap}
structure CallsD (P : Program) (w : World) (K : PySem.W.Frag) (mg : Str → Option Value) (base : Heap) : Prop where
  furthest_ends : Cal P w K mg base "furthest_ends" 4 ["part", "name", "later"] spFurthest
def spEnds : Sp := fun vs H Q _ => ∃ L n ps, vs = [.ref L, .str (mk n)] ∧ HL H L ps ∧ (∀ p ∈ ps, p.ok) ∧ ps.length ≤ 3000 ∧ n.length ≤ 60 ∧ ∀ E H' ds, H E = none → Same H H' → H' E = some (.lst (ds.map V.ref)) → DS H' n ds ps → Q (.ref E) H'
theorem rev_get {α : Type} {l : List α} {i : Nat} {x : α} (h : l.reverse[i]? = some x) : i < l.length ∧ l[l.length - 1 - i]? = some x := by
  have hi : i < l.length := by
    have := (List.getElem?_eq_some_iff.mp h).1
    simpa using this
  exact ⟨hi, by rwa [List.getElem?_reverse hi] at h⟩
abbrev st_ends_of_parts : Stmt := top 22
theorem sc_ends_of_parts : FnScope ["parts", "name", "later", "ends", "part"] ["parts", "name"] (defScope st_ends_of_parts) := ⟨rfl, rfl, rfl, by decide +kernel, rfl, by decide +kernel, by decide +kernel⟩
theorem ok_ends_of_parts (D : Df K mg "ends_of_parts" st_ends_of_parts ["parts", "name"]) (T : Txt mg) (C : CallsD P w K mg base) : Cal P w K mg base "ends_of_parts" 5 ["parts", "name"] spEnds := by
  refine D.cal sc_ends_of_parts (fun vs H Q E h => ?_) (fun f cdv A outer s H vs Q E hr h => ?_)
  · obtain ⟨L, n, ps, rfl, _⟩ := h; rfl
  · obtain ⟨L, n, ps, rfl, hL, hok, hpl, hn, k⟩ := h
    refine ⟨_, (@pss_cons _ _ _ _ _ (@ps_set _ _ (2) _ _ _ _ sc_ends_of_parts.nd rfl (by first | exact Or.inl rfl | exact Or.inr rfl) (@pe_disp _ _ _ _ _ (@pps_cons _ _ _ _ _ _ _ _ _ (@pe_callB _ _ _ _ _ _ _ _ _ (len_k K rfl) (by rfl) T.b_len PySem.boot_len (@pa_cons _ _ _ _ _ (@pv _ 1 _ _ (by rfl) (by first | exact Or.inl rfl | exact Or.inr (Or.inl rfl) | exact Or.inr (Or.inr rfl)) (by decide) (by decide)) pa_nil (by rfl)) (by decide) (by decide) (by rfl) (by rfl)) (@pe_callB _ _ _ _ _ _ _ _ _ (len_k K rfl) (by rfl) T.b_len PySem.boot_len (@pa_cons _ _ _ _ _ (@pv _ 1 _ _ (by rfl) (by first | exact Or.inl rfl | exact Or.inr (Or.inl rfl) | exact Or.inr (Or.inr rfl)) (by decide) (by decide)) pa_nil (by rfl)) (by decide) (by decide) (by rfl) (by rfl)) pps_nil) rfl rfl (by simp) (by decide)) (by rfl) (by first | exact .inl rfl | exact .inr rfl | assumption)) (@pss_cons _ _ _ _ _ (@ps_set _ _ (3) _ _ _ _ sc_ends_of_parts.nd rfl (by first | exact Or.inl rfl | exact Or.inr rfl) (@pe_lst _ _ _ _ pa_nil) (by rfl) (by first | exact .inl rfl | exact .inr rfl | assumption)) (@pss_cons _ _ _ _ _ (@ps_for _ _ _ _ _ _ _ _ PassesOwn.never rfl (@rev_k _ _ _ _ _ _ K rfl rfl T.b_reversed (@pa_cons _ _ _ _ _ (@pv _ 0 _ _ (by rfl) (by first | exact Or.inl rfl | exact Or.inr (Or.inl rfl) | exact Or.inr (Or.inr rfl)) (by decide) (by decide)) pa_nil (by rfl)) (by rfl)) (@pg_name _ _ (4) _ sc_ends_of_parts.nd rfl (by first | exact Or.inl rfl | exact Or.inr rfl) (by first | exact .inl rfl | exact .inr rfl | assumption)) (@pss_cons _ _ _ _ _ (@ps_set _ _ (2) _ _ _ _ sc_ends_of_parts.nd rfl (by first | exact Or.inl rfl | exact Or.inr rfl) (@pe_c _ _ _ _ _ _ _ _ _ _ _ C.furthest_ends hr (@pa_cons _ _ _ _ _ (@pv _ 4 _ _ (by rfl) (by first | exact Or.inl rfl | exact Or.inr (Or.inl rfl) | exact Or.inr (Or.inr rfl)) (by decide) (by decide)) (@pa_cons _ _ _ _ _ (@pv _ 1 _ _ (by rfl) (by first | exact Or.inl rfl | exact Or.inr (Or.inl rfl) | exact Or.inr (Or.inr rfl)) (by decide) (by decide)) (@pa_cons _ _ _ _ _ (@pv _ 2 _ _ (by rfl) (by first | exact Or.inl rfl | exact Or.inr (Or.inl rfl) | exact Or.inr (Or.inr rfl)) (by decide) (by decide)) pa_nil (by rfl)) (by rfl)) (by rfl)) (by decide) (by rfl) (by decide) (by rfl) (by rfl)) (by rfl) (by first | exact .inl rfl | exact .inr rfl | assumption)) (@pss_one _ _ _ (@ps_expr _ _ _ _ (@bm_k _ _ _ _ _ _ _ _ _ _ _ _ K rfl PySem.F.plainAttrs_list PySem.F.slot_list_append PySem.F.type_list_append mt_append (@pv _ 3 _ _ (by rfl) (by first | exact Or.inl rfl | exact Or.inr (Or.inl rfl) | exact Or.inr (Or.inr rfl)) (by decide) (by decide)) (@pa_cons _ _ _ _ _ (@pv _ 2 _ _ (by rfl) (by first | exact Or.inl rfl | exact Or.inr (Or.inl rfl) | exact Or.inr (Or.inr rfl)) (by decide) (by decide)) pa_nil (by rfl)) (by rfl) (by rfl) (by rfl) (by rfl) (by rfl)) (by rfl)))) (by intro _; rfl)) (@pss_cons _ _ _ _ _ (@ps_expr _ _ _ _ (@bm0_k _ _ _ _ _ _ _ _ _ K rfl PySem.F.plainAttrs_list PySem.F.slot_list_reverse PySem.F.type_list_reverse mt_reverse (@pv _ 3 _ _ (by rfl) (by first | exact Or.inl rfl | exact Or.inr (Or.inl rfl) | exact Or.inr (Or.inr rfl)) (by decide) (by decide)) (by rfl) (by rfl)) (by rfl)) (@pss_one _ _ _ (@ps_ret _ _ _ _ (@pv _ 3 _ _ (by rfl) (by first | exact Or.inl rfl | exact Or.inr (Or.inl rfl) | exact Or.inr (Or.inr rfl)) (by decide) (by decide)))))))), ?_⟩
    have hlen := mk_len n
    obtain ⟨Ts, h1, h2⟩ := hL.ex
    have hTl := h2.len
    intro d0 hd0
    refine ⟨_, rfl, _, _, rfl, ⟨small (by lia), rfl⟩, _, rfl, _, _, rfl, ⟨small (by lia), rfl⟩, upd_same, [(Sum.inl ((n.length : Nat) : Int), .int ((n.length : Nat) : Int))], ?_, Nat.le_of_ble_eq_true rfl, ?_⟩
    · rw [hlen]; rfl
    have sm0 : Same H (upd (upd H d0 (.dK [])) d0 (.dK (mergeK [] [(Sum.inl ((n.length : Nat) : Int), .int ((n.length : Nat) : Int))]))) := ((Same.refl H).new hd0).put hd0
    have df0 : DF (upd (upd H d0 (.dK [])) d0 (.dK (mergeK [] [(Sum.inl ((n.length : Nat) : Int), .int ((n.length : Nat) : Int))]))) d0 (fun b => if b = n.length then some n.length else none) := by
      refine ⟨_, upd_same, Nat.le_of_ble_eq_true rfl, fun b => ?_⟩
      have := df_put (kvs := []) (b := n.length) (e := n.length) (f := fun _ => none) (fun c => rfl) b
      exact this
    generalize hH1 : upd (upd H d0 (.dK [])) d0 _ = H1 at sm0 df0
    refine ⟨by show 0 ≤ sizeLine; decide, fun E hE => ?_⟩
    have hE0 : H E = none := sm0.free hE
    have sm1 : Same H (upd H1 E (.lst [])) := sm0.new hE
    have hEL : E ≠ L := fun z => by subst z; rw [hE0] at h1; cases h1
    refine ⟨_, rfl, L, _, rfl, sm1 _ _ h1, ?_⟩
    refine for_rev (xs := Ts.map V.ref) (fun i σ' H' => ∃ d g x4 ds, σ' = [some (.ref L), some (.str (mk n)), some (.ref d), some (.ref E), x4] ∧ Same H H' ∧ DF H' d g ∧ (∀ b, (g b).isSome = fits n (ps.drop (ps.length - i)) b) ∧ H' E = some (.lst (ds.map V.ref)) ∧ DS H' n ds.reverse (ps.drop (ps.length - i)) ∧ i ≤ ps.length)
      ⟨d0, _, none, [], rfl, sm1, df0.new hE, fun b => ?_, upd_same, ?_, Nat.zero_le _⟩ (fun i σ' H' ⟨_, _, _, _, _, sm, _⟩ => SqL.of (sm _ _ h1)) ?_ ?_
    · rw [show ps.length - 0 = ps.length from rfl, List.drop_length]
      show (if b = n.length then some n.length else none).isSome = decide (b = n.length)
      by_cases z : b = n.length
      · rw [if_pos z, decide_eq_true z]; rfl
      · rw [if_neg z, decide_eq_false z]; rfl
    · rw [show ps.length - 0 = ps.length from rfl, List.drop_length]
      exact .nil
    · rintro i x σ' H' hx ⟨d, g, x4, ds, rfl, sm, hd, hg, hHE, hds, hil⟩
      obtain ⟨hi, hx'⟩ := rev_get hx
      rw [List.length_map] at hi hx'
      obtain ⟨T1, p, rfl, hp, hT1⟩ := h2.get hx'
      rw [hTl] at hp hi
      have hpm : p ∈ ps := List.mem_of_getElem? hp
      have edr : ps.drop (ps.length - (i + 1)) = p :: ps.drop (ps.length - i) := by
        have := drop_get hp
        rw [show ps.length - 1 - i = ps.length - (i + 1) from by lia, show ps.length - (i + 1) + 1 = ps.length - i from by lia] at this
        exact this
      refine ⟨_, rfl, _, rfl, _, rfl, T1, p, n, d, g, rfl, sm _ _ hT1, hok p hpm, hn, hd, fun e H2 he sm2 hde => ?_⟩
      have eg : (fun x => (g x).isSome) = fits n (ps.drop (ps.length - i)) := funext hg
      rw [eg] at hde
      have hdl := hds.len
      rw [List.length_reverse, List.length_drop] at hdl
      have hE2 : H2 E = some (.lst (ds.map V.ref)) := sm2 _ _ hHE
      refine ⟨_, rfl, .inl ⟨rfl, _, SqL.of hE2⟩, _, rfl, E, _, _, rfl, rfl, hE2, by rw [List.length_map]; exact small' (by lia), ?_⟩
      have eE : E ≠ e := fun z => by subst z; rw [he] at hHE; cases hHE
      have hde2 : DF (upd H2 E (.lst (ds.map V.ref ++ [.ref e]))) e (far p n (fits n (ps.drop (ps.length - i)))) := by
        obtain ⟨kvs, a1, a2, a3⟩ := hde.ex
        exact ⟨kvs, by rw [upd_ne (Ne.symm eE)]; exact a1, a2, a3⟩
      refine ⟨e, _, _, ds ++ [e], rfl, (sm.trans sm2).put hE0, hde2, fun b => ?_, by rw [List.map_append]; exact upd_same, ?_, by lia⟩
      · rw [edr]; rfl
      · rw [edr, List.reverse_append]
        refine .cons hde2 ?_
        refine (hds.same sm2).keepL ?_
        exact fun b kvs z => by rw [upd_ne (fun y => by subst y; rw [hE2] at z; cases z)]; exact z
    · rintro σ' H' ⟨d, g, x4, ds, rfl, sm, hd, hg, hHE, hds, hil⟩
      rw [List.length_map, hTl, Nat.sub_self, List.drop_zero] at hds
      refine ⟨_, rfl, .inl ⟨rfl, _, SqL.of hHE⟩, E, _, rfl, rfl, hHE, ?_⟩
      refine ⟨_, rfl, k E _ ds.reverse hE0 (sm.put hE0) (by rw [← List.map_reverse]; exact upd_same) (hds.keepL ?_)⟩
      exact fun b kvs z => by rw [upd_ne (fun y => by subst y; rw [hHE] at z; cases z)]; exact z
structure CallsE (P : Program) (w : World) (K : PySem.W.Frag) (mg : Str → Option Value) (base : Heap) (Cn : Addr) : Prop where
  parts_of : CalX P w K mg base "parts_of" 4 ["pattern"] (spPartsX Cn)
  ends_of_parts : Cal P w K mg base "ends_of_parts" 5 ["parts", "name"] spEnds
def spReadingX (C : Addr) : Sp := fun vs H Q E => ∃ l n, vs = [.str (mk l), .str (mk n)] ∧ l.length ≤ 1000 ∧ n.length ≤ 60 ∧ (Good l → fits n (parse [] l) 0 = false → ∀ H', Same H H' → Q .non H') ∧
  (Good l → fits n (parse [] l) 0 = true → ∀ L H', H L = none → Same H H' → H' L = some (.lst (vN (rd n (parse [] l) 0))) → Q (.ref L) H') ∧
  ∀ i : Nat, WrongAt l i → ∀ ea H', Same H H' → H ea = none → Rfd H' ea C "at" (.int (i : Int)) → E (.ref ea) none H'
theorem wgg (p : Pt) : decide (V.str p.word = V.str (Str.ofString "gap")) = p.isG := by
  cases p with
  | tx l => show decide (V.str (Str.ofString "text") = V.str (Str.ofString "gap")) = false; decide +kernel
  | gp c => exact decide_eq_true rfl
abbrev st_reading : Stmt := top 23
theorem sc_reading : FnScope ["pattern", "name", "parts", "ends", "texts", "begin", "part", "part_ends", "end"] ["pattern", "name"] (defScope st_reading) := ⟨rfl, rfl, rfl, by decide +kernel, rfl, by decide +kernel, by decide +kernel⟩
theorem ok_reading {Cn : Addr} (D : Df K mg "reading" st_reading ["pattern", "name"]) (T : Txt mg) (C : CallsE P w K mg base Cn) : CalX P w K mg base "reading" 6 ["pattern", "name"] (spReadingX Cn) := by
  refine D.calX sc_reading (fun vs H Q E h => ?_) (fun f cdv A outer s H vs Q E hr h => ?_)
  · obtain ⟨l, n, rfl, _⟩ := h; rfl
  · obtain ⟨l, n, rfl, hl0, hn, kN, kS, kE⟩ := h
    refine ⟨_, (@pss_cons _ _ _ _ _ (@ps_set _ _ (2) _ _ _ _ sc_reading.nd rfl (by first | exact Or.inl rfl | exact Or.inr rfl) (pe_cX C.parts_of hr accX (@pa_cons _ _ _ _ _ (@pv _ 0 _ _ (by rfl) (by first | exact Or.inl rfl | exact Or.inr (Or.inl rfl) | exact Or.inr (Or.inr rfl)) (by decide) (by decide)) pa_nil (by rfl))) (by rfl) (by first | exact .inl rfl | exact .inr rfl | assumption)) (@pss_cons _ _ _ _ _ (@ps_set _ _ (3) _ _ _ _ sc_reading.nd rfl (by first | exact Or.inl rfl | exact Or.inr rfl) (@pe_c _ _ _ _ _ _ _ _ _ _ _ C.ends_of_parts hr (@pa_cons _ _ _ _ _ (@pv _ 2 _ _ (by rfl) (by first | exact Or.inl rfl | exact Or.inr (Or.inl rfl) | exact Or.inr (Or.inr rfl)) (by decide) (by decide)) (@pa_cons _ _ _ _ _ (@pv _ 1 _ _ (by rfl) (by first | exact Or.inl rfl | exact Or.inr (Or.inl rfl) | exact Or.inr (Or.inr rfl)) (by decide) (by decide)) pa_nil (by rfl)) (by rfl)) (by decide) (by rfl) (by decide) (by rfl) (by rfl)) (by rfl) (by first | exact .inl rfl | exact .inr rfl | assumption)) (@pss_cons _ _ _ _ _ (@ps_if _ _ _ _ _ _ _ _ (@pt_cmp _ _ _ _ _ _ (@pc_dnotin _ _ _ _ _ (hu_of hr) pe_int (@pe_ix _ _ _ _ _ _ _ (ix_k K rfl) (@pv _ 3 _ _ (by rfl) (by first | exact Or.inl rfl | exact Or.inr (Or.inl rfl) | exact Or.inr (Or.inr rfl)) (by decide) (by decide)) pe_int (fun _ _ => rfl))) (by first | exact nobehind _ (by decide) (by decide) | rfl)) (@pss_one _ _ _ (@ps_ret _ _ _ _ pe_non)) pss_nil) (@pss_cons _ _ _ _ _ (@ps_set _ _ (4) _ _ _ _ sc_reading.nd rfl (by first | exact Or.inl rfl | exact Or.inr rfl) (@pe_lst _ _ _ _ pa_nil) (by rfl) (by first | exact .inl rfl | exact .inr rfl | assumption)) (@pss_cons _ _ _ _ _ (@ps_set _ _ (5) _ _ _ _ sc_reading.nd rfl (by first | exact Or.inl rfl | exact Or.inr rfl) pe_int (by rfl) (by first | exact .inl rfl | exact .inr rfl | assumption)) (@pss_cons _ _ _ _ _ (@ps_for _ _ _ _ _ _ _ _ passDef rfl (@zip_k _ _ _ _ _ _ _ _ _ K rfl rfl T.b_zip (@pa_cons _ _ _ _ _ (@pv _ 2 _ _ (by rfl) (by first | exact Or.inl rfl | exact Or.inr (Or.inl rfl) | exact Or.inr (Or.inr rfl)) (by decide) (by decide)) (@pa_cons _ _ _ _ _ (@pv _ 3 _ _ (by rfl) (by first | exact Or.inl rfl | exact Or.inr (Or.inl rfl) | exact Or.inr (Or.inr rfl)) (by decide) (by decide)) pa_nil (by rfl)) (by rfl)) (by rfl) (by rfl)) (@gtup_k _ _ _ _ (2) _ K rfl rfl (@pgs_cons _ _ _ _ _ (@pg_name _ _ (6) _ sc_reading.nd rfl (by first | exact Or.inl rfl | exact Or.inr rfl) (by first | exact .inl rfl | exact .inr rfl | assumption)) (@pgs_cons _ _ _ _ _ (@pg_name _ _ (7) _ sc_reading.nd rfl (by first | exact Or.inl rfl | exact Or.inr rfl) (by first | exact .inl rfl | exact .inr rfl | assumption)) pgs_nil (by rfl)) (by rfl)) (by rfl) (by rfl)) (@pss_cons _ _ _ _ _ (@ps_set _ _ (8) _ _ _ _ sc_reading.nd rfl (by first | exact Or.inl rfl | exact Or.inr rfl) (@pe_dget _ _ _ _ _ _ (hu_of hr) (@pv _ 7 _ _ (by rfl) (by first | exact Or.inl rfl | exact Or.inr (Or.inl rfl) | exact Or.inr (Or.inr rfl)) (by decide) (by decide)) (@pv _ 5 _ _ (by rfl) (by first | exact Or.inl rfl | exact Or.inr (Or.inl rfl) | exact Or.inr (Or.inr rfl)) (by decide) (by decide)) (fun _ _ => rfl)) (by rfl) (by first | exact .inl rfl | exact .inr rfl | assumption)) (@pss_consJ _ _ _ _ _ (@ps_if _ _ _ _ _ _ _ _ (@pt_cmpR _ _ _ _ _ _ _ _ (eq_k K rfl hr) (@pe_ix _ _ _ _ _ _ _ (ix_k K rfl) (@pv _ 6 _ _ (by rfl) (by first | exact Or.inl rfl | exact Or.inr (Or.inl rfl) | exact Or.inr (Or.inr rfl)) (by decide) (by decide)) pe_int (fun _ _ => rfl)) pe_str (nomark _)) (@pss_one _ _ _ (@ps_expr _ _ _ _ (@bm_k _ _ _ _ _ _ _ _ _ _ _ _ K rfl PySem.F.plainAttrs_list PySem.F.slot_list_append PySem.F.type_list_append mt_append (@pv _ 4 _ _ (by rfl) (by first | exact Or.inl rfl | exact Or.inr (Or.inl rfl) | exact Or.inr (Or.inr rfl)) (by decide) (by decide)) (@pa_cons _ _ _ _ _ (@pe_slice _ _ _ _ _ _ _ _ _ _ (sl_k K rfl) (@pv _ 1 _ _ (by rfl) (by first | exact Or.inl rfl | exact Or.inr (Or.inl rfl) | exact Or.inr (Or.inr rfl)) (by decide) (by decide)) (@po_some _ _ _ (@pv _ 5 _ _ (by rfl) (by first | exact Or.inl rfl | exact Or.inr (Or.inl rfl) | exact Or.inr (Or.inr rfl)) (by decide) (by decide))) (@po_some _ _ _ (@pv _ 8 _ _ (by rfl) (by first | exact Or.inl rfl | exact Or.inr (Or.inl rfl) | exact Or.inr (Or.inr rfl)) (by decide) (by decide)))) pa_nil (by rfl)) (by rfl) (by rfl) (by rfl) (by rfl) (by rfl)) (by rfl))) pss_nil) (@pss_one _ _ _ (@ps_set _ _ (5) _ _ _ _ sc_reading.nd rfl (by first | exact Or.inl rfl | exact Or.inr rfl) (@pv _ 8 _ _ (by rfl) (by first | exact Or.inl rfl | exact Or.inr (Or.inl rfl) | exact Or.inr (Or.inr rfl)) (by decide) (by decide)) (by rfl) (by first | exact .inl rfl | exact .inr rfl | assumption))))) (by intro _; rfl)) (@pss_one _ _ _ (@ps_ret _ _ _ _ (@pv _ 4 _ _ (by rfl) (by first | exact Or.inl rfl | exact Or.inr (Or.inl rfl) | exact Or.inr (Or.inr rfl)) (by decide) (by decide)))))))))), ?_⟩
    have hlen := mk_len n
    refine ⟨_, rfl, l, rfl, hl0, fun hg L H1 hL sm1 hlL => ?_, fun i hw ea H' sm hea r ea' ez => ?_⟩
    rotate_left
    · cases ez
      exact kE i hw ea H' sm hea r
    have hll := hg.len
    replace kN := kN hg
    replace kS := kS hg
    have hok := parse_ok l [] (fun _ h => nomatch h) hg.sg
    have hne := prs_ne l [] (.inr hg.ne)
    have hpl := prs_len l []
    generalize hps : parse [] l = ps at hlL hok hne hpl kN kS
    refine ⟨_, rfl, _, rfl, L, n, ps, rfl, hlL, hok, by lia, hn, fun E H2 ds hE sm2 hHE hds => ?_⟩
    have sm12 := sm1.trans sm2
    have hdl := hds.len
    obtain ⟨p0, ps0, rfl⟩ : ∃ p0 ps0, ps = p0 :: ps0 := by cases ps with | nil => exact absurd rfl hne | cons a b => exact ⟨a, b, rfl⟩
    obtain ⟨d0, ds0, rfl⟩ : ∃ d0 ds0, ds = d0 :: ds0 := by cases ds with | nil => simp at hdl | cons a b => exact ⟨a, b, rfl⟩
    have hf0 : fits n (p0 :: ps0) 0 = (far p0 n (fits n ps0) 0).isSome := rfl
    obtain ⟨q0, hq0, hdf0⟩ := hds.get (i := 0) rfl
    cases hq0
    refine ⟨_, rfl, .inl ⟨E, _, 0, .ref d0, rfl, rfl, SqL.of hHE, atI_nat (j := 0) rfl, d0, _, rfl, hdf0.get 0, _, rfl, ?_⟩⟩
    have eS : ((far p0 n (fits n ((p0 :: ps0).drop (0 + 1))) 0).map fun e => V.int (e : Nat)).isSome = fits n (p0 :: ps0) 0 := by
      rw [hf0]; show (Option.map _ (far p0 n (fits n ps0) 0)).isSome = _; cases far p0 n (fits n ps0) 0 <;> rfl
    rw [eS]
    refine iteB (fun h => ?_) (fun h => ?_)
    · refine kN ?_ H2 sm12
      cases hz : fits n (p0 :: ps0) 0 with
      | false => rfl
      | true => rw [hz] at h; cases h
    have hfit : fits n (p0 :: ps0) 0 = true := by
      cases hz : fits n (p0 :: ps0) 0 with
      | true => rfl
      | false => rw [hz] at h; cases h
    replace kS := kS hfit
    generalize hps : p0 :: ps0 = ps at hlL hok hdl hds hfit kS hpl
    generalize hdd : d0 :: ds0 = ds at hdl hds hHE
    refine ⟨by show 0 ≤ sizeLine; decide, fun X hX => ?_⟩
    have hX0 : H X = none := sm12.free hX
    have sm3 : Same H2 (upd H2 X (.lst [])) := (Same.refl H2).new hX
    have hlL2 : HL H2 L ps := hlL.same sm2
    obtain ⟨Ts, h1, h2⟩ := hlL2.ex
    have hTl := h2.len
    refine .inr ⟨_, rfl, _, rfl, L, E, _, _, rfl, SqL.of (sm3 _ _ h1), SqL.of (sm3 _ _ hHE), for_zipL (xs := Ts.map V.ref) (ys := ds.map V.ref) (fun i σ' H' => ∃ b ts x6 x7 x8, σ' = [some (.str (mk l)), some (.str (mk n)), some (.ref L), some (.ref E), some (.ref X), some (.int (b : Nat)), x6, x7, x8] ∧ Same H2 H' ∧ H' X = some (.lst (vN ts)) ∧ fits n (ps.drop i) b = true ∧ ts ++ rd n (ps.drop i) b = rd n ps 0 ∧ ts.length ≤ i ∧ i ≤ ps.length) ⟨0, [], none, none, none, rfl, sm3, upd_same, hfit, rfl, Nat.le_refl _, Nat.zero_le _⟩ (fun i σ' H' ⟨_, _, _, _, _, _, sm, _⟩ => ⟨SqL.of (sm _ _ h1), SqL.of (sm _ _ hHE)⟩) ?_ ?_⟩
    · rintro i x y T' σ' H' hx hy ⟨b, ts, x6, x7, x8, rfl, sm, hHX, hft, hrd, htl, hil⟩ hT'
      obtain ⟨T1, p, rfl, hp, hT1⟩ := h2.get hx
      obtain ⟨d, hd, rfl⟩ : ∃ d, ds[i]? = some d ∧ y = V.ref d := by
        rw [List.getElem?_map] at hy
        cases hz : ds[i]? with
        | none => rw [hz] at hy; cases hy
        | some d => rw [hz] at hy; cases hy; exact ⟨d, rfl, rfl⟩
      obtain ⟨p', hp', hdf⟩ := hds.get hd
      rw [hp] at hp'; cases hp'
      have edr := drop_get hp
      rw [edr] at hft hrd
      have hf : (far p n (fits n (ps.drop (i + 1))) b).isSome = true := hft
      obtain ⟨e, he⟩ : ∃ e, far p n (fits n (ps.drop (i + 1))) b = some e := by
        cases hz : far p n (fits n (ps.drop (i + 1))) b with
        | none => rw [hz] at hf; cases hf
        | some e => exact ⟨e, rfl⟩
      obtain ⟨a1, a2, a3, a4, _⟩ := far_some he
      have hi : i < ps.length := (List.getElem?_eq_some_iff.mp hp).1
      refine ⟨T', _, rfl, SqT.of upd_same, rfl, _, _, rfl, _, _, rfl, rfl, ?_⟩
      generalize hH3 : upd H' T' _ = H3
      have sm4 : Same H' H3 := by rw [← hH3]; exact (Same.refl H').new hT'
      have sm5 : Same H2 H3 := sm.trans sm4
      have hg3 := (hdf.same sm5).get b
      rw [he] at hg3
      refine ⟨_, rfl, _, rfl, d, _, rfl, hg3, ?_⟩
      have hHX3 : H3 X = some (.lst (vN ts)) := sm4 _ _ hHX
      have hT13 : H3 T1 = some (.tup p.vs) := sm5 _ _ hT1
      refine ⟨fun σ2 H4 => ∃ ts', σ2 = [some (.str (mk l)), some (.str (mk n)), some (.ref L), some (.ref E), some (.ref X), some (.int (b : Nat)), some (.ref T1), some (.ref d), some (.int (e : Nat))] ∧ Same H2 H4 ∧ H4 X = some (.lst (vN ts')) ∧ ts' = (if p.isG then ts ++ [cut n b e] else ts), ?_, ?_⟩
      · rintro σ2 H4 ⟨ts', rfl, sm6, hHX4, ets⟩
        refine ⟨_, rfl, e, ts', _, _, _, rfl, sm6, hHX4, a3, ?_, ?_, hi⟩
        · rw [← hrd, ets]
          show _ = ts ++ rd n (p :: ps.drop (i + 1)) b
          cases hG : p.isG with
          | true => simp [rd, hG, he]
          | false => simp [rd, hG, he]
        · rw [ets]; split
          · rw [List.length_append, List.length_singleton]; lia
          · lia
      · refine ⟨_, rfl, .inr (.inl ⟨T1, _, 0, _, rfl, rfl, SqT.of hT13, rfl, .inl ⟨rfl, _, rfl, ?_⟩⟩)⟩
        rw [wgg]
        refine ite2 (fun h => ?_) (fun h => ?_)
        · refine ⟨_, rfl, .inl ⟨rfl, _, SqL.of hHX3⟩, _, rfl, _, rfl, _, rfl, _, rfl, _, rfl, .inl ⟨_, rfl, small (by lia), ?_⟩⟩
          rw [slice_mid a1 a2]
          refine ⟨X, _, _, rfl, rfl, hHX3, by rw [List.length_map]; exact small' (by lia), ?_⟩
          exact ⟨ts ++ [cut n b e], rfl, sm5.put hX, by rw [show vN (ts ++ [cut n b e]) = vN ts ++ [V.str (mk (cut n b e))] from List.map_append]; exact upd_same, by rw [if_pos h]⟩
        · exact ⟨ts, rfl, sm5, hHX3, by rw [if_neg h]⟩
    · rintro σ' H' ⟨b, ts, x6, x7, x8, rfl, sm, hHX, hft, hrd, htl, hil⟩
      have emin : min (Ts.map V.ref).length (ds.map V.ref).length = ps.length := by rw [List.length_map, List.length_map, hTl, hdl, Nat.min_self]
      rw [emin, List.drop_length] at hrd
      rw [show rd n [] b = [] from rfl, List.append_nil] at hrd
      refine ⟨_, rfl, kS X H' hX0 (sm12.trans sm) ?_⟩
      rw [← hrd]
      exact hHX
end
end K
set_option maxHeartbeats 4000000
namespace K
open PySem L2 TX
section
variable {P : Program} {w : World} {K : PySem.W.Frag} {mg : Str → Option Value} {base : Heap}
structure CallsF (P : Program) (w : World) (K : PySem.W.Frag) (mg : Str → Option Value) (base : Heap) (Cn Dn cT cR cH cX : Addr) : Prop where
  parts_of : CalX P w K mg base "parts_of" 4 ["pattern"] (spPartsX Cn)
  reading : CalX P w K mg base "reading" 6 ["pattern", "name"] (spReadingX Cn)
  g_HallError : mg "HallError" = some (.ref Dn)
  e_HallError : ECls K Dn bmV
  g_NoPattern : mg "NoPattern" = some (.ref Cn)
  g_NoTemplate : mg "NoTemplate" = some (.ref cT)
  g_NoRule : mg "NoRule" = some (.ref cR)
  g_NoHall : mg "NoHall" = some (.ref cH)
  g_NoText : mg "NoText" = some (.ref cX)
  sub : SubX K (.ref Cn) Dn
  isi : EIsi K Cn
  get : EGet K Cn "at"
  one : PySem.W.kitOne K (.ref Cn) (.ref Cn) = some true
  val : PySem.W.kitOne K (.ref Cn) (.type "ValueError") = some true
  any : PySem.W.kitAny K (.ref Cn) ([cT, cR, cH, cX].map Value.ref) = some false
def spRefAt : Sp := fun vs H Q _ => ∃ l n r, vs = [.str (mk l), .str (mk n), .bl r] ∧ l.length ≤ 1000 ∧ n.length ≤ 60 ∧ ∀ T H', Same H H' → ((Good l ∧ H' T = some (.tup [.str (Str.ofString "let by")])) ∨ ∃ i : Nat, WrongAt l i ∧ H' T = some (.tup [.str (Str.ofString "refused"), .int (i : Int), .bl false])) → Q (.ref T) H'
abbrev st_refused_at : Stmt := top 31
theorem sc_refused_at : FnScope ["_law_text_here", "_law_name", "_law_read", "_law_told", "e"] ["_law_text_here", "_law_name", "_law_read"] (defScope st_refused_at) := ⟨rfl, rfl, rfl, by decide +kernel, rfl, by decide +kernel, by decide +kernel⟩
theorem ok_refused_at {c_NoPattern Dn c_NoTemplate c_NoRule c_NoHall c_NoText : Addr} (D : Df K mg "_law_refused_at" st_refused_at ["_law_text_here", "_law_name", "_law_read"]) (T : Txt mg) (C : CallsF P w K mg base c_NoPattern Dn c_NoTemplate c_NoRule c_NoHall c_NoText) : Cal P w K mg base "_law_refused_at" 7 ["_law_text_here", "_law_name", "_law_read"] spRefAt := by
  refine D.cal sc_refused_at (fun vs H Q E h => ?_) (fun f cdv A outer s H vs Q E hr h => ?_)
  · obtain ⟨l, n, r, rfl, _⟩ := h; rfl
  · obtain ⟨l, n, r, rfl, hl, hn, kk⟩ := h
    have kG : Good l → ∀ T H', Same H H' → H' T = some (.tup [.str (Str.ofString "let by")]) → Q (.ref T) H' := fun hg T H' sm hT => kk T H' sm (.inl ⟨hg, hT⟩)
    have kW : ∀ i : Nat, WrongAt l i → ∀ T H', Same H H' → H' T = some (.tup [.str (Str.ofString "refused"), .int (i : Int), .bl false]) → Q (.ref T) H' := fun i hw T H' sm hT => kk T H' sm (.inr ⟨i, hw, hT⟩)
    have g_HallError := C.g_HallError
    have e_HallError := C.e_HallError
    have g_NoPattern := C.g_NoPattern
    have g_NoTemplate := C.g_NoTemplate
    have g_NoRule := C.g_NoRule
    have g_NoHall := C.g_NoHall
    have g_NoText := C.g_NoText
    refine ⟨_, (@pss_cons _ _ _ _ _ (@ps_set _ _ (3) _ _ _ _ sc_refused_at.nd rfl (by first | exact Or.inl rfl | exact Or.inr rfl) (@pe_tup _ _ _ _ _ (@pa_cons _ _ _ _ _ pe_str pa_nil (by rfl))) (by rfl) (by first | exact .inl rfl | exact .inr rfl | assumption)) (@pss_cons _ _ _ _ _ (ps_try (i := 4) K rfl rfl rfl sc_refused_at.nd rfl rfl rfl g_HallError e_HallError (fun _ _ => (@pss_one _ _ _ (@ps_if _ _ _ _ _ _ _ _ (@tru_k _ _ _ K rfl (@pv _ 2 _ _ (by rfl) (by first | exact Or.inl rfl | exact Or.inr (Or.inl rfl) | exact Or.inr (Or.inr rfl)) (by decide) (by decide)) (fun _ => rfl)) (@pss_one _ _ _ (@ps_expr _ _ _ _ (pe_cX C.reading hr AccX.of (@pa_cons _ _ _ _ _ (@pv _ 0 _ _ (by rfl) (by first | exact Or.inl rfl | exact Or.inr (Or.inl rfl) | exact Or.inr (Or.inr rfl)) (by decide) (by decide)) (@pa_cons _ _ _ _ _ (@pv _ 1 _ _ (by rfl) (by first | exact Or.inl rfl | exact Or.inr (Or.inl rfl) | exact Or.inr (Or.inr rfl)) (by decide) (by decide)) pa_nil (by rfl)) (by rfl))) (by rfl))) (@pss_one _ _ _ (@ps_expr _ _ _ _ (pe_cX C.parts_of hr AccX.of (@pa_cons _ _ _ _ _ (@pv _ 0 _ _ (by rfl) (by first | exact Or.inl rfl | exact Or.inr (Or.inl rfl) | exact Or.inr (Or.inr rfl)) (by decide) (by decide)) pa_nil (by rfl))) (by rfl))))))
        (fun _ => (@pss_cons _ _ _ _ _ (@ps_set _ _ (3) _ _ _ _ sc_refused_at.nd rfl (by first | exact Or.inl rfl | exact Or.inr rfl) (@pe_tup _ _ _ _ _ (@pa_cons _ _ _ _ _ pe_str pa_nil (by rfl))) (by rfl) (by first | exact .inl rfl | exact .inr rfl | assumption)) (@pss_one _ _ _ (@ps_if _ _ _ _ _ _ _ _ (@pt_j _ _ _ (@PW.pt _ _ _ (@pw_and _ _ _ _ _ _ _ (@tru_k _ _ _ K rfl (@pe_callB _ _ _ _ _ _ _ _ _ (isiX_k K rfl) (by rfl) T.b_isinstance (by decide +kernel) (@pa_cons _ _ _ _ _ (@pv _ 4 _ _ (by rfl) (by first | exact Or.inl rfl | exact Or.inr (Or.inl rfl) | exact Or.inr (Or.inr rfl)) (by decide) (by decide)) (@pa_cons _ _ _ _ _ (@pe_glob _ _ (.ref c_NoPattern) _ _ (by rfl) g_NoPattern rfl (by decide)) pa_nil (by rfl)) (by rfl)) (by decide) (by decide) (by rfl) (by rfl)) (fun _ => rfl)) (@pw_and1 _ _ _ _ (@tru_k _ _ _ K rfl (@pe_callB _ _ _ _ _ _ _ _ _ (isiX_k K rfl) (by rfl) T.b_isinstance (by decide +kernel) (@pa_cons _ _ _ _ _ (@pv _ 4 _ _ (by rfl) (by first | exact Or.inl rfl | exact Or.inr (Or.inl rfl) | exact Or.inr (Or.inr rfl)) (by decide) (by decide)) (@pa_cons _ _ _ _ _ (@pe_bltn _ _ _ _ _ (by rfl) T.b_ValueError (by decide +kernel) (show RelV (.ty "ValueError") _ from rfl) (by decide) (by decide)) pa_nil (by rfl)) (by rfl)) (by decide) (by decide) (by rfl) (by rfl)) (fun _ => rfl)))))) (@pss_one _ _ _ (@ps_set _ _ (3) _ _ _ _ sc_refused_at.nd rfl (by first | exact Or.inl rfl | exact Or.inr rfl) (@pe_tup _ _ _ _ _ (@pa_cons _ _ _ _ _ pe_str (@pa_cons _ _ _ _ _ (efld_k K rfl (@pv _ 4 _ _ (by rfl) (by first | exact Or.inl rfl | exact Or.inr (Or.inl rfl) | exact Or.inr (Or.inr rfl)) (by decide) (by decide))) (@pa_cons _ _ _ _ _ (@pe_callB _ _ _ _ _ _ _ _ _ (isiX_k K rfl) (by rfl) T.b_isinstance (by decide +kernel) (@pa_cons _ _ _ _ _ (@pv _ 4 _ _ (by rfl) (by first | exact Or.inl rfl | exact Or.inr (Or.inl rfl) | exact Or.inr (Or.inr rfl)) (by decide) (by decide)) (@pa_cons _ _ _ _ _ (@pe_tup _ _ _ _ _ (@pa_cons _ _ _ _ _ (@pe_glob _ _ (.ref c_NoTemplate) _ _ (by rfl) g_NoTemplate rfl (by decide)) (@pa_cons _ _ _ _ _ (@pe_glob _ _ (.ref c_NoRule) _ _ (by rfl) g_NoRule rfl (by decide)) (@pa_cons _ _ _ _ _ (@pe_glob _ _ (.ref c_NoHall) _ _ (by rfl) g_NoHall rfl (by decide)) (@pa_cons _ _ _ _ _ (@pe_glob _ _ (.ref c_NoText) _ _ (by rfl) g_NoText rfl (by decide)) pa_nil (by rfl)) (by rfl)) (by rfl)) (by rfl))) pa_nil (by rfl)) (by rfl)) (by decide) (by decide) (by rfl) (by rfl)) pa_nil (by rfl)) (by rfl)) (by rfl))) (by rfl) (by first | exact .inl rfl | exact .inr rfl | assumption))) pss_nil))))) (@pss_one _ _ _ (@ps_ret _ _ _ _ (@pv _ 3 _ _ (by rfl) (by first | exact Or.inl rfl | exact Or.inr (Or.inl rfl) | exact Or.inr (Or.inr rfl)) (by decide) (by decide)))))), ?_⟩
    refine ⟨by show 1 ≤ sizeLine; decide, fun T0 hT0 => ?_⟩
    have sm0 : Same H (upd H T0 (.tup [.str (Str.ofString "let by")])) := (Same.refl H).new hT0
    generalize hH1 : upd H T0 _ = H1 at sm0
    have hHT : H1 T0 = some (.tup [.str (Str.ofString "let by")]) := by rw [← hH1]; exact upd_same
    refine ⟨fun ea σ' H' => σ' = [some (.str (mk l)), some (.str (mk n)), some (.bl r), some (.ref T0), none] ∧ ∃ i, WrongAt l i ∧ Same H H' ∧ Rfd H' ea c_NoPattern "at" (.int (i : Int)), ?_, ?_⟩
    · rintro ea σ' H' ⟨rfl, i, hw, sm, rf⟩
      obtain ⟨d, r1, r2⟩ := id rf.ex
      refine ⟨⟨_, _, r1, C.sub⟩, ?_⟩
      refine ⟨by show 1 ≤ sizeLine; decide, fun T1 hT1 => ?_⟩
      have sm1 : Same H' (upd H' T1 (.tup [.str (Str.ofString "other")])) := (Same.refl H').new hT1
      generalize hH2 : upd H' T1 _ = H2 at sm1
      have rf2 := rf.same sm1
      refine ⟨fun b H3 => b = true ∧ H3 = H2, ?_, ?_⟩
      · rintro b H3 ⟨rfl, rfl⟩
        refine iteT ?_
        obtain ⟨d, q1, q2⟩ := id rf2.ex
        refine ⟨_, rfl, ea, c_NoPattern, d, _, _, rfl, .inl q1, q2, C.get, rfl, _, rfl, by show 4 ≤ sizeLine; decide, fun T2 hT2 => ?_⟩
        have sm2 : Same H3 (upd H3 T2 (.tup [.ref c_NoTemplate, .ref c_NoRule, .ref c_NoHall, .ref c_NoText])) := (Same.refl H3).new hT2
        refine ⟨ea, c_NoPattern, false, ⟨_, rfl, .inr (.inr ⟨T2, [c_NoTemplate, c_NoRule, c_NoHall, c_NoText], rfl, SqT.of upd_same, C.any⟩)⟩, (rf2.same sm2).err, C.isi, ?_⟩
        refine ⟨by show 3 ≤ sizeLine; decide, fun T3 hT3 => ?_⟩
        refine ⟨_, rfl, kW i hw T3 _ (((sm.trans sm1).trans sm2).new hT3) upd_same⟩
      · refine ⟨_, rfl, ea, c_NoPattern, true, ⟨_, rfl, .inl ⟨c_NoPattern, rfl, C.one⟩⟩, rf2.err, C.isi, true, rfl, iteT ?_⟩
        exact ⟨_, rfl, ea, c_NoPattern, true, ⟨_, rfl, .inr (.inl ⟨_, rfl, C.val⟩)⟩, rf2.err, C.isi, true, rfl, rfl, rfl⟩
    · refine ⟨_, rfl, r, rfl, ?_⟩
      refine iteB (fun h => ?_) (fun h => ?_)
      · refine ⟨_, rfl, _, rfl, l, n, rfl, hl, hn, fun hg hf H2 sm2 => ?_, fun hg hf L H2 hL sm2 hL2 => ?_, fun i hw ea H2 sm2 hea rf ea' ez => ?_⟩
        · exact ⟨_, rfl, kG hg T0 H2 (sm0.trans sm2) (sm2 _ _ hHT)⟩
        · exact ⟨_, rfl, kG hg T0 H2 (sm0.trans sm2) (sm2 _ _ hHT)⟩
        · cases ez
          exact ⟨rfl, i, hw, sm0.trans sm2, rf⟩
      · refine ⟨_, rfl, l, rfl, hl, fun hg L H2 hL sm2 hL2 => ?_, fun i hw ea H2 sm2 hea rf ea' ez => ?_⟩
        · exact ⟨_, rfl, kG hg T0 H2 (sm0.trans sm2) (sm2 _ _ hHT)⟩
        · cases ez
          exact ⟨rfl, i, hw, sm0.trans sm2, rf⟩
end
end K
set_option maxHeartbeats 4000000
namespace K
open PySem L2 TX
structure Calls (P : Program) (w : World) (K : PySem.W.Frag) (mg : Str → Option Value) (base : Heap) : Prop where
  draw : Cal P w K mg base "_law_draw" 1 ["_law_feed", "_law_many"] spDraw
section
variable {P : Program} {w : World} {K : PySem.W.Frag} {mg : Str → Option Value} {base : Heap}
abbrev st_draw : Stmt := top 25
theorem sc_draw : FnScope ["_law_feed", "_law_many", "_law_cell", "_law_number", "_law_found"] ["_law_feed", "_law_many"] (defScope st_draw) := ⟨rfl, rfl, rfl, by decide +kernel, rfl, by decide +kernel, by decide +kernel⟩
theorem ok_draw (D : Df K mg "_law_draw" st_draw ["_law_feed", "_law_many"]) (T : Txt mg) : Cal P w K mg base "_law_draw" 1 ["_law_feed", "_law_many"] spDraw := by
  refine D.cal sc_draw (fun vs H Q E h => ?_) (fun f cdv A outer s H vs Q E hr h => ?_)
  · obtain ⟨a, b, m, rfl, _⟩ := h; rfl
  · obtain ⟨a, b, m, rfl, ⟨⟨i, j, ha⟩, ns, hb⟩, hm0, hm1, k⟩ := h
    refine ⟨_, (@pss_cons _ _ _ _ _ (@ps_asg _ _ _ _ _ _ (@pe_op _ _ _ _ _ _ _ _ op_addU (@pe_ix _ _ _ _ _ _ _ (ix_k K rfl) (@pv _ 0 _ _ (by rfl) (by first | exact Or.inl rfl | exact Or.inr (Or.inl rfl) | exact Or.inr (Or.inr rfl)) (by decide) (by decide)) pe_int (fun _ _ => rfl)) pe_int) (@pg_sub _ _ _ _ _ _ _ (@pv _ 0 _ _ (by rfl) (by first | exact Or.inl rfl | exact Or.inr (Or.inl rfl) | exact Or.inr (Or.inr rfl)) (by decide) (by decide)) pe_int set_list (by intro _; rfl)) (by rfl) (by rfl) (by rfl)) (@pss_cons _ _ _ _ _ (@ps_if _ _ _ _ _ _ _ _ (@pt_cmpR _ _ _ _ _ _ _ _ (eq_k K rfl hr) (@pe_ix _ _ _ _ _ _ _ (ix_k K rfl) (@pv _ 0 _ _ (by rfl) (by first | exact Or.inl rfl | exact Or.inr (Or.inl rfl) | exact Or.inr (Or.inr rfl)) (by decide) (by decide)) pe_int (fun _ _ => rfl)) pe_int (nomark _)) (@pss_cons _ _ _ _ _ (@ps_set _ _ (2) _ _ _ _ sc_draw.nd rfl (by first | exact Or.inl rfl | exact Or.inr rfl) (@pe_ix _ _ _ _ _ _ _ (ix_k K rfl) (@pv _ 0 _ _ (by rfl) (by first | exact Or.inl rfl | exact Or.inr (Or.inl rfl) | exact Or.inr (Or.inr rfl)) (by decide) (by decide)) pe_int (fun _ _ => rfl)) (by rfl) (by first | exact .inl rfl | exact .inr rfl | assumption)) (@pss_cons _ _ _ _ _ (@ps_if _ _ _ _ _ _ _ _ (@pt_cmpR _ _ _ _ _ _ _ _ op_gt (@pe_callB _ _ _ _ _ _ _ _ _ (len_k K rfl) (by rfl) T.b_len PySem.boot_len (@pa_cons _ _ _ _ _ (@pe_ix _ _ _ _ _ _ _ (ix_k K rfl) (@pv _ 0 _ _ (by rfl) (by first | exact Or.inl rfl | exact Or.inr (Or.inl rfl) | exact Or.inr (Or.inr rfl)) (by decide) (by decide)) pe_int (fun _ _ => rfl)) pa_nil (by rfl)) (by decide) (by decide) (by rfl) (by rfl)) pe_int (nomark _)) (@pss_one _ _ _ (@ps_set _ _ (2) _ _ _ _ sc_draw.nd rfl (by first | exact Or.inl rfl | exact Or.inr rfl) (@pe_ix _ _ _ _ _ _ _ (ix_k K rfl) (@pe_ix _ _ _ _ _ _ _ (ix_k K rfl) (@pv _ 0 _ _ (by rfl) (by first | exact Or.inl rfl | exact Or.inr (Or.inl rfl) | exact Or.inr (Or.inr rfl)) (by decide) (by decide)) pe_int (fun _ _ => rfl)) (@pe_op _ _ _ _ _ _ _ _ op_mod (@pe_ix _ _ _ _ _ _ _ (ix_k K rfl) (@pv _ 0 _ _ (by rfl) (by first | exact Or.inl rfl | exact Or.inr (Or.inl rfl) | exact Or.inr (Or.inr rfl)) (by decide) (by decide)) pe_int (fun _ _ => rfl)) (@pe_callB _ _ _ _ _ _ _ _ _ (len_k K rfl) (by rfl) T.b_len PySem.boot_len (@pa_cons _ _ _ _ _ (@pe_ix _ _ _ _ _ _ _ (ix_k K rfl) (@pv _ 0 _ _ (by rfl) (by first | exact Or.inl rfl | exact Or.inr (Or.inl rfl) | exact Or.inr (Or.inr rfl)) (by decide) (by decide)) pe_int (fun _ _ => rfl)) pa_nil (by rfl)) (by decide) (by decide) (by rfl) (by rfl))) (fun _ _ => rfl)) (by rfl) (by first | exact .inl rfl | exact .inr rfl | assumption))) pss_nil) (@pss_cons _ _ _ _ _ (@ps_if _ _ _ _ _ _ _ _ (@pt_cmpR _ _ _ _ _ _ _ _ op_lt (@pv _ 2 _ _ (by rfl) (by first | exact Or.inl rfl | exact Or.inr (Or.inl rfl) | exact Or.inr (Or.inr rfl)) (by decide) (by decide)) (@pe_op _ _ _ _ _ _ _ _ op_pow pe_int pe_int) (nomark _)) (@pss_cons _ _ _ _ _ (@ps_set _ _ (3) _ _ _ _ sc_draw.nd rfl (by first | exact Or.inl rfl | exact Or.inr rfl) (@pe_op _ _ _ _ _ _ _ _ op_mod (@pe_op _ _ _ _ _ _ _ _ op_mulU (@pe_op _ _ _ _ _ _ _ _ op_addU (@pe_op _ _ _ _ _ _ _ _ op_addU (@pe_op _ _ _ _ _ _ _ _ op_mod (@pv _ 2 _ _ (by rfl) (by first | exact Or.inl rfl | exact Or.inr (Or.inl rfl) | exact Or.inr (Or.inr rfl)) (by decide) (by decide)) pe_int) (@pe_op _ _ _ _ _ _ _ _ op_mulU pe_int (@pe_ix _ _ _ _ _ _ _ (ix_k K rfl) (@pv _ 0 _ _ (by rfl) (by first | exact Or.inl rfl | exact Or.inr (Or.inl rfl) | exact Or.inr (Or.inr rfl)) (by decide) (by decide)) pe_int (fun _ _ => rfl)))) pe_int) pe_int) pe_int) (by rfl) (by first | exact .inl rfl | exact .inr rfl | assumption)) (@pss_cons _ _ _ _ _ (@ps_set _ _ (3) _ _ _ _ sc_draw.nd rfl (by first | exact Or.inl rfl | exact Or.inr rfl) (@pe_op _ _ _ _ _ _ _ _ op_mod (@pe_op _ _ _ _ _ _ _ _ op_mulU (@pv _ 3 _ _ (by rfl) (by first | exact Or.inl rfl | exact Or.inr (Or.inl rfl) | exact Or.inr (Or.inr rfl)) (by decide) (by decide)) (@pe_op _ _ _ _ _ _ _ _ op_addU (@pv _ 3 _ _ (by rfl) (by first | exact Or.inl rfl | exact Or.inr (Or.inl rfl) | exact Or.inr (Or.inr rfl)) (by decide) (by decide)) pe_int)) pe_int) (by rfl) (by first | exact .inl rfl | exact .inr rfl | assumption)) (@pss_one _ _ _ (@ps_ret _ _ _ _ (@pe_op _ _ _ _ _ _ _ _ op_mod (@pe_op _ _ _ _ _ _ _ _ op_fdiv (@pv _ 3 _ _ (by rfl) (by first | exact Or.inl rfl | exact Or.inr (Or.inl rfl) | exact Or.inr (Or.inr rfl)) (by decide) (by decide)) pe_int) (@pv _ 1 _ _ (by rfl) (by first | exact Or.inl rfl | exact Or.inr (Or.inl rfl) | exact Or.inr (Or.inr rfl)) (by decide) (by decide))))))) pss_nil) (@pss_one _ _ _ (@ps_asg _ _ _ _ _ _ (@pv _ 2 _ _ (by rfl) (by first | exact Or.inl rfl | exact Or.inr (Or.inl rfl) | exact Or.inr (Or.inr rfl)) (by decide) (by decide)) (@pg_sub _ _ _ _ _ _ _ (@pv _ 0 _ _ (by rfl) (by first | exact Or.inl rfl | exact Or.inr (Or.inl rfl) | exact Or.inr (Or.inr rfl)) (by decide) (by decide)) pe_int set_list (by intro _; rfl)) (by rfl) (by rfl) (by rfl)))))) pss_nil) (@pss_cons _ _ _ _ _ (@ps_set _ _ (4) _ _ _ _ sc_draw.nd rfl (by first | exact Or.inl rfl | exact Or.inr rfl) (@pe_op _ _ _ _ _ _ _ _ op_mod (@pe_ix _ _ _ _ _ _ _ (ix_k K rfl) (@pv _ 0 _ _ (by rfl) (by first | exact Or.inl rfl | exact Or.inr (Or.inl rfl) | exact Or.inr (Or.inr rfl)) (by decide) (by decide)) pe_int (fun _ _ => rfl)) (@pv _ 1 _ _ (by rfl) (by first | exact Or.inl rfl | exact Or.inr (Or.inl rfl) | exact Or.inr (Or.inr rfl)) (by decide) (by decide))) (by rfl) (by first | exact .inl rfl | exact .inr rfl | assumption)) (@pss_cons _ _ _ _ _ (@ps_asg _ _ _ _ _ _ (@pe_op _ _ _ _ _ _ _ _ op_fdiv (@pe_ix _ _ _ _ _ _ _ (ix_k K rfl) (@pv _ 0 _ _ (by rfl) (by first | exact Or.inl rfl | exact Or.inr (Or.inl rfl) | exact Or.inr (Or.inr rfl)) (by decide) (by decide)) pe_int (fun _ _ => rfl)) (@pv _ 1 _ _ (by rfl) (by first | exact Or.inl rfl | exact Or.inr (Or.inl rfl) | exact Or.inr (Or.inr rfl)) (by decide) (by decide))) (@pg_sub _ _ _ _ _ _ _ (@pv _ 0 _ _ (by rfl) (by first | exact Or.inl rfl | exact Or.inr (Or.inl rfl) | exact Or.inr (Or.inr rfl)) (by decide) (by decide)) pe_int set_list (by intro _; rfl)) (by rfl) (by rfl) (by rfl)) (@pss_one _ _ _ (@ps_ret _ _ _ _ (@pv _ 4 _ _ (by rfl) (by first | exact Or.inl rfl | exact Or.inr (Or.inl rfl) | exact Or.inr (Or.inr rfl)) (by decide) (by decide)))))))), ?_⟩
    have nba : b ≠ a := FeedAt.ne ⟨⟨i, j, ha⟩, ns, hb⟩
    refine ⟨_, rfl, .inl ⟨a, _, 1, _, rfl, rfl, SqL.of ha, rfl, .inl ⟨_, _, rfl, rfl, _, rfl, a, _, 1, 1, rfl, rfl, ha, rfl, ?_⟩⟩⟩
    generalize hH1 : upd H a _ = H1
    have ha1 : H1 a = some (.lst [.ref b, .int (i + 1), .int j]) := by rw [← hH1]; exact upd_same
    have hb1 : H1 b = some (.lst (ns.map V.int)) := by rw [← hH1, upd_ne nba]; exact hb
    have fd : ∀ (x y : Int), Fd a b H (upd H1 a (.lst [.ref b, .int x, .int y])) := fun x y => ⟨⟨⟨x, y, upd_same⟩, ns, by rw [upd_ne nba]; exact hb1⟩, fun c o e hc => by rw [upd_ne hc, ← hH1, upd_ne hc]; exact e⟩
    have fd1 : Fd a b H H1 := ⟨⟨⟨_, _, ha1⟩, ns, hb1⟩, fun c o e hc => by rw [← hH1, upd_ne hc]; exact e⟩
    refine ⟨_, rfl, .inl ⟨a, _, 2, _, rfl, rfl, SqL.of ha1, rfl, .inl ⟨rfl, _, rfl, ?_⟩⟩⟩
    have last : ∀ (H2 : Hp) (σ2 : St) (y : Int), H2 a = some (.lst [.ref b, .int (i + 1), .int y]) → (∀ x y : Int, Fd a b H (upd H2 a (.lst [.ref b, .int x, .int y]))) → σ2[0]? = some (some (.ref a)) → σ2[1]? = some (some (.int m)) → σ2.length = 5 →
        tSeq (tAsg (tOp (rI (fun _ j => 0 < j) fun i j => .int (i % j)) (tOp (rIx K) (tVar 0) (tC (.int 2))) (tVar 1)) (gName 4)) (tSeq (tAsg (tOp (rI CDiv fun i j => .int (i / j)) (tOp (rIx K) (tVar 0) (tC (.int 2))) (tVar 1)) (gSub (tVar 0) (tC (.int 2)) rSetL)) (tRet (tVar 4))) { nx := fun _ H' => Q .non H', rt := Q } σ2 H2 := by
      intro H2 σ2 y h2 f2 e0 e1 el
      match σ2, e0, e1, el with
      | [x0, x1, x2, x3, x4], e0, e1, _ =>
        cases e0
        cases e1
        refine ⟨_, rfl, .inl ⟨a, _, 2, _, rfl, rfl, SqL.of h2, rfl, _, rfl, _, _, rfl, rfl, hm0, ?_⟩⟩
        refine ⟨_, rfl, .inl ⟨a, _, 2, _, rfl, rfl, SqL.of h2, rfl, _, rfl, _, _, rfl, rfl, ⟨hm0, hm1⟩, _, rfl, a, _, 2, 2, rfl, rfl, h2, rfl, _, rfl, ?_⟩⟩
        exact k _ _ (Int.emod_nonneg _ (by lia)) (Int.emod_lt_of_pos _ hm0) (f2 _ _)
    refine ite2 (fun _ => ?_) (fun _ => last H1 _ j ha1 fd rfl rfl rfl)
    refine ⟨_, rfl, .inl ⟨a, _, 1, _, rfl, rfl, SqL.of ha1, rfl, ?_⟩⟩
    refine ⟨_, rfl, .inl ⟨a, _, 0, _, rfl, rfl, SqL.of ha1, rfl, ⟨_, _, rfl, .inl ⟨_, SqL.of hb1, rfl⟩, ⟨_, _, rfl, rfl, _, rfl, ?_⟩⟩⟩⟩
    have rest : ∀ cell : Int, tSeq (tIfS (tTest (tOp (rI0 fun i j => .bl (decide (i < j))) (tVar 2) (tOp (rI CPow fun i j => .int (i ^ j.toNat)) (tC (.int 10)) (tC (.int 18)))))
          (tSeq (tAsg (tOp (rI (fun _ j => 0 < j) fun i j => .int (i % j)) (tOp rMulU (tOp rAddU (tOp rAddU (tOp (rI (fun _ j => 0 < j) fun i j => .int (i % j)) (tVar 2) (tC (.int 2147483647))) (tOp rMulU (tC (.int 613)) (tOp (rIx K) (tVar 0) (tC (.int 1))))) (tC (.int 7))) (tC (.int 48271))) (tC (.int 2147483647))) (gName 3))
            (tSeq (tAsg (tOp (rI (fun _ j => 0 < j) fun i j => .int (i % j)) (tOp rMulU (tVar 3) (tOp rAddU (tVar 3) (tC (.int 69621)))) (tC (.int 2147483629))) (gName 3))
              (tRet (tOp (rI (fun _ j => 0 < j) fun i j => .int (i % j)) (tOp (rI CDiv fun i j => .int (i / j)) (tVar 3) (tC (.int 64))) (tVar 1))))) tNext)
          (tAsg (tVar 2) (gSub (tVar 0) (tC (.int 2)) rSetL))
        { nx := fun σ2 H2 => tSeq (tAsg (tOp (rI (fun _ j => 0 < j) fun i j => .int (i % j)) (tOp (rIx K) (tVar 0) (tC (.int 2))) (tVar 1)) (gName 4)) (tSeq (tAsg (tOp (rI CDiv fun i j => .int (i / j)) (tOp (rIx K) (tVar 0) (tC (.int 2))) (tVar 1)) (gSub (tVar 0) (tC (.int 2)) rSetL)) (tRet (tVar 4))) { nx := fun _ H' => Q .non H', rt := Q } σ2 H2, rt := Q }
        [some (.ref a), some (.int m), some (.int cell), none, none] H1 := by
      intro cell
      refine ⟨_, rfl, _, _, rfl, rfl, ⟨by decide, by decide, by decide⟩, _, _, rfl, rfl, _, rfl, ?_⟩
      refine ite2 (fun _ => ?_) (fun _ => ?_)
      · refine ⟨_, rfl, _, _, rfl, rfl, (by show (0 : Int) < 2147483647; decide), ?_⟩
        refine ⟨_, rfl, .inl ⟨a, _, 1, _, rfl, rfl, SqL.of ha1, rfl, .inl ⟨_, _, rfl, rfl, .inl ⟨by decide, by decide⟩, .inl ⟨_, _, rfl, rfl, .inl ⟨_, _, rfl, rfl, .inl ⟨_, _, rfl, rfl, .inr ⟨by decide, by decide⟩, _, _, rfl, rfl, (by show (0 : Int) < 2147483647; decide), ?_⟩⟩⟩⟩⟩⟩
        generalize hn : ((cell % 2147483647 + 613 * (i + 1) + 7) * 48271) % 2147483647 = n
        have n0 : 0 ≤ n := by rw [← hn]; exact Int.emod_nonneg _ (by decide)
        have n1 : n < 2147483647 := by rw [← hn]; exact Int.emod_lt_of_pos _ (by decide)
        refine ⟨_, rfl, _, rfl, .inl ⟨_, _, rfl, rfl, .inl ⟨_, _, rfl, rfl, .inl ⟨by lia, by lia⟩, _, _, rfl, rfl, (by show (0 : Int) < 2147483629; decide), ?_⟩⟩⟩
        refine ⟨_, rfl, _, _, rfl, rfl, ⟨by decide, by decide⟩, _, rfl, _, _, rfl, rfl, hm0, ?_⟩
        exact k _ _ (Int.emod_nonneg _ (by lia)) (Int.emod_lt_of_pos _ hm0) fd1
      · refine ⟨_, rfl, _, rfl, a, _, 2, 2, rfl, rfl, ha1, rfl, ?_⟩
        refine last _ _ cell upd_same (fun x y => ?_) rfl rfl rfl
        have := fd x y
        rw [upd_upd]
        exact this
    refine ite2 (fun hl => ?_) (fun _ => rest _)
    have hne : ns.map V.int ≠ [] := by
      intro z
      rw [z] at hl
      simp at hl
    obtain ⟨x, hx, ex⟩ := atI_mod (i + 1) hne
    obtain ⟨c, rfl⟩ : ∃ c, x = V.int c := by
      obtain ⟨c, _, e⟩ := List.mem_map.mp hx
      exact ⟨c, e.symm⟩
    refine ⟨_, rfl, .inl ⟨a, _, 0, _, rfl, rfl, SqL.of ha1, rfl, ⟨_, rfl, .inl ⟨a, _, 1, _, rfl, rfl, SqL.of ha1, rfl, ⟨_, rfl, .inl ⟨a, _, 0, _, rfl, rfl, SqL.of ha1, rfl, ⟨_, _, rfl, .inl ⟨_, SqL.of hb1, rfl⟩, _, _, rfl, rfl, ?_, ?_⟩⟩⟩⟩⟩⟩⟩
    · have : 0 < (ns.map V.int).length := by
        cases e : ns.map V.int with
        | nil => exact absurd e hne
        | cons _ _ => simp
      show (0 : Int) < ((ns.map V.int).length : Int)
      lia
    · exact .inl ⟨b, _, _, _, rfl, rfl, SqL.of hb1, ex, rest c⟩
abbrev st_text : Stmt := top 28
theorem sc_text : FnScope ["_law_feed", "_law_signs", "_law_size"] ["_law_feed", "_law_signs", "_law_size"] (defScope st_text) := ⟨rfl, rfl, rfl, by decide +kernel, rfl, by decide +kernel, by decide +kernel⟩
theorem ok_text (D : Df K mg "_law_text" st_text ["_law_feed", "_law_signs", "_law_size"]) (T : Txt mg) (draw : Cal P w K mg base "_law_draw" 1 ["_law_feed", "_law_many"] spDraw) : Cal P w K mg base "_law_text" 2 ["_law_feed", "_law_signs", "_law_size"] spText := by
  refine D.cal sc_text (fun vs H Q E h => ?_) (fun f cdv A outer s H vs Q E hr h => ?_)
  · obtain ⟨a, b, g, n, rfl, _⟩ := h; rfl
  · obtain ⟨a, b, g, n, rfl, F, hg0, hg1, hn0, hn1, k⟩ := h
    have C : Calls P w K mg base := ⟨draw⟩
    refine ⟨_, (@pss_one _ _ _ (@ps_ret _ _ _ _ (@bm_k _ _ _ _ _ _ _ _ _ _ _ _ K rfl PySem.F.plainAttrs_str PySem.F.slot_str_join PySem.F.type_str_join (join_k K rfl) pe_str (@pa_cons _ _ _ _ _ (@pe_lcomp _ _ _ _ _ _ _ _ _ _ _ ["_law_k"] [("_law_signs", 1), ("_law_feed", 0)] rfl (@pi_range1 _ _ _ _ _ _ rfl T.b_range (@pa_cons _ _ _ _ _ (@pv _ 2 _ _ (by rfl) (by first | exact Or.inl rfl | exact Or.inr (Or.inl rfl) | exact Or.inr (Or.inr rfl)) (by decide) (by decide)) pa_nil (by rfl)) (by rfl)) (fun _ _ _ _ _ => (@pg_name _ _ (0) _ (show (["_law_k", "_law_signs", "_law_feed"] : List Str).Nodup by decide +kernel) rfl (by first | exact Or.inl rfl | exact Or.inr rfl) (by first | exact .inl rfl | exact .inr rfl | assumption))) (fun _ _ _ _ _ => pif_nil) (fun _ _ _ _ _ => (@pe_ix _ _ _ _ _ _ _ (ix_k K rfl) (@pv _ 1 _ _ (by rfl) (by first | exact Or.inl rfl | exact Or.inr (Or.inl rfl) | exact Or.inr (Or.inr rfl)) (by decide) (by decide)) (@pe_c _ _ _ _ _ _ _ _ _ _ _ C.draw hr (@pa_cons _ _ _ _ _ (@pv _ 2 _ _ (by rfl) (by first | exact Or.inl rfl | exact Or.inr (Or.inl rfl) | exact Or.inr (Or.inr rfl)) (by decide) (by decide)) (@pa_cons _ _ _ _ _ (@pe_callB _ _ _ _ _ _ _ _ _ (len_k K rfl) (by rfl) T.b_len PySem.boot_len (@pa_cons _ _ _ _ _ (@pv _ 1 _ _ (by rfl) (by first | exact Or.inl rfl | exact Or.inr (Or.inl rfl) | exact Or.inr (Or.inr rfl)) (by decide) (by decide)) pa_nil (by rfl)) (by decide) (by decide) (by rfl) (by rfl)) pa_nil (by rfl)) (by rfl)) (by decide) (by rfl) (by decide) (by rfl) (by rfl)) (fun _ _ => rfl))) (by rfl) (by intro _; rfl)) pa_nil (by rfl)) (by rfl) (by rfl) (by rfl) (by rfl) (by rfl)))), ?_⟩
    refine ⟨rfl, _, rfl, n, rfl, by lia, by lia, fun D hD => ?_⟩
    refine comp_rangeN (n := n.toNat) (fun i ys H' => ∃ cs : List Nat, ys = cs.map (fun c => V.str ⟨#[c]⟩) ∧ cs.length = i ∧ i ≤ n.toNat ∧ (∀ c ∈ cs, c ∈ tl g) ∧ Fd a b H H' ∧ H' D = some (.lst ys)) ⟨[], rfl, rfl, Nat.zero_le _, fun _ h => (nomatch h), (Fd.refl F).new hD, upd_same⟩ (fun i ys H' ⟨cs, _, _, _, _, _, h⟩ => h) ?_ ?_
    · rintro i ys H' hi ⟨cs, rfl, hl, _, hc, fd, hHD⟩
      refine ⟨_, rfl, _, rfl, _, rfl, _, _, rfl, ⟨small (by lia), rfl⟩, a, b, _, rfl, fd.feed, by lia, by lia, fun r H2 r0 r1 fd2 => ?_⟩
      have hl2 : (tl g).length = g.length := (len g).symm
      obtain ⟨c, hc1, hc2⟩ := atI_lt (xs := tl g) r0 (by lia)
      refine .inr (.inr ⟨g, r, c, rfl, rfl, small (by lia), hc2, ?_⟩)
      have hDa : D ≠ a := fun z => by subst z; exact F.na hD rfl
      refine ⟨fd2.at hHD hDa, small' (by rw [List.length_map]; lia), cs ++ [c], by rw [List.map_append]; rfl, by rw [List.length_append, hl]; rfl, by lia, fun d hd => ?_, (fd.trans fd2).put F hD, upd_same⟩
      rcases List.mem_append.mp hd with z | z
      · exact hc d z
      · rw [List.mem_singleton.mp z]; exact List.mem_of_getElem? hc1
    · rintro ys H' ⟨cs, rfl, hl, _, hc, fd, hHD⟩
      have e : cs.map (fun c => V.str ⟨#[c]⟩) = (cs.map fun c => (⟨#[c]⟩ : Str)).map V.str := by rw [List.map_map]; rfl
      refine ⟨_, D, cs.map fun c => ⟨#[c]⟩, rfl, rfl, .inl (SqL.of (by rw [← e]; exact hHD)), ?_, ?_⟩
      · rw [ones_sum, List.length_map]
        have : (Str.ofString "").length = 0 := by decide +kernel
        rw [this]; lia
      · have z := join_ones cs
        rw [z]
        exact k cs H' hl hc fd
def spFirst : Sp := fun vs H Q _ => ∃ l, vs = [.str (mk l)] ∧ l.length ≤ 100 ∧ ∀ (v : V) (H' : Hp), Same H H' → ((v = .non ∧ Good l) ∨ ∃ i : Nat, v = .int (i : Int) ∧ WrongAt l i) → Q v H'
structure CallsW (P : Program) (w : World) (K : PySem.W.Frag) (mg : Str → Option Value) (base : Heap) : Prop where
  name_signs : Cal P w K mg base "_law_name_signs" 1 [] (spConst NSs)
theorem le9 {l : List Nat} {i : Nat} (hi : i ≤ l.length) (h : ∀ j, j < i → okAt l j) : ((l.take i).filter fun c => decide (c ∈ GS)).length ≤ 9 := by
  cases i with
  | zero => exact Nat.zero_le _
  | succ i => exact (h i (Nat.lt_succ_self i) (l[i]'hi) (List.getElem?_eq_getElem hi)).1
abbrev st_first_wrong : Stmt := top 30
theorem sc_first_wrong : FnScope ["_law_text_here", "_law_gaps", "_law_signs", "_law_at"] ["_law_text_here"] (defScope st_first_wrong) := ⟨rfl, rfl, rfl, by decide +kernel, rfl, by decide +kernel, by decide +kernel⟩
theorem ok_first_wrong (D : Df K mg "_law_first_wrong" st_first_wrong ["_law_text_here"]) (T : Txt mg) (C : CallsW P w K mg base) : Cal P w K mg base "_law_first_wrong" 2 ["_law_text_here"] spFirst := by
  refine D.cal sc_first_wrong (fun vs H Q E h => ?_) (fun f cdv A outer s H vs Q E hr h => ?_)
  · obtain ⟨l, rfl, _⟩ := h; rfl
  · obtain ⟨l, rfl, hl, kk⟩ := h
    have kG : Good l → ∀ H', Same H H' → Q .non H' := fun hg H' sm => kk _ _ sm (.inl ⟨rfl, hg⟩)
    have kW : ∀ i : Nat, WrongAt l i → ∀ H', Same H H' → Q (.int (i : Int)) H' := fun i hw H' sm => kk _ _ sm (.inr ⟨i, rfl, hw⟩)
    refine ⟨_, (@pss_cons _ _ _ _ _ (@ps_set _ _ (1) _ _ _ _ sc_first_wrong.nd rfl (by first | exact Or.inl rfl | exact Or.inr rfl) pe_int (by rfl) (by first | exact .inl rfl | exact .inr rfl | assumption)) (@pss_cons _ _ _ _ _ (@ps_set _ _ (2) _ _ _ _ sc_first_wrong.nd rfl (by first | exact Or.inl rfl | exact Or.inr rfl) (@pe_c0 _ _ _ _ _ _ _ _ C.name_signs hr (by decide) (by rfl) (by decide)) (by rfl) (by first | exact .inl rfl | exact .inr rfl | assumption)) (@pss_cons _ _ _ _ _ (@ps_for _ _ _ _ _ _ _ _ PassesOwn.never rfl (@pi_range1 _ _ _ _ _ _ rfl T.b_range (@pa_cons _ _ _ _ _ (@pe_callB _ _ _ _ _ _ _ _ _ (len_k K rfl) (by rfl) T.b_len PySem.boot_len (@pa_cons _ _ _ _ _ (@pv _ 0 _ _ (by rfl) (by first | exact Or.inl rfl | exact Or.inr (Or.inl rfl) | exact Or.inr (Or.inr rfl)) (by decide) (by decide)) pa_nil (by rfl)) (by decide) (by decide) (by rfl) (by rfl)) pa_nil (by rfl)) (by rfl)) (@pg_name _ _ (3) _ sc_first_wrong.nd rfl (by first | exact Or.inl rfl | exact Or.inr rfl) (by first | exact .inl rfl | exact .inr rfl | assumption)) (@pss_cons _ _ _ _ _ (@ps_set _ _ (1) _ _ _ _ sc_first_wrong.nd rfl (by first | exact Or.inl rfl | exact Or.inr rfl) (@pe_op _ _ _ _ _ _ _ _ op_addU (@pv _ 1 _ _ (by rfl) (by first | exact Or.inl rfl | exact Or.inr (Or.inl rfl) | exact Or.inr (Or.inr rfl)) (by decide) (by decide)) (@pe_callTy _ _ _ _ _ _ _ _ _ call_intU (by rfl) T.b_int (by decide +kernel) (@pa_cons _ _ _ _ _ (@pe_cmpR _ _ _ _ _ _ _ _ (in_k K rfl) (@pe_ix _ _ _ _ _ _ _ (ix_k K rfl) (@pv _ 0 _ _ (by rfl) (by first | exact Or.inl rfl | exact Or.inr (Or.inl rfl) | exact Or.inr (Or.inr rfl)) (by decide) (by decide)) (@pv _ 3 _ _ (by rfl) (by first | exact Or.inl rfl | exact Or.inr (Or.inl rfl) | exact Or.inr (Or.inr rfl)) (by decide) (by decide)) (fun _ _ => rfl)) pe_str (by with_unfolding_all rfl)) pa_nil (by rfl)) (by decide) (by decide) (by rfl) (by rfl))) (by rfl) (by first | exact .inl rfl | exact .inr rfl | assumption)) (@pss_one _ _ _ (@ps_if _ _ _ _ _ _ _ _ (@pt_j _ _ _ (@PW.pt _ _ _ (@pw_or _ _ _ _ _ _ _ (@pt_cmpR _ _ _ _ _ _ _ _ (eq_k K rfl hr) (@pv _ 1 _ _ (by rfl) (by first | exact Or.inl rfl | exact Or.inr (Or.inl rfl) | exact Or.inr (Or.inr rfl)) (by decide) (by decide)) pe_int (nomark _)) (@pw_or1 _ _ _ _ (@pt_j _ _ _ (@PW.pt _ _ _ (@pw_and _ _ _ _ _ _ _ (@pt_cmpR _ _ _ _ _ _ _ _ (nin_k K rfl) (@pe_ix _ _ _ _ _ _ _ (ix_k K rfl) (@pv _ 0 _ _ (by rfl) (by first | exact Or.inl rfl | exact Or.inr (Or.inl rfl) | exact Or.inr (Or.inr rfl)) (by decide) (by decide)) (@pv _ 3 _ _ (by rfl) (by first | exact Or.inl rfl | exact Or.inr (Or.inl rfl) | exact Or.inr (Or.inr rfl)) (by decide) (by decide)) (fun _ _ => rfl)) (@pv _ 2 _ _ (by rfl) (by first | exact Or.inl rfl | exact Or.inr (Or.inl rfl) | exact Or.inr (Or.inr rfl)) (by decide) (by decide)) (by with_unfolding_all rfl)) (@pw_and1 _ _ _ _ (@pt_cmpR _ _ _ _ _ _ _ _ (nin_k K rfl) (@pe_ix _ _ _ _ _ _ _ (ix_k K rfl) (@pv _ 0 _ _ (by rfl) (by first | exact Or.inl rfl | exact Or.inr (Or.inl rfl) | exact Or.inr (Or.inr rfl)) (by decide) (by decide)) (@pv _ 3 _ _ (by rfl) (by first | exact Or.inl rfl | exact Or.inr (Or.inl rfl) | exact Or.inr (Or.inr rfl)) (by decide) (by decide)) (fun _ _ => rfl)) pe_str (by with_unfolding_all rfl)))))))))) (@pss_one _ _ _ (@ps_ret _ _ _ _ (@pv _ 3 _ _ (by rfl) (by first | exact Or.inl rfl | exact Or.inr (Or.inl rfl) | exact Or.inr (Or.inr rfl)) (by decide) (by decide)))) pss_nil))) (by intro _; rfl)) (@pss_cons _ _ _ _ _ (@ps_if _ _ _ _ _ _ _ _ (@pt_cmpR _ _ _ _ _ _ _ _ (eq_k K rfl hr) (@pv _ 0 _ _ (by rfl) (by first | exact Or.inl rfl | exact Or.inr (Or.inl rfl) | exact Or.inr (Or.inr rfl)) (by decide) (by decide)) pe_str (nomark _)) (@pss_one _ _ _ (@ps_ret _ _ _ _ pe_int)) pss_nil) (@pss_one _ _ _ (@ps_ret _ _ _ _ pe_non)))))), ?_⟩
    have hlen := mk_len l
    refine ⟨rfl, ?_⟩
    refine ⟨_, rfl, _, _, rfl, ⟨small (by lia), rfl⟩, ?_⟩
    refine ⟨_, rfl, by lia, by lia, for_range (fun i σ' H' => ∃ x3, σ' = [some (.str (mk l)), some (.int (((l.take i).filter fun c => decide (c ∈ GS)).length : Nat)), some (.str NSs), x3] ∧ Same H H' ∧ ∀ j, j < i → okAt l j) ⟨none, rfl, Same.refl H, fun j h => (by lia)⟩ ?_ ?_⟩
    · rintro i σ' H' hi ⟨x3, rfl, sm, hok⟩
      have hi' : i < l.length := by lia
      rw [show (0 : Int) + (i : Int) = ((i : Nat) : Int) from by lia]
      obtain ⟨c, hci⟩ : ∃ c, l[i]? = some c := ⟨_, List.getElem?_eq_getElem hi'⟩
      have hat : atI (tl (mk l)) ((i : Nat) : Int) = some c := by rw [tl_mk]; exact atI_nat hci
      have h9 := le9 (Nat.le_of_lt hi') hok
      have htake : ((l.take (i + 1)).filter fun c => decide (c ∈ GS)).length = ((l.take i).filter fun c => decide (c ∈ GS)).length + (if c ∈ GS then 1 else 0) := by
        rw [take_succ_of hci, List.filter_append, List.length_append]
        congr 1
        by_cases h : c ∈ GS
        · rw [if_pos h, filt_pos h]; rfl
        · rw [if_neg h, filt_neg h]; rfl
      refine ⟨_, rfl, _, rfl, _, rfl, .inr (.inr ⟨_, _, c, rfl, rfl, small (by lia), hat, .inl ⟨_, _, rfl, rfl, ?_⟩⟩)⟩
      rw [in_one]
      refine .inl (.inr ⟨_, rfl, .inl ⟨_, _, rfl, rfl, ?_⟩⟩)
      have ecnt : ((((l.take i).filter fun c => decide (c ∈ GS)).length : Nat) : Int) + (if decide (c ∈ tl (Str.ofString "?*#\x40")) = true then 1 else 0) = ((((l.take (i + 1)).filter fun c => decide (c ∈ GS)).length : Nat) : Int) := by
        rw [htake]
        by_cases h : c ∈ GS
        · rw [if_pos h, if_pos (decide_eq_true (show c ∈ tl (Str.ofString "?*#\x40") from h))]; rfl
        · rw [if_neg h, if_neg (fun (z : decide (c ∈ tl (Str.ofString "?*#\x40")) = true) => h (of_decide_eq_true z))]; rfl
      rw [ecnt]
      refine ⟨fun b H3 => (b = true → ¬ okAt l i) ∧ (b = false → okAt l i) ∧ H3 = H', ?_, ?_⟩
      · rintro b H3 ⟨hb1, hb0, rfl⟩
        refine ite2 (fun h => ?_) (fun h => ⟨_, rfl, sm, fun j hj => ?_⟩)
        · exact ⟨_, rfl, kW i (.inr ⟨fun z => by rw [z] at hi'; exact absurd hi' (Nat.not_lt_zero _), hb1 h, hok⟩) _ sm⟩
        · rcases Nat.lt_succ_iff_lt_or_eq.mp hj with z | z
          · exact hok j z
          · rw [z]; exact hb0 (by simpa using h)
      · refine ⟨_, rfl, .inl ⟨rfl, _, rfl, ?_⟩⟩
        refine iteB (fun h => ⟨fun _ z => ?_, fun z => (by cases z), rfl⟩) (fun h => ?_)
        · have := (z c hci).1
          have h' := of_decide_eq_true h
          injection h' with h'
          lia
        have h' : ¬ ((l.take (i + 1)).filter fun c => decide (c ∈ GS)).length = 10 := fun z => by
          have := of_decide_eq_false h
          rw [z] at this
          exact this rfl
        have h10 : ((l.take (i + 1)).filter fun c => decide (c ∈ GS)).length ≤ 9 := by
          have : ((l.take (i + 1)).filter fun c => decide (c ∈ GS)).length ≤ 10 := by rw [htake]; split <;> lia
          lia
        refine ⟨fun b H3 => b = decide (¬ (c ∈ GS ∨ c ∈ NS)) ∧ H3 = H', ?_, ?_⟩
        · rintro b H3 ⟨rfl, rfl⟩
          refine ⟨fun z y => ?_, fun z c' hc' => ?_, rfl⟩
          · exact of_decide_eq_true z (y c hci).2
          · rw [hci] at hc'
            cases hc'
            exact ⟨h10, Decidable.not_not.mp (of_decide_eq_false z)⟩
        · refine ⟨_, rfl, _, rfl, .inr (.inr ⟨_, _, c, rfl, rfl, small (by lia), hat, _, rfl, .inl ⟨_, _, rfl, rfl, _, rfl, ?_⟩⟩)⟩
          rw [in_one]
          refine iteB (fun h => ?_) (fun h => ?_)
          · refine ⟨_, rfl, _, rfl, .inr (.inr ⟨_, _, c, rfl, rfl, small (by lia), hat, .inl ⟨_, _, rfl, rfl, _, rfl, ?_⟩⟩)⟩
            rw [in_one]
            refine ⟨?_, rfl⟩
            have n1 : ¬ c ∈ NS := fun z => by rw [show decide (c ∈ tl NSs) = true from decide_eq_true z] at h; cases h
            by_cases hg : c ∈ GS
            · rw [show decide (c ∈ tl (Str.ofString "?*#\x40")) = true from decide_eq_true hg, decide_eq_false (show ¬ ¬ (c ∈ GS ∨ c ∈ NS) from fun z => z (.inl hg))]; rfl
            · rw [show decide (c ∈ tl (Str.ofString "?*#\x40")) = false from decide_eq_false hg, decide_eq_true (show ¬ (c ∈ GS ∨ c ∈ NS) from fun z => z.elim hg n1)]; rfl
          · have n1 : c ∈ NS := Classical.byContradiction fun z => by rw [show decide (c ∈ tl NSs) = false from decide_eq_false z] at h; cases h
            exact ⟨(decide_eq_false (show ¬ ¬ (c ∈ GS ∨ c ∈ NS) from fun z => z (.inr n1))).symm, rfl⟩
    · rintro σ' H' ⟨x3, rfl, sm, hok⟩
      have hall : ∀ i, okAt l i := fun i => by
        by_cases hi : i < l.length
        · exact hok i (by lia)
        · intro c hc
          rw [List.getElem?_eq_none (by lia)] at hc
          cases hc
      refine ⟨_, rfl, .inl ⟨rfl, _, rfl, ?_⟩⟩
      rw [mk_nil]
      refine iteB (fun h => ?_) (fun h => ?_)
      · exact kW 0 (.inl ⟨of_decide_eq_true h, rfl⟩) _ sm
      · exact kG (good_of (of_decide_eq_false h) (by lia) hall) _ sm
def OSs : Str := Str.ofString " !\"#$&'()*+,/:;<=>?\x40[\\]^`{|}~"
structure CallsBt (P : Program) (w : World) (K : PySem.W.Frag) (mg : Str → Option Value) (base : Heap) : Prop where
  draw : Cal P w K mg base "_law_draw" 1 ["_law_feed", "_law_many"] spDraw
  name_signs : Cal P w K mg base "_law_name_signs" 1 [] (spConst NSs)
  k_other_signs : Kon P w K mg base "_law_other_signs" OSs
abbrev st_other_signs : Stmt := top 27
theorem sc_other_signs : FnScope [] [] (defScope st_other_signs) := ⟨rfl, rfl, rfl, by decide +kernel, rfl, by decide +kernel, by decide +kernel⟩
theorem rpl {x : Str} {y : String} {c : Nat} (h : Str.ofString y = ⟨#[c]⟩) : tl (PySem.Txt.replace x (Str.ofString y) (Str.ofString "")) = (tl x).filter (· != c) := by
  have e : Str.ofString "" = ⟨#[]⟩ := by decide +kernel
  rw [h, e]
  exact PyProof.Rows.replace_strikes x c
def OD1 : Str := PySem.Txt.replace OSs (Str.ofString "?") (Str.ofString "")
def OD2 : Str := PySem.Txt.replace OD1 (Str.ofString "*") (Str.ofString "")
def OD3 : Str := PySem.Txt.replace OD2 (Str.ofString "#") (Str.ofString "")
def OD4 : Str := PySem.Txt.replace OD3 (Str.ofString "\x40") (Str.ofString "")
theorem od1 : tl OD1 = (tl OSs).filter (· != 63) := rpl (by decide +kernel)
theorem od2 : tl OD2 = (tl OD1).filter (· != 42) := rpl (by decide +kernel)
theorem od3 : tl OD3 = (tl OD2).filter (· != 35) := rpl (by decide +kernel)
theorem od4 : tl OD4 = (tl OD3).filter (· != 64) := rpl (by decide +kernel)
theorem e0 : (Str.ofString "").length = 0 := by decide +kernel
theorem od_len : OD4.length = 25 := by rw [len, od4, od3, od2, od1]; decide +kernel
theorem od1_len : OD1.length ≤ 100 := by rw [len, od1]; decide +kernel
theorem od2_len : OD2.length ≤ 100 := by rw [len, od2, od1]; decide +kernel
theorem od3_len : OD3.length ≤ 100 := by rw [len, od3, od2, od1]; decide +kernel
theorem app_one {l : List Nat} {c : Nat} : mk l ++ ⟨#[c]⟩ = mk (l ++ [c]) := by
  apply ext
  rw [tl_app, tl_one, tl_mk, tl_mk]
def spBent : Sp := fun vs H Q _ => ∃ a b, vs = [.ref a] ∧ FeedAt H a b ∧ ∀ l H', l.length ≤ 40 → Fd a b H H' → Q (.str (mk l)) H'
abbrev st_bent : Stmt := top 29
theorem sc_bent : FnScope ["_law_feed", "_law_signs", "_law_text_here", "_law_k", "_law_odd", "_law_at"] ["_law_feed"] (defScope st_bent) := ⟨rfl, rfl, rfl, by decide +kernel, rfl, by decide +kernel, by decide +kernel⟩
theorem ok_bent (D : Df K mg "_law_bent" st_bent ["_law_feed"]) (T : Txt mg) (C : CallsBt P w K mg base) : Cal P w K mg base "_law_bent" 2 ["_law_feed"] spBent := by
  refine D.cal sc_bent (fun vs H Q E h => ?_) (fun f cdv A outer s H vs Q E hr h => ?_)
  · obtain ⟨a, b, rfl, _⟩ := h; rfl
  · obtain ⟨a, b, rfl, F, k⟩ := h
    refine ⟨_, (@pss_cons _ _ _ _ _ (@ps_set _ _ (1) _ _ _ _ sc_bent.nd rfl (by first | exact Or.inl rfl | exact Or.inr rfl) (@pe_c0 _ _ _ _ _ _ _ _ C.name_signs hr (by decide) (by rfl) (by decide)) (by rfl) (by first | exact .inl rfl | exact .inr rfl | assumption)) (@pss_cons _ _ _ _ _ (@ps_set _ _ (2) _ _ _ _ sc_bent.nd rfl (by first | exact Or.inl rfl | exact Or.inr rfl) pe_str (by rfl) (by first | exact .inl rfl | exact .inr rfl | assumption)) (@pss_cons _ _ _ _ _ (@ps_for _ _ _ _ _ _ _ _ PassesOwn.never rfl (@pi_range1 _ _ _ _ _ _ rfl T.b_range (@pa_cons _ _ _ _ _ (@pe_c _ _ _ _ _ _ _ _ _ _ _ C.draw hr (@pa_cons _ _ _ _ _ (@pv _ 0 _ _ (by rfl) (by first | exact Or.inl rfl | exact Or.inr (Or.inl rfl) | exact Or.inr (Or.inr rfl)) (by decide) (by decide)) (@pa_cons _ _ _ _ _ pe_int pa_nil (by rfl)) (by rfl)) (by decide) (by rfl) (by decide) (by rfl) (by rfl)) pa_nil (by rfl)) (by rfl)) (@pg_name _ _ (3) _ sc_bent.nd rfl (by first | exact Or.inl rfl | exact Or.inr rfl) (by first | exact .inl rfl | exact .inr rfl | assumption)) (@pss_one _ _ _ (@ps_if _ _ _ _ _ _ _ _ (@pt_cmpR _ _ _ _ _ _ _ _ (eq_k K rfl hr) (@pe_c _ _ _ _ _ _ _ _ _ _ _ C.draw hr (@pa_cons _ _ _ _ _ (@pv _ 0 _ _ (by rfl) (by first | exact Or.inl rfl | exact Or.inr (Or.inl rfl) | exact Or.inr (Or.inr rfl)) (by decide) (by decide)) (@pa_cons _ _ _ _ _ pe_int pa_nil (by rfl)) (by rfl)) (by decide) (by rfl) (by decide) (by rfl) (by rfl)) pe_int (nomark _)) (@pss_one _ _ _ (@ps_set _ _ (2) _ _ _ _ sc_bent.nd rfl (by first | exact Or.inl rfl | exact Or.inr rfl) (@pe_op _ _ _ _ _ _ _ _ op_addU (@pv _ 2 _ _ (by rfl) (by first | exact Or.inl rfl | exact Or.inr (Or.inl rfl) | exact Or.inr (Or.inr rfl)) (by decide) (by decide)) (@pe_ix _ _ _ _ _ _ _ (ix_k K rfl) pe_str (@pe_c _ _ _ _ _ _ _ _ _ _ _ C.draw hr (@pa_cons _ _ _ _ _ (@pv _ 0 _ _ (by rfl) (by first | exact Or.inl rfl | exact Or.inr (Or.inl rfl) | exact Or.inr (Or.inr rfl)) (by decide) (by decide)) (@pa_cons _ _ _ _ _ pe_int pa_nil (by rfl)) (by rfl)) (by decide) (by rfl) (by decide) (by rfl) (by rfl)) (fun _ _ => rfl))) (by rfl) (by first | exact .inl rfl | exact .inr rfl | assumption))) (@pss_one _ _ _ (@ps_set _ _ (2) _ _ _ _ sc_bent.nd rfl (by first | exact Or.inl rfl | exact Or.inr rfl) (@pe_op _ _ _ _ _ _ _ _ op_addU (@pv _ 2 _ _ (by rfl) (by first | exact Or.inl rfl | exact Or.inr (Or.inl rfl) | exact Or.inr (Or.inr rfl)) (by decide) (by decide)) (@pe_ix _ _ _ _ _ _ _ (ix_k K rfl) (@pv _ 1 _ _ (by rfl) (by first | exact Or.inl rfl | exact Or.inr (Or.inl rfl) | exact Or.inr (Or.inr rfl)) (by decide) (by decide)) (@pe_c _ _ _ _ _ _ _ _ _ _ _ C.draw hr (@pa_cons _ _ _ _ _ (@pv _ 0 _ _ (by rfl) (by first | exact Or.inl rfl | exact Or.inr (Or.inl rfl) | exact Or.inr (Or.inr rfl)) (by decide) (by decide)) (@pa_cons _ _ _ _ _ (@pe_callB _ _ _ _ _ _ _ _ _ (len_k K rfl) (by rfl) T.b_len PySem.boot_len (@pa_cons _ _ _ _ _ (@pv _ 1 _ _ (by rfl) (by first | exact Or.inl rfl | exact Or.inr (Or.inl rfl) | exact Or.inr (Or.inr rfl)) (by decide) (by decide)) pa_nil (by rfl)) (by decide) (by decide) (by rfl) (by rfl)) pa_nil (by rfl)) (by rfl)) (by decide) (by rfl) (by decide) (by rfl) (by rfl)) (fun _ _ => rfl))) (by rfl) (by first | exact .inl rfl | exact .inr rfl | assumption))))) (by intro _; rfl)) (@pss_cons _ _ _ _ _ (@ps_set _ _ (4) _ _ _ _ sc_bent.nd rfl (by first | exact Or.inl rfl | exact Or.inr rfl) (PET.pe (pet_repl (pet_repl (pet_repl (pet_repl (pet_kon C.k_other_signs hr) (by decide +kernel)) (by decide +kernel)) (by decide +kernel)) (by decide +kernel))) (by rfl) (by first | exact .inl rfl | exact .inr rfl | assumption)) (@pss_cons _ _ _ _ _ (@ps_for _ _ _ _ _ _ _ _ PassesOwn.never rfl (@pi_range1 _ _ _ _ _ _ rfl T.b_range (@pa_cons _ _ _ _ _ (@pe_ix _ _ _ _ _ _ _ (ix_k K rfl) (@pe_lst _ _ _ _ (@pa_cons _ _ _ _ _ pe_int (@pa_cons _ _ _ _ _ pe_int (@pa_cons _ _ _ _ _ pe_int (@pa_cons _ _ _ _ _ pe_int pa_nil (by rfl)) (by rfl)) (by rfl)) (by rfl))) (@pe_c _ _ _ _ _ _ _ _ _ _ _ C.draw hr (@pa_cons _ _ _ _ _ (@pv _ 0 _ _ (by rfl) (by first | exact Or.inl rfl | exact Or.inr (Or.inl rfl) | exact Or.inr (Or.inr rfl)) (by decide) (by decide)) (@pa_cons _ _ _ _ _ pe_int pa_nil (by rfl)) (by rfl)) (by decide) (by rfl) (by decide) (by rfl) (by rfl)) (fun _ _ => rfl)) pa_nil (by rfl)) (by rfl)) (@pg_name _ _ (3) _ sc_bent.nd rfl (by first | exact Or.inl rfl | exact Or.inr rfl) (by first | exact .inl rfl | exact .inr rfl | assumption)) (@pss_cons _ _ _ _ _ (@ps_set _ _ (5) _ _ _ _ sc_bent.nd rfl (by first | exact Or.inl rfl | exact Or.inr rfl) (@pe_c _ _ _ _ _ _ _ _ _ _ _ C.draw hr (@pa_cons _ _ _ _ _ (@pv _ 0 _ _ (by rfl) (by first | exact Or.inl rfl | exact Or.inr (Or.inl rfl) | exact Or.inr (Or.inr rfl)) (by decide) (by decide)) (@pa_cons _ _ _ _ _ (@pe_op _ _ _ _ _ _ _ _ op_addU (@pe_callB _ _ _ _ _ _ _ _ _ (len_k K rfl) (by rfl) T.b_len PySem.boot_len (@pa_cons _ _ _ _ _ (@pv _ 2 _ _ (by rfl) (by first | exact Or.inl rfl | exact Or.inr (Or.inl rfl) | exact Or.inr (Or.inr rfl)) (by decide) (by decide)) pa_nil (by rfl)) (by decide) (by decide) (by rfl) (by rfl)) pe_int) pa_nil (by rfl)) (by rfl)) (by decide) (by rfl) (by decide) (by rfl) (by rfl)) (by rfl) (by first | exact .inl rfl | exact .inr rfl | assumption)) (@pss_one _ _ _ (@ps_set _ _ (2) _ _ _ _ sc_bent.nd rfl (by first | exact Or.inl rfl | exact Or.inr rfl) (@pe_op _ _ _ _ _ _ _ _ op_addU (@pe_op _ _ _ _ _ _ _ _ op_addU (@pe_slice _ _ _ _ _ _ _ _ _ _ (sl_k K rfl) (@pv _ 2 _ _ (by rfl) (by first | exact Or.inl rfl | exact Or.inr (Or.inl rfl) | exact Or.inr (Or.inr rfl)) (by decide) (by decide)) po_none (@po_some _ _ _ (@pv _ 5 _ _ (by rfl) (by first | exact Or.inl rfl | exact Or.inr (Or.inl rfl) | exact Or.inr (Or.inr rfl)) (by decide) (by decide)))) (@pe_ix _ _ _ _ _ _ _ (ix_k K rfl) (@pv _ 4 _ _ (by rfl) (by first | exact Or.inl rfl | exact Or.inr (Or.inl rfl) | exact Or.inr (Or.inr rfl)) (by decide) (by decide)) (@pe_c _ _ _ _ _ _ _ _ _ _ _ C.draw hr (@pa_cons _ _ _ _ _ (@pv _ 0 _ _ (by rfl) (by first | exact Or.inl rfl | exact Or.inr (Or.inl rfl) | exact Or.inr (Or.inr rfl)) (by decide) (by decide)) (@pa_cons _ _ _ _ _ (@pe_callB _ _ _ _ _ _ _ _ _ (len_k K rfl) (by rfl) T.b_len PySem.boot_len (@pa_cons _ _ _ _ _ (@pv _ 4 _ _ (by rfl) (by first | exact Or.inl rfl | exact Or.inr (Or.inl rfl) | exact Or.inr (Or.inr rfl)) (by decide) (by decide)) pa_nil (by rfl)) (by decide) (by decide) (by rfl) (by rfl)) pa_nil (by rfl)) (by rfl)) (by decide) (by rfl) (by decide) (by rfl) (by rfl)) (fun _ _ => rfl))) (@pe_slice _ _ _ _ _ _ _ _ _ _ (sl_k K rfl) (@pv _ 2 _ _ (by rfl) (by first | exact Or.inl rfl | exact Or.inr (Or.inl rfl) | exact Or.inr (Or.inr rfl)) (by decide) (by decide)) (@po_some _ _ _ (@pv _ 5 _ _ (by rfl) (by first | exact Or.inl rfl | exact Or.inr (Or.inl rfl) | exact Or.inr (Or.inr rfl)) (by decide) (by decide))) po_none)) (by rfl) (by first | exact .inl rfl | exact .inr rfl | assumption)))) (by intro _; rfl)) (@pss_one _ _ _ (@ps_ret _ _ _ _ (@pv _ 2 _ _ (by rfl) (by first | exact Or.inl rfl | exact Or.inr (Or.inl rfl) | exact Or.inr (Or.inr rfl)) (by decide) (by decide))))))))), ?_⟩
    refine ⟨rfl, ?_⟩
    refine ⟨_, rfl, a, b, 22, rfl, F, by decide, by decide, fun r H1 r0 r1 fd1 => ?_⟩
    refine ⟨_, rfl, by lia, by lia, for_range (fun i σ' H' => ∃ l x3, σ' = [some (.ref a), some (.str NSs), some (.str (mk l)), x3, none, none] ∧ Fd a b H H' ∧ l.length = i) ⟨[], none, rfl, fd1, rfl⟩ ?_ ?_⟩
    · rintro i σ' H' hi ⟨l, x3, rfl, fd, hl⟩
      refine ⟨_, rfl, a, b, 2, rfl, fd.feed, by decide, by decide, fun r2 H2 _ _ fd2 => .inl ⟨rfl, _, rfl, ?_⟩⟩
      have fdA := fd.trans fd2
      refine ite2 (fun h => ?_) (fun h => ?_)
      · refine ⟨_, rfl, _, rfl, a, b, 4, rfl, fdA.feed, by decide, by decide, fun r3 H3 p0 p1 fd3 => ?_⟩
        obtain ⟨c, hc1, hc2⟩ := atI_lt (xs := tl (Str.ofString "?*#\x40")) p0 (by rw [← len, show (Str.ofString "?*#\x40").length = 4 from by decide +kernel]; exact p1)
        refine .inr (.inr ⟨_, _, c, rfl, rfl, small (by decide +kernel), hc2, ?_⟩)
        refine .inr (.inl ⟨_, _, rfl, rfl, small (by rw [mk_len]; show l.length + 1 ≤ _; lia), ?_⟩)
        rw [app_one]
        exact ⟨l ++ [c], _, rfl, fdA.trans fd3, by rw [List.length_append, hl]; rfl⟩
      · refine ⟨_, rfl, _, rfl, _, rfl, _, rfl, _, _, rfl, ⟨small (by rw [ns_len]; decide), rfl⟩, a, b, _, rfl, fdA.feed, by rw [ns_len]; decide, by rw [ns_len]; decide, fun r3 H3 p0 p1 fd3 => ?_⟩
        obtain ⟨c, hc1, hc2⟩ := atI_lt (xs := tl NSs) p0 (by rw [← len]; exact p1)
        refine .inr (.inr ⟨_, _, c, rfl, rfl, small (by rw [ns_len]; decide), hc2, ?_⟩)
        refine .inr (.inl ⟨_, _, rfl, rfl, small (by rw [mk_len]; show l.length + 1 ≤ _; lia), ?_⟩)
        rw [app_one]
        exact ⟨l ++ [c], _, rfl, fdA.trans fd3, by rw [List.length_append, hl]; rfl⟩
    · rintro σ' H' ⟨l, x3, rfl, fd, hl⟩
      refine ⟨_, rfl, by decide +kernel, ?_⟩
      refine ⟨_, rfl, by show OD1.length + _ * _ ≤ _; rw [e0]; have := od1_len; lia, ?_⟩
      refine ⟨_, rfl, by show OD2.length + _ * _ ≤ _; rw [e0]; have := od2_len; lia, ?_⟩
      refine ⟨_, rfl, by show OD3.length + _ * _ ≤ _; rw [e0]; have := od3_len; lia, ?_⟩
      show (fun (x : Str) => _) OD4
      dsimp only
      refine ⟨by show 4 ≤ sizeLine; decide, fun L hL => ?_⟩
      have fdL := fd.new (o := .lst [.int 0, .int 0, .int 1, .int 2]) hL
      refine ⟨_, rfl, a, b, 4, rfl, fdL.feed, by decide, by decide, fun r4 H4 p0 p1 fd4 => ?_⟩
      have hLa : L ≠ a := fun z => by subst z; exact fd.feed.na hL rfl
      have hL4 : H4 L = some (.lst [.int 0, .int 0, .int 1, .int 2]) := fd4.at upd_same hLa
      have fdB := fdL.trans fd4
      obtain ⟨v, hv1, hv2⟩ := atI_lt (xs := [V.int 0, V.int 0, V.int 1, V.int 2]) p0 p1
      have hv : ∃ m : Nat, v = .int (m : Int) ∧ m ≤ 2 := by
        have := List.mem_of_getElem? hv1
        simp at this
        rcases this with rfl | rfl | rfl
        · exact ⟨0, rfl, by decide⟩
        · exact ⟨1, rfl, by decide⟩
        · exact ⟨2, rfl, by decide⟩
      obtain ⟨m, rfl, hm⟩ := hv
      refine .inl ⟨L, _, r4, _, rfl, rfl, SqL.of hL4, hv2, ?_⟩
      refine ⟨_, rfl, by lia, by lia, for_range (fun i σ' H' => ∃ l x3 x5, σ' = [some (.ref a), some (.str NSs), some (.str (mk l)), x3, some (.str OD4), x5] ∧ Fd a b H H' ∧ l.length ≤ 22 + i) ⟨l, x3, none, rfl, fdB, by lia⟩ ?_ ?_⟩
      · rintro i σ' H' hi ⟨l, x3, x5, rfl, fd, hl⟩
        have hlen := mk_len l
        refine ⟨_, rfl, _, rfl, _, _, rfl, ⟨small (by lia), rfl⟩, .inl ⟨_, _, rfl, rfl, a, b, _, rfl, fd.feed, by lia, by lia, fun s5 H5 s0 s1 fd5 => ?_⟩⟩
        have fdC := fd.trans fd5
        refine ⟨_, rfl, _, rfl, _, rfl, .inl ⟨_, rfl, small (by lia), ?_⟩⟩
        rw [slice_to s0 (by rw [tl_mk]; lia), tl_mk]
        refine ⟨_, rfl, _, rfl, _, rfl, _, _, rfl, ⟨small (by rw [od_len]; decide), rfl⟩, a, b, _, rfl, fdC.feed, by rw [od_len]; decide, by rw [od_len]; decide, fun r6 H6 q0 q1 fd6 => ?_⟩
        obtain ⟨c, hc1, hc2⟩ := atI_lt (xs := tl OD4) q0 (by rw [← len]; exact q1)
        refine .inr (.inr ⟨OD4, r6, c, rfl, rfl, small (by rw [od_len]; decide), hc2, ?_⟩)
        refine .inr (.inl ⟨_, _, rfl, rfl, small (by rw [mk_len, List.length_take]; show _ + 1 ≤ _; lia), ?_⟩)
        refine ⟨_, rfl, _, rfl, _, rfl, .inl ⟨_, rfl, small (by lia), ?_⟩⟩
        rw [slice_from s0 (by rw [tl_mk]; lia), tl_mk]
        refine .inr (.inl ⟨_, _, rfl, rfl, small (by rw [app_len, mk_len, mk_len, mk_len, List.length_take, List.length_drop]; show _ + 1 + _ ≤ _; lia), ?_⟩)
        have ea : mk (l.take s5.toNat) ++ ⟨#[c]⟩ ++ mk (l.drop s5.toNat) = mk (l.take s5.toNat ++ c :: l.drop s5.toNat) := by
          apply ext
          rw [tl_app, tl_app, tl_one]
          simp only [tl_mk]
          simp
        rw [ea]
        refine ⟨_, _, _, rfl, fdC.trans fd6, ?_⟩
        rw [List.length_append, List.length_cons, List.length_take, List.length_drop]; lia
      · rintro σ' H' ⟨l, x3, x5, rfl, fd, hl⟩
        exact ⟨_, rfl, k l _ (by lia) fd⟩
end
end K
set_option maxHeartbeats 4000000
namespace K
open PySem L2 TX
section
variable {P : Program} {w : World} {K : PySem.W.Frag} {mg : Str → Option Value} {base : Heap}
structure CallsL (P : Program) (w : World) (K : PySem.W.Frag) (mg : Str → Option Value) (base : Heap) : Prop where
  draw : Cal P w K mg base "_law_draw" 1 ["_law_feed", "_law_many"] spDraw
  text : Cal P w K mg base "_law_text" 2 ["_law_feed", "_law_signs", "_law_size"] spText
  name_signs : Cal P w K mg base "_law_name_signs" 1 [] (spConst NSs)
  bent : Cal P w K mg base "_law_bent" 2 ["_law_feed"] spBent
  first_wrong : Cal P w K mg base "_law_first_wrong" 2 ["_law_text_here"] spFirst
  refused_at : Cal P w K mg base "_law_refused_at" 7 ["_law_text_here", "_law_name", "_law_read"] spRefAt
def spLaw (K : PySem.W.Frag) : Sp := fun vs H Q _ => ∃ (a : Addr) (ns : List Int), vs = [.ref a] ∧ SqL K H a (ns.map V.int) ∧ ns.length ≤ 63 ∧ ∀ H', Q (.bl true) H'
theorem wrong_not_good {l : List Nat} {i : Nat} (h : WrongAt l i) (g : Good l) : False := by
  rcases h with ⟨h, _⟩ | ⟨_, h, _⟩
  · exact g.ne h
  · refine h fun c hc => ⟨?_, g.sg c (List.mem_of_getElem? hc)⟩
    exact Nat.le_trans (List.Sublist.length_le ((List.take_sublist _ _).filter _)) g.gp
theorem wrong_one {l : List Nat} {i j : Nat} (h : WrongAt l i) (g : WrongAt l j) : i = j := by
  rcases h with ⟨h, rfl⟩ | ⟨h1, h2, h3⟩
  · rcases g with ⟨_, rfl⟩ | ⟨g1, _⟩
    · rfl
    · exact absurd h g1
  · rcases g with ⟨g, _⟩ | ⟨_, g2, g3⟩
    · exact absurd g h1
    · rcases Nat.lt_trichotomy i j with z | z | z
      · exact absurd (g3 i z) h2
      · exact z
      · exact absurd (h3 j z) g2
def dLB : PyData := .tuple [.str (Str.ofString "let by")]
def dRf (i : Nat) : PyData := .tuple [.str (Str.ofString "refused"), .int (i : Int), .bool false]
theorem dt_LB {K : PySem.W.Frag} {H : Hp} {T : Addr} (h : H T = some (.tup [.str (Str.ofString "let by")])) : Dt K H (.ref T) dLB := .tup (SqT.of h) (.cons (.str _) .nil)
theorem dt_Rf {K : PySem.W.Frag} {H : Hp} {T : Addr} {i : Nat} (h : H T = some (.tup [.str (Str.ofString "refused"), .int (i : Int), .bl false])) : Dt K H (.ref T) (dRf i) := .tup (SqT.of h) (.cons (.str _) (.cons (.int _) (.cons (.bl _) .nil)))
theorem lay_LB : dLB.canLay0 = true := by decide +kernel
theorem lay_Rf (i : Nat) : (dRf i).canLay0 = true := by
  have h1 : PySem.PyData.strOk (Str.ofString "refused") = true := by decide +kernel
  unfold dRf
  simp only [PySem.PyData.canLay0, PySem.PyData.canLayAll0, h1, Bool.and_self]
theorem dep_LB : dLB.depth ≤ 100 := by
  unfold dLB
  simp [PySem.PyData.depth, PySem.PyData.depthAll]
theorem dep_Rf (i : Nat) : (dRf i).depth ≤ 100 := by
  unfold dRf
  simp [PySem.PyData.depth, PySem.PyData.depthAll]
theorem good_a : Good [97, 42] := ⟨by simp, by decide +kernel, by decide +kernel, by decide⟩
theorem mk_a : Str.ofString "a*" = mk [97, 42] := by decide +kernel
abbrev st_law : Stmt := top 32
theorem sc_law : FnScope ["_law_script", "_law_feed", "_law_k", "_law_text_here", "_law_name", "_law_due", "_law_read", "_law_told"] ["_law_script"] (defScope st_law) := ⟨rfl, rfl, rfl, by decide +kernel, rfl, by decide +kernel, by decide +kernel⟩
theorem body_law (T : Txt mg) (C : CallsL P w K mg base) (f : Addr) (cdv : Value) (A : Around) (outer : List Env) (s : Shared) (H : Hp) (vs : List V) (Q : VK) (E : XK) (hr : Room 7 (A.deeper (PyProof.Rows.envOfC "law" (defScope st_law) s.heap.objs.size f cdv))) (h : spLaw K vs H Q E) :
    ∃ t, PSs (cxOf CX0 P w K mg base ["_law_script", "_law_feed", "_law_k", "_law_text_here", "_law_name", "_law_due", "_law_read", "_law_told"] "law" (defScope st_law) f cdv A outer s H E).nox (defBody st_law) t ∧ t { nx := fun _ H' => Q .non H', rt := Q } (L2.start ["_law_script", "_law_feed", "_law_k", "_law_text_here", "_law_name", "_law_due", "_law_read", "_law_told"] vs) H := by
    obtain ⟨sc, ns, rfl, hS, hns, k⟩ := h
    refine ⟨_, (@pss_cons _ _ _ _ _ (@ps_set _ _ (1) _ _ _ _ sc_law.nd rfl (by first | exact Or.inl rfl | exact Or.inr rfl) (@pe_lst _ _ _ _ (@pa_cons _ _ _ _ _ (@pe_callTy _ _ _ _ _ _ _ _ _ (list_k K rfl) (by rfl) T.b_list (by decide +kernel) (@pa_cons _ _ _ _ _ (@pv _ 0 _ _ (by rfl) (by first | exact Or.inl rfl | exact Or.inr (Or.inl rfl) | exact Or.inr (Or.inr rfl)) (by decide) (by decide)) pa_nil (by rfl)) (by decide) (by decide) (by rfl) (by rfl)) (@pa_cons _ _ _ _ _ pe_int (@pa_cons _ _ _ _ _ pe_int pa_nil (by rfl)) (by rfl)) (by rfl))) (by rfl) (by first | exact .inl rfl | exact .inr rfl | assumption)) (@pss_cons _ _ _ _ _ (@ps_for _ _ _ _ _ _ _ _ PassesOwn.never rfl (@pi_range1 _ _ _ _ _ _ rfl T.b_range (@pa_cons _ _ _ _ _ (@pe_callB _ _ _ _ _ _ _ _ _ (call_max2 rfl) (by rfl) T.b_max (by decide +kernel) (@pa_cons _ _ _ _ _ pe_int (@pa_cons _ _ _ _ _ (@pe_callB _ _ _ _ _ _ _ _ _ (call_min2 rfl) (by rfl) T.b_min (by decide +kernel) (@pa_cons _ _ _ _ _ pe_int (@pa_cons _ _ _ _ _ (@pe_callB _ _ _ _ _ _ _ _ _ (len_k K rfl) (by rfl) T.b_len PySem.boot_len (@pa_cons _ _ _ _ _ (@pv _ 0 _ _ (by rfl) (by first | exact Or.inl rfl | exact Or.inr (Or.inl rfl) | exact Or.inr (Or.inr rfl)) (by decide) (by decide)) pa_nil (by rfl)) (by decide) (by decide) (by rfl) (by rfl)) pa_nil (by rfl)) (by rfl)) (by decide) (by decide) (by rfl) (by rfl)) pa_nil (by rfl)) (by rfl)) (by decide) (by decide) (by rfl) (by rfl)) pa_nil (by rfl)) (by rfl)) (@pg_name _ _ (2) _ sc_law.nd rfl (by first | exact Or.inl rfl | exact Or.inr rfl) (by first | exact .inl rfl | exact .inr rfl | assumption)) (@pss_cons _ _ _ _ _ (@ps_set _ _ (3) _ _ _ _ sc_law.nd rfl (by first | exact Or.inl rfl | exact Or.inr rfl) (@pe_c _ _ _ _ _ _ _ _ _ _ _ C.bent hr (@pa_cons _ _ _ _ _ (@pv _ 1 _ _ (by rfl) (by first | exact Or.inl rfl | exact Or.inr (Or.inl rfl) | exact Or.inr (Or.inr rfl)) (by decide) (by decide)) pa_nil (by rfl)) (by decide) (by rfl) (by decide) (by rfl) (by rfl)) (by rfl) (by first | exact .inl rfl | exact .inr rfl | assumption)) (@pss_cons _ _ _ _ _ (@ps_set _ _ (4) _ _ _ _ sc_law.nd rfl (by first | exact Or.inl rfl | exact Or.inr rfl) (@pe_c _ _ _ _ _ _ _ _ _ _ _ C.text hr (@pa_cons _ _ _ _ _ (@pv _ 1 _ _ (by rfl) (by first | exact Or.inl rfl | exact Or.inr (Or.inl rfl) | exact Or.inr (Or.inr rfl)) (by decide) (by decide)) (@pa_cons _ _ _ _ _ (@pe_c0 _ _ _ _ _ _ _ _ C.name_signs hr (by decide) (by rfl) (by decide)) (@pa_cons _ _ _ _ _ (@pe_op _ _ _ _ _ _ _ _ op_addU pe_int (@pe_c _ _ _ _ _ _ _ _ _ _ _ C.draw hr (@pa_cons _ _ _ _ _ (@pv _ 1 _ _ (by rfl) (by first | exact Or.inl rfl | exact Or.inr (Or.inl rfl) | exact Or.inr (Or.inr rfl)) (by decide) (by decide)) (@pa_cons _ _ _ _ _ pe_int pa_nil (by rfl)) (by rfl)) (by decide) (by rfl) (by decide) (by rfl) (by rfl))) pa_nil (by rfl)) (by rfl)) (by rfl)) (by decide) (by rfl) (by decide) (by rfl) (by rfl)) (by rfl) (by first | exact .inl rfl | exact .inr rfl | assumption)) (@pss_cons _ _ _ _ _ (@ps_set _ _ (5) _ _ _ _ sc_law.nd rfl (by first | exact Or.inl rfl | exact Or.inr rfl) (@pe_c _ _ _ _ _ _ _ _ _ _ _ C.first_wrong hr (@pa_cons _ _ _ _ _ (@pv _ 3 _ _ (by rfl) (by first | exact Or.inl rfl | exact Or.inr (Or.inl rfl) | exact Or.inr (Or.inr rfl)) (by decide) (by decide)) pa_nil (by rfl)) (by decide) (by rfl) (by decide) (by rfl) (by rfl)) (by rfl) (by first | exact .inl rfl | exact .inr rfl | assumption)) (@pss_cons _ _ _ _ _ (@ps_for _ _ _ _ _ _ _ _ PassesOwn.never rfl (@lst_k _ _ _ _ K rfl (@pe_lst _ _ _ _ (@pa_cons _ _ _ _ _ pe_bl (@pa_cons _ _ _ _ _ pe_bl pa_nil (by rfl)) (by rfl)))) (@pg_name _ _ (6) _ sc_law.nd rfl (by first | exact Or.inl rfl | exact Or.inr rfl) (by first | exact .inl rfl | exact .inr rfl | assumption)) (@pss_cons _ _ _ _ _ (@ps_set _ _ (7) _ _ _ _ sc_law.nd rfl (by first | exact Or.inl rfl | exact Or.inr rfl) (@pe_c _ _ _ _ _ _ _ _ _ _ _ C.refused_at hr (@pa_cons _ _ _ _ _ (@pv _ 3 _ _ (by rfl) (by first | exact Or.inl rfl | exact Or.inr (Or.inl rfl) | exact Or.inr (Or.inr rfl)) (by decide) (by decide)) (@pa_cons _ _ _ _ _ (@pv _ 4 _ _ (by rfl) (by first | exact Or.inl rfl | exact Or.inr (Or.inl rfl) | exact Or.inr (Or.inr rfl)) (by decide) (by decide)) (@pa_cons _ _ _ _ _ (@pv _ 6 _ _ (by rfl) (by first | exact Or.inl rfl | exact Or.inr (Or.inl rfl) | exact Or.inr (Or.inr rfl)) (by decide) (by decide)) pa_nil (by rfl)) (by rfl)) (by rfl)) (by decide) (by rfl) (by decide) (by rfl) (by rfl)) (by rfl) (by first | exact .inl rfl | exact .inr rfl | assumption)) (@pss_cons _ _ _ _ _ (@ps_if _ _ _ _ _ _ _ _ (@pt_j _ _ _ (@PW.pt _ _ _ (@pw_and _ _ _ _ _ _ _ (@pt_cmp _ _ _ _ _ _ (@pc_isN _ _ _ _ _ (@pv _ 5 _ _ (by rfl) (by first | exact Or.inl rfl | exact Or.inr (Or.inl rfl) | exact Or.inr (Or.inr rfl)) (by decide) (by decide))) (by first | exact nobehind _ (by decide) (by decide) | rfl)) (@pw_and1 _ _ _ _ (@pt_cmpR _ _ _ _ _ _ _ _ (ne_k K rfl hr) (@pv _ 7 _ _ (by rfl) (by first | exact Or.inl rfl | exact Or.inr (Or.inl rfl) | exact Or.inr (Or.inr rfl)) (by decide) (by decide)) (@pe_tup _ _ _ _ _ (@pa_cons _ _ _ _ _ pe_str pa_nil (by rfl))) (nomark _)))))) (@pss_one _ _ _ (@ps_ret _ _ _ _ pe_bl)) pss_nil) (@pss_one _ _ _ (@ps_if _ _ _ _ _ _ _ _ (@pt_j _ _ _ (@PW.pt _ _ _ (@pw_and _ _ _ _ _ _ _ (@pt_cmp _ _ _ _ _ _ (@pc_notN _ _ _ _ _ (@pv _ 5 _ _ (by rfl) (by first | exact Or.inl rfl | exact Or.inr (Or.inl rfl) | exact Or.inr (Or.inr rfl)) (by decide) (by decide))) (by first | exact nobehind _ (by decide) (by decide) | rfl)) (@pw_and1 _ _ _ _ (@pt_j _ _ _ (@PW.pt _ _ _ (@pw_or _ _ _ _ _ _ _ (@pt_cmpR _ _ _ _ _ _ _ _ (ne_k K rfl hr) (@pv _ 7 _ _ (by rfl) (by first | exact Or.inl rfl | exact Or.inr (Or.inl rfl) | exact Or.inr (Or.inr rfl)) (by decide) (by decide)) (@pe_tup _ _ _ _ _ (@pa_cons _ _ _ _ _ pe_str (@pa_cons _ _ _ _ _ (@pv _ 5 _ _ (by rfl) (by first | exact Or.inl rfl | exact Or.inr (Or.inl rfl) | exact Or.inr (Or.inr rfl)) (by decide) (by decide)) (@pa_cons _ _ _ _ _ pe_bl pa_nil (by rfl)) (by rfl)) (by rfl))) (nomark _)) (@pw_or1 _ _ _ _ (@tru_k _ _ _ K rfl (@pe_callB _ _ _ _ _ _ _ _ _ (isi_k K rfl) (by rfl) T.b_isinstance (by decide +kernel) (@pa_cons _ _ _ _ _ (@pe_ix _ _ _ _ _ _ _ (ix_k K rfl) (@pv _ 7 _ _ (by rfl) (by first | exact Or.inl rfl | exact Or.inr (Or.inl rfl) | exact Or.inr (Or.inr rfl)) (by decide) (by decide)) pe_int (fun _ _ => rfl)) (@pa_cons _ _ _ _ _ (@pe_bltn _ _ _ _ _ (by rfl) T.b_bool (by decide +kernel) (show RelV (.ty "bool") _ from rfl) (by decide) (by decide)) pa_nil (by rfl)) (by rfl)) (by decide) (by decide) (by rfl) (by rfl)) (fun _ => rfl)))))))))) (@pss_one _ _ _ (@ps_ret _ _ _ _ pe_bl)) pss_nil)))) (by intro _; rfl)) (@pss_one _ _ _ (@ps_if _ _ _ _ _ _ _ _ (@pt_cmpR _ _ _ _ _ _ _ _ (ne_k K rfl hr) (@pe_c _ _ _ _ _ _ _ _ _ _ _ C.refused_at hr (@pa_cons _ _ _ _ _ pe_str (@pa_cons _ _ _ _ _ (@pv _ 4 _ _ (by rfl) (by first | exact Or.inl rfl | exact Or.inr (Or.inl rfl) | exact Or.inr (Or.inr rfl)) (by decide) (by decide)) (@pa_cons _ _ _ _ _ (@pe_cmpR _ _ _ _ _ _ _ _ (eq_k K rfl hr) (@pe_op _ _ _ _ _ _ _ _ op_mod (@pv _ 2 _ _ (by rfl) (by first | exact Or.inl rfl | exact Or.inr (Or.inl rfl) | exact Or.inr (Or.inr rfl)) (by decide) (by decide)) pe_int) pe_int (nomark _)) pa_nil (by rfl)) (by rfl)) (by rfl)) (by decide) (by rfl) (by decide) (by rfl) (by rfl)) (@pe_tup _ _ _ _ _ (@pa_cons _ _ _ _ _ pe_str pa_nil (by rfl))) (nomark _)) (@pss_one _ _ _ (@ps_ret _ _ _ _ pe_bl)) pss_nil)))))) (by intro _; rfl)) (@pss_one _ _ _ (@ps_ret _ _ _ _ pe_bl)))), ?_⟩
    refine ⟨_, rfl, sc, _, rfl, .inl hS, fun b hb => ⟨by show 3 ≤ sizeLine; decide, fun a ha => ?_⟩⟩
    have nba : b ≠ a := ne_of_none upd_same ha
    have F : FeedAt (upd (upd H b (.lst (ns.map V.int))) a (.lst [.ref b, .int 0, .int 0])) a b := ⟨⟨0, 0, upd_same⟩, ns, by rw [upd_ne nba]; exact upd_same⟩
    have sS : Same H (upd (upd H b (.lst (ns.map V.int))) a (.lst [.ref b, .int 0, .int 0])) := ((Same.refl H).new hb).new ha
    generalize hH1 : upd (upd H b _) a _ = H1
    rw [hH1] at F sS
    refine ⟨_, rfl, _, _, rfl, .inl ⟨_, sS.seq hS, rfl⟩, ?_⟩
    refine ⟨_, _, rfl, _, _, rfl, _, rfl, ?_, ?_, for_range (fun i σ' H' => ∃ x2 x3 x4 x5 x6 x7, σ' = [some (.ref sc), some (.ref a), x2, x3, x4, x5, x6, x7] ∧ Fd a b H1 H') ⟨none, none, none, none, none, none, rfl, Fd.refl F⟩ ?_ ?_⟩
    · rw [List.length_map]; split <;> split <;> lia
    · rw [List.length_map]; split <;> split <;> lia
    · rintro i σ' H' hi ⟨x2, x3, x4, x5, x6, x7, rfl, fd⟩
      refine ⟨_, rfl, a, b, rfl, fd.feed, fun l H2 hl fd2 => ?_⟩
      have fdA := fd.trans fd2
      refine ⟨_, rfl, rfl, _, rfl, a, b, 12, rfl, fdA.feed, by decide, by decide, fun r H3 r0 r1 fd3 => .inl ⟨_, _, rfl, rfl, ?_⟩⟩
      have fdB := fdA.trans fd3
      refine ⟨a, b, NSs, _, rfl, fdB.feed, by rw [ns_len]; decide, by rw [ns_len]; decide, by lia, by lia, fun n H4 hn _ fd4 => ?_⟩
      have fdC := fdB.trans fd4
      have hn' : n.length ≤ 60 := by lia
      refine ⟨_, rfl, l, rfl, by lia, fun due H5 sm5 hdue => ?_⟩
      have fdD := fdC.same sm5
      refine ⟨by show 2 ≤ sizeLine; decide, fun L hL => ⟨L, rfl, ⟨_, SqL.of upd_same⟩, ?_⟩⟩
      have fdE : Fd a b H1 (upd H5 L (.lst [.bl false, .bl true])) := fdD.new hL
      refine for_list (xs := [V.bl false, V.bl true]) (fun i' σ' H' => ∃ x6 x7, σ' = [some (.ref sc), some (.ref a), some (.int (0 + (i : Int))), some (.str (mk l)), some (.str (mk n)), some due, x6, x7] ∧ Fd a b H1 H' ∧ H' L = some (.lst [.bl false, .bl true])) ⟨_, _, rfl, fdE, upd_same⟩ (fun i' σ' H' _ ⟨_, _, _, _, h⟩ => SqL.of h) ?_ ?_
      · rintro i' x σ' H' hx ⟨x6, x7, rfl, fd6, hL6⟩
        obtain ⟨rd, rfl⟩ : ∃ rd, x = V.bl rd := by
          match i', hx with
          | 0, hx => cases hx; exact ⟨_, rfl⟩
          | 1, hx => cases hx; exact ⟨_, rfl⟩
        refine ⟨_, rfl, _, rfl, _, rfl, l, n, rd, rfl, by lia, hn', fun T7 H7 sm7 htold => ?_⟩
        have fd7 := fd6.same sm7
        refine ⟨fun b H8 => b = false ∧ Same H7 H8, ?_, ?_⟩
        · rintro b H8 ⟨rfl, sm8⟩
          refine iteF ?_
          have fd8 := fd7.same sm8
          refine ⟨fun b H9 => b = false ∧ Same H8 H9, ?_, ?_⟩
          · rintro b H9 ⟨rfl, sm9⟩
            exact iteF ⟨_, _, rfl, fd8.same sm9, sm9 _ _ (sm8 _ _ (sm7 _ _ hL6))⟩
          · refine ⟨_, rfl, ?_⟩
            rcases hdue with ⟨rfl, hg⟩ | ⟨i, rfl, hw⟩
            · exact ⟨false, rfl, iteF ⟨rfl, Same.refl H8⟩⟩
            · refine ⟨true, rfl, iteT ?_⟩
              rcases htold with ⟨hg, _⟩ | ⟨j, hw2, hT⟩
              · exact (wrong_not_good hw hg).elim
              cases wrong_one hw hw2
              refine ⟨fun b H9 => b = false ∧ Same H8 H9, ?_, ?_⟩
              · rintro b H9 ⟨rfl, sm9⟩
                exact ⟨rfl, sm9⟩
              · refine ⟨_, rfl, _, rfl, by show 3 ≤ sizeLine; decide, fun T9 hT9 => ?_⟩
                have sm9 : Same H8 (upd H8 T9 (.tup [.str (Str.ofString "refused"), .int (i : Int), .bl false])) := (Same.refl H8).new hT9
                have hT' := sm9 _ _ (sm8 _ _ hT)
                refine .inr ⟨_, _, dt_Rf hT', dt_Rf upd_same, lay_Rf i, lay_Rf i, by rw [Nat.min_self]; exact dep_Rf i, _, rfl, ?_⟩
                rw [SeqAt.eqv_refl _ (lay_Rf i)]
                refine iteF ?_
                refine ⟨_, rfl, .inr (.inl ⟨T7, _, 1, _, rfl, rfl, SqT.of hT', rfl, _, _, _, false, rfl, TyOf.int _, rfl, _, rfl, ?_⟩)⟩
                exact ⟨rfl, sm9⟩
        · refine ⟨_, rfl, ?_⟩
          rcases hdue with ⟨rfl, hg⟩ | ⟨i, rfl, hw⟩
          · refine ⟨true, rfl, iteT ?_⟩
            rcases htold with ⟨_, hT⟩ | ⟨j, hw2, hT⟩
            rotate_left
            · exact (wrong_not_good hw2 hg).elim
            refine ⟨_, rfl, by show 1 ≤ sizeLine; decide, fun T9 hT9 => ?_⟩
            have sm9 : Same H7 (upd H7 T9 (.tup [.str (Str.ofString "let by")])) := (Same.refl H7).new hT9
            refine .inr ⟨_, _, dt_LB (sm9 _ _ hT), dt_LB upd_same, lay_LB, lay_LB, by rw [Nat.min_self]; exact dep_LB, _, rfl, ?_⟩
            rw [SeqAt.eqv_refl _ lay_LB]
            exact ⟨rfl, sm9⟩
          · exact ⟨false, rfl, iteF ⟨rfl, Same.refl H7⟩⟩
      · rintro σ' H' ⟨x6, x7, rfl, fd6, hL6⟩
        rw [mk_a]
        refine ⟨_, rfl, _, rfl, _, _, rfl, rfl, (by decide : (0 : Int) < 2), .inl ⟨rfl, ?_⟩⟩
        refine ⟨[97, 42], n, _, rfl, by decide, hn', fun T7 H7 sm7 htold => ?_⟩
        refine ⟨by show 1 ≤ sizeLine; decide, fun T9 hT9 => ?_⟩
        rcases htold with ⟨_, hT⟩ | ⟨j, hw2, hT⟩
        rotate_left
        · exact (wrong_not_good hw2 good_a).elim
        have sm9 : Same H7 (upd H7 T9 (.tup [.str (Str.ofString "let by")])) := (Same.refl H7).new hT9
        refine .inr ⟨_, _, dt_LB (sm9 _ _ hT), dt_LB upd_same, lay_LB, lay_LB, by rw [Nat.min_self]; exact dep_LB, _, rfl, ?_⟩
        rw [SeqAt.eqv_refl _ lay_LB]
        exact iteF ⟨_, _, _, _, _, _, rfl, (fd6.same sm7).same sm9⟩
    · rintro σ' H' ⟨x2, x3, x4, x5, x6, x7, rfl, fd⟩
      exact k _
end
end K
set_option maxHeartbeats 4000000
namespace K
open PySem L2 TX
theorem df_mk {K : PySem.W.Frag} {mg : Str → Option Value} {h : Heap} {x : Str} {st : Stmt} {ps : List Str} {f : Addr} {oc : Value} {od an : Option Addr} {osl : Array (Option Value)} {kV doc pm cdv ct : Value} (X : K.In h) (G : h.Ns mainGlobals mg)
    (a : PySem.W.nsIn K mainGlobals x = some (some (.ref f))) (l : K.lookup f = some ⟨oc, od, .func (PySem.W.fnOf x x (defArgs st) (defBody st) (defScope st) .none kV doc pm an cdv ct), osl⟩) (c : PySem.W.codeIn K cdv x = true) (k : PySem.W.keepIn K (.ref f) = true)
    (hb : ∀ (kV doc pm : Value) (an : Option Addr) (cdv ct : Value) (us : List Value), us.length = ps.length → bindArgs (PySem.W.fnOf x x (defArgs st) (defBody st) (defScope st) .none kV doc pm an cdv ct) ⟨us, []⟩ = pure (ps.zip us)) : Df K mg x st ps :=
  ⟨f, _, fun_mk l c k, PySem.W.mg_of X G a, (fun_mk (st := st) l c k).binds hb⟩
theorem len_1 {us : List Value} (h : us.length = 1) : ∃ x0, us = [x0] := by
  match us, h with
  | [x0], _ => exact ⟨x0, rfl⟩
theorem len_2 {us : List Value} (h : us.length = 2) : ∃ x0 x1, us = [x0, x1] := by
  match us, h with
  | [x0, x1], _ => exact ⟨x0, x1, rfl⟩
theorem len_3 {us : List Value} (h : us.length = 3) : ∃ x0 x1 x2, us = [x0, x1, x2] := by
  match us, h with
  | [x0, x1, x2], _ => exact ⟨x0, x1, x2, rfl⟩
theorem all_mk {lw : PySem.W.OpenLaw} {w : World} {K : PySem.W.Frag} {h : Heap} {mg : Str → Option Value} {fa : Addr} (X : K.In h) (G : h.Ns mainGlobals mg) (hfa : mg "law" = some (.ref fa))
    {f0 : Addr} {od0 an0 : Option Addr} {sl0 : Array (Option Value)} {oc0 kV0 dc0 pm0 cd0 ct0 : Value}
    {f1 : Addr} {od1 an1 : Option Addr} {sl1 : Array (Option Value)} {oc1 kV1 dc1 pm1 cd1 ct1 : Value}
    {f2 : Addr} {od2 an2 : Option Addr} {sl2 : Array (Option Value)} {oc2 kV2 dc2 pm2 cd2 ct2 : Value}
    {f3 : Addr} {od3 an3 : Option Addr} {sl3 : Array (Option Value)} {oc3 kV3 dc3 pm3 cd3 ct3 : Value}
    {f4 : Addr} {od4 an4 : Option Addr} {sl4 : Array (Option Value)} {oc4 kV4 dc4 pm4 cd4 ct4 : Value}
    {f5 : Addr} {od5 an5 : Option Addr} {sl5 : Array (Option Value)} {oc5 kV5 dc5 pm5 cd5 ct5 : Value}
    {f6 : Addr} {od6 an6 : Option Addr} {sl6 : Array (Option Value)} {oc6 kV6 dc6 pm6 cd6 ct6 : Value}
    {f7 : Addr} {od7 an7 : Option Addr} {sl7 : Array (Option Value)} {oc7 kV7 dc7 pm7 cd7 ct7 : Value}
    {f8 : Addr} {od8 an8 : Option Addr} {sl8 : Array (Option Value)} {oc8 kV8 dc8 pm8 cd8 ct8 : Value}
    {f9 : Addr} {od9 an9 : Option Addr} {sl9 : Array (Option Value)} {oc9 kV9 dc9 pm9 cd9 ct9 : Value}
    {f10 : Addr} {od10 an10 : Option Addr} {sl10 : Array (Option Value)} {oc10 kV10 dc10 pm10 cd10 ct10 : Value}
    {f11 : Addr} {od11 an11 : Option Addr} {sl11 : Array (Option Value)} {oc11 kV11 dc11 pm11 cd11 ct11 : Value}
    {f12 : Addr} {od12 an12 : Option Addr} {sl12 : Array (Option Value)} {oc12 kV12 dc12 pm12 cd12 ct12 : Value}
    {f13 : Addr} {od13 an13 : Option Addr} {sl13 : Array (Option Value)} {oc13 kV13 dc13 pm13 cd13 ct13 : Value}
    {f14 : Addr} {od14 an14 : Option Addr} {sl14 : Array (Option Value)} {oc14 kV14 dc14 pm14 cd14 ct14 : Value}
    {f15 : Addr} {od15 an15 : Option Addr} {sl15 : Array (Option Value)} {oc15 kV15 dc15 pm15 cd15 ct15 : Value}
    {f16 : Addr} {od16 an16 : Option Addr} {sl16 : Array (Option Value)} {oc16 kV16 dc16 pm16 cd16 ct16 : Value}
    {tk0 : Tok}
    {tk1 : Tok}
    {tk2 : Tok}
    {tk3 : Tok}
    {tk4 : Tok}
    {eHallError : Addr} {nmeHallError qneHallError : Str} {NeHallError : Addr} {bseHallError : List Value} {sneHallError : List Str} {subeHallError : List Value} {abeHallError : Bool} {coleHallError : Option Bool} {ddeHallError : Option Addr} {k0eHallError k1eHallError k2eHallError k3eHallError k5eHallError : Option Value} {oceHallError : Value} {odeHallError : Option Addr} {eseHallError : Array DictEntry} {epeHallError : Nat} {sleHallError : Array (Option Value)}
    {mcH : Value}
    {eNoPattern : Addr} {nmeNoPattern qneNoPattern : Str} {NeNoPattern : Addr} {bseNoPattern : List Value} {sneNoPattern : List Str} {subeNoPattern : List Value} {abeNoPattern : Bool} {coleNoPattern : Option Bool} {ddeNoPattern : Option Addr} {k0eNoPattern k1eNoPattern k2eNoPattern k3eNoPattern k5eNoPattern : Option Value} {oceNoPattern : Value} {odeNoPattern : Option Addr} {eseNoPattern : Array DictEntry} {epeNoPattern : Nat} {sleNoPattern : Array (Option Value)}
    {fiNoPattern : Addr} {odiNoPattern aniNoPattern : Option Addr} {sliNoPattern : Array (Option Value)} {ociNoPattern kViNoPattern dciNoPattern pmiNoPattern cdiNoPattern ctiNoPattern : Value}
    {eNoTemplate : Addr}
    {eNoHall : Addr}
    {eNoText : Addr}
    {eNoRule : Addr}
    (a0 : PySem.W.nsIn K mainGlobals "all_of" = some (some (.ref f0)))
    (l0 : K.lookup f0 = some ⟨oc0, od0, .func (PySem.W.fnOf "all_of" "all_of" (defArgs st_all_of) (defBody st_all_of) (defScope st_all_of) .none kV0 dc0 pm0 an0 cd0 ct0), sl0⟩) (c0 : PySem.W.codeIn K cd0 "all_of" = true) (k0 : PySem.W.keepIn K (.ref f0) = true)
    (a1 : PySem.W.nsIn K mainGlobals "ask_signs" = some (some (.ref f1)))
    (l1 : K.lookup f1 = some ⟨oc1, od1, .func (PySem.W.fnOf "ask_signs" "ask_signs" (defArgs st_ask_signs) (defBody st_ask_signs) (defScope st_ask_signs) .none kV1 dc1 pm1 an1 cd1 ct1), sl1⟩) (c1 : PySem.W.codeIn K cd1 "ask_signs" = true) (k1 : PySem.W.keepIn K (.ref f1) = true)
    (a2 : PySem.W.nsIn K mainGlobals "text_parts" = some (some (.ref f2)))
    (l2 : K.lookup f2 = some ⟨oc2, od2, .func (PySem.W.fnOf "text_parts" "text_parts" (defArgs st_text_parts) (defBody st_text_parts) (defScope st_text_parts) .none kV2 dc2 pm2 an2 cd2 ct2), sl2⟩) (c2 : PySem.W.codeIn K cd2 "text_parts" = true) (k2 : PySem.W.keepIn K (.ref f2) = true)
    (a3 : PySem.W.nsIn K mainGlobals "parts_of" = some (some (.ref f3)))
    (l3 : K.lookup f3 = some ⟨oc3, od3, .func (PySem.W.fnOf "parts_of" "parts_of" (defArgs st_parts_of) (defBody st_parts_of) (defScope st_parts_of) .none kV3 dc3 pm3 an3 cd3 ct3), sl3⟩) (c3 : PySem.W.codeIn K cd3 "parts_of" = true) (k3 : PySem.W.keepIn K (.ref f3) = true)
    (a4 : PySem.W.nsIn K mainGlobals "gap_takes" = some (some (.ref f4)))
    (l4 : K.lookup f4 = some ⟨oc4, od4, .func (PySem.W.fnOf "gap_takes" "gap_takes" (defArgs st_gap_takes) (defBody st_gap_takes) (defScope st_gap_takes) .none kV4 dc4 pm4 an4 cd4 ct4), sl4⟩) (c4 : PySem.W.codeIn K cd4 "gap_takes" = true) (k4 : PySem.W.keepIn K (.ref f4) = true)
    (a5 : PySem.W.nsIn K mainGlobals "takes" = some (some (.ref f5)))
    (l5 : K.lookup f5 = some ⟨oc5, od5, .func (PySem.W.fnOf "takes" "takes" (defArgs st_takes) (defBody st_takes) (defScope st_takes) .none kV5 dc5 pm5 an5 cd5 ct5), sl5⟩) (c5 : PySem.W.codeIn K cd5 "takes" = true) (k5 : PySem.W.keepIn K (.ref f5) = true)
    (a6 : PySem.W.nsIn K mainGlobals "furthest_ends" = some (some (.ref f6)))
    (l6 : K.lookup f6 = some ⟨oc6, od6, .func (PySem.W.fnOf "furthest_ends" "furthest_ends" (defArgs st_furthest_ends) (defBody st_furthest_ends) (defScope st_furthest_ends) .none kV6 dc6 pm6 an6 cd6 ct6), sl6⟩) (c6 : PySem.W.codeIn K cd6 "furthest_ends" = true) (k6 : PySem.W.keepIn K (.ref f6) = true)
    (a7 : PySem.W.nsIn K mainGlobals "ends_of_parts" = some (some (.ref f7)))
    (l7 : K.lookup f7 = some ⟨oc7, od7, .func (PySem.W.fnOf "ends_of_parts" "ends_of_parts" (defArgs st_ends_of_parts) (defBody st_ends_of_parts) (defScope st_ends_of_parts) .none kV7 dc7 pm7 an7 cd7 ct7), sl7⟩) (c7 : PySem.W.codeIn K cd7 "ends_of_parts" = true) (k7 : PySem.W.keepIn K (.ref f7) = true)
    (a8 : PySem.W.nsIn K mainGlobals "reading" = some (some (.ref f8)))
    (l8 : K.lookup f8 = some ⟨oc8, od8, .func (PySem.W.fnOf "reading" "reading" (defArgs st_reading) (defBody st_reading) (defScope st_reading) .none kV8 dc8 pm8 an8 cd8 ct8), sl8⟩) (c8 : PySem.W.codeIn K cd8 "reading" = true) (k8 : PySem.W.keepIn K (.ref f8) = true)
    (a9 : PySem.W.nsIn K mainGlobals "_law_draw" = some (some (.ref f9)))
    (l9 : K.lookup f9 = some ⟨oc9, od9, .func (PySem.W.fnOf "_law_draw" "_law_draw" (defArgs st_draw) (defBody st_draw) (defScope st_draw) .none kV9 dc9 pm9 an9 cd9 ct9), sl9⟩) (c9 : PySem.W.codeIn K cd9 "_law_draw" = true) (k9 : PySem.W.keepIn K (.ref f9) = true)
    (a10 : PySem.W.nsIn K mainGlobals "_law_name_signs" = some (some (.ref f10)))
    (l10 : K.lookup f10 = some ⟨oc10, od10, .func (PySem.W.fnOf "_law_name_signs" "_law_name_signs" (defArgs st_name_signs) (defBody st_name_signs) (defScope st_name_signs) .none kV10 dc10 pm10 an10 cd10 ct10), sl10⟩) (c10 : PySem.W.codeIn K cd10 "_law_name_signs" = true) (k10 : PySem.W.keepIn K (.ref f10) = true)
    (a11 : PySem.W.nsIn K mainGlobals "_law_other_signs" = some (some (.ref f11)))
    (l11 : K.lookup f11 = some ⟨oc11, od11, .func (PySem.W.fnOf "_law_other_signs" "_law_other_signs" (defArgs st_other_signs) (defBody st_other_signs) (defScope st_other_signs) .none kV11 dc11 pm11 an11 cd11 ct11), sl11⟩) (c11 : PySem.W.codeIn K cd11 "_law_other_signs" = true) (k11 : PySem.W.keepIn K (.ref f11) = true)
    (a12 : PySem.W.nsIn K mainGlobals "_law_text" = some (some (.ref f12)))
    (l12 : K.lookup f12 = some ⟨oc12, od12, .func (PySem.W.fnOf "_law_text" "_law_text" (defArgs st_text) (defBody st_text) (defScope st_text) .none kV12 dc12 pm12 an12 cd12 ct12), sl12⟩) (c12 : PySem.W.codeIn K cd12 "_law_text" = true) (k12 : PySem.W.keepIn K (.ref f12) = true)
    (a13 : PySem.W.nsIn K mainGlobals "_law_bent" = some (some (.ref f13)))
    (l13 : K.lookup f13 = some ⟨oc13, od13, .func (PySem.W.fnOf "_law_bent" "_law_bent" (defArgs st_bent) (defBody st_bent) (defScope st_bent) .none kV13 dc13 pm13 an13 cd13 ct13), sl13⟩) (c13 : PySem.W.codeIn K cd13 "_law_bent" = true) (k13 : PySem.W.keepIn K (.ref f13) = true)
    (a14 : PySem.W.nsIn K mainGlobals "_law_first_wrong" = some (some (.ref f14)))
    (l14 : K.lookup f14 = some ⟨oc14, od14, .func (PySem.W.fnOf "_law_first_wrong" "_law_first_wrong" (defArgs st_first_wrong) (defBody st_first_wrong) (defScope st_first_wrong) .none kV14 dc14 pm14 an14 cd14 ct14), sl14⟩) (c14 : PySem.W.codeIn K cd14 "_law_first_wrong" = true) (k14 : PySem.W.keepIn K (.ref f14) = true)
    (a15 : PySem.W.nsIn K mainGlobals "_law_refused_at" = some (some (.ref f15)))
    (l15 : K.lookup f15 = some ⟨oc15, od15, .func (PySem.W.fnOf "_law_refused_at" "_law_refused_at" (defArgs st_refused_at) (defBody st_refused_at) (defScope st_refused_at) .none kV15 dc15 pm15 an15 cd15 ct15), sl15⟩) (c15 : PySem.W.codeIn K cd15 "_law_refused_at" = true) (k15 : PySem.W.keepIn K (.ref f15) = true)
    (a16 : PySem.W.nsIn K mainGlobals "law" = some (some (.ref f16)))
    (l16 : K.lookup f16 = some ⟨oc16, od16, .func (PySem.W.fnOf "law" "law" (defArgs st_law) (defBody st_law) (defScope st_law) .none kV16 dc16 pm16 an16 cd16 ct16), sl16⟩) (c16 : PySem.W.codeIn K cd16 "law" = true) (k16 : PySem.W.keepIn K (.ref f16) = true)
    (z0 : PySem.W.nsIn K mainGlobals "ValueError" = some none)
    (z1 : PySem.W.nsIn K mainGlobals "all" = some none)
    (z2 : PySem.W.nsIn K mainGlobals "bool" = some none)
    (z3 : PySem.W.nsIn K mainGlobals "enumerate" = some none)
    (z4 : PySem.W.nsIn K mainGlobals "int" = some none)
    (z5 : PySem.W.nsIn K mainGlobals "isinstance" = some none)
    (z6 : PySem.W.nsIn K mainGlobals "len" = some none)
    (z7 : PySem.W.nsIn K mainGlobals "list" = some none)
    (z8 : PySem.W.nsIn K mainGlobals "max" = some none)
    (z9 : PySem.W.nsIn K mainGlobals "min" = some none)
    (z10 : PySem.W.nsIn K mainGlobals "range" = some none)
    (z11 : PySem.W.nsIn K mainGlobals "reversed" = some none)
    (z12 : PySem.W.nsIn K mainGlobals "zip" = some none)
    (gv0 : PySem.W.nsIn K mainGlobals "NAME_SIGNS" = some (some (.str (Str.ofString "abcdefghijklmnopqrstuvwxyzABCDEFGHIJKLMNOPQRSTUVWXYZ0123456789-_.") tk0)))
    (gv1 : PySem.W.nsIn K mainGlobals "GAP_SIGNS" = some (some (.str (Str.ofString "?*#@") tk1)))
    (gv2 : PySem.W.nsIn K mainGlobals "MOST_GAPS" = some (some (.int 9 tk2)))
    (gv3 : PySem.W.nsIn K mainGlobals "FIGURES" = some (some (.str (Str.ofString "0123456789") tk3)))
    (gv4 : PySem.W.nsIn K mainGlobals "LETTERS" = some (some (.str (Str.ofString "abcdefghijklmnopqrstuvwxyzABCDEFGHIJKLMNOPQRSTUVWXYZ") tk4)))
    (geHallError : PySem.W.nsIn K mainGlobals "HallError" = some (some (.ref eHallError)))
    (leHallError : K.lookup eHallError = some (excClassObj nmeHallError qneHallError eHallError NeHallError bseHallError bmV true sneHallError subeHallError abeHallError coleHallError ddeHallError k0eHallError k1eHallError k2eHallError k3eHallError k5eHallError "ValueError.__new__")) (neHallError : K.lookup NeHallError = some ⟨oceHallError, odeHallError, .dict eseHallError epeHallError, sleHallError⟩) (seHallError : eseHallError.toList.all strKey = true) (ieHallError : PySem.W.nsIn K NeHallError "__init__" = some none)
    (spH : PySem.W.specialIn K (.ref eHallError) "__getattribute__" = some (some (.builtin "type.__getattribute__"))) (tmH : PySem.W.typeIn K (.ref eHallError) = some mcH) (rdH : PySem.W.readsIn K eHallError mcH = true) (fcH : PySem.W.findCls K (.ref eHallError) mcH "__init__" = some (.val (.builtin "ValueError.__init__")))
    (hnO : PySem.W.specialIn K (.builtin "object.__class__") "__get__" = some (some (.builtin "getset_descriptor.__get__"))) (htkO : PySem.W.takesIn K (.builtin "object.__class__") = some true)
    (geNoPattern : PySem.W.nsIn K mainGlobals "NoPattern" = some (some (.ref eNoPattern)))
    (leNoPattern : K.lookup eNoPattern = some (excClassObj nmeNoPattern qneNoPattern eNoPattern NeNoPattern bseNoPattern (.ref eHallError :: bmV) true sneNoPattern subeNoPattern abeNoPattern coleNoPattern ddeNoPattern k0eNoPattern k1eNoPattern k2eNoPattern k3eNoPattern k5eNoPattern "ValueError.__new__")) (neNoPattern : K.lookup NeNoPattern = some ⟨oceNoPattern, odeNoPattern, .dict eseNoPattern epeNoPattern, sleNoPattern⟩) (seNoPattern : eseNoPattern.toList.all strKey = true) (ieNoPattern : PySem.W.nsIn K NeNoPattern "__init__" = some (some (.ref fiNoPattern)))
    (liNoPattern : K.lookup fiNoPattern = some ⟨ociNoPattern, odiNoPattern, .func (PySem.W.fnOf "__init__" "NoPattern.__init__" (defArgs st_NoPattern___init__) (defBody st_NoPattern___init__) (defScope st_NoPattern___init__) .none kViNoPattern dciNoPattern pmiNoPattern aniNoPattern cdiNoPattern ctiNoPattern), sliNoPattern⟩) (ciNoPattern : PySem.W.codeIn K cdiNoPattern "NoPattern.__init__" = true) (kiNoPattern : PySem.W.keepIn K (.ref fiNoPattern) = true) (tiNoPattern : ociNoPattern = .type "function")
    (kpeNoPattern : PySem.W.keepIn K (.ref eNoPattern) = true)
    (saeNoPattern : PySem.W.findIn K (.ref eNoPattern) "__setattr__" = some (some (.builtin "object.__setattr__"))) (gaeNoPattern : PySem.W.findIn K (.ref eNoPattern) "__getattribute__" = some (some (.builtin "BaseException.__getattribute__"))) (gheNoPattern : PySem.W.findIn K (.ref eNoPattern) "__getattr__" = some none) (haeNoPattern : PySem.W.findIn K (.ref eNoPattern) "__class__" = some (some (.builtin "object.__class__")))
    (tkeNoPattern_at : PySem.W.findIn K (.ref eNoPattern) "at" = some none)
    (geNoTemplate : PySem.W.nsIn K mainGlobals "NoTemplate" = some (some (.ref eNoTemplate)))
    (geNoHall : PySem.W.nsIn K mainGlobals "NoHall" = some (some (.ref eNoHall)))
    (geNoText : PySem.W.nsIn K mainGlobals "NoText" = some (some (.ref eNoText)))
    (geNoRule : PySem.W.nsIn K mainGlobals "NoRule" = some (some (.ref eNoRule)))
    (KO_NoPattern_NoPattern : PySem.W.kitOne K (.ref eNoPattern) (.ref eNoPattern) = some true)
    (KO_NoPattern_ValueError : PySem.W.kitOne K (.ref eNoPattern) (.type "ValueError") = some true)
    (KA_NoPattern__NoTemplate__NoRule__NoHall__NoText : PySem.W.kitAny K (.ref eNoPattern) [.ref eNoTemplate, .ref eNoRule, .ref eNoHall, .ref eNoText] = some false) :
    ∃ fd : FuncData, (∀ (s : Shared) (v : Value), BindsTo s fd ⟨[v], []⟩ [("_law_script", v)]) ∧ ∀ base : Heap, K.In base → base.Ns mainGlobals mg → FnOk lw.prog w K mg base CX0 8 fa fd ["_law_script"] (spLaw K) := by
  have e := hfa.symm.trans (PySem.W.mg_of X G a16)
  cases e
  have D_all_of : Df K mg "all_of" st_all_of ["text", "signs"] := df_mk X G a0 l0 c0 k0 fun _ _ _ _ _ _ us hl => by obtain ⟨_, _, rfl⟩ := len_2 hl; rfl
  have D_ask_signs : Df K mg "ask_signs" st_ask_signs ["pattern"] := df_mk X G a1 l1 c1 k1 fun _ _ _ _ _ _ us hl => by obtain ⟨_, rfl⟩ := len_1 hl; rfl
  have D_text_parts : Df K mg "text_parts" st_text_parts ["text"] := df_mk X G a2 l2 c2 k2 fun _ _ _ _ _ _ us hl => by obtain ⟨_, rfl⟩ := len_1 hl; rfl
  have D_parts_of : Df K mg "parts_of" st_parts_of ["pattern"] := df_mk X G a3 l3 c3 k3 fun _ _ _ _ _ _ us hl => by obtain ⟨_, rfl⟩ := len_1 hl; rfl
  have D_gap_takes : Df K mg "gap_takes" st_gap_takes ["gap_sign", "text"] := df_mk X G a4 l4 c4 k4 fun _ _ _ _ _ _ us hl => by obtain ⟨_, _, rfl⟩ := len_2 hl; rfl
  have D_takes : Df K mg "takes" st_takes ["part", "text"] := df_mk X G a5 l5 c5 k5 fun _ _ _ _ _ _ us hl => by obtain ⟨_, _, rfl⟩ := len_2 hl; rfl
  have D_furthest_ends : Df K mg "furthest_ends" st_furthest_ends ["part", "name", "later"] := df_mk X G a6 l6 c6 k6 fun _ _ _ _ _ _ us hl => by obtain ⟨_, _, _, rfl⟩ := len_3 hl; rfl
  have D_ends_of_parts : Df K mg "ends_of_parts" st_ends_of_parts ["parts", "name"] := df_mk X G a7 l7 c7 k7 fun _ _ _ _ _ _ us hl => by obtain ⟨_, _, rfl⟩ := len_2 hl; rfl
  have D_reading : Df K mg "reading" st_reading ["pattern", "name"] := df_mk X G a8 l8 c8 k8 fun _ _ _ _ _ _ us hl => by obtain ⟨_, _, rfl⟩ := len_2 hl; rfl
  have D_draw : Df K mg "_law_draw" st_draw ["_law_feed", "_law_many"] := df_mk X G a9 l9 c9 k9 fun _ _ _ _ _ _ us hl => by obtain ⟨_, _, rfl⟩ := len_2 hl; rfl
  have D_name_signs : Df K mg "_law_name_signs" st_name_signs [] := df_mk X G a10 l10 c10 k10 fun _ _ _ _ _ _ us hl => by cases us with | nil => rfl | cons _ _ => cases hl
  have D_other_signs : Df K mg "_law_other_signs" st_other_signs [] := df_mk X G a11 l11 c11 k11 fun _ _ _ _ _ _ us hl => by cases us with | nil => rfl | cons _ _ => cases hl
  have D_text : Df K mg "_law_text" st_text ["_law_feed", "_law_signs", "_law_size"] := df_mk X G a12 l12 c12 k12 fun _ _ _ _ _ _ us hl => by obtain ⟨_, _, _, rfl⟩ := len_3 hl; rfl
  have D_bent : Df K mg "_law_bent" st_bent ["_law_feed"] := df_mk X G a13 l13 c13 k13 fun _ _ _ _ _ _ us hl => by obtain ⟨_, rfl⟩ := len_1 hl; rfl
  have D_first_wrong : Df K mg "_law_first_wrong" st_first_wrong ["_law_text_here"] := df_mk X G a14 l14 c14 k14 fun _ _ _ _ _ _ us hl => by obtain ⟨_, rfl⟩ := len_1 hl; rfl
  have D_refused_at : Df K mg "_law_refused_at" st_refused_at ["_law_text_here", "_law_name", "_law_read"] := df_mk X G a15 l15 c15 k15 fun _ _ _ _ _ _ us hl => by obtain ⟨_, _, _, rfl⟩ := len_3 hl; rfl
  have gl_HallError : mg "HallError" = some (.ref eHallError) := PySem.W.mg_of X G geHallError
  have EB_HallError : EBase K eHallError := ⟨nmeHallError, qneHallError, NeHallError, bseHallError, sneHallError, subeHallError, abeHallError, coleHallError, ddeHallError, k0eHallError, k1eHallError, k2eHallError, k3eHallError, k5eHallError, leHallError, isNsK_of neHallError seHallError, ieHallError⟩
  have EN_HallError : EIni K eHallError mcH := ⟨spH, rdH, fcH⟩
  have gl_NoPattern : mg "NoPattern" = some (.ref eNoPattern) := PySem.W.mg_of X G geNoPattern
  have EL_NoPattern : ELaw K eNoPattern eHallError fiNoPattern := ⟨⟨nmeNoPattern, qneNoPattern, NeNoPattern, bseNoPattern, sneNoPattern, subeNoPattern, abeNoPattern, coleNoPattern, ddeNoPattern, k0eNoPattern, k1eNoPattern, k2eNoPattern, k3eNoPattern, k5eNoPattern, leNoPattern, isNsK_of neNoPattern seNoPattern, ieNoPattern⟩, ⟨_, liNoPattern, tiNoPattern⟩, kpeNoPattern⟩
  have EF_NoPattern : Ef K mg "NoPattern" eNoPattern eHallError "NoPattern.__init__" st_NoPattern___init__ ["self", "at"] := ⟨⟨fiNoPattern, _, mcH, fun_mk liNoPattern ciNoPattern kiNoPattern, EL_NoPattern, EB_HallError, EN_HallError, (fun_mk (st := st_NoPattern___init__) liNoPattern ciNoPattern kiNoPattern).binds fun _ _ _ _ _ _ us hl => by obtain ⟨_, _, rfl⟩ := len_2 hl; rfl⟩, gl_NoPattern⟩
  have ES_NoPattern_at : ESet K eNoPattern "at" := EL_NoPattern.set saeNoPattern tkeNoPattern_at
  have EG_NoPattern_at : EGet K eNoPattern "at" := EL_NoPattern.get gaeNoPattern gheNoPattern tkeNoPattern_at
  have EI_NoPattern : EIsi K eNoPattern := ⟨EL_NoPattern.clsIn, gaeNoPattern, gheNoPattern, haeNoPattern, hnO, htkO⟩
  have gl_NoTemplate : mg "NoTemplate" = some (.ref eNoTemplate) := PySem.W.mg_of X G geNoTemplate
  have gl_NoHall : mg "NoHall" = some (.ref eNoHall) := PySem.W.mg_of X G geNoHall
  have gl_NoText : mg "NoText" = some (.ref eNoText) := PySem.W.mg_of X G geNoText
  have gl_NoRule : mg "NoRule" = some (.ref eNoRule) := PySem.W.mg_of X G geNoRule
  have T : Txt mg := ⟨PySem.W.mg_none_of X G z0, PySem.W.mg_none_of X G z1, PySem.W.mg_none_of X G z2, PySem.W.mg_none_of X G z3, PySem.W.mg_none_of X G z4, PySem.W.mg_none_of X G z5, PySem.W.mg_none_of X G z6, PySem.W.mg_none_of X G z7, PySem.W.mg_none_of X G z8, PySem.W.mg_none_of X G z9, PySem.W.mg_none_of X G z10, PySem.W.mg_none_of X G z11, PySem.W.mg_none_of X G z12, ⟨_, PySem.W.mg_of X G gv0⟩, ⟨_, PySem.W.mg_of X G gv1⟩, ⟨_, PySem.W.mg_of X G gv2⟩, ⟨_, PySem.W.mg_of X G gv3⟩, ⟨_, PySem.W.mg_of X G gv4⟩⟩
  have FL := fun_mk (st := st_law) l16 c16 k16
  refine ⟨PySem.W.fnOf "law" "law" (defArgs st_law) (defBody st_law) (defScope st_law) .none kV16 dc16 pm16 an16 cd16 ct16, fun s v => .of_eq rfl, fun base _ _ => ?_⟩
  have c1 := ok_draw (P := lw.prog) (w := w) (base := base) D_draw T
  have c2 := ok_text (P := lw.prog) (w := w) (base := base) D_text T c1
  have cE := ok_NoPattern_init (P := lw.prog) (w := w) (base := base) EF_NoPattern gl_HallError ES_NoPattern_at
  have cA := ok_ask_signs (P := lw.prog) (w := w) (base := base) D_ask_signs T ⟨cE⟩
  have cPO := ok_parts_of (P := lw.prog) (w := w) (base := base) D_parts_of T ⟨cE, cA, ok_text_parts D_text_parts T⟩
  have CA : CallsA lw.prog w K mg base := ⟨ok_all_of D_all_of T⟩
  have CB : CallsB lw.prog w K mg base := ⟨ok_gap_takes D_gap_takes T CA⟩
  have CC : CallsC lw.prog w K mg base := ⟨ok_takes D_takes T CB⟩
  have CD : CallsD lw.prog w K mg base := ⟨ok_furthest_ends D_furthest_ends T CC⟩
  have CE : CallsE lw.prog w K mg base eNoPattern := ⟨cPO, ok_ends_of_parts D_ends_of_parts T CD⟩
  have cNS := ok_name_signs (P := lw.prog) (w := w) (base := base) D_name_signs
  have CF : CallsF lw.prog w K mg base eNoPattern eHallError eNoTemplate eNoRule eNoHall eNoText := ⟨cPO, ok_reading D_reading T CE, gl_HallError, EB_HallError.cls, gl_NoPattern, gl_NoTemplate, gl_NoRule, gl_NoHall, gl_NoText, EL_NoPattern.sub, EI_NoPattern, EG_NoPattern_at, KO_NoPattern_NoPattern, KO_NoPattern_ValueError, KA_NoPattern__NoTemplate__NoRule__NoHall__NoText⟩
  have CL : CallsL lw.prog w K mg base := ⟨c1, c2, cNS, ok_bent D_bent T ⟨c1, cNS, D_other_signs.kon sc_other_signs rfl⟩, ok_first_wrong D_first_wrong T ⟨cNS⟩, ok_refused_at D_refused_at T CF⟩
  exact FL.ok sc_law (fun vs H Q E h => by obtain ⟨a, ns, rfl, _⟩ := h; rfl) (fun cdv A outer s H vs Q E hr h => body_law T CL _ cdv A outer s H vs Q E hr h)
theorem walk {l : PySem.W.OpenLaw} {q : Program} {loose : List Str} {XP : (Str → Option Value) → Heap → Prop} {YP : World → Heap → Prop} {d : DefRec} {K : Params → PySem.W.Frag} (hn : l.most = some 63) (hdf : d.params.defaults = [])
    (hY : ∀ (w : World) (h : Heap), YP w h → (K w.params).In h)
    (F : ∀ (w : World) (mg : Str → Option Value) (fa : Addr) (h : Heap), (K w.params).In h → h.Ns mainGlobals mg → mg d.name = some (.ref fa) →
      ∃ fd : FuncData, (∀ (s : Shared) (u : Value), BindsTo s fd ⟨[u], []⟩ [("_law_script", u)]) ∧ ∀ base : Heap, (K w.params).In base → base.Ns mainGlobals mg → FnOk l.prog w (K w.params) mg base CX0 8 fa fd ["_law_script"] (spLaw (K w.params))) :
    PySem.W.WalkO q loose XP YP l.row.toRowW d [] (fun f vs => PySem.call f vs) :=
  L2.walk_of (n := 63) (k := 8) (x := "_law_script") (CX := fun _ => CX0) (sp := fun w => spLaw (K w.params)) hn (by decide) hdf ⟨rfl, by decide, by decide⟩ hY F (fun _ _ a ns hl _ hS => ⟨a, ns, rfl, hS, hl, fun _ => rfl⟩) fun _ _ _ _ _ z => z
end K
namespace K
open PySem PySem.W PyProof.Rows
abbrev loose : List Str := [Str.ofString "HallError", Str.ofString "NoPattern", Str.ofString "NoTemplate", Str.ofString "NoHall", Str.ofString "NoText", Str.ofString "NoRule", Str.ofString "FIGURES", Str.ofString "LETTERS", Str.ofString "NAME_SIGNS", Str.ofString "all_of", Str.ofString "GAP_SIGNS", Str.ofString "MOST_GAPS", Str.ofString "ask_signs", Str.ofString "text_parts", Str.ofString "parts_of", Str.ofString "gap_takes", Str.ofString "takes", Str.ofString "furthest_ends", Str.ofString "ends_of_parts", Str.ofString "reading", Str.ofString "_law_draw", Str.ofString "_law_name_signs", Str.ofString "_law_other_signs", Str.ofString "_law_text", Str.ofString "_law_bent", Str.ofString "_law_first_wrong", Str.ofString "_law_refused_at"]
abbrev vw : Program := view PySem.Challenge.pw_renamehall_k04_no_pattern [32]
abbrev xt (s : Shared) : Bool := xlAt vw [] s && recOk [] s
end K
open PySem PySem.W PyProof.Rows
local macro_rules | `(tactic| o_head $H) => `(tactic| (
  refine holds_open (q := K.vw) (loose := K.loose) (Xt := K.xt) (XP := XL K.vw []) (Yf := Hook.obs $H) (Ya := Hook.val $H) (YP := Hook.says $H) (N := 60000) ?hl (Hook.of $H) (Hook.keeps $H) (fun s e => xl_of s (Bool.and_eq_true_iff.mp e).1) XL.keeps
    (by rfl) (by rfl) (by rfl) (fun s e => recFacts_of (Bool.and_eq_true_iff.mp e).2) (by rfl) (by first | assumption | decide +kernel) (by decide +kernel) ⟨rfl, rfl, rfl, rfl, rfl, by decide +kernel⟩ ?hw ?hc))
set_option maxRecDepth 100000 in
set_option maxHeartbeats 0 in
theorem PySem.Challenge.cw_renamehall_k04_no_pattern_holds : PySem.Challenge.rw_renamehall_k04_no_pattern.Holds := by
  w_on; o_law; k_head; (case hw => w_witness2)
  (case hl =>
    intro w
    change (openEnds treeTable PySem.Challenge.pw_renamehall_k04_no_pattern w 60000).map (fun s => (openSeen K.vw K.loose (importedModules PySem.Challenge.pw_renamehall_k04_no_pattern.main.body) K.xt true s, _)) = some (openGood K.vw K.loose, _)
    unfold openEnds fencedOpening topFrom K.xt K.vw
    rw [PySem.W.Fast.te10274390034422433532, PySem.W.Fast.te14289696077712309145, PySem.W.Fast.te4187177175401517315, PySem.W.Fast.te1435165496053646825, PySem.W.Fast.te14364793385576792824, PySem.W.Fast.te14082659384304107361, PySem.W.Fast.te5923862056798008813, PySem.W.Fast.te7866614668974315349]
    kernel_rfl)
  k_fill
  refine K.walk (l := PySem.Challenge.rw_renamehall_k04_no_pattern) rfl rfl (fun w h Y => PySem.W.kIn_of Y) ?F
  case F =>
    intro w mg fa h KX G hmg
    refine' K.all_mk KX G hmg ?da0 ?dl0 ?dc0 ?dk0 ?da1 ?dl1 ?dc1 ?dk1 ?da2 ?dl2 ?dc2 ?dk2 ?da3 ?dl3 ?dc3 ?dk3 ?da4 ?dl4 ?dc4 ?dk4 ?da5 ?dl5 ?dc5 ?dk5 ?da6 ?dl6 ?dc6 ?dk6 ?da7 ?dl7 ?dc7 ?dk7 ?da8 ?dl8 ?dc8 ?dk8 ?da9 ?dl9 ?dc9 ?dk9 ?da10 ?dl10 ?dc10 ?dk10 ?da11 ?dl11 ?dc11 ?dk11 ?da12 ?dl12 ?dc12 ?dk12 ?da13 ?dl13 ?dc13 ?dk13 ?da14 ?dl14 ?dc14 ?dk14 ?da15 ?dl15 ?dc15 ?dk15 ?da16 ?dl16 ?dc16 ?dk16 ?bz0 ?bz1 ?bz2 ?bz3 ?bz4 ?bz5 ?bz6 ?bz7 ?bz8 ?bz9 ?bz10 ?bz11 ?bz12 ?gv0 ?gv1 ?gv2 ?gv3 ?gv4 ?geHallError ?leHallError ?neHallError ?seHallError ?ieHallError ?spH ?tmH ?rdH ?fcH ?hnO ?htkO ?geNoPattern ?leNoPattern ?neNoPattern ?seNoPattern ?ieNoPattern ?hliNoPattern ?hciNoPattern ?hkiNoPattern ?htiNoPattern ?kpeNoPattern ?saeNoPattern ?gaeNoPattern ?gheNoPattern ?haeNoPattern ?tkeNoPattern_at ?geNoTemplate ?geNoHall ?geNoText ?geNoRule ?KO_NoPattern_NoPattern ?KO_NoPattern_ValueError ?KA_NoPattern__NoTemplate__NoRule__NoHall__NoText
    (case da0 => k_is)
    (case dl0 => k_is)
    (case dc0 => k_is)
    (case dk0 => k_is)
    (case da1 => k_is)
    (case dl1 => k_is)
    (case dc1 => k_is)
    (case dk1 => k_is)
    (case da2 => k_is)
    (case dl2 => k_is)
    (case dc2 => k_is)
    (case dk2 => k_is)
    (case da3 => k_is)
    (case dl3 => k_is)
    (case dc3 => k_is)
    (case dk3 => k_is)
    (case da4 => k_is)
    (case dl4 => k_is)
    (case dc4 => k_is)
    (case dk4 => k_is)
    (case da5 => k_is)
    (case dl5 => k_is)
    (case dc5 => k_is)
    (case dk5 => k_is)
    (case da6 => k_is)
    (case dl6 => k_is)
    (case dc6 => k_is)
    (case dk6 => k_is)
    (case da7 => k_is)
    (case dl7 => k_is)
    (case dc7 => k_is)
    (case dk7 => k_is)
    (case da8 => k_is)
    (case dl8 => k_is)
    (case dc8 => k_is)
    (case dk8 => k_is)
    (case da9 => k_is)
    (case dl9 => k_is)
    (case dc9 => k_is)
    (case dk9 => k_is)
    (case da10 => k_is)
    (case dl10 => k_is)
    (case dc10 => k_is)
    (case dk10 => k_is)
    (case da11 => k_is)
    (case dl11 => k_is)
    (case dc11 => k_is)
    (case dk11 => k_is)
    (case da12 => k_is)
    (case dl12 => k_is)
    (case dc12 => k_is)
    (case dk12 => k_is)
    (case da13 => k_is)
    (case dl13 => k_is)
    (case dc13 => k_is)
    (case dk13 => k_is)
    (case da14 => k_is)
    (case dl14 => k_is)
    (case dc14 => k_is)
    (case dk14 => k_is)
    (case da15 => k_is)
    (case dl15 => k_is)
    (case dc15 => k_is)
    (case dk15 => k_is)
    (case da16 => k_is)
    (case dl16 => k_is)
    (case dc16 => k_is)
    (case dk16 => k_is)
    (case bz0 => k_is)
    (case bz1 => k_is)
    (case bz2 => k_is)
    (case bz3 => k_is)
    (case bz4 => k_is)
    (case bz5 => k_is)
    (case bz6 => k_is)
    (case bz7 => k_is)
    (case bz8 => k_is)
    (case bz9 => k_is)
    (case bz10 => k_is)
    (case bz11 => k_is)
    (case bz12 => k_is)
    (case gv0 => k_is)
    (case gv1 => k_is)
    (case gv2 => k_is)
    (case gv3 => k_is)
    (case gv4 => k_is)
    (case geHallError => k_is)
    (case leHallError => k_is)
    (case neHallError => k_is)
    (case seHallError => first | rfl | decide +kernel)
    (case ieHallError => k_is)
    (case spH => k_is)
    (case tmH => k_is)
    (case rdH => k_is)
    (case fcH => k_is)
    (case hnO => k_is)
    (case htkO => k_is)
    (case geNoPattern => k_is)
    (case leNoPattern => k_is)
    (case neNoPattern => k_is)
    (case seNoPattern => first | rfl | decide +kernel)
    (case ieNoPattern => k_is)
    (case hliNoPattern => k_is)
    (case hciNoPattern => k_is)
    (case hkiNoPattern => k_is)
    (case htiNoPattern => first | rfl | decide +kernel)
    (case kpeNoPattern => k_is)
    (case saeNoPattern => k_is)
    (case gaeNoPattern => k_is)
    (case gheNoPattern => k_is)
    (case haeNoPattern => k_is)
    (case tkeNoPattern_at => k_is)
    (case geNoTemplate => k_is)
    (case geNoHall => k_is)
    (case geNoText => k_is)
    (case geNoRule => k_is)
    (case KO_NoPattern_NoPattern => kit_is)
    (case KO_NoPattern_ValueError => kit_is)
    (case KA_NoPattern__NoTemplate__NoRule__NoHall__NoText => kit_is)
