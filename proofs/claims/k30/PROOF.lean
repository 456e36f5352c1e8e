import PyProof.Rows.All
import Wide.All
import OpenK.AllK
import Wide.FinOn
import Lean
import PyProof.EqAt
import PyProof.EqKinds
import PyProof.TupleCall
import PySem.Challenge.RW_pieceyard_k30_depths
set_option genSizeOf false
set_option genInjectivity false
set_option bootstrap.genMatcherCode false
set_option Elab.async false
set_option linter.all false
set_option maxRecDepth 100000
namespace L2
open PySem PySem.Spec PyProof.Rows
abbrev Key := Sum Int Str
def keyIs : Key → Value → Bool
  | .inl k, v => Value.isInt k v
  | .inr x, v => Value.isStrOf x v
def keyH (w : World) : Key → Int
  | .inl k => hashInt k
  | .inr x => hashStr w x
theorem keyIs_shape : ∀ {k : Key} {v : Value}, keyIs k v = true → (∃ i t, k = Sum.inl i ∧ v = Value.int i t) ∨ (∃ x t, k = Sum.inr x ∧ v = Value.str x t)
  | .inl i, v, h => by
    obtain ⟨t, e⟩ := Value.isInt_shape (k := i) (v := v) h
    exact .inl ⟨i, t, rfl, e⟩
  | .inr x, v, h => by
    obtain ⟨t, e⟩ := Value.isStrOf_shape (x := x) (v := v) h
    exact .inr ⟨x, t, rfl, e⟩
theorem key_ll (a b : Int) : decide ((Sum.inl a : Key) = Sum.inl b) = (a == b) := by
  by_cases e : a = b
  · subst e; simp
  · have h : ¬ (Sum.inl a : Key) = Sum.inl b := fun q => e (Sum.inl.inj q)
    rw [decide_eq_false h]
    exact (beq_eq_false_iff_ne.mpr e).symm
theorem key_rr (a b : Str) : decide ((Sum.inr a : Key) = Sum.inr b) = decide (a = b) := by
  by_cases e : a = b
  · subst e; simp
  · have h : ¬ (Sum.inr a : Key) = Sum.inr b := fun q => e (Sum.inr.inj q)
    rw [decide_eq_false h, decide_eq_false e]
theorem key_lr (a : Int) (b : Str) : decide ((Sum.inl a : Key) = Sum.inr b) = false := decide_eq_false (fun q => nomatch q)
theorem key_rl (a : Str) (b : Int) : decide ((Sum.inr a : Key) = Sum.inl b) = false := decide_eq_false (fun q => nomatch q)
def mixKind (prog : Program) (w : World) : PySem.KeyKind prog w Key where
  is := keyIs
  hash := keyH w
  inj := fun v a b ha hb => by
    rcases keyIs_shape ha with ⟨i, t, rfl, rfl⟩ | ⟨x, t, rfl, rfl⟩
    · rcases keyIs_shape hb with ⟨j, u, rfl, e⟩ | ⟨y, u, rfl, e⟩
      · injection e with e1 _; rw [e1]
      · exact nomatch e
    · rcases keyIs_shape hb with ⟨j, u, rfl, e⟩ | ⟨y, u, rfl, e⟩
      · exact nomatch e
      · injection e with e1 _; rw [e1]
  byValue := fun k v h => by
    rcases keyIs_shape h with ⟨i, t, rfl, rfl⟩ | ⟨x, t, rfl, rfl⟩ <;> rfl
  pyHash := fun hv h => by
    rcases keyIs_shape hv with ⟨i, t, rfl, rfl⟩ | ⟨x, t, rfl, rfl⟩
    · exact wpAny_pyHash_int h
    · exact wpAny_pyHash_str h
  eqBool := fun hu hv h => by
    rcases keyIs_shape hu with ⟨i, t, rfl, rfl⟩ | ⟨x, t, rfl, rfl⟩
    · rcases keyIs_shape hv with ⟨j, u, rfl, rfl⟩ | ⟨y, u, rfl, rfl⟩
      · rw [key_ll] at h; exact wpAny_eqBool_int h
      · rw [key_lr] at h; exact SeqAt.EqAt.int_str i t y u _ _ _ _ h
    · rcases keyIs_shape hv with ⟨j, u, rfl, rfl⟩ | ⟨y, u, rfl, rfl⟩
      · rw [key_rl] at h; exact SeqAt.EqAt.str_int x t j u _ _ _ _ h
      · rw [key_rr] at h; exact wpAny_eqBool_str h
  «strs» := fun k x t v h => by
    rcases keyIs_shape h with ⟨i, u, rfl, e⟩ | ⟨y, u, rfl, e⟩
    · exact nomatch e
    · injection e with e1 _
      subst e1
      cases v <;> rfl
end L2
namespace L2
open PySem PySem.Spec PyProof.Rows
set_option genInjectivity true in
inductive V where
  | non | bl (b : Bool) | int (i : Int) | str (x : Str) | byt (b : Array UInt8) | flt (b : UInt64) | ref (a : Addr) | ty (n : String)
  deriving DecidableEq
def RelV : V → Value → Prop
  | .non, u => u = Value.none
  | .bl b, u => u = Value.bool b
  | .int i, u => ∃ t, u = Value.int i t
  | .str x, u => ∃ t, u = Value.str x t
  | .byt b, u => ∃ t, u = Value.bytes b t
  | .flt b, u => ∃ t, u = Value.float b t
  | .ref a, u => u = Value.ref a
  | .ty n, u => u = Value.type n
abbrev Vals : List V → List Value → Prop := Paired RelV
theorem Vals.length {xs : List V} {us : List Value} (r : Vals xs us) : xs.length = us.length := Paired.length r
theorem Vals.get : ∀ {xs : List V} {us : List Value} {i : Nat} {x : V}, Vals xs us → xs[i]? = some x → ∃ u, us[i]? = some u ∧ RelV x u
  | _, _, _, _, .nil, e => by simp at e
  | _, _, 0, _, .cons r _, e => by simp at e; subst e; exact ⟨_, rfl, r⟩
  | _, _, i + 1, x, .cons _ t, e => by
    obtain ⟨u, h1, h2⟩ := Vals.get (i := i) (x := x) t (by simpa using e)
    exact ⟨u, by simpa using h1, h2⟩
theorem Vals.set {x : V} {u : Value} (r : RelV x u) : ∀ {xs : List V} {us : List Value} (i : Nat), Vals xs us → Vals (xs.set i x) (us.set i u)
  | _, _, _, .nil => .nil
  | _, _, 0, .cons _ t => .cons r t
  | _, _, i + 1, .cons q t => .cons q (Vals.set r i t)
theorem Vals.append : ∀ {xs ys : List V} {us ws : List Value}, Vals xs us → Vals ys ws → Vals (xs ++ ys) (us ++ ws)
  | _, _, _, _, .nil, s => s
  | _, _, _, _, .cons r t, s => .cons r (Vals.append t s)
theorem Vals.take : ∀ {xs : List V} {us : List Value} (n : Nat), Vals xs us → Vals (xs.take n) (us.take n)
  | _, _, 0, _ => .nil
  | _, _, _ + 1, .nil => .nil
  | _, _, n + 1, .cons r t => .cons r (Vals.take n t)
theorem Vals.drop : ∀ {xs : List V} {us : List Value} (n : Nat), Vals xs us → Vals (xs.drop n) (us.drop n)
  | _, _, 0, r => r
  | _, _, _ + 1, .nil => .nil
  | _, _, n + 1, .cons _ t => Vals.drop n t
def RelO : Option V → Option Value → Prop
  | some v, some u => RelV v u
  | none, none => True
  | _, _ => False
def KV {κ : Type} : List (κ × V) → List (κ × Value) → Prop := Paired fun (p : κ × V) (q : κ × Value) => p.1 = q.1 ∧ RelV p.2 q.2
def kV : Key → V
  | .inl i => .int i
  | .inr x => .str x
inductive HO where
  /-- a list -/
  | lst (xs : List V)
  /-- a tuple (never changes) -/
  | tup (xs : List V)
  /-- a dict whose keys are ints and texts; one whose keys are tuples of ints and texts (the empty one is both) -/
  | dK (kvs : List (Key × V)) | dT (kvs : List (List Key × V))
  /-- a set of ints: its members, its size -/
  | set (S : Int → Bool) (n : Nat)
  /-- an instance of the class at C, its dict at dx, its attributes -/
  | ins (C dx : Addr) (fs : List (Str × V))
  /-- the dict of the instance at x -/
  | own (x : Addr)
  /-- the dict of an exception -/
  | xd (fs : List (Str × V))
  /-- a bound method, f of x -/
  | met (f x : Addr)
  /-- a range object lo, lo + 1, .. below hi -/
  | rng (lo hi : Int)
  /-- a thing that is known to the object (the script; a dict while a loop walks it): read, never written while it is so -/
  | frz (o : Obj) (u : HO)
  /-- a code object's table -/
  | tbl (ps : Array Value)
  /-- any other thing, by what is true of its one object (a def of one's own: SetO a S n := HO.ext fun h => ..) -/
  | ext (φ : Heap → Prop)
abbrev Hp := Addr → Option HO
def upd (H : Hp) (a : Addr) (o : HO) : Hp := fun b => if b = a then some o else H b
theorem upd_same {H : Hp} {a : Addr} {o : HO} : upd H a o a = some o := by unfold upd; rw [if_pos rfl]
theorem upd_ne {H : Hp} {a b : Addr} {o : HO} (h : b ≠ a) : upd H a o b = H b := by unfold upd; rw [if_neg h]
theorem ne_of_none {H : Hp} {a b : Addr} {o : HO} (h : H a = some o) (h' : H b = none) : a ≠ b := by
  intro e; subst e; rw [h] at h'; cases h'
section
variable (P : Program) (w : World)
def ObjOk (H : Hp) (h : Heap) (a : Addr) : HO → Prop
  | .lst xs => xs.length ≤ sizeLine ∧ ∃ (its : List Value) (n : Nat), Vals xs its ∧ h.get? a = some { cls := .type "list", data := .seq its.toArray n }
  | .tup xs => xs.length ≤ sizeLine ∧ ∃ its : List Value, Vals xs its ∧ IsTup h a its.toArray
  | .dK kvs => kvs.length ≤ sizeLine ∧ (a == sysModules) = false ∧ ∃ vs, KV kvs vs ∧ h.DictOf (mixKind P w) a vs
  | .dT kvs => kvs.length ≤ sizeLine ∧ (a == sysModules) = false ∧ ∃ xs : List (List Key × Addr × Value),
      Paired (fun (p : List Key × V) (q : List Key × Addr × Value) => p.1 = q.1 ∧ H q.2.1 = some (.tup (p.1.map kV)) ∧ RelV p.2 q.2.2) kvs xs ∧
      ∃ o es ep, h.get? a = some o ∧ o.ExactDict ∧ o.data = .dict es ep ∧ es.toList = xs.map (entryOfKey (tupleKind (mixKind P w))) ∧ (xs.map (·.1)).Nodup
  | .set S n => h.SetOf (intKind P w) a S n
  | .ins C dx fs => H dx = some (.own a) ∧ fs.length ≤ 1000 ∧ dx ≠ a ∧ h.get? a = some (PySem.W.instObj C dx) ∧
      ∃ mA, h.Ns1 dx mA ∧ (∀ f, RelO (fs.lookup f) (mA f)) ∧ PySem.Within mA (fs.map (·.1))
  | .own _ => ∃ o, h.get? a = some o
  | .xd fs => ∃ mA, h.Ns1 a mA ∧ ∀ f, RelO (fs.lookup f) (mA f)
  | .rng lo hi => ∃ t u v, h.get? a = some { cls := .type "range", data := .fields #[.int lo t, .int hi u, .int 1 v] }
  | .frz o u => h.get? a = some o ∧ ObjOk H h a u
  | .tbl ps => h.get? a = some { cls := .none, data := .fields ps }
  | .met f x => h.get? a = some (PySem.W.methodObj (.ref f) (.ref x))
  | .ext φ => φ h ∧ (∃ o, h.get? a = some o) ∧ ∀ h1 h2 : Heap, φ h1 → (∀ o, h1.get? a = some o → h2.get? a = some o) → φ h2
def HOk (H : Hp) (h : Heap) : Prop := ∀ a o, H a = some o → ObjOk P w H h a o
end
section
variable {P : Program} {w : World} {H H' : Hp} {h h' : Heap} {a : Addr} {o : HO}
theorem ObjOk.lt (x : ObjOk P w H h a o) : a < h.objs.size := by
  cases o with
  | lst xs => obtain ⟨_, _, _, _, e⟩ := x; exact Heap.lt_size e
  | tup xs => obtain ⟨_, _, _, p⟩ := x; exact p.lt
  | dK kvs => obtain ⟨_, _, _, _, o, _, _, e, _⟩ := x; exact Heap.lt_size e
  | dT kvs => obtain ⟨_, _, _, _, o, _, _, e, _⟩ := x; exact Heap.lt_size e
  | set S n => obtain ⟨o, _, _, _, e, _⟩ := x; exact Heap.lt_size e
  | ins C dx fs => obtain ⟨_, _, _, e, _⟩ := x; exact Heap.lt_size e
  | own y => obtain ⟨_, e⟩ := x; exact Heap.lt_size e
  | xd fs => obtain ⟨_, ⟨_, _, _, e, _⟩, _⟩ := x; exact Heap.lt_size e
  | rng lo hi => obtain ⟨_, _, _, e⟩ := x; exact Heap.lt_size e
  | frz ob u => obtain ⟨e, _⟩ := x; exact Heap.lt_size e
  | tbl ps => exact Heap.lt_size (show h.get? a = some _ from x)
  | met f y => exact Heap.lt_size (show h.get? a = some _ from x)
  | ext φ => obtain ⟨_, ⟨_, e⟩, _⟩ := x; exact Heap.lt_size e
theorem Paired.mapP {α β : Type} {F G : α → β → Prop} : ∀ {l₁ : List α} {l₂ : List β}, Paired F l₁ l₂ → (∀ a b, F a b → G a b) → Paired G l₁ l₂
  | _, _, .nil, _ => .nil
  | _, _, .cons r t, f => .cons (f _ _ r) (Paired.mapP t f)
theorem ObjOk.stay (x : ObjOk P w H h a o) (k : ∀ b u, (b = a ∨ H b = some (.own a)) → h.get? b = some u → h'.get? b = some u)
    (ho : ∀ b, H b = some (.own a) → H' b = some (.own a)) (ht : ∀ b xs, H b = some (.tup xs) → H' b = some (.tup xs)) : ObjOk P w H' h' a o := by
  induction o with
  | lst xs => obtain ⟨z, its, n, r, e⟩ := x; exact ⟨z, its, n, r, k _ _ (.inl rfl) e⟩
  | tup xs => obtain ⟨z, its, r, ob, e, c⟩ := x; exact ⟨z, its, r, ob, k _ _ (.inl rfl) e, c⟩
  | dK kvs => obtain ⟨z, y, vs, r, ob, es, ep, e, c⟩ := x; exact ⟨z, y, vs, r, ob, es, ep, k _ _ (.inl rfl) e, c⟩
  | dT kvs =>
    obtain ⟨z, y, xs, r, ob, es, ep, e, c⟩ := x
    exact ⟨z, y, xs, Paired.mapP r fun p q z => ⟨z.1, ht _ _ z.2.1, z.2.2⟩, ob, es, ep, k _ _ (.inl rfl) e, c⟩
  | set S n => obtain ⟨ob, es, ep, t, e, c⟩ := x; exact ⟨ob, es, ep, t, k _ _ (.inl rfl) e, c⟩
  | ins C dx fs =>
    obtain ⟨d, z, ne, e, mA, ⟨od, es, ep, e2, c⟩, r⟩ := x
    exact ⟨ho _ d, z, ne, k _ _ (.inl rfl) e, mA, ⟨od, es, ep, k _ _ (.inr d) e2, c⟩, r⟩
  | own y => obtain ⟨ob, e⟩ := x; exact ⟨ob, k _ _ (.inl rfl) e⟩
  | xd fs => obtain ⟨mA, ⟨od, es, ep, e, c⟩, r⟩ := x; exact ⟨mA, ⟨od, es, ep, k _ _ (.inl rfl) e, c⟩, r⟩
  | rng lo hi => obtain ⟨t, u, v, e⟩ := x; exact ⟨t, u, v, k _ _ (.inl rfl) e⟩
  | frz ob u ih => obtain ⟨e, q⟩ := x; exact ⟨k _ _ (.inl rfl) e, ih q⟩
  | tbl ps =>
    have e : h.get? a = some { cls := .none, data := .fields ps } := x
    show h'.get? a = some { cls := .none, data := .fields ps }
    exact k a _ (.inl rfl) e
  | met f y =>
    have e : h.get? a = some (PySem.W.methodObj (.ref f) (.ref y)) := x
    show h'.get? a = some (PySem.W.methodObj (.ref f) (.ref y))
    exact k a _ (.inl rfl) e
  | ext φ => obtain ⟨p, ⟨o, e⟩, st⟩ := x; exact ⟨st _ _ p fun o q => k _ _ (.inl rfl) q, ⟨o, k _ _ (.inl rfl) e⟩, st⟩
theorem HOk.lt (x : HOk P w H h) (e : H a = some o) : a < h.objs.size := (x a o e).lt
theorem HOk.fresh (x : HOk P w H h) (e : h.objs.size ≤ a) : H a = none := by
  cases q : H a with
  | none => rfl
  | some u => exact absurd (Nat.lt_of_lt_of_le (x.lt q) e) (Nat.lt_irrefl _)
theorem HOk.kept (x : HOk P w H h) (k : ∀ b u, h.get? b = some u → h'.get? b = some u) : HOk P w H h' := fun a o e =>
  (x a o e).stay (fun b u _ q => k b u q) (fun _ q => q) fun _ _ q => q
theorem HOk.laid (x : HOk P w H h) (k : ∀ b u, h.get? b = some u → h'.get? b = some u) (hp : h.objs.size ≤ a) (new : ObjOk P w (upd H a o) h' a o) : HOk P w (upd H a o) h' := fun b u e => by
  have hn := x.fresh hp
  by_cases hb : b = a
  · subst hb; rw [upd_same] at e; cases e; exact new
  · rw [upd_ne hb] at e
    exact (x b u e).stay (fun c v _ q => k c v q) (fun c q => by rw [upd_ne (ne_of_none q hn)]; exact q) fun c xs q => by rw [upd_ne (ne_of_none q hn)]; exact q
end
def Rd (H : Hp) (a : Addr) (u : HO) : Prop := H a = some u ∨ ∃ o, H a = some (.frz o u)
theorem Rd.ok {P : Program} {w : World} {H : Hp} {h : Heap} {a : Addr} {u : HO} (r : Rd H a u) (x : HOk P w H h) : ObjOk P w H h a u := by
  rcases r with r | ⟨o, r⟩
  · exact x a u r
  · obtain ⟨_, q⟩ := x a _ r
    exact q
def Mut : Option HO → Prop
  | some (.lst _) => True
  | some (.dK _) => True
  | some (.dT _) => True
  | some (.set _ _) => True
  | some (.ins _ _ _) => True
  | some (.ext _) => True
  | _ => False
section
variable {P : Program} {w : World} {H : Hp} {h h' : Heap} {x e : Addr} {o' : HO}
theorem HOk.write (ok : HOk P w H h) (mu : Mut (H x)) (he : e = x ∨ H e = some (.own x)) (k : ∀ b u, b ≠ e → h.get? b = some u → h'.get? b = some u) (heo : ∃ u, h'.get? e = some u)
    (new : ObjOk P w (upd H x o') h' x o') : HOk P w (upd H x o') h' := fun b u q => by
  have nown : ∀ c y, H c = some (.own y) → c ≠ x := fun c y r z => by subst z; rw [r] at mu; exact mu
  have ntup : ∀ c xs, H c = some (.tup xs) → c ≠ x := fun c xs r z => by subst z; rw [r] at mu; exact mu
  by_cases hb : b = x
  · subst hb; rw [upd_same] at q; cases q; exact new
  · rw [upd_ne hb] at q
    by_cases hbe : b = e
    · have q' : H b = some (.own x) := by
        rcases he with z | z
        · exact absurd (hbe.trans z) hb
        · rw [hbe]; exact z
      rw [q] at q'; cases q'
      obtain ⟨v, hv⟩ := heo
      exact ⟨v, by rw [hbe]; exact hv⟩
    · refine (ok b u q).stay (fun c v hc r => k c v ?_ r) (fun c r => by rw [upd_ne (nown c b r)]; exact r) fun c xs r => by rw [upd_ne (ntup c xs r)]; exact r
      rcases hc with rfl | hc
      · exact hbe
      · rintro rfl
        rcases he with z | z
        · exact nown c b hc z
        · rw [hc] at z; cases z; exact hb rfl
end
structure Un (fs ex : List Addr) (H H' : Hp) (h h' : Heap) : Prop where
  keep : ∀ b o, h.get? b = some o → H b = none → b ∉ fs → b ∉ ex → h'.get? b = some o
  slot : ∀ b o, h.get? b = some o → H b = none → b ∈ fs → b ∉ ex → ∃ sl, h'.get? b = some { o with slots := sl }
  free : ∀ b o, h.get? b = some o → H b = none → b ∉ ex → H' b = none
  there : ∀ b o, h.get? b = some o → b ∉ ex → ∃ o', h'.get? b = some o'
  tups : ∀ b xs, H b = some (.tup xs) → H' b = some (.tup xs)
  frzs : ∀ b o u, H b = some (.frz o u) → H' b = some (.frz o u)
  tbls : ∀ b ps, H b = some (.tbl ps) → ∃ more, H' b = some (.tbl (ps ++ more))
section
variable {fs fs' ex ex' : List Addr} {H H1 H2 : Hp} {h h1 h2 h' : Heap} {a x e : Addr} {o : HO}
theorem Un.any (u : Un fs ex H H1 h h1) {b : Addr} {ob : Obj} (q : h.get? b = some ob) (n : H b = none) (hx : b ∉ ex) : ∃ sl, h1.get? b = some { ob with slots := sl } := by
  by_cases hb : b ∈ fs
  · exact u.slot b ob q n hb hx
  · exact ⟨ob.slots, u.keep b ob q n hb hx⟩
theorem Un.trans (a : Un fs ex H H1 h h1) (b : Un fs ex H1 H2 h1 h2) : Un fs ex H H2 h h2 where
  keep := fun c ob q n hc hx => b.keep c ob (a.keep c ob q n hc hx) (a.free c ob q n hx) hc hx
  slot := fun c ob q n hc hx => by
    obtain ⟨sl, e1⟩ := a.slot c ob q n hc hx
    obtain ⟨sl', e2⟩ := b.slot c _ e1 (a.free c ob q n hx) hc hx
    exact ⟨sl', e2⟩
  free := fun c ob q n hx => by
    obtain ⟨o', e1⟩ := a.there c ob q hx
    exact b.free c o' e1 (a.free c ob q n hx) hx
  there := fun c ob q hx => by
    obtain ⟨o', e1⟩ := a.there c ob q hx
    exact b.there c o' e1 hx
  tups := fun c xs q => b.tups c xs (a.tups c xs q)
  frzs := fun c ob xs q => b.frzs c ob xs (a.frzs c ob xs q)
  tbls := fun c ps q => by
    obtain ⟨m1, e1⟩ := a.tbls c ps q
    obtain ⟨m2, e2⟩ := b.tbls c _ e1
    exact ⟨m1 ++ m2, by rw [e2, Array.append_assoc]⟩
theorem Un.kept (k : ∀ b u, h.get? b = some u → h'.get? b = some u) : Un fs ex H H h h' :=
  ⟨fun b ob q _ _ _ => k b ob q, fun b ob q _ _ _ => ⟨ob.slots, k b ob q⟩, fun _ _ _ n _ => n, fun b ob q _ => ⟨ob, k b ob q⟩, fun _ _ q => q, fun _ _ _ q => q, fun _ ps q => ⟨#[], by rw [q]; simp⟩⟩
theorem Un.refl : Un fs ex H H h h := Un.kept fun _ _ q => q
theorem Un.laid (k : ∀ b u, h.get? b = some u → h'.get? b = some u) (hp : h.objs.size ≤ a) (hn : H a = none) : Un fs ex H (upd H a o) h h' where
  keep := fun b u q _ _ _ => k b u q
  slot := fun b u q _ _ _ => ⟨u.slots, k b u q⟩
  free := fun b u q n _ => by rw [upd_ne (Nat.ne_of_lt (Nat.lt_of_lt_of_le (Heap.lt_size q) hp))]; exact n
  there := fun b u q _ => ⟨u, k b u q⟩
  tups := fun b xs q => by rw [upd_ne (ne_of_none q hn)]; exact q
  frzs := fun b u xs q => by rw [upd_ne (ne_of_none q hn)]; exact q
  tbls := fun b ps q => ⟨#[], by rw [upd_ne (ne_of_none q hn), q]; simp⟩
theorem Un.write (mu : Mut (H x)) (he : e = x ∨ H e = some (.own x)) (k : ∀ b u, b ≠ e → h.get? b = some u → h'.get? b = some u) (heo : ∃ u, h'.get? e = some u) : Un fs ex H (upd H x o) h h' := by
  have hx : ∀ b, H b = none → b ≠ x := fun b n z => by subst z; rw [n] at mu; exact mu
  have hb : ∀ b, H b = none → b ≠ e := fun b n z => by
    subst z
    rcases he with r | r
    · exact hx b n r
    · rw [n] at r; cases r
  have hm : ∀ b u, H b = some u → ¬ Mut (some u) → b ≠ x := fun b u q nm z => by subst z; rw [q] at mu; exact nm mu
  refine ⟨fun b u q n _ _ => k b u (hb b n) q, fun b u q n _ _ => ⟨u.slots, k b u (hb b n) q⟩, fun b u q n _ => by rw [upd_ne (hx b n)]; exact n, fun b u q _ => ?_,
    fun b xs q => by rw [upd_ne (hm b _ q fun z => z)]; exact q, fun b u xs q => by rw [upd_ne (hm b _ q fun z => z)]; exact q, fun b ps q => ⟨#[], by rw [upd_ne (hm b _ q fun z => z), q]; simp⟩⟩
  by_cases hbe : b = e
  · subst hbe; exact heo
  · exact ⟨u, k b u hbe q⟩
theorem Un.mono (u : Un fs ex H H1 h h1) (hs : ∀ b ∈ fs, b ∈ fs') (hx : ∀ b ∈ ex, b ∈ ex') : Un fs' ex' H H1 h h1 :=
  ⟨fun b ob q n hb he => u.keep b ob q n (fun z => hb (hs b z)) fun z => he (hx b z), fun _ _ q n _ he => u.any q n fun z => he (hx _ z), fun b ob q n he => u.free b ob q n fun z => he (hx b z), fun b ob q he => u.there b ob q fun z => he (hx b z), u.tups, u.frzs, u.tbls⟩
end
def trk (h : Heap) (H : Hp) : List Addr := (List.range h.objs.size).filter fun a => (H a).isSome
def hidT (h : Heap) (H : Hp) : Heap := PySem.W.hideAll h (trk h H)
theorem hidT_size (h : Heap) (H : Hp) : (hidT h H).objs.size = h.objs.size := PySem.W.hideAll_size _ _
theorem hidT_get {h : Heap} {H : Hp} {b : Addr} {o : Obj} (e : h.get? b = some o) (n : H b = none) : (hidT h H).get? b = some o :=
  PySem.W.hideAll_get _ e fun hm => by
    have q : (H b).isSome = true := (List.mem_filter.mp hm).2
    rw [n] at q; simp at q
theorem of_hidT {h : Heap} {H : Hp} {b : Addr} {o : Obj} (e : (hidT h H).get? b = some o) : h.get? b = some o ∧ H b = none := by
  have e' : h.get? b = some o := PySem.W.of_hideAll (trk h H) e
  refine ⟨e', ?_⟩
  cases q : H b with
  | none => rfl
  | some x =>
    have hm : b ∈ trk h H := List.mem_filter.mpr ⟨List.mem_range.mpr (Heap.lt_size e'), by simp [q]⟩
    have z : (hidT h H).get? b = none := PySem.W.hideAll_none (trk h H) hm
    rw [z] at e; cases e
def allNews (g h : Heap) (L : Addr) : List (Addr × Obj) := (List.range h.objs.size).filterMap fun a => if a = L ∨ (g.get? a).isSome = true then none else (h.get? a).map fun o => (a, o)
def rest (g h : Heap) (L d : Addr) : List (Addr × Obj) := (allNews g h L).filter fun p => decide (p.1 ≠ d)
end L2
namespace L2
open PySem PySem.Spec PyProof.Rows
structure Mod (K : PySem.W.Frag) (mg : Str → Option Value) (base : Heap) : Prop where
  kin : K.In base
  glob : base.Ns mainGlobals mg
  blt : ∃ mb, base.Ns builtinsNs mb ∧ ∀ x : Str, x ≠ "__name__" → mb x = bootBuiltins x
  nolimit : base.NoLimit
structure Cx where
  prog : Program
  w : World
  K : PySem.W.Frag
  mg : Str → Option Value
  base : Heap
  A : Around
  N : List Str
  s₀ : Shared
  H₀ : Hp
  env : Env
  outer : List Env
  stack : List Env
  ex : List Addr
  fn : Str → Bool
  calm : Bool
  pn : List (Addr × Obj)
  xe : Value → Shared → Prop
def frs (l : List Env) : List Addr := l.filterMap (·.frame)
abbrev Cx.fs (X : Cx) : List Addr := frs X.outer
def Vis (sc : Scope) (x : Str) : Prop := sc.names.lookup x = some .local ∨ sc.names.lookup x = some .cell ∨ sc.names.lookup x = some .free
def Loc (sc : Scope) (x : Str) : Prop := sc.names.lookup x = some .local ∨ sc.names.lookup x = some .cell
def Look (env : Env) (h : Heap) (m : Str → Option Value) (x : Str) (u : Value) : Prop :=
  (env.kindOf x = some .local ∧ m x = some u) ∨ ((env.kindOf x = some .cell ∨ env.kindOf x = some .free) ∧ ∃ c, env.cells.lookup x = some c ∧ h.IsCell c (some u))
structure Cx.Ok (X : Cx) : Prop where
  mod : Mod X.K X.mg X.base
  kind : X.env.scope.kind = .function
  glob : X.env.globals = mainGlobals
  blt : X.env.builtins = builtinsNs
  above : X.s₀.heap.objs.size ≤ X.env.locals
  inj : ∀ x y c, X.env.cells.lookup x = some c → X.env.cells.lookup y = some c → x = y
  has : ∀ x, (X.env.kindOf x = some .cell ∨ X.env.kindOf x = some .free) → ∃ c, X.env.cells.lookup x = some c
  cab : ∀ x c, X.fn x = true → X.env.cells.lookup x = some c → X.s₀.heap.objs.size ≤ c
  hd : X.calm = true → X.A.handled = none
  frames : X.A.frames = some X.stack
  stk : X.stack = X.outer ∨ (X.stack = X.env :: X.outer ∧ X.env.frame = some X.env.locals)
  exf : ∀ b ∈ X.ex, b ≠ X.env.locals ∧ ∀ x c, X.env.cells.lookup x = some c → c ≠ b
  bs : ∀ b o, X.base.get? b = some o → X.s₀.heap.get? b = some o ∧ X.H₀ b = none
  bsz : X.base.objs.size ≤ X.s₀.heap.objs.size
  noex : ∀ b o, X.base.get? b = some o → b ∉ X.ex
  exfs : ∀ b ∈ X.ex, b ∉ X.fs
  funs : X.s₀.heap.FunFrames X.base X.outer
  frf : ∀ b ∈ X.fs, X.H₀ b = none
structure Inv (X : Cx) (pins : List (Addr × Obj)) (σ : List (Option V)) (H : Hp) (s : Shared) : Prop where
  ok : X.Ok
  os : s.os = X.s₀.os
  bare : AllBare s.gens
  base : Un X.fs X.ex X.H₀ H X.s₀.heap s.heap
  loc : ∃ m, s.heap.Ns X.env.locals m ∧ ∀ (i : Nat) (x : Str) (v : V), X.N[i]? = some x → σ[i]? = some (some v) → Vis X.env.scope x → ∃ u, RelV v u ∧ Look X.env s.heap m x u
  cell : ∀ x c, X.env.cells.lookup x = some c → ∃ v, s.heap.IsCell c v
  free : H X.env.locals = none
  freeC : ∀ x c, X.env.cells.lookup x = some c → H c = none
  pin : ∀ p ∈ X.pn ++ pins, s.heap.get? p.1 = some p.2 ∧ H p.1 = none ∧ p.1 ≠ X.env.locals ∧ p.1 ∉ X.fs ∧ ∀ v, p.2.data ≠ .cell v
  hok : HOk X.prog X.w H s.heap
  len : σ.length = X.N.length
section
variable {X : Cx} {pins : List (Addr × Obj)} {σ : List (Option V)} {H H' : Hp} {s : Shared} {h' : Heap}
theorem Cx.Ok.nofr (ok : X.Ok) {b : Addr} {o : Obj} (e : X.base.get? b = some o) : b ∉ X.fs := fun hb => by
  have := (ok.funs.mem hb).1
  rw [e] at this; cases this
theorem Inv.bs (I : Inv X pins σ H s) : ∀ b o, X.base.get? b = some o → s.heap.get? b = some o ∧ H b = none := fun b o e =>
  ⟨I.base.keep b o (I.ok.bs b o e).1 (I.ok.bs b o e).2 (I.ok.nofr e) (I.ok.noex b o e), I.base.free b o (I.ok.bs b o e).1 (I.ok.bs b o e).2 (I.ok.noex b o e)⟩
theorem Inv.bk (I : Inv X pins σ H s) : ∀ b o, X.base.get? b = some o → s.heap.get? b = some o := fun b o e => (I.bs b o e).1
theorem Inv.mod (I : Inv X pins σ H s) : Mod X.K X.mg X.base := I.ok.mod
theorem Inv.kIn (I : Inv X pins σ H s) : X.K.In s.heap := I.ok.mod.kin.keeps I.bk
theorem Inv.lt (I : Inv X pins σ H s) : X.env.locals < s.heap.objs.size := let ⟨_, hn, _⟩ := I.loc; hn.lt
theorem Inv.sz (I : Inv X pins σ H s) : X.s₀.heap.objs.size ≤ s.heap.objs.size := Nat.le_trans I.ok.above (Nat.le_of_lt I.lt)
theorem Inv.nofs (I : Inv X pins σ H s) {a : Addr} (h : s.heap.objs.size ≤ a) : a ∉ X.fs := fun hb => by
  obtain ⟨_, o, ho, _⟩ := I.ok.funs.mem hb
  exact absurd (Nat.lt_of_lt_of_le (Heap.lt_size ho) (Nat.le_trans I.sz h)) (Nat.lt_irrefl _)
theorem Inv.cne (I : Inv X pins σ H s) : ∀ x c, X.env.cells.lookup x = some c → c ≠ X.env.locals := fun x c e z => by
  obtain ⟨v, o, ho, hd⟩ := I.cell x c e
  obtain ⟨m, ⟨o', es, ep, ho', hd', _⟩, _⟩ := I.loc
  rw [z, ho'] at ho; cases ho; rw [hd'] at hd; cases hd
theorem Inv.funs (I : Inv X pins σ H s) : s.heap.FunFrames X.base X.outer := by
  have all : ∀ (l : List Env), (∀ b ∈ frs l, b ∈ X.fs) → X.s₀.heap.FunFrames X.base l → s.heap.FunFrames X.base l := by
    intro l
    induction l with
    | nil => intro _ _; trivial
    | cons env r ih =>
      intro hs hl
      obtain ⟨hk, ⟨L, o, hf, hn, ho, hd⟩, hr⟩ := hl
      have hL : L ∈ X.fs := hs L (by unfold frs; rw [List.filterMap_cons, hf]; exact List.mem_cons_self)
      obtain ⟨sl, e⟩ := I.base.slot L o ho (I.ok.frf L hL) hL fun z => I.ok.exfs L z hL
      exact ⟨hk, ⟨L, _, hf, hn, e, hd⟩, ih (fun b hb => hs b (by unfold frs; rw [List.filterMap_cons, hf]; exact List.mem_cons_of_mem _ hb)) hr⟩
  exact all X.outer (fun _ hb => hb) I.ok.funs
theorem Inv.stack (I : Inv X pins σ H s) : s.heap.FunFrames X.base X.stack := by
  rcases I.ok.stk with e | ⟨e, hf⟩
  · rw [e]; exact I.funs
  · rw [e]
    obtain ⟨m, hn, _⟩ := I.loc
    refine .cons (by rw [I.ok.kind]; decide) hf hn ?_ I.funs
    exact Heap.get?_none_of_le (Nat.le_trans I.ok.bsz I.ok.above)
theorem Inv.stkSub (I : Inv X pins σ H s) : ∀ b ∈ frs X.stack, b ∈ X.env.locals :: X.fs := fun b hb => by
  rcases I.ok.stk with e | ⟨e, hf⟩
  · rw [e] at hb; exact List.mem_cons_of_mem _ hb
  · rw [e] at hb
    unfold frs at hb
    rw [List.filterMap_cons, hf] at hb
    exact hb
theorem Inv.stkFree (I : Inv X pins σ H s) : ∀ b ∈ frs X.stack, H b = none := fun b hb => by
  rcases List.mem_cons.mp (I.stkSub b hb) with e | hb
  · rw [e]; exact I.free
  · obtain ⟨_, o, ho, _⟩ := I.ok.funs.mem hb
    exact I.base.free b o ho (I.ok.frf b hb) fun z => I.ok.exfs b z hb
theorem Inv.step {g' : Array GenState} {t' : Nat} {d' : Drawn} {ch : List Addr} (I : Inv X pins σ H s)
    (hch : ∀ b ∈ ch, (b ∈ X.ex ∨ X.s₀.heap.objs.size ≤ b) ∧ b ≠ X.env.locals ∧ (∀ x c, X.env.cells.lookup x = some c → c ≠ b) ∧ ∀ p ∈ X.pn ++ pins, p.1 ≠ b)
    (keep : ∀ b o, b ≠ X.env.locals → b ∉ X.fs → b ∉ ch → s.heap.get? b = some o → H b = none → h'.get? b = some o)
    (slot : ∀ b o, b ≠ X.env.locals → b ∈ X.fs → b ∉ ch → s.heap.get? b = some o → H b = none → ∃ sl, h'.get? b = some { o with slots := sl }) (free : ∀ b o, b ∉ ch → s.heap.get? b = some o → H b = none → H' b = none)
    (there : ∀ b o, b ∉ ch → s.heap.get? b = some o → ∃ o', h'.get? b = some o')
    (tups : ∀ b xs, H b = some (.tup xs) → H' b = some (.tup xs)) (frzs : ∀ b o u, H b = some (.frz o u) → H' b = some (.frz o u)) (tbls : ∀ b ps, H b = some (.tbl ps) → ∃ more, H' b = some (.tbl (ps ++ more)))
    (ns : ∀ m, s.heap.Ns X.env.locals m → h'.Ns X.env.locals m) (hok : HOk X.prog X.w H' h') (hg : AllBare g') :
    Inv X pins σ H' { s with heap := h', gens := g', drawn := d', toks := t' } := by
  have neL : ∀ b o, X.s₀.heap.get? b = some o → b ≠ X.env.locals := fun b o e => Nat.ne_of_lt (Nat.lt_of_lt_of_le (Heap.lt_size e) I.ok.above)
  have neC : ∀ b o, X.s₀.heap.get? b = some o → b ∉ X.ex → b ∉ ch := fun b o e hx hb => by
    rcases (hch b hb).1 with z | z
    · exact hx z
    · exact absurd (Nat.lt_of_lt_of_le (Heap.lt_size e) z) (Nat.lt_irrefl _)
  have cellK : ∀ x c, X.env.cells.lookup x = some c → ∀ v, s.heap.IsCell c v → h'.IsCell c v := fun x c e v ⟨o, ho, hd⟩ => by
    have nch : c ∉ ch := fun z => (hch c z).2.2.1 x c e rfl
    by_cases hc : c ∈ X.fs
    · obtain ⟨sl, q⟩ := slot c o (I.cne x c e) hc nch ho (I.freeC x c e)
      exact ⟨_, q, hd⟩
    · exact ⟨o, keep c o (I.cne x c e) hc nch ho (I.freeC x c e), hd⟩
  refine ⟨I.ok, I.os, hg, ⟨fun b o e n hb hx => ?_, fun b o e n hb hx => ?_, fun b o e n hx => ?_, fun b o e hx => ?_, fun b xs e => tups b xs (I.base.tups b xs e), fun b o xs e => frzs b o xs (I.base.frzs b o xs e), fun b ps e => ?_⟩, ?_, fun x c e => ?_, ?_, fun x c e => ?_, fun p hp => ?_, hok, I.len⟩
  · exact keep b o (neL b o e) hb (neC b o e hx) (I.base.keep b o e n hb hx) (I.base.free b o e n hx)
  · obtain ⟨sl, e1⟩ := I.base.slot b o e n hb hx
    obtain ⟨sl', e2⟩ := slot b _ (neL b o e) hb (neC b o e hx) e1 (I.base.free b o e n hx)
    exact ⟨sl', e2⟩
  · obtain ⟨o', e1⟩ := I.base.there b o e hx
    exact free b o' (neC b o e hx) e1 (I.base.free b o e n hx)
  · obtain ⟨o', e1⟩ := I.base.there b o e hx
    exact there b o' (neC b o e hx) e1
  · obtain ⟨m1, e1⟩ := I.base.tbls b ps e
    obtain ⟨m2, e2⟩ := tbls b _ e1
    exact ⟨m1 ++ m2, by rw [e2, Array.append_assoc]⟩
  · obtain ⟨m, hn, hl⟩ := I.loc
    refine ⟨m, ns m hn, fun i x v e1 e2 e3 => ?_⟩
    obtain ⟨u, r, l⟩ := hl i x v e1 e2 e3
    refine ⟨u, r, ?_⟩
    rcases l with l | ⟨k, c, e, z⟩
    · exact .inl l
    · exact .inr ⟨k, c, e, cellK x c e _ z⟩
  · obtain ⟨v, z⟩ := I.cell x c e
    exact ⟨v, cellK x c e v z⟩
  · obtain ⟨m, ⟨o, _, _, ho, _⟩, _⟩ := I.loc
    exact free _ o (fun z => (hch _ z).2.1 rfl) ho I.free
  · obtain ⟨v, o, ho, hd⟩ := I.cell x c e
    exact free c o (fun z => (hch c z).2.2.1 x c e rfl) ho (I.freeC x c e)
  · obtain ⟨e, n, ne, nf, d⟩ := I.pin p hp
    have nch : p.1 ∉ ch := fun z => (hch p.1 z).2.2.2 p hp rfl
    exact ⟨keep p.1 p.2 ne nf nch e n, free p.1 p.2 nch e n, ne, nf, d⟩
theorem Inv.un {t' : Nat} (I : Inv X pins σ H s) (u : Un X.fs [] H H' s.heap h') (hok : HOk X.prog X.w H' h') : Inv X pins σ H' { s with heap := h', toks := t' } := by
  obtain ⟨m, ⟨o, es, ep, ho, r⟩, _⟩ := id I.loc
  obtain ⟨sl, hL⟩ := u.any ho I.free (by simp)
  exact I.step (g' := s.gens) (d' := s.drawn) (ch := []) (fun _ z => nomatch z) (fun b o _ hb _ e n => u.keep b o e n hb (by simp)) (fun b o _ hb _ e n => u.slot b o e n hb (by simp)) (fun b o _ e n => u.free b o e n (by simp)) (fun b o _ e => u.there b o e (by simp)) u.tups u.frzs u.tbls (fun m' hm => by
    obtain ⟨o', es', ep', ho', r'⟩ := hm
    rw [ho] at ho'; cases ho'
    exact ⟨_, es', ep', hL, r'⟩) hok I.bare
theorem Inv.call {g' : Array GenState} {t' : Nat} {d' : Drawn} {ch : List Addr} (I : Inv X pins σ H s) (u : Un (frs X.stack) ch H H' s.heap h') (hok : HOk X.prog X.w H' h') (hg : AllBare g')
    (hch : ∀ b ∈ ch, (b ∈ X.ex ∨ X.s₀.heap.objs.size ≤ b) ∧ b ≠ X.env.locals ∧ (∀ x c, X.env.cells.lookup x = some c → c ≠ b) ∧ ∀ p ∈ X.pn ++ pins, p.1 ≠ b) :
    Inv X pins σ H' { s with heap := h', gens := g', drawn := d', toks := t' } := by
  obtain ⟨m, ⟨o, es, ep, ho, r⟩, _⟩ := id I.loc
  obtain ⟨sl, hL⟩ := u.any ho I.free fun z => (hch _ z).2.1 rfl
  exact I.step (ch := ch) hch (fun b o hL hb hc e n => u.keep b o e n (fun z => (List.mem_cons.mp (I.stkSub b z)).elim hL hb) hc) (fun b o _ _ hc e n => u.any e n hc) (fun b o hc e n => u.free b o e n hc) (fun b o hc e => u.there b o e hc) u.tups u.frzs u.tbls (fun m' hm => by
    obtain ⟨o', es', ep', ho', r'⟩ := hm
    rw [ho] at ho'; cases ho'
    exact ⟨_, es', ep', hL, r'⟩) hok hg
theorem Inv.turned {t' : Nat} {it : Addr} (I : Inv X pins σ H s) (k : ∀ b o, b ≠ it → s.heap.get? b = some o → h'.get? b = some o) (hn : H it = none) (hL : it ≠ X.env.locals)
    (h1 : it ∈ X.ex ∨ X.s₀.heap.objs.size ≤ it) (h2 : ∀ x c, X.env.cells.lookup x = some c → c ≠ it) (h3 : ∀ p ∈ X.pn ++ pins, p.1 ≠ it) : Inv X pins σ H { s with heap := h', toks := t' } := by
  have nit : ∀ b u, H b = some u → b ≠ it := fun b u e z => by rw [z, hn] at e; cases e
  refine I.step (g' := s.gens) (d' := s.drawn) (ch := [it]) (fun b hb => ?_) (fun b o _ _ hc e _ => k b o (fun z => hc (by simp [z])) e) (fun b o _ _ hc e _ => ⟨o.slots, k b o (fun z => hc (by simp [z])) e⟩) (fun _ _ _ _ n => n)
    (fun b o hc e => ⟨o, k b o (fun z => hc (by simp [z])) e⟩) (fun _ _ e => e) (fun _ _ _ e => e) (fun b ps e => ⟨#[], by rw [e]; simp⟩) (fun m hm => ?_) (fun b u e => ?_) I.bare
  · have e : b = it := by simpa using hb
    subst e
    exact ⟨h1, hL, h2, h3⟩
  · obtain ⟨o, es, ep, ho, r⟩ := hm
    exact ⟨o, es, ep, k _ o (Ne.symm hL) ho, r⟩
  · refine (I.hok b u e).stay (fun c v hc q => k c v ?_ q) (fun _ q => q) fun _ _ q => q
    rcases hc with z | z
    · rw [z]; exact nit b u e
    · exact nit c _ z
theorem Inv.tok (I : Inv X pins σ H s) (t : Nat) : Inv X pins σ H { s with toks := t } := I.un (h' := s.heap) (t' := t) Un.refl I.hok
theorem Inv.kept {t' : Nat} (I : Inv X pins σ H s) (k : ∀ b u, s.heap.get? b = some u → h'.get? b = some u) : Inv X pins σ H { s with heap := h', toks := t' } := I.un (Un.kept k) (I.hok.kept k)
theorem Inv.laid {a : Addr} {o : HO} {t' : Nat} (I : Inv X pins σ H s) (k : ∀ b u, s.heap.get? b = some u → h'.get? b = some u) (hp : s.heap.objs.size ≤ a) (new : ObjOk X.prog X.w (upd H a o) h' a o) :
    Inv X pins σ (upd H a o) { s with heap := h', toks := t' } := I.un (Un.laid k hp (I.hok.fresh hp)) (I.hok.laid k hp new)
theorem Inv.write {x e : Addr} {o : HO} {t' : Nat} (I : Inv X pins σ H s) (mu : Mut (H x)) (he : e = x ∨ H e = some (.own x)) (k : ∀ b u, b ≠ e → s.heap.get? b = some u → h'.get? b = some u) (heo : ∃ u, h'.get? e = some u)
    (new : ObjOk X.prog X.w (upd H x o) h' x o) : Inv X pins σ (upd H x o) { s with heap := h', toks := t' } := I.un (Un.write mu he k heo) (I.hok.write mu he k heo new)
theorem Inv.pins_of {pins' : List (Addr × Obj)} (I : Inv X pins σ H s) (h : ∀ p ∈ pins', s.heap.get? p.1 = some p.2 ∧ H p.1 = none ∧ p.1 ≠ X.env.locals ∧ p.1 ∉ X.fs ∧ ∀ v, p.2.data ≠ .cell v) : Inv X pins' σ H s :=
  ⟨I.ok, I.os, I.bare, I.base, I.loc, I.cell, I.free, I.freeC, fun p hp => (List.mem_append.mp hp).elim (fun z => I.pin p (List.mem_append_left _ z)) (h p), I.hok, I.len⟩
theorem nodup_ix {N : List Str} (hN : N.Nodup) {i j : Nat} {x : Str} (a : N[i]? = some x) (b : N[j]? = some x) : i = j := by
  obtain ⟨h1, e1⟩ := List.getElem?_eq_some_iff.mp a
  obtain ⟨h2, e2⟩ := List.getElem?_eq_some_iff.mp b
  exact (List.getElem_inj hN).mp (e1.trans e2.symm)
theorem store_ok2 {M : Model} {A : Around} {E : Value → Shared → Prop} {i : Nat} {x : Str} {v : V} {u : Value} {Q : Unit → Shared → Prop} (I : Inv X pins σ H s) (hN : X.N.Nodup) (hi : X.N[i]? = some x) (hx : Loc X.env.scope x) (r : RelV v u)
    (h : ∀ s', Inv X pins (σ.set i (some v)) H s' → (∃ a, Heap.SameBut a s.heap s'.heap ∧ (a = X.env.locals ∨ X.env.cells.lookup x = some a)) → Q () s') (hf : X.fn x = true ∨ X.env.scope.names.lookup x = some .local := by first | exact .inl rfl | exact .inr rfl | assumption) : wpAny M A (storeName X.env x u) Q E s := by
  obtain ⟨m, hn, hl⟩ := id I.loc
  have hcls : (X.env.scope.kind == .class || (X.env.scope.kind == .module && X.env.locals != X.env.globals)) = false := by rw [I.ok.kind]; rfl
  have hiσ : i < σ.length := by rw [I.len]; exact (List.getElem?_eq_some_iff.mp hi).1
  have cne := I.cne
  have tracked : ∀ {a : Addr} {h' : Heap}, (∃ o, s.heap.get? a = some o ∧ H a = none) → Heap.SameBut a s.heap h' → HOk X.prog X.w H h' := fun {a h'} ha hs b ob e => by
    obtain ⟨_, _, hfree⟩ := ha
    refine (I.hok b ob e).stay (fun c w' hc q => (hs.2 c ?_).trans q) (fun _ q => q) fun _ _ q => q
    rintro rfl
    rcases hc with rfl | hc
    · rw [hfree] at e; cases e
    · rw [hfree] at hc; cases hc
  rcases hx with hk | hk
  · refine wpAny_storeName_local hk hn (fun h' hn' hs => ?_) hcls
    obtain ⟨oL, _, _, hoL, _⟩ := id hn
    refine h _ ⟨I.ok, I.os, I.bare, ⟨fun b o e n hb hx => ?_, fun b o e n hb hx => ?_, I.base.free, fun b o e hx => ?_, I.base.tups, I.base.frzs, I.base.tbls⟩, ⟨_, hn', fun j y v' e1 e2 e3 => ?_⟩, fun y c e => ?_, I.free, I.freeC, fun p hp => ?_, tracked ⟨oL, hoL, I.free⟩ hs, by simpa using I.len⟩ ⟨_, hs, .inl rfl⟩
    · exact (hs.2 b (Nat.ne_of_lt (Nat.lt_of_lt_of_le (Heap.lt_size e) I.ok.above))).trans (I.base.keep b o e n hb hx)
    · obtain ⟨sl, e1⟩ := I.base.slot b o e n hb hx
      exact ⟨sl, (hs.2 b (Nat.ne_of_lt (Nat.lt_of_lt_of_le (Heap.lt_size e) I.ok.above))).trans e1⟩
    · obtain ⟨o', e1⟩ := I.base.there b o e hx
      exact ⟨o', (hs.2 b (Nat.ne_of_lt (Nat.lt_of_lt_of_le (Heap.lt_size e) I.ok.above))).trans e1⟩
    · by_cases hj : j = i
      · subst hj
        rw [hi] at e1; cases e1
        rw [List.getElem?_set_self hiσ] at e2
        cases e2
        exact ⟨u, r, .inl ⟨hk, by simp⟩⟩
      · rw [List.getElem?_set_ne (Ne.symm hj)] at e2
        obtain ⟨u', r', q⟩ := hl j y v' e1 e2 e3
        refine ⟨u', r', ?_⟩
        rcases q with ⟨k, e⟩ | ⟨k, c, e, z⟩
        · refine .inl ⟨k, ?_⟩
          have : y ≠ x := fun e => hj (nodup_ix hN e1 (e ▸ hi))
          simp [this, e]
        · exact .inr ⟨k, c, e, z.sameBut hs (cne y c e)⟩
    · obtain ⟨w', z⟩ := I.cell y c e
      exact ⟨w', z.sameBut hs (cne y c e)⟩
    · obtain ⟨e, n, ne, nf, d⟩ := I.pin p hp
      exact ⟨(hs.2 p.1 ne).trans e, n, ne, nf, d⟩
  · have hfn : X.fn x = true := by
      rcases hf with z | z
      · exact z
      · rw [z] at hk; cases hk
    obtain ⟨c, hc⟩ := I.ok.has x (.inl hk)
    obtain ⟨w', z⟩ := I.cell x c hc
    refine wpAny_storeName_cell I.ok.kind hk hc z (fun h' hc' hs => ?_)
    obtain ⟨oc, hoc, hocd⟩ := id z
    refine h { s with heap := h' } ⟨I.ok, I.os, I.bare, ⟨fun b o e n hb hx => ?_, fun b o e n hb hx => ?_, I.base.free, fun b o e hx => ?_, I.base.tups, I.base.frzs, I.base.tbls⟩, ⟨m, hn.sameBut hs (Ne.symm (cne x c hc)), fun j y v' e1 e2 e3 => ?_⟩, fun y c' e => ?_, I.free, I.freeC, fun p hp => ?_, tracked ⟨oc, hoc, I.freeC x c hc⟩ hs, by simpa using I.len⟩ ⟨c, hs, .inr hc⟩
    · exact (hs.2 b (Nat.ne_of_lt (Nat.lt_of_lt_of_le (Heap.lt_size e) (I.ok.cab x c hfn hc)))).trans (I.base.keep b o e n hb hx)
    · obtain ⟨sl, e1⟩ := I.base.slot b o e n hb hx
      exact ⟨sl, (hs.2 b (Nat.ne_of_lt (Nat.lt_of_lt_of_le (Heap.lt_size e) (I.ok.cab x c hfn hc)))).trans e1⟩
    · obtain ⟨o', e1⟩ := I.base.there b o e hx
      exact ⟨o', (hs.2 b (Nat.ne_of_lt (Nat.lt_of_lt_of_le (Heap.lt_size e) (I.ok.cab x c hfn hc)))).trans e1⟩
    · by_cases hj : j = i
      · subst hj
        rw [hi] at e1; cases e1
        rw [List.getElem?_set_self hiσ] at e2
        cases e2
        exact ⟨u, r, .inr ⟨.inl hk, c, hc, hc'⟩⟩
      · rw [List.getElem?_set_ne (Ne.symm hj)] at e2
        obtain ⟨u', r', q⟩ := hl j y v' e1 e2 e3
        refine ⟨u', r', ?_⟩
        rcases q with q | ⟨k, c', e, z'⟩
        · exact .inl q
        · refine .inr ⟨k, c', e, z'.sameBut hs ?_⟩
          rintro rfl
          exact hj (nodup_ix hN e1 (I.ok.inj _ _ _ e hc ▸ hi))
    · by_cases hcc : c' = c
      · subst hcc; exact ⟨_, hc'⟩
      · obtain ⟨w2, z2⟩ := I.cell y c' e
        exact ⟨w2, z2.sameBut hs hcc⟩
    · obtain ⟨e, n, ne, nf, d⟩ := I.pin p hp
      refine ⟨(hs.2 p.1 ?_).trans e, n, ne, nf, d⟩
      intro q
      rw [q, hoc] at e
      have q' : oc = p.2 := Option.some.inj e
      exact d w' (by rw [← q']; exact hocd)
theorem store_ok {M : Model} {A : Around} {E : Value → Shared → Prop} {i : Nat} {x : Str} {v : V} {u : Value} {Q : Unit → Shared → Prop} (I : Inv X pins σ H s) (hN : X.N.Nodup) (hi : X.N[i]? = some x) (hx : Loc X.env.scope x) (r : RelV v u)
    (h : ∀ s', Inv X pins (σ.set i (some v)) H s' → Q () s') (hf : X.fn x = true ∨ X.env.scope.names.lookup x = some .local := by first | exact .inl rfl | exact .inr rfl | assumption) : wpAny M A (storeName X.env x u) Q E s :=
  store_ok2 I hN hi hx r (fun s' I' _ => h s' I') hf
theorem Inv.call' {s' : Shared} {ch : List Addr} (I : Inv X pins σ H s) (ho : s'.os = s.os) (u : Un (frs X.stack) ch H H' s.heap s'.heap) (hok : HOk X.prog X.w H' s'.heap) (hg : AllBare s'.gens)
    (hch : ∀ b ∈ ch, (b ∈ X.ex ∨ X.s₀.heap.objs.size ≤ b) ∧ b ≠ X.env.locals ∧ (∀ x c, X.env.cells.lookup x = some c → c ≠ b) ∧ ∀ p ∈ X.pn ++ pins, p.1 ≠ b) : Inv X pins σ H' s' := by
  obtain ⟨h', g', d', t', o'⟩ := s'
  have e : o' = s.os := ho
  subst e
  exact I.call (g' := g') (t' := t') (d' := d') u hok hg hch
end
abbrev XK := Value → Option Addr → Hp → Prop
abbrev St := List (Option V)
abbrev VK := V → Hp → Prop
abbrev TE := St → Hp → VK → Prop
abbrev TT := St → Hp → (Bool → Hp → Prop) → Prop
abbrev TA := St → Hp → (List V → Hp → Prop) → Prop
structure Ends where
  nx : St → Hp → Prop
  rt : VK
  bk : St → Hp → Prop := fun _ _ => False
  ct : St → Hp → Prop := fun _ _ => False
abbrev TS := Ends → St → Hp → Prop
def EP (X : Cx) (pins : List (Addr × Obj)) (σ : St) (Q : VK) (u : Value) (s' : Shared) : Prop := ∃ v H', Inv X pins σ H' s' ∧ RelV v u ∧ Q v H'
def TP (X : Cx) (pins : List (Addr × Obj)) (σ : St) (Q : Bool → Hp → Prop) (b : Bool) (s' : Shared) : Prop := ∃ H', Inv X pins σ H' s' ∧ Q b H'
def AP (X : Cx) (pins : List (Addr × Obj)) (σ : St) (Q : List V → Hp → Prop) (us : List Value) (s' : Shared) : Prop := ∃ vs H', Inv X pins σ H' s' ∧ Vals vs us ∧ Q vs H'
def SP (X : Cx) (pins : List (Addr × Obj)) (D : Ends) (f : Flow) (s' : Shared) : Prop :=
  match f with
  | .next => ∃ σ' H', Inv X pins σ' H' s' ∧ D.nx σ' H'
  | .brk => ∃ σ' H', Inv X pins σ' H' s' ∧ D.bk σ' H'
  | .cont => ∃ σ' H', Inv X pins σ' H' s' ∧ D.ct σ' H'
  | .ret u => ∃ v σ' H', Inv X pins σ' H' s' ∧ RelV v u ∧ D.rt v H'
def PE (X : Cx) (e : Expr) (t : TE) : Prop :=
  ∀ (pins : List (Addr × Obj)) (s : Shared) (σ : St) (H : Hp) (Q : VK), Inv X pins σ H s → t σ H Q → wpAny (model X.prog X.w) X.A (eval e X.env) (EP X pins σ Q) X.xe s
def PSs (X : Cx) (st : List Stmt) (t : TS) : Prop :=
  ∀ (pins : List (Addr × Obj)) (s : Shared) (σ : St) (H : Hp) (D : Ends), Inv X pins σ H s → t D σ H → wpAny (model X.prog X.w) X.A (execs st X.env) (SP X pins D) X.xe s
theorem thn {α : Type} {t : Sem α} {Q Q' : α → Shared → Prop} {M : Model} {A : Around} {E : Value → Shared → Prop} {s : Shared} (h : wpAny M A t Q E s) (hQ : ∀ a s, Q a s → Q' a s) : wpAny M A t Q' E s := wpAny_mono h hQ fun _ _ x => x
end L2
namespace L2
open PySem PySem.Spec PyProof.Rows
section
variable {X : Cx}
def tVar (i : Nat) : TE := fun σ H Q => ∃ v, σ[i]? = some (some v) ∧ Q v H
def tC (v : V) : TE := fun _ H Q => Q v H
theorem pe_var {i : Nat} {x : Str} {pos : Pos} (hN : X.N[i]? = some x) (hv : Vis X.env.scope x) (hd : (x == ("__debug__" : Str)) = false := by decide) (hcd : (x == ("__classdict__" : Str)) = false := by decide) : PE X (.Name x pos) (tVar i) := by
  intro pins s σ H Q I h
  obtain ⟨v, e, h⟩ := h
  obtain ⟨m, hn, hl⟩ := I.loc
  obtain ⟨u, r, l⟩ := hl i x v hN e hv
  have fin : EP X pins σ Q u s := ⟨v, H, I, r, h⟩
  rcases l with ⟨hk, hm⟩ | ⟨hk, c, hc, hcell⟩
  · exact wpAny_Name (wpAny_loadName_local I.ok.kind hk hn hm fin) hd
  · rcases hk with hk | hk
    · exact wpAny_Name (wpAny_loadName_cell I.ok.kind hk hc hcell fin) hd
    · exact wpAny_Name (wpAny_loadName_free I.ok.kind hk hc hcell fin hcd) hd
theorem pe_int {i j pos} : PE X (.Constant (.int i) j pos) (tC (.int i)) := fun _ _ _ H _ I h => wpAny_Constant_int ⟨.int i, H, I.tok _, ⟨_, rfl⟩, h⟩
theorem pe_bl {b j pos} : PE X (.Constant (.bool b) j pos) (tC (.bl b)) := fun _ _ _ H _ I h => Constant_bool ⟨.bl b, H, I, rfl, h⟩
theorem pe_non {j pos} : PE X (.Constant .none j pos) (tC .non) := fun _ _ _ H _ I h => Constant_none ⟨.non, H, I, rfl, h⟩
theorem pe_str {x j pos} : PE X (.Constant (.str x) j pos) (tC (.str x)) := fun _ _ _ H _ I h => Calls.Constant_str ⟨.str x, H, I.tok _, ⟨_, rfl⟩, h⟩
def Gl (X : Cx) (x : Str) : Prop := X.env.kindOf x = some .globalImplicit
theorem ld_glob {E : Value → Shared → Prop} {pins : List (Addr × Obj)} {s : Shared} {σ : St} {H : Hp} {x : Str} {u : Value} {pos : Pos} {Q : Value → Shared → Prop} (I : Inv X pins σ H s) (hg : Gl X x) (hm : X.mg x = some u) (h : Q u s)
    (hd : (x == ("__debug__" : Str)) = false := by decide) : wpAny (model X.prog X.w) X.A (eval (.Name x pos) X.env) Q E s :=
  Calls.Name_function_global I.ok.kind hg (Calls.loadGlobal_global (by rw [I.ok.glob]; exact I.mod.glob.keeps I.bk) hm h) hd
theorem ld_blt {E : Value → Shared → Prop} {pins : List (Addr × Obj)} {s : Shared} {σ : St} {H : Hp} {x : Str} {u : Value} {pos : Pos} {Q : Value → Shared → Prop} (I : Inv X pins σ H s) (hg : Gl X x) (hm : X.mg x = none) (hv : bootBuiltins x = some u) (h : Q u s)
    (hn : x ≠ "__name__" := by decide) (hd : (x == ("__debug__" : Str)) = false := by decide) : wpAny (model X.prog X.w) X.A (eval (.Name x pos) X.env) Q E s := by
  obtain ⟨mb, h1, h2⟩ := I.mod.blt
  exact Calls.Name_function_global I.ok.kind hg (Calls.loadGlobal_builtin (by rw [I.ok.glob]; exact I.mod.glob.keeps I.bk) hm (by rw [I.ok.blt]; exact h1.keeps I.bk) ((h2 x hn).trans hv) h) hd
theorem pe_glob {x : Str} {v : V} {u : Value} {pos : Pos} (hg : Gl X x) (hm : X.mg x = some u) (r : RelV v u) (hd : (x == ("__debug__" : Str)) = false := by decide) : PE X (.Name x pos) (tC v) :=
  fun _ _ _ H _ I h => ld_glob I hg hm ⟨v, H, I, r, h⟩ hd
theorem pe_bltn {x : Str} {v : V} {u : Value} {pos : Pos} (hg : Gl X x) (hm : X.mg x = none) (hv : bootBuiltins x = some u) (r : RelV v u) (hn : x ≠ "__name__" := by decide) (hd : (x == ("__debug__" : Str)) = false := by decide) : PE X (.Name x pos) (tC v) :=
  fun _ _ _ H _ I h => ld_blt I hg hm hv ⟨v, H, I, r, h⟩ hn hd
variable {a b : Expr} {ta tb : TE} {pos : Pos}
variable {tA tB' : TT} {rest : List Expr}
end
end L2
namespace L2
open PySem PySem.Spec PyProof.Rows
def SqL (K : PySem.W.Frag) (H : Hp) (a : Addr) (xs : List V) : Prop :=
  Rd H a (.lst xs) ∨
    ∃ (o : Obj) (its : Array Value) (n : Nat), K.lookup a = some o ∧ o.cls = .type "list" ∧ o.dict = none ∧ o.data = .seq its n ∧ its.size ≤ sizeLine ∧ Vals xs its.toList
def SqT (K : PySem.W.Frag) (H : Hp) (a : Addr) (xs : List V) : Prop :=
  Rd H a (.tup xs) ∨
    ∃ (o : Obj) (its : Array Value) (n : Nat), K.lookup a = some o ∧ o.cls = .type "tuple" ∧ o.data = .seq its n ∧ its.size ≤ sizeLine ∧ Vals xs its.toList
def absV : Value → Option V
  | .none => some .non
  | .bool b => some (.bl b)
  | .int i _ => some (.int i)
  | .str x _ => some (.str x)
  | .bytes b _ => some (.byt b)
  | .float b _ => some (.flt b)
  | .ref a => some (.ref a)
  | .type n => some (.ty n)
  | _ => none
theorem RelV.abs {x : V} {u : Value} (r : RelV x u) : absV u = some x := by
  cases x with
  | non => cases r; rfl
  | bl _ => cases r; rfl
  | int _ => obtain ⟨t, rfl⟩ := r; rfl
  | str _ => obtain ⟨t, rfl⟩ := r; rfl
  | byt _ => obtain ⟨t, rfl⟩ := r; rfl
  | flt _ => obtain ⟨t, rfl⟩ := r; rfl
  | ref _ => cases r; rfl
  | ty _ => cases r; rfl
theorem RelV.inj {x y : V} {u : Value} (r : RelV x u) (q : RelV y u) : x = y := Option.some.inj (r.abs.symm.trans q.abs)
theorem Vals.inj : ∀ {xs ys : List V} {us : List Value}, Vals xs us → Vals ys us → xs = ys
  | _, _, _, .nil, .nil => rfl
  | _, _, _, .cons r t, .cons r' t' => by rw [r.inj r', Vals.inj t t']
section
variable {X : Cx} {pins : List (Addr × Obj)} {σ : St} {H : Hp} {s : Shared} {a : Addr} {xs ys : List V}
theorem SqL.of {K : PySem.W.Frag} (h : H a = some (.lst xs)) : SqL K H a xs := .inl (.inl h)
theorem SqT.of {K : PySem.W.Frag} (h : H a = some (.tup xs)) : SqT K H a xs := .inl (.inl h)
theorem Inv.list (I : Inv X pins σ H s) (h : SqL X.K H a xs) : ∃ its : List Value, Vals xs its ∧ PlainL s.heap a its.toArray ∧ xs.length ≤ sizeLine := by
  rcases h with h | ⟨o, its, n, hk, hc, hd, hs, hz, r⟩
  · obtain ⟨z, its, n, r, e⟩ := h.ok I.hok
    exact ⟨its, r, ⟨_, n, e, rfl, rfl, rfl⟩, z⟩
  · refine ⟨its.toList, r, ⟨o, n, I.kIn a o hk, hc, hd, by simpa using hs⟩, ?_⟩
    have e := r.length
    simp only [Array.length_toList] at e
    omega
theorem Inv.tuple (I : Inv X pins σ H s) (h : SqT X.K H a xs) : ∃ its : List Value, Vals xs its ∧ IsTup s.heap a its.toArray ∧ xs.length ≤ sizeLine := by
  rcases h with h | ⟨o, its, n, hk, hc, hs, hz, r⟩
  · obtain ⟨z, its, r, p⟩ := h.ok I.hok
    exact ⟨its, r, p, z⟩
  · refine ⟨its.toList, r, ⟨o, I.kIn a o hk, hc, n, by simpa using hs⟩, ?_⟩
    have e := r.length
    simp only [Array.length_toList] at e
    omega
theorem Inv.list_inj (I : Inv X pins σ H s) (h : SqL X.K H a xs) (h' : SqL X.K H a ys) : xs = ys := by
  obtain ⟨its, r, ⟨o, n, e, _, _, d⟩, _⟩ := I.list h
  obtain ⟨its', r', ⟨o', n', e', _, _, d'⟩, _⟩ := I.list h'
  rw [e] at e'; cases e'
  rw [d] at d'
  injection d' with d1 _
  have : its = its' := by simpa using congrArg Array.toList d1
  subst this
  exact r.inj r'
theorem Inv.tuple_inj (I : Inv X pins σ H s) (h : SqT X.K H a xs) (h' : SqT X.K H a ys) : xs = ys := by
  obtain ⟨its, r, ⟨o, e, _, n, d⟩, _⟩ := I.tuple h
  obtain ⟨its', r', ⟨o', e', _, n', d'⟩, _⟩ := I.tuple h'
  rw [e] at e'; cases e'
  rw [d] at d'
  injection d' with d1 _
  have : its = its' := by simpa using congrArg Array.toList d1
  subst this
  exact r.inj r'
end
abbrev Cx.wish (X : Cx) (E : Value → Shared → Prop) : Cx := { X with xe := E }
theorem Cx.Ok.wish {X : Cx} (ok : X.Ok) (E : Value → Shared → Prop) : (X.wish E).Ok :=
  ⟨ok.mod, ok.kind, ok.glob, ok.blt, ok.above, ok.inj, ok.has, ok.cab, ok.hd, ok.frames, ok.stk, ok.exf, ok.bs, ok.bsz, ok.noex, ok.exfs, ok.funs, ok.frf⟩
theorem Cx.Ok.unwish {X : Cx} {E : Value → Shared → Prop} (ok : (X.wish E).Ok) : X.Ok :=
  ⟨ok.mod, ok.kind, ok.glob, ok.blt, ok.above, ok.inj, ok.has, ok.cab, ok.hd, ok.frames, ok.stk, ok.exf, ok.bs, ok.bsz, ok.noex, ok.exfs, ok.funs, ok.frf⟩
section
variable {X : Cx} {pins : List (Addr × Obj)} {σ : St} {H : Hp} {s : Shared} {E : Value → Shared → Prop}
theorem Inv.wish (I : Inv X pins σ H s) (E : Value → Shared → Prop) : Inv (X.wish E) pins σ H s := ⟨I.ok.wish E, I.os, I.bare, I.base, I.loc, I.cell, I.free, I.freeC, I.pin, I.hok, I.len⟩
theorem Inv.unwish (I : Inv (X.wish E) pins σ H s) : Inv X pins σ H s := ⟨I.ok.unwish, I.os, I.bare, I.base, I.loc, I.cell, I.free, I.freeC, I.pin, I.hok, I.len⟩
end
section
variable {X : Cx} {st : Stmt} {rest : List Stmt} {t u : TS} {e : Expr} {te : TE} {pos : Pos}
theorem Inv.quiet {pins : List (Addr × Obj)} {σ : St} {H : Hp} {s : Shared} (I : Inv X pins σ H s) : interactive X.env = false := by simp [interactive, I.ok.kind]
end
abbrev TG := V → St → Hp → (St → Hp → Prop) → Prop
abbrev TGs := List V → St → Hp → (St → Hp → Prop) → Prop
def PG (X : Cx) (target : Expr) (t : TG) : Prop :=
  ∀ (pins : List (Addr × Obj)) (s : Shared) (σ : St) (H : Hp) (v : V) (u : Value) (Q : St → Hp → Prop), Inv X pins σ H s → RelV v u → t v σ H Q →
    wpAny (model X.prog X.w) X.A (assign target X.env u) (fun _ s' => ∃ σ' H', Inv X pins σ' H' s' ∧ Q σ' H') X.xe s
def PGs (X : Cx) (ts : List Expr) (t : TGs) : Prop :=
  ∀ (pins : List (Addr × Obj)) (s : Shared) (σ : St) (H : Hp) (vs : List V) (us : List Value) (Q : St → Hp → Prop), Inv X pins σ H s → Vals vs us → t vs σ H Q →
    wpAny (model X.prog X.w) X.A (assignInOrder ((assignEach ts X.env).map (·.2)) us) (fun _ s' => ∃ σ' H', Inv X pins σ' H' s' ∧ Q σ' H') X.xe s
abbrev TSet := V → V → V → Hp → (Hp → Prop) → Prop
def PSet (X : Cx) (t : TSet) : Prop :=
  ∀ (pins : List (Addr × Obj)) (s : Shared) (σ : St) (H : Hp) (o i v : V) (ov iv u : Value) (Q : Hp → Prop), Inv X pins σ H s → RelV o ov → RelV i iv → RelV v u → t o i v H Q →
    wpAny (model X.prog X.w) X.A (setItem ov iv u) (fun _ s' => ∃ H', Inv X pins σ H' s' ∧ Q H') X.xe s
section
variable {X : Cx} {pos : Pos}
def gName (i : Nat) : TG := fun v σ H Q => Q (σ.set i (some v)) H
theorem pg_name {i : Nat} {x : Str} (hN : X.N.Nodup) (hi : X.N[i]? = some x) (hx : Loc X.env.scope x) (hf : X.fn x = true ∨ X.env.scope.names.lookup x = some .local := by first | exact .inl rfl | exact .inr rfl | assumption) : PG X (.Name x pos) (gName i) := by
  intro pins s σ H v u Q I r h
  exact wpAny_assign_Name (store_ok I hN hi hx r (fun s' I' => ⟨_, H, I', h⟩) hf)
def gNil : TGs := fun vs σ H Q => vs = [] ∧ Q σ H
def gCons (t : TG) (u : TGs) : TGs := fun vs σ H Q => ∃ v r, vs = v :: r ∧ t v σ H fun σ' H' => u r σ' H' Q
theorem pgs_nil : PGs X [] gNil := by
  intro pins s σ H vs us Q I r h
  obtain ⟨e, h⟩ := h
  subst e
  cases r
  exact assignInOrder_nil ⟨σ, H, I, h⟩
theorem pgs_cons {e : Expr} {es : List Expr} {t : TG} {u : TGs} (h1 : PG X e t) (h2 : PGs X es u)
    (hs : (assignEach (e :: es) X.env).map (·.2) = assign e X.env :: (assignEach es X.env).map (·.2) := by rfl) : PGs X (e :: es) (gCons t u) := by
  intro pins s σ H vs us Q I r h
  obtain ⟨v, vr, e1, h⟩ := h
  subst e1
  cases r with
  | cons r rr =>
    rw [hs]
    refine assignInOrder_cons (thn (h1 pins s σ H _ _ _ I r h) fun _ s1 qq9 => ?_)
    obtain ⟨σ1, H1, I1, q1⟩ := qq9
    exact h2 pins s1 σ1 H1 _ _ Q I1 rr q1
def gTup (K : PySem.W.Frag) (n : Nat) (t : TGs) : TG := fun v σ H Q => ∃ a xs, v = .ref a ∧ SqT K H a xs ∧ xs.length = n ∧ t xs σ H Q
theorem pg_tup {es : List Expr} {k : Nat} {t : TGs} {n : Nat} (hc : X.calm = true) (h : PGs X es t)
    (hn : (assignEach es X.env).length = n := by rfl) (hst : (assignEach es X.env).findIdx? (·.1) = none := by rfl) : PG X (.Tuple es k pos) (gTup X.K n t) := by
  intro pins s σ H v u Q I r hw
  obtain ⟨a, xs, e1, hq, hl, hw⟩ := hw
  subst e1
  cases r
  obtain ⟨its, rv, ht, hz⟩ := I.tuple hq
  refine assign_Tuple_tuple (I.ok.hd hc) ht (by simp [hn, ← hl, rv.length]) hst fun h' hx => ?_
  have I1 : Inv X pins σ H { s with heap := h' } := I.kept (t' := s.toks) fun b o e => hx b o (Nat.ne_of_lt (Heap.lt_size e)) e
  exact h pins _ σ H xs _ Q I1 (by simpa using rv) hw
end
section
variable {X : Cx} {pos : Pos}
end
structure It where
  go : Nat → Hp → Prop
  yld : Nat → Hp → V → Hp → Prop
  stop : Nat → Hp → Prop
def FpOk (X : Cx) (pins : List (Addr × Obj)) (H : Hp) (b : Addr) : Prop :=
  H b = none ∧ b ≠ X.env.locals ∧ b ∉ X.fs ∧ (b ∈ X.ex ∨ X.s₀.heap.objs.size ≤ b) ∧ (∀ x c, X.env.cells.lookup x = some c → c ≠ b) ∧ ∀ p ∈ X.pn ++ pins, p.1 ≠ b
theorem Inv.fpOk {X : Cx} {pins : List (Addr × Obj)} {σ : St} {H H' : Hp} {s : Shared} {b : Addr} (I : Inv X pins σ H s) (hb : s.heap.objs.size ≤ b) (hn : H' b = none) : FpOk X pins H' b := by
  refine ⟨hn, Nat.ne_of_gt (Nat.lt_of_lt_of_le I.lt hb), I.nofs hb, .inr (Nat.le_trans I.sz hb), fun x c e z => ?_, fun p hp z => ?_⟩
  · obtain ⟨v, q⟩ := I.cell x c e
    exact absurd (Nat.lt_of_lt_of_le q.lt (by rw [z]; exact hb)) (Nat.lt_irrefl _)
  · exact absurd (Nat.lt_of_lt_of_le (Heap.lt_size (I.pin p hp).1) (by rw [z]; exact hb)) (Nat.lt_irrefl _)
structure Turn (P : Program) (w : World) (K : PySem.W.Frag) (tg : Expr) (J : It) (fp : List Addr) (it : Addr) (tn : Nat → Heap → Prop) : Prop where
  mem : it ∈ fp
  obj : ∀ i h, tn i h → ∀ b ∈ fp, ∃ o, h.get? b = some o ∧ ∀ v, o.data ≠ .cell v
  keep : ∀ i h h', tn i h → (∀ b ∈ fp, ∀ o, h.get? b = some o → h'.get? b = some o) → tn i h'
  item : ∀ (X : Cx), X.prog = P → X.w = w → X.K = K → X.calm = true → ∀ (i : Nat) (pins : List (Addr × Obj)) (s : Shared) (σ : St) (H : Hp) (E : Value → Shared → Prop), Inv X pins σ H s → (∀ b ∈ fp, FpOk X pins H b) → tn i s.heap → J.go i H →
    wpAny (model P w) X.A (pyNext (.ref it)) (fun r s1 => ∃ u, r = some u ∧
      wpAny (model P w) X.A (letOwnedTupleGo tg (.ref it) u) (fun _ s2 => ∃ x H', Inv X pins σ H' s2 ∧ RelV x u ∧ J.yld i H x H' ∧ tn (i + 1) s2.heap ∧ ∀ b ∈ fp, H' b = none) E s1) E s
  done : ∀ (X : Cx), X.prog = P → X.w = w → X.K = K → X.calm = true → ∀ (i : Nat) (pins : List (Addr × Obj)) (s : Shared) (σ : St) (H : Hp) (E : Value → Shared → Prop), Inv X pins σ H s → (∀ b ∈ fp, FpOk X pins H b) → tn i s.heap → J.stop i H →
    wpAny (model P w) X.A (pyNext (.ref it)) (fun r s1 => r = none ∧ Inv X pins σ H s1) E s
  self : ∀ (A : Around) (i : Nat) (s : Shared) (Q : Value → Shared → Prop) (E : Value → Shared → Prop), tn i s.heap → Q (.ref it) s → wpAny (model P w) A (pyIter (.ref it)) Q E s
abbrev TI := St → Hp → (It → Hp → Prop) → Prop
def PIE (X : Cx) (pins : List (Addr × Obj)) (σ : St) (tg : Expr) (R : It → Hp → Prop) (itv : Value) (s2 : Shared) : Prop :=
  ∃ (it : Addr) (fp : List Addr) (tn : Nat → Heap → Prop) (J : It) (H' : Hp), itv = .ref it ∧ Inv X pins σ H' s2 ∧ Turn X.prog X.w X.K tg J fp it tn ∧ tn 0 s2.heap ∧ (∀ b ∈ fp, FpOk X pins H' b) ∧ R J H'
theorem go_of {M : Model} {A : Around} {E : Value → Shared → Prop} {s : Shared} {tg : Expr} {it : Addr} {u : Value} {o : Obj} {n : String} {vs : Array Value} {Q : Unit → Shared → Prop} (ho : s.heap.get? it = some o) (hc : o.cls = .type n) (hd : o.data = .fields vs)
    (hn : ["enumerate", "zip", "dict_itemiterator", "dict_reverseitemiterator", "odict_iterator", "itertools.zip_longest", "itertools.pairwise"].contains n = false) (hQ : Q () s) : wpAny M A (letOwnedTupleGo tg (.ref it) u) Q E s := by
  unfold letOwnedTupleGo
  cases tg <;> first
    | exact wpAny_pure hQ
    | (cases u <;> first
        | exact wpAny_pure hQ
        | (refine wpAny_bind (wpAny_load ho ?_)
           rw [hc, hd]
           show wpAny M A (if (["enumerate", "zip", "dict_itemiterator", "dict_reverseitemiterator", "odict_iterator", "itertools.zip_longest", "itertools.pairwise"].contains n && vs[0]? == some (rawInt _)) = true then _ else _) Q E s
           rw [if_neg (by intro h; rw [hn, Bool.false_and] at h; cases h)]
           exact wpAny_pure hQ))
def Itl (K : PySem.W.Frag) (a : Addr) : It :=
  ⟨fun i H => ∃ xs x, SqL K H a xs ∧ xs[i]? = some x, fun i H x H' => H' = H ∧ ∀ xs, SqL K H a xs → xs[i]? = some x, fun i H => ∃ xs, SqL K H a xs ∧ xs.length ≤ i⟩
def Itt (K : PySem.W.Frag) (a : Addr) : It :=
  ⟨fun i H => ∃ xs x, SqT K H a xs ∧ xs[i]? = some x, fun i H x H' => H' = H ∧ ∀ xs, SqT K H a xs → xs[i]? = some x, fun i H => ∃ xs, SqT K H a xs ∧ xs.length ≤ i⟩
def Itr (lo : Int) (n : Nat) : It := ⟨fun i _ => i < n, fun i H x H' => H' = H ∧ x = .int (lo + i), fun i _ => n ≤ i⟩
theorem turn_list {P : Program} {w : World} {K : PySem.W.Frag} {tg : Expr} (a it : Addr) : Turn P w K tg (Itl K a) [it] it (fun i h => h.IsListIter it a i) where
  mem := by simp
  obj := fun i h st b hb => by
    have e : b = it := by simpa using hb
    subst e
    obtain ⟨o, e, c, d⟩ := st
    exact ⟨o, e, fun v z => by rw [d] at z; cases z⟩
  keep := fun i h h' st k => st.at fun o e => k it (by simp) o e
  item := by
    intro X hP hw hK hc i pins s σ H E I hf st hg
    subst hP hw hK
    obtain ⟨xs, x, hq, hx⟩ := hg
    obtain ⟨its, rv, p, hz⟩ := I.list hq
    obtain ⟨u, hu, ru⟩ := rv.get hx
    obtain ⟨f0, f1, f2, f3, f4, f5⟩ := hf it (by simp)
    refine wpAny_pyNext_list_item st p.isList (x := u) (by simpa using hu) fun h' st' sb => ?_
    have I1 : Inv X pins σ H { s with heap := h' } := I.turned (t' := s.toks) (fun b o hb e => (sb.2 b hb).trans e) f0 f1 f3 f4 f5
    obtain ⟨o, e, c, d⟩ := id st'
    exact ⟨u, rfl, go_of (s := { s with heap := h' }) e c d (by decide) ⟨x, H, I1, ru, ⟨rfl, fun ys hy => by rw [I.list_inj hy hq]; exact hx⟩, st', fun b hb => (hf b hb).1⟩⟩
  done := by
    intro X hP hw hK hc i pins s σ H E I hf st hg
    subst hP hw hK
    obtain ⟨xs, hq, hx⟩ := hg
    obtain ⟨its, rv, p, hz⟩ := I.list hq
    obtain ⟨f0, f1, f2, f3, f4, f5⟩ := hf it (by simp)
    have hl := rv.length
    exact wpAny_pyNext_list_end (I.ok.hd hc) st p.isList (by simp; omega) fun h' eb => ⟨rfl, I.turned (t' := s.toks) (fun b o hb e => eb b o hb e) f0 f1 f3 f4 f5⟩
  self := fun _ _ _ _ _ st h => wpAny_pyIter_listiter st h
theorem turn_tuple {P : Program} {w : World} {K : PySem.W.Frag} {tg : Expr} (a it : Addr) : Turn P w K tg (Itt K a) [it] it (fun i h => h.IsTupleIter it a i) where
  mem := by simp
  obj := fun i h st b hb => by
    have e : b = it := by simpa using hb
    subst e
    obtain ⟨o, e, c, d⟩ := st
    exact ⟨o, e, fun v z => by rw [d] at z; cases z⟩
  keep := fun i h h' st k => st.at fun o e => k it (by simp) o e
  item := by
    intro X hP hw hK hc i pins s σ H E I hf st hg
    subst hP hw hK
    obtain ⟨xs, x, hq, hx⟩ := hg
    obtain ⟨its, rv, p, hz⟩ := I.tuple hq
    obtain ⟨u, hu, ru⟩ := rv.get hx
    obtain ⟨f0, f1, f2, f3, f4, f5⟩ := hf it (by simp)
    refine wpAny_pyNext_tuple_item st (show s.heap.IsTuple a its.toArray from p) (x := u) (by simpa using hu) fun h' st' sb => ?_
    have I1 : Inv X pins σ H { s with heap := h' } := I.turned (t' := s.toks) (fun b o hb e => (sb.2 b hb).trans e) f0 f1 f3 f4 f5
    obtain ⟨o, e, c, d⟩ := id st'
    exact ⟨u, rfl, go_of (s := { s with heap := h' }) e c d (by decide) ⟨x, H, I1, ru, ⟨rfl, fun ys hy => by rw [I.tuple_inj hy hq]; exact hx⟩, st', fun b hb => (hf b hb).1⟩⟩
  done := by
    intro X hP hw hK hc i pins s σ H E I hf st hg
    subst hP hw hK
    obtain ⟨xs, hq, hx⟩ := hg
    obtain ⟨its, rv, p, hz⟩ := I.tuple hq
    obtain ⟨f0, f1, f2, f3, f4, f5⟩ := hf it (by simp)
    have hl := rv.length
    exact wpAny_pyNext_tuple_end (I.ok.hd hc) st (show s.heap.IsTuple a its.toArray from p) (by simp; omega) fun h' eb => ⟨rfl, I.turned (t' := s.toks) (fun b o hb e => eb b o hb e) f0 f1 f3 f4 f5⟩
  self := fun _ _ _ _ _ st h => wpAny_pyIter_tupleiter st h
theorem turn_range {P : Program} {w : World} {K : PySem.W.Frag} {tg : Expr} (it : Addr) (lo : Int) (n : Nat) : Turn P w K tg (Itr lo n) [it] it (fun i h => IsRangeIter h it (lo + (i : Nat) * 1) ((n : Int) - (i : Nat)) 1) where
  mem := by simp
  obj := fun i h st b hb => by
    have e : b = it := by simpa using hb
    subst e
    exact ⟨_, st, fun v z => by
      have z' : Data.fields _ = Data.cell v := z
      cases z'⟩
  keep := fun i h h' st k => k it (by simp) _ st
  item := by
    intro X hP hw hK hc i pins s σ H E I hf st hg
    subst hP hw hK
    obtain ⟨f0, f1, f2, f3, f4, f5⟩ := hf it (by simp)
    have W := Walks.range (prog := X.prog) (w := X.w) (I.ok.hd hc) it lo 1 n
    refine W.item i s _ _ hg st fun v h' tk hv st' kk => ?_
    obtain ⟨t, rfl⟩ := hv
    have I1 : Inv X pins σ H { s with heap := h', toks := tk } := I.turned (fun b o hb e => kk b o (by simpa using hb) e) f0 f1 f3 f4 f5
    refine ⟨_, rfl, go_of (s := { s with heap := h', toks := tk }) (n := "range_iterator") st' rfl rfl (by decide) ⟨.int (lo + i), H, I1, ⟨t, ?_⟩, ⟨rfl, rfl⟩, st', fun b hb => (hf b hb).1⟩⟩
    rw [Int.mul_one]
  done := by
    intro X hP hw hK hc i pins s σ H E I hf st hg
    subst hP hw hK
    obtain ⟨f0, f1, f2, f3, f4, f5⟩ := hf it (by simp)
    exact wpAny_pyNext_range_end (I.ok.hd hc) st (by have : n ≤ i := hg; omega) fun h' eb => ⟨rfl, I.turned (t' := s.toks) (fun b o hb e => eb b o hb e) f0 f1 f3 f4 f5⟩
  self := fun _ _ _ _ _ st h => wpAny_pyIter_rangeiter st h
end L2
namespace L2
open PySem PySem.Spec PyProof.Rows
section
variable {X : Cx} {tg : Expr}
theorem range_it {pins : List (Addr × Obj)} {σ : St} {H : Hp} {s : Shared} {R : It → Hp → Prop} {E : Value → Shared → Prop} {lo hi : Int} {t u v : Tok} {tk : Nat} (I : Inv X pins σ H s) (h1 : -(2 ^ 62) ≤ lo) (h2 : lo < 2 ^ 62) (h3 : -(2 ^ 62) ≤ hi) (h4 : hi < 2 ^ 62)
    (q : R (Itr lo (hi - lo).toNat) H) : wpAny (model X.prog X.w) X.A (pyIter (.ref s.heap.objs.size)) (PIE X pins σ tg R) E { s with heap := s.heap.push { cls := .type "range", data := .fields #[.int lo t, .int hi u, .int 1 v] }, toks := tk } := by
  refine wpAny_pyIter_range (IsRange.new ..) (small_one h1 h2 h3 h4) ?_
  have I1 : Inv X pins σ H { s with heap := s.heap.push { cls := .type "range", data := .fields #[.int lo t, .int hi u, .int 1 v] }, toks := tk } := I.kept fun b o e => Heap.get?_push_of_some _ e
  refine ⟨(s.heap.push { cls := .type "range", data := .fields #[.int lo t, .int hi u, .int 1 v] }).objs.size, [(s.heap.push { cls := .type "range", data := .fields #[.int lo t, .int hi u, .int 1 v] }).objs.size], _, _, H, rfl,
    I1.kept (t' := tk) fun b o e => Heap.get?_push_of_some _ e, turn_range _ lo (hi - lo).toNat, ?_, fun b hb => ?_, q⟩
  · have e1 : lo + ((0 : Nat) : Int) * 1 = lo := by simp
    have e2 : (((hi - lo).toNat : Nat) : Int) - ((0 : Nat) : Int) = Builtin.Range.rangeSize lo hi 1 := by rw [rangeSize_one]; split <;> omega
    show IsRangeIter _ _ (lo + ((0 : Nat) : Int) * 1) ((((hi - lo).toNat : Nat) : Int) - ((0 : Nat) : Int)) 1
    rw [e1, e2]
    exact Heap.get?_push_size _ rfl
  · have e : b = (s.heap.push { cls := .type "range", data := .fields #[.int lo t, .int hi u, .int 1 v] }).objs.size := by simpa using hb
    subst e
    exact I1.fpOk (Nat.le_refl _) (I1.hok.fresh (Nat.le_refl _))
def pinsAt (fp : List Addr) (h : Heap) : List (Addr × Obj) := fp.filterMap fun b => (h.get? b).map fun o => (b, o)
theorem mem_pinsAt {fp : List Addr} {h : Heap} {b : Addr} {o : Obj} (hb : b ∈ fp) (e : h.get? b = some o) : (b, o) ∈ pinsAt fp h := List.mem_filterMap.mpr ⟨b, hb, by rw [e]; rfl⟩
theorem of_pinsAt {fp : List Addr} {h : Heap} {p : Addr × Obj} (hp : p ∈ pinsAt fp h) : p.1 ∈ fp ∧ h.get? p.1 = some p.2 := by
  obtain ⟨b, hb, e⟩ := List.mem_filterMap.mp hp
  cases q : h.get? b with
  | none => rw [q] at e; cases e
  | some o =>
    rw [q] at e
    have e' : (b, o) = p := Option.some.inj e
    subst e'
    exact ⟨hb, q⟩
theorem Inv.pinned {pins : List (Addr × Obj)} {σ : St} {H : Hp} {s : Shared} {fp : List Addr} (I : Inv X pins σ H s) (hf : ∀ b ∈ fp, FpOk X pins H b) (ho : ∀ b ∈ fp, ∃ o, s.heap.get? b = some o ∧ ∀ v, o.data ≠ .cell v) : Inv X (pins ++ pinsAt fp s.heap) σ H s :=
  I.pins_of fun p hp => (List.mem_append.mp hp).elim (fun z => I.pin p (List.mem_append_right _ z)) fun z => by
    obtain ⟨hb, e⟩ := of_pinsAt z
    obtain ⟨f0, f1, f2, _⟩ := hf p.1 hb
    obtain ⟨o, e', d⟩ := ho p.1 hb
    rw [e] at e'; cases e'
    exact ⟨e, f0, f1, f2, d⟩
theorem Inv.unpinned {pins pl : List (Addr × Obj)} {σ : St} {H : Hp} {s : Shared} (I : Inv X (pins ++ pl) σ H s) : Inv X pins σ H s := I.pins_of fun p hp => I.pin p (List.mem_append_right _ (List.mem_append_left _ hp))
end
end L2
namespace L2
open PySem PySem.Spec PyProof.Rows
abbrev R2 := V → V → Hp → VK → Prop
def OpR (X : Cx) (f : Value → Value → Sem Value) (r : R2) : Prop :=
  ∀ (pins : List (Addr × Obj)) (s : Shared) (σ : St) (H : Hp) (x y : V) (v u : Value) (Q : VK), Inv X pins σ H s → RelV x v → RelV y u → r x y H Q →
    wpAny (model X.prog X.w) X.A (f v u) (EP X pins σ Q) X.xe s
def UnR (X : Cx) (f : Value → Sem Value) (r : V → Hp → VK → Prop) : Prop :=
  ∀ (pins : List (Addr × Obj)) (s : Shared) (σ : St) (H : Hp) (x : V) (v : Value) (Q : VK), Inv X pins σ H s → RelV x v → r x H Q →
    wpAny (model X.prog X.w) X.A (f v) (EP X pins σ Q) X.xe s
def CallR (X : Cx) (f : Value) (r : List V → Hp → VK → Prop) : Prop :=
  ∀ (pins : List (Addr × Obj)) (s : Shared) (σ : St) (H : Hp) (xs : List V) (us : List Value) (Q : VK), Inv X pins σ H s → Vals xs us → r xs H Q →
    wpAny (model X.prog X.w) X.A (call f us) (EP X pins σ Q) X.xe s
def TruR (X : Cx) (r : V → Hp → (Bool → Hp → Prop) → Prop) : Prop :=
  ∀ (pins : List (Addr × Obj)) (s : Shared) (σ : St) (H : Hp) (x : V) (v : Value) (Q : Bool → Hp → Prop), Inv X pins σ H s → RelV x v → r x H Q →
    wpAny (model X.prog X.w) X.A (truthy v) (TP X pins σ Q) X.xe s
def rI (C : Int → Int → Prop) (g : Int → Int → V) : R2 := fun x y H Q => ∃ i j, x = .int i ∧ y = .int j ∧ C i j ∧ Q (g i j) H
def rI0 (g : Int → Int → V) : R2 := fun x y H Q => ∃ i j, x = .int i ∧ y = .int j ∧ Q (g i j) H
def rU (g : Int → V) : V → Hp → VK → Prop := fun x H Q => ∃ i, x = .int i ∧ Q (g i) H
section
variable {X : Cx} {a b c : Expr} {ta tb tc : TE} {pos : Pos}
theorem opI {f : Value → Value → Sem Value} {C : Int → Int → Prop} {g : Int → Int → Int}
    (rule : ∀ (i j : Int) (t u : Tok) (s : Shared) (Q : Value → Shared → Prop) (E : Value → Shared → Prop), C i j → Q (.int (g i j) s.toks) { s with toks := s.toks + 1 } → wpAny (model X.prog X.w) X.A (f (.int i t) (.int j u)) Q E s) :
    OpR X f (rI C fun i j => .int (g i j)) := by
  intro pins s σ H x y v u Q I rx ry h
  obtain ⟨i, j, rfl, rfl, hc, q⟩ := h
  obtain ⟨t, rfl⟩ := rx
  obtain ⟨t', rfl⟩ := ry
  exact rule i j t t' s _ _ hc ⟨.int (g i j), H, I.tok _, ⟨_, rfl⟩, q⟩
theorem opI0 {f : Value → Value → Sem Value} {g : Int → Int → Int}
    (rule : ∀ (i j : Int) (t u : Tok) (s : Shared) (Q : Value → Shared → Prop) (E : Value → Shared → Prop), Q (.int (g i j) s.toks) { s with toks := s.toks + 1 } → wpAny (model X.prog X.w) X.A (f (.int i t) (.int j u)) Q E s) :
    OpR X f (rI0 fun i j => .int (g i j)) := by
  intro pins s σ H x y v u Q I rx ry h
  obtain ⟨i, j, rfl, rfl, q⟩ := h
  obtain ⟨t, rfl⟩ := rx
  obtain ⟨t', rfl⟩ := ry
  exact rule i j t t' s _ _ ⟨.int (g i j), H, I.tok _, ⟨_, rfl⟩, q⟩
theorem opB0 {f : Value → Value → Sem Value} {g : Int → Int → Bool}
    (rule : ∀ (i j : Int) (t u : Tok) (s : Shared) (Q : Value → Shared → Prop) (E : Value → Shared → Prop), Q (.bool (g i j)) s → wpAny (model X.prog X.w) X.A (f (.int i t) (.int j u)) Q E s) :
    OpR X f (rI0 fun i j => .bl (g i j)) := by
  intro pins s σ H x y v u Q I rx ry h
  obtain ⟨i, j, rfl, rfl, q⟩ := h
  obtain ⟨t, rfl⟩ := rx
  obtain ⟨t', rfl⟩ := ry
  exact rule i j t t' s _ _ ⟨.bl (g i j), H, I, rfl, q⟩
def CDiv (i j : Int) : Prop := 0 < j ∧ j < 1073741824
def CPow (i j : Int) : Prop := 0 ≤ j ∧ j ≤ 1000000 ∧ i.natAbs < 2 ^ 64
def CMul (i j : Int) : Prop := (-(2 ^ 64) < i ∧ i < 2 ^ 64) ∨ (-(2 ^ 64) < j ∧ j < 2 ^ 64)
theorem CMul.ok {i j : Int} (h : CMul i j) : IntMulOk i j := by
  rcases h with ⟨h1, h2⟩ | ⟨h1, h2⟩
  · exact .of_left (intBits_le_64 h1 h2)
  · exact .of_right (intBits_le_64 h1 h2)
theorem op_add : OpR X (binaryOp .Add) (rI0 fun i j => .int (i + j)) := opI0 fun _ _ _ _ _ _ _ q => add_int q
theorem op_sub : OpR X (binaryOp .Sub) (rI0 fun i j => .int (i - j)) := opI0 fun _ _ _ _ _ _ _ q => sub_int q
theorem op_mul : OpR X (binaryOp .Mult) (rI CMul fun i j => .int (i * j)) := opI fun _ _ _ _ _ _ _ hc q => mul_int q hc.ok
theorem op_fdiv : OpR X (binaryOp .FloorDiv) (rI CDiv fun i j => .int (i / j)) := opI fun i j _ _ _ _ _ hc q => by
  have h1 : (0 : Int) < j := hc.1
  have h2 : j < 1073741824 := hc.2
  exact floordiv_int (by omega) (by rw [Int.fdiv_eq_ediv_of_nonneg i (by omega)]; exact q) (.inl (PyProof.noPylong_small (by omega)))
theorem op_mod : OpR X (binaryOp .Mod) (rI (fun _ j => 0 < j) fun i j => .int (i % j)) := opI fun i j _ _ _ _ _ hc q => by
  have h1 : (0 : Int) < j := hc
  exact mod_int' (by omega) (by rw [Int.fmod_eq_emod_of_nonneg i (by omega)]; exact q)
theorem op_pow : OpR X (binaryOp .Pow) (rI CPow fun i j => .int (i ^ j.toNat)) := opI fun _ _ _ _ _ _ _ hc q => pow_int_small hc.1 hc.2.1 hc.2.2 q
theorem unI {f : Value → Sem Value} {g : Int → Int}
    (rule : ∀ (i : Int) (t : Tok) (s : Shared) (Q : Value → Shared → Prop) (E : Value → Shared → Prop), Q (.int (g i) s.toks) { s with toks := s.toks + 1 } → wpAny (model X.prog X.w) X.A (f (.int i t)) Q E s) :
    UnR X f (rU fun i => .int (g i)) := by
  intro pins s σ H x v Q I rx h
  obtain ⟨i, rfl, q⟩ := h
  obtain ⟨t, rfl⟩ := rx
  exact rule i t s _ _ ⟨.int (g i), H, I.tok _, ⟨_, rfl⟩, q⟩
theorem un_neg : UnR X (unaryOp .USub) (rU fun i => .int (-i)) := unI fun _ _ _ _ _ q => neg_int q
end
def scal : V → V → Bool
  | .non, .non => true | .non, .int _ => true | .int _, .non => true | .non, .bl _ => true | .bl _, .non => true | .non, .str _ => true | .str _, .non => true
  | .int _, .int _ => true | .bl _, .bl _ => true | .str _, .str _ => true | .byt _, .byt _ => true
  | .int _, .str _ => true | .str _, .int _ => true | .bl _, .str _ => true | .str _, .bl _ => true
  | _, _ => false
def rEq : R2 := fun x y H Q => scal x y = true ∧ Q (.bl (decide (x = y))) H
def rNe : R2 := fun x y H Q => scal x y = true ∧ Q (.bl (!decide (x = y))) H
theorem dec_int {i j : Int} : decide (V.int i = V.int j) = (i == j) := by
  rw [Bool.eq_iff_iff]
  simp
theorem dec_bl {i j : Bool} : decide (V.bl i = V.bl j) = (i == j) := by
  rw [Bool.eq_iff_iff]
  simp
theorem dec_str {i j : Str} : decide (V.str i = V.str j) = (i == j) := by
  rw [Bool.eq_iff_iff]
  simp
theorem dec_byt {i j : Array UInt8} : decide (V.byt i = V.byt j) = (i.toList == j.toList) := by
  rw [Bool.eq_iff_iff]
  cases i
  cases j
  simp
section
variable {X : Cx} {a b c : Expr} {ta tb tc : TE} {pos : Pos}
theorem fin_bl {pins : List (Addr × Obj)} {σ : St} {H : Hp} {s : Shared} {Q : VK} {k k' : Bool} (I : Inv X pins σ H s) (q : Q (.bl k) H) (e : k = k') : EP X pins σ Q (.bool k') s := by
  subst e
  exact ⟨.bl k, H, I, rfl, q⟩
theorem op_eq : OpR X (compareOp .Eq) rEq := by
  intro pins s σ H x y v u Q I rx ry h
  obtain ⟨hs, q⟩ := h
  cases x with
  | non =>
    cases rx
    cases y with
    | non => cases ry; exact PySem.EqNone.eq_none_none (fin_bl I q (by simp))
    | bl j => cases ry; exact PySem.EqNone.eq_none_bool (fin_bl I q (by simp))
    | int j => obtain ⟨t', rfl⟩ := ry; exact PySem.EqNone.eq_none_int (fin_bl I q (by simp))
    | str j => obtain ⟨t', rfl⟩ := ry; exact PySem.EqNone.eq_none_str (fin_bl I q (by simp))
    | _ => exact absurd (show false = true from hs) Bool.false_ne_true
  | bl i =>
    cases rx
    cases y with
    | non => cases ry; exact PySem.EqNone.eq_bool_none (fin_bl I q (by simp))
    | bl j => cases ry; exact eq_bool (fin_bl I q dec_bl)
    | str j => obtain ⟨t', rfl⟩ := ry; exact PySem.EqMixed.eq_bool_str (fin_bl I q (by simp))
    | _ => exact absurd (show false = true from hs) Bool.false_ne_true
  | int i =>
    obtain ⟨t, rfl⟩ := rx
    cases y with
    | non => cases ry; exact PySem.EqNone.eq_int_none (fin_bl I q (by simp))
    | int j => obtain ⟨t', rfl⟩ := ry; exact eq_int (fin_bl I q dec_int)
    | str j => obtain ⟨t', rfl⟩ := ry; exact PySem.EqMixed.eq_int_str (fin_bl I q (by simp))
    | _ => exact absurd (show false = true from hs) Bool.false_ne_true
  | str i =>
    obtain ⟨t, rfl⟩ := rx
    cases y with
    | non => cases ry; exact PySem.EqNone.eq_str_none (fin_bl I q (by simp))
    | bl j => cases ry; exact PySem.EqMixed.eq_str_bool (fin_bl I q (by simp))
    | int j => obtain ⟨t', rfl⟩ := ry; exact PySem.EqMixed.eq_str_int (fin_bl I q (by simp))
    | str j => obtain ⟨t', rfl⟩ := ry; exact eq_str (fin_bl I q dec_str)
    | _ => exact absurd (show false = true from hs) Bool.false_ne_true
  | byt i =>
    obtain ⟨t, rfl⟩ := rx
    cases y with
    | byt j => obtain ⟨t', rfl⟩ := ry; exact PySem.W.eq_bytes (fin_bl I q dec_byt)
    | _ => exact absurd (show false = true from hs) Bool.false_ne_true
  | _ => cases y <;> exact absurd (show false = true from hs) Bool.false_ne_true
theorem op_ne : OpR X (compareOp .NotEq) rNe := by
  intro pins s σ H x y v u Q I rx ry h
  obtain ⟨hs, q⟩ := h
  cases x with
  | non =>
    cases rx
    cases y with
    | non => cases ry; exact PySem.EqNone.ne_none_none (fin_bl I q (by simp))
    | bl j => cases ry; exact PySem.EqNone.ne_none_bool (fin_bl I q (by simp))
    | int j => obtain ⟨t', rfl⟩ := ry; exact PySem.EqNone.ne_none_int (fin_bl I q (by simp))
    | str j => obtain ⟨t', rfl⟩ := ry; exact PySem.EqNone.ne_none_str (fin_bl I q (by simp))
    | _ => exact absurd (show false = true from hs) Bool.false_ne_true
  | bl i =>
    cases rx
    cases y with
    | non => cases ry; exact PySem.EqNone.ne_bool_none (fin_bl I q (by simp))
    | bl j => cases ry; exact ne_bool (fin_bl I q (congrArg not dec_bl))
    | str j => obtain ⟨t', rfl⟩ := ry; exact PySem.EqMixed.ne_bool_str (fin_bl I q (by simp))
    | _ => exact absurd (show false = true from hs) Bool.false_ne_true
  | int i =>
    obtain ⟨t, rfl⟩ := rx
    cases y with
    | non => cases ry; exact PySem.EqNone.ne_int_none (fin_bl I q (by simp))
    | int j => obtain ⟨t', rfl⟩ := ry; exact ne_int (fin_bl I q (congrArg not dec_int))
    | str j => obtain ⟨t', rfl⟩ := ry; exact PySem.EqMixed.ne_int_str (fin_bl I q (by simp))
    | _ => exact absurd (show false = true from hs) Bool.false_ne_true
  | str i =>
    obtain ⟨t, rfl⟩ := rx
    cases y with
    | non => cases ry; exact PySem.EqNone.ne_str_none (fin_bl I q (by simp))
    | bl j => cases ry; exact PySem.EqMixed.ne_str_bool (fin_bl I q (by simp))
    | int j => obtain ⟨t', rfl⟩ := ry; exact PySem.EqMixed.ne_str_int (fin_bl I q (by simp))
    | str j => obtain ⟨t', rfl⟩ := ry; exact ne_str (fin_bl I q (congrArg not dec_str))
    | _ => exact absurd (show false = true from hs) Bool.false_ne_true
  | byt i =>
    obtain ⟨t, rfl⟩ := rx
    cases y with
    | byt j => obtain ⟨t', rfl⟩ := ry; exact PySem.W.ne_bytes (fin_bl I q (congrArg not dec_byt))
    | _ => exact absurd (show false = true from hs) Bool.false_ne_true
  | _ => cases y <;> exact absurd (show false = true from hs) Bool.false_ne_true
theorem op_lt : OpR X (compareOp .Lt) (rI0 fun i j => .bl (decide (i < j))) := opB0 fun _ _ _ _ _ _ _ q => lt_int q
theorem op_le : OpR X (compareOp .LtE) (rI0 fun i j => .bl (decide (i ≤ j))) := opB0 fun _ _ _ _ _ _ _ q => le_int q
theorem op_gt : OpR X (compareOp .Gt) (rI0 fun i j => .bl (decide (j < i))) := opB0 fun _ _ _ _ _ _ _ q => gt_int q
theorem op_ge : OpR X (compareOp .GtE) (rI0 fun i j => .bl (decide (j ≤ i))) := opB0 fun _ _ _ _ _ _ _ q => ge_int q
theorem op_isN : OpR X (compareOp .Is) (fun x y H Q => y = .non ∧ Q (.bl (decide (x = .non))) H) := by
  intro pins s σ H x y v u Q I rx ry h
  obtain ⟨rfl, q⟩ := h
  cases ry
  refine is_none_gen (fin_bl I q ?_)
  cases x <;> first
    | (cases rx; rfl)
    | (obtain ⟨t, rfl⟩ := rx; rfl)
def TruV (K : PySem.W.Frag) (x : V) (H : Hp) (k : Bool) : Prop :=
  match x with
  | .non => k = false
  | .bl b => k = b
  | .int i => k = (i != 0)
  | .str y => y.length ≤ sizeLine ∧ k = ((y.length : Int) != 0)
  | .byt y => y.size ≤ sizeLine ∧ k = ((y.size : Int) != 0)
  | .ref p => (∃ xs, SqL K H p xs ∧ k = !xs.isEmpty) ∨ (∃ xs, SqT K H p xs ∧ k = !xs.isEmpty) ∨ ∃ kvs, H p = some (.dK kvs) ∧ k = !kvs.isEmpty
  | _ => False
theorem isEmpty_kv {κ : Type} {kvs : List (κ × V)} {vs : List (κ × Value)} (r : KV kvs vs) : (!vs.isEmpty) = !kvs.isEmpty := by
  cases r <;> rfl
theorem isEmpty_of {xs : List V} {its : List Value} (r : Vals xs its) : (!its.toArray.isEmpty) = !xs.isEmpty := by
  cases r <;> simp
theorem line63 : (sizeLine : Nat) < 2 ^ 63 := by rw [sizeLine_eq]; decide
theorem tru_ok : TruR X (fun x H Q => ∃ k, TruV X.K x H k ∧ Q k H) := by
  intro pins s σ H x v Q I rx h
  obtain ⟨k, e, q⟩ := h
  have hl := line63
  have hs : sizeLine = 16777216 := sizeLine_eq
  cases x with
  | non =>
    cases rx
    have e' : k = false := e
    subst e'
    exact truthy_none ⟨H, I, q⟩
  | bl b =>
    cases rx
    have e' : k = b := e
    subst e'
    exact wpAny_truthy_bool ⟨H, I, q⟩
  | int i =>
    obtain ⟨t, rfl⟩ := rx
    have e' : k = (i != 0) := e
    subst e'
    exact PySem.P.truthy_int ⟨H, I, q⟩
  | str y =>
    obtain ⟨t, rfl⟩ := rx
    obtain ⟨hy, e'⟩ : y.length ≤ sizeLine ∧ k = ((y.length : Int) != 0) := e
    subst e'
    exact PySem.P.truthy_str (by omega) ⟨H, I.tok _, q⟩
  | byt y =>
    obtain ⟨t, rfl⟩ := rx
    obtain ⟨hy, e'⟩ : y.size ≤ sizeLine ∧ k = ((y.size : Int) != 0) := e
    subst e'
    exact PySem.W.truthy_bytes (by omega) ⟨H, I.tok _, q⟩
  | ref p =>
    cases rx
    have e' : (∃ xs, SqL X.K H p xs ∧ k = !xs.isEmpty) ∨ (∃ xs, SqT X.K H p xs ∧ k = !xs.isEmpty) ∨ ∃ kvs, H p = some (.dK kvs) ∧ k = !kvs.isEmpty := e
    rcases e' with ⟨xs, hx, e'⟩ | ⟨xs, hx, e'⟩ | ⟨kvs, hx, e'⟩
    · subst e'
      obtain ⟨its, r, pl, hz⟩ := I.list hx
      have hlen := r.length
      exact wpAny_truthy_list pl.isList (by simp only [List.size_toArray]; omega) ⟨H, I.tok _, by rw [isEmpty_of r]; exact q⟩
    · subst e'
      obtain ⟨its, r, pl, hz⟩ := I.tuple hx
      have hlen := r.length
      exact truthy_tuple pl (by simp only [List.size_toArray]; omega) ⟨H, I.tok _, by rw [isEmpty_of r]; exact q⟩
    · subst e'
      obtain ⟨hz, hS, vs, r, m⟩ : kvs.length ≤ sizeLine ∧ (p == sysModules) = false ∧ ∃ vs, KV kvs vs ∧ s.heap.DictOf (mixKind X.prog X.w) p vs := I.hok p _ hx
      have hlen : kvs.length = vs.length := Paired.length r
      exact wpAny_truthy_dict hS m (by omega) ⟨H, I.tok _, by rw [isEmpty_kv r]; exact q⟩
  | _ => exact (show False from e).elim
theorem vals1 {x : V} {us : List Value} (r : Vals [x] us) : ∃ u, us = [u] ∧ RelV x u := by
  cases r with
  | cons r1 r2 => cases r2; exact ⟨_, rfl, r1⟩
theorem vals2 {x y : V} {us : List Value} (r : Vals [x, y] us) : ∃ u w', us = [u, w'] ∧ RelV x u ∧ RelV y w' := by
  cases r with
  | cons r1 r2 =>
    cases r2 with
    | cons r3 r4 => cases r4; exact ⟨_, _, rfl, r1, r3⟩
theorem call_max2 (hc : X.calm = true) : CallR X (.builtin "max") (fun xs H Q => ∃ i j, xs = [.int i, .int j] ∧ Q (.int (if j > i then j else i)) H) := by
  intro pins s σ H xs us Q I r h
  obtain ⟨i, j, rfl, q⟩ := h
  obtain ⟨u, w', rfl, ⟨t, rfl⟩, ⟨t', rfl⟩⟩ := vals2 r
  refine max_two_ints (I.ok.hd hc) fun h' tk k => ⟨_, H, I.kept k, ?_, q⟩
  by_cases hj : j > i
  · rw [if_pos hj, if_pos hj]; exact ⟨_, rfl⟩
  · rw [if_neg hj, if_neg hj]; exact ⟨_, rfl⟩
theorem call_int1 : CallR X (.type "int") (fun xs H Q => (∃ i, xs = [.int i] ∧ Q (.int i) H) ∨ ∃ k, xs = [.bl k] ∧ Q (.int (if k then 1 else 0)) H) := by
  intro pins s σ H xs us Q I r h
  rcases h with ⟨i, rfl, q⟩ | ⟨k, rfl, q⟩
  · obtain ⟨u, rfl, t, rfl⟩ := vals1 r
    exact call_int_int ⟨.int i, H, I, ⟨_, rfl⟩, q⟩
  · obtain ⟨u, rfl, r1⟩ := vals1 r
    cases r1
    exact call_int_bool ⟨.int (if k then 1 else 0), H, I.tok _, ⟨_, rfl⟩, q⟩
end
end L2
namespace L2
open PySem PySem.Spec PyProof.Rows
structure ObjM (h : Heap) (x dx C : Addr) (mA : Str → Option Value) : Prop where
  obj : h.get? x = some (PySem.W.instObj C dx)
  ns : h.Ns1 dx mA
  ne : dx ≠ x
theorem lookIn_ns {h : Heap} {dx : Addr} {mA : Str → Option Value} (n : h.Ns1 dx mA) : ∃ od, h.get? dx = some od ∧ ∀ name, PySem.W.lookIn name od = some (mA name) := by
  obtain ⟨o, es, ep, ho, hd, hk, _, hm⟩ := n
  refine ⟨o, ho, fun name => ?_⟩
  have e := hm name
  unfold nsFind findBy at e
  rw [← Array.find?_toList] at e
  unfold PySem.W.lookIn
  rw [hd]
  dsimp only
  split
  · rename_i y q
    rw [q] at e
    exact congrArg some e
  · rename_i q
    rw [q] at e
    have a : es.toList.any (·.refKey) = false := by
      rw [List.any_eq_false]
      intro y hy
      obtain ⟨z, t, hkey⟩ := hk y (Array.mem_toList_iff.mp hy)
      simp [DictEntry.refKey, hkey]
    have a' : ¬ es.toList.any (·.refKey) = true := by rw [a]; exact Bool.false_ne_true
    rw [if_neg a']
    exact congrArg some e
theorem ObjM.look {h : Heap} {x dx C : Addr} {mA : Str → Option Value} (I : ObjM h x dx C mA) : ∃ od, PySem.W.InstAt h x (PySem.W.instObj C dx) C (some od) ∧ ∀ name, PySem.W.lookIn name od = some (mA name) :=
  let ⟨od, ho, hl⟩ := lookIn_ns I.ns
  ⟨od, ⟨I.obj, rfl, rfl, ho⟩, hl⟩
section
variable {prog : Program} {w : World} {A : Around} {E : Value → Shared → Prop} {s : Shared} {K : PySem.W.Frag} {x dx C f : Addr} {mA : Str → Option Value} {name : Str} {v : Value}
end
def putF (f : Str) (v : V) : List (Str × V) → List (Str × V)
  | [] => [(f, v)]
  | (g, x) :: r => if g = f then (g, v) :: r else (g, x) :: putF f v r
section
variable {P : Program} {w : World} {H H' : Hp} {h h' : Heap} {a C dx : Addr} {fs fs' : List (Str × V)}
theorem ins_get (hok : HOk P w H h) (e : H a = some (.ins C dx fs)) : ∃ mA, ObjM h a dx C mA ∧ (∀ f, RelO (fs.lookup f) (mA f)) ∧ PySem.Within mA (fs.map (·.1)) ∧ fs.length ≤ 1000 ∧ H dx = some (.own a) := by
  obtain ⟨d, z, ne, ob, mA, n, r, q⟩ := (show ObjOk P w H h a (.ins C dx fs) from hok a _ e)
  exact ⟨mA, ⟨ob, n, ne⟩, r, q, z, d⟩
end
structure Cls (K : PySem.W.Frag) (C : Addr) : Prop where
  pg : PySem.W.plainGet K C Str.empty = true
  hd : PySem.W.hasDictIn K C = true
  po : PySem.W.plainOver K C = true
  sa : PySem.W.findIn K (.ref C) "__setattr__" = some (some (.builtin "object.__setattr__"))
theorem Cls.get {K : PySem.W.Frag} {C : Addr} (c : Cls K C) (f : Str) : PySem.W.plainGet K C f = true := c.pg
section
variable {X : Cx} {pins : List (Addr × Obj)} {σ : St} {H : Hp} {s : Shared} {a C dx : Addr} {fs : List (Str × V)} {f : Str} {v : V} {A : Around} {E : Value → Shared → Prop}
end
section
variable {X : Cx} {o e value : Expr} {f : Str} {pos pos' tpos : Pos} {ta tv : TE}
end
section
variable {X : Cx} {pins : List (Addr × Obj)} {σ : St} {H : Hp} {s : Shared} {A : Around} {E : Value → Shared → Prop} {Q : Value → Shared → Prop} {c : Value} {b : Bool}
inductive TyOf (K : PySem.W.Frag) (H : Hp) : V → Value → Prop where
  | non : TyOf K H .non (.type "NoneType")
  | bl (x : Bool) : TyOf K H (.bl x) (.type "bool")
  | int (i : Int) : TyOf K H (.int i) (.type "int")
  | str (x : Str) : TyOf K H (.str x) (.type "str")
  | flt (x : UInt64) : TyOf K H (.flt x) (.type "float")
  | lst {a : Addr} {xs : List V} (e : H a = some (.lst xs)) : TyOf K H (.ref a) (.type "list")
  | frz {a : Addr} {o : Obj} {xs : List V} (e : H a = some (.frz o (.lst xs))) : TyOf K H (.ref a) (.type "list")
  | tup {a : Addr} {xs : List V} (e : H a = some (.tup xs)) : TyOf K H (.ref a) (.type "tuple")
  | dK {a : Addr} {kvs : List (Key × V)} (e : H a = some (.dK kvs)) : TyOf K H (.ref a) (.type "dict")
  | dT {a : Addr} {kvs : List (List Key × V)} (e : H a = some (.dT kvs)) : TyOf K H (.ref a) (.type "dict")
  | ins {a C dx : Addr} {fs : List (Str × V)} (e : H a = some (.ins C dx fs)) (cl : Cls K C) (ha : PySem.W.findIn K (.ref C) "__class__" = some (some (.builtin "object.__class__")))
      (hn : PySem.W.specialIn K (.builtin "object.__class__") "__get__" = some (some (.builtin "getset_descriptor.__get__"))) (htk : PySem.W.takesIn K (.builtin "object.__class__") = some true)
      (hm : PySem.W.mroIn K C (.type "object") = some true) : TyOf K H (.ref a) (.ref C)
theorem isinst_ok {x : V} {u t : Value} (I : Inv X pins σ H s) (rx : RelV x u) (ty : TyOf X.K H x t) (e : PySem.W.kitOne X.K t c = some b) (h : ∀ tk, Q (.bool b) { s with toks := tk }) :
    wpAny (model X.prog X.w) A (call (.builtin "isinstance") [u, c]) Q E s := by
  cases ty with
  | non => cases (show u = Value.none from rx); exact PySem.W.kia_one PySem.W.kitx_none I.kIn True.intro e (fun z => nomatch z) h
  | bl y => cases (show u = Value.bool y from rx); exact PySem.W.kia_one PySem.W.kitx_bool I.kIn True.intro e (fun z => nomatch z) h
  | int i => obtain ⟨t, q⟩ := (show ∃ t, u = Value.int i t from rx); cases q; exact PySem.W.kia_one PySem.W.kitx_int I.kIn True.intro e (fun z => nomatch z) h
  | str y => obtain ⟨t, q⟩ := (show ∃ t, u = Value.str y t from rx); cases q; exact PySem.W.kia_one PySem.W.kitx_str I.kIn True.intro e (fun z => nomatch z) h
  | flt y => obtain ⟨t, q⟩ := (show ∃ t, u = Value.float y t from rx); cases q; exact PySem.W.kia_one PySem.W.kitx_float I.kIn True.intro e (fun z => nomatch z) h
  | @lst a xs ea =>
    cases (show u = Value.ref a from rx)
    obtain ⟨_, _, n, _, h1⟩ := (show ObjOk X.prog X.w H s.heap a (.lst xs) from I.hok a _ ea)
    exact PySem.W.kia_one PySem.W.kitx_list I.kIn ⟨_, h1, rfl⟩ e (fun z => nomatch z) h
  | @frz a ob xs ea =>
    cases (show u = Value.ref a from rx)
    obtain ⟨_, _, _, n, _, h1⟩ := (show ObjOk X.prog X.w H s.heap a (.frz ob (.lst xs)) from I.hok a _ ea)
    exact PySem.W.kia_one PySem.W.kitx_list I.kIn ⟨_, h1, rfl⟩ e (fun z => nomatch z) h
  | @tup a xs ea =>
    cases (show u = Value.ref a from rx)
    obtain ⟨_, _, _, p⟩ := (show ObjOk X.prog X.w H s.heap a (.tup xs) from I.hok a _ ea)
    obtain ⟨o, h1, h2, _⟩ := p
    exact PySem.W.kia_one PySem.W.kitx_tuple I.kIn ⟨o, h1, h2⟩ e (fun z => nomatch z) h
  | @dK a kvs ea =>
    cases (show u = Value.ref a from rx)
    obtain ⟨_, _, vs, _, p⟩ := (show ObjOk X.prog X.w H s.heap a (.dK kvs) from I.hok a _ ea)
    obtain ⟨o, es, ep, h1, h2, _⟩ := p
    exact PySem.W.kia_one PySem.W.kitx_dict I.kIn ⟨o, h1, h2.1⟩ e (fun z => nomatch z) h
  | @dT a kvs ea =>
    cases (show u = Value.ref a from rx)
    obtain ⟨_, _, xs, _, o, es, ep, h1, h2, _⟩ := (show ObjOk X.prog X.w H s.heap a (.dT kvs) from I.hok a _ ea)
    exact PySem.W.kia_one PySem.W.kitx_dict I.kIn ⟨o, h1, h2.1⟩ e (fun z => nomatch z) h
  | @ins a C dx fs ea cl ha hn htk hm =>
    cases (show u = Value.ref a from rx)
    obtain ⟨mA, O, _⟩ := ins_get I.hok ea
    obtain ⟨od, J, _⟩ := O.look
    exact PySem.W.kia_one (PySem.W.kitx_own (cl.get _) cl.hd ha hn htk hm) I.kIn J e (fun z => nomatch z) h
end
end L2
namespace L2
open PySem PySem.Spec PyProof.Rows
structure Room (k : Nat) (A : Around) : Prop where
  hd : A.handled = none
  dp : A.depth + 3 * k + 5 < recursionLimit
  un : A.units + 16 * k + 200 < cLine
theorem Room.deeper {k : Nat} {A : Around} (r : Room (k + 1) A) (env : Env) : Room k (A.deeper env) :=
  ⟨r.hd, by have := r.dp; show A.depth + 1 + 3 * k + 5 < _; omega, by have := r.un; show A.units + 3 + 16 * k + 200 < _; omega⟩
theorem Room.depth {k : Nat} {A : Around} (r : Room k A) : A.depth < recursionLimit := by have := r.dp; omega
section
variable {X : Cx} {e : Expr} {es : List Expr} {te : TE} {t : TA} {pos : Pos}
end
abbrev Sp := List V → Hp → VK → XK → Prop
abbrev CXT := List Env → Hp → Shared → XK → Value → Shared → Prop
structure Env0 (P : Program) (w : World) (K : PySem.W.Frag) (mg : Str → Option Value) (base : Heap) (A : Around) (outer : List Env) (s : Shared) (H : Hp) : Prop where
  frames : A.frames = some outer
  mod : Mod K mg base
  bs : ∀ b o, base.get? b = some o → s.heap.get? b = some o ∧ H b = none
  bsz : base.objs.size ≤ s.heap.objs.size
  funs : s.heap.FunFrames base outer
  frf : ∀ b ∈ frs outer, H b = none
  hok : HOk P w H s.heap
  bare : AllBare s.gens
def CE (outer : List Env) (P : Program) (w : World) (H : Hp) (s : Shared) (Q : VK) (u : Value) (s' : Shared) : Prop :=
  ∃ v H', s'.os = s.os ∧ AllBare s'.gens ∧ Un (frs outer) [] H H' s.heap s'.heap ∧ HOk P w H' s'.heap ∧ RelV v u ∧ Q v H'
def CR (CX : CXT) (outer : List Env) (P : Program) (w : World) (H : Hp) (s : Shared) (Q : VK) (E : XK) (r : Result) (s' : Shared) : Prop :=
  match r with
  | .ok (.ret u) => CE outer P w H s Q u s'
  | .ok _ => False
  | .error e => CX outer H s E e s'
structure FnOk (P : Program) (w : World) (K : PySem.W.Frag) (mg : Str → Option Value) (base : Heap) (CX : CXT) (k : Nat) (f : Addr) (fd : FuncData) (ps : List Str) (sp : Sp) : Prop where
  len : ∀ vs H Q E, sp vs H Q E → vs.length = ps.length
  run : ∀ (A : Around) (outer : List Env) (s : Shared) (H : Hp) (args : Args) (us : List Value) (vs : List V) (Q : VK) (E : XK), Room k A → Env0 P w K mg base A outer s H → BindsTo s fd args (ps.zip us) → Vals vs us → sp vs H Q E →
    codeAny (model P w) A (.call (.ref f) args) (CR CX outer P w H s Q E) s
theorem FnOk.imp {P : Program} {w : World} {K : PySem.W.Frag} {mg : Str → Option Value} {base : Heap} {CX : CXT} {k : Nat} {f : Addr} {fd : FuncData} {ps : List Str} {sp sp' : Sp} (F : FnOk P w K mg base CX k f fd ps sp)
    (h : ∀ vs H Q E, sp' vs H Q E → sp vs H Q E) : FnOk P w K mg base CX k f fd ps sp' :=
  ⟨fun vs H Q E q => F.len vs H Q E (h _ _ _ _ q), fun A outer s H args us vs Q E hr he hb hv hs => F.run A outer s H args us vs Q E hr he hb hv (h _ _ _ _ hs)⟩
section
variable {X : Cx} {pins : List (Addr × Obj)} {σ : St} {H : Hp} {s s' : Shared}
theorem Inv.env0 (I : Inv X pins σ H s) : Env0 X.prog X.w X.K X.mg X.base X.A X.stack s H :=
  ⟨I.ok.frames, I.ok.mod, I.bs, Nat.le_trans I.ok.bsz I.sz, I.stack, I.stkFree, I.hok, I.bare⟩
theorem Inv.after {Q : VK} {u : Value} (I : Inv X pins σ H s) (h : CE X.stack X.prog X.w H s Q u s') : EP X pins σ Q u s' := by
  obtain ⟨v, H', os, bare, un, hok, r, q⟩ := h
  obtain ⟨hh, g, d, t, os'⟩ := s'
  obtain rfl : os' = s.os := os
  exact ⟨v, H', I.call (h' := hh) (g' := g) (d' := d) (t' := t) (ch := []) un hok bare (fun b z => absurd z (by simp)), r, q⟩
end
def Binds (K : PySem.W.Frag) (fd : FuncData) (ps : List Str) (ds : List Value) : Prop :=
  ∀ (s : Shared) (us : List Value), K.In s.heap → (us ++ ds).length = ps.length → BindsTo s fd ⟨us, []⟩ (ps.zip (us ++ ds))
theorem Binds.all {K : PySem.W.Frag} {fd : FuncData} {ps : List Str} (h : ∀ us : List Value, us.length = ps.length → bindArgs fd ⟨us, []⟩ = pure (ps.zip us)) : Binds K fd ps [] := fun s us _ hl => by
  rw [List.append_nil] at hl ⊢
  exact .of_eq (h us hl)
section
variable {X : Cx} {CX : CXT} {k : Nat} {f C : Addr} {fd : FuncData} {ps : List Str} {sp : Sp} {dvs : List V} {ds : List Value} {E : XK} {x m : Str} {p pos apos : Pos} {e o : Expr} {es : List Expr} {ta : TE} {t : TA}
end
section
variable {X : Cx} {CX : CXT} {k : Nat} {f C : Addr} {fd : FuncData} {ps ks : List Str} {sp : Sp} {E : XK} {x m : Str} {p pos apos kpos : Pos} {e o : Expr} {es : List Expr} {kws : List Keyword} {te ta : TE} {t tk : TA} {nm : Option Str}
variable {g : List Value → List Value → List Value} {gV : List V → List V → List V}
end
structure FnScope (N P : List Str) (sc : Scope) : Prop where
  kind : sc.kind = .function
  co : sc.isCoroutine = false
  gen : sc.isGenerator = false
  nd : N.Nodup
  pre : N.take P.length = P
  par : ∀ x ∈ P, sc.names.lookup x = some .local ∨ sc.names.lookup x = some .cell
  nofree : ∀ y ∈ sc.names, y.2 ≠ .free
theorem bindL_out {kindOf : Str → Option NameKind} {x : Str} : ∀ {binds : List (Str × Value)} {m : Str → Option Value}, (∀ v, (x, v) ∉ binds) → bindL kindOf binds m x = m x
  | [], _, _ => rfl
  | (n, v) :: r, m, h => by
    unfold bindL
    rw [bindL_out fun w hw => h w (List.mem_cons_of_mem _ hw)]
    split
    · have : x ≠ n := by rintro rfl; exact h v List.mem_cons_self
      simp [this]
    · rfl
theorem bindC_out {kindOf : Str → Option NameKind} {x : Str} : ∀ {binds : List (Str × Value)} {m : Str → Option Value}, (∀ v, (x, v) ∉ binds) → bindC kindOf binds m x = m x
  | [], _, _ => rfl
  | (n, v) :: r, m, h => by
    unfold bindC
    rw [bindC_out fun w hw => h w (List.mem_cons_of_mem _ hw)]
    split
    · rfl
    · have : x ≠ n := by rintro rfl; exact h v List.mem_cons_self
      simp [this]
theorem bindL_get {kindOf : Str → Option NameKind} {x : Str} {v : Value} : ∀ {P : List Str} {vs : List Value} {i : Nat} {m : Str → Option Value}, P.Nodup → P[i]? = some x → vs[i]? = some v → kindOf x = some .local →
    bindL kindOf (P.zip vs) m x = some v
  | [], _, _, _, _, h, _, _ => by simp at h
  | _ :: _, [], _, _, _, _, h, _ => by simp at h
  | p :: P, w :: vs, 0, m, nd, h1, h2, hk => by
    simp at h1 h2; subst h1; subst h2
    show bindL kindOf ((p, w) :: P.zip vs) m p = _
    unfold bindL
    rw [bindL_out fun v hv => (List.nodup_cons.mp nd).1 (List.of_mem_zip hv).1, if_pos hk]
    simp
  | p :: P, w :: vs, i + 1, m, nd, h1, h2, hk => by
    show bindL kindOf ((p, w) :: P.zip vs) m x = _
    unfold bindL
    exact bindL_get (i := i) (List.nodup_cons.mp nd).2 (by simpa using h1) (by simpa using h2) hk
theorem bindC_get {kindOf : Str → Option NameKind} {x : Str} {v : Value} : ∀ {P : List Str} {vs : List Value} {i : Nat} {m : Str → Option Value}, P.Nodup → P[i]? = some x → vs[i]? = some v → kindOf x ≠ some .local →
    bindC kindOf (P.zip vs) m x = some v
  | [], _, _, _, _, h, _, _ => by simp at h
  | _ :: _, [], _, _, _, _, h, _ => by simp at h
  | p :: P, w :: vs, 0, m, nd, h1, h2, hk => by
    simp at h1 h2; subst h1; subst h2
    show bindC kindOf ((p, w) :: P.zip vs) m p = _
    unfold bindC
    rw [bindC_out fun v hv => (List.nodup_cons.mp nd).1 (List.of_mem_zip hv).1, if_neg hk]
    simp
  | p :: P, w :: vs, i + 1, m, nd, h1, h2, hk => by
    show bindC kindOf ((p, w) :: P.zip vs) m x = _
    unfold bindC
    exact bindC_get (i := i) (List.nodup_cons.mp nd).2 (by simpa using h1) (by simpa using h2) hk
def start (N : List Str) (vs : List V) : St := vs.map some ++ List.replicate (N.length - vs.length) none
def cxOf (CX : CXT) (P : Program) (w : World) (K : PySem.W.Frag) (mg : Str → Option Value) (base : Heap) (N : List Str) (qual : Str) (scope : Scope) (f : Addr) (cd : Value) (A : Around) (outer : List Env) (s : Shared) (H : Hp) (E : XK) : Cx where
  prog := P
  w := w
  K := K
  mg := mg
  base := base
  A := A.deeper (envOfC qual scope s.heap.objs.size f cd)
  N := N
  s₀ := s
  H₀ := H
  env := envOfC qual scope s.heap.objs.size f cd
  outer := outer
  stack := envOfC qual scope s.heap.objs.size f cd :: outer
  ex := []
  calm := true
  fn := fun _ => true
  pn := []
  xe := fun e s' => wpAny (model P w) (A.deeper (envOfC qual scope s.heap.objs.size f cd)) (leaving (envOfC qual scope s.heap.objs.size f cd) e) (fun _ s'' => CX outer H s E e s'') (fun e' s'' => CX outer H s E e' s'') s'
theorem cell_has {sc : Scope} {n : Nat} {x : Str} (h : sc.names.lookup x = some .cell) : ∃ c, (cellsFrom n sc.names []).lookup x = some c := by
  have q := PySem.W.cellsFrom_some sc.names n [] (.inl h)
  exact Option.isSome_iff_exists.mp q
theorem inv_start {CX : CXT} {P : Program} {w : World} {K : PySem.W.Frag} {mg : Str → Option Value} {base : Heap} {N ps : List Str} {qual : Str} {scope : Scope} {f : Addr} {cd : Value} {A : Around} {outer : List Env} {s s1 : Shared} {H : Hp} {E : XK} {us : List Value} {vs : List V}
    (S : FnScope N ps scope) (hd : A.handled = none) (e0 : Env0 P w K mg base A outer s H) (hl : vs.length = ps.length) (r : Vals vs us)
    (x : InCallC s s.heap.objs.size (bindL (envOfC qual scope s.heap.objs.size f cd).kindOf (ps.zip us) fun _ => none) (cellsFrom (s.heap.objs.size + 1) scope.names []) (bindC (envOfC qual scope s.heap.objs.size f cd).kindOf (ps.zip us) fun _ => none) s1) :
    Inv (cxOf CX P w K mg base N qual scope f cd A outer s H E) [] (start N vs) H s1 := by
  have hpl : ps.length ≤ N.length := by have := congrArg List.length S.pre; rw [List.length_take] at this; omega
  obtain ⟨h1, tk, rfl, hk⟩ := x.done
  have noA : ∀ b : Addr, b ∉ (cxOf CX P w K mg base N qual scope f cd A outer s H E).ex := fun b z => absurd (show b ∈ ([] : List Addr) from z) (by simp)
  refine ⟨⟨e0.mod, S.kind, rfl, rfl, Nat.le_refl _, fun y z c h1 h2 => ?_, fun y hy => ?_, fun y c _ h => ?_, fun _ => hd, Around.frames_deeper e0.frames, .inr ⟨rfl, rfl⟩, fun b z => absurd z (noA b), e0.bs, e0.bsz, fun b _ _ => noA b, fun b z => absurd z (noA b), e0.funs, e0.frf⟩,
    rfl, e0.bare, Un.kept hk, ⟨_, x.toInCall.ns, fun i y v h1 h2 h3 => ?_⟩, fun y c h => ⟨_, x.cell y c h⟩, e0.hok.fresh (Nat.le_refl _), fun y c h => ?_, fun p hp => absurd (show p ∈ ([] : List (Addr × Obj)) from hp) (by simp), e0.hok.kept hk, ?_⟩
  · exact name_of_addr x.apart (PySem.mem_of_lookup h1) (PySem.mem_of_lookup h2)
  · have hy : scope.names.lookup y = some .cell ∨ scope.names.lookup y = some .free := hy
    rcases hy with hy | hy
    · exact cell_has hy
    · exact absurd rfl (S.nofree _ (PySem.mem_of_lookup hy))
  · exact Nat.le_of_lt (x.above y c (PySem.mem_of_lookup h))
  · have hi : i < vs.length := by
      unfold start at h2
      by_cases hi : i < vs.length
      · exact hi
      · rw [List.getElem?_append_right (by simpa using hi)] at h2
        rw [List.getElem?_replicate] at h2
        split at h2 <;> cases h2
    have ha : vs[i]? = some v := by
      unfold start at h2
      rw [List.getElem?_append_left (by simpa using hi), List.getElem?_map] at h2
      cases e : vs[i]? with
      | none => rw [e] at h2; cases h2
      | some a => rw [e] at h2; cases h2; rfl
    obtain ⟨u, hu, rv⟩ := r.get ha
    have hp : ps[i]? = some y := by
      rw [← S.pre, List.getElem?_take_of_lt (by omega)]; exact h1
    have ndP : ps.Nodup := by rw [← S.pre]; exact S.nd.sublist (List.take_sublist _ _)
    refine ⟨u, rv, ?_⟩
    rcases S.par y (List.mem_of_getElem? hp) with k | k
    · exact .inl ⟨k, bindL_get ndP hp hu k⟩
    · obtain ⟨c, e⟩ := cell_has (n := s.heap.objs.size + 1) k
      refine .inr ⟨.inl k, c, e, ?_⟩
      have q := x.cell y c e
      rw [bindC_get ndP hp hu (by show scope.names.lookup y ≠ _; rw [k]; decide)] at q
      exact q
  · exact e0.hok.fresh (Nat.le_of_lt (x.above y c (PySem.mem_of_lookup h)))
  · unfold start
    show _ = N.length
    rw [List.length_append, List.length_map, List.length_replicate]
    omega
theorem fn_of {CX : CXT} {P : Program} {w : World} {K : PySem.W.Frag} {mg : Str → Option Value} {base : Heap} {k : Nat} {f : Addr} {name qual : Str} {params : Arguments} {body : List Stmt} {scope : Scope} {dV kV doc pm cdv ct oc : Value} {an od : Option Addr}
    {osl : Array (Option Value)} {N ps : List Str} {sp : Sp} (lk : K.lookup f = some ⟨oc, od, .func (PySem.W.fnOf name qual params body scope dV kV doc pm an cdv ct), osl⟩) (hcd : PySem.W.codeIn K cdv qual = true) (S : FnScope N ps scope)
    (len : ∀ vs H Q E, sp vs H Q E → vs.length = ps.length)
    (hbody : ∀ (A : Around) (outer : List Env) (s : Shared) (H : Hp) (vs : List V) (Q : VK) (E : XK), Room k (A.deeper (envOfC qual scope s.heap.objs.size f cdv)) → sp vs H Q E →
      ∃ t, PSs (cxOf CX P w K mg base N qual scope f cdv A outer s H E) body t ∧ t { nx := fun _ H' => Q .non H', rt := Q } (start N vs) H) :
    FnOk P w K mg base CX (k + 1) f (PySem.W.fnOf name qual params body scope dV kV doc pm an cdv ct) ps sp := by
  refine ⟨len, fun A outer s H args us vs Q E hr e0 hb r hsp => ?_⟩
  have hl := len _ _ _ _ hsp
  have KX : K.In s.heap := e0.mod.kin.keeps fun b o e => (e0.bs b o e).1
  have lim : s.heap.NoLimit := e0.mod.nolimit.keeps fun b o e => (e0.bs b o e).1
  have hkind : ∀ y ∈ ps.zip us, scope.names.lookup y.1 = some .local ∨ (scope.names.lookup y.1 = some .cell ∧ ((cellsFrom (s.heap.objs.size + 1) scope.names []).lookup y.1).isSome = true) := fun ⟨n, v⟩ hy => by
    rcases S.par n (List.of_mem_zip hy).1 with q | q
    · exact .inl q
    · exact .inr ⟨q, PySem.W.cellsFrom_some _ _ _ (.inl q)⟩
  refine codeAny_call_function hr.depth (KX _ _ lk) rfl S.co S.gen rfl (PySem.W.codeRec_of KX hcd) (hb _ _ _ _ ?_)
  refine wpAny_newFunctionEnv_cells S.kind hkind fun env he s1 x => ?_
  subst he
  refine ⟨lim.keeps x.toInCall.keep, codeAny_func ?_⟩
  obtain ⟨t, ht, hq⟩ := hbody A outer s H vs Q E (hr.deeper _) hsp
  have I : Inv (cxOf CX P w K mg base N qual scope f cdv A outer s H E) [] (start N vs) H s1 := inv_start S hr.hd e0 hl r x
  refine wpAny_mono (ht [] s1 (start N vs) H _ I hq) (fun fl s' hs => ?_) fun e s' hs => hs
  have fin : ∀ {σ' : St} {H' : Hp} {v : V} {u : Value}, Inv (cxOf CX P w K mg base N qual scope f cdv A outer s H E) [] σ' H' s' → RelV v u → Q v H' → CE outer P w H s Q u s' :=
    fun {σ' H' v u} J rv q => ⟨v, H', J.os, J.bare, J.base, J.hok, rv, q⟩
  cases fl with
  | ret u =>
    obtain ⟨v, σ', H', J, rv, q⟩ := hs
    exact fin J rv q
  | next =>
    obtain ⟨σ', H', J, q⟩ := hs
    exact fin (v := V.non) (u := Value.none) J rfl q
  | brk =>
    obtain ⟨_, _, _, q⟩ := hs
    exact False.elim q
  | cont =>
    obtain ⟨_, _, _, q⟩ := hs
    exact False.elim q
end L2
namespace L2
open PySem PySem.Spec PyProof.Rows
section
variable {X : Cx} {x : Str} {p pos : Pos} {e : Expr} {es : List Expr} {t : TA} {id T : String} {r : List V → Hp → VK → Prop}
end
end L2
namespace HT
open PySem PyProof.Rows
section
open PySem.SeqAt
open PySem.AutoSeq1 (wpAny_loadPart')
open PySem.MeetsSeq PySem.MeetsSeq2 PySem.MeetsSeq3
end
section
variable {prog : Program} {w : World} {A : Around} {E : Value → Shared → Prop} {s : Shared}
def sIx (n d : Nat) : Option Int → Nat
  | none => d
  | some v => if v < 0 then (v + (n : Int)).toNat else min v.toNat n
theorem sIx_le (n d : Nat) (hd : d ≤ n) (o : Option Int) : sIx n d o ≤ n := by
  cases o with
  | none => exact hd
  | some v =>
    show (if v < 0 then (v + (n : Int)).toNat else min v.toNat n) ≤ n
    by_cases hv : v < 0
    · rw [if_pos hv]; omega
    · rw [if_neg hv]; exact Nat.min_le_right _ _
theorem clip_eq (v : Int) (n d : Nat) : (if v < 0 then max (v + (n : Int)) 0 else min v (n : Int)) = ((sIx n d (some v) : Nat) : Int) := by
  show (if v < 0 then max (v + (n : Int)) 0 else min v (n : Int)) = (((if v < 0 then (v + (n : Int)).toNat else min v.toNat n) : Nat) : Int)
  by_cases hv : v < 0
  · simp only [if_pos hv]; omega
  · simp only [if_neg hv]; omega
theorem adjust_gen (lo hi : Option Int) (n : Nat) : Builtin.Slice.sliceAdjust lo hi 1 (n : Int) = (((sIx n 0 lo : Nat) : Int), ((sIx n n hi : Nat) : Int)) := by
  have h1 : ¬ ((1 : Int) < 0) := by omega
  unfold Builtin.Slice.sliceAdjust
  simp only [h1, if_false]
  refine Prod.ext ?_ ?_
  · cases lo with
    | none => rfl
    | some v => exact clip_eq v n 0
  · cases hi with
    | none => rfl
    | some v => exact clip_eq v n n
theorem places_gen (i j : Nat) : Builtin.Slice.slicePlaces (i : Int) (j : Int) 1 = j - i := by
  unfold Builtin.Slice.slicePlaces
  have h1 : (1 : Int) > 0 := by omega
  simp only [h1, if_true, Int.ediv_one]
  split <;> omega
theorem slicePart_ {v : Value} {o : Option Int} {Q : Option Int → Shared → Prop} (p : IsPart v o) (h : Q o s) : wpAny (model prog w) A (Builtin.Slice.slicePartIndex v) Q E s := by
  cases p with
  | none => exact slicePart_none h
  | int i t => exact slicePart_int h
theorem sliceApplied_gen {sl : Addr} {vl vu : Value} {lo hi : Option Int} {n : Nat} {Q : Int × Int × Nat → Shared → Prop} (hs : s.heap.IsSliceOf sl vl vu .none) (pl : IsPart vl lo) (pu : IsPart vu hi)
    (h : Q (((sIx n 0 lo : Nat) : Int), 1, sIx n n hi - sIx n 0 lo) s) : wpAny (model prog w) A (Builtin.Slice.sliceApplied (.ref sl) (pure (n : Int))) Q E s := by
  obtain ⟨os, hos, hcs, hds⟩ := id hs
  unfold Builtin.Slice.sliceApplied Builtin.Slice.sliceFields
  refine wpAny_bind (wpAny_bind (wpAny_field hos hds (x := vl) rfl (wpAny_bind (wpAny_field hos hds (x := vu) rfl (wpAny_bind (wpAny_field hos hds (x := .none) rfl (wpAny_pure ?_)))))))
  refine wpAny_bind (slicePart_none ?_)
  show wpAny _ _ (if ((1 : Int) == 0) = true then _ else _) _ _ s
  rw [if_neg (by decide)]
  refine wpAny_bind (slicePart_ pl (wpAny_bind (slicePart_ pu (wpAny_bind (wpAny_pure ?_)))))
  show wpAny _ _ (match Builtin.Slice.sliceAdjust lo hi 1 (n : Int) with | (lo, hi) => pure (lo, (1 : Int), Builtin.Slice.slicePlaces lo hi 1)) _ _ s
  rw [adjust_gen lo hi n]
  show wpAny _ _ (pure (((sIx n 0 lo : Nat) : Int), (1 : Int), Builtin.Slice.slicePlaces ((sIx n 0 lo : Nat) : Int) ((sIx n n hi : Nat) : Int) 1)) _ _ s
  rw [places_gen]
  exact wpAny_pure h
theorem pick_gen (xs : Array Value) (i k : Nat) : ((List.range k).filterMap fun (m : Nat) => xs[((i : Int) + (m : Int) * 1).toNat]?).toArray = ((xs.toList.drop i).take k).toArray := by
  have e : (fun (m : Nat) => xs[((i : Int) + (m : Int) * 1).toNat]?) = fun m => xs[i + m]? := by
    funext m
    have : ((i : Int) + (m : Int) * 1).toNat = i + m := by omega
    rw [this]
  rw [e]
  have := pick_run xs i k
  rw [List.filterMap_map] at this
  have e2 : ((fun x => xs[x]?) ∘ fun x => i + x) = fun m => xs[i + m]? := rfl
  rw [e2] at this
  rw [this]
theorem getItem_tuple_cut {t sl : Addr} {items : Array Value} {vl vu : Value} {lo hi : Option Int} {Q : Value → Shared → Prop} (ht : IsTup s.heap t items) (hs : s.heap.IsSliceOf sl vl vu .none) (pl : IsPart vl lo) (pu : IsPart vu hi)
    (hw : ¬ (sIx items.size 0 lo = 0 ∧ sIx items.size items.size hi = items.size))
    (h : Q (.ref s.heap.objs.size) { s with heap := s.heap.push { cls := .type "tuple", data := .seq ((items.toList.drop (sIx items.size 0 lo)).take (sIx items.size items.size hi - sIx items.size 0 lo)).toArray } })
    (hsz : items.size ≤ sizeLine) : wpAny (model prog w) A (getItem (.ref t) (.ref sl)) Q E s := by
  have htake : sizeOk (.seq ((items.toList.drop (sIx items.size 0 lo)).take (sIx items.size items.size hi - sIx items.size 0 lo)).toArray) := by
    show ((items.toList.drop (sIx items.size 0 lo)).take (sIx items.size items.size hi - sIx items.size 0 lo)).toArray.size ≤ sizeLine
    rw [List.size_toArray, List.length_take, List.length_drop, Array.length_toList]
    omega
  have hj : sIx items.size items.size hi ≤ items.size := sIx_le _ _ (Nat.le_refl _) hi
  obtain ⟨os, hos, hcs, hds⟩ := id hs
  have hTs : s.TypeIs (.ref sl) "slice" := ⟨os, hos, hcs⟩
  unfold getItem
  try with_reducible refine wpAny_holding ?_
  first | refine wpAny_bind (wpAny_pure ?_) | skip
  refine wpAny_bind (wpAny_sequenceKey ht.typeIs (by decide) ?_)
  refine wpAny_bind (wpAny_callSpecial?_slot (name := Str.ofString "__getitem__") ht.typeIs PyProof.Rows.slot_tuple_getitem
    (wpAny_call_entry PyProof.Rows.slot_tuple_getitem ht.typeIs entry_tuple_getitem ?_ (args_tuple_getitem _ _)))
  show wpAny _ _ (Builtin.Tuple.tupleItemsOf (.ref t) >>= _) _ _ s
  refine wpAny_bind (tupleItemsOf_ ht ?_)
  refine wpAny_bind (wpAny_typeOf hTs ?_)
  rw [if_pos (by decide)]
  refine wpAny_bind (sliceApplied_gen hs pl pu ?_)
  have hno : ¬ ((((sIx items.size 0 lo : Nat) : Int) == 0 && (1 : Int) == 1 && (sIx items.size items.size hi - sIx items.size 0 lo) == items.size) = true) := by
    intro q
    rw [Bool.and_eq_true, Bool.and_eq_true] at q
    have q1 : ((sIx items.size 0 lo : Nat) : Int) = 0 := eq_of_beq q.1.1
    have q2 : sIx items.size items.size hi - sIx items.size 0 lo = items.size := eq_of_beq q.2
    exact hw ⟨by omega, by omega⟩
  show wpAny _ _ (if (((sIx items.size 0 lo : Nat) : Int) == 0 && (1 : Int) == 1 && (sIx items.size items.size hi - sIx items.size 0 lo) == items.size) = true then _ else _) _ _ s
  rw [if_neg hno, pick_gen]
  first
    | exact wpAny_bind (m := Builtin.Tuple.tupleExact _) (wpAny_newObj_type (wpAny_pure ⟨_, rfl, wpAny_pure h⟩) htake)
    | exact wpAny_bind (m := Builtin.Tuple.tupleExact _) (wpAny_newObj_type (wpAny_bind (wpAny_pure (wpAny_pure ⟨_, rfl, wpAny_pure h⟩))) htake)
    | exact wpAny_bind (wpAny_bind (m := Builtin.Tuple.tupleExact _) (wpAny_newObj_type (wpAny_pure (wpAny_pure ⟨_, rfl, wpAny_pure h⟩)) htake))
    | exact wpAny_bind (wpAny_bind (m := Builtin.Tuple.tupleExact _) (wpAny_newObj_type (wpAny_pure ⟨_, rfl, wpAny_pure h⟩) htake))
end
end HT
namespace L2
open PySem PySem.Spec PyProof.Rows
abbrev TO := St → Hp → (Option Int → Hp → Prop) → Prop
section
variable {X : Cx} {e : Expr} {te : TE} {lo hi : Option Expr} {tl th : TO} {pos p2 : Pos}
def SlR (X : Cx) (r : V → Option Int → Option Int → Hp → VK → Prop) : Prop :=
  ∀ (pins : List (Addr × Obj)) (s : Shared) (σ : St) (H : Hp) (x : V) (v vl vu : Value) (lo hi : Option Int) (sl : Addr) (Q : VK), Inv X pins σ H s → RelV x v → s.heap.IsSliceOf sl vl vu .none → IsPart vl lo → IsPart vu hi → r x lo hi H Q →
    ∃ T id, typeLookup (.type T) "__getitem__" = pure (some (.builtin id)) ∧ s.TypeIs v T ∧ wpAny (model X.prog X.w) X.A (getItem v (.ref sl)) (EP X pins σ Q) X.xe s
def cutV (xs : List V) (lo hi : Option Int) : List V := (xs.drop (HT.sIx xs.length 0 lo)).take (HT.sIx xs.length xs.length hi - HT.sIx xs.length 0 lo)
theorem cutV_length (xs : List V) (lo hi : Option Int) : (cutV xs lo hi).length ≤ xs.length := by
  unfold cutV
  rw [List.length_take, List.length_drop]
  omega
def rSlT (K : PySem.W.Frag) : V → Option Int → Option Int → Hp → VK → Prop := fun x lo hi H Q => ∃ a xs, x = .ref a ∧ SqT K H a xs ∧
  ¬ (HT.sIx xs.length 0 lo = 0 ∧ HT.sIx xs.length xs.length hi = xs.length) ∧ ∀ p, H p = none → Q (.ref p) (upd H p (.tup (cutV xs lo hi)))
theorem sl_tup : SlR X (rSlT X.K) := by
  intro pins s σ H x v vl vu lo hi sl Q I rx hs pl pu h
  obtain ⟨a, xs, rfl, hx, hw, q⟩ := h
  cases rx
  obtain ⟨its, r, ht, hz⟩ := I.tuple hx
  have hlen : its.toArray.size = xs.length := by rw [List.size_toArray]; exact r.length.symm
  refine ⟨"tuple", _, PyProof.Rows.slot_tuple_getitem.lookup, ht.typeIs, ?_⟩
  refine HT.getItem_tuple_cut ht hs pl pu (by rw [hlen]; exact hw) ?_ (by rw [hlen]; exact hz)
  rw [hlen]
  refine ⟨.ref s.heap.objs.size, _, I.laid (t' := s.toks) (o := .tup (cutV xs lo hi)) (fun b ob q => Heap.get?_push_of_some _ q) (Nat.le_refl _) ?_, rfl, q _ (I.hok.fresh (Nat.le_refl _))⟩
  exact ⟨Nat.le_trans (cutV_length xs lo hi) hz, _, (r.drop (HT.sIx xs.length 0 lo)).take (HT.sIx xs.length xs.length hi - HT.sIx xs.length 0 lo), IsTup.new _ _⟩
end
end L2
namespace L2
open PySem PySem.Spec PyProof.Rows
def ixN (n : Nat) (i : Int) : Option Nat := if 0 ≤ i then (if i < n then some i.toNat else none) else if -(n : Int) ≤ i then some (i + n).toNat else none
def atI {α : Type} (xs : List α) (i : Int) : Option α := (ixN xs.length i).bind fun j => xs[j]?
theorem ixN_seq {n : Nat} {i : Int} {j : Nat} (h : ixN n i = some j) : seqIndex? i n = some j ∧ j < n ∧ -(n : Int) ≤ i ∧ i < n := by
  unfold ixN at h
  by_cases h0 : 0 ≤ i
  · rw [if_pos h0] at h
    by_cases h1 : i < n
    · rw [if_pos h1] at h
      have e : i.toNat = j := Option.some.inj h
      exact ⟨by rw [seqIndex_of h0 h1, e], by omega, by omega, h1⟩
    · rw [if_neg h1] at h; cases h
  · rw [if_neg h0] at h
    by_cases h1 : -(n : Int) ≤ i
    · rw [if_pos h1] at h
      have e : (i + n).toNat = j := Option.some.inj h
      exact ⟨by rw [seqIndex_neg (by omega) h1, e], by omega, h1, by omega⟩
    · rw [if_neg h1] at h; cases h
theorem atI_get {α : Type} {xs : List α} {i : Int} {v : α} (h : atI xs i = some v) : ∃ j, seqIndex? i xs.length = some j ∧ xs[j]? = some v ∧ j < xs.length ∧ -(xs.length : Int) ≤ i ∧ i < xs.length := by
  unfold atI at h
  cases e : ixN xs.length i with
  | none => rw [e] at h; cases h
  | some j =>
    rw [e] at h
    obtain ⟨h1, h2, h3, h4⟩ := ixN_seq e
    exact ⟨j, h1, h, h2, h3, h4⟩
def PlainIx (b : Expr) : Prop := ∀ o i, subscripted b false o i = operate [o, i] (getItem o i)
def IxR (X : Cx) (r : R2) : Prop :=
  ∀ (value slice : Expr) (pins : List (Addr × Obj)) (s : Shared) (σ : St) (H : Hp) (x y : V) (v u : Value) (Q : VK), Inv X pins σ H s → RelV x v → RelV y u → r x y H Q →
    subscripted slice false v u = operate [v, u] (getItem v u) → wpAny (model X.prog X.w) X.A (subscriptTail value slice v u) (EP X pins σ Q) X.xe s
section
variable {X : Cx} {a b : Expr} {ta tb : TE} {pos : Pos}
theorem IxR.or {r r' : R2} (h : IxR X r) (h' : IxR X r') : IxR X (fun x y H Q => r x y H Q ∨ r' x y H Q) := by
  intro value slice pins s σ H x y v u Q I rx ry q hs
  rcases q with q | q
  · exact h value slice pins s σ H x y v u Q I rx ry q hs
  · exact h' value slice pins s σ H x y v u Q I rx ry q hs
def rIxL (K : PySem.W.Frag) : R2 := fun x y H Q => ∃ p xs i v, x = .ref p ∧ y = .int i ∧ SqL K H p xs ∧ atI xs i = some v ∧ Q v H
def rIxT (K : PySem.W.Frag) : R2 := fun x y H Q => ∃ p xs i v, x = .ref p ∧ y = .int i ∧ SqT K H p xs ∧ atI xs i = some v ∧ Q v H
def rIxS : R2 := fun x y H Q => ∃ z i c, x = .str z ∧ y = .int i ∧ z.length ≤ sizeLine ∧ atI z.cps.toList i = some c ∧ Q (.str ⟨#[c]⟩) H
theorem ix_list : IxR X (rIxL X.K) := by
  intro value slice pins s σ H x y v u Q I rx ry h hs
  obtain ⟨p, xs, i, z, rfl, rfl, hq, he, q⟩ := h
  cases rx
  obtain ⟨t, rfl⟩ := ry
  obtain ⟨its, r, pl, hz⟩ := I.list hq
  obtain ⟨j, h1, h2, h3, h4, h5⟩ := atI_get he
  obtain ⟨w, ew, rw'⟩ := r.get h2
  have hl := r.length
  have hn := line63
  have fin : EP X pins σ Q w s := ⟨z, H, I, rw', q⟩
  by_cases h0 : 0 ≤ i
  · have hj : i.toNat = j := by
      rw [seqIndex_of h0 h5] at h1
      exact Option.some.inj h1
    exact item_listR pl.isList h0 (by omega) (by rw [hj]; simpa using ew) fin hs
  · have hj : (i + (its.toArray.size : Int)).toNat = j := by
      rw [seqIndex_neg (by omega) h4] at h1
      rw [List.size_toArray, ← hl]
      exact Option.some.inj h1
    exact subscriptTail_builtinR (x := w) pl.isList.typeIs slot_list_getitem.lookup
      (wpAny_getItem_list_neg (Q := fun r s' => r = w ∧ EP X pins σ Q r s') pl.isList (by omega) (by rw [List.size_toArray] <;> omega) (by omega) (by rw [hj]; simpa using ew) ⟨rfl, fin⟩) hs
theorem ix_tup : IxR X (rIxT X.K) := by
  intro value slice pins s σ H x y v u Q I rx ry h hs
  obtain ⟨p, xs, i, z, rfl, rfl, hq, he, q⟩ := h
  cases rx
  obtain ⟨t, rfl⟩ := ry
  obtain ⟨its, r, pl, hz⟩ := I.tuple hq
  obtain ⟨j, h1, h2, h3, h4, h5⟩ := atI_get he
  obtain ⟨w, ew, rw'⟩ := r.get h2
  have hl := r.length
  have hn := line63
  have fin : EP X pins σ Q w s := ⟨z, H, I, rw', q⟩
  exact subscriptTail_builtinR (x := w) pl.typeIs slot_tuple_getitem.lookup
    (getItem_tuple (j := j) (Q := fun r s' => r = w ∧ EP X pins σ Q r s') pl (by omega) (by omega) (by rw [List.size_toArray, ← hl]; exact h1) (by simpa using ew) ⟨rfl, fin⟩) hs
theorem ix_str : IxR X rIxS := by
  intro value slice pins s σ H x y v u Q I rx ry h hs
  obtain ⟨z, i, c, rfl, rfl, hz, he, q⟩ := h
  obtain ⟨t, rfl⟩ := rx
  obtain ⟨t', rfl⟩ := ry
  obtain ⟨j, h1, h2, h3, h4, h5⟩ := atI_get he
  have hl : z.cps.toList.length = z.length := by simp [Str.length]
  rw [hl] at h1 h4 h5
  have hn := line63
  exact tail_any (typeIs_str s z t) slot_str_getitem.lookup (getItem_str (c := c) (by
    have e1 : decide (i < -(2 ^ 63 : Int)) = false := decide_eq_false (by omega)
    have e2 : decide (i ≥ 2 ^ 63) = false := decide_eq_false (by omega)
    rw [e1, e2, Bool.or_false]) (by rw [h1]; simpa using h2) ⟨.str ⟨#[c]⟩, H, I.tok _, ⟨_, rfl⟩, q⟩) hs
def rIx (K : PySem.W.Frag) : R2 := fun x y H Q => rIxL K x y H Q ∨ rIxT K x y H Q ∨ rIxS x y H Q
theorem ix_seq : IxR X (rIx X.K) := ix_list.or (ix_tup.or ix_str)
theorem mapSeq_set (its : List Value) (n j : Nat) (u : Value) : Obj.mapSeq (·.setIfInBounds j u) { cls := .type "list", data := .seq its.toArray n } = { cls := .type "list", data := .seq (its.set j u).toArray n } := by
  simp [Obj.mapSeq]
theorem Inv.lst {pins : List (Addr × Obj)} {σ : St} {H : Hp} {s : Shared} {p : Addr} {xs : List V} (I : Inv X pins σ H s) (h : H p = some (.lst xs)) :
    ∃ (its : List Value) (n : Nat), Vals xs its ∧ s.heap.get? p = some { cls := .type "list", data := .seq its.toArray n } ∧ xs.length ≤ sizeLine := by
  obtain ⟨z, its, n, r, e⟩ := I.hok p _ h
  exact ⟨its, n, r, e, z⟩
theorem Inv.lstUpd {pins : List (Addr × Obj)} {σ : St} {H : Hp} {s : Shared} {p : Addr} {xs ys : List V} {its its' : List Value} {n n' : Nat} {f : Obj → Obj} (I : Inv X pins σ H s) (h : H p = some (.lst xs))
    (ho : s.heap.get? p = some { cls := .type "list", data := .seq its.toArray n }) (hf : f { cls := .type "list", data := .seq its.toArray n } = { cls := .type "list", data := .seq its'.toArray n' }) (r : Vals ys its') (hz : ys.length ≤ sizeLine) (t : Nat) :
    Inv X pins σ (upd H p (.lst ys)) { s with heap := s.heap.update p f, toks := t } := by
  have e : (s.heap.update p f).get? p = some { cls := .type "list", data := .seq its'.toArray n' } := by
    rw [Heap.get?_update_self f ho (by rw [hf] <;> rfl), hf]
  refine I.write (x := p) (e := p) (by rw [h]; trivial) (.inl rfl) (fun b u hb q => (Heap.get?_update_other _ _ (Ne.symm hb)).trans q) ⟨_, e⟩ ?_
  exact ⟨hz, its', n', r, e⟩
def rSetL : V → V → V → Hp → (Hp → Prop) → Prop := fun o i v H Q => ∃ p xs k j, o = .ref p ∧ i = .int k ∧ H p = some (.lst xs) ∧ ixN xs.length k = some j ∧ Q (upd H p (.lst (xs.set j v)))
theorem set_list : PSet X rSetL := by
  intro pins s σ H o i v ov iv u Q I ro ri rv h
  obtain ⟨p, xs, k, j, rfl, rfl, hp, hj, q⟩ := h
  cases ro
  obtain ⟨t, rfl⟩ := ri
  obtain ⟨its, n, r, ho, hz⟩ := I.lst hp
  obtain ⟨h1, h2, h3, h4⟩ := ixN_seq hj
  have hl := r.length
  have hn := line63
  have I' : Inv X pins σ (upd H p (.lst (xs.set j v))) { s with heap := s.heap.update p (Obj.mapSeq (·.setIfInBounds j u)) } :=
    I.lstUpd hp ho (mapSeq_set its n j u) (r.set rv j) (by rw [List.length_set]; exact hz) s.toks
  by_cases h0 : 0 ≤ k
  · have hk : k.toNat = j := by
      rw [seqIndex_of h0 h4] at h1
      exact Option.some.inj h1
    exact PySem.W.ki_setAt ho h0 (by omega) (by rw [List.size_toArray, ← hl]; exact h4) (by rw [hk]; exact ⟨_, I', q⟩)
  · have hk : (k + (its.toArray.size : Int)).toNat = j := by
      rw [seqIndex_neg (by omega) h3] at h1
      rw [List.size_toArray, ← hl]
      exact Option.some.inj h1
    exact PySem.W.ki_setBack ho (by omega) (by rw [List.size_toArray, ← hl]; exact h3) (by omega) (by rw [hk]; exact ⟨_, I', q⟩)
def flatV : V → Bool
  | .non => true
  | .bl _ => true
  | .int _ => true
  | .str _ => true
  | _ => false
def eqV : V → V → Bool
  | .non, .non => true
  | .bl a, .bl b => a == b
  | .bl a, .int b => (if a then 1 else 0) == b
  | .int a, .bl b => a == (if b then 1 else 0)
  | .int a, .int b => a == b
  | .str a, .str b => a == b
  | _, _ => false
theorem eqAt_V {A : Around} {s : Shared} {y x : V} {u v : Value} (ry : RelV y u) (rx : RelV x v) (fy : flatV y = true) (fx : flatV x = true) : SeqAt.EqAt A s u v (eqV y x) := by
  cases y with
  | non =>
    cases ry
    cases x with
    | non => cases rx; exact SeqAt.EqAt.same _
    | bl b => cases rx; exact SeqAt.EqAt.none_bool b
    | int b => obtain ⟨t, rfl⟩ := rx; exact SeqAt.EqAt.none_int b t
    | str b => obtain ⟨t, rfl⟩ := rx; exact SeqAt.EqAt.none_str b t
    | _ => exact absurd (show false = true from fx) Bool.false_ne_true
  | bl a =>
    cases ry
    cases x with
    | non => cases rx; exact SeqAt.EqAt.bool_none a
    | bl b => cases rx; exact SeqAt.EqAt.bool_bool a b
    | int b => obtain ⟨t, rfl⟩ := rx; exact SeqAt.EqAt.bool_int a b t
    | str b => obtain ⟨t, rfl⟩ := rx; exact SeqAt.EqAt.bool_str a b t
    | _ => exact absurd (show false = true from fx) Bool.false_ne_true
  | int a =>
    obtain ⟨t', rfl⟩ := ry
    cases x with
    | non => cases rx; exact SeqAt.EqAt.int_none a t'
    | bl b => cases rx; exact SeqAt.EqAt.int_bool a t' b
    | int b => obtain ⟨t, rfl⟩ := rx; exact SeqAt.EqAt.int_int a t' b t
    | str b => obtain ⟨t, rfl⟩ := rx; exact SeqAt.EqAt.int_str a t' b t
    | _ => exact absurd (show false = true from fx) Bool.false_ne_true
  | str a =>
    obtain ⟨t', rfl⟩ := ry
    cases x with
    | non => cases rx; exact SeqAt.EqAt.str_none a t'
    | bl b => cases rx; exact SeqAt.EqAt.str_bool a t' b
    | int b => obtain ⟨t, rfl⟩ := rx; exact SeqAt.EqAt.str_int a t' b t
    | str b => obtain ⟨t, rfl⟩ := rx; exact SeqAt.EqAt.str_str a t' b t
    | _ => exact absurd (show false = true from fx) Bool.false_ne_true
  | _ => exact absurd (show false = true from fy) Bool.false_ne_true
def eqU (x : V) (u : Value) : Bool := match u with
  | .none => eqV .non x
  | .bool b => eqV (.bl b) x
  | .int i _ => eqV (.int i) x
  | .str z _ => eqV (.str z) x
  | _ => false
theorem eqU_of {x y : V} {u : Value} (r : RelV y u) (f : flatV y = true) : eqU x u = eqV y x := by
  cases y with
  | non => cases r; rfl
  | bl b => cases r; rfl
  | int i => obtain ⟨t, rfl⟩ := r; rfl
  | str z => obtain ⟨t, rfl⟩ := r; rfl
  | _ => exact absurd (show false = true from f) Bool.false_ne_true
theorem mem_eqAt {A : Around} {s : Shared} {x : V} {v : Value} (rx : RelV x v) (fx : flatV x = true) : ∀ {xs : List V} {us : List Value}, Vals xs us → xs.all flatV = true → ∀ u ∈ us, SeqAt.EqAt A s u v (eqU x u)
  | _, _, .nil, _ => fun u hu => by cases hu
  | y :: xs, u :: us, .cons r t, f => fun u' hu => by
    rw [List.all_cons, Bool.and_eq_true] at f
    rcases List.mem_cons.mp hu with rfl | hu
    · rw [eqU_of r f.1]; exact eqAt_V r rx f.1 fx
    · exact mem_eqAt rx fx t f.2 u' hu
theorem call_len_seq : CallR X (.builtin "len") (fun xs H Q => ∃ p ys, xs = [.ref p] ∧ (SqL X.K H p ys ∨ SqT X.K H p ys) ∧ Q (.int ys.length) H) := by
  intro pins s σ H xs us Q I r h
  obtain ⟨p, ys, rfl, hq, q⟩ := h
  obtain ⟨u, rfl, rx⟩ := vals1 r
  cases rx
  have hn := line63
  rcases hq with hq | hq
  · obtain ⟨its, r', pl, hz⟩ := I.list hq
    have hlen := r'.length
    exact Calls.call_len_list pl.isList (by simp only [List.size_toArray] <;> omega) ⟨.int ys.length, H, I.tok _, ⟨s.toks + 1, by rw [List.size_toArray, hlen]⟩, q⟩
  · obtain ⟨its, r', pl, hz⟩ := I.tuple hq
    have hlen := r'.length
    exact len_tuple pl (by simp only [List.size_toArray] <;> omega) ⟨.int ys.length, H, I.tok _, ⟨s.toks + 1, by rw [List.size_toArray, hlen]⟩, q⟩
theorem call_len_str : CallR X (.builtin "len") (fun xs H Q => ∃ z, xs = [.str z] ∧ z.length ≤ sizeLine ∧ Q (.int z.length) H) := by
  intro pins s σ H xs us Q I r h
  obtain ⟨z, rfl, hz, q⟩ := h
  obtain ⟨u, rfl, t, rfl⟩ := vals1 r
  have hn := line63
  exact len_str (by omega) ⟨.int z.length, H, I.tok _, ⟨_, rfl⟩, q⟩
theorem call_list_of : CallR X (.type "list") (fun xs H Q => ∃ p ys, xs = [.ref p] ∧ (SqL X.K H p ys ∨ SqT X.K H p ys) ∧ ∀ l, H l = none → Q (.ref l) (upd H l (.lst ys))) := by
  intro pins s σ H xs us Q I r h
  obtain ⟨p, ys, rfl, hq, q⟩ := h
  obtain ⟨u, rfl, rx⟩ := vals1 r
  cases rx
  have fin : ∀ (its : List Value), Vals ys its → ys.length ≤ sizeLine → ∀ (h' : Heap) (c' : Nat), (∀ b o', s.heap.get? b = some o' → h'.get? b = some o') →
      h'.get? s.heap.objs.size = some { cls := .type "list", dict := none, data := .seq its.toArray c', slots := #[] } → EP X pins σ Q (.ref s.heap.objs.size) { s with heap := h' } := fun its r' hz h' c' kp e =>
    ⟨.ref s.heap.objs.size, _, I.laid (t' := s.toks) kp (Nat.le_refl _) (show ObjOk X.prog X.w _ h' _ (.lst ys) from ⟨hz, its, c', r', e⟩), rfl, q _ (I.hok.fresh (Nat.le_refl _))⟩
  rcases hq with hq | hq
  · obtain ⟨its, r', pl, hz⟩ := I.list hq
    have hlen := r'.length
    obtain ⟨o, ho, hc, n, hd⟩ := pl.isList
    exact call_list_seq p (.inl rfl) ho hc hd (fun h' c' kp e => fin its r' hz h' c' kp e) (by simp only [List.size_toArray] <;> omega)
  · obtain ⟨its, r', pl, hz⟩ := I.tuple hq
    have hlen := r'.length
    obtain ⟨o, ho, hc, n, hd⟩ := pl
    exact call_list_seq p (.inr rfl) ho hc hd (fun h' c' kp e => fin its r' hz h' c' kp e) (by simp only [List.size_toArray] <;> omega)
def tyV (K : PySem.W.Frag) (T : String) (x : V) (H : Hp) : Prop := match x with
  | .str _ => T = "str"
  | .int _ => T = "int"
  | .ref p => (T = "list" ∧ ∃ xs, SqL K H p xs) ∨ (T = "tuple" ∧ ∃ o, K.lookup p = some o ∧ o.cls = .type "tuple" ∧ o.dict = none) ∨
      (T = "dict" ∧ ((∃ kvs, H p = some (.dK kvs)) ∨ ∃ kvs, H p = some (.dT kvs))) ∨ (T = "set" ∧ ∃ S n, H p = some (.set S n))
  | _ => False
theorem tyV_is {pins : List (Addr × Obj)} {σ : St} {H : Hp} {s : Shared} {T : String} {x : V} {v : Value} (I : Inv X pins σ H s) (r : RelV x v) (ty : tyV X.K T x H) :
    s.TypeIs v T ∧ ∀ a, v = .ref a → ∃ ob, s.heap.get? a = some ob ∧ ob.dict = none := by
  cases x with
  | str z =>
    obtain ⟨t, rfl⟩ := r
    cases (show T = "str" from ty)
    exact ⟨typeIs_str s z t, fun _ e => nomatch e⟩
  | int i =>
    obtain ⟨t, rfl⟩ := r
    cases (show T = "int" from ty)
    exact ⟨typeIs_int s i t, fun _ e => nomatch e⟩
  | ref p =>
    cases r
    rcases ty with ⟨rfl, xs, hq⟩ | ⟨rfl, o, hk, hc, hd⟩ | ⟨rfl, hk⟩ | ⟨rfl, S, n, hk⟩
    · obtain ⟨its, _, pl, _⟩ := I.list hq
      refine ⟨pl.isList.typeIs, fun a e => ?_⟩
      cases e
      obtain ⟨o, n, e, c, hd, _⟩ := pl
      exact ⟨o, e, hd⟩
    · refine ⟨⟨o, I.kIn p o hk, hc⟩, fun a e => ?_⟩
      cases e
      exact ⟨o, I.kIn _ o hk, hd⟩
    · have z : ∃ o, s.heap.get? p = some o ∧ o.ExactDict := by
        rcases hk with ⟨kvs, hk⟩ | ⟨kvs, hk⟩
        · obtain ⟨_, _, _, _, o, _, _, e, ex, _⟩ := I.hok p _ hk
          exact ⟨o, e, ex⟩
        · obtain ⟨_, _, _, _, o, _, _, e, ex, _⟩ := I.hok p _ hk
          exact ⟨o, e, ex⟩
      obtain ⟨o, e, ex⟩ := z
      refine ⟨⟨o, e, ex.1⟩, fun a e2 => ?_⟩
      cases e2
      exact ⟨o, e, ex.2.1⟩
    · obtain ⟨o, _, _, _, e, ex, _⟩ := I.hok p _ hk
      refine ⟨⟨o, e, ex.1⟩, fun a e2 => ?_⟩
      cases e2
      exact ⟨o, e, ex.2.1⟩
  | _ => exact False.elim ty
variable {o e : Expr} {es : List Expr} {to : TE} {t : TA} {name : Str} {apos cpos : Pos} {T id : String} {r : V → List V → Hp → VK → Prop}
end
end L2
namespace L2
open PySem PySem.Spec PyProof.Rows
def MtM (X : Cx) (id : String) (r : V → List V → Hp → VK → Prop) : Prop :=
  ∀ (pins : List (Addr × Obj)) (s : Shared) (σ : St) (H : Hp) (x : V) (xs : List V) (v : Value) (us : List Value) (Q : VK), Inv X pins σ H s → RelV x v → Vals xs us → r x xs H Q →
    wpAny (model X.prog X.w) X.A (call (.builtin id) (v :: us)) (EP X pins σ Q) X.xe s
theorem Vals.one : ∀ {x : V} {us : List Value}, Vals [x] us → ∃ u, us = [u] ∧ RelV x u
  | _, _, .cons r .nil => ⟨_, rfl, r⟩
theorem Vals.zero : ∀ {us : List Value}, Vals [] us → us = []
  | _, .nil => rfl
theorem Vals.eraseIdx : ∀ {xs : List V} {us : List Value} (i : Nat), Vals xs us → Vals (xs.eraseIdx i) (us.eraseIdx i)
  | _, _, _, .nil => .nil
  | _, _, 0, .cons _ t => t
  | _, _, i + 1, .cons r t => .cons r (Vals.eraseIdx i t)
theorem Vals.reverse {xs : List V} {us : List Value} (h : Vals xs us) : Vals xs.reverse us.reverse := by
  induction h with
  | nil => exact .nil
  | cons r t ih => rw [List.reverse_cons, List.reverse_cons]; exact Vals.append ih (.cons r .nil)
theorem len_erase {α : Type} : ∀ (l : List α) (i : Nat), (l.eraseIdx i).length ≤ l.length
  | [], _ => Nat.le_refl _
  | _ :: _, 0 => Nat.le_succ _
  | _ :: r, i + 1 => Nat.succ_le_succ (len_erase r i)
section
variable {X : Cx} {pins : List (Addr × Obj)} {σ : St} {H : Hp} {s : Shared} {l b : Addr} {xs ys zs : List V}
theorem Inv.lset {its its' : List Value} {n : Nat} {f : Array Value → Array Value} {t' : Nat} (I : Inv X pins σ H s) (hH : H l = some (.lst xs))
    (e : s.heap.get? l = some { cls := .type "list", data := .seq its.toArray n }) (hf : f its.toArray = its'.toArray) (hv : Vals ys its') (hz : ys.length ≤ sizeLine) :
    Inv X pins σ (upd H l (.lst ys)) { s with heap := s.heap.update l (Obj.mapSeq f), toks := t' } := by
  have q := PySem.IsL.update e f
  rw [hf] at q
  refine I.write (x := l) (e := l) (by rw [hH]; exact trivial) (.inl rfl) (fun b' u hb hu => (Heap.get?_update_other s.heap (Obj.mapSeq f) (Ne.symm hb)).trans hu) ⟨_, q⟩ ?_
  exact ⟨hz, its', _, hv, q⟩
theorem Inv.lnew {its : List Value} {t' : Nat} (I : Inv X pins σ H s) (hv : Vals ys its) (hz : ys.length ≤ sizeLine) :
    Inv X pins σ (upd H s.heap.objs.size (.lst ys)) { s with heap := s.heap.push { cls := .type "list", data := .seq its.toArray }, toks := t' } :=
  I.laid (fun _ _ q => Heap.get?_push_of_some _ q) (Nat.le_refl _) ⟨hz, its, 0, hv, Heap.get?_push_size _ rfl⟩
theorem Inv.fresh (I : Inv X pins σ H s) : H s.heap.objs.size = none := I.hok.fresh (Nat.le_refl _)
theorem Inv.lstM (I : Inv X pins σ H s) (hH : H l = some (.lst xs)) : xs.length ≤ sizeLine ∧ ∃ (its : List Value) (n : Nat), Vals xs its ∧ xs.length = its.length ∧ s.heap.get? l = some { cls := .type "list", data := .seq its.toArray n } := by
  obtain ⟨z, its, n, r, e⟩ := I.hok l _ hH
  exact ⟨z, its, n, r, r.length, e⟩
end
section
variable {X : Cx}
def rAppend : V → List V → Hp → VK → Prop := fun x vs H Q => ∃ l xs y, x = .ref l ∧ vs = [y] ∧ H l = some (.lst xs) ∧ xs.length < sizeLine ∧ Q .non (upd H l (.lst (xs ++ [y])))
theorem mt_append : MtM X "list.append" rAppend := by
  intro pins s σ H x vs v us Q I rx rv h
  obtain ⟨l, xs, y, rfl, rfl, hH, hz, q⟩ := h
  cases rx
  obtain ⟨u, rfl, ru⟩ := rv.one
  obtain ⟨z, its, n, r, hl, e⟩ := I.lstM hH
  refine call_meets F.slot_list_append ⟨_, e, rfl⟩ F.entry_list_append (F.args_list_append_2 _ _) (PySem.list_append l its.toArray n u (by rw [List.size_toArray]; omega)) ⟨e, ?_⟩
  refine ⟨.non, _, I.lset (its' := its ++ [u]) hH e (by simp) (r.append (.cons ru .nil)) ?_, rfl, q⟩
  rw [List.length_append, List.length_singleton]
  omega
def rPopAt : V → List V → Hp → VK → Prop := fun x vs H Q => ∃ l xs i k y, x = .ref l ∧ vs = [.int i] ∧ H l = some (.lst xs) ∧ -(2 ^ 63) ≤ i ∧ i < 2 ^ 63 ∧ seqIndex? i xs.length = some k ∧ xs[k]? = some y ∧ Q y (upd H l (.lst (xs.eraseIdx k)))
theorem mt_popAt : MtM X "list.pop" rPopAt := by
  intro pins s σ H x vs v us Q I rx rv h
  obtain ⟨l, xs, i, k, y, rfl, rfl, hH, h1, h2, hk, hy, q⟩ := h
  cases rx
  obtain ⟨u, rfl, ru⟩ := rv.one
  obtain ⟨t, rfl⟩ := ru
  obtain ⟨z, its, n, r, hl, e⟩ := I.lstM hH
  obtain ⟨w, hw, rw'⟩ := r.get hy
  refine call_meets F.slot_list_pop ⟨_, e, rfl⟩ F.entry_list_pop (F.args_list_pop_2 _ _)
    (MeetsSeq.list_pop_at l its.toArray n i t k w (fitsIndex_both h1 h2) (by rw [List.size_toArray, ← hl]; exact hk) (by rw [← Array.getElem?_toList]; exact hw) (by rw [List.size_toArray]; omega)) ⟨e, ?_⟩
  refine ⟨y, _, I.lset (its' := its.eraseIdx k) hH e ?_ (r.eraseIdx k) ?_, rw', q⟩
  · show its.toArray.eraseIdxIfInBounds k = (its.eraseIdx k).toArray
    rw [List.eraseIdxIfInBounds_toArray]
  · have := len_erase xs k
    omega
def rReverse : V → List V → Hp → VK → Prop := fun x vs H Q => ∃ l xs, x = .ref l ∧ vs = [] ∧ H l = some (.lst xs) ∧ Q .non (upd H l (.lst xs.reverse))
theorem mt_reverse : MtM X "list.reverse" rReverse := by
  intro pins s σ H x vs v us Q I rx rv h
  obtain ⟨l, xs, rfl, rfl, hH, q⟩ := h
  cases rx
  have hus := rv.zero
  subst hus
  obtain ⟨z, its, n, r, hl, e⟩ := I.lstM hH
  refine call_meets F.slot_list_reverse ⟨_, e, rfl⟩ F.entry_list_reverse (F.args_list_reverse_1 _) (AutoSeq1.list_reverse_list_0 l its.toArray n (by rw [List.size_toArray]; omega)) ⟨e, ?_⟩
  refine ⟨.non, _, I.lset (its' := its.reverse) hH e (by simp) r.reverse ?_, rfl, q⟩
  rw [List.length_reverse]
  omega
def rCat : R2 := fun x y H Q => ∃ l b xs zs, x = .ref l ∧ y = .ref b ∧ H l = some (.lst xs) ∧ H b = some (.lst zs) ∧ xs.length + zs.length ≤ sizeLine ∧ ∀ p, H p = none → Q (.ref p) (upd H p (.lst (xs ++ zs)))
theorem op_cat : OpR X (binaryOp .Add) rCat := by
  intro pins s σ H x y v u Q I rx ry h
  obtain ⟨l, b, xs, zs, rfl, rfl, hH, hB, hz, q⟩ := h
  cases rx
  cases ry
  obtain ⟨z, its, n, r, hl, e⟩ := I.lstM hH
  obtain ⟨z2, its2, n2, r2, hl2, e2⟩ := I.lstM hB
  refine PySem.P.add_list e e2 ?_ (by rw [List.size_toArray, List.size_toArray]; omega)
  have ea : its.toArray ++ its2.toArray = (its ++ its2).toArray := by simp
  rw [ea]
  exact ⟨.ref _, _, I.lnew (t' := s.toks) (r.append r2) (by rw [List.length_append]; omega), rfl, q _ I.fresh⟩
end
section
variable {prog : Program} {w : World} {A : Around} {E : Value → Shared → Prop} {s : Shared}
end
section
variable {X : Cx}
end
end L2
namespace L2
open PySem PySem.Spec PyProof.Rows
section
variable {κ : Type} [DecidableEq κ]
theorem KV.length {kvs : List (κ × V)} {vs : List (κ × Value)} (r : KV kvs vs) : kvs.length = vs.length := Paired.length r
end
section
variable {P : Program} {w : World} {H : Hp} {h : Heap} {a : Addr}
end
section
variable {X : Cx} {pins : List (Addr × Obj)} {σ : St} {H : Hp} {s : Shared} {a : Addr} {y v : V} {u r : Value} {o : Option V} {A : Around} {E : Value → Shared → Prop}
end
section
variable {X : Cx} {pins : List (Addr × Obj)} {σ : St} {H : Hp} {s : Shared} {a : Addr} {kvs : List (Key × V)} {k : Key} {u : Value} {A : Around} {E : Value → Shared → Prop}
end
section
variable {X : Cx} {o i e value : Expr} {pos pos' tpos : Pos} {td ty tv : TE}
end
section
variable {X : Cx} {pos : Pos}
end
section
variable {X : Cx} {pins : List (Addr × Obj)} {σ : St} {H : Hp} {s : Shared} {a : Addr} {y d : V} {u r : Value} {o : Option V} {A : Around} {E : Value → Shared → Prop}
end
section
variable {X : Cx} {o e f : Expr} {apos cpos : Pos} {td ty tx : TE}
end
section
variable {X : Cx} {pins : List (Addr × Obj)} {σ : St} {H : Hp} {s : Shared} {a : Addr} {kvs : List (Key × V)} {A : Around} {E : Value → Shared → Prop}
end
section
variable {X : Cx} {pins : List (Addr × Obj)} {σ : St} {H : Hp} {s : Shared} {a : Addr} {y : V} {u : Value} {A : Around} {E : Value → Shared → Prop}
end
end L2
namespace Att
open PySem PySem.W PySem.Calls PyProof.Rows
theorem ints_of_wellAll {P : Params} {h : Heap} : ∀ (ns : List Int) (vs : List Value), WellAll P h vs (ns.map WData.int) → IntsAre vs ns := by
  intro ns
  induction ns with
  | nil =>
    intro vs w
    rw [List.map_nil] at w
    cases w
    exact .nil
  | cons n ns ih =>
    intro vs w
    rw [List.map_cons] at w
    cases w with
    | cons a b =>
      cases a
      exact .cons _ _ (ih _ b)
theorem script_of {l : OpenLaw} {n : Nat} (hn : l.most = some n) {P : Params} {h : Heap} {args : List WData} {vals : List Value}
    (hpre : l.row.toRowW.claim.pre args = true) (hwl : WellAll P h vals args) :
    ∃ a vs ns, vals = [Value.ref a] ∧ args = [WData.list (ns.map WData.int)] ∧ h.get? a = some { cls := .type "list", data := .seq vs.toArray } ∧ IntsAre vs ns ∧ ns.length ≤ n := by
  have hsh : WShape.hasAll [] args [.list .int] = true := (pre_splitW hpre).1
  have hc : l.pre.holds [] { args := args } = true := (pre_splitW hpre).2
  obtain ⟨d, r, rfl, h1, h2⟩ := hasAllW_cons hsh
  obtain rfl := hasAllW_nil h2
  obtain ⟨xs, rfl, h3⟩ := hasW_list h1
  obtain ⟨ns, rfl⟩ := items_int h3
  have hlen : ns.length ≤ n := by
    unfold OpenLaw.pre at hc
    have h4 : (WTm.not (.lt (.lit (.int (n : Int))) (.len (.arg 0)))).holds [] { args := [.list (ns.map .int)] } = true := by
      have h4 := (holds_andW hc).1
      rw [hn] at h4
      exact h4
    have h5 := condW_of h4 (w_not (w_lt w_lit (w_len_list (w_arg rfl))))
    rw [List.length_map] at h5
    refine Nat.le_of_not_lt fun q => ?_
    have q' : (n : Int) < ((ns.length : Nat) : Int) := by omega
    first
      | (rw [decide_eq_true q'] at h5; exact absurd h5 (by decide))
      | (simp at h5; omega)
  cases hwl with
  | cons w1 w2 =>
    cases w2
    cases w1 with
    | list ho hall => exact ⟨_, _, ns, rfl, rfl, ho, ints_of_wellAll ns _ hall, hlen⟩
theorem post_true (l : OpenLaw) (args : List WData) : l.row.toRowW.claim.post args (.bool true) args = true :=
  postW_of (r := l.row.toRowW) (X := (true == true))
    (show WShape.has [] (.bool true) .bool = true by first | rfl | decide | simp [WShape.has, WShape.arms, WShape.armsAll])
    (show (WTm.eq .res (.lit (.bool true))).value [] { args := args, res := some (.bool true), after := args } = some (.bool (true == true)) from w_eq_bool (w_res rfl) w_lit) rfl
theorem attach_call {l : OpenLaw} {n : Nat} {q : Program} {loose : List Str} {XP : (Str → Option Value) → Heap → Prop} {YP : World → Heap → Prop} {d : DefRec}
    (hn : l.most = some n) (hdf : d.params.defaults = [])
    (call : ∀ (w : World) (s₀ s₁ : Shared) (mg mb : Str → Option Value) (fa : Addr) (o : Obj) (pm cd doc : Value) (a : Addr) (vs : List Value) (ns : List Int),
      Ground q loose [] XP w s₀ mg mb s₁.heap → YP w s₁.heap →
      s₁.heap.get? fa = some o → o.data = .func (docDef d.name d.params d.body d.scope pm cd doc) → s₁.heap.CodeRec cd d.name → mg d.name = some (.ref fa) →
      s₁.heap.get? a = some { cls := .type "list", data := .seq vs.toArray } → IntsAre vs ns → ns.length ≤ n → s₁.gens = #[] →
      codeAny (model l.prog w) callerA (.call (.ref fa) ⟨[.ref a], []⟩) (fun r s' => r = .ok (.ret (.bool true)) ∧ OldK s₁.heap s'.heap ∧ s'.os = s₁.os ∧ AllBare s'.gens) s₁) :
    WalkO q loose XP YP l.row.toRowW d [] (fun f vs => PySem.call f vs) := by
  intro w s₀ s₁ mg mb G Y fa o pm cd doc dV kV ho hd hcd hD hmg hg args vals as hpre hlay hrd hwl hlo
  obtain rfl : dV = .none := Dflts.none hD hdf
  obtain rfl : kV = .none := Dflts.noKw hD
  obtain ⟨a, vs, ns, rfl, rfl, hobj, hints, hlen⟩ := script_of hn hpre hwl
  refine enter_call (codeAny_mono (call w s₀ s₁ mg mb fa o pm cd doc a vs ns G Y ho (fd_plain hd) hcd hmg hobj hints hlen hg) fun r s' hq => ?_)
  obtain ⟨rfl, h2, h3, h4⟩ := hq
  exact ⟨.inl ⟨.bool true, .bool true, [], rfl, fun _ => rfl, .bool true, post_true l _, fun _ => ⟨List.Pairwise.nil, fun _ hm => (nomatch hm)⟩⟩, h2, h3, h4⟩
section
variable {prog : Program} {w : World} {A : Around} {E : Value → Shared → Prop} {s : Shared} {K : Frag}
end
end Att
namespace L2
open PySem PySem.Spec PyProof.Rows
theorem vals_ints : ∀ {vs : List Value} {ns : List Int}, IntsAre vs ns → Vals (ns.map V.int) vs
  | _, _, .nil => .nil
  | _, _, .cons n t h => .cons ⟨t, rfl⟩ (vals_ints h)
def Only (H : Hp) : Prop := ∀ b, H b = none ∨ ∃ o xs, H b = some (.frz o (.lst xs))
theorem law_call {P : Program} {w : World} {K : PySem.W.Frag} {mg mb : Str → Option Value} {CX : CXT} {k : Nat} {fa a : Addr} {fd : FuncData} {x : Str} {sp : Sp} {s₁ : Shared} {vs : List Value} {ns : List Int}
    (KX : K.In s₁.heap) (hns : s₁.heap.Ns mainGlobals mg) (hb : s₁.heap.Ns builtinsNs mb) (hbb : ∀ x : Str, x ≠ "__name__" → mb x = bootBuiltins x) (hlim : s₁.heap.NoLimit) (hg : s₁.gens = #[])
    (ha : s₁.heap.get? a = some { cls := .type "list", data := .seq vs.toArray }) (hi : IntsAre vs ns) (hl : ns.length ≤ sizeLine) (hr : Room k callerA)
    (F : ∀ base : Heap, K.In base → base.Ns mainGlobals mg → FnOk P w K mg base CX k fa fd [x] sp) (hbind : ∀ (s : Shared) (u : Value), BindsTo s fd ⟨[u], []⟩ [(x, u)])
    (hsp : ∀ H : Hp, Only H → SqL K H a (ns.map V.int) → sp [.ref a] H (fun v _ => v = .bl true) fun _ _ _ => False)
    (hCX : ∀ H e s', CX [] H s₁ (fun _ _ _ => False) e s' → False) :
    codeAny (model P w) callerA (.call (.ref fa) ⟨[.ref a], []⟩) (fun r s' => r = .ok (.ret (.bool true)) ∧ OldK s₁.heap s'.heap ∧ s'.os = s₁.os ∧ AllBare s'.gens) s₁ := by
  have rv := vals_ints hi
  have lenV := hi.length
  -- from an abstract heap in which nothing but the script may be tracked
  have core : ∀ H : Hp, Only H → SqL K H a (ns.map V.int) → HOk P w H s₁.heap → (∀ b, H b ≠ none → b = a) → (H a ≠ none → K.lookup a = none) →
      codeAny (model P w) callerA (.call (.ref fa) ⟨[.ref a], []⟩) (fun r s' => r = .ok (.ret (.bool true)) ∧ OldK s₁.heap s'.heap ∧ s'.os = s₁.os ∧ AllBare s'.gens) s₁ := by
    intro H hO hS hok hA hK
    have base_of : ∀ {b : Addr} {o : Obj}, s₁.heap.get? b = some o → H b = none → (hidT s₁.heap H).get? b = some o := fun e n => hidT_get e n
    have noA : ∀ {b : Addr} {o : Obj} {es : Array DictEntry} {ep : Nat}, s₁.heap.get? b = some o → o.data = .dict es ep → H b = none := fun {b o es ep} e d => by
      cases q : H b with
      | none => rfl
      | some u =>
        have e' : b = a := hA b (by rw [q]; simp)
        subst e'
        rw [ha] at e; cases e
        have d' : Data.seq vs.toArray _ = Data.dict es ep := d
        cases d'
    have nsK : ∀ {b : Addr} {m : Str → Option Value}, s₁.heap.Ns b m → (hidT s₁.heap H).Ns b m := fun {b m} ⟨o, es, ep, e, d, r⟩ => ⟨o, es, ep, base_of e (noA e d), d, r⟩
    have hKb : K.In (hidT s₁.heap H) := fun b o e => base_of (KX b o e) (by
      cases q : H b with
      | none => rfl
      | some u =>
        have e' : b = a := hA b (by rw [q]; simp)
        subst e'
        rw [hK (by rw [q]; simp)] at e; cases e)
    have hM : Mod K mg (hidT s₁.heap H) := ⟨hKb, nsK hns, ⟨mb, nsK hb, hbb⟩, let ⟨mc, h1, h2⟩ := hlim; ⟨mc, nsK h1, h2⟩⟩
    have e0 : Env0 P w K mg (hidT s₁.heap H) callerA [] s₁ H := ⟨rfl, hM, fun b o e => of_hidT e, Nat.le_of_eq (hidT_size _ _), trivial, fun b hb => absurd (show b ∈ ([] : List Addr) from hb) (by simp), hok, .of_eq hg⟩
    refine codeAny_mono ((F _ hKb (nsK hns)).run callerA [] s₁ H ⟨[.ref a], []⟩ [.ref a] [.ref a] _ _ hr e0 (hbind s₁ (.ref a)) (.cons rfl .nil) (hsp H hO hS)) fun r s' h => ?_
    cases r with
    | error e => exact (hCX H e s' h).elim
    | ok fl =>
      cases fl with
      | next => exact False.elim h
      | brk => exact False.elim h
      | cont => exact False.elim h
      | ret u =>
        obtain ⟨v, H', os, bare, un, hok', r', q⟩ := h
        have q' : v = .bl true := q
        subst q'
        obtain rfl : u = Value.bool true := r'
        refine ⟨rfl, OldK.of_keep fun b o e => ?_, os, bare⟩
        cases q : H b with
        | none => exact un.keep b o e q (by intro z; exact absurd (show b ∈ ([] : List Addr) from z) (by simp)) (by simp)
        | some u =>
          rcases hO b with z | ⟨ob, xs, z⟩
          · rw [q] at z; cases z
          · have z2 := un.frzs b ob _ z
            obtain ⟨e1, _⟩ := hok b _ z
            obtain ⟨e2, _⟩ := hok' b _ z2
            rw [e] at e1; cases e1
            exact e2
  cases hk : K.lookup a with
  | some o =>
    -- the script is one of the module's own objects
    have e := KX a o hk
    rw [ha] at e
    cases e
    refine core (fun _ => none) (fun _ => .inl rfl) (.inr ⟨_, vs.toArray, _, hk, rfl, rfl, rfl, by rw [List.size_toArray, lenV]; exact hl, by simpa using rv⟩) (fun b u z => by have z' : (none : Option HO) = some u := z; cases z') (fun b z => absurd rfl z) fun z => absurd rfl z
  | none =>
    refine core (fun b => if b = a then some (.frz { cls := .type "list", data := .seq vs.toArray } (.lst (ns.map V.int))) else none) (fun b => ?_) (.inl (.inr ⟨{ cls := .type "list", data := .seq vs.toArray }, if_pos rfl⟩)) (fun b u z => ?_) (fun b z => ?_) fun _ => hk
    · by_cases hb : b = a
      · exact .inr ⟨_, _, if_pos hb⟩
      · exact .inl (if_neg hb)
    · by_cases hb : b = a
      · have z' := (if_pos hb).symm.trans z
        cases z'
        subst hb
        exact ⟨ha, by rw [List.length_map]; exact hl, vs, _, rv, ha⟩
      · have z' := (if_neg hb).symm.trans z
        cases z'
    · by_cases hb : b = a
      · exact hb
      · exact absurd (if_neg hb) z
end L2
namespace L2
open PySem PySem.Spec PyProof.Rows
theorem walk_of {l : PySem.W.OpenLaw} {n k : Nat} {q : Program} {loose : List Str} {XP : (Str → Option Value) → Heap → Prop} {YP : World → Heap → Prop} {d : DefRec} {K : Params → PySem.W.Frag} {CX : World → CXT} {sp : World → Sp} {x : Str}
    (hn : l.most = some n) (hn2 : n ≤ sizeLine) (hdf : d.params.defaults = []) (hr : Room k callerA)
    (hY : ∀ (w : World) (h : Heap), YP w h → (K w.params).In h)
    (F : ∀ (w : World) (mg : Str → Option Value) (fa : Addr) (h : Heap), (K w.params).In h → h.Ns mainGlobals mg → mg d.name = some (.ref fa) →
      ∃ fd : FuncData, (∀ (s : Shared) (u : Value), BindsTo s fd ⟨[u], []⟩ [(x, u)]) ∧
        ∀ base : Heap, (K w.params).In base → base.Ns mainGlobals mg → FnOk l.prog w (K w.params) mg base (CX w) k fa fd [x] (sp w))
    (hsp : ∀ (w : World) (H : Hp) (a : Addr) (ns : List Int), ns.length ≤ n → Only H → SqL (K w.params) H a (ns.map V.int) → sp w [.ref a] H (fun v _ => v = .bl true) fun _ _ _ => False)
    (hCX : ∀ (w : World) (H : Hp) (s : Shared) (e : Value) (s' : Shared), CX w [] H s (fun _ _ _ => False) e s' → False) :
    PySem.W.WalkO q loose XP YP l.row.toRowW d [] (fun f vs => PySem.call f vs) := by
  refine Att.attach_call hn hdf fun w s₀ s₁ mg mb fa o pm cd doc a vs ns G Y ho hd hcd hmg hobj hints hlen hg => ?_
  have KX := hY w _ Y
  obtain ⟨fd, hb, hF⟩ := F w mg fa _ KX G.T.g hmg
  exact law_call KX G.T.g G.T.b G.T.builtins G.T.nolimit hg hobj hints (Nat.le_trans hlen hn2) hr hF hb (fun H hO hS => hsp w H a ns hlen hO hS) fun H e s' => hCX w H s₁ e s'
end L2
namespace L2
open PySem PySem.Spec PyProof.Rows
def defArgs (s : Stmt) : Arguments := match s with
  | .FunctionDef _ a _ _ _ _ _ _ _ _ => a
  | _ => { posonlyargs := [], args := [], vararg := none, kwonlyargs := [], kw_defaults := [], kwarg := none, defaults := [] }
def defBody (s : Stmt) : List Stmt := match s with
  | .FunctionDef _ _ b _ _ _ _ _ _ _ => b
  | _ => []
def defScope (s : Stmt) : Scope := match s with
  | .FunctionDef _ _ _ _ _ _ sc _ _ _ => sc
  | _ => { kind := .function, names := [], isGenerator := false, isCoroutine := false }
abbrev CX0 : CXT := fun _ _ _ _ _ _ => False
abbrev E0 : XK := fun _ _ _ => False
structure Fun (K : PySem.W.Frag) (x qual : Str) (st : Stmt) (f : Addr) (fd : FuncData) : Prop where
  ex : ∃ (oc : Value) (od : Option Addr) (kV doc pm : Value) (an : Option Addr) (cdv ct : Value) (osl : Array (Option Value)),
    fd = PySem.W.fnOf x qual (defArgs st) (defBody st) (defScope st) .none kV doc pm an cdv ct ∧ K.lookup f = some ⟨oc, od, .func fd, osl⟩ ∧ PySem.W.codeIn K cdv qual = true
  kp : PySem.W.keepIn K (.ref f) = true
section
variable {P : Program} {w : World} {K : PySem.W.Frag} {mg : Str → Option Value} {base : Heap}
theorem Fun.binds {x qual : Str} {st : Stmt} {f : Addr} {fd : FuncData} {ps : List Str} (F : Fun K x qual st f fd)
    (h : ∀ (kV doc pm : Value) (an : Option Addr) (cdv ct : Value) (us : List Value), us.length = ps.length → bindArgs (PySem.W.fnOf x qual (defArgs st) (defBody st) (defScope st) .none kV doc pm an cdv ct) ⟨us, []⟩ = pure (ps.zip us)) : Binds K fd ps [] := by
  obtain ⟨oc, od, kV, doc, pm, an, cdv, ct, osl, rfl, lk, hcd⟩ := F.ex
  exact .all (h kV doc pm an cdv ct)
theorem fun_mk {x qual : Str} {st : Stmt} {f : Addr} {oc : Value} {od an : Option Addr} {osl : Array (Option Value)} {kV doc pm cdv ct : Value} (l : K.lookup f = some ⟨oc, od, .func (PySem.W.fnOf x qual (defArgs st) (defBody st) (defScope st) .none kV doc pm an cdv ct), osl⟩)
    (c : PySem.W.codeIn K cdv qual = true) (k : PySem.W.keepIn K (.ref f) = true) : Fun K x qual st f (PySem.W.fnOf x qual (defArgs st) (defBody st) (defScope st) .none kV doc pm an cdv ct) := ⟨⟨oc, od, kV, doc, pm, an, cdv, ct, osl, rfl, l, c⟩, k⟩
end
section
variable {X : Cx}
end
def Same (H H' : Hp) : Prop := ∀ b o, H b = some o → H' b = some o
theorem Same.trans {H H1 H2 : Hp} (a : Same H H1) (b : Same H1 H2) : Same H H2 := fun c o h => b c o (a c o h)
end L2
namespace L2
open PySem PySem.Spec PyProof.Rows
section
variable {X : Cx}
end
section
variable {κ : Type} [DecidableEq κ]
end
end L2
set_option Elab.async false
set_option linter.all false
set_option maxRecDepth 100000
namespace L2
open PySem PySem.Spec PyProof.Rows
section
variable {prog : Program} {w : World} {A : Around} {R : Result → Shared → Prop} {s : Shared}
end
def clOf : List (Str × NameKind) → List (Str × Addr) → List (Str × Addr) → List (Str × Addr)
  | [], _, acc => acc
  | (n, k) :: r, cs, acc => clOf r cs (if k = .free then (match cs.lookup n with | some a => (n, a) :: acc | none => acc) else acc)
theorem clOf_keep : ∀ (names : List (Str × NameKind)) (cs acc : List (Str × Addr)) {x : Str} {c : Addr}, cs.lookup x = some c → acc.lookup x = some c → (clOf names cs acc).lookup x = some c
  | [], _, _, _, _, _, h => h
  | (n, k) :: r, cs, acc, x, c, hc, h => by
    unfold clOf
    refine clOf_keep r cs _ hc ?_
    by_cases hk : k = .free
    · rw [if_pos hk]
      cases e : cs.lookup n with
      | none => exact h
      | some a =>
        show ((n, a) :: acc).lookup x = some c
        by_cases hx : (x == n) = true
        · have hn : x = n := by simpa using hx
          subst hn
          rw [hc] at e
          cases e
          simp [List.lookup_cons]
        · have hx' : (x == n) = false := by simpa using hx
          rw [List.lookup_cons, hx']
          exact h
    · rw [if_neg hk]; exact h
theorem clOf_get : ∀ (names : List (Str × NameKind)) (cs acc : List (Str × Addr)) {x : Str} {c : Addr}, names.lookup x = some .free → cs.lookup x = some c → (clOf names cs acc).lookup x = some c
  | [], _, _, _, _, h, _ => by simp at h
  | (n, k) :: r, cs, acc, x, c, h, hc => by
    by_cases hx : (x == n) = true
    · have hn : x = n := by simpa using hx
      subst hn
      rw [List.lookup_cons] at h
      simp only [beq_self_eq_true] at h
      cases h
      unfold clOf
      rw [if_pos rfl, hc]
      exact clOf_keep r cs _ hc (by simp [List.lookup_cons])
    · have hx' : (x == n) = false := by simpa using hx
      rw [List.lookup_cons, hx'] at h
      unfold clOf
      exact clOf_get r cs _ h hc
theorem clOf_from : ∀ (names : List (Str × NameKind)) (cs acc : List (Str × Addr)) {x : Str} {c : Addr}, (clOf names cs acc).lookup x = some c → cs.lookup x = some c ∨ acc.lookup x = some c
  | [], _, _, _, _, h => .inr h
  | (n, k) :: r, cs, acc, x, c, h => by
    unfold clOf at h
    rcases clOf_from r cs _ h with h | h
    · exact .inl h
    · by_cases hk : k = .free
      · rw [if_pos hk] at h
        cases e : cs.lookup n with
        | none => rw [e] at h; exact .inr h
        | some a =>
          rw [e] at h
          have h : ((n, a) :: acc).lookup x = some c := h
          by_cases hx : (x == n) = true
          · have hn : x = n := by simpa using hx
            subst hn
            rw [List.lookup_cons] at h
            simp only [beq_self_eq_true] at h
            cases h
            exact .inl e
          · have hx' : (x == n) = false := by simpa using hx
            rw [List.lookup_cons, hx'] at h
            exact .inr h
      · rw [if_neg hk] at h; exact .inr h
theorem closureFor_cl {scope : Scope} {env : Env} (h : ∀ y ∈ scope.names, y.2 = .free → (env.cells.lookup y.1).isSome = true) : closureFor scope env = pure (clOf scope.names env.cells []) := by
  have go : ∀ (names : List (Str × NameKind)) (acc : List (Str × Addr)), (∀ y ∈ names, y.2 = .free → (env.cells.lookup y.1).isSome = true) →
      (forIn names acc fun (x : Str × NameKind) (cs : List (Str × Addr)) => (if (x.2 == NameKind.free) = true then (do let a ← cellOf env x.1; pure (ForInStep.yield ((x.1, a) :: cs))) else pure (ForInStep.yield cs) : Sem (ForInStep (List (Str × Addr))))) = pure (clOf names env.cells acc) := by
    intro names
    induction names with
    | nil => intro acc _; rfl
    | cons y r ih =>
      intro acc hy
      obtain ⟨n, k⟩ := y
      rw [List.forIn_cons]
      by_cases hk : k = .free
      · subst hk
        have e := hy (n, .free) List.mem_cons_self rfl
        obtain ⟨a, ea⟩ := Option.isSome_iff_exists.mp e
        have ea : env.cells.lookup n = some a := ea
        have ec : cellOf env n = pure a := by unfold cellOf; rw [ea]
        show ((if ((NameKind.free == NameKind.free) = true) then (do let a ← cellOf env n; pure (ForInStep.yield ((n, a) :: acc))) else pure (ForInStep.yield acc)) >>= _) = _
        rw [if_pos (show (NameKind.free == NameKind.free) = true from rfl), ec, pure_bind, pure_bind]
        show forIn r ((n, a) :: acc) _ = _
        rw [ih _ fun z hz => hy z (List.mem_cons_of_mem _ hz)]
        show _ = pure (clOf r env.cells (if NameKind.free = .free then (match env.cells.lookup n with | some a => (n, a) :: acc | none => acc) else acc))
        rw [if_pos rfl, ea]
      · have hb : (k == NameKind.free) = false := by simpa using hk
        show ((if ((k == NameKind.free) = true) then (do let a ← cellOf env n; pure (ForInStep.yield ((n, a) :: acc))) else pure (ForInStep.yield acc)) >>= _) = _
        rw [if_neg (by rw [hb]; exact Bool.false_ne_true), pure_bind]
        show forIn r acc _ = _
        rw [ih _ fun z hz => hy z (List.mem_cons_of_mem _ hz)]
        show _ = pure (clOf r env.cells (if k = .free then _ else acc))
        rw [if_neg hk]
  have := go scope.names [] h
  simp only [closureFor]
  rw [show (forIn scope.names ([] : List (Str × Addr)) fun x r => _) = _ from this]
  rfl
theorem relabel_kind {env : Env} : ∀ {names : List (Str × NameKind)} {x : Str} {k : NameKind},
    (names.map fun (n, k) => if (k == NameKind.free && env.scope.kind == .function && env.kindOf n == some .cell) then (n, NameKind.cell) else (n, k)).lookup x = some k → names.lookup x = some k ∨ (names.lookup x = some .free ∧ k = .cell)
  | [], _, _, h => by simp at h
  | (n, k0) :: r, x, k, h => by
    have ih := @relabel_kind env r x k
    have h : List.lookup x ((if (k0 == NameKind.free && env.scope.kind == .function && env.kindOf n == some .cell) = true then (n, NameKind.cell) else (n, k0)) :: _) = some k := h
    by_cases hc : (k0 == NameKind.free && env.scope.kind == .function && env.kindOf n == some .cell) = true
    · rw [if_pos hc] at h
      have hk0 : k0 = .free := by
        have := (Bool.and_eq_true_iff.mp (Bool.and_eq_true_iff.mp hc).1).1
        simpa using this
      cases hx : x == n with
      | true =>
        rw [List.lookup_cons, hx] at h
        rw [List.lookup_cons, hx]
        cases h
        exact .inr ⟨by rw [hk0], rfl⟩
      | false =>
        rw [List.lookup_cons, hx] at h
        rw [List.lookup_cons, hx]
        exact ih h
    · rw [if_neg hc] at h
      cases hx : x == n with
      | true =>
        rw [List.lookup_cons, hx] at h
        rw [List.lookup_cons, hx]
        exact .inl h
      | false =>
        rw [List.lookup_cons, hx] at h
        rw [List.lookup_cons, hx]
        exact ih h
theorem relabel_free {env : Env} : ∀ {names : List (Str × NameKind)} {x : Str}, names.lookup x = some .free →
    let l := (names.map fun (n, k) => if (k == NameKind.free && env.scope.kind == .function && env.kindOf n == some .cell) then (n, NameKind.cell) else (n, k)).lookup x
    l = some .cell ∨ l = some .free
  | [], _, h => by simp at h
  | (n, k0) :: r, x, h => by
    have ih := @relabel_free env r x
    show List.lookup x ((if (k0 == NameKind.free && env.scope.kind == .function && env.kindOf n == some .cell) = true then (n, NameKind.cell) else (n, k0)) :: _) = _ ∨ List.lookup x ((if (k0 == NameKind.free && env.scope.kind == .function && env.kindOf n == some .cell) = true then (n, NameKind.cell) else (n, k0)) :: _) = _
    cases hx : x == n with
    | true =>
      rw [List.lookup_cons, hx] at h
      cases h
      split
      · left; rw [List.lookup_cons, hx]
      · right; rw [List.lookup_cons, hx]
    | false =>
      rw [List.lookup_cons, hx] at h
      split
      · rw [List.lookup_cons, hx]; exact ih h
      · rw [List.lookup_cons, hx]; exact ih h
def cxComp (X : Cx) (N : List Str) (scope : Scope) (C : Addr) (s₀ : Shared) (H₀ : Hp) (ex : List Addr) (pins : List (Addr × Obj)) : Cx :=
  { prog := X.prog, w := X.w, K := X.K, mg := X.mg, base := X.base, A := X.A, N := N, s₀ := s₀, H₀ := H₀, env := compEnvC scope (clOf scope.names X.env.cells []) C X.env, outer := X.stack, stack := X.stack, ex := ex,
    fn := fun _ => false, calm := X.calm, pn := X.pn ++ pins, xe := fun _ _ => False }
def frOf (fr : List (Option Nat)) (σ : St) : St := fr.map fun o => o.bind fun j => (σ[j]?).bind id
def FrOk (N : List Str) (names : List (Str × NameKind)) (N' : List Str) (names' : List (Str × NameKind)) : List (Option Nat) → Prop := fun fr =>
  fr.length = N'.length ∧ ∀ (k j : Nat) (x : Str), fr[k]? = some (some j) → N'[k]? = some x → N[j]? = some x ∧ (names.lookup x = some .cell ∨ names.lookup x = some .free) ∧ names'.lookup x = some .free
theorem Inv.sameBut {X : Cx} {pins : List (Addr × Obj)} {σ : St} {H : Hp} {s : Shared} {h' : Heap} (I : Inv X pins σ H s) (hs : Heap.SameBut X.env.locals s.heap h') : HOk X.prog X.w H h' := fun b ob e => by
  refine (I.hok b ob e).stay (fun c w' hc q => (hs.2 c ?_).trans q) (fun _ q => q) fun _ _ q => q
  rintro rfl
  rcases hc with rfl | hc
  · rw [I.free] at e; cases e
  · rw [I.free] at hc; cases hc
section
variable {X : Cx} {elt tg iter : Expr} {ifs : List Expr} {scope : Scope} {pos : Pos} {N : List Str} {fr : List (Option Nat)} {wi : TI} {g : TG} {tt : TT} {te : TE}
end
end L2
set_option Elab.async false
set_option linter.all false
set_option maxRecDepth 100000
namespace L2
open PySem PySem.Spec PyProof.Rows PySem.SeqAt
mutual
def DV (K : PySem.W.Frag) (H : Hp) : PyData → V → Prop
  | .none, v => v = .non
  | .bool b, v => v = .bl b
  | .int i, v => v = .int i
  | .str x, v => v = .str x
  | .list ds, v => ∃ a vs, v = .ref a ∧ H a = some (.lst vs) ∧ DVs K H ds vs
  | .tuple ds, v => ∃ a vs, v = .ref a ∧ SqT K H a vs ∧ DVs K H ds vs
  | .dict _, _ => False
def DVs (K : PySem.W.Frag) (H : Hp) : List PyData → List V → Prop
  | [], vs => vs = []
  | d :: ds, vs => ∃ v r, vs = v :: r ∧ DV K H d v ∧ DVs K H ds r
end
theorem DVs.length {K : PySem.W.Frag} {H : Hp} : ∀ {ds : List PyData} {vs : List V}, DVs K H ds vs → vs.length = ds.length
  | [], _, h => by unfold DVs at h; subst h; rfl
  | d :: ds, _, h => by
    unfold DVs at h
    obtain ⟨v, r, rfl, _, e3⟩ := h
    simp [DVs.length e3]
section
variable {X : Cx} {pins : List (Addr × Obj)} {σ : St} {H : Hp} {s : Shared}
mutual
theorem Inv.reads (I : Inv X pins σ H s) : ∀ (d : PyData) {v : V} {u : Value}, DV X.K H d v → RelV v u → ∃ as, Reads s.heap u d as
  | .none, _, u, h, r => by
    unfold DV at h
    subst h
    obtain rfl : u = Value.none := r
    exact ⟨_, .none⟩
  | .bool b, _, u, h, r => by
    unfold DV at h
    subst h
    obtain rfl : u = Value.bool b := r
    exact ⟨_, .bool b⟩
  | .int i, _, u, h, r => by
    unfold DV at h
    subst h
    obtain ⟨t, rfl⟩ := r
    exact ⟨_, .int i t⟩
  | .str x, _, u, h, r => by
    unfold DV at h
    subst h
    obtain ⟨t, rfl⟩ := r
    exact ⟨_, .str x t⟩
  | .list ds, _, u, h, r => by
    unfold DV at h
    obtain ⟨a, vs, rfl, e, hs⟩ := h
    obtain rfl : u = Value.ref a := r
    obtain ⟨_, its, n, rv, eo⟩ := I.hok a _ e
    obtain ⟨as, q⟩ := Inv.readsAll I ds hs rv
    exact ⟨_, .list eo rfl rfl (by simpa using q)⟩
  | .tuple ds, _, u, h, r => by
    unfold DV at h
    obtain ⟨a, vs, rfl, e, hs⟩ := h
    obtain rfl : u = Value.ref a := r
    rcases e with e | ⟨o, its, n, k1, k2, k3, k4, rv⟩
    · obtain ⟨_, its, rv, o, eo, ec, n, ed⟩ := e.ok I.hok
      obtain ⟨as, q⟩ := Inv.readsAll I ds hs rv
      exact ⟨_, .tuple eo ec ed (by simpa using q)⟩
    · obtain ⟨as, q⟩ := Inv.readsAll I ds hs rv
      exact ⟨_, .tuple (I.kIn _ _ k1) k2 k3 q⟩
  | .dict _, _, _, h, _ => by unfold DV at h; exact h.elim
theorem Inv.readsAll (I : Inv X pins σ H s) : ∀ (ds : List PyData) {vs : List V} {us : List Value}, DVs X.K H ds vs → Vals vs us → ∃ as, ReadsAll s.heap us ds as
  | [], _, us, h, r => by
    unfold DVs at h
    subst h
    cases r
    exact ⟨_, .nil⟩
  | d :: ds, _, us, h, r => by
    unfold DVs at h
    obtain ⟨v, w, rfl, e2, e3⟩ := h
    cases r with
    | cons ru rr =>
      obtain ⟨as, q1⟩ := Inv.reads I d e2 ru
      obtain ⟨bs, q2⟩ := Inv.readsAll I ds e3 rr
      exact ⟨_, .cons q1 q2⟩
end
end
section
variable {X : Cx}
def rEqD (K : PySem.W.Frag) : R2 := fun x y H Q => ∃ da db, DV K H da x ∧ DV K H db y ∧ shaped da = true ∧ shaped db = true ∧ Q (.bl (PyData.eqv da db)) H
def rNeD (K : PySem.W.Frag) : R2 := fun x y H Q => ∃ da db, DV K H da x ∧ DV K H db y ∧ shaped da = true ∧ shaped db = true ∧ Q (.bl (!PyData.eqv da db)) H
theorem op_eqD (hu : X.A.units + 64 < cLine) : OpR X (compareOp .Eq) (rEqD X.K) := by
  intro pins s σ H x y v u Q I r1 r2 h
  obtain ⟨da, db, h1, h2, h3, h4, q⟩ := h
  obtain ⟨as, ra⟩ := I.reads da h1 r1
  obtain ⟨bs, rb⟩ := I.reads db h2 r2
  exact compareEq_shaped ra rb h3 h4 hu ⟨.bl _, H, I, rfl, q⟩
theorem op_neD (hu : X.A.units + 64 < cLine) : OpR X (compareOp .NotEq) (rNeD X.K) := by
  intro pins s σ H x y v u Q I r1 r2 h
  obtain ⟨da, db, h1, h2, h3, h4, q⟩ := h
  obtain ⟨as, ra⟩ := I.reads da h1 r1
  obtain ⟨bs, rb⟩ := I.reads db h2 r2
  exact compareNe_shaped ra rb h3 h4 hu ⟨.bl _, H, I, rfl, q⟩
end
end L2
set_option Elab.async false
set_option linter.all false
set_option maxRecDepth 100000
namespace L2
open PySem PySem.Spec PyProof.Rows
theorem ObjOk.there {P : Program} {w : World} {H : Hp} {h : Heap} {a : Addr} {o : HO} (x : ObjOk P w H h a o) : ∃ ob, h.get? a = some ob := by
  cases o with
  | lst xs => obtain ⟨_, _, _, _, e⟩ := x; exact ⟨_, e⟩
  | tup xs => obtain ⟨_, _, _, _, e, _⟩ := x; exact ⟨_, e⟩
  | dK kvs => obtain ⟨_, _, _, _, o, _, _, e, _⟩ := x; exact ⟨_, e⟩
  | dT kvs => obtain ⟨_, _, _, _, o, _, _, e, _⟩ := x; exact ⟨_, e⟩
  | set S n => obtain ⟨o, _, _, _, e, _⟩ := x; exact ⟨_, e⟩
  | ins C dx fs => obtain ⟨_, _, _, e, _⟩ := x; exact ⟨_, e⟩
  | own y => exact x
  | xd fs => obtain ⟨_, ⟨_, _, _, e, _⟩, _⟩ := x; exact ⟨_, e⟩
  | rng lo hi => obtain ⟨_, _, _, e⟩ := x; exact ⟨_, e⟩
  | frz ob u => obtain ⟨e, _⟩ := x; exact ⟨_, e⟩
  | tbl ps => exact ⟨_, (show h.get? a = some _ from x)⟩
  | met f y => exact ⟨_, (show h.get? a = some _ from x)⟩
  | ext φ => obtain ⟨_, e, _⟩ := x; exact e
def CXd (P : Program) (w : World) : CXT := fun outer H s E e s' => ∃ (ea C : Addr) (a0 : Value) (H' : Hp) (B : Heap), e = .ref ea ∧ s'.os = s.os ∧ AllBare s'.gens ∧ Un (frs outer) [] H H' s.heap s'.heap ∧ HOk P w H' s'.heap ∧
  Heap.FlyingW B outer ea (.ref C) a0 s'.heap ∧ H' ea = none ∧ s.heap.get? ea = none ∧
  (∀ b o, s'.heap.get? b = some o → b ∉ frs outer → (H' b ≠ none ∨ ∃ o', s.heap.get? b = some o') → B.get? b = some o) ∧ E (.ref C) none H'
theorem CXd.no {P : Program} {w : World} {outer : List Env} {H : Hp} {s s' : Shared} {e : Value} (h : CXd P w outer H s E0 e s') : False := by
  obtain ⟨_, _, _, _, _, _, _, _, _, _, _, _, _, _, q⟩ := h
  exact q
section
variable {P : Program} {w : World} {K : PySem.W.Frag} {mg : Str → Option Value} {base : Heap} {N : List Str} {qual : Str} {scope : Scope} {f : Addr} {cd : Value} {A : Around} {outer : List Env} {s : Shared} {H : Hp} {E : XK}
  {pins : List (Addr × Obj)} {σ : St} {H1 H' : Hp} {s1 : Shared}
theorem CXd.leave {ea C : Addr} {a0 : Value} {B hh h' : Heap} {s' : Shared} (I : Inv (cxOf (CXd P w) P w K mg base N qual scope f cd A outer s H E) pins σ H1 s1) (os : s'.os = s1.os) (bare : AllBare s'.gens)
    (un : Un (frs (cxOf (CXd P w) P w K mg base N qual scope f cd A outer s H E).stack) [] H1 H' s1.heap hh) (hok : HOk P w H' hh) (fl : Heap.FlyingW B outer ea (.ref C) a0 h') (ups : hh.UpToSlots h') (hea : H' ea = none) (hsa : s1.heap.get? ea = none)
    (cov : ∀ b o, hh.get? b = some o → b ∉ frs (cxOf (CXd P w) P w K mg base N qual scope f cd A outer s H E).stack → (H' b ≠ none ∨ ∃ o', s1.heap.get? b = some o') → B.get? b = some o) (q : E (.ref C) none H') :
    CXd P w outer H s E (.ref ea) { s' with heap := h' } := by
  have hst : ∀ b, b ∈ frs (cxOf (CXd P w) P w K mg base N qual scope f cd A outer s H E).stack ↔ b = s.heap.objs.size ∨ b ∈ frs outer := fun b => by
    show b ∈ frs (envOfC qual scope s.heap.objs.size f cd :: outer) ↔ _
    unfold frs
    rw [List.filterMap_cons]
    show b ∈ s.heap.objs.size :: _ ↔ _
    exact List.mem_cons
  have base0 : Un (frs outer) [] H H1 s.heap s1.heap := I.base
  have old : ∀ b o, s.heap.get? b = some o → b ≠ s.heap.objs.size := fun b o e => Nat.ne_of_lt (Heap.lt_size e)
  have nfr : ∀ b, b ∈ frs (cxOf (CXd P w) P w K mg base N qual scope f cd A outer s H E).stack → H' b = none := fun b hb => by
    obtain ⟨_, o, ho, _⟩ := I.stack.mem hb
    exact un.free b o ho (I.stkFree b hb) (by simp)
  have kept : ∀ b o, hh.get? b = some o → b ∉ frs (cxOf (CXd P w) P w K mg base N qual scope f cd A outer s H E).stack → (H' b ≠ none ∨ ∃ o', s1.heap.get? b = some o') → h'.get? b = some o := fun b o e h1 h2 => fl.1 b o (cov b o e h1 h2)
  -- what stood at the entry stands ahead of the leaving
  have a1 : ∀ b o, s.heap.get? b = some o → ∃ o1, s1.heap.get? b = some o1 := fun b o e => base0.there b o e (by simp)
  have a2 : ∀ b o, s.heap.get? b = some o → ∃ o2, hh.get? b = some o2 := fun b o e => by
    obtain ⟨o1, e1⟩ := a1 b o e
    exact un.there b o1 e1 (by simp)
  refine ⟨ea, C, a0, H', B, rfl, os.trans I.os, bare, ⟨fun b o e n hb hx => ?_, fun b o e n hb hx => ?_, fun b o e n hx => ?_, fun b o e hx => ?_, fun b xs e => un.tups b xs (base0.tups b xs e), fun b o u e => un.frzs b o u (base0.frzs b o u e), fun b ps e => ?_⟩, fun b u e => ?_, fl, hea, ?_, fun b o e hb hx => ?_, q⟩
  · have e1 := base0.keep b o e n hb (by simp)
    have hb' : b ∉ frs (cxOf (CXd P w) P w K mg base N qual scope f cd A outer s H E).stack := fun z => ((hst b).mp z).elim (old b o e) hb
    exact kept b o (un.keep b o e1 (base0.free b o e n (by simp)) hb' (by simp)) hb' (.inr ⟨o, e1⟩)
  · obtain ⟨sl1, e1⟩ := base0.slot b o e n hb (by simp)
    have hb' : b ∈ frs (cxOf (CXd P w) P w K mg base N qual scope f cd A outer s H E).stack := (hst b).mpr (.inr hb)
    obtain ⟨sl2, e2⟩ := un.slot b _ e1 (base0.free b o e n (by simp)) hb' (by simp)
    obtain ⟨_, o3, ho3, hd3⟩ := I.ok.funs.mem hb
    have : s.heap.get? b = some o3 := ho3
    rw [e] at this
    cases this
    obtain ⟨sl3, e3⟩ := ups b _ e2 hd3
    exact ⟨sl3, e3⟩
  · obtain ⟨o1, e1⟩ := a1 b o e
    exact un.free b o1 e1 (base0.free b o e n (by simp)) (by simp)
  · obtain ⟨o1, e1⟩ := a1 b o e
    obtain ⟨o2, e2⟩ := a2 b o e
    by_cases hb : b ∈ frs (cxOf (CXd P w) P w K mg base N qual scope f cd A outer s H E).stack
    · rcases (hst b).mp hb with z | z
      · exact absurd z (old b o e)
      · obtain ⟨_, o3, ho3, hd3⟩ := I.funs.mem z
        obtain ⟨sl, e4⟩ := un.slot b _ ho3 (I.stkFree b hb) hb (by simp)
        obtain ⟨sl', e5⟩ := ups b _ e4 hd3
        exact ⟨_, e5⟩
    · exact ⟨o2, kept b o2 e2 hb (.inr ⟨o1, e1⟩)⟩
  · obtain ⟨m1, e1⟩ := base0.tbls b ps e
    obtain ⟨m2, e2⟩ := un.tbls b _ e1
    exact ⟨m1 ++ m2, by rw [e2, Array.append_assoc]⟩
  · refine (hok b u e).stay (fun c v hc q => ?_) (fun _ q => q) fun _ _ q => q
    have hn : H' c ≠ none := by
      rcases hc with rfl | hc
      · rw [e]; simp
      · rw [hc]; simp
    exact kept c v q (fun z => hn (nfr c z)) (.inl hn)
  · cases hq : s.heap.get? ea with
    | none => rfl
    | some o =>
      obtain ⟨o1, e1⟩ := a1 ea o hq
      rw [hsa] at e1
      cases e1
  · by_cases hb2 : b ∈ frs (cxOf (CXd P w) P w K mg base N qual scope f cd A outer s H E).stack
    · exfalso
      rcases (hst b).mp hb2 with z | z
      · rcases hx with hx | ⟨o', hx⟩
        · exact hx (nfr b hb2)
        · exact old b o' hx z
      · exact hb z
    · have ex : ∃ o2, hh.get? b = some o2 ∧ (H' b ≠ none ∨ ∃ o', s1.heap.get? b = some o') := by
        rcases hx with hx | ⟨o', hx⟩
        · cases hu : H' b with
          | none => exact absurd hu hx
          | some u =>
            obtain ⟨o2, e2⟩ := (hok b u hu).there
            exact ⟨o2, e2, .inl (by simp)⟩
        · obtain ⟨o2, e2⟩ := a2 b o' hx
          exact ⟨o2, e2, .inr (a1 b o' hx)⟩
      obtain ⟨o2, e2, hx2⟩ := ex
      have e3 := kept b o2 e2 hb2 hx2
      have e : h'.get? b = some o := e
      have e4 : o2 = o := Option.some.inj (e3.symm.trans e)
      rw [← e4]
      exact cov b o2 e2 hb2 hx2
end
abbrev excTail : List Value := [.type "ValueError", .type "Exception", .type "BaseException", .type "object"]
structure Exc (K : PySem.W.Frag) (mg : Str → Option Value) (x : Str) (C : Addr) : Prop where
  bound : mg x = some (.ref C)
  cls : PySem.W.excIn K C excTail "ValueError.__new__" = true
theorem exc_obj {K : PySem.W.Frag} {C : Addr} {bmB : List Value} {newId : String} (q : PySem.W.excIn K C bmB newId = true) : ∃ (bm : List Value) (N : Addr) (nm q : Str) (bs : List Value) (hdct : Bool) (sn : List Str) (sub : List Value) (ab : Bool) (col : Option Bool) (dd : Option Addr) (k0 k1 k2 k3 k5 : Option Value),
    K.lookup C = some (excClassObj nm q C N bs bm hdct sn sub ab col dd k0 k1 k2 k3 k5 newId) ∧ PySem.W.tailIn K bmB bm = true ∧ PySem.W.nsOkIn K N = true ∧ PySem.W.nsIn K N "__init__" = some none := by
  unfold PySem.W.excIn at q
  split at q
  case h_2 => cases q
  case h_1 x d2 cl sls hl =>
    split at q
    case h_2 => cases q
    case h_1 y1 y2 cc tl s0 s1 s2 s3 nid s5 em es =>
      rw [Bool.and_eq_true, Bool.and_eq_true, Bool.and_eq_true, Bool.and_eq_true, Bool.and_eq_true] at q
      obtain ⟨⟨⟨⟨⟨g1, g2⟩, g3⟩, g4⟩, g5⟩, g6⟩ := q
      have g1 := beq_iff_eq.mp g1
      have g2 := beq_iff_eq.mp g2
      have g6 := beq_iff_eq.mp g6
      have g3 : cl.hasDel = false := by simpa using g3
      have hs : sls = #[s0, s1, s2, s3, some (.builtin nid), s5] := by
        cases sls with
        | mk l =>
          have es : l = [s0, s1, s2, s3, some (.builtin nid), s5] := es
          rw [es]
      subst g1 g2 hs
      cases cl with
      | mk a1 a2 a3 a4 a5 a6 a7 a8 a9 a10 a11 =>
        have em : a3 = .ref cc :: tl := em
        have g3 : a11 = false := g3
        subst em g3
        exact ⟨tl, a4, a1, a5, a2, a6, a7, a8, a9, a10, d2, s0, s1, s2, s3, s5, hl, g4, g5, g6⟩
section
variable {P : Program} {w : World} {K : PySem.W.Frag} {mg : Str → Option Value} {base : Heap} {N : List Str} {qual : Str} {scope : Scope} {f : Addr} {cd : Value} {A : Around} {outer : List Env} {s : Shared} {H : Hp} {E : XK}
end
end L2
set_option Elab.async false
set_option linter.all false
set_option maxRecDepth 100000
namespace L2
open PySem PySem.Spec PyProof.Rows
def excAt (ea C : Addr) : HO := .ext fun h => ∃ oe vs, h.get? ea = some oe ∧ oe.cls = .ref C ∧ oe.data = .fields vs
def Cx.inTry (X : Cx) (pins : List (Addr × Obj)) (xe : Value → Shared → Prop) : Cx := { X with pn := X.pn ++ pins, xe := xe }
def Cx.suite (X : Cx) (ea : Addr) : Cx := { X with A := X.A.mark (some (.ref ea)), calm := false, xe := fun _ _ => False }
section
variable {X : Cx} {pins : List (Addr × Obj)} {σ : St} {H : Hp} {s : Shared}
theorem Inv.inTry (I : Inv X pins σ H s) (xe : Value → Shared → Prop) : Inv (X.inTry pins xe) [] σ H s :=
  ⟨⟨I.ok.mod, I.ok.kind, I.ok.glob, I.ok.blt, I.ok.above, I.ok.inj, I.ok.has, I.ok.cab, I.ok.hd, I.ok.frames, I.ok.stk, I.ok.exf, I.ok.bs, I.ok.bsz, I.ok.noex, I.ok.exfs, I.ok.funs, I.ok.frf⟩,
    I.os, I.bare, I.base, I.loc, I.cell, I.free, I.freeC, fun p hp => I.pin p (by
      have hp : p ∈ (X.pn ++ pins) ++ [] := hp
      rw [List.append_nil] at hp
      exact hp), I.hok, I.len⟩
theorem Inv.outTry {xe : Value → Shared → Prop} {ps : List (Addr × Obj)} (ok : X.Ok) (I : Inv (X.inTry pins xe) ps σ H s) : Inv X pins σ H s :=
  ⟨ok, I.os, I.bare, I.base, I.loc, I.cell, I.free, I.freeC, fun p hp => I.pin p (List.mem_append_left _ hp), I.hok, I.len⟩
theorem Inv.suite (I : Inv X pins σ H s) (ea : Addr) : Inv (X.suite ea) pins σ H s :=
  ⟨⟨I.ok.mod, I.ok.kind, I.ok.glob, I.ok.blt, I.ok.above, I.ok.inj, I.ok.has, I.ok.cab, fun z => absurd z Bool.false_ne_true, I.ok.frames, I.ok.stk, I.ok.exf, I.ok.bs, I.ok.bsz, I.ok.noex, I.ok.exfs, I.ok.funs, I.ok.frf⟩,
    I.os, I.bare, I.base, I.loc, I.cell, I.free, I.freeC, I.pin, I.hok, I.len⟩
theorem Inv.outSuite {ea : Addr} (ok : X.Ok) (I : Inv (X.suite ea) pins σ H s) : Inv X pins σ H s :=
  ⟨ok, I.os, I.bare, I.base, I.loc, I.cell, I.free, I.freeC, I.pin, I.hok, I.len⟩
theorem Inv.forget {i : Nat} {n : Str} {m : Str → Option Value} {h' : Heap} {v : Option Value} {t' : Nat} (I : Inv X pins σ H s) (hN : X.N.Nodup) (hi : X.N[i]? = some n)
    (hl : ∀ (i : Nat) (x : Str) (v : V), X.N[i]? = some x → σ[i]? = some (some v) → Vis X.env.scope x → ∃ u, RelV v u ∧ Look X.env s.heap m x u)
    (hn : h'.Ns X.env.locals fun x => if x = n then v else m x) (hs : Heap.SameBut X.env.locals s.heap h') : Inv X pins (σ.set i none) H { s with heap := h', toks := t' } := by
  have cne := I.cne
  refine ⟨I.ok, I.os, I.bare, ⟨fun b o e n hb hx => ?_, fun b o e n hb hx => ?_, I.base.free, fun b o e hx => ?_, I.base.tups, I.base.frzs, I.base.tbls⟩, ⟨_, hn, fun j y v' e1 e2 e3 => ?_⟩, fun y c e => ?_, I.free, I.freeC, fun p hp => ?_, Inv.sameBut I hs, by simpa using I.len⟩
  · exact (hs.2 b (Nat.ne_of_lt (Nat.lt_of_lt_of_le (Heap.lt_size e) I.ok.above))).trans (I.base.keep b o e n hb hx)
  · obtain ⟨sl, e1⟩ := I.base.slot b o e n hb hx
    exact ⟨sl, (hs.2 b (Nat.ne_of_lt (Nat.lt_of_lt_of_le (Heap.lt_size e) I.ok.above))).trans e1⟩
  · obtain ⟨o', e1⟩ := I.base.there b o e hx
    exact ⟨o', (hs.2 b (Nat.ne_of_lt (Nat.lt_of_lt_of_le (Heap.lt_size e) I.ok.above))).trans e1⟩
  · have hj : j ≠ i := by
      rintro rfl
      by_cases hlt : j < σ.length
      · rw [List.getElem?_set_self hlt] at e2
        cases e2
      · rw [List.getElem?_eq_none (by simpa using hlt)] at e2
        cases e2
    rw [List.getElem?_set_ne (Ne.symm hj)] at e2
    obtain ⟨u', r', q⟩ := hl j y v' e1 e2 e3
    refine ⟨u', r', ?_⟩
    rcases q with ⟨k, e⟩ | ⟨k, c, e, z⟩
    · refine .inl ⟨k, ?_⟩
      have : y ≠ n := fun e => hj (nodup_ix hN e1 (e ▸ hi))
      simp [this, e]
    · exact .inr ⟨k, c, e, z.sameBut hs (cne y c e)⟩
  · obtain ⟨w', z⟩ := I.cell y c e
    exact ⟨w', z.sameBut hs (cne y c e)⟩
  · obtain ⟨e, n, ne, nf, d⟩ := I.pin p hp
    exact ⟨(hs.2 p.1 ne).trans e, n, ne, nf, d⟩
end
section
variable {X : Cx} {pins0 : List (Addr × Obj)} {k : Nat} {f : Addr} {fd : FuncData} {ps : List Str} {sp : Sp} {E : XK} {x : Str} {p pos : Pos} {e : Expr} {es : List Expr} {t : TA} {σ₀ : St}
end
end L2
set_option Elab.async false
set_option linter.all false
set_option maxRecDepth 100000
namespace L2
open PySem PySem.Spec PyProof.Rows
section
variable {prog : Program} {w : World} {A : Around} {E : Value → Shared → Prop} {h : Heap} {g : Array GenState} {d : Drawn} {t : Nat} {os : OsState} {a : Addr} {o : Obj}
  {nm q : Str} {C N : Addr} {bs bm : List Value} {hdct : Bool} {sn : List Str} {sub : List Value} {ab : Bool} {col : Option Bool} {dd : Option Addr} {k0 k1 k2 k3 k5 : Option Value} {newId : String} {K : PySem.W.Frag}
theorem xcls_get {R : Result → Shared → Prop} (hC : h.get? C = some (excClassObj nm q C N bs bm hdct sn sub ab col dd k0 k1 k2 k3 k5 newId)) (hO : (Value.ref C :: bm).contains (.type "object") = true) (hx : h.get? a = some o) (hc : o.cls = .ref C)
    (hq : R (.ok (.ret (.ref C))) ⟨h, g, d, t, os⟩) : codeAny (model prog w) A (.call (.builtin "getset_descriptor.__get__") ⟨[.builtin "object.__class__", .ref a, .ref C], []⟩) R ⟨h, g, d, t, os⟩ := by
  have u5 : (⟨h, g, d, t, os⟩ : Shared).TypeIs (.builtin "object.__class__") "getset_descriptor" := F.typeOf_object_class
  have ub : (Value.ref C :: bm).contains (.type (".".intercalate ("object.__class__".cutAt '.').dropLast)) = true := by rw [F.owner_object_class]; exact hO
  refine (codeAny_call_builtin F.slot_gs_get.plain F.entry_gs_get (F.slot_gs_get.check _ _ _ _ _ _ _ _ u5 (F.args_gs_get _ _ _) ?_))
  repeat (any_goals (first | assumption | (with_reducible refine wpAny_loadPart_at hx ?_; rw [hc]) | (with_reducible refine wpAny_isSubtype_exc hC ?_; rw [ub]) | wp_step))
  refine (⟨Code.quiet_builtin _ (by decide +kernel), codeAny_builtin F.entry_object_class ?_⟩)
  repeat (any_goals (first | assumption | (with_reducible refine wpAny_loadPart_at hx ?_; rw [hc]) | wp_step))
theorem xcls_entry {tk : Tok} {Q : Fin → Shared → Prop} (X : K.In h) (hC : h.get? C = some (excClassObj nm q C N bs bm hdct sn sub ab col dd k0 k1 k2 k3 k5 newId)) (hO : (Value.ref C :: bm).contains (.type "object") = true)
    (f1 : PySem.W.findIn K (.ref C) "__class__" = some (some (.builtin "object.__class__"))) (hx : h.get? a = some o) (hc : o.cls = .ref C) (hq : Q (.done (.ret (.ref C))) ⟨h, g, d, t, os⟩) :
    wpAny (model prog w) A (Builtin.«object.__getattribute__» ⟨[.ref a, .str "__class__" tk], []⟩) Q E ⟨h, g, d, t, os⟩ := by
  have u5 : (⟨h, g, d, t, os⟩ : Shared).TypeIs (.builtin "object.__class__") "getset_descriptor" := F.typeOf_object_class
  have v5 := F.typeOf_object_class
  have v6 := F.slot_gs_get.lookup
  have v7 := F.slot_gs_set.lookup
  have look : ∀ {Q' : Option Value → Shared → Prop}, Q' (some (.builtin "object.__class__")) ⟨h, g, d, t, os⟩ → wpAny (model prog w) A (typeLookup (.ref C) "__class__") Q' E ⟨h, g, d, t, os⟩ := fun {Q'} z =>
    PySem.W.looks_findIn X f1 A Q' E _ (fun _ _ z => z) z
  repeat (any_goals (first | assumption | (with_reducible refine wpAny_loadPart_at hx ?_; rw [hc]) | with_reducible refine look ?_ | wp_step))
  refine xcls_get hC hO hx hc ?_
  repeat (any_goals (first | assumption | wp_step))
theorem xcls_check {M : Model} {nameV : Value} {Q : Unit → Shared → Prop} (hC : h.get? C = some (excClassObj nm q C N bs bm hdct sn sub ab col dd k0 k1 k2 k3 k5 newId)) (hB : (Value.ref C :: bm).contains (.type "BaseException") = true)
    (hx : h.get? a = some o) (hc : o.cls = .ref C) (hq : Q () ⟨h, g, d, t, os⟩) : wpAny M A (checkBuiltinCall "BaseException.__getattribute__" ⟨[.ref a, nameV], []⟩) Q E ⟨h, g, d, t, os⟩ := by
  have u1 : builtinKind "BaseException.__getattribute__" = some .slot := by decide +kernel
  have u2 : splitId "BaseException.__getattribute__" = some ("BaseException", "__getattribute__") := by decide +kernel
  have u3 := F.args_bexc_ga (.ref a) nameV
  simp only [checkBuiltinCall, u1, u2]
  refine wpAny_bind ?_
  · unfold isInstance
    repeat (first | (with_reducible refine wpAny_loadPart_at hx ?_; rw [hc]) | (with_reducible refine wpAny_isSubtype_exc hC ?_; rw [hB]) | wp_step)
    exact hq
structure ExcQ (K : PySem.W.Frag) (C : Addr) : Prop where
  cls : PySem.W.excIn K C excTail "ValueError.__new__" = true
  ga : PySem.W.findIn K (.ref C) "__getattribute__" = some (some (.builtin "BaseException.__getattribute__"))
  gt : PySem.W.findIn K (.ref C) "__getattr__" = some none
  cl : PySem.W.findIn K (.ref C) "__class__" = some (some (.builtin "object.__class__"))
theorem xcls_by {tk : Tok} {Q : Value → Shared → Prop} (X : K.In h) (O : ExcQ K C) (hx : h.get? a = some o) (hc : o.cls = .ref C) (hq : Q (.ref C) ⟨h, g, d, t, os⟩) :
    wpAny (model prog w) A (getAttrBy (.ref a) (.str "__class__" tk) false) Q E ⟨h, g, d, t, os⟩ := by
  obtain ⟨bm, Nc, nm, qn, bs, hdct, sn, sub, ab, col, dd, k0, k1, k2, k3, k5, hC, hT, hN, hni⟩ := exc_obj O.cls
  have TL := PySem.W.tail_of_in X hT
  have hB : (Value.ref C :: bm).contains (.type "BaseException") = true := by rw [List.contains_cons, TL.hasType (b := true) (by decide), Bool.or_true]
  have hO : (Value.ref C :: bm).contains (.type "object") = true := by rw [List.contains_cons, TL.hasType (b := true) (by decide), Bool.or_true]
  have u3 := PySem.F.attrBase_ValueError.ga.bind (.ref a)
  have l1 : ∀ {E : Value → Shared → Prop} {Q' : Option Value → Shared → Prop}, Q' (some (.builtin "BaseException.__getattribute__")) ⟨h, g, d, t, os⟩ → wpAny (model prog w) A (typeLookup (.ref C) "__getattribute__") Q' E ⟨h, g, d, t, os⟩ := fun {E Q'} z =>
    PySem.W.looks_findIn X O.ga A Q' E _ (fun _ _ z => z) z
  have l2 : ∀ {E : Value → Shared → Prop} {Q' : Option Value → Shared → Prop}, Q' none ⟨h, g, d, t, os⟩ → wpAny (model prog w) A (typeLookup (.ref C) "__getattr__") Q' E ⟨h, g, d, t, os⟩ := fun {E Q'} z =>
    PySem.W.looks_findIn X O.gt A Q' E _ (fun _ _ z => z) z
  have x2 : (Value.builtin "BaseException.__getattribute__" == Value.builtin "object.__getattribute__") = false := by decide +kernel
  have x1 : (onTheHeap (Value.ref C) && Value.builtin "BaseException.__getattribute__" == Value.builtin "object.__getattribute__") = false := by rw [x2]; rfl
  have x0 : (false && onTheHeap (Value.builtin "BaseException.__getattribute__")) = false := rfl
  repeat (any_goals (first | assumption | (with_reducible refine wpAny_loadPart_at hx ?_; rw [hc]) | with_reducible refine l1 ?_ | with_reducible refine l2 ?_ | wp_step))
  refine codeAny_call_builtin PySem.F.attrBase_ValueError.ga.plain F.entry_bexc_ga (xcls_check (X _ _ hC) hB hx hc (xcls_entry X (X _ _ hC) hO O.cl hx hc ?_))
  repeat (any_goals (first | assumption | wp_step))
theorem xcls_attr {Q : Option Value → Shared → Prop} (X : K.In h) (O : ExcQ K C) (hx : h.get? a = some o) (hc : o.cls = .ref C) (hq : Q (some (.ref C)) ⟨h, g, d, t + 1, os⟩) :
    wpAny (model prog w) A (getAttr? (.ref a) "__class__") Q E ⟨h, g, d, t, os⟩ := by
  unfold getAttr? getAttrBy?
  repeat (any_goals (first | assumption | with_reducible apply xcls_by X O hx hc | wp_step))
end
theorem kitx_exc {K : PySem.W.Frag} {ea C : Addr} (O : ExcQ K C) : PySem.W.KitX K (.ref ea) (.ref C) (fun h => ∃ oe vs, h.get? ea = some oe ∧ oe.cls = .ref C ∧ oe.data = .fields vs) where
  ty := fun M h X p A Q E s k q => by
    obtain ⟨oe, vs, h1, h2, h3⟩ := p
    have h4 := k _ _ h1
    unfold typeOf
    refine wpAny_bind (wpAny_loadPart h4 (wpAny_pure ?_))
    show Q oe.cls s
    rw [h2]
    exact q
  it := fun M h X _ A Q E s k q => by
    obtain ⟨bm, Nc, nm, qn, bs, hdct, sn, sub, ab, col, dd, k0, k1, k2, k3, k5, hC, hT, hN, hni⟩ := exc_obj O.cls
    unfold isType loadHead
    exact wpAny_bind (wpAny_loadPart (k _ _ (X _ _ hC)) (wpAny_pure q))
  ne := fun h tp dd its n sl X htp => by
    obtain ⟨bm, Nc, nm, qn, bs, hdct, sn, sub, ab, col, dd, k0, k1, k2, k3, k5, hC, hT, hN, hni⟩ := exc_obj O.cls
    refine Bool.eq_false_iff.mpr fun q => ?_
    have e : C = tp := Value.ref.inj (beq_iff_eq.mp q)
    subst e
    have z := congrArg Obj.cls (Option.some.inj ((X _ _ hC).symm.trans htp))
    have z : Value.type "type" = Value.type "tuple" := z
    exact absurd (Value.type.inj z) (by decide)
  ca := fun {prog w A E Q s} X p k => by
    obtain ⟨oe, vs, h1, h2, h3⟩ := p
    obtain ⟨hh, g, d, t, os⟩ := s
    exact xcls_attr X O h1 h2 k
inductive TyX (K : PySem.W.Frag) (H : Hp) : V → Value → Prop where
  | of {x : V} {t : Value} : TyOf K H x t → TyX K H x t
  | exc {ea C : Addr} : H ea = some (excAt ea C) → ExcQ K C → TyX K H (.ref ea) (.ref C)
section
variable {X : Cx}
def rIsi (K : PySem.W.Frag) : List V → Hp → VK → Prop := fun xs H Q => ∃ x c t cv b, xs = [x, c] ∧ TyX K H x t ∧ ((∃ n, c = .ty n ∧ cv = .type n) ∨ ∃ a, c = .ref a ∧ cv = .ref a) ∧ PySem.W.kitOne K t cv = some b ∧ Q (.bl b) H
theorem call_isi : CallR X (.builtin "isinstance") (rIsi X.K) := by
  intro pins s σ H xs us Q I r h
  obtain ⟨x, c, t, cv, b, rfl, ty, hc, e, q⟩ := h
  obtain ⟨u, cu, rfl, ru, rc⟩ := vals2 r
  have ec : cu = cv := by
    rcases hc with ⟨n, rfl, rfl⟩ | ⟨a, rfl, rfl⟩
    · exact rc
    · exact rc
  subst ec
  cases ty with
  | of ty => exact isinst_ok I ru ty e fun tk => ⟨.bl b, H, I.tok tk, rfl, q⟩
  | @exc ea C he O =>
    cases (show u = Value.ref ea from ru)
    obtain ⟨p, _⟩ := (show ObjOk X.prog X.w H s.heap ea (excAt ea C) from I.hok ea _ he)
    exact PySem.W.kia_one (kitx_exc O) I.kIn p e (fun z => nomatch z) fun tk => ⟨.bl b, H, I.tok tk, rfl, q⟩
end
section
variable {M : Model} {A : Around} {E : Value → Shared → Prop}
theorem xmatch {h : Heap} {g : Array GenState} {d : Drawn} {t : Nat} {os : OsState} {e : Addr} {oe : Obj} {Q : Bool → Shared → Prop}
    {nm q : Str} {C N : Addr} {bs bm : List Value} {hdct : Bool} {sn : List Str} {sub : List Value} {ab : Bool} {col : Option Bool} {dd : Option Addr} {k0 k1 k2 k3 k5 : Option Value} {newId : String}
    {nm' q' : Str} {C' N' : Addr} {bs' bm' : List Value} {hdct' : Bool} {sn' : List Str} {sub' : List Value} {ab' : Bool} {col' : Option Bool} {dd' : Option Addr} {k0' k1' k2' k3' k5' : Option Value} {newId' : String}
    (hC : h.get? C = some (excClassObj nm q C N bs bm hdct sn sub ab col dd k0 k1 k2 k3 k5 newId)) (hC' : h.get? C' = some (excClassObj nm' q' C' N' bs' bm' hdct' sn' sub' ab' col' dd' k0' k1' k2' k3' k5' newId'))
    (he : h.get? e = some oe) (hcls : oe.cls = .ref C) (hbase : bm'.contains (.type "BaseException") = true) (hsub : (Value.ref C :: bm).contains (.ref C') = true)
    (hq : Q true ⟨h, g, d, t, os⟩) : wpAny M A (excMatches (.ref e) (.ref C')) Q E ⟨h, g, d, t, os⟩ := by
  have hcB : (Value.ref C' :: bm').contains (.type "BaseException") = true := by rw [List.contains_cons, hbase, Bool.or_true]
  have f := tc_notTuple
  unfold excMatches
  repeat (first | (with_reducible refine wpAny_loadPart_at he ?_; rw [hcls]) | with_reducible refine wpAny_loadPart_at hC' ?_ | (with_reducible refine wpAny_isSubtype_exc hC' ?_; rw [hcB]) | (with_reducible refine wpAny_isSubtype_exc hC ?_; rw [hsub]) | wp_step)
  exact hq
end
end L2
set_option Elab.async false
set_option linter.all false
set_option maxRecDepth 100000
namespace L2
open PySem PySem.Spec PyProof.Rows
def Fl (B : Heap) (l : List Env) (ea C : Addr) (h : Heap) : Prop :=
  B.StaysIn h ∧ B.get? ea = none ∧ h.FunFrames B l ∧ ∃ a0 fl, h.TracedAtW B ea (.ref C) a0 fl
theorem Fl.of {B : Heap} {l : List Env} {ea C : Addr} {a0 : Value} {h : Heap} (x : Heap.FlyingW B l ea (.ref C) a0 h) : Fl B l ea C h :=
  ⟨x.1, x.2.1, x.2.2.1, a0, _, x.2.2.2.at⟩
theorem Fl.there {B : Heap} {l : List Env} {ea C : Addr} {h : Heap} (x : Fl B l ea C h) : ∃ oe vs, h.get? ea = some oe ∧ oe.cls = .ref C ∧ oe.data = .fields vs := by
  obtain ⟨_, _, _, a0, fl, oe, vs, T, oT, ts, he, hc, hd, _⟩ := x
  exact ⟨oe, vs, he, hc.1, hd⟩
section
variable {M : Model} {A : Around} {E : Value → Shared → Prop} {s : Shared}
theorem fl_set {B : Heap} {l : List Env} {ea C : Addr} {o : Option Addr} {Q : Unit → Shared → Prop} (x : Fl B l ea C s.heap)
    (hQ : ∀ h', Fl B l ea C h' → s.heap.UpToSlots h' → Q () { s with heap := h' }) : wpAny M A (setFlight (.ref ea) o) Q E s := by
  obtain ⟨x1, x2, x3, a0, fl, oe, vs, T, oT, ts, y1, y2, y3, y4, y5, y6, y7, y8, y9⟩ := x
  have sz : 3 < ts.size := (Array.getElem?_eq_some_iff.mp y9).1
  generalize hv : (o.elim Value.none fun f => rawInt f) = v
  have oth : ∀ b, b ≠ T → (s.heap.update T (Obj.mapFields (·.setIfInBounds 3 v))).get? b = s.heap.get? b := fun b hb => Heap.get?_update_other _ _ (Ne.symm hb)
  have nrec : ∀ b ob, s.heap.get? b = some ob → (∀ zs, ob.data ≠ .fields zs) → b ≠ T := fun b ob hb hn q => by
    rw [q, y7] at hb
    exact hn ts (by rw [← Option.some.inj hb]; exact y8)
  unfold setFlight
  refine wpAny_bind (wpAny_field y1 y3 y4 ?_)
  rw [if_pos (show (Value.ref T != Value.none) = true by simp), hv]
  refine wpAny_setField y7 y8 sz (hQ _ ⟨fun b ob hb => ?_, x2, ?_, a0, v, ?_⟩ ?_)
  · exact (oth b fun q => by rw [q, y5] at hb; cases hb).trans (x1 b ob hb)
  · exact x3.of_keeps fun b ob hb hn => ⟨ob, (oth b (nrec b ob hb hn)).trans hb, rfl⟩
  · exact ⟨oe, vs, T, _, _, (oth ea (Ne.symm y6)).trans y1, y2, y3, y4, y5, y6, Heap.get?_update_self _ y7 (Obj.isFreed_of_fields (Obj.data_mapFields y8 _)), Obj.data_mapFields y8 _, by simp [sz]⟩
  · exact fun b ob hb hn => ⟨ob.slots, (oth b (nrec b ob hb hn)).trans hb⟩
theorem fl_note {B : Heap} {env : Env} {outer : List Env} {L ea C : Addr} {Q : Unit → Shared → Prop} (hfr : A.frames = some (env :: outer)) (hf : env.frame = some L) (x : Fl B (env :: outer) ea C s.heap)
    (hQ : ∀ h', Fl B (env :: outer) ea C h' → s.heap.UpToSlots h' → Q () { s with heap := h' }) (env' : Env) (hf' : env'.frame = some L) (hfo : frameOf env' = frameOf env) : wpAny M A (noteFrame (.ref ea) env') Q E s := by
  have x0 := x
  obtain ⟨x1, x2, x3, a0, fl, oe, vs, T, oT, ts, y1, y2, y3, y4, y5, y6, y7, y8, y9⟩ := x
  by_cases hfl : fl = rawInt L
  · subst hfl
    exact wpAny_noteFrame_againW hf' ⟨oe, vs, T, oT, ts, y1, y2, y3, y4, y5, y6, y7, y8, y9⟩ (hQ s.heap x0 (Heap.UpToSlots.refl _))
  · obtain ⟨yc, y0⟩ := y2
    unfold noteFrame
    simp only [hf', hfo]
    refine wpAny_bind (wpAny_field y1 y3 y4 ?_)
    rw [if_pos (show (Value.ref T != Value.none) = true by simp)]
    refine wpAny_bind (wpAny_field y7 y8 y9 ?_)
    rw [if_neg (show ¬ ((fl == rawInt L) = true) by simpa using hfl)]
    refine wpAny_bind (wpAny_setField y7 y8 (Array.getElem?_eq_some_iff.mp y9).1 ?_)
    have oth : ∀ b, b ≠ T → (s.heap.update T (Obj.mapFields (·.setIfInBounds 3 Value.none))).get? b = s.heap.get? b := fun b hb => Heap.get?_update_other _ _ (Ne.symm hb)
    have nrec : ∀ b ob, s.heap.get? b = some ob → (∀ zs, ob.data ≠ .fields zs) → b ≠ T := fun b ob hb hn q => by
      rw [q, y7] at hb
      exact hn ts (by rw [← Option.some.inj hb]; exact y8)
    refine wpAny_entryW (L := L) (e := ea) hfr (x3.of_keeps fun b ob hb hn => ⟨ob, (oth b (nrec b ob hb hn)).trans hb, rfl⟩) hf ((oth ea (Ne.symm y6)).trans y1) (fun b ob hb => ?_) x2 y3 (Array.getElem?_eq_some_iff.mp y4).1 y0 fun h' hN => ?_
    · exact (oth b fun q => by rw [q, y5] at hb; cases hb).trans (x1 b ob hb)
    · obtain ⟨k1, k2, k3, k4⟩ := hN
      rw [yc] at k3
      exact hQ h' ⟨k1, x2, k2, a0, _, k3⟩ fun b ob hb hn => k4 b ob ((oth b (nrec b ob hb hn)).trans hb) hn
theorem fl_leave {B : Heap} {env : Env} {outer : List Env} {L ea C : Addr} {Q : Unit → Shared → Prop} (hfr : A.frames = some (env :: outer)) (hf : env.frame = some L) (x : Fl B (env :: outer) ea C s.heap)
    (hQ : ∀ h' a0, Heap.FlyingW B outer ea (.ref C) a0 h' → s.heap.UpToSlots h' → Q () { s with heap := h' }) : wpAny M A (leaving env (.ref ea)) Q E s := by
  unfold leaving
  refine wpAny_bind (fl_note hfr hf x (fun h1 x1 u1 => ?_) env hf rfl)
  obtain ⟨z1, z2, z3, a0, fl, z4⟩ := x1
  refine wpAny_setFlight_noneW (s := { s with heap := h1 }) z1 z3 z4 fun h2 k1 k2 k3 k4 => hQ h2 a0 ⟨k1, z2, k2.2.2, k3⟩ (u1.trans fun b ob hb hn => ⟨ob.slots, k4 b ob hb hn⟩)
theorem fl_pass {B : Heap} {l : List Env} {ea C : Addr} {what : String} {cenv : Env} {α : Type} {Q : α → Shared → Prop} (x : Fl B l ea C s.heap)
    (hE : ∀ h', Fl B l ea C h' → s.heap.UpToSlots h' → E (.ref ea) { s with heap := h' }) : wpAny M A (PySem.passOn what (.ref ea) cenv : Sem α) Q E s := by
  have x0 := x
  obtain ⟨x1, x2, x3, a0, fl, oe, vs, T, oT, ts, y1, y2, y3, y4, y5, y6, y7, y8, y9⟩ := x
  unfold PySem.passOn
  refine wpAny_bind (wpAny_field y1 y3 y4 ?_)
  rw [if_neg (show ¬ ((Value.ref T == Value.none) = true) by simp)]
  refine wpAny_bind (fl_set x0 fun h' z u => ?_)
  exact wpAny_throw (hE h' z u)
end
structure Abt (P : Program) (w : World) (l : List Env) (ch : List Addr) (H H' : Hp) (h h1 B : Heap) (ea : Addr) : Prop where
  un : Un (frs l) ch H H' h h1
  hok : HOk P w H' h1
  nt : H' ea = none
  nw : ∀ o, h.get? ea = some o → ea ∈ ch
  cov : ∀ b o, h1.get? b = some o → b ∉ frs l → (H' b ≠ none ∨ ∃ o', h.get? b = some o' ∧ b ∉ ch) → B.get? b = some o
def FrK (l : List Env) (ch : List Addr) (H : Hp) (h : Heap) : Prop := ∀ b ∈ frs l, b ∉ ch ∧ H b = none ∧ ∃ o, h.get? b = some o ∧ ∀ vs, o.data ≠ .fields vs
section
variable {P : Program} {w : World} {l : List Env} {ch : List Addr} {H H1 H' : Hp} {h h0 h1 h2 B : Heap} {ea : Addr}
theorem Abt.nfr (x : Abt P w l ch H H' h h1 B ea) (fr : FrK l ch H h) : ∀ b, b ∈ frs l → H' b = none := fun b hb => by
  obtain ⟨n, f, o, ho, _⟩ := fr b hb
  exact x.un.free b o ho f n
theorem Abt.moved (x : Abt P w l ch H H' h h1 B ea) (fr : FrK l ch H h) (st : B.StaysIn h2) (ups : h1.UpToSlots h2) : Abt P w l ch H H' h h2 B ea := by
  have kept : ∀ b o, h1.get? b = some o → b ∉ frs l → (H' b ≠ none ∨ ∃ o', h.get? b = some o' ∧ b ∉ ch) → h2.get? b = some o := fun b o e hb hx => st b o (x.cov b o e hb hx)
  have nfr := x.nfr fr
  refine ⟨⟨fun b o e n hb hx => ?_, fun b o e n hb hx => ?_, x.un.free, fun b o e hx => ?_, x.un.tups, x.un.frzs, x.un.tbls⟩, fun b u e => ?_, x.nt, x.nw, fun b o e hb hx => ?_⟩
  · exact kept b o (x.un.keep b o e n hb hx) hb (.inr ⟨o, e, hx⟩)
  · obtain ⟨sl, e1⟩ := x.un.slot b o e n hb hx
    obtain ⟨_, _, o3, ho3, hd3⟩ := fr b hb
    rw [e] at ho3
    cases ho3
    obtain ⟨sl', e2⟩ := ups b _ e1 hd3
    exact ⟨sl', e2⟩
  · by_cases hb : b ∈ frs l
    · obtain ⟨_, f, o3, ho3, hd3⟩ := fr b hb
      obtain ⟨sl, e4⟩ := x.un.slot b _ ho3 f hb hx
      obtain ⟨sl', e5⟩ := ups b _ e4 hd3
      exact ⟨_, e5⟩
    · obtain ⟨o1, e1⟩ := x.un.there b o e hx
      exact ⟨o1, kept b o1 e1 hb (.inr ⟨o, e, hx⟩)⟩
  · refine (x.hok b u e).stay (fun c v hc q => ?_) (fun _ q => q) fun _ _ q => q
    have hn : H' c ≠ none := by
      rcases hc with rfl | hc
      · rw [e]; simp
      · rw [hc]; simp
    exact kept c v q (fun z => hn (nfr c z)) (.inl hn)
  · have ex : ∃ o1, h1.get? b = some o1 := by
      rcases hx with hx | ⟨o', hx, hc⟩
      · cases hu : H' b with
        | none => exact absurd hu hx
        | some u => exact (x.hok b u hu).there
      · exact x.un.there b o' hx hc
    obtain ⟨o1, e1⟩ := ex
    have e2 := kept b o1 e1 hb hx
    rw [e] at e2
    cases e2
    exact x.cov b o e1 hb hx
theorem Abt.under {ex : List Addr} (x : Abt P w l ch H1 H' h h1 B ea) (u : Un (frs l) ex H H1 h0 h) : Abt P w l (ex ++ ch) H H' h0 h1 B ea := by
  have ne : ∀ {b : Addr}, b ∉ ex ++ ch → b ∉ ex ∧ b ∉ ch := fun {b} hb => ⟨fun z => hb (List.mem_append_left _ z), fun z => hb (List.mem_append_right _ z)⟩
  refine ⟨(u.mono (fun _ z => z) fun b z => List.mem_append_left _ z).trans (x.un.mono (fun _ z => z) fun b z => List.mem_append_right _ z), x.hok, x.nt, fun o e => ?_, fun b o e hb hx => x.cov b o e hb ?_⟩
  · by_cases hx : ea ∈ ex
    · exact List.mem_append_left _ hx
    · obtain ⟨o', e'⟩ := u.there ea o e hx
      exact List.mem_append_right _ (x.nw o' e')
  · rcases hx with hx | ⟨o', e', hc⟩
    · exact .inl hx
    · obtain ⟨o2, e2⟩ := u.there b o' e' (ne hc).1
      exact .inr ⟨o2, e2, (ne hc).2⟩
theorem Abt.drop (x : Abt P w l ch H H' h h1 B ea) (hn : ∀ b ∈ ch, h.get? b = none) : Abt P w l [] H H' h h1 B ea := by
  have nc : ∀ {b : Addr} {o : Obj}, h.get? b = some o → b ∉ ch := fun {b o} e z => by rw [hn b z] at e; cases e
  refine ⟨⟨fun b o e n hb _ => x.un.keep b o e n hb (nc e), fun b o e n hb _ => x.un.slot b o e n hb (nc e), fun b o e n _ => x.un.free b o e n (nc e), fun b o e _ => x.un.there b o e (nc e), x.un.tups, x.un.frzs, x.un.tbls⟩, x.hok, x.nt, fun o e => absurd (x.nw o e) (nc e), fun b o e hb hx => x.cov b o e hb ?_⟩
  rcases hx with hx | ⟨o', e', _⟩
  · exact .inl hx
  · exact .inr ⟨o', e', nc e'⟩
theorem Abt.outer {env : Env} (x : Abt P w (env :: l) [] H H' h h1 B ea) (hf : ∀ b, env.frame = some b → h.get? b = none ∧ H' b = none) : Abt P w l [] H H' h h1 B ea := by
  have sub : ∀ b, b ∈ frs l → b ∈ frs (env :: l) := fun b hb => by
    unfold frs at hb ⊢
    rw [List.filterMap_cons]
    cases env.frame with
    | none => exact hb
    | some a => exact List.mem_cons_of_mem _ hb
  have sup : ∀ b, b ∈ frs (env :: l) → (h.get? b = none ∧ H' b = none) ∨ b ∈ frs l := fun b hb => by
    unfold frs at hb ⊢
    rw [List.filterMap_cons] at hb
    cases e : env.frame with
    | none => rw [e] at hb; exact .inr hb
    | some a =>
      rw [e] at hb
      rcases List.mem_cons.mp hb with rfl | hb
      · exact .inl (hf _ e)
      · exact .inr hb
  have no : ∀ {b : Addr} {o : Obj}, h.get? b = some o → b ∉ frs l → b ∉ frs (env :: l) := fun {b o} e hb z => by
    rcases sup b z with ⟨z, _⟩ | z
    · rw [e] at z; cases z
    · exact hb z
  refine ⟨⟨fun b o e n hb hx => x.un.keep b o e n (no e hb) hx, fun b o e n hb hx => x.un.slot b o e n (sub b hb) hx, x.un.free, x.un.there, x.un.tups, x.un.frzs, x.un.tbls⟩, x.hok, x.nt, x.nw, fun b o e hb hx => x.cov b o e (fun z => ?_) hx⟩
  rcases sup b z with ⟨z1, z2⟩ | z
  · rcases hx with hx | ⟨o', hx, _⟩
    · exact hx z2
    · rw [z1] at hx; cases hx
  · exact hb z
end
end L2
set_option Elab.async false
set_option linter.all false
set_option maxRecDepth 100000
namespace L2
open PySem PySem.Spec PyProof.Rows
abbrev RK := St → Addr → Hp → Prop
def ChOk (X : Cx) (pins : List (Addr × Obj)) (ch : List Addr) : Prop :=
  ∀ b ∈ ch, b ∉ X.fs ∧ (b ∈ X.ex ∨ X.s₀.heap.objs.size ≤ b) ∧ b ≠ X.env.locals ∧ (∀ x c, X.env.cells.lookup x = some c → c ≠ b) ∧ ∀ p ∈ X.pn ++ pins, p.1 ≠ b
theorem ChOk.nil {X : Cx} {pins : List (Addr × Obj)} : ChOk X pins [] := fun _ z => nomatch z
theorem Inv.frk {X : Cx} {pins : List (Addr × Obj)} {σ : St} {H : Hp} {s : Shared} {ch : List Addr} (I : Inv X pins σ H s) (hc : ChOk X pins ch) : FrK X.stack ch H s.heap := fun b hb => by
  obtain ⟨_, o, ho, hd⟩ := I.stack.mem hb
  refine ⟨fun z => ?_, I.stkFree b hb, o, ho, hd⟩
  obtain ⟨h1, _, h2, _⟩ := hc b z
  exact (List.mem_cons.mp (I.stkSub b hb)).elim h2 h1
def FlyX (X : Cx) (R : RK) (e : Value) (s' : Shared) : Prop :=
  ∃ pins σ H s ch ea C H' B, Inv X pins σ H s ∧ ChOk X pins ch ∧ e = .ref ea ∧ s'.os = s.os ∧ AllBare s'.gens ∧ Fl B X.stack ea C s'.heap ∧ Abt X.prog X.w X.stack ch H H' s.heap s'.heap B ea ∧ R σ C H'
def Raises (X : Cx) (R : RK) : Prop := ∀ e s', FlyX X R e s' → X.xe e s'
def xkOf (R : RK) (σ : St) : XK := fun c _ H' => ∃ C, c = .ref C ∧ R σ C H'
theorem flyX_of {X : Cx} {R : RK} {pins : List (Addr × Obj)} {σ : St} {H : Hp} {s s' : Shared} {e : Value} (I : Inv X pins σ H s) (h : CXd X.prog X.w X.stack H s (xkOf R σ) e s') : FlyX X R e s' := by
  obtain ⟨ea, C, a0, H', B, rfl, os, bare, un, hok, fl, hea, hsa, cov, C', e1, q⟩ := h
  cases e1
  refine ⟨pins, σ, H, s, [], ea, C, H', B, I, ChOk.nil, rfl, os, bare, Fl.of fl, ⟨un, hok, hea, fun o e => ?_, fun b o e hb hx => cov b o e hb ?_⟩, q⟩
  · rw [hsa] at e; cases e
  · exact hx.elim .inl fun ⟨o', e', _⟩ => .inr ⟨o', e'⟩
section
variable {P : Program} {w : World} {K : PySem.W.Frag} {mg : Str → Option Value} {base : Heap} {N : List Str} {qual : Str} {scope : Scope} {f : Addr} {cd : Value} {A : Around} {outer : List Env} {s : Shared} {H : Hp} {E : XK} {R : RK}
theorem raises_def (hR : ∀ σ C H', R σ C H' → E (.ref C) none H') : Raises (cxOf (CXd P w) P w K mg base N qual scope f cd A outer s H E) R := by
  intro e s' qq0
  obtain ⟨pins, σ, H1, s1, ch, ea, C, H', B, I, hch, he, os, bare, fl, ab, q⟩ := qq0
  subst he
  refine fl_leave (env := envOfC qual scope s.heap.objs.size f cd) I.ok.frames rfl fl fun h' a0 fl' ups => ?_
  have hst : (cxOf (CXd P w) P w K mg base N qual scope f cd A outer s H E).stack = envOfC qual scope s.heap.objs.size f cd :: outer := rfl
  have ab2 := ab.moved (I.frk hch) fl'.1 ups
  have nfr := ab.nfr (I.frk hch)
  have u0 : Un (frs outer) [] H H1 s.heap s1.heap := I.base
  have u1 : Un (frs (cxOf (CXd P w) P w K mg base N qual scope f cd A outer s H E).stack) [] H H1 s.heap s1.heap := u0.mono (fun b hb => by
    rw [hst]; unfold frs at hb ⊢; rw [List.filterMap_cons]; exact List.mem_cons_of_mem _ hb) fun _ z => z
  have nn : ∀ b, s.heap.objs.size ≤ b → s.heap.get? b = none := fun b hb => Heap.get?_none_of_le hb
  have ab3 := ((ab2.under u1).drop fun b hb => by
    rcases (hch b hb).2.1 with z | z
    · exact absurd z (by simp [cxOf])
    · exact nn b z)
  have ab4 : Abt P w outer [] H H' s.heap h' B ea := Abt.outer (env := envOfC qual scope s.heap.objs.size f cd) ab3 fun b hb => by
    cases hb
    exact ⟨nn _ (Nat.le_refl _), nfr _ (by rw [hst]; unfold frs; rw [List.filterMap_cons]; exact List.mem_cons_self)⟩
  refine ⟨ea, C, a0, H', B, rfl, os.trans I.os, bare, ab4.un, ab4.hok, fl', ab4.nt, ?_, fun b o e hb hx => ab4.cov b o e hb (hx.elim .inl fun ⟨o', e'⟩ => .inr ⟨o', e', by simp⟩), hR _ _ _ q⟩
  cases e : s.heap.get? ea with
  | none => rfl
  | some o => exact absurd (ab4.nw o e) (by simp)
end
section
variable {X : Cx} {R : RK} {k : Nat} {f : Addr} {fd : FuncData} {ps : List Str} {sp : Sp} {x : Str} {p pos : Pos} {e : Expr} {es : List Expr} {t : TA}
end
end L2
set_option Elab.async false
set_option linter.all false
set_option maxRecDepth 100000
namespace L2
open PySem PySem.Spec PyProof.Rows
theorem Fl.sameBut {B h h' : Heap} {l : List Env} {ea C C0 : Addr} (x : Fl B l ea C h) (hs : Heap.SameBut C0 h h') (ho : ∃ o, h.get? C0 = some o ∧ ∀ vs, o.data ≠ .fields vs) (hf : C0 ∉ frs l) : Fl (PySem.W.hideAll B [C0]) l ea C h' := by
  obtain ⟨x1, x2, x3, a0, fl, oe, vs, T, oT, ts, y1, y2, y3, y4, y5, y6, y7, y8, y9⟩ := x
  obtain ⟨o0, e0, n0⟩ := ho
  have hid : ∀ b, B.get? b = none → (PySem.W.hideAll B [C0]).get? b = none := fun b hb => by
    cases q : (PySem.W.hideAll B [C0]).get? b with
    | none => rfl
    | some o => rw [PySem.W.of_hideAll _ q] at hb; cases hb
  have ne : ∀ {b : Addr} {o : Obj} {zs : Array Value}, h.get? b = some o → o.data = .fields zs → b ≠ C0 := fun {b o zs} e d z => by
    rw [z, e0] at e
    cases e
    exact n0 _ d
  refine ⟨fun b o e => ?_, hid _ x2, ?_, a0, fl, oe, vs, T, oT, ts, (hs.2 _ (ne y1 y3)).trans y1, y2, y3, y4, hid _ y5, y6, (hs.2 _ (ne y7 y8)).trans y7, y8, y9⟩
  · have hb : b ≠ C0 := fun z => by
      rw [z, PySem.W.hideAll_none [C0] List.mem_cons_self] at e
      cases e
    exact (hs.2 b hb).trans (x1 b o (PySem.W.of_hideAll _ e))
  · clear y1 y2 y3 y4 y5 y6 y7 y8 y9
    induction l with
    | nil => trivial
    | cons env r ih =>
      obtain ⟨k1, ⟨L, o, k2, k3, k4, k5⟩, k6⟩ := x3
      have hL : L ≠ C0 := fun z => hf (by unfold frs; rw [List.filterMap_cons, k2, z]; exact List.mem_cons_self)
      exact ⟨k1, ⟨L, o, k2, hid _ k3, (hs.2 L hL).trans k4, k5⟩, ih (fun z => hf (by unfold frs at z ⊢; rw [List.filterMap_cons, k2]; exact List.mem_cons_of_mem _ z)) k6⟩
theorem Abt.sameBut {P : Program} {w : World} {l : List Env} {ch : List Addr} {H H' : Hp} {h h1 h2 B : Heap} {ea C0 : Addr} (x : Abt P w l ch H H' h h1 B ea) (hs : Heap.SameBut C0 h1 h2) (hC : h.get? C0 = none) (hn : H' C0 = none) :
    Abt P w l ch H H' h h2 (PySem.W.hideAll B [C0]) ea := by
  have ne : ∀ {b : Addr} {o : Obj}, h.get? b = some o → b ≠ C0 := fun {b o} e z => by rw [z, hC] at e; cases e
  have nh : ∀ {b : Addr}, H' b ≠ none → b ≠ C0 := fun {b} e z => e (by rw [z]; exact hn)
  refine ⟨⟨fun b o e n hb hx => (hs.2 b (ne e)).trans (x.un.keep b o e n hb hx), fun b o e n hb hx => ?_, x.un.free, fun b o e hx => ?_, x.un.tups, x.un.frzs, x.un.tbls⟩, fun b u e => ?_, x.nt, x.nw, fun b o e hb hx => ?_⟩
  · obtain ⟨sl, e1⟩ := x.un.slot b o e n hb hx
    exact ⟨sl, (hs.2 b (ne e)).trans e1⟩
  · obtain ⟨o1, e1⟩ := x.un.there b o e hx
    exact ⟨o1, (hs.2 b (ne e)).trans e1⟩
  · refine (x.hok b u e).stay (fun c v hc q => (hs.2 c (nh ?_)).trans q) (fun _ q => q) fun _ _ q => q
    rcases hc with rfl | hc
    · rw [e]; simp
    · rw [hc]; simp
  · have hb0 : b ≠ C0 := hx.elim nh fun ⟨o', e', _⟩ => ne e'
    rw [hs.2 b hb0] at e
    exact PySem.W.hideAll_get _ (x.cov b o e hb hx) (by simpa using hb0)
section
variable {prog : Program} {w : World} {A : Around} {R : Result → Shared → Prop} {s : Shared}
theorem compLoop_goE {elt target iter : Expr} {ifs : List Expr} {scope : Scope} {pos : Pos} {it acc : Value} {env : Env} {Ee : Value → Shared → Prop} (hE : ∀ e s', Ee e s' → notedBy (model prog w) A env (fun e s'' => R (.error e) s'') e s') (I : Nat → Shared → Prop)
    (turn : ∀ n s, I n s → wpAny (model prog w) A (pyNext it) (fun r s₁ => match r with
      | none => R (.ok .next) s₁
      | some v => wpAny (model prog w) A (letOwnedTupleGo target it v) (fun _ s₁' => wpAny (model prog w) A (assign target env v) (fun _ s₂ =>
          wpAny (model prog w) A (forIn ifs true fun c r => if r = true then do let ok ← isTrue c env (eval c env); pure (ForInStep.yield ok) else pure (ForInStep.yield r)) (fun ok s₃ =>
            if ok = true then wpAny (model prog w) A (eval elt env) (fun x s₄ =>
              wpAny (model prog w) A (call (.builtin "list.append") [acc, x]) (fun _ s₅ => ∃ m, m < n ∧ I m s₅) Ee s₄) Ee s₃
            else ∃ m, m < n ∧ I m s₃) Ee s₂) Ee s₁') Ee s₁) Ee s)
    (n : Nat) (h : I n s) :
    codeAny (model prog w) A (.compLoop (.ListComp elt [⟨target, iter, ifs, 0⟩] scope pos) 0 it acc env) R s := by
  refine codeAny_loop rfl I (fun n s hI => ?_) n h
  show wpAny _ A ((compTurn (.ListComp elt [⟨target, iter, ifs, 0⟩] scope pos) 0 it acc env).onRaise (fun x => do noteFrame x env; theTreesLotGoes x)) _ _ s
  refine wpAny_noted ?_
  rw [compTurn_list]
  refine wpAny_bind (wpAny_standAt (wpAny_bind (wpAny_mono (turn n s hI) (fun r s₁ h₁ => ?_) hE)))
  cases r with
  | none => exact wpAny_pure h₁
  | some v =>
    refine wpAny_bind (wpAny_mono h₁ (fun _ s₁' h₁' => ?_) hE)
    refine wpAny_bind (wpAny_mono h₁' (fun _ s₂ h₂ => wpAny_bind (wpAny_mono h₂ (fun ok s₃ h₃ => ?_) hE)) hE)
    cases ok with
    | false => exact wpAny_pure ⟨rfl, h₃⟩
    | true =>
      exact wpAny_bind (wpAny_bind (wpAny_mono h₃ (fun x s₄ h₄ => wpAny_bind (wpAny_mono h₄ (fun _ s₅ h₅ => wpAny_pure (wpAny_pure ⟨rfl, h₅⟩)) hE)) hE))
end
theorem thnT {α : Type} {t : Sem α} {Q Q' : α → Shared → Prop} {M : Model} {A : Around} {E : Value → Shared → Prop} {s : Shared} (hk : 0 < s.toks) (h : wpAny M A t Q E s) (hQ : ∀ a s', 0 < s'.toks → Q a s' → Q' a s') : wpAny M A t Q' E s :=
  wpAny_with_toks (n := 1) hk (wpAny_mono h (fun a s' q k => hQ a s' k q) fun _ _ x _ => x)
def PE1 (X : Cx) (e : Expr) (t : TE) : Prop :=
  ∀ (pins : List (Addr × Obj)) (s : Shared) (σ : St) (H : Hp) (Q : VK), Inv X pins σ H s → 0 < s.toks → t σ H Q → wpAny (model X.prog X.w) X.A (eval e X.env) (EP X pins σ Q) X.xe s
def PI1 (X : Cx) (tg iter : Expr) (wi : TI) : Prop :=
  ∀ (pins : List (Addr × Obj)) (s : Shared) (σ : St) (H : Hp) (R : It → Hp → Prop), Inv X pins σ H s → 0 < s.toks → wi σ H R →
    wpAny (model X.prog X.w) X.A (eval iter X.env) (fun v s1 => wpAny (model X.prog X.w) X.A (pyIter v) (PIE X pins σ tg R) X.xe s1) X.xe s
def PTs1 (X : Cx) (ifs : List Expr) (t : TT) : Prop :=
  ∀ (pins : List (Addr × Obj)) (s : Shared) (σ : St) (H : Hp) (Q : Bool → Hp → Prop), Inv X pins σ H s → 0 < s.toks → t σ H Q →
    wpAny (model X.prog X.w) X.A (forIn ifs true fun c r => if r = true then do let ok ← isTrue c X.env (eval c X.env); pure (ForInStep.yield ok) else pure (ForInStep.yield r)) (TP X pins σ Q) X.xe s
def HasFr (X : Cx) : Prop := ∃ env outer L, X.stack = env :: outer ∧ env.frame = some L ∧ X.env.frame = some L
theorem frameOf_eq {a b : Env} (h : a.frame = b.frame) : PySem.frameOf a = PySem.frameOf b := by unfold PySem.frameOf; rw [h]
theorem FlyX.unwish {X : Cx} {xe : Value → Shared → Prop} {R : RK} {e : Value} {s' : Shared} (h : FlyX (X.wish xe) R e s') : FlyX X R e s' := by
  obtain ⟨pins, σ, H, s, ch, ea, C, H', B, I, q⟩ := h
  exact ⟨pins, σ, H, s, ch, ea, C, H', B, I.unwish, q⟩
def tLCR (R : RK) (fr : List (Option Nat)) (wi : TI) (g : TG) (tt : RK → TT) (te : RK → TE) : TE := fun σ H Q => wi σ H fun J H1 => ∀ l, H1 l = none → ∃ W : Nat → Nat → List V → St → Hp → Prop,
  (∃ m, W 0 m [] (frOf fr σ) (upd H1 l (.lst []))) ∧ ∀ i m acc τ H2, W i m acc τ H2 → H2 l = some (.lst acc) ∧
    ((J.stop i H2 ∧ Q (.ref l) H2) ∨ (J.go i H2 ∧ acc.length < sizeLine ∧ ∀ x H3, J.yld i H2 x H3 → g x τ H3 fun τ2 H4 => tt (fun _ => R σ) τ2 H4 fun b H5 =>
      if b = true then te (fun _ => R σ) τ2 H5 fun v H6 => H6 l = some (.lst acc) ∧ ∃ m', m' < m ∧ W (i + 1) m' (acc ++ [v]) τ2 (upd H6 l (.lst (acc ++ [v]))) else ∃ m', m' < m ∧ W (i + 1) m' acc τ2 H5))
section
variable {X : Cx} {elt tg iter : Expr} {ifs : List Expr} {scope : Scope} {pos : Pos} {N : List Str} {fr : List (Option Nat)} {wi : TI} {g : TG} {tt : RK → TT} {te : RK → TE} {R : RK}
theorem pe_lcT (hc : X.calm = true) (hF : HasFr X) (hxR : Raises X R) (hi : PI1 X tg iter wi) (hg : ∀ C s₀ H₀ ex pins xe, PG ((cxComp X N scope C s₀ H₀ ex pins).wish xe) tg g)
    (ht : ∀ C s₀ H₀ ex pins xe R', Raises ((cxComp X N scope C s₀ H₀ ex pins).wish xe) R' → PTs1 ((cxComp X N scope C s₀ H₀ ex pins).wish xe) ifs (tt R'))
    (he : ∀ C s₀ H₀ ex pins xe R', Raises ((cxComp X N scope C s₀ H₀ ex pins).wish xe) R' → PE1 ((cxComp X N scope C s₀ H₀ ex pins).wish xe) elt (te R')) (hfr : FrOk X.N X.env.scope.names N scope.names fr) (hkind : scope.kind = .function)
    (hnames : ∀ x ∈ scope.names, x.2 = .local → scope.names.lookup x.1 = some .local) (hcell : ∀ x ∈ scope.names, x.2 ≠ .cell)
    (hfree : ∀ y ∈ scope.names, y.2 = .free → (X.env.cells.lookup y.1).isSome = true)
    (hs : ∀ x, foldedSetIterable iter X.env x = pure x := by intro _; rfl) :
    PE1 X (.ListComp elt [⟨tg, iter, ifs, 0⟩] scope pos) (tLCR R fr wi g tt te) := by
  intro pins s σ H Q I hk h
  rw [eval_ListComp]
  refine wpAny_comprehension_free (use := none) rfl hs (closureFor_cl hfree) hkind hnames (thnT hk (hi pins s σ H _ I hk h) fun v s1 hk1 h1 => thnT hk1 h1 fun itv s2 hk2 h2 => ?_)
  obtain ⟨it, fp, tn, J, H2, e, I2, T, st2, f2, q2⟩ := h2
  subst e
  refine wpAny_newObj_type (wpAny_newFunctionEnv hcell (by intro y hy; simp at hy) (fun h₁ hns₁ hsb₁ => ?_) hkind)
  dsimp only at hns₁ hsb₁ ⊢
  obtain ⟨W, ⟨m0, w0⟩, turn⟩ := q2 s2.heap.objs.size (I2.hok.fresh (Nat.le_refl _))
  -- the list is laid
  have I3 : Inv X pins σ (upd H2 s2.heap.objs.size (.lst [])) { s2 with heap := s2.heap.push { cls := .type "list", dict := none, data := .seq ([] : List Value).toArray } } :=
    I2.laid (t' := s2.toks) (fun b o e => Heap.get?_push_of_some _ e) (Nat.le_refl _) ⟨Nat.zero_le _, [], 0, .nil, Heap.get?_push_size _ rfl⟩
  generalize hS3 : ({ s2 with heap := s2.heap.push { cls := .type "list", dict := none, data := .seq ([] : List Value).toArray } } : Shared) = s3 at I3
  have hk3 : 0 < s3.toks := by rw [← hS3]; exact hk2
  generalize hH3 : upd H2 s2.heap.objs.size (.lst []) = H3 at I3 w0
  generalize hD : s2.heap.objs.size = D at *
  have hs3 : s2.heap.push { cls := .type "list", dict := none, data := .seq ([] : List Value).toArray } = s3.heap := by rw [← hS3]
  rw [hs3] at hns₁ hsb₁ ⊢
  have old : ∀ b o, s3.heap.get? b = some o → h₁.get? b = some o := fun b o e => hsb₁.extBut b o (Nat.ne_of_lt (Heap.lt_size e)) (Heap.get?_push_of_some _ e)
  have f3 : ∀ b ∈ fp, FpOk X pins H3 b := fun b hb => by
    obtain ⟨z0, z1⟩ := f2 b hb
    refine ⟨?_, z1⟩
    rw [← hH3, upd_ne]
    · exact z0
    · obtain ⟨o, eo, _⟩ := T.obj _ _ st2 b hb
      rw [← hD]
      exact Nat.ne_of_lt (Heap.lt_size eo)
  have inC : ∀ b ∈ fp, b ≠ s3.heap.objs.size := fun b hb => by
    obtain ⟨o, eo, _⟩ := T.obj _ _ st2 b hb
    refine Nat.ne_of_lt (Nat.lt_of_lt_of_le (Heap.lt_size eo) ?_)
    rw [← hs3, Heap.size_push]
    exact Nat.le_succ _
  have clsub : ∀ x c, (clOf scope.names X.env.cells []).lookup x = some c → X.env.cells.lookup x = some c := fun x c e => by
    rcases clOf_from _ _ _ e with z | z
    · exact z
    · simp at z
  have ok : (cxComp X N scope s3.heap.objs.size s3 H3 fp pins).Ok := by
    refine ⟨I3.ok.mod, ?_, I3.ok.glob, I3.ok.blt, Nat.le_refl _, fun x y c e1 e2 => I3.ok.inj x y c (clsub x c e1) (clsub y c e2), fun x hx => ?_, fun x c hf _ => (by cases hf), I3.ok.hd, I3.ok.frames, .inl rfl, fun b hb => ⟨inC b hb, fun x c e => (f3 b hb).2.2.2.2.1 x c (clsub x c e)⟩,
      I3.bs, Nat.le_trans I3.ok.bsz I3.sz, fun b o e hb => ?_, fun b hb z => ?_, I3.stack, I3.stkFree⟩
    · exact hkind
    · have hx : (relabel scope X.env).names.lookup x = some .cell ∨ (relabel scope X.env).names.lookup x = some .free := hx
      have hfx : scope.names.lookup x = some .free := by
        rcases hx with hx | hx
        · rcases relabel_kind hx with z | ⟨z, _⟩
          · exact absurd rfl (hcell _ (PySem.mem_of_lookup z))
          · exact z
        · rcases relabel_kind hx with z | ⟨_, z⟩
          · exact z
          · cases z
      obtain ⟨c, ec⟩ := Option.isSome_iff_exists.mp (hfree _ (PySem.mem_of_lookup hfx) rfl)
      exact ⟨c, clOf_get _ _ _ hfx ec⟩
    · rcases (f3 b hb).2.2.2.1 with z | z
      · exact I3.ok.noex b o e z
      · exact absurd (Nat.lt_of_lt_of_le (Heap.lt_size e) (Nat.le_trans I3.ok.bsz z)) (Nat.lt_irrefl _)
    · rcases List.mem_cons.mp (I3.stkSub b z) with z | z
      · exact (f3 b hb).2.1 z
      · exact (f3 b hb).2.2.1 z
  have I4 : Inv (cxComp X N scope s3.heap.objs.size s3 H3 fp pins) [] (frOf fr σ) H3 { s3 with heap := h₁, toks := s3.toks + ([] : List (Str × Value)).length } := by
    refine ⟨ok, rfl, I3.bare, Un.kept old, ⟨_, hns₁, fun i x v e1 e2 e3 => ?_⟩, fun x c e => ?_, I3.hok.fresh (Nat.le_refl _), fun x c e => I3.freeC x c (clsub x c e), fun p hp => ?_, I3.hok.kept old, ?_⟩
    · unfold frOf at e2
      rw [List.getElem?_map] at e2
      cases ef : fr[i]? with
      | none => rw [ef] at e2; cases e2
      | some o =>
        rw [ef] at e2
        cases o with
        | none => cases e2
        | some j =>
          have e2 : ((σ[j]?).bind id) = some v := Option.some.inj e2
          obtain ⟨k1, k2, k3⟩ := hfr.2 i j x ef e1
          have ej : σ[j]? = some (some v) := by
            cases es : σ[j]? with
            | none => rw [es] at e2; cases e2
            | some z => rw [es] at e2; cases e2; rfl
          obtain ⟨m, hn, hl⟩ := I3.loc
          have hv : Vis X.env.scope x := by
            rcases k2 with z | z
            · exact .inr (.inl z)
            · exact .inr (.inr z)
          obtain ⟨u, r, lk⟩ := hl j x v k1 ej hv
          refine ⟨u, r, ?_⟩
          rcases lk with ⟨z, _⟩ | ⟨_, c, ec, hcell'⟩
          · have z : X.env.scope.names.lookup x = some .local := z
            rcases k2 with y | y
            · rw [y] at z; cases z
            · rw [y] at z; cases z
          · refine .inr ⟨?_, c, clOf_get _ _ _ k3 ec, hcell'.keeps old⟩
            exact relabel_free k3
    · obtain ⟨v, z⟩ := I3.cell x c (clsub x c e)
      exact ⟨v, z.keeps old⟩
    · rw [List.append_nil] at hp
      obtain ⟨p1, p2, p3, p4, p5⟩ := I3.pin p hp
      refine ⟨old _ _ p1, p2, Nat.ne_of_lt (Heap.lt_size p1), fun z => ?_, p5⟩
      rcases List.mem_cons.mp (I3.stkSub p.1 z) with z | z
      · exact p3 z
      · exact p4 z
    · unfold frOf
      rw [List.length_map]
      exact hfr.1
  have st4 : tn 0 h₁ := T.keep _ _ _ st2 fun b hb o e => old b o (by rw [← hs3]; exact Heap.get?_push_of_some _ e)
  have fpX : ∀ {H' : Hp}, (∀ b ∈ fp, H' b = none) → ∀ (ps : List (Addr × Obj)), (∀ p ∈ ps, ∀ b ∈ fp, p.1 ≠ b) → ∀ b ∈ fp, FpOk (cxComp X N scope s3.heap.objs.size s3 H3 fp pins) ps H' b := fun hn ps hps b hb => by
    refine ⟨hn b hb, inC b hb, fun z => ?_, .inl hb, fun x c e => (f3 b hb).2.2.2.2.1 x c (clsub x c e), fun p hp => ?_⟩
    · rcases List.mem_cons.mp (I3.stkSub b z) with z | z
      · exact (f3 b hb).2.1 z
      · exact (f3 b hb).2.2.1 z
    · rcases List.mem_append.mp hp with z | z
      · exact (f3 b hb).2.2.2.2.2 p z
      · exact hps p z b hb
  have loop : ∀ itv s', itv = Value.ref it → s' = { s3 with heap := h₁, toks := s3.toks + ([] : List (Str × Value)).length } →
      codeAny (model X.prog X.w) X.A (.compLoop (.ListComp elt [⟨tg, iter, ifs, 0⟩] scope pos) 0 itv (.ref D) (compEnvC scope (clOf scope.names X.env.cells []) s3.heap.objs.size X.env))
        (compPost (model X.prog X.w) X.A X.xe none (EP X pins σ Q) (.ref D) s3.heap.objs.size) s' := by
    rintro _ _ rfl rfl
    refine compLoop_goE (Ee := FlyX (cxComp X N scope s3.heap.objs.size s3 H3 fp pins) fun _ => R σ) (fun e s' hf => ?_) (fun n s' => ∃ i acc τ H', Inv (cxComp X N scope s3.heap.objs.size s3 H3 fp pins) [] τ H' s' ∧ tn i s'.heap ∧ (∀ b ∈ fp, H' b = none) ∧ 0 < s'.toks ∧ W i n acc τ H') ?_ m0 ⟨0, [], frOf fr σ, H3, I4, st4, fun b hb => (f3 b hb).1, by simpa using hk3, w0⟩
    · -- an error comes out of a turn
      obtain ⟨env0, outer0, L0, hst0, hf0, hfX⟩ := hF
      obtain ⟨ps, τ, H5, s5, ch, ea, C5, H6, B, I5, hch, rfl, os5, bare5, fl5, ab5, q5⟩ := hf
      have fl5 : Fl B X.stack ea C5 s'.heap := fl5
      have ab5 : Abt X.prog X.w X.stack ch H5 H6 s5.heap s'.heap B ea := ab5
      have frk5 := I5.frk hch
      have frk5 : FrK X.stack ch H5 s5.heap := frk5
      have hCl : s3.heap.objs.size ∉ frs X.stack := fun z => by
        obtain ⟨_, o, ho, _⟩ := I3.stack.mem z
        exact absurd (Heap.lt_size ho) (Nat.lt_irrefl _)
      rw [hst0] at fl5
      have hfr0 : X.A.frames = some (env0 :: outer0) := by rw [← hst0]; exact I3.ok.frames
      refine fl_note hfr0 hf0 fl5 (fun h1 fl1 ups1 => ?_) _ hfX (frameOf_eq (hfX.trans hf0.symm))
      rw [← hst0] at fl1
      have ab6 := ab5.moved frk5 fl1.1 ups1
      obtain ⟨m5, hn5, _⟩ := id I5.loc
      have hn5 : s5.heap.Ns s3.heap.objs.size m5 := hn5
      have hl5 : H5 s3.heap.objs.size = none := I5.free
      have hCch : s3.heap.objs.size ∉ ch := fun z => (hch _ z).2.2.1 rfl
      obtain ⟨o5, es5, ep5, ho5, hd5, r5⟩ := hn5
      have ho6 : h1.get? s3.heap.objs.size = some o5 := ab6.un.keep _ o5 ho5 hl5 hCl hCch
      have hH6 : H6 s3.heap.objs.size = none := ab6.un.free _ o5 ho5 hl5 hCch
      refine ⟨m5, ⟨o5, es5, ep5, ho6, hd5, r5⟩, fun h2 hs2 cenv hcl => ?_⟩
      have fl2 := fl1.sameBut hs2 ⟨o5, ho6, fun vs z => by rw [hd5] at z; cases z⟩ hCl
      refine fl_pass (s := { s' with heap := h2 }) fl2 fun h3 fl3 ups3 => hxR _ _ ?_
      have u5 : Un (frs X.stack) fp H3 H5 s3.heap s5.heap := I5.base
      have ab7 := (ab6.under u5).sameBut hs2 (Heap.get?_none_of_le (Nat.le_refl _)) hH6
      have hch' : ChOk X pins (fp ++ ch) := fun b hb => by
        rcases List.mem_append.mp hb with hb | hb
        · obtain ⟨g0, g1, g2, g3, g4, g5⟩ := f3 b hb
          exact ⟨g2, g3, g1, g4, g5⟩
        · obtain ⟨g1, g2, g3, g4, g5⟩ := hch b hb
          rcases g2 with g2 | g2
          · obtain ⟨g0', g1', g2', g3', g4', g5'⟩ := f3 b g2
            exact ⟨g2', g3', g1', g4', g5'⟩
          · have g2 : s3.heap.objs.size ≤ b := g2
            refine ⟨I3.nofs g2, .inr (Nat.le_trans I3.sz g2), Nat.ne_of_gt (Nat.lt_of_lt_of_le I3.lt g2), fun x c e z => ?_, fun p hp z => ?_⟩
            · obtain ⟨v, q⟩ := I3.cell x c e
              exact absurd (Nat.lt_of_lt_of_le q.lt (by rw [z]; exact g2)) (Nat.lt_irrefl _)
            · exact absurd (Nat.lt_of_lt_of_le (Heap.lt_size (I3.pin p hp).1) (by rw [z]; exact g2)) (Nat.lt_irrefl _)
      have ab8 := ab7.moved (I3.frk hch') fl3.1 ups3
      exact ⟨pins, σ, H3, s3, fp ++ ch, ea, C5, H6, _, I3, hch', rfl, os5.trans I5.os, bare5, fl3, ab8, q5⟩
    rintro n s5 ⟨i, acc, τ, H5, I5, st5, fr5, hk5, w5⟩
    obtain ⟨hl5, step⟩ := turn i n acc τ H5 w5
    rcases step with ⟨stop, qn⟩ | ⟨go, hz, step⟩
    · refine wpAny_mono (T.done (cxComp X N scope s3.heap.objs.size s3 H3 fp pins) rfl rfl rfl hc i [] s5 τ H5 (FlyX (cxComp X N scope s3.heap.objs.size s3 H3 fp pins) fun _ => R σ) I5 (fpX fr5 [] (by simp)) st5 stop) (fun r s6 ⟨hr, I6⟩ => ?_) fun _ _ z => z
      subst hr
      obtain ⟨m6, hn6, _⟩ := id I6.loc
      refine ⟨m6, hn6, fun h' hs' => ⟨.ref D, H5, ?_, rfl, qn⟩⟩
      have hos : s6.os = s3.os := I6.os
      have keepC : ∀ b o, s3.heap.get? b = some o → b ≠ s3.heap.objs.size := fun b o e => Nat.ne_of_lt (Heap.lt_size e)
      have u6 : Un (frs X.stack) fp H3 H5 s3.heap s6.heap := I6.base
      refine I3.call' (s' := { s6 with heap := h' }) (ch := fp) hos ⟨fun b o e n1 n2 n3 => (hs'.2 b (keepC b o e)).trans (u6.keep b o e n1 n2 n3), fun b o e n1 n2 n3 => ?_, u6.free, fun b o e n3 => ?_, u6.tups, u6.frzs, u6.tbls⟩ (Inv.sameBut (X := cxComp X N scope s3.heap.objs.size s3 H3 fp pins) I6 hs') I6.bare fun b hb => ?_
      · obtain ⟨sl, z⟩ := u6.slot b o e n1 n2 n3
        exact ⟨sl, (hs'.2 b (keepC b o e)).trans z⟩
      · obtain ⟨o', z⟩ := u6.there b o e n3
        exact ⟨o', (hs'.2 b (keepC b o e)).trans z⟩
      · obtain ⟨g0, g1, g2, g3, g4, g5⟩ := f3 b hb
        exact ⟨g3, g1, g4, g5⟩
    · refine thnT hk5 (T.item (cxComp X N scope s3.heap.objs.size s3 H3 fp pins) rfl rfl rfl hc i [] s5 τ H5 (FlyX (cxComp X N scope s3.heap.objs.size s3 H3 fp pins) fun _ => R σ) I5 (fpX fr5 [] (by simp)) st5 go) fun r s6 hk6 qq9 => ?_
      obtain ⟨u, hr, h6⟩ := qq9
      subst hr
      refine thnT hk6 h6 fun _ s7 hk7 qq9 => ?_
      obtain ⟨x, H7, I7, r7, y7, st7, fr7⟩ := qq9
      have I7' := I7.pinned (fpX fr7 [] (by simp)) (T.obj _ _ st7)
      refine thnT hk7 (hg _ _ _ _ _ (FlyX (cxComp X N scope s3.heap.objs.size s3 H3 fp pins) fun _ => R σ) _ s7 τ H7 x u _ (I7'.wish _) r7 (step x H7 y7)) fun _ s8 hk8 qq9 => ?_
      obtain ⟨τ8, H8, I8, q8⟩ := qq9
      refine thnT hk8 (ht _ _ _ _ _ (FlyX (cxComp X N scope s3.heap.objs.size s3 H3 fp pins) fun _ => R σ) _ (fun e s' h => FlyX.unwish h) _ s8 τ8 H8 _ I8 hk8 q8) fun b s9 hk9 qq9 => ?_
      obtain ⟨H9, I9', q9⟩ := qq9
      have I9 := I9'.unwish
      have back : ∀ {s' : Shared} {τ' : St} {H' : Hp}, Inv (cxComp X N scope s3.heap.objs.size s3 H3 fp pins) ([] ++ pinsAt fp s7.heap) τ' H' s' → tn (i + 1) s'.heap ∧ ∀ b ∈ fp, H' b = none := fun {s' τ' H'} I' => by
        refine ⟨T.keep _ _ _ st7 fun b hb o e => (I'.pin (b, o) (List.mem_append_right _ (List.mem_append_right _ (mem_pinsAt hb e)))).1, fun b hb => ?_⟩
        obtain ⟨o, e, d⟩ := T.obj _ _ st7 b hb
        exact (I'.pin (b, o) (List.mem_append_right _ (List.mem_append_right _ (mem_pinsAt hb e)))).2.1
      cases b with
      | false =>
        rw [if_neg Bool.false_ne_true] at q9 ⊢
        obtain ⟨m', hm, w9⟩ := q9
        obtain ⟨b1, b2⟩ := back I9
        exact ⟨m', hm, i + 1, acc, τ8, H9, I9.unpinned, b1, b2, hk9, w9⟩
      | true =>
        rw [if_pos rfl] at q9 ⊢
        refine thnT hk9 (he _ _ _ _ _ (FlyX (cxComp X N scope s3.heap.objs.size s3 H3 fp pins) fun _ => R σ) _ (fun e s' h => FlyX.unwish h) _ s9 τ8 H9 _ I9' hk9 q9) fun y s10 hk10 qq9 => ?_
        obtain ⟨v, H10, I10', r10, hl10, m', hm, w10⟩ := qq9
        have I10 := I10'.unwish
        refine thnT hk10 (wpAny_mono (mt_append (X := cxComp X N scope s3.heap.objs.size s3 H3 fp pins) _ s10 τ8 H10 (.ref D) [v] (.ref D) [y] (fun _ H' => H' = upd H10 D (.lst (acc ++ [v]))) I10 rfl (.cons r10 .nil) ⟨D, acc, v, rfl, rfl, hl10, hz, rfl⟩) (fun _ _ z => z) fun _ _ z => z.elim) fun _ s11 hk11 qq9 => ?_
        obtain ⟨_, H11, I11, _, e11⟩ := qq9
        subst e11
        obtain ⟨b1, b2⟩ := back I11
        exact ⟨m', hm, i + 1, acc ++ [v], τ8, _, I11.unpinned, b1, b2, hk11, w10⟩
  exact codeAny_compStart_list (loop _ _ rfl (by rw [← hS3])) (T.self _ _ _ _ _ st4 (loop _ _ rfl (by rw [← hS3])))
end
end L2
set_option Elab.async false
set_option linter.all false
set_option maxRecDepth 100000
namespace L2
open PySem PySem.Spec PyProof.Rows
def XSub (K : PySem.W.Frag) (C' C : Addr) : Prop :=
  ∃ (nm q : Str) (N : Addr) (bs bm : List Value) (hdct : Bool) (sn : List Str) (sub : List Value) (ab : Bool) (col : Option Bool) (dd : Option Addr) (k0 k1 k2 k3 k5 : Option Value) (newId : String),
    K.lookup C' = some (excClassObj nm q C' N bs bm hdct sn sub ab col dd k0 k1 k2 k3 k5 newId) ∧ (Value.ref C' :: bm).contains (.ref C) = true
section
variable {X : Cx} {pins : List (Addr × Obj)} {σ : St} {H H' : Hp} {s s1 : Shared} {ch : List Addr} {B h5 : Heap} {ea C : Addr}
theorem Abt.land (I : Inv X pins σ H s) (hch : ChOk X pins ch) (os : s1.os = s.os) (bare : AllBare s1.gens) (fl : Fl B X.stack ea C h5) (ab : Abt X.prog X.w X.stack ch H H' s.heap h5 B ea) :
    Inv X pins σ (upd H' ea (excAt ea C)) { s1 with heap := h5 } := by
  have nea : ∀ b u, H' b = some u → b ≠ ea := fun b u e z => by rw [z, ab.nt] at e; cases e
  refine I.call' (s' := { s1 with heap := h5 }) (ch := ch) os ⟨ab.un.keep, ab.un.slot, fun b o e n hc => ?_, ab.un.there, fun b xs e => ?_, fun b o u e => ?_, fun b ps e => ?_⟩ (fun b u e => ?_) bare fun b hb => ?_
  · rw [upd_ne fun z => hc (by rw [z] at e ⊢; exact ab.nw o e)]
    exact ab.un.free b o e n hc
  · have := ab.un.tups b xs e
    rw [upd_ne (nea b _ this)]
    exact this
  · have := ab.un.frzs b o u e
    rw [upd_ne (nea b _ this)]
    exact this
  · obtain ⟨m, e1⟩ := ab.un.tbls b ps e
    exact ⟨m, by rw [upd_ne (nea b _ e1)]; exact e1⟩
  · by_cases hb : b = ea
    · subst hb
      rw [upd_same] at e
      cases e
      obtain ⟨oe, vs, he, hc, hd⟩ := fl.there
      exact ⟨⟨oe, vs, he, hc, hd⟩, ⟨oe, he⟩, fun h1 h2 ⟨o1, v1, z1, z2, z3⟩ k => ⟨o1, v1, k _ z1, z2, z3⟩⟩
    · rw [upd_ne hb] at e
      exact (ab.hok b u e).stay (fun c v hc q => q) (fun c q => by rw [upd_ne (nea c _ q)]; exact q) fun c xs q => by rw [upd_ne (nea c _ q)]; exact q
  · obtain ⟨_, g2, g3, g4, g5⟩ := hch b hb
    exact ⟨g2, g3, g4, g5⟩
theorem passesOwn_fly {R : RK} (hF : HasFr X) : PassesOwn (model X.prog X.w) X.A X.env (FlyX X R) := by
  intro e s' hf
  obtain ⟨env0, outer0, L0, hst0, hf0, hfX⟩ := hF
  obtain ⟨pins, σ, H, s, ch, ea, C, H', B, I, hch, rfl, os, bare, fl, ab, q⟩ := hf
  have frk := I.frk hch
  have hfr0 : X.A.frames = some (env0 :: outer0) := by rw [← hst0]; exact I.ok.frames
  rw [hst0] at fl
  refine fl_note hfr0 hf0 fl (fun h1 fl1 ups1 => ?_) _ hfX (frameOf_eq (hfX.trans hf0.symm))
  rw [← hst0] at fl1
  have ab1 := ab.moved frk fl1.1 ups1
  have fl1' := fl1
  obtain ⟨x1, x2, x3, a0, flv, oe, vs, T, oT, ts, y1, y2, y3, y4, y5, y6, y7, y8, y9⟩ := fl1'
  show wpAny _ _ (do if (← field (.ref ea) 1) == .none then unsupported "frame.own-activation:exception-without-traceback"
                     setFlight (.ref ea) X.env.frame) _ _ _
  refine wpAny_bind (wpAny_field y1 y3 y4 ?_)
  rw [if_neg (show ¬ ((Value.ref T == Value.none) = true) by simp)]
  exact fl_set (s := { s' with heap := h1 }) fl1 fun h2 fl2 ups2 => ⟨pins, σ, H, s, ch, ea, C, H', B, I, hch, rfl, os, bare, fl2, ab1.moved frk fl2.1 ups2, q⟩
theorem raises_never {X : Cx} : Raises X fun _ _ _ => False := fun _ _ qq => by
  obtain ⟨_, _, _, _, _, _, _, _, _, _, _, _, _, _, _, _, q⟩ := qq
  exact q.elim
end
section
variable {X : Cx} {pos : Pos}
end
end L2
set_option Elab.async false
set_option linter.all false
set_option maxRecDepth 100000
namespace Ev
open PySem
inductive W where
  | non | bl (b : Bool) | int (i : Int) | str (x : Str) | tup (ws : List W) | ctup (ws : List W) | flst (ws : List W) | ref (i : Nat) | exc (c : Nat)
  deriving Inhabited
inductive O where
  | lst (ws : List W)
  deriving Inhabited
noncomputable abbrev G := List O
noncomputable abbrev Sl := List (Option W)
inductive Res (α : Type) where
  | ok (a : α) (g : G) | exc (c : Nat) (g : G) | stuck
noncomputable def Res.bind {α β : Type} : Res α → (α → G → Res β) → Res β
  | .ok a g, f => f a g
  | .exc c g, _ => .exc c g
  | .stuck, _ => .stuck
inductive Out where
  | nx (s : Sl) (g : G) | rt (w : W) (g : G) | bk (s : Sl) (g : G) | ct (s : Sl) (g : G) | exc (c : Nat) (s : Sl) (g : G) | stuck
mutual
noncomputable def refsW : W → List Nat
  | .tup ws => refsWs ws
  | .ctup ws => refsWs ws
  | .flst ws => refsWs ws
  | .ref i => [i]
  | _ => []
noncomputable def refsWs : List W → List Nat
  | [] => []
  | w :: ws => refsW w ++ refsWs ws
end
noncomputable def refsO : O → List Nat
  | .lst ws => refsWs ws
mutual
noncomputable def renW (m : Nat → Nat) : W → W
  | .tup ws => .tup (renWs m ws)
  | .ctup ws => .ctup (renWs m ws)
  | .flst ws => .flst (renWs m ws)
  | .ref i => .ref (m i)
  | w => w
noncomputable def renWs (m : Nat → Nat) : List W → List W
  | [] => []
  | w :: ws => renW m w :: renWs m ws
end
noncomputable def renO (m : Nat → Nat) : O → O
  | .lst ws => .lst (renWs m ws)
noncomputable def clos (g : G) : Nat → List Nat → List Nat → List Nat
  | 0, _, done => done
  | _ + 1, [], done => done
  | n + 1, i :: t, done => if done.contains i then clos g n t done else clos g n ((g[i]?.map refsO).getD [] ++ t) (done ++ [i])
noncomputable def shut (g : G) (L : List Nat) : Bool := decide L.Nodup && L.all fun i => match g[i]? with | some o => (refsO o).all L.contains | none => false
noncomputable def cFuel : Nat := 100000
noncomputable def callR (run : Nat → List W → G → Res W) (f : Nat) (args : List W) (g : G) : Res W :=
  let L := clos g cFuel (refsWs args) []
  if shut g L && (refsWs args).all L.contains then
    let fin (v : W) (g1 : G) (k : W → G → Res W) : Res W :=
      let A := clos g1 cFuel (refsW v) (List.range L.length)
      let N := A.drop L.length
      let m : Nat → Nat := fun j => if j < L.length then L.getD j 0 else g.length + N.idxOf j
      if shut g1 (List.range L.length ++ N) && (refsW v).all (List.range L.length ++ N).contains then
        k (renW m v) ((List.range g.length).map (fun i => if L.contains i then renO m (g1.getD (L.idxOf i) default) else g.getD i default) ++ N.map fun j => renO m (g1.getD j default))
      else .stuck
    match run f (renWs L.idxOf args) (L.map fun i => renO L.idxOf (g.getD i default)) with
    | .ok v g1 => fin v g1 .ok
    | .exc c g1 => fin .non g1 fun _ g' => .exc c g'
    | .stuck => .stuck
  else .stuck
noncomputable def callM (wh : Nat → Bool) (run : Nat → List W → G → Res W) (f : Nat) (args : List W) (g : G) : Res W := if wh f then run f args g else callR run f args g
inductive O2 where
  | add | sub | mul | fdiv | mod | pow | lt | le | gt | ge | eq | ne | isin | notin | isn | isnt
inductive Bl where
  | len | all | any | str | int | list | tuple | max
inductive Mt where
  | append | join | split | replace | index | count | pop | reverse | insert
inductive Ty where
  | b (n : String) | x (c : Nat)
inductive Tg where
  | one (i : Nat) | tup (is : List Nat)
inductive E where
  | var (i : Nat) | cst (w : W)
  | op2 (o : O2) (a b : E) | neg (a : E) | chain (o o' : O2) (a b c : E)
  | and (a b : E) | or (a b : E) | not (a : E) | ite (c a b : E)
  | nil | cons (a r : E) | tup (as : E) | lst (as : E)
  | ix (a b : E) | slc (a : E) (lo hi : E)
  | call (f : Nat) (as : E) | blt (b : Bl) (as : E) | mth (m : Mt) (o as : E) | isi (a : E) (t : Ty)
  | lc (fr : List (Option Nat)) (t : Tg) (it : E) (c : E) (e : E) | rng (as : E)
inductive S where
  | skip | seq (a b : S) | set (t : Tg) (e : E) | drop (e : E) | ret (e : E) | ite (c : E) (a b : S)
  | loop (t : Tg) (it : E) (b : S) | raise (c : Nat) (as : E) | put (a i e : E) | try (b : S) (c : Nat) (i : Nat) (h : S) | brk | cont
structure Fn where
  np : Nat
  ns : Nat
  body : S
structure Cfg where
  fns : List Fn
  /-- how many error classes -/
  nx : Nat
  /-- is an error of the class c taken by the class d -/
  xsub : Nat → Nat → Bool
  /-- the defs that are handed the whole heap -/
  wh : Nat → Bool
end Ev
set_option Elab.async false
set_option linter.all false
set_option maxRecDepth 100000
namespace Ev
open PySem PySem.Spec L2
noncomputable def imm : HO → Bool
  | .tup _ => true
  | .frz _ _ => true
  | .ext _ => true
  | _ => false
structure Ext (ρ : List Addr) (H : Hp) (ρ' : List Addr) (H' : Hp) : Prop where
  pre : ρ <+: ρ'
  frm : ∀ b o, H b = some o → b ∉ ρ → H' b = some o
  im : ∀ b o, H b = some o → imm o = true → H' b = some o
  new : ∀ a, a ∈ ρ' → a ∈ ρ ∨ H a = none
theorem Ext.refl {ρ : List Addr} {H : Hp} : Ext ρ H ρ H := ⟨List.prefix_refl _, fun _ _ h _ => h, fun _ _ h _ => h, fun _ h => .inl h⟩
theorem Ext.trans {ρ ρ1 ρ2 : List Addr} {H H1 H2 : Hp} (x : Ext ρ H ρ1 H1) (y : Ext ρ1 H1 ρ2 H2) : Ext ρ H ρ2 H2 where
  pre := x.pre.trans y.pre
  frm := fun b o h n => y.frm b o (x.frm b o h n) fun z => (x.new b z).elim n fun q => by rw [q] at h; cases h
  im := fun b o h n => y.im b o (x.im b o h n) n
  new := fun a h => by
    rcases y.new a h with z | z
    · exact x.new a z
    · by_cases ha : a ∈ ρ
      · exact .inl ha
      · right
        cases q : H a with
        | none => rfl
        | some o => rw [x.frm a o q ha] at z; cases z
theorem Ext.laid {ρ : List Addr} {H : Hp} {p : Addr} {o : HO} (hp : H p = none) : Ext ρ H ρ (upd H p o) :=
  ⟨List.prefix_refl _, fun b u h _ => by rw [upd_ne (ne_of_none h hp)]; exact h, fun b u h _ => by rw [upd_ne (ne_of_none h hp)]; exact h, fun _ h => .inl h⟩
section
variable (K : PySem.W.Frag) (xc : Nat → Addr)
mutual
noncomputable def RW (ρ : List Addr) (H : Hp) : W → V → Prop
  | .non, v => v = .non
  | .bl b, v => v = .bl b
  | .int i, v => v = .int i
  | .str x, v => v = .str x
  | .tup ws, v => ∃ a vs, v = .ref a ∧ H a = some (.tup vs) ∧ RWs ρ H ws vs
  | .ctup ws, v => ∃ a vs, v = .ref a ∧ (∃ (o : Obj) (its : Array Value) (n : Nat), K.lookup a = some o ∧ o.cls = .type "tuple" ∧ o.dict = none ∧ o.data = .seq its n ∧ its.size ≤ sizeLine ∧ Vals vs its.toList) ∧ RWs ρ H ws vs
  | .flst ws, v => ∃ a vs, v = .ref a ∧ ((∃ o, H a = some (.frz o (.lst vs))) ∨ ∃ (o : Obj) (its : Array Value) (n : Nat), K.lookup a = some o ∧ o.cls = .type "list" ∧ o.dict = none ∧ o.data = .seq its n ∧ its.size ≤ sizeLine ∧ Vals vs its.toList) ∧ RWs ρ H ws vs
  | .ref i, v => ∃ a, v = .ref a ∧ ρ[i]? = some a
  | .exc c, v => ∃ a, v = .ref a ∧ H a = some (excAt a (xc c))
noncomputable def RWs (ρ : List Addr) (H : Hp) : List W → List V → Prop
  | [], vs => vs = []
  | w :: ws, vs => ∃ v r, vs = v :: r ∧ RW ρ H w v ∧ RWs ρ H ws r
end
noncomputable def RO (ρ : List Addr) (H : Hp) : O → Option HO → Prop
  | .lst ws, o => ∃ vs, o = some (.lst vs) ∧ RWs K xc ρ H ws vs
structure RH (ρ : List Addr) (g : G) (H : Hp) : Prop where
  len : ρ.length = g.length
  nd : ρ.Nodup
  ob : ∀ (i : Nat) a o, ρ[i]? = some a → g[i]? = some o → RO K xc ρ H o (H a)
noncomputable def RS (ρ : List Addr) (H : Hp) (sl : Sl) (σ : St) : Prop := sl.length = σ.length ∧ ∀ (i : Nat) w, sl[i]? = some (some w) → ∃ v, σ[i]? = some (some v) ∧ RW K xc ρ H w v
end
section
variable {K : PySem.W.Frag} {xc : Nat → Addr} {ρ ρ' : List Addr} {H H' : Hp} {g : G}
theorem get_pre {α : Type} {l l' : List α} {i : Nat} {a : α} (p : l <+: l') (h : l[i]? = some a) : l'[i]? = some a := by
  obtain ⟨t, rfl⟩ := p
  obtain ⟨hi, _⟩ := List.getElem?_eq_some_iff.mp h
  rw [List.getElem?_append_left hi]
  exact h
mutual
theorem RW.mono0 (hp : ρ <+: ρ') (im : ∀ b o, H b = some o → imm o = true → H' b = some o) : ∀ (w : W) {v : V}, RW K xc ρ H w v → RW K xc ρ' H' w v
  | .non, _, h => by unfold RW at h ⊢; exact h
  | .bl _, _, h => by unfold RW at h ⊢; exact h
  | .int _, _, h => by unfold RW at h ⊢; exact h
  | .str _, _, h => by unfold RW at h ⊢; exact h
  | .tup ws, _, h => by
    unfold RW at h ⊢
    obtain ⟨a, vs, e, h1, h2⟩ := h
    exact ⟨a, vs, e, im _ _ h1 rfl, RWs.mono0 hp im ws h2⟩
  | .ctup ws, _, h => by
    unfold RW at h ⊢
    obtain ⟨a, vs, e, h1, h2⟩ := h
    exact ⟨a, vs, e, h1, RWs.mono0 hp im ws h2⟩
  | .flst ws, _, h => by
    unfold RW at h ⊢
    obtain ⟨a, vs, e, h1, h2⟩ := h
    exact ⟨a, vs, e, h1.imp (fun ⟨o, q⟩ => ⟨o, im _ _ q rfl⟩) id, RWs.mono0 hp im ws h2⟩
  | .ref i, _, h => by
    unfold RW at h ⊢
    obtain ⟨a, e, h1⟩ := h
    exact ⟨a, e, get_pre hp h1⟩
  | .exc c, _, h => by
    unfold RW at h ⊢
    obtain ⟨a, e, h1⟩ := h
    exact ⟨a, e, im _ _ h1 rfl⟩
theorem RWs.mono0 (hp : ρ <+: ρ') (im : ∀ b o, H b = some o → imm o = true → H' b = some o) : ∀ (ws : List W) {vs : List V}, RWs K xc ρ H ws vs → RWs K xc ρ' H' ws vs
  | [], _, h => by unfold RWs at h ⊢; exact h
  | w :: ws, _, h => by
    unfold RWs at h ⊢
    obtain ⟨v, r, e, h1, h2⟩ := h
    exact ⟨v, r, e, RW.mono0 hp im w h1, RWs.mono0 hp im ws h2⟩
end
theorem RW.mono (x : Ext ρ H ρ' H') (w : W) {v : V} (h : RW K xc ρ H w v) : RW K xc ρ' H' w v := RW.mono0 x.pre x.im w h
theorem RWs.mono (x : Ext ρ H ρ' H') (ws : List W) {vs : List V} (h : RWs K xc ρ H ws vs) : RWs K xc ρ' H' ws vs := RWs.mono0 x.pre x.im ws h
theorem RS.mono {sl : Sl} {σ : St} (x : Ext ρ H ρ' H') (h : RS K xc ρ H sl σ) : RS K xc ρ' H' sl σ :=
  ⟨h.1, fun i w e => let ⟨v, e1, r⟩ := h.2 i w e; ⟨v, e1, RW.mono x w r⟩⟩
theorem RWs.length : ∀ {ws : List W} {vs : List V}, RWs K xc ρ H ws vs → vs.length = ws.length
  | [], _, h => by unfold RWs at h; subst h; rfl
  | w :: ws, _, h => by
    unfold RWs at h
    obtain ⟨v, r, rfl, _, h2⟩ := h
    simp [RWs.length h2]
theorem RWs.nil : RWs K xc ρ H [] [] := by unfold RWs; rfl
theorem RWs.cons {w : W} {ws : List W} {v : V} {vs : List V} (h1 : RW K xc ρ H w v) (h2 : RWs K xc ρ H ws vs) : RWs K xc ρ H (w :: ws) (v :: vs) := by
  unfold RWs; exact ⟨v, vs, rfl, h1, h2⟩
theorem RWs.append : ∀ {ws zs : List W} {vs us : List V}, RWs K xc ρ H ws vs → RWs K xc ρ H zs us → RWs K xc ρ H (ws ++ zs) (vs ++ us)
  | [], _, _, _, h, k => by unfold RWs at h; subst h; exact k
  | w :: ws, _, _, _, h, k => by
    unfold RWs at h
    obtain ⟨v, r, rfl, h1, h2⟩ := h
    exact RWs.cons h1 (RWs.append h2 k)
theorem RWs.take : ∀ {ws : List W} {vs : List V} (n : Nat), RWs K xc ρ H ws vs → RWs K xc ρ H (ws.take n) (vs.take n)
  | [], _, n, h => by unfold RWs at h; subst h; simp [RWs]
  | w :: ws, _, 0, h => by simp [RWs]
  | w :: ws, _, n + 1, h => by
    unfold RWs at h
    obtain ⟨v, r, rfl, h1, h2⟩ := h
    exact RWs.cons h1 (RWs.take n h2)
theorem RWs.drop : ∀ {ws : List W} {vs : List V} (n : Nat), RWs K xc ρ H ws vs → RWs K xc ρ H (ws.drop n) (vs.drop n)
  | [], _, n, h => by unfold RWs at h; subst h; simp [RWs]
  | w :: ws, _, 0, h => h
  | w :: ws, _, n + 1, h => by
    unfold RWs at h
    obtain ⟨v, r, rfl, h1, h2⟩ := h
    exact RWs.drop n h2
theorem RWs.get : ∀ {ws : List W} {vs : List V} {i : Nat} {w : W}, RWs K xc ρ H ws vs → ws[i]? = some w → ∃ v, vs[i]? = some v ∧ RW K xc ρ H w v
  | [], _, _, _, h, e => by simp at e
  | x :: ws, _, 0, _, h, e => by
    unfold RWs at h
    obtain ⟨v, r, rfl, h1, h2⟩ := h
    simp at e
    subst e
    exact ⟨v, rfl, h1⟩
  | x :: ws, _, i + 1, _, h, e => by
    unfold RWs at h
    obtain ⟨v, r, rfl, h1, h2⟩ := h
    obtain ⟨u, e1, r1⟩ := RWs.get (i := i) h2 (by simpa using e)
    exact ⟨u, by simpa using e1, r1⟩
theorem RO.mono (x : Ext ρ H ρ' H') {o : O} {a : Addr} (e : H' a = H a) (h : RO K xc ρ H o (H a)) : RO K xc ρ' H' o (H' a) := by
  cases o with
  | lst ws =>
    obtain ⟨vs, e1, r⟩ := h
    exact ⟨vs, by rw [e]; exact e1, RWs.mono x ws r⟩
theorem RH.isobj {i : Nat} {a : Addr} (h : RH K xc ρ g H) (e : ρ[i]? = some a) : ∃ o, g[i]? = some o ∧ RO K xc ρ H o (H a) := by
  have hi := (List.getElem?_eq_some_iff.mp e).1
  rw [h.len] at hi
  exact ⟨g[i], by simp [hi], h.ob i a _ e (by simp [hi])⟩
theorem RH.tracked {a : Addr} (h : RH K xc ρ g H) (e : a ∈ ρ) : ∃ o, H a = some o := by
  obtain ⟨i, e⟩ := List.getElem?_of_mem e
  obtain ⟨o, _, r⟩ := h.isobj e
  cases o with
  | lst ws => exact ⟨_, r.choose_spec.1⟩
theorem RH.laid {p : Addr} {o : HO} (h : RH K xc ρ g H) (hp : H p = none) : RH K xc ρ g (upd H p o) :=
  ⟨h.len, h.nd, fun i a ob e1 e2 => RO.mono (Ext.laid hp) (by
    rw [upd_ne]
    rintro rfl
    obtain ⟨u, eu⟩ := h.tracked (List.mem_of_getElem? e1)
    rw [hp] at eu; cases eu) (h.ob i a ob e1 e2)⟩
theorem RH.newL {p : Addr} {ws : List W} {vs : List V} (h : RH K xc ρ g H) (hp : H p = none) (r : RWs K xc ρ H ws vs) : RH K xc (ρ ++ [p]) (g ++ [.lst ws]) (upd H p (.lst vs)) ∧ Ext ρ H (ρ ++ [p]) (upd H p (.lst vs)) := by
  have x : Ext ρ H (ρ ++ [p]) (upd H p (.lst vs)) := ⟨List.prefix_append _ _, fun b u q _ => by rw [upd_ne (ne_of_none q hp)]; exact q, fun b u q _ => by rw [upd_ne (ne_of_none q hp)]; exact q, fun a ha => by
    rcases List.mem_append.mp ha with z | z
    · exact .inl z
    · right; rw [List.mem_singleton.mp z]; exact hp⟩
  have np : p ∉ ρ := fun z => by obtain ⟨o, e⟩ := h.tracked z; rw [hp] at e; cases e
  refine ⟨⟨by simp [h.len], List.nodup_append.mpr ⟨h.nd, by simp, fun a ha b hb => ?_⟩, fun i a o e1 e2 => ?_⟩, x⟩
  · rw [List.mem_singleton.mp hb]
    rintro rfl
    exact np ha
  · by_cases hi : i < ρ.length
    · rw [List.getElem?_append_left hi] at e1
      rw [List.getElem?_append_left (by rw [← h.len]; exact hi)] at e2
      refine RO.mono x ?_ (h.ob i a o e1 e2)
      rw [upd_ne]
      rintro rfl
      exact np (List.mem_of_getElem? e1)
    · rw [List.getElem?_append_right (by omega)] at e1
      rw [List.getElem?_append_right (by rw [← h.len]; omega)] at e2
      have z : i - ρ.length = 0 := by
        have := (List.getElem?_eq_some_iff.mp e1).1
        simp at this
        omega
      rw [z] at e1
      rw [← h.len, z] at e2
      simp at e1 e2
      subst e1 e2
      exact ⟨vs, upd_same, RWs.mono x ws r⟩
theorem nodup_ix' {α : Type} {l : List α} (hn : l.Nodup) {i j : Nat} {x : α} (a : l[i]? = some x) (b : l[j]? = some x) : i = j := by
  obtain ⟨h1, e1⟩ := List.getElem?_eq_some_iff.mp a
  obtain ⟨h2, e2⟩ := List.getElem?_eq_some_iff.mp b
  exact (List.getElem_inj hn).mp (e1.trans e2.symm)
theorem RH.setL {i : Nat} {a : Addr} {ws : List W} {vs : List V} (h : RH K xc ρ g H) (e : ρ[i]? = some a) (r : RWs K xc ρ H ws vs) : RH K xc ρ (g.set i (.lst ws)) (upd H a (.lst vs)) ∧ Ext ρ H ρ (upd H a (.lst vs)) := by
  have ha : a ∈ ρ := List.mem_of_getElem? e
  have nim : ∀ b u, H b = some u → imm u = true → b ≠ a := fun b u q m z => by
    subst z
    obtain ⟨o, _, ro⟩ := h.isobj e
    cases o with
    | lst zs =>
      obtain ⟨us, e1, _⟩ := ro
      rw [q] at e1
      cases e1
      cases m
  have x : Ext ρ H ρ (upd H a (.lst vs)) := ⟨List.prefix_refl _, fun b u q n => by rw [upd_ne fun z => n (by rw [z]; exact ha)]; exact q, fun b u q m => by rw [upd_ne (nim b u q m)]; exact q, fun _ z => .inl z⟩
  refine ⟨⟨by simpa using h.len, h.nd, fun j b o e1 e2 => ?_⟩, x⟩
  by_cases hj : i = j
  · subst hj
    rw [e] at e1
    cases e1
    have hi : i < g.length := by rw [← h.len]; exact (List.getElem?_eq_some_iff.mp e).1
    rw [List.getElem?_set_self hi] at e2
    cases e2
    exact ⟨vs, upd_same, RWs.mono x ws r⟩
  · rw [List.getElem?_set_ne hj] at e2
    refine RO.mono x ?_ (h.ob j b o e1 e2)
    rw [upd_ne]
    rintro rfl
    exact hj (nodup_ix' h.nd e e1)
end
end Ev
set_option Elab.async false
set_option linter.all false
set_option maxRecDepth 100000
namespace Ev
open PySem PySem.SeqAt L2
noncomputable def allO {α β : Type} (f : α → Option β) : List α → Option (List β)
  | [] => some []
  | a :: r => match f a with
    | some b => (allO f r).map (b :: ·)
    | none => none
noncomputable def toD (g : G) : Nat → W → Option PyData
  | 0, _ => none
  | _ + 1, .non => some .none
  | _ + 1, .bl b => some (.bool b)
  | _ + 1, .int i => some (.int i)
  | _ + 1, .str x => some (.str x)
  | n + 1, .tup ws => (allO (toD g n) ws).map .tuple
  | n + 1, .ctup ws => (allO (toD g n) ws).map .tuple
  | n + 1, .ref i => match g[i]? with
    | some (.lst ws) => (allO (toD g n) ws).map .list
    | none => none
  | _ + 1, _ => none
noncomputable def eqW (g : G) : W → W → Option Bool
  | .int i, .int j => some (decide (i = j))
  | .str x, .str y => some (decide (x = y))
  | .bl x, .bl y => some (decide (x = y))
  | a, b => match toD g 60 a, toD g 60 b with
    | some da, some db => if shaped da && shaped db then some (PyData.eqv da db) else none
    | _, _ => none
noncomputable def flatW : W → Bool
  | .non => true
  | .bl _ => true
  | .int _ => true
  | .str _ => true
  | _ => false
noncomputable def eqF : W → W → Bool
  | .non, .non => true
  | .bl a, .bl b => a == b
  | .bl a, .int b => (if a then 1 else 0) == b
  | .int a, .bl b => a == (if b then 1 else 0)
  | .int a, .int b => a == b
  | .str a, .str b => a == b
  | _, _ => false
noncomputable def items (g : G) : W → Option (List W)
  | .tup ws => some ws
  | .ctup ws => some ws
  | .flst ws => some ws
  | .ref i => match g[i]? with
    | some (.lst ws) => some ws
    | none => none
  | _ => none
noncomputable def inW (g : G) (a b : W) : Option Bool :=
  match a, b with
  | .str i, .str j => some (!(Builtin.Str.occurrences j i 0 j.length 1).isEmpty)
  | _, _ => match items g b with
    | some ws => if flatW a && ws.all flatW then some (ws.any fun y => eqF y a) else
        match toD g 60 a, toD g 60 b with
        | some d, some (.list ds) => if shaped d && PyData.canLayAll0 ds then some (ds.any fun z => PyData.eqv z d) else none
        | some d, some (.tuple ds) => if shaped d && PyData.canLayAll0 ds then some (ds.any fun z => PyData.eqv z d) else none
        | _, _ => none
    | none => none
noncomputable def truW (g : G) : W → Option Bool
  | .non => some false
  | .bl b => some b
  | .int i => some (i != 0)
  | .str y => if y.length ≤ sizeLine then some ((y.length : Int) != 0) else none
  | w => (items g w).map fun ws => !ws.isEmpty
noncomputable def Res.of (o : Option W) (g : G) : Res W := match o with
  | some w => .ok w g
  | none => .stuck
noncomputable def big : Int := 18446744073709551616
noncomputable def op2W (o : O2) (a b : W) (g : G) : Res W :=
  match o, a, b with
  | .add, .int i, .int j => .ok (.int (i + j)) g
  | .add, .ref i, .ref j => match g[i]?, g[j]? with
    | some (.lst xs), some (.lst ys) => if xs.length + ys.length ≤ sizeLine then .ok (.ref g.length) (g ++ [.lst (xs ++ ys)]) else .stuck
    | _, _ => .stuck
  | .sub, .int i, .int j => .ok (.int (i - j)) g
  | .mul, .int i, .int j => if (-big < i ∧ i < big) ∨ (-big < j ∧ j < big) then .ok (.int (i * j)) g else .stuck
  | .fdiv, .int i, .int j => if 0 < j ∧ j < 1073741824 then .ok (.int (i / j)) g else .stuck
  | .mod, .int i, .int j => if 0 < j then .ok (.int (i % j)) g else .stuck
  | .pow, .int i, .int j => if 0 ≤ j ∧ j ≤ 1000000 ∧ i.natAbs < 18446744073709551616 then .ok (.int (i ^ j.toNat)) g else .stuck
  | .lt, .int i, .int j => .ok (.bl (decide (i < j))) g
  | .le, .int i, .int j => .ok (.bl (decide (i ≤ j))) g
  | .gt, .int i, .int j => .ok (.bl (decide (j < i))) g
  | .ge, .int i, .int j => .ok (.bl (decide (j ≤ i))) g
  | .eq, a, b => Res.of ((eqW g a b).map .bl) g
  | .ne, a, b => Res.of ((eqW g a b).map fun c => .bl (!c)) g
  | .isin, a, b => Res.of ((inW g a b).map .bl) g
  | .notin, a, b => Res.of ((inW g a b).map fun c => .bl (!c)) g
  | .isn, .non, .non => .ok (.bl true) g
  | .isn, _, .non => .ok (.bl false) g
  | .isnt, .non, .non => .ok (.bl false) g
  | .isnt, _, .non => .ok (.bl true) g
  | _, _, _ => .stuck
noncomputable def negW (a : W) (g : G) : Res W := match a with
  | .int i => .ok (.int (-i)) g
  | _ => .stuck
noncomputable def ixW (g : G) (a b : W) : Option W :=
  match b with
  | .int i => match a with
    | .str z => if z.length ≤ sizeLine then (atI z.cps.toList i).map fun c => .str ⟨#[c]⟩ else none
    | _ => (items g a).bind fun ws => atI ws i
  | _ => none
noncomputable def cutW (ws : List W) (lo hi : Option Int) : List W := (ws.drop (HT.sIx ws.length 0 lo)).take (HT.sIx ws.length ws.length hi - HT.sIx ws.length 0 lo)
noncomputable def partW : List W → Option (Option Int)
  | [] => some none
  | [.int i] => some (some i)
  | _ => none
noncomputable def partR (r : Res (List W)) : Res (Option Int) := r.bind fun ws g => match partW ws with
  | some o => .ok o g
  | none => .stuck
noncomputable def slcW (a : W) (lo hi : Option Int) (g : G) : Res W :=
  match a with
  | .tup ws => if HT.sIx ws.length 0 lo = 0 ∧ HT.sIx ws.length ws.length hi = ws.length then .stuck else .ok (.tup (cutW ws lo hi)) g
  | .ctup ws => if HT.sIx ws.length 0 lo = 0 ∧ HT.sIx ws.length ws.length hi = ws.length then .stuck else .ok (.tup (cutW ws lo hi)) g
  | _ => .stuck
noncomputable def strsW : List W → Option (List Str)
  | [] => some []
  | .str x :: r => (strsW r).map (x :: ·)
  | _ => none
noncomputable def boolsW : List W → Option (List Bool)
  | [] => some []
  | .bl b :: r => (boolsW r).map (b :: ·)
  | _ => none
noncomputable def intsW : List W → Option (List Int)
  | [] => some []
  | .int b :: r => (intsW r).map (b :: ·)
  | _ => none
noncomputable def replW (x y z : Str) (k : Nat) : Str := if (Builtin.Str.occurrences x y 0 x.length k).isEmpty || (y.length == 0 && z.length == 0) then x else Builtin.Str.glued z (Builtin.Str.partsBetween x (Builtin.Str.occurrences x y 0 x.length k) y.length)
noncomputable def bltW (b : Bl) (as : List W) (g : G) : Res W :=
  match b, as with
  | .len, [.str z] => if z.length ≤ sizeLine then .ok (.int z.length) g else .stuck
  | .len, [w] => Res.of ((items g w).map fun ws => .int ws.length) g
  | .all, [.ref i] => match g[i]? with
    | some (.lst ws) => match boolsW ws with
      | some bs => .ok (.bl (bs.all id)) g
      | none => .stuck
    | none => .stuck
  | .any, [.ref i] => match g[i]? with
    | some (.lst ws) => match boolsW ws with
      | some bs => .ok (.bl (bs.any id)) g
      | none => .stuck
    | none => .stuck
  | .max, [.int i, .int j] => .ok (.int (if j > i then j else i)) g
  | .max, [.ref i] => match g[i]? with
    | some (.lst ws) => match intsW ws with
      | some (b :: bs) => .ok (.int (bs.foldl (fun a b => if b > a then b else a) b)) g
      | _ => .stuck
    | none => .stuck
  | .str, [.int i] => if i.natAbs < 1000000 then .ok (.str (toString i : String)) g else .stuck
  | .int, [.bl k] => .ok (.int (if k then 1 else 0)) g
  | .list, [w] => match items g w with
    | some ws => .ok (.ref g.length) (g ++ [.lst ws])
    | none => .stuck
  | _, _ => .stuck
noncomputable def mthW (m : Mt) (o : W) (as : List W) (g : G) : Res W :=
  match m, o, as with
  | .append, .ref i, [w] => match g[i]? with
    | some (.lst ws) => if ws.length < sizeLine then .ok .non (g.set i (.lst (ws ++ [w]))) else .stuck
    | none => .stuck
  | .join, .str x, [.ref i] => match g[i]? with
    | some (.lst ws) => match strsW ws with
      | some ys => if (ys.map (·.length)).sum + ys.length * x.length ≤ 16777216 then .ok (.str (Txt.join x ys)) g else .stuck
      | none => .stuck
    | none => .stuck
  | .split, .str x, [.str y] => if (y.length == 0) = false ∧ x.length ≤ 1000000 then .ok (.ref g.length) (g ++ [.lst ((Txt.split x y).map .str)]) else .stuck
  | .replace, .str x, [.str y, .str z, .int k] => if (y == z) = false ∧ 0 ≤ k ∧ k ≤ 1000 ∧ x.length ≤ 10000 ∧ z.length ≤ 100 then .ok (.str (replW x y z k.toNat)) g else .stuck
  | .index, .ctup ws, [w] => if flatW w && ws.all flatW then (match ws.findIdx? (fun y => eqF y w) with
    | some k => .ok (.int k) g
    | none => .stuck) else .stuck
  | .index, .ref i, [w] => match g[i]? with
    | some (.lst ws) => if flatW w && ws.all flatW then (match ws.findIdx? (fun y => eqF y w) with
      | some k => .ok (.int k) g
      | none => .stuck) else .stuck
    | none => .stuck
  | .count, .ref i, [w] => match g[i]? with
    | some (.lst ws) => if flatW w && ws.all flatW then .ok (.int ((ws.filter fun y => eqF y w).length : Nat)) g else .stuck
    | none => .stuck
  | .pop, .ref i, [.int k] => match g[i]? with
    | some (.lst ws) => if 0 ≤ k ∧ k < ws.length then (match ws[k.toNat]? with
      | some w => .ok w (g.set i (.lst (ws.eraseIdx k.toNat)))
      | none => .stuck) else .stuck
    | none => .stuck
  | .insert, .ref i, [.int k, w] => match g[i]? with
    | some (.lst ws) => if 0 ≤ k ∧ k < ws.length ∧ ws.length < sizeLine then .ok .non (g.set i (.lst (ws.take k.toNat ++ w :: ws.drop k.toNat))) else .stuck
    | none => .stuck
  | .reverse, .ref i, [] => match g[i]? with
    | some (.lst ws) => .ok .non (g.set i (.lst ws.reverse))
    | none => .stuck
  | _, _, _ => .stuck
noncomputable def isLst (g : G) (i : Nat) : Bool := match g[i]? with
  | some (.lst _) => true
  | none => false
noncomputable def mtT (m : Mt) (x : W) (g : G) : Bool := match m, x with
  | .append, .ref i => match g[i]? with
    | some (.lst _) => true
    | none => false
  | .join, .str _ => true
  | .split, .str _ => true
  | .replace, .str _ => true
  | .index, .ref i => isLst g i
  | .count, .ref i => isLst g i
  | .pop, .ref i => isLst g i
  | .insert, .ref i => isLst g i
  | .reverse, .ref i => isLst g i
  | _, _ => false
noncomputable def isiB (P : Cfg) (g : G) (w : W) (n : String) : Option Bool := match w with
  | .bl _ => match n with
    | "bool" => some true
    | "int" => some true
    | _ => none
  | .int _ => match n with
    | "int" => some true
    | "bool" => some false
    | "tuple" => some false
    | "str" => some false
    | _ => none
  | .str _ => match n with
    | "str" => some true
    | "int" => some false
    | _ => none
  | .tup _ => match n with
    | "tuple" => some true
    | "list" => some false
    | _ => none
  | .ref i => match n with
    | "list" => match g[i]? with
      | some (.lst _) => some true
      | none => none
    | _ => none
  | .exc c => match n with
    | "ValueError" => if c < P.nx then some true else none
    | _ => none
  | _ => none
noncomputable def isiX (P : Cfg) (w : W) (d : Nat) : Option Bool := match w with
  | .exc c => if c < P.nx ∧ d < P.nx then some (P.xsub c d) else none
  | _ => none
noncomputable def isiW (P : Cfg) (g : G) (w : W) (t : Ty) : Option Bool := match t with
  | .b n => isiB P g w n
  | .x d => isiX P w d
noncomputable def setT (t : Tg) (w : W) (g : G) (sl : Sl) : Option Sl := match t with
  | .one i => some (sl.set i (some w))
  | .tup is => match w with
    | .tup ws => if ws.length = is.length then some ((is.zip ws).foldl (fun s p => s.set p.1 (some p.2)) sl) else none
    | _ => none
noncomputable def frW (fr : List (Option Nat)) (sl : Sl) : Sl := fr.map fun o => o.bind fun j => (sl[j]?).bind id
inductive It where
  | val (w : W) | rng (lo : Int) (n : Nat)
noncomputable def It.nxt (t : It) (i : Nat) (g : G) : Option (Option W) := match t with
  | .val w => (items g w).map fun ws => ws[i]?
  | .rng lo n => some (if i < n then some (.int (lo + i)) else none)
noncomputable def It.many (t : It) (g : G) : Option Nat := match t with
  | .val w => (items g w).map (·.length)
  | .rng _ n => some n
noncomputable def lcLoop (nxt : Nat → G → Option (Option W)) (step : W → Sl → G → Res (Sl × List W)) : Nat → Nat → Sl → G → Res (List W)
  | 0, _, _, _ => .stuck
  | n + 1, i, τ, g => match nxt i g with
    | none => .stuck
    | some none => .ok [] g
    | some (some x) => (step x τ g).bind fun p g1 => (lcLoop nxt step n (i + 1) p.1 g1).bind fun r g2 => .ok (p.2 ++ r) g2
noncomputable def forLoop (nxt : Nat → G → Option (Option W)) (step : W → Sl → G → Out) : Nat → Nat → Sl → G → Out
  | 0, _, _, _ => .stuck
  | n + 1, i, s, g => match nxt i g with
    | none => .stuck
    | some none => .nx s g
    | some (some x) => match step x s g with
      | .nx s1 g1 => forLoop nxt step n (i + 1) s1 g1
      | .ct s1 g1 => forLoop nxt step n (i + 1) s1 g1
      | .bk s1 g1 => .nx s1 g1
      | .rt w g1 => .rt w g1
      | .exc c s1 g1 => .exc c s1 g1
      | .stuck => .stuck
noncomputable def toB (g : G) (w : W) : Res Bool := match truW g w with
  | some b => .ok b g
  | none => .stuck
noncomputable def rngI : List W → Option It
  | [.int j] => if -4611686018427387904 ≤ j ∧ j < 4611686018427387904 then some (.rng 0 j.toNat) else none
  | [.int i, .int j] => if -4611686018427387904 ≤ i ∧ i < 4611686018427387904 ∧ -4611686018427387904 ≤ j ∧ j < 4611686018427387904 then some (.rng i (j - i).toNat) else none
  | _ => none
noncomputable def valI (g : G) (w : W) : Option It := match items g w with
  | some _ => some (.val w)
  | none => none
noncomputable def lcStep (t : Tg) (evc eve : Sl → G → Res W) (x : W) (τ : Sl) (g2 : G) : Res (Sl × List W) := match setT t x g2 τ with
  | none => .stuck
  | some τ1 => (evc τ1 g2).bind fun k g3 => (toB g3 k).bind fun k g4 => if k then (eve τ1 g4).bind fun v g5 => .ok (τ1, [v]) g5 else .ok (τ1, []) g4
noncomputable def lcGo (fr : List (Option Nat)) (t : Tg) (evc eve : Sl → G → Res W) (sl : Sl) (J : It) (g1 : G) : Res W := match J.many g1 with
  | some n => if n < sizeLine then (lcLoop J.nxt (lcStep t evc eve) (n + 1) 0 (frW fr sl) g1).bind fun ws g6 => .ok (.ref g6.length) (g6 ++ [.lst ws]) else .stuck
  | none => .stuck
section
variable (P : Cfg) (cl : Nat → List W → G → Res W)
mutual
noncomputable def ev : E → Sl → G → Res W
  | .var i, sl, g => match sl[i]? with
    | some (some w) => .ok w g
    | _ => .stuck
  | .cst w, _, g => .ok w g
  | .op2 o a b, sl, g => (ev a sl g).bind fun x g1 => (ev b sl g1).bind fun y g2 => op2W o x y g2
  | .neg a, sl, g => (ev a sl g).bind negW
  | .chain o o' a b c, sl, g => (ev a sl g).bind fun x g1 => (ev b sl g1).bind fun y g2 => (op2W o x y g2).bind fun z g3 => match z with
    | .bl true => (ev c sl g3).bind fun u g4 => op2W o' y u g4
    | .bl false => .ok (.bl false) g3
    | _ => .stuck
  | .and a b, sl, g => (ev a sl g).bind fun x g1 => match x with
    | .bl true => ev b sl g1
    | .bl false => .ok (.bl false) g1
    | _ => .stuck
  | .or a b, sl, g => (ev a sl g).bind fun x g1 => match x with
    | .bl true => .ok (.bl true) g1
    | .bl false => ev b sl g1
    | _ => .stuck
  | .not a, sl, g => (ev a sl g).bind fun x g1 => (toB g1 x).bind fun b g2 => .ok (.bl (!b)) g2
  | .ite c a b, sl, g => (ev c sl g).bind fun x g1 => (toB g1 x).bind fun k g2 => if k then ev a sl g2 else ev b sl g2
  | .nil, _, _ => .stuck
  | .cons _ _, _, _ => .stuck
  | .tup as, sl, g => (evs as sl g).bind fun ws g1 => if ws.length ≤ sizeLine then .ok (.tup ws) g1 else .stuck
  | .lst as, sl, g => (evs as sl g).bind fun ws g1 => if ws.length ≤ sizeLine then .ok (.ref g1.length) (g1 ++ [.lst ws]) else .stuck
  | .ix a b, sl, g => (ev a sl g).bind fun x g1 => (ev b sl g1).bind fun y g2 => Res.of (ixW g2 x y) g2
  | .slc a lo hi, sl, g => (ev a sl g).bind fun x g1 => (partR (evs lo sl g1)).bind fun l g2 => (partR (evs hi sl g2)).bind fun u g3 => slcW x l u g3
  | .call f as, sl, g => (evs as sl g).bind fun ws g1 => if ws.length = (P.fns[f]?.map (·.np)).getD 1000 then cl f ws g1 else .stuck
  | .blt b as, sl, g => (evs as sl g).bind fun ws g1 => bltW b ws g1
  | .mth m o as, sl, g => (ev o sl g).bind fun x g1 => if mtT m x g1 then (evs as sl g1).bind fun ws g2 => mthW m x ws g2 else .stuck
  | .isi a t, sl, g => (ev a sl g).bind fun x g1 => Res.of ((isiW P g1 x t).map .bl) g1
  | .lc fr t (.rng as) c e, sl, g => (evs as sl g).bind fun ws g1 => match rngI ws with
    | some J => lcGo fr t (ev c) (ev e) sl J g1
    | none => .stuck
  | .lc fr t it c e, sl, g => (ev it sl g).bind fun w g1 => match valI g1 w with
    | some J => lcGo fr t (ev c) (ev e) sl J g1
    | none => .stuck
  | .rng _, _, _ => .stuck
noncomputable def evs : E → Sl → G → Res (List W)
  | .nil, _, g => .ok [] g
  | .cons a r, sl, g => (ev a sl g).bind fun x g1 => (evs r sl g1).bind fun xs g2 => .ok (x :: xs) g2
  | _, _, _ => .stuck
end
noncomputable def evI : E → Sl → G → Res It
  | .rng as, sl, g => (evs P cl as sl g).bind fun ws g1 => match rngI ws with
    | some J => .ok J g1
    | none => .stuck
  | e, sl, g => (ev P cl e sl g).bind fun w g1 => match valI g1 w with
    | some J => .ok J g1
    | none => .stuck
noncomputable def putW (x y w : W) (g : G) : Option G := match x, y with
  | .ref i, .int k => match g[i]? with
    | some (.lst ws) => if 0 ≤ k ∧ k < ws.length then some (g.set i (.lst (ws.set k.toNat w))) else none
    | none => none
  | _, _ => none
noncomputable def exec : S → Sl → G → Out
  | .skip, sl, g => .nx sl g
  | .seq a b, sl, g => match exec a sl g with
    | .nx sl1 g1 => exec b sl1 g1
    | o => o
  | .set t e, sl, g => match ev P cl e sl g with
    | .ok w g1 => match setT t w g1 sl with
      | some sl1 => .nx sl1 g1
      | none => .stuck
    | .exc c g1 => .exc c sl g1
    | .stuck => .stuck
  | .drop e, sl, g => match ev P cl e sl g with
    | .ok _ g1 => .nx sl g1
    | .exc c g1 => .exc c sl g1
    | .stuck => .stuck
  | .ret e, sl, g => match ev P cl e sl g with
    | .ok w g1 => .rt w g1
    | .exc c g1 => .exc c sl g1
    | .stuck => .stuck
  | .ite c a b, sl, g => match (ev P cl c sl g).bind fun x g1 => toB g1 x with
    | .ok true g1 => exec a sl g1
    | .ok false g1 => exec b sl g1
    | .exc c g1 => .exc c sl g1
    | .stuck => .stuck
  | .loop t it b, sl, g => match evI P cl it sl g with
    | .ok J g1 => match J.many g1 with
      | some n => forLoop J.nxt (fun x s g2 => match setT t x g2 s with
        | none => .stuck
        | some s1 => exec b s1 g2) (n + 1) 0 sl g1
      | none => .stuck
    | .exc c g1 => .exc c sl g1
    | .stuck => .stuck
  | .raise c as, sl, g => match evs P cl as sl g with
    | .ok ws g1 => if ws.length ≤ sizeLine then .exc c sl g1 else .stuck
    | .exc c g1 => .exc c sl g1
    | .stuck => .stuck
  | .try b c i h, sl, g => match exec b sl g with
    | .exc d sl1 g1 => if P.xsub d c then (match exec h (sl1.set i (some (.exc d))) g1 with
        | .nx sl2 g2 => .nx (sl2.set i none) g2
        | .bk sl2 g2 => .bk (sl2.set i none) g2
        | .ct sl2 g2 => .ct (sl2.set i none) g2
        | .rt w g2 => .rt w g2
        | _ => .stuck) else .stuck
    | o => o
  | .put a i e, sl, g => match ev P cl e sl g with
    | .ok w g1 => match ev P cl a sl g1 with
      | .ok x g2 => match ev P cl i sl g2 with
        | .ok y g3 => match putW x y w g3 with
          | some g4 => .nx sl g4
          | none => .stuck
        | .exc c g3 => .exc c sl g3
        | .stuck => .stuck
      | .exc c g2 => .exc c sl g2
      | .stuck => .stuck
    | .exc c g1 => .exc c sl g1
    | .stuck => .stuck
  | .brk, sl, g => .bk sl g
  | .cont, sl, g => .ct sl g
end
noncomputable def runN (P : Cfg) : Nat → Nat → List W → G → Res W
  | 0, _, _, _ => .stuck
  | n + 1, f, args, g => match P.fns[f]? with
    | none => .stuck
    | some fn => if args.length = fn.np then match exec P (callM P.wh (runN P n)) fn.body (args.map some ++ List.replicate (fn.ns - fn.np) none) g with
        | .nx _ g1 => .ok .non g1
        | .rt w g1 => .ok w g1
        | .exc c _ g1 => .exc c g1
        | _ => .stuck
      else .stuck
end Ev
set_option Elab.async false
set_option linter.all false
set_option maxRecDepth 100000
namespace Ev
open PySem PySem.Spec PyProof.Rows L2
theorem ev_lc (P cl fr t it c e sl g) : ev P cl (.lc fr t it c e) sl g = (evI P cl it sl g).bind fun J g1 => lcGo fr t (ev P cl c) (ev P cl e) sl J g1 := by
  cases it with
  | rng as =>
    show (evs P cl as sl g).bind _ = Res.bind ((evs P cl as sl g).bind _) _
    cases evs P cl as sl g with
    | ok ws g1 => simp only [Res.bind]; cases rngI ws <;> rfl
    | exc c g1 => rfl
    | stuck => rfl
  | nil => rfl
  | cons a b => rfl
  | cst w =>
    show (match valI g w with | some J => _ | none => _) = Res.bind (match valI g w with | some J => _ | none => _) _
    cases valI g w <;> rfl
  | _ =>
    show (ev P cl _ sl g).bind _ = Res.bind ((ev P cl _ sl g).bind _) _
    cases ev P cl _ sl g with
    | ok w g1 => simp only [Res.bind]; cases valI g1 w <;> rfl
    | exc c g1 => rfl
    | stuck => rfl
theorem Res.bind_assoc {α β γ : Type} (r : Res α) (f : α → G → Res β) (k : β → G → Res γ) : (r.bind f).bind k = r.bind fun a g => (f a g).bind k := by cases r <;> rfl
section
variable (K : PySem.W.Frag) (xc : Nat → Addr)
noncomputable def Post {α β : Type} (rel : List Addr → Hp → α → β → Prop) (ρ : List Addr) (H : Hp) (Q : β → Hp → Prop) (Ex : Nat → Hp → Prop) : Res α → Prop
  | .ok a g => ∀ ρ' H' b, Ext ρ H ρ' H' → RH K xc ρ' g H' → rel ρ' H' a b → Q b H'
  | .exc c g => ∀ ρ' H', Ext ρ H ρ' H' → RH K xc ρ' g H' → Ex c H'
  | .stuck => False
noncomputable def PostS (ρ : List Addr) (H : Hp) (D : Ends) (R : RK) : Out → Prop
  | .nx sl g => ∀ ρ' H' σ', Ext ρ H ρ' H' → RH K xc ρ' g H' → RS K xc ρ' H' sl σ' → D.nx σ' H'
  | .rt w g => ∀ ρ' H' v, Ext ρ H ρ' H' → RH K xc ρ' g H' → RW K xc ρ' H' w v → D.rt v H'
  | .bk sl g => ∀ ρ' H' σ', Ext ρ H ρ' H' → RH K xc ρ' g H' → RS K xc ρ' H' sl σ' → D.bk σ' H'
  | .ct sl g => ∀ ρ' H' σ', Ext ρ H ρ' H' → RH K xc ρ' g H' → RS K xc ρ' H' sl σ' → D.ct σ' H'
  | .exc c sl g => ∀ ρ' H' σ', Ext ρ H ρ' H' → RH K xc ρ' g H' → RS K xc ρ' H' sl σ' → R σ' (xc c) H'
  | .stuck => False
noncomputable abbrev eqB (_ : List Addr) (_ : Hp) (a b : Bool) : Prop := a = b
end
section
variable {K : PySem.W.Frag} {xc : Nat → Addr} {α β γ δ : Type} {rel : List Addr → Hp → α → β → Prop} {rel2 : List Addr → Hp → γ → δ → Prop} {ρ ρ1 : List Addr} {H H1 : Hp} {Q : β → Hp → Prop} {Q2 : δ → Hp → Prop} {Ex : Nat → Hp → Prop}
theorem Post.later {r : Res α} (x : Ext ρ H ρ1 H1) (h : Post K xc rel ρ H Q Ex r) : Post K xc rel ρ1 H1 Q Ex r := by
  cases r with
  | ok a g => exact fun ρ' H' b y => h ρ' H' b (x.trans y)
  | exc c g => exact fun ρ' H' y => h ρ' H' (x.trans y)
  | stuck => exact h
theorem PostS.later {D : Ends} {R : RK} {o : Out} (x : Ext ρ H ρ1 H1) (h : PostS K xc ρ H D R o) : PostS K xc ρ1 H1 D R o := by
  cases o with
  | nx sl g => exact fun ρ' H' b y => h ρ' H' b (x.trans y)
  | rt sl g => exact fun ρ' H' b y => h ρ' H' b (x.trans y)
  | bk sl g => exact fun ρ' H' b y => h ρ' H' b (x.trans y)
  | ct sl g => exact fun ρ' H' b y => h ρ' H' b (x.trans y)
  | exc c sl g => exact fun ρ' H' b y => h ρ' H' b (x.trans y)
  | stuck => exact h
theorem Post.imp {r : Res α} {Q' : β → Hp → Prop} {Ex' : Nat → Hp → Prop} (h : Post K xc rel ρ H Q Ex r) (hq : ∀ b H', Q b H' → Q' b H') (he : ∀ c H', Ex c H' → Ex' c H') : Post K xc rel ρ H Q' Ex' r := by
  cases r with
  | ok a g => exact fun ρ' H' b x y z => hq _ _ (h ρ' H' b x y z)
  | exc c g => exact fun ρ' H' x y => he _ _ (h ρ' H' x y)
  | stuck => exact h
theorem Post.bind {r : Res α} {k : α → G → Res γ} (h : Post K xc rel2 ρ H Q2 Ex (r.bind k)) :
    Post K xc rel ρ H (fun b H1 => ∃ ρ1 a g1, Ext ρ H ρ1 H1 ∧ RH K xc ρ1 g1 H1 ∧ rel ρ1 H1 a b ∧ Post K xc rel2 ρ1 H1 Q2 Ex (k a g1)) Ex r := by
  cases r with
  | ok a g => exact fun ρ' H' b x y z => ⟨ρ', a, g, x, y, z, Post.later x h⟩
  | exc c g => exact h
  | stuck => exact h
end
section
variable {K : PySem.W.Frag} {xc : Nat → Addr} {α : Type} {ρ : List Addr} {H : Hp} {X : Cx} {pins : List (Addr × Obj)} {σ : L2.St} {s : Shared} {C : Prop} {P : List Addr → Hp → α → G → Prop}
theorem ep_elim {rel : List Addr → Hp → α → V → Prop} {u : Value} (q : EP X pins σ (fun b H1 => ∃ ρ1 a g1, Ext ρ H ρ1 H1 ∧ RH K xc ρ1 g1 H1 ∧ rel ρ1 H1 a b ∧ P ρ1 H1 a g1) u s)
    (h : ∀ x H1, Inv X pins σ H1 s → RelV x u → ∀ ρ1 a g1, Ext ρ H ρ1 H1 → RH K xc ρ1 g1 H1 → rel ρ1 H1 a x → P ρ1 H1 a g1 → C) : C := by
  obtain ⟨x, H1, I1, r1, ρ1, a, g1, X1, hH1, rw1, hP1⟩ := q
  exact h x H1 I1 r1 ρ1 a g1 X1 hH1 rw1 hP1
theorem ap_elim {rel : List Addr → Hp → α → List V → Prop} {us : List Value} (q : AP X pins σ (fun b H1 => ∃ ρ1 a g1, Ext ρ H ρ1 H1 ∧ RH K xc ρ1 g1 H1 ∧ rel ρ1 H1 a b ∧ P ρ1 H1 a g1) us s)
    (h : ∀ x H1, Inv X pins σ H1 s → Vals x us → ∀ ρ1 a g1, Ext ρ H ρ1 H1 → RH K xc ρ1 g1 H1 → rel ρ1 H1 a x → P ρ1 H1 a g1 → C) : C := by
  obtain ⟨x, H1, I1, r1, ρ1, a, g1, X1, hH1, rw1, hP1⟩ := q
  exact h x H1 I1 r1 ρ1 a g1 X1 hH1 rw1 hP1
end
section
variable (X : Cx) (xc : Nat → Addr) (R : RK)
noncomputable def QE (e : Expr) (f : Sl → G → Res W) : Prop :=
  ∀ (pins : List (Addr × Obj)) (s : Shared) (σ : L2.St) (H : Hp) (ρ : List Addr) (sl : Sl) (g : G) (Q : VK), Inv X pins σ H s → 0 < s.toks → RS X.K xc ρ H sl σ → RH X.K xc ρ g H →
    Post X.K xc (RW X.K xc) ρ H Q (fun c H' => R σ (xc c) H') (f sl g) → wpAny (model X.prog X.w) X.A (eval e X.env) (EP X pins σ Q) X.xe s
noncomputable def QT (e : Expr) (f : Sl → G → Res Bool) : Prop :=
  ∀ (pins : List (Addr × Obj)) (s : Shared) (σ : L2.St) (H : Hp) (ρ : List Addr) (sl : Sl) (g : G) (Q : Bool → Hp → Prop), Inv X pins σ H s → 0 < s.toks → RS X.K xc ρ H sl σ → RH X.K xc ρ g H →
    Post X.K xc eqB ρ H Q (fun c H' => R σ (xc c) H') (f sl g) → wpAny (model X.prog X.w) X.A (isTrue e X.env (eval e X.env)) (TP X pins σ Q) X.xe s
noncomputable def QW (e : Expr) (f : Sl → G → Res Bool) : Prop :=
  ∀ (wh : Sem Value) (pins : List (Addr × Obj)) (s : Shared) (σ : L2.St) (H : Hp) (ρ : List Addr) (sl : Sl) (g : G) (Q : Bool → Hp → Prop), Inv X pins σ H s → 0 < s.toks → RS X.K xc ρ H sl σ → RH X.K xc ρ g H →
    Post X.K xc eqB ρ H Q (fun c H' => R σ (xc c) H') (f sl g) → wpAny (model X.prog X.w) X.A (isTrue e X.env wh) (TP X pins σ Q) X.xe s
noncomputable def QA (es : List Expr) (f : Sl → G → Res (List W)) : Prop :=
  ∀ (pos : Pos) (pins : List (Addr × Obj)) (s : Shared) (σ : L2.St) (H : Hp) (ρ : List Addr) (sl : Sl) (g : G) (Q : List V → Hp → Prop), Inv X pins σ H s → 0 < s.toks → RS X.K xc ρ H sl σ → RH X.K xc ρ g H →
    Post X.K xc (RWs X.K xc) ρ H Q (fun c H' => R σ (xc c) H') (f sl g) → wpAny (model X.prog X.w) X.A (spliced (backTo pos (starEach es X.env))) (AP X pins σ Q) X.xe s
noncomputable def QS (st : Stmt) (f : Sl → G → Out) : Prop :=
  ∀ (pins : List (Addr × Obj)) (s : Shared) (σ : L2.St) (H : Hp) (ρ : List Addr) (sl : Sl) (g : G) (D : Ends), Inv X pins σ H s → 0 < s.toks → RS X.K xc ρ H sl σ → RH X.K xc ρ g H →
    PostS X.K xc ρ H D R (f sl g) → wpAny (model X.prog X.w) X.A (PySem.exec st X.env) (SP X pins D) X.xe s
noncomputable def QSs (sts : List Stmt) (f : Sl → G → Out) : Prop :=
  ∀ (pins : List (Addr × Obj)) (s : Shared) (σ : L2.St) (H : Hp) (ρ : List Addr) (sl : Sl) (g : G) (D : Ends), Inv X pins σ H s → 0 < s.toks → RS X.K xc ρ H sl σ → RH X.K xc ρ g H →
    PostS X.K xc ρ H D R (f sl g) → wpAny (model X.prog X.w) X.A (execs sts X.env) (SP X pins D) X.xe s
noncomputable def Prim2 (f : Value → Value → Sem Value) (o : W → W → G → Res W) : Prop :=
  ∀ (pins : List (Addr × Obj)) (s : Shared) (σ : L2.St) (H : Hp) (x y : V) (v u : Value) (ρ : List Addr) (a b : W) (g : G) (Q : VK) (Ex : Nat → Hp → Prop), Inv X pins σ H s → 0 < s.toks → RelV x v → RelV y u → RW X.K xc ρ H a x → RW X.K xc ρ H b y → RH X.K xc ρ g H →
    Post X.K xc (RW X.K xc) ρ H Q Ex (o a b g) → wpAny (model X.prog X.w) X.A (f v u) (EP X pins σ Q) X.xe s
noncomputable def PrimN (f : Value) (o : List W → G → Res W) : Prop :=
  ∀ (pins : List (Addr × Obj)) (s : Shared) (σ : L2.St) (H : Hp) (xs : List V) (us : List Value) (ρ : List Addr) (as : List W) (g : G) (Q : VK) (Ex : Nat → Hp → Prop), Inv X pins σ H s → 0 < s.toks → Vals xs us → RWs X.K xc ρ H as xs → RH X.K xc ρ g H →
    Post X.K xc (RW X.K xc) ρ H Q Ex (o as g) → wpAny (model X.prog X.w) X.A (call f us) (EP X pins σ Q) X.xe s
end
section
variable {X : Cx} {xc : Nat → Addr} {R : RK} {a b c : Expr} {fa fb fc : Sl → G → Res W} {pos : Pos}
theorem qe_op {op : Operator} {o : O2} (ho : Prim2 X xc (binaryOp op) (op2W o)) (ha : QE X xc R a fa) (hb : QE X xc R b fb) :
    QE X xc R (.BinOp a op b pos) (fun sl g => (fa sl g).bind fun x g1 => (fb sl g1).bind fun y g2 => op2W o x y g2) := by
  intro pins s σ H ρ sl g Q I hk hS hH hP
  refine wpAny_BinOp (thnT hk (ha pins s σ H ρ sl g _ I hk hS hH (Post.bind hP)) fun v s1 hk1 qq1 => ep_elim qq1 fun x H1 I1 r1 ρ1 w1 g1 X1 hH1 rw1 hP1 => ?_)
  refine thnT hk1 (hb pins s1 σ H1 ρ1 sl g1 _ I1 hk1 (hS.mono X1) hH1 (Post.bind hP1)) fun u s2 hk2 qq2 => ep_elim qq2 fun y H2 I2 r2 ρ2 w2 g2 X2 hH2 rw2 hP2 => ?_
  exact ho pins s2 σ H2 x y v u ρ2 w1 w2 g2 Q _ I2 hk2 r1 r2 (RW.mono X2 w1 rw1) rw2 hH2 hP2
theorem qe_cmp {op : CmpOp} {o : O2} (ho : Prim2 X xc (compareOp op) (op2W o)) (ha : QE X xc R a fa) (hb : QE X xc R b fb) (hm : behindInMarks op b = false) :
    QE X xc R (.Compare a [op] [b] pos) (fun sl g => (fa sl g).bind fun x g1 => (fb sl g1).bind fun y g2 => op2W o x y g2) := by
  intro pins s σ H ρ sl g Q I hk hS hH hP
  refine wpAny_Compare1 (thnT hk (ha pins s σ H ρ sl g _ I hk hS hH (Post.bind hP)) fun v s1 hk1 qq1 => ep_elim qq1 fun x H1 I1 r1 ρ1 w1 g1 X1 hH1 rw1 hP1 => ?_) hm
  refine thnT hk1 (hb pins s1 σ H1 ρ1 sl g1 _ I1 hk1 (hS.mono X1) hH1 (Post.bind hP1)) fun u s2 hk2 qq2 => ep_elim qq2 fun y H2 I2 r2 ρ2 w2 g2 X2 hH2 rw2 hP2 => ?_
  exact ho pins s2 σ H2 x y v u ρ2 w1 w2 g2 Q _ I2 hk2 r1 r2 (RW.mono X2 w1 rw1) rw2 hH2 hP2
theorem items_sq {ρ : List Addr} {H : Hp} {w : W} {v : V} {g : G} {ws : List W} (hH : RH X.K xc ρ g H) (r : RW X.K xc ρ H w v) (h : items g w = some ws) : ∃ a vs, v = .ref a ∧ (SqL X.K H a vs ∨ SqT X.K H a vs) ∧ RWs X.K xc ρ H ws vs := by
  cases w with
  | tup zs =>
    unfold RW at r
    obtain ⟨a, vs, e, h1, h2⟩ := r
    cases h
    exact ⟨a, vs, e, .inr (SqT.of h1), h2⟩
  | ctup zs =>
    unfold RW at r
    obtain ⟨a, vs, e, ⟨o, its, n, k1, k2, k3, k4, k5, k6⟩, h2⟩ := r
    cases h
    exact ⟨a, vs, e, .inr (.inr ⟨o, its, n, k1, k2, k4, k5, k6⟩), h2⟩
  | flst zs =>
    unfold RW at r
    obtain ⟨a, vs, e, h1, h2⟩ := r
    cases h
    exact ⟨a, vs, e, .inl (h1.imp (fun ⟨o, q⟩ => .inr ⟨o, q⟩) id), h2⟩
  | ref i =>
    unfold RW at r
    obtain ⟨a, e, h1⟩ := r
    obtain ⟨o, eo, ro⟩ := hH.isobj h1
    simp only [items, eo] at h
    cases o with
    | lst zs =>
      cases h
      obtain ⟨vs, e1, r1⟩ := ro
      exact ⟨a, vs, e, .inl (SqL.of e1), r1⟩
  | _ => cases h
theorem tru_q {pins : List (Addr × Obj)} {s : Shared} {σ : L2.St} {H : Hp} {ρ : List Addr} {w : W} {z : V} {d : Value} {g : G} {Q : Bool → Hp → Prop} {Ex : Nat → Hp → Prop} (I : Inv X pins σ H s) (r : RelV z d) (rw1 : RW X.K xc ρ H w z) (hH : RH X.K xc ρ g H)
    (hP : Post X.K xc eqB ρ H Q Ex (toB g w)) : wpAny (model X.prog X.w) X.A (truthy d) (TP X pins σ Q) X.xe s := by
  unfold toB at hP
  cases e : truW g w with
  | none => rw [e] at hP; exact hP.elim
  | some b =>
    rw [e] at hP
    have q : Q b H := hP ρ H b Ext.refl hH rfl
    refine tru_ok pins s σ H z d Q I r ⟨b, ?_, q⟩
    have seq : ∀ ws, items g w = some ws → b = !ws.isEmpty → TruV X.K z H b := fun ws hw hb => by
      obtain ⟨a, vs, rfl, hs, rs⟩ := items_sq hH rw1 hw
      have he : ws.isEmpty = vs.isEmpty := by
        have := rs.length
        cases ws <;> cases vs <;> simp_all
      rcases hs with hs | hs
      · exact .inl ⟨vs, hs, by rw [hb, he]⟩
      · exact .inr (.inl ⟨vs, hs, by rw [hb, he]⟩)
    cases w with
    | non => unfold RW at rw1; subst rw1; cases e; rfl
    | bl k => unfold RW at rw1; subst rw1; cases e; rfl
    | int i => unfold RW at rw1; subst rw1; cases e; rfl
    | str x =>
      unfold RW at rw1
      subst rw1
      have e : (if x.length ≤ sizeLine then some ((x.length : Int) != 0) else none) = some b := e
      by_cases hl : x.length ≤ sizeLine
      · rw [if_pos hl] at e; cases e; exact ⟨hl, rfl⟩
      · rw [if_neg hl] at e; cases e
    | tup ws => unfold truW at e; cases e; exact seq ws rfl rfl
    | ctup ws => unfold truW at e; cases e; exact seq ws rfl rfl
    | flst ws => unfold truW at e; cases e; exact seq ws rfl rfl
    | ref i =>
      have e : (items g (.ref i)).map (fun ws => !ws.isEmpty) = some b := e
      cases hi : items g (.ref i) with
      | none => rw [hi] at e; cases e
      | some ws => rw [hi] at e; cases e; exact seq ws hi rfl
    | exc c => cases e
theorem qt_cmp {op : CmpOp} {o : O2} (ho : Prim2 X xc (compareOp op) (op2W o)) (ha : QE X xc R a fa) (hb : QE X xc R b fb) (hm : behindInMarks op b = false) :
    QT X xc R (.Compare a [op] [b] pos) (fun sl g => ((fa sl g).bind fun x g1 => (fb sl g1).bind fun y g2 => op2W o x y g2).bind fun w g3 => toB g3 w) := by
  intro pins s σ H ρ sl g Q I hk hS hH hP
  simp only [Res.bind_assoc] at hP
  refine wpAny_isTrue_Compare1 (thnT hk (ha pins s σ H ρ sl g _ I hk hS hH (Post.bind hP)) fun v s1 hk1 qq1 => ep_elim qq1 fun x H1 I1 r1 ρ1 w1 g1 X1 hH1 rw1 hP1 => ?_) hm
  refine thnT hk1 (hb pins s1 σ H1 ρ1 sl g1 _ I1 hk1 (hS.mono X1) hH1 (Post.bind hP1)) fun u s2 hk2 qq2 => ep_elim qq2 fun y H2 I2 r2 ρ2 w2 g2 X2 hH2 rw2 hP2 => ?_
  refine thnT hk2 (ho pins s2 σ H2 x y v u ρ2 w1 w2 g2 _ _ I2 hk2 r1 r2 (RW.mono X2 w1 rw1) rw2 hH2 (Post.bind hP2)) fun d s3 hk3 qq3 => ep_elim qq3 fun z H3 I3 r3 ρ3 w3 g3 X3 hH3 rw3 hP3 => ?_
  exact tru_q I3 r3 rw3 hH3 hP3
end
end Ev
set_option Elab.async false
set_option linter.all false
set_option maxRecDepth 100000
namespace Ev
open PySem PySem.Spec PyProof.Rows L2
noncomputable abbrev evT (f : Sl → G → Res W) : Sl → G → Res Bool := fun sl g => (f sl g).bind fun w g1 => toB g1 w
section
variable {X : Cx} {xc : Nat → Addr} {R : RK} {a b c : Expr} {fa fb fc : Sl → G → Res W} {pos : Pos} {rest : List Expr}
theorem qe_var {i : Nat} {x : Str} (hN : X.N[i]? = some x) (hv : Vis X.env.scope x) (hd : (x == ("__debug__" : Str)) = false) (hcd : (x == ("__classdict__" : Str)) = false) :
    QE X xc R (.Name x pos) (fun sl g => match sl[i]? with | some (some w) => .ok w g | _ => .stuck) := by
  intro pins s σ H ρ sl g Q I hk hS hH hP
  cases e : sl[i]? with
  | none => simp only [e] at hP; exact hP.elim
  | some o =>
    cases o with
    | none => simp only [e] at hP; exact hP.elim
    | some w =>
      simp only [e] at hP
      obtain ⟨v, ev, rw1⟩ := hS.2 i w e
      exact pe_var hN hv hd hcd pins s σ H Q I ⟨v, ev, hP ρ H v Ext.refl hH rw1⟩
theorem qe_cst {e : Expr} {w : W} {v : V} (h : PE X e (tC v)) (r : ∀ ρ H, RW X.K xc ρ H w v) : QE X xc R e (fun _ g => .ok w g) := by
  intro pins s σ H ρ sl g Q I hk hS hH hP
  exact h pins s σ H Q I (hP ρ H v Ext.refl hH (r ρ H))
theorem qt_plain (ha : QE X xc R a fa) (he : ∀ whole, isTrue a X.env whole = (do let v ← whole; standAt a.pos; holding [v] (truthy v))) : QT X xc R a (evT fa) := by
  intro pins s σ H ρ sl g Q I hk hS hH hP
  exact isTrue_plain (thnT hk (ha pins s σ H ρ sl g _ I hk hS hH (Post.bind hP)) fun v s1 hk1 qq1 => ep_elim qq1 fun x H1 I1 r1 ρ1 w1 g1 X1 hH1 rw1 hP1 => tru_q I1 r1 rw1 hH1 hP1) (he _)
theorem qe_not (ha : QE X xc R a fa) : QE X xc R (.UnaryOp .Not a pos) (fun sl g => (fa sl g).bind fun x g1 => (toB g1 x).bind fun k g2 => .ok (.bl (!k)) g2) := by
  intro pins s σ H ρ sl g Q I hk hS hH hP
  refine UnaryOp_ (thnT hk (ha pins s σ H ρ sl g _ I hk hS hH (Post.bind hP)) fun v s1 hk1 qq1 => ep_elim qq1 fun x H1 I1 r1 ρ1 w1 g1 X1 hH1 rw1 hP1 => ?_)
  refine not_of (thnT hk1 (tru_q (Q := fun k H2 => Q (.bl (!k)) H2) I1 r1 rw1 hH1 (Post.imp (Post.bind (rel := eqB) hP1) (fun k H2 qq9 => ?_) fun _ _ z => z)) fun k s2 _ ⟨H2, I2, q⟩ => ⟨.bl (!k), H2, I2, rfl, q⟩)
  obtain ⟨ρ2, k2, g2, X2, hH2, e2, hP2⟩ := qq9
  cases e2
  exact hP2 ρ2 H2 _ Ext.refl hH2 (by unfold RW; rfl)
theorem qt_not (ha : QT X xc R a (evT fa)) : QT X xc R (.UnaryOp .Not a pos) (evT fun sl g => (fa sl g).bind fun x g1 => (toB g1 x).bind fun k g2 => .ok (.bl (!k)) g2) := by
  intro pins s σ H ρ sl g Q I hk hS hH hP
  refine isTrue_not (ha pins s σ H ρ sl g (fun c H1 => Q (!c) H1) I hk hS hH ?_)
  revert hP
  simp only [evT, Res.bind_assoc]
  cases fa sl g with
  | ok w g1 =>
    simp only [Res.bind]
    unfold toB
    cases truW g1 w with
    | none => exact fun h => h
    | some k =>
      intro h ρ' H' k' x y z
      cases z
      exact h ρ' H' (!k) x y rfl
  | exc c g1 => exact fun h => h
  | stuck => exact fun h => h
theorem qe_one {op : BoolOp} (h : QE X xc R a fa) : QE X xc R (.BoolOp op [a] pos) fa := fun pins s σ H ρ sl g Q I hk hS hH hP => BoolOp_one (h pins s σ H ρ sl g Q I hk hS hH hP)
noncomputable def andF (fa fb : Sl → G → Res W) : Sl → G → Res W := fun sl g => (fa sl g).bind fun x g1 => match x with
  | .bl true => fb sl g1
  | .bl false => .ok (.bl false) g1
  | _ => .stuck
noncomputable def orF (fa fb : Sl → G → Res W) : Sl → G → Res W := fun sl g => (fa sl g).bind fun x g1 => match x with
  | .bl true => .ok (.bl true) g1
  | .bl false => fb sl g1
  | _ => .stuck
theorem qe_and (ha : QE X xc R a fa) (hb : QE X xc R (.BoolOp .And (b :: rest) pos) fb) : QE X xc R (.BoolOp .And (a :: b :: rest) pos) (andF fa fb) := by
  intro pins s σ H ρ sl g Q I hk hS hH hP
  refine BoolOp_and (thnT hk (ha pins s σ H ρ sl g _ I hk hS hH (Post.bind hP)) fun v s1 hk1 qq1 => ep_elim qq1 fun x H1 I1 r1 ρ1 w1 g1 X1 hH1 rw1 hP1 => ?_)
  cases w1 with
  | bl k =>
    unfold RW at rw1
    subst rw1
    cases r1
    refine wpAny_truthy_bool ?_
    cases k with
    | true => exact hb pins s1 σ H1 ρ1 sl g1 Q I1 hk1 (hS.mono X1) hH1 hP1
    | false => exact ⟨.bl false, H1, I1, rfl, hP1 ρ1 H1 _ Ext.refl hH1 (by unfold RW; rfl)⟩
  | _ => exact hP1.elim
theorem qe_or (ha : QE X xc R a fa) (hb : QE X xc R (.BoolOp .Or (b :: rest) pos) fb) : QE X xc R (.BoolOp .Or (a :: b :: rest) pos) (orF fa fb) := by
  intro pins s σ H ρ sl g Q I hk hS hH hP
  refine BoolOp_or (thnT hk (ha pins s σ H ρ sl g _ I hk hS hH (Post.bind hP)) fun v s1 hk1 qq1 => ep_elim qq1 fun x H1 I1 r1 ρ1 w1 g1 X1 hH1 rw1 hP1 => ?_)
  cases w1 with
  | bl k =>
    unfold RW at rw1
    subst rw1
    cases r1
    refine wpAny_truthy_bool ?_
    cases k with
    | false => exact hb pins s1 σ H1 ρ1 sl g1 Q I1 hk1 (hS.mono X1) hH1 hP1
    | true => exact ⟨.bl true, H1, I1, rfl, hP1 ρ1 H1 _ Ext.refl hH1 (by unfold RW; rfl)⟩
  | _ => exact hP1.elim
theorem qw_one {op : BoolOp} (h : QT X xc R a (evT fa)) : QW X xc R (.BoolOp op [a] pos) (evT fa) := by
  intro wh pins s σ H ρ sl g Q I hk hS hH hP
  cases op with
  | And =>
    refine isTrue_and (thnT hk (h pins s σ H ρ sl g Q I hk hS hH hP) fun c s1 _ e => ?_)
    cases c with
    | true => exact isTrue_and_nil e
    | false => exact e
  | Or =>
    refine isTrue_or (thnT hk (h pins s σ H ρ sl g Q I hk hS hH hP) fun c s1 _ e => ?_)
    cases c with
    | false => exact isTrue_or_nil e
    | true => exact e
theorem qw_and (ha : QT X xc R a (evT fa)) (hb : QW X xc R (.BoolOp .And (b :: rest) pos) (evT fb)) : QW X xc R (.BoolOp .And (a :: b :: rest) pos) (evT (andF fa fb)) := by
  intro wh pins s σ H ρ sl g Q I hk hS hH hP
  have hP' : Post X.K xc eqB ρ H (fun k H1 => ∃ ρ1 g1, Ext ρ H ρ1 H1 ∧ RH X.K xc ρ1 g1 H1 ∧ if k = true then Post X.K xc eqB ρ1 H1 Q (fun c H' => R σ (xc c) H') (evT fb sl g1) else Q false H1) (fun c H' => R σ (xc c) H') (evT fa sl g) := by
    revert hP
    simp only [evT, andF, Res.bind_assoc]
    cases fa sl g with
    | ok w g1 =>
      simp only [Res.bind]
      cases w with
      | bl k =>
        cases k with
        | true =>
          intro h ρ' H' k' x y z
          cases z
          exact ⟨ρ', g1, x, y, Post.later x h⟩
        | false =>
          intro h ρ' H' k' x y z
          cases z
          exact ⟨ρ', g1, x, y, h ρ' H' false x y rfl⟩
      | _ => exact fun h => h.elim
    | exc c g1 => exact fun h => h
    | stuck => exact fun h => h
  refine isTrue_and (thnT hk (ha pins s σ H ρ sl g _ I hk hS hH hP') fun c s1 hk1 qq9 => ?_)
  obtain ⟨H1, I1, ρ1, g1, X1, hH1, q⟩ := qq9
  cases c with
  | true => exact hb wh pins s1 σ H1 ρ1 sl g1 Q I1 hk1 (hS.mono X1) hH1 q
  | false => exact ⟨H1, I1, q⟩
theorem qw_or (ha : QT X xc R a (evT fa)) (hb : QW X xc R (.BoolOp .Or (b :: rest) pos) (evT fb)) : QW X xc R (.BoolOp .Or (a :: b :: rest) pos) (evT (orF fa fb)) := by
  intro wh pins s σ H ρ sl g Q I hk hS hH hP
  have hP' : Post X.K xc eqB ρ H (fun k H1 => ∃ ρ1 g1, Ext ρ H ρ1 H1 ∧ RH X.K xc ρ1 g1 H1 ∧ if k = true then Q true H1 else Post X.K xc eqB ρ1 H1 Q (fun c H' => R σ (xc c) H') (evT fb sl g1)) (fun c H' => R σ (xc c) H') (evT fa sl g) := by
    revert hP
    simp only [evT, orF, Res.bind_assoc]
    cases fa sl g with
    | ok w g1 =>
      simp only [Res.bind]
      cases w with
      | bl k =>
        cases k with
        | true =>
          intro h ρ' H' k' x y z
          cases z
          exact ⟨ρ', g1, x, y, h ρ' H' true x y rfl⟩
        | false =>
          intro h ρ' H' k' x y z
          cases z
          exact ⟨ρ', g1, x, y, Post.later x h⟩
      | _ => exact fun h => h.elim
    | exc c g1 => exact fun h => h
    | stuck => exact fun h => h
  refine isTrue_or (thnT hk (ha pins s σ H ρ sl g _ I hk hS hH hP') fun c s1 hk1 qq9 => ?_)
  obtain ⟨H1, I1, ρ1, g1, X1, hH1, q⟩ := qq9
  cases c with
  | true => exact ⟨H1, I1, q⟩
  | false => exact hb wh pins s1 σ H1 ρ1 sl g1 Q I1 hk1 (hS.mono X1) hH1 q
theorem qe_ite (hc : QT X xc R c (evT fc)) (ha : QE X xc R a fa) (hb : QE X xc R b fb) :
    QE X xc R (.IfExp c a b pos) (fun sl g => (fc sl g).bind fun x g1 => (toB g1 x).bind fun k g2 => if k then fa sl g2 else fb sl g2) := by
  intro pins s σ H ρ sl g Q I hk hS hH hP
  have hP' : Post X.K xc (RW X.K xc) ρ H Q (fun c H' => R σ (xc c) H') ((evT fc sl g).bind fun k g2 => if k then fa sl g2 else fb sl g2) := by
    simp only [evT, Res.bind_assoc]
    exact hP
  refine wpAny_IfExp (thnT hk (hc pins s σ H ρ sl g _ I hk hS hH (Post.bind hP')) fun d s1 hk1 qq9 => ?_)
  obtain ⟨H1, I1, ρ1, d1, g1, X1, hH1, e1, hP1⟩ := qq9
  cases e1
  cases d with
  | true => exact ha pins s1 σ H1 ρ1 sl g1 Q I1 hk1 (hS.mono X1) hH1 hP1
  | false => exact hb pins s1 σ H1 ρ1 sl g1 Q I1 hk1 (hS.mono X1) hH1 hP1
theorem qe_neg (ha : QE X xc R a fa) : QE X xc R (.UnaryOp .USub a pos) (fun sl g => (fa sl g).bind negW) := by
  intro pins s σ H ρ sl g Q I hk hS hH hP
  refine UnaryOp_ (thnT hk (ha pins s σ H ρ sl g _ I hk hS hH (Post.bind hP)) fun v s1 hk1 qq1 => ep_elim qq1 fun x H1 I1 r1 ρ1 w1 g1 X1 hH1 rw1 hP1 => ?_)
  cases w1 with
  | int i =>
    unfold RW at rw1
    subst rw1
    exact un_neg pins s1 σ H1 (.int i) v Q I1 r1 ⟨i, rfl, hP1 ρ1 H1 _ Ext.refl hH1 (by unfold RW; rfl)⟩
  | _ => exact hP1.elim
theorem qa_nil : QA X xc R [] (fun _ g => .ok [] g) := fun _ _ _ _ H ρ _ _ Q I _ _ hH hP => Calls.spliced_nil ⟨[], H, I, .nil, hP ρ H [] Ext.refl hH RWs.nil⟩
variable {es : List Expr} {fs : Sl → G → Res (List W)}
theorem qa_cons (ha : QE X xc R a fa) (hr : QA X xc R es fs) (hs : starEach (a :: es) X.env = (false, eval a X.env) :: starEach es X.env) :
    QA X xc R (a :: es) (fun sl g => (fa sl g).bind fun x g1 => (fs sl g1).bind fun xs g2 => .ok (x :: xs) g2) := by
  intro pos pins s σ H ρ sl g Q I hk hS hH hP
  rw [hs]
  show wpAny _ _ (spliced ((false, eval a X.env) :: backTo pos (starEach es X.env))) _ _ s
  refine Calls.spliced_cons (thnT hk (ha pins s σ H ρ sl g _ I hk hS hH (Post.bind hP)) fun u s1 hk1 qq1 => ep_elim qq1 fun x H1 I1 r1 ρ1 w1 g1 X1 hH1 rw1 hP1 => ?_)
  refine thnT hk1 (hr pos pins s1 σ H1 ρ1 sl g1 _ I1 hk1 (hS.mono X1) hH1 (Post.bind hP1)) fun us s2 hk2 qq2 => ap_elim qq2 fun xs H2 I2 r2 ρ2 ws g2 X2 hH2 rw2 hP2 => ?_
  exact ⟨x :: xs, H2, I2, .cons r1 r2, hP2 ρ2 H2 _ Ext.refl hH2 (RWs.cons (RW.mono X2 w1 rw1) rw2)⟩
theorem qe_tup {k : Nat} (h : QA X xc R es fs) : QE X xc R (.Tuple es k pos) (fun sl g => (fs sl g).bind fun ws g1 => if ws.length ≤ sizeLine then .ok (.tup ws) g1 else .stuck) := by
  intro pins s σ H ρ sl g Q I hk hS hH hP
  refine wpAny_Tuple_spliced (thnT hk (h pos pins s σ H ρ sl g _ I hk hS hH (Post.bind hP)) fun us s1 hk1 qq1 => ap_elim qq1 fun xs H1 I1 r ρ1 ws g1 X1 hH1 rw1 hP1 => ?_)
  by_cases hz : ws.length ≤ sizeLine
  · rw [if_pos hz] at hP1
    have z : xs.length ≤ sizeLine := by rw [rw1.length]; exact hz
    refine ⟨by rw [← r.length]; exact z, ?_⟩
    have hf : H1 s1.heap.objs.size = none := I1.hok.fresh (Nat.le_refl _)
    have x2 : Ext ρ1 H1 ρ1 (upd H1 s1.heap.objs.size (.tup xs)) := Ext.laid hf
    refine ⟨.ref s1.heap.objs.size, upd H1 s1.heap.objs.size (.tup xs), I1.laid (t' := s1.toks) (fun b u e => Heap.get?_push_of_some _ e) (Nat.le_refl _) ?_, rfl, hP1 ρ1 _ _ x2 (hH1.laid hf) ?_⟩
    · exact ⟨z, us, r, ⟨_, Heap.get?_push_size _ rfl, rfl, _, rfl⟩⟩
    · unfold RW
      exact ⟨_, xs, rfl, upd_same, RWs.mono x2 ws rw1⟩
  · rw [if_neg hz] at hP1
    exact hP1.elim
theorem qe_lst (h : QA X xc R es fs) : QE X xc R (.List es pos) (fun sl g => (fs sl g).bind fun ws g1 => if ws.length ≤ sizeLine then .ok (.ref g1.length) (g1 ++ [.lst ws]) else .stuck) := by
  intro pins s σ H ρ sl g Q I hk hS hH hP
  refine wpAny_List_spliced (thnT hk (h pos pins s σ H ρ sl g _ I hk hS hH (Post.bind hP)) fun us s1 hk1 qq1 => ap_elim qq1 fun xs H1 I1 r ρ1 ws g1 X1 hH1 rw1 hP1 => ?_)
  by_cases hz : ws.length ≤ sizeLine
  · rw [if_pos hz] at hP1
    have z : xs.length ≤ sizeLine := by rw [rw1.length]; exact hz
    refine ⟨by rw [← r.length]; exact z, ?_⟩
    have hf : H1 s1.heap.objs.size = none := I1.hok.fresh (Nat.le_refl _)
    obtain ⟨hH2, x2⟩ := hH1.newL hf rw1
    refine ⟨.ref s1.heap.objs.size, upd H1 s1.heap.objs.size (.lst xs), I1.laid (t' := s1.toks) (fun b u e => Heap.get?_push_of_some _ e) (Nat.le_refl _) ?_, rfl, hP1 _ _ _ x2 hH2 ?_⟩
    · exact ⟨z, us, 0, r, Heap.get?_push_size _ rfl⟩
    · unfold RW
      exact ⟨_, rfl, by rw [← hH1.len]; simp⟩
  · rw [if_neg hz] at hP1
    exact hP1.elim
theorem RWs.at {K : PySem.W.Frag} {ρ : List Addr} {H : Hp} {ws : List W} {vs : List V} {i : Int} {w : W} (h : RWs K xc ρ H ws vs) (e : atI ws i = some w) : ∃ v, atI vs i = some v ∧ RW K xc ρ H w v := by
  unfold atI at e ⊢
  rw [h.length]
  cases hj : ixN ws.length i with
  | none => rw [hj] at e; cases e
  | some j =>
    rw [hj] at e
    exact h.get e
theorem qe_ix (ha : QE X xc R a fa) (hb : QE X xc R b fb) (hs : PlainIx b) : QE X xc R (.Subscript a b pos) (fun sl g => (fa sl g).bind fun x g1 => (fb sl g1).bind fun y g2 => Res.of (ixW g2 x y) g2) := by
  intro pins s σ H ρ sl g Q I hk hS hH hP
  refine Subscript_ (thnT hk (ha pins s σ H ρ sl g _ I hk hS hH (Post.bind hP)) fun v s1 hk1 qq1 => ep_elim qq1 fun x H1 I1 r1 ρ1 w1 g1 X1 hH1 rw1 hP1 => ?_)
  refine thnT hk1 (hb pins s1 σ H1 ρ1 sl g1 _ I1 hk1 (hS.mono X1) hH1 (Post.bind hP1)) fun u s2 hk2 qq2 => ep_elim qq2 fun y H2 I2 r2 ρ2 w2 g2 X2 hH2 rw2 hP2 => ?_
  have rw1 := RW.mono X2 w1 rw1
  refine ix_seq a b pins s2 σ H2 x y v u Q I2 r1 r2 ?_ (hs _ _)
  unfold Res.of at hP2
  cases e : ixW g2 w1 w2 with
  | none => rw [e] at hP2; exact hP2.elim
  | some w =>
    rw [e] at hP2
    cases w2 with
    | int i =>
      unfold RW at rw2
      subst rw2
      have seq : ∀ ws, items g2 w1 = some ws → atI ws i = some w → rIx X.K x (.int i) H2 Q := fun ws hw hi => by
        obtain ⟨p, vs, rfl, hs, rs⟩ := items_sq hH2 rw1 hw
        obtain ⟨v', hv', rv'⟩ := rs.at hi
        rcases hs with hs | hs
        · exact .inl ⟨p, vs, i, v', rfl, rfl, hs, hv', hP2 ρ2 H2 _ Ext.refl hH2 rv'⟩
        · exact .inr (.inl ⟨p, vs, i, v', rfl, rfl, hs, hv', hP2 ρ2 H2 _ Ext.refl hH2 rv'⟩)
      have gen : (items g2 w1).bind (fun ws => atI ws i) = some w → rIx X.K x (.int i) H2 Q := fun e => by
        cases hi : items g2 w1 with
        | none => rw [hi] at e; cases e
        | some ws => rw [hi] at e; exact seq ws hi e
      cases w1 with
      | str z =>
        unfold RW at rw1
        subst rw1
        have e : (if z.length ≤ sizeLine then (atI z.cps.toList i).map (fun c => W.str ⟨#[c]⟩) else none) = some w := e
        by_cases hz : z.length ≤ sizeLine
        · rw [if_pos hz] at e
          cases hc : atI z.cps.toList i with
          | none => rw [hc] at e; cases e
          | some c =>
            rw [hc] at e
            cases e
            exact .inr (.inr ⟨z, i, c, rfl, rfl, hz, hc, hP2 ρ2 H2 _ Ext.refl hH2 (by unfold RW; rfl)⟩)
        · rw [if_neg hz] at e; cases e
      | non => exact gen e
      | bl _ => exact gen e
      | int _ => exact gen e
      | tup _ => exact gen e
      | ctup _ => exact gen e
      | flst _ => exact gen e
      | ref _ => exact gen e
      | exc _ => exact gen e
    | _ => cases e
end
end Ev
set_option Elab.async false
set_option linter.all false
set_option maxRecDepth 100000
namespace Ev
open PySem PySem.Spec PyProof.Rows PySem.SeqAt L2
section
variable {X : Cx} {xc : Nat → Addr} {ρ : List Addr} {H : Hp} {g : G}
theorem toD_ok (hH : RH X.K xc ρ g H) : ∀ (n : Nat) (w : W) {v : V} {d : PyData}, RW X.K xc ρ H w v → toD g n w = some d → DV X.K H d v := by
  intro n
  induction n with
  | zero => intro w v d _ e; cases e
  | succ n ih =>
    have all : ∀ (ws : List W) {vs : List V} {ds : List PyData}, RWs X.K xc ρ H ws vs → allO (toD g n) ws = some ds → DVs X.K H ds vs := by
      intro ws
      induction ws with
      | nil =>
        intro vs ds r e
        cases e
        unfold RWs at r
        subst r
        unfold DVs
        rfl
      | cons w ws ihw =>
        intro vs ds r e
        unfold RWs at r
        obtain ⟨v, vr, rfl, r1, r2⟩ := r
        unfold allO at e
        cases hd : toD g n w with
        | none => rw [hd] at e; cases e
        | some d =>
          rw [hd] at e
          cases hs : allO (toD g n) ws with
          | none => rw [hs] at e; cases e
          | some ds' =>
            rw [hs] at e
            cases e
            unfold DVs
            exact ⟨v, vr, rfl, ih w r1 hd, ihw r2 hs⟩
    intro w v d r e
    cases w with
    | non => cases e; unfold RW at r; unfold DV; exact r
    | bl b => cases e; unfold RW at r; unfold DV; exact r
    | int i => cases e; unfold RW at r; unfold DV; exact r
    | str x => cases e; unfold RW at r; unfold DV; exact r
    | tup ws =>
      have e : (allO (toD g n) ws).map PyData.tuple = some d := e
      unfold RW at r
      obtain ⟨a, vs, rfl, h1, h2⟩ := r
      cases hs : allO (toD g n) ws with
      | none => rw [hs] at e; cases e
      | some ds =>
        rw [hs] at e
        cases e
        unfold DV
        exact ⟨a, vs, rfl, SqT.of h1, all ws h2 hs⟩
    | ref i =>
      unfold RW at r
      obtain ⟨a, rfl, h1⟩ := r
      obtain ⟨o, eo, ro⟩ := hH.isobj h1
      cases o with
      | lst ws =>
        have e : (match g[i]? with | some (.lst ws) => (allO (toD g n) ws).map PyData.list | none => none) = some d := e
        rw [eo] at e
        have e : (allO (toD g n) ws).map PyData.list = some d := e
        obtain ⟨vs, e1, r1⟩ := ro
        cases hs : allO (toD g n) ws with
        | none => rw [hs] at e; cases e
        | some ds =>
          rw [hs] at e
          cases e
          unfold DV
          exact ⟨a, vs, rfl, e1, all ws r1 hs⟩
    | ctup ws =>
      have e : (allO (toD g n) ws).map PyData.tuple = some d := e
      unfold RW at r
      obtain ⟨a, vs, rfl, ⟨o, its, k, k1, k2, k3, k4, k5, k6⟩, h2⟩ := r
      cases hs : allO (toD g n) ws with
      | none => rw [hs] at e; cases e
      | some ds =>
        rw [hs] at e
        cases e
        unfold DV
        exact ⟨a, vs, rfl, .inr ⟨o, its, k, k1, k2, k4, k5, k6⟩, all ws h2 hs⟩
    | flst ws => cases e
    | exc c => cases e
theorem flat_ok {w : W} {v : V} (r : RW X.K xc ρ H w v) (f : flatW w = true) : flatV v = true := by
  cases w with
  | non => unfold RW at r; subst r; rfl
  | bl b => unfold RW at r; subst r; rfl
  | int i => unfold RW at r; subst r; rfl
  | str x => unfold RW at r; subst r; rfl
  | _ => cases f
theorem eqF_ok {a b : W} {x y : V} (ra : RW X.K xc ρ H a x) (rb : RW X.K xc ρ H b y) (fa : flatW a = true) (fb : flatW b = true) : eqV x y = eqF a b := by
  cases a with
  | non => unfold RW at ra; subst ra; cases b <;> first | (unfold RW at rb; subst rb; rfl) | cases fb
  | bl k => unfold RW at ra; subst ra; cases b <;> first | (unfold RW at rb; subst rb; rfl) | cases fb
  | int i => unfold RW at ra; subst ra; cases b <;> first | (unfold RW at rb; subst rb; rfl) | cases fb
  | str z => unfold RW at ra; subst ra; cases b <;> first | (unfold RW at rb; subst rb; rfl) | cases fb
  | _ => cases fa
theorem flats_ok {w : W} {x : V} (rw1 : RW X.K xc ρ H w x) (fw : flatW w = true) : ∀ {ws : List W} {vs : List V}, RWs X.K xc ρ H ws vs → ws.all flatW = true → vs.all flatV = true ∧ (vs.any fun y => eqV y x) = ws.any fun y => eqF y w
  | [], _, r, _ => by unfold RWs at r; subst r; exact ⟨rfl, rfl⟩
  | y :: ws, _, r, f => by
    unfold RWs at r
    obtain ⟨v, vr, rfl, r1, r2⟩ := r
    rw [List.all_cons, Bool.and_eq_true] at f
    obtain ⟨h1, h2⟩ := flats_ok rw1 fw r2 f.2
    refine ⟨by rw [List.all_cons, flat_ok r1 f.1, h1]; rfl, ?_⟩
    rw [List.any_cons, List.any_cons, h2, eqF_ok r1 rw1 f.1 fw]
end
section
variable {X : Cx} {xc : Nat → Addr}
theorem rw_int {K : PySem.W.Frag} {ρ : List Addr} {H : Hp} {i : Int} : RW K xc ρ H (.int i) (.int i) := by unfold RW; rfl
theorem rw_bl {K : PySem.W.Frag} {ρ : List Addr} {H : Hp} {i : Bool} : RW K xc ρ H (.bl i) (.bl i) := by unfold RW; rfl
theorem rw_str {K : PySem.W.Frag} {ρ : List Addr} {H : Hp} {i : Str} : RW K xc ρ H (.str i) (.str i) := by unfold RW; rfl
theorem rw_non {K : PySem.W.Frag} {ρ : List Addr} {H : Hp} : RW K xc ρ H .non .non := by unfold RW; rfl
theorem p_add : Prim2 X xc (binaryOp .Add) (op2W .add) := by
  intro pins s σ H x y v u ρ a b g Q Ex I hk r1 r2 ra rb hH hP
  cases a with
  | int i =>
    cases b with
    | int j =>
      unfold RW at ra rb
      subst ra rb
      exact op_add pins s σ H _ _ v u Q I r1 r2 ⟨i, j, rfl, rfl, hP ρ H _ Ext.refl hH rw_int⟩
    | _ => exact hP.elim
  | ref i =>
    cases b with
    | ref j =>
      unfold RW at ra rb
      obtain ⟨p, rfl, h1⟩ := ra
      obtain ⟨q, rfl, h2⟩ := rb
      obtain ⟨o1, e1, k1⟩ := hH.isobj h1
      obtain ⟨o2, e2, k2⟩ := hH.isobj h2
      cases o1 with
      | lst xs =>
        cases o2 with
        | lst ys =>
          have hP : Post X.K xc (RW X.K xc) ρ H Q Ex (match g[i]?, g[j]? with
            | some (.lst xs), some (.lst ys) => if xs.length + ys.length ≤ sizeLine then .ok (.ref g.length) (g ++ [.lst (xs ++ ys)]) else .stuck
            | _, _ => .stuck) := hP
          rw [e1, e2] at hP
          have hP : Post X.K xc (RW X.K xc) ρ H Q Ex (if xs.length + ys.length ≤ sizeLine then .ok (.ref g.length) (g ++ [.lst (xs ++ ys)]) else .stuck) := hP
          by_cases hz : xs.length + ys.length ≤ sizeLine
          · rw [if_pos hz] at hP
            obtain ⟨vs, f1, s1⟩ := k1
            obtain ⟨us, f2, s2⟩ := k2
            refine op_cat pins s σ H _ _ v u Q I r1 r2 ⟨p, q, vs, us, rfl, rfl, f1, f2, by rw [s1.length, s2.length]; exact hz, fun p' hp => ?_⟩
            obtain ⟨hH2, x2⟩ := hH.newL hp (s1.append s2)
            refine hP _ _ _ x2 hH2 ?_
            unfold RW
            exact ⟨_, rfl, by rw [← hH.len]; simp⟩
          · rw [if_neg hz] at hP; exact hP.elim
    | _ => exact hP.elim
  | _ => exact hP.elim
theorem p_sub : Prim2 X xc (binaryOp .Sub) (op2W .sub) := by
  intro pins s σ H x y v u ρ a b g Q Ex I hk r1 r2 ra rb hH hP
  cases a with
  | int i =>
    cases b with
    | int j =>
      unfold RW at ra rb
      subst ra rb
      exact op_sub pins s σ H _ _ v u Q I r1 r2 ⟨i, j, rfl, rfl, hP ρ H _ Ext.refl hH rw_int⟩
    | _ => exact hP.elim
  | _ => exact hP.elim
theorem p_ints {f : Value → Value → Sem Value} {o : O2} {C : Int → Int → Prop} {h : Int → Int → Int} (D : Int → Int → Prop) [∀ i j, Decidable (D i j)] (ho : OpR X f (rI C fun i j => .int (h i j))) (hD : ∀ i j, D i j → C i j)
    (e1 : ∀ i j g, op2W o (.int i) (.int j) g = if D i j then .ok (.int (h i j)) g else .stuck) (e2 : ∀ a b g, (∀ i j, a = .int i → b = .int j → False) → op2W o a b g = .stuck) : Prim2 X xc f (op2W o) := by
  intro pins s σ H x y v u ρ a b g Q Ex I hk r1 r2 ra rb hH hP
  by_cases hab : ∃ i j, a = .int i ∧ b = .int j
  · obtain ⟨i, j, rfl, rfl⟩ := hab
    rw [e1] at hP
    unfold RW at ra rb
    subst ra rb
    by_cases hd : D i j
    · rw [if_pos hd] at hP
      exact ho pins s σ H _ _ v u Q I r1 r2 ⟨i, j, rfl, rfl, hD i j hd, hP ρ H _ Ext.refl hH rw_int⟩
    · rw [if_neg hd] at hP; exact hP.elim
  · rw [e2 a b g fun i j h1 h2 => hab ⟨i, j, h1, h2⟩] at hP
    exact hP.elim
theorem no_ints {o : O2} (ho : o = .mul ∨ o = .fdiv ∨ o = .mod ∨ o = .pow ∨ o = .lt ∨ o = .le ∨ o = .gt ∨ o = .ge) (a b : W) (g : G) (h : ∀ i j, a = .int i → b = .int j → False) : op2W o a b g = .stuck := by
  cases a with
  | int i =>
    cases b with
    | int j => exact (h _ _ rfl rfl).elim
    | _ => rcases ho with rfl | rfl | rfl | rfl | rfl | rfl | rfl | rfl <;> rfl
  | _ => rcases ho with rfl | rfl | rfl | rfl | rfl | rfl | rfl | rfl <;> rfl
theorem p_mul : Prim2 X xc (binaryOp .Mult) (op2W .mul) := p_ints (fun i j => (-big < i ∧ i < big) ∨ (-big < j ∧ j < big)) op_mul (fun _ _ h => h) (fun _ _ _ => rfl) (no_ints (by simp))
theorem p_fdiv : Prim2 X xc (binaryOp .FloorDiv) (op2W .fdiv) := p_ints (fun _ j => 0 < j ∧ j < 1073741824) op_fdiv (fun _ _ h => h) (fun _ _ _ => rfl) (no_ints (by simp))
theorem p_mod : Prim2 X xc (binaryOp .Mod) (op2W .mod) := p_ints (fun _ j => 0 < j) op_mod (fun _ _ h => h) (fun _ _ _ => rfl) (no_ints (by simp))
theorem p_pow : Prim2 X xc (binaryOp .Pow) (op2W .pow) := p_ints (fun i j => 0 ≤ j ∧ j ≤ 1000000 ∧ i.natAbs < 18446744073709551616) op_pow (fun _ _ h => h) (fun _ _ _ => rfl) (no_ints (by simp))
theorem p_cmpI {f : Value → Value → Sem Value} {o : O2} {h : Int → Int → Bool} (ho : OpR X f (rI0 fun i j => .bl (h i j))) (e1 : ∀ i j g, op2W o (.int i) (.int j) g = .ok (.bl (h i j)) g)
    (e2 : ∀ a b g, (∀ i j, a = .int i → b = .int j → False) → op2W o a b g = .stuck) : Prim2 X xc f (op2W o) := by
  intro pins s σ H x y v u ρ a b g Q Ex I hk r1 r2 ra rb hH hP
  by_cases hab : ∃ i j, a = .int i ∧ b = .int j
  · obtain ⟨i, j, rfl, rfl⟩ := hab
    rw [e1] at hP
    unfold RW at ra rb
    subst ra rb
    exact ho pins s σ H _ _ v u Q I r1 r2 ⟨i, j, rfl, rfl, hP ρ H _ Ext.refl hH rw_bl⟩
  · rw [e2 a b g fun i j h1 h2 => hab ⟨i, j, h1, h2⟩] at hP
    exact hP.elim
theorem p_lt : Prim2 X xc (compareOp .Lt) (op2W .lt) := p_cmpI op_lt (fun _ _ _ => rfl) (no_ints (by simp))
theorem p_le : Prim2 X xc (compareOp .LtE) (op2W .le) := p_cmpI op_le (fun _ _ _ => rfl) (no_ints (by simp))
theorem p_gt : Prim2 X xc (compareOp .Gt) (op2W .gt) := p_cmpI op_gt (fun _ _ _ => rfl) (no_ints (by simp))
theorem p_ge : Prim2 X xc (compareOp .GtE) (op2W .ge) := p_cmpI op_ge (fun _ _ _ => rfl) (no_ints (by simp))
theorem eqW_ok (g : G) (a b : W) (k : Bool) (h : eqW g a b = some k) : (∃ i j, a = .int i ∧ b = .int j ∧ k = decide (i = j)) ∨ (∃ i j, a = .str i ∧ b = .str j ∧ k = decide (i = j)) ∨ (∃ i j, a = .bl i ∧ b = .bl j ∧ k = decide (i = j)) ∨
    ∃ da db, toD g 60 a = some da ∧ toD g 60 b = some db ∧ shaped da = true ∧ shaped db = true ∧ k = PyData.eqv da db := by
  have gen : (match toD g 60 a, toD g 60 b with
    | some da, some db => if shaped da && shaped db then some (PyData.eqv da db) else none
    | _, _ => none) = some k → ∃ da db, toD g 60 a = some da ∧ toD g 60 b = some db ∧ shaped da = true ∧ shaped db = true ∧ k = PyData.eqv da db := fun h => by
    cases h1 : toD g 60 a with
    | none => rw [h1] at h; cases h
    | some da =>
      cases h2 : toD g 60 b with
      | none => rw [h1, h2] at h; cases h
      | some db =>
        rw [h1, h2] at h
        have h : (if shaped da && shaped db then some (PyData.eqv da db) else none) = some k := h
        by_cases hs : (shaped da && shaped db) = true
        · rw [if_pos hs] at h
          cases h
          rw [Bool.and_eq_true] at hs
          exact ⟨da, db, rfl, rfl, hs.1, hs.2, rfl⟩
        · rw [if_neg hs] at h; cases h
  cases a with
  | int i =>
    cases b with
    | int j => cases h; exact .inl ⟨i, j, rfl, rfl, rfl⟩
    | _ => exact .inr (.inr (.inr (gen h)))
  | str i =>
    cases b with
    | str j => cases h; exact .inr (.inl ⟨i, j, rfl, rfl, rfl⟩)
    | _ => exact .inr (.inr (.inr (gen h)))
  | bl i =>
    cases b with
    | bl j => cases h; exact .inr (.inr (.inl ⟨i, j, rfl, rfl, rfl⟩))
    | _ => exact .inr (.inr (.inr (gen h)))
  | _ => exact .inr (.inr (.inr (gen h)))
theorem of_map {K : PySem.W.Frag} {ρ : List Addr} {H : Hp} {Q : VK} {Ex : Nat → Hp → Prop} {o : Option Bool} {h : Bool → W} {g : G} (hP : Post K xc (RW K xc) ρ H Q Ex (Res.of (o.map h) g)) : ∃ k, o = some k ∧ Post K xc (RW K xc) ρ H Q Ex (.ok (h k) g) := by
  cases o with
  | none => exact hP.elim
  | some k => exact ⟨k, rfl, hP⟩
theorem decV {α : Type} [DecidableEq α] {f : α → V} (hf : ∀ a b, f a = f b → a = b) (a b : α) : decide (f a = f b) = decide (a = b) := by
  by_cases e : a = b
  · subst e; simp
  · rw [decide_eq_false e, decide_eq_false fun z => e (hf _ _ z)]
theorem p_eq (hu : X.A.units + 64 < cLine) : Prim2 X xc (compareOp .Eq) (op2W .eq) := by
  intro pins s σ H x y v u ρ a b g Q Ex I hk r1 r2 ra rb hH hP
  have hP : Post X.K xc (RW X.K xc) ρ H Q Ex (Res.of ((eqW g a b).map .bl) g) := hP
  obtain ⟨k, e, hP⟩ := of_map hP
  have q : Q (.bl k) H := hP ρ H _ Ext.refl hH rw_bl
  rcases eqW_ok g a b k e with ⟨i, j, rfl, rfl, rfl⟩ | ⟨i, j, rfl, rfl, rfl⟩ | ⟨i, j, rfl, rfl, rfl⟩ | ⟨da, db, d1, d2, d3, d4, rfl⟩
  · unfold RW at ra rb
    subst ra rb
    exact op_eq pins s σ H _ _ v u Q I r1 r2 ⟨rfl, by rw [decV (fun _ _ z => V.int.inj z)]; exact q⟩
  · unfold RW at ra rb
    subst ra rb
    exact op_eq pins s σ H _ _ v u Q I r1 r2 ⟨rfl, by rw [decV (fun _ _ z => V.str.inj z)]; exact q⟩
  · unfold RW at ra rb
    subst ra rb
    exact op_eq pins s σ H _ _ v u Q I r1 r2 ⟨rfl, by rw [decV (fun _ _ z => V.bl.inj z)]; exact q⟩
  · exact op_eqD hu pins s σ H _ _ v u Q I r1 r2 ⟨da, db, toD_ok hH 60 a ra d1, toD_ok hH 60 b rb d2, d3, d4, q⟩
theorem p_ne (hu : X.A.units + 64 < cLine) : Prim2 X xc (compareOp .NotEq) (op2W .ne) := by
  intro pins s σ H x y v u ρ a b g Q Ex I hk r1 r2 ra rb hH hP
  have hP : Post X.K xc (RW X.K xc) ρ H Q Ex (Res.of ((eqW g a b).map fun c => .bl (!c)) g) := hP
  obtain ⟨k, e, hP⟩ := of_map hP
  have q : Q (.bl (!k)) H := hP ρ H _ Ext.refl hH rw_bl
  rcases eqW_ok g a b k e with ⟨i, j, rfl, rfl, rfl⟩ | ⟨i, j, rfl, rfl, rfl⟩ | ⟨i, j, rfl, rfl, rfl⟩ | ⟨da, db, d1, d2, d3, d4, rfl⟩
  · unfold RW at ra rb
    subst ra rb
    exact op_ne pins s σ H _ _ v u Q I r1 r2 ⟨rfl, by rw [decV (fun _ _ z => V.int.inj z)]; exact q⟩
  · unfold RW at ra rb
    subst ra rb
    exact op_ne pins s σ H _ _ v u Q I r1 r2 ⟨rfl, by rw [decV (fun _ _ z => V.str.inj z)]; exact q⟩
  · unfold RW at ra rb
    subst ra rb
    exact op_ne pins s σ H _ _ v u Q I r1 r2 ⟨rfl, by rw [decV (fun _ _ z => V.bl.inj z)]; exact q⟩
  · exact op_neD hu pins s σ H _ _ v u Q I r1 r2 ⟨da, db, toD_ok hH 60 a ra d1, toD_ok hH 60 b rb d2, d3, d4, q⟩
theorem non_iff {ρ : List Addr} {H : Hp} {a : W} {x : V} (r : RW X.K xc ρ H a x) : decide (x = .non) = (match a with | .non => true | _ => false) := by
  cases a with
  | non => unfold RW at r; subst r; rfl
  | bl b => unfold RW at r; subst r; rfl
  | int b => unfold RW at r; subst r; rfl
  | str b => unfold RW at r; subst r; rfl
  | tup b => unfold RW at r; obtain ⟨_, _, rfl, _⟩ := r; rfl
  | ctup b => unfold RW at r; obtain ⟨_, _, rfl, _⟩ := r; rfl
  | flst b => unfold RW at r; obtain ⟨_, _, rfl, _⟩ := r; rfl
  | ref b => unfold RW at r; obtain ⟨_, rfl, _⟩ := r; rfl
  | exc b => unfold RW at r; obtain ⟨_, rfl, _⟩ := r; rfl
theorem p_isn : Prim2 X xc (compareOp .Is) (op2W .isn) := by
  intro pins s σ H x y v u ρ a b g Q Ex I hk r1 r2 ra rb hH hP
  cases b with
  | non =>
    have e := non_iff ra
    unfold RW at rb
    subst rb
    refine op_isN pins s σ H _ _ v u Q I r1 r2 ⟨rfl, ?_⟩
    rw [e]
    cases a <;> exact hP ρ H _ Ext.refl hH rw_bl
  | _ => cases a <;> exact hP.elim
end
end Ev
set_option Elab.async false
set_option linter.all false
set_option maxRecDepth 100000
namespace Ev
open PySem PySem.Spec PyProof.Rows PySem.SeqAt L2
section
variable {X : Cx} {xc : Nat → Addr}
theorem rws1 {K : PySem.W.Frag} {ρ : List Addr} {H : Hp} {w : W} {xs : List V} (r : RWs K xc ρ H [w] xs) : ∃ v, xs = [v] ∧ RW K xc ρ H w v := by
  unfold RWs at r
  obtain ⟨v, r', rfl, h1, h2⟩ := r
  unfold RWs at h2
  subst h2
  exact ⟨v, rfl, h1⟩
theorem rw_lst {ρ : List Addr} {H : Hp} {g : G} {i : Nat} {ws : List W} {v : V} (hH : RH X.K xc ρ g H) (r : RW X.K xc ρ H (.ref i) v) (e : g[i]? = some (.lst ws)) : ∃ a vs, v = .ref a ∧ ρ[i]? = some a ∧ H a = some (.lst vs) ∧ RWs X.K xc ρ H ws vs := by
  unfold RW at r
  obtain ⟨a, rfl, h1⟩ := r
  obtain ⟨vs, e1, r1⟩ := hH.ob i a _ h1 e
  exact ⟨a, vs, rfl, h1, e1, r1⟩
theorem f_len : PrimN X xc (.builtin "len") (bltW .len) := by
  intro pins s σ H xs us ρ as g Q Ex I hk rv ra hH hP
  match as, ra, hP with
  | [], ra, hP => exact hP.elim
  | [w], ra, hP =>
    obtain ⟨v, rfl, r⟩ := rws1 ra
    have seq : ∀ ws, items g w = some ws → Post X.K xc (RW X.K xc) ρ H Q Ex (.ok (.int ws.length) g) → wpAny (model X.prog X.w) X.A (call (.builtin "len") us) (EP X pins σ Q) X.xe s := fun ws hw hP => by
      obtain ⟨a, vs, rfl, hs, rs⟩ := items_sq hH r hw
      exact call_len_seq pins s σ H _ us Q I rv ⟨a, vs, rfl, hs, by rw [rs.length]; exact hP ρ H _ Ext.refl hH rw_int⟩
    have gen : Post X.K xc (RW X.K xc) ρ H Q Ex (Res.of ((items g w).map fun ws => .int ws.length) g) → wpAny (model X.prog X.w) X.A (call (.builtin "len") us) (EP X pins σ Q) X.xe s := fun hP => by
      cases hi : items g w with
      | none => rw [hi] at hP; exact hP.elim
      | some ws => rw [hi] at hP; exact seq ws hi hP
    cases w with
    | str z =>
      have hP : Post X.K xc (RW X.K xc) ρ H Q Ex (if z.length ≤ sizeLine then .ok (.int z.length) g else .stuck) := hP
      unfold RW at r
      subst r
      by_cases hz : z.length ≤ sizeLine
      · rw [if_pos hz] at hP
        exact call_len_str pins s σ H _ us Q I rv ⟨z, rfl, hz, hP ρ H _ Ext.refl hH rw_int⟩
      · rw [if_neg hz] at hP; exact hP.elim
    | _ => exact gen hP
  | w :: w' :: r, ra, hP =>
    have : bltW .len (w :: w' :: r) g = .stuck := by cases w <;> rfl
    rw [this] at hP
    exact hP.elim
theorem bools_ok {K : PySem.W.Frag} {ρ : List Addr} {H : Hp} : ∀ {ws : List W} {vs : List V} {bs : List Bool} {us : List Value}, RWs K xc ρ H ws vs → boolsW ws = some bs → Vals vs us → us = bs.map Value.bool
  | [], vs, bs, us, r, e, q => by
    unfold RWs at r
    subst r
    cases e
    cases q
    rfl
  | w :: ws, vs, bs, us, r, e, q => by
    unfold RWs at r
    obtain ⟨v, vr, rfl, r1, r2⟩ := r
    cases w with
    | bl b =>
      unfold RW at r1
      subst r1
      have e : (boolsW ws).map (b :: ·) = some bs := e
      cases hb : boolsW ws with
      | none => rw [hb] at e; cases e
      | some bs' =>
        rw [hb] at e
        cases e
        cases q with
        | cons q1 q2 =>
          cases q1
          rw [bools_ok r2 hb q2]
          rfl
    | _ => cases e
theorem range_all' (bs : List Bool) : ((List.range bs.length).all fun i => (bs[i]?).getD true) = bs.all id := by
  rw [Bool.eq_iff_iff, List.all_eq_true, List.all_eq_true]
  constructor
  · intro h b hb
    obtain ⟨i, hi, rfl⟩ := List.getElem_of_mem hb
    have := h i (List.mem_range.mpr hi)
    simpa [List.getElem?_eq_getElem hi] using this
  · intro h i hi
    have hi := List.mem_range.mp hi
    simpa [List.getElem?_eq_getElem hi] using h _ (List.getElem_mem hi)
theorem range_any' (bs : List Bool) : ((List.range bs.length).any fun i => (bs[i]?).getD false) = bs.any id := by
  rw [Bool.eq_iff_iff, List.any_eq_true, List.any_eq_true]
  constructor
  · rintro ⟨i, hi, e⟩
    have hi := List.mem_range.mp hi
    exact ⟨_, List.getElem_mem hi, by simpa [List.getElem?_eq_getElem hi] using e⟩
  · rintro ⟨b, hb, e⟩
    obtain ⟨i, hi, rfl⟩ := List.getElem_of_mem hb
    exact ⟨i, List.mem_range.mpr hi, by simpa [List.getElem?_eq_getElem hi] using e⟩
theorem f_all (hc : X.calm = true) : PrimN X xc (.builtin "all") (bltW .all) := by
  intro pins s σ H xs us ρ as g Q Ex I hk rv ra hH hP
  match as, ra, hP with
  | [], ra, hP => exact hP.elim
  | [w], ra, hP =>
    obtain ⟨v, rfl, r⟩ := rws1 ra
    cases w with
    | ref i =>
      have hP : Post X.K xc (RW X.K xc) ρ H Q Ex (match g[i]? with | some (.lst ws) => (match boolsW ws with | some bs => .ok (.bl (bs.all id)) g | none => .stuck) | none => .stuck) := hP
      cases ho : g[i]? with
      | none => rw [ho] at hP; exact hP.elim
      | some o =>
        cases o with
        | lst ws =>
          rw [ho] at hP
          have hP : Post X.K xc (RW X.K xc) ρ H Q Ex (match boolsW ws with | some bs => .ok (.bl (bs.all id)) g | none => .stuck) := hP
          cases hb : boolsW ws with
          | none => rw [hb] at hP; exact hP.elim
          | some bs =>
            rw [hb] at hP
            obtain ⟨a, vs, rfl, _, e1, r1⟩ := rw_lst hH r ho
            obtain ⟨u, rfl, ru⟩ := vals1 rv
            cases ru
            obtain ⟨its, q1, pl, _⟩ := I.list (SqL.of e1)
            have eb := bools_ok r1 hb q1
            have hl := pl.isList
            have hlt : a < s.heap.objs.size := by obtain ⟨_, e, _⟩ := hl; exact Heap.lt_size e
            refine call_all_walk (wpAny_pyIter_list hl ⟨s.heap.objs.size, [s.heap.objs.size, a], [s.heap.objs.size], its.toArray.size, _, _, fun i => (bs[i]?).getD true, rfl,
              Walks.list (A := X.A.in1) (I.ok.hd hc) _ a (Nat.ne_of_lt hlt) its.toArray, ⟨⟨_, Heap.get?_push_size _ rfl, rfl, rfl⟩, hl.push _⟩, fun i v s' Q' E' hv hQ => ?_, fun h' tk hkp => ?_⟩)
            · have hv : its.toArray[i]? = some v := hv
              rw [eb] at hv
              have hv : (bs.map Value.bool)[i]? = some v := by simpa using hv
              rw [List.getElem?_map] at hv
              cases hbi : bs[i]? with
              | none => rw [hbi] at hv; cases hv
              | some b =>
                rw [hbi] at hv
                cases hv
                simp only [hbi, Option.getD_some] at hQ
                exact wpAny_truthy_bool hQ
            · have e : ((List.range its.toArray.size).all fun i => (bs[i]?).getD true) = bs.all id := by
                rw [List.size_toArray, eb, List.length_map]; exact range_all' bs
              rw [e]
              refine ⟨.bl (bs.all id), H, I.kept fun b ob q => hkp b ob (fun hm => ?_) (Heap.get?_push_of_some _ q), rfl, hP ρ H _ Ext.refl hH rw_bl⟩
              rw [List.mem_singleton.mp hm] at q
              exact Nat.lt_irrefl _ (Heap.lt_size q)
    | _ => exact hP.elim
  | w :: w' :: r, ra, hP =>
    have : bltW .all (w :: w' :: r) g = .stuck := by cases w <;> rfl
    rw [this] at hP
    exact hP.elim
theorem f_any (hc : X.calm = true) : PrimN X xc (.builtin "any") (bltW .any) := by
  intro pins s σ H xs us ρ as g Q Ex I hk rv ra hH hP
  match as, ra, hP with
  | [], ra, hP => exact hP.elim
  | [w], ra, hP =>
    obtain ⟨v, rfl, r⟩ := rws1 ra
    cases w with
    | ref i =>
      have hP : Post X.K xc (RW X.K xc) ρ H Q Ex (match g[i]? with | some (.lst ws) => (match boolsW ws with | some bs => .ok (.bl (bs.any id)) g | none => .stuck) | none => .stuck) := hP
      cases ho : g[i]? with
      | none => rw [ho] at hP; exact hP.elim
      | some o =>
        cases o with
        | lst ws =>
          rw [ho] at hP
          have hP : Post X.K xc (RW X.K xc) ρ H Q Ex (match boolsW ws with | some bs => .ok (.bl (bs.any id)) g | none => .stuck) := hP
          cases hb : boolsW ws with
          | none => rw [hb] at hP; exact hP.elim
          | some bs =>
            rw [hb] at hP
            obtain ⟨a, vs, rfl, _, e1, r1⟩ := rw_lst hH r ho
            obtain ⟨u, rfl, ru⟩ := vals1 rv
            cases ru
            obtain ⟨its, q1, pl, _⟩ := I.list (SqL.of e1)
            have eb := bools_ok r1 hb q1
            have hl := pl.isList
            have hlt : a < s.heap.objs.size := by obtain ⟨_, e, _⟩ := hl; exact Heap.lt_size e
            refine call_any_walk (wpAny_pyIter_list hl ⟨s.heap.objs.size, [s.heap.objs.size, a], [s.heap.objs.size], its.toArray.size, _, _, fun i => (bs[i]?).getD false, rfl,
              Walks.list (A := X.A.in1) (I.ok.hd hc) _ a (Nat.ne_of_lt hlt) its.toArray, ⟨⟨_, Heap.get?_push_size _ rfl, rfl, rfl⟩, hl.push _⟩, fun i v s' Q' E' hv hQ => ?_, fun h' tk hkp => ?_⟩)
            · have hv : its.toArray[i]? = some v := hv
              rw [eb] at hv
              have hv : (bs.map Value.bool)[i]? = some v := by simpa using hv
              rw [List.getElem?_map] at hv
              cases hbi : bs[i]? with
              | none => rw [hbi] at hv; cases hv
              | some b =>
                rw [hbi] at hv
                cases hv
                simp only [hbi, Option.getD_some] at hQ
                exact wpAny_truthy_bool hQ
            · have e : ((List.range its.toArray.size).any fun i => (bs[i]?).getD false) = bs.any id := by
                rw [List.size_toArray, eb, List.length_map]; exact range_any' bs
              rw [e]
              refine ⟨.bl (bs.any id), H, I.kept fun b ob q => hkp b ob (fun hm => ?_) (Heap.get?_push_of_some _ q), rfl, hP ρ H _ Ext.refl hH rw_bl⟩
              rw [List.mem_singleton.mp hm] at q
              exact Nat.lt_irrefl _ (Heap.lt_size q)
    | _ => exact hP.elim
  | w :: w' :: r, ra, hP =>
    have : bltW .any (w :: w' :: r) g = .stuck := by cases w <;> rfl
    rw [this] at hP
    exact hP.elim
theorem fold_max (bs : List Int) : ∀ b : Int, (bs.foldl (fun a b => if b > a then b else a) b ∈ b :: bs) ∧ ∀ a ∈ b :: bs, a ≤ bs.foldl (fun a b => if b > a then b else a) b := by
  induction bs with
  | nil => intro b; simp
  | cons c bs ih =>
    intro b
    rw [List.foldl_cons]
    by_cases h : c > b
    · rw [if_pos h]
      obtain ⟨h1, h2⟩ := ih c
      refine ⟨List.mem_cons_of_mem _ h1, fun a ha => ?_⟩
      rcases List.mem_cons.mp ha with rfl | ha
      · have := h2 c (by simp)
        omega
      · exact h2 a ha
    · rw [if_neg h]
      obtain ⟨h1, h2⟩ := ih b
      refine ⟨?_, fun a ha => ?_⟩
      · rcases List.mem_cons.mp h1 with h1 | h1
        · rw [h1]; simp
        · exact List.mem_cons_of_mem _ (List.mem_cons_of_mem _ h1)
      · rcases List.mem_cons.mp ha with rfl | ha
        · exact h2 a (by simp)
        · rcases List.mem_cons.mp ha with rfl | ha
          · have := h2 b (by simp)
            omega
          · exact h2 a (List.mem_cons_of_mem _ ha)
theorem ints_ok {K : PySem.W.Frag} {ρ : List Addr} {H : Hp} : ∀ {ws : List W} {vs : List V} {bs : List Int} {us : List Value}, RWs K xc ρ H ws vs → intsW ws = some bs → Vals vs us → IntsAre us bs
  | [], vs, bs, us, r, e, q => by
    unfold RWs at r
    subst r
    cases q
    cases e
    exact .nil
  | w :: ws, vs, bs, us, r, e, q => by
    unfold RWs at r
    obtain ⟨v, r', rfl, h1, h2⟩ := r
    cases q with
    | cons q1 q2 =>
      cases w with
      | int b =>
        have e : (intsW ws).map (b :: ·) = some bs := e
        cases hb : intsW ws with
        | none => rw [hb] at e; cases e
        | some bs' =>
          rw [hb] at e
          cases e
          unfold RW at h1
          subst h1
          obtain ⟨t, rfl⟩ := q1
          exact .cons _ _ (ints_ok h2 hb q2)
      | _ => cases e
theorem f_max (hc : X.calm = true) : PrimN X xc (.builtin "max") (bltW .max) := by
  intro pins s σ H xs us ρ as g Q Ex I hk rv ra hH hP
  cases as with
  | nil => exact hP.elim
  | cons w r =>
    cases r with
    | cons w' r =>
      cases w with
      | int i =>
        cases w' with
        | int j =>
          cases r with
          | nil =>
            unfold RWs at ra
            obtain ⟨v, r, rfl, h1, ra⟩ := ra
            obtain ⟨v', rfl, h2⟩ := rws1 ra
            unfold RW at h1 h2
            subst h1 h2
            exact call_max2 hc pins s σ H _ us Q I rv ⟨i, j, rfl, hP ρ H _ Ext.refl hH rw_int⟩
          | cons => exact hP.elim
        | _ => exact hP.elim
      | _ => exact hP.elim
    | nil =>
      cases w with
      | ref i =>
        obtain ⟨v, rfl, r⟩ := rws1 ra
        have hP : Post X.K xc (RW X.K xc) ρ H Q Ex (match g[i]? with | some (.lst ws) => (match intsW ws with | some (b :: bs) => .ok (.int (bs.foldl (fun a b => if b > a then b else a) b)) g | _ => .stuck) | none => .stuck) := hP
        cases ho : g[i]? with
        | none => rw [ho] at hP; exact hP.elim
        | some o =>
          cases o with
          | lst ws =>
            rw [ho] at hP
            have hP : Post X.K xc (RW X.K xc) ρ H Q Ex (match intsW ws with | some (b :: bs) => .ok (.int (bs.foldl (fun a b => if b > a then b else a) b)) g | _ => .stuck) := hP
            cases hb : intsW ws with
            | none => rw [hb] at hP; exact hP.elim
            | some l =>
              cases l with
              | nil => rw [hb] at hP; exact hP.elim
              | cons b bs =>
                rw [hb] at hP
                obtain ⟨a, vs, rfl, _, e1, r1⟩ := rw_lst hH r ho
                obtain ⟨u, rfl, ru⟩ := vals1 rv
                cases ru
                obtain ⟨its, q1, pl, _⟩ := I.list (SqL.of e1)
                have hi := ints_ok r1 hb q1
                have hl := pl.isList
                obtain ⟨ys, e⟩ := hi.allInts.items
                have hns : b :: bs = ys.toList.map (·.1) := by rw [← hi.numsOf, ← nums_intItems, ← e]
                have hsz : 0 < ys.size := by
                  have := congrArg List.length hns
                  simp at this
                  omega
                rw [e] at hl
                refine max_intList (I.ok.hd hc) hl hsz fun v h' tk hv hk => ?_
                obtain ⟨t, rfl⟩ := intItems_at hv
                obtain ⟨h1, h2⟩ := argBest_gt (numAt ys) (ys.size - 1)
                obtain ⟨f1, f2⟩ := fold_max bs b
                have em : numAt ys (argBest (fun i j => decide (numAt ys i > numAt ys j)) (ys.size - 1)) = bs.foldl (fun a b => if b > a then b else a) b := by
                  have m1 : numAt ys (argBest (fun i j => decide (numAt ys i > numAt ys j)) (ys.size - 1)) ∈ b :: bs := by
                    rw [hns, numAt_eq]; exact getD_mem (by rw [List.length_map, Array.length_toList]; omega)
                  have m2 : ∀ a ∈ b :: bs, a ≤ numAt ys (argBest (fun i j => decide (numAt ys i > numAt ys j)) (ys.size - 1)) := fun a ha => by
                    rw [hns] at ha
                    obtain ⟨j, hj, rfl⟩ := mem_getD ha
                    rw [List.length_map, Array.length_toList] at hj
                    rw [← numAt_eq]; exact h2 j (by omega)
                  exact Int.le_antisymm (f2 _ m1) (m2 _ f1)
                rw [em]
                exact ⟨.int _, H, I.kept hk, ⟨_, rfl⟩, hP ρ H _ Ext.refl hH rw_int⟩
      | _ => exact hP.elim
theorem f_int : PrimN X xc (.type "int") (bltW .int) := by
  intro pins s σ H xs us ρ as g Q Ex I hk rv ra hH hP
  cases as with
  | nil => exact hP.elim
  | cons w r =>
    cases r with
    | cons w' r =>
      have : bltW .int (w :: w' :: r) g = .stuck := by cases w <;> rfl
      rw [this] at hP
      exact hP.elim
    | nil =>
      cases w with
      | bl k =>
        obtain ⟨v, rfl, r⟩ := rws1 ra
        unfold RW at r
        subst r
        exact call_int1 pins s σ H _ us Q I rv (.inr ⟨k, rfl, hP ρ H _ Ext.refl hH rw_int⟩)
      | _ => exact hP.elim
theorem f_list : PrimN X xc (.type "list") (bltW .list) := by
  intro pins s σ H xs us ρ as g Q Ex I hk rv ra hH hP
  match as, ra, hP with
  | [], ra, hP => exact hP.elim
  | [w], ra, hP =>
    obtain ⟨v, rfl, r⟩ := rws1 ra
    have hP : Post X.K xc (RW X.K xc) ρ H Q Ex (match items g w with | some ws => .ok (.ref g.length) (g ++ [.lst ws]) | none => .stuck) := hP
    cases hi : items g w with
    | none => rw [hi] at hP; exact hP.elim
    | some ws =>
      rw [hi] at hP
      obtain ⟨a, vs, rfl, hs, rs⟩ := items_sq hH r hi
      refine call_list_of pins s σ H _ us Q I rv ⟨a, vs, rfl, hs, fun l hl => ?_⟩
      obtain ⟨hH2, x2⟩ := hH.newL hl rs
      refine hP _ _ _ x2 hH2 ?_
      unfold RW
      exact ⟨_, rfl, by rw [← hH.len]; simp⟩
  | w :: w' :: r, ra, hP => exact hP.elim
end
end Ev
set_option Elab.async false
set_option linter.all false
set_option maxRecDepth 100000
namespace Ev
open PySem PySem.Spec PyProof.Rows PySem.SeqAt L2
section
variable (X : Cx) (xc : Nat → Addr)
noncomputable def PrimM (id : String) (o : W → List W → G → Res W) : Prop :=
  ∀ (pins : List (Addr × Obj)) (s : Shared) (σ : L2.St) (H : Hp) (x : V) (xs : List V) (v : Value) (us : List Value) (ρ : List Addr) (a : W) (as : List W) (g : G) (Q : VK) (Ex : Nat → Hp → Prop), Inv X pins σ H s → 0 < s.toks → RelV x v → Vals xs us → RW X.K xc ρ H a x → RWs X.K xc ρ H as xs → RH X.K xc ρ g H →
    Post X.K xc (RW X.K xc) ρ H Q Ex (o a as g) → wpAny (model X.prog X.w) X.A (call (.builtin id) (v :: us)) (EP X pins σ Q) X.xe s
end
section
variable {X : Cx} {xc : Nat → Addr}
theorem m_append : PrimM X xc "list.append" (mthW .append) := by
  intro pins s σ H x xs v us ρ a as g Q Ex I hk r1 rv ra ras hH hP
  cases a with
  | ref i =>
    match as, ras, hP with
    | [], ras, hP => exact hP.elim
    | [w], ras, hP =>
      have hP : Post X.K xc (RW X.K xc) ρ H Q Ex (match g[i]? with | some (.lst ws) => if ws.length < sizeLine then .ok .non (g.set i (.lst (ws ++ [w]))) else .stuck | none => .stuck) := hP
      cases ho : g[i]? with
      | none => rw [ho] at hP; exact hP.elim
      | some o =>
        cases o with
        | lst ws =>
          rw [ho] at hP
          have hP : Post X.K xc (RW X.K xc) ρ H Q Ex (if ws.length < sizeLine then .ok .non (g.set i (.lst (ws ++ [w]))) else .stuck) := hP
          by_cases hz : ws.length < sizeLine
          · rw [if_pos hz] at hP
            obtain ⟨p, vs, rfl, h1, e1, rs⟩ := rw_lst hH ra ho
            obtain ⟨y, rfl, ry⟩ := rws1 ras
            obtain ⟨hH2, x2⟩ := hH.setL h1 (rs.append (RWs.cons ry RWs.nil))
            exact mt_append pins s σ H _ _ v us Q I r1 rv ⟨p, vs, y, rfl, rfl, e1, by rw [rs.length]; exact hz, hP ρ _ _ x2 hH2 rw_non⟩
          · rw [if_neg hz] at hP; exact hP.elim
    | w :: w' :: r, ras, hP => exact hP.elim
  | _ => exact hP.elim
end
end Ev
set_option Elab.async false
set_option linter.all false
set_option maxRecDepth 100000
namespace Ev
open PySem PySem.Spec PyProof.Rows PySem.SeqAt L2
section
variable {prog : Program} {w : World} {A : Around} {E : Value → Shared → Prop} {s : Shared}
end
section
variable {X : Cx} {xc : Nat → Addr}
theorem flats_get {K : PySem.W.Frag} {ρ : List Addr} {H : Hp} {w : W} {x : V} (rw1 : RW X.K xc ρ H w x) (fw : flatW w = true) : ∀ {ws : List W} {vs : List V} {us : List Value} {i : Nat} {u : Value}, RWs X.K xc ρ H ws vs → ws.all flatW = true → Vals vs us → us[i]? = some u →
    ∃ y, ws[i]? = some y ∧ eqU x u = eqF y w
  | [], _, _, _, _, r, _, q, e => by unfold RWs at r; subst r; cases q; simp at e
  | y :: ws, _, us, i, u, r, f, q, e => by
    unfold RWs at r
    obtain ⟨v, vr, rfl, r1, r2⟩ := r
    rw [List.all_cons, Bool.and_eq_true] at f
    cases q with
    | cons q1 q2 =>
      cases i with
      | zero =>
        simp at e
        subst e
        exact ⟨y, rfl, by rw [eqU_of q1 (flat_ok r1 f.1), eqF_ok r1 rw1 f.1 fw]⟩
      | succ i =>
        obtain ⟨y', e1, e2⟩ := flats_get (K := K) rw1 fw (i := i) r2 f.2 q2 (by simpa using e)
        exact ⟨y', by simpa using e1, e2⟩
noncomputable def ixT (a : W) (as : List W) (g : G) : Res W := match a with
  | .ctup ws => mthW .index (.ctup ws) as g
  | _ => .stuck
noncomputable def onL (m : Mt) (a : W) (as : List W) (g : G) : Res W := match a with
  | .ref i => mthW m (.ref i) as g
  | _ => .stuck
theorem RWs.reverse {K : PySem.W.Frag} {ρ : List Addr} {H : Hp} : ∀ {ws : List W} {vs : List V}, RWs K xc ρ H ws vs → RWs K xc ρ H ws.reverse vs.reverse
  | [], _, h => by unfold RWs at h; subst h; exact RWs.nil
  | w :: ws, _, h => by
    unfold RWs at h
    obtain ⟨v, r, rfl, h1, h2⟩ := h
    rw [List.reverse_cons, List.reverse_cons]
    exact (RWs.reverse h2).append (RWs.cons h1 RWs.nil)
theorem RWs.eraseIdx {K : PySem.W.Frag} {ρ : List Addr} {H : Hp} : ∀ {ws : List W} {vs : List V} (k : Nat), RWs K xc ρ H ws vs → RWs K xc ρ H (ws.eraseIdx k) (vs.eraseIdx k)
  | [], _, _, h => by unfold RWs at h; subst h; exact RWs.nil
  | w :: ws, _, 0, h => by
    unfold RWs at h
    obtain ⟨v, r, rfl, h1, h2⟩ := h
    exact h2
  | w :: ws, _, k + 1, h => by
    unfold RWs at h
    obtain ⟨v, r, rfl, h1, h2⟩ := h
    exact RWs.cons h1 (RWs.eraseIdx k h2)
theorem RWs.setAt {K : PySem.W.Frag} {ρ : List Addr} {H : Hp} {w : W} {v : V} (hw : RW K xc ρ H w v) : ∀ {ws : List W} {vs : List V} (k : Nat), RWs K xc ρ H ws vs → RWs K xc ρ H (ws.set k w) (vs.set k v)
  | [], _, _, h => by unfold RWs at h; subst h; exact RWs.nil
  | x :: ws, _, 0, h => by
    unfold RWs at h
    obtain ⟨u, r, rfl, h1, h2⟩ := h
    exact RWs.cons hw h2
  | x :: ws, _, k + 1, h => by
    unfold RWs at h
    obtain ⟨u, r, rfl, h1, h2⟩ := h
    exact RWs.cons h1 (RWs.setAt hw k h2)
theorem flats_count {K : PySem.W.Frag} {ρ : List Addr} {H : Hp} {w : W} {x : V} (rw1 : RW X.K xc ρ H w x) (fw : flatW w = true) : ∀ {ws : List W} {vs : List V} {us : List Value}, RWs X.K xc ρ H ws vs → ws.all flatW = true → Vals vs us → us.countP (eqU x) = (ws.filter fun y => eqF y w).length
  | [], _, _, r, _, q => by unfold RWs at r; subst r; cases q; rfl
  | y :: ws, _, us, r, f, q => by
    unfold RWs at r
    obtain ⟨v, vs, rfl, r1, r2⟩ := r
    rw [List.all_cons, Bool.and_eq_true] at f
    cases q with
    | cons q1 q2 =>
      have ih := flats_count (K := K) rw1 fw r2 f.2 q2
      have e := (eqU_of q1 (flat_ok r1 f.1)).trans (eqF_ok r1 rw1 f.1 fw)
      rw [List.countP_cons, List.filter_cons, ih, e]
      cases eqF y w <;> simp
theorem on_list {pins : List (Addr × Obj)} {s : Shared} {σ : L2.St} {H : Hp} {ρ : List Addr} {g : G} {i : Nat} {x : V} {v : Value} {ws : List W} (I : Inv X pins σ H s) (r1 : RelV x v) (ra : RW X.K xc ρ H (.ref i) x) (hH : RH X.K xc ρ g H) (ho : g[i]? = some (.lst ws)) :
    ∃ a vs its n, x = .ref a ∧ v = .ref a ∧ ρ[i]? = some a ∧ H a = some (.lst vs) ∧ RWs X.K xc ρ H ws vs ∧ vs.length ≤ sizeLine ∧ Vals vs its ∧ vs.length = its.length ∧ s.heap.get? a = some { cls := .type "list", data := .seq its.toArray n } := by
  obtain ⟨a, vs, rfl, h1, h2, h3⟩ := rw_lst hH ra ho
  cases r1
  obtain ⟨z, its, n, r, hl, e⟩ := I.lstM h2
  exact ⟨a, vs, its, n, rfl, rfl, h1, h2, h3, z, r, hl, e⟩
theorem m_lindex : PrimM X xc "list.index" (onL .index) := by
  intro pins s σ H x xs v us ρ a as g Q Ex I hk r1 rv ra ras hH hP
  cases a with
  | ref i =>
    match as, ras, hP with
    | [], ras, hP => exact hP.elim
    | [y], ras, hP =>
      have hP : Post X.K xc (RW X.K xc) ρ H Q Ex (match g[i]? with | some (.lst ws) => (if flatW y && ws.all flatW then (match ws.findIdx? (fun z => eqF z y) with | some k => .ok (.int k) g | none => .stuck) else .stuck) | none => .stuck) := hP
      cases ho : g[i]? with
      | none => rw [ho] at hP; exact hP.elim
      | some o =>
        cases o with
        | lst ws =>
          rw [ho] at hP
          have hP : Post X.K xc (RW X.K xc) ρ H Q Ex (if flatW y && ws.all flatW then (match ws.findIdx? (fun z => eqF z y) with | some k => .ok (.int k) g | none => .stuck) else .stuck) := hP
          by_cases hf : (flatW y && ws.all flatW) = true
          · rw [if_pos hf] at hP
            rw [Bool.and_eq_true] at hf
            cases hi : ws.findIdx? (fun z => eqF z y) with
            | none => rw [hi] at hP; exact hP.elim
            | some k =>
              rw [hi] at hP
              obtain ⟨p, vs, its, n, rfl, rfl, h1, h2, rs, z, q1, hl, e⟩ := on_list I r1 ra hH ho
              obtain ⟨u, rfl, ru⟩ := rws1 ras
              obtain ⟨u', rfl, ru'⟩ := vals1 rv
              have hlen : its.length = ws.length := by rw [← q1.length, rs.length]
              obtain ⟨hk1, hk2, hk3⟩ := List.findIdx?_eq_some_iff_getElem.mp hi
              have fa : flatV u = true := flat_ok ru hf.1
              have eqs : ∀ (m : Nat) (hm : m < its.toArray.size), eqU u its.toArray[m] = eqF (ws[m]'(by simp at hm; omega)) y := fun m hm => by
                obtain ⟨z, e1, e2⟩ := flats_get (K := X.K) ru hf.1 (i := m) (u := its.toArray[m]) rs hf.2 q1 (by simp)
                have : ws[m]? = some (ws[m]'(by simp at hm; omega)) := List.getElem?_eq_getElem _
                rw [this] at e1
                cases e1
                exact e2
              have hline := line63
              refine call_meets F.slot_list_index ⟨_, e, rfl⟩ F.entry_list_index (F.args_list_index_2 _ _) (SeqAt.list_indexAt p its.toArray n none #[] u' (eqU u) k (by simp; omega) (by omega) ?_ (fun m hm hmk => ?_)) ⟨e, fun z hz => mem_eqAt ru' fa q1 (flats_ok ru hf.1 rs hf.2).1 z (by simpa using hz), ?_⟩
              · rw [eqs]; exact hk2
              · rw [eqs]
                have := hk3 m hmk
                simpa using this
              · exact ⟨.int k, H, I.tok _, ⟨_, rfl⟩, hP ρ H _ Ext.refl hH rw_int⟩
          · rw [if_neg hf] at hP; exact hP.elim
    | w :: w' :: r, ras, hP => exact hP.elim
  | _ => exact hP.elim
theorem m_count : PrimM X xc "list.count" (onL .count) := by
  intro pins s σ H x xs v us ρ a as g Q Ex I hk r1 rv ra ras hH hP
  cases a with
  | ref i =>
    match as, ras, hP with
    | [], ras, hP => exact hP.elim
    | [y], ras, hP =>
      have hP : Post X.K xc (RW X.K xc) ρ H Q Ex (match g[i]? with | some (.lst ws) => (if flatW y && ws.all flatW then .ok (.int ((ws.filter fun z => eqF z y).length : Nat)) g else .stuck) | none => .stuck) := hP
      cases ho : g[i]? with
      | none => rw [ho] at hP; exact hP.elim
      | some o =>
        cases o with
        | lst ws =>
          rw [ho] at hP
          have hP : Post X.K xc (RW X.K xc) ρ H Q Ex (if flatW y && ws.all flatW then .ok (.int ((ws.filter fun z => eqF z y).length : Nat)) g else .stuck) := hP
          by_cases hf : (flatW y && ws.all flatW) = true
          · rw [if_pos hf] at hP
            rw [Bool.and_eq_true] at hf
            obtain ⟨p, vs, its, n, rfl, rfl, h1, h2, rs, z, q1, hl, e⟩ := on_list I r1 ra hH ho
            obtain ⟨u, rfl, ru⟩ := rws1 ras
            obtain ⟨u', rfl, ru'⟩ := vals1 rv
            have fa : flatV u = true := flat_ok ru hf.1
            refine call_meets F.slot_list_count ⟨_, e, rfl⟩ F.entry_list_count (F.args_list_count_2 _ _) (SeqAt.list_countAt p its.toArray n none #[] u' (eqU u)) ⟨e, fun z hz => mem_eqAt ru' fa q1 (flats_ok ru hf.1 rs hf.2).1 z (by simpa using hz), ?_⟩
            have ec : its.toArray.toList.countP (eqU u) = (ws.filter fun z => eqF z y).length := by simpa using flats_count (K := X.K) ru hf.1 rs hf.2 q1
            rw [ec]
            exact ⟨.int _, H, I.tok _, ⟨_, rfl⟩, hP ρ H _ Ext.refl hH rw_int⟩
          · rw [if_neg hf] at hP; exact hP.elim
    | w :: w' :: r, ras, hP => exact hP.elim
  | _ => exact hP.elim
theorem m_reverse : PrimM X xc "list.reverse" (onL .reverse) := by
  intro pins s σ H x xs v us ρ a as g Q Ex I hk r1 rv ra ras hH hP
  cases a with
  | ref i =>
    match as, ras, hP with
    | [], ras, hP =>
      have hP : Post X.K xc (RW X.K xc) ρ H Q Ex (match g[i]? with | some (.lst ws) => .ok .non (g.set i (.lst ws.reverse)) | none => .stuck) := hP
      cases ho : g[i]? with
      | none => rw [ho] at hP; exact hP.elim
      | some o =>
        cases o with
        | lst ws =>
          rw [ho] at hP
          obtain ⟨p, vs, its, n, rfl, rfl, h1, h2, rs, z, q1, hl, e⟩ := on_list I r1 ra hH ho
          unfold RWs at ras
          subst ras
          obtain ⟨hH', x'⟩ := hH.setL h1 rs.reverse
          exact mt_reverse pins s σ H (.ref p) [] (.ref p) us Q I rfl rv ⟨p, vs, rfl, rfl, h2, hP _ _ _ x' hH' rw_non⟩
    | w :: r, ras, hP => exact hP.elim
  | _ => exact hP.elim
theorem m_pop : PrimM X xc "list.pop" (onL .pop) := by
  intro pins s σ H x xs v us ρ a as g Q Ex I hk r1 rv ra ras hH hP
  cases a with
  | ref i =>
    cases as with
    | nil => exact hP.elim
    | cons w r =>
      cases r with
      | cons w' r =>
        have : onL .pop (.ref i) (w :: w' :: r) g = .stuck := by cases w <;> rfl
        rw [this] at hP
        exact hP.elim
      | nil =>
        cases w with
        | int k =>
          have hP : Post X.K xc (RW X.K xc) ρ H Q Ex (match g[i]? with | some (.lst ws) => (if 0 ≤ k ∧ k < ws.length then (match ws[k.toNat]? with | some w => .ok w (g.set i (.lst (ws.eraseIdx k.toNat))) | none => .stuck) else .stuck) | none => .stuck) := hP
          cases ho : g[i]? with
          | none => rw [ho] at hP; exact hP.elim
          | some o =>
            cases o with
            | lst ws =>
              rw [ho] at hP
              have hP : Post X.K xc (RW X.K xc) ρ H Q Ex (if 0 ≤ k ∧ k < ws.length then (match ws[k.toNat]? with | some w => .ok w (g.set i (.lst (ws.eraseIdx k.toNat))) | none => .stuck) else .stuck) := hP
              by_cases hc : 0 ≤ k ∧ k < ws.length
              · rw [if_pos hc] at hP
                cases hw : ws[k.toNat]? with
                | none => rw [hw] at hP; exact hP.elim
                | some w =>
                  rw [hw] at hP
                  obtain ⟨p, vs, its, n, rfl, rfl, h1, h2, rs, z, q1, hl, e⟩ := on_list I r1 ra hH ho
                  obtain ⟨u, rfl, ru⟩ := rws1 ras
                  unfold RW at ru
                  subst ru
                  obtain ⟨y, hy, ry⟩ := rs.get hw
                  obtain ⟨hH', x'⟩ := hH.setL h1 (rs.eraseIdx k.toNat)
                  have hvl := rs.length
                  have hline := line63
                  exact mt_popAt pins s σ H (.ref p) [.int k] (.ref p) us Q I rfl rv ⟨p, vs, k, k.toNat, y, rfl, rfl, h2, by omega, by omega, seqIndex_of hc.1 (by rw [hvl]; exact hc.2), hy, hP _ _ _ x' hH' (RW.mono x' w ry)⟩
              · rw [if_neg hc] at hP; exact hP.elim
        | _ => exact hP.elim
  | _ => exact hP.elim
theorem m_insert : PrimM X xc "list.insert" (onL .insert) := by
  intro pins s σ H x xs v us ρ a as g Q Ex I hk r1 rv ra ras hH hP
  cases a with
  | ref i =>
    match as, ras, hP with
    | [.int k, w], ras, hP =>
      have hP : Post X.K xc (RW X.K xc) ρ H Q Ex (match g[i]? with | some (.lst ws) => (if 0 ≤ k ∧ k < ws.length ∧ ws.length < sizeLine then .ok .non (g.set i (.lst (ws.take k.toNat ++ w :: ws.drop k.toNat))) else .stuck) | none => .stuck) := hP
      cases ho : g[i]? with
      | none => rw [ho] at hP; exact hP.elim
      | some o =>
        cases o with
        | lst ws =>
          rw [ho] at hP
          have hP : Post X.K xc (RW X.K xc) ρ H Q Ex (if 0 ≤ k ∧ k < ws.length ∧ ws.length < sizeLine then .ok .non (g.set i (.lst (ws.take k.toNat ++ w :: ws.drop k.toNat))) else .stuck) := hP
          by_cases hc : 0 ≤ k ∧ k < ws.length ∧ ws.length < sizeLine
          · rw [if_pos hc] at hP
            obtain ⟨p, vs, its, n, rfl, rfl, h1, h2, rs, z, q1, hl, e⟩ := on_list I r1 ra hH ho
            unfold RWs at ras
            obtain ⟨y0, r, rfl, hy, ras2⟩ := ras
            unfold RW at hy
            subst hy
            obtain ⟨y, rfl, ry⟩ := rws1 ras2
            cases rv with
            | cons rk rv =>
              obtain ⟨t, rfl⟩ := rk
              obtain ⟨u, rfl, ru⟩ := vals1 rv
              have hvl := rs.length
              have hline := line63
              obtain ⟨hH', x'⟩ := hH.setL h1 ((rs.take k.toNat).append (RWs.cons ry (rs.drop k.toNat)))
              have hfit : Builtin.List.listFitsIndex k = true := fitsIndex_of hc.1 (by omega)
              refine call_meets F.slot_list_insert ⟨_, e, rfl⟩ F.entry_list_insert (F.args_list_insert_3 _ _ _) (AutoSeq1.list_insert_list_int_val_1 p its.toArray n k t u (by rw [hfit]; decide) (by rw [List.size_toArray]; omega)) ⟨e, ?_⟩
              refine ⟨.non, _, I.lset (its' := its.take k.toNat ++ u :: its.drop k.toNat) h2 e ?_ ((q1.take k.toNat).append (.cons ru (q1.drop k.toNat))) ?_, rfl, hP _ _ _ x' hH' rw_non⟩
              · show (have kk := if k < 0 then (k + (its.toArray.size : Int)).toNat else min k.toNat its.toArray.size; (its.toArray.extract 0 kk).push u ++ its.toArray.extract kk) = _
                have ek : (if k < 0 then (k + (its.toArray.size : Int)).toNat else min k.toNat its.toArray.size) = k.toNat := by
                  rw [if_neg (by omega), List.size_toArray]
                  omega
                rw [ek]
                apply Array.toList_inj.mp
                simp
                exact List.take_of_length_le (by rw [List.length_drop]; omega)
              · simp
                omega
          · rw [if_neg hc] at hP; exact hP.elim
    | [], ras, hP => exact hP.elim
    | [w], ras, hP =>
      have : onL .insert (.ref i) [w] g = .stuck := by cases w <;> rfl
      rw [this] at hP
      exact hP.elim
    | [.non, _], ras, hP => exact hP.elim
    | [.bl _, _], ras, hP => exact hP.elim
    | [.str _, _], ras, hP => exact hP.elim
    | [.tup _, _], ras, hP => exact hP.elim
    | [.ctup _, _], ras, hP => exact hP.elim
    | [.flst _, _], ras, hP => exact hP.elim
    | [.ref _, _], ras, hP => exact hP.elim
    | [.exc _, _], ras, hP => exact hP.elim
    | w :: w' :: w2 :: r, ras, hP =>
      have : onL .insert (.ref i) (w :: w' :: w2 :: r) g = .stuck := by cases w <;> rfl
      rw [this] at hP
      exact hP.elim
  | _ => exact hP.elim
end
end Ev
set_option Elab.async false
set_option linter.all false
set_option maxRecDepth 100000
namespace Ev
open PySem PySem.Spec PyProof.Rows PySem.SeqAt L2
section
variable {X : Cx} {xc : Nat → Addr} {R : RK} {a b c : Expr} {fa fb fc : Sl → G → Res W} {pos : Pos} {es : List Expr} {fs : Sl → G → Res (List W)}
theorem cut_ok {ρ : List Addr} {H : Hp} {ws : List W} {vs : List V} (r : RWs X.K xc ρ H ws vs) (lo hi : Option Int) : RWs X.K xc ρ H (cutW ws lo hi) (cutV vs lo hi) := by
  unfold cutW cutV
  rw [r.length]
  exact (r.drop _).take _
theorem slc_ok {pins : List (Addr × Obj)} {s : Shared} {σ : L2.St} {H : Hp} {x : V} {v vl vu : Value} {lo hi : Option Int} {sl : Addr} {ρ : List Addr} {w : W} {g : G} {Q : VK} {Ex : Nat → Hp → Prop} (I : Inv X pins σ H s) (rx : RelV x v) (hs : s.heap.IsSliceOf sl vl vu .none) (pl : IsPart vl lo) (pu : IsPart vu hi)
    (r : RW X.K xc ρ H w x) (hH : RH X.K xc ρ g H) (hP : Post X.K xc (RW X.K xc) ρ H Q Ex (slcW w lo hi g)) :
    ∃ T id, typeLookup (.type T) "__getitem__" = pure (some (.builtin id)) ∧ s.TypeIs v T ∧ wpAny (model X.prog X.w) X.A (getItem v (.ref sl)) (EP X pins σ Q) X.xe s := by
  have tupC : ∀ (ws : List W) (p : Addr) (vs : List V), x = .ref p → SqT X.K H p vs → RWs X.K xc ρ H ws vs → Post X.K xc (RW X.K xc) ρ H Q Ex (if HT.sIx ws.length 0 lo = 0 ∧ HT.sIx ws.length ws.length hi = ws.length then .stuck else .ok (.tup (cutW ws lo hi)) g) →
      ∃ T id, typeLookup (.type T) "__getitem__" = pure (some (.builtin id)) ∧ s.TypeIs v T ∧ wpAny (model X.prog X.w) X.A (getItem v (.ref sl)) (EP X pins σ Q) X.xe s := fun ws p vs e hq rs hP => by
    by_cases hz : HT.sIx ws.length 0 lo = 0 ∧ HT.sIx ws.length ws.length hi = ws.length
    · rw [if_pos hz] at hP; exact hP.elim
    · rw [if_neg hz] at hP
      refine sl_tup pins s σ H x v vl vu lo hi sl Q I rx hs pl pu ⟨p, vs, e, hq, by rw [rs.length]; exact hz, fun p' hp => ?_⟩
      have x2 : Ext ρ H ρ (upd H p' (.tup (cutV vs lo hi))) := Ext.laid hp
      refine hP ρ _ _ x2 (hH.laid hp) ?_
      unfold RW
      exact ⟨p', _, rfl, upd_same, RWs.mono x2 _ (cut_ok rs lo hi)⟩
  cases w with
  | tup ws =>
    unfold RW at r
    obtain ⟨p, vs, e, h1, h2⟩ := r
    exact tupC ws p vs e (SqT.of h1) h2 hP
  | ctup ws =>
    unfold RW at r
    obtain ⟨p, vs, e, ⟨o, its, n, k1, k2, k3, k4, k5, k6⟩, h2⟩ := r
    exact tupC ws p vs e (.inr ⟨o, its, n, k1, k2, k4, k5, k6⟩) h2 hP
  | _ => exact hP.elim
variable (X xc R) in
noncomputable def QP (e : Option Expr) (f : Sl → G → Res (Option Int)) : Prop :=
  ∀ (pins : List (Addr × Obj)) (s : Shared) (σ : L2.St) (H : Hp) (ρ : List Addr) (sl : Sl) (g : G) (Q : Option Int → Hp → Prop), Inv X pins σ H s → 0 < s.toks → RS X.K xc ρ H sl σ → RH X.K xc ρ g H →
    Post X.K xc (fun _ _ (a b : Option Int) => a = b) ρ H Q (fun c H' => R σ (xc c) H') (f sl g) →
    wpAny (model X.prog X.w) X.A (evalPart e X.env) (fun u s' => ∃ o H', Inv X pins σ H' s' ∧ IsPart u o ∧ Q o H') X.xe s
theorem qp_none : QP X xc R none (fun _ g => partR (.ok [] g)) := by
  intro pins s σ H ρ sl g Q I hk hS hH hP
  rw [evalPart_none]
  exact wpAny_pure ⟨none, H, I, .none, hP ρ H none Ext.refl hH rfl⟩
theorem qp_some (ha : QE X xc R a fa) : QP X xc R (some a) (fun sl g => partR ((fa sl g).bind fun x g1 => (Res.ok [] g1).bind fun xs g2 => .ok (x :: xs) g2)) := by
  intro pins s σ H ρ sl g Q I hk hS hH hP
  rw [evalPart_some]
  have hP' : Post X.K xc (RW X.K xc) ρ H (fun v H1 => ∃ i, v = .int i ∧ Q (some i) H1) (fun c H' => R σ (xc c) H') (fa sl g) := by
    revert hP
    show Post X.K xc _ ρ H Q _ (partR ((fa sl g).bind fun x g1 => (Res.ok [] g1).bind fun xs g2 => .ok (x :: xs) g2)) → _
    cases fa sl g with
    | ok w g1 =>
      intro hP ρ' H' v x y z
      cases w with
      | int i =>
        unfold RW at z
        exact ⟨i, z, hP ρ' H' (some i) x y rfl⟩
      | _ => exact False.elim hP
    | exc c g1 => exact fun h => h
    | stuck => exact fun h => h
  refine thnT hk (ha pins s σ H ρ sl g _ I hk hS hH hP') fun u s1 hk1 qq9 => ?_
  obtain ⟨x, H1, I1, r1, i, e, q⟩ := qq9
  subst e
  obtain ⟨t, rfl⟩ := r1
  exact ⟨some i, H1, I1, .int i t, q⟩
theorem qe_slice {lo hi : Option Expr} {fl fu : Sl → G → Res (Option Int)} {p2 : Pos} (ha : QE X xc R a fa) (hl : QP X xc R lo fl) (hu : QP X xc R hi fu) :
    QE X xc R (.Subscript a (.Slice lo hi none p2) pos) (fun sl g => (fa sl g).bind fun x g1 => (fl sl g1).bind fun l g2 => (fu sl g2).bind fun u g3 => slcW x l u g3) := by
  intro pins s σ H ρ sl g Q I hk hS hH hP
  refine Subscript_ (thnT hk (ha pins s σ H ρ sl g _ I hk hS hH (Post.bind hP)) fun v s1 hk1 qq1 => ep_elim qq1 fun x H1 I1 r1 ρ1 w1 g1 X1 hH1 rw1 hP1 => ?_)
  have hS1 := hS.mono X1
  refine wpAny_Slice (thnT hk1 (hl pins s1 σ H1 ρ1 sl g1 _ I1 hk1 hS1 hH1 (Post.bind hP1)) fun vl s2 hk2 qq9 => ?_)
  obtain ⟨l, H2, I2, pl, ρ2, l', g2, X2, hH2, el, hP2⟩ := qq9
  refine thnT hk2 (hu pins s2 σ H2 ρ2 sl g2 _ I2 hk2 (hS1.mono X2) hH2 (Post.bind hP2)) fun vu s3 hk3 qq9 => ?_
  obtain ⟨u, H3, I3, pu, ρ3, u', g3, X3, hH3, eu, hP3⟩ := qq9
  cases el
  cases eu
  rw [evalPart_none]
  refine wpAny_pure ?_
  have I4 : Inv X pins σ H3 { s3 with heap := s3.heap.push { cls := .type "slice", data := .fields #[vl, vu, .none] } } := I3.kept (t' := s3.toks) fun b ob q => Heap.get?_push_of_some _ q
  obtain ⟨T, id, hT, ht, hg⟩ := slc_ok (Q := Q) I4 r1 (Heap.IsSliceOf.new ..) pl pu (RW.mono (X2.trans X3) w1 rw1) hH3 hP3
  show wpAny (model X.prog X.w) X.A (subscriptTail a (.Slice lo hi none p2) v (.ref s3.heap.objs.size)) (EP X pins σ Q) X.xe { s3 with heap := s3.heap.push { cls := .type "slice", data := .fields #[vl, vu, .none] } }
  exact tail_any (ops := [.ref s3.heap.objs.size, v]) ht hT hg (by with_unfolding_all rfl)
theorem qe_callB {x : Str} {id : String} {o : List W → G → Res W} {p : Pos} (hc : PrimN X xc (.builtin id) o) (hg : Gl X x) (hm : X.mg x = none) (hv : bootBuiltins x = some (.builtin id)) (ha : QA X xc R (a :: es) fs) (hn : x ≠ "__name__") (hdb : (x == ("__debug__" : Str)) = false)
    (he : starEach (a :: es) X.env = (false, eval a X.env) :: starEach es X.env) (hpl : (backTo pos (starEach es X.env)).any (·.1) = false) : QE X xc R (.Call (.Name x p) (a :: es) [] pos) (fun sl g => (fs sl g).bind o) := by
  intro pins s σ H ρ sl g Q I hk hS hH hP
  refine wpAny_Call_Name_kw (ld_blt I hg hm hv ?_ hn hdb)
  exact PyProof.Rows.callWith_builtin1 (thnT hk (ha pos pins s σ H ρ sl g _ I hk hS hH (Post.bind hP)) fun us s1 hk1 qq1 => ap_elim qq1 fun vs H1 I1 r1 ρ1 ws g1 X1 hH1 rw1 hP1 => hc pins s1 σ H1 vs us ρ1 ws g1 Q _ I1 hk1 r1 rw1 hH1 hP1) he hpl
theorem qe_callTy {x : Str} {T : String} {o : List W → G → Res W} {p : Pos} (hc : PrimN X xc (.type T) o) (hg : Gl X x) (hm : X.mg x = none) (hv : bootBuiltins x = some (.type T)) (ha : QA X xc R (a :: es) fs) (hn : x ≠ "__name__") (hdb : (x == ("__debug__" : Str)) = false)
    (he : starEach (a :: es) X.env = (false, eval a X.env) :: starEach es X.env) (hpl : (backTo pos (starEach es X.env)).any (·.1) = false) : QE X xc R (.Call (.Name x p) (a :: es) [] pos) (fun sl g => (fs sl g).bind o) := by
  intro pins s σ H ρ sl g Q I hk hS hH hP
  refine wpAny_Call_Name_kw (ld_blt I hg hm hv ?_ hn hdb)
  exact PyProof.Rows.callWith_type1 (thnT hk (ha pos pins s σ H ρ sl g _ I hk hS hH (Post.bind hP)) fun us s1 hk1 qq1 => ap_elim qq1 fun vs H1 I1 r1 ρ1 ws g1 X1 hH1 rw1 hP1 => hc pins s1 σ H1 vs us ρ1 ws g1 Q _ I1 hk1 r1 rw1 hH1 hP1) he hpl
theorem qe_bm {name : Str} {m : W → List W → G → Res W} {apos : Pos}
    (ha : QE X xc R a fa) (hb : QA X xc R (b :: es) fs) (hbase : attributeBase a name X.env (eval a X.env) = eval a X.env)
    (hfew : ((backTo pos (starEach (b :: es) X.env)).all (fun x => !x.1) && (backToKw pos (keywordEach [] X.env)).all (fun x => x.1.isSome)
      && decide ((b :: es).length + ([] : List Keyword).length + (if ([] : List Keyword).isEmpty then 0 else 1) < 30)) = true)
    (hline : (apos.endLine == pos.line) = true) (hs : starEach (b :: es) X.env = (false, eval b X.env) :: starEach es X.env) (hplain : (backTo pos (starEach es X.env)).any (·.1) = false) (chk : W → G → Bool)
    (hchk : ∀ ρ H g w v, RH X.K xc ρ g H → RW X.K xc ρ H w v → chk w g = true → ∃ T id m', PlainAttrs T ∧ Slot T name id ∧ typeOf (.builtin id) = pure (.type "method_descriptor") ∧ PrimM X xc id m' ∧ tyV X.K T v H ∧ ∀ as g, m w as g = m' w as g) :
    QE X xc R (.Call (.Attribute a name apos) (b :: es) [] pos) (fun sl g => (fa sl g).bind fun x g1 => if chk x g1 then (fs sl g1).bind fun ws g2 => m x ws g2 else .stuck) := by
  intro pins s σ H ρ sl g Q I hk hS hH hP
  refine wpAny_Call_method_late hbase hfew hline rfl (thnT hk (ha pins s σ H ρ sl g _ I hk hS hH (Post.bind hP)) fun v s1 hk1 qq1 => ep_elim qq1 fun x H1 I1 r1 ρ1 w1 g1 X1 hH1 rw1 hP1 => ?_)
  by_cases hc : chk w1 g1 = true
  · rw [if_pos hc] at hP1
    obtain ⟨T, id, m', pa, slot, hty, hm, hty', hmm⟩ := hchk ρ1 H1 g1 w1 x hH1 rw1 hc
    obtain ⟨h1, h2⟩ := tyV_is I1 r1 hty'
    refine ⟨T, id, pa, slot, hty, h1, h2, ?_⟩
    have hA := hb pos pins s1 σ H1 ρ1 sl g1 _ I1 hk1 (hS.mono X1) hH1 (Post.bind hP1)
    rw [hs] at hA ⊢
    refine Calls.callWith_builtin (by show (false || (backTo pos (starEach es X.env)).any (·.1)) = false; rw [hplain] <;> rfl) (Calls.evalArgs_plain ?_)
    refine thnT hk1 hA fun us s2 hk2 qq2 => ap_elim qq2 fun vs H2 I2 r2 ρ2 ws g2 X2 hH2 rw2 hP2 => ?_
    rw [hmm] at hP2
    exact hm pins s2 σ H2 x vs v us ρ2 w1 ws g2 Q _ I2 hk2 r1 r2 (RW.mono X2 w1 rw1) rw2 hH2 hP2
  · rw [if_neg hc] at hP1
    exact hP1.elim
theorem qe_bm0 {name : Str} {m : W → List W → G → Res W} {apos : Pos} (ha : QE X xc R a fa) (hbase : attributeBase a name X.env (eval a X.env) = eval a X.env) (hline : (apos.endLine == pos.line) = true) (chk : W → G → Bool)
    (hchk : ∀ ρ H g w v, RH X.K xc ρ g H → RW X.K xc ρ H w v → chk w g = true → ∃ T id m', PlainAttrs T ∧ Slot T name id ∧ typeOf (.builtin id) = pure (.type "method_descriptor") ∧ PrimM X xc id m' ∧ tyV X.K T v H ∧ ∀ as g, m w as g = m' w as g) :
    QE X xc R (.Call (.Attribute a name apos) [] [] pos) (fun sl g => (fa sl g).bind fun x g1 => if chk x g1 then (Res.ok ([] : List W) g1).bind fun ws g2 => m x ws g2 else .stuck) := by
  intro pins s σ H ρ sl g Q I hk hS hH hP
  refine wpAny_Call_method0_late hbase hline (thnT hk (ha pins s σ H ρ sl g _ I hk hS hH (Post.bind hP)) fun v s1 hk1 qq1 => ep_elim qq1 fun x H1 I1 r1 ρ1 w1 g1 X1 hH1 rw1 hP1 => ?_)
  by_cases hc : chk w1 g1 = true
  · rw [if_pos hc] at hP1
    obtain ⟨T, id, m', pa, slot, hty, hm, hty', hmm⟩ := hchk ρ1 H1 g1 w1 x hH1 rw1 hc
    obtain ⟨h1, h2⟩ := tyV_is I1 r1 hty'
    have hP1 : Post X.K xc (RW X.K xc) ρ1 H1 Q (fun c H' => R σ (xc c) H') (m w1 [] g1) := hP1
    rw [hmm] at hP1
    exact ⟨T, id, pa, slot, hty, h1, h2, Calls.callWith_builtin rfl (PySem.evalArgs_none (hm pins s1 σ H1 x [] v [] ρ1 w1 [] g1 Q _ I1 hk1 r1 .nil rw1 RWs.nil hH1 hP1))⟩
  · rw [if_neg hc] at hP1
    exact hP1.elim
end
end Ev
set_option Elab.async false
set_option linter.all false
set_option maxRecDepth 100000
namespace Ev
open PySem PySem.Spec PyProof.Rows PySem.SeqAt L2
section
variable {X : Cx} {xc : Nat → Addr} {R : RK} {a b c : Expr} {fa fb fc : Sl → G → Res W} {pos : Pos} {es : List Expr} {fs : Sl → G → Res (List W)}
theorem ty_append {ρ : List Addr} {H : Hp} {g : G} {w : W} {v : V} (hH : RH X.K xc ρ g H) (r : RW X.K xc ρ H w v) (h : mtT .append w g = true) : tyV X.K "list" v H := by
  cases w with
  | ref i =>
    have h : (match g[i]? with | some (.lst _) => true | none => false) = true := h
    cases ho : g[i]? with
    | none => rw [ho] at h; cases h
    | some o =>
      cases o with
      | lst ws =>
        obtain ⟨p, vs, rfl, _, e1, _⟩ := rw_lst hH r ho
        exact .inl ⟨rfl, vs, SqL.of e1⟩
  | _ => cases h
theorem ty_lst {ρ : List Addr} {H : Hp} {g : G} {i : Nat} {v : V} (hH : RH X.K xc ρ g H) (r : RW X.K xc ρ H (.ref i) v) (h : isLst g i = true) : tyV X.K "list" v H := ty_append hH r h
theorem mt_sel {mt : Mt} {name : Str} (hn : (mt = .append ∧ name = "append") ∨ (mt = .index ∧ name = "index") ∨ (mt = .count ∧ name = "count") ∨ (mt = .pop ∧ name = "pop") ∨ (mt = .insert ∧ name = "insert") ∨ (mt = .reverse ∧ name = "reverse"))
    (ρ : List Addr) (H : Hp) (g : G) (w : W) (v : V) (hH : RH X.K xc ρ g H) (r : RW X.K xc ρ H w v) (h : mtT mt w g = true) :
    ∃ T id m', PlainAttrs T ∧ Slot T name id ∧ typeOf (.builtin id) = pure (.type "method_descriptor") ∧ PrimM X xc id m' ∧ tyV X.K T v H ∧ ∀ as g, mthW mt w as g = m' w as g := by
  rcases hn with ⟨rfl, rfl⟩ | ⟨rfl, rfl⟩ | ⟨rfl, rfl⟩ | ⟨rfl, rfl⟩ | ⟨rfl, rfl⟩ | ⟨rfl, rfl⟩
  · exact ⟨_, _, _, F.plainAttrs_list, F.slot_list_append, F.type_list_append, m_append, ty_append hH r h, fun _ _ => rfl⟩
  · cases w with
    | ref i => exact ⟨_, _, _, F.plainAttrs_list, F.slot_list_index, F.type_list_index, m_lindex, ty_lst hH r h, fun _ _ => rfl⟩
    | _ => cases h
  · cases w with
    | ref i => exact ⟨_, _, _, F.plainAttrs_list, F.slot_list_count, F.type_list_count, m_count, ty_lst hH r h, fun _ _ => rfl⟩
    | _ => cases h
  · cases w with
    | ref i => exact ⟨_, _, _, F.plainAttrs_list, F.slot_list_pop, F.type_list_pop, m_pop, ty_lst hH r h, fun _ _ => rfl⟩
    | _ => cases h
  · cases w with
    | ref i => exact ⟨_, _, _, F.plainAttrs_list, F.slot_list_insert, F.type_list_insert, m_insert, ty_lst hH r h, fun _ _ => rfl⟩
    | _ => cases h
  · cases w with
    | ref i => exact ⟨_, _, _, F.plainAttrs_list, F.slot_list_reverse, F.type_list_reverse, m_reverse, ty_lst hH r h, fun _ _ => rfl⟩
    | _ => cases h
structure XOk (P : Cfg) (K : PySem.W.Frag) (xc : Nat → Addr) : Prop where
  sub : ∀ c d, P.xsub c d = true → XSub K (xc c) (xc d)
  isi : ∀ c d, c < P.nx → d < P.nx → PySem.W.kitOne K (.ref (xc c)) (.ref (xc d)) = some (P.xsub c d)
  val : ∀ c, c < P.nx → PySem.W.kitOne K (.ref (xc c)) (.type "ValueError") = some true
  q : ∀ c, c < P.nx → ExcQ K (xc c)
noncomputable def tyC (xc : Nat → Addr) : Ty → V
  | .b n => .ty n
  | .x d => .ref (xc d)
theorem isi_ok {P : Cfg} {ρ : List Addr} {H : Hp} {g : G} {w : W} {x : V} {t : Ty} {k : Bool} (O : XOk P X.K xc) (hH : RH X.K xc ρ g H) (r : RW X.K xc ρ H w x) (h : isiW P g w t = some k) {Q : VK} (q : Q (.bl k) H) : rIsi X.K [x, tyC xc t] H Q := by
  have fin : ∀ (ty : Value) (n : String), t = .b n → TyX X.K H x ty → PySem.W.kitOne X.K ty (.type n) = some k → rIsi X.K [x, tyC xc t] H Q := fun ty n e1 e2 e3 => by
    subst e1
    exact ⟨x, _, ty, .type n, k, rfl, e2, .inl ⟨n, rfl, rfl⟩, e3, q⟩
  cases t with
  | x d =>
    have h : isiX P w d = some k := h
    cases w with
    | exc c =>
      have h : (if c < P.nx ∧ d < P.nx then some (P.xsub c d) else none) = some k := h
      by_cases hc : c < P.nx ∧ d < P.nx
      · rw [if_pos hc] at h
        cases h
        unfold RW at r
        obtain ⟨p, rfl, h1⟩ := r
        exact ⟨_, _, .ref (xc c), .ref (xc d), _, rfl, .exc h1 (O.q c hc.1), .inr ⟨_, rfl, rfl⟩, O.isi c d hc.1 hc.2, q⟩
      · rw [if_neg hc] at h; cases h
    | _ => cases h
  | b n =>
    have h : isiB P g w n = some k := h
    cases w with
    | bl _ =>
      unfold RW at r
      subst r
      unfold isiB at h
      dsimp only at h
      split at h <;> first | (cases h; done) | (cases h; exact fin (.type "bool") _ rfl (.of (.bl _)) (by kernel_rfl))
    | int _ =>
      unfold RW at r
      subst r
      unfold isiB at h
      dsimp only at h
      split at h <;> first | (cases h; done) | (cases h; exact fin (.type "int") _ rfl (.of (.int _)) (by kernel_rfl))
    | str _ =>
      unfold RW at r
      subst r
      unfold isiB at h
      dsimp only at h
      split at h <;> first | (cases h; done) | (cases h; exact fin (.type "str") _ rfl (.of (.str _)) (by kernel_rfl))
    | tup _ =>
      unfold RW at r
      obtain ⟨p, vs, rfl, h1, h2⟩ := r
      unfold isiB at h
      dsimp only at h
      split at h <;> first | (cases h; done) | (cases h; exact fin (.type "tuple") _ rfl (.of (.tup h1)) (by kernel_rfl))
    | ref i =>
      unfold isiB at h
      dsimp only at h
      split at h
      · cases ho : g[i]? with
        | none => rw [ho] at h; cases h
        | some o =>
          rw [ho] at h
          cases o with
          | lst ws =>
            cases h
            obtain ⟨p, vs, rfl, _, e1, _⟩ := rw_lst hH r ho
            exact fin (.type "list") _ rfl (.of (.lst e1)) (by kernel_rfl)
      · cases h
    | exc c =>
      unfold isiB at h
      dsimp only at h
      split at h
      · by_cases hc : c < P.nx
        · rw [if_pos hc] at h
          cases h
          unfold RW at r
          obtain ⟨p, rfl, h1⟩ := r
          exact fin (.ref (xc c)) _ rfl (.exc h1 (O.q c hc)) (O.val c hc)
        · rw [if_neg hc] at h; cases h
      · cases h
    | _ => cases h
theorem qe_isi {P : Cfg} {t : Ty} {T : Expr} {p : Pos} (O : XOk P X.K xc) (hg : Gl X "isinstance") (hm : X.mg "isinstance" = none) (ha : QE X xc R a fa) (hT : PE X T (tC (tyC xc t)))
    (he : starEach [a, T] X.env = [(false, eval a X.env), (false, eval T X.env)]) (he2 : starEach [T] X.env = [(false, eval T X.env)]) :
    QE X xc R (.Call (.Name "isinstance" p) [a, T] [] pos) (fun sl g => (fa sl g).bind fun x g1 => Res.of ((isiW P g1 x t).map .bl) g1) := by
  intro pins s σ H ρ sl g Q I hk hS hH hP
  refine wpAny_Call_Name_kw (ld_blt (u := .builtin "isinstance") I hg hm (by kernel_rfl) ?_ (by decide) (by decide))
  refine PyProof.Rows.callWith_builtin1 ?_ (by rw [he, he2]) (by rw [he2]; rfl)
  rw [he]
  show wpAny _ _ (spliced ((false, eval a X.env) :: backTo pos [(false, eval T X.env)])) _ _ s
  refine Calls.spliced_cons (thnT hk (ha pins s σ H ρ sl g _ I hk hS hH (Post.bind hP)) fun u s1 hk1 qq1 => ep_elim qq1 fun x H1 I1 r1 ρ1 w1 g1 X1 hH1 rw1 hP1 => ?_)
  refine Calls.spliced_cons (thn (hT pins s1 σ H1 (fun v H2 => v = tyC xc t ∧ H2 = H1) I1 ⟨rfl, rfl⟩) fun u2 s2 qq9 => ?_)
  obtain ⟨y, H2, I2, r2, e1, e2⟩ := qq9
  subst e1 e2
  refine Calls.spliced_nil ?_
  obtain ⟨k, e, hP2⟩ := of_map hP1
  exact call_isi pins s2 σ H2 [x, tyC xc t] [u, u2] Q I2 (.cons r1 (.cons r2 .nil)) (isi_ok O hH1 rw1 e (hP2 ρ1 H2 _ Ext.refl hH1 rw_bl))
end
end Ev
set_option Elab.async false
set_option linter.all false
set_option maxRecDepth 100000
namespace Ev
open PySem PySem.Spec PyProof.Rows PySem.SeqAt L2
section
variable {K : PySem.W.Frag} {xc : Nat → Addr} {ρ ρ' : List Addr} {H : Hp}
mutual
theorem renW_ok (m : Nat → Nat) : ∀ (w : W) {v : V}, (∀ i a, i ∈ refsW w → ρ[i]? = some a → ρ'[m i]? = some a) → RW K xc ρ H w v → RW K xc ρ' H (renW m w) v
  | .non, _, _, h => by unfold renW; unfold RW at h ⊢; exact h
  | .bl _, _, _, h => by unfold renW; unfold RW at h ⊢; exact h
  | .int _, _, _, h => by unfold renW; unfold RW at h ⊢; exact h
  | .str _, _, _, h => by unfold renW; unfold RW at h ⊢; exact h
  | .tup ws, _, k, h => by
    unfold renW
    unfold RW at h ⊢
    obtain ⟨a, vs, e, h1, h2⟩ := h
    exact ⟨a, vs, e, h1, renWs_ok m ws (fun i a hi => k i a (by unfold refsW; exact hi)) h2⟩
  | .ctup ws, _, k, h => by
    unfold renW
    unfold RW at h ⊢
    obtain ⟨a, vs, e, h1, h2⟩ := h
    exact ⟨a, vs, e, h1, renWs_ok m ws (fun i a hi => k i a (by unfold refsW; exact hi)) h2⟩
  | .flst ws, _, k, h => by
    unfold renW
    unfold RW at h ⊢
    obtain ⟨a, vs, e, h1, h2⟩ := h
    exact ⟨a, vs, e, h1, renWs_ok m ws (fun i a hi => k i a (by unfold refsW; exact hi)) h2⟩
  | .ref i, _, k, h => by
    unfold renW
    unfold RW at h ⊢
    obtain ⟨a, e, h1⟩ := h
    exact ⟨a, e, k i a (by unfold refsW; exact List.mem_cons_self) h1⟩
  | .exc c, _, _, h => by unfold renW; unfold RW at h ⊢; exact h
theorem renWs_ok (m : Nat → Nat) : ∀ (ws : List W) {vs : List V}, (∀ i a, i ∈ refsWs ws → ρ[i]? = some a → ρ'[m i]? = some a) → RWs K xc ρ H ws vs → RWs K xc ρ' H (renWs m ws) vs
  | [], _, _, h => by unfold renWs; unfold RWs at h ⊢; exact h
  | w :: ws, _, k, h => by
    unfold renWs
    unfold RWs at h ⊢
    obtain ⟨v, r, e, h1, h2⟩ := h
    exact ⟨v, r, e, renW_ok m w (fun i a hi => k i a (by unfold refsWs; exact List.mem_append_left _ hi)) h1, renWs_ok m ws (fun i a hi => k i a (by unfold refsWs; exact List.mem_append_right _ hi)) h2⟩
end
theorem renO_ok (m : Nat → Nat) {o : O} {h : Option HO} (k : ∀ i a, i ∈ refsO o → ρ[i]? = some a → ρ'[m i]? = some a) (r : RO K xc ρ H o h) : RO K xc ρ' H (renO m o) h := by
  cases o with
  | lst ws =>
    obtain ⟨vs, e, r⟩ := r
    exact ⟨vs, e, renWs_ok m ws k r⟩
theorem renWs_length (m : Nat → Nat) : ∀ ws : List W, (renWs m ws).length = ws.length
  | [] => by unfold renWs; rfl
  | w :: ws => by unfold renWs; simp [renWs_length m ws]
theorem shut_iff {g : G} {L : List Nat} (h : shut g L = true) : L.Nodup ∧ ∀ i ∈ L, ∃ o, g[i]? = some o ∧ ∀ k ∈ refsO o, k ∈ L := by
  unfold shut at h
  rw [Bool.and_eq_true, List.all_eq_true] at h
  refine ⟨of_decide_eq_true h.1, fun i hi => ?_⟩
  have := h.2 i hi
  cases ho : g[i]? with
  | none => rw [ho] at this; cases this
  | some o =>
    rw [ho] at this
    refine ⟨o, rfl, fun k hk => ?_⟩
    have := List.all_eq_true.mp this k hk
    simpa using this
theorem get_idx {L : List Nat} {i : Nat} (h : i ∈ L) : L[L.idxOf i]? = some i := by
  have hl := List.idxOf_lt_length_of_mem h
  rw [List.getElem?_eq_getElem hl, List.getElem_idxOf hl]
theorem getD_of {α : Type} {l : List α} {i : Nat} {a d : α} (h : l[i]? = some a) : l.getD i d = a := by
  rw [List.getD_eq_getElem?_getD, h]; rfl
variable {g : G} {Q : VK} {Ex : Nat → Hp → Prop}
theorem RH.part {L : List Nat} (hH : RH K xc ρ g H) (hL : shut g L = true) : RH K xc (L.map fun i => ρ.getD i 0) (L.map fun i => renO L.idxOf (g.getD i default)) H ∧
    ∀ i a, i ∈ L → ρ[i]? = some a → (L.map fun i => ρ.getD i 0)[L.idxOf i]? = some a := by
  obtain ⟨hn, hs⟩ := shut_iff hL
  have at' : ∀ i a, i ∈ L → ρ[i]? = some a → (L.map fun i => ρ.getD i 0)[L.idxOf i]? = some a := fun i a hi e => by
    rw [List.getElem?_map, get_idx hi]
    exact congrArg some (getD_of e)
  have inb : ∀ i ∈ L, ∃ a, ρ[i]? = some a := fun i hi => by
    obtain ⟨o, ho, _⟩ := hs i hi
    have hlt : i < ρ.length := by rw [hH.len]; exact (List.getElem?_eq_some_iff.mp ho).1
    exact ⟨_, List.getElem?_eq_getElem hlt⟩
  refine ⟨⟨by simp, ?_, fun j a o e1 e2 => ?_⟩, at'⟩
  · rw [List.nodup_iff_pairwise_ne, List.pairwise_map]
    refine (List.nodup_iff_pairwise_ne.mp hn).imp_of_mem fun {i j} hi hj hij e => hij ?_
    obtain ⟨a, ea⟩ := inb i hi
    obtain ⟨b, eb⟩ := inb j hj
    rw [getD_of ea, getD_of eb] at e
    subst e
    exact nodup_ix' hH.nd ea eb
  · rw [List.getElem?_map] at e1 e2
    cases hj : L[j]? with
    | none => rw [hj] at e1; cases e1
    | some i =>
      rw [hj] at e1 e2
      have hi : i ∈ L := List.mem_of_getElem? hj
      obtain ⟨b, eb⟩ := inb i hi
      obtain ⟨u, eu, ku⟩ := hs i hi
      have e1 : ρ.getD i 0 = a := Option.some.inj e1
      have e2 : renO L.idxOf (g.getD i default) = o := Option.some.inj e2
      rw [getD_of eb] at e1
      rw [getD_of eu] at e2
      subst e1 e2
      exact renO_ok L.idxOf (fun k c hk => at' k c (ku k hk)) (hH.ob i b u eb eu)
theorem RH.back {L N : List Nat} {ρ1 : List Addr} {g1 : G} {H1 : Hp} (hH : RH K xc ρ g H) (hL : shut g L = true) (x : Ext (L.map fun i => ρ.getD i 0) H ρ1 H1) (h1 : RH K xc ρ1 g1 H1) (hN : shut g1 (List.range L.length ++ N) = true) :
    let m : Nat → Nat := fun j => if j < L.length then L.getD j 0 else g.length + N.idxOf j
    let ρ' := ρ ++ N.map fun j => ρ1.getD j 0
    Ext ρ H ρ' H1 ∧ RH K xc ρ' ((List.range g.length).map (fun i => if L.contains i then renO m (g1.getD (L.idxOf i) default) else g.getD i default) ++ N.map fun j => renO m (g1.getD j default)) H1 ∧
      ∀ k a, k ∈ List.range L.length ++ N → ρ1[k]? = some a → ρ'[m k]? = some a := by
  intro m ρ'
  obtain ⟨hn, hs⟩ := shut_iff hL
  obtain ⟨hn1, hs1⟩ := shut_iff hN
  obtain ⟨hnR, hnN, hdis⟩ := List.nodup_append.mp hn1
  obtain ⟨hp, at'⟩ := hH.part hL
  have inb : ∀ i ∈ L, ∃ a, ρ[i]? = some a := fun i hi => by
    obtain ⟨o, ho, _⟩ := hs i hi
    have hlt : i < ρ.length := by rw [hH.len]; exact (List.getElem?_eq_some_iff.mp ho).1
    exact ⟨_, List.getElem?_eq_getElem hlt⟩
  have inN : ∀ j ∈ N, ∃ a, ρ1[j]? = some a := fun j hj => by
    obtain ⟨o, ho, _⟩ := hs1 j (List.mem_append_right _ hj)
    have hlt : j < ρ1.length := by rw [h1.len]; exact (List.getElem?_eq_some_iff.mp ho).1
    exact ⟨_, List.getElem?_eq_getElem hlt⟩
  have nge : ∀ j ∈ N, ¬ j < L.length := fun j hj hlt => hdis j (List.mem_range.mpr hlt) j hj rfl
  -- the callee's places are the caller's
  have sub0 : ∀ a, a ∈ (L.map fun i => ρ.getD i 0) → a ∈ ρ := fun a ha => by
    obtain ⟨i, hi, rfl⟩ := List.mem_map.mp ha
    obtain ⟨b, eb⟩ := inb i hi
    rw [getD_of eb]
    exact List.mem_of_getElem? eb
  have low : ∀ j i, L[j]? = some i → ρ1[j]? = ρ[i]? := fun j i hj => by
    obtain ⟨b, eb⟩ := inb i (List.mem_of_getElem? hj)
    have : (L.map fun i => ρ.getD i 0)[j]? = some b := by rw [List.getElem?_map, hj]; exact congrArg some (getD_of eb)
    rw [eb]
    exact get_pre x.pre this
  have newN : ∀ j ∈ N, ∀ a, ρ1[j]? = some a → a ∉ ρ := fun j hj a ea har => by
    rcases x.new a (List.mem_of_getElem? ea) with z | z
    · obtain ⟨i, hi⟩ := List.getElem?_of_mem z
      have hi1 := get_pre x.pre hi
      have := nodup_ix' h1.nd hi1 ea
      subst this
      have hlt := (List.getElem?_eq_some_iff.mp hi).1
      rw [List.length_map] at hlt
      exact nge _ hj hlt
    · obtain ⟨o, e⟩ := hH.tracked har
      rw [z] at e
      cases e
  have X' : Ext ρ H ρ' H1 := by
    refine ⟨List.prefix_append _ _, fun b o e hb => x.frm b o e fun z => hb (sub0 b z), x.im, fun a ha => ?_⟩
    rcases List.mem_append.mp ha with z | z
    · exact .inl z
    · obtain ⟨j, hj, rfl⟩ := List.mem_map.mp z
      obtain ⟨b, eb⟩ := inN j hj
      rw [getD_of eb]
      rcases x.new b (List.mem_of_getElem? eb) with z | z
      · exact .inl (sub0 b z)
      · exact .inr z
  have pl : ∀ k a, k ∈ List.range L.length ++ N → ρ1[k]? = some a → ρ'[m k]? = some a := fun k a hk e => by
    rcases List.mem_append.mp hk with hk | hk
    · have hlt := List.mem_range.mp hk
      have hLk : L[k]? = some L[k] := List.getElem?_eq_getElem hlt
      show ρ'[if k < L.length then L.getD k 0 else g.length + N.idxOf k]? = some a
      rw [if_pos hlt, getD_of hLk]
      rw [low k _ hLk] at e
      exact get_pre (List.prefix_append _ _) e
    · show ρ'[if k < L.length then L.getD k 0 else g.length + N.idxOf k]? = some a
      rw [if_neg (nge k hk), ← hH.len, List.getElem?_append_right (by omega), Nat.add_sub_cancel_left, List.getElem?_map, get_idx hk]
      exact congrArg some (getD_of e)
  refine ⟨X', ⟨by simp [ρ', hH.len], ?_, fun i a o e1 e2 => ?_⟩, pl⟩
  · refine List.nodup_append.mpr ⟨hH.nd, ?_, fun a ha b hb hab => ?_⟩
    · rw [List.nodup_iff_pairwise_ne, List.pairwise_map]
      refine (List.nodup_iff_pairwise_ne.mp hnN).imp_of_mem fun {i j} hi hj hij e => hij ?_
      obtain ⟨a, ea⟩ := inN i hi
      obtain ⟨b, eb⟩ := inN j hj
      rw [getD_of ea, getD_of eb] at e
      subst e
      exact nodup_ix' h1.nd ea eb
    · subst hab
      obtain ⟨j, hj, rfl⟩ := List.mem_map.mp hb
      obtain ⟨b, eb⟩ := inN j hj
      rw [getD_of eb] at ha
      exact newN j hj b eb ha
  · by_cases hi : i < ρ.length
    · rw [List.getElem?_append_left hi] at e1
      rw [List.getElem?_append_left (by simpa [← hH.len] using hi), List.getElem?_map, List.getElem?_range (by rw [← hH.len]; exact hi)] at e2
      have e2 : (if L.contains i then renO m (g1.getD (L.idxOf i) default) else g.getD i default) = o := Option.some.inj e2
      by_cases hc : i ∈ L
      · rw [if_pos (by simpa using hc)] at e2
        have hj := get_idx hc
        have ea : ρ1[L.idxOf i]? = some a := by rw [low _ _ hj]; exact e1
        obtain ⟨u, eu, ru⟩ := h1.isobj ea
        rw [getD_of eu] at e2
        subst e2
        obtain ⟨u', eu', ku⟩ := hs1 (L.idxOf i) (List.mem_append_left _ (List.mem_range.mpr (List.idxOf_lt_length_of_mem hc)))
        rw [eu] at eu'
        cases eu'
        exact renO_ok m (fun k c hk => pl k c (ku k hk)) ru
      · rw [if_neg (by simpa using hc)] at e2
        obtain ⟨u, eu, ru⟩ := hH.isobj e1
        rw [getD_of eu] at e2
        subst e2
        have hna : a ∉ (L.map fun i => ρ.getD i 0) := fun z => by
          obtain ⟨i', hi', e'⟩ := List.mem_map.mp z
          obtain ⟨b, eb⟩ := inb i' hi'
          rw [getD_of eb] at e'
          subst e'
          have := nodup_ix' hH.nd e1 eb
          subst this
          exact hc hi'
        obtain ⟨ob, eob⟩ := hH.tracked (List.mem_of_getElem? e1)
        exact RO.mono X' (by rw [x.frm a ob eob hna, eob]) ru
    · have hi' : ρ.length ≤ i := by omega
      rw [List.getElem?_append_right hi', List.getElem?_map] at e1
      rw [List.getElem?_append_right (by simpa [← hH.len] using hi'), List.getElem?_map] at e2
      simp only [List.length_map, List.length_range, ← hH.len] at e2
      cases hj : N[i - ρ.length]? with
      | none => rw [hj] at e1; cases e1
      | some j =>
        rw [hj] at e1 e2
        have hjN := List.mem_of_getElem? hj
        obtain ⟨b, eb⟩ := inN j hjN
        obtain ⟨u, eu, ru⟩ := h1.isobj eb
        have e1 : ρ1.getD j 0 = a := Option.some.inj e1
        have e2 : renO m (g1.getD j default) = o := Option.some.inj e2
        rw [getD_of eb] at e1
        rw [getD_of eu] at e2
        subst e1 e2
        obtain ⟨u', eu', ku⟩ := hs1 j (List.mem_append_right _ hjN)
        rw [eu] at eu'
        cases eu'
        exact renO_ok m (fun k c hk => pl k c (ku k hk)) ru
theorem callR_ok {run : Nat → List W → G → Res W} {f : Nat} {ws : List W} {vs : List V} (hH : RH K xc ρ g H) (r : RWs K xc ρ H ws vs) (hP : Post K xc (RW K xc) ρ H Q Ex (callR run f ws g)) :
    ∃ ρ0 args g0, RH K xc ρ0 g0 H ∧ RWs K xc ρ0 H args vs ∧ args.length = ws.length ∧ Post K xc (RW K xc) ρ0 H Q Ex (run f args g0) := by
  unfold callR at hP
  dsimp only at hP
  generalize clos g cFuel (refsWs ws) [] = L at hP
  by_cases hc : (shut g L && (refsWs ws).all L.contains) = true
  · rw [if_pos hc] at hP
    rw [Bool.and_eq_true] at hc
    obtain ⟨h0, at'⟩ := hH.part hc.1
    refine ⟨_, _, _, h0, renWs_ok L.idxOf ws (fun i a hi e => at' i a (by simpa using List.all_eq_true.mp hc.2 i hi) e) r, renWs_length _ _, ?_⟩
    revert hP
    cases run f (renWs L.idxOf ws) (L.map fun i => renO L.idxOf (g.getD i default)) with
    | ok v g1 =>
      dsimp only
      generalize (clos g1 cFuel (refsW v) (List.range L.length)).drop L.length = N
      intro hP ρ1 H1 b x h1 rb
      by_cases hN : (shut g1 (List.range L.length ++ N) && (refsW v).all (List.range L.length ++ N).contains) = true
      · rw [if_pos hN] at hP
        rw [Bool.and_eq_true] at hN
        obtain ⟨X', h', pl⟩ := hH.back hc.1 x h1 hN.1
        exact hP _ H1 b X' h' (renW_ok _ v (fun i a hi e => pl i a (by simpa using List.all_eq_true.mp hN.2 i hi) e) rb)
      · rw [if_neg hN] at hP
        exact hP.elim
    | exc c g1 =>
      dsimp only
      generalize (clos g1 cFuel (refsW .non) (List.range L.length)).drop L.length = N
      intro hP ρ1 H1 x h1
      by_cases hN : (shut g1 (List.range L.length ++ N) && (refsW .non).all (List.range L.length ++ N).contains) = true
      · rw [if_pos hN] at hP
        rw [Bool.and_eq_true] at hN
        obtain ⟨X', h', pl⟩ := hH.back hc.1 x h1 hN.1
        exact hP _ H1 X' h'
      · rw [if_neg hN] at hP
        exact hP.elim
    | stuck => exact fun h => h
  · rw [if_neg hc] at hP
    exact hP.elim
theorem callM_ok {wh : Nat → Bool} {run : Nat → List W → G → Res W} {f : Nat} {ws : List W} {vs : List V} (hH : RH K xc ρ g H) (r : RWs K xc ρ H ws vs) (hP : Post K xc (RW K xc) ρ H Q Ex (callM wh run f ws g)) :
    ∃ ρ0 args g0, RH K xc ρ0 g0 H ∧ RWs K xc ρ0 H args vs ∧ args.length = ws.length ∧ Post K xc (RW K xc) ρ0 H Q Ex (run f args g0) := by
  unfold callM at hP
  by_cases h : wh f = true
  · rw [if_pos h] at hP
    exact ⟨ρ, ws, g, hH, r, rfl, hP⟩
  · rw [if_neg h] at hP
    exact callR_ok hH r hP
end
end Ev
set_option Elab.async false
set_option linter.all false
set_option maxRecDepth 100000
namespace Ev
open PySem PySem.Spec PyProof.Rows PySem.SeqAt L2
section
variable {X : Cx} {xc : Nat → Addr} {R : RK} {a b c tg : Expr} {fa fb fc : Sl → G → Res W} {pos : Pos} {es : List Expr} {fs : Sl → G → Res (List W)}
noncomputable def isL : W → Bool
  | .flst _ => true
  | .ref _ => true
  | _ => false
noncomputable def relI (K : PySem.W.Frag) (xc : Nat → Addr) (ρ : List Addr) (H : Hp) : Ev.It → L2.It → Prop
  | .val w, L => ∃ a, RW K xc ρ H w (.ref a) ∧ ((isL w = true ∧ L = Itl K a) ∨ (isL w = false ∧ L = Itt K a))
  | .rng lo n, L => L = Itr lo n
variable (X xc R) in
noncomputable def QI (tg iter : Expr) (f : Sl → G → Res Ev.It) : Prop :=
  ∀ (pins : List (Addr × Obj)) (s : Shared) (σ : L2.St) (H : Hp) (ρ : List Addr) (sl : Sl) (g : G) (Q : L2.It → Hp → Prop), Inv X pins σ H s → 0 < s.toks → RS X.K xc ρ H sl σ → RH X.K xc ρ g H →
    Post X.K xc (relI X.K xc) ρ H Q (fun c H' => R σ (xc c) H') (f sl g) → wpAny (model X.prog X.w) X.A (eval iter X.env) (fun v s1 => wpAny (model X.prog X.w) X.A (pyIter v) (PIE X pins σ tg Q) X.xe s1) X.xe s
theorem items_kind {ρ : List Addr} {H : Hp} {w : W} {v : V} {g : G} {ws : List W} (hH : RH X.K xc ρ g H) (r : RW X.K xc ρ H w v) (h : items g w = some ws) : ∃ a vs, v = .ref a ∧ ((isL w = true ∧ SqL X.K H a vs) ∨ (isL w = false ∧ SqT X.K H a vs)) ∧ RWs X.K xc ρ H ws vs := by
  cases w with
  | tup zs =>
    unfold RW at r
    obtain ⟨a, vs, e, h1, h2⟩ := r
    cases h
    exact ⟨a, vs, e, .inr ⟨rfl, SqT.of h1⟩, h2⟩
  | ctup zs =>
    unfold RW at r
    obtain ⟨a, vs, e, ⟨o, its, n, k1, k2, k3, k4, k5, k6⟩, h2⟩ := r
    cases h
    exact ⟨a, vs, e, .inr ⟨rfl, .inr ⟨o, its, n, k1, k2, k4, k5, k6⟩⟩, h2⟩
  | flst zs =>
    unfold RW at r
    obtain ⟨a, vs, e, h1, h2⟩ := r
    cases h
    exact ⟨a, vs, e, .inl ⟨rfl, h1.imp (fun ⟨o, q⟩ => .inr ⟨o, q⟩) id⟩, h2⟩
  | ref i =>
    unfold RW at r
    obtain ⟨a, e, h1⟩ := r
    obtain ⟨o, eo, ro⟩ := hH.isobj h1
    simp only [items, eo] at h
    cases o with
    | lst zs =>
      cases h
      obtain ⟨vs, e1, r1⟩ := ro
      exact ⟨a, vs, e, .inl ⟨rfl, SqL.of e1⟩, r1⟩
  | _ => cases h
theorem qi_val (ha : QE X xc R a fa) : QI X xc R tg a (fun sl g => (fa sl g).bind fun w g1 => match valI g1 w with | some J => .ok J g1 | none => .stuck) := by
  intro pins s σ H ρ sl g Q I hk hS hH hP
  refine thnT hk (ha pins s σ H ρ sl g _ I hk hS hH (Post.bind hP)) fun v s1 hk1 qq1 => ep_elim qq1 fun x H1 I1 r1 ρ1 w1 g1 X1 hH1 rw1 hP1 => ?_
  unfold valI at hP1
  cases hi : items g1 w1 with
  | none => rw [hi] at hP1; exact hP1.elim
  | some ws =>
    rw [hi] at hP1
    obtain ⟨p, vs, rfl, hq, rs⟩ := items_kind hH1 rw1 hi
    cases r1
    rcases hq with ⟨hl, hq⟩ | ⟨hl, hq⟩
    · have q : Q (Itl X.K p) H1 := hP1 ρ1 H1 _ Ext.refl hH1 ⟨p, rw1, .inl ⟨hl, rfl⟩⟩
      obtain ⟨its, rv, pl, hz⟩ := I1.list hq
      refine wpAny_pyIter_list pl.isList ⟨s1.heap.objs.size, [s1.heap.objs.size], _, _, H1, rfl, I1.kept (t' := s1.toks) fun b o e => Heap.get?_push_of_some _ e, turn_list p _, ⟨_, Heap.get?_push_size _ rfl, rfl, rfl⟩, fun b hb => ?_, q⟩
      rw [show b = s1.heap.objs.size by simpa using hb]
      exact I1.fpOk (Nat.le_refl _) (I1.hok.fresh (Nat.le_refl _))
    · have q : Q (Itt X.K p) H1 := hP1 ρ1 H1 _ Ext.refl hH1 ⟨p, rw1, .inr ⟨hl, rfl⟩⟩
      obtain ⟨its, rv, pl, hz⟩ := I1.tuple hq
      refine wpAny_pyIter_tuple (show s1.heap.IsTuple p its.toArray from pl) ⟨s1.heap.objs.size, [s1.heap.objs.size], _, _, H1, rfl, I1.kept (t' := s1.toks) fun b o e => Heap.get?_push_of_some _ e, turn_tuple p _, ⟨_, Heap.get?_push_size _ rfl, rfl, rfl⟩, fun b hb => ?_, q⟩
      rw [show b = s1.heap.objs.size by simpa using hb]
      exact I1.fpOk (Nat.le_refl _) (I1.hok.fresh (Nat.le_refl _))
noncomputable def rngF (fs : Sl → G → Res (List W)) : Sl → G → Res Ev.It := fun sl g => (fs sl g).bind fun ws g1 => match rngI ws with
  | some J => .ok J g1
  | none => .stuck
noncomputable def oneF (fa : Sl → G → Res W) : Sl → G → Res (List W) := fun sl g => (fa sl g).bind fun x g1 => (Res.ok [] g1).bind fun xs g2 => .ok (x :: xs) g2
theorem qi_rng1 {p : Pos} (hg : Gl X "range") (hm : X.mg "range" = none) (ha : QE X xc R a fa) (hs : starEach [a] X.env = [(false, eval a X.env)]) : QI X xc R tg (.Call (.Name "range" p) [a] [] pos) (rngF (oneF fa)) := by
  intro pins s σ H ρ sl g Q I hk hS hH hP
  have hP : Post X.K xc (relI X.K xc) ρ H Q (fun c H' => R σ (xc c) H') ((fa sl g).bind fun x g1 => match rngI [x] with | some J => .ok J g1 | none => .stuck) := by
    revert hP
    unfold rngF oneF
    cases fa sl g <;> exact fun h => h
  refine Call_ (ld_blt I hg hm boot_range (PyProof.Rows.callWith_type1 ?_ hs rfl))
  rw [hs]
  show wpAny _ _ (spliced ((false, eval a X.env) :: backTo pos [])) _ _ s
  refine Calls.spliced_cons (thnT hk (ha pins s σ H ρ sl g _ I hk hS hH (Post.bind hP)) fun u s1 hk1 qq1 => ep_elim qq1 fun x H1 I1 r1 ρ1 w1 g1 X1 hH1 rw1 hP1 => ?_)
  refine Calls.spliced_nil ?_
  cases w1 with
  | int j =>
    have hP1 : Post X.K xc (relI X.K xc) ρ1 H1 Q (fun c H' => R σ (xc c) H') (match (if -4611686018427387904 ≤ j ∧ j < 4611686018427387904 then some (Ev.It.rng 0 j.toNat) else none) with | some J => .ok J g1 | none => .stuck) := hP1
    unfold RW at rw1
    subst rw1
    by_cases hj : -4611686018427387904 ≤ j ∧ j < 4611686018427387904
    · rw [if_pos hj] at hP1
      obtain ⟨t, rfl⟩ := r1
      have q : Q (Itr 0 j.toNat) H1 := hP1 ρ1 H1 _ Ext.refl hH1 rfl
      exact call_range_1 (range_it I1 (by omega) (by omega) (by omega) (by omega) (by simpa using q))
    · rw [if_neg hj] at hP1; exact hP1.elim
  | _ => exact hP1.elim
theorem nxt_go {ρ : List Addr} {H : Hp} {g : G} {J : Ev.It} {L : L2.It} {i : Nat} {x : W} (hH : RH X.K xc ρ g H) (r : relI X.K xc ρ H J L) (h : J.nxt i g = some (some x)) : L.go i H ∧ ∀ v H', L.yld i H v H' → H' = H ∧ RW X.K xc ρ H x v := by
  cases J with
  | val w =>
    obtain ⟨p, rw1, hL⟩ := r
    have h : (items g w).map (fun ws => ws[i]?) = some (some x) := h
    cases hi : items g w with
    | none => rw [hi] at h; cases h
    | some ws =>
      rw [hi] at h
      have h : ws[i]? = some x := Option.some.inj h
      obtain ⟨p', vs, e, hq, rs⟩ := items_kind hH rw1 hi
      cases e
      obtain ⟨v, ev, rv⟩ := rs.get h
      rcases hL with ⟨hl, rfl⟩ | ⟨hl, rfl⟩
      · rcases hq with ⟨_, hq⟩ | ⟨hl', _⟩
        · refine ⟨⟨vs, v, hq, ev⟩, fun v' H' ⟨e1, e2⟩ => ⟨e1, ?_⟩⟩
          have := e2 vs hq
          rw [ev] at this
          cases this
          exact rv
        · rw [hl] at hl'; cases hl'
      · rcases hq with ⟨hl', _⟩ | ⟨_, hq⟩
        · rw [hl] at hl'; cases hl'
        · refine ⟨⟨vs, v, hq, ev⟩, fun v' H' ⟨e1, e2⟩ => ⟨e1, ?_⟩⟩
          have := e2 vs hq
          rw [ev] at this
          cases this
          exact rv
  | rng lo n =>
    have r : L = Itr lo n := r
    subst r
    have h : some (if i < n then some (W.int (lo + i)) else none) = some (some x) := h
    by_cases hi : i < n
    · rw [if_pos hi] at h
      cases h
      exact ⟨hi, fun v H' ⟨e1, e2⟩ => ⟨e1, by subst e2; exact rw_int⟩⟩
    · rw [if_neg hi] at h; cases h
theorem nxt_stop {ρ : List Addr} {H : Hp} {g : G} {J : Ev.It} {L : L2.It} {i : Nat} (hH : RH X.K xc ρ g H) (r : relI X.K xc ρ H J L) (h : J.nxt i g = some none) : L.stop i H := by
  cases J with
  | val w =>
    obtain ⟨p, rw1, hL⟩ := r
    have h : (items g w).map (fun ws => ws[i]?) = some none := h
    cases hi : items g w with
    | none => rw [hi] at h; cases h
    | some ws =>
      rw [hi] at h
      have h : ws[i]? = none := Option.some.inj h
      obtain ⟨p', vs, e, hq, rs⟩ := items_kind hH rw1 hi
      cases e
      have hz : vs.length ≤ i := by rw [rs.length]; exact List.getElem?_eq_none_iff.mp h
      rcases hL with ⟨hl, rfl⟩ | ⟨hl, rfl⟩
      · rcases hq with ⟨_, hq⟩ | ⟨hl', _⟩
        · exact ⟨vs, hq, hz⟩
        · rw [hl] at hl'; cases hl'
      · rcases hq with ⟨hl', _⟩ | ⟨_, hq⟩
        · rw [hl] at hl'; cases hl'
        · exact ⟨vs, hq, hz⟩
  | rng lo n =>
    have r : L = Itr lo n := r
    subst r
    have h : some (if i < n then some (W.int (lo + i)) else none) = some none := h
    by_cases hi : i < n
    · rw [if_pos hi] at h; cases h
    · exact Nat.le_of_not_lt hi
theorem relI.mono {ρ ρ' : List Addr} {H H' : Hp} {J : Ev.It} {L : L2.It} (hp : ρ <+: ρ') (im : ∀ b o, H b = some o → imm o = true → H' b = some o) (r : relI X.K xc ρ H J L) : relI X.K xc ρ' H' J L := by
  cases J with
  | val w =>
    obtain ⟨p, rw1, hL⟩ := r
    exact ⟨p, RW.mono0 hp im w rw1, hL⟩
  | rng lo n => exact r
noncomputable def gNames : List Nat → TGs
  | [] => gNil
  | i :: r => gCons (gName i) (gNames r)
noncomputable def tgR (K : PySem.W.Frag) : Tg → TG
  | .one i => gName i
  | .tup is => gTup K is.length (gNames is)
theorem RS.set {ρ : List Addr} {H : Hp} {sl : Sl} {σ : L2.St} {i : Nat} {w : W} {v : V} (h : RS X.K xc ρ H sl σ) (r : RW X.K xc ρ H w v) : RS X.K xc ρ H (sl.set i (some w)) (σ.set i (some v)) := by
  refine ⟨by simpa using h.1, fun j u e => ?_⟩
  by_cases hj : i = j
  · subst hj
    by_cases hl : i < sl.length
    · rw [List.getElem?_set_self hl] at e
      cases e
      exact ⟨v, List.getElem?_set_self (by rw [← h.1]; exact hl), r⟩
    · rw [List.getElem?_eq_none (by simpa using Nat.le_of_not_lt hl)] at e; cases e
  · rw [List.getElem?_set_ne hj] at e
    obtain ⟨v', e1, r1⟩ := h.2 j u e
    exact ⟨v', by rw [List.getElem?_set_ne hj]; exact e1, r1⟩
theorem RS.clear {ρ : List Addr} {H : Hp} {sl : Sl} {σ : L2.St} {i : Nat} (h : RS X.K xc ρ H sl σ) : RS X.K xc ρ H (sl.set i none) (σ.set i none) := by
  refine ⟨by simpa using h.1, fun j u e => ?_⟩
  by_cases hj : i = j
  · subst hj
    by_cases hl : i < sl.length
    · rw [List.getElem?_set_self hl] at e; cases e
    · rw [List.getElem?_eq_none (by simpa using Nat.le_of_not_lt hl)] at e; cases e
  · rw [List.getElem?_set_ne hj] at e
    obtain ⟨v', e1, r1⟩ := h.2 j u e
    exact ⟨v', by rw [List.getElem?_set_ne hj]; exact e1, r1⟩
theorem gNames_ok {ρ : List Addr} {H : Hp} {k : L2.St → Hp → Prop} : ∀ (is : List Nat) (ws : List W) {vs : List V} {sl : Sl} {σ : L2.St}, ws.length = is.length → RWs X.K xc ρ H ws vs → RS X.K xc ρ H sl σ →
    (∀ σ', RS X.K xc ρ H ((is.zip ws).foldl (fun s p => s.set p.1 (some p.2)) sl) σ' → k σ' H) → gNames is vs σ H k
  | [], [], vs, sl, σ, _, r, hS, h => by
    unfold RWs at r
    subst r
    exact ⟨rfl, h σ hS⟩
  | [], w :: ws, vs, sl, σ, e, _, _, _ => by cases e
  | i :: is, [], vs, sl, σ, e, _, _, _ => by cases e
  | i :: is, w :: ws, vs, sl, σ, e, r, hS, h => by
    unfold RWs at r
    obtain ⟨v, vr, rfl, r1, r2⟩ := r
    exact ⟨v, vr, rfl, gNames_ok is ws (by simpa using e) r2 (hS.set r1) h⟩
theorem setT_ok {ρ : List Addr} {H : Hp} {t : Tg} {w : W} {v : V} {g : G} {sl sl1 : Sl} {σ : L2.St} {k : L2.St → Hp → Prop} (e : setT t w g sl = some sl1) (r : RW X.K xc ρ H w v) (hS : RS X.K xc ρ H sl σ) (h : ∀ σ1, RS X.K xc ρ H sl1 σ1 → k σ1 H) : tgR X.K t v σ H k := by
  cases t with
  | one i =>
    cases e
    exact h _ (hS.set r)
  | tup is =>
    cases w with
    | tup ws =>
      have e : (if ws.length = is.length then some ((is.zip ws).foldl (fun s p => s.set p.1 (some p.2)) sl) else none) = some sl1 := e
      by_cases hl : ws.length = is.length
      · rw [if_pos hl] at e
        cases e
        unfold RW at r
        obtain ⟨a, vs, rfl, h1, h2⟩ := r
        exact ⟨a, vs, rfl, SqT.of h1, by rw [h2.length]; exact hl, gNames_ok is ws hl h2 hS h⟩
      · rw [if_neg hl] at e; cases e
    | _ => cases e
theorem RS.fr {ρ : List Addr} {H : Hp} {sl : Sl} {σ : L2.St} (fr : List (Option Nat)) (h : RS X.K xc ρ H sl σ) : RS X.K xc ρ H (frW fr sl) (frOf fr σ) := by
  refine ⟨by simp [frW, frOf], fun i w e => ?_⟩
  unfold frW at e
  unfold frOf
  rw [List.getElem?_map] at e ⊢
  cases hf : fr[i]? with
  | none => rw [hf] at e; cases e
  | some o =>
    rw [hf] at e
    cases o with
    | none => cases e
    | some j =>
      have e : ((sl[j]?).bind id) = some w := Option.some.inj e
      have ej : sl[j]? = some (some w) := by
        cases es : sl[j]? with
        | none => rw [es] at e; cases e
        | some z => rw [es] at e; cases e; rfl
      obtain ⟨v, ev, rv⟩ := h.2 j w ej
      refine ⟨v, ?_, rv⟩
      show some ((σ[j]?).bind id) = some (some v)
      rw [ev]
      rfl
end
end Ev
set_option Elab.async false
set_option linter.all false
set_option maxRecDepth 100000
namespace Ev
open PySem PySem.Spec PyProof.Rows PySem.SeqAt L2
section
variable (K : PySem.W.Frag) (xc : Nat → Addr) (R : RK)
noncomputable def rdE (f : Sl → G → Res W) : TE := fun σ H Q => ∃ ρ sl g, RS K xc ρ H sl σ ∧ RH K xc ρ g H ∧ Post K xc (RW K xc) ρ H Q (fun c H' => R σ (xc c) H') (f sl g)
noncomputable def rdT (f : Sl → G → Res Bool) : TT := fun σ H Q => ∃ ρ sl g, RS K xc ρ H sl σ ∧ RH K xc ρ g H ∧ Post K xc eqB ρ H Q (fun c H' => R σ (xc c) H') (f sl g)
noncomputable def rdI (f : Sl → G → Res Ev.It) : TI := fun σ H Q => ∃ ρ sl g, RS K xc ρ H sl σ ∧ RH K xc ρ g H ∧ Post K xc (relI K xc) ρ H Q (fun c H' => R σ (xc c) H') (f sl g)
end
section
variable {X : Cx} {xc : Nat → Addr} {R : RK} {elt tg iter : Expr} {ifs : List Expr} {scope : Scope} {pos : Pos} {N : List Str} {fr : List (Option Nat)} {t : Tg} {fi : Sl → G → Res Ev.It} {evc eve : Sl → G → Res W}
theorem Post.bind' {α β γ δ : Type} {K : PySem.W.Frag} {rel : List Addr → Hp → α → β → Prop} {rel2 : List Addr → Hp → γ → δ → Prop} {ρ ρ1 : List Addr} {H H1 : Hp} {Q2 : δ → Hp → Prop} {Ex : Nat → Hp → Prop} {r : Res α} {k : α → G → Res γ} (x : Ext ρ H ρ1 H1) (h : Post K xc rel2 ρ H Q2 Ex (r.bind k)) :
    Post K xc rel ρ1 H1 (fun b H2 => ∃ ρ2 a g2, Ext ρ1 H1 ρ2 H2 ∧ RH K xc ρ2 g2 H2 ∧ rel ρ2 H2 a b ∧ Post K xc rel2 ρ H Q2 Ex (k a g2)) Ex r := by
  cases r with
  | ok a g => exact fun ρ' H' b y z w => ⟨ρ', a, g, y, z, w, h⟩
  | exc c g => exact fun ρ' H' y z => h ρ' H' (x.trans y) z
  | stuck => exact h
theorem Ext.out {ρ ρ1 : List Addr} {H H1 : Hp} {l : Addr} {o : HO} (x : Ext ρ H ρ1 H1) (hl : H l = none) : Ext ρ H ρ1 (upd H1 l o) :=
  ⟨x.pre, fun b u e hb => by rw [upd_ne (ne_of_none e hl)]; exact x.frm b u e hb, fun b u e hb => by rw [upd_ne (ne_of_none e hl)]; exact x.im b u e hb, x.new⟩
theorem im_out {H : Hp} {l : Addr} {vs : List V} {o : HO} (e : H l = some (.lst vs)) : ∀ b u, H b = some u → imm u = true → upd H l o b = some u := fun b u q m => by
  rw [upd_ne]
  · exact q
  · rintro rfl
    rw [e] at q
    cases q
    cases m
theorem RH.out {ρ : List Addr} {g : G} {H : Hp} {l : Addr} {vs : List V} {o : HO} (h : RH X.K xc ρ g H) (e : H l = some (.lst vs)) (hl : l ∉ ρ) : RH X.K xc ρ g (upd H l o) :=
  ⟨h.len, h.nd, fun i a ob e1 e2 => by
    have ha : a ≠ l := fun z => hl (by rw [← z]; exact List.mem_of_getElem? e1)
    rw [upd_ne ha]
    cases ob with
    | lst ws =>
      obtain ⟨us, e3, r⟩ := h.ob i a _ e1 e2
      exact ⟨us, e3, RWs.mono0 (List.prefix_refl _) (im_out e) ws r⟩⟩
theorem RS.out {ρ : List Addr} {sl : Sl} {σ : L2.St} {H : Hp} {l : Addr} {vs : List V} {o : HO} (h : RS X.K xc ρ H sl σ) (e : H l = some (.lst vs)) : RS X.K xc ρ (upd H l o) sl σ :=
  ⟨h.1, fun i w q => let ⟨v, e1, r⟩ := h.2 i w q; ⟨v, e1, RW.mono0 (List.prefix_refl _) (im_out e) w r⟩⟩
theorem RH.take {ρ : List Addr} {g : G} {H : Hp} {l : Addr} {ws : List W} {vs : List V} (h : RH X.K xc ρ g H) (e : H l = some (.lst vs)) (hl : l ∉ ρ) (r : RWs X.K xc ρ H ws vs) : RH X.K xc (ρ ++ [l]) (g ++ [.lst ws]) H := by
  refine ⟨by simp [h.len], List.nodup_append.mpr ⟨h.nd, by simp, fun a ha b hb => ?_⟩, fun i a o e1 e2 => ?_⟩
  · rw [List.mem_singleton.mp hb]
    rintro rfl
    exact hl ha
  · by_cases hi : i < ρ.length
    · rw [List.getElem?_append_left hi] at e1
      rw [List.getElem?_append_left (by rw [← h.len]; exact hi)] at e2
      cases o with
      | lst zs =>
        obtain ⟨us, e3, r3⟩ := h.ob i a _ e1 e2
        exact ⟨us, e3, RWs.mono0 (List.prefix_append _ _) (fun _ _ q _ => q) zs r3⟩
    · rw [List.getElem?_append_right (by omega)] at e1
      rw [List.getElem?_append_right (by rw [← h.len]; omega)] at e2
      have z : i - ρ.length = 0 := by
        have := (List.getElem?_eq_some_iff.mp e1).1
        simp at this
        omega
      rw [z] at e1
      rw [← h.len, z] at e2
      simp at e1 e2
      subst e1 e2
      exact ⟨vs, e, RWs.mono0 (List.prefix_append _ _) (fun _ _ q _ => q) ws r⟩
theorem lcStep_none {x : W} {τ : Sl} {g : G} (h : setT t x g τ = none) : lcStep t evc eve x τ g = .stuck := by unfold lcStep; rw [h]
theorem lcStep_some {x : W} {τ τ1 : Sl} {g : G} (h : setT t x g τ = some τ1) : lcStep t evc eve x τ g = (evc τ1 g).bind fun k g3 => (toB g3 k).bind fun k g4 => if k then (eve τ1 g4).bind fun v g5 => .ok (τ1, [v]) g5 else .ok (τ1, []) g4 := by unfold lcStep; rw [h]
theorem qe_lc (hc : X.calm = true) (hF : HasFr X) (hxR : Raises X R) (hi : QI X xc R tg iter fi) (hg : ∀ C s₀ H₀ ex pins xe, PG ((cxComp X N scope C s₀ H₀ ex pins).wish xe) tg (tgR X.K t))
    (ht : ∀ C s₀ H₀ ex pins xe R', Raises ((cxComp X N scope C s₀ H₀ ex pins).wish xe) R' → PTs1 ((cxComp X N scope C s₀ H₀ ex pins).wish xe) ifs (rdT X.K xc R' (evT evc)))
    (he : ∀ C s₀ H₀ ex pins xe R', Raises ((cxComp X N scope C s₀ H₀ ex pins).wish xe) R' → QE ((cxComp X N scope C s₀ H₀ ex pins).wish xe) xc R' elt eve) (hfr : FrOk X.N X.env.scope.names N scope.names fr) (hkind : scope.kind = .function)
    (hnames : ∀ x ∈ scope.names, x.2 = .local → scope.names.lookup x.1 = some .local) (hcell : ∀ x ∈ scope.names, x.2 ≠ .cell)
    (hfree : ∀ y ∈ scope.names, y.2 = .free → (X.env.cells.lookup y.1).isSome = true) (hs : ∀ x, foldedSetIterable iter X.env x = pure x) :
    QE X xc R (.ListComp elt [⟨tg, iter, ifs, 0⟩] scope pos) (fun sl g => (fi sl g).bind fun J g1 => lcGo fr t evc eve sl J g1) := by
  intro pins s σ H ρ sl g Q I hk hS hH hP
  refine pe_lcT (R := R) (fr := fr) (wi := rdI X.K xc R fi) (g := tgR X.K t) (tt := fun R' => rdT X.K xc R' (evT evc)) (te := fun R' => rdE X.K xc R' eve) hc hF hxR
    (fun pins s σ H Q I hk ⟨ρ, sl, g, a, b, c⟩ => hi pins s σ H ρ sl g Q I hk a b c) hg ht (fun C s₀ H₀ ex pins xe R' hR ps s σ H Q I hk ⟨ρ, sl, g, a, b, c⟩ => he C s₀ H₀ ex pins xe R' hR ps s σ H ρ sl g Q I hk a b c) hfr hkind hnames hcell hfree hs pins s σ H Q I hk ?_
  refine ⟨ρ, sl, g, hS, hH, Post.imp (Post.bind hP) (fun L H1 qq9 => ?_) fun _ _ z => z⟩
  obtain ⟨ρ1, J, g1, X1, hH1, rJ, hP1⟩ := qq9
  intro l hl
  unfold lcGo at hP1
  cases hn : J.many g1 with
  | none => rw [hn] at hP1; exact hP1.elim
  | some n =>
    rw [hn] at hP1
    have hP1 : Post X.K xc (RW X.K xc) ρ1 H1 Q (fun c H' => R σ (xc c) H') (if n < sizeLine then (lcLoop J.nxt (lcStep t evc eve) (n + 1) 0 (frW fr sl) g1).bind fun ws g6 => .ok (.ref g6.length) (g6 ++ [.lst ws]) else .stuck) := hP1
    by_cases hz : n < sizeLine
    · rw [if_pos hz] at hP1
      have nl : l ∉ ρ1 := fun z => by obtain ⟨o, e⟩ := hH1.tracked z; rw [hl] at e; cases e
      refine ⟨fun i m acc τσ H2 => ∃ ρ2 τ g2 accW, H2 l = some (.lst acc) ∧ l ∉ ρ2 ∧ Ext ρ1 H1 ρ2 H2 ∧ RH X.K xc ρ2 g2 H2 ∧ RS X.K xc ρ2 H2 τ τσ ∧ RWs X.K xc ρ2 H2 accW acc ∧ acc.length ≤ i ∧ i + m = n + 1 ∧
        Post X.K xc (RW X.K xc) ρ1 H1 Q (fun c H' => R σ (xc c) H') ((lcLoop J.nxt (lcStep t evc eve) m i τ g2).bind fun r g6 => .ok (.ref g6.length) (g6 ++ [.lst (accW ++ r)])), ⟨n + 1, ρ1, frW fr sl, g1, [], upd_same, nl, Ext.laid hl, hH1.laid hl, ?_, RWs.nil, Nat.le_refl _, by omega, hP1⟩, ?_⟩
      · exact RS.mono (Ext.laid hl) (RS.fr fr (hS.mono X1))
      · rintro i m acc τσ H2 ⟨ρ2, τ, g2, accW, e2, n2, X2, hH2, hS2, rA, lA, him, hP2⟩
        refine ⟨e2, ?_⟩
        have rJ2 : relI X.K xc ρ2 H2 J L := relI.mono X2.pre X2.im rJ
        cases m with
        | zero => exact (False.elim hP2)
        | succ m =>
          have hP2 : Post X.K xc (RW X.K xc) ρ1 H1 Q (fun c H' => R σ (xc c) H') ((match J.nxt i g2 with
            | none => .stuck
            | some none => .ok [] g2
            | some (some x) => (lcStep t evc eve x τ g2).bind fun p g3 => (lcLoop J.nxt (lcStep t evc eve) m (i + 1) p.1 g3).bind fun r g4 => .ok (p.2 ++ r) g4 : Res (List W)).bind fun r g6 => .ok (.ref g6.length) (g6 ++ [.lst (accW ++ r)])) := hP2
          cases hx : J.nxt i g2 with
          | none => rw [hx] at hP2; exact (False.elim hP2)
          | some o =>
            rw [hx] at hP2
            cases o with
            | none =>
              -- the end
              refine .inl ⟨nxt_stop hH2 rJ2 hx, ?_⟩
              have hP2 : Post X.K xc (RW X.K xc) ρ1 H1 Q (fun c H' => R σ (xc c) H') (.ok (.ref g2.length) (g2 ++ [.lst (accW ++ [])])) := hP2
              rw [List.append_nil] at hP2
              refine hP2 (ρ2 ++ [l]) H2 (.ref l) ⟨X2.pre.trans (List.prefix_append _ _), X2.frm, X2.im, fun a ha => ?_⟩ (hH2.take e2 n2 rA) ?_
              · rcases List.mem_append.mp ha with z | z
                · exact X2.new a z
                · rw [List.mem_singleton.mp z]; exact .inr hl
              · unfold RW
                exact ⟨l, rfl, by rw [← hH2.len]; simp⟩
            | some x =>
              obtain ⟨go, yl⟩ := nxt_go hH2 rJ2 hx
              refine .inr ⟨go, by omega, fun v H3 hy => ?_⟩
              obtain ⟨rfl, rv⟩ := yl v H3 hy
              cases hst : setT t x g2 τ with
              | none =>
                have hP2 : Post X.K xc (RW X.K xc) ρ1 H1 Q (fun c H' => R σ (xc c) H') (((lcStep t evc eve x τ g2).bind fun p g3 => (lcLoop J.nxt (lcStep t evc eve) m (i + 1) p.1 g3).bind fun r g4 => .ok (p.2 ++ r) g4).bind fun r g6 => .ok (.ref g6.length) (g6 ++ [.lst (accW ++ r)])) := hP2
                rw [lcStep_none hst] at hP2
                exact (False.elim hP2)
              | some τ1 =>
                have hP2 : Post X.K xc (RW X.K xc) ρ1 H1 Q (fun c H' => R σ (xc c) H') ((evT evc τ1 g2).bind fun k g4 => (if k then (eve τ1 g4).bind fun v g5 => (Res.ok (τ1, [v]) g5) else .ok (τ1, []) g4).bind fun p g3 =>
                    (lcLoop J.nxt (lcStep t evc eve) m (i + 1) p.1 g3).bind fun r g4 => (Res.ok (p.2 ++ r) g4).bind fun r g6 => .ok (.ref g6.length) (g6 ++ [.lst (accW ++ r)])) := by
                  have hP2 : Post X.K xc (RW X.K xc) ρ1 H1 Q (fun c H' => R σ (xc c) H') (((lcStep t evc eve x τ g2).bind fun p g3 => (lcLoop J.nxt (lcStep t evc eve) m (i + 1) p.1 g3).bind fun r g4 => .ok (p.2 ++ r) g4).bind fun r g6 => .ok (.ref g6.length) (g6 ++ [.lst (accW ++ r)])) := hP2
                  rw [lcStep_some hst] at hP2
                  simp only [Res.bind_assoc, evT] at hP2 ⊢
                  exact hP2
                refine setT_ok hst rv hS2 fun τσ1 hS3 => ?_
                refine ⟨ρ2, τ1, g2, hS3, hH2, Post.imp (Post.bind' X2 hP2) (fun k H5 qq9 => ?_) fun _ _ z => z⟩
                obtain ⟨ρ5, k5, g5, X5, hH5, ek, hP5⟩ := qq9
                cases ek
                have e5 : H5 l = some (.lst acc) := X5.frm l _ e2 n2
                have n5 : l ∉ ρ5 := fun z => (X5.new l z).elim n2 fun q => by rw [e2] at q; cases q
                cases k with
                | false =>
                  rw [if_neg Bool.false_ne_true]
                  exact ⟨m, Nat.lt_succ_self _, ρ5, τ1, g5, accW, e5, n5, X2.trans X5, hH5, hS3.mono X5, RWs.mono X5 accW rA, by omega, by omega, hP5⟩
                | true =>
                  rw [if_pos rfl]
                  have hP5 : Post X.K xc (RW X.K xc) ρ1 H1 Q (fun c H' => R σ (xc c) H') ((eve τ1 g5).bind fun v g6 => (lcLoop J.nxt (lcStep t evc eve) m (i + 1) τ1 g6).bind fun r g4 => (Res.ok ([v] ++ r) g4).bind fun r g6 => .ok (.ref g6.length) (g6 ++ [.lst (accW ++ r)])) := by
                    have := hP5
                    simp only [if_true, Res.bind_assoc] at this
                    exact this
                  refine ⟨ρ5, τ1, g5, hS3.mono X5, hH5, Post.imp (Post.bind' (X2.trans X5) hP5) (fun v6 H6 qq9 => ?_) fun _ _ z => z⟩
                  obtain ⟨ρ6, w6, g6, X6, hH6, r6, hP6⟩ := qq9
                  have e6 : H6 l = some (.lst acc) := X6.frm l _ e5 n5
                  have n6 : l ∉ ρ6 := fun z => (X6.new l z).elim n5 fun q => by rw [e5] at q; cases q
                  refine ⟨e6, m, Nat.lt_succ_self _, ρ6, τ1, g6, accW ++ [w6], upd_same, n6, ((X2.trans X5).trans X6).out hl, hH6.out e6 n6, ((hS3.mono X5).mono X6).out e6, ?_, by rw [List.length_append]; show acc.length + 1 ≤ i + 1; omega, by omega, ?_⟩
                  · exact RWs.mono0 (List.prefix_refl _) (im_out e6) _ ((RWs.mono (X5.trans X6) accW rA).append (RWs.cons r6 RWs.nil))
                  · have : (fun (r : List W) (g4 : G) => (Res.ok ([w6] ++ r) g4).bind fun r g6 => Res.ok (W.ref g6.length) (g6 ++ [.lst (accW ++ r)])) = fun r g6 => Res.ok (W.ref g6.length) (g6 ++ [.lst (accW ++ [w6] ++ r)]) := by
                      funext r g4
                      simp [Res.bind]
                    rw [this] at hP6
                    exact hP6
    · rw [if_neg hz] at hP1
      exact hP1.elim
end
end Ev
set_option Elab.async false
set_option linter.all false
set_option maxRecDepth 100000
namespace Ev
open PySem PySem.Spec PyProof.Rows PySem.SeqAt L2
section
variable {X : Cx} {xc : Nat → Addr} {R : RK} {a b c tg iter : Expr} {fa fb fc : Sl → G → Res W} {pos : Pos} {es : List Expr} {fs : Sl → G → Res (List W)} {st : Stmt} {rest body orelse : List Stmt} {f1 f2 : Sl → G → Out} {t : Tg} {fi : Sl → G → Res Ev.It}
noncomputable def Res.out {α : Type} (r : Res α) (sl : Sl) (k : α → G → Out) : Out := match r with
  | .ok a g => k a g
  | .exc c g => .exc c sl g
  | .stuck => .stuck
theorem PostS.out {α β : Type} {K : PySem.W.Frag} {rel : List Addr → Hp → α → β → Prop} {ρ : List Addr} {H : Hp} {D : Ends} {r : Res α} {sl : Sl} {σ : L2.St} {k : α → G → Out} (hS : RS K xc ρ H sl σ) (h : PostS K xc ρ H D R (r.out sl k)) :
    Post K xc rel ρ H (fun b H1 => ∃ ρ1 a g1, Ext ρ H ρ1 H1 ∧ RH K xc ρ1 g1 H1 ∧ rel ρ1 H1 a b ∧ PostS K xc ρ1 H1 D R (k a g1)) (fun c H' => R σ (xc c) H') r := by
  cases r with
  | ok a g => exact fun ρ' H' b x y z => ⟨ρ', a, g, x, y, z, PostS.later x h⟩
  | exc c g => exact fun ρ' H' x y => h ρ' H' σ x y (hS.mono x)
  | stuck => exact h
noncomputable def seqF (f1 f2 : Sl → G → Out) : Sl → G → Out := fun sl g => match f1 sl g with
  | .nx sl1 g1 => f2 sl1 g1
  | o => o
theorem qss_nil : QSs X xc R [] (fun sl g => .nx sl g) := fun _ _ σ H ρ _ _ _ I _ hS hH hP => wpAny_execs_nil ⟨σ, H, I, hP ρ H σ Ext.refl hH hS⟩
theorem qss_cons (h1 : QS X xc R st f1) (h2 : QSs X xc R rest f2) : QSs X xc R (st :: rest) (seqF f1 f2) := by
  intro pins s σ H ρ sl g D I hk hS hH hP
  have hP' : PostS X.K xc ρ H { D with nx := fun σ' H1 => ∃ ρ1 sl1 g1, Ext ρ H ρ1 H1 ∧ RH X.K xc ρ1 g1 H1 ∧ RS X.K xc ρ1 H1 sl1 σ' ∧ PostS X.K xc ρ1 H1 D R (f2 sl1 g1) } R (f1 sl g) := by
    revert hP
    unfold seqF
    cases f1 sl g with
    | nx sl1 g1 => exact fun h ρ' H' σ' x y z => ⟨ρ', sl1, g1, x, y, z, PostS.later x h⟩
    | rt w g1 => exact fun h => h
    | bk sl1 g1 => exact fun h => h
    | ct sl1 g1 => exact fun h => h
    | exc c sl1 g1 => exact fun h => h
    | stuck => exact fun h => h
  refine wpAny_execs_cons (thnT hk (h1 pins s σ H ρ sl g _ I hk hS hH hP') fun f s1 hk1 q => ?_)
  cases f with
  | next =>
    obtain ⟨σ', H', I', ρ1, sl1, g1, x1, hH1, hS1, hP1⟩ := q
    exact h2 pins s1 σ' H' ρ1 sl1 g1 D I' hk1 hS1 hH1 hP1
  | ret v => exact q
  | brk => exact q
  | cont => exact q
theorem qs_pass : QS X xc R (.Pass pos) (fun sl g => .nx sl g) := fun _ _ σ H ρ _ _ _ I _ hS hH hP => wpAny_Pass ⟨σ, H, I, hP ρ H σ Ext.refl hH hS⟩
theorem qs_break : QS X xc R (.Break pos) (fun sl g => .bk sl g) := fun _ _ σ H ρ _ _ _ I _ hS hH hP => wpAny_Break ⟨σ, H, I, hP ρ H σ Ext.refl hH hS⟩
theorem qs_cont : QS X xc R (.Continue pos) (fun sl g => .ct sl g) := fun _ _ σ H ρ _ _ _ I _ hS hH hP => wpAny_Continue ⟨σ, H, I, hP ρ H σ Ext.refl hH hS⟩
theorem qs_expr (ha : QE X xc R a fa) (hs : swapsWith a none pos.line X.env = pure false) : QS X xc R (.Expr a pos) (fun sl g => (fa sl g).out sl fun _ g1 => .nx sl g1) := by
  intro pins s σ H ρ sl g D I hk hS hH hP
  exact wpAny_Expr_any (thnT hk (ha pins s σ H ρ sl g _ I hk hS hH (PostS.out hS hP)) fun v s1 hk1 qq1 => ep_elim qq1 fun x H1 I1 r1 ρ1 w1 g1 X1 hH1 rw1 hP1 => ⟨σ, H1, I1, hP1 ρ1 H1 σ Ext.refl hH1 (hS.mono X1)⟩) I.quiet hs
theorem qs_ret (ha : QE X xc R a fa) : QS X xc R (.Return (some a) pos) (fun sl g => (fa sl g).out sl fun w g1 => .rt w g1) := by
  intro pins s σ H ρ sl g D I hk hS hH hP
  exact wpAny_Return_some (thnT hk (ha pins s σ H ρ sl g _ I hk hS hH (PostS.out hS hP)) fun v s1 hk1 qq1 => ep_elim qq1 fun x H1 I1 r1 ρ1 w1 g1 X1 hH1 rw1 hP1 => ⟨x, σ, H1, I1, r1, hP1 ρ1 H1 x Ext.refl hH1 rw1⟩)
theorem qs_if (hc : QT X xc R c (evT fc)) (h1 : QSs X xc R body f1) (h2 : QSs X xc R orelse f2) : QS X xc R (.If c body orelse pos) (fun sl g => (evT fc sl g).out sl fun k g1 => if k then f1 sl g1 else f2 sl g1) := by
  intro pins s σ H ρ sl g D I hk hS hH hP
  refine wpAny_If (thnT hk (hc pins s σ H ρ sl g _ I hk hS hH (PostS.out hS hP)) fun d s1 hk1 qq9 => ?_)
  obtain ⟨H1, I1, ρ1, d1, g1, X1, hH1, e1, hP1⟩ := qq9
  cases e1
  cases d with
  | true => exact h1 pins s1 σ H1 ρ1 sl g1 D I1 hk1 (hS.mono X1) hH1 hP1
  | false => exact h2 pins s1 σ H1 ρ1 sl g1 D I1 hk1 (hS.mono X1) hH1 hP1
theorem qs_set {i : Nat} {x : Str} {pos' : Pos} (hN : X.N.Nodup) (hi : X.N[i]? = some x) (hx : Loc X.env.scope x) (ha : QE X xc R a fa) (hs : swapsWith a (some (.Name x pos')) pos.line X.env = pure false) (hf : X.fn x = true ∨ X.env.scope.names.lookup x = some .local) :
    QS X xc R (.Assign [.Name x pos'] a pos) (fun sl g => (fa sl g).out sl fun w g1 => match setT (.one i) w g1 sl with | some sl1 => .nx sl1 g1 | none => .stuck) := by
  intro pins s σ H ρ sl g D I hk hS hH hP
  refine wpAny_Assign_Name (thnT hk (ha pins s σ H ρ sl g _ I hk hS hH (PostS.out hS hP)) fun v s1 hk1 qq1 => ep_elim qq1 fun y H1 I1 r1 ρ1 w1 g1 X1 hH1 rw1 hP1 => ?_) hs
  exact store_ok I1 hN hi hx r1 (fun s2 I2 => ⟨_, H1, I2, hP1 ρ1 H1 _ Ext.refl hH1 ((hS.mono X1).set rw1)⟩) hf
theorem qs_for (hp : PassesOwn (model X.prog X.w) X.A X.env X.xe) (hc : X.calm = true) (hi : QI X xc R tg iter fi) (hg : PG X tg (tgR X.K t)) (hb : QSs X xc R body f1) (hs : ∀ x, foldedSetIterable iter X.env x = pure x) :
    QS X xc R (.For tg iter body [] pos) (fun sl g => (fi sl g).out sl fun J g1 => match J.many g1 with
      | some n => forLoop J.nxt (fun x s g2 => match setT t x g2 s with | none => .stuck | some s1 => f1 s1 g2) (n + 1) 0 sl g1
      | none => .stuck) := by
  intro pins s σ H ρ sl g D I hk hS hH hP
  refine wpAny_For (thnT hk (hi pins s σ H ρ sl g _ I hk hS hH (PostS.out hS hP)) fun v s1 hk1 h1 => thnT hk1 h1 fun itv s2 hk2 h2 => ?_) hs
  obtain ⟨it, fp, tn, L, H2, e, I2, T, st2, f2, ρ1, J, g1, X1, hH1, rJ, hP1⟩ := h2
  subst e
  cases hn : J.many g1 with
  | none => rw [hn] at hP1; exact hP1.elim
  | some n =>
    rw [hn] at hP1
    have hP1 : PostS X.K xc ρ1 H2 D R (forLoop J.nxt (fun x s g2 => match setT t x g2 s with | none => .stuck | some s1 => f1 s1 g2) (n + 1) 0 sl g1) := hP1
    have stat : ∀ {H' : Hp}, (∀ b ∈ fp, H' b = none) → ∀ b ∈ fp, FpOk X pins H' b := fun hn b hb => ⟨hn b hb, (f2 b hb).2⟩
    refine codeAny_forLoop_any (fun m s' => ∃ i σ' H' ρ' sl' g', Inv X pins σ' H' s' ∧ tn i s'.heap ∧ (∀ b ∈ fp, H' b = none) ∧ 0 < s'.toks ∧ RS X.K xc ρ' H' sl' σ' ∧ RH X.K xc ρ' g' H' ∧ Ext ρ1 H2 ρ' H' ∧
      PostS X.K xc ρ' H' D R (forLoop J.nxt (fun x s g2 => match setT t x g2 s with | none => .stuck | some s1 => f1 s1 g2) m i sl' g')) ?_ (n + 1) ⟨0, σ, H2, ρ1, sl, g1, I2, st2, fun b hb => (f2 b hb).1, hk2, hS.mono X1, hH1, Ext.refl, hP1⟩
    rintro m s3 ⟨i, σ3, H3, ρ3, sl3, g3, I3, st3, fr3, hk3, hS3, hH3, X3, hP3⟩
    have rJ3 : relI X.K xc ρ3 H3 J L := relI.mono X3.pre X3.im rJ
    cases m with
    | zero => exact (False.elim hP3)
    | succ m =>
      have hP3 : PostS X.K xc ρ3 H3 D R (match J.nxt i g3 with
        | none => .stuck
        | some none => .nx sl3 g3
        | some (some x) => match (match setT t x g3 sl3 with | none => .stuck | some s1 => f1 s1 g3 : Out) with
          | .nx s1 g1 => forLoop J.nxt (fun x s g2 => match setT t x g2 s with | none => .stuck | some s1 => f1 s1 g2) m (i + 1) s1 g1
          | .ct s1 g1 => forLoop J.nxt (fun x s g2 => match setT t x g2 s with | none => .stuck | some s1 => f1 s1 g2) m (i + 1) s1 g1
          | .bk s1 g1 => .nx s1 g1
          | .rt w g1 => .rt w g1
          | .exc c s1 g1 => .exc c s1 g1
          | .stuck => .stuck) := hP3
      cases hx : J.nxt i g3 with
      | none => rw [hx] at hP3; exact (False.elim hP3)
      | some o =>
        rw [hx] at hP3
        cases o with
        | none =>
          refine wpAny_passesOwn hp (thnT hk3 (T.done X rfl rfl rfl hc i pins s3 σ3 H3 X.xe I3 (stat fr3) st3 (nxt_stop hH3 rJ3 hx)) fun r s4 hk4 qq9 => ?_)
          obtain ⟨hr, I4⟩ := qq9
          subst hr
          exact wpAny_execs_nil ⟨σ3, H3, I4, hP3 ρ3 H3 σ3 Ext.refl hH3 hS3⟩
        | some x =>
          obtain ⟨go, yl⟩ := nxt_go hH3 rJ3 hx
          dsimp only at hP3
          refine wpAny_passesOwn hp (thnT hk3 (T.item X rfl rfl rfl hc i pins s3 σ3 H3 X.xe I3 (stat fr3) st3 go) fun r s4 hk4 qq9 => ?_)
          obtain ⟨u, hr, h4⟩ := qq9
          subst hr
          refine wpAny_passesOwn hp (thnT hk4 h4 fun _ s5 hk5 qq9 => ?_)
          obtain ⟨v, H5, I5, r5, y5, st5, fr5⟩ := qq9
          obtain ⟨e5, rv⟩ := yl v H5 y5
          subst e5
          have I5' := I5.pinned (stat fr5) (T.obj _ _ st5)
          cases hst : setT t x g3 sl3 with
          | none => rw [hst] at hP3; exact (False.elim hP3)
          | some sl4 =>
            rw [hst] at hP3
            dsimp only at hP3
            refine wpAny_passesOwn hp (thnT hk5 (hg _ s5 σ3 H5 v u _ I5' r5 (setT_ok (k := fun σ' H' => H' = H5 ∧ RS X.K xc ρ3 H5 sl4 σ') hst rv hS3 fun σ1 z => ⟨rfl, z⟩)) fun _ s6 hk6 qq9 => ?_)
            obtain ⟨σ6, H6, I6, e6, hS6⟩ := qq9
            subst e6
            obtain ⟨NX, hNX⟩ : ∃ NX : L2.St → Hp → Prop, NX = (fun σ' H' => ∃ ρ' sl' g', Ext ρ3 H6 ρ' H' ∧ RH X.K xc ρ' g' H' ∧ RS X.K xc ρ' H' sl' σ' ∧ PostS X.K xc ρ' H' D R (forLoop J.nxt (fun x s g2 => match setT t x g2 s with | none => .stuck | some s1 => f1 s1 g2) m (i + 1) sl' g')) := ⟨_, rfl⟩
            have hP4 : PostS X.K xc ρ3 H6 { D with nx := NX, ct := NX, bk := D.nx } R (f1 sl4 g3) := by
              subst hNX
              revert hP3
              cases f1 sl4 g3 with
              | nx s1 g1 => exact fun h ρ' H' σ' x y z => ⟨ρ', s1, g1, x, y, z, PostS.later x h⟩
              | ct s1 g1 => exact fun h ρ' H' σ' x y z => ⟨ρ', s1, g1, x, y, z, PostS.later x h⟩
              | bk s1 g1 => exact fun h => h
              | rt w g1 => exact fun h => h
              | exc c s1 g1 => exact fun h => h
              | stuck => exact fun h => h
            refine wpAny_passesOwn hp (thnT hk6 (hb _ s6 σ6 H6 ρ3 sl4 g3 _ I6 hk6 hS6 hH3 hP4) fun f s7 hk7 q7 => ?_)
            subst hNX
            have again : ∀ {σ7 : L2.St} {H7 : Hp}, Inv X (pins ++ pinsAt fp s5.heap) σ7 H7 s7 → (∃ ρ' sl' g', Ext ρ3 H6 ρ' H7 ∧ RH X.K xc ρ' g' H7 ∧ RS X.K xc ρ' H7 sl' σ7 ∧ PostS X.K xc ρ' H7 D R (forLoop J.nxt (fun x s g2 => match setT t x g2 s with | none => .stuck | some s1 => f1 s1 g2) m (i + 1) sl' g')) →
                ∃ m', m' < m + 1 ∧ ∃ i σ' H' ρ' sl' g', Inv X pins σ' H' s7 ∧ tn i s7.heap ∧ (∀ b ∈ fp, H' b = none) ∧ 0 < s7.toks ∧ RS X.K xc ρ' H' sl' σ' ∧ RH X.K xc ρ' g' H' ∧ Ext ρ1 H2 ρ' H' ∧
                PostS X.K xc ρ' H' D R (forLoop J.nxt (fun x s g2 => match setT t x g2 s with | none => .stuck | some s1 => f1 s1 g2) m' i sl' g') := fun {σ7 H7} I7 ⟨ρ', sl', g', x7, hH7, hS7, hP7⟩ => by
              refine ⟨m, Nat.lt_succ_self _, i + 1, σ7, H7, ρ', sl', g', I7.unpinned, T.keep _ _ _ st5 fun b hb o e => (I7.pin (b, o) (List.mem_append_right _ (List.mem_append_right _ (mem_pinsAt hb e)))).1, fun b hb => ?_, hk7, hS7, hH7, X3.trans x7, hP7⟩
              obtain ⟨o, e, d⟩ := T.obj _ _ st5 b hb
              exact (I7.pin (b, o) (List.mem_append_right _ (List.mem_append_right _ (mem_pinsAt hb e)))).2.1
            cases f with
            | next => obtain ⟨σ7, H7, I7, n7⟩ := q7; exact again I7 n7
            | cont => obtain ⟨σ7, H7, I7, n7⟩ := q7; exact again I7 n7
            | brk => obtain ⟨σ7, H7, I7, q7⟩ := q7; exact ⟨σ7, H7, I7.unpinned, q7⟩
            | ret v => obtain ⟨x7, σ7, H7, I7, r7, q7⟩ := q7; exact ⟨x7, σ7, H7, I7.unpinned, r7, q7⟩
end
end Ev
set_option Elab.async false
set_option linter.all false
set_option maxRecDepth 100000
namespace Ev
open PySem PySem.Spec PyProof.Rows PySem.SeqAt L2
structure FnOk1 (P : Program) (w : World) (K : PySem.W.Frag) (mg : Str → Option Value) (base : Heap) (k : Nat) (f : Addr) (fd : FuncData) (ps : List Str) (sp : Sp) : Prop where
  len : ∀ vs H Q E, sp vs H Q E → vs.length = ps.length
  run : ∀ (A : Around) (outer : List Env) (s : Shared) (H : Hp) (args : Args) (us : List Value) (vs : List V) (Q : VK) (E : XK), Room k A → 0 < s.toks → Env0 P w K mg base A outer s H → BindsTo s fd args (ps.zip us) → Vals vs us → sp vs H Q E →
    codeAny (model P w) A (.call (.ref f) args) (CR (CXd P w) outer P w H s Q E) s
theorem fn_of1 {P : Program} {w : World} {K : PySem.W.Frag} {mg : Str → Option Value} {base : Heap} {k : Nat} {f : Addr} {name qual : Str} {params : Arguments} {body : List Stmt} {scope : Scope} {dV kV doc pm cdv ct oc : Value} {an od : Option Addr}
    {osl : Array (Option Value)} {N ps : List Str} {sp : Sp} (lk : K.lookup f = some ⟨oc, od, .func (PySem.W.fnOf name qual params body scope dV kV doc pm an cdv ct), osl⟩) (hcd : PySem.W.codeIn K cdv qual = true) (S : FnScope N ps scope)
    (len : ∀ vs H Q E, sp vs H Q E → vs.length = ps.length)
    (hbody : ∀ (A : Around) (outer : List Env) (s : Shared) (H : Hp) (vs : List V) (Q : VK) (E : XK), Room k (A.deeper (envOfC qual scope s.heap.objs.size f cdv)) → sp vs H Q E → ∀ s1 : Shared, 0 < s1.toks →
      Inv (cxOf (CXd P w) P w K mg base N qual scope f cdv A outer s H E) [] (start N vs) H s1 →
      wpAny (model P w) (cxOf (CXd P w) P w K mg base N qual scope f cdv A outer s H E).A (execs body (cxOf (CXd P w) P w K mg base N qual scope f cdv A outer s H E).env)
        (SP (cxOf (CXd P w) P w K mg base N qual scope f cdv A outer s H E) [] { nx := fun _ H' => Q .non H', rt := Q }) (cxOf (CXd P w) P w K mg base N qual scope f cdv A outer s H E).xe s1) :
    FnOk1 P w K mg base (k + 1) f (PySem.W.fnOf name qual params body scope dV kV doc pm an cdv ct) ps sp := by
  refine ⟨len, fun A outer s H args us vs Q E hr hk e0 hb r hsp => ?_⟩
  have hl := len _ _ _ _ hsp
  have KX : K.In s.heap := e0.mod.kin.keeps fun b o e => (e0.bs b o e).1
  have lim : s.heap.NoLimit := e0.mod.nolimit.keeps fun b o e => (e0.bs b o e).1
  have hkind : ∀ y ∈ ps.zip us, scope.names.lookup y.1 = some .local ∨ (scope.names.lookup y.1 = some .cell ∧ ((cellsFrom (s.heap.objs.size + 1) scope.names []).lookup y.1).isSome = true) := fun ⟨n, v⟩ hy =>
    (S.par n (List.of_mem_zip hy).1).elim .inl fun q => .inr ⟨q, PySem.W.cellsFrom_some _ _ _ (.inl q)⟩
  refine codeAny_call_function hr.depth (KX _ _ lk) rfl S.co S.gen rfl (PySem.W.codeRec_of KX hcd) (hb _ _ _ _ ?_)
  refine wpAny_with_toks (n := 1) hk (wpAny_newFunctionEnv_cells S.kind hkind fun env he s1 x hk1 => ?_)
  subst he
  refine ⟨lim.keeps x.toInCall.keep, codeAny_func ?_⟩
  have I : Inv (cxOf (CXd P w) P w K mg base N qual scope f cdv A outer s H E) [] (start N vs) H s1 := inv_start S hr.hd e0 hl r x
  refine wpAny_mono (hbody A outer s H vs Q E (hr.deeper _) hsp s1 hk1 I) (fun fl s' hs => ?_) fun e s' hs => hs
  have fin : ∀ {σ' : L2.St} {H' : Hp} {v : V} {u : Value}, Inv (cxOf (CXd P w) P w K mg base N qual scope f cdv A outer s H E) [] σ' H' s' → RelV v u → Q v H' → CE outer P w H s Q u s' :=
    fun {σ' H' v u} J rv q => ⟨v, H', J.os, J.bare, J.base, J.hok, rv, q⟩
  cases fl with
  | ret u =>
    obtain ⟨v, σ', H', J, rv, q⟩ := hs
    exact fin J rv q
  | next =>
    obtain ⟨σ', H', J, q⟩ := hs
    exact fin (v := V.non) (u := Value.none) J rfl q
  | brk =>
    obtain ⟨_, _, _, q⟩ := hs
    exact False.elim q
  | cont =>
    obtain ⟨_, _, _, q⟩ := hs
    exact False.elim q
noncomputable def spF (K : PySem.W.Frag) (xc : Nat → Addr) (run : Nat → List W → G → Res W) (f np : Nat) : Sp := fun vs H Q E => ∃ ρ args g, RH K xc ρ g H ∧ RWs K xc ρ H args vs ∧ args.length = np ∧ Post K xc (RW K xc) ρ H Q (fun c H' => E (.ref (xc c)) none H') (run f args g)
section
variable {X : Cx} {xc : Nat → Addr} {R : RK} {a b c : Expr} {pos p : Pos} {es : List Expr} {fs : Sl → G → Res (List W)} {run : Nat → List W → G → Res W} {wh : Nat → Bool}
theorem run_q {pins : List (Addr × Obj)} {s : Shared} {σ : L2.St} {H : Hp} {Q : VK} {us : List Value} {vs : List V} {k fn np : Nat} {f : Addr} {fd : FuncData} {ps : List Str} {ρ : List Addr} {ws : List W} {g : G} (F : FnOk1 X.prog X.w X.K X.mg X.base k f fd ps (spF X.K xc run fn np)) (hr : Room k X.A) (hb : Binds X.K fd ps []) (hx : Raises X R)
    (hnp : ws.length = np) (I : Inv X pins σ H s) (hk : 0 < s.toks) (r : Vals vs us) (rw1 : RWs X.K xc ρ H ws vs) (hH : RH X.K xc ρ g H) (hP : Post X.K xc (RW X.K xc) ρ H Q (fun c H' => R σ (xc c) H') (callM wh run fn ws g)) :
    wpAny (model X.prog X.w) X.A (call (.ref f) us) (EP X pins σ Q) X.xe s := by
  obtain ⟨ρ0, args, g0, h0, r0, l0, hP0⟩ := callM_ok hH rw1 hP
  have hsp : spF X.K xc run fn np vs H Q (xkOf R σ) := ⟨ρ0, args, g0, h0, r0, l0.trans hnp, Post.imp hP0 (fun _ _ z => z) fun c H' z => ⟨_, rfl, z⟩⟩
  have hl : us.length = ps.length := by rw [← r.length]; exact F.len _ _ _ _ hsp
  have hb' : BindsTo s fd ⟨us, []⟩ (ps.zip us) := by
    have := hb s us I.kIn (by rw [List.append_nil]; exact hl)
    rw [List.append_nil] at this
    exact this
  refine wpAny_call (codeAny_mono (F.run X.A X.stack s H ⟨us, []⟩ us vs Q _ hr hk I.env0 hb' r hsp) fun r s' hq => ?_)
  cases r with
  | error e => exact hx e s' (flyX_of I hq)
  | ok fl =>
    cases fl with
    | ret u => exact I.after hq
    | next => exact False.elim hq
    | brk => exact False.elim hq
    | cont => exact False.elim hq
theorem qe_call {k fn np : Nat} {f : Addr} {fd : FuncData} {ps : List Str} {x : Str} (F : FnOk1 X.prog X.w X.K X.mg X.base k f fd ps (spF X.K xc run fn np)) (hr : Room k X.A) (hg : Gl X x) (hm : X.mg x = some (.ref f)) (hk' : PySem.W.keepIn X.K (.ref f) = true) (hb : Binds X.K fd ps []) (hx : Raises X R)
    (ha : QA X xc R (a :: es) fs) (hdb : (x == ("__debug__" : Str)) = false) (he : starEach (a :: es) X.env = (false, eval a X.env) :: starEach es X.env) (hpl : (backTo pos (starEach es X.env)).any (·.1) = false) :
    QE X xc R (.Call (.Name x p) (a :: es) [] pos) (fun sl g => (fs sl g).bind fun ws g1 => if ws.length = np then callM wh run fn ws g1 else .stuck) := by
  intro pins s σ H ρ sl g Q I hk hS hH hP
  refine wpAny_Call_Name_kw (ld_glob I hg hm ?_ hdb)
  refine PySem.W.callWith_K (h₀ := X.base) I.ok.mod.kin hk' (thnT hk (ha pos pins s σ H ρ sl g _ I hk hS hH (Post.bind hP)) fun us s1 hk1 qq1 => ap_elim qq1 fun vs H1 I1 r ρ1 ws g1 X1 hH1 rw1 hP1 => ⟨I1.kIn, ?_⟩) he hpl
  by_cases hn : ws.length = np
  · rw [if_pos hn] at hP1
    exact run_q F hr hb hx hn I1 hk1 r rw1 hH1 hP1
  · rw [if_neg hn] at hP1
    exact hP1.elim
structure Room2 (k : Nat) (A : Around) : Prop where
  dp : A.depth + 3 * k + 5 < recursionLimit
  un : A.units + 16 * k + 200 < cLine
theorem Room.room2 {k : Nat} {A : Around} (r : Room k A) : Room2 k A := ⟨r.dp, r.un⟩
theorem Room2.deeper {k : Nat} {A : Around} (r : Room2 (k + 1) A) (env : Env) : Room2 k (A.deeper env) :=
  ⟨by have := r.dp; show A.depth + 1 + 3 * k + 5 < _; omega, by have := r.un; show A.units + 3 + 16 * k + 200 < _; omega⟩
theorem Room2.depth {k : Nat} {A : Around} (r : Room2 k A) : A.depth < recursionLimit := by have := r.dp; omega
noncomputable def cxS (P : Program) (w : World) (K : PySem.W.Frag) (mg : Str → Option Value) (base : Heap) (N : List Str) (qual : Str) (scope : Scope) (f : Addr) (cd : Value) (A : Around) (outer : List Env) (s : Shared) (H : Hp) : Cx :=
  { cxOf CX0 P w K mg base N qual scope f cd A outer s H E0 with calm := false, xe := fun _ _ => False }
theorem Inv.unmark {X : Cx} {pins : List (Addr × Obj)} {σ : L2.St} {H : Hp} {s : Shared} {A : Around} {xe : Value → Shared → Prop} (I : L2.Inv X pins σ H s) (hA : A.frames = X.A.frames) : L2.Inv { X with A := A, calm := false, xe := xe } pins σ H s :=
  ⟨⟨I.ok.mod, I.ok.kind, I.ok.glob, I.ok.blt, I.ok.above, I.ok.inj, I.ok.has, I.ok.cab, fun z => absurd z Bool.false_ne_true, hA.trans I.ok.frames, I.ok.stk, I.ok.exf, I.ok.bs, I.ok.bsz, I.ok.noex, I.ok.exfs, I.ok.funs, I.ok.frf⟩,
    I.os, I.bare, I.base, I.loc, I.cell, I.free, I.freeC, I.pin, I.hok, I.len⟩
structure FnOk2 (P : Program) (w : World) (K : PySem.W.Frag) (mg : Str → Option Value) (base : Heap) (k : Nat) (f : Addr) (fd : FuncData) (ps : List Str) (sp : Sp) : Prop where
  len : ∀ vs H Q E, sp vs H Q E → vs.length = ps.length
  run : ∀ (A : Around) (outer : List Env) (s : Shared) (H : Hp) (args : Args) (us : List Value) (vs : List V) (Q : VK), Room2 k A → 0 < s.toks → Env0 P w K mg base A outer s H → BindsTo s fd args (ps.zip us) → Vals vs us → sp vs H Q E0 →
    codeAny (model P w) A (.call (.ref f) args) (CR CX0 outer P w H s Q E0) s
theorem fn_of2 {P : Program} {w : World} {K : PySem.W.Frag} {mg : Str → Option Value} {base : Heap} {k : Nat} {f : Addr} {name qual : Str} {params : Arguments} {body : List Stmt} {scope : Scope} {dV kV doc pm cdv ct oc : Value} {an od : Option Addr}
    {osl : Array (Option Value)} {N ps : List Str} {sp : Sp} (lk : K.lookup f = some ⟨oc, od, .func (PySem.W.fnOf name qual params body scope dV kV doc pm an cdv ct), osl⟩) (hcd : PySem.W.codeIn K cdv qual = true) (S : FnScope N ps scope)
    (len : ∀ vs H Q E, sp vs H Q E → vs.length = ps.length)
    (hbody : ∀ (A : Around) (outer : List Env) (s : Shared) (H : Hp) (vs : List V) (Q : VK), Room2 k (A.deeper (envOfC qual scope s.heap.objs.size f cdv)) → sp vs H Q E0 → ∀ s1 : Shared, 0 < s1.toks →
      Inv (cxS P w K mg base N qual scope f cdv A outer s H) [] (L2.start N vs) H s1 →
      wpAny (model P w) (cxS P w K mg base N qual scope f cdv A outer s H).A (execs body (cxS P w K mg base N qual scope f cdv A outer s H).env)
        (SP (cxS P w K mg base N qual scope f cdv A outer s H) [] { nx := fun _ H' => Q .non H', rt := Q }) (fun _ _ => False) s1) :
    FnOk2 P w K mg base (k + 1) f (PySem.W.fnOf name qual params body scope dV kV doc pm an cdv ct) ps sp := by
  refine ⟨len, fun A outer s H args us vs Q hr hk e0 hb r hsp => ?_⟩
  have hl := len _ _ _ _ hsp
  have KX : K.In s.heap := e0.mod.kin.keeps fun b o e => (e0.bs b o e).1
  have lim : s.heap.NoLimit := e0.mod.nolimit.keeps fun b o e => (e0.bs b o e).1
  have hkind : ∀ y ∈ ps.zip us, scope.names.lookup y.1 = some .local ∨ (scope.names.lookup y.1 = some .cell ∧ ((cellsFrom (s.heap.objs.size + 1) scope.names []).lookup y.1).isSome = true) := fun ⟨n, v⟩ hy =>
    (S.par n (List.of_mem_zip hy).1).elim .inl fun q => .inr ⟨q, PySem.W.cellsFrom_some _ _ _ (.inl q)⟩
  refine codeAny_call_function hr.depth (KX _ _ lk) rfl S.co S.gen rfl (PySem.W.codeRec_of KX hcd) (hb _ _ _ _ ?_)
  refine wpAny_with_toks (n := 1) hk (wpAny_newFunctionEnv_cells S.kind hkind fun env he s1 x hk1 => ?_)
  subst he
  refine ⟨lim.keeps x.toInCall.keep, codeAny_func ?_⟩
  have e1 : Env0 P w K mg base ({ A with handled := none }) outer s H := ⟨e0.frames, e0.mod, e0.bs, e0.bsz, e0.funs, e0.frf, e0.hok, e0.bare⟩
  have I0 : Inv (cxOf CX0 P w K mg base N qual scope f cdv ({ A with handled := none }) outer s H E0) [] (L2.start N vs) H s1 := inv_start S rfl e1 hl r x
  have I : Inv (cxS P w K mg base N qual scope f cdv A outer s H) [] (L2.start N vs) H s1 :=
    Inv.unmark (X := cxOf CX0 P w K mg base N qual scope f cdv { A with handled := none } outer s H E0) (A := A.deeper (envOfC qual scope s.heap.objs.size f cdv)) (xe := fun _ _ => False) I0 rfl
  refine wpAny_mono (hbody A outer s H vs Q (hr.deeper _) hsp s1 hk1 I) (fun fl s' hs => ?_) fun e s' hs => hs.elim
  have fin : ∀ {σ' : L2.St} {H' : Hp} {v : V} {u : Value}, Inv (cxS P w K mg base N qual scope f cdv A outer s H) [] σ' H' s' → RelV v u → Q v H' → CE outer P w H s Q u s' :=
    fun {σ' H' v u} J rv q => ⟨v, H', J.os, J.bare, J.base, J.hok, rv, q⟩
  cases fl with
  | ret u =>
    obtain ⟨v, σ', H', J, rv, q⟩ := hs
    exact fin J rv q
  | next =>
    obtain ⟨σ', H', J, q⟩ := hs
    exact fin (v := V.non) (u := Value.none) J rfl q
  | brk =>
    obtain ⟨_, _, _, q⟩ := hs
    exact False.elim q
  | cont =>
    obtain ⟨_, _, _, q⟩ := hs
    exact False.elim q
theorem run_q2 {pins : List (Addr × Obj)} {s : Shared} {σ : L2.St} {H : Hp} {Q : VK} {us : List Value} {vs : List V} {k fn np : Nat} {f : Addr} {fd : FuncData} {ps : List Str} {ρ : List Addr} {ws : List W} {g : G} (F : FnOk2 X.prog X.w X.K X.mg X.base k f fd ps (spF X.K xc run fn np)) (hr : Room2 k X.A) (hb : Binds X.K fd ps []) (hR : ∀ σ C H', ¬ R σ C H')
    (hnp : ws.length = np) (I : Inv X pins σ H s) (hk : 0 < s.toks) (r : Vals vs us) (rw1 : RWs X.K xc ρ H ws vs) (hH : RH X.K xc ρ g H) (hP : Post X.K xc (RW X.K xc) ρ H Q (fun c H' => R σ (xc c) H') (callM wh run fn ws g)) :
    wpAny (model X.prog X.w) X.A (call (.ref f) us) (EP X pins σ Q) X.xe s := by
  obtain ⟨ρ0, args, g0, h0, r0, l0, hP0⟩ := callM_ok hH rw1 hP
  have hsp : spF X.K xc run fn np vs H Q E0 := ⟨ρ0, args, g0, h0, r0, l0.trans hnp, Post.imp hP0 (fun _ _ z => z) fun c H' z => (hR _ _ _ z).elim⟩
  have hl : us.length = ps.length := by rw [← r.length]; exact F.len _ _ _ _ hsp
  have hb' : BindsTo s fd ⟨us, []⟩ (ps.zip us) := by
    have := hb s us I.kIn (by rw [List.append_nil]; exact hl)
    rw [List.append_nil] at this
    exact this
  refine wpAny_call (codeAny_mono (F.run X.A X.stack s H ⟨us, []⟩ us vs Q hr hk I.env0 hb' r hsp) fun r s' hq => ?_)
  cases r with
  | error e => exact False.elim hq
  | ok fl =>
    cases fl with
    | ret u => exact I.after hq
    | next => exact False.elim hq
    | brk => exact False.elim hq
    | cont => exact False.elim hq
theorem qe_call2 {k fn np : Nat} {f : Addr} {fd : FuncData} {ps : List Str} {x : Str} (F : FnOk2 X.prog X.w X.K X.mg X.base k f fd ps (spF X.K xc run fn np)) (hr : Room2 k X.A) (hg : Gl X x) (hm : X.mg x = some (.ref f)) (hk' : PySem.W.keepIn X.K (.ref f) = true) (hb : Binds X.K fd ps []) (hR : ∀ σ C H', ¬ R σ C H')
    (ha : QA X xc R (a :: es) fs) (hdb : (x == ("__debug__" : Str)) = false) (he : starEach (a :: es) X.env = (false, eval a X.env) :: starEach es X.env) (hpl : (backTo pos (starEach es X.env)).any (·.1) = false) :
    QE X xc R (.Call (.Name x p) (a :: es) [] pos) (fun sl g => (fs sl g).bind fun ws g1 => if ws.length = np then callM wh run fn ws g1 else .stuck) := by
  intro pins s σ H ρ sl g Q I hk hS hH hP
  refine wpAny_Call_Name_kw (ld_glob I hg hm ?_ hdb)
  refine PySem.W.callWith_K (h₀ := X.base) I.ok.mod.kin hk' (thnT hk (ha pos pins s σ H ρ sl g _ I hk hS hH (Post.bind hP)) fun us s1 hk1 qq1 => ap_elim qq1 fun vs H1 I1 r ρ1 ws g1 X1 hH1 rw1 hP1 => ⟨I1.kIn, ?_⟩) he hpl
  by_cases hn : ws.length = np
  · rw [if_pos hn] at hP1
    exact run_q2 F hr hb hR hn I1 hk1 r rw1 hH1 hP1
  · rw [if_neg hn] at hP1
    exact hP1.elim
noncomputable def Made (X : Cx) (R : RK) : Prop := ∀ (pins : List (Addr × Obj)) (σ : L2.St) (H : Hp) (s : Shared) (h' : Heap) (ea C : Addr) (vs : List Value), Inv X pins σ H s → Heap.MadeExcOf s.heap h' ea (.ref C) vs → R σ C H → X.xe (.ref ea) { s with heap := h' }
theorem made_def {P : Program} {w : World} {K : PySem.W.Frag} {mg : Str → Option Value} {base : Heap} {N : List Str} {qual : Str} {scope : Scope} {f : Addr} {cd : Value} {A : Around} {outer : List Env} {s : Shared} {H : Hp} {E : XK} (hR : ∀ σ C H', R σ C H' → E (.ref C) none H') :
    Made (cxOf (CXd P w) P w K mg base N qual scope f cd A outer s H E) R := by
  intro pins σ H1 s1 h' ea C vs I1 hm q
  have hin : ∀ env ∈ (cxOf (CXd P w) P w K mg base N qual scope f cd A outer s H E).stack, ∀ a, env.frame = some a → a ∈ frs (cxOf (CXd P w) P w K mg base N qual scope f cd A outer s H E).stack := fun env he a ha => List.mem_filterMap.mpr ⟨env, he, ha⟩
  have hn : H1 ea = none := by
    cases hu : H1 ea with
    | none => rfl
    | some u =>
      obtain ⟨o, eo⟩ := (I1.hok ea u hu).there
      rw [hm.new] at eo
      cases eo
  refine wpAny_leaves_madeW (base := PySem.W.hideAll s1.heap (frs (cxOf (CXd P w) P w K mg base N qual scope f cd A outer s H E).stack)) (h := s1.heap) (env := envOfC qual scope s.heap.objs.size f cd) I1.ok.frames rfl (fun b o z => PySem.W.of_hideAll _ z) (PySem.W.funFrames_hide I1.stack hin) hm fun h2 t fl _ _ ups => ?_
  exact CXd.leave (s' := { s1 with heap := h' }) I1 rfl I1.bare Un.refl I1.hok fl ((Heap.UpToSlots.of_keeps hm.keeps).trans ups) hn hm.new (fun b o z hb _ => PySem.W.hideAll_get _ z hb) (hR _ _ _ q)
theorem qs_raise {x : Str} {n : Nat} {np cpos : Pos} (O : Exc X.K X.mg x (xc n)) (hM : Made X R) (hc : X.calm = true) (hg : Gl X x) (ha : QA X xc R (a :: es) fs) (hdb : (x == ("__debug__" : Str)) = false) (he : starEach (a :: es) X.env = (false, eval a X.env) :: starEach es X.env) (hpl : (backTo cpos (starEach es X.env)).any (·.1) = false) :
    QS X xc R (.Raise (some (.Call (.Name x np) (a :: es) [] cpos)) none pos) (fun sl g => (fs sl g).out sl fun ws g1 => if ws.length ≤ sizeLine then .exc n sl g1 else .stuck) := by
  intro pins s0 σ H0 ρ sl g D I hk hS hH hP
  obtain ⟨bm, Nc, nm, qn, bs, hdct, sn, sub, ab, col, dd, k0, k1, k2, k3, k5, hC, hT, hN, hni⟩ := exc_obj O.cls
  have KX := I.kIn
  have TL := PySem.W.tail_of_in KX hT
  have hbase : bm.contains (.type "BaseException") = true := TL.hasType (by decide)
  obtain ⟨y, hsp⟩ : ∃ y, backTo cpos (starEach (a :: es) X.env) = (false, y) :: backTo cpos (starEach es X.env) := ⟨_, by rw [he]; rfl⟩
  refine wpAny_Raise_call_subT (nm := nm) (q := qn) (C := xc n) (N := Nc) (bs := bs) (bm := bm) (hdct := hdct) (sn := sn) (sub := sub) (ab := ab) (col := col) (dd := dd) (k0 := k0) (k1 := k1) (k2 := k2) (k3 := k3) (k5 := k5) (newId := "ValueError.__new__") (bmB := excTail)
    (mN := s0.heap.nsMap Nc) PySem.F.excBase_ValueError hbase (I.ok.hd hc) ?_ (PySem.W.nsMap_none_of_in KX hN hni) ?_
  · rw [hsp, List.any_cons]
    exact hpl
  · refine ld_glob I hg O.bound ⟨rfl, ?_⟩ hdb
    rw [hsp]
    refine PySem.Calls.evalArgs_plain ?_
    rw [← hsp]
    refine thnT hk (ha cpos pins s0 σ H0 ρ sl g _ I hk hS hH (PostS.out hS hP)) fun us s1 hk1 qq1 => ap_elim qq1 fun vs H1 I1 r ρ1 ws g1 X1 hH1 rw1 hP1 => ?_
    by_cases hz : ws.length ≤ sizeLine
    · rw [if_pos hz] at hP1
      refine ⟨rfl, by rw [← r.length, rw1.length]; exact hz, I1.kIn _ _ hC, ?_, PySem.W.tail_of_in I1.kIn hT, fun h' ea hm => ?_⟩
      · obtain ⟨o, es, ep, ho, rr⟩ := (Heap.Ns.of_isNs (PySem.W.isNs_of_in KX hN) : s0.heap.Ns Nc (s0.heap.nsMap Nc))
        cases hk : X.K.lookup Nc with
        | none =>
          unfold PySem.W.nsOkIn at hN
          rw [hk] at hN
          cases hN
        | some o' =>
          have e0 := KX _ _ hk
          rw [ho] at e0
          cases e0
          exact ⟨_, es, ep, I1.kIn _ _ hk, rr⟩
      · exact hM pins σ H1 s1 h' ea (xc n) _ I1 hm (hP1 ρ1 H1 σ Ext.refl hH1 (hS.mono X1))
    · rw [if_neg hz] at hP1
      exact hP1.elim
end
end Ev
set_option Elab.async false
set_option linter.all false
set_option maxRecDepth 100000
namespace Ev
open PySem PySem.Spec PyProof.Rows PySem.SeqAt L2
section
variable {X : Cx} {xc : Nat → Addr} {R : RK} {a b : Expr} {pos p : Pos} {es : List Expr} {P : Cfg} {fb fh : Sl → G → Out}
noncomputable def tryF (P : Cfg) (c i : Nat) (fb fh : Sl → G → Out) : Sl → G → Out := fun sl g => match fb sl g with
  | .exc d sl1 g1 => if P.xsub d c then (match fh (sl1.set i (some (.exc d))) g1 with
      | .nx sl2 g2 => .nx (sl2.set i none) g2
      | .bk sl2 g2 => .bk (sl2.set i none) g2
      | .ct sl2 g2 => .ct (sl2.set i none) g2
      | .rt w g2 => .rt w g2
      | _ => .stuck) else .stuck
  | o => o
theorem qs_try {c n : Str} {cn i : Nat} {np hp : Pos} {body suite : List Stmt} {b₀ : Stmt} (O : Exc X.K X.mg c (xc cn)) (OX : XOk P X.K xc) (hg : Gl X c) (hst : X.stack = X.env :: X.outer) (hfr : X.env.frame = some X.env.locals)
    (hN : X.N.Nodup) (hi : X.N[i]? = some n) (hl : X.env.scope.names.lookup n = some .local)
    (hb : ∀ pins xe R', Raises (X.inTry pins xe) R' → PassesOwn (model X.prog X.w) X.A X.env xe → QSs (X.inTry pins xe) xc R' body fb) (hh : ∀ ea, QSs (X.suite ea) xc (fun _ _ _ => False) (b₀ :: suite) fh) (hdb : (c == ("__debug__" : Str)) = false) :
    QS X xc R (.Try body [.ExceptHandler (some (.Name c np)) (some n) (b₀ :: suite) hp] [] [] pos) (tryF P cn i fb fh) := by
  intro pins s σ H ρ sl g D I hk hS hH hP
  obtain ⟨bm, Nc, nm, qn, bs, hdct, sn, sub, ab, col, dd, k0, k1, k2, k3, k5, hC, hT, hNs, hni⟩ := exc_obj O.cls
  obtain ⟨R', hR'⟩ : ∃ R' : RK, R' = fun σ' C' H' => ∃ d sl1 g1 ρ1, C' = xc d ∧ P.xsub d cn = true ∧ RH X.K xc ρ1 g1 H' ∧ RS X.K xc ρ1 H' sl1 σ' ∧ PostS X.K xc ρ1 H' D R (match fh (sl1.set i (some (.exc d))) g1 with
      | .nx sl2 g2 => .nx (sl2.set i none) g2
      | .bk sl2 g2 => .bk (sl2.set i none) g2
      | .ct sl2 g2 => .ct (sl2.set i none) g2
      | .rt w g2 => .rt w g2
      | _ => .stuck) := ⟨_, rfl⟩
  have hP' : PostS X.K xc ρ H D R' (fb sl g) := by
    revert hP
    unfold tryF
    cases fb sl g with
    | nx sl1 g1 => exact fun h => h
    | rt w g1 => exact fun h => h
    | bk sl1 g1 => exact fun h => h
    | ct sl1 g1 => exact fun h => h
    | stuck => exact fun h => h
    | exc d sl1 g1 =>
      intro h ρ' H' σ' x y z
      dsimp only at h
      by_cases hd : P.xsub d cn = true
      · rw [if_pos hd] at h
        rw [hR']
        exact ⟨d, sl1, g1, ρ', rfl, hd, y, z, PostS.later x h⟩
      · rw [if_neg hd] at h
        exact False.elim h
  have hF : HasFr (X.inTry pins fun _ _ => False) := ⟨X.env, X.outer, X.env.locals, hst, hfr, hfr⟩
  have hb' := hb pins (FlyX (X.inTry pins fun _ _ => False) R') R' (fun e s' hf => FlyX.unwish (X := X.inTry pins fun _ _ => False) hf) (passesOwn_fly (X := X.inTry pins fun _ _ => False) hF)
  refine wpAny_Try_except (wpAny_with_toks (n := 1) hk (wpAny_mono (hb' [] s σ H ρ sl g D (I.inTry _) hk hS hH hP') (fun f s1 q _ => ?_) fun e s1 q hk1 => ?_))
  · cases f with
    | next =>
      obtain ⟨σ', H', I', q⟩ := q
      exact wpAny_execs_nil ⟨σ', H', Inv.outTry I.ok I', q⟩
    | brk =>
      obtain ⟨σ', H', I', q⟩ := q
      exact ⟨σ', H', Inv.outTry I.ok I', q⟩
    | cont =>
      obtain ⟨σ', H', I', q⟩ := q
      exact ⟨σ', H', Inv.outTry I.ok I', q⟩
    | ret u =>
      obtain ⟨v, σ', H', I', r, q⟩ := q
      exact ⟨v, σ', H', Inv.outTry I.ok I', r, q⟩
  · obtain ⟨ps, σ0, H0, s0, ch, ea, C', H', B, I0', hch', rfl, os, bare, fl, ab0, q⟩ := q
    have I0 : Inv X pins σ0 H0 s0 := Inv.outTry I.ok I0'
    have hch : ChOk X pins ch := fun b hb => by
      obtain ⟨g1, g2, g3, g4, g5⟩ := hch' b hb
      exact ⟨g1, g2, g3, g4, fun p hp => g5 p (List.mem_append_left _ hp)⟩
    have fl : Fl B X.stack ea C' s1.heap := fl
    have ab0 : Abt X.prog X.w X.stack ch H0 H' s0.heap s1.heap B ea := ab0
    have frk := I0.frk hch
    rw [hR'] at q
    obtain ⟨d, sl1, g1, ρ1, rfl, hsubd, hH1, hS1, hP1⟩ := q
    obtain ⟨nm', qn', Nc', bs', bm', hdct', sn', sub', ab', col', dd', k0', k1', k2', k3', k5', nid', hC', hsub⟩ := OX.sub d cn hsubd
    have fl' := fl
    rw [hst] at fl'
    refine fl_note (by rw [← hst]; exact I0.ok.frames) hfr fl' (fun h4 fl4 ups4 => ?_) X.env hfr rfl
    rw [← hst] at fl4
    have ab4 := ab0.moved frk fl4.1 ups4
    refine fl_set (s := { s1 with heap := h4 }) fl4 fun h5 fl5 ups5 => ?_
    have ab5 := ab4.moved frk fl5.1 ups5
    have I5 := (Abt.land I0 hch os bare fl5 ab5).suite ea
    refine wpAny_handleBy_cons (codeAny_handlers_test ?_) (by intro z; cases z)
    refine ld_glob (X := X.suite ea) I5 hg O.bound ?_ hdb
    obtain ⟨ob, ovs, hob, hobc, _⟩ := fl5.there
    have TL := PySem.W.tail_of_in I5.kIn hT
    refine xmatch (I5.kIn _ _ hC') (I5.kIn _ _ hC) hob hobc (TL.hasType (by decide)) hsub ?_
    show codeAny _ _ _ _ _
    refine codeAny_handlers_suite_as ?_
    refine fl_set (s := { s1 with heap := h5 }) fl5 fun h6 fl6 ups6 => ?_
    have ab6 := ab5.moved frk fl6.1 ups6
    have I6 := (Abt.land I0 hch os bare fl6 ab6).suite ea
    have hk6 : 0 < ({ s1 with heap := h6 } : Shared).toks := hk1
    refine wpAny_with_toks (n := 1) hk6 (store_ok (X := X.suite ea) I6 hN hi (.inl hl) (v := .ref ea) rfl (fun s7 I7 hk7 => ?_) (.inr hl))
    have X7 : Ext ρ1 H' ρ1 (upd H' ea (excAt ea (xc d))) := Ext.laid ab6.nt
    have hS7 : RS X.K xc ρ1 (upd H' ea (excAt ea (xc d))) (sl1.set i (some (.exc d))) (σ0.set i (some (.ref ea))) := (hS1.mono X7).set (by unfold RW; exact ⟨ea, rfl, upd_same⟩)
    have hP7 : PostS X.K xc ρ1 (upd H' ea (excAt ea (xc d))) { nx := fun σ2 H2 => D.nx (σ2.set i none) H2, rt := D.rt, bk := fun σ2 H2 => D.bk (σ2.set i none) H2, ct := fun σ2 H2 => D.ct (σ2.set i none) H2 } (fun _ _ _ => False) (fh (sl1.set i (some (.exc d))) g1) := by
      have hP1 := PostS.later X7 hP1
      revert hP1
      cases fh (sl1.set i (some (.exc d))) g1 with
      | nx sl2 g2 => exact fun h ρ' H' σ' x y z => h ρ' H' _ x y z.clear
      | bk sl2 g2 => exact fun h ρ' H' σ' x y z => h ρ' H' _ x y z.clear
      | ct sl2 g2 => exact fun h ρ' H' σ' x y z => h ρ' H' _ x y z.clear
      | rt w g2 => exact fun h => h
      | exc c s2 g2 => exact fun h => h.elim
      | stuck => exact fun h => h
    refine wpAny_mono (hh ea pins s7 _ _ ρ1 _ g1 _ I7 hk7 hS7 (hH1.laid ab6.nt) hP7) (fun fl8 s8 q8 => ?_) fun _ _ z => z.elim
    have go : ∀ {σ8 : L2.St} {H8 : Hp} {R : Prop}, Inv (X.suite ea) pins σ8 H8 s8 → (∀ s9, Inv X pins (σ8.set i none) H8 s9 → SP X pins D fl8 s9) →
        wpAny (model X.prog X.w) X.A (do bindName X.env n .none; unbindBehindTheSuite X.env n hp) (fun _ s9 => SP X pins D fl8 s9) X.xe s8 := fun {σ8 H8 R} I8 k => by
      have I8' := Inv.outSuite I.ok I8
      obtain ⟨m, hm, hlk⟩ := id I8'.loc
      exact wpAny_nameGoes_keeps hl hm (by rw [I.ok.kind]; rfl) fun h9 v9 hn9 hs9 => k _ (Inv.forget I8' hN hi hlk hn9 hs9)
    cases fl8 with
    | next =>
      obtain ⟨σ8, H8, I8, q8⟩ := q8
      exact go (R := True) I8 fun s9 I9 => ⟨_, _, I9, q8⟩
    | brk =>
      obtain ⟨σ8, H8, I8, q8⟩ := q8
      exact go (R := True) I8 fun s9 I9 => ⟨_, _, I9, q8⟩
    | cont =>
      obtain ⟨σ8, H8, I8, q8⟩ := q8
      exact go (R := True) I8 fun s9 I9 => ⟨_, _, I9, q8⟩
    | ret u =>
      obtain ⟨v8, σ8, H8, I8, r8, q8⟩ := q8
      exact go (R := True) I8 fun s9 I9 => ⟨_, _, _, I9, r8, q8⟩
noncomputable def putF (fe fo fi : Sl → G → Res W) : Sl → G → Out := fun sl g => (fe sl g).out sl fun w g1 => (fo sl g1).out sl fun x g2 => (fi sl g2).out sl fun y g3 => match putW x y w g3 with
  | some g4 => .nx sl g4
  | none => .stuck
theorem qs_put {o i e : Expr} {tp : Pos} {fe fo fi : Sl → G → Res W} (he : QE X xc R e fe) (ho : QE X xc R o fo) (hi : QE X xc R i fi) (hs : swapsWith e (some (.Subscript o i tp)) pos.line X.env = pure false)
    (ha : ∀ v, assign (.Subscript o i tp) X.env v = (do
      let ov ← holding [v] (eval o X.env)
      let iv ← holding [v, ov] (eval i X.env)
      standAt tp
      holding [v, ov, iv] (setItem ov iv v)
      release [v, ov, iv] [])) (hw : swappedStores [.Subscript o i tp] e X.env = pure none) : QS X xc R (.Assign [.Subscript o i tp] e pos) (putF fe fo fi) := by
  intro pins s σ H ρ sl g D I hk hS hH hP
  unfold putF at hP
  refine wpAny_Assign_stores (thnT hk (he pins s σ H ρ sl g _ I hk hS hH (PostS.out hS hP)) fun v s1 hk1 qq1 => ep_elim qq1 fun x H1 I1 r1 ρ1 w1 g1 X1 hH1 rw1 hP1 => ?_) hs hw
  show wpAny _ _ (assign (.Subscript o i tp) X.env v) _ _ s1
  rw [ha]
  have hS1 := hS.mono X1
  refine wpAny_bind (wpAny_holding (thnT hk1 (ho pins s1 σ H1 ρ1 sl g1 _ I1 hk1 hS1 hH1 (PostS.out hS1 hP1)) fun ov s2 hk2 qq2 => ep_elim qq2 fun x2 H2 I2 r2 ρ2 w2 g2 X2 hH2 rw2 hP2 => ?_))
  have hS2 := hS1.mono X2
  refine wpAny_bind (wpAny_holding (thnT hk2 (hi pins s2 σ H2 ρ2 sl g2 _ I2 hk2 hS2 hH2 (PostS.out hS2 hP2)) fun iv s3 hk3 qq3 => ep_elim qq3 fun x3 H3 I3 r3 ρ3 w3 g3 X3 hH3 rw3 hP3 => ?_))
  have rw1 := RW.mono (X2.trans X3) w1 rw1
  have rw2 := RW.mono X3 w2 rw2
  have hS3 := hS2.mono X3
  cases w2 with
  | ref j =>
    cases w3 with
    | int k =>
      have hP3 : PostS X.K xc ρ3 H3 D R (match (match g3[j]? with | some (.lst ws) => if 0 ≤ k ∧ k < ws.length then some (g3.set j (.lst (ws.set k.toNat w1))) else none | none => none) with | some g4 => .nx sl g4 | none => .stuck) := hP3
      cases hj : g3[j]? with
      | none => rw [hj] at hP3; exact hP3.elim
      | some ob =>
        cases ob with
        | lst ws =>
          rw [hj] at hP3
          by_cases hc : 0 ≤ k ∧ k < ws.length
          · have hP3 : PostS X.K xc ρ3 H3 D R (match (if 0 ≤ k ∧ k < ws.length then some (g3.set j (.lst (ws.set k.toNat w1))) else none) with | some g4 => .nx sl g4 | none => .stuck) := hP3
            rw [if_pos hc] at hP3
            obtain ⟨a, vs, rfl, ha1, ha2, rs⟩ := rw_lst hH3 rw2 hj
            unfold RW at rw3
            subst rw3
            obtain ⟨hH4, X4⟩ := hH3.setL ha1 (rs.setAt rw1 k.toNat)
            have hl := rs.length
            refine wpAny_bind (wpAny_standAt (wpAny_bind (wpAny_holding (thn (set_list pins s3 σ H3 (.ref a) (.int k) x ov iv v (fun H4 => D.nx σ H4) I3 r2 r3 r1 ⟨a, vs, k, k.toNat, rfl, rfl, ha2, ?_, hP3 _ _ σ X4 hH4 (hS3.mono X4)⟩) fun _ s4 ⟨H4, I4, q4⟩ => ?_))))
            · unfold ixN
              rw [if_pos hc.1, if_pos (by rw [hl]; exact hc.2)]
            · exact wpAny_release ⟨σ, H4, I4, q4⟩
          · have hP3 : PostS X.K xc ρ3 H3 D R (match (if 0 ≤ k ∧ k < ws.length then some (g3.set j (.lst (ws.set k.toNat w1))) else none) with | some g4 => .nx sl g4 | none => .stuck) := hP3
            rw [if_neg hc] at hP3
            exact hP3.elim
    | _ => exact hP3.elim
  | _ => exact hP3.elim
end
end Ev
set_option Elab.async false
set_option linter.all false
set_option maxRecDepth 100000
namespace Ev
open PySem
structure Sc where
  N : List Str
  names : List (Str × NameKind)
  calm : Bool
  can : Bool
structure Pg where
  fn : Str → Option Nat
  /-- defs that are called within except suites alone -/
  fnS : Str → Option Nat
  xcl : Str → Option Nat
  cst : Str → Option W
  /-- built-in names that the module leaves as they are -/
  bl : List Str
noncomputable def slotOf (S : Sc) (x : Str) : Option Nat := match S.names.lookup x with
  | some .local | some .cell | some .free => if (x == ("__debug__" : Str)) = false ∧ (x == ("__classdict__" : Str)) = false then S.N.findIdx? (· == x) else none
  | _ => none
noncomputable def isGl (S : Sc) (x : Str) : Bool := S.names.lookup x == some .globalImplicit && (x == ("__debug__" : Str)) == false
noncomputable def isBl (T : Pg) (S : Sc) (x : Str) : Bool := isGl S x && T.bl.contains x
noncomputable def cOp : Operator → Option O2
  | .Add => some .add | .Sub => some .sub | .Mult => some .mul | .FloorDiv => some .fdiv | .Mod => some .mod | .Pow => some .pow
  | _ => none
noncomputable def cCmp : CmpOp → Option O2
  | .Lt => some .lt | .LtE => some .le | .Gt => some .gt | .GtE => some .ge | .Eq => some .eq | .NotEq => some .ne | .Is => some .isn
  | _ => none
noncomputable def nonStar : Expr → Bool
  | .Starred .. => false
  | _ => true
noncomputable def plainIxB : Expr → Bool
  | .Slice .. => false
  | _ => true
noncomputable def plainT : Expr → Bool
  | .UnaryOp .Not _ _ => false
  | .BoolOp .. => false
  | .IfExp .. => false
  | .Compare .. => false
  | _ => true
noncomputable def notComp : Expr → Bool
  | .ListComp .. => false
  | .SetComp .. => false
  | .DictComp .. => false
  | _ => true
noncomputable def baseOk : Expr → Bool
  | .Name .. => true
  | .Constant .. => true
  | .Subscript .. => true
  | _ => false
noncomputable def notSet : Expr → Bool
  | .Set .. => false
  | _ => true
noncomputable def strIs (x : Str) (y : String) : Bool := x == Str.ofString y
noncomputable def cMt (x : Str) : Option Mt := if strIs x "append" then some .append else if strIs x "index" then some .index else if strIs x "count" then some .count else if strIs x "pop" then some .pop else if strIs x "insert" then some .insert else none
noncomputable def cBl (x : Str) : Option Bl := if strIs x "len" then some .len else if strIs x "all" then some .all else if strIs x "int" then some .int else if strIs x "list" then some .list else if strIs x "any" then some .any else if strIs x "max" then some .max else none
noncomputable def walks : Bl → Bool
  | .all => true
  | .any => true
  | .max => true
  | _ => false
noncomputable def cTy (T : Pg) (S : Sc) (x : Str) : Option Ty := if isGl S x then (match T.xcl x with
  | some c => some (.x c)
  | none => if T.bl.contains x then (if strIs x "int" then some (.b "int") else if strIs x "bool" then some (.b "bool") else if strIs x "str" then some (.b "str") else if strIs x "tuple" then some (.b "tuple") else if strIs x "list" then some (.b "list") else if strIs x "ValueError" then some (.b "ValueError") else none) else none) else none
noncomputable def cons? : Option E → Option E → Option E
  | some a, some b => some (.cons a b)
  | _, _ => none
noncomputable def compN (scope : Scope) : List Str := (scope.names.filter fun x => x.2 == .local || x.2 == .free).map (·.1)
noncomputable def compFr (S : Sc) (scope : Scope) : List (Option Nat) := (compN scope).map fun x => if scope.names.lookup x == some .free then S.N.findIdx? (· == x) else none
noncomputable def compOk (S : Sc) (scope : Scope) : Bool := scope.kind == .function && scope.names.all (fun x => x.2 != .cell && scope.names.lookup x.1 == some x.2 && (x.2 != .free || ((S.names.lookup x.1 == some .cell || S.names.lookup x.1 == some .free) && S.N.contains x.1))) && decide (compN scope).Nodup
noncomputable def compS (S : Sc) (scope : Scope) : Sc := ⟨compN scope, scope.names, S.calm, false⟩
noncomputable def cTg1 (S : Sc) : Expr → Option Nat
  | .Name x _ => if S.names.lookup x == some .local || (S.names.lookup x == some .cell && S.can) then S.N.findIdx? (· == x) else none
  | _ => none
noncomputable def cTgs (S : Sc) : List Expr → Option (List Nat)
  | [] => some []
  | a :: r => match cTg1 S a, cTgs S r with
    | some i, some is => some (i :: is)
    | _, _ => none
noncomputable def cTg (S : Sc) : Expr → Option Tg
  | .Tuple es _ _ => if S.calm then (cTgs S es).map .tup else none
  | .Name x _ => if S.names.lookup x == some .local || (S.names.lookup x == some .cell && S.can) then (S.N.findIdx? (· == x)).map .one else none
  | _ => none
noncomputable def cCst : Const → Option W
  | .int i => some (.int i)
  | .str x => some (.str x)
  | .bool b => some (.bl b)
  | .none => some .non
  | _ => none
noncomputable def notRng : E → Bool
  | .rng _ => false
  | _ => true
noncomputable def rngOff : Option E → Option E
  | some a => if notRng a then some a else none
  | none => none
noncomputable def isIsi (T : Pg) (S : Sc) (x : Str) : Bool := strIs x "isinstance" && isBl T S x
noncomputable def rngV (T : Pg) (S : Sc) : Expr → Option Expr
  | .Call f es kws _ => match kws with
    | [] => match f with
      | .Name x _ => match es with
        | [a] => if strIs x "range" && isBl T S x then some a else none
        | _ => none
      | _ => none
    | _ => none
  | _ => none
mutual
noncomputable def cE (T : Pg) : Nat → Sc → Expr → Option E
  | 0, _, _ => none
  | m + 1, S, e => match e with
    | .Name x _ => match slotOf S x with
      | some i => some (.var i)
      | none => if isGl S x then (T.cst x).map .cst else none
    | .Constant c _ _ => (cCst c).map .cst
    | .BinOp a op b _ => match cOp op, cE T m S a, cE T m S b with
      | some o, some a, some b => some (.op2 o a b)
      | _, _, _ => none
    | .UnaryOp op a _ => match op with
      | .USub => (cE T m S a).map .neg
      | .Not => (cE T m S a).map .not
      | _ => none
    | .Compare a ops bs _ => match ops, bs with
      | [op], [b] => match cCmp op, cE T m S a, cE T m S b with
        | some o, some a', some b' => if behindInMarks op b = false then some (.op2 o a' b') else none
        | _, _, _ => none
      | _, _ => none
    | .BoolOp op es pos => match es with
      | [] => none
      | [a] => cE T m S a
      | a :: b :: r => match op with
        | .And => match cE T m S a, cE T m S (.BoolOp .And (b :: r) pos) with
          | some a, some b => some (.and a b)
          | _, _ => none
        | .Or => match cE T m S a, cE T m S (.BoolOp .Or (b :: r) pos) with
          | some a, some b => some (.or a b)
          | _, _ => none
    | .IfExp c a b _ => match cT T m S c, cE T m S a, cE T m S b with
      | some c, some a, some b => some (.ite c a b)
      | _, _, _ => none
    | .Tuple es _ _ => (cEs T m S es).map .tup
    | .List es _ => (cEs T m S es).map .lst
    | .Subscript a b _ => if plainIxB b then (match cE T m S a, cE T m S b with
        | some a', some b' => some (.ix a' b')
        | _, _ => none) else (match b with
        | .Slice lo hi none _ => match cE T m S a, cO T m S lo, cO T m S hi with
          | some a, some lo, some hi => some (.slc a lo hi)
          | _, _, _ => none
        | _ => none)
    | .Call f es kws pos => match kws with
      | [] => match f with
        | .Name x _ => if isIsi T S x then (match es with
            | [a, b] => match b with
              | .Name y _ => match cE T m S a, cTy T S y with
                | some a, some t => some (.isi a t)
                | _, _ => none
              | _ => none
            | _ => none) else cCall T m S x es
        | .Attribute o name ap => match es with
          | [] => match cE T m S o with
            | some o' => if strIs name "reverse" && baseOk o && ap.endLine == pos.line then some (.mth .reverse o' .nil) else none
            | none => none
          | a :: r => match cMt name, cE T m S o, cEs T m S (a :: r) with
            | some mt, some o', some as => if baseOk o && ap.endLine == pos.line && decide (r.length < 20) then some (.mth mt o' as) else none
            | _, _, _ => none
        | _ => none
      | _ => none
    | .ListComp elt gens scope _ => match gens with
      | [⟨tg, iter, ifs, k⟩] => if k = 0 then (match cI T m S iter, cTg (compS S scope) tg, cFs T m (compS S scope) ifs, cE T m (compS S scope) elt with
          | some it, some t, some c, some e => if compOk S scope && S.calm && notSet iter then some (.lc (compFr S scope) t it c e) else none
          | _, _, _, _ => none) else none
      | _ => none
    | _ => none
/-- a call of an own def or of a built-in -/
noncomputable def cCall (T : Pg) : Nat → Sc → Str → List Expr → Option E
  | 0, _, _, _ => none
  | m + 1, S, x, es => match es with
    | [] => none
    | a :: r => if isGl S x then (match T.fn x with
      | some f => if S.calm then (cEs T m S (a :: r)).map (.call f) else none
      | none => match T.fnS x with
       | some f => if S.calm then none else (cEs T m S (a :: r)).map (.call f)
       | none => if T.bl.contains x then (match cBl x with
        | some b => if S.calm || !walks b then (cEs T m S (a :: r)).map (.blt b) else none
        | none => none) else none) else none
noncomputable def cEs (T : Pg) : Nat → Sc → List Expr → Option E
  | 0, _, _ => none
  | _ + 1, _, [] => some .nil
  | m + 1, S, a :: r => if nonStar a then cons? (cE T m S a) (cEs T m S r) else none
/-- a test -/
noncomputable def cT (T : Pg) : Nat → Sc → Expr → Option E
  | 0, _, _ => none
  | m + 1, S, e => match e with
    | .BoolOp op es pos => match es with
      | [] => none
      | [a] => cT T m S a
      | a :: b :: r => match op with
        | .And => match cT T m S a, cT T m S (.BoolOp .And (b :: r) pos) with
          | some a, some b => some (.and a b)
          | _, _ => none
        | .Or => match cT T m S a, cT T m S (.BoolOp .Or (b :: r) pos) with
          | some a, some b => some (.or a b)
          | _, _ => none
    | .UnaryOp op a pos => match op with
      | .Not => (cT T m S a).map .not
      | op => cE T m S (.UnaryOp op a pos)
    | .Compare a ops bs _ => match ops, bs with
      | [op], [b] => match cCmp op, cE T m S a, cE T m S b with
        | some o, some a', some b' => if behindInMarks op b = false then some (.op2 o a' b') else none
        | _, _, _ => none
      | _, _ => none
    | e => if plainT e then cE T m S e else none
/-- a slice's part -/
noncomputable def cO (T : Pg) : Nat → Sc → Option Expr → Option E
  | 0, _, _ => none
  | _ + 1, _, none => some .nil
  | m + 1, S, some a => (cE T m S a).map fun a => .cons a .nil
/-- what a loop walks -/
noncomputable def cI (T : Pg) : Nat → Sc → Expr → Option E
  | 0, _, _ => none
  | m + 1, S, e => match rngV T S e with
    | some a => if nonStar a then (cE T m S a).map fun a => .rng (.cons a .nil) else none
    | none => rngOff (cE T m S e)
/-- a comprehension's condition -/
noncomputable def cFs (T : Pg) : Nat → Sc → List Expr → Option E
  | 0, _, _ => none
  | _ + 1, _, [] => some (.cst (.bl true))
  | m + 1, S, [c] => cT T m S c
  | _ + 1, _, _ => none
end
noncomputable def raiseV (e cause : Option Expr) : Option (Str × Expr × List Expr) := match cause with
  | none => match e with
    | some e => match e with
      | .Call f es kws _ => match kws with
        | [] => match f with
          | .Name x _ => match es with
            | a :: es => some (x, a, es)
            | _ => none
          | _ => none
        | _ => none
      | _ => none
    | none => none
  | some _ => none
noncomputable def tryV (hs : List ExceptHandler) (o f : List Stmt) : Option (Str × Str × Stmt × List Stmt) := match o with
  | [] => match f with
    | [] => match hs with
      | [h] => match h with
        | .ExceptHandler t nm b _ => match t with
          | some t => match t with
            | .Name c _ => match nm with
              | some n => match b with
                | b₀ :: suite => some (c, n, b₀, suite)
                | _ => none
              | none => none
            | _ => none
          | none => none
      | _ => none
    | _ => none
  | _ => none
mutual
noncomputable def cS (T : Pg) : Nat → Sc → Stmt → Option S
  | 0, _, _ => none
  | m + 1, s, st => match st with
    | .Pass _ => some .skip
    | .Break _ => some .brk
    | .Continue _ => some .cont
    | .Return v _ => match v with
      | some e => (cE T m s e).map .ret
      | none => none
    | .Expr e _ => if notComp e then (cE T m s e).map .drop else none
    | .Assign tgs e _ => match tgs with
      | [tg] => match tg with
        | .Name x p => match cTg s (.Name x p), cE T m s e with
          | some t, some e' => if notComp e then some (.set t e') else none
          | _, _ => none
        | .Subscript a b p => match cE T m s a, cE T m s b, cE T m s e with
          | some a', some b', some e' => if notComp e && plainIxB b then some (.put a' b' e') else none
          | _, _, _ => none
        | _ => none
      | _ => none
    | .If c a b _ => match cT T m s c, cSs T m s a, cSs T m s b with
      | some c, some a, some b => some (.ite c a b)
      | _, _, _ => none
    | .For tg it body orelse _ => match orelse with
      | [] => match cTg s tg, cI T m s it, cSs T m s body with
        | some t, some it', some b => if s.calm && notSet it then some (.loop t it' b) else none
        | _, _, _ => none
      | _ => none
    | .Raise x cause _ => match raiseV x cause with
      | some (x, a, es) => match T.xcl x, cEs T m s (a :: es) with
        | some c, some as => if s.can && s.calm && isGl s x then some (.raise c as) else none
        | _, _ => none
      | none => none
    | .Try body hs orelse fin _ => match tryV hs orelse fin with
      | some (c, n, b₀, suite) => match T.xcl c, s.N.findIdx? (· == n), cSs T m { s with can := false } body, cSs T m { s with calm := false, can := false } (b₀ :: suite) with
        | some d, some i, some b, some h => if s.can && s.calm && isGl s c && s.names.lookup n == some .local then some (.try b d i h) else none
        | _, _, _, _ => none
      | none => none
    | _ => none
noncomputable def cSs (T : Pg) : Nat → Sc → List Stmt → Option S
  | 0, _, _ => none
  | _ + 1, _, [] => some .skip
  | m + 1, s, a :: r => match cS T m s a, cSs T m s r with
    | some a, some r => some (.seq a r)
    | _, _ => none
end
end Ev
set_option Elab.async false
set_option linter.all false
set_option maxRecDepth 100000
namespace Ev
open PySem PySem.Spec PyProof.Rows PySem.SeqAt L2
theorem star_cons {a : Expr} {es : List Expr} {env : Env} (h : nonStar a = true) : starEach (a :: es) env = (false, eval a env) :: starEach es env := by cases a <;> first | rfl | cases h
theorem star_any {env : Env} {pos : Pos} : ∀ {es : List Expr}, es.all nonStar = true → (backTo pos (starEach es env)).any (·.1) = false ∧ (backTo pos (starEach es env)).all (fun x => !x.1) = true
  | [], _ => ⟨rfl, rfl⟩
  | a :: es, h => by
    rw [List.all_cons, Bool.and_eq_true] at h
    obtain ⟨h1, h2⟩ := star_any (env := env) (pos := pos) h.2
    rw [star_cons h.1]
    exact ⟨by show (false || (backTo pos (starEach es env)).any (·.1)) = false; rw [h1]; rfl, by show (true && (backTo pos (starEach es env)).all (fun x => !x.1)) = true; rw [h2]; rfl⟩
theorem plainT_ok {e : Expr} {env : Env} (h : plainT e = true) : ∀ whole, isTrue e env whole = (do let v ← whole; standAt e.pos; holding [v] (truthy v)) := by
  intro whole
  cases e with
  | UnaryOp op a pos => cases op <;> first | rfl | cases h
  | _ => first | rfl | cases h
theorem plainIx_ok {b : Expr} (h : plainIxB b = true) : PlainIx b := by
  intro o i
  cases b <;> first | rfl | cases h
theorem base_ok {o : Expr} {name : Str} {env : Env} {t : Sem Value} (h : baseOk o = true) : attributeBase o name env t = t := by cases o <;> first | rfl | cases h
theorem notSet_ok {e : Expr} {env : Env} (h : notSet e = true) : ∀ x, foldedSetIterable e env x = pure x := by
  intro x
  cases e <;> first | rfl | cases h
theorem notComp_ok {e : Expr} {env : Env} {tg : Option Expr} {l : Nat} (h : notComp e = true) : swapsWith e tg l env = pure false := by cases e <;> first | rfl | cases h
section
variable (P : Cfg) (cl : Nat → List W → G → Res W)
theorem ev_and (a b : E) : ev P cl (.and a b) = andF (ev P cl a) (ev P cl b) := by funext sl g; rfl
theorem ev_or (a b : E) : ev P cl (.or a b) = orF (ev P cl a) (ev P cl b) := by funext sl g; rfl
theorem ev_op2 (o : O2) (a b : E) : ev P cl (.op2 o a b) = fun sl g => (ev P cl a sl g).bind fun x g1 => (ev P cl b sl g1).bind fun y g2 => op2W o x y g2 := by funext sl g; rfl
theorem ev_neg (a : E) : ev P cl (.neg a) = fun sl g => (ev P cl a sl g).bind negW := by funext sl g; rfl
theorem ev_not (a : E) : ev P cl (.not a) = fun sl g => (ev P cl a sl g).bind fun x g1 => (toB g1 x).bind fun k g2 => .ok (.bl (!k)) g2 := by funext sl g; rfl
theorem ev_ite (c a b : E) : ev P cl (.ite c a b) = fun sl g => (ev P cl c sl g).bind fun x g1 => (toB g1 x).bind fun k g2 => if k then ev P cl a sl g2 else ev P cl b sl g2 := by funext sl g; rfl
theorem ev_tup (as : E) : ev P cl (.tup as) = fun sl g => (evs P cl as sl g).bind fun ws g1 => if ws.length ≤ sizeLine then .ok (.tup ws) g1 else .stuck := by funext sl g; rfl
theorem ev_lst (as : E) : ev P cl (.lst as) = fun sl g => (evs P cl as sl g).bind fun ws g1 => if ws.length ≤ sizeLine then .ok (.ref g1.length) (g1 ++ [.lst ws]) else .stuck := by funext sl g; rfl
theorem ev_ix (a b : E) : ev P cl (.ix a b) = fun sl g => (ev P cl a sl g).bind fun x g1 => (ev P cl b sl g1).bind fun y g2 => Res.of (ixW g2 x y) g2 := by funext sl g; rfl
theorem ev_slc (a lo hi : E) : ev P cl (.slc a lo hi) = fun sl g => (ev P cl a sl g).bind fun x g1 => (partR (evs P cl lo sl g1)).bind fun l g2 => (partR (evs P cl hi sl g2)).bind fun u g3 => slcW x l u g3 := by funext sl g; rfl
theorem ev_call (f : Nat) (as : E) : ev P cl (.call f as) = fun sl g => (evs P cl as sl g).bind fun ws g1 => if ws.length = (P.fns[f]?.map (·.np)).getD 1000 then cl f ws g1 else .stuck := by funext sl g; rfl
theorem ev_blt (b : Bl) (as : E) : ev P cl (.blt b as) = fun sl g => (evs P cl as sl g).bind (bltW b) := by funext sl g; rfl
theorem ev_mth (m : Mt) (o as : E) : ev P cl (.mth m o as) = fun sl g => (ev P cl o sl g).bind fun x g1 => if mtT m x g1 then (evs P cl as sl g1).bind fun ws g2 => mthW m x ws g2 else .stuck := by funext sl g; rfl
theorem ev_mth0 (m : Mt) (o : E) : ev P cl (.mth m o .nil) = fun sl g => (ev P cl o sl g).bind fun x g1 => if mtT m x g1 then (Res.ok ([] : List W) g1).bind fun ws g2 => mthW m x ws g2 else .stuck := by funext sl g; rfl
theorem ev_isi (a : E) (t : Ty) : ev P cl (.isi a t) = fun sl g => (ev P cl a sl g).bind fun x g1 => Res.of ((isiW P g1 x t).map .bl) g1 := by funext sl g; rfl
theorem evs_cons (a r : E) : evs P cl (.cons a r) = fun sl g => (ev P cl a sl g).bind fun x g1 => (evs P cl r sl g1).bind fun xs g2 => .ok (x :: xs) g2 := by funext sl g; rfl
theorem evs_nil : evs P cl .nil = fun _ g => .ok [] g := by funext sl g; rfl
theorem ev_var (i : Nat) : ev P cl (.var i) = fun sl g => match sl[i]? with | some (some w) => .ok w g | _ => .stuck := by funext sl g; rfl
theorem ev_cst (w : W) : ev P cl (.cst w) = fun _ g => .ok w g := by funext sl g; rfl
theorem ev_lc' (fr : List (Option Nat)) (t : Tg) (it c e : E) : ev P cl (.lc fr t it c e) = fun sl g => (evI P cl it sl g).bind fun J g1 => lcGo fr t (ev P cl c) (ev P cl e) sl J g1 := by funext sl g; exact ev_lc P cl fr t it c e sl g
end
structure Lk (T : Pg) (P : Cfg) (prog : Program) (w : World) (K : PySem.W.Frag) (mg : Str → Option Value) (base : Heap) (xc : Nat → Addr) (n : Nat) : Prop where
  cst : ∀ x w', T.cst x = some w' → ∃ v u, mg x = some u ∧ RelV v u ∧ ∀ ρ H, RW K xc ρ H w' v
  xcl : ∀ x c, T.xcl x = some c → Exc K mg x (xc c)
  bl : ∀ x, T.bl.contains x = true → mg x = none
  xo : XOk P K xc
  fn : ∀ x f, T.fn x = some f → ∃ fa fd ps, mg x = some (.ref fa) ∧ PySem.W.keepIn K (.ref fa) = true ∧ Binds K fd ps [] ∧ (P.fns[f]?.map (·.np)).getD 1000 = ps.length ∧ FnOk1 prog w K mg base n fa fd ps (spF K xc (runN P n) f ps.length)
  fnS : ∀ x f, T.fnS x = some f → ∃ fa fd ps, mg x = some (.ref fa) ∧ PySem.W.keepIn K (.ref fa) = true ∧ Binds K fd ps [] ∧ (P.fns[f]?.map (·.np)).getD 1000 = ps.length ∧ FnOk2 prog w K mg base n fa fd ps (spF K xc (runN P n) f ps.length)
noncomputable abbrev LkX (T : Pg) (P : Cfg) (X : Cx) (xc : Nat → Addr) (n : Nat) : Prop := Lk T P X.prog X.w X.K X.mg X.base xc n
structure XC (X : Cx) (S : Sc) (R : RK) (n : Nat) : Prop where
  N : X.N = S.N
  nd : S.N.Nodup
  loc : ∀ x, S.names.lookup x = some .local → X.env.scope.names.lookup x = some .local
  cel : ∀ x, S.names.lookup x = some .cell → X.env.scope.names.lookup x = some .cell ∧ X.fn x = true
  fre : ∀ x, S.names.lookup x = some .free → X.env.scope.names.lookup x = some .cell ∨ X.env.scope.names.lookup x = some .free
  glo : ∀ x, S.names.lookup x = some .globalImplicit → X.env.scope.names.lookup x = some .globalImplicit
  clx : ∀ x, S.names.lookup x = some .cell ∨ S.names.lookup x = some .free → (X.env.cells.lookup x).isSome = true
  calm : S.calm = true → X.calm = true
  fr : HasFr X
  rs : Raises X R
  un : X.A.units + 65 < cLine
  room : S.calm = true → Room n X.A
  rm2 : Room2 n X.A
  nr : S.calm = false → ∀ σ C H', ¬ R σ C H'
theorem find_get {l : List Str} {x : Str} {i : Nat} (h : l.findIdx? (· == x) = some i) : l[i]? = some x := by
  obtain ⟨h1, h2, _⟩ := List.findIdx?_eq_some_iff_getElem.mp h
  rw [List.getElem?_eq_getElem h1]
  have : l[i] = x := by simpa using h2
  rw [this]
theorem isGl_ok {S : Sc} {x : Str} (h : isGl S x = true) : S.names.lookup x = some .globalImplicit ∧ (x == ("__debug__" : Str)) = false := by
  unfold isGl at h
  rw [Bool.and_eq_true] at h
  exact ⟨by simpa using h.1, by simpa using h.2⟩
theorem XC.gl {X : Cx} {S : Sc} {R : RK} {n : Nat} (C : XC X S R n) {x : Str} (h : isGl S x = true) : Gl X x := C.glo x (isGl_ok h).1
theorem strIs_ok {x : Str} {y : String} (h : strIs x y = true) : x = Str.ofString y := by unfold strIs at h; simpa using h
theorem relabel_glob {env : Env} : ∀ {names : List (Str × NameKind)} {x : Str}, names.lookup x = some .globalImplicit →
    (names.map fun (n, k) => if (k == NameKind.free && env.scope.kind == .function && env.kindOf n == some .cell) then (n, NameKind.cell) else (n, k)).lookup x = some .globalImplicit
  | [], _, h => by simp at h
  | (n, k) :: r, x, h => by
    have ih := @relabel_glob env r x
    show List.lookup x ((if (k == NameKind.free && env.scope.kind == .function && env.kindOf n == some .cell) = true then (n, NameKind.cell) else (n, k)) :: _) = _
    cases hx : x == n with
    | true =>
      rw [List.lookup_cons, hx] at h
      cases h
      rw [if_neg (by simp)]
      rw [List.lookup_cons, hx]
    | false =>
      rw [List.lookup_cons, hx] at h
      by_cases hc : (k == NameKind.free && env.scope.kind == .function && env.kindOf n == some .cell) = true
      · rw [if_pos hc, List.lookup_cons, hx]; exact ih h
      · rw [if_neg hc, List.lookup_cons, hx]; exact ih h
theorem compOk_all {S : Sc} {scope : Scope} (h : compOk S scope = true) : scope.kind = .function ∧ (∀ x ∈ scope.names, x.2 ≠ .cell ∧ scope.names.lookup x.1 = some x.2 ∧ (x.2 = .free → (S.names.lookup x.1 = some .cell ∨ S.names.lookup x.1 = some .free) ∧ x.1 ∈ S.N)) ∧ (compN scope).Nodup := by
  unfold compOk at h
  rw [Bool.and_eq_true, Bool.and_eq_true] at h
  obtain ⟨⟨h1, h2⟩, h3⟩ := h
  refine ⟨by simpa using h1, fun x hx => ?_, of_decide_eq_true h3⟩
  have := List.all_eq_true.mp h2 x hx
  rw [Bool.and_eq_true, Bool.and_eq_true] at this
  obtain ⟨⟨a, b⟩, c⟩ := this
  refine ⟨by simpa using a, by simpa using b, fun hf => ?_⟩
  rw [hf] at c
  have c : ((S.names.lookup x.1 == some .cell || S.names.lookup x.1 == some .free) && S.N.contains x.1) = true := by simpa using c
  rw [Bool.and_eq_true] at c
  exact ⟨by simpa using c.1, by simpa using c.2⟩
theorem XC.comp {X : Cx} {S : Sc} {R : RK} {n : Nat} (C : XC X S R n) {scope : Scope} (h : compOk S scope = true) (Ca : Addr) (s₀ : Shared) (H₀ : Hp) (ex : List Addr) (pins : List (Addr × Obj)) (xe : Value → Shared → Prop) (R' : RK) (hcm : S.calm = true)
    (hR : Raises ((cxComp X (compN scope) scope Ca s₀ H₀ ex pins).wish xe) R') : XC ((cxComp X (compN scope) scope Ca s₀ H₀ ex pins).wish xe) (compS S scope) R' n := by
  obtain ⟨h1, h2, h3⟩ := compOk_all h
  have noc : ∀ x, scope.names.lookup x = some .cell → False := fun x e => (h2 _ (PySem.mem_of_lookup e)).1 rfl
  refine ⟨rfl, h3, fun x e => ?_, fun x e => (noc x e).elim, fun x e => ?_, fun x e => ?_, fun x e => ?_, C.calm, ?_, hR, C.un, C.room, C.rm2, fun z => absurd (hcm.symm.trans z) (by decide)⟩
  · exact PySem.lookup_relabel_local e
  · exact relabel_free e
  · exact relabel_glob e
  · have e : scope.names.lookup x = some .cell ∨ scope.names.lookup x = some .free := e
    rcases e with e | e
    · exact (noc x e).elim
    · obtain ⟨_, _, k⟩ := h2 _ (PySem.mem_of_lookup e)
      obtain ⟨c, ec⟩ := Option.isSome_iff_exists.mp (C.clx x (k rfl).1)
      show ((clOf scope.names X.env.cells []).lookup x).isSome = true
      rw [clOf_get _ _ _ e ec]
      rfl
  · obtain ⟨env, outer, L, e1, e2, e3⟩ := C.fr
    exact ⟨env, outer, L, e1, e2, e3⟩
theorem XC.frOk {X : Cx} {S : Sc} {R : RK} {n : Nat} (C : XC X S R n) {scope : Scope} (h : compOk S scope = true) : FrOk X.N X.env.scope.names (compN scope) scope.names (compFr S scope) := by
  obtain ⟨h1, h2, h3⟩ := compOk_all h
  refine ⟨by simp [compFr], fun k j x e1 e2 => ?_⟩
  unfold compFr at e1
  rw [List.getElem?_map, e2] at e1
  have e1 : (if scope.names.lookup x == some .free then S.N.findIdx? (· == x) else none) = some j := Option.some.inj e1
  by_cases hf : (scope.names.lookup x == some .free) = true
  · rw [if_pos hf] at e1
    have hf : scope.names.lookup x = some .free := by simpa using hf
    obtain ⟨_, _, q⟩ := h2 _ (PySem.mem_of_lookup hf)
    refine ⟨by rw [C.N]; exact find_get e1, ?_, hf⟩
    rcases (q rfl).1 with z | z
    · exact .inl (C.cel x z).1
    · exact C.fre x z
  · rw [if_neg hf] at e1; cases e1
theorem tg1_ok {X : Cx} {S : Sc} {R : RK} {n : Nat} (C : XC X S R n) {tg : Expr} {i : Nat} (h : cTg1 S tg = some i) : PG X tg (gName i) ∧ ∃ x pos, tg = .Name x pos := by
  cases tg with
  | Name x pos =>
    refine ⟨?_, x, pos, rfl⟩
    have h : (if S.names.lookup x == some .local || (S.names.lookup x == some .cell && S.can) then S.N.findIdx? (· == x) else none) = some i := h
    by_cases hx : (S.names.lookup x == some .local || (S.names.lookup x == some .cell && S.can)) = true
    · rw [if_pos hx] at h
      have hxi : X.N[i]? = some x := by rw [C.N]; exact find_get h
      rw [Bool.or_eq_true, Bool.and_eq_true] at hx
      rcases hx with hx | ⟨hx, _⟩
      · have := C.loc x (by simpa using hx)
        exact pg_name (by rw [C.N]; exact C.nd) hxi (.inl this) (.inr this)
      · have := C.cel x (by simpa using hx)
        exact pg_name (by rw [C.N]; exact C.nd) hxi (.inr this.1) (.inl this.2)
    · rw [if_neg hx] at h; cases h
  | _ => cases h
theorem tgs_ok {X : Cx} {S : Sc} {R : RK} {n : Nat} (C : XC X S R n) : ∀ {es : List Expr} {is : List Nat}, cTgs S es = some is → PGs X es (gNames is) ∧ (assignEach es X.env).length = is.length ∧ (assignEach es X.env).findIdx? (·.1) = none
  | [], is, h => by
    cases h
    exact ⟨pgs_nil, rfl, rfl⟩
  | a :: r, is, h => by
    have h : (match cTg1 S a, cTgs S r with | some i, some is => some (i :: is) | _, _ => none) = some is := h
    cases h1 : cTg1 S a with
    | none => rw [h1] at h; cases h
    | some i =>
      cases h2 : cTgs S r with
      | none => rw [h1, h2] at h; cases h
      | some is' =>
        rw [h1, h2] at h
        cases h
        obtain ⟨g1, x, pos, rfl⟩ := tg1_ok C h1
        obtain ⟨g2, l2, f2⟩ := tgs_ok C h2
        refine ⟨pgs_cons g1 g2, ?_, ?_⟩
        · show (assignEach r X.env).length + 1 = is'.length + 1
          rw [l2]
        · show ((false, _) :: assignEach r X.env).findIdx? (·.1) = none
          rw [List.findIdx?_cons, f2]
          rfl
theorem tg_ok {X : Cx} {S : Sc} {R : RK} {n : Nat} (C : XC X S R n) {tg : Expr} {t : Tg} (h : cTg S tg = some t) : PG X tg (tgR X.K t) := by
  cases tg with
  | Tuple es k pos =>
    have h : (if S.calm then (cTgs S es).map Tg.tup else none) = some t := h
    by_cases hc : S.calm = true
    · rw [if_pos hc] at h
      cases hi : cTgs S es with
      | none => rw [hi] at h; cases h
      | some is =>
        rw [hi] at h
        cases h
        obtain ⟨g, l, f⟩ := tgs_ok C hi
        exact pg_tup (C.calm hc) g l f
    · rw [if_neg hc] at h; cases h
  | Name x pos =>
    have h : (if S.names.lookup x == some .local || (S.names.lookup x == some .cell && S.can) then (S.N.findIdx? (· == x)).map Tg.one else none) = some t := h
    by_cases hx : (S.names.lookup x == some .local || (S.names.lookup x == some .cell && S.can)) = true
    · rw [if_pos hx] at h
      cases hi : S.N.findIdx? (· == x) with
      | none => rw [hi] at h; cases h
      | some i =>
        rw [hi] at h
        cases h
        have hxi : X.N[i]? = some x := by rw [C.N]; exact find_get hi
        rw [Bool.or_eq_true, Bool.and_eq_true] at hx
        rcases hx with hx | ⟨hx, _⟩
        · have := C.loc x (by simpa using hx)
          exact pg_name (by rw [C.N]; exact C.nd) hxi (.inl this) (.inr this)
        · have := C.cel x (by simpa using hx)
          exact pg_name (by rw [C.N]; exact C.nd) hxi (.inr this.1) (.inl this.2)
    · rw [if_neg hx] at h; cases h
  | _ => cases h
end Ev
set_option Elab.async false
set_option linter.all false
set_option maxRecDepth 100000
namespace Ev
open PySem PySem.Spec PyProof.Rows PySem.SeqAt L2
theorem cOp_ok {X : Cx} {xc : Nat → Addr} {op : Operator} {o : O2} (h : cOp op = some o) : Prim2 X xc (binaryOp op) (op2W o) := by
  cases op <;> first
    | (cases h; done)
    | (cases h; first | exact p_add | exact p_sub | exact p_mul | exact p_fdiv | exact p_mod | exact p_pow)
theorem cCmp_ok {X : Cx} {xc : Nat → Addr} {op : CmpOp} {o : O2} (hu : X.A.units + 65 < cLine) (h : cCmp op = some o) : Prim2 X xc (compareOp op) (op2W o) := by
  cases op <;> first
    | (cases h; done)
    | (cases h; first | exact p_lt | exact p_le | exact p_gt | exact p_ge | exact p_eq (by omega) | exact p_ne (by omega) | exact p_isn)
theorem evI_val {ir : E} (P : Cfg) (cl : Nat → List W → G → Res W) (h : notRng ir = true) :
    evI P cl ir = fun sl g => (ev P cl ir sl g).bind fun w g1 => match valI g1 w with | some J => .ok J g1 | none => .stuck := by
  cases ir with
  | rng as => cases h
  | _ => funext sl g; rfl
theorem rngOff_ok {o : Option E} {ir : E} (h : rngOff o = some ir) : o = some ir ∧ notRng ir = true := by
  cases o with
  | none => cases h
  | some a =>
    have h : (if notRng a then some a else none) = some ir := h
    by_cases hn : notRng a = true
    · rw [if_pos hn] at h
      cases h
      exact ⟨rfl, hn⟩
    · rw [if_neg hn] at h; cases h
theorem none_ne {α : Type} {C : Prop} {x : α} (h : none = some x) : C := by cases h
end Ev
set_option Elab.async false
set_option linter.all false
set_option maxRecDepth 100000
namespace Ev
open PySem PySem.Spec PyProof.Rows PySem.SeqAt L2
structure SndE (T : Pg) (P : Cfg) (xc : Nat → Addr) (n m : Nat) : Prop where
  e : ∀ {S X R e ir}, LkX T P X xc n → XC X S R n → cE T m S e = some ir → QE X xc R e (ev P (callM P.wh (runN P n)) ir)
  call : ∀ {S X R x p es pos ir}, LkX T P X xc n → XC X S R n → cCall T m S x es = some ir → QE X xc R (.Call (.Name x p) es [] pos) (ev P (callM P.wh (runN P n)) ir)
  es : ∀ {S X R es ir}, LkX T P X xc n → XC X S R n → cEs T m S es = some ir → es.all nonStar = true ∧ QA X xc R es (evs P (callM P.wh (runN P n)) ir)
  t : ∀ {S X R e ir}, LkX T P X xc n → XC X S R n → cT T m S e = some ir → QT X xc R e (evT (ev P (callM P.wh (runN P n)) ir))
  w : ∀ {S X R op es pos ir}, LkX T P X xc n → XC X S R n → cT T m S (.BoolOp op es pos) = some ir → QW X xc R (.BoolOp op es pos) (evT (ev P (callM P.wh (runN P n)) ir))
  o : ∀ {S X R e ir}, LkX T P X xc n → XC X S R n → cO T m S e = some ir → QP X xc R e (fun sl g => partR (evs P (callM P.wh (runN P n)) ir sl g))
  i : ∀ {S X R e ir} (tg : Expr), LkX T P X xc n → XC X S R n → cI T m S e = some ir → QI X xc R tg e (evI P (callM P.wh (runN P n)) ir)
  f : ∀ {S X R ifs ir}, LkX T P X xc n → XC X S R n → cFs T m S ifs = some ir → PTs1 X ifs (rdT X.K xc R (evT (ev P (callM P.wh (runN P n)) ir)))
theorem map_some {α β : Type} {o : Option α} {f : α → β} {b : β} (h : o.map f = some b) : ∃ a, o = some a ∧ f a = b := by
  cases o with
  | none => cases h
  | some a => exact ⟨a, rfl, by cases h; rfl⟩
section
variable {T : Pg} {P : Cfg} {xc : Nat → Addr} {n m : Nat} {S : Sc} {X : Cx} {R : RK}
theorem slot_ok (C : XC X S R n) {x : Str} {i : Nat} (h : slotOf S x = some i) : X.N[i]? = some x ∧ Vis X.env.scope x ∧ (x == ("__debug__" : Str)) = false ∧ (x == ("__classdict__" : Str)) = false := by
  have key : ∀ {k}, S.names.lookup x = some k → (if (x == ("__debug__" : Str)) = false ∧ (x == ("__classdict__" : Str)) = false then S.N.findIdx? (· == x) else none) = some i → Vis X.env.scope x → X.N[i]? = some x ∧ Vis X.env.scope x ∧ (x == ("__debug__" : Str)) = false ∧ (x == ("__classdict__" : Str)) = false := fun {k} e h v => by
    by_cases hd : (x == ("__debug__" : Str)) = false ∧ (x == ("__classdict__" : Str)) = false
    · rw [if_pos hd] at h
      exact ⟨by rw [C.N]; exact find_get h, v, hd.1, hd.2⟩
    · rw [if_neg hd] at h; cases h
  unfold slotOf at h
  cases e : S.names.lookup x with
  | none => rw [e] at h; cases h
  | some k =>
    rw [e] at h
    cases k with
    | «local» => exact key e h (.inl (C.loc x e))
    | cell => exact key e h (.inr (.inl (C.cel x e).1))
    | free => exact key e h (.inr (C.fre x e))
    | _ => cases h
theorem snd_name (L : LkX T P X xc n) (C : XC X S R n) {x : Str} {pos : Pos} {ir : E} (h : (match slotOf S x with
      | some i => some (E.var i)
      | none => if isGl S x then (T.cst x).map .cst else none) = some ir) : QE X xc R (.Name x pos) (ev P (callM P.wh (runN P n)) ir) := by
  cases e : slotOf S x with
  | some i =>
    rw [e] at h
    cases h
    obtain ⟨h1, h2, h3, h4⟩ := slot_ok C e
    rw [ev_var]
    exact qe_var h1 h2 h3 h4
  | none =>
    rw [e] at h
    have h : (if isGl S x then (T.cst x).map E.cst else none) = some ir := h
    by_cases hg : isGl S x = true
    · rw [if_pos hg] at h
      obtain ⟨w, hw, rfl⟩ := map_some h
      obtain ⟨v, u, h1, h2, h3⟩ := L.cst x w hw
      rw [ev_cst]
      exact qe_cst (pe_glob (C.gl hg) h1 h2 (isGl_ok hg).2) h3
    · rw [if_neg hg] at h; cases h
theorem snd_es0 : QA X xc R [] (evs P (callM P.wh (runN P n)) .nil) := by rw [evs_nil]; exact qa_nil
theorem star1 {a : Expr} {es : List Expr} (h : (a :: es).all nonStar = true) : starEach (a :: es) X.env = (false, eval a X.env) :: starEach es X.env := by
  rw [List.all_cons, Bool.and_eq_true] at h
  exact star_cons h.1
theorem star2 {a : Expr} {es : List Expr} {pos : Pos} (h : (a :: es).all nonStar = true) : (backTo pos (starEach es X.env)).any (·.1) = false := by
  rw [List.all_cons, Bool.and_eq_true] at h
  exact (star_any h.2).1
theorem snd_ty (L : LkX T P X xc n) (C : XC X S R n) {y : Str} {p : Pos} {t : Ty} (h : cTy T S y = some t) : PE X (.Name y p) (tC (tyC xc t)) := by
  unfold cTy at h
  by_cases hg : isGl S y = true
  · rw [if_pos hg] at h
    cases hx : T.xcl y with
    | some c =>
      rw [hx] at h
      cases h
      exact pe_glob (v := .ref (xc c)) (C.gl hg) (L.xcl y c hx).bound rfl (isGl_ok hg).2
    | none =>
      rw [hx] at h
      have h : (if T.bl.contains y = true then (if strIs y "int" = true then some (Ty.b "int") else if strIs y "bool" = true then some (.b "bool") else if strIs y "str" = true then some (.b "str") else if strIs y "tuple" = true then some (.b "tuple") else if strIs y "list" = true then some (.b "list") else if strIs y "ValueError" = true then some (.b "ValueError") else none) else none) = some t := h
      by_cases hb : T.bl.contains y = true
      · rw [if_pos hb] at h
        have hm := L.bl y hb
        have fin : ∀ (s : String), strIs y s = true → bootBuiltins (Str.ofString s) = some (.type s) → Str.ofString s ≠ "__name__" → (Str.ofString s == ("__debug__" : Str)) = false → PE X (.Name y p) (tC (.ty s)) := fun s e1 e2 e3 e4 => by
          have e := strIs_ok e1
          subst e
          exact pe_bltn (v := .ty s) (C.gl hg) hm e2 rfl e3 e4
        repeat' (split at h)
        case isTrue h1 => cases h; exact fin "int" h1 (by kernel_rfl) (by decide) (by decide)
        all_goals first
          | (cases h; done)
          | (cases h; rename_i h1; first | exact fin "int" h1 (by kernel_rfl) (by decide) (by decide) | exact fin "bool" h1 (by kernel_rfl) (by decide) (by decide) | exact fin "str" h1 (by kernel_rfl) (by decide) (by decide) | exact fin "tuple" h1 (by kernel_rfl) (by decide) (by decide) | exact fin "list" h1 (by kernel_rfl) (by decide) (by decide) | exact fin "ValueError" h1 (by kernel_rfl) (by decide) (by decide))
      · rw [if_neg hb] at h; cases h
  · rw [if_neg hg] at h; cases h
end
end Ev
set_option Elab.async false
set_option linter.all false
set_option maxRecDepth 100000
namespace Ev
open PySem PySem.Spec PyProof.Rows PySem.SeqAt L2
section
variable {T : Pg} {P : Cfg} {xc : Nat → Addr} {n m : Nat} {S : Sc} {X : Cx} {R : RK}
theorem snd_isinstance (I : SndE T P xc n m) (L : LkX T P X xc n) (C : XC X S R n) {x y : Str} {a : Expr} {p p2 pos : Pos} {ir : E}
    (hx : (strIs x "isinstance" && isBl T S x) = true) (h : (match cE T m S a, cTy T S y with | some a, some t => some (E.isi a t) | _, _ => none) = some ir) :
    QE X xc R (.Call (.Name x p) [a, .Name y p2] [] pos) (ev P (callM P.wh (runN P n)) ir) := by
  rw [Bool.and_eq_true] at hx
  obtain ⟨h1, h2⟩ := hx
  have e := strIs_ok h1
  subst e
  unfold isBl at h2
  rw [Bool.and_eq_true] at h2
  cases ea : cE T m S a with
  | none => rw [ea] at h; cases h
  | some a' =>
    cases et : cTy T S y with
    | none => rw [ea, et] at h; cases h
    | some t =>
      rw [ea, et] at h
      cases h
      rw [ev_isi]
      have hs : nonStar a = true := by
        cases a with
        | Starred => cases m <;> exact none_ne ea
        | _ => rfl
      exact qe_isi L.xo (C.gl h2.1) (L.bl _ h2.2) (I.e L C ea) (snd_ty L C et) (by rw [star_cons hs]; rfl) rfl
theorem snd_call (I : SndE T P xc n m) (L : LkX T P X xc n) (C : XC X S R n) {x : Str} {p pos : Pos} {es : List Expr} {ir : E} (h : cCall T (m + 1) S x es = some ir) :
    QE X xc R (.Call (.Name x p) es [] pos) (ev P (callM P.wh (runN P n)) ir) := by
  cases es with
  | nil => exact none_ne h
  | cons a r =>
    have h : (if isGl S x = true then (match T.fn x with
      | some f => if S.calm = true then (cEs T m S (a :: r)).map (E.call f) else none
      | none => match T.fnS x with
       | some f => if S.calm = true then none else (cEs T m S (a :: r)).map (E.call f)
       | none => if T.bl.contains x = true then (match cBl x with
        | some b => if (S.calm || !walks b) = true then (cEs T m S (a :: r)).map (E.blt b) else none
        | none => none) else none) else none) = some ir := h
    by_cases hg : isGl S x = true
    · rw [if_pos hg] at h
      cases hf : T.fn x with
      | some f =>
        rw [hf] at h
        have h : (if S.calm = true then (cEs T m S (a :: r)).map (E.call f) else none) = some ir := h
        by_cases hc : S.calm = true
        · rw [if_pos hc] at h
          obtain ⟨as, ha, rfl⟩ := map_some h
          obtain ⟨h1, h2⟩ := I.es L C ha
          obtain ⟨fa, fd, ps, e1, e2, e3, e4, e5⟩ := L.fn x f hf
          rw [ev_call, e4]
          exact qe_call e5 (C.room hc) (C.gl hg) e1 e2 e3 C.rs h2 (isGl_ok hg).2 (star1 h1) (star2 h1)
        · rw [if_neg hc] at h; cases h
      | none =>
        rw [hf] at h
        have h : (match T.fnS x with
         | some f => if S.calm = true then none else (cEs T m S (a :: r)).map (E.call f)
         | none => if T.bl.contains x = true then (match cBl x with
          | some b => if (S.calm || !walks b) = true then (cEs T m S (a :: r)).map (E.blt b) else none
          | none => none) else none) = some ir := h
        cases hf2 : T.fnS x with
        | some f =>
          rw [hf2] at h
          have h : (if S.calm = true then none else (cEs T m S (a :: r)).map (E.call f)) = some ir := h
          by_cases hc : S.calm = true
          · rw [if_pos hc] at h; cases h
          · rw [if_neg hc] at h
            obtain ⟨as, ha, rfl⟩ := map_some h
            obtain ⟨h1, h2⟩ := I.es L C ha
            obtain ⟨fa, fd, ps, e1, e2, e3, e4, e5⟩ := L.fnS x f hf2
            rw [ev_call, e4]
            exact qe_call2 e5 C.rm2 (C.gl hg) e1 e2 e3 (C.nr (by simpa using hc)) h2 (isGl_ok hg).2 (star1 h1) (star2 h1)
        | none =>
        rw [hf2] at h
        have h : (if T.bl.contains x = true then (match cBl x with
          | some b => if (S.calm || !walks b) = true then (cEs T m S (a :: r)).map (E.blt b) else none
          | none => none) else none) = some ir := h
        by_cases hb : T.bl.contains x = true
        · rw [if_pos hb] at h
          have hm := L.bl x hb
          cases eb : cBl x with
          | none => rw [eb] at h; cases h
          | some b =>
            rw [eb] at h
            have h : (if (S.calm || !walks b) = true then (cEs T m S (a :: r)).map (E.blt b) else none) = some ir := h
            by_cases hc : (S.calm || !walks b) = true
            · rw [if_pos hc] at h
              obtain ⟨as, ha, rfl⟩ := map_some h
              obtain ⟨h1, h2⟩ := I.es L C ha
              rw [ev_blt]
              have finB : ∀ (s : String), strIs x s = true → PrimN X xc (.builtin s) (bltW b) → bootBuiltins (Str.ofString s) = some (.builtin s) → Str.ofString s ≠ "__name__" → (Str.ofString s == ("__debug__" : Str)) = false → QE X xc R (.Call (.Name x p) (a :: r) [] pos) (fun sl g => (evs P (callM P.wh (runN P n)) as sl g).bind (bltW b)) := fun s q1 q2 q3 q4 q5 => by
                have e := strIs_ok q1
                subst e
                exact qe_callB q2 (C.gl hg) hm q3 h2 q4 q5 (star1 h1) (star2 h1)
              have finT : ∀ (s : String), strIs x s = true → PrimN X xc (.type s) (bltW b) → bootBuiltins (Str.ofString s) = some (.type s) → Str.ofString s ≠ "__name__" → (Str.ofString s == ("__debug__" : Str)) = false → QE X xc R (.Call (.Name x p) (a :: r) [] pos) (fun sl g => (evs P (callM P.wh (runN P n)) as sl g).bind (bltW b)) := fun s q1 q2 q3 q4 q5 => by
                have e := strIs_ok q1
                subst e
                exact qe_callTy q2 (C.gl hg) hm q3 h2 q4 q5 (star1 h1) (star2 h1)
              unfold cBl at eb
              by_cases k1 : strIs x "len" = true
              · rw [if_pos k1] at eb
                cases eb
                exact finB "len" k1 f_len (by kernel_rfl) (by decide) (by decide)
              rw [if_neg k1] at eb
              by_cases k2 : strIs x "all" = true
              · rw [if_pos k2] at eb
                cases eb
                have hc : S.calm = true := by simpa [walks] using hc
                exact finB "all" k2 (f_all (C.calm hc)) (by kernel_rfl) (by decide) (by decide)
              rw [if_neg k2] at eb
              by_cases k4 : strIs x "int" = true
              · rw [if_pos k4] at eb
                cases eb
                exact finT "int" k4 f_int (by kernel_rfl) (by decide) (by decide)
              rw [if_neg k4] at eb
              by_cases k5 : strIs x "list" = true
              · rw [if_pos k5] at eb
                cases eb
                exact finT "list" k5 f_list (by kernel_rfl) (by decide) (by decide)
              rw [if_neg k5] at eb
              by_cases k6 : strIs x "any" = true
              · rw [if_pos k6] at eb
                cases eb
                have hc : S.calm = true := by simpa [walks] using hc
                exact finB "any" k6 (f_any (C.calm hc)) (by kernel_rfl) (by decide) (by decide)
              rw [if_neg k6] at eb
              by_cases k7 : strIs x "max" = true
              · rw [if_pos k7] at eb
                cases eb
                have hc : S.calm = true := by simpa [walks] using hc
                exact finB "max" k7 (f_max (C.calm hc)) (by kernel_rfl) (by decide) (by decide)
              rw [if_neg k7] at eb
              cases eb
            · rw [if_neg hc] at h; cases h
        · rw [if_neg hb] at h; cases h
    · rw [if_neg hg] at h; cases h
theorem snd_meth (I : SndE T P xc n m) (L : LkX T P X xc n) (C : XC X S R n) {o a : Expr} {name : Str} {ap pos : Pos} {es : List Expr} {mt : Mt} {o' as : E} (e1 : cMt name = some mt) (e2 : cE T m S o = some o') (e3 : cEs T m S (a :: es) = some as)
    (hc : (baseOk o && ap.endLine == pos.line && decide (es.length < 20)) = true) : QE X xc R (.Call (.Attribute o name ap) (a :: es) [] pos) (ev P (callM P.wh (runN P n)) (.mth mt o' as)) := by
  rw [Bool.and_eq_true, Bool.and_eq_true] at hc
  obtain ⟨⟨c1, c2⟩, c3⟩ := hc
  obtain ⟨h1, h2⟩ := I.es L C e3
  have he := I.e L C e2
  have hfew : ((backTo pos (starEach (a :: es) X.env)).all (fun x => !x.1) && (backToKw pos (keywordEach [] X.env)).all (fun x => x.1.isSome)
      && decide ((a :: es).length + ([] : List Keyword).length + (if ([] : List Keyword).isEmpty then 0 else 1) < 30)) = true := by
    rw [(star_any h1).2]
    have := of_decide_eq_true c3
    show (true && true && decide (es.length + 1 + 0 + 0 < 30)) = true
    rw [decide_eq_true (by omega)]; rfl
  rw [ev_mth]
  have key : (mt = .append ∧ name = "append") ∨ (mt = .index ∧ name = "index") ∨ (mt = .count ∧ name = "count") ∨ (mt = .pop ∧ name = "pop") ∨ (mt = .insert ∧ name = "insert") ∨ (mt = .reverse ∧ name = "reverse") := by
    unfold cMt at e1
    by_cases k0 : strIs name "append" = true
    · rw [if_pos k0] at e1; cases e1; exact .inl ⟨rfl, strIs_ok k0⟩
    rw [if_neg k0] at e1
    by_cases k1 : strIs name "index" = true
    · rw [if_pos k1] at e1; cases e1; exact .inr (.inl ⟨rfl, strIs_ok k1⟩)
    rw [if_neg k1] at e1
    by_cases k2 : strIs name "count" = true
    · rw [if_pos k2] at e1; cases e1; exact .inr (.inr (.inl ⟨rfl, strIs_ok k2⟩))
    rw [if_neg k2] at e1
    by_cases k3 : strIs name "pop" = true
    · rw [if_pos k3] at e1; cases e1; exact .inr (.inr (.inr (.inl ⟨rfl, strIs_ok k3⟩)))
    rw [if_neg k3] at e1
    by_cases k4 : strIs name "insert" = true
    · rw [if_pos k4] at e1; cases e1; exact .inr (.inr (.inr (.inr (.inl ⟨rfl, strIs_ok k4⟩))))
    rw [if_neg k4] at e1
    cases e1
  exact qe_bm he h2 (base_ok c1) hfew c2 (star1 h1) (star2 h1) (mtT mt) (mt_sel key)
theorem snd_meth0 (I : SndE T P xc n m) (L : LkX T P X xc n) (C : XC X S R n) {o : Expr} {name : Str} {ap pos : Pos} {o' : E} (e2 : cE T m S o = some o') (hc : (strIs name "reverse" && baseOk o && ap.endLine == pos.line) = true) :
    QE X xc R (.Call (.Attribute o name ap) [] [] pos) (ev P (callM P.wh (runN P n)) (.mth .reverse o' .nil)) := by
  rw [Bool.and_eq_true, Bool.and_eq_true] at hc
  obtain ⟨⟨c1, c2⟩, c3⟩ := hc
  rw [ev_mth0]
  exact qe_bm0 (I.e L C e2) (base_ok c2) c3 (mtT .reverse) (mt_sel (.inr (.inr (.inr (.inr (.inr ⟨rfl, strIs_ok c1⟩))))))
theorem snd_lc (I : SndE T P xc n m) (L : LkX T P X xc n) (C : XC X S R n) {elt tg iter : Expr} {ifs : List Expr} {scope : Scope} {pos : Pos} {it c e : E} {t : Tg} (e1 : cI T m S iter = some it) (e2 : cTg (compS S scope) tg = some t) (e3 : cFs T m (compS S scope) ifs = some c)
    (e4 : cE T m (compS S scope) elt = some e) (hc : (compOk S scope && S.calm && notSet iter) = true) : QE X xc R (.ListComp elt [⟨tg, iter, ifs, 0⟩] scope pos) (ev P (callM P.wh (runN P n)) (.lc (compFr S scope) t it c e)) := by
  rw [Bool.and_eq_true, Bool.and_eq_true] at hc
  obtain ⟨⟨c1, c2⟩, c3⟩ := hc
  obtain ⟨k1, k2, k3⟩ := compOk_all c1
  rw [ev_lc']
  refine qe_lc (N := compN scope) (C.calm c2) C.fr C.rs (I.i tg L C e1) (fun Ca s₀ H₀ ex pins xe => ?_) (fun Ca s₀ H₀ ex pins xe R' hR => ?_) (fun Ca s₀ H₀ ex pins xe R' hR => ?_) (C.frOk c1) k1 (fun x hx hl => by rw [(k2 x hx).2.1, hl]) (fun x hx => (k2 x hx).1) (fun y hy hf => C.clx _ ((k2 y hy).2.2 hf).1) (notSet_ok c3)
  · exact tg_ok (R := fun _ _ _ => False) (n := n) (C.comp c1 Ca s₀ H₀ ex pins xe _ c2 (raises_never)) e2
  · exact I.f (X := (cxComp X (compN scope) scope Ca s₀ H₀ ex pins).wish xe) L (C.comp c1 Ca s₀ H₀ ex pins xe R' c2 hR) e3
  · exact I.e (X := (cxComp X (compN scope) scope Ca s₀ H₀ ex pins).wish xe) L (C.comp c1 Ca s₀ H₀ ex pins xe R' c2 hR) e4
end
end Ev
set_option Elab.async false
set_option linter.all false
set_option maxRecDepth 100000
namespace Ev
open PySem PySem.Spec PyProof.Rows PySem.SeqAt L2
section
variable {T : Pg} {P : Cfg} {xc : Nat → Addr} {n m : Nat} {S : Sc} {X : Cx} {R : RK}
theorem snd_op (I : SndE T P xc n m) (L : LkX T P X xc n) (C : XC X S R n) {a b : Expr} {op : Operator} {pos : Pos} {ir : E} (h : (match cOp op, cE T m S a, cE T m S b with | some o, some a, some b => some (E.op2 o a b) | _, _, _ => none) = some ir) :
    QE X xc R (.BinOp a op b pos) (ev P (callM P.wh (runN P n)) ir) := by
  split at h
  · rename_i e1 e2 e3
    cases h
    rw [ev_op2]
    exact qe_op (cOp_ok e1) (I.e L C e2) (I.e L C e3)
  · cases h
theorem snd_cmp (I : SndE T P xc n m) (L : LkX T P X xc n) (C : XC X S R n) {a b : Expr} {op : CmpOp} {pos : Pos} {ir : E} (h : (match cCmp op, cE T m S a, cE T m S b with
      | some o, some a', some b' => if behindInMarks op b = false then some (E.op2 o a' b') else none
      | _, _, _ => none) = some ir) :
    QE X xc R (.Compare a [op] [b] pos) (ev P (callM P.wh (runN P n)) ir) ∧ QT X xc R (.Compare a [op] [b] pos) (evT (ev P (callM P.wh (runN P n)) ir)) := by
  split at h
  · rename_i e1 e2 e3
    split at h
    · rename_i hm
      cases h
      rw [ev_op2]
      exact ⟨qe_cmp (cCmp_ok C.un e1) (I.e L C e2) (I.e L C e3) hm, qt_cmp (cCmp_ok C.un e1) (I.e L C e2) (I.e L C e3) hm⟩
    · cases h
  · cases h
theorem snd_cst {c : Const} {k : Nat} {pos : Pos} {ir : E} (h : (cCst c).map E.cst = some ir) : QE X xc R (.Constant c k pos) (ev P (callM P.wh (runN P n)) ir) := by
  obtain ⟨w, hw, rfl⟩ := map_some h
  rw [ev_cst]
  cases c with
  | int i => cases hw; exact qe_cst pe_int fun _ _ => rw_int
  | str x => cases hw; exact qe_cst pe_str fun _ _ => rw_str
  | bool b => cases hw; exact qe_cst pe_bl fun _ _ => rw_bl
  | none => cases hw; exact qe_cst pe_non fun _ _ => rw_non
  | _ => cases hw
theorem snd_cps (I : SndE T P xc n m) (L : LkX T P X xc n) (C : XC X S R n) {a : Expr} {ops : List CmpOp} {bs : List Expr} {pos : Pos} {ir : E} (h : cE T (m + 1) S (.Compare a ops bs pos) = some ir) :
    QE X xc R (.Compare a ops bs pos) (ev P (callM P.wh (runN P n)) ir) ∧ QT X xc R (.Compare a ops bs pos) (evT (ev P (callM P.wh (runN P n)) ir)) := by
  cases ops with
  | nil => exact none_ne h
  | cons op ops =>
    cases ops with
    | nil =>
      cases bs with
      | nil => exact none_ne h
      | cons b bs =>
        cases bs with
        | nil => exact snd_cmp I L C h
        | cons => exact none_ne h
    | cons op' ops => exact none_ne h
theorem snd_bool (I : SndE T P xc n m) (L : LkX T P X xc n) (C : XC X S R n) {op : BoolOp} {es : List Expr} {pos : Pos} {ir : E} (h : cE T (m + 1) S (.BoolOp op es pos) = some ir) : QE X xc R (.BoolOp op es pos) (ev P (callM P.wh (runN P n)) ir) := by
  cases es with
  | nil => exact none_ne h
  | cons a es =>
    cases es with
    | nil => exact qe_one (I.e L C h)
    | cons b r =>
      cases op with
      | And =>
        have h : (match cE T m S a, cE T m S (.BoolOp .And (b :: r) pos) with | some a, some b => some (E.and a b) | _, _ => none) = some ir := h
        split at h
        · rename_i e1 e2
          cases h
          rw [ev_and]
          exact qe_and (I.e L C e1) (I.e L C e2)
        · cases h
      | Or =>
        have h : (match cE T m S a, cE T m S (.BoolOp .Or (b :: r) pos) with | some a, some b => some (E.or a b) | _, _ => none) = some ir := h
        split at h
        · rename_i e1 e2
          cases h
          rw [ev_or]
          exact qe_or (I.e L C e1) (I.e L C e2)
        · cases h
theorem snd_sub (I : SndE T P xc n m) (L : LkX T P X xc n) (C : XC X S R n) {a b : Expr} {pos : Pos} {ir : E} (h : cE T (m + 1) S (.Subscript a b pos) = some ir) : QE X xc R (.Subscript a b pos) (ev P (callM P.wh (runN P n)) ir) := by
  by_cases hp : plainIxB b = true
  · have h : (match cE T m S a, cE T m S b with | some a', some b' => some (E.ix a' b') | _, _ => none) = some ir := (if_pos hp).symm.trans h
    split at h
    · rename_i e1 e2
      cases h
      rw [ev_ix]
      exact qe_ix (I.e L C e1) (I.e L C e2) (plainIx_ok hp)
    · cases h
  · cases b with
    | Slice lo hi st p =>
      cases st with
      | some _ => exact none_ne h
      | none =>
        have h : (match cE T m S a, cO T m S lo, cO T m S hi with | some a, some lo, some hi => some (E.slc a lo hi) | _, _, _ => none) = some ir := h
        split at h
        · rename_i e1 e2 e3
          cases h
          rw [ev_slc]
          exact qe_slice (I.e L C e1) (I.o L C e2) (I.o L C e3)
        · cases h
    | _ => exact absurd rfl hp
theorem snd_calls (I : SndE T P xc n m) (L : LkX T P X xc n) (C : XC X S R n) {f : Expr} {es : List Expr} {kws : List Keyword} {pos : Pos} {ir : E} (h : cE T (m + 1) S (.Call f es kws pos) = some ir) : QE X xc R (.Call f es kws pos) (ev P (callM P.wh (runN P n)) ir) := by
  cases kws with
  | cons => exact none_ne h
  | nil =>
    cases f with
    | Name x p =>
      by_cases hx : isIsi T S x = true
      · have h := (if_pos hx).symm.trans h
        cases es with
        | nil => exact none_ne h
        | cons a es =>
          cases es with
          | nil => exact none_ne h
          | cons b es =>
            cases es with
            | cons => exact none_ne h
            | nil =>
              cases b with
              | Name y p2 => exact snd_isinstance I L C hx h
              | _ => exact none_ne h
      · exact I.call L C ((if_neg hx).symm.trans h)
    | Attribute o name ap =>
      cases es with
      | nil =>
        have h : (match cE T m S o with | some o' => if strIs name "reverse" && baseOk o && ap.endLine == pos.line then some (E.mth .reverse o' .nil) else none | none => none) = some ir := h
        cases e1 : cE T m S o with
        | none => rw [e1] at h; cases h
        | some o' =>
          rw [e1] at h
          have h : (if strIs name "reverse" && baseOk o && ap.endLine == pos.line then some (E.mth .reverse o' .nil) else none) = some ir := h
          by_cases hc : (strIs name "reverse" && baseOk o && ap.endLine == pos.line) = true
          · rw [if_pos hc] at h
            cases h
            exact snd_meth0 I L C e1 hc
          · rw [if_neg hc] at h; cases h
      | cons a r =>
        have h : (match cMt name, cE T m S o, cEs T m S (a :: r) with | some mt, some o', some as => if baseOk o && ap.endLine == pos.line && decide (r.length < 20) then some (E.mth mt o' as) else none | _, _, _ => none) = some ir := h
        split at h
        · rename_i e1 e2 e3
          split at h
          · rename_i hc
            cases h
            exact snd_meth I L C e1 e2 e3 hc
          · cases h
        · cases h
    | _ => exact none_ne h
theorem snd_lcs (I : SndE T P xc n m) (L : LkX T P X xc n) (C : XC X S R n) {elt : Expr} {gens : List Comprehension} {scope : Scope} {pos : Pos} {ir : E} (h : cE T (m + 1) S (.ListComp elt gens scope pos) = some ir) : QE X xc R (.ListComp elt gens scope pos) (ev P (callM P.wh (runN P n)) ir) := by
  cases gens with
  | nil => exact none_ne h
  | cons g gens =>
    cases gens with
    | cons => cases g; exact none_ne h
    | nil =>
      obtain ⟨tg, iter, ifs, k⟩ := g
      have h₀ := h
      clear h
      by_cases hk : k = 0
      · have h : (match cI T m S iter, cTg (compS S scope) tg, cFs T m (compS S scope) ifs, cE T m (compS S scope) elt with
          | some it, some t, some c, some e => if compOk S scope && S.calm && notSet iter then some (E.lc (compFr S scope) t it c e) else none
          | _, _, _, _ => none) = some ir := (if_pos hk).symm.trans h₀
        clear h₀
        subst hk
        split at h
        · rename_i e1 e2 e3 e4
          split at h
          · rename_i hc
            cases h
            exact snd_lc I L C e1 e2 e3 e4 hc
          · cases h
        · cases h
      · exact none_ne ((if_neg hk).symm.trans h₀)
theorem snd_e (I : SndE T P xc n m) (L : LkX T P X xc n) (C : XC X S R n) {e : Expr} {ir : E} (h : cE T (m + 1) S e = some ir) : QE X xc R e (ev P (callM P.wh (runN P n)) ir) := by
  cases e with
  | Name x p => exact snd_name L C h
  | Constant c k p => exact snd_cst h
  | BinOp a op b p => exact snd_op I L C h
  | UnaryOp op a p =>
    cases op with
    | USub =>
      obtain ⟨a', ha, rfl⟩ := map_some (show (cE T m S a).map E.neg = some ir from h)
      rw [ev_neg]
      exact qe_neg (I.e L C ha)
    | Not =>
      obtain ⟨a', ha, rfl⟩ := map_some (show (cE T m S a).map E.not = some ir from h)
      rw [ev_not]
      exact qe_not (I.e L C ha)
    | _ => exact none_ne h
  | Compare a ops bs p => exact (snd_cps I L C h).1
  | BoolOp op es p => exact snd_bool I L C h
  | IfExp c a b p =>
    have h : (match cT T m S c, cE T m S a, cE T m S b with | some c, some a, some b => some (E.ite c a b) | _, _, _ => none) = some ir := h
    split at h
    · rename_i e1 e2 e3
      cases h
      rw [ev_ite]
      exact qe_ite (I.t L C e1) (I.e L C e2) (I.e L C e3)
    · cases h
  | Tuple es k p =>
    obtain ⟨a', ha, rfl⟩ := map_some (show (cEs T m S es).map E.tup = some ir from h)
    rw [ev_tup]
    exact qe_tup (I.es L C ha).2
  | List es p =>
    obtain ⟨a', ha, rfl⟩ := map_some (show (cEs T m S es).map E.lst = some ir from h)
    rw [ev_lst]
    exact qe_lst (I.es L C ha).2
  | Subscript a b p => exact snd_sub I L C h
  | Call f es kws p => exact snd_calls I L C h
  | ListComp elt gens scope p => exact snd_lcs I L C h
  | _ => exact none_ne h
theorem snd_es (I : SndE T P xc n m) (L : LkX T P X xc n) (C : XC X S R n) {es : List Expr} {ir : E} (h : cEs T (m + 1) S es = some ir) : es.all nonStar = true ∧ QA X xc R es (evs P (callM P.wh (runN P n)) ir) := by
  cases es with
  | nil => cases (show some E.nil = some ir from h); exact ⟨rfl, snd_es0⟩
  | cons a r =>
    have h : (if nonStar a then cons? (cE T m S a) (cEs T m S r) else none) = some ir := h
    split at h
    · rename_i hs
      cases e1 : cE T m S a with
      | none => rw [e1] at h; cases h
      | some a' =>
        cases e2 : cEs T m S r with
        | none => rw [e1, e2] at h; cases h
        | some r' =>
          rw [e1, e2] at h
          cases h
          obtain ⟨h1, h2⟩ := I.es L C e2
          rw [evs_cons]
          exact ⟨by rw [List.all_cons, hs, h1]; rfl, qa_cons (I.e L C e1) h2 (star_cons hs)⟩
    · cases h
theorem snd_w (I : SndE T P xc n m) (L : LkX T P X xc n) (C : XC X S R n) {op : BoolOp} {es : List Expr} {pos : Pos} {ir : E} (h : cT T (m + 1) S (.BoolOp op es pos) = some ir) : QW X xc R (.BoolOp op es pos) (evT (ev P (callM P.wh (runN P n)) ir)) := by
  cases es with
  | nil => exact none_ne h
  | cons a es =>
    cases es with
    | nil => exact qw_one (I.t L C h)
    | cons b r =>
      cases op with
      | And =>
        have h : (match cT T m S a, cT T m S (.BoolOp .And (b :: r) pos) with | some a, some b => some (E.and a b) | _, _ => none) = some ir := h
        split at h
        · rename_i e1 e2
          cases h
          rw [ev_and]
          exact qw_and (I.t L C e1) (I.w L C e2)
        · cases h
      | Or =>
        have h : (match cT T m S a, cT T m S (.BoolOp .Or (b :: r) pos) with | some a, some b => some (E.or a b) | _, _ => none) = some ir := h
        split at h
        · rename_i e1 e2
          cases h
          rw [ev_or]
          exact qw_or (I.t L C e1) (I.w L C e2)
        · cases h
theorem snd_t (I : SndE T P xc n m) (L : LkX T P X xc n) (C : XC X S R n) {e : Expr} {ir : E} (h : cT T (m + 1) S e = some ir) : QT X xc R e (evT (ev P (callM P.wh (runN P n)) ir)) := by
  cases e with
  | BoolOp op es pos => exact fun pins s σ H ρ sl g Q I' hk hS hH hP => snd_w I L C h _ pins s σ H ρ sl g Q I' hk hS hH hP
  | UnaryOp op a p =>
    cases op with
    | Not =>
      obtain ⟨a', ha, rfl⟩ := map_some (show (cT T m S a).map E.not = some ir from h)
      rw [ev_not]
      exact qt_not (I.t L C ha)
    | _ => exact qt_plain (I.e L C h) (plainT_ok rfl)
  | Compare a ops bs p => exact (snd_cps I L C h).2
  | IfExp => exact none_ne h
  | _ => exact qt_plain (I.e L C h) (plainT_ok rfl)
theorem snd_o (I : SndE T P xc n m) (L : LkX T P X xc n) (C : XC X S R n) {e : Option Expr} {ir : E} (h : cO T (m + 1) S e = some ir) : QP X xc R e (fun sl g => partR (evs P (callM P.wh (runN P n)) ir sl g)) := by
  cases e with
  | none => cases (show some E.nil = some ir from h); exact qp_none
  | some a =>
    obtain ⟨a', ha, rfl⟩ := map_some (show (cE T m S a).map (fun a => E.cons a .nil) = some ir from h)
    exact qp_some (I.e L C ha)
theorem rngV_ok {e a : Expr} (h : rngV T S e = some a) : ∃ x p pos, e = .Call (.Name x p) [a] [] pos ∧ (strIs x "range" && isBl T S x) = true := by
  cases e with
  | Call f es kws pos =>
    cases kws with
    | cons => exact none_ne h
    | nil =>
      cases f with
      | Name x p =>
        cases es with
        | nil => exact none_ne h
        | cons a' es =>
          cases es with
          | cons => exact none_ne h
          | nil =>
            have h : (if strIs x "range" && isBl T S x then some a' else none) = some a := h
            by_cases hx : (strIs x "range" && isBl T S x) = true
            · rw [if_pos hx] at h
              cases h
              exact ⟨x, p, pos, rfl, hx⟩
            · rw [if_neg hx] at h; cases h
      | _ => exact none_ne h
  | _ => exact none_ne h
theorem snd_i (I : SndE T P xc n m) (L : LkX T P X xc n) (C : XC X S R n) {e : Expr} {ir : E} (tg : Expr) (h : cI T (m + 1) S e = some ir) : QI X xc R tg e (evI P (callM P.wh (runN P n)) ir) := by
  have h : (match rngV T S e with | some a => if nonStar a then (cE T m S a).map fun a => E.rng (.cons a .nil) else none | none => rngOff (cE T m S e)) = some ir := h
  cases hr : rngV T S e with
  | some a =>
    rw [hr] at h
    obtain ⟨x, p, pos, rfl, hx⟩ := rngV_ok hr
    have h : (if nonStar a then (cE T m S a).map fun a => E.rng (.cons a .nil) else none) = some ir := h
    by_cases hs : nonStar a = true
    · rw [if_pos hs] at h
      obtain ⟨a', ha, rfl⟩ := map_some h
      rw [Bool.and_eq_true] at hx
      obtain ⟨h1, h2⟩ := hx
      unfold isBl at h2
      rw [Bool.and_eq_true] at h2
      have e := strIs_ok h1
      subst e
      exact qi_rng1 (C.gl h2.1) (L.bl _ h2.2) (I.e L C ha) (by rw [star_cons hs]; rfl)
    · rw [if_neg hs] at h; cases h
  | none =>
    rw [hr] at h
    obtain ⟨h1, h2⟩ := rngOff_ok h
    rw [evI_val P _ h2]
    exact qi_val (I.e L C h1)
theorem snd_f (I : SndE T P xc n m) (L : LkX T P X xc n) (C : XC X S R n) {ifs : List Expr} {ir : E} (h : cFs T (m + 1) S ifs = some ir) : PTs1 X ifs (rdT X.K xc R (evT (ev P (callM P.wh (runN P n)) ir))) := by
  match ifs, h with
  | [], h =>
    cases (show some (E.cst (.bl true)) = some ir from h)
    intro pins s σ H Q I' hk qq0
    obtain ⟨ρ, sl, g, hS, hH, hP⟩ := qq0
    exact wpAny_pure ⟨H, I', hP ρ H true Ext.refl hH rfl⟩
  | [c], h =>
    have h : cT T m S c = some ir := h
    intro pins s σ H Q I' hk qq0
    obtain ⟨ρ, sl, g, hS, hH, hP⟩ := qq0
    have := I.t L C h pins s σ H ρ sl g Q I' hk hS hH hP
    rw [List.forIn_cons, if_pos rfl]
    refine wpAny_bind (wpAny_bind (thn this fun b s1 hb => wpAny_pure ?_))
    exact wpAny_pure hb
  | _ :: _ :: _, h => exact none_ne h
theorem sndE : ∀ m, SndE T P xc n m
  | 0 => ⟨fun _ _ h => none_ne h, fun _ _ h => none_ne h, fun _ _ h => none_ne h, fun _ _ h => none_ne h, fun _ _ h => none_ne h, fun _ _ h => none_ne h, fun _ _ _ h => none_ne h, fun _ _ h => none_ne h⟩
  | m + 1 => let I := sndE m
    ⟨fun L C h => snd_e I L C h, fun L C h => snd_call I L C h, fun L C h => snd_es I L C h, fun L C h => snd_t I L C h, fun L C h => snd_w I L C h, fun L C h => snd_o I L C h, fun tg L C h => snd_i I L C tg h, fun L C h => snd_f I L C h⟩
end
end Ev
set_option Elab.async false
set_option linter.all false
set_option maxRecDepth 100000
namespace Ev
open PySem PySem.Spec PyProof.Rows PySem.SeqAt L2
structure XS (X : Cx) (S : Sc) (R : RK) (n : Nat) : Prop extends XC X S R n where
  own : S.calm = true → PassesOwn (model X.prog X.w) X.A X.env X.xe
  made : S.can = true → Made X R
  top : S.can = true → X.stack = X.env :: X.outer ∧ X.env.frame = some X.env.locals
structure SndS (T : Pg) (P : Cfg) (xc : Nat → Addr) (n m : Nat) : Prop where
  s : ∀ {S X R st ir}, LkX T P X xc n → XS X S R n → cS T m S st = some ir → QS X xc R st (exec P (callM P.wh (runN P n)) ir)
  ss : ∀ {S X R sts ir}, LkX T P X xc n → XS X S R n → cSs T m S sts = some ir → QSs X xc R sts (exec P (callM P.wh (runN P n)) ir)
section
variable (P : Cfg) (cl : Nat → List W → G → Res W)
theorem exec_skip : exec P cl .skip = fun sl g => .nx sl g := by funext sl g; rfl
theorem exec_seq (a b : S) : exec P cl (.seq a b) = seqF (exec P cl a) (exec P cl b) := by funext sl g; rfl
theorem exec_set (t : Tg) (e : E) : exec P cl (.set t e) = fun sl g => (ev P cl e sl g).out sl fun w g1 => match setT t w g1 sl with | some sl1 => .nx sl1 g1 | none => .stuck := by
  funext sl g
  show (match ev P cl e sl g with | .ok w g1 => _ | .exc c g1 => _ | .stuck => _) = _
  cases ev P cl e sl g <;> rfl
theorem exec_drop (e : E) : exec P cl (.drop e) = fun sl g => (ev P cl e sl g).out sl fun _ g1 => .nx sl g1 := by
  funext sl g
  show (match ev P cl e sl g with | .ok w g1 => _ | .exc c g1 => _ | .stuck => _) = _
  cases ev P cl e sl g <;> rfl
theorem exec_ret (e : E) : exec P cl (.ret e) = fun sl g => (ev P cl e sl g).out sl fun w g1 => .rt w g1 := by
  funext sl g
  show (match ev P cl e sl g with | .ok w g1 => _ | .exc c g1 => _ | .stuck => _) = _
  cases ev P cl e sl g <;> rfl
theorem exec_ite (c : E) (a b : S) : exec P cl (.ite c a b) = fun sl g => (evT (ev P cl c) sl g).out sl fun k g1 => if k then exec P cl a sl g1 else exec P cl b sl g1 := by
  funext sl g
  show (match evT (ev P cl c) sl g with | .ok true g1 => _ | .ok false g1 => _ | .exc c g1 => _ | .stuck => _) = _
  cases evT (ev P cl c) sl g with
  | ok k g1 => cases k <;> rfl
  | _ => rfl
theorem exec_loop (t : Tg) (it : E) (b : S) : exec P cl (.loop t it b) = fun sl g => (evI P cl it sl g).out sl fun J g1 => match J.many g1 with
    | some n => forLoop J.nxt (fun x s g2 => match setT t x g2 s with | none => .stuck | some s1 => exec P cl b s1 g2) (n + 1) 0 sl g1
    | none => .stuck := by
  funext sl g
  show (match evI P cl it sl g with | .ok w g1 => _ | .exc c g1 => _ | .stuck => _) = _
  cases evI P cl it sl g <;> rfl
theorem exec_raise (c : Nat) (as : E) : exec P cl (.raise c as) = fun sl g => (evs P cl as sl g).out sl fun ws g1 => if ws.length ≤ sizeLine then .exc c sl g1 else .stuck := by
  funext sl g
  show (match evs P cl as sl g with | .ok w g1 => _ | .exc c g1 => _ | .stuck => _) = _
  cases evs P cl as sl g <;> rfl
theorem exec_put (a i e : E) : exec P cl (.put a i e) = putF (ev P cl e) (ev P cl a) (ev P cl i) := by
  funext sl g
  show (match ev P cl e sl g with | .ok w g1 => _ | .exc c g1 => _ | .stuck => _) = _
  unfold putF
  cases ev P cl e sl g with
  | ok w g1 =>
    show (match ev P cl a sl g1 with | .ok w g1 => _ | .exc c g1 => _ | .stuck => _) = _
    show _ = (ev P cl a sl g1).out sl _
    cases ev P cl a sl g1 with
    | ok x g2 =>
      show (match ev P cl i sl g2 with | .ok w g1 => _ | .exc c g1 => _ | .stuck => _) = (ev P cl i sl g2).out sl _
      cases ev P cl i sl g2 <;> rfl
    | exc c g2 => rfl
    | stuck => rfl
  | exc c g1 => rfl
  | stuck => rfl
theorem exec_try (b : S) (c i : Nat) (h : S) : exec P cl (.try b c i h) = tryF P c i (exec P cl b) (exec P cl h) := by funext sl g; rfl
theorem exec_brk : exec P cl .brk = fun sl g => .bk sl g := by funext sl g; rfl
theorem exec_cont : exec P cl .cont = fun sl g => .ct sl g := by funext sl g; rfl
end
section
variable {T : Pg} {P : Cfg} {xc : Nat → Addr} {n m : Nat} {S : Sc} {X : Cx} {R : RK}
theorem tg_name (C : XC X S R n) {x : Str} {pos : Pos} {t : Tg} (h : cTg S (.Name x pos) = some t) : ∃ i, t = .one i ∧ X.N[i]? = some x ∧ Loc X.env.scope x ∧ (X.fn x = true ∨ X.env.scope.names.lookup x = some .local) := by
  have h : (if S.names.lookup x == some .local || (S.names.lookup x == some .cell && S.can) then (S.N.findIdx? (· == x)).map Tg.one else none) = some t := h
  by_cases hx : (S.names.lookup x == some .local || (S.names.lookup x == some .cell && S.can)) = true
  · rw [if_pos hx] at h
    cases hi : S.N.findIdx? (· == x) with
    | none => rw [hi] at h; cases h
    | some i =>
      rw [hi] at h
      cases h
      have hxi : X.N[i]? = some x := by rw [C.N]; exact find_get hi
      rw [Bool.or_eq_true, Bool.and_eq_true] at hx
      rcases hx with hx | ⟨hx, _⟩
      · have := C.loc x (by simpa using hx)
        exact ⟨i, rfl, hxi, .inl this, .inr this⟩
      · have := C.cel x (by simpa using hx)
        exact ⟨i, rfl, hxi, .inr this.1, .inl this.2⟩
  · rw [if_neg hx] at h; cases h
theorem sub_assign {o i : Expr} {tp : Pos} {env : Env} (h : plainIxB i = true) : ∀ v, assign (.Subscript o i tp) env v = (do
      let ov ← holding [v] (eval o env)
      let iv ← holding [v, ov] (eval i env)
      standAt tp
      holding [v, ov, iv] (setItem ov iv v)
      release [v, ov, iv] []) := by
  intro v
  cases i <;> first | rfl | cases h
theorem XS.inTry (C : XS X S R n) (hcm : S.calm = true) {pins : List (Addr × Obj)} {xe : Value → Shared → Prop} {R' : RK} (h1 : Raises (X.inTry pins xe) R') (h2 : PassesOwn (model X.prog X.w) X.A X.env xe) : XS (X.inTry pins xe) { S with can := false } R' n where
  N := C.N
  nd := C.nd
  loc := C.loc
  cel := C.cel
  fre := C.fre
  glo := C.glo
  clx := C.clx
  calm := C.calm
  fr := C.fr
  rs := h1
  un := C.un
  room := C.room
  rm2 := C.rm2
  nr := fun z => absurd z (by rw [hcm]; decide)
  own := fun _ => h2
  made := fun h => by cases h
  top := fun h => by cases h
theorem XS.suite (C : XS X S R n) (ea : Addr) : XS (X.suite ea) { S with calm := false, can := false } (fun _ _ _ => False) n where
  N := C.N
  nd := C.nd
  loc := C.loc
  cel := C.cel
  fre := C.fre
  glo := C.glo
  clx := C.clx
  calm := fun h => by cases h
  fr := C.fr
  rs := raises_never
  un := C.un
  room := fun h => by cases h
  rm2 := ⟨C.rm2.dp, C.rm2.un⟩
  nr := fun _ _ _ _ z => z
  own := fun h => by cases h
  made := fun h => by cases h
  top := fun h => by cases h
theorem raiseV_ok {x : Option Expr} {cause : Option Expr} {c : Str} {a : Expr} {es : List Expr} (h : raiseV x cause = some (c, a, es)) : ∃ p pos, x = some (.Call (.Name c p) (a :: es) [] pos) ∧ cause = none := by
  cases cause with
  | some => exact none_ne h
  | none =>
    cases x with
    | none => exact none_ne h
    | some e =>
      cases e with
      | Call f es' kws pos =>
        cases kws with
        | cons => exact none_ne h
        | nil =>
          cases f with
          | Name x p =>
            cases es' with
            | nil => exact none_ne h
            | cons a' es' => cases h; exact ⟨_, _, rfl, rfl⟩
          | _ => exact none_ne h
      | _ => exact none_ne h
theorem tryV_ok {hs : List ExceptHandler} {o f : List Stmt} {c n : Str} {b : Stmt} {r : List Stmt} (h : tryV hs o f = some (c, n, b, r)) : ∃ p pos, hs = [.ExceptHandler (some (.Name c p)) (some n) (b :: r) pos] ∧ o = [] ∧ f = [] := by
  cases o with
  | cons => exact none_ne h
  | nil =>
    cases f with
    | cons => exact none_ne h
    | nil =>
      cases hs with
      | nil => exact none_ne h
      | cons h1 hs =>
        cases hs with
        | cons => exact none_ne h
        | nil =>
          cases h1 with
          | ExceptHandler t nm bd pos =>
            cases t with
            | none => exact none_ne h
            | some t =>
              cases t with
              | Name c' p =>
                cases nm with
                | none => exact none_ne h
                | some n' =>
                  cases bd with
                  | nil => exact none_ne h
                  | cons b' r' => cases h; exact ⟨_, _, rfl, rfl, rfl⟩
              | _ => exact none_ne h
theorem snd_s (I : SndS T P xc n m) (L : LkX T P X xc n) (C : XS X S R n) {st : Stmt} {ir : Ev.S} (h : cS T (m + 1) S st = some ir) : QS X xc R st (exec P (callM P.wh (runN P n)) ir) := by
  have J := sndE (T := T) (P := P) (xc := xc) (n := n) m
  have C0 := C.toXC
  cases st with
  | Pass p => cases h; rw [exec_skip]; exact qs_pass
  | Break p => cases h; rw [exec_brk]; exact qs_break
  | Continue p => cases h; rw [exec_cont]; exact qs_cont
  | Return v p =>
    cases v with
    | none => exact none_ne h
    | some e =>
      obtain ⟨a', ha, rfl⟩ := map_some (show (cE T m S e).map Ev.S.ret = some ir from h)
      rw [exec_ret]
      exact qs_ret (J.e L C0 ha)
  | Expr e p =>
    by_cases hn : notComp e = true
    · obtain ⟨a', ha, rfl⟩ := map_some (show (cE T m S e).map Ev.S.drop = some ir from (if_pos hn).symm.trans h)
      rw [exec_drop]
      exact qs_expr (J.e L C0 ha) (notComp_ok hn)
    · exact none_ne ((if_neg hn).symm.trans h)
  | Assign tgs e p =>
    cases tgs with
    | nil => exact none_ne h
    | cons tg tgs =>
      cases tgs with
      | cons => exact none_ne h
      | nil =>
        cases tg with
        | Name x p' =>
          have h : (match cTg S (.Name x p'), cE T m S e with | some t, some e' => if notComp e then some (Ev.S.set t e') else none | _, _ => none) = some ir := h
          split at h
          · rename_i e1 e2
            split at h
            · rename_i hn
              cases h
              obtain ⟨i, rfl, k1, k2, k3⟩ := tg_name C0 e1
              rw [exec_set]
              exact qs_set (by rw [C0.N]; exact C0.nd) k1 k2 (J.e L C0 e2) (notComp_ok hn) k3
            · cases h
          · cases h
        | Subscript a b p' =>
          have h : (match cE T m S a, cE T m S b, cE T m S e with | some a', some b', some e' => if notComp e && plainIxB b then some (Ev.S.put a' b' e') else none | _, _, _ => none) = some ir := h
          split at h
          · rename_i e1 e2 e3
            split at h
            · rename_i hn
              cases h
              rw [Bool.and_eq_true] at hn
              rw [exec_put]
              exact qs_put (J.e L C0 e3) (J.e L C0 e1) (J.e L C0 e2) (notComp_ok hn.1) (sub_assign hn.2) rfl
            · cases h
          · cases h
        | _ => exact none_ne h
  | If c a b p =>
    have h : (match cT T m S c, cSs T m S a, cSs T m S b with | some c, some a, some b => some (Ev.S.ite c a b) | _, _, _ => none) = some ir := h
    split at h
    · rename_i e1 e2 e3
      cases h
      rw [exec_ite]
      exact qs_if (J.t L C0 e1) (I.ss L C e2) (I.ss L C e3)
    · cases h
  | For tg it body orelse p =>
    cases orelse with
    | cons => exact none_ne h
    | nil =>
      have h : (match cTg S tg, cI T m S it, cSs T m S body with | some t, some it', some b => if S.calm && notSet it then some (Ev.S.loop t it' b) else none | _, _, _ => none) = some ir := h
      split at h
      · rename_i e1 e2 e3
        split at h
        · rename_i hc
          cases h
          rw [Bool.and_eq_true] at hc
          rw [exec_loop]
          exact qs_for (C.own hc.1) (C0.calm hc.1) (J.i _ L C0 e2) (tg_ok C0 e1) (I.ss L C e3) (notSet_ok hc.2)
        · cases h
      · cases h
  | Raise x cause p =>
    have h : (match raiseV x cause with
      | some (x, a, es) => (match T.xcl x, cEs T m S (a :: es) with
        | some c, some as => if S.can && S.calm && isGl S x then some (Ev.S.raise c as) else none
        | _, _ => none)
      | none => none) = some ir := h
    cases hr : raiseV x cause with
    | none => rw [hr] at h; cases h
    | some q =>
      obtain ⟨c, a, es⟩ := q
      rw [hr] at h
      obtain ⟨p1, p2, rfl, rfl⟩ := raiseV_ok hr
      have h : (match T.xcl c, cEs T m S (a :: es) with | some d, some as => if S.can && S.calm && isGl S c then some (Ev.S.raise d as) else none | _, _ => none) = some ir := h
      split at h
      · rename_i e1 e2
        split at h
        · rename_i hc
          cases h
          rw [Bool.and_eq_true, Bool.and_eq_true] at hc
          obtain ⟨⟨c1, c2⟩, c3⟩ := hc
          obtain ⟨h1, h2⟩ := J.es L C0 e2
          rw [exec_raise]
          exact qs_raise (L.xcl _ _ e1) (C.made c1) (C0.calm c2) (C0.gl c3) h2 (isGl_ok c3).2 (star1 h1) (star2 h1)
        · cases h
      · cases h
  | Try body hs orelse fin p =>
    have h : (match tryV hs orelse fin with
      | some (c, n, b₀, suite) => (match T.xcl c, S.N.findIdx? (· == n), cSs T m { S with can := false } body, cSs T m { S with calm := false, can := false } (b₀ :: suite) with
        | some d, some i, some b, some h => if S.can && S.calm && isGl S c && S.names.lookup n == some .local then some (Ev.S.try b d i h) else none
        | _, _, _, _ => none)
      | none => none) = some ir := h
    cases hr : tryV hs orelse fin with
    | none => rw [hr] at h; cases h
    | some q =>
      obtain ⟨c, nm, b₀, suite⟩ := q
      rw [hr] at h
      obtain ⟨p1, p2, rfl, rfl, rfl⟩ := tryV_ok hr
      have h : (match T.xcl c, S.N.findIdx? (· == nm), cSs T m { S with can := false } body, cSs T m { S with calm := false, can := false } (b₀ :: suite) with
        | some d, some i, some b, some h => if S.can && S.calm && isGl S c && S.names.lookup nm == some .local then some (Ev.S.try b d i h) else none
        | _, _, _, _ => none) = some ir := h
      split at h
      · rename_i e1 e2 e3 e4
        split at h
        · rename_i hc
          cases h
          rw [Bool.and_eq_true, Bool.and_eq_true, Bool.and_eq_true] at hc
          obtain ⟨⟨⟨c1, c2⟩, c3⟩, c4⟩ := hc
          rw [exec_try]
          exact qs_try (L.xcl _ _ e1) L.xo (C0.gl c3) (C.top c1).1 (C.top c1).2 (by rw [C0.N]; exact C0.nd) (by rw [C0.N]; exact find_get e2) (C0.loc _ (by simpa using c4))
            (fun pins xe R' h1 h2 => I.ss (X := X.inTry pins xe) L (C.inTry c2 h1 h2) e3) (fun ea => I.ss (X := X.suite ea) L (C.suite ea) e4) (isGl_ok c3).2
        · cases h
      · cases h
  | _ => exact none_ne h
theorem snd_ss (I : SndS T P xc n m) (L : LkX T P X xc n) (C : XS X S R n) {sts : List Stmt} {ir : Ev.S} (h : cSs T (m + 1) S sts = some ir) : QSs X xc R sts (exec P (callM P.wh (runN P n)) ir) := by
  cases sts with
  | nil => cases (show some Ev.S.skip = some ir from h); rw [exec_skip]; exact qss_nil
  | cons a r =>
    have h : (match cS T m S a, cSs T m S r with | some a, some r => some (Ev.S.seq a r) | _, _ => none) = some ir := h
    split at h
    · rename_i e1 e2
      cases h
      rw [exec_seq]
      exact qss_cons (I.s L C e1) (I.ss L C e2)
    · cases h
theorem sndS : ∀ m, SndS T P xc n m
  | 0 => ⟨fun _ _ h => none_ne h, fun _ _ h => none_ne h⟩
  | m + 1 => let I := sndS m
    ⟨fun L C h => snd_s I L C h, fun L C h => snd_ss I L C h⟩
end
end Ev
set_option Elab.async false
set_option linter.all false
set_option maxRecDepth 100000
namespace Ev
open PySem PySem.Spec PyProof.Rows PySem.SeqAt L2
structure FnSt (cm : Bool) (T : Pg) (P : Cfg) (K : PySem.W.Frag) (f : Nat) (fa : Addr) (fd : FuncData) (ps : List Str) : Prop where
  keep : PySem.W.keepIn K (.ref fa) = true
  binds : Binds K fd ps []
  lk : ∃ (name qual : Str) (params : Arguments) (body : List Stmt) (scope : Scope) (dV kV doc pm cdv ct oc : Value) (an od : Option Addr) (osl : Array (Option Value)) (N : List Str) (m : Nat) (ir : Ev.S),
    fd = PySem.W.fnOf name qual params body scope dV kV doc pm an cdv ct ∧ K.lookup fa = some ⟨oc, od, .func (PySem.W.fnOf name qual params body scope dV kV doc pm an cdv ct), osl⟩ ∧ PySem.W.codeIn K cdv qual = true ∧ FnScope N ps scope ∧
    cSs T m ⟨N, scope.names, cm, cm⟩ body = some ir ∧ P.fns[f]? = some ⟨ps.length, N.length, ir⟩
section
variable {T : Pg} {P : Cfg} {prog : Program} {w : World} {K : PySem.W.Frag} {mg : Str → Option Value} {base : Heap} {xc : Nat → Addr}
theorem xs_def {N ps : List Str} {qual : Str} {scope : Scope} {f : Addr} {cd : Value} {A : Around} {outer : List Env} {s : Shared} {H : Hp} {E : XK} {n : Nat} (S : FnScope N ps scope) (hr : Room n (A.deeper (envOfC qual scope s.heap.objs.size f cd))) :
    XS (cxOf (CXd prog w) prog w K mg base N qual scope f cd A outer s H E) ⟨N, scope.names, true, true⟩ (fun _ C H' => E (.ref C) none H') n where
  N := rfl
  nd := S.nd
  loc := fun x h => h
  cel := fun x h => ⟨h, rfl⟩
  fre := fun x h => absurd rfl (S.nofree _ (PySem.mem_of_lookup h))
  glo := fun x h => h
  clx := fun x h => PySem.W.cellsFrom_some _ _ _ (.inl (h.elim id fun h => absurd rfl (S.nofree _ (PySem.mem_of_lookup h))))
  calm := fun _ => rfl
  fr := ⟨_, _, _, rfl, rfl, rfl⟩
  rs := raises_def fun _ _ _ h => h
  un := by have := hr.un; show (A.deeper (envOfC qual scope s.heap.objs.size f cd)).units + 65 < cLine; omega
  room := fun _ => hr
  rm2 := Ev.Room.room2 hr
  nr := fun h => by cases h
  own := fun _ => PassesOwn.leaving
  made := fun _ => made_def fun _ _ _ h => h
  top := fun _ => ⟨rfl, rfl⟩
theorem rs_start {ρ : List Addr} {H : Hp} {N : List Str} {args : List W} {vs : List V} {np : Nat} (r : RWs K xc ρ H args vs) (hl : args.length = np) : RS K xc ρ H (args.map some ++ List.replicate (N.length - np) none) (L2.start N vs) := by
  subst hl
  have e := r.length
  unfold L2.start
  refine ⟨by simp [e], fun i x h => ?_⟩
  by_cases hi : i < args.length
  · rw [List.getElem?_append_left (by simpa using hi), List.getElem?_map] at h
    cases ha : args[i]? with
    | none => rw [ha] at h; cases h
    | some y =>
      rw [ha] at h
      have : y = x := by simpa using h
      subst this
      obtain ⟨v, e1, r1⟩ := r.get ha
      refine ⟨v, ?_, r1⟩
      rw [List.getElem?_append_left (by simp [e]; exact hi), List.getElem?_map, e1]
      rfl
  · rw [List.getElem?_append_right (by simpa using hi)] at h
    rw [List.getElem?_replicate] at h
    split at h <;> cases h
theorem sp_len {K : PySem.W.Frag} {xc : Nat → Addr} {P : Cfg} {n f np : Nat} {vs : List V} {H : Hp} {Q : VK} {E : XK} (h : spF K xc (runN P n) f np vs H Q E) : vs.length = np := by
  obtain ⟨ρ, args, g, hH, r, hl, _⟩ := h
  rw [r.length]
  exact hl
theorem fn_step {n f : Nat} {fa : Addr} {fd : FuncData} {ps : List Str} (L : Lk T P prog w K mg base xc n) (F : FnSt true T P K f fa fd ps) : FnOk1 prog w K mg base (n + 1) fa fd ps (spF K xc (runN P (n + 1)) f ps.length) := by
  obtain ⟨name, qual, params, body, scope, dV, kV, doc, pm, cdv, ct, oc, an, od, osl, N, m, ir, rfl, lk, hcd, S, hc, hf⟩ := F.lk
  have len : ∀ vs H Q E, spF K xc (runN P (n + 1)) f ps.length vs H Q E → vs.length = ps.length := fun vs H Q E h => sp_len h
  refine fn_of1 lk hcd S len fun A outer s H vs Q E hr hsp s1 hk I => ?_
  obtain ⟨ρ, args, g, hH, r, hl, hP⟩ := hsp
  have C : XS (cxOf (CXd prog w) prog w K mg base N qual scope fa cdv A outer s H E) ⟨N, scope.names, true, true⟩ (fun _ C H' => E (.ref C) none H') n := xs_def S hr
  refine (sndS (T := T) (P := P) (xc := xc) (n := n) m).ss L C hc [] s1 (L2.start N vs) H ρ _ g _ I hk (rs_start (N := N) r hl) hH ?_
  have e : runN P (n + 1) f args g = match exec P (callM P.wh (runN P n)) ir (args.map some ++ List.replicate (N.length - ps.length) none) g with
        | .nx _ g1 => .ok .non g1
        | .rt w g1 => .ok w g1
        | .exc c _ g1 => .exc c g1
        | _ => .stuck := by
    show (match P.fns[f]? with | none => _ | some fn => _) = _
    rw [hf]
    show (if args.length = ps.length then _ else _) = _
    exact if_pos hl
  rw [e] at hP
  show PostS K xc ρ H _ _ (exec P (callM P.wh (runN P n)) ir (args.map some ++ List.replicate (N.length - ps.length) none) g)
  revert hP
  cases exec P (callM P.wh (runN P n)) ir (args.map some ++ List.replicate (N.length - ps.length) none) g with
  | nx sl g1 => exact fun h ρ' H' σ' x y z => h ρ' H' .non x y rw_non
  | rt v g1 => exact fun h ρ' H' σ' x y z => h ρ' H' _ x y z
  | exc c sl g1 => exact fun h ρ' H' σ' x y z => h ρ' H' x y
  | bk sl g1 => exact fun h => h.elim
  | ct sl g1 => exact fun h => h.elim
  | stuck => exact fun h => h.elim
theorem xs_defS {N ps : List Str} {qual : Str} {scope : Scope} {f : Addr} {cd : Value} {A : Around} {outer : List Env} {s : Shared} {H : Hp} {n : Nat} (S : FnScope N ps scope) (hr : Room2 n (A.deeper (envOfC qual scope s.heap.objs.size f cd))) :
    XS (cxS prog w K mg base N qual scope f cd A outer s H) ⟨N, scope.names, false, false⟩ (fun _ _ _ => False) n where
  N := rfl
  nd := S.nd
  loc := fun x h => h
  cel := fun x h => ⟨h, rfl⟩
  fre := fun x h => absurd rfl (S.nofree _ (PySem.mem_of_lookup h))
  glo := fun x h => h
  clx := fun x h => PySem.W.cellsFrom_some _ _ _ (.inl (h.elim id fun h => absurd rfl (S.nofree _ (PySem.mem_of_lookup h))))
  calm := fun h => by cases h
  fr := ⟨_, _, _, rfl, rfl, rfl⟩
  rs := raises_never
  un := by have := hr.un; show (A.deeper (envOfC qual scope s.heap.objs.size f cd)).units + 65 < cLine; omega
  room := fun h => by cases h
  rm2 := hr
  nr := fun _ _ _ _ z => z
  own := fun h => by cases h
  made := fun h => by cases h
  top := fun h => by cases h
theorem fn_step2 {n f : Nat} {fa : Addr} {fd : FuncData} {ps : List Str} (L : Lk T P prog w K mg base xc n) (F : FnSt false T P K f fa fd ps) : FnOk2 prog w K mg base (n + 1) fa fd ps (spF K xc (runN P (n + 1)) f ps.length) := by
  obtain ⟨name, qual, params, body, scope, dV, kV, doc, pm, cdv, ct, oc, an, od, osl, N, m, ir, rfl, lk, hcd, S, hc, hf⟩ := F.lk
  have len : ∀ vs H Q E, spF K xc (runN P (n + 1)) f ps.length vs H Q E → vs.length = ps.length := fun vs H Q E h => sp_len h
  refine fn_of2 lk hcd S len fun A outer s H vs Q hr hsp s1 hk I => ?_
  obtain ⟨ρ, args, g, hH, r, hl, hP⟩ := hsp
  have C : XS (cxS prog w K mg base N qual scope fa cdv A outer s H) ⟨N, scope.names, false, false⟩ (fun _ _ _ => False) n := xs_defS S hr
  refine (sndS (T := T) (P := P) (xc := xc) (n := n) m).ss (X := cxS prog w K mg base N qual scope fa cdv A outer s H) L C hc [] s1 (L2.start N vs) H ρ _ g _ I hk (rs_start (N := N) r hl) hH ?_
  have e : runN P (n + 1) f args g = match exec P (callM P.wh (runN P n)) ir (args.map some ++ List.replicate (N.length - ps.length) none) g with
        | .nx _ g1 => .ok .non g1
        | .rt w g1 => .ok w g1
        | .exc c _ g1 => .exc c g1
        | _ => .stuck := by
    show (match P.fns[f]? with | none => _ | some fn => _) = _
    rw [hf]
    show (if args.length = ps.length then _ else _) = _
    exact if_pos hl
  rw [e] at hP
  show PostS K xc ρ H _ _ (exec P (callM P.wh (runN P n)) ir (args.map some ++ List.replicate (N.length - ps.length) none) g)
  revert hP
  cases exec P (callM P.wh (runN P n)) ir (args.map some ++ List.replicate (N.length - ps.length) none) g with
  | nx sl g1 => exact fun h ρ' H' σ' x y z => h ρ' H' .non x y rw_non
  | rt v g1 => exact fun h ρ' H' σ' x y z => h ρ' H' _ x y z
  | exc c sl g1 => exact fun h ρ' H' σ' x y z => h ρ' H' x y
  | bk sl g1 => exact fun h => h.elim
  | ct sl g1 => exact fun h => h.elim
  | stuck => exact fun h => h.elim
theorem sp_zero {f np : Nat} {vs : List V} {H : Hp} {Q : VK} {E : XK} {C : Prop} (h : spF K xc (runN P 0) f np vs H Q E) : C := by
  obtain ⟨_, _, _, _, _, _, h⟩ := h
  exact h.elim
theorem fn_zero2 {f : Nat} {fa : Addr} {fd : FuncData} {ps : List Str} : FnOk2 prog w K mg base 0 fa fd ps (spF K xc (runN P 0) f ps.length) :=
  ⟨fun _ _ _ _ h => sp_zero h, fun _ _ _ _ _ _ _ _ _ _ _ _ _ h => sp_zero h⟩
theorem fn_zero {f : Nat} {fa : Addr} {fd : FuncData} {ps : List Str} : FnOk1 prog w K mg base 0 fa fd ps (spF K xc (runN P 0) f ps.length) :=
  ⟨fun _ _ _ _ h => sp_zero h, fun _ _ _ _ _ _ _ _ _ _ _ _ _ _ h => sp_zero h⟩
structure LkM (T : Pg) (P : Cfg) (K : PySem.W.Frag) (mg : Str → Option Value) (xc : Nat → Addr) : Prop where
  cst : ∀ x w', T.cst x = some w' → ∃ v u, mg x = some u ∧ RelV v u ∧ ∀ ρ H, RW K xc ρ H w' v
  xcl : ∀ x c, T.xcl x = some c → Exc K mg x (xc c)
  bl : ∀ x, T.bl.contains x = true → mg x = none
  xo : XOk P K xc
  fn : ∀ x f, T.fn x = some f → ∃ fa fd ps, mg x = some (.ref fa) ∧ FnSt true T P K f fa fd ps
  fnS : ∀ x f, T.fnS x = some f → ∃ fa fd ps, mg x = some (.ref fa) ∧ FnSt false T P K f fa fd ps
theorem FnSt.np {cm : Bool} {f : Nat} {fa : Addr} {fd : FuncData} {ps : List Str} (F : FnSt cm T P K f fa fd ps) : (P.fns[f]?.map (·.np)).getD 1000 = ps.length := by
  obtain ⟨name, qual, params, body, scope, dV, kV, doc, pm, cdv, ct, oc, an, od, osl, N, m, ir, rfl, lk, hcd, S, hc, hf⟩ := F.lk
  rw [hf]; rfl
theorem lk_all (M : LkM T P K mg xc) : ∀ n, Lk T P prog w K mg base xc n
  | 0 => ⟨M.cst, M.xcl, M.bl, M.xo, fun x f h => let ⟨fa, fd, ps, e, F⟩ := M.fn x f h; ⟨fa, fd, ps, e, F.keep, F.binds, F.np, fn_zero⟩, fun x f h => let ⟨fa, fd, ps, e, F⟩ := M.fnS x f h; ⟨fa, fd, ps, e, F.keep, F.binds, F.np, fn_zero2⟩⟩
  | n + 1 => ⟨M.cst, M.xcl, M.bl, M.xo, fun x f h => let ⟨fa, fd, ps, e, F⟩ := M.fn x f h; ⟨fa, fd, ps, e, F.keep, F.binds, F.np, fn_step (lk_all M n) F⟩, fun x f h => let ⟨fa, fd, ps, e, F⟩ := M.fnS x f h; ⟨fa, fd, ps, e, F.keep, F.binds, F.np, fn_step2 (lk_all M n) F⟩⟩
end
end Ev
set_option Elab.async false
set_option linter.all false
set_option maxRecDepth 100000
namespace Ev
open PySem PySem.Spec PyProof.Rows PySem.SeqAt L2
noncomputable def tokA (T : Pg) : Nat → List Expr → Bool
  | 0, _ => false
  | k + 1, es => match es with
    | [] => false
    | a :: r => match a with
      | .Constant c _ _ => match c with
        | .int _ => true
        | .str _ => true
        | _ => false
      | .Name _ _ => tokA T k r
      | .Call f es kws _ => match kws with
        | [] => match f with
          | .Name x _ => (T.fn x).isSome && !strIs x "isinstance" && tokA T k es
          | _ => false
        | _ => false
      | _ => false
noncomputable def tokS (T : Pg) : Stmt → Bool
  | .Assign tgs e _ => match tgs with
    | [tg] => match tg with
      | .Name _ _ => match e with
        | .Call f es kws _ => match kws with
          | [] => match f with
            | .Name x _ => (T.fn x).isSome && !strIs x "isinstance" && tokA T 30 es
            | _ => false
          | _ => false
        | _ => false
      | _ => false
    | _ => false
  | _ => false
section
variable (X : Cx) (xc : Nat → Addr) (R : RK)
noncomputable def QE0 (e : Expr) (f : Sl → G → Res W) : Prop :=
  ∀ (pins : List (Addr × Obj)) (s : Shared) (σ : L2.St) (H : Hp) (ρ : List Addr) (sl : Sl) (g : G) (Q : VK), Inv X pins σ H s → RS X.K xc ρ H sl σ → RH X.K xc ρ g H →
    Post X.K xc (RW X.K xc) ρ H Q (fun c H' => R σ (xc c) H') (f sl g) → wpAny (model X.prog X.w) X.A (eval e X.env) (fun v s' => 0 < s'.toks ∧ EP X pins σ Q v s') X.xe s
noncomputable def QA0 (es : List Expr) (f : Sl → G → Res (List W)) : Prop :=
  ∀ (pos : Pos) (pins : List (Addr × Obj)) (s : Shared) (σ : L2.St) (H : Hp) (ρ : List Addr) (sl : Sl) (g : G) (Q : List V → Hp → Prop), Inv X pins σ H s → RS X.K xc ρ H sl σ → RH X.K xc ρ g H →
    Post X.K xc (RWs X.K xc) ρ H Q (fun c H' => R σ (xc c) H') (f sl g) → wpAny (model X.prog X.w) X.A (spliced (backTo pos (starEach es X.env))) (fun us s' => 0 < s'.toks ∧ AP X pins σ Q us s') X.xe s
noncomputable def QSs0 (sts : List Stmt) (f : Sl → G → Out) : Prop :=
  ∀ (pins : List (Addr × Obj)) (s : Shared) (σ : L2.St) (H : Hp) (ρ : List Addr) (sl : Sl) (g : G) (D : Ends), Inv X pins σ H s → RS X.K xc ρ H sl σ → RH X.K xc ρ g H →
    PostS X.K xc ρ H D R (f sl g) → wpAny (model X.prog X.w) X.A (execs sts X.env) (SP X pins D) X.xe s
end
section
variable {X : Cx} {xc : Nat → Addr} {R : RK} {a b : Expr} {pos p : Pos} {es : List Expr} {fa : Sl → G → Res W} {fs : Sl → G → Res (List W)} {run : Nat → List W → G → Res W} {wh : Nat → Bool} {f1 f2 : Sl → G → Out} {rest : List Stmt}
theorem qa0_e (ha : QE0 X xc R a fa) (hr : QA X xc R es fs) (hs : starEach (a :: es) X.env = (false, eval a X.env) :: starEach es X.env) :
    QA0 X xc R (a :: es) (fun sl g => (fa sl g).bind fun x g1 => (fs sl g1).bind fun xs g2 => .ok (x :: xs) g2) := by
  intro pos pins s σ H ρ sl g Q I hS hH hP
  rw [hs]
  show wpAny _ _ (spliced ((false, eval a X.env) :: backTo pos (starEach es X.env))) _ _ s
  refine Calls.spliced_cons (thn (ha pins s σ H ρ sl g _ I hS hH (Post.bind hP)) fun u s1 qq1 => have hk1 := qq1.1; ep_elim qq1.2 fun x H1 I1 r1 ρ1 w1 g1 X1 hH1 rw1 hP1 => ?_)
  refine thnT hk1 (hr pos pins s1 σ H1 ρ1 sl g1 _ I1 hk1 (hS.mono X1) hH1 (Post.bind hP1)) fun us s2 hk2 qq2 => ap_elim qq2 fun xs H2 I2 r2 ρ2 ws g2 X2 hH2 rw2 hP2 => ?_
  exact ⟨hk2, x :: xs, H2, I2, .cons r1 r2, hP2 ρ2 H2 _ Ext.refl hH2 (RWs.cons (RW.mono X2 w1 rw1) rw2)⟩
theorem qa0_var {i : Nat} {x : Str} (hN : X.N[i]? = some x) (hv : Vis X.env.scope x) (hd : (x == ("__debug__" : Str)) = false) (hcd : (x == ("__classdict__" : Str)) = false) (hr : QA0 X xc R es fs) :
    QA0 X xc R (.Name x pos :: es) (fun sl g => (match sl[i]? with | some (some w) => Res.ok w g | _ => .stuck).bind fun x g1 => (fs sl g1).bind fun xs g2 => .ok (x :: xs) g2) := by
  intro pos' pins s σ H ρ sl g Q I hS hH hP
  show wpAny _ _ (spliced ((false, eval (.Name x pos) X.env) :: backTo pos' (starEach es X.env))) _ _ s
  cases e : sl[i]? with
  | none => simp only [e] at hP; exact hP.elim
  | some o =>
    cases o with
    | none => simp only [e] at hP; exact hP.elim
    | some w =>
      simp only [e] at hP
      obtain ⟨v, ev, rw1⟩ := hS.2 i w e
      refine Calls.spliced_cons (thn (pe_var (X := X) hN hv hd hcd pins s σ H (fun u H1 => u = v ∧ H1 = H) I ⟨v, ev, rfl, rfl⟩) fun u s1 qq9 => ?_)
      obtain ⟨y, H1, I1, r1, e1, e2⟩ := qq9
      subst e1
      subst e2
      refine thn (hr pos' pins s1 σ H1 ρ sl g _ I1 hS hH (Post.bind hP)) fun us s2 qq2 => have hk2 := qq2.1; ap_elim qq2.2 fun xs H2 I2 r2 ρ2 ws g2 X2 hH2 rw2 hP2 => ?_
      exact ⟨hk2, y :: xs, H2, I2, .cons r1 r2, hP2 ρ2 H2 _ Ext.refl hH2 (RWs.cons (RW.mono X2 w rw1) rw2)⟩
theorem qe0_int {i : Int} {j : Nat} : QE0 X xc R (.Constant (.int i) j pos) (fun _ g => .ok (.int i) g) := by
  intro pins s σ H ρ sl g Q I hS hH hP
  exact wpAny_Constant_int ⟨Nat.succ_pos _, .int i, H, I.tok _, ⟨_, rfl⟩, hP ρ H _ Ext.refl hH rw_int⟩
theorem qe0_str {i : Str} {j : Nat} : QE0 X xc R (.Constant (.str i) j pos) (fun _ g => .ok (.str i) g) := by
  intro pins s σ H ρ sl g Q I hS hH hP
  exact Calls.Constant_str ⟨Nat.succ_pos _, .str i, H, I.tok _, ⟨_, rfl⟩, hP ρ H _ Ext.refl hH rw_str⟩
theorem qe0_call {k fn np : Nat} {f : Addr} {fd : FuncData} {ps : List Str} {x : Str} (F : FnOk1 X.prog X.w X.K X.mg X.base k f fd ps (spF X.K xc run fn np)) (hr : Room k X.A) (hg : Gl X x) (hm : X.mg x = some (.ref f)) (hk' : PySem.W.keepIn X.K (.ref f) = true) (hb : Binds X.K fd ps []) (hx : Raises X R)
    (ha : QA0 X xc R (a :: es) fs) (hdb : (x == ("__debug__" : Str)) = false) (he : starEach (a :: es) X.env = (false, eval a X.env) :: starEach es X.env) (hpl : (backTo pos (starEach es X.env)).any (·.1) = false) :
    QE0 X xc R (.Call (.Name x p) (a :: es) [] pos) (fun sl g => (fs sl g).bind fun ws g1 => if ws.length = np then callM wh run fn ws g1 else .stuck) := by
  intro pins s σ H ρ sl g Q I hS hH hP
  refine wpAny_Call_Name_kw (ld_glob I hg hm ?_ hdb)
  refine PySem.W.callWith_K (h₀ := X.base) I.ok.mod.kin hk' (thn (ha pos pins s σ H ρ sl g _ I hS hH (Post.bind hP)) fun us s1 qq1 => have hk1 := qq1.1; ap_elim qq1.2 fun vs H1 I1 r ρ1 ws g1 X1 hH1 rw1 hP1 => ⟨I1.kIn, ?_⟩) he hpl
  by_cases hn : ws.length = np
  · rw [if_pos hn] at hP1
    exact thnT hk1 (run_q F hr hb hx hn I1 hk1 r rw1 hH1 hP1) fun _ _ h1 h2 => ⟨h1, h2⟩
  · rw [if_neg hn] at hP1
    exact hP1.elim
theorem PostS.seq {ρ : List Addr} {H : Hp} {sl : Sl} {g : G} {D : Ends} (hP : PostS X.K xc ρ H D R (seqF f1 f2 sl g)) :
    PostS X.K xc ρ H { D with nx := fun σ' H1 => ∃ ρ1 sl1 g1, Ext ρ H ρ1 H1 ∧ RH X.K xc ρ1 g1 H1 ∧ RS X.K xc ρ1 H1 sl1 σ' ∧ PostS X.K xc ρ1 H1 D R (f2 sl1 g1) } R (f1 sl g) := by
  revert hP
  unfold seqF
  cases f1 sl g with
  | nx sl1 g1 => exact fun h ρ' H' σ' x y z => ⟨ρ', sl1, g1, x, y, z, PostS.later x h⟩
  | rt w g1 => exact fun h => h
  | bk sl1 g1 => exact fun h => h
  | ct sl1 g1 => exact fun h => h
  | exc c sl1 g1 => exact fun h => h
  | stuck => exact fun h => h
theorem qss0_set {i : Nat} {x : Str} {pos' : Pos} (hN : X.N.Nodup) (hi : X.N[i]? = some x) (hx : Loc X.env.scope x) (ha : QE0 X xc R a fa) (hs : swapsWith a (some (.Name x pos')) pos.line X.env = pure false) (hf : X.fn x = true ∨ X.env.scope.names.lookup x = some .local) (h2 : QSs X xc R rest f2) :
    QSs0 X xc R (.Assign [.Name x pos'] a pos :: rest) (seqF (fun sl g => (fa sl g).out sl fun w g1 => match setT (.one i) w g1 sl with | some sl1 => .nx sl1 g1 | none => .stuck) f2) := by
  intro pins s σ H ρ sl g D I hS hH hP
  have hP' := PostS.seq hP
  refine wpAny_execs_cons (wpAny_Assign_Name (thn (ha pins s σ H ρ sl g _ I hS hH (PostS.out hS hP')) fun v s1 qq1 => have hk1 := qq1.1; ep_elim qq1.2 fun y H1 I1 r1 ρ1 w1 g1 X1 hH1 rw1 hP1 => ?_) hs)
  refine thnT hk1 (store_ok (Q := fun _ s2 => ∃ σ2, Inv X pins σ2 H1 s2 ∧ RS X.K xc ρ1 H1 (sl.set i (some w1)) σ2) I1 hN hi hx r1 (fun s2 I2 => ⟨_, I2, (hS.mono X1).set rw1⟩) hf) fun _ s2 hk2 qq9 => ?_
  obtain ⟨σ2, I2, hS2⟩ := qq9
  obtain ⟨ρ3, sl3, g3, x3, hH3, hS3, hP3⟩ := hP1 ρ1 H1 σ2 Ext.refl hH1 hS2
  exact h2 pins s2 σ2 H1 ρ3 sl3 g3 D I2 hk2 hS3 hH3 hP3
end
end Ev
set_option Elab.async false
set_option linter.all false
set_option maxRecDepth 100000
namespace Ev
open PySem PySem.Spec PyProof.Rows PySem.SeqAt L2
section
variable {T : Pg} {P : Cfg} {xc : Nat → Addr} {n : Nat} {S : Sc} {X : Cx} {R : RK}
theorem cCall_fn {m : Nat} {x : Str} {a : Expr} {es : List Expr} {ir : E} {f : Nat} (hf : T.fn x = some f) (h : cCall T m S x (a :: es) = some ir) : ∃ m' as, isGl S x = true ∧ S.calm = true ∧ cEs T m' S (a :: es) = some as ∧ ir = .call f as := by
  cases m with
  | zero => exact none_ne h
  | succ m =>
    have h : (if isGl S x = true then (match T.fn x with | some f => if S.calm = true then (cEs T m S (a :: es)).map (E.call f) else none | none => match T.fnS x with | some f => if S.calm = true then none else (cEs T m S (a :: es)).map (E.call f) | none => if T.bl.contains x = true then (match cBl x with | some b => if (S.calm || !walks b) = true then (cEs T m S (a :: es)).map (E.blt b) else none | none => none) else none) else none) = some ir := h
    rw [hf] at h
    have h : (if isGl S x = true then (if S.calm = true then (cEs T m S (a :: es)).map (E.call f) else none) else none) = some ir := h
    by_cases hg : isGl S x = true
    · rw [if_pos hg] at h
      by_cases hc : S.calm = true
      · rw [if_pos hc] at h
        obtain ⟨as, e1, e2⟩ := map_some h
        exact ⟨m, as, hg, hc, e1, e2.symm⟩
      · rw [if_neg hc] at h; cases h
    · rw [if_neg hg] at h; cases h
theorem cE_call {m : Nat} {x : Str} {p pos : Pos} {es : List Expr} {ir : E} {f : Nat} (hf : T.fn x = some f) (hi : strIs x "isinstance" = false) (h : cE T m S (.Call (.Name x p) es [] pos) = some ir) :
    ∃ m' as a r, es = a :: r ∧ isGl S x = true ∧ S.calm = true ∧ cEs T m' S es = some as ∧ ir = .call f as := by
  cases m with
  | zero => exact none_ne h
  | succ m =>
    have hi' : ¬ isIsi T S x = true := by
      unfold isIsi
      rw [hi]
      exact Bool.false_ne_true
    have h : cCall T m S x es = some ir := (if_neg hi').symm.trans h
    cases es with
    | nil => cases m <;> exact none_ne h
    | cons a r =>
      obtain ⟨m', as, h1, h2, h3, h4⟩ := cCall_fn hf h
      exact ⟨m', as, a, r, rfl, h1, h2, h3, h4⟩
theorem tok_call (L : LkX T P X xc n) (C : XC X S R n) {m : Nat} {x : Str} {p pos : Pos} {es : List Expr} {ir : E} (hx : ((T.fn x).isSome && !strIs x "isinstance") = true) (h : cE T m S (.Call (.Name x p) es [] pos) = some ir)
    (ih : ∀ {m ir}, cEs T m S es = some ir → QA0 X xc R es (evs P (callM P.wh (runN P n)) ir)) : QE0 X xc R (.Call (.Name x p) es [] pos) (ev P (callM P.wh (runN P n)) ir) := by
  rw [Bool.and_eq_true] at hx
  obtain ⟨f, hf⟩ := Option.isSome_iff_exists.mp hx.1
  obtain ⟨m', as, a, r, rfl, h1, h2, h3, rfl⟩ := cE_call hf (by simpa using hx.2) h
  obtain ⟨fa, fd, ps, e1, e2, e3, e4, e5⟩ := L.fn x f hf
  have hst := ((sndE (T := T) (P := P) (xc := xc) (n := n) m').es L C h3).1
  rw [ev_call, e4]
  exact qe0_call e5 (C.room h2) (C.gl h1) e1 e2 e3 C.rs (ih h3) (isGl_ok h1).2 (star1 hst) (star2 hst)
theorem cEs_cons {m : Nat} {a : Expr} {r : List Expr} {ir : E} (h : cEs T m S (a :: r) = some ir) : ∃ m' a' r', nonStar a = true ∧ cE T m' S a = some a' ∧ cEs T m' S r = some r' ∧ ir = .cons a' r' := by
  cases m with
  | zero => exact none_ne h
  | succ m =>
    have h : (if nonStar a then cons? (cE T m S a) (cEs T m S r) else none) = some ir := h
    split at h
    · rename_i hs
      cases e1 : cE T m S a with
      | none => rw [e1] at h; cases h
      | some a' =>
        cases e2 : cEs T m S r with
        | none => rw [e1, e2] at h; cases h
        | some r' =>
          rw [e1, e2] at h
          cases h
          exact ⟨m, a', r', hs, e1, e2, rfl⟩
    · cases h
theorem tok_name (L : LkX T P X xc n) (C : XC X S R n) {x : Str} {pos : Pos} {a' r' : E} {es : List Expr} (h : (match slotOf S x with
      | some i => some (E.var i)
      | none => if isGl S x then (T.cst x).map .cst else none) = some a') (hr : QA0 X xc R es (evs P (callM P.wh (runN P n)) r')) : QA0 X xc R (.Name x pos :: es) (evs P (callM P.wh (runN P n)) (.cons a' r')) := by
  cases e : slotOf S x with
  | some i =>
    rw [e] at h
    cases h
    obtain ⟨h1, h2, h3, h4⟩ := slot_ok C e
    rw [evs_cons, ev_var]
    exact qa0_var h1 h2 h3 h4 hr
  | none =>
    rw [e] at h
    have h : (if isGl S x then (T.cst x).map E.cst else none) = some a' := h
    by_cases hg : isGl S x = true
    · rw [if_pos hg] at h
      obtain ⟨w, hw, rfl⟩ := map_some h
      obtain ⟨v, u, h1, h2, h3⟩ := L.cst x w hw
      rw [evs_cons, ev_cst]
      intro pos' pins s σ H ρ sl g Q I hS hH hP
      show wpAny _ _ (spliced ((false, eval (.Name x pos) X.env) :: backTo pos' (starEach es X.env))) _ _ s
      refine Calls.spliced_cons (thn (pe_glob (X := X) (C.gl hg) h1 h2 (isGl_ok hg).2 pins s σ H (fun u H1 => u = v ∧ H1 = H) I ⟨rfl, rfl⟩) fun u s1 qq9 => ?_)
      obtain ⟨y, H1, I1, r1, e1, e2⟩ := qq9
      subst e1
      subst e2
      refine thn (hr pos' pins s1 σ H1 ρ sl g _ I1 hS hH (Post.bind hP)) fun us s2 qq2 => have hk2 := qq2.1; ap_elim qq2.2 fun xs H2 I2 r2 ρ2 ws g2 X2 hH2 rw2 hP2 => ?_
      exact ⟨hk2, y :: xs, H2, I2, .cons r1 r2, hP2 ρ2 H2 _ Ext.refl hH2 (RWs.cons (h3 ρ2 H2) rw2)⟩
    · rw [if_neg hg] at h; cases h
theorem ff_ne {C : Prop} (h : false = true) : C := by cases h
theorem tok_es (L : LkX T P X xc n) (C : XC X S R n) : ∀ (k : Nat) {m : Nat} {es : List Expr} {ir : E}, tokA T k es = true → cEs T m S es = some ir → QA0 X xc R es (evs P (callM P.wh (runN P n)) ir) := by
  intro k
  induction k with
  | zero => intro m es ir h _; exact ff_ne h
  | succ k ih =>
    intro m es ir h hc
    cases es with
    | nil => exact ff_ne h
    | cons a r =>
      obtain ⟨m', a', r', h1, h2, h3, rfl⟩ := cEs_cons hc
      cases m' with
      | zero => exact none_ne h2
      | succ m' =>
        cases a with
        | Constant c kk p =>
          cases c with
          | int i =>
            cases h2
            rw [evs_cons, ev_cst]
            exact qa0_e qe0_int ((sndE _).es L C h3).2 (star_cons h1)
          | str x =>
            cases h2
            rw [evs_cons, ev_cst]
            exact qa0_e qe0_str ((sndE _).es L C h3).2 (star_cons h1)
          | _ => exact ff_ne h
        | Name x p => exact tok_name L C h2 (ih h h3)
        | Call f es kws p =>
          cases kws with
          | cons => exact ff_ne h
          | nil =>
            cases f with
            | Name x p' =>
              have h : ((T.fn x).isSome && !strIs x "isinstance" && tokA T k es) = true := h
              rw [Bool.and_eq_true] at h
              rw [evs_cons]
              exact qa0_e (tok_call L C h.1 h2 fun hq => ih h.2 hq) ((sndE _).es L C h3).2 (star_cons h1)
            | _ => exact ff_ne h
        | _ => exact ff_ne h
theorem cS_assign {m : Nat} {x : Str} {p pos : Pos} {e : Expr} {ir : Ev.S} (h : cS T m S (.Assign [.Name x p] e pos) = some ir) : ∃ m' t e', cTg S (.Name x p) = some t ∧ cE T m' S e = some e' ∧ notComp e = true ∧ ir = .set t e' := by
  cases m with
  | zero => exact none_ne h
  | succ m =>
    have h : (match cTg S (.Name x p), cE T m S e with | some t, some e' => if notComp e then some (Ev.S.set t e') else none | _, _ => none) = some ir := h
    cases h1 : cTg S (.Name x p) with
    | none => rw [h1] at h; cases h
    | some t =>
      cases h2 : cE T m S e with
      | none => rw [h1, h2] at h; cases h
      | some e' =>
        rw [h1, h2] at h
        have h : (if notComp e then some (Ev.S.set t e') else none) = some ir := h
        by_cases hn : notComp e = true
        · rw [if_pos hn] at h
          cases h
          exact ⟨m, t, e', rfl, h2, hn, rfl⟩
        · rw [if_neg hn] at h; cases h
theorem tokS_ok {st : Stmt} (h : tokS T st = true) : ∃ y p x p3 es p2 pos, st = .Assign [.Name y p] (.Call (.Name x p3) es [] p2) pos ∧ ((T.fn x).isSome && !strIs x "isinstance" && tokA T 30 es) = true := by
  cases st with
  | Assign tgs e pos =>
    cases tgs with
    | nil => exact ff_ne h
    | cons tg tgs =>
      cases tgs with
      | cons => exact ff_ne h
      | nil =>
        cases tg with
        | Name y p =>
          cases e with
          | Call f es kws p2 =>
            cases kws with
            | cons => exact ff_ne h
            | nil =>
              cases f with
              | Name x p3 => exact ⟨y, p, x, p3, es, p2, pos, rfl, h⟩
              | _ => exact ff_ne h
          | _ => exact ff_ne h
        | _ => exact ff_ne h
  | _ => exact ff_ne h
theorem tok_ss (L : LkX T P X xc n) (C : XS X S R n) {m : Nat} {st : Stmt} {rest : List Stmt} {ir : Ev.S} (ht : tokS T st = true) (h : cSs T m S (st :: rest) = some ir) : QSs0 X xc R (st :: rest) (exec P (callM P.wh (runN P n)) ir) := by
  cases m with
  | zero => exact none_ne h
  | succ m =>
    have h : (match cS T m S st, cSs T m S rest with | some a, some r => some (Ev.S.seq a r) | _, _ => none) = some ir := h
    split at h
    · rename_i e1 e2
      cases h
      have h2 := (sndS (T := T) (P := P) (xc := xc) (n := n) m).ss L C e2
      rw [exec_seq]
      obtain ⟨y, p, x, p3, es, p2, pos, rfl, ht2⟩ := tokS_ok ht
      rw [Bool.and_eq_true] at ht2
      have C0 := C.toXC
      obtain ⟨m', t, e', q1, q2, hn, rfl⟩ := cS_assign e1
      obtain ⟨i, rfl, k1, k2, k3⟩ := tg_name C0 q1
      rw [exec_set]
      exact qss0_set (by rw [C0.N]; exact C0.nd) k1 k2 (tok_call L C0 ht2.1 q2 fun hq => tok_es L C0 30 ht2.2 hq) (notComp_ok hn) k3 h2
    · cases h
end
section
variable {T : Pg} {P : Cfg} {prog : Program} {w : World} {K : PySem.W.Frag} {mg : Str → Option Value} {base : Heap} {xc : Nat → Addr}
theorem law_fn {n f : Nat} {fa : Addr} {name qual : Str} {params : Arguments} {st : Stmt} {rest : List Stmt} {scope : Scope} {dV kV doc pm cdv ct oc : Value} {an od : Option Addr} {osl : Array (Option Value)} {N ps : List Str} {m : Nat} {ir : Ev.S} (L : ∀ base, Lk T P prog w K mg base xc n)
    (lk : K.lookup fa = some ⟨oc, od, .func (PySem.W.fnOf name qual params (st :: rest) scope dV kV doc pm an cdv ct), osl⟩) (hcd : PySem.W.codeIn K cdv qual = true) (S : FnScope N ps scope) (hc : cSs T m ⟨N, scope.names, true, true⟩ (st :: rest) = some ir) (hf : P.fns[f]? = some ⟨ps.length, N.length, ir⟩) (ht : tokS T st = true) :
    FnOk prog w K mg base (CXd prog w) (n + 1) fa (PySem.W.fnOf name qual params (st :: rest) scope dV kV doc pm an cdv ct) ps (spF K xc (runN P (n + 1)) f ps.length) := by
  have len : ∀ vs H Q E, spF K xc (runN P (n + 1)) f ps.length vs H Q E → vs.length = ps.length := fun vs H Q E h => sp_len h
  refine fn_of lk hcd S len fun A outer s H vs Q E hr hsp => ?_
  obtain ⟨ρ, args, g, hH, r, hl, hP⟩ := hsp
  have C : XS (cxOf (CXd prog w) prog w K mg base N qual scope fa cdv A outer s H E) ⟨N, scope.names, true, true⟩ (fun _ C H' => E (.ref C) none H') n := xs_def S hr
  have q := tok_ss (X := cxOf (CXd prog w) prog w K mg base N qual scope fa cdv A outer s H E) (L base) C ht hc
  refine ⟨fun D σ H => ∃ ρ sl g, RS K xc ρ H sl σ ∧ RH K xc ρ g H ∧ PostS K xc ρ H D (fun _ C H' => E (.ref C) none H') (exec P (callM P.wh (runN P n)) ir sl g), fun pins s1 σ H1 D I ⟨ρ, sl, g, hS, hH, hP⟩ => q pins s1 σ H1 ρ sl g D I hS hH hP, ρ, _, g, rs_start (N := N) r hl, hH, ?_⟩
  have e : runN P (n + 1) f args g = match exec P (callM P.wh (runN P n)) ir (args.map some ++ List.replicate (N.length - ps.length) none) g with
        | .nx _ g1 => .ok .non g1
        | .rt w g1 => .ok w g1
        | .exc c _ g1 => .exc c g1
        | _ => .stuck := by
    show (match P.fns[f]? with | none => _ | some fn => _) = _
    rw [hf]
    show (if args.length = ps.length then _ else _) = _
    exact if_pos hl
  rw [e] at hP
  revert hP
  cases exec P (callM P.wh (runN P n)) ir (args.map some ++ List.replicate (N.length - ps.length) none) g with
  | nx sl g1 => exact fun h ρ' H' σ' x y z => h ρ' H' .non x y rw_non
  | rt v g1 => exact fun h ρ' H' σ' x y z => h ρ' H' _ x y z
  | exc c sl g1 => exact fun h ρ' H' σ' x y z => h ρ' H' x y
  | bk sl g1 => exact fun h => h.elim
  | ct sl g1 => exact fun h => h.elim
  | stuck => exact fun h => h.elim
theorem rws_ints {ρ : List Addr} {H : Hp} : ∀ ns : List Int, RWs K xc ρ H (ns.map W.int) (ns.map V.int)
  | [] => RWs.nil
  | i :: ns => RWs.cons rw_int (rws_ints ns)
theorem sp_script {run : Nat → List W → G → Res W} {f : Nat} {H : Hp} {a : Addr} {ns : List Int} {g' : G} (hO : Only H) (hS : SqL K H a (ns.map V.int)) (h : run f [.flst (ns.map .int)] [] = .ok (.bl true) g') : spF K xc run f 1 [.ref a] H (fun v _ => v = .bl true) fun _ _ _ => False := by
  refine ⟨[], [.flst (ns.map .int)], [], ⟨rfl, List.nodup_nil, fun i a o e => by simp at e⟩, RWs.cons ?_ RWs.nil, rfl, ?_⟩
  · unfold RW
    refine ⟨a, ns.map V.int, rfl, ?_, rws_ints ns⟩
    rcases hS with (hS | hS) | hS
    · rcases hO a with z | ⟨o, xs, z⟩
      · rw [z] at hS; cases hS
      · rw [z] at hS; cases hS
    · exact .inl hS
    · exact .inr hS
  · rw [h]
    intro ρ' H' b _ _ hb
    unfold RW at hb
    exact hb
end
end Ev
set_option Elab.async false
set_option linter.all false
set_option maxRecDepth 100000
namespace Ev
open PySem PySem.Spec PyProof.Rows PySem.SeqAt L2
noncomputable def defName : Stmt → Str
  | .FunctionDef n .. => n
  | _ => Str.empty
noncomputable def scN (st : Stmt) : List Str := ((defScope st).names.filter fun x => x.2 == .local || x.2 == .cell).map (·.1)
noncomputable def psOf (st : Stmt) : List Str := (defArgs st).args.map (·.arg)
noncomputable def isS (T : Pg) (st : Stmt) : Bool := (T.fnS (defName st)).isSome
noncomputable def compD (T : Pg) (st : Stmt) : Option S := cSs T 60 ⟨scN st, (defScope st).names, !isS T st, !isS T st⟩ (defBody st)
noncomputable def fnD (T : Pg) (st : Stmt) : Fn := ⟨(psOf st).length, (scN st).length, (compD T st).getD .skip⟩
noncomputable def cfgOf (T : Pg) (defs : List Stmt) (nx : Nat) (xsub : Nat → Nat → Bool) (wh : Nat → Bool) : Cfg := ⟨defs.map (fnD T), nx, xsub, wh⟩
noncomputable def fnOfL (defs : List Stmt) (x : Str) : Option Nat := (defs.map defName).findIdx? (· == x)
noncomputable def okD (T : Pg) (st : Stmt) : Bool := (compD T st).isSome && (defScope st).kind == .function && (defScope st).isCoroutine == false && (defScope st).isGenerator == false && decide (scN st).Nodup && (scN st).take (psOf st).length == psOf st
  && (psOf st).all (fun x => (defScope st).names.lookup x == some .local || (defScope st).names.lookup x == some .cell) && (defScope st).names.all (fun x => x.2 != .free)
theorem okD_sc {T : Pg} {st : Stmt} (h : okD T st = true) : (∃ ir, compD T st = some ir) ∧ FnScope (scN st) (psOf st) (defScope st) := by
  unfold okD at h
  simp only [Bool.and_eq_true] at h
  obtain ⟨⟨⟨⟨⟨⟨⟨h1, h2⟩, h3⟩, h4⟩, h5⟩, h6⟩, h7⟩, h8⟩ := h
  refine ⟨Option.isSome_iff_exists.mp h1, by simpa using h2, by simpa using h3, by simpa using h4, of_decide_eq_true h5, by simpa using h6, fun x hx => ?_, fun y hy => ?_⟩
  · have := List.all_eq_true.mp h7 x hx
    rw [Bool.or_eq_true] at this
    exact this.imp (fun z => by simpa using z) fun z => by simpa using z
  · have := List.all_eq_true.mp h8 y hy
    simpa using this
noncomputable def DefAt (K : PySem.W.Frag) (mg : Str → Option Value) (st : Stmt) : Prop := ∃ fa fd, mg (defName st) = some (.ref fa) ∧ Fun K (defName st) (defName st) st fa fd ∧ Binds K fd (psOf st) []
noncomputable def AllAt (K : PySem.W.Frag) (mg : Str → Option Value) : List Stmt → Prop
  | [] => True
  | st :: r => DefAt K mg st ∧ AllAt K mg r
theorem AllAt.get {K : PySem.W.Frag} {mg : Str → Option Value} : ∀ {l : List Stmt} {i : Nat} {st : Stmt}, AllAt K mg l → l[i]? = some st → DefAt K mg st
  | [], _, _, _, e => by simp at e
  | a :: r, 0, _, h, e => by simp at e; subst e; exact h.1
  | a :: r, i + 1, _, h, e => AllAt.get (l := r) (i := i) h.2 (by simpa using e)
theorem fn_get {defs : List Stmt} {x : Str} {f : Nat} (h : fnOfL defs x = some f) : ∃ st, defs[f]? = some st ∧ defName st = x := by
  unfold fnOfL at h
  have := find_get h
  rw [List.getElem?_map] at this
  cases e : defs[f]? with
  | none => rw [e] at this; cases this
  | some st => rw [e] at this; exact ⟨st, rfl, Option.some.inj this⟩
theorem fnSt_of {T : Pg} {defs : List Stmt} {nx : Nat} {xsub : Nat → Nat → Bool} {wh : Nat → Bool} {K : PySem.W.Frag} {i : Nat} {st : Stmt} {x qual : Str} {fa : Addr} {fd : FuncData} (hd : defs[i]? = some st) (ok : okD T st = true) (F : Fun K x qual st fa fd) (b : Binds K fd (psOf st) []) :
    FnSt (!isS T st) T (cfgOf T defs nx xsub wh) K i fa fd (psOf st) := by
  obtain ⟨⟨ir, hc⟩, S⟩ := okD_sc ok
  obtain ⟨oc, od, kV, doc, pm, an, cdv, ct, osl, rfl, lk, hcd⟩ := F.ex
  refine ⟨F.kp, b, _, _, _, _, _, _, _, _, _, _, _, _, _, _, _, scN st, 60, ir, rfl, lk, hcd, S, hc, ?_⟩
  show (defs.map (fnD T))[i]? = _
  rw [List.getElem?_map, hd]
  show some (fnD T st) = _
  unfold fnD
  rw [hc]
  rfl
theorem xsub_of {K : PySem.W.Frag} {C' C : Addr} (q : PySem.W.excIn K C' excTail "ValueError.__new__" = true) (h : PySem.W.kitOne K (.ref C') (.ref C) = some true) : XSub K C' C := by
  obtain ⟨bm, Nc, nm, qn, bs, hdct, sn, sub, ab, col, dd, k0, k1, k2, k3, k5, hC, _⟩ := exc_obj q
  refine ⟨nm, qn, Nc, bs, bm, hdct, sn, sub, ab, col, dd, k0, k1, k2, k3, k5, _, hC, ?_⟩
  unfold PySem.W.kitOne at h
  by_cases e : (Value.ref C' == Value.ref C) = true
  · have e : Value.ref C' = Value.ref C := by simpa using e
    rw [List.contains_cons, ← e]
    simp
  · rw [if_neg e] at h
    unfold PySem.W.kitCls at h
    simp only at h
    split at h
    · have h : PySem.W.mroIn K C' (.ref C) = some true := h
      unfold PySem.W.mroIn PySem.W.clsIn at h
      rw [hC] at h
      have h : some ((Value.ref C' :: bm).contains (.ref C)) = some true := h
      exact Option.some.inj h
    · cases h
theorem xok_of {P : Cfg} {K : PySem.W.Frag} {xc : Nat → Addr} (hb : ∀ c d, P.xsub c d = true → c < P.nx ∧ d < P.nx) (isi : ∀ c d, c < P.nx → d < P.nx → PySem.W.kitOne K (.ref (xc c)) (.ref (xc d)) = some (P.xsub c d))
    (val : ∀ c, c < P.nx → PySem.W.kitOne K (.ref (xc c)) (.type "ValueError") = some true) (q : ∀ c, c < P.nx → ExcQ K (xc c)) : XOk P K xc :=
  ⟨fun c d h => xsub_of (q c (hb c d h).1).cls (by rw [isi c d (hb c d h).1 (hb c d h).2, h]), isi, val, q⟩
theorem len1 {α : Type} {us : List α} (h : us.length = 1) : ∃ x0, us = [x0] := List.length_eq_one_iff.mp h
theorem len2 {α : Type} {us : List α} (h : us.length = 2) : ∃ x0 x1, us = [x0, x1] := by
  cases us with
  | nil => cases h
  | cons a us =>
    obtain ⟨x1, rfl⟩ := len1 (Nat.succ.inj h)
    exact ⟨a, x1, rfl⟩
theorem len3 {α : Type} {us : List α} (h : us.length = 3) : ∃ x0 x1 x2, us = [x0, x1, x2] := by
  cases us with
  | nil => cases h
  | cons a us =>
    obtain ⟨x1, x2, rfl⟩ := len2 (Nat.succ.inj h)
    exact ⟨a, x1, x2, rfl⟩
end Ev
set_option Elab.async false
set_option linter.all false
set_option maxRecDepth 100000
namespace Ev
open PySem
noncomputable def Out.fin : Out → Res W
  | .nx _ g1 => .ok .non g1
  | .rt w g1 => .ok w g1
  | .exc c _ g1 => .exc c g1
  | _ => .stuck
theorem runN_step {P : Cfg} {n f : Nat} {args : List W} {g : G} {fn : Fn} (h : P.fns[f]? = some fn) (hl : args.length = fn.np) :
    runN P (n + 1) f args g = (exec P (callM P.wh (runN P n)) fn.body (args.map some ++ List.replicate (fn.ns - fn.np) none) g).fin := by
  show (match P.fns[f]? with | none => _ | some fn => _) = _
  rw [h]
  show (if args.length = fn.np then _ else _) = _
  rw [if_pos hl]
  cases exec P (callM P.wh (runN P n)) fn.body (args.map some ++ List.replicate (fn.ns - fn.np) none) g <;> rfl
mutual
theorem ren_id (m : Nat → Nat) : ∀ w : W, refsW w = [] → renW m w = w
  | .non, _ => by unfold renW; rfl
  | .bl _, _ => by unfold renW; rfl
  | .int _, _ => by unfold renW; rfl
  | .str _, _ => by unfold renW; rfl
  | .tup ws, h => by unfold renW; rw [rens_id m ws (by unfold refsW at h; exact h)]
  | .ctup ws, h => by unfold renW; rw [rens_id m ws (by unfold refsW at h; exact h)]
  | .flst ws, h => by unfold renW; rw [rens_id m ws (by unfold refsW at h; exact h)]
  | .ref i, h => by unfold refsW at h; cases h
  | .exc _, _ => by unfold renW; rfl
theorem rens_id (m : Nat → Nat) : ∀ ws : List W, refsWs ws = [] → renWs m ws = ws
  | [], _ => by unfold renWs; rfl
  | w :: ws, h => by
    unfold refsWs at h
    rw [List.append_eq_nil_iff] at h
    unfold renWs
    rw [ren_id m w h.1, rens_id m ws h.2]
end
theorem refs_ints : ∀ ns : List Int, refsWs (ns.map W.int) = []
  | [] => by rfl
  | i :: ns => by
    show refsW (.int i) ++ refsWs (ns.map W.int) = []
    rw [refs_ints ns]
    rfl
theorem map_range {α : Type} [Inhabited α] (g : List α) : (List.range g.length).map (fun i => g.getD i default) = g := by
  refine List.ext_getElem (by simp) fun i h1 h2 => ?_
  simp at h1
  simp [h1]
theorem clos_nil {g : G} {done : List Nat} : clos g cFuel [] done = done := by unfold cFuel; rfl
theorem shut_nil {g : G} : shut g [] = true := by unfold shut; simp
theorem shut_one {g : G} {i : Nat} {ws : List W} (h : g[i]? = some (.lst ws)) (hw : refsWs ws = []) : shut g [i] = true := by
  unfold shut
  simp [h, refsO, hw]
theorem clos_one {g : G} {i : Nat} {ws : List W} (h : g[i]? = some (.lst ws)) (hw : refsWs ws = []) : clos g cFuel [i] [] = [i] := by
  show (if ([] : List Nat).contains i = true then _ else clos g 99999 ((g[i]?.map refsO).getD [] ++ []) ([] ++ [i])) = _
  rw [if_neg (by simp), h]
  show clos g 99999 (refsWs ws ++ []) [i] = _
  rw [hw]
  rfl
section
variable {run : Nat → List W → G → Res W} {f : Nat} {args : List W} {g g1 : G} {v : W}
theorem callR_flat (ha : refsWs args = []) (h : run f args [] = .ok v g1) (hv : refsW v = []) : callR run f args g = .ok v g := by
  unfold callR
  rw [ha, clos_nil]
  have e1 : shut g [] = true := shut_nil
  simp only [e1, List.all_nil, Bool.and_self, if_true, List.map_nil, rens_id _ args ha, h, hv, List.length_nil, List.range_zero, clos_nil, List.drop_nil, List.append_nil]
  have e2 : shut g1 [] = true := shut_nil
  simp only [e2, Bool.and_self, if_true, ren_id _ v hv, List.contains_nil, Bool.false_eq_true, if_false, map_range]
theorem callR_new {j : Nat} {ws : List W} (ha : refsWs args = []) (h : run f args [] = .ok (.ref j) g1) (h1 : g1[j]? = some (.lst ws)) (hw : refsWs ws = []) : callR run f args g = .ok (.ref g.length) (g ++ [.lst ws]) := by
  unfold callR
  rw [ha, clos_nil]
  have er : refsW (.ref j) = [j] := rfl
  simp only [shut_nil, List.all_nil, Bool.and_self, if_true, List.map_nil, rens_id _ args ha, h, er, List.length_nil, List.range_zero, clos_one h1 hw, List.drop_zero, List.nil_append, shut_one h1 hw, List.all_cons, List.contains_cons, beq_self_eq_true, Bool.true_or, List.contains_nil, Bool.false_eq_true, if_false, map_range, List.map_cons]
  have e5 : g1.getD j default = .lst ws := by rw [List.getD_eq_getElem?_getD, h1]; rfl
  rw [e5]
  show Res.ok (W.ref (if j < 0 then _ else g.length + ([j] : List Nat).idxOf j)) (g ++ [O.lst _]) = _
  rw [rens_id _ ws hw, if_neg (by omega)]
  simp
end
end Ev
set_option Elab.async false
set_option linter.all false
set_option maxRecDepth 100000
namespace Ev
open PySem PySem.Builtin.Str
section
variable {α : Type} {h F : α → W} {evc eve : Sl → G → Res W} {w : W} {g : G} {xs : List W} {k L : Nat}
theorem lc_step (hc : ∀ τ, evc τ g = .ok (.bl true) g) (x : W) (τ : Sl) : lcStep (.one k) evc eve x τ g = (eve (τ.set k (some x)) g).bind fun v g5 => .ok (τ.set k (some x), [v]) g5 := by
  unfold lcStep
  show (evc (τ.set k (some x)) g).bind _ = _
  rw [hc]
  rfl
theorem nxt_val {i : Nat} (hx : items g w = some xs) : (It.val w).nxt i g = some xs[i]? := by
  show (items g w).map _ = _
  rw [hx]
  rfl
theorem lc_ok (hx : items g w = some xs) (hc : ∀ τ, evc τ g = .ok (.bl true) g) : ∀ (ys : List α) (m j : Nat) (τ : Sl), xs.drop j = ys.map h → ys.length < m → τ.length = L → (∀ y ∈ ys, ∀ τ : Sl, τ.length = L → eve (τ.set k (some (h y))) g = .ok (F y) g) →
    lcLoop (It.val w).nxt (lcStep (.one k) evc eve) m j τ g = .ok (ys.map F) g
  | [], 0, _, _, _, hm, _, _ => by simp at hm
  | [], m + 1, j, τ, hd, _, _, _ => by
    have : xs[j]? = none := by
      rw [List.map_nil, List.drop_eq_nil_iff] at hd
      exact List.getElem?_eq_none hd
    unfold lcLoop
    rw [nxt_val hx, this]
    rfl
  | y :: ys, 0, _, _, _, hm, _, _ => by simp at hm
  | y :: ys, m + 1, j, τ, hd, hm, hl, he => by
    have hj : xs[j]? = some (h y) := by
      have := congrArg (fun l => l[0]?) hd
      simpa using this
    have hd' : xs.drop (j + 1) = ys.map h := by
      have := congrArg (fun l => l.drop 1) hd
      simpa [List.drop_drop, Nat.add_comm] using this
    unfold lcLoop
    rw [nxt_val hx, hj]
    show ((lcStep (.one k) evc eve (h y) τ g).bind _) = _
    rw [lc_step hc, he y (by simp) τ hl]
    show ((lcLoop _ _ m (j + 1) (τ.set k (some (h y))) g).bind _) = _
    rw [lc_ok hx hc ys m (j + 1) _ hd' (by simpa using hm) (by simpa using hl) fun y' hy => he y' (by simp [hy])]
    rfl
end
end Ev
set_option Elab.async false
set_option linter.all false
set_option maxRecDepth 100000
namespace Ev
open PySem PySem.Builtin.Str
section
variable {P : Cfg} {cl : Nat → List W → G → Res W} {α : Type} {h F : α → W} {e it : E} {sl : Sl} {g g1 : G} {w : W} {ys : List α} {k : Nat} {fr : List (Option Nat)}
theorem ev_lc_ok (hit : evI P cl it sl g = .ok (.val w) g1) (hx : items g1 w = some (ys.map h)) (hl : ys.length < sizeLine) (he : ∀ y ∈ ys, ∀ τ : Sl, τ.length = fr.length → ev P cl e (τ.set k (some (h y))) g1 = .ok (F y) g1) :
    ev P cl (.lc fr (.one k) it (.cst (.bl true)) e) sl g = .ok (.ref g1.length) (g1 ++ [.lst (ys.map F)]) := by
  rw [ev_lc, hit]
  show lcGo _ _ _ _ _ _ _ = _
  unfold lcGo
  have hm : (It.val w).many g1 = some ys.length := by
    show (items g1 w).map _ = _
    rw [hx]
    simp
  rw [hm]
  show (if ys.length < sizeLine then _ else _) = _
  rw [if_pos hl, lc_ok (h := h) (F := F) (L := fr.length) hx (fun τ => by rw [ev_cst]) ys (ys.length + 1) 0 (frW fr sl) (by simp) (by omega) (by simp [frW]) he]
  rfl
theorem ev_call1 {f np : Nat} {a : E} {x : W} {r : Res W} (hp : (P.fns[f]?.map (·.np)).getD 1000 = 1) (ha : ev P cl a sl g = .ok x g1) (hr : cl f [x] g1 = r) : ev P cl (.call f (.cons a .nil)) sl g = r := by
  rw [ev_call, hp]
  show ((evs P cl (.cons a .nil) sl g).bind _) = _
  rw [evs_cons]
  show (((ev P cl a sl g).bind _).bind _) = _
  rw [ha]
  exact hr
theorem get_set {τ : Sl} {x : W} (h : k < τ.length) : ev P cl (.var k) (τ.set k (some x)) g = .ok x g := by
  rw [ev_var]
  show (match (τ.set k (some x))[k]? with | some (some w) => Res.ok w g | _ => .stuck) = _
  rw [List.getElem?_set_self h]
theorem exec_ret_ok {x : W} {s : S} {e : E} (h : ev P cl e sl g = .ok x g1) : exec P cl (.seq (.ret e) s) sl g = .rt x g1 := by
  rw [exec_seq, exec_ret]
  show (match (ev P cl e sl g).out sl fun w g1 => Out.rt w g1 with | .nx sl1 g1 => _ | o => o) = _
  rw [h]
  rfl
theorem exec_nx {a b : S} {sl1 : Sl} (h : exec P cl a sl g = .nx sl1 g1) : exec P cl (.seq a b) sl g = exec P cl b sl1 g1 := by
  rw [exec_seq]
  show (match exec P cl a sl g with | .nx sl1 g1 => _ | o => o) = _
  rw [h]
theorem exec_set1 {i : Nat} {x : W} {b : S} {e : E} (h : ev P cl e sl g = .ok x g1) : exec P cl (.seq (.set (.one i) e) b) sl g = exec P cl b (sl.set i (some x)) g1 := by
  refine exec_nx ?_
  rw [exec_set]
  show (ev P cl e sl g).out sl _ = _
  rw [h]
  rfl
theorem exec_drop1 {x : W} {b : S} {e : E} (h : ev P cl e sl g = .ok x g1) : exec P cl (.seq (.drop e) b) sl g = exec P cl b sl g1 := by
  refine exec_nx ?_
  rw [exec_drop]
  show (ev P cl e sl g).out sl _ = _
  rw [h]
  rfl
theorem exec_if {x : W} {k : Bool} {a c b : S} {e : E} (h : ev P cl e sl g = .ok x g1) (hk : truW g1 x = some k) : exec P cl (.seq (.ite e a b) c) sl g = seqF (if k then exec P cl a else exec P cl b) (exec P cl c) sl g1 := by
  rw [exec_seq, exec_ite]
  unfold seqF
  show (match (evT (ev P cl e) sl g).out sl _ with | .nx sl1 g1 => _ | o => o) = _
  unfold evT
  rw [h]
  show (match ((toB g1 x).out sl _) with | .nx sl1 g1 => _ | o => o) = _
  unfold toB
  rw [hk]
  show (match (if k then exec P cl a sl g1 else exec P cl b sl g1) with | .nx sl1 g1 => _ | o => o) = _
  cases k <;> rfl
theorem exec_ifT {a c b : S} {e : E} (h : ev P cl e sl g = .ok (.bl true) g1) : exec P cl (.seq (.ite e a b) c) sl g = seqF (exec P cl a) (exec P cl c) sl g1 := exec_if (k := true) h rfl
theorem exec_ifF {a c : S} {e : E} (h : ev P cl e sl g = .ok (.bl false) g1) : exec P cl (.seq (.ite e a .skip) c) sl g = exec P cl c sl g1 := exec_if (k := false) h rfl
theorem seqF_rt {f1 f2 : Sl → G → Out} {x : W} (h : f1 sl g = .rt x g1) : seqF f1 f2 sl g = .rt x g1 := by unfold seqF; rw [h]
end
end Ev
set_option Elab.async false
set_option linter.all false
set_option maxRecDepth 100000
namespace Ev
open PySem L2 PySem.Builtin.Str
theorem ev_op2_ok {P : Cfg} {cl : Nat → List W → G → Res W} {sl : Sl} {g g1 g2 : G} {a b : E} {x y : W} {r : Res W} {o : O2} (ha : ev P cl a sl g = .ok x g1) (hb : ev P cl b sl g1 = .ok y g2) (ho : op2W o x y g2 = r) : ev P cl (.op2 o a b) sl g = r := by
  rw [ev_op2]
  show ((ev P cl a sl g).bind _) = _
  rw [ha]
  show ((ev P cl b sl g1).bind _) = _
  rw [hb]
  exact ho
theorem ev_call3 {P : Cfg} {cl : Nat → List W → G → Res W} {sl : Sl} {f : Nat} {a b c : E} {x y z : W} {r : Res W} {g g1 g2 g3 : G} (hp : (P.fns[f]?.map (·.np)).getD 1000 = 3) (ha : ev P cl a sl g = .ok x g1) (hb : ev P cl b sl g1 = .ok y g2) (hc : ev P cl c sl g2 = .ok z g3) (hr : cl f [x, y, z] g3 = r) : ev P cl (.call f (.cons a (.cons b (.cons c .nil)))) sl g = r := by
  rw [ev_call, hp, evs_cons, evs_cons, evs_cons]
  show (((ev P cl a sl g).bind _).bind _) = _
  rw [ha]
  show ((((ev P cl b sl g1).bind _).bind _).bind _) = _
  rw [hb]
  show (((((ev P cl c sl g2).bind _).bind _).bind _).bind _) = _
  rw [hc]
  exact hr
theorem for_inv {nxt : Nat → G → Option (Option W)} {step : W → Sl → G → Out} {N : Nat} (Inv : Nat → Sl → G → Prop)
    (hs : ∀ j s g, j < N → Inv j s g → ∃ x, nxt j g = some (some x) ∧ ∃ s' g', step x s g = .nx s' g' ∧ Inv (j + 1) s' g') (he : ∀ s g, Inv N s g → nxt N g = some none) :
    ∀ k j s g, j + k = N → Inv j s g → ∃ s' g', forLoop nxt step (k + 1) j s g = .nx s' g' ∧ Inv N s' g'
  | 0, j, s, g, e, h => by
    have e : j = N := by omega
    subst e
    refine ⟨s, g, ?_, h⟩
    unfold forLoop
    rw [he s g h]
  | k + 1, j, s, g, e, h => by
    obtain ⟨x, hx, s', g', hst, hI⟩ := hs j s g (by omega) h
    obtain ⟨s2, g2, h2, hI2⟩ := for_inv Inv hs he k (j + 1) s' g' (by omega) hI
    refine ⟨s2, g2, ?_, hI2⟩
    unfold forLoop
    rw [hx]
    show (match step x s g with | .nx s1 g1 => _ | .ct s1 g1 => _ | .bk s1 g1 => _ | .rt w g1 => _ | .exc c s1 g1 => _ | .stuck => _) = _
    rw [hst]
    exact h2
theorem exec_loop1 {P : Cfg} {cl : Nat → List W → G → Res W} {t : Tg} {it : E} {b c : S} {sl s' : Sl} {g g1 g' : G} {J : It} {n : Nat} (hit : evI P cl it sl g = .ok J g1) (hm : J.many g1 = some n)
    (hf : forLoop J.nxt (fun x s g2 => match setT t x g2 s with | none => .stuck | some s1 => exec P cl b s1 g2) (n + 1) 0 sl g1 = .nx s' g') : exec P cl (.seq (.loop t it b) c) sl g = exec P cl c s' g' := by
  refine exec_nx ?_
  rw [exec_loop]
  show (evI P cl it sl g).out sl _ = _
  rw [hit]
  show (match J.many g1 with | some n => _ | none => _) = _
  rw [hm]
  exact hf
theorem mod_ok {i j : Int} {g : G} (h : 0 < j) : op2W .mod (.int i) (.int j) g = .ok (.int (i % j)) g := if_pos h
theorem fdiv_ok {i j : Int} {g : G} (h : 0 < j ∧ j < 1073741824) : op2W .fdiv (.int i) (.int j) g = .ok (.int (i / j)) g := if_pos h
theorem mul_okR {i j : Int} {g : G} (h : -big < j ∧ j < big) : op2W .mul (.int i) (.int j) g = .ok (.int (i * j)) g := if_pos (.inr h)
theorem mul_okL {i j : Int} {g : G} (h : -big < i ∧ i < big) : op2W .mul (.int i) (.int j) g = .ok (.int (i * j)) g := if_pos (.inl h)
section
variable {P : Cfg} {cl : Nat → List W → G → Res W} {sl : Sl} {g g1 g2 g3 : G} {a b c : E} {x y z : W} {r : Res W}
theorem ev_blt1 {k : Bl} (ha : ev P cl a sl g = .ok x g1) (hr : bltW k [x] g1 = r) : ev P cl (.blt k (.cons a .nil)) sl g = r := by
  rw [ev_blt, evs_cons]
  show (((ev P cl a sl g).bind _).bind _) = _
  rw [ha]
  exact hr
theorem ev_ix_ok (ha : ev P cl a sl g = .ok x g1) (hb : ev P cl b sl g1 = .ok y g2) (h : ixW g2 x y = some z) : ev P cl (.ix a b) sl g = .ok z g2 := by
  rw [ev_ix]
  show ((ev P cl a sl g).bind _) = _
  rw [ha]
  show ((ev P cl b sl g1).bind _) = _
  rw [hb]
  show Res.of (ixW g2 x y) g2 = _
  rw [h]
  rfl
theorem evs3 (ha : ev P cl a sl g = .ok x g1) (hb : ev P cl b sl g1 = .ok y g2) (hc : ev P cl c sl g2 = .ok z g3) : evs P cl (.cons a (.cons b (.cons c .nil))) sl g = .ok [x, y, z] g3 := by
  rw [evs_cons, evs_cons, evs_cons]
  show ((ev P cl a sl g).bind _) = _
  rw [ha]
  show (((ev P cl b sl g1).bind _).bind _) = _
  rw [hb]
  show ((((ev P cl c sl g2).bind _).bind _).bind _) = _
  rw [hc]
  rfl
theorem ev_lst_ok {as : E} {ws : List W} (h : evs P cl as sl g = .ok ws g1) (hl : ws.length ≤ sizeLine) : ev P cl (.lst as) sl g = .ok (.ref g1.length) (g1 ++ [.lst ws]) := by
  rw [ev_lst]
  show ((evs P cl as sl g).bind _) = _
  rw [h]
  exact if_pos hl
end
theorem atI_at {α : Type} {l : List α} {i : Nat} {x : α} (h : l[i]? = some x) : atI l (i : Int) = some x := by
  have hi := (List.getElem?_eq_some_iff.mp h).1
  unfold atI ixN
  rw [if_pos (by omega), if_pos (by omega)]
  show l[((i : Int)).toNat]? = _
  rw [Int.toNat_natCast]
  exact h
section
variable {P : Cfg} {cl : Nat → List W → G → Res W} {sl : Sl} {g g1 g2 g3 : G} {a b c : E} {x y z : W} {r : Res W}
theorem ev_call2 {f : Nat} (hp : (P.fns[f]?.map (·.np)).getD 1000 = 2) (ha : ev P cl a sl g = .ok x g1) (hb : ev P cl b sl g1 = .ok y g2) (hr : cl f [x, y] g2 = r) : ev P cl (.call f (.cons a (.cons b .nil))) sl g = r := by
  rw [ev_call, hp, evs_cons, evs_cons]
  show (((ev P cl a sl g).bind _).bind _) = _
  rw [ha]
  show ((((ev P cl b sl g1).bind _).bind _).bind _) = _
  rw [hb]
  exact hr
theorem ev_app {i : Nat} {ws : List W} (ho : ev P cl a sl g = .ok (.ref i) g1) (h0 : ∃ vs, g1[i]? = some (.lst vs)) (hb : ev P cl b sl g1 = .ok y g2) (hg : g2[i]? = some (.lst ws)) (hl : ws.length < sizeLine) : ev P cl (.mth .append a (.cons b .nil)) sl g = .ok .non (g2.set i (.lst (ws ++ [y]))) := by
  obtain ⟨vs, h0⟩ := h0
  rw [ev_mth]
  show ((ev P cl a sl g).bind _) = _
  rw [ho]
  show (if mtT .append (.ref i) g1 then _ else _) = _
  have hm : mtT .append (.ref i) g1 = true := by
    show (match g1[i]? with | some (.lst _) => true | none => false) = true
    rw [h0]
  rw [if_pos hm, evs_cons]
  show (((ev P cl b sl g1).bind _).bind _) = _
  rw [hb]
  show (match g2[i]? with | some (.lst ws) => if ws.length < sizeLine then Res.ok W.non (g2.set i (.lst (ws ++ [y]))) else .stuck | none => .stuck) = _
  rw [hg]
  exact if_pos hl
theorem evI_rng1 {j : Int} (ha : ev P cl a sl g = .ok (.int j) g1) (hj : -4611686018427387904 ≤ j ∧ j < 4611686018427387904) : evI P cl (.rng (.cons a .nil)) sl g = .ok (.rng 0 j.toNat) g1 := by
  show ((evs P cl (.cons a .nil) sl g).bind _) = _
  rw [evs_cons]
  show (((ev P cl a sl g).bind _).bind _) = _
  rw [ha]
  show (match rngI [.int j] with | some J => Res.ok J g1 | none => .stuck) = _
  have : rngI [.int j] = some (.rng 0 j.toNat) := if_pos hj
  rw [this]
end
theorem tup_ok {P : Cfg} {cl : Nat → List W → G → Res W} {sl : Sl} {g g1 g2 : G} {a b : E} {x y : W} (ha : ev P cl a sl g = .ok x g1) (hb : ev P cl b sl g1 = .ok y g2) : ev P cl (.tup (.cons a (.cons b .nil))) sl g = .ok (.tup [x, y]) g2 := by
  rw [ev_tup, evs_cons, evs_cons]
  show (((ev P cl a sl g).bind _).bind _) = _
  rw [ha]
  show ((((ev P cl b sl g1).bind _).bind _).bind _) = _
  rw [hb]
  show (if 2 ≤ sizeLine then Res.ok (W.tup [x, y]) g2 else .stuck) = _
  exact if_pos (by decide)
theorem or_ff {P : Cfg} {cl : Nat → List W → G → Res W} {sl : Sl} {g g1 : G} {a b : E} {r : Res W} (ha : ev P cl a sl g = .ok (.bl false) g1) (hb : ev P cl b sl g1 = r) : ev P cl (.or a b) sl g = r := by
  rw [ev_or]
  show ((ev P cl a sl g).bind _) = _
  rw [ha]
  exact hb
theorem or_tt {P : Cfg} {cl : Nat → List W → G → Res W} {sl : Sl} {g g1 : G} {a b : E} (ha : ev P cl a sl g = .ok (.bl true) g1) : ev P cl (.or a b) sl g = .ok (.bl true) g1 := by
  rw [ev_or]
  show ((ev P cl a sl g).bind _) = _
  rw [ha]
  rfl
theorem and_tt {P : Cfg} {cl : Nat → List W → G → Res W} {sl : Sl} {g g1 : G} {a b : E} {r : Res W} (ha : ev P cl a sl g = .ok (.bl true) g1) (hb : ev P cl b sl g1 = r) : ev P cl (.and a b) sl g = r := by
  rw [ev_and]
  show ((ev P cl a sl g).bind _) = _
  rw [ha]
  exact hb
theorem and_ff {P : Cfg} {cl : Nat → List W → G → Res W} {sl : Sl} {g g1 : G} {a b : E} (ha : ev P cl a sl g = .ok (.bl false) g1) : ev P cl (.and a b) sl g = .ok (.bl false) g1 := by
  rw [ev_and]
  show ((ev P cl a sl g).bind _) = _
  rw [ha]
  rfl
theorem ev_not_ok {P : Cfg} {cl : Nat → List W → G → Res W} {sl : Sl} {g g1 : G} {a : E} {b : Bool} (ha : ev P cl a sl g = .ok (.bl b) g1) : ev P cl (.not a) sl g = .ok (.bl (!b)) g1 := by
  rw [ev_not]
  show ((ev P cl a sl g).bind _) = _
  rw [ha]
  rfl
theorem ev_isi_ok {P : Cfg} {cl : Nat → List W → G → Res W} {sl : Sl} {g g1 : G} {a : E} {t : Ty} {x : W} {b : Bool} (ha : ev P cl a sl g = .ok x g1) (h : isiW P g1 x t = some b) : ev P cl (.isi a t) sl g = .ok (.bl b) g1 := by
  rw [ev_isi]
  show ((ev P cl a sl g).bind _) = _
  rw [ha]
  show Res.of ((isiW P g1 x t).map .bl) g1 = _
  rw [h]
  rfl
theorem ev_tup1 {P : Cfg} {cl : Nat → List W → G → Res W} {sl : Sl} {g g1 : G} {a : E} {x : W} (ha : ev P cl a sl g = .ok x g1) : ev P cl (.tup (.cons a .nil)) sl g = .ok (.tup [x]) g1 := by
  rw [ev_tup, evs_cons]
  show (((ev P cl a sl g).bind _).bind _) = _
  rw [ha]
  show (if 1 ≤ sizeLine then Res.ok (W.tup [x]) g1 else .stuck) = _
  exact if_pos (by decide)
theorem ev_tup3 {P : Cfg} {cl : Nat → List W → G → Res W} {sl : Sl} {g g1 g2 g3 : G} {a b c : E} {x y z : W} (ha : ev P cl a sl g = .ok x g1) (hb : ev P cl b sl g1 = .ok y g2) (hc : ev P cl c sl g2 = .ok z g3) : ev P cl (.tup (.cons a (.cons b (.cons c .nil)))) sl g = .ok (.tup [x, y, z]) g3 := by
  rw [ev_tup]
  show ((evs P cl _ sl g).bind _) = _
  rw [evs3 ha hb hc]
  show (if 3 ≤ sizeLine then Res.ok (W.tup [x, y, z]) g3 else .stuck) = _
  exact if_pos (by decide)
theorem ev_ite_ok {P : Cfg} {cl : Nat → List W → G → Res W} {sl : Sl} {g g1 : G} {c a b : E} {k : Bool} {r : Res W} (hc : ev P cl c sl g = .ok (.bl k) g1) (h : (if k then ev P cl a sl g1 else ev P cl b sl g1) = r) : ev P cl (.ite c a b) sl g = r := by
  rw [ev_ite]
  show ((ev P cl c sl g).bind _) = _
  rw [hc]
  exact h
theorem exec_put1 {P : Cfg} {cl : Nat → List W → G → Res W} {sl : Sl} {g g1 g2 g3 g4 : G} {a i e : E} {b : S} {w x y : W} (he : ev P cl e sl g = .ok w g1) (ha : ev P cl a sl g1 = .ok x g2) (hi : ev P cl i sl g2 = .ok y g3) (h : putW x y w g3 = some g4) : exec P cl (.seq (.put a i e) b) sl g = exec P cl b sl g4 := by
  refine exec_nx ?_
  rw [exec_put]
  unfold putF
  show (ev P cl e sl g).out sl _ = _
  rw [he]
  show (ev P cl a sl g1).out sl _ = _
  rw [ha]
  show (ev P cl i sl g2).out sl _ = _
  rw [hi]
  show (match putW x y w g3 with | some g4 => Out.nx sl g4 | none => .stuck) = _
  rw [h]
theorem lc_inv {w : W} {t : Tg} {evc eve : Sl → G → Res W} {xs : List W} (Inv : Nat → List W → Sl → G → Prop) (hx : ∀ j acc τ g, Inv j acc τ g → items g w = some xs)
    (hs : ∀ j x acc τ g, xs[j]? = some x → Inv j acc τ g → ∃ τ' out g', lcStep t evc eve x τ g = .ok (τ', out) g' ∧ Inv (j + 1) (acc ++ out) τ' g') :
    ∀ k j acc τ g, j + k = xs.length → Inv j acc τ g → ∃ r τ' g', lcLoop (It.val w).nxt (lcStep t evc eve) (k + 1) j τ g = .ok r g' ∧ Inv xs.length (acc ++ r) τ' g'
  | 0, j, acc, τ, g, e, h => by
    refine ⟨[], τ, g, ?_, ?_⟩
    · unfold lcLoop
      rw [nxt_val (hx j acc τ g h), List.getElem?_eq_none (by omega)]
    · have : j = xs.length := by omega
      rw [List.append_nil, ← this]
      exact h
  | k + 1, j, acc, τ, g, e, h => by
    have hj : xs[j]? = some xs[j] := List.getElem?_eq_getElem (by omega)
    obtain ⟨τ1, out, g1, h1, I1⟩ := hs j _ acc τ g hj h
    obtain ⟨r, τ2, g2, h2, I2⟩ := lc_inv Inv hx hs k (j + 1) (acc ++ out) τ1 g1 (by omega) I1
    refine ⟨out ++ r, τ2, g2, ?_, by rw [← List.append_assoc]; exact I2⟩
    unfold lcLoop
    rw [nxt_val (hx j acc τ g h), hj]
    show ((lcStep t evc eve xs[j] τ g).bind _) = _
    rw [h1]
    show ((lcLoop _ _ (k + 1) (j + 1) τ1 g1).bind _) = _
    rw [h2]
    rfl
theorem ev_lc_inv {P : Cfg} {cl : Nat → List W → G → Res W} {fr : List (Option Nat)} {t : Tg} {it c e : E} {sl : Sl} {g g1 : G} {w : W} {xs : List W} (Inv : Nat → List W → Sl → G → Prop) (hit : evI P cl it sl g = .ok (.val w) g1) (hl : xs.length < sizeLine)
    (h0 : Inv 0 [] (frW fr sl) g1) (hx : ∀ j acc τ g, Inv j acc τ g → items g w = some xs)
    (hs : ∀ j x acc τ g, xs[j]? = some x → Inv j acc τ g → ∃ τ' out g', lcStep t (ev P cl c) (ev P cl e) x τ g = .ok (τ', out) g' ∧ Inv (j + 1) (acc ++ out) τ' g') :
    ∃ r τ' g', ev P cl (.lc fr t it c e) sl g = .ok (.ref g'.length) (g' ++ [.lst r]) ∧ Inv xs.length r τ' g' := by
  obtain ⟨r, τ', g', e1, h1⟩ := lc_inv (t := t) (evc := ev P cl c) (eve := ev P cl e) Inv hx hs xs.length 0 [] (frW fr sl) g1 (by omega) h0
  refine ⟨r, τ', g', ?_, h1⟩
  rw [ev_lc, hit]
  show lcGo _ _ _ _ _ _ _ = _
  unfold lcGo
  have hm : (It.val w).many g1 = some xs.length := by
    show (items g1 w).map _ = _
    rw [hx _ _ _ _ h0]
    rfl
  rw [hm]
  show (if xs.length < sizeLine then _ else _) = _
  rw [if_pos hl, e1]
  rfl
end Ev
set_option Elab.async false
set_option linter.all false
set_option maxRecDepth 100000
namespace K30
open PySem L2 Ev
noncomputable def top (i : Nat) : Stmt := PySem.Challenge.pw_pieceyard_k30_depths.main.body.getD i (.Pass ⟨0, 0, 0, 0⟩)
noncomputable def defs : List Stmt := [top 15, top 16, top 20, top 21, top 22, top 23, top 24, top 25, top 26, top 28, top 29, top 30, top 31, top 32, top 33, top 34, top 35, top 36, top 37, top 38]
noncomputable def inS (x : Str) : Bool := strIs x "_law_which"
noncomputable def wh (f : Nat) : Bool := f == 1 || f == 2 || f == 3 || f == 4 || f == 5 || f == 8 || f == 11 || f == 13 || f == 14 || f == 15 || f == 17 || f == 18
noncomputable def pg : Pg where
  fn := fun x => if inS x then none else fnOfL defs x
  fnS := fun x => if inS x then fnOfL defs x else none
  xcl := fun x => if strIs x "YardError" then some 0 else if strIs x "BadYard" then some 1 else if strIs x "BadPosition" then some 2 else if strIs x "NoMove" then some 3 else if strIs x "Ended" then some 4 else if strIs x "BadSide" then some 5 else if strIs x "BadPaper" then some 6 else if strIs x "TooMany" then some 7 else if strIs x "NoWin" then some 8 else if strIs x "NoProblem" then some 9 else if strIs x "BadText" then some 10 else if strIs x "Nothing" then some 11 else if strIs x "NoKin" then some 12 else none
  cst := fun x => if strIs x "WON" then some (.ctup [.str "won"]) else if strIs x "NOT_WON" then some (.ctup [.str "not"]) else none
  bl := ["len", "all", "int", "list", "range", "isinstance", "bool", "tuple", "ValueError", "any", "max"]
noncomputable def xs (c d : Nat) : Bool := decide (c < 13 ∧ d < 13) && ((c == 0 && d == 0) || (c == 1 && d == 0) || (c == 1 && d == 1) || (c == 2 && d == 0) || (c == 2 && d == 2) || (c == 3 && d == 0) || (c == 3 && d == 3) || (c == 4 && d == 0) || (c == 4 && d == 4) || (c == 5 && d == 0) || (c == 5 && d == 5) || (c == 6 && d == 0) || (c == 6 && d == 6) || (c == 7 && d == 0) || (c == 7 && d == 7) || (c == 8 && d == 0) || (c == 8 && d == 8) || (c == 9 && d == 0) || (c == 9 && d == 9) || (c == 10 && d == 0) || (c == 10 && d == 10) || (c == 11 && d == 0) || (c == 11 && d == 11) || (c == 12 && d == 0) || (c == 12 && d == 12))
noncomputable abbrev cfg : Cfg := cfgOf pg defs 13 xs wh
theorem okAll : (defs.all (okD pg)) = true := by decide +kernel
theorem ok_at {i : Nat} {st : Stmt} (h : defs[i]? = some st) : okD pg st = true := List.all_eq_true.mp okAll st (List.mem_of_getElem? h)
theorem ps0 : psOf (top 15) = (["value"] : List Str) := by decide +kernel
theorem nm0 : defName (top 15) = ("is_number" : Str) := by decide +kernel
theorem ps1 : psOf (top 16) = (["value", "length"] : List Str) := by decide +kernel
theorem nm1 : defName (top 16) = ("is_tuple" : Str) := by decide +kernel
theorem ps2 : psOf (top 20) = (["tree"] : List Str) := by decide +kernel
theorem nm2 : defName (top 20) = ("depth" : Str) := by decide +kernel
theorem ps3 : psOf (top 21) = (["tree", "leaves"] : List Str) := by decide +kernel
theorem nm3 : defName (top 21) = ("check_tree" : Str) := by decide +kernel
theorem ps4 : psOf (top 22) = (["tree", "leaf"] : List Str) := by decide +kernel
theorem nm4 : defName (top 22) = ("is_tree" : Str) := by decide +kernel
theorem ps5 : psOf (top 23) = (["row", "leaf"] : List Str) := by decide +kernel
theorem nm5 : defName (top 23) = ("is_row" : Str) := by decide +kernel
theorem ps6 : psOf (top 24) = (["move"] : List Str) := by decide +kernel
theorem nm6 : defName (top 24) = ("is_pair_of_cells" : Str) := by decide +kernel
theorem ps7 : psOf (top 25) = (["cell"] : List Str) := by decide +kernel
theorem nm7 : defName (top 25) = ("is_pair_of_numbers" : Str) := by decide +kernel
theorem ps8 : psOf (top 26) = (["tree"] : List Str) := by decide +kernel
theorem nm8 : defName (top 26) = ("depth_of" : Str) := by decide +kernel
theorem ps9 : psOf (top 28) = (["script", "k"] : List Str) := by decide +kernel
theorem nm9 : defName (top 28) = ("_law_cell" : Str) := by decide +kernel
theorem ps10 : psOf (top 29) = (["script", "k"] : List Str) := by decide +kernel
theorem nm10 : defName (top 29) = ("_law_begin" : Str) := by decide +kernel
theorem ps11 : psOf (top 30) = (["state", "many"] : List Str) := by decide +kernel
theorem nm11 : defName (top 30) = ("_law_take" : Str) := by decide +kernel
theorem ps12 : psOf (top 31) = (["found"] : List Str) := by decide +kernel
theorem nm12 : defName (top 31) = ("_law_whole" : Str) := by decide +kernel
theorem ps13 : psOf (top 32) = (["tree", "leaf"] : List Str) := by decide +kernel
theorem nm13 : defName (top 32) = ("_law_is_tree" : Str) := by decide +kernel
theorem ps14 : psOf (top 33) = (["tree"] : List Str) := by decide +kernel
theorem nm14 : defName (top 33) = ("_law_copy" : Str) := by decide +kernel
theorem ps15 : psOf (top 34) = (["tree", "state", "parts"] : List Str) := by decide +kernel
theorem nm15 : defName (top 34) = ("_law_bent" : Str) := by decide +kernel
theorem ps16 : psOf (top 35) = (["e"] : List Str) := by decide +kernel
theorem nm16 : defName (top 35) = ("_law_which" : Str) := by decide +kernel
theorem ps17 : psOf (top 36) = (["state", "deep", "leaf"] : List Str) := by decide +kernel
theorem nm17 : defName (top 36) = ("_law_drawn" : Str) := by decide +kernel
theorem ps18 : psOf (top 37) = (["tree"] : List Str) := by decide +kernel
theorem nm18 : defName (top 37) = ("_law_deep" : Str) := by decide +kernel
theorem ps19 : psOf (top 38) = (["script"] : List Str) := by decide +kernel
theorem nm19 : defName (top 38) = ("law" : Str) := by decide +kernel
theorem binds_of {K : PySem.W.Frag} {fd : FuncData} {st : Stmt} {ps : List Str} (e : psOf st = ps) (b : Binds K fd ps []) : Binds K fd (psOf st) [] := by rw [e]; exact b
theorem at0 {K : PySem.W.Frag} {h : Heap} {mg : Str → Option Value} (X : K.In h) (G : h.Ns mainGlobals mg) {f : Addr} {od an : Option Addr} {sl : Array (Option Value)} {oc kV dc pm cd ct : Value}
    (a : PySem.W.nsIn K mainGlobals "is_number" = some (some (.ref f))) (l : K.lookup f = some ⟨oc, od, .func (PySem.W.fnOf "is_number" "is_number" (defArgs (top 15)) (defBody (top 15)) (defScope (top 15)) .none kV dc pm an cd ct), sl⟩) (c : PySem.W.codeIn K cd "is_number" = true) (k : PySem.W.keepIn K (.ref f) = true) : DefAt K mg (top 15) := by
  have F := fun_mk (st := top 15) l c k
  have b := F.binds (ps := (["value"] : List Str)) fun _ _ _ _ _ _ us hl => by obtain ⟨x0, rfl⟩ := Ev.len1 hl; rfl
  refine ⟨f, _, ?_, ?_, binds_of ps0 b⟩
  · rw [nm0]; exact PySem.W.mg_of X G a
  · rw [nm0]; exact F
theorem at1 {K : PySem.W.Frag} {h : Heap} {mg : Str → Option Value} (X : K.In h) (G : h.Ns mainGlobals mg) {f : Addr} {od an : Option Addr} {sl : Array (Option Value)} {oc kV dc pm cd ct : Value}
    (a : PySem.W.nsIn K mainGlobals "is_tuple" = some (some (.ref f))) (l : K.lookup f = some ⟨oc, od, .func (PySem.W.fnOf "is_tuple" "is_tuple" (defArgs (top 16)) (defBody (top 16)) (defScope (top 16)) .none kV dc pm an cd ct), sl⟩) (c : PySem.W.codeIn K cd "is_tuple" = true) (k : PySem.W.keepIn K (.ref f) = true) : DefAt K mg (top 16) := by
  have F := fun_mk (st := top 16) l c k
  have b := F.binds (ps := (["value", "length"] : List Str)) fun _ _ _ _ _ _ us hl => by obtain ⟨x0, x1, rfl⟩ := Ev.len2 hl; rfl
  refine ⟨f, _, ?_, ?_, binds_of ps1 b⟩
  · rw [nm1]; exact PySem.W.mg_of X G a
  · rw [nm1]; exact F
theorem at2 {K : PySem.W.Frag} {h : Heap} {mg : Str → Option Value} (X : K.In h) (G : h.Ns mainGlobals mg) {f : Addr} {od an : Option Addr} {sl : Array (Option Value)} {oc kV dc pm cd ct : Value}
    (a : PySem.W.nsIn K mainGlobals "depth" = some (some (.ref f))) (l : K.lookup f = some ⟨oc, od, .func (PySem.W.fnOf "depth" "depth" (defArgs (top 20)) (defBody (top 20)) (defScope (top 20)) .none kV dc pm an cd ct), sl⟩) (c : PySem.W.codeIn K cd "depth" = true) (k : PySem.W.keepIn K (.ref f) = true) : DefAt K mg (top 20) := by
  have F := fun_mk (st := top 20) l c k
  have b := F.binds (ps := (["tree"] : List Str)) fun _ _ _ _ _ _ us hl => by obtain ⟨x0, rfl⟩ := Ev.len1 hl; rfl
  refine ⟨f, _, ?_, ?_, binds_of ps2 b⟩
  · rw [nm2]; exact PySem.W.mg_of X G a
  · rw [nm2]; exact F
theorem at3 {K : PySem.W.Frag} {h : Heap} {mg : Str → Option Value} (X : K.In h) (G : h.Ns mainGlobals mg) {f : Addr} {od an : Option Addr} {sl : Array (Option Value)} {oc kV dc pm cd ct : Value}
    (a : PySem.W.nsIn K mainGlobals "check_tree" = some (some (.ref f))) (l : K.lookup f = some ⟨oc, od, .func (PySem.W.fnOf "check_tree" "check_tree" (defArgs (top 21)) (defBody (top 21)) (defScope (top 21)) .none kV dc pm an cd ct), sl⟩) (c : PySem.W.codeIn K cd "check_tree" = true) (k : PySem.W.keepIn K (.ref f) = true) : DefAt K mg (top 21) := by
  have F := fun_mk (st := top 21) l c k
  have b := F.binds (ps := (["tree", "leaves"] : List Str)) fun _ _ _ _ _ _ us hl => by obtain ⟨x0, x1, rfl⟩ := Ev.len2 hl; rfl
  refine ⟨f, _, ?_, ?_, binds_of ps3 b⟩
  · rw [nm3]; exact PySem.W.mg_of X G a
  · rw [nm3]; exact F
theorem at4 {K : PySem.W.Frag} {h : Heap} {mg : Str → Option Value} (X : K.In h) (G : h.Ns mainGlobals mg) {f : Addr} {od an : Option Addr} {sl : Array (Option Value)} {oc kV dc pm cd ct : Value}
    (a : PySem.W.nsIn K mainGlobals "is_tree" = some (some (.ref f))) (l : K.lookup f = some ⟨oc, od, .func (PySem.W.fnOf "is_tree" "is_tree" (defArgs (top 22)) (defBody (top 22)) (defScope (top 22)) .none kV dc pm an cd ct), sl⟩) (c : PySem.W.codeIn K cd "is_tree" = true) (k : PySem.W.keepIn K (.ref f) = true) : DefAt K mg (top 22) := by
  have F := fun_mk (st := top 22) l c k
  have b := F.binds (ps := (["tree", "leaf"] : List Str)) fun _ _ _ _ _ _ us hl => by obtain ⟨x0, x1, rfl⟩ := Ev.len2 hl; rfl
  refine ⟨f, _, ?_, ?_, binds_of ps4 b⟩
  · rw [nm4]; exact PySem.W.mg_of X G a
  · rw [nm4]; exact F
theorem at5 {K : PySem.W.Frag} {h : Heap} {mg : Str → Option Value} (X : K.In h) (G : h.Ns mainGlobals mg) {f : Addr} {od an : Option Addr} {sl : Array (Option Value)} {oc kV dc pm cd ct : Value}
    (a : PySem.W.nsIn K mainGlobals "is_row" = some (some (.ref f))) (l : K.lookup f = some ⟨oc, od, .func (PySem.W.fnOf "is_row" "is_row" (defArgs (top 23)) (defBody (top 23)) (defScope (top 23)) .none kV dc pm an cd ct), sl⟩) (c : PySem.W.codeIn K cd "is_row" = true) (k : PySem.W.keepIn K (.ref f) = true) : DefAt K mg (top 23) := by
  have F := fun_mk (st := top 23) l c k
  have b := F.binds (ps := (["row", "leaf"] : List Str)) fun _ _ _ _ _ _ us hl => by obtain ⟨x0, x1, rfl⟩ := Ev.len2 hl; rfl
  refine ⟨f, _, ?_, ?_, binds_of ps5 b⟩
  · rw [nm5]; exact PySem.W.mg_of X G a
  · rw [nm5]; exact F
theorem at6 {K : PySem.W.Frag} {h : Heap} {mg : Str → Option Value} (X : K.In h) (G : h.Ns mainGlobals mg) {f : Addr} {od an : Option Addr} {sl : Array (Option Value)} {oc kV dc pm cd ct : Value}
    (a : PySem.W.nsIn K mainGlobals "is_pair_of_cells" = some (some (.ref f))) (l : K.lookup f = some ⟨oc, od, .func (PySem.W.fnOf "is_pair_of_cells" "is_pair_of_cells" (defArgs (top 24)) (defBody (top 24)) (defScope (top 24)) .none kV dc pm an cd ct), sl⟩) (c : PySem.W.codeIn K cd "is_pair_of_cells" = true) (k : PySem.W.keepIn K (.ref f) = true) : DefAt K mg (top 24) := by
  have F := fun_mk (st := top 24) l c k
  have b := F.binds (ps := (["move"] : List Str)) fun _ _ _ _ _ _ us hl => by obtain ⟨x0, rfl⟩ := Ev.len1 hl; rfl
  refine ⟨f, _, ?_, ?_, binds_of ps6 b⟩
  · rw [nm6]; exact PySem.W.mg_of X G a
  · rw [nm6]; exact F
theorem at7 {K : PySem.W.Frag} {h : Heap} {mg : Str → Option Value} (X : K.In h) (G : h.Ns mainGlobals mg) {f : Addr} {od an : Option Addr} {sl : Array (Option Value)} {oc kV dc pm cd ct : Value}
    (a : PySem.W.nsIn K mainGlobals "is_pair_of_numbers" = some (some (.ref f))) (l : K.lookup f = some ⟨oc, od, .func (PySem.W.fnOf "is_pair_of_numbers" "is_pair_of_numbers" (defArgs (top 25)) (defBody (top 25)) (defScope (top 25)) .none kV dc pm an cd ct), sl⟩) (c : PySem.W.codeIn K cd "is_pair_of_numbers" = true) (k : PySem.W.keepIn K (.ref f) = true) : DefAt K mg (top 25) := by
  have F := fun_mk (st := top 25) l c k
  have b := F.binds (ps := (["cell"] : List Str)) fun _ _ _ _ _ _ us hl => by obtain ⟨x0, rfl⟩ := Ev.len1 hl; rfl
  refine ⟨f, _, ?_, ?_, binds_of ps7 b⟩
  · rw [nm7]; exact PySem.W.mg_of X G a
  · rw [nm7]; exact F
theorem at8 {K : PySem.W.Frag} {h : Heap} {mg : Str → Option Value} (X : K.In h) (G : h.Ns mainGlobals mg) {f : Addr} {od an : Option Addr} {sl : Array (Option Value)} {oc kV dc pm cd ct : Value}
    (a : PySem.W.nsIn K mainGlobals "depth_of" = some (some (.ref f))) (l : K.lookup f = some ⟨oc, od, .func (PySem.W.fnOf "depth_of" "depth_of" (defArgs (top 26)) (defBody (top 26)) (defScope (top 26)) .none kV dc pm an cd ct), sl⟩) (c : PySem.W.codeIn K cd "depth_of" = true) (k : PySem.W.keepIn K (.ref f) = true) : DefAt K mg (top 26) := by
  have F := fun_mk (st := top 26) l c k
  have b := F.binds (ps := (["tree"] : List Str)) fun _ _ _ _ _ _ us hl => by obtain ⟨x0, rfl⟩ := Ev.len1 hl; rfl
  refine ⟨f, _, ?_, ?_, binds_of ps8 b⟩
  · rw [nm8]; exact PySem.W.mg_of X G a
  · rw [nm8]; exact F
theorem at9 {K : PySem.W.Frag} {h : Heap} {mg : Str → Option Value} (X : K.In h) (G : h.Ns mainGlobals mg) {f : Addr} {od an : Option Addr} {sl : Array (Option Value)} {oc kV dc pm cd ct : Value}
    (a : PySem.W.nsIn K mainGlobals "_law_cell" = some (some (.ref f))) (l : K.lookup f = some ⟨oc, od, .func (PySem.W.fnOf "_law_cell" "_law_cell" (defArgs (top 28)) (defBody (top 28)) (defScope (top 28)) .none kV dc pm an cd ct), sl⟩) (c : PySem.W.codeIn K cd "_law_cell" = true) (k : PySem.W.keepIn K (.ref f) = true) : DefAt K mg (top 28) := by
  have F := fun_mk (st := top 28) l c k
  have b := F.binds (ps := (["script", "k"] : List Str)) fun _ _ _ _ _ _ us hl => by obtain ⟨x0, x1, rfl⟩ := Ev.len2 hl; rfl
  refine ⟨f, _, ?_, ?_, binds_of ps9 b⟩
  · rw [nm9]; exact PySem.W.mg_of X G a
  · rw [nm9]; exact F
theorem at10 {K : PySem.W.Frag} {h : Heap} {mg : Str → Option Value} (X : K.In h) (G : h.Ns mainGlobals mg) {f : Addr} {od an : Option Addr} {sl : Array (Option Value)} {oc kV dc pm cd ct : Value}
    (a : PySem.W.nsIn K mainGlobals "_law_begin" = some (some (.ref f))) (l : K.lookup f = some ⟨oc, od, .func (PySem.W.fnOf "_law_begin" "_law_begin" (defArgs (top 29)) (defBody (top 29)) (defScope (top 29)) .none kV dc pm an cd ct), sl⟩) (c : PySem.W.codeIn K cd "_law_begin" = true) (k : PySem.W.keepIn K (.ref f) = true) : DefAt K mg (top 29) := by
  have F := fun_mk (st := top 29) l c k
  have b := F.binds (ps := (["script", "k"] : List Str)) fun _ _ _ _ _ _ us hl => by obtain ⟨x0, x1, rfl⟩ := Ev.len2 hl; rfl
  refine ⟨f, _, ?_, ?_, binds_of ps10 b⟩
  · rw [nm10]; exact PySem.W.mg_of X G a
  · rw [nm10]; exact F
theorem at11 {K : PySem.W.Frag} {h : Heap} {mg : Str → Option Value} (X : K.In h) (G : h.Ns mainGlobals mg) {f : Addr} {od an : Option Addr} {sl : Array (Option Value)} {oc kV dc pm cd ct : Value}
    (a : PySem.W.nsIn K mainGlobals "_law_take" = some (some (.ref f))) (l : K.lookup f = some ⟨oc, od, .func (PySem.W.fnOf "_law_take" "_law_take" (defArgs (top 30)) (defBody (top 30)) (defScope (top 30)) .none kV dc pm an cd ct), sl⟩) (c : PySem.W.codeIn K cd "_law_take" = true) (k : PySem.W.keepIn K (.ref f) = true) : DefAt K mg (top 30) := by
  have F := fun_mk (st := top 30) l c k
  have b := F.binds (ps := (["state", "many"] : List Str)) fun _ _ _ _ _ _ us hl => by obtain ⟨x0, x1, rfl⟩ := Ev.len2 hl; rfl
  refine ⟨f, _, ?_, ?_, binds_of ps11 b⟩
  · rw [nm11]; exact PySem.W.mg_of X G a
  · rw [nm11]; exact F
theorem at12 {K : PySem.W.Frag} {h : Heap} {mg : Str → Option Value} (X : K.In h) (G : h.Ns mainGlobals mg) {f : Addr} {od an : Option Addr} {sl : Array (Option Value)} {oc kV dc pm cd ct : Value}
    (a : PySem.W.nsIn K mainGlobals "_law_whole" = some (some (.ref f))) (l : K.lookup f = some ⟨oc, od, .func (PySem.W.fnOf "_law_whole" "_law_whole" (defArgs (top 31)) (defBody (top 31)) (defScope (top 31)) .none kV dc pm an cd ct), sl⟩) (c : PySem.W.codeIn K cd "_law_whole" = true) (k : PySem.W.keepIn K (.ref f) = true) : DefAt K mg (top 31) := by
  have F := fun_mk (st := top 31) l c k
  have b := F.binds (ps := (["found"] : List Str)) fun _ _ _ _ _ _ us hl => by obtain ⟨x0, rfl⟩ := Ev.len1 hl; rfl
  refine ⟨f, _, ?_, ?_, binds_of ps12 b⟩
  · rw [nm12]; exact PySem.W.mg_of X G a
  · rw [nm12]; exact F
theorem at13 {K : PySem.W.Frag} {h : Heap} {mg : Str → Option Value} (X : K.In h) (G : h.Ns mainGlobals mg) {f : Addr} {od an : Option Addr} {sl : Array (Option Value)} {oc kV dc pm cd ct : Value}
    (a : PySem.W.nsIn K mainGlobals "_law_is_tree" = some (some (.ref f))) (l : K.lookup f = some ⟨oc, od, .func (PySem.W.fnOf "_law_is_tree" "_law_is_tree" (defArgs (top 32)) (defBody (top 32)) (defScope (top 32)) .none kV dc pm an cd ct), sl⟩) (c : PySem.W.codeIn K cd "_law_is_tree" = true) (k : PySem.W.keepIn K (.ref f) = true) : DefAt K mg (top 32) := by
  have F := fun_mk (st := top 32) l c k
  have b := F.binds (ps := (["tree", "leaf"] : List Str)) fun _ _ _ _ _ _ us hl => by obtain ⟨x0, x1, rfl⟩ := Ev.len2 hl; rfl
  refine ⟨f, _, ?_, ?_, binds_of ps13 b⟩
  · rw [nm13]; exact PySem.W.mg_of X G a
  · rw [nm13]; exact F
theorem at14 {K : PySem.W.Frag} {h : Heap} {mg : Str → Option Value} (X : K.In h) (G : h.Ns mainGlobals mg) {f : Addr} {od an : Option Addr} {sl : Array (Option Value)} {oc kV dc pm cd ct : Value}
    (a : PySem.W.nsIn K mainGlobals "_law_copy" = some (some (.ref f))) (l : K.lookup f = some ⟨oc, od, .func (PySem.W.fnOf "_law_copy" "_law_copy" (defArgs (top 33)) (defBody (top 33)) (defScope (top 33)) .none kV dc pm an cd ct), sl⟩) (c : PySem.W.codeIn K cd "_law_copy" = true) (k : PySem.W.keepIn K (.ref f) = true) : DefAt K mg (top 33) := by
  have F := fun_mk (st := top 33) l c k
  have b := F.binds (ps := (["tree"] : List Str)) fun _ _ _ _ _ _ us hl => by obtain ⟨x0, rfl⟩ := Ev.len1 hl; rfl
  refine ⟨f, _, ?_, ?_, binds_of ps14 b⟩
  · rw [nm14]; exact PySem.W.mg_of X G a
  · rw [nm14]; exact F
theorem at15 {K : PySem.W.Frag} {h : Heap} {mg : Str → Option Value} (X : K.In h) (G : h.Ns mainGlobals mg) {f : Addr} {od an : Option Addr} {sl : Array (Option Value)} {oc kV dc pm cd ct : Value}
    (a : PySem.W.nsIn K mainGlobals "_law_bent" = some (some (.ref f))) (l : K.lookup f = some ⟨oc, od, .func (PySem.W.fnOf "_law_bent" "_law_bent" (defArgs (top 34)) (defBody (top 34)) (defScope (top 34)) .none kV dc pm an cd ct), sl⟩) (c : PySem.W.codeIn K cd "_law_bent" = true) (k : PySem.W.keepIn K (.ref f) = true) : DefAt K mg (top 34) := by
  have F := fun_mk (st := top 34) l c k
  have b := F.binds (ps := (["tree", "state", "parts"] : List Str)) fun _ _ _ _ _ _ us hl => by obtain ⟨x0, x1, x2, rfl⟩ := Ev.len3 hl; rfl
  refine ⟨f, _, ?_, ?_, binds_of ps15 b⟩
  · rw [nm15]; exact PySem.W.mg_of X G a
  · rw [nm15]; exact F
theorem at16 {K : PySem.W.Frag} {h : Heap} {mg : Str → Option Value} (X : K.In h) (G : h.Ns mainGlobals mg) {f : Addr} {od an : Option Addr} {sl : Array (Option Value)} {oc kV dc pm cd ct : Value}
    (a : PySem.W.nsIn K mainGlobals "_law_which" = some (some (.ref f))) (l : K.lookup f = some ⟨oc, od, .func (PySem.W.fnOf "_law_which" "_law_which" (defArgs (top 35)) (defBody (top 35)) (defScope (top 35)) .none kV dc pm an cd ct), sl⟩) (c : PySem.W.codeIn K cd "_law_which" = true) (k : PySem.W.keepIn K (.ref f) = true) : DefAt K mg (top 35) := by
  have F := fun_mk (st := top 35) l c k
  have b := F.binds (ps := (["e"] : List Str)) fun _ _ _ _ _ _ us hl => by obtain ⟨x0, rfl⟩ := Ev.len1 hl; rfl
  refine ⟨f, _, ?_, ?_, binds_of ps16 b⟩
  · rw [nm16]; exact PySem.W.mg_of X G a
  · rw [nm16]; exact F
theorem at17 {K : PySem.W.Frag} {h : Heap} {mg : Str → Option Value} (X : K.In h) (G : h.Ns mainGlobals mg) {f : Addr} {od an : Option Addr} {sl : Array (Option Value)} {oc kV dc pm cd ct : Value}
    (a : PySem.W.nsIn K mainGlobals "_law_drawn" = some (some (.ref f))) (l : K.lookup f = some ⟨oc, od, .func (PySem.W.fnOf "_law_drawn" "_law_drawn" (defArgs (top 36)) (defBody (top 36)) (defScope (top 36)) .none kV dc pm an cd ct), sl⟩) (c : PySem.W.codeIn K cd "_law_drawn" = true) (k : PySem.W.keepIn K (.ref f) = true) : DefAt K mg (top 36) := by
  have F := fun_mk (st := top 36) l c k
  have b := F.binds (ps := (["state", "deep", "leaf"] : List Str)) fun _ _ _ _ _ _ us hl => by obtain ⟨x0, x1, x2, rfl⟩ := Ev.len3 hl; rfl
  refine ⟨f, _, ?_, ?_, binds_of ps17 b⟩
  · rw [nm17]; exact PySem.W.mg_of X G a
  · rw [nm17]; exact F
theorem at18 {K : PySem.W.Frag} {h : Heap} {mg : Str → Option Value} (X : K.In h) (G : h.Ns mainGlobals mg) {f : Addr} {od an : Option Addr} {sl : Array (Option Value)} {oc kV dc pm cd ct : Value}
    (a : PySem.W.nsIn K mainGlobals "_law_deep" = some (some (.ref f))) (l : K.lookup f = some ⟨oc, od, .func (PySem.W.fnOf "_law_deep" "_law_deep" (defArgs (top 37)) (defBody (top 37)) (defScope (top 37)) .none kV dc pm an cd ct), sl⟩) (c : PySem.W.codeIn K cd "_law_deep" = true) (k : PySem.W.keepIn K (.ref f) = true) : DefAt K mg (top 37) := by
  have F := fun_mk (st := top 37) l c k
  have b := F.binds (ps := (["tree"] : List Str)) fun _ _ _ _ _ _ us hl => by obtain ⟨x0, rfl⟩ := Ev.len1 hl; rfl
  refine ⟨f, _, ?_, ?_, binds_of ps18 b⟩
  · rw [nm18]; exact PySem.W.mg_of X G a
  · rw [nm18]; exact F
theorem at19 {K : PySem.W.Frag} {h : Heap} {mg : Str → Option Value} (X : K.In h) (G : h.Ns mainGlobals mg) {f : Addr} {od an : Option Addr} {sl : Array (Option Value)} {oc kV dc pm cd ct : Value}
    (a : PySem.W.nsIn K mainGlobals "law" = some (some (.ref f))) (l : K.lookup f = some ⟨oc, od, .func (PySem.W.fnOf "law" "law" (defArgs (top 38)) (defBody (top 38)) (defScope (top 38)) .none kV dc pm an cd ct), sl⟩) (c : PySem.W.codeIn K cd "law" = true) (k : PySem.W.keepIn K (.ref f) = true) : DefAt K mg (top 38) := by
  have F := fun_mk (st := top 38) l c k
  have b := F.binds (ps := (["script"] : List Str)) fun _ _ _ _ _ _ us hl => by obtain ⟨x0, rfl⟩ := Ev.len1 hl; rfl
  refine ⟨f, _, ?_, ?_, binds_of ps19 b⟩
  · rw [nm19]; exact PySem.W.mg_of X G a
  · rw [nm19]; exact F
noncomputable abbrev run (n : Nat) : List W → G → Res W := runN cfg n 19
noncomputable def spLaw (K : PySem.W.Frag) : Sp := fun vs H Q E => ∀ xc, spF K xc (runN cfg 41) 19 1 vs H Q E
theorem ltn {P : Nat → Prop} (h0 : P 0) (h1 : P 1) (h2 : P 2) (h3 : P 3) (h4 : P 4) (h5 : P 5) (h6 : P 6) (h7 : P 7) (h8 : P 8) (h9 : P 9) (h10 : P 10) (h11 : P 11) (h12 : P 12) : ∀ c, c < 13 → P c := fun c hc => match c, hc with
  | 0, _ => h0
  | 1, _ => h1
  | 2, _ => h2
  | 3, _ => h3
  | 4, _ => h4
  | 5, _ => h5
  | 6, _ => h6
  | 7, _ => h7
  | 8, _ => h8
  | 9, _ => h9
  | 10, _ => h10
  | 11, _ => h11
  | 12, _ => h12
theorem law_body : ∃ st rest, defBody (top 38) = st :: rest ∧ tokS pg st = true := ⟨_, _, rfl, by decide +kernel⟩
theorem law_of {l : PySem.W.OpenLaw} {w : World} {K : PySem.W.Frag} {mg : Str → Option Value} {base : Heap} {xc : Nat → Addr} {fa : Addr} {od an : Option Addr} {sl : Array (Option Value)} {oc kV dc pm cd ct : Value} (M : LkM pg cfg K mg xc)
    (lk : K.lookup fa = some ⟨oc, od, .func (PySem.W.fnOf "law" "law" (defArgs (top 38)) (defBody (top 38)) (defScope (top 38)) .none kV dc pm an cd ct), sl⟩) (hcd : PySem.W.codeIn K cd "law" = true) :
    FnOk l.prog w K mg base (CXd l.prog w) 41 fa (PySem.W.fnOf "law" "law" (defArgs (top 38)) (defBody (top 38)) (defScope (top 38)) .none kV dc pm an cd ct) ["script"] (spF K xc (runN cfg 41) 19 1) := by
  obtain ⟨⟨ir, hc⟩, S⟩ := okD_sc (ok_at (i := 19) (st := top 38) rfl)
  obtain ⟨st, rest, hb, ht⟩ := law_body
  have hf : cfg.fns[19]? = some ⟨(psOf (top 38)).length, (scN (top 38)).length, ir⟩ := by
    show some (fnD pg (top 38)) = _
    unfold fnD
    rw [hc]
    rfl
  rw [ps19] at S hf
  have hS : isS pg (top 38) = false := by decide +kernel
  unfold compD at hc
  rw [hS] at hc
  rw [hb] at hc lk ⊢
  exact law_fn (n := 40) (fun base => lk_all M 40) lk hcd S hc hf ht
theorem all_mk {l : PySem.W.OpenLaw} {w : World} {K : PySem.W.Frag} {h : Heap} {mg : Str → Option Value} {fa f0 f1 f2 f3 f4 f5 f6 f7 f8 f9 f10 f11 f12 f13 f14 f15 f16 f17 f18 f19 c0 c1 c2 c3 c4 c5 c6 c7 c8 c9 c10 c11 c12 : Addr} (X : K.In h) (G : h.Ns mainGlobals mg) (hfa : mg "law" = some (.ref fa))
    {od0 an0 od1 an1 od2 an2 od3 an3 od4 an4 od5 an5 od6 an6 od7 an7 od8 an8 od9 an9 od10 an10 od11 an11 od12 an12 od13 an13 od14 an14 od15 an15 od16 an16 od17 an17 od18 an18 od19 an19 : Option Addr} {sl0 sl1 sl2 sl3 sl4 sl5 sl6 sl7 sl8 sl9 sl10 sl11 sl12 sl13 sl14 sl15 sl16 sl17 sl18 sl19 : Array (Option Value)} {oc0 kV0 dc0 pm0 cd0 ct0 oc1 kV1 dc1 pm1 cd1 ct1 oc2 kV2 dc2 pm2 cd2 ct2 oc3 kV3 dc3 pm3 cd3 ct3 oc4 kV4 dc4 pm4 cd4 ct4 oc5 kV5 dc5 pm5 cd5 ct5 oc6 kV6 dc6 pm6 cd6 ct6 oc7 kV7 dc7 pm7 cd7 ct7 oc8 kV8 dc8 pm8 cd8 ct8 oc9 kV9 dc9 pm9 cd9 ct9 oc10 kV10 dc10 pm10 cd10 ct10 oc11 kV11 dc11 pm11 cd11 ct11 oc12 kV12 dc12 pm12 cd12 ct12 oc13 kV13 dc13 pm13 cd13 ct13 oc14 kV14 dc14 pm14 cd14 ct14 oc15 kV15 dc15 pm15 cd15 ct15 oc16 kV16 dc16 pm16 cd16 ct16 oc17 kV17 dc17 pm17 cd17 ct17 oc18 kV18 dc18 pm18 cd18 ct18 oc19 kV19 dc19 pm19 cd19 ct19 : Value} {ga0t : Addr} {it0 : Array Value} {nt0 : Nat} {st0 : Array (Option Value)} {ga1t : Addr} {it1 : Array Value} {nt1 : Nat} {st1 : Array (Option Value)}
    (a0 : PySem.W.nsIn K mainGlobals "is_number" = some (some (.ref f0))) (l0 : K.lookup f0 = some ⟨oc0, od0, .func (PySem.W.fnOf "is_number" "is_number" (defArgs (top 15)) (defBody (top 15)) (defScope (top 15)) .none kV0 dc0 pm0 an0 cd0 ct0), sl0⟩) (d0 : PySem.W.codeIn K cd0 "is_number" = true) (k0 : PySem.W.keepIn K (.ref f0) = true)
    (a1 : PySem.W.nsIn K mainGlobals "is_tuple" = some (some (.ref f1))) (l1 : K.lookup f1 = some ⟨oc1, od1, .func (PySem.W.fnOf "is_tuple" "is_tuple" (defArgs (top 16)) (defBody (top 16)) (defScope (top 16)) .none kV1 dc1 pm1 an1 cd1 ct1), sl1⟩) (d1 : PySem.W.codeIn K cd1 "is_tuple" = true) (k1 : PySem.W.keepIn K (.ref f1) = true)
    (a2 : PySem.W.nsIn K mainGlobals "depth" = some (some (.ref f2))) (l2 : K.lookup f2 = some ⟨oc2, od2, .func (PySem.W.fnOf "depth" "depth" (defArgs (top 20)) (defBody (top 20)) (defScope (top 20)) .none kV2 dc2 pm2 an2 cd2 ct2), sl2⟩) (d2 : PySem.W.codeIn K cd2 "depth" = true) (k2 : PySem.W.keepIn K (.ref f2) = true)
    (a3 : PySem.W.nsIn K mainGlobals "check_tree" = some (some (.ref f3))) (l3 : K.lookup f3 = some ⟨oc3, od3, .func (PySem.W.fnOf "check_tree" "check_tree" (defArgs (top 21)) (defBody (top 21)) (defScope (top 21)) .none kV3 dc3 pm3 an3 cd3 ct3), sl3⟩) (d3 : PySem.W.codeIn K cd3 "check_tree" = true) (k3 : PySem.W.keepIn K (.ref f3) = true)
    (a4 : PySem.W.nsIn K mainGlobals "is_tree" = some (some (.ref f4))) (l4 : K.lookup f4 = some ⟨oc4, od4, .func (PySem.W.fnOf "is_tree" "is_tree" (defArgs (top 22)) (defBody (top 22)) (defScope (top 22)) .none kV4 dc4 pm4 an4 cd4 ct4), sl4⟩) (d4 : PySem.W.codeIn K cd4 "is_tree" = true) (k4 : PySem.W.keepIn K (.ref f4) = true)
    (a5 : PySem.W.nsIn K mainGlobals "is_row" = some (some (.ref f5))) (l5 : K.lookup f5 = some ⟨oc5, od5, .func (PySem.W.fnOf "is_row" "is_row" (defArgs (top 23)) (defBody (top 23)) (defScope (top 23)) .none kV5 dc5 pm5 an5 cd5 ct5), sl5⟩) (d5 : PySem.W.codeIn K cd5 "is_row" = true) (k5 : PySem.W.keepIn K (.ref f5) = true)
    (a6 : PySem.W.nsIn K mainGlobals "is_pair_of_cells" = some (some (.ref f6))) (l6 : K.lookup f6 = some ⟨oc6, od6, .func (PySem.W.fnOf "is_pair_of_cells" "is_pair_of_cells" (defArgs (top 24)) (defBody (top 24)) (defScope (top 24)) .none kV6 dc6 pm6 an6 cd6 ct6), sl6⟩) (d6 : PySem.W.codeIn K cd6 "is_pair_of_cells" = true) (k6 : PySem.W.keepIn K (.ref f6) = true)
    (a7 : PySem.W.nsIn K mainGlobals "is_pair_of_numbers" = some (some (.ref f7))) (l7 : K.lookup f7 = some ⟨oc7, od7, .func (PySem.W.fnOf "is_pair_of_numbers" "is_pair_of_numbers" (defArgs (top 25)) (defBody (top 25)) (defScope (top 25)) .none kV7 dc7 pm7 an7 cd7 ct7), sl7⟩) (d7 : PySem.W.codeIn K cd7 "is_pair_of_numbers" = true) (k7 : PySem.W.keepIn K (.ref f7) = true)
    (a8 : PySem.W.nsIn K mainGlobals "depth_of" = some (some (.ref f8))) (l8 : K.lookup f8 = some ⟨oc8, od8, .func (PySem.W.fnOf "depth_of" "depth_of" (defArgs (top 26)) (defBody (top 26)) (defScope (top 26)) .none kV8 dc8 pm8 an8 cd8 ct8), sl8⟩) (d8 : PySem.W.codeIn K cd8 "depth_of" = true) (k8 : PySem.W.keepIn K (.ref f8) = true)
    (a9 : PySem.W.nsIn K mainGlobals "_law_cell" = some (some (.ref f9))) (l9 : K.lookup f9 = some ⟨oc9, od9, .func (PySem.W.fnOf "_law_cell" "_law_cell" (defArgs (top 28)) (defBody (top 28)) (defScope (top 28)) .none kV9 dc9 pm9 an9 cd9 ct9), sl9⟩) (d9 : PySem.W.codeIn K cd9 "_law_cell" = true) (k9 : PySem.W.keepIn K (.ref f9) = true)
    (a10 : PySem.W.nsIn K mainGlobals "_law_begin" = some (some (.ref f10))) (l10 : K.lookup f10 = some ⟨oc10, od10, .func (PySem.W.fnOf "_law_begin" "_law_begin" (defArgs (top 29)) (defBody (top 29)) (defScope (top 29)) .none kV10 dc10 pm10 an10 cd10 ct10), sl10⟩) (d10 : PySem.W.codeIn K cd10 "_law_begin" = true) (k10 : PySem.W.keepIn K (.ref f10) = true)
    (a11 : PySem.W.nsIn K mainGlobals "_law_take" = some (some (.ref f11))) (l11 : K.lookup f11 = some ⟨oc11, od11, .func (PySem.W.fnOf "_law_take" "_law_take" (defArgs (top 30)) (defBody (top 30)) (defScope (top 30)) .none kV11 dc11 pm11 an11 cd11 ct11), sl11⟩) (d11 : PySem.W.codeIn K cd11 "_law_take" = true) (k11 : PySem.W.keepIn K (.ref f11) = true)
    (a12 : PySem.W.nsIn K mainGlobals "_law_whole" = some (some (.ref f12))) (l12 : K.lookup f12 = some ⟨oc12, od12, .func (PySem.W.fnOf "_law_whole" "_law_whole" (defArgs (top 31)) (defBody (top 31)) (defScope (top 31)) .none kV12 dc12 pm12 an12 cd12 ct12), sl12⟩) (d12 : PySem.W.codeIn K cd12 "_law_whole" = true) (k12 : PySem.W.keepIn K (.ref f12) = true)
    (a13 : PySem.W.nsIn K mainGlobals "_law_is_tree" = some (some (.ref f13))) (l13 : K.lookup f13 = some ⟨oc13, od13, .func (PySem.W.fnOf "_law_is_tree" "_law_is_tree" (defArgs (top 32)) (defBody (top 32)) (defScope (top 32)) .none kV13 dc13 pm13 an13 cd13 ct13), sl13⟩) (d13 : PySem.W.codeIn K cd13 "_law_is_tree" = true) (k13 : PySem.W.keepIn K (.ref f13) = true)
    (a14 : PySem.W.nsIn K mainGlobals "_law_copy" = some (some (.ref f14))) (l14 : K.lookup f14 = some ⟨oc14, od14, .func (PySem.W.fnOf "_law_copy" "_law_copy" (defArgs (top 33)) (defBody (top 33)) (defScope (top 33)) .none kV14 dc14 pm14 an14 cd14 ct14), sl14⟩) (d14 : PySem.W.codeIn K cd14 "_law_copy" = true) (k14 : PySem.W.keepIn K (.ref f14) = true)
    (a15 : PySem.W.nsIn K mainGlobals "_law_bent" = some (some (.ref f15))) (l15 : K.lookup f15 = some ⟨oc15, od15, .func (PySem.W.fnOf "_law_bent" "_law_bent" (defArgs (top 34)) (defBody (top 34)) (defScope (top 34)) .none kV15 dc15 pm15 an15 cd15 ct15), sl15⟩) (d15 : PySem.W.codeIn K cd15 "_law_bent" = true) (k15 : PySem.W.keepIn K (.ref f15) = true)
    (a16 : PySem.W.nsIn K mainGlobals "_law_which" = some (some (.ref f16))) (l16 : K.lookup f16 = some ⟨oc16, od16, .func (PySem.W.fnOf "_law_which" "_law_which" (defArgs (top 35)) (defBody (top 35)) (defScope (top 35)) .none kV16 dc16 pm16 an16 cd16 ct16), sl16⟩) (d16 : PySem.W.codeIn K cd16 "_law_which" = true) (k16 : PySem.W.keepIn K (.ref f16) = true)
    (a17 : PySem.W.nsIn K mainGlobals "_law_drawn" = some (some (.ref f17))) (l17 : K.lookup f17 = some ⟨oc17, od17, .func (PySem.W.fnOf "_law_drawn" "_law_drawn" (defArgs (top 36)) (defBody (top 36)) (defScope (top 36)) .none kV17 dc17 pm17 an17 cd17 ct17), sl17⟩) (d17 : PySem.W.codeIn K cd17 "_law_drawn" = true) (k17 : PySem.W.keepIn K (.ref f17) = true)
    (a18 : PySem.W.nsIn K mainGlobals "_law_deep" = some (some (.ref f18))) (l18 : K.lookup f18 = some ⟨oc18, od18, .func (PySem.W.fnOf "_law_deep" "_law_deep" (defArgs (top 37)) (defBody (top 37)) (defScope (top 37)) .none kV18 dc18 pm18 an18 cd18 ct18), sl18⟩) (d18 : PySem.W.codeIn K cd18 "_law_deep" = true) (k18 : PySem.W.keepIn K (.ref f18) = true)
    (a19 : PySem.W.nsIn K mainGlobals "law" = some (some (.ref f19))) (l19 : K.lookup f19 = some ⟨oc19, od19, .func (PySem.W.fnOf "law" "law" (defArgs (top 38)) (defBody (top 38)) (defScope (top 38)) .none kV19 dc19 pm19 an19 cd19 ct19), sl19⟩) (d19 : PySem.W.codeIn K cd19 "law" = true) (k19 : PySem.W.keepIn K (.ref f19) = true)
    (y0 : PySem.W.nsIn K mainGlobals "YardError" = some (some (.ref c0))) (e0 : PySem.W.excIn K c0 excTail "ValueError.__new__" = true) (ga0 : PySem.W.findIn K (.ref c0) "__getattribute__" = some (some (.builtin "BaseException.__getattribute__"))) (gt0 : PySem.W.findIn K (.ref c0) "__getattr__" = some none) (cl0 : PySem.W.findIn K (.ref c0) "__class__" = some (some (.builtin "object.__class__"))) (v0 : PySem.W.kitOne K (.ref c0) (.type "ValueError") = some true)
    (y1 : PySem.W.nsIn K mainGlobals "BadYard" = some (some (.ref c1))) (e1 : PySem.W.excIn K c1 excTail "ValueError.__new__" = true) (ga1 : PySem.W.findIn K (.ref c1) "__getattribute__" = some (some (.builtin "BaseException.__getattribute__"))) (gt1 : PySem.W.findIn K (.ref c1) "__getattr__" = some none) (cl1 : PySem.W.findIn K (.ref c1) "__class__" = some (some (.builtin "object.__class__"))) (v1 : PySem.W.kitOne K (.ref c1) (.type "ValueError") = some true)
    (y2 : PySem.W.nsIn K mainGlobals "BadPosition" = some (some (.ref c2))) (e2 : PySem.W.excIn K c2 excTail "ValueError.__new__" = true) (ga2 : PySem.W.findIn K (.ref c2) "__getattribute__" = some (some (.builtin "BaseException.__getattribute__"))) (gt2 : PySem.W.findIn K (.ref c2) "__getattr__" = some none) (cl2 : PySem.W.findIn K (.ref c2) "__class__" = some (some (.builtin "object.__class__"))) (v2 : PySem.W.kitOne K (.ref c2) (.type "ValueError") = some true)
    (y3 : PySem.W.nsIn K mainGlobals "NoMove" = some (some (.ref c3))) (e3 : PySem.W.excIn K c3 excTail "ValueError.__new__" = true) (ga3 : PySem.W.findIn K (.ref c3) "__getattribute__" = some (some (.builtin "BaseException.__getattribute__"))) (gt3 : PySem.W.findIn K (.ref c3) "__getattr__" = some none) (cl3 : PySem.W.findIn K (.ref c3) "__class__" = some (some (.builtin "object.__class__"))) (v3 : PySem.W.kitOne K (.ref c3) (.type "ValueError") = some true)
    (y4 : PySem.W.nsIn K mainGlobals "Ended" = some (some (.ref c4))) (e4 : PySem.W.excIn K c4 excTail "ValueError.__new__" = true) (ga4 : PySem.W.findIn K (.ref c4) "__getattribute__" = some (some (.builtin "BaseException.__getattribute__"))) (gt4 : PySem.W.findIn K (.ref c4) "__getattr__" = some none) (cl4 : PySem.W.findIn K (.ref c4) "__class__" = some (some (.builtin "object.__class__"))) (v4 : PySem.W.kitOne K (.ref c4) (.type "ValueError") = some true)
    (y5 : PySem.W.nsIn K mainGlobals "BadSide" = some (some (.ref c5))) (e5 : PySem.W.excIn K c5 excTail "ValueError.__new__" = true) (ga5 : PySem.W.findIn K (.ref c5) "__getattribute__" = some (some (.builtin "BaseException.__getattribute__"))) (gt5 : PySem.W.findIn K (.ref c5) "__getattr__" = some none) (cl5 : PySem.W.findIn K (.ref c5) "__class__" = some (some (.builtin "object.__class__"))) (v5 : PySem.W.kitOne K (.ref c5) (.type "ValueError") = some true)
    (y6 : PySem.W.nsIn K mainGlobals "BadPaper" = some (some (.ref c6))) (e6 : PySem.W.excIn K c6 excTail "ValueError.__new__" = true) (ga6 : PySem.W.findIn K (.ref c6) "__getattribute__" = some (some (.builtin "BaseException.__getattribute__"))) (gt6 : PySem.W.findIn K (.ref c6) "__getattr__" = some none) (cl6 : PySem.W.findIn K (.ref c6) "__class__" = some (some (.builtin "object.__class__"))) (v6 : PySem.W.kitOne K (.ref c6) (.type "ValueError") = some true)
    (y7 : PySem.W.nsIn K mainGlobals "TooMany" = some (some (.ref c7))) (e7 : PySem.W.excIn K c7 excTail "ValueError.__new__" = true) (ga7 : PySem.W.findIn K (.ref c7) "__getattribute__" = some (some (.builtin "BaseException.__getattribute__"))) (gt7 : PySem.W.findIn K (.ref c7) "__getattr__" = some none) (cl7 : PySem.W.findIn K (.ref c7) "__class__" = some (some (.builtin "object.__class__"))) (v7 : PySem.W.kitOne K (.ref c7) (.type "ValueError") = some true)
    (y8 : PySem.W.nsIn K mainGlobals "NoWin" = some (some (.ref c8))) (e8 : PySem.W.excIn K c8 excTail "ValueError.__new__" = true) (ga8 : PySem.W.findIn K (.ref c8) "__getattribute__" = some (some (.builtin "BaseException.__getattribute__"))) (gt8 : PySem.W.findIn K (.ref c8) "__getattr__" = some none) (cl8 : PySem.W.findIn K (.ref c8) "__class__" = some (some (.builtin "object.__class__"))) (v8 : PySem.W.kitOne K (.ref c8) (.type "ValueError") = some true)
    (y9 : PySem.W.nsIn K mainGlobals "NoProblem" = some (some (.ref c9))) (e9 : PySem.W.excIn K c9 excTail "ValueError.__new__" = true) (ga9 : PySem.W.findIn K (.ref c9) "__getattribute__" = some (some (.builtin "BaseException.__getattribute__"))) (gt9 : PySem.W.findIn K (.ref c9) "__getattr__" = some none) (cl9 : PySem.W.findIn K (.ref c9) "__class__" = some (some (.builtin "object.__class__"))) (v9 : PySem.W.kitOne K (.ref c9) (.type "ValueError") = some true)
    (y10 : PySem.W.nsIn K mainGlobals "BadText" = some (some (.ref c10))) (e10 : PySem.W.excIn K c10 excTail "ValueError.__new__" = true) (ga10 : PySem.W.findIn K (.ref c10) "__getattribute__" = some (some (.builtin "BaseException.__getattribute__"))) (gt10 : PySem.W.findIn K (.ref c10) "__getattr__" = some none) (cl10 : PySem.W.findIn K (.ref c10) "__class__" = some (some (.builtin "object.__class__"))) (v10 : PySem.W.kitOne K (.ref c10) (.type "ValueError") = some true)
    (y11 : PySem.W.nsIn K mainGlobals "Nothing" = some (some (.ref c11))) (e11 : PySem.W.excIn K c11 excTail "ValueError.__new__" = true) (ga11 : PySem.W.findIn K (.ref c11) "__getattribute__" = some (some (.builtin "BaseException.__getattribute__"))) (gt11 : PySem.W.findIn K (.ref c11) "__getattr__" = some none) (cl11 : PySem.W.findIn K (.ref c11) "__class__" = some (some (.builtin "object.__class__"))) (v11 : PySem.W.kitOne K (.ref c11) (.type "ValueError") = some true)
    (y12 : PySem.W.nsIn K mainGlobals "NoKin" = some (some (.ref c12))) (e12 : PySem.W.excIn K c12 excTail "ValueError.__new__" = true) (ga12 : PySem.W.findIn K (.ref c12) "__getattribute__" = some (some (.builtin "BaseException.__getattribute__"))) (gt12 : PySem.W.findIn K (.ref c12) "__getattr__" = some none) (cl12 : PySem.W.findIn K (.ref c12) "__class__" = some (some (.builtin "object.__class__"))) (v12 : PySem.W.kitOne K (.ref c12) (.type "ValueError") = some true)
    (s0_0 : PySem.W.kitOne K (.ref c0) (.ref c0) = some true)
    (s0_1 : PySem.W.kitOne K (.ref c0) (.ref c1) = some false)
    (s0_2 : PySem.W.kitOne K (.ref c0) (.ref c2) = some false)
    (s0_3 : PySem.W.kitOne K (.ref c0) (.ref c3) = some false)
    (s0_4 : PySem.W.kitOne K (.ref c0) (.ref c4) = some false)
    (s0_5 : PySem.W.kitOne K (.ref c0) (.ref c5) = some false)
    (s0_6 : PySem.W.kitOne K (.ref c0) (.ref c6) = some false)
    (s0_7 : PySem.W.kitOne K (.ref c0) (.ref c7) = some false)
    (s0_8 : PySem.W.kitOne K (.ref c0) (.ref c8) = some false)
    (s0_9 : PySem.W.kitOne K (.ref c0) (.ref c9) = some false)
    (s0_10 : PySem.W.kitOne K (.ref c0) (.ref c10) = some false)
    (s0_11 : PySem.W.kitOne K (.ref c0) (.ref c11) = some false)
    (s0_12 : PySem.W.kitOne K (.ref c0) (.ref c12) = some false)
    (s1_0 : PySem.W.kitOne K (.ref c1) (.ref c0) = some true)
    (s1_1 : PySem.W.kitOne K (.ref c1) (.ref c1) = some true)
    (s1_2 : PySem.W.kitOne K (.ref c1) (.ref c2) = some false)
    (s1_3 : PySem.W.kitOne K (.ref c1) (.ref c3) = some false)
    (s1_4 : PySem.W.kitOne K (.ref c1) (.ref c4) = some false)
    (s1_5 : PySem.W.kitOne K (.ref c1) (.ref c5) = some false)
    (s1_6 : PySem.W.kitOne K (.ref c1) (.ref c6) = some false)
    (s1_7 : PySem.W.kitOne K (.ref c1) (.ref c7) = some false)
    (s1_8 : PySem.W.kitOne K (.ref c1) (.ref c8) = some false)
    (s1_9 : PySem.W.kitOne K (.ref c1) (.ref c9) = some false)
    (s1_10 : PySem.W.kitOne K (.ref c1) (.ref c10) = some false)
    (s1_11 : PySem.W.kitOne K (.ref c1) (.ref c11) = some false)
    (s1_12 : PySem.W.kitOne K (.ref c1) (.ref c12) = some false)
    (s2_0 : PySem.W.kitOne K (.ref c2) (.ref c0) = some true)
    (s2_1 : PySem.W.kitOne K (.ref c2) (.ref c1) = some false)
    (s2_2 : PySem.W.kitOne K (.ref c2) (.ref c2) = some true)
    (s2_3 : PySem.W.kitOne K (.ref c2) (.ref c3) = some false)
    (s2_4 : PySem.W.kitOne K (.ref c2) (.ref c4) = some false)
    (s2_5 : PySem.W.kitOne K (.ref c2) (.ref c5) = some false)
    (s2_6 : PySem.W.kitOne K (.ref c2) (.ref c6) = some false)
    (s2_7 : PySem.W.kitOne K (.ref c2) (.ref c7) = some false)
    (s2_8 : PySem.W.kitOne K (.ref c2) (.ref c8) = some false)
    (s2_9 : PySem.W.kitOne K (.ref c2) (.ref c9) = some false)
    (s2_10 : PySem.W.kitOne K (.ref c2) (.ref c10) = some false)
    (s2_11 : PySem.W.kitOne K (.ref c2) (.ref c11) = some false)
    (s2_12 : PySem.W.kitOne K (.ref c2) (.ref c12) = some false)
    (s3_0 : PySem.W.kitOne K (.ref c3) (.ref c0) = some true)
    (s3_1 : PySem.W.kitOne K (.ref c3) (.ref c1) = some false)
    (s3_2 : PySem.W.kitOne K (.ref c3) (.ref c2) = some false)
    (s3_3 : PySem.W.kitOne K (.ref c3) (.ref c3) = some true)
    (s3_4 : PySem.W.kitOne K (.ref c3) (.ref c4) = some false)
    (s3_5 : PySem.W.kitOne K (.ref c3) (.ref c5) = some false)
    (s3_6 : PySem.W.kitOne K (.ref c3) (.ref c6) = some false)
    (s3_7 : PySem.W.kitOne K (.ref c3) (.ref c7) = some false)
    (s3_8 : PySem.W.kitOne K (.ref c3) (.ref c8) = some false)
    (s3_9 : PySem.W.kitOne K (.ref c3) (.ref c9) = some false)
    (s3_10 : PySem.W.kitOne K (.ref c3) (.ref c10) = some false)
    (s3_11 : PySem.W.kitOne K (.ref c3) (.ref c11) = some false)
    (s3_12 : PySem.W.kitOne K (.ref c3) (.ref c12) = some false)
    (s4_0 : PySem.W.kitOne K (.ref c4) (.ref c0) = some true)
    (s4_1 : PySem.W.kitOne K (.ref c4) (.ref c1) = some false)
    (s4_2 : PySem.W.kitOne K (.ref c4) (.ref c2) = some false)
    (s4_3 : PySem.W.kitOne K (.ref c4) (.ref c3) = some false)
    (s4_4 : PySem.W.kitOne K (.ref c4) (.ref c4) = some true)
    (s4_5 : PySem.W.kitOne K (.ref c4) (.ref c5) = some false)
    (s4_6 : PySem.W.kitOne K (.ref c4) (.ref c6) = some false)
    (s4_7 : PySem.W.kitOne K (.ref c4) (.ref c7) = some false)
    (s4_8 : PySem.W.kitOne K (.ref c4) (.ref c8) = some false)
    (s4_9 : PySem.W.kitOne K (.ref c4) (.ref c9) = some false)
    (s4_10 : PySem.W.kitOne K (.ref c4) (.ref c10) = some false)
    (s4_11 : PySem.W.kitOne K (.ref c4) (.ref c11) = some false)
    (s4_12 : PySem.W.kitOne K (.ref c4) (.ref c12) = some false)
    (s5_0 : PySem.W.kitOne K (.ref c5) (.ref c0) = some true)
    (s5_1 : PySem.W.kitOne K (.ref c5) (.ref c1) = some false)
    (s5_2 : PySem.W.kitOne K (.ref c5) (.ref c2) = some false)
    (s5_3 : PySem.W.kitOne K (.ref c5) (.ref c3) = some false)
    (s5_4 : PySem.W.kitOne K (.ref c5) (.ref c4) = some false)
    (s5_5 : PySem.W.kitOne K (.ref c5) (.ref c5) = some true)
    (s5_6 : PySem.W.kitOne K (.ref c5) (.ref c6) = some false)
    (s5_7 : PySem.W.kitOne K (.ref c5) (.ref c7) = some false)
    (s5_8 : PySem.W.kitOne K (.ref c5) (.ref c8) = some false)
    (s5_9 : PySem.W.kitOne K (.ref c5) (.ref c9) = some false)
    (s5_10 : PySem.W.kitOne K (.ref c5) (.ref c10) = some false)
    (s5_11 : PySem.W.kitOne K (.ref c5) (.ref c11) = some false)
    (s5_12 : PySem.W.kitOne K (.ref c5) (.ref c12) = some false)
    (s6_0 : PySem.W.kitOne K (.ref c6) (.ref c0) = some true)
    (s6_1 : PySem.W.kitOne K (.ref c6) (.ref c1) = some false)
    (s6_2 : PySem.W.kitOne K (.ref c6) (.ref c2) = some false)
    (s6_3 : PySem.W.kitOne K (.ref c6) (.ref c3) = some false)
    (s6_4 : PySem.W.kitOne K (.ref c6) (.ref c4) = some false)
    (s6_5 : PySem.W.kitOne K (.ref c6) (.ref c5) = some false)
    (s6_6 : PySem.W.kitOne K (.ref c6) (.ref c6) = some true)
    (s6_7 : PySem.W.kitOne K (.ref c6) (.ref c7) = some false)
    (s6_8 : PySem.W.kitOne K (.ref c6) (.ref c8) = some false)
    (s6_9 : PySem.W.kitOne K (.ref c6) (.ref c9) = some false)
    (s6_10 : PySem.W.kitOne K (.ref c6) (.ref c10) = some false)
    (s6_11 : PySem.W.kitOne K (.ref c6) (.ref c11) = some false)
    (s6_12 : PySem.W.kitOne K (.ref c6) (.ref c12) = some false)
    (s7_0 : PySem.W.kitOne K (.ref c7) (.ref c0) = some true)
    (s7_1 : PySem.W.kitOne K (.ref c7) (.ref c1) = some false)
    (s7_2 : PySem.W.kitOne K (.ref c7) (.ref c2) = some false)
    (s7_3 : PySem.W.kitOne K (.ref c7) (.ref c3) = some false)
    (s7_4 : PySem.W.kitOne K (.ref c7) (.ref c4) = some false)
    (s7_5 : PySem.W.kitOne K (.ref c7) (.ref c5) = some false)
    (s7_6 : PySem.W.kitOne K (.ref c7) (.ref c6) = some false)
    (s7_7 : PySem.W.kitOne K (.ref c7) (.ref c7) = some true)
    (s7_8 : PySem.W.kitOne K (.ref c7) (.ref c8) = some false)
    (s7_9 : PySem.W.kitOne K (.ref c7) (.ref c9) = some false)
    (s7_10 : PySem.W.kitOne K (.ref c7) (.ref c10) = some false)
    (s7_11 : PySem.W.kitOne K (.ref c7) (.ref c11) = some false)
    (s7_12 : PySem.W.kitOne K (.ref c7) (.ref c12) = some false)
    (s8_0 : PySem.W.kitOne K (.ref c8) (.ref c0) = some true)
    (s8_1 : PySem.W.kitOne K (.ref c8) (.ref c1) = some false)
    (s8_2 : PySem.W.kitOne K (.ref c8) (.ref c2) = some false)
    (s8_3 : PySem.W.kitOne K (.ref c8) (.ref c3) = some false)
    (s8_4 : PySem.W.kitOne K (.ref c8) (.ref c4) = some false)
    (s8_5 : PySem.W.kitOne K (.ref c8) (.ref c5) = some false)
    (s8_6 : PySem.W.kitOne K (.ref c8) (.ref c6) = some false)
    (s8_7 : PySem.W.kitOne K (.ref c8) (.ref c7) = some false)
    (s8_8 : PySem.W.kitOne K (.ref c8) (.ref c8) = some true)
    (s8_9 : PySem.W.kitOne K (.ref c8) (.ref c9) = some false)
    (s8_10 : PySem.W.kitOne K (.ref c8) (.ref c10) = some false)
    (s8_11 : PySem.W.kitOne K (.ref c8) (.ref c11) = some false)
    (s8_12 : PySem.W.kitOne K (.ref c8) (.ref c12) = some false)
    (s9_0 : PySem.W.kitOne K (.ref c9) (.ref c0) = some true)
    (s9_1 : PySem.W.kitOne K (.ref c9) (.ref c1) = some false)
    (s9_2 : PySem.W.kitOne K (.ref c9) (.ref c2) = some false)
    (s9_3 : PySem.W.kitOne K (.ref c9) (.ref c3) = some false)
    (s9_4 : PySem.W.kitOne K (.ref c9) (.ref c4) = some false)
    (s9_5 : PySem.W.kitOne K (.ref c9) (.ref c5) = some false)
    (s9_6 : PySem.W.kitOne K (.ref c9) (.ref c6) = some false)
    (s9_7 : PySem.W.kitOne K (.ref c9) (.ref c7) = some false)
    (s9_8 : PySem.W.kitOne K (.ref c9) (.ref c8) = some false)
    (s9_9 : PySem.W.kitOne K (.ref c9) (.ref c9) = some true)
    (s9_10 : PySem.W.kitOne K (.ref c9) (.ref c10) = some false)
    (s9_11 : PySem.W.kitOne K (.ref c9) (.ref c11) = some false)
    (s9_12 : PySem.W.kitOne K (.ref c9) (.ref c12) = some false)
    (s10_0 : PySem.W.kitOne K (.ref c10) (.ref c0) = some true)
    (s10_1 : PySem.W.kitOne K (.ref c10) (.ref c1) = some false)
    (s10_2 : PySem.W.kitOne K (.ref c10) (.ref c2) = some false)
    (s10_3 : PySem.W.kitOne K (.ref c10) (.ref c3) = some false)
    (s10_4 : PySem.W.kitOne K (.ref c10) (.ref c4) = some false)
    (s10_5 : PySem.W.kitOne K (.ref c10) (.ref c5) = some false)
    (s10_6 : PySem.W.kitOne K (.ref c10) (.ref c6) = some false)
    (s10_7 : PySem.W.kitOne K (.ref c10) (.ref c7) = some false)
    (s10_8 : PySem.W.kitOne K (.ref c10) (.ref c8) = some false)
    (s10_9 : PySem.W.kitOne K (.ref c10) (.ref c9) = some false)
    (s10_10 : PySem.W.kitOne K (.ref c10) (.ref c10) = some true)
    (s10_11 : PySem.W.kitOne K (.ref c10) (.ref c11) = some false)
    (s10_12 : PySem.W.kitOne K (.ref c10) (.ref c12) = some false)
    (s11_0 : PySem.W.kitOne K (.ref c11) (.ref c0) = some true)
    (s11_1 : PySem.W.kitOne K (.ref c11) (.ref c1) = some false)
    (s11_2 : PySem.W.kitOne K (.ref c11) (.ref c2) = some false)
    (s11_3 : PySem.W.kitOne K (.ref c11) (.ref c3) = some false)
    (s11_4 : PySem.W.kitOne K (.ref c11) (.ref c4) = some false)
    (s11_5 : PySem.W.kitOne K (.ref c11) (.ref c5) = some false)
    (s11_6 : PySem.W.kitOne K (.ref c11) (.ref c6) = some false)
    (s11_7 : PySem.W.kitOne K (.ref c11) (.ref c7) = some false)
    (s11_8 : PySem.W.kitOne K (.ref c11) (.ref c8) = some false)
    (s11_9 : PySem.W.kitOne K (.ref c11) (.ref c9) = some false)
    (s11_10 : PySem.W.kitOne K (.ref c11) (.ref c10) = some false)
    (s11_11 : PySem.W.kitOne K (.ref c11) (.ref c11) = some true)
    (s11_12 : PySem.W.kitOne K (.ref c11) (.ref c12) = some false)
    (s12_0 : PySem.W.kitOne K (.ref c12) (.ref c0) = some true)
    (s12_1 : PySem.W.kitOne K (.ref c12) (.ref c1) = some false)
    (s12_2 : PySem.W.kitOne K (.ref c12) (.ref c2) = some false)
    (s12_3 : PySem.W.kitOne K (.ref c12) (.ref c3) = some false)
    (s12_4 : PySem.W.kitOne K (.ref c12) (.ref c4) = some false)
    (s12_5 : PySem.W.kitOne K (.ref c12) (.ref c5) = some false)
    (s12_6 : PySem.W.kitOne K (.ref c12) (.ref c6) = some false)
    (s12_7 : PySem.W.kitOne K (.ref c12) (.ref c7) = some false)
    (s12_8 : PySem.W.kitOne K (.ref c12) (.ref c8) = some false)
    (s12_9 : PySem.W.kitOne K (.ref c12) (.ref c9) = some false)
    (s12_10 : PySem.W.kitOne K (.ref c12) (.ref c10) = some false)
    (s12_11 : PySem.W.kitOne K (.ref c12) (.ref c11) = some false)
    (s12_12 : PySem.W.kitOne K (.ref c12) (.ref c12) = some true)
    (g0 : PySem.W.nsIn K mainGlobals "WON" = some (some (.ref ga0t))) (gl0 : K.lookup ga0t = some ⟨.type "tuple", none, .seq it0 nt0, st0⟩) (gv0 : it0.size ≤ sizeLine ∧ Vals [V.str "won"] it0.toList)
    (g1 : PySem.W.nsIn K mainGlobals "NOT_WON" = some (some (.ref ga1t))) (gl1 : K.lookup ga1t = some ⟨.type "tuple", none, .seq it1 nt1, st1⟩) (gv1 : it1.size ≤ sizeLine ∧ Vals [V.str "not"] it1.toList)
    (z0 : PySem.W.nsIn K mainGlobals "len" = some none)
    (z1 : PySem.W.nsIn K mainGlobals "all" = some none)
    (z2 : PySem.W.nsIn K mainGlobals "int" = some none)
    (z3 : PySem.W.nsIn K mainGlobals "list" = some none)
    (z4 : PySem.W.nsIn K mainGlobals "range" = some none)
    (z5 : PySem.W.nsIn K mainGlobals "isinstance" = some none)
    (z6 : PySem.W.nsIn K mainGlobals "bool" = some none)
    (z7 : PySem.W.nsIn K mainGlobals "tuple" = some none)
    (z8 : PySem.W.nsIn K mainGlobals "ValueError" = some none)
    (z9 : PySem.W.nsIn K mainGlobals "any" = some none)
    (z10 : PySem.W.nsIn K mainGlobals "max" = some none)
    : ∃ fd : FuncData, (∀ (s : Shared) (v : Value), BindsTo s fd ⟨[v], []⟩ [("script", v)]) ∧ ∀ base : Heap, K.In base → base.Ns mainGlobals mg → FnOk l.prog w K mg base (CXd l.prog w) 41 fa fd ["script"] (spLaw K) := by
  have e := hfa.symm.trans (PySem.W.mg_of X G a19)
  cases e
  have AA : AllAt K mg defs := ⟨at0 X G a0 l0 d0 k0, at1 X G a1 l1 d1 k1, at2 X G a2 l2 d2 k2, at3 X G a3 l3 d3 k3, at4 X G a4 l4 d4 k4, at5 X G a5 l5 d5 k5, at6 X G a6 l6 d6 k6, at7 X G a7 l7 d7 k7, at8 X G a8 l8 d8 k8, at9 X G a9 l9 d9 k9, at10 X G a10 l10 d10 k10, at11 X G a11 l11 d11 k11, at12 X G a12 l12 d12 k12, at13 X G a13 l13 d13 k13, at14 X G a14 l14 d14 k14, at15 X G a15 l15 d15 k15, at16 X G a16 l16 d16 k16, at17 X G a17 l17 d17 k17, at18 X G a18 l18 d18 k18, at19 X G a19 l19 d19 k19, trivial⟩
  let xc : Nat → Addr := fun n => if n = 0 then c0 else if n = 1 then c1 else if n = 2 then c2 else if n = 3 then c3 else if n = 4 then c4 else if n = 5 then c5 else if n = 6 then c6 else if n = 7 then c7 else if n = 8 then c8 else if n = 9 then c9 else if n = 10 then c10 else if n = 11 then c11 else if n = 12 then c12 else 0
  have xo : XOk cfg K xc := by
    refine xok_of (fun c d h => ?_) (fun c d hc hd => ?_) (fun c hc => ?_) (fun c hc => ?_)
    · have h : xs c d = true := h
      unfold xs at h
      rw [Bool.and_eq_true] at h
      exact of_decide_eq_true h.1
    · have hc : c < 13 := hc
      have hd : d < 13 := hd
      refine ltn (P := fun c => ∀ d, d < 13 → PySem.W.kitOne K (.ref (xc c)) (.ref (xc d)) = some (xs c d)) ?_ ?_ ?_ ?_ ?_ ?_ ?_ ?_ ?_ ?_ ?_ ?_ ?_ c hc d hd
      · exact ltn (P := fun d => PySem.W.kitOne K (.ref (xc 0)) (.ref (xc d)) = some (xs 0 d)) s0_0 s0_1 s0_2 s0_3 s0_4 s0_5 s0_6 s0_7 s0_8 s0_9 s0_10 s0_11 s0_12
      · exact ltn (P := fun d => PySem.W.kitOne K (.ref (xc 1)) (.ref (xc d)) = some (xs 1 d)) s1_0 s1_1 s1_2 s1_3 s1_4 s1_5 s1_6 s1_7 s1_8 s1_9 s1_10 s1_11 s1_12
      · exact ltn (P := fun d => PySem.W.kitOne K (.ref (xc 2)) (.ref (xc d)) = some (xs 2 d)) s2_0 s2_1 s2_2 s2_3 s2_4 s2_5 s2_6 s2_7 s2_8 s2_9 s2_10 s2_11 s2_12
      · exact ltn (P := fun d => PySem.W.kitOne K (.ref (xc 3)) (.ref (xc d)) = some (xs 3 d)) s3_0 s3_1 s3_2 s3_3 s3_4 s3_5 s3_6 s3_7 s3_8 s3_9 s3_10 s3_11 s3_12
      · exact ltn (P := fun d => PySem.W.kitOne K (.ref (xc 4)) (.ref (xc d)) = some (xs 4 d)) s4_0 s4_1 s4_2 s4_3 s4_4 s4_5 s4_6 s4_7 s4_8 s4_9 s4_10 s4_11 s4_12
      · exact ltn (P := fun d => PySem.W.kitOne K (.ref (xc 5)) (.ref (xc d)) = some (xs 5 d)) s5_0 s5_1 s5_2 s5_3 s5_4 s5_5 s5_6 s5_7 s5_8 s5_9 s5_10 s5_11 s5_12
      · exact ltn (P := fun d => PySem.W.kitOne K (.ref (xc 6)) (.ref (xc d)) = some (xs 6 d)) s6_0 s6_1 s6_2 s6_3 s6_4 s6_5 s6_6 s6_7 s6_8 s6_9 s6_10 s6_11 s6_12
      · exact ltn (P := fun d => PySem.W.kitOne K (.ref (xc 7)) (.ref (xc d)) = some (xs 7 d)) s7_0 s7_1 s7_2 s7_3 s7_4 s7_5 s7_6 s7_7 s7_8 s7_9 s7_10 s7_11 s7_12
      · exact ltn (P := fun d => PySem.W.kitOne K (.ref (xc 8)) (.ref (xc d)) = some (xs 8 d)) s8_0 s8_1 s8_2 s8_3 s8_4 s8_5 s8_6 s8_7 s8_8 s8_9 s8_10 s8_11 s8_12
      · exact ltn (P := fun d => PySem.W.kitOne K (.ref (xc 9)) (.ref (xc d)) = some (xs 9 d)) s9_0 s9_1 s9_2 s9_3 s9_4 s9_5 s9_6 s9_7 s9_8 s9_9 s9_10 s9_11 s9_12
      · exact ltn (P := fun d => PySem.W.kitOne K (.ref (xc 10)) (.ref (xc d)) = some (xs 10 d)) s10_0 s10_1 s10_2 s10_3 s10_4 s10_5 s10_6 s10_7 s10_8 s10_9 s10_10 s10_11 s10_12
      · exact ltn (P := fun d => PySem.W.kitOne K (.ref (xc 11)) (.ref (xc d)) = some (xs 11 d)) s11_0 s11_1 s11_2 s11_3 s11_4 s11_5 s11_6 s11_7 s11_8 s11_9 s11_10 s11_11 s11_12
      · exact ltn (P := fun d => PySem.W.kitOne K (.ref (xc 12)) (.ref (xc d)) = some (xs 12 d)) s12_0 s12_1 s12_2 s12_3 s12_4 s12_5 s12_6 s12_7 s12_8 s12_9 s12_10 s12_11 s12_12
    · have hc : c < 13 := hc
      match c, hc with
      | 0, _ => exact v0
      | 1, _ => exact v1
      | 2, _ => exact v2
      | 3, _ => exact v3
      | 4, _ => exact v4
      | 5, _ => exact v5
      | 6, _ => exact v6
      | 7, _ => exact v7
      | 8, _ => exact v8
      | 9, _ => exact v9
      | 10, _ => exact v10
      | 11, _ => exact v11
      | 12, _ => exact v12
    · have hc : c < 13 := hc
      match c, hc with
      | 0, _ => exact ⟨e0, ga0, gt0, cl0⟩
      | 1, _ => exact ⟨e1, ga1, gt1, cl1⟩
      | 2, _ => exact ⟨e2, ga2, gt2, cl2⟩
      | 3, _ => exact ⟨e3, ga3, gt3, cl3⟩
      | 4, _ => exact ⟨e4, ga4, gt4, cl4⟩
      | 5, _ => exact ⟨e5, ga5, gt5, cl5⟩
      | 6, _ => exact ⟨e6, ga6, gt6, cl6⟩
      | 7, _ => exact ⟨e7, ga7, gt7, cl7⟩
      | 8, _ => exact ⟨e8, ga8, gt8, cl8⟩
      | 9, _ => exact ⟨e9, ga9, gt9, cl9⟩
      | 10, _ => exact ⟨e10, ga10, gt10, cl10⟩
      | 11, _ => exact ⟨e11, ga11, gt11, cl11⟩
      | 12, _ => exact ⟨e12, ga12, gt12, cl12⟩
  have M : LkM pg cfg K mg xc := by
    refine ⟨fun x w' h => ?_, fun x c h => ?_, fun x h => ?_, xo, fun x f h => ?_, fun x f h => ?_⟩
    · have h : (if strIs x "WON" then some (.ctup [.str "won"]) else if strIs x "NOT_WON" then some (.ctup [.str "not"]) else none : Option W) = some w' := h
      by_cases h0 : strIs x "WON" = true
      · rw [if_pos h0] at h
        cases h
        have e := strIs_ok h0
        subst e
        refine ⟨.ref ga0t, _, PySem.W.mg_of X G g0, rfl, fun ρ H => ?_⟩
        unfold RW
        exact ⟨ga0t, [V.str "won"], rfl, ⟨_, _, _, gl0, rfl, rfl, rfl, gv0.1, gv0.2⟩, RWs.cons rw_str (RWs.nil)⟩
      rw [if_neg h0] at h
      by_cases h1 : strIs x "NOT_WON" = true
      · rw [if_pos h1] at h
        cases h
        have e := strIs_ok h1
        subst e
        refine ⟨.ref ga1t, _, PySem.W.mg_of X G g1, rfl, fun ρ H => ?_⟩
        unfold RW
        exact ⟨ga1t, [V.str "not"], rfl, ⟨_, _, _, gl1, rfl, rfl, rfl, gv1.1, gv1.2⟩, RWs.cons rw_str (RWs.nil)⟩
      rw [if_neg h1] at h
      cases h
    · have h : (if strIs x "YardError" then some 0 else if strIs x "BadYard" then some 1 else if strIs x "BadPosition" then some 2 else if strIs x "NoMove" then some 3 else if strIs x "Ended" then some 4 else if strIs x "BadSide" then some 5 else if strIs x "BadPaper" then some 6 else if strIs x "TooMany" then some 7 else if strIs x "NoWin" then some 8 else if strIs x "NoProblem" then some 9 else if strIs x "BadText" then some 10 else if strIs x "Nothing" then some 11 else if strIs x "NoKin" then some 12 else none : Option Nat) = some c := h
      by_cases h0 : strIs x "YardError" = true
      · rw [if_pos h0] at h
        cases h
        have e := strIs_ok h0
        subst e
        exact ⟨PySem.W.mg_of X G y0, e0⟩
      rw [if_neg h0] at h
      by_cases h1 : strIs x "BadYard" = true
      · rw [if_pos h1] at h
        cases h
        have e := strIs_ok h1
        subst e
        exact ⟨PySem.W.mg_of X G y1, e1⟩
      rw [if_neg h1] at h
      by_cases h2 : strIs x "BadPosition" = true
      · rw [if_pos h2] at h
        cases h
        have e := strIs_ok h2
        subst e
        exact ⟨PySem.W.mg_of X G y2, e2⟩
      rw [if_neg h2] at h
      by_cases h3 : strIs x "NoMove" = true
      · rw [if_pos h3] at h
        cases h
        have e := strIs_ok h3
        subst e
        exact ⟨PySem.W.mg_of X G y3, e3⟩
      rw [if_neg h3] at h
      by_cases h4 : strIs x "Ended" = true
      · rw [if_pos h4] at h
        cases h
        have e := strIs_ok h4
        subst e
        exact ⟨PySem.W.mg_of X G y4, e4⟩
      rw [if_neg h4] at h
      by_cases h5 : strIs x "BadSide" = true
      · rw [if_pos h5] at h
        cases h
        have e := strIs_ok h5
        subst e
        exact ⟨PySem.W.mg_of X G y5, e5⟩
      rw [if_neg h5] at h
      by_cases h6 : strIs x "BadPaper" = true
      · rw [if_pos h6] at h
        cases h
        have e := strIs_ok h6
        subst e
        exact ⟨PySem.W.mg_of X G y6, e6⟩
      rw [if_neg h6] at h
      by_cases h7 : strIs x "TooMany" = true
      · rw [if_pos h7] at h
        cases h
        have e := strIs_ok h7
        subst e
        exact ⟨PySem.W.mg_of X G y7, e7⟩
      rw [if_neg h7] at h
      by_cases h8 : strIs x "NoWin" = true
      · rw [if_pos h8] at h
        cases h
        have e := strIs_ok h8
        subst e
        exact ⟨PySem.W.mg_of X G y8, e8⟩
      rw [if_neg h8] at h
      by_cases h9 : strIs x "NoProblem" = true
      · rw [if_pos h9] at h
        cases h
        have e := strIs_ok h9
        subst e
        exact ⟨PySem.W.mg_of X G y9, e9⟩
      rw [if_neg h9] at h
      by_cases h10 : strIs x "BadText" = true
      · rw [if_pos h10] at h
        cases h
        have e := strIs_ok h10
        subst e
        exact ⟨PySem.W.mg_of X G y10, e10⟩
      rw [if_neg h10] at h
      by_cases h11 : strIs x "Nothing" = true
      · rw [if_pos h11] at h
        cases h
        have e := strIs_ok h11
        subst e
        exact ⟨PySem.W.mg_of X G y11, e11⟩
      rw [if_neg h11] at h
      by_cases h12 : strIs x "NoKin" = true
      · rw [if_pos h12] at h
        cases h
        have e := strIs_ok h12
        subst e
        exact ⟨PySem.W.mg_of X G y12, e12⟩
      rw [if_neg h12] at h
      cases h
    · have h : (["len", "all", "int", "list", "range", "isinstance", "bool", "tuple", "ValueError", "any", "max"] : List Str).contains x = true := h
      have h : x ∈ (["len", "all", "int", "list", "range", "isinstance", "bool", "tuple", "ValueError", "any", "max"] : List Str) := List.contains_iff_mem.mp h
      simp only [List.mem_cons, List.not_mem_nil, or_false] at h
      rcases h with rfl | rfl | rfl | rfl | rfl | rfl | rfl | rfl | rfl | rfl | rfl
      · exact PySem.W.mg_none_of X G z0
      · exact PySem.W.mg_none_of X G z1
      · exact PySem.W.mg_none_of X G z2
      · exact PySem.W.mg_none_of X G z3
      · exact PySem.W.mg_none_of X G z4
      · exact PySem.W.mg_none_of X G z5
      · exact PySem.W.mg_none_of X G z6
      · exact PySem.W.mg_none_of X G z7
      · exact PySem.W.mg_none_of X G z8
      · exact PySem.W.mg_none_of X G z9
      · exact PySem.W.mg_none_of X G z10
    · have h : (if inS x then none else fnOfL defs x) = some f := h
      by_cases hs : inS x = true
      · rw [if_pos hs] at h; cases h
      · rw [if_neg hs] at h
        obtain ⟨st, hd, rfl⟩ := fn_get h
        obtain ⟨fa, fd, h1, h2, h3⟩ := AA.get hd
        have e : isS pg st = false := by
          show ((if inS (defName st) then fnOfL defs (defName st) else none) : Option Nat).isSome = false
          rw [if_neg hs]
          rfl
        have F := fnSt_of (nx := 13) (xsub := xs) (wh := wh) hd (ok_at hd) h2 h3
        rw [e] at F
        exact ⟨fa, fd, _, h1, F⟩
    · have h : (if inS x then fnOfL defs x else none) = some f := h
      by_cases hs : inS x = true
      · rw [if_pos hs] at h
        obtain ⟨st, hd, rfl⟩ := fn_get h
        obtain ⟨fa, fd, h1, h2, h3⟩ := AA.get hd
        have e : isS pg st = true := by
          show ((if inS (defName st) then fnOfL defs (defName st) else none) : Option Nat).isSome = true
          rw [if_pos hs, h]
          rfl
        have F := fnSt_of (nx := 13) (xsub := xs) (wh := wh) hd (ok_at hd) h2 h3
        rw [e] at F
        exact ⟨fa, fd, _, h1, F⟩
      · rw [if_neg hs] at h; cases h
  refine ⟨PySem.W.fnOf "law" "law" (defArgs (top 38)) (defBody (top 38)) (defScope (top 38)) .none kV19 dc19 pm19 an19 cd19 ct19, fun s v => .of_eq rfl, fun base _ _ => ?_⟩
  have q := law_of (l := l) (w := w) (base := base) M l19 d19
  exact q.imp fun vs H Q E h => h xc
theorem walk {l : PySem.W.OpenLaw} {q : Program} {loose : List Str} {XP : (Str → Option Value) → Heap → Prop} {YP : World → Heap → Prop} {d : DefRec} {K : Params → PySem.W.Frag} (hn : l.most = some 63) (hdf : d.params.defaults = [])
    (hY : ∀ (w : World) (h : Heap), YP w h → (K w.params).In h) (pure : ∀ ns : List Int, ns.length ≤ 63 → ∃ g, run 41 [.flst (ns.map .int)] [] = .ok (.bl true) g)
    (F : ∀ (w : World) (mg : Str → Option Value) (fa : Addr) (h : Heap), (K w.params).In h → h.Ns mainGlobals mg → mg d.name = some (.ref fa) →
      ∃ fd : FuncData, (∀ (s : Shared) (u : Value), BindsTo s fd ⟨[u], []⟩ [("script", u)]) ∧ ∀ base : Heap, (K w.params).In base → base.Ns mainGlobals mg → FnOk l.prog w (K w.params) mg base (CXd l.prog w) 41 fa fd ["script"] (spLaw (K w.params))) :
    PySem.W.WalkO q loose XP YP l.row.toRowW d [] (fun f vs => PySem.call f vs) :=
  L2.walk_of (n := 63) (k := 41) (x := "script") (CX := fun w => CXd l.prog w) (sp := fun w => spLaw (K w.params)) hn (by decide) hdf ⟨rfl, by decide, by decide⟩ hY F
    (fun _ _ a ns hl hO hS xc => let ⟨g, e⟩ := pure ns hl; sp_script hO hS e) fun _ _ _ _ _ z => CXd.no z
end K30
set_option Elab.async false
set_option linter.all false
set_option maxRecDepth 100000
namespace K30
open PySem Ev
noncomputable def ir0 : Ev.S := (.seq (.ret (.and (.isi (.var 0) (.b "int")) (.not (.isi (.var 0) (.b "bool"))))) .skip)
noncomputable def ir1 : Ev.S := (.seq (.ret (.and (.isi (.var 0) (.b "tuple")) (.op2 .eq (.blt .len (.cons (.var 0) .nil)) (.var 1)))) .skip)
noncomputable def ir2 : Ev.S := (.seq (.drop (.call 3 (.cons (.var 0) (.cons (.lst (.cons (.cst (.ctup [(.str ⟨#[119, 111, 110]⟩)])) (.cons (.cst (.ctup [(.str ⟨#[110, 111, 116]⟩)])) .nil))) .nil)))) (.seq (.ret (.call 8 (.cons (.var 0) .nil))) .skip))
noncomputable def ir3 : Ev.S := (.seq (.ite (.not (.blt .any (.cons (.lc [none, none, some 0] (.one 1) (.var 1) (.cst (.bl true)) (.call 4 (.cons (.var 2) (.cons (.var 1) .nil)))) .nil))) (.seq (.raise 6 (.cons (.cst (.str ⟨#[116, 104, 105, 115, 32, 105, 115, 32, 110, 111, 32, 116, 114, 101, 101, 32, 111, 102, 32, 116, 104, 101, 32, 107, 105, 110, 100, 32, 116, 104, 97, 116, 32, 105, 115, 32, 119, 97, 110, 116, 101, 100]⟩)) .nil)) .skip) .skip) .skip)
noncomputable def ir4 : Ev.S := (.seq (.ite (.and (.call 1 (.cons (.var 0) (.cons (.cst (.int 3)) .nil))) (.op2 .eq (.ix (.var 0) (.cst (.int 0))) (.cst (.str ⟨#[109, 111, 118, 101]⟩)))) (.seq (.ret (.call 5 (.cons (.slc (.var 0) (.cons (.cst (.int 1)) .nil) .nil) (.cons (.var 1) .nil)))) .skip) .skip) (.seq (.ite (.and (.call 1 (.cons (.var 0) (.cons (.cst (.int 2)) .nil))) (.op2 .eq (.ix (.var 0) (.cst (.int 0))) (.cst (.str ⟨#[97, 108, 108]⟩)))) (.seq (.ret (.and (.isi (.ix (.var 0) (.cst (.int 1))) (.b "list")) (.and (.op2 .ne (.ix (.var 0) (.cst (.int 1))) (.lst .nil)) (.blt .all (.cons (.lc [none, none, some 1] (.one 1) (.ix (.var 0) (.cst (.int 1))) (.cst (.bl true)) (.call 5 (.cons (.var 1) (.cons (.var 2) .nil)))) .nil))))) .skip) .skip) (.seq (.ret (.op2 .eq (.var 0) (.var 1))) .skip)))
noncomputable def ir5 : Ev.S := (.seq (.ret (.and (.call 1 (.cons (.var 0) (.cons (.cst (.int 2)) .nil))) (.and (.call 6 (.cons (.ix (.var 0) (.cst (.int 0))) .nil)) (.call 4 (.cons (.ix (.var 0) (.cst (.int 1))) (.cons (.var 1) .nil)))))) .skip)
noncomputable def ir6 : Ev.S := (.seq (.ret (.and (.call 1 (.cons (.var 0) (.cons (.cst (.int 2)) .nil))) (.blt .all (.cons (.lc [none, none] (.one 1) (.var 0) (.cst (.bl true)) (.call 7 (.cons (.var 1) .nil))) .nil)))) .skip)
noncomputable def ir7 : Ev.S := (.seq (.ret (.and (.call 1 (.cons (.var 0) (.cons (.cst (.int 2)) .nil))) (.blt .all (.cons (.lc [none, none] (.one 1) (.var 0) (.cst (.bl true)) (.call 0 (.cons (.var 1) .nil))) .nil)))) .skip)
noncomputable def ir8 : Ev.S := (.seq (.ite (.op2 .eq (.ix (.var 0) (.cst (.int 0))) (.cst (.str ⟨#[109, 111, 118, 101]⟩))) (.seq (.ret (.op2 .add (.cst (.int 1)) (.call 8 (.cons (.ix (.var 0) (.cst (.int 2))) .nil)))) .skip) .skip) (.seq (.ite (.op2 .eq (.ix (.var 0) (.cst (.int 0))) (.cst (.str ⟨#[97, 108, 108]⟩))) (.seq (.ret (.op2 .add (.cst (.int 1)) (.blt .max (.cons (.lc [none, none] (.one 1) (.ix (.var 0) (.cst (.int 1))) (.cst (.bl true)) (.call 8 (.cons (.ix (.var 1) (.cst (.int 1))) .nil))) .nil)))) .skip) .skip) (.seq (.ret (.cst (.int 0))) .skip)))
noncomputable def ir9 : Ev.S := (.seq (.ite (.op2 .lt (.var 1) (.blt .len (.cons (.var 0) .nil))) (.seq (.ret (.ix (.var 0) (.var 1))) .skip) .skip) (.seq (.set (.one 2) (.cst (.int 0))) (.seq (.ite (.op2 .gt (.blt .len (.cons (.var 0) .nil)) (.cst (.int 0))) (.seq (.set (.one 2) (.ix (.var 0) (.cst (.int 0)))) .skip) .skip) (.seq (.ret (.op2 .mod (.op2 .add (.op2 .mul (.op2 .mod (.var 2) (.cst (.int 65521))) (.cst (.int 48271))) (.op2 .mul (.var 1) (.cst (.int 30103)))) (.cst (.int 65521)))) .skip))))
noncomputable def ir10 : Ev.S := (.seq (.set (.one 2) (.call 9 (.cons (.var 0) (.cons (.var 1) .nil)))) (.seq (.ret (.lst (.cons (.blt .max (.cons (.var 2) (.cons (.op2 .sub (.cst (.int 0)) (.var 2)) .nil))) (.cons (.blt .int (.cons (.op2 .ge (.var 2) (.op2 .pow (.cst (.int 10)) (.cst (.int 18)))) .nil)) (.cons (.cst (.int 0)) .nil))))) .skip))
noncomputable def ir11 : Ev.S := (.seq (.ite (.and (.op2 .eq (.ix (.var 0) (.cst (.int 1))) (.cst (.int 1))) (.op2 .gt (.ix (.var 0) (.cst (.int 0))) (.cst (.int 0)))) (.seq (.set (.one 2) (.op2 .mod (.ix (.var 0) (.cst (.int 0))) (.var 1))) (.seq (.put (.var 0) (.cst (.int 0)) (.op2 .fdiv (.ix (.var 0) (.cst (.int 0))) (.var 1))) (.seq (.ret (.var 2)) .skip))) .skip) (.seq (.put (.var 0) (.cst (.int 2)) (.op2 .add (.ix (.var 0) (.cst (.int 2))) (.cst (.int 1)))) (.seq (.set (.one 3) (.op2 .mod (.op2 .mul (.op2 .add (.op2 .add (.op2 .mod (.ix (.var 0) (.cst (.int 0))) (.cst (.int 2147483647))) (.op2 .mul (.cst (.int 7919)) (.ix (.var 0) (.cst (.int 2))))) (.cst (.int 17))) (.cst (.int 48271))) (.cst (.int 2147483647)))) (.seq (.set (.one 3) (.op2 .mod (.op2 .mul (.var 3) (.var 3)) (.cst (.int 2147483647)))) (.seq (.set (.one 3) (.op2 .mod (.op2 .mul (.op2 .add (.var 3) (.ix (.var 0) (.cst (.int 2)))) (.cst (.int 69621))) (.cst (.int 2147483629)))) (.seq (.ret (.op2 .mod (.op2 .fdiv (.op2 .mod (.op2 .mul (.var 3) (.var 3)) (.cst (.int 2147483629))) (.cst (.int 8))) (.var 1))) .skip))))))
noncomputable def ir12 : Ev.S := (.seq (.ret (.and (.isi (.var 0) (.b "int")) (.not (.isi (.var 0) (.b "bool"))))) .skip)
noncomputable def ir13 : Ev.S := (.seq (.ite (.or (.not (.isi (.var 0) (.b "tuple"))) (.op2 .eq (.blt .len (.cons (.var 0) .nil)) (.cst (.int 0)))) (.seq (.ret (.cst (.bl false))) .skip) .skip) (.seq (.ite (.op2 .eq (.blt .len (.cons (.var 0) .nil)) (.cst (.int 1))) (.seq (.ret (.op2 .eq (.ix (.var 0) (.cst (.int 0))) (.var 1))) .skip) .skip) (.seq (.ite (.and (.op2 .eq (.ix (.var 0) (.cst (.int 0))) (.cst (.str ⟨#[109, 111, 118, 101]⟩))) (.op2 .eq (.blt .len (.cons (.var 0) .nil)) (.cst (.int 3)))) (.seq (.ret (.call 13 (.cons (.ix (.var 0) (.cst (.int 2))) (.cons (.var 1) .nil)))) .skip) .skip) (.seq (.ite (.or (.op2 .ne (.ix (.var 0) (.cst (.int 0))) (.cst (.str ⟨#[97, 108, 108]⟩))) (.or (.op2 .ne (.blt .len (.cons (.var 0) .nil)) (.cst (.int 2))) (.or (.not (.isi (.ix (.var 0) (.cst (.int 1))) (.b "list"))) (.op2 .eq (.ix (.var 0) (.cst (.int 1))) (.lst .nil))))) (.seq (.ret (.cst (.bl false))) .skip) .skip) (.seq (.ret (.op2 .eq (.blt .len (.cons (.lc [none, none, some 1] (.one 1) (.ix (.var 0) (.cst (.int 1))) (.or (.not (.isi (.var 1) (.b "tuple"))) (.not (.call 13 (.cons (.ix (.var 1) (.cst (.int 1))) (.cons (.var 2) .nil))))) (.var 1)) .nil)) (.cst (.int 0)))) .skip)))))
noncomputable def ir14 : Ev.S := (.seq (.ite (.and (.op2 .eq (.ix (.var 0) (.cst (.int 0))) (.cst (.str ⟨#[109, 111, 118, 101]⟩))) (.op2 .eq (.blt .len (.cons (.var 0) .nil)) (.cst (.int 3)))) (.seq (.ret (.tup (.cons (.cst (.str ⟨#[109, 111, 118, 101]⟩)) (.cons (.ix (.var 0) (.cst (.int 1))) (.cons (.call 14 (.cons (.ix (.var 0) (.cst (.int 2))) .nil)) .nil))))) .skip) .skip) (.seq (.ite (.and (.op2 .eq (.ix (.var 0) (.cst (.int 0))) (.cst (.str ⟨#[97, 108, 108]⟩))) (.op2 .eq (.blt .len (.cons (.var 0) .nil)) (.cst (.int 2)))) (.seq (.ret (.tup (.cons (.cst (.str ⟨#[97, 108, 108]⟩)) (.cons (.lc [none, none, none] (.tup [1, 2]) (.ix (.var 0) (.cst (.int 1))) (.cst (.bl true)) (.tup (.cons (.var 1) (.cons (.call 14 (.cons (.var 2) .nil)) .nil)))) .nil)))) .skip) .skip) (.seq (.ret (.var 0)) .skip)))
noncomputable def ir15 : Ev.S := (.seq (.set (.one 3) (.call 11 (.cons (.var 1) (.cons (.cst (.int 12)) .nil)))) (.seq (.ite (.and (.op2 .eq (.ix (.var 0) (.cst (.int 0))) (.cst (.str ⟨#[109, 111, 118, 101]⟩))) (.op2 .lt (.var 3) (.cst (.int 6)))) (.seq (.ret (.tup (.cons (.cst (.str ⟨#[109, 111, 118, 101]⟩)) (.cons (.ix (.var 0) (.cst (.int 1))) (.cons (.call 15 (.cons (.ix (.var 0) (.cst (.int 2))) (.cons (.var 1) (.cons (.var 2) .nil)))) .nil))))) .skip) .skip) (.seq (.ite (.and (.op2 .eq (.ix (.var 0) (.cst (.int 0))) (.cst (.str ⟨#[97, 108, 108]⟩))) (.op2 .lt (.var 3) (.cst (.int 6)))) (.seq (.set (.one 4) (.blt .list (.cons (.ix (.var 0) (.cst (.int 1))) .nil))) (.seq (.set (.one 5) (.call 11 (.cons (.var 1) (.cons (.blt .len (.cons (.var 4) .nil)) .nil)))) (.seq (.put (.var 4) (.var 5) (.tup (.cons (.ix (.ix (.var 4) (.var 5)) (.cst (.int 0))) (.cons (.call 15 (.cons (.ix (.ix (.var 4) (.var 5)) (.cst (.int 1))) (.cons (.var 1) (.cons (.var 2) .nil)))) .nil)))) (.seq (.ret (.tup (.cons (.cst (.str ⟨#[97, 108, 108]⟩)) (.cons (.var 4) .nil)))) .skip)))) .skip) (.seq (.set (.one 6) (.tup (.cons (.tup (.cons (.call 11 (.cons (.var 1) (.cons (.cst (.int 4)) .nil))) (.cons (.call 11 (.cons (.var 1) (.cons (.cst (.int 4)) .nil))) .nil))) (.cons (.tup (.cons (.call 11 (.cons (.var 1) (.cons (.cst (.int 4)) .nil))) (.cons (.call 11 (.cons (.var 1) (.cons (.cst (.int 4)) .nil))) .nil))) .nil)))) (.seq (.ite (.op2 .eq (.ix (.var 0) (.cst (.int 0))) (.cst (.str ⟨#[109, 111, 118, 101]⟩))) (.seq (.set (.one 7) (.lst (.cons (.ix (.var 0) (.cst (.int 2))) (.cons (.tup (.cons (.cst (.str ⟨#[109, 111, 118, 101]⟩)) (.cons (.var 6) (.cons (.ix (.var 0) (.cst (.int 2))) .nil)))) (.cons (.tup (.cons (.cst (.str ⟨#[109, 111, 118, 101]⟩)) (.cons (.ix (.var 0) (.cst (.int 1))) .nil))) (.cons (.tup (.cons (.cst (.str ⟨#[97, 108, 108]⟩)) (.cons (.lst (.cons (.tup (.cons (.ix (.var 0) (.cst (.int 1))) (.cons (.ix (.var 0) (.cst (.int 2))) .nil))) .nil)) .nil))) .nil)))))) (.seq (.ret (.ix (.op2 .add (.var 7) (.lst (.cons (.tup (.cons (.cst (.str ⟨#[119, 111, 110]⟩)) .nil)) (.cons (.tup (.cons (.cst (.str ⟨#[110, 111, 116]⟩)) .nil)) (.cons (.tup (.cons (.cst (.str ⟨#[109, 111, 118, 101]⟩)) (.cons (.var 6) (.cons (.tup (.cons (.cst (.str ⟨#[108, 111, 115, 116]⟩)) .nil)) .nil)))) .nil))))) (.call 11 (.cons (.var 1) (.cons (.cst (.int 7)) .nil))))) .skip)) .skip) (.seq (.ite (.op2 .eq (.ix (.var 0) (.cst (.int 0))) (.cst (.str ⟨#[97, 108, 108]⟩))) (.seq (.set (.one 4) (.blt .list (.cons (.ix (.var 0) (.cst (.int 1))) .nil))) (.seq (.set (.one 5) (.call 11 (.cons (.var 1) (.cons (.blt .len (.cons (.var 4) .nil)) .nil)))) (.seq (.set (.one 8) (.call 11 (.cons (.var 1) (.cons (.cst (.int 7)) .nil)))) (.seq (.ite (.op2 .eq (.var 8) (.cst (.int 0))) (.seq (.drop (.mth .pop (.var 4) (.cons (.var 5) .nil))) .skip) .skip) (.seq (.ite (.op2 .eq (.var 8) (.cst (.int 1))) (.seq (.drop (.mth .reverse (.var 4) .nil)) .skip) .skip) (.seq (.ite (.op2 .eq (.var 8) (.cst (.int 2))) (.seq (.drop (.mth .insert (.var 4) (.cons (.var 5) (.cons (.ix (.var 4) (.var 5)) .nil)))) .skip) .skip) (.seq (.ite (.op2 .eq (.var 8) (.cst (.int 3))) (.seq (.put (.var 4) (.var 5) (.tup (.cons (.var 6) (.cons (.ix (.ix (.var 4) (.var 5)) (.cst (.int 1))) .nil)))) .skip) .skip) (.seq (.ite (.op2 .eq (.var 8) (.cst (.int 4))) (.seq (.ret (.tup (.cons (.cst (.str ⟨#[109, 111, 118, 101]⟩)) (.cons (.ix (.ix (.var 4) (.var 5)) (.cst (.int 0))) (.cons (.ix (.ix (.var 4) (.var 5)) (.cst (.int 1))) .nil))))) .skip) .skip) (.seq (.ite (.op2 .eq (.var 8) (.cst (.int 5))) (.seq (.set (.one 4) (.lst .nil)) .skip) .skip) (.seq (.ite (.op2 .eq (.var 8) (.cst (.int 6))) (.seq (.ret (.ix (.lst (.cons (.tup (.cons (.cst (.str ⟨#[119, 111, 110]⟩)) .nil)) (.cons (.tup (.cons (.cst (.str ⟨#[110, 111, 116]⟩)) .nil)) (.cons (.tup (.cons (.cst (.str ⟨#[101, 118, 101, 114, 121]⟩)) (.cons (.var 4) .nil))) .nil)))) (.call 11 (.cons (.var 1) (.cons (.cst (.int 3)) .nil))))) .skip) .skip) (.seq (.ret (.tup (.cons (.cst (.str ⟨#[97, 108, 108]⟩)) (.cons (.var 4) .nil)))) .skip))))))))))) .skip) (.seq (.ret (.ix (.lst (.cons (.tup (.cons (.cst (.str ⟨#[119, 111, 110]⟩)) .nil)) (.cons (.tup (.cons (.cst (.str ⟨#[110, 111, 116]⟩)) .nil)) (.cons (.tup (.cons (.cst (.str ⟨#[119, 111, 110]⟩)) (.cons (.cst (.int 1)) .nil))) (.cons (.tup .nil) (.cons (.tup (.cons (.cst (.str ⟨#[109, 111, 118, 101]⟩)) (.cons (.var 6) (.cons (.var 0) .nil)))) (.cons (.tup (.cons (.cst (.str ⟨#[108, 111, 115, 116]⟩)) .nil)) .nil))))))) (.call 11 (.cons (.var 1) (.cons (.cst (.int 6)) .nil))))) .skip)))))))
noncomputable def ir16 : Ev.S := (.seq (.set (.one 1) (.lst (.cons (.isi (.var 0) (.x 1)) (.cons (.isi (.var 0) (.x 2)) (.cons (.isi (.var 0) (.x 3)) (.cons (.isi (.var 0) (.x 4)) .nil)))))) (.seq (.set (.one 1) (.op2 .add (.var 1) (.lst (.cons (.isi (.var 0) (.x 5)) (.cons (.isi (.var 0) (.x 6)) (.cons (.isi (.var 0) (.x 7)) (.cons (.isi (.var 0) (.x 8)) .nil))))))) (.seq (.set (.one 1) (.op2 .add (.var 1) (.lst (.cons (.isi (.var 0) (.x 9)) (.cons (.isi (.var 0) (.x 10)) (.cons (.isi (.var 0) (.x 11)) (.cons (.isi (.var 0) (.x 12)) .nil))))))) (.seq (.ite (.or (.not (.isi (.var 0) (.b "ValueError"))) (.op2 .ne (.mth .count (.var 1) (.cons (.cst (.bl true)) .nil)) (.cst (.int 1)))) (.seq (.ret (.cst (.int 99))) .skip) .skip) (.seq (.ret (.mth .index (.var 1) (.cons (.cst (.bl true)) .nil))) .skip)))))
noncomputable def ir17 : Ev.S := (.seq (.set (.one 3) (.call 11 (.cons (.var 0) (.cons (.cst (.int 3)) .nil)))) (.seq (.ite (.or (.op2 .eq (.var 1) (.cst (.int 0))) (.op2 .eq (.var 3) (.cst (.int 0)))) (.seq (.ret (.tup (.cons (.var 2) .nil))) .skip) .skip) (.seq (.set (.one 4) (.lst .nil)) (.seq (.loop (.one 5) (.rng (.cons (.op2 .add (.cst (.int 1)) (.op2 .mul (.op2 .mod (.var 3) (.cst (.int 2))) (.call 11 (.cons (.var 0) (.cons (.cst (.int 3)) .nil))))) .nil)) (.seq (.set (.one 6) (.tup (.cons (.tup (.cons (.call 11 (.cons (.var 0) (.cons (.cst (.int 4)) .nil))) (.cons (.var 5) .nil))) (.cons (.tup (.cons (.call 11 (.cons (.var 0) (.cons (.cst (.int 4)) .nil))) (.cons (.call 11 (.cons (.var 0) (.cons (.cst (.int 4)) .nil))) .nil))) .nil)))) (.seq (.drop (.mth .append (.var 4) (.cons (.tup (.cons (.var 6) (.cons (.call 17 (.cons (.var 0) (.cons (.op2 .sub (.var 1) (.cst (.int 1))) (.cons (.var 2) .nil)))) .nil))) .nil))) .skip))) (.seq (.ite (.op2 .eq (.var 3) (.cst (.int 1))) (.seq (.ret (.tup (.cons (.cst (.str ⟨#[97, 108, 108]⟩)) (.cons (.var 4) .nil)))) .skip) .skip) (.seq (.ret (.tup (.cons (.cst (.str ⟨#[109, 111, 118, 101]⟩)) (.cons (.ix (.ix (.var 4) (.cst (.int 0))) (.cst (.int 0))) (.cons (.ix (.ix (.var 4) (.cst (.int 0))) (.cst (.int 1))) .nil))))) .skip))))))
noncomputable def ir18 : Ev.S := (.seq (.ite (.op2 .eq (.ix (.var 0) (.cst (.int 0))) (.cst (.str ⟨#[109, 111, 118, 101]⟩))) (.seq (.ret (.op2 .add (.cst (.int 1)) (.call 18 (.cons (.ix (.var 0) (.cst (.int 2))) .nil)))) .skip) .skip) (.seq (.ite (.op2 .eq (.ix (.var 0) (.cst (.int 0))) (.cst (.str ⟨#[97, 108, 108]⟩))) (.seq (.ret (.op2 .add (.cst (.int 1)) (.blt .max (.cons (.lc [none, none, none] (.tup [1, 2]) (.ix (.var 0) (.cst (.int 1))) (.cst (.bl true)) (.call 18 (.cons (.var 2) .nil))) .nil)))) .skip) .skip) (.seq (.ret (.cst (.int 0))) .skip)))
noncomputable def ir19 : Ev.S := (.seq (.set (.one 1) (.call 10 (.cons (.var 0) (.cons (.cst (.int 0)) .nil)))) (.seq (.set (.one 2) (.call 17 (.cons (.var 1) (.cons (.call 11 (.cons (.var 1) (.cons (.cst (.int 5)) .nil))) (.cons (.ix (.lst (.cons (.cst (.str ⟨#[119, 111, 110]⟩)) (.cons (.cst (.str ⟨#[110, 111, 116]⟩)) .nil))) (.call 11 (.cons (.var 1) (.cons (.cst (.int 2)) .nil)))) .nil))))) (.seq (.ite (.op2 .eq (.call 11 (.cons (.var 1) (.cons (.cst (.int 3)) .nil))) (.cst (.int 1))) (.seq (.set (.one 2) (.call 15 (.cons (.var 2) (.cons (.var 1) (.cons (.lst .nil) .nil))))) .skip) .skip) (.seq (.set (.one 3) (.or (.call 13 (.cons (.var 2) (.cons (.cst (.str ⟨#[119, 111, 110]⟩)) .nil))) (.call 13 (.cons (.var 2) (.cons (.cst (.str ⟨#[110, 111, 116]⟩)) .nil))))) (.seq (.set (.one 4) (.ite (.var 3) (.call 14 (.cons (.var 2) .nil)) (.var 2))) (.seq (.set (.one 5) (.neg (.cst (.int 1)))) (.seq (.set (.one 6) (.cst .non)) (.seq (.try (.seq (.set (.one 6) (.call 2 (.cons (.var 4) .nil))) .skip) 0 7 (.seq (.set (.one 5) (.call 16 (.cons (.var 7) .nil))) .skip)) (.seq (.ite (.op2 .ne (.var 4) (.var 2)) (.seq (.ret (.cst (.bl false))) .skip) .skip) (.seq (.ite (.not (.var 3)) (.seq (.ret (.and (.op2 .eq (.var 5) (.cst (.int 5))) (.op2 .isn (.var 6) (.cst .non)))) .skip) .skip) (.seq (.ret (.and (.op2 .eq (.var 5) (.neg (.cst (.int 1)))) (.and (.call 12 (.cons (.var 6) .nil)) (.op2 .eq (.var 6) (.call 18 (.cons (.var 2) .nil)))))) .skip)))))))))))
noncomputable def cfgI : Cfg := ⟨[⟨1, 1, ir0⟩, ⟨2, 2, ir1⟩, ⟨1, 1, ir2⟩, ⟨2, 2, ir3⟩, ⟨2, 2, ir4⟩, ⟨2, 2, ir5⟩, ⟨1, 1, ir6⟩, ⟨1, 1, ir7⟩, ⟨1, 1, ir8⟩, ⟨2, 3, ir9⟩, ⟨2, 3, ir10⟩, ⟨2, 4, ir11⟩, ⟨1, 1, ir12⟩, ⟨2, 2, ir13⟩, ⟨1, 1, ir14⟩, ⟨3, 9, ir15⟩, ⟨1, 2, ir16⟩, ⟨3, 7, ir17⟩, ⟨1, 1, ir18⟩, ⟨1, 8, ir19⟩], 13, xs, wh⟩
theorem fn0 : cfgI.fns[0]? = some ⟨1, 1, ir0⟩ := rfl
theorem fn1 : cfgI.fns[1]? = some ⟨2, 2, ir1⟩ := rfl
theorem fn2 : cfgI.fns[2]? = some ⟨1, 1, ir2⟩ := rfl
theorem fn3 : cfgI.fns[3]? = some ⟨2, 2, ir3⟩ := rfl
theorem fn4 : cfgI.fns[4]? = some ⟨2, 2, ir4⟩ := rfl
theorem fn5 : cfgI.fns[5]? = some ⟨2, 2, ir5⟩ := rfl
theorem fn6 : cfgI.fns[6]? = some ⟨1, 1, ir6⟩ := rfl
theorem fn7 : cfgI.fns[7]? = some ⟨1, 1, ir7⟩ := rfl
theorem fn8 : cfgI.fns[8]? = some ⟨1, 1, ir8⟩ := rfl
theorem fn9 : cfgI.fns[9]? = some ⟨2, 3, ir9⟩ := rfl
theorem fn10 : cfgI.fns[10]? = some ⟨2, 3, ir10⟩ := rfl
theorem fn11 : cfgI.fns[11]? = some ⟨2, 4, ir11⟩ := rfl
theorem fn12 : cfgI.fns[12]? = some ⟨1, 1, ir12⟩ := rfl
theorem fn13 : cfgI.fns[13]? = some ⟨2, 2, ir13⟩ := rfl
theorem fn14 : cfgI.fns[14]? = some ⟨1, 1, ir14⟩ := rfl
theorem fn15 : cfgI.fns[15]? = some ⟨3, 9, ir15⟩ := rfl
theorem fn17 : cfgI.fns[17]? = some ⟨3, 7, ir17⟩ := rfl
theorem fn18 : cfgI.fns[18]? = some ⟨1, 1, ir18⟩ := rfl
theorem fn19 : cfgI.fns[19]? = some ⟨1, 8, ir19⟩ := rfl
theorem cfg_eq : cfg = cfgI := by kernel_rfl
end K30
set_option Elab.async false
set_option linter.all false
set_option maxRecDepth 100000
namespace K30
open PySem Ev L2 PySem.SeqAt
noncomputable abbrev sMove : Str := ⟨#[109, 111, 118, 101]⟩
noncomputable abbrev sAll : Str := ⟨#[97, 108, 108]⟩
noncomputable abbrev sEvery : Str := ⟨#[101, 118, 101, 114, 121]⟩
noncomputable abbrev sWon : Str := ⟨#[119, 111, 110]⟩
noncomputable abbrev sNot : Str := ⟨#[110, 111, 116]⟩
noncomputable abbrev sLost : Str := ⟨#[108, 111, 115, 116]⟩
noncomputable def leaves : List Str := [sWon, sNot, sLost]
structure Mv where
  a : Int
  b : Int
  c : Int
  d : Int
noncomputable def mvW (m : Mv) : W := .tup [.tup [.int m.a, .int m.b], .tup [.int m.c, .int m.d]]
noncomputable def mvD (m : Mv) : PyData := .tuple [.tuple [.int m.a, .int m.b], .tuple [.int m.c, .int m.d]]
noncomputable def Rows (R : W → PyData → Prop) : List W → List PyData → Prop
  | [], ds => ds = []
  | w :: ws, ds => ∃ m w' d' r, w = .tup [mvW m, w'] ∧ ds = .tuple [mvD m, d'] :: r ∧ R w' d' ∧ Rows R ws r
noncomputable def Tree (b : Nat) (g : G) : Nat → W → PyData → Prop
  | 0, _, _ => False
  | n + 1, w, d =>
    (∃ s, s ∈ leaves ∧ w = .tup [.str s] ∧ d = .tuple [.str s]) ∨
    (∃ m w' d', w = .tup [.str sMove, mvW m, w'] ∧ d = .tuple [.str sMove, mvD m, d'] ∧ Tree b g n w' d') ∨
    (∃ i ws ds, w = .tup [.str sAll, .ref i] ∧ d = .tuple [.str sAll, .list ds] ∧ 0 < i ∧ g[i]? = some (.lst ws) ∧ ws.length ≤ b ∧ Rows (Tree b g n) ws ds) ∨
    (∃ i ws ds, w = .tup [.str sEvery, .ref i] ∧ d = .tuple [.str sEvery, .list ds] ∧ 0 < i ∧ g[i]? = some (.lst ws) ∧ ws.length ≤ b ∧ Rows (Tree b g n) ws ds) ∨
    (∃ m, w = .tup [.str sMove, mvW m] ∧ d = .tuple [.str sMove, mvD m]) ∨
    (w = .tup [.str sWon, .int 1] ∧ d = .tuple [.str sWon, .int 1]) ∨
    (w = .tup [] ∧ d = .tuple [])
noncomputable def Kp (g g' : G) : Prop := ∀ (i : Nat) o, 0 < i → g[i]? = some o → g'[i]? = some o
theorem Kp.refl (g : G) : Kp g g := fun _ _ _ h => h
theorem Kp.trans {g g1 g2 : G} (h : Kp g g1) (k : Kp g1 g2) : Kp g g2 := fun i o hi e => k i o hi (h i o hi e)
theorem Kp.pre {g g' : G} (h : g <+: g') : Kp g g' := fun i o _ e => get_pre h e
theorem Kp.app (g : G) (l : G) : Kp g (g ++ l) := Kp.pre (List.prefix_append _ _)
theorem Rows.imp {R R' : W → PyData → Prop} (h : ∀ w d, R w d → R' w d) : ∀ {ws : List W} {ds : List PyData}, Rows R ws ds → Rows R' ws ds
  | [], _, r => r
  | w :: ws, _, ⟨m, w', d', r, e1, e2, r1, r2⟩ => ⟨m, w', d', r, e1, e2, h _ _ r1, Rows.imp h r2⟩
theorem Rows.len {R : W → PyData → Prop} : ∀ {ws : List W} {ds : List PyData}, Rows R ws ds → ws.length = ds.length
  | [], _, r => by cases r; rfl
  | w :: ws, _, ⟨m, w', d', r, e1, e2, r1, r2⟩ => by rw [e2]; simp [Rows.len r2]
theorem Rows.get {R : W → PyData → Prop} : ∀ {ws : List W} {ds : List PyData} {j : Nat} {x : W}, Rows R ws ds → ws[j]? = some x → ∃ m w' d', x = .tup [mvW m, w'] ∧ ds[j]? = some (.tuple [mvD m, d']) ∧ R w' d'
  | [], _, _, _, r, e => by simp at e
  | w :: ws, _, 0, x, ⟨m, w', d', r, e1, e2, r1, r2⟩, e => by
    simp at e
    subst e e2
    exact ⟨m, w', d', e1, rfl, r1⟩
  | w :: ws, _, j + 1, x, ⟨m, w', d', r, e1, e2, r1, r2⟩, e => by
    subst e2
    obtain ⟨m', w2, d2, h1, h2, h3⟩ := Rows.get (j := j) r2 (by simpa using e)
    exact ⟨m', w2, d2, h1, by simpa using h2, h3⟩
theorem Tree.kp {b : Nat} {g g' : G} (h : Kp g g') : ∀ {n : Nat} {w : W} {d : PyData}, Tree b g n w d → Tree b g' n w d
  | 0, _, _, t => t
  | n + 1, w, d, t => by
    unfold Tree at t ⊢
    rcases t with t | ⟨m, w', d', e1, e2, t⟩ | ⟨i, ws, ds, e1, e2, hi, e3, hl, r⟩ | ⟨i, ws, ds, e1, e2, hi, e3, hl, r⟩ | t | t | t
    · exact .inl t
    · exact .inr (.inl ⟨m, w', d', e1, e2, Tree.kp h t⟩)
    · exact .inr (.inr (.inl ⟨i, ws, ds, e1, e2, hi, h i _ hi e3, hl, r.imp fun _ _ => Tree.kp h⟩))
    · exact .inr (.inr (.inr (.inl ⟨i, ws, ds, e1, e2, hi, h i _ hi e3, hl, r.imp fun _ _ => Tree.kp h⟩)))
    · exact .inr (.inr (.inr (.inr (.inl t))))
    · exact .inr (.inr (.inr (.inr (.inr (.inl t)))))
    · exact .inr (.inr (.inr (.inr (.inr (.inr t)))))
theorem Tree.up {b b' : Nat} {g : G} (hb : b ≤ b') : ∀ {n n' : Nat} {w : W} {d : PyData}, n ≤ n' → Tree b g n w d → Tree b' g n' w d
  | 0, _, _, _, _, t => by unfold Tree at t; exact t.elim
  | n + 1, 0, _, _, hn, _ => by omega
  | n + 1, n' + 1, w, d, hn, t => by
    unfold Tree at t ⊢
    have hn : n ≤ n' := by omega
    rcases t with t | ⟨m, w', d', e1, e2, t⟩ | ⟨i, ws, ds, e1, e2, hi, e3, hl, r⟩ | ⟨i, ws, ds, e1, e2, hi, e3, hl, r⟩ | t | t | t
    · exact .inl t
    · exact .inr (.inl ⟨m, w', d', e1, e2, Tree.up hb hn t⟩)
    · exact .inr (.inr (.inl ⟨i, ws, ds, e1, e2, hi, e3, by omega, r.imp fun _ _ => Tree.up hb hn⟩))
    · exact .inr (.inr (.inr (.inl ⟨i, ws, ds, e1, e2, hi, e3, by omega, r.imp fun _ _ => Tree.up hb hn⟩)))
    · exact .inr (.inr (.inr (.inr (.inl t))))
    · exact .inr (.inr (.inr (.inr (.inr (.inl t)))))
    · exact .inr (.inr (.inr (.inr (.inr (.inr t)))))
theorem allO_cons {α β : Type} {f : α → Option β} {a : α} {r : List α} {b : β} {l : List β} (h : f a = some b) (k : allO f r = some l) : allO f (a :: r) = some (b :: l) := by
  unfold allO
  rw [h, k]
  rfl
theorem allO_nil {α β : Type} {f : α → Option β} : allO f [] = some [] := by unfold allO; rfl
theorem toD_tup {g : G} {n : Nat} {ws : List W} {ds : List PyData} (h : allO (toD g n) ws = some ds) : toD g (n + 1) (.tup ws) = some (.tuple ds) := by
  unfold toD
  rw [h]
  rfl
theorem toD_ctup {g : G} {n : Nat} {ws : List W} {ds : List PyData} (h : allO (toD g n) ws = some ds) : toD g (n + 1) (.ctup ws) = some (.tuple ds) := by
  unfold toD
  rw [h]
  rfl
theorem toD_ref {g : G} {n i : Nat} {ws : List W} {ds : List PyData} (hg : g[i]? = some (.lst ws)) (h : allO (toD g n) ws = some ds) : toD g (n + 1) (.ref i) = some (.list ds) := by
  unfold toD
  rw [hg]
  show (allO (toD g n) ws).map PyData.list = _
  rw [h]
  rfl
theorem toD_str {g : G} {n : Nat} {x : Str} : toD g (n + 1) (.str x) = some (.str x) := by unfold toD; rfl
theorem toD_int {g : G} {n : Nat} {x : Int} : toD g (n + 1) (.int x) = some (.int x) := by unfold toD; rfl
theorem toD_mv {g : G} {k : Nat} (m : Mv) : toD g (k + 3) (mvW m) = some (mvD m) :=
  toD_tup (allO_cons (toD_tup (allO_cons toD_int (allO_cons toD_int allO_nil))) (allO_cons (toD_tup (allO_cons toD_int (allO_cons toD_int allO_nil))) allO_nil))
theorem toD_rows {g : G} {k : Nat} {R : W → PyData → Prop} (h : ∀ w d, R w d → toD g (k + 3) w = some d) : ∀ {ws : List W} {ds : List PyData}, Rows R ws ds → allO (toD g (k + 4)) ws = some ds
  | [], _, r => by cases r; exact allO_nil
  | w :: ws, _, ⟨m, w', d', r, e1, e2, r1, r2⟩ => by
    subst e1 e2
    exact allO_cons (toD_tup (allO_cons (toD_mv m) (allO_cons (h _ _ r1) allO_nil))) (toD_rows h r2)
theorem Tree.toD {b : Nat} {g : G} : ∀ {n : Nat} {w : W} {d : PyData} {k : Nat}, Tree b g n w d → 3 * n ≤ k → toD g (k + 3) w = some d
  | 0, _, _, _, t, _ => by unfold Tree at t; exact t.elim
  | n + 1, w, d, k, t, hk => by
    obtain ⟨k, rfl⟩ : ∃ k', k = k' + 3 := ⟨k - 3, by omega⟩
    unfold Tree at t
    rcases t with ⟨s, _, rfl, rfl⟩ | ⟨m, w', d', rfl, rfl, t⟩ | ⟨i, ws, ds, rfl, rfl, hi, e3, hl, r⟩ | ⟨i, ws, ds, rfl, rfl, hi, e3, hl, r⟩ | ⟨m, rfl, rfl⟩ | ⟨rfl, rfl⟩ | ⟨rfl, rfl⟩
    · exact toD_tup (allO_cons toD_str allO_nil)
    · exact toD_tup (allO_cons toD_str (allO_cons (toD_mv m) (allO_cons (Tree.toD (k := k + 2) t (by omega)) allO_nil)))
    · exact toD_tup (allO_cons toD_str (allO_cons (toD_ref e3 (toD_rows (k := k) (fun w d t => Tree.toD t (by omega)) r)) allO_nil))
    · exact toD_tup (allO_cons toD_str (allO_cons (toD_ref e3 (toD_rows (k := k) (fun w d t => Tree.toD t (by omega)) r)) allO_nil))
    · exact toD_tup (allO_cons toD_str (allO_cons (toD_mv m) allO_nil))
    · exact toD_tup (allO_cons toD_str (allO_cons toD_int allO_nil))
    · exact toD_tup allO_nil
theorem rows_lay {R : W → PyData → Prop} {k : Nat} (h : ∀ w d, R w d → d.canLay0 = true ∧ d.depth ≤ k + 2) : ∀ {ws : List W} {ds : List PyData}, Rows R ws ds → PyData.canLayAll0 ds = true ∧ PyData.depthAll ds ≤ k + 3
  | [], _, r => by cases r; exact ⟨rfl, by unfold PyData.depthAll; omega⟩
  | w :: ws, _, ⟨m, w', d', r, e1, e2, r1, r2⟩ => by
    subst e2
    obtain ⟨h1, h2⟩ := h _ _ r1
    obtain ⟨h3, h4⟩ := rows_lay h r2
    constructor
    · simp only [PyData.canLayAll0, PyData.canLay0, mvD, h1, h3, Bool.and_self]
    · simp only [PyData.depthAll, PyData.depth, mvD]
      omega
theorem Tree.lay {b : Nat} {g : G} : ∀ {n : Nat} {w : W} {d : PyData}, Tree b g n w d → d.canLay0 = true ∧ d.depth ≤ 3 * n + 2
  | 0, _, _, t => by unfold Tree at t; exact t.elim
  | n + 1, w, d, t => by
    unfold Tree at t
    have sm : PyData.strOk sMove = true := by decide +kernel
    have sa : PyData.strOk sAll = true := by decide +kernel
    have se : PyData.strOk sEvery = true := by decide +kernel
    have sw : PyData.strOk sWon = true := by decide +kernel
    rcases t with ⟨s, hs, rfl, rfl⟩ | ⟨m, w', d', rfl, rfl, t⟩ | ⟨i, ws, ds, rfl, rfl, hi, e3, hl, r⟩ | ⟨i, ws, ds, rfl, rfl, hi, e3, hl, r⟩ | ⟨m, rfl, rfl⟩ | ⟨rfl, rfl⟩ | ⟨rfl, rfl⟩
    · have : PyData.strOk s = true := by
        have : ∀ s ∈ leaves, PyData.strOk s = true := by decide +kernel
        exact this s hs
      simp only [PyData.canLayAll0, PyData.canLay0, this, PyData.depthAll, PyData.depth, Bool.and_self]
      exact ⟨trivial, by omega⟩
    · obtain ⟨h1, h2⟩ := Tree.lay t
      simp only [PyData.canLayAll0, PyData.canLay0, mvD, h1, sm, PyData.depthAll, PyData.depth, Bool.and_self]
      exact ⟨trivial, by omega⟩
    · obtain ⟨h1, h2⟩ := rows_lay (k := 3 * n) (fun w d t => Tree.lay t) r
      simp only [PyData.canLayAll0, PyData.canLay0, h1, sa, PyData.depthAll, PyData.depth, Bool.and_self]
      exact ⟨trivial, by omega⟩
    · obtain ⟨h1, h2⟩ := rows_lay (k := 3 * n) (fun w d t => Tree.lay t) r
      simp only [PyData.canLayAll0, PyData.canLay0, h1, se, PyData.depthAll, PyData.depth, Bool.and_self]
      exact ⟨trivial, by omega⟩
    · simp only [PyData.canLayAll0, PyData.canLay0, mvD, sm, PyData.depthAll, PyData.depth, Bool.and_self]
      exact ⟨trivial, by omega⟩
    · simp only [PyData.canLayAll0, PyData.canLay0, sw, PyData.depthAll, PyData.depth, Bool.and_self]
      exact ⟨trivial, by omega⟩
    · simp only [PyData.canLayAll0, PyData.canLay0, PyData.depthAll, PyData.depth]
      exact ⟨trivial, by omega⟩
theorem Tree.shaped {b n : Nat} {g : G} {w : W} {d : PyData} (t : Tree b g n w d) (hn : n ≤ 12) : shaped d = true := by
  obtain ⟨h1, h2⟩ := t.lay
  unfold SeqAt.shaped
  rw [h1, decide_eq_true (by omega)]
  rfl
theorem Tree.toD60 {b n : Nat} {g : G} {w : W} {d : PyData} (t : Tree b g n w d) (hn : n ≤ 12) : Ev.toD g 60 w = some d := Tree.toD (k := 57) t (by omega)
end K30
set_option Elab.async false
set_option linter.all false
set_option maxRecDepth 100000
namespace K30
open PySem Ev L2 PySem.SeqAt
noncomputable def okD : Nat → Str → PyData → Bool
  | 0, _, _ => false
  | n + 1, leaf, .tuple [.str s] => decide (s = leaf)
  | n + 1, leaf, .tuple [.str k, _, d] => decide (k = sMove) && okD n leaf d
  | n + 1, leaf, .tuple [.str k, .list ds] => decide (k = sAll) && (!ds.isEmpty && ds.all fun r => match r with
    | .tuple [_, d] => okD n leaf d
    | _ => false)
  | _, _, _ => false
theorem empty_eq {ds : List PyData} : PyData.eqv (.list ds) (.list []) = ds.isEmpty := by
  cases ds with
  | nil => simp [PyData.eqv, PyData.eqvAll]
  | cons d ds => simp [PyData.eqv, PyData.eqvAll]
theorem rows_shaped {b n : Nat} {g : G} {ws : List W} {ds : List PyData} (r : Rows (Tree b g n) ws ds) (hn : n ≤ 12) : shaped (.list ds) = true := by
  obtain ⟨h1, h2⟩ := rows_lay (k := 3 * n) (fun w d t => Tree.lay t) r
  unfold SeqAt.shaped
  rw [Bool.and_eq_true]
  refine ⟨by simp only [PyData.canLay0]; exact h1, decide_eq_true ?_⟩
  simp only [PyData.depth]
  omega
theorem rows_toD {b n i : Nat} {g : G} {ws : List W} {ds : List PyData} (r : Rows (Tree b g n) ws ds) (hn : n ≤ 12) (hg : g[i]? = some (.lst ws)) : toD g 60 (.ref i) = some (.list ds) :=
  toD_ref hg (toD_rows (k := 55) (fun w d t => Tree.toD t (by omega)) r)
theorem eq_empty {b n i : Nat} {g : G} {ws : List W} {ds : List PyData} (r : Rows (Tree b g n) ws ds) (hn : n ≤ 12) (hi : 0 < i) (hg : g[i]? = some (.lst ws)) : eqW (g ++ [.lst []]) (.ref i) (.ref g.length) = some ds.isEmpty := by
  have k := Kp.app g [.lst []]
  have r' : Rows (Tree b (g ++ [.lst []]) n) ws ds := r.imp fun _ _ => Tree.kp k
  have e1 := rows_toD r' hn (k i _ hi hg)
  have e2 : toD (g ++ [.lst []]) 60 (.ref g.length) = some (.list []) := toD_ref (by rw [List.getElem?_append_right (Nat.le_refl _), Nat.sub_self]; rfl) allO_nil
  show (match toD (g ++ [.lst []]) 60 (.ref i), toD (g ++ [.lst []]) 60 (.ref g.length) with | some da, some db => if shaped da && shaped db then some (PyData.eqv da db) else none | _, _ => none) = _
  rw [e1, e2]
  show (if (shaped (.list ds) && shaped (.list [])) = true then some (PyData.eqv (.list ds) (.list [])) else none) = _
  rw [rows_shaped r hn, empty_eq]
  exact if_pos (by decide +kernel)
noncomputable def rowOk (n : Nat) (leaf : Str) (r : PyData) : Bool := match r with
  | .tuple [_, d] => okD n leaf d
  | _ => false
theorem okD_leaf {n : Nat} {leaf s : Str} : okD (n + 1) leaf (.tuple [.str s]) = decide (s = leaf) := rfl
theorem okD_mv {n : Nat} {leaf : Str} {m : Mv} {d : PyData} : okD (n + 1) leaf (.tuple [.str sMove, mvD m, d]) = okD n leaf d := by
  show (decide (sMove = sMove) && okD n leaf d) = _
  rw [decide_eq_true rfl]
  rfl
theorem okD_all {n : Nat} {leaf : Str} {ds : List PyData} : okD (n + 1) leaf (.tuple [.str sAll, .list ds]) = (!ds.isEmpty && ds.all (rowOk n leaf)) := by
  show (decide (sAll = sAll) && (!ds.isEmpty && ds.all (rowOk n leaf))) = _
  rw [decide_eq_true rfl]
  rfl
theorem okD_evr {n : Nat} {leaf : Str} {ds : List PyData} : okD (n + 1) leaf (.tuple [.str sEvery, .list ds]) = false := by
  show (decide (sEvery = sAll) && (!ds.isEmpty && ds.all (rowOk n leaf))) = false
  rw [decide_eq_false (by decide)]
  rfl
theorem okD_short {n : Nat} {leaf : Str} {m : Mv} : okD (n + 1) leaf (.tuple [.str sMove, mvD m]) = false := rfl
theorem okD_won1 {n : Nat} {leaf : Str} : okD (n + 1) leaf (.tuple [.str sWon, .int 1]) = false := rfl
theorem okD_unit {n : Nat} {leaf : Str} : okD (n + 1) leaf (.tuple []) = false := rfl
theorem big10 : (1000 : Nat) < sizeLine := by decide
theorem whole {f : Nat} {run : Nat → List W → G → Res W} {args : List W} {g : G} (h : wh f = true) : callM cfgI.wh run f args g = run f args g := if_pos h
theorem set1 {τ : Sl} {x : W} (h : τ.length = 3) : (τ.set 1 (some x))[1]? = some (some x) := List.getElem?_set_self (by omega)
theorem set1_2 {τ : Sl} {x : W} : (τ.set 1 (some x))[2]? = τ[2]? := List.getElem?_set_ne (by decide)
theorem ev_var_ok {P : Cfg} {cl : Nat → List W → G → Res W} {sl : Sl} {g : G} {i : Nat} {x : W} (h : sl[i]? = some (some x)) : ev P cl (.var i) sl g = .ok x g := by
  rw [ev_var]
  show (match sl[i]? with | some (some w) => Res.ok w g | _ => .stuck) = _
  rw [h]
theorem items_ref {g : G} {i : Nat} {ws : List W} (h : g[i]? = some (.lst ws)) : items g (.ref i) = some ws := by
  show (match g[i]? with | some (O.lst ws) => some ws | none => none) = _
  rw [h]
theorem evI_ref {P : Cfg} {cl : Nat → List W → G → Res W} {a b : E} {sl : Sl} {g g1 : G} {i : Nat} {ws : List W} (h : ev P cl (.ix a b) sl g = .ok (.ref i) g1) (hg : g1[i]? = some (.lst ws)) : evI P cl (.ix a b) sl g = .ok (.val (.ref i)) g1 := by
  have e : evI P cl (.ix a b) sl g = (ev P cl (.ix a b) sl g).bind fun w g1 => match valI g1 w with | some J => .ok J g1 | none => .stuck := rfl
  rw [e, h]
  show (match valI g1 (.ref i) with | some J => Res.ok J g1 | none => .stuck) = _
  have : valI g1 (.ref i) = some (.val (.ref i)) := by
    unfold valI
    rw [items_ref hg]
  rw [this]
theorem isL_ok : ∀ (n N : Nat) {b : Nat} {g : G} {w : W} {d : PyData} (leaf : Str), n ≤ 12 → n ≤ N → b ≤ 100 → Tree b g n w d → ∃ g', runN cfgI N 13 [w, .str leaf] g = .ok (.bl (okD n leaf d)) g' ∧ g <+: g'
  | 0, _, _, _, _, _, _, _, _, _, t => by unfold Tree at t; exact t.elim
  | n + 1, 0, _, _, _, _, _, _, h, _, _ => by omega
  | n + 1, N + 1, b, g, w, d, leaf, hn, hN, hb, t => by
    rw [runN_step fn13 rfl]
    suffices h : ∃ g', exec cfgI (callM cfgI.wh (runN cfgI N)) ir13 [some w, some (.str leaf)] g = .rt (.bl (okD (n + 1) leaf d)) g' ∧ g <+: g' by
      obtain ⟨g', e, h⟩ := h
      exact ⟨g', congrArg Out.fin e, h⟩
    unfold Tree at t
    rcases t with ⟨s, hs, rfl, rfl⟩ | ⟨m, w', d', rfl, rfl, t⟩ | ⟨i, ws, ds, rfl, rfl, hi, e3, hl, r⟩ | ⟨i, ws, ds, rfl, rfl, hi, e3, hl, r⟩ | ⟨m, rfl, rfl⟩ | ⟨rfl, rfl⟩ | ⟨rfl, rfl⟩
    · refine ⟨g, ?_, List.prefix_refl _⟩
      rw [okD_leaf]
      exact (exec_ifF rfl).trans ((exec_ifT rfl).trans (seqF_rt (exec_ret_ok rfl)))
    · obtain ⟨g', e, hp⟩ := isL_ok n N leaf (by omega) (by omega) hb t
      refine ⟨g', ?_, hp⟩
      rw [okD_mv]
      exact (exec_ifF rfl).trans ((exec_ifF rfl).trans ((exec_ifT rfl).trans (seqF_rt (exec_ret_ok (ev_call2 rfl rfl rfl ((whole rfl).trans e))))))
    · have big := big10
      have e1 : ev cfgI (callM cfgI.wh (runN cfgI N)) (.op2 .eq (.ix (.var 0) (.cst (.int 1))) (.lst .nil)) [some (.tup [.str sAll, .ref i]), some (.str leaf)] g = .ok (.bl ds.isEmpty) (g ++ [.lst []]) := by
        refine ev_op2_ok (x := .ref i) (y := .ref g.length) (g2 := g ++ [.lst []]) rfl rfl ?_
        show Res.of ((eqW (g ++ [.lst []]) (.ref i) (.ref g.length)).map .bl) (g ++ [.lst []]) = _
        rw [eq_empty r (by omega) hi e3]
        rfl
      have e2 : ev cfgI (callM cfgI.wh (runN cfgI N)) (.not (.isi (.ix (.var 0) (.cst (.int 1))) (.b "list"))) [some (.tup [.str sAll, .ref i]), some (.str leaf)] g = .ok (.bl false) g := by
        refine ev_not_ok (b := true) (ev_isi_ok (x := .ref i) rfl ?_)
        show (match g[i]? with | some (.lst _) => some true | none => none) = _
        rw [e3]
      have start : ∀ S1 S2 : Ev.S, exec cfgI (callM cfgI.wh (runN cfgI N)) (.seq (.ite (.or (.op2 .ne (.ix (.var 0) (.cst (.int 0))) (.cst (.str sAll))) (.or (.op2 .ne (.blt .len (.cons (.var 0) .nil)) (.cst (.int 2))) (.or (.not (.isi (.ix (.var 0) (.cst (.int 1))) (.b "list"))) (.op2 .eq (.ix (.var 0) (.cst (.int 1))) (.lst .nil))))) S1 .skip) S2) [some (.tup [.str sAll, .ref i]), some (.str leaf)] g
          = seqF (if ds.isEmpty then exec cfgI (callM cfgI.wh (runN cfgI N)) S1 else exec cfgI (callM cfgI.wh (runN cfgI N)) .skip) (exec cfgI (callM cfgI.wh (runN cfgI N)) S2) [some (.tup [.str sAll, .ref i]), some (.str leaf)] (g ++ [.lst []]) := fun S1 S2 =>
        exec_if (or_ff rfl (or_ff rfl (or_ff e2 e1))) rfl
      rw [okD_all]
      cases hd : ds.isEmpty with
      | true =>
        refine ⟨g ++ [.lst []], (exec_ifF rfl).trans ((exec_ifF rfl).trans ((exec_ifF rfl).trans ((start _ _).trans ?_))), List.prefix_append _ _⟩
        rw [hd, if_pos rfl]
        exact seqF_rt (exec_ret_ok rfl)
      | false =>
        -- the rows that are no trees
        have hg0 : (g ++ [.lst []] : G)[i]? = some (.lst ws) := Kp.app g [.lst []] i _ hi e3
        have hrow : ∀ (j : Nat) (x : W), ws[j]? = some x → ∃ m w' d', x = .tup [mvW m, w'] ∧ ds[j]? = some (.tuple [mvD m, d']) ∧ Tree b g n w' d' := fun j x hx => r.get hx
        obtain ⟨rs, τ', g', elc, hA, hτ, hp⟩ := ev_lc_inv (P := cfgI) (cl := callM cfgI.wh (runN cfgI N)) (fr := [none, none, some 1]) (t := .one 1) (it := .ix (.var 0) (.cst (.int 1))) (c := .or (.not (.isi (.var 1) (.b "tuple"))) (.not (.call 13 (.cons (.ix (.var 1) (.cst (.int 1))) (.cons (.var 2) .nil))))) (e := .var 1) (sl := [some (.tup [.str sAll, .ref i]), some (.str leaf)]) (g := g ++ [.lst []]) (g1 := g ++ [.lst []]) (w := .ref i) (xs := ws)
          (fun j acc τ g' => (acc.isEmpty = (ds.take j).all (rowOk n leaf)) ∧ (τ.length = 3 ∧ τ[2]? = some (some (.str leaf))) ∧ (g ++ [.lst []]) <+: g')
          (by
            exact evI_ref rfl hg0)
          (by omega) ⟨rfl, ⟨rfl, rfl⟩, List.prefix_refl _⟩
          (fun j acc τ g' ⟨_, _, hp⟩ => by
            exact items_ref (get_pre hp hg0))
          (fun j x acc τ g' hx ⟨hA, ⟨hτ, hτ2⟩, hp⟩ => by
            obtain ⟨m, w', d', rfl, hdj, ht⟩ := hrow j x hx
            have hp0 : g <+: g' := (List.prefix_append _ _).trans hp
            obtain ⟨g2, e2, hp2⟩ := isL_ok n N leaf (by omega) (by omega) hb (ht.kp (Kp.pre hp0))
            have hv1 : ∀ g'', ev cfgI (callM cfgI.wh (runN cfgI N)) (.var 1) (τ.set 1 (some (.tup [mvW m, w']))) g'' = .ok (.tup [mvW m, w']) g'' := fun g'' => ev_var_ok (set1 hτ)
            have hcond : ev cfgI (callM cfgI.wh (runN cfgI N)) (.or (.not (.isi (.var 1) (.b "tuple"))) (.not (.call 13 (.cons (.ix (.var 1) (.cst (.int 1))) (.cons (.var 2) .nil))))) (τ.set 1 (some (.tup [mvW m, w']))) g' = .ok (.bl (!okD n leaf d')) g2 :=
              or_ff (ev_not_ok (b := true) (ev_isi_ok (hv1 g') rfl)) (ev_not_ok (ev_call2 rfl (ev_ix_ok (hv1 g') rfl rfl) (ev_var_ok (by rw [set1_2]; exact hτ2)) ((whole rfl).trans e2)))
            have htk : ds.take (j + 1) = ds.take j ++ [.tuple [mvD m, d']] := by rw [List.take_succ, hdj]; rfl
            have hro : rowOk n leaf (.tuple [mvD m, d']) = okD n leaf d' := rfl
            have hall : (ds.take (j + 1)).all (rowOk n leaf) = ((ds.take j).all (rowOk n leaf) && okD n leaf d') := by
              rw [htk, List.all_append]
              simp [hro]
            have hst : lcStep (.one 1) (ev cfgI (callM cfgI.wh (runN cfgI N)) (.or (.not (.isi (.var 1) (.b "tuple"))) (.not (.call 13 (.cons (.ix (.var 1) (.cst (.int 1))) (.cons (.var 2) .nil)))))) (ev cfgI (callM cfgI.wh (runN cfgI N)) (.var 1)) (.tup [mvW m, w']) τ g' = .ok (τ.set 1 (some (.tup [mvW m, w'])), if okD n leaf d' then [] else [.tup [mvW m, w']]) g2 := by
              unfold lcStep
              show ((ev cfgI (callM cfgI.wh (runN cfgI N)) _ (τ.set 1 (some (.tup [mvW m, w']))) g').bind _) = _
              rw [hcond]
              cases okD n leaf d' with
              | true => rfl
              | false =>
                show ((ev cfgI (callM cfgI.wh (runN cfgI N)) (.var 1) (τ.set 1 (some (.tup [mvW m, w']))) g2).bind _) = _
                rw [hv1]
                rfl
            refine ⟨_, _, g2, hst, ?_, ⟨by simpa using hτ, by rw [set1_2]; exact hτ2⟩, hp.trans hp2⟩
            rw [hall, ← hA]
            cases okD n leaf d' with
            | true => simp
            | false =>
              cases acc <;> simp)
        have hlen := r.len
        have hA : rs.isEmpty = ds.all (rowOk n leaf) := by
          rw [hlen, List.take_length] at hA
          exact hA
        refine ⟨g' ++ [.lst rs], ?_, (List.prefix_append _ _).trans (hp.trans (List.prefix_append _ _))⟩
        refine (exec_ifF rfl).trans ((exec_ifF rfl).trans ((exec_ifF rfl).trans ((start _ _).trans ?_)))
        rw [hd]
        show exec cfgI (callM cfgI.wh (runN cfgI N)) _ [some (.tup [.str sAll, .ref i]), some (.str leaf)] (g ++ [.lst []]) = _
        refine exec_ret_ok (ev_op2_ok (x := .int rs.length) (g1 := g' ++ [.lst rs]) (ev_blt1 elc ?_) rfl ?_)
        · show Res.of ((items (g' ++ [.lst rs]) (.ref g'.length)).map fun ws => .int ws.length) _ = _
          have : items (g' ++ [.lst rs]) (.ref g'.length) = some rs := items_ref (by rw [List.getElem?_append_right (Nat.le_refl _), Nat.sub_self]; rfl)
          rw [this]
          rfl
        · show Res.ok (W.bl (decide ((rs.length : Int) = 0))) _ = _
          rw [← hA]
          cases rs with
          | nil => rfl
          | cons a l =>
            have : decide (((a :: l).length : Int) = 0) = false := decide_eq_false (by simp; omega)
            rw [this]
            rfl
    · refine ⟨g, ?_, List.prefix_refl _⟩
      rw [okD_evr]
      exact (exec_ifF rfl).trans ((exec_ifF rfl).trans ((exec_ifF rfl).trans ((exec_ifT (or_tt rfl)).trans (seqF_rt (exec_ret_ok rfl)))))
    · refine ⟨g, ?_, List.prefix_refl _⟩
      rw [okD_short]
      exact (exec_ifF rfl).trans ((exec_ifF rfl).trans ((exec_ifF rfl).trans ((exec_ifT (or_tt rfl)).trans (seqF_rt (exec_ret_ok rfl)))))
    · refine ⟨g, ?_, List.prefix_refl _⟩
      rw [okD_won1]
      exact (exec_ifF rfl).trans ((exec_ifF rfl).trans ((exec_ifF rfl).trans ((exec_ifT (or_tt rfl)).trans (seqF_rt (exec_ret_ok rfl)))))
    · refine ⟨g, ?_, List.prefix_refl _⟩
      rw [okD_unit]
      exact (exec_ifT rfl).trans (seqF_rt (exec_ret_ok rfl))
end K30
set_option Elab.async false
set_option linter.all false
set_option maxRecDepth 100000
namespace Ev
open PySem
theorem bools_of (bs : List Bool) : boolsW (bs.map .bl) = some bs := by
  induction bs with
  | nil => rfl
  | cons y ys ih =>
    show (boolsW (ys.map .bl)).map (y :: ·) = _
    rw [ih]
    rfl
theorem last_at {g : G} {o : O} : (g ++ [o])[g.length]? = some o := by
  rw [List.getElem?_append_right (Nat.le_refl _), Nat.sub_self]
  rfl
theorem all_bs {g : G} (bs : List Bool) : bltW .all [.ref g.length] (g ++ [.lst (bs.map .bl)]) = .ok (.bl (bs.all id)) (g ++ [.lst (bs.map .bl)]) := by
  show (match (g ++ [O.lst (bs.map W.bl)])[g.length]? with | some (.lst ws) => _ | none => _) = _
  rw [last_at]
  show (match boolsW (bs.map W.bl) with | some bs => Res.ok (W.bl (bs.all id)) _ | none => .stuck) = _
  rw [bools_of]
theorem any_bs {g : G} (bs : List Bool) : bltW .any [.ref g.length] (g ++ [.lst (bs.map .bl)]) = .ok (.bl (bs.any id)) (g ++ [.lst (bs.map .bl)]) := by
  show (match (g ++ [O.lst (bs.map W.bl)])[g.length]? with | some (.lst ws) => _ | none => _) = _
  rw [last_at]
  show (match boolsW (bs.map W.bl) with | some bs => Res.ok (W.bl (bs.any id)) _ | none => .stuck) = _
  rw [bools_of]
end Ev
namespace K30
open PySem Ev L2 PySem.SeqAt
theorem part {f : Nat} {run : Nat → List W → G → Res W} {args : List W} {g : G} (h : wh f = false) : callM cfgI.wh run f args g = callR run f args g := by
  show (if wh f = true then _ else _) = _
  rw [h]
  rfl
theorem istup_ok (N : Nat) (ws : List W) (k : Int) (g : G) : runN cfgI (N + 1) 1 [.tup ws, .int k] g = .ok (.bl (decide ((ws.length : Int) = k))) g := by
  rw [runN_step fn1 rfl]
  have : exec cfgI (callM cfgI.wh (runN cfgI N)) ir1 [some (.tup ws), some (.int k)] g = .rt (.bl (decide ((ws.length : Int) = k))) g :=
    exec_ret_ok (and_tt (ev_isi_ok (x := .tup ws) rfl rfl) (ev_op2_ok (ev_blt1 (x := .tup ws) rfl rfl) rfl rfl))
  exact congrArg Out.fin this
theorem call_tup (N : Nat) (ws : List W) (k : Int) (g : G) : callM cfgI.wh (runN cfgI (N + 1)) 1 [.tup ws, .int k] g = .ok (.bl (decide ((ws.length : Int) = k))) g := (whole rfl).trans (istup_ok N ws k g)
theorem num_ok (N : Nat) (a : Int) (g : G) : runN cfgI (N + 1) 0 [.int a] g = .ok (.bl true) g := by
  rw [runN_step fn0 rfl]
  have : exec cfgI (callM cfgI.wh (runN cfgI N)) ir0 [some (.int a)] g = .rt (.bl true) g :=
    exec_ret_ok (and_tt (ev_isi_ok (x := .int a) rfl rfl) (ev_not_ok (b := false) (ev_isi_ok (x := .int a) rfl rfl)))
  exact congrArg Out.fin this
theorem call_num (N : Nat) (a : Int) (g : G) : callM cfgI.wh (runN cfgI (N + 1)) 0 [.int a] g = .ok (.bl true) g := (part rfl).trans (callR_flat rfl (num_ok N a []) rfl)
theorem pairn_ok (N : Nat) (a b : Int) : ∃ g, runN cfgI (N + 2) 7 [.tup [.int a, .int b]] [] = .ok (.bl true) g := by
  rw [runN_step fn7 rfl]
  have hb := big10
  have hlc : ev cfgI (callM cfgI.wh (runN cfgI (N + 1))) (.lc [none, none] (.one 1) (.var 0) (.cst (.bl true)) (.call 0 (.cons (.var 1) .nil))) [some (.tup [.int a, .int b])] [] = .ok (.ref 0) ([] ++ [.lst ([a, b].map fun _ => .bl true)]) :=
    ev_lc_ok (fr := [none, none]) (k := 1) (w := .tup [.int a, .int b]) (h := W.int) (F := fun _ => .bl true) (ys := [a, b]) (g1 := []) rfl rfl (by show 2 < sizeLine; omega) fun x _ τ hτ => by
      have hτ : τ.length = 2 := hτ
      exact ev_call1 (np := 1) rfl (get_set (by omega)) (call_num N x _)
  have : exec cfgI (callM cfgI.wh (runN cfgI (N + 1))) ir7 [some (.tup [.int a, .int b])] [] = .rt (.bl true) [.lst [.bl true, .bl true]] :=
    exec_ret_ok (and_tt (ev_call2 rfl rfl rfl (call_tup N _ 2 _)) (ev_blt1 hlc rfl))
  exact ⟨_, congrArg Out.fin this⟩
theorem call_pairn (N : Nat) (a b : Int) (g : G) : callM cfgI.wh (runN cfgI (N + 2)) 7 [.tup [.int a, .int b]] g = .ok (.bl true) g := by
  obtain ⟨g1, e⟩ := pairn_ok N a b
  exact (part rfl).trans (callR_flat rfl e rfl)
theorem cells_ok (N : Nat) (m : Mv) : ∃ g, runN cfgI (N + 3) 6 [mvW m] [] = .ok (.bl true) g := by
  rw [runN_step fn6 rfl]
  have hb := big10
  have hlc : ev cfgI (callM cfgI.wh (runN cfgI (N + 2))) (.lc [none, none] (.one 1) (.var 0) (.cst (.bl true)) (.call 7 (.cons (.var 1) .nil))) [some (mvW m)] [] = .ok (.ref 0) ([] ++ [.lst ([(m.a, m.b), (m.c, m.d)].map fun _ => .bl true)]) :=
    ev_lc_ok (fr := [none, none]) (k := 1) (w := mvW m) (h := fun p : Int × Int => .tup [.int p.1, .int p.2]) (F := fun _ => .bl true) (ys := [(m.a, m.b), (m.c, m.d)]) (g1 := []) rfl rfl (by show 2 < sizeLine; omega) fun x _ τ hτ => by
      have hτ : τ.length = 2 := hτ
      exact ev_call1 (np := 1) rfl (get_set (by omega)) (call_pairn N x.1 x.2 _)
  have : exec cfgI (callM cfgI.wh (runN cfgI (N + 2))) ir6 [some (mvW m)] [] = .rt (.bl true) [.lst [.bl true, .bl true]] :=
    exec_ret_ok (and_tt (ev_call2 rfl rfl rfl (call_tup (N + 1) _ 2 _)) (ev_blt1 hlc rfl))
  exact ⟨_, congrArg Out.fin this⟩
theorem call_cells (N : Nat) (m : Mv) (g : G) : callM cfgI.wh (runN cfgI (N + 3)) 6 [mvW m] g = .ok (.bl true) g := by
  obtain ⟨g1, e⟩ := cells_ok N m
  exact (part rfl).trans (callR_flat rfl e rfl)
theorem eq_leaf {b n : Nat} {g : G} {w : W} {d : PyData} {leaf : Str} (t : Tree b g n w d) (hn : n ≤ 12) (hl : leaf ∈ leaves) : eqW g w (.ctup [.str leaf]) = some (PyData.eqv d (.tuple [.str leaf])) := by
  have e1 := t.toD60 hn
  have e2 : toD g 60 (.ctup [.str leaf]) = some (.tuple [.str leaf]) := toD_ctup (allO_cons toD_str allO_nil)
  have s2 : shaped (.tuple [.str leaf]) = true := by
    have : ∀ s ∈ leaves, shaped (.tuple [.str s]) = true := by decide +kernel
    exact this leaf hl
  have key : (match toD g 60 w, toD g 60 (.ctup [.str leaf]) with | some da, some db => if shaped da && shaped db then some (PyData.eqv da db) else none | _, _ => none) = some (PyData.eqv d (.tuple [.str leaf])) := by
    rw [e1, e2]
    show (if (shaped d && shaped (.tuple [.str leaf])) = true then some (PyData.eqv d (.tuple [.str leaf])) else none) = _
    rw [t.shaped hn, s2]
    rfl
  cases n with
  | zero => unfold Tree at t; exact t.elim
  | succ n =>
    unfold Tree at t
    rcases t with ⟨s, _, rfl, rfl⟩ | ⟨m, w', d', rfl, rfl, t⟩ | ⟨i, ws, ds, rfl, rfl, hi, e3, hl, r⟩ | ⟨i, ws, ds, rfl, rfl, hi, e3, hl, r⟩ | ⟨m, rfl, rfl⟩ | ⟨rfl, rfl⟩ | ⟨rfl, rfl⟩ <;> exact key
theorem Tree.any {b n : Nat} {g : G} {w : W} {d : PyData} (t : Tree b g n w d) : ∃ ws, w = .tup ws := by
  cases n with
  | zero => unfold Tree at t; exact t.elim
  | succ n =>
    unfold Tree at t
    rcases t with ⟨s, _, rfl, rfl⟩ | ⟨m, w', d', rfl, rfl, t⟩ | ⟨i, ws, ds, rfl, rfl, hi, e3, hl, r⟩ | ⟨i, ws, ds, rfl, rfl, hi, e3, hl, r⟩ | ⟨m, rfl, rfl⟩ | ⟨rfl, rfl⟩ | ⟨rfl, rfl⟩ <;> exact ⟨_, rfl⟩
theorem row_ok {N : Nat} {g g' : G} {m : Mv} {w : W} {leaf : Str} {k : Bool} (h : runN cfgI (N + 3) 4 [w, .ctup [.str leaf]] g = .ok (.bl k) g') : runN cfgI (N + 4) 5 [.tup [mvW m, w], .ctup [.str leaf]] g = .ok (.bl k) g' := by
  rw [runN_step fn5 rfl]
  have : exec cfgI (callM cfgI.wh (runN cfgI (N + 3))) ir5 [some (.tup [mvW m, w]), some (.ctup [.str leaf])] g = .rt (.bl k) g' :=
    exec_ret_ok (and_tt (ev_call2 rfl rfl rfl (call_tup (N + 2) _ 2 _)) (and_tt (ev_call1 (np := 1) rfl rfl (call_cells N m _)) (ev_call2 rfl rfl rfl ((whole rfl).trans h))))
  exact congrArg Out.fin this
end K30
set_option Elab.async false
set_option linter.all false
set_option maxRecDepth 100000
namespace K30
open PySem Ev L2 PySem.SeqAt
theorem take_next {ds : List PyData} {j : Nat} {x : PyData} (h : ds[j]? = some x) : ds.take (j + 1) = ds.take j ++ [x] := by rw [List.take_succ, h]; rfl
theorem step_one {P : Cfg} {cl : Nat → List W → G → Res W} {k : Nat} {e : E} {x v : W} {τ : Sl} {g g' : G} (h : ev P cl e (τ.set k (some x)) g = .ok v g') : lcStep (.one k) (ev P cl (.cst (.bl true))) (ev P cl e) x τ g = .ok (τ.set k (some x), [v]) g' := by
  rw [lc_step (fun τ => by rw [ev_cst]), h]
  rfl
theorem isP_ok : ∀ (n N : Nat) {b : Nat} {g : G} {w : W} {d : PyData} (leaf : Str), leaf ∈ leaves → n ≤ 12 → 2 * n + 4 ≤ N → b ≤ 100 → Tree b g n w d → ∃ g', runN cfgI N 4 [w, .ctup [.str leaf]] g = .ok (.bl (okD n leaf d)) g' ∧ g <+: g'
  | 0, _, _, _, _, _, _, _, _, _, _, t => by unfold Tree at t; exact t.elim
  | n + 1, 0, _, _, _, _, _, _, _, h, _, _ => by omega
  | n + 1, N + 1, b, g, w, d, leaf, hlf, hn, hN, hb, t => by
    obtain ⟨N, rfl⟩ : ∃ N', N = N' + 4 := ⟨N - 4, by omega⟩
    rw [runN_step fn4 rfl]
    suffices h : ∃ g', exec cfgI (callM cfgI.wh (runN cfgI (N + 4))) ir4 [some w, some (.ctup [.str leaf])] g = .rt (.bl (okD (n + 1) leaf d)) g' ∧ g <+: g' by
      obtain ⟨g', e, h⟩ := h
      exact ⟨g', congrArg Out.fin e, h⟩
    have elf := eq_leaf t hn hlf
    have lastR : ∀ (k : Bool), PyData.eqv d (.tuple [.str leaf]) = k → ev cfgI (callM cfgI.wh (runN cfgI (N + 4))) (.op2 .eq (.var 0) (.var 1)) [some w, some (.ctup [.str leaf])] g = .ok (.bl k) g := fun k hk => by
      refine ev_op2_ok (x := w) (y := .ctup [.str leaf]) rfl rfl ?_
      show Res.of ((eqW g w (.ctup [.str leaf])).map .bl) g = _
      rw [elf, hk]
      rfl
    have t0 := t
    unfold Tree at t
    rcases t with ⟨s, hs, rfl, rfl⟩ | ⟨m, w', d', rfl, rfl, t⟩ | ⟨i, ws, ds, rfl, rfl, hi, e3, hl, r⟩ | ⟨i, ws, ds, rfl, rfl, hi, e3, hl, r⟩ | ⟨m, rfl, rfl⟩ | ⟨rfl, rfl⟩ | ⟨rfl, rfl⟩
    · refine ⟨g, (exec_ifF (and_ff (ev_call2 rfl rfl rfl (call_tup (N + 3) _ 3 _)))).trans ((exec_ifF (and_ff (ev_call2 rfl rfl rfl (call_tup (N + 3) _ 2 _)))).trans (exec_ret_ok (lastR _ ?_))), List.prefix_refl _⟩
      rw [okD_leaf]
      show (s == leaf && true) = _
      rw [Bool.and_true]
      by_cases h : s = leaf
      · subst h; simp
      · rw [decide_eq_false h]; simpa using h
    · obtain ⟨g', e, hp⟩ := isP_ok n (N + 3) leaf hlf (by omega) (by omega) hb t
      refine ⟨g', ?_, hp⟩
      rw [okD_mv]
      refine (exec_ifT (and_tt (ev_call2 rfl rfl rfl (call_tup (N + 3) _ 3 _)) rfl)).trans (seqF_rt (exec_ret_ok (ev_call2 (x := .tup [mvW m, w']) (g1 := g) rfl ?_ rfl ((whole rfl).trans (row_ok e)))))
      rfl
    · have big := big10
      have e0 : ev cfgI (callM cfgI.wh (runN cfgI (N + 4))) (.isi (.ix (.var 0) (.cst (.int 1))) (.b "list")) [some (.tup [.str sAll, .ref i]), some (.ctup [.str leaf])] g = .ok (.bl true) g := by
        refine ev_isi_ok (x := .ref i) rfl ?_
        show (match g[i]? with | some (.lst _) => some true | none => none) = _
        rw [e3]
      have e1 : ev cfgI (callM cfgI.wh (runN cfgI (N + 4))) (.op2 .ne (.ix (.var 0) (.cst (.int 1))) (.lst .nil)) [some (.tup [.str sAll, .ref i]), some (.ctup [.str leaf])] g = .ok (.bl (!ds.isEmpty)) (g ++ [.lst []]) := by
        refine ev_op2_ok (x := .ref i) (y := .ref g.length) (g2 := g ++ [.lst []]) rfl rfl ?_
        show Res.of ((eqW (g ++ [.lst []]) (.ref i) (.ref g.length)).map fun c => .bl (!c)) (g ++ [.lst []]) = _
        rw [eq_empty r (by omega) hi e3]
        rfl
      have c2 : ev cfgI (callM cfgI.wh (runN cfgI (N + 4))) (.and (.call 1 (.cons (.var 0) (.cons (.cst (.int 2)) .nil))) (.op2 .eq (.ix (.var 0) (.cst (.int 0))) (.cst (.str sAll)))) [some (.tup [.str sAll, .ref i]), some (.ctup [.str leaf])] g = .ok (.bl true) g :=
        and_tt (ev_call2 rfl rfl rfl (call_tup (N + 3) _ 2 _)) rfl
      have c1 : ev cfgI (callM cfgI.wh (runN cfgI (N + 4))) (.and (.call 1 (.cons (.var 0) (.cons (.cst (.int 3)) .nil))) (.op2 .eq (.ix (.var 0) (.cst (.int 0))) (.cst (.str sMove)))) [some (.tup [.str sAll, .ref i]), some (.ctup [.str leaf])] g = .ok (.bl false) g :=
        and_ff (ev_call2 rfl rfl rfl (call_tup (N + 3) _ 3 _))
      rw [okD_all]
      cases hd : ds.isEmpty with
      | true =>
        rw [hd, Bool.not_true] at e1
        exact ⟨g ++ [.lst []], (exec_ifF c1).trans ((exec_ifT c2).trans (seqF_rt (exec_ret_ok (and_tt e0 (and_ff e1))))), List.prefix_append _ _⟩
      | false =>
        rw [hd, Bool.not_false] at e1
        have hg0 : (g ++ [.lst []] : G)[i]? = some (.lst ws) := Kp.app g [.lst []] i _ hi e3
        obtain ⟨rs, τ', g', elc, hA, hτ, hp⟩ := ev_lc_inv (P := cfgI) (cl := callM cfgI.wh (runN cfgI (N + 4))) (fr := [none, none, some 1]) (t := .one 1) (it := .ix (.var 0) (.cst (.int 1))) (c := .cst (.bl true)) (e := .call 5 (.cons (.var 1) (.cons (.var 2) .nil))) (sl := [some (.tup [.str sAll, .ref i]), some (.ctup [.str leaf])]) (g := g ++ [.lst []]) (g1 := g ++ [.lst []]) (w := .ref i) (xs := ws)
          (fun j acc τ g' => (acc = ((ds.take j).map (rowOk n leaf)).map .bl) ∧ (τ.length = 3 ∧ τ[2]? = some (some (.ctup [.str leaf]))) ∧ (g ++ [.lst []]) <+: g')
          (evI_ref rfl hg0) (by omega) ⟨rfl, ⟨rfl, rfl⟩, List.prefix_refl _⟩ (fun j acc τ g' ⟨_, _, hp⟩ => items_ref (get_pre hp hg0))
          (fun j x acc τ g' hx ⟨hA, ⟨hτ, hτ2⟩, hp⟩ => by
            obtain ⟨m, w', d', rfl, hdj, ht⟩ := r.get hx
            have hp0 : g <+: g' := (List.prefix_append _ _).trans hp
            obtain ⟨g2, e2, hp2⟩ := isP_ok n (N + 3) leaf hlf (by omega) (by omega) hb (ht.kp (Kp.pre hp0))
            refine ⟨_, _, g2, step_one (v := .bl (okD n leaf d')) (ev_call2 rfl (ev_var_ok (set1 hτ)) (ev_var_ok (by rw [set1_2]; exact hτ2)) ((whole rfl).trans (row_ok e2))), ?_, ⟨by simpa using hτ, by rw [set1_2]; exact hτ2⟩, hp.trans hp2⟩
            rw [hA, take_next hdj, List.map_append, List.map_append]
            rfl)
        have hlen := r.len
        rw [hlen, List.take_length] at hA
        subst hA
        refine ⟨g' ++ [.lst ((ds.map (rowOk n leaf)).map .bl)], ?_, (List.prefix_append _ _).trans (hp.trans (List.prefix_append _ _))⟩
        refine (exec_ifF c1).trans ((exec_ifT c2).trans (seqF_rt (exec_ret_ok (and_tt e0 (and_tt e1 (ev_blt1 elc ?_))))))
        rw [all_bs]
        have : (ds.map (rowOk n leaf)).all id = ds.all (rowOk n leaf) := by rw [List.all_map]; rfl
        rw [this]
        rfl
    · refine ⟨g, ?_, List.prefix_refl _⟩
      rw [okD_evr]
      refine (exec_ifF (and_ff (ev_call2 rfl rfl rfl (call_tup (N + 3) _ 3 _)))).trans ((exec_ifF (and_tt (ev_call2 rfl rfl rfl (call_tup (N + 3) _ 2 _)) rfl)).trans (exec_ret_ok (lastR _ ?_)))
      simp [PyData.eqv, PyData.eqvAll]
    · refine ⟨g, ?_, List.prefix_refl _⟩
      rw [okD_short]
      refine (exec_ifF (and_ff (ev_call2 rfl rfl rfl (call_tup (N + 3) _ 3 _)))).trans ((exec_ifF (and_tt (ev_call2 rfl rfl rfl (call_tup (N + 3) _ 2 _)) rfl)).trans (exec_ret_ok (lastR _ ?_)))
      simp [PyData.eqv, PyData.eqvAll]
    · refine ⟨g, ?_, List.prefix_refl _⟩
      rw [okD_won1]
      refine (exec_ifF (and_ff (ev_call2 rfl rfl rfl (call_tup (N + 3) _ 3 _)))).trans ((exec_ifF (and_tt (ev_call2 rfl rfl rfl (call_tup (N + 3) _ 2 _)) rfl)).trans (exec_ret_ok (lastR _ ?_)))
      simp [PyData.eqv, PyData.eqvAll]
    · refine ⟨g, ?_, List.prefix_refl _⟩
      rw [okD_unit]
      refine (exec_ifF (and_ff (ev_call2 rfl rfl rfl (call_tup (N + 3) _ 3 _)))).trans ((exec_ifF (and_ff (ev_call2 rfl rfl rfl (call_tup (N + 3) _ 2 _)))).trans (exec_ret_ok (lastR _ ?_)))
      simp [PyData.eqv, PyData.eqvAll]
theorem check_ok {n N b : Nat} {g : G} {w : W} {d : PyData} (hn : n ≤ 12) (hN : 2 * n + 4 ≤ N) (hb : b ≤ 100) (t : Tree b g n w d) {i : Nat} (hi : 0 < i) (hg : g[i]? = some (.lst [.ctup [.str sWon], .ctup [.str sNot]])) :
    ∃ g', runN cfgI (N + 1) 3 [w, .ref i] g = (if okD n sWon d || okD n sNot d then .ok .non g' else .exc 6 g') ∧ g <+: g' := by
  rw [runN_step fn3 rfl]
  have big := big10
  obtain ⟨rs, τ', g', elc, hA, hτ, hp⟩ := ev_lc_inv (P := cfgI) (cl := callM cfgI.wh (runN cfgI N)) (fr := [none, none, some 0]) (t := .one 1) (it := .var 1) (c := .cst (.bl true)) (e := .call 4 (.cons (.var 2) (.cons (.var 1) .nil))) (sl := [some w, some (.ref i)]) (g := g) (g1 := g) (w := .ref i) (xs := [.ctup [.str sWon], .ctup [.str sNot]])
    (fun j acc τ g' => (acc = (([sWon, sNot].take j).map fun s => okD n s d).map .bl) ∧ (τ.length = 3 ∧ τ[2]? = some (some w)) ∧ g <+: g')
    (by
      have e : evI cfgI (callM cfgI.wh (runN cfgI N)) (.var 1) [some w, some (.ref i)] g = (match valI g (.ref i) with | some J => .ok J g | none => .stuck) := rfl
      rw [e]
      have : valI g (.ref i) = some (.val (.ref i)) := by
        unfold valI
        rw [items_ref hg]
      rw [this]) (by show 2 < sizeLine; omega) ⟨rfl, ⟨rfl, rfl⟩, List.prefix_refl _⟩ (fun j acc τ g' ⟨_, _, hp⟩ => items_ref (get_pre hp hg))
    (fun j x acc τ g' hx ⟨hA, ⟨hτ, hτ2⟩, hp⟩ => by
      have key : ∀ s, s ∈ leaves → x = .ctup [.str s] → [sWon, sNot].take (j + 1) = [sWon, sNot].take j ++ [s] → ∃ τ' out g2, lcStep (.one 1) (ev cfgI (callM cfgI.wh (runN cfgI N)) (.cst (.bl true))) (ev cfgI (callM cfgI.wh (runN cfgI N)) (.call 4 (.cons (.var 2) (.cons (.var 1) .nil)))) x τ g' = .ok (τ', out) g2 ∧ ((acc ++ out = (([sWon, sNot].take (j + 1)).map fun s => okD n s d).map .bl) ∧ (τ'.length = 3 ∧ τ'[2]? = some (some w)) ∧ g <+: g2) := fun s hs hxs htk => by
        subst hxs
        obtain ⟨g2, e2, hp2⟩ := isP_ok n N s hs hn hN hb (t.kp (Kp.pre hp))
        refine ⟨_, _, g2, step_one (ev_call2 rfl (ev_var_ok (by rw [set1_2]; exact hτ2)) (ev_var_ok (set1 hτ)) ((whole rfl).trans e2)), ?_, ⟨by simpa using hτ, by rw [set1_2]; exact hτ2⟩, hp.trans hp2⟩
        rw [hA, htk, List.map_append, List.map_append]
        rfl
      match j, hx with
      | 0, hx => exact key sWon (by decide) (by simpa using hx.symm) rfl
      | 1, hx => exact key sNot (by decide) (by simpa using hx.symm) rfl
      | j + 2, hx => simp at hx)
  have hA : rs = [okD n sWon d, okD n sNot d].map .bl := hA
  subst hA
  have hany : ev cfgI (callM cfgI.wh (runN cfgI N)) (.not (.blt .any (.cons (.lc [none, none, some 0] (.one 1) (.var 1) (.cst (.bl true)) (.call 4 (.cons (.var 2) (.cons (.var 1) .nil)))) .nil))) [some w, some (.ref i)] g = .ok (.bl (!(okD n sWon d || okD n sNot d))) (g' ++ [.lst ([okD n sWon d, okD n sNot d].map .bl)]) := by
    refine ev_not_ok (ev_blt1 elc ?_)
    rw [any_bs]
    simp
  refine ⟨g' ++ [.lst ([okD n sWon d, okD n sNot d].map .bl)], ?_, hp.trans (List.prefix_append _ _)⟩
  cases hk : okD n sWon d || okD n sNot d with
  | true =>
    rw [hk] at hany
    have : exec cfgI (callM cfgI.wh (runN cfgI N)) ir3 [some w, some (.ref i)] g = .nx [some w, some (.ref i)] (g' ++ [.lst ([okD n sWon d, okD n sNot d].map .bl)]) := (exec_ifF hany).trans (by rw [exec_skip])
    exact congrArg Out.fin this
  | false =>
    rw [hk] at hany
    have : exec cfgI (callM cfgI.wh (runN cfgI N)) ir3 [some w, some (.ref i)] g = .exc 6 [some w, some (.ref i)] (g' ++ [.lst ([okD n sWon d, okD n sNot d].map .bl)]) := by
      refine (exec_ifT hany).trans ?_
      rfl
    exact congrArg Out.fin this
end K30
set_option Elab.async false
set_option linter.all false
set_option maxRecDepth 100000
namespace Ev
open PySem
theorem step_two {P : Cfg} {cl : Nat → List W → G → Res W} {e : E} {x y v : W} {τ : Sl} {g g' : G} (h : ev P cl e ((τ.set 1 (some x)).set 2 (some y)) g = .ok v g') : lcStep (.tup [1, 2]) (ev P cl (.cst (.bl true))) (ev P cl e) (.tup [x, y]) τ g = .ok ((τ.set 1 (some x)).set 2 (some y), [v]) g' := by
  rw [ev_cst]
  unfold lcStep
  show ((ev P cl e ((τ.set 1 (some x)).set 2 (some y)) g).bind _) = _
  rw [h]
  rfl
noncomputable def mxL : List Int → Int
  | [] => 0
  | b :: bs => bs.foldl (fun a b => if b > a then b else a) b
theorem ints_of (is : List Int) : intsW (is.map .int) = some is := by
  induction is with
  | nil => rfl
  | cons y ys ih =>
    show (intsW (ys.map .int)).map (y :: ·) = _
    rw [ih]
    rfl
theorem max_is {g : G} {is : List Int} (h : is.isEmpty = false) : bltW .max [.ref g.length] (g ++ [.lst (is.map .int)]) = .ok (.int (mxL is)) (g ++ [.lst (is.map .int)]) := by
  show (match (g ++ [O.lst (is.map W.int)])[g.length]? with | some (.lst ws) => _ | none => _) = _
  rw [last_at]
  show (match intsW (is.map W.int) with | some (b :: bs) => Res.ok (W.int (bs.foldl (fun a b => if b > a then b else a) b)) _ | _ => .stuck) = _
  rw [ints_of]
  cases is with
  | nil => cases h
  | cons b bs => rfl
theorem exec_drop_exc {P : Cfg} {cl : Nat → List W → G → Res W} {sl : Sl} {g g1 : G} {c : Nat} {s : S} {e : E} (h : ev P cl e sl g = .exc c g1) : exec P cl (.seq (.drop e) s) sl g = .exc c sl g1 := by
  rw [exec_seq, exec_drop]
  unfold seqF
  show (match (ev P cl e sl g).out sl (fun _ g1 => Out.nx sl g1) with | .nx sl1 g1 => _ | o => o) = _
  rw [h]
  rfl
end Ev
namespace K30
open PySem Ev L2 PySem.SeqAt
noncomputable def dpD : Nat → PyData → Int
  | 0, _ => 0
  | n + 1, .tuple [.str k, _, d] => if k = sMove then 1 + dpD n d else 0
  | n + 1, .tuple [.str k, .list ds] => if k = sAll then 1 + mxL (ds.map fun r => match r with
    | .tuple [_, d] => dpD n d
    | _ => 0) else 0
  | _, _ => 0
noncomputable def rowDp (n : Nat) (r : PyData) : Int := match r with
  | .tuple [_, d] => dpD n d
  | _ => 0
theorem dpD_leaf {n : Nat} {s : Str} : dpD (n + 1) (.tuple [.str s]) = 0 := rfl
theorem dpD_mv {n : Nat} {m : Mv} {d : PyData} : dpD (n + 1) (.tuple [.str sMove, mvD m, d]) = 1 + dpD n d := by
  show (if sMove = sMove then 1 + dpD n d else 0) = _
  exact if_pos rfl
theorem dpD_all {n : Nat} {ds : List PyData} : dpD (n + 1) (.tuple [.str sAll, .list ds]) = 1 + mxL (ds.map (rowDp n)) := by
  show (if sAll = sAll then 1 + mxL (ds.map (rowDp n)) else 0) = _
  exact if_pos rfl
theorem good_cases {b n : Nat} {g : G} {w : W} {d : PyData} {leaf : Str} (t : Tree b g (n + 1) w d) (ok : okD (n + 1) leaf d = true) :
    (∃ s, s ∈ leaves ∧ s = leaf ∧ w = .tup [.str s] ∧ d = .tuple [.str s]) ∨
    (∃ m w' d', w = .tup [.str sMove, mvW m, w'] ∧ d = .tuple [.str sMove, mvD m, d'] ∧ Tree b g n w' d' ∧ okD n leaf d' = true) ∨
    (∃ i ws ds, w = .tup [.str sAll, .ref i] ∧ d = .tuple [.str sAll, .list ds] ∧ 0 < i ∧ g[i]? = some (.lst ws) ∧ ws.length ≤ b ∧ Rows (Tree b g n) ws ds ∧ ds.isEmpty = false ∧ ds.all (rowOk n leaf) = true) := by
  unfold Tree at t
  rcases t with ⟨s, hs, rfl, rfl⟩ | ⟨m, w', d', rfl, rfl, t⟩ | ⟨i, ws, ds, rfl, rfl, hi, e3, hl, r⟩ | ⟨i, ws, ds, rfl, rfl, hi, e3, hl, r⟩ | ⟨m, rfl, rfl⟩ | ⟨rfl, rfl⟩ | ⟨rfl, rfl⟩
  · rw [okD_leaf] at ok
    exact .inl ⟨s, hs, of_decide_eq_true ok, rfl, rfl⟩
  · rw [okD_mv] at ok
    exact .inr (.inl ⟨m, w', d', rfl, rfl, t, ok⟩)
  · rw [okD_all, Bool.and_eq_true] at ok
    exact .inr (.inr ⟨i, ws, ds, rfl, rfl, hi, e3, hl, r, by simpa using ok.1, ok.2⟩)
  · rw [okD_evr] at ok; cases ok
  · rw [okD_short] at ok; cases ok
  · rw [okD_won1] at ok; cases ok
  · rw [okD_unit] at ok; cases ok
theorem row_good {n j : Nat} {leaf : Str} {ds : List PyData} {x d : PyData} (h : ds.all (rowOk n leaf) = true) (hj : ds[j]? = some (.tuple [x, d])) : okD n leaf d = true := by
  rw [List.all_eq_true] at h
  exact h _ (List.mem_of_getElem? hj)
theorem set1' {τ : Sl} {x : W} (h : τ.length = 2) : (τ.set 1 (some x))[1]? = some (some x) := List.getElem?_set_self (by omega)
theorem set12_2 {τ : Sl} {x y : W} (h : τ.length = 3) : ((τ.set 1 (some x)).set 2 (some y))[2]? = some (some y) := List.getElem?_set_self (by simpa using by omega)
theorem set12_1 {τ : Sl} {x y : W} (h : τ.length = 3) : ((τ.set 1 (some x)).set 2 (some y))[1]? = some (some x) := by
  rw [List.getElem?_set_ne (by decide)]
  exact List.getElem?_set_self (by omega)
theorem deep8 : ∀ (n N : Nat) {b : Nat} {g : G} {w : W} {d : PyData} {leaf : Str}, n ≤ 12 → n ≤ N → b ≤ 100 → Tree b g n w d → okD n leaf d = true → ∃ g', runN cfgI N 8 [w] g = .ok (.int (dpD n d)) g' ∧ g <+: g'
  | 0, _, _, _, _, _, _, _, _, _, t, _ => by unfold Tree at t; exact t.elim
  | n + 1, 0, _, _, _, _, _, _, h, _, _, _ => by omega
  | n + 1, N + 1, b, g, w, d, leaf, hn, hN, hb, t, ok => by
    rw [runN_step fn8 rfl]
    suffices h : ∃ g', exec cfgI (callM cfgI.wh (runN cfgI N)) ir8 [some w] g = .rt (.int (dpD (n + 1) d)) g' ∧ g <+: g' by
      obtain ⟨g', e, h⟩ := h
      exact ⟨g', congrArg Out.fin e, h⟩
    rcases good_cases t ok with ⟨s, hs, _, rfl, rfl⟩ | ⟨m, w', d', rfl, rfl, t, ok⟩ | ⟨i, ws, ds, rfl, rfl, hi, e3, hl, r, hne, ok⟩
    · refine ⟨g, ?_, List.prefix_refl _⟩
      rw [dpD_leaf]
      have hs : s = sWon ∨ s = sNot ∨ s = sLost := by simpa [leaves] using hs
      rcases hs with rfl | rfl | rfl <;> exact (exec_ifF rfl).trans ((exec_ifF rfl).trans (exec_ret_ok rfl))
    · obtain ⟨g', e, hp⟩ := deep8 n N (by omega) (by omega) hb t ok
      refine ⟨g', ?_, hp⟩
      rw [dpD_mv]
      exact (exec_ifT rfl).trans (seqF_rt (exec_ret_ok (ev_op2_ok (x := .int 1) (g1 := g) rfl (ev_call1 (np := 1) (x := w') (g1 := g) rfl rfl ((whole rfl).trans e)) rfl)))
    · have big := big10
      obtain ⟨rs, τ', g', elc, hA, hτ, hp⟩ := ev_lc_inv (P := cfgI) (cl := callM cfgI.wh (runN cfgI N)) (fr := [none, none]) (t := .one 1) (it := .ix (.var 0) (.cst (.int 1))) (c := .cst (.bl true)) (e := .call 8 (.cons (.ix (.var 1) (.cst (.int 1))) .nil)) (sl := [some (.tup [.str sAll, .ref i])]) (g := g) (g1 := g) (w := .ref i) (xs := ws)
        (fun j acc τ g' => (acc = ((ds.take j).map (rowDp n)).map .int) ∧ τ.length = 2 ∧ g <+: g')
        (evI_ref rfl e3) (by omega) ⟨rfl, rfl, List.prefix_refl _⟩ (fun j acc τ g' ⟨_, _, hp⟩ => items_ref (get_pre hp e3))
        (fun j x acc τ g' hx ⟨hA, hτ, hp⟩ => by
          obtain ⟨m, w', d', rfl, hdj, ht⟩ := r.get hx
          obtain ⟨g2, e2, hp2⟩ := deep8 n N (by omega) (by omega) hb (ht.kp (Kp.pre hp)) (row_good ok hdj)
          refine ⟨_, _, g2, step_one (v := .int (dpD n d')) (ev_call1 (np := 1) (x := w') (g1 := g') rfl (ev_ix_ok (ev_var_ok (set1' hτ)) rfl rfl) ((whole rfl).trans e2)), ?_, by simpa using hτ, hp.trans hp2⟩
          rw [hA, take_next hdj, List.map_append, List.map_append]
          rfl)
      have hlen := r.len
      rw [hlen, List.take_length] at hA
      subst hA
      refine ⟨g' ++ [.lst ((ds.map (rowDp n)).map .int)], ?_, hp.trans (List.prefix_append _ _)⟩
      rw [dpD_all]
      exact (exec_ifF rfl).trans ((exec_ifT rfl).trans (seqF_rt (exec_ret_ok (ev_op2_ok (x := .int 1) (g1 := g) rfl (ev_blt1 elc (max_is (by cases ds with | nil => cases hne | cons a l => rfl))) rfl))))
theorem deep18 : ∀ (n N : Nat) {b : Nat} {g : G} {w : W} {d : PyData} {leaf : Str}, n ≤ 12 → n ≤ N → b ≤ 100 → Tree b g n w d → okD n leaf d = true → ∃ g', runN cfgI N 18 [w] g = .ok (.int (dpD n d)) g' ∧ g <+: g'
  | 0, _, _, _, _, _, _, _, _, _, t, _ => by unfold Tree at t; exact t.elim
  | n + 1, 0, _, _, _, _, _, _, h, _, _, _ => by omega
  | n + 1, N + 1, b, g, w, d, leaf, hn, hN, hb, t, ok => by
    rw [runN_step fn18 rfl]
    suffices h : ∃ g', exec cfgI (callM cfgI.wh (runN cfgI N)) ir18 [some w] g = .rt (.int (dpD (n + 1) d)) g' ∧ g <+: g' by
      obtain ⟨g', e, h⟩ := h
      exact ⟨g', congrArg Out.fin e, h⟩
    rcases good_cases t ok with ⟨s, hs, _, rfl, rfl⟩ | ⟨m, w', d', rfl, rfl, t, ok⟩ | ⟨i, ws, ds, rfl, rfl, hi, e3, hl, r, hne, ok⟩
    · refine ⟨g, ?_, List.prefix_refl _⟩
      rw [dpD_leaf]
      have hs : s = sWon ∨ s = sNot ∨ s = sLost := by simpa [leaves] using hs
      rcases hs with rfl | rfl | rfl <;> exact (exec_ifF rfl).trans ((exec_ifF rfl).trans (exec_ret_ok rfl))
    · obtain ⟨g', e, hp⟩ := deep18 n N (by omega) (by omega) hb t ok
      refine ⟨g', ?_, hp⟩
      rw [dpD_mv]
      exact (exec_ifT rfl).trans (seqF_rt (exec_ret_ok (ev_op2_ok (x := .int 1) (g1 := g) rfl (ev_call1 (np := 1) (x := w') (g1 := g) rfl rfl ((whole rfl).trans e)) rfl)))
    · have big := big10
      obtain ⟨rs, τ', g', elc, hA, hτ, hp⟩ := ev_lc_inv (P := cfgI) (cl := callM cfgI.wh (runN cfgI N)) (fr := [none, none, none]) (t := .tup [1, 2]) (it := .ix (.var 0) (.cst (.int 1))) (c := .cst (.bl true)) (e := .call 18 (.cons (.var 2) .nil)) (sl := [some (.tup [.str sAll, .ref i])]) (g := g) (g1 := g) (w := .ref i) (xs := ws)
        (fun j acc τ g' => (acc = ((ds.take j).map (rowDp n)).map .int) ∧ τ.length = 3 ∧ g <+: g')
        (evI_ref rfl e3) (by omega) ⟨rfl, rfl, List.prefix_refl _⟩ (fun j acc τ g' ⟨_, _, hp⟩ => items_ref (get_pre hp e3))
        (fun j x acc τ g' hx ⟨hA, hτ, hp⟩ => by
          obtain ⟨m, w', d', rfl, hdj, ht⟩ := r.get hx
          obtain ⟨g2, e2, hp2⟩ := deep18 n N (by omega) (by omega) hb (ht.kp (Kp.pre hp)) (row_good ok hdj)
          refine ⟨_, _, g2, step_two (v := .int (dpD n d')) (ev_call1 (np := 1) (x := w') (g1 := g') rfl (ev_var_ok (set12_2 hτ)) ((whole rfl).trans e2)), ?_, by simpa using hτ, hp.trans hp2⟩
          rw [hA, take_next hdj, List.map_append, List.map_append]
          rfl)
      have hlen := r.len
      rw [hlen, List.take_length] at hA
      subst hA
      refine ⟨g' ++ [.lst ((ds.map (rowDp n)).map .int)], ?_, hp.trans (List.prefix_append _ _)⟩
      rw [dpD_all]
      exact (exec_ifF rfl).trans ((exec_ifT rfl).trans (seqF_rt (exec_ret_ok (ev_op2_ok (x := .int 1) (g1 := g) rfl (ev_blt1 elc (max_is (by cases ds with | nil => cases hne | cons a l => rfl))) rfl))))
theorem depth_ok {n N b : Nat} {g : G} {w : W} {d : PyData} (hn : n ≤ 12) (hN : 2 * n + 4 ≤ N) (hb : b ≤ 100) (h0 : 0 < g.length) (t : Tree b g n w d) :
    ∃ g', runN cfgI (N + 2) 2 [w] g = (if okD n sWon d || okD n sNot d then .ok (.int (dpD n d)) g' else .exc 6 g') ∧ g <+: g' := by
  rw [runN_step fn2 rfl]
  obtain ⟨g1, e1, hp1⟩ := check_ok hn hN hb (t.kp (Kp.app g [.lst [.ctup [.str sWon], .ctup [.str sNot]]])) h0 last_at
  have hp : g <+: g1 := (List.prefix_append _ _).trans hp1
  have big := big10
  have el : ev cfgI (callM cfgI.wh (runN cfgI (N + 1))) (.lst (.cons (.cst (.ctup [.str sWon])) (.cons (.cst (.ctup [.str sNot])) .nil))) [some w] g = .ok (.ref g.length) (g ++ [.lst [.ctup [.str sWon], .ctup [.str sNot]]]) :=
    ev_lst_ok (ws := [.ctup [.str sWon], .ctup [.str sNot]]) (g1 := g) rfl (by show 2 ≤ sizeLine; omega)
  have ec : ev cfgI (callM cfgI.wh (runN cfgI (N + 1))) (.call 3 (.cons (.var 0) (.cons (.lst (.cons (.cst (.ctup [.str sWon])) (.cons (.cst (.ctup [.str sNot])) .nil))) .nil))) [some w] g = (if okD n sWon d || okD n sNot d then .ok .non g1 else .exc 6 g1) :=
    by
      refine ev_call2 (x := w) (y := .ref g.length) (g1 := g) (g2 := g ++ [.lst [.ctup [.str sWon], .ctup [.str sNot]]]) ?_ ?_ el ?_
      · rfl
      · rfl
      · exact (whole rfl).trans e1
  cases hk : okD n sWon d || okD n sNot d with
  | true =>
    rw [hk, if_pos rfl] at ec
    have : ∃ leaf, okD n leaf d = true := by
      rw [Bool.or_eq_true] at hk
      rcases hk with hk | hk
      · exact ⟨_, hk⟩
      · exact ⟨_, hk⟩
    obtain ⟨leaf, ok⟩ := this
    obtain ⟨g2, e2, hp2⟩ := deep8 n (N + 1) hn (by omega) hb (t.kp (Kp.pre hp)) ok
    refine ⟨g2, ?_, hp.trans hp2⟩
    rw [if_pos rfl]
    have : exec cfgI (callM cfgI.wh (runN cfgI (N + 1))) ir2 [some w] g = .rt (.int (dpD n d)) g2 := (exec_drop1 ec).trans (exec_ret_ok (ev_call1 (np := 1) (x := w) (g1 := g1) rfl rfl ((whole rfl).trans e2)))
    exact congrArg Out.fin this
  | false =>
    rw [hk, if_neg Bool.false_ne_true] at ec
    refine ⟨g1, ?_, hp⟩
    rw [if_neg Bool.false_ne_true]
    have : exec cfgI (callM cfgI.wh (runN cfgI (N + 1))) ir2 [some w] g = .exc 6 [some w] g1 := exec_drop_exc ec
    exact congrArg Out.fin this
theorem Rows.snoc {R : W → PyData → Prop} {m : Mv} {w' : W} {d' : PyData} (h : R w' d') : ∀ {ws : List W} {ds : List PyData}, Rows R ws ds → Rows R (ws ++ [.tup [mvW m, w']]) (ds ++ [.tuple [mvD m, d']])
  | [], _, r => by
    cases r
    exact ⟨m, w', d', [], rfl, rfl, h, rfl⟩
  | w :: ws, _, ⟨m1, w1, d1, r, e1, e2, r1, r2⟩ => by
    subst e2
    exact ⟨m1, w1, d1, r ++ [.tuple [mvD m, d']], e1, rfl, r1, Rows.snoc h r2⟩
theorem copy_ok : ∀ (n N : Nat) {b : Nat} {g : G} {w : W} {d : PyData} {leaf : Str}, n ≤ 12 → n ≤ N → b ≤ 100 → 0 < g.length → Tree b g n w d → okD n leaf d = true → ∃ w' g', runN cfgI N 14 [w] g = .ok w' g' ∧ g <+: g' ∧ Tree b g' n w' d
  | 0, _, _, _, _, _, _, _, _, _, _, t, _ => by unfold Tree at t; exact t.elim
  | n + 1, 0, _, _, _, _, _, _, h, _, _, _, _ => by omega
  | n + 1, N + 1, b, g, w, d, leaf, hn, hN, hb, h0, t, ok => by
    rw [runN_step fn14 rfl]
    suffices h : ∃ w' g', exec cfgI (callM cfgI.wh (runN cfgI N)) ir14 [some w] g = .rt w' g' ∧ g <+: g' ∧ Tree b g' (n + 1) w' d by
      obtain ⟨w', g', e, h⟩ := h
      exact ⟨w', g', congrArg Out.fin e, h⟩
    rcases good_cases t ok with ⟨s, hs, _, rfl, rfl⟩ | ⟨m, w', d', rfl, rfl, t, ok⟩ | ⟨i, ws, ds, rfl, rfl, hi, e3, hl, r, hne, ok⟩
    · refine ⟨.tup [.str s], g, ?_, List.prefix_refl _, t⟩
      have hs : s = sWon ∨ s = sNot ∨ s = sLost := by simpa [leaves] using hs
      rcases hs with rfl | rfl | rfl <;> exact (exec_ifF rfl).trans ((exec_ifF rfl).trans (exec_ret_ok rfl))
    · obtain ⟨w2, g', e, hp, t2⟩ := copy_ok n N (by omega) (by omega) hb h0 t ok
      refine ⟨.tup [.str sMove, mvW m, w2], g', ?_, hp, ?_⟩
      · exact (exec_ifT rfl).trans (seqF_rt (exec_ret_ok (ev_tup3 (x := .str sMove) (y := mvW m) (g1 := g) (g2 := g) rfl rfl (ev_call1 (np := 1) (x := w') (g1 := g) rfl rfl ((whole rfl).trans e)))))
      · unfold Tree
        exact .inr (.inl ⟨m, w2, d', rfl, rfl, t2⟩)
    · have big := big10
      obtain ⟨rs, τ', g', elc, hA, hτ, hp⟩ := ev_lc_inv (P := cfgI) (cl := callM cfgI.wh (runN cfgI N)) (fr := [none, none, none]) (t := .tup [1, 2]) (it := .ix (.var 0) (.cst (.int 1))) (c := .cst (.bl true)) (e := .tup (.cons (.var 1) (.cons (.call 14 (.cons (.var 2) .nil)) .nil))) (sl := [some (.tup [.str sAll, .ref i])]) (g := g) (g1 := g) (w := .ref i) (xs := ws)
        (fun j acc τ g' => Rows (Tree b g' n) acc (ds.take j) ∧ τ.length = 3 ∧ g <+: g')
        (evI_ref rfl e3) (by omega) ⟨rfl, rfl, List.prefix_refl _⟩ (fun j acc τ g' ⟨_, _, hp⟩ => items_ref (get_pre hp e3))
        (fun j x acc τ g' hx ⟨hA, hτ, hp⟩ => by
          obtain ⟨m, w', d', rfl, hdj, ht⟩ := r.get hx
          obtain ⟨w2, g2, e2, hp2, t2⟩ := copy_ok n N (by omega) (by omega) hb (Nat.lt_of_lt_of_le h0 hp.length_le) (ht.kp (Kp.pre hp)) (row_good ok hdj)
          refine ⟨_, _, g2, step_two (v := .tup [mvW m, w2]) (tup_ok (x := mvW m) (g1 := g') (ev_var_ok (set12_1 hτ)) (ev_call1 (np := 1) (x := w') (g1 := g') rfl (ev_var_ok (set12_2 hτ)) ((whole rfl).trans e2))), ?_, by simpa using hτ, hp.trans hp2⟩
          rw [take_next hdj]
          exact (hA.imp fun _ _ => Tree.kp (Kp.pre hp2)).snoc t2)
      have hlen := r.len
      rw [hlen, List.take_length] at hA
      refine ⟨.tup [.str sAll, .ref g'.length], g' ++ [.lst rs], ?_, hp.trans (List.prefix_append _ _), ?_⟩
      · exact (exec_ifF rfl).trans ((exec_ifT rfl).trans (seqF_rt (exec_ret_ok (tup_ok (x := .str sAll) (g1 := g) rfl elc))))
      · unfold Tree
        refine .inr (.inr (.inl ⟨g'.length, rs, ds, rfl, rfl, Nat.lt_of_lt_of_le h0 hp.length_le, last_at, ?_, hA.imp fun _ _ => Tree.kp (Kp.app _ _)⟩))
        rw [hA.len, ← hlen]
        exact hl
end K30
set_option Elab.async false
set_option linter.all false
set_option maxRecDepth 100000
namespace Ev
open PySem
theorem and_fl {P : Cfg} {cl : Nat → List W → G → Res W} {sl : Sl} {g : G} {a b : E} {p q : Bool} (ha : ev P cl a sl g = .ok (.bl p) g) (hb : ev P cl b sl g = .ok (.bl q) g) : ev P cl (.and a b) sl g = .ok (.bl (p && q)) g := by
  cases p with
  | true => exact and_tt ha hb
  | false => exact and_ff ha
end Ev
namespace K30
open PySem Ev L2 PySem.SeqAt
noncomputable def St (g : G) : Prop := ∃ a b c : Int, g[0]? = some (.lst [.int a, .int b, .int c])
theorem St.pos {g : G} (h : St g) : 0 < g.length := by
  obtain ⟨a, b, c, h⟩ := h
  exact (List.getElem?_eq_some_iff.mp h).1
theorem St.app {g : G} (h : St g) (l : G) : St (g ++ l) := by
  obtain ⟨a, b, c, h⟩ := h
  exact ⟨a, b, c, get_pre (List.prefix_append _ _) h⟩
theorem St.set {g : G} (h : St g) {p : Nat} (hp : 0 < p) (o : O) : St (g.set p o) := by
  obtain ⟨a, b, c, h⟩ := h
  exact ⟨a, b, c, by rw [List.getElem?_set_ne (by omega)]; exact h⟩
theorem ix_ref {g : G} {i : Nat} {ws : List W} {k : Int} {x : W} (h : g[i]? = some (.lst ws)) (hk : atI ws k = some x) : ixW g (.ref i) (.int k) = some x := by
  show (items g (.ref i)).bind (fun ws => atI ws k) = _
  rw [items_ref h]
  exact hk
theorem put_ref {g : G} {i : Nat} {ws : List W} {k : Int} {w : W} (h : g[i]? = some (.lst ws)) (hk : 0 ≤ k ∧ k < ws.length) : putW (.ref i) (.int k) w g = some (g.set i (.lst (ws.set k.toNat w))) := by
  show (match g[i]? with | some (.lst ws) => if 0 ≤ k ∧ k < ws.length then some (g.set i (.lst (ws.set k.toNat w))) else none | none => none) = _
  rw [h]
  exact if_pos hk
theorem Kp.set0 (g : G) (o : O) : Kp g (g.set 0 o) := fun i o' hi h => by
  rw [List.getElem?_set_ne (by omega)]
  exact h
theorem get_set0 {g : G} {o : O} (h : 0 < g.length) : (g.set 0 o)[0]? = some o := List.getElem?_set_self h
theorem take_ok (N : Nat) {g : G} (hs : St g) {many : Int} (h1 : 0 < many) (h2 : many < 1073741824) : ∃ (r : Int) (g' : G), runN cfgI (N + 1) 11 [.ref 0, .int many] g = .ok (.int r) g' ∧ 0 ≤ r ∧ r < many ∧ St g' ∧ Kp g g' ∧ g'.length = g.length := by
  obtain ⟨a, b, c, hg⟩ := hs
  have hl : 0 < g.length := (List.getElem?_eq_some_iff.mp hg).1
  rw [runN_step fn11 rfl]
  suffices h : ∃ (r : Int) (g' : G), exec cfgI (callM cfgI.wh (runN cfgI N)) ir11 [some (.ref 0), some (.int many), none, none] g = .rt (.int r) g' ∧ 0 ≤ r ∧ r < many ∧ St g' ∧ Kp g g' ∧ g'.length = g.length by
    obtain ⟨r, g', e, h⟩ := h
    exact ⟨r, g', congrArg Out.fin e, h⟩
  have i0 : ∀ sl : Sl, sl[0]? = some (some (.ref 0)) → ev cfgI (callM cfgI.wh (runN cfgI N)) (.ix (.var 0) (.cst (.int 0))) sl g = .ok (.int a) g := fun sl h => ev_ix_ok (ev_var_ok h) rfl (ix_ref hg rfl)
  have i1 : ∀ sl : Sl, sl[0]? = some (some (.ref 0)) → ev cfgI (callM cfgI.wh (runN cfgI N)) (.ix (.var 0) (.cst (.int 1))) sl g = .ok (.int b) g := fun sl h => ev_ix_ok (ev_var_ok h) rfl (ix_ref hg rfl)
  have i2 : ∀ sl : Sl, sl[0]? = some (some (.ref 0)) → ev cfgI (callM cfgI.wh (runN cfgI N)) (.ix (.var 0) (.cst (.int 2))) sl g = .ok (.int c) g := fun sl h => ev_ix_ok (ev_var_ok h) rfl (ix_ref hg rfl)
  have hc : ev cfgI (callM cfgI.wh (runN cfgI N)) (.and (.op2 .eq (.ix (.var 0) (.cst (.int 1))) (.cst (.int 1))) (.op2 .gt (.ix (.var 0) (.cst (.int 0))) (.cst (.int 0)))) [some (.ref 0), some (.int many), none, none] g = .ok (.bl (decide (b = 1) && decide (0 < a))) g :=
    and_fl (ev_op2_ok (i1 _ rfl) rfl rfl) (ev_op2_ok (i0 _ rfl) rfl rfl)
  cases hk : decide (b = 1) && decide (0 < a) with
  | true =>
    rw [hk] at hc
    refine ⟨a % many, g.set 0 (.lst [.int (a / many), .int b, .int c]), ?_, Int.emod_nonneg _ (by omega), Int.emod_lt_of_pos _ h1, ⟨_, _, _, get_set0 hl⟩, Kp.set0 _ _, by simp⟩
    refine (exec_ifT hc).trans (seqF_rt ((exec_set1 (ev_op2_ok (i0 _ rfl) rfl (mod_ok h1))).trans ((exec_put1 (ev_op2_ok (i0 _ rfl) rfl (fdiv_ok ⟨h1, h2⟩)) rfl rfl (put_ref hg (by simp))).trans (exec_ret_ok rfl))))
  | false =>
    rw [hk] at hc
    have hg1 : (g.set 0 (.lst [.int a, .int b, .int (c + 1)]) : G)[0]? = some (.lst [.int a, .int b, .int (c + 1)]) := get_set0 hl
    have j0 : ∀ sl : Sl, sl[0]? = some (some (.ref 0)) → ev cfgI (callM cfgI.wh (runN cfgI N)) (.ix (.var 0) (.cst (.int 0))) sl (g.set 0 (.lst [.int a, .int b, .int (c + 1)])) = .ok (.int a) (g.set 0 (.lst [.int a, .int b, .int (c + 1)])) := fun sl h => ev_ix_ok (ev_var_ok h) rfl (ix_ref hg1 rfl)
    have j2 : ∀ sl : Sl, sl[0]? = some (some (.ref 0)) → ev cfgI (callM cfgI.wh (runN cfgI N)) (.ix (.var 0) (.cst (.int 2))) sl (g.set 0 (.lst [.int a, .int b, .int (c + 1)])) = .ok (.int (c + 1)) (g.set 0 (.lst [.int a, .int b, .int (c + 1)])) := fun sl h => ev_ix_ok (ev_var_ok h) rfl (ix_ref hg1 rfl)
    obtain ⟨u1, hu1⟩ : ∃ u1, u1 = (a % 2147483647 + 7919 * (c + 1) + 17) * 48271 % 2147483647 := ⟨_, rfl⟩
    obtain ⟨u2, hu2⟩ : ∃ u2, u2 = u1 * u1 % 2147483647 := ⟨_, rfl⟩
    obtain ⟨u3, hu3⟩ : ∃ u3, u3 = (u2 + (c + 1)) * 69621 % 2147483629 := ⟨_, rfl⟩
    have b1 : -big < u1 ∧ u1 < big := by
      have := Int.emod_nonneg ((a % 2147483647 + 7919 * (c + 1) + 17) * 48271) (b := 2147483647) (by decide)
      have := Int.emod_lt_of_pos ((a % 2147483647 + 7919 * (c + 1) + 17) * 48271) (b := 2147483647) (by decide)
      unfold big
      omega
    have b3 : -big < u3 ∧ u3 < big := by
      have := Int.emod_nonneg ((u2 + (c + 1)) * 69621) (b := 2147483629) (by decide)
      have := Int.emod_lt_of_pos ((u2 + (c + 1)) * 69621) (b := 2147483629) (by decide)
      unfold big
      omega
    refine ⟨u3 * u3 % 2147483629 / 8 % many, g.set 0 (.lst [.int a, .int b, .int (c + 1)]), ?_, Int.emod_nonneg _ (by omega), Int.emod_lt_of_pos _ h1, ⟨_, _, _, hg1⟩, Kp.set0 _ _, by simp⟩
    refine (exec_ifF hc).trans ((exec_put1 (ev_op2_ok (i2 _ rfl) rfl rfl) rfl rfl (put_ref hg (by simp))).trans ?_)
    refine (exec_set1 (x := .int u1) (ev_op2_ok (ev_op2_ok (ev_op2_ok (ev_op2_ok (ev_op2_ok (j0 _ rfl) rfl (mod_ok (by decide))) (ev_op2_ok rfl (j2 _ rfl) (mul_okL (by decide))) rfl) rfl rfl) rfl (mul_okR (by decide))) rfl (by rw [hu1]; exact mod_ok (by decide)))).trans ?_
    refine (exec_set1 (x := .int u2) (ev_op2_ok (ev_op2_ok (x := .int u1) (y := .int u1) rfl rfl (mul_okL b1)) rfl (by rw [hu2]; exact mod_ok (by decide)))).trans ?_
    refine (exec_set1 (x := .int u3) (ev_op2_ok (ev_op2_ok (ev_op2_ok (x := .int u2) rfl (j2 _ rfl) rfl) rfl (mul_okR (by decide))) rfl (by rw [hu3]; exact mod_ok (by decide)))).trans ?_
    exact exec_ret_ok (ev_op2_ok (ev_op2_ok (ev_op2_ok (ev_op2_ok (x := .int u3) (y := .int u3) rfl rfl (mul_okL b3)) rfl (mod_ok (by decide))) rfl (fdiv_ok (by decide))) rfl (mod_ok h1))
noncomputable def bad : O := .lst [.non]
structure View (v g : G) : Prop where
  len : v.length = g.length
  get : ∀ (i : Nat) o, 0 < i → v[i]? = some o → o = bad ∨ g[i]? = some o
theorem View.refl (g : G) : View g g := ⟨rfl, fun _ _ _ h => .inr h⟩
theorem View.kp {v g g' : G} (h : View v g) (k : Kp g g') (l : g'.length = g.length) : View v g' := ⟨h.len.trans l.symm, fun i o hi e => (h.get i o hi e).imp id (k i o hi)⟩
theorem View.app {v g : G} (h : View v g) {o o' : O} (ho : o = bad ∨ o = o') : View (v ++ [o]) (g ++ [o']) := by
  refine ⟨by simp [h.len], fun i x hi e => ?_⟩
  by_cases hlt : i < v.length
  · rw [List.getElem?_append_left hlt] at e
    exact (h.get i x hi e).imp id fun e => get_pre (List.prefix_append _ _) e
  · have : i < (v ++ [o]).length := (List.getElem?_eq_some_iff.mp e).1
    have hi' : i = v.length := by simp at this; omega
    subst hi'
    rw [last_at] at e
    cases e
    rcases ho with ho | ho
    · exact .inl ho
    · subst ho
      rw [h.len, last_at]
      exact .inr rfl
theorem View.set {v g : G} (h : View v g) {p : Nat} (hp : v[p]? = some bad) (o : O) : View v (g.set p o) := by
  refine ⟨by simp [h.len], fun i x hi e => ?_⟩
  by_cases hip : i = p
  · subst hip
    rw [hp] at e
    cases e
    exact .inl rfl
  · rw [List.getElem?_set_ne (fun z => hip z.symm)]
    exact h.get i x hi e
theorem View.show {v g : G} (h : View v g) {p : Nat} {o : O} (hp : g[p]? = some o) : View (v.set p o) g := by
  refine ⟨by simp [h.len], fun i x hi e => ?_⟩
  by_cases hip : i = p
  · subst hip
    have : i < (v.set i o).length := (List.getElem?_eq_some_iff.mp e).1
    rw [List.getElem?_set_self (by simpa using this)] at e
    cases e
    exact .inr hp
  · rw [List.getElem?_set_ne (fun z => hip z.symm)] at e
    exact h.get i x hi e
theorem Tree.kb {b : Nat} {g g' : G} (h : ∀ (i : Nat) o, 0 < i → g[i]? = some o → o = bad ∨ g'[i]? = some o) : ∀ {n : Nat} {w : W} {d : PyData}, Tree b g n w d → Tree b g' n w d
  | 0, _, _, t => t
  | n + 1, w, d, t => by
    have key : ∀ {i : Nat} {ws : List W} {ds : List PyData}, 0 < i → g[i]? = some (.lst ws) → Rows (Tree b g n) ws ds → g'[i]? = some (.lst ws) := fun hi e r => by
      rcases h _ _ hi e with hb | e'
      · unfold bad at hb
        cases hb
        obtain ⟨m, w', d', r, e1, _⟩ := r
        cases e1
      · exact e'
    unfold Tree at t ⊢
    rcases t with t | ⟨m, w', d', e1, e2, t⟩ | ⟨i, ws, ds, e1, e2, hi, e3, hl, r⟩ | ⟨i, ws, ds, e1, e2, hi, e3, hl, r⟩ | t | t | t
    · exact .inl t
    · exact .inr (.inl ⟨m, w', d', e1, e2, Tree.kb h t⟩)
    · exact .inr (.inr (.inl ⟨i, ws, ds, e1, e2, hi, key hi e3 r, hl, r.imp fun _ _ => Tree.kb h⟩))
    · exact .inr (.inr (.inr (.inl ⟨i, ws, ds, e1, e2, hi, key hi e3 r, hl, r.imp fun _ _ => Tree.kb h⟩)))
    · exact .inr (.inr (.inr (.inr (.inl t))))
    · exact .inr (.inr (.inr (.inr (.inr (.inl t)))))
    · exact .inr (.inr (.inr (.inr (.inr (.inr t)))))
theorem View.tree {b n : Nat} {v g : G} {w : W} {d : PyData} (h : View v g) (t : Tree b v n w d) : Tree b g n w d := t.kb h.get
theorem Tree.unhide {b n p : Nat} {v : G} {w : W} {d : PyData} {o : O} (hp : v[p]? = some bad) (t : Tree b v n w d) : Tree b (v.set p o) n w d := by
  refine t.kb fun i x hi e => ?_
  by_cases hip : i = p
  · subst hip
    rw [hp] at e
    cases e
    exact .inl rfl
  · rw [List.getElem?_set_ne (fun z => hip z.symm)]
    exact .inr e
theorem Kp.setp {g0 g : G} (h : Kp g0 g) {p : Nat} (hp : g0.length ≤ p) (o : O) : Kp g0 (g.set p o) := fun i x hi e => by
  have := (List.getElem?_eq_some_iff.mp e).1
  rw [List.getElem?_set_ne (by omega)]
  exact h i x hi e
theorem pre_set {α : Type} {l l' : List α} (h : l <+: l') {p : Nat} (hp : l.length ≤ p) (o : α) : l <+: l'.set p o := by
  obtain ⟨e, rfl⟩ := h
  rw [List.set_append_right _ _ hp]
  exact List.prefix_append _ _
structure Go (v g v' g' : G) : Prop where
  st : St g'
  kp : Kp g g'
  pre : v <+: v'
  vw : View v' g'
theorem Go.refl {v g : G} (S : St g) (V : View v g) : Go v g v g := ⟨S, Kp.refl _, List.prefix_refl _, V⟩
theorem Go.trans {v g v1 g1 v2 g2 : G} (a : Go v g v1 g1) (b : Go v1 g1 v2 g2) : Go v g v2 g2 := ⟨b.st, a.kp.trans b.kp, a.pre.trans b.pre, b.vw⟩
theorem Go.app {v g v1 g1 : G} (a : Go v g v1 g1) {o o' : O} (ho : o = bad ∨ o = o') : Go v g (v1 ++ [o]) (g1 ++ [o']) := ⟨a.st.app _, a.kp.trans (Kp.app _ _), a.pre.trans (List.prefix_append _ _), a.vw.app ho⟩
theorem takeG (N : Nat) {v g v1 g1 : G} (a : Go v g v1 g1) {many : Int} (h1 : 0 < many) (h2 : many < 1073741824) : ∃ (r : Int) (g' : G), callM cfgI.wh (runN cfgI (N + 1)) 11 [.ref 0, .int many] g1 = .ok (.int r) g' ∧ 0 ≤ r ∧ r < many ∧ Go v g v1 g' := by
  obtain ⟨r, g', e, h3, h4, S, K, L⟩ := take_ok N a.st h1 h2
  exact ⟨r, g', (whole rfl).trans e, h3, h4, S, a.kp.trans K, a.pre, a.vw.kp K L⟩
theorem leaf_tree {b n : Nat} {v : G} {s : Str} (hs : s ∈ leaves) : Tree b v (n + 1) (.tup [.str s]) (.tuple [.str s]) := by
  unfold Tree
  exact .inl ⟨s, hs, rfl, rfl⟩
theorem mv_tree {b n : Nat} {v : G} {m : Mv} {w : W} {d : PyData} (t : Tree b v n w d) : Tree b v (n + 1) (.tup [.str sMove, mvW m, w]) (.tuple [.str sMove, mvD m, d]) := by
  unfold Tree
  exact .inr (.inl ⟨m, w, d, rfl, rfl, t⟩)
theorem all_tree {b n i : Nat} {v : G} {ws : List W} {ds : List PyData} (hi : 0 < i) (hv : v[i]? = some (.lst ws)) (hl : ws.length ≤ b) (r : Rows (Tree b v n) ws ds) : Tree b v (n + 1) (.tup [.str sAll, .ref i]) (.tuple [.str sAll, .list ds]) := by
  unfold Tree
  exact .inr (.inr (.inl ⟨i, ws, ds, rfl, rfl, hi, hv, hl, r⟩))
theorem mod2 (k : Int) : k % 2 = 0 ∨ k % 2 = 1 := by omega
theorem big_pos : -Ev.big < 0 ∧ (0 : Int) < Ev.big ∧ -Ev.big < 1 ∧ (1 : Int) < Ev.big := by decide
theorem turns {k r : Int} {n : Nat} (h1 : 0 ≤ r) (h2 : r < 3) (hn : n = (1 + k % 2 * r).toNat) : (-Ev.big < k % 2 ∧ k % 2 < Ev.big) ∧ (1 ≤ n ∧ n ≤ 3) ∧ (-4611686018427387904 ≤ 1 + k % 2 * r ∧ 1 + k % 2 * r < 4611686018427387904) := by
  have hb := big_pos
  rcases mod2 k with h | h
  · rw [h, Int.zero_mul] at hn
    rw [h, Int.zero_mul]
    exact ⟨⟨hb.1, hb.2.1⟩, by rw [hn]; decide, by decide⟩
  · rw [h, Int.one_mul] at hn
    rw [h, Int.one_mul]
    exact ⟨⟨hb.2.2.1, hb.2.2.2⟩, by omega, by omega⟩
theorem drawn_ok (leaf : Str) (hlf : leaf ∈ leaves) : ∀ (k N : Nat) {v g : G}, k + 2 ≤ N → St g → View v g → ∃ w d v' g', runN cfgI N 17 [.ref 0, .int k, .str leaf] g = .ok w g' ∧ Go v g v' g' ∧ Tree 3 v' (k + 1) w d ∧ okD (k + 1) leaf d = true
  | k, 0, _, _, h, _, _ => by omega
  | k, 1, _, _, h, _, _ => by omega
  | 0, N + 2, v, g, hN, S, V => by
    rw [runN_step fn17 rfl]
    obtain ⟨kind, g1, e1, h1, h2, G1⟩ := takeG N (Go.refl S V) (many := 3) (by decide) (by decide)
    refine ⟨.tup [.str leaf], .tuple [.str leaf], v, g1, ?_, G1, leaf_tree hlf, by rw [okD_leaf]; exact decide_eq_true rfl⟩
    have : exec cfgI (callM cfgI.wh (runN cfgI (N + 1))) ir17 [some (.ref 0), some (.int (0 : Nat)), some (.str leaf), none, none, none, none] g = .rt (.tup [.str leaf]) g1 :=
      (exec_set1 (ev_call2 rfl rfl rfl e1)).trans ((exec_ifT (or_tt rfl)).trans (seqF_rt (exec_ret_ok (ev_tup1 rfl))))
    exact congrArg Out.fin this
  | k + 1, N + 2, v, g, hN, S, V => by
    rw [runN_step fn17 rfl]
    suffices h : ∃ w d v' g', exec cfgI (callM cfgI.wh (runN cfgI (N + 1))) ir17 [some (.ref 0), some (.int (k + 1 : Nat)), some (.str leaf), none, none, none, none] g = .rt w g' ∧ Go v g v' g' ∧ Tree 3 v' (k + 1 + 1) w d ∧ okD (k + 1 + 1) leaf d = true by
      obtain ⟨w, d, v', g', e, h⟩ := h
      exact ⟨w, d, v', g', congrArg Out.fin e, h⟩
    obtain ⟨kind, g1, e1, h1, h2, G1⟩ := takeG N (Go.refl S V) (many := 3) (by decide) (by decide)
    have hk0 : decide (((k + 1 : Nat) : Int) = 0) = false := decide_eq_false (by omega)
    have hc : ev cfgI (callM cfgI.wh (runN cfgI (N + 1))) (.or (.op2 .eq (.var 1) (.cst (.int 0))) (.op2 .eq (.var 3) (.cst (.int 0)))) [some (.ref 0), some (.int (k + 1 : Nat)), some (.str leaf), some (.int kind), none, none, none] g1 = .ok (.bl (decide (kind = 0))) g1 := by
      refine or_ff (ev_op2_ok (x := .int (k + 1 : Nat)) (y := .int 0) (g1 := g1) (g2 := g1) rfl rfl ?_) (ev_op2_ok (x := .int kind) (y := .int 0) rfl rfl rfl)
      show Res.ok (W.bl (decide (((k + 1 : Nat) : Int) = 0))) g1 = _
      rw [hk0]
    by_cases hz : kind = 0
    · rw [decide_eq_true hz] at hc
      exact ⟨.tup [.str leaf], .tuple [.str leaf], v, g1, (exec_set1 (ev_call2 rfl rfl rfl e1)).trans ((exec_ifT hc).trans (seqF_rt (exec_ret_ok (ev_tup1 rfl)))), G1, leaf_tree hlf, by rw [okD_leaf]; exact decide_eq_true rfl⟩
    · rw [decide_eq_false hz] at hc
      have big := big10
      -- the list of rows
      obtain ⟨p, hp⟩ : ∃ p, p = g1.length := ⟨_, rfl⟩
      have hp0 : 0 < p := by rw [hp]; exact G1.st.pos
      have G2 : Go v g (v ++ [bad]) (g1 ++ [.lst []]) := G1.app (.inl rfl)
      obtain ⟨r, g3, e3, h3, h4, G3'⟩ := takeG N (Go.refl G2.st G2.vw) (many := 3) (by decide) (by decide)
      have G3 := G2.trans G3'
      obtain ⟨n, hn⟩ : ∃ n : Nat, n = (1 + kind % 2 * r).toNat := ⟨_, rfl⟩
      obtain ⟨hb2, hn1, hr3⟩ := turns h3 h4 hn
      have hit : evI cfgI (callM cfgI.wh (runN cfgI (N + 1))) (.rng (.cons (.op2 .add (.cst (.int 1)) (.op2 .mul (.op2 .mod (.var 3) (.cst (.int 2))) (.call 11 (.cons (.var 0) (.cons (.cst (.int 3)) .nil))))) .nil)) [some (.ref 0), some (.int (k + 1 : Nat)), some (.str leaf), some (.int kind), some (.ref p), none, none] (g1 ++ [.lst []]) = .ok (.rng 0 n) g3 := by
        rw [hn]
        exact evI_rng1 (ev_op2_ok (x := .int 1) rfl (ev_op2_ok (ev_op2_ok (x := .int kind) (y := .int 2) rfl rfl (mod_ok (by decide))) (ev_call2 rfl rfl rfl e3) (mul_okL hb2)) rfl) hr3
      have hv3 : (g3 : G)[p]? = some (.lst []) := G3'.kp p _ hp0 (by rw [hp]; exact last_at)
      have hK3 : Kp g1 g3 := (Kp.app _ _).trans G3'.kp
      have hvl : v.length = p := by rw [hp, G1.vw.len]
      obtain ⟨s', g4, hf, x5, x6, v4, ws, ds, rfl, S4, K4, P4, V4, hg4, hl4, R4, A4⟩ := for_inv (nxt := (It.rng 0 n).nxt) (N := n)
        (step := fun x s g2 => match setT (.one 5) x g2 s with | none => .stuck | some s1 => exec cfgI (callM cfgI.wh (runN cfgI (N + 1))) (.seq (.set (.one 6) (.tup (.cons (.tup (.cons (.call 11 (.cons (.var 0) (.cons (.cst (.int 4)) .nil))) (.cons (.var 5) .nil))) (.cons (.tup (.cons (.call 11 (.cons (.var 0) (.cons (.cst (.int 4)) .nil))) (.cons (.call 11 (.cons (.var 0) (.cons (.cst (.int 4)) .nil))) .nil))) .nil)))) (.seq (.drop (.mth .append (.var 4) (.cons (.tup (.cons (.var 6) (.cons (.call 17 (.cons (.var 0) (.cons (.op2 .sub (.var 1) (.cst (.int 1))) (.cons (.var 2) .nil)))) .nil))) .nil))) .skip)) s1 g2)
        (fun j s g' => ∃ x5 x6 v' ws ds, s = [some (.ref 0), some (.int (k + 1 : Nat)), some (.str leaf), some (.int kind), some (.ref p), x5, x6] ∧ St g' ∧ Kp g1 g' ∧ (v ++ [bad]) <+: v' ∧ View v' g' ∧ g'[p]? = some (.lst ws) ∧ ws.length = j ∧ Rows (Tree 3 v' (k + 1)) ws ds ∧ ds.all (rowOk (k + 1) leaf) = true)
        (fun j s g' hj qq => by
          obtain ⟨x5, x6, v', ws, ds, hs, S', K', P', V', hg', hl', R', A'⟩ := qq
          subst hs
          refine ⟨.int (0 + j), congrArg some (if_pos hj), ?_⟩
          obtain ⟨r1, ga, ea, _, _, Ga⟩ := takeG N (Go.refl S' V') (many := 4) (by decide) (by decide)
          obtain ⟨r2, gb, eb, _, _, Gb⟩ := takeG N Ga (many := 4) (by decide) (by decide)
          obtain ⟨r3, gc, ec, _, _, Gc⟩ := takeG N Gb (many := 4) (by decide) (by decide)
          obtain ⟨w, d, v5, g5, e5, G5, t5, o5⟩ := drawn_ok leaf hlf k (N + 1) (by omega) Gc.st Gc.vw
          have hbad : v5[p]? = some bad := get_pre G5.pre (get_pre P' (by rw [← hvl]; exact last_at))
          have hg5 : g5[p]? = some (.lst ws) := G5.kp p _ hp0 (Gc.kp p _ hp0 hg')
          have hp5 : p < g5.length := (List.getElem?_eq_some_iff.mp hg5).1
          refine ⟨[some (.ref 0), some (.int (k + 1 : Nat)), some (.str leaf), some (.int kind), some (.ref p), some (.int (0 + j)), some (mvW ⟨r1, 0 + j, r2, r3⟩)], g5.set p (.lst (ws ++ [.tup [mvW ⟨r1, 0 + j, r2, r3⟩, w]])), ?_, ?_⟩
          · show exec cfgI (callM cfgI.wh (runN cfgI (N + 1))) _ [some (.ref 0), some (.int (k + 1 : Nat)), some (.str leaf), some (.int kind), some (.ref p), some (.int (0 + j)), x6] g' = _
            refine (exec_set1 (x := mvW ⟨r1, 0 + j, r2, r3⟩) (tup_ok (tup_ok (ev_call2 rfl rfl rfl ea) rfl) (tup_ok (ev_call2 rfl rfl rfl eb) (ev_call2 rfl rfl rfl ec)))).trans ?_
            refine (exec_drop1 (ev_app (i := p) (ws := ws) (g1 := gc) rfl ⟨ws, Gc.kp p _ hp0 hg'⟩ (tup_ok (x := mvW ⟨r1, 0 + j, r2, r3⟩) (g1 := gc) rfl (ev_call3 (x := .ref 0) (y := .int k) (z := .str leaf) (g1 := gc) (g2 := gc) (g3 := gc) rfl rfl (ev_op2_ok (x := .int (k + 1 : Nat)) (y := .int 1) (g1 := gc) (g2 := gc) rfl rfl ?_) rfl ((whole rfl).trans e5))) hg5 (by omega))).trans ?_
            · show Res.ok (W.int (((k + 1 : Nat) : Int) - 1)) gc = _
              congr 2
              omega
            · rw [exec_skip]
              rfl
          · refine ⟨_, _, v5, ws ++ [.tup [mvW ⟨r1, 0 + j, r2, r3⟩, w]], ds ++ [.tuple [mvD ⟨r1, 0 + j, r2, r3⟩, d]], rfl, G5.st.set hp0 _, ((K'.trans Gc.kp).trans G5.kp).setp (by omega) _, P'.trans G5.pre, G5.vw.set hbad _, List.getElem?_set_self hp5, by simp [hl'], (R'.imp fun _ _ => Tree.kp (Kp.pre G5.pre)).snoc t5, ?_⟩
            rw [List.all_append, A']
            show (true && (okD (k + 1) leaf d && true)) = true
            rw [o5]
            rfl)
        (fun s g' _ => congrArg some (if_neg (by omega))) n 0 [some (.ref 0), some (.int (k + 1 : Nat)), some (.str leaf), some (.int kind), some (.ref p), none, none] g3 (by omega)
        ⟨none, none, v ++ [bad], [], [], rfl, G3.st, hK3, List.prefix_refl _, G3.vw, hv3, rfl, rfl, rfl⟩
      have hbad : v4[p]? = some bad := get_pre P4 (by rw [← hvl]; exact last_at)
      have elst : ev cfgI (callM cfgI.wh (runN cfgI (N + 1))) (.lst .nil) [some (.ref 0), some (.int (k + 1 : Nat)), some (.str leaf), some (.int kind), none, none, none] g1 = .ok (.ref p) (g1 ++ [.lst []]) := by
        rw [hp]
        exact ev_lst_ok (ws := []) (g1 := g1) rfl (Nat.zero_le _)
      have start : exec cfgI (callM cfgI.wh (runN cfgI (N + 1))) ir17 [some (.ref 0), some (.int (k + 1 : Nat)), some (.str leaf), none, none, none, none] g = exec cfgI (callM cfgI.wh (runN cfgI (N + 1))) (.seq (.ite (.op2 .eq (.var 3) (.cst (.int 1))) (.seq (.ret (.tup (.cons (.cst (.str sAll)) (.cons (.var 4) .nil)))) .skip) .skip) (.seq (.ret (.tup (.cons (.cst (.str sMove)) (.cons (.ix (.ix (.var 4) (.cst (.int 0))) (.cst (.int 0))) (.cons (.ix (.ix (.var 4) (.cst (.int 0))) (.cst (.int 1))) .nil))))) .skip)) [some (.ref 0), some (.int (k + 1 : Nat)), some (.str leaf), some (.int kind), some (.ref p), x5, x6] g4 := by
        refine (exec_set1 (ev_call2 rfl rfl rfl e1)).trans ?_
        refine (exec_ifF hc).trans ?_
        refine (exec_set1 elst).trans ?_
        exact exec_loop1 hit rfl hf
      have hne : ds.isEmpty = false := by
        have hl := R4.len
        cases ds with
        | nil => rw [hl4] at hl; simp at hl; omega
        | cons a l => rfl
      by_cases ho : kind = 1
      · refine ⟨.tup [.str sAll, .ref p], .tuple [.str sAll, .list ds], v4.set p (.lst ws), g4, start.trans ((exec_ifT ?_).trans (seqF_rt (exec_ret_ok (tup_ok rfl rfl)))), ⟨S4, G1.kp.trans K4, pre_set ((List.prefix_append _ _).trans P4) (by omega) _, V4.show hg4⟩, ?_, ?_⟩
        · subst ho
          rfl
        · exact all_tree hp0 (List.getElem?_set_self (by have := (List.getElem?_eq_some_iff.mp hbad).1; exact this)) (by omega) (R4.imp fun _ _ => Tree.unhide hbad)
        · rw [okD_all, hne, A4]
          rfl
      · match ws, hl4, R4 with
        | [], hl4, _ => simp at hl4; omega
        | x :: ws, hl4, ⟨m, w', d', r', ex, e2, t, _⟩ =>
          subst ex
          subst e2
          have hx : ∀ sl : Sl, sl[4]? = some (some (.ref p)) → ev cfgI (callM cfgI.wh (runN cfgI (N + 1))) (.ix (.var 4) (.cst (.int 0))) sl g4 = .ok (.tup [mvW m, w']) g4 := fun sl h => ev_ix_ok (ev_var_ok h) rfl (ix_ref hg4 (atI_at (i := 0) rfl))
          refine ⟨.tup [.str sMove, mvW m, w'], .tuple [.str sMove, mvD m, d'], v4, g4, start.trans ((exec_ifF ?_).trans (exec_ret_ok (ev_tup3 (x := .str sMove) rfl (ev_ix_ok (hx _ rfl) rfl rfl) (ev_ix_ok (hx _ rfl) rfl rfl)))), ⟨S4, G1.kp.trans K4, (List.prefix_append _ _).trans P4, V4⟩, mv_tree t, ?_⟩
          · refine ev_op2_ok (x := .int kind) (y := .int 1) (g1 := g4) (g2 := g4) rfl rfl ?_
            show Res.ok (W.bl (decide (kind = 1))) g4 = _
            rw [decide_eq_false ho]
          · rw [okD_mv]
            rw [List.all_cons, Bool.and_eq_true] at A4
            exact A4.1
end K30
set_option Elab.async false
set_option linter.all false
set_option maxRecDepth 100000
namespace Ev
open PySem L2
section
variable {P : Cfg} {cl : Nat → List W → G → Res W} {sl sl1 : Sl} {g g1 g2 g3 : G} {a b r : E} {x y : W} {xs : List W}
theorem evs_c (ha : ev P cl a sl g = .ok x g1) (hr : evs P cl r sl g1 = .ok xs g2) : evs P cl (.cons a r) sl g = .ok (x :: xs) g2 := by
  rw [evs_cons]
  show ((ev P cl a sl g).bind _) = _
  rw [ha]
  show ((evs P cl r sl g1).bind _) = _
  rw [hr]
  rfl
theorem seqF_nx {f1 f2 : Sl → G → Out} (h : f1 sl g = .nx sl1 g1) : seqF f1 f2 sl g = f2 sl1 g1 := by unfold seqF; rw [h]
theorem ev_mth_ok {m : Mt} {as : E} {r : Res W} (ho : ev P cl a sl g = .ok x g1) (ht : mtT m x g1 = true) (ha : evs P cl as sl g1 = .ok xs g2) (hr : mthW m x xs g2 = r) : ev P cl (.mth m a as) sl g = r := by
  rw [ev_mth]
  show ((ev P cl a sl g).bind _) = _
  rw [ho]
  show (if mtT m x g1 then _ else _) = _
  rw [if_pos ht]
  show ((evs P cl as sl g1).bind _) = _
  rw [ha]
  exact hr
theorem isLst_ok {i : Nat} {ws : List W} (h : g[i]? = some (.lst ws)) : isLst g i = true := by
  unfold isLst
  rw [h]
theorem pop_ok {i : Nat} {ws : List W} {k : Int} (h : g[i]? = some (.lst ws)) (hk : 0 ≤ k ∧ k < ws.length) : ∃ w, mthW .pop (.ref i) [.int k] g = .ok w (g.set i (.lst (ws.eraseIdx k.toNat))) := by
  have hx : ws[k.toNat]? = some (ws[k.toNat]'(by omega)) := List.getElem?_eq_getElem (by omega)
  refine ⟨ws[k.toNat]'(by omega), ?_⟩
  show (match g[i]? with | some (.lst ws) => if 0 ≤ k ∧ k < ws.length then (match ws[k.toNat]? with | some w => Res.ok w (g.set i (O.lst (ws.eraseIdx k.toNat))) | none => .stuck) else .stuck | none => .stuck) = _
  rw [h]
  show (if 0 ≤ k ∧ k < ws.length then (match ws[k.toNat]? with | some w => Res.ok w (g.set i (O.lst (ws.eraseIdx k.toNat))) | none => .stuck) else .stuck) = _
  rw [if_pos hk, hx]
theorem rev_ok {i : Nat} {ws : List W} (h : g[i]? = some (.lst ws)) : mthW .reverse (.ref i) [] g = .ok .non (g.set i (.lst ws.reverse)) := by
  show (match g[i]? with | some (.lst ws) => Res.ok W.non (g.set i (.lst ws.reverse)) | none => .stuck) = _
  rw [h]
theorem ins_ok {i : Nat} {ws : List W} {k : Int} {w : W} (h : g[i]? = some (.lst ws)) (hk : 0 ≤ k ∧ k < ws.length ∧ ws.length < sizeLine) : mthW .insert (.ref i) [.int k, w] g = .ok .non (g.set i (.lst (ws.take k.toNat ++ w :: ws.drop k.toNat))) := by
  show (match g[i]? with | some (.lst ws) => if 0 ≤ k ∧ k < ws.length ∧ ws.length < sizeLine then Res.ok W.non (g.set i (.lst (ws.take k.toNat ++ w :: ws.drop k.toNat))) else .stuck | none => .stuck) = _
  rw [h]
  exact if_pos hk
theorem list_ok {i : Nat} {ws : List W} (h : items g (.ref i) = some ws) : bltW .list [.ref i] g = .ok (.ref g.length) (g ++ [.lst ws]) := by
  show (match items g (.ref i) with | some ws => Res.ok (W.ref g.length) (g ++ [O.lst ws]) | none => .stuck) = _
  rw [h]
theorem len_ok {i : Nat} {ws : List W} (h : items g (.ref i) = some ws) : bltW .len [.ref i] g = .ok (.int ws.length) g := by
  show Res.of ((items g (.ref i)).map fun ws => W.int ws.length) g = _
  rw [h]
  rfl
theorem add_ok {i j : Nat} {xs ys : List W} (hx : g[i]? = some (.lst xs)) (hy : g[j]? = some (.lst ys)) (hl : xs.length + ys.length ≤ sizeLine) : op2W .add (.ref i) (.ref j) g = .ok (.ref g.length) (g ++ [.lst (xs ++ ys)]) := by
  show (match g[i]?, g[j]? with | some (.lst xs), some (.lst ys) => if xs.length + ys.length ≤ sizeLine then Res.ok (W.ref g.length) (g ++ [O.lst (xs ++ ys)]) else .stuck | _, _ => .stuck) = _
  rw [hx, hy]
  exact if_pos hl
theorem at_in {α : Type} {l : List α} {r : Int} (h0 : 0 ≤ r) (h1 : r < l.length) : ∃ x, atI l r = some x ∧ x ∈ l ∧ l[r.toNat]? = some x := by
  have hx : l[r.toNat]? = some (l[r.toNat]'(by omega)) := List.getElem?_eq_getElem (by omega)
  have := atI_at hx
  rw [Int.toNat_of_nonneg h0] at this
  exact ⟨_, this, List.getElem_mem _, hx⟩
end
end Ev
namespace K30
open PySem Ev L2 PySem.SeqAt
noncomputable abbrev Cl (N : Nat) : Nat → List W → G → Res W := callM cfgI.wh (runN cfgI N)
theorem Rows.of_all {R : W → PyData → Prop} : ∀ {ws : List W}, (∀ x ∈ ws, ∃ m w' d', x = .tup [mvW m, w'] ∧ R w' d') → ∃ ds, Rows R ws ds
  | [], _ => ⟨[], rfl⟩
  | w :: ws, h => by
    obtain ⟨m, w', d', e, r⟩ := h w (List.mem_cons_self ..)
    obtain ⟨ds, hr⟩ := Rows.of_all (ws := ws) fun x hx => h x (List.mem_cons_of_mem _ hx)
    exact ⟨_, m, w', d', ds, e, rfl, r, hr⟩
theorem Rows.mem {R : W → PyData → Prop} {ws : List W} {ds : List PyData} (r : Rows R ws ds) {x : W} (h : x ∈ ws) : ∃ m w' d', x = .tup [mvW m, w'] ∧ R w' d' := by
  obtain ⟨j, hj⟩ := List.getElem?_of_mem h
  obtain ⟨m, w', d', e, _, t⟩ := r.get hj
  exact ⟨m, w', d', e, t⟩
theorem View.lst {R : W → PyData → Prop} {v g : G} (V : View v g) {i : Nat} (hi : 0 < i) {ws : List W} {ds : List PyData} (h : v[i]? = some (.lst ws)) (r : Rows R ws ds) : g[i]? = some (.lst ws) := by
  rcases V.get i _ hi h with hb | e
  · unfold bad at hb
    cases hb
    obtain ⟨m, w', d', r, e1, _⟩ := r
    cases e1
  · exact e
theorem evr_tree {b n i : Nat} {v : G} {ws : List W} {ds : List PyData} (hi : 0 < i) (hv : v[i]? = some (.lst ws)) (hl : ws.length ≤ b) (r : Rows (Tree b v n) ws ds) : Tree b v (n + 1) (.tup [.str sEvery, .ref i]) (.tuple [.str sEvery, .list ds]) := by
  unfold Tree
  exact .inr (.inr (.inr (.inl ⟨i, ws, ds, rfl, rfl, hi, hv, hl, r⟩)))
theorem short_tree {b n : Nat} {v : G} {m : Mv} : Tree b v (n + 1) (.tup [.str sMove, mvW m]) (.tuple [.str sMove, mvD m]) := by
  unfold Tree
  exact .inr (.inr (.inr (.inr (.inl ⟨m, rfl, rfl⟩))))
theorem won1_tree {b n : Nat} {v : G} : Tree b v (n + 1) (.tup [.str sWon, .int 1]) (.tuple [.str sWon, .int 1]) := by
  unfold Tree
  exact .inr (.inr (.inr (.inr (.inr (.inl ⟨rfl, rfl⟩)))))
theorem unit_tree {b n : Nat} {v : G} : Tree b v (n + 1) (.tup []) (.tuple []) := by
  unfold Tree
  exact .inr (.inr (.inr (.inr (.inr (.inr ⟨rfl, rfl⟩)))))
noncomputable abbrev takeE (k : Int) : E := .call 11 (.cons (.var 1) (.cons (.cst (.int k)) .nil))
theorem takeV (N : Nat) {v g : G} (S : St g) (V : View v g) {many : Int} (h1 : 0 < many) (h2 : many < 1073741824) {sl : Sl} (hs : sl[1]? = some (some (.ref 0))) : ∃ (r : Int) (g' : G), ev cfgI (Cl (N + 1)) (takeE many) sl g = .ok (.int r) g' ∧ 0 ≤ r ∧ r < many ∧ Go v g v g' := by
  obtain ⟨r, g', e, h⟩ := takeG N (Go.refl S V) h1 h2
  exact ⟨r, g', ev_call2 rfl (ev_var_ok hs) rfl e, h⟩
theorem mv4 (N : Nat) {v g : G} (S : St g) (V : View v g) {sl : Sl} (hs : sl[1]? = some (some (.ref 0))) : ∃ (m : Mv) (g' : G), ev cfgI (Cl (N + 1)) (.tup (.cons (.tup (.cons (takeE 4) (.cons (takeE 4) .nil))) (.cons (.tup (.cons (takeE 4) (.cons (takeE 4) .nil))) .nil))) sl g = .ok (mvW m) g' ∧ Go v g v g' := by
  obtain ⟨r1, g1, e1, _, _, G1⟩ := takeV N S V (many := 4) (by decide) (by decide) hs
  obtain ⟨r2, g2, e2, _, _, G2⟩ := takeV N G1.st G1.vw (many := 4) (by decide) (by decide) hs
  obtain ⟨r3, g3, e3, _, _, G3⟩ := takeV N G2.st G2.vw (many := 4) (by decide) (by decide) hs
  obtain ⟨r4, g4, e4, _, _, G4⟩ := takeV N G3.st G3.vw (many := 4) (by decide) (by decide) hs
  exact ⟨⟨r1, r2, r3, r4⟩, g4, tup_ok (tup_ok e1 e2) (tup_ok e3 e4), ((G1.trans G2).trans G3).trans G4⟩
theorem pick (N : Nat) {v g ga : G} {E1 : E} {sl : Sl} {l : List W} {i : Nat} {many : Int} (hE : ev cfgI (Cl (N + 1)) E1 sl g = .ok (.ref i) ga) (hi : 0 < i) (hg : ga[i]? = some (.lst l)) (S : St ga) (V : View v ga) (hs : sl[1]? = some (some (.ref 0))) (h1 : 0 < many) (h2 : many < 1073741824) (hl : (l.length : Int) = many) :
    ∃ (x : W) (g' : G), ev cfgI (Cl (N + 1)) (.ix E1 (takeE many)) sl g = .ok x g' ∧ x ∈ l ∧ Go v ga v g' := by
  obtain ⟨r, g', e, h3, h4, G1⟩ := takeV N S V h1 h2 hs
  obtain ⟨x, hx, hm, _⟩ := at_in (l := l) h3 (by omega)
  exact ⟨x, g', ev_ix_ok hE e (ix_ref (G1.kp i _ hi hg) hx), hm, G1⟩
theorem mem_ins {α : Type} {ws : List α} {k : Nat} {w x : α} (h : x ∈ ws.take k ++ w :: ws.drop k) : x = w ∨ x ∈ ws := by
  rw [List.mem_append, List.mem_cons] at h
  rcases h with h | h | h
  · exact .inr (List.mem_of_mem_take h)
  · exact .inl h
  · exact .inr (List.mem_of_mem_drop h)
theorem all_new {b n p : Nat} {v g : G} {ws : List W} (V : View v g) (hp : 0 < p) (hv : v[p]? = some bad) (hg : g[p]? = some (.lst ws)) (hl : ws.length ≤ b) (h : ∀ x ∈ ws, ∃ m w' d', x = .tup [mvW m, w'] ∧ Tree b v n w' d') :
    View (v.set p (.lst ws)) g ∧ (∃ ds, Tree b (v.set p (.lst ws)) (n + 1) (.tup [.str sAll, .ref p]) (.tuple [.str sAll, .list ds])) ∧ (∃ ds, Tree b (v.set p (.lst ws)) (n + 1) (.tup [.str sEvery, .ref p]) (.tuple [.str sEvery, .list ds])) := by
  have hlt := (List.getElem?_eq_some_iff.mp hv).1
  obtain ⟨ds, r⟩ := Rows.of_all (R := Tree b (v.set p (.lst ws)) n) (ws := ws) fun x hx => by
    obtain ⟨m, w', d', e, t⟩ := h x hx
    exact ⟨m, w', d', e, t.unhide hv⟩
  have hg' : (v.set p (.lst ws))[p]? = some (.lst ws) := List.getElem?_set_self hlt
  exact ⟨V.show hg, ⟨ds, all_tree hp hg' hl r⟩, ⟨ds, evr_tree hp hg' hl r⟩⟩
end K30
set_option Elab.async false
set_option linter.all false
set_option maxRecDepth 100000
namespace Ev
open PySem
section
variable {P : Cfg} {cl : Nat → List W → G → Res W} {sl : Sl} {g : G}
theorem ev_tup0 : ev P cl (.tup .nil) sl g = .ok (.tup []) g := by
  rw [ev_tup]
  show (if 0 ≤ sizeLine then Res.ok (W.tup []) g else .stuck) = _
  exact if_pos (Nat.zero_le _)
theorem ltc {a b : Int} {i : Nat} (hv : sl[i]? = some (some (.int a))) : ev P cl (.op2 .lt (.var i) (.cst (.int b))) sl g = .ok (.bl (decide (a < b))) g := by
  refine ev_op2_ok (x := .int a) (y := .int b) (g1 := g) (g2 := g) ?_ rfl rfl
  rw [ev_var]
  show (match sl[i]? with | some (some w) => Res.ok w g | _ => .stuck) = _
  rw [hv]
end
end Ev
namespace K30
open PySem Ev L2 PySem.SeqAt
set_option maxHeartbeats 4000000 in
theorem bent_ok : ∀ (n N : Nat) {v g : G} {w q : W} {d : PyData} {leaf : Str}, n + 1 ≤ N → St g → View v g → Tree 3 v n w d → okD n leaf d = true → ∃ w' d' v' g', runN cfgI N 15 [w, .ref 0, q] g = .ok w' g' ∧ Go v g v' g' ∧ Tree 4 v' (n + 1) w' d'
  | 0, _, _, _, _, _, _, _, _, _, _, t, _ => by unfold Tree at t; exact t.elim
  | n + 1, 0, _, _, _, _, _, _, h, _, _, _, _ => by omega
  | n + 1, 1, _, _, _, _, _, _, h, _, _, _, _ => by omega
  | n + 1, N + 2, v, g, w, q, d, leaf, hN, S, V, t, ok => by
    rw [runN_step fn15 rfl]
    suffices h : ∃ w' d' v' g', exec cfgI (Cl (N + 1)) ir15 [some w, some (.ref 0), some q, none, none, none, none, none, none] g = .rt w' g' ∧ Go v g v' g' ∧ Tree 4 v' (n + 1 + 1) w' d' by
      obtain ⟨w', d', v', g', e, h⟩ := h
      exact ⟨w', d', v', g', congrArg Out.fin e, h⟩
    obtain ⟨way, g1, e1, h1, h2, G1⟩ := takeV N S V (many := 12) (by decide) (by decide) (sl := [some w, some (.ref 0), some q, none, none, none, none, none, none]) rfl
    have big := big10
    rcases good_cases t ok with ⟨s, hs, _, rfl, rfl⟩ | ⟨m, w1, d1, rfl, rfl, t1, ok1⟩ | ⟨i, ws, ds, rfl, rfl, hi, e3, hl, r, hne, ok1⟩
    · obtain ⟨m, g2, e2, G2⟩ := mv4 N G1.st G1.vw (sl := [some (.tup [.str s]), some (.ref 0), some q, some (.int way), none, none, none, none, none]) rfl
      have G12 := G1.trans G2
      obtain ⟨l, hl⟩ : ∃ l : List W, l = [.tup [.str sWon], .tup [.str sNot], .tup [.str sWon, .int 1], .tup [], .tup [.str sMove, mvW m, .tup [.str s]], .tup [.str sLost]] := ⟨_, rfl⟩
      have G3 : Go v g (v ++ [bad]) (g2 ++ [.lst l]) := G12.app (.inl rfl)
      obtain ⟨x, g4, e4, hx, G4⟩ := pick N (E1 := .lst (.cons (.tup (.cons (.cst (.str sWon)) .nil)) (.cons (.tup (.cons (.cst (.str sNot)) .nil)) (.cons (.tup (.cons (.cst (.str sWon)) (.cons (.cst (.int 1)) .nil))) (.cons (.tup .nil) (.cons (.tup (.cons (.cst (.str sMove)) (.cons (.var 6) (.cons (.var 0) .nil)))) (.cons (.tup (.cons (.cst (.str sLost)) .nil)) .nil))))))) (sl := [some (.tup [.str s]), some (.ref 0), some q, some (.int way), none, none, some (mvW m), none, none]) (g := g2) (ga := g2 ++ [.lst l]) (v := v ++ [bad]) (i := g2.length) (l := l) (many := 6)
        (by
          rw [hl]
          exact ev_lst_ok (evs_c (ev_tup1 rfl) (evs_c (ev_tup1 rfl) (evs_c (tup_ok rfl rfl) (evs_c ev_tup0 (evs_c (ev_tup3 rfl rfl rfl) (evs_c (ev_tup1 rfl) rfl)))))) (by show 6 ≤ sizeLine; omega))
        G12.st.pos last_at G3.st G3.vw rfl (by decide) (by decide) (by rw [hl]; rfl)
      have ht : ∃ d', Tree 4 (v ++ [bad]) (n + 1 + 1) x d' := by
        rw [hl] at hx
        simp only [List.mem_cons, List.not_mem_nil, or_false] at hx
        rcases hx with rfl | rfl | rfl | rfl | rfl | rfl
        · exact ⟨_, leaf_tree (by decide)⟩
        · exact ⟨_, leaf_tree (by decide)⟩
        · exact ⟨_, won1_tree⟩
        · exact ⟨_, unit_tree⟩
        · exact ⟨_, mv_tree (leaf_tree hs)⟩
        · exact ⟨_, leaf_tree (by decide)⟩
      obtain ⟨d', ht⟩ := ht
      refine ⟨x, d', v ++ [bad], g4, ?_, G3.trans G4, ht⟩
      have hs : s = sWon ∨ s = sNot ∨ s = sLost := by simpa [leaves] using hs
      clear hl ht hx t ok
      rcases hs with rfl | rfl | rfl <;> exact (exec_set1 e1).trans ((exec_ifF rfl).trans ((exec_ifF rfl).trans ((exec_set1 e2).trans ((exec_ifF rfl).trans ((exec_ifF rfl).trans (exec_ret_ok e4))))))
    · have hc : ev cfgI (Cl (N + 1)) (.and (.op2 .eq (.ix (.var 0) (.cst (.int 0))) (.cst (.str sMove))) (.op2 .lt (.var 3) (.cst (.int 6)))) [some (.tup [.str sMove, mvW m, w1]), some (.ref 0), some q, some (.int way), none, none, none, none, none] g1 = .ok (.bl (decide (way < 6))) g1 := and_tt rfl (ltc rfl)
      by_cases hw : way < 6
      · rw [decide_eq_true hw] at hc
        obtain ⟨w2, d2, v2, g2, e2, G2, t2⟩ := bent_ok n (N + 1) (q := q) (Nat.le_of_succ_le_succ hN) G1.st G1.vw t1 ok1
        exact ⟨.tup [.str sMove, mvW m, w2], .tuple [.str sMove, mvD m, d2], v2, g2, (exec_set1 e1).trans ((exec_ifT hc).trans (seqF_rt (exec_ret_ok (ev_tup3 (x := .str sMove) (y := mvW m) (g1 := g1) (g2 := g1) rfl rfl (ev_call3 (x := w1) (y := .ref 0) (z := q) (g1 := g1) (g2 := g1) (g3 := g1) rfl rfl rfl rfl ((whole rfl).trans e2)))))), G1.trans G2, mv_tree t2⟩
      · rw [decide_eq_false hw] at hc
        obtain ⟨m', g2, e2, G2⟩ := mv4 N G1.st G1.vw (sl := [some (.tup [.str sMove, mvW m, w1]), some (.ref 0), some q, some (.int way), none, none, none, none, none]) rfl
        have G12 := G1.trans G2
        obtain ⟨ga, hga⟩ : ∃ ga : G, ga = g2 ++ [.lst [.tup [mvW m, w1]]] := ⟨_, rfl⟩
        obtain ⟨l1, hl1⟩ : ∃ l : List W, l = [w1, .tup [.str sMove, mvW m', w1], .tup [.str sMove, mvW m], .tup [.str sAll, .ref g2.length]] := ⟨_, rfl⟩
        obtain ⟨l2, hl2⟩ : ∃ l : List W, l = [.tup [.str sWon], .tup [.str sNot], .tup [.str sMove, mvW m', .tup [.str sLost]]] := ⟨_, rfl⟩
        obtain ⟨gb, hgb⟩ : ∃ gb : G, gb = ga ++ [.lst l1] := ⟨_, rfl⟩
        obtain ⟨gc, hgc⟩ : ∃ gc : G, gc = gb ++ [.lst l2] := ⟨_, rfl⟩
        have Ga : Go v g (v ++ [.lst [.tup [mvW m, w1]]]) ga := by rw [hga]; exact G12.app (.inr rfl)
        have Gb : Go v g (v ++ [.lst [.tup [mvW m, w1]]] ++ [bad]) gb := by rw [hgb]; exact Ga.app (.inl rfl)
        have Gc : Go v g (v ++ [.lst [.tup [mvW m, w1]]] ++ [bad] ++ [bad]) gc := by rw [hgc]; exact Gb.app (.inl rfl)
        have Gd : Go v g (v ++ [.lst [.tup [mvW m, w1]]] ++ [bad] ++ [bad] ++ [bad]) (gc ++ [.lst (l1 ++ l2)]) := Gc.app (.inl rfl)
        obtain ⟨v4, hv4⟩ : ∃ v4 : G, v4 = v ++ [.lst [.tup [mvW m, w1]]] ++ [bad] ++ [bad] ++ [bad] := ⟨_, rfl⟩
        rw [← hv4] at Gd
        have hlen1 : l1.length = 4 := by rw [hl1]; rfl
        have hlen2 : l2.length = 3 := by rw [hl2]; rfl
        have e7 : ev cfgI (Cl (N + 1)) (.lst (.cons (.ix (.var 0) (.cst (.int 2))) (.cons (.tup (.cons (.cst (.str sMove)) (.cons (.var 6) (.cons (.ix (.var 0) (.cst (.int 2))) .nil)))) (.cons (.tup (.cons (.cst (.str sMove)) (.cons (.ix (.var 0) (.cst (.int 1))) .nil))) (.cons (.tup (.cons (.cst (.str sAll)) (.cons (.lst (.cons (.tup (.cons (.ix (.var 0) (.cst (.int 1))) (.cons (.ix (.var 0) (.cst (.int 2))) .nil))) .nil)) .nil))) .nil))))) [some (.tup [.str sMove, mvW m, w1]), some (.ref 0), some q, some (.int way), none, none, some (mvW m'), none, none] g2 = .ok (.ref ga.length) gb := by
          rw [hgb, hl1, hga]
          refine ev_lst_ok (evs_c (x := w1) (g1 := g2) rfl (evs_c (g1 := g2) (ev_tup3 (x := .str sMove) (y := mvW m') (z := w1) (g1 := g2) (g2 := g2) rfl rfl rfl) (evs_c (g1 := g2) (tup_ok (x := .str sMove) (y := mvW m) (g1 := g2) rfl rfl) (evs_c (tup_ok (x := .str sAll) (g1 := g2) rfl (ev_lst_ok (ws := [.tup [mvW m, w1]]) (evs_c (tup_ok (x := mvW m) (y := w1) (g1 := g2) rfl rfl) rfl) (by show 1 ≤ sizeLine; omega))) rfl)))) (by show 4 ≤ sizeLine; omega)
        have hpos : 0 < g2.length := G12.st.pos
        have e8 : ev cfgI (Cl (N + 1)) (.op2 .add (.var 7) (.lst (.cons (.tup (.cons (.cst (.str sWon)) .nil)) (.cons (.tup (.cons (.cst (.str sNot)) .nil)) (.cons (.tup (.cons (.cst (.str sMove)) (.cons (.var 6) (.cons (.tup (.cons (.cst (.str sLost)) .nil)) .nil)))) .nil))))) [some (.tup [.str sMove, mvW m, w1]), some (.ref 0), some q, some (.int way), none, none, some (mvW m'), some (.ref ga.length), none] gb = .ok (.ref gc.length) (gc ++ [.lst (l1 ++ l2)]) := by
          refine ev_op2_ok (x := .ref ga.length) (y := .ref gb.length) (g1 := gb) (g2 := gc) rfl ?_ (add_ok (xs := l1) (ys := l2) ?_ ?_ (by omega))
          · rw [hgc, hl2]
            exact ev_lst_ok (evs_c (ev_tup1 rfl) (evs_c (ev_tup1 rfl) (evs_c (ev_tup3 (x := .str sMove) (y := mvW m') (g1 := gb) (g2 := gb) rfl rfl (ev_tup1 rfl)) rfl))) (by show 3 ≤ sizeLine; omega)
          · rw [hgc, hgb]
            exact get_pre (List.prefix_append _ _) last_at
          · rw [hgc]
            exact last_at
        obtain ⟨x, g5, e5, hx, G5⟩ := pick N (l := l1 ++ l2) (many := 7) (i := gc.length) (v := v4) e8 Gc.st.pos last_at Gd.st Gd.vw rfl (by decide) (by decide) (by rw [List.length_append, hlen1, hlen2]; rfl)
        have hpv : v <+: v4 := by rw [hv4]; exact (((List.prefix_append _ _).trans (List.prefix_append _ _)).trans (List.prefix_append _ _)).trans (List.prefix_append _ _)
        have t1' : Tree 4 v4 n w1 d1 := (t1.kp (Kp.pre hpv)).up (by decide) (Nat.le_refl _)
        have hrow : v4[g2.length]? = some (.lst [.tup [mvW m, w1]]) := by
          rw [hv4]
          refine get_pre (((List.prefix_append _ _).trans (List.prefix_append _ _)).trans (List.prefix_append _ _)) ?_
          rw [← G12.vw.len]
          exact last_at
        have ht : ∃ d', Tree 4 v4 (n + 1 + 1) x d' := by
          rw [hl1, hl2] at hx
          simp only [List.cons_append, List.nil_append, List.mem_cons, List.not_mem_nil, or_false] at hx
          rcases hx with rfl | rfl | rfl | rfl | rfl | rfl | rfl
          · exact ⟨_, t1'.up (Nat.le_refl _) (Nat.le_add_right _ 2)⟩
          · exact ⟨_, (mv_tree t1').up (Nat.le_refl _) (Nat.le_succ _)⟩
          · exact ⟨_, short_tree⟩
          · exact ⟨_, (all_tree (n := n) (ds := [.tuple [mvD m, d1]]) hpos hrow (by show 1 ≤ 4; decide) ⟨m, w1, d1, [], rfl, rfl, t1', rfl⟩).up (Nat.le_refl _) (Nat.le_succ _)⟩
          · exact ⟨_, leaf_tree (by decide)⟩
          · exact ⟨_, leaf_tree (by decide)⟩
          · exact ⟨_, mv_tree (leaf_tree (by decide))⟩
        obtain ⟨d', ht⟩ := ht
        refine ⟨x, d', v4, g5, ?_, Gd.trans G5, ht⟩
        exact (exec_set1 e1).trans ((exec_ifF hc).trans ((exec_ifF rfl).trans ((exec_set1 e2).trans ((exec_ifT rfl).trans (seqF_rt ((exec_set1 e7).trans (exec_ret_ok e5)))))))
    · have hc : ev cfgI (Cl (N + 1)) (.and (.op2 .eq (.ix (.var 0) (.cst (.int 0))) (.cst (.str sAll))) (.op2 .lt (.var 3) (.cst (.int 6)))) [some (.tup [.str sAll, .ref i]), some (.ref 0), some q, some (.int way), none, none, none, none, none] g1 = .ok (.bl (decide (way < 6))) g1 := and_tt rfl (ltc rfl)
      have hl0 : 0 < ws.length := by
        have := r.len
        cases ds with
        | nil => cases hne
        | cons a l => simp at this; omega
      by_cases hw : way < 6
      · rw [decide_eq_true hw] at hc
        obtain ⟨p, hp⟩ : ∃ p, p = g1.length := ⟨_, rfl⟩
        have hp0 : 0 < p := by rw [hp]; exact G1.st.pos
        have hg1 := G1.vw.lst hi e3 r
        have G2 : Go v g (v ++ [bad]) (g1 ++ [.lst ws]) := G1.app (.inl rfl)
        have hg2 : (g1 ++ [.lst ws] : G)[p]? = some (.lst ws) := by rw [hp]; exact last_at
        obtain ⟨at_, g3, e4, h3, h4, G3⟩ := takeG N (Go.refl G2.st G2.vw) (many := ws.length) (by omega) (by omega)
        have hg3 : g3[p]? = some (.lst ws) := G3.kp p _ hp0 hg2
        obtain ⟨x, hx, hxm, hxj⟩ := at_in (l := ws) h3 h4
        obtain ⟨m, w1, d1, rfl, hdj, t1⟩ := r.get hxj
        obtain ⟨w2, d2, v4, g4, e5, G4, t2⟩ := bent_ok n (N + 1) (q := q) (Nat.le_of_succ_le_succ hN) G3.st G3.vw (t1.kp (Kp.app v [bad])) (row_good ok1 hdj)
        have hvl : v.length = p := by rw [hp, G1.vw.len]
        have hbad : v4[p]? = some bad := get_pre G4.pre (by rw [← hvl]; exact last_at)
        have hg4 : g4[p]? = some (.lst ws) := G4.kp p _ hp0 hg3
        have hp4 : p < g4.length := (List.getElem?_eq_some_iff.mp hg4).1
        obtain ⟨ws', hws⟩ : ∃ ws' : List W, ws' = ws.set at_.toNat (.tup [mvW m, w2]) := ⟨_, rfl⟩
        obtain ⟨V5, ⟨ds', t5⟩, _⟩ := all_new (b := 4) (n := n + 1) (g := g4.set p (.lst ws')) (ws := ws') (G4.vw.set hbad _) hp0 hbad (List.getElem?_set_self hp4) (by rw [hws]; simp; omega) (fun x hx => by
          rw [hws] at hx
          rcases List.mem_or_eq_of_mem_set hx with hx | rfl
          · obtain ⟨m', w', d', rfl, t'⟩ := r.mem hx
            exact ⟨m', w', d', rfl, (t'.kp (Kp.pre ((List.prefix_append _ _).trans G4.pre))).up (by decide) (Nat.le_succ _)⟩
          · exact ⟨m, w2, d2, rfl, t2⟩)
        have hix : ∀ sl : Sl, sl[4]? = some (some (.ref p)) → sl[5]? = some (some (.int at_)) → ev cfgI (Cl (N + 1)) (.ix (.var 4) (.var 5)) sl g3 = .ok (.tup [mvW m, w1]) g3 := fun sl ha hb => ev_ix_ok (ev_var_ok ha) (ev_var_ok hb) (ix_ref hg3 hx)
        have et : ev cfgI (Cl (N + 1)) (.call 11 (.cons (.var 1) (.cons (.blt .len (.cons (.var 4) .nil)) .nil))) [some (.tup [.str sAll, .ref i]), some (.ref 0), some q, some (.int way), some (.ref p), none, none, none, none] (g1 ++ [.lst ws]) = .ok (.int at_) g3 := by
          refine ev_call2 (x := .ref 0) (y := .int ws.length) (g1 := g1 ++ [.lst ws]) (g2 := g1 ++ [.lst ws]) ?_ ?_ ?_ ?_
          · rfl
          · rfl
          · exact ev_blt1 (x := .ref p) rfl (len_ok (items_ref hg2))
          · exact e4
        have hput : putW (.ref p) (.int at_) (.tup [mvW m, w2]) g4 = some (g4.set p (.lst ws')) := by
          rw [hws]
          exact put_ref hg4 ⟨h3, h4⟩
        refine ⟨.tup [.str sAll, .ref p], _, v4.set p (.lst ws'), g4.set p (.lst ws'), ?_, ⟨G4.st.set hp0 _, ?_, pre_set ((List.prefix_append _ _).trans G4.pre) (by omega) _, V5⟩, t5⟩
        · refine (exec_set1 e1).trans ((exec_ifF rfl).trans ((exec_ifT hc).trans (seqF_rt ?_)))
          refine (exec_set1 (x := .ref p) (g1 := g1 ++ [.lst ws]) (by rw [hp]; exact ev_blt1 (x := .ref i) (g1 := g1) rfl (list_ok (items_ref hg1)))).trans ?_
          refine (exec_set1 et).trans ?_
          refine (exec_put1 (x := .ref p) (y := .int at_) (g2 := g4) (g3 := g4) (tup_ok (x := mvW m) (g1 := g3) (ev_ix_ok (hix _ rfl rfl) rfl rfl) (ev_call3 (x := w1) (y := .ref 0) (z := q) (g1 := g3) (g2 := g3) (g3 := g3) rfl (ev_ix_ok (hix _ rfl rfl) rfl rfl) rfl rfl ((whole rfl).trans e5))) rfl rfl hput).trans ?_
          exact exec_ret_ok (tup_ok rfl rfl)
        · exact G1.kp.trans ((((Kp.app g1 [.lst ws]).trans G3.kp).trans G4.kp).setp (by omega) _)
      · rw [decide_eq_false hw] at hc
        obtain ⟨m', g2, e2, G2⟩ := mv4 N G1.st G1.vw (sl := [some (.tup [.str sAll, .ref i]), some (.ref 0), some q, some (.int way), none, none, none, none, none]) rfl
        have G12 := G1.trans G2
        obtain ⟨p, hp⟩ : ∃ p, p = g2.length := ⟨_, rfl⟩
        have hp0 : 0 < p := by rw [hp]; exact G12.st.pos
        have hg2 := G12.vw.lst hi e3 r
        have G3 : Go v g (v ++ [bad]) (g2 ++ [.lst ws]) := G12.app (.inl rfl)
        have hg3 : (g2 ++ [.lst ws] : G)[p]? = some (.lst ws) := by rw [hp]; exact last_at
        obtain ⟨at_, g4, e4, h3, h4, G4⟩ := takeG N (Go.refl G3.st G3.vw) (many := ws.length) (by omega) (by omega)
        obtain ⟨kind, g5, e5, h5, h6, G5⟩ := takeG N (Go.refl G4.st G4.vw) (many := 7) (by decide) (by decide)
        have hg5 : g5[p]? = some (.lst ws) := G5.kp p _ hp0 (G4.kp p _ hp0 hg3)
        have hp5 : p < g5.length := (List.getElem?_eq_some_iff.mp hg5).1
        have G35 : Go v g (v ++ [bad]) g5 := G3.trans (G4.trans G5)
        have K5 : Kp g2 g5 := (Kp.app g2 [.lst ws]).trans (G4.kp.trans G5.kp)
        have hvl : v.length = p := by rw [hp, G12.vw.len]
        have hbad : (v ++ [bad] : G)[p]? = some bad := by rw [← hvl]; exact last_at
        obtain ⟨x, hx, hxm, hxj⟩ := at_in (l := ws) h3 h4
        obtain ⟨m, w1, d1, rfl, hdj, t1⟩ := r.get hxj
        have t1' : Tree 4 (v ++ [bad]) (n + 1) w1 d1 := (t1.kp (Kp.app _ _)).up (by decide) (Nat.le_succ _)
        have hrows : ∀ x ∈ ws, ∃ m w' d', x = .tup [mvW m, w'] ∧ Tree 4 (v ++ [bad]) (n + 1) w' d' := fun x hx => by
          obtain ⟨m', w', d', rfl, t'⟩ := r.mem hx
          exact ⟨m', w', d', rfl, (t'.kp (Kp.app _ _)).up (by decide) (Nat.le_succ _)⟩
        have hix : ∀ sl : Sl, sl[4]? = some (some (.ref p)) → sl[5]? = some (some (.int at_)) → ev cfgI (Cl (N + 1)) (.ix (.var 4) (.var 5)) sl g5 = .ok (.tup [mvW m, w1]) g5 := fun sl ha hb => ev_ix_ok (ev_var_ok ha) (ev_var_ok hb) (ix_ref hg5 hx)
        have el : ev cfgI (Cl (N + 1)) (.blt .list (.cons (.ix (.var 0) (.cst (.int 1))) .nil)) [some (.tup [.str sAll, .ref i]), some (.ref 0), some q, some (.int way), none, none, some (mvW m'), none, none] g2 = .ok (.ref p) (g2 ++ [.lst ws]) := by
          rw [hp]
          exact ev_blt1 (x := .ref i) (g1 := g2) rfl (list_ok (items_ref hg2))
        have et : ev cfgI (Cl (N + 1)) (.call 11 (.cons (.var 1) (.cons (.blt .len (.cons (.var 4) .nil)) .nil))) [some (.tup [.str sAll, .ref i]), some (.ref 0), some q, some (.int way), some (.ref p), none, some (mvW m'), none, none] (g2 ++ [.lst ws]) = .ok (.int at_) g4 :=
          by
            refine ev_call2 (x := .ref 0) (y := .int ws.length) (g1 := g2 ++ [.lst ws]) (g2 := g2 ++ [.lst ws]) ?_ ?_ ?_ ?_
            · rfl
            · rfl
            · exact ev_blt1 (x := .ref p) rfl (len_ok (items_ref hg3))
            · exact e4
        have ek : ev cfgI (Cl (N + 1)) (takeE 7) [some (.tup [.str sAll, .ref i]), some (.ref 0), some q, some (.int way), some (.ref p), some (.int at_), some (mvW m'), none, none] g4 = .ok (.int kind) g5 := by
          refine ev_call2 (x := .ref 0) (y := .int 7) (g1 := g4) (g2 := g4) ?_ ?_ ?_ ?_
          · rfl
          · rfl
          · rfl
          · exact e5
        -- a changed list at p
        have fin : ∀ ws' : List W, ws'.length ≤ 4 → (∀ x ∈ ws', ∃ m w' d', x = .tup [mvW m, w'] ∧ Tree 4 (v ++ [bad]) (n + 1) w' d') → ∃ d' v', Go v g v' (g5.set p (.lst ws')) ∧ Tree 4 v' (n + 1 + 1) (.tup [.str sAll, .ref p]) d' := fun ws' hl' hr' => by
          obtain ⟨V6, ⟨ds', t6⟩, _⟩ := all_new (b := 4) (n := n + 1) (g := g5.set p (.lst ws')) (ws := ws') (G35.vw.set hbad _) hp0 hbad (List.getElem?_set_self hp5) hl' hr'
          exact ⟨_, _, ⟨G35.st.set hp0 _, G12.kp.trans (K5.setp (by omega) _), pre_set (List.prefix_append _ _) (by omega) _, V6⟩, t6⟩
        have hk : kind = 0 ∨ kind = 1 ∨ kind = 2 ∨ kind = 3 ∨ kind = 4 ∨ kind = 5 ∨ kind = 6 := by omega
        have hml : mtT .pop (.ref p) g5 = true := isLst_ok hg5
        have hmr : mtT .reverse (.ref p) g5 = true := isLst_ok hg5
        have hmi : mtT .insert (.ref p) g5 = true := isLst_ok hg5
        rcases hk with rfl | rfl | rfl | rfl | rfl | rfl | rfl
        · obtain ⟨y, ey⟩ := pop_ok hg5 ⟨h3, h4⟩
          obtain ⟨d', v', G', t'⟩ := fin (ws.eraseIdx at_.toNat) (by have := List.length_eraseIdx_le ws at_.toNat; omega) fun x hx => hrows x (List.mem_of_mem_eraseIdx hx)
          refine ⟨_, d', v', _, ?_, G', t'⟩
          refine (exec_set1 e1).trans ((exec_ifF rfl).trans ((exec_ifF hc).trans ((exec_set1 e2).trans ((exec_ifF rfl).trans ((exec_ifT rfl).trans (seqF_rt ((exec_set1 el).trans ((exec_set1 et).trans ((exec_set1 ek).trans ?_)))))))))
          refine (exec_ifT rfl).trans ((seqF_nx ((exec_drop1 (ev_mth_ok (x := .ref p) (xs := [.int at_]) (g1 := g5) (g2 := g5) rfl hml rfl ey)).trans (by rw [exec_skip]))).trans ?_)
          exact (exec_ifF rfl).trans ((exec_ifF rfl).trans ((exec_ifF rfl).trans ((exec_ifF rfl).trans ((exec_ifF rfl).trans ((exec_ifF rfl).trans (exec_ret_ok (tup_ok rfl rfl)))))))
        · obtain ⟨d', v', G', t'⟩ := fin ws.reverse (by simp; omega) fun x hx => hrows x (by simpa using hx)
          refine ⟨_, d', v', _, ?_, G', t'⟩
          refine (exec_set1 e1).trans ((exec_ifF rfl).trans ((exec_ifF hc).trans ((exec_set1 e2).trans ((exec_ifF rfl).trans ((exec_ifT rfl).trans (seqF_rt ((exec_set1 el).trans ((exec_set1 et).trans ((exec_set1 ek).trans ?_)))))))))
          refine (exec_ifF rfl).trans ((exec_ifT rfl).trans ((seqF_nx ((exec_drop1 (ev_mth_ok (x := .ref p) (xs := []) (g1 := g5) (g2 := g5) rfl hmr rfl (rev_ok hg5))).trans (by rw [exec_skip]))).trans ?_))
          exact (exec_ifF rfl).trans ((exec_ifF rfl).trans ((exec_ifF rfl).trans ((exec_ifF rfl).trans ((exec_ifF rfl).trans (exec_ret_ok (tup_ok rfl rfl))))))
        · obtain ⟨d', v', G', t'⟩ := fin (ws.take at_.toNat ++ .tup [mvW m, w1] :: ws.drop at_.toNat) (by simp; omega) fun x hx => by
            rcases mem_ins hx with rfl | hx
            · exact ⟨m, w1, d1, rfl, t1'⟩
            · exact hrows x hx
          refine ⟨_, d', v', _, ?_, G', t'⟩
          refine (exec_set1 e1).trans ((exec_ifF rfl).trans ((exec_ifF hc).trans ((exec_set1 e2).trans ((exec_ifF rfl).trans ((exec_ifT rfl).trans (seqF_rt ((exec_set1 el).trans ((exec_set1 et).trans ((exec_set1 ek).trans ?_)))))))))
          refine (exec_ifF rfl).trans ((exec_ifF rfl).trans ((exec_ifT rfl).trans ((seqF_nx ((exec_drop1 (ev_mth_ok (x := .ref p) (xs := [.int at_, .tup [mvW m, w1]]) (g1 := g5) (g2 := g5) rfl hmi (evs_c (x := .int at_) (g1 := g5) rfl (evs_c (hix _ rfl rfl) rfl)) (ins_ok hg5 ⟨h3, h4, by omega⟩))).trans (by rw [exec_skip]))).trans ?_)))
          exact (exec_ifF rfl).trans ((exec_ifF rfl).trans ((exec_ifF rfl).trans ((exec_ifF rfl).trans (exec_ret_ok (tup_ok rfl rfl)))))
        · obtain ⟨d', v', G', t'⟩ := fin (ws.set at_.toNat (.tup [mvW m', w1])) (by simp; omega) fun x hx => by
            rcases List.mem_or_eq_of_mem_set hx with hx | rfl
            · exact hrows x hx
            · exact ⟨m', w1, d1, rfl, t1'⟩
          refine ⟨_, d', v', _, ?_, G', t'⟩
          refine (exec_set1 e1).trans ((exec_ifF rfl).trans ((exec_ifF hc).trans ((exec_set1 e2).trans ((exec_ifF rfl).trans ((exec_ifT rfl).trans (seqF_rt ((exec_set1 el).trans ((exec_set1 et).trans ((exec_set1 ek).trans ?_)))))))))
          refine (exec_ifF rfl).trans ((exec_ifF rfl).trans ((exec_ifF rfl).trans ((exec_ifT rfl).trans ((seqF_nx ((exec_put1 (x := .ref p) (y := .int at_) (g2 := g5) (g3 := g5) (tup_ok (x := mvW m') (g1 := g5) rfl (ev_ix_ok (hix _ rfl rfl) rfl rfl)) rfl rfl (put_ref hg5 ⟨h3, h4⟩)).trans (by rw [exec_skip]))).trans ?_))))
          exact (exec_ifF rfl).trans ((exec_ifF rfl).trans ((exec_ifF rfl).trans (exec_ret_ok (tup_ok rfl rfl))))
        · refine ⟨.tup [.str sMove, mvW m, w1], .tuple [.str sMove, mvD m, d1], v ++ [bad], g5, ?_, G35, mv_tree t1'⟩
          refine (exec_set1 e1).trans ((exec_ifF rfl).trans ((exec_ifF hc).trans ((exec_set1 e2).trans ((exec_ifF rfl).trans ((exec_ifT rfl).trans (seqF_rt ((exec_set1 el).trans ((exec_set1 et).trans ((exec_set1 ek).trans ?_)))))))))
          exact (exec_ifF rfl).trans ((exec_ifF rfl).trans ((exec_ifF rfl).trans ((exec_ifF rfl).trans ((exec_ifT rfl).trans (seqF_rt (exec_ret_ok (ev_tup3 (x := .str sMove) (g1 := g5) rfl (ev_ix_ok (hix _ rfl rfl) rfl rfl) (ev_ix_ok (hix _ rfl rfl) rfl rfl))))))))
        · have G6 : Go v g (v ++ [bad] ++ [.lst []]) (g5 ++ [.lst []]) := G35.app (.inr rfl)
          have hlast : (v ++ [bad] ++ [.lst []] : G)[g5.length]? = some (.lst []) := by rw [← G35.vw.len]; exact last_at
          refine ⟨.tup [.str sAll, .ref g5.length], .tuple [.str sAll, .list []], v ++ [bad] ++ [.lst []], g5 ++ [.lst []], ?_, G6, all_tree (ws := []) G35.st.pos hlast (by decide) rfl⟩
          refine (exec_set1 e1).trans ((exec_ifF rfl).trans ((exec_ifF hc).trans ((exec_set1 e2).trans ((exec_ifF rfl).trans ((exec_ifT rfl).trans (seqF_rt ((exec_set1 el).trans ((exec_set1 et).trans ((exec_set1 ek).trans ?_)))))))))
          refine (exec_ifF rfl).trans ((exec_ifF rfl).trans ((exec_ifF rfl).trans ((exec_ifF rfl).trans ((exec_ifF rfl).trans ((exec_ifT rfl).trans ((seqF_nx ((exec_set1 (x := .ref g5.length) (g1 := g5 ++ [.lst []]) (ev_lst_ok rfl (Nat.zero_le _))).trans (by rw [exec_skip]))).trans ?_))))))
          exact (exec_ifF rfl).trans (exec_ret_ok (tup_ok rfl rfl))
        · obtain ⟨V6, _, ⟨ds', t6⟩⟩ := all_new (b := 4) (n := n + 1) G35.vw hp0 hbad hg5 (by omega) hrows
          have G6 : Go v g ((v ++ [bad]).set p (.lst ws)) g5 := ⟨G35.st, G35.kp, pre_set (List.prefix_append _ _) (by omega) _, V6⟩
          obtain ⟨l, hll⟩ : ∃ l : List W, l = [.tup [.str sWon], .tup [.str sNot], .tup [.str sEvery, .ref p]] := ⟨_, rfl⟩
          have G7 : Go v g ((v ++ [bad]).set p (.lst ws) ++ [bad]) (g5 ++ [.lst l]) := G6.app (.inl rfl)
          obtain ⟨y, g8, e8, hy, G8⟩ := pick N (E1 := .lst (.cons (.tup (.cons (.cst (.str sWon)) .nil)) (.cons (.tup (.cons (.cst (.str sNot)) .nil)) (.cons (.tup (.cons (.cst (.str sEvery)) (.cons (.var 4) .nil))) .nil)))) (sl := [some (.tup [.str sAll, .ref i]), some (.ref 0), some q, some (.int way), some (.ref p), some (.int at_), some (mvW m'), none, some (.int 6)]) (g := g5) (ga := g5 ++ [.lst l]) (v := (v ++ [bad]).set p (.lst ws) ++ [bad]) (i := g5.length) (l := l) (many := 3)
            (by
              rw [hll]
              exact ev_lst_ok (evs_c (ev_tup1 rfl) (evs_c (ev_tup1 rfl) (evs_c (tup_ok rfl rfl) rfl))) (by show 3 ≤ sizeLine; omega))
            G6.st.pos last_at G7.st G7.vw rfl (by decide) (by decide) (by rw [hll]; rfl)
          have ht : ∃ d', Tree 4 ((v ++ [bad]).set p (.lst ws) ++ [bad]) (n + 1 + 1) y d' := by
            rw [hll] at hy
            simp only [List.mem_cons, List.not_mem_nil, or_false] at hy
            rcases hy with rfl | rfl | rfl
            · exact ⟨_, leaf_tree (by decide)⟩
            · exact ⟨_, leaf_tree (by decide)⟩
            · exact ⟨_, t6.kp (Kp.app _ _)⟩
          obtain ⟨d', ht⟩ := ht
          refine ⟨y, d', _, g8, ?_, G7.trans G8, ht⟩
          refine (exec_set1 e1).trans ((exec_ifF rfl).trans ((exec_ifF hc).trans ((exec_set1 e2).trans ((exec_ifF rfl).trans ((exec_ifT rfl).trans (seqF_rt ((exec_set1 el).trans ((exec_set1 et).trans ((exec_set1 ek).trans ?_)))))))))
          exact (exec_ifF rfl).trans ((exec_ifF rfl).trans ((exec_ifF rfl).trans ((exec_ifF rfl).trans ((exec_ifF rfl).trans ((exec_ifF rfl).trans ((exec_ifT rfl).trans (seqF_rt (exec_ret_ok e8))))))))
end K30
set_option Elab.async false
set_option linter.all false
set_option maxRecDepth 100000
namespace Ev
open PySem
section
variable {P : Cfg} {cl : Nat → List W → G → Res W} {sl sl1 sl2 : Sl} {g g1 g2 : G} {a b : E} {x y : W}
theorem ev_blt2 {k : Bl} {r : Res W} (ha : ev P cl a sl g = .ok x g1) (hb : ev P cl b sl g1 = .ok y g2) (hr : bltW k [x, y] g2 = r) : ev P cl (.blt k (.cons a (.cons b .nil))) sl g = r := by
  rw [ev_blt, evs_cons, evs_cons]
  show (((ev P cl a sl g).bind _).bind _) = _
  rw [ha]
  show ((((ev P cl b sl g1).bind _).bind _).bind _) = _
  rw [hb]
  exact hr
theorem pow_ok {i j : Int} (h : 0 ≤ j ∧ j ≤ 1000000 ∧ i.natAbs < 18446744073709551616) : op2W .pow (.int i) (.int j) g = .ok (.int (i ^ j.toNat)) g := if_pos h
theorem ev_iteT {c : E} {r : Res W} (hc : ev P cl c sl g = .ok (.bl true) g1) (h : ev P cl a sl g1 = r) : ev P cl (.ite c a b) sl g = r := ev_ite_ok (k := true) hc h
theorem ev_iteF {c : E} {r : Res W} (hc : ev P cl c sl g = .ok (.bl false) g1) (h : ev P cl b sl g1 = r) : ev P cl (.ite c a b) sl g = r := ev_ite_ok (k := false) hc h
theorem exec_try_nx {s c h : S} {k i : Nat} (e : exec P cl s sl g = .nx sl1 g1) : exec P cl (.seq (.try s k i h) c) sl g = exec P cl c sl1 g1 := by
  refine exec_nx ?_
  rw [exec_try]
  unfold tryF
  rw [e]
theorem exec_try_exc {s c h : S} {k i d : Nat} (e : exec P cl s sl g = .exc d sl1 g1) (hx : P.xsub d k = true) (eh : exec P cl h (sl1.set i (some (.exc d))) g1 = .nx sl2 g2) : exec P cl (.seq (.try s k i h) c) sl g = exec P cl c (sl2.set i none) g2 := by
  refine exec_nx ?_
  rw [exec_try]
  unfold tryF
  rw [e]
  show (if P.xsub d k then (match exec P cl h (sl1.set i (some (.exc d))) g1 with | .nx sl2 g2 => Out.nx (sl2.set i none) g2 | .bk sl2 g2 => .bk (sl2.set i none) g2 | .ct sl2 g2 => .ct (sl2.set i none) g2 | .rt w g2 => .rt w g2 | _ => .stuck) else .stuck) = _
  rw [if_pos hx, eh]
theorem exec_set_exc {i d : Nat} {s : S} (e : ev P cl a sl g = .exc d g1) : exec P cl (.seq (.set (.one i) a) s) sl g = .exc d sl g1 := by
  rw [exec_seq, exec_set]
  unfold seqF
  show (match (ev P cl a sl g).out sl (fun w g1 => match setT (.one i) w g1 sl with | some sl1 => Out.nx sl1 g1 | none => .stuck) with | .nx sl1 g1 => _ | o => o) = _
  rw [e]
  rfl
end
end Ev
namespace K30
open PySem Ev L2 PySem.SeqAt
theorem cell_ok (N : Nat) (ns : List Int) : ∃ c g, runN cfgI (N + 1) 9 [.flst (ns.map .int), .int 0] [] = .ok (.int c) g := by
  rw [runN_step fn9 rfl]
  suffices h : ∃ c g, exec cfgI (Cl N) ir9 [some (.flst (ns.map .int)), some (.int 0), none] [] = .rt (.int c) g by
    obtain ⟨c, g, h⟩ := h
    exact ⟨c, g, congrArg Out.fin h⟩
  cases ns with
  | nil => exact ⟨_, _, (exec_ifF rfl).trans ((exec_set1 rfl).trans ((exec_ifF rfl).trans (exec_ret_ok (ev_op2_ok (ev_op2_ok (ev_op2_ok (ev_op2_ok rfl rfl (mod_ok (by decide))) rfl (mul_okR (by decide))) (ev_op2_ok rfl rfl (mul_okR (by decide))) rfl) rfl (mod_ok (by decide))))))⟩
  | cons n ns =>
    have hx : ev cfgI (Cl N) (.op2 .lt (.var 1) (.blt .len (.cons (.var 0) .nil))) [some (.flst ((n :: ns).map .int)), some (.int 0), none] [] = .ok (.bl true) [] := by
      refine ev_op2_ok (x := .int 0) (y := .int ((n :: ns).map W.int).length) (g1 := []) (g2 := []) rfl (ev_blt1 (x := .flst ((n :: ns).map .int)) rfl rfl) ?_
      show Res.ok (W.bl (decide ((0 : Int) < ((n :: ns).map W.int).length))) ([] : G) = _
      rw [decide_eq_true (by simp)]
    exact ⟨n, [], (exec_ifT hx).trans (seqF_rt (exec_ret_ok (ev_ix_ok (x := .flst ((n :: ns).map .int)) (y := .int 0) (g1 := []) rfl rfl (atI_at (i := 0) rfl))))⟩
theorem refs_arg (ns : List Int) : refsWs [W.flst (ns.map W.int), W.int 0] = [] := by
  show refsWs (ns.map W.int) ++ _ = _
  rw [refs_ints]
  rfl
theorem begin_ok (N : Nat) (ns : List Int) : ∃ a b : Int, runN cfgI (N + 2) 10 [.flst (ns.map .int), .int 0] [] = .ok (.ref 0) [.lst [.int a, .int b, .int 0]] := by
  rw [runN_step fn10 rfl]
  obtain ⟨c, g1, e⟩ := cell_ok N ns
  have ec : ev cfgI (Cl (N + 1)) (.call 9 (.cons (.var 0) (.cons (.var 1) .nil))) [some (.flst (ns.map .int)), some (.int 0), none] [] = .ok (.int c) [] :=
    ev_call2 (x := .flst (ns.map .int)) (y := .int 0) (g1 := []) (g2 := []) rfl rfl rfl ((part rfl).trans (callR_flat (refs_arg ns) e rfl))
  have em : ev cfgI (Cl (N + 1)) (.blt .max (.cons (.var 2) (.cons (.op2 .sub (.cst (.int 0)) (.var 2)) .nil))) [some (.flst (ns.map .int)), some (.int 0), some (.int c)] [] = .ok (.int (if 0 - c > c then 0 - c else c)) [] :=
    ev_blt2 (x := .int c) (y := .int (0 - c)) (g1 := []) (g2 := []) rfl rfl rfl
  have ei : ev cfgI (Cl (N + 1)) (.blt .int (.cons (.op2 .ge (.var 2) (.op2 .pow (.cst (.int 10)) (.cst (.int 18)))) .nil)) [some (.flst (ns.map .int)), some (.int 0), some (.int c)] [] = .ok (.int (if decide ((10 : Int) ^ (18 : Int).toNat ≤ c) then 1 else 0)) [] :=
    ev_blt1 (x := .bl (decide ((10 : Int) ^ (18 : Int).toNat ≤ c))) (g1 := []) (ev_op2_ok (x := .int c) (y := .int ((10 : Int) ^ (18 : Int).toNat)) (g1 := []) (g2 := []) rfl (ev_op2_ok (x := .int 10) (y := .int 18) (g1 := []) (g2 := []) rfl rfl (pow_ok (by decide))) rfl) rfl
  refine ⟨(if 0 - c > c then 0 - c else c), (if decide ((10 : Int) ^ (18 : Int).toNat ≤ c) then 1 else 0), ?_⟩
  have el : ev cfgI (Cl (N + 1)) (.lst (.cons (.blt .max (.cons (.var 2) (.cons (.op2 .sub (.cst (.int 0)) (.var 2)) .nil))) (.cons (.blt .int (.cons (.op2 .ge (.var 2) (.op2 .pow (.cst (.int 10)) (.cst (.int 18)))) .nil)) (.cons (.cst (.int 0)) .nil)))) [some (.flst (ns.map .int)), some (.int 0), some (.int c)] [] = .ok (.ref 0) [.lst [.int (if 0 - c > c then 0 - c else c), .int (if decide ((10 : Int) ^ (18 : Int).toNat ≤ c) then 1 else 0), .int 0]] :=
    ev_lst_ok (g1 := []) (evs3 (z := .int 0) (g3 := []) em ei rfl) (by have := big10; show 3 ≤ sizeLine; omega)
  have : exec cfgI (Cl (N + 1)) ir10 [some (.flst (ns.map .int)), some (.int 0), none] [] = .rt (.ref 0) [.lst [.int (if 0 - c > c then 0 - c else c), .int (if decide ((10 : Int) ^ (18 : Int).toNat ≤ c) then 1 else 0), .int 0]] :=
    (exec_set1 ec).trans (exec_ret_ok el)
  exact congrArg Out.fin this
theorem which_ok : ∃ g1, runN cfgI 40 16 [.exc 6] [] = .ok (.int 5) g1 := by
  have h : (match runN cfgI 40 16 [.exc 6] [] with | .ok (.int i) _ => decide (i = 5) | _ => false) = true := by decide +kernel
  revert h
  cases runN cfgI 40 16 [.exc 6] [] with
  | ok w g =>
    cases w with
    | int i => intro h; exact ⟨g, by rw [of_decide_eq_true h]⟩
    | _ => intro h; cases h
  | _ => intro h; cases h
theorem whole_ok (N : Nat) (a : Int) (g : G) : runN cfgI (N + 1) 12 [.int a] g = .ok (.bl true) g := by
  rw [runN_step fn12 rfl]
  have : exec cfgI (Cl N) ir12 [some (.int a)] g = .rt (.bl true) g :=
    exec_ret_ok (and_tt (ev_isi_ok (x := .int a) rfl rfl) (ev_not_ok (b := false) (ev_isi_ok (x := .int a) rfl rfl)))
  exact congrArg Out.fin this
theorem eq_same {b n : Nat} {g : G} {w w' : W} {d : PyData} (t : Tree b g n w d) (t' : Tree b g n w' d) (hn : n ≤ 12) : eqW g w w' = some true := by
  obtain ⟨ws, rfl⟩ := t.any
  obtain ⟨ws', rfl⟩ := t'.any
  show (match toD g 60 (.tup ws), toD g 60 (.tup ws') with | some da, some db => if shaped da && shaped db then some (PyData.eqv da db) else none | _, _ => none) = _
  rw [t.toD60 hn, t'.toD60 hn]
  show (if (shaped d && shaped d) = true then some (PyData.eqv d d) else none) = _
  rw [t.shaped hn, eqv_refl d t.lay.1]
  rfl
noncomputable abbrev rest3 : Ev.S := (.seq (.set (.one 3) (.or (.call 13 (.cons (.var 2) (.cons (.cst (.str sWon)) .nil))) (.call 13 (.cons (.var 2) (.cons (.cst (.str sNot)) .nil))))) (.seq (.set (.one 4) (.ite (.var 3) (.call 14 (.cons (.var 2) .nil)) (.var 2))) (.seq (.set (.one 5) (.neg (.cst (.int 1)))) (.seq (.set (.one 6) (.cst .non)) (.seq (.try (.seq (.set (.one 6) (.call 2 (.cons (.var 4) .nil))) .skip) 0 7 (.seq (.set (.one 5) (.call 16 (.cons (.var 7) .nil))) .skip)) (.seq (.ite (.op2 .ne (.var 4) (.var 2)) (.seq (.ret (.cst (.bl false))) .skip) .skip) (.seq (.ite (.not (.var 3)) (.seq (.ret (.and (.op2 .eq (.var 5) (.cst (.int 5))) (.op2 .isn (.var 6) (.cst .non)))) .skip) .skip) (.seq (.ret (.and (.op2 .eq (.var 5) (.neg (.cst (.int 1)))) (.and (.call 12 (.cons (.var 6) .nil)) (.op2 .eq (.var 6) (.call 18 (.cons (.var 2) .nil)))))) .skip))))))))
theorem asks {g : G} {w q : W} {d : PyData} (t : Tree 4 g 6 w d) (h0 : 0 < g.length) : ∃ g', exec cfgI (Cl 40) rest3 [some q, some (.ref 0), some w, none, none, none, none, none] g = .rt (.bl true) g' := by
  -- is it a tree
  obtain ⟨ga, ea, pa⟩ := isL_ok 6 40 sWon (by decide) (by decide) (by decide) t
  have hor : ∃ gb, ev cfgI (Cl 40) (.or (.call 13 (.cons (.var 2) (.cons (.cst (.str sWon)) .nil))) (.call 13 (.cons (.var 2) (.cons (.cst (.str sNot)) .nil)))) [some q, some (.ref 0), some w, none, none, none, none, none] g = .ok (.bl (okD 6 sWon d || okD 6 sNot d)) gb ∧ g <+: gb := by
    have e1 : ev cfgI (Cl 40) (.call 13 (.cons (.var 2) (.cons (.cst (.str sWon)) .nil))) [some q, some (.ref 0), some w, none, none, none, none, none] g = .ok (.bl (okD 6 sWon d)) ga := ev_call2 (x := w) (y := .str sWon) (g1 := g) (g2 := g) rfl rfl rfl ((whole rfl).trans ea)
    cases hk : okD 6 sWon d with
    | true =>
      rw [hk] at e1
      exact ⟨ga, or_tt e1, pa⟩
    | false =>
      rw [hk] at e1
      obtain ⟨gb, eb, pb⟩ := isL_ok 6 40 sNot (by decide) (by decide) (by decide) (t.kp (Kp.pre pa))
      exact ⟨gb, or_ff e1 (ev_call2 (x := w) (y := .str sNot) (g1 := ga) (g2 := ga) rfl rfl rfl ((whole rfl).trans eb)), pa.trans pb⟩
  obtain ⟨gb, eor, pb⟩ := hor
  have tb := t.kp (Kp.pre pb)
  have hb0 : 0 < gb.length := Nat.lt_of_lt_of_le h0 pb.length_le
  cases hk : okD 6 sWon d || okD 6 sNot d with
  | true =>
    rw [hk] at eor
    obtain ⟨leaf, ok⟩ : ∃ leaf, okD 6 leaf d = true := by
      rw [Bool.or_eq_true] at hk
      rcases hk with hk | hk
      · exact ⟨_, hk⟩
      · exact ⟨_, hk⟩
    obtain ⟨w4, gc, ec, pc, tc⟩ := copy_ok 6 40 (by decide) (by decide) (by decide) hb0 tb ok
    obtain ⟨gd, ed, pd⟩ := depth_ok (N := 38) (n := 6) (by decide) (by decide) (by decide) (Nat.lt_of_lt_of_le hb0 pc.length_le) tc
    rw [hk, if_pos rfl] at ed
    have td := tc.kp (Kp.pre pd)
    have td2 := tb.kp (Kp.pre (pc.trans pd))
    obtain ⟨ge, ee, pe⟩ := deep18 6 40 (by decide) (by decide) (by decide) td2 ok
    refine ⟨ge, ?_⟩
    refine (exec_set1 eor).trans ?_
    refine (exec_set1 (x := w4) (g1 := gc) (ev_iteT (g1 := gb) rfl (ev_call1 (np := 1) (x := w) (g1 := gb) rfl rfl ((whole rfl).trans ec)))).trans ?_
    refine (exec_set1 (x := .int (-1)) (g1 := gc) rfl).trans ((exec_set1 (x := .non) (g1 := gc) rfl).trans ?_)
    refine (exec_try_nx ((exec_set1 (x := .int (dpD 6 d)) (g1 := gd) (ev_call1 (np := 1) (x := w4) (g1 := gc) rfl rfl ((whole rfl).trans ed))).trans (by rw [exec_skip]))).trans ?_
    refine (exec_ifF (g1 := gd) (ev_op2_ok (x := w4) (y := w) (g1 := gd) (g2 := gd) rfl rfl ?_)).trans ?_
    · show Res.of ((eqW gd w4 w).map fun c => .bl (!c)) gd = _
      rw [eq_same td td2 (by decide)]
      rfl
    refine (exec_ifF (g1 := gd) (ev_not_ok (b := true) rfl)).trans ?_
    refine exec_ret_ok (and_tt (g1 := gd) rfl (and_tt (g1 := gd) (ev_call1 (np := 1) (x := .int (dpD 6 d)) (g1 := gd) rfl rfl ((part rfl).trans (callR_flat rfl (whole_ok 39 _ []) rfl))) (ev_op2_ok (x := .int (dpD 6 d)) (y := .int (dpD 6 d)) (g1 := gd) (g2 := ge) rfl (ev_call1 (np := 1) (x := w) (g1 := gd) rfl rfl ((whole rfl).trans ee)) ?_)))
    show Res.ok (W.bl (decide (dpD 6 d = dpD 6 d))) ge = _
    rw [decide_eq_true rfl]
  | false =>
    rw [hk] at eor
    obtain ⟨gd, ed, pd⟩ := depth_ok (N := 38) (n := 6) (by decide) (by decide) (by decide) hb0 tb
    rw [hk] at ed
    have td := tb.kp (Kp.pre pd)
    obtain ⟨g1, ew⟩ := which_ok
    refine ⟨gd, ?_⟩
    refine (exec_set1 eor).trans ?_
    refine (exec_set1 (x := w) (g1 := gb) (ev_iteF (g1 := gb) rfl rfl)).trans ?_
    refine (exec_set1 (x := .int (-1)) (g1 := gb) rfl).trans ((exec_set1 (x := .non) (g1 := gb) rfl).trans ?_)
    refine (exec_try_exc (d := 6) (g1 := gd) (g2 := gd) (exec_set_exc (ev_call1 (np := 1) (x := w) (g1 := gb) rfl rfl ((whole rfl).trans ed))) (by decide +kernel) ((exec_set1 (x := .int 5) (g1 := gd) (ev_call1 (np := 1) (x := .exc 6) (g1 := gd) rfl rfl ((part rfl).trans (callR_flat rfl ew rfl)))).trans (by rw [exec_skip]))).trans ?_
    refine (exec_ifF (g1 := gd) (ev_op2_ok (x := w) (y := w) (g1 := gd) (g2 := gd) rfl rfl ?_)).trans ?_
    · show Res.of ((eqW gd w w).map fun c => .bl (!c)) gd = _
      rw [eq_same td td (by decide)]
      rfl
    refine (exec_ifT (g1 := gd) (ev_not_ok (b := false) rfl)).trans (seqF_rt (exec_ret_ok (and_tt (g1 := gd) rfl rfl)))
theorem pure_law (ns : List Int) : ∃ g, runN cfgI 41 19 [.flst (ns.map .int)] [] = .ok (.bl true) g := by
  rw [runN_step fn19 rfl]
  suffices h : ∃ g, exec cfgI (Cl 40) ir19 [some (.flst (ns.map .int)), none, none, none, none, none, none, none] [] = .rt (.bl true) g by
    obtain ⟨g, h⟩ := h
    exact ⟨g, congrArg Out.fin h⟩
  have big := big10
  obtain ⟨a, b, e0⟩ := begin_ok 38 ns
  obtain ⟨g0, hg0⟩ : ∃ g0 : G, g0 = [.lst [.int a, .int b, .int 0]] := ⟨_, rfl⟩
  have eb : ev cfgI (Cl 40) (.call 10 (.cons (.var 0) (.cons (.cst (.int 0)) .nil))) [some (.flst (ns.map .int)), none, none, none, none, none, none, none] [] = .ok (.ref 0) g0 := by
    rw [hg0]
    exact ev_call2 (x := .flst (ns.map .int)) (y := .int 0) (g1 := []) (g2 := []) rfl rfl rfl ((part rfl).trans (callR_new (refs_arg ns) e0 rfl rfl))
  have S0 : St g0 := ⟨a, b, 0, by rw [hg0]; rfl⟩
  obtain ⟨r1, g1, e1, h1, h2, G1⟩ := takeV 39 S0 (View.refl g0) (many := 5) (by decide) (by decide) (sl := [some (.flst (ns.map .int)), some (.ref 0), none, none, none, none, none, none]) rfl
  obtain ⟨k, hk⟩ : ∃ k : Nat, r1 = k := ⟨r1.toNat, by omega⟩
  subst hk
  have G2 : Go g0 g0 (g0 ++ [bad]) (g1 ++ [.lst [.str sWon, .str sNot]]) := G1.app (.inl rfl)
  obtain ⟨x, g3, e3, hx, G3⟩ := pick 39 (E1 := .lst (.cons (.cst (.str sWon)) (.cons (.cst (.str sNot)) .nil))) (sl := [some (.flst (ns.map .int)), some (.ref 0), none, none, none, none, none, none]) (g := g1) (ga := g1 ++ [.lst [.str sWon, .str sNot]]) (v := g0 ++ [bad]) (i := g1.length) (l := [.str sWon, .str sNot]) (many := 2)
    (ev_lst_ok (evs_c rfl (evs_c rfl rfl)) (by show 2 ≤ sizeLine; omega)) G1.st.pos last_at G2.st G2.vw rfl (by decide) (by decide) rfl
  obtain ⟨leaf, hlf, rfl⟩ : ∃ leaf, leaf ∈ leaves ∧ x = .str leaf := by
    simp only [List.mem_cons, List.not_mem_nil, or_false] at hx
    rcases hx with rfl | rfl
    · exact ⟨sWon, by decide, rfl⟩
    · exact ⟨sNot, by decide, rfl⟩
  obtain ⟨w, d, v4, g4, e4, G4, t4, ok4⟩ := drawn_ok leaf hlf k 40 (by omega) G3.st G3.vw
  have et : ev cfgI (Cl 40) (.call 17 (.cons (.var 1) (.cons (takeE 5) (.cons (.ix (.lst (.cons (.cst (.str sWon)) (.cons (.cst (.str sNot)) .nil))) (takeE 2)) .nil)))) [some (.flst (ns.map .int)), some (.ref 0), none, none, none, none, none, none] g0 = .ok w g4 :=
    by
      refine ev_call3 (x := .ref 0) (y := .int k) (z := .str leaf) (g1 := g0) (g2 := g1) (g3 := g3) ?_ ?_ e1 e3 ?_
      · rfl
      · rfl
      · exact (whole rfl).trans e4
  obtain ⟨r5, g5, e5, h5, h6, G5⟩ := takeV 39 G4.st G4.vw (many := 3) (by decide) (by decide) (sl := [some (.flst (ns.map .int)), some (.ref 0), some w, none, none, none, none, none]) rfl
  have hc : ev cfgI (Cl 40) (.op2 .eq (takeE 3) (.cst (.int 1))) [some (.flst (ns.map .int)), some (.ref 0), some w, none, none, none, none, none] g4 = .ok (.bl (decide (r5 = 1))) g5 := ev_op2_ok e5 rfl rfl
  by_cases h : r5 = 1
  · rw [decide_eq_true h] at hc
    have G6 : Go v4 g4 (v4 ++ [bad]) (g5 ++ [.lst []]) := G5.app (.inl rfl)
    obtain ⟨w', d', v7, g7, e7, G7, t7⟩ := bent_ok (k + 1) 40 (q := .ref g5.length) (by omega) G6.st G6.vw (t4.kp (Kp.app _ _)) ok4
    obtain ⟨g', e'⟩ := asks (q := .flst (ns.map .int)) ((G7.vw.tree t7).up (Nat.le_refl _) (by omega) : Tree 4 g7 6 w' d') G7.st.pos
    have eb2 : ev cfgI (Cl 40) (.call 15 (.cons (.var 2) (.cons (.var 1) (.cons (.lst .nil) .nil)))) [some (.flst (ns.map .int)), some (.ref 0), some w, none, none, none, none, none] g5 = .ok w' g7 := by
      refine ev_call3 (x := w) (y := .ref 0) (z := .ref g5.length) (g1 := g5) (g2 := g5) (g3 := g5 ++ [.lst []]) ?_ ?_ ?_ ?_ ?_
      · rfl
      · rfl
      · rfl
      · exact ev_lst_ok (ws := []) (g1 := g5) rfl (Nat.zero_le _)
      · exact (whole rfl).trans e7
    refine ⟨g', (exec_set1 eb).trans ?_⟩
    refine (exec_set1 et).trans ?_
    refine (exec_ifT hc).trans ?_
    refine Eq.trans (seqF_nx ?_) e'
    refine (exec_set1 eb2).trans ?_
    rw [exec_skip]
    rfl
  · rw [decide_eq_false h] at hc
    obtain ⟨g', e'⟩ := asks (q := .flst (ns.map .int)) ((G5.vw.tree (t4.kp (Kp.refl _))).up (by decide) (by omega) : Tree 4 g5 6 w d) G5.st.pos
    refine ⟨g', (exec_set1 eb).trans ?_⟩
    refine (exec_set1 et).trans ?_
    exact (exec_ifF hc).trans e'
theorem pure_ok : ∀ ns : List Int, ns.length ≤ 63 → ∃ g, run 41 [.flst (ns.map .int)] [] = .ok (.bl true) g := fun ns _ => by
  show ∃ g, runN cfg 41 19 _ [] = _
  rw [cfg_eq]
  exact pure_law ns
end K30
open PySem PySem.W PyProof.Rows
set_option maxRecDepth 100000 in
set_option maxHeartbeats 0 in
theorem PySem.Challenge.cw_pieceyard_k30_depths_holds : PySem.Challenge.rw_pieceyard_k30_depths.Holds := by
  w_on; o_law; k_head; (case hw => w_witness2)
  k_fill
  refine K30.walk (l := PySem.Challenge.rw_pieceyard_k30_depths) rfl rfl (fun w h Y => PySem.W.kIn_of Y) K30.pure_ok ?F
  case F =>
    intro w mg fa h KX G hmg
    refine' K30.all_mk KX G hmg ?zz_a0 ?zz_l0 ?zz_d0 ?zz_k0 ?zz_a1 ?zz_l1 ?zz_d1 ?zz_k1 ?zz_a2 ?zz_l2 ?zz_d2 ?zz_k2 ?zz_a3 ?zz_l3 ?zz_d3 ?zz_k3 ?zz_a4 ?zz_l4 ?zz_d4 ?zz_k4 ?zz_a5 ?zz_l5 ?zz_d5 ?zz_k5 ?zz_a6 ?zz_l6 ?zz_d6 ?zz_k6 ?zz_a7 ?zz_l7 ?zz_d7 ?zz_k7 ?zz_a8 ?zz_l8 ?zz_d8 ?zz_k8 ?zz_a9 ?zz_l9 ?zz_d9 ?zz_k9 ?zz_a10 ?zz_l10 ?zz_d10 ?zz_k10 ?zz_a11 ?zz_l11 ?zz_d11 ?zz_k11 ?zz_a12 ?zz_l12 ?zz_d12 ?zz_k12 ?zz_a13 ?zz_l13 ?zz_d13 ?zz_k13 ?zz_a14 ?zz_l14 ?zz_d14 ?zz_k14 ?zz_a15 ?zz_l15 ?zz_d15 ?zz_k15 ?zz_a16 ?zz_l16 ?zz_d16 ?zz_k16 ?zz_a17 ?zz_l17 ?zz_d17 ?zz_k17 ?zz_a18 ?zz_l18 ?zz_d18 ?zz_k18 ?zz_a19 ?zz_l19 ?zz_d19 ?zz_k19 ?zz_y0 ?zz_e0 ?zz_ga0 ?zz_gt0 ?zz_cl0 ?zz_v0 ?zz_y1 ?zz_e1 ?zz_ga1 ?zz_gt1 ?zz_cl1 ?zz_v1 ?zz_y2 ?zz_e2 ?zz_ga2 ?zz_gt2 ?zz_cl2 ?zz_v2 ?zz_y3 ?zz_e3 ?zz_ga3 ?zz_gt3 ?zz_cl3 ?zz_v3 ?zz_y4 ?zz_e4 ?zz_ga4 ?zz_gt4 ?zz_cl4 ?zz_v4 ?zz_y5 ?zz_e5 ?zz_ga5 ?zz_gt5 ?zz_cl5 ?zz_v5 ?zz_y6 ?zz_e6 ?zz_ga6 ?zz_gt6 ?zz_cl6 ?zz_v6 ?zz_y7 ?zz_e7 ?zz_ga7 ?zz_gt7 ?zz_cl7 ?zz_v7 ?zz_y8 ?zz_e8 ?zz_ga8 ?zz_gt8 ?zz_cl8 ?zz_v8 ?zz_y9 ?zz_e9 ?zz_ga9 ?zz_gt9 ?zz_cl9 ?zz_v9 ?zz_y10 ?zz_e10 ?zz_ga10 ?zz_gt10 ?zz_cl10 ?zz_v10 ?zz_y11 ?zz_e11 ?zz_ga11 ?zz_gt11 ?zz_cl11 ?zz_v11 ?zz_y12 ?zz_e12 ?zz_ga12 ?zz_gt12 ?zz_cl12 ?zz_v12 ?zz_s0_0 ?zz_s0_1 ?zz_s0_2 ?zz_s0_3 ?zz_s0_4 ?zz_s0_5 ?zz_s0_6 ?zz_s0_7 ?zz_s0_8 ?zz_s0_9 ?zz_s0_10 ?zz_s0_11 ?zz_s0_12 ?zz_s1_0 ?zz_s1_1 ?zz_s1_2 ?zz_s1_3 ?zz_s1_4 ?zz_s1_5 ?zz_s1_6 ?zz_s1_7 ?zz_s1_8 ?zz_s1_9 ?zz_s1_10 ?zz_s1_11 ?zz_s1_12 ?zz_s2_0 ?zz_s2_1 ?zz_s2_2 ?zz_s2_3 ?zz_s2_4 ?zz_s2_5 ?zz_s2_6 ?zz_s2_7 ?zz_s2_8 ?zz_s2_9 ?zz_s2_10 ?zz_s2_11 ?zz_s2_12 ?zz_s3_0 ?zz_s3_1 ?zz_s3_2 ?zz_s3_3 ?zz_s3_4 ?zz_s3_5 ?zz_s3_6 ?zz_s3_7 ?zz_s3_8 ?zz_s3_9 ?zz_s3_10 ?zz_s3_11 ?zz_s3_12 ?zz_s4_0 ?zz_s4_1 ?zz_s4_2 ?zz_s4_3 ?zz_s4_4 ?zz_s4_5 ?zz_s4_6 ?zz_s4_7 ?zz_s4_8 ?zz_s4_9 ?zz_s4_10 ?zz_s4_11 ?zz_s4_12 ?zz_s5_0 ?zz_s5_1 ?zz_s5_2 ?zz_s5_3 ?zz_s5_4 ?zz_s5_5 ?zz_s5_6 ?zz_s5_7 ?zz_s5_8 ?zz_s5_9 ?zz_s5_10 ?zz_s5_11 ?zz_s5_12 ?zz_s6_0 ?zz_s6_1 ?zz_s6_2 ?zz_s6_3 ?zz_s6_4 ?zz_s6_5 ?zz_s6_6 ?zz_s6_7 ?zz_s6_8 ?zz_s6_9 ?zz_s6_10 ?zz_s6_11 ?zz_s6_12 ?zz_s7_0 ?zz_s7_1 ?zz_s7_2 ?zz_s7_3 ?zz_s7_4 ?zz_s7_5 ?zz_s7_6 ?zz_s7_7 ?zz_s7_8 ?zz_s7_9 ?zz_s7_10 ?zz_s7_11 ?zz_s7_12 ?zz_s8_0 ?zz_s8_1 ?zz_s8_2 ?zz_s8_3 ?zz_s8_4 ?zz_s8_5 ?zz_s8_6 ?zz_s8_7 ?zz_s8_8 ?zz_s8_9 ?zz_s8_10 ?zz_s8_11 ?zz_s8_12 ?zz_s9_0 ?zz_s9_1 ?zz_s9_2 ?zz_s9_3 ?zz_s9_4 ?zz_s9_5 ?zz_s9_6 ?zz_s9_7 ?zz_s9_8 ?zz_s9_9 ?zz_s9_10 ?zz_s9_11 ?zz_s9_12 ?zz_s10_0 ?zz_s10_1 ?zz_s10_2 ?zz_s10_3 ?zz_s10_4 ?zz_s10_5 ?zz_s10_6 ?zz_s10_7 ?zz_s10_8 ?zz_s10_9 ?zz_s10_10 ?zz_s10_11 ?zz_s10_12 ?zz_s11_0 ?zz_s11_1 ?zz_s11_2 ?zz_s11_3 ?zz_s11_4 ?zz_s11_5 ?zz_s11_6 ?zz_s11_7 ?zz_s11_8 ?zz_s11_9 ?zz_s11_10 ?zz_s11_11 ?zz_s11_12 ?zz_s12_0 ?zz_s12_1 ?zz_s12_2 ?zz_s12_3 ?zz_s12_4 ?zz_s12_5 ?zz_s12_6 ?zz_s12_7 ?zz_s12_8 ?zz_s12_9 ?zz_s12_10 ?zz_s12_11 ?zz_s12_12 ?zz_g0 ?zz_gl0 ?zz_gv0 ?zz_g1 ?zz_gl1 ?zz_gv1 ?zz_z0 ?zz_z1 ?zz_z2 ?zz_z3 ?zz_z4 ?zz_z5 ?zz_z6 ?zz_z7 ?zz_z8 ?zz_z9 ?zz_z10
    (case zz_a0 => k_is)
    (case zz_l0 => k_is)
    (case zz_d0 => k_is)
    (case zz_k0 => k_is)
    (case zz_a1 => k_is)
    (case zz_l1 => k_is)
    (case zz_d1 => k_is)
    (case zz_k1 => k_is)
    (case zz_a2 => k_is)
    (case zz_l2 => k_is)
    (case zz_d2 => k_is)
    (case zz_k2 => k_is)
    (case zz_a3 => k_is)
    (case zz_l3 => k_is)
    (case zz_d3 => k_is)
    (case zz_k3 => k_is)
    (case zz_a4 => k_is)
    (case zz_l4 => k_is)
    (case zz_d4 => k_is)
    (case zz_k4 => k_is)
    (case zz_a5 => k_is)
    (case zz_l5 => k_is)
    (case zz_d5 => k_is)
    (case zz_k5 => k_is)
    (case zz_a6 => k_is)
    (case zz_l6 => k_is)
    (case zz_d6 => k_is)
    (case zz_k6 => k_is)
    (case zz_a7 => k_is)
    (case zz_l7 => k_is)
    (case zz_d7 => k_is)
    (case zz_k7 => k_is)
    (case zz_a8 => k_is)
    (case zz_l8 => k_is)
    (case zz_d8 => k_is)
    (case zz_k8 => k_is)
    (case zz_a9 => k_is)
    (case zz_l9 => k_is)
    (case zz_d9 => k_is)
    (case zz_k9 => k_is)
    (case zz_a10 => k_is)
    (case zz_l10 => k_is)
    (case zz_d10 => k_is)
    (case zz_k10 => k_is)
    (case zz_a11 => k_is)
    (case zz_l11 => k_is)
    (case zz_d11 => k_is)
    (case zz_k11 => k_is)
    (case zz_a12 => k_is)
    (case zz_l12 => k_is)
    (case zz_d12 => k_is)
    (case zz_k12 => k_is)
    (case zz_a13 => k_is)
    (case zz_l13 => k_is)
    (case zz_d13 => k_is)
    (case zz_k13 => k_is)
    (case zz_a14 => k_is)
    (case zz_l14 => k_is)
    (case zz_d14 => k_is)
    (case zz_k14 => k_is)
    (case zz_a15 => k_is)
    (case zz_l15 => k_is)
    (case zz_d15 => k_is)
    (case zz_k15 => k_is)
    (case zz_a16 => k_is)
    (case zz_l16 => k_is)
    (case zz_d16 => k_is)
    (case zz_k16 => k_is)
    (case zz_a17 => k_is)
    (case zz_l17 => k_is)
    (case zz_d17 => k_is)
    (case zz_k17 => k_is)
    (case zz_a18 => k_is)
    (case zz_l18 => k_is)
    (case zz_d18 => k_is)
    (case zz_k18 => k_is)
    (case zz_a19 => k_is)
    (case zz_l19 => k_is)
    (case zz_d19 => k_is)
    (case zz_k19 => k_is)
    (case zz_y0 => k_is)
    (case zz_e0 => k_exc)
    (case zz_ga0 => k_is)
    (case zz_gt0 => k_is)
    (case zz_cl0 => k_is)
    (case zz_v0 => kit_is)
    (case zz_y1 => k_is)
    (case zz_e1 => k_exc)
    (case zz_ga1 => k_is)
    (case zz_gt1 => k_is)
    (case zz_cl1 => k_is)
    (case zz_v1 => kit_is)
    (case zz_y2 => k_is)
    (case zz_e2 => k_exc)
    (case zz_ga2 => k_is)
    (case zz_gt2 => k_is)
    (case zz_cl2 => k_is)
    (case zz_v2 => kit_is)
    (case zz_y3 => k_is)
    (case zz_e3 => k_exc)
    (case zz_ga3 => k_is)
    (case zz_gt3 => k_is)
    (case zz_cl3 => k_is)
    (case zz_v3 => kit_is)
    (case zz_y4 => k_is)
    (case zz_e4 => k_exc)
    (case zz_ga4 => k_is)
    (case zz_gt4 => k_is)
    (case zz_cl4 => k_is)
    (case zz_v4 => kit_is)
    (case zz_y5 => k_is)
    (case zz_e5 => k_exc)
    (case zz_ga5 => k_is)
    (case zz_gt5 => k_is)
    (case zz_cl5 => k_is)
    (case zz_v5 => kit_is)
    (case zz_y6 => k_is)
    (case zz_e6 => k_exc)
    (case zz_ga6 => k_is)
    (case zz_gt6 => k_is)
    (case zz_cl6 => k_is)
    (case zz_v6 => kit_is)
    (case zz_y7 => k_is)
    (case zz_e7 => k_exc)
    (case zz_ga7 => k_is)
    (case zz_gt7 => k_is)
    (case zz_cl7 => k_is)
    (case zz_v7 => kit_is)
    (case zz_y8 => k_is)
    (case zz_e8 => k_exc)
    (case zz_ga8 => k_is)
    (case zz_gt8 => k_is)
    (case zz_cl8 => k_is)
    (case zz_v8 => kit_is)
    (case zz_y9 => k_is)
    (case zz_e9 => k_exc)
    (case zz_ga9 => k_is)
    (case zz_gt9 => k_is)
    (case zz_cl9 => k_is)
    (case zz_v9 => kit_is)
    (case zz_y10 => k_is)
    (case zz_e10 => k_exc)
    (case zz_ga10 => k_is)
    (case zz_gt10 => k_is)
    (case zz_cl10 => k_is)
    (case zz_v10 => kit_is)
    (case zz_y11 => k_is)
    (case zz_e11 => k_exc)
    (case zz_ga11 => k_is)
    (case zz_gt11 => k_is)
    (case zz_cl11 => k_is)
    (case zz_v11 => kit_is)
    (case zz_y12 => k_is)
    (case zz_e12 => k_exc)
    (case zz_ga12 => k_is)
    (case zz_gt12 => k_is)
    (case zz_cl12 => k_is)
    (case zz_v12 => kit_is)
    (case zz_s0_0 => kit_is)
    (case zz_s0_1 => kit_is)
    (case zz_s0_2 => kit_is)
    (case zz_s0_3 => kit_is)
    (case zz_s0_4 => kit_is)
    (case zz_s0_5 => kit_is)
    (case zz_s0_6 => kit_is)
    (case zz_s0_7 => kit_is)
    (case zz_s0_8 => kit_is)
    (case zz_s0_9 => kit_is)
    (case zz_s0_10 => kit_is)
    (case zz_s0_11 => kit_is)
    (case zz_s0_12 => kit_is)
    (case zz_s1_0 => kit_is)
    (case zz_s1_1 => kit_is)
    (case zz_s1_2 => kit_is)
    (case zz_s1_3 => kit_is)
    (case zz_s1_4 => kit_is)
    (case zz_s1_5 => kit_is)
    (case zz_s1_6 => kit_is)
    (case zz_s1_7 => kit_is)
    (case zz_s1_8 => kit_is)
    (case zz_s1_9 => kit_is)
    (case zz_s1_10 => kit_is)
    (case zz_s1_11 => kit_is)
    (case zz_s1_12 => kit_is)
    (case zz_s2_0 => kit_is)
    (case zz_s2_1 => kit_is)
    (case zz_s2_2 => kit_is)
    (case zz_s2_3 => kit_is)
    (case zz_s2_4 => kit_is)
    (case zz_s2_5 => kit_is)
    (case zz_s2_6 => kit_is)
    (case zz_s2_7 => kit_is)
    (case zz_s2_8 => kit_is)
    (case zz_s2_9 => kit_is)
    (case zz_s2_10 => kit_is)
    (case zz_s2_11 => kit_is)
    (case zz_s2_12 => kit_is)
    (case zz_s3_0 => kit_is)
    (case zz_s3_1 => kit_is)
    (case zz_s3_2 => kit_is)
    (case zz_s3_3 => kit_is)
    (case zz_s3_4 => kit_is)
    (case zz_s3_5 => kit_is)
    (case zz_s3_6 => kit_is)
    (case zz_s3_7 => kit_is)
    (case zz_s3_8 => kit_is)
    (case zz_s3_9 => kit_is)
    (case zz_s3_10 => kit_is)
    (case zz_s3_11 => kit_is)
    (case zz_s3_12 => kit_is)
    (case zz_s4_0 => kit_is)
    (case zz_s4_1 => kit_is)
    (case zz_s4_2 => kit_is)
    (case zz_s4_3 => kit_is)
    (case zz_s4_4 => kit_is)
    (case zz_s4_5 => kit_is)
    (case zz_s4_6 => kit_is)
    (case zz_s4_7 => kit_is)
    (case zz_s4_8 => kit_is)
    (case zz_s4_9 => kit_is)
    (case zz_s4_10 => kit_is)
    (case zz_s4_11 => kit_is)
    (case zz_s4_12 => kit_is)
    (case zz_s5_0 => kit_is)
    (case zz_s5_1 => kit_is)
    (case zz_s5_2 => kit_is)
    (case zz_s5_3 => kit_is)
    (case zz_s5_4 => kit_is)
    (case zz_s5_5 => kit_is)
    (case zz_s5_6 => kit_is)
    (case zz_s5_7 => kit_is)
    (case zz_s5_8 => kit_is)
    (case zz_s5_9 => kit_is)
    (case zz_s5_10 => kit_is)
    (case zz_s5_11 => kit_is)
    (case zz_s5_12 => kit_is)
    (case zz_s6_0 => kit_is)
    (case zz_s6_1 => kit_is)
    (case zz_s6_2 => kit_is)
    (case zz_s6_3 => kit_is)
    (case zz_s6_4 => kit_is)
    (case zz_s6_5 => kit_is)
    (case zz_s6_6 => kit_is)
    (case zz_s6_7 => kit_is)
    (case zz_s6_8 => kit_is)
    (case zz_s6_9 => kit_is)
    (case zz_s6_10 => kit_is)
    (case zz_s6_11 => kit_is)
    (case zz_s6_12 => kit_is)
    (case zz_s7_0 => kit_is)
    (case zz_s7_1 => kit_is)
    (case zz_s7_2 => kit_is)
    (case zz_s7_3 => kit_is)
    (case zz_s7_4 => kit_is)
    (case zz_s7_5 => kit_is)
    (case zz_s7_6 => kit_is)
    (case zz_s7_7 => kit_is)
    (case zz_s7_8 => kit_is)
    (case zz_s7_9 => kit_is)
    (case zz_s7_10 => kit_is)
    (case zz_s7_11 => kit_is)
    (case zz_s7_12 => kit_is)
    (case zz_s8_0 => kit_is)
    (case zz_s8_1 => kit_is)
    (case zz_s8_2 => kit_is)
    (case zz_s8_3 => kit_is)
    (case zz_s8_4 => kit_is)
    (case zz_s8_5 => kit_is)
    (case zz_s8_6 => kit_is)
    (case zz_s8_7 => kit_is)
    (case zz_s8_8 => kit_is)
    (case zz_s8_9 => kit_is)
    (case zz_s8_10 => kit_is)
    (case zz_s8_11 => kit_is)
    (case zz_s8_12 => kit_is)
    (case zz_s9_0 => kit_is)
    (case zz_s9_1 => kit_is)
    (case zz_s9_2 => kit_is)
    (case zz_s9_3 => kit_is)
    (case zz_s9_4 => kit_is)
    (case zz_s9_5 => kit_is)
    (case zz_s9_6 => kit_is)
    (case zz_s9_7 => kit_is)
    (case zz_s9_8 => kit_is)
    (case zz_s9_9 => kit_is)
    (case zz_s9_10 => kit_is)
    (case zz_s9_11 => kit_is)
    (case zz_s9_12 => kit_is)
    (case zz_s10_0 => kit_is)
    (case zz_s10_1 => kit_is)
    (case zz_s10_2 => kit_is)
    (case zz_s10_3 => kit_is)
    (case zz_s10_4 => kit_is)
    (case zz_s10_5 => kit_is)
    (case zz_s10_6 => kit_is)
    (case zz_s10_7 => kit_is)
    (case zz_s10_8 => kit_is)
    (case zz_s10_9 => kit_is)
    (case zz_s10_10 => kit_is)
    (case zz_s10_11 => kit_is)
    (case zz_s10_12 => kit_is)
    (case zz_s11_0 => kit_is)
    (case zz_s11_1 => kit_is)
    (case zz_s11_2 => kit_is)
    (case zz_s11_3 => kit_is)
    (case zz_s11_4 => kit_is)
    (case zz_s11_5 => kit_is)
    (case zz_s11_6 => kit_is)
    (case zz_s11_7 => kit_is)
    (case zz_s11_8 => kit_is)
    (case zz_s11_9 => kit_is)
    (case zz_s11_10 => kit_is)
    (case zz_s11_11 => kit_is)
    (case zz_s11_12 => kit_is)
    (case zz_s12_0 => kit_is)
    (case zz_s12_1 => kit_is)
    (case zz_s12_2 => kit_is)
    (case zz_s12_3 => kit_is)
    (case zz_s12_4 => kit_is)
    (case zz_s12_5 => kit_is)
    (case zz_s12_6 => kit_is)
    (case zz_s12_7 => kit_is)
    (case zz_s12_8 => kit_is)
    (case zz_s12_9 => kit_is)
    (case zz_s12_10 => kit_is)
    (case zz_s12_11 => kit_is)
    (case zz_s12_12 => kit_is)
    (case zz_g0 => k_is)
    (case zz_gl0 => k_is)
    (case zz_gv0 => exact ⟨by decide, .cons ⟨_, rfl⟩ (.nil)⟩)
    (case zz_g1 => k_is)
    (case zz_gl1 => k_is)
    (case zz_gv1 => exact ⟨by decide, .cons ⟨_, rfl⟩ (.nil)⟩)
    (case zz_z0 => k_is)
    (case zz_z1 => k_is)
    (case zz_z2 => k_is)
    (case zz_z3 => k_is)
    (case zz_z4 => k_is)
    (case zz_z5 => k_is)
    (case zz_z6 => k_is)
    (case zz_z7 => k_is)
    (case zz_z8 => k_is)
    (case zz_z9 => k_is)
    (case zz_z10 => k_is)
