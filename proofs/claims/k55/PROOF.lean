import PyProof.Rows.All
import Wide.All
import OpenK.AllK
import Wide.FinOn
import PyProof.EqAt
import PyProof.EqKinds
import PyProof.TupleCall
import KE.BitLaws
import KE.KUnpack
import PyProof.P3In
import PyProof.NeKinds
import PyProof.Rows.IntBool
import PyProof.FactsAll.enumerate
import KE.KItemsList
import PyProof.Rows.EqBoolInt
import OpenK.KRaise
import OpenK.KOwn
import PyProof.ExcBaseAll.ValueError
import KE.KIsAll
import PyProof.ExcAttrAll.ValueError
import PyProof.Rows.CountFlat
import PyProof.FactsAll.set
import KE.KSortAsk
import KE.IntBitsLaws
import PySem.Challenge.RW_tierounds_k55_turns_and_rules_written
set_option Elab.async false
set_option linter.all false
set_option maxRecDepth 100000
namespace L2
open PySem PySem.Spec PyProof.Rows
abbrev Key := Sum Int Str
def keyIs : Key → Value → Bool
  | .inl k, v => Value.isInt k v
  | .inr x, v => Value.isStrOf x v
def keyH (w : World) : Key → Int
  | .inl k => hashInt k
  | .inr x => hashStr w x
theorem keyIs_shape : ∀ {k : Key} {v : Value}, keyIs k v = true → (∃ i t, k = Sum.inl i ∧ v = Value.int i t) ∨ (∃ x t, k = Sum.inr x ∧ v = Value.str x t)
  | .inl i, v, h => by
    obtain ⟨t, e⟩ := Value.isInt_shape (k := i) (v := v) h
    exact .inl ⟨i, t, rfl, e⟩
  | .inr x, v, h => by
    obtain ⟨t, e⟩ := Value.isStrOf_shape (x := x) (v := v) h
    exact .inr ⟨x, t, rfl, e⟩
theorem key_ll (a b : Int) : decide ((Sum.inl a : Key) = Sum.inl b) = (a == b) := by
  by_cases e : a = b
  · subst e; simp
  · have h : ¬ (Sum.inl a : Key) = Sum.inl b := fun q => e (Sum.inl.inj q)
    rw [decide_eq_false h]
    exact (beq_eq_false_iff_ne.mpr e).symm
theorem key_rr (a b : Str) : decide ((Sum.inr a : Key) = Sum.inr b) = decide (a = b) := by
  by_cases e : a = b
  · subst e; simp
  · have h : ¬ (Sum.inr a : Key) = Sum.inr b := fun q => e (Sum.inr.inj q)
    rw [decide_eq_false h, decide_eq_false e]
theorem key_lr (a : Int) (b : Str) : decide ((Sum.inl a : Key) = Sum.inr b) = false := decide_eq_false (fun q => nomatch q)
theorem key_rl (a : Str) (b : Int) : decide ((Sum.inr a : Key) = Sum.inl b) = false := decide_eq_false (fun q => nomatch q)
def mixKind (prog : Program) (w : World) : PySem.KeyKind prog w Key where
  is := keyIs
  hash := keyH w
  inj := fun v a b ha hb => by
    rcases keyIs_shape ha with ⟨i, t, rfl, rfl⟩ | ⟨x, t, rfl, rfl⟩
    · rcases keyIs_shape hb with ⟨j, u, rfl, e⟩ | ⟨y, u, rfl, e⟩
      · injection e with e1 _; rw [e1]
      · exact nomatch e
    · rcases keyIs_shape hb with ⟨j, u, rfl, e⟩ | ⟨y, u, rfl, e⟩
      · exact nomatch e
      · injection e with e1 _; rw [e1]
  byValue := fun k v h => by
    rcases keyIs_shape h with ⟨i, t, rfl, rfl⟩ | ⟨x, t, rfl, rfl⟩ <;> rfl
  pyHash := fun hv h => by
    rcases keyIs_shape hv with ⟨i, t, rfl, rfl⟩ | ⟨x, t, rfl, rfl⟩
    · exact wpAny_pyHash_int h
    · exact wpAny_pyHash_str h
  eqBool := fun hu hv h => by
    rcases keyIs_shape hu with ⟨i, t, rfl, rfl⟩ | ⟨x, t, rfl, rfl⟩
    · rcases keyIs_shape hv with ⟨j, u, rfl, rfl⟩ | ⟨y, u, rfl, rfl⟩
      · rw [key_ll] at h; exact wpAny_eqBool_int h
      · rw [key_lr] at h; exact SeqAt.EqAt.int_str i t y u _ _ _ _ h
    · rcases keyIs_shape hv with ⟨j, u, rfl, rfl⟩ | ⟨y, u, rfl, rfl⟩
      · rw [key_rl] at h; exact SeqAt.EqAt.str_int x t j u _ _ _ _ h
      · rw [key_rr] at h; exact wpAny_eqBool_str h
  «strs» := fun k x t v h => by
    rcases keyIs_shape h with ⟨i, u, rfl, e⟩ | ⟨y, u, rfl, e⟩
    · exact nomatch e
    · injection e with e1 _
      subst e1
      cases v <;> rfl
inductive V where
  | non | bl (b : Bool) | int (i : Int) | str (x : Str) | byt (b : Array UInt8) | flt (b : UInt64) | ref (a : Addr) | ty (n : String)
  deriving DecidableEq
def RelV : V → Value → Prop
  | .non, u => u = Value.none
  | .bl b, u => u = Value.bool b
  | .int i, u => ∃ t, u = Value.int i t
  | .str x, u => ∃ t, u = Value.str x t
  | .byt b, u => ∃ t, u = Value.bytes b t
  | .flt b, u => ∃ t, u = Value.float b t
  | .ref a, u => u = Value.ref a
  | .ty n, u => u = Value.type n
abbrev Vals : List V → List Value → Prop := Paired RelV
theorem Vals.length {xs : List V} {us : List Value} (r : Vals xs us) : xs.length = us.length := Paired.length r
theorem Vals.get : ∀ {xs : List V} {us : List Value} {i : Nat} {x : V}, Vals xs us → xs[i]? = some x → ∃ u, us[i]? = some u ∧ RelV x u
  | _, _, _, _, .nil, e => by simp at e
  | _, _, 0, _, .cons r _, e => by simp at e; subst e; exact ⟨_, rfl, r⟩
  | _, _, i + 1, x, .cons _ t, e => by
    obtain ⟨u, h1, h2⟩ := Vals.get (i := i) (x := x) t (by simpa using e)
    exact ⟨u, by simpa using h1, h2⟩
theorem Vals.set {x : V} {u : Value} (r : RelV x u) : ∀ {xs : List V} {us : List Value} (i : Nat), Vals xs us → Vals (xs.set i x) (us.set i u)
  | _, _, _, .nil => .nil
  | _, _, 0, .cons _ t => .cons r t
  | _, _, i + 1, .cons q t => .cons q (Vals.set r i t)
theorem Vals.append : ∀ {xs ys : List V} {us ws : List Value}, Vals xs us → Vals ys ws → Vals (xs ++ ys) (us ++ ws)
  | _, _, _, _, .nil, s => s
  | _, _, _, _, .cons r t, s => .cons r (Vals.append t s)
theorem Vals.take : ∀ {xs : List V} {us : List Value} (n : Nat), Vals xs us → Vals (xs.take n) (us.take n)
  | _, _, 0, _ => .nil
  | _, _, _ + 1, .nil => .nil
  | _, _, n + 1, .cons r t => .cons r (Vals.take n t)
theorem Vals.drop : ∀ {xs : List V} {us : List Value} (n : Nat), Vals xs us → Vals (xs.drop n) (us.drop n)
  | _, _, 0, r => r
  | _, _, _ + 1, .nil => .nil
  | _, _, n + 1, .cons _ t => Vals.drop n t
def RelO : Option V → Option Value → Prop
  | some v, some u => RelV v u
  | none, none => True
  | _, _ => False
def KV {κ : Type} : List (κ × V) → List (κ × Value) → Prop := Paired fun (p : κ × V) (q : κ × Value) => p.1 = q.1 ∧ RelV p.2 q.2
def kV : Key → V
  | .inl i => .int i
  | .inr x => .str x
inductive HO where
  | lst (xs : List V)
  | tup (xs : List V)
  | dK (kvs : List (Key × V)) | dT (kvs : List (List Key × V))
  | set (S : Int → Bool) (n : Nat)
  | ins (C dx : Addr) (fs : List (Str × V))
  | own (x : Addr)
  | xd (fs : List (Str × V))
  | met (f x : Addr)
  | rng (lo hi : Int)
  | frz (o : Obj) (u : HO)
  | tbl (ps : Array Value)
  | ext (φ : Heap → Prop)
abbrev Hp := Addr → Option HO
def upd (H : Hp) (a : Addr) (o : HO) : Hp := fun b => if b = a then some o else H b
theorem upd_same {H : Hp} {a : Addr} {o : HO} : upd H a o a = some o := by unfold upd; rw [if_pos rfl]
theorem upd_ne {H : Hp} {a b : Addr} {o : HO} (h : b ≠ a) : upd H a o b = H b := by unfold upd; rw [if_neg h]
theorem ne_of_none {H : Hp} {a b : Addr} {o : HO} (h : H a = some o) (h' : H b = none) : a ≠ b := by
  intro e; subst e; rw [h] at h'; cases h'
section
variable (P : Program) (w : World)
def ObjOk (H : Hp) (h : Heap) (a : Addr) : HO → Prop
  | .lst xs => xs.length ≤ sizeLine ∧ ∃ (its : List Value) (n : Nat), Vals xs its ∧ h.get? a = some { cls := .type "list", data := .seq its.toArray n }
  | .tup xs => xs.length ≤ sizeLine ∧ ∃ its : List Value, Vals xs its ∧ IsTup h a its.toArray
  | .dK kvs => kvs.length ≤ sizeLine ∧ (a == sysModules) = false ∧ ∃ vs, KV kvs vs ∧ h.DictOf (mixKind P w) a vs
  | .dT kvs => kvs.length ≤ sizeLine ∧ (a == sysModules) = false ∧ ∃ xs : List (List Key × Addr × Value),
      Paired (fun (p : List Key × V) (q : List Key × Addr × Value) => p.1 = q.1 ∧ H q.2.1 = some (.tup (p.1.map kV)) ∧ RelV p.2 q.2.2) kvs xs ∧
      ∃ o es ep, h.get? a = some o ∧ o.ExactDict ∧ o.data = .dict es ep ∧ es.toList = xs.map (entryOfKey (tupleKind (mixKind P w))) ∧ (xs.map (·.1)).Nodup
  | .set S n => h.SetOf (intKind P w) a S n
  | .ins C dx fs => H dx = some (.own a) ∧ fs.length ≤ 1000 ∧ dx ≠ a ∧ h.get? a = some (PySem.W.instObj C dx) ∧
      ∃ mA, h.Ns1 dx mA ∧ (∀ f, RelO (fs.lookup f) (mA f)) ∧ PySem.Within mA (fs.map (·.1))
  | .own _ => ∃ o, h.get? a = some o
  | .xd fs => ∃ mA, h.Ns1 a mA ∧ ∀ f, RelO (fs.lookup f) (mA f)
  | .rng lo hi => ∃ t u v, h.get? a = some { cls := .type "range", data := .fields #[.int lo t, .int hi u, .int 1 v] }
  | .frz o u => h.get? a = some o ∧ ObjOk H h a u
  | .tbl ps => TriplesOk ps.toList ∧ h.get? a = some { cls := .none, data := .fields ps }
  | .met f x => h.get? a = some (PySem.W.methodObj (.ref f) (.ref x))
  | .ext φ => φ h ∧ (∃ o, h.get? a = some o) ∧ ∀ h1 h2 : Heap, φ h1 → (∀ o, h1.get? a = some o → h2.get? a = some o) → φ h2
def HOk (H : Hp) (h : Heap) : Prop := ∀ a o, H a = some o → ObjOk P w H h a o
end
section
variable {P : Program} {w : World} {H H' : Hp} {h h' : Heap} {a : Addr} {o : HO}
theorem ObjOk.lt (x : ObjOk P w H h a o) : a < h.objs.size := by
  cases o with
  | lst xs => obtain ⟨_, _, _, _, e⟩ := x; exact Heap.lt_size e
  | tup xs => obtain ⟨_, _, _, p⟩ := x; exact p.lt
  | dK kvs => obtain ⟨_, _, _, _, o, _, _, e, _⟩ := x; exact Heap.lt_size e
  | dT kvs => obtain ⟨_, _, _, _, o, _, _, e, _⟩ := x; exact Heap.lt_size e
  | set S n => obtain ⟨o, _, _, _, e, _⟩ := x; exact Heap.lt_size e
  | ins C dx fs => obtain ⟨_, _, _, e, _⟩ := x; exact Heap.lt_size e
  | own y => obtain ⟨_, e⟩ := x; exact Heap.lt_size e
  | xd fs => obtain ⟨_, ⟨_, _, _, e, _⟩, _⟩ := x; exact Heap.lt_size e
  | rng lo hi => obtain ⟨_, _, _, e⟩ := x; exact Heap.lt_size e
  | frz ob u => obtain ⟨e, _⟩ := x; exact Heap.lt_size e
  | tbl ps => exact Heap.lt_size (show h.get? a = some _ from x.2)
  | met f y => exact Heap.lt_size (show h.get? a = some _ from x)
  | ext φ => obtain ⟨_, ⟨_, e⟩, _⟩ := x; exact Heap.lt_size e
theorem Paired.mapP {α β : Type} {F G : α → β → Prop} : ∀ {l₁ : List α} {l₂ : List β}, Paired F l₁ l₂ → (∀ a b, F a b → G a b) → Paired G l₁ l₂
  | _, _, .nil, _ => .nil
  | _, _, .cons r t, f => .cons (f _ _ r) (Paired.mapP t f)
theorem ObjOk.stay (x : ObjOk P w H h a o) (k : ∀ b u, (b = a ∨ H b = some (.own a)) → h.get? b = some u → h'.get? b = some u)
    (ho : ∀ b, H b = some (.own a) → H' b = some (.own a)) (ht : ∀ b xs, H b = some (.tup xs) → H' b = some (.tup xs)) : ObjOk P w H' h' a o := by
  induction o with
  | lst xs => obtain ⟨z, its, n, r, e⟩ := x; exact ⟨z, its, n, r, k _ _ (.inl rfl) e⟩
  | tup xs => obtain ⟨z, its, r, ob, e, c⟩ := x; exact ⟨z, its, r, ob, k _ _ (.inl rfl) e, c⟩
  | dK kvs => obtain ⟨z, y, vs, r, ob, es, ep, e, c⟩ := x; exact ⟨z, y, vs, r, ob, es, ep, k _ _ (.inl rfl) e, c⟩
  | dT kvs =>
    obtain ⟨z, y, xs, r, ob, es, ep, e, c⟩ := x
    exact ⟨z, y, xs, Paired.mapP r fun p q z => ⟨z.1, ht _ _ z.2.1, z.2.2⟩, ob, es, ep, k _ _ (.inl rfl) e, c⟩
  | set S n => obtain ⟨ob, es, ep, t, e, c⟩ := x; exact ⟨ob, es, ep, t, k _ _ (.inl rfl) e, c⟩
  | ins C dx fs =>
    obtain ⟨d, z, ne, e, mA, ⟨od, es, ep, e2, c⟩, r⟩ := x
    exact ⟨ho _ d, z, ne, k _ _ (.inl rfl) e, mA, ⟨od, es, ep, k _ _ (.inr d) e2, c⟩, r⟩
  | own y => obtain ⟨ob, e⟩ := x; exact ⟨ob, k _ _ (.inl rfl) e⟩
  | xd fs => obtain ⟨mA, ⟨od, es, ep, e, c⟩, r⟩ := x; exact ⟨mA, ⟨od, es, ep, k _ _ (.inl rfl) e, c⟩, r⟩
  | rng lo hi => obtain ⟨t, u, v, e⟩ := x; exact ⟨t, u, v, k _ _ (.inl rfl) e⟩
  | frz ob u ih => obtain ⟨e, q⟩ := x; exact ⟨k _ _ (.inl rfl) e, ih q⟩
  | tbl ps =>
    have e : h.get? a = some { cls := .none, data := .fields ps } := x.2
    exact ⟨x.1, k a _ (.inl rfl) e⟩
  | met f y =>
    have e : h.get? a = some (PySem.W.methodObj (.ref f) (.ref y)) := x
    show h'.get? a = some (PySem.W.methodObj (.ref f) (.ref y))
    exact k a _ (.inl rfl) e
  | ext φ => obtain ⟨p, ⟨o, e⟩, st⟩ := x; exact ⟨st _ _ p fun o q => k _ _ (.inl rfl) q, ⟨o, k _ _ (.inl rfl) e⟩, st⟩
theorem HOk.lt (x : HOk P w H h) (e : H a = some o) : a < h.objs.size := (x a o e).lt
theorem HOk.fresh (x : HOk P w H h) (e : h.objs.size ≤ a) : H a = none := by
  cases q : H a with
  | none => rfl
  | some u => exact absurd (Nat.lt_of_lt_of_le (x.lt q) e) (Nat.lt_irrefl _)
theorem HOk.kept (x : HOk P w H h) (k : ∀ b u, h.get? b = some u → h'.get? b = some u) : HOk P w H h' := fun a o e =>
  (x a o e).stay (fun b u _ q => k b u q) (fun _ q => q) fun _ _ q => q
theorem HOk.laid (x : HOk P w H h) (k : ∀ b u, h.get? b = some u → h'.get? b = some u) (hp : h.objs.size ≤ a) (new : ObjOk P w (upd H a o) h' a o) : HOk P w (upd H a o) h' := fun b u e => by
  have hn := x.fresh hp
  by_cases hb : b = a
  · subst hb; rw [upd_same] at e; cases e; exact new
  · rw [upd_ne hb] at e
    exact (x b u e).stay (fun c v _ q => k c v q) (fun c q => by rw [upd_ne (ne_of_none q hn)]; exact q) fun c xs q => by rw [upd_ne (ne_of_none q hn)]; exact q
end
def Rd (H : Hp) (a : Addr) (u : HO) : Prop := H a = some u ∨ ∃ o, H a = some (.frz o u)
theorem Rd.ok {P : Program} {w : World} {H : Hp} {h : Heap} {a : Addr} {u : HO} (r : Rd H a u) (x : HOk P w H h) : ObjOk P w H h a u := by
  rcases r with r | ⟨o, r⟩
  · exact x a u r
  · obtain ⟨_, q⟩ := x a _ r
    exact q
def Mut : Option HO → Prop
  | some (.lst _) => True
  | some (.dK _) => True
  | some (.dT _) => True
  | some (.set _ _) => True
  | some (.ins _ _ _) => True
  | some (.ext _) => True
  | _ => False
section
variable {P : Program} {w : World} {H : Hp} {h h' : Heap} {x e : Addr} {o' : HO}
theorem HOk.write (ok : HOk P w H h) (mu : Mut (H x)) (he : e = x ∨ H e = some (.own x)) (k : ∀ b u, b ≠ e → h.get? b = some u → h'.get? b = some u) (heo : ∃ u, h'.get? e = some u)
    (new : ObjOk P w (upd H x o') h' x o') : HOk P w (upd H x o') h' := fun b u q => by
  have nown : ∀ c y, H c = some (.own y) → c ≠ x := fun c y r z => by subst z; rw [r] at mu; exact mu
  have ntup : ∀ c xs, H c = some (.tup xs) → c ≠ x := fun c xs r z => by subst z; rw [r] at mu; exact mu
  by_cases hb : b = x
  · subst hb; rw [upd_same] at q; cases q; exact new
  · rw [upd_ne hb] at q
    by_cases hbe : b = e
    · have q' : H b = some (.own x) := by
        rcases he with z | z
        · exact absurd (hbe.trans z) hb
        · rw [hbe]; exact z
      rw [q] at q'; cases q'
      obtain ⟨v, hv⟩ := heo
      exact ⟨v, by rw [hbe]; exact hv⟩
    · refine (ok b u q).stay (fun c v hc r => k c v ?_ r) (fun c r => by rw [upd_ne (nown c b r)]; exact r) fun c xs r => by rw [upd_ne (ntup c xs r)]; exact r
      rcases hc with rfl | hc
      · exact hbe
      · rintro rfl
        rcases he with z | z
        · exact nown c b hc z
        · rw [hc] at z; cases z; exact hb rfl
end
structure Un (fs ex : List Addr) (H H' : Hp) (h h' : Heap) : Prop where
  keep : ∀ b o, h.get? b = some o → H b = none → b ∉ fs → b ∉ ex → h'.get? b = some o
  slot : ∀ b o, h.get? b = some o → H b = none → b ∈ fs → b ∉ ex → ∃ sl, h'.get? b = some { o with slots := sl }
  free : ∀ b o, h.get? b = some o → H b = none → b ∉ ex → H' b = none
  there : ∀ b o, h.get? b = some o → b ∉ ex → ∃ o', h'.get? b = some o'
  tups : ∀ b xs, H b = some (.tup xs) → H' b = some (.tup xs)
  frzs : ∀ b o u, H b = some (.frz o u) → H' b = some (.frz o u)
  tbls : ∀ b ps, H b = some (.tbl ps) → ∃ more, H' b = some (.tbl (ps ++ more))
section
variable {fs fs' ex ex' : List Addr} {H H1 H2 : Hp} {h h1 h2 h' : Heap} {a x e : Addr} {o : HO}
theorem Un.any (u : Un fs ex H H1 h h1) {b : Addr} {ob : Obj} (q : h.get? b = some ob) (n : H b = none) (hx : b ∉ ex) : ∃ sl, h1.get? b = some { ob with slots := sl } := by
  by_cases hb : b ∈ fs
  · exact u.slot b ob q n hb hx
  · exact ⟨ob.slots, u.keep b ob q n hb hx⟩
theorem Un.trans (a : Un fs ex H H1 h h1) (b : Un fs ex H1 H2 h1 h2) : Un fs ex H H2 h h2 where
  keep := fun c ob q n hc hx => b.keep c ob (a.keep c ob q n hc hx) (a.free c ob q n hx) hc hx
  slot := fun c ob q n hc hx => by
    obtain ⟨sl, e1⟩ := a.slot c ob q n hc hx
    obtain ⟨sl', e2⟩ := b.slot c _ e1 (a.free c ob q n hx) hc hx
    exact ⟨sl', e2⟩
  free := fun c ob q n hx => by
    obtain ⟨o', e1⟩ := a.there c ob q hx
    exact b.free c o' e1 (a.free c ob q n hx) hx
  there := fun c ob q hx => by
    obtain ⟨o', e1⟩ := a.there c ob q hx
    exact b.there c o' e1 hx
  tups := fun c xs q => b.tups c xs (a.tups c xs q)
  frzs := fun c ob xs q => b.frzs c ob xs (a.frzs c ob xs q)
  tbls := fun c ps q => by
    obtain ⟨m1, e1⟩ := a.tbls c ps q
    obtain ⟨m2, e2⟩ := b.tbls c _ e1
    exact ⟨m1 ++ m2, by rw [e2, Array.append_assoc]⟩
theorem Un.kept (k : ∀ b u, h.get? b = some u → h'.get? b = some u) : Un fs ex H H h h' :=
  ⟨fun b ob q _ _ _ => k b ob q, fun b ob q _ _ _ => ⟨ob.slots, k b ob q⟩, fun _ _ _ n _ => n, fun b ob q _ => ⟨ob, k b ob q⟩, fun _ _ q => q, fun _ _ _ q => q, fun _ ps q => ⟨#[], by rw [q]; simp⟩⟩
theorem Un.refl : Un fs ex H H h h := Un.kept fun _ _ q => q
theorem Un.laid (k : ∀ b u, h.get? b = some u → h'.get? b = some u) (hp : h.objs.size ≤ a) (hn : H a = none) : Un fs ex H (upd H a o) h h' where
  keep := fun b u q _ _ _ => k b u q
  slot := fun b u q _ _ _ => ⟨u.slots, k b u q⟩
  free := fun b u q n _ => by rw [upd_ne (Nat.ne_of_lt (Nat.lt_of_lt_of_le (Heap.lt_size q) hp))]; exact n
  there := fun b u q _ => ⟨u, k b u q⟩
  tups := fun b xs q => by rw [upd_ne (ne_of_none q hn)]; exact q
  frzs := fun b u xs q => by rw [upd_ne (ne_of_none q hn)]; exact q
  tbls := fun b ps q => ⟨#[], by rw [upd_ne (ne_of_none q hn), q]; simp⟩
theorem Un.write (mu : Mut (H x)) (he : e = x ∨ H e = some (.own x)) (k : ∀ b u, b ≠ e → h.get? b = some u → h'.get? b = some u) (heo : ∃ u, h'.get? e = some u) : Un fs ex H (upd H x o) h h' := by
  have hx : ∀ b, H b = none → b ≠ x := fun b n z => by subst z; rw [n] at mu; exact mu
  have hb : ∀ b, H b = none → b ≠ e := fun b n z => by
    subst z
    rcases he with r | r
    · exact hx b n r
    · rw [n] at r; cases r
  have hm : ∀ b u, H b = some u → ¬ Mut (some u) → b ≠ x := fun b u q nm z => by subst z; rw [q] at mu; exact nm mu
  refine ⟨fun b u q n _ _ => k b u (hb b n) q, fun b u q n _ _ => ⟨u.slots, k b u (hb b n) q⟩, fun b u q n _ => by rw [upd_ne (hx b n)]; exact n, fun b u q _ => ?_,
    fun b xs q => by rw [upd_ne (hm b _ q fun z => z)]; exact q, fun b u xs q => by rw [upd_ne (hm b _ q fun z => z)]; exact q, fun b ps q => ⟨#[], by rw [upd_ne (hm b _ q fun z => z), q]; simp⟩⟩
  by_cases hbe : b = e
  · subst hbe; exact heo
  · exact ⟨u, k b u hbe q⟩
theorem Un.mono (u : Un fs ex H H1 h h1) (hs : ∀ b ∈ fs, b ∈ fs') (hx : ∀ b ∈ ex, b ∈ ex') : Un fs' ex' H H1 h h1 :=
  ⟨fun b ob q n hb he => u.keep b ob q n (fun z => hb (hs b z)) fun z => he (hx b z), fun _ _ q n _ he => u.any q n fun z => he (hx _ z), fun b ob q n he => u.free b ob q n fun z => he (hx b z), fun b ob q he => u.there b ob q fun z => he (hx b z), u.tups, u.frzs, u.tbls⟩
end
def trk (h : Heap) (H : Hp) : List Addr := (List.range h.objs.size).filter fun a => (H a).isSome
def hidT (h : Heap) (H : Hp) : Heap := PySem.W.hideAll h (trk h H)
theorem hidT_size (h : Heap) (H : Hp) : (hidT h H).objs.size = h.objs.size := PySem.W.hideAll_size _ _
theorem hidT_get {h : Heap} {H : Hp} {b : Addr} {o : Obj} (e : h.get? b = some o) (n : H b = none) : (hidT h H).get? b = some o :=
  PySem.W.hideAll_get _ e fun hm => by
    have q : (H b).isSome = true := (List.mem_filter.mp hm).2
    rw [n] at q; simp at q
theorem of_hidT {h : Heap} {H : Hp} {b : Addr} {o : Obj} (e : (hidT h H).get? b = some o) : h.get? b = some o ∧ H b = none := by
  have e' : h.get? b = some o := PySem.W.of_hideAll (trk h H) e
  refine ⟨e', ?_⟩
  cases q : H b with
  | none => rfl
  | some x =>
    have hm : b ∈ trk h H := List.mem_filter.mpr ⟨List.mem_range.mpr (Heap.lt_size e'), by simp [q]⟩
    have z : (hidT h H).get? b = none := PySem.W.hideAll_none (trk h H) hm
    rw [z] at e; cases e
def allNews (g h : Heap) (L : Addr) : List (Addr × Obj) := (List.range h.objs.size).filterMap fun a => if a = L ∨ (g.get? a).isSome = true then none else (h.get? a).map fun o => (a, o)
def rest (g h : Heap) (L d : Addr) : List (Addr × Obj) := (allNews g h L).filter fun p => decide (p.1 ≠ d)
structure Mod (K : PySem.W.Frag) (mg : Str → Option Value) (base : Heap) : Prop where
  kin : K.In base
  glob : base.Ns mainGlobals mg
  blt : ∃ mb, base.Ns builtinsNs mb ∧ ∀ x : Str, x ≠ "__name__" → mb x = bootBuiltins x
  nolimit : base.NoLimit
  bmd : ∃ bm ob, BMod base mainGlobals mg bm ob
structure GB (a b : Array GenState) : Prop where
  all : AllBare b
  size : a.size ≤ b.size
  same : ∀ k, k < a.size → b[k]? = a[k]?
theorem GB.refl {a : Array GenState} (h : AllBare a) : GB a a := ⟨h, Nat.le_refl _, fun _ _ => rfl⟩
theorem GB.trans {a b c : Array GenState} (x : GB a b) (y : GB b c) : GB a c := ⟨y.all, Nat.le_trans x.size y.size, fun k hk => (y.same k (Nat.lt_of_lt_of_le hk x.size)).trans (x.same k hk)⟩
structure Cx where
  prog : Program
  w : World
  K : PySem.W.Frag
  mg : Str → Option Value
  base : Heap
  A : Around
  N : List Str
  s_0 : Shared
  H_0 : Hp
  env : Env
  outer : List Env
  stack : List Env
  ex : List Addr
  fn : Str → Bool
  calm : Bool
  pn : List (Addr × Obj)
  xe : Value → Shared → Prop
def frs (l : List Env) : List Addr := l.filterMap (·.frame)
abbrev Cx.fs (X : Cx) : List Addr := frs X.outer
def Vis (sc : Scope) (x : Str) : Prop := sc.names.lookup x = some .local ∨ sc.names.lookup x = some .cell ∨ sc.names.lookup x = some .free
def Loc (sc : Scope) (x : Str) : Prop := sc.names.lookup x = some .local ∨ sc.names.lookup x = some .cell
def Look (env : Env) (h : Heap) (m : Str → Option Value) (x : Str) (u : Value) : Prop :=
  (env.kindOf x = some .local ∧ m x = some u) ∨ ((env.kindOf x = some .cell ∨ env.kindOf x = some .free) ∧ ∃ c, env.cells.lookup x = some c ∧ h.IsCell c (some u))
structure Cx.Ok (X : Cx) : Prop where
  mod : Mod X.K X.mg X.base
  kind : X.env.scope.kind = .function
  glob : X.env.globals = mainGlobals
  blt : X.env.builtins = builtinsNs
  above : X.s_0.heap.objs.size ≤ X.env.locals
  inj : ∀ x y c, X.env.cells.lookup x = some c → X.env.cells.lookup y = some c → x = y
  has : ∀ x, (X.env.kindOf x = some .cell ∨ X.env.kindOf x = some .free) → ∃ c, X.env.cells.lookup x = some c
  cab : ∀ x c, X.fn x = true → X.env.cells.lookup x = some c → X.s_0.heap.objs.size ≤ c
  hd : X.calm = true → X.A.handled = none
  frames : X.A.frames = some X.stack
  stk : X.stack = X.outer ∨ (X.stack = X.env :: X.outer ∧ X.env.frame = some X.env.locals)
  exf : ∀ b ∈ X.ex, b ≠ X.env.locals ∧ ∀ x c, X.env.cells.lookup x = some c → c ≠ b
  bs : ∀ b o, X.base.get? b = some o → X.s_0.heap.get? b = some o ∧ X.H_0 b = none
  bsz : X.base.objs.size ≤ X.s_0.heap.objs.size
  noex : ∀ b o, X.base.get? b = some o → b ∉ X.ex
  exfs : ∀ b ∈ X.ex, b ∉ X.fs
  funs : X.s_0.heap.FunFrames X.base X.outer
  frf : ∀ b ∈ X.fs, X.H_0 b = none
structure Inv (X : Cx) (pins : List (Addr × Obj)) (σ : List (Option V)) (H : Hp) (s : Shared) : Prop where
  ok : X.Ok
  os : s.os = X.s_0.os
  bare : GB X.s_0.gens s.gens
  base : Un X.fs X.ex X.H_0 H X.s_0.heap s.heap
  loc : ∃ m, s.heap.Ns X.env.locals m ∧ ∀ (i : Nat) (x : Str) (v : V), X.N[i]? = some x → σ[i]? = some (some v) → Vis X.env.scope x → ∃ u, RelV v u ∧ Look X.env s.heap m x u
  cell : ∀ x c, X.env.cells.lookup x = some c → ∃ v, s.heap.IsCell c v
  free : H X.env.locals = none
  freeC : ∀ x c, X.env.cells.lookup x = some c → H c = none
  pin : ∀ p ∈ X.pn ++ pins, s.heap.get? p.1 = some p.2 ∧ H p.1 = none ∧ p.1 ≠ X.env.locals ∧ p.1 ∉ X.fs ∧ ∀ v, p.2.data ≠ .cell v
  hok : HOk X.prog X.w H s.heap
  len : σ.length = X.N.length
section
variable {X : Cx} {pins : List (Addr × Obj)} {σ : List (Option V)} {H H' : Hp} {s : Shared} {h' : Heap}
theorem Cx.Ok.nofr (ok : X.Ok) {b : Addr} {o : Obj} (e : X.base.get? b = some o) : b ∉ X.fs := fun hb => by
  have := (ok.funs.mem hb).1
  rw [e] at this; cases this
theorem Inv.bs (I : Inv X pins σ H s) : ∀ b o, X.base.get? b = some o → s.heap.get? b = some o ∧ H b = none := fun b o e =>
  ⟨I.base.keep b o (I.ok.bs b o e).1 (I.ok.bs b o e).2 (I.ok.nofr e) (I.ok.noex b o e), I.base.free b o (I.ok.bs b o e).1 (I.ok.bs b o e).2 (I.ok.noex b o e)⟩
theorem Inv.bk (I : Inv X pins σ H s) : ∀ b o, X.base.get? b = some o → s.heap.get? b = some o := fun b o e => (I.bs b o e).1
theorem Inv.mod (I : Inv X pins σ H s) : Mod X.K X.mg X.base := I.ok.mod
theorem Inv.kIn (I : Inv X pins σ H s) : X.K.In s.heap := I.ok.mod.kin.keeps I.bk
theorem Inv.nolimit (I : Inv X pins σ H s) : s.heap.NoLimit := I.ok.mod.nolimit.keeps I.bk
theorem Inv.fr (I : Inv X pins σ H s) : ∃ m, Fr X.base X.env.locals s.heap m :=
  let ⟨m, hn, _⟩ := I.loc
  ⟨m, hn, I.bk, Nat.le_trans I.ok.bsz I.ok.above⟩
theorem Inv.lt (I : Inv X pins σ H s) : X.env.locals < s.heap.objs.size := let ⟨_, hn, _⟩ := I.loc; hn.lt
theorem Inv.sz (I : Inv X pins σ H s) : X.s_0.heap.objs.size ≤ s.heap.objs.size := Nat.le_trans I.ok.above (Nat.le_of_lt I.lt)
theorem Inv.nofs (I : Inv X pins σ H s) {a : Addr} (h : s.heap.objs.size ≤ a) : a ∉ X.fs := fun hb => by
  obtain ⟨_, o, ho, _⟩ := I.ok.funs.mem hb
  exact absurd (Nat.lt_of_lt_of_le (Heap.lt_size ho) (Nat.le_trans I.sz h)) (Nat.lt_irrefl _)
theorem Inv.cne (I : Inv X pins σ H s) : ∀ x c, X.env.cells.lookup x = some c → c ≠ X.env.locals := fun x c e z => by
  obtain ⟨v, o, ho, hd⟩ := I.cell x c e
  obtain ⟨m, ⟨o', es, ep, ho', hd', _⟩, _⟩ := I.loc
  rw [z, ho'] at ho; cases ho; rw [hd'] at hd; cases hd
theorem Inv.funs (I : Inv X pins σ H s) : s.heap.FunFrames X.base X.outer := by
  have all : ∀ (l : List Env), (∀ b ∈ frs l, b ∈ X.fs) → X.s_0.heap.FunFrames X.base l → s.heap.FunFrames X.base l := by
    intro l
    induction l with
    | nil => intro _ _; trivial
    | cons env r ih =>
      intro hs hl
      obtain ⟨hk, ⟨L, o, hf, hn, ho, hd⟩, hr⟩ := hl
      have hL : L ∈ X.fs := hs L (by unfold frs; rw [List.filterMap_cons, hf]; exact List.mem_cons_self)
      obtain ⟨sl, e⟩ := I.base.slot L o ho (I.ok.frf L hL) hL fun z => I.ok.exfs L z hL
      exact ⟨hk, ⟨L, _, hf, hn, e, hd⟩, ih (fun b hb => hs b (by unfold frs; rw [List.filterMap_cons, hf]; exact List.mem_cons_of_mem _ hb)) hr⟩
  exact all X.outer (fun _ hb => hb) I.ok.funs
theorem Inv.stack (I : Inv X pins σ H s) : s.heap.FunFrames X.base X.stack := by
  rcases I.ok.stk with e | ⟨e, hf⟩
  · rw [e]; exact I.funs
  · rw [e]
    obtain ⟨m, hn, _⟩ := I.loc
    refine .cons (by rw [I.ok.kind]; decide) hf hn ?_ I.funs
    exact Heap.get?_none_of_le (Nat.le_trans I.ok.bsz I.ok.above)
theorem Inv.stkSub (I : Inv X pins σ H s) : ∀ b ∈ frs X.stack, b ∈ X.env.locals :: X.fs := fun b hb => by
  rcases I.ok.stk with e | ⟨e, hf⟩
  · rw [e] at hb; exact List.mem_cons_of_mem _ hb
  · rw [e] at hb
    unfold frs at hb
    rw [List.filterMap_cons, hf] at hb
    exact hb
theorem Inv.stkFree (I : Inv X pins σ H s) : ∀ b ∈ frs X.stack, H b = none := fun b hb => by
  rcases List.mem_cons.mp (I.stkSub b hb) with e | hb
  · rw [e]; exact I.free
  · obtain ⟨_, o, ho, _⟩ := I.ok.funs.mem hb
    exact I.base.free b o ho (I.ok.frf b hb) fun z => I.ok.exfs b z hb
theorem Inv.step {g' : Array GenState} {t' : Nat} {d' : Drawn} {ch : List Addr} (I : Inv X pins σ H s)
    (hch : ∀ b ∈ ch, (b ∈ X.ex ∨ X.s_0.heap.objs.size ≤ b) ∧ b ≠ X.env.locals ∧ (∀ x c, X.env.cells.lookup x = some c → c ≠ b) ∧ ∀ p ∈ X.pn ++ pins, p.1 ≠ b)
    (keep : ∀ b o, b ≠ X.env.locals → b ∉ X.fs → b ∉ ch → s.heap.get? b = some o → H b = none → h'.get? b = some o)
    (slot : ∀ b o, b ≠ X.env.locals → b ∈ X.fs → b ∉ ch → s.heap.get? b = some o → H b = none → ∃ sl, h'.get? b = some { o with slots := sl }) (free : ∀ b o, b ∉ ch → s.heap.get? b = some o → H b = none → H' b = none)
    (there : ∀ b o, b ∉ ch → s.heap.get? b = some o → ∃ o', h'.get? b = some o')
    (tups : ∀ b xs, H b = some (.tup xs) → H' b = some (.tup xs)) (frzs : ∀ b o u, H b = some (.frz o u) → H' b = some (.frz o u)) (tbls : ∀ b ps, H b = some (.tbl ps) → ∃ more, H' b = some (.tbl (ps ++ more)))
    (ns : ∀ m, s.heap.Ns X.env.locals m → h'.Ns X.env.locals m) (hok : HOk X.prog X.w H' h') (hg : GB s.gens g') :
    Inv X pins σ H' { s with heap := h', gens := g', drawn := d', toks := t' } := by
  have neL : ∀ b o, X.s_0.heap.get? b = some o → b ≠ X.env.locals := fun b o e => Nat.ne_of_lt (Nat.lt_of_lt_of_le (Heap.lt_size e) I.ok.above)
  have neC : ∀ b o, X.s_0.heap.get? b = some o → b ∉ X.ex → b ∉ ch := fun b o e hx hb => by
    rcases (hch b hb).1 with z | z
    · exact hx z
    · exact absurd (Nat.lt_of_lt_of_le (Heap.lt_size e) z) (Nat.lt_irrefl _)
  have cellK : ∀ x c, X.env.cells.lookup x = some c → ∀ v, s.heap.IsCell c v → h'.IsCell c v := fun x c e v ⟨o, ho, hd⟩ => by
    have nch : c ∉ ch := fun z => (hch c z).2.2.1 x c e rfl
    by_cases hc : c ∈ X.fs
    · obtain ⟨sl, q⟩ := slot c o (I.cne x c e) hc nch ho (I.freeC x c e)
      exact ⟨_, q, hd⟩
    · exact ⟨o, keep c o (I.cne x c e) hc nch ho (I.freeC x c e), hd⟩
  refine ⟨I.ok, I.os, I.bare.trans hg, ⟨fun b o e n hb hx => ?_, fun b o e n hb hx => ?_, fun b o e n hx => ?_, fun b o e hx => ?_, fun b xs e => tups b xs (I.base.tups b xs e), fun b o xs e => frzs b o xs (I.base.frzs b o xs e), fun b ps e => ?_⟩, ?_, fun x c e => ?_, ?_, fun x c e => ?_, fun p hp => ?_, hok, I.len⟩
  · exact keep b o (neL b o e) hb (neC b o e hx) (I.base.keep b o e n hb hx) (I.base.free b o e n hx)
  · obtain ⟨sl, e1⟩ := I.base.slot b o e n hb hx
    obtain ⟨sl', e2⟩ := slot b _ (neL b o e) hb (neC b o e hx) e1 (I.base.free b o e n hx)
    exact ⟨sl', e2⟩
  · obtain ⟨o', e1⟩ := I.base.there b o e hx
    exact free b o' (neC b o e hx) e1 (I.base.free b o e n hx)
  · obtain ⟨o', e1⟩ := I.base.there b o e hx
    exact there b o' (neC b o e hx) e1
  · obtain ⟨m1, e1⟩ := I.base.tbls b ps e
    obtain ⟨m2, e2⟩ := tbls b _ e1
    exact ⟨m1 ++ m2, by rw [e2, Array.append_assoc]⟩
  · obtain ⟨m, hn, hl⟩ := I.loc
    refine ⟨m, ns m hn, fun i x v e1 e2 e3 => ?_⟩
    obtain ⟨u, r, l⟩ := hl i x v e1 e2 e3
    refine ⟨u, r, ?_⟩
    rcases l with l | ⟨k, c, e, z⟩
    · exact .inl l
    · exact .inr ⟨k, c, e, cellK x c e _ z⟩
  · obtain ⟨v, z⟩ := I.cell x c e
    exact ⟨v, cellK x c e v z⟩
  · obtain ⟨m, ⟨o, _, _, ho, _⟩, _⟩ := I.loc
    exact free _ o (fun z => (hch _ z).2.1 rfl) ho I.free
  · obtain ⟨v, o, ho, hd⟩ := I.cell x c e
    exact free c o (fun z => (hch c z).2.2.1 x c e rfl) ho (I.freeC x c e)
  · obtain ⟨e, n, ne, nf, d⟩ := I.pin p hp
    have nch : p.1 ∉ ch := fun z => (hch p.1 z).2.2.2 p hp rfl
    exact ⟨keep p.1 p.2 ne nf nch e n, free p.1 p.2 nch e n, ne, nf, d⟩
theorem Inv.un {t' : Nat} (I : Inv X pins σ H s) (u : Un X.fs [] H H' s.heap h') (hok : HOk X.prog X.w H' h') : Inv X pins σ H' { s with heap := h', toks := t' } := by
  obtain ⟨m, ⟨o, es, ep, ho, r⟩, _⟩ := id I.loc
  obtain ⟨sl, hL⟩ := u.any ho I.free (by simp)
  exact I.step (g' := s.gens) (d' := s.drawn) (ch := []) (fun _ z => nomatch z) (fun b o _ hb _ e n => u.keep b o e n hb (by simp)) (fun b o _ hb _ e n => u.slot b o e n hb (by simp)) (fun b o _ e n => u.free b o e n (by simp)) (fun b o _ e => u.there b o e (by simp)) u.tups u.frzs u.tbls (fun m' hm => by
    obtain ⟨o', es', ep', ho', r'⟩ := hm
    rw [ho] at ho'; cases ho'
    exact ⟨_, es', ep', hL, r'⟩) hok (.refl I.bare.all)
theorem Inv.call {g' : Array GenState} {t' : Nat} {d' : Drawn} {ch : List Addr} (I : Inv X pins σ H s) (u : Un (frs X.stack) ch H H' s.heap h') (hok : HOk X.prog X.w H' h') (hg : GB s.gens g')
    (hch : ∀ b ∈ ch, (b ∈ X.ex ∨ X.s_0.heap.objs.size ≤ b) ∧ b ≠ X.env.locals ∧ (∀ x c, X.env.cells.lookup x = some c → c ≠ b) ∧ ∀ p ∈ X.pn ++ pins, p.1 ≠ b) :
    Inv X pins σ H' { s with heap := h', gens := g', drawn := d', toks := t' } := by
  obtain ⟨m, ⟨o, es, ep, ho, r⟩, _⟩ := id I.loc
  obtain ⟨sl, hL⟩ := u.any ho I.free fun z => (hch _ z).2.1 rfl
  exact I.step (ch := ch) hch (fun b o hL hb hc e n => u.keep b o e n (fun z => (List.mem_cons.mp (I.stkSub b z)).elim hL hb) hc) (fun b o _ _ hc e n => u.any e n hc) (fun b o hc e n => u.free b o e n hc) (fun b o hc e => u.there b o e hc) u.tups u.frzs u.tbls (fun m' hm => by
    obtain ⟨o', es', ep', ho', r'⟩ := hm
    rw [ho] at ho'; cases ho'
    exact ⟨_, es', ep', hL, r'⟩) hok hg
theorem Inv.turned {t' : Nat} {it : Addr} (I : Inv X pins σ H s) (k : ∀ b o, b ≠ it → s.heap.get? b = some o → h'.get? b = some o) (hn : H it = none) (hL : it ≠ X.env.locals)
    (h1 : it ∈ X.ex ∨ X.s_0.heap.objs.size ≤ it) (h2 : ∀ x c, X.env.cells.lookup x = some c → c ≠ it) (h3 : ∀ p ∈ X.pn ++ pins, p.1 ≠ it) : Inv X pins σ H { s with heap := h', toks := t' } := by
  have nit : ∀ b u, H b = some u → b ≠ it := fun b u e z => by rw [z, hn] at e; cases e
  refine I.step (g' := s.gens) (d' := s.drawn) (ch := [it]) (fun b hb => ?_) (fun b o _ _ hc e _ => k b o (fun z => hc (by simp [z])) e) (fun b o _ _ hc e _ => ⟨o.slots, k b o (fun z => hc (by simp [z])) e⟩) (fun _ _ _ _ n => n)
    (fun b o hc e => ⟨o, k b o (fun z => hc (by simp [z])) e⟩) (fun _ _ e => e) (fun _ _ _ e => e) (fun b ps e => ⟨#[], by rw [e]; simp⟩) (fun m hm => ?_) (fun b u e => ?_) (.refl I.bare.all)
  · have e : b = it := by simpa using hb
    subst e
    exact ⟨h1, hL, h2, h3⟩
  · obtain ⟨o, es, ep, ho, r⟩ := hm
    exact ⟨o, es, ep, k _ o (Ne.symm hL) ho, r⟩
  · refine (I.hok b u e).stay (fun c v hc q => k c v ?_ q) (fun _ q => q) fun _ _ q => q
    rcases hc with z | z
    · rw [z]; exact nit b u e
    · exact nit c _ z
theorem Inv.tok (I : Inv X pins σ H s) (t : Nat) : Inv X pins σ H { s with toks := t } := I.un (h' := s.heap) (t' := t) Un.refl I.hok
theorem Inv.kept {t' : Nat} (I : Inv X pins σ H s) (k : ∀ b u, s.heap.get? b = some u → h'.get? b = some u) : Inv X pins σ H { s with heap := h', toks := t' } := I.un (Un.kept k) (I.hok.kept k)
theorem Inv.laid {a : Addr} {o : HO} {t' : Nat} (I : Inv X pins σ H s) (k : ∀ b u, s.heap.get? b = some u → h'.get? b = some u) (hp : s.heap.objs.size ≤ a) (new : ObjOk X.prog X.w (upd H a o) h' a o) :
    Inv X pins σ (upd H a o) { s with heap := h', toks := t' } := I.un (Un.laid k hp (I.hok.fresh hp)) (I.hok.laid k hp new)
theorem Inv.write {x e : Addr} {o : HO} {t' : Nat} (I : Inv X pins σ H s) (mu : Mut (H x)) (he : e = x ∨ H e = some (.own x)) (k : ∀ b u, b ≠ e → s.heap.get? b = some u → h'.get? b = some u) (heo : ∃ u, h'.get? e = some u)
    (new : ObjOk X.prog X.w (upd H x o) h' x o) : Inv X pins σ (upd H x o) { s with heap := h', toks := t' } := I.un (Un.write mu he k heo) (I.hok.write mu he k heo new)
theorem Inv.weak {σ' : List (Option V)} (I : Inv X pins σ H s) (hl : σ'.length = σ.length) (w : ∀ (i : Nat) v, σ'[i]? = some (some v) → σ[i]? = some (some v)) : Inv X pins σ' H s :=
  ⟨I.ok, I.os, I.bare, I.base, let ⟨m, hn, hl'⟩ := I.loc; ⟨m, hn, fun i x v e1 e2 e3 => hl' i x v e1 (w i v e2) e3⟩, I.cell, I.free, I.freeC, I.pin, I.hok, hl.trans I.len⟩
theorem Inv.pins_of {pins' : List (Addr × Obj)} (I : Inv X pins σ H s) (h : ∀ p ∈ pins', s.heap.get? p.1 = some p.2 ∧ H p.1 = none ∧ p.1 ≠ X.env.locals ∧ p.1 ∉ X.fs ∧ ∀ v, p.2.data ≠ .cell v) : Inv X pins' σ H s :=
  ⟨I.ok, I.os, I.bare, I.base, I.loc, I.cell, I.free, I.freeC, fun p hp => (List.mem_append.mp hp).elim (fun z => I.pin p (List.mem_append_left _ z)) (h p), I.hok, I.len⟩
theorem nodup_ix {N : List Str} (hN : N.Nodup) {i j : Nat} {x : Str} (a : N[i]? = some x) (b : N[j]? = some x) : i = j := by
  obtain ⟨h1, e1⟩ := List.getElem?_eq_some_iff.mp a
  obtain ⟨h2, e2⟩ := List.getElem?_eq_some_iff.mp b
  exact (List.getElem_inj hN).mp (e1.trans e2.symm)
theorem store_ok2 {M : Model} {A : Around} {E : Value → Shared → Prop} {i : Nat} {x : Str} {v : V} {u : Value} {Q : Unit → Shared → Prop} (I : Inv X pins σ H s) (hN : X.N.Nodup) (hi : X.N[i]? = some x) (hx : Loc X.env.scope x) (r : RelV v u)
    (h : ∀ s', Inv X pins (σ.set i (some v)) H s' → (∃ a, Heap.SameBut a s.heap s'.heap ∧ (a = X.env.locals ∨ X.env.cells.lookup x = some a)) → Q () s') (hf : X.fn x = true ∨ X.env.scope.names.lookup x = some .local := by first | exact .inl rfl | exact .inr rfl | assumption) : wpAny M A (storeName X.env x u) Q E s := by
  obtain ⟨m, hn, hl⟩ := id I.loc
  have hcls : (X.env.scope.kind == .class || (X.env.scope.kind == .module && X.env.locals != X.env.globals)) = false := by rw [I.ok.kind]; rfl
  have hiσ : i < σ.length := by rw [I.len]; exact (List.getElem?_eq_some_iff.mp hi).1
  have cne := I.cne
  have tracked : ∀ {a : Addr} {h' : Heap}, (∃ o, s.heap.get? a = some o ∧ H a = none) → Heap.SameBut a s.heap h' → HOk X.prog X.w H h' := fun {a h'} ha hs b ob e => by
    obtain ⟨_, _, hfree⟩ := ha
    refine (I.hok b ob e).stay (fun c w' hc q => (hs.2 c ?_).trans q) (fun _ q => q) fun _ _ q => q
    rintro rfl
    rcases hc with rfl | hc
    · rw [hfree] at e; cases e
    · rw [hfree] at hc; cases hc
  rcases hx with hk | hk
  · refine wpAny_storeName_local hk hn (fun h' hn' hs => ?_) hcls
    obtain ⟨oL, _, _, hoL, _⟩ := id hn
    refine h _ ⟨I.ok, I.os, I.bare, ⟨fun b o e n hb hx => ?_, fun b o e n hb hx => ?_, I.base.free, fun b o e hx => ?_, I.base.tups, I.base.frzs, I.base.tbls⟩, ⟨_, hn', fun j y v' e1 e2 e3 => ?_⟩, fun y c e => ?_, I.free, I.freeC, fun p hp => ?_, tracked ⟨oL, hoL, I.free⟩ hs, by simpa using I.len⟩ ⟨_, hs, .inl rfl⟩
    · exact (hs.2 b (Nat.ne_of_lt (Nat.lt_of_lt_of_le (Heap.lt_size e) I.ok.above))).trans (I.base.keep b o e n hb hx)
    · obtain ⟨sl, e1⟩ := I.base.slot b o e n hb hx
      exact ⟨sl, (hs.2 b (Nat.ne_of_lt (Nat.lt_of_lt_of_le (Heap.lt_size e) I.ok.above))).trans e1⟩
    · obtain ⟨o', e1⟩ := I.base.there b o e hx
      exact ⟨o', (hs.2 b (Nat.ne_of_lt (Nat.lt_of_lt_of_le (Heap.lt_size e) I.ok.above))).trans e1⟩
    · by_cases hj : j = i
      · subst hj
        rw [hi] at e1; cases e1
        rw [List.getElem?_set_self hiσ] at e2
        cases e2
        exact ⟨u, r, .inl ⟨hk, by simp⟩⟩
      · rw [List.getElem?_set_ne (Ne.symm hj)] at e2
        obtain ⟨u', r', q⟩ := hl j y v' e1 e2 e3
        refine ⟨u', r', ?_⟩
        rcases q with ⟨k, e⟩ | ⟨k, c, e, z⟩
        · refine .inl ⟨k, ?_⟩
          have : y ≠ x := fun e => hj (nodup_ix hN e1 (e ▸ hi))
          simp [this, e]
        · exact .inr ⟨k, c, e, z.sameBut hs (cne y c e)⟩
    · obtain ⟨w', z⟩ := I.cell y c e
      exact ⟨w', z.sameBut hs (cne y c e)⟩
    · obtain ⟨e, n, ne, nf, d⟩ := I.pin p hp
      exact ⟨(hs.2 p.1 ne).trans e, n, ne, nf, d⟩
  · have hfn : X.fn x = true := by
      rcases hf with z | z
      · exact z
      · rw [z] at hk; cases hk
    obtain ⟨c, hc⟩ := I.ok.has x (.inl hk)
    obtain ⟨w', z⟩ := I.cell x c hc
    refine wpAny_storeName_cell I.ok.kind hk hc z (fun h' hc' hs => ?_)
    obtain ⟨oc, hoc, hocd⟩ := id z
    refine h { s with heap := h' } ⟨I.ok, I.os, I.bare, ⟨fun b o e n hb hx => ?_, fun b o e n hb hx => ?_, I.base.free, fun b o e hx => ?_, I.base.tups, I.base.frzs, I.base.tbls⟩, ⟨m, hn.sameBut hs (Ne.symm (cne x c hc)), fun j y v' e1 e2 e3 => ?_⟩, fun y c' e => ?_, I.free, I.freeC, fun p hp => ?_, tracked ⟨oc, hoc, I.freeC x c hc⟩ hs, by simpa using I.len⟩ ⟨c, hs, .inr hc⟩
    · exact (hs.2 b (Nat.ne_of_lt (Nat.lt_of_lt_of_le (Heap.lt_size e) (I.ok.cab x c hfn hc)))).trans (I.base.keep b o e n hb hx)
    · obtain ⟨sl, e1⟩ := I.base.slot b o e n hb hx
      exact ⟨sl, (hs.2 b (Nat.ne_of_lt (Nat.lt_of_lt_of_le (Heap.lt_size e) (I.ok.cab x c hfn hc)))).trans e1⟩
    · obtain ⟨o', e1⟩ := I.base.there b o e hx
      exact ⟨o', (hs.2 b (Nat.ne_of_lt (Nat.lt_of_lt_of_le (Heap.lt_size e) (I.ok.cab x c hfn hc)))).trans e1⟩
    · by_cases hj : j = i
      · subst hj
        rw [hi] at e1; cases e1
        rw [List.getElem?_set_self hiσ] at e2
        cases e2
        exact ⟨u, r, .inr ⟨.inl hk, c, hc, hc'⟩⟩
      · rw [List.getElem?_set_ne (Ne.symm hj)] at e2
        obtain ⟨u', r', q⟩ := hl j y v' e1 e2 e3
        refine ⟨u', r', ?_⟩
        rcases q with q | ⟨k, c', e, z'⟩
        · exact .inl q
        · refine .inr ⟨k, c', e, z'.sameBut hs ?_⟩
          rintro rfl
          exact hj (nodup_ix hN e1 (I.ok.inj _ _ _ e hc ▸ hi))
    · by_cases hcc : c' = c
      · subst hcc; exact ⟨_, hc'⟩
      · obtain ⟨w2, z2⟩ := I.cell y c' e
        exact ⟨w2, z2.sameBut hs hcc⟩
    · obtain ⟨e, n, ne, nf, d⟩ := I.pin p hp
      refine ⟨(hs.2 p.1 ?_).trans e, n, ne, nf, d⟩
      intro q
      rw [q, hoc] at e
      have q' : oc = p.2 := Option.some.inj e
      exact d w' (by rw [← q']; exact hocd)
theorem store_ok {M : Model} {A : Around} {E : Value → Shared → Prop} {i : Nat} {x : Str} {v : V} {u : Value} {Q : Unit → Shared → Prop} (I : Inv X pins σ H s) (hN : X.N.Nodup) (hi : X.N[i]? = some x) (hx : Loc X.env.scope x) (r : RelV v u)
    (h : ∀ s', Inv X pins (σ.set i (some v)) H s' → Q () s') (hf : X.fn x = true ∨ X.env.scope.names.lookup x = some .local := by first | exact .inl rfl | exact .inr rfl | assumption) : wpAny M A (storeName X.env x u) Q E s :=
  store_ok2 I hN hi hx r (fun s' I' _ => h s' I') hf
theorem Inv.call' {s' : Shared} {ch : List Addr} (I : Inv X pins σ H s) (ho : s'.os = s.os) (u : Un (frs X.stack) ch H H' s.heap s'.heap) (hok : HOk X.prog X.w H' s'.heap) (hg : GB s.gens s'.gens)
    (hch : ∀ b ∈ ch, (b ∈ X.ex ∨ X.s_0.heap.objs.size ≤ b) ∧ b ≠ X.env.locals ∧ (∀ x c, X.env.cells.lookup x = some c → c ≠ b) ∧ ∀ p ∈ X.pn ++ pins, p.1 ≠ b) : Inv X pins σ H' s' := by
  obtain ⟨h', g', d', t', o'⟩ := s'
  have e : o' = s.os := ho
  subst e
  exact I.call (g' := g') (t' := t') (d' := d') u hok hg hch
end
abbrev XK := Value → Option Addr → Hp → Prop
abbrev St := List (Option V)
abbrev VK := V → Hp → Prop
abbrev TE := St → Hp → VK → Prop
abbrev TT := St → Hp → (Bool → Hp → Prop) → Prop
abbrev TA := St → Hp → (List V → Hp → Prop) → Prop
structure Ends where
  nx : St → Hp → Prop
  rt : VK
  bk : St → Hp → Prop := fun _ _ => False
  ct : St → Hp → Prop := fun _ _ => False
abbrev TS := Ends → St → Hp → Prop
def EP (X : Cx) (pins : List (Addr × Obj)) (σ : St) (Q : VK) (u : Value) (s' : Shared) : Prop := ∃ v H', Inv X pins σ H' s' ∧ RelV v u ∧ Q v H'
def TP (X : Cx) (pins : List (Addr × Obj)) (σ : St) (Q : Bool → Hp → Prop) (b : Bool) (s' : Shared) : Prop := ∃ H', Inv X pins σ H' s' ∧ Q b H'
def AP (X : Cx) (pins : List (Addr × Obj)) (σ : St) (Q : List V → Hp → Prop) (us : List Value) (s' : Shared) : Prop := ∃ vs H', Inv X pins σ H' s' ∧ Vals vs us ∧ Q vs H'
def SP (X : Cx) (pins : List (Addr × Obj)) (D : Ends) (f : Flow) (s' : Shared) : Prop :=
  match f with
  | .next => ∃ σ' H', Inv X pins σ' H' s' ∧ D.nx σ' H'
  | .brk => ∃ σ' H', Inv X pins σ' H' s' ∧ D.bk σ' H'
  | .cont => ∃ σ' H', Inv X pins σ' H' s' ∧ D.ct σ' H'
  | .ret u => ∃ v σ' H', Inv X pins σ' H' s' ∧ RelV v u ∧ D.rt v H'
def PE (X : Cx) (e : Expr) (t : TE) : Prop :=
  ∀ (pins : List (Addr × Obj)) (s : Shared) (σ : St) (H : Hp) (Q : VK), Inv X pins σ H s → t σ H Q → wpAny (model X.prog X.w) X.A (eval e X.env) (EP X pins σ Q) X.xe s
def PT (X : Cx) (e : Expr) (t : TT) : Prop :=
  ∀ (pins : List (Addr × Obj)) (s : Shared) (σ : St) (H : Hp) (Q : Bool → Hp → Prop), Inv X pins σ H s → t σ H Q → wpAny (model X.prog X.w) X.A (isTrue e X.env (eval e X.env)) (TP X pins σ Q) X.xe s
def PW (X : Cx) (e : Expr) (t : TT) : Prop :=
  ∀ (whole : Sem Value) (pins : List (Addr × Obj)) (s : Shared) (σ : St) (H : Hp) (Q : Bool → Hp → Prop), Inv X pins σ H s → t σ H Q → wpAny (model X.prog X.w) X.A (isTrue e X.env whole) (TP X pins σ Q) X.xe s
theorem PW.pt {X : Cx} {e : Expr} {t : TT} (h : PW X e t) : PT X e t := h _
def PA (X : Cx) (es : List Expr) (t : TA) : Prop :=
  ∀ (pos : Pos) (pins : List (Addr × Obj)) (s : Shared) (σ : St) (H : Hp) (Q : List V → Hp → Prop), Inv X pins σ H s → t σ H Q → wpAny (model X.prog X.w) X.A (spliced (backTo pos (starEach es X.env))) (AP X pins σ Q) X.xe s
def PS (X : Cx) (st : Stmt) (t : TS) : Prop :=
  ∀ (pins : List (Addr × Obj)) (s : Shared) (σ : St) (H : Hp) (D : Ends), Inv X pins σ H s → t D σ H → wpAny (model X.prog X.w) X.A (exec st X.env) (SP X pins D) X.xe s
def PSs (X : Cx) (st : List Stmt) (t : TS) : Prop :=
  ∀ (pins : List (Addr × Obj)) (s : Shared) (σ : St) (H : Hp) (D : Ends), Inv X pins σ H s → t D σ H → wpAny (model X.prog X.w) X.A (execs st X.env) (SP X pins D) X.xe s
theorem thn {α : Type} {t : Sem α} {Q Q' : α → Shared → Prop} {M : Model} {A : Around} {E : Value → Shared → Prop} {s : Shared} (h : wpAny M A t Q E s) (hQ : ∀ a s, Q a s → Q' a s) : wpAny M A t Q' E s := wpAny_mono h hQ fun _ _ x => x
section
variable {X : Cx}
theorem bin {a b : Expr} {ta tb : TE} (ha : PE X a ta) (hb : PE X b tb) {pins : List (Addr × Obj)} {s : Shared} {σ : St} {H : Hp} {R : V → V → Hp → Prop} (I : Inv X pins σ H s) (h : ta σ H fun x H1 => tb σ H1 fun y H2 => R x y H2)
    {α : Type} {Q : α → Shared → Prop} {f : Value → Value → Sem α}
    (hf : ∀ v u s2 x y H2, Inv X pins σ H2 s2 → RelV x v → RelV y u → R x y H2 → wpAny (model X.prog X.w) X.A (f v u) Q X.xe s2) :
    wpAny (model X.prog X.w) X.A (eval a X.env) (fun v s₁ => wpAny (model X.prog X.w) X.A (eval b X.env) (fun u s₂ => wpAny (model X.prog X.w) X.A (f v u) Q X.xe s₂) X.xe s₁) X.xe s := by
  refine thn (ha pins s σ H _ I h) fun v s1 ⟨x, H1, I1, r1, q1⟩ => ?_
  refine thn (hb pins s1 σ H1 _ I1 q1) fun u s2 ⟨y, H2, I2, r2, q2⟩ => ?_
  exact hf v u s2 x y H2 I2 r1 r2 q2
def tVar (i : Nat) : TE := fun σ H Q => ∃ v, σ[i]? = some (some v) ∧ Q v H
def tC (v : V) : TE := fun _ H Q => Q v H
theorem pe_var {i : Nat} {x : Str} {pos : Pos} (hN : X.N[i]? = some x) (hv : Vis X.env.scope x) (hd : (x == ("__debug__" : Str)) = false := by decide) (hcd : (x == ("__classdict__" : Str)) = false := by decide) : PE X (.Name x pos) (tVar i) := by
  intro pins s σ H Q I h
  obtain ⟨v, e, h⟩ := h
  obtain ⟨m, hn, hl⟩ := I.loc
  obtain ⟨u, r, l⟩ := hl i x v hN e hv
  have fin : EP X pins σ Q u s := ⟨v, H, I, r, h⟩
  rcases l with ⟨hk, hm⟩ | ⟨hk, c, hc, hcell⟩
  · exact wpAny_Name (wpAny_loadName_local I.ok.kind hk hn hm fin) hd
  · rcases hk with hk | hk
    · exact wpAny_Name (wpAny_loadName_cell I.ok.kind hk hc hcell fin) hd
    · exact wpAny_Name (wpAny_loadName_free I.ok.kind hk hc hcell fin hcd) hd
theorem pe_int {i j pos} : PE X (.Constant (.int i) j pos) (tC (.int i)) := fun _ _ _ H _ I h => wpAny_Constant_int ⟨.int i, H, I.tok _, ⟨_, rfl⟩, h⟩
theorem pe_bl {b j pos} : PE X (.Constant (.bool b) j pos) (tC (.bl b)) := fun _ _ _ H _ I h => Constant_bool ⟨.bl b, H, I, rfl, h⟩
theorem pe_non {j pos} : PE X (.Constant .none j pos) (tC .non) := fun _ _ _ H _ I h => Constant_none ⟨.non, H, I, rfl, h⟩
theorem pe_str {x j pos} : PE X (.Constant (.str x) j pos) (tC (.str x)) := fun _ _ _ H _ I h => Calls.Constant_str ⟨.str x, H, I.tok _, ⟨_, rfl⟩, h⟩
def Gl (X : Cx) (x : Str) : Prop := X.env.kindOf x = some .globalImplicit
theorem ld_glob {E : Value → Shared → Prop} {pins : List (Addr × Obj)} {s : Shared} {σ : St} {H : Hp} {x : Str} {u : Value} {pos : Pos} {Q : Value → Shared → Prop} (I : Inv X pins σ H s) (hg : Gl X x) (hm : X.mg x = some u) (h : Q u s)
    (hd : (x == ("__debug__" : Str)) = false := by decide) : wpAny (model X.prog X.w) X.A (eval (.Name x pos) X.env) Q E s :=
  Calls.Name_function_global I.ok.kind hg (Calls.loadGlobal_global (by rw [I.ok.glob]; exact I.mod.glob.keeps I.bk) hm h) hd
theorem ld_blt {E : Value → Shared → Prop} {pins : List (Addr × Obj)} {s : Shared} {σ : St} {H : Hp} {x : Str} {u : Value} {pos : Pos} {Q : Value → Shared → Prop} (I : Inv X pins σ H s) (hg : Gl X x) (hm : X.mg x = none) (hv : bootBuiltins x = some u) (h : Q u s)
    (hn : x ≠ "__name__" := by decide) (hd : (x == ("__debug__" : Str)) = false := by decide) : wpAny (model X.prog X.w) X.A (eval (.Name x pos) X.env) Q E s := by
  obtain ⟨mb, h1, h2⟩ := I.mod.blt
  exact Calls.Name_function_global I.ok.kind hg (Calls.loadGlobal_builtin (by rw [I.ok.glob]; exact I.mod.glob.keeps I.bk) hm (by rw [I.ok.blt]; exact h1.keeps I.bk) ((h2 x hn).trans hv) h) hd
theorem pe_glob {x : Str} {v : V} {u : Value} {pos : Pos} (hg : Gl X x) (hm : X.mg x = some u) (r : RelV v u) (hd : (x == ("__debug__" : Str)) = false := by decide) : PE X (.Name x pos) (tC v) :=
  fun _ _ _ H _ I h => ld_glob I hg hm ⟨v, H, I, r, h⟩ hd
theorem pe_bltn {x : Str} {v : V} {u : Value} {pos : Pos} (hg : Gl X x) (hm : X.mg x = none) (hv : bootBuiltins x = some u) (r : RelV v u) (hn : x ≠ "__name__" := by decide) (hd : (x == ("__debug__" : Str)) = false := by decide) : PE X (.Name x pos) (tC v) :=
  fun _ _ _ H _ I h => ld_blt I hg hm hv ⟨v, H, I, r, h⟩ hn hd
variable {a b : Expr} {ta tb : TE} {pos : Pos}
def tB (t : TE) : TT := fun σ H Q => t σ H fun x H1 => ∃ c, x = .bl c ∧ Q c H1
variable {tA tB' : TT} {rest : List Expr}
def tOr (t u : TT) : TT := fun σ H Q => t σ H fun c H1 => if c = true then Q true H1 else u σ H1 Q
def tNot (t : TT) : TT := fun σ H Q => t σ H fun c H1 => Q (!c) H1
theorem pw_or1 (ha : PT X a tA) : PW X (.BoolOp .Or [a] pos) tA := by
  intro wh pins s σ H Q I h
  refine isTrue_or (thn (ha pins s σ H Q I h) fun c s1 e => ?_)
  cases c with
  | false => exact isTrue_or_nil e
  | true => exact e
theorem pw_or (ha : PT X a tA) (hb : PW X (.BoolOp .Or (b :: rest) pos) tB') : PW X (.BoolOp .Or (a :: b :: rest) pos) (tOr tA tB') := by
  intro wh pins s σ H Q I h
  refine isTrue_or (thn (ha pins s σ H _ I h) fun c s1 ⟨H1, I1, q1⟩ => ?_)
  cases c with
  | true => exact ⟨H1, I1, q1⟩
  | false => exact hb wh pins s1 σ H1 Q I1 q1
theorem pt_not (ha : PT X a tA) : PT X (.UnaryOp .Not a pos) (tNot tA) := by
  intro pins s σ H Q I h
  exact isTrue_not (ha pins s σ H (fun c H1 => Q (!c) H1) I h)
def tAndV (ta tb : TE) : TE := fun σ H Q => ta σ H fun x H1 => ∃ c, x = .bl c ∧ if c = true then tb σ H1 Q else Q (.bl false) H1
def tOrV (ta tb : TE) : TE := fun σ H Q => ta σ H fun x H1 => ∃ c, x = .bl c ∧ if c = true then Q (.bl true) H1 else tb σ H1 Q
def tNotV (ta : TE) : TE := fun σ H Q => ta σ H fun x H1 => ∃ c, x = .bl c ∧ Q (.bl (!c)) H1
theorem pe_one {op} {t : TE} (h : PE X a t) : PE X (.BoolOp op [a] pos) t := fun pins s σ H Q I hw => BoolOp_one (h pins s σ H Q I hw)
theorem pe_and (ha : PE X a ta) (hb : PE X (.BoolOp .And (b :: rest) pos) tb) : PE X (.BoolOp .And (a :: b :: rest) pos) (tAndV ta tb) := by
  intro pins s σ H Q I h
  refine BoolOp_and (thn (ha pins s σ H _ I h) fun v s1 ⟨x, H1, I1, r1, q1⟩ => ?_)
  obtain ⟨c, rfl, q1⟩ := q1
  cases r1
  refine wpAny_truthy_bool ?_
  cases c with
  | true => exact hb pins s1 σ H1 Q I1 q1
  | false => exact ⟨.bl false, H1, I1, rfl, q1⟩
theorem pe_or (ha : PE X a ta) (hb : PE X (.BoolOp .Or (b :: rest) pos) tb) : PE X (.BoolOp .Or (a :: b :: rest) pos) (tOrV ta tb) := by
  intro pins s σ H Q I h
  refine BoolOp_or (thn (ha pins s σ H _ I h) fun v s1 ⟨x, H1, I1, r1, q1⟩ => ?_)
  obtain ⟨c, rfl, q1⟩ := q1
  cases r1
  refine wpAny_truthy_bool ?_
  cases c with
  | false => exact hb pins s1 σ H1 Q I1 q1
  | true => exact ⟨.bl true, H1, I1, rfl, q1⟩
theorem pe_not (ha : PE X a ta) : PE X (.UnaryOp .Not a pos) (tNotV ta) := by
  intro pins s σ H Q I h
  refine UnaryOp_ (thn (ha pins s σ H _ I h) fun v s1 ⟨x, H1, I1, r1, q1⟩ => ?_)
  obtain ⟨c, rfl, q1⟩ := q1
  cases r1
  exact not_of (wpAny_truthy_bool ⟨.bl (!c), H1, I1, rfl, q1⟩)
def tIf (t : TT) (ta tb : TE) : TE := fun σ H Q => t σ H fun c H1 => if c = true then ta σ H1 Q else tb σ H1 Q
theorem pe_ifExp {c : Expr} (hc : PT X c tA) (ha : PE X a ta) (hb : PE X b tb) : PE X (.IfExp c a b pos) (tIf tA ta tb) := by
  intro pins s σ H Q I h
  refine wpAny_IfExp (thn (hc pins s σ H _ I h) fun d s1 ⟨H1, I1, q1⟩ => ?_)
  cases d with
  | true => exact ha pins s1 σ H1 Q I1 q1
  | false => exact hb pins s1 σ H1 Q I1 q1
end
def SqL (K : PySem.W.Frag) (H : Hp) (a : Addr) (xs : List V) : Prop :=
  Rd H a (.lst xs) ∨
    ∃ (o : Obj) (its : Array Value) (n : Nat), K.lookup a = some o ∧ o.cls = .type "list" ∧ o.dict = none ∧ o.data = .seq its n ∧ its.size ≤ sizeLine ∧ Vals xs its.toList
def SqT (K : PySem.W.Frag) (H : Hp) (a : Addr) (xs : List V) : Prop :=
  Rd H a (.tup xs) ∨
    ∃ (o : Obj) (its : Array Value) (n : Nat), K.lookup a = some o ∧ o.cls = .type "tuple" ∧ o.data = .seq its n ∧ its.size ≤ sizeLine ∧ Vals xs its.toList
def absV : Value → Option V
  | .none => some .non
  | .bool b => some (.bl b)
  | .int i _ => some (.int i)
  | .str x _ => some (.str x)
  | .bytes b _ => some (.byt b)
  | .float b _ => some (.flt b)
  | .ref a => some (.ref a)
  | .type n => some (.ty n)
  | _ => none
theorem RelV.abs {x : V} {u : Value} (r : RelV x u) : absV u = some x := by
  cases x with
  | non => cases r; rfl
  | bl _ => cases r; rfl
  | int _ => obtain ⟨t, rfl⟩ := r; rfl
  | str _ => obtain ⟨t, rfl⟩ := r; rfl
  | byt _ => obtain ⟨t, rfl⟩ := r; rfl
  | flt _ => obtain ⟨t, rfl⟩ := r; rfl
  | ref _ => cases r; rfl
  | ty _ => cases r; rfl
theorem RelV.inj {x y : V} {u : Value} (r : RelV x u) (q : RelV y u) : x = y := Option.some.inj (r.abs.symm.trans q.abs)
theorem Vals.inj : ∀ {xs ys : List V} {us : List Value}, Vals xs us → Vals ys us → xs = ys
  | _, _, _, .nil, .nil => rfl
  | _, _, _, .cons r t, .cons r' t' => by rw [r.inj r', Vals.inj t t']
section
variable {X : Cx} {pins : List (Addr × Obj)} {σ : St} {H : Hp} {s : Shared} {a : Addr} {xs ys : List V}
theorem SqL.of {K : PySem.W.Frag} (h : H a = some (.lst xs)) : SqL K H a xs := .inl (.inl h)
theorem Inv.list (I : Inv X pins σ H s) (h : SqL X.K H a xs) : ∃ its : List Value, Vals xs its ∧ PlainL s.heap a its.toArray ∧ xs.length ≤ sizeLine := by
  rcases h with h | ⟨o, its, n, hk, hc, hd, hs, hz, r⟩
  · obtain ⟨z, its, n, r, e⟩ := h.ok I.hok
    exact ⟨its, r, ⟨_, n, e, rfl, rfl, rfl⟩, z⟩
  · refine ⟨its.toList, r, ⟨o, n, I.kIn a o hk, hc, hd, by simpa using hs⟩, ?_⟩
    have e := r.length
    simp only [Array.length_toList] at e
    omega
theorem Inv.tuple (I : Inv X pins σ H s) (h : SqT X.K H a xs) : ∃ its : List Value, Vals xs its ∧ IsTup s.heap a its.toArray ∧ xs.length ≤ sizeLine := by
  rcases h with h | ⟨o, its, n, hk, hc, hs, hz, r⟩
  · obtain ⟨z, its, r, p⟩ := h.ok I.hok
    exact ⟨its, r, p, z⟩
  · refine ⟨its.toList, r, ⟨o, I.kIn a o hk, hc, n, by simpa using hs⟩, ?_⟩
    have e := r.length
    simp only [Array.length_toList] at e
    omega
theorem Inv.list_inj (I : Inv X pins σ H s) (h : SqL X.K H a xs) (h' : SqL X.K H a ys) : xs = ys := by
  obtain ⟨its, r, ⟨o, n, e, _, _, d⟩, _⟩ := I.list h
  obtain ⟨its', r', ⟨o', n', e', _, _, d'⟩, _⟩ := I.list h'
  rw [e] at e'; cases e'
  rw [d] at d'
  injection d' with d1 _
  have : its = its' := by simpa using congrArg Array.toList d1
  subst this
  exact r.inj r'
theorem Inv.tuple_inj (I : Inv X pins σ H s) (h : SqT X.K H a xs) (h' : SqT X.K H a ys) : xs = ys := by
  obtain ⟨its, r, ⟨o, e, _, n, d⟩, _⟩ := I.tuple h
  obtain ⟨its', r', ⟨o', e', _, n', d'⟩, _⟩ := I.tuple h'
  rw [e] at e'; cases e'
  rw [d] at d'
  injection d' with d1 _
  have : its = its' := by simpa using congrArg Array.toList d1
  subst this
  exact r.inj r'
end
abbrev Cx.wish (X : Cx) (E : Value → Shared → Prop) : Cx := { X with xe := E }
abbrev Cx.nox (X : Cx) : Cx := X.wish fun _ _ => False
theorem Cx.Ok.wish {X : Cx} (ok : X.Ok) (E : Value → Shared → Prop) : (X.wish E).Ok :=
  ⟨ok.mod, ok.kind, ok.glob, ok.blt, ok.above, ok.inj, ok.has, ok.cab, ok.hd, ok.frames, ok.stk, ok.exf, ok.bs, ok.bsz, ok.noex, ok.exfs, ok.funs, ok.frf⟩
theorem Cx.Ok.unwish {X : Cx} {E : Value → Shared → Prop} (ok : (X.wish E).Ok) : X.Ok :=
  ⟨ok.mod, ok.kind, ok.glob, ok.blt, ok.above, ok.inj, ok.has, ok.cab, ok.hd, ok.frames, ok.stk, ok.exf, ok.bs, ok.bsz, ok.noex, ok.exfs, ok.funs, ok.frf⟩
section
variable {X : Cx} {pins : List (Addr × Obj)} {σ : St} {H : Hp} {s : Shared} {E : Value → Shared → Prop}
theorem Inv.wish (I : Inv X pins σ H s) (E : Value → Shared → Prop) : Inv (X.wish E) pins σ H s := ⟨I.ok.wish E, I.os, I.bare, I.base, I.loc, I.cell, I.free, I.freeC, I.pin, I.hok, I.len⟩
theorem Inv.unwish (I : Inv (X.wish E) pins σ H s) : Inv X pins σ H s := ⟨I.ok.unwish, I.os, I.bare, I.base, I.loc, I.cell, I.free, I.freeC, I.pin, I.hok, I.len⟩
theorem SP.unwish {D : Ends} {f : Flow} {s' : Shared} (h : SP (X.wish E) pins D f s') : SP X pins D f s' := by
  cases f with
  | next => obtain ⟨σ', H', I, q⟩ := h; exact ⟨σ', H', I.unwish, q⟩
  | brk => obtain ⟨σ', H', I, q⟩ := h; exact ⟨σ', H', I.unwish, q⟩
  | cont => obtain ⟨σ', H', I, q⟩ := h; exact ⟨σ', H', I.unwish, q⟩
  | ret u => obtain ⟨v, σ', H', I, r, q⟩ := h; exact ⟨v, σ', H', I.unwish, r, q⟩
theorem PE.nox {e : Expr} {t : TE} (h : PE X.nox e t) : PE X e t := fun pins s σ H Q I hw =>
  wpAny_mono (h pins s σ H Q (I.wish _) hw) (fun _ _ ⟨v, H', I', r, q⟩ => ⟨v, H', I'.unwish, r, q⟩) fun _ _ z => False.elim z
theorem PT.nox {e : Expr} {t : TT} (h : PT X.nox e t) : PT X e t := fun pins s σ H Q I hw =>
  wpAny_mono (h pins s σ H Q (I.wish _) hw) (fun _ _ ⟨H', I', q⟩ => ⟨H', I'.unwish, q⟩) fun _ _ z => False.elim z
theorem PSs.nox {st : List Stmt} {t : TS} (h : PSs X.nox st t) : PSs X st t := fun pins s σ H D I hw =>
  wpAny_mono (h pins s σ H D (I.wish _) hw) (fun _ _ q => q.unwish) fun _ _ z => False.elim z
end
section
variable {X : Cx} {st : Stmt} {rest : List Stmt} {t u : TS} {e : Expr} {te : TE} {pos : Pos}
def tNext : TS := fun D σ H => D.nx σ H
def tSeq (t u : TS) : TS := fun D σ H => t { D with nx := u D } σ H
theorem pss_nil : PSs X [] tNext := fun _ _ σ H _ I h => wpAny_execs_nil ⟨σ, H, I, h⟩
theorem pss_cons (h1 : PS X st t) (h2 : PSs X rest u) : PSs X (st :: rest) (tSeq t u) := by
  intro pins s σ H D I h
  refine wpAny_execs_cons (thn (h1 pins s σ H { D with nx := u D } I h) fun f s1 q => ?_)
  cases f with
  | next =>
    obtain ⟨σ', H', I', q⟩ := q
    exact h2 pins s1 σ' H' D I' q
  | ret v => exact q
  | brk => exact q
  | cont => exact q
theorem pss_one (h1 : PS X st t) : PSs X [st] t := by
  intro pins s σ H D I h
  refine wpAny_execs_cons (thn (h1 pins s σ H D I h) fun f s1 q => ?_)
  cases f with
  | next => exact wpAny_execs_nil q
  | ret v => exact q
  | brk => exact q
  | cont => exact q
theorem Inv.quiet {pins : List (Addr × Obj)} {σ : St} {H : Hp} {s : Shared} (I : Inv X pins σ H s) : interactive X.env = false := by simp [interactive, I.ok.kind]
def tDrop (te : TE) : TS := fun D σ H => te σ H fun _ H1 => D.nx σ H1
theorem ps_expr (he : PE X e te) (hs : swapsWith e none pos.line X.env = pure false := by rfl) : PS X (.Expr e pos) (tDrop te) := by
  intro pins s σ H D I h
  exact wpAny_Expr_any (thn (he pins s σ H _ I h) fun v s1 ⟨x, H1, I1, r1, q1⟩ => ⟨σ, H1, I1, q1⟩) I.quiet hs
def tRet (te : TE) : TS := fun D σ H => te σ H D.rt
theorem ps_ret (he : PE X e te) : PS X (.Return (some e) pos) (tRet te) := by
  intro pins s σ H D I h
  exact wpAny_Return_some (thn (he pins s σ H _ I h) fun v s1 ⟨x, H1, I1, r1, q1⟩ => ⟨x, σ, H1, I1, r1, q1⟩)
def tIfS (c : TT) (t u : TS) : TS := fun D σ H => c σ H fun b H1 => if b = true then t D σ H1 else u D σ H1
theorem ps_if {c : Expr} {a b : List Stmt} {tc : TT} (hc : PT X c tc) (ha : PSs X a t) (hb : PSs X b u) : PS X (.If c a b pos) (tIfS tc t u) := by
  intro pins s σ H D I h
  refine wpAny_If (thn (hc pins s σ H _ I h) fun d s1 ⟨H1, I1, q1⟩ => ?_)
  cases d with
  | true => exact ha pins s1 σ H1 D I1 q1
  | false => exact hb pins s1 σ H1 D I1 q1
def tNever : TS := fun _ _ _ => False
theorem ps_never : PS X st tNever := fun _ _ _ _ _ _ h => h.elim
end
abbrev TG := V → St → Hp → (St → Hp → Prop) → Prop
abbrev TGs := List V → St → Hp → (St → Hp → Prop) → Prop
def PG (X : Cx) (target : Expr) (t : TG) : Prop :=
  ∀ (pins : List (Addr × Obj)) (s : Shared) (σ : St) (H : Hp) (v : V) (u : Value) (Q : St → Hp → Prop), Inv X pins σ H s → RelV v u → t v σ H Q →
    wpAny (model X.prog X.w) X.A (assign target X.env u) (fun _ s' => ∃ σ' H', Inv X pins σ' H' s' ∧ Q σ' H') X.xe s
def PGs (X : Cx) (ts : List Expr) (t : TGs) : Prop :=
  ∀ (pins : List (Addr × Obj)) (s : Shared) (σ : St) (H : Hp) (vs : List V) (us : List Value) (Q : St → Hp → Prop), Inv X pins σ H s → Vals vs us → t vs σ H Q →
    wpAny (model X.prog X.w) X.A (assignInOrder ((assignEach ts X.env).map (·.2)) us) (fun _ s' => ∃ σ' H', Inv X pins σ' H' s' ∧ Q σ' H') X.xe s
abbrev TSet := V → V → V → Hp → (Hp → Prop) → Prop
def PSet (X : Cx) (t : TSet) : Prop :=
  ∀ (pins : List (Addr × Obj)) (s : Shared) (σ : St) (H : Hp) (o i v : V) (ov iv u : Value) (Q : Hp → Prop), Inv X pins σ H s → RelV o ov → RelV i iv → RelV v u → t o i v H Q →
    wpAny (model X.prog X.w) X.A (setItem ov iv u) (fun _ s' => ∃ H', Inv X pins σ H' s' ∧ Q H') X.xe s
section
variable {X : Cx} {pos : Pos}
def gName (i : Nat) : TG := fun v σ H Q => Q (σ.set i (some v)) H
theorem pg_name {i : Nat} {x : Str} (hN : X.N.Nodup) (hi : X.N[i]? = some x) (hx : Loc X.env.scope x) (hf : X.fn x = true ∨ X.env.scope.names.lookup x = some .local := by first | exact .inl rfl | exact .inr rfl | assumption) : PG X (.Name x pos) (gName i) := by
  intro pins s σ H v u Q I r h
  exact wpAny_assign_Name (store_ok I hN hi hx r (fun s' I' => ⟨_, H, I', h⟩) hf)
def gNil : TGs := fun vs σ H Q => vs = [] ∧ Q σ H
def gCons (t : TG) (u : TGs) : TGs := fun vs σ H Q => ∃ v r, vs = v :: r ∧ t v σ H fun σ' H' => u r σ' H' Q
theorem pgs_nil : PGs X [] gNil := by
  intro pins s σ H vs us Q I r h
  obtain ⟨e, h⟩ := h
  subst e
  cases r
  exact assignInOrder_nil ⟨σ, H, I, h⟩
theorem pgs_cons {e : Expr} {es : List Expr} {t : TG} {u : TGs} (h1 : PG X e t) (h2 : PGs X es u)
    (hs : (assignEach (e :: es) X.env).map (·.2) = assign e X.env :: (assignEach es X.env).map (·.2) := by rfl) : PGs X (e :: es) (gCons t u) := by
  intro pins s σ H vs us Q I r h
  obtain ⟨v, vr, e1, h⟩ := h
  subst e1
  cases r with
  | cons r rr =>
    rw [hs]
    refine assignInOrder_cons (thn (h1 pins s σ H _ _ _ I r h) fun _ s1 ⟨σ1, H1, I1, q1⟩ => ?_)
    exact h2 pins s1 σ1 H1 _ _ Q I1 rr q1
def gTup (K : PySem.W.Frag) (n : Nat) (t : TGs) : TG := fun v σ H Q => ∃ a xs, v = .ref a ∧ SqT K H a xs ∧ xs.length = n ∧ t xs σ H Q
theorem pg_tup {es : List Expr} {k : Nat} {t : TGs} {n : Nat} (hc : X.calm = true) (h : PGs X es t)
    (hn : (assignEach es X.env).length = n := by rfl) (hst : (assignEach es X.env).findIdx? (·.1) = none := by rfl) : PG X (.Tuple es k pos) (gTup X.K n t) := by
  intro pins s σ H v u Q I r hw
  obtain ⟨a, xs, e1, hq, hl, hw⟩ := hw
  subst e1
  cases r
  obtain ⟨its, rv, ht, hz⟩ := I.tuple hq
  refine assign_Tuple_tuple (I.ok.hd hc) ht (by simp [hn, ← hl, rv.length]) hst fun h' hx => ?_
  have I1 : Inv X pins σ H { s with heap := h' } := I.kept (t' := s.toks) fun b o e => hx b o (Nat.ne_of_lt (Heap.lt_size e)) e
  exact h pins _ σ H xs _ Q I1 (by simpa using rv) hw
def gSub (to ti : TE) (t : TSet) : TG := fun v σ H Q => to σ H fun o H1 => ti σ H1 fun i H2 => t o i v H2 fun H3 => Q σ H3
theorem pg_sub {o i : Expr} {to ti : TE} {t : TSet} (ho : PE X o to) (hi : PE X i ti) (hs : PSet X t)
    (ha : ∀ v, assign (.Subscript o i pos) X.env v = (do
      let ov ← holding [v] (eval o X.env)
      let iv ← holding [v, ov] (eval i X.env)
      standAt pos
      holding [v, ov, iv] (setItem ov iv v)
      release [v, ov, iv] []) := by intro _; rfl) : PG X (.Subscript o i pos) (gSub to ti t) := by
  intro pins s σ H v u Q I r h
  rw [ha]
  refine wpAny_bind (wpAny_holding (thn (ho pins s σ H _ I h) fun ov s1 ⟨x, H1, I1, r1, q1⟩ => ?_))
  refine wpAny_bind (wpAny_holding (thn (hi pins s1 σ H1 _ I1 q1) fun iv s2 ⟨y, H2, I2, r2, q2⟩ => ?_))
  refine wpAny_bind (wpAny_standAt (wpAny_bind (wpAny_holding (thn (hs pins s2 σ H2 x y v ov iv u _ I2 r1 r2 r q2) fun _ s3 ⟨H3, I3, q3⟩ => ?_))))
  exact wpAny_release ⟨σ, H3, I3, q3⟩
def tAsg (te : TE) (g : TG) : TS := fun D σ H => te σ H fun x H1 => g x σ H1 D.nx
theorem ps_asg {tg e : Expr} {te : TE} {g : TG} (he : PE X e te) (hg : PG X tg g) (hs : swapsWithSole [tg] e pos.line X.env = pure false := by rfl) (hw : swappedStores [tg] e X.env = pure none := by rfl)
    (h1 : (assignEach [tg] X.env).map (·.2) = [assign tg X.env] := by rfl) : PS X (.Assign [tg] e pos) (tAsg te g) := by
  intro pins s σ H D I h
  refine wpAny_Assign_stores (thn (he pins s σ H _ I h) fun v s1 ⟨x, H1, I1, r1, q1⟩ => ?_) hs hw
  rw [h1]
  exact thn (hg pins s1 σ H1 x v _ I1 r1 q1) fun _ s2 q => q
theorem ps_set {i : Nat} {x : Str} {e : Expr} {te : TE} {pos' : Pos} (hN : X.N.Nodup) (hi : X.N[i]? = some x) (hx : Loc X.env.scope x) (he : PE X e te) (hs : swapsWith e (some (.Name x pos')) pos.line X.env = pure false := by rfl) (hf : X.fn x = true ∨ X.env.scope.names.lookup x = some .local := by first | exact .inl rfl | exact .inr rfl | assumption) :
    PS X (.Assign [.Name x pos'] e pos) (tAsg te (gName i)) := by
  intro pins s σ H D I h
  refine wpAny_Assign_Name (thn (he pins s σ H _ I h) fun v s1 ⟨y, H1, I1, r1, q1⟩ => ?_) hs
  exact store_ok I1 hN hi hx r1 (fun s2 I2 => ⟨_, H1, I2, q1⟩) hf
end
section
variable {X : Cx} {pos : Pos}
def tWhile (c : TT) (tb : TS) : TS := fun D σ H => ∃ W : Nat → St → Hp → Prop, (∃ m, W m σ H) ∧ ∀ m σ H, W m σ H →
  c σ H fun b H1 => if b = true then ∃ N : St → Hp → Prop, (∀ σ' H', N σ' H' → ∃ m', m' < m ∧ W m' σ' H') ∧ tb { D with nx := N, ct := N, bk := D.nx } σ H1 else D.nx σ H1
theorem ps_while {c : Expr} {body : List Stmt} {tc : TT} {tb : TS} (hp : PassesOwn (model X.prog X.w) X.A X.env X.xe) (hc : PT X c tc) (hb : PSs X body tb) : PS X (.While c body [] pos) (tWhile tc tb) := by
  intro pins s σ H D I h
  obtain ⟨W, ⟨m0, w0⟩, turn⟩ := h
  refine wpAny_While (codeAny_whileLoop (fun n s' => ∃ σ' H', Inv X pins σ' H' s' ∧ W n σ' H') ?_ m0 ⟨σ, H, I, w0⟩)
  rintro n s1 ⟨σ1, H1, I1, w1⟩
  refine wpAny_passesOwn hp (thn (hc pins s1 σ1 H1 _ I1 (turn n σ1 H1 w1)) fun b s2 ⟨H2, I2, q2⟩ => ?_)
  cases b with
  | true =>
    obtain ⟨N, hN, q2⟩ := q2
    rw [if_pos rfl]
    refine wpAny_passesOwn hp (thn (hb pins s2 σ1 H2 _ I2 q2) fun f s3 q3 => ?_)
    cases f with
    | next =>
      obtain ⟨σ3, H3, I3, n3⟩ := q3
      obtain ⟨m', hm, w3⟩ := hN σ3 H3 n3
      exact ⟨m', hm, σ3, H3, I3, w3⟩
    | cont =>
      obtain ⟨σ3, H3, I3, n3⟩ := q3
      obtain ⟨m', hm, w3⟩ := hN σ3 H3 n3
      exact ⟨m', hm, σ3, H3, I3, w3⟩
    | brk => exact q3
    | ret v => exact q3
  | false =>
    rw [if_neg Bool.false_ne_true]
    exact wpAny_execs_nil ⟨σ1, H2, I2, q2⟩
end
structure It where
  go : Nat → Hp → Prop
  yld : Nat → Hp → V → Hp → Prop
  stop : Nat → Hp → Prop
def FpOk (X : Cx) (pins : List (Addr × Obj)) (H : Hp) (b : Addr) : Prop :=
  H b = none ∧ b ≠ X.env.locals ∧ b ∉ X.fs ∧ (b ∈ X.ex ∨ X.s_0.heap.objs.size ≤ b) ∧ (∀ x c, X.env.cells.lookup x = some c → c ≠ b) ∧ ∀ p ∈ X.pn ++ pins, p.1 ≠ b
theorem Inv.fpOk {X : Cx} {pins : List (Addr × Obj)} {σ : St} {H H' : Hp} {s : Shared} {b : Addr} (I : Inv X pins σ H s) (hb : s.heap.objs.size ≤ b) (hn : H' b = none) : FpOk X pins H' b := by
  refine ⟨hn, Nat.ne_of_gt (Nat.lt_of_lt_of_le I.lt hb), I.nofs hb, .inr (Nat.le_trans I.sz hb), fun x c e z => ?_, fun p hp z => ?_⟩
  · obtain ⟨v, q⟩ := I.cell x c e
    exact absurd (Nat.lt_of_lt_of_le q.lt (by rw [z]; exact hb)) (Nat.lt_irrefl _)
  · exact absurd (Nat.lt_of_lt_of_le (Heap.lt_size (I.pin p hp).1) (by rw [z]; exact hb)) (Nat.lt_irrefl _)
structure Turn (P : Program) (w : World) (K : PySem.W.Frag) (tg : Expr) (J : It) (fp : List Addr) (it : Addr) (tn : Nat → Heap → Prop) : Prop where
  mem : it ∈ fp
  obj : ∀ i h, tn i h → ∀ b ∈ fp, ∃ o, h.get? b = some o ∧ ∀ v, o.data ≠ .cell v
  keep : ∀ i h h', tn i h → (∀ b ∈ fp, ∀ o, h.get? b = some o → h'.get? b = some o) → tn i h'
  item : ∀ (X : Cx), X.prog = P → X.w = w → X.K = K → X.calm = true → ∀ (i : Nat) (pins : List (Addr × Obj)) (s : Shared) (σ : St) (H : Hp) (E : Value → Shared → Prop), Inv X pins σ H s → (∀ b ∈ fp, FpOk X pins H b) → tn i s.heap → J.go i H →
    wpAny (model P w) X.A (pyNext (.ref it)) (fun r s1 => ∃ u, r = some u ∧
      wpAny (model P w) X.A (letOwnedTupleGo tg (.ref it) u) (fun _ s2 => ∃ x H', Inv X pins σ H' s2 ∧ RelV x u ∧ J.yld i H x H' ∧ tn (i + 1) s2.heap ∧ ∀ b ∈ fp, H' b = none) E s1) E s
  done : ∀ (X : Cx), X.prog = P → X.w = w → X.K = K → X.calm = true → ∀ (i : Nat) (pins : List (Addr × Obj)) (s : Shared) (σ : St) (H : Hp) (E : Value → Shared → Prop), Inv X pins σ H s → (∀ b ∈ fp, FpOk X pins H b) → tn i s.heap → J.stop i H →
    wpAny (model P w) X.A (pyNext (.ref it)) (fun r s1 => r = none ∧ Inv X pins σ H s1) E s
  self : ∀ (A : Around) (i : Nat) (s : Shared) (Q : Value → Shared → Prop) (E : Value → Shared → Prop), tn i s.heap → Q (.ref it) s → wpAny (model P w) A (pyIter (.ref it)) Q E s
abbrev TI := St → Hp → (It → Hp → Prop) → Prop
def PIE (X : Cx) (pins : List (Addr × Obj)) (σ : St) (tg : Expr) (R : It → Hp → Prop) (itv : Value) (s2 : Shared) : Prop :=
  ∃ (it : Addr) (fp : List Addr) (tn : Nat → Heap → Prop) (J : It) (H' : Hp), itv = .ref it ∧ Inv X pins σ H' s2 ∧ Turn X.prog X.w X.K tg J fp it tn ∧ tn 0 s2.heap ∧ (∀ b ∈ fp, FpOk X pins H' b) ∧ R J H'
def PI (X : Cx) (tg iter : Expr) (wi : TI) : Prop :=
  ∀ (pins : List (Addr × Obj)) (s : Shared) (σ : St) (H : Hp) (R : It → Hp → Prop), Inv X pins σ H s → wi σ H R →
    wpAny (model X.prog X.w) X.A (eval iter X.env) (fun v s1 => wpAny (model X.prog X.w) X.A (pyIter v) (PIE X pins σ tg R) X.xe s1) X.xe s
theorem go_of {M : Model} {A : Around} {E : Value → Shared → Prop} {s : Shared} {tg : Expr} {it : Addr} {u : Value} {o : Obj} {n : String} {vs : Array Value} {Q : Unit → Shared → Prop} (ho : s.heap.get? it = some o) (hc : o.cls = .type n) (hd : o.data = .fields vs)
    (hn : ["enumerate", "zip", "dict_itemiterator", "dict_reverseitemiterator", "odict_iterator", "itertools.zip_longest", "itertools.pairwise"].contains n = false) (hQ : Q () s) : wpAny M A (letOwnedTupleGo tg (.ref it) u) Q E s := by
  unfold letOwnedTupleGo
  cases tg <;> first
    | exact wpAny_pure hQ
    | (cases u <;> first
        | exact wpAny_pure hQ
        | (refine wpAny_bind (wpAny_load ho ?_)
           rw [hc, hd]
           show wpAny M A (if (["enumerate", "zip", "dict_itemiterator", "dict_reverseitemiterator", "odict_iterator", "itertools.zip_longest", "itertools.pairwise"].contains n && vs[0]? == some (rawInt _)) = true then _ else _) Q E s
           rw [if_neg (by intro h; rw [hn, Bool.false_and] at h; cases h)]
           exact wpAny_pure hQ))
def Itl (K : PySem.W.Frag) (a : Addr) : It :=
  ⟨fun i H => ∃ xs x, SqL K H a xs ∧ xs[i]? = some x, fun i H x H' => H' = H ∧ ∀ xs, SqL K H a xs → xs[i]? = some x, fun i H => ∃ xs, SqL K H a xs ∧ xs.length ≤ i⟩
def Itt (K : PySem.W.Frag) (a : Addr) : It :=
  ⟨fun i H => ∃ xs x, SqT K H a xs ∧ xs[i]? = some x, fun i H x H' => H' = H ∧ ∀ xs, SqT K H a xs → xs[i]? = some x, fun i H => ∃ xs, SqT K H a xs ∧ xs.length ≤ i⟩
def Itr (lo : Int) (n : Nat) : It := ⟨fun i _ => i < n, fun i H x H' => H' = H ∧ x = .int (lo + i), fun i _ => n ≤ i⟩
theorem turn_list {P : Program} {w : World} {K : PySem.W.Frag} {tg : Expr} (a it : Addr) : Turn P w K tg (Itl K a) [it] it (fun i h => h.IsListIter it a i) where
  mem := by simp
  obj := fun i h st b hb => by
    have e : b = it := by simpa using hb
    subst e
    obtain ⟨o, e, c, d⟩ := st
    exact ⟨o, e, fun v z => by rw [d] at z; cases z⟩
  keep := fun i h h' st k => st.at fun o e => k it (by simp) o e
  item := by
    intro X hP hw hK hc i pins s σ H E I hf st hg
    subst hP hw hK
    obtain ⟨xs, x, hq, hx⟩ := hg
    obtain ⟨its, rv, p, hz⟩ := I.list hq
    obtain ⟨u, hu, ru⟩ := rv.get hx
    obtain ⟨f0, f1, f2, f3, f4, f5⟩ := hf it (by simp)
    refine wpAny_pyNext_list_item st p.isList (x := u) (by simpa using hu) fun h' st' sb => ?_
    have I1 : Inv X pins σ H { s with heap := h' } := I.turned (t' := s.toks) (fun b o hb e => (sb.2 b hb).trans e) f0 f1 f3 f4 f5
    obtain ⟨o, e, c, d⟩ := id st'
    exact ⟨u, rfl, go_of (s := { s with heap := h' }) e c d (by decide) ⟨x, H, I1, ru, ⟨rfl, fun ys hy => by rw [I.list_inj hy hq]; exact hx⟩, st', fun b hb => (hf b hb).1⟩⟩
  done := by
    intro X hP hw hK hc i pins s σ H E I hf st hg
    subst hP hw hK
    obtain ⟨xs, hq, hx⟩ := hg
    obtain ⟨its, rv, p, hz⟩ := I.list hq
    obtain ⟨f0, f1, f2, f3, f4, f5⟩ := hf it (by simp)
    have hl := rv.length
    exact wpAny_pyNext_list_end (I.ok.hd hc) st p.isList (by simp; omega) fun h' eb => ⟨rfl, I.turned (t' := s.toks) (fun b o hb e => eb b o hb e) f0 f1 f3 f4 f5⟩
  self := fun _ _ _ _ _ st h => wpAny_pyIter_listiter st h
theorem turn_tuple {P : Program} {w : World} {K : PySem.W.Frag} {tg : Expr} (a it : Addr) : Turn P w K tg (Itt K a) [it] it (fun i h => h.IsTupleIter it a i) where
  mem := by simp
  obj := fun i h st b hb => by
    have e : b = it := by simpa using hb
    subst e
    obtain ⟨o, e, c, d⟩ := st
    exact ⟨o, e, fun v z => by rw [d] at z; cases z⟩
  keep := fun i h h' st k => st.at fun o e => k it (by simp) o e
  item := by
    intro X hP hw hK hc i pins s σ H E I hf st hg
    subst hP hw hK
    obtain ⟨xs, x, hq, hx⟩ := hg
    obtain ⟨its, rv, p, hz⟩ := I.tuple hq
    obtain ⟨u, hu, ru⟩ := rv.get hx
    obtain ⟨f0, f1, f2, f3, f4, f5⟩ := hf it (by simp)
    refine wpAny_pyNext_tuple_item st (show s.heap.IsTuple a its.toArray from p) (x := u) (by simpa using hu) fun h' st' sb => ?_
    have I1 : Inv X pins σ H { s with heap := h' } := I.turned (t' := s.toks) (fun b o hb e => (sb.2 b hb).trans e) f0 f1 f3 f4 f5
    obtain ⟨o, e, c, d⟩ := id st'
    exact ⟨u, rfl, go_of (s := { s with heap := h' }) e c d (by decide) ⟨x, H, I1, ru, ⟨rfl, fun ys hy => by rw [I.tuple_inj hy hq]; exact hx⟩, st', fun b hb => (hf b hb).1⟩⟩
  done := by
    intro X hP hw hK hc i pins s σ H E I hf st hg
    subst hP hw hK
    obtain ⟨xs, hq, hx⟩ := hg
    obtain ⟨its, rv, p, hz⟩ := I.tuple hq
    obtain ⟨f0, f1, f2, f3, f4, f5⟩ := hf it (by simp)
    have hl := rv.length
    exact wpAny_pyNext_tuple_end (I.ok.hd hc) st (show s.heap.IsTuple a its.toArray from p) (by simp; omega) fun h' eb => ⟨rfl, I.turned (t' := s.toks) (fun b o hb e => eb b o hb e) f0 f1 f3 f4 f5⟩
  self := fun _ _ _ _ _ st h => wpAny_pyIter_tupleiter st h
theorem turn_range {P : Program} {w : World} {K : PySem.W.Frag} {tg : Expr} (it : Addr) (lo : Int) (n : Nat) : Turn P w K tg (Itr lo n) [it] it (fun i h => IsRangeIter h it (lo + (i : Nat) * 1) ((n : Int) - (i : Nat)) 1) where
  mem := by simp
  obj := fun i h st b hb => by
    have e : b = it := by simpa using hb
    subst e
    exact ⟨_, st, fun v z => by
      have z' : Data.fields _ = Data.cell v := z
      cases z'⟩
  keep := fun i h h' st k => k it (by simp) _ st
  item := by
    intro X hP hw hK hc i pins s σ H E I hf st hg
    subst hP hw hK
    obtain ⟨f0, f1, f2, f3, f4, f5⟩ := hf it (by simp)
    have W := Walks.range (prog := X.prog) (w := X.w) (I.ok.hd hc) it lo 1 n
    refine W.item i s _ _ hg st fun v h' tk hv st' kk => ?_
    obtain ⟨t, rfl⟩ := hv
    have I1 : Inv X pins σ H { s with heap := h', toks := tk } := I.turned (fun b o hb e => kk b o (by simpa using hb) e) f0 f1 f3 f4 f5
    refine ⟨_, rfl, go_of (s := { s with heap := h', toks := tk }) (n := "range_iterator") st' rfl rfl (by decide) ⟨.int (lo + i), H, I1, ⟨t, ?_⟩, ⟨rfl, rfl⟩, st', fun b hb => (hf b hb).1⟩⟩
    rw [Int.mul_one]
  done := by
    intro X hP hw hK hc i pins s σ H E I hf st hg
    subst hP hw hK
    obtain ⟨f0, f1, f2, f3, f4, f5⟩ := hf it (by simp)
    exact wpAny_pyNext_range_end (I.ok.hd hc) st (by have : n ≤ i := hg; omega) fun h' eb => ⟨rfl, I.turned (t' := s.toks) (fun b o hb e => eb b o hb e) f0 f1 f3 f4 f5⟩
  self := fun _ _ _ _ _ st h => wpAny_pyIter_rangeiter st h
section
variable {X : Cx} {tg : Expr}
def iList (K : PySem.W.Frag) (tl : TE) : TI := fun σ H R => tl σ H fun x H1 => ∃ a, x = .ref a ∧ (∃ xs, SqL K H1 a xs) ∧ R (Itl K a) H1
def iTup (K : PySem.W.Frag) (tl : TE) : TI := fun σ H R => tl σ H fun x H1 => ∃ a, x = .ref a ∧ (∃ xs, SqT K H1 a xs) ∧ R (Itt K a) H1
theorem pi_list {l : Expr} {tl : TE} (hl : PE X l tl) : PI X tg l (iList X.K tl) := by
  intro pins s σ H R I h
  refine thn (hl pins s σ H _ I h) fun v s1 ⟨x, H1, I1, r1, q1⟩ => ?_
  obtain ⟨a, e, ⟨xs, hq⟩, q⟩ := q1
  subst e
  cases r1
  obtain ⟨its, rv, p, hz⟩ := I1.list hq
  refine wpAny_pyIter_list p.isList ?_
  refine ⟨s1.heap.objs.size, [s1.heap.objs.size], _, _, H1, rfl, I1.kept (t' := s1.toks) fun b o e => Heap.get?_push_of_some _ e, turn_list a _, ⟨_, Heap.get?_push_size _ rfl, rfl, rfl⟩, fun b hb => ?_, q⟩
  have e : b = s1.heap.objs.size := by simpa using hb
  subst e
  exact I1.fpOk (Nat.le_refl _) (I1.hok.fresh (Nat.le_refl _))
theorem pi_tup {l : Expr} {tl : TE} (hl : PE X l tl) : PI X tg l (iTup X.K tl) := by
  intro pins s σ H R I h
  refine thn (hl pins s σ H _ I h) fun v s1 ⟨x, H1, I1, r1, q1⟩ => ?_
  obtain ⟨a, e, ⟨xs, hq⟩, q⟩ := q1
  subst e
  cases r1
  obtain ⟨its, rv, p, hz⟩ := I1.tuple hq
  refine wpAny_pyIter_tuple (show s1.heap.IsTuple a its.toArray from p) ?_
  refine ⟨s1.heap.objs.size, [s1.heap.objs.size], _, _, H1, rfl, I1.kept (t' := s1.toks) fun b o e => Heap.get?_push_of_some _ e, turn_tuple a _, ⟨_, Heap.get?_push_size _ rfl, rfl, rfl⟩, fun b hb => ?_, q⟩
  have e : b = s1.heap.objs.size := by simpa using hb
  subst e
  exact I1.fpOk (Nat.le_refl _) (I1.hok.fresh (Nat.le_refl _))
theorem range_it {pins : List (Addr × Obj)} {σ : St} {H : Hp} {s : Shared} {R : It → Hp → Prop} {E : Value → Shared → Prop} {lo hi : Int} {t u v : Tok} {tk : Nat} (I : Inv X pins σ H s) (h1 : -(2 ^ 62) ≤ lo) (h2 : lo < 2 ^ 62) (h3 : -(2 ^ 62) ≤ hi) (h4 : hi < 2 ^ 62)
    (q : R (Itr lo (hi - lo).toNat) H) : wpAny (model X.prog X.w) X.A (pyIter (.ref s.heap.objs.size)) (PIE X pins σ tg R) E { s with heap := s.heap.push { cls := .type "range", data := .fields #[.int lo t, .int hi u, .int 1 v] }, toks := tk } := by
  refine wpAny_pyIter_range (IsRange.new ..) (small_one h1 h2 h3 h4) ?_
  have I1 : Inv X pins σ H { s with heap := s.heap.push { cls := .type "range", data := .fields #[.int lo t, .int hi u, .int 1 v] }, toks := tk } := I.kept fun b o e => Heap.get?_push_of_some _ e
  refine ⟨(s.heap.push { cls := .type "range", data := .fields #[.int lo t, .int hi u, .int 1 v] }).objs.size, [(s.heap.push { cls := .type "range", data := .fields #[.int lo t, .int hi u, .int 1 v] }).objs.size], _, _, H, rfl,
    I1.kept (t' := tk) fun b o e => Heap.get?_push_of_some _ e, turn_range _ lo (hi - lo).toNat, ?_, fun b hb => ?_, q⟩
  · have e1 : lo + ((0 : Nat) : Int) * 1 = lo := by simp
    have e2 : (((hi - lo).toNat : Nat) : Int) - ((0 : Nat) : Int) = Builtin.Range.rangeSize lo hi 1 := by rw [rangeSize_one]; split <;> omega
    show IsRangeIter _ _ (lo + ((0 : Nat) : Int) * 1) ((((hi - lo).toNat : Nat) : Int) - ((0 : Nat) : Int)) 1
    rw [e1, e2]
    exact Heap.get?_push_size _ rfl
  · have e : b = (s.heap.push { cls := .type "range", data := .fields #[.int lo t, .int hi u, .int 1 v] }).objs.size := by simpa using hb
    subst e
    exact I1.fpOk (Nat.le_refl _) (I1.hok.fresh (Nat.le_refl _))
def iRng1 (ta : TA) : TI := fun σ H R => ta σ H fun vs H1 => ∃ j : Int, vs = [.int j] ∧ -(2 ^ 62) ≤ j ∧ j < 2 ^ 62 ∧ R (Itr 0 j.toNat) H1
theorem pi_range1 {a : Expr} {ta : TA} {p pos : Pos} (hg : Gl X "range") (hm : X.mg "range" = none) (ha : PA X [a] ta) (hs : starEach [a] X.env = [(false, eval a X.env)] := by rfl) : PI X tg (.Call (.Name "range" p) [a] [] pos) (iRng1 ta) := by
  intro pins s σ H R I h
  refine Call_ (ld_blt I hg hm boot_range (PyProof.Rows.callWith_type1 (thn (ha pos pins s σ H _ I h) fun us s1 ⟨vs, H1, I1, r1, q1⟩ => ?_) hs rfl))
  obtain ⟨j, e, q1, q2, q⟩ := q1
  subst e
  cases r1 with
  | cons r rr =>
    cases rr
    obtain ⟨t, rfl⟩ := r
    exact call_range_1 (range_it I1 (by omega) (by omega) q1 q2 (by simpa using q))
def tFor (wi : TI) (g : TG) (tb : TS) : TS := fun D σ H => wi σ H fun J H1 => ∃ W : Nat → Nat → St → Hp → Prop, (∃ m, W 0 m σ H1) ∧ ∀ i m σ H, W i m σ H →
  (J.stop i H ∧ D.nx σ H) ∨ (J.go i H ∧ ∃ N : St → Hp → Prop, (∀ σ' H', N σ' H' → ∃ m', m' < m ∧ W (i + 1) m' σ' H') ∧ ∀ x H', J.yld i H x H' → g x σ H' fun σ2 H2 => tb { D with nx := N, ct := N, bk := D.nx } σ2 H2)
def pinsAt (fp : List Addr) (h : Heap) : List (Addr × Obj) := fp.filterMap fun b => (h.get? b).map fun o => (b, o)
theorem mem_pinsAt {fp : List Addr} {h : Heap} {b : Addr} {o : Obj} (hb : b ∈ fp) (e : h.get? b = some o) : (b, o) ∈ pinsAt fp h := List.mem_filterMap.mpr ⟨b, hb, by rw [e]; rfl⟩
theorem of_pinsAt {fp : List Addr} {h : Heap} {p : Addr × Obj} (hp : p ∈ pinsAt fp h) : p.1 ∈ fp ∧ h.get? p.1 = some p.2 := by
  obtain ⟨b, hb, e⟩ := List.mem_filterMap.mp hp
  cases q : h.get? b with
  | none => rw [q] at e; cases e
  | some o =>
    rw [q] at e
    have e' : (b, o) = p := Option.some.inj e
    subst e'
    exact ⟨hb, q⟩
theorem Inv.pinned {pins : List (Addr × Obj)} {σ : St} {H : Hp} {s : Shared} {fp : List Addr} (I : Inv X pins σ H s) (hf : ∀ b ∈ fp, FpOk X pins H b) (ho : ∀ b ∈ fp, ∃ o, s.heap.get? b = some o ∧ ∀ v, o.data ≠ .cell v) : Inv X (pins ++ pinsAt fp s.heap) σ H s :=
  I.pins_of fun p hp => (List.mem_append.mp hp).elim (fun z => I.pin p (List.mem_append_right _ z)) fun z => by
    obtain ⟨hb, e⟩ := of_pinsAt z
    obtain ⟨f0, f1, f2, _⟩ := hf p.1 hb
    obtain ⟨o, e', d⟩ := ho p.1 hb
    rw [e] at e'; cases e'
    exact ⟨e, f0, f1, f2, d⟩
theorem Inv.unpinned {pins pl : List (Addr × Obj)} {σ : St} {H : Hp} {s : Shared} (I : Inv X (pins ++ pl) σ H s) : Inv X pins σ H s := I.pins_of fun p hp => I.pin p (List.mem_append_right _ (List.mem_append_left _ hp))
theorem ps_for {iter : Expr} {body : List Stmt} {wi : TI} {g : TG} {tb : TS} {pos : Pos} (hp : PassesOwn (model X.prog X.w) X.A X.env X.xe) (hc : X.calm = true) (hi : PI X tg iter wi) (hg : PG X tg g) (hb : PSs X body tb)
    (hs : ∀ x, foldedSetIterable iter X.env x = pure x := by intro _; rfl) : PS X (.For tg iter body [] pos) (tFor wi g tb) := by
  intro pins s σ H D I h
  refine wpAny_For (thn (hi pins s σ H _ I h) fun v s1 h1 => thn h1 fun itv s2 h2 => ?_) hs
  obtain ⟨it, fp, tn, J, H2, e, I2, T, st2, f2, W, ⟨m0, w0⟩, turn⟩ := h2
  subst e
  have stat : ∀ {H' : Hp}, (∀ b ∈ fp, H' b = none) → ∀ b ∈ fp, FpOk X pins H' b := fun hn b hb => ⟨hn b hb, (f2 b hb).2⟩
  refine codeAny_forLoop_any (fun n s' => ∃ i σ' H', Inv X pins σ' H' s' ∧ tn i s'.heap ∧ (∀ b ∈ fp, H' b = none) ∧ W i n σ' H') ?_ m0 ⟨0, σ, H2, I2, st2, fun b hb => (f2 b hb).1, w0⟩
  rintro n s3 ⟨i, σ3, H3, I3, st3, fr3, w3⟩
  rcases turn i n σ3 H3 w3 with ⟨stop, qn⟩ | ⟨go, N, hN, step⟩
  · refine wpAny_passesOwn hp (thn (T.done X rfl rfl rfl hc i pins s3 σ3 H3 X.xe I3 (stat fr3) st3 stop) fun r s4 ⟨hr, I4⟩ => ?_)
    subst hr
    exact wpAny_execs_nil ⟨σ3, H3, I4, qn⟩
  · refine wpAny_passesOwn hp (thn (T.item X rfl rfl rfl hc i pins s3 σ3 H3 X.xe I3 (stat fr3) st3 go) fun r s4 ⟨u, hr, h4⟩ => ?_)
    subst hr
    refine wpAny_passesOwn hp (thn h4 fun _ s5 ⟨x, H5, I5, r5, y5, st5, fr5⟩ => ?_)
    have I5' := I5.pinned (stat fr5) (T.obj _ _ st5)
    refine wpAny_passesOwn hp (thn (hg _ s5 σ3 H5 x u _ I5' r5 (step x H5 y5)) fun _ s6 ⟨σ6, H6, I6, q6⟩ => ?_)
    refine wpAny_passesOwn hp (thn (hb _ s6 σ6 H6 _ I6 q6) fun f s7 q7 => ?_)
    have again : ∀ {σ7 : St} {H7 : Hp}, Inv X (pins ++ pinsAt fp s5.heap) σ7 H7 s7 → N σ7 H7 → ∃ m, m < n ∧ ∃ i σ' H', Inv X pins σ' H' s7 ∧ tn i s7.heap ∧ (∀ b ∈ fp, H' b = none) ∧ W i m σ' H' := fun {σ7 H7} I7 n7 => by
      obtain ⟨m', hm, w7⟩ := hN σ7 H7 n7
      refine ⟨m', hm, i + 1, σ7, H7, I7.unpinned, T.keep _ _ _ st5 fun b hb o e => (I7.pin (b, o) (List.mem_append_right _ (List.mem_append_right _ (mem_pinsAt hb e)))).1, fun b hb => ?_, w7⟩
      obtain ⟨o, e, d⟩ := T.obj _ _ st5 b hb
      exact (I7.pin (b, o) (List.mem_append_right _ (List.mem_append_right _ (mem_pinsAt hb e)))).2.1
    cases f with
    | next => obtain ⟨σ7, H7, I7, n7⟩ := q7; exact again I7 n7
    | cont => obtain ⟨σ7, H7, I7, n7⟩ := q7; exact again I7 n7
    | brk => obtain ⟨σ7, H7, I7, q7⟩ := q7; exact ⟨σ7, H7, I7.unpinned, q7⟩
    | ret v => obtain ⟨x7, σ7, H7, I7, r7, q7⟩ := q7; exact ⟨x7, σ7, H7, I7.unpinned, r7, q7⟩
end
abbrev R2 := V → V → Hp → VK → Prop
def OpR (X : Cx) (f : Value → Value → Sem Value) (r : R2) : Prop :=
  ∀ (pins : List (Addr × Obj)) (s : Shared) (σ : St) (H : Hp) (x y : V) (v u : Value) (Q : VK), Inv X pins σ H s → RelV x v → RelV y u → r x y H Q →
    wpAny (model X.prog X.w) X.A (f v u) (EP X pins σ Q) X.xe s
def CallR (X : Cx) (f : Value) (r : List V → Hp → VK → Prop) : Prop :=
  ∀ (pins : List (Addr × Obj)) (s : Shared) (σ : St) (H : Hp) (xs : List V) (us : List Value) (Q : VK), Inv X pins σ H s → Vals xs us → r xs H Q →
    wpAny (model X.prog X.w) X.A (call f us) (EP X pins σ Q) X.xe s
def TruR (X : Cx) (r : V → Hp → (Bool → Hp → Prop) → Prop) : Prop :=
  ∀ (pins : List (Addr × Obj)) (s : Shared) (σ : St) (H : Hp) (x : V) (v : Value) (Q : Bool → Hp → Prop), Inv X pins σ H s → RelV x v → r x H Q →
    wpAny (model X.prog X.w) X.A (truthy v) (TP X pins σ Q) X.xe s
def tOp (r : R2) (ta tb : TE) : TE := fun σ H Q => ta σ H fun x H1 => tb σ H1 fun y H2 => r x y H2 Q
def rI (C : Int → Int → Prop) (g : Int → Int → V) : R2 := fun x y H Q => ∃ i j, x = .int i ∧ y = .int j ∧ C i j ∧ Q (g i j) H
def rI0 (g : Int → Int → V) : R2 := fun x y H Q => ∃ i j, x = .int i ∧ y = .int j ∧ Q (g i j) H
section
variable {X : Cx} {a b c : Expr} {ta tb tc : TE} {pos : Pos}
theorem binT (ha : PE X a ta) (hb : PE X b tb) {pins : List (Addr × Obj)} {s : Shared} {σ : St} {H : Hp} {R : V → V → Hp → Prop} (I : Inv X pins σ H s)
    (h : ta σ H fun x H1 => tb σ H1 fun y H2 => R x y H2) {Q : Value → Shared → Prop} {f : Value → Value → Sem Value}
    (hf : ∀ v u s2 x y H2, Inv X pins σ H2 s2 → RelV x v → RelV y u → R x y H2 → wpAny (model X.prog X.w) X.A (f v u) Q X.xe s2) :
    wpAny (model X.prog X.w) X.A (eval a X.env) (fun v s₁ => wpAny (model X.prog X.w) X.A (eval b X.env) (fun u s₂ => wpAny (model X.prog X.w) X.A (f v u) Q X.xe s₂) X.xe s₁) X.xe s := by
  refine thn (ha pins s σ H _ I h) fun v s1 ⟨x, H1, I1, r1, q1⟩ => ?_
  refine thn (hb pins s1 σ H1 _ I1 q1) fun u s2 ⟨y, H2, I2, r2, q2⟩ => ?_
  exact hf v u s2 x y H2 I2 r1 r2 q2
theorem pe_op {op : Operator} {r : R2} (ho : OpR X (binaryOp op) r) (ha : PE X a ta) (hb : PE X b tb) : PE X (.BinOp a op b pos) (tOp r ta tb) := by
  intro pins s σ H Q I h
  exact wpAny_BinOp (binT ha hb I h fun v u s2 x y H2 I2 rx ry q => ho pins s2 σ H2 x y v u Q I2 rx ry q)
theorem opI {f : Value → Value → Sem Value} {C : Int → Int → Prop} {g : Int → Int → Int}
    (rule : ∀ (i j : Int) (t u : Tok) (s : Shared) (Q : Value → Shared → Prop) (E : Value → Shared → Prop), C i j → Q (.int (g i j) s.toks) { s with toks := s.toks + 1 } → wpAny (model X.prog X.w) X.A (f (.int i t) (.int j u)) Q E s) :
    OpR X f (rI C fun i j => .int (g i j)) := by
  intro pins s σ H x y v u Q I rx ry h
  obtain ⟨i, j, rfl, rfl, hc, q⟩ := h
  obtain ⟨t, rfl⟩ := rx
  obtain ⟨t', rfl⟩ := ry
  exact rule i j t t' s _ _ hc ⟨.int (g i j), H, I.tok _, ⟨_, rfl⟩, q⟩
theorem opI0 {f : Value → Value → Sem Value} {g : Int → Int → Int}
    (rule : ∀ (i j : Int) (t u : Tok) (s : Shared) (Q : Value → Shared → Prop) (E : Value → Shared → Prop), Q (.int (g i j) s.toks) { s with toks := s.toks + 1 } → wpAny (model X.prog X.w) X.A (f (.int i t) (.int j u)) Q E s) :
    OpR X f (rI0 fun i j => .int (g i j)) := by
  intro pins s σ H x y v u Q I rx ry h
  obtain ⟨i, j, rfl, rfl, q⟩ := h
  obtain ⟨t, rfl⟩ := rx
  obtain ⟨t', rfl⟩ := ry
  exact rule i j t t' s _ _ ⟨.int (g i j), H, I.tok _, ⟨_, rfl⟩, q⟩
theorem opB0 {f : Value → Value → Sem Value} {g : Int → Int → Bool}
    (rule : ∀ (i j : Int) (t u : Tok) (s : Shared) (Q : Value → Shared → Prop) (E : Value → Shared → Prop), Q (.bool (g i j)) s → wpAny (model X.prog X.w) X.A (f (.int i t) (.int j u)) Q E s) :
    OpR X f (rI0 fun i j => .bl (g i j)) := by
  intro pins s σ H x y v u Q I rx ry h
  obtain ⟨i, j, rfl, rfl, q⟩ := h
  obtain ⟨t, rfl⟩ := rx
  obtain ⟨t', rfl⟩ := ry
  exact rule i j t t' s _ _ ⟨.bl (g i j), H, I, rfl, q⟩
def CDiv (i j : Int) : Prop := 0 < j ∧ j < 1073741824
def CPow (i j : Int) : Prop := 0 ≤ j ∧ j ≤ 1000000 ∧ i.natAbs < 2 ^ 64
def CMul (i j : Int) : Prop := (-(2 ^ 64) < i ∧ i < 2 ^ 64) ∨ (-(2 ^ 64) < j ∧ j < 2 ^ 64)
theorem CMul.ok {i j : Int} (h : CMul i j) : IntMulOk i j := by
  rcases h with ⟨h1, h2⟩ | ⟨h1, h2⟩
  · exact .of_left (intBits_le_64 h1 h2)
  · exact .of_right (intBits_le_64 h1 h2)
theorem op_add : OpR X (binaryOp .Add) (rI0 fun i j => .int (i + j)) := opI0 fun _ _ _ _ _ _ _ q => add_int q
theorem op_mul : OpR X (binaryOp .Mult) (rI CMul fun i j => .int (i * j)) := opI fun _ _ _ _ _ _ _ hc q => mul_int q hc.ok
theorem op_fdiv : OpR X (binaryOp .FloorDiv) (rI CDiv fun i j => .int (i / j)) := opI fun i j _ _ _ _ _ hc q => by
  have h1 : (0 : Int) < j := hc.1
  have h2 : j < 1073741824 := hc.2
  exact floordiv_int (by omega) (by rw [Int.fdiv_eq_ediv_of_nonneg i (by omega)]; exact q) (.inl (PyProof.noPylong_small (by omega)))
theorem op_mod : OpR X (binaryOp .Mod) (rI (fun _ j => 0 < j) fun i j => .int (i % j)) := opI fun i j _ _ _ _ _ hc q => by
  have h1 : (0 : Int) < j := hc
  exact mod_int' (by omega) (by rw [Int.fmod_eq_emod_of_nonneg i (by omega)]; exact q)
theorem op_pow : OpR X (binaryOp .Pow) (rI CPow fun i j => .int (i ^ j.toNat)) := opI fun _ _ _ _ _ _ _ hc q => pow_int_small hc.1 hc.2.1 hc.2.2 q
end
def scal : V → V → Bool
  | .non, .non => true | .non, .int _ => true | .int _, .non => true | .non, .bl _ => true | .bl _, .non => true | .non, .str _ => true | .str _, .non => true
  | .int _, .int _ => true | .bl _, .bl _ => true | .str _, .str _ => true | .byt _, .byt _ => true
  | .int _, .str _ => true | .str _, .int _ => true | .bl _, .str _ => true | .str _, .bl _ => true
  | _, _ => false
def rEq : R2 := fun x y H Q => scal x y = true ∧ Q (.bl (decide (x = y))) H
def rNe : R2 := fun x y H Q => scal x y = true ∧ Q (.bl (!decide (x = y))) H
theorem dec_int {i j : Int} : decide (V.int i = V.int j) = (i == j) := by
  rw [Bool.eq_iff_iff]
  simp
theorem dec_bl {i j : Bool} : decide (V.bl i = V.bl j) = (i == j) := by
  rw [Bool.eq_iff_iff]
  simp
theorem dec_str {i j : Str} : decide (V.str i = V.str j) = (i == j) := by
  rw [Bool.eq_iff_iff]
  simp
theorem dec_byt {i j : Array UInt8} : decide (V.byt i = V.byt j) = (i.toList == j.toList) := by
  rw [Bool.eq_iff_iff]
  cases i
  cases j
  simp
section
variable {X : Cx} {a b c : Expr} {ta tb tc : TE} {pos : Pos}
theorem fin_bl {pins : List (Addr × Obj)} {σ : St} {H : Hp} {s : Shared} {Q : VK} {k k' : Bool} (I : Inv X pins σ H s) (q : Q (.bl k) H) (e : k = k') : EP X pins σ Q (.bool k') s := by
  subst e
  exact ⟨.bl k, H, I, rfl, q⟩
theorem op_eq : OpR X (compareOp .Eq) rEq := by
  intro pins s σ H x y v u Q I rx ry h
  obtain ⟨hs, q⟩ := h
  cases x with
  | non =>
    cases rx
    cases y with
    | non => cases ry; exact PySem.EqNone.eq_none_none (fin_bl I q (by simp))
    | bl j => cases ry; exact PySem.EqNone.eq_none_bool (fin_bl I q (by simp))
    | int j => obtain ⟨t', rfl⟩ := ry; exact PySem.EqNone.eq_none_int (fin_bl I q (by simp))
    | str j => obtain ⟨t', rfl⟩ := ry; exact PySem.EqNone.eq_none_str (fin_bl I q (by simp))
    | _ => exact absurd (show false = true from hs) Bool.false_ne_true
  | bl i =>
    cases rx
    cases y with
    | non => cases ry; exact PySem.EqNone.eq_bool_none (fin_bl I q (by simp))
    | bl j => cases ry; exact eq_bool (fin_bl I q dec_bl)
    | str j => obtain ⟨t', rfl⟩ := ry; exact PySem.EqMixed.eq_bool_str (fin_bl I q (by simp))
    | _ => exact absurd (show false = true from hs) Bool.false_ne_true
  | int i =>
    obtain ⟨t, rfl⟩ := rx
    cases y with
    | non => cases ry; exact PySem.EqNone.eq_int_none (fin_bl I q (by simp))
    | int j => obtain ⟨t', rfl⟩ := ry; exact eq_int (fin_bl I q dec_int)
    | str j => obtain ⟨t', rfl⟩ := ry; exact PySem.EqMixed.eq_int_str (fin_bl I q (by simp))
    | _ => exact absurd (show false = true from hs) Bool.false_ne_true
  | str i =>
    obtain ⟨t, rfl⟩ := rx
    cases y with
    | non => cases ry; exact PySem.EqNone.eq_str_none (fin_bl I q (by simp))
    | bl j => cases ry; exact PySem.EqMixed.eq_str_bool (fin_bl I q (by simp))
    | int j => obtain ⟨t', rfl⟩ := ry; exact PySem.EqMixed.eq_str_int (fin_bl I q (by simp))
    | str j => obtain ⟨t', rfl⟩ := ry; exact eq_str (fin_bl I q dec_str)
    | _ => exact absurd (show false = true from hs) Bool.false_ne_true
  | byt i =>
    obtain ⟨t, rfl⟩ := rx
    cases y with
    | byt j => obtain ⟨t', rfl⟩ := ry; exact PySem.W.eq_bytes (fin_bl I q dec_byt)
    | _ => exact absurd (show false = true from hs) Bool.false_ne_true
  | _ => cases y <;> exact absurd (show false = true from hs) Bool.false_ne_true
theorem op_ne : OpR X (compareOp .NotEq) rNe := by
  intro pins s σ H x y v u Q I rx ry h
  obtain ⟨hs, q⟩ := h
  cases x with
  | non =>
    cases rx
    cases y with
    | non => cases ry; exact PySem.EqNone.ne_none_none (fin_bl I q (by simp))
    | bl j => cases ry; exact PySem.EqNone.ne_none_bool (fin_bl I q (by simp))
    | int j => obtain ⟨t', rfl⟩ := ry; exact PySem.EqNone.ne_none_int (fin_bl I q (by simp))
    | str j => obtain ⟨t', rfl⟩ := ry; exact PySem.EqNone.ne_none_str (fin_bl I q (by simp))
    | _ => exact absurd (show false = true from hs) Bool.false_ne_true
  | bl i =>
    cases rx
    cases y with
    | non => cases ry; exact PySem.EqNone.ne_bool_none (fin_bl I q (by simp))
    | bl j => cases ry; exact ne_bool (fin_bl I q (congrArg not dec_bl))
    | str j => obtain ⟨t', rfl⟩ := ry; exact PySem.EqMixed.ne_bool_str (fin_bl I q (by simp))
    | _ => exact absurd (show false = true from hs) Bool.false_ne_true
  | int i =>
    obtain ⟨t, rfl⟩ := rx
    cases y with
    | non => cases ry; exact PySem.EqNone.ne_int_none (fin_bl I q (by simp))
    | int j => obtain ⟨t', rfl⟩ := ry; exact ne_int (fin_bl I q (congrArg not dec_int))
    | str j => obtain ⟨t', rfl⟩ := ry; exact PySem.EqMixed.ne_int_str (fin_bl I q (by simp))
    | _ => exact absurd (show false = true from hs) Bool.false_ne_true
  | str i =>
    obtain ⟨t, rfl⟩ := rx
    cases y with
    | non => cases ry; exact PySem.EqNone.ne_str_none (fin_bl I q (by simp))
    | bl j => cases ry; exact PySem.EqMixed.ne_str_bool (fin_bl I q (by simp))
    | int j => obtain ⟨t', rfl⟩ := ry; exact PySem.EqMixed.ne_str_int (fin_bl I q (by simp))
    | str j => obtain ⟨t', rfl⟩ := ry; exact ne_str (fin_bl I q (congrArg not dec_str))
    | _ => exact absurd (show false = true from hs) Bool.false_ne_true
  | byt i =>
    obtain ⟨t, rfl⟩ := rx
    cases y with
    | byt j => obtain ⟨t', rfl⟩ := ry; exact PySem.W.ne_bytes (fin_bl I q (congrArg not dec_byt))
    | _ => exact absurd (show false = true from hs) Bool.false_ne_true
  | _ => cases y <;> exact absurd (show false = true from hs) Bool.false_ne_true
theorem op_le : OpR X (compareOp .LtE) (rI0 fun i j => .bl (decide (i ≤ j))) := opB0 fun _ _ _ _ _ _ _ q => le_int q
theorem op_gt : OpR X (compareOp .Gt) (rI0 fun i j => .bl (decide (j < i))) := opB0 fun _ _ _ _ _ _ _ q => gt_int q
theorem op_ge : OpR X (compareOp .GtE) (rI0 fun i j => .bl (decide (j ≤ i))) := opB0 fun _ _ _ _ _ _ _ q => ge_int q
theorem op_isN : OpR X (compareOp .Is) (fun x y H Q => y = .non ∧ Q (.bl (decide (x = .non))) H) := by
  intro pins s σ H x y v u Q I rx ry h
  obtain ⟨rfl, q⟩ := h
  cases ry
  refine is_none_gen (fin_bl I q ?_)
  cases x <;> first
    | (cases rx; rfl)
    | (obtain ⟨t, rfl⟩ := rx; rfl)
theorem OpR.or {f : Value → Value → Sem Value} {r r' : R2} (h : OpR X f r) (h' : OpR X f r') : OpR X f (fun x y H Q => r x y H Q ∨ r' x y H Q) := by
  intro pins s σ H x y v u Q I rx ry q
  rcases q with q | q
  · exact h pins s σ H x y v u Q I rx ry q
  · exact h' pins s σ H x y v u Q I rx ry q
theorem nomark (b : Expr) {op : CmpOp} (h : op ≠ .In := by decide) (h2 : op ≠ .NotIn := by decide) : behindInMarks op b = false := by
  have e1 : (op == CmpOp.In) = false := by cases op <;> first | rfl | exact absurd rfl h
  have e2 : (op == CmpOp.NotIn) = false := by cases op <;> first | rfl | exact absurd rfl h2
  cases b <;> simp [behindInMarks, e1, e2]
theorem pe_cmpR {op : CmpOp} {r : R2} (ho : OpR X (compareOp op) r) (ha : PE X a ta) (hb : PE X b tb) (hm : behindInMarks op b = false) : PE X (.Compare a [op] [b] pos) (tOp r ta tb) := by
  intro pins s σ H Q I h
  exact wpAny_Compare1 (binT ha hb I h fun v u s2 x y H2 I2 rx ry q => ho pins s2 σ H2 x y v u Q I2 rx ry q) hm
def tTest (t : TE) : TT := fun σ H Q => t σ H fun x H' => ∃ k, x = .bl k ∧ Q k H'
theorem pt_cmpR {op : CmpOp} {r : R2} (ho : OpR X (compareOp op) r) (ha : PE X a ta) (hb : PE X b tb) (hm : behindInMarks op b = false) : PT X (.Compare a [op] [b] pos) (tTest (tOp r ta tb)) := by
  intro pins s σ H Q I h
  refine wpAny_isTrue_Compare1 (thn (ha pins s σ H _ I h) fun v s1 ⟨x, H1, I1, r1, q1⟩ => thn (hb pins s1 σ H1 _ I1 q1) fun u s2 ⟨y, H2, I2, r2, q2⟩ =>
    thn (ho pins s2 σ H2 x y v u _ I2 r1 r2 q2) fun c s3 ⟨z, H3, I3, r3, k, e, q3⟩ => ?_) hm
  subst e
  cases r3
  exact wpAny_truthy_bool ⟨H3, I3, q3⟩
def TruV (K : PySem.W.Frag) (x : V) (H : Hp) (k : Bool) : Prop :=
  match x with
  | .non => k = false
  | .bl b => k = b
  | .int i => k = (i != 0)
  | .str y => y.length ≤ sizeLine ∧ k = ((y.length : Int) != 0)
  | .byt y => y.size ≤ sizeLine ∧ k = ((y.size : Int) != 0)
  | .ref p => (∃ xs, SqL K H p xs ∧ k = !xs.isEmpty) ∨ (∃ xs, SqT K H p xs ∧ k = !xs.isEmpty) ∨ ∃ kvs, Rd H p (.dK kvs) ∧ k = !kvs.isEmpty
  | _ => False
theorem isEmpty_kv {κ : Type} {kvs : List (κ × V)} {vs : List (κ × Value)} (r : KV kvs vs) : (!vs.isEmpty) = !kvs.isEmpty := by
  cases r <;> rfl
theorem isEmpty_of {xs : List V} {its : List Value} (r : Vals xs its) : (!its.toArray.isEmpty) = !xs.isEmpty := by
  cases r <;> simp
theorem line63 : (sizeLine : Nat) < 2 ^ 63 := by rw [sizeLine_eq]; decide
theorem tru_ok : TruR X (fun x H Q => ∃ k, TruV X.K x H k ∧ Q k H) := by
  intro pins s σ H x v Q I rx h
  obtain ⟨k, e, q⟩ := h
  have hl := line63
  have hs : sizeLine = 16777216 := sizeLine_eq
  cases x with
  | non =>
    cases rx
    have e' : k = false := e
    subst e'
    exact truthy_none ⟨H, I, q⟩
  | bl b =>
    cases rx
    have e' : k = b := e
    subst e'
    exact wpAny_truthy_bool ⟨H, I, q⟩
  | int i =>
    obtain ⟨t, rfl⟩ := rx
    have e' : k = (i != 0) := e
    subst e'
    exact PySem.P.truthy_int ⟨H, I, q⟩
  | str y =>
    obtain ⟨t, rfl⟩ := rx
    obtain ⟨hy, e'⟩ : y.length ≤ sizeLine ∧ k = ((y.length : Int) != 0) := e
    subst e'
    exact PySem.P.truthy_str (by omega) ⟨H, I.tok _, q⟩
  | byt y =>
    obtain ⟨t, rfl⟩ := rx
    obtain ⟨hy, e'⟩ : y.size ≤ sizeLine ∧ k = ((y.size : Int) != 0) := e
    subst e'
    exact PySem.W.truthy_bytes (by omega) ⟨H, I.tok _, q⟩
  | ref p =>
    cases rx
    have e' : (∃ xs, SqL X.K H p xs ∧ k = !xs.isEmpty) ∨ (∃ xs, SqT X.K H p xs ∧ k = !xs.isEmpty) ∨ ∃ kvs, Rd H p (.dK kvs) ∧ k = !kvs.isEmpty := e
    rcases e' with ⟨xs, hx, e'⟩ | ⟨xs, hx, e'⟩ | ⟨kvs, hx, e'⟩
    · subst e'
      obtain ⟨its, r, pl, hz⟩ := I.list hx
      have hlen := r.length
      exact wpAny_truthy_list pl.isList (by simp only [List.size_toArray]; omega) ⟨H, I.tok _, by rw [isEmpty_of r]; exact q⟩
    · subst e'
      obtain ⟨its, r, pl, hz⟩ := I.tuple hx
      have hlen := r.length
      exact truthy_tuple pl (by simp only [List.size_toArray]; omega) ⟨H, I.tok _, by rw [isEmpty_of r]; exact q⟩
    · subst e'
      obtain ⟨hz, hS, vs, r, m⟩ : kvs.length ≤ sizeLine ∧ (p == sysModules) = false ∧ ∃ vs, KV kvs vs ∧ s.heap.DictOf (mixKind X.prog X.w) p vs := hx.ok I.hok
      have hlen : kvs.length = vs.length := Paired.length r
      exact wpAny_truthy_dict hS m (by omega) ⟨H, I.tok _, by rw [isEmpty_kv r]; exact q⟩
  | _ => exact (show False from e).elim
theorem pt_truth (ha : PE X a ta) (he : ∀ whole, isTrue a X.env whole = (do let v ← whole; standAt a.pos; holding [v] (truthy v))) :
    PT X a (fun σ H Q => ta σ H fun x H' => ∃ k, TruV X.K x H' k ∧ Q k H') := by
  intro pins s σ H Q I h
  exact isTrue_plain (thn (ha pins s σ H _ I h) fun v s1 ⟨x, H1, I1, r1, q1⟩ => tru_ok pins s1 σ H1 x v Q I1 r1 q1) (he _)
theorem op_add_str : OpR X (binaryOp .Add) (fun x y H Q => ∃ i j, x = .str i ∧ y = .str j ∧ i.length + j.length ≤ sizeLine ∧ Q (.str (i ++ j)) H) := by
  intro pins s σ H x y v u Q I rx ry h
  obtain ⟨i, j, rfl, rfl, hz, q⟩ := h
  obtain ⟨t, rfl⟩ := rx
  obtain ⟨t', rfl⟩ := ry
  exact add_str (fun t' tk => ⟨.str (i ++ j), H, I.tok _, ⟨_, rfl⟩, q⟩) hz
theorem vals1 {x : V} {us : List Value} (r : Vals [x] us) : ∃ u, us = [u] ∧ RelV x u := by
  cases r with
  | cons r1 r2 => cases r2; exact ⟨_, rfl, r1⟩
theorem vals2 {x y : V} {us : List Value} (r : Vals [x, y] us) : ∃ u w', us = [u, w'] ∧ RelV x u ∧ RelV y w' := by
  cases r with
  | cons r1 r2 =>
    cases r2 with
    | cons r3 r4 => cases r4; exact ⟨_, _, rfl, r1, r3⟩
def LenV (K : PySem.W.Frag) (x : V) (H : Hp) (n : Nat) : Prop :=
  match x with
  | .str y => y.length ≤ sizeLine ∧ n = y.length
  | .byt y => y.size ≤ sizeLine ∧ n = y.size
  | .ref p => (∃ xs, SqL K H p xs ∧ n = xs.length) ∨ ∃ xs, SqT K H p xs ∧ n = xs.length
  | _ => False
theorem call_len : CallR X (.builtin "len") (fun xs H Q => ∃ x n, xs = [x] ∧ LenV X.K x H n ∧ Q (.int n) H) := by
  intro pins s σ H xs us Q I r h
  obtain ⟨x, n, rfl, e, q⟩ := h
  obtain ⟨u, rfl, rx⟩ := vals1 r
  have hl := line63
  have hs : sizeLine = 16777216 := sizeLine_eq
  cases x with
  | str y =>
    obtain ⟨t, rfl⟩ := rx
    obtain ⟨hy, e'⟩ : y.length ≤ sizeLine ∧ n = y.length := e
    subst e'
    exact len_str (by omega) ⟨.int _, H, I.tok _, ⟨_, rfl⟩, q⟩
  | byt y =>
    obtain ⟨t, rfl⟩ := rx
    obtain ⟨hy, e'⟩ : y.size ≤ sizeLine ∧ n = y.size := e
    subst e'
    exact PySem.W.len_bytes (by omega) ⟨.int _, H, I.tok _, ⟨_, rfl⟩, q⟩
  | ref p =>
    cases rx
    have e' : (∃ xs, SqL X.K H p xs ∧ n = xs.length) ∨ ∃ xs, SqT X.K H p xs ∧ n = xs.length := e
    rcases e' with ⟨xs, hx, e'⟩ | ⟨xs, hx, e'⟩
    · subst e'
      obtain ⟨its, r', pl, hz⟩ := I.list hx
      have hlen := r'.length
      exact Calls.call_len_list pl.isList (by simp only [List.size_toArray]; omega) ⟨.int xs.length, H, I.tok _, ⟨_, by simp only [List.size_toArray]; rw [hlen]⟩, q⟩
    · subst e'
      obtain ⟨its, r', pl, hz⟩ := I.tuple hx
      have hlen := r'.length
      exact len_tuple pl (by simp only [List.size_toArray]; omega) ⟨.int xs.length, H, I.tok _, ⟨_, by simp only [List.size_toArray]; rw [hlen]⟩, q⟩
  | _ => exact (show False from e).elim
end
structure ObjM (h : Heap) (x dx C : Addr) (mA : Str → Option Value) : Prop where
  obj : h.get? x = some (PySem.W.instObj C dx)
  ns : h.Ns1 dx mA
  ne : dx ≠ x
theorem lookIn_ns {h : Heap} {dx : Addr} {mA : Str → Option Value} (n : h.Ns1 dx mA) : ∃ od, h.get? dx = some od ∧ ∀ name, PySem.W.lookIn name od = some (mA name) := by
  obtain ⟨o, es, ep, ho, hd, hk, _, hm⟩ := n
  refine ⟨o, ho, fun name => ?_⟩
  have e := hm name
  unfold nsFind findBy at e
  rw [← Array.find?_toList] at e
  unfold PySem.W.lookIn
  rw [hd]
  dsimp only
  split
  · rename_i y q
    rw [q] at e
    exact congrArg some e
  · rename_i q
    rw [q] at e
    have a : es.toList.any (·.refKey) = false := by
      rw [List.any_eq_false]
      intro y hy
      obtain ⟨z, t, hkey⟩ := hk y (Array.mem_toList_iff.mp hy)
      simp [DictEntry.refKey, hkey]
    have a' : ¬ es.toList.any (·.refKey) = true := by rw [a]; exact Bool.false_ne_true
    rw [if_neg a']
    exact congrArg some e
theorem ObjM.look {h : Heap} {x dx C : Addr} {mA : Str → Option Value} (I : ObjM h x dx C mA) : ∃ od, PySem.W.InstAt h x (PySem.W.instObj C dx) C (some od) ∧ ∀ name, PySem.W.lookIn name od = some (mA name) :=
  let ⟨od, ho, hl⟩ := lookIn_ns I.ns
  ⟨od, ⟨I.obj, rfl, rfl, ho⟩, hl⟩
section
variable {prog : Program} {w : World} {A : Around} {E : Value → Shared → Prop} {s : Shared} {K : PySem.W.Frag} {x dx C f : Addr} {mA : Str → Option Value} {name : Str} {v : Value}
end
section
variable {P : Program} {w : World} {H H' : Hp} {h h' : Heap} {a C dx : Addr} {fs fs' : List (Str × V)}
theorem ins_get (hok : HOk P w H h) (e : H a = some (.ins C dx fs)) : ∃ mA, ObjM h a dx C mA ∧ (∀ f, RelO (fs.lookup f) (mA f)) ∧ PySem.Within mA (fs.map (·.1)) ∧ fs.length ≤ 1000 ∧ H dx = some (.own a) := by
  obtain ⟨d, z, ne, ob, mA, n, r, q⟩ := (show ObjOk P w H h a (.ins C dx fs) from hok a _ e)
  exact ⟨mA, ⟨ob, n, ne⟩, r, q, z, d⟩
end
structure Cls (K : PySem.W.Frag) (C : Addr) : Prop where
  pg : PySem.W.plainGet K C Str.empty = true
  hd : PySem.W.hasDictIn K C = true
  po : PySem.W.plainOver K C = true
  sa : PySem.W.findIn K (.ref C) "__setattr__" = some (some (.builtin "object.__setattr__"))
theorem Cls.get {K : PySem.W.Frag} {C : Addr} (c : Cls K C) (f : Str) : PySem.W.plainGet K C f = true := c.pg
structure Con (K : PySem.W.Frag) (C : Addr) (f : Str) (v : V) (u : Value) : Prop where
  at_ : PySem.W.findIn K (.ref C) f = some (some u)
  rel : RelV v u
  get : PySem.W.specialIn K u "__get__" = some none
  cp : PySem.W.copiedNames.contains f = false
structure Meth (K : PySem.W.Frag) (C : Addr) (m : Str) (f : Addr) : Prop where
  at_ : PySem.W.findIn K (.ref C) m = some (some (.ref f))
  fn : PySem.W.isFn K (.ref f) = true
  kp : PySem.W.keepIn K (.ref f) = true
section
variable {X : Cx} {pins : List (Addr × Obj)} {σ : St} {H : Hp} {s : Shared} {a C dx : Addr} {fs : List (Str × V)} {f : Str} {v : V} {A : Around} {E : Value → Shared → Prop}
end
section
variable {X : Cx} {o e value : Expr} {f : Str} {pos pos' tpos : Pos} {ta tv : TE}
end
section
variable {X : Cx} {pins : List (Addr × Obj)} {σ : St} {H : Hp} {s : Shared} {A : Around} {E : Value → Shared → Prop} {Q : Value → Shared → Prop} {c : Value} {b : Bool}
inductive TyOf (K : PySem.W.Frag) (H : Hp) : V → Value → Prop where
  | non : TyOf K H .non (.type "NoneType")
  | bl (x : Bool) : TyOf K H (.bl x) (.type "bool")
  | int (i : Int) : TyOf K H (.int i) (.type "int")
  | str (x : Str) : TyOf K H (.str x) (.type "str")
  | flt (x : UInt64) : TyOf K H (.flt x) (.type "float")
  | lst {a : Addr} {xs : List V} (e : H a = some (.lst xs)) : TyOf K H (.ref a) (.type "list")
  | frz {a : Addr} {o : Obj} {xs : List V} (e : H a = some (.frz o (.lst xs))) : TyOf K H (.ref a) (.type "list")
  | tup {a : Addr} {xs : List V} (e : H a = some (.tup xs)) : TyOf K H (.ref a) (.type "tuple")
  | dK {a : Addr} {kvs : List (Key × V)} (e : Rd H a (.dK kvs)) : TyOf K H (.ref a) (.type "dict")
  | dT {a : Addr} {kvs : List (List Key × V)} (e : H a = some (.dT kvs)) : TyOf K H (.ref a) (.type "dict")
  | ins {a C dx : Addr} {fs : List (Str × V)} (e : H a = some (.ins C dx fs)) (cl : Cls K C) (ha : PySem.W.findIn K (.ref C) "__class__" = some (some (.builtin "object.__class__")))
      (hn : PySem.W.specialIn K (.builtin "object.__class__") "__get__" = some (some (.builtin "getset_descriptor.__get__"))) (htk : PySem.W.takesIn K (.builtin "object.__class__") = some true)
      (hm : PySem.W.mroIn K C (.type "object") = some true) : TyOf K H (.ref a) (.ref C)
theorem isinst_ok {x : V} {u t : Value} (I : Inv X pins σ H s) (rx : RelV x u) (ty : TyOf X.K H x t) (e : PySem.W.kitOne X.K t c = some b) (h : ∀ tk, Q (.bool b) { s with toks := tk }) :
    wpAny (model X.prog X.w) A (call (.builtin "isinstance") [u, c]) Q E s := by
  cases ty with
  | non => cases (show u = Value.none from rx); exact PySem.W.kia_one PySem.W.kitx_none I.kIn True.intro e (fun z => nomatch z) h
  | bl y => cases (show u = Value.bool y from rx); exact PySem.W.kia_one PySem.W.kitx_bool I.kIn True.intro e (fun z => nomatch z) h
  | int i => obtain ⟨t, q⟩ := (show ∃ t, u = Value.int i t from rx); cases q; exact PySem.W.kia_one PySem.W.kitx_int I.kIn True.intro e (fun z => nomatch z) h
  | str y => obtain ⟨t, q⟩ := (show ∃ t, u = Value.str y t from rx); cases q; exact PySem.W.kia_one PySem.W.kitx_str I.kIn True.intro e (fun z => nomatch z) h
  | flt y => obtain ⟨t, q⟩ := (show ∃ t, u = Value.float y t from rx); cases q; exact PySem.W.kia_one PySem.W.kitx_float I.kIn True.intro e (fun z => nomatch z) h
  | @lst a xs ea =>
    cases (show u = Value.ref a from rx)
    obtain ⟨_, _, n, _, h1⟩ := (show ObjOk X.prog X.w H s.heap a (.lst xs) from I.hok a _ ea)
    exact PySem.W.kia_one PySem.W.kitx_list I.kIn ⟨_, h1, rfl⟩ e (fun z => nomatch z) h
  | @frz a ob xs ea =>
    cases (show u = Value.ref a from rx)
    obtain ⟨_, _, _, n, _, h1⟩ := (show ObjOk X.prog X.w H s.heap a (.frz ob (.lst xs)) from I.hok a _ ea)
    exact PySem.W.kia_one PySem.W.kitx_list I.kIn ⟨_, h1, rfl⟩ e (fun z => nomatch z) h
  | @tup a xs ea =>
    cases (show u = Value.ref a from rx)
    obtain ⟨_, _, _, p⟩ := (show ObjOk X.prog X.w H s.heap a (.tup xs) from I.hok a _ ea)
    obtain ⟨o, h1, h2, _⟩ := p
    exact PySem.W.kia_one PySem.W.kitx_tuple I.kIn ⟨o, h1, h2⟩ e (fun z => nomatch z) h
  | @dK a kvs ea =>
    cases (show u = Value.ref a from rx)
    obtain ⟨_, _, vs, _, p⟩ := (show ObjOk X.prog X.w H s.heap a (.dK kvs) from ea.ok I.hok)
    obtain ⟨o, es, ep, h1, h2, _⟩ := p
    exact PySem.W.kia_one PySem.W.kitx_dict I.kIn ⟨o, h1, h2.1⟩ e (fun z => nomatch z) h
  | @dT a kvs ea =>
    cases (show u = Value.ref a from rx)
    obtain ⟨_, _, xs, _, o, es, ep, h1, h2, _⟩ := (show ObjOk X.prog X.w H s.heap a (.dT kvs) from I.hok a _ ea)
    exact PySem.W.kia_one PySem.W.kitx_dict I.kIn ⟨o, h1, h2.1⟩ e (fun z => nomatch z) h
  | @ins a C dx fs ea cl ha hn htk hm =>
    cases (show u = Value.ref a from rx)
    obtain ⟨mA, O, _⟩ := ins_get I.hok ea
    obtain ⟨od, J, _⟩ := O.look
    exact PySem.W.kia_one (PySem.W.kitx_own (cl.get _) cl.hd ha hn htk hm) I.kIn J e (fun z => nomatch z) h
end
structure Room (k : Nat) (A : Around) : Prop where
  hd : A.handled = none
  dp : A.depth + 3 * k + 5 < recursionLimit
  un : A.units + 16 * k + 200 < cLine
  gd : A.guards = some []
theorem Room.mono {j k : Nat} {A : Around} (r : Room k A) (h : j ≤ k) : Room j A := ⟨r.hd, by have := r.dp; omega, by have := r.un; omega, r.gd⟩
theorem Room.deeper {k : Nat} {A : Around} (r : Room (k + 1) A) (env : Env) : Room k (A.deeper env) :=
  ⟨r.hd, by have := r.dp; show A.depth + 1 + 3 * k + 5 < _; omega, by have := r.un; show A.units + 3 + 16 * k + 200 < _; omega, r.gd⟩
theorem Room.in1 {k : Nat} {A : Around} (r : Room (k + 1) A) : Room k A.in1 :=
  ⟨r.hd, by have := r.dp; show A.depth + 3 * k + 5 < _; omega, by have := r.un; show A.units + 1 + 16 * k + 200 < _; omega, r.gd⟩
theorem Room.depth {k : Nat} {A : Around} (r : Room k A) : A.depth < recursionLimit := by have := r.dp; omega
theorem Room.units {k : Nat} {A : Around} (r : Room k A) : A.units + 64 < cLine := by have := r.un; omega
def tNil : TA := fun _ H Q => Q [] H
def tCons (ta : TE) (tr : TA) : TA := fun σ H Q => ta σ H fun x H1 => tr σ H1 fun xs H2 => Q (x :: xs) H2
section
variable {X : Cx} {e : Expr} {es : List Expr} {te : TE} {t : TA} {pos : Pos}
theorem pa_nil : PA X [] tNil := fun _ _ _ _ H Q I h => Calls.spliced_nil ⟨[], H, I, .nil, h⟩
theorem pa_cons (ha : PE X e te) (hr : PA X es t) (hs : starEach (e :: es) X.env = (false, eval e X.env) :: starEach es X.env := by rfl) : PA X (e :: es) (tCons te t) := by
  intro pos pins s σ H Q I h
  rw [hs]
  show wpAny _ _ (spliced ((false, eval e X.env) :: backTo pos (starEach es X.env))) _ _ s
  refine Calls.spliced_cons (thn (ha pins s σ H _ I h) fun u s1 ⟨x, H1, I1, r1, q1⟩ => ?_)
  exact thn (hr pos pins s1 σ H1 _ I1 q1) fun us s2 ⟨xs, H2, I2, r2, q2⟩ => ⟨x :: xs, H2, I2, .cons r1 r2, q2⟩
def tTup (t : TA) : TE := fun σ H Q => t σ H fun xs H1 => xs.length ≤ sizeLine ∧ ∀ p, H1 p = none → Q (.ref p) (upd H1 p (.tup xs))
def tLst (t : TA) : TE := fun σ H Q => t σ H fun xs H1 => xs.length ≤ sizeLine ∧ ∀ p, H1 p = none → Q (.ref p) (upd H1 p (.lst xs))
theorem pe_tup {x1} (h : PA X es t) : PE X (.Tuple es x1 pos) (tTup t) := by
  intro pins s σ H Q I hq
  refine wpAny_Tuple_spliced (thn (h pos pins s σ H _ I hq) fun us s1 ⟨xs, H1, I1, r, z, q⟩ => ⟨by rw [← r.length]; exact z, ?_⟩)
  have hf : H1 s1.heap.objs.size = none := I1.hok.fresh (Nat.le_refl _)
  refine ⟨.ref s1.heap.objs.size, upd H1 s1.heap.objs.size (.tup xs), I1.laid (t' := s1.toks) (fun b u e => Heap.get?_push_of_some _ e) (Nat.le_refl _) ?_, rfl, q _ hf⟩
  exact ⟨z, us, r, ⟨_, Heap.get?_push_size _ rfl, rfl, _, rfl⟩⟩
theorem pe_lst (h : PA X es t) : PE X (.List es pos) (tLst t) := by
  intro pins s σ H Q I hq
  refine wpAny_List_spliced (thn (h pos pins s σ H _ I hq) fun us s1 ⟨xs, H1, I1, r, z, q⟩ => ⟨by rw [← r.length]; exact z, ?_⟩)
  have hf : H1 s1.heap.objs.size = none := I1.hok.fresh (Nat.le_refl _)
  refine ⟨.ref s1.heap.objs.size, upd H1 s1.heap.objs.size (.lst xs), I1.laid (t' := s1.toks) (fun b u e => Heap.get?_push_of_some _ e) (Nat.le_refl _) ?_, rfl, q _ hf⟩
  exact ⟨z, us, 0, r, Heap.get?_push_size _ rfl⟩
end
abbrev Sp := List V → Hp → VK → XK → Prop
abbrev CXT := List Env → Hp → Shared → XK → Value → Shared → Prop
structure Env0 (P : Program) (w : World) (K : PySem.W.Frag) (mg : Str → Option Value) (base : Heap) (A : Around) (outer : List Env) (s : Shared) (H : Hp) : Prop where
  frames : A.frames = some outer
  mod : Mod K mg base
  bs : ∀ b o, base.get? b = some o → s.heap.get? b = some o ∧ H b = none
  bsz : base.objs.size ≤ s.heap.objs.size
  funs : s.heap.FunFrames base outer
  frf : ∀ b ∈ frs outer, H b = none
  hok : HOk P w H s.heap
  bare : AllBare s.gens
def CE (outer : List Env) (P : Program) (w : World) (H : Hp) (s : Shared) (Q : VK) (u : Value) (s' : Shared) : Prop :=
  ∃ v H', s'.os = s.os ∧ GB s.gens s'.gens ∧ Un (frs outer) [] H H' s.heap s'.heap ∧ HOk P w H' s'.heap ∧ RelV v u ∧ Q v H'
def CR (CX : CXT) (outer : List Env) (P : Program) (w : World) (H : Hp) (s : Shared) (Q : VK) (E : XK) (r : Result) (s' : Shared) : Prop :=
  match r with
  | .ok (.ret u) => CE outer P w H s Q u s'
  | .ok _ => False
  | .error e => CX outer H s E e s'
structure FnOk (P : Program) (w : World) (K : PySem.W.Frag) (mg : Str → Option Value) (base : Heap) (CX : CXT) (k : Nat) (f : Addr) (fd : FuncData) (ps : List Str) (sp : Sp) : Prop where
  len : ∀ vs H Q E, sp vs H Q E → vs.length = ps.length
  run : ∀ (A : Around) (outer : List Env) (s : Shared) (H : Hp) (args : Args) (us : List Value) (vs : List V) (Q : VK) (E : XK), Room k A → Env0 P w K mg base A outer s H → BindsTo s fd args (ps.zip us) → Vals vs us → sp vs H Q E →
    codeAny (model P w) A (.call (.ref f) args) (CR CX outer P w H s Q E) s
theorem FnOk.mono {P : Program} {w : World} {K : PySem.W.Frag} {mg : Str → Option Value} {base : Heap} {CX : CXT} {j k : Nat} {f : Addr} {fd : FuncData} {ps : List Str} {sp : Sp} (F : FnOk P w K mg base CX j f fd ps sp) (h : j ≤ k) :
    FnOk P w K mg base CX k f fd ps sp := ⟨F.len, fun A outer s H args us vs Q E hr => F.run A outer s H args us vs Q E (hr.mono h)⟩
theorem FnOk.imp {P : Program} {w : World} {K : PySem.W.Frag} {mg : Str → Option Value} {base : Heap} {CX : CXT} {k : Nat} {f : Addr} {fd : FuncData} {ps : List Str} {sp sp' : Sp} (F : FnOk P w K mg base CX k f fd ps sp)
    (h : ∀ vs H Q E, sp' vs H Q E → sp vs H Q E) : FnOk P w K mg base CX k f fd ps sp' :=
  ⟨fun vs H Q E q => F.len vs H Q E (h _ _ _ _ q), fun A outer s H args us vs Q E hr he hb hv hs => F.run A outer s H args us vs Q E hr he hb hv (h _ _ _ _ hs)⟩
theorem Env0.in1 {P : Program} {w : World} {K : PySem.W.Frag} {mg : Str → Option Value} {base : Heap} {A : Around} {outer : List Env} {s : Shared} {H : Hp} (e : Env0 P w K mg base A outer s H) :
    Env0 P w K mg base A.in1 outer s H := ⟨e.frames, e.mod, e.bs, e.bsz, e.funs, e.frf, e.hok, e.bare⟩
section
variable {X : Cx} {pins : List (Addr × Obj)} {σ : St} {H : Hp} {s s' : Shared}
theorem Inv.env0 (I : Inv X pins σ H s) : Env0 X.prog X.w X.K X.mg X.base X.A X.stack s H :=
  ⟨I.ok.frames, I.ok.mod, I.bs, Nat.le_trans I.ok.bsz I.sz, I.stack, I.stkFree, I.hok, I.bare.all⟩
theorem Inv.after {Q : VK} {u : Value} (I : Inv X pins σ H s) (h : CE X.stack X.prog X.w H s Q u s') : EP X pins σ Q u s' := by
  obtain ⟨v, H', os, bare, un, hok, r, q⟩ := h
  obtain ⟨hh, g, d, t, os'⟩ := s'
  obtain rfl : os' = s.os := os
  exact ⟨v, H', I.call (h' := hh) (g' := g) (d' := d) (t' := t) (ch := []) un hok bare (fun b z => absurd z (by simp)), r, q⟩
end
def tCall (sp : Sp) (dvs : List V) (E : XK) (t : TA) : TE := fun σ H Q => t σ H fun vs H1 => sp (vs ++ dvs) H1 Q E
def Binds (K : PySem.W.Frag) (fd : FuncData) (ps : List Str) (ds : List Value) : Prop :=
  ∀ (s : Shared) (us : List Value), K.In s.heap → (us ++ ds).length = ps.length → BindsTo s fd ⟨us, []⟩ (ps.zip (us ++ ds))
theorem Binds.all {K : PySem.W.Frag} {fd : FuncData} {ps : List Str} (h : ∀ us : List Value, us.length = ps.length → bindArgs fd ⟨us, []⟩ = pure (ps.zip us)) : Binds K fd ps [] := fun s us _ hl => by
  rw [List.append_nil] at hl ⊢
  exact .of_eq (h us hl)
def Passes (CX : CXT) (X : Cx) (E : XK) : Prop := ∀ (pins : List (Addr × Obj)) (σ : St) (H : Hp) (s : Shared) (e : Value) (s' : Shared), Inv X pins σ H s → CX X.stack H s E e s' → X.xe e s'
section
variable {X : Cx} {CX : CXT} {k : Nat} {f C : Addr} {fd : FuncData} {ps : List Str} {sp : Sp} {dvs : List V} {ds : List Value} {E : XK} {x m : Str} {p pos apos : Pos} {e o : Expr} {es : List Expr} {ta : TE} {t : TA}
theorem run_fn {pins : List (Addr × Obj)} {σ : St} {H : Hp} {s : Shared} {Q : VK} {us : List Value} {vs : List V} (F : FnOk X.prog X.w X.K X.mg X.base CX k f fd ps sp) (hr : Room k X.A) (hb : Binds X.K fd ps ds) (hd : Vals dvs ds) (hx : Passes CX X E)
    (I : Inv X pins σ H s) (r : Vals vs us) (h : sp (vs ++ dvs) H Q E) : wpAny (model X.prog X.w) X.A (call (.ref f) us) (EP X pins σ Q) X.xe s := by
  have r2 : Vals (vs ++ dvs) (us ++ ds) := r.append hd
  have hl : (us ++ ds).length = ps.length := by rw [← r2.length]; exact F.len _ _ _ _ h
  refine wpAny_call (codeAny_mono (F.run X.A X.stack s H ⟨us, []⟩ (us ++ ds) (vs ++ dvs) Q E hr I.env0 (hb s us I.kIn hl) r2 h) fun r s' hq => ?_)
  cases r with
  | error e => exact hx pins σ H s e s' I hq
  | ok fl =>
    cases fl with
    | ret u => exact I.after hq
    | next => exact False.elim hq
    | brk => exact False.elim hq
    | cont => exact False.elim hq
theorem pe_call (F : FnOk X.prog X.w X.K X.mg X.base CX k f fd ps sp) (hr : Room k X.A) (hg : Gl X x) (hm : X.mg x = some (.ref f)) (hk : PySem.W.keepIn X.K (.ref f) = true) (hb : Binds X.K fd ps ds) (hd : Vals dvs ds) (hx : Passes CX X E)
    (ha : PA X (e :: es) t) (hdb : (x == ("__debug__" : Str)) = false := by decide) (he : starEach (e :: es) X.env = (false, eval e X.env) :: starEach es X.env := by rfl) (hpl : (backTo pos (starEach es X.env)).any (·.1) = false := by rfl) :
    PE X (.Call (.Name x p) (e :: es) [] pos) (tCall sp dvs E t) := by
  intro pins s σ H Q I h
  refine wpAny_Call_Name_kw (ld_glob I hg hm ?_ hdb)
  refine PySem.W.callWith_K (h₀ := X.base) I.ok.mod.kin hk (thn (ha pos pins s σ H _ I h) fun us s1 ⟨vs, H1, I1, r, q⟩ => ⟨I1.kIn, ?_⟩) he hpl
  exact run_fn F hr hb hd hx I1 r q
structure Mk (K : PySem.W.Frag) (C f : Addr) : Prop where
  makes : PySem.W.makesIn K C = true
  init : PySem.W.findIn K (.ref C) "__init__" = some (some (.ref f))
  fn : PySem.W.isFn K (.ref f) = true
  kp : PySem.W.keepIn K (.ref C) = true
end
section
variable {X : Cx} {CX : CXT} {k : Nat} {f C : Addr} {fd : FuncData} {ps ks : List Str} {sp : Sp} {E : XK} {x m : Str} {p pos apos kpos : Pos} {e o : Expr} {es : List Expr} {kws : List Keyword} {te ta : TE} {t tk : TA} {nm : Option Str}
structure KBinds (K : PySem.W.Frag) (fd : FuncData) (ps ks : List Str) (g : List Value → List Value → List Value) (gV : List V → List V → List V) : Prop where
  to : ∀ (s : Shared) (us ws : List Value), K.In s.heap → (g us ws).length = ps.length → BindsTo s fd ⟨us, ks.zip ws⟩ (ps.zip (g us ws))
  rel : ∀ {vs : List V} {us : List Value} {zs : List V} {ws : List Value}, Vals vs us → Vals zs ws → Vals (gV vs zs) (g us ws)
variable {g : List Value → List Value → List Value} {gV : List V → List V → List V}
end
structure FnScope (N P : List Str) (sc : Scope) : Prop where
  kind : sc.kind = .function
  co : sc.isCoroutine = false
  gen : sc.isGenerator = false
  nd : N.Nodup
  pre : N.take P.length = P
  par : ∀ x ∈ P, sc.names.lookup x = some .local ∨ sc.names.lookup x = some .cell
  nofree : ∀ y ∈ sc.names, y.2 ≠ .free
theorem bindL_out {kindOf : Str → Option NameKind} {x : Str} : ∀ {binds : List (Str × Value)} {m : Str → Option Value}, (∀ v, (x, v) ∉ binds) → bindL kindOf binds m x = m x
  | [], _, _ => rfl
  | (n, v) :: r, m, h => by
    unfold bindL
    rw [bindL_out fun w hw => h w (List.mem_cons_of_mem _ hw)]
    split
    · have : x ≠ n := by rintro rfl; exact h v List.mem_cons_self
      simp [this]
    · rfl
theorem bindC_out {kindOf : Str → Option NameKind} {x : Str} : ∀ {binds : List (Str × Value)} {m : Str → Option Value}, (∀ v, (x, v) ∉ binds) → bindC kindOf binds m x = m x
  | [], _, _ => rfl
  | (n, v) :: r, m, h => by
    unfold bindC
    rw [bindC_out fun w hw => h w (List.mem_cons_of_mem _ hw)]
    split
    · rfl
    · have : x ≠ n := by rintro rfl; exact h v List.mem_cons_self
      simp [this]
theorem bindL_get {kindOf : Str → Option NameKind} {x : Str} {v : Value} : ∀ {P : List Str} {vs : List Value} {i : Nat} {m : Str → Option Value}, P.Nodup → P[i]? = some x → vs[i]? = some v → kindOf x = some .local →
    bindL kindOf (P.zip vs) m x = some v
  | [], _, _, _, _, h, _, _ => by simp at h
  | _ :: _, [], _, _, _, _, h, _ => by simp at h
  | p :: P, w :: vs, 0, m, nd, h1, h2, hk => by
    simp at h1 h2; subst h1; subst h2
    show bindL kindOf ((p, w) :: P.zip vs) m p = _
    unfold bindL
    rw [bindL_out fun v hv => (List.nodup_cons.mp nd).1 (List.of_mem_zip hv).1, if_pos hk]
    simp
  | p :: P, w :: vs, i + 1, m, nd, h1, h2, hk => by
    show bindL kindOf ((p, w) :: P.zip vs) m x = _
    unfold bindL
    exact bindL_get (i := i) (List.nodup_cons.mp nd).2 (by simpa using h1) (by simpa using h2) hk
theorem bindC_get {kindOf : Str → Option NameKind} {x : Str} {v : Value} : ∀ {P : List Str} {vs : List Value} {i : Nat} {m : Str → Option Value}, P.Nodup → P[i]? = some x → vs[i]? = some v → kindOf x ≠ some .local →
    bindC kindOf (P.zip vs) m x = some v
  | [], _, _, _, _, h, _, _ => by simp at h
  | _ :: _, [], _, _, _, _, h, _ => by simp at h
  | p :: P, w :: vs, 0, m, nd, h1, h2, hk => by
    simp at h1 h2; subst h1; subst h2
    show bindC kindOf ((p, w) :: P.zip vs) m p = _
    unfold bindC
    rw [bindC_out fun v hv => (List.nodup_cons.mp nd).1 (List.of_mem_zip hv).1, if_neg hk]
    simp
  | p :: P, w :: vs, i + 1, m, nd, h1, h2, hk => by
    show bindC kindOf ((p, w) :: P.zip vs) m x = _
    unfold bindC
    exact bindC_get (i := i) (List.nodup_cons.mp nd).2 (by simpa using h1) (by simpa using h2) hk
def start (N : List Str) (vs : List V) : St := vs.map some ++ List.replicate (N.length - vs.length) none
def cxOf (CX : CXT) (P : Program) (w : World) (K : PySem.W.Frag) (mg : Str → Option Value) (base : Heap) (N : List Str) (qual : Str) (scope : Scope) (f : Addr) (cd : Value) (A : Around) (outer : List Env) (s : Shared) (H : Hp) (E : XK) : Cx where
  prog := P
  w := w
  K := K
  mg := mg
  base := base
  A := A.deeper (envOfC qual scope s.heap.objs.size f cd)
  N := N
  s_0 := s
  H_0 := H
  env := envOfC qual scope s.heap.objs.size f cd
  outer := outer
  stack := envOfC qual scope s.heap.objs.size f cd :: outer
  ex := []
  calm := true
  fn := fun _ => true
  pn := []
  xe := fun e s' => wpAny (model P w) (A.deeper (envOfC qual scope s.heap.objs.size f cd)) (leaving (envOfC qual scope s.heap.objs.size f cd) e) (fun _ s'' => CX outer H s E e s'') (fun e' s'' => CX outer H s E e' s'') s'
theorem cell_has {sc : Scope} {n : Nat} {x : Str} (h : sc.names.lookup x = some .cell) : ∃ c, (cellsFrom n sc.names []).lookup x = some c := by
  have q := PySem.W.cellsFrom_some sc.names n [] (.inl h)
  exact Option.isSome_iff_exists.mp q
theorem inv_start {CX : CXT} {P : Program} {w : World} {K : PySem.W.Frag} {mg : Str → Option Value} {base : Heap} {N ps : List Str} {qual : Str} {scope : Scope} {f : Addr} {cd : Value} {A : Around} {outer : List Env} {s s1 : Shared} {H : Hp} {E : XK} {us : List Value} {vs : List V}
    (S : FnScope N ps scope) (hd : A.handled = none) (e0 : Env0 P w K mg base A outer s H) (hl : vs.length = ps.length) (r : Vals vs us)
    (x : InCallC s s.heap.objs.size (bindL (envOfC qual scope s.heap.objs.size f cd).kindOf (ps.zip us) fun _ => none) (cellsFrom (s.heap.objs.size + 1) scope.names []) (bindC (envOfC qual scope s.heap.objs.size f cd).kindOf (ps.zip us) fun _ => none) s1) :
    Inv (cxOf CX P w K mg base N qual scope f cd A outer s H E) [] (start N vs) H s1 := by
  have hpl : ps.length ≤ N.length := by have := congrArg List.length S.pre; rw [List.length_take] at this; omega
  obtain ⟨h1, tk, rfl, hk⟩ := x.done
  have noA : ∀ b : Addr, b ∉ (cxOf CX P w K mg base N qual scope f cd A outer s H E).ex := fun b z => absurd (show b ∈ ([] : List Addr) from z) (by simp)
  refine ⟨⟨e0.mod, S.kind, rfl, rfl, Nat.le_refl _, fun y z c h1 h2 => ?_, fun y hy => ?_, fun y c _ h => ?_, fun _ => hd, Around.frames_deeper e0.frames, .inr ⟨rfl, rfl⟩, fun b z => absurd z (noA b), e0.bs, e0.bsz, fun b _ _ => noA b, fun b z => absurd z (noA b), e0.funs, e0.frf⟩,
    rfl, .refl e0.bare, Un.kept hk, ⟨_, x.toInCall.ns, fun i y v h1 h2 h3 => ?_⟩, fun y c h => ⟨_, x.cell y c h⟩, e0.hok.fresh (Nat.le_refl _), fun y c h => ?_, fun p hp => absurd (show p ∈ ([] : List (Addr × Obj)) from hp) (by simp), e0.hok.kept hk, ?_⟩
  · exact name_of_addr x.apart (PySem.mem_of_lookup h1) (PySem.mem_of_lookup h2)
  · have hy : scope.names.lookup y = some .cell ∨ scope.names.lookup y = some .free := hy
    rcases hy with hy | hy
    · exact cell_has hy
    · exact absurd rfl (S.nofree _ (PySem.mem_of_lookup hy))
  · exact Nat.le_of_lt (x.above y c (PySem.mem_of_lookup h))
  · have hi : i < vs.length := by
      unfold start at h2
      by_cases hi : i < vs.length
      · exact hi
      · rw [List.getElem?_append_right (by simpa using hi)] at h2
        rw [List.getElem?_replicate] at h2
        split at h2 <;> cases h2
    have ha : vs[i]? = some v := by
      unfold start at h2
      rw [List.getElem?_append_left (by simpa using hi), List.getElem?_map] at h2
      cases e : vs[i]? with
      | none => rw [e] at h2; cases h2
      | some a => rw [e] at h2; cases h2; rfl
    obtain ⟨u, hu, rv⟩ := r.get ha
    have hp : ps[i]? = some y := by
      rw [← S.pre, List.getElem?_take_of_lt (by omega)]; exact h1
    have ndP : ps.Nodup := by rw [← S.pre]; exact S.nd.sublist (List.take_sublist _ _)
    refine ⟨u, rv, ?_⟩
    rcases S.par y (List.mem_of_getElem? hp) with k | k
    · exact .inl ⟨k, bindL_get ndP hp hu k⟩
    · obtain ⟨c, e⟩ := cell_has (n := s.heap.objs.size + 1) k
      refine .inr ⟨.inl k, c, e, ?_⟩
      have q := x.cell y c e
      rw [bindC_get ndP hp hu (by show scope.names.lookup y ≠ _; rw [k]; decide)] at q
      exact q
  · exact e0.hok.fresh (Nat.le_of_lt (x.above y c (PySem.mem_of_lookup h)))
  · unfold start
    show _ = N.length
    rw [List.length_append, List.length_map, List.length_replicate]
    omega
theorem fn_of {CX : CXT} {P : Program} {w : World} {K : PySem.W.Frag} {mg : Str → Option Value} {base : Heap} {k : Nat} {f : Addr} {name qual : Str} {params : Arguments} {body : List Stmt} {scope : Scope} {dV kV doc pm cdv ct oc : Value} {an od : Option Addr}
    {osl : Array (Option Value)} {N ps : List Str} {sp : Sp} (lk : K.lookup f = some ⟨oc, od, .func (PySem.W.fnOf name qual params body scope dV kV doc pm an cdv ct), osl⟩) (hcd : PySem.W.codeIn K cdv qual = true) (S : FnScope N ps scope)
    (len : ∀ vs H Q E, sp vs H Q E → vs.length = ps.length)
    (hbody : ∀ (A : Around) (outer : List Env) (s : Shared) (H : Hp) (vs : List V) (Q : VK) (E : XK), Room k (A.deeper (envOfC qual scope s.heap.objs.size f cdv)) → sp vs H Q E →
      ∃ t, PSs (cxOf CX P w K mg base N qual scope f cdv A outer s H E) body t ∧ t { nx := fun _ H' => Q .non H', rt := Q } (start N vs) H) :
    FnOk P w K mg base CX (k + 1) f (PySem.W.fnOf name qual params body scope dV kV doc pm an cdv ct) ps sp := by
  refine ⟨len, fun A outer s H args us vs Q E hr e0 hb r hsp => ?_⟩
  have hl := len _ _ _ _ hsp
  have KX : K.In s.heap := e0.mod.kin.keeps fun b o e => (e0.bs b o e).1
  have lim : s.heap.NoLimit := e0.mod.nolimit.keeps fun b o e => (e0.bs b o e).1
  have hkind : ∀ y ∈ ps.zip us, scope.names.lookup y.1 = some .local ∨ (scope.names.lookup y.1 = some .cell ∧ ((cellsFrom (s.heap.objs.size + 1) scope.names []).lookup y.1).isSome = true) := fun ⟨n, v⟩ hy => by
    rcases S.par n (List.of_mem_zip hy).1 with q | q
    · exact .inl q
    · exact .inr ⟨q, PySem.W.cellsFrom_some _ _ _ (.inl q)⟩
  refine codeAny_call_function hr.depth (KX _ _ lk) rfl S.co S.gen rfl (PySem.W.codeRec_of KX hcd) (hb _ _ _ _ ?_)
  refine wpAny_newFunctionEnv_cells S.kind hkind fun env he s1 x => ?_
  subst he
  refine ⟨lim.keeps x.toInCall.keep, codeAny_func ?_⟩
  obtain ⟨t, ht, hq⟩ := hbody A outer s H vs Q E (hr.deeper _) hsp
  have I : Inv (cxOf CX P w K mg base N qual scope f cdv A outer s H E) [] (start N vs) H s1 := inv_start S hr.hd e0 hl r x
  refine wpAny_mono (ht [] s1 (start N vs) H _ I hq) (fun fl s' hs => ?_) fun e s' hs => hs
  have fin : ∀ {σ' : St} {H' : Hp} {v : V} {u : Value}, Inv (cxOf CX P w K mg base N qual scope f cdv A outer s H E) [] σ' H' s' → RelV v u → Q v H' → CE outer P w H s Q u s' :=
    fun {σ' H' v u} J rv q => ⟨v, H', J.os, J.bare, J.base, J.hok, rv, q⟩
  cases fl with
  | ret u =>
    obtain ⟨v, σ', H', J, rv, q⟩ := hs
    exact fin J rv q
  | next =>
    obtain ⟨σ', H', J, q⟩ := hs
    exact fin (v := V.non) (u := Value.none) J rfl q
  | brk =>
    obtain ⟨_, _, _, q⟩ := hs
    exact False.elim q
  | cont =>
    obtain ⟨_, _, _, q⟩ := hs
    exact False.elim q
section
variable {X : Cx} {x : Str} {p pos : Pos} {e : Expr} {es : List Expr} {t : TA} {id T : String} {r : List V → Hp → VK → Prop}
def tCB (r : List V → Hp → VK → Prop) (t : TA) : TE := fun σ H Q => t σ H fun vs H1 => r vs H1 Q
theorem pe_callB (hc : CallR X (.builtin id) r) (hg : Gl X x) (hm : X.mg x = none) (hv : bootBuiltins x = some (.builtin id)) (ha : PA X (e :: es) t) (hn : x ≠ "__name__" := by decide) (hdb : (x == ("__debug__" : Str)) = false := by decide)
    (he : starEach (e :: es) X.env = (false, eval e X.env) :: starEach es X.env := by rfl) (hpl : (backTo pos (starEach es X.env)).any (·.1) = false := by rfl) : PE X (.Call (.Name x p) (e :: es) [] pos) (tCB r t) := by
  intro pins s σ H Q I h
  refine wpAny_Call_Name_kw (ld_blt I hg hm hv ?_ hn hdb)
  exact PyProof.Rows.callWith_builtin1 (thn (ha pos pins s σ H _ I h) fun us s1 ⟨vs, H1, I1, r1, q1⟩ => hc pins s1 σ H1 vs us Q I1 r1 q1) he hpl
theorem pe_callTy (hc : CallR X (.type T) r) (hg : Gl X x) (hm : X.mg x = none) (hv : bootBuiltins x = some (.type T)) (ha : PA X (e :: es) t) (hn : x ≠ "__name__" := by decide) (hdb : (x == ("__debug__" : Str)) = false := by decide)
    (he : starEach (e :: es) X.env = (false, eval e X.env) :: starEach es X.env := by rfl) (hpl : (backTo pos (starEach es X.env)).any (·.1) = false := by rfl) : PE X (.Call (.Name x p) (e :: es) [] pos) (tCB r t) := by
  intro pins s σ H Q I h
  refine wpAny_Call_Name_kw (ld_blt I hg hm hv ?_ hn hdb)
  exact PyProof.Rows.callWith_type1 (thn (ha pos pins s σ H _ I h) fun us s1 ⟨vs, H1, I1, r1, q1⟩ => hc pins s1 σ H1 vs us Q I1 r1 q1) he hpl
end
end L2
namespace HT
open PySem PyProof.Rows
def lexLt : List Int → List Int → Bool
  | [], [] => false
  | [], _ :: _ => true
  | _ :: _, [] => false
  | x :: xs, y :: ys => if x = y then lexLt xs ys else decide (x < y)
section
open PySem.SeqAt
open PySem.AutoSeq1 (wpAny_loadPart')
open PySem.MeetsSeq PySem.MeetsSeq2 PySem.MeetsSeq3
end
section
variable {prog : Program} {w : World} {A : Around} {E : Value → Shared → Prop} {s : Shared}
theorem cat_tup {t b : Addr} {vs ws : List Value} {Q : Value → Shared → Prop} (ht : IsTup s.heap t vs.toArray) (hb : IsTup s.heap b ws.toArray) (hv : vs ≠ [])
    (h1 : ws = [] → Q (.ref t) s) (h2 : ws ≠ [] → Q (.ref s.heap.objs.size) { s with heap := s.heap.push { cls := .type "tuple", data := .seq (vs ++ ws).toArray } })
    (hsz : vs.length + ws.length ≤ sizeLine) : wpAny (model prog w) A (binaryOp .Add (.ref t) (.ref b)) Q E s := by
  obtain ⟨⟨cls, dd, data, sl⟩, ho, hc, n, hd⟩ := id ht
  obtain ⟨⟨cls2, dd2, data2, sl2⟩, ho2, hc2, n2, hd2⟩ := id hb
  simp only at hc hd hc2 hd2
  subst hc hd hc2 hd2
  have e : vs.toArray ++ ws.toArray = (vs ++ ws).toArray := by simp
  by_cases hw : ws = []
  · exact concat_meets ⟨_, ho, rfl⟩ ⟨_, ho2, rfl⟩ noFill_tuple_add seq_tuple_add PySem.F.slot_tuple_add PySem.F.entry_tuple_add (PySem.F.args_tuple_add_2 _ _)
      (tuple_addW1 t b vs.toArray ws.toArray n n2 dd dd2 sl sl2 (by simpa using hv) (by simp [hw])) ⟨ho, ho2, h1 hw⟩
  · refine concat_meets ⟨_, ho, rfl⟩ ⟨_, ho2, rfl⟩ noFill_tuple_add seq_tuple_add PySem.F.slot_tuple_add PySem.F.entry_tuple_add (PySem.F.args_tuple_add_2 _ _)
      (tuple_addW2 t b vs.toArray ws.toArray n n2 dd dd2 sl sl2 (by simpa using hv) (by simpa using hw) (by rw [List.size_toArray, List.size_toArray]; exact hsz)) ⟨ho, ho2, ?_⟩
    rw [e]
    exact h2 hw
def sIx (n d : Nat) : Option Int → Nat
  | none => d
  | some v => if v < 0 then (v + (n : Int)).toNat else min v.toNat n
end
end HT
namespace L2
open PySem PySem.Spec PyProof.Rows
abbrev TO := St → Hp → (Option Int → Hp → Prop) → Prop
def PO (X : Cx) (e : Option Expr) (t : TO) : Prop :=
  ∀ (pins : List (Addr × Obj)) (s : Shared) (σ : St) (H : Hp) (Q : Option Int → Hp → Prop), Inv X pins σ H s → t σ H Q →
    wpAny (model X.prog X.w) X.A (evalPart e X.env) (fun u s' => ∃ o H', Inv X pins σ H' s' ∧ IsPart u o ∧ Q o H') X.xe s
def tNoPart : TO := fun _ H Q => Q none H
def tPart (t : TE) : TO := fun σ H Q => t σ H fun x H1 => ∃ i, x = .int i ∧ Q (some i) H1
section
variable {X : Cx} {e : Expr} {te : TE} {lo hi : Option Expr} {tl th : TO} {pos p2 : Pos}
theorem po_none : PO X none tNoPart := by
  intro pins s σ H Q I h
  rw [evalPart_none]
  exact wpAny_pure ⟨none, H, I, .none, h⟩
theorem po_some (h : PE X e te) : PO X (some e) (tPart te) := by
  intro pins s σ H Q I hw
  rw [evalPart_some]
  refine thn (h pins s σ H _ I hw) fun u s1 ⟨x, H1, I1, r1, q1⟩ => ?_
  obtain ⟨i, rfl, q⟩ := q1
  obtain ⟨t, rfl⟩ := r1
  exact ⟨some i, H1, I1, .int i t, q⟩
def SlR (X : Cx) (r : V → Option Int → Option Int → Hp → VK → Prop) : Prop :=
  ∀ (pins : List (Addr × Obj)) (s : Shared) (σ : St) (H : Hp) (x : V) (v vl vu : Value) (lo hi : Option Int) (sl : Addr) (Q : VK), Inv X pins σ H s → RelV x v → s.heap.IsSliceOf sl vl vu .none → IsPart vl lo → IsPart vu hi → r x lo hi H Q →
    ∃ T id, typeLookup (.type T) "__getitem__" = pure (some (.builtin id)) ∧ s.TypeIs v T ∧ wpAny (model X.prog X.w) X.A (getItem v (.ref sl)) (EP X pins σ Q) X.xe s
def tSl (r : V → Option Int → Option Int → Hp → VK → Prop) (te : TE) (tl th : TO) : TE := fun σ H Q => te σ H fun x H1 => tl σ H1 fun l H2 => th σ H2 fun u H3 => r x l u H3 Q
theorem pe_slice {r : V → Option Int → Option Int → Hp → VK → Prop} (hr : SlR X r) (he : PE X e te) (hl : PO X lo tl) (hu : PO X hi th) : PE X (.Subscript e (.Slice lo hi none p2) pos) (tSl r te tl th) := by
  intro pins s σ H Q I h
  refine Subscript_ (thn (he pins s σ H _ I h) fun v s1 ⟨x, H1, I1, r1, q1⟩ => ?_)
  refine wpAny_Slice (thn (hl pins s1 σ H1 _ I1 q1) fun vl s2 ⟨l, H2, I2, pl, q2⟩ => thn (hu pins s2 σ H2 _ I2 q2) fun vu s3 ⟨u, H3, I3, pu, q3⟩ => ?_)
  rw [evalPart_none]
  refine wpAny_pure ?_
  have I4 : Inv X pins σ H3 { s3 with heap := s3.heap.push { cls := .type "slice", data := .fields #[vl, vu, .none] } } := I3.kept (t' := s3.toks) fun b ob q => Heap.get?_push_of_some _ q
  obtain ⟨T, id, hT, ht, hg⟩ := hr pins { s3 with heap := s3.heap.push { cls := .type "slice", data := .fields #[vl, vu, .none] } } σ H3 x v vl vu l u s3.heap.objs.size Q I4 r1 (Heap.IsSliceOf.new ..) pl pu q3
  show wpAny (model X.prog X.w) X.A (subscriptTail e (.Slice lo hi none p2) v (.ref s3.heap.objs.size)) (EP X pins σ Q) X.xe { s3 with heap := s3.heap.push { cls := .type "slice", data := .fields #[vl, vu, .none] } }
  exact tail_any (ops := [.ref s3.heap.objs.size, v]) ht hT hg (by with_unfolding_all rfl)
def cutV (xs : List V) (lo hi : Option Int) : List V := (xs.drop (HT.sIx xs.length 0 lo)).take (HT.sIx xs.length xs.length hi - HT.sIx xs.length 0 lo)
theorem cutV_length (xs : List V) (lo hi : Option Int) : (cutV xs lo hi).length ≤ xs.length := by
  unfold cutV
  rw [List.length_take, List.length_drop]
  omega
def rCatT (K : PySem.W.Frag) : R2 := fun x y H Q => ∃ a b xs ys, x = .ref a ∧ y = .ref b ∧ SqT K H a xs ∧ SqT K H b ys ∧ xs ≠ [] ∧ xs.length + ys.length ≤ sizeLine ∧
  (ys = [] → Q (.ref a) H) ∧ (ys ≠ [] → ∀ p, H p = none → Q (.ref p) (upd H p (.tup (xs ++ ys))))
theorem Vals.nil_iff {xs : List V} {us : List Value} (r : Vals xs us) : us = [] ↔ xs = [] := by
  cases r with
  | nil => simp
  | cons _ _ => simp
theorem op_catT : OpR X (binaryOp .Add) (rCatT X.K) := by
  intro pins s σ H x y v u Q I rx ry h
  obtain ⟨a, b, xs, ys, rfl, rfl, ha, hb, hx, hz, q1, q2⟩ := h
  cases rx
  cases ry
  obtain ⟨its, r1, p1, _⟩ := I.tuple ha
  obtain ⟨its2, r2, p2, _⟩ := I.tuple hb
  refine HT.cat_tup p1 p2 (fun z => hx (r1.nil_iff.mp z)) (fun z => ⟨.ref a, H, I, rfl, q1 (r2.nil_iff.mp z)⟩) (fun z => ?_) (by rw [← r1.length, ← r2.length]; exact hz)
  refine ⟨.ref s.heap.objs.size, _, I.laid (t' := s.toks) (o := .tup (xs ++ ys)) (fun b ob q => Heap.get?_push_of_some _ q) (Nat.le_refl _) ?_, rfl, q2 (fun w => z (r2.nil_iff.mpr w)) _ (I.hok.fresh (Nat.le_refl _))⟩
  exact ⟨by rw [List.length_append]; exact hz, _, r1.append r2, IsTup.new _ _⟩
end
def ixN (n : Nat) (i : Int) : Option Nat := if 0 ≤ i then (if i < n then some i.toNat else none) else if -(n : Int) ≤ i then some (i + n).toNat else none
def atI {α : Type} (xs : List α) (i : Int) : Option α := (ixN xs.length i).bind fun j => xs[j]?
theorem ixN_seq {n : Nat} {i : Int} {j : Nat} (h : ixN n i = some j) : seqIndex? i n = some j ∧ j < n ∧ -(n : Int) ≤ i ∧ i < n := by
  unfold ixN at h
  by_cases h0 : 0 ≤ i
  · rw [if_pos h0] at h
    by_cases h1 : i < n
    · rw [if_pos h1] at h
      have e : i.toNat = j := Option.some.inj h
      exact ⟨by rw [seqIndex_of h0 h1, e], by omega, by omega, h1⟩
    · rw [if_neg h1] at h; cases h
  · rw [if_neg h0] at h
    by_cases h1 : -(n : Int) ≤ i
    · rw [if_pos h1] at h
      have e : (i + n).toNat = j := Option.some.inj h
      exact ⟨by rw [seqIndex_neg (by omega) h1, e], by omega, h1, by omega⟩
    · rw [if_neg h1] at h; cases h
theorem atI_get {α : Type} {xs : List α} {i : Int} {v : α} (h : atI xs i = some v) : ∃ j, seqIndex? i xs.length = some j ∧ xs[j]? = some v ∧ j < xs.length ∧ -(xs.length : Int) ≤ i ∧ i < xs.length := by
  unfold atI at h
  cases e : ixN xs.length i with
  | none => rw [e] at h; cases h
  | some j =>
    rw [e] at h
    obtain ⟨h1, h2, h3, h4⟩ := ixN_seq e
    exact ⟨j, h1, h, h2, h3, h4⟩
theorem atI_nat {α : Type} {xs : List α} {j : Nat} {v : α} (h : xs[j]? = some v) : atI xs (j : Int) = some v := by
  have hj : j < xs.length := (List.getElem?_eq_some_iff.mp h).1
  have e : ixN xs.length (j : Int) = some j := by
    unfold ixN
    rw [if_pos (by omega), if_pos (by omega)]; simp
  unfold atI; rw [e]; exact h
def PlainIx (b : Expr) : Prop := ∀ o i, subscripted b false o i = operate [o, i] (getItem o i)
def IxR (X : Cx) (r : R2) : Prop :=
  ∀ (value slice : Expr) (pins : List (Addr × Obj)) (s : Shared) (σ : St) (H : Hp) (x y : V) (v u : Value) (Q : VK), Inv X pins σ H s → RelV x v → RelV y u → r x y H Q →
    subscripted slice false v u = operate [v, u] (getItem v u) → wpAny (model X.prog X.w) X.A (subscriptTail value slice v u) (EP X pins σ Q) X.xe s
def MtR (X : Cx) (id : String) (r : V → List V → Hp → VK → Prop) : Prop :=
  ∀ (pins : List (Addr × Obj)) (s : Shared) (σ : St) (H : Hp) (x : V) (xs : List V) (v : Value) (us : List Value) (Q : VK), Inv X pins σ H s → RelV x v → Vals xs us → r x xs H Q →
    wpAny (model X.prog X.w) X.A (call (.builtin id) (v :: us)) (EP X pins σ Q) X.xe s
section
variable {X : Cx} {a b : Expr} {ta tb : TE} {pos : Pos}
theorem IxR.or {r r' : R2} (h : IxR X r) (h' : IxR X r') : IxR X (fun x y H Q => r x y H Q ∨ r' x y H Q) := by
  intro value slice pins s σ H x y v u Q I rx ry q hs
  rcases q with q | q
  · exact h value slice pins s σ H x y v u Q I rx ry q hs
  · exact h' value slice pins s σ H x y v u Q I rx ry q hs
theorem pe_ix {r : R2} (hr : IxR X r) (ha : PE X a ta) (hb : PE X b tb) (hs : PlainIx b) : PE X (.Subscript a b pos) (tOp r ta tb) := by
  intro pins s σ H Q I h
  exact Subscript_ (binT ha hb I h fun v u s2 x y H2 I2 rx ry q => hr a b pins s2 σ H2 x y v u Q I2 rx ry q (hs _ _))
def rIxL (K : PySem.W.Frag) : R2 := fun x y H Q => ∃ p xs i v, x = .ref p ∧ y = .int i ∧ SqL K H p xs ∧ atI xs i = some v ∧ Q v H
def rIxT (K : PySem.W.Frag) : R2 := fun x y H Q => ∃ p xs i v, x = .ref p ∧ y = .int i ∧ SqT K H p xs ∧ atI xs i = some v ∧ Q v H
def rIxS : R2 := fun x y H Q => ∃ z i c, x = .str z ∧ y = .int i ∧ z.length ≤ sizeLine ∧ atI z.cps.toList i = some c ∧ Q (.str ⟨#[c]⟩) H
theorem ix_list : IxR X (rIxL X.K) := by
  intro value slice pins s σ H x y v u Q I rx ry h hs
  obtain ⟨p, xs, i, z, rfl, rfl, hq, he, q⟩ := h
  cases rx
  obtain ⟨t, rfl⟩ := ry
  obtain ⟨its, r, pl, hz⟩ := I.list hq
  obtain ⟨j, h1, h2, h3, h4, h5⟩ := atI_get he
  obtain ⟨w, ew, rw'⟩ := r.get h2
  have hl := r.length
  have hn := line63
  have fin : EP X pins σ Q w s := ⟨z, H, I, rw', q⟩
  by_cases h0 : 0 ≤ i
  · have hj : i.toNat = j := by
      rw [seqIndex_of h0 h5] at h1
      exact Option.some.inj h1
    exact item_listR pl.isList h0 (by omega) (by rw [hj]; simpa using ew) fin hs
  · have hj : (i + (its.toArray.size : Int)).toNat = j := by
      rw [seqIndex_neg (by omega) h4] at h1
      rw [List.size_toArray, ← hl]
      exact Option.some.inj h1
    exact subscriptTail_builtinR (x := w) pl.isList.typeIs slot_list_getitem.lookup
      (wpAny_getItem_list_neg (Q := fun r s' => r = w ∧ EP X pins σ Q r s') pl.isList (by omega) (by rw [List.size_toArray] <;> omega) (by omega) (by rw [hj]; simpa using ew) ⟨rfl, fin⟩) hs
theorem ix_tup : IxR X (rIxT X.K) := by
  intro value slice pins s σ H x y v u Q I rx ry h hs
  obtain ⟨p, xs, i, z, rfl, rfl, hq, he, q⟩ := h
  cases rx
  obtain ⟨t, rfl⟩ := ry
  obtain ⟨its, r, pl, hz⟩ := I.tuple hq
  obtain ⟨j, h1, h2, h3, h4, h5⟩ := atI_get he
  obtain ⟨w, ew, rw'⟩ := r.get h2
  have hl := r.length
  have hn := line63
  have fin : EP X pins σ Q w s := ⟨z, H, I, rw', q⟩
  exact subscriptTail_builtinR (x := w) pl.typeIs slot_tuple_getitem.lookup
    (getItem_tuple (j := j) (Q := fun r s' => r = w ∧ EP X pins σ Q r s') pl (by omega) (by omega) (by rw [List.size_toArray, ← hl]; exact h1) (by simpa using ew) ⟨rfl, fin⟩) hs
theorem ix_str : IxR X rIxS := by
  intro value slice pins s σ H x y v u Q I rx ry h hs
  obtain ⟨z, i, c, rfl, rfl, hz, he, q⟩ := h
  obtain ⟨t, rfl⟩ := rx
  obtain ⟨t', rfl⟩ := ry
  obtain ⟨j, h1, h2, h3, h4, h5⟩ := atI_get he
  have hl : z.cps.toList.length = z.length := by simp [Str.length]
  rw [hl] at h1 h4 h5
  have hn := line63
  exact tail_any (typeIs_str s z t) slot_str_getitem.lookup (getItem_str (c := c) (by
    have e1 : decide (i < -(2 ^ 63 : Int)) = false := decide_eq_false (by omega)
    have e2 : decide (i ≥ 2 ^ 63) = false := decide_eq_false (by omega)
    rw [e1, e2, Bool.or_false]) (by rw [h1]; simpa using h2) ⟨.str ⟨#[c]⟩, H, I.tok _, ⟨_, rfl⟩, q⟩) hs
theorem mapSeq_set (its : List Value) (n j : Nat) (u : Value) : Obj.mapSeq (·.setIfInBounds j u) { cls := .type "list", data := .seq its.toArray n } = { cls := .type "list", data := .seq (its.set j u).toArray n } := by
  simp [Obj.mapSeq]
theorem Inv.lst {pins : List (Addr × Obj)} {σ : St} {H : Hp} {s : Shared} {p : Addr} {xs : List V} (I : Inv X pins σ H s) (h : H p = some (.lst xs)) :
    ∃ (its : List Value) (n : Nat), Vals xs its ∧ s.heap.get? p = some { cls := .type "list", data := .seq its.toArray n } ∧ xs.length ≤ sizeLine := by
  obtain ⟨z, its, n, r, e⟩ := I.hok p _ h
  exact ⟨its, n, r, e, z⟩
theorem Inv.lstUpd {pins : List (Addr × Obj)} {σ : St} {H : Hp} {s : Shared} {p : Addr} {xs ys : List V} {its its' : List Value} {n n' : Nat} {f : Obj → Obj} (I : Inv X pins σ H s) (h : H p = some (.lst xs))
    (ho : s.heap.get? p = some { cls := .type "list", data := .seq its.toArray n }) (hf : f { cls := .type "list", data := .seq its.toArray n } = { cls := .type "list", data := .seq its'.toArray n' }) (r : Vals ys its') (hz : ys.length ≤ sizeLine) (t : Nat) :
    Inv X pins σ (upd H p (.lst ys)) { s with heap := s.heap.update p f, toks := t } := by
  have e : (s.heap.update p f).get? p = some { cls := .type "list", data := .seq its'.toArray n' } := by
    rw [Heap.get?_update_self f ho (by rw [hf] <;> rfl), hf]
  refine I.write (x := p) (e := p) (by rw [h]; trivial) (.inl rfl) (fun b u hb q => (Heap.get?_update_other _ _ (Ne.symm hb)).trans q) ⟨_, e⟩ ?_
  exact ⟨hz, its', n', r, e⟩
def rSetL : V → V → V → Hp → (Hp → Prop) → Prop := fun o i v H Q => ∃ p xs k j, o = .ref p ∧ i = .int k ∧ H p = some (.lst xs) ∧ ixN xs.length k = some j ∧ Q (upd H p (.lst (xs.set j v)))
theorem set_list : PSet X rSetL := by
  intro pins s σ H o i v ov iv u Q I ro ri rv h
  obtain ⟨p, xs, k, j, rfl, rfl, hp, hj, q⟩ := h
  cases ro
  obtain ⟨t, rfl⟩ := ri
  obtain ⟨its, n, r, ho, hz⟩ := I.lst hp
  obtain ⟨h1, h2, h3, h4⟩ := ixN_seq hj
  have hl := r.length
  have hn := line63
  have I' : Inv X pins σ (upd H p (.lst (xs.set j v))) { s with heap := s.heap.update p (Obj.mapSeq (·.setIfInBounds j u)) } :=
    I.lstUpd hp ho (mapSeq_set its n j u) (r.set rv j) (by rw [List.length_set]; exact hz) s.toks
  by_cases h0 : 0 ≤ k
  · have hk : k.toNat = j := by
      rw [seqIndex_of h0 h4] at h1
      exact Option.some.inj h1
    exact PySem.W.ki_setAt ho h0 (by omega) (by rw [List.size_toArray, ← hl]; exact h4) (by rw [hk]; exact ⟨_, I', q⟩)
  · have hk : (k + (its.toArray.size : Int)).toNat = j := by
      rw [seqIndex_neg (by omega) h3] at h1
      rw [List.size_toArray, ← hl]
      exact Option.some.inj h1
    exact PySem.W.ki_setBack ho (by omega) (by rw [List.size_toArray, ← hl]; exact h3) (by omega) (by rw [hk]; exact ⟨_, I', q⟩)
theorem slice_bounds (lo hi : Option Int) (n : Nat) : (sliceBounds lo hi none n).1 = ((HT.sIx n 0 lo : Nat) : Int) ∧ (sliceBounds lo hi none n).2.1 = ((HT.sIx n n hi : Nat) : Int) ∧ (sliceBounds lo hi none n).2.2 = 1 := by
  refine ⟨?_, ?_, rfl⟩
  · cases lo with
    | none => simp [sliceBounds, HT.sIx]
    | some i =>
      simp only [sliceBounds, HT.sIx, Option.getD_none, show (1 : Int) > 0 by decide, if_true]
      by_cases h : i < 0
      · simp only [h, if_true] <;> omega
      · simp only [h, if_false] <;> omega
  · cases hi with
    | none => simp [sliceBounds, HT.sIx]
    | some i =>
      simp only [sliceBounds, HT.sIx, Option.getD_none, show (1 : Int) > 0 by decide, if_true]
      by_cases h : i < 0
      · simp only [h, if_true] <;> omega
      · simp only [h, if_false] <;> omega
theorem slicePick_cut (its : List Value) (lo hi : Option Int) : slicePick its.toArray lo hi none = ((its.drop (HT.sIx its.length 0 lo)).take (HT.sIx its.length its.length hi - HT.sIx its.length 0 lo)).toArray := by
  obtain ⟨h1, h2, h3⟩ := slice_bounds lo hi its.toArray.size
  unfold slicePick
  rw [h1, h2, h3]
  simp only [sliceRange_one, pick_run, List.size_toArray] <;> rfl
def rSlL (K : PySem.W.Frag) : V → Option Int → Option Int → Hp → VK → Prop := fun x lo hi H Q => ∃ a xs, x = .ref a ∧ SqL K H a xs ∧ ∀ p, H p = none → Q (.ref p) (upd H p (.lst (cutV xs lo hi)))
theorem sl_list : SlR X (rSlL X.K) := by
  intro pins s σ H x v vl vu lo hi sl Q I rx hs pl pu h
  obtain ⟨a, xs, rfl, hx, q⟩ := h
  cases rx
  obtain ⟨its, r, ht, hz⟩ := I.list hx
  have hlen := r.length
  refine ⟨"list", _, slot_list_getitem.lookup, ht.isList.typeIs, ?_⟩
  refine wpAny_getItem_list_slice ht.isList hs pl pu .none (by simp) ?_ (by rw [List.size_toArray] <;> omega)
  rw [slicePick_cut, ← hlen]
  refine ⟨.ref s.heap.objs.size, _, I.laid (t' := s.toks) (o := .lst (cutV xs lo hi)) (fun b ob q => Heap.get?_push_of_some _ q) (Nat.le_refl _) ?_, rfl, q _ (I.hok.fresh (Nat.le_refl _))⟩
  exact ⟨Nat.le_trans (cutV_length xs lo hi) hz, _, 0, (r.drop (HT.sIx xs.length 0 lo)).take (HT.sIx xs.length xs.length hi - HT.sIx xs.length 0 lo), Heap.get?_push_size _ rfl⟩
theorem call_list_of : CallR X (.type "list") (fun xs H Q => ∃ p ys, xs = [.ref p] ∧ (SqL X.K H p ys ∨ SqT X.K H p ys) ∧ ∀ l, H l = none → Q (.ref l) (upd H l (.lst ys))) := by
  intro pins s σ H xs us Q I r h
  obtain ⟨p, ys, rfl, hq, q⟩ := h
  obtain ⟨u, rfl, rx⟩ := vals1 r
  cases rx
  have fin : ∀ (its : List Value), Vals ys its → ys.length ≤ sizeLine → ∀ (h' : Heap) (c' : Nat), (∀ b o', s.heap.get? b = some o' → h'.get? b = some o') →
      h'.get? s.heap.objs.size = some { cls := .type "list", dict := none, data := .seq its.toArray c', slots := #[] } → EP X pins σ Q (.ref s.heap.objs.size) { s with heap := h' } := fun its r' hz h' c' kp e =>
    ⟨.ref s.heap.objs.size, _, I.laid (t' := s.toks) kp (Nat.le_refl _) (show ObjOk X.prog X.w _ h' _ (.lst ys) from ⟨hz, its, c', r', e⟩), rfl, q _ (I.hok.fresh (Nat.le_refl _))⟩
  rcases hq with hq | hq
  · obtain ⟨its, r', pl, hz⟩ := I.list hq
    have hlen := r'.length
    obtain ⟨o, ho, hc, n, hd⟩ := pl.isList
    exact call_list_seq p (.inl rfl) ho hc hd (fun h' c' kp e => fin its r' hz h' c' kp e) (by simp only [List.size_toArray] <;> omega)
  · obtain ⟨its, r', pl, hz⟩ := I.tuple hq
    have hlen := r'.length
    obtain ⟨o, ho, hc, n, hd⟩ := pl
    exact call_list_seq p (.inr rfl) ho hc hd (fun h' c' kp e => fin its r' hz h' c' kp e) (by simp only [List.size_toArray] <;> omega)
theorem call_tuple_of : CallR X (.type "tuple") (fun xs H Q => ∃ p ys, xs = [.ref p] ∧ ((SqL X.K H p ys ∧ ∀ l, H l = none → Q (.ref l) (upd H l (.tup ys))) ∨ (SqT X.K H p ys ∧ Q (.ref p) H))) := by
  intro pins s σ H xs us Q I r h
  obtain ⟨p, ys, rfl, h⟩ := h
  obtain ⟨u, rfl, rx⟩ := vals1 r
  cases rx
  rcases h with ⟨hq, q⟩ | ⟨hq, q⟩
  · obtain ⟨its, r', pl, hz⟩ := I.list hq
    have hlen := r'.length
    refine call_tuple_list pl.isList (fun h' kp => ?_) (by simp only [List.size_toArray] <;> omega)
    have I1 : Inv X pins σ H { s with heap := h' } := I.kept (t' := s.toks) kp
    have I2 : Inv X pins σ (upd H h'.objs.size (.tup ys)) { s with heap := h'.push { cls := .type "tuple", data := .seq its.toArray } } :=
      I1.laid (t' := s.toks) (fun b o e => Heap.get?_push_of_some _ e) (Nat.le_refl _) (show ObjOk X.prog X.w _ _ _ (.tup ys) from ⟨hz, its, r', IsTup.new _ _⟩)
    exact ⟨.ref h'.objs.size, _, I2, rfl, q _ (I1.hok.fresh (Nat.le_refl _))⟩
  · obtain ⟨its, r', pl, hz⟩ := I.tuple hq
    exact call_tuple_same pl ⟨.ref p, H, I, rfl, q⟩
def tyV (K : PySem.W.Frag) (T : String) (x : V) (H : Hp) : Prop := match x with
  | .str _ => T = "str"
  | .int _ => T = "int"
  | .ref p => (T = "list" ∧ ∃ xs, SqL K H p xs) ∨ (T = "tuple" ∧ ∃ o, K.lookup p = some o ∧ o.cls = .type "tuple" ∧ o.dict = none) ∨
      (T = "dict" ∧ ((∃ kvs, H p = some (.dK kvs)) ∨ ∃ kvs, H p = some (.dT kvs))) ∨ (T = "set" ∧ ∃ S n, H p = some (.set S n))
  | _ => False
theorem tyV_is {pins : List (Addr × Obj)} {σ : St} {H : Hp} {s : Shared} {T : String} {x : V} {v : Value} (I : Inv X pins σ H s) (r : RelV x v) (ty : tyV X.K T x H) :
    s.TypeIs v T ∧ ∀ a, v = .ref a → ∃ ob, s.heap.get? a = some ob ∧ ob.dict = none := by
  cases x with
  | str z =>
    obtain ⟨t, rfl⟩ := r
    cases (show T = "str" from ty)
    exact ⟨typeIs_str s z t, fun _ e => nomatch e⟩
  | int i =>
    obtain ⟨t, rfl⟩ := r
    cases (show T = "int" from ty)
    exact ⟨typeIs_int s i t, fun _ e => nomatch e⟩
  | ref p =>
    cases r
    rcases ty with ⟨rfl, xs, hq⟩ | ⟨rfl, o, hk, hc, hd⟩ | ⟨rfl, hk⟩ | ⟨rfl, S, n, hk⟩
    · obtain ⟨its, _, pl, _⟩ := I.list hq
      refine ⟨pl.isList.typeIs, fun a e => ?_⟩
      cases e
      obtain ⟨o, n, e, c, hd, _⟩ := pl
      exact ⟨o, e, hd⟩
    · refine ⟨⟨o, I.kIn p o hk, hc⟩, fun a e => ?_⟩
      cases e
      exact ⟨o, I.kIn _ o hk, hd⟩
    · have z : ∃ o, s.heap.get? p = some o ∧ o.ExactDict := by
        rcases hk with ⟨kvs, hk⟩ | ⟨kvs, hk⟩
        · obtain ⟨_, _, _, _, o, _, _, e, ex, _⟩ := I.hok p _ hk
          exact ⟨o, e, ex⟩
        · obtain ⟨_, _, _, _, o, _, _, e, ex, _⟩ := I.hok p _ hk
          exact ⟨o, e, ex⟩
      obtain ⟨o, e, ex⟩ := z
      refine ⟨⟨o, e, ex.1⟩, fun a e2 => ?_⟩
      cases e2
      exact ⟨o, e, ex.2.1⟩
    · obtain ⟨o, _, _, _, e, ex, _⟩ := I.hok p _ hk
      refine ⟨⟨o, e, ex.1⟩, fun a e2 => ?_⟩
      cases e2
      exact ⟨o, e, ex.2.1⟩
  | _ => exact False.elim ty
def tBM (K : PySem.W.Frag) (T : String) (r : V → List V → Hp → VK → Prop) (to : TE) (t : TA) : TE := fun σ H Q => to σ H fun x H1 => tyV K T x H1 ∧ t σ H1 fun xs H2 => r x xs H2 Q
variable {o e : Expr} {es : List Expr} {to : TE} {t : TA} {name : Str} {apos cpos : Pos} {T id : String} {r : V → List V → Hp → VK → Prop}
theorem pe_bm (pa : PlainAttrs T) (slot : Slot T name id) (hty : typeOf (.builtin id) = pure (.type "method_descriptor")) (hm : MtR X id r) (ho : PE X o to) (ha : PA X (e :: es) t)
    (hbase : attributeBase o name X.env (eval o X.env) = eval o X.env := by rfl)
    (hfew : ((backTo cpos (starEach (e :: es) X.env)).all (fun x => !x.1) && (backToKw cpos (keywordEach [] X.env)).all (fun x => x.1.isSome)
      && decide ((e :: es).length + ([] : List Keyword).length + (if ([] : List Keyword).isEmpty then 0 else 1) < 30)) = true := by rfl)
    (hline : (apos.endLine == cpos.line) = true := by rfl) (hs : starEach (e :: es) X.env = (false, eval e X.env) :: starEach es X.env := by rfl) (hplain : (backTo cpos (starEach es X.env)).any (·.1) = false := by rfl) :
    PE X (.Call (.Attribute o name apos) (e :: es) [] cpos) (tBM X.K T r to t) := by
  intro pins s σ H Q I h
  refine wpAny_Call_method_late hbase hfew hline rfl (thn (ho pins s σ H _ I h) fun v s1 ⟨x, H1, I1, r1, ty, q1⟩ => ?_)
  obtain ⟨h1, h2⟩ := tyV_is I1 r1 ty
  refine ⟨T, id, pa, slot, hty, h1, h2, ?_⟩
  have hA := ha cpos pins s1 σ H1 _ I1 q1
  rw [hs] at hA ⊢
  refine Calls.callWith_builtin (by show (false || (backTo cpos (starEach es X.env)).any (·.1)) = false; rw [hplain] <;> rfl) (Calls.evalArgs_plain ?_)
  exact thn hA fun us s2 ⟨vs, H2, I2, r2, q2⟩ => hm pins s2 σ H2 x vs v us Q I2 r1 r2 q2
end
def MtM (X : Cx) (id : String) (r : V → List V → Hp → VK → Prop) : Prop :=
  ∀ (pins : List (Addr × Obj)) (s : Shared) (σ : St) (H : Hp) (x : V) (xs : List V) (v : Value) (us : List Value) (Q : VK), Inv X pins σ H s → RelV x v → Vals xs us → r x xs H Q →
    wpAny (model X.prog X.w) X.A (call (.builtin id) (v :: us)) (EP X pins σ Q) X.xe s
theorem Vals.one : ∀ {x : V} {us : List Value}, Vals [x] us → ∃ u, us = [u] ∧ RelV x u
  | _, _, .cons r .nil => ⟨_, rfl, r⟩
theorem Vals.zero : ∀ {us : List Value}, Vals [] us → us = []
  | _, .nil => rfl
theorem Vals.eraseIdx : ∀ {xs : List V} {us : List Value} (i : Nat), Vals xs us → Vals (xs.eraseIdx i) (us.eraseIdx i)
  | _, _, _, .nil => .nil
  | _, _, 0, .cons _ t => t
  | _, _, i + 1, .cons r t => .cons r (Vals.eraseIdx i t)
theorem Vals.reverse {xs : List V} {us : List Value} (h : Vals xs us) : Vals xs.reverse us.reverse := by
  induction h with
  | nil => exact .nil
  | cons r t ih => rw [List.reverse_cons, List.reverse_cons]; exact Vals.append ih (.cons r .nil)
theorem Vals.rep {xs : List V} {us : List Value} (h : Vals xs us) : ∀ k : Nat, Vals (List.replicate k xs).flatten (List.replicate k us).flatten
  | 0 => .nil
  | k + 1 => by
    rw [List.replicate_succ, List.replicate_succ, List.flatten_cons, List.flatten_cons]
    exact Vals.append h (Vals.rep h k)
section
variable {X : Cx} {pins : List (Addr × Obj)} {σ : St} {H : Hp} {s : Shared} {l b : Addr} {xs ys zs : List V}
theorem Inv.lset {its its' : List Value} {n : Nat} {f : Array Value → Array Value} {t' : Nat} (I : Inv X pins σ H s) (hH : H l = some (.lst xs))
    (e : s.heap.get? l = some { cls := .type "list", data := .seq its.toArray n }) (hf : f its.toArray = its'.toArray) (hv : Vals ys its') (hz : ys.length ≤ sizeLine) :
    Inv X pins σ (upd H l (.lst ys)) { s with heap := s.heap.update l (Obj.mapSeq f), toks := t' } := by
  have q := PySem.IsL.update e f
  rw [hf] at q
  refine I.write (x := l) (e := l) (by rw [hH]; exact trivial) (.inl rfl) (fun b' u hb hu => (Heap.get?_update_other s.heap (Obj.mapSeq f) (Ne.symm hb)).trans hu) ⟨_, q⟩ ?_
  exact ⟨hz, its', _, hv, q⟩
theorem Inv.lnew {its : List Value} {t' : Nat} (I : Inv X pins σ H s) (hv : Vals ys its) (hz : ys.length ≤ sizeLine) :
    Inv X pins σ (upd H s.heap.objs.size (.lst ys)) { s with heap := s.heap.push { cls := .type "list", data := .seq its.toArray }, toks := t' } :=
  I.laid (fun _ _ q => Heap.get?_push_of_some _ q) (Nat.le_refl _) ⟨hz, its, 0, hv, Heap.get?_push_size _ rfl⟩
theorem Inv.fresh (I : Inv X pins σ H s) : H s.heap.objs.size = none := I.hok.fresh (Nat.le_refl _)
theorem Inv.lstM (I : Inv X pins σ H s) (hH : H l = some (.lst xs)) : xs.length ≤ sizeLine ∧ ∃ (its : List Value) (n : Nat), Vals xs its ∧ xs.length = its.length ∧ s.heap.get? l = some { cls := .type "list", data := .seq its.toArray n } := by
  obtain ⟨z, its, n, r, e⟩ := I.hok l _ hH
  exact ⟨z, its, n, r, r.length, e⟩
end
section
variable {X : Cx}
def rAppend : V → List V → Hp → VK → Prop := fun x vs H Q => ∃ l xs y, x = .ref l ∧ vs = [y] ∧ H l = some (.lst xs) ∧ xs.length < sizeLine ∧ Q .non (upd H l (.lst (xs ++ [y])))
theorem mt_append : MtM X "list.append" rAppend := by
  intro pins s σ H x vs v us Q I rx rv h
  obtain ⟨l, xs, y, rfl, rfl, hH, hz, q⟩ := h
  cases rx
  obtain ⟨u, rfl, ru⟩ := rv.one
  obtain ⟨z, its, n, r, hl, e⟩ := I.lstM hH
  refine call_meets F.slot_list_append ⟨_, e, rfl⟩ F.entry_list_append (F.args_list_append_2 _ _) (PySem.list_append l its.toArray n u (by rw [List.size_toArray]; omega)) ⟨e, ?_⟩
  refine ⟨.non, _, I.lset (its' := its ++ [u]) hH e (by simp) (r.append (.cons ru .nil)) ?_, rfl, q⟩
  rw [List.length_append, List.length_singleton]
  omega
end
section
variable {prog : Program} {w : World} {A : Around} {E : Value → Shared → Prop} {s : Shared}
end
section
variable {X : Cx}
end
theorem Vals.ints : ∀ {ns : List Int} {us : List Value}, Vals (ns.map V.int) us → IntsAre us ns
  | [], us, h => by
    rw [List.map_nil] at h
    cases h
    exact IntsAre.nil
  | n :: ns, us, h => by
    rw [List.map_cons] at h
    cases h with
    | cons r t =>
      obtain ⟨k, rfl⟩ := r
      exact IntsAre.cons n k (Vals.ints t)
theorem vals_of_ints : ∀ {us : List Value} {ns : List Int}, IntsAre us ns → Vals (ns.map V.int) us
  | _, _, .nil => by rw [List.map_nil]; exact Paired.nil
  | _, _, .cons n t h => by rw [List.map_cons]; exact Paired.cons (show RelV (V.int n) (Value.int n t) from ⟨t, rfl⟩) (vals_of_ints h)
theorem Vals.strs : ∀ {xs : List Str} {us : List Value}, Vals (xs.map V.str) us → StrsAre us xs
  | [], us, h => by
    rw [List.map_nil] at h
    cases h
    exact StrsAre.nil
  | x :: xs, us, h => by
    rw [List.map_cons] at h
    cases h with
    | cons r t =>
      obtain ⟨k, rfl⟩ := r
      exact StrsAre.cons x k (Vals.strs t)
section
variable {prog : Program} {w : World} {A : Around} {E : Value → Shared → Prop} {s : Shared} {l : Addr} {its : List Value} {ns : List Int} {Q : Value → Shared → Prop}
end
section
variable {X : Cx}
end
section
variable {X : Cx}
end
section
variable {X : Cx}
end
section
variable {X : Cx}
end
mutual
inductive Dp (K : PySem.W.Frag) (H : Hp) : V → PyData → Prop
  | non : Dp K H .non .none
  | bl (b : Bool) : Dp K H (.bl b) (.bool b)
  | int (i : Int) : Dp K H (.int i) (.int i)
  | str (x : Str) : Dp K H (.str x) (.str x)
  | lst {a : Addr} {xs : List V} {ds : List PyData} : SqL K H a xs → DpAll K H xs ds → Dp K H (.ref a) (.list ds)
  | tup {a : Addr} {xs : List V} {ds : List PyData} : SqT K H a xs → DpAll K H xs ds → Dp K H (.ref a) (.tuple ds)
inductive DpAll (K : PySem.W.Frag) (H : Hp) : List V → List PyData → Prop
  | nil : DpAll K H [] []
  | cons {v : V} {vs : List V} {d : PyData} {ds : List PyData} : Dp K H v d → DpAll K H vs ds → DpAll K H (v :: vs) (d :: ds)
end
section
variable {X : Cx} {pins : List (Addr × Obj)} {σ : St} {H : Hp} {s : Shared}
mutual
theorem Dp.reads (I : Inv X pins σ H s) : ∀ (d : PyData) (v : V) (u : Value), Dp X.K H v d → RelV v u → ∃ as, Reads s.heap u d as
  | .none, _, _, h, r => by
    cases h
    cases r
    exact ⟨_, Reads.none⟩
  | .bool b, _, _, h, r => by
    cases h
    cases r
    exact ⟨_, Reads.bool b⟩
  | .int i, _, _, h, r => by
    cases h
    obtain ⟨t, rfl⟩ := r
    exact ⟨_, Reads.int i t⟩
  | .str x, _, _, h, r => by
    cases h
    obtain ⟨t, rfl⟩ := r
    exact ⟨_, Reads.str x t⟩
  | .list ds, _, _, h, r => by
    cases h with
    | lst hs ha =>
      cases r
      obtain ⟨its, rv, ⟨o, n, ho, hc, _, hd⟩, _⟩ := I.list hs
      obtain ⟨as, hr⟩ := Dp.readsAll I ds _ its ha rv
      exact ⟨_, Reads.list ho hc hd hr⟩
  | .tuple ds, _, _, h, r => by
    cases h with
    | tup hs ha =>
      cases r
      obtain ⟨its, rv, ⟨o, ho, hc, n, hd⟩, _⟩ := I.tuple hs
      obtain ⟨as, hr⟩ := Dp.readsAll I ds _ its ha rv
      exact ⟨_, Reads.tuple ho hc hd hr⟩
  | .dict _, _, _, h, _ => by cases h
theorem Dp.readsAll (I : Inv X pins σ H s) : ∀ (ds : List PyData) (vs : List V) (us : List Value), DpAll X.K H vs ds → Vals vs us → ∃ as, ReadsAll s.heap us ds as
  | [], _, _, h, r => by
    cases h
    cases r
    exact ⟨_, ReadsAll.nil⟩
  | d :: ds, _, _, h, r => by
    cases h with
    | cons h1 h2 =>
      cases r with
      | cons r1 r2 =>
        obtain ⟨as, q1⟩ := Dp.reads I d _ _ h1 r1
        obtain ⟨bs, q2⟩ := Dp.readsAll I ds _ _ h2 r2
        exact ⟨_, ReadsAll.cons q1 q2⟩
end
end
section
variable {X : Cx}
def rEqD (K : PySem.W.Frag) : R2 := fun x y H Q => ∃ d e, Dp K H x d ∧ Dp K H y e ∧ SeqAt.shaped d = true ∧ SeqAt.shaped e = true ∧ Q (.bl (PyData.eqv d e)) H
def rNeD (K : PySem.W.Frag) : R2 := fun x y H Q => ∃ d e, Dp K H x d ∧ Dp K H y e ∧ SeqAt.shaped d = true ∧ SeqAt.shaped e = true ∧ Q (.bl (!PyData.eqv d e)) H
theorem op_eqD (hu : X.A.units + 64 < cLine) : OpR X (compareOp .Eq) (rEqD X.K) := by
  intro pins s σ H x y v u Q I rx ry h
  obtain ⟨d, e, hd, he, sd, se, q⟩ := h
  obtain ⟨as, r1⟩ := Dp.reads I d x v hd rx
  obtain ⟨bs, r2⟩ := Dp.reads I e y u he ry
  exact SeqAt.compareEq_shaped r1 r2 sd se hu ⟨.bl _, H, I, rfl, q⟩
theorem op_neD (hu : X.A.units + 64 < cLine) : OpR X (compareOp .NotEq) (rNeD X.K) := by
  intro pins s σ H x y v u Q I rx ry h
  obtain ⟨d, e, hd, he, sd, se, q⟩ := h
  obtain ⟨as, r1⟩ := Dp.reads I d x v hd rx
  obtain ⟨bs, r2⟩ := Dp.reads I e y u he ry
  exact SeqAt.compareNe_shaped r1 r2 sd se hu ⟨.bl _, H, I, rfl, q⟩
end
abbrev CellAt (h : Heap) (c : Addr) (v : Option Value) : Prop := h.IsCell c v
def relS (scope sc : Scope) : Scope :=
  { scope with names := scope.names.map fun (n, k) => if (k == .free && sc.kind == .function && sc.names.lookup n == some .cell) then (n, .cell) else (n, k) }
def cloFrom (cells : List (Str × Addr)) : List (Str × NameKind) → List (Str × Addr) → List (Str × Addr)
  | [], acc => acc
  | (n, k) :: r, acc => if k == .free then cloFrom cells r ((n, (cells.lookup n).getD 0) :: acc) else cloFrom cells r acc
theorem closure_loop (env : Env) (f : Str × NameKind → List (Str × Addr) → Sem (ForInStep (List (Str × Addr))))
    (hf : ∀ n k c, f (n, k) c = if k == .free then (do let a ← cellOf env n; pure (.yield ((n, a) :: c))) else pure (.yield c)) :
    ∀ (names : List (Str × NameKind)) (acc : List (Str × Addr)), (∀ y ∈ names, y.2 = .free → ∃ c, env.cells.lookup y.1 = some c) → forIn names acc f = pure (cloFrom env.cells names acc)
  | [], acc, _ => by rw [List.forIn_nil]; rfl
  | (n, k) :: r, acc, h => by
    rw [List.forIn_cons, hf]
    have ih := fun acc => closure_loop env f hf r acc fun y hy => h y (List.mem_cons_of_mem _ hy)
    unfold cloFrom
    by_cases hk : (k == NameKind.free) = true
    · rw [if_pos hk, if_pos hk]
      obtain ⟨c, hc⟩ := h (n, k) List.mem_cons_self (by simpa using hk)
      have e : cellOf env n = pure c := by unfold cellOf; rw [hc]
      rw [e]
      have e2 : (env.cells.lookup n).getD 0 = c := by rw [hc]; rfl
      rw [e2]
      exact ih _
    · rw [if_neg hk, if_neg hk]
      exact ih _
theorem closure_ok {scope : Scope} {env : Env} (h : ∀ y ∈ scope.names, y.2 = .free → ∃ c, env.cells.lookup y.1 = some c) : closureFor scope env = pure (cloFrom env.cells scope.names []) := by
  simp only [closureFor]
  rw [closure_loop env _ (fun n k c => rfl) scope.names [] h]
  rfl
theorem mem_lookup {α : Type} : ∀ {l : List (Str × α)} {n : Str} {c : α}, (n, c) ∈ l → ∃ c', l.lookup n = some c'
  | (k, v) :: r, n, c, h => by
    rw [List.lookup_cons]
    cases hb : n == k with
    | true => exact ⟨_, rfl⟩
    | false =>
      rcases List.mem_cons.mp h with e | h
      · cases e; simp at hb
      · exact mem_lookup h
theorem cloFrom_mem {cells : List (Str × Addr)} : ∀ {names : List (Str × NameKind)} {acc : List (Str × Addr)} {n : Str} {c : Addr}, (n, c) ∈ cloFrom cells names acc → (n, c) ∈ acc ∨ ((n, .free) ∈ names ∧ c = (cells.lookup n).getD 0)
  | [], _, _, _, h => .inl h
  | (m, k) :: r, acc, n, c, h => by
    unfold cloFrom at h
    split at h
    · rename_i hk
      have hk : k = .free := by simpa using hk
      rcases cloFrom_mem h with h | ⟨h1, h2⟩
      · rcases List.mem_cons.mp h with e | h
        · cases e; exact .inr ⟨hk ▸ List.mem_cons_self, rfl⟩
        · exact .inl h
      · exact .inr ⟨List.mem_cons_of_mem _ h1, h2⟩
    · rcases cloFrom_mem h with h | ⟨h1, h2⟩
      · exact .inl h
      · exact .inr ⟨List.mem_cons_of_mem _ h1, h2⟩
theorem cloFrom_acc {cells : List (Str × Addr)} : ∀ {names : List (Str × NameKind)} {acc : List (Str × Addr)} {p : Str × Addr}, p ∈ acc → p ∈ cloFrom cells names acc
  | [], _, _, h => h
  | (m, k) :: r, acc, p, h => by
    unfold cloFrom
    split
    · exact cloFrom_acc (List.mem_cons_of_mem _ h)
    · exact cloFrom_acc h
theorem cloFrom_has {cells : List (Str × Addr)} : ∀ {names : List (Str × NameKind)} {acc : List (Str × Addr)} {n : Str}, (n, .free) ∈ names → (n, (cells.lookup n).getD 0) ∈ cloFrom cells names acc
  | (m, k) :: r, acc, n, h => by
    unfold cloFrom
    rcases List.mem_cons.mp h with e | h
    · cases e
      exact cloFrom_acc List.mem_cons_self
    · split
      · exact cloFrom_has h
      · exact cloFrom_has h
theorem cells_mem : ∀ {names : List (Str × NameKind)} {h : Heap} {acc : List (Str × Addr)} {x : Str} {c : Addr}, (x, c) ∈ cellsFrom h.objs.size names acc →
    (x, c) ∈ acc ∨ ((x, .cell) ∈ names ∧ h.objs.size ≤ c ∧ CellAt (pushCells h names) c none)
  | [], _, _, _, _, h => .inl h
  | (n, k) :: r, h, acc, x, c, hm => by
    unfold cellsFrom at hm
    unfold pushCells
    split at hm
    · rename_i hk
      rw [if_pos hk]
      have hk : k = .cell := by simpa using hk
      rw [← Heap.size_push h { cls := .type "cell", data := .cell none }] at hm
      rcases cells_mem hm with hm | ⟨h1, h2, h3⟩
      · rcases List.mem_cons.mp hm with e | hm
        · cases e
          exact .inr ⟨hk ▸ List.mem_cons_self, Nat.le_refl _, _, pushCells_keeps r _ _ _ (Heap.get?_push_size _ rfl), rfl⟩
        · exact .inl hm
      · rw [Heap.size_push] at h2
        exact .inr ⟨List.mem_cons_of_mem _ h1, Nat.le_of_succ_le h2, h3⟩
    · rename_i hk
      rw [if_neg hk]
      rcases cells_mem hm with hm | ⟨h1, h2, h3⟩
      · exact .inl hm
      · exact .inr ⟨List.mem_cons_of_mem _ h1, h2, h3⟩
theorem cells_acc : ∀ {names : List (Str × NameKind)} {n : Nat} {acc : List (Str × Addr)} {p : Str × Addr}, p ∈ acc → p ∈ cellsFrom n names acc
  | [], _, _, _, h => h
  | (m, k) :: r, n, acc, p, h => by
    unfold cellsFrom
    split
    · exact cells_acc (List.mem_cons_of_mem _ h)
    · exact cells_acc h
theorem cells_has : ∀ {names : List (Str × NameKind)} {n : Nat} {acc : List (Str × Addr)} {x : Str}, (x, .cell) ∈ names → ∃ c, (x, c) ∈ cellsFrom n names acc
  | (m, k) :: r, n, acc, x, h => by
    unfold cellsFrom
    rcases List.mem_cons.mp h with e | h
    · cases e
      exact ⟨n, cells_acc List.mem_cons_self⟩
    · split
      · exact cells_has h
      · exact cells_has h
theorem cells_inj : ∀ {names : List (Str × NameKind)} {h : Heap} {acc : List (Str × Addr)} {x y : Str} {c : Addr}, (∀ p ∈ acc, p.2 < h.objs.size) → (∀ x y c, (x, c) ∈ acc → (y, c) ∈ acc → x = y) →
    (x, c) ∈ cellsFrom h.objs.size names acc → (y, c) ∈ cellsFrom h.objs.size names acc → x = y
  | [], _, _, _, _, _, _, hi, h1, h2 => hi _ _ _ h1 h2
  | (n, k) :: r, h, acc, x, y, c, hl, hi, h1, h2 => by
    unfold cellsFrom at h1 h2
    split at h1
    · rename_i hk
      rw [if_pos hk] at h2
      rw [← Heap.size_push h { cls := .type "cell", data := .cell none }] at h1 h2
      refine cells_inj (h := h.push _) (fun p hp => ?_) (fun x y c a b => ?_) h1 h2
      · rw [Heap.size_push]
        rcases List.mem_cons.mp hp with rfl | hp
        · exact Nat.lt_succ_self _
        · exact Nat.lt_succ_of_lt (hl p hp)
      · rcases List.mem_cons.mp a with e | a <;> rcases List.mem_cons.mp b with e' | b
        · cases e; cases e'; rfl
        · cases e; exact absurd (hl _ b) (Nat.lt_irrefl _)
        · cases e'; exact absurd (hl _ a) (Nat.lt_irrefl _)
        · exact hi _ _ _ a b
    · rename_i hk
      rw [if_neg hk] at h2
      exact cells_inj hl hi h1 h2
theorem newEnv_comp {M : Model} {A : Around} {E : Value → Shared → Prop} {s : Shared} {scope : Scope} {globals : Addr} {closure : List (Str × Addr)} {qual : Str} {func : Option Addr} {code : Value} {around : Env} {builtins : Addr} {Q : Env → Shared → Prop}
    (h : Q (newEnv scope s.heap.objs.size globals (cellsFrom (s.heap.objs.size + 1) scope.names closure) qual func code (some around) builtins)
      { s with heap := pushCells (s.heap.push { cls := .type "dict", data := .dict #[] }) scope.names }) :
    wpAny M A (newFunctionEnv scope globals closure [] qual func code (some around) builtins) Q E s := by
  simp only [newFunctionEnv, Option.isSome_some, if_true]
  refine wpAny_bind (wpAny_alloc ?_)
  refine wpAny_bind (wpAny_layCells _ (fun n k c => rfl) scope.names closure _ _ ?_)
  rw [show ({ s with heap := s.heap.push { cls := .type "dict", data := .dict #[] } } : Shared).heap.objs.size = s.heap.objs.size + 1 from Heap.size_push ..]
  rw [List.forIn_nil]
  exact wpAny_bind (wpAny_pure (wpAny_pure h))
theorem lookup_relS {sc : Scope} : ∀ {names : List (Str × NameKind)} {x : Str} {k : NameKind},
    (names.map fun (n, k) => if (k == NameKind.free && sc.kind == .function && sc.names.lookup n == some .cell) then (n, NameKind.cell) else (n, k)).lookup x = some k →
    ∃ k', names.lookup x = some k' ∧ (k = k' ∨ (k' = .free ∧ k = .cell))
  | [], _, _, h => by simp at h
  | (n, k₀) :: r, x, k, h => by
    have ih := @lookup_relS sc r x k
    have h' : List.lookup x ((if (k₀ == NameKind.free && sc.kind == .function && sc.names.lookup n == some .cell) = true then (n, NameKind.cell) else (n, k₀)) :: (r.map _)) = some k := h
    cases hx : x == n with
    | true =>
      simp only [List.lookup_cons, hx]
      by_cases hc : (k₀ == NameKind.free && sc.kind == .function && sc.names.lookup n == some .cell) = true
      · rw [if_pos hc] at h'
        simp only [List.lookup_cons, hx] at h'
        cases h'
        simp only [Bool.and_eq_true, beq_iff_eq] at hc
        exact ⟨k₀, rfl, .inr ⟨hc.1.1, rfl⟩⟩
      · rw [if_neg hc] at h'
        simp only [List.lookup_cons, hx] at h'
        cases h'
        exact ⟨_, rfl, .inl rfl⟩
    | false =>
      simp only [List.lookup_cons, hx]
      by_cases hc : (k₀ == NameKind.free && sc.kind == .function && sc.names.lookup n == some .cell) = true
      · rw [if_pos hc] at h'
        simp only [List.lookup_cons, hx] at h'
        exact ih h'
      · rw [if_neg hc] at h'
        simp only [List.lookup_cons, hx] at h'
        exact ih h'
structure BlkOk (N : List Str) (sc scope : Scope) (own : List (Str × Nat)) : Prop where
  kind : scope.kind = .function
  uniq : ∀ y ∈ scope.names, scope.names.lookup y.1 = some y.2
  ix : ∀ p ∈ own, N[p.2]? = some p.1
  free : ∀ y ∈ scope.names, y.2 = .free → sc.names.lookup y.1 = some .cell ∨ sc.names.lookup y.1 = some .free
  own : ∀ y ∈ scope.names, y.2 = .local ∨ y.2 = .cell → y.1 ∈ own.map (·.1) ∨ y.1 ∉ N
def wipe (σ : St) : List Nat → St
  | [] => σ
  | v :: vs => (wipe σ vs).set v none
theorem wipe_length (σ : St) : ∀ vs : List Nat, (wipe σ vs).length = σ.length
  | [] => rfl
  | v :: vs => by unfold wipe; rw [List.length_set, wipe_length σ vs]
theorem wipe_some {σ : St} {i : Nat} {x : V} : ∀ {vs : List Nat}, (wipe σ vs)[i]? = some (some x) → σ[i]? = some (some x) ∧ i ∉ vs
  | [], h => ⟨h, by simp⟩
  | v :: vs, h => by
    unfold wipe at h
    by_cases hi : v = i
    · subst hi
      by_cases hv : v < (wipe σ vs).length
      · rw [List.getElem?_set_self hv] at h; cases h
      · rw [List.getElem?_eq_none (by simpa using hv)] at h; cases h
    · rw [List.getElem?_set_ne hi] at h
      obtain ⟨h1, h2⟩ := wipe_some h
      exact ⟨h1, by simp only [List.mem_cons, not_or]; exact ⟨fun e => hi e.symm, h2⟩⟩
abbrev Cx.blk (X : Cx) (s : Shared) (H : Hp) (scope : Scope) (cenv : Env) (fp : List Addr) : Cx := { X with s_0 := s, H_0 := H, env := cenv, outer := X.stack, ex := fp, fn := fun x => scope.names.lookup x == some .cell, pn := [], xe := fun _ _ => False }
section
variable {X : Cx} {pins : List (Addr × Obj)} {σ : St} {H : Hp} {s : Shared}
theorem block_start {scope : Scope} {own : List (Str × Nat)} {fp : List Addr} (I : Inv X pins σ H s) (ok : BlkOk X.N X.env.scope scope own) (hN : X.N.Nodup) (hfp : ∀ b ∈ fp, FpOk X pins H b ∧ b < s.heap.objs.size) :
    Inv (X.blk s H scope (compEnvC scope (cellsFrom (s.heap.objs.size + 1) scope.names (cloFrom X.env.cells scope.names [])) s.heap.objs.size X.env) fp) [] (wipe σ (own.map (·.2))) H { s with heap := pushCells (s.heap.push { cls := .type "dict", data := .dict #[] }) scope.names } := by
  have hfree : ∀ y ∈ scope.names, y.2 = .free → ∃ c, X.env.cells.lookup y.1 = some c := fun y hy e => by
    rcases ok.free y hy e with k | k
    · exact I.ok.has _ (.inl k)
    · exact I.ok.has _ (.inr k)
  generalize hcenv : compEnvC scope (cellsFrom (s.heap.objs.size + 1) scope.names (cloFrom X.env.cells scope.names [])) s.heap.objs.size X.env = cenv
  have kp : ∀ b o, s.heap.get? b = some o → (pushCells (s.heap.push { cls := .type "dict", data := .dict #[] }) scope.names).get? b = some o := fun b o e => pushCells_keeps _ _ _ _ (Heap.get?_push_of_some _ e)
  have hL : cenv.locals = s.heap.objs.size := by rw [← hcenv]; rfl
  have hcl : cenv.cells = cellsFrom (s.heap.objs.size + 1) scope.names (cloFrom X.env.cells scope.names []) := by rw [← hcenv]; rfl
  have hsc : cenv.scope = relS scope X.env.scope := by rw [← hcenv]; rfl
  rw [← Heap.size_push s.heap { cls := .type "dict", data := .dict #[] }] at hcl
  have cm : ∀ {y c}, (y, c) ∈ cloFrom X.env.cells scope.names [] → X.env.cells.lookup y = some c ∧ c < s.heap.objs.size := fun {y c} hm => by
    rcases cloFrom_mem hm with hm | ⟨h1, rfl⟩
    · cases hm
    · obtain ⟨c, hc⟩ := hfree _ h1 rfl
      rw [hc]
      obtain ⟨w, z⟩ := I.cell _ _ hc
      exact ⟨rfl, z.lt⟩
  have mem : ∀ {y c}, cenv.cells.lookup y = some c → (X.env.cells.lookup y = some c ∧ c < s.heap.objs.size) ∨ (s.heap.objs.size + 1 ≤ c ∧ CellAt (pushCells (s.heap.push { cls := .type "dict", data := .dict #[] }) scope.names) c none) := fun {y c} e => by
    rw [hcl] at e
    rcases cells_mem (PySem.mem_of_lookup e) with hm | ⟨_, h2, h3⟩
    · exact .inl (cm hm)
    · rw [Heap.size_push] at h2; exact .inr ⟨h2, h3⟩
  have look : ∀ {y}, scope.names.lookup y = some .free → ∃ c, cenv.cells.lookup y = some c ∧ X.env.cells.lookup y = some c := fun {y} hl => by
    have hy : (y, NameKind.free) ∈ scope.names := PySem.mem_of_lookup hl
    obtain ⟨c', e'⟩ := mem_lookup (cells_acc (names := scope.names) (n := (s.heap.push { cls := .type "dict", data := .dict #[] }).objs.size) (cloFrom_has (cells := X.env.cells) (acc := []) hy))
    rw [← hcl] at e'
    refine ⟨c', e', ?_⟩
    rw [hcl] at e'
    rcases cells_mem (PySem.mem_of_lookup e') with hm | ⟨h1, _, _⟩
    · exact (cm hm).1
    · have := ok.uniq _ h1
      rw [hl] at this; cases this
  have okB : (X.blk s H scope cenv fp).Ok := by
    refine ⟨I.ok.mod, by show cenv.scope.kind = _; rw [hsc]; exact ok.kind, by show cenv.globals = _; rw [← hcenv]; exact I.ok.glob, by show cenv.builtins = _; rw [← hcenv]; exact I.ok.blt, by show s.heap.objs.size ≤ cenv.locals; rw [hL]; exact Nat.le_refl _,
      fun y z c e1 e2 => ?_, fun y hy => ?_, fun y c z e => ?_, I.ok.hd, I.ok.frames, .inl rfl, fun b hb => ⟨?_, fun y c e z => ?_⟩, I.bs, Nat.le_trans I.ok.bsz I.sz, fun b o e hb => ?_, fun b hb z => ?_, I.stack, I.stkFree⟩
    · have e1 : cenv.cells.lookup y = some c := e1
      have e2 : cenv.cells.lookup z = some c := e2
      rw [hcl] at e1 e2
      refine cells_inj (fun p hp => ?_) (fun y z c a b => I.ok.inj y z c (cm a).1 (cm b).1) (PySem.mem_of_lookup e1) (PySem.mem_of_lookup e2)
      rw [Heap.size_push]
      exact Nat.lt_succ_of_lt (cm (y := p.1) (c := p.2) hp).2
    · show ∃ c, cenv.cells.lookup y = some c
      have key : ∀ k, cenv.kindOf y = some k → (k = .cell ∨ k = .free) → ∃ c, cenv.cells.lookup y = some c := fun k hk hk' => by
        unfold Env.kindOf at hk
        rw [hsc] at hk
        obtain ⟨k', e, r⟩ := lookup_relS hk
        have : k' = .cell ∨ k' = .free := by
          rcases r with rfl | ⟨rfl, _⟩
          · exact hk'
          · exact .inr rfl
        rcases this with rfl | rfl
        · obtain ⟨c, hm⟩ := cells_has (n := (s.heap.push { cls := .type "dict", data := .dict #[] }).objs.size) (acc := cloFrom X.env.cells scope.names []) (PySem.mem_of_lookup e)
          obtain ⟨c', e'⟩ := mem_lookup hm
          exact ⟨c', by rw [hcl]; exact e'⟩
        · obtain ⟨c, h1, _⟩ := look e
          exact ⟨c, h1⟩
      rcases hy with hy | hy
      · exact key _ hy (.inl rfl)
      · exact key _ hy (.inr rfl)
    · have z : (scope.names.lookup y == some NameKind.cell) = true := z
      have z : scope.names.lookup y = some .cell := by simpa using z
      have e : cenv.cells.lookup y = some c := e
      rw [hcl] at e
      rcases cells_mem (PySem.mem_of_lookup e) with hm | ⟨_, h2, _⟩
      · rcases cloFrom_mem hm with hm | ⟨h1, _⟩
        · cases hm
        · have q := ok.uniq _ h1
          rw [z] at q; cases q
      · rw [Heap.size_push] at h2
        exact Nat.le_of_succ_le h2
    · show b ≠ cenv.locals
      rw [hL]; exact Nat.ne_of_lt (hfp b hb).2
    · have e : cenv.cells.lookup y = some c := e
      rcases mem e with ⟨h1, _⟩ | ⟨h1, _⟩
      · exact (hfp b hb).1.2.2.2.2.1 y c h1 z
      · have h2 : s.heap.objs.size + 1 ≤ b := by rw [← z]; exact h1
        exact absurd (Nat.lt_of_lt_of_le (hfp b hb).2 (Nat.le_of_succ_le h2)) (Nat.lt_irrefl _)
    · rcases (hfp b hb).1.2.2.2.1 with z | z
      · exact I.ok.noex b o e z
      · exact absurd (Nat.lt_of_lt_of_le (Heap.lt_size e) (Nat.le_trans I.ok.bsz z)) (Nat.lt_irrefl _)
    · rcases List.mem_cons.mp (I.stkSub b z) with z | z
      · exact (hfp b hb).1.2.1 z
      · exact (hfp b hb).1.2.2.1 z
  refine ⟨okB, rfl, .refl I.bare.all, Un.kept kp, ⟨fun _ => none, ?_, fun i y av e1 e2 e3 => ?_⟩, fun y c e => ?_, ?_, fun y c e => ?_, fun p hp => ?_, I.hok.kept kp, by rw [wipe_length]; exact I.len⟩
  · show Heap.Ns _ cenv.locals _
    rw [hL]
    exact Heap.Ns.keeps (Heap.Ns.new ..) fun b o e => pushCells_keeps _ _ _ _ e
  · obtain ⟨e2, hne⟩ := wipe_some e2
    have hfr : scope.names.lookup y = some .free ∧ (cenv.kindOf y = some .cell ∨ cenv.kindOf y = some .free) := by
      have key : ∀ k, cenv.scope.names.lookup y = some k → k = .local ∨ k = .cell ∨ k = .free → scope.names.lookup y = some .free ∧ (cenv.kindOf y = some .cell ∨ cenv.kindOf y = some .free) := fun k hk hk' => by
        have hk0 := hk
        rw [hsc] at hk
        obtain ⟨k', e, r⟩ := lookup_relS hk
        have no : ¬ (k' = .local ∨ k' = .cell) := fun hh => by
          rcases ok.own _ (PySem.mem_of_lookup e) hh with e' | e'
          · obtain ⟨p, hp, hpy⟩ := List.mem_map.mp e'
            have e3 := ok.ix p hp
            have : p.1 = y := hpy
            rw [this] at e3
            exact hne (List.mem_map.mpr ⟨p, hp, nodup_ix hN e3 e1⟩)
          · exact e' (List.mem_of_getElem? e1)
        rcases r with rfl | ⟨rfl, rfl⟩
        · rcases hk' with rfl | rfl | rfl
          · exact absurd (.inl rfl) no
          · exact absurd (.inr rfl) no
          · exact ⟨e, .inr hk0⟩
        · exact ⟨e, .inl hk0⟩
      have e3 : Vis cenv.scope y := e3
      rcases e3 with e3 | e3 | e3
      · exact key _ e3 (.inl rfl)
      · exact key _ e3 (.inr (.inl rfl))
      · exact key _ e3 (.inr (.inr rfl))
    obtain ⟨m, hn, hl⟩ := I.loc
    have hvis : Vis X.env.scope y := (ok.free _ (PySem.mem_of_lookup hfr.1) rfl).elim (fun k => .inr (.inl k)) (fun k => .inr (.inr k))
    obtain ⟨w, r, q⟩ := hl i y av e1 e2 hvis
    refine ⟨w, r, .inr ⟨hfr.2, ?_⟩⟩
    obtain ⟨c, h1, h2⟩ := look hfr.1
    rcases q with ⟨k, _⟩ | ⟨_, c', e', z⟩
    · have k : X.env.scope.names.lookup y = some .local := k
      rcases ok.free _ (PySem.mem_of_lookup hfr.1) rfl with k' | k' <;> rw [show X.env.scope.names.lookup y = _ from k'] at k <;> cases k
    · rw [h2] at e'; cases e'
      exact ⟨c, h1, z.keeps kp⟩
  · have e : cenv.cells.lookup y = some c := e
    rcases mem e with ⟨h1, _⟩ | ⟨_, z⟩
    · obtain ⟨w, z⟩ := I.cell y c h1
      exact ⟨w, z.keeps kp⟩
    · exact ⟨_, z⟩
  · show H cenv.locals = none
    rw [hL]; exact I.hok.fresh (Nat.le_refl _)
  · have e : cenv.cells.lookup y = some c := e
    rcases mem e with ⟨h1, _⟩ | ⟨h1, _⟩
    · exact I.freeC y c h1
    · exact I.hok.fresh (Nat.le_of_succ_le h1)
  · exact absurd (show p ∈ ([] : List (Addr × Obj)) ++ [] from hp) (by simp)
theorem app_ok {E : Value → Shared → Prop} {D : Addr} {xs : List V} {y : V} {v : Value} {Q : Value → Shared → Prop} (I : Inv X pins σ H s) (hD : H D = some (.lst xs)) (hz : xs.length < sizeLine) (r : RelV y v)
    (h : ∀ s', Inv X pins σ (upd H D (.lst (xs ++ [y]))) s' → Q .none s') : wpAny (model X.prog X.w) X.A (call (.builtin "list.append") [.ref D, v]) Q E s := by
  obtain ⟨hz', its, n, ri, e⟩ := I.hok D _ hD
  have hl := ri.length
  refine append_at (hsz := by rw [List.size_toArray]; omega) e fun h' sb ho' => ?_
  refine h { s with heap := h' } (I.write (t' := s.toks) (by rw [hD]; trivial) (.inl rfl) (fun b u hb q => (sb.2 b hb).trans q) ⟨_, ho'⟩ ⟨by rw [List.length_append]; exact hz, its ++ [v], n + 1, ri.append (.cons r .nil), ?_⟩)
  rw [ho']
  simp
def PTs (X : Cx) (ifs : List Expr) (t : TT) : Prop :=
  ∀ (pins : List (Addr × Obj)) (s : Shared) (σ : St) (H : Hp) (Q : Bool → Hp → Prop), Inv X pins σ H s → t σ H Q →
    wpAny (model X.prog X.w) X.A (forIn ifs true fun c r => if r = true then do let ok ← isTrue c X.env (eval c X.env); pure (ForInStep.yield ok) else pure (ForInStep.yield r)) (TP X pins σ Q) X.xe s
def tYes : TT := fun _ H Q => Q true H
theorem pts_nil : PTs X [] tYes := fun _ _ _ H _ I h => wpAny_tests_nil ⟨H, I, h⟩
theorem pts_one {c : Expr} {t : TT} (h : PT X c t) : PTs X [c] t := fun pins s σ H Q I hw => wpAny_tests_one (h pins s σ H Q I hw)
end
theorem thnF {α : Type} {t : Sem α} {Q Q' : α → Shared → Prop} {M : Model} {A : Around} {E : Value → Shared → Prop} {s : Shared} (h : wpAny M A t Q (fun _ _ => False) s) (hQ : ∀ a s, Q a s → Q' a s) : wpAny M A t Q' E s := wpAny_mono h hQ fun _ _ z => False.elim z
theorem compLoop_any {prog : Program} {w : World} {A : Around} {R : Result → Shared → Prop} {s : Shared} {elt target iter : Expr} {ifs : List Expr} {scope : Scope} {pos : Pos} {it acc : Value} {env : Env} (I : Nat → Shared → Prop)
    (turn : ∀ n s, I n s → wpAny (model prog w) A (pyNext it) (fun r s₁ => match r with
      | none => R (.ok .next) s₁
      | some v => wpAny (model prog w) A (letOwnedTupleGo target it v) (fun _ s₁' => wpAny (model prog w) A (assign target env v) (fun _ s₂ =>
          wpAny (model prog w) A (forIn ifs true fun c r => if r = true then do let ok ← isTrue c env (eval c env); pure (ForInStep.yield ok) else pure (ForInStep.yield r)) (fun ok s₃ =>
            if ok = true then wpAny (model prog w) A (eval elt env) (fun x s₄ =>
              wpAny (model prog w) A (call (.builtin "list.append") [acc, x]) (fun _ s₅ => ∃ m, m < n ∧ I m s₅) (notedBy (model prog w) A env fun e s' => R (.error e) s') s₄) (notedBy (model prog w) A env fun e s' => R (.error e) s') s₃
            else ∃ m, m < n ∧ I m s₃) (notedBy (model prog w) A env fun e s' => R (.error e) s') s₂) (notedBy (model prog w) A env fun e s' => R (.error e) s') s₁') (notedBy (model prog w) A env fun e s' => R (.error e) s') s₁) (notedBy (model prog w) A env fun e s' => R (.error e) s') s)
    (n : Nat) (h : I n s) :
    codeAny (model prog w) A (.compLoop (.ListComp elt [⟨target, iter, ifs, 0⟩] scope pos) 0 it acc env) R s := by
  refine codeAny_loop rfl I (fun n s hI => ?_) n h
  show wpAny _ A ((compTurn (.ListComp elt [⟨target, iter, ifs, 0⟩] scope pos) 0 it acc env).onRaise (fun x => do noteFrame x env; theTreesLotGoes x)) _ _ s
  refine wpAny_noted ?_
  rw [compTurn_list]
  refine wpAny_bind (wpAny_standAt (wpAny_bind (wpAny_mono (turn n s hI) (fun r s₁ h₁ => ?_) fun _ _ h' => h')))
  cases r with
  | none => exact wpAny_pure h₁
  | some v =>
    refine wpAny_bind (wpAny_mono h₁ (fun _ s₁' h₁' => ?_) fun _ _ h' => h')
    refine wpAny_bind (wpAny_mono h₁' (fun _ s₂ h₂ => wpAny_bind (wpAny_mono h₂ (fun ok s₃ h₃ => ?_) fun _ _ h' => h')) fun _ _ h' => h')
    cases ok with
    | false => exact wpAny_pure ⟨rfl, h₃⟩
    | true =>
      exact wpAny_bind (wpAny_bind (wpAny_mono h₃ (fun x s₄ h₄ => wpAny_bind (wpAny_mono h₄ (fun _ s₅ h₅ => wpAny_pure (wpAny_pure ⟨rfl, h₅⟩)) fun _ _ h' => h')) fun _ _ h' => h'))
section
variable {X : Cx}
def tLc (wi : TI) (g : TG) (tt : TT) (te : TE) (vs : List Nat) : TE := fun σ H Q => wi σ H fun J H1 => ∀ D, H1 D = none → ∃ W : Nat → Nat → Hp → Prop, (∃ m, W 0 m (upd H1 D (.lst []))) ∧ ∀ i m H, W i m H →
  (J.stop i H ∧ Q (.ref D) H) ∨ (J.go i H ∧ ∃ Nx : Hp → Prop, (∀ H', Nx H' → ∃ m', m' < m ∧ W (i + 1) m' H') ∧ ∀ x H', J.yld i H x H' → g x (wipe σ vs) H' fun σ2 H2 => wipe σ2 vs = wipe σ vs ∧ tt σ2 H2 fun b H3 =>
    if b = true then te σ2 H3 fun y H4 => ∃ acc, H4 D = some (.lst acc) ∧ acc.length < sizeLine ∧ Nx (upd H4 D (.lst (acc ++ [y]))) else Nx H3)
theorem lc_core {pins : List (Addr × Obj)} {s : Shared} {σ : St} {H : Hp} {Q : VK} {elt tg iter : Expr} {ifs : List Expr} {scope : Scope} {own : List (Str × Nat)} {pos pos' : Pos} {wi : TI} {g : TG} {tt : TT} {te : TE} {use : Option (Value → Sem Unit)} {Qf : Value → Shared → Prop}
    (hc : X.calm = true) (hN : X.N.Nodup) (I : Inv X pins σ H s) (hi : PI X tg iter wi) (ok : BlkOk X.N X.env.scope scope own)
    (hg : ∀ (s : Shared) (H : Hp) (C : Addr) (cl : List (Str × Addr)) (fp : List Addr), PG (X.blk s H scope (compEnvC scope cl C X.env) fp) tg g) (ht : ∀ (s : Shared) (H : Hp) (C : Addr) (cl : List (Str × Addr)) (fp : List Addr), PTs (X.blk s H scope (compEnvC scope cl C X.env) fp) ifs tt)
    (he : ∀ (s : Shared) (H : Hp) (C : Addr) (cl : List (Str × Addr)) (fp : List Addr), PE (X.blk s H scope (compEnvC scope cl C X.env) fp) elt te) (hs : ∀ x, foldedSetIterable iter X.env x = pure x)
    (h : tLc wi g tt te (own.map (·.2)) σ H Q)
    (hRR : ∀ D C s' m H', Inv X pins σ H' s' → Q (.ref D) H' → s'.heap.Ns C m → FpOk X pins H' C → compPost (model X.prog X.w) X.A X.xe use Qf (.ref D) C (.ok .next) s') :
    wpAny (model X.prog X.w) X.A (comprehension (.ListComp elt [⟨tg, iter, ifs, 0⟩] scope pos) scope X.env pos' (newList []) false (eval iter X.env) use) Qf X.xe s := by
  have hfree : ∀ y ∈ scope.names, y.2 = .free → ∃ c, X.env.cells.lookup y.1 = some c := fun y hy e => by
    rcases ok.free y hy e with k | k
    · exact I.ok.has _ (.inl k)
    · exact I.ok.has _ (.inr k)
  refine wpAny_comprehension_free (use := use) rfl hs (closure_ok hfree) ok.kind (fun y hy e => by rw [ok.uniq y hy, e])
    (thn (hi pins s σ H _ I h) fun xv s1 hx => thn hx fun itv s2 h2 => ?_)
  obtain ⟨it, fp, tn, J, H2, e, I2, T, st2, f2, q⟩ := h2
  subst e
  refine wpAny_newObj_type (newEnv_comp ?_) (by show 0 ≤ sizeLine; decide)
  generalize hD : s2.heap.objs.size = D
  have hDn : H2 D = none := I2.hok.fresh (Nat.le_of_eq hD)
  obtain ⟨W, ⟨m0, w0⟩, turn⟩ := q D hDn
  generalize hs3 : ({ s2 with heap := s2.heap.push { cls := .type "list", data := .seq ([] : List Value).toArray } } : Shared) = s3
  have I3 : Inv X pins σ (upd H2 D (.lst [])) s3 := by
    rw [← hs3]
    refine I2.laid (t' := s2.toks) (fun b o e => Heap.get?_push_of_some _ e) (Nat.le_of_eq hD) ⟨Nat.zero_le _, [], 0, .nil, ?_⟩
    rw [← hD]
    exact Heap.get?_push_size _ rfl
  have h3 : s3.heap = s2.heap.push { cls := .type "list", data := .seq ([] : List Value).toArray } := by rw [← hs3]
  have sz : ∀ b ∈ fp, b < s2.heap.objs.size := fun b hb => by
    obtain ⟨o, e, _⟩ := T.obj _ _ st2 b hb
    exact Heap.lt_size e
  have f3 : ∀ b ∈ fp, FpOk X pins (upd H2 D (.lst [])) b ∧ b < s3.heap.objs.size := fun b hb => by
    have hlt := sz b hb
    refine ⟨⟨?_, (f2 b hb).2⟩, by rw [h3, Heap.size_push]; exact Nat.lt_succ_of_lt hlt⟩
    rw [upd_ne (by rw [← hD]; exact Nat.ne_of_lt hlt)]
    exact (f2 b hb).1
  have st3 : tn 0 s3.heap := T.keep _ _ _ st2 fun b _ o e => by rw [h3]; exact Heap.get?_push_of_some _ e
  have I4 := block_start I3 ok hN f3
  have pg := hg s3 (upd H2 D (.lst [])) s3.heap.objs.size (cellsFrom (s3.heap.objs.size + 1) scope.names (cloFrom X.env.cells scope.names [])) fp
  have pt := ht s3 (upd H2 D (.lst [])) s3.heap.objs.size (cellsFrom (s3.heap.objs.size + 1) scope.names (cloFrom X.env.cells scope.names [])) fp
  have pe := he s3 (upd H2 D (.lst [])) s3.heap.objs.size (cellsFrom (s3.heap.objs.size + 1) scope.names (cloFrom X.env.cells scope.names [])) fp
  show codeAny _ _ (.compStart (.ListComp elt [⟨tg, iter, ifs, 0⟩] scope pos) 0 (.ref it) (.ref D) (compEnvC scope (cellsFrom (s3.heap.objs.size + 1) scope.names (cloFrom X.env.cells scope.names [])) s3.heap.objs.size X.env)) (compPost (model X.prog X.w) X.A X.xe use Qf (.ref D) s3.heap.objs.size) { s3 with heap := pushCells (s3.heap.push { cls := .type "dict", data := .dict #[] }) scope.names }
  have nfp : ∀ b ∈ fp, (upd H2 D (.lst [])) b = none := fun b hb => (f3 b hb).1.1
  generalize hce : compEnvC scope (cellsFrom (s3.heap.objs.size + 1) scope.names (cloFrom X.env.cells scope.names [])) s3.heap.objs.size X.env = ce at I4 pg pt pe ⊢
  have cL : ce.locals = s3.heap.objs.size := by subst hce; rfl
  generalize hH3 : upd H2 D (.lst []) = H3 at I3 I4 pg pt pe w0 nfp f3
  generalize hs4 : ({ s3 with heap := pushCells (s3.heap.push { cls := .type "dict", data := .dict #[] }) scope.names } : Shared) = s4 at I4 ⊢
  have st4 : tn 0 s4.heap := T.keep _ _ _ st3 fun b _ o e => by rw [← hs4]; exact pushCells_keeps _ _ _ _ (Heap.get?_push_of_some _ e)
  have stat : ∀ {σ' : St} {H' : Hp} {s' : Shared}, Inv (X.blk s3 H3 scope ce fp) [] σ' H' s' → (∀ b ∈ fp, H' b = none) → ∀ b ∈ fp, FpOk (X.blk s3 H3 scope ce fp) [] H' b := fun {σ' H' s'} I' hn b hb =>
    ⟨hn b hb, (I'.ok.exf b hb).1, I'.ok.exfs b hb, .inl hb, fun x c e => (I'.ok.exf b hb).2 x c e, fun p hp => absurd (show p ∈ ([] : List (Addr × Obj)) ++ [] from hp) (by simp)⟩
  have loop : codeAny (model X.prog X.w) X.A (.compLoop (.ListComp elt [⟨tg, iter, ifs, 0⟩] scope pos) 0 (.ref it) (.ref D) ce) (compPost (model X.prog X.w) X.A X.xe use Qf (.ref D) s3.heap.objs.size) s4 := by
    refine compLoop_any (fun n s' => ∃ i H', Inv (X.blk s3 H3 scope ce fp) [] (wipe σ (own.map (·.2))) H' s' ∧ tn i s'.heap ∧ (∀ b ∈ fp, H' b = none) ∧ W i n H') ?_ m0 ⟨0, H3, I4, st4, nfp, w0⟩
    rintro n s5 ⟨i, H5, I5, st5, n5, w5⟩
    rcases turn i n H5 w5 with ⟨stop, qq⟩ | ⟨go, Nx, hNx, step⟩
    · have td := T.done (X.blk s3 H3 scope ce fp) rfl rfl rfl hc i [] s5 _ H5 (fun _ _ => False) I5 (stat I5 n5) st5 stop
      refine thnF td fun r s6 ⟨hr, I6⟩ => ?_
      subst hr
      have I7 : Inv X pins σ H5 s6 := I3.call' (ch := fp) I6.os I6.base I6.hok I6.bare fun b hb => ⟨(f3 b hb).1.2.2.2.1, (f3 b hb).1.2.1, (f3 b hb).1.2.2.2.2.1, (f3 b hb).1.2.2.2.2.2⟩
      have nC : H5 s3.heap.objs.size = none := by
        have z : H5 ce.locals = none := I6.free
        rw [cL] at z
        exact z
      obtain ⟨m, hn, _⟩ := I6.loc
      have hn : s6.heap.Ns ce.locals m := hn
      rw [cL] at hn
      exact hRR D s3.heap.objs.size s6 m H5 I7 qq hn (I3.fpOk (Nat.le_refl _) nC)
    · have ti := T.item (X.blk s3 H3 scope ce fp) rfl rfl rfl hc i [] s5 _ H5 (fun _ _ => False) I5 (stat I5 n5) st5 go
      refine thnF ti fun r s6 ⟨u, hr, h6⟩ => ?_
      subst hr
      refine thnF h6 fun _ s7 ⟨x, H7, I7, r7, y7, st7, n7⟩ => ?_
      have I7' := I7.pinned (stat I7 n7) (T.obj _ _ st7)
      refine thnF (pg _ s7 _ H7 x u _ I7' r7 (step x H7 y7)) fun _ s8 ⟨σ8, H8, I8, hw8, q8⟩ => ?_
      refine thnF (pt _ s8 σ8 H8 _ I8 q8) fun b s9 ⟨H9, I9, q9⟩ => ?_
      have fin : ∀ {s' : Shared} {H' : Hp}, Inv (X.blk s3 H3 scope ce fp) ([] ++ pinsAt fp s7.heap) σ8 H' s' → Nx H' → ∃ m, m < n ∧ ∃ i H', Inv (X.blk s3 H3 scope ce fp) [] (wipe σ (own.map (·.2))) H' s' ∧ tn i s'.heap ∧ (∀ b ∈ fp, H' b = none) ∧ W i m H' := fun {s' H'} I' nx => by
        obtain ⟨m', hm, w'⟩ := hNx H' nx
        have pin' : ∀ b ∈ fp, ∀ o, s7.heap.get? b = some o → s'.heap.get? b = some o ∧ H' b = none := fun b hb o e =>
          let z := I'.pin (b, o) (List.mem_append_right _ (List.mem_append_right _ (mem_pinsAt hb e)))
          ⟨z.1, z.2.1⟩
        have hl : (wipe σ (own.map (·.2))).length = σ8.length := by rw [← hw8, wipe_length]
        refine ⟨m', hm, i + 1, H', (I'.unpinned (pins := [])).weak hl (fun j v e => ?_), T.keep _ _ _ st7 fun b hb o e => (pin' b hb o e).1, fun b hb => ?_, w'⟩
        · rw [← hw8] at e
          exact (wipe_some e).1
        · obtain ⟨o, e, _⟩ := T.obj _ _ st7 b hb
          exact (pin' b hb o e).2
      cases b with
      | false =>
        simp only [Bool.false_eq_true, if_false] at q9 ⊢
        exact fin I9 q9
      | true =>
        simp only [if_true] at q9 ⊢
        refine thnF (pe _ s9 σ8 H9 _ I9 q9) fun z s10 ⟨yv, H10, I10, r10, acc, hD10, hz10, nx⟩ => ?_
        exact app_ok (X := X.blk s3 H3 scope ce fp) I10 hD10 hz10 r10 fun s11 I11 => fin I11 nx
  exact codeAny_compStart_list loop (T.self X.A 0 _ _ _ st4 loop)
theorem pe_lc {elt tg iter : Expr} {ifs : List Expr} {scope : Scope} {own : List (Str × Nat)} {pos : Pos} {wi : TI} {g : TG} {tt : TT} {te : TE} (hc : X.calm = true) (hN : X.N.Nodup) (hi : PI X tg iter wi) (ok : BlkOk X.N X.env.scope scope own)
    (hg : ∀ (s : Shared) (H : Hp) (C : Addr) (cl : List (Str × Addr)) (fp : List Addr), PG (X.blk s H scope (compEnvC scope cl C X.env) fp) tg g) (ht : ∀ (s : Shared) (H : Hp) (C : Addr) (cl : List (Str × Addr)) (fp : List Addr), PTs (X.blk s H scope (compEnvC scope cl C X.env) fp) ifs tt)
    (he : ∀ (s : Shared) (H : Hp) (C : Addr) (cl : List (Str × Addr)) (fp : List Addr), PE (X.blk s H scope (compEnvC scope cl C X.env) fp) elt te) (hs : ∀ x, foldedSetIterable iter X.env x = pure x := by intro _; rfl) :
    PE X (.ListComp elt [⟨tg, iter, ifs, 0⟩] scope pos) (tLc wi g tt te (own.map (·.2))) := by
  intro pins s σ H Q I h
  rw [eval_ListComp]
  refine lc_core hc hN I hi ok hg ht he hs h fun D C s' m H' I' q hn f => ⟨m, hn, fun h'' sb => ?_⟩
  obtain ⟨f0, f1, f2, f3, f4, f5⟩ := f
  exact ⟨.ref D, H', I'.turned (t' := s'.toks) (fun b o hb e => (sb.2 b hb).trans e) f0 f1 f3 f4 f5, rfl, q⟩
theorem ps_setLc {i : Nat} {y : Str} {py : Pos} {elt tg iter : Expr} {ifs : List Expr} {scope : Scope} {own : List (Str × Nat)} {pos spos : Pos} {wi : TI} {g : TG} {tt : TT} {te : TE} (hc : X.calm = true) (hN : X.N.Nodup) (hy : X.N[i]? = some y) (hyl : X.env.scope.names.lookup y = some .local)
    (hsw : swapsWith (.ListComp elt [⟨tg, iter, ifs, 0⟩] scope pos) (some (.Name y py)) spos.line X.env = pure true) (hi : PI X tg iter wi) (ok : BlkOk X.N X.env.scope scope own)
    (hg : ∀ (s : Shared) (H : Hp) (C : Addr) (cl : List (Str × Addr)) (fp : List Addr), PG (X.blk s H scope (compEnvC scope cl C X.env) fp) tg g) (ht : ∀ (s : Shared) (H : Hp) (C : Addr) (cl : List (Str × Addr)) (fp : List Addr), PTs (X.blk s H scope (compEnvC scope cl C X.env) fp) ifs tt)
    (he : ∀ (s : Shared) (H : Hp) (C : Addr) (cl : List (Str × Addr)) (fp : List Addr), PE (X.blk s H scope (compEnvC scope cl C X.env) fp) elt te) (hs : ∀ x, foldedSetIterable iter X.env x = pure x := by intro _; rfl) :
    PS X (.Assign [.Name y py] (.ListComp elt [⟨tg, iter, ifs, 0⟩] scope pos) spos) (tAsg (tLc wi g tt te (own.map (·.2))) (gName i)) := by
  intro pins s σ H D I h
  rw [exec_Assign_Name_used _ _ _ _ hsw]
  refine wpAny_bind (wpAny_standAt (wpAny_bind ?_))
  show wpAny _ X.A (do let _ ← comprehension (.ListComp elt [⟨tg, iter, ifs, 0⟩] scope pos) scope X.env (firstIterPos [⟨tg, iter, ifs, 0⟩] pos) (newList []) false (eval iter X.env) (some (assign (.Name y py) X.env))) _ _ s
  have h : tLc wi g tt te (own.map (·.2)) σ H (fun x H1 => gName i x σ H1 D.nx) := h
  refine wpAny_bind (thn (lc_core (Qf := fun _ s' => SP X pins D .next s') hc hN I hi ok hg ht he hs h fun L C s' m H' I' q hn f => ?_) fun _ s' hq => wpAny_pure (wpAny_pure hq))
  show wpAny _ _ (assign (.Name y py) X.env (.ref L)) _ _ _
  refine wpAny_assign_Name (store_ok2 (v := V.ref L) I' hN hy (.inl hyl) rfl (fun s2 I2 ⟨a, sb, ha⟩ => ?_) (.inr hyl))
  obtain ⟨f0, f1, f2, f3, f4, f5⟩ := f
  have haC : C ≠ a := by
    rcases ha with z | z
    · rw [z]; exact f1
    · exact fun e => f4 y a z e.symm
  refine ⟨m, hn.sameBut sb haC, fun h3 sb3 => ?_⟩
  exact ⟨_, H', I2.turned (t' := s2.toks) (fun b o hb e => (sb3.2 b hb).trans e) f0 f1 f3 f4 f5, q⟩
theorem sw_true {elt : Expr} {gs : List Comprehension} {scope : Scope} {pos py : Pos} {y : Str} {l : Nat} {env : Env} (hk : env.scope.kind = .function) (hy : env.scope.names.lookup y = some .local) (hl : (py.line == pos.line) = true)
    (ha : (scope.names.any fun (n, k) => n == y && (k == .local || k == .cell)) = false) : swapsWith (.ListComp elt gs scope pos) (some (.Name y py)) l env = pure true := by
  have ky : env.kindOf y = some .local := hy
  have hb : env.blockKind = .function := by unfold Env.blockKind; rw [hk]; rfl
  unfold swapsWith
  simp only [hb, ky, ha, Expr.pos, hl]
  rfl
end
def blkC (N : List Str) (sc scope : Scope) (own : List (Str × Nat)) : Bool :=
  (match scope.kind with | .function => true | _ => false) && (scope.names.all fun y => decide (scope.names.lookup y.1 = some y.2)) && (own.all fun p => decide (N[p.2]? = some p.1)) &&
    (scope.names.all fun y => match y.2 with
      | .free => (match sc.names.lookup y.1 with | some .cell => true | some .free => true | _ => false)
      | .local => decide (y.1 ∈ own.map (·.1)) || decide (y.1 ∉ N)
      | .cell => decide (y.1 ∈ own.map (·.1)) || decide (y.1 ∉ N)
      | _ => true)
theorem blkOk_by {N : List Str} {sc scope : Scope} {own : List (Str × Nat)} (h : blkC N sc scope own = true) : BlkOk N sc scope own := by
  unfold blkC at h
  simp only [Bool.and_eq_true, List.all_eq_true, decide_eq_true_eq] at h
  obtain ⟨⟨⟨h1, h2⟩, h3⟩, h4⟩ := h
  refine ⟨?_, h2, h3, fun y hy e => ?_, fun y hy e => ?_⟩
  · split at h1
    · assumption
    · cases h1
  · have q := h4 y hy
    simp only [e] at q
    split at q <;> first | exact .inl (by assumption) | exact .inr (by assumption) | cases q
  · have q := h4 y hy
    rcases e with e | e <;> (simp only [e, Bool.or_eq_true, decide_eq_true_eq] at q; exact q)
section
variable {prog : Program} {w : World} {A : Around} {R : Result → Shared → Prop} {s : Shared} {elt t0 i0 t1 i1 : Expr} {ifs0 ifs1 : List Expr} {scope : Scope} {pos : Pos} {it acc : Value} {env : Env}
end
theorem wipe_out {σ : St} {i : Nat} : ∀ {vs : List Nat}, i ∉ vs → (wipe σ vs)[i]? = σ[i]?
  | [], _ => rfl
  | v :: vs, h => by
    have h1 : v ≠ i := fun e => h (by rw [e]; exact List.mem_cons_self)
    have h2 : i ∉ vs := fun m => h (List.mem_cons_of_mem _ m)
    unfold wipe
    rw [List.getElem?_set_ne h1]
    exact wipe_out h2
section
variable {X : Cx}
end
section
variable {κ : Type} [DecidableEq κ]
def valV (kvs : List (κ × V)) (k : κ) : Option V := (kvs.find? fun kv => decide (kv.1 = k)).map (·.2)
def putK (kvs : List (κ × V)) (k : κ) (v : V) : List (κ × V) :=
  if (kvs.any fun kv => decide (kv.1 = k)) = true then kvs.map (fun kv => if kv.1 = k then (kv.1, v) else kv) else kvs ++ [(k, v)]
def dropK (kvs : List (κ × V)) (k : κ) : List (κ × V) := kvs.filter fun kv => decide (kv.1 ≠ k)
theorem valV_pos {p : κ × V} {r : List (κ × V)} {k : κ} (e : p.1 = k) : valV (p :: r) k = some p.2 := by simp [valV, List.find?_cons, e]
theorem valV_neg {p : κ × V} {r : List (κ × V)} {k : κ} (e : ¬ p.1 = k) : valV (p :: r) k = valV r k := by simp [valV, List.find?_cons, e]
theorem valV_any (k : κ) : ∀ kvs : List (κ × V), (kvs.any fun kv => decide (kv.1 = k)) = (valV kvs k).isSome
  | [] => rfl
  | p :: r => by
    rw [List.any_cons]
    by_cases e : p.1 = k
    · simp only [valV_pos e, decide_eq_true e, Bool.true_or, Option.isSome_some]
    · rw [valV_neg e, decide_eq_false e, Bool.false_or]; exact valV_any k r
theorem RelO.isSome_eq {o : Option V} {u : Option Value} (r : RelO o u) : o.isSome = u.isSome := by
  cases o with
  | none => cases u with
    | none => rfl
    | some _ => exact (show False from r).elim
  | some _ => cases u with
    | none => exact (show False from r).elim
    | some _ => rfl
theorem RelO.getD {o : Option V} {u : Option Value} {d : V} {d' : Value} (r : RelO o u) (rd : RelV d d') : RelV (o.getD d) (u.getD d') := by
  cases o with
  | none => cases u with
    | none => exact rd
    | some _ => exact (show False from r).elim
  | some _ => cases u with
    | none => exact (show False from r).elim
    | some _ => exact r
theorem KV.val {kvs : List (κ × V)} {vs : List (κ × Value)} (r : KV kvs vs) (k : κ) : RelO (valV kvs k) (valueAt vs k) := by
  unfold KV at r
  induction r with
  | nil => exact True.intro
  | @cons p q ps qs h t ih =>
    obtain ⟨h1, h2⟩ := h
    by_cases e : p.1 = k
    · have e' : q.1 = k := h1.symm.trans e
      have b : valueAt (q :: qs) k = some q.2 := by simp [valueAt, List.find?_cons, e']
      rw [valV_pos e, b]; exact h2
    · have e' : ¬ q.1 = k := fun z => e (h1.trans z)
      have b : valueAt (q :: qs) k = valueAt qs k := by simp [valueAt, List.find?_cons, e']
      rw [valV_neg e, b]; exact ih
theorem KV.any {kvs : List (κ × V)} {vs : List (κ × Value)} (r : KV kvs vs) (k : κ) : (kvs.any fun kv => decide (kv.1 = k)) = vs.any fun kv => decide (kv.1 = k) := by
  unfold KV at r
  induction r with
  | nil => rfl
  | cons h t ih => rw [List.any_cons, List.any_cons, ih, h.1]
theorem KV.repl {kvs : List (κ × V)} {vs : List (κ × Value)} (r : KV kvs vs) (k : κ) {y : V} {u : Value} (ry : RelV y u) :
    KV (kvs.map fun kv => if kv.1 = k then (kv.1, y) else kv) (vs.map fun kv => if kv.1 = k then (kv.1, u) else kv) := by
  unfold KV at r ⊢
  induction r with
  | nil => exact .nil
  | @cons p q ps qs h t ih =>
    rw [List.map_cons, List.map_cons]
    refine .cons ?_ ih
    obtain ⟨h1, h2⟩ := h
    by_cases e : p.1 = k
    · rw [if_pos e, if_pos (h1.symm.trans e)]; exact ⟨h1, ry⟩
    · rw [if_neg e, if_neg (fun z => e (h1.trans z))]; exact ⟨h1, h2⟩
theorem KV.put {kvs : List (κ × V)} {vs : List (κ × Value)} (r : KV kvs vs) (k : κ) {y : V} {u : Value} (ry : RelV y u) : KV (putK kvs k y) (stored vs k u) := by
  unfold putK stored
  rw [r.any k]
  by_cases e : (vs.any fun kv => decide (kv.1 = k)) = true
  · rw [if_pos e, if_pos e]; exact r.repl k ry
  · rw [if_neg e, if_neg e]; exact Paired.snoc r ⟨rfl, ry⟩
theorem KV.drop {kvs : List (κ × V)} {vs : List (κ × Value)} (r : KV kvs vs) (k : κ) : KV (dropK kvs k) (without vs k) := by
  unfold KV at r ⊢
  unfold dropK without
  induction r with
  | nil => exact .nil
  | @cons p q ps qs h t ih =>
    obtain ⟨h1, h2⟩ := h
    rw [List.filter_cons, List.filter_cons]
    by_cases e : p.1 = k
    · have a : ¬ decide (p.1 ≠ k) = true := by simp [e]
      have b : ¬ decide (q.1 ≠ k) = true := by simp [h1.symm.trans e]
      rw [if_neg a, if_neg b]; exact ih
    · have e' : ¬ q.1 = k := fun z => e (h1.trans z)
      have a : decide (p.1 ≠ k) = true := by simp [e]
      have b : decide (q.1 ≠ k) = true := by simp [e']
      rw [if_pos a, if_pos b]; exact .cons ⟨h1, h2⟩ ih
theorem KV.keys {kvs : List (κ × V)} {vs : List (κ × Value)} (r : KV kvs vs) : kvs.map (·.1) = vs.map (·.1) := by
  unfold KV at r
  induction r with
  | nil => rfl
  | cons h t ih => rw [List.map_cons, List.map_cons, ih, h.1]
theorem KV.length {kvs : List (κ × V)} {vs : List (κ × Value)} (r : KV kvs vs) : kvs.length = vs.length := Paired.length r
end
abbrev KT (H : Hp) : List (List Key × V) → List (List Key × Addr × Value) → Prop := Paired fun p q => p.1 = q.1 ∧ H q.2.1 = some (.tup (p.1.map kV)) ∧ RelV p.2 q.2.2
theorem KT.val {H : Hp} {kvs : List (List Key × V)} {xs : List (List Key × Addr × Value)} (r : KT H kvs xs) (k : List Key) : RelO (valV kvs k) ((atKey xs k).map (·.2)) := by
  induction r with
  | nil => exact True.intro
  | @cons p q ps qs h t ih =>
    obtain ⟨h1, _, h2⟩ := h
    by_cases e : p.1 = k
    · have e' : q.1 = k := h1.symm.trans e
      have b : atKey (q :: qs) k = some q.2 := by simp [atKey, List.find?_cons, e']
      rw [valV_pos e, b]; exact h2
    · have e' : ¬ q.1 = k := fun z => e (h1.trans z)
      have b : atKey (q :: qs) k = atKey qs k := by simp [atKey, List.find?_cons, e']
      rw [valV_neg e, b]; exact ih
theorem KT.repl {H : Hp} {kvs : List (List Key × V)} {xs : List (List Key × Addr × Value)} (r : KT H kvs xs) (k : List Key) {y : V} {u : Value} (ry : RelV y u) :
    KT H (kvs.map fun kv => if kv.1 = k then (kv.1, y) else kv) (xs.map (putAt k u)) := by
  induction r with
  | nil => exact .nil
  | @cons p q ps qs h t ih =>
    rw [List.map_cons, List.map_cons]
    refine .cons ?_ ih
    obtain ⟨h1, h2, h3⟩ := h
    unfold putAt
    by_cases e : p.1 = k
    · rw [if_pos e, if_pos (h1.symm.trans e)]; exact ⟨h1, h2, ry⟩
    · rw [if_neg e, if_neg (fun z => e (h1.trans z))]; exact ⟨h1, h2, h3⟩
theorem KT.put {H : Hp} {kvs : List (List Key × V)} {xs : List (List Key × Addr × Value)} (r : KT H kvs xs) (k : List Key) {b : Addr} {y : V} {u : Value} (hb : H b = some (.tup (k.map kV))) (ry : RelV y u) :
    KT H (putK kvs k y) (storedH xs k b u) := by
  have e : (kvs.any fun kv => decide (kv.1 = k)) = (atKey xs k).isSome := by
    rw [valV_any, (r.val k).isSome_eq, Option.isSome_map]
  unfold putK storedH
  rw [e]
  by_cases q : (atKey xs k).isSome = true
  · rw [if_pos q, if_pos q]; exact r.repl k ry
  · rw [if_neg q, if_neg q]; exact Paired.snoc r ⟨rfl, hb, ry⟩
theorem KT.keeps {H H' : Hp} {kvs : List (List Key × V)} {xs : List (List Key × Addr × Value)} (r : KT H kvs xs) (ht : ∀ b ys, H b = some (.tup ys) → H' b = some (.tup ys)) : KT H' kvs xs :=
  Paired.mapP r fun _ _ z => ⟨z.1, ht _ _ z.2.1, z.2.2⟩
section
variable {P : Program} {w : World} {H : Hp} {h : Heap} {a : Addr}
end
section
variable {X : Cx} {pins : List (Addr × Obj)} {σ : St} {H : Hp} {s : Shared} {a : Addr} {y v : V} {u r : Value} {o : Option V} {A : Around} {E : Value → Shared → Prop}
end
section
variable {X : Cx} {pins : List (Addr × Obj)} {σ : St} {H : Hp} {s : Shared} {a : Addr} {kvs : List (Key × V)} {k : Key} {u : Value} {A : Around} {E : Value → Shared → Prop}
end
section
variable {X : Cx} {o i e value : Expr} {pos pos' tpos : Pos} {td ty tv : TE}
end
section
variable {X : Cx} {pos : Pos}
end
structure M1 (X : Cx) (o : Expr) (m : Str) (apos : Pos) (e : Expr) (cpos : Pos) : Prop where
  base : attributeBase o m X.env (eval o X.env) = eval o X.env
  few : ((backTo cpos (starEach [e] X.env)).all (fun x => !x.1) && (backToKw cpos (keywordEach [] X.env)).all (fun x => x.1.isSome)
    && decide (([e] : List Expr).length + ([] : List Keyword).length + (if ([] : List Keyword).isEmpty then 0 else 1) < 30)) = true
  line : (apos.endLine == cpos.line) = true
  trees : backTo cpos (starEach [e] X.env) = [(false, eval e X.env)]
structure M2 (X : Cx) (o : Expr) (m : Str) (apos : Pos) (e f : Expr) (cpos : Pos) : Prop where
  base : attributeBase o m X.env (eval o X.env) = eval o X.env
  few : ((backTo cpos (starEach [e, f] X.env)).all (fun x => !x.1) && (backToKw cpos (keywordEach [] X.env)).all (fun x => x.1.isSome)
    && decide (([e, f] : List Expr).length + ([] : List Keyword).length + (if ([] : List Keyword).isEmpty then 0 else 1) < 30)) = true
  line : (apos.endLine == cpos.line) = true
  trees : backTo cpos (starEach [e, f] X.env) = [(false, eval e X.env), (false, eval f X.env)]
section
variable {X : Cx} {pins : List (Addr × Obj)} {σ : St} {H : Hp} {s : Shared} {a : Addr} {y d : V} {u r : Value} {o : Option V} {A : Around} {E : Value → Shared → Prop}
end
section
variable {X : Cx} {o e f : Expr} {apos cpos : Pos} {td ty tx : TE}
end
section
variable {X : Cx} {pins : List (Addr × Obj)} {σ : St} {H : Hp} {s : Shared} {a : Addr} {kvs : List (Key × V)} {A : Around} {E : Value → Shared → Prop}
end
section
variable {X : Cx} {pins : List (Addr × Obj)} {σ : St} {H : Hp} {s : Shared} {a : Addr} {y : V} {u : Value} {A : Around} {E : Value → Shared → Prop}
end
section
variable {prog : Program} {w : World} {A : Around} {E : Value → Shared → Prop}
end
section
variable {X : Cx}
end
section
variable {X : Cx} {pins : List (Addr × Obj)} {σ : St} {H : Hp} {s : Shared} {h' : Heap}
theorem Inv.turnedL {t' : Nat} {ch : List Addr} (I : Inv X pins σ H s) (k : ∀ b o, b ∉ ch → s.heap.get? b = some o → h'.get? b = some o) (hf : ∀ b ∈ ch, FpOk X pins H b) : Inv X pins σ H { s with heap := h', toks := t' } := by
  have nit : ∀ b u, H b = some u → b ∉ ch := fun b u e z => by
    have q := (hf b z).1
    rw [q] at e; cases e
  refine I.step (g' := s.gens) (d' := s.drawn) (ch := ch) (fun b hb => ⟨(hf b hb).2.2.2.1, (hf b hb).2.1, (hf b hb).2.2.2.2.1, (hf b hb).2.2.2.2.2⟩) (fun b o _ _ hc e _ => k b o hc e) (fun b o _ _ hc e _ => ⟨o.slots, k b o hc e⟩)
    (fun _ _ _ _ n => n) (fun b o hc e => ⟨o, k b o hc e⟩) (fun _ _ e => e) (fun _ _ _ e => e) (fun b ps e => ⟨#[], by rw [e]; simp⟩) (fun m hm => ?_) (fun b u e => ?_) (.refl I.bare.all)
  · obtain ⟨o, es, ep, ho, r⟩ := hm
    exact ⟨o, es, ep, k _ o (fun z => (hf _ z).2.1 rfl) ho, r⟩
  · refine (I.hok b u e).stay (fun c v hc q => k c v ?_ q) (fun _ q => q) fun _ _ q => q
    rcases hc with z | z
    · rw [z]; exact nit b u e
    · exact nit c _ z
theorem Inv.turnedNew {t' : Nat} {ch : List Addr} {T : Addr} {ob : HO} (I : Inv X pins σ H s) (k : ∀ b o, b ∉ ch → s.heap.get? b = some o → h'.get? b = some o) (hf : ∀ b ∈ ch, FpOk X pins H b) (hT : s.heap.objs.size ≤ T)
    (new : ObjOk X.prog X.w (upd H T ob) h' T ob) : Inv X pins σ (upd H T ob) { s with heap := h', toks := t' } := by
  have hn : H T = none := I.hok.fresh hT
  have nit : ∀ b u, H b = some u → b ∉ ch := fun b u e z => by
    have q := (hf b z).1
    rw [q] at e; cases e
  refine I.step (g' := s.gens) (d' := s.drawn) (ch := ch) (fun b hb => ⟨(hf b hb).2.2.2.1, (hf b hb).2.1, (hf b hb).2.2.2.2.1, (hf b hb).2.2.2.2.2⟩) (fun b o _ _ hc e _ => k b o hc e) (fun b o _ _ hc e _ => ⟨o.slots, k b o hc e⟩)
    (fun b o _ e n => ?_) (fun b o hc e => ⟨o, k b o hc e⟩) (fun b xs e => ?_) (fun b o u e => ?_) (fun b ps e => ⟨#[], ?_⟩) (fun m hm => ?_) (fun b u e => ?_) (.refl I.bare.all)
  · rw [upd_ne (Nat.ne_of_lt (Nat.lt_of_lt_of_le (Heap.lt_size e) hT))]; exact n
  · rw [upd_ne (ne_of_none e hn)]; exact e
  · rw [upd_ne (ne_of_none e hn)]; exact e
  · rw [upd_ne (ne_of_none e hn), e]; simp
  · obtain ⟨o, es, ep, ho, r⟩ := hm
    exact ⟨o, es, ep, k _ o (fun z => (hf _ z).2.1 rfl) ho, r⟩
  · by_cases hb : b = T
    · subst hb
      rw [upd_same] at e
      cases e
      exact new
    · rw [upd_ne hb] at e
      refine (I.hok b u e).stay (fun c v hc q => k c v ?_ q) (fun c q => by rw [upd_ne (ne_of_none q hn)]; exact q) fun c xs q => by rw [upd_ne (ne_of_none q hn)]; exact q
      rcases hc with z | z
      · rw [z]; exact nit b u e
      · exact nit c _ z
end
section
variable {X : Cx}
theorem pi_one {tg : Expr} {pins : List (Addr × Obj)} {σ : St} {H : Hp} {s : Shared} {R : It → Hp → Prop} {J : It} {tn : Nat → Heap → Prop} {tk : Nat} (I : Inv X pins σ H s) (o : Obj)
    (T : Turn X.prog X.w X.K tg J [s.heap.objs.size] s.heap.objs.size tn) (st : tn 0 (s.heap.push o)) (q : R J H) : PIE X pins σ tg R (.ref s.heap.objs.size) { s with heap := s.heap.push o, toks := tk } := by
  refine ⟨s.heap.objs.size, [s.heap.objs.size], tn, J, H, rfl, I.kept fun b ob e => Heap.get?_push_of_some _ e, T, st, fun b hb => ?_, q⟩
  have e : b = s.heap.objs.size := by simpa using hb
  subst e
  exact I.fpOk (Nat.le_refl _) (I.hok.fresh (Nat.le_refl _))
end
section
variable {X : Cx} {tg : Expr}
end
section
variable {X : Cx} {tg : Expr}
end
def Its (x : Str) : It := ⟨fun i _ => i < x.cps.size, fun i H v H' => H' = H ∧ ∃ c, x.cps[i]? = some c ∧ v = .str ⟨#[c]⟩, fun i _ => x.cps.size ≤ i⟩
theorem turn_str {P : Program} {w : World} {K : PySem.W.Frag} {tg : Expr} (it : Addr) (x : Str) (t : Tok) (ty : String) (hty : ty = "str_ascii_iterator" ∨ ty = "str_iterator") :
    Turn P w K tg (Its x) [it] it (fun i h => h.IsStrIter it ty x t i) where
  mem := by simp
  obj := fun i h st b hb => by
    have e : b = it := by simpa using hb
    subst e
    obtain ⟨o, e, c, d⟩ := st
    exact ⟨o, e, fun v z => by rw [d] at z; cases z⟩
  keep := fun i h h' st k => let ⟨o, ho, r⟩ := st; ⟨o, k it (by simp) o ho, r⟩
  item := by
    intro X hP hw hK hc i pins s σ H E I hf st hg
    subst hP hw hK
    obtain ⟨f0, f1, f2, f3, f4, f5⟩ := hf it (by simp)
    have W : Walks X.prog X.w X.A it [it] [it] x.cps.size (SignAt x) (fun i h => h.IsStrIter it ty x t i) := by
      rcases hty with e | e
      · rw [e]; exact Walks.strAscii (I.ok.hd hc) it x t
      · rw [e]; exact Walks.strWide (I.ok.hd hc) it x t
    have hno : ["enumerate", "zip", "dict_itemiterator", "dict_reverseitemiterator", "odict_iterator", "itertools.zip_longest", "itertools.pairwise"].contains ty = false := by
      rcases hty with e | e
      · rw [e]; decide
      · rw [e]; decide
    refine W.item i s _ _ hg st fun v h' tk hv st' kk => ?_
    obtain ⟨c, u, hcx, rfl⟩ := hv
    have I1 : Inv X pins σ H { s with heap := h', toks := tk } := I.turned (fun b o hb e => kk b o (by simpa using hb) e) f0 f1 f3 f4 f5
    obtain ⟨oi, e, cc, dd⟩ := id st'
    exact ⟨_, rfl, go_of (s := { s with heap := h', toks := tk }) e cc dd hno ⟨.str ⟨#[c]⟩, H, I1, ⟨u, rfl⟩, ⟨rfl, c, hcx, rfl⟩, st', fun b hb => (hf b hb).1⟩⟩
  done := by
    intro X hP hw hK hc i pins s σ H E I hf st hg
    subst hP hw hK
    obtain ⟨f0, f1, f2, f3, f4, f5⟩ := hf it (by simp)
    have hx : x.cps[i]? = none := Array.getElem?_eq_none hg
    rcases hty with e | e
    · rw [e] at st
      exact wpAny_pyNext_ascii_end (I.ok.hd hc) st hx fun h' eb => ⟨rfl, I.turned (t' := s.toks) (fun b o hb e => eb b o hb e) f0 f1 f3 f4 f5⟩
    · rw [e] at st
      exact wpAny_pyNext_wide_end (I.ok.hd hc) st hx fun h' eb => ⟨rfl, I.turned (t' := s.toks) (fun b o hb e => eb b o hb e) f0 f1 f3 f4 f5⟩
  self := fun A i s Q E st h => by
    rcases hty with e | e
    · rw [e] at st; exact wpAny_pyIter_striter_ascii st h
    · rw [e] at st; exact wpAny_pyIter_striter_wide st h
def iStr (te : TE) : TI := fun σ H R => te σ H fun v H1 => ∃ x, v = .str x ∧ R (Its x) H1
theorem pi_str {X : Cx} {tg e : Expr} {te : TE} (he : PE X e te) : PI X tg e (iStr te) := by
  intro pins s σ H R I h
  refine thn (he pins s σ H _ I h) fun v s1 ⟨y, H1, I1, r1, x, ex, q⟩ => ?_
  subst ex
  obtain ⟨t, rfl⟩ := r1
  cases ha : x.cps.all (· < 128)
  · exact wpAny_pyIter_wide ha (pi_one (tk := s1.toks) I1 _ (turn_str _ x t "str_iterator" (.inr rfl)) ⟨_, Heap.get?_push_size _ rfl, rfl, rfl⟩ q)
  · exact wpAny_pyIter_ascii ha (pi_one (tk := s1.toks) I1 _ (turn_str _ x t "str_ascii_iterator" (.inl rfl)) ⟨_, Heap.get?_push_size _ rfl, rfl, rfl⟩ q)
section
variable {prog : Program} {w : World} {A : Around} {E : Value → Shared → Prop} {s : Shared}
end
section
variable {X : Cx} {pins : List (Addr × Obj)} {σ : St} {H : Hp} {s : Shared} {d : Addr} {o : Obj}
end
section
variable {P : Program} {w : World} {K : PySem.W.Frag} {tg : Expr} {d : Addr} {o : Obj} {es : Array DictEntry} {ep : Nat}
end
section
variable {X : Cx} {tg e : Expr} {td : TE} {apos cpos : Pos}
end
theorem boot_zip5 : bootBuiltins "zip" = some (.type "zip") := by decide +kernel
end L2
section
namespace Bits
open PySem PyProof.Rows
end Bits
end
section
namespace TL
open PySem PySem.Builtin PySem.Builtin.Str PySem.StrLaws
abbrev tl (x : Str) : List Nat := x.cps.toList
theorem len_tl (x : Str) : x.length = (tl x).length := by simp [tl, Str.length]
theorem ext_tl {x y : Str} (h : tl x = tl y) : x = y := Str.ext' (Array.toList_inj.mp h)
theorem tl_append (x y : Str) : tl (x ++ y) = tl x ++ tl y := by
  show (x ++ y).cps.toList = _
  rw [Str.cps_append, Array.toList_append]
theorem map_tl_inj : ∀ {l m : List Str}, l.map tl = m.map tl → l = m
  | [], [], _ => rfl
  | [], _ :: _, h => by simp at h
  | _ :: _, [], h => by simp at h
  | x :: l, y :: m, h => by
    rw [List.map_cons, List.map_cons] at h
    injection h with h1 h2
    rw [ext_tl h1, map_tl_inj h2]
def pre (S l : List Nat) : Bool := l.take S.length == S
def spl (S : List Nat) : Nat → List Nat → List Nat → List (List Nat)
  | _, acc, [] => [acc]
  | 0, acc, c :: r => if pre S (c :: r) = true then acc :: spl S (S.length - 1) [] r else spl S 0 (acc ++ [c]) r
  | k + 1, acc, _ :: r => spl S k acc r
def par (S : List Nat) : List Nat → List Nat → Option (List Nat × List Nat)
  | _, [] => none
  | acc, c :: r => if pre S (c :: r) = true then some (acc, (c :: r).drop S.length) else par S (acc ++ [c]) r
theorem spl_nil (S : List Nat) (k : Nat) (acc : List Nat) : spl S k acc [] = [acc] := by cases k <;> rfl
theorem spl_hit {S acc r : List Nat} {c : Nat} (h : pre S (c :: r) = true) : spl S 0 acc (c :: r) = acc :: spl S (S.length - 1) [] r := by
  show (if pre S (c :: r) = true then acc :: spl S (S.length - 1) [] r else spl S 0 (acc ++ [c]) r) = _
  rw [if_pos h]
theorem spl_miss {S acc r : List Nat} {c : Nat} (h : pre S (c :: r) = false) : spl S 0 acc (c :: r) = spl S 0 (acc ++ [c]) r := by
  show (if pre S (c :: r) = true then acc :: spl S (S.length - 1) [] r else spl S 0 (acc ++ [c]) r) = _
  rw [if_neg (by rw [h]; exact Bool.false_ne_true)]
theorem spl_pass (S : List Nat) : ∀ (k : Nat) (acc l : List Nat), spl S k acc l = spl S 0 acc (l.drop k)
  | 0, _, _ => by rw [List.drop_zero]
  | k + 1, acc, [] => by rw [List.drop_nil, spl_nil, spl_nil]
  | k + 1, acc, c :: r => by
    show spl S k acc r = spl S 0 acc (r.drop k)
    exact spl_pass S k acc r
theorem pre_nil {S : List Nat} (hS : S ≠ []) : pre S [] = false := by
  cases S with
  | nil => exact absurd rfl hS
  | cons s S => rfl
theorem pre_of_head {s c : Nat} (S r : List Nat) (h : c ≠ s) : pre (s :: S) (c :: r) = false := by
  cases hp : pre (s :: S) (c :: r) with
  | false => rfl
  | true =>
    have e : (c :: r).take (s :: S).length = s :: S := eq_of_beq hp
    rw [List.length_cons, List.take_succ_cons] at e
    injection e with e1 e2
    exact absurd e1 h
theorem pre_self (S r : List Nat) : pre S (S ++ r) = true := by
  show ((S ++ r).take S.length == S) = true
  have e : (S ++ r).take S.length = S := List.take_left
  rw [e] <;> exact beq_self_eq_true S
theorem getElem_drop_cons {L : List Nat} {a : Nat} (h : a < L.length) : ∃ c, L.drop a = c :: L.drop (a + 1) := ⟨L[a], List.drop_eq_getElem_cons h⟩
theorem spl_run (S L : List Nat) : ∀ (m a : Nat) (acc : List Nat), a + m ≤ L.length → (∀ k, a ≤ k → k < a + m → pre S (L.drop k) = false) →
    spl S 0 acc (L.drop a) = spl S 0 (acc ++ (L.drop a).take m) (L.drop (a + m))
  | 0, a, acc, _, _ => by rw [List.take_zero, List.append_nil, Nat.add_zero]
  | m + 1, a, acc, h, hn => by
    have hlt : a < L.length := by omega
    obtain ⟨c, e⟩ := getElem_drop_cons hlt
    have h0 := hn a (Nat.le_refl _) (by omega)
    have ih := spl_run S L m (a + 1) (acc ++ [c]) (by omega) (fun k h1 h2 => hn k (by omega) (by omega))
    have e2 : a + 1 + m = a + (m + 1) := by omega
    rw [e2] at ih
    rw [e] at h0
    rw [e, spl_miss h0, ih, List.take_succ_cons, List.append_assoc] <;> rfl
theorem drop_two (L : List Nat) (a b : Nat) : (L.drop a).drop b = L.drop (a + b) := by
  first
    | rw [List.drop_drop]
    | rw [List.drop_drop, Nat.add_comm]
theorem spl_at {S L : List Nat} (hS : S ≠ []) {c : Nat} {acc : List Nat} (h : pre S (L.drop c) = true) : spl S 0 acc (L.drop c) = acc :: spl S 0 [] (L.drop (c + S.length)) := by
  rw [← drop_two]
  cases e : L.drop c with
  | nil => rw [e, pre_nil hS] at h; cases h
  | cons d r =>
    rw [e] at h
    rw [spl_hit h, spl_pass]
    cases S with
    | nil => exact absurd rfl hS
    | cons s S => rfl
theorem at_iff {x y : Str} (hy : tl y ≠ []) (i : Nat) : At x y x.length i ↔ pre (tl y) ((tl x).drop i) = true := by
  have hx := len_tl x
  have hl := len_tl y
  constructor
  · intro h
    have h2 := h.2
    rw [subAt_eq, hl] at h2
    exact h2
  · intro h
    have e : ((tl x).drop i).take (tl y).length = tl y := eq_of_beq h
    have e1 := congrArg List.length e
    rw [List.length_take, List.length_drop] at e1
    have e2 : 0 < (tl y).length := List.length_pos_iff.mpr hy
    refine ⟨by omega, ?_⟩
    rw [subAt_eq, hl]
    exact h
theorem no_at {x y : Str} (hy : tl y ≠ []) {i : Nat} (h : ¬ At x y x.length i) : pre (tl y) ((tl x).drop i) = false := by
  cases hp : pre (tl y) ((tl x).drop i) with
  | false => rfl
  | true => exact absurd ((at_iff hy i).mpr hp) h
theorem len1 {y : Str} (hy : tl y ≠ []) : 1 ≤ y.length := by
  have e2 : 0 < (tl y).length := List.length_pos_iff.mpr hy
  rw [len_tl y]
  exact e2
theorem tl_strSub (x : Str) (i j : Nat) : tl (strSub x i j) = ((tl x).drop i).take (j - i) := strSub_toList x i j
theorem tl_strSub_end (x : Str) (i : Nat) : tl (strSub x i x.length) = (tl x).drop i := by
  rw [tl_strSub, len_tl x]
  exact List.take_of_length_le (by rw [List.length_drop] <;> omega)
theorem parts_spl {x y : Str} (hy : tl y ≠ []) : ∀ (cuts : List Nat) (a f : Nat), a ≤ (tl x).length → ChainG x y x.length a cuts f → (∀ k, f ≤ k → ¬ At x y x.length k) →
    (partsFrom x y.length a cuts).map tl = spl (tl y) 0 [] ((tl x).drop a)
  | [], a, f, ha, h, hn => by
    have e : f = a := h
    subst e
    show [tl (strSub x f x.length)] = _
    have run := spl_run (tl y) (tl x) ((tl x).length - f) f [] (by omega) (fun k h1 _ => no_at hy (hn k h1))
    have e2 : f + ((tl x).length - f) = (tl x).length := by omega
    rw [e2, List.drop_length, spl_nil, List.nil_append, List.take_of_length_le (by rw [List.length_drop] <;> omega)] at run
    rw [run, tl_strSub_end]
  | c :: r, a, f, ha, h, hn => by
    obtain ⟨h1, h2, h3, h4⟩ := h
    have hc : c + y.length ≤ x.length := h2.1
    have hx := len_tl x
    have hl := len_tl y
    have ih := parts_spl hy r (c + y.length) f (by omega) h4 hn
    show tl (strSub x a c) :: (partsFrom x y.length (c + y.length) r).map tl = _
    have run := spl_run (tl y) (tl x) (c - a) a [] (by omega) (fun k k1 k2 => no_at hy (h3 k k1 (by omega)))
    have e2 : a + (c - a) = c := by omega
    rw [e2, List.nil_append, spl_at hy ((at_iff hy c).mp h2)] at run
    rw [run, ih, tl_strSub, hl]
theorem split_spl (x y : Str) (hy : tl y ≠ []) (hk : ¬ Builtin.Str.strKind x < Builtin.Str.strKind y) : (Txt.split x y).map tl = spl (tl y) 0 [] (tl x) := by
  obtain ⟨f, g, hn⟩ := occ_tight x y (len1 hy)
  have key := parts_spl hy _ 0 f (Nat.zero_le _) g hn
  rw [List.drop_zero] at key
  have none_case : occurrences x y 0 x.length (x.length + 1) = [] → [x].map tl = spl (tl y) 0 [] (tl x) := fun ho => by
    rw [ho] at key
    rw [← key]
    show [tl x] = [tl (strSub x 0 x.length)]
    rw [sub_whole]
  unfold Txt.split
  by_cases h1 : (decide (x.length < y.length) || decide (Builtin.Str.strKind x < Builtin.Str.strKind y)) = true
  · rw [if_pos h1]
    have hlt : x.length < y.length := by
      simp only [Bool.or_eq_true, decide_eq_true_eq] at h1
      rcases h1 with h | h
      · exact h
      · exact absurd h hk
    refine none_case ?_
    cases ho : occurrences x y 0 x.length (x.length + 1) with
    | nil => rfl
    | cons c r =>
      rw [ho] at g
      have hc : c + y.length ≤ x.length := g.2.1.1
      omega
  · rw [if_neg h1]
    by_cases h2 : (occurrences x y 0 x.length (x.length + 1)).isEmpty = true
    · rw [if_pos h2]
      exact none_case (List.isEmpty_iff.mp h2)
    · rw [if_neg h2, partsBetween_eq]
      exact key
theorem kind_ok {x y : Str} (h : y.cps.all (· < 256) = true) : ¬ Builtin.Str.strKind x < Builtin.Str.strKind y := by
  have e : Builtin.Str.strKind y = 1 := by unfold PySem.Builtin.Str.strKind; rw [if_pos h]
  rw [e]
  unfold PySem.Builtin.Str.strKind
  split
  · omega
  · split <;> omega
theorem spl_part {S p rest acc : List Nat} (hS : S ≠ []) (h : ∀ i, i < p.length → pre S ((p ++ (S ++ rest)).drop i) = false) :
    spl S 0 acc (p ++ (S ++ rest)) = (acc ++ p) :: spl S 0 [] rest := by
  have run := spl_run S (p ++ (S ++ rest)) p.length 0 acc (by rw [List.length_append]; omega) (fun k _ k2 => h k (by omega))
  have ed : (p ++ (S ++ rest)).drop p.length = S ++ rest := List.drop_left
  rw [List.drop_zero, Nat.zero_add, List.take_left] at run
  rw [run, spl_at hS (by rw [ed]; exact pre_self S rest), ← drop_two, ed, List.drop_left]
theorem spl_last {S p acc : List Nat} (h : ∀ i, i < p.length → pre S (p.drop i) = false) : spl S 0 acc p = [acc ++ p] := by
  have run := spl_run S p p.length 0 acc (by omega) (fun k _ k2 => h k (by omega))
  rw [List.drop_zero, Nat.zero_add, List.drop_length, spl_nil, List.take_length] at run
  exact run
theorem free_of {s : Nat} {S p q : List Nat} (h : s ∉ p) : ∀ i, i < p.length → pre (s :: S) ((p ++ q).drop i) = false := fun i hi => by
  have hlt : i < (p ++ q).length := by rw [List.length_append]; omega
  have e : (p ++ q).drop i = (p ++ q)[i] :: (p ++ q).drop (i + 1) := List.drop_eq_getElem_cons hlt
  rw [e]
  refine pre_of_head _ _ fun z => h ?_
  have e1 : (p ++ q)[i] = p[i] := List.getElem_append_left hi
  rw [← z, e1]
  exact List.getElem_mem hi
theorem spl_part1 {s : Nat} {S p rest acc : List Nat} (h : s ∉ p) : spl (s :: S) 0 acc (p ++ (s :: S ++ rest)) = (acc ++ p) :: spl (s :: S) 0 [] rest :=
  spl_part (by simp) (free_of h)
theorem spl_last1 {s : Nat} {S p acc : List Nat} (h : s ∉ p) : spl (s :: S) 0 acc p = [acc ++ p] := spl_last fun i hi => by
  have z := free_of (S := S) (q := []) h i hi
  rw [List.append_nil] at z
  exact z
def joinL (S : List Nat) : List (List Nat) → List Nat
  | [] => []
  | [p] => p
  | p :: q :: r => p ++ (S ++ joinL S (q :: r))
theorem tl_join (y : Str) : ∀ parts : List Str, tl (Str.join y parts) = joinL (tl y) (parts.map tl)
  | [] => rfl
  | [_] => rfl
  | x :: z :: r => by
    show tl (x ++ y ++ Str.join y (z :: r)) = tl x ++ (tl y ++ joinL (tl y) ((z :: r).map tl))
    rw [tl_append, tl_append, tl_join y (z :: r), List.append_assoc]
theorem spl_join {s : Nat} {S : List Nat} : ∀ {parts : List (List Nat)}, parts ≠ [] → (∀ p ∈ parts, s ∉ p) → spl (s :: S) 0 [] (joinL (s :: S) parts) = parts
  | [], h, _ => absurd rfl h
  | [p], _, hp => by
    show spl (s :: S) 0 [] p = [p]
    rw [spl_last1 (hp p (List.mem_singleton.mpr rfl)), List.nil_append]
  | p :: q :: r, _, hp => by
    show spl (s :: S) 0 [] (p ++ (s :: S ++ joinL (s :: S) (q :: r))) = p :: q :: r
    rw [spl_part1 (hp p (List.mem_cons_self ..)), List.nil_append, spl_join (by simp) fun z hz => hp z (List.mem_cons_of_mem _ hz)]
theorem join_eq (y : Str) (parts : List Str) : Txt.join y parts = Str.join y parts := glued_eq_join y parts
end TL
end
namespace L2
open PySem PySem.Spec PyProof.Rows
theorem vals_strs : ∀ l : List (Str × Tok), Vals ((l.map (·.1)).map V.str) (strValues l)
  | [] => .nil
  | p :: r => .cons ⟨p.2, rfl⟩ (vals_strs r)
theorem strs_of_vals : ∀ {ys : List Str} {us : List Value}, Vals (ys.map V.str) us → StrsAre us ys
  | [], _, .nil => .nil
  | y :: ys, _, .cons r t => by
    obtain ⟨k, rfl⟩ := r
    exact .cons y k (strs_of_vals t)
def rNewStrs (ys : List Str) : Hp → VK → Prop := fun H Q => ∀ p, H p = none → Q (.ref p) (upd H p (.lst (ys.map V.str)))
section
variable {X : Cx} {pins : List (Addr × Obj)} {σ : St} {H : Hp} {s : Shared} {Q : VK}
theorem laid_strs {l : List (Str × Tok)} {ys : List Str} {k : Nat} (I : Inv X pins σ H s) (e : l.map (·.1) = ys) (hz : ys.length ≤ sizeLine) (h : rNewStrs ys H Q) :
    EP X pins σ Q (.ref s.heap.objs.size) { s with toks := k, heap := s.heap.push { cls := .type "list", data := .seq (strValues l).toArray } } := by
  have hp := I.hok.fresh (Nat.le_refl _)
  refine ⟨.ref s.heap.objs.size, upd H s.heap.objs.size (.lst (ys.map V.str)), I.laid (fun b u q => Heap.get?_push_of_some _ q) (Nat.le_refl _) ⟨by rw [List.length_map]; exact hz, strValues l, _, ?_, Heap.get?_push_size _ rfl⟩, rfl, h _ hp⟩
  rw [← e]
  exact vals_strs l
end
section
variable {X : Cx}
theorem mt_split : MtR X "str.split" (fun x xs H Q => ∃ a b, x = .str a ∧ xs = [.str b] ∧ (b.length == 0) = false ∧ a.length + 2 ≤ sizeLine ∧ rNewStrs (Txt.split a b) H Q) := by
  intro pins s σ H x xs v us Q I rx rs h
  obtain ⟨a, b, rfl, rfl, hb, hz, h⟩ := h
  obtain ⟨t, rfl⟩ := rx
  cases rs with
  | cons r1 rs =>
    cases rs
    obtain ⟨u, rfl⟩ := r1
    have hl : (Txt.split a b).length ≤ sizeLine := Nat.le_trans (PyProof.Rows.split_le a b) hz
    have hn : (Builtin.Str.partsBetween a (Builtin.Str.occurrences a b 0 a.length (a.length + 1)) b.length).length ≤ sizeLine := by
      have e1 := StrLaws.occ_length_le a b 0 a.length (a.length + 1)
      rw [length_partsBetween]; omega
    cases h1 : (decide (a.length < b.length) || decide (Builtin.Str.strKind a < Builtin.Str.strKind b))
    · cases hf : (Builtin.Str.occurrences a b 0 a.length (a.length + 1)).isEmpty
      · refine call_meets F.slot_str_split (typeIs_str _ _ _) F.entry_str_split (F.args_str_split_2 _ _) (meets_str_split_sep a b t u h1 hb hf (by omega) hn) ?_
        show EP X pins σ Q (.ref s.heap.objs.size) { s with toks := _, heap := s.heap.push { cls := .type "list", data := .seq (strsFrom s.toks (Builtin.Str.partsBetween a (Builtin.Str.occurrences a b 0 a.length (a.length + 1)) b.length)).toArray } }
        rw [strsFrom_eq]
        exact laid_strs (ys := Txt.split a b) I ((numbered_texts _ _).trans ((if_neg (ne_true_of_eq_false h1)).trans (if_neg (ne_true_of_eq_false hf))).symm) hl h
      · refine call_meets F.slot_str_split (typeIs_str _ _ _) F.entry_str_split (F.args_str_split_2 _ _) (meets_str_split_not_found a b t u h1 hb hf) ?_
        exact laid_strs (l := [(a, t)]) (ys := Txt.split a b) (k := s.toks) I ((if_neg (ne_true_of_eq_false h1)).trans (if_pos hf)).symm hl h
    · refine call_meets F.slot_str_split (typeIs_str _ _ _) F.entry_str_split (F.args_str_split_2 _ _) (meets_str_split_cannot_occur a b t u h1) ?_
      exact laid_strs (l := [(a, t)]) (ys := Txt.split a b) (k := s.toks) I (if_pos h1).symm hl h
theorem mt_join : MtR X "str.join" (fun x xs H Q => ∃ a p, ∃ ys : List Str, x = .str a ∧ xs = [.ref p] ∧ (SqL X.K H p (ys.map V.str) ∨ SqT X.K H p (ys.map V.str)) ∧
    (ys.map (·.length)).sum + ys.length * a.length ≤ 16777216 ∧ Q (.str (Txt.join a ys)) H) := by
  intro pins s σ H x xs v us Q I rx rs h
  obtain ⟨a, p, ys, rfl, rfl, hp, hz, h⟩ := h
  obtain ⟨t, rfl⟩ := rx
  cases rs with
  | cons r1 rs =>
    cases rs
    cases r1
    rcases hp with hp | hp
    · obtain ⟨its, r, ⟨o, n, ho, hc, _, hd⟩, _⟩ := I.list hp
      exact PyProof.Rows.join_list (items := its.toArray) ⟨o, ho, hc, n, hd⟩ (by rw [List.toList_toArray]; exact strs_of_vals r) hz fun t' k => ⟨.str _, H, I.tok k, ⟨t', rfl⟩, h⟩
    · obtain ⟨its, r, ht, _⟩ := I.tuple hp
      exact PyProof.Rows.join_tuple (items := its.toArray) ht (by rw [List.toList_toArray]; exact strs_of_vals r) hz fun t' k => ⟨.str _, H, I.tok k, ⟨t', rfl⟩, h⟩
end
section
variable {X : Cx} {o e : Expr} {to te : TE}
def tM1 (r : V → List V → Hp → VK → Prop) (to te : TE) : TE := fun σ H Q => to σ H fun x H1 => (∃ a, x = .str a) ∧ te σ H1 fun y H2 => r x [y] H2 Q
theorem pe_m1 {id : String} {name : Str} {apos pos : Pos} {r : V → List V → Hp → VK → Prop} (slot : Slot "str" name id) (ty : typeOf (.builtin id) = pure (.type "method_descriptor")) (rule : MtR X id r) (ho : PE X o to) (he : PE X e te)
    (hs : starEach [e] X.env = [(false, eval e X.env)] := by rfl) (hbase : attributeBase o name X.env (eval o X.env) = eval o X.env := by rfl) (hline : (apos.endLine == pos.line) = true := by rfl) :
    PE X (.Call (.Attribute o name apos) [e] [] pos) (tM1 r to te) := by
  intro pins s σ H Q I h
  refine PySem.Call_method1 hbase hs hline (thn (ho pins s σ H _ I h) fun v s1 ⟨x, H1, I1, r1, q1⟩ => ?_)
  obtain ⟨⟨a, rfl⟩, q1⟩ := q1
  obtain ⟨t, rfl⟩ := _root_.id r1
  refine ⟨"str", _, F.plainAttrs_str, slot, ty, typeIs_str _ _ _, (fun _ e => nomatch e), Calls.callWith_builtin rfl (Calls.evalArgs_plain (Calls.spliced_cons ?_))⟩
  exact thn (he pins s1 σ H1 _ I1 q1) fun u s2 ⟨y, H2, I2, r2, q2⟩ => Calls.spliced_nil (rule pins s2 σ H2 _ [y] _ [u] Q I2 r1 (.cons r2 .nil) q2)
theorem pe_split {apos pos : Pos} (ho : PE X o to) (he : PE X e te) (hs : starEach [e] X.env = [(false, eval e X.env)] := by rfl) (hbase : attributeBase o "split" X.env (eval o X.env) = eval o X.env := by rfl) (hline : (apos.endLine == pos.line) = true := by rfl) :
    PE X (.Call (.Attribute o "split" apos) [e] [] pos) (tM1 (fun x xs H Q => ∃ a b, x = .str a ∧ xs = [.str b] ∧ (b.length == 0) = false ∧ a.length + 2 ≤ sizeLine ∧ rNewStrs (Txt.split a b) H Q) to te) :=
  pe_m1 F.slot_str_split F.type_str_split mt_split ho he hs hbase hline
theorem pe_join {apos pos : Pos} (ho : PE X o to) (he : PE X e te) (hs : starEach [e] X.env = [(false, eval e X.env)] := by rfl) (hbase : attributeBase o "join" X.env (eval o X.env) = eval o X.env := by rfl) (hline : (apos.endLine == pos.line) = true := by rfl) :
    PE X (.Call (.Attribute o "join" apos) [e] [] pos) (tM1 (fun x xs H Q => ∃ a p, ∃ ys : List Str, x = .str a ∧ xs = [.ref p] ∧ (SqL X.K H p (ys.map V.str) ∨ SqT X.K H p (ys.map V.str)) ∧
      (ys.map (·.length)).sum + ys.length * a.length ≤ 16777216 ∧ Q (.str (Txt.join a ys)) H) to te) :=
  pe_m1 F.slot_str_join F.type_str_join mt_join ho he hs hbase hline
end
section
variable {X : Cx}
theorem op_in_sign : OpR X (compareOp .In) (fun x y H Q => ∃ (c : Nat) (z : Str), x = .str ⟨#[c]⟩ ∧ y = .str z ∧ Q (.bl (decide (c ∈ z.cps.toList))) H) := by
  intro pins s σ H x y v u Q I rx ry h
  obtain ⟨c, z, rfl, rfl, q⟩ := h
  obtain ⟨t, rfl⟩ := rx
  obtain ⟨t', rfl⟩ := ry
  exact PyProof.Rows.in_str (fin_bl I q (PySem.StrLaws.found_one z c).symm)
theorem op_notIn_sign : OpR X (compareOp .NotIn) (fun x y H Q => ∃ (c : Nat) (z : Str), x = .str ⟨#[c]⟩ ∧ y = .str z ∧ Q (.bl (!decide (c ∈ z.cps.toList))) H) := by
  intro pins s σ H x y v u Q I rx ry h
  obtain ⟨c, z, rfl, rfl, q⟩ := h
  obtain ⟨t, rfl⟩ := rx
  obtain ⟨t', rfl⟩ := ry
  exact PyProof.Rows.notIn_str (fin_bl I q (congrArg Bool.not (PySem.StrLaws.found_one z c).symm))
end
end L2
namespace Att
open PySem PySem.W PySem.Calls PyProof.Rows
theorem ints_of_wellAll {P : Params} {h : Heap} : ∀ (ns : List Int) (vs : List Value), WellAll P h vs (ns.map WData.int) → IntsAre vs ns := by
  intro ns
  induction ns with
  | nil =>
    intro vs w
    rw [List.map_nil] at w
    cases w
    exact .nil
  | cons n ns ih =>
    intro vs w
    rw [List.map_cons] at w
    cases w with
    | cons a b =>
      cases a
      exact .cons _ _ (ih _ b)
theorem script_of {l : OpenLaw} {n : Nat} (hn : l.most = some n) {P : Params} {h : Heap} {args : List WData} {vals : List Value}
    (hpre : l.row.toRowW.claim.pre args = true) (hwl : WellAll P h vals args) :
    ∃ a vs ns, vals = [Value.ref a] ∧ args = [WData.list (ns.map WData.int)] ∧ h.get? a = some { cls := .type "list", data := .seq vs.toArray } ∧ IntsAre vs ns ∧ ns.length ≤ n := by
  have hsh : WShape.hasAll [] args [.list .int] = true := (pre_splitW hpre).1
  have hc : l.pre.holds [] { args := args } = true := (pre_splitW hpre).2
  obtain ⟨d, r, rfl, h1, h2⟩ := hasAllW_cons hsh
  obtain rfl := hasAllW_nil h2
  obtain ⟨xs, rfl, h3⟩ := hasW_list h1
  obtain ⟨ns, rfl⟩ := items_int h3
  have hlen : ns.length ≤ n := by
    unfold OpenLaw.pre at hc
    have h4 : (WTm.not (.lt (.lit (.int (n : Int))) (.len (.arg 0)))).holds [] { args := [.list (ns.map .int)] } = true := by
      have h4 := (holds_andW hc).1
      rw [hn] at h4
      exact h4
    have h5 := condW_of h4 (w_not (w_lt w_lit (w_len_list (w_arg rfl))))
    rw [List.length_map] at h5
    refine Nat.le_of_not_lt fun q => ?_
    have q' : (n : Int) < ((ns.length : Nat) : Int) := by omega
    first
      | (rw [decide_eq_true q'] at h5; exact absurd h5 (by decide))
      | (simp at h5; omega)
  cases hwl with
  | cons w1 w2 =>
    cases w2
    cases w1 with
    | list ho hall => exact ⟨_, _, ns, rfl, rfl, ho, ints_of_wellAll ns _ hall, hlen⟩
theorem post_true (l : OpenLaw) (args : List WData) : l.row.toRowW.claim.post args (.bool true) args = true :=
  postW_of (r := l.row.toRowW) (X := (true == true))
    (show WShape.has [] (.bool true) .bool = true by first | rfl | decide | simp [WShape.has, WShape.arms, WShape.armsAll])
    (show (WTm.eq .res (.lit (.bool true))).value [] { args := args, res := some (.bool true), after := args } = some (.bool (true == true)) from w_eq_bool (w_res rfl) w_lit) rfl
theorem attach_call {l : OpenLaw} {n : Nat} {q : Program} {loose : List Str} {XP : (Str → Option Value) → Heap → Prop} {YP : World → Heap → Prop} {d : DefRec}
    (hn : l.most = some n) (hdf : d.params.defaults = [])
    (call : ∀ (w : World) (s₀ s₁ : Shared) (mg mb : Str → Option Value) (fa : Addr) (o : Obj) (pm cd doc : Value) (a : Addr) (vs : List Value) (ns : List Int),
      Ground q loose [] XP w s₀ mg mb s₁.heap → YP w s₁.heap →
      s₁.heap.get? fa = some o → o.data = .func (docDef d.name d.params d.body d.scope pm cd doc) → s₁.heap.CodeRec cd d.name → mg d.name = some (.ref fa) →
      s₁.heap.get? a = some { cls := .type "list", data := .seq vs.toArray } → IntsAre vs ns → ns.length ≤ n → s₁.gens = #[] →
      codeAny (model l.prog w) callerA (.call (.ref fa) ⟨[.ref a], []⟩) (fun r s' => r = .ok (.ret (.bool true)) ∧ OldK s₁.heap s'.heap ∧ s'.os = s₁.os ∧ AllBare s'.gens) s₁) :
    WalkO q loose XP YP l.row.toRowW d [] (fun f vs => PySem.call f vs) := by
  intro w s₀ s₁ mg mb G Y fa o pm cd doc dV kV ho hd hcd hD hmg hg args vals as hpre hlay hrd hwl hlo
  obtain rfl : dV = .none := Dflts.none hD hdf
  obtain rfl : kV = .none := Dflts.noKw hD
  obtain ⟨a, vs, ns, rfl, rfl, hobj, hints, hlen⟩ := script_of hn hpre hwl
  refine enter_call (codeAny_mono (call w s₀ s₁ mg mb fa o pm cd doc a vs ns G Y ho (fd_plain hd) hcd hmg hobj hints hlen hg) fun r s' hq => ?_)
  obtain ⟨rfl, h2, h3, h4⟩ := hq
  exact ⟨.inl ⟨.bool true, .bool true, [], rfl, fun _ => rfl, .bool true, post_true l _, fun _ => ⟨List.Pairwise.nil, fun _ hm => (nomatch hm)⟩⟩, h2, h3, h4⟩
section
variable {prog : Program} {w : World} {A : Around} {E : Value → Shared → Prop} {s : Shared} {K : Frag}
end
end Att
namespace L2
open PySem PySem.Spec PyProof.Rows
theorem vals_ints : ∀ {vs : List Value} {ns : List Int}, IntsAre vs ns → Vals (ns.map V.int) vs
  | _, _, .nil => .nil
  | _, _, .cons n t h => .cons ⟨t, rfl⟩ (vals_ints h)
def defArgs (s : Stmt) : Arguments := match s with
  | .FunctionDef _ a _ _ _ _ _ _ _ _ => a
  | _ => { posonlyargs := [], args := [], vararg := none, kwonlyargs := [], kw_defaults := [], kwarg := none, defaults := [] }
def defBody (s : Stmt) : List Stmt := match s with
  | .FunctionDef _ _ b _ _ _ _ _ _ _ => b
  | _ => []
def defScope (s : Stmt) : Scope := match s with
  | .FunctionDef _ _ _ _ _ _ sc _ _ _ => sc
  | _ => { kind := .function, names := [], isGenerator := false, isCoroutine := false }
abbrev CX0 : CXT := fun _ _ _ _ _ _ => False
abbrev E0 : XK := fun _ _ _ => False
theorem pass0 {X : Cx} : Passes CX0 X E0 := fun _ _ _ _ _ _ _ h => h.elim
structure Fun (K : PySem.W.Frag) (x qual : Str) (st : Stmt) (f : Addr) (fd : FuncData) : Prop where
  ex : ∃ (oc : Value) (od : Option Addr) (kV doc pm : Value) (an : Option Addr) (cdv ct : Value) (osl : Array (Option Value)),
    fd = PySem.W.fnOf x qual (defArgs st) (defBody st) (defScope st) .none kV doc pm an cdv ct ∧ K.lookup f = some ⟨oc, od, .func fd, osl⟩ ∧ PySem.W.codeIn K cdv qual = true
  kp : PySem.W.keepIn K (.ref f) = true
section
variable {P : Program} {w : World} {K : PySem.W.Frag} {mg : Str → Option Value} {base : Heap}
theorem Fun.binds {x qual : Str} {st : Stmt} {f : Addr} {fd : FuncData} {ps : List Str} (F : Fun K x qual st f fd)
    (h : ∀ (kV doc pm : Value) (an : Option Addr) (cdv ct : Value) (us : List Value), us.length = ps.length → bindArgs (PySem.W.fnOf x qual (defArgs st) (defBody st) (defScope st) .none kV doc pm an cdv ct) ⟨us, []⟩ = pure (ps.zip us)) : Binds K fd ps [] := by
  obtain ⟨oc, od, kV, doc, pm, an, cdv, ct, osl, rfl, lk, hcd⟩ := F.ex
  exact .all (h kV doc pm an cdv ct)
end
theorem small1000 {n : Nat} (h : n ≤ 1000) : n < sizeLine := Nat.lt_of_le_of_lt h (by decide)
section
variable {X : Cx}
end
theorem iteF {A B : Prop} (h : B) : if false = true then A else B := by
  rw [if_neg Bool.false_ne_true]
  exact h
theorem iteT {A B : Prop} (h : A) : if true = true then A else B := by
  rw [if_pos rfl]
  exact h
def Same (H H' : Hp) : Prop := ∀ b o, H b = some o → H' b = some o
theorem Same.refl (H : Hp) : Same H H := fun _ _ h => h
theorem Same.trans {H H1 H2 : Hp} (a : Same H H1) (b : Same H1 H2) : Same H H2 := fun c o h => b c o (a c o h)
theorem Same.free {H H' : Hp} (e : Same H H') {l : Addr} (h : H' l = Option.none) : H l = Option.none := by
  cases q : H l with
  | none => rfl
  | some o =>
    rw [e l o q] at h
    cases h
theorem Same.seq {K : PySem.W.Frag} {H H' : Hp} {a : Addr} {xs : List V} (e : Same H H') (h : SqL K H a xs) : SqL K H' a xs := by
  rcases h with (h | ⟨o, h⟩) | h
  · exact .inl (.inl (e _ _ h))
  · exact .inl (.inr ⟨o, e _ _ h⟩)
  · exact .inr h
section
variable {κ : Type} [DecidableEq κ]
end
end L2
set_option maxHeartbeats 4000000
namespace L2
open PySem PySem.Spec PyProof.Rows
structure TabIn (K : PySem.W.Frag) (code : Value) (P : Addr) : Prop where
  ex : ∃ (c : Addr) (o : Obj) (vs : Array Value) (file : Str) (tf : Tok) (flags : Int) (tg : Tok) (inF : Bool) (text : Int) (tt : Tok), code = .ref c ∧ K.lookup c = some o ∧ o.cls = .type "code" ∧ o.data = .fields vs ∧
    vs[11]? = some (.ref P) ∧ vs.getD 18 .none = .str file tf ∧ vs.getD 7 .none = .int flags tg ∧ vs.getD 9 .none = .bool inF ∧ vs.getD 10 .none = .int text tt ∧ c ≠ P
theorem upd_id {H : Hp} {a : Addr} {o : HO} (h : H a = some o) : upd H a o = H := by
  funext b; unfold upd; split
  · rename_i e; rw [e, h]
  · rfl
section
variable {X : Cx} {pins : List (Addr × Obj)} {σ : St} {H : Hp} {s : Shared}
theorem TabIn.at (I : Inv X pins σ H s) {code : Value} {P : Addr} {ps : Array Value} (t : TabIn X.K code P) (hP : H P = some (.tbl ps)) : ∃ c, code = .ref c ∧ s.heap.IsCode c P ps ∧ s.heap.TableAt c P ps := by
  obtain ⟨c, o, vs, file, tf, flags, tg, inF, text, tt, e, hk, hc, hd, h11, h18, h7, h9, h10, ne⟩ := t.ex
  obtain ⟨tr, hp⟩ : TriplesOk ps.toList ∧ s.heap.get? P = some { cls := .none, data := .fields ps } := I.hok P _ hP
  have ho := I.kIn c o hk
  have h11' : vs.getD 11 .none = .ref P := by simp [Array.getD_eq_getD_getElem?, h11]
  exact ⟨c, e, ⟨o, vs, file, tf, flags, tg, inF, text, tt, _, ho, hd, h11', h18, h7, h9, h10, hp, rfl, tr, ne⟩, ⟨⟨o, vs, ho, hc, hd, h11⟩, hp⟩⟩
theorem Inv.tbl (I : Inv X pins σ H s) {P : Addr} {ps more : Array Value} (hP : H P = some (.tbl ps)) {h' : Heap} {t' : Nat} (k : ∀ b o, b ≠ P → s.heap.get? b = some o → h'.get? b = some o) (tr : TriplesOk (ps ++ more).toList)
    (hp : h'.get? P = some { cls := .none, data := .fields (ps ++ more) }) : Inv X pins σ (upd H P (.tbl (ps ++ more))) { s with heap := h', toks := t' } := by
  have nP : ∀ b, H b = none → b ≠ P := fun b n z => by rw [z, hP] at n; cases n
  refine I.step (g' := s.gens) (d' := s.drawn) (ch := []) (fun _ z => nomatch z) (fun b o _ _ _ e n => k b o (nP b n) e) (fun b o _ _ _ e n => ⟨o.slots, k b o (nP b n) e⟩) (fun b o _ e n => by rw [upd_ne (nP b n)]; exact n)
    (fun b o _ e => ?_) (fun b xs e => ?_) (fun b o u e => ?_) (fun b qs e => ?_) (fun m hm => ?_) (fun b u e => ?_) (.refl I.bare.all)
  · by_cases hb : b = P
    · exact ⟨_, by rw [hb]; exact hp⟩
    · exact ⟨o, k b o hb e⟩
  · rw [upd_ne (by rintro rfl; rw [hP] at e; cases e)]; exact e
  · rw [upd_ne (by rintro rfl; rw [hP] at e; cases e)]; exact e
  · by_cases hb : b = P
    · subst hb; rw [hP] at e; cases e; exact ⟨more, upd_same⟩
    · exact ⟨#[], by rw [upd_ne hb, e]; simp⟩
  · obtain ⟨o, es, ep, ho, r⟩ := hm
    exact ⟨o, es, ep, k _ o (nP _ I.free) ho, r⟩
  · by_cases hb : b = P
    · subst hb; rw [upd_same] at e; cases e; exact ⟨tr, hp⟩
    · rw [upd_ne hb] at e
      refine (I.hok b u e).stay (fun c v hc q => k c v ?_ q) (fun c q => ?_) fun c xs q => ?_
      · rcases hc with rfl | hc
        · exact hb
        · rintro rfl; rw [hP] at hc; cases hc
      · rw [upd_ne (by rintro rfl; rw [hP] at q; cases q)]; exact q
      · rw [upd_ne (by rintro rfl; rw [hP] at q; cases q)]; exact q
theorem gen_code {P : Addr} {ps : Array Value} {A : Around} {E : Value → Shared → Prop} {Q : Value → Shared → Prop} {pos : Pos} {qn : Str} {scope : Scope} (I : Inv X pins σ H s) (tab : TabIn X.K X.env.code P) (hP : H P = some (.tbl ps))
    (hQ : ∀ code h' tk more, Inv X pins σ (upd H P (.tbl (ps ++ more))) { s with heap := h', toks := tk } → (∀ b o, b ≠ P → s.heap.get? b = some o → h'.get? b = some o) → Q code { s with heap := h', toks := tk }) :
    wpAny (model X.prog X.w) A (genexprCode X.env pos qn scope) Q E s := by
  obtain ⟨c, hc, hok, htab⟩ := tab.at I hP
  cases hnf : codeAmong pos ps.toList with
  | some cv =>
    obtain ⟨o, vs, file, tf, flags, tg, inF, text, tt, op, ho, hd, h11, h2, h7, h9, h10, hop, hpd, htr, hne⟩ := id hok
    unfold genexprCode codeAt
    rw [hc, if_neg (show ¬ ((Value.ref c == Value.none) = true) from Bool.false_ne_true)]
    refine wpAny_bind (wpAny_fieldsOf ho hd ?_)
    rw [h11]
    refine wpAny_bind (wpAny_fieldsOf hop hpd ?_)
    rw [hnf]
    refine wpAny_pure (hQ cv s.heap s.toks #[] ?_ fun b o _ e => e)
    rw [Array.append_empty, upd_id hP]
    exact I
  | none =>
    refine wpAny_genexprCodeX hc hok htab hnf fun c' h' tk hx _ _ hcode' _ htab' _ => ?_
    obtain ⟨_, _, _, _, _, _, _, _, _, op, _, _, _, _, _, _, _, hop, hpd, htr, _⟩ := hcode'
    exact hQ _ h' tk _ (I.tbl hP (fun b o hb e => hx b o hb e) htr htab'.2) fun b o hb e => hx b o hb e
theorem Inv.gens_of (I : Inv X pins σ H s) {g' : Array GenState} {t' : Nat} (hg : GB X.s_0.gens g') : Inv X pins σ H { s with gens := g', toks := t' } :=
  ⟨I.ok, I.os, hg, I.base, I.loc, I.cell, I.free, I.freeC, I.pin, I.hok, I.len⟩
end
abbrev Cx.gen (X : Cx) (A : Around) (s : Shared) (H : Hp) (cenv : Env) (fp : List Addr) : Cx := { X with A := A, s_0 := { s with gens := s.gens.push .running }, H_0 := H, env := cenv, outer := X.stack, stack := cenv :: X.stack, ex := fp, fn := fun _ => false, pn := [], xe := fun _ _ => False }
section
variable {X : Cx} {pins : List (Addr × Obj)} {σ : St} {H : Hp} {s : Shared}
theorem gen_start {scope : Scope} {own : List (Str × Nat)} {fp : List Addr} {A : Around} {code : Value} {h' : Heap} {gs : Array GenState} {tk : Nat} {go : Obj} {m0 : Str → Option Value}
    (I : Inv X pins σ H s) (ok : BlkOk X.N X.env.scope scope own) (hN : X.N.Nodup) (hfp : ∀ b ∈ fp, FpOk X pins H b ∧ b < s.heap.objs.size) (hcell : ∀ y ∈ scope.names, y.2 ≠ .cell) (hA : A.handled = none) (hAf : A.frames = some (genEnv scope (cloFrom X.env.cells scope.names []) s.heap.objs.size code builtinsNs X.env :: X.stack))
    (hn : h'.Ns s.heap.objs.size m0) (hs : Heap.SameBut s.heap.objs.size (s.heap.push { cls := .type "frame", data := .dict #[] }) h') (hgs : GB (s.gens.push .running) gs) (hgo : ∀ v, go.data ≠ .cell v) (hfr : go.isFreed = false) :
    Inv (X.gen A s H (genEnv scope (cloFrom X.env.cells scope.names []) s.heap.objs.size code builtinsNs X.env) fp) [(h'.objs.size, go)] (wipe σ (own.map (·.2))) H { s with gens := gs, toks := tk, heap := h'.push go } := by
  have hfree : ∀ y ∈ scope.names, y.2 = .free → ∃ c, X.env.cells.lookup y.1 = some c := fun y hy e => by
    rcases ok.free y hy e with k | k
    · exact I.ok.has _ (.inl k)
    · exact I.ok.has _ (.inr k)
  have hsz : h'.objs.size = s.heap.objs.size + 1 := by rw [hs.1, Heap.size_push]
  have kp : ∀ b o, s.heap.get? b = some o → (h'.push go).get? b = some o := fun b o e => Heap.get?_push_of_some _ (hs.extBut b o (Nat.ne_of_lt (Heap.lt_size e)) (Heap.get?_push_of_some _ e))
  have hfrm : (genEnv scope (cloFrom X.env.cells scope.names []) s.heap.objs.size code builtinsNs X.env).frame = some (genEnv scope (cloFrom X.env.cells scope.names []) s.heap.objs.size code builtinsNs X.env).locals := rfl
  generalize hcenv : genEnv scope (cloFrom X.env.cells scope.names []) s.heap.objs.size code builtinsNs X.env = cenv at hAf hfrm ⊢
  have hL : cenv.locals = s.heap.objs.size := by rw [← hcenv]; rfl
  have hcl : cenv.cells = cloFrom X.env.cells scope.names [] := by rw [← hcenv]; rfl
  have hsc : cenv.scope = scope := by rw [← hcenv]; rfl
  have cm : ∀ {y c}, (y, c) ∈ cloFrom X.env.cells scope.names [] → X.env.cells.lookup y = some c ∧ c < s.heap.objs.size := fun {y c} hm => by
    rcases cloFrom_mem hm with hm | ⟨h1, rfl⟩
    · cases hm
    · obtain ⟨c, hc⟩ := hfree _ h1 rfl
      rw [hc]
      obtain ⟨w, z⟩ := I.cell _ _ hc
      exact ⟨rfl, z.lt⟩
  have mem : ∀ {y c}, cenv.cells.lookup y = some c → X.env.cells.lookup y = some c ∧ c < s.heap.objs.size := fun {y c} e => by
    rw [hcl] at e
    exact cm (PySem.mem_of_lookup e)
  have look : ∀ {y}, scope.names.lookup y = some .free → ∃ c, cenv.cells.lookup y = some c ∧ X.env.cells.lookup y = some c := fun {y} hl => by
    have hy : (y, NameKind.free) ∈ scope.names := PySem.mem_of_lookup hl
    obtain ⟨c', e'⟩ := mem_lookup (cloFrom_has (cells := X.env.cells) (acc := []) hy)
    rw [← hcl] at e'
    exact ⟨c', e', (mem e').1⟩
  have stk : ∀ b, s.heap.objs.size ≤ b → b ∉ frs X.stack := fun b hb z => by
    rcases List.mem_cons.mp (I.stkSub b z) with z | z
    · exact absurd I.lt (by rw [← z]; exact Nat.not_lt.mpr hb)
    · exact I.nofs hb z
  have okB : (X.gen A s H cenv fp).Ok := by
    refine ⟨I.ok.mod, by show cenv.scope.kind = _; rw [hsc]; exact ok.kind, by show cenv.globals = _; rw [← hcenv]; exact I.ok.glob, by show cenv.builtins = _; rw [← hcenv]; rfl, by show s.heap.objs.size ≤ cenv.locals; rw [hL]; exact Nat.le_refl _,
      fun y z c e1 e2 => I.ok.inj y z c (mem e1).1 (mem e2).1, fun y hy => ?_, fun y c z e => ?_, fun _ => hA, hAf, .inr ⟨rfl, hfrm⟩, fun b hb => ⟨?_, fun y c e z => ?_⟩, I.bs, Nat.le_trans I.ok.bsz I.sz, fun b o e hb => ?_, fun b hb z => ?_, I.stack, I.stkFree⟩
    · show ∃ c, cenv.cells.lookup y = some c
      have key : ∀ k, cenv.kindOf y = some k → (k = .cell ∨ k = .free) → ∃ c, cenv.cells.lookup y = some c := fun k hk hk' => by
        unfold Env.kindOf at hk
        rw [hsc] at hk
        rcases hk' with rfl | rfl
        · exact absurd rfl (hcell _ (PySem.mem_of_lookup hk))
        · obtain ⟨c, h1, _⟩ := look hk
          exact ⟨c, h1⟩
      rcases hy with hy | hy
      · exact key _ hy (.inl rfl)
      · exact key _ hy (.inr rfl)
    · have z : false = true := z
      cases z
    · show b ≠ cenv.locals
      rw [hL]; exact Nat.ne_of_lt (hfp b hb).2
    · exact (hfp b hb).1.2.2.2.2.1 y c (mem e).1 z
    · rcases (hfp b hb).1.2.2.2.1 with z | z
      · exact I.ok.noex b o e z
      · exact absurd (Nat.lt_of_lt_of_le (Heap.lt_size e) (Nat.le_trans I.ok.bsz z)) (Nat.lt_irrefl _)
    · rcases List.mem_cons.mp (I.stkSub b z) with z | z
      · exact (hfp b hb).1.2.1 z
      · exact (hfp b hb).1.2.2.1 z
  refine ⟨okB, rfl, hgs, Un.kept kp, ⟨m0, ?_, fun i y av e1 e2 e3 => ?_⟩, fun y c e => ?_, ?_, fun y c e => ?_, fun p hp => ?_, I.hok.kept kp, by rw [wipe_length]; exact I.len⟩
  · show Heap.Ns _ cenv.locals _
    rw [hL]
    exact hn.push _
  · obtain ⟨e2, hne⟩ := wipe_some e2
    have hfr : scope.names.lookup y = some .free := by
      have key : ∀ k, scope.names.lookup y = some k → k = .local ∨ k = .cell ∨ k = .free → scope.names.lookup y = some .free := fun k e hk' => by
        have no : ¬ (k = .local ∨ k = .cell) := fun hh => by
          rcases ok.own _ (PySem.mem_of_lookup e) hh with e' | e'
          · obtain ⟨p, hp, hpy⟩ := List.mem_map.mp e'
            have e3 := ok.ix p hp
            have : p.1 = y := hpy
            rw [this] at e3
            exact hne (List.mem_map.mpr ⟨p, hp, nodup_ix hN e3 e1⟩)
          · exact e' (List.mem_of_getElem? e1)
        rcases hk' with rfl | rfl | rfl
        · exact absurd (.inl rfl) no
        · exact absurd (.inr rfl) no
        · exact e
      have e3 : Vis cenv.scope y := e3
      rw [hsc] at e3
      rcases e3 with e3 | e3 | e3
      · exact key _ e3 (.inl rfl)
      · exact key _ e3 (.inr (.inl rfl))
      · exact key _ e3 (.inr (.inr rfl))
    obtain ⟨m, hn, hl⟩ := I.loc
    have hvis : Vis X.env.scope y := (ok.free _ (PySem.mem_of_lookup hfr) rfl).elim (fun k => .inr (.inl k)) (fun k => .inr (.inr k))
    obtain ⟨w, r, q⟩ := hl i y av e1 e2 hvis
    refine ⟨w, r, .inr ⟨.inr (by show cenv.scope.names.lookup y = _; rw [hsc]; exact hfr), ?_⟩⟩
    obtain ⟨c, h1, h2⟩ := look hfr
    rcases q with ⟨k, _⟩ | ⟨_, c', e', z⟩
    · have k : X.env.scope.names.lookup y = some .local := k
      rcases ok.free _ (PySem.mem_of_lookup hfr) rfl with k' | k' <;> rw [show X.env.scope.names.lookup y = _ from k'] at k <;> cases k
    · rw [h2] at e'; cases e'
      exact ⟨c, h1, z.keeps kp⟩
  · obtain ⟨h1, _⟩ := mem e
    obtain ⟨w, z⟩ := I.cell y c h1
    exact ⟨w, z.keeps kp⟩
  · show H cenv.locals = none
    rw [hL]; exact I.hok.fresh (Nat.le_refl _)
  · exact I.freeC y c (mem e).1
  · have hp : p ∈ [(h'.objs.size, go)] := by simpa using hp
    have e : p = (h'.objs.size, go) := by simpa using hp
    subst e
    refine ⟨Heap.get?_push_size _ hfr, I.hok.fresh (by show s.heap.objs.size ≤ h'.objs.size; omega), ?_, stk _ (by show s.heap.objs.size ≤ h'.objs.size; omega), hgo⟩
    show h'.objs.size ≠ cenv.locals
    rw [hL]; omega
theorem gen_end {A : Around} {cenv : Env} {fp : List Addr} {ps' : List (Addr × Obj)} {σ' : St} {H' : Hp} {s' : Shared} {g' : Array GenState} {t' : Nat} (I : Inv X pins σ H s) (hfp : ∀ b ∈ fp, FpOk X pins H b) (J : Inv (X.gen A s H cenv fp) ps' σ' H' s') (hg : GB s.gens g') :
    Inv X pins σ H' { s' with gens := g', toks := t' } :=
  I.call' (ch := fp) (s' := { s' with gens := g', toks := t' }) J.os J.base J.hok hg fun b hb => ⟨(hfp b hb).2.2.2.1, (hfp b hb).2.1, (hfp b hb).2.2.2.2.1, (hfp b hb).2.2.2.2.2⟩
end
theorem bool_ne : ∀ {b c : Bool}, ¬ b = c → b = !c
  | true, true, h => absurd rfl h
  | true, false, _ => rfl
  | false, true, _ => rfl
  | false, false, h => absurd rfl h
section
variable {X : Cx} {pins : List (Addr × Obj)} {σ : St} {H : Hp} {s : Shared}
theorem gen_seg {elt tg iter : Expr} {scope : Scope} {gpos : Pos} {own : List (Str × Nat)} {fp : List Addr} {it a : Addr} {go : Obj} {tn : Nat → Heap → Prop} {J : It} {g : TG} {te : TE} {ce : Env} {A : Around} {Qt Qf : Hp → Prop} {W : Nat → Nat → Hp → Prop}
    (stopAt : Bool)
    (hc : X.calm = true) (hco : ce.scope.isCoroutine = false) (T : Turn X.prog X.w X.K tg J fp it tn) (hap : ∀ b ∈ fp, a ≠ b)
    (pg : PG (X.gen (A.over (.compLoop (.GeneratorExp elt [⟨tg, iter, [], 0⟩] scope gpos) 0 (.ref it) .none ce) []) s H ce fp) tg g)
    (pe : PE (X.gen (A.over (.compLoop (.GeneratorExp elt [⟨tg, iter, [], 0⟩] scope gpos) 0 (.ref it) .none ce) []) s H ce fp) elt te)
    (turn : ∀ i m H, W i m H → (J.stop i H ∧ Qt H) ∨ (J.go i H ∧ ∃ Nx : Hp → Prop, (∀ H', Nx H' → ∃ m', m' < m ∧ W (i + 1) m' H') ∧ ∀ x H', J.yld i H x H' → g x (wipe σ (own.map (·.2))) H' fun σ2 H2 => wipe σ2 (own.map (·.2)) = wipe σ (own.map (·.2)) ∧
      te σ2 H2 fun y H4 => ∃ b, y = .bl b ∧ if b = stopAt then Qf H4 else Nx H4))
    (Xg : Cx) (hXg : Xg = X.gen (A.over (.compLoop (.GeneratorExp elt [⟨tg, iter, [], 0⟩] scope gpos) 0 (.ref it) .none ce) []) s H ce fp)
    (GI : Nat → Shared → Prop) (hGI : GI = fun n s' => ∃ i m H', m + 1 ≤ n ∧ Inv Xg [(a, go)] (wipe σ (own.map (·.2))) H' s' ∧ tn i s'.heap ∧ (∀ b ∈ fp, H' b = none) ∧ W i m H') :
    ∀ n s₀ s', GI n s' → Seg (model X.prog X.w) A (fun _ _ r s₁ => r = .ok .next ∧ ∃ H', Inv Xg [(a, go)] (wipe σ (own.map (·.2))) H' s₁ ∧ Qt H')
      (fun m _ v s1 kap => (v = .bool (!stopAt) ∧ GI m s1 ∧ ∀ s'', GI m s'' → kap (.send .none) s'') ∨ (v = .bool stopAt ∧ ∃ H', Inv Xg [(a, go)] (wipe σ (own.map (·.2))) H' s1 ∧ Qf H'))
      n s₀ (.compLoop (.GeneratorExp elt [⟨tg, iter, [], 0⟩] scope gpos) 0 (.ref it) .none ce) ((model X.prog X.w).den (.compLoop (.GeneratorExp elt [⟨tg, iter, [], 0⟩] scope gpos) 0 (.ref it) .none ce)) [] s' := by
  intro n
  induction n with
  | zero =>
    intro s₀ s' h
    rw [hGI] at h
    obtain ⟨i, m, H', hm, _⟩ := h
    exact absurd hm (Nat.not_succ_le_zero m)
  | succ n ih =>
    intro s₀ s5 h
    rw [hGI] at h
    obtain ⟨i, m, H5, hm, I5, st5, n5, w5⟩ := h
    rw [← hXg] at pg pe
    have hXp : Xg.prog = X.prog := by rw [hXg]
    have hXw : Xg.w = X.w := by rw [hXg]
    have hXK : Xg.K = X.K := by rw [hXg]
    have hXA : Xg.A = A.over (.compLoop (.GeneratorExp elt [⟨tg, iter, [], 0⟩] scope gpos) 0 (.ref it) .none ce) [] := by rw [hXg]
    have hXe : Xg.env = ce := by rw [hXg]
    have hXc : Xg.calm = true := by rw [hXg]; exact hc
    have hXx : Xg.ex = fp := by rw [hXg]
    have hXn : Xg.pn = [] := by rw [hXg]
    have hXE : Xg.xe = fun _ _ => False := by rw [hXg]
    have stat : ∀ {σ' : St} {H' : Hp} {s' : Shared}, Inv Xg [(a, go)] σ' H' s' → (∀ b ∈ fp, H' b = none) → ∀ b ∈ fp, FpOk Xg [(a, go)] H' b := fun {σ' H' s'} I' hn b hb =>
      have hb' : b ∈ Xg.ex := by rw [hXx]; exact hb
      ⟨hn b hb, (I'.ok.exf b hb').1, I'.ok.exfs b hb', .inl hb', fun x c e => (I'.ok.exf b hb').2 x c e, fun p hp => by
        rw [hXn] at hp
        have e : p = (a, go) := by simpa using hp
        rw [e]; exact hap b hb⟩
    show Seg _ A _ _ _ s₀ _ ((compTurn (.GeneratorExp elt [⟨tg, iter, [], 0⟩] scope gpos) 0 (.ref it) .none ce).onRaise (leaving ce)) [] s5
    rw [compTurn_gen, Sem.onRaise_eq_wrap]
    refine seg_bind_wrap (wpAny_standAt ?_)
    rcases turn i m H5 w5 with ⟨stop, qq⟩ | ⟨gg, Nx, hNx, step⟩
    · have td := T.done Xg hXp hXw hXK hXc i [(a, go)] s5 _ H5 (fun _ _ => False) I5 (stat I5 n5) st5 stop
      rw [hXA] at td
      refine seg_bind_wrap (thnF td fun r s6 ⟨hr, I6⟩ => ?_)
      subst hr
      exact seg_end (.ok .next) ⟨rfl, H5, I6, qq⟩
    · have ti := T.item Xg hXp hXw hXK hXc i [(a, go)] s5 _ H5 (fun _ _ => False) I5 (stat I5 n5) st5 gg
      rw [hXA] at ti
      refine seg_bind_wrap (thnF ti fun r s6 ⟨u, hr, h6⟩ => ?_)
      subst hr
      refine seg_bind_wrap (thnF h6 fun _ s7 ⟨x, H7, I7, r7, y7, st7, n7⟩ => ?_)
      have I7' := I7.pinned (stat I7 n7) (T.obj _ _ st7)
      have hg7 := pg _ s7 _ H7 x u _ I7' r7 (step x H7 y7)
      rw [hXA, hXe, hXp, hXw, hXE] at hg7
      refine seg_bind_wrap (thnF hg7 fun _ s8 ⟨σ8, H8, I8, hw8, q8⟩ => ?_)
      refine seg_bind_wrap (wpAny_tests_nil ?_)
      simp only [if_true]
      have hy : ∀ v, yieldOut ce v = yieldValue v := fun v => by simp only [yieldOut, hco, Bool.false_eq_true, if_false]
      simp only [hy]
      rw [Sem.bind_eq_wrap', Sem.bind_eq_wrap', Sem.wrap_wrap, Sem.wrap_wrap]
      have he8 := pe _ s8 σ8 H8 _ I8 q8
      rw [hXA, hXe, hXp, hXw, hXE] at he8
      refine seg_wrap (thnF he8 fun y s9 ⟨yv, H9, I9, r9, b, eb, q9⟩ => ?_)
      subst eb
      obtain rfl : y = Value.bool b := r9
      have pin' : ∀ b ∈ fp, ∀ o, s7.heap.get? b = some o → s9.heap.get? b = some o ∧ H9 b = none := fun b hb o e =>
        let z := I9.pin (b, o) (List.mem_append_right _ (List.mem_append_right _ (mem_pinsAt hb e)))
        ⟨z.1, z.2.1⟩
      have hl : (wipe σ (own.map (·.2))).length = σ8.length := by rw [← hw8, wipe_length]
      have I10 : Inv Xg [(a, go)] (wipe σ (own.map (·.2))) H9 s9 := (I9.unpinned (pins := [(a, go)])).weak hl (fun j v e => by
        rw [← hw8] at e
        exact (wipe_some e).1)
      by_cases hb : b = stopAt
      · rw [if_pos hb] at q9
        exact seg_at (seg_yield rfl rfl rfl (.inr ⟨by rw [hb], H9, I10, q9⟩))
      · rw [if_neg hb] at q9
        obtain ⟨m', hm', w'⟩ := hNx H9 q9
        have eb : b = !stopAt := bool_ne hb
        have gi : GI n s9 := by
          rw [hGI]
          refine ⟨i + 1, m', H9, by omega, I10, T.keep _ _ _ st7 fun b hb o e => (pin' b hb o e).1, fun b hb => ?_, w'⟩
          obtain ⟨o, e, _⟩ := T.obj _ _ st7 b hb
          exact (pin' b hb o e).2
        refine seg_at (seg_yield rfl rfl rfl (.inl ⟨by rw [eb], gi, fun s'' g'' => ?_⟩))
        exact seg_again rfl (ih s'' s'' g'')
end
theorem gb_set {a b : Array GenState} {r x : GenState} (h : GB (a.push r) b) (hx : x.bare = true) : GB a (b.setIfInBounds a.size x) := by
  have hs : a.size + 1 ≤ b.size := by have := h.size; rw [Array.size_push] at this; exact this
  refine ⟨fun y hy => ?_, by rw [Array.size_setIfInBounds]; omega, fun k hk => ?_⟩
  · obtain ⟨i, hi, rfl⟩ := Array.mem_iff_getElem.mp hy
    rw [Array.getElem_setIfInBounds (by simpa using hi)]
    split
    · exact hx
    · exact h.all _ (Array.getElem_mem _)
  · rw [Array.getElem?_setIfInBounds_ne (by omega), h.same k (by rw [Array.size_push]; omega), Array.getElem?_push, if_neg (by omega)]
theorem gb_run {a b : Array GenState} (h : GB (a.push .running) b) (x : GenState) : GB (a.push .running) ((b.setIfInBounds a.size x).setIfInBounds a.size .running) := by
  have hs : a.size + 1 ≤ b.size := by have := h.size; rw [Array.size_push] at this; exact this
  refine ⟨fun y hy => ?_, by rw [Array.size_setIfInBounds, Array.size_setIfInBounds, Array.size_push]; omega, fun k hk => ?_⟩
  · obtain ⟨i, hi, rfl⟩ := Array.mem_iff_getElem.mp hy
    rw [Array.getElem_setIfInBounds (by simpa using hi)]
    split
    · rfl
    · rename_i hne
      rw [Array.getElem_setIfInBounds (by simpa using hi), if_neg hne]
      exact h.all _ (Array.getElem_mem _)
  · rw [Array.size_push] at hk
    by_cases e : a.size = k
    · subst e
      rw [Array.getElem?_setIfInBounds_self_of_lt (by rw [Array.size_setIfInBounds]; omega), Array.getElem?_push_size]
    · rw [Array.getElem?_setIfInBounds_ne e, Array.getElem?_setIfInBounds_ne e, h.same k (by rw [Array.size_push]; omega)]
section
variable {X : Cx} {pins : List (Addr × Obj)} {σ : St} {H : Hp} {s : Shared}
theorem all_gen_loop {fp : List Addr} {a : Addr} {go : Obj} {σw : St} {ce : Env} {A' : Around} {Qt Qf : Hp → Prop} {R' : Result → Shared → Prop} {GI : Nat → Shared → Prop}
    (hh : X.A.handled = none) (hroom : X.A.depth < recursionLimit) (hgen : go.cls = .type "generator" ∧ (∃ nm qn, go.data = .fields #[.int s.gens.size 0, nm, qn]) ∧ go.slots = #[])
    (hGI : ∀ n s', GI n s' → ∃ H', Inv (X.gen A' s H ce fp) [(a, go)] σw H' s') (hGr : ∀ n s' g' , GI n s' → GB (s.gens.push .running) g' → GI n { s' with gens := g' })
    (hG0 : ∀ s', ¬ GI 0 s')
    (hT : ∀ s1 h' H', Inv (X.gen A' s H ce fp) [(a, go)] σw H' s1 → Qt H' → (∀ b o, s1.heap.get? b = some o → h'.get? b = some o) → R' (.ok (.ret (.bool true))) { s1.setGen s.gens.size .finished with heap := h' })
    (hF : ∀ s1 gs' H', Inv (X.gen A' s H ce fp) [(a, go)] σw H' s1 → Qf H' → gs'.bare = true → R' (.ok (.ret (.bool false))) (s1.setGen s.gens.size gs')) :
    ∀ n s' gs, s'.heap.IsGen a s.gens.size → s'.heap.NoLimit → s'.gens[s.gens.size]? = some gs →
      gs.Goes (model X.prog X.w) X.A.in1.in1 (fun _ _ r s₁ => r = .ok .next ∧ ∃ H', Inv (X.gen A' s H ce fp) [(a, go)] σw H' s₁ ∧ Qt H')
        (fun m _ v s1 kap => (v = .bool (!false) ∧ GI m s1 ∧ ∀ s'', GI m s'' → kap (.send .none) s'') ∨ (v = .bool false ∧ ∃ H', Inv (X.gen A' s H ce fp) [(a, go)] σw H' s1 ∧ Qf H')) n (.send .none) (s'.setGen s.gens.size .running) →
      codeAny (model X.prog X.w) X.A (.builtin "all.loop" ⟨[.ref a], []⟩) R' s' := by
  intro n
  induction n with
  | zero =>
    intro s' gs hg hl hgs hgo
    refine codeAny_builtin F.entry_all_loop ?_
    rw [Around.under_plainId F.plain_all_loop _]
    show wpAny _ X.A.in1 (pyNext (.ref a) >>= _) _ _ s'
    refine wpAny_bind (wpAny_pyNext_genexpQ (A := X.A.in1) hh hl hroom hg hgs hgo (fun v s₁ gs' hb hv => ?_) (fun s₁ hp h' hk => ?_))
    · rcases hv with ⟨_, gi, _⟩ | ⟨rfl, H', I', q⟩
      · exact absurd gi (hG0 _)
      · refine wpAny_bind (wpAny_holding (wpAny_truthy_bool ?_))
        refine wpAny_bind (wpAny_letGo ?_)
        simp only [Bool.false_eq_true, if_false]
        exact wpAny_bind (wpAny_rule (wpAny_pure (hF s₁ gs' H' I' q hb)))
    · obtain ⟨H', I', q⟩ := hp
      exact wpAny_bind (wpAny_rule (wpAny_pure (hT s₁ h' H' I' q hk)))
  | succ n ih =>
    intro s' gs hg hl hgs hgo
    refine codeAny_builtin F.entry_all_loop ?_
    rw [Around.under_plainId F.plain_all_loop _]
    show wpAny _ X.A.in1 (pyNext (.ref a) >>= _) _ _ s'
    refine wpAny_bind (wpAny_pyNext_genexpQ (A := X.A.in1) hh hl hroom hg hgs hgo (fun v s₁ gs' hb hv => ?_) (fun s₁ hp h' hk => ?_))
    · rcases hv with ⟨rfl, gi, kap⟩ | ⟨rfl, H', I', q⟩
      · refine wpAny_bind (wpAny_holding (wpAny_truthy_bool ?_))
        refine wpAny_bind (wpAny_letGo ?_)
        simp only [Bool.not_false, if_true]
        obtain ⟨H', I'⟩ := hGI _ _ gi
        have gb : GB (s.gens.push .running) s₁.gens := I'.bare
        have hsz : s.gens.size < s₁.gens.size := by have := gb.size; rw [Array.size_push] at this; omega
        have pin := (I'.pin (a, go) (by simp)).1
        obtain ⟨hc1, ⟨nm, qn, hd1⟩, hs1⟩ := hgen
        refine wpAny_pure ⟨plainId_quiet F.plain_all_loop _, ih _ gs' ⟨go, nm, qn, pin, hc1, hd1, hs1⟩ (by exact I'.nolimit) ?_ ?_⟩
        · show (s₁.gens.setIfInBounds s.gens.size gs')[s.gens.size]? = some gs'
          exact Array.getElem?_setIfInBounds_self_of_lt hsz
        · exact kap _ (hGr _ s₁ _ gi (gb_run gb gs'))
      · refine wpAny_bind (wpAny_holding (wpAny_truthy_bool ?_))
        refine wpAny_bind (wpAny_letGo ?_)
        simp only [Bool.false_eq_true, if_false]
        exact wpAny_bind (wpAny_rule (wpAny_pure (hF s₁ gs' H' I' q hb)))
    · obtain ⟨H', I', q⟩ := hp
      exact wpAny_bind (wpAny_rule (wpAny_pure (hT s₁ h' H' I' q hk)))
end
section
variable {X : Cx}
def tGen (stopAt : Bool) (P : Addr) (wi : TI) (g : TG) (te : TE) (vs : List Nat) : TE := fun σ H Q => wi σ H fun J H1 => ∃ ps, H1 P = some (.tbl ps) ∧ ∀ more : Array Value, ∃ W : Nat → Nat → Hp → Prop, (∃ m, W 0 m (upd H1 P (.tbl (ps ++ more)))) ∧ ∀ i m H, W i m H →
  (J.stop i H ∧ Q (.bl (!stopAt)) H) ∨ (J.go i H ∧ ∃ Nx : Hp → Prop, (∀ H', Nx H' → ∃ m', m' < m ∧ W (i + 1) m' H') ∧ ∀ x H', J.yld i H x H' → g x (wipe σ vs) H' fun σ2 H2 => wipe σ2 vs = wipe σ vs ∧ te σ2 H2 fun y H4 =>
    ∃ b, y = .bl b ∧ if b = stopAt then Q (.bl stopAt) H4 else Nx H4)
theorem room_over {k : Nat} {A : Around} (hr : Room (k + 1) A) (c : Code) (hw : c.weight = 1) (hu : c.cUnits ≤ 3) (hgd : c.guards = []) : Room k ((A.in1.in1).over c []) := by
  refine ⟨hr.hd, ?_, ?_, by show pushGuards c.guards (pushGuards (guardsOf []) A.guards) = _; rw [hgd]; exact hr.gd⟩
  · have := hr.dp
    show A.depth + 0 + c.weight + 3 * k + 5 < _
    rw [hw]; omega
  · have := hr.un
    show A.units + 1 + 1 + 0 + c.cUnits + 16 * k + 200 < _
    omega
theorem gen_of {k : Nat} {elt tg iter : Expr} {scope : Scope} {own : List (Str × Nat)} {gpos : Pos} {wi : TI} {g : TG} {te : TE} {P : Addr} (stopAt : Bool) (hc : X.calm = true) (hN : X.N.Nodup) (hr : Room (k + 1) X.A) (hi : PI X tg iter wi) (ok : BlkOk X.N X.env.scope scope own)
    (hcell : ∀ y ∈ scope.names, y.2 ≠ .cell) (h0 : scope.names.lookup (".0" : Str) = some NameKind.local) (hco : scope.isCoroutine = false) (tab : TabIn X.K X.env.code P)
    (hg : ∀ (A : Around) (s : Shared) (H : Hp) (C : Addr) (cl : List (Str × Addr)) (code : Value) (fp : List Addr), Room k A → PG (X.gen A s H (genEnv scope cl C code builtinsNs X.env) fp) tg g)
    (he : ∀ (A : Around) (s : Shared) (H : Hp) (C : Addr) (cl : List (Str × Addr)) (code : Value) (fp : List Addr), Room k A → PE (X.gen A s H (genEnv scope cl C code builtinsNs X.env) fp) elt te)
    (hs : ∀ x, genFold iter X.env x = pure x)
    {pins : List (Addr × Obj)} {s : Shared} {σ : St} {H : Hp} {Q : VK} (I : Inv X pins σ H s) (h : tGen stopAt P wi g te (own.map (·.2)) σ H Q)
    {Qg : Value → Shared → Prop}
    (hQ : ∀ (a : Addr) (s4 s5 : Shared) (H4 : Hp) (A' : Around) (ce : Env) (fp : List Addr) (go : Obj) (GI : Nat → Shared → Prop) (n : Nat) (gs : GenState), Inv X pins σ H4 s4 → (∀ b ∈ fp, FpOk X pins H4 b) →
      (go.cls = .type "generator" ∧ (∃ nm qn, go.data = .fields #[.int s4.gens.size 0, nm, qn]) ∧ go.slots = #[]) →
      (∀ n s', GI n s' → ∃ H', Inv (X.gen A' s4 H4 ce fp) [(a, go)] (wipe σ (own.map (·.2))) H' s') → (∀ n s' g' , GI n s' → GB (s4.gens.push .running) g' → GI n { s' with gens := g' }) → (∀ s', ¬ GI 0 s') →
      s5.heap.IsGen a s4.gens.size → s5.heap.NoLimit → s5.gens[s4.gens.size]? = some gs →
      gs.Goes (model X.prog X.w) X.A.in1.in1 (fun _ _ r s₁ => r = .ok .next ∧ ∃ H', Inv (X.gen A' s4 H4 ce fp) [(a, go)] (wipe σ (own.map (·.2))) H' s₁ ∧ Q (.bl (!stopAt)) H')
        (fun m _ v s1 kap => (v = .bool (!stopAt) ∧ GI m s1 ∧ ∀ s'', GI m s'' → kap (.send .none) s'') ∨ (v = .bool stopAt ∧ ∃ H', Inv (X.gen A' s4 H4 ce fp) [(a, go)] (wipe σ (own.map (·.2))) H' s1 ∧ Q (.bl stopAt) H')) n (.send .none) (s5.setGen s4.gens.size .running) →
      Qg (.ref a) s5) :
    wpAny (model X.prog X.w) X.A (eval (.GeneratorExp elt [⟨tg, iter, [], 0⟩] scope gpos) X.env) Qg X.xe s := by
  have hfree : ∀ y ∈ scope.names, y.2 = .free → ∃ c, X.env.cells.lookup y.1 = some c := fun y hy e => by
    rcases ok.free y hy e with k | k
    · exact I.ok.has _ (.inl k)
    · exact I.ok.has _ (.inr k)
  have hh : X.A.handled = none := hr.hd
  refine wpAny_GeneratorExp_make hco (closure_ok hfree) hcell h0 ok.kind hr.depth (thn (hi pins s σ H _ I h) fun xv s1 hx => thn hx fun itv s2 h2 => ?_) hs
  obtain ⟨it, fp, tn, J, H2, e, I2, T, st2, f2, ps, hP, q⟩ := h2
  subst e
  refine ⟨I2.nolimit, gen_code I2 tab hP fun code h3 tk3 more I3 kp3 => ?_⟩
  obtain ⟨W, ⟨m0, w0⟩, turn⟩ := q more
  generalize hH3 : upd H2 P (.tbl (ps ++ more)) = H3 at I3 w0
  generalize hs3 : ({ s2 with heap := h3, toks := tk3 } : Shared) = s3 at I3 ⊢
  obtain ⟨bm, ob, B⟩ := I3.mod.bmd
  have nsg : s3.heap.Ns X.env.globals X.mg := by rw [I3.ok.glob]; exact B.ns.keeps I3.bk
  refine wpAny_builtinsFor nsg B.name B.ne (I3.bk _ _ B.obj) B.cls B.dict B.data ?_
  intro h' hn' hs'
  have sz : ∀ b ∈ fp, b < s2.heap.objs.size := fun b hb => by
    obtain ⟨o, e, _⟩ := T.obj _ _ st2 b hb
    exact Heap.lt_size e
  have nP : ∀ b ∈ fp, b ≠ P := fun b hb z => by
    have := (f2 b hb).1
    rw [z, hP] at this; cases this
  have kp23 : ∀ b o, b ≠ P → s2.heap.get? b = some o → s3.heap.get? b = some o := by rw [← hs3]; exact kp3
  have sz3 : ∀ b ∈ fp, b < s3.heap.objs.size := fun b hb => by
    obtain ⟨o, e, _⟩ := T.obj _ _ st2 b hb
    exact Heap.lt_size (kp23 b o (nP b hb) e)
  have f3 : ∀ b ∈ fp, FpOk X pins H3 b := fun b hb => ⟨by rw [← hH3, upd_ne (nP b hb)]; exact (f2 b hb).1, (f2 b hb).2⟩
  have st3 : tn 0 s3.heap := T.keep _ _ _ st2 fun b hb o e => kp23 b o (nP b hb) e
  have hsz : h'.objs.size = s3.heap.objs.size + 1 := by rw [hs'.1, Heap.size_push]
  generalize hce : genEnv scope (cloFrom X.env.cells scope.names []) s3.heap.objs.size code builtinsNs X.env = ce
  generalize hgo : ({ cls := .type "generator", data := .fields #[.int s3.gens.size 0, .str "<genexpr>" (s3.toks + 1), .str (X.env.qual ++ "<genexpr>") (s3.toks + 1 + 1)] } : Obj) = go
  have hcL : Code.weight (.compLoop (.GeneratorExp elt [⟨tg, iter, [], 0⟩] scope gpos) 0 (.ref it) .none ce) = 1 := rfl
  have hcu : Code.cUnits (.compLoop (.GeneratorExp elt [⟨tg, iter, [], 0⟩] scope gpos) 0 (.ref it) .none ce) ≤ 3 := Nat.le_of_eq rfl
  have hrA := room_over hr _ hcL hcu rfl
  have hAf : ((X.A.in1.in1).over (.compLoop (.GeneratorExp elt [⟨tg, iter, [], 0⟩] scope gpos) 0 (.ref it) .none ce) []).frames = some (ce :: X.stack) := by
    show pushEnvs [ce] (pushEnvs (envsOf []) X.A.frames) = _
    rw [I3.ok.frames]; rfl
  generalize hA' : (X.A.in1.in1).over (.compLoop (.GeneratorExp elt [⟨tg, iter, [], 0⟩] scope gpos) 0 (.ref it) .none ce) [] = A' at hrA hAf
  have pg := hg A' s3 H3 s3.heap.objs.size (cloFrom X.env.cells scope.names []) code fp hrA
  have pe := he A' s3 H3 s3.heap.objs.size (cloFrom X.env.cells scope.names []) code fp hrA
  rw [hce] at pg pe
  have hap : ∀ b ∈ fp, h'.objs.size ≠ b := fun b hb => Nat.ne_of_gt (Nat.lt_of_lt_of_le (sz3 b hb) (by rw [hsz]; exact Nat.le_succ _))
  have I5 : ∀ gs tk, GB (s3.gens.push .running) gs → Inv (X.gen A' s3 H3 ce fp) [(h'.objs.size, go)] (wipe σ (own.map (·.2))) H3 { s3 with gens := gs, toks := tk, heap := h'.push go } := fun gs tk hgs => by
    rw [← hce]
    exact gen_start I3 ok hN (fun b hb => ⟨f3 b hb, sz3 b hb⟩) hcell hrA.hd (by rw [hce]; exact hAf) hn' hs' hgs (by rw [← hgo]; exact fun v z => nomatch z) (by rw [← hgo]; rfl)
  have kp5 : ∀ b o, s3.heap.get? b = some o → (h'.push go).get? b = some o := fun b o e => Heap.get?_push_of_some _ (hs'.extBut b o (Nat.ne_of_lt (Heap.lt_size e)) (Heap.get?_push_of_some _ e))
  have st5 : tn 0 (h'.push go) := T.keep _ _ _ st3 fun b _ o e => kp5 b o e
  have hcoc : ce.scope.isCoroutine = false := by rw [← hce]; exact hco
  subst hA'
  have seg := gen_seg (σ := σ) (own := own) (a := h'.objs.size) (go := go) (gpos := gpos) (elt := elt) (iter := iter) (scope := scope) (A := X.A.in1.in1) (Qt := fun H => Q (.bl (!stopAt)) H) (Qf := fun H => Q (.bl stopAt) H) (s := s3) (H := H3) stopAt hc hcoc T hap pg pe turn _ rfl _ rfl
  have gfin : ∀ gst : GenState, GB (s3.gens.push .running) ((s3.gens.push gst).setIfInBounds s3.gens.size .running) := fun gst => by
    refine ⟨fun y hy => ?_, by rw [Array.size_setIfInBounds, Array.size_push, Array.size_push]; exact Nat.le_refl _, fun j hj => ?_⟩
    · obtain ⟨i, hi, rfl⟩ := Array.mem_iff_getElem.mp hy
      rw [Array.getElem_setIfInBounds (by simpa using hi)]
      split
      · rfl
      · rename_i hne
        have hi' : i < s3.gens.size + 1 := by simpa using hi
        have hi2 : i < s3.gens.size := by omega
        rw [Array.getElem_push_lt hi2]
        exact I3.bare.all _ (Array.getElem_mem _)
    · rw [Array.size_push] at hj
      by_cases e : s3.gens.size = j
      · subst e
        rw [Array.getElem?_setIfInBounds_self_of_lt (by rw [Array.size_push]; omega), Array.getElem?_push_size]
      · rw [Array.getElem?_setIfInBounds_ne e, Array.getElem?_push, Array.getElem?_push]
        simp only [Ne.symm e, if_false]
  have hgo3 : go.cls = .type "generator" ∧ (∃ nm qn, go.data = .fields #[.int s3.gens.size 0, nm, qn]) ∧ go.slots = #[] := by rw [← hgo]; exact ⟨rfl, ⟨_, _, rfl⟩, rfl⟩
  have hgi : (h'.push go).IsGen h'.objs.size s3.gens.size := by
    obtain ⟨c1, ⟨nm, qn, d1⟩, z1⟩ := hgo3
    exact ⟨go, nm, qn, Heap.get?_push_size _ (by rw [← hgo]; rfl), c1, d1, z1⟩
  refine hQ h'.objs.size s3 _ H3 ((X.A.in1.in1).over (.compLoop (.GeneratorExp elt [⟨tg, iter, [], 0⟩] scope gpos) 0 (.ref it) .none ce) []) ce fp go (fun n s' => ∃ i m H', m + 1 ≤ n ∧ Inv (X.gen ((X.A.in1.in1).over (.compLoop (.GeneratorExp elt [⟨tg, iter, [], 0⟩] scope gpos) 0 (.ref it) .none ce) []) s3 H3 ce fp) [(h'.objs.size, go)] (wipe σ (own.map (·.2))) H' s' ∧ tn i s'.heap ∧ (∀ b ∈ fp, H' b = none) ∧ W i m H')
    (m0 + 1) _ I3 f3 hgo3 (fun n s' gi => ?_) (fun n s' g' gi gb => ?_) (fun s' gi => ?_) hgi (I3.nolimit.keeps kp5) (Array.getElem?_push_size (xs := s3.gens)) (And.intro rfl ?_)
  · obtain ⟨i, m, H', _, I', _⟩ := gi
    exact ⟨H', I'⟩
  · obtain ⟨i, m, H', hm, I', r⟩ := gi
    exact ⟨i, m, H', hm, I'.gens_of (t' := s'.toks) gb, r⟩
  · obtain ⟨i, m, H', hm, _⟩ := gi
    exact absurd hm (Nat.not_succ_le_zero m)
  · generalize hs5 : Shared.setGen _ s3.gens.size .running = s5
    have gi : ∃ i m H', m + 1 ≤ m0 + 1 ∧ Inv (X.gen ((X.A.in1.in1).over (.compLoop (.GeneratorExp elt [⟨tg, iter, [], 0⟩] scope gpos) 0 (.ref it) .none ce) []) s3 H3 ce fp) [(h'.objs.size, go)] (wipe σ (own.map (·.2))) H' s5 ∧ tn i s5.heap ∧ (∀ b ∈ fp, H' b = none) ∧ W i m H' :=
      ⟨0, m0, H3, Nat.le_refl _, by rw [← hs5]; exact I5 _ _ (gfin _), by rw [← hs5]; exact st5, fun b hb => (f3 b hb).1, w0⟩
    have st6 : tn 0 s5.heap := by rw [← hs5]; exact st5
    have loop := seg (m0 + 1) s5 s5 gi
    show Seg _ _ _ _ _ s5 _ ((compStart (.GeneratorExp elt [⟨tg, iter, [], 0⟩] scope gpos) 0 (.ref it) .none _).onRaise (leaving _)) [] s5
    subst hce
    unfold compStart
    rw [Sem.onRaise_eq_wrap]
    show Seg _ _ _ _ _ s5 _ ((ask >>= _).wrap _ _ _ _) [] s5
    refine seg_bind_wrap (wpAny_askSetting ?_)
    split
    · exact seg_again rfl loop
    · first
        | exact seg_bind_wrap (wpAny_rule (seg_bind_wrap (wpAny_standAt (seg_bind_wrap (T.self _ 0 s5 _ _ st6 (seg_again rfl loop))))))
        | (refine seg_bind_wrap (wpAny_rule ?_); show Seg _ _ _ _ _ s5 _ ((standAt iter.pos >>= _).wrap _ _ _ _) [] s5; exact seg_bind_wrap (wpAny_standAt (seg_bind_wrap (T.self _ 0 s5 _ _ st6 (seg_again rfl loop)))))
end
section
variable {X : Cx}
theorem gen_leave {pins : List (Addr × Obj)} {σ σ' : St} {H H' : Hp} {s s1 : Shared} {A : Around} {ce : Env} {fp : List Addr} {ps' : List (Addr × Obj)} {x : GenState} (I : Inv X pins σ H s) (hfp : ∀ b ∈ fp, FpOk X pins H b) (J : Inv (X.gen A s H ce fp) ps' σ' H' s1) (hx : x.bare = true) :
    Inv X pins σ H' (s1.setGen s.gens.size x) := gen_end (t' := s1.toks) I hfp J (gb_set J.bare hx)
theorem pe_all {k : Nat} {elt tg iter : Expr} {scope : Scope} {own : List (Str × Nat)} {gpos pos p : Pos} {wi : TI} {g : TG} {te : TE} {P : Addr} (hc : X.calm = true) (hN : X.N.Nodup) (hr : Room (k + 1) X.A) (hG : Gl X "all") (hm : X.mg "all" = none) (hi : PI X tg iter wi) (ok : BlkOk X.N X.env.scope scope own)
    (hcell : ∀ y ∈ scope.names, y.2 ≠ .cell) (h0 : scope.names.lookup (".0" : Str) = some NameKind.local) (hco : scope.isCoroutine = false) (tab : TabIn X.K X.env.code P)
    (hg : ∀ (A : Around) (s : Shared) (H : Hp) (C : Addr) (cl : List (Str × Addr)) (code : Value) (fp : List Addr), Room k A → PG (X.gen A s H (genEnv scope cl C code builtinsNs X.env) fp) tg g)
    (he : ∀ (A : Around) (s : Shared) (H : Hp) (C : Addr) (cl : List (Str × Addr)) (code : Value) (fp : List Addr), Room k A → PE (X.gen A s H (genEnv scope cl C code builtinsNs X.env) fp) elt te)
    (hs : ∀ x, genFold iter X.env x = pure x) :
    PE X (.Call (.Name "all" p) [.GeneratorExp elt [⟨tg, iter, [], 0⟩] scope gpos] [] pos) (tGen false P wi g te (own.map (·.2))) := by
  intro pins s σ H Q I h
  refine wpAny_Call_Name_kw (ld_blt I hG hm (u := .builtin "all") (by decide +kernel) ?_ (by decide) (by decide))
  refine PyProof.Rows.callWith_builtin1 (rest := []) ?_ rfl rfl
  show wpAny _ _ (spliced ((false, eval _ X.env) :: [])) _ _ s
  refine Calls.spliced_cons (gen_of (Qg := fun v s₁ => wpAny (model X.prog X.w) X.A (spliced []) (fun vs s₂ => wpAny (model X.prog X.w) X.A (call (.builtin "all") (v :: vs)) (EP X pins σ Q) X.xe s₂) X.xe s₁) false hc hN hr hi ok hcell h0 hco tab hg he hs I h
    fun a s4 s5 H4 A' ce fp go GI n gs I4 hfp hgo hGI hGr hG0 hgen hlim hgs hgoes => ?_)
  refine Calls.spliced_nil ?_
  refine call_function_tree F.kind_all F.plain_all F.entry_all (F.args_all1 _) ?_
  unfold Builtin.«all»
  refine wpAny_bind (m := oneArg "all" _) (wpAny_pure ?_)
  refine wpAny_bind (wpAny_pyIter_gen hgen ?_)
  refine wpAny_pure ⟨plainId_quiet F.plain_all_loop _, all_gen_loop (Qt := fun H => Q (.bl true) H) (Qf := fun H => Q (.bl false) H) hr.hd hr.depth hgo hGI hGr hG0 (fun s1 h' H' J q kp => ?_) (fun s1 gs' H' J q hb => ?_) n s5 gs hgen hlim hgs hgoes⟩
  · have I5 := gen_leave (x := .finished) I4 hfp J rfl
    exact ⟨.bl true, H', I5.kept (t' := s1.toks) kp, rfl, q⟩
  · exact ⟨.bl false, H', gen_leave I4 hfp J hb, rfl, q⟩
end
inductive D where
  | non | bl (b : Bool) | int (i : Int) | str (x : Str) | lst (xs : List D) | tup (xs : List D) | dic (kvs : List (Key × D)) | fn (x : Str) | exc (c : Str)
structure Tb where
  P : Program
  w : World
  K : PySem.W.Frag
  mg : Str → Option Value
  base : Heap
  tabs : List Addr
def excO (a C : Addr) : HO := .ext fun h => ∃ o, h.get? a = some o ∧ o.cls = .ref C ∧ ∃ vs, o.data = .fields vs
mutual
inductive Rep (mg : Str → Option Value) (F : Hp) : V → D → Prop where
  | non : Rep mg F .non .non
  | bl (b : Bool) : Rep mg F (.bl b) (.bl b)
  | int (i : Int) : Rep mg F (.int i) (.int i)
  | str (x : Str) : Rep mg F (.str x) (.str x)
  | lst {a : Addr} {vs : List V} {ds : List D} (h : Rd F a (.lst vs)) (r : Reps mg F vs ds) : Rep mg F (.ref a) (.lst ds)
  | tup {a : Addr} {vs : List V} {ds : List D} (h : F a = some (.tup vs)) (r : Reps mg F vs ds) : Rep mg F (.ref a) (.tup ds)
  | dic {a : Addr} {kvs : List (Key × V)} {kds : List (Key × D)} (h : Rd F a (.dK kvs)) (r : RepK mg F kvs kds) : Rep mg F (.ref a) (.dic kds)
  | fn {x : Str} {a : Addr} (h : mg x = some (.ref a)) : Rep mg F (.ref a) (.fn x)
  | exc {x : Str} {a C : Addr} (m : mg x = some (.ref C)) (h : F a = some (excO a C)) : Rep mg F (.ref a) (.exc x)
inductive Reps (mg : Str → Option Value) (F : Hp) : List V → List D → Prop where
  | nil : Reps mg F [] []
  | cons {v : V} {d : D} {vs : List V} {ds : List D} (h : Rep mg F v d) (r : Reps mg F vs ds) : Reps mg F (v :: vs) (d :: ds)
inductive RepK (mg : Str → Option Value) (F : Hp) : List (Key × V) → List (Key × D) → Prop where
  | nil : RepK mg F [] []
  | cons {k : Key} {v : V} {d : D} {vs : List (Key × V)} {ds : List (Key × D)} (h : Rep mg F v d) (r : RepK mg F vs ds) : RepK mg F ((k, v) :: vs) ((k, d) :: ds)
end
def HLe (F F' : Hp) : Prop := ∀ b o, F b = some o → F' b = some o
theorem HLe.refl (F : Hp) : HLe F F := fun _ _ h => h
theorem HLe.trans {F F1 F2 : Hp} (a : HLe F F1) (b : HLe F1 F2) : HLe F F2 := fun c o h => b c o (a c o h)
theorem HLe.rd {F F' : Hp} (k : HLe F F') {a : Addr} {u : HO} (h : Rd F a u) : Rd F' a u := by
  rcases h with h | ⟨o, h⟩
  · exact .inl (k _ _ h)
  · exact .inr ⟨o, k _ _ h⟩
theorem HLe.upd {F : Hp} {p : Addr} {o : HO} (h : F p = none) : HLe F (upd F p o) := fun b u e => by rw [upd_ne (ne_of_none e h)]; exact e
section
variable {mg : Str → Option Value} {F F' : Hp}
mutual
theorem Rep.mono (k : HLe F F') : {v : V} → {d : D} → Rep mg F v d → Rep mg F' v d
  | _, _, .non => .non
  | _, _, .bl b => .bl b
  | _, _, .int i => .int i
  | _, _, .str x => .str x
  | _, _, .lst h r => .lst (k.rd h) (Reps.mono k r)
  | _, _, .tup h r => .tup (k _ _ h) (Reps.mono k r)
  | _, _, .dic h r => .dic (k.rd h) (RepK.mono k r)
  | _, _, .fn h => .fn h
  | _, _, .exc m h => .exc m (k _ _ h)
theorem Reps.mono (k : HLe F F') : {vs : List V} → {ds : List D} → Reps mg F vs ds → Reps mg F' vs ds
  | _, _, .nil => .nil
  | _, _, .cons h r => .cons (Rep.mono k h) (Reps.mono k r)
theorem RepK.mono (k : HLe F F') : {vs : List (Key × V)} → {ds : List (Key × D)} → RepK mg F vs ds → RepK mg F' vs ds
  | _, _, .nil => .nil
  | _, _, .cons h r => .cons (Rep.mono k h) (RepK.mono k r)
end
theorem Reps.length : ∀ {vs : List V} {ds : List D}, Reps mg F vs ds → vs.length = ds.length
  | _, _, .nil => rfl
  | _, _, .cons _ r => congrArg (· + 1) r.length
theorem Reps.get : ∀ {vs : List V} {ds : List D} {i : Nat} {v : V}, Reps mg F vs ds → vs[i]? = some v → ∃ d, ds[i]? = some d ∧ Rep mg F v d
  | _, _, _, _, .nil, e => by simp at e
  | _, _, 0, _, .cons h _, e => by simp at e; subst e; exact ⟨_, rfl, h⟩
  | _, _, i + 1, v, .cons _ r, e => by
    obtain ⟨d, h1, h2⟩ := Reps.get (i := i) (v := v) r (by simpa using e)
    exact ⟨d, by simpa using h1, h2⟩
theorem Reps.getD : ∀ {vs : List V} {ds : List D} {i : Nat} {d : D}, Reps mg F vs ds → ds[i]? = some d → ∃ v, vs[i]? = some v ∧ Rep mg F v d
  | _, _, _, _, .nil, e => by simp at e
  | _, _, 0, _, .cons h _, e => by simp at e; subst e; exact ⟨_, rfl, h⟩
  | _, _, i + 1, d, .cons _ r, e => by
    obtain ⟨v, h1, h2⟩ := Reps.getD (i := i) (d := d) r (by simpa using e)
    exact ⟨v, by simpa using h1, h2⟩
theorem Reps.append : ∀ {vs ws : List V} {ds es : List D}, Reps mg F vs ds → Reps mg F ws es → Reps mg F (vs ++ ws) (ds ++ es)
  | _, _, _, _, .nil, q => q
  | _, _, _, _, .cons h r, q => .cons h (Reps.append r q)
theorem Reps.take : ∀ {vs : List V} {ds : List D} (n : Nat), Reps mg F vs ds → Reps mg F (vs.take n) (ds.take n)
  | _, _, 0, _ => .nil
  | _, _, _ + 1, .nil => .nil
  | _, _, n + 1, .cons h r => .cons h (Reps.take n r)
theorem Reps.drop : ∀ {vs : List V} {ds : List D} (n : Nat), Reps mg F vs ds → Reps mg F (vs.drop n) (ds.drop n)
  | _, _, 0, r => r
  | _, _, _ + 1, .nil => .nil
  | _, _, n + 1, .cons _ r => Reps.drop n r
theorem Reps.set {v : V} {d : D} (h : Rep mg F v d) : ∀ {vs : List V} {ds : List D} (i : Nat), Reps mg F vs ds → Reps mg F (vs.set i v) (ds.set i d)
  | _, _, _, .nil => .nil
  | _, _, 0, .cons _ r => .cons h r
  | _, _, i + 1, .cons q r => .cons q (Reps.set h i r)
theorem Reps.reverse : ∀ {vs : List V} {ds : List D}, Reps mg F vs ds → Reps mg F vs.reverse ds.reverse
  | _, _, .nil => .nil
  | _, _, .cons h r => by rw [List.reverse_cons, List.reverse_cons]; exact Reps.append (Reps.reverse r) (.cons h .nil)
theorem Reps.ints : ∀ (ns : List Int), Reps mg F (ns.map V.int) (ns.map D.int)
  | [] => .nil
  | n :: r => .cons (.int n) (Reps.ints r)
theorem Reps.snoc {v : V} {d : D} {vs : List V} {ds : List D} (r : Reps mg F vs ds) (h : Rep mg F v d) : Reps mg F (vs ++ [v]) (ds ++ [d]) := r.append (.cons h .nil)
theorem Reps.replicate {v : V} {d : D} (h : Rep mg F v d) : ∀ n, Reps mg F (List.replicate n v) (List.replicate n d)
  | 0 => .nil
  | n + 1 => .cons h (Reps.replicate h n)
theorem RepK.length : ∀ {vs : List (Key × V)} {ds : List (Key × D)}, RepK mg F vs ds → vs.length = ds.length
  | _, _, .nil => rfl
  | _, _, .cons _ r => congrArg (· + 1) r.length
end
inductive Cell where
  | sh (d : D) | ow (d : D) | mu (d : D)
def Cell.d : Cell → D
  | .sh d => d | .ow d => d | .mu d => d
def Cell.own : Cell → Bool
  | .sh _ => false | _ => true
abbrev Env' := List (Option Cell)
inductive Opd where
  | val (d : D) | slot (i : Nat)
def OwnAt (mg : Str → Option Value) (H F : Hp) (a : Addr) : D → Prop
  | .lst ds => ∃ vs, H a = some (.lst vs) ∧ Reps mg F vs ds
  | .dic kds => ∃ kvs, H a = some (.dK kvs) ∧ RepK mg F kvs kds
  | _ => False
theorem OwnAt.mono {mg : Str → Option Value} {H H' F F' : Hp} {a : Addr} (k : HLe F F') (e : H' a = H a) : ∀ {d : D}, OwnAt mg H F a d → OwnAt mg H' F' a d
  | .lst _, ⟨vs, h, r⟩ => ⟨vs, e.trans h, r.mono k⟩
  | .dic _, ⟨kvs, h, r⟩ => ⟨kvs, e.trans h, r.mono k⟩
theorem OwnAt.some {mg : Str → Option Value} {H F : Hp} {a : Addr} : ∀ {d : D}, OwnAt mg H F a d → ∃ o, H a = some o ∧ ∀ ps, o ≠ .tbl ps
  | .lst _, ⟨vs, h, _⟩ => ⟨_, h, fun _ z => nomatch z⟩
  | .dic _, ⟨kvs, h, _⟩ => ⟨_, h, fun _ z => nomatch z⟩
theorem OwnAt.rep {mg : Str → Option Value} {H F F' : Hp} {a : Addr} {o : HO} (k : HLe F F') (e : H a = .some o) (e' : F' a = .some o) : ∀ {d : D}, OwnAt mg H F a d → Rep mg F' (.ref a) d
  | .lst _, ⟨vs, h, r⟩ => by rw [h] at e; cases e; exact .lst (.inl e') (r.mono k)
  | .dic _, ⟨kvs, h, r⟩ => by rw [h] at e; cases e; exact .dic (.inl e') (r.mono k)
structure En where
  H : Hp
  F : Hp
  A : List Addr
  B : List (Addr × HO)
def Old (o : HO) (H : Hp) (b : Addr) : Prop := match o with
  | .tbl ps => ∃ more, H b = some (.tbl (ps ++ more))
  | o => H b = some o
theorem Old.refl {o : HO} {H : Hp} {b : Addr} (h : H b = some o) : Old o H b := by
  cases o with
  | tbl ps => exact ⟨#[], by rw [h]; simp⟩
  | _ => exact h
theorem Old.trans {o : HO} {H H' : Hp} {b : Addr} (h : Old o H b) (k : ∀ u, H b = some u → Old u H' b) : Old o H' b := by
  cases o with
  | tbl ps =>
    obtain ⟨m, h⟩ := h
    obtain ⟨m', h'⟩ := k _ h
    exact ⟨m ++ m', by rw [h', Array.append_assoc]⟩
  | _ => exact k _ h
theorem Old.eq {o : HO} {H : Hp} {b : Addr} (h : Old o H b) (hn : ∀ ps, o ≠ .tbl ps) : H b = some o := by
  cases o with
  | tbl ps => exact absurd rfl (hn ps)
  | _ => exact h
theorem Old.ex {o : HO} {H : Hp} {b : Addr} (h : Old o H b) : ∃ u, H b = some u := by
  cases o with
  | tbl ps => obtain ⟨m, h⟩ := h; exact ⟨_, h⟩
  | _ => exact ⟨_, h⟩
def SlotOk (mg : Str → Option Value) (J : En) (H F : Hp) (v : V) : Cell → Prop
  | .sh d => Rep mg F v d
  | .ow d => ∃ a, v = .ref a ∧ OwnAt mg H F a d ∧ F a = none ∧ J.H a = none
  | .mu d => ∃ a, v = .ref a ∧ OwnAt mg H F a d ∧ F a = none ∧ a ∈ J.A ∧ J.H a ≠ none
structure Rel (T : Tb) (J : En) (ρ : Env') (σ : St) (H F : Hp) : Prop where
  len : ρ.length = σ.length
  sub : HLe F H
  slot : ∀ (i : Nat) (c : Cell), ρ[i]? = some (some c) → ∃ v, σ[i]? = some (some v) ∧ SlotOk T.mg J H F v c
  dis : ∀ (i j : Nat) (c c' : Cell) (v : V), ρ[i]? = some (some c) → ρ[j]? = some (some c') → c.own = true → c'.own = true → σ[i]? = some (some v) → σ[j]? = some (some v) → i = j
  old : ∀ b o, J.H b = some o → b ∉ J.A → Old o H b ∧ F b = J.F b
  mono : HLe J.F F
  tab : ∀ P ∈ T.tabs, ∃ ps, H P = some (.tbl ps)
  ntab : ∀ b ps, F b ≠ some (.tbl ps)
  aA : ∀ b ∈ J.A, (∃ u, H b = some u) ∧ J.H b ≠ none
  prot : ∀ p ∈ J.B, H p.1 = some p.2 ∧ F p.1 = none ∧ ((∀ ps, p.2 ≠ .tbl ps) ∧ J.H p.1 = none ∧ p.1 ∉ J.A) ∧ ∀ (i : Nat) (c : Cell), ρ[i]? = some (some c) → c.own = true → σ[i]? ≠ some (some (.ref p.1))
section
variable {T : Tb} {J : En} {ρ : Env'} {σ : St} {H F : Hp}
theorem SlotOk.mono {mg : Str → Option Value} {H' F' : Hp} {v : V} (k : HLe F F') (e : ∀ a o, H a = some o → F a = none → v = .ref a → H' a = H a ∧ F' a = none) : ∀ {c : Cell}, SlotOk mg J H F v c → SlotOk mg J H' F' v c
  | .sh _, h => Rep.mono k h
  | .ow _, ⟨a, hv, h, n, r⟩ => let ⟨o, ho, _⟩ := h.some; let ⟨e1, e2⟩ := e a o ho n hv; ⟨a, hv, h.mono k e1, e2, r⟩
  | .mu _, ⟨a, hv, h, n, r⟩ => let ⟨o, ho, _⟩ := h.some; let ⟨e1, e2⟩ := e a o ho n hv; ⟨a, hv, h.mono k e1, e2, r⟩
theorem Rel.fp (R : Rel T J ρ σ H F) {p : Addr} (h : H p = none) : F p = none := by
  cases q : F p with
  | none => rfl
  | some o => rw [R.sub _ _ q] at h; cases h
theorem Rel.jp (R : Rel T J ρ σ H F) {p : Addr} (h : H p = none) : J.H p = none ∧ p ∉ J.A := by
  have nA : p ∉ J.A := fun hA => by
    obtain ⟨⟨u, e⟩, _⟩ := R.aA p hA
    rw [e] at h; cases h
  refine ⟨?_, nA⟩
  cases q : J.H p with
  | none => rfl
  | some o =>
    obtain ⟨u, e⟩ := (R.old p o q nA).1.ex
    rw [e] at h; cases h
theorem Rel.alloc (R : Rel T J ρ σ H F) {p : Addr} {o : HO} (h : H p = none) (ho : ∀ ps, o ≠ .tbl ps) : Rel T J ρ σ (upd H p o) (upd F p o) := by
  have hF := R.fp h
  have nH : ∀ b u, H b = some u → b ≠ p := fun b u e => ne_of_none e h
  refine ⟨R.len, fun b u e => ?_, fun i c e => ?_, R.dis, fun b u e hb => ?_, fun b u e => ?_, fun P hP => ?_, fun b ps e => ?_, fun b hb => ?_, fun q hq => let ⟨h1, h2, h3, h4⟩ := R.prot q hq; ⟨by rw [upd_ne (nH _ _ h1)]; exact h1, by rw [upd_ne (nH _ _ h1)]; exact h2, h3, h4⟩⟩
  · by_cases hb : b = p
    · subst hb; rw [upd_same] at e ⊢; exact e
    · rw [upd_ne hb] at e ⊢; exact R.sub _ _ e
  · obtain ⟨v, e1, s⟩ := R.slot i c e
    exact ⟨v, e1, s.mono (HLe.upd hF) fun a o ha n _ => ⟨upd_ne (nH a o ha), by rw [upd_ne (nH a o ha)]; exact n⟩⟩
  · obtain ⟨o1, e1⟩ := R.old b u e hb
    obtain ⟨z, hz⟩ := o1.ex
    refine ⟨o1.trans fun y hy => Old.refl (by rw [upd_ne (nH b z hz)]; exact hy), by rw [upd_ne (nH b z hz)]; exact e1⟩
  · have q := R.mono _ _ e
    rw [upd_ne (ne_of_none q hF)]; exact q
  · obtain ⟨ps, e⟩ := R.tab P hP
    exact ⟨ps, by rw [upd_ne (nH P _ e)]; exact e⟩
  · by_cases hb : b = p
    · subst hb; rw [upd_same] at e; exact ho ps (Option.some.inj e)
    · rw [upd_ne hb] at e; exact R.ntab b ps e
  · obtain ⟨⟨u, e⟩, z⟩ := R.aA b hb
    exact ⟨⟨u, by rw [upd_ne (nH b u e)]; exact e⟩, z⟩
theorem Rel.allocO (R : Rel T J ρ σ H F) {p : Addr} {o : HO} (h : H p = none) : Rel T J ρ σ (upd H p o) F := by
  have nH : ∀ b u, H b = some u → b ≠ p := fun b u e => ne_of_none e h
  refine ⟨R.len, fun b u e => ?_, fun i c e => ?_, R.dis, fun b u e hb => ?_, R.mono, fun P hP => ?_, R.ntab, fun b hb => ?_, fun q hq => let ⟨h1, h2, h3, h4⟩ := R.prot q hq; ⟨by rw [upd_ne (nH _ _ h1)]; exact h1, h2, h3, h4⟩⟩
  · have q := R.sub _ _ e
    rw [upd_ne (nH b u q)]; exact q
  · obtain ⟨v, e1, s⟩ := R.slot i c e
    exact ⟨v, e1, s.mono (HLe.refl F) fun a o ha n _ => ⟨upd_ne (nH a o ha), n⟩⟩
  · obtain ⟨o1, e1⟩ := R.old b u e hb
    obtain ⟨z, hz⟩ := o1.ex
    exact ⟨o1.trans fun y hy => Old.refl (by rw [upd_ne (nH b z hz)]; exact hy), e1⟩
  · obtain ⟨ps, e⟩ := R.tab P hP
    exact ⟨ps, by rw [upd_ne (nH P _ e)]; exact e⟩
  · obtain ⟨⟨u, e⟩, z⟩ := R.aA b hb
    exact ⟨⟨u, by rw [upd_ne (nH b u e)]; exact e⟩, z⟩
theorem Rel.freezeA (R : Rel T J ρ σ H F) {a : Addr} {o : HO} (ha : H a = some o) (hF : F a = none) (hJ : J.H a = none) (ho : ∀ ps, o ≠ .tbl ps) (hs : ∀ (i : Nat) (c : Cell), ρ[i]? = some (some c) → c.own = true → σ[i]? ≠ some (some (.ref a))) (hB : ∀ p ∈ J.B, p.1 ≠ a) :
    Rel T J ρ σ H (upd F a o) := by
  refine ⟨R.len, fun b u e => ?_, fun i c e => ?_, R.dis, fun b u e hb => ?_, fun b u e => ?_, R.tab, fun b ps e => ?_, R.aA, fun q hq => let ⟨h1, h2, h3, h4⟩ := R.prot q hq; ⟨h1, by rw [upd_ne (hB q hq)]; exact h2, h3, h4⟩⟩
  · by_cases hb : b = a
    · subst hb; rw [upd_same] at e; cases e; exact ha
    · rw [upd_ne hb] at e; exact R.sub _ _ e
  · obtain ⟨v, e1, s⟩ := R.slot i c e
    cases c with
    | sh d => exact ⟨v, e1, Rep.mono (HLe.upd hF) s⟩
    | ow d =>
      obtain ⟨a', hv, h, n, r⟩ := s
      have ne : a' ≠ a := by rintro rfl; subst hv; exact hs i _ e rfl e1
      exact ⟨v, e1, a', hv, h.mono (HLe.upd hF) rfl, by rw [upd_ne ne]; exact n, r⟩
    | mu d =>
      obtain ⟨a', hv, h, n, r⟩ := s
      have ne : a' ≠ a := by rintro rfl; subst hv; exact hs i _ e rfl e1
      exact ⟨v, e1, a', hv, h.mono (HLe.upd hF) rfl, by rw [upd_ne ne]; exact n, r⟩
  · obtain ⟨o1, e1⟩ := R.old b u e hb
    exact ⟨o1, by rw [upd_ne (ne_of_none e hJ)]; exact e1⟩
  · have q := R.mono _ _ e
    rw [upd_ne (ne_of_none q hF)]; exact q
  · by_cases hb : b = a
    · subst hb; rw [upd_same] at e; exact ho ps (Option.some.inj e)
    · rw [upd_ne hb] at e; exact R.ntab b ps e
theorem get_set {α : Type} {l : List α} {i j : Nat} {x y : α} (h : (l.set i x)[j]? = some y) : (i = j ∧ y = x) ∨ (i ≠ j ∧ l[j]? = some y) := by
  by_cases e : i = j
  · subst e
    by_cases hi : i < l.length
    · rw [List.getElem?_set_self hi] at h; exact .inl ⟨rfl, (Option.some.inj h).symm⟩
    · rw [List.getElem?_eq_none (by simpa using hi)] at h; cases h
  · rw [List.getElem?_set_ne e] at h; exact .inr ⟨e, h⟩
theorem Rel.freeze (R : Rel T J ρ σ H F) {i : Nat} {d : D} (h : ρ[i]? = some (some (.ow d))) :
    ∃ a F', σ[i]? = some (some (.ref a)) ∧ HLe F F' ∧ Rel T J (ρ.set i (some (.sh d))) σ H F' ∧ Rep T.mg F' (.ref a) d := by
  obtain ⟨v, e1, a, rfl, ow, n, hJ⟩ := R.slot i _ h
  obtain ⟨o, ho, hno⟩ := ow.some
  have rep : Rep T.mg (upd F a o) (.ref a) d := ow.rep (HLe.upd n) ho upd_same
  refine ⟨a, upd F a o, e1, HLe.upd n, ?_, rep⟩
  have R1 : Rel T J (ρ.set i none) σ H F := by
    refine ⟨by rw [List.length_set]; exact R.len, R.sub, fun j c e => ?_, fun j k c c' v e e' h1 h2 h3 h4 => ?_, R.old, R.mono, R.tab, R.ntab, R.aA, fun q hq => let ⟨h1, h2, h3, h4⟩ := R.prot q hq; ⟨h1, h2, h3, fun j c e => ?_⟩⟩
    rotate_left 2
    · rcases get_set e with ⟨_, z⟩ | ⟨_, z⟩
      · cases z
      · exact h4 j c z
    · rcases get_set e with ⟨_, z⟩ | ⟨_, z⟩
      · cases z
      · exact R.slot j c z
    · rcases get_set e with ⟨_, z⟩ | ⟨_, z⟩
      · cases z
      · rcases get_set e' with ⟨_, z'⟩ | ⟨_, z'⟩
        · cases z'
        · exact R.dis j k c c' v z z' h1 h2 h3 h4
  have R2 := R1.freezeA ho n hJ hno fun j c e hc e' => by
    rcases get_set e with ⟨_, z⟩ | ⟨ne, z⟩
    · cases z
    · exact ne (R.dis i j _ c _ h z rfl hc e1 e')
  have R2 := R2 fun q hq z => (R.prot q hq).2.2.2 i _ h rfl (by rw [z]; exact e1)
  refine ⟨by rw [List.length_set]; exact R.len, R2.sub, fun j c e => ?_, fun j k c c' v e e' h1 h2 h3 h4 => ?_, R2.old, R2.mono, R2.tab, R2.ntab, R2.aA, fun q hq => let ⟨h1, h2, h3, h4⟩ := R2.prot q hq; ⟨h1, h2, h3, fun j c e hc => ?_⟩⟩
  rotate_left 2
  · rcases get_set e with ⟨_, z⟩ | ⟨ne, z⟩
    · cases z; cases hc
    · exact h4 j c (by rw [List.getElem?_set_ne ne]; exact z) hc
  · rcases get_set e with ⟨rfl, z⟩ | ⟨ne, z⟩
    · cases z; exact ⟨_, e1, rep⟩
    · exact R2.slot j c (by rw [List.getElem?_set_ne ne]; exact z)
  · rcases get_set e with ⟨_, z⟩ | ⟨_, z⟩
    · cases z; cases h1
    · rcases get_set e' with ⟨_, z'⟩ | ⟨_, z'⟩
      · cases z'; cases h2
      · exact R.dis j k c c' v z z' h1 h2 h3 h4
def Cell.put : Cell → D → Cell
  | .sh _, d => .sh d | .ow _, d => .ow d | .mu _, d => .mu d
theorem Rel.write (R : Rel T J ρ σ H F) {i : Nat} {c : Cell} {a : Addr} {o : HO} {d : D} (h : ρ[i]? = some (some c)) (hc : c.own = true) (hs : σ[i]? = some (some (.ref a))) (ho : OwnAt T.mg (upd H a o) F a d) :
    Rel T J (ρ.set i (some (c.put d))) σ (upd H a o) F := by
  have key : ∃ o', H a = some o' ∧ (∀ ps, o' ≠ .tbl ps) ∧ F a = none ∧ (J.H a = none ∨ a ∈ J.A) := by
    obtain ⟨v, e1, s⟩ := R.slot i c h
    rw [hs] at e1; cases e1
    cases c with
    | sh d => cases hc
    | ow d => obtain ⟨a', hv, h', n, r⟩ := s; cases hv; obtain ⟨o', e, n'⟩ := h'.some; exact ⟨o', e, n', n, .inl r⟩
    | mu d => obtain ⟨a', hv, h', n, r⟩ := s; cases hv; obtain ⟨o', e, n'⟩ := h'.some; exact ⟨o', e, n', n, .inr r.1⟩
  obtain ⟨o', ha, hno, hF, hJ⟩ := key
  refine ⟨by rw [List.length_set]; exact R.len, fun b u e => ?_, fun j c' e => ?_, fun j k c1 c2 v e e' h1 h2 h3 h4 => ?_, fun b u e hb => ?_, R.mono, fun P hP => ?_, R.ntab, fun b hb => ?_, fun q hq => let ⟨h1, h2, h3, h4⟩ := R.prot q hq; ⟨?_, h2, h3, fun j c' e hc' => ?_⟩⟩
  rotate_left 6
  · have ne : q.1 ≠ a := fun z => h4 i c h hc (by rw [z]; exact hs)
    rw [upd_ne ne]; exact h1
  · rcases get_set e with ⟨rfl, z⟩ | ⟨ne, z⟩
    · exact h4 i c h hc
    · exact h4 j c' z hc'
  · rw [upd_ne (ne_of_none e hF)]; exact R.sub _ _ e
  · rcases get_set e with ⟨rfl, z⟩ | ⟨ne, z⟩
    · cases z
      refine ⟨_, hs, ?_⟩
      obtain ⟨v, e1, s⟩ := R.slot i c h
      rw [hs] at e1; cases e1
      cases c with
      | sh d => cases hc
      | ow d => obtain ⟨a', hv, h', n, r⟩ := s; cases hv; exact ⟨a, rfl, ho, n, r⟩
      | mu d => obtain ⟨a', hv, h', n, r⟩ := s; cases hv; exact ⟨a, rfl, ho, n, r⟩
    · obtain ⟨v, e1, s⟩ := R.slot j c' z
      cases c' with
      | sh d => exact ⟨v, e1, s⟩
      | ow d =>
        obtain ⟨a', hv, h', n, r⟩ := s
        have ne' : a' ≠ a := by rintro rfl; subst hv; exact ne (R.dis i j _ _ _ h z hc rfl hs e1)
        exact ⟨v, e1, a', hv, h'.mono (HLe.refl F) (upd_ne ne'), n, r⟩
      | mu d =>
        obtain ⟨a', hv, h', n, r⟩ := s
        have ne' : a' ≠ a := by rintro rfl; subst hv; exact ne (R.dis i j _ _ _ h z hc rfl hs e1)
        exact ⟨v, e1, a', hv, h'.mono (HLe.refl F) (upd_ne ne'), n, r⟩
  · have f : ∀ {m : Nat} {cc : Cell}, (ρ.set i (some (c.put d)))[m]? = some (some cc) → cc.own = true → ∃ c0, ρ[m]? = some (some c0) ∧ c0.own = true := fun {m cc} q hq => by
      rcases get_set q with ⟨rfl, z⟩ | ⟨_, z⟩
      · exact ⟨c, h, hc⟩
      · exact ⟨cc, z, hq⟩
    obtain ⟨d1, q1, w1⟩ := f e h1
    obtain ⟨d2, q2, w2⟩ := f e' h2
    exact R.dis j k d1 d2 v q1 q2 w1 w2 h3 h4
  · obtain ⟨o1, e1⟩ := R.old b u e hb
    have ne : b ≠ a := by
      rintro rfl
      rcases hJ with z | z
      · rw [e] at z; cases z
      · exact hb z
    exact ⟨o1.trans fun y hy => Old.refl (by rw [upd_ne ne]; exact hy), e1⟩
  · obtain ⟨ps, e⟩ := R.tab P hP
    have ne : P ≠ a := by rintro rfl; rw [ha] at e; cases e; exact hno ps rfl
    exact ⟨ps, by rw [upd_ne ne]; exact e⟩
  · refine ⟨?_, (R.aA b hb).2⟩
    by_cases hb' : b = a
    · exact ⟨o, by rw [hb', upd_same]⟩
    · obtain ⟨u, e⟩ := (R.aA b hb).1
      exact ⟨u, by rw [upd_ne hb']; exact e⟩
theorem Rel.assign (R : Rel T J ρ σ H F) {i : Nat} {v : V} {c : Cell} (hi : i < σ.length) (hs : SlotOk T.mg J H F v c) (hd : c.own = true → ∀ (j : Nat) (c' : Cell), ρ[j]? = some (some c') → c'.own = true → i ≠ j → σ[j]? ≠ some (some v)) (hB : c.own = true → ∀ p ∈ J.B, v ≠ .ref p.1) :
    Rel T J (ρ.set i (some c)) (σ.set i (some v)) H F := by
  refine ⟨by rw [List.length_set, List.length_set]; exact R.len, R.sub, fun j c' e => ?_, fun j k c1 c2 w e e' h1 h2 h3 h4 => ?_, R.old, R.mono, R.tab, R.ntab, R.aA, fun q hq => let ⟨h1, h2, h3, h4⟩ := R.prot q hq; ⟨h1, h2, h3, fun j c' e hc' => ?_⟩⟩
  rotate_left 2
  · rcases get_set e with ⟨rfl, z⟩ | ⟨ne, z⟩
    · cases z; rw [List.getElem?_set_self hi]; exact fun z => hB hc' q hq (Option.some.inj (Option.some.inj z))
    · rw [List.getElem?_set_ne ne]; exact h4 j c' z hc'
  · rcases get_set e with ⟨rfl, z⟩ | ⟨ne, z⟩
    · cases z; exact ⟨v, List.getElem?_set_self hi, hs⟩
    · obtain ⟨w, e1, s⟩ := R.slot j c' z
      exact ⟨w, by rw [List.getElem?_set_ne ne]; exact e1, s⟩
  · rcases get_set e with ⟨rfl, z⟩ | ⟨ne, z⟩
    · cases z
      rw [List.getElem?_set_self hi] at h3; cases h3
      rcases get_set e' with ⟨z', _⟩ | ⟨ne', z'⟩
      · exact z'
      · rw [List.getElem?_set_ne ne'] at h4
        exact absurd h4 (hd h1 k c2 z' h2 ne')
    · rw [List.getElem?_set_ne ne] at h3
      rcases get_set e' with ⟨rfl, z'⟩ | ⟨ne', z'⟩
      · cases z'
        rw [List.getElem?_set_self hi] at h4; cases h4
        exact absurd h3 (hd h2 j c1 z h1 ne)
      · rw [List.getElem?_set_ne ne'] at h4
        exact R.dis j k c1 c2 w z z' h1 h2 h3 h4
theorem Rel.tbl (R : Rel T J ρ σ H F) {P : Addr} {ps more : Array Value} (h : H P = some (.tbl ps)) : Rel T J ρ σ (upd H P (.tbl (ps ++ more))) F := by
  have nF : ∀ b u, F b = some u → b ≠ P := fun b u e z => by subst z; have q := R.sub _ _ e; rw [h] at q; cases q; exact R.ntab _ _ e
  refine ⟨R.len, fun b u e => by rw [upd_ne (nF b u e)]; exact R.sub _ _ e, fun i c e => ?_, R.dis, fun b u e hb => ?_, R.mono, fun Q hQ => ?_, R.ntab, fun b hb => ?_, fun q hq => let ⟨h1, h2, h3, h4⟩ := R.prot q hq; ⟨by rw [upd_ne (fun z => by rw [z, h] at h1; exact h3.1 _ (Option.some.inj h1).symm)]; exact h1, h2, h3, h4⟩⟩
  · obtain ⟨v, e1, s⟩ := R.slot i c e
    have key : ∀ {a d}, OwnAt T.mg H F a d → a ≠ P := fun {a d} q z => by subst z; obtain ⟨o, ho, n⟩ := q.some; rw [h] at ho; cases ho; exact n _ rfl
    cases c with
    | sh d => exact ⟨v, e1, s⟩
    | ow d => obtain ⟨a, hv, q, r⟩ := s; exact ⟨v, e1, a, hv, q.mono (HLe.refl F) (upd_ne (key q)), r⟩
    | mu d => obtain ⟨a, hv, q, r⟩ := s; exact ⟨v, e1, a, hv, q.mono (HLe.refl F) (upd_ne (key q)), r⟩
  · obtain ⟨o1, e1⟩ := R.old b u e hb
    refine ⟨o1.trans fun y hy => ?_, e1⟩
    by_cases hb : b = P
    · subst hb; rw [h] at hy; cases hy; exact ⟨more, upd_same⟩
    · exact Old.refl (by rw [upd_ne hb]; exact hy)
  · by_cases hb : Q = P
    · subst hb; exact ⟨_, upd_same⟩
    · obtain ⟨qs, e⟩ := R.tab Q hQ
      exact ⟨qs, by rw [upd_ne hb]; exact e⟩
  · refine ⟨?_, (R.aA b hb).2⟩
    by_cases hb' : b = P
    · exact ⟨_, by rw [hb', upd_same]⟩
    · obtain ⟨u, e⟩ := (R.aA b hb).1
      exact ⟨u, by rw [upd_ne hb']; exact e⟩
end
abbrev WE := Env' → (Opd → Env' → Prop) → Prop
abbrev WT := Env' → (Bool → Env' → Prop) → Prop
abbrev WA := Env' → (List Opd → Env' → Prop) → Prop
abbrev WF := Env' → (D → Env' → Prop) → Prop
abbrev WO := Env' → (Cell → Env' → Prop) → Prop
structure Pn where
  nx : Env' → Prop
  rt : Cell → Env' → Prop
  bk : Env' → Prop := fun _ => False
  ct : Env' → Prop := fun _ => False
abbrev WS := Pn → Env' → Prop
def OpdOk (mg : Str → Option Value) (σ : St) (F : Hp) (v : V) : Opd → Prop
  | .val d => Rep mg F v d
  | .slot i => σ[i]? = some (some v)
inductive OpdsOk (mg : Str → Option Value) (σ : St) (F : Hp) : List V → List Opd → Prop where
  | nil : OpdsOk mg σ F [] []
  | cons {v : V} {o : Opd} {vs : List V} {os : List Opd} (h : OpdOk mg σ F v o) (r : OpdsOk mg σ F vs os) : OpdsOk mg σ F (v :: vs) (o :: os)
theorem OpdOk.mono {mg : Str → Option Value} {σ : St} {F F' : Hp} (k : HLe F F') {v : V} : ∀ {o : Opd}, OpdOk mg σ F v o → OpdOk mg σ F' v o
  | .val _, h => Rep.mono k h
  | .slot _, h => h
theorem OpdsOk.mono {mg : Str → Option Value} {σ : St} {F F' : Hp} (k : HLe F F') : ∀ {vs : List V} {os : List Opd}, OpdsOk mg σ F vs os → OpdsOk mg σ F' vs os
  | _, _, .nil => .nil
  | _, _, .cons h r => .cons (h.mono k) (r.mono k)
structure Fresh (T : Tb) (J : En) (ρ : Env') (σ : St) (H F : Hp) (a : Addr) (d : D) : Prop where
  own : OwnAt T.mg H F a d
  nf : F a = none
  nj : J.H a = none
  ns : ∀ (i : Nat) (c : Cell), ρ[i]? = some (some c) → c.own = true → σ[i]? ≠ some (some (.ref a))
  nb : ∀ p ∈ J.B, p.1 ≠ a
def HalfOk (T : Tb) (J : En) (ρ : Env') (σ : St) (H F : Hp) (v : V) (b : Addr) : D → Prop
  | .lst es => ∃ c, v = .ref c ∧ c ≠ b ∧ Fresh T J ρ σ H F c (.lst es)
  | d => Rep T.mg F v d
def CellOk (T : Tb) (J : En) (ρ : Env') (σ : St) (H F : Hp) (v : V) : Cell → Prop
  | .sh d => Rep T.mg F v d
  | .ow d => ∃ a, v = .ref a ∧ Fresh T J ρ σ H F a d
  | .mu d => ∃ a b v0 d0 ds, v = .ref a ∧ d = .tup [d0, .lst ds] ∧ F a = some (.tup [v0, .ref b]) ∧ HalfOk T J ρ σ H F v0 b d0 ∧ Fresh T J ρ σ H F b (.lst ds)
def Cell.isMu : Cell → Bool
  | .mu _ => true | _ => false
def pNm (c : Cell) (κ : Prop) : Prop := match c with
  | .mu _ => False
  | _ => κ
theorem pNm.out {c : Cell} {κ : Prop} (h : pNm c κ) : κ ∧ c.isMu = false := by cases c <;> first | exact ⟨h, rfl⟩ | exact h.elim
section
variable (T : Tb) (J : En)
def tE (w : WE) : TE := fun σ H Qv => ∃ ρ F Q, Rel T J ρ σ H F ∧ w ρ Q ∧ ∀ v H' F' o ρ', Rel T J ρ' σ H' F' → HLe F F' → OpdOk T.mg σ F' v o → Q o ρ' → Qv v H'
def tT (w : WT) : TT := fun σ H Qv => ∃ ρ F Q, Rel T J ρ σ H F ∧ w ρ Q ∧ ∀ b H' F' ρ', Rel T J ρ' σ H' F' → HLe F F' → Q b ρ' → Qv b H'
def tA (w : WA) : TA := fun σ H Qv => ∃ ρ F Q, Rel T J ρ σ H F ∧ w ρ Q ∧ ∀ vs H' F' os ρ', Rel T J ρ' σ H' F' → HLe F F' → OpdsOk T.mg σ F' vs os → Q os ρ' → Qv vs H'
def tF (w : WF) : TE := fun σ H Qv => ∃ ρ F Q, Rel T J ρ σ H F ∧ w ρ Q ∧ ∀ a H' F' d ρ', Rel T J ρ' σ H' F' → HLe F F' → Fresh T J ρ' σ H' F' a d → Q d ρ' → Qv (.ref a) H'
def tO (w : WO) : TE := fun σ H Qv => ∃ ρ F Q, Rel T J ρ σ H F ∧ w ρ Q ∧ ∀ v H' F' c ρ', Rel T J ρ' σ H' F' → HLe F F' → CellOk T J ρ' σ H' F' v c → Q c ρ' → Qv v H'
def endsOf (F : Hp) (N : Nat) (D : Pn) (E : Ends) : Prop :=
  (∀ σ' H' F' ρ', Rel T J ρ' σ' H' F' → HLe F F' → D.nx ρ' → E.nx σ' H') ∧ (∀ σ' v H' F' c ρ', Rel T J ρ' σ' H' F' → HLe F F' → CellOk T J ρ' σ' H' F' v c → D.rt c ρ' → E.rt v H') ∧
  (∀ σ' H' F' ρ', Rel T J ρ' σ' H' F' → HLe F F' → D.bk ρ' → E.bk σ' H') ∧ (∀ σ' H' F' ρ', Rel T J ρ' σ' H' F' → HLe F F' → D.ct ρ' → E.ct σ' H')
def tS (w : WS) : TS := fun E σ H => ∃ ρ F D, Rel T J ρ σ H F ∧ w D ρ ∧ endsOf T J F 0 D E
end
structure Pt where
  tab : Option Addr
  cf : Str → Bool
structure Gd (T : Tb) (k : Nat) (P : Pt) (N : List Str) (sc : Scope) (X : Cx) : Prop where
  prog : X.prog = T.P
  w : X.w = T.w
  K : X.K = T.K
  mg : X.mg = T.mg
  base : X.base = T.base
  hN : X.N = N
  nd : N.Nodup
  fn : ∀ x, P.cf x = true → X.fn x = true
  sc : X.env.scope = sc
  calm : X.calm = true
  room : Room k X.A
  tab : ∀ p, P.tab = some p → TabIn X.K X.env.code p ∧ p ∈ T.tabs
  sm : ∃ o, X.base.get? sysModules = some o
section
variable (T : Tb) (k : Nat) (P : Pt) (N : List Str) (sc : Scope)
structure VE (e : Expr) (w : WE) : Prop where
  mk :: (of : ∀ X J, Gd T k P N sc X → PE X e (tE T J w))
structure VF (e : Expr) (w : WF) : Prop where
  mk :: (of : ∀ X J, Gd T k P N sc X → PE X e (tF T J w))
structure VO (e : Expr) (w : WO) : Prop where
  mk :: (of : ∀ X J, Gd T k P N sc X → PE X e (tO T J w))
structure VT (e : Expr) (w : WT) : Prop where
  mk :: (of : ∀ X J, Gd T k P N sc X → PT X e (tT T J w))
structure VA (es : List Expr) (w : WA) : Prop where
  mk :: (of : ∀ X J, Gd T k P N sc X → PA X es (tA T J w))
structure VS (s : Stmt) (w : WS) : Prop where
  mk :: (of : ∀ X J, Gd T k P N sc X → PS X s (tS T J w))
structure VSs (ss : List Stmt) (w : WS) : Prop where
  mk :: (of : ∀ X J, Gd T k P N sc X → PSs X ss (tS T J w))
end
theorem PE.imp {X : Cx} {e : Expr} {t t' : TE} (h : PE X e t) (k : ∀ σ H Q, t' σ H Q → t σ H Q) : PE X e t' := fun pins s σ H Q I q => h pins s σ H Q I (k σ H Q q)
theorem PT.imp {X : Cx} {e : Expr} {t t' : TT} (h : PT X e t) (k : ∀ σ H Q, t' σ H Q → t σ H Q) : PT X e t' := fun pins s σ H Q I q => h pins s σ H Q I (k σ H Q q)
theorem PA.imp {X : Cx} {e : List Expr} {t t' : TA} (h : PA X e t) (k : ∀ σ H Q, t' σ H Q → t σ H Q) : PA X e t' := fun pos pins s σ H Q I q => h pos pins s σ H Q I (k σ H Q q)
theorem PS.imp {X : Cx} {e : Stmt} {t t' : TS} (h : PS X e t) (k : ∀ D σ H, t' D σ H → t D σ H) : PS X e t' := fun pins s σ H D I q => h pins s σ H D I (k D σ H q)
theorem PSs.imp {X : Cx} {e : List Stmt} {t t' : TS} (h : PSs X e t) (k : ∀ D σ H, t' D σ H → t D σ H) : PSs X e t' := fun pins s σ H D I q => h pins s σ H D I (k D σ H q)
def pRd (ρ : Env') (o : Opd) (k : D → Prop) : Prop := match o with
  | .val d => k d
  | .slot i => match ρ[i]? with
    | some (some c) => k c.d
    | _ => False
def pUse (ρ : Env') (o : Opd) (k : D → Env' → Prop) : Prop := match o with
  | .val d => k d ρ
  | .slot i => match ρ[i]? with
    | some (some (.ow d)) => k d (ρ.set i (some (.sh d)))
    | some (some (.sh d)) => k d ρ
    | _ => False
def pRds (ρ : Env') : List Opd → (List D → Prop) → Prop
  | [], k => k []
  | o :: os, k => pRd ρ o fun d => pRds ρ os fun ds => k (d :: ds)
def pUses (ρ : Env') : List Opd → (List D → Env' → Prop) → Prop
  | [], k => k [] ρ
  | o :: os, k => pUse ρ o fun d ρ' => pUses ρ' os fun ds ρ'' => k (d :: ds) ρ''
def RdV (mg : Str → Option Value) (H F : Hp) (v : V) (d : D) : Prop := Rep mg F v d ∨ ∃ a, v = .ref a ∧ OwnAt mg H F a d
section
variable {T : Tb} {J : En} {ρ : Env'} {σ : St} {H F : Hp}
theorem rd_ok (R : Rel T J ρ σ H F) {v : V} {o : Opd} (ho : OpdOk T.mg σ F v o) {k : D → Prop} (h : pRd ρ o k) : ∃ d, k d ∧ RdV T.mg H F v d := by
  cases o with
  | val d => exact ⟨d, h, .inl ho⟩
  | slot i =>
    unfold pRd at h
    dsimp only at h
    split at h
    · rename_i c e
      obtain ⟨v', e1, s⟩ := R.slot i c e
      have ho : σ[i]? = some (some v) := ho
      rw [ho] at e1; cases e1
      refine ⟨c.d, h, ?_⟩
      cases c with
      | sh d => exact .inl s
      | ow d => obtain ⟨a, hv, q, _⟩ := s; exact .inr ⟨a, hv, q⟩
      | mu d => obtain ⟨a, hv, q, _⟩ := s; exact .inr ⟨a, hv, q⟩
    · exact h.elim
theorem use_ok (R : Rel T J ρ σ H F) {v : V} {o : Opd} (ho : OpdOk T.mg σ F v o) {k : D → Env' → Prop} (h : pUse ρ o k) : ∃ d ρ' F', k d ρ' ∧ Rel T J ρ' σ H F' ∧ HLe F F' ∧ Rep T.mg F' v d := by
  cases o with
  | val d => exact ⟨d, ρ, F, h, R, HLe.refl F, ho⟩
  | slot i =>
    unfold pUse at h
    dsimp only at h
    have ho : σ[i]? = some (some v) := ho
    split at h
    · rename_i d e
      obtain ⟨a, F', e1, m, R', r⟩ := R.freeze e
      rw [ho] at e1; cases e1
      exact ⟨d, _, F', h, R', m, r⟩
    · rename_i d e
      obtain ⟨v', e1, s⟩ := R.slot i _ e
      rw [ho] at e1; cases e1
      exact ⟨d, ρ, F, h, R, HLe.refl F, s⟩
    · exact h.elim
theorem rds_ok (R : Rel T J ρ σ H F) : ∀ {vs : List V} {os : List Opd}, OpdsOk T.mg σ F vs os → ∀ {k : List D → Prop}, pRds ρ os k → ∃ ds, k ds ∧ Paired (RdV T.mg H F) vs ds
  | _, _, .nil, k, h => ⟨[], h, .nil⟩
  | _, _, .cons ho r, k, h => by
    obtain ⟨d, h1, q⟩ := rd_ok R ho h
    obtain ⟨ds, h2, qs⟩ := rds_ok R r h1
    exact ⟨d :: ds, h2, .cons q qs⟩
theorem uses_ok : ∀ {vs : List V} {os : List Opd} {ρ : Env'} {F : Hp}, Rel T J ρ σ H F → OpdsOk T.mg σ F vs os → ∀ {k : List D → Env' → Prop}, pUses ρ os k → ∃ ds ρ' F', k ds ρ' ∧ Rel T J ρ' σ H F' ∧ HLe F F' ∧ Reps T.mg F' vs ds
  | _, _, ρ, F, R, .nil, k, h => ⟨[], ρ, F, h, R, HLe.refl F, .nil⟩
  | _, _, ρ, F, R, .cons ho r, k, h => by
    obtain ⟨d, ρ1, F1, h1, R1, m1, q⟩ := use_ok R ho h
    obtain ⟨ds, ρ2, F2, h2, R2, m2, qs⟩ := uses_ok R1 (r.mono m1) h1
    exact ⟨d :: ds, ρ2, F2, h2, R2, m1.trans m2, .cons (q.mono m2) qs⟩
theorem Fresh.freeze (R : Rel T J ρ σ H F) {a : Addr} {d : D} (f : Fresh T J ρ σ H F a d) : ∃ F', HLe F F' ∧ Rel T J ρ σ H F' ∧ Rep T.mg F' (.ref a) d := by
  obtain ⟨o, ho, hno⟩ := f.own.some
  exact ⟨upd F a o, HLe.upd f.nf, R.freezeA ho f.nf f.nj hno f.ns f.nb, f.own.rep (HLe.upd f.nf) ho upd_same⟩
theorem freeze2 {R0 : Rel T J ρ σ H F} {v0 : V} {d0 : D} {a b : Addr} {ds : List D} (ha : F a = some (.tup [v0, .ref b])) (h4 : HalfOk T J ρ σ H F v0 b d0) (f : Fresh T J ρ σ H F b (.lst ds)) :
    ∃ F', HLe F F' ∧ Rel T J ρ σ H F' ∧ Rep T.mg F' (.ref a) (.tup [d0, .lst ds]) := by
  have plain : Rep T.mg F v0 d0 → ∃ F', HLe F F' ∧ Rel T J ρ σ H F' ∧ Rep T.mg F' (.ref a) (.tup [d0, .lst ds]) := fun r0 => by
    obtain ⟨F2, m2, R2, r⟩ := f.freeze R0
    exact ⟨F2, m2, R2, .tup (m2 _ _ ha) (.cons (r0.mono m2) (.cons r .nil))⟩
  cases d0 with
  | lst es =>
    obtain ⟨c, rfl, ne, fc⟩ := h4
    obtain ⟨vs, hc, rv⟩ := fc.own
    have hno : ∀ ps, HO.lst vs ≠ .tbl ps := fun _ z => nomatch z
    have R1 := R0.freezeA hc fc.nf fc.nj hno fc.ns fc.nb
    have m1 : HLe F (upd F c (.lst vs)) := HLe.upd fc.nf
    have f1 : Fresh T J ρ σ H (upd F c (.lst vs)) b (.lst ds) := ⟨f.own.mono m1 rfl, by rw [upd_ne ne.symm]; exact f.nf, f.nj, f.ns, f.nb⟩
    obtain ⟨F2, m2, R2, r⟩ := f1.freeze R1
    exact ⟨F2, m1.trans m2, R2, .tup (m2 _ _ (m1 _ _ ha)) (.cons (.lst (.inl (m2 _ _ upd_same)) (rv.mono (m1.trans m2))) (.cons r .nil))⟩
  | _ => exact plain h4
theorem Fresh.new (R : Rel T J ρ σ H F) {p : Addr} {o : HO} {d : D} (h : H p = none) (q : OwnAt T.mg (upd H p o) F p d) : Fresh T J ρ σ (upd H p o) F p d := by
  refine ⟨q, R.fp h, (R.jp h).1, fun i c e hc z => ?_, fun b hb z => ?_⟩
  · obtain ⟨v, e1, s⟩ := R.slot i c e
    rw [z] at e1; cases e1
    cases c with
    | sh d => cases hc
    | ow d => obtain ⟨a, hv, w, _⟩ := s; cases hv; obtain ⟨o, ho, _⟩ := w.some; rw [h] at ho; cases ho
    | mu d => obtain ⟨a, hv, w, _⟩ := s; cases hv; obtain ⟨o, ho, _⟩ := w.some; rw [h] at ho; cases ho
  · have := (R.prot b hb).1
    rw [z, h] at this; cases this
end
def wFE (w : WF) : WE := fun ρ Q => w ρ fun d ρ' => Q (.val d) ρ'
def wFO (w : WF) : WO := fun ρ Q => w ρ fun d ρ' => Q (.ow d) ρ'
def wEO (w : WE) : WO := fun ρ Q => w ρ fun o ρ' => pUse ρ' o fun d ρ'' => Q (.sh d) ρ''
section
variable {T : Tb} {k : Nat} {P : Pt} {N : List Str} {sc : Scope} {ex : Expr}
theorem VF.e {w : WF} (h : VF T k P N sc ex w) : VE T k P N sc ex (wFE w) := ⟨fun X J G => (h.of X J G).imp fun σ H Q => by
  rintro ⟨ρ, F, Q', R, q, z⟩
  refine ⟨ρ, F, _, R, q, fun a H' F' d ρ' R' m f q' => ?_⟩
  obtain ⟨F2, m2, R2, r⟩ := f.freeze R'
  exact z _ _ F2 (.val d) _ R2 (m.trans m2) r q'⟩
theorem VF.o {w : WF} (h : VF T k P N sc ex w) : VO T k P N sc ex (wFO w) := ⟨fun X J G => (h.of X J G).imp fun σ H Q => by
  rintro ⟨ρ, F, Q', R, q, z⟩
  exact ⟨ρ, F, _, R, q, fun a H' F' d ρ' R' m f q' => z _ _ F' (.ow d) _ R' m ⟨a, rfl, f⟩ q'⟩⟩
theorem VE.o {w : WE} (h : VE T k P N sc ex w) : VO T k P N sc ex (wEO w) := ⟨fun X J G => (h.of X J G).imp fun σ H Q => by
  rintro ⟨ρ, F, Q', R, q, z⟩
  refine ⟨ρ, F, _, R, q, fun v H' F' o ρ' R' m ho q' => ?_⟩
  obtain ⟨d, ρ2, F2, h2, R2, m2, r⟩ := use_ok R' ho q'
  exact z _ _ F2 (.sh d) _ R2 (m.trans m2) r h2⟩
end
section
variable {mg : Str → Option Value} {H F : Hp} {v : V}
theorem RdV.int {i : Int} (h : RdV mg H F v (.int i)) : v = .int i := by
  rcases h with h | ⟨a, _, h⟩
  · cases h; rfl
  · exact h.elim
theorem RdV.bl {b : Bool} (h : RdV mg H F v (.bl b)) : v = .bl b := by
  rcases h with h | ⟨a, _, h⟩
  · cases h; rfl
  · exact h.elim
theorem RdV.str {x : Str} (h : RdV mg H F v (.str x)) : v = .str x := by
  rcases h with h | ⟨a, _, h⟩
  · cases h; rfl
  · exact h.elim
theorem RdV.non (h : RdV mg H F v .non) : v = .non := by
  rcases h with h | ⟨a, _, h⟩
  · cases h; rfl
  · exact h.elim
theorem RdV.lst (k : HLe F H) {ds : List D} (h : RdV mg H F v (.lst ds)) : ∃ a vs, v = .ref a ∧ Rd H a (.lst vs) ∧ Reps mg F vs ds := by
  rcases h with h | ⟨a, e, vs, h, r⟩
  · cases h with
    | lst h r => exact ⟨_, _, rfl, k.rd h, r⟩
  · exact ⟨a, vs, e, .inl h, r⟩
theorem RdV.tup (k : HLe F H) {ds : List D} (h : RdV mg H F v (.tup ds)) : ∃ a vs, v = .ref a ∧ H a = some (.tup vs) ∧ Reps mg F vs ds := by
  rcases h with h | ⟨a, e, h⟩
  · cases h with
    | tup h r => exact ⟨_, _, rfl, k _ _ h, r⟩
  · exact h.elim
theorem RdV.dic (k : HLe F H) {ds : List (Key × D)} (h : RdV mg H F v (.dic ds)) : ∃ a vs, v = .ref a ∧ Rd H a (.dK vs) ∧ RepK mg F vs ds := by
  rcases h with h | ⟨a, e, vs, h, r⟩
  · cases h with
    | dic h r => exact ⟨_, _, rfl, k.rd h, r⟩
  · exact ⟨a, vs, e, .inl h, r⟩
end
section
variable {T : Tb} {k : Nat} {P : Pt} {N : List Str} {sc : Scope} {a b c : Expr} {wa wb wc : WE} {pos : Pos}
def wVar (i : Nat) : WE := fun ρ Q => match ρ[i]? with
  | some (some (.sh d)) => Q (.val d) ρ
  | some (some _) => Q (.slot i) ρ
  | _ => False
def wMove (i : Nat) : WO := fun ρ Q => match ρ[i]? with
  | some (some (.sh d)) => Q (.sh d) ρ
  | some (some (.ow d)) => Q (.ow d) (ρ.set i none)
  | _ => False
def wC (d : D) : WE := fun ρ Q => Q (.val d) ρ
theorem ve_var (i : Nat) {x : Str} (hN : N[i]? = some x := by rfl) (hv : Vis sc x := by first | exact Or.inl rfl | exact Or.inr (Or.inl rfl) | exact Or.inr (Or.inr rfl)) (hd : (x == ("__debug__" : Str)) = false := by decide) (hcd : (x == ("__classdict__" : Str)) = false := by decide) :
    VE T k P N sc (.Name x pos) (wVar i) := ⟨fun X J G => (pe_var (i := i) (by rw [G.hN]; exact hN) (by rw [G.sc]; exact hv) hd hcd).imp fun σ H Q => by
  rintro ⟨ρ, F, Q', R, q, z⟩
  unfold wVar at q
  split at q
  · rename_i d e
    obtain ⟨v, e1, s⟩ := R.slot i _ e
    exact ⟨v, e1, z v H F (.val d) ρ R (HLe.refl F) s q⟩
  · rename_i c e
    obtain ⟨v, e1, s⟩ := R.slot i _ (by assumption)
    exact ⟨v, e1, z v H F (.slot i) ρ R (HLe.refl F) e1 q⟩
  · exact q.elim⟩
theorem vo_move (i : Nat) {x : Str} (hN : N[i]? = some x := by rfl) (hv : Vis sc x := by first | exact Or.inl rfl | exact Or.inr (Or.inl rfl) | exact Or.inr (Or.inr rfl)) (hd : (x == ("__debug__" : Str)) = false := by decide) (hcd : (x == ("__classdict__" : Str)) = false := by decide) :
    VO T k P N sc (.Name x pos) (wMove i) := ⟨fun X J G => (pe_var (i := i) (by rw [G.hN]; exact hN) (by rw [G.sc]; exact hv) hd hcd).imp fun σ H Q => by
  rintro ⟨ρ, F, Q', R, q, z⟩
  unfold wMove at q
  split at q
  · rename_i d e
    obtain ⟨v, e1, s⟩ := R.slot i _ e
    exact ⟨v, e1, z v H F (.sh d) ρ R (HLe.refl F) s q⟩
  · rename_i d e
    obtain ⟨v, e1, a, hv, ow, nf, nj⟩ := R.slot i _ e
    subst hv
    have R1 : Rel T J (ρ.set i none) σ H F := by
      refine ⟨by rw [List.length_set]; exact R.len, R.sub, fun j c e => ?_, fun j k c c' v e e' h1 h2 h3 h4 => ?_, R.old, R.mono, R.tab, R.ntab, R.aA, fun q hq => let ⟨h1, h2, h3, h4⟩ := R.prot q hq; ⟨h1, h2, h3, fun j c e => ?_⟩⟩
      · rcases get_set e with ⟨_, z⟩ | ⟨_, z⟩
        · cases z
        · exact R.slot j c z
      · rcases get_set e with ⟨_, z⟩ | ⟨_, z⟩
        · cases z
        · rcases get_set e' with ⟨_, z'⟩ | ⟨_, z'⟩
          · cases z'
          · exact R.dis j k c c' v z z' h1 h2 h3 h4
      · rcases get_set e with ⟨_, z⟩ | ⟨_, z⟩
        · cases z
        · exact h4 j c z
    refine ⟨_, e1, z _ H F (.ow d) _ R1 (HLe.refl F) ⟨a, rfl, ow, nf, nj, fun j c e' hc e2 => ?_, fun p hp z => ?_⟩ q⟩
    · rcases get_set e' with ⟨_, z⟩ | ⟨ne, z⟩
      · cases z
      · exact ne (R.dis i j _ c _ e z rfl hc e1 e2)
    · exact (R.prot p hp).2.2.2 i _ e rfl (by rw [z]; exact e1)
  · exact q.elim⟩
theorem ve_c {d : D} {v : V} (h : ∀ X, PE X a (tC v)) (r : ∀ F, Rep T.mg F v d) : VE T k P N sc a (wC d) := ⟨fun X J G => (h X).imp fun σ H Q => by
  rintro ⟨ρ, F, Q', R, q, z⟩
  exact z v H F (.val d) ρ R (HLe.refl F) (r F) q⟩
theorem ve_int {i : Int} {j : Nat} : VE T k P N sc (.Constant (.int i) j pos) (wC (.int i)) := ve_c (fun _ => pe_int) fun _ => .int i
theorem ve_bl {i : Bool} {j : Nat} : VE T k P N sc (.Constant (.bool i) j pos) (wC (.bl i)) := ve_c (fun _ => pe_bl) fun _ => .bl i
theorem ve_non {j : Nat} : VE T k P N sc (.Constant .none j pos) (wC .non) := ve_c (fun _ => pe_non) fun _ => .non
theorem ve_str {x : Str} {j : Nat} : VE T k P N sc (.Constant (.str x) j pos) (wC (.str x)) := ve_c (fun _ => pe_str) fun _ => .str x
theorem Gd.gl {X : Cx} (G : Gd T k P N sc X) {x : Str} (h : sc.names.lookup x = some .globalImplicit) : Gl X x := by
  show X.env.scope.names.lookup x = _
  rw [G.sc]; exact h
theorem ve_gint {x : Str} {i : Int} {t : Tok} (hm : T.mg x = some (.int i t)) (hg : sc.names.lookup x = some .globalImplicit := by rfl) (hd : (x == ("__debug__" : Str)) = false := by decide) : VE T k P N sc (.Name x pos) (wC (.int i)) :=
  ⟨fun X J G => (pe_glob (v := .int i) (G.gl hg) (by rw [G.mg]; exact hm) ⟨_, rfl⟩ hd).imp fun σ H Q => by
    rintro ⟨ρ, F, Q', R, q, z⟩
    exact z _ H F (.val (.int i)) ρ R (HLe.refl F) (.int i) q⟩
abbrev P2 := D → D → (D → Prop) → Prop
abbrev P1 := List D → (D → Prop) → Prop
structure OpOk (T : Tb) (X : Cx) (f : Value → Value → Sem Value) (p : P2) : Prop where
  ex : ∃ r, OpR X f r ∧ ∀ J ρ σ H F x y d1 d2 (κ : D → Prop) Q, Rel T J ρ σ H F → RdV T.mg H F x d1 → RdV T.mg H F y d2 → p d1 d2 κ →
    (∀ d v H' F', κ d → Rel T J ρ σ H' F' → HLe F F' → Rep T.mg F' v d → Q v H') → r x y H Q
def wBin (p : P2) (wa wb : WE) : WE := fun ρ Q => wa ρ fun o1 ρ1 => wb ρ1 fun o2 ρ2 => pRd ρ2 o1 fun d1 => pRd ρ2 o2 fun d2 => p d1 d2 fun d => Q (.val d) ρ2
theorem bin_of {p : P2} {J : En} {r : R2}
    (hz : ∀ J ρ σ H F x y d1 d2 (κ : D → Prop) Q, Rel T J ρ σ H F → RdV T.mg H F x d1 → RdV T.mg H F y d2 → p d1 d2 κ → (∀ d v H' F', κ d → Rel T J ρ σ H' F' → HLe F F' → Rep T.mg F' v d → Q v H') → r x y H Q) :
    ∀ σ H Q, tE T J (wBin p wa wb) σ H Q → tOp r (tE T J wa) (tE T J wb) σ H Q := by
  rintro σ H Q ⟨ρ, F, Q', R, q, z⟩
  refine ⟨ρ, F, _, R, q, fun v H1 F1 o1 ρ1 R1 m1 ho1 q1 => ⟨ρ1, F1, _, R1, q1, fun v2 H2 F2 o2 ρ2 R2 m2 ho2 q2 => ?_⟩⟩
  obtain ⟨d1, h1, r1⟩ := rd_ok R2 (ho1.mono m2) q2
  obtain ⟨d2, h2, r2⟩ := rd_ok R2 ho2 h1
  exact hz J ρ2 σ H2 F2 v v2 d1 d2 _ Q R2 r1 r2 h2 fun d v' H3 F3 hk R3 m3 rr => z v' H3 F3 (.val d) ρ2 R3 (m1.trans (m2.trans m3)) rr hk
theorem ve_bin {op : Operator} {p : P2} (ho : ∀ X, Gd T k P N sc X → OpOk T X (binaryOp op) p) (ha : VE T k P N sc a wa) (hb : VE T k P N sc b wb) : VE T k P N sc (.BinOp a op b pos) (wBin p wa wb) := ⟨fun X J G => by
  obtain ⟨r, hr, hz⟩ := (ho X G).ex
  exact (pe_op hr (ha.of X J G) (hb.of X J G)).imp (bin_of hz)⟩
theorem ve_cmp {op : CmpOp} {p : P2} (ho : ∀ X, Gd T k P N sc X → OpOk T X (compareOp op) p) (ha : VE T k P N sc a wa) (hb : VE T k P N sc b wb) (hm : behindInMarks op b = false) : VE T k P N sc (.Compare a [op] [b] pos) (wBin p wa wb) := ⟨fun X J G => by
  obtain ⟨r, hr, hz⟩ := (ho X G).ex
  exact (pe_cmpR hr (ha.of X J G) (hb.of X J G) hm).imp (bin_of hz)⟩
def wTB (w : WE) : WT := fun ρ Q => w ρ fun o ρ' => pRd ρ' o fun d => match d with
  | .bl b => Q b ρ'
  | _ => False
theorem tb_of {w : WE} {J : En} : ∀ σ H (Q : Bool → Hp → Prop), tT T J (wTB w) σ H Q → tTest (tE T J w) σ H Q := by
  rintro σ H Q ⟨ρ, F, Q', R, q, z⟩
  refine ⟨ρ, F, _, R, q, fun v H1 F1 o1 ρ1 R1 m1 ho1 q1 => ?_⟩
  obtain ⟨d, h1, r1⟩ := rd_ok R1 ho1 q1
  cases d with
  | bl b => exact ⟨b, r1.bl, z b H1 F1 ρ1 R1 m1 h1⟩
  | _ => exact h1.elim
theorem vt_cmp {op : CmpOp} {p : P2} (ho : ∀ X, Gd T k P N sc X → OpOk T X (compareOp op) p) (ha : VE T k P N sc a wa) (hb : VE T k P N sc b wb) (hm : behindInMarks op b = false) : VT T k P N sc (.Compare a [op] [b] pos) (wTB (wBin p wa wb)) := ⟨fun X J G => by
  obtain ⟨r, hr, hz⟩ := (ho X G).ex
  exact (pt_cmpR hr (ha.of X J G) (hb.of X J G) hm).imp fun σ H Q q => bin_of hz σ H _ (tb_of (T := T) (J := J) σ H Q q)⟩
theorem vt_val (ha : VE T k P N sc a wa) (he : ∀ env whole, isTrue a env whole = (do let v ← whole; standAt a.pos; holding [v] (truthy v)) := by intro _ _; rfl) : VT T k P N sc a (wTB wa) := ⟨fun X J G =>
  (pt_truth (ha.of X J G) (fun w => he X.env w)).imp fun σ H Q q => by
    obtain ⟨ρ, F, Q', R, q, z⟩ := tb_of (T := T) (J := J) σ H Q q
    exact ⟨ρ, F, Q', R, q, fun v H' F' o ρ' R' m ho q' => by
      obtain ⟨b, e, h⟩ := z v H' F' o ρ' R' m ho q'
      subst e
      exact ⟨b, rfl, h⟩⟩⟩
def pTru : D → (Bool → Prop) → Prop
  | .non, κ => κ false
  | .bl b, κ => κ b
  | .int i, κ => κ (i != 0)
  | .str x, κ => x.length ≤ sizeLine ∧ κ ((x.length : Int) != 0)
  | .lst xs, κ => κ (!xs.isEmpty)
  | .tup xs, κ => κ (!xs.isEmpty)
  | .dic xs, κ => κ (!xs.isEmpty)
  | _, _ => False
def wTru (w : WE) : WT := fun ρ Q => w ρ fun o ρ' => pRd ρ' o fun d => pTru d fun b => Q b ρ'
theorem isEmpty_len {α β : Type} {xs : List α} {ys : List β} (h : xs.length = ys.length) : (!xs.isEmpty) = !ys.isEmpty := by
  cases xs <;> cases ys <;> simp_all
theorem tru_ok' {J : En} {ρ : Env'} {σ : St} {H F : Hp} {X : Cx} (R : Rel T J ρ σ H F) {v : V} {d : D} (r : RdV T.mg H F v d) {κ : Bool → Prop} (h : pTru d κ) : ∃ b, TruV X.K v H b ∧ κ b := by
  cases d with
  | non => cases r.non; exact ⟨false, rfl, h⟩
  | bl b => cases r.bl; exact ⟨b, rfl, h⟩
  | int i => cases r.int; exact ⟨_, rfl, h⟩
  | str x => cases r.str; exact ⟨_, ⟨h.1, rfl⟩, h.2⟩
  | lst ds => obtain ⟨p, vs, rfl, hp, rs⟩ := r.lst R.sub; exact ⟨_, .inl ⟨vs, .inl hp, (isEmpty_len rs.length).symm⟩, h⟩
  | tup ds => obtain ⟨p, vs, rfl, hp, rs⟩ := r.tup R.sub; exact ⟨_, .inr (.inl ⟨vs, .inl (.inl hp), (isEmpty_len rs.length).symm⟩), h⟩
  | dic ds => obtain ⟨p, vs, rfl, hp, rs⟩ := r.dic R.sub; exact ⟨_, .inr (.inr ⟨vs, hp, (isEmpty_len rs.length).symm⟩), h⟩
  | fn x => exact h.elim
  | exc x => exact h.elim
theorem vt_tru (ha : VE T k P N sc a wa) (he : ∀ env whole, isTrue a env whole = (do let v ← whole; standAt a.pos; holding [v] (truthy v)) := by intro _ _; rfl) : VT T k P N sc a (wTru wa) := ⟨fun X J G =>
  (pt_truth (ha.of X J G) (fun w => he X.env w)).imp fun σ H Q => by
    rintro ⟨ρ, F, Q', R, q, z⟩
    refine ⟨ρ, F, _, R, q, fun v H1 F1 o1 ρ1 R1 m1 ho1 q1 => ?_⟩
    obtain ⟨d, h1, r1⟩ := rd_ok R1 ho1 q1
    obtain ⟨b, hb, hk⟩ := tru_ok' (X := X) R1 r1 h1
    exact ⟨b, hb, z b H1 F1 ρ1 R1 m1 hk⟩⟩
def wOr (t u : WT) : WT := fun ρ Q => t ρ fun b ρ' => match b with | true => Q true ρ' | false => u ρ' Q
def wNot (t : WT) : WT := fun ρ Q => t ρ fun b ρ' => Q (!b) ρ'
structure VW (T : Tb) (k : Nat) (P : Pt) (N : List Str) (sc : Scope) (e : Expr) (w : WT) : Prop where
  mk :: (of : ∀ X J, Gd T k P N sc X → PW X e (tT T J w))
theorem PW.imp {X : Cx} {e : Expr} {t t' : TT} (h : PW X e t) (k : ∀ σ H Q, t' σ H Q → t σ H Q) : PW X e t' := fun wh pins s σ H Q I q => h wh pins s σ H Q I (k σ H Q q)
variable {tA' tB' : WT} {rest : List Expr}
theorem VW.t (h : VW T k P N sc a tA') : VT T k P N sc a tA' := ⟨fun X J G => (h.of X J G).pt⟩
theorem vw_or1 (ha : VT T k P N sc a tA') : VW T k P N sc (.BoolOp .Or [a] pos) tA' := ⟨fun X J G => pw_or1 (ha.of X J G)⟩
theorem vw_or (ha : VT T k P N sc a tA') (hb : VW T k P N sc (.BoolOp .Or (b :: rest) pos) tB') : VW T k P N sc (.BoolOp .Or (a :: b :: rest) pos) (wOr tA' tB') := ⟨fun X J G => (pw_or (ha.of X J G) (hb.of X J G)).imp fun σ H Q => by
  rintro ⟨ρ, F, Q', R, q, z⟩
  refine ⟨ρ, F, _, R, q, fun c H1 F1 ρ1 R1 m1 q1 => ?_⟩
  cases c with
  | true => exact iteT (z true H1 F1 ρ1 R1 m1 q1)
  | false => exact iteF ⟨ρ1, F1, _, R1, q1, fun b H2 F2 ρ2 R2 m2 q2 => z b H2 F2 ρ2 R2 (m1.trans m2) q2⟩⟩
theorem vt_not (ha : VT T k P N sc a tA') : VT T k P N sc (.UnaryOp .Not a pos) (wNot tA') := ⟨fun X J G => (pt_not (ha.of X J G)).imp fun σ H Q => by
  rintro ⟨ρ, F, Q', R, q, z⟩
  exact ⟨ρ, F, _, R, q, fun c H1 F1 ρ1 R1 m1 q1 => z _ H1 F1 ρ1 R1 m1 q1⟩⟩
def wAndV (wa wb : WE) : WE := fun ρ Q => wa ρ fun o ρ' => pRd ρ' o fun d => match d with
  | .bl true => wb ρ' Q
  | .bl false => Q (.val (.bl false)) ρ'
  | _ => False
def wOrV (wa wb : WE) : WE := fun ρ Q => wa ρ fun o ρ' => pRd ρ' o fun d => match d with
  | .bl false => wb ρ' Q
  | .bl true => Q (.val (.bl true)) ρ'
  | _ => False
def wNotV (wa : WE) : WE := fun ρ Q => wa ρ fun o ρ' => pRd ρ' o fun d => match d with
  | .bl b => Q (.val (.bl (!b))) ρ'
  | _ => False
theorem ve_one {op : BoolOp} (ha : VE T k P N sc a wa) : VE T k P N sc (.BoolOp op [a] pos) wa := ⟨fun X J G => pe_one (ha.of X J G)⟩
theorem ve_and (ha : VE T k P N sc a wa) (hb : VE T k P N sc (.BoolOp .And (b :: rest) pos) wb) : VE T k P N sc (.BoolOp .And (a :: b :: rest) pos) (wAndV wa wb) := ⟨fun X J G => (pe_and (ha.of X J G) (hb.of X J G)).imp fun σ H Q => by
  rintro ⟨ρ, F, Q', R, q, z⟩
  refine ⟨ρ, F, _, R, q, fun v H1 F1 o1 ρ1 R1 m1 ho1 q1 => ?_⟩
  obtain ⟨d, h1, r1⟩ := rd_ok R1 ho1 q1
  split at h1
  · exact ⟨true, r1.bl, iteT ⟨ρ1, F1, _, R1, h1, fun v H2 F2 o2 ρ2 R2 m2 ho2 q2 => z v H2 F2 o2 ρ2 R2 (m1.trans m2) ho2 q2⟩⟩
  · exact ⟨false, r1.bl, iteF (z _ H1 F1 (.val (.bl false)) ρ1 R1 m1 (.bl false) h1)⟩
  · exact h1.elim⟩
theorem ve_or (ha : VE T k P N sc a wa) (hb : VE T k P N sc (.BoolOp .Or (b :: rest) pos) wb) : VE T k P N sc (.BoolOp .Or (a :: b :: rest) pos) (wOrV wa wb) := ⟨fun X J G => (pe_or (ha.of X J G) (hb.of X J G)).imp fun σ H Q => by
  rintro ⟨ρ, F, Q', R, q, z⟩
  refine ⟨ρ, F, _, R, q, fun v H1 F1 o1 ρ1 R1 m1 ho1 q1 => ?_⟩
  obtain ⟨d, h1, r1⟩ := rd_ok R1 ho1 q1
  split at h1
  · exact ⟨false, r1.bl, iteF ⟨ρ1, F1, _, R1, h1, fun v H2 F2 o2 ρ2 R2 m2 ho2 q2 => z v H2 F2 o2 ρ2 R2 (m1.trans m2) ho2 q2⟩⟩
  · exact ⟨true, r1.bl, iteT (z _ H1 F1 (.val (.bl true)) ρ1 R1 m1 (.bl true) h1)⟩
  · exact h1.elim⟩
theorem ve_not (ha : VE T k P N sc a wa) : VE T k P N sc (.UnaryOp .Not a pos) (wNotV wa) := ⟨fun X J G => (pe_not (ha.of X J G)).imp fun σ H Q => by
  rintro ⟨ρ, F, Q', R, q, z⟩
  refine ⟨ρ, F, _, R, q, fun v H1 F1 o1 ρ1 R1 m1 ho1 q1 => ?_⟩
  obtain ⟨d, h1, r1⟩ := rd_ok R1 ho1 q1
  cases d with
  | bl b => exact ⟨b, r1.bl, z _ H1 F1 (.val (.bl (!b))) ρ1 R1 m1 (.bl (!b)) h1⟩
  | _ => exact h1.elim⟩
def wIfE (t : WT) (wa wb : WE) : WE := fun ρ Q => t ρ fun b ρ' => match b with | true => wa ρ' Q | false => wb ρ' Q
theorem ve_ifExp (ht : VT T k P N sc c tA') (ha : VE T k P N sc a wa) (hb : VE T k P N sc b wb) : VE T k P N sc (.IfExp c a b pos) (wIfE tA' wa wb) := ⟨fun X J G => (pe_ifExp (ht.of X J G) (ha.of X J G) (hb.of X J G)).imp fun σ H Q => by
  rintro ⟨ρ, F, Q', R, q, z⟩
  refine ⟨ρ, F, _, R, q, fun b H1 F1 ρ1 R1 m1 q1 => ?_⟩
  cases b with
  | true => exact iteT ⟨ρ1, F1, _, R1, q1, fun v H2 F2 o2 ρ2 R2 m2 ho2 q2 => z v H2 F2 o2 ρ2 R2 (m1.trans m2) ho2 q2⟩
  | false => exact iteF ⟨ρ1, F1, _, R1, q1, fun v H2 F2 o2 ρ2 R2 m2 ho2 q2 => z v H2 F2 o2 ρ2 R2 (m1.trans m2) ho2 q2⟩⟩
end
section
variable {T : Tb} {k : Nat} {P : Pt} {N : List Str} {sc : Scope} {a b c : Expr} {wa wb wc : WE} {pos : Pos} {es : List Expr}
def tAn (T : Tb) (J : En) (n : Nat) (w : WA) : TA := fun σ H Qv => ∃ ρ F Q, Rel T J ρ σ H F ∧ w ρ Q ∧ ∀ vs H' F' os ρ', vs.length = n → Rel T J ρ' σ H' F' → HLe F F' → OpdsOk T.mg σ F' vs os → Q os ρ' → Qv vs H'
structure VAn (T : Tb) (k : Nat) (P : Pt) (N : List Str) (sc : Scope) (n : Nat) (es : List Expr) (w : WA) : Prop where
  mk :: (of : ∀ X J, Gd T k P N sc X → PA X es (tAn T J n w))
def wNil : WA := fun ρ Q => Q [] ρ
def wCons (wa : WE) (wr : WA) : WA := fun ρ Q => wa ρ fun o ρ1 => wr ρ1 fun os ρ2 => Q (o :: os) ρ2
theorem va_nil : VAn T k P N sc 0 [] wNil := ⟨fun X J G => pa_nil.imp fun σ H Q => by
  rintro ⟨ρ, F, Q', R, q, z⟩
  exact z [] H F [] ρ rfl R (HLe.refl F) .nil q⟩
theorem va_cons {n : Nat} {wr : WA} (ha : VE T k P N sc a wa) (hr : VAn T k P N sc n es wr) (hs : ∀ env, starEach (a :: es) env = (false, eval a env) :: starEach es env := by intro _; rfl) : VAn T k P N sc (n + 1) (a :: es) (wCons wa wr) := ⟨fun X J G => (pa_cons (ha.of X J G) (hr.of X J G) (hs X.env)).imp fun σ H Q => by
  rintro ⟨ρ, F, Q', R, q, z⟩
  refine ⟨ρ, F, _, R, q, fun v H1 F1 o1 ρ1 R1 m1 ho1 q1 => ⟨ρ1, F1, _, R1, q1, fun vs H2 F2 os ρ2 hl R2 m2 hos q2 => ?_⟩⟩
  exact z (v :: vs) H2 F2 (o1 :: os) ρ2 (congrArg (· + 1) hl) R2 (m1.trans m2) (.cons (ho1.mono m2) hos) q2⟩
def wLst (w : WA) : WF := fun ρ Q => w ρ fun os ρ1 => pUses ρ1 os fun ds ρ2 => Q (.lst ds) ρ2
def wTup (w : WA) : WE := fun ρ Q => w ρ fun os ρ1 => pUses ρ1 os fun ds ρ2 => Q (.val (.tup ds)) ρ2
theorem small_line {n : Nat} (h : n ≤ 1000) : n ≤ sizeLine := Nat.le_of_lt (small1000 h)
theorem vf_lst {n : Nat} {w : WA} (h : VAn T k P N sc n es w) (hn : n ≤ 1000 := by decide) : VF T k P N sc (.List es pos) (wLst w) := ⟨fun X J G => (pe_lst (h.of X J G)).imp fun σ H Q => by
  rintro ⟨ρ, F, Q', R, q, z⟩
  refine ⟨ρ, F, _, R, q, fun vs H1 F1 os ρ1 hl R1 m1 hos q1 => ?_⟩
  obtain ⟨ds, ρ2, F2, h2, R2, m2, rs⟩ := uses_ok R1 hos q1
  refine ⟨by rw [hl]; exact small_line hn, fun p hp => ?_⟩
  exact z p _ F2 (.lst ds) ρ2 (R2.allocO hp) (m1.trans m2) (Fresh.new R2 hp ⟨vs, upd_same, rs⟩) h2⟩
theorem ve_tup {n x1 : _} {w : WA} (h : VAn T k P N sc n es w) (hn : n ≤ 1000 := by decide) : VE T k P N sc (.Tuple es x1 pos) (wTup w) := ⟨fun X J G => (pe_tup (h.of X J G)).imp fun σ H Q => by
  rintro ⟨ρ, F, Q', R, q, z⟩
  refine ⟨ρ, F, _, R, q, fun vs H1 F1 os ρ1 hl R1 m1 hos q1 => ?_⟩
  obtain ⟨ds, ρ2, F2, h2, R2, m2, rs⟩ := uses_ok R1 hos q1
  refine ⟨by rw [hl]; exact small_line hn, fun p hp => ?_⟩
  have hF := R2.fp hp
  exact z _ _ _ (.val (.tup ds)) ρ2 (R2.alloc hp fun _ z => nomatch z) (m1.trans (m2.trans (HLe.upd hF))) (.tup upd_same (rs.mono (HLe.upd hF))) h2⟩
def pI (C : Int → Int → Prop) (g : Int → Int → D) : P2 := fun d1 d2 κ => match d1, d2 with
  | .int i, .int j => C i j ∧ κ (g i j)
  | _, _ => False
def pI0 (g : Int → Int → D) : P2 := fun d1 d2 κ => match d1, d2 with
  | .int i, .int j => κ (g i j)
  | _, _ => False
theorem opok_I {X : Cx} {f : Value → Value → Sem Value} {C : Int → Int → Prop} {g : Int → Int → V} {gd : Int → Int → D} (h : OpR X f (rI C g)) (hr : ∀ F i j, Rep T.mg F (g i j) (gd i j)) : OpOk T X f (pI C gd) := ⟨⟨_, h, fun J ρ σ H F x y d1 d2 κ Q R r1 r2 hp z => by
  unfold pI at hp
  split at hp
  · exact ⟨_, _, r1.int, r2.int, hp.1, z _ _ H F hp.2 R (HLe.refl F) (hr F _ _)⟩
  · exact hp.elim⟩⟩
theorem opok_I0 {X : Cx} {f : Value → Value → Sem Value} {g : Int → Int → V} {gd : Int → Int → D} (h : OpR X f (rI0 g)) (hr : ∀ F i j, Rep T.mg F (g i j) (gd i j)) : OpOk T X f (pI0 gd) := ⟨⟨_, h, fun J ρ σ H F x y d1 d2 κ Q R r1 r2 hp z => by
  unfold pI0 at hp
  split at hp
  · exact ⟨_, _, r1.int, r2.int, z _ _ H F hp R (HLe.refl F) (hr F _ _)⟩
  · exact hp.elim⟩⟩
def pFdiv : P2 := pI CDiv fun i j => .int (i / j)
def pMod : P2 := pI (fun _ j => 0 < j) fun i j => .int (i % j)
def pPow : P2 := pI CPow fun i j => .int (i ^ j.toNat)
def pLe : P2 := pI0 fun i j => .bl (decide (i ≤ j))
def pGt : P2 := pI0 fun i j => .bl (decide (j < i))
def pGe : P2 := pI0 fun i j => .bl (decide (j ≤ i))
theorem o_fdiv {X : Cx} : OpOk T X (binaryOp .FloorDiv) pFdiv := opok_I op_fdiv fun _ _ _ => .int _
theorem o_mod {X : Cx} : OpOk T X (binaryOp .Mod) pMod := opok_I op_mod fun _ _ _ => .int _
theorem o_pow {X : Cx} : OpOk T X (binaryOp .Pow) pPow := opok_I op_pow fun _ _ _ => .int _
theorem o_le {X : Cx} : OpOk T X (compareOp .LtE) pLe := opok_I0 op_le fun _ _ _ => .bl _
theorem o_gt {X : Cx} : OpOk T X (compareOp .Gt) pGt := opok_I0 op_gt fun _ _ _ => .bl _
theorem o_ge {X : Cx} : OpOk T X (compareOp .GtE) pGe := opok_I0 op_ge fun _ _ _ => .bl _
theorem Rd.lstM {X : Cx} {pins : List (Addr × Obj)} {σ : St} {H : Hp} {s : Shared} {l : Addr} {xs : List V} (h : Rd H l (.lst xs)) (I : Inv X pins σ H s) : xs.length ≤ sizeLine ∧ ∃ (its : List Value) (n : Nat), Vals xs its ∧ xs.length = its.length ∧ s.heap.get? l = some { cls := .type "list", data := .seq its.toArray n } := by
  obtain ⟨z, its, n, r, e⟩ := h.ok I.hok
  exact ⟨z, its, n, r, r.length, e⟩
theorem op_cat' {X : Cx} : OpR X (binaryOp .Add) (fun x y H Q => ∃ l b xs zs, x = .ref l ∧ y = .ref b ∧ Rd H l (.lst xs) ∧ Rd H b (.lst zs) ∧ xs.length + zs.length ≤ sizeLine ∧ ∀ p, H p = none → Q (.ref p) (upd H p (.lst (xs ++ zs)))) := by
  intro pins s σ H x y v u Q I rx ry h
  obtain ⟨l, b, xs, zs, rfl, rfl, hH, hB, hz, q⟩ := h
  cases rx
  cases ry
  obtain ⟨z, its, n, r, hl, e⟩ := hH.lstM I
  obtain ⟨z2, its2, n2, r2, hl2, e2⟩ := hB.lstM I
  refine PySem.P.add_list e e2 ?_ (by rw [List.size_toArray, List.size_toArray]; omega)
  have ea : its.toArray ++ its2.toArray = (its ++ its2).toArray := by simp
  rw [ea]
  exact ⟨.ref _, _, I.lnew (t' := s.toks) (r.append r2) (by rw [List.length_append]; omega), rfl, q _ I.fresh⟩
def pAdd : P2 := fun d1 d2 κ => match d1, d2 with
  | .int i, .int j => κ (.int (i + j))
  | .lst xs, .lst ys => xs.length + ys.length ≤ sizeLine ∧ κ (.lst (xs ++ ys))
  | .str x, .str y => x.length + y.length ≤ sizeLine ∧ κ (.str (x ++ y))
  | _, _ => False
theorem lst_new {J : En} {ρ : Env'} {σ : St} {H F : Hp} (R : Rel T J ρ σ H F) {vs : List V} {ds : List D} (r : Reps T.mg F vs ds) {κ : D → Prop} {Q : VK} (hk : κ (.lst ds)) (z : ∀ d v H' F', κ d → Rel T J ρ σ H' F' → HLe F F' → Rep T.mg F' v d → Q v H') {p : Addr} (hp : H p = none) : Q (.ref p) (upd H p (.lst vs)) :=
  z _ _ _ _ hk (R.alloc hp fun _ z => nomatch z) (HLe.upd (R.fp hp)) (.lst (.inl upd_same) (r.mono (HLe.upd (R.fp hp))))
theorem o_add {X : Cx} : OpOk T X (binaryOp .Add) pAdd := ⟨⟨_, (op_add.or op_cat').or op_add_str, fun J ρ σ H F x y d1 d2 κ Q R r1 r2 hp z => by
  unfold pAdd at hp
  split at hp
  · exact .inl (.inl ⟨_, _, r1.int, r2.int, z _ _ H F hp R (HLe.refl F) (.int _)⟩)
  · obtain ⟨l, vs, rfl, h1, q1⟩ := r1.lst R.sub
    obtain ⟨m, ws, rfl, h2, q2⟩ := r2.lst R.sub
    exact .inl (.inr ⟨l, m, vs, ws, rfl, rfl, h1, h2, by rw [q1.length, q2.length]; exact hp.1, fun p hp' => lst_new R (q1.append q2) hp.2 z hp'⟩)
  · exact .inr ⟨_, _, r1.str, r2.str, hp.1, z _ _ H F hp.2 R (HLe.refl F) (.str _)⟩
  · exact hp.elim⟩⟩
theorem Reps.flat {mg : Str → Option Value} {F : Hp} {vs : List V} {ds : List D} (r : Reps mg F vs ds) : ∀ n, Reps mg F (List.replicate n vs).flatten (List.replicate n ds).flatten
  | 0 => .nil
  | n + 1 => by rw [List.replicate_succ, List.replicate_succ, List.flatten_cons, List.flatten_cons]; exact r.append (r.flat n)
theorem o_mul {X : Cx} : OpOk T X (binaryOp .Mult) (pI CMul fun i j => .int (i * j)) := opok_I op_mul fun _ _ _ => .int _
def isNon : D → Bool
  | .non => true
  | _ => false
def pIsN : P2 := fun d1 d2 κ => match d2 with
  | .non => κ (.bl (isNon d1))
  | _ => False
theorem isN_eq {mg : Str → Option Value} {H F : Hp} {x : V} {d : D} (r : RdV mg H F x d) : decide (x = .non) = isNon d := by
  rcases r with r | ⟨a, rfl, h⟩
  · cases r <;> simp [isNon]
  · cases d <;> first | exact h.elim | simp [isNon]
theorem o_isN {X : Cx} : OpOk T X (compareOp .Is) pIsN := ⟨⟨_, op_isN, fun J ρ σ H F x y d1 d2 κ Q R r1 r2 hp z => by
  unfold pIsN at hp
  split at hp
  · refine ⟨r2.non, z _ _ H F hp R (HLe.refl F) ?_⟩
    rw [isN_eq r1]; exact .bl _
  · exact hp.elim⟩⟩
structure CallOk (T : Tb) (X : Cx) (f : Value) (p : P1) : Prop where
  ex : ∃ r, CallR X f r ∧ ∀ J ρ σ H F vs ds (κ : D → Prop) Q, Rel T J ρ σ H F → Paired (RdV T.mg H F) vs ds → p ds κ →
    (∀ d v H' F', κ d → Rel T J ρ σ H' F' → HLe F F' → Rep T.mg F' v d → Q v H') → r vs H Q
structure CallFk (T : Tb) (X : Cx) (f : Value) (p : P1) : Prop where
  ex : ∃ r, CallR X f r ∧ ∀ J ρ σ H F vs ds (κ : D → Prop) Q, Rel T J ρ σ H F → Paired (RdV T.mg H F) vs ds → p ds κ →
    (∀ d p o, κ d → H p = none → OwnAt T.mg (upd H p o) F p d → Q (.ref p) (upd H p o)) → r vs H Q
def wCB (p : P1) (w : WA) : WE := fun ρ Q => w ρ fun os ρ1 => pRds ρ1 os fun ds => p ds fun d => Q (.val d) ρ1
def wCF (p : P1) (w : WA) : WF := fun ρ Q => w ρ fun os ρ1 => pRds ρ1 os fun ds => p ds fun d => Q d ρ1
theorem cb_of {n : Nat} {p : P1} {w : WA} {J : En} {r : List V → Hp → VK → Prop} (hz : ∀ J ρ σ H F vs ds (κ : D → Prop) Q, Rel T J ρ σ H F → Paired (RdV T.mg H F) vs ds → p ds κ → (∀ d v H' F', κ d → Rel T J ρ σ H' F' → HLe F F' → Rep T.mg F' v d → Q v H') → r vs H Q) :
    ∀ σ H Q, tE T J (wCB p w) σ H Q → tCB r (tAn T J n w) σ H Q := by
  rintro σ H Q ⟨ρ, F, Q', R, q, z⟩
  refine ⟨ρ, F, _, R, q, fun vs H1 F1 os ρ1 hl R1 m1 hos q1 => ?_⟩
  obtain ⟨ds, h1, rs⟩ := rds_ok R1 hos q1
  exact hz J ρ1 σ H1 F1 vs ds _ Q R1 rs h1 fun d v H2 F2 hk R2 m2 rr => z v H2 F2 (.val d) ρ1 R2 (m1.trans m2) rr hk
theorem cf_of {n : Nat} {p : P1} {w : WA} {J : En} {r : List V → Hp → VK → Prop} (hz : ∀ J ρ σ H F vs ds (κ : D → Prop) Q, Rel T J ρ σ H F → Paired (RdV T.mg H F) vs ds → p ds κ → (∀ d p o, κ d → H p = none → OwnAt T.mg (upd H p o) F p d → Q (.ref p) (upd H p o)) → r vs H Q) :
    ∀ σ H Q, tF T J (wCF p w) σ H Q → tCB r (tAn T J n w) σ H Q := by
  rintro σ H Q ⟨ρ, F, Q', R, q, z⟩
  refine ⟨ρ, F, _, R, q, fun vs H1 F1 os ρ1 hl R1 m1 hos q1 => ?_⟩
  obtain ⟨ds, h1, rs⟩ := rds_ok R1 hos q1
  exact hz J ρ1 σ H1 F1 vs ds _ Q R1 rs h1 fun d p o hk hp ow => z p _ F1 d ρ1 (R1.allocO hp) m1 (Fresh.new R1 hp ow) hk
variable {x : Str} {p' : Pos} {id tn : String} {w : WA} {pr : P1} {n : Nat}
theorem ve_callB (hc : ∀ X, Gd T k P N sc X → CallOk T X (.builtin id) pr) (hm : T.mg x = none) (hv : bootBuiltins x = some (.builtin id)) (ha : VAn T k P N sc n (a :: es) w) (hg : sc.names.lookup x = some .globalImplicit := by rfl) (hn : x ≠ "__name__" := by decide) (hdb : (x == ("__debug__" : Str)) = false := by decide)
    (he : ∀ env, starEach (a :: es) env = (false, eval a env) :: starEach es env := by intro _; rfl) (hpl : ∀ env, (backTo pos (starEach es env)).any (·.1) = false := by intro _; rfl) : VE T k P N sc (.Call (.Name x p') (a :: es) [] pos) (wCB pr w) := ⟨fun X J G => by
  obtain ⟨r, hr, hz⟩ := (hc X G).ex
  exact (pe_callB hr (G.gl hg) (by rw [G.mg]; exact hm) hv (ha.of X J G) hn hdb (he X.env) (hpl X.env)).imp (cb_of hz)⟩
theorem ve_callT (hc : ∀ X, Gd T k P N sc X → CallOk T X (.type tn) pr) (hm : T.mg x = none) (hv : bootBuiltins x = some (.type tn)) (ha : VAn T k P N sc n (a :: es) w) (hg : sc.names.lookup x = some .globalImplicit := by rfl) (hn : x ≠ "__name__" := by decide) (hdb : (x == ("__debug__" : Str)) = false := by decide)
    (he : ∀ env, starEach (a :: es) env = (false, eval a env) :: starEach es env := by intro _; rfl) (hpl : ∀ env, (backTo pos (starEach es env)).any (·.1) = false := by intro _; rfl) : VE T k P N sc (.Call (.Name x p') (a :: es) [] pos) (wCB pr w) := ⟨fun X J G => by
  obtain ⟨r, hr, hz⟩ := (hc X G).ex
  exact (pe_callTy hr (G.gl hg) (by rw [G.mg]; exact hm) hv (ha.of X J G) hn hdb (he X.env) (hpl X.env)).imp (cb_of hz)⟩
theorem vf_callT (hc : ∀ X, Gd T k P N sc X → CallFk T X (.type tn) pr) (hm : T.mg x = none) (hv : bootBuiltins x = some (.type tn)) (ha : VAn T k P N sc n (a :: es) w) (hg : sc.names.lookup x = some .globalImplicit := by rfl) (hn : x ≠ "__name__" := by decide) (hdb : (x == ("__debug__" : Str)) = false := by decide)
    (he : ∀ env, starEach (a :: es) env = (false, eval a env) :: starEach es env := by intro _; rfl) (hpl : ∀ env, (backTo pos (starEach es env)).any (·.1) = false := by intro _; rfl) : VF T k P N sc (.Call (.Name x p') (a :: es) [] pos) (wCF pr w) := ⟨fun X J G => by
  obtain ⟨r, hr, hz⟩ := (hc X G).ex
  exact (pe_callTy hr (G.gl hg) (by rw [G.mg]; exact hm) hv (ha.of X J G) hn hdb (he X.env) (hpl X.env)).imp (cf_of hz)⟩
theorem paired1 {R : V → D → Prop} {vs : List V} {d : D} (h : Paired R vs [d]) : ∃ v, vs = [v] ∧ R v d := by
  cases h with
  | cons h r => cases r; exact ⟨_, rfl, h⟩
def pLen : P1 := fun ds κ => match ds with
  | [.lst xs] => κ (.int xs.length)
  | [.tup xs] => κ (.int xs.length)
  | [.str x] => x.length ≤ sizeLine ∧ κ (.int x.length)
  | _ => False
theorem c_len {X : Cx} : CallOk T X (.builtin "len") pLen := ⟨⟨_, call_len, fun J ρ σ H F vs ds κ Q R rs hp z => by
  unfold pLen at hp
  split at hp
  · obtain ⟨v, rfl, r⟩ := paired1 rs
    obtain ⟨l, ws, rfl, h1, q1⟩ := r.lst R.sub
    exact ⟨_, ws.length, rfl, .inl ⟨ws, .inl h1, rfl⟩, z _ _ H F hp R (HLe.refl F) (by rw [q1.length]; exact .int _)⟩
  · obtain ⟨v, rfl, r⟩ := paired1 rs
    obtain ⟨l, ws, rfl, h1, q1⟩ := r.tup R.sub
    exact ⟨_, ws.length, rfl, .inr ⟨ws, .inl (.inl h1), rfl⟩, z _ _ H F hp R (HLe.refl F) (by rw [q1.length]; exact .int _)⟩
  · obtain ⟨v, rfl, r⟩ := paired1 rs
    cases r.str
    exact ⟨_, _, rfl, ⟨hp.1, rfl⟩, z _ _ H F hp.2 R (HLe.refl F) (.int _)⟩
  · exact hp.elim⟩⟩
def pList : P1 := fun ds κ => match ds with
  | [.lst xs] => κ (.lst xs)
  | [.tup xs] => κ (.lst xs)
  | _ => False
theorem c_list {X : Cx} : CallFk T X (.type "list") pList := ⟨⟨_, call_list_of, fun J ρ σ H F vs ds κ Q R rs hp z => by
  unfold pList at hp
  split at hp
  · obtain ⟨v, rfl, r⟩ := paired1 rs
    obtain ⟨l, ws, rfl, h1, q1⟩ := r.lst R.sub
    exact ⟨l, ws, rfl, .inl (.inl h1), fun p hp' => z _ p _ hp hp' ⟨ws, upd_same, q1⟩⟩
  · obtain ⟨v, rfl, r⟩ := paired1 rs
    obtain ⟨l, ws, rfl, h1, q1⟩ := r.tup R.sub
    exact ⟨l, ws, rfl, .inr (.inl (.inl h1)), fun p hp' => z _ p _ hp hp' ⟨ws, upd_same, q1⟩⟩
  · exact hp.elim⟩⟩
def pTuple : P1 := fun ds κ => match ds with
  | [.lst xs] => κ (.tup xs)
  | [.tup xs] => κ (.tup xs)
  | _ => False
theorem c_tuple {X : Cx} : CallOk T X (.type "tuple") pTuple := ⟨⟨_, call_tuple_of, fun J ρ σ H F vs ds κ Q R rs hp z => by
  unfold pTuple at hp
  split at hp
  · obtain ⟨v, rfl, r⟩ := paired1 rs
    obtain ⟨l, ws, rfl, h1, q1⟩ := r.lst R.sub
    exact ⟨l, ws, rfl, .inl ⟨.inl h1, fun p hp' => z _ _ _ _ hp (R.alloc hp' fun _ z => nomatch z) (HLe.upd (R.fp hp')) (.tup upd_same (q1.mono (HLe.upd (R.fp hp'))))⟩⟩
  · obtain ⟨v, rfl, r⟩ := paired1 rs
    rcases r with r | ⟨a, _, r⟩
    · cases r with
      | tup h q => exact ⟨_, _, rfl, .inr ⟨.inl (.inl (R.sub _ _ h)), z _ _ H F hp R (HLe.refl F) (.tup h q)⟩⟩
    · exact r.elim
  · exact hp.elim⟩⟩
end
end L2
namespace HT
open PySem PyProof.Rows
section
variable {prog : Program} {w : World} {A : Around} {E : Value → Shared → Prop} {s : Shared}
end
end HT
namespace L2
open PySem PySem.Spec PyProof.Rows
section
variable {T : Tb} {k : Nat} {P : Pt} {N : List Str} {sc : Scope} {a b c : Expr} {wa wb wc : WE} {pos : Pos} {es : List Expr}
theorem Reps.atI {mg : Str → Option Value} {F : Hp} {vs : List V} {ds : List D} (r : Reps mg F vs ds) {i : Int} {d : D} (h : L2.atI ds i = some d) : ∃ v, L2.atI vs i = some v ∧ Rep mg F v d := by
  unfold L2.atI at h ⊢
  rw [r.length]
  cases q : ixN ds.length i with
  | none => rw [q] at h; cases h
  | some j =>
    rw [q] at h
    exact r.getD h
def pIx : P2 := fun d1 d2 κ => match d1, d2 with
  | .lst ds, .int i => ∃ d, atI ds i = some d ∧ κ d
  | .tup ds, .int i => ∃ d, atI ds i = some d ∧ κ d
  | _, _ => False
theorem ve_ix (ha : VE T k P N sc a wa) (hb : VE T k P N sc b wb) (hs : PlainIx b := by intro _ _; rfl) : VE T k P N sc (.Subscript a b pos) (wBin pIx wa wb) := ⟨fun X J G =>
  (pe_ix (ix_list.or ix_tup) (ha.of X J G) (hb.of X J G) hs).imp (bin_of fun J ρ σ H F x y d1 d2 κ Q R r1 r2 hp z => by
    unfold pIx at hp
    split at hp
    · obtain ⟨d, e, hk⟩ := hp
      obtain ⟨l, vs, rfl, h1, q1⟩ := r1.lst R.sub
      obtain ⟨v, ev, rv⟩ := q1.atI e
      exact .inl ⟨l, vs, _, v, rfl, r2.int, .inl h1, ev, z d v H F hk R (HLe.refl F) rv⟩
    · obtain ⟨d, e, hk⟩ := hp
      obtain ⟨l, vs, rfl, h1, q1⟩ := r1.tup R.sub
      obtain ⟨v, ev, rv⟩ := q1.atI e
      exact .inr ⟨l, vs, _, v, rfl, r2.int, .inl (.inl h1), ev, z d v H F hk R (HLe.refl F) rv⟩
    · exact hp.elim)⟩
abbrev WP := Env' → (Option Int → Env' → Prop) → Prop
def tP (T : Tb) (J : En) (w : WP) : TO := fun σ H Qv => ∃ ρ F Q, Rel T J ρ σ H F ∧ w ρ Q ∧ ∀ o H' F' ρ', Rel T J ρ' σ H' F' → HLe F F' → Q o ρ' → Qv o H'
structure VP (T : Tb) (k : Nat) (P : Pt) (N : List Str) (sc : Scope) (e : Option Expr) (w : WP) : Prop where
  mk :: (of : ∀ X J, Gd T k P N sc X → PO X e (tP T J w))
theorem PO.imp {X : Cx} {e : Option Expr} {t t' : TO} (h : PO X e t) (k : ∀ σ H Q, t' σ H Q → t σ H Q) : PO X e t' := fun pins s σ H Q I q => h pins s σ H Q I (k σ H Q q)
def wNoP : WP := fun ρ Q => Q none ρ
def wP (wa : WE) : WP := fun ρ Q => wa ρ fun o ρ1 => pRd ρ1 o fun d => match d with
  | .int i => Q (some i) ρ1
  | _ => False
theorem vp_none : VP T k P N sc none wNoP := ⟨fun X J G => po_none.imp fun σ H Q => by
  rintro ⟨ρ, F, Q', R, q, z⟩
  exact z none H F ρ R (HLe.refl F) q⟩
theorem vp_some (ha : VE T k P N sc a wa) : VP T k P N sc (some a) (wP wa) := ⟨fun X J G => (po_some (ha.of X J G)).imp fun σ H Q => by
  rintro ⟨ρ, F, Q', R, q, z⟩
  refine ⟨ρ, F, _, R, q, fun v H1 F1 o1 ρ1 R1 m1 ho1 q1 => ?_⟩
  obtain ⟨d, h1, r1⟩ := rd_ok R1 ho1 q1
  cases d with
  | int i => exact ⟨i, r1.int, z _ H1 F1 ρ1 R1 m1 h1⟩
  | _ => exact h1.elim⟩
def cutD (xs : List D) (lo hi : Option Int) : List D := (xs.drop (HT.sIx xs.length 0 lo)).take (HT.sIx xs.length xs.length hi - HT.sIx xs.length 0 lo)
theorem Reps.cut {mg : Str → Option Value} {F : Hp} {vs : List V} {ds : List D} (r : Reps mg F vs ds) (lo hi : Option Int) : Reps mg F (cutV vs lo hi) (cutD ds lo hi) := by
  unfold cutV cutD
  rw [r.length]
  exact (r.drop _).take _
def wSl (wa : WE) (wl wh : WP) : WF := fun ρ Q => wa ρ fun o ρ1 => wl ρ1 fun lo ρ2 => wh ρ2 fun hi ρ3 => pRd ρ3 o fun d => match d with
  | .lst ds => Q (.lst (cutD ds lo hi)) ρ3
  | _ => False
theorem vf_sl {lo hi : Option Expr} {wl wh : WP} {p2 : Pos} (ha : VE T k P N sc a wa) (hl : VP T k P N sc lo wl) (hh : VP T k P N sc hi wh) : VF T k P N sc (.Subscript a (.Slice lo hi none p2) pos) (wSl wa wl wh) := ⟨fun X J G =>
  (pe_slice sl_list (ha.of X J G) (hl.of X J G) (hh.of X J G)).imp fun σ H Q => by
    rintro ⟨ρ, F, Q', R, q, z⟩
    refine ⟨ρ, F, _, R, q, fun v H1 F1 o1 ρ1 R1 m1 ho1 q1 => ⟨ρ1, F1, _, R1, q1, fun l H2 F2 ρ2 R2 m2 q2 => ⟨ρ2, F2, _, R2, q2, fun u H3 F3 ρ3 R3 m3 q3 => ?_⟩⟩⟩
    obtain ⟨d, h1, r1⟩ := rd_ok R3 (ho1.mono (m2.trans m3)) q3
    cases d with
    | lst ds =>
      obtain ⟨p, vs, rfl, hp, rs⟩ := r1.lst R3.sub
      exact ⟨p, vs, rfl, .inl hp, fun p' hp' => z p' _ F3 (.lst (cutD ds l u)) ρ3 (R3.allocO hp') (m1.trans (m2.trans m3)) (Fresh.new R3 hp' ⟨_, upd_same, rs.cut l u⟩) h1⟩
    | _ => exact h1.elim⟩
def tyD : D → String
  | .non => "NoneType" | .bl _ => "bool" | .int _ => "int" | .str _ => "str" | .lst _ => "list" | .tup _ => "tuple" | .dic _ => "dict" | .fn _ => "function" | .exc _ => "?"
def isOf (tn : String) (d : D) : Bool := tyD d == tn || (tn == "int" && tyD d == "bool")
def wIsi (tn : String) (wa : WE) : WE := fun ρ Q => wa ρ fun o ρ1 => pRd ρ1 o fun d => match d with
  | .fn _ => False
  | .exc _ => False
  | d => Q (.val (.bl (isOf tn d))) ρ1
theorem tyOf_rd {J : En} {ρ : Env'} {σ : St} {H F : Hp} {K : PySem.W.Frag} (R : Rel T J ρ σ H F) {v : V} : ∀ {d : D}, RdV T.mg H F v d → (∀ x, d ≠ .fn x) → (∀ x, d ≠ .exc x) → TyOf K H v (.type (tyD d))
  | .non, r, _, _ => by cases r.non; exact .non
  | .bl b, r, _, _ => by cases r.bl; exact .bl b
  | .int i, r, _, _ => by cases r.int; exact .int i
  | .str x, r, _, _ => by cases r.str; exact .str x
  | .lst ds, r, _, _ => by
    obtain ⟨p, vs, rfl, hp, _⟩ := r.lst R.sub
    rcases hp with hp | ⟨o, hp⟩
    · exact .lst hp
    · exact .frz hp
  | .tup ds, r, _, _ => by obtain ⟨p, vs, rfl, hp, _⟩ := r.tup R.sub; exact .tup hp
  | .dic ds, r, _, _ => by obtain ⟨p, vs, rfl, hp, _⟩ := r.dic R.sub; exact .dK hp
  | .fn x, _, h, _ => absurd rfl (h x)
  | .exc x, _, _, h => absurd rfl (h x)
theorem kit_of (K : PySem.W.Frag) : ∀ tn ∈ ["int", "bool", "str", "list", "tuple", "dict"], ∀ dn ∈ ["NoneType", "bool", "int", "str", "list", "tuple", "dict"], PySem.W.kitOne K (.type dn) (.type tn) = some (dn == tn || (tn == "int" && dn == "bool")) := by
  intro tn ht dn hd
  simp only [List.mem_cons, List.mem_singleton, List.not_mem_nil, or_false] at ht hd
  rcases ht with rfl | rfl | rfl | rfl | rfl | rfl <;> rcases hd with rfl | rfl | rfl | rfl | rfl | rfl | rfl <;> rfl
theorem call_isi {X : Cx} : CallR X (.builtin "isinstance") (fun xs H Q => ∃ x tn t b, xs = [x, .ty tn] ∧ TyOf X.K H x t ∧ PySem.W.kitOne X.K t (.type tn) = some b ∧ Q (.bl b) H) := by
  intro pins s σ H xs us Q I r h
  obtain ⟨x, tn, t, b, rfl, ty, e, q⟩ := h
  obtain ⟨u, w', rfl, rx, rt⟩ := vals2 r
  obtain rfl : w' = Value.type tn := rt
  exact isinst_ok I rx ty e fun tk => ⟨.bl b, H, I.tok _, rfl, q⟩
theorem tyD_mem : ∀ {d : D}, (∀ x, d ≠ .fn x) → (∀ x, d ≠ .exc x) → tyD d ∈ ["NoneType", "bool", "int", "str", "list", "tuple", "dict"]
  | .non, _, _ => by simp [tyD]
  | .bl _, _, _ => by simp [tyD]
  | .int _, _, _ => by simp [tyD]
  | .str _, _, _ => by simp [tyD]
  | .lst _, _, _ => by simp [tyD]
  | .tup _, _, _ => by simp [tyD]
  | .dic _, _, _ => by simp [tyD]
  | .fn x, h, _ => absurd rfl (h x)
  | .exc x, _, h => absurd rfl (h x)
theorem ve_isi {tn : String} {tx : Str} {p1 p2 : Pos} (ha : VE T k P N sc a wa) (hm : T.mg "isinstance" = none) (hmt : T.mg tx = none) (hbt : bootBuiltins tx = some (.type tn)) (htn : tn ∈ ["int", "bool", "str", "list", "tuple", "dict"] := by decide)
    (hg : sc.names.lookup ("isinstance" : Str) = some .globalImplicit := by rfl) (hgt : sc.names.lookup tx = some .globalImplicit := by rfl) (hn : tx ≠ "__name__" := by decide) (hd : (tx == ("__debug__" : Str)) = false := by decide)
    (hs : ∀ env, starEach [a, .Name tx p2] env = (false, eval a env) :: starEach [.Name tx p2] env := by intro _; rfl) : VE T k P N sc (.Call (.Name "isinstance" p1) [a, .Name tx p2] [] pos) (wIsi tn wa) := ⟨fun X J G =>
  (pe_callB call_isi (G.gl hg) (by rw [G.mg]; exact hm) (by decide +kernel) (pa_cons (ha.of X J G) (pa_cons (pe_bltn (v := .ty tn) (G.gl hgt) (by rw [G.mg]; exact hmt) hbt rfl hn hd) pa_nil) (hs X.env)) (by decide) (by decide) (hs X.env) rfl).imp fun σ H Q => by
    rintro ⟨ρ, F, Q', R, q, z⟩
    refine ⟨ρ, F, _, R, q, fun v H1 F1 o1 ρ1 R1 m1 ho1 q1 => ?_⟩
    obtain ⟨d, h1, r1⟩ := rd_ok R1 ho1 q1
    have key : (∀ x, d ≠ .fn x) ∧ (∀ x, d ≠ .exc x) ∧ Q' (.val (.bl (isOf tn d))) ρ1 := by
      cases d with
      | fn x => exact h1.elim
      | exc x => exact h1.elim
      | _ => exact ⟨fun _ z => (nomatch z), fun _ z => (nomatch z), h1⟩
    obtain ⟨n1, n2, h1⟩ := key
    exact ⟨v, tn, _, _, rfl, tyOf_rd R1 r1 n1 n2, kit_of X.K tn htn _ (tyD_mem n1 n2), z _ H1 F1 (.val (.bl (isOf tn d))) ρ1 R1 m1 (.bl _) h1⟩⟩
end
def kPy : Key → PyData
  | .inl i => .int i
  | .inr x => .str x
mutual
def toPy : D → PyData
  | .non => .none
  | .bl b => .bool b
  | .int i => .int i
  | .str x => .str x
  | .lst xs => .list (toPys xs)
  | .tup xs => .tuple (toPys xs)
  | .dic kvs => .dict (toPyK kvs)
  | .fn _ => .none
  | .exc _ => .none
def toPys : List D → List PyData
  | [] => []
  | d :: r => toPy d :: toPys r
def toPyK : List (Key × D) → List (PyData × PyData)
  | [] => []
  | (k, d) :: r => (kPy k, toPy d) :: toPyK r
end
mutual
def plain : D → Bool
  | .lst xs => plains xs
  | .tup xs => plains xs
  | .dic kvs => plainK kvs
  | .fn _ => false
  | .exc _ => false
  | _ => true
def plains : List D → Bool
  | [] => true
  | d :: r => plain d && plains r
def plainK : List (Key × D) → Bool
  | [] => true
  | (_, d) :: r => plain d && plainK r
end
mutual
def seqd : D → Bool
  | .lst xs => seqds xs
  | .tup xs => seqds xs
  | .dic _ => false
  | .fn _ => false
  | .exc _ => false
  | .str x => PyData.strOk x
  | _ => true
def seqds : List D → Bool
  | [] => true
  | d :: r => seqd d && seqds r
end
section
variable {mg : Str → Option Value} {F H : Hp} {K : PySem.W.Frag}
mutual
theorem Rep.dp (k : HLe F H) : {v : V} → {d : D} → Rep mg F v d → seqd d = true → Dp K H v (toPy d)
  | _, _, .non, _ => by unfold toPy; exact .non
  | _, _, .bl b, _ => by unfold toPy; exact .bl b
  | _, _, .int i, _ => by unfold toPy; exact .int i
  | _, _, .str x, _ => by unfold toPy; exact .str x
  | _, _, .lst h r, s => by unfold toPy; exact .lst (.inl (k.rd h)) (Reps.dp k r (by unfold seqd at s; exact s))
  | _, _, .tup h r, s => by unfold toPy; exact .tup (.inl (.inl (k _ _ h))) (Reps.dp k r (by unfold seqd at s; exact s))
  | _, _, .dic _ _, s => by unfold seqd at s; cases s
  | _, _, .fn _, s => by unfold seqd at s; cases s
  | _, _, .exc _ _, s => by unfold seqd at s; cases s
theorem Reps.dp (k : HLe F H) : {vs : List V} → {ds : List D} → Reps mg F vs ds → seqds ds = true → DpAll K H vs (toPys ds)
  | _, _, .nil, _ => by unfold toPys; exact .nil
  | _, _, .cons h r, s => by
    unfold seqds at s
    unfold toPys
    exact .cons (Rep.dp k h (Bool.and_eq_true_iff.mp s).1) (Reps.dp k r (Bool.and_eq_true_iff.mp s).2)
end
theorem RdV.dp (k : HLe F H) {v : V} {d : D} (h : RdV mg H F v d) (s : seqd d = true) : Dp K H v (toPy d) := by
  rcases h with h | ⟨a, rfl, h⟩
  · exact h.dp k s
  · cases d with
    | lst ds =>
      obtain ⟨vs, h, r⟩ := h
      unfold toPy
      exact .lst (SqL.of h) (r.dp k (by unfold seqd at s; exact s))
    | dic _ => unfold seqd at s; cases s
    | _ => exact h.elim
end
mutual
theorem seqd_lay : ∀ {d : D}, seqd d = true → (toPy d).canLay0 = true
  | .non, _ => by unfold toPy; simp [PyData.canLay0]
  | .bl _, _ => by unfold toPy; simp [PyData.canLay0]
  | .int _, _ => by unfold toPy; simp [PyData.canLay0]
  | .str _, s => by unfold toPy; unfold seqd at s; simpa [PyData.canLay0] using s
  | .lst xs, s => by unfold toPy; unfold seqd at s; simp only [PyData.canLay0]; exact seqds_lay s
  | .tup xs, s => by unfold toPy; unfold seqd at s; simp only [PyData.canLay0]; exact seqds_lay s
  | .dic _, s => by unfold seqd at s; cases s
  | .fn _, s => by unfold seqd at s; cases s
  | .exc _, s => by unfold seqd at s; cases s
theorem seqds_lay : ∀ {ds : List D}, seqds ds = true → PyData.canLayAll0 (toPys ds) = true
  | [], _ => by unfold toPys; simp [PyData.canLayAll0]
  | d :: r, s => by
    unfold seqds at s
    unfold toPys
    simp only [PyData.canLayAll0, Bool.and_eq_true]
    exact ⟨seqd_lay (Bool.and_eq_true_iff.mp s).1, seqds_lay (Bool.and_eq_true_iff.mp s).2⟩
end
def eqD (d e : D) : Bool := PyData.eqv (toPy d) (toPy e)
def dep (d : D) : Prop := (toPy d).depth ≤ 64
def pEq : P2 := fun d1 d2 κ => match d1, d2 with
  | .int i, .int j => κ (.bl (decide (i = j)))
  | .str x, .str y => κ (.bl (decide (x = y)))
  | .bl x, .bl y => κ (.bl (decide (x = y)))
  | d1, d2 => (seqd d1 = true ∧ dep d1) ∧ (seqd d2 = true ∧ dep d2) ∧ κ (.bl (eqD d1 d2))
def pNe : P2 := fun d1 d2 κ => match d1, d2 with
  | .int i, .int j => κ (.bl (!decide (i = j)))
  | .str x, .str y => κ (.bl (!decide (x = y)))
  | .bl x, .bl y => κ (.bl (!decide (x = y)))
  | d1, d2 => (seqd d1 = true ∧ dep d1) ∧ (seqd d2 = true ∧ dep d2) ∧ κ (.bl (!eqD d1 d2))
theorem shaped_of {d : D} (h : seqd d = true ∧ dep d) : SeqAt.shaped (toPy d) = true := by
  unfold SeqAt.shaped
  rw [seqd_lay h.1, Bool.true_and]
  exact decide_eq_true h.2
section
variable {T : Tb}
theorem o_eq {X : Cx} (hu : X.A.units + 64 < cLine) : OpOk T X (compareOp .Eq) pEq := ⟨⟨_, op_eq.or (op_eqD hu), fun J ρ σ H F x y d1 d2 κ Q R r1 r2 hp z => by
  unfold pEq at hp
  split at hp
  · cases r1.int; cases r2.int
    exact .inl ⟨rfl, z _ _ H F hp R (HLe.refl F) (by rw [show ∀ i j : Int, decide (V.int i = V.int j) = decide (i = j) from fun i j => by simp]; exact .bl _)⟩
  · cases r1.str; cases r2.str
    exact .inl ⟨rfl, z _ _ H F hp R (HLe.refl F) (by rw [show ∀ i j : Str, decide (V.str i = V.str j) = decide (i = j) from fun i j => by simp]; exact .bl _)⟩
  · cases r1.bl; cases r2.bl
    exact .inl ⟨rfl, z _ _ H F hp R (HLe.refl F) (by rw [show ∀ i j : Bool, decide (V.bl i = V.bl j) = decide (i = j) from fun i j => by simp]; exact .bl _)⟩
  · obtain ⟨h1, h2, h3⟩ := hp
    exact .inr ⟨_, _, r1.dp R.sub h1.1, r2.dp R.sub h2.1, shaped_of h1, shaped_of h2, z _ _ H F h3 R (HLe.refl F) (.bl _)⟩⟩⟩
theorem o_ne {X : Cx} (hu : X.A.units + 64 < cLine) : OpOk T X (compareOp .NotEq) pNe := ⟨⟨_, op_ne.or (op_neD hu), fun J ρ σ H F x y d1 d2 κ Q R r1 r2 hp z => by
  unfold pNe at hp
  split at hp
  · cases r1.int; cases r2.int
    exact .inl ⟨rfl, z _ _ H F hp R (HLe.refl F) (by rw [show ∀ i j : Int, decide (V.int i = V.int j) = decide (i = j) from fun i j => by simp]; exact .bl _)⟩
  · cases r1.str; cases r2.str
    exact .inl ⟨rfl, z _ _ H F hp R (HLe.refl F) (by rw [show ∀ i j : Str, decide (V.str i = V.str j) = decide (i = j) from fun i j => by simp]; exact .bl _)⟩
  · cases r1.bl; cases r2.bl
    exact .inl ⟨rfl, z _ _ H F hp R (HLe.refl F) (by rw [show ∀ i j : Bool, decide (V.bl i = V.bl j) = decide (i = j) from fun i j => by simp]; exact .bl _)⟩
  · obtain ⟨h1, h2, h3⟩ := hp
    exact .inr ⟨_, _, r1.dp R.sub h1.1, r2.dp R.sub h2.1, shaped_of h1, shaped_of h2, z _ _ H F h3 R (HLe.refl F) (.bl _)⟩⟩⟩
def flatD : D → Bool
  | .non => true | .bl _ => true | .int _ => true | .str _ => true | _ => false
section
variable {mg : Str → Option Value} {F H : Hp}
end
end
section
variable {X : Cx} {pins : List (Addr × Obj)} {σ : St} {H F : Hp} {s : Shared} {mg : Str → Option Value}
theorem key_reads {h : Heap} {k : Key} {u : Value} (e : keyIs k u = true) : Reads h u (kPy k) [] := by
  rcases keyIs_shape e with ⟨i, t, rfl, rfl⟩ | ⟨x, t, rfl, rfl⟩
  · exact .int i t
  · exact .str x t
theorem dict_keys {P : Program} {w : World} {h : Heap} : ∀ {es : List DictEntry} {kvs : List (Key × Value)} {kds : List (Key × D)}, Pairs (mixKind P w) es kvs → kvs.map (·.1) = kds.map (·.1) → ReadsAll h (es.map (·.key)) ((toPyK kds).map (·.1)) []
  | _, _, kds, .nil, e => by
    cases kds with
    | nil => exact .nil
    | cons _ _ => cases e
  | _, _, kds, .cons h1 h2 r, e => by
    cases kds with
    | nil => cases e
    | cons kd kds =>
      obtain ⟨k, d⟩ := kd
      simp only [List.map_cons, List.cons.injEq] at e
      rw [e.1] at h1
      have q := dict_keys (h := h) r e.2
      have q1 := key_reads (h := h) h1
      unfold toPyK
      exact ReadsAll.cons q1 q
theorem pairs_vals {P : Program} {w : World} : ∀ {es : List DictEntry} {kvs : List (Key × Value)}, Pairs (mixKind P w) es kvs → es.map (·.val) = kvs.map (·.2)
  | _, _, .nil => rfl
  | _, _, .cons _ h r => by rw [List.map_cons, List.map_cons, h, pairs_vals r]
mutual
theorem Rep.reads (I : Inv X pins σ H s) (k : HLe F H) : {v : V} → {d : D} → {u : Value} → Rep mg F v d → RelV v u → plain d = true → ∃ as, Reads s.heap u (toPy d) as ∧ ∀ a ∈ as, H a ≠ none
  | _, _, _, .non, r, _ => by cases r; unfold toPy; exact ⟨[], .none, fun _ h => nomatch h⟩
  | _, _, _, .bl b, r, _ => by cases r; unfold toPy; exact ⟨[], .bool b, fun _ h => nomatch h⟩
  | _, _, _, .int i, r, _ => by obtain ⟨t, rfl⟩ := r; unfold toPy; exact ⟨[], .int i t, fun _ h => nomatch h⟩
  | _, _, _, .str x, r, _ => by obtain ⟨t, rfl⟩ := r; unfold toPy; exact ⟨[], .str x t, fun _ h => nomatch h⟩
  | _, _, _, .lst h rs, r, p => by
    cases r
    unfold plain at p
    unfold toPy
    obtain ⟨z, its, n, rv, e⟩ := (k.rd h).ok I.hok
    obtain ⟨as, q, t⟩ := Reps.reads I k rs rv p
    refine ⟨_, .list e rfl rfl (by simpa using q), fun a ha => ?_⟩
    rcases List.mem_cons.mp ha with rfl | ha
    · rcases k.rd h with h | ⟨o, h⟩ <;> rw [h] <;> simp
    · exact t a ha
  | _, _, _, .tup h rs, r, p => by
    cases r
    unfold plain at p
    unfold toPy
    obtain ⟨z, its, rv, o, e, c, n, d⟩ := I.hok _ _ (k _ _ h)
    obtain ⟨as, q, t⟩ := Reps.reads I k rs rv p
    exact ⟨_, .tuple e c d (by simpa using q), t⟩
  | _, _, _, .dic h rs, r, p => by
    cases r
    unfold plain at p
    unfold toPy
    obtain ⟨z, y, vs, rv, o, es, ep, e, c, d, _, pr, _⟩ := (k.rd h).ok I.hok
    obtain ⟨ek, as, q, t⟩ := RepK.reads I k rs rv p
    refine ⟨_, .dict e c.1 d (dict_keys pr ek) (by rw [pairs_vals pr]; exact q), fun a ha => ?_⟩
    simp only [List.append_nil, List.cons_append, List.nil_append] at ha
    rcases List.mem_cons.mp ha with rfl | ha
    · rcases k.rd h with h | ⟨o, h⟩ <;> rw [h] <;> simp
    · exact t a ha
  | _, _, _, .fn _, _, p => by unfold plain at p; cases p
  | _, _, _, .exc _ _, _, p => by unfold plain at p; cases p
theorem Reps.reads (I : Inv X pins σ H s) (k : HLe F H) : {vs : List V} → {ds : List D} → {us : List Value} → Reps mg F vs ds → Vals vs us → plains ds = true → ∃ as, ReadsAll s.heap us (toPys ds) as ∧ ∀ a ∈ as, H a ≠ none
  | _, _, _, .nil, r, _ => by cases r; unfold toPys; exact ⟨[], .nil, fun _ h => nomatch h⟩
  | _, _, _, .cons h rs, r, p => by
    cases r with
    | cons r1 r2 =>
      unfold plains at p
      unfold toPys
      obtain ⟨as, q, t⟩ := Rep.reads I k h r1 (Bool.and_eq_true_iff.mp p).1
      obtain ⟨bs, q', t'⟩ := Reps.reads I k rs r2 (Bool.and_eq_true_iff.mp p).2
      exact ⟨_, .cons q q', fun a ha => (List.mem_append.mp ha).elim (t a) (t' a)⟩
theorem RepK.reads (I : Inv X pins σ H s) (k : HLe F H) : {vs : List (Key × V)} → {ds : List (Key × D)} → {us : List (Key × Value)} → RepK mg F vs ds → KV vs us → plainK ds = true → us.map (·.1) = ds.map (·.1) ∧ ∃ as, ReadsAll s.heap (us.map (·.2)) ((toPyK ds).map (·.2)) as ∧ ∀ a ∈ as, H a ≠ none
  | _, _, _, .nil, r, _ => by cases r; exact ⟨rfl, [], .nil, fun _ h => nomatch h⟩
  | _, _, _, .cons h rs, r, p => by
    cases r with
    | cons r1 r2 =>
      unfold plainK at p
      obtain ⟨as, q, t⟩ := Rep.reads I k h r1.2 (Bool.and_eq_true_iff.mp p).1
      obtain ⟨e, bs, q', t'⟩ := RepK.reads I k rs r2 (Bool.and_eq_true_iff.mp p).2
      refine ⟨by rw [List.map_cons, List.map_cons, e, ← r1.1], _, ?_, fun a ha => (List.mem_append.mp ha).elim (t a) (t' a)⟩
      unfold toPyK
      exact ReadsAll.cons q q'
end
end
section
variable {T : Tb} {k : Nat} {P : Pt} {N : List Str} {sc : Scope} {a b c : Expr} {wa wb wc : WE} {pos : Pos} {es : List Expr}
def wPass : WS := fun D ρ => D.nx ρ
def wSeq (a b : WS) : WS := fun D ρ => a { D with nx := fun ρ' => b D ρ' } ρ
def wExpr (w : WE) : WS := fun D ρ => w ρ fun _ ρ' => D.nx ρ'
def wRet (w : WO) : WS := fun D ρ => w ρ D.rt
def wIf (t : WT) (a b : WS) : WS := fun D ρ => t ρ fun c ρ' => match c with | true => a D ρ' | false => b D ρ'
def wNever : WS := fun _ _ => False
theorem endsOf.mono {J : En} {F F' : Hp} {D : Pn} {E : Ends} (k : HLe F F') (h : endsOf T J F 0 D E) : endsOf T J F' 0 D E :=
  ⟨fun σ' H' F2 ρ' R m q => h.1 σ' H' F2 ρ' R (k.trans m) q, fun σ' v H' F2 c ρ' R m q => h.2.1 σ' v H' F2 c ρ' R (k.trans m) q, fun σ' H' F2 ρ' R m q => h.2.2.1 σ' H' F2 ρ' R (k.trans m) q, fun σ' H' F2 ρ' R m q => h.2.2.2 σ' H' F2 ρ' R (k.trans m) q⟩
theorem vs_never {s : Stmt} : VS T k P N sc s wNever := ⟨fun X J G => ps_never.imp fun E σ H => by
  rintro ⟨ρ, F, D, R, q, z⟩
  exact q.elim⟩
theorem vss_nil : VSs T k P N sc [] wPass := ⟨fun X J G => pss_nil.imp fun E σ H => by
  rintro ⟨ρ, F, D, R, q, z⟩
  exact z.1 σ H F ρ R (HLe.refl F) q⟩
variable {st : Stmt} {sts : List Stmt} {wS wS' : WS} {tW : WT}
theorem vss_one (h : VS T k P N sc st wS) : VSs T k P N sc [st] wS := ⟨fun X J G => pss_one (h.of X J G)⟩
theorem vss_cons (h : VS T k P N sc st wS) (h' : VSs T k P N sc sts wS') : VSs T k P N sc (st :: sts) (wSeq wS wS') := ⟨fun X J G => (pss_cons (h.of X J G) (h'.of X J G)).imp fun E σ H => by
  rintro ⟨ρ, F, D, R, q, z⟩
  refine ⟨ρ, F, _, R, q, fun σ' H' F' ρ' R' m q' => ⟨ρ', F', D, R', q', z.mono m⟩, z.2.1, z.2.2.1, z.2.2.2⟩⟩
theorem vs_expr (ha : VE T k P N sc a wa) (hs : ∀ env, swapsWith a none pos.line env = pure false := by intro _; rfl) : VS T k P N sc (.Expr a pos) (wExpr wa) := ⟨fun X J G => (ps_expr (ha.of X J G) (hs X.env)).imp fun E σ H => by
  rintro ⟨ρ, F, D, R, q, z⟩
  exact ⟨ρ, F, _, R, q, fun v H' F' o ρ' R' m ho q' => z.1 σ H' F' ρ' R' m q'⟩⟩
theorem vs_ret {w : WO} (ha : VO T k P N sc a w) : VS T k P N sc (.Return (some a) pos) (wRet w) := ⟨fun X J G => (ps_ret (ha.of X J G)).imp fun E σ H => by
  rintro ⟨ρ, F, D, R, q, z⟩
  exact ⟨ρ, F, _, R, q, fun v H' F' c ρ' R' m ho q' => z.2.1 σ v H' F' c ρ' R' m ho q'⟩⟩
theorem vs_if {sa sb : List Stmt} (ht : VT T k P N sc c tW) (ha : VSs T k P N sc sa wS) (hb : VSs T k P N sc sb wS') : VS T k P N sc (.If c sa sb pos) (wIf tW wS wS') := ⟨fun X J G => (ps_if (ht.of X J G) (ha.of X J G) (hb.of X J G)).imp fun E σ H => by
  rintro ⟨ρ, F, D, R, q, z⟩
  refine ⟨ρ, F, _, R, q, fun b H1 F1 ρ1 R1 m1 q1 => ?_⟩
  cases b with
  | true => exact iteT ⟨ρ1, F1, D, R1, q1, z.mono m1⟩
  | false => exact iteF ⟨ρ1, F1, D, R1, q1, z.mono m1⟩⟩
def pFree (ρ : Env') (i : Nat) (κ : Prop) : Prop := match ρ[i]? with
  | some (some (.mu _)) => False
  | some _ => κ
  | none => False
def wSet (i : Nat) (w : WO) : WS := fun D ρ => w ρ fun c ρ' => pNm c (pFree ρ' i (D.nx (ρ'.set i (some c))))
theorem set_ok {J : En} {ρ : Env'} {σ : St} {H F : Hp} (R : Rel T J ρ σ H F) {i : Nat} {v : V} {c : Cell} (hc : CellOk T J ρ σ H F v c) {κ : Prop} (h : pFree ρ i κ) (hm : c.isMu = false := by rfl) : κ ∧ Rel T J (ρ.set i (some c)) (σ.set i (some v)) H F := by
  unfold pFree at h
  have key : κ ∧ i < σ.length := by
    split at h
    · exact h.elim
    · rename_i x _ e
      exact ⟨h, by rw [← R.len]; exact (List.getElem?_eq_some_iff.mp e).1⟩
    · exact h.elim
  refine ⟨key.1, R.assign key.2 ?_ (fun ho j c' e hc' _ z => ?_) (fun ho p hp z => ?_)⟩
  · cases c with
    | sh d => exact hc
    | ow d => obtain ⟨a, hv, f⟩ := hc; exact ⟨a, hv, f.own, f.nf, f.nj⟩
    | mu d => cases hm
  · cases c with
    | sh d => cases ho
    | ow d => obtain ⟨a, rfl, f⟩ := hc; exact f.ns j c' e hc' z
    | mu d => cases hm
  · cases c with
    | sh d => cases ho
    | ow d => obtain ⟨a, rfl, f⟩ := hc; cases z; exact f.nb p hp rfl
    | mu d => cases hm
theorem Gd.nodup {X : Cx} (G : Gd T k P N sc X) : X.N.Nodup := by rw [G.hN]; exact G.nd
def LocP (P : Pt) (sc : Scope) (x : Str) : Prop := sc.names.lookup x = some .local ∨ (sc.names.lookup x = some .cell ∧ P.cf x = true)
theorem Gd.loc {X : Cx} (G : Gd T k P N sc X) {x : Str} (h : LocP P sc x) : Loc X.env.scope x ∧ (X.fn x = true ∨ X.env.scope.names.lookup x = some .local) := by
  rw [G.sc]
  rcases h with h | h
  · exact ⟨.inl h, .inr h⟩
  · exact ⟨.inr h.1, .inl (G.fn x h.2)⟩
theorem vs_set (i : Nat) {x : Str} {p' : Pos} {w : WO} (ha : VO T k P N sc a w) (hN : N[i]? = some x := by rfl) (hl : LocP P sc x := by first | exact Or.inl rfl | exact Or.inr ⟨rfl, rfl⟩) (hs : ∀ env, swapsWith a (some (.Name x p')) pos.line env = pure false := by intro _; rfl) :
    VS T k P N sc (.Assign [.Name x p'] a pos) (wSet i w) := ⟨fun X J G => (ps_set (i := i) G.nodup (by rw [G.hN]; exact hN) (G.loc hl).1 (ha.of X J G) (hs X.env) (G.loc hl).2).imp fun E σ H => by
  rintro ⟨ρ, F, D, R, q, z⟩
  refine ⟨ρ, F, _, R, q, fun v H' F' c ρ' R' m hc q' => ?_⟩
  obtain ⟨q', hm⟩ := q'.out
  obtain ⟨h, R2⟩ := set_ok R' hc q' hm
  exact z.1 _ H' F' _ R2 m h⟩
def Agree (ws : List Nat) (σ σ' : St) : Prop := σ'.length = σ.length ∧ ∀ j, j ∉ ws → σ'[j]? = σ[j]?
abbrev PGt := D → Env' → (Env' → Prop) → Prop
def tG (T : Tb) (J : En) (ws : List Nat) (g : PGt) : TG := fun v σ H Q => ∃ ρ F d Qp, Rel T J ρ σ H F ∧ Rep T.mg F v d ∧ g d ρ Qp ∧ ∀ σ' ρ', Rel T J ρ' σ' H F → Agree ws σ σ' → Qp ρ' → Q σ' H
structure VG (T : Tb) (k : Nat) (P : Pt) (N : List Str) (sc : Scope) (ws : List Nat) (e : Expr) (g : PGt) : Prop where
  mk :: (of : ∀ X J, Gd T k P N sc X → PG X e (tG T J ws g))
theorem PG.imp {X : Cx} {e : Expr} {t t' : TG} (h : PG X e t) (k : ∀ v σ H Q, t' v σ H Q → t v σ H Q) : PG X e t' := fun pins s σ H v u Q I r q => h pins s σ H v u Q I r (k v σ H Q q)
theorem PGs.imp {X : Cx} {e : List Expr} {t t' : TGs} (h : PGs X e t) (k : ∀ v σ H Q, t' v σ H Q → t v σ H Q) : PGs X e t' := fun pins s σ H v u Q I r q => h pins s σ H v u Q I r (k v σ H Q q)
def gN (i : Nat) : PGt := fun d ρ Q => pFree ρ i (Q (ρ.set i (some (.sh d))))
theorem vg_name (i : Nat) {x : Str} (hN : N[i]? = some x := by rfl) (hl : LocP P sc x := by first | exact Or.inl rfl | exact Or.inr ⟨rfl, rfl⟩) : VG T k P N sc [i] (.Name x pos) (gN i) := ⟨fun X J G => (pg_name (i := i) G.nodup (by rw [G.hN]; exact hN) (G.loc hl).1 (G.loc hl).2).imp fun v σ H Q => by
  rintro ⟨ρ, F, d, Qp, R, r, g, z⟩
  obtain ⟨h, R2⟩ := set_ok (c := .sh d) R r g
  exact z _ _ R2 ⟨List.length_set, fun j hj => List.getElem?_set_ne (by rintro rfl; exact hj (by simp))⟩ h⟩
abbrev PGts := List D → Env' → (Env' → Prop) → Prop
def tGs (T : Tb) (J : En) (ws : List Nat) (n : Nat) (g : PGts) : TGs := fun vs σ H Q => ∃ ρ F ds Qp, Rel T J ρ σ H F ∧ Reps T.mg F vs ds ∧ vs.length = n ∧ g ds ρ Qp ∧ ∀ σ' ρ', Rel T J ρ' σ' H F → Agree ws σ σ' → Qp ρ' → Q σ' H
structure VGs (T : Tb) (k : Nat) (P : Pt) (N : List Str) (sc : Scope) (ws : List Nat) (n : Nat) (es : List Expr) (g : PGts) : Prop where
  of : ∀ X J, Gd T k P N sc X → PGs X es (tGs T J ws n g)
  len : ∀ env, (assignEach es env).length = n ∧ (assignEach es env).findIdx? (·.1) = none
def gsNil : PGts := fun ds ρ Q => ds = [] ∧ Q ρ
def gsCons (g : PGt) (gs : PGts) : PGts := fun ds ρ Q => match ds with
  | d :: r => g d ρ fun ρ' => gs r ρ' Q
  | [] => False
theorem vgs_nil : VGs T k P N sc [] 0 [] gsNil := ⟨fun X J G => pgs_nil.imp fun vs σ H Q => by
  rintro ⟨ρ, F, ds, Qp, R, r, hl, g, z⟩
  exact ⟨List.eq_nil_of_length_eq_zero hl, z σ ρ R ⟨rfl, fun _ _ => rfl⟩ g.2⟩, fun _ => ⟨rfl, rfl⟩⟩
theorem vgs_cons {ws ws' : List Nat} {n : Nat} {g : PGt} {gs : PGts} (h1 : VG T k P N sc ws a g) (h2 : VGs T k P N sc ws' n es gs) (hs : ∀ env, (assignEach (a :: es) env).map (·.2) = assign a env :: (assignEach es env).map (·.2) := by intro _; rfl)
    (hl : ∀ env, (assignEach (a :: es) env).length = n + 1 ∧ (assignEach (a :: es) env).findIdx? (·.1) = none := by intro _; exact ⟨rfl, rfl⟩) : VGs T k P N sc (ws ++ ws') (n + 1) (a :: es) (gsCons g gs) := ⟨fun X J G => (pgs_cons (h1.of X J G) (h2.of X J G) (hs X.env)).imp fun vs σ H Q => by
  rintro ⟨ρ, F, ds, Qp, R, r, hl, g, z⟩
  cases r with
  | nil => cases hl
  | cons h r =>
    refine ⟨_, _, rfl, ρ, F, _, _, R, h, g, fun σ' ρ' R' e g' => ⟨ρ', F, _, Qp, R', r, by simpa using hl, g', fun σ2 ρ2 R2 e2 q2 => z σ2 ρ2 R2 ⟨e2.1.trans e.1, fun j hj => ?_⟩ q2⟩⟩
    rw [e2.2 j (fun z => hj (List.mem_append_right _ z)), e.2 j (fun z => hj (List.mem_append_left _ z))], hl⟩
def gTn (n : Nat) (gs : PGts) : PGt := fun d ρ Q => match d with
  | .tup ds => ds.length = n ∧ gs ds ρ Q
  | _ => False
theorem vg_tup {ws : List Nat} {n kk : Nat} {gs : PGts} (h : VGs T k P N sc ws n es gs) : VG T k P N sc ws (.Tuple es kk pos) (gTn n gs) := ⟨fun X J G => (pg_tup (n := n) G.calm (h.of X J G) (h.len X.env).1 (h.len X.env).2).imp fun v σ H Q => by
  rintro ⟨ρ, F, d, Qp, R, r, g, z⟩
  cases d with
  | tup ds =>
    cases r with
    | tup ha rs => exact ⟨_, _, rfl, .inl (.inl (R.sub _ _ ha)), by rw [rs.length]; exact g.1, ρ, F, ds, Qp, R, rs, by rw [rs.length]; exact g.1, g.2, z⟩
  | _ => exact g.elim⟩
def wAsg (w : WE) (g : PGt) : WS := fun D ρ => w ρ fun o ρ' => pUse ρ' o fun d ρ'' => g d ρ'' D.nx
theorem vs_asg {ws : List Nat} {tg : Expr} {g : PGt} (ha : VE T k P N sc a wa) (hg : VG T k P N sc ws tg g) (hs : ∀ env, swapsWithSole [tg] a pos.line env = pure false := by intro _; rfl) (hw : ∀ env, swappedStores [tg] a env = pure none := by intro _; rfl)
    (h1 : ∀ env, (assignEach [tg] env).map (·.2) = [assign tg env] := by intro _; rfl) : VS T k P N sc (.Assign [tg] a pos) (wAsg wa g) := ⟨fun X J G => (ps_asg (ha.of X J G) (hg.of X J G) (hs X.env) (hw X.env) (h1 X.env)).imp fun E σ H => by
  rintro ⟨ρ, F, D, R, q, z⟩
  refine ⟨ρ, F, _, R, q, fun v H' F' o ρ' R' m ho q' => ?_⟩
  obtain ⟨d, ρ2, F2, h2, R2, m2, r⟩ := use_ok R' ho q'
  exact ⟨ρ2, F2, d, D.nx, R2, r, h2, fun σ' ρ3 R3 _ q3 => z.1 σ' H' F2 ρ3 R3 (m.trans m2) q3⟩⟩
end
theorem PS.nox {X : Cx} {st : Stmt} {t : TS} (h : PS X.nox st t) : PS X st t := fun pins s σ H D I hw => wpAny_mono (h pins s σ H D (I.wish _) hw) (fun f s' q => by
  cases f with
  | next => obtain ⟨σ', H', J, r⟩ := q; exact ⟨σ', H', J.unwish, r⟩
  | brk => obtain ⟨σ', H', J, r⟩ := q; exact ⟨σ', H', J.unwish, r⟩
  | cont => obtain ⟨σ', H', J, r⟩ := q; exact ⟨σ', H', J.unwish, r⟩
  | ret u => obtain ⟨v, σ', H', J, r⟩ := q; exact ⟨v, σ', H', J.unwish, r⟩) fun _ _ x => x.elim
structure ItOk (T : Tb) (F : Hp) (I : It) (ds : List D) : Prop where
  go : ∀ {J : En} {ρ : Env'} {σ : St} {H F' : Hp}, Rel T J ρ σ H F' → HLe F F' → ∀ i, i < ds.length → I.go i H
  yld : ∀ {J : En} {ρ : Env'} {σ : St} {H F' : Hp}, Rel T J ρ σ H F' → HLe F F' → ∀ i x H', I.yld i H x H' → ∀ d, ds[i]? = some d → ∃ F'', HLe F' F'' ∧ Rel T J ρ σ H' F'' ∧ Rep T.mg F'' x d
  stop : ∀ {J : En} {ρ : Env'} {σ : St} {H F' : Hp}, Rel T J ρ σ H F' → HLe F F' → I.stop ds.length H
abbrev WI := Env' → (List D → Env' → Prop) → Prop
def tI (T : Tb) (J : En) (w : WI) : TI := fun σ H R => ∃ ρ F Q, Rel T J ρ σ H F ∧ w ρ Q ∧ ∀ I H' F' ds ρ', Rel T J ρ' σ H' F' → HLe F F' → ItOk T F' I ds → Q ds ρ' → R I H'
structure VI (T : Tb) (k : Nat) (P : Pt) (N : List Str) (sc : Scope) (tg e : Expr) (w : WI) : Prop where
  mk :: (of : ∀ X J, Gd T k P N sc X → PI X tg e (tI T J w))
theorem PI.imp {X : Cx} {tg e : Expr} {t t' : TI} (h : PI X tg e t) (k : ∀ σ H R, t' σ H R → t σ H R) : PI X tg e t' := fun pins s σ H R I q => h pins s σ H R I (k σ H R q)
section
variable {T : Tb} {k : Nat} {P : Pt} {N : List Str} {sc : Scope} {a b c tg : Expr} {wa wb wc : WE} {pos : Pos} {es : List Expr}
theorem it_list {F : Hp} {l : Addr} {vs : List V} {ds : List D} {K : PySem.W.Frag} (h : Rd F l (.lst vs)) (r : Reps T.mg F vs ds) : ItOk T F (Itl K l) ds where
  go := fun R m i hi => by
    have hl : i < vs.length := by rw [r.length]; exact hi
    exact ⟨vs, vs[i], .inl (R.sub.rd (m.rd h)), by simp [hl]⟩
  yld := fun {J ρ σ H F'} R m i x H' y d hd => by
    obtain ⟨e, y⟩ := y
    subst e
    have hx := y vs (.inl (R.sub.rd (m.rd h)))
    obtain ⟨d', e', r'⟩ := r.get hx
    rw [hd] at e'; cases e'
    exact ⟨F', HLe.refl _, R, r'.mono m⟩
  stop := fun R m => ⟨vs, .inl (R.sub.rd (m.rd h)), Nat.le_of_eq r.length⟩
theorem it_tup {F : Hp} {l : Addr} {vs : List V} {ds : List D} {K : PySem.W.Frag} (h : F l = some (.tup vs)) (r : Reps T.mg F vs ds) : ItOk T F (Itt K l) ds where
  go := fun R m i hi => by
    have hl : i < vs.length := by rw [r.length]; exact hi
    exact ⟨vs, vs[i], .inl (.inl (R.sub _ _ (m _ _ h))), by simp [hl]⟩
  yld := fun {J ρ σ H F'} R m i x H' y d hd => by
    obtain ⟨e, y⟩ := y
    subst e
    have hx := y vs (.inl (.inl (R.sub _ _ (m _ _ h))))
    obtain ⟨d', e', r'⟩ := r.get hx
    rw [hd] at e'; cases e'
    exact ⟨F', HLe.refl _, R, r'.mono m⟩
  stop := fun R m => ⟨vs, .inl (.inl (R.sub _ _ (m _ _ h))), Nat.le_of_eq r.length⟩
def rangeD (lo : Int) (n : Nat) : List D := (List.range n).map fun (i : Nat) => .int (lo + (i : Int))
theorem it_range {F : Hp} (lo : Int) (n : Nat) : ItOk T F (Itr lo n) (rangeD lo n) where
  go := fun R m i hi => by unfold rangeD at hi; rw [List.length_map, List.length_range] at hi; exact hi
  yld := fun {J ρ σ H F'} R m i x H' y d hd => by
    obtain ⟨e, y⟩ := y
    subst e y
    unfold rangeD at hd
    rw [List.getElem?_map] at hd
    cases q : (List.range n)[i]? with
    | none => rw [q] at hd; cases hd
    | some j =>
      rw [q] at hd
      have : j = i := by
        have := List.getElem?_eq_some_iff.mp q
        obtain ⟨_, e⟩ := this
        simpa using e.symm
      subst this
      cases hd
      exact ⟨F', HLe.refl _, R, .int _⟩
  stop := fun R m => by unfold rangeD; show n ≤ _; rw [List.length_map, List.length_range]; exact Nat.le_refl _
def wIterV (wa : WE) : WI := fun ρ Q => wa ρ fun o ρ1 => pUse ρ1 o fun d ρ2 => match d with
  | .lst ds => Q ds ρ2
  | _ => False
def wIterT (wa : WE) : WI := fun ρ Q => wa ρ fun o ρ1 => pUse ρ1 o fun d ρ2 => match d with
  | .tup ds => Q ds ρ2
  | _ => False
theorem vi_list (ha : VE T k P N sc a wa) : VI T k P N sc tg a (wIterV wa) := ⟨fun X J G => (pi_list (ha.of X J G)).imp fun σ H Q => by
  rintro ⟨ρ, F, Q', R, q, z⟩
  refine ⟨ρ, F, _, R, q, fun v H1 F1 o1 ρ1 R1 m1 ho1 q1 => ?_⟩
  obtain ⟨d, ρ2, F2, h2, R2, m2, r⟩ := use_ok R1 ho1 q1
  cases d with
  | lst ds =>
    cases r with
    | lst h rs => exact ⟨_, rfl, ⟨_, .inl (R2.sub.rd h)⟩, z _ H1 F2 ds ρ2 R2 (m1.trans m2) (it_list h rs) h2⟩
  | _ => exact h2.elim⟩
theorem vi_tup (ha : VE T k P N sc a wa) : VI T k P N sc tg a (wIterT wa) := ⟨fun X J G => (pi_tup (ha.of X J G)).imp fun σ H Q => by
  rintro ⟨ρ, F, Q', R, q, z⟩
  refine ⟨ρ, F, _, R, q, fun v H1 F1 o1 ρ1 R1 m1 ho1 q1 => ?_⟩
  obtain ⟨d, ρ2, F2, h2, R2, m2, r⟩ := use_ok R1 ho1 q1
  cases d with
  | tup ds =>
    cases r with
    | tup h rs => exact ⟨_, rfl, ⟨_, .inl (.inl (R2.sub _ _ h))⟩, z _ H1 F2 ds ρ2 R2 (m1.trans m2) (it_tup h rs) h2⟩
  | _ => exact h2.elim⟩
def wRng1 (w : WA) : WI := fun ρ Q => w ρ fun os ρ1 => pRds ρ1 os fun ds => match ds with
  | [.int j] => -(2 ^ 62) ≤ j ∧ j < 2 ^ 62 ∧ Q (rangeD 0 j.toNat) ρ1
  | _ => False
theorem vi_range1 {n : Nat} {w : WA} {p' : Pos} (hm : T.mg "range" = none) (ha : VAn T k P N sc n [a] w) (hg : sc.names.lookup ("range" : Str) = some .globalImplicit := by rfl) (hs : ∀ env, starEach [a] env = [(false, eval a env)] := by intro _; rfl) : VI T k P N sc tg (.Call (.Name "range" p') [a] [] pos) (wRng1 w) :=
  ⟨fun X J G => (pi_range1 (G.gl hg) (by rw [G.mg]; exact hm) (ha.of X J G) (hs X.env)).imp fun σ H Q => by
    rintro ⟨ρ, F, Q', R, q, z⟩
    refine ⟨ρ, F, _, R, q, fun vs H1 F1 os ρ1 hl R1 m1 hos q1 => ?_⟩
    obtain ⟨ds, h1, rs⟩ := rds_ok R1 hos q1
    split at h1
    · obtain ⟨v, rfl, r⟩ := paired1 rs
      cases r.int
      exact ⟨_, rfl, h1.1, h1.2.1, z _ H1 F1 _ ρ1 R1 m1 (it_range 0 _) h1.2.2⟩
    · exact h1.elim⟩
def forL (g : PGt) (wb : WS) : List D → WS
  | [], D, ρ => D.nx ρ
  | d :: ds, D, ρ => g d ρ fun ρ1 => wb { D with nx := fun ρ' => forL g wb ds D ρ', ct := fun ρ' => forL g wb ds D ρ', bk := D.nx } ρ1
def wFor (wi : WI) (g : PGt) (wb : WS) : WS := fun D ρ => wi ρ fun ds ρ1 => forL g wb ds D ρ1
theorem vs_for {ws : List Nat} {body : List Stmt} {wi : WI} {g : PGt} {wS : WS} (hi : VI T k P N sc tg a wi) (hg : VG T k P N sc ws tg g) (hb : VSs T k P N sc body wS) (hs : ∀ env x, foldedSetIterable a env x = pure x := by intro _ _; rfl) :
    VS T k P N sc (.For tg a body [] pos) (wFor wi g wS) := ⟨fun X J G => by
  have hX : PS X.nox (.For tg a body [] pos) (tFor (tI T J wi) (tG T J ws g) (tS T J wS)) := by
    have G' : Gd T k P N sc X.nox := ⟨G.prog, G.w, G.K, G.mg, G.base, G.hN, G.nd, G.fn, G.sc, G.calm, G.room, G.tab, G.sm⟩
    exact ps_for PassesOwn.never G.calm (hi.of _ J G') (hg.of _ J G') (hb.of _ J G') fun x => hs _ x
  refine (PS.nox hX).imp fun E σ H => ?_
  rintro ⟨ρ, F, D, R, q, z⟩
  refine ⟨ρ, F, _, R, q, fun I H1 F1 ds ρ1 R1 m1 io q1 => ?_⟩
  refine ⟨fun i m σ' H' => i + m = ds.length ∧ ∃ ρ' F', Rel T J ρ' σ' H' F' ∧ HLe F1 F' ∧ forL g wS (ds.drop i) D ρ', ⟨ds.length, Nat.zero_add _, ρ1, F1, R1, HLe.refl _, q1⟩, ?_⟩
  rintro i m σ' H' ⟨him, ρ', F', R', m', q'⟩
  by_cases hlt : i < ds.length
  · refine .inr ⟨io.go R' m' i hlt, fun σ2 H2 => ∃ ρ2 F2, Rel T J ρ2 σ2 H2 F2 ∧ HLe F1 F2 ∧ forL g wS (ds.drop (i + 1)) D ρ2, fun σ2 H2 h2 => ⟨m - 1, by omega, by omega, h2⟩, fun x H2 y => ?_⟩
    have hd : ds[i]? = some ds[i] := List.getElem?_eq_getElem hlt
    obtain ⟨F2, m2, R2, r2⟩ := io.yld R' m' i x H2 y _ hd
    rw [List.drop_eq_getElem_cons hlt] at q'
    refine ⟨ρ', F2, ds[i], _, R2, r2, q', fun σ3 ρ3 R3 _ q3 => ?_⟩
    have z' := z.mono (m1.trans (m'.trans m2))
    exact ⟨ρ3, F2, _, R3, q3, fun σ4 H4 F4 ρ4 R4 m4 q4 => ⟨ρ4, F4, R4, m'.trans (m2.trans m4), q4⟩, z'.2.1, z'.1, fun σ4 H4 F4 ρ4 R4 m4 q4 => ⟨ρ4, F4, R4, m'.trans (m2.trans m4), q4⟩⟩
  · have e : i = ds.length := by omega
    subst e
    rw [List.drop_of_length_le (Nat.le_refl _)] at q'
    exact .inl ⟨io.stop R' m', z.1 σ' H' F' ρ' R' (m1.trans m') q'⟩⟩
def whileN (t : WT) (wb : WS) : Nat → WS
  | 0, _, _ => False
  | n + 1, D, ρ => t ρ fun c ρ1 => match c with
    | true => wb { D with nx := fun ρ' => whileN t wb n D ρ', ct := fun ρ' => whileN t wb n D ρ', bk := D.nx } ρ1
    | false => D.nx ρ1
def wWhile (t : WT) (wb : WS) : WS := fun D ρ => ∃ n, whileN t wb n D ρ
theorem vs_while {body : List Stmt} {t : WT} {wS : WS} (ht : VT T k P N sc c t) (hb : VSs T k P N sc body wS) : VS T k P N sc (.While c body [] pos) (wWhile t wS) := ⟨fun X J G => by
  have hX : PS X.nox (.While c body [] pos) (tWhile (tT T J t) (tS T J wS)) := by
    have G' : Gd T k P N sc X.nox := ⟨G.prog, G.w, G.K, G.mg, G.base, G.hN, G.nd, G.fn, G.sc, G.calm, G.room, G.tab, G.sm⟩
    exact ps_while PassesOwn.never (ht.of _ J G') (hb.of _ J G')
  refine (PS.nox hX).imp fun E σ H => ?_
  rintro ⟨ρ, F, D, R, ⟨n, q⟩, z⟩
  refine ⟨fun m σ' H' => ∃ ρ' F', Rel T J ρ' σ' H' F' ∧ HLe F F' ∧ whileN t wS m D ρ', ⟨n, ρ, F, R, HLe.refl _, q⟩, ?_⟩
  rintro m σ' H' ⟨ρ', F', R', m', q'⟩
  cases m with
  | zero => exact q'.elim
  | succ m =>
    refine ⟨ρ', F', _, R', q', fun b H1 F1 ρ1 R1 m1 q1 => ?_⟩
    have z' := z.mono (m'.trans m1)
    cases b with
    | true =>
      refine iteT ⟨fun σ2 H2 => ∃ ρ2 F2, Rel T J ρ2 σ2 H2 F2 ∧ HLe F F2 ∧ whileN t wS m D ρ2, fun σ2 H2 h2 => ⟨m, Nat.lt_succ_self m, h2⟩, ρ1, F1, _, R1, q1, fun σ4 H4 F4 ρ4 R4 m4 q4 => ⟨ρ4, F4, R4, m'.trans (m1.trans m4), q4⟩, z'.2.1, z'.1, fun σ4 H4 F4 ρ4 R4 m4 q4 => ⟨ρ4, F4, R4, m'.trans (m1.trans m4), q4⟩⟩
    | false => exact iteF (z'.1 σ' H1 F1 ρ1 R1 (HLe.refl _) q1)⟩
end
def wipeE (ρ : Env') : List Nat → Env'
  | [] => ρ
  | v :: vs => (wipeE ρ vs).set v none
def restE (ρ1 ρ2 : Env') : List Nat → Env'
  | [] => ρ2
  | v :: vs => (restE ρ1 ρ2 vs).set v (ρ1.getD v none)
def noOwnB (ρ : Env') (vs : List Nat) : Bool := vs.all fun v => match ρ[v]? with
  | some (some c) => !c.own
  | _ => true
theorem wipe_in {σ : St} {i : Nat} (hi : i < σ.length) : ∀ {vs : List Nat}, i ∈ vs → (wipe σ vs)[i]? = some none
  | [], h => by simp at h
  | v :: vs, h => by
    unfold wipe
    by_cases e : v = i
    · subst e; rw [List.getElem?_set_self (by rw [wipe_length]; exact hi)]
    · rw [List.getElem?_set_ne e]
      exact wipe_in hi ((List.mem_cons.mp h).resolve_left fun z => e z.symm)
theorem wipe_eq {σ σ' : St} {vs : List Nat} (hl : σ'.length = σ.length) (h : ∀ j, j ∉ vs → σ'[j]? = σ[j]?) : wipe σ' vs = wipe σ vs := by
  apply List.ext_getElem?
  intro i
  by_cases hi : i ∈ vs
  · by_cases hlt : i < σ.length
    · rw [wipe_in hlt hi, wipe_in (by rw [hl]; exact hlt) hi]
    · rw [List.getElem?_eq_none (by rw [wipe_length]; omega), List.getElem?_eq_none (by rw [wipe_length]; omega)]
  · rw [wipe_out hi, wipe_out hi, h i hi]
theorem wipe_wipe (σ : St) (vs : List Nat) : wipe (wipe σ vs) vs = wipe σ vs := wipe_eq (wipe_length _ _) fun _ hj => wipe_out hj
theorem wipeE_length (ρ : Env') : ∀ vs : List Nat, (wipeE ρ vs).length = ρ.length
  | [] => rfl
  | v :: vs => by unfold wipeE; rw [List.length_set, wipeE_length ρ vs]
theorem restE_length (ρ1 ρ2 : Env') : ∀ vs : List Nat, (restE ρ1 ρ2 vs).length = ρ2.length
  | [] => rfl
  | v :: vs => by unfold restE; rw [List.length_set, restE_length ρ1 ρ2 vs]
theorem wipeE_some {ρ : Env'} {i : Nat} {x : Cell} : ∀ {vs : List Nat}, (wipeE ρ vs)[i]? = some (some x) → ρ[i]? = some (some x) ∧ i ∉ vs
  | [], h => ⟨h, by simp⟩
  | v :: vs, h => by
    unfold wipeE at h
    rcases get_set h with ⟨_, z⟩ | ⟨ne, z⟩
    · cases z
    · obtain ⟨h1, h2⟩ := wipeE_some z
      exact ⟨h1, by simp only [List.mem_cons, not_or]; exact ⟨fun e => ne e.symm, h2⟩⟩
theorem restE_some {ρ1 ρ2 : Env'} {i : Nat} {x : Cell} : ∀ {vs : List Nat}, (restE ρ1 ρ2 vs)[i]? = some (some x) → (i ∈ vs ∧ ρ1[i]? = some (some x)) ∨ (i ∉ vs ∧ ρ2[i]? = some (some x))
  | [], h => .inr ⟨by simp, h⟩
  | v :: vs, h => by
    unfold restE at h
    rcases get_set h with ⟨rfl, z⟩ | ⟨ne, z⟩
    · refine .inl ⟨List.mem_cons_self, ?_⟩
      rw [List.getD_eq_getElem?_getD] at z
      cases q : (ρ1[v]? : Option (Option Cell)) with
      | none => rw [q] at z; cases z
      | some y => rw [q] at z; exact congrArg some z.symm
    · rcases restE_some z with ⟨h1, h2⟩ | ⟨h1, h2⟩
      · exact .inl ⟨List.mem_cons_of_mem _ h1, h2⟩
      · exact .inr ⟨by simp only [List.mem_cons, not_or]; exact ⟨fun e => ne e.symm, h1⟩, h2⟩
section
variable {T : Tb} {J : En} {ρ ρ1 ρ2 : Env'} {σ : St} {H H1 F F1 : Hp} {vs : List Nat}
theorem Rel.wipe (R : Rel T J ρ σ H F) (vs : List Nat) : Rel T J (wipeE ρ vs) (L2.wipe σ vs) H F := by
  refine ⟨by rw [wipeE_length, wipe_length]; exact R.len, R.sub, fun i c e => ?_, fun i j c c' v e e' h1 h2 h3 h4 => ?_, R.old, R.mono, R.tab, R.ntab, R.aA, fun q hq => let ⟨h1, h2, h3, h4⟩ := R.prot q hq; ⟨h1, h2, h3, fun i c e hc => ?_⟩⟩
  · obtain ⟨e1, hn⟩ := wipeE_some e
    obtain ⟨v, e2, s⟩ := R.slot i c e1
    exact ⟨v, by rw [wipe_out hn]; exact e2, s⟩
  · obtain ⟨e1, hn⟩ := wipeE_some e
    obtain ⟨e1', hn'⟩ := wipeE_some e'
    rw [wipe_out hn] at h3
    rw [wipe_out hn'] at h4
    exact R.dis i j c c' v e1 e1' h1 h2 h3 h4
  · obtain ⟨e1, hn⟩ := wipeE_some e
    rw [wipe_out hn]
    exact h4 i c e1 hc
theorem noOwn_of (h : noOwnB ρ vs = true) {v : Nat} (hv : v ∈ vs) {c : Cell} (e : ρ[v]? = some (some c)) : c.own = false := by
  have q := List.all_eq_true.mp h v hv
  simp only [e] at q
  simpa using q
theorem Rel.rest (R1 : Rel T J ρ1 σ H1 F1) (R : Rel T J ρ2 (L2.wipe σ vs) H F) (m : HLe F1 F) (hn : noOwnB ρ1 vs = true) : Rel T J (restE ρ1 ρ2 vs) σ H F := by
  refine ⟨by rw [restE_length, R.len, wipe_length], R.sub, fun i c e => ?_, fun i j c c' v e e' h1 h2 h3 h4 => ?_, R.old, R.mono, R.tab, R.ntab, R.aA, fun q hq => let ⟨h1, h2, h3, h4⟩ := R.prot q hq; ⟨h1, h2, h3, fun i c e hc => ?_⟩⟩
  · rcases restE_some e with ⟨hi, e1⟩ | ⟨hi, e1⟩
    · have ho := noOwn_of hn hi e1
      obtain ⟨v, e2, s⟩ := R1.slot i c e1
      cases c with
      | sh d => exact ⟨v, e2, Rep.mono m s⟩
      | ow d => cases ho
      | mu d => cases ho
    · obtain ⟨v, e2, s⟩ := R.slot i c e1
      rw [wipe_out hi] at e2
      exact ⟨v, e2, s⟩
  · rcases restE_some e with ⟨hi, e1⟩ | ⟨hi, e1⟩
    · rw [noOwn_of hn hi e1] at h1; cases h1
    · rcases restE_some e' with ⟨hj, e2⟩ | ⟨hj, e2⟩
      · rw [noOwn_of hn hj e2] at h2; cases h2
      · exact R.dis i j c c' v e1 e2 h1 h2 (by rw [wipe_out hi]; exact h3) (by rw [wipe_out hj]; exact h4)
  · rcases restE_some e with ⟨hi, e1⟩ | ⟨hi, e1⟩
    · rw [noOwn_of hn hi e1] at hc; cases hc
    · have := h4 i c e1 hc
      rw [wipe_out hi] at this
      exact this
abbrev En.more (J : En) (p : Addr) (o : HO) : En := { J with B := (p, o) :: J.B }
theorem Rel.less {p : Addr} {o : HO} (R : Rel T (J.more p o) ρ σ H F) : Rel T J ρ σ H F := ⟨R.len, R.sub, R.slot, R.dis, R.old, R.mono, R.tab, R.ntab, R.aA, fun q hq => R.prot q (List.mem_cons_of_mem _ hq)⟩
theorem Rel.more {p : Addr} {o : HO} (R : Rel T J ρ σ H F) (hp : H p = none) (ho : ∀ ps, o ≠ .tbl ps) : Rel T (J.more p o) ρ σ (upd H p o) F := by
  have R1 : Rel T J ρ σ (upd H p o) F := R.allocO hp
  refine ⟨R1.len, R1.sub, R1.slot, R1.dis, R1.old, R1.mono, R1.tab, R1.ntab, R1.aA, fun q hq => ?_⟩
  rcases List.mem_cons.mp hq with rfl | hq
  · refine ⟨upd_same, R.fp hp, ⟨ho, (R.jp hp).1, (R.jp hp).2⟩, fun i c e hc z => ?_⟩
    obtain ⟨v, e1, s⟩ := R.slot i c e
    rw [z] at e1; cases e1
    cases c with
    | sh d => cases hc
    | ow d => obtain ⟨a, hv, w, _⟩ := s; cases hv; obtain ⟨o, ho, _⟩ := w.some; rw [hp] at ho; cases ho
    | mu d => obtain ⟨a, hv, w, _⟩ := s; cases hv; obtain ⟨o, ho, _⟩ := w.some; rw [hp] at ho; cases ho
  · exact R1.prot q hq
theorem Rel.putB {p : Addr} {o o' : HO} (R : Rel T (J.more p o) ρ σ H F) (ho : ∀ ps, o' ≠ .tbl ps) (hB : ∀ q ∈ J.B, q.1 ≠ p) : Rel T (J.more p o') ρ σ (upd H p o') F := by
  obtain ⟨hp, hF, ⟨hno, hJ, hA⟩, hs⟩ := R.prot (p, o) List.mem_cons_self
  have hp : H p = some o := hp
  refine ⟨R.len, fun b u e => ?_, fun i c e => ?_, R.dis, fun b u e hb => ?_, R.mono, fun P hP => ?_, R.ntab, fun b hb => ?_, fun q hq => ?_⟩
  · rw [upd_ne (ne_of_none e hF)]; exact R.sub _ _ e
  · obtain ⟨v, e1, s⟩ := R.slot i c e
    cases c with
    | sh d => exact ⟨v, e1, s⟩
    | ow d =>
      obtain ⟨a, hv, w, r⟩ := s
      have ne : a ≠ p := by rintro rfl; subst hv; exact hs i _ e rfl e1
      exact ⟨v, e1, a, hv, w.mono (HLe.refl F) (upd_ne ne), r⟩
    | mu d =>
      obtain ⟨a, hv, w, r⟩ := s
      have ne : a ≠ p := by rintro rfl; subst hv; exact hs i _ e rfl e1
      exact ⟨v, e1, a, hv, w.mono (HLe.refl F) (upd_ne ne), r⟩
  · obtain ⟨o1, e1⟩ := R.old b u e hb
    exact ⟨o1.trans fun y hy => Old.refl (by rw [upd_ne (ne_of_none e hJ)]; exact hy), e1⟩
  · obtain ⟨ps, e⟩ := R.tab P hP
    have ne : P ≠ p := by rintro rfl; rw [hp] at e; cases e; exact hno ps rfl
    exact ⟨ps, by rw [upd_ne ne]; exact e⟩
  · have ne : b ≠ p := by rintro rfl; exact hA hb
    obtain ⟨⟨u, e⟩, z⟩ := R.aA b hb
    exact ⟨⟨u, by rw [upd_ne ne]; exact e⟩, z⟩
  · rcases List.mem_cons.mp hq with rfl | hq
    · exact ⟨upd_same, hF, ⟨ho, hJ, hA⟩, hs⟩
    · obtain ⟨h1, h2⟩ := R.prot q (List.mem_cons_of_mem _ hq)
      exact ⟨by rw [upd_ne (hB q hq)]; exact h1, h2⟩
end
def wYes : WT := fun ρ Q => Q true ρ
def lcL (g : PGt) (wt : WT) (we : WE) (vs : List Nat) : List D → List D → Env' → (List D → Env' → Prop) → Prop
  | [], acc, ρ, Q => Q acc ρ
  | d :: ds, acc, ρ, Q => g d ρ fun ρ1 => wt ρ1 fun b ρ2 => match b with
    | true => we ρ2 fun o ρ3 => pUse ρ3 o fun e ρ4 => acc.length < sizeLine ∧ lcL g wt we vs ds (acc ++ [e]) (wipeE ρ4 vs) Q
    | false => lcL g wt we vs ds acc (wipeE ρ2 vs) Q
def wLc (wi : WI) (g : PGt) (wt : WT) (we : WE) (vs : List Nat) : WF := fun ρ Q => wi ρ fun ds ρ1 => noOwnB ρ1 vs = true ∧ lcL g wt we vs ds [] (wipeE ρ1 vs) fun acc ρ2 => Q (.lst acc) (restE ρ1 ρ2 vs)
section
variable {T : Tb} {k : Nat} {P : Pt} {N : List Str} {sc scope : Scope} {a b c tg iter elt : Expr} {ifs : List Expr} {wa wb we : WE} {wi : WI} {wt : WT} {g : PGt} {pos gpos : Pos} {ws : List Nat} {own : List (Str × Nat)}
structure VTs (T : Tb) (k : Nat) (P : Pt) (N : List Str) (sc : Scope) (es : List Expr) (w : WT) : Prop where
  mk :: (of : ∀ X J, Gd T k P N sc X → PTs X es (tT T J w))
theorem PTs.imp {X : Cx} {e : List Expr} {t t' : TT} (h : PTs X e t) (k : ∀ σ H Q, t' σ H Q → t σ H Q) : PTs X e t' := fun pins s σ H Q I q => h pins s σ H Q I (k σ H Q q)
theorem vts_nil : VTs T k P N sc [] wYes := ⟨fun X J G => pts_nil.imp fun σ H Q => by
  rintro ⟨ρ, F, Q', R, q, z⟩
  exact z true H F ρ R (HLe.refl F) q⟩
theorem vts_one (h : VT T k P N sc c wt) : VTs T k P N sc [c] wt := ⟨fun X J G => pts_one (h.of X J G)⟩
abbrev Pt.blk (P : Pt) (scope : Scope) : Pt := ⟨P.tab, fun x => scope.names.lookup x == some .cell⟩
theorem Gd.blk {X : Cx} (G : Gd T k P N sc X) (s : Shared) (H : Hp) (C : Addr) (cl : List (Str × Addr)) (fp : List Addr) : Gd T k (P.blk scope) N (relS scope sc) (X.blk s H scope (compEnvC scope cl C X.env) fp) :=
  ⟨G.prog, G.w, G.K, G.mg, G.base, G.hN, G.nd, fun x h => h, by rw [← G.sc]; rfl, G.calm, G.room, G.tab, G.sm⟩
theorem lc_of {J : En} (hws : ∀ j ∈ ws, j ∈ own.map (·.2)) : ∀ σ H Q, tF T J (wLc wi g wt we (own.map (·.2))) σ H Q →
    tLc (tI T J wi) (fun v σ H Q => ∃ J', tG T J' ws g v σ H Q) (fun σ H Q => ∃ J', tT T J' wt σ H Q) (fun σ H Q => ∃ J', tE T J' we σ H Q) (own.map (·.2)) σ H Q := by
  rintro σ H Q ⟨ρ, F, Q', R, q, z⟩
  generalize own.map (·.2) = vs at hws q ⊢
  refine ⟨ρ, F, _, R, q, fun I H1 F1 ds ρ1 R1 m1 io q1 => fun D hD => ?_⟩
  obtain ⟨hno, q1⟩ := q1
  have hB : ∀ q ∈ J.B, q.1 ≠ D := fun q hq z => by have := (R1.prot q hq).1; rw [z, hD] at this; cases this
  have Rw := (R1.wipe vs).more (o := .lst []) hD fun _ z => nomatch z
  refine ⟨fun i m H' => i + m = ds.length ∧ ∃ ρ' F' av ad, Rel T (J.more D (.lst av)) ρ' (wipe σ vs) H' F' ∧ HLe F1 F' ∧ Reps T.mg F' av ad ∧ lcL g wt we vs (ds.drop i) ad ρ' (fun acc ρ2 => Q' (.lst acc) (restE ρ1 ρ2 vs)),
    ⟨ds.length, Nat.zero_add _, _, F1, [], [], Rw, HLe.refl _, .nil, q1⟩, ?_⟩
  rintro i m H' ⟨him, ρ', F', av, ad, R', m', ra, q'⟩
  by_cases hlt : i < ds.length
  · refine .inr ⟨io.go R' m' i hlt, fun H2 => ∃ ρ2 F2 av ad, Rel T (J.more D (.lst av)) ρ2 (wipe σ vs) H2 F2 ∧ HLe F1 F2 ∧ Reps T.mg F2 av ad ∧ lcL g wt we vs (ds.drop (i + 1)) ad ρ2 (fun acc ρ2 => Q' (.lst acc) (restE ρ1 ρ2 vs)), fun H2 h2 => ⟨m - 1, by omega, by omega, h2⟩, fun x H2 y => ?_⟩
    have hd : ds[i]? = some ds[i] := List.getElem?_eq_getElem hlt
    obtain ⟨F2, m2, R2, r2⟩ := io.yld R' m' i x H2 y _ hd
    rw [List.drop_eq_getElem_cons hlt] at q'
    refine ⟨J.more D (.lst av), ρ', F2, ds[i], _, R2, r2, q', fun σ3 ρ3 R3 e3 q3 => ?_⟩
    have ew : wipe σ3 vs = wipe σ vs := by
      rw [← wipe_wipe σ vs]
      exact wipe_eq e3.1 fun j hj => e3.2 j fun z => hj (hws j z)
    refine ⟨ew, J.more D (.lst av), ρ3, F2, _, R3, q3, fun b H3 F3 ρ4 R4 m4 q4 => ?_⟩
    cases b with
    | true =>
      refine iteT ⟨J.more D (.lst av), ρ4, F3, _, R4, q4, fun y H4 F4 o ρ5 R5 m5 ho q5 => ?_⟩
      obtain ⟨e, ρ6, F6, h6, R6, m6, r6⟩ := use_ok R5 ho q5
      have m26 : HLe F' F6 := m2.trans (m4.trans (m5.trans m6))
      refine ⟨av, (R6.prot _ List.mem_cons_self).1, by rw [ra.length]; exact h6.1, wipeE ρ6 vs, F6, av ++ [y], ad ++ [e], ?_, m'.trans m26, (ra.mono m26).snoc r6, h6.2⟩
      rw [← ew]
      exact (R6.wipe vs).putB (fun _ z => nomatch z) hB
    | false =>
      refine iteF ⟨wipeE ρ4 vs, F3, av, ad, ?_, m'.trans (m2.trans m4), ra.mono (m2.trans m4), q4⟩
      rw [← ew]
      exact R4.wipe vs
  · have e : i = ds.length := by omega
    subst e
    rw [List.drop_of_length_le (Nat.le_refl _)] at q'
    have pr := R'.prot _ List.mem_cons_self
    have RR := R1.rest R'.less m' hno
    refine .inl ⟨io.stop R' m', z D H' F' (.lst ad) _ RR (m1.trans m') ⟨⟨av, pr.1, ra⟩, pr.2.1, pr.2.2.1.2.1, fun i c e hc z => ?_, hB⟩ q'⟩
    rcases restE_some e with ⟨hi, e1⟩ | ⟨hi, e1⟩
    · rw [noOwn_of hno hi e1] at hc; cases hc
    · exact pr.2.2.2 i c e1 hc (by rw [wipe_out hi]; exact z)
theorem ex_pg {X : Cx} {ts : En → TG} (h : ∀ J, PG X tg (ts J)) : PG X tg (fun v σ H Q => ∃ J', ts J' v σ H Q) := fun pins s σ H v u Q I r ⟨J', q⟩ => h J' pins s σ H v u Q I r q
theorem ex_pe {X : Cx} {ts : En → TE} (h : ∀ J, PE X a (ts J)) : PE X a (fun σ H Q => ∃ J', ts J' σ H Q) := fun pins s σ H Q I ⟨J', q⟩ => h J' pins s σ H Q I q
theorem ex_pts {X : Cx} {ts : En → TT} (h : ∀ J, PTs X ifs (ts J)) : PTs X ifs (fun σ H Q => ∃ J', ts J' σ H Q) := fun pins s σ H Q I ⟨J', q⟩ => h J' pins s σ H Q I q
theorem vf_lc (own : List (Str × Nat)) (hi : VI T k P N sc tg iter wi) (hg : VG T k (P.blk scope) N (relS scope sc) ws tg g) (ht : VTs T k (P.blk scope) N (relS scope sc) ifs wt) (he : VE T k (P.blk scope) N (relS scope sc) elt we)
    (ok : blkC N sc scope own = true := by decide +kernel) (hws : ∀ j ∈ ws, j ∈ own.map (·.2) := by decide) (hs : ∀ env x, foldedSetIterable iter env x = pure x := by intro _ _; rfl) :
    VF T k P N sc (.ListComp elt [⟨tg, iter, ifs, 0⟩] scope pos) (wLc wi g wt we (own.map (·.2))) := ⟨fun X J G =>
  (pe_lc (own := own) G.calm G.nodup (hi.of X J G) (by rw [G.hN, G.sc]; exact blkOk_by ok) (fun s H C cl fp => ex_pg fun J' => hg.of _ J' (G.blk s H C cl fp)) (fun s H C cl fp => ex_pts fun J' => ht.of _ J' (G.blk s H C cl fp)) (fun s H C cl fp => ex_pe fun J' => he.of _ J' (G.blk s H C cl fp)) (hs X.env)).imp (lc_of hws)⟩
theorem vs_setLc (i : Nat) (own : List (Str × Nat)) {y : Str} {py spos : Pos} (hi : VI T k P N sc tg iter wi) (hg : VG T k (P.blk scope) N (relS scope sc) ws tg g) (ht : VTs T k (P.blk scope) N (relS scope sc) ifs wt) (he : VE T k (P.blk scope) N (relS scope sc) elt we)
    (ok : blkC N sc scope own = true := by decide +kernel) (hN : N[i]? = some y := by rfl) (hy : sc.names.lookup y = some .local := by rfl) (hk : sc.kind = .function := by rfl) (hl : (py.line == pos.line) = true := by rfl) (hx : (scope.names.any fun (n, k) => n == y && (k == .local || k == .cell)) = false := by decide +kernel)
    (hws : ∀ j ∈ ws, j ∈ own.map (·.2) := by decide) (hs : ∀ env x, foldedSetIterable iter env x = pure x := by intro _ _; rfl) :
    VS T k P N sc (.Assign [.Name y py] (.ListComp elt [⟨tg, iter, ifs, 0⟩] scope pos) spos) (wSet i (wFO (wLc wi g wt we (own.map (·.2))))) := ⟨fun X J G =>
  (ps_setLc (i := i) (own := own) G.calm G.nodup (by rw [G.hN]; exact hN) (by rw [G.sc]; exact hy) (sw_true (by rw [G.sc]; exact hk) (by rw [G.sc]; exact hy) hl hx) (hi.of X J G) (by rw [G.hN, G.sc]; exact blkOk_by ok) (fun s H C cl fp => ex_pg fun J' => hg.of _ J' (G.blk s H C cl fp)) (fun s H C cl fp => ex_pts fun J' => ht.of _ J' (G.blk s H C cl fp)) (fun s H C cl fp => ex_pe fun J' => he.of _ J' (G.blk s H C cl fp)) (hs X.env)).imp fun E σ H => by
    rintro ⟨ρ, F, D, R, q, z⟩
    refine lc_of hws σ H _ ⟨ρ, F, (fun d ρ' => pFree ρ' i (D.nx (ρ'.set i (some (.ow d))))), R, q, fun a H' F' d ρ' R' m f q' => ?_⟩
    obtain ⟨h, R2⟩ := set_ok (c := .ow d) R' ⟨a, rfl, f⟩ q'
    exact z.1 _ H' F' _ R2 m h⟩
def genL (stopAt : Bool) (g : PGt) (we : WE) (vs : List Nat) : List D → Env' → (Bool → Env' → Prop) → Prop
  | [], ρ, Q => Q (!stopAt) ρ
  | d :: ds, ρ, Q => g d ρ fun ρ1 => we ρ1 fun o ρ2 => pRd ρ2 o fun e => match e with
    | .bl b => if b = stopAt then Q stopAt (wipeE ρ2 vs) else genL stopAt g we vs ds (wipeE ρ2 vs) Q
    | _ => False
def wGen (stopAt : Bool) (wi : WI) (g : PGt) (we : WE) (vs : List Nat) : WE := fun ρ Q => wi ρ fun ds ρ1 => noOwnB ρ1 vs = true ∧ genL stopAt g we vs ds (wipeE ρ1 vs) fun b ρ2 => Q (.val (.bl b)) (restE ρ1 ρ2 vs)
theorem gen_of' {J : En} {stopAt : Bool} {p : Addr} (hp : p ∈ T.tabs) (hws : ∀ j ∈ ws, j ∈ own.map (·.2)) : ∀ σ H Q, tE T J (wGen stopAt wi g we (own.map (·.2))) σ H Q → tGen stopAt p (tI T J wi) (tG T J ws g) (tE T J we) (own.map (·.2)) σ H Q := by
  rintro σ H Q ⟨ρ, F, Q', R, q, z⟩
  generalize own.map (·.2) = vs at hws q ⊢
  refine ⟨ρ, F, _, R, q, fun I H1 F1 ds ρ1 R1 m1 io q1 => ?_⟩
  obtain ⟨hno, q1⟩ := q1
  obtain ⟨ps, hps⟩ := R1.tab p hp
  refine ⟨ps, hps, fun more => ?_⟩
  have Rw := (R1.wipe vs).tbl (more := more) hps
  refine ⟨fun i m H' => i + m = ds.length ∧ ∃ ρ' F', Rel T J ρ' (wipe σ vs) H' F' ∧ HLe F1 F' ∧ genL stopAt g we vs (ds.drop i) ρ' (fun b ρ2 => Q' (.val (.bl b)) (restE ρ1 ρ2 vs)),
    ⟨ds.length, Nat.zero_add _, _, F1, Rw, HLe.refl _, q1⟩, ?_⟩
  rintro i m H' ⟨him, ρ', F', R', m', q'⟩
  by_cases hlt : i < ds.length
  · refine .inr ⟨io.go R' m' i hlt, fun H2 => ∃ ρ2 F2, Rel T J ρ2 (wipe σ vs) H2 F2 ∧ HLe F1 F2 ∧ genL stopAt g we vs (ds.drop (i + 1)) ρ2 (fun b ρ2 => Q' (.val (.bl b)) (restE ρ1 ρ2 vs)), fun H2 h2 => ⟨m - 1, by omega, by omega, h2⟩, fun x H2 y => ?_⟩
    have hd : ds[i]? = some ds[i] := List.getElem?_eq_getElem hlt
    obtain ⟨F2, m2, R2, r2⟩ := io.yld R' m' i x H2 y _ hd
    rw [List.drop_eq_getElem_cons hlt] at q'
    refine ⟨ρ', F2, ds[i], _, R2, r2, q', fun σ3 ρ3 R3 e3 q3 => ?_⟩
    have ew : wipe σ3 vs = wipe σ vs := by
      rw [← wipe_wipe σ vs]
      exact wipe_eq e3.1 fun j hj => e3.2 j fun z => hj (hws j z)
    refine ⟨ew, ρ3, F2, _, R3, q3, fun y H4 F4 o ρ5 R5 m5 ho q5 => ?_⟩
    obtain ⟨e, h6, r6⟩ := rd_ok R5 ho q5
    cases e with
    | bl b =>
      refine ⟨b, r6.bl, ?_⟩
      have RW : Rel T J (wipeE ρ5 vs) (wipe σ vs) H4 F4 := by rw [← ew]; exact R5.wipe vs
      have h6 : if b = stopAt then Q' (.val (.bl stopAt)) (restE ρ1 (wipeE ρ5 vs) vs) else genL stopAt g we vs (ds.drop (i + 1)) (wipeE ρ5 vs) (fun b ρ2 => Q' (.val (.bl b)) (restE ρ1 ρ2 vs)) := h6
      by_cases hb : b = stopAt
      · rw [if_pos hb] at h6 ⊢
        exact z _ H4 F4 (.val (.bl stopAt)) _ (R1.rest RW (m'.trans (m2.trans m5)) hno) (m1.trans (m'.trans (m2.trans m5))) (.bl _) h6
      · rw [if_neg hb] at h6 ⊢
        exact ⟨wipeE ρ5 vs, F4, RW, m'.trans (m2.trans m5), h6⟩
    | _ => exact h6.elim
  · have e : i = ds.length := by omega
    subst e
    rw [List.drop_of_length_le (Nat.le_refl _)] at q'
    exact .inl ⟨io.stop R' m', z _ H' F' (.val (.bl (!stopAt))) _ (R1.rest R' m' hno) (m1.trans m') (.bl _) q'⟩
abbrev Pt.gen : Pt := ⟨none, fun _ => false⟩
theorem Gd.gen {X : Cx} (G : Gd T (k + 1) P N sc X) (A : Around) (s : Shared) (H : Hp) (C : Addr) (cl : List (Str × Addr)) (code : Value) (fp : List Addr) (hr : Room k A) : Gd T k Pt.gen N scope (X.gen A s H (genEnv scope cl C code builtinsNs X.env) fp) :=
  ⟨G.prog, G.w, G.K, G.mg, G.base, G.hN, G.nd, fun x h => absurd (show false = true from h) (by decide), rfl, G.calm, hr, fun p h => (by cases h), G.sm⟩
theorem ve_all (own : List (Str × Nat)) {p : Addr} {p1 : Pos} (hm : T.mg "all" = none) (hP : P.tab = some p) (hi : VI T (k + 1) P N sc tg iter wi) (hg : VG T k Pt.gen N scope ws tg g) (he : VE T k Pt.gen N scope elt we)
    (ok : blkC N sc scope own = true := by decide +kernel) (hcell : ∀ y ∈ scope.names, y.2 ≠ .cell := by decide) (h0 : scope.names.lookup (".0" : Str) = some NameKind.local := by rfl) (hco : scope.isCoroutine = false := by rfl) (hG : sc.names.lookup ("all" : Str) = some .globalImplicit := by rfl)
    (hws : ∀ j ∈ ws, j ∈ own.map (·.2) := by decide) (hs : ∀ env x, genFold iter env x = pure x := by intro _ _; rfl) :
    VE T (k + 1) P N sc (.Call (.Name "all" p1) [.GeneratorExp elt [⟨tg, iter, [], 0⟩] scope gpos] [] pos) (wGen false wi g we (own.map (·.2))) := ⟨fun X J G =>
  (pe_all (own := own) G.calm G.nodup G.room (G.gl hG) (by rw [G.mg]; exact hm) (hi.of X J G) (by rw [G.hN, G.sc]; exact blkOk_by ok) hcell h0 hco (G.tab p hP).1 (fun A s H C cl code fp hr => hg.of _ J (G.gen A s H C cl code fp hr)) (fun A s H C cl code fp hr => he.of _ J (G.gen A s H C cl code fp hr)) (hs X.env)).imp (gen_of' (G.tab p hP).2 hws)⟩
end
abbrev FS := List D → (Cell → D → Prop) → Prop
structure Fe where
  mt : Bool
  sp : FS
structure ArgOk (T : Tb) (mt : Bool) (H F : Hp) (vs : List V) (ds : List D) : Prop where
  sub : HLe F H
  tab : ∀ P ∈ T.tabs, ∃ ps, H P = some (.tbl ps)
  ntab : ∀ b ps, F b ≠ some (.tbl ps)
  args : match mt with
    | true => ∃ a vr d dr, vs = .ref a :: vr ∧ ds = d :: dr ∧ OwnAt T.mg H F a d ∧ F a = none ∧ Reps T.mg F vr dr
    | false => Reps T.mg F vs ds
def mutA : Bool → List V → List Addr
  | true, .ref a :: _ => [a]
  | _, _ => []
def HalfR (T : Tb) (H H' F' : Hp) (v : V) (b : Addr) : D → Prop
  | .lst es => ∃ c, v = .ref c ∧ c ≠ b ∧ OwnAt T.mg H' F' c (.lst es) ∧ F' c = none ∧ H c = none
  | d => Rep T.mg F' v d
theorem HalfOk.res {T : Tb} {J : En} {ρ : Env'} {σ : St} {H H' F' : Hp} {v : V} {b : Addr} (hJ : ∀ c, J.H c = none → H c = none) : ∀ {d : D}, HalfOk T J ρ σ H' F' v b d → HalfR T H H' F' v b d
  | .lst es, ⟨c, h1, h2, f⟩ => ⟨c, h1, h2, f.own, f.nf, hJ c f.nj⟩
  | .int _, h => h | .bl _, h => h | .non, h => h | .str _, h => h | .tup _, h => h | .dic _, h => h | .fn _, h => h | .exc _, h => h
def ResOk (T : Tb) (H H' F' : Hp) (v : V) : Cell → Prop
  | .sh d => Rep T.mg F' v d
  | .ow d => ∃ p, v = .ref p ∧ OwnAt T.mg H' F' p d ∧ F' p = none ∧ H p = none
  | .mu d => ∃ a b v0 d0 ds, v = .ref a ∧ d = .tup [d0, .lst ds] ∧ F' a = some (.tup [v0, .ref b]) ∧ HalfR T H H' F' v0 b d0 ∧ OwnAt T.mg H' F' b (.lst ds) ∧ F' b = none ∧ H b = none
structure PostOk (T : Tb) (mt : Bool) (H F H' F' : Hp) (vs : List V) (v : V) (c : Cell) (e : D) : Prop where
  old : ∀ b o, H b = some o → b ∉ mutA mt vs → Old o H' b ∧ F' b = F b
  mono : HLe F F'
  sub : HLe F' H'
  tab : ∀ P ∈ T.tabs, ∃ ps, H' P = some (.tbl ps)
  ntab : ∀ b ps, F' b ≠ some (.tbl ps)
  mu : ∀ a ∈ mutA mt vs, OwnAt T.mg H' F' a e ∧ F' a = none
  res : ResOk T H H' F' v c
def spOf (T : Tb) (mt : Bool) (f : FS) : Sp := fun vs H Q _ => ∃ ds F κ, ArgOk T mt H F vs ds ∧ f ds κ ∧ ∀ v H' F' c e, PostOk T mt H F H' F' vs v c e → κ c e → Q v H'
structure FunC (K : PySem.W.Frag) (x qual : Str) (st : Stmt) (f : Addr) (fd : FuncData) (cdv : Value) : Prop where
  ex : ∃ (oc : Value) (od : Option Addr) (kV doc pm : Value) (an : Option Addr) (ct : Value) (osl : Array (Option Value)),
    fd = PySem.W.fnOf x qual (defArgs st) (defBody st) (defScope st) .none kV doc pm an cdv ct ∧ K.lookup f = some ⟨oc, od, .func fd, osl⟩ ∧ PySem.W.codeIn K cdv qual = true
  kp : PySem.W.keepIn K (.ref f) = true
theorem func_mk {K : PySem.W.Frag} {x qual : Str} {st : Stmt} {f : Addr} {oc : Value} {od an : Option Addr} {osl : Array (Option Value)} {kV doc pm cdv ct : Value} (l : K.lookup f = some ⟨oc, od, .func (PySem.W.fnOf x qual (defArgs st) (defBody st) (defScope st) .none kV doc pm an cdv ct), osl⟩)
    (c : PySem.W.codeIn K cdv qual = true) (k : PySem.W.keepIn K (.ref f) = true) : FunC K x qual st f (PySem.W.fnOf x qual (defArgs st) (defBody st) (defScope st) .none kV doc pm an cdv ct) cdv := ⟨⟨oc, od, kV, doc, pm, an, ct, osl, rfl, l, c⟩, k⟩
theorem FunC.binds {K : PySem.W.Frag} {x qual : Str} {st : Stmt} {f : Addr} {fd : FuncData} {cdv : Value} {ps : List Str} (F : FunC K x qual st f fd cdv)
    (h : ∀ (kV doc pm : Value) (an : Option Addr) (cdv ct : Value) (us : List Value), us.length = ps.length → bindArgs (PySem.W.fnOf x qual (defArgs st) (defBody st) (defScope st) .none kV doc pm an cdv ct) ⟨us, []⟩ = pure (ps.zip us)) : Binds K fd ps [] := by
  obtain ⟨oc, od, kV, doc, pm, an, ct, osl, rfl, lk, hcd⟩ := F.ex
  exact .all (h kV doc pm an cdv ct)
def shs (ds : List D) : Env' := ds.map fun d => some (.sh d)
def startE (mt : Bool) (n : Nat) (ds : List D) : Env' := (match mt, ds with
  | true, d :: r => some (.mu d) :: shs r
  | _, ds => shs ds) ++ List.replicate (n - ds.length) none
def pEnd (mt : Bool) (κ : Cell → D → Prop) (c : Cell) (ρ : Env') : Prop := match mt with
  | true => (match (ρ[0]? : Option (Option Cell)) with
    | some (some (Cell.mu e)) => κ c e
    | _ => False)
  | false => κ c .non
theorem shs_get {mg : Str → Option Value} {F : Hp} : ∀ {vs : List V} {ds : List D} {n m i : Nat} {c : Cell}, Reps mg F vs ds → (shs ds ++ List.replicate n none)[i]? = some (some c) → ∃ d v, c = .sh d ∧ (vs.map some ++ List.replicate m none)[i]? = some (some v) ∧ Rep mg F v d
  | _, _, n, m, i, c, .nil, e => by
    have e : (List.replicate n (none : Option Cell))[i]? = some (some c) := e
    rw [List.getElem?_replicate] at e
    split at e <;> cases e
  | _, _, n, m, 0, c, .cons h r, e => by
    have e : some (some (Cell.sh _)) = some (some c) := e
    cases e
    exact ⟨_, _, rfl, rfl, h⟩
  | _, _, n, m, i + 1, c, .cons h r, e => shs_get (n := n) (m := m) (i := i) (c := c) r e
theorem rel_start {T : Tb} {mt : Bool} {H F : Hp} {vs : List V} {ds : List D} {N : List Str} (h : ArgOk T mt H F vs ds) (hl : vs.length ≤ N.length) (hd : ds.length = vs.length) : Rel T ⟨H, F, mutA mt vs, []⟩ (startE mt N.length ds) (start N vs) H F := by
  have len : (startE mt N.length ds).length = (start N vs).length := by
    unfold startE start
    rw [List.length_append, List.length_append, List.length_replicate, List.length_replicate, List.length_map, hd]
    have : (match mt, ds with | true, d :: r => some (Cell.mu d) :: shs r | _, ds => shs ds).length = vs.length := by
      split
      · rw [List.length_cons]; unfold shs; rw [List.length_map]; simpa using hd
      · unfold shs; rw [List.length_map]; exact hd
    omega
  cases mt with
  | false =>
    have rs : Reps T.mg F vs ds := h.args
    have hg : ∀ (i : Nat) (c : Cell), (startE false N.length ds)[i]? = some (some c) → ∃ d v, c = .sh d ∧ (start N vs)[i]? = some (some v) ∧ Rep T.mg F v d := fun i c e => shs_get rs e
    refine ⟨len, h.sub, fun i c e => ?_, fun i j c c' v e e' h1 => ?_, fun b o e hb => ⟨Old.refl e, rfl⟩, HLe.refl F, h.tab, h.ntab, fun b hb => ?_, fun q hq => (by cases hq)⟩
    · obtain ⟨d, v, rfl, ev, r⟩ := hg i c e
      exact ⟨v, ev, r⟩
    · obtain ⟨d, v, rfl, ev, r⟩ := hg i c e
      cases h1
    · cases hb
  | true =>
    obtain ⟨a, vr, d0, dr, rfl, rfl, ow, nf, rs⟩ := h.args
    have hg : ∀ (i : Nat) (c : Cell), (startE true N.length (d0 :: dr))[i + 1]? = some (some c) → ∃ d v, c = .sh d ∧ (start N (.ref a :: vr))[i + 1]? = some (some v) ∧ Rep T.mg F v d := fun i c e => by
      have e : (shs dr ++ List.replicate (N.length - (d0 :: dr).length) none)[i]? = some (some c) := e
      exact shs_get (vs := vr) (ds := dr) (m := N.length - (V.ref a :: vr).length) rs e
    have h0 : ∀ c, (startE true N.length (d0 :: dr))[0]? = some (some c) → c = .mu d0 := fun c e => by
      have e : some (some (Cell.mu d0)) = some (some c) := e
      cases e; rfl
    refine ⟨len, h.sub, fun i c e => ?_, fun i j c c' v e e' h1 h2 _ _ => ?_, fun b o e hb => ⟨Old.refl e, rfl⟩, HLe.refl F, h.tab, h.ntab, fun b hb => ?_, fun q hq => by cases hq⟩
    · cases i with
      | zero =>
        cases h0 c e
        obtain ⟨o, ho, _⟩ := ow.some
        exact ⟨.ref a, rfl, a, rfl, ow, nf, List.mem_singleton.mpr rfl, fun z => by rw [show H a = none from z] at ho; cases ho⟩
      | succ i =>
        obtain ⟨d, v, rfl, ev, r⟩ := hg i c e
        exact ⟨v, ev, r⟩
    · cases i with
      | zero =>
        cases j with
        | zero => rfl
        | succ j => obtain ⟨d, v, rfl, ev, r⟩ := hg j c' e'; cases h2
      | succ i => obtain ⟨d, v, rfl, ev, r⟩ := hg i c e; cases h1
    · have : b = a := by simpa [mutA] using hb
      subst this
      obtain ⟨o, ho, _⟩ := ow.some
      exact ⟨⟨o, ho⟩, fun z => by rw [show H b = none from z] at ho; cases ho⟩
theorem argOk_len {T : Tb} {mt : Bool} {H F : Hp} {vs : List V} {ds : List D} (h : ArgOk T mt H F vs ds) : vs.length = ds.length := by
  cases mt with
  | false => have rs : Reps T.mg F vs ds := h.args; exact rs.length
  | true => obtain ⟨a, vr, d0, dr, rfl, rfl, ow, nf, rs⟩ := h.args; rw [List.length_cons, List.length_cons, rs.length]
section
variable {T : Tb} {k : Nat} {N ps : List Str} {x qual : Str} {st : Stmt} {f : Addr} {fd : FuncData} {cdv : Value} {tab : Option Addr} {mt : Bool} {fs : FS} {w : WS}
theorem FunC.ok (Fn : FunC T.K x qual st f fd cdv) (S : FnScope N ps (defScope st)) (hsm : ∃ o, T.base.get? sysModules = some o) (htab : ∀ p, tab = some p → TabIn T.K cdv p ∧ p ∈ T.tabs)
    (hb : VSs T k ⟨tab, fun _ => true⟩ N (defScope st) (defBody st) w)
    (hl : ∀ ds κ, fs ds κ → ds.length = ps.length) (hs : ∀ ds κ, fs ds κ → w { nx := fun ρ => pEnd mt κ (.sh .non) ρ, rt := fun c ρ => pEnd mt κ c ρ } (startE mt N.length ds)) :
    FnOk T.P T.w T.K T.mg T.base CX0 (k + 1) f fd ps (spOf T mt fs) := by
  obtain ⟨oc, od, kV, doc, pm, an, ct, osl, rfl, lk, hcd⟩ := Fn.ex
  have hpl : ps.length ≤ N.length := by have := congrArg List.length S.pre; rw [List.length_take] at this; omega
  refine fn_of lk hcd S (fun vs H Q E h => ?_) fun A outer s H vs Q E hr hsp => ?_
  · obtain ⟨ds, F, κ, ha, hf, _⟩ := h
    rw [argOk_len ha]; exact hl ds κ hf
  · obtain ⟨ds, F, κ, ha, hf, z⟩ := hsp
    have hlen := argOk_len ha
    have hdl := hl ds κ hf
    have G : Gd T k ⟨tab, fun _ => true⟩ N (defScope st) (cxOf CX0 T.P T.w T.K T.mg T.base N qual (defScope st) f cdv A outer s H E).nox :=
      ⟨rfl, rfl, rfl, rfl, rfl, rfl, S.nd, fun _ _ => rfl, rfl, rfl, hr, htab, hsm⟩
    refine ⟨_, (hb.of _ ⟨H, F, mutA mt vs, []⟩ G).nox, startE mt N.length ds, F, _, rel_start ha (by omega) hlen.symm, hs ds κ hf, ?_⟩
    have fin : ∀ {σ' : St} {v : V} {H' F' : Hp} {c : Cell} {ρ' : Env'}, Rel T ⟨H, F, mutA mt vs, []⟩ ρ' σ' H' F' → CellOk T ⟨H, F, mutA mt vs, []⟩ ρ' σ' H' F' v c → pEnd mt κ c ρ' → Q v H' := fun {σ' v H' F' c ρ'} R' hc q => by
      have res : ResOk T H H' F' v c := by
        cases c with
        | sh d => exact hc
        | ow d => obtain ⟨p, hv, fr⟩ := hc; exact ⟨p, hv, fr.own, fr.nf, fr.nj⟩
        | mu d => obtain ⟨a, b, v0, d0, ds, h1, h2, h3, h4, fr⟩ := hc; exact ⟨a, b, v0, d0, ds, h1, h2, h3, h4.res (fun _ z => z), fr.own, fr.nf, fr.nj⟩
      cases mt with
      | false => exact z v H' F' c .non ⟨R'.old, R'.mono, R'.sub, R'.tab, R'.ntab, fun a h => (by cases h), res⟩ q
      | true =>
        unfold pEnd at q
        dsimp only at q
        split at q
        · rename_i e he
          refine z v H' F' c e ⟨R'.old, R'.mono, R'.sub, R'.tab, R'.ntab, fun a h => ?_, res⟩ q
          obtain ⟨v', _, a', _, ow, nf, hA, _⟩ := R'.slot 0 _ he
          have : a' = a := by
            obtain ⟨a0, vr, d0, dr, rfl, _⟩ := ha.args
            have h1 : a' = a0 := by simpa [mutA] using hA
            have h2 : a = a0 := by simpa [mutA] using h
            rw [h1, h2]
          subst this
          exact ⟨ow, nf⟩
        · exact q.elim
    exact ⟨fun σ' H' F' ρ' R' m q => fin (v := .non) (c := .sh .non) R' .non q, fun σ' v H' F' c ρ' R' m hc q => fin R' hc q, fun _ _ _ _ _ _ q => q, fun _ _ _ _ _ _ q => q⟩
end
structure Fok (T : Tb) (x : Str) (kf n : Nat) (fe : Fe) : Prop where
  ex : ∃ f fd ps, T.mg x = some (.ref f) ∧ PySem.W.keepIn T.K (.ref f) = true ∧ Binds T.K fd ps [] ∧ FnOk T.P T.w T.K T.mg T.base CX0 kf f fd ps (spOf T fe.mt fe.sp) ∧ ps.length = n
def pArgs (mt : Bool) (os : List Opd) (ρ : Env') (κ : List D → (D → Env') → Prop) : Prop := match mt with
  | false => pUses ρ os fun ds ρ' => κ ds fun _ => ρ'
  | true => match os with
    | .slot i :: r => pUses ρ r fun ds ρ' => match ρ'[i]? with
      | some (some c) => c.own = true ∧ κ (c.d :: ds) fun e => ρ'.set i (some (c.put e))
      | _ => False
    | _ => False
def wCallO (fe : Fe) (w : WA) : WO := fun ρ Q => w ρ fun os ρ1 => pArgs fe.mt os ρ1 fun ds ρk => fe.sp ds fun c e => Q c (ρk e)
def wCall (fe : Fe) (w : WA) : WE := fun ρ Q => w ρ fun os ρ1 => pArgs fe.mt os ρ1 fun ds ρk => fe.sp ds fun c e => Q (.val c.d) (ρk e)
section
variable {T : Tb} {J : En} {ρ : Env'} {σ : St} {H F : Hp}
theorem after_call {mt : Bool} {vs : List V} {os : List Opd} {κ : List D → (D → Env') → Prop} (R : Rel T J ρ σ H F) (ho : OpdsOk T.mg σ F vs os) (h : pArgs mt os ρ κ) :
    ∃ ds ρk F1, κ ds ρk ∧ HLe F F1 ∧ ArgOk T mt H F1 vs ds ∧ ∀ H' F' v c e, PostOk T mt H F1 H' F' vs v c e → Rel T J (ρk e) σ H' F' ∧ CellOk T J (ρk e) σ H' F' v c := by
  have core : ∀ {ρ1 : Env'} {F1 : Hp} {ρ2 : Env'} {A : List Addr}, Rel T J ρ1 σ H F1 → ρ2.length = ρ1.length → (∀ (i : Nat) (c : Cell), ρ2[i]? = some (some c) → ∃ c1, ρ1[i]? = some (some c1) ∧ c1.own = c.own ∧ ((c1 = c ∧ (c.own = true → ∀ b, σ[i]? = some (some (.ref b)) → b ∉ A)) ∨ c.own = true)) →
      (∀ b ∈ A, ∃ (i : Nat) (c : Cell), ρ1[i]? = some (some c) ∧ c.own = true ∧ σ[i]? = some (some (.ref b))) →
      ∀ {H' F' : Hp} {v : V} {c : Cell} {e : D}, (∀ b o, H b = some o → b ∉ A → Old o H' b ∧ F' b = F1 b) → HLe F1 F' → HLe F' H' → (∀ P ∈ T.tabs, ∃ ps, H' P = some (.tbl ps)) → (∀ b ps, F' b ≠ some (.tbl ps)) →
      (∀ b ∈ A, ∃ u, H' b = some u) →
      (∀ (i : Nat) (c : Cell), ρ2[i]? = some (some c) → ¬ (∃ c1, ρ1[i]? = some (some c1) ∧ c1 = c ∧ (c.own = true → ∀ b, σ[i]? = some (some (.ref b)) → b ∉ A)) → ∃ v, σ[i]? = some (some v) ∧ SlotOk T.mg J H' F' v c) →
      ResOk T H H' F' v c → Rel T J ρ2 σ H' F' ∧ CellOk T J ρ2 σ H' F' v c := by
    intro ρ1 F1 ρ2 A R1 hlen hr hA H' F' v c e old mono sub tab ntab hAs hnew res
    have ownH : ∀ (i : Nat) (c : Cell) (b : Addr), ρ1[i]? = some (some c) → c.own = true → σ[i]? = some (some (.ref b)) → ∃ o, H b = some o ∧ (∀ ps, o ≠ .tbl ps) := fun i c b e hc es => by
      obtain ⟨v, e1, s⟩ := R1.slot i c e
      rw [es] at e1; cases e1
      cases c with
      | sh d => cases hc
      | ow d => obtain ⟨a, hv, w, _⟩ := s; cases hv; exact w.some
      | mu d => obtain ⟨a, hv, w, _⟩ := s; cases hv; exact w.some
    have keep : ∀ b o, H b = some o → (∀ ps, o ≠ .tbl ps) → b ∉ A → H' b = some o := fun b o hb hn hbA => (old b o hb hbA).1.eq hn
    have Rel' : Rel T J ρ2 σ H' F' := by
      refine ⟨by rw [hlen]; exact R1.len, sub, fun i c e => ?_, fun i j c c' v e e' h1 h2 h3 h4 => ?_, fun b o e hb => ?_, R1.mono.trans mono, tab, ntab, fun b hb => ?_, fun q hq => ?_⟩
      · by_cases hx : ∃ c1, ρ1[i]? = some (some c1) ∧ c1 = c ∧ (c.own = true → ∀ b, σ[i]? = some (some (.ref b)) → b ∉ A)
        · obtain ⟨c1, e1, rfl, hnA⟩ := hx
          obtain ⟨v, e2, s⟩ := R1.slot i c1 e1
          refine ⟨v, e2, ?_⟩
          cases c1 with
          | sh d => exact Rep.mono mono s
          | ow d =>
            obtain ⟨a, hv, w, n, r⟩ := s
            subst hv
            obtain ⟨o, ho, hno⟩ := w.some
            have hbA := hnA rfl a e2
            exact ⟨a, rfl, w.mono mono ((keep a o ho hno hbA).trans ho.symm), by rw [(old a o ho hbA).2]; exact n, r⟩
          | mu d =>
            obtain ⟨a, hv, w, n, r⟩ := s
            subst hv
            obtain ⟨o, ho, hno⟩ := w.some
            have hbA := hnA rfl a e2
            exact ⟨a, rfl, w.mono mono ((keep a o ho hno hbA).trans ho.symm), by rw [(old a o ho hbA).2]; exact n, r⟩
        · exact hnew i c e hx
      · obtain ⟨c1, e1, o1, _⟩ := hr i c e
        obtain ⟨c2, e2, o2, _⟩ := hr j c' e'
        exact R1.dis i j c1 c2 v e1 e2 (o1.trans h1) (o2.trans h2) h3 h4
      · obtain ⟨o1, e1⟩ := R1.old b o e hb
        have hbA : b ∉ A := fun hb' => by
          obtain ⟨i, c, ei, hc, es⟩ := hA b hb'
          obtain ⟨v, e2, s⟩ := R1.slot i c ei
          rw [es] at e2; cases e2
          cases c with
          | sh d => cases hc
          | ow d => obtain ⟨a, hv, _, _, r⟩ := s; cases hv; rw [e] at r; cases r
          | mu d => obtain ⟨a, hv, _, _, r, _⟩ := s; cases hv; exact hb r
        obtain ⟨u, hu⟩ := o1.ex
        exact ⟨o1.trans fun y hy => (old b y hy hbA).1, ((old b u hu hbA).2).trans e1⟩
      · refine ⟨?_, (R1.aA b hb).2⟩
        by_cases hbA : b ∈ A
        · exact hAs b hbA
        · obtain ⟨u, hu⟩ := (R1.aA b hb).1
          exact (old b u hu hbA).1.ex
      · obtain ⟨h1, h2, h3, h4⟩ := R1.prot q hq
        have hbA : q.1 ∉ A := fun hb' => by
          obtain ⟨i, c, ei, hc, es⟩ := hA _ hb'
          exact h4 i c ei hc es
        refine ⟨keep _ _ h1 h3.1 hbA, by rw [(old _ _ h1 hbA).2]; exact h2, h3, fun i c e hc => ?_⟩
        obtain ⟨c1, e1, o1, _⟩ := hr i c e
        exact h4 i c1 e1 (o1.trans hc)
    refine ⟨Rel', ?_⟩
    cases c with
    | sh d => exact res
    | ow d =>
      obtain ⟨p, hv, w, nf, np⟩ := res
      refine ⟨p, hv, w, nf, (R1.jp np).1, fun i c e hc z => ?_, fun q hq z => ?_⟩
      · obtain ⟨c1, e1, o1, _⟩ := hr i c e
        obtain ⟨o, ho, _⟩ := ownH i c1 p e1 (o1.trans hc) z
        rw [np] at ho; cases ho
      · have := (R1.prot q hq).1
        rw [z, np] at this; cases this
    | mu d =>
      obtain ⟨a, p, v0, d0, ds, h1, h2, h3, h4, w, nf, np⟩ := res
      refine ⟨a, p, v0, d0, ds, h1, h2, h3, ?_, w, nf, (R1.jp np).1, fun i c e hc z => ?_, fun q hq z => ?_⟩
      · cases d0 with
        | lst es =>
          obtain ⟨u, hv, hne, w', nf', np'⟩ := h4
          refine ⟨u, hv, hne, w', nf', (R1.jp np').1, fun i c e hc z => ?_, fun q hq z => ?_⟩
          · obtain ⟨c1, e1, o1, _⟩ := hr i c e
            obtain ⟨o, ho, _⟩ := ownH i c1 u e1 (o1.trans hc) z
            rw [np'] at ho; cases ho
          · have := (R1.prot q hq).1
            rw [z, np'] at this; cases this
        | _ => exact h4
      · obtain ⟨c1, e1, o1, _⟩ := hr i c e
        obtain ⟨o, ho, _⟩ := ownH i c1 p e1 (o1.trans hc) z
        rw [np] at ho; cases ho
      · have := (R1.prot q hq).1
        rw [z, np] at this; cases this
  cases mt with
  | false =>
    have h : pUses ρ os fun ds ρ' => κ ds fun _ => ρ' := h
    obtain ⟨ds, ρ1, F1, hk, R1, m1, rs⟩ := uses_ok R ho h
    refine ⟨ds, _, F1, hk, m1, ⟨R1.sub, R1.tab, R1.ntab, rs⟩, fun H' F' v c e po => ?_⟩
    exact core (ρ1 := ρ1) (ρ2 := ρ1) (A := []) (e := e) R1 rfl (fun i c e => ⟨c, e, rfl, .inl ⟨rfl, fun _ b _ => List.not_mem_nil⟩⟩) (fun b hb => by cases hb) po.old po.mono po.sub po.tab po.ntab (fun b hb => by cases hb) (fun i c e hx => absurd ⟨c, e, rfl, fun _ b _ => List.not_mem_nil⟩ hx) po.res
  | true =>
    unfold pArgs at h
    dsimp only at h
    split at h
    · rename_i i r
      cases ho with
      | @cons v0 _ vr _ hv hos =>
        obtain ⟨ds, ρ1, F1, hk, R1, m1, rs⟩ := uses_ok R hos h
        split at hk
        · rename_i c0 e0
          obtain ⟨hown, hk⟩ := hk
          have hv : σ[i]? = some (some v0) := hv
          obtain ⟨v', e1, s⟩ := R1.slot i c0 e0
          rw [hv] at e1; cases e1
          have key : ∃ a, v0 = .ref a ∧ OwnAt T.mg H F1 a c0.d ∧ F1 a = none := by
            cases c0 with
            | sh d => cases hown
            | ow d => obtain ⟨a, hv, w, n, _⟩ := s; exact ⟨a, hv, w, n⟩
            | mu d => obtain ⟨a, hv, w, n, _⟩ := s; exact ⟨a, hv, w, n⟩
          obtain ⟨a, rfl, ow, nf⟩ := key
          refine ⟨c0.d :: ds, _, F1, hk, m1, ⟨R1.sub, R1.tab, R1.ntab, ⟨a, vr, c0.d, ds, rfl, rfl, ow, nf, rs⟩⟩, fun H' F' v c e po => ?_⟩
          have hmu := po.mu a (List.mem_singleton.mpr rfl)
          have hput : (c0.put e).own = c0.own := by cases c0 <;> rfl
          refine core (ρ1 := ρ1) (ρ2 := ρ1.set i (some (c0.put e))) (A := [a]) (e := e) R1 List.length_set (fun j c ej => ?_) (fun b hb => ?_) po.old po.mono po.sub po.tab po.ntab (fun b hb => ?_) (fun j c ej hx => ?_) po.res
          · rcases get_set ej with ⟨rfl, z⟩ | ⟨ne, z⟩
            · cases z; exact ⟨c0, e0, hput.symm, .inr (hput.trans hown)⟩
            · refine ⟨c, z, rfl, .inl ⟨rfl, fun hc b eb hb => ?_⟩⟩
              have : b = a := by simpa using hb
              subst this
              exact ne (R1.dis i j c0 c _ e0 z hown hc hv eb)
          · have : b = a := by simpa using hb
            subst this
            exact ⟨i, c0, e0, hown, hv⟩
          · have : b = a := by simpa using hb
            subst this
            obtain ⟨o, ho, _⟩ := hmu.1.some
            exact ⟨o, ho⟩
          · rcases get_set ej with ⟨rfl, z⟩ | ⟨ne, z⟩
            · cases z
              refine ⟨_, hv, ?_⟩
              cases c0 with
              | sh d => cases hown
              | ow d => obtain ⟨a', hv, w, n, r⟩ := s; cases hv; exact ⟨a, rfl, hmu.1, hmu.2, r⟩
              | mu d => obtain ⟨a', hv, w, n, r⟩ := s; cases hv; exact ⟨a, rfl, hmu.1, hmu.2, r⟩
            · refine absurd ⟨c, z, rfl, fun hc b eb hb => ?_⟩ hx
              have : b = a := by simpa using hb
              subst this
              exact ne (R1.dis i j c0 c _ e0 z hown hc hv eb)
        · exact hk.elim
    · exact h.elim
end
section
variable {T : Tb} {k : Nat} {P : Pt} {N : List Str} {sc : Scope} {a : Expr} {es : List Expr} {pos p' : Pos} {x : Str} {w : WA} {n kf : Nat} {fe : Fe}
theorem vo_call (Fk : Fok T x kf n fe) (ha : VAn T k P N sc n (a :: es) w) (hk : kf ≤ k := by decide) (hg : sc.names.lookup x = some .globalImplicit := by rfl) (hdb : (x == ("__debug__" : Str)) = false := by decide)
    (he : ∀ env, starEach (a :: es) env = (false, eval a env) :: starEach es env := by intro _; rfl) (hpl : ∀ env, (backTo pos (starEach es env)).any (·.1) = false := by intro _; rfl) : VO T k P N sc (.Call (.Name x p') (a :: es) [] pos) (wCallO fe w) := ⟨fun X J G => by
  obtain ⟨f, fd, ps, hm, kp, bd, fo, hn⟩ := Fk.ex
  have fo' : FnOk X.prog X.w X.K X.mg X.base CX0 kf f fd ps (spOf T fe.mt fe.sp) := by rw [G.prog, G.w, G.K, G.mg, G.base]; exact fo
  refine (pe_call fo' (G.room.mono hk) (G.gl hg) (by rw [G.mg]; exact hm) (by rw [G.K]; exact kp) (by rw [G.K]; exact bd) .nil pass0 (ha.of X J G) hdb (he X.env) (hpl X.env)).imp fun σ H Q => ?_
  rintro ⟨ρ, F, Q', R, q, z⟩
  refine ⟨ρ, F, _, R, q, fun vs H1 F1 os ρ1 hl R1 m1 hos q1 => ?_⟩
  obtain ⟨ds, ρk, F2, hk2, m2, ao, post⟩ := after_call R1 hos q1
  rw [List.append_nil]
  refine ⟨ds, F2, _, ao, hk2, fun v H' F' c e po hQ => ?_⟩
  obtain ⟨R3, hc⟩ := post H' F' v c e po
  exact z v H' F' c (ρk e) R3 (m1.trans (m2.trans po.mono)) hc hQ⟩
theorem ve_call (Fk : Fok T x kf n fe) (ha : VAn T k P N sc n (a :: es) w) (hk : kf ≤ k := by decide) (hg : sc.names.lookup x = some .globalImplicit := by rfl) (hdb : (x == ("__debug__" : Str)) = false := by decide)
    (he : ∀ env, starEach (a :: es) env = (false, eval a env) :: starEach es env := by intro _; rfl) (hpl : ∀ env, (backTo pos (starEach es env)).any (·.1) = false := by intro _; rfl) : VE T k P N sc (.Call (.Name x p') (a :: es) [] pos) (wCall fe w) := ⟨fun X J G =>
  ((vo_call Fk ha hk hg hdb he hpl).of X J G).imp fun σ H Q => by
    rintro ⟨ρ, F, Q', R, q, z⟩
    refine ⟨ρ, F, (fun c ρ' => Q' (.val c.d) ρ'), R, q, fun v H' F' c ρ' R' m hc hQ => ?_⟩
    cases c with
    | sh d => exact z v H' F' (.val d) ρ' R' m hc hQ
    | ow d =>
      obtain ⟨a, rfl, f⟩ := hc
      obtain ⟨F2, m2, R2, r⟩ := f.freeze R'
      exact z _ H' F2 (.val d) ρ' R2 (m.trans m2) r hQ
    | mu d =>
      obtain ⟨a, b, v0, d0, ds, rfl, rfl, h3, h4, f⟩ := hc
      obtain ⟨F2, m2, R2, r⟩ := freeze2 (R0 := R') h3 h4 f
      exact z _ H' F2 (.val (.tup [d0, .lst ds])) ρ' R2 (m.trans m2) r hQ⟩
end
section
variable {T : Tb} {k : Nat} {P : Pt} {N : List Str} {sc : Scope} {a b c : Expr} {wa wb wc : WE} {pos : Pos} {es : List Expr}
def wCat (wa wb : WE) : WF := fun ρ Q => wa ρ fun o1 ρ1 => wb ρ1 fun o2 ρ2 => pRd ρ2 o1 fun d1 => pRd ρ2 o2 fun d2 => match d1, d2 with
  | .lst xs, .lst ys => xs.length + ys.length ≤ sizeLine ∧ Q (.lst (xs ++ ys)) ρ2
  | _, _ => False
theorem vf_cat (ha : VE T k P N sc a wa) (hb : VE T k P N sc b wb) : VF T k P N sc (.BinOp a .Add b pos) (wCat wa wb) := ⟨fun X J G => (pe_op op_cat' (ha.of X J G) (hb.of X J G)).imp fun σ H Q => by
  rintro ⟨ρ, F, Q', R, q, z⟩
  refine ⟨ρ, F, _, R, q, fun v H1 F1 o1 ρ1 R1 m1 ho1 q1 => ⟨ρ1, F1, _, R1, q1, fun v2 H2 F2 o2 ρ2 R2 m2 ho2 q2 => ?_⟩⟩
  obtain ⟨d1, h1, r1⟩ := rd_ok R2 (ho1.mono m2) q2
  obtain ⟨d2, h2, r2⟩ := rd_ok R2 ho2 h1
  split at h2
  · obtain ⟨l, vs, rfl, e1, s1⟩ := r1.lst R2.sub
    obtain ⟨l', vs', rfl, e2, s2⟩ := r2.lst R2.sub
    exact ⟨l, l', vs, vs', rfl, rfl, e1, e2, by rw [s1.length, s2.length]; exact h2.1, fun p hp => z p _ F2 _ ρ2 (R2.allocO hp) (m1.trans m2) (Fresh.new (d := .lst _) R2 hp ⟨_, upd_same, s1.append s2⟩) h2.2⟩
  · exact h2.elim⟩
abbrev PM := List D → List D → (D → List D → Prop) → Prop
structure MtOk (T : Tb) (X : Cx) (id : String) (p : PM) : Prop where
  ex : ∃ r, MtR X id r ∧ ∀ H F l vs xs us ds (κ : D → List D → Prop) Q, H l = some (.lst vs) → Reps T.mg F vs xs → Reps T.mg F us ds → p xs ds κ →
    (∀ e ys ws v, κ e ys → Reps T.mg F ws ys → Rep T.mg F v e → Q v (upd H l (.lst ws))) → r (.ref l) us H Q
def isLst : D → Bool
  | .lst _ => true
  | _ => false
def pOwnL (ρ : Env') (i : Nat) : Prop := match ρ[i]? with
  | some (some c) => c.own = true ∧ isLst c.d = true
  | _ => False
def pPutL (ρ : Env') (i : Nat) (κ : List D → (List D → Env') → Prop) : Prop := match ρ[i]? with
  | some (some c) => c.own = true ∧ match c.d with
    | .lst xs => κ xs fun ys => ρ.set i (some (c.put (.lst ys)))
    | _ => False
  | _ => False
theorem ownL_ok {J : En} {ρ : Env'} {σ : St} {H F : Hp} (R : Rel T J ρ σ H F) {i : Nat} (h : pOwnL ρ i) : ∃ l vs, σ[i]? = some (some (.ref l)) ∧ H l = some (.lst vs) := by
  unfold pOwnL at h
  split at h
  · rename_i c e
    obtain ⟨v, e1, s⟩ := R.slot i c e
    have key : ∀ {dd : D}, isLst dd = true → ∀ {l : Addr}, OwnAt T.mg H F l dd → ∃ vs, H l = some (.lst vs) := fun {dd} hd {l} w => by
      cases dd with
      | lst xs => obtain ⟨vs, h, _⟩ := w; exact ⟨vs, h⟩
      | _ => cases hd
    cases c with
    | sh d => cases h.1
    | ow d => obtain ⟨l, rfl, w, _⟩ := s; obtain ⟨vs, h'⟩ := key h.2 w; exact ⟨l, vs, e1, h'⟩
    | mu d => obtain ⟨l, rfl, w, _⟩ := s; obtain ⟨vs, h'⟩ := key h.2 w; exact ⟨l, vs, e1, h'⟩
  · exact h.elim
theorem putL_ok {J : En} {ρ : Env'} {σ : St} {H F : Hp} (R : Rel T J ρ σ H F) {i : Nat} {κ : List D → (List D → Env') → Prop} (h : pPutL ρ i κ) :
    ∃ l vs xs f, σ[i]? = some (some (.ref l)) ∧ H l = some (.lst vs) ∧ Reps T.mg F vs xs ∧ κ xs f ∧ ∀ ws ys, Reps T.mg F ws ys → Rel T J (f ys) σ (upd H l (.lst ws)) F := by
  unfold pPutL at h
  split at h
  · rename_i c e
    obtain ⟨ho, h⟩ := h
    obtain ⟨v, e1, s⟩ := R.slot i c e
    have key : ∃ l, v = .ref l ∧ OwnAt T.mg H F l c.d := by
      cases c with
      | sh d => cases ho
      | ow d => obtain ⟨l, hv, w, _⟩ := s; exact ⟨l, hv, w⟩
      | mu d => obtain ⟨l, hv, w, _⟩ := s; exact ⟨l, hv, w⟩
    obtain ⟨l, rfl, w⟩ := key
    split at h
    · rename_i xs hx
      rw [hx] at w
      obtain ⟨vs, hl, rs⟩ := w
      exact ⟨l, vs, xs, _, e1, hl, rs, h, fun ws ys r => R.write e ho e1 ⟨ws, upd_same, r⟩⟩
    · exact h.elim
  · exact h.elim
def wMt (i : Nat) (p : PM) (w : WA) : WE := fun ρ Q => pOwnL ρ i ∧ w ρ fun os ρ1 => pUses ρ1 os fun ds ρ2 => pPutL ρ2 i fun xs f => p xs ds fun e ys => Q (.val e) (f ys)
theorem ve_mt (i : Nat) {x name : Str} {apos p' : Pos} {id : String} {p : PM} {n : Nat} {w : WA} (hm : ∀ X, Gd T k P N sc X → MtOk T X id p) (slot : Slot "list" name id) (hty : typeOf (.builtin id) = pure (.type "method_descriptor")) (ha : VAn T k P N sc n (a :: es) w)
    (hN : N[i]? = some x := by rfl) (hv : Vis sc x := by first | exact Or.inl rfl | exact Or.inr (Or.inl rfl) | exact Or.inr (Or.inr rfl)) (hd : (x == ("__debug__" : Str)) = false := by decide) (hcd : (x == ("__classdict__" : Str)) = false := by decide)
    (hbase : ∀ env, attributeBase (.Name x p') name env (eval (.Name x p') env) = eval (.Name x p') env := by intro _; rfl)
    (hfew : ∀ env, ((backTo pos (starEach (a :: es) env)).all (fun x => !x.1) && (backToKw pos (keywordEach [] env)).all (fun x => x.1.isSome)
      && decide ((a :: es).length + ([] : List Keyword).length + (if ([] : List Keyword).isEmpty then 0 else 1) < 30)) = true := by intro _; rfl)
    (hline : (apos.endLine == pos.line) = true := by rfl) (hs : ∀ env, starEach (a :: es) env = (false, eval a env) :: starEach es env := by intro _; rfl) (hpl : ∀ env, (backTo pos (starEach es env)).any (·.1) = false := by intro _; rfl) :
    VE T k P N sc (.Call (.Attribute (.Name x p') name apos) (a :: es) [] pos) (wMt i p w) := ⟨fun X J G => by
  obtain ⟨r, hr, hz⟩ := (hm X G).ex
  refine (pe_bm PySem.F.plainAttrs_list slot hty hr (pe_var (i := i) (by rw [G.hN]; exact hN) (by rw [G.sc]; exact hv) hd hcd) (ha.of X J G) (hbase X.env) (hfew X.env) hline (hs X.env) (hpl X.env)).imp fun σ H Q => ?_
  rintro ⟨ρ, F, Q', R, ⟨q0, q⟩, z⟩
  obtain ⟨l, vs, e1, e2⟩ := ownL_ok R q0
  refine ⟨.ref l, e1, .inl ⟨rfl, vs, .inl (.inl e2)⟩, ρ, F, _, R, q, fun us H1 F1 os ρ1 hl R1 m1 hos q1 => ?_⟩
  obtain ⟨ds, ρ2, F2, h2, R2, m2, rs⟩ := uses_ok R1 hos q1
  obtain ⟨l', vs', xs, f, e1', e2', rv, hk, put⟩ := putL_ok R2 h2
  rw [e1] at e1'; cases e1'
  exact hz H1 F2 l vs' xs us ds _ Q e2' rv rs hk fun e ys ws v hq rw' re => z v _ F2 (.val e) _ (put ws ys rw') (m1.trans m2) re hq⟩
def pApp : PM := fun xs ds κ => match ds with
  | [d] => xs.length < sizeLine ∧ κ .non (xs ++ [d])
  | _ => False
theorem m_append {X : Cx} : MtOk T X "list.append" pApp := ⟨⟨_, mt_append, fun H F l vs xs us ds κ Q hl rv rs hp z => by
  unfold pApp at hp
  split at hp
  · cases rs with
    | cons h r =>
      cases r
      exact ⟨l, vs, _, rfl, rfl, hl, by rw [rv.length]; exact hp.1, z _ _ _ _ hp.2 (rv.snoc h) .non⟩
  · exact hp.elim⟩⟩
def wSetIx (i : Nat) (wv wi : WE) : WS := fun D ρ => wv ρ fun o ρ1 => pUse ρ1 o fun d ρ2 => pOwnL ρ2 i ∧ wi ρ2 fun oi ρ3 => pRd ρ3 oi fun j => match j with
  | .int j => pPutL ρ3 i fun xs f => ∃ m, ixN xs.length j = some m ∧ D.nx (f (xs.set m d))
  | _ => False
theorem vs_setIx (i : Nat) {x : Str} {p' ps : Pos} {wv wi : WE} (hv' : VE T k P N sc a wv) (hi : VE T k P N sc b wi)
    (hN : N[i]? = some x := by rfl) (hv : Vis sc x := by first | exact Or.inl rfl | exact Or.inr (Or.inl rfl) | exact Or.inr (Or.inr rfl)) (hd : (x == ("__debug__" : Str)) = false := by decide) (hcd : (x == ("__classdict__" : Str)) = false := by decide)
    (ha : ∀ env v, assign (.Subscript (.Name x p') b ps) env v = (do
      let ov ← holding [v] (eval (.Name x p') env)
      let iv ← holding [v, ov] (eval b env)
      standAt ps
      holding [v, ov, iv] (setItem ov iv v)
      release [v, ov, iv] []) := by intro _ _; rfl)
    (hs : ∀ env, swapsWithSole [.Subscript (.Name x p') b ps] a pos.line env = pure false := by intro _; rfl) (hw : ∀ env, swappedStores [.Subscript (.Name x p') b ps] a env = pure none := by intro _; rfl)
    (h1 : ∀ env, (assignEach [.Subscript (.Name x p') b ps] env).map (·.2) = [assign (.Subscript (.Name x p') b ps) env] := by intro _; rfl) :
    VS T k P N sc (.Assign [.Subscript (.Name x p') b ps] a pos) (wSetIx i wv wi) := ⟨fun X J G =>
  (ps_asg (hv'.of X J G) (pg_sub (pe_var (i := i) (by rw [G.hN]; exact hN) (by rw [G.sc]; exact hv) hd hcd) (hi.of X J G) set_list (ha X.env)) (hs X.env) (hw X.env) (h1 X.env)).imp fun E σ H => by
    rintro ⟨ρ, F, D, R, q, z⟩
    refine ⟨ρ, F, _, R, q, fun v H1 F1 o ρ1 R1 m1 ho q1 => ?_⟩
    obtain ⟨d, ρ2, F2, h2, R2, m2, r2⟩ := use_ok R1 ho q1
    obtain ⟨h0, h2⟩ := h2
    obtain ⟨l0, _, e0, _⟩ := ownL_ok R2 h0
    refine ⟨.ref l0, e0, ρ2, F2, _, R2, h2, fun vi H3 F3 oi ρ3 R3 m3 hoi q3 => ?_⟩
    obtain ⟨j, h3, r3⟩ := rd_ok R3 hoi q3
    cases j with
    | int j =>
      obtain ⟨l, vs, xs, f, e1, e2, rv, ⟨m, hm, hk⟩, put⟩ := putL_ok R3 h3
      rw [e0] at e1; cases e1
      exact ⟨l0, vs, j, m, rfl, r3.int, e2, by rw [rv.length]; exact hm, z.1 _ _ F3 _ (put _ _ (rv.set (r2.mono m3) m)) (m1.trans (m2.trans m3)) hk⟩
    | _ => exact h3.elim⟩
end
def rngL (i c : Int) (n : Nat) : List Int := (List.range n).map fun (m : Nat) => i + (m : Int) * c
section
variable {X : Cx} {pos : Pos}
end
section
variable {T : Tb} {k : Nat} {P : Pt} {N : List Str} {sc : Scope} {a b c : Expr} {wa wb wc : WE} {pos : Pos} {es : List Expr}
end
def cutK (K : PySem.W.Frag) (L : List Addr) : PySem.W.Frag := K.filter fun q => decide (q.1 ∉ L)
theorem cutK_lookup {L : List Addr} {b : Addr} (h : b ∉ L) : ∀ K : PySem.W.Frag, (cutK K L).lookup b = K.lookup b
  | [] => rfl
  | (c, o) :: r => by
    have ih := cutK_lookup h r
    unfold cutK at ih ⊢
    by_cases hc : c ∈ L
    · have ne : (b == c) = false := beq_eq_false_iff_ne.mpr fun z => h (z ▸ hc)
      rw [List.filter_cons_of_neg (by simp [hc]), List.lookup_cons, ne]
      exact ih
    · rw [List.filter_cons_of_pos (by simp [hc]), List.lookup_cons, List.lookup_cons, ih]
theorem cutK_none {L : List Addr} {b : Addr} (h : b ∈ L) : ∀ K : PySem.W.Frag, (cutK K L).lookup b = none
  | [] => rfl
  | (c, o) :: r => by
    have ih := cutK_none h r
    unfold cutK at ih ⊢
    by_cases hc : c ∈ L
    · rw [List.filter_cons_of_neg (by simp [hc])]
      exact ih
    · have ne : (b == c) = false := beq_eq_false_iff_ne.mpr fun z => hc (z ▸ h)
      rw [List.filter_cons_of_pos (by simp [hc]), List.lookup_cons, ne]
      exact ih
theorem cutK_some {L : List Addr} {b : Addr} {o : Obj} {K : PySem.W.Frag} (h : (cutK K L).lookup b = some o) : b ∉ L ∧ K.lookup b = some o := by
  by_cases hb : b ∈ L
  · rw [cutK_none hb] at h; cases h
  · exact ⟨hb, by rw [← cutK_lookup hb]; exact h⟩
def CutOk (K : PySem.W.Frag) (L : List Addr) : Prop := ∀ p ∈ L, ∀ o, K.lookup p = some o → o.data = .fields #[] ∨ ∃ xs n, o.data = .seq xs n
section
variable {K : PySem.W.Frag} {L : List Addr}
theorem CutOk.func (h : CutOk K L) {f : Addr} {oc : Value} {od : Option Addr} {fd : FuncData} {sl : Array (Option Value)} (e : K.lookup f = some ⟨oc, od, .func fd, sl⟩) : f ∉ L := fun z => by
  rcases h f z _ e with q | ⟨_, _, q⟩ <;> cases q
theorem CutOk.codeIn (h : CutOk K L) {cd : Value} {q : Str} (e : PySem.W.codeIn K cd q = true) : PySem.W.codeIn (cutK K L) cd q = true := by
  unfold PySem.W.codeIn at e ⊢
  cases cd with
  | ref c =>
    have hc : c ∉ L := fun z => by
      dsimp only at e
      split at e
      · rename_i vs _ hk
        rcases h c z _ hk with q | ⟨_, _, q⟩
        · have q : vs = #[] := by injection q
          subst q
          cases e
        · cases q
      · cases e
    dsimp only
    rw [cutK_lookup hc]
    exact e
  | _ => cases e
theorem FunC.cut {x qual : Str} {st : Stmt} {f : Addr} {fd : FuncData} {cdv : Value} (h : CutOk K L) (F : FunC K x qual st f fd cdv) : FunC (cutK K L) x qual st f fd cdv := by
  obtain ⟨oc, od, kV, doc, pm, an, ct, osl, e, lk, hcd⟩ := F.ex
  have hf : f ∉ L := by subst e; exact h.func lk
  refine ⟨⟨oc, od, kV, doc, pm, an, ct, osl, e, by rw [cutK_lookup hf]; exact lk, h.codeIn hcd⟩, ?_⟩
  unfold PySem.W.keepIn
  dsimp only
  rw [cutK_lookup hf, lk]
theorem TabIn.cut {code : Value} {P : Addr} (h : CutOk K L) (t : TabIn K code P) : TabIn (cutK K L) code P := by
  obtain ⟨c, o, vs, file, tf, flags, tg, inF, text, tt, e, hk, hc, hd, h11, r⟩ := t.ex
  refine ⟨c, o, vs, file, tf, flags, tg, inF, text, tt, e, ?_, hc, hd, h11, r⟩
  rw [cutK_lookup fun z => ?_]
  · exact hk
  · rcases h c z _ hk with q | ⟨_, _, q⟩
    · rw [hd] at q
      have q : vs = #[] := by injection q
      subst q
      cases h11
    · rw [hd] at q; cases q
end
theorem tab_mk {K : PySem.W.Frag} {c P : Addr} {od : Option Addr} {vs : Array Value} {sl : Array (Option Value)} {file : Str} {tf : Tok} {flags : Int} {tg : Tok} {inF : Bool} {text : Int} {tt : Tok}
    (l : K.lookup c = some ⟨.type "code", od, .fields vs, sl⟩) (h : vs[11]? = some (.ref P) ∧ vs.getD 18 .none = .str file tf ∧ vs.getD 7 .none = .int flags tg ∧ vs.getD 9 .none = .bool inF ∧ vs.getD 10 .none = .int text tt) (ne : c ≠ P) : TabIn K (.ref c) P :=
  ⟨c, _, vs, file, tf, flags, tg, inF, text, tt, rfl, l, rfl, rfl, h.1, h.2.1, h.2.2.1, h.2.2.2.1, h.2.2.2.2, ne⟩
theorem tab_at {K : PySem.W.Frag} {h : Heap} {mg : Str → Option Value} {x : Str} {f c P : Addr} {oc : Value} {od qo : Option Addr} {sl qs : Array (Option Value)} {fd : FuncData} {qv : Array Value} (X : K.In h) (hm : mg x = some (.ref f)) (l : K.lookup f = some ⟨oc, od, .func fd, sl⟩) (hc : fd.code = .ref c)
    (tl : K.lookup c = some ⟨.type "code", qo, .fields qv, qs⟩) (tv : qv[11]? = some (.ref P)) (ht : ∃ a o fd c P, mg x = some (.ref a) ∧ h.get? a = some o ∧ o.data = .func fd ∧ fd.code = .ref c ∧ h.TableAt c P #[]) : h.get? P = some { cls := .none, data := .fields #[] } := by
  obtain ⟨a, o, fd', c', P', h1, h2, h3, h4, ⟨o2, vs, g1, g2, g3, g4⟩, g5⟩ := ht
  rw [hm] at h1; cases h1
  rw [X _ _ l] at h2; cases h2
  cases h3
  rw [hc] at h4; cases h4
  rw [X _ _ tl] at g1; cases g1
  cases g3
  rw [tv] at g4; cases g4
  exact g5
def fsLaw (m : Nat) : FS := fun ds κ => ∃ ns : List Int, ds = [.lst (ns.map D.int)] ∧ ns.length ≤ m ∧ κ (.sh (.bl true)) .non
theorem law_callT {P : Program} {w : World} {K : PySem.W.Frag} {mg mb : Str → Option Value} {k m : Nat} {fa a : Addr} {fd : FuncData} {x : Str} {s₁ : Shared} {vs : List Value} {ns : List Int} {tabs : List Addr}
    (KX : K.In s₁.heap) (hns : s₁.heap.Ns mainGlobals mg) (hb : s₁.heap.Ns builtinsNs mb) (hbb : ∀ x : Str, x ≠ "__name__" → mb x = bootBuiltins x) (hlim : s₁.heap.NoLimit) (hbm : ∃ bm ob, BMod s₁.heap mainGlobals mg bm ob) (hg : s₁.gens = #[])
    (ha : s₁.heap.get? a = some { cls := .type "list", data := .seq vs.toArray }) (hi : IntsAre vs ns) (hl : ns.length ≤ m) (hl2 : m ≤ sizeLine) (hr : Room k callerA)
    (htab : ∀ p ∈ tabs, s₁.heap.get? p = some { cls := .none, data := .fields #[] } ∧ ∃ c, TabIn K (.ref c) p)
    (hsm : ∃ mm, s₁.heap.Ns sysModules mm)
    (F : ∀ base : Heap, CutOk K (a :: tabs) → (∃ o, base.get? sysModules = some o) → FnOk P w (cutK K (a :: tabs)) mg base CX0 k fa fd [x] (spOf ⟨P, w, cutK K (a :: tabs), mg, base, tabs⟩ false (fsLaw m))) (hbind : ∀ (s : Shared) (u : Value), BindsTo s fd ⟨[u], []⟩ [(x, u)]) :
    codeAny (model P w) callerA (.call (.ref fa) ⟨[.ref a], []⟩) (fun r s' => r = .ok (.ret (.bool true)) ∧ OldK s₁.heap s'.heap ∧ s'.os = s₁.os ∧ AllBare s'.gens) s₁ := by
  have rv := vals_ints hi
  have htabH : ∀ p ∈ tabs, s₁.heap.get? p = some { cls := .none, data := .fields #[] } := fun p hp => (htab p hp).1
  have hat : a ∉ tabs := fun z => by have := htabH a z; rw [ha] at this; cases this
  let fz : HO := .frz { cls := .type "list", data := .seq vs.toArray } (.lst (ns.map V.int))
  let H : Hp := fun b => if b ∈ tabs then some (.tbl #[]) else if b = a then some fz else none
  have Ht : ∀ p ∈ tabs, H p = some (.tbl #[]) := fun p hp => if_pos hp
  have Ha : H a = some fz := by show (if _ then _ else _) = _; rw [if_neg hat, if_pos rfl]
  have Hn : ∀ b, b ∉ tabs → b ≠ a → H b = none := fun b h1 h2 => by show (if _ then _ else _) = _; rw [if_neg h1, if_neg h2]
  have Hc : ∀ b u, H b = some u → (b ∈ tabs ∧ u = .tbl #[]) ∨ (b = a ∧ u = fz) := fun b u e => by
    by_cases h1 : b ∈ tabs
    · rw [Ht b h1] at e; cases e; exact .inl ⟨h1, rfl⟩
    · by_cases h2 : b = a
      · subst h2; rw [Ha] at e; cases e; exact .inr ⟨rfl, rfl⟩
      · rw [Hn b h1 h2] at e; cases e
  have cut : CutOk K (a :: tabs) := fun p hp o e => by
    rcases List.mem_cons.mp hp with rfl | hp
    · have := KX _ _ e; rw [ha] at this; cases this; exact .inr ⟨_, _, rfl⟩
    · have := KX _ _ e; rw [(htab p hp).1] at this; cases this; exact .inl rfl
  have hok : HOk P w H s₁.heap := fun b u e => by
    rcases Hc b u e with ⟨h1, rfl⟩ | ⟨rfl, rfl⟩
    · exact ⟨trivial, htabH b h1⟩
    · exact ⟨ha, by rw [List.length_map]; exact Nat.le_trans hl hl2, vs, _, rv, ha⟩
  have other : ∀ {b : Addr} {o : Obj}, s₁.heap.get? b = some o → o.data ≠ .fields #[] → (∀ xs n, o.data ≠ .seq xs n) → H b = none := fun {b o} e h1 h2 => by
    cases q : H b with
    | none => rfl
    | some u =>
      rcases Hc b u q with ⟨z, _⟩ | ⟨rfl, _⟩
      · rw [htabH b z] at e; cases e; exact absurd rfl h1
      · rw [ha] at e; cases e; exact absurd rfl (h2 _ _)
  have noA : ∀ {b : Addr} {o : Obj} {es : Array DictEntry} {ep : Nat}, s₁.heap.get? b = some o → o.data = .dict es ep → H b = none := fun {b o es ep} e d => other e (fun z => by rw [d] at z; cases z) fun _ _ z => by rw [d] at z; cases z
  have base_of : ∀ {b : Addr} {o : Obj}, s₁.heap.get? b = some o → H b = none → (hidT s₁.heap H).get? b = some o := fun e n => hidT_get e n
  have nsK : ∀ {b : Addr} {m : Str → Option Value}, s₁.heap.Ns b m → (hidT s₁.heap H).Ns b m := fun {b m} ⟨o, es, ep, e, d, r⟩ => ⟨o, es, ep, base_of e (noA e d), d, r⟩
  have hKb : (cutK K (a :: tabs)).In (hidT s₁.heap H) := fun b o e => by
    obtain ⟨hb, e⟩ := cutK_some e
    exact base_of (KX b o e) (Hn b (fun z => hb (List.mem_cons_of_mem _ z)) fun z => hb (by rw [z]; exact List.mem_cons_self))
  have hbm' : ∃ bm ob, BMod (hidT s₁.heap H) mainGlobals mg bm ob := by
    obtain ⟨bm, ob, x⟩ := hbm
    exact ⟨bm, ob, nsK x.ns, x.name, x.ne, base_of x.obj (other x.obj (fun z => by rw [x.data] at z; cases z) fun _ _ z => by rw [x.data] at z; cases z), x.cls, x.dict, x.data⟩
  have hM : Mod (cutK K (a :: tabs)) mg (hidT s₁.heap H) := ⟨hKb, nsK hns, ⟨mb, nsK hb, hbb⟩, (let ⟨mc, h1, h2⟩ := hlim; ⟨mc, nsK h1, h2⟩), hbm'⟩
  have hsm' : ∃ o, (hidT s₁.heap H).get? sysModules = some o := by
    obtain ⟨mm, o, es, ep, e, d, _⟩ := hsm
    exact ⟨o, base_of e (noA e d)⟩
  have e0 : Env0 P w (cutK K (a :: tabs)) mg (hidT s₁.heap H) callerA [] s₁ H := ⟨rfl, hM, fun b o e => of_hidT e, Nat.le_of_eq (hidT_size _ _), trivial, fun b hb => absurd (show b ∈ ([] : List Addr) from hb) (by simp), hok, .of_eq hg⟩
  have hsp : spOf ⟨P, w, cutK K (a :: tabs), mg, hidT s₁.heap H, tabs⟩ false (fsLaw m) [.ref a] H (fun v _ => v = .bl true) fun _ _ _ => False := by
    refine ⟨[.lst (ns.map D.int)], fun b => if b = a then some fz else none, fun c _ => c = .sh (.bl true), ⟨fun b u e => ?_, fun p hp => ⟨#[], Ht p hp⟩, fun b ps e => ?_, ?_⟩, ⟨ns, rfl, hl, rfl⟩, fun v H' F' c e po hc => ?_⟩
    · by_cases h : b = a
      · subst h; rw [if_pos rfl] at e; cases e; exact Ha
      · rw [if_neg h] at e; cases e
    · by_cases h : b = a
      · subst h; rw [if_pos rfl] at e
        have e : some (HO.frz { cls := .type "list", data := .seq vs.toArray } (.lst (ns.map V.int))) = some (.tbl ps) := e
        cases e
      · rw [if_neg h] at e; cases e
    · exact .cons (.lst (.inr ⟨_, if_pos rfl⟩) (.ints ns)) .nil
    · subst hc
      have := po.res
      cases (show Rep mg F' v (.bl true) from this)
      rfl
  refine codeAny_mono ((F _ cut hsm').run callerA [] s₁ H ⟨[.ref a], []⟩ [.ref a] [.ref a] _ _ hr e0 (hbind s₁ (.ref a)) (.cons rfl .nil) hsp) fun r s' h => ?_
  cases r with
  | error e => exact False.elim h
  | ok fl =>
    cases fl with
    | next => exact False.elim h
    | brk => exact False.elim h
    | cont => exact False.elim h
    | ret u =>
      obtain ⟨v, H', os, bare, un, hok', r', q⟩ := h
      have q' : v = .bl true := q
      subst q'
      obtain rfl : u = Value.bool true := r'
      have key : ∀ b o, s₁.heap.get? b = some o → asItWas s₁.heap s'.heap b o := fun b o e => by
        cases q : H b with
        | none => exact .inl (un.keep b o e q (by intro z; exact absurd (show b ∈ ([] : List Addr) from z) (by simp)) (by simp))
        | some u =>
          rcases Hc b u q with ⟨z, rfl⟩ | ⟨rfl, rfl⟩
          · obtain ⟨more, e1⟩ := un.tbls b _ q
            obtain ⟨_, e2⟩ := hok' b _ e1
            rw [htabH b z] at e; cases e
            refine .inr (.inl ⟨?_, rfl, #[], more, rfl, e2⟩)
            obtain ⟨c, t⟩ := (htab b z).2
            obtain ⟨c, o, vs, file, tf, flags, tg, inF, text, tt, _, hk, hc, hd, h11, _⟩ := t.ex
            exact ⟨c, o, vs, KX c o hk, hc, hd, h11⟩
          · have z2 := un.frzs _ _ _ q
            obtain ⟨e2, _⟩ := hok' _ _ z2
            rw [ha] at e; cases e
            exact .inl e2
      refine ⟨rfl, ⟨key, fun b o e => ?_⟩, os, bare.all⟩
      rcases key b o e with h | ⟨_, _, _, _, _, h⟩ | ⟨_, _, ⟨o', _, _, h, _⟩, _⟩
      · exact ⟨_, h⟩
      · exact ⟨_, h⟩
      · exact ⟨_, h⟩
theorem walkT {l : PySem.W.OpenLaw} {n k : Nat} {q : Program} {loose : List Str} {XP : (Str → Option Value) → Heap → Prop} {YP : World → Heap → Prop} {d : DefRec} {K : Params → PySem.W.Frag} {x : Str} {names : List Str}
    (hn : l.most = some n) (hn2 : n ≤ sizeLine) (hdf : d.params.defaults = []) (hr : Room k callerA) (hq : importsNone q = true) (hrec : names.all (fun x => (recsOf q).any fun d => d.name == x) = true)
    (hY : ∀ (w : World) (h : Heap), YP w h → (K w.params).In h)
    (F : ∀ (w : World) (mg : Str → Option Value) (fa : Addr) (h : Heap), (K w.params).In h → h.Ns mainGlobals mg → mg d.name = some (.ref fa) → (∀ x ∈ names, ∃ a o fd c P, mg x = some (.ref a) ∧ h.get? a = some o ∧ o.data = .func fd ∧ fd.code = .ref c ∧ h.TableAt c P #[]) →
      ∃ (tabs : List Addr) (fd : FuncData), (∀ p ∈ tabs, h.get? p = some { cls := .none, data := .fields #[] } ∧ ∃ c, TabIn (K w.params) (.ref c) p) ∧
        (∀ (s : Shared) (u : Value), BindsTo s fd ⟨[u], []⟩ [(x, u)]) ∧
        ∀ (a : Addr) (base : Heap), CutOk (K w.params) (a :: tabs) → (∃ o, base.get? sysModules = some o) → FnOk l.prog w (cutK (K w.params) (a :: tabs)) mg base CX0 k fa fd [x] (spOf ⟨l.prog, w, cutK (K w.params) (a :: tabs), mg, base, tabs⟩ false (fsLaw n))) :
    PySem.W.WalkO q loose XP YP l.row.toRowW d [] (fun f vs => PySem.call f vs) := by
  refine Att.attach_call hn hdf fun w s₀ s₁ mg mb fa o pm cd doc a vs ns G Y ho hd hcd hmg hobj hints hlen hg => ?_
  have KX := hY w _ Y
  obtain ⟨tabs, fd, h1, h3, h4⟩ := F w mg fa _ KX G.T.g hmg fun x hx => by
    have := List.all_eq_true.mp hrec x hx
    obtain ⟨d, hd, e⟩ := List.any_eq_true.mp this
    obtain ⟨a, o, fd, c, P, r1, r2, r3, r4, _, r6⟩ := G.T.tab d hd
    rw [beq_iff_eq.mp e] at r1
    exact ⟨a, o, fd, c, P, r1, r2, r3, r4, r6⟩
  exact law_callT KX G.T.g G.T.b G.T.builtins G.T.nolimit (let ⟨bm, ob, a, b, c, d, e, f⟩ := G.T.bmain; ⟨bm, ob, G.T.g, a, b, c, d, e, f⟩) hg hobj hints hlen hn2 hr h1 (let ⟨mm, h, _⟩ := (G.T.seer hq).mods; ⟨mm, h⟩) (fun base => h4 a base) h3
section
variable {T : Tb} {k : Nat} {P : Pt} {N : List Str} {sc : Scope} {pos : Pos}
theorem ve_gintE {x : Str} {i : Int} (hm : ∃ t, T.mg x = some (.int i t)) (hg : sc.names.lookup x = some .globalImplicit := by rfl) (hd : (x == ("__debug__" : Str)) = false := by decide) : VE T k P N sc (.Name x pos) (wC (.int i)) := by
  obtain ⟨t, h⟩ := hm
  exact ve_gint h hg hd
theorem hu_gd {X : Cx} (G : Gd T k P N sc X) : X.A.units + 64 < cLine := G.room.units
end
section
variable {X : Cx} {k : Nat} {pos : Pos} {e fe : Expr} {es : List Expr} {tf : TE} {t : TA}
end
section
variable {T : Tb} {k : Nat} {P : Pt} {N : List Str} {sc : Scope} {a b c fe : Expr} {es : List Expr} {pos p' : Pos} {x : Str} {w : WA} {wf : WE} {n kf : Nat}
theorem Reps.toInts {mg : Str → Option Value} {F : Hp} : ∀ {vs : List V} {ns : List Int}, Reps mg F vs (ns.map D.int) → vs = ns.map V.int
  | _, [], .nil => rfl
  | _, n :: r, .cons h q => by cases h; rw [Reps.toInts q]; rfl
end
section
variable {T : Tb} {k : Nat} {P : Pt} {N : List Str} {sc scope : Scope} {a b tg elt : Expr} {ifs : List Expr} {wa we : WE} {wt : WT} {g : PGt} {pos gpos : Pos} {ws : List Nat} {own : List (Str × Nat)}
end
section
variable {X : Cx} {a : Expr} {ta : TE} {pos : Pos}
end
section
variable {X : Cx}
end
section
variable {T : Tb} {k : Nat} {P : Pt} {N : List Str} {sc : Scope} {a b c : Expr} {es : List Expr} {pos p' p'' pos' : Pos} {wa wb : WE} {x y : Str}
structure MrOk (T : Tb) (X : Cx) (id : String) (p : List D → List D → (D → Prop) → Prop) : Prop where
  ex : ∃ r, MtR X id r ∧ ∀ J ρ σ H F l vs xs us ds (κ : D → Prop) Q, Rel T J ρ σ H F → Rd H l (.lst vs) → Reps T.mg F vs xs → Paired (RdV T.mg H F) us ds → p xs ds κ →
    (∀ e v H' F', κ e → Rel T J ρ σ H' F' → HLe F F' → Rep T.mg F' v e → Q v H') → r (.ref l) us H Q
end
section
variable {X : Cx} {pos : Pos}
def gLst (K : PySem.W.Frag) (n : Nat) (t : TGs) : TG := fun v σ H Q => ∃ a xs, v = .ref a ∧ SqL K H a xs ∧ xs.length = n ∧ t xs σ H Q
theorem pg_lst {es : List Expr} {k : Nat} {t : TGs} {n : Nat} (hc : X.calm = true) (h : PGs X es t)
    (hn : (assignEach es X.env).length = n := by rfl) (hst : (assignEach es X.env).findIdx? (·.1) = none := by rfl) : PG X (.Tuple es k pos) (gLst X.K n t) := by
  intro pins s σ H v u Q I r hw
  obtain ⟨a, xs, e1, hq, hl, hw⟩ := hw
  subst e1
  cases r
  obtain ⟨its, rv, ht, hz⟩ := I.list hq
  rw [assign_Tuple]
  refine wpAny_bind (wpAny_standAt ?_)
  unfold unpack
  rw [hn, hst, show n = its.toArray.size by rw [List.size_toArray, ← hl]; exact rv.length]
  refine wpAny_bind (wpAny_holding (PySem.W.kun_itemsOf (I.ok.hd hc) ht.isList fun h' hx => ?_))
  have I1 : Inv X pins σ H { s with heap := h' } := I.kept (t' := s.toks) fun b o e => hx b o (Nat.ne_of_lt (Heap.lt_size e)) e
  exact h pins _ σ H xs _ Q I1 (by simpa using rv) hw
end
section
variable {T : Tb} {k : Nat} {P : Pt} {N : List Str} {sc : Scope} {es : List Expr} {pos : Pos}
def gTl (n : Nat) (gs : PGts) : PGt := fun d ρ Q => match d with
  | .lst ds => ds.length = n ∧ gs ds ρ Q
  | _ => False
theorem vg_lst {ws : List Nat} {n kk : Nat} {gs : PGts} (h : VGs T k P N sc ws n es gs) : VG T k P N sc ws (.Tuple es kk pos) (gTl n gs) := ⟨fun X J G => (pg_lst (n := n) G.calm (h.of X J G) (h.len X.env).1 (h.len X.env).2).imp fun v σ H Q => by
  rintro ⟨ρ, F, d, Qp, R, r, g, z⟩
  cases d with
  | lst ds =>
    cases r with
    | lst ha rs => exact ⟨_, _, rfl, .inl (R.sub.rd ha), by rw [rs.length]; exact g.1, ρ, F, ds, Qp, R, rs, by rw [rs.length]; exact g.1, g.2, z⟩
  | _ => exact g.elim⟩
end
section
variable {T : Tb} {k : Nat} {P : Pt} {N : List Str} {sc : Scope} {a b c : Expr} {es : List Expr} {pos p' p2 pos' : Pos} {wa wb : WE} {x y : Str}
end
section
variable {T : Tb} {k : Nat} {P : Pt} {N : List Str} {sc scope : Scope} {tg iter elt : Expr} {ifs : List Expr} {we : WE} {wi : WI} {wt : WT} {g : PGt} {pos : Pos} {ws : List Nat}
end
end L2
namespace PySem.SeqAt
open PySem PySem.Spec PyProof.Rows
open PySem.AutoSeq1 (wpAny_loadPart')
open PySem.MeetsSeq PySem.MeetsSeq2 PySem.MeetsSeq3
end PySem.SeqAt
namespace L2
open PySem PySem.Spec PyProof.Rows
section
variable {T : Tb} {J : En} {ρ : Env'} {σ : St} {H F : Hp}
def OwnO (mg : Str → Option Value) (F : Hp) (o : HO) : D → Prop
  | .lst ds => ∃ vs, o = .lst vs ∧ Reps mg F vs ds
  | .dic kds => ∃ kvs, o = .dK kvs ∧ RepK mg F kvs kds
  | _ => False
theorem OwnO.mono {mg : Str → Option Value} {F' : Hp} {o : HO} (k : HLe F F') : ∀ {d : D}, OwnO mg F o d → OwnO mg F' o d
  | .lst ds, ⟨vs, h, r⟩ => ⟨vs, h, r.mono k⟩
  | .dic kds, ⟨kvs, h, r⟩ => ⟨kvs, h, r.mono k⟩
def Prk (mg : Str → Option Value) (F : Hp) (v : V) (B : List (Addr × HO)) : Cell → Prop
  | .sh d => B = [] ∧ Rep mg F v d
  | .ow d => ∃ a o, v = .ref a ∧ B = [(a, o)] ∧ OwnO mg F o d
  | .mu _ => False
theorem Prk.mono {mg : Str → Option Value} {F' : Hp} {v : V} {B : List (Addr × HO)} (k : HLe F F') : ∀ {c : Cell}, Prk mg F v B c → Prk mg F' v B c
  | .sh d, ⟨h, r⟩ => ⟨h, r.mono k⟩
  | .ow d, ⟨a, o, h1, h2, h3⟩ => ⟨a, o, h1, h2, h3.mono k⟩
theorem newF (R : Rel T J ρ σ H F) {p : Addr} {o : HO} (hp : H p = none) (ho : ∀ ps, o ≠ .tbl ps) : Rel T J ρ σ (upd H p o) (upd F p o) ∧ HLe F (upd F p o) := by
  refine ⟨(R.allocO hp).freezeA upd_same (R.fp hp) (R.jp hp).1 ho (fun i c e hc z => ?_) (fun b hb z => ?_), HLe.upd (R.fp hp)⟩
  · obtain ⟨v, e1, s⟩ := R.slot i c e
    rw [z] at e1; cases e1
    cases c with
    | sh d => cases hc
    | ow d => obtain ⟨a, hv, w, _⟩ := s; cases hv; obtain ⟨o, ho, _⟩ := w.some; rw [hp] at ho; cases ho
    | mu d => obtain ⟨a, hv, w, _⟩ := s; cases hv; obtain ⟨o, ho, _⟩ := w.some; rw [hp] at ho; cases ho
  · have := (R.prot b hb).1
    rw [z, hp] at this; cases this
end
section
variable {T : Tb} {k : Nat} {P : Pt} {N : List Str} {sc : Scope} {e1 f1 e2 f2 : Expr} {body : List Stmt} {pos px py tp lp q1 q2 : Pos} {kk k1 k2 : Nat} {x y : Str} {w1 w2 : WO} {v1 v2 : WE} {wS : WS}
end
section
variable {X : Cx}
end
section
variable {T : Tb}
theorem nil_seq : seqd (.lst []) = true ∧ dep (.lst []) := ⟨rfl, by unfold dep; simp [toPy, toPys, PyData.depth, PyData.depthAll]⟩
end
section
variable {T : Tb} {k : Nat} {P : Pt} {N : List Str} {sc : Scope} {a b c : Expr} {pos p' : Pos}
end
section
variable {X : Cx}
end
def EnS (h : Heap) (e it : Addr) (i : Int) : Prop := ∃ f0 f1 old, h.get? e = some { cls := .type "enumerate", dict := none, data := .fields #[f0, f1, .ref it, rawInt i, .none, old], slots := #[] } ∧ (f0 = .none ∨ ∃ n : Int, f0 = rawInt n)
section
variable {prog : Program} {w : World} {A : Around} {E : Value → Shared → Prop} {s : Shared}
end
theorem EnS.ext {h h' : Heap} {e it : Addr} {i : Int} (x : EnS h e it i) (k : ∀ o, h.get? e = some o → h'.get? e = some o) : EnS h' e it i := by
  obtain ⟨f0, f1, old, he, h0⟩ := x
  exact ⟨f0, f1, old, k _ he, h0⟩
section
variable {prog : Program} {w : World} {A : Around} {E : Value → Shared → Prop}
end
section
variable {X : Cx}
end
section
variable {T : Tb} {k : Nat} {P : Pt} {N : List Str} {sc : Scope} {a : Expr} {wa : WE} {pos p p' p2 : Pos}
end
section
variable {X : Cx}
end
section
variable {T : Tb}
end
section
variable {T : Tb} {k : Nat} {P : Pt} {N : List Str} {sc : Scope} {k1 v1 k2 v2 : Expr} {w1 w2 w3 w4 : WE} {pos : Pos}
end
def FlT (base : Heap) (l : List Env) (e T : Addr) (cls a0 : Value) (h : Heap) : Prop :=
  base.StaysIn h ∧ base.get? e = none ∧ h.FunFrames base l ∧ ∃ oe vs oT ts, h.get? e = some oe ∧ (oe.cls = cls ∧ vs[0]? = some a0) ∧ oe.data = .fields vs ∧ vs[1]? = some (.ref T) ∧ base.get? T = none ∧ T ≠ e ∧ h.get? T = some oT ∧ oT.data = .fields ts ∧ ts[3]? = some .none
theorem FlT.base {base B h : Heap} {l : List Env} {e T : Addr} {cls a0 : Value} (k : base.StaysIn B) (x : FlT B l e T cls a0 h) : FlT base l e T cls a0 h := by
  obtain ⟨f1, f2, f3, oe, vs, oT, ts, a1, a2, a3, a4, a5, a6⟩ := x
  exact ⟨fun b o q => f1 b o (k b o q), PySem.W.fresh_of_stays k f2, PySem.W.funFrames_base k f3, oe, vs, oT, ts, a1, a2, a3, a4, PySem.W.fresh_of_stays k a5, a6⟩
theorem FlT.most {base h : Heap} {l : List Env} {e T : Addr} {cls a0 : Value} (x : FlT base l e T cls a0 h) : FlT (PySem.W.hideAll h (e :: T :: frs l)) l e T cls a0 h := by
  obtain ⟨f1, f2, f3, oe, vs, oT, ts, a1, a2, a3, a4, a5, a6⟩ := x
  refine ⟨fun b o q => PySem.W.of_hideAll _ q, PySem.W.hideAll_none _ (by simp), PySem.W.funFrames_hide f3 fun env he a ha => ?_, oe, vs, oT, ts, a1, a2, a3, a4, PySem.W.hideAll_none _ (by simp), a6⟩
  exact List.mem_cons_of_mem _ (List.mem_cons_of_mem _ (List.mem_filterMap.mpr ⟨env, he, ha⟩))
theorem FlT.fields {base h : Heap} {l : List Env} {e T : Addr} {cls a0 : Value} (x : FlT base l e T cls a0 h) : e ∉ frs l ∧ T ∉ frs l := by
  obtain ⟨f1, f2, f3, oe, vs, oT, ts, a1, a2, a3, a4, a5, a6, a7, a8, a9⟩ := x
  refine ⟨fun hm => ?_, fun hm => ?_⟩
  · obtain ⟨_, o, ho, hn⟩ := f3.mem hm
    rw [a1] at ho; cases ho; exact hn _ a3
  · obtain ⟨_, o, ho, hn⟩ := f3.mem hm
    rw [a7] at ho; cases ho; exact hn _ a8
section
variable {X : Cx} {pins : List (Addr × Obj)} {σ : St} {H : Hp} {s : Shared}
def CXR (P : Program) (w : World) (base : Heap) : CXT := fun outer H s E e s' => ∃ a C T a0 H', e = .ref a ∧ s'.os = s.os ∧ GB s.gens s'.gens ∧ Un (frs outer) [] H H' s.heap s'.heap ∧ HOk P w H' s'.heap ∧ (H' a = none ∧ H' T = none) ∧
  (s.heap.get? a = none ∧ s.heap.get? T = none) ∧ FlT base outer a T (.ref C) a0 s'.heap ∧ E (.ref C) (some a) H'
def Flt (mk : Bool) (X : Cx) (pins : List (Addr × Obj)) (σ : St) (H : Hp) (a C : Addr) (s : Shared) : Prop :=
  (mk = true ∧ ∃ (s0 : Shared) (args : List Value), Inv X pins σ H s0 ∧ Heap.MadeExcOf s0.heap s.heap a (.ref C) args ∧ s = { s0 with heap := s.heap }) ∨
  ∃ (T : Addr) (a0 : Value), Inv X pins σ H s ∧ (H a = none ∧ H T = none) ∧ ((∀ o, X.s_0.heap.get? a = some o → a ∈ X.ex) ∧ ∀ o, X.s_0.heap.get? T = some o → T ∈ X.ex) ∧ (∀ p ∈ X.pn ++ pins, p.1 ≠ a ∧ p.1 ≠ T) ∧ FlT X.base X.stack a T (.ref C) a0 s.heap
end
abbrev KX := Str → Env' → Prop
abbrev WX := Env' → KX → Prop
abbrev RP := List D → (Str → Prop) → Prop
def Goes' (mk : Bool) (T : Tb) (J : En) (X : Cx) (pins : List (Addr × Obj)) (F : Hp) (Q : KX) : Prop := ∀ (a C : Addr) (Cn : Str) (ρ' : Env') (σ' : St) (H' F' : Hp) (s' : Shared), Rel T J ρ' σ' H' F' → HLe F F' → T.mg Cn = some (.ref C) → Flt mk X pins σ' H' a C s' → Q Cn ρ' → X.xe (.ref a) s'
theorem Goes'.mono {mk : Bool} {T : Tb} {J : En} {X : Cx} {pins : List (Addr × Obj)} {F F1 : Hp} {Q : KX} (h : Goes' mk T J X pins F Q) (m : HLe F F1) : Goes' mk T J X pins F1 Q := fun a C Cn ρ' σ' H' F' s' R m' => h a C Cn ρ' σ' H' F' s' R (m.trans m')
section
variable (mk : Bool) (T : Tb) (k : Nat) (P : Pt) (N : List Str) (sc : Scope)
structure VX (e : Expr) (w : WX) : Prop where
  mk :: (of : ∀ X J, Gd T k P N sc X → ∀ (pins : List (Addr × Obj)) (s : Shared) (σ : St) (H F : Hp) (ρ : Env') (Q : KX), Inv X pins σ H s → Rel T J ρ σ H F → w ρ Q → Goes' mk T J X pins F Q → wpAny (model X.prog X.w) X.A (eval e X.env) (fun _ _ => False) X.xe s)
structure VXt (e : Expr) (w : WX) : Prop where
  mk :: (of : ∀ X J, Gd T k P N sc X → ∀ (pins : List (Addr × Obj)) (s : Shared) (σ : St) (H F : Hp) (ρ : Env') (Q : KX), Inv X pins σ H s → Rel T J ρ σ H F → w ρ Q → Goes' mk T J X pins F Q → wpAny (model X.prog X.w) X.A (isTrue e X.env (eval e X.env)) (fun _ _ => False) X.xe s)
structure VXs (ss : List Stmt) (w : WX) : Prop where
  mk :: (of : ∀ X J, Gd T k P N sc X → ∀ (pins : List (Addr × Obj)) (s : Shared) (σ : St) (H F : Hp) (ρ : Env') (Q : KX), Inv X pins σ H s → Rel T J ρ σ H F → w ρ Q → Goes' mk T J X pins F Q → wpAny (model X.prog X.w) X.A (execs ss X.env) (fun _ _ => False) X.xe s)
end
structure PostX (T : Tb) (H F H' F' : Hp) : Prop where
  old : ∀ b o, H b = some o → Old o H' b ∧ F' b = F b
  mono : HLe F F'
  sub : HLe F' H'
  tab : ∀ P ∈ T.tabs, ∃ ps, H' P = some (.tbl ps)
  ntab : ∀ b ps, F' b ≠ some (.tbl ps)
def spX (T : Tb) (rp : RP) : Sp := fun vs H _ E => ∃ ds F κ, ArgOk T false H F vs ds ∧ rp ds κ ∧ ∀ Cn C a H' F', T.mg Cn = some (.ref C) → PostX T H F H' F' → κ Cn → E (.ref C) (some a) H'
structure FokX (T : Tb) (x : Str) (kf n : Nat) (rp : RP) : Prop where
  ex : ∃ f fd ps, T.mg x = some (.ref f) ∧ PySem.W.keepIn T.K (.ref f) = true ∧ Binds T.K fd ps [] ∧ FnOk T.P T.w T.K T.mg T.base (CXR T.P T.w T.base) kf f fd ps (spX T rp) ∧ ps.length = n
section
variable {T : Tb} {k : Nat} {N ps : List Str} {x qual : Str} {st : Stmt} {f : Addr} {fd : FuncData} {cdv : Value} {tab : Option Addr} {rp : RP} {w : WX}
end
section
variable {X : Cx} {pins : List (Addr × Obj)} {σ : St} {H : Hp} {s : Shared}
end
section
variable {mk : Bool} {T : Tb} {k : Nat} {P : Pt} {N : List Str} {sc : Scope} {a b : Expr} {es : List Expr} {ss sb : List Stmt} {st : Stmt} {pos p' : Pos} {x : Str} {w wx wx' : WX} {wt : WT} {wS : WS} {wA : WA} {n kf : Nat} {rp : RP}
abbrev bmVE : List Value := [.type "ValueError", .type "Exception", .type "BaseException", .type "object"]
structure ClsK (T : Tb) (x : Str) : Prop where
  ex : ∃ C, T.mg x = some (.ref C) ∧ PySem.W.excIn T.K C bmVE "ValueError.__new__" = true
theorem own_at {K : PySem.W.Frag} {h₀ : Heap} {mg : Str → Option Value} {x : Str} {C : Addr} {bmB : List Value} {newId : String} (X : K.In h₀) (hb : mg x = some (.ref C)) (q : PySem.W.excIn K C bmB newId = true) : OwnCls x C bmB newId mg h₀ := by
  refine ⟨hb, ?_⟩
  unfold PySem.W.excIn at q
  split at q
  · rename_i dd cd sl ho
    split at q
    · rename_i C' bm k0 k1 k2 k3 n k5 hm hs
      simp only [Bool.and_eq_true, beq_iff_eq, Bool.not_eq_true'] at q
      obtain ⟨⟨⟨⟨⟨rfl, rfl⟩, hdel⟩, ht⟩, hok⟩, hni⟩ := q
      obtain ⟨nm, bs, mro, ns, qn, hd, sn, sub, ab, col, del⟩ := cd
      dsimp only at hm hdel hok hni
      subst hm hdel
      have hsl : sl = #[k0, k1, k2, k3, some (.builtin n), k5] := by
        obtain ⟨l⟩ := sl
        simp only at hs
        rw [hs]
      subst hsl
      exact ⟨bm, ns, nm, qn, bs, hd, sn, sub, ab, col, dd, k0, k1, k2, k3, k5, _, X _ _ ho, .of_isNs (PySem.W.isNs_of_in X hok), PySem.W.nsMap_none_of_in X hok hni, PySem.W.tail_of_in X ht⟩
    · cases q
  · cases q
theorem ClsK.own {X : Cx} {pins : List (Addr × Obj)} {σ : St} {H : Hp} {s : Shared} (h : ClsK T x) (G : Gd T k P N sc X) (I : Inv X pins σ H s) : ∃ C, OwnCls x C bmVE "ValueError.__new__" X.mg X.base := by
  obtain ⟨C, h1, h2⟩ := h.ex
  exact ⟨C, own_at I.mod.kin (by rw [G.mg]; exact h1) (by rw [G.K]; exact h2)⟩
end
section
variable {X : Cx} {pins : List (Addr × Obj)} {σ : St} {H : Hp} {s : Shared}
theorem Inv.exc {a C : Addr} (I : Inv X pins σ H s) (hex : X.ex = []) (ha : H a = none) (h0 : X.s_0.heap.get? a = none) (np : ∀ p ∈ X.pn ++ pins, p.1 ≠ a) (hob : ∃ o, s.heap.get? a = some o ∧ o.cls = .ref C ∧ ∃ vs, o.data = .fields vs) : Inv X pins σ (upd H a (excO a C)) s := by
  have ne : ∀ {b : Addr} {o : HO}, H b = some o → b ≠ a := fun {b o} e z => by rw [z, ha] at e; cases e
  obtain ⟨oa, hoa, hca, vs, hda⟩ := id hob
  refine ⟨I.ok, I.os, I.bare, ⟨I.base.keep, I.base.slot, fun b o e n hx => ?_, I.base.there, fun b xs e => ?_, fun b o u e => ?_, fun b ps e => ?_⟩, I.loc, I.cell, ?_, fun x c e => ?_, fun p hp => ?_, fun b o e => ?_, I.len⟩
  · rw [upd_ne (fun z => by rw [z, h0] at e; cases e)]; exact I.base.free b o e n hx
  · have := I.base.tups b xs e
    rw [upd_ne (ne this)]; exact this
  · have := I.base.frzs b o u e
    rw [upd_ne (ne this)]; exact this
  · obtain ⟨more, this⟩ := I.base.tbls b ps e
    exact ⟨more, by rw [upd_ne (ne this)]; exact this⟩
  · rw [upd_ne fun z => ?_]
    · exact I.free
    · obtain ⟨m, ⟨o, es, ep, ho, hd, _⟩, _⟩ := I.loc
      rw [z, hoa] at ho; cases ho; rw [hda] at hd; cases hd
  · rw [upd_ne fun z => ?_]
    · exact I.freeC x c e
    · obtain ⟨v, o, ho, hd⟩ := I.cell x c e
      rw [z, hoa] at ho; cases ho; rw [hda] at hd; cases hd
  · obtain ⟨e, n, ne', nf, d⟩ := I.pin p hp
    exact ⟨e, by rw [upd_ne (np p hp)]; exact n, ne', nf, d⟩
  · by_cases hb : b = a
    · subst hb
      rw [upd_same] at e; cases e
      refine ⟨hob, ⟨oa, hoa⟩, fun h1 h2 q k => ?_⟩
      obtain ⟨o, ho, r⟩ := q
      exact ⟨o, k o ho, r⟩
    · rw [upd_ne hb] at e
      refine (I.hok b o e).stay (fun _ _ _ q => q) (fun c q => ?_) fun c xs q => ?_
      · rw [upd_ne (ne q)]; exact q
      · rw [upd_ne (ne q)]; exact q
abbrev Cx.within (X : Cx) (a : Addr) (E : Value → Shared → Prop) : Cx := { X with A := X.A.mark (some (.ref a)), calm := false, xe := E }
theorem Inv.within (I : Inv X pins σ H s) (a : Addr) (E : Value → Shared → Prop) : Inv (X.within a E) pins σ H s :=
  ⟨⟨I.ok.mod, I.ok.kind, I.ok.glob, I.ok.blt, I.ok.above, I.ok.inj, I.ok.has, I.ok.cab, fun z => (by cases z), I.ok.frames, I.ok.stk, I.ok.exf, I.ok.bs, I.ok.bsz, I.ok.noex, I.ok.exfs, I.ok.funs, I.ok.frf⟩, I.os, I.bare, I.base, I.loc, I.cell, I.free, I.freeC, I.pin, I.hok, I.len⟩
theorem Inv.without {a : Addr} {E : Value → Shared → Prop} (ok : X.Ok) (I : Inv (X.within a E) pins σ H s) : Inv X pins σ H s := ⟨ok, I.os, I.bare, I.base, I.loc, I.cell, I.free, I.freeC, I.pin, I.hok, I.len⟩
end
section
variable {M : Model} {A : Around} {E : Value → Shared → Prop}
variable {nm q nm' q' : Str} {C N Y N' : Addr} {bs bm bs' bm' : List Value} {hdct hdct' : Bool} {sn sn' : List Str} {sub sub' : List Value} {ab ab' : Bool} {col col' : Option Bool} {dd dd' : Option Addr} {k0 k1 k2 k3 k5 j0 j1 j2 j3 j5 : Option Value} {newId newId' : String}
end
section
variable {T : Tb} {k : Nat} {P : Pt} {N : List Str} {sc : Scope}
structure ClsU (T : Tb) (x y : Str) : Prop where
  cx : ClsK T x
  cy : ClsK T y
  un : ∃ C Y, T.mg x = some (.ref C) ∧ T.mg y = some (.ref Y) ∧ PySem.W.mroIn T.K C (.ref Y) = some true
structure VSd1 (T : Tb) (k : Nat) (P : Pt) (N : List Str) (sc : Scope) (st : Stmt) (w : WS) : Prop where
  mk :: (of : ∀ X J, Gd T k P N sc X → X.stack = X.env :: X.outer → X.env.frame = some X.env.locals → X.ex = [] → PS X st (tS T J w))
structure VSd (T : Tb) (k : Nat) (P : Pt) (N : List Str) (sc : Scope) (ss : List Stmt) (w : WS) : Prop where
  mk :: (of : ∀ X J, Gd T k P N sc X → X.stack = X.env :: X.outer → X.env.frame = some X.env.locals → X.ex = [] → PSs X ss (tS T J w))
end
section
open PySem.W PySem.Builtin PySem.Builtin.ObjectAttr PySem.Builtin.Getset_descriptor
variable {prog : Program} {w : World} {A : Around} {E : Value → Shared → Prop} {s : Shared} {K : PySem.W.Frag} {x D : Addr} {ox : Obj}
variable {nm q : Str} {N : Addr} {bs bm : List Value} {hdct : Bool} {sn : List Str} {sub : List Value} {ab : Bool} {col : Option Bool} {dd : Option Addr} {k0 k1 k2 k3 k5 : Option Value} {newId : String}
end
section
open PySem.W
variable {K : Frag} {x C : Addr} {nm q : Str} {N : Addr} {bs bm : List Value} {hdct : Bool} {sn : List Str} {sub : List Value} {ab : Bool} {col : Option Bool} {dd : Option Addr} {k0 k1 k2 k3 k5 : Option Value} {newId : String}
end
structure ExcK (T : Tb) (x : Str) : Prop where
  ex : ∃ C, T.mg x = some (.ref C) ∧ PySem.W.excIn T.K C bmVE "ValueError.__new__" = true ∧ PySem.W.findIn T.K (.ref C) "__getattribute__" = some (some (.builtin "BaseException.__getattribute__")) ∧ PySem.W.findIn T.K (.ref C) "__getattr__" = some none ∧
    PySem.W.findIn T.K (.ref C) "__class__" = some (some (.builtin "object.__class__")) ∧ PySem.W.mroIn T.K C (.type "object") = some true
inductive KitV (T : Tb) (H : Hp) (C : Addr) (b : Bool) : V → Prop where
  | one {Y : Addr} (h : PySem.W.kitOne T.K (.ref C) (.ref Y) = some b) : KitV T H C b (.ref Y)
  | ty {tn : String} (h : PySem.W.kitOne T.K (.ref C) (.type tn) = some b) : KitV T H C b (.ty tn)
  | tup {p : Addr} {ys : List Addr} (e : H p = some (.tup (ys.map V.ref))) (h : PySem.W.kitAny T.K (.ref C) (ys.map Value.ref) = some b) : KitV T H C b (.ref p)
structure ExS (T : Tb) (L M : List Str) : Prop where
  ex : ∀ x ∈ L, ExcK T x
  at_ : ∀ y ∈ M, ∃ Y, T.mg y = some (.ref Y)
  kit : ∀ x ∈ L, ∀ y ∈ M, ∀ C Y, T.mg x = some (.ref C) → T.mg y = some (.ref Y) → PySem.W.kitOne T.K (.ref C) (.ref Y) = some (x == y)
section
variable {T : Tb}
end
section
variable {T : Tb} {k : Nat} {P : Pt} {N : List Str} {sc : Scope} {a b : Expr} {pos p1 p2 : Pos} {wa wb : WE}
end
section
variable {T : Tb} {k : Nat} {P : Pt} {N : List Str} {sc : Scope} {st : Stmt} {sts : List Stmt} {wS wS' : WS}
end
section
variable {T : Tb} {k : Nat} {N ps : List Str} {x qual : Str} {st : Stmt} {f : Addr} {fd : FuncData} {cdv : Value} {tab : Option Addr} {w : WS} {fs : FS}
end
section
variable {mk : Bool} {T : Tb} {k : Nat} {P : Pt} {N : List Str} {sc : Scope} {a fe : Expr} {es : List Expr} {pos : Pos} {wA : WA} {wf : WE} {n kf : Nat}
end
section
variable {mk : Bool} {T : Tb} {k : Nat} {P : Pt} {N : List Str} {sc : Scope} {a : Expr} {sa sb ss : List Stmt} {pos : Pos} {wt : WT} {wx wx' : WX}
end
section
open PySem.W
variable {K : PySem.W.Frag} {L : List Addr}
theorem CutOk.cls (h : CutOk K L) {C : Addr} {oc : Value} {od : Option Addr} {cd : ClassData} {sl : Array (Option Value)} (e : K.lookup C = some ⟨oc, od, .cls cd, sl⟩) : (cutK K L).lookup C = some ⟨oc, od, .cls cd, sl⟩ := by
  rw [cutK_lookup fun z => ?_]
  · exact e
  · rcases h C z _ e with q | ⟨_, _, q⟩ <;> cases q
theorem CutOk.dict (h : CutOk K L) {C : Addr} {oc : Value} {od : Option Addr} {es : Array DictEntry} {n : Nat} {sl : Array (Option Value)} (e : K.lookup C = some ⟨oc, od, .dict es n, sl⟩) : (cutK K L).lookup C = some ⟨oc, od, .dict es n, sl⟩ := by
  rw [cutK_lookup fun z => ?_]
  · exact e
  · rcases h C z _ e with q | ⟨_, _, q⟩ <;> cases q
theorem CutOk.clsIn (h : CutOk K L) {C : Addr} {cd : ClassData} (e : clsIn K C = some cd) : PySem.W.clsIn (cutK K L) C = some cd := by
  unfold PySem.W.clsIn at e ⊢
  split at e
  · rename_i ho; cases e; rw [h.cls ho]
  · cases e
theorem CutOk.nsIn (h : CutOk K L) {N : Addr} {x : Str} {r : Option Value} (e : nsIn K N x = some r) : PySem.W.nsIn (cutK K L) N x = some r := by
  unfold PySem.W.nsIn at e ⊢
  split at e
  · rename_i ho; rw [h.dict ho]; exact e
  · cases e
theorem CutOk.mroIn (h : CutOk K L) {C : Addr} {b : Value} {r : Bool} (e : mroIn K C b = some r) : PySem.W.mroIn (cutK K L) C b = some r := by
  unfold PySem.W.mroIn at e ⊢
  obtain ⟨cd, h1, h2⟩ := Option.bind_eq_some_iff.mp e
  rw [h.clsIn h1]
  exact h2
theorem CutOk.nsOkIn (h : CutOk K L) {N : Addr} (e : nsOkIn K N = true) : PySem.W.nsOkIn (cutK K L) N = true := by
  unfold PySem.W.nsOkIn at e ⊢
  split at e
  · rename_i ho; rw [h.dict ho]; exact e
  · cases e
theorem CutOk.tailIn (h : CutOk K L) {bmB : List Value} : ∀ {l : List Value}, tailIn K bmB l = true → PySem.W.tailIn (cutK K L) bmB l = true
  | [], e => e
  | v :: r, e => by
    unfold PySem.W.tailIn at e ⊢
    rcases Bool.or_eq_true_iff.mp e with q | q
    · rw [q]; rfl
    · rw [Bool.or_eq_true_iff]
      right
      split at q
      · split at q
        · rename_i ho
          simp only [Bool.and_eq_true, beq_iff_eq] at q
          rw [h.cls ho]
          simp only [Bool.and_eq_true, beq_iff_eq]
          exact ⟨⟨h.nsOkIn q.1.1, h.nsIn q.1.2⟩, h.tailIn q.2⟩
        · cases q
      · cases q
theorem CutOk.excIn (h : CutOk K L) {C : Addr} {bmB : List Value} {n : String} (e : excIn K C bmB n = true) : PySem.W.excIn (cutK K L) C bmB n = true := by
  unfold PySem.W.excIn at e ⊢
  split at e
  · rename_i ho
    rw [h.cls ho]
    split at e
    · rename_i hm hs
      simp only [Bool.and_eq_true, beq_iff_eq] at e
      simp only [hm, hs, Bool.and_eq_true, beq_iff_eq]
      exact ⟨⟨⟨e.1.1.1, h.tailIn e.1.1.2⟩, h.nsOkIn e.1.2⟩, h.nsIn e.2⟩
    · cases e
  · cases e
theorem CutOk.kitOne (h : CutOk K L) {C : Addr} {v : Value} {b : Bool} (e : kitOne K (.ref C) v = some b) : PySem.W.kitOne (cutK K L) (.ref C) v = some b := by
  unfold PySem.W.kitOne at e ⊢
  split at e
  · rename_i q; rw [if_pos q]; exact e
  · rename_i q
    rw [if_neg q]
    unfold PySem.W.kitCls at e ⊢
    cases v with
    | ref Y =>
      dsimp only at e ⊢
      split at e
      · rename_i z
        rw [Bool.and_eq_true] at z
        obtain ⟨z0, z1⟩ := z
        obtain ⟨cd, hc⟩ := Option.isSome_iff_exists.mp z0
        have hY : Y ∉ L := fun hz => by
          unfold PySem.W.clsIn at hc
          split at hc
          · rename_i ho
            rcases h Y hz _ ho with q | ⟨_, _, q⟩ <;> cases q
          · cases hc
        rw [if_pos]
        · exact h.mroIn e
        · rw [Bool.and_eq_true, h.clsIn hc]
          refine ⟨rfl, ?_⟩
          unfold PySem.W.typeIn at z1 ⊢
          dsimp only at z1 ⊢
          rw [cutK_lookup hY]; exact z1
      · cases e
    | type T =>
      dsimp only at e ⊢
      split at e
      · rename_i z; rw [if_pos z]; exact h.mroIn e
      · cases e
    | _ => cases e
end
section
variable {T : Tb} {k : Nat} {P : Pt} {N : List Str} {sc : Scope} {pos : Pos} {x : Str}
end
section
variable {T : Tb} {k : Nat} {P : Pt} {N : List Str} {sc : Scope} {a b c : Expr} {es : List Expr} {pos p' p'' pos' : Pos}
end
section
variable {T : Tb} {k : Nat} {P : Pt} {N : List Str} {sc scope : Scope} {a b tg elt : Expr} {ifs : List Expr} {wa we : WE} {wt : WT} {g : PGt} {pos gpos : Pos} {ws : List Nat} {own : List (Str × Nat)}
end
def Rs (xs : Array Nat) : Prop := ∀ (i j x y : Nat), i < j → xs[i]? = some x → xs[j]? = some y → x < y
def At (xs : Array Nat) (j p : Nat) : Prop := (∀ i x : Nat, xs[i]? = some x → i < p → x < j) ∧ (∀ i x : Nat, xs[i]? = some x → p ≤ i → j ≤ x) ∧ p ≤ xs.size
structure Tw (w : World) (t : SetTable) : Prop where
  rs : Rs t.place
  dm : t.dummies = #[]
  led : w.params.followText "set-order" = false → t.led = true
def SetX (prog : Program) (w : World) (h : Heap) (a : Addr) (S : Int → Bool) (n : Nat) : Prop :=
  ∃ o es ep t, h.get? a = some o ∧ o.ExactSet ∧ o.data = .set es ep t ∧ (ElemsOf (intKind prog w) es.toList ∧ (∀ k, S k = true ↔ ∃ e ∈ es.toList, (intKind prog w).is k e.2 = true) ∧ es.size < scanBound ∧ t.fits es.size = true ∧ es.size = n) ∧ Tw w t
theorem SetX.keeps {prog : Program} {w : World} {h h' : Heap} {a : Addr} {S : Int → Bool} {n : Nat} (x : SetX prog w h a S n) (k : ∀ o, h.get? a = some o → h'.get? a = some o) : SetX prog w h' a S n := by
  obtain ⟨o, es, ep, t, h1, r⟩ := x
  exact ⟨o, es, ep, t, k o h1, r⟩
theorem SetX.congr {prog : Program} {w : World} {h : Heap} {a : Addr} {S S' : Int → Bool} {n n' : Nat} (x : SetX prog w h a S n) (e : ∀ k, S k = S' k) (en : n = n') : SetX prog w h a S' n' := by
  obtain rfl : S = S' := funext e
  subst en
  exact x
section
variable {prog : Program} {w : World} {A : Around} {E : Value → Shared → Prop} {s : Shared}
end
section
variable {prog : Program} {w : World} {A : Around} {R : Result → Shared → Prop} {I : Addr} {fp wr : List Addr} {G : Array GenState → Array GenState → Prop} {n : Nat} {P : Nat → Value → Prop} {St : Nat → Shared → Prop}
end
section
variable {prog : Program} {w : World} {A : Around} {E : Value → Shared → Prop} {s : Shared}
end
section
variable {prog : Program} {w : World} {A : Around} {E : Value → Shared → Prop} {s : Shared}
end
def IsSI (h : Heap) (it a : Addr) (first : Value) (i n ep : Nat) : Prop := ∃ o, h.get? it = some o ∧ o.cls = .type "set_iterator" ∧ o.data = .fields #[first, .int i 0, .ref a, .int n 0, .int ep 0]
section
variable {prog : Program} {w : World} {A : Around} {E : Value → Shared → Prop} {s : Shared}
theorem IsSI.type {it a : Addr} {first : Value} {i n ep : Nat} (h : IsSI s.heap it a first i n ep) : s.TypeIs (.ref it) "set_iterator" := by
  obtain ⟨o, ho, hc, _⟩ := h
  exact ⟨o, ho, hc⟩
end
section
variable {prog : Program} {w : World} {A : Around} {E : Value → Shared → Prop} {s : Shared}
end
section
variable {prog : Program} {w : World} {A : Around}
structure SetS (h : Heap) (a : Addr) (o : Obj) : Prop where
  at_ : h.get? a = some o
theorem IsSI.keeps {h h' : Heap} {it a : Addr} {f : Value} {i n ep : Nat} (x : IsSI h it a f i n ep) (k : ∀ o, h.get? it = some o → h'.get? it = some o) : IsSI h' it a f i n ep := by
  obtain ⟨o, ho, r⟩ := x
  exact ⟨o, k o ho, r⟩
end
section
variable {prog : Program} {w : World} {A : Around} {E : Value → Shared → Prop} {s : Shared}
end
section
variable {prog : Program} {w : World} {A : Around}
end
section
variable {prog : Program} {w : World} {A : Around} {E : Value → Shared → Prop} {s : Shared}
end
section
variable {prog : Program} {w : World} {A : Around} {E : Value → Shared → Prop} {s : Shared}
end
section
variable {X : Cx}
end
section
variable {T : Tb} {k : Nat} {P : Pt} {N : List Str} {sc : Scope} {a : Expr} {pos p' p'' pos' : Pos} {wa : WE}
end
section
variable {T : Tb} {J : En} {ρ : Env'} {σ : St} {H F : Hp}
theorem Fresh.beside {b p : Addr} {d : D} {o : HO} (R : Rel T J ρ σ H F) (f : Fresh T J ρ σ H F b d) (hp : H p = none) : Fresh T J ρ σ (upd H p o) (upd F p o) b d := by
  obtain ⟨u, hu, _⟩ := f.own.some
  have ne : b ≠ p := fun e => by rw [e, hp] at hu; cases hu
  exact ⟨f.own.mono (HLe.upd (R.fp hp)) (upd_ne ne), by rw [upd_ne ne]; exact f.nf, f.nj, f.ns, f.nb⟩
theorem Rel.blank (R : Rel T J ρ σ H F) (i : Nat) (v : V) : Rel T J (ρ.set i none) (σ.set i (some v)) H F := by
  have back : ∀ {j : Nat} {c : Cell}, (ρ.set i none)[j]? = some (some c) → ρ[j]? = some (some c) ∧ (σ.set i (some v))[j]? = σ[j]? := fun {j c} e => by
    rcases get_set e with ⟨_, z⟩ | ⟨ne, z⟩
    · cases z
    · exact ⟨z, List.getElem?_set_ne ne⟩
  refine ⟨by rw [List.length_set, List.length_set]; exact R.len, R.sub, fun j c e => ?_, fun j l c c' u e e' h1 h2 h3 h4 => ?_, R.old, R.mono, R.tab, R.ntab, R.aA, fun p hp => ?_⟩
  · obtain ⟨e1, e2⟩ := back e
    rw [e2]; exact R.slot j c e1
  · obtain ⟨e1, e2⟩ := back e
    obtain ⟨e1', e2'⟩ := back e'
    rw [e2] at h3; rw [e2'] at h4
    exact R.dis j l c c' u e1 e1' h1 h2 h3 h4
  · obtain ⟨h1, h2, h3, h4⟩ := R.prot p hp
    refine ⟨h1, h2, h3, fun j c e hc => ?_⟩
    obtain ⟨e1, e2⟩ := back e
    rw [e2]; exact h4 j c e1 hc
theorem Fresh.blank {b : Addr} {d : D} (f : Fresh T J ρ σ H F b d) (i : Nat) (v : V) : Fresh T J (ρ.set i none) (σ.set i (some v)) H F b d :=
  ⟨f.own, f.nf, f.nj, fun j c e hc => by
    rcases get_set e with ⟨_, z⟩ | ⟨ne, z⟩
    · cases z
    · rw [List.getElem?_set_ne ne]; exact f.ns j c z hc, f.nb⟩
theorem Rel.poke (R : Rel T J ρ σ H F) {b : Addr} {d : D} (f : Fresh T J ρ σ H F b d) (o : HO) : Rel T J ρ σ (upd H b o) F := by
  obtain ⟨u, hu, hn⟩ := f.own.some
  have nF : ∀ c x, F c = some x → c ≠ b := fun c x e z => by rw [z, f.nf] at e; cases e
  refine ⟨R.len, fun c x e => by rw [upd_ne (nF c x e)]; exact R.sub _ _ e, fun i c e => ?_, R.dis, fun c x e hc => ?_, R.mono, fun P hP => ?_, R.ntab, fun c hc => ?_, fun p hp => ?_⟩
  · obtain ⟨v, e1, s⟩ := R.slot i c e
    refine ⟨v, e1, ?_⟩
    cases c with
    | sh d => exact s
    | ow d => obtain ⟨a, rfl, w, r⟩ := s; exact ⟨a, rfl, w.mono (HLe.refl F) (upd_ne (fun z : a = b => f.ns i _ e rfl (by rw [e1, z]))), r⟩
    | mu d => obtain ⟨a, rfl, w, r⟩ := s; exact ⟨a, rfl, w.mono (HLe.refl F) (upd_ne (fun z : a = b => f.ns i _ e rfl (by rw [e1, z]))), r⟩
  · obtain ⟨h1, h2⟩ := R.old c x e hc
    refine ⟨h1.trans fun y hy => Old.refl ?_, h2⟩
    rw [upd_ne fun z => ?_]
    · exact hy
    · rw [z, f.nj] at e; cases e
  · obtain ⟨ps, h⟩ := R.tab P hP
    refine ⟨ps, ?_⟩
    rw [upd_ne fun z => ?_]
    · exact h
    · rw [z, hu] at h; cases h; exact hn ps rfl
  · obtain ⟨⟨x, h1⟩, h2⟩ := R.aA c hc
    refine ⟨⟨x, ?_⟩, h2⟩
    rw [upd_ne fun z => ?_]
    · exact h1
    · rw [z] at h2; exact h2 f.nj
  · obtain ⟨h1, h2, h3, h4⟩ := R.prot p hp
    exact ⟨by rw [upd_ne (f.nb p hp)]; exact h1, h2, h3, h4⟩
def bare (ρ : Env') : Env' := ρ.map fun o => match o with
  | some (.sh d) => some (.sh d)
  | _ => none
def noMu (ρ : Env') : Bool := ρ.all fun o => match o with
  | some (.mu _) => false
  | _ => true
theorem bare_at {j : Nat} {c : Cell} (h : (bare ρ)[j]? = some (some c)) : ∃ d, c = .sh d ∧ ρ[j]? = some (some (.sh d)) := by
  unfold bare at h
  rw [List.getElem?_map] at h
  cases q : ρ[j]? with
  | none => rw [q] at h; cases h
  | some o =>
    rw [q] at h
    cases o with
    | none => cases h
    | some c' => cases c' with
      | sh d => cases h; exact ⟨d, rfl, rfl⟩
      | ow d => cases h
      | mu d => cases h
theorem noMu_at (h : noMu ρ = true) {j : Nat} {d : D} : ρ[j]? ≠ some (some (.mu d)) := fun e => by
  have := List.all_eq_true.mp h _ (List.mem_of_getElem? e)
  cases this
theorem own_objs (R : Rel T J ρ σ H F) : ∀ n, ∃ B : List (Addr × HO), (∀ p ∈ B, ∃ (j : Nat) (d : D), ρ[j]? = some (some (.ow d)) ∧ σ[j]? = some (some (.ref p.1)) ∧ H p.1 = some p.2) ∧ ∀ (j : Nat) (d : D), j < n → ρ[j]? = some (some (.ow d)) → ∃ a o, σ[j]? = some (some (.ref a)) ∧ H a = some o ∧ (a, o) ∈ B
  | 0 => ⟨[], fun p hp => absurd hp List.not_mem_nil, fun j d hj => absurd hj (Nat.not_lt_zero _)⟩
  | n + 1 => by
    obtain ⟨B, h1, h2⟩ := own_objs R n
    by_cases hx : ∃ d, ρ[n]? = some (some (.ow d))
    · obtain ⟨d, e⟩ := hx
      obtain ⟨v, e1, a, rfl, w, _⟩ := R.slot n _ e
      obtain ⟨o, ho, _⟩ := w.some
      refine ⟨(a, o) :: B, fun p hp => ?_, fun j d' hj e' => ?_⟩
      · rcases List.mem_cons.mp hp with rfl | hp
        · exact ⟨n, d, e, e1, ho⟩
        · exact h1 p hp
      · by_cases hjn : j = n
        · subst hjn; exact ⟨a, o, e1, ho, List.mem_cons_self⟩
        · obtain ⟨a', o', q1, q2, q3⟩ := h2 j d' (by omega) e'
          exact ⟨a', o', q1, q2, List.mem_cons_of_mem _ q3⟩
    · refine ⟨B, h1, fun j d' hj e' => ?_⟩
      by_cases hjn : j = n
      · subst hjn; exact absurd ⟨d', e'⟩ hx
      · exact h2 j d' (by omega) e'
end
def pNoL (d : D) (κ : Prop) : Prop := match d with
  | .lst _ => False
  | _ => κ
theorem pNoL.out {d : D} {κ : Prop} (h : pNoL d κ) : κ ∧ ∀ {T : Tb} {J : En} {ρ : Env'} {σ : St} {H F : Hp} {v : V} {b : Addr}, HalfOk T J ρ σ H F v b d ↔ Rep T.mg F v d := by
  cases d <;> first | exact h.elim | exact ⟨h, Iff.rfl⟩
section
variable {T : Tb} {k : Nat} {P : Pt} {N : List Str} {sc : Scope} {a b c2 c3 : Expr} {pos : Pos} {we : WE} {wo : WO} {w2 : WS} {t2 t3 : WT}
theorem ex_ptt {X : Cx} {e : Expr} {ts : En → TT} (h : ∀ J, PT X e (ts J)) : PT X e (fun σ H Q => ∃ J', ts J' σ H Q) := fun pins s σ H Q I ⟨J', q⟩ => h J' pins s σ H Q I q
end
section
variable {prog : Program} {w : World} {A : Around} {R : Result → Shared → Prop} {s : Shared} {elt t0 i0 t1 i1 : Expr} {ifs0 ifs1 : List Expr} {scope : Scope} {pos : Pos} {it acc : Value} {env : Env}
end
section
variable {X : Cx} {pins : List (Addr × Obj)} {s : Shared} {σ : St} {H : Hp}
end
section
variable {prog : Program} {w : World} {A : Around} {R : Result → Shared → Prop} {s : Shared}
end
section
variable {X : Cx}
end
section
variable {T : Tb} {k : Nat} {P : Pt} {N : List Str} {sc scope : Scope} {tg iter tg1 iter1 elt : Expr} {we : WE} {wi wi1 : WI} {g g1 : PGt} {pos pos' p' : Pos} {ws ws1 : List Nat} {own own1 : List (Str × Nat)}
end
section
variable {X : Cx} {pins : List (Addr × Obj)} {s : Shared} {σ : St} {H : Hp}
end
section
variable {prog : Program} {w : World} {A : Around} {R : Result → Shared → Prop} {s : Shared}
end
section
variable {X : Cx}
end
section
variable {T : Tb} {k : Nat} {P : Pt} {N : List Str} {sc scope : Scope} {a b c tg iter ke ve : Expr} {ifs : List Expr} {wk wv wa : WE} {wi : WI} {wt : WT} {g : PGt} {pos gpos p' : Pos} {ws : List Nat} {own : List (Str × Nat)} {x : Str}
end
section
variable {X : Cx}
end
section
variable {T : Tb} {k : Nat} {P : Pt} {N : List Str} {sc : Scope} {a b : Expr} {pos p' : Pos} {wa wb : WE} {x : Str}
end
abbrev Ka := List (Int × Addr × List V)
def dkO (ks : Ka) : List (Key × V) := ks.map fun t => (.inl t.1, .ref t.2.1)
def objO (A : Addr) (ks : Ka) : List (Addr × HO) := (A, .dK (dkO ks)) :: ks.map fun t => (t.2.1, .lst t.2.2)
def PKO (mg : Str → Option Value) (F : Hp) (l : Int × List D) (t : Int × Addr × List V) : Prop := l.1 = t.1 ∧ Reps mg F t.2.2 l.2
theorem PKO.mono {mg : Str → Option Value} {F F' : Hp} (m : HLe F F') : ∀ {L : List (Int × List D)} {ks : Ka}, Paired (PKO mg F) L ks → Paired (PKO mg F') L ks
  | _, _, .nil => .nil
  | _, _, .cons h r => .cons ⟨h.1, h.2.mono m⟩ (PKO.mono m r)
theorem PKO.keys {mg : Str → Option Value} {F : Hp} : ∀ {L : List (Int × List D)} {ks : Ka}, Paired (PKO mg F) L ks → L.map Prod.fst = ks.map Prod.fst
  | _, _, .nil => rfl
  | _, _, .cons h r => by rw [List.map_cons, List.map_cons, h.1, PKO.keys r]
theorem PKO.append {mg : Str → Option Value} {F : Hp} : ∀ {L L' : List (Int × List D)} {ks ks' : Ka}, Paired (PKO mg F) L ks → Paired (PKO mg F) L' ks' → Paired (PKO mg F) (L ++ L') (ks ++ ks')
  | _, _, _, _, .nil, q => q
  | _, _, _, _, .cons h r, q => .cons h (PKO.append r q)
section
variable {T : Tb} {J : En} {ρ : Env'} {σ : St} {H F : Hp}
theorem Rel.reB {B2 : List (Addr × HO)} {p : Addr} {o o' : HO} (R : Rel T J ρ σ H F) (hp : (p, o) ∈ J.B) (ho : ∀ ps, o' ≠ .tbl ps) (hB : ∀ q ∈ B2, q = (p, o') ∨ (q ∈ J.B ∧ q.1 ≠ p)) : Rel T { J with B := B2 } ρ σ (upd H p o') F := by
  obtain ⟨hH, hF, ⟨hno, hJ, hA⟩, hs⟩ := R.prot (p, o) hp
  have hH : H p = some o := hH
  refine ⟨R.len, fun b u e => ?_, fun i c e => ?_, R.dis, fun b u e hb => ?_, R.mono, fun P hP => ?_, R.ntab, fun b hb => ?_, fun q hq => ?_⟩
  · rw [upd_ne (ne_of_none e hF)]; exact R.sub _ _ e
  · obtain ⟨v, e1, s⟩ := R.slot i c e
    cases c with
    | sh d => exact ⟨v, e1, s⟩
    | ow d =>
      obtain ⟨a, hv, w, r⟩ := s
      have ne : a ≠ p := by rintro rfl; subst hv; exact hs i _ e rfl e1
      exact ⟨v, e1, a, hv, w.mono (HLe.refl F) (upd_ne ne), r⟩
    | mu d =>
      obtain ⟨a, hv, w, r⟩ := s
      have ne : a ≠ p := by rintro rfl; subst hv; exact hs i _ e rfl e1
      exact ⟨v, e1, a, hv, w.mono (HLe.refl F) (upd_ne ne), r⟩
  · obtain ⟨o1, e1⟩ := R.old b u e hb
    exact ⟨o1.trans fun y hy => Old.refl (by rw [upd_ne (ne_of_none e hJ)]; exact hy), e1⟩
  · obtain ⟨ps, e⟩ := R.tab P hP
    have ne : P ≠ p := by rintro rfl; rw [hH] at e; cases e; exact hno ps rfl
    exact ⟨ps, by rw [upd_ne ne]; exact e⟩
  · have ne : b ≠ p := by rintro rfl; exact hA hb
    obtain ⟨⟨u, e⟩, z⟩ := R.aA b hb
    exact ⟨⟨u, by rw [upd_ne ne]; exact e⟩, z⟩
  · rcases hB q hq with rfl | ⟨h1, h2⟩
    · exact ⟨upd_same, hF, ⟨ho, hJ, hA⟩, hs⟩
    · obtain ⟨g1, g2⟩ := R.prot q h1
      exact ⟨by rw [upd_ne h2]; exact g1, g2⟩
structure GS (T : Tb) (J : En) (ρ : Env') (σ : St) (H F : Hp) (A : Addr) (L : List (Int × List D)) (ks : Ka) : Prop where
  R : Rel T { J with B := objO A ks ++ J.B } ρ σ H F
  pr : Paired (PKO T.mg F) L ks
  nd : (A :: ks.map fun t => t.2.1).Nodup
  ds : ∀ q ∈ J.B, q.1 ∉ A :: ks.map fun t => t.2.1
theorem GS.dic {A : Addr} {L : List (Int × List D)} {ks : Ka} (g : GS T J ρ σ H F A L ks) : H A = some (.dK (dkO ks)) := (g.R.prot (A, .dK (dkO ks)) (List.mem_append_left _ List.mem_cons_self)).1
theorem GS.put {A a : Addr} {L L1 L2 : List (Int × List D)} {k1 k2 : Ka} {p : Int} {vs ws : List V} {l xs : List D} (g : GS T J ρ σ H F A L (k1 ++ (p, a, vs) :: k2)) (h1 : Paired (PKO T.mg F) L1 k1) (h2 : Paired (PKO T.mg F) L2 k2) (hw : Reps T.mg F ws xs) :
    H a = some (.lst vs) ∧ GS T J ρ σ (upd H a (.lst ws)) F A (L1 ++ (p, xs) :: L2) (k1 ++ (p, a, ws) :: k2) := by
  have hm : (a, HO.lst vs) ∈ objO A (k1 ++ (p, a, vs) :: k2) ++ J.B := List.mem_append_left _ (List.mem_cons_of_mem _ (List.mem_map.mpr ⟨(p, a, vs), by simp, rfl⟩))
  have hA : A ≠ a := fun e => (List.nodup_cons.mp g.nd).1 (by rw [e]; simp)
  have hnd := (List.nodup_cons.mp g.nd).2
  have hdk : dkO (k1 ++ (p, a, ws) :: k2) = dkO (k1 ++ (p, a, vs) :: k2) := by unfold dkO; simp
  have had : (k1 ++ (p, a, ws) :: k2).map (fun t => t.2.1) = (k1 ++ (p, a, vs) :: k2).map (fun t => t.2.1) := by simp
  rw [List.map_append, List.map_cons] at hnd
  obtain ⟨n1, n2, n3⟩ := List.nodup_append.mp hnd
  have n4 := (List.nodup_cons.mp n2).1
  refine ⟨(g.R.prot _ hm).1, g.R.reB (o := .lst vs) hm (fun _ z => nomatch z) fun q hq => ?_, PKO.append h1 (.cons ⟨rfl, hw⟩ h2), by rw [had]; exact g.nd, by rw [had]; exact g.ds⟩
  rcases List.mem_append.mp hq with hq | hq
  · rcases List.mem_cons.mp hq with rfl | hq
    · exact .inr ⟨by rw [hdk]; exact List.mem_append_left _ List.mem_cons_self, hA⟩
    · obtain ⟨t, ht, rfl⟩ := List.mem_map.mp hq
      rcases List.mem_append.mp ht with ht | ht
      · exact .inr ⟨List.mem_append_left _ (List.mem_cons_of_mem _ (List.mem_map.mpr ⟨t, List.mem_append_left _ ht, rfl⟩)), fun e => n3 _ (List.mem_map_of_mem (f := fun t : Int × Addr × List V => t.2.1) ht) a List.mem_cons_self e⟩
      · rcases List.mem_cons.mp ht with rfl | ht
        · exact .inl rfl
        · exact .inr ⟨List.mem_append_left _ (List.mem_cons_of_mem _ (List.mem_map.mpr ⟨t, List.mem_append_right _ (List.mem_cons_of_mem _ ht), rfl⟩)), fun e => n4 (List.mem_map.mpr ⟨t, ht, e⟩)⟩
  · exact .inr ⟨List.mem_append_right _ hq, fun e => g.ds q hq (by rw [e]; simp)⟩
end
section
variable {T : Tb} {k : Nat} {P : Pt} {N : List Str} {sc scope : Scope} {tg iter ke ve e1 e2 : Expr} {wk we : WE} {wv : WF} {wo : WO} {wi : WI} {g : PGt} {wz : WS} {ws : List Nat} {own : List (Str × Nat)}
theorem GS.mono {J : En} {ρ ρ' : Env'} {σ σ' : St} {H H' F F' : Hp} {A : Addr} {L : List (Int × List D)} {ks : Ka} (g : GS T J ρ σ H F A L ks) (m : HLe F F') (R : Rel T { J with B := objO A ks ++ J.B } ρ' σ' H' F') : GS T J ρ' σ' H' F' A L ks := ⟨R, PKO.mono m g.pr, g.nd, g.ds⟩
end
section
variable {T : Tb} {k : Nat} {P : Pt} {N : List Str} {sc scope : Scope} {tg elt : Expr} {ifs : List Expr} {we : WE} {wt : WT} {g : PGt} {pos : Pos} {ws : List Nat}
end
end L2
namespace L2
def lexLt : List Int → List Int → Bool
  | x :: xs, y :: ys => if x = y then lexLt xs ys else decide (x < y)
  | _, _ => false
end L2
namespace PySem.SeqAt
open PySem PySem.Spec PyProof.Rows
open PySem.AutoSeq1 (wpAny_loadPart')
open PySem.MeetsSeq PySem.MeetsSeq2 PySem.MeetsSeq3
end PySem.SeqAt
namespace PySem.W
open PySem PySem.Calls PyProof.Rows
section
variable {prog : Program} {w : World} {A : Around} {E : Value → Shared → Prop} {s : Shared}
end
end PySem.W
namespace L2
open PySem PySem.Spec PyProof.Rows
section
variable {T : Tb}
theorem Reps.rows {mg : Str → Option Value} {F : Hp} : ∀ {vs : List V} {rows : List (List Int)}, Reps mg F vs (rows.map fun r => D.lst (r.map D.int)) → ∃ ps : List (Addr × List Int), vs = ps.map (fun e => V.ref e.1) ∧ rows = ps.map (·.2) ∧ ∀ e ∈ ps, Rd F e.1 (.lst (e.2.map V.int))
  | _, [], .nil => ⟨[], rfl, rfl, fun e he => absurd he List.not_mem_nil⟩
  | _, r :: rows, .cons h q => by
    obtain ⟨ps, e1, e2, e3⟩ := Reps.rows q
    cases h with
    | lst hd hr =>
      rename_i a ws
      rw [hr.toInts] at hd
      refine ⟨(a, r) :: ps, by rw [e1]; rfl, by rw [e2]; rfl, fun e he => ?_⟩
      rcases List.mem_cons.mp he with rfl | he
      · exact hd
      · exact e3 e he
end
section
variable {T : Tb} {k : Nat} {P : Pt} {N : List Str} {sc : Scope} {a b c : Expr} {pos : Pos} {tA' : WT} {wa wb : WO}
def wIfO (t : WT) (wa wb : WO) : WO := fun ρ Q => t ρ fun b ρ' => match b with | true => wa ρ' Q | false => wb ρ' Q
theorem vo_ifExp (ht : VT T k P N sc c tA') (ha : VO T k P N sc a wa) (hb : VO T k P N sc b wb) : VO T k P N sc (.IfExp c a b pos) (wIfO tA' wa wb) := ⟨fun X J G => (pe_ifExp (ht.of X J G) (ha.of X J G) (hb.of X J G)).imp fun σ H Q => by
  rintro ⟨ρ, F, Q', R, q, z⟩
  refine ⟨ρ, F, _, R, q, fun b H1 F1 ρ1 R1 m1 q1 => ?_⟩
  cases b with
  | true => exact iteT ⟨ρ1, F1, _, R1, q1, fun v H2 F2 o2 ρ2 R2 m2 ho2 q2 => z v H2 F2 o2 ρ2 R2 (m1.trans m2) ho2 q2⟩
  | false => exact iteF ⟨ρ1, F1, _, R1, q1, fun v H2 F2 o2 ρ2 R2 m2 ho2 q2 => z v H2 F2 o2 ρ2 R2 (m1.trans m2) ho2 q2⟩⟩
end
abbrev Tr := List (Addr × List V)
def objT (A : Addr) (ks : Tr) : List (Addr × HO) := (A, .lst (ks.map fun t => V.ref t.1)) :: ks.map fun t => (t.1, .lst t.2)
def PKT (mg : Str → Option Value) (F : Hp) (l : List D) (t : Addr × List V) : Prop := Reps mg F t.2 l
theorem PKT.mono {mg : Str → Option Value} {F F' : Hp} (m : HLe F F') : ∀ {L : List (List D)} {ks : Tr}, Paired (PKT mg F) L ks → Paired (PKT mg F') L ks
  | _, _, .nil => .nil
  | _, _, .cons h r => .cons (Reps.mono m h) (PKT.mono m r)
theorem PKT.append {mg : Str → Option Value} {F : Hp} : ∀ {L L' : List (List D)} {ks ks' : Tr}, Paired (PKT mg F) L ks → Paired (PKT mg F) L' ks' → Paired (PKT mg F) (L ++ L') (ks ++ ks')
  | _, _, _, _, .nil, q => q
  | _, _, _, _, .cons h r, q => .cons h (PKT.append r q)
section
variable {T : Tb} {J : En} {ρ : Env'} {σ : St} {H F : Hp}
structure TG' (T : Tb) (J : En) (ρ : Env') (σ : St) (H F : Hp) (A : Addr) (L : List (List D)) (ks : Tr) : Prop where
  R : Rel T { J with B := objT A ks ++ J.B } ρ σ H F
  pr : Paired (PKT T.mg F) L ks
  nd : (A :: ks.map fun t => t.1).Nodup
  ds : ∀ q ∈ J.B, q.1 ∉ A :: ks.map fun t => t.1
theorem TG'.lst {A : Addr} {L : List (List D)} {ks : Tr} (g : TG' T J ρ σ H F A L ks) : H A = some (.lst (ks.map fun t => V.ref t.1)) := (g.R.prot (A, .lst (ks.map fun t => V.ref t.1)) (List.mem_append_left _ List.mem_cons_self)).1
theorem TG'.mono {ρ' : Env'} {σ' : St} {H' F' : Hp} {A : Addr} {L : List (List D)} {ks : Tr} (g : TG' T J ρ σ H F A L ks) (m : HLe F F') (R : Rel T { J with B := objT A ks ++ J.B } ρ' σ' H' F') : TG' T J ρ' σ' H' F' A L ks := ⟨R, PKT.mono m g.pr, g.nd, g.ds⟩
theorem TG'.put {A a : Addr} {L L1 L2 : List (List D)} {k1 k2 : Tr} {vs ws : List V} {xs : List D} (g : TG' T J ρ σ H F A L (k1 ++ (a, vs) :: k2)) (h1 : Paired (PKT T.mg F) L1 k1) (h2 : Paired (PKT T.mg F) L2 k2) (hw : Reps T.mg F ws xs) :
    H a = some (.lst vs) ∧ TG' T J ρ σ (upd H a (.lst ws)) F A (L1 ++ xs :: L2) (k1 ++ (a, ws) :: k2) := by
  have hm : (a, HO.lst vs) ∈ objT A (k1 ++ (a, vs) :: k2) ++ J.B := List.mem_append_left _ (List.mem_cons_of_mem _ (List.mem_map.mpr ⟨(a, vs), by simp, rfl⟩))
  have hA : A ≠ a := fun e => (List.nodup_cons.mp g.nd).1 (by rw [e]; simp)
  have hnd := (List.nodup_cons.mp g.nd).2
  have hdk : (k1 ++ (a, ws) :: k2).map (fun t => V.ref t.1) = (k1 ++ (a, vs) :: k2).map (fun t => V.ref t.1) := by simp
  have had : (k1 ++ (a, ws) :: k2).map (fun t => t.1) = (k1 ++ (a, vs) :: k2).map (fun t => t.1) := by simp
  rw [List.map_append, List.map_cons] at hnd
  obtain ⟨n1, n2, n3⟩ := List.nodup_append.mp hnd
  have n4 := (List.nodup_cons.mp n2).1
  refine ⟨(g.R.prot _ hm).1, g.R.reB (o := .lst vs) hm (fun _ z => nomatch z) fun q hq => ?_, PKT.append h1 (.cons hw h2), by rw [had]; exact g.nd, by rw [had]; exact g.ds⟩
  rcases List.mem_append.mp hq with hq | hq
  · rcases List.mem_cons.mp hq with rfl | hq
    · exact .inr ⟨by rw [hdk]; exact List.mem_append_left _ List.mem_cons_self, hA⟩
    · obtain ⟨t, ht, rfl⟩ := List.mem_map.mp hq
      rcases List.mem_append.mp ht with ht | ht
      · exact .inr ⟨List.mem_append_left _ (List.mem_cons_of_mem _ (List.mem_map.mpr ⟨t, List.mem_append_left _ ht, rfl⟩)), fun e => n3 _ (List.mem_map_of_mem (f := fun t : Addr × List V => t.1) ht) a List.mem_cons_self e⟩
      · rcases List.mem_cons.mp ht with rfl | ht
        · exact .inl rfl
        · exact .inr ⟨List.mem_append_left _ (List.mem_cons_of_mem _ (List.mem_map.mpr ⟨t, List.mem_append_right _ (List.mem_cons_of_mem _ ht), rfl⟩)), fun e => n4 (List.mem_map.mpr ⟨t, ht, e⟩)⟩
  · exact .inr ⟨List.mem_append_right _ hq, fun e => g.ds q hq (by rw [e]; simp)⟩
end
abbrev WB := (Env' → List (List D) → Prop) → Env' → List (List D) → Prop
def tTb (T : Tb) (J : En) (il : Nat) (A : Addr) (w : WB) : TS := fun E σ H => ∃ ρ F L ks K, TG' T J ρ σ H F A L ks ∧ σ[il]? = some (some (.ref A)) ∧ w K ρ L ∧
  ∀ σ' H' ρ' F' L' ks', TG' T J ρ' σ' H' F' A L' ks' → HLe F F' → σ'[il]? = some (some (.ref A)) → K ρ' L' → E.nx σ' H'
section
variable (T : Tb) (k : Nat) (P : Pt) (N : List Str) (sc : Scope) (il : Nat)
structure VB (s : Stmt) (w : WB) : Prop where
  mk :: (of : ∀ X J A, Gd T k P N sc X → PS X s (tTb T J il A w))
structure VBs (ss : List Stmt) (w : WB) : Prop where
  mk :: (of : ∀ X J A, Gd T k P N sc X → PSs X ss (tTb T J il A w))
end
section
variable {T : Tb} {k : Nat} {P : Pt} {N : List Str} {sc : Scope} {il : Nat} {s : Stmt} {ss ss' : List Stmt} {a b : WB} {wt : WT} {w1 w2 : WE} {c e1 e2 : Expr} {pos p' ps1 ps2 : Pos} {x : Str}
end
section
variable {T : Tb} {k : Nat} {P : Pt} {N : List Str} {sc scope : Scope} {tg iter ve tg2 iter2 : Expr} {wv : WF} {wi wi2 : WI} {g g2 : PGt} {wb : WB} {ws ws2 : List Nat} {own : List (Str × Nat)}
end
end L2
namespace PySem.W
open PySem PySem.Calls PyProof.Rows
section
variable {prog : Program} {w : World} {A : Around} {E : Value → Shared → Prop} {κ : SortKind} {it : Array Keyed} {s : Shared}
variable {cmp : Nat → Nat → (Bool → Shared → Prop) → Shared → Prop}
end
end PySem.W
namespace L2
open PySem PySem.Spec PyProof.Rows
section
variable {T : Tb}
end
theorem vss_never {T : Tb} {k : Nat} {P : Pt} {N : List Str} {sc : Scope} {ss : List Stmt} : VSs T k P N sc ss (fun _ _ => False) := ⟨fun X J G pins s σ H E I h => by
  obtain ⟨_, _, _, _, q, _⟩ := h
  exact q.elim⟩
end L2
namespace PySem.SeqAt
open MeetsSeq
section
variable {prog : Program} {w : World} {A : Around} {E : Value → Shared → Prop} {s : Shared}
end
end PySem.SeqAt
namespace L2
open PySem PySem.Spec PyProof.Rows
section
variable {T : Tb} {X : Cx}
end
end L2
namespace MT
def sumN : Nat → (Nat → Int) → Int
  | 0, _ => 0
  | n + 1, f => sumN n f + f n
def sgn : Nat → Int
  | 0 => 1
  | n + 1 => - sgn n
def skip (j k : Nat) : Nat := if k < j then k else k + 1
abbrev Mx := Nat → Nat → Int
def mnr (M : Mx) (j : Nat) : Mx := fun i k => M (i + 1) (skip j k)
def det : Nat → Mx → Int
  | 0, _ => 1
  | n + 1, M => sumN (n + 1) fun j => sgn j * M 0 j * det n (mnr M j)
end MT
namespace MT
def sub (M : Mx) (I J : Nat → Nat) : Mx := fun i j => M (I i) (J j)
def led (t : Nat → Nat) (k : Nat) : Nat → Nat := fun i => if 1 ≤ i ∧ i ≤ k ∧ t i = 0 then t 0 else t i
end MT
namespace MT
inductive Out (m : Nat) (t : Nat → Nat) : Nat → Prop where
  | done {i : Nat} (h : m ≤ i) : Out m t i
  | step {i : Nat} (h : Out m t (t i)) : Out m t i
abbrev Tie := Nat × Nat
def frm (E : List Tie) (i : Nat) : List Tie := E.filter fun e => decide (e.1 = i)
def lap (E : List Tie) : Mx := fun i j => ((frm E i).map fun e => (if j = i then (1 : Int) else 0) - (if j = e.2 then 1 else 0)).sum
def put (t : Nat → Nat) (k b : Nat) : Nat → Nat := fun i => if i = k then b else t i
end MT
namespace MT
def mx (M : List (List Int)) : Mx := fun i j => (M.getD i []).getD j 0
def Sq (M : List (List Int)) (s : Nat) : Prop := M.length = s ∧ ∀ r ∈ M, r.length = s
end MT
namespace MT
def addT (M : List (List Int)) (i j : Nat) (c : Int) : List (List Int) := M.set i ((M.getD i []).set j ((M.getD i []).getD j 0 + c))
def stepT (m : Nat) (M : List (List Int)) (e : Tie) : List (List Int) := if e.1 < m ∧ e.1 ≠ e.2 then (if e.2 < m then addT (addT M e.1 e.1 1) e.1 e.2 (-1) else addT M e.1 e.1 1) else M
end MT
namespace Law
open PySem PySem.Spec PyProof.Rows L2
def isWholeD : D → Bool
  | .int _ => true
  | _ => false
def Well (u : Int) (w : D) : Prop := ∃ a b c : Int, w = .lst [.int a, .int b, .int c] ∧ 0 ≤ c ∧ c ≤ u
def asI : D → Int
  | .int i => i
  | _ => -1
def tA : D → Int
  | .tup (a :: _) => asI a
  | _ => -1
def tB : D → Int
  | .tup [_, b] => asI b
  | _ => -1
def Pr (n : Int) (t : D) : Prop := ∃ a b : Int, t = .tup [.int a, .int b] ∧ (0 ≤ a ∧ a < n) ∧ (0 ≤ b ∧ b < n)
def Web (n : Int) (ts : List D) : Prop := (1 ≤ n ∧ n ≤ 7) ∧ ts.length ≤ 20 ∧ ∀ t ∈ ts, Pr n t
def Nc (k m : Nat) (d : D) : Prop := plain d = true ∧ (toPy d).showable = true ∧ (toPy d).depth ≤ k ∧ (toPy d).shown.length ≤ m
def isFrom0 (d : D) : Bool := match d with
  | .int i => decide (0 ≤ i)
  | _ => false
abbrev Ed := Int × Int
def eg (t : D) : Ed := (tA t, tB t)
def eds (ts : List D) : List Ed := ts.map eg
inductive Cn (E : List Ed) (s : Int) : Int → Prop where
  | base : Cn E s s
  | fw {a b : Int} (h : Cn E s a) (m : (a, b) ∈ E) : Cn E s b
  | bw {a b : Int} (h : Cn E s b) (m : (a, b) ∈ E) : Cn E s a
inductive Rc (E : List Ed) (s : Int) : Int → Prop where
  | base : Rc E s s
  | step {a b : Int} (h : Rc E s a) (m : (a, b) ∈ E) : Rc E s b
def AllC (E : List Ed) (s : Int) : Prop := ∀ e ∈ E, Cn E s e.1
def Evn (E : List Ed) : Prop := (E.map Prod.fst).Perm (E.map Prod.snd)
def homeOf (ts : List D) : Int := if ts.isEmpty then 0 else tA (ts.getD 0 .non)
def Good (ts : List D) : Prop := Evn (eds ts) ∧ AllC (eds ts) (homeOf ts)
noncomputable def dcd (p : Prop) : Bool := @decide p (Classical.propDecidable p)
def tie (ts : List D) (i : Int) : D := ts.getD i.toNat .non
def pick (ts : List D) (ns : List Int) : List D := ns.map fun i => ts.getD i.toNat .non
def dropN (k : Int) (ns : List Int) : List Int := ns.filter fun x => !decide (x = k)
def cellOf : D → Cell
  | .non => .sh .non
  | d => .ow d
def isUsed (ts : List D) (p : Int) : Bool := ts.any fun t => decide (tA t = p) || decide (tB t = p)
def usedF (ts : List D) : List Int := (rngL 0 1 7).filter (isUsed ts)
def nx1 (on : List (Int × Int)) (p : Int) : Int := (on.lookup p).getD p
def nxt (on : List (Int × Int)) (r p : Int) : Int := if p = r then p else nx1 on p
def itN (on : List (Int × Int)) (r : Int) : Nat → Int → Int
  | 0, p => p
  | n + 1, p => itN on r n (nxt on r p)
def onT (ts : List D) (tr : List Int) : List (Int × Int) := tr.map fun k => (tA (tie ts k), tB (tie ts k))
structure Tree (ts : List D) (r : Int) (tr : List Int) : Prop where
  srt : tr.Pairwise (· < ·)
  bnd : ∀ k ∈ tr, 0 ≤ k ∧ k < (ts.length : Int)
  st : (tr.map fun k => tA (tie ts k)).Perm (dropN r (usedF ts))
  cm : ∀ k ∈ tr, itN (onT ts tr) r tr.length (tA (tie ts k)) = r
inductive Grow (ts : List D) (h : Int) : List Int → List Int → Prop where
  | nil : Grow ts h [] [h]
  | snoc {fs gs : List Int} {k : Int} (r : Grow ts h fs gs) (b : 0 ≤ k ∧ k < (ts.length : Int)) (e : tB (tie ts k) ∈ gs) (a : tA (tie ts k) ∉ gs) : Grow ts h (fs ++ [k]) (gs ++ [tA (tie ts k)])
def Drawn (ts : List D) (tr : List Int) : Prop := ∃ fs gs, Grow ts (homeOf ts) fs gs ∧ (∀ k : Int, 0 ≤ k → k < (ts.length : Int) → tB (tie ts k) ∈ gs → tA (tie ts k) ∈ gs) ∧ tr.Perm fs ∧ tr.Pairwise (· ≤ ·)
abbrev webD (n : Int) (ts : List D) : D := .tup [.int n, .lst ts]
abbrev intD (ns : List Int) : D := .lst (ns.map D.int)
def surp (ts : List D) (p : Int) : Int := ((ts.map tA).count p : Int) - ((ts.map tB).count p : Int)
def lastI (p : List Int) : Int := p.getD (p.length - 1) 0
def lastOf (ts : List D) (p : Int) (c : List Int) : Option Int := (c.filter fun k => decide (tA (tie ts k) = p)).getLast?
abbrev En0 (mt : Bool) (κ : Cell → D → Prop) : Pn := { nx := fun ρ => pEnd mt κ (.sh .non) ρ, rt := fun c ρ => pEnd mt κ c ρ }
theorem genAll {g : PGt} {we : WE} {v : Nat} {Q : Bool → Env' → Prop} {ρ0 : Env'} (p : D → Bool) : ∀ {ds : List D},
    (∀ d ∈ ds, ∀ Q', (Q' (.val (.bl (p d))) (ρ0.set v (some (.sh d))) → g d (ρ0.set v none) fun ρ1 => we ρ1 Q')) → Q (ds.all p) (ρ0.set v none) → genL false g we [v] ds (ρ0.set v none) Q
  | [], _, q => q
  | d :: ds, h, q => by
    refine h d List.mem_cons_self _ ?_
    show if p d = false then Q false _ else genL false g we [v] ds _ Q
    have e : wipeE (ρ0.set v (some (.sh d))) [v] = ρ0.set v none := by simp only [wipeE, List.set_set]
    rw [e]
    cases hp : p d with
    | false => rw [if_pos rfl]; simpa [hp] using q
    | true =>
      rw [if_neg (by simp)]
      exact genAll p (fun d' hd => h d' (List.mem_cons_of_mem _ hd)) (by simpa [hp] using q)
theorem plain_mem {xs : List D} (h : plains xs = true) : ∀ x ∈ xs, plain x = true := by
  induction xs with
  | nil => intro x hx; cases hx
  | cons a r ih =>
    have h : (plain a && plains r) = true := h
    rw [Bool.and_eq_true] at h
    intro x hx
    rcases List.mem_cons.mp hx with rfl | hx
    · exact h.1
    · exact ih h.2 x hx
theorem mul_mod {x y m : Int} (h0 : 0 < m) (h1 : m < 2 ^ 64) : CMul (x % m) y := .inl ⟨by have := Int.emod_nonneg x (show m ≠ 0 by omega); omega, by have := Int.emod_lt_of_pos x h0; omega⟩
theorem line1000 {n : Nat} (h : n < 1000) : n < sizeLine := small1000 (Nat.le_of_lt h)
theorem rangeD_len (lo : Int) (n : Nat) : (rangeD lo n).length = n := by simp [rangeD]
def Sl (c : Option Cell) : Prop := c = none ∨ ∃ d, c = some (.sh d)
theorem Sl.non : Sl none := .inl rfl
theorem Sl.sh {d : D} : Sl (some (.sh d)) := .inr ⟨d, rfl⟩
theorem atI_of {α : Type} {xs : List α} {r : Int} (h0 : 0 ≤ r) (h1 : r < xs.length) : ∃ x, atI xs r = some x ∧ x ∈ xs := by
  have hl : r.toNat < xs.length := by omega
  refine ⟨xs[r.toNat], ?_, List.getElem_mem _⟩
  have := atI_nat (xs := xs) (j := r.toNat) (v := xs[r.toNat]) (List.getElem?_eq_getElem hl)
  rw [Int.toNat_of_nonneg h0] at this
  exact this
def Chn (home here : D) (found : List D) : Prop := found.map tA ++ [asI here] = asI home :: found.map tB
theorem Chn.step {home here other : D} {found : List D} (h : Chn home here found) : Chn home other (found ++ [.tup [here, other]]) := by
  unfold Chn at h ⊢
  rw [List.map_append, List.map_append]
  show (found.map tA ++ [asI here]) ++ [asI other] = (asI home :: found.map tB) ++ [asI other]
  rw [h]
theorem rangeD_map (lo : Int) (n : Nat) : rangeD lo n = ((List.range n).map fun (i : Nat) => lo + (i : Int)).map D.int := by simp [rangeD]
theorem Well.mono {u v : Int} {w : D} (h : Well u w) (k : u ≤ v) : Well v w := by
  obtain ⟨a, b, c, e, h0, h1⟩ := h
  exact ⟨a, b, c, e, h0, by omega⟩
theorem cutD_len (xs : List D) (lo hi : Option Int) : (cutD xs lo hi).length ≤ xs.length := by
  unfold L2.cutD
  rw [List.length_take, List.length_drop]
  omega
theorem cut_to {xs : List D} {r : Int} (h0 : 0 ≤ r) : cutD xs none (some r) = xs.take r.toNat := by
  have e : HT.sIx xs.length xs.length (some r) = min r.toNat xs.length := by show (if r < 0 then _ else _) = _; rw [if_neg (by omega)]
  unfold L2.cutD
  rw [e]
  show List.take (min r.toNat xs.length - 0) (xs.drop 0) = _
  rw [Nat.sub_zero, List.drop_zero]
  by_cases h : r.toNat ≤ xs.length
  · rw [Nat.min_eq_left h]
  · rw [Nat.min_eq_right (by omega), List.take_of_length_le (Nat.le_refl _), List.take_of_length_le (by omega)]
theorem ixN_of {n : Nat} {r : Int} (h0 : 0 ≤ r) (h1 : r < n) : ixN n r = some r.toNat := by
  unfold ixN
  simp only [h0, h1, if_true]
theorem Nc.mono {k m k' m' : Nat} {d : D} (h : Nc k m d) (hk : k ≤ k') (hm : m ≤ m') : Nc k' m' d := ⟨h.1, h.2.1, Nat.le_trans h.2.2.1 hk, Nat.le_trans h.2.2.2 hm⟩
theorem depthAll_le {k : Nat} : ∀ {xs : List D}, (∀ x ∈ xs, (toPy x).depth ≤ k) → PyData.depthAll (toPys xs) ≤ k
  | [], _ => by simp [toPys, PyData.depthAll]
  | x :: r, h => by
    have ih := depthAll_le (k := k) (xs := r) fun t ht => h t (List.mem_cons_of_mem _ ht)
    have h0 := h x List.mem_cons_self
    simp only [toPys, PyData.depthAll]
    omega
theorem plains_of : ∀ {xs : List D}, (∀ x ∈ xs, L2.plain x = true) → plains xs = true
  | [], _ => rfl
  | x :: r, h => by
    have ih := plains_of (xs := r) fun t ht => h t (List.mem_cons_of_mem _ ht)
    show (L2.plain x && plains r) = true
    rw [ih, h x List.mem_cons_self]; rfl
theorem atAll {xs : List D} {P : D → Prop} {r : Int} (h : ∀ x ∈ xs, P x) (h0 : 0 ≤ r) (h1 : r < xs.length) : ∃ x, atI xs r = some x ∧ P x := by
  obtain ⟨x, e, hx⟩ := atI_of h0 h1
  exact ⟨x, e, h x hx⟩
theorem seqds_all : ∀ {xs : List D}, (∀ x ∈ xs, seqd x = true) → seqds xs = true
  | [], _ => rfl
  | x :: r, h => by
    show (seqd x && seqds r) = true
    rw [h x List.mem_cons_self, seqds_all fun y hy => h y (List.mem_cons_of_mem _ hy)]
    rfl
section
variable {S : Int → Bool}
end
def Bal (R : List Ed) (here home : Int) : Prop := (R.map Prod.fst ++ [home]).Perm (R.map Prod.snd ++ [here])
theorem Rc.mono {R R' : List Ed} (hs : ∀ e ∈ R, e ∈ R') {s x : Int} (h : Rc R s x) : Rc R' s x := by
  induction h with
  | base => exact .base
  | step _ m ih => exact .step ih (hs _ m)
theorem Cn.mono {R R' : List Ed} (hs : ∀ e ∈ R, e ∈ R') {s x : Int} (h : Cn R s x) : Cn R' s x := by
  induction h with
  | base => exact .base
  | fw _ m ih => exact .fw ih (hs _ m)
  | bw _ m ih => exact .bw ih (hs _ m)
theorem Bal.next {R rest : List Ed} {here home b : Int} (hp : R.Perm ((here, b) :: rest)) (hb : Bal R here home) : Bal rest b home := by
  unfold Bal at hb ⊢
  have h1 : (here :: (rest.map Prod.fst ++ [home])).Perm (R.map Prod.fst ++ [home]) := ((hp.map Prod.fst).append_right [home]).symm
  have h2 : (R.map Prod.snd ++ [here]).Perm (here :: (rest.map Prod.snd ++ [b])) := by
    refine ((hp.map Prod.snd).append_right [here]).trans ?_
    show (b :: (rest.map Prod.snd ++ [here])).Perm _
    refine (List.Perm.cons b List.perm_append_comm).trans ?_
    refine (List.Perm.swap here b _).trans (List.Perm.cons here ?_)
    exact List.perm_append_comm (l₁ := [b])
  exact (List.perm_cons here).mp (h1.trans (hb.trans h2))
theorem drop_perm {k : Int} : ∀ {left : List Int}, left.Nodup → k ∈ left → left.Perm (k :: dropN k left)
  | [], _, h => by cases h
  | x :: r, hn, h => by
    have hn' := List.nodup_cons.mp hn
    unfold dropN
    by_cases e : x = k
    · subst e
      have e2 : (x :: r).filter (fun y => !decide (y = x)) = r := by
        rw [List.filter_cons_of_neg (by simp)]
        refine List.filter_eq_self.mpr fun y hy => ?_
        rw [decide_eq_false fun z => hn'.1 (by rw [← z]; exact hy)]
        rfl
      rw [e2]
    · have hr : k ∈ r := by
        rcases List.mem_cons.mp h with z | h
        · exact absurd z.symm e
        · exact h
      rw [List.filter_cons_of_pos (by rw [decide_eq_false e]; rfl)]
      exact ((drop_perm hn'.2 hr).cons x).trans (List.Perm.swap k x _)
theorem drop_mem {k x : Int} {left : List Int} : x ∈ dropN k left ↔ x ∈ left ∧ x ≠ k := by
  unfold dropN
  rw [List.mem_filter]
  constructor
  · rintro ⟨h1, h2⟩
    refine ⟨h1, fun e => ?_⟩
    rw [decide_eq_true e] at h2
    cases h2
  · rintro ⟨h1, h2⟩
    refine ⟨h1, ?_⟩
    rw [decide_eq_false h2]
    rfl
theorem drop_nodup {k : Int} {left : List Int} (h : left.Nodup) : (dropN k left).Nodup := h.filter _
def ege (ts : List D) (ns : List Int) : List Ed := eds (pick ts ns)
theorem ege_map (ts : List D) (ns : List Int) : ege ts ns = ns.map fun i => eg (tie ts i) := by
  unfold ege eds pick
  rw [List.map_map]
  rfl
theorem ege_perm {ts : List D} {ns ms : List Int} (h : ns.Perm ms) : (ege ts ns).Perm (ege ts ms) := by
  rw [ege_map, ege_map]
  exact h.map _
theorem ege_cons (ts : List D) (k : Int) (ns : List Int) : ege ts (k :: ns) = (tA (tie ts k), tB (tie ts k)) :: ege ts ns := by
  rw [ege_map, ege_map]
  rfl
def Grown (n v : Int) (R : List Ed) (f f' : List Int) : Prop := (∃ x, f' = f ++ x) ∧ f'.Nodup ∧ (∀ y ∈ f', 0 ≤ y ∧ y < n) ∧ (∀ y ∈ f', y ∈ f ∨ (v, y) ∈ R ∨ (y, v) ∈ R) ∧ ∀ e ∈ R, (e.1 = v → e.2 ∈ f') ∧ (e.2 = v → e.1 ∈ f')
structure Hng (n s : Int) (E : List Ed) (k : Nat) (f : List Int) : Prop where
  st : s ∈ f
  nd : f.Nodup
  inr : ∀ y ∈ f, 0 ≤ y ∧ y < n
  cn : ∀ y ∈ f, Cn E s y
  kl : k ≤ f.length
  cl : ∀ i v, i < k → f[i]? = some v → ∀ e ∈ E, (e.1 = v → e.2 ∈ f) ∧ (e.2 = v → e.1 ∈ f)
theorem Hng.next {n s : Int} {E : List Ed} {k : Nat} {f f' : List Int} {v : Int} (h : Hng n s E k f) (hv : f[k]? = some v) (g : Grown n v E f f') : Hng n s E (k + 1) f' := by
  obtain ⟨⟨x, ex⟩, h2, h3, h4, h5⟩ := g
  have hk := (List.getElem?_eq_some_iff.mp hv).1
  have sub : ∀ y ∈ f, y ∈ f' := fun y hy => by rw [ex]; exact List.mem_append_left _ hy
  have hvf : v ∈ f := List.mem_of_getElem? hv
  refine ⟨sub _ h.st, h2, h3, fun y hy => ?_, by rw [ex, List.length_append]; omega, fun i u hi hu e he => ?_⟩
  · rcases h4 y hy with z | z | z
    · exact h.cn y z
    · exact .fw (h.cn v hvf) z
    · exact .bw (h.cn v hvf) z
  · have hu' : f[i]? = some u := by rw [← hu, ex, List.getElem?_append_left (by omega)]
    by_cases hik : i = k
    · subst hik
      rw [hv] at hu'
      cases hu'
      exact h5 e he
    · obtain ⟨c1, c2⟩ := h.cl i u (by omega) hu' e he
      exact ⟨fun z => sub _ (c1 z), fun z => sub _ (c2 z)⟩
theorem Hng.all {n s : Int} {E : List Ed} {k : Nat} {f : List Int} (h : Hng n s E k f) (hk : f.length ≤ k) : ∀ x, x ∈ f ↔ Cn E s x := fun x => by
  refine ⟨h.cn x, fun c => ?_⟩
  have cl : ∀ v ∈ f, ∀ e ∈ E, (e.1 = v → e.2 ∈ f) ∧ (e.2 = v → e.1 ∈ f) := fun v hv e he => by
    obtain ⟨i, hi⟩ := List.getElem?_of_mem hv
    have := (List.getElem?_eq_some_iff.mp hi).1
    exact h.cl i v (by omega) hi e he
  induction c with
  | base => exact h.st
  | @fw a b _ m ih => exact (cl a ih _ m).1 rfl
  | @bw a b _ m ih => exact (cl b ih _ m).2 rfl
theorem rng_shift (m : Nat) : rngL 0 1 (m + 1) = 0 :: rngL 1 1 m := by
  unfold rngL
  rw [List.range_succ_eq_map, List.map_cons, List.map_map]
  refine List.cons_eq_cons.mpr ⟨rfl, List.map_congr_left fun i _ => ?_⟩
  show (0 : Int) + ((i + 1 : Nat) : Int) * 1 = 1 + (i : Int) * 1
  omega
theorem usedF_sorted (ts : List D) : (usedF ts).Pairwise (· < ·) := List.Pairwise.filter _ (by decide)
theorem usedF_nodup (ts : List D) : (usedF ts).Nodup := (usedF_sorted ts).imp fun h => by omega
theorem usedF_len (ts : List D) : (usedF ts).length ≤ 7 := by
  unfold usedF
  exact List.length_filter_le _ _
section
variable {n r : Int} {ts : List D} {tr : List Int}
abbrev TS (n r : Int) (ts : List D) (tr : List Int) (c4 : Option Cell) : Env' := [some (.sh (webD n ts)), some (.sh (.int r)), some (.sh (intD tr)), some (.sh (.lst ts)), c4, none, none]
theorem Tree.nodup (t : Tree ts r tr) : (tr.map fun k => tA (tie ts k)).Nodup := t.st.nodup_iff.mpr (drop_nodup (usedF_nodup ts))
theorem Tree.len (t : Tree ts r tr) : tr.length ≤ 7 := by
  have h1 := t.st.length_eq
  rw [List.length_map] at h1
  have h2 : (dropN r (usedF ts)).length ≤ (usedF ts).length := List.length_filter_le _ _
  have := usedF_len ts
  omega
end
def fl (m : Nat) (f : Int → Int) : List D := (rngL 0 1 m).map fun p => D.int (f p)
section
variable {n : Int} {ts0 : List D} {E : Pn}
end
section
variable {n : Int} {ts : List D} {od : D}
end
section
variable {n : Int} {ts : List D} {tr : List Int} {on : List (Int × Int)}
end
section
variable {n : Int} {ts : List D} {tr : List Int}
end
section
variable {n : Int} {ts : List D} {tr : List Int}
def risQ (ts : List D) (tr left : List Int) (p : Int) : List Int := ((left.filter fun k => decide (tA (tie ts k) = p)).filter fun k => !tr.contains k) ++ ((left.filter fun k => decide (tA (tie ts k) = p)).filter fun k => tr.contains k)
theorem risQ_mem {left : List Int} {p k : Int} : k ∈ risQ ts tr left p ↔ k ∈ left ∧ tA (tie ts k) = p := by
  unfold risQ
  simp only [List.mem_append, List.mem_filter, decide_eq_true_eq]
  constructor
  · rintro (⟨h, _⟩ | ⟨h, _⟩) <;> exact h
  · intro h
    cases hc : tr.contains k with
    | false => exact .inl ⟨h, by rfl⟩
    | true => exact .inr ⟨h, rfl⟩
structure Wk (ts : List D) (tr left : List Int) (here home : Int) : Prop where
  nd : left.Nodup
  bnd : ∀ k ∈ left, 0 ≤ k ∧ k < (ts.length : Int)
  bal : Bal (ege ts left) here home
  lst : ∀ t ∈ tr, ∀ k ∈ left, tA (tie ts k) = tA (tie ts t) → t ∈ left
theorem ege_fst (left : List Int) : (ege ts left).map Prod.fst = left.map fun k => tA (tie ts k) := by rw [ege_map, List.map_map]; rfl
theorem ege_snd (left : List Int) : (ege ts left).map Prod.snd = left.map fun k => tB (tie ts k) := by rw [ege_map, List.map_map]; rfl
theorem Wk.out {left : List Int} {home : Int} (w : Wk ts tr left home home) {k : Int} (hk : k ∈ left) : ∃ j ∈ left, tA (tie ts j) = tB (tie ts k) := by
  have hp : ((ege ts left).map Prod.fst).Perm ((ege ts left).map Prod.snd) := (List.perm_append_right_iff [home]).mp w.bal
  rw [ege_fst, ege_snd] at hp
  have : tB (tie ts k) ∈ left.map fun k => tA (tie ts k) := hp.mem_iff.mpr (List.mem_map.mpr ⟨k, hk, rfl⟩)
  obtain ⟨j, hj, e⟩ := List.mem_map.mp this
  exact ⟨j, hj, e⟩
theorem Wk.next (t : Tree ts (homeOf ts) tr) {left xs : List Int} {here x : Int} (w : Wk ts tr left here (homeOf ts)) (h : risQ ts tr left here = x :: xs) : Wk ts tr (dropN x left) (tB (tie ts x)) (homeOf ts) := by
  obtain ⟨hx, ex⟩ := risQ_mem.mp (h ▸ List.mem_cons_self : x ∈ risQ ts tr left here)
  have hp := ege_perm (ts := ts) (drop_perm w.nd hx)
  rw [ege_cons, ex] at hp
  refine ⟨drop_nodup w.nd, fun k hk => w.bnd k (drop_mem.mp hk).1, Bal.next hp w.bal, fun s hs k hk e => ?_⟩
  obtain ⟨hk1, hk2⟩ := drop_mem.mp hk
  have hl := w.lst s hs k hk1 e
  refine drop_mem.mpr ⟨hl, fun z => ?_⟩
  subst z
  have hkq : k ∈ risQ ts tr left here := risQ_mem.mpr ⟨hk1, e.trans ex⟩
  have hA : (left.filter fun k => decide (tA (tie ts k) = here)).filter (fun k => !tr.contains k) = [] := by
    cases q : (left.filter fun k => decide (tA (tie ts k) = here)).filter (fun k => !tr.contains k) with
    | nil => rfl
    | cons y ys =>
      obtain ⟨zs, this⟩ : ∃ zs, risQ ts tr left here = y :: zs := ⟨_, by unfold risQ; rw [q]; rfl⟩
      rw [h] at this
      have hy : s = y := (List.cons.inj this).1
      have hm : s ∈ (left.filter fun k => decide (tA (tie ts k) = here)).filter (fun k => !tr.contains k) := by rw [q, hy]; exact List.mem_cons_self
      have := (List.mem_filter.mp hm).2
      rw [List.contains_iff_mem.mpr hs] at this
      cases this
  have hkt : k ∈ tr := by
    unfold risQ at hkq
    rw [hA, List.nil_append] at hkq
    exact List.contains_iff_mem.mp (List.mem_filter.mp hkq).2
  have inj : ∀ {l : List Int}, (l.map fun k => tA (tie ts k)).Nodup → ∀ a ∈ l, ∀ b ∈ l, tA (tie ts a) = tA (tie ts b) → a = b := fun {l} => by
    induction l with
    | nil => intro _ a ha; cases ha
    | cons y r ih =>
      intro hn a ha b hb e
      rw [List.map_cons] at hn
      obtain ⟨n1, n2⟩ := List.nodup_cons.mp hn
      rcases List.mem_cons.mp ha with ea | ha'
      · rcases List.mem_cons.mp hb with eb | hb'
        · rw [ea, eb]
        · exact (n1 (List.mem_map.mpr ⟨b, hb', by rw [← e, ea]⟩)).elim
      · rcases List.mem_cons.mp hb with eb | hb'
        · exact (n1 (List.mem_map.mpr ⟨a, ha', by rw [e, eb]⟩)).elim
        · exact ih n2 a ha' b hb' e
  exact hk2 (inj t.nodup k hkt s hs e)
end
theorem drop_zero (m : Nat) : dropN 0 (rngL 0 1 (m + 1)) = rngL 1 1 m := by
  rw [rng_shift]
  unfold dropN
  rw [List.filter_cons_of_neg (by simp)]
  refine List.filter_eq_self.mpr fun x hx => ?_
  obtain ⟨i, _, rfl⟩ := List.mem_map.mp hx
  rw [decide_eq_false (by omega)]
  rfl
section
variable {n : Int} {ts : List D} {tr : List Int}
def LastOk (ts : List D) (tr left c : List Int) : Prop := ∀ t ∈ tr, t ∈ left → lastOf ts (tA (tie ts t)) c = some t
noncomputable def okB (ts : List D) (tr left c : List Int) : Bool := dcd (LastOk ts tr left c)
theorem Wk.free {left : List Int} {here x : Int} (w : Wk ts tr left here (homeOf ts)) (hx : x ∈ left) (ex : tA (tie ts x) = here) (hn : x ∉ tr) : Wk ts tr (dropN x left) (tB (tie ts x)) (homeOf ts) := by
  have hp := ege_perm (ts := ts) (drop_perm w.nd hx)
  rw [ege_cons, ex] at hp
  refine ⟨drop_nodup w.nd, fun k hk => w.bnd k (drop_mem.mp hk).1, Bal.next hp w.bal, fun s hs k hk e => ?_⟩
  exact drop_mem.mpr ⟨w.lst s hs k (drop_mem.mp hk).1 e, fun z => hn (z ▸ hs)⟩
end
section
variable {n : Int} {ts : List D} {tr : List Int}
end
section
variable {n : Int} {ts : List D} {tr : List Int}
end
section
variable {n : Int} {ts : List D} {tr : List Int}
end
def So (c : Option Cell) : Prop := Sl c ∨ ∃ d, c = some (.ow d)
section
variable {E : Pn} {n : Int} {ts : List D} {tr : List Int} {c0 c1 c2 c3 : Option Cell}
end
section
variable {n : Int} {ts : List D} {tr : List Int}
open Classical in
end
section
variable {n r : Int} {ts : List D}
def ixU (us : List Int) (p : Int) : Nat := us.idxOf p
def edU (ts : List D) (us : List Int) : List MT.Tie := ts.map fun t => (ixU us (tA t), ixU us (tB t))
end
section
variable {n : Int} {ts : List D}
end
end Law
namespace MT
def fc : Nat → Nat
  | 0 => 1
  | n + 1 => (n + 1) * fc n
end MT
namespace Law
open PySem PySem.Spec PyProof.Rows L2
def Lnk (ts : List D) : Int → List Int → Prop
  | _, [] => True
  | here, i :: q => tA (tie ts i) = here ∧ Lnk ts (tB (tie ts i)) q
def tb (ts : List D) (us : List Int) : List (List Int) := (edU ts us).foldl (MT.stepT us.length) (List.replicate us.length (List.replicate us.length 0))
section
variable {n : Int} {ts : List D}
theorem Lnk.snoc {i : Int} : ∀ {p : List Int} {here : Int}, p ≠ [] → Lnk ts here p → tA (tie ts i) = tB (tie ts (lastI p)) → Lnk ts here (p ++ [i])
  | [], _, h, _, _ => absurd rfl h
  | [j], here, _, h, e => ⟨h.1, e, trivial⟩
  | j :: k :: q, here, _, h, e => ⟨h.1, Lnk.snoc (p := k :: q) (by simp) h.2 (by
      have : lastI (j :: k :: q) = lastI (k :: q) := by
        unfold lastI
        simp
      rw [← this]; exact e)⟩
theorem Lnk.take : ∀ (m : Nat) {p : List Int} {here : Int}, Lnk ts here p → Lnk ts here (p.take m)
  | 0, _, _, _ => trivial
  | m + 1, [], _, _ => trivial
  | m + 1, i :: q, _, h => ⟨h.1, Lnk.take m h.2⟩
end
section
variable {n : Int} {ts : List D}
end
section
variable {n : Int} {ts : List D} {us : List Int}
end
section
variable {n : Int} {ts : List D}
end
section
variable {n : Int} {ts : List D}
theorem Lnk.last {k : Int} : ∀ {p : List Int} {here : Int}, p ≠ [] → Lnk ts here (p ++ [k]) → tA (tie ts k) = tB (tie ts (lastI p))
  | [], _, h, _ => absurd rfl h
  | [j], _, _, h => h.2.1
  | j :: i :: q, here, _, h => by
    have := Lnk.last (p := i :: q) (by simp) h.2
    have e : lastI (j :: i :: q) = lastI (i :: q) := by
      unfold lastI
      simp
    rw [e]
    exact this
end
end Law
namespace L2
open PySem PySem.Spec PyProof.Rows
section
variable {T : Tb} {k : Nat} {P : Pt} {N : List Str} {sc : Scope} {a : Expr} {pos p' : Pos}
end
theorem Rep.flat {mg : Str → Option Value} {F F' : Hp} : ∀ {v : V} {d : D}, Rep mg F v d → flatD d = true → Rep mg F' v d
  | _, _, .non, _ => .non
  | _, _, .bl b, _ => .bl b
  | _, _, .int i, _ => .int i
  | _, _, .str x, _ => .str x
  | _, _, .lst _ _, h => by cases h
  | _, _, .tup _ _, h => by cases h
  | _, _, .dic _ _, h => by cases h
  | _, _, .fn _, h => by cases h
  | _, _, .exc _ _, h => by cases h
section
variable {T : Tb} {J : En} {ρ : Env'} {σ : St} {H F : Hp}
end
section
variable {T : Tb} {k : Nat} {P : Pt} {N : List Str} {sc : Scope} {a : Expr} {es : List Expr} {pos p' : Pos} {x : Str} {w : WA} {n kf : Nat} {fe : Fe}
end
end L2
namespace Law
open PySem PySem.Spec PyProof.Rows L2
section
variable {n : Int} {ts : List D}
end
section
variable {n : Int} {ts : List D}
theorem Cn.trans {E : List Ed} {a b c : Int} (h : Cn E a b) (k : Cn E b c) : Cn E a c := by
  induction k with
  | base => exact h
  | fw _ m ih => exact .fw ih m
  | bw _ m ih => exact .bw ih m
theorem Cn.symm {E : List Ed} {a b : Int} (h : Cn E a b) : Cn E b a := by
  induction h with
  | base => exact .base
  | fw _ m ih => exact (Cn.bw .base m).trans ih
  | bw _ m ih => exact (Cn.fw .base m).trans ih
end
section
variable {n : Int} {ts : List D}
end
end Law
namespace PySem.W
open PySem PySem.Calls PyProof.Rows
section
variable {prog : Program} {w : World} {A : Around} {E : Value → Shared → Prop} {κ : SortKind} {it : Array Keyed} {s : Shared}
variable {cmp : Nat → Nat → (Bool → Shared → Prop) → Shared → Prop}
end
end PySem.W
namespace L2
open PySem PySem.Spec PyProof.Rows
section
variable {T : Tb}
end
section
variable {T : Tb}
variable {k : Nat} {P : Pt} {N : List Str} {sc : Scope} {a b : Expr} {pos : Pos}
end
end L2
namespace Law
open PySem PySem.Spec PyProof.Rows L2
section
variable {n : Int} {ts : List D}
end
section
variable {n : Int} {ts : List D}
end
end Law
namespace L2
open PySem PySem.Spec PyProof.Rows
section
variable {T : Tb} {k : Nat} {P : Pt} {N : List Str} {sc scope : Scope} {tg iter tg1 iter1 elt : Expr} {we : WE} {wi wi1 : WI} {g g1 : PGt} {pos pos' p' : Pos} {ws ws1 : List Nat} {own own1 : List (Str × Nat)}
end
end L2
namespace PySem.W
open PySem PySem.Calls PyProof.Rows
section
variable {prog : Program} {w : World} {A : Around}
end
end PySem.W
namespace L2
open PySem PySem.Spec PyProof.Rows
section
variable {T : Tb}
theorem Reps.tups {mg : Str → Option Value} {F : Hp} : ∀ {vs : List V} {rows : List (List Int)}, Reps mg F vs (rows.map fun r => D.tup (r.map D.int)) → ∃ ps : List (Addr × List Int), vs = ps.map (fun e => V.ref e.1) ∧ rows = ps.map (·.2) ∧ ∀ e ∈ ps, F e.1 = some (.tup (e.2.map V.int))
  | _, [], .nil => ⟨[], rfl, rfl, fun e he => absurd he List.not_mem_nil⟩
  | _, r :: rows, .cons h q => by
    obtain ⟨ps, e1, e2, e3⟩ := Reps.tups q
    cases h with
    | tup hd hr =>
      rename_i a ws
      rw [hr.toInts] at hd
      refine ⟨(a, r) :: ps, by rw [e1]; rfl, by rw [e2]; rfl, fun e he => ?_⟩
      rcases List.mem_cons.mp he with rfl | he
      · exact hd
      · exact e3 e he
end
end L2
namespace Law
open PySem PySem.Spec PyProof.Rows L2
section
variable {n : Int} {ts : List D}
def fd (c d : List Int) : Nat := ((List.range c.length).find? fun m => !decide (c.getD m 0 = d.getD m 0)).getD 0
end
end Law
namespace L2
open PySem PySem.Spec PyProof.Rows
section
variable {T : Tb} {k : Nat} {P : Pt} {N : List Str} {sc : Scope} {a b : Expr} {pos : Pos}
end
section
variable {T : Tb} {k : Nat} {P : Pt} {N : List Str} {sc : Scope} {tg c : Expr} {wt : WT} {wr : WS} {g : PGt} {pos ipos p' : Pos} {ws : List Nat} {sa : List Stmt}
end
end L2
namespace Law
open PySem PySem.Spec PyProof.Rows L2
def stepC (E : List Ed) (S : List Int) : List Int := S ++ E.filterMap fun e => if e.1 ∈ S then (if e.2 ∈ S then none else some e.2) else if e.2 ∈ S then some e.1 else none
def growC (E : List Ed) : Nat → List Int → List Int
  | 0, S => S
  | k + 1, S => growC E k (stepC E S)
def conn (E : List Ed) (p q : Int) : Bool := decide (q ∈ growC E E.length [p])
def usedB (E : List Ed) (p : Int) : Bool := E.any fun e => decide (e.1 = p) || decide (e.2 = p)
def splM (E : List Ed) (p : Int) : Int := ((E.map Prod.fst).count p : Int) - ((E.map Prod.snd).count p : Int)
def posE (E : List Ed) (p : Int) : Int := if splM E p > 0 then splM E p else 0
def repE (P : List Int) (E : List Ed) (p : Int) : Bool := usedB E p && P.all fun q => !(conn E p q) || decide (p ≤ q)
def balE (P : List Int) (E : List Ed) (p : Int) : Bool := P.all fun q => !(conn E p q) || decide (posE E q = 0)
def tieD (e : Ed) : D := .tup [.int e.1, .int e.2]
structure Parts (E : List Ed) (done : List Ed) (ps : List (List Int)) : Prop where
  cls : ∀ p ∈ ps, ∃ s, usedB E s = true ∧ (∀ x, x ∈ p ↔ Cn E s x) ∧ p.Nodup
  dis : ps.Pairwise fun p q => ∀ x ∈ p, x ∉ q
  all : ∀ e ∈ done, ∃ p ∈ ps, e.1 ∈ p
def EndsM (P : List Int) (E : List Ed) : Prop := ∀ e ∈ E, e.1 ∈ P ∧ e.2 ∈ P
section
variable {P : List Int} (hP : P.Nodup) {E : List Ed} (hE : EndsM P E)
include hE
include hP
end
def tch (E : List Ed) (a b p : Int) : Bool := conn E p a || conn E p b
section
variable {P : List Int} {E : List Ed} {a b : Int}
def z0 (P : List Int) (E : List Ed) (a b : Int) : Nat := P.countP fun p => (repE P E p && balE P E p) && !(tch E a b p)
variable (hP : P.Nodup) (hE : EndsM P E) (ha : a ∈ P) (hb : b ∈ P)
include hP hE ha hb
end
section
variable {P : List Int} {E : List Ed} (hP : P.Nodup) (hE : EndsM P E)
include hP hE
end
section
variable {P : List Int} (hP : P.Nodup) {V : List Ed} (hV : ∀ t ∈ V, t.1 ∈ P ∧ t.2 ∈ P) (hall : ∀ a ∈ P, ∀ b ∈ P, (a, b) ∈ V)
include hP
include hV
include hall
end
section
variable {P : List Int} (hP : P.Nodup) {E : List Ed} (hE : EndsM P E) {ps : List (List Int)} (h : Parts E E ps)
include hP hE h
end
def noMu : Option Cell → Bool
  | some (.mu _) => false
  | _ => true
theorem Sl.free {c : Option Cell} (h : Sl c) : noMu c = true := by rcases h with rfl | ⟨_, rfl⟩ <;> rfl
theorem So.free {c : Option Cell} (h : So c) : noMu c = true := by rcases h with (rfl | ⟨_, rfl⟩) | ⟨_, rfl⟩ <;> rfl
section
variable {n : Int} {ts : List D}
end
structure Wy (n : Int) (ts : List D) (a b : Int) : Prop where
  web : Web n ts
  few : ts.length ≤ 19
  ina : 0 ≤ a ∧ a < n
  inb : 0 ≤ b ∧ b < n
  ne : a ≠ b
  sur : ∀ p, surp ts p = (if p = a then 1 else 0) - (if p = b then 1 else 0)
  good : Good (tieD (b, a) :: ts)
section
variable {n : Int} {ts : List D}
end
section
variable {g : PGt} {wt : WT} {we : WE} {vs : List Nat} {Q : List D → Env' → Prop} {ρ : Env'}
end
end Law
namespace PyProof.Rows
open PySem
structure Ans (prog : Program) (w : World) (A : Around) (s : Shared) (κ : SortKind) (Ok : Keyed → Prop) : Prop where
  say : ∀ x y, Ok x → Ok y → ∀ Q : Bool → Prop, (∀ b, Q b) → wpAny (model prog w) A (keyLt' κ x.1 y.1) (fun b s' => s' = s ∧ Q b) (fun _ _ => False) s
section
variable {prog : Program} {w : World} {A : Around} {E : Value → Shared → Prop} {s : Shared} {κ : SortKind} {Ok : Keyed → Prop} (R : Ans prog w A s κ Ok)
include R
end
end PyProof.Rows
namespace PyProof.Rows
open PySem
section counts
noncomputable def ct (x : Keyed) (l : List Keyed) : Nat := l.countP fun y => @decide (y = x) (Classical.propDecidable _)
theorem ct_app (x : Keyed) (l r : List Keyed) : ct x (l ++ r) = ct x l + ct x r := List.countP_append
theorem ct_rev (x : Keyed) (l : List Keyed) : ct x l.reverse = ct x l := List.countP_reverse
theorem perm_ct {α : Type} {l r : List α} (h : ∀ x, (l.countP fun y => @decide (y = x) (Classical.propDecidable _)) = r.countP fun y => @decide (y = x) (Classical.propDecidable _)) : l.Perm r := by
  classical
  exact List.perm_iff_count.mpr fun x => h x
theorem ct_perm {l r : List Keyed} (h : ∀ x, ct x l = ct x r) : l.Perm r := perm_ct h
noncomputable def cd (x : Keyed) (a : Array Keyed) (i : Nat) : Nat := ct x (a.toList.drop i)
noncomputable def cu (x : Keyed) (a : Array Keyed) (i : Nat) : Nat := ct x (a.toList.take i)
theorem ext_list (a : Array Keyed) (i j : Nat) : (a.extract i j).toList = (a.toList.drop i).take (j - i) := by simp [List.extract]
theorem cd_all {a : Array Keyed} {i : Nat} (x : Keyed) : ct x (a.extract i a.size).toList = cd x a i := by
  unfold cd
  rw [ext_list, List.take_of_length_le (by rw [List.length_drop, Array.length_toList]; exact Nat.le_refl _)]
theorem cu_all {a : Array Keyed} {i : Nat} (x : Keyed) : ct x (a.extract 0 i).toList = cu x a i := by
  unfold cu
  rw [ext_list]
  rfl
end counts
def Lo (a b out : Array Keyed) (i j : Nat) : Prop := ∀ x, ct x out.toList + cd x a i + cd x b j = ct x a.toList + ct x b.toList
section
variable {a b out : Array Keyed} {i j : Nat}
theorem Lo.done (h : Lo a b out i j) : (out ++ a.extract i a.size ++ b.extract j b.size).toList.Perm (a.toList ++ b.toList) := ct_perm fun x => by
  rw [Array.toList_append, ct_app, Array.toList_append, ct_app, ct_app, cd_all, cd_all]
  exact h x
theorem Lo.last (h : Lo a b out i j) : (out ++ b.extract j b.size ++ a.extract i a.size).toList.Perm (a.toList ++ b.toList) := ct_perm fun x => by
  have := h x
  rw [Array.toList_append, ct_app, Array.toList_append, ct_app, ct_app, cd_all, cd_all]
  omega
end
def Hi (a b out : Array Keyed) (i j : Nat) : Prop := ∀ x, ct x out.toList + cu x a i + cu x b j = ct x a.toList + ct x b.toList
section
variable {a b out : Array Keyed} {i j : Nat}
theorem Hi.done (h : Hi a b out i j) : (a.extract 0 i ++ b.extract 0 j ++ out.reverse).toList.Perm (a.toList ++ b.toList) := ct_perm fun x => by
  have := h x
  rw [Array.toList_append, ct_app, Array.toList_append, ct_app, ct_app, cu_all, cu_all, Array.toList_reverse, ct_rev]
  omega
theorem Hi.first (h : Hi a b out i j) : (b.extract 0 j ++ a.extract 0 i ++ out.reverse).toList.Perm (a.toList ++ b.toList) := ct_perm fun x => by
  have := h x
  rw [Array.toList_append, ct_app, Array.toList_append, ct_app, ct_app, cu_all, cu_all, Array.toList_reverse, ct_rev]
  omega
end
def SG (st st' : SortSt) : Prop := kindOf st' = kindOf st ∧ arrOf st' = arrOf st ∧ pendingOf st' = pendingOf st ∧ failedOf st' = failedOf st
theorem SG.refl (st : SortSt) : SG st st := ⟨rfl, rfl, rfl, rfl⟩
theorem SG.trans {a b c : SortSt} (h : SG a b) (k : SG b c) : SG a c := ⟨k.1.trans h.1, k.2.1.trans h.2.1, k.2.2.1.trans h.2.2.1, k.2.2.2.trans h.2.2.2⟩
section
variable {prog : Program} {w : World} {A : Around} {E : Value → Shared → Prop} {s : Shared} {κ : SortKind} {Ok : Keyed → Prop} (R : Ans prog w A s κ Ok)
end
end PyProof.Rows
namespace PyProof.Rows
open PySem
section
variable {prog : Program} {w : World} {A : Around} {E : Value → Shared → Prop} {s : Shared} {κ : SortKind} {Ok : Keyed → Prop} (R : Ans prog w A s κ Ok)
include R
end
end PyProof.Rows
namespace PyProof.Rows
open PySem
section
variable {prog : Program} {w : World} {A : Around} {E : Value → Shared → Prop} {s : Shared} {κ : SortKind} {Ok : Keyed → Prop} (R : Ans prog w A s κ Ok)
include R
end
end PyProof.Rows
namespace PyProof.Rows
open PySem
def Runs : List (Nat × Nat × Nat) → Nat → Nat → Prop
  | [], b, e => b = e
  | r :: l, b, e => r.1 = b ∧ 0 < r.2.1 ∧ Runs l (b + r.2.1) e
theorem Runs.push : ∀ {l : List (Nat × Nat × Nat)} {b e n p : Nat}, Runs l b e → 0 < n → Runs (l ++ [(e, n, p)]) b (e + n)
  | [], b, e, n, p, h, hn => ⟨h.symm, hn, by have h : b = e := h; show b + n = e + n; omega⟩
  | r :: l, b, e, n, p, h, hn => ⟨h.1, h.2.1, Runs.push h.2.2 hn⟩
theorem Runs.le : ∀ {l : List (Nat × Nat × Nat)} {b e : Nat}, Runs l b e → b ≤ e
  | [], b, e, h => Nat.le_of_eq h
  | r :: l, b, e, h => by have := Runs.le h.2.2; omega
theorem Runs.join : ∀ {l : List (Nat × Nat × Nat)} {b e i p : Nat} {x y : Nat × Nat × Nat}, Runs l b e → l[i]? = some x → l[i + 1]? = some y → Runs ((l.set i (x.1, x.2.1 + y.2.1, p)).eraseIdx (i + 1)) b e
  | [], _, _, _, _, _, _, _, h, _ => by cases h
  | z :: l, b, e, 0, p, x, y, h, hx, hy => by
    cases hx
    cases l with
    | nil => cases hy
    | cons u l =>
      cases hy
      obtain ⟨h1, h2, h3, h4, h5⟩ := h
      exact ⟨h1, by show 0 < _ + _; omega, by rw [← Nat.add_assoc]; exact h5⟩
  | z :: l, b, e, i + 1, p, x, y, h, hx, hy => ⟨h.1, h.2.1, Runs.join h.2.2 hx hy⟩
theorem Runs.same : ∀ {l l' : List (Nat × Nat × Nat)} {b e : Nat}, Runs l b e → l'.map (fun r => (r.1, r.2.1)) = l.map (fun r => (r.1, r.2.1)) → Runs l' b e
  | [], l', b, e, h, hm => by
    have : l' = [] := List.map_eq_nil_iff.mp hm
    rw [this]; exact h
  | r :: l, [], b, e, h, hm => by cases hm
  | r :: l, r' :: l', b, e, h, hm => by
    obtain ⟨h1, h2⟩ := List.cons.inj hm
    have h1 : (r'.1, r'.2.1) = (r.1, r.2.1) := h1
    have e1 : r'.1 = r.1 := (Prod.mk.inj h1).1
    have e2 : r'.2.1 = r.2.1 := (Prod.mk.inj h1).2
    exact ⟨e1.trans h.1, by rw [e2]; exact h.2.1, by rw [e2]; exact Runs.same h.2.2 h2⟩
def RunsA (p : Array (Nat × Nat × Nat)) (e : Nat) : Prop := Runs p.toList 0 e
structure SOk (a₀ : Array Keyed) (κ : SortKind) (st : SortSt) (e : Nat) : Prop where
  perm : (arrOf st).toList.Perm a₀.toList
  fine : failedOf st = none
  kind : kindOf st = κ
  runs : RunsA (pendingOf st) e
  fits : e ≤ a₀.size
section
variable {prog : Program} {w : World} {A : Around} {E : Value → Shared → Prop} {s : Shared} {κ : SortKind} {a₀ : Array Keyed} (R : Ans prog w A s κ (· ∈ a₀))
theorem SOk.size {st : SortSt} {e : Nat} (h : SOk a₀ κ st e) : (arrOf st).size = a₀.size := by
  have := h.perm.length_eq
  rwa [Array.length_toList, Array.length_toList] at this
theorem SOk.mem {st : SortSt} {e : Nat} (h : SOk a₀ κ st e) : ∀ p ∈ arrOf st, p ∈ a₀ := fun p hp => Array.mem_def.mpr (h.perm.mem_iff.mp (Array.mem_def.mp hp))
omit R in
omit R in
include R
end
end PyProof.Rows
namespace PyProof.Rows
open PySem
structure SP (st st' : SortSt) : Prop where
  perm : (arrOf st').toList.Perm (arrOf st).toList
  kind : kindOf st' = kindOf st
  pend : pendingOf st' = pendingOf st
  fail : failedOf st' = failedOf st
theorem SP.refl (st : SortSt) : SP st st := ⟨.refl _, rfl, rfl, rfl⟩
theorem SP.trans {a b c : SortSt} (h : SP a b) (k : SP b c) : SP a c := ⟨k.perm.trans h.perm, k.kind.trans h.kind, k.pend.trans h.pend, k.fail.trans h.fail⟩
section
variable {prog : Program} {w : World} {A : Around} {E : Value → Shared → Prop} {s : Shared} {κ : SortKind} {a₀ : Array Keyed}
variable (R : Ans prog w A s κ (· ∈ a₀))
include R
end
end PyProof.Rows
namespace PyProof.Rows
open PySem
section
variable {prog : Program} {w : World} {A : Around} {E : Value → Shared → Prop} {s : Shared} {κ : SortKind} {a₀ : Array Keyed}
theorem SOk.more {st : SortSt} {e n : Nat} (h : SOk a₀ κ st e) (hn : 0 < n) (hz : e + n ≤ a₀.size) : SOk a₀ κ (setPending st ((pendingOf st).push (e, n, 0))) (e + n) := by
  refine ⟨h.perm, h.fine, h.kind, ?_, hz⟩
  show Runs ((pendingOf st).push (e, n, 0)).toList 0 (e + n)
  rw [Array.toList_push]
  exact Runs.push h.runs hn
variable (R : Ans prog w A s κ (· ∈ a₀))
include R
end
end PyProof.Rows
namespace PySem.W
open PySem PySem.Calls PyProof.Rows
section
variable {prog : Program} {w : World} {A : Around} {E : Value → Shared → Prop} {s : Shared}
end
end PySem.W
namespace L2
open PySem PySem.Spec PyProof.Rows
section
variable {T : Tb}
end
end L2
namespace PyProof.Rows
open PySem
section
variable {prog : Program} {w : World} {A : Around} {E : Value → Shared → Prop} {s : Shared}
end
end PyProof.Rows
namespace L2
open PySem PySem.Spec PyProof.Rows
section
variable {T : Tb} {k : Nat} {P : Pt} {N : List Str} {sc : Scope} {a b c : Expr} {es : List Expr} {pos p' p'' pos' : Pos}
theorem call_isi2 {X : Cx} : CallR X (.builtin "isinstance") (fun xs H Q => ∃ x p t1 t2 t b, xs = [x, .ref p] ∧ H p = some (.tup [.ty t1, .ty t2]) ∧ TyOf X.K H x (.type t) ∧ t ∈ ["NoneType", "bool", "int", "str", "list", "tuple", "dict"] ∧ PySem.W.kitAny X.K (.type t) [.type t1, .type t2] = some b ∧ Q (.bl b) H) := by
  intro pins s σ H xs us Q I r h
  obtain ⟨x, p, t1, t2, t, b, rfl, hp, ty, ht, e, q⟩ := h
  obtain ⟨u, w', rfl, rx, rt⟩ := vals2 r
  cases (show w' = Value.ref p from rt)
  obtain ⟨_, its, rv, ot, f1, f2, n, f3⟩ := (show ObjOk X.prog X.w H s.heap p (.tup [.ty t1, .ty t2]) from I.hok p _ hp)
  obtain ⟨c1, c2, rfl, r1, r2⟩ := vals2 rv
  cases (show c1 = Value.type t1 from r1)
  cases (show c2 = Value.type t2 from r2)
  obtain ⟨oc, od, oda, osl⟩ := ot
  dsimp only at f2 f3
  subst f2; subst f3
  have fin : ∀ tk, EP X pins σ Q (.bool b) { s with toks := tk } := fun tk => ⟨.bl b, H, I.tok _, rfl, q⟩
  generalize hT : Value.type t = tt at ty
  cases ty with
  | non => cases (show u = Value.none from rx); cases hT; exact PySem.W.kia_tup PySem.W.kitx_none I.kIn True.intro f1 e (fun z => nomatch z) fin
  | bl y => cases (show u = Value.bool y from rx); cases hT; exact PySem.W.kia_tup PySem.W.kitx_bool I.kIn True.intro f1 e (fun z => nomatch z) fin
  | int i => obtain ⟨t, q⟩ := (show ∃ t, u = Value.int i t from rx); cases q; cases hT; exact PySem.W.kia_tup PySem.W.kitx_int I.kIn True.intro f1 e (fun z => nomatch z) fin
  | str y => obtain ⟨t, q⟩ := (show ∃ t, u = Value.str y t from rx); cases q; cases hT; exact PySem.W.kia_tup PySem.W.kitx_str I.kIn True.intro f1 e (fun z => nomatch z) fin
  | flt y => cases hT; simp at ht
  | @lst a xs ea =>
    cases (show u = Value.ref a from rx)
    cases hT
    obtain ⟨_, _, n, _, h1⟩ := (show ObjOk X.prog X.w H s.heap a (.lst xs) from I.hok a _ ea)
    exact PySem.W.kia_tup PySem.W.kitx_list I.kIn ⟨_, h1, rfl⟩ f1 e (fun z => nomatch z) fin
  | @frz a ob xs ea =>
    cases (show u = Value.ref a from rx)
    cases hT
    obtain ⟨_, _, _, n, _, h1⟩ := (show ObjOk X.prog X.w H s.heap a (.frz ob (.lst xs)) from I.hok a _ ea)
    exact PySem.W.kia_tup PySem.W.kitx_list I.kIn ⟨_, h1, rfl⟩ f1 e (fun z => nomatch z) fin
  | @tup a xs ea =>
    cases (show u = Value.ref a from rx)
    cases hT
    obtain ⟨_, _, _, p⟩ := (show ObjOk X.prog X.w H s.heap a (.tup xs) from I.hok a _ ea)
    obtain ⟨o, h1, h2, _⟩ := p
    exact PySem.W.kia_tup PySem.W.kitx_tuple I.kIn ⟨o, h1, h2⟩ f1 e (fun z => nomatch z) fin
  | @dK a kvs ea =>
    cases (show u = Value.ref a from rx)
    cases hT
    obtain ⟨_, _, vs, _, p⟩ := (show ObjOk X.prog X.w H s.heap a (.dK kvs) from ea.ok I.hok)
    obtain ⟨o, es, ep, h1, h2, _⟩ := p
    exact PySem.W.kia_tup PySem.W.kitx_dict I.kIn ⟨o, h1, h2.1⟩ f1 e (fun z => nomatch z) fin
  | @dT a kvs ea =>
    cases (show u = Value.ref a from rx)
    cases hT
    obtain ⟨_, _, xs, _, o, es, ep, h1, h2, _⟩ := (show ObjOk X.prog X.w H s.heap a (.dT kvs) from I.hok a _ ea)
    exact PySem.W.kia_tup PySem.W.kitx_dict I.kIn ⟨o, h1, h2.1⟩ f1 e (fun z => nomatch z) fin
  | ins => cases hT
def wIsi2 (t1 t2 : String) (wa : WE) : WE := fun ρ Q => wa ρ fun o ρ1 => pRd ρ1 o fun d => match d with
  | .fn _ => False
  | .exc _ => False
  | d => Q (.val (.bl (isOf t1 d || isOf t2 d))) ρ1
theorem kit_any (K : PySem.W.Frag) {t1 t2 dn : String} (h1 : t1 ∈ ["int", "bool", "str", "list", "tuple", "dict"]) (h2 : t2 ∈ ["int", "bool", "str", "list", "tuple", "dict"]) (hd : dn ∈ ["NoneType", "bool", "int", "str", "list", "tuple", "dict"]) :
    PySem.W.kitAny K (.type dn) [.type t1, .type t2] = some ((dn == t1 || (t1 == "int" && dn == "bool")) || (dn == t2 || (t2 == "int" && dn == "bool"))) := by
  unfold PySem.W.kitAny PySem.W.kitAny PySem.W.kitAny
  rw [kit_of K t1 h1 dn hd, kit_of K t2 h2 dn hd]
  cases (dn == t1 || (t1 == "int" && dn == "bool")) <;> cases (dn == t2 || (t2 == "int" && dn == "bool")) <;> rfl
theorem ve_isi2 {t1 t2 : String} {x1 x2 : Str} {p1 p2 p3 p4 : Pos} {ex} (ha : VE T k P N sc a wa) (hm : T.mg "isinstance" = none) (hm1 : T.mg x1 = none) (hm2 : T.mg x2 = none) (hb1 : bootBuiltins x1 = some (.type t1)) (hb2 : bootBuiltins x2 = some (.type t2))
    (ht1 : t1 ∈ ["int", "bool", "str", "list", "tuple", "dict"] := by decide) (ht2 : t2 ∈ ["int", "bool", "str", "list", "tuple", "dict"] := by decide)
    (hg : sc.names.lookup ("isinstance" : Str) = some .globalImplicit := by rfl) (hg1 : sc.names.lookup x1 = some .globalImplicit := by rfl) (hg2 : sc.names.lookup x2 = some .globalImplicit := by rfl)
    (hn1 : x1 ≠ "__name__" := by decide) (hn2 : x2 ≠ "__name__" := by decide) (hd1 : (x1 == ("__debug__" : Str)) = false := by decide) (hd2 : (x2 == ("__debug__" : Str)) = false := by decide)
    (hs : ∀ env, starEach [a, .Tuple [.Name x1 p2, .Name x2 p3] ex p4] env = (false, eval a env) :: starEach [.Tuple [.Name x1 p2, .Name x2 p3] ex p4] env := by intro _; rfl)
    (hpl : ∀ env, (backTo pos (starEach [.Tuple [.Name x1 p2, .Name x2 p3] ex p4] env)).any (·.1) = false := by intro _; rfl) :
    VE T k P N sc (.Call (.Name "isinstance" p1) [a, .Tuple [.Name x1 p2, .Name x2 p3] ex p4] [] pos) (wIsi2 t1 t2 wa) := ⟨fun X J G =>
  (pe_callB call_isi2 (G.gl hg) (by rw [G.mg]; exact hm) (by decide +kernel)
    (pa_cons (ha.of X J G) (pa_cons (pe_tup (pa_cons (pe_bltn (v := .ty t1) (G.gl hg1) (by rw [G.mg]; exact hm1) hb1 rfl hn1 hd1) (pa_cons (pe_bltn (v := .ty t2) (G.gl hg2) (by rw [G.mg]; exact hm2) hb2 rfl hn2 hd2) pa_nil))) pa_nil) (hs X.env)) (by decide) (by decide) (hs X.env) (hpl X.env)).imp fun σ H Q => by
    rintro ⟨ρ, F, Q', R, q, z⟩
    refine ⟨ρ, F, _, R, q, fun v H1 F1 o1 ρ1 R1 m1 ho1 q1 => ⟨by show 2 ≤ sizeLine; rw [sizeLine_eq]; decide, fun p hp => ?_⟩⟩
    have R2 := R1.alloc (o := .tup [.ty t1, .ty t2]) hp fun _ z => nomatch z
    have m2 := HLe.upd (o := .tup [.ty t1, .ty t2]) (R1.fp hp)
    obtain ⟨d, h1, r1⟩ := rd_ok R2 (ho1.mono m2) q1
    have key : (∀ x, d ≠ .fn x) ∧ (∀ x, d ≠ .exc x) ∧ Q' (.val (.bl (isOf t1 d || isOf t2 d))) ρ1 := by
      cases d with
      | fn x => exact h1.elim
      | exc x => exact h1.elim
      | _ => exact ⟨fun _ z => (nomatch z), fun _ z => (nomatch z), h1⟩
    obtain ⟨n1, n2, h1⟩ := key
    exact ⟨v, p, t1, t2, _, _, rfl, upd_same, tyOf_rd R2 r1 n1 n2, tyD_mem n1 n2, kit_any X.K ht1 ht2 (tyD_mem n1 n2), z _ _ _ (.val (.bl (isOf t1 d || isOf t2 d))) ρ1 R2 (m1.trans m2) (.bl _) h1⟩⟩
end
section
variable {T : Tb} {k : Nat} {P : Pt} {N : List Str} {sc : Scope} {a b : Expr} {pos p1 p2 : Pos} {wa wb : WE}
end
section
variable {mk : Bool} {T : Tb} {k kf n : Nat} {P : Pt} {N : List Str} {sc : Scope} {a b : Expr} {pos p' : Pos} {x : Str} {wa : WE} {wx : WX}
end
section
variable {T : Tb} {k : Nat} {P : Pt} {N : List Str} {sc : Scope} {a b c : Expr} {wa wb wc : WE} {pos : Pos} {es : List Expr}
theorem ve_gstrE {x y : Str} (hm : ∃ t, T.mg x = some (.str y t)) (hg : sc.names.lookup x = some .globalImplicit := by rfl) (hd : (x == ("__debug__" : Str)) = false := by decide) : VE T k P N sc (.Name x pos) (wC (.str y)) :=
  ⟨fun X J G => by
    obtain ⟨t, hm⟩ := hm
    refine (pe_glob (v := .str y) (G.gl hg) (by rw [G.mg]; exact hm) ⟨_, rfl⟩ hd).imp fun σ H Q => ?_
    rintro ⟨ρ, F, Q', R, q, z⟩
    exact z _ H F (.val (.str y)) ρ R (HLe.refl F) (.str y) q⟩
def pIxS : P2 := fun d1 d2 κ => match d1, d2 with
  | .str z, .int i => z.length ≤ sizeLine ∧ ∃ c, atI z.cps.toList i = some c ∧ κ (.str ⟨#[c]⟩)
  | _, _ => False
theorem ve_ixS (ha : VE T k P N sc a wa) (hb : VE T k P N sc b wb) (hs : PlainIx b := by intro _ _; rfl) : VE T k P N sc (.Subscript a b pos) (wBin pIxS wa wb) := ⟨fun X J G =>
  (pe_ix ix_str (ha.of X J G) (hb.of X J G) hs).imp (bin_of fun J ρ σ H F x y d1 d2 κ Q R r1 r2 hp z => by
    unfold pIxS at hp
    split at hp
    · obtain ⟨hl, c, e, hk⟩ := hp
      exact ⟨_, _, c, r1.str, r2.int, hl, e, z _ _ H F hk R (HLe.refl F) (.str _)⟩
    · exact hp.elim)⟩
def pInS (neg : Bool) : P2 := fun d1 d2 κ => match d1, d2 with
  | .str x, .str z => ∃ c : Nat, x = ⟨#[c]⟩ ∧ κ (.bl (neg != decide (c ∈ z.cps.toList)))
  | _, _ => False
theorem o_inS {X : Cx} : OpOk T X (compareOp .In) (pInS false) := ⟨⟨_, op_in_sign, fun J ρ σ H F x y d1 d2 κ Q R r1 r2 hp z => by
  unfold pInS at hp
  split at hp
  · obtain ⟨c, rfl, hk⟩ := hp
    refine ⟨c, _, r1.str, r2.str, z _ _ H F hk R (HLe.refl F) ?_⟩
    rw [Bool.false_bne]; exact .bl _
  · exact hp.elim⟩⟩
theorem o_notInS {X : Cx} : OpOk T X (compareOp .NotIn) (pInS true) := ⟨⟨_, op_notIn_sign, fun J ρ σ H F x y d1 d2 κ Q R r1 r2 hp z => by
  unfold pInS at hp
  split at hp
  · obtain ⟨c, rfl, hk⟩ := hp
    refine ⟨c, _, r1.str, r2.str, z _ _ H F hk R (HLe.refl F) ?_⟩
    rw [Bool.true_bne]; exact .bl _
  · exact hp.elim⟩⟩
def isStrD : D → Bool
  | .str _ => true
  | _ => false
def isStrO (ρ : Env') (o : Opd) : Prop := pRd ρ o fun d => isStrD d = true
def wM1 (p : P2) (wo w : WE) : WE := fun ρ Q => wo ρ fun o ρ0 => isStrO ρ0 o ∧ w ρ0 fun o2 ρ1 => pRd ρ1 o fun d => pRd ρ1 o2 fun d2 => p d d2 fun e => Q (.val e) ρ1
def wM1F (p : P2) (wo w : WE) : WF := fun ρ Q => wo ρ fun o ρ0 => isStrO ρ0 o ∧ w ρ0 fun o2 ρ1 => pRd ρ1 o fun d => pRd ρ1 o2 fun d2 => p d d2 fun e => Q e ρ1
def pJoin : P2 := fun d1 d2 κ => match d1, d2 with
  | .str a, .lst ds => ∃ ys : List Str, ds = ys.map D.str ∧ (ys.map (·.length)).sum + ys.length * a.length ≤ 16777216 ∧ κ (.str (Txt.join a ys))
  | _, _ => False
theorem Reps.strs {mg : Str → Option Value} {F : Hp} : ∀ {vs : List V} {ys : List Str}, Reps mg F vs (ys.map D.str) → vs = ys.map V.str
  | _, [], .nil => rfl
  | _, y :: ys, .cons h r => by
    cases h
    exact congrArg (V.str y :: ·) r.strs
theorem ve_join {apos : Pos} (ho : VE T k P N sc a wa) (he : VE T k P N sc b wb) (hs : ∀ env, starEach [b] env = [(false, eval b env)] := by intro _; rfl) (hbase : ∀ env, attributeBase a "join" env (eval a env) = eval a env := by intro _; rfl) (hline : (apos.endLine == pos.line) = true := by rfl) :
    VE T k P N sc (.Call (.Attribute a "join" apos) [b] [] pos) (wM1 pJoin wa wb) := ⟨fun X J G => by
  refine (pe_join (ho.of X J G) (he.of X J G) (hs X.env) (hbase X.env) hline).imp fun σ H Q => ?_
  rintro ⟨ρ, F, Q', R, q, z⟩
  refine ⟨ρ, F, _, R, q, fun v H0 F0 o ρ0 R0 m0 ho q0 => ?_⟩
  obtain ⟨q0, q1⟩ := q0
  obtain ⟨d, hd, r0⟩ := rd_ok R0 ho q0
  cases d with
  | str x =>
    refine ⟨⟨x, r0.str⟩, ρ0, F0, _, R0, q1, fun u H1 F1 o2 ρ1 R1 m1 ho2 q2 => ?_⟩
    obtain ⟨d1, h1, r1⟩ := rd_ok R1 (ho.mono m1) q2
    obtain ⟨d2, h2, r2⟩ := rd_ok R1 ho2 h1
    unfold pJoin at h2
    split at h2
    · obtain ⟨ys, rfl, hz, hk⟩ := h2
      obtain ⟨l, vs, rfl, e1, rv⟩ := r2.lst R1.sub
      rw [rv.strs] at e1
      refine ⟨_, l, ys, r1.str, rfl, .inl (.inl e1), hz, ?_⟩
      exact z _ H1 F1 (.val (.str _)) ρ1 R1 (m0.trans m1) (.str _) hk
    · exact h2.elim
  | _ => cases hd⟩
def pSplit : P2 := fun d1 d2 κ => match d1, d2 with
  | .str a, .str b => (b.length == 0) = false ∧ a.length + 2 ≤ sizeLine ∧ κ (.lst ((Txt.split a b).map D.str))
  | _, _ => False
theorem reps_strs {mg : Str → Option Value} {F : Hp} : ∀ {ys : List Str}, Reps mg F (ys.map V.str) (ys.map D.str)
  | [] => .nil
  | y :: ys => .cons (.str y) reps_strs
theorem vf_split {apos : Pos} (ho : VE T k P N sc a wa) (he : VE T k P N sc b wb) (hs : ∀ env, starEach [b] env = [(false, eval b env)] := by intro _; rfl) (hbase : ∀ env, attributeBase a "split" env (eval a env) = eval a env := by intro _; rfl) (hline : (apos.endLine == pos.line) = true := by rfl) :
    VF T k P N sc (.Call (.Attribute a "split" apos) [b] [] pos) (wM1F pSplit wa wb) := ⟨fun X J G => by
  refine (pe_split (ho.of X J G) (he.of X J G) (hs X.env) (hbase X.env) hline).imp fun σ H Q => ?_
  rintro ⟨ρ, F, Q', R, q, z⟩
  refine ⟨ρ, F, _, R, q, fun v H0 F0 o ρ0 R0 m0 ho q0 => ?_⟩
  obtain ⟨q0, q1⟩ := q0
  obtain ⟨d, hd, r0⟩ := rd_ok R0 ho q0
  cases d with
  | str x =>
    refine ⟨⟨x, r0.str⟩, ρ0, F0, _, R0, q1, fun u H1 F1 o2 ρ1 R1 m1 ho2 q2 => ?_⟩
    obtain ⟨d1, h1, r1⟩ := rd_ok R1 (ho.mono m1) q2
    obtain ⟨d2, h2, r2⟩ := rd_ok R1 ho2 h1
    unfold pSplit at h2
    split at h2
    · obtain ⟨hb, hl, hk⟩ := h2
      refine ⟨_, _, r1.str, by rw [r2.str], hb, hl, fun p hp => ?_⟩
      exact z _ _ F1 _ ρ1 (R1.allocO hp) (m0.trans m1) (Fresh.new R1 hp (show OwnAt T.mg _ F1 p (.lst ((Txt.split _ _).map D.str)) from ⟨_, upd_same, reps_strs⟩)) hk
    · exact h2.elim
  | _ => cases hd⟩
theorem mt_indexS {X : Cx} (hc : X.calm = true) : MtR X "str.index" (fun x xs H Q => ∃ a b, x = .str a ∧ xs = [.str b] ∧ 0 ≤ Txt.find a b ∧ Q (.int (Txt.find a b)) H) := by
  intro pins s σ H x xs v us Q I rx rs h
  obtain ⟨a, b, rfl, rfl, hz, h⟩ := h
  obtain ⟨t, rfl⟩ := rx
  cases rs with
  | cons r1 rs =>
    cases rs
    obtain ⟨u, rfl⟩ := r1
    exact PyProof.Rows.index_or (I.ok.hd hc) (fun e => absurd e (by omega)) fun _ _ => ⟨.int _, H, I.tok _, ⟨_, rfl⟩, h⟩
def pFindS : P2 := fun d1 d2 κ => match d1, d2 with
  | .str a, .str b => 0 ≤ Txt.find a b ∧ κ (.int (Txt.find a b))
  | _, _ => False
theorem ve_indexS {apos : Pos} (ho : VE T k P N sc a wa) (he : VE T k P N sc b wb) (hs : ∀ env, starEach [b] env = [(false, eval b env)] := by intro _; rfl) (hbase : ∀ env, attributeBase a "index" env (eval a env) = eval a env := by intro _; rfl) (hline : (apos.endLine == pos.line) = true := by rfl) :
    VE T k P N sc (.Call (.Attribute a "index" apos) [b] [] pos) (wM1 pFindS wa wb) := ⟨fun X J G => by
  refine (pe_m1 F.slot_str_index F.type_str_index (mt_indexS G.calm) (ho.of X J G) (he.of X J G) (hs X.env) (hbase X.env) hline).imp fun σ H Q => ?_
  rintro ⟨ρ, F, Q', R, q, z⟩
  refine ⟨ρ, F, _, R, q, fun v H0 F0 o ρ0 R0 m0 ho q0 => ?_⟩
  obtain ⟨q0, q1⟩ := q0
  obtain ⟨d, hd, r0⟩ := rd_ok R0 ho q0
  cases d with
  | str x =>
    refine ⟨⟨x, r0.str⟩, ρ0, F0, _, R0, q1, fun u H1 F1 o2 ρ1 R1 m1 ho2 q2 => ?_⟩
    obtain ⟨d1, h1, r1⟩ := rd_ok R1 (ho.mono m1) q2
    obtain ⟨d2, h2, r2⟩ := rd_ok R1 ho2 h1
    unfold pFindS at h2
    split at h2
    · exact ⟨_, _, r1.str, by rw [r2.str], h2.1, z _ H1 F1 (.val (.int _)) ρ1 R1 (m0.trans m1) (.int _) h2.2⟩
    · exact h2.elim
  | _ => cases hd⟩
def signs (x : Str) : List D := x.cps.toList.map fun c => .str ⟨#[c]⟩
def wIterS (wa : WE) : WI := fun ρ Q => wa ρ fun o ρ1 => pUse ρ1 o fun d ρ2 => match d with
  | .str x => Q (signs x) ρ2
  | _ => False
theorem it_str {F : Hp} (x : Str) : ItOk T F (Its x) (signs x) where
  go := fun R m i hi => by
    unfold signs at hi
    rw [List.length_map, Array.length_toList] at hi
    exact hi
  yld := fun {J ρ σ H F'} R m i y H' h d hd => by
    obtain ⟨e, c, hc, rfl⟩ := h
    subst e
    unfold signs at hd
    rw [List.getElem?_map, Array.getElem?_toList, hc] at hd
    cases hd
    exact ⟨F', HLe.refl _, R, .str _⟩
  stop := fun R m => by
    show x.cps.size ≤ (signs x).length
    unfold signs
    rw [List.length_map, Array.length_toList]
    exact Nat.le_refl _
theorem vi_str {tg : Expr} (ha : VE T k P N sc a wa) : VI T k P N sc tg a (wIterS wa) := ⟨fun X J G => (pi_str (ha.of X J G)).imp fun σ H Q => by
  rintro ⟨ρ, F, Q', R, q, z⟩
  refine ⟨ρ, F, _, R, q, fun v H1 F1 o1 ρ1 R1 m1 ho1 q1 => ?_⟩
  obtain ⟨d, ρ2, F2, h2, R2, m2, r⟩ := use_ok R1 ho1 q1
  cases d with
  | str x =>
    cases r
    exact ⟨x, rfl, z _ H1 F2 _ ρ2 R2 (m1.trans m2) (it_str x) h2⟩
  | _ => exact h2.elim⟩
def wFst (m : Str) (wa wb : WE) : WE := fun ρ Q => wa ρ fun o ρ1 => (pRd ρ1 o fun d => ∃ i : Int, d = .int i ∧ i.natAbs.log2 < 1920 ∧ (Str.ofString (toString i)).length + m.length ≤ sizeLine ∧
  wb ρ1 fun o2 ρ2 => pRd ρ2 o2 fun d2 => ∃ j : Int, d2 = .int j ∧ j.natAbs.log2 < 1920 ∧ (Str.ofString (toString i)).length + m.length + (Str.ofString (toString j)).length ≤ sizeLine ∧ Q (.val (.str (Str.ofString (toString i) ++ m ++ Str.ofString (toString j)))) ρ2)
theorem str_nil (x : Str) : Str.empty ++ x = x := by
  refine PyProof.Rows.ext_toList ?_
  rw [PySem.W.KT.app_list]
  rfl
theorem str_len (x y : Str) : (x ++ y).length = x.length + y.length := by
  have h := congrArg List.length (PySem.W.KT.app_list x y)
  rw [List.length_append, Array.length_toList, Array.length_toList, Array.length_toList] at h
  exact h
def tFst (m : Str) (t1 t2 : TE) : TE := fun σ H Q => t1 σ H fun v H1 => ∃ i : Int, v = .int i ∧ i.natAbs.log2 < 1920 ∧ (Str.ofString (toString i)).length + m.length ≤ sizeLine ∧ t2 σ H1 fun v2 H2 => ∃ j : Int, v2 = .int j ∧ j.natAbs.log2 < 1920 ∧ (Str.ofString (toString i)).length + m.length + (Str.ofString (toString j)).length ≤ sizeLine ∧ Q (.str (Str.ofString (toString i) ++ m ++ Str.ofString (toString j))) H2
theorem pe_fst {X : Cx} {e1 e2 : Expr} {t1 t2 : TE} {m : Str} {p1 p2 p3 : Pos} {jj : Nat} (h1 : PE X e1 t1) (h2 : PE X e2 t2) : PE X (.JoinedStr [.FormattedValue e1 (-1) none p1, .Constant (.str m) jj p2, .FormattedValue e2 (-1) none p3] pos) (tFst m t1 t2) := by
  intro pins s σ H Q I h
  refine wpAny_JoinedStr (Joins_cons (PyProof.Rows.FormattedValue_plain (thn (h1 pins s σ H _ I h) fun v s1 ⟨x, H1, I1, r1, i, ex, hi, hl1, q1⟩ => ?_)))
  subst ex
  obtain ⟨t, rfl⟩ := r1
  refine PyProof.Rows.formatField_int_small hi ⟨_, _, rfl, ?_, ?_⟩
  · rw [str_nil]; omega
  rw [str_nil]
  refine Joins_cons (Calls.Constant_str ⟨_, _, rfl, ?_, ?_⟩)
  · rw [str_len]; omega
  refine Joins_cons (PyProof.Rows.FormattedValue_plain (thn (h2 pins _ σ H1 _ ((I1.tok _).tok _) q1) fun v s2 ⟨y, H2, I2, r2, j, ey, hj, hl2, q2⟩ => ?_))
  subst ey
  obtain ⟨t2, rfl⟩ := r2
  refine PyProof.Rows.formatField_int_small hj ⟨_, _, rfl, ?_, ?_⟩
  · rw [str_len, str_len]; omega
  refine Joins_nil ⟨?_, ?_⟩
  · rw [str_len, str_len]; omega
  · exact ⟨.str _, H2, (I2.tok _).tok _, ⟨_, rfl⟩, q2⟩
theorem ve_fst {m : Str} {p1 p2 p3 : Pos} {jj : Nat} (ha : VE T k P N sc a wa) (hb : VE T k P N sc b wb) : VE T k P N sc (.JoinedStr [.FormattedValue a (-1) none p1, .Constant (.str m) jj p2, .FormattedValue b (-1) none p3] pos) (wFst m wa wb) := ⟨fun X J G => (pe_fst (ha.of X J G) (hb.of X J G)).imp fun σ H Q => by
  rintro ⟨ρ, F, Q', R, q, z⟩
  refine ⟨ρ, F, _, R, q, fun v H1 F1 o1 ρ1 R1 m1 ho1 q1 => ?_⟩
  obtain ⟨d, h1, r1⟩ := rd_ok R1 ho1 q1
  obtain ⟨i, rfl, hi, hl, q2⟩ := h1
  refine ⟨i, r1.int, hi, hl, ρ1, F1, _, R1, q2, fun v H2 F2 o2 ρ2 R2 m2 ho2 q3 => ?_⟩
  obtain ⟨d2, h2, r2⟩ := rd_ok R2 ho2 q3
  obtain ⟨j, rfl, hj, hl2, q4⟩ := h2
  exact ⟨j, r2.int, hj, hl2, z _ H2 F2 (.val (.str _)) ρ2 R2 (m1.trans m2) (.str _) q4⟩⟩
def wOrS (wa wb : WE) : WE := fun ρ Q => wa ρ fun o ρ1 => pRd ρ1 o fun d => match d with
  | .str x => x.length ≤ sizeLine ∧ match ((x.length : Int) != 0) with
    | true => Q (.val (.str x)) ρ1
    | false => wb ρ1 Q
  | _ => False
def tOrS (ta tb : TE) (K : PySem.W.Frag) : TE := fun σ H Q => ta σ H fun x H1 => ∃ k, TruV K x H1 k ∧ match k with | true => Q x H1 | false => tb σ H1 Q
theorem pe_orS {X : Cx} {ta tb : TE} (ha : PE X a ta) (hb : PE X (.BoolOp .Or (b :: es) pos) tb) : PE X (.BoolOp .Or (a :: b :: es) pos) (tOrS ta tb X.K) := by
  intro pins s σ H Q I h
  refine BoolOp_or (thn (ha pins s σ H _ I h) fun v s1 ⟨x, H1, I1, r1, k, hk, q1⟩ => ?_)
  refine thn (tru_ok pins s1 σ H1 x v (fun c H2 => H2 = H1 ∧ c = k) I1 r1 ⟨k, hk, rfl, rfl⟩) fun c s2 ⟨H2, I2, e2, ec⟩ => ?_
  subst e2 ec
  cases c with
  | false => exact hb pins s2 σ H2 Q I2 q1
  | true => exact ⟨x, H2, I2, r1, q1⟩
theorem ve_orS (ha : VE T k P N sc a wa) (hb : VE T k P N sc (.BoolOp .Or (b :: es) pos) wb) : VE T k P N sc (.BoolOp .Or (a :: b :: es) pos) (wOrS wa wb) := ⟨fun X J G => (pe_orS (ha.of X J G) (hb.of X J G)).imp fun σ H Q => by
  rintro ⟨ρ, F, Q', R, q, z⟩
  refine ⟨ρ, F, _, R, q, fun v H1 F1 o1 ρ1 R1 m1 ho1 q1 => ?_⟩
  obtain ⟨d, h1, r1⟩ := rd_ok R1 ho1 q1
  split at h1
  · rename_i x
    obtain ⟨hl, h1⟩ := h1
    have ev := r1.str
    subst ev
    obtain ⟨k, hk, ek⟩ := tru_ok' (X := X) R1 r1 (d := .str x) (κ := fun b => b = ((x.length : Int) != 0)) ⟨hl, rfl⟩
    refine ⟨k, hk, ?_⟩
    subst ek
    cases hb2 : ((x.length : Int) != 0) with
    | true =>
      rw [hb2] at h1
      exact z _ H1 F1 (.val (.str x)) ρ1 R1 m1 (.str x) h1
    | false =>
      rw [hb2] at h1
      exact ⟨ρ1, F1, _, R1, h1, fun v H2 F2 o2 ρ2 R2 m2 ho2 q2 => z v H2 F2 o2 ρ2 R2 (m1.trans m2) ho2 q2⟩
  · exact h1.elim⟩
end
section
variable {T : Tb} {k : Nat} {P : Pt} {N : List Str} {sc : Scope} {a b c2 c3 : Expr} {pos : Pos} {we : WE} {wf : WF} {wo : WO} {w2 : WS} {t2 t3 : WT}
theorem free_at {ρ : Env'} {i : Nat} {κ : Prop} (h : pFree ρ i κ) : i < ρ.length ∧ κ := by
  unfold pFree at h
  split at h
  · exact h.elim
  · rename_i y _ e
    exact ⟨(List.getElem?_eq_some_iff.mp e).1, h⟩
  · exact h.elim
theorem noMu_none {ρ : Env'} (h : noMu ρ = true) (i : Nat) : noMu (ρ.set i none) = true := List.all_eq_true.mpr fun o ho => by
  rcases List.mem_or_eq_of_mem_set ho with ho | rfl
  · exact List.all_eq_true.mp h o ho
  · rfl
end
end L2
namespace Law
open PySem PySem.Spec PyProof.Rows L2
def dg (n : Nat) : List Nat := (Nat.toDigits 10 n).map Char.toNat
theorem dg_lt {n : Nat} (h : n < 10) : dg n = [48 + n] := by
  unfold dg
  rw [Nat.toDigits_of_lt_base h]
  have : n = 0 ∨ n = 1 ∨ n = 2 ∨ n = 3 ∨ n = 4 ∨ n = 5 ∨ n = 6 ∨ n = 7 ∨ n = 8 ∨ n = 9 := by omega
  rcases this with rfl | rfl | rfl | rfl | rfl | rfl | rfl | rfl | rfl | rfl <;> decide +kernel
theorem dg_ge {n : Nat} (h : 10 ≤ n) : dg n = dg (n / 10) ++ [48 + n % 10] := by
  have e := dg_lt (n := n % 10) (Nat.mod_lt _ (by decide))
  unfold dg at e ⊢
  rw [Nat.toDigits_of_base_le (by decide) h, List.map_append]
  rw [Nat.toDigits_of_lt_base (Nat.mod_lt _ (by decide))] at e
  rw [← e]
theorem dg_ind {P : Nat → Prop} (h0 : ∀ n, n < 10 → P n) (h1 : ∀ n, 10 ≤ n → P (n / 10) → P n) : ∀ n, P n := fun n => by
  induction n using Nat.strongRecOn with
  | _ n ih =>
    by_cases h : n < 10
    · exact h0 n h
    · exact h1 n (by omega) (ih _ (Nat.div_lt_self (by omega) (by decide)))
theorem dg_all : ∀ n, ∀ c ∈ dg n, 48 ≤ c ∧ c ≤ 57 := dg_ind (fun n h c hc => by
  rw [dg_lt h, List.mem_singleton] at hc
  omega) fun n h ih c hc => by
    rw [dg_ge h] at hc
    rcases List.mem_append.mp hc with hc | hc
    · exact ih c hc
    · rw [List.mem_singleton] at hc
      omega
theorem dg_head : ∀ n, ∃ c r, dg n = c :: r ∧ (c = 48 → n = 0) := dg_ind (fun n h => ⟨_, [], dg_lt h, by omega⟩) fun n h ⟨c, r, e, hc⟩ => ⟨c, r ++ [48 + n % 10], by rw [dg_ge h, e]; rfl, fun z => by have := hc z; omega⟩
theorem dg_ne (n : Nat) : dg n ≠ [] := fun e => by
  obtain ⟨c, r, e', _⟩ := dg_head n
  rw [e] at e'
  cases e'
theorem dg_len : ∀ (k n : Nat), n < 10 ^ (k + 1) → (dg n).length ≤ k + 1
  | 0, n, h => by rw [dg_lt (by simpa using h)]; simp
  | k + 1, n, h => by
    by_cases h1 : n < 10
    · rw [dg_lt h1]; simp
    · rw [dg_ge (by omega), List.length_append]
      have := dg_len k (n / 10) (by rw [Nat.pow_succ] at h; exact Nat.div_lt_of_lt_mul (by omega))
      simp only [List.length_cons, List.length_nil]
      omega
def valD (v : Int) (l : List Nat) : Int := l.foldl (fun (v : Int) (c : Nat) => v * 10 + ((c : Int) - 48)) v
theorem valD_dg : ∀ n : Nat, valD 0 (dg n) = n := dg_ind (fun n h => by rw [dg_lt h]; show (0 : Int) * 10 + (((48 + n : Nat) : Int) - 48) = n; omega) fun n h ih => by
  rw [dg_ge h]
  unfold valD at ih ⊢
  rw [List.foldl_append, ih]
  show ((n / 10 : Nat) : Int) * 10 + (((48 + n % 10 : Nat) : Int) - 48) = n
  omega
def fig (i : Int) : Str := Str.ofString (toString i)
theorem fig_list {i : Int} (h : 0 ≤ i) : (fig i).cps.toList = dg i.toNat := by
  unfold fig dg
  rw [signs_ofString]
  obtain ⟨n, rfl⟩ : ∃ n : Nat, i = (n : Int) := ⟨i.toNat, by omega⟩
  rw [Int.toString_eq_repr]
  show List.map Char.toNat (Nat.repr n).toList = _
  rw [Nat.repr_eq_ofList_toDigits, String.toList_ofList, Int.toNat_natCast]
theorem len_list (x : Str) : x.length = x.cps.toList.length := (Array.length_toList).symm
theorem fig_len {i : Int} (h : 0 ≤ i ∧ i < 10 ^ 41) : (fig i).length ≤ 41 := by
  rw [len_list, fig_list h.1]
  exact dg_len 40 _ (by
    have : (i.toNat : Int) < 10 ^ 41 := by omega
    exact_mod_cast this)
theorem fig_log {i : Int} (h : 0 ≤ i ∧ i < 10 ^ 41) : i.natAbs.log2 < 1920 := by
  have h1 : i.natAbs < 2 ^ 1920 := by
    have : i.natAbs < 10 ^ 41 := by omega
    exact Nat.lt_of_lt_of_le this (by decide +kernel)
  by_cases hz : i.natAbs = 0
  · rw [hz]; decide
  · exact (Nat.log2_lt hz).mpr h1
theorem fig_free {i : Int} (h : 0 ≤ i) {c : Nat} (hc : c < 48 ∨ 57 < c) : c ∉ (fig i).cps.toList := fun z => by
  rw [fig_list h] at z
  have := dg_all _ c z
  omega
def jl (c : Nat) : List (List Nat) → List Nat
  | [] => []
  | [p] => p
  | p :: q :: r => p ++ c :: jl c (q :: r)
def one (c : Nat) : Str := ⟨#[c]⟩
theorem app_list (a b : Str) : (a ++ b).cps.toList = a.cps.toList ++ b.cps.toList := PySem.W.KT.app_list a b
theorem join_fold (c : Nat) : ∀ (r : List Str) (acc : Array Nat), (r.foldl (fun acc p => acc ++ (one c).cps ++ p.cps) acc).toList = acc.toList ++ (r.map fun p => c :: p.cps.toList).flatten
  | [], acc => by simp
  | p :: r, acc => by
    rw [List.foldl_cons, join_fold c r]
    simp [one]
theorem jl_flat (c : Nat) : ∀ (p : List Nat) (r : List (List Nat)), jl c (p :: r) = p ++ (r.map fun q => c :: q).flatten
  | p, [] => by simp [jl]
  | p, q :: r => by
    show p ++ c :: jl c (q :: r) = _
    rw [jl_flat c q r]
    simp
theorem join_list (c : Nat) (ys : List Str) : (Txt.join (one c) ys).cps.toList = jl c (ys.map fun y => y.cps.toList) := by
  show ((ys.drop 1).foldl (fun acc p => acc ++ (one c).cps ++ p.cps) (ys.headD Str.empty).cps).toList = _
  cases ys with
  | nil => rfl
  | cons p r =>
    rw [List.map_cons, jl_flat, join_fold]
    show p.cps.toList ++ _ = _
    rw [List.map_map]
    rfl
theorem join_snoc' (c : Nat) (ys : List Str) (y : Str) (h : ys ≠ []) : Txt.join (one c) (ys ++ [y]) = Txt.join (one c) ys ++ one c ++ y := by
  refine ext_toList ?_
  rw [join_list, app_list, app_list, join_list]
  cases ys with
  | nil => exact absurd rfl h
  | cons p r =>
    rw [List.cons_append, List.map_cons, List.map_append, jl_flat, List.map_cons (l := r), jl_flat, List.map_append, List.flatten_append]
    simp [one]
theorem take_free {c : Nat} {p X : List Nat} (hp : c ∉ p) (hX : X = [] ∨ ∃ Y, X = c :: Y) : (p ++ X).takeWhile (fun x => !decide (x = c)) = p := by
  induction p with
  | nil => rcases hX with rfl | ⟨Y, rfl⟩ <;> simp
  | cons x p ih =>
    have h1 : x ≠ c := fun e => hp (e ▸ List.mem_cons_self)
    rw [List.cons_append, List.takeWhile_cons, if_pos (by simp [h1]), ih fun z => hp (List.mem_cons_of_mem _ z)]
theorem jl_tail (c : Nat) (p : List Nat) (r : List (List Nat)) : ∃ X, jl c (p :: r) = p ++ X ∧ (X = [] ∧ r = [] ∨ r ≠ [] ∧ X = c :: jl c r) := by
  cases r with
  | nil => exact ⟨[], by simp [jl], .inl ⟨rfl, rfl⟩⟩
  | cons q r => exact ⟨c :: jl c (q :: r), rfl, .inr ⟨by simp, rfl⟩⟩
theorem jl_inj (c : Nat) : ∀ (ps qs : List (List Nat)), ps ≠ [] → qs ≠ [] → (∀ p ∈ ps, c ∉ p) → (∀ q ∈ qs, c ∉ q) → jl c ps = jl c qs → ps = qs
  | [], _, h, _, _, _, _ => absurd rfl h
  | _ :: _, [], _, h, _, _, _ => absurd rfl h
  | p :: r, q :: s, _, _, hp, hq, e => by
    obtain ⟨X, eX, hX⟩ := jl_tail c p r
    obtain ⟨Y, eY, hY⟩ := jl_tail c q s
    rw [eX, eY] at e
    have t1 := take_free (c := c) (p := p) (X := X) (hp p List.mem_cons_self) (by rcases hX with ⟨h, _⟩ | ⟨_, h⟩; exact .inl h; exact .inr ⟨_, h⟩)
    have t2 := take_free (c := c) (p := q) (X := Y) (hq q List.mem_cons_self) (by rcases hY with ⟨h, _⟩ | ⟨_, h⟩; exact .inl h; exact .inr ⟨_, h⟩)
    have epq : p = q := by rw [← t1, e, t2]
    subst epq
    have eXY := List.append_cancel_left e
    rcases hX with ⟨h1, h2⟩ | ⟨h1, h2⟩ <;> rcases hY with ⟨k1, k2⟩ | ⟨k1, k2⟩
    · rw [h2, k2]
    · rw [h1, k2] at eXY; cases eXY
    · rw [h2, k1] at eXY; cases eXY
    · rw [h2, k2] at eXY
      rw [jl_inj c r s h1 k1 (fun x hx => hp x (List.mem_cons_of_mem _ hx)) (fun x hx => hq x (List.mem_cons_of_mem _ hx)) (List.cons.inj eXY).2]
theorem split_ne (x y : Str) : Txt.split x y ≠ [] := by
  unfold Txt.split
  split
  · simp
  · split
    · simp
    · rw [PySem.StrLaws.partsBetween_eq]
      obtain ⟨p, r, e⟩ := PySem.StrLaws.partsFrom_ne x y.length 0 (Builtin.Str.occurrences x y 0 x.length (x.length + 1))
      rw [e]
      simp
theorem map_inj_toList : ∀ {ps qs : List Str}, ps.map (fun y => y.cps.toList) = qs.map (fun y => y.cps.toList) → ps = qs
  | [], [], _ => rfl
  | [], _ :: _, h => by cases h
  | _ :: _, [], h => by cases h
  | p :: ps, q :: qs, h => by
    rw [List.map_cons, List.map_cons] at h
    have := List.cons.inj h
    rw [ext_toList this.1, map_inj_toList this.2]
theorem split_join {c : Nat} {ys : List Str} (hne : ys ≠ []) (hf : ∀ y ∈ ys, c ∉ y.cps.toList) : Txt.split (Txt.join (one c) ys) (one c) = ys := by
  have e := congrArg (fun s : Str => s.cps.toList) (PySem.StrLaws.join_split (Txt.join (one c) ys) (one c))
  have e' : (Txt.join (one c) (Txt.split (Txt.join (one c) ys) (one c))).cps.toList = (Txt.join (one c) ys).cps.toList := by
    show (Builtin.Str.glued (one c) (Txt.split (Txt.join (one c) ys) (one c))).cps.toList = _
    rw [PySem.StrLaws.glued_eq_join]
    exact e
  rw [join_list, join_list] at e'
  refine map_inj_toList (jl_inj c _ _ (by simpa using split_ne _ _) (by simpa using hne) (fun p hp => ?_) (fun p hp => ?_) e')
  · obtain ⟨q, hq, rfl⟩ := List.mem_map.mp hp
    exact PySem.StrLaws.split_free _ c q hq
  · obtain ⟨q, hq, rfl⟩ := List.mem_map.mp hp
    exact hf q hq
theorem join_two (c : Nat) (a b : Str) : Txt.join (one c) [a, b] = a ++ one c ++ b := by
  have := join_snoc' c [a] b (by simp)
  have e : Txt.join (one c) [a] = a := by refine ext_toList ?_; rw [join_list]; rfl
  rw [e] at this
  exact this
def pairW (c : Nat) (a b : Int) : Str := fig a ++ one c ++ fig b
theorem pair_split {c : Nat} {a b : Int} (ha : 0 ≤ a) (hb : 0 ≤ b) (hc : c < 48 ∨ 57 < c) : Txt.split (pairW c a b) (one c) = [fig a, fig b] := by
  unfold pairW
  rw [← join_two]
  exact split_join (by simp) fun y hy => by
    simp only [List.mem_cons, List.not_mem_nil, or_false] at hy
    rcases hy with rfl | rfl
    · exact fig_free ha hc
    · exact fig_free hb hc
theorem pair_free {c d : Nat} {a b : Int} (ha : 0 ≤ a) (hb : 0 ≤ b) (hd : d < 48 ∨ 57 < d) (hcd : d ≠ c) : d ∉ (pairW c a b).cps.toList := fun z => by
  unfold pairW at z
  rw [app_list, app_list] at z
  rcases List.mem_append.mp z with z | z
  · rcases List.mem_append.mp z with z | z
    · exact fig_free ha hd z
    · exact hcd (by simpa [one] using z)
  · exact fig_free hb hd z
theorem pair_len {c : Nat} {a b : Int} (ha : 0 ≤ a ∧ a < 10 ^ 41) (hb : 0 ≤ b ∧ b < 10 ^ 41) : (pairW c a b).length ≤ 83 := by
  have h1 := fig_len ha
  have h2 := fig_len hb
  unfold pairW
  rw [L2.str_len, L2.str_len]
  show (fig a).length + 1 + (fig b).length ≤ 83
  omega
theorem join_len (c : Nat) : ∀ (ys : List Str) (k : Nat), (∀ y ∈ ys, y.length ≤ k) → (Txt.join (one c) ys).length ≤ ys.length * (k + 1) := fun ys k h => by
  rw [len_list, join_list]
  cases ys with
  | nil => simp [jl]
  | cons p r =>
    rw [List.map_cons, jl_flat, List.length_append]
    have hp := h p List.mem_cons_self
    rw [len_list] at hp
    have : ∀ r : List Str, (∀ y ∈ r, y.length ≤ k) → ((List.map (fun q => c :: q) (r.map fun y => y.cps.toList)).flatten).length ≤ r.length * (k + 1) := fun r hr => by
      induction r with
      | nil => simp
      | cons q r ih =>
        have hq := hr q List.mem_cons_self
        rw [len_list] at hq
        have := ih fun y hy => hr y (List.mem_cons_of_mem _ hy)
        rw [List.map_cons, List.map_cons, List.flatten_cons, List.length_append, List.length_cons, List.length_cons, Nat.succ_mul]
        omega
    have := this r fun y hy => h y (List.mem_cons_of_mem _ hy)
    rw [List.length_cons, Nat.succ_mul]
    omega
theorem one_len (c : Nat) : (one c).length = 1 := rfl
theorem sum_len : ∀ (ys : List Str) (k : Nat), (∀ y ∈ ys, y.length ≤ k) → (ys.map (·.length)).sum ≤ ys.length * k
  | [], k, _ => by simp
  | y :: ys, k, h => by
    have := sum_len ys k fun z hz => h z (List.mem_cons_of_mem _ hz)
    have hy := h y List.mem_cons_self
    rw [List.map_cons, List.sum_cons, List.length_cons, Nat.succ_mul]
    omega
theorem find_fig {c : Nat} (h : 48 ≤ c ∧ c ≤ 57) : Txt.find "0123456789" (one c) = (c : Int) - 48 ∧ c ∈ (Str.ofString "0123456789").cps.toList := by
  have : c = 48 ∨ c = 49 ∨ c = 50 ∨ c = 51 ∨ c = 52 ∨ c = 53 ∨ c = 54 ∨ c = 55 ∨ c = 56 ∨ c = 57 := by omega
  rcases this with rfl | rfl | rfl | rfl | rfl | rfl | rfl | rfl | rfl | rfl <;> exact ⟨by decide +kernel, by decide +kernel⟩
theorem at_fig {k : Int} (h : 0 ≤ k ∧ k ≤ 9) : atI (Str.ofString "0123456789").cps.toList k = some (48 + k.toNat) := by
  have : k = 0 ∨ k = 1 ∨ k = 2 ∨ k = 3 ∨ k = 4 ∨ k = 5 ∨ k = 6 ∨ k = 7 ∨ k = 8 ∨ k = 9 := by omega
  rcases this with rfl | rfl | rfl | rfl | rfl | rfl | rfl | rfl | rfl | rfl <;> decide +kernel
end Law
namespace L2
open PySem PySem.Spec PyProof.Rows
section
variable {prog : Program} {w : World} {A : Around} {E : Value → Shared → Prop} {s : Shared}
theorem cat_tup0 {t b : Addr} {ws : List Value} {Q : Value → Shared → Prop} (ht : IsTup s.heap t (([] : List Value).toArray)) (hb : IsTup s.heap b ws.toArray) (h : Q (.ref b) s) : wpAny (model prog w) A (binaryOp .Add (.ref t) (.ref b)) Q E s := by
  obtain ⟨⟨cls, dd, data, sl⟩, ho, hc, n, hd⟩ := id ht
  obtain ⟨⟨cls2, dd2, data2, sl2⟩, ho2, hc2, n2, hd2⟩ := id hb
  simp only at hc hd hc2 hd2
  subst hc hd hc2 hd2
  exact concat_meets ⟨_, ho, rfl⟩ ⟨_, ho2, rfl⟩ noFill_tuple_add seq_tuple_add PySem.F.slot_tuple_add PySem.F.entry_tuple_add (PySem.F.args_tuple_add_2 _ _)
    (tuple_addW0 t b _ ws.toArray n n2 dd dd2 sl sl2 rfl) ⟨ho, ho2, h⟩
end
def rCatTA (K : PySem.W.Frag) : R2 := fun x y H Q => ∃ a b xs ys, x = .ref a ∧ y = .ref b ∧ SqT K H a xs ∧ SqT K H b ys ∧ xs.length + ys.length ≤ sizeLine ∧
  (xs = [] → Q (.ref b) H) ∧ (xs ≠ [] → ys = [] → Q (.ref a) H) ∧ (xs ≠ [] → ys ≠ [] → ∀ p, H p = none → Q (.ref p) (upd H p (.tup (xs ++ ys))))
theorem op_catTA {X : Cx} : OpR X (binaryOp .Add) (rCatTA X.K) := by
  intro pins s σ H x y v u Q I rx ry h
  obtain ⟨a, b, xs, ys, rfl, rfl, ha, hb, hz, q0, q1, q2⟩ := h
  by_cases hx : xs = []
  · subst hx
    cases rx
    cases ry
    obtain ⟨its, r1, p1, _⟩ := I.tuple ha
    obtain ⟨its2, r2, p2, _⟩ := I.tuple hb
    cases r1
    exact cat_tup0 p1 p2 ⟨.ref b, H, I, rfl, q0 rfl⟩
  · exact op_catT pins s σ H (.ref a) (.ref b) v u Q I rx ry ⟨a, b, xs, ys, rfl, rfl, ha, hb, hx, hz, q1 hx, q2 hx⟩
section
variable {T : Tb} {k : Nat} {P : Pt} {N : List Str} {sc : Scope} {a b c d : Expr} {wa wb wc wd : WE} {pos : Pos} {es : List Expr}
def pCatT : P2 := fun d1 d2 κ => match d1, d2 with
  | .tup xs, .tup ys => xs.length + ys.length ≤ sizeLine ∧ κ (.tup (xs ++ ys))
  | _, _ => False
theorem RdV.tupR {mg : Str → Option Value} {H F : Hp} {v : V} {ds : List D} (h : RdV mg H F v (.tup ds)) : Rep mg F v (.tup ds) := by
  rcases h with h | ⟨a, _, h⟩
  · exact h
  · exact h.elim
theorem o_catT {X : Cx} : OpOk T X (binaryOp .Add) pCatT := ⟨⟨_, op_catTA, fun J ρ σ H F x y d1 d2 κ Q R r1 r2 hp z => by
  unfold pCatT at hp
  split at hp
  · rename_i xs ys
    obtain ⟨hz, hk⟩ := hp
    obtain ⟨a, vs, rfl, h1, q1⟩ := r1.tup R.sub
    obtain ⟨b, ws, rfl, h2, q2⟩ := r2.tup R.sub
    refine ⟨a, b, vs, ws, rfl, rfl, .inl (.inl h1), .inl (.inl h2), by rw [q1.length, q2.length]; exact hz, fun e => ?_, fun e e' => ?_, fun e e' p hp' => ?_⟩
    · subst e
      cases q1
      exact z _ _ H F hk R (HLe.refl F) r2.tupR
    · subst e'
      cases q2
      rw [List.append_nil] at hk
      exact z _ _ H F hk R (HLe.refl F) r1.tupR
    · exact z _ _ _ _ hk (R.alloc hp' fun _ z => nomatch z) (HLe.upd (R.fp hp')) (.tup upd_same ((q1.append q2).mono (HLe.upd (R.fp hp'))))
  · exact hp.elim⟩⟩
def pNum (ρ : Env') (o : Opd) (κ : Int → Prop) : Prop := pRd ρ o fun d => ∃ i : Int, d = .int i ∧ i.natAbs.log2 < 1920 ∧ (Str.ofString (toString i)).length ≤ 1000 ∧ κ i
def wFst4 (m1 m2 m3 : Str) (wa wb wc wd : WE) : WE := fun ρ Q => (m1.length ≤ 1000 ∧ m2.length ≤ 1000 ∧ m3.length ≤ 1000) ∧ wa ρ fun o ρ1 => pNum ρ1 o fun i => wb ρ1 fun o2 ρ2 => pNum ρ2 o2 fun j => wc ρ2 fun o3 ρ3 => pNum ρ3 o3 fun l => wd ρ3 fun o4 ρ4 => pNum ρ4 o4 fun n =>
  Q (.val (.str (Str.ofString (toString i) ++ m1 ++ Str.ofString (toString j) ++ m2 ++ Str.ofString (toString l) ++ m3 ++ Str.ofString (toString n)))) ρ4
def tNum (t : TE) (κ : Int → TE) : TE := fun σ H Q => t σ H fun v H1 => ∃ i : Int, v = .int i ∧ i.natAbs.log2 < 1920 ∧ (Str.ofString (toString i)).length ≤ 1000 ∧ κ i σ H1 Q
theorem smallL {n : Nat} (h : n ≤ 1000000) : n ≤ sizeLine := Nat.le_trans h (by decide)
theorem pe_fst4 {X : Cx} {e1 e2 e3 e4 : Expr} {t1 t2 t3 t4 : TE} {m1 m2 m3 : Str} {p1 p2 p3 p4 p5 p6 p7 : Pos} {j1 j2 j3 : Nat} (hm : m1.length ≤ 1000 ∧ m2.length ≤ 1000 ∧ m3.length ≤ 1000) (h1 : PE X e1 t1) (h2 : PE X e2 t2) (h3 : PE X e3 t3) (h4 : PE X e4 t4) :
    PE X (.JoinedStr [.FormattedValue e1 (-1) none p1, .Constant (.str m1) j1 p2, .FormattedValue e2 (-1) none p3, .Constant (.str m2) j2 p4, .FormattedValue e3 (-1) none p5, .Constant (.str m3) j3 p6, .FormattedValue e4 (-1) none p7] pos)
      (tNum t1 fun i => tNum t2 fun j => tNum t3 fun l => tNum t4 fun n => fun σ H Q => Q (.str (Str.ofString (toString i) ++ m1 ++ Str.ofString (toString j) ++ m2 ++ Str.ofString (toString l) ++ m3 ++ Str.ofString (toString n))) H) := by
  obtain ⟨l1, l2, l3⟩ := hm
  intro pins s σ H Q I h
  refine wpAny_JoinedStr (Joins_cons (PyProof.Rows.FormattedValue_plain (thn (h1 pins s σ H _ I h) fun v s1 ⟨x, H1, I1, r1, i, ex, hi, hl1, q1⟩ => ?_)))
  subst ex
  obtain ⟨t, rfl⟩ := r1
  refine PyProof.Rows.formatField_int_small hi ⟨_, _, rfl, by rw [str_nil]; exact smallL (by omega), ?_⟩
  rw [str_nil]
  refine Joins_cons (Calls.Constant_str ⟨_, _, rfl, by rw [str_len]; exact smallL (by omega), ?_⟩)
  refine Joins_cons (PyProof.Rows.FormattedValue_plain (thn (h2 pins _ σ H1 _ ((I1.tok _).tok _) q1) fun v s2 ⟨y, H2, I2, r2, j, ey, hj, hl2, q2⟩ => ?_))
  subst ey
  obtain ⟨t2, rfl⟩ := r2
  refine PyProof.Rows.formatField_int_small hj ⟨_, _, rfl, by simp only [str_len]; exact smallL (by omega), ?_⟩
  refine Joins_cons (Calls.Constant_str ⟨_, _, rfl, by simp only [str_len]; exact smallL (by omega), ?_⟩)
  refine Joins_cons (PyProof.Rows.FormattedValue_plain (thn (h3 pins _ σ H2 _ ((I2.tok _).tok _) q2) fun v s3 ⟨y, H3, I3, r3, l, ey, hl, hl3, q3⟩ => ?_))
  subst ey
  obtain ⟨t3, rfl⟩ := r3
  refine PyProof.Rows.formatField_int_small hl ⟨_, _, rfl, by simp only [str_len]; exact smallL (by omega), ?_⟩
  refine Joins_cons (Calls.Constant_str ⟨_, _, rfl, by simp only [str_len]; exact smallL (by omega), ?_⟩)
  refine Joins_cons (PyProof.Rows.FormattedValue_plain (thn (h4 pins _ σ H3 _ ((I3.tok _).tok _) q3) fun v s4 ⟨y, H4, I4, r4, n, ey, hn, hl4, q4⟩ => ?_))
  subst ey
  obtain ⟨t4, rfl⟩ := r4
  refine PyProof.Rows.formatField_int_small hn ⟨_, _, rfl, by simp only [str_len]; exact smallL (by omega), ?_⟩
  refine Joins_nil ⟨by simp only [str_len]; exact smallL (by omega), ?_⟩
  exact ⟨.str _, H4, (I4.tok _).tok _, ⟨_, rfl⟩, q4⟩
theorem num_ok {J : En} {ρ : Env'} {σ : St} {H F : Hp} (R : Rel T J ρ σ H F) {v : V} {o : Opd} (ho : OpdOk T.mg σ F v o) {κ : Int → Prop} (h : pNum ρ o κ) : ∃ i : Int, v = .int i ∧ i.natAbs.log2 < 1920 ∧ (Str.ofString (toString i)).length ≤ 1000 ∧ κ i := by
  obtain ⟨d, h1, r1⟩ := rd_ok R ho h
  obtain ⟨i, rfl, h2, h3, h4⟩ := h1
  exact ⟨i, r1.int, h2, h3, h4⟩
theorem ve_fst4 {m1 m2 m3 : Str} {p1 p2 p3 p4 p5 p6 p7 : Pos} {j1 j2 j3 : Nat} (ha : VE T k P N sc a wa) (hb : VE T k P N sc b wb) (hc : VE T k P N sc c wc) (hd : VE T k P N sc d wd)
    (hm : m1.length ≤ 1000 ∧ m2.length ≤ 1000 ∧ m3.length ≤ 1000 := by decide +kernel) :
    VE T k P N sc (.JoinedStr [.FormattedValue a (-1) none p1, .Constant (.str m1) j1 p2, .FormattedValue b (-1) none p3, .Constant (.str m2) j2 p4, .FormattedValue c (-1) none p5, .Constant (.str m3) j3 p6, .FormattedValue d (-1) none p7] pos) (wFst4 m1 m2 m3 wa wb wc wd) := ⟨fun X J G => (pe_fst4 hm (ha.of X J G) (hb.of X J G) (hc.of X J G) (hd.of X J G)).imp fun σ H Q => by
  rintro ⟨ρ, F, Q', R, ⟨_, q⟩, z⟩
  refine ⟨ρ, F, _, R, q, fun v H1 F1 o1 ρ1 R1 m1 ho1 q1 => ?_⟩
  obtain ⟨i, e1, a1, b1, q1⟩ := num_ok R1 ho1 q1
  refine ⟨i, e1, a1, b1, ρ1, F1, _, R1, q1, fun v H2 F2 o2 ρ2 R2 m2 ho2 q2 => ?_⟩
  obtain ⟨j, e2, a2, b2, q2⟩ := num_ok R2 ho2 q2
  refine ⟨j, e2, a2, b2, ρ2, F2, _, R2, q2, fun v H3 F3 o3 ρ3 R3 m3 ho3 q3 => ?_⟩
  obtain ⟨l, e3, a3, b3, q3⟩ := num_ok R3 ho3 q3
  refine ⟨l, e3, a3, b3, ρ3, F3, _, R3, q3, fun v H4 F4 o4 ρ4 R4 m4 ho4 q4 => ?_⟩
  obtain ⟨n, e4, a4, b4, q4⟩ := num_ok R4 ho4 q4
  exact ⟨n, e4, a4, b4, z _ H4 F4 (.val (.str _)) ρ4 R4 (m1.trans (m2.trans (m3.trans m4))) (.str _) q4⟩⟩
end
section
variable {T : Tb} {k : Nat} {P : Pt} {N : List Str} {sc : Scope} {pos p' : Pos} {x : Str} {kf : Nat} {fe : Fe}
end
section
variable {T : Tb} {J : En} {ρ : Env'} {σ : St} {H F : Hp}
theorem Rel.drop (R : Rel T J ρ σ H F) (i : Nat) : Rel T J (ρ.set i none) σ H F := by
  have back : ∀ {j : Nat} {c : Cell}, (ρ.set i none)[j]? = some (some c) → ρ[j]? = some (some c) := fun {j c} e => by
    rcases get_set e with ⟨_, z⟩ | ⟨_, z⟩
    · cases z
    · exact z
  exact ⟨by rw [List.length_set]; exact R.len, R.sub, fun j c e => R.slot j c (back e), fun j l c c' u e e' h1 h2 h3 h4 => R.dis j l c c' u (back e) (back e') h1 h2 h3 h4, R.old, R.mono, R.tab, R.ntab, R.aA,
    fun p hp => let ⟨h1, h2, h3, h4⟩ := R.prot p hp; ⟨h1, h2, h3, fun j c e hc => h4 j c (back e) hc⟩⟩
theorem Fresh.drop {b : Addr} {d : D} (f : Fresh T J ρ σ H F b d) (i : Nat) : Fresh T J (ρ.set i none) σ H F b d :=
  ⟨f.own, f.nf, f.nj, fun j c e hc => by
    rcases get_set e with ⟨_, z⟩ | ⟨_, z⟩
    · cases z
    · exact f.ns j c z hc, f.nb⟩
theorem Rel.lift (R : Rel T J ρ σ H F) {i : Nat} {d : D} {v : V} (e : ρ[i]? = some (some (.ow d))) (hs : σ[i]? = some (some v)) : ∃ a, v = .ref a ∧ Fresh T J (ρ.set i none) σ H F a d := by
  obtain ⟨v', e1, a, hv, w, n1, n2⟩ := R.slot i _ e
  rw [hs] at e1; cases e1
  subst hv
  refine ⟨a, rfl, w, n1, n2, fun j c ej hc z => ?_, fun p hp z => ?_⟩
  · rcases get_set ej with ⟨_, z'⟩ | ⟨ne, z'⟩
    · cases z'
    · exact ne (R.dis i j _ c _ e z' rfl hc hs z)
  · exact (R.prot p hp).2.2.2 i _ e rfl (by rw [hs, z])
theorem look2 (R : Rel T J ρ σ H F) (hm : noMu ρ = true) {a b c0 : Addr} {es ds : List D} (hFa : F a = some (.tup [.ref c0, .ref b])) (ne : c0 ≠ b) (fc : Fresh T J ρ σ H F c0 (.lst es)) (f : Fresh T J ρ σ H F b (.lst ds)) {i : Nat} (hs : σ[i]? = some (some (.ref a))) :
    ∃ J' F', Rel T J' ((bare ρ).set i (some (.sh (.tup [.lst es, .lst ds])))) σ H F' ∧ ∀ H' F'' ρ'', Rel T J' ρ'' σ H' F'' → HLe F' F'' → Rel T J ρ σ H' F ∧ Fresh T J ρ σ H' F c0 (.lst es) ∧ Fresh T J ρ σ H' F b (.lst ds) := by
  obtain ⟨us, hc0, ru⟩ := fc.own
  obtain ⟨vs, hb, rv⟩ := f.own
  have R0 := R.freezeA hc0 fc.nf fc.nj (fun _ z => nomatch z) fc.ns fc.nb
  have m0 : HLe F (upd F c0 (.lst us)) := HLe.upd fc.nf
  have nfb : upd F c0 (.lst us) b = none := by rw [upd_ne ne.symm]; exact f.nf
  have R1 := R0.freezeA hb nfb f.nj (fun _ z => nomatch z) f.ns f.nb
  have mF : HLe F (upd (upd F c0 (.lst us)) b (.lst vs)) := m0.trans (HLe.upd nfb)
  have ec : upd (upd F c0 (.lst us)) b (.lst vs) c0 = some (.lst us) := by rw [upd_ne ne]; exact upd_same
  obtain ⟨B, hB1, hB2⟩ := own_objs R ρ.length
  have slB : ∀ p ∈ B, F p.1 = none ∧ J.H p.1 = none ∧ (p.1 ≠ b ∧ p.1 ≠ c0) ∧ ∀ ps, p.2 ≠ .tbl ps := fun p hp => by
    obtain ⟨j, d, e1, e2, e3⟩ := hB1 p hp
    obtain ⟨v, q1, a', hv, w, n1, n2⟩ := R.slot j _ e1
    rw [e2] at q1; cases q1; cases hv
    obtain ⟨o, ho, hn⟩ := w.some
    rw [e3] at ho; cases ho
    exact ⟨n1, n2, ⟨fun z => f.ns j _ e1 rfl (by rw [e2, z]), fun z => fc.ns j _ e1 rfl (by rw [e2, z])⟩, hn⟩
  refine ⟨{ J with B := B ++ J.B }, upd (upd F c0 (.lst us)) b (.lst vs), ⟨?_, R1.sub, fun j c e => ?_, fun j l c c' u e e' h1 h2 h3 h4 => ?_, R1.old, R1.mono, R1.tab, R1.ntab, R1.aA, fun p hp => ?_⟩, fun H' F'' ρ'' R2 m => ?_⟩
  · rw [List.length_set]; unfold bare; rw [List.length_map]; exact R.len
  · rcases get_set e with ⟨rfl, z⟩ | ⟨ne, z⟩
    · cases z
      exact ⟨_, hs, .tup (mF _ _ hFa) (.cons (.lst (.inl ec) (ru.mono mF)) (.cons (.lst (.inl upd_same) (rv.mono mF)) .nil))⟩
    · obtain ⟨d, rfl, e'⟩ := bare_at z
      exact R1.slot j _ e'
  · have : c.own = false := by
      rcases get_set e with ⟨_, z⟩ | ⟨_, z⟩
      · cases z; rfl
      · obtain ⟨d, rfl, _⟩ := bare_at z; rfl
    rw [this] at h1; cases h1
  · have vac : ∀ (j : Nat) (c : Cell), ((bare ρ).set i (some (.sh (.tup [.lst es, .lst ds]))))[j]? = some (some c) → c.own = true → σ[j]? ≠ some (some (.ref p.1)) := fun j c e hc => by
      have : c.own = false := by
        rcases get_set e with ⟨_, z⟩ | ⟨_, z⟩
        · cases z; rfl
        · obtain ⟨d, rfl, _⟩ := bare_at z; rfl
      rw [this] at hc; cases hc
    rcases List.mem_append.mp hp with hp | hp
    · obtain ⟨n1, n2, n3, n4⟩ := slB p hp
      obtain ⟨_, _, _, _, e3⟩ := hB1 p hp
      exact ⟨e3, by rw [upd_ne n3.1, upd_ne n3.2]; exact n1, ⟨n4, n2, fun hA => (R.aA _ hA).2 n2⟩, vac⟩
    · obtain ⟨h1, h2, h3, h4⟩ := R1.prot p hp
      exact ⟨h1, h2, h3, vac⟩
  · have mall : HLe F F'' := mF.trans m
    have Rr : Rel T J ρ σ H' F := by
      refine ⟨R.len, fun c x e => R2.sub _ _ (mall _ _ e), fun j c e => ?_, R.dis, fun c x e hc => ⟨(R2.old c x e hc).1, (R.old c x e hc).2⟩, R.mono, R2.tab, R.ntab, R2.aA, fun p hp => ?_⟩
      · obtain ⟨v, e1, s⟩ := R.slot j c e
        refine ⟨v, e1, ?_⟩
        cases c with
        | sh d => exact s
        | ow d =>
          obtain ⟨a', rfl, w, r⟩ := s
          obtain ⟨a2, o, q1, q2, q3⟩ := hB2 j d (List.getElem?_eq_some_iff.mp e).1 e
          rw [e1] at q1; cases q1
          have := (R2.prot (a', o) (List.mem_append_left _ q3)).1
          exact ⟨a', rfl, w.mono (HLe.refl F) (this.trans q2.symm), r⟩
        | mu d => exact absurd e (noMu_at hm)
      · obtain ⟨h1, h2, h3, h4⟩ := R.prot p hp
        exact ⟨(R2.prot p (List.mem_append_right _ hp)).1, h2, h3, h4⟩
    exact ⟨Rr, ⟨⟨us, R2.sub _ _ (m _ _ ec), ru⟩, fc.nf, fc.nj, fc.ns, fc.nb⟩, ⟨vs, R2.sub _ _ (m _ _ upd_same), rv⟩, f.nf, f.nj, f.ns, f.nb⟩
theorem Fresh.poked {b c0 : Addr} {d : D} (f : Fresh T J ρ σ H F b d) (ne : b ≠ c0) (o : HO) : Fresh T J ρ σ (upd H c0 o) F b d := ⟨f.own.mono (HLe.refl F) (upd_ne ne), f.nf, f.nj, f.ns, f.nb⟩
end
def wRetDuo (i j1 j2 : Nat) (t2 : WT) : WS := fun D ρ => match ρ[j1]? with
  | some (some (.ow (.lst es))) => match (ρ.set j1 none)[j2]? with
    | some (some (.ow (.lst ds))) => noMu ρ = true ∧ pFree ((ρ.set j1 none).set j2 none) i (t2 ((bare (((ρ.set j1 none).set j2 none).set i none)).set i (some (.sh (.tup [.lst es, .lst ds])))) fun b _ => b = false ∧ D.rt (.mu (.tup [.lst es, .lst ds])) (((ρ.set j1 none).set j2 none).set i none))
    | _ => False
  | _ => False
def wToldDuo (i : Nat) (i1 i2 i3 i4 : Int) (wo : WO) (t2 t3 : WT) : WS := fun D ρ => wo ρ fun c ρ1 => match c with
  | .mu (.tup [.lst es, .lst ds]) => noMu ρ1 = true ∧ (es.length < sizeLine ∧ ds.length < sizeLine) ∧ pFree ρ1 i (t2 ((bare (ρ1.set i none)).set i (some (.sh (.tup [.lst es, .lst ds])))) fun b _ => b = false ∧
      t3 ((bare (ρ1.set i none)).set i (some (.sh (.tup [.lst (es ++ [.tup [.int i1, .int i2]]), .lst ds])))) fun b' _ => b' = false ∧ D.nx (ρ1.set i none))
  | _ => False
section
variable {T : Tb} {k : Nat} {P : Pt} {N : List Str} {sc : Scope} {a c2 c3 : Expr} {wo : WO} {w2 w3 : WS} {t2 t3 : WT}
theorem vss_retDuo (i j1 j2 : Nat) {x y1 y2 : Str} {p0 p1 p2 p3 p5 p6 q1 q2 : Pos} {kk : Nat} {s2 : List Stmt} (h2 : VT T k P N sc c2 t2) (hs2 : VSs T k P N sc s2 w2)
    (hN : N[i]? = some x := by rfl) (hl : LocP P sc x := by first | exact Or.inl rfl | exact Or.inr ⟨rfl, rfl⟩) (hs : ∀ env, swapsWith (.Tuple [.Name y1 q1, .Name y2 q2] kk p0) (some (.Name x p1)) p2.line env = pure false := by intro _; rfl)
    (hv : Vis sc x := by first | exact Or.inl rfl | exact Or.inr (Or.inl rfl) | exact Or.inr (Or.inr rfl)) (hd : (x == ("__debug__" : Str)) = false := by decide) (hcd : (x == ("__classdict__" : Str)) = false := by decide)
    (hN1 : N[j1]? = some y1 := by rfl) (hv1 : Vis sc y1 := by first | exact Or.inl rfl | exact Or.inr (Or.inl rfl) | exact Or.inr (Or.inr rfl)) (hd1 : (y1 == ("__debug__" : Str)) = false := by decide) (hcd1 : (y1 == ("__classdict__" : Str)) = false := by decide)
    (hN2 : N[j2]? = some y2 := by rfl) (hv2 : Vis sc y2 := by first | exact Or.inl rfl | exact Or.inr (Or.inl rfl) | exact Or.inr (Or.inr rfl)) (hd2 : (y2 == ("__debug__" : Str)) = false := by decide) (hcd2 : (y2 == ("__classdict__" : Str)) = false := by decide) :
    VSs T k P N sc [.Assign [.Name x p1] (.Tuple [.Name y1 q1, .Name y2 q2] kk p0) p2, .If c2 s2 [] p3, .Return (some (.Name x p5)) p6] (wRetDuo i j1 j2 t2) := ⟨fun X J G => by
  refine (pss_cons (ps_set (i := i) G.nodup (by rw [G.hN]; exact hN) (G.loc hl).1 (pe_tup (pa_cons (pe_var (i := j1) (by rw [G.hN]; exact hN1) (by rw [G.sc]; exact hv1) hd1 hcd1) (pa_cons (pe_var (i := j2) (by rw [G.hN]; exact hN2) (by rw [G.sc]; exact hv2) hd2 hcd2) pa_nil rfl) rfl)) (hs X.env) (G.loc hl).2) (pss_cons (ps_if (ex_ptt fun J' => h2.of X J' G) (hs2.of X J G) pss_nil) (pss_cons (ps_ret (pe_var (i := i) (by rw [G.hN]; exact hN) (by rw [G.sc]; exact hv) hd hcd)) pss_nil))).imp fun E σ H => ?_
  rintro ⟨ρ, F, D, R, q, z⟩
  unfold wRetDuo at q
  split at q
  · rename_i es e1
    split at q
    · rename_i ds e2
      obtain ⟨hnm, q⟩ := q
      obtain ⟨v1, s1, _⟩ := R.slot j1 _ e1
      obtain ⟨c0, rfl, fc⟩ := R.lift e1 s1
      have Rd1 := R.drop j1
      obtain ⟨v2, s2', _⟩ := Rd1.slot j2 _ e2
      obtain ⟨b, rfl, fb⟩ := Rd1.lift e2 s2'
      have ne : c0 ≠ b := fun z => fc.ns j2 _ e2 rfl (by rw [s2', z])
      have Rd2 := Rd1.drop j2
      have fc := fc.drop j2
      refine ⟨.ref c0, s1, .ref b, s2', by show 2 ≤ sizeLine; decide, fun p hp => ?_⟩
      obtain ⟨hi, q⟩ := free_at q
      rw [Rd2.len] at hi
      obtain ⟨R4, m4⟩ := newF Rd2 (o := .tup [.ref c0, .ref b]) hp (fun _ z => nomatch z)
      have f4 := fb.beside Rd2 (o := .tup [.ref c0, .ref b]) hp
      have g4 := fc.beside Rd2 (o := .tup [.ref c0, .ref b]) hp
      have hsl : (σ.set i (some (V.ref p)))[i]? = some (some (.ref p)) := List.getElem?_set_self hi
      have hnm' := noMu_none (noMu_none (noMu_none hnm j1) j2) i
      have R5 := R4.blank i (.ref p)
      have f5 := f4.blank i (.ref p)
      have g5 := g4.blank i (.ref p)
      obtain ⟨J1, F6, R6, back⟩ := look2 R5 hnm' upd_same ne g5 f5 hsl
      refine ⟨J1, _, F6, _, R6, q, fun b' H2 F7 ρ4 R7 m7 hb => ?_⟩
      obtain ⟨rfl, hn⟩ := hb
      obtain ⟨R8, g8, f8⟩ := back H2 F7 ρ4 R7 m7
      refine iteF ?_
      refine ⟨.ref p, hsl, ?_⟩
      exact z.2.1 _ _ _ _ (.mu (.tup [.lst es, .lst ds])) _ R8 m4 ⟨p, b, .ref c0, .lst es, ds, rfl, rfl, upd_same, ⟨c0, rfl, ne, g8⟩, f8⟩ hn
    · exact q.elim
  · exact q.elim⟩
theorem vss_toldDuo (i : Nat) {x : Str} {p1 p2 p3 p5 p6 p7 p8 p9 pt apos cpos epos p5' p6' p7' p8' p9' pt' apos' cpos' epos' p3' : Pos} {j j1 j2 kk j' j1' j2' kk' : Nat} {i1 i2 i3 i4 : Int} {s2 s3 : List Stmt} (ha : VO T k P N sc a wo) (h2 : VT T k P N sc c2 t2) (hs2 : VSs T k P N sc s2 w2) (h3 : VT T k P N sc c3 t3) (hs3 : VSs T k P N sc s3 w3)
    (hN : N[i]? = some x := by rfl) (hl : LocP P sc x := by first | exact Or.inl rfl | exact Or.inr ⟨rfl, rfl⟩) (hs : ∀ env, swapsWith a (some (.Name x p1)) p2.line env = pure false := by intro _; rfl)
    (hv : Vis sc x := by first | exact Or.inl rfl | exact Or.inr (Or.inl rfl) | exact Or.inr (Or.inr rfl)) (hd : (x == ("__debug__" : Str)) = false := by decide) (hcd : (x == ("__classdict__" : Str)) = false := by decide)
    (hline : (apos.endLine == cpos.line) = true := by rfl) (he : ∀ env, swapsWith (.Call (.Attribute (.Subscript (.Name x p5) (.Constant (.int 0) j p6) p7) ("append" : Str) apos) [.Tuple [.Constant (.int i1) j1 p8, .Constant (.int i2) j2 p9] kk pt] [] cpos) none epos.line env = pure false := by intro _; rfl)
    (hline' : (apos'.endLine == cpos'.line) = true := by rfl) (he' : ∀ env, swapsWith (.Call (.Attribute (.Subscript (.Name x p5') (.Constant (.int 1) j' p6') p7') ("append" : Str) apos') [.Tuple [.Constant (.int i3) j1' p8', .Constant (.int i4) j2' p9'] kk' pt'] [] cpos') none epos'.line env = pure false := by intro _; rfl) :
    VSs T k P N sc [.Assign [.Name x p1] a p2, .If c2 s2 [] p3, .Expr (.Call (.Attribute (.Subscript (.Name x p5) (.Constant (.int 0) j p6) p7) ("append" : Str) apos) [.Tuple [.Constant (.int i1) j1 p8, .Constant (.int i2) j2 p9] kk pt] [] cpos) epos,
      .If c3 s3 [] p3', .Expr (.Call (.Attribute (.Subscript (.Name x p5') (.Constant (.int 1) j' p6') p7') ("append" : Str) apos') [.Tuple [.Constant (.int i3) j1' p8', .Constant (.int i4) j2' p9'] kk' pt'] [] cpos') epos'] (wToldDuo i i1 i2 i3 i4 wo t2 t3) := ⟨fun X J G => by
  obtain ⟨r, hr, hz⟩ := (m_append (T := T) (X := X)).ex
  refine (pss_cons (ps_set (i := i) G.nodup (by rw [G.hN]; exact hN) (G.loc hl).1 (ha.of X J G) (hs X.env) (G.loc hl).2) (pss_cons (ps_if (ex_ptt fun J' => h2.of X J' G) (hs2.of X J G) pss_nil)
    (pss_cons (ps_expr (pe_bm PySem.F.plainAttrs_list F.slot_list_append rfl hr (pe_ix ix_tup (pe_var (i := i) (by rw [G.hN]; exact hN) (by rw [G.sc]; exact hv) hd hcd) pe_int (fun _ _ => rfl)) (pa_cons (pe_tup (pa_cons pe_int (pa_cons pe_int pa_nil rfl) rfl)) pa_nil rfl) rfl rfl hline rfl rfl) (he X.env))
    (pss_cons (ps_if (ex_ptt fun J' => h3.of X J' G) (hs3.of X J G) pss_nil)
    (pss_cons (ps_expr (pe_bm PySem.F.plainAttrs_list F.slot_list_append rfl hr (pe_ix ix_tup (pe_var (i := i) (by rw [G.hN]; exact hN) (by rw [G.sc]; exact hv) hd hcd) pe_int (fun _ _ => rfl)) (pa_cons (pe_tup (pa_cons pe_int (pa_cons pe_int pa_nil rfl) rfl)) pa_nil rfl) rfl rfl hline' rfl rfl) (he' X.env)) pss_nil))))).imp fun E σ H => ?_
  rintro ⟨ρ, F, D, R, q, z⟩
  refine ⟨ρ, F, _, R, q, fun v H1 F1 c ρ1 R1 m1 hc q1 => ?_⟩
  split at q1
  · rename_i es ds
    obtain ⟨l, m, v0, d0, ds', rfl, hd0, hFl, r0, f⟩ := hc
    cases hd0
    obtain ⟨c0, rfl, ne, g⟩ := r0
    obtain ⟨hnm, ⟨hle, hld⟩, q1⟩ := q1
    obtain ⟨hi, q1⟩ := free_at q1
    rw [R1.len] at hi
    have hsl : (σ.set i (some (V.ref l)))[i]? = some (some (.ref l)) := List.getElem?_set_self hi
    have hnm' := noMu_none hnm i
    have R2 := R1.blank i (.ref l)
    have f2 := f.blank i (.ref l)
    have g2 := g.blank i (.ref l)
    obtain ⟨J1, F2, R3, back⟩ := look2 R2 hnm' hFl ne g2 f2 hsl
    refine ⟨J1, _, F2, _, R3, q1, fun b H2 F3 ρ2 R4 m2 hb => ?_⟩
    obtain ⟨rfl, q2⟩ := hb
    obtain ⟨R5, g5, f5⟩ := back H2 F3 ρ2 R4 m2
    refine iteF ?_
    obtain ⟨us, hm, ru⟩ := g5.own
    refine ⟨.ref l, hsl, l, [.ref c0, .ref m], 0, .ref c0, rfl, rfl, .inl (.inl (R5.sub _ _ hFl)), rfl, .inl ⟨rfl, us, .inl (.inl hm)⟩, ?_⟩
    refine ⟨by show 2 ≤ sizeLine; decide, fun p hp => ?_⟩
    obtain ⟨R6, m6⟩ := newF R5 (o := .tup [.int i1, .int i2]) hp (fun _ z => nomatch z)
    have f6 := f5.beside R5 (o := .tup [.int i1, .int i2]) hp
    have g6 := g5.beside R5 (o := .tup [.int i1, .int i2]) hp
    obtain ⟨us', hm', ru'⟩ := g6.own
    refine hz _ _ c0 us' es [.ref p] [.tup [.int i1, .int i2]] (fun _ ys => ys = es ++ [.tup [.int i1, .int i2]]) _ hm' ru' (.cons (.tup upd_same (.cons (.int i1) (.cons (.int i2) .nil))) .nil) ⟨hle, rfl⟩ fun e ys ws v hq rw' re => ?_
    subst hq
    have R7 := R6.poke g6 (.lst ws)
    have f7 := f6.poked ne.symm (.lst ws)
    have g7 : Fresh T J (ρ1.set i none) (σ.set i (some (.ref l))) (upd (upd H2 p (.tup [.int i1, .int i2])) c0 (.lst ws)) (upd F1 p (.tup [.int i1, .int i2])) c0 (.lst (es ++ [.tup [.int i1, .int i2]])) := ⟨⟨ws, upd_same, rw'⟩, g6.nf, g6.nj, g6.ns, g6.nb⟩
    obtain ⟨J2, F8, R8, back2⟩ := look2 R7 hnm' (m6 _ _ hFl) ne g7 f7 hsl
    refine ⟨J2, _, F8, _, R8, q2, fun b' H3 F9 ρ3 R9 m9 hb' => ?_⟩
    obtain ⟨rfl, hn⟩ := hb'
    obtain ⟨R10, g10, f10⟩ := back2 H3 F9 ρ3 R9 m9
    refine iteF ?_
    obtain ⟨ws2, hm2, rw2⟩ := f10.own
    refine ⟨.ref l, hsl, l, [.ref c0, .ref m], 1, .ref m, rfl, rfl, .inl (.inl (R10.sub _ _ (m6 _ _ hFl))), rfl, .inl ⟨rfl, ws2, .inl (.inl hm2)⟩, ?_⟩
    refine ⟨by show 2 ≤ sizeLine; decide, fun p' hp' => ?_⟩
    obtain ⟨R11, m11⟩ := newF R10 (o := .tup [.int i3, .int i4]) hp' (fun _ z => nomatch z)
    have f11 := f10.beside R10 (o := .tup [.int i3, .int i4]) hp'
    obtain ⟨ws3, hm3, rw3⟩ := f11.own
    exact hz _ _ m ws3 ds [.ref p'] [.tup [.int i3, .int i4]] (fun _ _ => True) _ hm3 rw3 (.cons (.tup upd_same (.cons (.int i3) (.cons (.int i4) .nil))) .nil) ⟨hld, trivial⟩ fun e ys ws v hq rw' re => z.1 _ _ _ _ (R11.poke f11 _) (m1.trans (m6.trans m11)) hn
  · exact q1.elim⟩
end
section
variable {prog : Program} {w : World} {A : Around} {E : Value → Shared → Prop} {s : Shared}
theorem nextOf_tuple {it t : Addr} {i : Nat} {items : Array Value} {x : Value} {Q : Value → Shared → Prop} (hit : s.heap.IsTupleIter it t i) (ht : s.heap.IsTuple t items) (hx : items[i]? = some x)
    (hQ : ∀ h', h'.IsTupleIter it t (i + 1) → Heap.SameBut it s.heap h' → Q x { s with heap := h' }) : wpAny (model prog w) A (Builtin.SmallTypes.nextOf (.ref it)) Q E s := by
  obtain ⟨hp, g, d, tk, os⟩ := s
  obtain ⟨o, ho, hc, hd⟩ := hit
  obtain ⟨o2, ho2, hc2, n2, hd2⟩ := ht
  have hT : (⟨hp, g, d, tk, os⟩ : Shared).TypeIs (.ref it) "tuple_iterator" := ⟨o, ho, hc⟩
  unfold Builtin.SmallTypes.nextOf
  refine wpAny_bind (wpAny_callSpecial?_slot (name := Str.ofString "__next__") hT F.slot_tuple_iterator_next (wpAny_call_entry F.slot_tuple_iterator_next hT F.entry_tuple_iterator_next ?_ (F.args_tuple_iterator_next_1 _)))
  show wpAny _ _ (field (.ref it) 0 >>= _) _ _ _
  refine wpAny_bind (wpAny_field ho hd (x := .ref t) rfl ?_)
  show wpAny _ _ (field (.ref it) 1 >>= _) _ _ _
  refine wpAny_bind (wpAny_field ho hd (x := .int i 0) rfl ?_)
  show wpAny _ _ (seqItems? (.ref t) >>= _) _ _ _
  refine wpAny_bind (wpAny_seqItems ho2 hd2 ?_)
  show wpAny _ _ (match items[((i : Int)).toNat]? with | some x => _ | none => _) _ _ _
  rw [Int.toNat_natCast, hx]
  obtain ⟨cls, dict, data, slots⟩ := o
  cases hc
  cases hd
  refine wpAny_bind (wpAny_setField ho rfl (by simp) (wpAny_pure ⟨_, rfl, wpAny_pure (hQ _ ⟨_, Heap.get?_update_self _ ho rfl, rfl, rfl⟩ (Heap.SameBut.update _ _ _))⟩))
theorem zipS_next {z TI TO i1 i2 l2 : Addr} {x : Str} {t : Tok} {k c : Nat} {ys : Array Value} {y a b : Value} {Q : Value → Shared → Prop} (D : ZipApart z TI TO i1 i2 l2 l2)
    (hz : IsZip s.heap z TI TO .none) (hTI : IsPair s.heap TI (.ref i1) (.ref i2)) (hTO : IsPair s.heap TO a b) (h1 : s.heap.IsStrIter i1 "str_ascii_iterator" x t k) (h2 : s.heap.IsTupleIter i2 l2 k) (p2 : s.heap.IsTuple l2 ys) (hx : x.cps[k]? = some c) (hy : ys[k]? = some y)
    (hQ : ∀ h', IsZip h' z TI TO (rawInt s.heap.objs.size) → IsPair h' TO (.str ⟨#[c]⟩ s.toks) y → h'.IsStrIter i1 "str_ascii_iterator" x t (k + 1) → h'.IsTupleIter i2 l2 (k + 1) → IsPair h' s.heap.objs.size (.str ⟨#[c]⟩ s.toks) y → h'.objs.size = s.heap.objs.size + 1 →
      (∀ b o, b ≠ z → b ≠ TO → b ≠ i1 → b ≠ i2 → s.heap.get? b = some o → h'.get? b = some o) → Q (.ref s.heap.objs.size) { s with heap := h', toks := s.toks + 1 }) :
    wpAny (model prog w) A (Builtin.«zip.__next__» ⟨[.ref z], []⟩) (fun fin s' => ∃ v, fin = .done (.ret v) ∧ Q v s') E s := by
  obtain ⟨hp, g, d, tk, os⟩ := s
  show wpAny _ _ (field (.ref z) 2 >>= _) _ _ _
  refine wpAny_bind (wpAny_field hz rfl (x := .bool false) rfl ?_)
  show wpAny _ _ (field (.ref z) 3 >>= _) _ _ _
  refine wpAny_bind (wpAny_field hz rfl (x := .ref TI) rfl ?_)
  refine wpAny_bind (wpAny_seqItems hTI rfl ?_)
  show wpAny _ _ (Builtin.SmallTypes.ownedTupleIsFree (.ref z) >>= _) _ _ _
  unfold Builtin.SmallTypes.ownedTupleIsFree
  refine wpAny_bind (wpAny_bind (wpAny_field hz rfl (x := .none) rfl (wpAny_pure ?_)))
  simp only [if_true]
  refine wpAny_bind (wpAny_rule ?_)
  refine wpAny_bind (wpAny_field hz rfl (x := .ref TO) rfl ?_)
  refine wpAny_bind (wpAny_setField_rec hz (by simp) fun h₁ hz₁ s₁ => ?_)
  replace s₁ : Heap.SameBut z hp h₁ := s₁
  replace hz₁ : h₁.get? z = some { cls := .type "zip", data := .fields #[.ellipsis, .bool false, .bool false, .ref TI, .ref TO] } := hz₁
  have hTO₁ : IsPair h₁ TO a b := s₁.extBut _ _ D.TOz hTO
  have i1₁ := h1.extBut s₁.extBut D.i1z
  have i2₁ := h2.extBut s₁.extBut D.i2z
  have p2₁ := p2.extBut s₁.extBut D.l2z
  refine wpAny_bind (wpAny_bind (wpAny_bind (wpAny_onRaise ?_)))
  show wpAny _ _ (Builtin.SmallTypes.nextOf (.ref i1) >>= fun v => pure (some v)) _ _ _
  refine wpAny_bind (wpAny_nextOf_ascii_item i1₁ hx fun h₂ i1₂ s₂ => wpAny_pure ?_)
  replace s₂ : Heap.SameBut i1 h₁ h₂ := s₂
  have hTO₂ : IsPair h₂ TO a b := s₂.extBut _ _ D.TOi1 hTO₁
  have hz₂ := s₂.extBut _ _ D.i1z.symm hz₁
  have i2₂ := i2₁.extBut s₂.extBut D.i12.symm
  have p2₂ := p2₁.extBut s₂.extBut D.l2i1
  refine wpAny_bind (wpAny_seqItems hTO₂ rfl ?_)
  refine wpAny_bind (wpAny_updateSeq_pair hTO₂ fun h₃ hTO₃ s₃ => ?_)
  replace s₃ : Heap.SameBut TO h₂ h₃ := s₃
  replace hTO₃ : IsPair h₃ TO (.str ⟨#[c]⟩ tk) b := hTO₃
  refine wpAny_bind (wpAny_letGo (wpAny_pure ?_))
  have hz₃ := s₃.extBut _ _ D.TOz.symm hz₂
  have i1₃ := i1₂.extBut s₃.extBut D.TOi1.symm
  have i2₃ := i2₂.extBut s₃.extBut D.TOi2.symm
  have p2₃ := p2₂.extBut s₃.extBut D.l2TO
  refine wpAny_bind (wpAny_bind (wpAny_onRaise ?_))
  show wpAny _ _ (Builtin.SmallTypes.nextOf (.ref i2) >>= fun v => pure (some v)) _ _ _
  refine wpAny_bind (nextOf_tuple i2₃ p2₃ hy fun h₄ i2₄ s₄ => wpAny_pure ?_)
  replace s₄ : Heap.SameBut i2 h₃ h₄ := s₄
  have hTO₄ : IsPair h₄ TO (.str ⟨#[c]⟩ tk) b := s₄.extBut _ _ D.TOi2 hTO₃
  have hz₄ := s₄.extBut _ _ D.i2z.symm hz₃
  have i1₄ := i1₃.extBut s₄.extBut D.i12
  refine wpAny_bind (wpAny_seqItems hTO₄ rfl ?_)
  refine wpAny_bind (wpAny_updateSeq_pair hTO₄ fun h₅ hTO₅ s₅ => ?_)
  replace s₅ : Heap.SameBut TO h₄ h₅ := s₅
  replace hTO₅ : IsPair h₅ TO (.str ⟨#[c]⟩ tk) y := hTO₅
  refine wpAny_bind (wpAny_letGo (wpAny_pure ?_))
  have hz₅ := s₅.extBut _ _ D.TOz.symm hz₄
  have i1₅ := i1₄.extBut s₅.extBut D.TOi1.symm
  have i2₅ := i2₄.extBut s₅.extBut D.TOi2.symm
  refine wpAny_pure ?_
  refine wpAny_bind (wpAny_seqItems hTO₅ rfl ?_)
  refine wpAny_bind (wpAny_newTuple ?_)
  have sz : h₅.objs.size = hp.objs.size := by rw [s₅.1, s₄.1, s₃.1, s₂.1, s₁.1]
  have zl : z < hp.objs.size := Heap.lt_size hz
  have ol : TO < hp.objs.size := Heap.lt_size hTO
  show wpAny _ _ (Builtin.SmallTypes.ownedTupleHandOut (.ref z) (.ref h₅.objs.size) >>= _) _ _ ⟨h₅.push { cls := .type "tuple", data := .seq #[.str ⟨#[c]⟩ tk, y] }, g, d, tk + 1, os⟩
  rw [sz]
  have hz₆ : (h₅.push { cls := .type "tuple", data := .seq #[.str ⟨#[c]⟩ tk, y] }).get? z = some { cls := .type "zip", data := .fields #[.ellipsis, .bool false, .bool false, .ref TI, .ref TO] } := Heap.get?_push_of_some _ hz₅
  have hT₆ : IsPair (h₅.push { cls := .type "tuple", data := .seq #[.str ⟨#[c]⟩ tk, y] }) hp.objs.size (.str ⟨#[c]⟩ tk) y := by rw [← sz]; exact Heap.get?_push_size _ rfl
  have hTO₆ : IsPair (h₅.push { cls := .type "tuple", data := .seq #[.str ⟨#[c]⟩ tk, y] }) TO (.str ⟨#[c]⟩ tk) y := Heap.get?_push_of_some _ hTO₅
  have i1₆ : (h₅.push { cls := .type "tuple", data := .seq #[.str ⟨#[c]⟩ tk, y] }).IsStrIter i1 "str_ascii_iterator" x t (k + 1) := by obtain ⟨o, ho, r⟩ := i1₅; exact ⟨o, Heap.get?_push_of_some _ ho, r⟩
  have i2₆ : (h₅.push { cls := .type "tuple", data := .seq #[.str ⟨#[c]⟩ tk, y] }).IsTupleIter i2 l2 (k + 1) := by obtain ⟨o, ho, r⟩ := i2₅; exact ⟨o, Heap.get?_push_of_some _ ho, r⟩
  have hs₆ : (h₅.push { cls := .type "tuple", data := .seq #[.str ⟨#[c]⟩ tk, y] }).objs.size = hp.objs.size + 1 := by rw [Heap.size_push, sz]
  have k₆ : ∀ b o, b ≠ z → b ≠ TO → b ≠ i1 → b ≠ i2 → hp.get? b = some o → (h₅.push { cls := .type "tuple", data := .seq #[.str ⟨#[c]⟩ tk, y] }).get? b = some o := fun b o bz bT b1 b2 hb =>
    Heap.get?_push_of_some _ (s₅.extBut b o bT (s₄.extBut b o b2 (s₃.extBut b o bT (s₂.extBut b o b1 (s₁.extBut b o bz hb)))))
  generalize h₅.push { cls := .type "tuple", data := .seq #[.str ⟨#[c]⟩ tk, y] } = h₆ at hz₆ hT₆ hTO₆ i1₆ i2₆ hs₆ k₆ ⊢
  refine wpAny_bind ?_
  unfold Builtin.SmallTypes.ownedTupleHandOut
  refine wpAny_bind (wpAny_setField_rec hz₆ (by simp) fun h₇ hz₇ s₇ => ?_)
  replace s₇ : Heap.SameBut z h₆ h₇ := s₇
  refine wpAny_setField_rec hz₇ (by simp) fun h₈ hz₈ s₈ => ?_
  replace s₈ : Heap.SameBut z h₇ h₈ := s₈
  have s := s₇.trans s₈
  exact wpAny_pure ⟨_, rfl, hQ h₈ hz₈ (s.extBut _ _ D.TOz hTO₆) (i1₆.extBut s.extBut D.i1z) (i2₆.extBut s.extBut D.i2z) (s.extBut _ _ (Nat.ne_of_gt zl) hT₆) (by rw [s.1, hs₆]) fun b o bz bT b1 b2 hb => s.extBut b o bz (k₆ b o bz bT b1 b2 hb)⟩
theorem zipS_pyNext {z TI TO i1 i2 l2 : Addr} {x : Str} {t : Tok} {k c : Nat} {ys : Array Value} {y a b : Value} {Q : Option Value → Shared → Prop} (D : ZipApart z TI TO i1 i2 l2 l2)
    (hz : IsZip s.heap z TI TO .none) (hTI : IsPair s.heap TI (.ref i1) (.ref i2)) (hTO : IsPair s.heap TO a b) (h1 : s.heap.IsStrIter i1 "str_ascii_iterator" x t k) (h2 : s.heap.IsTupleIter i2 l2 k) (p2 : s.heap.IsTuple l2 ys) (hx : x.cps[k]? = some c) (hy : ys[k]? = some y)
    (hQ : ∀ h', IsZip h' z TI TO (rawInt s.heap.objs.size) → IsPair h' TO (.str ⟨#[c]⟩ s.toks) y → h'.IsStrIter i1 "str_ascii_iterator" x t (k + 1) → h'.IsTupleIter i2 l2 (k + 1) → IsPair h' s.heap.objs.size (.str ⟨#[c]⟩ s.toks) y → h'.objs.size = s.heap.objs.size + 1 →
      (∀ b o, b ≠ z → b ≠ TO → b ≠ i1 → b ≠ i2 → s.heap.get? b = some o → h'.get? b = some o) → Q (some (.ref s.heap.objs.size)) { s with heap := h', toks := s.toks + 1 }) :
    wpAny (model prog w) A (pyNext (.ref z)) Q E s := by
  have hT : s.TypeIs (.ref z) "zip" := ⟨_, hz, rfl⟩
  unfold pyNext
  exact wpAny_bind (wpAny_attempt (wpAny_callSpecial?_slot (name := Str.ofString "__next__") hT F.slot_zip_next
    (wpAny_call_entry F.slot_zip_next hT F.entry_zip_next (zipS_next D hz hTI hTO h1 h2 p2 hx hy fun h' a b c d e f g => wpAny_pure (hQ h' a b c d e f g)) (F.args_zip_next_1 _))))
theorem zipS_end {z TI TO i1 i2 l2 : Addr} {x : Str} {t : Tok} {k : Nat} {a b : Value} {Q : Option Value → Shared → Prop} (hh : A.handled = none) (D : ZipApart z TI TO i1 i2 l2 l2)
    (hz : IsZip s.heap z TI TO .none) (hTI : IsPair s.heap TI (.ref i1) (.ref i2)) (hTO : IsPair s.heap TO a b) (h1 : s.heap.IsStrIter i1 "str_ascii_iterator" x t k) (hx : x.cps[k]? = none)
    (hQ : ∀ h', (∀ b o, b ≠ z → b ≠ TO → b ≠ i1 → b ≠ i2 → s.heap.get? b = some o → h'.get? b = some o) → Q none { s with heap := h' }) :
    wpAny (model prog w) A (pyNext (.ref z)) Q E s := by
  obtain ⟨hp, g, d, tk, os⟩ := s
  have hT : (⟨hp, g, d, tk, os⟩ : Shared).TypeIs (.ref z) "zip" := ⟨_, hz, rfl⟩
  unfold pyNext
  refine wpAny_bind (wpAny_attempt (wpAny_callSpecial?_slot (name := Str.ofString "__next__") hT F.slot_zip_next
    (wpAny_call_entry F.slot_zip_next hT F.entry_zip_next ?_ (F.args_zip_next_1 _))))
  show wpAny _ _ (field (.ref z) 2 >>= _) _ _ _
  refine wpAny_bind (wpAny_field hz rfl (x := .bool false) rfl ?_)
  show wpAny _ _ (field (.ref z) 3 >>= _) _ _ _
  refine wpAny_bind (wpAny_field hz rfl (x := .ref TI) rfl ?_)
  refine wpAny_bind (wpAny_seqItems hTI rfl ?_)
  show wpAny _ _ (Builtin.SmallTypes.ownedTupleIsFree (.ref z) >>= _) _ _ _
  unfold Builtin.SmallTypes.ownedTupleIsFree
  refine wpAny_bind (wpAny_bind (wpAny_field hz rfl (x := .none) rfl (wpAny_pure ?_)))
  simp only [if_true]
  refine wpAny_bind (wpAny_rule ?_)
  refine wpAny_bind (wpAny_field hz rfl (x := .ref TO) rfl ?_)
  refine wpAny_bind (wpAny_setField_rec hz (by simp) fun h₁ hz₁ s₁ => ?_)
  replace s₁ : Heap.SameBut z hp h₁ := s₁
  replace hz₁ : h₁.get? z = some { cls := .type "zip", data := .fields #[.ellipsis, .bool false, .bool false, .ref TI, .ref TO] } := hz₁
  have i1₁ := h1.extBut s₁.extBut D.i1z
  refine wpAny_bind (wpAny_bind (wpAny_bind (wpAny_onRaise ?_)))
  show wpAny _ _ (Builtin.SmallTypes.nextOf (.ref i1) >>= fun v => pure (some v)) _ _ _
  refine wpAny_bind (wpAny_nextOf_ascii_end hh i1₁ hx fun h₂ e s₂ he => ?_)
  replace s₂ : Heap.ExtBut i1 h₁ h₂ := s₂
  have hz₂ := s₂ _ _ D.i1z.symm hz₁
  refine wpAny_setField_rec hz₂ (by simp) fun h₃ hz₃ s₃ => ?_
  replace s₃ : Heap.SameBut z h₂ h₃ := s₃
  obtain ⟨o, ho, hc⟩ := he
  have ho : h₂.get? e = some o := ho
  have hez : e ≠ z := fun q => by rw [q, hz₂] at ho; cases ho; exact absurd (Value.type.inj hc) (by decide)
  refine wpAny_bind (wpAny_isInstance (T := "StopIteration") (b := true) ⟨o, s₃.extBut _ _ hez ho, hc⟩ isSubtype_stop ?_)
  exact wpAny_pure (hQ _ fun b o bz bT b1 b2 hb => s₃.extBut b o bz (s₂ b o b1 (s₁.extBut b o bz hb)))
def zipNewS (x : Str) (t : Tok) (l2 : Addr) (ys : Array Value) : PySem.Spec := fun A R s => (x.cps.all fun x => decide (x < 128)) = true ∧ s.heap.IsTuple l2 ys ∧ ∀ h', IsZip h' (s.heap.objs.size + 4) (s.heap.objs.size + 2) (s.heap.objs.size + 3) .none →
  IsPair h' (s.heap.objs.size + 2) (.ref s.heap.objs.size) (.ref (s.heap.objs.size + 1)) → IsPair h' (s.heap.objs.size + 3) .none .none → h'.IsStrIter s.heap.objs.size "str_ascii_iterator" x t 0 → h'.IsTupleIter (s.heap.objs.size + 1) l2 0 → h'.objs.size = s.heap.objs.size + 5 →
  (∀ b o, s.heap.get? b = some o → h'.get? b = some o) → R (.ok (.ret (.ref (s.heap.objs.size + 4)))) { s with heap := h' }
theorem zip_new_meets (x : Str) (t : Tok) (l2 : Addr) (ys : Array Value) : Meets (Builtin.«zip.__new__» ⟨[.type "zip", .str x t, .ref l2], []⟩) (zipNewS x t l2 ys) := .of_wp fun prog w A R s hs => by
  obtain ⟨hp, g, d, tk, os⟩ := s
  obtain ⟨ha, p2, hR⟩ := hs
  wp_walk
  rw [F.called_zip.sub]
  refine wpAny_pure ?_
  refine wpAny_pure ?_
  show wpAny _ _ (Builtin.SmallTypes.iterAll [.str x t, .ref l2] >>= _) _ _ _
  unfold Builtin.SmallTypes.iterAll
  refine wpAny_bind (wpAny_bind (wpAny_bind (wpAny_bind (wpAny_holding (wpAny_pyIter_ascii ha ?_)))))
  refine wpAny_pure ?_
  refine wpAny_bind (wpAny_bind (wpAny_holding (wpAny_pyIter_tuple (p2.push _) ?_)))
  refine wpAny_pure ?_
  refine wpAny_pure ?_
  refine wpAny_pure ?_
  refine wpAny_bind (wpAny_newTuple ?_ (by show 2 ≤ sizeLine; decide))
  refine wpAny_bind (wpAny_newTuple ?_ (by show 2 ≤ sizeLine; decide))
  refine wpAny_bind ?_
  show wpAny _ _ (newObj (.type "zip") (.fields #[.none, .bool false, .bool false, _, _])) _ _ _
  refine wpAny_newObj_type (T := "zip") ?_ (by simp [sizeOk]; decide)
  refine wpAny_pure ⟨_, rfl, ?_⟩
  have key := fun (a1 a2 a3 a4 a5 : Obj) => hR (((((hp.push a1).push a2).push a3).push a4).push a5)
  have g1 : ∀ (h : Heap) (o : Obj) (a : Nat), h.objs.size = a → o.isFreed = false → (h.push o).get? a = some o := fun h o a e ho => by rw [← e]; exact Heap.get?_push_size _ ho
  have kp : ∀ {h : Heap} {a : Nat} {o o' : Obj}, h.get? a = some o → (h.push o').get? a = some o := fun q => Heap.get?_push_of_some _ q
  simp only [Heap.size_push]
  refine key _ _ _ _ _ ?_ ?_ ?_ ?_ ?_ ?_ ?_
  · exact g1 _ _ _ (by simp only [Heap.size_push]) rfl
  · exact kp (kp (g1 _ _ _ (by simp only [Heap.size_push]) rfl))
  · exact kp (g1 _ _ _ (by simp only [Heap.size_push]) rfl)
  · exact ⟨_, kp (kp (kp (kp (g1 _ _ _ rfl rfl)))), rfl, rfl⟩
  · exact ⟨_, kp (kp (kp (g1 _ _ _ (by simp only [Heap.size_push]) rfl))), rfl, rfl⟩
  · simp only [Heap.size_push]
  · exact fun b o q => kp (kp (kp (kp (kp q))))
end
theorem call_zipS {prog : Program} {w : World} {A : Around} {E : Value → Shared → Prop} {s : Shared} {x : Str} {t : Tok} {l2 : Addr} {ys : Array Value} {Q : Value → Shared → Prop} (ha : (x.cps.all fun x => decide (x < 128)) = true) (p2 : s.heap.IsTuple l2 ys)
    (hQ : ∀ h', IsZip h' (s.heap.objs.size + 4) (s.heap.objs.size + 2) (s.heap.objs.size + 3) .none → IsPair h' (s.heap.objs.size + 2) (.ref s.heap.objs.size) (.ref (s.heap.objs.size + 1)) → IsPair h' (s.heap.objs.size + 3) .none .none → h'.IsStrIter s.heap.objs.size "str_ascii_iterator" x t 0 → h'.IsTupleIter (s.heap.objs.size + 1) l2 0 → h'.objs.size = s.heap.objs.size + 5 →
      (∀ b o, s.heap.get? b = some o → h'.get? b = some o) → Q (.ref (s.heap.objs.size + 4)) { s with heap := h' }) : wpAny (model prog w) A (call (.type "zip") [.str x t, .ref l2]) Q E s := by
  refine callType_new F.called_zip (by decide) (F.typeCall_zip_2 _ _) (F.newCall_zip_2 _ _) (fun obj => F.args_object_init_3 _ _ _) F.entry_zip_new (zip_new_meets x t l2 ys) ⟨ha, p2, fun h' h1 h2 h3 h4 h5 h6 h7 => ⟨⟨_, h1, rfl⟩, hQ h' h1 h2 h3 h4 h5 h6 h7⟩⟩
def ItzS (K : PySem.W.Frag) (x : Str) (b : Addr) : It :=
  ⟨fun i H => ∃ (ys : List V) (y : V), SqT K H b ys ∧ i < x.cps.size ∧ ys[i]? = some y,
    fun i H v H' => ∃ T c y, v = .ref T ∧ H T = none ∧ H' = upd H T (.tup [.str ⟨#[c]⟩, y]) ∧ x.cps[i]? = some c ∧ ∀ ys, SqT K H b ys → ys[i]? = some y,
    fun i H => x.cps.size ≤ i⟩
theorem turn_zipS {P : Program} {w : World} {K : PySem.W.Frag} {elts : List Expr} {kk : Nat} {tpos : Pos} {x : Str} {t : Tok} {b z TI TO i1 i2 : Addr} (D : ZipApart z TI TO i1 i2 b b) :
    Turn P w K (.Tuple elts kk tpos) (ItzS K x b) [z, TI, TO, i1, i2] z (fun i h => IsZip h z TI TO .none ∧ IsPair h TI (.ref i1) (.ref i2) ∧ (∃ x y, IsPair h TO x y) ∧ h.IsStrIter i1 "str_ascii_iterator" x t i ∧ h.IsTupleIter i2 b i) where
  mem := by simp
  obj := fun i h st c hc => by
    obtain ⟨hz, hTI, ⟨x, y, hTO⟩, ⟨o1, e1, _, d1⟩, ⟨o2, e2, _, d2⟩⟩ := st
    have e' : c = z ∨ c = TI ∨ c = TO ∨ c = i1 ∨ c = i2 := by simpa using hc
    rcases e' with q | q | q | q | q
    · rw [q]; exact ⟨_, hz, fun v q => nomatch q⟩
    · rw [q]; exact ⟨_, hTI, fun v q => nomatch q⟩
    · rw [q]; exact ⟨_, hTO, fun v q => nomatch q⟩
    · rw [q]; exact ⟨o1, e1, fun v q => by rw [d1] at q; cases q⟩
    · rw [q]; exact ⟨o2, e2, fun v q => by rw [d2] at q; cases q⟩
  keep := fun i h h' st k => by
    obtain ⟨hz, hTI, ⟨x, y, hTO⟩, ⟨o1, e1, r1⟩, h2⟩ := st
    exact ⟨k z (by simp) _ hz, k TI (by simp) _ hTI, ⟨x, y, k TO (by simp) _ hTO⟩, ⟨o1, k i1 (by simp) o1 e1, r1⟩, h2.at fun o q => k i2 (by simp) o q⟩
  item := by
    intro X hP hw hK hc i pins s σ H E I hf st hg
    subst hP hw hK
    obtain ⟨hz, hTI, ⟨x0, y0, hTO⟩, h1, h2⟩ := st
    obtain ⟨ys, y, hqy, hix, hy⟩ := hg
    obtain ⟨its2, rv2, p2, _⟩ := I.tuple hqy
    obtain ⟨u2, hu2, ru2⟩ := rv2.get hy
    have hx : x.cps[i]? = some x.cps[i] := Array.getElem?_eq_getElem hix
    generalize x.cps[i] = c at hx
    have hzl : z < s.heap.objs.size := Heap.lt_size hz
    refine zipS_pyNext D hz hTI hTO h1 h2 (show s.heap.IsTuple b its2.toArray from p2) hx (y := u2) (by simpa using hu2) fun h' z' TO' h1' h2' hT hsz hk => ?_
    refine ⟨_, rfl, wpAny_letOwnedTupleGo_zip (s := { s with heap := h', toks := s.toks + 1 }) z' fun h'' z'' sb => ?_⟩
    have hT2 : h''.get? s.heap.objs.size = some { cls := .type "tuple", data := .seq #[.str ⟨#[c]⟩ s.toks, u2] } := (sb.2 _ (Nat.ne_of_gt hzl)).trans hT
    have new : ObjOk X.prog X.w (upd H s.heap.objs.size (.tup [.str ⟨#[c]⟩, y])) h'' s.heap.objs.size (.tup [.str ⟨#[c]⟩, y]) :=
      ⟨by show 2 ≤ sizeLine; decide, [.str ⟨#[c]⟩ s.toks, u2], .cons ⟨_, rfl⟩ (.cons ru2 .nil), ⟨_, hT2, rfl, _, rfl⟩⟩
    have I1 : Inv X pins σ (upd H s.heap.objs.size (.tup [.str ⟨#[c]⟩, y])) { s with heap := h'', toks := s.toks + 1 } :=
      I.turnedNew (t' := s.toks + 1) (ch := [z, TI, TO, i1, i2]) (fun c o hb q => (sb.2 c (fun q' => hb (by simp [q']))).trans (hk c o (fun q' => hb (by simp [q'])) (fun q' => hb (by simp [q'])) (fun q' => hb (by simp [q'])) (fun q' => hb (by simp [q'])) q)) hf (Nat.le_refl _) new
    refine ⟨.ref s.heap.objs.size, _, I1, rfl, ⟨_, c, y, rfl, I.hok.fresh (Nat.le_refl _), rfl, hx, fun l hl => by rw [I.tuple_inj hl hqy]; exact hy⟩, ⟨z'', ?_, ⟨.str ⟨#[c]⟩ s.toks, u2, ?_⟩, ?_, ?_⟩, fun c hcm => ?_⟩
    · exact (sb.2 _ D.TIz).trans (hk _ _ D.TIz D.TITO D.TIi1 D.TIi2 hTI)
    · exact (sb.2 _ D.TOz).trans TO'
    · obtain ⟨o1, e1, r1⟩ := h1'; exact ⟨o1, (sb.2 _ D.i1z).trans e1, r1⟩
    · exact h2'.at fun o q => (sb.2 _ D.i2z).trans q
    · have hlt : c < s.heap.objs.size := by
        have e' : c = z ∨ c = TI ∨ c = TO ∨ c = i1 ∨ c = i2 := by simpa using hcm
        rcases e' with q | q | q | q | q
        · rw [q]; exact hzl
        · rw [q]; exact Heap.lt_size hTI
        · rw [q]; exact Heap.lt_size hTO
        · rw [q]; obtain ⟨_, e1, _⟩ := h1; exact Heap.lt_size e1
        · rw [q]; obtain ⟨_, e2, _⟩ := h2; exact Heap.lt_size e2
      rw [upd_ne (Nat.ne_of_lt hlt)]
      exact (hf c hcm).1
  done := by
    intro X hP hw hK hc i pins s σ H E I hf st hg
    subst hP hw hK
    obtain ⟨hz, hTI, ⟨x0, y0, hTO⟩, h1, h2⟩ := st
    exact zipS_end (I.ok.hd hc) D hz hTI hTO h1 (Array.getElem?_eq_none hg) fun h' hk => ⟨rfl, I.turnedL (t' := s.toks) (ch := [z, TI, TO, i1, i2]) (fun c o hb q =>
      hk c o (fun q' => hb (by simp [q'])) (fun q' => hb (by simp [q'])) (fun q' => hb (by simp [q'])) (fun q' => hb (by simp [q'])) q) hf⟩
  self := fun A i s Q E st h => wpAny_pyIter_zip st.1 h
def iZipS (K : PySem.W.Frag) (ta : TA) : TI := fun σ H R => ta σ H fun vs H1 => ∃ x b ys, vs = [.str x, .ref b] ∧ (x.cps.all fun x => decide (x < 128)) = true ∧ SqT K H1 b ys ∧ R (ItzS K x b) H1
theorem pi_zipS {X : Cx} {e e2 : Expr} {ta : TA} {p pos tpos : Pos} {elts : List Expr} {kk : Nat} (hg : Gl X "zip") (hm : X.mg "zip" = none) (ha : PA X [e, e2] ta)
    (hs : starEach [e, e2] X.env = (false, eval e X.env) :: starEach [e2] X.env := by rfl) (hpl : (backTo pos (starEach [e2] X.env)).any (·.1) = false := by rfl) :
    PI X (.Tuple elts kk tpos) (.Call (.Name "zip" p) [e, e2] [] pos) (iZipS X.K ta) := by
  intro pins s σ H R I h
  refine Call_ (ld_blt I hg hm boot_zip5 (PyProof.Rows.callWith_type1 (thn (ha pos pins s σ H _ I h) fun us s1 ⟨vs, H1, I1, r1, q1⟩ => ?_) hs hpl))
  obtain ⟨x, b, ys, ex, hasc, hqy, q⟩ := q1
  subst ex
  cases r1 with
  | cons r rr =>
    cases rr with
    | cons r' rr =>
      cases rr
      obtain ⟨t, rfl⟩ := r
      cases r'
      obtain ⟨its2, rv2, p2, _⟩ := I1.tuple hqy
      have lb : b < s1.heap.objs.size := by obtain ⟨o, ho, _⟩ := (show s1.heap.IsTuple b its2.toArray from p2); exact Heap.lt_size ho
      refine call_zipS hasc (show s1.heap.IsTuple b its2.toArray from p2) fun h' hz hTI hTO h1 h2 hsz hk => wpAny_pyIter_zip hz ?_
      have I2 : Inv X pins σ H1 { s1 with heap := h' } := I1.kept (t' := s1.toks) hk
      refine ⟨s1.heap.objs.size + 4, [s1.heap.objs.size + 4, s1.heap.objs.size + 2, s1.heap.objs.size + 3, s1.heap.objs.size, s1.heap.objs.size + 1], _, _, H1, rfl, I2, turn_zipS (t := t) (PySem.W.ktu_apart s1.heap.objs.size b b lb lb), ⟨hz, hTI, ⟨_, _, hTO⟩, h1, h2⟩, fun c hcm => ?_, q⟩
      have e' : c = s1.heap.objs.size + 4 ∨ c = s1.heap.objs.size + 2 ∨ c = s1.heap.objs.size + 3 ∨ c = s1.heap.objs.size ∨ c = s1.heap.objs.size + 1 := by simpa using hcm
      have hle : s1.heap.objs.size ≤ c := by
        rcases e' with z | z | z | z | z
        · rw [z]; exact Nat.le_add_right _ _
        · rw [z]; exact Nat.le_add_right _ _
        · rw [z]; exact Nat.le_add_right _ _
        · rw [z]; exact Nat.le_refl _
        · rw [z]; exact Nat.le_add_right _ _
      exact I1.fpOk hle (I1.hok.fresh hle)
section
variable {T : Tb}
def zipSD (x : Str) (es : List D) : List D := ((signs x).zip es).map fun e => .tup [e.1, e.2]
def wZipS (w : WA) : WI := fun ρ Q => w ρ fun os ρ1 => pUses ρ1 os fun ds ρ2 => match ds with
  | [.str x, .tup es] => (x.cps.all fun x => decide (x < 128)) = true ∧ x.cps.size ≤ es.length ∧ Q (zipSD x es) ρ2
  | _ => False
theorem it_zipS {F : Hp} {x : Str} {l2 : Addr} {us : List V} {es : List D} {K : PySem.W.Frag} (hl : x.cps.size ≤ es.length) (h2 : F l2 = some (.tup us)) (r2 : Reps T.mg F us es) : ItOk T F (ItzS K x l2) (zipSD x es) where
  go := fun R m i hi => by
    unfold zipSD signs at hi
    rw [List.length_map, List.length_zip, List.length_map, Array.length_toList] at hi
    have hl2 : i < us.length := by rw [r2.length]; omega
    exact ⟨us, us[i], .inl (.inl (R.sub _ _ (m _ _ h2))), by omega, by simp [hl2]⟩
  yld := fun {J ρ σ H F'} R m i v H' y d hd => by
    obtain ⟨p, c, u2, rfl, hp, rfl, hc, y2⟩ := y
    obtain ⟨d2, e2, r3⟩ := r2.get (y2 us (.inl (.inl (R.sub _ _ (m _ _ h2)))))
    have ed : d = .tup [.str ⟨#[c]⟩, d2] := by
      unfold zipSD signs at hd
      have e1 : (x.cps.toList.map fun c => D.str ⟨#[c]⟩)[i]? = some (.str ⟨#[c]⟩) := by rw [List.getElem?_map, Array.getElem?_toList, hc]; rfl
      have hz : ((x.cps.toList.map fun c => D.str ⟨#[c]⟩).zip es)[i]? = some (.str ⟨#[c]⟩, d2) := List.getElem?_zip_eq_some.mpr ⟨e1, e2⟩
      rw [List.getElem?_map] at hd
      rw [show ((List.map (fun c => D.str { cps := #[c] }) x.cps.toList).zip es)[i]? = some (.str ⟨#[c]⟩, d2) from hz] at hd
      exact (Option.some.inj hd).symm
    subst ed
    exact ⟨_, HLe.upd (R.fp hp), R.alloc (o := .tup [.str ⟨#[c]⟩, u2]) hp (fun _ z => nomatch z), Rep.tup upd_same (.cons (.str _) (.cons ((r3.mono m).mono (HLe.upd (R.fp hp))) .nil))⟩
  stop := fun R m => by
    show x.cps.size ≤ (zipSD x es).length
    unfold zipSD signs
    rw [List.length_map, List.length_zip, List.length_map, Array.length_toList]
    omega
variable {k : Nat} {P : Pt} {N : List Str} {sc : Scope} {a b : Expr} {pos : Pos}
theorem vi_zipS {n kk : Nat} {w : WA} {p' tpos : Pos} {elts : List Expr} (hm : T.mg "zip" = none) (ha : VAn T k P N sc n [a, b] w) (hg : sc.names.lookup ("zip" : Str) = some .globalImplicit := by rfl) (hs : ∀ env, starEach [a, b] env = (false, eval a env) :: starEach [b] env := by intro _; rfl) (hpl : ∀ env, (backTo pos (starEach [b] env)).any (·.1) = false := by intro _; rfl) : VI T k P N sc (.Tuple elts kk tpos) (.Call (.Name "zip" p') [a, b] [] pos) (wZipS w) :=
  ⟨fun X J G => (pi_zipS (G.gl hg) (by rw [G.mg]; exact hm) (ha.of X J G) (hs X.env) (hpl X.env)).imp fun σ H Q => by
    rintro ⟨ρ, F, Q', R, q, z⟩
    refine ⟨ρ, F, _, R, q, fun vs H1 F1 os ρ1 hl R1 m1 hos q1 => ?_⟩
    obtain ⟨ds, ρ2, F2, h2, R2, m2, rs⟩ := uses_ok R1 hos q1
    split at h2
    · obtain ⟨h3, h4, h5⟩ := h2
      cases rs with
      | cons r rs =>
        cases rs with
        | cons r' rs =>
          cases rs
          cases r
          cases r' with
          | tup h' r' => exact ⟨_, _, _, rfl, h3, .inl (.inl (R2.sub _ _ h')), z _ H1 F2 _ ρ2 R2 (m1.trans m2) (it_zipS h4 h' r') h5⟩
    · exact h2.elim⟩
end
end L2
namespace Law
open PySem PySem.Spec PyProof.Rows L2
def top (i : Nat) : Stmt := (PySem.Challenge.pw_tierounds_k55_turns_and_rules_written.main.body)[i]?.getD (.Pass ⟨0, 0, 0, 0⟩)
structure Zs (T : Tb) : Prop where
  sm : ∃ o, T.base.get? sysModules = some o
  b_all : T.mg "all" = none
  b_bool : T.mg "bool" = none
  b_int : T.mg "int" = none
  b_isinstance : T.mg "isinstance" = none
  b_len : T.mg "len" = none
  b_list : T.mg "list" = none
  b_range : T.mg "range" = none
  b_str : T.mg "str" = none
  b_tuple : T.mg "tuple" = none
  b_zip : T.mg "zip" = none
  c_FIGURES : ∃ t, T.mg "FIGURES" = some (.str "0123456789" t)
  c_MOST_RULES : ∃ t, T.mg "MOST_RULES" = some (.int 40 t)
abbrev s_is_whole : Stmt := top 6
abbrev N_is_whole : List Str := ["thing"]
theorem sc_is_whole : FnScope N_is_whole ["thing"] (defScope s_is_whole) := ⟨rfl, rfl, rfl, by decide +kernel, rfl, by decide +kernel, by decide +kernel⟩
abbrev s_is_from_0 : Stmt := top 7
abbrev N_is_from_0 : List Str := ["thing"]
theorem sc_is_from_0 : FnScope N_is_from_0 ["thing"] (defScope s_is_from_0) := ⟨rfl, rfl, rfl, by decide +kernel, rfl, by decide +kernel, by decide +kernel⟩
abbrev s_is_rule : Stmt := top 10
abbrev N_is_rule : List Str := ["thing", "number"]
theorem sc_is_rule : FnScope N_is_rule ["thing"] (defScope s_is_rule) := ⟨rfl, rfl, rfl, by decide +kernel, rfl, by decide +kernel, by decide +kernel⟩
abbrev s_are_of_a_kind : Stmt := top 11
abbrev N_are_of_a_kind : List Str := ["thing", "rule"]
theorem sc_are_of_a_kind : FnScope N_are_of_a_kind ["thing"] (defScope s_are_of_a_kind) := ⟨rfl, rfl, rfl, by decide +kernel, rfl, by decide +kernel, by decide +kernel⟩
abbrev s_look_like_rules : Stmt := top 12
abbrev N_look_like_rules : List Str := ["thing", "part"]
theorem sc_look_like_rules : FnScope N_look_like_rules ["thing"] (defScope s_look_like_rules) := ⟨rfl, rfl, rfl, by decide +kernel, rfl, by decide +kernel, by decide +kernel⟩
abbrev s_text_of_words : Stmt := top 15
abbrev N_text_of_words : List Str := ["words"]
theorem sc_text_of_words : FnScope N_text_of_words ["words"] (defScope s_text_of_words) := ⟨rfl, rfl, rfl, by decide +kernel, rfl, by decide +kernel, by decide +kernel⟩
abbrev s_turn_text : Stmt := top 16
abbrev N_turn_text : List Str := ["turn", "i", "j", "k", "l", "bound"]
theorem sc_turn_text : FnScope N_turn_text ["turn"] (defScope s_turn_text) := ⟨rfl, rfl, rfl, by decide +kernel, rfl, by decide +kernel, by decide +kernel⟩
abbrev s_rules_text : Stmt := top 17
abbrev N_rules_text : List Str := ["rules", "held", "barred", "a", "b"]
theorem sc_rules_text : FnScope N_rules_text ["rules"] (defScope s_rules_text) := ⟨rfl, rfl, rfl, by decide +kernel, rfl, by decide +kernel, by decide +kernel⟩
abbrev s_is_number_word : Stmt := top 18
abbrev N_is_number_word : List Str := ["word", "sign"]
theorem sc_is_number_word : FnScope N_is_number_word ["word"] (defScope s_is_number_word) := ⟨rfl, rfl, rfl, by decide +kernel, rfl, by decide +kernel, by decide +kernel⟩
abbrev s_read_number : Stmt := top 19
abbrev N_read_number : List Str := ["word", "number", "sign"]
theorem sc_read_number : FnScope N_read_number ["word"] (defScope s_read_number) := ⟨rfl, rfl, rfl, by decide +kernel, rfl, by decide +kernel, by decide +kernel⟩
abbrev s_read_pair : Stmt := top 20
abbrev N_read_pair : List Str := ["word", "between", "parts"]
theorem sc_read_pair : FnScope N_read_pair ["word", "between"] (defScope s_read_pair) := ⟨rfl, rfl, rfl, by decide +kernel, rfl, by decide +kernel, by decide +kernel⟩
abbrev s_words_of : Stmt := top 21
abbrev N_words_of : List Str := ["text"]
theorem sc_words_of : FnScope N_words_of ["text"] (defScope s_words_of) := ⟨rfl, rfl, rfl, by decide +kernel, rfl, by decide +kernel, by decide +kernel⟩
abbrev s_words_or_none : Stmt := top 22
abbrev N_words_or_none : List Str := ["text", "words"]
theorem sc_words_or_none : FnScope N_words_or_none ["text"] (defScope s_words_or_none) := ⟨rfl, rfl, rfl, by decide +kernel, rfl, by decide +kernel, by decide +kernel⟩
abbrev s_read_turn : Stmt := top 23
abbrev N_read_turn : List Str := ["text", "words"]
theorem sc_read_turn : FnScope N_read_turn ["text"] (defScope s_read_turn) := ⟨rfl, rfl, rfl, by decide +kernel, rfl, by decide +kernel, by decide +kernel⟩
abbrev s_read_rules : Stmt := top 24
abbrev N_read_rules : List Str := ["text", "words", "held", "barred", "rules", "word"]
theorem sc_read_rules : FnScope N_read_rules ["text"] (defScope s_read_rules) := ⟨rfl, rfl, rfl, by decide +kernel, rfl, by decide +kernel, by decide +kernel⟩
abbrev s__law_well : Stmt := top 26
abbrev N__law_well : List Str := ["cell"]
theorem sc__law_well : FnScope N__law_well ["cell"] (defScope s__law_well) := ⟨rfl, rfl, rfl, by decide +kernel, rfl, by decide +kernel, by decide +kernel⟩
abbrev s__law_draw : Stmt := top 27
abbrev N__law_draw : List Str := ["well", "many", "stirred", "got"]
theorem sc__law_draw : FnScope N__law_draw ["well", "many"] (defScope s__law_draw) := ⟨rfl, rfl, rfl, by decide +kernel, rfl, by decide +kernel, by decide +kernel⟩
abbrev s__law_some_number : Stmt := top 28
abbrev N__law_some_number : List Str := ["well", "some"]
theorem sc__law_some_number : FnScope N__law_some_number ["well"] (defScope s__law_some_number) := ⟨rfl, rfl, rfl, by decide +kernel, rfl, by decide +kernel, by decide +kernel⟩
abbrev s__law_rules : Stmt := top 30
abbrev N__law_rules : List Str := ["well", "found", "k", "many", "some", "turn"]
theorem sc__law_rules : FnScope N__law_rules ["well"] (defScope s__law_rules) := ⟨rfl, rfl, rfl, by decide +kernel, rfl, by decide +kernel, by decide +kernel⟩
abbrev s__law_figures : Stmt := top 31
abbrev N__law_figures : List Str := ["number", "text", "left"]
theorem sc__law_figures : FnScope N__law_figures ["number"] (defScope s__law_figures) := ⟨rfl, rfl, rfl, by decide +kernel, rfl, by decide +kernel, by decide +kernel⟩
abbrev s__law_turn_written : Stmt := top 32
abbrev N__law_turn_written : List Str := ["turn", "i", "j", "k", "m", "number"]
theorem sc__law_turn_written : FnScope N__law_turn_written ["turn"] (defScope s__law_turn_written) := ⟨rfl, rfl, rfl, by decide +kernel, rfl, by decide +kernel, by decide +kernel⟩
abbrev s__law_rules_written : Stmt := top 33
abbrev N__law_rules_written : List Str := ["rules", "words", "sign", "some", "a", "b"]
theorem sc__law_rules_written : FnScope N__law_rules_written ["rules"] (defScope s__law_rules_written) := ⟨rfl, rfl, rfl, by decide +kernel, rfl, by decide +kernel, by decide +kernel⟩
abbrev s__law_same : Stmt := top 34
abbrev N__law_same : List Str := ["found", "due", "k"]
theorem sc__law_same : FnScope N__law_same ["found", "due"] (defScope s__law_same) := ⟨rfl, rfl, rfl, by decide +kernel, rfl, by decide +kernel, by decide +kernel⟩
abbrev s__law_rules_right : Stmt := top 35
abbrev N__law_rules_right : List Str := ["rules", "due", "handed", "turn", "text", "found"]
theorem sc__law_rules_right : FnScope N__law_rules_right ["rules"] (defScope s__law_rules_right) := ⟨rfl, rfl, rfl, by decide +kernel, rfl, by decide +kernel, by decide +kernel⟩
abbrev s_law : Stmt := top 36
abbrev N_law : List Str := ["script", "cell", "well", "turn", "due", "again", "text", "k"]
theorem sc_law : FnScope N_law ["script"] (defScope s_law) := ⟨rfl, rfl, rfl, by decide +kernel, rfl, by decide +kernel, by decide +kernel⟩
def sp_is_whole : FS := fun ds κ => ∃ d, ds = [d] ∧ plain d = true ∧ κ (.sh (.bl (isWholeD d))) .non
def sp_is_from_0 : FS := fun ds κ => ∃ d, ds = [d] ∧ plain d = true ∧ κ (.sh (.bl (isFrom0 d))) .non
abbrev fe_is_whole : Fe := ⟨false, sp_is_whole⟩
abbrev fe_is_from_0 : Fe := ⟨false, sp_is_from_0⟩
def WellT (w : D) : Prop := ∃ a b : Int, w = .lst [.int a, .int b] ∧ 0 ≤ a ∧ 0 ≤ b ∧ b < 2147483629
def sp__law_well : FS := fun ds κ => ∃ c : Int, ds = [.int c] ∧ ∀ w, WellT w → κ (.ow w) .non
def sp__law_draw : FS := fun ds κ => ∃ (w : D) (m : Int), ds = [w, .int m] ∧ (WellT w ∧ 0 < m ∧ m < 2 ^ 30) ∧ ∀ (r : Int) (w' : D), 0 ≤ r → r < m → WellT w' → κ (.sh (.int r)) w'
abbrev fe__law_well : Fe := ⟨false, sp__law_well⟩
abbrev fe__law_draw : Fe := ⟨true, sp__law_draw⟩
def wordsN (x : Str) : List Str := if Txt.split x (one 32) = [("-" : Str)] then [] else Txt.split x (one 32)
def sp_text_of_words : FS := fun ds κ => ∃ (ws : List Str), ds = [.lst (ws.map D.str)] ∧ (ws.length ≤ 100 ∧ ∀ w ∈ ws, w.length ≤ 100) ∧ κ (.sh (.str (if ws.isEmpty then ("-" : Str) else Txt.join (one 32) ws))) .non
def sp_is_number_word : FS := fun ds κ => ∃ (i : Int), ds = [.str (fig i)] ∧ (0 ≤ i ∧ i < 10 ^ 41) ∧ κ (.sh (.bl true)) .non
def sp_read_number : FS := fun ds κ => ∃ (i : Int), ds = [.str (fig i)] ∧ (0 ≤ i ∧ i < 10 ^ 41) ∧ κ (.sh (.int i)) .non
def sp_read_pair : FS := fun ds κ => ∃ (c : Nat) (a b : Int), ds = [.str (pairW c a b), .str (one c)] ∧ ((c < 48 ∨ 57 < c) ∧ (0 ≤ a ∧ a < 10 ^ 41) ∧ (0 ≤ b ∧ b < 10 ^ 41)) ∧ κ (.sh (.tup [.int a, .int b])) .non
def sp_words_of : FS := fun ds κ => ∃ (x : Str), ds = [.str x] ∧ x.length ≤ 10000 ∧ κ (.ow (.lst ((Txt.split x (one 32)).map D.str))) .non
def Signs (x : Str) : Prop := ∀ c ∈ x.cps.toList, c < 1114112
def sp_words_or_none : FS := fun ds κ => ∃ (x : Str), ds = [.str x] ∧ (x.length ≤ 10000 ∧ ∀ y ∈ Txt.split x (one 32), Signs y) ∧ κ (.ow (.lst ((wordsN x).map D.str))) .non
def sp__law_some_number : FS := fun ds κ => ∃ (w : D), ds = [w] ∧ WellT w ∧ ∀ (i : Int) (w' : D), 0 ≤ i → i < 10 ^ 40 → WellT w' → κ (.sh (.int i)) w'
abbrev fe_text_of_words : Fe := ⟨false, sp_text_of_words⟩
abbrev fe_is_number_word : Fe := ⟨false, sp_is_number_word⟩
abbrev fe_read_number : Fe := ⟨false, sp_read_number⟩
abbrev fe_read_pair : Fe := ⟨false, sp_read_pair⟩
abbrev fe_words_of : Fe := ⟨false, sp_words_of⟩
abbrev fe_words_or_none : Fe := ⟨false, sp_words_or_none⟩
abbrev fe__law_some_number : Fe := ⟨true, sp__law_some_number⟩
def isRule : D → Bool
  | .tup [a, b] => isFrom0 a && isFrom0 b
  | _ => false
def isKind : D → Bool
  | .lst xs => decide (xs.length ≤ 40) && xs.all isRule
  | _ => false
def looksD : D → Bool
  | .tup [a, b] => isKind a && isKind b
  | _ => false
def isTurnN : D → Bool
  | .tup xs => decide (xs.length = 4) && xs.all isFrom0
  | _ => false
def ruD (e : Int × Int) : D := .tup [.int e.1, .int e.2]
abbrev rulesD (hs bs : List (Int × Int)) : D := .tup [.lst (hs.map ruD), .lst (bs.map ruD)]
abbrev turnD4 (i j k l : Int) : D := .tup [.int i, .int j, .int k, .int l]
def BdT (i : Int) : Prop := 0 ≤ i ∧ i < 10 ^ 41
def RulesW (hs bs : List (Int × Int)) : Prop := (hs.length ≤ 40 ∧ bs.length ≤ 40) ∧ (∀ e ∈ hs, BdT e.1 ∧ BdT e.2) ∧ ∀ e ∈ bs, BdT e.1 ∧ BdT e.2
def ruleWs (hs bs : List (Int × Int)) : List Str := (hs.map fun e => pairW 43 e.1 e.2) ++ (bs.map fun e => pairW 33 e.1 e.2)
def rulesW (hs bs : List (Int × Int)) : Str := if (ruleWs hs bs).isEmpty then ("-" : Str) else Txt.join (one 32) (ruleWs hs bs)
def turnW (i j k l : Int) : Str := pairW 45 i j ++ one 32 ++ pairW 45 k l
def B40 (i : Int) : Prop := 0 ≤ i ∧ i < 10 ^ 40
def Rules40 (hs bs : List (Int × Int)) : Prop := (hs.length ≤ 40 ∧ bs.length ≤ 40) ∧ (∀ e ∈ hs, B40 e.1 ∧ B40 e.2) ∧ ∀ e ∈ bs, B40 e.1 ∧ B40 e.2
inductive Sm : Nat → D → Prop where
  | num {d : Nat} (i : Int) : Sm d (.int i)
  | lst {d : Nat} {xs : List D} (hl : xs.length < 1000) (h : ∀ x ∈ xs, Sm d x) : Sm (d + 1) (.lst xs)
  | tup {d : Nat} {xs : List D} (hl : xs.length < 1000) (h : ∀ x ∈ xs, Sm d x) : Sm (d + 1) (.tup xs)
def sp_is_rule : FS := fun ds κ => ∃ d, ds = [d] ∧ L2.plain d = true ∧ κ (.sh (.bl (isRule d))) .non
def sp_are_of_a_kind : FS := fun ds κ => ∃ d, ds = [d] ∧ L2.plain d = true ∧ κ (.sh (.bl (isKind d))) .non
def sp_look_like_rules : FS := fun ds κ => ∃ d, ds = [d] ∧ L2.plain d = true ∧ κ (.sh (.bl (looksD d))) .non
def sp_turn_text : FS := fun ds κ => ∃ (i j k l : Int), ds = [turnD4 i j k l] ∧ ((BdT i ∧ BdT j) ∧ BdT k ∧ BdT l) ∧ κ (.sh (.str (turnW i j k l))) .non
def sp_rules_text : FS := fun ds κ => ∃ (hs bs : List (Int × Int)), ds = [rulesD hs bs] ∧ RulesW hs bs ∧ κ (.sh (.str (rulesW hs bs))) .non
def sp_read_turn : FS := fun ds κ => ∃ (i j k l : Int), ds = [.str (turnW i j k l)] ∧ ((BdT i ∧ BdT j) ∧ BdT k ∧ BdT l) ∧ κ (.sh (turnD4 i j k l)) .non
def sp_read_rules : FS := fun ds κ => ∃ (hs bs : List (Int × Int)), ds = [.str (rulesW hs bs)] ∧ RulesW hs bs ∧ κ (.mu (rulesD hs bs)) .non
def sp__law_rules : FS := fun ds κ => ∃ (w : D), ds = [w] ∧ WellT w ∧ ∀ (hs bs : List (Int × Int)) (w' : D), Rules40 hs bs → WellT w' → κ (.sh (rulesD hs bs)) w'
abbrev fe_is_rule : Fe := ⟨false, sp_is_rule⟩
abbrev fe_are_of_a_kind : Fe := ⟨false, sp_are_of_a_kind⟩
abbrev fe_look_like_rules : Fe := ⟨false, sp_look_like_rules⟩
abbrev fe_turn_text : Fe := ⟨false, sp_turn_text⟩
abbrev fe_rules_text : Fe := ⟨false, sp_rules_text⟩
abbrev fe_read_turn : Fe := ⟨false, sp_read_turn⟩
abbrev fe_read_rules : Fe := ⟨false, sp_read_rules⟩
abbrev fe__law_rules : Fe := ⟨true, sp__law_rules⟩
def sp__law_same : Nat → FS := fun d ds κ => ∃ (x : D), ds = [x, x] ∧ Sm d x ∧ κ (.sh (.bl true)) .non
def sp__law_figures : FS := fun ds κ => ∃ (i : Int), ds = [.int i] ∧ (0 ≤ i ∧ i < 10 ^ 41) ∧ κ (.sh (.str (fig i))) .non
def sp__law_turn_written : FS := sp_turn_text
def sp__law_rules_written : FS := sp_rules_text
def sp__law_rules_right : FS := fun ds κ => ∃ (hs bs : List (Int × Int)), ds = [rulesD hs bs] ∧ RulesW hs bs ∧ κ (.sh (.bl true)) .non
def sp_law : FS := fsLaw 63
abbrev fe__law_same : Fe := ⟨false, sp__law_same 3⟩
abbrev fe__law_figures : Fe := ⟨false, sp__law_figures⟩
abbrev fe__law_turn_written : Fe := ⟨false, sp__law_turn_written⟩
abbrev fe__law_rules_written : Fe := ⟨false, sp__law_rules_written⟩
abbrev fe__law_rules_right : Fe := ⟨false, sp__law_rules_right⟩
def w_is_whole_s0 : WS := (wRet (wEO (wAndV (wIsi "int" (wVar 0)) (wNotV (wIsi "bool" (wVar 0))))))
def w_is_whole_r0 : WS := w_is_whole_s0
def w_is_whole : WS := w_is_whole_r0
theorem b'_is_whole {T : Tb} (Z : Zs T)  : VSs T 0 ⟨none, fun _ => true⟩ N_is_whole (defScope s_is_whole) (defBody s_is_whole) ((wRet (wEO (wAndV (wIsi "int" (wVar 0)) (wNotV (wIsi "bool" (wVar 0))))))) :=
  (vss_one (vs_ret (VE.o (ve_and (ve_isi (ve_var 0) Z.b_isinstance Z.b_int (by decide +kernel)) (ve_one (ve_not (ve_isi (ve_var 0) Z.b_isinstance Z.b_bool (by decide +kernel))))))))
theorem b_is_whole {T : Tb} (Z : Zs T)  : VSs T 0 ⟨none, fun _ => true⟩ N_is_whole (defScope s_is_whole) (defBody s_is_whole) w_is_whole := b'_is_whole Z
def w_is_from_0_s0 : WS := (wRet (wEO (wAndV (wCall fe_is_whole (wCons (wVar 0) wNil)) (wBin pGe (wVar 0) (wC (.int 0))))))
def w_is_from_0_r0 : WS := w_is_from_0_s0
def w_is_from_0 : WS := w_is_from_0_r0
theorem b'_is_from_0 {T : Tb} (Z : Zs T) (F_is_whole : Fok T "is_whole" 1 1 fe_is_whole) : VSs T 1 ⟨none, fun _ => true⟩ N_is_from_0 (defScope s_is_from_0) (defBody s_is_from_0) ((wRet (wEO (wAndV (wCall fe_is_whole (wCons (wVar 0) wNil)) (wBin pGe (wVar 0) (wC (.int 0))))))) :=
  (vss_one (vs_ret (VE.o (ve_and (ve_call F_is_whole (va_cons (ve_var 0) va_nil)) (ve_one (ve_cmp (fun _ _ => o_ge) (ve_var 0) ve_int (nomark _)))))))
theorem b_is_from_0 {T : Tb} (Z : Zs T) (F_is_whole : Fok T "is_whole" 1 1 fe_is_whole) : VSs T 1 ⟨none, fun _ => true⟩ N_is_from_0 (defScope s_is_from_0) (defBody s_is_from_0) w_is_from_0 := b'_is_from_0 Z F_is_whole
def w_is_rule_C0 : WE := (wCall fe_is_from_0 (wCons (wVar 1) wNil))
def w_is_rule_s0 : WS := (wRet (wEO (wAndV (wIsi "tuple" (wVar 0)) (wAndV (wBin pEq (wCB pLen (wCons (wVar 0) wNil)) (wC (.int 2))) (wGen false (wIterT (wVar 0)) (gN 1) w_is_rule_C0 [1])))))
def w_is_rule_r0 : WS := w_is_rule_s0
def w_is_rule : WS := w_is_rule_r0
theorem b'_is_rule {T : Tb} (Z : Zs T) {p : Addr} (F_is_from_0 : Fok T "is_from_0" 2 1 fe_is_from_0) : VSs T 3 ⟨some p, fun _ => true⟩ N_is_rule (defScope s_is_rule) (defBody s_is_rule) ((wRet (wEO (wAndV (wIsi "tuple" (wVar 0)) (wAndV (wBin pEq (wCB pLen (wCons (wVar 0) wNil)) (wC (.int 2))) (wGen false (wIterT (wVar 0)) (gN 1) (wCall fe_is_from_0 (wCons (wVar 1) wNil)) [1])))))) :=
  (vss_one (vs_ret (VE.o (ve_and (ve_isi (ve_var 0) Z.b_isinstance Z.b_tuple (by decide +kernel)) (ve_and (ve_cmp (fun X G => o_eq (hu_gd G)) (ve_callB (fun X G => c_len) Z.b_len (by decide +kernel) (va_cons (ve_var 0) va_nil)) ve_int (nomark _)) (ve_one (ve_all [("number", 1)] Z.b_all rfl (vi_tup (ve_var 0)) (vg_name 1) (ve_call F_is_from_0 (va_cons (ve_var 1) va_nil)))))))))
theorem b_is_rule {T : Tb} (Z : Zs T) {p : Addr} (F_is_from_0 : Fok T "is_from_0" 2 1 fe_is_from_0) : VSs T 3 ⟨some p, fun _ => true⟩ N_is_rule (defScope s_is_rule) (defBody s_is_rule) w_is_rule := b'_is_rule Z F_is_from_0
def w_are_of_a_kind_C0 : WE := (wCall fe_is_rule (wCons (wVar 1) wNil))
def w_are_of_a_kind_s0 : WS := (wRet (wEO (wAndV (wIsi "list" (wVar 0)) (wAndV (wBin pLe (wCB pLen (wCons (wVar 0) wNil)) (wC (.int 40))) (wGen false (wIterV (wVar 0)) (gN 1) w_are_of_a_kind_C0 [1])))))
def w_are_of_a_kind_r0 : WS := w_are_of_a_kind_s0
def w_are_of_a_kind : WS := w_are_of_a_kind_r0
theorem b'_are_of_a_kind {T : Tb} (Z : Zs T) {p : Addr} (F_is_rule : Fok T "is_rule" 4 1 fe_is_rule) : VSs T 5 ⟨some p, fun _ => true⟩ N_are_of_a_kind (defScope s_are_of_a_kind) (defBody s_are_of_a_kind) ((wRet (wEO (wAndV (wIsi "list" (wVar 0)) (wAndV (wBin pLe (wCB pLen (wCons (wVar 0) wNil)) (wC (.int 40))) (wGen false (wIterV (wVar 0)) (gN 1) (wCall fe_is_rule (wCons (wVar 1) wNil)) [1])))))) :=
  (vss_one (vs_ret (VE.o (ve_and (ve_isi (ve_var 0) Z.b_isinstance Z.b_list (by decide +kernel)) (ve_and (ve_cmp (fun _ _ => o_le) (ve_callB (fun X G => c_len) Z.b_len (by decide +kernel) (va_cons (ve_var 0) va_nil)) (ve_gintE Z.c_MOST_RULES) (nomark _)) (ve_one (ve_all [("rule", 1)] Z.b_all rfl (vi_list (ve_var 0)) (vg_name 1) (ve_call F_is_rule (va_cons (ve_var 1) va_nil)))))))))
theorem b_are_of_a_kind {T : Tb} (Z : Zs T) {p : Addr} (F_is_rule : Fok T "is_rule" 4 1 fe_is_rule) : VSs T 5 ⟨some p, fun _ => true⟩ N_are_of_a_kind (defScope s_are_of_a_kind) (defBody s_are_of_a_kind) w_are_of_a_kind := b'_are_of_a_kind Z F_is_rule
def w_look_like_rules_C0 : WE := (wCall fe_are_of_a_kind (wCons (wVar 1) wNil))
def w_look_like_rules_s0 : WS := (wRet (wEO (wAndV (wIsi "tuple" (wVar 0)) (wAndV (wBin pEq (wCB pLen (wCons (wVar 0) wNil)) (wC (.int 2))) (wGen false (wIterT (wVar 0)) (gN 1) w_look_like_rules_C0 [1])))))
def w_look_like_rules_r0 : WS := w_look_like_rules_s0
def w_look_like_rules : WS := w_look_like_rules_r0
theorem b'_look_like_rules {T : Tb} (Z : Zs T) {p : Addr} (F_are_of_a_kind : Fok T "are_of_a_kind" 6 1 fe_are_of_a_kind) : VSs T 7 ⟨some p, fun _ => true⟩ N_look_like_rules (defScope s_look_like_rules) (defBody s_look_like_rules) ((wRet (wEO (wAndV (wIsi "tuple" (wVar 0)) (wAndV (wBin pEq (wCB pLen (wCons (wVar 0) wNil)) (wC (.int 2))) (wGen false (wIterT (wVar 0)) (gN 1) (wCall fe_are_of_a_kind (wCons (wVar 1) wNil)) [1])))))) :=
  (vss_one (vs_ret (VE.o (ve_and (ve_isi (ve_var 0) Z.b_isinstance Z.b_tuple (by decide +kernel)) (ve_and (ve_cmp (fun X G => o_eq (hu_gd G)) (ve_callB (fun X G => c_len) Z.b_len (by decide +kernel) (va_cons (ve_var 0) va_nil)) ve_int (nomark _)) (ve_one (ve_all [("part", 1)] Z.b_all rfl (vi_tup (ve_var 0)) (vg_name 1) (ve_call F_are_of_a_kind (va_cons (ve_var 1) va_nil)))))))))
theorem b_look_like_rules {T : Tb} (Z : Zs T) {p : Addr} (F_are_of_a_kind : Fok T "are_of_a_kind" 6 1 fe_are_of_a_kind) : VSs T 7 ⟨some p, fun _ => true⟩ N_look_like_rules (defScope s_look_like_rules) (defBody s_look_like_rules) w_look_like_rules := b'_look_like_rules Z F_are_of_a_kind
def w_text_of_words_s0 : WS := (wRet (wEO (wIfE (wTru (wVar 0)) (wM1 pJoin (wC (.str " ")) (wVar 0)) (wC (.str "-")))))
def w_text_of_words_r0 : WS := w_text_of_words_s0
def w_text_of_words : WS := w_text_of_words_r0
theorem b'_text_of_words {T : Tb} (Z : Zs T)  : VSs T 0 ⟨none, fun _ => true⟩ N_text_of_words (defScope s_text_of_words) (defBody s_text_of_words) ((wRet (wEO (wIfE (wTru (wVar 0)) (wM1 pJoin (wC (.str " ")) (wVar 0)) (wC (.str "-")))))) :=
  (vss_one (vs_ret (VE.o (ve_ifExp (vt_tru (ve_var 0)) (ve_join ve_str (ve_var 0)) ve_str))))
theorem b_text_of_words {T : Tb} (Z : Zs T)  : VSs T 0 ⟨none, fun _ => true⟩ N_text_of_words (defScope s_text_of_words) (defBody s_text_of_words) w_text_of_words := b'_text_of_words Z
def w_turn_text_C0 : WE := (wCall fe_is_from_0 (wCons (wVar 5) wNil))
def w_turn_text_s0 : WS := (wIf (wOr (wNot (wTB (wIsi "tuple" (wVar 0)))) (wOr (wTB (wBin pNe (wCB pLen (wCons (wVar 0) wNil)) (wC (.int 4)))) (wNot (wTB (wGen false (wIterT (wVar 0)) (gN 5) w_turn_text_C0 [5]))))) wNever wPass)
def w_turn_text_s1 : WS := (wAsg (wVar 0) (gTn 4 (gsCons (gN 1) (gsCons (gN 2) (gsCons (gN 3) (gsCons (gN 4) gsNil))))))
def w_turn_text_s2 : WS := (wRet (wEO (wFst4 "-" " " "-" (wVar 1) (wVar 2) (wVar 3) (wVar 4))))
def w_turn_text_r2 : WS := w_turn_text_s2
def w_turn_text_r1 : WS := wSeq w_turn_text_s1 w_turn_text_r2
def w_turn_text_r0 : WS := wSeq w_turn_text_s0 w_turn_text_r1
def w_turn_text : WS := w_turn_text_r0
theorem b'_turn_text {T : Tb} (Z : Zs T) {p : Addr} (F_is_from_0 : Fok T "is_from_0" 2 1 fe_is_from_0) : VSs T 3 ⟨some p, fun _ => true⟩ N_turn_text (defScope s_turn_text) (defBody s_turn_text) ((wSeq (wIf (wOr (wNot (wTB (wIsi "tuple" (wVar 0)))) (wOr (wTB (wBin pNe (wCB pLen (wCons (wVar 0) wNil)) (wC (.int 4)))) (wNot (wTB (wGen false (wIterT (wVar 0)) (gN 5) (wCall fe_is_from_0 (wCons (wVar 5) wNil)) [5]))))) wNever wPass) (wSeq (wAsg (wVar 0) (gTn 4 (gsCons (gN 1) (gsCons (gN 2) (gsCons (gN 3) (gsCons (gN 4) gsNil)))))) (wRet (wEO (wFst4 "-" " " "-" (wVar 1) (wVar 2) (wVar 3) (wVar 4))))))) :=
  (vss_cons (vs_if (VW.t (vw_or (vt_not (vt_val (ve_isi (ve_var 0) Z.b_isinstance Z.b_tuple (by decide +kernel)))) (vw_or (vt_cmp (fun X G => o_ne (hu_gd G)) (ve_callB (fun X G => c_len) Z.b_len (by decide +kernel) (va_cons (ve_var 0) va_nil)) ve_int (nomark _)) (vw_or1 (vt_not (vt_val (ve_all [("bound", 5)] Z.b_all rfl (vi_tup (ve_var 0)) (vg_name 5) (ve_call F_is_from_0 (va_cons (ve_var 5) va_nil))))))))) (vss_one vs_never) vss_nil) (vss_cons (vs_asg (ve_var 0) (vg_tup (vgs_cons (vg_name 1) (vgs_cons (vg_name 2) (vgs_cons (vg_name 3) (vgs_cons (vg_name 4) vgs_nil)))))) (vss_one (vs_ret (VE.o (ve_fst4 (ve_var 1) (ve_var 2) (ve_var 3) (ve_var 4)))))))
theorem b_turn_text {T : Tb} (Z : Zs T) {p : Addr} (F_is_from_0 : Fok T "is_from_0" 2 1 fe_is_from_0) : VSs T 3 ⟨some p, fun _ => true⟩ N_turn_text (defScope s_turn_text) (defBody s_turn_text) w_turn_text := b'_turn_text Z F_is_from_0
def w_rules_text_C0 : WE := (wFst "+" (wVar 3) (wVar 4))
def w_rules_text_C1 : WE := (wFst "!" (wVar 3) (wVar 4))
def w_rules_text_s0 : WS := (wIf (wNot (wTB (wCall fe_look_like_rules (wCons (wVar 0) wNil)))) wNever wPass)
def w_rules_text_s1 : WS := (wAsg (wVar 0) (gTn 2 (gsCons (gN 1) (gsCons (gN 2) gsNil))))
def w_rules_text_s2 : WS := (wRet (wCallO fe_text_of_words (wCons (wFE (wCat (wFE (wLc (wIterV (wVar 1)) (gTn 2 (gsCons (gN 3) (gsCons (gN 4) gsNil))) wYes w_rules_text_C0 [3, 4])) (wFE (wLc (wIterV (wVar 2)) (gTn 2 (gsCons (gN 3) (gsCons (gN 4) gsNil))) wYes w_rules_text_C1 [3, 4])))) wNil)))
def w_rules_text_r2 : WS := w_rules_text_s2
def w_rules_text_r1 : WS := wSeq w_rules_text_s1 w_rules_text_r2
def w_rules_text_r0 : WS := wSeq w_rules_text_s0 w_rules_text_r1
def w_rules_text : WS := w_rules_text_r0
theorem b'_rules_text {T : Tb} (Z : Zs T) (F_text_of_words : Fok T "text_of_words" 1 1 fe_text_of_words) (F_look_like_rules : Fok T "look_like_rules" 8 1 fe_look_like_rules) : VSs T 8 ⟨none, fun _ => true⟩ N_rules_text (defScope s_rules_text) (defBody s_rules_text) ((wSeq (wIf (wNot (wTB (wCall fe_look_like_rules (wCons (wVar 0) wNil)))) wNever wPass) (wSeq (wAsg (wVar 0) (gTn 2 (gsCons (gN 1) (gsCons (gN 2) gsNil)))) (wRet (wCallO fe_text_of_words (wCons (wFE (wCat (wFE (wLc (wIterV (wVar 1)) (gTn 2 (gsCons (gN 3) (gsCons (gN 4) gsNil))) wYes (wFst "+" (wVar 3) (wVar 4)) [3, 4])) (wFE (wLc (wIterV (wVar 2)) (gTn 2 (gsCons (gN 3) (gsCons (gN 4) gsNil))) wYes (wFst "!" (wVar 3) (wVar 4)) [3, 4])))) wNil)))))) :=
  (vss_cons (vs_if (vt_not (vt_val (ve_call F_look_like_rules (va_cons (ve_var 0) va_nil)))) (vss_one vs_never) vss_nil) (vss_cons (vs_asg (ve_var 0) (vg_tup (vgs_cons (vg_name 1) (vgs_cons (vg_name 2) vgs_nil)))) (vss_one (vs_ret (vo_call F_text_of_words (va_cons (VF.e (vf_cat (VF.e (vf_lc [("a", 3), ("b", 4)] (vi_list (ve_var 1)) (vg_tup (vgs_cons (vg_name 3) (vgs_cons (vg_name 4) vgs_nil))) vts_nil (ve_fst (ve_var 3) (ve_var 4)))) (VF.e (vf_lc [("a", 3), ("b", 4)] (vi_list (ve_var 2)) (vg_tup (vgs_cons (vg_name 3) (vgs_cons (vg_name 4) vgs_nil))) vts_nil (ve_fst (ve_var 3) (ve_var 4)))))) va_nil))))))
theorem b_rules_text {T : Tb} (Z : Zs T) (F_text_of_words : Fok T "text_of_words" 1 1 fe_text_of_words) (F_look_like_rules : Fok T "look_like_rules" 8 1 fe_look_like_rules) : VSs T 8 ⟨none, fun _ => true⟩ N_rules_text (defScope s_rules_text) (defBody s_rules_text) w_rules_text := b'_rules_text Z F_text_of_words F_look_like_rules
def w_is_number_word_C0 : WE := (wBin (pInS false) (wVar 1) (wC (.str "0123456789")))
def w_is_number_word_s0 : WS := (wRet (wEO (wOrV (wBin pEq (wVar 0) (wC (.str "0"))) (wAndV (wBin pNe (wVar 0) (wC (.str ""))) (wAndV (wBin pNe (wBin pIxS (wVar 0) (wC (.int 0))) (wC (.str "0"))) (wGen false (wIterS (wVar 0)) (gN 1) w_is_number_word_C0 [1]))))))
def w_is_number_word_r0 : WS := w_is_number_word_s0
def w_is_number_word : WS := w_is_number_word_r0
theorem b'_is_number_word {T : Tb} (Z : Zs T) {p : Addr}  : VSs T 1 ⟨some p, fun _ => true⟩ N_is_number_word (defScope s_is_number_word) (defBody s_is_number_word) ((wRet (wEO (wOrV (wBin pEq (wVar 0) (wC (.str "0"))) (wAndV (wBin pNe (wVar 0) (wC (.str ""))) (wAndV (wBin pNe (wBin pIxS (wVar 0) (wC (.int 0))) (wC (.str "0"))) (wGen false (wIterS (wVar 0)) (gN 1) (wBin (pInS false) (wVar 1) (wC (.str "0123456789"))) [1]))))))) :=
  (vss_one (vs_ret (VE.o (ve_or (ve_cmp (fun X G => o_eq (hu_gd G)) (ve_var 0) ve_str (nomark _)) (ve_one (ve_and (ve_cmp (fun X G => o_ne (hu_gd G)) (ve_var 0) ve_str (nomark _)) (ve_and (ve_cmp (fun X G => o_ne (hu_gd G)) (ve_ixS (ve_var 0) ve_int) ve_str (nomark _)) (ve_one (ve_all [("sign", 1)] Z.b_all rfl (vi_str (ve_var 0)) (vg_name 1) (ve_cmp (fun _ _ => o_inS) (ve_var 1) (ve_gstrE Z.c_FIGURES) (by with_unfolding_all rfl)))))))))))
theorem b_is_number_word {T : Tb} (Z : Zs T) {p : Addr}  : VSs T 1 ⟨some p, fun _ => true⟩ N_is_number_word (defScope s_is_number_word) (defBody s_is_number_word) w_is_number_word := b'_is_number_word Z
def w_read_number_L0 : WS := (wSet 1 (wEO (wBin pAdd (wBin (pI CMul fun i j => .int (i * j)) (wVar 1) (wC (.int 10))) (wM1 pFindS (wC (.str "0123456789")) (wVar 2)))))
def w_read_number_s0 : WS := (wIf (wNot (wTB (wCall fe_is_number_word (wCons (wVar 0) wNil)))) wNever wPass)
def w_read_number_s1 : WS := (wSet 1 (wEO (wC (.int 0))))
def w_read_number_s2 : WS := (wFor (wIterS (wVar 0)) (gN 2) w_read_number_L0)
def w_read_number_s3 : WS := (wRet (wMove 1))
def w_read_number_r3 : WS := w_read_number_s3
def w_read_number_r2 : WS := wSeq w_read_number_s2 w_read_number_r3
def w_read_number_r1 : WS := wSeq w_read_number_s1 w_read_number_r2
def w_read_number_r0 : WS := wSeq w_read_number_s0 w_read_number_r1
def w_read_number : WS := w_read_number_r0
theorem b'_read_number {T : Tb} (Z : Zs T) (F_is_number_word : Fok T "is_number_word" 2 1 fe_is_number_word) : VSs T 2 ⟨none, fun _ => true⟩ N_read_number (defScope s_read_number) (defBody s_read_number) ((wSeq (wIf (wNot (wTB (wCall fe_is_number_word (wCons (wVar 0) wNil)))) wNever wPass) (wSeq (wSet 1 (wEO (wC (.int 0)))) (wSeq (wFor (wIterS (wVar 0)) (gN 2) (wSet 1 (wEO (wBin pAdd (wBin (pI CMul fun i j => .int (i * j)) (wVar 1) (wC (.int 10))) (wM1 pFindS (wC (.str "0123456789")) (wVar 2)))))) (wRet (wMove 1)))))) :=
  (vss_cons (vs_if (vt_not (vt_val (ve_call F_is_number_word (va_cons (ve_var 0) va_nil)))) (vss_one vs_never) vss_nil) (vss_cons (vs_set 1 (VE.o ve_int)) (vss_cons (vs_for (vi_str (ve_var 0)) (vg_name 2) (vss_one (vs_set 1 (VE.o (ve_bin (fun _ _ => o_add) (ve_bin (fun _ _ => o_mul) (ve_var 1) ve_int) (ve_indexS (ve_gstrE Z.c_FIGURES) (ve_var 2))))))) (vss_one (vs_ret (vo_move 1))))))
theorem b_read_number {T : Tb} (Z : Zs T) (F_is_number_word : Fok T "is_number_word" 2 1 fe_is_number_word) : VSs T 2 ⟨none, fun _ => true⟩ N_read_number (defScope s_read_number) (defBody s_read_number) w_read_number := b'_read_number Z F_is_number_word
def w_read_pair_s0 : WS := (wSet 2 (wFO (wM1F pSplit (wVar 0) (wVar 1))))
def w_read_pair_s1 : WS := (wIf (wTB (wBin pNe (wCB pLen (wCons (wVar 2) wNil)) (wC (.int 2)))) wNever wPass)
def w_read_pair_s2 : WS := (wRet (wEO (wTup (wCons (wCall fe_read_number (wCons (wBin pIx (wVar 2) (wC (.int 0))) wNil)) (wCons (wCall fe_read_number (wCons (wBin pIx (wVar 2) (wC (.int 1))) wNil)) wNil)))))
def w_read_pair_r2 : WS := w_read_pair_s2
def w_read_pair_r1 : WS := wSeq w_read_pair_s1 w_read_pair_r2
def w_read_pair_r0 : WS := wSeq w_read_pair_s0 w_read_pair_r1
def w_read_pair : WS := w_read_pair_r0
theorem b'_read_pair {T : Tb} (Z : Zs T) (F_read_number : Fok T "read_number" 3 1 fe_read_number) : VSs T 3 ⟨none, fun _ => true⟩ N_read_pair (defScope s_read_pair) (defBody s_read_pair) ((wSeq (wSet 2 (wFO (wM1F pSplit (wVar 0) (wVar 1)))) (wSeq (wIf (wTB (wBin pNe (wCB pLen (wCons (wVar 2) wNil)) (wC (.int 2)))) wNever wPass) (wRet (wEO (wTup (wCons (wCall fe_read_number (wCons (wBin pIx (wVar 2) (wC (.int 0))) wNil)) (wCons (wCall fe_read_number (wCons (wBin pIx (wVar 2) (wC (.int 1))) wNil)) wNil)))))))) :=
  (vss_cons (vs_set 2 (VF.o (vf_split (ve_var 0) (ve_var 1)))) (vss_cons (vs_if (vt_cmp (fun X G => o_ne (hu_gd G)) (ve_callB (fun X G => c_len) Z.b_len (by decide +kernel) (va_cons (ve_var 2) va_nil)) ve_int (nomark _)) (vss_one vs_never) vss_nil) (vss_one (vs_ret (VE.o (ve_tup (va_cons (ve_call F_read_number (va_cons (ve_ix (ve_var 2) ve_int) va_nil)) (va_cons (ve_call F_read_number (va_cons (ve_ix (ve_var 2) ve_int) va_nil)) va_nil))))))))
theorem b_read_pair {T : Tb} (Z : Zs T) (F_read_number : Fok T "read_number" 3 1 fe_read_number) : VSs T 3 ⟨none, fun _ => true⟩ N_read_pair (defScope s_read_pair) (defBody s_read_pair) w_read_pair := b'_read_pair Z F_read_number
def w_words_of_s0 : WS := (wIf (wNot (wTB (wIsi "str" (wVar 0)))) wNever wPass)
def w_words_of_s1 : WS := (wRet (wFO (wM1F pSplit (wVar 0) (wC (.str " ")))))
def w_words_of_r1 : WS := w_words_of_s1
def w_words_of_r0 : WS := wSeq w_words_of_s0 w_words_of_r1
def w_words_of : WS := w_words_of_r0
theorem b'_words_of {T : Tb} (Z : Zs T)  : VSs T 0 ⟨none, fun _ => true⟩ N_words_of (defScope s_words_of) (defBody s_words_of) ((wSeq (wIf (wNot (wTB (wIsi "str" (wVar 0)))) wNever wPass) (wRet (wFO (wM1F pSplit (wVar 0) (wC (.str " "))))))) :=
  (vss_cons (vs_if (vt_not (vt_val (ve_isi (ve_var 0) Z.b_isinstance Z.b_str (by decide +kernel)))) (vss_one vs_never) vss_nil) (vss_one (vs_ret (VF.o (vf_split (ve_var 0) ve_str)))))
theorem b_words_of {T : Tb} (Z : Zs T)  : VSs T 0 ⟨none, fun _ => true⟩ N_words_of (defScope s_words_of) (defBody s_words_of) w_words_of := b'_words_of Z
def w_words_or_none_s0 : WS := (wSet 1 (wCallO fe_words_of (wCons (wVar 0) wNil)))
def w_words_or_none_s1 : WS := (wRet (wIfO (wTB (wBin pEq (wVar 1) (wFE (wLst (wCons (wC (.str "-")) wNil))))) (wFO (wLst wNil)) (wMove 1)))
def w_words_or_none_r1 : WS := w_words_or_none_s1
def w_words_or_none_r0 : WS := wSeq w_words_or_none_s0 w_words_or_none_r1
def w_words_or_none : WS := w_words_or_none_r0
theorem b'_words_or_none {T : Tb} (Z : Zs T) (F_words_of : Fok T "words_of" 1 1 fe_words_of) : VSs T 1 ⟨none, fun _ => true⟩ N_words_or_none (defScope s_words_or_none) (defBody s_words_or_none) ((wSeq (wSet 1 (wCallO fe_words_of (wCons (wVar 0) wNil))) (wRet (wIfO (wTB (wBin pEq (wVar 1) (wFE (wLst (wCons (wC (.str "-")) wNil))))) (wFO (wLst wNil)) (wMove 1))))) :=
  (vss_cons (vs_set 1 (vo_call F_words_of (va_cons (ve_var 0) va_nil))) (vss_one (vs_ret (vo_ifExp (vt_cmp (fun X G => o_eq (hu_gd G)) (ve_var 1) (VF.e (vf_lst (va_cons ve_str va_nil))) (nomark _)) (VF.o (vf_lst va_nil)) (vo_move 1)))))
theorem b_words_or_none {T : Tb} (Z : Zs T) (F_words_of : Fok T "words_of" 1 1 fe_words_of) : VSs T 1 ⟨none, fun _ => true⟩ N_words_or_none (defScope s_words_or_none) (defBody s_words_or_none) w_words_or_none := b'_words_or_none Z F_words_of
def w_read_turn_s0 : WS := (wSet 1 (wCallO fe_words_of (wCons (wVar 0) wNil)))
def w_read_turn_s1 : WS := (wIf (wTB (wBin pNe (wCB pLen (wCons (wVar 1) wNil)) (wC (.int 2)))) wNever wPass)
def w_read_turn_s2 : WS := (wRet (wEO (wBin pCatT (wCall fe_read_pair (wCons (wBin pIx (wVar 1) (wC (.int 0))) (wCons (wC (.str "-")) wNil))) (wCall fe_read_pair (wCons (wBin pIx (wVar 1) (wC (.int 1))) (wCons (wC (.str "-")) wNil))))))
def w_read_turn_r2 : WS := w_read_turn_s2
def w_read_turn_r1 : WS := wSeq w_read_turn_s1 w_read_turn_r2
def w_read_turn_r0 : WS := wSeq w_read_turn_s0 w_read_turn_r1
def w_read_turn : WS := w_read_turn_r0
theorem b'_read_turn {T : Tb} (Z : Zs T) (F_words_of : Fok T "words_of" 1 1 fe_words_of) (F_read_pair : Fok T "read_pair" 4 2 fe_read_pair) : VSs T 4 ⟨none, fun _ => true⟩ N_read_turn (defScope s_read_turn) (defBody s_read_turn) ((wSeq (wSet 1 (wCallO fe_words_of (wCons (wVar 0) wNil))) (wSeq (wIf (wTB (wBin pNe (wCB pLen (wCons (wVar 1) wNil)) (wC (.int 2)))) wNever wPass) (wRet (wEO (wBin pCatT (wCall fe_read_pair (wCons (wBin pIx (wVar 1) (wC (.int 0))) (wCons (wC (.str "-")) wNil))) (wCall fe_read_pair (wCons (wBin pIx (wVar 1) (wC (.int 1))) (wCons (wC (.str "-")) wNil))))))))) :=
  (vss_cons (vs_set 1 (vo_call F_words_of (va_cons (ve_var 0) va_nil))) (vss_cons (vs_if (vt_cmp (fun X G => o_ne (hu_gd G)) (ve_callB (fun X G => c_len) Z.b_len (by decide +kernel) (va_cons (ve_var 1) va_nil)) ve_int (nomark _)) (vss_one vs_never) vss_nil) (vss_one (vs_ret (VE.o (ve_bin (fun _ _ => o_catT) (ve_call F_read_pair (va_cons (ve_ix (ve_var 1) ve_int) (va_cons ve_str va_nil))) (ve_call F_read_pair (va_cons (ve_ix (ve_var 1) ve_int) (va_cons ve_str va_nil)))))))))
theorem b_read_turn {T : Tb} (Z : Zs T) (F_words_of : Fok T "words_of" 1 1 fe_words_of) (F_read_pair : Fok T "read_pair" 4 2 fe_read_pair) : VSs T 4 ⟨none, fun _ => true⟩ N_read_turn (defScope s_read_turn) (defBody s_read_turn) w_read_turn := b'_read_turn Z F_words_of F_read_pair
def w_read_rules_C0 : WE := (wCall fe_read_pair (wCons (wVar 5) (wCons (wC (.str "+")) wNil)))
def w_read_rules_C1 : WE := (wCall fe_read_pair (wCons (wVar 5) (wCons (wC (.str "!")) wNil)))
def w_read_rules_s0 : WS := (wSet 1 (wCallO fe_words_or_none (wCons (wVar 0) wNil)))
def w_read_rules_s1 : WS := (wSet 2 (wFO (wLc (wIterV (wVar 1)) (gN 5) (wTB (wBin (pInS false) (wC (.str "+")) (wVar 5))) w_read_rules_C0 [5])))
def w_read_rules_s2 : WS := (wSet 3 (wFO (wLc (wIterV (wVar 1)) (gN 5) (wTB (wBin (pInS true) (wC (.str "+")) (wVar 5))) w_read_rules_C1 [5])))
def w_read_rules_s3 : WS := (wRetDuo 4 2 3 (wOr (wNot (wTB (wCall fe_look_like_rules (wCons (wVar 4) wNil)))) (wTB (wBin pNe (wCall fe_rules_text (wCons (wVar 4) wNil)) (wVar 0)))))
def w_read_rules_r3 : WS := w_read_rules_s3
def w_read_rules_r2 : WS := wSeq w_read_rules_s2 w_read_rules_r3
def w_read_rules_r1 : WS := wSeq w_read_rules_s1 w_read_rules_r2
def w_read_rules_r0 : WS := wSeq w_read_rules_s0 w_read_rules_r1
def w_read_rules : WS := w_read_rules_r0
theorem b'_read_rules {T : Tb} (Z : Zs T) (F_words_or_none : Fok T "words_or_none" 2 1 fe_words_or_none) (F_read_pair : Fok T "read_pair" 4 2 fe_read_pair) (F_look_like_rules : Fok T "look_like_rules" 8 1 fe_look_like_rules) (F_rules_text : Fok T "rules_text" 9 1 fe_rules_text) : VSs T 9 ⟨none, fun _ => true⟩ N_read_rules (defScope s_read_rules) (defBody s_read_rules) ((wSeq (wSet 1 (wCallO fe_words_or_none (wCons (wVar 0) wNil))) (wSeq (wSet 2 (wFO (wLc (wIterV (wVar 1)) (gN 5) (wTB (wBin (pInS false) (wC (.str "+")) (wVar 5))) (wCall fe_read_pair (wCons (wVar 5) (wCons (wC (.str "+")) wNil))) [5]))) (wSeq (wSet 3 (wFO (wLc (wIterV (wVar 1)) (gN 5) (wTB (wBin (pInS true) (wC (.str "+")) (wVar 5))) (wCall fe_read_pair (wCons (wVar 5) (wCons (wC (.str "!")) wNil))) [5]))) (wRetDuo 4 2 3 (wOr (wNot (wTB (wCall fe_look_like_rules (wCons (wVar 4) wNil)))) (wTB (wBin pNe (wCall fe_rules_text (wCons (wVar 4) wNil)) (wVar 0))))))))) :=
  (vss_cons (vs_set 1 (vo_call F_words_or_none (va_cons (ve_var 0) va_nil))) (vss_cons (vs_setLc 2 [("word", 5)] (vi_list (ve_var 1)) (vg_name 5) (vts_one (vt_cmp (fun _ _ => o_inS) ve_str (ve_var 5) (by with_unfolding_all rfl))) (ve_call F_read_pair (va_cons (ve_var 5) (va_cons ve_str va_nil)))) (vss_cons (vs_setLc 3 [("word", 5)] (vi_list (ve_var 1)) (vg_name 5) (vts_one (vt_cmp (fun _ _ => o_notInS) ve_str (ve_var 5) (by with_unfolding_all rfl))) (ve_call F_read_pair (va_cons (ve_var 5) (va_cons ve_str va_nil)))) (vss_retDuo 4 2 3 (VW.t (vw_or (vt_not (vt_val (ve_call F_look_like_rules (va_cons (ve_var 4) va_nil)))) (vw_or1 (vt_cmp (fun X G => o_ne (hu_gd G)) (ve_call F_rules_text (va_cons (ve_var 4) va_nil)) (ve_var 0) (nomark _))))) (vss_one vs_never)))))
theorem b_read_rules {T : Tb} (Z : Zs T) (F_words_or_none : Fok T "words_or_none" 2 1 fe_words_or_none) (F_read_pair : Fok T "read_pair" 4 2 fe_read_pair) (F_look_like_rules : Fok T "look_like_rules" 8 1 fe_look_like_rules) (F_rules_text : Fok T "rules_text" 9 1 fe_rules_text) : VSs T 9 ⟨none, fun _ => true⟩ N_read_rules (defScope s_read_rules) (defBody s_read_rules) w_read_rules := b'_read_rules Z F_words_or_none F_read_pair F_look_like_rules F_rules_text
def w__law_well_s0 : WS := (wIf (wTB (wBin pGe (wVar 0) (wBin pPow (wC (.int 10)) (wC (.int 18))))) (wRet (wFO (wLst (wCons (wVar 0) (wCons (wBin pMod (wVar 0) (wC (.int 2147483629))) wNil))))) wPass)
def w__law_well_s1 : WS := (wRet (wFO (wLst (wCons (wC (.int 0)) (wCons (wBin pMod (wVar 0) (wC (.int 2147483629))) wNil)))))
def w__law_well_r1 : WS := w__law_well_s1
def w__law_well_r0 : WS := wSeq w__law_well_s0 w__law_well_r1
def w__law_well : WS := w__law_well_r0
theorem b'__law_well {T : Tb} (Z : Zs T)  : VSs T 0 ⟨none, fun _ => true⟩ N__law_well (defScope s__law_well) (defBody s__law_well) ((wSeq (wIf (wTB (wBin pGe (wVar 0) (wBin pPow (wC (.int 10)) (wC (.int 18))))) (wRet (wFO (wLst (wCons (wVar 0) (wCons (wBin pMod (wVar 0) (wC (.int 2147483629))) wNil))))) wPass) (wRet (wFO (wLst (wCons (wC (.int 0)) (wCons (wBin pMod (wVar 0) (wC (.int 2147483629))) wNil))))))) :=
  (vss_cons (vs_if (vt_cmp (fun _ _ => o_ge) (ve_var 0) (ve_bin (fun _ _ => o_pow) ve_int ve_int) (nomark _)) (vss_one (vs_ret (VF.o (vf_lst (va_cons (ve_var 0) (va_cons (ve_bin (fun _ _ => o_mod) (ve_var 0) ve_int) va_nil)))))) vss_nil) (vss_one (vs_ret (VF.o (vf_lst (va_cons ve_int (va_cons (ve_bin (fun _ _ => o_mod) (ve_var 0) ve_int) va_nil)))))))
theorem b__law_well {T : Tb} (Z : Zs T)  : VSs T 0 ⟨none, fun _ => true⟩ N__law_well (defScope s__law_well) (defBody s__law_well) w__law_well := b'__law_well Z
def w__law_draw_s0 : WS := (wIf (wTB (wBin pGt (wBin pIx (wVar 0) (wC (.int 0))) (wC (.int 0)))) (wSeq (wSet 3 (wEO (wBin pMod (wBin pIx (wVar 0) (wC (.int 0))) (wVar 1)))) (wSeq (wSetIx 0 (wBin pFdiv (wBin pIx (wVar 0) (wC (.int 0))) (wVar 1)) (wC (.int 0))) (wRet (wMove 3)))) wPass)
def w__law_draw_s1 : WS := (wSet 2 (wEO (wBin pMod (wBin pAdd (wBin (pI CMul fun i j => .int (i * j)) (wBin pIx (wVar 0) (wC (.int 1))) (wC (.int 48271))) (wC (.int 11))) (wC (.int 2147483647)))))
def w__law_draw_s2 : WS := (wSet 2 (wEO (wBin pMod (wBin (pI CMul fun i j => .int (i * j)) (wVar 2) (wVar 2)) (wC (.int 2147483587)))))
def w__law_draw_s3 : WS := (wSetIx 0 (wBin pMod (wBin pAdd (wBin (pI CMul fun i j => .int (i * j)) (wVar 2) (wC (.int 69621))) (wC (.int 40692))) (wC (.int 2147483629))) (wC (.int 1)))
def w__law_draw_s4 : WS := (wRet (wEO (wBin pMod (wBin pFdiv (wBin pIx (wVar 0) (wC (.int 1))) (wC (.int 8))) (wVar 1))))
def w__law_draw_r4 : WS := w__law_draw_s4
def w__law_draw_r3 : WS := wSeq w__law_draw_s3 w__law_draw_r4
def w__law_draw_r2 : WS := wSeq w__law_draw_s2 w__law_draw_r3
def w__law_draw_r1 : WS := wSeq w__law_draw_s1 w__law_draw_r2
def w__law_draw_r0 : WS := wSeq w__law_draw_s0 w__law_draw_r1
def w__law_draw : WS := w__law_draw_r0
theorem b'__law_draw {T : Tb} (Z : Zs T)  : VSs T 0 ⟨none, fun _ => true⟩ N__law_draw (defScope s__law_draw) (defBody s__law_draw) ((wSeq (wIf (wTB (wBin pGt (wBin pIx (wVar 0) (wC (.int 0))) (wC (.int 0)))) (wSeq (wSet 3 (wEO (wBin pMod (wBin pIx (wVar 0) (wC (.int 0))) (wVar 1)))) (wSeq (wSetIx 0 (wBin pFdiv (wBin pIx (wVar 0) (wC (.int 0))) (wVar 1)) (wC (.int 0))) (wRet (wMove 3)))) wPass) (wSeq (wSet 2 (wEO (wBin pMod (wBin pAdd (wBin (pI CMul fun i j => .int (i * j)) (wBin pIx (wVar 0) (wC (.int 1))) (wC (.int 48271))) (wC (.int 11))) (wC (.int 2147483647))))) (wSeq (wSet 2 (wEO (wBin pMod (wBin (pI CMul fun i j => .int (i * j)) (wVar 2) (wVar 2)) (wC (.int 2147483587))))) (wSeq (wSetIx 0 (wBin pMod (wBin pAdd (wBin (pI CMul fun i j => .int (i * j)) (wVar 2) (wC (.int 69621))) (wC (.int 40692))) (wC (.int 2147483629))) (wC (.int 1))) (wRet (wEO (wBin pMod (wBin pFdiv (wBin pIx (wVar 0) (wC (.int 1))) (wC (.int 8))) (wVar 1))))))))) :=
  (vss_cons (vs_if (vt_cmp (fun _ _ => o_gt) (ve_ix (ve_var 0) ve_int) ve_int (nomark _)) (vss_cons (vs_set 3 (VE.o (ve_bin (fun _ _ => o_mod) (ve_ix (ve_var 0) ve_int) (ve_var 1)))) (vss_cons (vs_setIx 0 (ve_bin (fun _ _ => o_fdiv) (ve_ix (ve_var 0) ve_int) (ve_var 1)) ve_int) (vss_one (vs_ret (vo_move 3))))) vss_nil) (vss_cons (vs_set 2 (VE.o (ve_bin (fun _ _ => o_mod) (ve_bin (fun _ _ => o_add) (ve_bin (fun _ _ => o_mul) (ve_ix (ve_var 0) ve_int) ve_int) ve_int) ve_int))) (vss_cons (vs_set 2 (VE.o (ve_bin (fun _ _ => o_mod) (ve_bin (fun _ _ => o_mul) (ve_var 2) (ve_var 2)) ve_int))) (vss_cons (vs_setIx 0 (ve_bin (fun _ _ => o_mod) (ve_bin (fun _ _ => o_add) (ve_bin (fun _ _ => o_mul) (ve_var 2) ve_int) ve_int) ve_int) ve_int) (vss_one (vs_ret (VE.o (ve_bin (fun _ _ => o_mod) (ve_bin (fun _ _ => o_fdiv) (ve_ix (ve_var 0) ve_int) ve_int) (ve_var 1)))))))))
theorem b__law_draw {T : Tb} (Z : Zs T)  : VSs T 0 ⟨none, fun _ => true⟩ N__law_draw (defScope s__law_draw) (defBody s__law_draw) w__law_draw := b'__law_draw Z
def w__law_some_number_s0 : WS := (wSet 1 (wFO (wLst (wCons (wCall fe__law_draw (wCons (wVar 0) (wCons (wC (.int 10)) wNil))) (wCons (wCall fe__law_draw (wCons (wVar 0) (wCons (wC (.int 41)) wNil))) (wCons (wCall fe__law_draw (wCons (wVar 0) (wCons (wC (.int 1000)) wNil))) (wCons (wBin pAdd (wBin pPow (wC (.int 10)) (wC (.int 39))) (wCall fe__law_draw (wCons (wVar 0) (wCons (wBin pPow (wC (.int 10)) (wC (.int 9))) wNil)))) (wCons (wC (.int 0)) wNil))))))))
def w__law_some_number_s1 : WS := (wRet (wEO (wBin pIx (wVar 1) (wBin pIx (wFE (wLst (wCons (wC (.int 0)) (wCons (wC (.int 0)) (wCons (wC (.int 0)) (wCons (wC (.int 1)) (wCons (wC (.int 1)) (wCons (wC (.int 2)) (wCons (wC (.int 3)) (wCons (wC (.int 4)) wNil)))))))))) (wCall fe__law_draw (wCons (wVar 0) (wCons (wC (.int 8)) wNil)))))))
def w__law_some_number_r1 : WS := w__law_some_number_s1
def w__law_some_number_r0 : WS := wSeq w__law_some_number_s0 w__law_some_number_r1
def w__law_some_number : WS := w__law_some_number_r0
theorem b'__law_some_number {T : Tb} (Z : Zs T) (F__law_draw : Fok T "_law_draw" 1 2 fe__law_draw) : VSs T 1 ⟨none, fun _ => true⟩ N__law_some_number (defScope s__law_some_number) (defBody s__law_some_number) ((wSeq (wSet 1 (wFO (wLst (wCons (wCall fe__law_draw (wCons (wVar 0) (wCons (wC (.int 10)) wNil))) (wCons (wCall fe__law_draw (wCons (wVar 0) (wCons (wC (.int 41)) wNil))) (wCons (wCall fe__law_draw (wCons (wVar 0) (wCons (wC (.int 1000)) wNil))) (wCons (wBin pAdd (wBin pPow (wC (.int 10)) (wC (.int 39))) (wCall fe__law_draw (wCons (wVar 0) (wCons (wBin pPow (wC (.int 10)) (wC (.int 9))) wNil)))) (wCons (wC (.int 0)) wNil)))))))) (wRet (wEO (wBin pIx (wVar 1) (wBin pIx (wFE (wLst (wCons (wC (.int 0)) (wCons (wC (.int 0)) (wCons (wC (.int 0)) (wCons (wC (.int 1)) (wCons (wC (.int 1)) (wCons (wC (.int 2)) (wCons (wC (.int 3)) (wCons (wC (.int 4)) wNil)))))))))) (wCall fe__law_draw (wCons (wVar 0) (wCons (wC (.int 8)) wNil))))))))) :=
  (vss_cons (vs_set 1 (VF.o (vf_lst (va_cons (ve_call F__law_draw (va_cons (ve_var 0) (va_cons ve_int va_nil))) (va_cons (ve_call F__law_draw (va_cons (ve_var 0) (va_cons ve_int va_nil))) (va_cons (ve_call F__law_draw (va_cons (ve_var 0) (va_cons ve_int va_nil))) (va_cons (ve_bin (fun _ _ => o_add) (ve_bin (fun _ _ => o_pow) ve_int ve_int) (ve_call F__law_draw (va_cons (ve_var 0) (va_cons (ve_bin (fun _ _ => o_pow) ve_int ve_int) va_nil)))) (va_cons ve_int va_nil)))))))) (vss_one (vs_ret (VE.o (ve_ix (ve_var 1) (ve_ix (VF.e (vf_lst (va_cons ve_int (va_cons ve_int (va_cons ve_int (va_cons ve_int (va_cons ve_int (va_cons ve_int (va_cons ve_int (va_cons ve_int va_nil)))))))))) (ve_call F__law_draw (va_cons (ve_var 0) (va_cons ve_int va_nil)))))))))
theorem b__law_some_number {T : Tb} (Z : Zs T) (F__law_draw : Fok T "_law_draw" 1 2 fe__law_draw) : VSs T 1 ⟨none, fun _ => true⟩ N__law_some_number (defScope s__law_some_number) (defBody s__law_some_number) w__law_some_number := b'__law_some_number Z F__law_draw
def w__law_rules_C0 : WE := (wTup (wCons (wCall fe__law_some_number (wCons (wVar 0) wNil)) (wCons (wCall fe__law_some_number (wCons (wVar 0) wNil)) wNil)))
def w__law_rules_C1 : WE := (wTup (wCons (wCall fe__law_draw (wCons (wVar 0) (wCons (wC (.int 21)) wNil))) (wCons (wCall fe__law_draw (wCons (wVar 0) (wCons (wC (.int 21)) wNil))) wNil)))
def w__law_rules_L2 : WS := (wSeq (wSet 3 (wEO (wBin pIx (wFE (wLst (wCons (wC (.int 0)) (wCons (wCall fe__law_draw (wCons (wVar 0) (wCons (wC (.int 4)) wNil))) (wCons (wCall fe__law_draw (wCons (wVar 0) (wCons (wC (.int 41)) wNil))) (wCons (wC (.int 40)) wNil)))))) (wBin pIx (wFE (wLst (wCons (wC (.int 0)) (wCons (wC (.int 1)) (wCons (wC (.int 1)) (wCons (wC (.int 1)) (wCons (wC (.int 2)) (wCons (wC (.int 3)) wNil)))))))) (wCall fe__law_draw (wCons (wVar 0) (wCons (wC (.int 6)) wNil))))))) (wSeq (wSet 4 (wFO (wLc (wRng1 (wCons (wVar 3) wNil)) (gN 5) wYes w__law_rules_C1 [5]))) (wSeq (wIf (wTB (wBin pEq (wCall fe__law_draw (wCons (wVar 0) (wCons (wC (.int 2)) wNil))) (wC (.int 0)))) (wSet 4 (wFO (wLc (wRng1 (wCons (wVar 3) wNil)) (gN 5) wYes w__law_rules_C0 [5]))) wPass) (wExpr (wMt 1 pApp (wCons (wVar 4) wNil))))))
def w__law_rules_s0 : WS := (wSet 1 (wFO (wLst wNil)))
def w__law_rules_s1 : WS := (wFor (wRng1 (wCons (wC (.int 2)) wNil)) (gN 2) w__law_rules_L2)
def w__law_rules_s2 : WS := (wRet (wEO (wTup (wCons (wBin pIx (wVar 1) (wC (.int 0))) (wCons (wBin pIx (wVar 1) (wC (.int 1))) wNil)))))
def w__law_rules_r2 : WS := w__law_rules_s2
def w__law_rules_r1 : WS := wSeq w__law_rules_s1 w__law_rules_r2
def w__law_rules_r0 : WS := wSeq w__law_rules_s0 w__law_rules_r1
def w__law_rules : WS := w__law_rules_r0
theorem b'__law_rules {T : Tb} (Z : Zs T) (F__law_draw : Fok T "_law_draw" 1 2 fe__law_draw) (F__law_some_number : Fok T "_law_some_number" 2 1 fe__law_some_number) : VSs T 2 ⟨none, fun _ => true⟩ N__law_rules (defScope s__law_rules) (defBody s__law_rules) ((wSeq (wSet 1 (wFO (wLst wNil))) (wSeq (wFor (wRng1 (wCons (wC (.int 2)) wNil)) (gN 2) (wSeq (wSet 3 (wEO (wBin pIx (wFE (wLst (wCons (wC (.int 0)) (wCons (wCall fe__law_draw (wCons (wVar 0) (wCons (wC (.int 4)) wNil))) (wCons (wCall fe__law_draw (wCons (wVar 0) (wCons (wC (.int 41)) wNil))) (wCons (wC (.int 40)) wNil)))))) (wBin pIx (wFE (wLst (wCons (wC (.int 0)) (wCons (wC (.int 1)) (wCons (wC (.int 1)) (wCons (wC (.int 1)) (wCons (wC (.int 2)) (wCons (wC (.int 3)) wNil)))))))) (wCall fe__law_draw (wCons (wVar 0) (wCons (wC (.int 6)) wNil))))))) (wSeq (wSet 4 (wFO (wLc (wRng1 (wCons (wVar 3) wNil)) (gN 5) wYes (wTup (wCons (wCall fe__law_draw (wCons (wVar 0) (wCons (wC (.int 21)) wNil))) (wCons (wCall fe__law_draw (wCons (wVar 0) (wCons (wC (.int 21)) wNil))) wNil))) [5]))) (wSeq (wIf (wTB (wBin pEq (wCall fe__law_draw (wCons (wVar 0) (wCons (wC (.int 2)) wNil))) (wC (.int 0)))) (wSet 4 (wFO (wLc (wRng1 (wCons (wVar 3) wNil)) (gN 5) wYes (wTup (wCons (wCall fe__law_some_number (wCons (wVar 0) wNil)) (wCons (wCall fe__law_some_number (wCons (wVar 0) wNil)) wNil))) [5]))) wPass) (wExpr (wMt 1 pApp (wCons (wVar 4) wNil))))))) (wRet (wEO (wTup (wCons (wBin pIx (wVar 1) (wC (.int 0))) (wCons (wBin pIx (wVar 1) (wC (.int 1))) wNil)))))))) :=
  (vss_cons (vs_set 1 (VF.o (vf_lst va_nil))) (vss_cons (vs_for (vi_range1 Z.b_range (va_cons ve_int va_nil)) (vg_name 2) (vss_cons (vs_set 3 (VE.o (ve_ix (VF.e (vf_lst (va_cons ve_int (va_cons (ve_call F__law_draw (va_cons (ve_var 0) (va_cons ve_int va_nil))) (va_cons (ve_call F__law_draw (va_cons (ve_var 0) (va_cons ve_int va_nil))) (va_cons ve_int va_nil)))))) (ve_ix (VF.e (vf_lst (va_cons ve_int (va_cons ve_int (va_cons ve_int (va_cons ve_int (va_cons ve_int (va_cons ve_int va_nil)))))))) (ve_call F__law_draw (va_cons (ve_var 0) (va_cons ve_int va_nil))))))) (vss_cons (vs_setLc 4 [("turn", 5)] (vi_range1 Z.b_range (va_cons (ve_var 3) va_nil)) (vg_name 5) vts_nil (ve_tup (va_cons (ve_call F__law_draw (va_cons (ve_var 0) (va_cons ve_int va_nil))) (va_cons (ve_call F__law_draw (va_cons (ve_var 0) (va_cons ve_int va_nil))) va_nil)))) (vss_cons (vs_if (vt_cmp (fun X G => o_eq (hu_gd G)) (ve_call F__law_draw (va_cons (ve_var 0) (va_cons ve_int va_nil))) ve_int (nomark _)) (vss_one (vs_setLc 4 [("turn", 5)] (vi_range1 Z.b_range (va_cons (ve_var 3) va_nil)) (vg_name 5) vts_nil (ve_tup (va_cons (ve_call F__law_some_number (va_cons (ve_var 0) va_nil)) (va_cons (ve_call F__law_some_number (va_cons (ve_var 0) va_nil)) va_nil))))) vss_nil) (vss_one (vs_expr (ve_mt 1 (fun _ _ => m_append) PySem.F.slot_list_append PySem.F.type_list_append (va_cons (ve_var 4) va_nil)))))))) (vss_one (vs_ret (VE.o (ve_tup (va_cons (ve_ix (ve_var 1) ve_int) (va_cons (ve_ix (ve_var 1) ve_int) va_nil))))))))
theorem b__law_rules {T : Tb} (Z : Zs T) (F__law_draw : Fok T "_law_draw" 1 2 fe__law_draw) (F__law_some_number : Fok T "_law_some_number" 2 1 fe__law_some_number) : VSs T 2 ⟨none, fun _ => true⟩ N__law_rules (defScope s__law_rules) (defBody s__law_rules) w__law_rules := b'__law_rules Z F__law_draw F__law_some_number
def w__law_figures_L0 : WS := (wSeq (wSet 1 (wEO (wBin pAdd (wBin pIxS (wC (.str "0123456789")) (wBin pMod (wVar 2) (wC (.int 10)))) (wVar 1)))) (wSet 2 (wEO (wBin pFdiv (wVar 2) (wC (.int 10))))))
def w__law_figures_s0 : WS := (wSet 1 (wEO (wC (.str ""))))
def w__law_figures_s1 : WS := (wSet 2 (wMove 0))
def w__law_figures_s2 : WS := (wWhile (wTB (wBin pGt (wVar 2) (wC (.int 9)))) w__law_figures_L0)
def w__law_figures_s3 : WS := (wRet (wEO (wBin pAdd (wBin pIxS (wC (.str "0123456789")) (wVar 2)) (wVar 1))))
def w__law_figures_r3 : WS := w__law_figures_s3
def w__law_figures_r2 : WS := wSeq w__law_figures_s2 w__law_figures_r3
def w__law_figures_r1 : WS := wSeq w__law_figures_s1 w__law_figures_r2
def w__law_figures_r0 : WS := wSeq w__law_figures_s0 w__law_figures_r1
def w__law_figures : WS := w__law_figures_r0
theorem b'__law_figures {T : Tb} (Z : Zs T)  : VSs T 0 ⟨none, fun _ => true⟩ N__law_figures (defScope s__law_figures) (defBody s__law_figures) ((wSeq (wSet 1 (wEO (wC (.str "")))) (wSeq (wSet 2 (wMove 0)) (wSeq (wWhile (wTB (wBin pGt (wVar 2) (wC (.int 9)))) (wSeq (wSet 1 (wEO (wBin pAdd (wBin pIxS (wC (.str "0123456789")) (wBin pMod (wVar 2) (wC (.int 10)))) (wVar 1)))) (wSet 2 (wEO (wBin pFdiv (wVar 2) (wC (.int 10))))))) (wRet (wEO (wBin pAdd (wBin pIxS (wC (.str "0123456789")) (wVar 2)) (wVar 1)))))))) :=
  (vss_cons (vs_set 1 (VE.o ve_str)) (vss_cons (vs_set 2 (vo_move 0)) (vss_cons (vs_while (vt_cmp (fun _ _ => o_gt) (ve_var 2) ve_int (nomark _)) (vss_cons (vs_set 1 (VE.o (ve_bin (fun _ _ => o_add) (ve_ixS ve_str (ve_bin (fun _ _ => o_mod) (ve_var 2) ve_int)) (ve_var 1)))) (vss_one (vs_set 2 (VE.o (ve_bin (fun _ _ => o_fdiv) (ve_var 2) ve_int)))))) (vss_one (vs_ret (VE.o (ve_bin (fun _ _ => o_add) (ve_ixS ve_str (ve_var 2)) (ve_var 1))))))))
theorem b__law_figures {T : Tb} (Z : Zs T)  : VSs T 0 ⟨none, fun _ => true⟩ N__law_figures (defScope s__law_figures) (defBody s__law_figures) w__law_figures := b'__law_figures Z
def w__law_turn_written_C0 : WE := (wCall fe__law_figures (wCons (wVar 5) wNil))
def w__law_turn_written_s0 : WS := (wAsg (wFE (wLc (wIterT (wVar 0)) (gN 5) wYes w__law_turn_written_C0 [5])) (gTl 4 (gsCons (gN 1) (gsCons (gN 2) (gsCons (gN 3) (gsCons (gN 4) gsNil))))))
def w__law_turn_written_s1 : WS := (wRet (wEO (wBin pAdd (wBin pAdd (wBin pAdd (wBin pAdd (wBin pAdd (wBin pAdd (wVar 1) (wC (.str "-"))) (wVar 2)) (wC (.str " "))) (wVar 3)) (wC (.str "-"))) (wVar 4))))
def w__law_turn_written_r1 : WS := w__law_turn_written_s1
def w__law_turn_written_r0 : WS := wSeq w__law_turn_written_s0 w__law_turn_written_r1
def w__law_turn_written : WS := w__law_turn_written_r0
theorem b'__law_turn_written {T : Tb} (Z : Zs T) (F__law_figures : Fok T "_law_figures" 1 1 fe__law_figures) : VSs T 1 ⟨none, fun _ => true⟩ N__law_turn_written (defScope s__law_turn_written) (defBody s__law_turn_written) ((wSeq (wAsg (wFE (wLc (wIterT (wVar 0)) (gN 5) wYes (wCall fe__law_figures (wCons (wVar 5) wNil)) [5])) (gTl 4 (gsCons (gN 1) (gsCons (gN 2) (gsCons (gN 3) (gsCons (gN 4) gsNil)))))) (wRet (wEO (wBin pAdd (wBin pAdd (wBin pAdd (wBin pAdd (wBin pAdd (wBin pAdd (wVar 1) (wC (.str "-"))) (wVar 2)) (wC (.str " "))) (wVar 3)) (wC (.str "-"))) (wVar 4)))))) :=
  (vss_cons (vs_asg (VF.e (vf_lc [("number", 5)] (vi_tup (ve_var 0)) (vg_name 5) vts_nil (ve_call F__law_figures (va_cons (ve_var 5) va_nil)))) (vg_lst (vgs_cons (vg_name 1) (vgs_cons (vg_name 2) (vgs_cons (vg_name 3) (vgs_cons (vg_name 4) vgs_nil)))))) (vss_one (vs_ret (VE.o (ve_bin (fun _ _ => o_add) (ve_bin (fun _ _ => o_add) (ve_bin (fun _ _ => o_add) (ve_bin (fun _ _ => o_add) (ve_bin (fun _ _ => o_add) (ve_bin (fun _ _ => o_add) (ve_var 1) ve_str) (ve_var 2)) ve_str) (ve_var 3)) ve_str) (ve_var 4))))))
theorem b__law_turn_written {T : Tb} (Z : Zs T) (F__law_figures : Fok T "_law_figures" 1 1 fe__law_figures) : VSs T 1 ⟨none, fun _ => true⟩ N__law_turn_written (defScope s__law_turn_written) (defBody s__law_turn_written) w__law_turn_written := b'__law_turn_written Z F__law_figures
def w__law_rules_written_C0 : WE := (wBin pAdd (wBin pAdd (wCall fe__law_figures (wCons (wVar 4) wNil)) (wVar 2)) (wCall fe__law_figures (wCons (wVar 5) wNil)))
def w__law_rules_written_L1 : WS := (wSet 1 (wFO (wCat (wVar 1) (wFE (wLc (wIterV (wVar 3)) (gTn 2 (gsCons (gN 4) (gsCons (gN 5) gsNil))) wYes w__law_rules_written_C0 [4, 5])))))
def w__law_rules_written_s0 : WS := (wSet 1 (wFO (wLst wNil)))
def w__law_rules_written_s1 : WS := (wFor (wZipS (wCons (wC (.str "+!")) (wCons (wVar 0) wNil))) (gTn 2 (gsCons (gN 2) (gsCons (gN 3) gsNil))) w__law_rules_written_L1)
def w__law_rules_written_s2 : WS := (wRet (wEO (wOrS (wM1 pJoin (wC (.str " ")) (wVar 1)) (wC (.str "-")))))
def w__law_rules_written_r2 : WS := w__law_rules_written_s2
def w__law_rules_written_r1 : WS := wSeq w__law_rules_written_s1 w__law_rules_written_r2
def w__law_rules_written_r0 : WS := wSeq w__law_rules_written_s0 w__law_rules_written_r1
def w__law_rules_written : WS := w__law_rules_written_r0
theorem b'__law_rules_written {T : Tb} (Z : Zs T) (F__law_figures : Fok T "_law_figures" 1 1 fe__law_figures) : VSs T 1 ⟨none, fun _ => true⟩ N__law_rules_written (defScope s__law_rules_written) (defBody s__law_rules_written) ((wSeq (wSet 1 (wFO (wLst wNil))) (wSeq (wFor (wZipS (wCons (wC (.str "+!")) (wCons (wVar 0) wNil))) (gTn 2 (gsCons (gN 2) (gsCons (gN 3) gsNil))) (wSet 1 (wFO (wCat (wVar 1) (wFE (wLc (wIterV (wVar 3)) (gTn 2 (gsCons (gN 4) (gsCons (gN 5) gsNil))) wYes (wBin pAdd (wBin pAdd (wCall fe__law_figures (wCons (wVar 4) wNil)) (wVar 2)) (wCall fe__law_figures (wCons (wVar 5) wNil))) [4, 5])))))) (wRet (wEO (wOrS (wM1 pJoin (wC (.str " ")) (wVar 1)) (wC (.str "-")))))))) :=
  (vss_cons (vs_set 1 (VF.o (vf_lst va_nil))) (vss_cons (vs_for (vi_zipS Z.b_zip (va_cons ve_str (va_cons (ve_var 0) va_nil))) (vg_tup (vgs_cons (vg_name 2) (vgs_cons (vg_name 3) vgs_nil))) (vss_one (vs_set 1 (VF.o (vf_cat (ve_var 1) (VF.e (vf_lc [("a", 4), ("b", 5)] (vi_list (ve_var 3)) (vg_tup (vgs_cons (vg_name 4) (vgs_cons (vg_name 5) vgs_nil))) vts_nil (ve_bin (fun _ _ => o_add) (ve_bin (fun _ _ => o_add) (ve_call F__law_figures (va_cons (ve_var 4) va_nil)) (ve_var 2)) (ve_call F__law_figures (va_cons (ve_var 5) va_nil)))))))))) (vss_one (vs_ret (VE.o (ve_orS (ve_join ve_str (ve_var 1)) (ve_one ve_str)))))))
theorem b__law_rules_written {T : Tb} (Z : Zs T) (F__law_figures : Fok T "_law_figures" 1 1 fe__law_figures) : VSs T 1 ⟨none, fun _ => true⟩ N__law_rules_written (defScope s__law_rules_written) (defBody s__law_rules_written) w__law_rules_written := b'__law_rules_written Z F__law_figures
def w__law_same (fe__law_same : Fe) : WS := (wSeq (wIf (wTB (wIsi2 "tuple" "list" (wVar 1))) (wSeq (wIf (wOr (wTB (wBin pNe (wIsi "tuple" (wVar 0)) (wIsi "tuple" (wVar 1)))) (wTB (wBin pNe (wIsi "list" (wVar 0)) (wIsi "list" (wVar 1))))) (wRet (wEO (wC (.bl false)))) wPass) (wSeq (wIf (wTB (wBin pNe (wCB pLen (wCons (wVar 0) wNil)) (wCB pLen (wCons (wVar 1) wNil)))) (wRet (wEO (wC (.bl false)))) wPass) (wRet (wEO (wBin pEq (wFE (wLc (wRng1 (wCons (wCB pLen (wCons (wVar 1) wNil)) wNil)) (gN 2) (wNot (wTB (wCall fe__law_same (wCons (wBin pIx (wVar 0) (wVar 2)) (wCons (wBin pIx (wVar 1) (wVar 2)) wNil))))) (wVar 2) [2])) (wFE (wLst wNil))))))) wPass) (wSeq (wIf (wOr (wTB (wBin pIsN (wVar 1) (wC .non))) (wTB (wIsi "str" (wVar 1)))) (wRet (wEO (wBin pEq (wVar 0) (wVar 1)))) wPass) (wRet (wEO (wAndV (wIsi "int" (wVar 0)) (wAndV (wNotV (wIsi "bool" (wVar 0))) (wBin pEq (wVar 0) (wVar 1))))))))
theorem b__law_same {T : Tb} (Z : Zs T) {kf : Nat} (fe__law_same : Fe) (F__law_same : Fok T "_law_same" kf 2 fe__law_same)  : VSs T kf ⟨none, fun _ => true⟩ N__law_same (defScope s__law_same) (defBody s__law_same) (w__law_same fe__law_same) :=
  (vss_cons (vs_if (vt_val (ve_isi2 (ve_var 1) Z.b_isinstance Z.b_tuple Z.b_list (by decide +kernel) (by decide +kernel))) (vss_cons (vs_if (VW.t (vw_or (vt_cmp (fun X G => o_ne (hu_gd G)) (ve_isi (ve_var 0) Z.b_isinstance Z.b_tuple (by decide +kernel)) (ve_isi (ve_var 1) Z.b_isinstance Z.b_tuple (by decide +kernel)) (nomark _)) (vw_or1 (vt_cmp (fun X G => o_ne (hu_gd G)) (ve_isi (ve_var 0) Z.b_isinstance Z.b_list (by decide +kernel)) (ve_isi (ve_var 1) Z.b_isinstance Z.b_list (by decide +kernel)) (nomark _))))) (vss_one (vs_ret (VE.o ve_bl))) vss_nil) (vss_cons (vs_if (vt_cmp (fun X G => o_ne (hu_gd G)) (ve_callB (fun X G => c_len) Z.b_len (by decide +kernel) (va_cons (ve_var 0) va_nil)) (ve_callB (fun X G => c_len) Z.b_len (by decide +kernel) (va_cons (ve_var 1) va_nil)) (nomark _)) (vss_one (vs_ret (VE.o ve_bl))) vss_nil) (vss_one (vs_ret (VE.o (ve_cmp (fun X G => o_eq (hu_gd G)) (VF.e (vf_lc [("k", 2)] (vi_range1 Z.b_range (va_cons (ve_callB (fun X G => c_len) Z.b_len (by decide +kernel) (va_cons (ve_var 1) va_nil)) va_nil)) (vg_name 2) (vts_one (vt_not (vt_val (ve_call F__law_same (va_cons (ve_ix (ve_var 0) (ve_var 2)) (va_cons (ve_ix (ve_var 1) (ve_var 2)) va_nil)) (hk := Nat.le_refl _))))) (ve_var 2))) (VF.e (vf_lst va_nil)) (nomark _))))))) vss_nil) (vss_cons (vs_if (VW.t (vw_or (vt_cmp (fun _ _ => o_isN) (ve_var 1) ve_non (nomark _)) (vw_or1 (vt_val (ve_isi (ve_var 1) Z.b_isinstance Z.b_str (by decide +kernel)))))) (vss_one (vs_ret (VE.o (ve_cmp (fun X G => o_eq (hu_gd G)) (ve_var 0) (ve_var 1) (nomark _))))) vss_nil) (vss_one (vs_ret (VE.o (ve_and (ve_isi (ve_var 0) Z.b_isinstance Z.b_int (by decide +kernel)) (ve_and (ve_not (ve_isi (ve_var 0) Z.b_isinstance Z.b_bool (by decide +kernel))) (ve_one (ve_cmp (fun X G => o_eq (hu_gd G)) (ve_var 0) (ve_var 1) (nomark _))))))))))
def w__law_rules_right_L0 : WS := (wSeq (wSet 4 (wCallO fe_rules_text (wCons (wVar 2) wNil))) (wSeq (wIf (wOr (wNot (wTB (wIsi "str" (wVar 4)))) (wOr (wTB (wBin pNe (wVar 4) (wVar 1))) (wTB (wBin pNe (wVar 2) (wVar 0))))) (wRet (wEO (wC (.bl false)))) wPass) (wToldDuo 5 0 0 0 0 (wCallO fe_read_rules (wCons (wVar 1) wNil)) (wNot (wTB (wCall fe__law_same (wCons (wVar 5) (wCons (wVar 0) wNil))))) (wTB (wBin pNe (wBin pIx (wVar 5) (wC (.int 1))) (wBin pIx (wVar 0) (wC (.int 1))))))))
def w__law_rules_right_s0 : WS := (wSet 1 (wCallO fe__law_rules_written (wCons (wVar 0) wNil)))
def w__law_rules_right_s1 : WS := (wSet 2 (wEO (wTup (wCons (wFE (wCF pList (wCons (wBin pIx (wVar 0) (wC (.int 0))) wNil))) (wCons (wFE (wCF pList (wCons (wBin pIx (wVar 0) (wC (.int 1))) wNil))) wNil)))))
def w__law_rules_right_s2 : WS := (wFor (wRng1 (wCons (wC (.int 2)) wNil)) (gN 3) w__law_rules_right_L0)
def w__law_rules_right_s3 : WS := (wRet (wEO (wC (.bl true))))
def w__law_rules_right_r3 : WS := w__law_rules_right_s3
def w__law_rules_right_r2 : WS := wSeq w__law_rules_right_s2 w__law_rules_right_r3
def w__law_rules_right_r1 : WS := wSeq w__law_rules_right_s1 w__law_rules_right_r2
def w__law_rules_right_r0 : WS := wSeq w__law_rules_right_s0 w__law_rules_right_r1
def w__law_rules_right : WS := w__law_rules_right_r0
theorem b'__law_rules_right {T : Tb} (Z : Zs T) (F__law_rules_written : Fok T "_law_rules_written" 2 1 fe__law_rules_written) (F_rules_text : Fok T "rules_text" 9 1 fe_rules_text) (F_read_rules : Fok T "read_rules" 10 1 fe_read_rules) (F__law_same : Fok T "_law_same" 5 2 fe__law_same) : VSs T 10 ⟨none, fun _ => true⟩ N__law_rules_right (defScope s__law_rules_right) (defBody s__law_rules_right) ((wSeq (wSet 1 (wCallO fe__law_rules_written (wCons (wVar 0) wNil))) (wSeq (wSet 2 (wEO (wTup (wCons (wFE (wCF pList (wCons (wBin pIx (wVar 0) (wC (.int 0))) wNil))) (wCons (wFE (wCF pList (wCons (wBin pIx (wVar 0) (wC (.int 1))) wNil))) wNil))))) (wSeq (wFor (wRng1 (wCons (wC (.int 2)) wNil)) (gN 3) (wSeq (wSet 4 (wCallO fe_rules_text (wCons (wVar 2) wNil))) (wSeq (wIf (wOr (wNot (wTB (wIsi "str" (wVar 4)))) (wOr (wTB (wBin pNe (wVar 4) (wVar 1))) (wTB (wBin pNe (wVar 2) (wVar 0))))) (wRet (wEO (wC (.bl false)))) wPass) (wToldDuo 5 0 0 0 0 (wCallO fe_read_rules (wCons (wVar 1) wNil)) (wNot (wTB (wCall fe__law_same (wCons (wVar 5) (wCons (wVar 0) wNil))))) (wTB (wBin pNe (wBin pIx (wVar 5) (wC (.int 1))) (wBin pIx (wVar 0) (wC (.int 1))))))))) (wRet (wEO (wC (.bl true)))))))) :=
  (vss_cons (vs_set 1 (vo_call F__law_rules_written (va_cons (ve_var 0) va_nil))) (vss_cons (vs_set 2 (VE.o (ve_tup (va_cons (VF.e (vf_callT (fun _ _ => c_list) Z.b_list (by decide +kernel) (va_cons (ve_ix (ve_var 0) ve_int) va_nil))) (va_cons (VF.e (vf_callT (fun _ _ => c_list) Z.b_list (by decide +kernel) (va_cons (ve_ix (ve_var 0) ve_int) va_nil))) va_nil))))) (vss_cons (vs_for (vi_range1 Z.b_range (va_cons ve_int va_nil)) (vg_name 3) (vss_cons (vs_set 4 (vo_call F_rules_text (va_cons (ve_var 2) va_nil))) (vss_cons (vs_if (VW.t (vw_or (vt_not (vt_val (ve_isi (ve_var 4) Z.b_isinstance Z.b_str (by decide +kernel)))) (vw_or (vt_cmp (fun X G => o_ne (hu_gd G)) (ve_var 4) (ve_var 1) (nomark _)) (vw_or1 (vt_cmp (fun X G => o_ne (hu_gd G)) (ve_var 2) (ve_var 0) (nomark _)))))) (vss_one (vs_ret (VE.o ve_bl))) vss_nil) (vss_toldDuo 5 (vo_call F_read_rules (va_cons (ve_var 1) va_nil)) (vt_not (vt_val (ve_call F__law_same (va_cons (ve_var 5) (va_cons (ve_var 0) va_nil))))) (vss_one (vs_ret (VE.o ve_bl))) (vt_cmp (fun X G => o_ne (hu_gd G)) (ve_ix (ve_var 5) ve_int) (ve_ix (ve_var 0) ve_int) (nomark _)) (vss_one (vs_ret (VE.o ve_bl))))))) (vss_one (vs_ret (VE.o ve_bl))))))
theorem b__law_rules_right {T : Tb} (Z : Zs T) (F__law_rules_written : Fok T "_law_rules_written" 2 1 fe__law_rules_written) (F_rules_text : Fok T "rules_text" 9 1 fe_rules_text) (F_read_rules : Fok T "read_rules" 10 1 fe_read_rules) (F__law_same : Fok T "_law_same" 5 2 fe__law_same) : VSs T 10 ⟨none, fun _ => true⟩ N__law_rules_right (defScope s__law_rules_right) (defBody s__law_rules_right) w__law_rules_right := b'__law_rules_right Z F__law_rules_written F_rules_text F_read_rules F__law_same
def w_law_L0 : WS := (wSeq (wSet 6 (wCallO fe_turn_text (wCons (wVar 3) wNil))) (wIf (wOr (wNot (wTB (wIsi "str" (wVar 6)))) (wOr (wTB (wBin pNe (wVar 6) (wVar 4))) (wNot (wTB (wCall fe__law_same (wCons (wCall fe_read_turn (wCons (wVar 4) wNil)) (wCons (wVar 3) wNil))))))) (wRet (wEO (wC (.bl false)))) wPass))
def w_law_C1 : WE := (wCall fe__law_some_number (wCons (wVar 2) wNil))
def w_law_L2 : WS := (wSeq (wSet 2 (wCallO fe__law_well (wCons (wVar 1) wNil))) (wSeq (wSet 3 (wEO (wCB pTuple (wCons (wFE (wLc (wRng1 (wCons (wC (.int 4)) wNil)) (gN 7) wYes w_law_C1 [7])) wNil)))) (wSeq (wSet 4 (wCallO fe__law_turn_written (wCons (wVar 3) wNil))) (wSeq (wFor (wRng1 (wCons (wC (.int 2)) wNil)) (gN 5) w_law_L0) (wIf (wNot (wTB (wCall fe__law_rules_right (wCons (wCall fe__law_rules (wCons (wVar 2) wNil)) wNil)))) (wRet (wEO (wC (.bl false)))) wPass)))))
def w_law_s0 : WS := (wFor (wIterV (wFE (wCat (wFE (wLst (wCons (wC (.int 0)) (wCons (wC (.int 5)) wNil)))) (wFE (wSl (wVar 0) wNoP (wP (wC (.int 8)))))))) (gN 1) w_law_L2)
def w_law_s1 : WS := (wRet (wEO (wAndV (wBin pEq (wCall fe_rules_text (wCons (wTup (wCons (wFE (wLst (wCons (wTup (wCons (wC (.int 0)) (wCons (wC (.int 1)) wNil))) wNil))) (wCons (wFE (wLst (wCons (wTup (wCons (wC (.int 2)) (wCons (wC (.int 0)) wNil))) wNil))) wNil))) wNil)) (wC (.str "0+1 2!0"))) (wBin pEq (wCall fe_read_turn (wCons (wC (.str "1-2 2-4")) wNil)) (wTup (wCons (wC (.int 1)) (wCons (wC (.int 2)) (wCons (wC (.int 2)) (wCons (wC (.int 4)) wNil)))))))))
def w_law_r1 : WS := w_law_s1
def w_law_r0 : WS := wSeq w_law_s0 w_law_r1
def w_law : WS := w_law_r0
theorem b'_law {T : Tb} (Z : Zs T) (F__law_well : Fok T "_law_well" 1 1 fe__law_well) (F__law_turn_written : Fok T "_law_turn_written" 2 1 fe__law_turn_written) (F_turn_text : Fok T "turn_text" 4 1 fe_turn_text) (F__law_rules_right : Fok T "_law_rules_right" 11 1 fe__law_rules_right) (F_rules_text : Fok T "rules_text" 9 1 fe_rules_text) (F_read_turn : Fok T "read_turn" 5 1 fe_read_turn) (F__law_some_number : Fok T "_law_some_number" 2 1 fe__law_some_number) (F__law_rules : Fok T "_law_rules" 3 1 fe__law_rules) (F__law_same : Fok T "_law_same" 5 2 fe__law_same) : VSs T 11 ⟨none, fun _ => true⟩ N_law (defScope s_law) (defBody s_law) ((wSeq (wFor (wIterV (wFE (wCat (wFE (wLst (wCons (wC (.int 0)) (wCons (wC (.int 5)) wNil)))) (wFE (wSl (wVar 0) wNoP (wP (wC (.int 8)))))))) (gN 1) (wSeq (wSet 2 (wCallO fe__law_well (wCons (wVar 1) wNil))) (wSeq (wSet 3 (wEO (wCB pTuple (wCons (wFE (wLc (wRng1 (wCons (wC (.int 4)) wNil)) (gN 7) wYes (wCall fe__law_some_number (wCons (wVar 2) wNil)) [7])) wNil)))) (wSeq (wSet 4 (wCallO fe__law_turn_written (wCons (wVar 3) wNil))) (wSeq (wFor (wRng1 (wCons (wC (.int 2)) wNil)) (gN 5) (wSeq (wSet 6 (wCallO fe_turn_text (wCons (wVar 3) wNil))) (wIf (wOr (wNot (wTB (wIsi "str" (wVar 6)))) (wOr (wTB (wBin pNe (wVar 6) (wVar 4))) (wNot (wTB (wCall fe__law_same (wCons (wCall fe_read_turn (wCons (wVar 4) wNil)) (wCons (wVar 3) wNil))))))) (wRet (wEO (wC (.bl false)))) wPass))) (wIf (wNot (wTB (wCall fe__law_rules_right (wCons (wCall fe__law_rules (wCons (wVar 2) wNil)) wNil)))) (wRet (wEO (wC (.bl false)))) wPass)))))) (wRet (wEO (wAndV (wBin pEq (wCall fe_rules_text (wCons (wTup (wCons (wFE (wLst (wCons (wTup (wCons (wC (.int 0)) (wCons (wC (.int 1)) wNil))) wNil))) (wCons (wFE (wLst (wCons (wTup (wCons (wC (.int 2)) (wCons (wC (.int 0)) wNil))) wNil))) wNil))) wNil)) (wC (.str "0+1 2!0"))) (wBin pEq (wCall fe_read_turn (wCons (wC (.str "1-2 2-4")) wNil)) (wTup (wCons (wC (.int 1)) (wCons (wC (.int 2)) (wCons (wC (.int 2)) (wCons (wC (.int 4)) wNil))))))))))) :=
  (vss_cons (vs_for (vi_list (VF.e (vf_cat (VF.e (vf_lst (va_cons ve_int (va_cons ve_int va_nil)))) (VF.e (vf_sl (ve_var 0) vp_none (vp_some ve_int)))))) (vg_name 1) (vss_cons (vs_set 2 (vo_call F__law_well (va_cons (ve_var 1) va_nil))) (vss_cons (vs_set 3 (VE.o (ve_callT (fun X G => c_tuple) Z.b_tuple (by decide +kernel) (va_cons (VF.e (vf_lc [("k", 7)] (vi_range1 Z.b_range (va_cons ve_int va_nil)) (vg_name 7) vts_nil (ve_call F__law_some_number (va_cons (ve_var 2) va_nil)))) va_nil)))) (vss_cons (vs_set 4 (vo_call F__law_turn_written (va_cons (ve_var 3) va_nil))) (vss_cons (vs_for (vi_range1 Z.b_range (va_cons ve_int va_nil)) (vg_name 5) (vss_cons (vs_set 6 (vo_call F_turn_text (va_cons (ve_var 3) va_nil))) (vss_one (vs_if (VW.t (vw_or (vt_not (vt_val (ve_isi (ve_var 6) Z.b_isinstance Z.b_str (by decide +kernel)))) (vw_or (vt_cmp (fun X G => o_ne (hu_gd G)) (ve_var 6) (ve_var 4) (nomark _)) (vw_or1 (vt_not (vt_val (ve_call F__law_same (va_cons (ve_call F_read_turn (va_cons (ve_var 4) va_nil)) (va_cons (ve_var 3) va_nil))))))))) (vss_one (vs_ret (VE.o ve_bl))) vss_nil)))) (vss_one (vs_if (vt_not (vt_val (ve_call F__law_rules_right (va_cons (ve_call F__law_rules (va_cons (ve_var 2) va_nil)) va_nil)))) (vss_one (vs_ret (VE.o ve_bl))) vss_nil))))))) (vss_one (vs_ret (VE.o (ve_and (ve_cmp (fun X G => o_eq (hu_gd G)) (ve_call F_rules_text (va_cons (ve_tup (va_cons (VF.e (vf_lst (va_cons (ve_tup (va_cons ve_int (va_cons ve_int va_nil))) va_nil))) (va_cons (VF.e (vf_lst (va_cons (ve_tup (va_cons ve_int (va_cons ve_int va_nil))) va_nil))) va_nil))) va_nil)) ve_str (nomark _)) (ve_one (ve_cmp (fun X G => o_eq (hu_gd G)) (ve_call F_read_turn (va_cons ve_str va_nil)) (ve_tup (va_cons ve_int (va_cons ve_int (va_cons ve_int (va_cons ve_int va_nil))))) (nomark _))))))))
theorem b_law {T : Tb} (Z : Zs T) (F__law_well : Fok T "_law_well" 1 1 fe__law_well) (F__law_turn_written : Fok T "_law_turn_written" 2 1 fe__law_turn_written) (F_turn_text : Fok T "turn_text" 4 1 fe_turn_text) (F__law_rules_right : Fok T "_law_rules_right" 11 1 fe__law_rules_right) (F_rules_text : Fok T "rules_text" 9 1 fe_rules_text) (F_read_turn : Fok T "read_turn" 5 1 fe_read_turn) (F__law_some_number : Fok T "_law_some_number" 2 1 fe__law_some_number) (F__law_rules : Fok T "_law_rules" 3 1 fe__law_rules) (F__law_same : Fok T "_law_same" 5 2 fe__law_same) : VSs T 11 ⟨none, fun _ => true⟩ N_law (defScope s_law) (defBody s_law) w_law := b'_law Z F__law_well F__law_turn_written F_turn_text F__law_rules_right F_rules_text F_read_turn F__law_some_number F__law_rules F__law_same
theorem p_is_whole : ∀ ds κ, sp_is_whole ds κ → w_is_whole (En0 false κ) (startE false 1 ds) := by
  rintro ds κ ⟨d, rfl, hp, h⟩
  cases d <;> first | exact h | cases hp
theorem p_is_from_0 : ∀ ds κ, sp_is_from_0 ds κ → w_is_from_0 (En0 false κ) (startE false 1 ds) := by
  rintro ds κ ⟨d, rfl, hp, h⟩
  conv => whnf
  refine ⟨_, rfl, hp, ?_⟩
  cases d <;> exact h
section
variable {n : Int} {ts0 : List D} {E : Pn}
end
section
variable {M : List (List Int)} {d : Int} {s : Nat} (hs : MT.Sq M (s + 1)) (h7 : s ≤ 7) (hd : 0 < d ∧ d < 2 ^ 30) (hm : ∀ i j, -(2 ^ 64) < MT.mx M i j ∧ MT.mx M i j < 2 ^ 64)
include hs h7 hd hm
end
section
variable {E : List MT.Tie} {m : Nat} {B : MT.Mx} {κ : Cell → D → Prop} (hm : m ≤ 6) (hE : E.length ≤ 20) (hB : ∀ i j, i < m → j < m → B i j = MT.lap E i j) (hκ : κ (.sh (.int (MT.det m (MT.lap E)))) .non)
include hm hE hB hκ
end
theorem p__law_well : ∀ ds κ, sp__law_well ds κ → w__law_well (En0 false κ) (startE false 1 ds) := by
  rintro ds κ ⟨c, rfl, h⟩
  have cp18 : L2.CPow 10 18 := ⟨by decide, by decide, by decide⟩
  have hn := Int.emod_nonneg c (b := 2147483629) (by decide)
  have hl := Int.emod_lt_of_pos c (b := 2147483629) (by decide)
  refine ⟨cp18, ?_⟩
  show (match decide ((10 : Int) ^ (18 : Int).toNat ≤ c) with | true => _ | false => _)
  cases hd : decide ((10 : Int) ^ (18 : Int).toNat ≤ c) with
  | true =>
    have hd := of_decide_eq_true hd
    exact ⟨(by decide : (0 : Int) < 2147483629), h _ ⟨c, _, rfl, by
      have : (0 : Int) ≤ (10 : Int) ^ (18 : Int).toNat := by decide +kernel
      exact Int.le_trans this hd, hn, hl⟩⟩
  | false => exact ⟨(by decide : (0 : Int) < 2147483629), h _ ⟨0, _, rfl, by decide, hn, hl⟩⟩
theorem p__law_draw : ∀ ds κ, sp__law_draw ds κ → w__law_draw (En0 true κ) (startE true 4 ds) := by
  rintro ds κ ⟨w, m, rfl, ⟨⟨a, b, rfl, ha, hb0, hb1⟩, hm0, hm1⟩, h⟩
  refine ⟨.int a, rfl, ?_⟩
  show (match decide (0 < a) with | true => _ | false => _)
  cases h0 : decide (0 < a) with
  | true =>
    refine ⟨.int a, rfl, hm0, ?_⟩
    refine ⟨.int a, rfl, ⟨hm0, hm1⟩, ⟨rfl, rfl⟩, rfl, 0, rfl, ?_⟩
    exact h _ _ (Int.emod_nonneg _ (by omega)) (Int.emod_lt_of_pos _ hm0) ⟨a / m, b, rfl, Int.ediv_nonneg ha (by omega), hb0, hb1⟩
  | false =>
    refine ⟨.int b, rfl, .inr ⟨by decide, by decide⟩, (by decide : (0 : Int) < 2147483647), ?_⟩
    refine ⟨mul_mod (by decide) (by decide), (by decide : (0 : Int) < 2147483587), ?_⟩
    refine ⟨.inr ⟨by decide, by decide⟩, (by decide : (0 : Int) < 2147483629), ⟨rfl, rfl⟩, rfl, 1, rfl, ?_⟩
    refine ⟨_, rfl, ⟨by decide, by decide⟩, hm0, ?_⟩
    exact h _ _ (Int.emod_nonneg _ (by omega)) (Int.emod_lt_of_pos _ hm0) ⟨a, _, rfl, ha, Int.emod_nonneg _ (by decide), Int.emod_lt_of_pos _ (by decide)⟩
theorem b32 : Str.ofString " " = one 32 := by decide +kernel
theorem b48 : Str.ofString "0" = one 48 := by decide +kernel
theorem b45 : Str.ofString "-" = one 45 := by decide +kernel
theorem smallS {n : Nat} (h : n ≤ 1000000) : n ≤ sizeLine := Nat.le_trans h (by decide)
section
end
theorem p_text_of_words : ∀ ds κ, sp_text_of_words ds κ → w_text_of_words (En0 false κ) (startE false 1 ds) := by
  rintro ds κ ⟨ws, rfl, ⟨hl, hw⟩, h⟩
  cases ws with
  | nil => exact h
  | cons w r =>
    have hs := sum_len (w :: r) 100 hw
    have h1 : (Str.ofString " ").length = 1 := by decide +kernel
    refine ⟨rfl, w :: r, rfl, ?_, ?_⟩
    · rw [h1]
      have : (w :: r).length * 100 ≤ 100 * 100 := Nat.mul_le_mul_right _ hl
      omega
    · have h : κ (.sh (.str (Txt.join (one 32) (w :: r)))) .non := h
      rw [← b32] at h
      exact h
theorem fig_ne {i : Int} (h : 0 ≤ i) : fig i ≠ Str.ofString "" := fun e => by
  have := congrArg (fun s : Str => s.cps.toList) e
  rw [fig_list h] at this
  exact dg_ne _ (this.trans (by decide +kernel))
theorem p_is_number_word : ∀ ds κ, sp_is_number_word ds κ → w_is_number_word (En0 false κ) (startE false 2 ds) := by
  rintro ds κ ⟨i, rfl, hi, h⟩
  have hlen := fig_len hi
  conv => whnf
  cases hd : decide (fig i = Str.ofString "0") with
  | true =>
    simp only [hd]
    exact h
  | false =>
    simp only [hd]
    conv => whnf
    simp only [decide_eq_false (fig_ne hi.1), Bool.not_false]
    obtain ⟨c, r, e, hc⟩ := dg_head i.toNat
    have e' : (fig i).cps.toList = c :: r := by rw [fig_list hi.1, e]
    refine ⟨smallS (by omega), c, by rw [e']; unfold atI; rw [ixN_of (by decide) (by simp only [List.length_cons]; omega)]; rfl, ?_⟩
    have hne : (⟨#[c]⟩ : Str) ≠ Str.ofString "0" := fun z => by
      rw [b48] at z
      have z' : c = 48 := by
        have := congrArg (fun s : Str => s.cps.toList) z
        exact (List.cons.inj this).1
      have h0 : i = 0 := by have := hc z'; omega
      subst h0
      exact absurd (by decide +kernel : fig 0 = Str.ofString "0") (of_decide_eq_false hd)
    conv => whnf
    simp only [decide_eq_false hne, Bool.not_false]
    refine ⟨rfl, ?_⟩
    refine genAll (ρ0 := [some (.sh (.str (fig i))), none]) (v := 1) (fun _ => true) (fun t ht Q' q => ?_) ?_
    · obtain ⟨x, hx, rfl⟩ := List.mem_map.mp ht
      rw [fig_list hi.1] at hx
      have hf := (find_fig (dg_all _ x hx)).2
      refine ⟨x, rfl, ?_⟩
      rw [decide_eq_true hf]
      exact q
    · rw [List.all_eq_true.mpr fun _ _ => rfl]
      exact h
theorem rn_loop {c0 : Option Cell} {E : Pn} : ∀ (l : List Nat) (v : Int) (k : Nat) (c2 : Option Cell), Sl c2 → (∀ c ∈ l, 48 ≤ c ∧ c ≤ 57) → 0 ≤ v → v < 10 ^ k → k + l.length ≤ 100 → (∀ c2, E.nx [c0, some (.sh (.int (valD v l))), c2]) →
    forL (gN 2) w_read_number_L0 (l.map fun c => D.str ⟨#[c]⟩) E [c0, some (.sh (.int v)), c2]
  | [], v, k, c2, _, _, _, _, _, h => h c2
  | c :: l, v, k, c2, h2, hl, h0, h1, hk, h => by
    simp only [List.length_cons] at hk
    have hc := hl c List.mem_cons_self
    have hf := (find_fig hc).1
    have next := rn_loop (c0 := c0) (E := E) l (v * 10 + ((c : Int) - 48)) (k + 1) (some (.sh (.str ⟨#[c]⟩))) .sh (fun x hx => hl x (List.mem_cons_of_mem _ hx)) (by omega) (by rw [Int.pow_succ]; omega) (by omega) h
    have e : Txt.find (Str.ofString "0123456789") ⟨#[c]⟩ = (c : Int) - 48 := hf
    have next' : forL (gN 2) w_read_number_L0 (l.map fun c => D.str ⟨#[c]⟩) E [c0, some (.sh (.int (v * 10 + Txt.find (Str.ofString "0123456789") ⟨#[c]⟩))), some (.sh (.str ⟨#[c]⟩))] := by rw [e]; exact next
    have cm : CMul v 10 := .inr ⟨by decide, by decide⟩
    rcases h2 with rfl | ⟨_, rfl⟩ <;> exact ⟨cm, rfl, by rw [e]; omega, next'⟩
theorem p_read_number : ∀ ds κ, sp_read_number ds κ → w_read_number (En0 false κ) (startE false 3 ds) := by
  rintro ds κ ⟨i, rfl, hi, h⟩
  refine ⟨i, rfl, hi, ?_⟩
  show w_read_number_r2 (En0 false κ) [some (.sh (.str (fig i))), some (.sh (.int 0)), none]
  show forL (gN 2) w_read_number_L0 ((fig i).cps.toList.map fun c => D.str ⟨#[c]⟩) { En0 false κ with nx := fun ρ' => w_read_number_r3 (En0 false κ) ρ' } [some (.sh (.str (fig i))), some (.sh (.int 0)), none]
  rw [fig_list hi.1]
  have hl := fig_len hi
  rw [len_list, fig_list hi.1] at hl
  refine rn_loop (dg i.toNat) 0 1 none .non (dg_all _) (by decide) (by decide) (by omega) fun c2 => ?_
  rw [valD_dg, Int.toNat_of_nonneg hi.1]
  exact h
theorem p_read_pair : ∀ ds κ, sp_read_pair ds κ → w_read_pair (En0 false κ) (startE false 3 ds) := by
  rintro ds κ ⟨c, a, b, rfl, ⟨hc, ha, hb⟩, h⟩
  have hl := pair_len (c := c) ha hb
  refine ⟨rfl, rfl, smallS (by omega), ?_⟩
  rw [pair_split ha.1 hb.1 hc]
  exact ⟨.str (fig a), rfl, a, rfl, ha, .str (fig b), rfl, b, rfl, hb, h⟩
theorem p_words_of : ∀ ds κ, sp_words_of ds κ → w_words_of (En0 false κ) (startE false 1 ds) := by
  rintro ds κ ⟨x, rfl, hl, h⟩
  rw [← b32] at h
  exact ⟨rfl, by decide +kernel, smallS (by omega), h⟩
theorem str_ok {x : Str} (h : Signs x) : seqd (.str x) = true := by
  show PyData.strOk x = true
  unfold PyData.strOk
  rw [← Array.all_toList]
  exact List.all_eq_true.mpr fun c hc => decide_eq_true (h c hc)
theorem strs_seq {xs : List Str} (h : ∀ x ∈ xs, Signs x) : seqd (.lst (xs.map D.str)) = true ∧ dep (.lst (xs.map D.str)) := by
  refine ⟨seqds_all fun t ht => ?_, ?_⟩
  · obtain ⟨x, hx, rfl⟩ := List.mem_map.mp ht
    exact str_ok (h x hx)
  · show (toPy (.lst (xs.map D.str))).depth ≤ 64
    simp only [toPy, PyData.depth]
    have := depthAll_le (k := 0) (xs := xs.map D.str) fun x hx => by
      obtain ⟨y, _, rfl⟩ := List.mem_map.mp hx
      exact Nat.le_of_eq (by simp only [toPy, PyData.depth])
    omega
theorem str_beq (x y : Str) : (x == y) = decide (x = y) := by
  by_cases h : x = y
  · subst h
    rw [decide_eq_true rfl]
    exact beq_self_eq_true x
  · rw [decide_eq_false h]
    exact beq_eq_false_iff_ne.mpr h
theorem strs_eqv : ∀ (xs ys : List Str), PyData.eqvAll (toPys (xs.map D.str)) (toPys (ys.map D.str)) = decide (xs = ys)
  | [], [] => by simp [toPys, PyData.eqvAll]
  | [], y :: ys => by simp [toPys, PyData.eqvAll]
  | x :: xs, [] => by simp [toPys, PyData.eqvAll]
  | x :: xs, y :: ys => by
    have ih := strs_eqv xs ys
    rw [List.map_cons, List.map_cons]
    simp only [toPys, toPy, PyData.eqvAll, PyData.eqv, ih, str_beq]
    by_cases h : x = y
    · subst h; simp
    · simp [h]
theorem strs_eq (xs ys : List Str) : eqD (.lst (xs.map D.str)) (.lst (ys.map D.str)) = decide (xs = ys) := by
  unfold eqD
  simp only [toPy, PyData.eqv, strs_eqv]
theorem fig_signs {i : Int} (h : 0 ≤ i) : Signs (fig i) := fun c hc => by
  rw [fig_list h] at hc
  have := dg_all _ c hc
  omega
theorem p_words_or_none : ∀ ds κ, sp_words_or_none ds κ → w_words_or_none (En0 false κ) (startE false 2 ds) := by
  rintro ds κ ⟨x, rfl, ⟨hl, hs⟩, h⟩
  refine ⟨x, rfl, hl, ?_⟩
  show w_words_or_none_r1 (En0 false κ) [some (.sh (.str x)), some (.ow (.lst ((Txt.split x (one 32)).map D.str)))]
  unfold wordsN at h
  generalize Txt.split x (one 32) = ws at hs h
  refine ⟨strs_seq hs, strs_seq (xs := ["-"]) fun y hy => ?_, ?_⟩
  · rw [List.mem_singleton.mp hy, b45]
    intro c hc
    rw [show (one 45).cps.toList = [45] from rfl, List.mem_singleton] at hc
    omega
  · generalize hb2 : eqD _ _ = b
    have eb : b = decide (ws = [("-" : Str)]) := hb2.symm.trans (strs_eq ws [("-" : Str)])
    subst eb
    by_cases hw : ws = [("-" : Str)]
    · rw [if_pos hw] at h
      rw [decide_eq_true hw]
      exact h
    · rw [if_neg hw] at h
      rw [decide_eq_false hw]
      exact h
theorem p__law_some_number : ∀ ds κ, sp__law_some_number ds κ → w__law_some_number (En0 true κ) (startE true 2 ds) := by
  rintro ds κ ⟨w, rfl, hw, h⟩
  have c39 : L2.CPow 10 39 := ⟨by decide, by decide, by decide⟩
  have c9 : L2.CPow 10 9 := ⟨by decide, by decide, by decide⟩
  refine ⟨rfl, w, 10, rfl, ⟨hw, by decide, by decide⟩, fun r1 w1 h10 h11 hw1 => ?_⟩
  refine ⟨rfl, w1, 41, rfl, ⟨hw1, by decide, by decide⟩, fun r2 w2 h20 h21 hw2 => ?_⟩
  refine ⟨rfl, w2, 1000, rfl, ⟨hw2, by decide, by decide⟩, fun r3 w3 h30 h31 hw3 => ?_⟩
  refine ⟨c39, c9, rfl, w3, 10 ^ 9, rfl, ⟨hw3, by decide, by decide⟩, fun r4 w4 h40 h41 hw4 => ?_⟩
  have e9 : (10 : Int) ^ 9 = 1000000000 := by decide +kernel
  have e39 : (10 : Int) ^ 39 < 10 ^ 40 - 1000000000 := by decide +kernel
  have e39' : 0 ≤ (10 : Int) ^ 39 := by decide +kernel
  have e40 : (1000 : Int) < 10 ^ 40 := by decide +kernel
  show w__law_some_number_r1 (En0 true κ) [some (.mu w4), some (.ow (.lst [.int r1, .int r2, .int r3, .int ((10 : Int) ^ 39 + r4), .int 0]))]
  refine ⟨rfl, w4, 8, rfl, ⟨hw4, by decide, by decide⟩, fun r5 w5 h50 h51 hw5 => ?_⟩
  obtain ⟨x, ex, j, rfl, hj⟩ := atAll (xs := [D.int 0, .int 0, .int 0, .int 1, .int 1, .int 2, .int 3, .int 4]) (P := fun d => ∃ j : Int, d = .int j ∧ 0 ≤ j ∧ j < 5) (r := r5) (fun d hd => by
    simp only [List.mem_cons, List.not_mem_nil, or_false] at hd
    rcases hd with rfl | rfl | rfl | rfl | rfl | rfl | rfl | rfl <;> exact ⟨_, rfl, by decide⟩) h50 h51
  refine ⟨.int j, ex, ?_⟩
  obtain ⟨y, ey, i, rfl, hi⟩ := atAll (xs := [D.int r1, .int r2, .int r3, .int ((10 : Int) ^ 39 + r4), .int 0]) (P := fun d => ∃ i : Int, d = .int i ∧ 0 ≤ i ∧ i < 10 ^ 40) (r := j) (fun d hd => by
    simp only [List.mem_cons, List.not_mem_nil, or_false] at hd
    rcases hd with rfl | rfl | rfl | rfl | rfl
    · exact ⟨_, rfl, by omega⟩
    · exact ⟨_, rfl, by omega⟩
    · exact ⟨_, rfl, by omega⟩
    · exact ⟨_, rfl, by omega⟩
    · exact ⟨_, rfl, by omega⟩) hj.1 hj.2
  exact ⟨.int i, ey, h i w5 hi.1 hi.2 hw5⟩
theorem p_is_rule : ∀ ds κ, sp_is_rule ds κ → w_is_rule (En0 false κ) (startE false 2 ds) := by
  rintro ds κ ⟨d, rfl, hp, h⟩
  cases d with
  | tup xs =>
    have hm := plain_mem (show plains xs = true from hp)
    match xs, hm, h with
    | [], _, h => exact h
    | [_], _, h => exact h
    | [a, b], hm, h =>
      refine ⟨rfl, ?_⟩
      refine genAll (ρ0 := [some (.sh (.tup [a, b])), none]) (v := 1) isFrom0 (fun t ht Q' q => ?_) ?_
      · exact ⟨t, rfl, hm t ht, q⟩
      · have e : [a, b].all isFrom0 = isRule (.tup [a, b]) := by show (isFrom0 a && (isFrom0 b && true)) = _; rw [Bool.and_true]; rfl
        rw [e]
        exact h
    | x :: y :: z :: r, _, h =>
      have e : decide ((((x :: y :: z :: r).length : Nat) : Int) = 2) = false := decide_eq_false (by simp only [List.length_cons]; omega)
      exact h
  | fn x => cases hp
  | exc x => cases hp
  | _ => exact h
theorem p_are_of_a_kind : ∀ ds κ, sp_are_of_a_kind ds κ → w_are_of_a_kind (En0 false κ) (startE false 2 ds) := by
  rintro ds κ ⟨d, rfl, hp, h⟩
  cases d with
  | lst xs =>
    conv => whnf
    have h : κ (.sh (.bl (decide (xs.length ≤ 40) && xs.all isRule))) .non := h
    have e : decide (xs.length ≤ 40) = decide ((xs.length : Int) ≤ 40) := by
      by_cases hl : xs.length ≤ 40
      · rw [decide_eq_true hl, decide_eq_true (by omega)]
      · rw [decide_eq_false hl, decide_eq_false (by omega)]
    rw [e] at h
    cases hd : decide ((xs.length : Int) ≤ 40) with
    | false =>
      simp only [hd]
      rw [hd] at h
      exact h
    | true =>
      simp only [hd]
      rw [hd, Bool.true_and] at h
      refine ⟨rfl, ?_⟩
      refine genAll (ρ0 := [some (.sh (.lst xs)), none]) (v := 1) isRule (fun t ht Q' q => ?_) ?_
      · exact ⟨t, rfl, plain_mem (show plains xs = true from hp) t ht, q⟩
      · exact h
  | fn x => cases hp
  | exc x => cases hp
  | _ => exact h
theorem p_look_like_rules : ∀ ds κ, sp_look_like_rules ds κ → w_look_like_rules (En0 false κ) (startE false 2 ds) := by
  rintro ds κ ⟨d, rfl, hp, h⟩
  cases d with
  | tup xs =>
    have hm := plain_mem (show plains xs = true from hp)
    match xs, hm, h with
    | [], _, h => exact h
    | [_], _, h => exact h
    | [a, b], hm, h =>
      refine ⟨rfl, ?_⟩
      refine genAll (ρ0 := [some (.sh (.tup [a, b])), none]) (v := 1) isKind (fun t ht Q' q => ?_) ?_
      · exact ⟨t, rfl, hm t ht, q⟩
      · have e : [a, b].all isKind = looksD (.tup [a, b]) := by show (isKind a && (isKind b && true)) = _; rw [Bool.and_true]; rfl
        rw [e]
        exact h
    | x :: y :: z :: r, _, h =>
      have e : decide ((((x :: y :: z :: r).length : Nat) : Int) = 2) = false := decide_eq_false (by simp only [List.length_cons]; omega)
      exact h
  | fn x => cases hp
  | exc x => cases hp
  | _ => exact h
theorem b43 : Str.ofString "+" = one 43 := by decide +kernel
theorem b33 : Str.ofString "!" = one 33 := by decide +kernel
theorem turn_is {i j k l : Int} (h : (BdT i ∧ BdT j) ∧ BdT k ∧ BdT l) : isTurnN (turnD4 i j k l) = true := by
  obtain ⟨⟨h1, h2⟩, h3, h4⟩ := h
  show (decide ((4 : Nat) = 4) && (decide (0 ≤ i) && (decide (0 ≤ j) && (decide (0 ≤ k) && (decide (0 ≤ l) && true))))) = true
  rw [decide_eq_true h1.1, decide_eq_true h2.1, decide_eq_true h3.1, decide_eq_true h4.1]
  rfl
theorem tt_gen {xs : List D} (hm : ∀ x ∈ xs, L2.plain x = true) {ρ : Env'} {Q : Bool → Env' → Prop} (e0 : ρ = [some (.sh (.tup xs)), none, none, none, none, none]) (h : Q (xs.all isFrom0) ρ) :
    genL false (gN 5) w_turn_text_C0 [5] xs ρ Q := by
  subst e0
  exact genAll (ρ0 := [some (.sh (.tup xs)), none, none, none, none, none]) (v := 5) isFrom0 (fun t ht Q' q => ⟨t, rfl, hm t ht, q⟩) h
theorem p_turn_text : ∀ ds κ, sp_turn_text ds κ → w_turn_text (En0 false κ) (startE false 6 ds) := by
  rintro ds κ ⟨i, j, k, l, rfl, hb, h⟩
  have ht := turn_is hb
  obtain ⟨⟨h1, h2⟩, h3, h4⟩ := hb
  have z1 := fig_len h1
  have z2 := fig_len h2
  have z3 := fig_len h3
  have z4 := fig_len h4
  refine ⟨rfl, ?_⟩
  refine tt_gen (xs := [.int i, .int j, .int k, .int l]) (fun x hx => by
    simp only [List.mem_cons, List.not_mem_nil, or_false] at hx
    rcases hx with rfl | rfl | rfl | rfl <;> rfl) rfl ?_
  have e : [D.int i, .int j, .int k, .int l].all isFrom0 = true := ht
  rw [e]
  refine ⟨rfl, rfl, by decide +kernel, i, rfl, fig_log h1, Nat.le_trans z1 (by decide), j, rfl, fig_log h2, Nat.le_trans z2 (by decide), k, rfl, fig_log h3, Nat.le_trans z3 (by decide), l, rfl, fig_log h4, Nat.le_trans z4 (by decide), ?_⟩
  have et : turnW i j k l = fig i ++ Str.ofString "-" ++ fig j ++ Str.ofString " " ++ fig k ++ Str.ofString "-" ++ fig l := by
    rw [b32, b45]
    refine ext_toList ?_
    unfold turnW pairW
    simp only [app_list, List.append_assoc]
  rw [et] at h
  exact h
theorem pw_len {c : Nat} {a b : Int} (ha : BdT a) (hb : BdT b) : (pairW c a b).length ≤ 83 := pair_len ha hb
theorem p_read_turn : ∀ ds κ, sp_read_turn ds κ → w_read_turn (En0 false κ) (startE false 2 ds) := by
  rintro ds κ ⟨i, j, k, l, rfl, ⟨⟨h1, h2⟩, h3, h4⟩, h⟩
  have l1 := pw_len (c := 45) h1 h2
  have l2 := pw_len (c := 45) h3 h4
  have hl : (turnW i j k l).length ≤ 200 := by
    unfold turnW
    rw [L2.str_len, L2.str_len]
    show _ + 1 + _ ≤ 200
    omega
  have hs : Txt.split (turnW i j k l) (one 32) = [pairW 45 i j, pairW 45 k l] := by
    unfold turnW
    rw [← join_two]
    exact split_join (by simp) fun y hy => by
      simp only [List.mem_cons, List.not_mem_nil, or_false] at hy
      rcases hy with rfl | rfl
      · exact pair_free h1.1 h2.1 (.inl (by decide)) (by decide)
      · exact pair_free h3.1 h4.1 (.inl (by decide)) (by decide)
  refine ⟨turnW i j k l, rfl, by omega, ?_⟩
  rw [hs]
  refine ⟨_, rfl, 45, i, j, by rw [← b45], ⟨.inl (by decide), h1, h2⟩, _, rfl, 45, k, l, by rw [← b45], ⟨.inl (by decide), h3, h4⟩, show 2 + 2 ≤ sizeLine by decide, h⟩
theorem kind_is {es : List (Int × Int)} (hl : es.length ≤ 40) (h : ∀ e ∈ es, BdT e.1 ∧ BdT e.2) : isKind (.lst (es.map ruD)) = true := by
  show (decide ((es.map ruD).length ≤ 40) && (es.map ruD).all isRule) = true
  rw [decide_eq_true (by rw [List.length_map]; exact hl), Bool.true_and, List.all_map]
  refine List.all_eq_true.mpr fun e he => ?_
  show (decide (0 ≤ e.1) && decide (0 ≤ e.2)) = true
  rw [decide_eq_true (h e he).1.1, decide_eq_true (h e he).2.1]
  rfl
theorem rules_is {hs bs : List (Int × Int)} (h : RulesW hs bs) : looksD (rulesD hs bs) = true := by
  show (isKind (.lst (hs.map ruD)) && isKind (.lst (bs.map ruD))) = true
  rw [kind_is h.1.1 h.2.1, kind_is h.1.2 h.2.2]
  rfl
theorem rules_plain (hs bs : List (Int × Int)) : L2.plain (rulesD hs bs) = true := by
  have one : ∀ es : List (Int × Int), L2.plain (.lst (es.map ruD)) = true := fun es => plains_of fun x hx => by
    obtain ⟨e, _, rfl⟩ := List.mem_map.mp hx
    rfl
  show (L2.plain (.lst (hs.map ruD)) && (L2.plain (.lst (bs.map ruD)) && true)) = true
  rw [one hs, one bs]
  rfl
theorem ruleWs_len {hs bs : List (Int × Int)} (h : RulesW hs bs) : (ruleWs hs bs).length ≤ 80 ∧ ∀ y ∈ ruleWs hs bs, y.length ≤ 83 := by
  refine ⟨?_, fun y hy => ?_⟩
  · unfold ruleWs
    rw [List.length_append, List.length_map, List.length_map]
    have := h.1
    omega
  · rcases List.mem_append.mp hy with hy | hy
    · obtain ⟨e, he, rfl⟩ := List.mem_map.mp hy
      exact pw_len (h.2.1 e he).1 (h.2.1 e he).2
    · obtain ⟨e, he, rfl⟩ := List.mem_map.mp hy
      exact pw_len (h.2.2 e he).1 (h.2.2 e he).2
theorem rt_lc {c : Nat} {m : Str} {C : WE} (hC : C = wFst m (wVar 3) (wVar 4)) (hm : m = one c) {c0 c1 c2 : Option Cell} {Q : List D → Env' → Prop} : ∀ (es : List (Int × Int)) (acc : List Str), (∀ e ∈ es, BdT e.1 ∧ BdT e.2) → acc.length + es.length < 1000 →
    Q ((acc ++ es.map fun e => pairW c e.1 e.2).map D.str) [c0, c1, c2, none, none] →
    lcL (gTn 2 (gsCons (gN 3) (gsCons (gN 4) gsNil))) wYes C [3, 4] (es.map ruD) (acc.map D.str) [c0, c1, c2, none, none] Q
  | [], acc, _, _, h => by rw [List.map_nil, List.append_nil] at h; exact h
  | e :: es, acc, he, hz, h => by
    simp only [List.length_cons] at hz
    obtain ⟨h1, h2⟩ := he e List.mem_cons_self
    have z1 := fig_len h1
    have z2 := fig_len h2
    have lm : m.length = 1 := by rw [hm]; rfl
    subst hC
    refine ⟨rfl, rfl, e.1, rfl, fig_log h1, ?_, e.2, rfl, fig_log h2, ?_, line1000 (by rw [List.length_map]; omega), ?_⟩
    · show (fig e.1).length + m.length ≤ _
      exact smallS (by omega)
    · show (fig e.1).length + m.length + (fig e.2).length ≤ _
      exact smallS (by omega)
    · have := rt_lc (c := c) (m := m) rfl hm (c0 := c0) (c1 := c1) (c2 := c2) (Q := Q) es (acc ++ [pairW c e.1 e.2]) (fun x hx => he x (List.mem_cons_of_mem _ hx)) (by rw [List.length_append]; simp; omega) (by rw [List.append_assoc]; exact h)
      have e0 : pairW c e.1 e.2 = fig e.1 ++ m ++ fig e.2 := by rw [hm]; rfl
      rw [e0, List.map_append] at this
      exact this
theorem p_rules_text : ∀ ds κ, sp_rules_text ds κ → w_rules_text (En0 false κ) (startE false 5 ds) := by
  rintro ds κ ⟨hs, bs, rfl, hr, h⟩
  obtain ⟨r1, r2⟩ := ruleWs_len hr
  refine ⟨rulesD hs bs, rfl, rules_plain hs bs, ?_⟩
  rw [rules_is hr]
  refine ⟨rfl, rfl, rfl, ?_⟩
  refine rt_lc (c := 43) (m := "+") rfl b43 hs [] hr.2.1 (by have := hr.1; simp; omega) ?_
  rw [List.nil_append]
  refine ⟨rfl, ?_⟩
  refine rt_lc (c := 33) (m := "!") rfl b33 bs [] hr.2.2 (by have := hr.1; simp; omega) ?_
  rw [List.nil_append]
  refine ⟨smallS (by simp only [List.length_map]; have := hr.1; omega), ruleWs hs bs, by unfold ruleWs; rw [List.map_append], ⟨by omega, fun y hy => Nat.le_trans (r2 y hy) (by decide)⟩, h⟩
theorem plus_free {a b : Int} (ha : BdT a) (hb : BdT b) : 43 ∈ (pairW 43 a b).cps.toList ∧ 43 ∉ (pairW 33 a b).cps.toList := by
  refine ⟨?_, pair_free ha.1 hb.1 (.inl (by decide)) (by decide)⟩
  unfold pairW
  rw [app_list, app_list]
  exact List.mem_append_left _ (List.mem_append_right _ List.mem_cons_self)
abbrev RRE (x : D) (c1 c2 c3 c4 : Option Cell) : Env' := [some (.sh x), c1, c2, c3, c4, none]
section
variable {x : D} {c1 c2 c3 c4 : Option Cell} {Q : List D → Env' → Prop}
theorem rr_0 : ∀ (hs bs : List (Int × Int)) (acc : List D), (∀ e ∈ hs, BdT e.1 ∧ BdT e.2) → (∀ e ∈ bs, BdT e.1 ∧ BdT e.2) → acc.length + hs.length < 1000 → Q (acc ++ hs.map ruD) (RRE x c1 c2 c3 c4) →
    lcL (gN 5) (wTB (wBin (pInS false) (wC (.str "+")) (wVar 5))) w_read_rules_C0 [5] ((ruleWs hs bs).map D.str) acc (RRE x c1 c2 c3 c4) Q
  | [], [], acc, _, _, _, h => by rw [List.map_nil, List.append_nil] at h; exact h
  | [], b :: bs, acc, hh, hb, hz, h => by
    obtain ⟨h1, h2⟩ := hb b List.mem_cons_self
    have hp := (plus_free h1 h2).2
    have next := rr_0 [] bs acc hh (fun e he => hb e (List.mem_cons_of_mem _ he)) hz h
    refine ⟨43, b43, ?_⟩
    rw [decide_eq_false hp]
    exact next
  | e :: hs, bs, acc, hh, hb, hz, h => by
    simp only [List.length_cons] at hz
    obtain ⟨h1, h2⟩ := hh e List.mem_cons_self
    have hp := (plus_free h1 h2).1
    have next := rr_0 hs bs (acc ++ [ruD e]) (fun e he => hh e (List.mem_cons_of_mem _ he)) hb (by rw [List.length_append]; simp; omega) (by rw [List.append_assoc]; exact h)
    refine ⟨43, b43, ?_⟩
    rw [decide_eq_true hp]
    exact ⟨43, e.1, e.2, by rw [← b43], ⟨.inl (by decide), h1, h2⟩, line1000 (by omega), next⟩
theorem rr_1 : ∀ (hs bs : List (Int × Int)) (acc : List D), (∀ e ∈ hs, BdT e.1 ∧ BdT e.2) → (∀ e ∈ bs, BdT e.1 ∧ BdT e.2) → acc.length + bs.length < 1000 → Q (acc ++ bs.map ruD) (RRE x c1 c2 c3 c4) →
    lcL (gN 5) (wTB (wBin (pInS true) (wC (.str "+")) (wVar 5))) w_read_rules_C1 [5] ((ruleWs hs bs).map D.str) acc (RRE x c1 c2 c3 c4) Q
  | [], [], acc, _, _, _, h => by rw [List.map_nil, List.append_nil] at h; exact h
  | [], b :: bs, acc, hh, hb, hz, h => by
    simp only [List.length_cons] at hz
    obtain ⟨h1, h2⟩ := hb b List.mem_cons_self
    have hp := (plus_free h1 h2).2
    have next := rr_1 [] bs (acc ++ [ruD b]) hh (fun e he => hb e (List.mem_cons_of_mem _ he)) (by rw [List.length_append]; simp; omega) (by rw [List.append_assoc]; exact h)
    refine ⟨43, b43, ?_⟩
    rw [decide_eq_false hp]
    exact ⟨33, b.1, b.2, by rw [← b33], ⟨.inl (by decide), h1, h2⟩, line1000 (by omega), next⟩
  | e :: hs, bs, acc, hh, hb, hz, h => by
    obtain ⟨h1, h2⟩ := hh e List.mem_cons_self
    have hp := (plus_free h1 h2).1
    have next := rr_1 hs bs acc (fun e he => hh e (List.mem_cons_of_mem _ he)) hb hz h
    refine ⟨43, b43, ?_⟩
    rw [decide_eq_true hp]
    exact next
end
theorem pair_signs {c : Nat} {a b : Int} (hc : c < 1114112) (ha : BdT a) (hb : BdT b) : Signs (pairW c a b) := fun x hx => by
  unfold pairW at hx
  rw [app_list, app_list] at hx
  rcases List.mem_append.mp hx with hx | hx
  · rcases List.mem_append.mp hx with hx | hx
    · exact fig_signs ha.1 x hx
    · rw [show (one c).cps.toList = [c] from rfl, List.mem_singleton] at hx
      omega
  · exact fig_signs hb.1 x hx
theorem rulesW_ok {hs bs : List (Int × Int)} (h : RulesW hs bs) : (rulesW hs bs).length ≤ 9000 ∧ (∀ y ∈ Txt.split (rulesW hs bs) (one 32), Signs y) ∧ wordsN (rulesW hs bs) = ruleWs hs bs := by
  obtain ⟨r1, r2⟩ := ruleWs_len h
  have hsg : ∀ y ∈ ruleWs hs bs, Signs y ∧ 32 ∉ y.cps.toList ∧ y ≠ ("-" : Str) := fun y hy => by
    have key : ∀ (c : Nat) (a b : Int), c < 48 → c ≠ 32 → c ≠ 45 → BdT a → BdT b → Signs (pairW c a b) ∧ 32 ∉ (pairW c a b).cps.toList ∧ pairW c a b ≠ ("-" : Str) := fun c a b hc h32 h45 ha hb => by
      refine ⟨pair_signs (by omega) ha hb, pair_free ha.1 hb.1 (.inl (by decide)) (fun e => h32 e.symm), fun z => ?_⟩
      have hm : 45 ∈ (pairW c a b).cps.toList := by rw [z, b45]; exact List.mem_cons_self
      exact pair_free ha.1 hb.1 (.inl (by decide)) (fun e => h45 e.symm) hm
    rcases List.mem_append.mp hy with hy | hy
    · obtain ⟨e, he, rfl⟩ := List.mem_map.mp hy
      exact key 43 e.1 e.2 (by decide) (by decide) (by decide) (h.2.1 e he).1 (h.2.1 e he).2
    · obtain ⟨e, he, rfl⟩ := List.mem_map.mp hy
      exact key 33 e.1 e.2 (by decide) (by decide) (by decide) (h.2.2 e he).1 (h.2.2 e he).2
  unfold rulesW wordsN
  generalize ruleWs hs bs = ws at r1 r2 hsg
  cases ws with
  | nil =>
    have e : Txt.split (if ([] : List Str).isEmpty = true then ("-" : Str) else Txt.join (one 32) []) (one 32) = [("-" : Str)] := by decide +kernel
    refine ⟨by decide +kernel, fun y hy => ?_, ?_⟩
    · rw [e, List.mem_singleton] at hy
      subst hy
      rw [b45]
      intro c hc
      rw [show (one 45).cps.toList = [45] from rfl, List.mem_singleton] at hc
      omega
    · rw [e]; rfl
  | cons w r =>
    rw [if_neg (show ¬ (w :: r).isEmpty = true from fun z => nomatch z), split_join (by simp) fun y hy => (hsg y hy).2.1]
    refine ⟨?_, fun y hy => (hsg y hy).1, ?_⟩
    · have := join_len 32 (w :: r) 83 r2
      have e : (w :: r).length * 84 ≤ 80 * 84 := Nat.mul_le_mul_right _ r1
      omega
    · rw [if_neg fun z => (hsg w List.mem_cons_self).2.2 (List.cons.inj z).1]
theorem p_read_rules : ∀ ds κ, sp_read_rules ds κ → w_read_rules (En0 false κ) (startE false 6 ds) := by
  rintro ds κ ⟨hs, bs, rfl, hr, h⟩
  obtain ⟨l1, l2, l3⟩ := rulesW_ok hr
  refine ⟨rulesW hs bs, rfl, ⟨by omega, l2⟩, ?_⟩
  rw [l3]
  refine ⟨rfl, ?_⟩
  show lcL (gN 5) (wTB (wBin (pInS false) (wC (.str "+")) (wVar 5))) w_read_rules_C0 [5] ((ruleWs hs bs).map D.str) [] (RRE (.str (rulesW hs bs)) (some (.sh (.lst ((ruleWs hs bs).map D.str)))) none none none) _
  refine rr_0 hs bs [] hr.2.1 hr.2.2 (by have := hr.1; simp; omega) ?_
  rw [List.nil_append]
  refine ⟨rfl, ?_⟩
  show lcL (gN 5) (wTB (wBin (pInS true) (wC (.str "+")) (wVar 5))) w_read_rules_C1 [5] ((ruleWs hs bs).map D.str) [] (RRE (.str (rulesW hs bs)) (some (.sh (.lst ((ruleWs hs bs).map D.str)))) (some (.ow (.lst (hs.map ruD)))) none none) _
  refine rr_1 hs bs [] hr.2.1 hr.2.2 (by have := hr.1; simp; omega) ?_
  rw [List.nil_append]
  refine ⟨rfl, rulesD hs bs, rfl, rules_plain hs bs, ?_⟩
  rw [rules_is hr]
  refine ⟨hs, bs, rfl, hr, ?_⟩
  conv => whnf
  simp only [decide_true, Bool.not_true]
  exact ⟨trivial, h⟩
def Pr40 (e : Int × Int) : Prop := B40 e.1 ∧ B40 e.2
section
variable {c1 c2 c3 c4 : Option Cell} {Q : List D → Env' → Prop}
abbrev LRS (w : D) (c1 c2 c3 c4 : Option Cell) : Env' := [some (.mu w), c1, c2, c3, c4, none]
theorem lr_1 : ∀ (ds : List D) (acc : List (Int × Int)) (w : D), WellT w → (∀ e ∈ acc, Pr40 e) → acc.length + ds.length < 1000 →
    (∀ (xs : List (Int × Int)) (w' : D), xs.length = acc.length + ds.length → (∀ e ∈ xs, Pr40 e) → WellT w' → Q (xs.map ruD) (LRS w' c1 c2 c3 c4)) →
    lcL (gN 5) wYes w__law_rules_C1 [5] ds (acc.map ruD) (LRS w c1 c2 c3 c4) Q
  | [], acc, w, hw, ha, _, h => h acc w (by simp) ha hw
  | d :: ds, acc, w, hw, ha, hz, h => by
    simp only [List.length_cons] at hz
    have e40 : (1000 : Int) < 10 ^ 40 := by decide +kernel
    refine ⟨rfl, w, 21, rfl, ⟨hw, by decide, by decide⟩, fun r1 w1 h10 h11 hw1 => ?_⟩
    refine ⟨rfl, w1, 21, rfl, ⟨hw1, by decide, by decide⟩, fun r2 w2 h20 h21 hw2 => ?_⟩
    refine ⟨line1000 (by rw [List.length_map]; omega), ?_⟩
    have := lr_1 ds (acc ++ [(r1, r2)]) w2 hw2 (fun e he => by
      rcases List.mem_append.mp he with he | he
      · exact ha e he
      · rw [List.mem_singleton.mp he]; exact ⟨⟨h10, by omega⟩, h20, by omega⟩) (by rw [List.length_append]; simp; omega) fun xs w' h1 h2 h3 => h xs w' (by rw [h1, List.length_append]; simp only [List.length_cons, List.length_nil]; omega) h2 h3
    rw [List.map_append] at this
    exact this
theorem lr_0 : ∀ (ds : List D) (acc : List (Int × Int)) (w : D), WellT w → (∀ e ∈ acc, Pr40 e) → acc.length + ds.length < 1000 →
    (∀ (xs : List (Int × Int)) (w' : D), xs.length = acc.length + ds.length → (∀ e ∈ xs, Pr40 e) → WellT w' → Q (xs.map ruD) (LRS w' c1 c2 c3 c4)) →
    lcL (gN 5) wYes w__law_rules_C0 [5] ds (acc.map ruD) (LRS w c1 c2 c3 c4) Q
  | [], acc, w, hw, ha, _, h => h acc w (by simp) ha hw
  | d :: ds, acc, w, hw, ha, hz, h => by
    simp only [List.length_cons] at hz
    refine ⟨rfl, w, rfl, hw, fun r1 w1 h10 h11 hw1 => ?_⟩
    refine ⟨rfl, w1, rfl, hw1, fun r2 w2 h20 h21 hw2 => ?_⟩
    refine ⟨line1000 (by rw [List.length_map]; omega), ?_⟩
    have := lr_0 ds (acc ++ [(r1, r2)]) w2 hw2 (fun e he => by
      rcases List.mem_append.mp he with he | he
      · exact ha e he
      · rw [List.mem_singleton.mp he]; exact ⟨⟨h10, h11⟩, h20, h21⟩) (by rw [List.length_append]; simp; omega) fun xs w' h1 h2 h3 => h xs w' (by rw [h1, List.length_append]; simp only [List.length_cons, List.length_nil]; omega) h2 h3
    rw [List.map_append] at this
    exact this
end
def lsD (F : List (List (Int × Int))) : List D := F.map fun es => .lst (es.map ruD)
theorem lr_loop {E : Pn} {m : Nat} (hE : ∀ (F : List (List (Int × Int))) (w : D) (c2 c3 c4 : Option Cell), F.length = m → (∀ es ∈ F, es.length ≤ 40 ∧ ∀ e ∈ es, Pr40 e) → WellT w → E.nx (LRS w (some (.ow (.lst (lsD F)))) c2 c3 c4)) :
    ∀ (ks : List D) (F : List (List (Int × Int))) (w : D) (c2 c3 c4 : Option Cell), F.length + ks.length = m → m < 900 → (∀ es ∈ F, es.length ≤ 40 ∧ ∀ e ∈ es, Pr40 e) → WellT w → Sl c2 → Sl c3 → So c4 →
    forL (gN 2) w__law_rules_L2 ks E (LRS w (some (.ow (.lst (lsD F)))) c2 c3 c4)
  | [], F, w, c2, c3, c4, hl, _, hF, hw, _, _, _ => hE F w c2 c3 c4 (by simpa using hl) hF hw
  | k :: ks, F, w, c2, c3, c4, hl, hm9, hF, hw, h2, h3, h4 => by
    simp only [List.length_cons] at hl
    have fin : ∀ (es : List (Int × Int)) (w : D) (c2 c3 : Option Cell), es.length ≤ 40 → (∀ e ∈ es, Pr40 e) → WellT w → Sl c2 → Sl c3 → (wExpr (wMt 1 pApp (wCons (wVar 4) wNil))) { E with nx := fun ρ' => forL (gN 2) w__law_rules_L2 ks E ρ', ct := fun ρ' => forL (gN 2) w__law_rules_L2 ks E ρ', bk := E.nx } (LRS w (some (.ow (.lst (lsD F)))) c2 c3 (some (.ow (.lst (es.map ruD))))) := fun es w c2 c3 he1 he2 hw h2 h3 => by
      have next := lr_loop hE ks (F ++ [es]) w c2 c3 (some (.sh (.lst (es.map ruD)))) (by rw [List.length_append]; simp; omega) hm9 (fun x hx => by
        rcases List.mem_append.mp hx with hx | hx
        · exact hF x hx
        · rw [List.mem_singleton.mp hx]; exact ⟨he1, he2⟩) hw h2 h3 (.inl .sh)
      have e : lsD (F ++ [es]) = lsD F ++ [.lst (es.map ruD)] := by unfold lsD; rw [List.map_append]; rfl
      rw [e] at next
      exact ⟨⟨rfl, rfl⟩, rfl, line1000 (by unfold lsD; rw [List.length_map]; omega), next⟩
    have body : ∀ c2 c4, Sl c2 → So c4 → w__law_rules_L2 { E with nx := fun ρ' => forL (gN 2) w__law_rules_L2 ks E ρ', ct := fun ρ' => forL (gN 2) w__law_rules_L2 ks E ρ', bk := E.nx } (LRS w (some (.ow (.lst (lsD F)))) c2 c3 c4) := fun c2 c4 h2 h4 => by
      refine ⟨rfl, w, 4, rfl, ⟨hw, by decide, by decide⟩, fun r1 w1 h10 h11 hw1 => ?_⟩
      refine ⟨rfl, w1, 41, rfl, ⟨hw1, by decide, by decide⟩, fun r2 w2 h20 h21 hw2 => ?_⟩
      refine ⟨rfl, w2, 6, rfl, ⟨hw2, by decide, by decide⟩, fun r3 w3 h30 h31 hw3 => ?_⟩
      obtain ⟨x, ex, j, rfl, hj⟩ := atAll (xs := [D.int 0, .int 1, .int 1, .int 1, .int 2, .int 3]) (P := fun d => ∃ j : Int, d = .int j ∧ 0 ≤ j ∧ j < 4) (r := r3) (fun d hd => by
        simp only [List.mem_cons, List.not_mem_nil, or_false] at hd
        rcases hd with rfl | rfl | rfl | rfl | rfl | rfl <;> exact ⟨_, rfl, by decide⟩) h30 h31
      refine ⟨.int j, ex, ?_⟩
      obtain ⟨y, ey, q, rfl, hq⟩ := atAll (xs := [D.int 0, .int r1, .int r2, .int 40]) (P := fun d => ∃ i : Int, d = .int i ∧ 0 ≤ i ∧ i ≤ 40) (r := j) (fun d hd => by
        simp only [List.mem_cons, List.not_mem_nil, or_false] at hd
        rcases hd with rfl | rfl | rfl | rfl
        · exact ⟨_, rfl, by omega⟩
        · exact ⟨_, rfl, by omega⟩
        · exact ⟨_, rfl, by omega⟩
        · exact ⟨_, rfl, by omega⟩) hj.1 hj.2
      refine ⟨.int q, ey, ?_⟩
      have s2 : ∀ (w : D) (c4 : Option Cell), WellT w → So c4 → (wSeq (wSet 4 (wFO (wLc (wRng1 (wCons (wVar 3) wNil)) (gN 5) wYes w__law_rules_C1 [5]))) (wSeq (wIf (wTB (wBin pEq (wCall fe__law_draw (wCons (wVar 0) (wCons (wC (.int 2)) wNil))) (wC (.int 0)))) (wSet 4 (wFO (wLc (wRng1 (wCons (wVar 3) wNil)) (gN 5) wYes w__law_rules_C0 [5]))) wPass) (wExpr (wMt 1 pApp (wCons (wVar 4) wNil))))) { E with nx := fun ρ' => forL (gN 2) w__law_rules_L2 ks E ρ', ct := fun ρ' => forL (gN 2) w__law_rules_L2 ks E ρ', bk := E.nx } (LRS w (some (.ow (.lst (lsD F)))) c2 (some (.sh (.int q))) c4) := fun w c4 hw h4 => by
        generalize (wExpr (wMt 1 pApp (wCons (wVar 4) wNil)) : WS) = R at fin ⊢
        have aft : ∀ (xs : List (Int × Int)) (w' : D), xs.length ≤ 40 → (∀ e ∈ xs, Pr40 e) → WellT w' → (wSeq (wIf (wTB (wBin pEq (wCall fe__law_draw (wCons (wVar 0) (wCons (wC (.int 2)) wNil))) (wC (.int 0)))) (wSet 4 (wFO (wLc (wRng1 (wCons (wVar 3) wNil)) (gN 5) wYes w__law_rules_C0 [5]))) wPass) R) { E with nx := fun ρ' => forL (gN 2) w__law_rules_L2 ks E ρ', ct := fun ρ' => forL (gN 2) w__law_rules_L2 ks E ρ', bk := E.nx } (LRS w' (some (.ow (.lst (lsD F)))) c2 (some (.sh (.int q))) (some (.ow (.lst (xs.map ruD))))) := fun xs w' x1 x2 x3 => by
          refine ⟨rfl, w', 2, rfl, ⟨x3, by decide, by decide⟩, fun r5 w5 h50 h51 hw5 => ?_⟩
          show (match decide (r5 = 0) with | true => _ | false => _)
          cases hd : decide (r5 = 0) with
          | false => exact fin xs w5 c2 _ x1 x2 hw5 h2 .sh
          | true =>
            refine ⟨by omega, by omega, rfl, ?_⟩
            refine lr_0 (rangeD 0 q.toNat) [] w5 hw5 (fun e he => nomatch he) (by rw [rangeD_len]; simp; omega) fun ys w6 y1 y2 y3 => ?_
            rw [rangeD_len] at y1
            exact fin ys w6 c2 _ (by simp at y1; omega) y2 y3 h2 .sh
        rcases h4 with (rfl | ⟨_, rfl⟩) | ⟨_, rfl⟩ <;>
        · refine ⟨by omega, by omega, rfl, ?_⟩
          refine lr_1 (rangeD 0 q.toNat) [] w hw (fun e he => nomatch he) (by rw [rangeD_len]; simp; omega) fun xs w' x1 x2 x3 => ?_
          rw [rangeD_len] at x1
          exact aft xs w' (by simp at x1; omega) x2 x3
      rcases h3 with rfl | ⟨_, rfl⟩ <;> exact s2 w3 c4 hw3 h4
    rcases h2 with rfl | ⟨_, rfl⟩ <;> exact body _ c4 .sh h4
theorem p__law_rules : ∀ ds κ, sp__law_rules ds κ → w__law_rules (En0 true κ) (startE true 6 ds) := by
  rintro ds κ ⟨w, rfl, hw, h⟩
  refine ⟨by decide, by decide, ?_⟩
  show forL (gN 2) w__law_rules_L2 (rangeD 0 2) { En0 true κ with nx := fun ρ' => w__law_rules_r2 (En0 true κ) ρ' } (LRS w (some (.ow (.lst (lsD [])))) none none none)
  refine lr_loop (m := 2) (fun F w c2 c3 c4 hl hF hw => ?_) (rangeD 0 2) [] w none none none (by decide) (by decide) (fun es he => nomatch he) hw .non .non (.inl .non)
  match F, hl with
  | [hs, bs], _ =>
    have z1 := hF hs List.mem_cons_self
    have z2 := hF bs (List.mem_cons_of_mem _ List.mem_cons_self)
    exact ⟨.lst (hs.map ruD), rfl, .lst (bs.map ruD), rfl, h hs bs w ⟨⟨z1.1, z2.1⟩, z1.2, z2.2⟩ hw⟩
theorem fg_while {i : Int} {E : Pn} (hE : ∀ (left : Int) (text : Str), 0 ≤ left → left ≤ 9 → dg i.toNat = dg left.toNat ++ text.cps.toList → E.nx [some (.sh (.int i)), some (.sh (.str text)), some (.sh (.int left))]) :
    ∀ (f : Nat) (left : Int) (text : Str), 0 ≤ left → left < 10 ^ (f + 1) → dg i.toNat = dg left.toNat ++ text.cps.toList → text.length + f ≤ 1000 →
    whileN (wTB (wBin pGt (wVar 2) (wC (.int 9)))) w__law_figures_L0 (f + 1) E [some (.sh (.int i)), some (.sh (.str text)), some (.sh (.int left))]
  | f, left, text, h0, h1, e, hl => by
    show (match decide (left > 9) with | true => _ | false => _)
    cases hd : decide (left > 9) with
    | false => exact hE left text h0 (by have := of_decide_eq_false hd; omega) e
    | true =>
      have hd := of_decide_eq_true hd
      cases f with
      | zero => exact absurd h1 (by simp; omega)
      | succ f =>
        have hm0 := Int.emod_nonneg left (b := 10) (by decide)
        have hm1 := Int.emod_lt_of_pos left (b := 10) (by decide)
        have e1 : (Str.ofString "0123456789").length = 10 := by decide +kernel
        have e2 : (⟨#[48 + (left % 10).toNat]⟩ : Str).length = 1 := rfl
        refine ⟨show (0 : Int) < 10 by decide, smallS (by omega), _, at_fig ⟨hm0, by omega⟩, ?_⟩
        refine ⟨smallS (by omega), ⟨by decide, by decide⟩, ?_⟩
        refine fg_while hE f (left / 10) (⟨#[48 + (left % 10).toNat]⟩ ++ text) (by omega) ?_ ?_ ?_
        · rw [Int.pow_succ] at h1
          omega
        · rw [e, dg_ge (n := left.toNat) (by omega), app_list, List.append_assoc]
          congr 1
          · congr 1; omega
          · have : (left % 10).toNat = left.toNat % 10 := by omega
            rw [this]
        · rw [L2.str_len, e2]; omega
theorem p__law_figures : ∀ ds κ, sp__law_figures ds κ → w__law_figures (En0 false κ) (startE false 3 ds) := by
  rintro ds κ ⟨i, rfl, hi, h⟩
  have e1 : (Str.ofString "0123456789").length = 10 := by decide +kernel
  refine ⟨40 + 1, ?_⟩
  refine fg_while (i := i) (fun left text h0 h1 e => ?_) 40 i (Str.ofString "") hi.1 hi.2 ?_ (by decide +kernel)
  · have hl := fig_len hi
    rw [len_list, fig_list hi.1, e, List.length_append, ← len_list] at hl
    have et : fig i = ⟨#[48 + left.toNat]⟩ ++ text := by
      refine ext_toList ?_
      rw [fig_list hi.1, e, app_list, dg_lt (by omega)]
    rw [et] at h
    refine ⟨smallS (by omega), _, at_fig ⟨h0, h1⟩, ?_⟩
    refine ⟨smallS (by show 1 + text.length ≤ _; omega), h⟩
  · rw [show (Str.ofString "").cps.toList = [] by decide +kernel, List.append_nil]
theorem sm_loop {d : Nat} {a : D} {xs : List D} (ha : a = .lst xs ∨ a = .tup xs) (hx : ∀ x ∈ xs, Sm d x) {Q : List D → Env' → Prop} : ∀ (ks : List Nat), (∀ k ∈ ks, k < xs.length) →
    Q [] [some (.sh a), some (.sh a), none] →
    lcL (gN 2) (wNot (wTB (wCall ⟨false, sp__law_same d⟩ (wCons (wBin pIx (wVar 0) (wVar 2)) (wCons (wBin pIx (wVar 1) (wVar 2)) wNil))))) (wVar 2) [2] (ks.map fun (k : Nat) => D.int (k : Int)) [] [some (.sh a), some (.sh a), none] Q
  | [], _, h => h
  | k :: ks, hk, h => by
    have hk0 := hk k List.mem_cons_self
    have e : atI xs (k : Int) = some xs[k] := atI_nat (List.getElem?_eq_getElem hk0)
    have next := sm_loop ha hx (Q := Q) ks (fun j hj => hk j (List.mem_cons_of_mem _ hj)) h
    rcases ha with rfl | rfl <;> exact ⟨_, e, _, e, xs[k], rfl, hx _ (List.getElem_mem _), next⟩
theorem sm_range (m : Nat) : rangeD 0 m = (List.range m).map fun (k : Nat) => D.int (k : Int) := by
  rw [rangeD_map, List.map_map]
  refine List.map_congr_left fun k _ => ?_
  show D.int (0 + (k : Int)) = _
  rw [Int.zero_add]
theorem p0__law_same : ∀ ds κ, sp__law_same 0 ds κ → w__law_same ⟨false, fun _ _ => False⟩ (En0 false κ) (startE false 3 ds) := by
  rintro ds κ ⟨a, rfl, hs, h⟩
  cases hs with
  | num i =>
    have h : κ (.sh (.bl (decide (i = i)))) .non := by rw [decide_eq_true rfl]; exact h
    exact h
theorem p__law_same (d : Nat) : ∀ ds κ, sp__law_same (d + 1) ds κ → w__law_same ⟨false, sp__law_same d⟩ (En0 false κ) (startE false 3 ds) := by
  rintro ds κ ⟨a, rfl, hs, h⟩
  have fin : ∀ b : Bool, b = true → κ (.sh (.bl b)) .non := fun b e => by rw [e]; exact h
  cases hs with
  | num i =>
    have h : κ (.sh (.bl (decide (i = i)))) .non := fin _ (decide_eq_true rfl)
    exact h
  | @lst d xs hl hx =>
    show (match !decide ((xs.length : Int) = (xs.length : Int)) with | true => _ | false => _)
    rw [decide_eq_true rfl]
    refine ⟨by omega, by omega, rfl, ?_⟩
    show lcL _ _ _ [2] (rangeD 0 (xs.length : Int).toNat) [] [some (.sh (.lst xs)), some (.sh (.lst xs)), none] _
    rw [Int.toNat_natCast, sm_range]
    refine sm_loop (.inl rfl) hx _ (fun k hk => List.mem_range.mp hk) ?_
    exact ⟨nil_seq, nil_seq, fin _ (by decide +kernel)⟩
  | @tup d xs hl hx =>
    show (match !decide ((xs.length : Int) = (xs.length : Int)) with | true => _ | false => _)
    rw [decide_eq_true rfl]
    refine ⟨by omega, by omega, rfl, ?_⟩
    show lcL _ _ _ [2] (rangeD 0 (xs.length : Int).toNat) [] [some (.sh (.tup xs)), some (.sh (.tup xs)), none] _
    rw [Int.toNat_natCast, sm_range]
    refine sm_loop (.inr rfl) hx _ (fun k hk => List.mem_range.mp hk) ?_
    exact ⟨nil_seq, nil_seq, fin _ (by decide +kernel)⟩
theorem p__law_turn_written : ∀ ds κ, sp__law_turn_written ds κ → w__law_turn_written (En0 false κ) (startE false 6 ds) := by
  rintro ds κ ⟨i, j, k, l, rfl, ⟨⟨hi, hj⟩, hk, hl⟩, h⟩
  have zi := fig_len hi
  have zj := fig_len hj
  have zk := fig_len hk
  have zl := fig_len hl
  have l1 : (Str.ofString " ").length = 1 := by decide +kernel
  have l2 : (Str.ofString "-").length = 1 := by decide +kernel
  have et : turnW i j k l = fig i ++ Str.ofString "-" ++ fig j ++ Str.ofString " " ++ fig k ++ Str.ofString "-" ++ fig l := by
    rw [b32, b45]
    refine ext_toList ?_
    unfold turnW pairW
    simp only [app_list, List.append_assoc]
  rw [et] at h
  have fin : w__law_turn_written_s1 (En0 false κ) [some (.sh (turnD4 i j k l)), some (.sh (.str (fig i))), some (.sh (.str (fig j))), some (.sh (.str (fig k))), some (.sh (.str (fig l))), none] := by
    generalize fig i = xi at zi h ⊢
    generalize fig j = xj at zj h ⊢
    generalize fig k = xk at zk h ⊢
    generalize fig l = xl at zl h ⊢
    show wRet (wEO (wBin pAdd (wBin pAdd (wBin pAdd (wBin pAdd (wBin pAdd (wBin pAdd (wVar 1) (wC (.str (Str.ofString "-")))) (wVar 2)) (wC (.str (Str.ofString " ")))) (wVar 3)) (wC (.str (Str.ofString "-")))) (wVar 4))) _ _
    generalize Str.ofString "-" = m at l2 h ⊢
    generalize Str.ofString " " = b at l1 h ⊢
    refine ⟨smallS (by omega), ?_⟩
    refine ⟨smallS (by rw [L2.str_len]; omega), ?_⟩
    refine ⟨smallS (by rw [L2.str_len, L2.str_len]; omega), ?_⟩
    refine ⟨smallS (by rw [L2.str_len, L2.str_len, L2.str_len]; omega), ?_⟩
    refine ⟨smallS (by rw [L2.str_len, L2.str_len, L2.str_len, L2.str_len]; omega), ?_⟩
    exact ⟨smallS (by rw [L2.str_len, L2.str_len, L2.str_len, L2.str_len, L2.str_len]; omega), h⟩
  show wSeq w__law_turn_written_s0 w__law_turn_written_s1 (En0 false κ) [some (.sh (turnD4 i j k l)), none, none, none, none, none]
  generalize w__law_turn_written_s1 = R at fin ⊢
  refine ⟨rfl, i, rfl, hi, line1000 (show 0 < 1000 by decide), ?_⟩
  refine ⟨j, rfl, hj, line1000 (show 1 < 1000 by decide), ?_⟩
  refine ⟨k, rfl, hk, line1000 (show 2 < 1000 by decide), ?_⟩
  refine ⟨l, rfl, hl, line1000 (show 3 < 1000 by decide), ?_⟩
  exact ⟨rfl, rfl, fin⟩
theorem rw_lc {c : Nat} {m : Str} (hm : m = one c) {c0 c1 c3 : Option Cell} {Q : List D → Env' → Prop} : ∀ (es : List (Int × Int)) (acc : List Str), (∀ e ∈ es, BdT e.1 ∧ BdT e.2) → acc.length + es.length < 1000 →
    Q ((acc ++ es.map fun e => pairW c e.1 e.2).map D.str) [c0, c1, some (.sh (.str m)), c3, none, none] →
    lcL (gTn 2 (gsCons (gN 4) (gsCons (gN 5) gsNil))) wYes w__law_rules_written_C0 [4, 5] (es.map ruD) (acc.map D.str) [c0, c1, some (.sh (.str m)), c3, none, none] Q
  | [], acc, _, _, h => by rw [List.map_nil, List.append_nil] at h; exact h
  | e :: es, acc, he, hz, h => by
    simp only [List.length_cons] at hz
    obtain ⟨h1, h2⟩ := he e List.mem_cons_self
    have z1 := fig_len h1
    have z2 := fig_len h2
    have lm : m.length = 1 := by rw [hm]; rfl
    refine ⟨rfl, rfl, e.1, rfl, h1, smallS (by omega), e.2, rfl, h2, smallS (by rw [L2.str_len]; omega), line1000 (by rw [List.length_map]; omega), ?_⟩
    have := rw_lc (c := c) (m := m) hm (c0 := c0) (c1 := c1) (c3 := c3) (Q := Q) es (acc ++ [pairW c e.1 e.2]) (fun x hx => he x (List.mem_cons_of_mem _ hx)) (by rw [List.length_append]; simp; omega) (by rw [List.append_assoc]; exact h)
    have e0 : pairW c e.1 e.2 = fig e.1 ++ m ++ fig e.2 := by rw [hm]; rfl
    rw [e0, List.map_append] at this
    exact this
theorem zip_signs (a b : D) : zipSD (Str.ofString "+!") [a, b] = [.tup [.str (one 43), a], .tup [.str (one 33), b]] := by
  unfold zipSD L2.signs
  rw [show (Str.ofString "+!").cps.toList = [43, 33] by decide +kernel]
  rfl
theorem join_posW {w : Str} {r : List Str} (h : 0 < w.length) : 0 < (Txt.join (one 32) (w :: r)).length := by
  rw [len_list, join_list, List.map_cons, jl_flat, List.length_append, ← len_list]
  omega
theorem pairW_pos (c : Nat) (a b : Int) : 0 < (pairW c a b).length := by
  unfold pairW
  rw [L2.str_len, L2.str_len, one_len]
  omega
theorem p__law_rules_written : ∀ ds κ, sp__law_rules_written ds κ → w__law_rules_written (En0 false κ) (startE false 6 ds) := by
  rintro ds κ ⟨hs, bs, rfl, hr, h⟩
  obtain ⟨r1, r2⟩ := ruleWs_len hr
  show wSeq w__law_rules_written_s1 w__law_rules_written_r2 (En0 false κ) [some (.sh (rulesD hs bs)), some (.ow (.lst [])), none, none, none, none]
  refine ⟨by decide +kernel, (show (Str.ofString "+!").cps.size ≤ 2 by decide +kernel), ?_⟩
  rw [zip_signs]
  refine ⟨rfl, rfl, rfl, ?_⟩
  refine rw_lc (c := 43) rfl hs [] hr.2.1 (by have := hr.1; simp; omega) ?_
  rw [List.nil_append]
  refine ⟨smallS (by simp only [List.length_map, List.length_nil]; have := hr.1; omega), rfl, rfl, rfl, ?_⟩
  refine rw_lc (c := 33) rfl bs [] hr.2.2 (by have := hr.1; simp; omega) ?_
  rw [List.nil_append]
  refine ⟨smallS (by simp only [List.length_map, List.length_append, List.length_nil]; have := hr.1; omega), ?_⟩
  have ew : [] ++ (hs.map fun e => pairW 43 e.1 e.2).map D.str ++ (bs.map fun e => pairW 33 e.1 e.2).map D.str = (ruleWs hs bs).map D.str := by
    unfold ruleWs
    rw [List.map_append]
    rfl
  show w__law_rules_written_s2 (En0 false κ) [some (.sh (rulesD hs bs)), some (.ow (.lst ([] ++ (hs.map fun e => pairW 43 e.1 e.2).map D.str ++ (bs.map fun e => pairW 33 e.1 e.2).map D.str))), some (.sh (.str (one 33))), some (.sh (.lst (bs.map ruD))), none, none]
  rw [ew]
  have l1 : (Str.ofString " ").length = 1 := by decide +kernel
  have hsum := sum_len (ruleWs hs bs) 83 r2
  have hj := join_len 32 (ruleWs hs bs) 83 r2
  have e83 : (ruleWs hs bs).length * 83 ≤ 80 * 83 := Nat.mul_le_mul_right _ r1
  have e84 : (ruleWs hs bs).length * 84 ≤ 80 * 84 := Nat.mul_le_mul_right _ r1
  have hne : ∀ y ∈ ruleWs hs bs, 0 < y.length := fun y hy => by
    rcases List.mem_append.mp hy with hy | hy
    · obtain ⟨e, _, rfl⟩ := List.mem_map.mp hy; exact pairW_pos _ _ _
    · obtain ⟨e, _, rfl⟩ := List.mem_map.mp hy; exact pairW_pos _ _ _
  refine ⟨by first | exact trivial | exact ⟨_, rfl⟩ | rfl, ruleWs hs bs, rfl, by rw [l1]; omega, ?_⟩
  rw [b32]
  refine ⟨smallS (by omega), ?_⟩
  unfold rulesW at h
  generalize ruleWs hs bs = ws at h hne
  cases ws with
  | nil => exact h
  | cons y r =>
    have hp := join_posW (r := r) (hne y List.mem_cons_self)
    have hb : (((Txt.join (one 32) (y :: r)).length : Int) != 0) = true := by
      rw [bne_iff_ne]
      omega
    rw [if_neg (show ¬ (y :: r).isEmpty = true from fun z => nomatch z)] at h
    rw [hb]
    exact h
theorem sm_rules {hs bs : List (Int × Int)} (h : RulesW hs bs) : Sm 3 (rulesD hs bs) := by
  have one : ∀ es : List (Int × Int), es.length ≤ 40 → Sm 2 (.lst (es.map ruD)) := fun es hl => .lst (by rw [List.length_map]; omega) fun x hx => by
    obtain ⟨e, _, rfl⟩ := List.mem_map.mp hx
    refine .tup (show 2 < 1000 by decide) fun y hy => ?_
    simp only [List.mem_cons, List.not_mem_nil, or_false] at hy
    rcases hy with rfl | rfl
    · exact .num e.1
    · exact .num e.2
  refine .tup (show 2 < 1000 by decide) fun x hx => ?_
  simp only [List.mem_cons, List.not_mem_nil, or_false] at hx
  rcases hx with rfl | rfl
  · exact one hs h.1.1
  · exact one bs h.1.2
theorem sm_turn (i j k l : Int) : Sm 3 (turnD4 i j k l) := .tup (show 4 < 1000 by decide) fun x hx => by
  simp only [List.mem_cons, List.not_mem_nil, or_false] at hx
  rcases hx with rfl | rfl | rfl | rfl <;> exact .num _
theorem eqvAll_pairs : ∀ es : List (Int × Int), PyData.eqvAll (toPys (es.map ruD)) (toPys (es.map ruD)) = true
  | [] => by simp [toPys, PyData.eqvAll]
  | e :: r => by
    have ih := eqvAll_pairs r
    simp only [List.map_cons, toPys, toPy, ruD, PyData.eqvAll, PyData.eqv] at ih ⊢
    rw [ih]
    simp
theorem eqD_rules (hs bs : List (Int × Int)) : eqD (rulesD hs bs) (rulesD hs bs) = true := by
  have h1 := eqvAll_pairs hs
  have h2 := eqvAll_pairs bs
  unfold eqD
  simp only [toPy, toPys, PyData.eqv, PyData.eqvAll, h1, h2]
  simp
theorem eqD_kind (bs : List (Int × Int)) : eqD (.lst (bs.map ruD)) (.lst (bs.map ruD)) = true := by
  unfold eqD
  simp only [toPy, PyData.eqv]
  exact eqvAll_pairs bs
theorem dep_kind (es : List (Int × Int)) : PyData.depthAll (toPys (es.map ruD)) ≤ 1 := depthAll_le fun x hx => by
  obtain ⟨e, _, rfl⟩ := List.mem_map.mp hx
  simp [ruD, toPy, toPys, PyData.depth, PyData.depthAll]
theorem seqds_kind (es : List (Int × Int)) : seqds (es.map ruD) = true := seqds_all fun x hx => by
  obtain ⟨e, _, rfl⟩ := List.mem_map.mp hx
  rfl
theorem seq_kind (es : List (Int × Int)) : seqd (.lst (es.map ruD)) = true ∧ dep (.lst (es.map ruD)) := by
  refine ⟨seqds_kind es, ?_⟩
  show (toPy (.lst (es.map ruD))).depth ≤ 64
  simp only [toPy, PyData.depth]
  have := dep_kind es
  omega
theorem seq_rules (hs bs : List (Int × Int)) : seqd (rulesD hs bs) = true ∧ dep (rulesD hs bs) := by
  refine ⟨?_, ?_⟩
  · show (seqds (hs.map ruD) && (seqds (bs.map ruD) && true)) = true
    rw [seqds_kind hs, seqds_kind bs]
    rfl
  · show (toPy (.tup [.lst (hs.map ruD), .lst (bs.map ruD)])).depth ≤ 64
    simp only [toPy, toPys, PyData.depth, PyData.depthAll]
    have h1 := dep_kind hs
    have h2 := dep_kind bs
    omega
abbrev RZW (hs bs : List (Int × Int)) (c3 c4 : Option Cell) : Env' := [some (.sh (rulesD hs bs)), some (.sh (.str (rulesW hs bs))), some (.sh (rulesD hs bs)), c3, c4, none]
theorem rw_2 {hs bs : List (Int × Int)} (hr : RulesW hs bs) {E : Pn} {c3 c4 : Option Cell} (hm : L2.noMu (RZW hs bs c3 c4) = true) (h : E.nx (RZW hs bs c3 c4)) :
    (wToldDuo 5 0 0 0 0 (wCallO fe_read_rules (wCons (wVar 1) wNil)) (wNot (wTB (wCall fe__law_same (wCons (wVar 5) (wCons (wVar 0) wNil))))) (wTB (wBin pNe (wBin pIx (wVar 5) (wC (.int 1))) (wBin pIx (wVar 0) (wC (.int 1)))))) E (RZW hs bs c3 c4) := by
  refine ⟨hs, bs, rfl, hr, hm, ⟨line1000 (by rw [List.length_map]; have := hr.1; omega), line1000 (by rw [List.length_map]; have := hr.1; omega)⟩, ?_⟩
  refine ⟨rulesD hs bs, rfl, sm_rules hr, rfl, ?_⟩
  refine ⟨.lst (bs.map ruD), rfl, .lst (bs.map ruD), rfl, seq_kind bs, seq_kind bs, ?_⟩
  refine ⟨?_, h⟩
  show (!eqD (.lst (bs.map ruD)) (.lst (bs.map ruD))) = false
  rw [eqD_kind]
  rfl
theorem rr_if {hs bs : List (Int × Int)} {R : WS} {E : Pn} {c3 : Option Cell} (h : R E (RZW hs bs c3 (some (.sh (.str (rulesW hs bs)))))) :
    wSeq (wIf (wOr (wNot (wTB (wIsi "str" (wVar 4)))) (wOr (wTB (wBin pNe (wVar 4) (wVar 1))) (wTB (wBin pNe (wVar 2) (wVar 0))))) (wRet (wEO (wC (.bl false)))) wPass) R E (RZW hs bs c3 (some (.sh (.str (rulesW hs bs))))) := by
  conv => whnf
  simp only [decide_true, Bool.not_true]
  refine ⟨seq_rules hs bs, seq_rules hs bs, ?_⟩
  generalize hb2 : eqD _ _ = b
  have eb : b = true := hb2.symm.trans (eqD_rules hs bs)
  subst eb
  exact h
theorem rr_set {hs bs : List (Int × Int)} (hr : RulesW hs bs) {R : WS} {E : Pn} {k : D} {c4 : Option Cell} (h4 : Sl c4) (h : R E (RZW hs bs (some (.sh k)) (some (.sh (.str (rulesW hs bs)))))) :
    wSeq (wSet 4 (wCallO fe_rules_text (wCons (wVar 2) wNil))) R E (RZW hs bs (some (.sh k)) c4) := by
  rcases h4 with rfl | ⟨_, rfl⟩ <;> exact ⟨hs, bs, rfl, hr, h⟩
theorem rr_loop' {hs bs : List (Int × Int)} (hr : RulesW hs bs) {E : Pn} (hE : ∀ c3 c4, E.nx (RZW hs bs c3 c4)) : ∀ (ks : List D) (c3 c4 : Option Cell), Sl c3 → Sl c4 → forL (gN 3) w__law_rules_right_L0 ks E (RZW hs bs c3 c4)
  | [], c3, c4, _, _ => hE c3 c4
  | k :: ks, c3, c4, h3, h4 => by
    have next := rr_loop' hr hE ks (some (.sh k)) (some (.sh (.str (rulesW hs bs)))) .sh .sh
    have body : ∀ (E' : Pn), E'.nx = (fun ρ' => forL (gN 3) w__law_rules_right_L0 ks E ρ') → w__law_rules_right_L0 E' (RZW hs bs (some (.sh k)) c4) := fun E' hE' =>
      rr_set hr h4 (rr_if (rw_2 hr rfl (by rw [hE']; exact next)))
    rcases h3 with rfl | ⟨_, rfl⟩ <;> exact body _ rfl
theorem p__law_rules_right : ∀ ds κ, sp__law_rules_right ds κ → w__law_rules_right (En0 false κ) (startE false 6 ds) := by
  rintro ds κ ⟨hs, bs, rfl, hr, h⟩
  refine ⟨hs, bs, rfl, hr, ?_⟩
  refine ⟨.lst (hs.map ruD), rfl, .lst (bs.map ruD), rfl, by decide, by decide, ?_⟩
  exact rr_loop' hr (fun c3 c4 => h) (rangeD 0 2) none none .non .non
theorem up41 {i : Int} (h : B40 i) : BdT i := ⟨h.1, Int.lt_trans h.2 (by decide +kernel)⟩
theorem rules_up {hs bs : List (Int × Int)} (h : Rules40 hs bs) : RulesW hs bs := ⟨h.1, fun e he => ⟨up41 (h.2.1 e he).1, up41 (h.2.1 e he).2⟩, fun e he => ⟨up41 (h.2.2 e he).1, up41 (h.2.2 e he).2⟩⟩
theorem seq_turn' (i j k l : Int) : seqd (turnD4 i j k l) = true ∧ dep (turnD4 i j k l) := ⟨rfl, by
  show (toPy (.tup [.int i, .int j, .int k, .int l])).depth ≤ 64
  simp [toPy, toPys, PyData.depth, PyData.depthAll]⟩
abbrev LZT (c0 : Option Cell) (c : Int) (w : D) (i j k l : Int) (c5 c6 : Option Cell) : Env' := [c0, some (.sh (.int c)), some (.ow w), some (.sh (turnD4 i j k l)), some (.sh (.str (turnW i j k l))), c5, c6, none]
theorem lt_set {c0 c5 c6 : Option Cell} {c : Int} {w : D} {i j k l : Int} (hb : (BdT i ∧ BdT j) ∧ BdT k ∧ BdT l) {R : WS} {E : Pn} (h6 : Sl c6) (h : R E (LZT c0 c w i j k l c5 (some (.sh (.str (turnW i j k l)))))) :
    wSeq (wSet 6 (wCallO fe_turn_text (wCons (wVar 3) wNil))) R E (LZT c0 c w i j k l c5 c6) := by
  rcases h6 with rfl | ⟨_, rfl⟩ <;> exact ⟨i, j, k, l, rfl, hb, h⟩
theorem lt_if {c0 c5 : Option Cell} {c : Int} {w : D} {i j k l : Int} (hb : (BdT i ∧ BdT j) ∧ BdT k ∧ BdT l) {E : Pn} (h : E.nx (LZT c0 c w i j k l c5 (some (.sh (.str (turnW i j k l)))))) :
    (wIf (wOr (wNot (wTB (wIsi "str" (wVar 6)))) (wOr (wTB (wBin pNe (wVar 6) (wVar 4))) (wNot (wTB (wCall fe__law_same (wCons (wCall fe_read_turn (wCons (wVar 4) wNil)) (wCons (wVar 3) wNil))))))) (wRet (wEO (wC (.bl false)))) wPass) E (LZT c0 c w i j k l c5 (some (.sh (.str (turnW i j k l))))) := by
  conv => whnf
  simp only [decide_true, Bool.not_true]
  exact ⟨i, j, k, l, rfl, hb, turnD4 i j k l, rfl, sm_turn i j k l, h⟩
theorem lt_loop {c0 : Option Cell} {c : Int} {w : D} {i j k l : Int} (hb : (BdT i ∧ BdT j) ∧ BdT k ∧ BdT l) {E : Pn} (hE : ∀ c5 c6, Sl c5 → Sl c6 → E.nx (LZT c0 c w i j k l c5 c6)) : ∀ (ks : List D) (c5 c6 : Option Cell), Sl c5 → Sl c6 → forL (gN 5) w_law_L0 ks E (LZT c0 c w i j k l c5 c6)
  | [], c5, c6, h5, h6 => hE c5 c6 h5 h6
  | d :: ks, c5, c6, h5, h6 => by
    have next := lt_loop hb hE ks (some (.sh d)) (some (.sh (.str (turnW i j k l)))) .sh .sh
    have body : ∀ (E' : Pn), E'.nx = (fun ρ' => forL (gN 5) w_law_L0 ks E ρ') → w_law_L0 E' (LZT c0 c w i j k l (some (.sh d)) c6) := fun E' hE' =>
      lt_set hb h6 (lt_if hb (by rw [hE']; exact next))
    rcases h5 with rfl | ⟨_, rfl⟩ <;> exact body _ rfl
section
variable {R : WS} {E : Pn} {c0 c1 c3 c4 c5 c6 : Option Cell} {c : Int} {w : D}
abbrev LZW (c0 : Option Cell) (c : Int) (w : D) (c3 c4 c5 c6 : Option Cell) : Env' := [c0, some (.sh (.int c)), some (.ow w), c3, c4, c5, c6, none]
theorem lw_3 (hw : WellT w) (h3 : Sl c3) (h : ∀ (i j k l : Int) (w' : D), (B40 i ∧ B40 j) ∧ B40 k ∧ B40 l → WellT w' → R E (LZW c0 c w' (some (.sh (turnD4 i j k l))) c4 c5 c6)) :
    wSeq (wSet 3 (wEO (wCB pTuple (wCons (wFE (wLc (wRng1 (wCons (wC (.int 4)) wNil)) (gN 7) wYes w_law_C1 [7])) wNil)))) R E (LZW c0 c w c3 c4 c5 c6) := by
  refine ⟨by decide, by decide, rfl, ?_⟩
  refine ⟨rfl, w, rfl, hw, fun i w1 a1 b1 hw1 => ⟨by decide, ?_⟩⟩
  refine ⟨rfl, w1, rfl, hw1, fun j w2 a2 b2 hw2 => ⟨line1000 (show 1 < 1000 by decide), ?_⟩⟩
  refine ⟨rfl, w2, rfl, hw2, fun k w3 a3 b3 hw3 => ⟨line1000 (show 2 < 1000 by decide), ?_⟩⟩
  refine ⟨rfl, w3, rfl, hw3, fun l w4 a4 b4 hw4 => ⟨line1000 (show 3 < 1000 by decide), ?_⟩⟩
  rcases h3 with rfl | ⟨_, rfl⟩ <;> exact h i j k l w4 ⟨⟨⟨a1, b1⟩, a2, b2⟩, ⟨a3, b3⟩, a4, b4⟩ hw4
theorem lw_4 {i j k l : Int} (hb : (BdT i ∧ BdT j) ∧ BdT k ∧ BdT l) (h4 : Sl c4) (h : R E (LZT c0 c w i j k l c5 c6)) :
    wSeq (wSet 4 (wCallO fe__law_turn_written (wCons (wVar 3) wNil))) R E (LZW c0 c w (some (.sh (turnD4 i j k l))) c4 c5 c6) := by
  rcases h4 with rfl | ⟨_, rfl⟩ <;> exact ⟨i, j, k, l, rfl, hb, h⟩
theorem lw_6 (hw : WellT w) (h : ∀ w', WellT w' → E.nx (LZW c0 c w' c3 c4 c5 c6)) :
    (wIf (wNot (wTB (wCall fe__law_rules_right (wCons (wCall fe__law_rules (wCons (wVar 2) wNil)) wNil)))) (wRet (wEO (wC (.bl false)))) wPass) E (LZW c0 c w c3 c4 c5 c6) :=
  ⟨rfl, w, rfl, hw, fun hs bs w' hr hw' => ⟨hs, bs, rfl, rules_up hr, h w' hw'⟩⟩
end
theorem law_cells {c0 : Option Cell} {E : Pn} (hE : ∀ ρ, E.nx ρ) : ∀ (cs : List Int) (c1 c2 c3 c4 c5 c6 : Option Cell), Sl c1 → So c2 → Sl c3 → Sl c4 → Sl c5 → Sl c6 → forL (gN 1) w_law_L2 (cs.map D.int) E [c0, c1, c2, c3, c4, c5, c6, none]
  | [], c1, c2, c3, c4, c5, c6, _, _, _, _, _, _ => hE _
  | c :: cs, c1, c2, c3, c4, c5, c6, h1, h2, h3, h4, h5, h6 => by
    have go : ∀ w c5 c6 i j k l, Sl c5 → Sl c6 → forL (gN 1) w_law_L2 (cs.map D.int) E (LZT c0 c w i j k l c5 c6) := fun w c5 c6 i j k l h5 h6 => law_cells hE cs _ _ _ _ _ _ .sh (.inr ⟨_, rfl⟩) .sh .sh h5 h6
    have body : ∀ (E' : Pn), E'.nx = (fun ρ' => forL (gN 1) w_law_L2 (cs.map D.int) E ρ') → ∀ w, WellT w →
        (wSeq (wSet 3 (wEO (wCB pTuple (wCons (wFE (wLc (wRng1 (wCons (wC (.int 4)) wNil)) (gN 7) wYes w_law_C1 [7])) wNil)))) (wSeq (wSet 4 (wCallO fe__law_turn_written (wCons (wVar 3) wNil))) (wSeq (wFor (wRng1 (wCons (wC (.int 2)) wNil)) (gN 5) w_law_L0) (wIf (wNot (wTB (wCall fe__law_rules_right (wCons (wCall fe__law_rules (wCons (wVar 2) wNil)) wNil)))) (wRet (wEO (wC (.bl false)))) wPass)))) E' (LZW c0 c w c3 c4 c5 c6) := fun E' hE' w hw => by
      refine lw_3 hw h3 fun i j k l w hb hw => ?_
      have hu : (BdT i ∧ BdT j) ∧ BdT k ∧ BdT l := ⟨⟨up41 hb.1.1, up41 hb.1.2⟩, up41 hb.2.1, up41 hb.2.2⟩
      refine lw_4 hu h4 ?_
      refine ⟨by decide, by decide, ?_⟩
      refine lt_loop hu (fun c5 c6 h5 h6 => ?_) (rangeD 0 2) c5 c6 h5 h6
      refine lw_6 hw fun w' hw' => ?_
      rw [hE']
      exact go w' c5 c6 i j k l h5 h6
    rcases h1 with rfl | ⟨_, rfl⟩ <;> rcases h2 with (rfl | ⟨_, rfl⟩) | ⟨_, rfl⟩ <;> exact ⟨c, rfl, fun w hw => body _ rfl w hw⟩
theorem p_law : ∀ ds κ, sp_law ds κ → w_law (En0 false κ) (startE false 8 ds) := by
  rintro ds κ ⟨ns, rfl, hl, h⟩
  have e : [D.int 0, .int 5] ++ L2.cutD (ns.map D.int) none (some 8) = ([0, 5] ++ ns.take 8).map D.int := by rw [cut_to (by decide), List.map_append, List.map_take]; rfl
  refine ⟨?_, ?_⟩
  · have := cutD_len (ns.map D.int) none (some 8)
    rw [List.length_map] at this
    exact Nat.le_of_lt (line1000 (by show 2 + (L2.cutD (ns.map D.int) none (some 8)).length < 1000; omega))
  · show forL (gN 1) w_law_L2 ([D.int 0, .int 5] ++ L2.cutD (ns.map D.int) none (some 8)) _ _
    rw [e]
    refine law_cells (fun ρ => ?_) _ none none none none none none .non (.inl .non) .non .non .non .non
    have er : rulesD [(0, 1)] [(2, 0)] = .tup [.lst [.tup [.int 0, .int 1]], .lst [.tup [.int 2, .int 0]]] := rfl
    have ew : rulesW [(0, 1)] [(2, 0)] = Str.ofString "0+1 2!0" := by decide +kernel
    have et : Str.ofString "1-2 2-4" = turnW 1 2 2 4 := by decide +kernel
    have b0 : BdT 0 := ⟨by decide, by decide +kernel⟩
    have b1 : BdT 1 := ⟨by decide, by decide +kernel⟩
    have b2 : BdT 2 := ⟨by decide, by decide +kernel⟩
    have b4 : BdT 4 := ⟨by decide, by decide +kernel⟩
    refine ⟨[(0, 1)], [(2, 0)], rfl, ⟨by decide, fun e he => ?_, fun e he => ?_⟩, ?_⟩
    · rw [List.mem_singleton.mp he]; exact ⟨b0, b1⟩
    · rw [List.mem_singleton.mp he]; exact ⟨b2, b0⟩
    rw [ew]
    conv => whnf
    simp only [decide_true]
    refine ⟨1, 2, 2, 4, by rw [← et], ⟨⟨b1, b2⟩, b2, b4⟩, seq_turn' 1 2 2 4, seq_turn' 1 2 2 4, ?_⟩
    have eq : eqD (turnD4 1 2 2 4) (turnD4 1 2 2 4) = true := by decide +kernel
    have h : κ (.sh (.bl (eqD (turnD4 1 2 2 4) (turnD4 1 2 2 4)))) .non := by rw [eq]; exact h
    exact h
theorem len_is_whole : ∀ ds κ, sp_is_whole ds κ → ds.length = 1 := by rintro ds κ ⟨_, rfl, _⟩; rfl
theorem ok_is_whole {T : Tb} (Z : Zs T) {f p : Addr} {fd : FuncData} {cdv : Value} (Fn : FunC T.K "is_whole" "is_whole" s_is_whole f fd cdv)  : FnOk T.P T.w T.K T.mg T.base CX0 1 f fd ["thing"] (spOf T false sp_is_whole) :=
  Fn.ok (tab := none) sc_is_whole Z.sm (fun q hq => by cases hq) (b_is_whole Z ) len_is_whole p_is_whole
theorem fok_is_whole {T : Tb} (Z : Zs T) {f p : Addr} {fd : FuncData} {cdv : Value} (Fn : FunC T.K "is_whole" "is_whole" s_is_whole f fd cdv) (hm : T.mg "is_whole" = some (.ref f))  : Fok T "is_whole" 1 1 fe_is_whole :=
  ⟨f, fd, ["thing"], hm, Fn.kp, Fn.binds (ps := ["thing"]) (fun _ _ _ _ _ _ us hl => match us, hl with | [_], _ => rfl), ok_is_whole (p := p) Z Fn , rfl⟩
theorem len_is_from_0 : ∀ ds κ, sp_is_from_0 ds κ → ds.length = 1 := by rintro ds κ ⟨_, rfl, _⟩; rfl
theorem ok_is_from_0 {T : Tb} (Z : Zs T) {f p : Addr} {fd : FuncData} {cdv : Value} (Fn : FunC T.K "is_from_0" "is_from_0" s_is_from_0 f fd cdv) (F_is_whole : Fok T "is_whole" 1 1 fe_is_whole) : FnOk T.P T.w T.K T.mg T.base CX0 2 f fd ["thing"] (spOf T false sp_is_from_0) :=
  Fn.ok (tab := none) sc_is_from_0 Z.sm (fun q hq => by cases hq) (b_is_from_0 Z F_is_whole) len_is_from_0 p_is_from_0
theorem fok_is_from_0 {T : Tb} (Z : Zs T) {f p : Addr} {fd : FuncData} {cdv : Value} (Fn : FunC T.K "is_from_0" "is_from_0" s_is_from_0 f fd cdv) (hm : T.mg "is_from_0" = some (.ref f)) (F_is_whole : Fok T "is_whole" 1 1 fe_is_whole) : Fok T "is_from_0" 2 1 fe_is_from_0 :=
  ⟨f, fd, ["thing"], hm, Fn.kp, Fn.binds (ps := ["thing"]) (fun _ _ _ _ _ _ us hl => match us, hl with | [_], _ => rfl), ok_is_from_0 (p := p) Z Fn F_is_whole, rfl⟩
theorem len_is_rule : ∀ ds κ, sp_is_rule ds κ → ds.length = 1 := by rintro ds κ ⟨_, rfl, _⟩; rfl
theorem ok_is_rule {T : Tb} (Z : Zs T) {f p : Addr} {fd : FuncData} {cdv : Value} (Fn : FunC T.K "is_rule" "is_rule" s_is_rule f fd cdv) (ht : TabIn T.K cdv p ∧ p ∈ T.tabs) (F_is_from_0 : Fok T "is_from_0" 2 1 fe_is_from_0) : FnOk T.P T.w T.K T.mg T.base CX0 4 f fd ["thing"] (spOf T false sp_is_rule) :=
  Fn.ok (tab := some p) sc_is_rule Z.sm (fun q hq => by cases hq; exact ht) (b_is_rule Z F_is_from_0) len_is_rule p_is_rule
theorem fok_is_rule {T : Tb} (Z : Zs T) {f p : Addr} {fd : FuncData} {cdv : Value} (Fn : FunC T.K "is_rule" "is_rule" s_is_rule f fd cdv) (hm : T.mg "is_rule" = some (.ref f)) (ht : TabIn T.K cdv p ∧ p ∈ T.tabs) (F_is_from_0 : Fok T "is_from_0" 2 1 fe_is_from_0) : Fok T "is_rule" 4 1 fe_is_rule :=
  ⟨f, fd, ["thing"], hm, Fn.kp, Fn.binds (ps := ["thing"]) (fun _ _ _ _ _ _ us hl => match us, hl with | [_], _ => rfl), ok_is_rule (p := p) Z Fn ht F_is_from_0, rfl⟩
theorem len_are_of_a_kind : ∀ ds κ, sp_are_of_a_kind ds κ → ds.length = 1 := by rintro ds κ ⟨_, rfl, _⟩; rfl
theorem ok_are_of_a_kind {T : Tb} (Z : Zs T) {f p : Addr} {fd : FuncData} {cdv : Value} (Fn : FunC T.K "are_of_a_kind" "are_of_a_kind" s_are_of_a_kind f fd cdv) (ht : TabIn T.K cdv p ∧ p ∈ T.tabs) (F_is_rule : Fok T "is_rule" 4 1 fe_is_rule) : FnOk T.P T.w T.K T.mg T.base CX0 6 f fd ["thing"] (spOf T false sp_are_of_a_kind) :=
  Fn.ok (tab := some p) sc_are_of_a_kind Z.sm (fun q hq => by cases hq; exact ht) (b_are_of_a_kind Z F_is_rule) len_are_of_a_kind p_are_of_a_kind
theorem fok_are_of_a_kind {T : Tb} (Z : Zs T) {f p : Addr} {fd : FuncData} {cdv : Value} (Fn : FunC T.K "are_of_a_kind" "are_of_a_kind" s_are_of_a_kind f fd cdv) (hm : T.mg "are_of_a_kind" = some (.ref f)) (ht : TabIn T.K cdv p ∧ p ∈ T.tabs) (F_is_rule : Fok T "is_rule" 4 1 fe_is_rule) : Fok T "are_of_a_kind" 6 1 fe_are_of_a_kind :=
  ⟨f, fd, ["thing"], hm, Fn.kp, Fn.binds (ps := ["thing"]) (fun _ _ _ _ _ _ us hl => match us, hl with | [_], _ => rfl), ok_are_of_a_kind (p := p) Z Fn ht F_is_rule, rfl⟩
theorem len_look_like_rules : ∀ ds κ, sp_look_like_rules ds κ → ds.length = 1 := by rintro ds κ ⟨_, rfl, _⟩; rfl
theorem ok_look_like_rules {T : Tb} (Z : Zs T) {f p : Addr} {fd : FuncData} {cdv : Value} (Fn : FunC T.K "look_like_rules" "look_like_rules" s_look_like_rules f fd cdv) (ht : TabIn T.K cdv p ∧ p ∈ T.tabs) (F_are_of_a_kind : Fok T "are_of_a_kind" 6 1 fe_are_of_a_kind) : FnOk T.P T.w T.K T.mg T.base CX0 8 f fd ["thing"] (spOf T false sp_look_like_rules) :=
  Fn.ok (tab := some p) sc_look_like_rules Z.sm (fun q hq => by cases hq; exact ht) (b_look_like_rules Z F_are_of_a_kind) len_look_like_rules p_look_like_rules
theorem fok_look_like_rules {T : Tb} (Z : Zs T) {f p : Addr} {fd : FuncData} {cdv : Value} (Fn : FunC T.K "look_like_rules" "look_like_rules" s_look_like_rules f fd cdv) (hm : T.mg "look_like_rules" = some (.ref f)) (ht : TabIn T.K cdv p ∧ p ∈ T.tabs) (F_are_of_a_kind : Fok T "are_of_a_kind" 6 1 fe_are_of_a_kind) : Fok T "look_like_rules" 8 1 fe_look_like_rules :=
  ⟨f, fd, ["thing"], hm, Fn.kp, Fn.binds (ps := ["thing"]) (fun _ _ _ _ _ _ us hl => match us, hl with | [_], _ => rfl), ok_look_like_rules (p := p) Z Fn ht F_are_of_a_kind, rfl⟩
theorem len_text_of_words : ∀ ds κ, sp_text_of_words ds κ → ds.length = 1 := by rintro ds κ ⟨_, rfl, _⟩; rfl
theorem ok_text_of_words {T : Tb} (Z : Zs T) {f p : Addr} {fd : FuncData} {cdv : Value} (Fn : FunC T.K "text_of_words" "text_of_words" s_text_of_words f fd cdv)  : FnOk T.P T.w T.K T.mg T.base CX0 1 f fd ["words"] (spOf T false sp_text_of_words) :=
  Fn.ok (tab := none) sc_text_of_words Z.sm (fun q hq => by cases hq) (b_text_of_words Z ) len_text_of_words p_text_of_words
theorem fok_text_of_words {T : Tb} (Z : Zs T) {f p : Addr} {fd : FuncData} {cdv : Value} (Fn : FunC T.K "text_of_words" "text_of_words" s_text_of_words f fd cdv) (hm : T.mg "text_of_words" = some (.ref f))  : Fok T "text_of_words" 1 1 fe_text_of_words :=
  ⟨f, fd, ["words"], hm, Fn.kp, Fn.binds (ps := ["words"]) (fun _ _ _ _ _ _ us hl => match us, hl with | [_], _ => rfl), ok_text_of_words (p := p) Z Fn , rfl⟩
theorem len_turn_text : ∀ ds κ, sp_turn_text ds κ → ds.length = 1 := by rintro ds κ ⟨_, _, _, _, rfl, _⟩; rfl
theorem ok_turn_text {T : Tb} (Z : Zs T) {f p : Addr} {fd : FuncData} {cdv : Value} (Fn : FunC T.K "turn_text" "turn_text" s_turn_text f fd cdv) (ht : TabIn T.K cdv p ∧ p ∈ T.tabs) (F_is_from_0 : Fok T "is_from_0" 2 1 fe_is_from_0) : FnOk T.P T.w T.K T.mg T.base CX0 4 f fd ["turn"] (spOf T false sp_turn_text) :=
  Fn.ok (tab := some p) sc_turn_text Z.sm (fun q hq => by cases hq; exact ht) (b_turn_text Z F_is_from_0) len_turn_text p_turn_text
theorem fok_turn_text {T : Tb} (Z : Zs T) {f p : Addr} {fd : FuncData} {cdv : Value} (Fn : FunC T.K "turn_text" "turn_text" s_turn_text f fd cdv) (hm : T.mg "turn_text" = some (.ref f)) (ht : TabIn T.K cdv p ∧ p ∈ T.tabs) (F_is_from_0 : Fok T "is_from_0" 2 1 fe_is_from_0) : Fok T "turn_text" 4 1 fe_turn_text :=
  ⟨f, fd, ["turn"], hm, Fn.kp, Fn.binds (ps := ["turn"]) (fun _ _ _ _ _ _ us hl => match us, hl with | [_], _ => rfl), ok_turn_text (p := p) Z Fn ht F_is_from_0, rfl⟩
theorem len_rules_text : ∀ ds κ, sp_rules_text ds κ → ds.length = 1 := by rintro ds κ ⟨_, _, rfl, _⟩; rfl
theorem ok_rules_text {T : Tb} (Z : Zs T) {f p : Addr} {fd : FuncData} {cdv : Value} (Fn : FunC T.K "rules_text" "rules_text" s_rules_text f fd cdv) (F_text_of_words : Fok T "text_of_words" 1 1 fe_text_of_words) (F_look_like_rules : Fok T "look_like_rules" 8 1 fe_look_like_rules) : FnOk T.P T.w T.K T.mg T.base CX0 9 f fd ["rules"] (spOf T false sp_rules_text) :=
  Fn.ok (tab := none) sc_rules_text Z.sm (fun q hq => by cases hq) (b_rules_text Z F_text_of_words F_look_like_rules) len_rules_text p_rules_text
theorem fok_rules_text {T : Tb} (Z : Zs T) {f p : Addr} {fd : FuncData} {cdv : Value} (Fn : FunC T.K "rules_text" "rules_text" s_rules_text f fd cdv) (hm : T.mg "rules_text" = some (.ref f)) (F_text_of_words : Fok T "text_of_words" 1 1 fe_text_of_words) (F_look_like_rules : Fok T "look_like_rules" 8 1 fe_look_like_rules) : Fok T "rules_text" 9 1 fe_rules_text :=
  ⟨f, fd, ["rules"], hm, Fn.kp, Fn.binds (ps := ["rules"]) (fun _ _ _ _ _ _ us hl => match us, hl with | [_], _ => rfl), ok_rules_text (p := p) Z Fn F_text_of_words F_look_like_rules, rfl⟩
theorem len_is_number_word : ∀ ds κ, sp_is_number_word ds κ → ds.length = 1 := by rintro ds κ ⟨_, rfl, _⟩; rfl
theorem ok_is_number_word {T : Tb} (Z : Zs T) {f p : Addr} {fd : FuncData} {cdv : Value} (Fn : FunC T.K "is_number_word" "is_number_word" s_is_number_word f fd cdv) (ht : TabIn T.K cdv p ∧ p ∈ T.tabs)  : FnOk T.P T.w T.K T.mg T.base CX0 2 f fd ["word"] (spOf T false sp_is_number_word) :=
  Fn.ok (tab := some p) sc_is_number_word Z.sm (fun q hq => by cases hq; exact ht) (b_is_number_word Z ) len_is_number_word p_is_number_word
theorem fok_is_number_word {T : Tb} (Z : Zs T) {f p : Addr} {fd : FuncData} {cdv : Value} (Fn : FunC T.K "is_number_word" "is_number_word" s_is_number_word f fd cdv) (hm : T.mg "is_number_word" = some (.ref f)) (ht : TabIn T.K cdv p ∧ p ∈ T.tabs)  : Fok T "is_number_word" 2 1 fe_is_number_word :=
  ⟨f, fd, ["word"], hm, Fn.kp, Fn.binds (ps := ["word"]) (fun _ _ _ _ _ _ us hl => match us, hl with | [_], _ => rfl), ok_is_number_word (p := p) Z Fn ht , rfl⟩
theorem len_read_number : ∀ ds κ, sp_read_number ds κ → ds.length = 1 := by rintro ds κ ⟨_, rfl, _⟩; rfl
theorem ok_read_number {T : Tb} (Z : Zs T) {f p : Addr} {fd : FuncData} {cdv : Value} (Fn : FunC T.K "read_number" "read_number" s_read_number f fd cdv) (F_is_number_word : Fok T "is_number_word" 2 1 fe_is_number_word) : FnOk T.P T.w T.K T.mg T.base CX0 3 f fd ["word"] (spOf T false sp_read_number) :=
  Fn.ok (tab := none) sc_read_number Z.sm (fun q hq => by cases hq) (b_read_number Z F_is_number_word) len_read_number p_read_number
theorem fok_read_number {T : Tb} (Z : Zs T) {f p : Addr} {fd : FuncData} {cdv : Value} (Fn : FunC T.K "read_number" "read_number" s_read_number f fd cdv) (hm : T.mg "read_number" = some (.ref f)) (F_is_number_word : Fok T "is_number_word" 2 1 fe_is_number_word) : Fok T "read_number" 3 1 fe_read_number :=
  ⟨f, fd, ["word"], hm, Fn.kp, Fn.binds (ps := ["word"]) (fun _ _ _ _ _ _ us hl => match us, hl with | [_], _ => rfl), ok_read_number (p := p) Z Fn F_is_number_word, rfl⟩
theorem len_read_pair : ∀ ds κ, sp_read_pair ds κ → ds.length = 2 := by rintro ds κ ⟨_, _, _, rfl, _⟩; rfl
theorem ok_read_pair {T : Tb} (Z : Zs T) {f p : Addr} {fd : FuncData} {cdv : Value} (Fn : FunC T.K "read_pair" "read_pair" s_read_pair f fd cdv) (F_read_number : Fok T "read_number" 3 1 fe_read_number) : FnOk T.P T.w T.K T.mg T.base CX0 4 f fd ["word", "between"] (spOf T false sp_read_pair) :=
  Fn.ok (tab := none) sc_read_pair Z.sm (fun q hq => by cases hq) (b_read_pair Z F_read_number) len_read_pair p_read_pair
theorem fok_read_pair {T : Tb} (Z : Zs T) {f p : Addr} {fd : FuncData} {cdv : Value} (Fn : FunC T.K "read_pair" "read_pair" s_read_pair f fd cdv) (hm : T.mg "read_pair" = some (.ref f)) (F_read_number : Fok T "read_number" 3 1 fe_read_number) : Fok T "read_pair" 4 2 fe_read_pair :=
  ⟨f, fd, ["word", "between"], hm, Fn.kp, Fn.binds (ps := ["word", "between"]) (fun _ _ _ _ _ _ us hl => match us, hl with | [_, _], _ => rfl), ok_read_pair (p := p) Z Fn F_read_number, rfl⟩
theorem len_words_of : ∀ ds κ, sp_words_of ds κ → ds.length = 1 := by rintro ds κ ⟨_, rfl, _⟩; rfl
theorem ok_words_of {T : Tb} (Z : Zs T) {f p : Addr} {fd : FuncData} {cdv : Value} (Fn : FunC T.K "words_of" "words_of" s_words_of f fd cdv)  : FnOk T.P T.w T.K T.mg T.base CX0 1 f fd ["text"] (spOf T false sp_words_of) :=
  Fn.ok (tab := none) sc_words_of Z.sm (fun q hq => by cases hq) (b_words_of Z ) len_words_of p_words_of
theorem fok_words_of {T : Tb} (Z : Zs T) {f p : Addr} {fd : FuncData} {cdv : Value} (Fn : FunC T.K "words_of" "words_of" s_words_of f fd cdv) (hm : T.mg "words_of" = some (.ref f))  : Fok T "words_of" 1 1 fe_words_of :=
  ⟨f, fd, ["text"], hm, Fn.kp, Fn.binds (ps := ["text"]) (fun _ _ _ _ _ _ us hl => match us, hl with | [_], _ => rfl), ok_words_of (p := p) Z Fn , rfl⟩
theorem len_words_or_none : ∀ ds κ, sp_words_or_none ds κ → ds.length = 1 := by rintro ds κ ⟨_, rfl, _⟩; rfl
theorem ok_words_or_none {T : Tb} (Z : Zs T) {f p : Addr} {fd : FuncData} {cdv : Value} (Fn : FunC T.K "words_or_none" "words_or_none" s_words_or_none f fd cdv) (F_words_of : Fok T "words_of" 1 1 fe_words_of) : FnOk T.P T.w T.K T.mg T.base CX0 2 f fd ["text"] (spOf T false sp_words_or_none) :=
  Fn.ok (tab := none) sc_words_or_none Z.sm (fun q hq => by cases hq) (b_words_or_none Z F_words_of) len_words_or_none p_words_or_none
theorem fok_words_or_none {T : Tb} (Z : Zs T) {f p : Addr} {fd : FuncData} {cdv : Value} (Fn : FunC T.K "words_or_none" "words_or_none" s_words_or_none f fd cdv) (hm : T.mg "words_or_none" = some (.ref f)) (F_words_of : Fok T "words_of" 1 1 fe_words_of) : Fok T "words_or_none" 2 1 fe_words_or_none :=
  ⟨f, fd, ["text"], hm, Fn.kp, Fn.binds (ps := ["text"]) (fun _ _ _ _ _ _ us hl => match us, hl with | [_], _ => rfl), ok_words_or_none (p := p) Z Fn F_words_of, rfl⟩
theorem len_read_turn : ∀ ds κ, sp_read_turn ds κ → ds.length = 1 := by rintro ds κ ⟨_, _, _, _, rfl, _⟩; rfl
theorem ok_read_turn {T : Tb} (Z : Zs T) {f p : Addr} {fd : FuncData} {cdv : Value} (Fn : FunC T.K "read_turn" "read_turn" s_read_turn f fd cdv) (F_words_of : Fok T "words_of" 1 1 fe_words_of) (F_read_pair : Fok T "read_pair" 4 2 fe_read_pair) : FnOk T.P T.w T.K T.mg T.base CX0 5 f fd ["text"] (spOf T false sp_read_turn) :=
  Fn.ok (tab := none) sc_read_turn Z.sm (fun q hq => by cases hq) (b_read_turn Z F_words_of F_read_pair) len_read_turn p_read_turn
theorem fok_read_turn {T : Tb} (Z : Zs T) {f p : Addr} {fd : FuncData} {cdv : Value} (Fn : FunC T.K "read_turn" "read_turn" s_read_turn f fd cdv) (hm : T.mg "read_turn" = some (.ref f)) (F_words_of : Fok T "words_of" 1 1 fe_words_of) (F_read_pair : Fok T "read_pair" 4 2 fe_read_pair) : Fok T "read_turn" 5 1 fe_read_turn :=
  ⟨f, fd, ["text"], hm, Fn.kp, Fn.binds (ps := ["text"]) (fun _ _ _ _ _ _ us hl => match us, hl with | [_], _ => rfl), ok_read_turn (p := p) Z Fn F_words_of F_read_pair, rfl⟩
theorem len_read_rules : ∀ ds κ, sp_read_rules ds κ → ds.length = 1 := by rintro ds κ ⟨_, _, rfl, _⟩; rfl
theorem ok_read_rules {T : Tb} (Z : Zs T) {f p : Addr} {fd : FuncData} {cdv : Value} (Fn : FunC T.K "read_rules" "read_rules" s_read_rules f fd cdv) (F_words_or_none : Fok T "words_or_none" 2 1 fe_words_or_none) (F_read_pair : Fok T "read_pair" 4 2 fe_read_pair) (F_look_like_rules : Fok T "look_like_rules" 8 1 fe_look_like_rules) (F_rules_text : Fok T "rules_text" 9 1 fe_rules_text) : FnOk T.P T.w T.K T.mg T.base CX0 10 f fd ["text"] (spOf T false sp_read_rules) :=
  Fn.ok (tab := none) sc_read_rules Z.sm (fun q hq => by cases hq) (b_read_rules Z F_words_or_none F_read_pair F_look_like_rules F_rules_text) len_read_rules p_read_rules
theorem fok_read_rules {T : Tb} (Z : Zs T) {f p : Addr} {fd : FuncData} {cdv : Value} (Fn : FunC T.K "read_rules" "read_rules" s_read_rules f fd cdv) (hm : T.mg "read_rules" = some (.ref f)) (F_words_or_none : Fok T "words_or_none" 2 1 fe_words_or_none) (F_read_pair : Fok T "read_pair" 4 2 fe_read_pair) (F_look_like_rules : Fok T "look_like_rules" 8 1 fe_look_like_rules) (F_rules_text : Fok T "rules_text" 9 1 fe_rules_text) : Fok T "read_rules" 10 1 fe_read_rules :=
  ⟨f, fd, ["text"], hm, Fn.kp, Fn.binds (ps := ["text"]) (fun _ _ _ _ _ _ us hl => match us, hl with | [_], _ => rfl), ok_read_rules (p := p) Z Fn F_words_or_none F_read_pair F_look_like_rules F_rules_text, rfl⟩
theorem len__law_well : ∀ ds κ, sp__law_well ds κ → ds.length = 1 := by rintro ds κ ⟨_, rfl, _⟩; rfl
theorem ok__law_well {T : Tb} (Z : Zs T) {f p : Addr} {fd : FuncData} {cdv : Value} (Fn : FunC T.K "_law_well" "_law_well" s__law_well f fd cdv)  : FnOk T.P T.w T.K T.mg T.base CX0 1 f fd ["cell"] (spOf T false sp__law_well) :=
  Fn.ok (tab := none) sc__law_well Z.sm (fun q hq => by cases hq) (b__law_well Z ) len__law_well p__law_well
theorem fok__law_well {T : Tb} (Z : Zs T) {f p : Addr} {fd : FuncData} {cdv : Value} (Fn : FunC T.K "_law_well" "_law_well" s__law_well f fd cdv) (hm : T.mg "_law_well" = some (.ref f))  : Fok T "_law_well" 1 1 fe__law_well :=
  ⟨f, fd, ["cell"], hm, Fn.kp, Fn.binds (ps := ["cell"]) (fun _ _ _ _ _ _ us hl => match us, hl with | [_], _ => rfl), ok__law_well (p := p) Z Fn , rfl⟩
theorem len__law_draw : ∀ ds κ, sp__law_draw ds κ → ds.length = 2 := by rintro ds κ ⟨_, _, rfl, _⟩; rfl
theorem ok__law_draw {T : Tb} (Z : Zs T) {f p : Addr} {fd : FuncData} {cdv : Value} (Fn : FunC T.K "_law_draw" "_law_draw" s__law_draw f fd cdv)  : FnOk T.P T.w T.K T.mg T.base CX0 1 f fd ["well", "many"] (spOf T true sp__law_draw) :=
  Fn.ok (tab := none) sc__law_draw Z.sm (fun q hq => by cases hq) (b__law_draw Z ) len__law_draw p__law_draw
theorem fok__law_draw {T : Tb} (Z : Zs T) {f p : Addr} {fd : FuncData} {cdv : Value} (Fn : FunC T.K "_law_draw" "_law_draw" s__law_draw f fd cdv) (hm : T.mg "_law_draw" = some (.ref f))  : Fok T "_law_draw" 1 2 fe__law_draw :=
  ⟨f, fd, ["well", "many"], hm, Fn.kp, Fn.binds (ps := ["well", "many"]) (fun _ _ _ _ _ _ us hl => match us, hl with | [_, _], _ => rfl), ok__law_draw (p := p) Z Fn , rfl⟩
theorem len__law_some_number : ∀ ds κ, sp__law_some_number ds κ → ds.length = 1 := by rintro ds κ ⟨_, rfl, _⟩; rfl
theorem ok__law_some_number {T : Tb} (Z : Zs T) {f p : Addr} {fd : FuncData} {cdv : Value} (Fn : FunC T.K "_law_some_number" "_law_some_number" s__law_some_number f fd cdv) (F__law_draw : Fok T "_law_draw" 1 2 fe__law_draw) : FnOk T.P T.w T.K T.mg T.base CX0 2 f fd ["well"] (spOf T true sp__law_some_number) :=
  Fn.ok (tab := none) sc__law_some_number Z.sm (fun q hq => by cases hq) (b__law_some_number Z F__law_draw) len__law_some_number p__law_some_number
theorem fok__law_some_number {T : Tb} (Z : Zs T) {f p : Addr} {fd : FuncData} {cdv : Value} (Fn : FunC T.K "_law_some_number" "_law_some_number" s__law_some_number f fd cdv) (hm : T.mg "_law_some_number" = some (.ref f)) (F__law_draw : Fok T "_law_draw" 1 2 fe__law_draw) : Fok T "_law_some_number" 2 1 fe__law_some_number :=
  ⟨f, fd, ["well"], hm, Fn.kp, Fn.binds (ps := ["well"]) (fun _ _ _ _ _ _ us hl => match us, hl with | [_], _ => rfl), ok__law_some_number (p := p) Z Fn F__law_draw, rfl⟩
theorem len__law_rules : ∀ ds κ, sp__law_rules ds κ → ds.length = 1 := by rintro ds κ ⟨_, rfl, _⟩; rfl
theorem ok__law_rules {T : Tb} (Z : Zs T) {f p : Addr} {fd : FuncData} {cdv : Value} (Fn : FunC T.K "_law_rules" "_law_rules" s__law_rules f fd cdv) (F__law_draw : Fok T "_law_draw" 1 2 fe__law_draw) (F__law_some_number : Fok T "_law_some_number" 2 1 fe__law_some_number) : FnOk T.P T.w T.K T.mg T.base CX0 3 f fd ["well"] (spOf T true sp__law_rules) :=
  Fn.ok (tab := none) sc__law_rules Z.sm (fun q hq => by cases hq) (b__law_rules Z F__law_draw F__law_some_number) len__law_rules p__law_rules
theorem fok__law_rules {T : Tb} (Z : Zs T) {f p : Addr} {fd : FuncData} {cdv : Value} (Fn : FunC T.K "_law_rules" "_law_rules" s__law_rules f fd cdv) (hm : T.mg "_law_rules" = some (.ref f)) (F__law_draw : Fok T "_law_draw" 1 2 fe__law_draw) (F__law_some_number : Fok T "_law_some_number" 2 1 fe__law_some_number) : Fok T "_law_rules" 3 1 fe__law_rules :=
  ⟨f, fd, ["well"], hm, Fn.kp, Fn.binds (ps := ["well"]) (fun _ _ _ _ _ _ us hl => match us, hl with | [_], _ => rfl), ok__law_rules (p := p) Z Fn F__law_draw F__law_some_number, rfl⟩
theorem len__law_figures : ∀ ds κ, sp__law_figures ds κ → ds.length = 1 := by rintro ds κ ⟨_, rfl, _⟩; rfl
theorem ok__law_figures {T : Tb} (Z : Zs T) {f p : Addr} {fd : FuncData} {cdv : Value} (Fn : FunC T.K "_law_figures" "_law_figures" s__law_figures f fd cdv)  : FnOk T.P T.w T.K T.mg T.base CX0 1 f fd ["number"] (spOf T false sp__law_figures) :=
  Fn.ok (tab := none) sc__law_figures Z.sm (fun q hq => by cases hq) (b__law_figures Z ) len__law_figures p__law_figures
theorem fok__law_figures {T : Tb} (Z : Zs T) {f p : Addr} {fd : FuncData} {cdv : Value} (Fn : FunC T.K "_law_figures" "_law_figures" s__law_figures f fd cdv) (hm : T.mg "_law_figures" = some (.ref f))  : Fok T "_law_figures" 1 1 fe__law_figures :=
  ⟨f, fd, ["number"], hm, Fn.kp, Fn.binds (ps := ["number"]) (fun _ _ _ _ _ _ us hl => match us, hl with | [_], _ => rfl), ok__law_figures (p := p) Z Fn , rfl⟩
theorem len__law_turn_written : ∀ ds κ, sp__law_turn_written ds κ → ds.length = 1 := by rintro ds κ ⟨_, _, _, _, rfl, _⟩; rfl
theorem ok__law_turn_written {T : Tb} (Z : Zs T) {f p : Addr} {fd : FuncData} {cdv : Value} (Fn : FunC T.K "_law_turn_written" "_law_turn_written" s__law_turn_written f fd cdv) (F__law_figures : Fok T "_law_figures" 1 1 fe__law_figures) : FnOk T.P T.w T.K T.mg T.base CX0 2 f fd ["turn"] (spOf T false sp__law_turn_written) :=
  Fn.ok (tab := none) sc__law_turn_written Z.sm (fun q hq => by cases hq) (b__law_turn_written Z F__law_figures) len__law_turn_written p__law_turn_written
theorem fok__law_turn_written {T : Tb} (Z : Zs T) {f p : Addr} {fd : FuncData} {cdv : Value} (Fn : FunC T.K "_law_turn_written" "_law_turn_written" s__law_turn_written f fd cdv) (hm : T.mg "_law_turn_written" = some (.ref f)) (F__law_figures : Fok T "_law_figures" 1 1 fe__law_figures) : Fok T "_law_turn_written" 2 1 fe__law_turn_written :=
  ⟨f, fd, ["turn"], hm, Fn.kp, Fn.binds (ps := ["turn"]) (fun _ _ _ _ _ _ us hl => match us, hl with | [_], _ => rfl), ok__law_turn_written (p := p) Z Fn F__law_figures, rfl⟩
theorem len__law_rules_written : ∀ ds κ, sp__law_rules_written ds κ → ds.length = 1 := by rintro ds κ ⟨_, _, rfl, _⟩; rfl
theorem ok__law_rules_written {T : Tb} (Z : Zs T) {f p : Addr} {fd : FuncData} {cdv : Value} (Fn : FunC T.K "_law_rules_written" "_law_rules_written" s__law_rules_written f fd cdv) (F__law_figures : Fok T "_law_figures" 1 1 fe__law_figures) : FnOk T.P T.w T.K T.mg T.base CX0 2 f fd ["rules"] (spOf T false sp__law_rules_written) :=
  Fn.ok (tab := none) sc__law_rules_written Z.sm (fun q hq => by cases hq) (b__law_rules_written Z F__law_figures) len__law_rules_written p__law_rules_written
theorem fok__law_rules_written {T : Tb} (Z : Zs T) {f p : Addr} {fd : FuncData} {cdv : Value} (Fn : FunC T.K "_law_rules_written" "_law_rules_written" s__law_rules_written f fd cdv) (hm : T.mg "_law_rules_written" = some (.ref f)) (F__law_figures : Fok T "_law_figures" 1 1 fe__law_figures) : Fok T "_law_rules_written" 2 1 fe__law_rules_written :=
  ⟨f, fd, ["rules"], hm, Fn.kp, Fn.binds (ps := ["rules"]) (fun _ _ _ _ _ _ us hl => match us, hl with | [_], _ => rfl), ok__law_rules_written (p := p) Z Fn F__law_figures, rfl⟩
theorem len__law_same (d : Nat) : ∀ ds κ, sp__law_same d ds κ → ds.length = 2 := by rintro ds κ ⟨_, rfl, _⟩; rfl
theorem never__law_same {T : Tb} (Z : Zs T) {f p : Addr} {fd : FuncData} {cdv : Value} (Fn : FunC T.K "_law_same" "_law_same" s__law_same f fd cdv) (hm : T.mg "_law_same" = some (.ref f)) : Fok T "_law_same" 1 2 ⟨false, fun _ _ => False⟩ :=
  ⟨f, fd, ["found", "due"], hm, Fn.kp, Fn.binds (ps := ["found", "due"]) (fun _ _ _ _ _ _ us hl => match us, hl with | [_, _], _ => rfl), Fn.ok (tab := none) sc__law_same Z.sm (fun q hq => by cases hq) (vss_never (k := 0)) (fun _ _ h => h.elim) (fun _ _ h => h.elim), rfl⟩
theorem rec0__law_same {T : Tb} (Z : Zs T) {f p : Addr} {fd : FuncData} {cdv : Value} (Fn : FunC T.K "_law_same" "_law_same" s__law_same f fd cdv) (hm : T.mg "_law_same" = some (.ref f)) : Fok T "_law_same" 2 2 ⟨false, sp__law_same 0⟩ :=
  ⟨f, fd, ["found", "due"], hm, Fn.kp, Fn.binds (ps := ["found", "due"]) (fun _ _ _ _ _ _ us hl => match us, hl with | [_, _], _ => rfl), Fn.ok (tab := none) sc__law_same Z.sm (fun q hq => by cases hq) (b__law_same (kf := 1) Z ⟨false, fun _ _ => False⟩ (never__law_same (p := p) Z Fn hm)) (len__law_same 0) p0__law_same, rfl⟩
theorem recS__law_same {T : Tb} (Z : Zs T) {f p : Addr} {fd : FuncData} {cdv : Value} (Fn : FunC T.K "_law_same" "_law_same" s__law_same f fd cdv) (hm : T.mg "_law_same" = some (.ref f)) (d : Nat) (ih : Fok T "_law_same" (d + 2) 2 ⟨false, sp__law_same d⟩) : Fok T "_law_same" (d + 3) 2 ⟨false, sp__law_same (d + 1)⟩ :=
  ⟨f, fd, ["found", "due"], hm, Fn.kp, Fn.binds (ps := ["found", "due"]) (fun _ _ _ _ _ _ us hl => match us, hl with | [_, _], _ => rfl), Fn.ok (tab := none) sc__law_same Z.sm (fun q hq => by cases hq) (b__law_same (kf := d + 2) Z ⟨false, sp__law_same d⟩ ih) (len__law_same (d + 1)) (p__law_same d), rfl⟩
theorem rec__law_same {T : Tb} (Z : Zs T) {f p : Addr} {fd : FuncData} {cdv : Value} (Fn : FunC T.K "_law_same" "_law_same" s__law_same f fd cdv) (hm : T.mg "_law_same" = some (.ref f)) (d : Nat) : Fok T "_law_same" (d + 2) 2 ⟨false, sp__law_same d⟩ := by
  induction d with
  | zero => exact rec0__law_same (p := p) Z Fn hm
  | succ d ih => exact recS__law_same (p := p) Z Fn hm d ih
theorem fok__law_same {T : Tb} (Z : Zs T) {f p : Addr} {fd : FuncData} {cdv : Value} (Fn : FunC T.K "_law_same" "_law_same" s__law_same f fd cdv) (hm : T.mg "_law_same" = some (.ref f)) : Fok T "_law_same" 5 2 fe__law_same := rec__law_same (p := p) Z Fn hm 3
theorem len__law_rules_right : ∀ ds κ, sp__law_rules_right ds κ → ds.length = 1 := by rintro ds κ ⟨_, _, rfl, _⟩; rfl
theorem ok__law_rules_right {T : Tb} (Z : Zs T) {f p : Addr} {fd : FuncData} {cdv : Value} (Fn : FunC T.K "_law_rules_right" "_law_rules_right" s__law_rules_right f fd cdv) (F__law_rules_written : Fok T "_law_rules_written" 2 1 fe__law_rules_written) (F_rules_text : Fok T "rules_text" 9 1 fe_rules_text) (F_read_rules : Fok T "read_rules" 10 1 fe_read_rules) (F__law_same : Fok T "_law_same" 5 2 fe__law_same) : FnOk T.P T.w T.K T.mg T.base CX0 11 f fd ["rules"] (spOf T false sp__law_rules_right) :=
  Fn.ok (tab := none) sc__law_rules_right Z.sm (fun q hq => by cases hq) (b__law_rules_right Z F__law_rules_written F_rules_text F_read_rules F__law_same) len__law_rules_right p__law_rules_right
theorem fok__law_rules_right {T : Tb} (Z : Zs T) {f p : Addr} {fd : FuncData} {cdv : Value} (Fn : FunC T.K "_law_rules_right" "_law_rules_right" s__law_rules_right f fd cdv) (hm : T.mg "_law_rules_right" = some (.ref f)) (F__law_rules_written : Fok T "_law_rules_written" 2 1 fe__law_rules_written) (F_rules_text : Fok T "rules_text" 9 1 fe_rules_text) (F_read_rules : Fok T "read_rules" 10 1 fe_read_rules) (F__law_same : Fok T "_law_same" 5 2 fe__law_same) : Fok T "_law_rules_right" 11 1 fe__law_rules_right :=
  ⟨f, fd, ["rules"], hm, Fn.kp, Fn.binds (ps := ["rules"]) (fun _ _ _ _ _ _ us hl => match us, hl with | [_], _ => rfl), ok__law_rules_right (p := p) Z Fn F__law_rules_written F_rules_text F_read_rules F__law_same, rfl⟩
theorem len_law : ∀ ds κ, sp_law ds κ → ds.length = 1 := by rintro ds κ ⟨_, rfl, _⟩; rfl
theorem ok_law {T : Tb} (Z : Zs T) {f p : Addr} {fd : FuncData} {cdv : Value} (Fn : FunC T.K "law" "law" s_law f fd cdv) (F__law_well : Fok T "_law_well" 1 1 fe__law_well) (F__law_turn_written : Fok T "_law_turn_written" 2 1 fe__law_turn_written) (F_turn_text : Fok T "turn_text" 4 1 fe_turn_text) (F__law_rules_right : Fok T "_law_rules_right" 11 1 fe__law_rules_right) (F_rules_text : Fok T "rules_text" 9 1 fe_rules_text) (F_read_turn : Fok T "read_turn" 5 1 fe_read_turn) (F__law_some_number : Fok T "_law_some_number" 2 1 fe__law_some_number) (F__law_rules : Fok T "_law_rules" 3 1 fe__law_rules) (F__law_same : Fok T "_law_same" 5 2 fe__law_same) : FnOk T.P T.w T.K T.mg T.base CX0 12 f fd ["script"] (spOf T false sp_law) :=
  Fn.ok (tab := none) sc_law Z.sm (fun q hq => by cases hq) (b_law Z F__law_well F__law_turn_written F_turn_text F__law_rules_right F_rules_text F_read_turn F__law_some_number F__law_rules F__law_same) len_law p_law
theorem all_mk {l : PySem.W.OpenLaw} {w : World} {K : PySem.W.Frag} {h : Heap} {mg : Str → Option Value} {fa : Addr} (X : K.In h) (G : h.Ns mainGlobals mg) (hfa : mg "law" = some (.ref fa)) (htabs : ∀ x ∈ (["is_rule", "are_of_a_kind", "look_like_rules", "turn_text", "is_number_word"] : List Str), ∃ a o fd c P, mg x = some (.ref a) ∧ h.get? a = some o ∧ o.data = .func fd ∧ fd.code = .ref c ∧ h.TableAt c P #[])
    {f0 : Addr} {od0 an0 : Option Addr} {sl0 : Array (Option Value)} {oc0 kV0 dc0 pm0 ct0 : Value} {cd0 : Value} {f1 : Addr} {od1 an1 : Option Addr} {sl1 : Array (Option Value)} {oc1 kV1 dc1 pm1 ct1 : Value} {cd1 : Value} {f2 : Addr} {od2 an2 : Option Addr} {sl2 : Array (Option Value)} {oc2 kV2 dc2 pm2 ct2 : Value} {q2 P2 : Addr} {qo2 : Option Addr} {qv2 : Array Value} {qs2 : Array (Option Value)} {fi2 : Str} {tf2 : Tok} {fl2 : Int} {tg2 : Tok} {inF2 : Bool} {te2 : Int} {tt2 : Tok} {f3 : Addr} {od3 an3 : Option Addr} {sl3 : Array (Option Value)} {oc3 kV3 dc3 pm3 ct3 : Value} {q3 P3 : Addr} {qo3 : Option Addr} {qv3 : Array Value} {qs3 : Array (Option Value)} {fi3 : Str} {tf3 : Tok} {fl3 : Int} {tg3 : Tok} {inF3 : Bool} {te3 : Int} {tt3 : Tok} {f4 : Addr} {od4 an4 : Option Addr} {sl4 : Array (Option Value)} {oc4 kV4 dc4 pm4 ct4 : Value} {q4 P4 : Addr} {qo4 : Option Addr} {qv4 : Array Value} {qs4 : Array (Option Value)} {fi4 : Str} {tf4 : Tok} {fl4 : Int} {tg4 : Tok} {inF4 : Bool} {te4 : Int} {tt4 : Tok} {f5 : Addr} {od5 an5 : Option Addr} {sl5 : Array (Option Value)} {oc5 kV5 dc5 pm5 ct5 : Value} {cd5 : Value} {f6 : Addr} {od6 an6 : Option Addr} {sl6 : Array (Option Value)} {oc6 kV6 dc6 pm6 ct6 : Value} {q6 P6 : Addr} {qo6 : Option Addr} {qv6 : Array Value} {qs6 : Array (Option Value)} {fi6 : Str} {tf6 : Tok} {fl6 : Int} {tg6 : Tok} {inF6 : Bool} {te6 : Int} {tt6 : Tok} {f7 : Addr} {od7 an7 : Option Addr} {sl7 : Array (Option Value)} {oc7 kV7 dc7 pm7 ct7 : Value} {cd7 : Value} {f8 : Addr} {od8 an8 : Option Addr} {sl8 : Array (Option Value)} {oc8 kV8 dc8 pm8 ct8 : Value} {q8 P8 : Addr} {qo8 : Option Addr} {qv8 : Array Value} {qs8 : Array (Option Value)} {fi8 : Str} {tf8 : Tok} {fl8 : Int} {tg8 : Tok} {inF8 : Bool} {te8 : Int} {tt8 : Tok} {f9 : Addr} {od9 an9 : Option Addr} {sl9 : Array (Option Value)} {oc9 kV9 dc9 pm9 ct9 : Value} {cd9 : Value} {f10 : Addr} {od10 an10 : Option Addr} {sl10 : Array (Option Value)} {oc10 kV10 dc10 pm10 ct10 : Value} {cd10 : Value} {f11 : Addr} {od11 an11 : Option Addr} {sl11 : Array (Option Value)} {oc11 kV11 dc11 pm11 ct11 : Value} {cd11 : Value} {f12 : Addr} {od12 an12 : Option Addr} {sl12 : Array (Option Value)} {oc12 kV12 dc12 pm12 ct12 : Value} {cd12 : Value} {f13 : Addr} {od13 an13 : Option Addr} {sl13 : Array (Option Value)} {oc13 kV13 dc13 pm13 ct13 : Value} {cd13 : Value} {f14 : Addr} {od14 an14 : Option Addr} {sl14 : Array (Option Value)} {oc14 kV14 dc14 pm14 ct14 : Value} {cd14 : Value} {f15 : Addr} {od15 an15 : Option Addr} {sl15 : Array (Option Value)} {oc15 kV15 dc15 pm15 ct15 : Value} {cd15 : Value} {f16 : Addr} {od16 an16 : Option Addr} {sl16 : Array (Option Value)} {oc16 kV16 dc16 pm16 ct16 : Value} {cd16 : Value} {f17 : Addr} {od17 an17 : Option Addr} {sl17 : Array (Option Value)} {oc17 kV17 dc17 pm17 ct17 : Value} {cd17 : Value} {f18 : Addr} {od18 an18 : Option Addr} {sl18 : Array (Option Value)} {oc18 kV18 dc18 pm18 ct18 : Value} {cd18 : Value} {f19 : Addr} {od19 an19 : Option Addr} {sl19 : Array (Option Value)} {oc19 kV19 dc19 pm19 ct19 : Value} {cd19 : Value} {f20 : Addr} {od20 an20 : Option Addr} {sl20 : Array (Option Value)} {oc20 kV20 dc20 pm20 ct20 : Value} {cd20 : Value} {f21 : Addr} {od21 an21 : Option Addr} {sl21 : Array (Option Value)} {oc21 kV21 dc21 pm21 ct21 : Value} {cd21 : Value} {f22 : Addr} {od22 an22 : Option Addr} {sl22 : Array (Option Value)} {oc22 kV22 dc22 pm22 ct22 : Value} {cd22 : Value} {f23 : Addr} {od23 an23 : Option Addr} {sl23 : Array (Option Value)} {oc23 kV23 dc23 pm23 ct23 : Value} {cd23 : Value} {f24 : Addr} {od24 an24 : Option Addr} {sl24 : Array (Option Value)} {oc24 kV24 dc24 pm24 ct24 : Value} {cd24 : Value} {t_FIGURES : Tok} {t_MOST_RULES : Tok}
    (a0 : PySem.W.nsIn K mainGlobals "is_whole" = some (some (.ref f0))) (l0 : K.lookup f0 = some ⟨oc0, od0, .func (PySem.W.fnOf "is_whole" "is_whole" (defArgs s_is_whole) (defBody s_is_whole) (defScope s_is_whole) .none kV0 dc0 pm0 an0 cd0 ct0), sl0⟩) (c0 : PySem.W.codeIn K cd0 "is_whole" = true) (k0 : PySem.W.keepIn K (.ref f0) = true)
    (a1 : PySem.W.nsIn K mainGlobals "is_from_0" = some (some (.ref f1))) (l1 : K.lookup f1 = some ⟨oc1, od1, .func (PySem.W.fnOf "is_from_0" "is_from_0" (defArgs s_is_from_0) (defBody s_is_from_0) (defScope s_is_from_0) .none kV1 dc1 pm1 an1 cd1 ct1), sl1⟩) (c1 : PySem.W.codeIn K cd1 "is_from_0" = true) (k1 : PySem.W.keepIn K (.ref f1) = true)
    (a2 : PySem.W.nsIn K mainGlobals "is_rule" = some (some (.ref f2))) (l2 : K.lookup f2 = some ⟨oc2, od2, .func (PySem.W.fnOf "is_rule" "is_rule" (defArgs s_is_rule) (defBody s_is_rule) (defScope s_is_rule) .none kV2 dc2 pm2 an2 (.ref q2) ct2), sl2⟩) (c2 : PySem.W.codeIn K (.ref q2) "is_rule" = true) (k2 : PySem.W.keepIn K (.ref f2) = true)
    (tl2 : K.lookup q2 = some ⟨.type "code", qo2, .fields qv2, qs2⟩) (tv2 : qv2[11]? = some (.ref P2) ∧ qv2.getD 18 .none = .str fi2 tf2 ∧ qv2.getD 7 .none = .int fl2 tg2 ∧ qv2.getD 9 .none = .bool inF2 ∧ qv2.getD 10 .none = .int te2 tt2) (tn2 : q2 ≠ P2)
    (a3 : PySem.W.nsIn K mainGlobals "are_of_a_kind" = some (some (.ref f3))) (l3 : K.lookup f3 = some ⟨oc3, od3, .func (PySem.W.fnOf "are_of_a_kind" "are_of_a_kind" (defArgs s_are_of_a_kind) (defBody s_are_of_a_kind) (defScope s_are_of_a_kind) .none kV3 dc3 pm3 an3 (.ref q3) ct3), sl3⟩) (c3 : PySem.W.codeIn K (.ref q3) "are_of_a_kind" = true) (k3 : PySem.W.keepIn K (.ref f3) = true)
    (tl3 : K.lookup q3 = some ⟨.type "code", qo3, .fields qv3, qs3⟩) (tv3 : qv3[11]? = some (.ref P3) ∧ qv3.getD 18 .none = .str fi3 tf3 ∧ qv3.getD 7 .none = .int fl3 tg3 ∧ qv3.getD 9 .none = .bool inF3 ∧ qv3.getD 10 .none = .int te3 tt3) (tn3 : q3 ≠ P3)
    (a4 : PySem.W.nsIn K mainGlobals "look_like_rules" = some (some (.ref f4))) (l4 : K.lookup f4 = some ⟨oc4, od4, .func (PySem.W.fnOf "look_like_rules" "look_like_rules" (defArgs s_look_like_rules) (defBody s_look_like_rules) (defScope s_look_like_rules) .none kV4 dc4 pm4 an4 (.ref q4) ct4), sl4⟩) (c4 : PySem.W.codeIn K (.ref q4) "look_like_rules" = true) (k4 : PySem.W.keepIn K (.ref f4) = true)
    (tl4 : K.lookup q4 = some ⟨.type "code", qo4, .fields qv4, qs4⟩) (tv4 : qv4[11]? = some (.ref P4) ∧ qv4.getD 18 .none = .str fi4 tf4 ∧ qv4.getD 7 .none = .int fl4 tg4 ∧ qv4.getD 9 .none = .bool inF4 ∧ qv4.getD 10 .none = .int te4 tt4) (tn4 : q4 ≠ P4)
    (a5 : PySem.W.nsIn K mainGlobals "text_of_words" = some (some (.ref f5))) (l5 : K.lookup f5 = some ⟨oc5, od5, .func (PySem.W.fnOf "text_of_words" "text_of_words" (defArgs s_text_of_words) (defBody s_text_of_words) (defScope s_text_of_words) .none kV5 dc5 pm5 an5 cd5 ct5), sl5⟩) (c5 : PySem.W.codeIn K cd5 "text_of_words" = true) (k5 : PySem.W.keepIn K (.ref f5) = true)
    (a6 : PySem.W.nsIn K mainGlobals "turn_text" = some (some (.ref f6))) (l6 : K.lookup f6 = some ⟨oc6, od6, .func (PySem.W.fnOf "turn_text" "turn_text" (defArgs s_turn_text) (defBody s_turn_text) (defScope s_turn_text) .none kV6 dc6 pm6 an6 (.ref q6) ct6), sl6⟩) (c6 : PySem.W.codeIn K (.ref q6) "turn_text" = true) (k6 : PySem.W.keepIn K (.ref f6) = true)
    (tl6 : K.lookup q6 = some ⟨.type "code", qo6, .fields qv6, qs6⟩) (tv6 : qv6[11]? = some (.ref P6) ∧ qv6.getD 18 .none = .str fi6 tf6 ∧ qv6.getD 7 .none = .int fl6 tg6 ∧ qv6.getD 9 .none = .bool inF6 ∧ qv6.getD 10 .none = .int te6 tt6) (tn6 : q6 ≠ P6)
    (a7 : PySem.W.nsIn K mainGlobals "rules_text" = some (some (.ref f7))) (l7 : K.lookup f7 = some ⟨oc7, od7, .func (PySem.W.fnOf "rules_text" "rules_text" (defArgs s_rules_text) (defBody s_rules_text) (defScope s_rules_text) .none kV7 dc7 pm7 an7 cd7 ct7), sl7⟩) (c7 : PySem.W.codeIn K cd7 "rules_text" = true) (k7 : PySem.W.keepIn K (.ref f7) = true)
    (a8 : PySem.W.nsIn K mainGlobals "is_number_word" = some (some (.ref f8))) (l8 : K.lookup f8 = some ⟨oc8, od8, .func (PySem.W.fnOf "is_number_word" "is_number_word" (defArgs s_is_number_word) (defBody s_is_number_word) (defScope s_is_number_word) .none kV8 dc8 pm8 an8 (.ref q8) ct8), sl8⟩) (c8 : PySem.W.codeIn K (.ref q8) "is_number_word" = true) (k8 : PySem.W.keepIn K (.ref f8) = true)
    (tl8 : K.lookup q8 = some ⟨.type "code", qo8, .fields qv8, qs8⟩) (tv8 : qv8[11]? = some (.ref P8) ∧ qv8.getD 18 .none = .str fi8 tf8 ∧ qv8.getD 7 .none = .int fl8 tg8 ∧ qv8.getD 9 .none = .bool inF8 ∧ qv8.getD 10 .none = .int te8 tt8) (tn8 : q8 ≠ P8)
    (a9 : PySem.W.nsIn K mainGlobals "read_number" = some (some (.ref f9))) (l9 : K.lookup f9 = some ⟨oc9, od9, .func (PySem.W.fnOf "read_number" "read_number" (defArgs s_read_number) (defBody s_read_number) (defScope s_read_number) .none kV9 dc9 pm9 an9 cd9 ct9), sl9⟩) (c9 : PySem.W.codeIn K cd9 "read_number" = true) (k9 : PySem.W.keepIn K (.ref f9) = true)
    (a10 : PySem.W.nsIn K mainGlobals "read_pair" = some (some (.ref f10))) (l10 : K.lookup f10 = some ⟨oc10, od10, .func (PySem.W.fnOf "read_pair" "read_pair" (defArgs s_read_pair) (defBody s_read_pair) (defScope s_read_pair) .none kV10 dc10 pm10 an10 cd10 ct10), sl10⟩) (c10 : PySem.W.codeIn K cd10 "read_pair" = true) (k10 : PySem.W.keepIn K (.ref f10) = true)
    (a11 : PySem.W.nsIn K mainGlobals "words_of" = some (some (.ref f11))) (l11 : K.lookup f11 = some ⟨oc11, od11, .func (PySem.W.fnOf "words_of" "words_of" (defArgs s_words_of) (defBody s_words_of) (defScope s_words_of) .none kV11 dc11 pm11 an11 cd11 ct11), sl11⟩) (c11 : PySem.W.codeIn K cd11 "words_of" = true) (k11 : PySem.W.keepIn K (.ref f11) = true)
    (a12 : PySem.W.nsIn K mainGlobals "words_or_none" = some (some (.ref f12))) (l12 : K.lookup f12 = some ⟨oc12, od12, .func (PySem.W.fnOf "words_or_none" "words_or_none" (defArgs s_words_or_none) (defBody s_words_or_none) (defScope s_words_or_none) .none kV12 dc12 pm12 an12 cd12 ct12), sl12⟩) (c12 : PySem.W.codeIn K cd12 "words_or_none" = true) (k12 : PySem.W.keepIn K (.ref f12) = true)
    (a13 : PySem.W.nsIn K mainGlobals "read_turn" = some (some (.ref f13))) (l13 : K.lookup f13 = some ⟨oc13, od13, .func (PySem.W.fnOf "read_turn" "read_turn" (defArgs s_read_turn) (defBody s_read_turn) (defScope s_read_turn) .none kV13 dc13 pm13 an13 cd13 ct13), sl13⟩) (c13 : PySem.W.codeIn K cd13 "read_turn" = true) (k13 : PySem.W.keepIn K (.ref f13) = true)
    (a14 : PySem.W.nsIn K mainGlobals "read_rules" = some (some (.ref f14))) (l14 : K.lookup f14 = some ⟨oc14, od14, .func (PySem.W.fnOf "read_rules" "read_rules" (defArgs s_read_rules) (defBody s_read_rules) (defScope s_read_rules) .none kV14 dc14 pm14 an14 cd14 ct14), sl14⟩) (c14 : PySem.W.codeIn K cd14 "read_rules" = true) (k14 : PySem.W.keepIn K (.ref f14) = true)
    (a15 : PySem.W.nsIn K mainGlobals "_law_well" = some (some (.ref f15))) (l15 : K.lookup f15 = some ⟨oc15, od15, .func (PySem.W.fnOf "_law_well" "_law_well" (defArgs s__law_well) (defBody s__law_well) (defScope s__law_well) .none kV15 dc15 pm15 an15 cd15 ct15), sl15⟩) (c15 : PySem.W.codeIn K cd15 "_law_well" = true) (k15 : PySem.W.keepIn K (.ref f15) = true)
    (a16 : PySem.W.nsIn K mainGlobals "_law_draw" = some (some (.ref f16))) (l16 : K.lookup f16 = some ⟨oc16, od16, .func (PySem.W.fnOf "_law_draw" "_law_draw" (defArgs s__law_draw) (defBody s__law_draw) (defScope s__law_draw) .none kV16 dc16 pm16 an16 cd16 ct16), sl16⟩) (c16 : PySem.W.codeIn K cd16 "_law_draw" = true) (k16 : PySem.W.keepIn K (.ref f16) = true)
    (a17 : PySem.W.nsIn K mainGlobals "_law_some_number" = some (some (.ref f17))) (l17 : K.lookup f17 = some ⟨oc17, od17, .func (PySem.W.fnOf "_law_some_number" "_law_some_number" (defArgs s__law_some_number) (defBody s__law_some_number) (defScope s__law_some_number) .none kV17 dc17 pm17 an17 cd17 ct17), sl17⟩) (c17 : PySem.W.codeIn K cd17 "_law_some_number" = true) (k17 : PySem.W.keepIn K (.ref f17) = true)
    (a18 : PySem.W.nsIn K mainGlobals "_law_rules" = some (some (.ref f18))) (l18 : K.lookup f18 = some ⟨oc18, od18, .func (PySem.W.fnOf "_law_rules" "_law_rules" (defArgs s__law_rules) (defBody s__law_rules) (defScope s__law_rules) .none kV18 dc18 pm18 an18 cd18 ct18), sl18⟩) (c18 : PySem.W.codeIn K cd18 "_law_rules" = true) (k18 : PySem.W.keepIn K (.ref f18) = true)
    (a19 : PySem.W.nsIn K mainGlobals "_law_figures" = some (some (.ref f19))) (l19 : K.lookup f19 = some ⟨oc19, od19, .func (PySem.W.fnOf "_law_figures" "_law_figures" (defArgs s__law_figures) (defBody s__law_figures) (defScope s__law_figures) .none kV19 dc19 pm19 an19 cd19 ct19), sl19⟩) (c19 : PySem.W.codeIn K cd19 "_law_figures" = true) (k19 : PySem.W.keepIn K (.ref f19) = true)
    (a20 : PySem.W.nsIn K mainGlobals "_law_turn_written" = some (some (.ref f20))) (l20 : K.lookup f20 = some ⟨oc20, od20, .func (PySem.W.fnOf "_law_turn_written" "_law_turn_written" (defArgs s__law_turn_written) (defBody s__law_turn_written) (defScope s__law_turn_written) .none kV20 dc20 pm20 an20 cd20 ct20), sl20⟩) (c20 : PySem.W.codeIn K cd20 "_law_turn_written" = true) (k20 : PySem.W.keepIn K (.ref f20) = true)
    (a21 : PySem.W.nsIn K mainGlobals "_law_rules_written" = some (some (.ref f21))) (l21 : K.lookup f21 = some ⟨oc21, od21, .func (PySem.W.fnOf "_law_rules_written" "_law_rules_written" (defArgs s__law_rules_written) (defBody s__law_rules_written) (defScope s__law_rules_written) .none kV21 dc21 pm21 an21 cd21 ct21), sl21⟩) (c21 : PySem.W.codeIn K cd21 "_law_rules_written" = true) (k21 : PySem.W.keepIn K (.ref f21) = true)
    (a22 : PySem.W.nsIn K mainGlobals "_law_same" = some (some (.ref f22))) (l22 : K.lookup f22 = some ⟨oc22, od22, .func (PySem.W.fnOf "_law_same" "_law_same" (defArgs s__law_same) (defBody s__law_same) (defScope s__law_same) .none kV22 dc22 pm22 an22 cd22 ct22), sl22⟩) (c22 : PySem.W.codeIn K cd22 "_law_same" = true) (k22 : PySem.W.keepIn K (.ref f22) = true)
    (a23 : PySem.W.nsIn K mainGlobals "_law_rules_right" = some (some (.ref f23))) (l23 : K.lookup f23 = some ⟨oc23, od23, .func (PySem.W.fnOf "_law_rules_right" "_law_rules_right" (defArgs s__law_rules_right) (defBody s__law_rules_right) (defScope s__law_rules_right) .none kV23 dc23 pm23 an23 cd23 ct23), sl23⟩) (c23 : PySem.W.codeIn K cd23 "_law_rules_right" = true) (k23 : PySem.W.keepIn K (.ref f23) = true)
    (a24 : PySem.W.nsIn K mainGlobals "law" = some (some (.ref f24))) (l24 : K.lookup f24 = some ⟨oc24, od24, .func (PySem.W.fnOf "law" "law" (defArgs s_law) (defBody s_law) (defScope s_law) .none kV24 dc24 pm24 an24 cd24 ct24), sl24⟩) (c24 : PySem.W.codeIn K cd24 "law" = true) (k24 : PySem.W.keepIn K (.ref f24) = true)
    (z_all : PySem.W.nsIn K mainGlobals "all" = some none)
    (z_bool : PySem.W.nsIn K mainGlobals "bool" = some none)
    (z_int : PySem.W.nsIn K mainGlobals "int" = some none)
    (z_isinstance : PySem.W.nsIn K mainGlobals "isinstance" = some none)
    (z_len : PySem.W.nsIn K mainGlobals "len" = some none)
    (z_list : PySem.W.nsIn K mainGlobals "list" = some none)
    (z_range : PySem.W.nsIn K mainGlobals "range" = some none)
    (z_str : PySem.W.nsIn K mainGlobals "str" = some none)
    (z_tuple : PySem.W.nsIn K mainGlobals "tuple" = some none)
    (z_zip : PySem.W.nsIn K mainGlobals "zip" = some none)
    (y_FIGURES : PySem.W.nsIn K mainGlobals "FIGURES" = some (some (.str "0123456789" t_FIGURES)))
    (y_MOST_RULES : PySem.W.nsIn K mainGlobals "MOST_RULES" = some (some (.int 40 t_MOST_RULES))) :
    ∃ (tabs : List Addr) (fd : FuncData), (∀ p ∈ tabs, h.get? p = some { cls := .none, data := .fields #[] } ∧ ∃ c, TabIn K (.ref c) p) ∧
        (∀ (s : Shared) (u : Value), BindsTo s fd ⟨[u], []⟩ [("script", u)]) ∧
        ∀ (a : Addr) (base : Heap), CutOk K (a :: tabs) → (∃ o, base.get? sysModules = some o) → FnOk l.prog w (cutK K (a :: tabs)) mg base CX0 12 fa fd ["script"] (spOf ⟨l.prog, w, cutK K (a :: tabs), mg, base, tabs⟩ false (fsLaw 63)) := by
  have e := hfa.symm.trans (PySem.W.mg_of X G a24)
  cases e
  have T2 := tab_mk tl2 tv2 tn2
  have T3 := tab_mk tl3 tv3 tn3
  have T4 := tab_mk tl4 tv4 tn4
  have T6 := tab_mk tl6 tv6 tn6
  have T8 := tab_mk tl8 tv8 tn8
  refine ⟨[P2, P3, P4, P6, P8], PySem.W.fnOf "law" "law" (defArgs s_law) (defBody s_law) (defScope s_law) .none kV24 dc24 pm24 an24 cd24 ct24, fun p hp => by
    simp only [List.mem_cons, List.not_mem_nil, or_false] at hp
    rcases hp with rfl | rfl | rfl | rfl | rfl
    · exact ⟨tab_at X (PySem.W.mg_of X G a2) l2 rfl tl2 tv2.1 (htabs "is_rule" (by simp)), _, T2⟩
    · exact ⟨tab_at X (PySem.W.mg_of X G a3) l3 rfl tl3 tv3.1 (htabs "are_of_a_kind" (by simp)), _, T3⟩
    · exact ⟨tab_at X (PySem.W.mg_of X G a4) l4 rfl tl4 tv4.1 (htabs "look_like_rules" (by simp)), _, T4⟩
    · exact ⟨tab_at X (PySem.W.mg_of X G a6) l6 rfl tl6 tv6.1 (htabs "turn_text" (by simp)), _, T6⟩
    · exact ⟨tab_at X (PySem.W.mg_of X G a8) l8 rfl tl8 tv8.1 (htabs "is_number_word" (by simp)), _, T8⟩, fun s v => .of_eq rfl, fun a base cut bsm => ?_⟩
  have Z : Zs ⟨l.prog, w, cutK K (a :: [P2, P3, P4, P6, P8]), mg, base, [P2, P3, P4, P6, P8]⟩ := ⟨bsm, PySem.W.mg_none_of X G z_all, PySem.W.mg_none_of X G z_bool, PySem.W.mg_none_of X G z_int, PySem.W.mg_none_of X G z_isinstance, PySem.W.mg_none_of X G z_len, PySem.W.mg_none_of X G z_list, PySem.W.mg_none_of X G z_range, PySem.W.mg_none_of X G z_str, PySem.W.mg_none_of X G z_tuple, PySem.W.mg_none_of X G z_zip, ⟨_, PySem.W.mg_of X G y_FIGURES⟩, ⟨_, PySem.W.mg_of X G y_MOST_RULES⟩⟩
  have C0 := FunC.cut cut (func_mk (st := s_is_whole) l0 c0 k0)
  have F_is_whole := fok_is_whole (p := 0) Z C0 (PySem.W.mg_of X G a0)
  have C1 := FunC.cut cut (func_mk (st := s_is_from_0) l1 c1 k1)
  have F_is_from_0 := fok_is_from_0 (p := 0) Z C1 (PySem.W.mg_of X G a1) F_is_whole
  have C2 := FunC.cut cut (func_mk (st := s_is_rule) l2 c2 k2)
  have F_is_rule := fok_is_rule (p := P2) Z C2 (PySem.W.mg_of X G a2) ⟨T2.cut cut, by simp⟩ F_is_from_0
  have C3 := FunC.cut cut (func_mk (st := s_are_of_a_kind) l3 c3 k3)
  have F_are_of_a_kind := fok_are_of_a_kind (p := P3) Z C3 (PySem.W.mg_of X G a3) ⟨T3.cut cut, by simp⟩ F_is_rule
  have C4 := FunC.cut cut (func_mk (st := s_look_like_rules) l4 c4 k4)
  have F_look_like_rules := fok_look_like_rules (p := P4) Z C4 (PySem.W.mg_of X G a4) ⟨T4.cut cut, by simp⟩ F_are_of_a_kind
  have C5 := FunC.cut cut (func_mk (st := s_text_of_words) l5 c5 k5)
  have F_text_of_words := fok_text_of_words (p := 0) Z C5 (PySem.W.mg_of X G a5)
  have C6 := FunC.cut cut (func_mk (st := s_turn_text) l6 c6 k6)
  have F_turn_text := fok_turn_text (p := P6) Z C6 (PySem.W.mg_of X G a6) ⟨T6.cut cut, by simp⟩ F_is_from_0
  have C7 := FunC.cut cut (func_mk (st := s_rules_text) l7 c7 k7)
  have F_rules_text := fok_rules_text (p := 0) Z C7 (PySem.W.mg_of X G a7) F_text_of_words F_look_like_rules
  have C8 := FunC.cut cut (func_mk (st := s_is_number_word) l8 c8 k8)
  have F_is_number_word := fok_is_number_word (p := P8) Z C8 (PySem.W.mg_of X G a8) ⟨T8.cut cut, by simp⟩
  have C9 := FunC.cut cut (func_mk (st := s_read_number) l9 c9 k9)
  have F_read_number := fok_read_number (p := 0) Z C9 (PySem.W.mg_of X G a9) F_is_number_word
  have C10 := FunC.cut cut (func_mk (st := s_read_pair) l10 c10 k10)
  have F_read_pair := fok_read_pair (p := 0) Z C10 (PySem.W.mg_of X G a10) F_read_number
  have C11 := FunC.cut cut (func_mk (st := s_words_of) l11 c11 k11)
  have F_words_of := fok_words_of (p := 0) Z C11 (PySem.W.mg_of X G a11)
  have C12 := FunC.cut cut (func_mk (st := s_words_or_none) l12 c12 k12)
  have F_words_or_none := fok_words_or_none (p := 0) Z C12 (PySem.W.mg_of X G a12) F_words_of
  have C13 := FunC.cut cut (func_mk (st := s_read_turn) l13 c13 k13)
  have F_read_turn := fok_read_turn (p := 0) Z C13 (PySem.W.mg_of X G a13) F_words_of F_read_pair
  have C14 := FunC.cut cut (func_mk (st := s_read_rules) l14 c14 k14)
  have F_read_rules := fok_read_rules (p := 0) Z C14 (PySem.W.mg_of X G a14) F_words_or_none F_read_pair F_look_like_rules F_rules_text
  have C15 := FunC.cut cut (func_mk (st := s__law_well) l15 c15 k15)
  have F__law_well := fok__law_well (p := 0) Z C15 (PySem.W.mg_of X G a15)
  have C16 := FunC.cut cut (func_mk (st := s__law_draw) l16 c16 k16)
  have F__law_draw := fok__law_draw (p := 0) Z C16 (PySem.W.mg_of X G a16)
  have C17 := FunC.cut cut (func_mk (st := s__law_some_number) l17 c17 k17)
  have F__law_some_number := fok__law_some_number (p := 0) Z C17 (PySem.W.mg_of X G a17) F__law_draw
  have C18 := FunC.cut cut (func_mk (st := s__law_rules) l18 c18 k18)
  have F__law_rules := fok__law_rules (p := 0) Z C18 (PySem.W.mg_of X G a18) F__law_draw F__law_some_number
  have C19 := FunC.cut cut (func_mk (st := s__law_figures) l19 c19 k19)
  have F__law_figures := fok__law_figures (p := 0) Z C19 (PySem.W.mg_of X G a19)
  have C20 := FunC.cut cut (func_mk (st := s__law_turn_written) l20 c20 k20)
  have F__law_turn_written := fok__law_turn_written (p := 0) Z C20 (PySem.W.mg_of X G a20) F__law_figures
  have C21 := FunC.cut cut (func_mk (st := s__law_rules_written) l21 c21 k21)
  have F__law_rules_written := fok__law_rules_written (p := 0) Z C21 (PySem.W.mg_of X G a21) F__law_figures
  have C22 := FunC.cut cut (func_mk (st := s__law_same) l22 c22 k22)
  have F__law_same := fok__law_same (p := 0) Z C22 (PySem.W.mg_of X G a22)
  have C23 := FunC.cut cut (func_mk (st := s__law_rules_right) l23 c23 k23)
  have F__law_rules_right := fok__law_rules_right (p := 0) Z C23 (PySem.W.mg_of X G a23) F__law_rules_written F_rules_text F_read_rules F__law_same
  have C24 := FunC.cut cut (func_mk (st := s_law) l24 c24 k24)
  exact ok_law (p := 0) Z C24 F__law_well F__law_turn_written F_turn_text F__law_rules_right F_rules_text F_read_turn F__law_some_number F__law_rules F__law_same
end Law
open PySem PySem.W PyProof.Rows
set_option maxRecDepth 100000 in
set_option maxHeartbeats 0 in
theorem PySem.Challenge.cw_tierounds_k55_turns_and_rules_written_holds : PySem.Challenge.rw_tierounds_k55_turns_and_rules_written.Holds := by
  w_on; o_law; k_head; (case hw => w_witness2)
  k_fill
  refine L2.walkT (l := PySem.Challenge.rw_tierounds_k55_turns_and_rules_written) (n := 63) (k := 12) (x := "script") (names := ["is_rule", "are_of_a_kind", "look_like_rules", "turn_text", "is_number_word"]) rfl (by decide) rfl ⟨rfl, by decide, by decide, rfl⟩ (by decide +kernel) (by decide +kernel) (fun w h Y => PySem.W.kIn_of Y) ?F
  case F =>
    intro w mg fa h KX G hmg htabs
    refine' Law.all_mk KX G hmg htabs ?a0 ?l0 ?c0 ?k0 ?a1 ?l1 ?c1 ?k1 ?a2 ?l2 ?c2 ?k2 ?tl2 ?tv2 ?tn2 ?a3 ?l3 ?c3 ?k3 ?tl3 ?tv3 ?tn3 ?a4 ?l4 ?c4 ?k4 ?tl4 ?tv4 ?tn4 ?a5 ?l5 ?c5 ?k5 ?a6 ?l6 ?c6 ?k6 ?tl6 ?tv6 ?tn6 ?a7 ?l7 ?c7 ?k7 ?a8 ?l8 ?c8 ?k8 ?tl8 ?tv8 ?tn8 ?a9 ?l9 ?c9 ?k9 ?a10 ?l10 ?c10 ?k10 ?a11 ?l11 ?c11 ?k11 ?a12 ?l12 ?c12 ?k12 ?a13 ?l13 ?c13 ?k13 ?a14 ?l14 ?c14 ?k14 ?a15 ?l15 ?c15 ?k15 ?a16 ?l16 ?c16 ?k16 ?a17 ?l17 ?c17 ?k17 ?a18 ?l18 ?c18 ?k18 ?a19 ?l19 ?c19 ?k19 ?a20 ?l20 ?c20 ?k20 ?a21 ?l21 ?c21 ?k21 ?a22 ?l22 ?c22 ?k22 ?a23 ?l23 ?c23 ?k23 ?a24 ?l24 ?c24 ?k24 ?z_all ?z_bool ?z_int ?z_isinstance ?z_len ?z_list ?z_range ?z_str ?z_tuple ?z_zip ?y_FIGURES ?y_MOST_RULES
    (case a0 => k_is)
    (case l0 => k_is)
    (case c0 => k_is)
    (case k0 => k_is)
    (case a1 => k_is)
    (case l1 => k_is)
    (case c1 => k_is)
    (case k1 => k_is)
    (case a2 => k_is)
    (case l2 => k_is)
    (case c2 => k_is)
    (case k2 => k_is)
    (case tl2 => k_is)
    (case tv2 => exact ⟨rfl, rfl, rfl, rfl, rfl⟩)
    (case tn2 => decide)
    (case a3 => k_is)
    (case l3 => k_is)
    (case c3 => k_is)
    (case k3 => k_is)
    (case tl3 => k_is)
    (case tv3 => exact ⟨rfl, rfl, rfl, rfl, rfl⟩)
    (case tn3 => decide)
    (case a4 => k_is)
    (case l4 => k_is)
    (case c4 => k_is)
    (case k4 => k_is)
    (case tl4 => k_is)
    (case tv4 => exact ⟨rfl, rfl, rfl, rfl, rfl⟩)
    (case tn4 => decide)
    (case a5 => k_is)
    (case l5 => k_is)
    (case c5 => k_is)
    (case k5 => k_is)
    (case a6 => k_is)
    (case l6 => k_is)
    (case c6 => k_is)
    (case k6 => k_is)
    (case tl6 => k_is)
    (case tv6 => exact ⟨rfl, rfl, rfl, rfl, rfl⟩)
    (case tn6 => decide)
    (case a7 => k_is)
    (case l7 => k_is)
    (case c7 => k_is)
    (case k7 => k_is)
    (case a8 => k_is)
    (case l8 => k_is)
    (case c8 => k_is)
    (case k8 => k_is)
    (case tl8 => k_is)
    (case tv8 => exact ⟨rfl, rfl, rfl, rfl, rfl⟩)
    (case tn8 => decide)
    (case a9 => k_is)
    (case l9 => k_is)
    (case c9 => k_is)
    (case k9 => k_is)
    (case a10 => k_is)
    (case l10 => k_is)
    (case c10 => k_is)
    (case k10 => k_is)
    (case a11 => k_is)
    (case l11 => k_is)
    (case c11 => k_is)
    (case k11 => k_is)
    (case a12 => k_is)
    (case l12 => k_is)
    (case c12 => k_is)
    (case k12 => k_is)
    (case a13 => k_is)
    (case l13 => k_is)
    (case c13 => k_is)
    (case k13 => k_is)
    (case a14 => k_is)
    (case l14 => k_is)
    (case c14 => k_is)
    (case k14 => k_is)
    (case a15 => k_is)
    (case l15 => k_is)
    (case c15 => k_is)
    (case k15 => k_is)
    (case a16 => k_is)
    (case l16 => k_is)
    (case c16 => k_is)
    (case k16 => k_is)
    (case a17 => k_is)
    (case l17 => k_is)
    (case c17 => k_is)
    (case k17 => k_is)
    (case a18 => k_is)
    (case l18 => k_is)
    (case c18 => k_is)
    (case k18 => k_is)
    (case a19 => k_is)
    (case l19 => k_is)
    (case c19 => k_is)
    (case k19 => k_is)
    (case a20 => k_is)
    (case l20 => k_is)
    (case c20 => k_is)
    (case k20 => k_is)
    (case a21 => k_is)
    (case l21 => k_is)
    (case c21 => k_is)
    (case k21 => k_is)
    (case a22 => k_is)
    (case l22 => k_is)
    (case c22 => k_is)
    (case k22 => k_is)
    (case a23 => k_is)
    (case l23 => k_is)
    (case c23 => k_is)
    (case k23 => k_is)
    (case a24 => k_is)
    (case l24 => k_is)
    (case c24 => k_is)
    (case k24 => k_is)
    (case z_all => k_is)
    (case z_bool => k_is)
    (case z_int => k_is)
    (case z_isinstance => k_is)
    (case z_len => k_is)
    (case z_list => k_is)
    (case z_range => k_is)
    (case z_str => k_is)
    (case z_tuple => k_is)
    (case z_zip => k_is)
    (case y_FIGURES => k_is)
    (case y_MOST_RULES => k_is)
