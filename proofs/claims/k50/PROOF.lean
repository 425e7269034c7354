import PyProof.Rows.All
import Wide.All
import OpenK.AllK
import Wide.FinOn
import Lean
import PyProof.EqAt
import PyProof.EqKinds
import PyProof.TupleCall
import PySem.Challenge.RW_rootcourt_k50_sums_by_a_number
set_option maxHeartbeats 4000000
-- CHANGE: your row's module here, as the last of these rows
set_option Elab.async false
set_option linter.all false
set_option maxRecDepth 100000
namespace L2
open PySem PySem.Spec PyProof.Rows
abbrev Key := Sum Int Str
def keyIs : Key → Value → Bool
  | .inl k, v => Value.isInt k v
  | .inr x, v => Value.isStrOf x v
def keyH (w : World) : Key → Int
  | .inl k => hashInt k
  | .inr x => hashStr w x
theorem keyIs_shape : ∀ {k : Key} {v : Value}, keyIs k v = true → (∃ i t, k = Sum.inl i ∧ v = Value.int i t) ∨ (∃ x t, k = Sum.inr x ∧ v = Value.str x t)
  | .inl i, v, h => by
    obtain ⟨t, e⟩ := Value.isInt_shape (k := i) (v := v) h
    exact .inl ⟨i, t, rfl, e⟩
  | .inr x, v, h => by
    obtain ⟨t, e⟩ := Value.isStrOf_shape (x := x) (v := v) h
    exact .inr ⟨x, t, rfl, e⟩
theorem key_ll (a b : Int) : decide ((Sum.inl a : Key) = Sum.inl b) = (a == b) := by
  by_cases e : a = b
  · subst e; simp
  · have h : ¬ (Sum.inl a : Key) = Sum.inl b := fun q => e (Sum.inl.inj q)
    rw [decide_eq_false h]
    exact (beq_eq_false_iff_ne.mpr e).symm
theorem key_rr (a b : Str) : decide ((Sum.inr a : Key) = Sum.inr b) = decide (a = b) := by
  by_cases e : a = b
  · subst e; simp
  · have h : ¬ (Sum.inr a : Key) = Sum.inr b := fun q => e (Sum.inr.inj q)
    rw [decide_eq_false h, decide_eq_false e]
theorem key_lr (a : Int) (b : Str) : decide ((Sum.inl a : Key) = Sum.inr b) = false := decide_eq_false (fun q => nomatch q)
theorem key_rl (a : Str) (b : Int) : decide ((Sum.inr a : Key) = Sum.inl b) = false := decide_eq_false (fun q => nomatch q)
def mixKind (prog : Program) (w : World) : PySem.KeyKind prog w Key where
  is := keyIs
  hash := keyH w
  inj := fun v a b ha hb => by
    rcases keyIs_shape ha with ⟨i, t, rfl, rfl⟩ | ⟨x, t, rfl, rfl⟩
    · rcases keyIs_shape hb with ⟨j, u, rfl, e⟩ | ⟨y, u, rfl, e⟩
      · injection e with e1 _; rw [e1]
      · exact nomatch e
    · rcases keyIs_shape hb with ⟨j, u, rfl, e⟩ | ⟨y, u, rfl, e⟩
      · exact nomatch e
      · injection e with e1 _; rw [e1]
  byValue := fun k v h => by
    rcases keyIs_shape h with ⟨i, t, rfl, rfl⟩ | ⟨x, t, rfl, rfl⟩ <;> rfl
  pyHash := fun hv h => by
    rcases keyIs_shape hv with ⟨i, t, rfl, rfl⟩ | ⟨x, t, rfl, rfl⟩
    · exact wpAny_pyHash_int h
    · exact wpAny_pyHash_str h
  eqBool := fun hu hv h => by
    rcases keyIs_shape hu with ⟨i, t, rfl, rfl⟩ | ⟨x, t, rfl, rfl⟩
    · rcases keyIs_shape hv with ⟨j, u, rfl, rfl⟩ | ⟨y, u, rfl, rfl⟩
      · rw [key_ll] at h; exact wpAny_eqBool_int h
      · rw [key_lr] at h; exact SeqAt.EqAt.int_str i t y u _ _ _ _ h
    · rcases keyIs_shape hv with ⟨j, u, rfl, rfl⟩ | ⟨y, u, rfl, rfl⟩
      · rw [key_rl] at h; exact SeqAt.EqAt.str_int x t j u _ _ _ _ h
      · rw [key_rr] at h; exact wpAny_eqBool_str h
  «strs» := fun k x t v h => by
    rcases keyIs_shape h with ⟨i, u, rfl, e⟩ | ⟨y, u, rfl, e⟩
    · exact nomatch e
    · injection e with e1 _
      subst e1
      cases v <;> rfl
end L2
namespace L2
open PySem PySem.Spec PyProof.Rows
inductive V where
  | non | bl (b : Bool) | int (i : Int) | str (x : Str) | byt (b : Array UInt8) | flt (b : UInt64) | ref (a : Addr) | ty (n : String)
  deriving DecidableEq
def RelV : V → Value → Prop
  | .non, u => u = Value.none
  | .bl b, u => u = Value.bool b
  | .int i, u => ∃ t, u = Value.int i t
  | .str x, u => ∃ t, u = Value.str x t
  | .byt b, u => ∃ t, u = Value.bytes b t
  | .flt b, u => ∃ t, u = Value.float b t
  | .ref a, u => u = Value.ref a
  | .ty n, u => u = Value.type n
abbrev Vals : List V → List Value → Prop := Paired RelV
theorem Vals.length {xs : List V} {us : List Value} (r : Vals xs us) : xs.length = us.length := Paired.length r
theorem Vals.get : ∀ {xs : List V} {us : List Value} {i : Nat} {x : V}, Vals xs us → xs[i]? = some x → ∃ u, us[i]? = some u ∧ RelV x u
  | _, _, _, _, .nil, e => by simp at e
  | _, _, 0, _, .cons r _, e => by simp at e; subst e; exact ⟨_, rfl, r⟩
  | _, _, i + 1, x, .cons _ t, e => by
    obtain ⟨u, h1, h2⟩ := Vals.get (i := i) (x := x) t (by simpa using e)
    exact ⟨u, by simpa using h1, h2⟩
theorem Vals.set {x : V} {u : Value} (r : RelV x u) : ∀ {xs : List V} {us : List Value} (i : Nat), Vals xs us → Vals (xs.set i x) (us.set i u)
  | _, _, _, .nil => .nil
  | _, _, 0, .cons _ t => .cons r t
  | _, _, i + 1, .cons q t => .cons q (Vals.set r i t)
theorem Vals.append : ∀ {xs ys : List V} {us ws : List Value}, Vals xs us → Vals ys ws → Vals (xs ++ ys) (us ++ ws)
  | _, _, _, _, .nil, s => s
  | _, _, _, _, .cons r t, s => .cons r (Vals.append t s)
theorem Vals.take : ∀ {xs : List V} {us : List Value} (n : Nat), Vals xs us → Vals (xs.take n) (us.take n)
  | _, _, 0, _ => .nil
  | _, _, _ + 1, .nil => .nil
  | _, _, n + 1, .cons r t => .cons r (Vals.take n t)
theorem Vals.drop : ∀ {xs : List V} {us : List Value} (n : Nat), Vals xs us → Vals (xs.drop n) (us.drop n)
  | _, _, 0, r => r
  | _, _, _ + 1, .nil => .nil
  | _, _, n + 1, .cons _ t => Vals.drop n t
def RelO : Option V → Option Value → Prop
  | some v, some u => RelV v u
  | none, none => True
  | _, _ => False
def KV {κ : Type} : List (κ × V) → List (κ × Value) → Prop := Paired fun (p : κ × V) (q : κ × Value) => p.1 = q.1 ∧ RelV p.2 q.2
def kV : Key → V
  | .inl i => .int i
  | .inr x => .str x
inductive HO where
  | lst (xs : List V)
  | tup (xs : List V)
  | dK (kvs : List (Key × V)) | dT (kvs : List (List Key × V))
  | set (S : Int → Bool) (n : Nat)
  | ins (C dx : Addr) (fs : List (Str × V))
  | own (x : Addr)
  | xd (fs : List (Str × V))
  | met (f x : Addr)
  | rng (lo hi : Int)
  | frz (o : Obj) (u : HO)
  | tbl (ps : Array Value)
  | ext (φ : Heap → Prop)
abbrev Hp := Addr → Option HO
def upd (H : Hp) (a : Addr) (o : HO) : Hp := fun b => if b = a then some o else H b
theorem upd_same {H : Hp} {a : Addr} {o : HO} : upd H a o a = some o := by unfold upd; rw [if_pos rfl]
theorem upd_ne {H : Hp} {a b : Addr} {o : HO} (h : b ≠ a) : upd H a o b = H b := by unfold upd; rw [if_neg h]
theorem ne_of {H : Hp} {a b : Addr} {o u : HO} (h : H a = some o) (h' : H b = some u) (d : o ≠ u) : a ≠ b := by
  intro e; subst e; rw [h] at h'; exact d (Option.some.inj h')
theorem ne_of_none {H : Hp} {a b : Addr} {o : HO} (h : H a = some o) (h' : H b = none) : a ≠ b := by
  intro e; subst e; rw [h] at h'; cases h'
section
variable (P : Program) (w : World)
def ObjOk (H : Hp) (h : Heap) (a : Addr) : HO → Prop
  | .lst xs => xs.length ≤ sizeLine ∧ ∃ (its : List Value) (n : Nat), Vals xs its ∧ h.get? a = some { cls := .type "list", data := .seq its.toArray n }
  | .tup xs => xs.length ≤ sizeLine ∧ ∃ its : List Value, Vals xs its ∧ IsTup h a its.toArray
  | .dK kvs => kvs.length ≤ sizeLine ∧ (a == sysModules) = false ∧ ∃ vs, KV kvs vs ∧ h.DictOf (mixKind P w) a vs
  | .dT kvs => kvs.length ≤ sizeLine ∧ (a == sysModules) = false ∧ ∃ xs : List (List Key × Addr × Value),
      Paired (fun (p : List Key × V) (q : List Key × Addr × Value) => p.1 = q.1 ∧ H q.2.1 = some (.tup (p.1.map kV)) ∧ RelV p.2 q.2.2) kvs xs ∧
      ∃ o es ep, h.get? a = some o ∧ o.ExactDict ∧ o.data = .dict es ep ∧ es.toList = xs.map (entryOfKey (tupleKind (mixKind P w))) ∧ (xs.map (·.1)).Nodup
  | .set S n => h.SetOf (intKind P w) a S n
  | .ins C dx fs => H dx = some (.own a) ∧ fs.length ≤ 1000 ∧ dx ≠ a ∧ h.get? a = some (PySem.W.instObj C dx) ∧
      ∃ mA, h.Ns1 dx mA ∧ (∀ f, RelO (fs.lookup f) (mA f)) ∧ PySem.Within mA (fs.map (·.1))
  | .own _ => ∃ o, h.get? a = some o
  | .xd fs => ∃ mA, h.Ns1 a mA ∧ ∀ f, RelO (fs.lookup f) (mA f)
  | .rng lo hi => ∃ t u v, h.get? a = some { cls := .type "range", data := .fields #[.int lo t, .int hi u, .int 1 v] }
  | .frz o u => h.get? a = some o ∧ ObjOk H h a u
  | .tbl ps => h.get? a = some { cls := .none, data := .fields ps }
  | .met f x => h.get? a = some (PySem.W.methodObj (.ref f) (.ref x))
  | .ext φ => φ h ∧ (∃ o, h.get? a = some o) ∧ ∀ h1 h2 : Heap, φ h1 → (∀ o, h1.get? a = some o → h2.get? a = some o) → φ h2
def HOk (H : Hp) (h : Heap) : Prop := ∀ a o, H a = some o → ObjOk P w H h a o
end
section
variable {P : Program} {w : World} {H H' : Hp} {h h' : Heap} {a : Addr} {o : HO}
theorem ObjOk.lt (x : ObjOk P w H h a o) : a < h.objs.size := by
  cases o with
  | lst xs => obtain ⟨_, _, _, _, e⟩ := x; exact Heap.lt_size e
  | tup xs => obtain ⟨_, _, _, p⟩ := x; exact p.lt
  | dK kvs => obtain ⟨_, _, _, _, o, _, _, e, _⟩ := x; exact Heap.lt_size e
  | dT kvs => obtain ⟨_, _, _, _, o, _, _, e, _⟩ := x; exact Heap.lt_size e
  | set S n => obtain ⟨o, _, _, _, e, _⟩ := x; exact Heap.lt_size e
  | ins C dx fs => obtain ⟨_, _, _, e, _⟩ := x; exact Heap.lt_size e
  | own y => obtain ⟨_, e⟩ := x; exact Heap.lt_size e
  | xd fs => obtain ⟨_, ⟨_, _, _, e, _⟩, _⟩ := x; exact Heap.lt_size e
  | rng lo hi => obtain ⟨_, _, _, e⟩ := x; exact Heap.lt_size e
  | frz ob u => obtain ⟨e, _⟩ := x; exact Heap.lt_size e
  | tbl ps => exact Heap.lt_size (show h.get? a = some _ from x)
  | met f y => exact Heap.lt_size (show h.get? a = some _ from x)
  | ext φ => obtain ⟨_, ⟨_, e⟩, _⟩ := x; exact Heap.lt_size e
theorem Paired.mapP {α β : Type} {F G : α → β → Prop} : ∀ {l₁ : List α} {l₂ : List β}, Paired F l₁ l₂ → (∀ a b, F a b → G a b) → Paired G l₁ l₂
  | _, _, .nil, _ => .nil
  | _, _, .cons r t, f => .cons (f _ _ r) (Paired.mapP t f)
theorem ObjOk.stay (x : ObjOk P w H h a o) (k : ∀ b u, (b = a ∨ H b = some (.own a)) → h.get? b = some u → h'.get? b = some u)
    (ho : ∀ b, H b = some (.own a) → H' b = some (.own a)) (ht : ∀ b xs, H b = some (.tup xs) → H' b = some (.tup xs)) : ObjOk P w H' h' a o := by
  induction o with
  | lst xs => obtain ⟨z, its, n, r, e⟩ := x; exact ⟨z, its, n, r, k _ _ (.inl rfl) e⟩
  | tup xs => obtain ⟨z, its, r, ob, e, c⟩ := x; exact ⟨z, its, r, ob, k _ _ (.inl rfl) e, c⟩
  | dK kvs => obtain ⟨z, y, vs, r, ob, es, ep, e, c⟩ := x; exact ⟨z, y, vs, r, ob, es, ep, k _ _ (.inl rfl) e, c⟩
  | dT kvs =>
    obtain ⟨z, y, xs, r, ob, es, ep, e, c⟩ := x
    exact ⟨z, y, xs, Paired.mapP r fun p q z => ⟨z.1, ht _ _ z.2.1, z.2.2⟩, ob, es, ep, k _ _ (.inl rfl) e, c⟩
  | set S n => obtain ⟨ob, es, ep, t, e, c⟩ := x; exact ⟨ob, es, ep, t, k _ _ (.inl rfl) e, c⟩
  | ins C dx fs =>
    obtain ⟨d, z, ne, e, mA, ⟨od, es, ep, e2, c⟩, r⟩ := x
    exact ⟨ho _ d, z, ne, k _ _ (.inl rfl) e, mA, ⟨od, es, ep, k _ _ (.inr d) e2, c⟩, r⟩
  | own y => obtain ⟨ob, e⟩ := x; exact ⟨ob, k _ _ (.inl rfl) e⟩
  | xd fs => obtain ⟨mA, ⟨od, es, ep, e, c⟩, r⟩ := x; exact ⟨mA, ⟨od, es, ep, k _ _ (.inl rfl) e, c⟩, r⟩
  | rng lo hi => obtain ⟨t, u, v, e⟩ := x; exact ⟨t, u, v, k _ _ (.inl rfl) e⟩
  | frz ob u ih => obtain ⟨e, q⟩ := x; exact ⟨k _ _ (.inl rfl) e, ih q⟩
  | tbl ps =>
    have e : h.get? a = some { cls := .none, data := .fields ps } := x
    show h'.get? a = some { cls := .none, data := .fields ps }
    exact k a _ (.inl rfl) e
  | met f y =>
    have e : h.get? a = some (PySem.W.methodObj (.ref f) (.ref y)) := x
    show h'.get? a = some (PySem.W.methodObj (.ref f) (.ref y))
    exact k a _ (.inl rfl) e
  | ext φ => obtain ⟨p, ⟨o, e⟩, st⟩ := x; exact ⟨st _ _ p fun o q => k _ _ (.inl rfl) q, ⟨o, k _ _ (.inl rfl) e⟩, st⟩
theorem HOk.lt (x : HOk P w H h) (e : H a = some o) : a < h.objs.size := (x a o e).lt
theorem HOk.fresh (x : HOk P w H h) (e : h.objs.size ≤ a) : H a = none := by
  cases q : H a with
  | none => rfl
  | some u => exact absurd (Nat.lt_of_lt_of_le (x.lt q) e) (Nat.lt_irrefl _)
theorem HOk.kept (x : HOk P w H h) (k : ∀ b u, h.get? b = some u → h'.get? b = some u) : HOk P w H h' := fun a o e =>
  (x a o e).stay (fun b u _ q => k b u q) (fun _ q => q) fun _ _ q => q
theorem HOk.laid (x : HOk P w H h) (k : ∀ b u, h.get? b = some u → h'.get? b = some u) (hp : h.objs.size ≤ a) (new : ObjOk P w (upd H a o) h' a o) : HOk P w (upd H a o) h' := fun b u e => by
  have hn := x.fresh hp
  by_cases hb : b = a
  · subst hb; rw [upd_same] at e; cases e; exact new
  · rw [upd_ne hb] at e
    exact (x b u e).stay (fun c v _ q => k c v q) (fun c q => by rw [upd_ne (ne_of_none q hn)]; exact q) fun c xs q => by rw [upd_ne (ne_of_none q hn)]; exact q
end
def Rd (H : Hp) (a : Addr) (u : HO) : Prop := H a = some u ∨ ∃ o, H a = some (.frz o u)
theorem Rd.of {H : Hp} {a : Addr} {u : HO} (h : H a = some u) : Rd H a u := .inl h
theorem Rd.ok {P : Program} {w : World} {H : Hp} {h : Heap} {a : Addr} {u : HO} (r : Rd H a u) (x : HOk P w H h) : ObjOk P w H h a u := by
  rcases r with r | ⟨o, r⟩
  · exact x a u r
  · obtain ⟨_, q⟩ := x a _ r
    exact q
def Mut : Option HO → Prop
  | some (.lst _) => True
  | some (.dK _) => True
  | some (.dT _) => True
  | some (.set _ _) => True
  | some (.ins _ _ _) => True
  | some (.ext _) => True
  | _ => False
section
variable {P : Program} {w : World} {H : Hp} {h h' : Heap} {x e : Addr} {o' : HO}
theorem HOk.write (ok : HOk P w H h) (mu : Mut (H x)) (he : e = x ∨ H e = some (.own x)) (k : ∀ b u, b ≠ e → h.get? b = some u → h'.get? b = some u) (heo : ∃ u, h'.get? e = some u)
    (new : ObjOk P w (upd H x o') h' x o') : HOk P w (upd H x o') h' := fun b u q => by
  have nown : ∀ c y, H c = some (.own y) → c ≠ x := fun c y r z => by subst z; rw [r] at mu; exact mu
  have ntup : ∀ c xs, H c = some (.tup xs) → c ≠ x := fun c xs r z => by subst z; rw [r] at mu; exact mu
  by_cases hb : b = x
  · subst hb; rw [upd_same] at q; cases q; exact new
  · rw [upd_ne hb] at q
    by_cases hbe : b = e
    · have q' : H b = some (.own x) := by
        rcases he with z | z
        · exact absurd (hbe.trans z) hb
        · rw [hbe]; exact z
      rw [q] at q'; cases q'
      obtain ⟨v, hv⟩ := heo
      exact ⟨v, by rw [hbe]; exact hv⟩
    · refine (ok b u q).stay (fun c v hc r => k c v ?_ r) (fun c r => by rw [upd_ne (nown c b r)]; exact r) fun c xs r => by rw [upd_ne (ntup c xs r)]; exact r
      rcases hc with rfl | hc
      · exact hbe
      · rintro rfl
        rcases he with z | z
        · exact nown c b hc z
        · rw [hc] at z; cases z; exact hb rfl
end
structure Un (fs ex : List Addr) (H H' : Hp) (h h' : Heap) : Prop where
  keep : ∀ b o, h.get? b = some o → H b = none → b ∉ fs → b ∉ ex → h'.get? b = some o
  slot : ∀ b o, h.get? b = some o → H b = none → b ∈ fs → b ∉ ex → ∃ sl, h'.get? b = some { o with slots := sl }
  free : ∀ b o, h.get? b = some o → H b = none → b ∉ ex → H' b = none
  there : ∀ b o, h.get? b = some o → b ∉ ex → ∃ o', h'.get? b = some o'
  tups : ∀ b xs, H b = some (.tup xs) → H' b = some (.tup xs)
  frzs : ∀ b o u, H b = some (.frz o u) → H' b = some (.frz o u)
  tbls : ∀ b ps, H b = some (.tbl ps) → ∃ more, H' b = some (.tbl (ps ++ more))
section
variable {fs fs' ex ex' : List Addr} {H H1 H2 : Hp} {h h1 h2 h' : Heap} {a x e : Addr} {o : HO}
theorem Un.any (u : Un fs ex H H1 h h1) {b : Addr} {ob : Obj} (q : h.get? b = some ob) (n : H b = none) (hx : b ∉ ex) : ∃ sl, h1.get? b = some { ob with slots := sl } := by
  by_cases hb : b ∈ fs
  · exact u.slot b ob q n hb hx
  · exact ⟨ob.slots, u.keep b ob q n hb hx⟩
theorem Un.trans (a : Un fs ex H H1 h h1) (b : Un fs ex H1 H2 h1 h2) : Un fs ex H H2 h h2 where
  keep := fun c ob q n hc hx => b.keep c ob (a.keep c ob q n hc hx) (a.free c ob q n hx) hc hx
  slot := fun c ob q n hc hx => by
    obtain ⟨sl, e1⟩ := a.slot c ob q n hc hx
    obtain ⟨sl', e2⟩ := b.slot c _ e1 (a.free c ob q n hx) hc hx
    exact ⟨sl', e2⟩
  free := fun c ob q n hx => by
    obtain ⟨o', e1⟩ := a.there c ob q hx
    exact b.free c o' e1 (a.free c ob q n hx) hx
  there := fun c ob q hx => by
    obtain ⟨o', e1⟩ := a.there c ob q hx
    exact b.there c o' e1 hx
  tups := fun c xs q => b.tups c xs (a.tups c xs q)
  frzs := fun c ob xs q => b.frzs c ob xs (a.frzs c ob xs q)
  tbls := fun c ps q => by
    obtain ⟨m1, e1⟩ := a.tbls c ps q
    obtain ⟨m2, e2⟩ := b.tbls c _ e1
    exact ⟨m1 ++ m2, by rw [e2, Array.append_assoc]⟩
theorem Un.kept (k : ∀ b u, h.get? b = some u → h'.get? b = some u) : Un fs ex H H h h' :=
  ⟨fun b ob q _ _ _ => k b ob q, fun b ob q _ _ _ => ⟨ob.slots, k b ob q⟩, fun _ _ _ n _ => n, fun b ob q _ => ⟨ob, k b ob q⟩, fun _ _ q => q, fun _ _ _ q => q, fun _ ps q => ⟨#[], by rw [q]; simp⟩⟩
theorem Un.refl : Un fs ex H H h h := Un.kept fun _ _ q => q
theorem Un.laid (k : ∀ b u, h.get? b = some u → h'.get? b = some u) (hp : h.objs.size ≤ a) (hn : H a = none) : Un fs ex H (upd H a o) h h' where
  keep := fun b u q _ _ _ => k b u q
  slot := fun b u q _ _ _ => ⟨u.slots, k b u q⟩
  free := fun b u q n _ => by rw [upd_ne (Nat.ne_of_lt (Nat.lt_of_lt_of_le (Heap.lt_size q) hp))]; exact n
  there := fun b u q _ => ⟨u, k b u q⟩
  tups := fun b xs q => by rw [upd_ne (ne_of_none q hn)]; exact q
  frzs := fun b u xs q => by rw [upd_ne (ne_of_none q hn)]; exact q
  tbls := fun b ps q => ⟨#[], by rw [upd_ne (ne_of_none q hn), q]; simp⟩
theorem Un.write (mu : Mut (H x)) (he : e = x ∨ H e = some (.own x)) (k : ∀ b u, b ≠ e → h.get? b = some u → h'.get? b = some u) (heo : ∃ u, h'.get? e = some u) : Un fs ex H (upd H x o) h h' := by
  have hx : ∀ b, H b = none → b ≠ x := fun b n z => by subst z; rw [n] at mu; exact mu
  have hb : ∀ b, H b = none → b ≠ e := fun b n z => by
    subst z
    rcases he with r | r
    · exact hx b n r
    · rw [n] at r; cases r
  have hm : ∀ b u, H b = some u → ¬ Mut (some u) → b ≠ x := fun b u q nm z => by subst z; rw [q] at mu; exact nm mu
  refine ⟨fun b u q n _ _ => k b u (hb b n) q, fun b u q n _ _ => ⟨u.slots, k b u (hb b n) q⟩, fun b u q n _ => by rw [upd_ne (hx b n)]; exact n, fun b u q _ => ?_,
    fun b xs q => by rw [upd_ne (hm b _ q fun z => z)]; exact q, fun b u xs q => by rw [upd_ne (hm b _ q fun z => z)]; exact q, fun b ps q => ⟨#[], by rw [upd_ne (hm b _ q fun z => z), q]; simp⟩⟩
  by_cases hbe : b = e
  · subst hbe; exact heo
  · exact ⟨u, k b u hbe q⟩
theorem Un.mono (u : Un fs ex H H1 h h1) (hs : ∀ b ∈ fs, b ∈ fs') (hx : ∀ b ∈ ex, b ∈ ex') : Un fs' ex' H H1 h h1 :=
  ⟨fun b ob q n hb he => u.keep b ob q n (fun z => hb (hs b z)) fun z => he (hx b z), fun _ _ q n _ he => u.any q n fun z => he (hx _ z), fun b ob q n he => u.free b ob q n fun z => he (hx b z), fun b ob q he => u.there b ob q fun z => he (hx b z), u.tups, u.frzs, u.tbls⟩
end
def trk (h : Heap) (H : Hp) : List Addr := (List.range h.objs.size).filter fun a => (H a).isSome
def hidT (h : Heap) (H : Hp) : Heap := PySem.W.hideAll h (trk h H)
theorem hidT_size (h : Heap) (H : Hp) : (hidT h H).objs.size = h.objs.size := PySem.W.hideAll_size _ _
theorem hidT_get {h : Heap} {H : Hp} {b : Addr} {o : Obj} (e : h.get? b = some o) (n : H b = none) : (hidT h H).get? b = some o :=
  PySem.W.hideAll_get _ e fun hm => by
    have q : (H b).isSome = true := (List.mem_filter.mp hm).2
    rw [n] at q; simp at q
theorem of_hidT {h : Heap} {H : Hp} {b : Addr} {o : Obj} (e : (hidT h H).get? b = some o) : h.get? b = some o ∧ H b = none := by
  have e' : h.get? b = some o := PySem.W.of_hideAll (trk h H) e
  refine ⟨e', ?_⟩
  cases q : H b with
  | none => rfl
  | some x =>
    have hm : b ∈ trk h H := List.mem_filter.mpr ⟨List.mem_range.mpr (Heap.lt_size e'), by simp [q]⟩
    have z : (hidT h H).get? b = none := PySem.W.hideAll_none (trk h H) hm
    rw [z] at e; cases e
def allNews (g h : Heap) (L : Addr) : List (Addr × Obj) := (List.range h.objs.size).filterMap fun a => if a = L ∨ (g.get? a).isSome = true then none else (h.get? a).map fun o => (a, o)
def rest (g h : Heap) (L d : Addr) : List (Addr × Obj) := (allNews g h L).filter fun p => decide (p.1 ≠ d)
end L2
namespace L2
open PySem PySem.Spec PyProof.Rows
structure Mod (K : PySem.W.Frag) (mg : Str → Option Value) (base : Heap) : Prop where
  kin : K.In base
  glob : base.Ns mainGlobals mg
  blt : ∃ mb, base.Ns builtinsNs mb ∧ ∀ x : Str, x ≠ "__name__" → mb x = bootBuiltins x
  nolimit : base.NoLimit
/-- the context: a def's body (or a comprehension's block) running. base: fixed through the whole law; s₀, H₀: the entry; outer: the frames whose slots others may change (a def's callers); stack: all frames that run;
   ex: iterators that were made ahead of the entry and are walked here (a comprehension's); fn: the names whose cells were made at the entry (a def: all; a comprehension's block: its own); calm: not within an except suite; pn: pins that every state bears; xe: what is wanted of an exception that leaves the code -/
structure Cx where
  prog : Program
  w : World
  K : PySem.W.Frag
  mg : Str → Option Value
  base : Heap
  A : Around
  N : List Str
  s₀ : Shared
  H₀ : Hp
  env : Env
  outer : List Env
  stack : List Env
  ex : List Addr
  fn : Str → Bool
  calm : Bool
  pn : List (Addr × Obj)
  xe : Value → Shared → Prop
def frs (l : List Env) : List Addr := l.filterMap (·.frame)
abbrev Cx.fs (X : Cx) : List Addr := frs X.outer
def Vis (sc : Scope) (x : Str) : Prop := sc.names.lookup x = some .local ∨ sc.names.lookup x = some .cell ∨ sc.names.lookup x = some .free
def Loc (sc : Scope) (x : Str) : Prop := sc.names.lookup x = some .local ∨ sc.names.lookup x = some .cell
def Look (env : Env) (h : Heap) (m : Str → Option Value) (x : Str) (u : Value) : Prop :=
  (env.kindOf x = some .local ∧ m x = some u) ∨ ((env.kindOf x = some .cell ∨ env.kindOf x = some .free) ∧ ∃ c, env.cells.lookup x = some c ∧ h.IsCell c (some u))
structure Cx.Ok (X : Cx) : Prop where
  mod : Mod X.K X.mg X.base
  kind : X.env.scope.kind = .function
  glob : X.env.globals = mainGlobals
  blt : X.env.builtins = builtinsNs
  above : X.s₀.heap.objs.size ≤ X.env.locals
  inj : ∀ x y c, X.env.cells.lookup x = some c → X.env.cells.lookup y = some c → x = y
  has : ∀ x, (X.env.kindOf x = some .cell ∨ X.env.kindOf x = some .free) → ∃ c, X.env.cells.lookup x = some c
  cab : ∀ x c, X.fn x = true → X.env.cells.lookup x = some c → X.s₀.heap.objs.size ≤ c
  hd : X.calm = true → X.A.handled = none
  frames : X.A.frames = some X.stack
  stk : X.stack = X.outer ∨ (X.stack = X.env :: X.outer ∧ X.env.frame = some X.env.locals)
  exf : ∀ b ∈ X.ex, b ≠ X.env.locals ∧ ∀ x c, X.env.cells.lookup x = some c → c ≠ b
  bs : ∀ b o, X.base.get? b = some o → X.s₀.heap.get? b = some o ∧ X.H₀ b = none
  bsz : X.base.objs.size ≤ X.s₀.heap.objs.size
  noex : ∀ b o, X.base.get? b = some o → b ∉ X.ex
  exfs : ∀ b ∈ X.ex, b ∉ X.fs
  funs : X.s₀.heap.FunFrames X.base X.outer
  frf : ∀ b ∈ X.fs, X.H₀ b = none
structure Inv (X : Cx) (pins : List (Addr × Obj)) (σ : List (Option V)) (H : Hp) (s : Shared) : Prop where
  ok : X.Ok
  os : s.os = X.s₀.os
  bare : AllBare s.gens
  base : Un X.fs X.ex X.H₀ H X.s₀.heap s.heap
  loc : ∃ m, s.heap.Ns X.env.locals m ∧ ∀ (i : Nat) (x : Str) (v : V), X.N[i]? = some x → σ[i]? = some (some v) → Vis X.env.scope x → ∃ u, RelV v u ∧ Look X.env s.heap m x u
  cell : ∀ x c, X.env.cells.lookup x = some c → ∃ v, s.heap.IsCell c v
  free : H X.env.locals = none
  freeC : ∀ x c, X.env.cells.lookup x = some c → H c = none
  pin : ∀ p ∈ X.pn ++ pins, s.heap.get? p.1 = some p.2 ∧ H p.1 = none ∧ p.1 ≠ X.env.locals ∧ p.1 ∉ X.fs ∧ ∀ v, p.2.data ≠ .cell v
  hok : HOk X.prog X.w H s.heap
  len : σ.length = X.N.length
section
variable {X : Cx} {pins : List (Addr × Obj)} {σ : List (Option V)} {H H' : Hp} {s : Shared} {h' : Heap}
theorem Cx.Ok.nofr (ok : X.Ok) {b : Addr} {o : Obj} (e : X.base.get? b = some o) : b ∉ X.fs := fun hb => by
  have := (ok.funs.mem hb).1
  rw [e] at this; cases this
theorem Inv.bs (I : Inv X pins σ H s) : ∀ b o, X.base.get? b = some o → s.heap.get? b = some o ∧ H b = none := fun b o e =>
  ⟨I.base.keep b o (I.ok.bs b o e).1 (I.ok.bs b o e).2 (I.ok.nofr e) (I.ok.noex b o e), I.base.free b o (I.ok.bs b o e).1 (I.ok.bs b o e).2 (I.ok.noex b o e)⟩
theorem Inv.bk (I : Inv X pins σ H s) : ∀ b o, X.base.get? b = some o → s.heap.get? b = some o := fun b o e => (I.bs b o e).1
theorem Inv.mod (I : Inv X pins σ H s) : Mod X.K X.mg X.base := I.ok.mod
theorem Inv.kIn (I : Inv X pins σ H s) : X.K.In s.heap := I.ok.mod.kin.keeps I.bk
theorem Inv.nolimit (I : Inv X pins σ H s) : s.heap.NoLimit := I.ok.mod.nolimit.keeps I.bk
theorem Inv.fr (I : Inv X pins σ H s) : ∃ m, Fr X.base X.env.locals s.heap m :=
  let ⟨m, hn, _⟩ := I.loc
  ⟨m, hn, I.bk, Nat.le_trans I.ok.bsz I.ok.above⟩
theorem Inv.lt (I : Inv X pins σ H s) : X.env.locals < s.heap.objs.size := let ⟨_, hn, _⟩ := I.loc; hn.lt
theorem Inv.sz (I : Inv X pins σ H s) : X.s₀.heap.objs.size ≤ s.heap.objs.size := Nat.le_trans I.ok.above (Nat.le_of_lt I.lt)
theorem Inv.nofs (I : Inv X pins σ H s) {a : Addr} (h : s.heap.objs.size ≤ a) : a ∉ X.fs := fun hb => by
  obtain ⟨_, o, ho, _⟩ := I.ok.funs.mem hb
  exact absurd (Nat.lt_of_lt_of_le (Heap.lt_size ho) (Nat.le_trans I.sz h)) (Nat.lt_irrefl _)
theorem Inv.cne (I : Inv X pins σ H s) : ∀ x c, X.env.cells.lookup x = some c → c ≠ X.env.locals := fun x c e z => by
  obtain ⟨v, o, ho, hd⟩ := I.cell x c e
  obtain ⟨m, ⟨o', es, ep, ho', hd', _⟩, _⟩ := I.loc
  rw [z, ho'] at ho; cases ho; rw [hd'] at hd; cases hd
theorem Inv.funs (I : Inv X pins σ H s) : s.heap.FunFrames X.base X.outer := by
  have all : ∀ (l : List Env), (∀ b ∈ frs l, b ∈ X.fs) → X.s₀.heap.FunFrames X.base l → s.heap.FunFrames X.base l := by
    intro l
    induction l with
    | nil => intro _ _; trivial
    | cons env r ih =>
      intro hs hl
      obtain ⟨hk, ⟨L, o, hf, hn, ho, hd⟩, hr⟩ := hl
      have hL : L ∈ X.fs := hs L (by unfold frs; rw [List.filterMap_cons, hf]; exact List.mem_cons_self)
      obtain ⟨sl, e⟩ := I.base.slot L o ho (I.ok.frf L hL) hL fun z => I.ok.exfs L z hL
      exact ⟨hk, ⟨L, _, hf, hn, e, hd⟩, ih (fun b hb => hs b (by unfold frs; rw [List.filterMap_cons, hf]; exact List.mem_cons_of_mem _ hb)) hr⟩
  exact all X.outer (fun _ hb => hb) I.ok.funs
theorem Inv.stack (I : Inv X pins σ H s) : s.heap.FunFrames X.base X.stack := by
  rcases I.ok.stk with e | ⟨e, hf⟩
  · rw [e]; exact I.funs
  · rw [e]
    obtain ⟨m, hn, _⟩ := I.loc
    refine .cons (by rw [I.ok.kind]; decide) hf hn ?_ I.funs
    exact Heap.get?_none_of_le (Nat.le_trans I.ok.bsz I.ok.above)
theorem Inv.stkSub (I : Inv X pins σ H s) : ∀ b ∈ frs X.stack, b ∈ X.env.locals :: X.fs := fun b hb => by
  rcases I.ok.stk with e | ⟨e, hf⟩
  · rw [e] at hb; exact List.mem_cons_of_mem _ hb
  · rw [e] at hb
    unfold frs at hb
    rw [List.filterMap_cons, hf] at hb
    exact hb
theorem Inv.stkFree (I : Inv X pins σ H s) : ∀ b ∈ frs X.stack, H b = none := fun b hb => by
  rcases List.mem_cons.mp (I.stkSub b hb) with e | hb
  · rw [e]; exact I.free
  · obtain ⟨_, o, ho, _⟩ := I.ok.funs.mem hb
    exact I.base.free b o ho (I.ok.frf b hb) fun z => I.ok.exfs b z hb
theorem Inv.step {g' : Array GenState} {t' : Nat} {d' : Drawn} {ch : List Addr} (I : Inv X pins σ H s)
    (hch : ∀ b ∈ ch, (b ∈ X.ex ∨ X.s₀.heap.objs.size ≤ b) ∧ b ≠ X.env.locals ∧ (∀ x c, X.env.cells.lookup x = some c → c ≠ b) ∧ ∀ p ∈ X.pn ++ pins, p.1 ≠ b)
    (keep : ∀ b o, b ≠ X.env.locals → b ∉ X.fs → b ∉ ch → s.heap.get? b = some o → H b = none → h'.get? b = some o)
    (slot : ∀ b o, b ≠ X.env.locals → b ∈ X.fs → b ∉ ch → s.heap.get? b = some o → H b = none → ∃ sl, h'.get? b = some { o with slots := sl }) (free : ∀ b o, b ∉ ch → s.heap.get? b = some o → H b = none → H' b = none)
    (there : ∀ b o, b ∉ ch → s.heap.get? b = some o → ∃ o', h'.get? b = some o')
    (tups : ∀ b xs, H b = some (.tup xs) → H' b = some (.tup xs)) (frzs : ∀ b o u, H b = some (.frz o u) → H' b = some (.frz o u)) (tbls : ∀ b ps, H b = some (.tbl ps) → ∃ more, H' b = some (.tbl (ps ++ more)))
    (ns : ∀ m, s.heap.Ns X.env.locals m → h'.Ns X.env.locals m) (hok : HOk X.prog X.w H' h') (hg : AllBare g') :
    Inv X pins σ H' { s with heap := h', gens := g', drawn := d', toks := t' } := by
  have neL : ∀ b o, X.s₀.heap.get? b = some o → b ≠ X.env.locals := fun b o e => Nat.ne_of_lt (Nat.lt_of_lt_of_le (Heap.lt_size e) I.ok.above)
  have neC : ∀ b o, X.s₀.heap.get? b = some o → b ∉ X.ex → b ∉ ch := fun b o e hx hb => by
    rcases (hch b hb).1 with z | z
    · exact hx z
    · exact absurd (Nat.lt_of_lt_of_le (Heap.lt_size e) z) (Nat.lt_irrefl _)
  have cellK : ∀ x c, X.env.cells.lookup x = some c → ∀ v, s.heap.IsCell c v → h'.IsCell c v := fun x c e v ⟨o, ho, hd⟩ => by
    have nch : c ∉ ch := fun z => (hch c z).2.2.1 x c e rfl
    by_cases hc : c ∈ X.fs
    · obtain ⟨sl, q⟩ := slot c o (I.cne x c e) hc nch ho (I.freeC x c e)
      exact ⟨_, q, hd⟩
    · exact ⟨o, keep c o (I.cne x c e) hc nch ho (I.freeC x c e), hd⟩
  refine ⟨I.ok, I.os, hg, ⟨fun b o e n hb hx => ?_, fun b o e n hb hx => ?_, fun b o e n hx => ?_, fun b o e hx => ?_, fun b xs e => tups b xs (I.base.tups b xs e), fun b o xs e => frzs b o xs (I.base.frzs b o xs e), fun b ps e => ?_⟩, ?_, fun x c e => ?_, ?_, fun x c e => ?_, fun p hp => ?_, hok, I.len⟩
  · exact keep b o (neL b o e) hb (neC b o e hx) (I.base.keep b o e n hb hx) (I.base.free b o e n hx)
  · obtain ⟨sl, e1⟩ := I.base.slot b o e n hb hx
    obtain ⟨sl', e2⟩ := slot b _ (neL b o e) hb (neC b o e hx) e1 (I.base.free b o e n hx)
    exact ⟨sl', e2⟩
  · obtain ⟨o', e1⟩ := I.base.there b o e hx
    exact free b o' (neC b o e hx) e1 (I.base.free b o e n hx)
  · obtain ⟨o', e1⟩ := I.base.there b o e hx
    exact there b o' (neC b o e hx) e1
  · obtain ⟨m1, e1⟩ := I.base.tbls b ps e
    obtain ⟨m2, e2⟩ := tbls b _ e1
    exact ⟨m1 ++ m2, by rw [e2, Array.append_assoc]⟩
  · obtain ⟨m, hn, hl⟩ := I.loc
    refine ⟨m, ns m hn, fun i x v e1 e2 e3 => ?_⟩
    obtain ⟨u, r, l⟩ := hl i x v e1 e2 e3
    refine ⟨u, r, ?_⟩
    rcases l with l | ⟨k, c, e, z⟩
    · exact .inl l
    · exact .inr ⟨k, c, e, cellK x c e _ z⟩
  · obtain ⟨v, z⟩ := I.cell x c e
    exact ⟨v, cellK x c e v z⟩
  · obtain ⟨m, ⟨o, _, _, ho, _⟩, _⟩ := I.loc
    exact free _ o (fun z => (hch _ z).2.1 rfl) ho I.free
  · obtain ⟨v, o, ho, hd⟩ := I.cell x c e
    exact free c o (fun z => (hch c z).2.2.1 x c e rfl) ho (I.freeC x c e)
  · obtain ⟨e, n, ne, nf, d⟩ := I.pin p hp
    have nch : p.1 ∉ ch := fun z => (hch p.1 z).2.2.2 p hp rfl
    exact ⟨keep p.1 p.2 ne nf nch e n, free p.1 p.2 nch e n, ne, nf, d⟩
theorem Inv.un {t' : Nat} (I : Inv X pins σ H s) (u : Un X.fs [] H H' s.heap h') (hok : HOk X.prog X.w H' h') : Inv X pins σ H' { s with heap := h', toks := t' } := by
  obtain ⟨m, ⟨o, es, ep, ho, r⟩, _⟩ := id I.loc
  obtain ⟨sl, hL⟩ := u.any ho I.free (by simp)
  exact I.step (g' := s.gens) (d' := s.drawn) (ch := []) (fun _ z => nomatch z) (fun b o _ hb _ e n => u.keep b o e n hb (by simp)) (fun b o _ hb _ e n => u.slot b o e n hb (by simp)) (fun b o _ e n => u.free b o e n (by simp)) (fun b o _ e => u.there b o e (by simp)) u.tups u.frzs u.tbls (fun m' hm => by
    obtain ⟨o', es', ep', ho', r'⟩ := hm
    rw [ho] at ho'; cases ho'
    exact ⟨_, es', ep', hL, r'⟩) hok I.bare
theorem Inv.call {g' : Array GenState} {t' : Nat} {d' : Drawn} {ch : List Addr} (I : Inv X pins σ H s) (u : Un (frs X.stack) ch H H' s.heap h') (hok : HOk X.prog X.w H' h') (hg : AllBare g')
    (hch : ∀ b ∈ ch, (b ∈ X.ex ∨ X.s₀.heap.objs.size ≤ b) ∧ b ≠ X.env.locals ∧ (∀ x c, X.env.cells.lookup x = some c → c ≠ b) ∧ ∀ p ∈ X.pn ++ pins, p.1 ≠ b) :
    Inv X pins σ H' { s with heap := h', gens := g', drawn := d', toks := t' } := by
  obtain ⟨m, ⟨o, es, ep, ho, r⟩, _⟩ := id I.loc
  obtain ⟨sl, hL⟩ := u.any ho I.free fun z => (hch _ z).2.1 rfl
  exact I.step (ch := ch) hch (fun b o hL hb hc e n => u.keep b o e n (fun z => (List.mem_cons.mp (I.stkSub b z)).elim hL hb) hc) (fun b o _ _ hc e n => u.any e n hc) (fun b o hc e n => u.free b o e n hc) (fun b o hc e => u.there b o e hc) u.tups u.frzs u.tbls (fun m' hm => by
    obtain ⟨o', es', ep', ho', r'⟩ := hm
    rw [ho] at ho'; cases ho'
    exact ⟨_, es', ep', hL, r'⟩) hok hg
theorem Inv.turned {t' : Nat} {it : Addr} (I : Inv X pins σ H s) (k : ∀ b o, b ≠ it → s.heap.get? b = some o → h'.get? b = some o) (hn : H it = none) (hL : it ≠ X.env.locals)
    (h1 : it ∈ X.ex ∨ X.s₀.heap.objs.size ≤ it) (h2 : ∀ x c, X.env.cells.lookup x = some c → c ≠ it) (h3 : ∀ p ∈ X.pn ++ pins, p.1 ≠ it) : Inv X pins σ H { s with heap := h', toks := t' } := by
  have nit : ∀ b u, H b = some u → b ≠ it := fun b u e z => by rw [z, hn] at e; cases e
  refine I.step (g' := s.gens) (d' := s.drawn) (ch := [it]) (fun b hb => ?_) (fun b o _ _ hc e _ => k b o (fun z => hc (by simp [z])) e) (fun b o _ _ hc e _ => ⟨o.slots, k b o (fun z => hc (by simp [z])) e⟩) (fun _ _ _ _ n => n)
    (fun b o hc e => ⟨o, k b o (fun z => hc (by simp [z])) e⟩) (fun _ _ e => e) (fun _ _ _ e => e) (fun b ps e => ⟨#[], by rw [e]; simp⟩) (fun m hm => ?_) (fun b u e => ?_) I.bare
  · have e : b = it := by simpa using hb
    subst e
    exact ⟨h1, hL, h2, h3⟩
  · obtain ⟨o, es, ep, ho, r⟩ := hm
    exact ⟨o, es, ep, k _ o (Ne.symm hL) ho, r⟩
  · refine (I.hok b u e).stay (fun c v hc q => k c v ?_ q) (fun _ q => q) fun _ _ q => q
    rcases hc with z | z
    · rw [z]; exact nit b u e
    · exact nit c _ z
theorem Inv.tok (I : Inv X pins σ H s) (t : Nat) : Inv X pins σ H { s with toks := t } := I.un (h' := s.heap) (t' := t) Un.refl I.hok
theorem Inv.kept {t' : Nat} (I : Inv X pins σ H s) (k : ∀ b u, s.heap.get? b = some u → h'.get? b = some u) : Inv X pins σ H { s with heap := h', toks := t' } := I.un (Un.kept k) (I.hok.kept k)
theorem Inv.laid {a : Addr} {o : HO} {t' : Nat} (I : Inv X pins σ H s) (k : ∀ b u, s.heap.get? b = some u → h'.get? b = some u) (hp : s.heap.objs.size ≤ a) (new : ObjOk X.prog X.w (upd H a o) h' a o) :
    Inv X pins σ (upd H a o) { s with heap := h', toks := t' } := I.un (Un.laid k hp (I.hok.fresh hp)) (I.hok.laid k hp new)
theorem Inv.write {x e : Addr} {o : HO} {t' : Nat} (I : Inv X pins σ H s) (mu : Mut (H x)) (he : e = x ∨ H e = some (.own x)) (k : ∀ b u, b ≠ e → s.heap.get? b = some u → h'.get? b = some u) (heo : ∃ u, h'.get? e = some u)
    (new : ObjOk X.prog X.w (upd H x o) h' x o) : Inv X pins σ (upd H x o) { s with heap := h', toks := t' } := I.un (Un.write mu he k heo) (I.hok.write mu he k heo new)
theorem Inv.pins_of {pins' : List (Addr × Obj)} (I : Inv X pins σ H s) (h : ∀ p ∈ pins', s.heap.get? p.1 = some p.2 ∧ H p.1 = none ∧ p.1 ≠ X.env.locals ∧ p.1 ∉ X.fs ∧ ∀ v, p.2.data ≠ .cell v) : Inv X pins' σ H s :=
  ⟨I.ok, I.os, I.bare, I.base, I.loc, I.cell, I.free, I.freeC, fun p hp => (List.mem_append.mp hp).elim (fun z => I.pin p (List.mem_append_left _ z)) (h p), I.hok, I.len⟩
theorem nodup_ix {N : List Str} (hN : N.Nodup) {i j : Nat} {x : Str} (a : N[i]? = some x) (b : N[j]? = some x) : i = j := by
  obtain ⟨h1, e1⟩ := List.getElem?_eq_some_iff.mp a
  obtain ⟨h2, e2⟩ := List.getElem?_eq_some_iff.mp b
  exact (List.getElem_inj hN).mp (e1.trans e2.symm)
theorem store_ok2 {M : Model} {A : Around} {E : Value → Shared → Prop} {i : Nat} {x : Str} {v : V} {u : Value} {Q : Unit → Shared → Prop} (I : Inv X pins σ H s) (hN : X.N.Nodup) (hi : X.N[i]? = some x) (hx : Loc X.env.scope x) (r : RelV v u)
    (h : ∀ s', Inv X pins (σ.set i (some v)) H s' → (∃ a, Heap.SameBut a s.heap s'.heap ∧ (a = X.env.locals ∨ X.env.cells.lookup x = some a)) → Q () s') (hf : X.fn x = true ∨ X.env.scope.names.lookup x = some .local := by first | exact .inl rfl | exact .inr rfl | assumption) : wpAny M A (storeName X.env x u) Q E s := by
  obtain ⟨m, hn, hl⟩ := id I.loc
  have hcls : (X.env.scope.kind == .class || (X.env.scope.kind == .module && X.env.locals != X.env.globals)) = false := by rw [I.ok.kind]; rfl
  have hiσ : i < σ.length := by rw [I.len]; exact (List.getElem?_eq_some_iff.mp hi).1
  have cne := I.cne
  have tracked : ∀ {a : Addr} {h' : Heap}, (∃ o, s.heap.get? a = some o ∧ H a = none) → Heap.SameBut a s.heap h' → HOk X.prog X.w H h' := fun {a h'} ha hs b ob e => by
    obtain ⟨_, _, hfree⟩ := ha
    refine (I.hok b ob e).stay (fun c w' hc q => (hs.2 c ?_).trans q) (fun _ q => q) fun _ _ q => q
    rintro rfl
    rcases hc with rfl | hc
    · rw [hfree] at e; cases e
    · rw [hfree] at hc; cases hc
  rcases hx with hk | hk
  · refine wpAny_storeName_local hk hn (fun h' hn' hs => ?_) hcls
    obtain ⟨oL, _, _, hoL, _⟩ := id hn
    refine h _ ⟨I.ok, I.os, I.bare, ⟨fun b o e n hb hx => ?_, fun b o e n hb hx => ?_, I.base.free, fun b o e hx => ?_, I.base.tups, I.base.frzs, I.base.tbls⟩, ⟨_, hn', fun j y v' e1 e2 e3 => ?_⟩, fun y c e => ?_, I.free, I.freeC, fun p hp => ?_, tracked ⟨oL, hoL, I.free⟩ hs, by simpa using I.len⟩ ⟨_, hs, .inl rfl⟩
    · exact (hs.2 b (Nat.ne_of_lt (Nat.lt_of_lt_of_le (Heap.lt_size e) I.ok.above))).trans (I.base.keep b o e n hb hx)
    · obtain ⟨sl, e1⟩ := I.base.slot b o e n hb hx
      exact ⟨sl, (hs.2 b (Nat.ne_of_lt (Nat.lt_of_lt_of_le (Heap.lt_size e) I.ok.above))).trans e1⟩
    · obtain ⟨o', e1⟩ := I.base.there b o e hx
      exact ⟨o', (hs.2 b (Nat.ne_of_lt (Nat.lt_of_lt_of_le (Heap.lt_size e) I.ok.above))).trans e1⟩
    · by_cases hj : j = i
      · subst hj
        rw [hi] at e1; cases e1
        rw [List.getElem?_set_self hiσ] at e2
        cases e2
        exact ⟨u, r, .inl ⟨hk, by simp⟩⟩
      · rw [List.getElem?_set_ne (Ne.symm hj)] at e2
        obtain ⟨u', r', q⟩ := hl j y v' e1 e2 e3
        refine ⟨u', r', ?_⟩
        rcases q with ⟨k, e⟩ | ⟨k, c, e, z⟩
        · refine .inl ⟨k, ?_⟩
          have : y ≠ x := fun e => hj (nodup_ix hN e1 (e ▸ hi))
          simp [this, e]
        · exact .inr ⟨k, c, e, z.sameBut hs (cne y c e)⟩
    · obtain ⟨w', z⟩ := I.cell y c e
      exact ⟨w', z.sameBut hs (cne y c e)⟩
    · obtain ⟨e, n, ne, nf, d⟩ := I.pin p hp
      exact ⟨(hs.2 p.1 ne).trans e, n, ne, nf, d⟩
  · have hfn : X.fn x = true := by
      rcases hf with z | z
      · exact z
      · rw [z] at hk; cases hk
    obtain ⟨c, hc⟩ := I.ok.has x (.inl hk)
    obtain ⟨w', z⟩ := I.cell x c hc
    refine wpAny_storeName_cell I.ok.kind hk hc z (fun h' hc' hs => ?_)
    obtain ⟨oc, hoc, hocd⟩ := id z
    refine h { s with heap := h' } ⟨I.ok, I.os, I.bare, ⟨fun b o e n hb hx => ?_, fun b o e n hb hx => ?_, I.base.free, fun b o e hx => ?_, I.base.tups, I.base.frzs, I.base.tbls⟩, ⟨m, hn.sameBut hs (Ne.symm (cne x c hc)), fun j y v' e1 e2 e3 => ?_⟩, fun y c' e => ?_, I.free, I.freeC, fun p hp => ?_, tracked ⟨oc, hoc, I.freeC x c hc⟩ hs, by simpa using I.len⟩ ⟨c, hs, .inr hc⟩
    · exact (hs.2 b (Nat.ne_of_lt (Nat.lt_of_lt_of_le (Heap.lt_size e) (I.ok.cab x c hfn hc)))).trans (I.base.keep b o e n hb hx)
    · obtain ⟨sl, e1⟩ := I.base.slot b o e n hb hx
      exact ⟨sl, (hs.2 b (Nat.ne_of_lt (Nat.lt_of_lt_of_le (Heap.lt_size e) (I.ok.cab x c hfn hc)))).trans e1⟩
    · obtain ⟨o', e1⟩ := I.base.there b o e hx
      exact ⟨o', (hs.2 b (Nat.ne_of_lt (Nat.lt_of_lt_of_le (Heap.lt_size e) (I.ok.cab x c hfn hc)))).trans e1⟩
    · by_cases hj : j = i
      · subst hj
        rw [hi] at e1; cases e1
        rw [List.getElem?_set_self hiσ] at e2
        cases e2
        exact ⟨u, r, .inr ⟨.inl hk, c, hc, hc'⟩⟩
      · rw [List.getElem?_set_ne (Ne.symm hj)] at e2
        obtain ⟨u', r', q⟩ := hl j y v' e1 e2 e3
        refine ⟨u', r', ?_⟩
        rcases q with q | ⟨k, c', e, z'⟩
        · exact .inl q
        · refine .inr ⟨k, c', e, z'.sameBut hs ?_⟩
          rintro rfl
          exact hj (nodup_ix hN e1 (I.ok.inj _ _ _ e hc ▸ hi))
    · by_cases hcc : c' = c
      · subst hcc; exact ⟨_, hc'⟩
      · obtain ⟨w2, z2⟩ := I.cell y c' e
        exact ⟨w2, z2.sameBut hs hcc⟩
    · obtain ⟨e, n, ne, nf, d⟩ := I.pin p hp
      refine ⟨(hs.2 p.1 ?_).trans e, n, ne, nf, d⟩
      intro q
      rw [q, hoc] at e
      have q' : oc = p.2 := Option.some.inj e
      exact d w' (by rw [← q']; exact hocd)
theorem store_ok {M : Model} {A : Around} {E : Value → Shared → Prop} {i : Nat} {x : Str} {v : V} {u : Value} {Q : Unit → Shared → Prop} (I : Inv X pins σ H s) (hN : X.N.Nodup) (hi : X.N[i]? = some x) (hx : Loc X.env.scope x) (r : RelV v u)
    (h : ∀ s', Inv X pins (σ.set i (some v)) H s' → Q () s') (hf : X.fn x = true ∨ X.env.scope.names.lookup x = some .local := by first | exact .inl rfl | exact .inr rfl | assumption) : wpAny M A (storeName X.env x u) Q E s :=
  store_ok2 I hN hi hx r (fun s' I' _ => h s' I') hf
theorem Inv.call' {s' : Shared} {ch : List Addr} (I : Inv X pins σ H s) (ho : s'.os = s.os) (u : Un (frs X.stack) ch H H' s.heap s'.heap) (hok : HOk X.prog X.w H' s'.heap) (hg : AllBare s'.gens)
    (hch : ∀ b ∈ ch, (b ∈ X.ex ∨ X.s₀.heap.objs.size ≤ b) ∧ b ≠ X.env.locals ∧ (∀ x c, X.env.cells.lookup x = some c → c ≠ b) ∧ ∀ p ∈ X.pn ++ pins, p.1 ≠ b) : Inv X pins σ H' s' := by
  obtain ⟨h', g', d', t', o'⟩ := s'
  have e : o' = s.os := ho
  subst e
  exact I.call (g' := g') (t' := t') (d' := d') u hok hg hch
end
abbrev XK := Value → Option Addr → Hp → Prop
abbrev St := List (Option V)
abbrev VK := V → Hp → Prop
abbrev TE := St → Hp → VK → Prop
abbrev TT := St → Hp → (Bool → Hp → Prop) → Prop
abbrev TA := St → Hp → (List V → Hp → Prop) → Prop
structure Ends where
  nx : St → Hp → Prop
  rt : VK
  bk : St → Hp → Prop := fun _ _ => False
  ct : St → Hp → Prop := fun _ _ => False
abbrev TS := Ends → St → Hp → Prop
def EP (X : Cx) (pins : List (Addr × Obj)) (σ : St) (Q : VK) (u : Value) (s' : Shared) : Prop := ∃ v H', Inv X pins σ H' s' ∧ RelV v u ∧ Q v H'
def TP (X : Cx) (pins : List (Addr × Obj)) (σ : St) (Q : Bool → Hp → Prop) (b : Bool) (s' : Shared) : Prop := ∃ H', Inv X pins σ H' s' ∧ Q b H'
def AP (X : Cx) (pins : List (Addr × Obj)) (σ : St) (Q : List V → Hp → Prop) (us : List Value) (s' : Shared) : Prop := ∃ vs H', Inv X pins σ H' s' ∧ Vals vs us ∧ Q vs H'
def SP (X : Cx) (pins : List (Addr × Obj)) (D : Ends) (f : Flow) (s' : Shared) : Prop :=
  match f with
  | .next => ∃ σ' H', Inv X pins σ' H' s' ∧ D.nx σ' H'
  | .brk => ∃ σ' H', Inv X pins σ' H' s' ∧ D.bk σ' H'
  | .cont => ∃ σ' H', Inv X pins σ' H' s' ∧ D.ct σ' H'
  | .ret u => ∃ v σ' H', Inv X pins σ' H' s' ∧ RelV v u ∧ D.rt v H'
def PE (X : Cx) (e : Expr) (t : TE) : Prop :=
  ∀ (pins : List (Addr × Obj)) (s : Shared) (σ : St) (H : Hp) (Q : VK), Inv X pins σ H s → t σ H Q → wpAny (model X.prog X.w) X.A (eval e X.env) (EP X pins σ Q) X.xe s
def PT (X : Cx) (e : Expr) (t : TT) : Prop :=
  ∀ (pins : List (Addr × Obj)) (s : Shared) (σ : St) (H : Hp) (Q : Bool → Hp → Prop), Inv X pins σ H s → t σ H Q → wpAny (model X.prog X.w) X.A (isTrue e X.env (eval e X.env)) (TP X pins σ Q) X.xe s
def PW (X : Cx) (e : Expr) (t : TT) : Prop :=
  ∀ (whole : Sem Value) (pins : List (Addr × Obj)) (s : Shared) (σ : St) (H : Hp) (Q : Bool → Hp → Prop), Inv X pins σ H s → t σ H Q → wpAny (model X.prog X.w) X.A (isTrue e X.env whole) (TP X pins σ Q) X.xe s
theorem PW.pt {X : Cx} {e : Expr} {t : TT} (h : PW X e t) : PT X e t := h _
def PA (X : Cx) (es : List Expr) (t : TA) : Prop :=
  ∀ (pos : Pos) (pins : List (Addr × Obj)) (s : Shared) (σ : St) (H : Hp) (Q : List V → Hp → Prop), Inv X pins σ H s → t σ H Q → wpAny (model X.prog X.w) X.A (spliced (backTo pos (starEach es X.env))) (AP X pins σ Q) X.xe s
def PS (X : Cx) (st : Stmt) (t : TS) : Prop :=
  ∀ (pins : List (Addr × Obj)) (s : Shared) (σ : St) (H : Hp) (D : Ends), Inv X pins σ H s → t D σ H → wpAny (model X.prog X.w) X.A (exec st X.env) (SP X pins D) X.xe s
def PSs (X : Cx) (st : List Stmt) (t : TS) : Prop :=
  ∀ (pins : List (Addr × Obj)) (s : Shared) (σ : St) (H : Hp) (D : Ends), Inv X pins σ H s → t D σ H → wpAny (model X.prog X.w) X.A (execs st X.env) (SP X pins D) X.xe s
theorem thn {α : Type} {t : Sem α} {Q Q' : α → Shared → Prop} {M : Model} {A : Around} {E : Value → Shared → Prop} {s : Shared} (h : wpAny M A t Q E s) (hQ : ∀ a s, Q a s → Q' a s) : wpAny M A t Q' E s := wpAny_mono h hQ fun _ _ x => x
end L2
namespace L2
open PySem PySem.Spec PyProof.Rows
section
variable {X : Cx}
def tVar (i : Nat) : TE := fun σ H Q => ∃ v, σ[i]? = some (some v) ∧ Q v H
def tC (v : V) : TE := fun _ H Q => Q v H
theorem pe_var {i : Nat} {x : Str} {pos : Pos} (hN : X.N[i]? = some x) (hv : Vis X.env.scope x) (hd : (x == ("__debug__" : Str)) = false := by decide) (hcd : (x == ("__classdict__" : Str)) = false := by decide) : PE X (.Name x pos) (tVar i) := by
  intro pins s σ H Q I h
  obtain ⟨v, e, h⟩ := h
  obtain ⟨m, hn, hl⟩ := I.loc
  obtain ⟨u, r, l⟩ := hl i x v hN e hv
  have fin : EP X pins σ Q u s := ⟨v, H, I, r, h⟩
  rcases l with ⟨hk, hm⟩ | ⟨hk, c, hc, hcell⟩
  · exact wpAny_Name (wpAny_loadName_local I.ok.kind hk hn hm fin) hd
  · rcases hk with hk | hk
    · exact wpAny_Name (wpAny_loadName_cell I.ok.kind hk hc hcell fin) hd
    · exact wpAny_Name (wpAny_loadName_free I.ok.kind hk hc hcell fin hcd) hd
theorem pe_int {i j pos} : PE X (.Constant (.int i) j pos) (tC (.int i)) := fun _ _ _ H _ I h => wpAny_Constant_int ⟨.int i, H, I.tok _, ⟨_, rfl⟩, h⟩
theorem pe_bl {b j pos} : PE X (.Constant (.bool b) j pos) (tC (.bl b)) := fun _ _ _ H _ I h => Constant_bool ⟨.bl b, H, I, rfl, h⟩
theorem pe_non {j pos} : PE X (.Constant .none j pos) (tC .non) := fun _ _ _ H _ I h => Constant_none ⟨.non, H, I, rfl, h⟩
theorem pe_str {x j pos} : PE X (.Constant (.str x) j pos) (tC (.str x)) := fun _ _ _ H _ I h => Calls.Constant_str ⟨.str x, H, I.tok _, ⟨_, rfl⟩, h⟩
def Gl (X : Cx) (x : Str) : Prop := X.env.kindOf x = some .globalImplicit
theorem ld_glob {E : Value → Shared → Prop} {pins : List (Addr × Obj)} {s : Shared} {σ : St} {H : Hp} {x : Str} {u : Value} {pos : Pos} {Q : Value → Shared → Prop} (I : Inv X pins σ H s) (hg : Gl X x) (hm : X.mg x = some u) (h : Q u s)
    (hd : (x == ("__debug__" : Str)) = false := by decide) : wpAny (model X.prog X.w) X.A (eval (.Name x pos) X.env) Q E s :=
  Calls.Name_function_global I.ok.kind hg (Calls.loadGlobal_global (by rw [I.ok.glob]; exact I.mod.glob.keeps I.bk) hm h) hd
theorem ld_blt {E : Value → Shared → Prop} {pins : List (Addr × Obj)} {s : Shared} {σ : St} {H : Hp} {x : Str} {u : Value} {pos : Pos} {Q : Value → Shared → Prop} (I : Inv X pins σ H s) (hg : Gl X x) (hm : X.mg x = none) (hv : bootBuiltins x = some u) (h : Q u s)
    (hn : x ≠ "__name__" := by decide) (hd : (x == ("__debug__" : Str)) = false := by decide) : wpAny (model X.prog X.w) X.A (eval (.Name x pos) X.env) Q E s := by
  obtain ⟨mb, h1, h2⟩ := I.mod.blt
  exact Calls.Name_function_global I.ok.kind hg (Calls.loadGlobal_builtin (by rw [I.ok.glob]; exact I.mod.glob.keeps I.bk) hm (by rw [I.ok.blt]; exact h1.keeps I.bk) ((h2 x hn).trans hv) h) hd
theorem pe_glob {x : Str} {v : V} {u : Value} {pos : Pos} (hg : Gl X x) (hm : X.mg x = some u) (r : RelV v u) (hd : (x == ("__debug__" : Str)) = false := by decide) : PE X (.Name x pos) (tC v) :=
  fun _ _ _ H _ I h => ld_glob I hg hm ⟨v, H, I, r, h⟩ hd
theorem pe_bltn {x : Str} {v : V} {u : Value} {pos : Pos} (hg : Gl X x) (hm : X.mg x = none) (hv : bootBuiltins x = some u) (r : RelV v u) (hn : x ≠ "__name__" := by decide) (hd : (x == ("__debug__" : Str)) = false := by decide) : PE X (.Name x pos) (tC v) :=
  fun _ _ _ H _ I h => ld_blt I hg hm hv ⟨v, H, I, r, h⟩ hn hd
variable {a b : Expr} {ta tb : TE} {pos : Pos}
def tB (t : TE) : TT := fun σ H Q => t σ H fun x H1 => ∃ c, x = .bl c ∧ Q c H1
theorem pt_val {e : Expr} {t : TE} (h : PE X e t) (he : ∀ whole, isTrue e X.env whole = (do let v ← whole; standAt e.pos; holding [v] (truthy v)) := by intro _; rfl) : PT X e (tB t) := by
  intro pins s σ H Q I hw
  refine isTrue_plain (thn (h pins s σ H _ I hw) fun v s1 ⟨x, H1, I1, r1, q1⟩ => ?_) (he _)
  obtain ⟨d, rfl, q⟩ := q1
  cases r1
  exact wpAny_truthy_bool ⟨H1, I1, q⟩
variable {tA tB' : TT} {rest : List Expr}
def tAnd (t u : TT) : TT := fun σ H Q => t σ H fun c H1 => if c = true then u σ H1 Q else Q false H1
def tOr (t u : TT) : TT := fun σ H Q => t σ H fun c H1 => if c = true then Q true H1 else u σ H1 Q
def tNot (t : TT) : TT := fun σ H Q => t σ H fun c H1 => Q (!c) H1
theorem pw_and1 (ha : PT X a tA) : PW X (.BoolOp .And [a] pos) tA := by
  intro wh pins s σ H Q I h
  refine isTrue_and (thn (ha pins s σ H Q I h) fun c s1 e => ?_)
  cases c with
  | true => exact isTrue_and_nil e
  | false => exact e
theorem pw_or1 (ha : PT X a tA) : PW X (.BoolOp .Or [a] pos) tA := by
  intro wh pins s σ H Q I h
  refine isTrue_or (thn (ha pins s σ H Q I h) fun c s1 e => ?_)
  cases c with
  | false => exact isTrue_or_nil e
  | true => exact e
theorem pw_and (ha : PT X a tA) (hb : PW X (.BoolOp .And (b :: rest) pos) tB') : PW X (.BoolOp .And (a :: b :: rest) pos) (tAnd tA tB') := by
  intro wh pins s σ H Q I h
  refine isTrue_and (thn (ha pins s σ H _ I h) fun c s1 ⟨H1, I1, q1⟩ => ?_)
  cases c with
  | true => exact hb wh pins s1 σ H1 Q I1 q1
  | false => exact ⟨H1, I1, q1⟩
theorem pw_or (ha : PT X a tA) (hb : PW X (.BoolOp .Or (b :: rest) pos) tB') : PW X (.BoolOp .Or (a :: b :: rest) pos) (tOr tA tB') := by
  intro wh pins s σ H Q I h
  refine isTrue_or (thn (ha pins s σ H _ I h) fun c s1 ⟨H1, I1, q1⟩ => ?_)
  cases c with
  | true => exact ⟨H1, I1, q1⟩
  | false => exact hb wh pins s1 σ H1 Q I1 q1
theorem pt_not (ha : PT X a tA) : PT X (.UnaryOp .Not a pos) (tNot tA) := by
  intro pins s σ H Q I h
  exact isTrue_not (ha pins s σ H (fun c H1 => Q (!c) H1) I h)
def tAndV (ta tb : TE) : TE := fun σ H Q => ta σ H fun x H1 => ∃ c, x = .bl c ∧ if c = true then tb σ H1 Q else Q (.bl false) H1
def tOrV (ta tb : TE) : TE := fun σ H Q => ta σ H fun x H1 => ∃ c, x = .bl c ∧ if c = true then Q (.bl true) H1 else tb σ H1 Q
def tNotV (ta : TE) : TE := fun σ H Q => ta σ H fun x H1 => ∃ c, x = .bl c ∧ Q (.bl (!c)) H1
theorem pe_one {op} {t : TE} (h : PE X a t) : PE X (.BoolOp op [a] pos) t := fun pins s σ H Q I hw => BoolOp_one (h pins s σ H Q I hw)
theorem pe_and (ha : PE X a ta) (hb : PE X (.BoolOp .And (b :: rest) pos) tb) : PE X (.BoolOp .And (a :: b :: rest) pos) (tAndV ta tb) := by
  intro pins s σ H Q I h
  refine BoolOp_and (thn (ha pins s σ H _ I h) fun v s1 ⟨x, H1, I1, r1, q1⟩ => ?_)
  obtain ⟨c, rfl, q1⟩ := q1
  cases r1
  refine wpAny_truthy_bool ?_
  cases c with
  | true => exact hb pins s1 σ H1 Q I1 q1
  | false => exact ⟨.bl false, H1, I1, rfl, q1⟩
def tIf (t : TT) (ta tb : TE) : TE := fun σ H Q => t σ H fun c H1 => if c = true then ta σ H1 Q else tb σ H1 Q
end
end L2
namespace L2
open PySem PySem.Spec PyProof.Rows
def SqL (K : PySem.W.Frag) (H : Hp) (a : Addr) (xs : List V) : Prop :=
  Rd H a (.lst xs) ∨
    ∃ (o : Obj) (its : Array Value) (n : Nat), K.lookup a = some o ∧ o.cls = .type "list" ∧ o.dict = none ∧ o.data = .seq its n ∧ its.size ≤ sizeLine ∧ Vals xs its.toList
def SqT (K : PySem.W.Frag) (H : Hp) (a : Addr) (xs : List V) : Prop :=
  Rd H a (.tup xs) ∨
    ∃ (o : Obj) (its : Array Value) (n : Nat), K.lookup a = some o ∧ o.cls = .type "tuple" ∧ o.data = .seq its n ∧ its.size ≤ sizeLine ∧ Vals xs its.toList
def absV : Value → Option V
  | .none => some .non
  | .bool b => some (.bl b)
  | .int i _ => some (.int i)
  | .str x _ => some (.str x)
  | .bytes b _ => some (.byt b)
  | .float b _ => some (.flt b)
  | .ref a => some (.ref a)
  | .type n => some (.ty n)
  | _ => none
theorem RelV.abs {x : V} {u : Value} (r : RelV x u) : absV u = some x := by
  cases x with
  | non => cases r; rfl
  | bl _ => cases r; rfl
  | int _ => obtain ⟨t, rfl⟩ := r; rfl
  | str _ => obtain ⟨t, rfl⟩ := r; rfl
  | byt _ => obtain ⟨t, rfl⟩ := r; rfl
  | flt _ => obtain ⟨t, rfl⟩ := r; rfl
  | ref _ => cases r; rfl
  | ty _ => cases r; rfl
theorem RelV.inj {x y : V} {u : Value} (r : RelV x u) (q : RelV y u) : x = y := Option.some.inj (r.abs.symm.trans q.abs)
theorem Vals.inj : ∀ {xs ys : List V} {us : List Value}, Vals xs us → Vals ys us → xs = ys
  | _, _, _, .nil, .nil => rfl
  | _, _, _, .cons r t, .cons r' t' => by rw [r.inj r', Vals.inj t t']
section
variable {X : Cx} {pins : List (Addr × Obj)} {σ : St} {H : Hp} {s : Shared} {a : Addr} {xs ys : List V}
theorem SqL.of {K : PySem.W.Frag} (h : H a = some (.lst xs)) : SqL K H a xs := .inl (.inl h)
theorem SqT.of {K : PySem.W.Frag} (h : H a = some (.tup xs)) : SqT K H a xs := .inl (.inl h)
theorem Inv.list (I : Inv X pins σ H s) (h : SqL X.K H a xs) : ∃ its : List Value, Vals xs its ∧ PlainL s.heap a its.toArray ∧ xs.length ≤ sizeLine := by
  rcases h with h | ⟨o, its, n, hk, hc, hd, hs, hz, r⟩
  · obtain ⟨z, its, n, r, e⟩ := h.ok I.hok
    exact ⟨its, r, ⟨_, n, e, rfl, rfl, rfl⟩, z⟩
  · refine ⟨its.toList, r, ⟨o, n, I.kIn a o hk, hc, hd, by simpa using hs⟩, ?_⟩
    have e := r.length
    simp only [Array.length_toList] at e
    omega
theorem Inv.tuple (I : Inv X pins σ H s) (h : SqT X.K H a xs) : ∃ its : List Value, Vals xs its ∧ IsTup s.heap a its.toArray ∧ xs.length ≤ sizeLine := by
  rcases h with h | ⟨o, its, n, hk, hc, hs, hz, r⟩
  · obtain ⟨z, its, r, p⟩ := h.ok I.hok
    exact ⟨its, r, p, z⟩
  · refine ⟨its.toList, r, ⟨o, I.kIn a o hk, hc, n, by simpa using hs⟩, ?_⟩
    have e := r.length
    simp only [Array.length_toList] at e
    omega
theorem Inv.list_inj (I : Inv X pins σ H s) (h : SqL X.K H a xs) (h' : SqL X.K H a ys) : xs = ys := by
  obtain ⟨its, r, ⟨o, n, e, _, _, d⟩, _⟩ := I.list h
  obtain ⟨its', r', ⟨o', n', e', _, _, d'⟩, _⟩ := I.list h'
  rw [e] at e'; cases e'
  rw [d] at d'
  injection d' with d1 _
  have : its = its' := by simpa using congrArg Array.toList d1
  subst this
  exact r.inj r'
theorem Inv.tuple_inj (I : Inv X pins σ H s) (h : SqT X.K H a xs) (h' : SqT X.K H a ys) : xs = ys := by
  obtain ⟨its, r, ⟨o, e, _, n, d⟩, _⟩ := I.tuple h
  obtain ⟨its', r', ⟨o', e', _, n', d'⟩, _⟩ := I.tuple h'
  rw [e] at e'; cases e'
  rw [d] at d'
  injection d' with d1 _
  have : its = its' := by simpa using congrArg Array.toList d1
  subst this
  exact r.inj r'
end
abbrev Cx.wish (X : Cx) (E : Value → Shared → Prop) : Cx := { X with xe := E }
abbrev Cx.nox (X : Cx) : Cx := X.wish fun _ _ => False
theorem Cx.Ok.wish {X : Cx} (ok : X.Ok) (E : Value → Shared → Prop) : (X.wish E).Ok :=
  ⟨ok.mod, ok.kind, ok.glob, ok.blt, ok.above, ok.inj, ok.has, ok.cab, ok.hd, ok.frames, ok.stk, ok.exf, ok.bs, ok.bsz, ok.noex, ok.exfs, ok.funs, ok.frf⟩
theorem Cx.Ok.unwish {X : Cx} {E : Value → Shared → Prop} (ok : (X.wish E).Ok) : X.Ok :=
  ⟨ok.mod, ok.kind, ok.glob, ok.blt, ok.above, ok.inj, ok.has, ok.cab, ok.hd, ok.frames, ok.stk, ok.exf, ok.bs, ok.bsz, ok.noex, ok.exfs, ok.funs, ok.frf⟩
section
variable {X : Cx} {pins : List (Addr × Obj)} {σ : St} {H : Hp} {s : Shared} {E : Value → Shared → Prop}
theorem Inv.wish (I : Inv X pins σ H s) (E : Value → Shared → Prop) : Inv (X.wish E) pins σ H s := ⟨I.ok.wish E, I.os, I.bare, I.base, I.loc, I.cell, I.free, I.freeC, I.pin, I.hok, I.len⟩
theorem Inv.unwish (I : Inv (X.wish E) pins σ H s) : Inv X pins σ H s := ⟨I.ok.unwish, I.os, I.bare, I.base, I.loc, I.cell, I.free, I.freeC, I.pin, I.hok, I.len⟩
theorem SP.unwish {D : Ends} {f : Flow} {s' : Shared} (h : SP (X.wish E) pins D f s') : SP X pins D f s' := by
  cases f with
  | next => obtain ⟨σ', H', I, q⟩ := h; exact ⟨σ', H', I.unwish, q⟩
  | brk => obtain ⟨σ', H', I, q⟩ := h; exact ⟨σ', H', I.unwish, q⟩
  | cont => obtain ⟨σ', H', I, q⟩ := h; exact ⟨σ', H', I.unwish, q⟩
  | ret u => obtain ⟨v, σ', H', I, r, q⟩ := h; exact ⟨v, σ', H', I.unwish, r, q⟩
theorem PE.nox {e : Expr} {t : TE} (h : PE X.nox e t) : PE X e t := fun pins s σ H Q I hw =>
  wpAny_mono (h pins s σ H Q (I.wish _) hw) (fun _ _ ⟨v, H', I', r, q⟩ => ⟨v, H', I'.unwish, r, q⟩) fun _ _ z => False.elim z
theorem PT.nox {e : Expr} {t : TT} (h : PT X.nox e t) : PT X e t := fun pins s σ H Q I hw =>
  wpAny_mono (h pins s σ H Q (I.wish _) hw) (fun _ _ ⟨H', I', q⟩ => ⟨H', I'.unwish, q⟩) fun _ _ z => False.elim z
theorem PSs.nox {st : List Stmt} {t : TS} (h : PSs X.nox st t) : PSs X st t := fun pins s σ H D I hw =>
  wpAny_mono (h pins s σ H D (I.wish _) hw) (fun _ _ q => q.unwish) fun _ _ z => False.elim z
end
section
variable {X : Cx} {st : Stmt} {rest : List Stmt} {t u : TS} {e : Expr} {te : TE} {pos : Pos}
def tNext : TS := fun D σ H => D.nx σ H
def tSeq (t u : TS) : TS := fun D σ H => t { D with nx := u D } σ H
theorem pss_nil : PSs X [] tNext := fun _ _ σ H _ I h => wpAny_execs_nil ⟨σ, H, I, h⟩
theorem pss_cons (h1 : PS X st t) (h2 : PSs X rest u) : PSs X (st :: rest) (tSeq t u) := by
  intro pins s σ H D I h
  refine wpAny_execs_cons (thn (h1 pins s σ H { D with nx := u D } I h) fun f s1 q => ?_)
  cases f with
  | next =>
    obtain ⟨σ', H', I', q⟩ := q
    exact h2 pins s1 σ' H' D I' q
  | ret v => exact q
  | brk => exact q
  | cont => exact q
theorem pss_one (h1 : PS X st t) : PSs X [st] t := by
  intro pins s σ H D I h
  refine wpAny_execs_cons (thn (h1 pins s σ H D I h) fun f s1 q => ?_)
  cases f with
  | next => exact wpAny_execs_nil q
  | ret v => exact q
  | brk => exact q
  | cont => exact q
theorem Inv.quiet {pins : List (Addr × Obj)} {σ : St} {H : Hp} {s : Shared} (I : Inv X pins σ H s) : interactive X.env = false := by simp [interactive, I.ok.kind]
def tDrop (te : TE) : TS := fun D σ H => te σ H fun _ H1 => D.nx σ H1
theorem ps_expr (he : PE X e te) (hs : swapsWith e none pos.line X.env = pure false := by rfl) : PS X (.Expr e pos) (tDrop te) := by
  intro pins s σ H D I h
  exact wpAny_Expr_any (thn (he pins s σ H _ I h) fun v s1 ⟨x, H1, I1, r1, q1⟩ => ⟨σ, H1, I1, q1⟩) I.quiet hs
def tRet (te : TE) : TS := fun D σ H => te σ H D.rt
theorem ps_ret (he : PE X e te) : PS X (.Return (some e) pos) (tRet te) := by
  intro pins s σ H D I h
  exact wpAny_Return_some (thn (he pins s σ H _ I h) fun v s1 ⟨x, H1, I1, r1, q1⟩ => ⟨x, σ, H1, I1, r1, q1⟩)
def tIfS (c : TT) (t u : TS) : TS := fun D σ H => c σ H fun b H1 => if b = true then t D σ H1 else u D σ H1
theorem ps_if {c : Expr} {a b : List Stmt} {tc : TT} (hc : PT X c tc) (ha : PSs X a t) (hb : PSs X b u) : PS X (.If c a b pos) (tIfS tc t u) := by
  intro pins s σ H D I h
  refine wpAny_If (thn (hc pins s σ H _ I h) fun d s1 ⟨H1, I1, q1⟩ => ?_)
  cases d with
  | true => exact ha pins s1 σ H1 D I1 q1
  | false => exact hb pins s1 σ H1 D I1 q1
def tNever : TS := fun _ _ _ => False
theorem ps_never : PS X st tNever := fun _ _ _ _ _ _ h => h.elim
end
abbrev TG := V → St → Hp → (St → Hp → Prop) → Prop
abbrev TGs := List V → St → Hp → (St → Hp → Prop) → Prop
def PG (X : Cx) (target : Expr) (t : TG) : Prop :=
  ∀ (pins : List (Addr × Obj)) (s : Shared) (σ : St) (H : Hp) (v : V) (u : Value) (Q : St → Hp → Prop), Inv X pins σ H s → RelV v u → t v σ H Q →
    wpAny (model X.prog X.w) X.A (assign target X.env u) (fun _ s' => ∃ σ' H', Inv X pins σ' H' s' ∧ Q σ' H') X.xe s
def PGs (X : Cx) (ts : List Expr) (t : TGs) : Prop :=
  ∀ (pins : List (Addr × Obj)) (s : Shared) (σ : St) (H : Hp) (vs : List V) (us : List Value) (Q : St → Hp → Prop), Inv X pins σ H s → Vals vs us → t vs σ H Q →
    wpAny (model X.prog X.w) X.A (assignInOrder ((assignEach ts X.env).map (·.2)) us) (fun _ s' => ∃ σ' H', Inv X pins σ' H' s' ∧ Q σ' H') X.xe s
abbrev TSet := V → V → V → Hp → (Hp → Prop) → Prop
def PSet (X : Cx) (t : TSet) : Prop :=
  ∀ (pins : List (Addr × Obj)) (s : Shared) (σ : St) (H : Hp) (o i v : V) (ov iv u : Value) (Q : Hp → Prop), Inv X pins σ H s → RelV o ov → RelV i iv → RelV v u → t o i v H Q →
    wpAny (model X.prog X.w) X.A (setItem ov iv u) (fun _ s' => ∃ H', Inv X pins σ H' s' ∧ Q H') X.xe s
section
variable {X : Cx} {pos : Pos}
def gName (i : Nat) : TG := fun v σ H Q => Q (σ.set i (some v)) H
theorem pg_name {i : Nat} {x : Str} (hN : X.N.Nodup) (hi : X.N[i]? = some x) (hx : Loc X.env.scope x) (hf : X.fn x = true ∨ X.env.scope.names.lookup x = some .local := by first | exact .inl rfl | exact .inr rfl | assumption) : PG X (.Name x pos) (gName i) := by
  intro pins s σ H v u Q I r h
  exact wpAny_assign_Name (store_ok I hN hi hx r (fun s' I' => ⟨_, H, I', h⟩) hf)
def gNil : TGs := fun vs σ H Q => vs = [] ∧ Q σ H
def gCons (t : TG) (u : TGs) : TGs := fun vs σ H Q => ∃ v r, vs = v :: r ∧ t v σ H fun σ' H' => u r σ' H' Q
theorem pgs_nil : PGs X [] gNil := by
  intro pins s σ H vs us Q I r h
  obtain ⟨e, h⟩ := h
  subst e
  cases r
  exact assignInOrder_nil ⟨σ, H, I, h⟩
theorem pgs_cons {e : Expr} {es : List Expr} {t : TG} {u : TGs} (h1 : PG X e t) (h2 : PGs X es u)
    (hs : (assignEach (e :: es) X.env).map (·.2) = assign e X.env :: (assignEach es X.env).map (·.2) := by rfl) : PGs X (e :: es) (gCons t u) := by
  intro pins s σ H vs us Q I r h
  obtain ⟨v, vr, e1, h⟩ := h
  subst e1
  cases r with
  | cons r rr =>
    rw [hs]
    refine assignInOrder_cons (thn (h1 pins s σ H _ _ _ I r h) fun _ s1 ⟨σ1, H1, I1, q1⟩ => ?_)
    exact h2 pins s1 σ1 H1 _ _ Q I1 rr q1
def gTup (K : PySem.W.Frag) (n : Nat) (t : TGs) : TG := fun v σ H Q => ∃ a xs, v = .ref a ∧ SqT K H a xs ∧ xs.length = n ∧ t xs σ H Q
theorem pg_tup {es : List Expr} {k : Nat} {t : TGs} {n : Nat} (hc : X.calm = true) (h : PGs X es t)
    (hn : (assignEach es X.env).length = n := by rfl) (hst : (assignEach es X.env).findIdx? (·.1) = none := by rfl) : PG X (.Tuple es k pos) (gTup X.K n t) := by
  intro pins s σ H v u Q I r hw
  obtain ⟨a, xs, e1, hq, hl, hw⟩ := hw
  subst e1
  cases r
  obtain ⟨its, rv, ht, hz⟩ := I.tuple hq
  refine assign_Tuple_tuple (I.ok.hd hc) ht (by simp [hn, ← hl, rv.length]) hst fun h' hx => ?_
  have I1 : Inv X pins σ H { s with heap := h' } := I.kept (t' := s.toks) fun b o e => hx b o (Nat.ne_of_lt (Heap.lt_size e)) e
  exact h pins _ σ H xs _ Q I1 (by simpa using rv) hw
def gSub (to ti : TE) (t : TSet) : TG := fun v σ H Q => to σ H fun o H1 => ti σ H1 fun i H2 => t o i v H2 fun H3 => Q σ H3
theorem pg_sub {o i : Expr} {to ti : TE} {t : TSet} (ho : PE X o to) (hi : PE X i ti) (hs : PSet X t)
    (ha : ∀ v, assign (.Subscript o i pos) X.env v = (do
      let ov ← holding [v] (eval o X.env)
      let iv ← holding [v, ov] (eval i X.env)
      standAt pos
      holding [v, ov, iv] (setItem ov iv v)
      release [v, ov, iv] []) := by intro _; rfl) : PG X (.Subscript o i pos) (gSub to ti t) := by
  intro pins s σ H v u Q I r h
  rw [ha]
  refine wpAny_bind (wpAny_holding (thn (ho pins s σ H _ I h) fun ov s1 ⟨x, H1, I1, r1, q1⟩ => ?_))
  refine wpAny_bind (wpAny_holding (thn (hi pins s1 σ H1 _ I1 q1) fun iv s2 ⟨y, H2, I2, r2, q2⟩ => ?_))
  refine wpAny_bind (wpAny_standAt (wpAny_bind (wpAny_holding (thn (hs pins s2 σ H2 x y v ov iv u _ I2 r1 r2 r q2) fun _ s3 ⟨H3, I3, q3⟩ => ?_))))
  exact wpAny_release ⟨σ, H3, I3, q3⟩
def tAsg (te : TE) (g : TG) : TS := fun D σ H => te σ H fun x H1 => g x σ H1 D.nx
theorem ps_asg {tg e : Expr} {te : TE} {g : TG} (he : PE X e te) (hg : PG X tg g) (hs : swapsWithSole [tg] e pos.line X.env = pure false := by rfl) (hw : swappedStores [tg] e X.env = pure none := by rfl)
    (h1 : (assignEach [tg] X.env).map (·.2) = [assign tg X.env] := by rfl) : PS X (.Assign [tg] e pos) (tAsg te g) := by
  intro pins s σ H D I h
  refine wpAny_Assign_stores (thn (he pins s σ H _ I h) fun v s1 ⟨x, H1, I1, r1, q1⟩ => ?_) hs hw
  rw [h1]
  exact thn (hg pins s1 σ H1 x v _ I1 r1 q1) fun _ s2 q => q
theorem ps_set {i : Nat} {x : Str} {e : Expr} {te : TE} {pos' : Pos} (hN : X.N.Nodup) (hi : X.N[i]? = some x) (hx : Loc X.env.scope x) (he : PE X e te) (hs : swapsWith e (some (.Name x pos')) pos.line X.env = pure false := by rfl) (hf : X.fn x = true ∨ X.env.scope.names.lookup x = some .local := by first | exact .inl rfl | exact .inr rfl | assumption) :
    PS X (.Assign [.Name x pos'] e pos) (tAsg te (gName i)) := by
  intro pins s σ H D I h
  refine wpAny_Assign_Name (thn (he pins s σ H _ I h) fun v s1 ⟨y, H1, I1, r1, q1⟩ => ?_) hs
  exact store_ok I1 hN hi hx r1 (fun s2 I2 => ⟨_, H1, I2, q1⟩) hf
def tPar (i j : Nat) (ta : TA) : TS := fun D σ H => ta σ H fun vs H1 => ∃ v w, vs = [v, w] ∧ D.nx ((σ.set i (some v)).set j (some w)) H1
theorem ps_par {i j : Nat} {x y : Str} {a b : Expr} {ta : TA} {px py pt : Pos} {kt k2 pt2} (hc : X.calm = true) (hN : X.N.Nodup) (hi : X.N[i]? = some x) (hj : X.N[j]? = some y) (hij : i ≠ j)
    (hx : X.env.scope.names.lookup x = some .local) (hy : X.env.scope.names.lookup y = some .local) (ha : PA X [a, b] ta)
    (hw : swappedStores [.Tuple [.Name x px, .Name y py] kt pt] (.Tuple [a, b] k2 pt2) X.env = pure (some [x, y]))
    (hs : swapsWithSole [.Tuple [.Name x px, .Name y py] kt pt] (.Tuple [a, b] k2 pt2) pos.line X.env = pure false := by rfl) :
    PS X (.Assign [.Tuple [.Name x px, .Name y py] kt pt] (.Tuple [a, b] k2 pt2) pos) (tPar i j ta) := by
  intro pins s σ H D I h
  rw [exec_Assign_arm]
  refine wpAny_bind (wpAny_standAt ?_)
  rw [hs]
  refine wpAny_bind (wpAny_pure ?_)
  rw [if_neg (by decide)]
  refine wpAny_bind (Tuple_ (thn (ha _ pins s σ H _ I h) fun us s1 ⟨vs, H1, I1, r1, q1⟩ => ?_))
  obtain ⟨v, w, e1, q1⟩ := q1
  subst e1
  obtain ⟨u1, u2, rfl, rv, rw'⟩ : ∃ u1 u2, us = [u1, u2] ∧ RelV v u1 ∧ RelV w u2 := by
    cases r1 with
    | cons p q =>
      cases q with
      | cons p' q' =>
        cases q'
        exact ⟨_, _, rfl, p, p'⟩
  refine wpAny_newObj_type ?_ (by show 2 ≤ sizeLine; decide)
  have I2 : Inv X pins σ H1 { s1 with heap := s1.heap.push { cls := .type "tuple", data := .seq [u1, u2].toArray } } := I1.kept (t' := s1.toks) fun b o e => Heap.get?_push_of_some _ e
  rw [hw]
  refine wpAny_bind (wpAny_pure ?_)
  show wpAny (model X.prog X.w) X.A (do rule "assign.swapped-stores"; let items ← unpackItems (.ref s1.heap.objs.size) 2 none; assignInOrder [fun v => bindName X.env y v, fun v => bindName X.env x v] items.reverse; pure Flow.next) _ _ _
  refine wpAny_bind (wpAny_rule (wpAny_bind (unpackItems_tuple (items := #[u1, u2]) (I.ok.hd hc) (IsTup.new s1.heap _) fun h' hx' => ?_)))
  have I3 := I2.kept (h' := h') (t' := s1.toks) fun b o e => hx' b o (Nat.ne_of_lt (Heap.lt_size e)) e
  show wpAny _ _ (assignInOrder [fun v => bindName X.env y v, fun v => bindName X.env x v] [u2, u1] >>= fun _ => pure Flow.next) _ _ _
  refine wpAny_bind (assignInOrder_cons (wpAny_bindName (store_ok I3 hN hj (.inl hy) rw' (fun s2 I4 => ?_) (.inr hy))))
  refine assignInOrder_cons (wpAny_bindName (store_ok I4 hN hi (.inl hx) rv (fun s3 I5 => assignInOrder_nil (wpAny_pure ?_)) (.inr hx)))
  rw [List.set_comm _ _ (Ne.symm hij)] at I5
  exact ⟨_, H1, I5, q1⟩
end
section
variable {X : Cx} {pos : Pos}
def tWhile (c : TT) (tb : TS) : TS := fun D σ H => ∃ W : Nat → St → Hp → Prop, (∃ m, W m σ H) ∧ ∀ m σ H, W m σ H →
  c σ H fun b H1 => if b = true then ∃ N : St → Hp → Prop, (∀ σ' H', N σ' H' → ∃ m', m' < m ∧ W m' σ' H') ∧ tb { D with nx := N, ct := N, bk := D.nx } σ H1 else D.nx σ H1
theorem ps_while {c : Expr} {body : List Stmt} {tc : TT} {tb : TS} (hp : PassesOwn (model X.prog X.w) X.A X.env X.xe) (hc : PT X c tc) (hb : PSs X body tb) : PS X (.While c body [] pos) (tWhile tc tb) := by
  intro pins s σ H D I h
  obtain ⟨W, ⟨m0, w0⟩, turn⟩ := h
  refine wpAny_While (codeAny_whileLoop (fun n s' => ∃ σ' H', Inv X pins σ' H' s' ∧ W n σ' H') ?_ m0 ⟨σ, H, I, w0⟩)
  rintro n s1 ⟨σ1, H1, I1, w1⟩
  refine wpAny_passesOwn hp (thn (hc pins s1 σ1 H1 _ I1 (turn n σ1 H1 w1)) fun b s2 ⟨H2, I2, q2⟩ => ?_)
  cases b with
  | true =>
    obtain ⟨N, hN, q2⟩ := q2
    rw [if_pos rfl]
    refine wpAny_passesOwn hp (thn (hb pins s2 σ1 H2 _ I2 q2) fun f s3 q3 => ?_)
    cases f with
    | next =>
      obtain ⟨σ3, H3, I3, n3⟩ := q3
      obtain ⟨m', hm, w3⟩ := hN σ3 H3 n3
      exact ⟨m', hm, σ3, H3, I3, w3⟩
    | cont =>
      obtain ⟨σ3, H3, I3, n3⟩ := q3
      obtain ⟨m', hm, w3⟩ := hN σ3 H3 n3
      exact ⟨m', hm, σ3, H3, I3, w3⟩
    | brk => exact q3
    | ret v => exact q3
  | false =>
    rw [if_neg Bool.false_ne_true]
    exact wpAny_execs_nil ⟨σ1, H2, I2, q2⟩
end
structure It where
  go : Nat → Hp → Prop
  yld : Nat → Hp → V → Hp → Prop
  stop : Nat → Hp → Prop
def FpOk (X : Cx) (pins : List (Addr × Obj)) (H : Hp) (b : Addr) : Prop :=
  H b = none ∧ b ≠ X.env.locals ∧ b ∉ X.fs ∧ (b ∈ X.ex ∨ X.s₀.heap.objs.size ≤ b) ∧ (∀ x c, X.env.cells.lookup x = some c → c ≠ b) ∧ ∀ p ∈ X.pn ++ pins, p.1 ≠ b
theorem Inv.fpOk {X : Cx} {pins : List (Addr × Obj)} {σ : St} {H H' : Hp} {s : Shared} {b : Addr} (I : Inv X pins σ H s) (hb : s.heap.objs.size ≤ b) (hn : H' b = none) : FpOk X pins H' b := by
  refine ⟨hn, Nat.ne_of_gt (Nat.lt_of_lt_of_le I.lt hb), I.nofs hb, .inr (Nat.le_trans I.sz hb), fun x c e z => ?_, fun p hp z => ?_⟩
  · obtain ⟨v, q⟩ := I.cell x c e
    exact absurd (Nat.lt_of_lt_of_le q.lt (by rw [z]; exact hb)) (Nat.lt_irrefl _)
  · exact absurd (Nat.lt_of_lt_of_le (Heap.lt_size (I.pin p hp).1) (by rw [z]; exact hb)) (Nat.lt_irrefl _)
structure Turn (P : Program) (w : World) (K : PySem.W.Frag) (tg : Expr) (J : It) (fp : List Addr) (it : Addr) (tn : Nat → Heap → Prop) : Prop where
  mem : it ∈ fp
  obj : ∀ i h, tn i h → ∀ b ∈ fp, ∃ o, h.get? b = some o ∧ ∀ v, o.data ≠ .cell v
  keep : ∀ i h h', tn i h → (∀ b ∈ fp, ∀ o, h.get? b = some o → h'.get? b = some o) → tn i h'
  item : ∀ (X : Cx), X.prog = P → X.w = w → X.K = K → X.calm = true → ∀ (i : Nat) (pins : List (Addr × Obj)) (s : Shared) (σ : St) (H : Hp) (E : Value → Shared → Prop), Inv X pins σ H s → (∀ b ∈ fp, FpOk X pins H b) → tn i s.heap → J.go i H →
    wpAny (model P w) X.A (pyNext (.ref it)) (fun r s1 => ∃ u, r = some u ∧
      wpAny (model P w) X.A (letOwnedTupleGo tg (.ref it) u) (fun _ s2 => ∃ x H', Inv X pins σ H' s2 ∧ RelV x u ∧ J.yld i H x H' ∧ tn (i + 1) s2.heap ∧ ∀ b ∈ fp, H' b = none) E s1) E s
  done : ∀ (X : Cx), X.prog = P → X.w = w → X.K = K → X.calm = true → ∀ (i : Nat) (pins : List (Addr × Obj)) (s : Shared) (σ : St) (H : Hp) (E : Value → Shared → Prop), Inv X pins σ H s → (∀ b ∈ fp, FpOk X pins H b) → tn i s.heap → J.stop i H →
    wpAny (model P w) X.A (pyNext (.ref it)) (fun r s1 => r = none ∧ Inv X pins σ H s1) E s
  self : ∀ (A : Around) (i : Nat) (s : Shared) (Q : Value → Shared → Prop) (E : Value → Shared → Prop), tn i s.heap → Q (.ref it) s → wpAny (model P w) A (pyIter (.ref it)) Q E s
abbrev TI := St → Hp → (It → Hp → Prop) → Prop
def PIE (X : Cx) (pins : List (Addr × Obj)) (σ : St) (tg : Expr) (R : It → Hp → Prop) (itv : Value) (s2 : Shared) : Prop :=
  ∃ (it : Addr) (fp : List Addr) (tn : Nat → Heap → Prop) (J : It) (H' : Hp), itv = .ref it ∧ Inv X pins σ H' s2 ∧ Turn X.prog X.w X.K tg J fp it tn ∧ tn 0 s2.heap ∧ (∀ b ∈ fp, FpOk X pins H' b) ∧ R J H'
def PI (X : Cx) (tg iter : Expr) (wi : TI) : Prop :=
  ∀ (pins : List (Addr × Obj)) (s : Shared) (σ : St) (H : Hp) (R : It → Hp → Prop), Inv X pins σ H s → wi σ H R →
    wpAny (model X.prog X.w) X.A (eval iter X.env) (fun v s1 => wpAny (model X.prog X.w) X.A (pyIter v) (PIE X pins σ tg R) X.xe s1) X.xe s
theorem go_of {M : Model} {A : Around} {E : Value → Shared → Prop} {s : Shared} {tg : Expr} {it : Addr} {u : Value} {o : Obj} {n : String} {vs : Array Value} {Q : Unit → Shared → Prop} (ho : s.heap.get? it = some o) (hc : o.cls = .type n) (hd : o.data = .fields vs)
    (hn : ["enumerate", "zip", "dict_itemiterator", "dict_reverseitemiterator", "odict_iterator", "itertools.zip_longest", "itertools.pairwise"].contains n = false) (hQ : Q () s) : wpAny M A (letOwnedTupleGo tg (.ref it) u) Q E s := by
  unfold letOwnedTupleGo
  cases tg <;> first
    | exact wpAny_pure hQ
    | (cases u <;> first
        | exact wpAny_pure hQ
        | (refine wpAny_bind (wpAny_load ho ?_)
           rw [hc, hd]
           show wpAny M A (if (["enumerate", "zip", "dict_itemiterator", "dict_reverseitemiterator", "odict_iterator", "itertools.zip_longest", "itertools.pairwise"].contains n && vs[0]? == some (rawInt _)) = true then _ else _) Q E s
           rw [if_neg (by intro h; rw [hn, Bool.false_and] at h; cases h)]
           exact wpAny_pure hQ))
def Itl (K : PySem.W.Frag) (a : Addr) : It :=
  ⟨fun i H => ∃ xs x, SqL K H a xs ∧ xs[i]? = some x, fun i H x H' => H' = H ∧ ∀ xs, SqL K H a xs → xs[i]? = some x, fun i H => ∃ xs, SqL K H a xs ∧ xs.length ≤ i⟩
def Itt (K : PySem.W.Frag) (a : Addr) : It :=
  ⟨fun i H => ∃ xs x, SqT K H a xs ∧ xs[i]? = some x, fun i H x H' => H' = H ∧ ∀ xs, SqT K H a xs → xs[i]? = some x, fun i H => ∃ xs, SqT K H a xs ∧ xs.length ≤ i⟩
def Itr (lo : Int) (n : Nat) : It := ⟨fun i _ => i < n, fun i H x H' => H' = H ∧ x = .int (lo + i), fun i _ => n ≤ i⟩
theorem turn_list {P : Program} {w : World} {K : PySem.W.Frag} {tg : Expr} (a it : Addr) : Turn P w K tg (Itl K a) [it] it (fun i h => h.IsListIter it a i) where
  mem := by simp
  obj := fun i h st b hb => by
    have e : b = it := by simpa using hb
    subst e
    obtain ⟨o, e, c, d⟩ := st
    exact ⟨o, e, fun v z => by rw [d] at z; cases z⟩
  keep := fun i h h' st k => st.at fun o e => k it (by simp) o e
  item := by
    intro X hP hw hK hc i pins s σ H E I hf st hg
    subst hP hw hK
    obtain ⟨xs, x, hq, hx⟩ := hg
    obtain ⟨its, rv, p, hz⟩ := I.list hq
    obtain ⟨u, hu, ru⟩ := rv.get hx
    obtain ⟨f0, f1, f2, f3, f4, f5⟩ := hf it (by simp)
    refine wpAny_pyNext_list_item st p.isList (x := u) (by simpa using hu) fun h' st' sb => ?_
    have I1 : Inv X pins σ H { s with heap := h' } := I.turned (t' := s.toks) (fun b o hb e => (sb.2 b hb).trans e) f0 f1 f3 f4 f5
    obtain ⟨o, e, c, d⟩ := id st'
    exact ⟨u, rfl, go_of (s := { s with heap := h' }) e c d (by decide) ⟨x, H, I1, ru, ⟨rfl, fun ys hy => by rw [I.list_inj hy hq]; exact hx⟩, st', fun b hb => (hf b hb).1⟩⟩
  done := by
    intro X hP hw hK hc i pins s σ H E I hf st hg
    subst hP hw hK
    obtain ⟨xs, hq, hx⟩ := hg
    obtain ⟨its, rv, p, hz⟩ := I.list hq
    obtain ⟨f0, f1, f2, f3, f4, f5⟩ := hf it (by simp)
    have hl := rv.length
    exact wpAny_pyNext_list_end (I.ok.hd hc) st p.isList (by simp; omega) fun h' eb => ⟨rfl, I.turned (t' := s.toks) (fun b o hb e => eb b o hb e) f0 f1 f3 f4 f5⟩
  self := fun _ _ _ _ _ st h => wpAny_pyIter_listiter st h
theorem turn_tuple {P : Program} {w : World} {K : PySem.W.Frag} {tg : Expr} (a it : Addr) : Turn P w K tg (Itt K a) [it] it (fun i h => h.IsTupleIter it a i) where
  mem := by simp
  obj := fun i h st b hb => by
    have e : b = it := by simpa using hb
    subst e
    obtain ⟨o, e, c, d⟩ := st
    exact ⟨o, e, fun v z => by rw [d] at z; cases z⟩
  keep := fun i h h' st k => st.at fun o e => k it (by simp) o e
  item := by
    intro X hP hw hK hc i pins s σ H E I hf st hg
    subst hP hw hK
    obtain ⟨xs, x, hq, hx⟩ := hg
    obtain ⟨its, rv, p, hz⟩ := I.tuple hq
    obtain ⟨u, hu, ru⟩ := rv.get hx
    obtain ⟨f0, f1, f2, f3, f4, f5⟩ := hf it (by simp)
    refine wpAny_pyNext_tuple_item st (show s.heap.IsTuple a its.toArray from p) (x := u) (by simpa using hu) fun h' st' sb => ?_
    have I1 : Inv X pins σ H { s with heap := h' } := I.turned (t' := s.toks) (fun b o hb e => (sb.2 b hb).trans e) f0 f1 f3 f4 f5
    obtain ⟨o, e, c, d⟩ := id st'
    exact ⟨u, rfl, go_of (s := { s with heap := h' }) e c d (by decide) ⟨x, H, I1, ru, ⟨rfl, fun ys hy => by rw [I.tuple_inj hy hq]; exact hx⟩, st', fun b hb => (hf b hb).1⟩⟩
  done := by
    intro X hP hw hK hc i pins s σ H E I hf st hg
    subst hP hw hK
    obtain ⟨xs, hq, hx⟩ := hg
    obtain ⟨its, rv, p, hz⟩ := I.tuple hq
    obtain ⟨f0, f1, f2, f3, f4, f5⟩ := hf it (by simp)
    have hl := rv.length
    exact wpAny_pyNext_tuple_end (I.ok.hd hc) st (show s.heap.IsTuple a its.toArray from p) (by simp; omega) fun h' eb => ⟨rfl, I.turned (t' := s.toks) (fun b o hb e => eb b o hb e) f0 f1 f3 f4 f5⟩
  self := fun _ _ _ _ _ st h => wpAny_pyIter_tupleiter st h
theorem turn_range {P : Program} {w : World} {K : PySem.W.Frag} {tg : Expr} (it : Addr) (lo : Int) (n : Nat) : Turn P w K tg (Itr lo n) [it] it (fun i h => IsRangeIter h it (lo + (i : Nat) * 1) ((n : Int) - (i : Nat)) 1) where
  mem := by simp
  obj := fun i h st b hb => by
    have e : b = it := by simpa using hb
    subst e
    exact ⟨_, st, fun v z => by
      have z' : Data.fields _ = Data.cell v := z
      cases z'⟩
  keep := fun i h h' st k => k it (by simp) _ st
  item := by
    intro X hP hw hK hc i pins s σ H E I hf st hg
    subst hP hw hK
    obtain ⟨f0, f1, f2, f3, f4, f5⟩ := hf it (by simp)
    have W := Walks.range (prog := X.prog) (w := X.w) (I.ok.hd hc) it lo 1 n
    refine W.item i s _ _ hg st fun v h' tk hv st' kk => ?_
    obtain ⟨t, rfl⟩ := hv
    have I1 : Inv X pins σ H { s with heap := h', toks := tk } := I.turned (fun b o hb e => kk b o (by simpa using hb) e) f0 f1 f3 f4 f5
    refine ⟨_, rfl, go_of (s := { s with heap := h', toks := tk }) (n := "range_iterator") st' rfl rfl (by decide) ⟨.int (lo + i), H, I1, ⟨t, ?_⟩, ⟨rfl, rfl⟩, st', fun b hb => (hf b hb).1⟩⟩
    rw [Int.mul_one]
  done := by
    intro X hP hw hK hc i pins s σ H E I hf st hg
    subst hP hw hK
    obtain ⟨f0, f1, f2, f3, f4, f5⟩ := hf it (by simp)
    exact wpAny_pyNext_range_end (I.ok.hd hc) st (by have : n ≤ i := hg; omega) fun h' eb => ⟨rfl, I.turned (t' := s.toks) (fun b o hb e => eb b o hb e) f0 f1 f3 f4 f5⟩
  self := fun _ _ _ _ _ st h => wpAny_pyIter_rangeiter st h
end L2
namespace L2
open PySem PySem.Spec PyProof.Rows
section
variable {X : Cx} {tg : Expr}
def iList (K : PySem.W.Frag) (tl : TE) : TI := fun σ H R => tl σ H fun x H1 => ∃ a, x = .ref a ∧ (∃ xs, SqL K H1 a xs) ∧ R (Itl K a) H1
def iTup (K : PySem.W.Frag) (tl : TE) : TI := fun σ H R => tl σ H fun x H1 => ∃ a, x = .ref a ∧ (∃ xs, SqT K H1 a xs) ∧ R (Itt K a) H1
theorem pi_list {l : Expr} {tl : TE} (hl : PE X l tl) : PI X tg l (iList X.K tl) := by
  intro pins s σ H R I h
  refine thn (hl pins s σ H _ I h) fun v s1 ⟨x, H1, I1, r1, q1⟩ => ?_
  obtain ⟨a, e, ⟨xs, hq⟩, q⟩ := q1
  subst e
  cases r1
  obtain ⟨its, rv, p, hz⟩ := I1.list hq
  refine wpAny_pyIter_list p.isList ?_
  refine ⟨s1.heap.objs.size, [s1.heap.objs.size], _, _, H1, rfl, I1.kept (t' := s1.toks) fun b o e => Heap.get?_push_of_some _ e, turn_list a _, ⟨_, Heap.get?_push_size _ rfl, rfl, rfl⟩, fun b hb => ?_, q⟩
  have e : b = s1.heap.objs.size := by simpa using hb
  subst e
  exact I1.fpOk (Nat.le_refl _) (I1.hok.fresh (Nat.le_refl _))
theorem pi_tup {l : Expr} {tl : TE} (hl : PE X l tl) : PI X tg l (iTup X.K tl) := by
  intro pins s σ H R I h
  refine thn (hl pins s σ H _ I h) fun v s1 ⟨x, H1, I1, r1, q1⟩ => ?_
  obtain ⟨a, e, ⟨xs, hq⟩, q⟩ := q1
  subst e
  cases r1
  obtain ⟨its, rv, p, hz⟩ := I1.tuple hq
  refine wpAny_pyIter_tuple (show s1.heap.IsTuple a its.toArray from p) ?_
  refine ⟨s1.heap.objs.size, [s1.heap.objs.size], _, _, H1, rfl, I1.kept (t' := s1.toks) fun b o e => Heap.get?_push_of_some _ e, turn_tuple a _, ⟨_, Heap.get?_push_size _ rfl, rfl, rfl⟩, fun b hb => ?_, q⟩
  have e : b = s1.heap.objs.size := by simpa using hb
  subst e
  exact I1.fpOk (Nat.le_refl _) (I1.hok.fresh (Nat.le_refl _))
theorem range_it {pins : List (Addr × Obj)} {σ : St} {H : Hp} {s : Shared} {R : It → Hp → Prop} {E : Value → Shared → Prop} {lo hi : Int} {t u v : Tok} {tk : Nat} (I : Inv X pins σ H s) (h1 : -(2 ^ 62) ≤ lo) (h2 : lo < 2 ^ 62) (h3 : -(2 ^ 62) ≤ hi) (h4 : hi < 2 ^ 62)
    (q : R (Itr lo (hi - lo).toNat) H) : wpAny (model X.prog X.w) X.A (pyIter (.ref s.heap.objs.size)) (PIE X pins σ tg R) E { s with heap := s.heap.push { cls := .type "range", data := .fields #[.int lo t, .int hi u, .int 1 v] }, toks := tk } := by
  refine wpAny_pyIter_range (IsRange.new ..) (small_one h1 h2 h3 h4) ?_
  have I1 : Inv X pins σ H { s with heap := s.heap.push { cls := .type "range", data := .fields #[.int lo t, .int hi u, .int 1 v] }, toks := tk } := I.kept fun b o e => Heap.get?_push_of_some _ e
  refine ⟨(s.heap.push { cls := .type "range", data := .fields #[.int lo t, .int hi u, .int 1 v] }).objs.size, [(s.heap.push { cls := .type "range", data := .fields #[.int lo t, .int hi u, .int 1 v] }).objs.size], _, _, H, rfl,
    I1.kept (t' := tk) fun b o e => Heap.get?_push_of_some _ e, turn_range _ lo (hi - lo).toNat, ?_, fun b hb => ?_, q⟩
  · have e1 : lo + ((0 : Nat) : Int) * 1 = lo := by simp
    have e2 : (((hi - lo).toNat : Nat) : Int) - ((0 : Nat) : Int) = Builtin.Range.rangeSize lo hi 1 := by rw [rangeSize_one]; split <;> omega
    show IsRangeIter _ _ (lo + ((0 : Nat) : Int) * 1) ((((hi - lo).toNat : Nat) : Int) - ((0 : Nat) : Int)) 1
    rw [e1, e2]
    exact Heap.get?_push_size _ rfl
  · have e : b = (s.heap.push { cls := .type "range", data := .fields #[.int lo t, .int hi u, .int 1 v] }).objs.size := by simpa using hb
    subst e
    exact I1.fpOk (Nat.le_refl _) (I1.hok.fresh (Nat.le_refl _))
def iRng1 (ta : TA) : TI := fun σ H R => ta σ H fun vs H1 => ∃ j : Int, vs = [.int j] ∧ -(2 ^ 62) ≤ j ∧ j < 2 ^ 62 ∧ R (Itr 0 j.toNat) H1
def iRng2 (ta : TA) : TI := fun σ H R => ta σ H fun vs H1 => ∃ i j : Int, vs = [.int i, .int j] ∧ (-(2 ^ 62) ≤ i ∧ i < 2 ^ 62 ∧ -(2 ^ 62) ≤ j ∧ j < 2 ^ 62) ∧ R (Itr i (j - i).toNat) H1
theorem pi_range1 {a : Expr} {ta : TA} {p pos : Pos} (hg : Gl X "range") (hm : X.mg "range" = none) (ha : PA X [a] ta) (hs : starEach [a] X.env = [(false, eval a X.env)] := by rfl) : PI X tg (.Call (.Name "range" p) [a] [] pos) (iRng1 ta) := by
  intro pins s σ H R I h
  refine Call_ (ld_blt I hg hm boot_range (PyProof.Rows.callWith_type1 (thn (ha pos pins s σ H _ I h) fun us s1 ⟨vs, H1, I1, r1, q1⟩ => ?_) hs rfl))
  obtain ⟨j, e, q1, q2, q⟩ := q1
  subst e
  cases r1 with
  | cons r rr =>
    cases rr
    obtain ⟨t, rfl⟩ := r
    exact call_range_1 (range_it I1 (by omega) (by omega) q1 q2 (by simpa using q))
def tFor (wi : TI) (g : TG) (tb : TS) : TS := fun D σ H => wi σ H fun J H1 => ∃ W : Nat → Nat → St → Hp → Prop, (∃ m, W 0 m σ H1) ∧ ∀ i m σ H, W i m σ H →
  (J.stop i H ∧ D.nx σ H) ∨ (J.go i H ∧ ∃ N : St → Hp → Prop, (∀ σ' H', N σ' H' → ∃ m', m' < m ∧ W (i + 1) m' σ' H') ∧ ∀ x H', J.yld i H x H' → g x σ H' fun σ2 H2 => tb { D with nx := N, ct := N, bk := D.nx } σ2 H2)
def pinsAt (fp : List Addr) (h : Heap) : List (Addr × Obj) := fp.filterMap fun b => (h.get? b).map fun o => (b, o)
theorem mem_pinsAt {fp : List Addr} {h : Heap} {b : Addr} {o : Obj} (hb : b ∈ fp) (e : h.get? b = some o) : (b, o) ∈ pinsAt fp h := List.mem_filterMap.mpr ⟨b, hb, by rw [e]; rfl⟩
theorem of_pinsAt {fp : List Addr} {h : Heap} {p : Addr × Obj} (hp : p ∈ pinsAt fp h) : p.1 ∈ fp ∧ h.get? p.1 = some p.2 := by
  obtain ⟨b, hb, e⟩ := List.mem_filterMap.mp hp
  cases q : h.get? b with
  | none => rw [q] at e; cases e
  | some o =>
    rw [q] at e
    have e' : (b, o) = p := Option.some.inj e
    subst e'
    exact ⟨hb, q⟩
theorem Inv.pinned {pins : List (Addr × Obj)} {σ : St} {H : Hp} {s : Shared} {fp : List Addr} (I : Inv X pins σ H s) (hf : ∀ b ∈ fp, FpOk X pins H b) (ho : ∀ b ∈ fp, ∃ o, s.heap.get? b = some o ∧ ∀ v, o.data ≠ .cell v) : Inv X (pins ++ pinsAt fp s.heap) σ H s :=
  I.pins_of fun p hp => (List.mem_append.mp hp).elim (fun z => I.pin p (List.mem_append_right _ z)) fun z => by
    obtain ⟨hb, e⟩ := of_pinsAt z
    obtain ⟨f0, f1, f2, _⟩ := hf p.1 hb
    obtain ⟨o, e', d⟩ := ho p.1 hb
    rw [e] at e'; cases e'
    exact ⟨e, f0, f1, f2, d⟩
theorem Inv.unpinned {pins pl : List (Addr × Obj)} {σ : St} {H : Hp} {s : Shared} (I : Inv X (pins ++ pl) σ H s) : Inv X pins σ H s := I.pins_of fun p hp => I.pin p (List.mem_append_right _ (List.mem_append_left _ hp))
theorem ps_for {iter : Expr} {body : List Stmt} {wi : TI} {g : TG} {tb : TS} {pos : Pos} (hp : PassesOwn (model X.prog X.w) X.A X.env X.xe) (hc : X.calm = true) (hi : PI X tg iter wi) (hg : PG X tg g) (hb : PSs X body tb)
    (hs : ∀ x, foldedSetIterable iter X.env x = pure x := by intro _; rfl) : PS X (.For tg iter body [] pos) (tFor wi g tb) := by
  intro pins s σ H D I h
  refine wpAny_For (thn (hi pins s σ H _ I h) fun v s1 h1 => thn h1 fun itv s2 h2 => ?_) hs
  obtain ⟨it, fp, tn, J, H2, e, I2, T, st2, f2, W, ⟨m0, w0⟩, turn⟩ := h2
  subst e
  -- what stays true of the iterator's objects through the loop
  have stat : ∀ {H' : Hp}, (∀ b ∈ fp, H' b = none) → ∀ b ∈ fp, FpOk X pins H' b := fun hn b hb => ⟨hn b hb, (f2 b hb).2⟩
  refine codeAny_forLoop_any (fun n s' => ∃ i σ' H', Inv X pins σ' H' s' ∧ tn i s'.heap ∧ (∀ b ∈ fp, H' b = none) ∧ W i n σ' H') ?_ m0 ⟨0, σ, H2, I2, st2, fun b hb => (f2 b hb).1, w0⟩
  rintro n s3 ⟨i, σ3, H3, I3, st3, fr3, w3⟩
  rcases turn i n σ3 H3 w3 with ⟨stop, qn⟩ | ⟨go, N, hN, step⟩
  · refine wpAny_passesOwn hp (thn (T.done X rfl rfl rfl hc i pins s3 σ3 H3 X.xe I3 (stat fr3) st3 stop) fun r s4 ⟨hr, I4⟩ => ?_)
    subst hr
    exact wpAny_execs_nil ⟨σ3, H3, I4, qn⟩
  · refine wpAny_passesOwn hp (thn (T.item X rfl rfl rfl hc i pins s3 σ3 H3 X.xe I3 (stat fr3) st3 go) fun r s4 ⟨u, hr, h4⟩ => ?_)
    subst hr
    refine wpAny_passesOwn hp (thn h4 fun _ s5 ⟨x, H5, I5, r5, y5, st5, fr5⟩ => ?_)
    have I5' := I5.pinned (stat fr5) (T.obj _ _ st5)
    refine wpAny_passesOwn hp (thn (hg _ s5 σ3 H5 x u _ I5' r5 (step x H5 y5)) fun _ s6 ⟨σ6, H6, I6, q6⟩ => ?_)
    refine wpAny_passesOwn hp (thn (hb _ s6 σ6 H6 _ I6 q6) fun f s7 q7 => ?_)
    have again : ∀ {σ7 : St} {H7 : Hp}, Inv X (pins ++ pinsAt fp s5.heap) σ7 H7 s7 → N σ7 H7 → ∃ m, m < n ∧ ∃ i σ' H', Inv X pins σ' H' s7 ∧ tn i s7.heap ∧ (∀ b ∈ fp, H' b = none) ∧ W i m σ' H' := fun {σ7 H7} I7 n7 => by
      obtain ⟨m', hm, w7⟩ := hN σ7 H7 n7
      refine ⟨m', hm, i + 1, σ7, H7, I7.unpinned, T.keep _ _ _ st5 fun b hb o e => (I7.pin (b, o) (List.mem_append_right _ (List.mem_append_right _ (mem_pinsAt hb e)))).1, fun b hb => ?_, w7⟩
      obtain ⟨o, e, d⟩ := T.obj _ _ st5 b hb
      exact (I7.pin (b, o) (List.mem_append_right _ (List.mem_append_right _ (mem_pinsAt hb e)))).2.1
    cases f with
    | next => obtain ⟨σ7, H7, I7, n7⟩ := q7; exact again I7 n7
    | cont => obtain ⟨σ7, H7, I7, n7⟩ := q7; exact again I7 n7
    | brk => obtain ⟨σ7, H7, I7, q7⟩ := q7; exact ⟨σ7, H7, I7.unpinned, q7⟩
    | ret v => obtain ⟨x7, σ7, H7, I7, r7, q7⟩ := q7; exact ⟨x7, σ7, H7, I7.unpinned, r7, q7⟩
end
end L2
namespace L2
open PySem PySem.Spec PyProof.Rows
abbrev R2 := V → V → Hp → VK → Prop
def OpR (X : Cx) (f : Value → Value → Sem Value) (r : R2) : Prop :=
  ∀ (pins : List (Addr × Obj)) (s : Shared) (σ : St) (H : Hp) (x y : V) (v u : Value) (Q : VK), Inv X pins σ H s → RelV x v → RelV y u → r x y H Q →
    wpAny (model X.prog X.w) X.A (f v u) (EP X pins σ Q) X.xe s
def UnR (X : Cx) (f : Value → Sem Value) (r : V → Hp → VK → Prop) : Prop :=
  ∀ (pins : List (Addr × Obj)) (s : Shared) (σ : St) (H : Hp) (x : V) (v : Value) (Q : VK), Inv X pins σ H s → RelV x v → r x H Q →
    wpAny (model X.prog X.w) X.A (f v) (EP X pins σ Q) X.xe s
def CallR (X : Cx) (f : Value) (r : List V → Hp → VK → Prop) : Prop :=
  ∀ (pins : List (Addr × Obj)) (s : Shared) (σ : St) (H : Hp) (xs : List V) (us : List Value) (Q : VK), Inv X pins σ H s → Vals xs us → r xs H Q →
    wpAny (model X.prog X.w) X.A (call f us) (EP X pins σ Q) X.xe s
def tOp (r : R2) (ta tb : TE) : TE := fun σ H Q => ta σ H fun x H1 => tb σ H1 fun y H2 => r x y H2 Q
def tUn (r : V → Hp → VK → Prop) (ta : TE) : TE := fun σ H Q => ta σ H fun x H1 => r x H1 Q
def rI (C : Int → Int → Prop) (g : Int → Int → V) : R2 := fun x y H Q => ∃ i j, x = .int i ∧ y = .int j ∧ C i j ∧ Q (g i j) H
def rI0 (g : Int → Int → V) : R2 := fun x y H Q => ∃ i j, x = .int i ∧ y = .int j ∧ Q (g i j) H
def rU (g : Int → V) : V → Hp → VK → Prop := fun x H Q => ∃ i, x = .int i ∧ Q (g i) H
section
variable {X : Cx} {a b c : Expr} {ta tb tc : TE} {pos : Pos}
theorem binT (ha : PE X a ta) (hb : PE X b tb) {pins : List (Addr × Obj)} {s : Shared} {σ : St} {H : Hp} {R : V → V → Hp → Prop} (I : Inv X pins σ H s)
    (h : ta σ H fun x H1 => tb σ H1 fun y H2 => R x y H2) {Q : Value → Shared → Prop} {f : Value → Value → Sem Value}
    (hf : ∀ v u s2 x y H2, Inv X pins σ H2 s2 → RelV x v → RelV y u → R x y H2 → wpAny (model X.prog X.w) X.A (f v u) Q X.xe s2) :
    wpAny (model X.prog X.w) X.A (eval a X.env) (fun v s₁ => wpAny (model X.prog X.w) X.A (eval b X.env) (fun u s₂ => wpAny (model X.prog X.w) X.A (f v u) Q X.xe s₂) X.xe s₁) X.xe s := by
  refine thn (ha pins s σ H _ I h) fun v s1 ⟨x, H1, I1, r1, q1⟩ => ?_
  refine thn (hb pins s1 σ H1 _ I1 q1) fun u s2 ⟨y, H2, I2, r2, q2⟩ => ?_
  exact hf v u s2 x y H2 I2 r1 r2 q2
theorem pe_op {op : Operator} {r : R2} (ho : OpR X (binaryOp op) r) (ha : PE X a ta) (hb : PE X b tb) : PE X (.BinOp a op b pos) (tOp r ta tb) := by
  intro pins s σ H Q I h
  exact wpAny_BinOp (binT ha hb I h fun v u s2 x y H2 I2 rx ry q => ho pins s2 σ H2 x y v u Q I2 rx ry q)
theorem pe_un {op : UnaryOp} {r : V → Hp → VK → Prop} (ho : UnR X (unaryOp op) r) (ha : PE X a ta) : PE X (.UnaryOp op a pos) (tUn r ta) := by
  intro pins s σ H Q I h
  exact UnaryOp_ (thn (ha pins s σ H _ I h) fun v s1 ⟨x, H1, I1, r1, q1⟩ => ho pins s1 σ H1 x v Q I1 r1 q1)
theorem opI {f : Value → Value → Sem Value} {C : Int → Int → Prop} {g : Int → Int → Int}
    (rule : ∀ (i j : Int) (t u : Tok) (s : Shared) (Q : Value → Shared → Prop) (E : Value → Shared → Prop), C i j → Q (.int (g i j) s.toks) { s with toks := s.toks + 1 } → wpAny (model X.prog X.w) X.A (f (.int i t) (.int j u)) Q E s) :
    OpR X f (rI C fun i j => .int (g i j)) := by
  intro pins s σ H x y v u Q I rx ry h
  obtain ⟨i, j, rfl, rfl, hc, q⟩ := h
  obtain ⟨t, rfl⟩ := rx
  obtain ⟨t', rfl⟩ := ry
  exact rule i j t t' s _ _ hc ⟨.int (g i j), H, I.tok _, ⟨_, rfl⟩, q⟩
theorem opI0 {f : Value → Value → Sem Value} {g : Int → Int → Int}
    (rule : ∀ (i j : Int) (t u : Tok) (s : Shared) (Q : Value → Shared → Prop) (E : Value → Shared → Prop), Q (.int (g i j) s.toks) { s with toks := s.toks + 1 } → wpAny (model X.prog X.w) X.A (f (.int i t) (.int j u)) Q E s) :
    OpR X f (rI0 fun i j => .int (g i j)) := by
  intro pins s σ H x y v u Q I rx ry h
  obtain ⟨i, j, rfl, rfl, q⟩ := h
  obtain ⟨t, rfl⟩ := rx
  obtain ⟨t', rfl⟩ := ry
  exact rule i j t t' s _ _ ⟨.int (g i j), H, I.tok _, ⟨_, rfl⟩, q⟩
theorem opB0 {f : Value → Value → Sem Value} {g : Int → Int → Bool}
    (rule : ∀ (i j : Int) (t u : Tok) (s : Shared) (Q : Value → Shared → Prop) (E : Value → Shared → Prop), Q (.bool (g i j)) s → wpAny (model X.prog X.w) X.A (f (.int i t) (.int j u)) Q E s) :
    OpR X f (rI0 fun i j => .bl (g i j)) := by
  intro pins s σ H x y v u Q I rx ry h
  obtain ⟨i, j, rfl, rfl, q⟩ := h
  obtain ⟨t, rfl⟩ := rx
  obtain ⟨t', rfl⟩ := ry
  exact rule i j t t' s _ _ ⟨.bl (g i j), H, I, rfl, q⟩
def CPow (i j : Int) : Prop := 0 ≤ j ∧ j ≤ 1000000 ∧ i.natAbs < 2 ^ 64
def CMul (i j : Int) : Prop := (-(2 ^ 64) < i ∧ i < 2 ^ 64) ∨ (-(2 ^ 64) < j ∧ j < 2 ^ 64)
theorem CMul.ok {i j : Int} (h : CMul i j) : IntMulOk i j := by
  rcases h with ⟨h1, h2⟩ | ⟨h1, h2⟩
  · exact .of_left (intBits_le_64 h1 h2)
  · exact .of_right (intBits_le_64 h1 h2)
theorem op_add : OpR X (binaryOp .Add) (rI0 fun i j => .int (i + j)) := opI0 fun _ _ _ _ _ _ _ q => add_int q
theorem op_sub : OpR X (binaryOp .Sub) (rI0 fun i j => .int (i - j)) := opI0 fun _ _ _ _ _ _ _ q => sub_int q
theorem op_mod : OpR X (binaryOp .Mod) (rI (fun _ j => 0 < j) fun i j => .int (i % j)) := opI fun i j _ _ _ _ _ hc q => by
  have h1 : (0 : Int) < j := hc
  exact mod_int' (by omega) (by rw [Int.fmod_eq_emod_of_nonneg i (by omega)]; exact q)
theorem op_pow : OpR X (binaryOp .Pow) (rI CPow fun i j => .int (i ^ j.toNat)) := opI fun _ _ _ _ _ _ _ hc q => pow_int_small hc.1 hc.2.1 hc.2.2 q
theorem unI {f : Value → Sem Value} {g : Int → Int}
    (rule : ∀ (i : Int) (t : Tok) (s : Shared) (Q : Value → Shared → Prop) (E : Value → Shared → Prop), Q (.int (g i) s.toks) { s with toks := s.toks + 1 } → wpAny (model X.prog X.w) X.A (f (.int i t)) Q E s) :
    UnR X f (rU fun i => .int (g i)) := by
  intro pins s σ H x v Q I rx h
  obtain ⟨i, rfl, q⟩ := h
  obtain ⟨t, rfl⟩ := rx
  exact rule i t s _ _ ⟨.int (g i), H, I.tok _, ⟨_, rfl⟩, q⟩
theorem un_neg : UnR X (unaryOp .USub) (rU fun i => .int (-i)) := unI fun _ _ _ _ _ q => neg_int q
end
def scal : V → V → Bool
  | .non, .non => true | .non, .int _ => true | .int _, .non => true | .non, .bl _ => true | .bl _, .non => true | .non, .str _ => true | .str _, .non => true
  | .int _, .int _ => true | .bl _, .bl _ => true | .str _, .str _ => true | .byt _, .byt _ => true
  | .int _, .str _ => true | .str _, .int _ => true | .bl _, .str _ => true | .str _, .bl _ => true
  | _, _ => false
def rEq : R2 := fun x y H Q => scal x y = true ∧ Q (.bl (decide (x = y))) H
def rNe : R2 := fun x y H Q => scal x y = true ∧ Q (.bl (!decide (x = y))) H
theorem dec_int {i j : Int} : decide (V.int i = V.int j) = (i == j) := by
  rw [Bool.eq_iff_iff]
  simp
theorem dec_bl {i j : Bool} : decide (V.bl i = V.bl j) = (i == j) := by
  rw [Bool.eq_iff_iff]
  simp
theorem dec_str {i j : Str} : decide (V.str i = V.str j) = (i == j) := by
  rw [Bool.eq_iff_iff]
  simp
theorem dec_byt {i j : Array UInt8} : decide (V.byt i = V.byt j) = (i.toList == j.toList) := by
  rw [Bool.eq_iff_iff]
  cases i
  cases j
  simp
section
variable {X : Cx} {a b c : Expr} {ta tb tc : TE} {pos : Pos}
theorem fin_bl {pins : List (Addr × Obj)} {σ : St} {H : Hp} {s : Shared} {Q : VK} {k k' : Bool} (I : Inv X pins σ H s) (q : Q (.bl k) H) (e : k = k') : EP X pins σ Q (.bool k') s := by
  subst e
  exact ⟨.bl k, H, I, rfl, q⟩
theorem op_eq : OpR X (compareOp .Eq) rEq := by
  intro pins s σ H x y v u Q I rx ry h
  obtain ⟨hs, q⟩ := h
  cases x with
  | non =>
    cases rx
    cases y with
    | non => cases ry; exact PySem.EqNone.eq_none_none (fin_bl I q (by simp))
    | bl j => cases ry; exact PySem.EqNone.eq_none_bool (fin_bl I q (by simp))
    | int j => obtain ⟨t', rfl⟩ := ry; exact PySem.EqNone.eq_none_int (fin_bl I q (by simp))
    | str j => obtain ⟨t', rfl⟩ := ry; exact PySem.EqNone.eq_none_str (fin_bl I q (by simp))
    | _ => exact absurd (show false = true from hs) Bool.false_ne_true
  | bl i =>
    cases rx
    cases y with
    | non => cases ry; exact PySem.EqNone.eq_bool_none (fin_bl I q (by simp))
    | bl j => cases ry; exact eq_bool (fin_bl I q dec_bl)
    | str j => obtain ⟨t', rfl⟩ := ry; exact PySem.EqMixed.eq_bool_str (fin_bl I q (by simp))
    | _ => exact absurd (show false = true from hs) Bool.false_ne_true
  | int i =>
    obtain ⟨t, rfl⟩ := rx
    cases y with
    | non => cases ry; exact PySem.EqNone.eq_int_none (fin_bl I q (by simp))
    | int j => obtain ⟨t', rfl⟩ := ry; exact eq_int (fin_bl I q dec_int)
    | str j => obtain ⟨t', rfl⟩ := ry; exact PySem.EqMixed.eq_int_str (fin_bl I q (by simp))
    | _ => exact absurd (show false = true from hs) Bool.false_ne_true
  | str i =>
    obtain ⟨t, rfl⟩ := rx
    cases y with
    | non => cases ry; exact PySem.EqNone.eq_str_none (fin_bl I q (by simp))
    | bl j => cases ry; exact PySem.EqMixed.eq_str_bool (fin_bl I q (by simp))
    | int j => obtain ⟨t', rfl⟩ := ry; exact PySem.EqMixed.eq_str_int (fin_bl I q (by simp))
    | str j => obtain ⟨t', rfl⟩ := ry; exact eq_str (fin_bl I q dec_str)
    | _ => exact absurd (show false = true from hs) Bool.false_ne_true
  | byt i =>
    obtain ⟨t, rfl⟩ := rx
    cases y with
    | byt j => obtain ⟨t', rfl⟩ := ry; exact PySem.W.eq_bytes (fin_bl I q dec_byt)
    | _ => exact absurd (show false = true from hs) Bool.false_ne_true
  | _ => cases y <;> exact absurd (show false = true from hs) Bool.false_ne_true
theorem op_ne : OpR X (compareOp .NotEq) rNe := by
  intro pins s σ H x y v u Q I rx ry h
  obtain ⟨hs, q⟩ := h
  cases x with
  | non =>
    cases rx
    cases y with
    | non => cases ry; exact PySem.EqNone.ne_none_none (fin_bl I q (by simp))
    | bl j => cases ry; exact PySem.EqNone.ne_none_bool (fin_bl I q (by simp))
    | int j => obtain ⟨t', rfl⟩ := ry; exact PySem.EqNone.ne_none_int (fin_bl I q (by simp))
    | str j => obtain ⟨t', rfl⟩ := ry; exact PySem.EqNone.ne_none_str (fin_bl I q (by simp))
    | _ => exact absurd (show false = true from hs) Bool.false_ne_true
  | bl i =>
    cases rx
    cases y with
    | non => cases ry; exact PySem.EqNone.ne_bool_none (fin_bl I q (by simp))
    | bl j => cases ry; exact ne_bool (fin_bl I q (congrArg not dec_bl))
    | str j => obtain ⟨t', rfl⟩ := ry; exact PySem.EqMixed.ne_bool_str (fin_bl I q (by simp))
    | _ => exact absurd (show false = true from hs) Bool.false_ne_true
  | int i =>
    obtain ⟨t, rfl⟩ := rx
    cases y with
    | non => cases ry; exact PySem.EqNone.ne_int_none (fin_bl I q (by simp))
    | int j => obtain ⟨t', rfl⟩ := ry; exact ne_int (fin_bl I q (congrArg not dec_int))
    | str j => obtain ⟨t', rfl⟩ := ry; exact PySem.EqMixed.ne_int_str (fin_bl I q (by simp))
    | _ => exact absurd (show false = true from hs) Bool.false_ne_true
  | str i =>
    obtain ⟨t, rfl⟩ := rx
    cases y with
    | non => cases ry; exact PySem.EqNone.ne_str_none (fin_bl I q (by simp))
    | bl j => cases ry; exact PySem.EqMixed.ne_str_bool (fin_bl I q (by simp))
    | int j => obtain ⟨t', rfl⟩ := ry; exact PySem.EqMixed.ne_str_int (fin_bl I q (by simp))
    | str j => obtain ⟨t', rfl⟩ := ry; exact ne_str (fin_bl I q (congrArg not dec_str))
    | _ => exact absurd (show false = true from hs) Bool.false_ne_true
  | byt i =>
    obtain ⟨t, rfl⟩ := rx
    cases y with
    | byt j => obtain ⟨t', rfl⟩ := ry; exact PySem.W.ne_bytes (fin_bl I q (congrArg not dec_byt))
    | _ => exact absurd (show false = true from hs) Bool.false_ne_true
  | _ => cases y <;> exact absurd (show false = true from hs) Bool.false_ne_true
theorem op_lt : OpR X (compareOp .Lt) (rI0 fun i j => .bl (decide (i < j))) := opB0 fun _ _ _ _ _ _ _ q => lt_int q
theorem op_le : OpR X (compareOp .LtE) (rI0 fun i j => .bl (decide (i ≤ j))) := opB0 fun _ _ _ _ _ _ _ q => le_int q
theorem op_gt : OpR X (compareOp .Gt) (rI0 fun i j => .bl (decide (j < i))) := opB0 fun _ _ _ _ _ _ _ q => gt_int q
theorem nomark (b : Expr) {op : CmpOp} (h : op ≠ .In := by decide) (h2 : op ≠ .NotIn := by decide) : behindInMarks op b = false := by
  have e1 : (op == CmpOp.In) = false := by cases op <;> first | rfl | exact absurd rfl h
  have e2 : (op == CmpOp.NotIn) = false := by cases op <;> first | rfl | exact absurd rfl h2
  cases b <;> simp [behindInMarks, e1, e2]
theorem pe_cmpR {op : CmpOp} {r : R2} (ho : OpR X (compareOp op) r) (ha : PE X a ta) (hb : PE X b tb) (hm : behindInMarks op b = false) : PE X (.Compare a [op] [b] pos) (tOp r ta tb) := by
  intro pins s σ H Q I h
  exact wpAny_Compare1 (binT ha hb I h fun v u s2 x y H2 I2 rx ry q => ho pins s2 σ H2 x y v u Q I2 rx ry q) hm
def tTest (t : TE) : TT := fun σ H Q => t σ H fun x H' => ∃ k, x = .bl k ∧ Q k H'
theorem pt_cmpR {op : CmpOp} {r : R2} (ho : OpR X (compareOp op) r) (ha : PE X a ta) (hb : PE X b tb) (hm : behindInMarks op b = false) : PT X (.Compare a [op] [b] pos) (tTest (tOp r ta tb)) := by
  intro pins s σ H Q I h
  refine wpAny_isTrue_Compare1 (thn (ha pins s σ H _ I h) fun v s1 ⟨x, H1, I1, r1, q1⟩ => thn (hb pins s1 σ H1 _ I1 q1) fun u s2 ⟨y, H2, I2, r2, q2⟩ =>
    thn (ho pins s2 σ H2 x y v u _ I2 r1 r2 q2) fun c s3 ⟨z, H3, I3, r3, k, e, q3⟩ => ?_) hm
  subst e
  cases r3
  exact wpAny_truthy_bool ⟨H3, I3, q3⟩
def tChain (r r' : R2) (ta tb tc : TE) : TE := fun σ H Q => ta σ H fun x H1 => tb σ H1 fun y H2 => r x y H2 fun z H3 => ∃ k, z = .bl k ∧
  (if k = true then tc σ H3 fun w' H4 => r' y w' H4 Q else Q (.bl false) H3)
theorem pe_chain {op op' : CmpOp} {r r' : R2} (ho : OpR X (compareOp op) r) (ho' : OpR X (compareOp op') r') (ha : PE X a ta) (hb : PE X b tb) (hc : PE X c tc)
    (hm : lastMarks [op, op'] [b, c] = false := by with_unfolding_all rfl) : PE X (.Compare a [op, op'] [b, c] pos) (tChain r r' ta tb tc) := by
  intro pins s σ H Q I h
  refine Compare_chain (thn (ha pins s σ H _ I h) fun v s1 ⟨x, H1, I1, r1, q1⟩ => chain_link (thn (hb pins s1 σ H1 _ I1 q1) fun u s2 ⟨y, H2, I2, r2, q2⟩ =>
    thn (ho pins s2 σ H2 x y v u _ I2 r1 r2 q2) fun d s3 ⟨z, H3, I3, r3, k, e, q3⟩ => ?_)) hm
  subst e
  cases r3
  refine wpAny_truthy_bool ?_
  cases k with
  | false => exact ite_ff ⟨.bl false, H3, I3, rfl, q3⟩
  | true => exact ite_tt (chain_last (thn (hc pins s3 σ H3 _ I3 q3) fun w' s4 ⟨z', H4, I4, r4, q4⟩ => ho' pins s4 σ H4 y z' u w' Q I4 r2 r4 q4))
theorem line63 : (sizeLine : Nat) < 2 ^ 63 := by rw [sizeLine_eq]; decide
theorem vals1 {x : V} {us : List Value} (r : Vals [x] us) : ∃ u, us = [u] ∧ RelV x u := by
  cases r with
  | cons r1 r2 => cases r2; exact ⟨_, rfl, r1⟩
theorem vals2 {x y : V} {us : List Value} (r : Vals [x, y] us) : ∃ u w', us = [u, w'] ∧ RelV x u ∧ RelV y w' := by
  cases r with
  | cons r1 r2 =>
    cases r2 with
    | cons r3 r4 => cases r4; exact ⟨_, _, rfl, r1, r3⟩
theorem call_abs : CallR X (.builtin "abs") (fun xs H Q => ∃ i, xs = [.int i] ∧ Q (.int (if i < 0 then -i else i)) H) := by
  intro pins s σ H xs us Q I r h
  obtain ⟨i, rfl, q⟩ := h
  obtain ⟨u, rfl, t, rfl⟩ := vals1 r
  exact call_abs_int fun u tk => ⟨.int (if i < 0 then -i else i), H, I.tok _, ⟨_, rfl⟩, q⟩
theorem call_max2 (hc : X.calm = true) : CallR X (.builtin "max") (fun xs H Q => ∃ i j, xs = [.int i, .int j] ∧ Q (.int (if j > i then j else i)) H) := by
  intro pins s σ H xs us Q I r h
  obtain ⟨i, j, rfl, q⟩ := h
  obtain ⟨u, w', rfl, ⟨t, rfl⟩, ⟨t', rfl⟩⟩ := vals2 r
  refine max_two_ints (I.ok.hd hc) fun h' tk k => ⟨_, H, I.kept k, ?_, q⟩
  by_cases hj : j > i
  · rw [if_pos hj, if_pos hj]; exact ⟨_, rfl⟩
  · rw [if_neg hj, if_neg hj]; exact ⟨_, rfl⟩
end
end L2
namespace L2
open PySem PySem.Spec PyProof.Rows
structure ObjM (h : Heap) (x dx C : Addr) (mA : Str → Option Value) : Prop where
  obj : h.get? x = some (PySem.W.instObj C dx)
  ns : h.Ns1 dx mA
  ne : dx ≠ x
theorem lookIn_ns {h : Heap} {dx : Addr} {mA : Str → Option Value} (n : h.Ns1 dx mA) : ∃ od, h.get? dx = some od ∧ ∀ name, PySem.W.lookIn name od = some (mA name) := by
  obtain ⟨o, es, ep, ho, hd, hk, _, hm⟩ := n
  refine ⟨o, ho, fun name => ?_⟩
  have e := hm name
  unfold nsFind findBy at e
  rw [← Array.find?_toList] at e
  unfold PySem.W.lookIn
  rw [hd]
  dsimp only
  split
  · rename_i y q
    rw [q] at e
    exact congrArg some e
  · rename_i q
    rw [q] at e
    have a : es.toList.any (·.refKey) = false := by
      rw [List.any_eq_false]
      intro y hy
      obtain ⟨z, t, hkey⟩ := hk y (Array.mem_toList_iff.mp hy)
      simp [DictEntry.refKey, hkey]
    have a' : ¬ es.toList.any (·.refKey) = true := by rw [a]; exact Bool.false_ne_true
    rw [if_neg a']
    exact congrArg some e
theorem ObjM.look {h : Heap} {x dx C : Addr} {mA : Str → Option Value} (I : ObjM h x dx C mA) : ∃ od, PySem.W.InstAt h x (PySem.W.instObj C dx) C (some od) ∧ ∀ name, PySem.W.lookIn name od = some (mA name) :=
  let ⟨od, ho, hl⟩ := lookIn_ns I.ns
  ⟨od, ⟨I.obj, rfl, rfl, ho⟩, hl⟩
section
variable {P : Program} {w : World} {H H' : Hp} {h h' : Heap} {a C dx : Addr} {fs fs' : List (Str × V)}
theorem ins_get (hok : HOk P w H h) (e : H a = some (.ins C dx fs)) : ∃ mA, ObjM h a dx C mA ∧ (∀ f, RelO (fs.lookup f) (mA f)) ∧ PySem.Within mA (fs.map (·.1)) ∧ fs.length ≤ 1000 ∧ H dx = some (.own a) := by
  obtain ⟨d, z, ne, ob, mA, n, r, q⟩ := (show ObjOk P w H h a (.ins C dx fs) from hok a _ e)
  exact ⟨mA, ⟨ob, n, ne⟩, r, q, z, d⟩
end
structure Cls (K : PySem.W.Frag) (C : Addr) : Prop where
  pg : PySem.W.plainGet K C Str.empty = true
  hd : PySem.W.hasDictIn K C = true
  po : PySem.W.plainOver K C = true
  sa : PySem.W.findIn K (.ref C) "__setattr__" = some (some (.builtin "object.__setattr__"))
theorem Cls.get {K : PySem.W.Frag} {C : Addr} (c : Cls K C) (f : Str) : PySem.W.plainGet K C f = true := c.pg
structure Con (K : PySem.W.Frag) (C : Addr) (f : Str) (v : V) (u : Value) : Prop where
  at_ : PySem.W.findIn K (.ref C) f = some (some u)
  rel : RelV v u
  get : PySem.W.specialIn K u "__get__" = some none
  cp : PySem.W.copiedNames.contains f = false
structure Meth (K : PySem.W.Frag) (C : Addr) (m : Str) (f : Addr) : Prop where
  at_ : PySem.W.findIn K (.ref C) m = some (some (.ref f))
  fn : PySem.W.isFn K (.ref f) = true
  kp : PySem.W.keepIn K (.ref f) = true
section
variable {X : Cx} {pins : List (Addr × Obj)} {σ : St} {H : Hp} {s : Shared} {A : Around} {E : Value → Shared → Prop} {Q : Value → Shared → Prop} {c : Value} {b : Bool}
inductive TyOf (K : PySem.W.Frag) (H : Hp) : V → Value → Prop where
  | non : TyOf K H .non (.type "NoneType")
  | bl (x : Bool) : TyOf K H (.bl x) (.type "bool")
  | int (i : Int) : TyOf K H (.int i) (.type "int")
  | str (x : Str) : TyOf K H (.str x) (.type "str")
  | flt (x : UInt64) : TyOf K H (.flt x) (.type "float")
  | lst {a : Addr} {xs : List V} (e : H a = some (.lst xs)) : TyOf K H (.ref a) (.type "list")
  | frz {a : Addr} {o : Obj} {xs : List V} (e : H a = some (.frz o (.lst xs))) : TyOf K H (.ref a) (.type "list")
  | tup {a : Addr} {xs : List V} (e : H a = some (.tup xs)) : TyOf K H (.ref a) (.type "tuple")
  | dK {a : Addr} {kvs : List (Key × V)} (e : H a = some (.dK kvs)) : TyOf K H (.ref a) (.type "dict")
  | dT {a : Addr} {kvs : List (List Key × V)} (e : H a = some (.dT kvs)) : TyOf K H (.ref a) (.type "dict")
  | ins {a C dx : Addr} {fs : List (Str × V)} (e : H a = some (.ins C dx fs)) (cl : Cls K C) (ha : PySem.W.findIn K (.ref C) "__class__" = some (some (.builtin "object.__class__")))
      (hn : PySem.W.specialIn K (.builtin "object.__class__") "__get__" = some (some (.builtin "getset_descriptor.__get__"))) (htk : PySem.W.takesIn K (.builtin "object.__class__") = some true)
      (hm : PySem.W.mroIn K C (.type "object") = some true) : TyOf K H (.ref a) (.ref C)
theorem isinst_ok {x : V} {u t : Value} (I : Inv X pins σ H s) (rx : RelV x u) (ty : TyOf X.K H x t) (e : PySem.W.kitOne X.K t c = some b) (h : ∀ tk, Q (.bool b) { s with toks := tk }) :
    wpAny (model X.prog X.w) A (call (.builtin "isinstance") [u, c]) Q E s := by
  cases ty with
  | non => cases (show u = Value.none from rx); exact PySem.W.kia_one PySem.W.kitx_none I.kIn True.intro e (fun z => nomatch z) h
  | bl y => cases (show u = Value.bool y from rx); exact PySem.W.kia_one PySem.W.kitx_bool I.kIn True.intro e (fun z => nomatch z) h
  | int i => obtain ⟨t, q⟩ := (show ∃ t, u = Value.int i t from rx); cases q; exact PySem.W.kia_one PySem.W.kitx_int I.kIn True.intro e (fun z => nomatch z) h
  | str y => obtain ⟨t, q⟩ := (show ∃ t, u = Value.str y t from rx); cases q; exact PySem.W.kia_one PySem.W.kitx_str I.kIn True.intro e (fun z => nomatch z) h
  | flt y => obtain ⟨t, q⟩ := (show ∃ t, u = Value.float y t from rx); cases q; exact PySem.W.kia_one PySem.W.kitx_float I.kIn True.intro e (fun z => nomatch z) h
  | @lst a xs ea =>
    cases (show u = Value.ref a from rx)
    obtain ⟨_, _, n, _, h1⟩ := (show ObjOk X.prog X.w H s.heap a (.lst xs) from I.hok a _ ea)
    exact PySem.W.kia_one PySem.W.kitx_list I.kIn ⟨_, h1, rfl⟩ e (fun z => nomatch z) h
  | @frz a ob xs ea =>
    cases (show u = Value.ref a from rx)
    obtain ⟨_, _, _, n, _, h1⟩ := (show ObjOk X.prog X.w H s.heap a (.frz ob (.lst xs)) from I.hok a _ ea)
    exact PySem.W.kia_one PySem.W.kitx_list I.kIn ⟨_, h1, rfl⟩ e (fun z => nomatch z) h
  | @tup a xs ea =>
    cases (show u = Value.ref a from rx)
    obtain ⟨_, _, _, p⟩ := (show ObjOk X.prog X.w H s.heap a (.tup xs) from I.hok a _ ea)
    obtain ⟨o, h1, h2, _⟩ := p
    exact PySem.W.kia_one PySem.W.kitx_tuple I.kIn ⟨o, h1, h2⟩ e (fun z => nomatch z) h
  | @dK a kvs ea =>
    cases (show u = Value.ref a from rx)
    obtain ⟨_, _, vs, _, p⟩ := (show ObjOk X.prog X.w H s.heap a (.dK kvs) from I.hok a _ ea)
    obtain ⟨o, es, ep, h1, h2, _⟩ := p
    exact PySem.W.kia_one PySem.W.kitx_dict I.kIn ⟨o, h1, h2.1⟩ e (fun z => nomatch z) h
  | @dT a kvs ea =>
    cases (show u = Value.ref a from rx)
    obtain ⟨_, _, xs, _, o, es, ep, h1, h2, _⟩ := (show ObjOk X.prog X.w H s.heap a (.dT kvs) from I.hok a _ ea)
    exact PySem.W.kia_one PySem.W.kitx_dict I.kIn ⟨o, h1, h2.1⟩ e (fun z => nomatch z) h
  | @ins a C dx fs ea cl ha hn htk hm =>
    cases (show u = Value.ref a from rx)
    obtain ⟨mA, O, _⟩ := ins_get I.hok ea
    obtain ⟨od, J, _⟩ := O.look
    exact PySem.W.kia_one (PySem.W.kitx_own (cl.get _) cl.hd ha hn htk hm) I.kIn J e (fun z => nomatch z) h
end
end L2
namespace L2
open PySem PySem.Spec PyProof.Rows
structure Room (k : Nat) (A : Around) : Prop where
  hd : A.handled = none
  dp : A.depth + 3 * k + 5 < recursionLimit
  un : A.units + 16 * k + 200 < cLine
theorem Room.mono {j k : Nat} {A : Around} (r : Room k A) (h : j ≤ k) : Room j A := ⟨r.hd, by have := r.dp; omega, by have := r.un; omega⟩
theorem Room.deeper {k : Nat} {A : Around} (r : Room (k + 1) A) (env : Env) : Room k (A.deeper env) :=
  ⟨r.hd, by have := r.dp; show A.depth + 1 + 3 * k + 5 < _; omega, by have := r.un; show A.units + 3 + 16 * k + 200 < _; omega⟩
theorem Room.in1 {k : Nat} {A : Around} (r : Room (k + 1) A) : Room k A.in1 :=
  ⟨r.hd, by have := r.dp; show A.depth + 3 * k + 5 < _; omega, by have := r.un; show A.units + 1 + 16 * k + 200 < _; omega⟩
theorem Room.depth {k : Nat} {A : Around} (r : Room k A) : A.depth < recursionLimit := by have := r.dp; omega
theorem Room.units {k : Nat} {A : Around} (r : Room k A) : A.units + 64 < cLine := by have := r.un; omega
def tNil : TA := fun _ H Q => Q [] H
def tCons (ta : TE) (tr : TA) : TA := fun σ H Q => ta σ H fun x H1 => tr σ H1 fun xs H2 => Q (x :: xs) H2
section
variable {X : Cx} {e : Expr} {es : List Expr} {te : TE} {t : TA} {pos : Pos}
theorem pa_nil : PA X [] tNil := fun _ _ _ _ H Q I h => Calls.spliced_nil ⟨[], H, I, .nil, h⟩
theorem pa_cons (ha : PE X e te) (hr : PA X es t) (hs : starEach (e :: es) X.env = (false, eval e X.env) :: starEach es X.env := by rfl) : PA X (e :: es) (tCons te t) := by
  intro pos pins s σ H Q I h
  rw [hs]
  show wpAny _ _ (spliced ((false, eval e X.env) :: backTo pos (starEach es X.env))) _ _ s
  refine Calls.spliced_cons (thn (ha pins s σ H _ I h) fun u s1 ⟨x, H1, I1, r1, q1⟩ => ?_)
  exact thn (hr pos pins s1 σ H1 _ I1 q1) fun us s2 ⟨xs, H2, I2, r2, q2⟩ => ⟨x :: xs, H2, I2, .cons r1 r2, q2⟩
def tTup (t : TA) : TE := fun σ H Q => t σ H fun xs H1 => xs.length ≤ sizeLine ∧ ∀ p, H1 p = none → Q (.ref p) (upd H1 p (.tup xs))
def tLst (t : TA) : TE := fun σ H Q => t σ H fun xs H1 => xs.length ≤ sizeLine ∧ ∀ p, H1 p = none → Q (.ref p) (upd H1 p (.lst xs))
theorem pe_tup {x1} (h : PA X es t) : PE X (.Tuple es x1 pos) (tTup t) := by
  intro pins s σ H Q I hq
  refine wpAny_Tuple_spliced (thn (h pos pins s σ H _ I hq) fun us s1 ⟨xs, H1, I1, r, z, q⟩ => ⟨by rw [← r.length]; exact z, ?_⟩)
  have hf : H1 s1.heap.objs.size = none := I1.hok.fresh (Nat.le_refl _)
  refine ⟨.ref s1.heap.objs.size, upd H1 s1.heap.objs.size (.tup xs), I1.laid (t' := s1.toks) (fun b u e => Heap.get?_push_of_some _ e) (Nat.le_refl _) ?_, rfl, q _ hf⟩
  exact ⟨z, us, r, ⟨_, Heap.get?_push_size _ rfl, rfl, _, rfl⟩⟩
theorem pe_lst (h : PA X es t) : PE X (.List es pos) (tLst t) := by
  intro pins s σ H Q I hq
  refine wpAny_List_spliced (thn (h pos pins s σ H _ I hq) fun us s1 ⟨xs, H1, I1, r, z, q⟩ => ⟨by rw [← r.length]; exact z, ?_⟩)
  have hf : H1 s1.heap.objs.size = none := I1.hok.fresh (Nat.le_refl _)
  refine ⟨.ref s1.heap.objs.size, upd H1 s1.heap.objs.size (.lst xs), I1.laid (t' := s1.toks) (fun b u e => Heap.get?_push_of_some _ e) (Nat.le_refl _) ?_, rfl, q _ hf⟩
  exact ⟨z, us, 0, r, Heap.get?_push_size _ rfl⟩
end
abbrev Sp := List V → Hp → VK → XK → Prop
abbrev CXT := List Env → Hp → Shared → XK → Value → Shared → Prop
structure Env0 (P : Program) (w : World) (K : PySem.W.Frag) (mg : Str → Option Value) (base : Heap) (A : Around) (outer : List Env) (s : Shared) (H : Hp) : Prop where
  frames : A.frames = some outer
  mod : Mod K mg base
  bs : ∀ b o, base.get? b = some o → s.heap.get? b = some o ∧ H b = none
  bsz : base.objs.size ≤ s.heap.objs.size
  funs : s.heap.FunFrames base outer
  frf : ∀ b ∈ frs outer, H b = none
  hok : HOk P w H s.heap
  bare : AllBare s.gens
def CE (outer : List Env) (P : Program) (w : World) (H : Hp) (s : Shared) (Q : VK) (u : Value) (s' : Shared) : Prop :=
  ∃ v H', s'.os = s.os ∧ AllBare s'.gens ∧ Un (frs outer) [] H H' s.heap s'.heap ∧ HOk P w H' s'.heap ∧ RelV v u ∧ Q v H'
def CR (CX : CXT) (outer : List Env) (P : Program) (w : World) (H : Hp) (s : Shared) (Q : VK) (E : XK) (r : Result) (s' : Shared) : Prop :=
  match r with
  | .ok (.ret u) => CE outer P w H s Q u s'
  | .ok _ => False
  | .error e => CX outer H s E e s'
structure FnOk (P : Program) (w : World) (K : PySem.W.Frag) (mg : Str → Option Value) (base : Heap) (CX : CXT) (k : Nat) (f : Addr) (fd : FuncData) (ps : List Str) (sp : Sp) : Prop where
  len : ∀ vs H Q E, sp vs H Q E → vs.length = ps.length
  run : ∀ (A : Around) (outer : List Env) (s : Shared) (H : Hp) (args : Args) (us : List Value) (vs : List V) (Q : VK) (E : XK), Room k A → Env0 P w K mg base A outer s H → BindsTo s fd args (ps.zip us) → Vals vs us → sp vs H Q E →
    codeAny (model P w) A (.call (.ref f) args) (CR CX outer P w H s Q E) s
theorem FnOk.mono {P : Program} {w : World} {K : PySem.W.Frag} {mg : Str → Option Value} {base : Heap} {CX : CXT} {j k : Nat} {f : Addr} {fd : FuncData} {ps : List Str} {sp : Sp} (F : FnOk P w K mg base CX j f fd ps sp) (h : j ≤ k) :
    FnOk P w K mg base CX k f fd ps sp := ⟨F.len, fun A outer s H args us vs Q E hr => F.run A outer s H args us vs Q E (hr.mono h)⟩
theorem Env0.in1 {P : Program} {w : World} {K : PySem.W.Frag} {mg : Str → Option Value} {base : Heap} {A : Around} {outer : List Env} {s : Shared} {H : Hp} (e : Env0 P w K mg base A outer s H) :
    Env0 P w K mg base A.in1 outer s H := ⟨e.frames, e.mod, e.bs, e.bsz, e.funs, e.frf, e.hok, e.bare⟩
section
variable {X : Cx} {pins : List (Addr × Obj)} {σ : St} {H : Hp} {s s' : Shared}
theorem Inv.env0 (I : Inv X pins σ H s) : Env0 X.prog X.w X.K X.mg X.base X.A X.stack s H :=
  ⟨I.ok.frames, I.ok.mod, I.bs, Nat.le_trans I.ok.bsz I.sz, I.stack, I.stkFree, I.hok, I.bare⟩
theorem Inv.after {Q : VK} {u : Value} (I : Inv X pins σ H s) (h : CE X.stack X.prog X.w H s Q u s') : EP X pins σ Q u s' := by
  obtain ⟨v, H', os, bare, un, hok, r, q⟩ := h
  obtain ⟨hh, g, d, t, os'⟩ := s'
  obtain rfl : os' = s.os := os
  exact ⟨v, H', I.call (h' := hh) (g' := g) (d' := d) (t' := t) (ch := []) un hok bare (fun b z => absurd z (by simp)), r, q⟩
end
def tCall (sp : Sp) (dvs : List V) (E : XK) (t : TA) : TE := fun σ H Q => t σ H fun vs H1 => sp (vs ++ dvs) H1 Q E
def Binds (K : PySem.W.Frag) (fd : FuncData) (ps : List Str) (ds : List Value) : Prop :=
  ∀ (s : Shared) (us : List Value), K.In s.heap → (us ++ ds).length = ps.length → BindsTo s fd ⟨us, []⟩ (ps.zip (us ++ ds))
theorem Binds.all {K : PySem.W.Frag} {fd : FuncData} {ps : List Str} (h : ∀ us : List Value, us.length = ps.length → bindArgs fd ⟨us, []⟩ = pure (ps.zip us)) : Binds K fd ps [] := fun s us _ hl => by
  rw [List.append_nil] at hl ⊢
  exact .of_eq (h us hl)
def Passes (CX : CXT) (X : Cx) (E : XK) : Prop := ∀ (pins : List (Addr × Obj)) (σ : St) (H : Hp) (s : Shared) (e : Value) (s' : Shared), Inv X pins σ H s → CX X.stack H s E e s' → X.xe e s'
section
variable {X : Cx} {CX : CXT} {k : Nat} {f C : Addr} {fd : FuncData} {ps : List Str} {sp : Sp} {dvs : List V} {ds : List Value} {E : XK} {x m : Str} {p pos apos : Pos} {e o : Expr} {es : List Expr} {ta : TE} {t : TA}
theorem run_fn {pins : List (Addr × Obj)} {σ : St} {H : Hp} {s : Shared} {Q : VK} {us : List Value} {vs : List V} (F : FnOk X.prog X.w X.K X.mg X.base CX k f fd ps sp) (hr : Room k X.A) (hb : Binds X.K fd ps ds) (hd : Vals dvs ds) (hx : Passes CX X E)
    (I : Inv X pins σ H s) (r : Vals vs us) (h : sp (vs ++ dvs) H Q E) : wpAny (model X.prog X.w) X.A (call (.ref f) us) (EP X pins σ Q) X.xe s := by
  have r2 : Vals (vs ++ dvs) (us ++ ds) := r.append hd
  have hl : (us ++ ds).length = ps.length := by rw [← r2.length]; exact F.len _ _ _ _ h
  refine wpAny_call (codeAny_mono (F.run X.A X.stack s H ⟨us, []⟩ (us ++ ds) (vs ++ dvs) Q E hr I.env0 (hb s us I.kIn hl) r2 h) fun r s' hq => ?_)
  cases r with
  | error e => exact hx pins σ H s e s' I hq
  | ok fl =>
    cases fl with
    | ret u => exact I.after hq
    | next => exact False.elim hq
    | brk => exact False.elim hq
    | cont => exact False.elim hq
theorem pe_call (F : FnOk X.prog X.w X.K X.mg X.base CX k f fd ps sp) (hr : Room k X.A) (hg : Gl X x) (hm : X.mg x = some (.ref f)) (hk : PySem.W.keepIn X.K (.ref f) = true) (hb : Binds X.K fd ps ds) (hd : Vals dvs ds) (hx : Passes CX X E)
    (ha : PA X (e :: es) t) (hdb : (x == ("__debug__" : Str)) = false := by decide) (he : starEach (e :: es) X.env = (false, eval e X.env) :: starEach es X.env := by rfl) (hpl : (backTo pos (starEach es X.env)).any (·.1) = false := by rfl) :
    PE X (.Call (.Name x p) (e :: es) [] pos) (tCall sp dvs E t) := by
  intro pins s σ H Q I h
  refine wpAny_Call_Name_kw (ld_glob I hg hm ?_ hdb)
  refine PySem.W.callWith_K (h₀ := X.base) I.ok.mod.kin hk (thn (ha pos pins s σ H _ I h) fun us s1 ⟨vs, H1, I1, r, q⟩ => ⟨I1.kIn, ?_⟩) he hpl
  exact run_fn F hr hb hd hx I1 r q
structure Mk (K : PySem.W.Frag) (C f : Addr) : Prop where
  makes : PySem.W.makesIn K C = true
  init : PySem.W.findIn K (.ref C) "__init__" = some (some (.ref f))
  fn : PySem.W.isFn K (.ref f) = true
  kp : PySem.W.keepIn K (.ref C) = true
end
section
variable {X : Cx} {CX : CXT} {k : Nat} {f C : Addr} {fd : FuncData} {ps ks : List Str} {sp : Sp} {E : XK} {x m : Str} {p pos apos kpos : Pos} {e o : Expr} {es : List Expr} {kws : List Keyword} {te ta : TE} {t tk : TA} {nm : Option Str}
structure KBinds (K : PySem.W.Frag) (fd : FuncData) (ps ks : List Str) (g : List Value → List Value → List Value) (gV : List V → List V → List V) : Prop where
  to : ∀ (s : Shared) (us ws : List Value), K.In s.heap → (g us ws).length = ps.length → BindsTo s fd ⟨us, ks.zip ws⟩ (ps.zip (g us ws))
  rel : ∀ {vs : List V} {us : List Value} {zs : List V} {ws : List Value}, Vals vs us → Vals zs ws → Vals (gV vs zs) (g us ws)
variable {g : List Value → List Value → List Value} {gV : List V → List V → List V}
end
structure FnScope (N P : List Str) (sc : Scope) : Prop where
  kind : sc.kind = .function
  co : sc.isCoroutine = false
  gen : sc.isGenerator = false
  nd : N.Nodup
  pre : N.take P.length = P
  par : ∀ x ∈ P, sc.names.lookup x = some .local ∨ sc.names.lookup x = some .cell
  nofree : ∀ y ∈ sc.names, y.2 ≠ .free
theorem bindL_out {kindOf : Str → Option NameKind} {x : Str} : ∀ {binds : List (Str × Value)} {m : Str → Option Value}, (∀ v, (x, v) ∉ binds) → bindL kindOf binds m x = m x
  | [], _, _ => rfl
  | (n, v) :: r, m, h => by
    unfold bindL
    rw [bindL_out fun w hw => h w (List.mem_cons_of_mem _ hw)]
    split
    · have : x ≠ n := by rintro rfl; exact h v List.mem_cons_self
      simp [this]
    · rfl
theorem bindC_out {kindOf : Str → Option NameKind} {x : Str} : ∀ {binds : List (Str × Value)} {m : Str → Option Value}, (∀ v, (x, v) ∉ binds) → bindC kindOf binds m x = m x
  | [], _, _ => rfl
  | (n, v) :: r, m, h => by
    unfold bindC
    rw [bindC_out fun w hw => h w (List.mem_cons_of_mem _ hw)]
    split
    · rfl
    · have : x ≠ n := by rintro rfl; exact h v List.mem_cons_self
      simp [this]
theorem bindL_get {kindOf : Str → Option NameKind} {x : Str} {v : Value} : ∀ {P : List Str} {vs : List Value} {i : Nat} {m : Str → Option Value}, P.Nodup → P[i]? = some x → vs[i]? = some v → kindOf x = some .local →
    bindL kindOf (P.zip vs) m x = some v
  | [], _, _, _, _, h, _, _ => by simp at h
  | _ :: _, [], _, _, _, _, h, _ => by simp at h
  | p :: P, w :: vs, 0, m, nd, h1, h2, hk => by
    simp at h1 h2; subst h1; subst h2
    show bindL kindOf ((p, w) :: P.zip vs) m p = _
    unfold bindL
    rw [bindL_out fun v hv => (List.nodup_cons.mp nd).1 (List.of_mem_zip hv).1, if_pos hk]
    simp
  | p :: P, w :: vs, i + 1, m, nd, h1, h2, hk => by
    show bindL kindOf ((p, w) :: P.zip vs) m x = _
    unfold bindL
    exact bindL_get (i := i) (List.nodup_cons.mp nd).2 (by simpa using h1) (by simpa using h2) hk
theorem bindC_get {kindOf : Str → Option NameKind} {x : Str} {v : Value} : ∀ {P : List Str} {vs : List Value} {i : Nat} {m : Str → Option Value}, P.Nodup → P[i]? = some x → vs[i]? = some v → kindOf x ≠ some .local →
    bindC kindOf (P.zip vs) m x = some v
  | [], _, _, _, _, h, _, _ => by simp at h
  | _ :: _, [], _, _, _, _, h, _ => by simp at h
  | p :: P, w :: vs, 0, m, nd, h1, h2, hk => by
    simp at h1 h2; subst h1; subst h2
    show bindC kindOf ((p, w) :: P.zip vs) m p = _
    unfold bindC
    rw [bindC_out fun v hv => (List.nodup_cons.mp nd).1 (List.of_mem_zip hv).1, if_neg hk]
    simp
  | p :: P, w :: vs, i + 1, m, nd, h1, h2, hk => by
    show bindC kindOf ((p, w) :: P.zip vs) m x = _
    unfold bindC
    exact bindC_get (i := i) (List.nodup_cons.mp nd).2 (by simpa using h1) (by simpa using h2) hk
def start (N : List Str) (vs : List V) : St := vs.map some ++ List.replicate (N.length - vs.length) none
def cxOf (CX : CXT) (P : Program) (w : World) (K : PySem.W.Frag) (mg : Str → Option Value) (base : Heap) (N : List Str) (qual : Str) (scope : Scope) (f : Addr) (cd : Value) (A : Around) (outer : List Env) (s : Shared) (H : Hp) (E : XK) : Cx where
  prog := P
  w := w
  K := K
  mg := mg
  base := base
  A := A.deeper (envOfC qual scope s.heap.objs.size f cd)
  N := N
  s₀ := s
  H₀ := H
  env := envOfC qual scope s.heap.objs.size f cd
  outer := outer
  stack := envOfC qual scope s.heap.objs.size f cd :: outer
  ex := []
  calm := true
  fn := fun _ => true
  pn := []
  xe := fun e s' => wpAny (model P w) (A.deeper (envOfC qual scope s.heap.objs.size f cd)) (leaving (envOfC qual scope s.heap.objs.size f cd) e) (fun _ s'' => CX outer H s E e s'') (fun e' s'' => CX outer H s E e' s'') s'
theorem cell_has {sc : Scope} {n : Nat} {x : Str} (h : sc.names.lookup x = some .cell) : ∃ c, (cellsFrom n sc.names []).lookup x = some c := by
  have q := PySem.W.cellsFrom_some sc.names n [] (.inl h)
  exact Option.isSome_iff_exists.mp q
theorem inv_start {CX : CXT} {P : Program} {w : World} {K : PySem.W.Frag} {mg : Str → Option Value} {base : Heap} {N ps : List Str} {qual : Str} {scope : Scope} {f : Addr} {cd : Value} {A : Around} {outer : List Env} {s s1 : Shared} {H : Hp} {E : XK} {us : List Value} {vs : List V}
    (S : FnScope N ps scope) (hd : A.handled = none) (e0 : Env0 P w K mg base A outer s H) (hl : vs.length = ps.length) (r : Vals vs us)
    (x : InCallC s s.heap.objs.size (bindL (envOfC qual scope s.heap.objs.size f cd).kindOf (ps.zip us) fun _ => none) (cellsFrom (s.heap.objs.size + 1) scope.names []) (bindC (envOfC qual scope s.heap.objs.size f cd).kindOf (ps.zip us) fun _ => none) s1) :
    Inv (cxOf CX P w K mg base N qual scope f cd A outer s H E) [] (start N vs) H s1 := by
  have hpl : ps.length ≤ N.length := by have := congrArg List.length S.pre; rw [List.length_take] at this; omega
  obtain ⟨h1, tk, rfl, hk⟩ := x.done
  have noA : ∀ b : Addr, b ∉ (cxOf CX P w K mg base N qual scope f cd A outer s H E).ex := fun b z => absurd (show b ∈ ([] : List Addr) from z) (by simp)
  refine ⟨⟨e0.mod, S.kind, rfl, rfl, Nat.le_refl _, fun y z c h1 h2 => ?_, fun y hy => ?_, fun y c _ h => ?_, fun _ => hd, Around.frames_deeper e0.frames, .inr ⟨rfl, rfl⟩, fun b z => absurd z (noA b), e0.bs, e0.bsz, fun b _ _ => noA b, fun b z => absurd z (noA b), e0.funs, e0.frf⟩,
    rfl, e0.bare, Un.kept hk, ⟨_, x.toInCall.ns, fun i y v h1 h2 h3 => ?_⟩, fun y c h => ⟨_, x.cell y c h⟩, e0.hok.fresh (Nat.le_refl _), fun y c h => ?_, fun p hp => absurd (show p ∈ ([] : List (Addr × Obj)) from hp) (by simp), e0.hok.kept hk, ?_⟩
  · exact name_of_addr x.apart (PySem.mem_of_lookup h1) (PySem.mem_of_lookup h2)
  · have hy : scope.names.lookup y = some .cell ∨ scope.names.lookup y = some .free := hy
    rcases hy with hy | hy
    · exact cell_has hy
    · exact absurd rfl (S.nofree _ (PySem.mem_of_lookup hy))
  · exact Nat.le_of_lt (x.above y c (PySem.mem_of_lookup h))
  · have hi : i < vs.length := by
      unfold start at h2
      by_cases hi : i < vs.length
      · exact hi
      · rw [List.getElem?_append_right (by simpa using hi)] at h2
        rw [List.getElem?_replicate] at h2
        split at h2 <;> cases h2
    have ha : vs[i]? = some v := by
      unfold start at h2
      rw [List.getElem?_append_left (by simpa using hi), List.getElem?_map] at h2
      cases e : vs[i]? with
      | none => rw [e] at h2; cases h2
      | some a => rw [e] at h2; cases h2; rfl
    obtain ⟨u, hu, rv⟩ := r.get ha
    have hp : ps[i]? = some y := by
      rw [← S.pre, List.getElem?_take_of_lt (by omega)]; exact h1
    have ndP : ps.Nodup := by rw [← S.pre]; exact S.nd.sublist (List.take_sublist _ _)
    refine ⟨u, rv, ?_⟩
    rcases S.par y (List.mem_of_getElem? hp) with k | k
    · exact .inl ⟨k, bindL_get ndP hp hu k⟩
    · obtain ⟨c, e⟩ := cell_has (n := s.heap.objs.size + 1) k
      refine .inr ⟨.inl k, c, e, ?_⟩
      have q := x.cell y c e
      rw [bindC_get ndP hp hu (by show scope.names.lookup y ≠ _; rw [k]; decide)] at q
      exact q
  · exact e0.hok.fresh (Nat.le_of_lt (x.above y c (PySem.mem_of_lookup h)))
  · unfold start
    show _ = N.length
    rw [List.length_append, List.length_map, List.length_replicate]
    omega
theorem fn_of {CX : CXT} {P : Program} {w : World} {K : PySem.W.Frag} {mg : Str → Option Value} {base : Heap} {k : Nat} {f : Addr} {name qual : Str} {params : Arguments} {body : List Stmt} {scope : Scope} {dV kV doc pm cdv ct oc : Value} {an od : Option Addr}
    {osl : Array (Option Value)} {N ps : List Str} {sp : Sp} (lk : K.lookup f = some ⟨oc, od, .func (PySem.W.fnOf name qual params body scope dV kV doc pm an cdv ct), osl⟩) (hcd : PySem.W.codeIn K cdv qual = true) (S : FnScope N ps scope)
    (len : ∀ vs H Q E, sp vs H Q E → vs.length = ps.length)
    (hbody : ∀ (A : Around) (outer : List Env) (s : Shared) (H : Hp) (vs : List V) (Q : VK) (E : XK), Room k (A.deeper (envOfC qual scope s.heap.objs.size f cdv)) → sp vs H Q E →
      ∃ t, PSs (cxOf CX P w K mg base N qual scope f cdv A outer s H E) body t ∧ t { nx := fun _ H' => Q .non H', rt := Q } (start N vs) H) :
    FnOk P w K mg base CX (k + 1) f (PySem.W.fnOf name qual params body scope dV kV doc pm an cdv ct) ps sp := by
  refine ⟨len, fun A outer s H args us vs Q E hr e0 hb r hsp => ?_⟩
  have hl := len _ _ _ _ hsp
  have KX : K.In s.heap := e0.mod.kin.keeps fun b o e => (e0.bs b o e).1
  have lim : s.heap.NoLimit := e0.mod.nolimit.keeps fun b o e => (e0.bs b o e).1
  have hkind : ∀ y ∈ ps.zip us, scope.names.lookup y.1 = some .local ∨ (scope.names.lookup y.1 = some .cell ∧ ((cellsFrom (s.heap.objs.size + 1) scope.names []).lookup y.1).isSome = true) := fun ⟨n, v⟩ hy => by
    rcases S.par n (List.of_mem_zip hy).1 with q | q
    · exact .inl q
    · exact .inr ⟨q, PySem.W.cellsFrom_some _ _ _ (.inl q)⟩
  refine codeAny_call_function hr.depth (KX _ _ lk) rfl S.co S.gen rfl (PySem.W.codeRec_of KX hcd) (hb _ _ _ _ ?_)
  refine wpAny_newFunctionEnv_cells S.kind hkind fun env he s1 x => ?_
  subst he
  refine ⟨lim.keeps x.toInCall.keep, codeAny_func ?_⟩
  obtain ⟨t, ht, hq⟩ := hbody A outer s H vs Q E (hr.deeper _) hsp
  have I : Inv (cxOf CX P w K mg base N qual scope f cdv A outer s H E) [] (start N vs) H s1 := inv_start S hr.hd e0 hl r x
  refine wpAny_mono (ht [] s1 (start N vs) H _ I hq) (fun fl s' hs => ?_) fun e s' hs => hs
  have fin : ∀ {σ' : St} {H' : Hp} {v : V} {u : Value}, Inv (cxOf CX P w K mg base N qual scope f cdv A outer s H E) [] σ' H' s' → RelV v u → Q v H' → CE outer P w H s Q u s' :=
    fun {σ' H' v u} J rv q => ⟨v, H', J.os, J.bare, J.base, J.hok, rv, q⟩
  cases fl with
  | ret u =>
    obtain ⟨v, σ', H', J, rv, q⟩ := hs
    exact fin J rv q
  | next =>
    obtain ⟨σ', H', J, q⟩ := hs
    exact fin (v := V.non) (u := Value.none) J rfl q
  | brk =>
    obtain ⟨_, _, _, q⟩ := hs
    exact False.elim q
  | cont =>
    obtain ⟨_, _, _, q⟩ := hs
    exact False.elim q
end L2
namespace L2
open PySem PySem.Spec PyProof.Rows
section
variable {X : Cx} {x : Str} {p pos : Pos} {e : Expr} {es : List Expr} {t : TA} {id T : String} {r : List V → Hp → VK → Prop}
def tCB (r : List V → Hp → VK → Prop) (t : TA) : TE := fun σ H Q => t σ H fun vs H1 => r vs H1 Q
theorem pe_callB (hc : CallR X (.builtin id) r) (hg : Gl X x) (hm : X.mg x = none) (hv : bootBuiltins x = some (.builtin id)) (ha : PA X (e :: es) t) (hn : x ≠ "__name__" := by decide) (hdb : (x == ("__debug__" : Str)) = false := by decide)
    (he : starEach (e :: es) X.env = (false, eval e X.env) :: starEach es X.env := by rfl) (hpl : (backTo pos (starEach es X.env)).any (·.1) = false := by rfl) : PE X (.Call (.Name x p) (e :: es) [] pos) (tCB r t) := by
  intro pins s σ H Q I h
  refine wpAny_Call_Name_kw (ld_blt I hg hm hv ?_ hn hdb)
  exact PyProof.Rows.callWith_builtin1 (thn (ha pos pins s σ H _ I h) fun us s1 ⟨vs, H1, I1, r1, q1⟩ => hc pins s1 σ H1 vs us Q I1 r1 q1) he hpl
theorem pe_callTy (hc : CallR X (.type T) r) (hg : Gl X x) (hm : X.mg x = none) (hv : bootBuiltins x = some (.type T)) (ha : PA X (e :: es) t) (hn : x ≠ "__name__" := by decide) (hdb : (x == ("__debug__" : Str)) = false := by decide)
    (he : starEach (e :: es) X.env = (false, eval e X.env) :: starEach es X.env := by rfl) (hpl : (backTo pos (starEach es X.env)).any (·.1) = false := by rfl) : PE X (.Call (.Name x p) (e :: es) [] pos) (tCB r t) := by
  intro pins s σ H Q I h
  refine wpAny_Call_Name_kw (ld_blt I hg hm hv ?_ hn hdb)
  exact PyProof.Rows.callWith_type1 (thn (ha pos pins s σ H _ I h) fun us s1 ⟨vs, H1, I1, r1, q1⟩ => hc pins s1 σ H1 vs us Q I1 r1 q1) he hpl
end
end L2
namespace HT
open PySem PyProof.Rows
section
variable {prog : Program} {w : World} {A : Around} {E : Value → Shared → Prop} {s : Shared}
def sIx (n d : Nat) : Option Int → Nat
  | none => d
  | some v => if v < 0 then (v + (n : Int)).toNat else min v.toNat n
theorem sIx_none (n d : Nat) : sIx n d none = d := rfl
theorem sIx_nat (n d k : Nat) : sIx n d (some (k : Int)) = min k n := by
  show (if (k : Int) < 0 then ((k : Int) + (n : Int)).toNat else min (k : Int).toNat n) = min k n
  rw [if_neg (by omega), Int.toNat_natCast]
end
end HT
namespace L2
open PySem PySem.Spec PyProof.Rows
abbrev TO := St → Hp → (Option Int → Hp → Prop) → Prop
def PO (X : Cx) (e : Option Expr) (t : TO) : Prop :=
  ∀ (pins : List (Addr × Obj)) (s : Shared) (σ : St) (H : Hp) (Q : Option Int → Hp → Prop), Inv X pins σ H s → t σ H Q →
    wpAny (model X.prog X.w) X.A (evalPart e X.env) (fun u s' => ∃ o H', Inv X pins σ H' s' ∧ IsPart u o ∧ Q o H') X.xe s
def tNoPart : TO := fun _ H Q => Q none H
def tPart (t : TE) : TO := fun σ H Q => t σ H fun x H1 => ∃ i, x = .int i ∧ Q (some i) H1
section
variable {X : Cx} {e : Expr} {te : TE} {lo hi : Option Expr} {tl th : TO} {pos p2 : Pos}
theorem po_none : PO X none tNoPart := by
  intro pins s σ H Q I h
  rw [evalPart_none]
  exact wpAny_pure ⟨none, H, I, .none, h⟩
theorem po_some (h : PE X e te) : PO X (some e) (tPart te) := by
  intro pins s σ H Q I hw
  rw [evalPart_some]
  refine thn (h pins s σ H _ I hw) fun u s1 ⟨x, H1, I1, r1, q1⟩ => ?_
  obtain ⟨i, rfl, q⟩ := q1
  obtain ⟨t, rfl⟩ := r1
  exact ⟨some i, H1, I1, .int i t, q⟩
def SlR (X : Cx) (r : V → Option Int → Option Int → Hp → VK → Prop) : Prop :=
  ∀ (pins : List (Addr × Obj)) (s : Shared) (σ : St) (H : Hp) (x : V) (v vl vu : Value) (lo hi : Option Int) (sl : Addr) (Q : VK), Inv X pins σ H s → RelV x v → s.heap.IsSliceOf sl vl vu .none → IsPart vl lo → IsPart vu hi → r x lo hi H Q →
    ∃ T id, typeLookup (.type T) "__getitem__" = pure (some (.builtin id)) ∧ s.TypeIs v T ∧ wpAny (model X.prog X.w) X.A (getItem v (.ref sl)) (EP X pins σ Q) X.xe s
def tSl (r : V → Option Int → Option Int → Hp → VK → Prop) (te : TE) (tl th : TO) : TE := fun σ H Q => te σ H fun x H1 => tl σ H1 fun l H2 => th σ H2 fun u H3 => r x l u H3 Q
theorem pe_slice {r : V → Option Int → Option Int → Hp → VK → Prop} (hr : SlR X r) (he : PE X e te) (hl : PO X lo tl) (hu : PO X hi th) : PE X (.Subscript e (.Slice lo hi none p2) pos) (tSl r te tl th) := by
  intro pins s σ H Q I h
  refine Subscript_ (thn (he pins s σ H _ I h) fun v s1 ⟨x, H1, I1, r1, q1⟩ => ?_)
  refine wpAny_Slice (thn (hl pins s1 σ H1 _ I1 q1) fun vl s2 ⟨l, H2, I2, pl, q2⟩ => thn (hu pins s2 σ H2 _ I2 q2) fun vu s3 ⟨u, H3, I3, pu, q3⟩ => ?_)
  rw [evalPart_none]
  refine wpAny_pure ?_
  have I4 : Inv X pins σ H3 { s3 with heap := s3.heap.push { cls := .type "slice", data := .fields #[vl, vu, .none] } } := I3.kept (t' := s3.toks) fun b ob q => Heap.get?_push_of_some _ q
  obtain ⟨T, id, hT, ht, hg⟩ := hr pins { s3 with heap := s3.heap.push { cls := .type "slice", data := .fields #[vl, vu, .none] } } σ H3 x v vl vu l u s3.heap.objs.size Q I4 r1 (Heap.IsSliceOf.new ..) pl pu q3
  show wpAny (model X.prog X.w) X.A (subscriptTail e (.Slice lo hi none p2) v (.ref s3.heap.objs.size)) (EP X pins σ Q) X.xe { s3 with heap := s3.heap.push { cls := .type "slice", data := .fields #[vl, vu, .none] } }
  exact tail_any (ops := [.ref s3.heap.objs.size, v]) ht hT hg (by with_unfolding_all rfl)
def cutV (xs : List V) (lo hi : Option Int) : List V := (xs.drop (HT.sIx xs.length 0 lo)).take (HT.sIx xs.length xs.length hi - HT.sIx xs.length 0 lo)
theorem cutV_length (xs : List V) (lo hi : Option Int) : (cutV xs lo hi).length ≤ xs.length := by
  unfold cutV
  rw [List.length_take, List.length_drop]
  omega
end
end L2
namespace L2
open PySem PySem.Spec PyProof.Rows
def ixN (n : Nat) (i : Int) : Option Nat := if 0 ≤ i then (if i < n then some i.toNat else none) else if -(n : Int) ≤ i then some (i + n).toNat else none
def atI {α : Type} (xs : List α) (i : Int) : Option α := (ixN xs.length i).bind fun j => xs[j]?
theorem ixN_seq {n : Nat} {i : Int} {j : Nat} (h : ixN n i = some j) : seqIndex? i n = some j ∧ j < n ∧ -(n : Int) ≤ i ∧ i < n := by
  unfold ixN at h
  by_cases h0 : 0 ≤ i
  · rw [if_pos h0] at h
    by_cases h1 : i < n
    · rw [if_pos h1] at h
      have e : i.toNat = j := Option.some.inj h
      exact ⟨by rw [seqIndex_of h0 h1, e], by omega, by omega, h1⟩
    · rw [if_neg h1] at h; cases h
  · rw [if_neg h0] at h
    by_cases h1 : -(n : Int) ≤ i
    · rw [if_pos h1] at h
      have e : (i + n).toNat = j := Option.some.inj h
      exact ⟨by rw [seqIndex_neg (by omega) h1, e], by omega, h1, by omega⟩
    · rw [if_neg h1] at h; cases h
theorem atI_get {α : Type} {xs : List α} {i : Int} {v : α} (h : atI xs i = some v) : ∃ j, seqIndex? i xs.length = some j ∧ xs[j]? = some v ∧ j < xs.length ∧ -(xs.length : Int) ≤ i ∧ i < xs.length := by
  unfold atI at h
  cases e : ixN xs.length i with
  | none => rw [e] at h; cases h
  | some j =>
    rw [e] at h
    obtain ⟨h1, h2, h3, h4⟩ := ixN_seq e
    exact ⟨j, h1, h, h2, h3, h4⟩
theorem atI_nat {α : Type} {xs : List α} {j : Nat} {v : α} (h : xs[j]? = some v) : atI xs (j : Int) = some v := by
  have hj : j < xs.length := (List.getElem?_eq_some_iff.mp h).1
  have e : ixN xs.length (j : Int) = some j := by
    unfold ixN
    rw [if_pos (by omega), if_pos (by omega)]; simp
  unfold atI; rw [e]; exact h
def PlainIx (b : Expr) : Prop := ∀ o i, subscripted b false o i = operate [o, i] (getItem o i)
def IxR (X : Cx) (r : R2) : Prop :=
  ∀ (value slice : Expr) (pins : List (Addr × Obj)) (s : Shared) (σ : St) (H : Hp) (x y : V) (v u : Value) (Q : VK), Inv X pins σ H s → RelV x v → RelV y u → r x y H Q →
    subscripted slice false v u = operate [v, u] (getItem v u) → wpAny (model X.prog X.w) X.A (subscriptTail value slice v u) (EP X pins σ Q) X.xe s
def MtR (X : Cx) (id : String) (r : V → List V → Hp → VK → Prop) : Prop :=
  ∀ (pins : List (Addr × Obj)) (s : Shared) (σ : St) (H : Hp) (x : V) (xs : List V) (v : Value) (us : List Value) (Q : VK), Inv X pins σ H s → RelV x v → Vals xs us → r x xs H Q →
    wpAny (model X.prog X.w) X.A (call (.builtin id) (v :: us)) (EP X pins σ Q) X.xe s
section
variable {X : Cx} {a b : Expr} {ta tb : TE} {pos : Pos}
theorem pe_ix {r : R2} (hr : IxR X r) (ha : PE X a ta) (hb : PE X b tb) (hs : PlainIx b) : PE X (.Subscript a b pos) (tOp r ta tb) := by
  intro pins s σ H Q I h
  exact Subscript_ (binT ha hb I h fun v u s2 x y H2 I2 rx ry q => hr a b pins s2 σ H2 x y v u Q I2 rx ry q (hs _ _))
def rIxL (K : PySem.W.Frag) : R2 := fun x y H Q => ∃ p xs i v, x = .ref p ∧ y = .int i ∧ SqL K H p xs ∧ atI xs i = some v ∧ Q v H
def rIxT (K : PySem.W.Frag) : R2 := fun x y H Q => ∃ p xs i v, x = .ref p ∧ y = .int i ∧ SqT K H p xs ∧ atI xs i = some v ∧ Q v H
theorem ix_list : IxR X (rIxL X.K) := by
  intro value slice pins s σ H x y v u Q I rx ry h hs
  obtain ⟨p, xs, i, z, rfl, rfl, hq, he, q⟩ := h
  cases rx
  obtain ⟨t, rfl⟩ := ry
  obtain ⟨its, r, pl, hz⟩ := I.list hq
  obtain ⟨j, h1, h2, h3, h4, h5⟩ := atI_get he
  obtain ⟨w, ew, rw'⟩ := r.get h2
  have hl := r.length
  have hn := line63
  have fin : EP X pins σ Q w s := ⟨z, H, I, rw', q⟩
  by_cases h0 : 0 ≤ i
  · have hj : i.toNat = j := by
      rw [seqIndex_of h0 h5] at h1
      exact Option.some.inj h1
    exact item_listR pl.isList h0 (by omega) (by rw [hj]; simpa using ew) fin hs
  · have hj : (i + (its.toArray.size : Int)).toNat = j := by
      rw [seqIndex_neg (by omega) h4] at h1
      rw [List.size_toArray, ← hl]
      exact Option.some.inj h1
    exact subscriptTail_builtinR (x := w) pl.isList.typeIs slot_list_getitem.lookup
      (wpAny_getItem_list_neg (Q := fun r s' => r = w ∧ EP X pins σ Q r s') pl.isList (by omega) (by rw [List.size_toArray] <;> omega) (by omega) (by rw [hj]; simpa using ew) ⟨rfl, fin⟩) hs
theorem ix_tup : IxR X (rIxT X.K) := by
  intro value slice pins s σ H x y v u Q I rx ry h hs
  obtain ⟨p, xs, i, z, rfl, rfl, hq, he, q⟩ := h
  cases rx
  obtain ⟨t, rfl⟩ := ry
  obtain ⟨its, r, pl, hz⟩ := I.tuple hq
  obtain ⟨j, h1, h2, h3, h4, h5⟩ := atI_get he
  obtain ⟨w, ew, rw'⟩ := r.get h2
  have hl := r.length
  have hn := line63
  have fin : EP X pins σ Q w s := ⟨z, H, I, rw', q⟩
  exact subscriptTail_builtinR (x := w) pl.typeIs slot_tuple_getitem.lookup
    (getItem_tuple (j := j) (Q := fun r s' => r = w ∧ EP X pins σ Q r s') pl (by omega) (by omega) (by rw [List.size_toArray, ← hl]; exact h1) (by simpa using ew) ⟨rfl, fin⟩) hs
theorem mapSeq_set (its : List Value) (n j : Nat) (u : Value) : Obj.mapSeq (·.setIfInBounds j u) { cls := .type "list", data := .seq its.toArray n } = { cls := .type "list", data := .seq (its.set j u).toArray n } := by
  simp [Obj.mapSeq]
theorem Inv.lst {pins : List (Addr × Obj)} {σ : St} {H : Hp} {s : Shared} {p : Addr} {xs : List V} (I : Inv X pins σ H s) (h : H p = some (.lst xs)) :
    ∃ (its : List Value) (n : Nat), Vals xs its ∧ s.heap.get? p = some { cls := .type "list", data := .seq its.toArray n } ∧ xs.length ≤ sizeLine := by
  obtain ⟨z, its, n, r, e⟩ := I.hok p _ h
  exact ⟨its, n, r, e, z⟩
theorem Inv.lstUpd {pins : List (Addr × Obj)} {σ : St} {H : Hp} {s : Shared} {p : Addr} {xs ys : List V} {its its' : List Value} {n n' : Nat} {f : Obj → Obj} (I : Inv X pins σ H s) (h : H p = some (.lst xs))
    (ho : s.heap.get? p = some { cls := .type "list", data := .seq its.toArray n }) (hf : f { cls := .type "list", data := .seq its.toArray n } = { cls := .type "list", data := .seq its'.toArray n' }) (r : Vals ys its') (hz : ys.length ≤ sizeLine) (t : Nat) :
    Inv X pins σ (upd H p (.lst ys)) { s with heap := s.heap.update p f, toks := t } := by
  have e : (s.heap.update p f).get? p = some { cls := .type "list", data := .seq its'.toArray n' } := by
    rw [Heap.get?_update_self f ho (by rw [hf] <;> rfl), hf]
  refine I.write (x := p) (e := p) (by rw [h]; trivial) (.inl rfl) (fun b u hb q => (Heap.get?_update_other _ _ (Ne.symm hb)).trans q) ⟨_, e⟩ ?_
  exact ⟨hz, its', n', r, e⟩
def rSetL : V → V → V → Hp → (Hp → Prop) → Prop := fun o i v H Q => ∃ p xs k j, o = .ref p ∧ i = .int k ∧ H p = some (.lst xs) ∧ ixN xs.length k = some j ∧ Q (upd H p (.lst (xs.set j v)))
theorem set_list : PSet X rSetL := by
  intro pins s σ H o i v ov iv u Q I ro ri rv h
  obtain ⟨p, xs, k, j, rfl, rfl, hp, hj, q⟩ := h
  cases ro
  obtain ⟨t, rfl⟩ := ri
  obtain ⟨its, n, r, ho, hz⟩ := I.lst hp
  obtain ⟨h1, h2, h3, h4⟩ := ixN_seq hj
  have hl := r.length
  have hn := line63
  have I' : Inv X pins σ (upd H p (.lst (xs.set j v))) { s with heap := s.heap.update p (Obj.mapSeq (·.setIfInBounds j u)) } :=
    I.lstUpd hp ho (mapSeq_set its n j u) (r.set rv j) (by rw [List.length_set]; exact hz) s.toks
  by_cases h0 : 0 ≤ k
  · have hk : k.toNat = j := by
      rw [seqIndex_of h0 h4] at h1
      exact Option.some.inj h1
    exact PySem.W.ki_setAt ho h0 (by omega) (by rw [List.size_toArray, ← hl]; exact h4) (by rw [hk]; exact ⟨_, I', q⟩)
  · have hk : (k + (its.toArray.size : Int)).toNat = j := by
      rw [seqIndex_neg (by omega) h3] at h1
      rw [List.size_toArray, ← hl]
      exact Option.some.inj h1
    exact PySem.W.ki_setBack ho (by omega) (by rw [List.size_toArray, ← hl]; exact h3) (by omega) (by rw [hk]; exact ⟨_, I', q⟩)
theorem slice_bounds (lo hi : Option Int) (n : Nat) : (sliceBounds lo hi none n).1 = ((HT.sIx n 0 lo : Nat) : Int) ∧ (sliceBounds lo hi none n).2.1 = ((HT.sIx n n hi : Nat) : Int) ∧ (sliceBounds lo hi none n).2.2 = 1 := by
  refine ⟨?_, ?_, rfl⟩
  · cases lo with
    | none => simp [sliceBounds, HT.sIx]
    | some i =>
      simp only [sliceBounds, HT.sIx, Option.getD_none, show (1 : Int) > 0 by decide, if_true]
      by_cases h : i < 0
      · simp only [h, if_true] <;> omega
      · simp only [h, if_false] <;> omega
  · cases hi with
    | none => simp [sliceBounds, HT.sIx]
    | some i =>
      simp only [sliceBounds, HT.sIx, Option.getD_none, show (1 : Int) > 0 by decide, if_true]
      by_cases h : i < 0
      · simp only [h, if_true] <;> omega
      · simp only [h, if_false] <;> omega
theorem slicePick_cut (its : List Value) (lo hi : Option Int) : slicePick its.toArray lo hi none = ((its.drop (HT.sIx its.length 0 lo)).take (HT.sIx its.length its.length hi - HT.sIx its.length 0 lo)).toArray := by
  obtain ⟨h1, h2, h3⟩ := slice_bounds lo hi its.toArray.size
  unfold slicePick
  rw [h1, h2, h3]
  simp only [sliceRange_one, pick_run, List.size_toArray] <;> rfl
def rSlL (K : PySem.W.Frag) : V → Option Int → Option Int → Hp → VK → Prop := fun x lo hi H Q => ∃ a xs, x = .ref a ∧ SqL K H a xs ∧ ∀ p, H p = none → Q (.ref p) (upd H p (.lst (cutV xs lo hi)))
theorem sl_list : SlR X (rSlL X.K) := by
  intro pins s σ H x v vl vu lo hi sl Q I rx hs pl pu h
  obtain ⟨a, xs, rfl, hx, q⟩ := h
  cases rx
  obtain ⟨its, r, ht, hz⟩ := I.list hx
  have hlen := r.length
  refine ⟨"list", _, slot_list_getitem.lookup, ht.isList.typeIs, ?_⟩
  refine wpAny_getItem_list_slice ht.isList hs pl pu .none (by simp) ?_ (by rw [List.size_toArray] <;> omega)
  rw [slicePick_cut, ← hlen]
  refine ⟨.ref s.heap.objs.size, _, I.laid (t' := s.toks) (o := .lst (cutV xs lo hi)) (fun b ob q => Heap.get?_push_of_some _ q) (Nat.le_refl _) ?_, rfl, q _ (I.hok.fresh (Nat.le_refl _))⟩
  exact ⟨Nat.le_trans (cutV_length xs lo hi) hz, _, 0, (r.drop (HT.sIx xs.length 0 lo)).take (HT.sIx xs.length xs.length hi - HT.sIx xs.length 0 lo), Heap.get?_push_size _ rfl⟩
def flatV : V → Bool
  | .non => true
  | .bl _ => true
  | .int _ => true
  | .str _ => true
  | _ => false
def eqV : V → V → Bool
  | .non, .non => true
  | .bl a, .bl b => a == b
  | .bl a, .int b => (if a then 1 else 0) == b
  | .int a, .bl b => a == (if b then 1 else 0)
  | .int a, .int b => a == b
  | .str a, .str b => a == b
  | _, _ => false
theorem eqAt_V {A : Around} {s : Shared} {y x : V} {u v : Value} (ry : RelV y u) (rx : RelV x v) (fy : flatV y = true) (fx : flatV x = true) : SeqAt.EqAt A s u v (eqV y x) := by
  cases y with
  | non =>
    cases ry
    cases x with
    | non => cases rx; exact SeqAt.EqAt.same _
    | bl b => cases rx; exact SeqAt.EqAt.none_bool b
    | int b => obtain ⟨t, rfl⟩ := rx; exact SeqAt.EqAt.none_int b t
    | str b => obtain ⟨t, rfl⟩ := rx; exact SeqAt.EqAt.none_str b t
    | _ => exact absurd (show false = true from fx) Bool.false_ne_true
  | bl a =>
    cases ry
    cases x with
    | non => cases rx; exact SeqAt.EqAt.bool_none a
    | bl b => cases rx; exact SeqAt.EqAt.bool_bool a b
    | int b => obtain ⟨t, rfl⟩ := rx; exact SeqAt.EqAt.bool_int a b t
    | str b => obtain ⟨t, rfl⟩ := rx; exact SeqAt.EqAt.bool_str a b t
    | _ => exact absurd (show false = true from fx) Bool.false_ne_true
  | int a =>
    obtain ⟨t', rfl⟩ := ry
    cases x with
    | non => cases rx; exact SeqAt.EqAt.int_none a t'
    | bl b => cases rx; exact SeqAt.EqAt.int_bool a t' b
    | int b => obtain ⟨t, rfl⟩ := rx; exact SeqAt.EqAt.int_int a t' b t
    | str b => obtain ⟨t, rfl⟩ := rx; exact SeqAt.EqAt.int_str a t' b t
    | _ => exact absurd (show false = true from fx) Bool.false_ne_true
  | str a =>
    obtain ⟨t', rfl⟩ := ry
    cases x with
    | non => cases rx; exact SeqAt.EqAt.str_none a t'
    | bl b => cases rx; exact SeqAt.EqAt.str_bool a t' b
    | int b => obtain ⟨t, rfl⟩ := rx; exact SeqAt.EqAt.str_int a t' b t
    | str b => obtain ⟨t, rfl⟩ := rx; exact SeqAt.EqAt.str_str a t' b t
    | _ => exact absurd (show false = true from fx) Bool.false_ne_true
  | _ => exact absurd (show false = true from fy) Bool.false_ne_true
def eqU (x : V) (u : Value) : Bool := match u with
  | .none => eqV .non x
  | .bool b => eqV (.bl b) x
  | .int i _ => eqV (.int i) x
  | .str z _ => eqV (.str z) x
  | _ => false
theorem eqU_of {x y : V} {u : Value} (r : RelV y u) (f : flatV y = true) : eqU x u = eqV y x := by
  cases y with
  | non => cases r; rfl
  | bl b => cases r; rfl
  | int i => obtain ⟨t, rfl⟩ := r; rfl
  | str z => obtain ⟨t, rfl⟩ := r; rfl
  | _ => exact absurd (show false = true from f) Bool.false_ne_true
theorem any_eqU {x : V} : ∀ {xs : List V} {us : List Value}, Vals xs us → xs.all flatV = true → us.any (eqU x) = xs.any fun y => eqV y x
  | _, _, .nil, _ => rfl
  | y :: xs, u :: us, .cons r t, f => by
    rw [List.all_cons, Bool.and_eq_true] at f
    rw [List.any_cons, List.any_cons, eqU_of r f.1, any_eqU t f.2]
theorem mem_eqAt {A : Around} {s : Shared} {x : V} {v : Value} (rx : RelV x v) (fx : flatV x = true) : ∀ {xs : List V} {us : List Value}, Vals xs us → xs.all flatV = true → ∀ u ∈ us, SeqAt.EqAt A s u v (eqU x u)
  | _, _, .nil, _ => fun u hu => by cases hu
  | y :: xs, u :: us, .cons r t, f => fun u' hu => by
    rw [List.all_cons, Bool.and_eq_true] at f
    rcases List.mem_cons.mp hu with rfl | hu
    · rw [eqU_of r f.1]; exact eqAt_V r rx f.1 fx
    · exact mem_eqAt rx fx t f.2 u' hu
def inV (x : V) (xs : List V) : Bool := xs.any fun y => eqV y x
def rIn (K : PySem.W.Frag) (neg : Bool) : R2 := fun x y H Q => ∃ p xs, y = .ref p ∧ (SqL K H p xs ∨ SqT K H p xs) ∧ flatV x = true ∧ xs.all flatV = true ∧ Q (.bl (if neg then !inV x xs else inV x xs)) H
theorem op_notIn_seq : OpR X (compareOp .NotIn) (rIn X.K true) := by
  intro pins s σ H x y v u Q I rx ry h
  obtain ⟨p, xs, rfl, hq, fx, fs, q⟩ := h
  cases ry
  rcases hq with hq | hq
  · obtain ⟨its, r, pl, hz⟩ := I.list hq
    refine SeqAt.notIn_listAt (eqU x) pl.isList (fun w hw => mem_eqAt rx fx r fs w (by simpa using hw)) ⟨.bl _, H, I, rfl, ?_⟩
    rw [show its.toArray.any (eqU x) = its.any (eqU x) by simp, any_eqU r fs]
    exact q
  · obtain ⟨its, r, pl, hz⟩ := I.tuple hq
    refine SeqAt.notIn_tupleAt (eqU x) pl (fun w hw => mem_eqAt rx fx r fs w (by simpa using hw)) ⟨.bl _, H, I, rfl, ?_⟩
    rw [show its.toArray.any (eqU x) = its.any (eqU x) by simp, any_eqU r fs]
    exact q
theorem call_len_seq : CallR X (.builtin "len") (fun xs H Q => ∃ p ys, xs = [.ref p] ∧ (SqL X.K H p ys ∨ SqT X.K H p ys) ∧ Q (.int ys.length) H) := by
  intro pins s σ H xs us Q I r h
  obtain ⟨p, ys, rfl, hq, q⟩ := h
  obtain ⟨u, rfl, rx⟩ := vals1 r
  cases rx
  have hn := line63
  rcases hq with hq | hq
  · obtain ⟨its, r', pl, hz⟩ := I.list hq
    have hlen := r'.length
    exact Calls.call_len_list pl.isList (by simp only [List.size_toArray] <;> omega) ⟨.int ys.length, H, I.tok _, ⟨s.toks + 1, by rw [List.size_toArray, hlen]⟩, q⟩
  · obtain ⟨its, r', pl, hz⟩ := I.tuple hq
    have hlen := r'.length
    exact len_tuple pl (by simp only [List.size_toArray] <;> omega) ⟨.int ys.length, H, I.tok _, ⟨s.toks + 1, by rw [List.size_toArray, hlen]⟩, q⟩
theorem call_list_of : CallR X (.type "list") (fun xs H Q => ∃ p ys, xs = [.ref p] ∧ (SqL X.K H p ys ∨ SqT X.K H p ys) ∧ ∀ l, H l = none → Q (.ref l) (upd H l (.lst ys))) := by
  intro pins s σ H xs us Q I r h
  obtain ⟨p, ys, rfl, hq, q⟩ := h
  obtain ⟨u, rfl, rx⟩ := vals1 r
  cases rx
  have fin : ∀ (its : List Value), Vals ys its → ys.length ≤ sizeLine → ∀ (h' : Heap) (c' : Nat), (∀ b o', s.heap.get? b = some o' → h'.get? b = some o') →
      h'.get? s.heap.objs.size = some { cls := .type "list", dict := none, data := .seq its.toArray c', slots := #[] } → EP X pins σ Q (.ref s.heap.objs.size) { s with heap := h' } := fun its r' hz h' c' kp e =>
    ⟨.ref s.heap.objs.size, _, I.laid (t' := s.toks) kp (Nat.le_refl _) (show ObjOk X.prog X.w _ h' _ (.lst ys) from ⟨hz, its, c', r', e⟩), rfl, q _ (I.hok.fresh (Nat.le_refl _))⟩
  rcases hq with hq | hq
  · obtain ⟨its, r', pl, hz⟩ := I.list hq
    have hlen := r'.length
    obtain ⟨o, ho, hc, n, hd⟩ := pl.isList
    exact call_list_seq p (.inl rfl) ho hc hd (fun h' c' kp e => fin its r' hz h' c' kp e) (by simp only [List.size_toArray] <;> omega)
  · obtain ⟨its, r', pl, hz⟩ := I.tuple hq
    have hlen := r'.length
    obtain ⟨o, ho, hc, n, hd⟩ := pl
    exact call_list_seq p (.inr rfl) ho hc hd (fun h' c' kp e => fin its r' hz h' c' kp e) (by simp only [List.size_toArray] <;> omega)
theorem call_tuple_of : CallR X (.type "tuple") (fun xs H Q => ∃ p ys, xs = [.ref p] ∧ ((SqL X.K H p ys ∧ ∀ l, H l = none → Q (.ref l) (upd H l (.tup ys))) ∨ (SqT X.K H p ys ∧ Q (.ref p) H))) := by
  intro pins s σ H xs us Q I r h
  obtain ⟨p, ys, rfl, h⟩ := h
  obtain ⟨u, rfl, rx⟩ := vals1 r
  cases rx
  rcases h with ⟨hq, q⟩ | ⟨hq, q⟩
  · obtain ⟨its, r', pl, hz⟩ := I.list hq
    have hlen := r'.length
    refine call_tuple_list pl.isList (fun h' kp => ?_) (by simp only [List.size_toArray] <;> omega)
    have I1 : Inv X pins σ H { s with heap := h' } := I.kept (t' := s.toks) kp
    have I2 : Inv X pins σ (upd H h'.objs.size (.tup ys)) { s with heap := h'.push { cls := .type "tuple", data := .seq its.toArray } } :=
      I1.laid (t' := s.toks) (fun b o e => Heap.get?_push_of_some _ e) (Nat.le_refl _) (show ObjOk X.prog X.w _ _ _ (.tup ys) from ⟨hz, its, r', IsTup.new _ _⟩)
    exact ⟨.ref h'.objs.size, _, I2, rfl, q _ (I1.hok.fresh (Nat.le_refl _))⟩
  · obtain ⟨its, r', pl, hz⟩ := I.tuple hq
    exact call_tuple_same pl ⟨.ref p, H, I, rfl, q⟩
def tyV (K : PySem.W.Frag) (T : String) (x : V) (H : Hp) : Prop := match x with
  | .str _ => T = "str"
  | .int _ => T = "int"
  | .ref p => (T = "list" ∧ ∃ xs, SqL K H p xs) ∨ (T = "tuple" ∧ ∃ o, K.lookup p = some o ∧ o.cls = .type "tuple" ∧ o.dict = none) ∨
      (T = "dict" ∧ ((∃ kvs, H p = some (.dK kvs)) ∨ ∃ kvs, H p = some (.dT kvs))) ∨ (T = "set" ∧ ∃ S n, H p = some (.set S n))
  | _ => False
theorem tyV_is {pins : List (Addr × Obj)} {σ : St} {H : Hp} {s : Shared} {T : String} {x : V} {v : Value} (I : Inv X pins σ H s) (r : RelV x v) (ty : tyV X.K T x H) :
    s.TypeIs v T ∧ ∀ a, v = .ref a → ∃ ob, s.heap.get? a = some ob ∧ ob.dict = none := by
  cases x with
  | str z =>
    obtain ⟨t, rfl⟩ := r
    cases (show T = "str" from ty)
    exact ⟨typeIs_str s z t, fun _ e => nomatch e⟩
  | int i =>
    obtain ⟨t, rfl⟩ := r
    cases (show T = "int" from ty)
    exact ⟨typeIs_int s i t, fun _ e => nomatch e⟩
  | ref p =>
    cases r
    rcases ty with ⟨rfl, xs, hq⟩ | ⟨rfl, o, hk, hc, hd⟩ | ⟨rfl, hk⟩ | ⟨rfl, S, n, hk⟩
    · obtain ⟨its, _, pl, _⟩ := I.list hq
      refine ⟨pl.isList.typeIs, fun a e => ?_⟩
      cases e
      obtain ⟨o, n, e, c, hd, _⟩ := pl
      exact ⟨o, e, hd⟩
    · refine ⟨⟨o, I.kIn p o hk, hc⟩, fun a e => ?_⟩
      cases e
      exact ⟨o, I.kIn _ o hk, hd⟩
    · have z : ∃ o, s.heap.get? p = some o ∧ o.ExactDict := by
        rcases hk with ⟨kvs, hk⟩ | ⟨kvs, hk⟩
        · obtain ⟨_, _, _, _, o, _, _, e, ex, _⟩ := I.hok p _ hk
          exact ⟨o, e, ex⟩
        · obtain ⟨_, _, _, _, o, _, _, e, ex, _⟩ := I.hok p _ hk
          exact ⟨o, e, ex⟩
      obtain ⟨o, e, ex⟩ := z
      refine ⟨⟨o, e, ex.1⟩, fun a e2 => ?_⟩
      cases e2
      exact ⟨o, e, ex.2.1⟩
    · obtain ⟨o, _, _, _, e, ex, _⟩ := I.hok p _ hk
      refine ⟨⟨o, e, ex.1⟩, fun a e2 => ?_⟩
      cases e2
      exact ⟨o, e, ex.2.1⟩
  | _ => exact False.elim ty
def tBM0 (K : PySem.W.Frag) (T : String) (r : V → List V → Hp → VK → Prop) (to : TE) : TE := fun σ H Q => to σ H fun x H1 => tyV K T x H1 ∧ r x [] H1 Q
def tBM (K : PySem.W.Frag) (T : String) (r : V → List V → Hp → VK → Prop) (to : TE) (t : TA) : TE := fun σ H Q => to σ H fun x H1 => tyV K T x H1 ∧ t σ H1 fun xs H2 => r x xs H2 Q
variable {o e : Expr} {es : List Expr} {to : TE} {t : TA} {name : Str} {apos cpos : Pos} {T id : String} {r : V → List V → Hp → VK → Prop}
theorem pe_bm (pa : PlainAttrs T) (slot : Slot T name id) (hty : typeOf (.builtin id) = pure (.type "method_descriptor")) (hm : MtR X id r) (ho : PE X o to) (ha : PA X (e :: es) t)
    (hbase : attributeBase o name X.env (eval o X.env) = eval o X.env := by rfl)
    (hfew : ((backTo cpos (starEach (e :: es) X.env)).all (fun x => !x.1) && (backToKw cpos (keywordEach [] X.env)).all (fun x => x.1.isSome)
      && decide ((e :: es).length + ([] : List Keyword).length + (if ([] : List Keyword).isEmpty then 0 else 1) < 30)) = true := by rfl)
    (hline : (apos.endLine == cpos.line) = true := by rfl) (hs : starEach (e :: es) X.env = (false, eval e X.env) :: starEach es X.env := by rfl) (hplain : (backTo cpos (starEach es X.env)).any (·.1) = false := by rfl) :
    PE X (.Call (.Attribute o name apos) (e :: es) [] cpos) (tBM X.K T r to t) := by
  intro pins s σ H Q I h
  refine wpAny_Call_method_late hbase hfew hline rfl (thn (ho pins s σ H _ I h) fun v s1 ⟨x, H1, I1, r1, ty, q1⟩ => ?_)
  obtain ⟨h1, h2⟩ := tyV_is I1 r1 ty
  refine ⟨T, id, pa, slot, hty, h1, h2, ?_⟩
  have hA := ha cpos pins s1 σ H1 _ I1 q1
  rw [hs] at hA ⊢
  refine Calls.callWith_builtin (by show (false || (backTo cpos (starEach es X.env)).any (·.1)) = false; rw [hplain] <;> rfl) (Calls.evalArgs_plain ?_)
  exact thn hA fun us s2 ⟨vs, H2, I2, r2, q2⟩ => hm pins s2 σ H2 x vs v us Q I2 r1 r2 q2
/- xs.append(e), list.index on a module's tuple .. are MtR facts of 06m -/
end
end L2
namespace L2
open PySem PySem.Spec PyProof.Rows
def MtM (X : Cx) (id : String) (r : V → List V → Hp → VK → Prop) : Prop :=
  ∀ (pins : List (Addr × Obj)) (s : Shared) (σ : St) (H : Hp) (x : V) (xs : List V) (v : Value) (us : List Value) (Q : VK), Inv X pins σ H s → RelV x v → Vals xs us → r x xs H Q →
    wpAny (model X.prog X.w) X.A (call (.builtin id) (v :: us)) (EP X pins σ Q) X.xe s
theorem Vals.one : ∀ {x : V} {us : List Value}, Vals [x] us → ∃ u, us = [u] ∧ RelV x u
  | _, _, .cons r .nil => ⟨_, rfl, r⟩
theorem Vals.zero : ∀ {us : List Value}, Vals [] us → us = []
  | _, .nil => rfl
theorem Vals.dropLast {xs : List V} {us : List Value} (h : Vals xs us) : Vals xs.dropLast us.dropLast := by
  induction h with
  | nil => exact .nil
  | cons r t ih =>
    cases t with
    | nil => exact .nil
    | cons q t' => exact .cons r ih
theorem Vals.reverse {xs : List V} {us : List Value} (h : Vals xs us) : Vals xs.reverse us.reverse := by
  induction h with
  | nil => exact .nil
  | cons r t ih => rw [List.reverse_cons, List.reverse_cons]; exact Vals.append ih (.cons r .nil)
theorem Vals.rep {xs : List V} {us : List Value} (h : Vals xs us) : ∀ k : Nat, Vals (List.replicate k xs).flatten (List.replicate k us).flatten
  | 0 => .nil
  | k + 1 => by
    rw [List.replicate_succ, List.replicate_succ, List.flatten_cons, List.flatten_cons]
    exact Vals.append h (Vals.rep h k)
theorem foldl_rep (its : List Value) : ∀ (k : Nat) (acc : List Value),
    List.foldl (fun x1 x2 => x1 ++ x2) acc.toArray (List.replicate k its.toArray) = (acc ++ (List.replicate k its).flatten).toArray
  | 0, acc => by simp
  | k + 1, acc => by
    have e : acc.toArray ++ its.toArray = (acc ++ its).toArray := by simp
    have e2 : (acc ++ its) ++ (List.replicate k its).flatten = acc ++ (List.replicate (k + 1) its).flatten := by
      rw [List.replicate_succ, List.flatten_cons, List.append_assoc]
    rw [← e2, ← foldl_rep its k (acc ++ its), ← e, List.replicate_succ, List.foldl_cons]
section
variable {X : Cx} {pins : List (Addr × Obj)} {σ : St} {H : Hp} {s : Shared} {l b : Addr} {xs ys zs : List V}
theorem Inv.lset {its its' : List Value} {n : Nat} {f : Array Value → Array Value} {t' : Nat} (I : Inv X pins σ H s) (hH : H l = some (.lst xs))
    (e : s.heap.get? l = some { cls := .type "list", data := .seq its.toArray n }) (hf : f its.toArray = its'.toArray) (hv : Vals ys its') (hz : ys.length ≤ sizeLine) :
    Inv X pins σ (upd H l (.lst ys)) { s with heap := s.heap.update l (Obj.mapSeq f), toks := t' } := by
  have q := PySem.IsL.update e f
  rw [hf] at q
  refine I.write (x := l) (e := l) (by rw [hH]; exact trivial) (.inl rfl) (fun b' u hb hu => (Heap.get?_update_other s.heap (Obj.mapSeq f) (Ne.symm hb)).trans hu) ⟨_, q⟩ ?_
  exact ⟨hz, its', _, hv, q⟩
theorem Inv.lnew {its : List Value} {t' : Nat} (I : Inv X pins σ H s) (hv : Vals ys its) (hz : ys.length ≤ sizeLine) :
    Inv X pins σ (upd H s.heap.objs.size (.lst ys)) { s with heap := s.heap.push { cls := .type "list", data := .seq its.toArray }, toks := t' } :=
  I.laid (fun _ _ q => Heap.get?_push_of_some _ q) (Nat.le_refl _) ⟨hz, its, 0, hv, Heap.get?_push_size _ rfl⟩
theorem Inv.fresh (I : Inv X pins σ H s) : H s.heap.objs.size = none := I.hok.fresh (Nat.le_refl _)
theorem Inv.lstM (I : Inv X pins σ H s) (hH : H l = some (.lst xs)) : xs.length ≤ sizeLine ∧ ∃ (its : List Value) (n : Nat), Vals xs its ∧ xs.length = its.length ∧ s.heap.get? l = some { cls := .type "list", data := .seq its.toArray n } := by
  obtain ⟨z, its, n, r, e⟩ := I.hok l _ hH
  exact ⟨z, its, n, r, r.length, e⟩
theorem notLongL {n : Nat} (h : n ≤ sizeLine) : Builtin.List.listTooLong n = false := by
  unfold Builtin.List.listTooLong
  exact decide_eq_false (by omega)
end
section
variable {X : Cx}
def rAppend : V → List V → Hp → VK → Prop := fun x vs H Q => ∃ l xs y, x = .ref l ∧ vs = [y] ∧ H l = some (.lst xs) ∧ xs.length < sizeLine ∧ Q .non (upd H l (.lst (xs ++ [y])))
theorem mt_append : MtM X "list.append" rAppend := by
  intro pins s σ H x vs v us Q I rx rv h
  obtain ⟨l, xs, y, rfl, rfl, hH, hz, q⟩ := h
  cases rx
  obtain ⟨u, rfl, ru⟩ := rv.one
  obtain ⟨z, its, n, r, hl, e⟩ := I.lstM hH
  refine call_meets F.slot_list_append ⟨_, e, rfl⟩ F.entry_list_append (F.args_list_append_2 _ _) (PySem.list_append l its.toArray n u (by rw [List.size_toArray]; omega)) ⟨e, ?_⟩
  refine ⟨.non, _, I.lset (its' := its ++ [u]) hH e (by simp) (r.append (.cons ru .nil)) ?_, rfl, q⟩
  rw [List.length_append, List.length_singleton]
  omega
def rCat : R2 := fun x y H Q => ∃ l b xs zs, x = .ref l ∧ y = .ref b ∧ H l = some (.lst xs) ∧ H b = some (.lst zs) ∧ xs.length + zs.length ≤ sizeLine ∧ ∀ p, H p = none → Q (.ref p) (upd H p (.lst (xs ++ zs)))
theorem op_cat : OpR X (binaryOp .Add) rCat := by
  intro pins s σ H x y v u Q I rx ry h
  obtain ⟨l, b, xs, zs, rfl, rfl, hH, hB, hz, q⟩ := h
  cases rx
  cases ry
  obtain ⟨z, its, n, r, hl, e⟩ := I.lstM hH
  obtain ⟨z2, its2, n2, r2, hl2, e2⟩ := I.lstM hB
  refine PySem.P.add_list e e2 ?_ (by rw [List.size_toArray, List.size_toArray]; omega)
  have ea : its.toArray ++ its2.toArray = (its ++ its2).toArray := by simp
  rw [ea]
  exact ⟨.ref _, _, I.lnew (t' := s.toks) (r.append r2) (by rw [List.length_append]; omega), rfl, q _ I.fresh⟩
def rRep : R2 := fun x y H Q => ∃ l k xs, x = .ref l ∧ y = .int k ∧ H l = some (.lst xs) ∧ -(2 ^ 63) ≤ k ∧ k < 2 ^ 63 ∧ xs.length * k.toNat ≤ sizeLine ∧
  ∀ p, H p = none → Q (.ref p) (upd H p (.lst (List.replicate k.toNat xs).flatten))
theorem len_rep {α : Type} (xs : List α) (k : Nat) : (List.replicate k xs).flatten.length = k * xs.length := by
  induction k with
  | zero => simp
  | succ k ih => rw [List.replicate_succ, List.flatten_cons, List.length_append, ih, Nat.succ_mul, Nat.add_comm]
theorem op_rep : OpR X (binaryOp .Mult) rRep := by
  intro pins s σ H x y v u Q I rx ry h
  obtain ⟨l, k, xs, rfl, rfl, hH, h1, h2, hz, q⟩ := h
  cases rx
  obtain ⟨t, rfl⟩ := ry
  obtain ⟨z, its, n, r, hl, e⟩ := I.lstM hH
  have hlen : its.toArray.size * k.toNat ≤ sizeLine := by rw [List.size_toArray, ← hl]; exact hz
  have hcap : ¬ its.toArray.size * k.toNat > (2 ^ 63 - 1) / 8 := by
    have : (sizeLine : Nat) ≤ (2 ^ 63 - 1) / 8 := by decide
    omega
  have hfit : ¬ (!Builtin.List.listFitsIndex k) = true := by
    rw [fitsIndex_both h1 h2]
    exact Bool.false_ne_true
  have hlong : ¬ Builtin.List.listTooLong (its.toArray.size * k.toNat) = true := by
    rw [notLongL hlen]
    exact Bool.false_ne_true
  have hnew : List.foldl (fun x1 x2 => x1 ++ x2) #[] (List.replicate (if its.toArray.isEmpty = true then 0 else k.toNat) its.toArray) = (List.replicate k.toNat its).flatten.toArray := by
    have f0 : ∀ m : Nat, List.foldl (fun x1 x2 => x1 ++ x2) #[] (List.replicate m its.toArray) = (List.replicate m its).flatten.toArray := fun m => by
      have := foldl_rep its m []
      rw [List.nil_append] at this
      exact this
    rw [f0]
    cases its with
    | nil => simp
    | cons a r' => rw [if_neg (by simp)]
  refine wpAny_binaryOp_repeat_ref (T := "list") (U := "int") (by decide) ⟨_, e, rfl⟩ (fun s' => typeIs_int s' k t) noFill_list_mul F.fills_int_mul F.slot_int_rmul repeat_list F.slot_int_index.lookup
    (call_meets F.slot_int_rmul (typeIs_int s k t) F.entry_int_rmul (F.args_int_rmul_2 _ _) (int___rmul___int_list k t l its.toArray n)
      ⟨e, rfl, ⟨_, e, rfl⟩, call_meets F.slot_list_mul ⟨_, e, rfl⟩ F.entry_list_mul (F.args_list_mul_2 _ _) (AutoListH.list___mul___list_int_3 l its.toArray n k t hfit hcap hlong) ⟨e, ?_⟩⟩)
  rw [hnew]
  exact ⟨.ref _, _, I.lnew (t' := s.toks) (r.rep k.toNat) (by rw [len_rep, Nat.mul_comm]; exact hz), rfl, q _ I.fresh⟩
end
end L2
namespace Att
open PySem PySem.W PySem.Calls PyProof.Rows
theorem ints_of_wellAll {P : Params} {h : Heap} : ∀ (ns : List Int) (vs : List Value), WellAll P h vs (ns.map WData.int) → IntsAre vs ns := by
  intro ns
  induction ns with
  | nil =>
    intro vs w
    rw [List.map_nil] at w
    cases w
    exact .nil
  | cons n ns ih =>
    intro vs w
    rw [List.map_cons] at w
    cases w with
    | cons a b =>
      cases a
      exact .cons _ _ (ih _ b)
theorem script_of {l : OpenLaw} {n : Nat} (hn : l.most = some n) {P : Params} {h : Heap} {args : List WData} {vals : List Value}
    (hpre : l.row.toRowW.claim.pre args = true) (hwl : WellAll P h vals args) :
    ∃ a vs ns, vals = [Value.ref a] ∧ args = [WData.list (ns.map WData.int)] ∧ h.get? a = some { cls := .type "list", data := .seq vs.toArray } ∧ IntsAre vs ns ∧ ns.length ≤ n := by
  have hsh : WShape.hasAll [] args [.list .int] = true := (pre_splitW hpre).1
  have hc : l.pre.holds [] { args := args } = true := (pre_splitW hpre).2
  obtain ⟨d, r, rfl, h1, h2⟩ := hasAllW_cons hsh
  obtain rfl := hasAllW_nil h2
  obtain ⟨xs, rfl, h3⟩ := hasW_list h1
  obtain ⟨ns, rfl⟩ := items_int h3
  have hlen : ns.length ≤ n := by
    unfold OpenLaw.pre at hc
    have h4 : (WTm.not (.lt (.lit (.int (n : Int))) (.len (.arg 0)))).holds [] { args := [.list (ns.map .int)] } = true := by
      have h4 := (holds_andW hc).1
      rw [hn] at h4
      exact h4
    have h5 := condW_of h4 (w_not (w_lt w_lit (w_len_list (w_arg rfl))))
    rw [List.length_map] at h5
    refine Nat.le_of_not_lt fun q => ?_
    have q' : (n : Int) < ((ns.length : Nat) : Int) := by omega
    first
      | (rw [decide_eq_true q'] at h5; exact absurd h5 (by decide))
      | (simp at h5; omega)
  cases hwl with
  | cons w1 w2 =>
    cases w2
    cases w1 with
    | list ho hall => exact ⟨_, _, ns, rfl, rfl, ho, ints_of_wellAll ns _ hall, hlen⟩
theorem post_true (l : OpenLaw) (args : List WData) : l.row.toRowW.claim.post args (.bool true) args = true :=
  postW_of (r := l.row.toRowW) (X := (true == true))
    (show WShape.has [] (.bool true) .bool = true by first | rfl | decide | simp [WShape.has, WShape.arms, WShape.armsAll])
    (show (WTm.eq .res (.lit (.bool true))).value [] { args := args, res := some (.bool true), after := args } = some (.bool (true == true)) from w_eq_bool (w_res rfl) w_lit) rfl
theorem attach_call {l : OpenLaw} {n : Nat} {q : Program} {loose : List Str} {XP : (Str → Option Value) → Heap → Prop} {YP : World → Heap → Prop} {d : DefRec}
    (hn : l.most = some n) (hdf : d.params.defaults = [])
    (call : ∀ (w : World) (s₀ s₁ : Shared) (mg mb : Str → Option Value) (fa : Addr) (o : Obj) (pm cd doc : Value) (a : Addr) (vs : List Value) (ns : List Int),
      Ground q loose [] XP w s₀ mg mb s₁.heap → YP w s₁.heap →
      s₁.heap.get? fa = some o → o.data = .func (docDef d.name d.params d.body d.scope pm cd doc) → s₁.heap.CodeRec cd d.name → mg d.name = some (.ref fa) →
      s₁.heap.get? a = some { cls := .type "list", data := .seq vs.toArray } → IntsAre vs ns → ns.length ≤ n → s₁.gens = #[] →
      codeAny (model l.prog w) callerA (.call (.ref fa) ⟨[.ref a], []⟩) (fun r s' => r = .ok (.ret (.bool true)) ∧ OldK s₁.heap s'.heap ∧ s'.os = s₁.os ∧ AllBare s'.gens) s₁) :
    WalkO q loose XP YP l.row.toRowW d [] (fun f vs => PySem.call f vs) := by
  intro w s₀ s₁ mg mb G Y fa o pm cd doc dV kV ho hd hcd hD hmg hg args vals as hpre hlay hrd hwl hlo
  obtain rfl : dV = .none := Dflts.none hD hdf
  obtain rfl : kV = .none := Dflts.noKw hD
  obtain ⟨a, vs, ns, rfl, rfl, hobj, hints, hlen⟩ := script_of hn hpre hwl
  refine enter_call (codeAny_mono (call w s₀ s₁ mg mb fa o pm cd doc a vs ns G Y ho (fd_plain hd) hcd hmg hobj hints hlen hg) fun r s' hq => ?_)
  obtain ⟨rfl, h2, h3, h4⟩ := hq
  exact ⟨.inl ⟨.bool true, .bool true, [], rfl, fun _ => rfl, .bool true, post_true l _, fun _ => ⟨List.Pairwise.nil, fun _ hm => (nomatch hm)⟩⟩, h2, h3, h4⟩
end Att
namespace L2
open PySem PySem.Spec PyProof.Rows
theorem vals_ints : ∀ {vs : List Value} {ns : List Int}, IntsAre vs ns → Vals (ns.map V.int) vs
  | _, _, .nil => .nil
  | _, _, .cons n t h => .cons ⟨t, rfl⟩ (vals_ints h)
def Only (H : Hp) : Prop := ∀ b, H b = none ∨ ∃ o xs, H b = some (.frz o (.lst xs))
theorem law_call {P : Program} {w : World} {K : PySem.W.Frag} {mg mb : Str → Option Value} {CX : CXT} {k : Nat} {fa a : Addr} {fd : FuncData} {x : Str} {sp : Sp} {s₁ : Shared} {vs : List Value} {ns : List Int}
    (KX : K.In s₁.heap) (hns : s₁.heap.Ns mainGlobals mg) (hb : s₁.heap.Ns builtinsNs mb) (hbb : ∀ x : Str, x ≠ "__name__" → mb x = bootBuiltins x) (hlim : s₁.heap.NoLimit) (hg : s₁.gens = #[])
    (ha : s₁.heap.get? a = some { cls := .type "list", data := .seq vs.toArray }) (hi : IntsAre vs ns) (hl : ns.length ≤ sizeLine) (hr : Room k callerA)
    (F : ∀ base : Heap, K.In base → base.Ns mainGlobals mg → FnOk P w K mg base CX k fa fd [x] sp) (hbind : ∀ (s : Shared) (u : Value), BindsTo s fd ⟨[u], []⟩ [(x, u)])
    (hsp : ∀ H : Hp, Only H → SqL K H a (ns.map V.int) → sp [.ref a] H (fun v _ => v = .bl true) fun _ _ _ => False)
    (hCX : ∀ H e s', CX [] H s₁ (fun _ _ _ => False) e s' → False) :
    codeAny (model P w) callerA (.call (.ref fa) ⟨[.ref a], []⟩) (fun r s' => r = .ok (.ret (.bool true)) ∧ OldK s₁.heap s'.heap ∧ s'.os = s₁.os ∧ AllBare s'.gens) s₁ := by
  have rv := vals_ints hi
  have lenV := hi.length
  -- from an abstract heap in which nothing but the script may be tracked
  have core : ∀ H : Hp, Only H → SqL K H a (ns.map V.int) → HOk P w H s₁.heap → (∀ b, H b ≠ none → b = a) → (H a ≠ none → K.lookup a = none) →
      codeAny (model P w) callerA (.call (.ref fa) ⟨[.ref a], []⟩) (fun r s' => r = .ok (.ret (.bool true)) ∧ OldK s₁.heap s'.heap ∧ s'.os = s₁.os ∧ AllBare s'.gens) s₁ := by
    intro H hO hS hok hA hK
    have base_of : ∀ {b : Addr} {o : Obj}, s₁.heap.get? b = some o → H b = none → (hidT s₁.heap H).get? b = some o := fun e n => hidT_get e n
    have noA : ∀ {b : Addr} {o : Obj} {es : Array DictEntry} {ep : Nat}, s₁.heap.get? b = some o → o.data = .dict es ep → H b = none := fun {b o es ep} e d => by
      cases q : H b with
      | none => rfl
      | some u =>
        have e' : b = a := hA b (by rw [q]; simp)
        subst e'
        rw [ha] at e; cases e
        have d' : Data.seq vs.toArray _ = Data.dict es ep := d
        cases d'
    have nsK : ∀ {b : Addr} {m : Str → Option Value}, s₁.heap.Ns b m → (hidT s₁.heap H).Ns b m := fun {b m} ⟨o, es, ep, e, d, r⟩ => ⟨o, es, ep, base_of e (noA e d), d, r⟩
    have hKb : K.In (hidT s₁.heap H) := fun b o e => base_of (KX b o e) (by
      cases q : H b with
      | none => rfl
      | some u =>
        have e' : b = a := hA b (by rw [q]; simp)
        subst e'
        rw [hK (by rw [q]; simp)] at e; cases e)
    have hM : Mod K mg (hidT s₁.heap H) := ⟨hKb, nsK hns, ⟨mb, nsK hb, hbb⟩, let ⟨mc, h1, h2⟩ := hlim; ⟨mc, nsK h1, h2⟩⟩
    have e0 : Env0 P w K mg (hidT s₁.heap H) callerA [] s₁ H := ⟨rfl, hM, fun b o e => of_hidT e, Nat.le_of_eq (hidT_size _ _), trivial, fun b hb => absurd (show b ∈ ([] : List Addr) from hb) (by simp), hok, .of_eq hg⟩
    refine codeAny_mono ((F _ hKb (nsK hns)).run callerA [] s₁ H ⟨[.ref a], []⟩ [.ref a] [.ref a] _ _ hr e0 (hbind s₁ (.ref a)) (.cons rfl .nil) (hsp H hO hS)) fun r s' h => ?_
    cases r with
    | error e => exact (hCX H e s' h).elim
    | ok fl =>
      cases fl with
      | next => exact False.elim h
      | brk => exact False.elim h
      | cont => exact False.elim h
      | ret u =>
        obtain ⟨v, H', os, bare, un, hok', r', q⟩ := h
        have q' : v = .bl true := q
        subst q'
        obtain rfl : u = Value.bool true := r'
        refine ⟨rfl, OldK.of_keep fun b o e => ?_, os, bare⟩
        cases q : H b with
        | none => exact un.keep b o e q (by intro z; exact absurd (show b ∈ ([] : List Addr) from z) (by simp)) (by simp)
        | some u =>
          rcases hO b with z | ⟨ob, xs, z⟩
          · rw [q] at z; cases z
          · have z2 := un.frzs b ob _ z
            obtain ⟨e1, _⟩ := hok b _ z
            obtain ⟨e2, _⟩ := hok' b _ z2
            rw [e] at e1; cases e1
            exact e2
  cases hk : K.lookup a with
  | some o =>
    -- the script is one of the module's own objects
    have e := KX a o hk
    rw [ha] at e
    cases e
    refine core (fun _ => none) (fun _ => .inl rfl) (.inr ⟨_, vs.toArray, _, hk, rfl, rfl, rfl, by rw [List.size_toArray, lenV]; exact hl, by simpa using rv⟩) (fun b u z => by have z' : (none : Option HO) = some u := z; cases z') (fun b z => absurd rfl z) fun z => absurd rfl z
  | none =>
    refine core (fun b => if b = a then some (.frz { cls := .type "list", data := .seq vs.toArray } (.lst (ns.map V.int))) else none) (fun b => ?_) (.inl (.inr ⟨{ cls := .type "list", data := .seq vs.toArray }, if_pos rfl⟩)) (fun b u z => ?_) (fun b z => ?_) fun _ => hk
    · by_cases hb : b = a
      · exact .inr ⟨_, _, if_pos hb⟩
      · exact .inl (if_neg hb)
    · by_cases hb : b = a
      · have z' := (if_pos hb).symm.trans z
        cases z'
        subst hb
        exact ⟨ha, by rw [List.length_map]; exact hl, vs, _, rv, ha⟩
      · have z' := (if_neg hb).symm.trans z
        cases z'
    · by_cases hb : b = a
      · exact hb
      · exact absurd (if_neg hb) z
end L2
namespace L2
open PySem PySem.Spec PyProof.Rows
theorem walk_of {l : PySem.W.OpenLaw} {n k : Nat} {q : Program} {loose : List Str} {XP : (Str → Option Value) → Heap → Prop} {YP : World → Heap → Prop} {d : DefRec} {K : Params → PySem.W.Frag} {CX : World → CXT} {sp : World → Sp} {x : Str}
    (hn : l.most = some n) (hn2 : n ≤ sizeLine) (hdf : d.params.defaults = []) (hr : Room k callerA)
    (hY : ∀ (w : World) (h : Heap), YP w h → (K w.params).In h)
    (F : ∀ (w : World) (mg : Str → Option Value) (fa : Addr) (h : Heap), (K w.params).In h → h.Ns mainGlobals mg → mg d.name = some (.ref fa) →
      ∃ fd : FuncData, (∀ (s : Shared) (u : Value), BindsTo s fd ⟨[u], []⟩ [(x, u)]) ∧
        ∀ base : Heap, (K w.params).In base → base.Ns mainGlobals mg → FnOk l.prog w (K w.params) mg base (CX w) k fa fd [x] (sp w))
    (hsp : ∀ (w : World) (H : Hp) (a : Addr) (ns : List Int), ns.length ≤ n → Only H → SqL (K w.params) H a (ns.map V.int) → sp w [.ref a] H (fun v _ => v = .bl true) fun _ _ _ => False)
    (hCX : ∀ (w : World) (H : Hp) (s : Shared) (e : Value) (s' : Shared), CX w [] H s (fun _ _ _ => False) e s' → False) :
    PySem.W.WalkO q loose XP YP l.row.toRowW d [] (fun f vs => PySem.call f vs) := by
  refine Att.attach_call hn hdf fun w s₀ s₁ mg mb fa o pm cd doc a vs ns G Y ho hd hcd hmg hobj hints hlen hg => ?_
  have KX := hY w _ Y
  obtain ⟨fd, hb, hF⟩ := F w mg fa _ KX G.T.g hmg
  exact law_call KX G.T.g G.T.b G.T.builtins G.T.nolimit hg hobj hints (Nat.le_trans hlen hn2) hr hF hb (fun H hO hS => hsp w H a ns hlen hO hS) fun H e s' => hCX w H s₁ e s'
end L2
/- THE LAST THEOREM (shape; LID, My.* are yours):
   My.Adr: a structure of the addresses that your layer names (classes, functions); My.Txt K t: a structure (Prop) of the equations over K;
   My.txt_mk : {K} {implicit addresses ..} (e1 : nsIn K mainGlobals "law" = some (some (.ref f))) (e2 : K.lookup f = some ⟨oc, od, .func (fnOf "law" "law" params body scope dV kV doc pm an cdv ct), sl⟩) (e3 : codeIn K cdv "law" = true) .. : ∃ t, My.Txt K t
set_option maxRecDepth 100000 in
set_option maxHeartbeats 0 in
theorem PySem.Challenge.cw_LID_holds : PySem.Challenge.rw_LID.Holds := by
  w_on; o_law; k_head; (case hw => w_witness2)
  k_fill
  refine L2.walk_of (l := PySem.Challenge.rw_LID) (n := 63) (k := 40) (x := "script") (CX := fun w => ..) (sp := fun _ => My.sp_law) rfl (by decide) rfl ⟨rfl, by decide, by decide⟩ (fun w h Y => PySem.W.kIn_of Y) ?F ?S ?C
  case F =>
    intro w mg fa h KX G hmg
    have T : ∃ t, My.Txt (L2.KOf KX) t := by
      dsimp only [L2.KOf]                          -- K must stand as «<heap const> w.params» for k_is
      refine' My.txt_mk ?e1 ?e2 ?e3 ..
      (case e1 => PySem.W.k_is)                    -- in the order: a name -> its address -> its object -> its parts
      (case e2 => PySem.W.k_is)
      ..
    obtain ⟨t, T⟩ := T
    have e0 := hmg.symm.trans (PySem.W.mg_of KX G T.law)
    cases e0                                       -- fa is the law's own address
    exact ⟨_, fun s u => .of_eq rfl, fun base kb nb => My.law_fn T kb nb⟩     -- if «.of_eq rfl» comes too early: refine' ⟨_, ?b, fun base kb nb => My.law_fn T kb nb⟩; exact fun s u => .of_eq rfl
  case S => exact fun w H a ns hl hO hS => ..
  case C => exact ..
(the tactic k_is has no namespace: write k_is) -/
namespace L2
open PySem PySem.Spec PyProof.Rows
def defArgs (s : Stmt) : Arguments := match s with
  | .FunctionDef _ a _ _ _ _ _ _ _ _ => a
  | _ => { posonlyargs := [], args := [], vararg := none, kwonlyargs := [], kw_defaults := [], kwarg := none, defaults := [] }
def defBody (s : Stmt) : List Stmt := match s with
  | .FunctionDef _ _ b _ _ _ _ _ _ _ => b
  | _ => []
def defScope (s : Stmt) : Scope := match s with
  | .FunctionDef _ _ _ _ _ _ sc _ _ _ => sc
  | _ => { kind := .function, names := [], isGenerator := false, isCoroutine := false }
abbrev CX0 : CXT := fun _ _ _ _ _ _ => False
abbrev E0 : XK := fun _ _ _ => False
theorem pass0 {X : Cx} : Passes CX0 X E0 := fun _ _ _ _ _ _ _ h => h.elim
structure Fun (K : PySem.W.Frag) (x qual : Str) (st : Stmt) (f : Addr) (fd : FuncData) : Prop where
  ex : ∃ (oc : Value) (od : Option Addr) (kV doc pm : Value) (an : Option Addr) (cdv ct : Value) (osl : Array (Option Value)),
    fd = PySem.W.fnOf x qual (defArgs st) (defBody st) (defScope st) .none kV doc pm an cdv ct ∧ K.lookup f = some ⟨oc, od, .func fd, osl⟩ ∧ PySem.W.codeIn K cdv qual = true
  kp : PySem.W.keepIn K (.ref f) = true
section
variable {P : Program} {w : World} {K : PySem.W.Frag} {mg : Str → Option Value} {base : Heap}
theorem Fun.ok {x qual : Str} {st : Stmt} {f : Addr} {fd : FuncData} {N ps : List Str} {k : Nat} {sp : Sp} (F : Fun K x qual st f fd) (S : FnScope N ps (defScope st)) (len : ∀ vs H Q E, sp vs H Q E → vs.length = ps.length)
    (hbody : ∀ (cdv : Value) (A : Around) (outer : List Env) (s : Shared) (H : Hp) (vs : List V) (Q : VK) (E : XK), Room k (A.deeper (envOfC qual (defScope st) s.heap.objs.size f cdv)) → sp vs H Q E →
      ∃ t, PSs (cxOf CX0 P w K mg base N qual (defScope st) f cdv A outer s H E).nox (defBody st) t ∧ t { nx := fun _ H' => Q .non H', rt := Q } (start N vs) H) : FnOk P w K mg base CX0 (k + 1) f fd ps sp := by
  obtain ⟨oc, od, kV, doc, pm, an, cdv, ct, osl, rfl, lk, hcd⟩ := F.ex
  refine fn_of lk hcd S len fun A outer s H vs Q E hr hsp => ?_
  obtain ⟨t, h, q⟩ := hbody cdv A outer s H vs Q E hr hsp
  exact ⟨t, h.nox, q⟩
theorem Fun.binds {x qual : Str} {st : Stmt} {f : Addr} {fd : FuncData} {ps : List Str} (F : Fun K x qual st f fd)
    (h : ∀ (kV doc pm : Value) (an : Option Addr) (cdv ct : Value) (us : List Value), us.length = ps.length → bindArgs (PySem.W.fnOf x qual (defArgs st) (defBody st) (defScope st) .none kV doc pm an cdv ct) ⟨us, []⟩ = pure (ps.zip us)) : Binds K fd ps [] := by
  obtain ⟨oc, od, kV, doc, pm, an, cdv, ct, osl, rfl, lk, hcd⟩ := F.ex
  exact .all (h kV doc pm an cdv ct)
theorem fun_mk {x qual : Str} {st : Stmt} {f : Addr} {oc : Value} {od an : Option Addr} {osl : Array (Option Value)} {kV doc pm cdv ct : Value} (l : K.lookup f = some ⟨oc, od, .func (PySem.W.fnOf x qual (defArgs st) (defBody st) (defScope st) .none kV doc pm an cdv ct), osl⟩)
    (c : PySem.W.codeIn K cdv qual = true) (k : PySem.W.keepIn K (.ref f) = true) : Fun K x qual st f (PySem.W.fnOf x qual (defArgs st) (defBody st) (defScope st) .none kV doc pm an cdv ct) := ⟨⟨oc, od, kV, doc, pm, an, cdv, ct, osl, rfl, l, c⟩, k⟩
end
section
variable {X : Cx}
theorem pv (i : Nat) {x : Str} {pos : Pos} (hN : X.N[i]? = some x := by rfl) (hv : Vis X.env.scope x := by first | exact Or.inl rfl | exact Or.inr (Or.inl rfl) | exact Or.inr (Or.inr rfl)) (hd : (x == ("__debug__" : Str)) = false := by decide)
    (hcd : (x == ("__classdict__" : Str)) = false := by decide) : PE X (.Name x pos) (tVar i) := pe_var hN hv hd hcd
end
def Same (H H' : Hp) : Prop := ∀ b o, H b = some o → H' b = some o
theorem Same.refl (H : Hp) : Same H H := fun _ _ h => h
theorem Same.trans {H H1 H2 : Hp} (a : Same H H1) (b : Same H1 H2) : Same H H2 := fun c o h => b c o (a c o h)
theorem Same.free {H H' : Hp} (e : Same H H') {l : Addr} (h : H' l = Option.none) : H l = Option.none := by
  cases q : H l with
  | none => rfl
  | some o =>
    rw [e l o q] at h
    cases h
theorem Same.seq {K : PySem.W.Frag} {H H' : Hp} {a : Addr} {xs : List V} (e : Same H H') (h : SqL K H a xs) : SqL K H' a xs := by
  rcases h with (h | ⟨o, h⟩) | h
  · exact .inl (.inl (e _ _ h))
  · exact .inl (.inr ⟨o, e _ _ h⟩)
  · exact .inr h
end L2
namespace L2
open PySem PySem.Spec PyProof.Rows
def Cal (P : Program) (w : World) (K : PySem.W.Frag) (mg : Str → Option Value) (base : Heap) (k : Nat) (x : Str) (ps : List Str) (sp : Sp) : Prop :=
  ∃ f fd, FnOk P w K mg base CX0 k f fd ps sp ∧ mg x = some (.ref f) ∧ PySem.W.keepIn K (.ref f) = true ∧ Binds K fd ps []
structure Df (K : PySem.W.Frag) (mg : Str → Option Value) (x : Str) (st : Stmt) (ps : List Str) (f : Addr) (fd : FuncData) : Prop where
  fn : Fun K x x st f fd
  bd : Binds K fd ps []
  at' : mg x = some (.ref f)
theorem Df.cal {P : Program} {w : World} {K : PySem.W.Frag} {mg : Str → Option Value} {base : Heap} {k : Nat} {x : Str} {st : Stmt} {ps : List Str} {f : Addr} {fd : FuncData} {sp : Sp}
    (F : Df K mg x st ps f fd) (G : FnOk P w K mg base CX0 k f fd ps sp) : Cal P w K mg base k x ps sp := ⟨f, fd, G, F.at', F.fn.kp, F.bd⟩
theorem pe_callD {X : Cx} {k : Nat} {x : Str} {ps : List Str} {sp : Sp} {p pos : Pos} {e : Expr} {es : List Expr} {t : TA}
    (C : Cal X.prog X.w X.K X.mg X.base k x ps sp) (hr : Room k X.A) (ha : PA X (e :: es) t) (hg : Gl X x := by rfl) (hdb : (x == ("__debug__" : Str)) = false := by decide)
    (he : starEach (e :: es) X.env = (false, eval e X.env) :: starEach es X.env := by rfl) (hpl : (backTo pos (starEach es X.env)).any (·.1) = false := by rfl) :
    PE X (.Call (.Name x p) (e :: es) [] pos) (tCall sp [] E0 t) := by
  obtain ⟨f, fd, G, a, b, c⟩ := C
  exact pe_call G hr hg a b c .nil pass0 ha hdb he hpl
def Sz (n : Nat) (a : Int) : Prop := a.natAbs < 2 ^ n
theorem Sz.mono {m n : Nat} {a : Int} (h : Sz m a) (l : m ≤ n) : Sz n a := Nat.lt_of_lt_of_le h (Nat.pow_le_pow_right (by decide) l)
theorem Sz.mul {m n : Nat} {a b : Int} (h : Sz m a) (g : Sz n b) : Sz (m + n) (a * b) := by
  unfold Sz at *
  rw [Int.natAbs_mul, Nat.pow_add]
  exact Nat.mul_lt_mul'' h g
theorem Sz.add {m n : Nat} {a b : Int} (h : Sz m a) (g : Sz n b) : Sz (max m n + 1) (a + b) := by
  have h1 : Sz (max m n) a := h.mono (Nat.le_max_left _ _)
  have h2 : Sz (max m n) b := g.mono (Nat.le_max_right _ _)
  unfold Sz at *
  have := Int.natAbs_add_le a b
  rw [Nat.pow_succ]
  omega
theorem Sz.neg {n : Nat} {a : Int} (h : Sz n a) : Sz n (-a) := by
  unfold Sz at *
  rw [Int.natAbs_neg]
  exact h
theorem Sz.sub {m n : Nat} {a b : Int} (h : Sz m a) (g : Sz n b) : Sz (max m n + 1) (a - b) := by
  rw [Int.sub_eq_add_neg]
  exact h.add g.neg
theorem Sz.of_abs {n : Nat} {a b : Int} (h : Sz n b) (l : a.natAbs ≤ b.natAbs) : Sz n a := Nat.lt_of_le_of_lt l h
theorem Sz.mulOk {m n : Nat} {a b : Int} (h : Sz m a) (g : Sz n b) (l : m + n ≤ 134217728) : IntMulOk a b :=
  IntMulOk.of_le (PySem.intBits_le_iff.mpr h) (PySem.intBits_le_iff.mpr g) l
theorem Sz.log2 {n : Nat} {a : Int} (h : Sz n a) (h0 : a ≠ 0) (l : n ≤ 9000) : a.natAbs.log2 < 9000 :=
  Nat.lt_of_lt_of_le ((Nat.log2_lt (by omega)).mpr h) l
section
variable {X : Cx} {a b : Expr} {ta tb : TE} {pos : Pos}
theorem op_mulM : OpR X (binaryOp .Mult) (rI IntMulOk fun i j => .int (i * j)) := opI fun _ _ _ _ _ _ _ hc q => mul_int q hc
end
mutual
inductive RdD (K : PySem.W.Frag) (H : Hp) : V → PyData → Prop where
  | non : RdD K H .non .none
  | bl (b : Bool) : RdD K H (.bl b) (.bool b)
  | int (i : Int) : RdD K H (.int i) (.int i)
  | str (x : Str) : RdD K H (.str x) (.str x)
  | tup {a : Addr} {xs : List V} {ds : List PyData} : SqT K H a xs → RdDs K H xs ds → RdD K H (.ref a) (.tuple ds)
  | lst {a : Addr} {xs : List V} {ds : List PyData} : SqL K H a xs → RdDs K H xs ds → RdD K H (.ref a) (.list ds)
inductive RdDs (K : PySem.W.Frag) (H : Hp) : List V → List PyData → Prop where
  | nil : RdDs K H [] []
  | cons {x : V} {d : PyData} {xs : List V} {ds : List PyData} : RdD K H x d → RdDs K H xs ds → RdDs K H (x :: xs) (d :: ds)
end
section
variable {X : Cx} {pins : List (Addr × Obj)} {σ : St} {H : Hp} {s : Shared}
mutual
theorem RdD.reads (I : Inv X pins σ H s) : ∀ {x : V} {d : PyData} {u : Value}, RdD X.K H x d → RelV x u → ∃ as, Reads s.heap u d as
  | _, _, _, .non, r => by cases r; exact ⟨_, .none⟩
  | _, _, _, .bl b, r => by cases r; exact ⟨_, .bool b⟩
  | _, _, _, .int i, r => by obtain ⟨t, rfl⟩ := r; exact ⟨_, .int i t⟩
  | _, _, _, .str x, r => by obtain ⟨t, rfl⟩ := r; exact ⟨_, .str x t⟩
  | _, _, _, .tup hq hr, r => by
    cases r
    obtain ⟨its, rv, pl, hz⟩ := I.tuple hq
    obtain ⟨as, q⟩ := RdDs.reads I hr rv
    obtain ⟨o, ho, hc, n, hd⟩ := pl
    exact ⟨_, .tuple ho hc hd (by simpa using q)⟩
  | _, _, _, .lst hq hr, r => by
    cases r
    obtain ⟨its, rv, pl, hz⟩ := I.list hq
    obtain ⟨as, q⟩ := RdDs.reads I hr rv
    obtain ⟨o, ho, hc, n, hd⟩ := pl.isList
    exact ⟨_, .list ho hc hd (by simpa using q)⟩
theorem RdDs.reads (I : Inv X pins σ H s) : ∀ {xs : List V} {ds : List PyData} {us : List Value}, RdDs X.K H xs ds → Vals xs us → ∃ as, ReadsAll s.heap us ds as
  | _, _, _, .nil, r => by cases r; exact ⟨_, .nil⟩
  | _, _, _, .cons h t, r => by
    cases r with
    | cons r1 r2 =>
      obtain ⟨as, q⟩ := RdD.reads I h r1
      obtain ⟨bs, p⟩ := RdDs.reads I t r2
      exact ⟨_, .cons q p⟩
end
end
theorem RdDs.ints {K : PySem.W.Frag} {H : Hp} : ∀ ns : List Int, RdDs K H (ns.map V.int) (ns.map PyData.int)
  | [] => .nil
  | n :: r => .cons (.int n) (RdDs.ints r)
theorem RdD.ints {K : PySem.W.Frag} {H : Hp} {a : Addr} {ns : List Int} (h : SqT K H a (ns.map V.int)) : RdD K H (.ref a) (.tuple (ns.map PyData.int)) := .tup h (.ints ns)
theorem eqv_ints : ∀ ns ms : List Int, PyData.eqvAll (ns.map PyData.int) (ms.map PyData.int) = decide (ns = ms)
  | [], [] => by simp [PyData.eqvAll]
  | [], _ :: _ => by simp [PyData.eqvAll]
  | _ :: _, [] => by simp [PyData.eqvAll]
  | a :: r, b :: t => by
    simp only [List.map_cons, PyData.eqvAll, PyData.eqv, eqv_ints r t]
    by_cases h : a = b <;> by_cases h' : r = t <;> simp [h, h']
theorem shaped_ints (ns : List Int) : SeqAt.shaped (.tuple (ns.map PyData.int)) = true := by
  simp [SeqAt.shaped, PyData.canLay0, PyData.depth, PySem.W.ke_canLayAll0, PySem.W.ke_depthAll]
section
variable {X : Cx}
def rEqD (K : PySem.W.Frag) (f : Bool → Bool) : R2 := fun x y H Q => ∃ d e, RdD K H x d ∧ RdD K H y e ∧ SeqAt.shaped d = true ∧ SeqAt.shaped e = true ∧ Q (.bl (f (PyData.eqv d e))) H
theorem op_eqD (hu : X.A.units + 64 < cLine) : OpR X (compareOp .Eq) (rEqD X.K fun b => b) := by
  intro pins s σ H x y v u Q I rx ry h
  obtain ⟨d, e, hd, he, s1, s2, q⟩ := h
  obtain ⟨as, r1⟩ := RdD.reads I hd rx
  obtain ⟨bs, r2⟩ := RdD.reads I he ry
  exact eq_dataH r1 r2 s1 s2 hu ⟨.bl _, H, I, rfl, q⟩
theorem op_neD (hu : X.A.units + 64 < cLine) : OpR X (compareOp .NotEq) (rEqD X.K fun b => !b) := by
  intro pins s σ H x y v u Q I rx ry h
  obtain ⟨d, e, hd, he, s1, s2, q⟩ := h
  obtain ⟨as, r1⟩ := RdD.reads I hd rx
  obtain ⟨bs, r2⟩ := RdD.reads I he ry
  exact ne_dataH r1 r2 s1 s2 hu ⟨.bl _, H, I, rfl, q⟩
def rEqT (K : PySem.W.Frag) (f : Bool → Bool) : R2 := fun x y H Q => ∃ (a b : Addr) (ns ms : List Int), x = .ref a ∧ y = .ref b ∧ SqT K H a (ns.map V.int) ∧ SqT K H b (ms.map V.int) ∧ Q (.bl (f (decide (ns = ms)))) H
theorem op_eqT (hu : X.A.units + 64 < cLine) : OpR X (compareOp .Eq) (rEqT X.K fun b => b) := by
  intro pins s σ H x y v u Q I rx ry h
  obtain ⟨a, b, ns, ms, rfl, rfl, ha, hb, q⟩ := h
  exact op_eqD hu pins s σ H _ _ v u Q I rx ry ⟨_, _, .ints ha, .ints hb, shaped_ints _, shaped_ints _, by rw [PyData.eqv, eqv_ints]; exact q⟩
theorem op_neT (hu : X.A.units + 64 < cLine) : OpR X (compareOp .NotEq) (rEqT X.K fun b => !b) := by
  intro pins s σ H x y v u Q I rx ry h
  obtain ⟨a, b, ns, ms, rfl, rfl, ha, hb, q⟩ := h
  exact op_neD hu pins s σ H _ _ v u Q I rx ry ⟨_, _, .ints ha, .ints hb, shaped_ints _, shaped_ints _, by rw [PyData.eqv, eqv_ints]; exact q⟩
theorem call_isi : CallR X (.builtin "isinstance") (fun xs H Q => ∃ x t T b, xs = [x, .ty T] ∧ TyOf X.K H x t ∧ PySem.W.kitOne X.K t (.type T) = some b ∧ Q (.bl b) H) := by
  intro pins s σ H xs us Q I r h
  obtain ⟨x, t, T, b, rfl, ht, hk, q⟩ := h
  obtain ⟨u, c, rfl, ru, rc⟩ := vals2 r
  cases rc
  exact isinst_ok I ru ht hk fun tk => ⟨.bl b, H, I.tok tk, rfl, q⟩
end
theorem Same.tup {K : PySem.W.Frag} {H H' : Hp} {a : Addr} {xs : List V} (e : Same H H') (h : SqT K H a xs) : SqT K H' a xs := by
  rcases h with (h | ⟨o, h⟩) | h
  · exact .inl (.inl (e _ _ h))
  · exact .inl (.inr ⟨o, e _ _ h⟩)
  · exact .inr h
theorem Same.upd {H : Hp} {p : Addr} (h : H p = none) (o : HO) : Same H (upd H p o) := fun b u q => by
  rw [upd_ne (ne_of_none q h)]
  exact q
end L2
namespace L2
open PySem PySem.Spec PyProof.Rows
section
variable {X : Cx} {K : PySem.W.Frag} {σ : St} {H : Hp} {Q : VK} {D : Ends} {B : Bool → Hp → Prop}
theorem z_seq {t u : TS} : tSeq t u D σ H = t { D with nx := u D } σ H := rfl
theorem z_next : tNext D σ H = D.nx σ H := rfl
theorem z_ifS {c : TT} {t u : TS} : tIfS c t u D σ H = c σ H (fun b H1 => if b = true then t D σ H1 else u D σ H1) := rfl
theorem z_ret {te : TE} : tRet te D σ H = te σ H D.rt := rfl
theorem z_drop {te : TE} : tDrop te D σ H = te σ H (fun _ H1 => D.nx σ H1) := rfl
theorem z_asg {te : TE} {g : TG} : tAsg te g D σ H = te σ H (fun x H1 => g x σ H1 D.nx) := rfl
theorem z_gname {i : Nat} {v : V} {R : St → Hp → Prop} : gName i v σ H R = R (σ.set i (some v)) H := rfl
theorem z_par {i j : Nat} {ta : TA} : tPar i j ta D σ H = ta σ H (fun vs H1 => ∃ v w, vs = [v, w] ∧ D.nx ((σ.set i (some v)).set j (some w)) H1) := rfl
theorem z_var0 {v : V} {r : St} : tVar 0 (some v :: r) H Q = Q v H := propext ⟨fun ⟨_, e, h⟩ => by cases e; exact h, fun h => ⟨v, rfl, h⟩⟩
theorem z_varS {i : Nat} {o : Option V} {r : St} : tVar (i + 1) (o :: r) H Q = tVar i r H Q := rfl
theorem z_c {v : V} : tC v σ H Q = Q v H := rfl
theorem z_op {r : R2} {ta tb : TE} : tOp r ta tb σ H Q = ta σ H (fun x H1 => tb σ H1 fun y H2 => r x y H2 Q) := rfl
theorem z_un {r : V → Hp → VK → Prop} {ta : TE} : tUn r ta σ H Q = ta σ H (fun x H1 => r x H1 Q) := rfl
theorem z_rI {C : Int → Int → Prop} {g : Int → Int → V} {i j : Int} : rI C g (.int i) (.int j) H Q = (C i j ∧ Q (g i j) H) :=
  propext ⟨fun ⟨_, _, e, f, h⟩ => by cases e; cases f; exact h, fun h => ⟨i, j, rfl, rfl, h⟩⟩
theorem z_rI0 {g : Int → Int → V} {i j : Int} : rI0 g (.int i) (.int j) H Q = Q (g i j) H :=
  propext ⟨fun ⟨_, _, e, f, h⟩ => by cases e; cases f; exact h, fun h => ⟨i, j, rfl, rfl, h⟩⟩
theorem z_rU {g : Int → V} {i : Int} : rU g (.int i) H Q = Q (g i) H := propext ⟨fun ⟨_, e, h⟩ => by cases e; exact h, fun h => ⟨i, rfl, h⟩⟩
theorem z_eqI {i j : Int} : rEq (.int i) (.int j) H Q = Q (.bl (decide (i = j))) H := by
  unfold rEq
  simp only [scal, V.int.injEq, true_and]
theorem z_neI {i j : Int} : rNe (.int i) (.int j) H Q = Q (.bl (!decide (i = j))) H := by
  unfold rNe
  simp only [scal, V.int.injEq, true_and]
theorem z_eqB {i j : Bool} : rEq (.bl i) (.bl j) H Q = Q (.bl (decide (i = j))) H := by
  unfold rEq
  simp only [scal, V.bl.injEq, true_and]
theorem z_neB {i j : Bool} : rNe (.bl i) (.bl j) H Q = Q (.bl (!decide (i = j))) H := by
  unfold rNe
  simp only [scal, V.bl.injEq, true_and]
theorem z_test {t : TE} : tTest t σ H B = t σ H (fun x H' => ∃ k, x = .bl k ∧ B k H') := rfl
theorem z_tB {t : TE} : tB t σ H B = t σ H (fun x H' => ∃ k, x = .bl k ∧ B k H') := rfl
theorem z_exb {b : Bool} {p : Bool → Prop} : (∃ k, V.bl b = .bl k ∧ p k) = p b := propext ⟨fun ⟨_, e, h⟩ => by cases e; exact h, fun h => ⟨b, rfl, h⟩⟩
theorem z_exi {b : Int} {p : Int → Prop} : (∃ k, V.int b = .int k ∧ p k) = p b := propext ⟨fun ⟨_, e, h⟩ => by cases e; exact h, fun h => ⟨b, rfl, h⟩⟩
theorem z_ex2 {a b : V} {p : V → V → Prop} : (∃ v w, [a, b] = [v, w] ∧ p v w) = p a b := propext ⟨fun ⟨_, _, e, h⟩ => by cases e; exact h, fun h => ⟨a, b, rfl, h⟩⟩
theorem z_exl1 {b : Int} {p : Int → Prop} : (∃ k, [V.int b] = [.int k] ∧ p k) = p b := propext ⟨fun ⟨_, e, h⟩ => by cases e; exact h, fun h => ⟨b, rfl, h⟩⟩
theorem z_exl2 {a b : Int} {p : Int → Int → Prop} : (∃ i j, [V.int a, V.int b] = [.int i, .int j] ∧ p i j) = p a b := propext ⟨fun ⟨_, _, e, h⟩ => by cases e; exact h, fun h => ⟨a, b, rfl, h⟩⟩
theorem z_not {t : TT} : tNot t σ H B = t σ H (fun c H1 => B (!c) H1) := rfl
theorem z_and {t u : TT} : tAnd t u σ H B = t σ H (fun c H1 => if c = true then u σ H1 B else B false H1) := rfl
theorem z_or {t u : TT} : tOr t u σ H B = t σ H (fun c H1 => if c = true then B true H1 else u σ H1 B) := rfl
theorem z_andV {ta tb : TE} : tAndV ta tb σ H Q = ta σ H (fun x H1 => ∃ c, x = .bl c ∧ if c = true then tb σ H1 Q else Q (.bl false) H1) := rfl
theorem z_orV {ta tb : TE} : tOrV ta tb σ H Q = ta σ H (fun x H1 => ∃ c, x = .bl c ∧ if c = true then Q (.bl true) H1 else tb σ H1 Q) := rfl
theorem z_notV {ta : TE} : tNotV ta σ H Q = ta σ H (fun x H1 => ∃ c, x = .bl c ∧ Q (.bl (!c)) H1) := rfl
theorem z_if {t : TT} {ta tb : TE} : tIf t ta tb σ H Q = t σ H (fun c H1 => if c = true then ta σ H1 Q else tb σ H1 Q) := rfl
theorem z_call {sp : Sp} {dvs : List V} {E : XK} {t : TA} : tCall sp dvs E t σ H Q = t σ H (fun vs H1 => sp (vs ++ dvs) H1 Q E) := rfl
theorem z_nil {R : List V → Hp → Prop} : tNil σ H R = R [] H := rfl
theorem z_cons {te : TE} {t : TA} {R : List V → Hp → Prop} : tCons te t σ H R = te σ H (fun x H1 => t σ H1 fun xs H2 => R (x :: xs) H2) := rfl
theorem z_cb {r : List V → Hp → VK → Prop} {t : TA} : tCB r t σ H Q = t σ H (fun vs H1 => r vs H1 Q) := rfl
theorem z_tup {t : TA} : tTup t σ H Q = t σ H (fun xs H1 => xs.length ≤ sizeLine ∧ ∀ p, H1 p = none → Q (.ref p) (upd H1 p (.tup xs))) := rfl
theorem z_lst {t : TA} : tLst t σ H Q = t σ H (fun xs H1 => xs.length ≤ sizeLine ∧ ∀ p, H1 p = none → Q (.ref p) (upd H1 p (.lst xs))) := rfl
theorem z_chain {r r' : R2} {ta tb tc : TE} : tChain r r' ta tb tc σ H Q = ta σ H (fun x H1 => tb σ H1 fun y H2 => r x y H2 fun z H3 => ∃ k, z = .bl k ∧ (if k = true then tc σ H3 fun w' H4 => r' y w' H4 Q else Q (.bl false) H3)) := rfl
theorem z_ixT {a : Addr} {xs : List V} {i : Int} {v : V} (h : SqT K H a xs) (e : atI xs i = some v) (q : Q v H) : rIxT K (.ref a) (.int i) H Q := ⟨a, xs, i, v, rfl, rfl, h, e, q⟩
theorem z_ixL {a : Addr} {xs : List V} {i : Int} {v : V} (h : SqL K H a xs) (e : atI xs i = some v) (q : Q v H) : rIxL K (.ref a) (.int i) H Q := ⟨a, xs, i, v, rfl, rfl, h, e, q⟩
end
def CDivP (_ j : Int) : Prop := 0 < j ∧ j.natAbs.log2 < 9000
theorem op_fdivP {X : Cx} : OpR X (binaryOp .FloorDiv) (rI CDivP fun i j => .int (i / j)) := opI fun i j _ _ _ _ _ hc q => by
  have h : j ≠ 0 := by have := hc.1; omega
  refine floordiv_int h ?_ (.inl (PyProof.noPylong_of_log2 hc.2))
  rw [Int.fdiv_eq_ediv_of_nonneg _ (Int.le_of_lt hc.1)]
  exact q
theorem small1 : (1 : Nat) ≤ sizeLine := by decide
theorem small2 : (2 : Nat) ≤ sizeLine := by decide
end L2
namespace L2
open PySem PySem.Spec PyProof.Rows
def clF (env : Env) (cs : List (Str × Addr)) (x : Str × NameKind) : List (Str × Addr) := if x.2 == .free then (x.1, (env.cells.lookup x.1).getD 0) :: cs else cs
theorem closure_eq {scope : Scope} {env : Env} (h : ∀ x ∈ scope.names, x.2 = .free → ∃ c, env.cells.lookup x.1 = some c) : closureFor scope env = pure (scope.names.foldl (clF env) []) := by
  unfold closureFor
  have key : ∀ (names : List (Str × NameKind)) (init : List (Str × Addr)), (∀ x ∈ names, x.2 = .free → ∃ c, env.cells.lookup x.1 = some c) →
      (forIn names init (fun (x : Str × NameKind) (cs : List (Str × Addr)) => (if x.2 == .free then (do let c ← cellOf env x.1; pure (ForInStep.yield ((x.1, c) :: cs))) else pure (ForInStep.yield cs) : Sem (ForInStep (List (Str × Addr)))))) = (pure (names.foldl (clF env) init) : Sem (List (Str × Addr))) := by
    intro names
    induction names with
    | nil => intro init _; rfl
    | cons x r ih =>
      intro init hx
      rw [List.forIn_cons, List.foldl_cons]
      by_cases hf : x.2 = .free
      · obtain ⟨c, hc⟩ := hx x List.mem_cons_self hf
        have e1 : cellOf env x.1 = pure c := by unfold cellOf; rw [hc]
        have e2 : clF env init x = (x.1, c) :: init := by unfold clF; rw [hf, hc]; rfl
        rw [e2, ← ih _ fun y hy => hx y (List.mem_cons_of_mem _ hy)]
        rw [hf, e1]
        rfl
      · have e0 : (x.2 == NameKind.free) = false := by simpa using hf
        have e2 : clF env init x = init := by unfold clF; rw [e0]; rfl
        rw [e2, ← ih _ fun y hy => hx y (List.mem_cons_of_mem _ hy), e0]
        rfl
  exact (congrArg (fun m => m >>= fun r => pure r) (key scope.names [] h)).trans (by rfl)
theorem clF_look {env : Env} : ∀ (names : List (Str × NameKind)) (init : List (Str × Addr)) (y : Str) (c : Addr), (∀ x ∈ names, x.2 = .free → ∃ c, env.cells.lookup x.1 = some c) → (names.foldl (clF env) init).lookup y = some c → init.lookup y = some c ∨ env.cells.lookup y = some c
  | [], _, _, _, _, h => .inl h
  | x :: r, init, y, c, hx, h => by
    rw [List.foldl_cons] at h
    rcases clF_look r _ y c (fun z hz => hx z (List.mem_cons_of_mem _ hz)) h with h1 | h1
    · unfold clF at h1
      by_cases hf : x.2 = .free
      · obtain ⟨d, hd⟩ := hx x List.mem_cons_self hf
        rw [hf, hd] at h1
        change List.lookup y ((x.1, d) :: init) = some c at h1
        rw [List.lookup_cons] at h1
        cases hy : y == x.1 with
        | true =>
          rw [hy] at h1
          have : y = x.1 := by simpa using hy
          subst this
          exact .inr (hd.trans h1)
        | false =>
          rw [hy] at h1
          exact .inl h1
      · have e0 : (x.2 == NameKind.free) = false := by simpa using hf
        rw [e0] at h1
        exact .inl h1
    · exact .inr h1
theorem clF_has {env : Env} : ∀ (names : List (Str × NameKind)) (init : List (Str × Addr)) (y : Str), ((∃ x ∈ names, x.2 = .free ∧ x.1 = y) ∨ ∃ c, init.lookup y = some c) → ∃ c, (names.foldl (clF env) init).lookup y = some c
  | [], _, _, h => by
    rcases h with ⟨_, h, _⟩ | h
    · cases h
    · exact h
  | x :: r, init, y, h => by
    rw [List.foldl_cons]
    apply clF_has r
    rcases h with ⟨z, hz, hf, rfl⟩ | ⟨c, hc⟩
    · rcases List.mem_cons.mp hz with rfl | hz
      · refine .inr ⟨(env.cells.lookup z.1).getD 0, ?_⟩
        unfold clF
        rw [hf]
        show List.lookup z.1 ((z.1, _) :: init) = _
        rw [List.lookup_cons]
        simp
      · exact .inl ⟨z, hz, hf, rfl⟩
    · refine .inr ?_
      unfold clF
      by_cases hf : x.2 = .free
      · rw [hf]
        show ∃ c, List.lookup y ((x.1, _) :: init) = some c
        rw [List.lookup_cons]
        cases y == x.1 with
        | true => exact ⟨_, rfl⟩
        | false => exact ⟨c, hc⟩
      · have e0 : (x.2 == NameKind.free) = false := by simpa using hf
        rw [e0]
        exact ⟨c, hc⟩
theorem compLoop_any {prog : Program} {w : World} {A : Around} {R : Result → Shared → Prop} {s : Shared} {elt target iter : Expr} {ifs : List Expr} {scope : Scope} {pos : Pos} {it acc : Value} {env : Env} (I : Nat → Shared → Prop)
    (turn : ∀ n s, I n s → wpAny (model prog w) A (pyNext it) (fun r s₁ => match r with
      | none => R (.ok .next) s₁
      | some v => wpAny (model prog w) A (letOwnedTupleGo target it v) (fun _ s₀ => wpAny (model prog w) A (assign target env v) (fun _ s₂ =>
          wpAny (model prog w) A (forIn ifs true fun c r => if r = true then do let ok ← isTrue c env (eval c env); pure (ForInStep.yield ok) else pure (ForInStep.yield r)) (fun ok s₃ =>
            if ok = true then wpAny (model prog w) A (eval elt env) (fun x s₄ =>
              wpAny (model prog w) A (call (.builtin "list.append") [acc, x]) (fun _ s₅ => ∃ m, m < n ∧ I m s₅) (fun _ _ => False) s₄) (fun _ _ => False) s₃
            else ∃ m, m < n ∧ I m s₃) (fun _ _ => False) s₂) (fun _ _ => False) s₀) (fun _ _ => False) s₁) (fun _ _ => False) s)
    (n : Nat) (h : I n s) :
    codeAny (model prog w) A (.compLoop (.ListComp elt [⟨target, iter, ifs, 0⟩] scope pos) 0 it acc env) R s := by
  have no : ∀ (x : Value) (s' : Shared), False → notedBy (model prog w) A env (fun e s' => R (.error e) s') x s' := fun _ _ z => z.elim
  refine codeAny_loop rfl I (fun n s hI => ?_) n h
  show wpAny _ A ((compTurn (.ListComp elt [⟨target, iter, ifs, 0⟩] scope pos) 0 it acc env).onRaise (fun x => do noteFrame x env; theTreesLotGoes x)) _ _ s
  refine wpAny_noted ?_
  rw [compTurn_list]
  refine wpAny_bind (wpAny_standAt (wpAny_bind (wpAny_mono (turn n s hI) (fun r s₁ h₁ => ?_) no)))
  cases r with
  | none => exact wpAny_pure h₁
  | some v =>
    refine wpAny_bind (wpAny_mono h₁ (fun _ s₀ h₀ => ?_) no)
    refine wpAny_bind (wpAny_mono h₀ (fun _ s₂ h₂ => wpAny_bind (wpAny_mono h₂ (fun ok s₃ h₃ => ?_) no)) no)
    cases ok with
    | false => exact wpAny_pure ⟨rfl, h₃⟩
    | true =>
      exact wpAny_bind (wpAny_bind (wpAny_mono h₃ (fun x s₄ h₄ => wpAny_bind (wpAny_mono h₄ (fun _ s₅ h₅ => wpAny_pure (wpAny_pure ⟨rfl, h₅⟩)) no)) no))
def cxC (X : Cx) (N : List Str) (scope : Scope) (ex : List Addr) (s : Shared) (H : Hp) : Cx where
  prog := X.prog
  w := X.w
  K := X.K
  mg := X.mg
  base := X.base
  A := X.A
  N := N
  s₀ := s
  H₀ := H
  env := compEnvC scope (scope.names.foldl (clF X.env) []) s.heap.objs.size X.env
  outer := X.stack
  stack := X.stack
  ex := ex
  fn := fun _ => false
  calm := X.calm
  pn := []
  xe := fun _ _ => False
structure CpScope (X : Cx) (ts : List Str) (fs : List (Nat × Str)) (scope : Scope) : Prop where
  kind : scope.kind = .function
  cell : ∀ y ∈ scope.names, y.2 ≠ .cell
  names : ∀ y ∈ scope.names, y.2 = .local → scope.names.lookup y.1 = some .local
  free : ∀ y ∈ scope.names, y.2 = .free → X.env.kindOf y.1 = some .cell ∨ X.env.kindOf y.1 = some .free
  at' : ∀ p ∈ fs, X.N[p.1]? = some p.2 ∧ (p.2, NameKind.free) ∈ scope.names ∧ ((relabel scope X.env).names.lookup p.2 = some .cell ∨ (relabel scope X.env).names.lookup p.2 = some .free)
def rlb (sc scope : Scope) : List (Str × NameKind) := scope.names.map fun (n, k) => if (k == NameKind.free && sc.kind == .function && sc.names.lookup n == some .cell) then (n, NameKind.cell) else (n, k)
def cpOk (sc : Scope) (N : List Str) (fs : List (Nat × Str)) (scope : Scope) : Bool :=
  (scope.kind == .function) && (scope.names.all fun y => y.2 != .cell) && (scope.names.all fun y => y.2 != .local || scope.names.lookup y.1 == some .local) &&
  (scope.names.all fun y => y.2 != .free || (sc.names.lookup y.1 == some .cell || sc.names.lookup y.1 == some .free)) &&
  fs.all fun p => N[p.1]? == some p.2 && (scope.names.contains (p.2, NameKind.free) && ((rlb sc scope).lookup p.2 == some .cell || (rlb sc scope).lookup p.2 == some .free))
theorem CpScope.of {X : Cx} {ts : List Str} {fs : List (Nat × Str)} {scope sc : Scope} {N : List Str} (e1 : X.env.scope = sc) (e2 : X.N = N) (h : cpOk sc N fs scope = true) : CpScope X ts fs scope := by
  unfold cpOk at h
  simp only [Bool.and_eq_true, List.all_eq_true, Bool.or_eq_true, bne_iff_ne, beq_iff_eq, List.contains_iff_mem] at h
  obtain ⟨⟨⟨⟨h1, h2⟩, h3⟩, h4⟩, h5⟩ := h
  refine ⟨h1, h2, fun y hy e => ?_, fun y hy e => ?_, fun p hp => ?_⟩
  · rcases h3 y hy with z | z
    · exact absurd e z
    · exact z
  · rcases h4 y hy with z | z
    · exact absurd e z
    · show X.env.scope.names.lookup y.1 = _ ∨ X.env.scope.names.lookup y.1 = _
      rw [e1]
      exact z
  · obtain ⟨a, b, c⟩ := h5 p hp
    refine ⟨by rw [e2]; exact a, b, ?_⟩
    subst e1
    exact c
def cpN (ts : List Str) (fs : List (Nat × Str)) : List Str := ts ++ fs.map (·.2)
def cpσ (n : Nat) (fs : List (Nat × Str)) (σ : St) : St := List.replicate n none ++ fs.map fun p => (σ[p.1]?).join
theorem relabel_look {env : Env} {x : Str} {k' : NameKind} : ∀ {names : List (Str × NameKind)}, (names.map fun (n, k) => if (k == NameKind.free && env.scope.kind == .function && env.kindOf n == some .cell) then (n, NameKind.cell) else (n, k)).lookup x = some k' →
    ∃ k, (x, k) ∈ names ∧ (k' = k ∨ (k = .free ∧ k' = .cell))
  | [], h => by simp at h
  | (n, k) :: r, h => by
    rw [List.map_cons] at h
    dsimp only at h
    by_cases hc : (k == NameKind.free && env.scope.kind == .function && env.kindOf n == some .cell) = true
    · rw [if_pos hc, List.lookup_cons] at h
      cases hx : x == n with
      | true =>
        rw [hx] at h
        have e : x = n := by simpa using hx
        subst e
        have hk : k = .free := by
          rw [Bool.and_eq_true, Bool.and_eq_true] at hc
          simpa using hc.1.1
        exact ⟨k, List.mem_cons_self, .inr ⟨hk, (Option.some.inj h).symm⟩⟩
      | false =>
        rw [hx] at h
        obtain ⟨k2, h1, h2⟩ := relabel_look h
        exact ⟨k2, List.mem_cons_of_mem _ h1, h2⟩
    · rw [if_neg hc, List.lookup_cons] at h
      cases hx : x == n with
      | true =>
        rw [hx] at h
        have e : x = n := by simpa using hx
        subst e
        exact ⟨k, List.mem_cons_self, .inl (Option.some.inj h).symm⟩
      | false =>
        rw [hx] at h
        obtain ⟨k2, h1, h2⟩ := relabel_look h
        exact ⟨k2, List.mem_cons_of_mem _ h1, h2⟩
def PTs (X : Cx) (ifs : List Expr) (t : TT) : Prop :=
  ∀ (pins : List (Addr × Obj)) (s : Shared) (σ : St) (H : Hp) (B : Bool → Hp → Prop), Inv X pins σ H s → t σ H B →
    wpAny (model X.prog X.w) X.A (forIn ifs true fun c r => if r = true then do let ok ← isTrue c X.env (eval c X.env); pure (ForInStep.yield ok) else pure (ForInStep.yield r)) (TP X pins σ B) X.xe s
def tNoIf : TT := fun _ H B => B true H
theorem pts_nil {X : Cx} : PTs X [] tNoIf := fun _ _ _ H _ I h => wpAny_pure ⟨H, I, h⟩
def Kp (σ σ' : St) : Prop := σ'.length = σ.length ∧ ∀ (i : Nat) v, σ[i]? = some (some v) → σ'[i]? = some (some v)
def cIn (J : It) (cσ : St) (g : TG) (tt : TT) (te : TE) (Q : VK) (H1 : Hp) (p : Addr) : Prop := ∃ W : Nat → Nat → List V → Hp → Prop, (∃ m, W 0 m [] (upd H1 p (.lst []))) ∧ ∀ i m acc H2, W i m acc H2 →
  (J.stop i H2 ∧ Q (.ref p) H2) ∨ (J.go i H2 ∧ ∀ x H3, J.yld i H2 x H3 → g x cσ H3 fun σ4 H4 => Kp cσ σ4 ∧ tt σ4 H4 fun b H5 =>
    if b = true then te σ4 H5 fun y H6 => H6 p = some (.lst acc) ∧ acc.length < sizeLine ∧ ∃ m', m' < m ∧ W (i + 1) m' (acc ++ [y]) (upd H6 p (.lst (acc ++ [y]))) else ∃ m', m' < m ∧ W (i + 1) m' acc H5)
def tComp (n : Nat) (fs : List (Nat × Str)) (wi : TI) (g : TG) (tt : TT) (te : TE) : TE := fun σ H Q => wi σ H fun J H1 => ∀ p, H1 p = none → cIn J (cpσ n fs σ) g tt te Q H1 p
section
variable {X : Cx} {elt tg iter : Expr} {ifs : List Expr} {scope : Scope} {pos : Pos} {wi : TI} {g : TG} {tt : TT} {te : TE} {ts : List Str} {fs : List (Nat × Str)}
theorem CpScope.clos (S : CpScope X ts fs scope) (ok : X.Ok) : ∀ x ∈ scope.names, x.2 = .free → ∃ c, X.env.cells.lookup x.1 = some c := fun x hx hf => ok.has x.1 (S.free x hx hf)
theorem CpScope.sub (S : CpScope X ts fs scope) (ok : X.Ok) {y : Str} {c : Addr} (h : (scope.names.foldl (clF X.env) []).lookup y = some c) : X.env.cells.lookup y = some c := by
  rcases clF_look scope.names [] y c (S.clos ok) h with z | z
  · simp at z
  · exact z
theorem comp_start {pins : List (Addr × Obj)} {σ : St} {H : Hp} {s3 s4 : Shared} {ex : List Addr} (S : CpScope X ts fs scope) (I : Inv X pins σ H s3)
    (hex : ∀ b ∈ ex, FpOk X pins H b ∧ ∃ o, s3.heap.get? b = some o) (hos : s4.os = s3.os) (hg : s4.gens = s3.gens) (hk : ∀ b u, s3.heap.get? b = some u → s4.heap.get? b = some u)
    (hn : s4.heap.Ns s3.heap.objs.size fun _ => none) : Inv (cxC X (cpN ts fs) scope ex s3 H) [] (cpσ ts.length fs σ) H s4 := by
  have ok := I.ok
  have noC : ∀ b ∈ ex, b ≠ s3.heap.objs.size := fun b hb => by
    obtain ⟨_, o, ho⟩ := hex b hb
    exact Nat.ne_of_lt (Heap.lt_size ho)
  refine ⟨⟨ok.mod, S.kind, ok.glob, ok.blt, Nat.le_refl _, fun y z c h1 h2 => ok.inj y z c (S.sub ok h1) (S.sub ok h2), fun y hy => ?_, fun y c h _ => absurd h (by intro z; cases z), ok.hd, ok.frames, .inl rfl, fun b hb => ⟨noC b hb, fun x c e => (hex b hb).1.2.2.2.2.1 x c (S.sub ok e)⟩,
    I.bs, Nat.le_trans ok.bsz I.sz, fun b o e hb => ?_, fun b hb => ?_, I.stack, I.stkFree⟩, hos, by rw [hg]; exact I.bare, Un.kept hk, ⟨_, hn, fun i x v h1 h2 h3 => ?_⟩, fun y c e => ?_, I.hok.fresh (Nat.le_refl _), fun y c e => I.freeC y c (S.sub ok e),
    fun p hp => absurd (show p ∈ ([] : List (Addr × Obj)) from hp) (by simp), I.hok.kept hk, ?_⟩
  · have z : ∃ k', (k' = NameKind.cell ∨ k' = .free) ∧ (scope.names.map fun (n, k) => if (k == NameKind.free && X.env.scope.kind == .function && X.env.kindOf n == some .cell) then (n, NameKind.cell) else (n, k)).lookup y = some k' := by
      rcases hy with hy | hy
      · exact ⟨_, .inl rfl, hy⟩
      · exact ⟨_, .inr rfl, hy⟩
    obtain ⟨k', hk', hl⟩ := z
    obtain ⟨k, hm, h2⟩ := relabel_look hl
    have hf : k = .free := by
      rcases h2 with e | ⟨e, _⟩
      · subst e
        rcases hk' with e | e
        · exact absurd e (S.cell _ hm)
        · exact e
      · exact e
    exact clF_has scope.names [] y (.inl ⟨_, hm, hf, rfl⟩)
  · rcases (hex b hb).1.2.2.2.1 with z | z
    · exact ok.noex b o e z
    · exact absurd (Nat.lt_of_lt_of_le (Heap.lt_size e) (Nat.le_trans ok.bsz z)) (Nat.lt_irrefl _)
  · intro hb2
    rcases List.mem_cons.mp (I.stkSub b hb2) with e | e
    · exact (hex b hb).1.2.1 e
    · exact (hex b hb).1.2.2.1 e
  · unfold cpσ at h2
    by_cases hi : i < ts.length
    · rw [List.getElem?_append_left (by simpa using hi), List.getElem?_replicate] at h2
      split at h2 <;> cases h2
    · rw [List.getElem?_append_right (by simpa using hi), List.length_replicate] at h2
      have h1' : (cpN ts fs)[i]? = some x := h1
      unfold cpN at h1'
      rw [List.getElem?_append_right (by omega)] at h1'
      rw [List.getElem?_map] at h1' h2
      cases e : fs[i - ts.length]? with
      | none => rw [e] at h1'; cases h1'
      | some p =>
        rw [e] at h1' h2
        have ex' : p.2 = x := Option.some.inj h1'
        have e2 : (σ[p.1]?).join = some v := Option.some.inj h2
        have e3 : σ[p.1]? = some (some v) := by
          cases q : σ[p.1]? with
          | none => rw [q] at e2; cases e2
          | some o => rw [q] at e2; cases o with | none => cases e2 | some v' => cases e2; rfl
        obtain ⟨a1, a2, a3⟩ := S.at' p (List.mem_of_getElem? e)
        obtain ⟨m, _, hl⟩ := I.loc
        have kd := S.free _ a2 rfl
        have vis : Vis X.env.scope p.2 := by
          rcases kd with z | z
          · exact .inr (.inl z)
          · exact .inr (.inr z)
        obtain ⟨u, r, l⟩ := hl p.1 p.2 v a1 e3 vis
        refine ⟨u, r, ?_⟩
        rcases l with ⟨z, _⟩ | ⟨_, c, hc, hcell⟩
        · rcases kd with q | q
          · rw [q] at z; cases z
          · rw [q] at z; cases z
        · obtain ⟨c', hc'⟩ := clF_has (env := X.env) scope.names [] p.2 (.inl ⟨_, a2, rfl, rfl⟩)
          have ec : c' = c := Option.some.inj ((S.sub ok hc').symm.trans hc)
          subst ec
          subst ex'
          refine .inr ⟨?_, c', hc', ?_⟩
          · exact a3
          · obtain ⟨o, ho, hd⟩ := hcell
            exact ⟨o, hk _ _ ho, hd⟩
  · obtain ⟨v, o, ho, hd⟩ := I.cell y c (S.sub ok e)
    exact ⟨v, o, hk _ _ ho, hd⟩
  · unfold cpσ
    show _ = (cpN ts fs).length
    unfold cpN
    simp
theorem comp_end {pins : List (Addr × Obj)} {σ σ' : St} {H H' : Hp} {s3 s5 : Shared} {h' : Heap} {ex : List Addr} (S : CpScope X ts fs scope) (I : Inv X pins σ H s3) (hex : ∀ b ∈ ex, FpOk X pins H b)
    (J : Inv (cxC X (cpN ts fs) scope ex s3 H) [] σ' H' s5) (sb : Heap.SameBut s3.heap.objs.size s5.heap h') : Inv X pins σ H' { s5 with heap := h' } := by
  have nC : H' s3.heap.objs.size = none := J.free
  have old : ∀ b o, b ≠ s3.heap.objs.size → s5.heap.get? b = some o → h'.get? b = some o := fun b o hb e => sb.extBut b o hb e
  have lt : ∀ b o, s3.heap.get? b = some o → b ≠ s3.heap.objs.size := fun b o e => Nat.ne_of_lt (Heap.lt_size e)
  have u : Un (frs X.stack) ex H H' s3.heap s5.heap := J.base
  have u2 : Un (frs X.stack) ex H H' s3.heap h' :=
    ⟨fun b o e n hb hx => old b o (lt b o e) (u.keep b o e n hb hx), fun b o e n hb hx => by
      obtain ⟨sl, q⟩ := u.slot b o e n hb hx
      exact ⟨sl, old b _ (lt b o e) q⟩, u.free, fun b o e hx => by
      obtain ⟨o', q⟩ := u.there b o e hx
      exact ⟨o', old b o' (lt b o e) q⟩, u.tups, u.frzs, u.tbls⟩
  have hok : HOk X.prog X.w H' h' := fun b o e => by
    have nb : b ≠ s3.heap.objs.size := fun z => by rw [z, nC] at e; cases e
    refine (J.hok b o e).stay (fun c v hc q => old c v ?_ q) (fun _ q => q) fun _ _ q => q
    rcases hc with z | z
    · rw [z]; exact nb
    · intro z2; rw [z2, nC] at z; cases z
  exact I.call' (s' := { s5 with heap := h' }) (ch := ex) J.os u2 hok J.bare fun b hb => ⟨(hex b hb).2.2.2.1, (hex b hb).2.1, (hex b hb).2.2.2.2.1, (hex b hb).2.2.2.2.2⟩
theorem Inv.fade {pins : List (Addr × Obj)} {σ σ' : St} {H : Hp} {s : Shared} (I : Inv X pins σ' H s) (k : Kp σ σ') : Inv X pins σ H s := by
  refine ⟨I.ok, I.os, I.bare, I.base, ?_, I.cell, I.free, I.freeC, I.pin, I.hok, k.1.symm.trans I.len⟩
  obtain ⟨m, hn, hl⟩ := I.loc
  exact ⟨m, hn, fun i x v h1 h2 h3 => hl i x v h1 (k.2 i v h2) h3⟩
theorem comp_run {pins : List (Addr × Obj)} {σ : St} {H3 : Hp} {s3 s4 : Shared} {Q : VK} {R : Result → Shared → Prop} {fp : List Addr} {it p : Addr} {tn : Nat → Heap → Prop} {J : It} {W : Nat → Nat → List V → Hp → Prop} {m0 : Nat} (hc : X.calm = true) (S : CpScope X ts fs scope)
    (hg : ∀ ex s H, PG (cxC X (cpN ts fs) scope ex s H) tg g) (ht : ∀ ex s H, PTs (cxC X (cpN ts fs) scope ex s H) ifs tt) (he : ∀ ex s H, PE (cxC X (cpN ts fs) scope ex s H) elt te)
    (I3 : Inv X pins σ H3 s3) (T : Turn X.prog X.w X.K tg J fp it tn) (hex : ∀ b ∈ fp, FpOk X pins H3 b) (lt : ∀ b ∈ fp, b < s3.heap.objs.size)
    (I4 : Inv (cxC X (cpN ts fs) scope fp s3 H3) [] (cpσ ts.length fs σ) H3 s4) (st4 : tn 0 s4.heap) (w0 : W 0 m0 [] H3)
    (fin : ∀ H5 s6, Inv (cxC X (cpN ts fs) scope fp s3 H3) [] (cpσ ts.length fs σ) H5 s6 → Q (.ref p) H5 → R (.ok .next) s6)
    (turn : ∀ i m acc H2, W i m acc H2 → (J.stop i H2 ∧ Q (.ref p) H2) ∨ (J.go i H2 ∧ ∀ x H3, J.yld i H2 x H3 → g x (cpσ ts.length fs σ) H3 fun σ4 H4 => Kp (cpσ ts.length fs σ) σ4 ∧ tt σ4 H4 fun b H5 =>
      if b = true then te σ4 H5 fun y H6 => H6 p = some (.lst acc) ∧ acc.length < sizeLine ∧ ∃ m', m' < m ∧ W (i + 1) m' (acc ++ [y]) (upd H6 p (.lst (acc ++ [y]))) else ∃ m', m' < m ∧ W (i + 1) m' acc H5)) :
    codeAny (model X.prog X.w) X.A (.compLoop (.ListComp elt [⟨tg, iter, ifs, 0⟩] scope pos) 0 (.ref it) (.ref p) (cxC X (cpN ts fs) scope fp s3 H3).env) R s4 := by
  have stat : ∀ {H' : Hp}, (∀ b ∈ fp, H' b = none) → ∀ b ∈ fp, FpOk (cxC X (cpN ts fs) scope fp s3 H3) [] H' b := fun hn b hb =>
    ⟨hn b hb, Nat.ne_of_lt (lt b hb), fun z => (List.mem_cons.mp (I3.stkSub b z)).elim (hex b hb).2.1 (hex b hb).2.2.1, .inl hb, fun x c e => (hex b hb).2.2.2.2.1 x c (S.sub I3.ok e), fun q hq => absurd (show q ∈ ([] : List (Addr × Obj)) from hq) (by simp)⟩
  refine compLoop_any (fun n s' => ∃ i acc H', Inv (cxC X (cpN ts fs) scope fp s3 H3) [] (cpσ ts.length fs σ) H' s' ∧ tn i s'.heap ∧ (∀ b ∈ fp, H' b = none) ∧ W i n acc H') ?_ m0 ⟨0, [], H3, I4, st4, fun b hb => (hex b hb).1, w0⟩
  rintro n s5 ⟨i, acc, H5, I5, st5, fr5, w5⟩
  rcases turn i n acc H5 w5 with ⟨stop, q⟩ | ⟨go, step⟩
  · refine thn (T.done (cxC X (cpN ts fs) scope fp s3 H3) rfl rfl rfl hc i [] s5 _ H5 _ I5 (stat fr5) st5 stop) fun r s6 ⟨hr, I6⟩ => ?_
    subst hr
    exact fin H5 s6 I6 q
  · refine thn (T.item (cxC X (cpN ts fs) scope fp s3 H3) rfl rfl rfl hc i [] s5 _ H5 _ I5 (stat fr5) st5 go) fun r s6 ⟨u, hr, h6⟩ => ?_
    subst hr
    refine thn h6 fun _ s7 ⟨x, H7, I7, r7, y7, st7, fr7⟩ => ?_
    have I7' := I7.pinned (stat fr7) (T.obj _ _ st7)
    refine thn (hg fp s3 H3 _ s7 _ H7 x u _ I7' r7 (step x H7 y7)) fun _ s8 ⟨σ8, H8, I8, kp, q8⟩ => ?_
    have again : ∀ {H9 : Hp} {s9 : Shared} {acc' : List V} {m' : Nat}, Inv (cxC X (cpN ts fs) scope fp s3 H3) ([] ++ pinsAt fp s7.heap) σ8 H9 s9 → m' < n → W (i + 1) m' acc' H9 →
        ∃ m, m < n ∧ ∃ i acc H', Inv (cxC X (cpN ts fs) scope fp s3 H3) [] (cpσ ts.length fs σ) H' s9 ∧ tn i s9.heap ∧ (∀ b ∈ fp, H' b = none) ∧ W i m acc H' := fun {H9 s9 acc' m'} I9 hm w9 => by
      refine ⟨m', hm, i + 1, acc', H9, (I9.fade kp).unpinned, T.keep _ _ _ st7 fun b hb o e => (I9.pin (b, o) (List.mem_append_right _ (List.mem_append_right _ (mem_pinsAt hb e)))).1, fun b hb => ?_, w9⟩
      obtain ⟨o, e, d⟩ := T.obj _ _ st7 b hb
      exact (I9.pin (b, o) (List.mem_append_right _ (List.mem_append_right _ (mem_pinsAt hb e)))).2.1
    refine thn (ht fp s3 H3 _ s8 σ8 H8 _ I8 q8) fun ok s9 ⟨H9, I9, q9⟩ => ?_
    cases ok with
    | false =>
      rw [if_neg Bool.false_ne_true] at q9 ⊢
      obtain ⟨m', hm, w9⟩ := q9
      exact again I9 hm w9
    | true =>
      rw [if_pos rfl] at q9 ⊢
      refine thn (he fp s3 H3 _ s9 σ8 H9 _ I9 q9) fun y s10 ⟨yv, H10, I10, r10, hp10, hlen, m', hm, w10⟩ => ?_
      exact thn (mt_append _ s10 σ8 H10 (.ref p) [yv] (.ref p) [y] _ I10 rfl (.cons r10 .nil) ⟨p, acc, yv, rfl, rfl, hp10, hlen, w10⟩) fun _ s11 ⟨_, H11, I11, _, w11⟩ => again I11 hm w11
set_option maxHeartbeats 2000000 in
theorem comp_block {pos' : Pos} {pins : List (Addr × Obj)} {σ : St} {H : Hp} {s : Shared} {Q : VK} {QQ : Value → Shared → Prop} {use : Option (Value → Sem Unit)} (hc : X.calm = true) (S : CpScope X ts fs scope) (hi : PI X tg iter wi) (hg : ∀ ex s H, PG (cxC X (cpN ts fs) scope ex s H) tg g) (ht : ∀ ex s H, PTs (cxC X (cpN ts fs) scope ex s H) ifs tt)
    (he : ∀ ex s H, PE (cxC X (cpN ts fs) scope ex s H) elt te) (hs : ∀ x, foldedSetIterable iter X.env x = pure x) (I : Inv X pins σ H s) (h : tComp ts.length fs wi g tt te σ H Q)
    (fin : ∀ (H3 : Hp) (s3 : Shared) (fp : List Addr) (p : Addr) (H5 : Hp) (s6 : Shared), Inv X pins σ H3 s3 → (∀ b ∈ fp, FpOk X pins H3 b) → Inv (cxC X (cpN ts fs) scope fp s3 H3) [] (cpσ ts.length fs σ) H5 s6 → Q (.ref p) H5 → compPost (model X.prog X.w) X.A X.xe use QQ (.ref p) s3.heap.objs.size (.ok .next) s6) :
    wpAny (model X.prog X.w) X.A (comprehension (.ListComp elt [⟨tg, iter, ifs, 0⟩] scope pos) scope X.env pos' (newList []) false (eval iter X.env) use) QQ X.xe s := by
  refine wpAny_comprehension_free (use := use) rfl hs (closure_eq (S.clos I.ok)) S.kind S.names (thn (hi pins s σ H _ I h) fun v s1 h1 => thn h1 fun itv s2 h2 => ?_)
  obtain ⟨it, fp, tn, J, H2, rfl, I2, T, st2, f2, hw⟩ := h2
  refine wpAny_newObj_type (wpAny_newFunctionEnv S.cell (by intro y hy; simp at hy) (fun h₁ hns₁ hsb₁ => ?_) S.kind)
  dsimp only at hns₁ hsb₁ ⊢
  have I3 := I2.lnew (its := []) (ys := []) (t' := s2.toks) .nil (Nat.zero_le _)
  have hD : H2 s2.heap.objs.size = none := I2.fresh
  obtain ⟨W, ⟨m0, w0⟩, turn⟩ := hw _ hD
  have up : ∀ b o, s2.heap.get? b = some o → (s2.heap.push { cls := .type "list", data := .seq ([] : List Value).toArray }).get? b = some o := fun b o e => Heap.get?_push_of_some _ e
  have hex : ∀ b ∈ fp, FpOk X pins (upd H2 s2.heap.objs.size (.lst [])) b ∧ ∃ o, (s2.heap.push { cls := .type "list", data := .seq ([] : List Value).toArray }).get? b = some o := fun b hb => by
    obtain ⟨o, ho, _⟩ := T.obj _ _ st2 b hb
    have nb : b ≠ s2.heap.objs.size := Nat.ne_of_lt (Heap.lt_size ho)
    exact ⟨⟨by rw [upd_ne nb]; exact (f2 b hb).1, (f2 b hb).2⟩, o, up b o ho⟩
  have hk4 : ∀ b u, (s2.heap.push { cls := .type "list", data := .seq ([] : List Value).toArray }).get? b = some u → h₁.get? b = some u := fun b u e =>
    hsb₁.extBut b u (Nat.ne_of_lt (Heap.lt_size e)) (Heap.get?_push_of_some _ e)
  have I4 := comp_start (s4 := { s2 with heap := h₁, toks := s2.toks }) S I3 hex rfl rfl hk4 hns₁
  have st4 : tn 0 h₁ := T.keep _ _ _ st2 fun b _ o e => hk4 b o (up b o e)
  have run := comp_run (elt := elt) (iter := iter) (pos := pos) hc S hg ht he I3 T (fun b hb => (hex b hb).1) (fun b hb => Heap.lt_size (hex b hb).2.choose_spec) I4 st4 w0 (fun H5 s6 I6 q => fin _ _ fp _ H5 s6 I3 (fun b hb => (hex b hb).1) I6 q) turn
  exact codeAny_compStart_list run (T.self X.A 0 _ _ _ st4 run)
theorem pe_comp (hc : X.calm = true) (S : CpScope X ts fs scope) (hi : PI X tg iter wi) (hg : ∀ ex s H, PG (cxC X (cpN ts fs) scope ex s H) tg g) (ht : ∀ ex s H, PTs (cxC X (cpN ts fs) scope ex s H) ifs tt)
    (he : ∀ ex s H, PE (cxC X (cpN ts fs) scope ex s H) elt te) (hs : ∀ x, foldedSetIterable iter X.env x = pure x := by intro _; rfl) :
    PE X (.ListComp elt [⟨tg, iter, ifs, 0⟩] scope pos) (tComp ts.length fs wi g tt te) := by
  intro pins s σ H Q I h
  rw [eval_ListComp]
  refine comp_block (use := none) hc S hi hg ht he hs I h fun H3 s3 fp p H5 s6 I3 hex I6 q => ?_
  obtain ⟨m, hn, _⟩ := I6.loc
  exact ⟨m, hn, fun h' sb => ⟨.ref p, H5, comp_end S I3 hex I6 sb, rfl, q⟩⟩
end
section
variable {K : PySem.W.Frag} {H1 : Hp} {p : Addr} {cσ : St} {g : TG} {te : TE} {Q : VK} {α : Type} {es : List α} {inj : α → V}
def Wk (J : It) (H1 : Hp) (es : List α) (inj : α → V) : Prop := ∀ i H', Same H1 H' → (es[i]? = none → J.stop i H') ∧ ∀ e, es[i]? = some e → J.go i H' ∧ ∀ x H3, J.yld i H' x H3 → H3 = H' ∧ x = inj e
theorem wk_list {a : Addr} (h : SqL K H1 a (es.map inj)) : Wk (Itl K a) H1 es inj := fun i H' s => by
  have h' := s.seq h
  refine ⟨fun e => ⟨_, h', ?_⟩, fun e he => ⟨⟨_, inj e, h', by rw [List.getElem?_map, he]; rfl⟩, fun x H3 ⟨e1, e2⟩ => ⟨e1, ?_⟩⟩⟩
  · rw [List.length_map]
    exact List.getElem?_eq_none_iff.mp e
  · have z := e2 _ h'
    rw [List.getElem?_map, he] at z
    exact (Option.some.inj z).symm
theorem wk_tup {a : Addr} (h : SqT K H1 a (es.map inj)) : Wk (Itt K a) H1 es inj := fun i H' s => by
  have h' := s.tup h
  refine ⟨fun e => ⟨_, h', ?_⟩, fun e he => ⟨⟨_, inj e, h', by rw [List.getElem?_map, he]; rfl⟩, fun x H3 ⟨e1, e2⟩ => ⟨e1, ?_⟩⟩⟩
  · rw [List.length_map]
    exact List.getElem?_eq_none_iff.mp e
  · have z := e2 _ h'
    rw [List.getElem?_map, he] at z
    exact (Option.some.inj z).symm
theorem wk_range {lo : Int} {n : Nat} : Wk (Itr lo n) H1 (List.range n) (fun i => .int (lo + (i : Nat))) := fun i H' s => by
  refine ⟨fun e => ?_, fun e he => ?_⟩
  · have := List.getElem?_eq_none_iff.mp e
    show n ≤ i
    simpa using this
  · obtain ⟨h, z⟩ := List.getElem?_eq_some_iff.mp he
    have hi : i < n := by simpa using h
    have z' : i = e := by simpa using z
    subst z'
    exact ⟨hi, fun x H3 ⟨e1, e2⟩ => ⟨e1, e2⟩⟩
theorem cin_map {J : It} (f : α → V) (hz : es.length ≤ sizeLine) (hp : H1 p = none) (hJ : Wk J H1 es inj)
    (step : ∀ e H' R, e ∈ es → Same H1 H' → (∀ H6, Same H' H6 → R (f e) H6) → g (inj e) cσ H' fun σ4 H4 => Kp cσ σ4 ∧ te σ4 H4 R)
    (done : ∀ H', Same H1 H' → H' p = some (.lst (es.map f)) → Q (.ref p) H') : cIn J cσ g tNoIf te Q H1 p := by
  have su : ∀ {H' : Hp} {o : HO}, Same H1 H' → Same H1 (upd H' p o) := fun {H' o} s b u e => by
    rw [upd_ne (ne_of_none e hp)]
    exact s b u e
  refine ⟨fun i m acc H' => m = es.length - i ∧ i ≤ es.length ∧ acc = (es.take i).map f ∧ H' p = some (.lst acc) ∧ Same H1 H', ⟨es.length, by simp, Nat.zero_le _, by simp, upd_same, su (Same.refl _)⟩, ?_⟩
  rintro i m acc H' ⟨rfl, hi, rfl, hH, s⟩
  cases he : es[i]? with
  | none =>
    have hl := List.getElem?_eq_none_iff.mp he
    have e : i = es.length := Nat.le_antisymm hi hl
    subst e
    rw [List.take_length] at hH
    exact .inl ⟨(hJ _ _ s).1 he, done _ s hH⟩
  | some e =>
    obtain ⟨go, yl⟩ := (hJ _ _ s).2 e he
    refine .inr ⟨go, fun x H3 y => ?_⟩
    obtain ⟨rfl, rfl⟩ := yl x H3 y
    obtain ⟨hlt, e'⟩ := List.getElem?_eq_some_iff.mp he
    have tk : es.take (i + 1) = es.take i ++ [e] := by rw [List.take_succ, he]; rfl
    have q := step e H3 (fun y H6 => H6 p = some (.lst ((es.take i).map f)) ∧ ((es.take i).map f).length < sizeLine ∧ ∃ m', m' < es.length - i ∧ m' = es.length - (i + 1) ∧ i + 1 ≤ es.length ∧ (es.take i).map f ++ [y] = (es.take (i + 1)).map f ∧
        upd H6 p (.lst ((es.take i).map f ++ [y])) p = some (.lst ((es.take i).map f ++ [y])) ∧ Same H1 (upd H6 p (.lst ((es.take i).map f ++ [y])))) (List.mem_of_getElem? he) s
      (fun H6 s6 => ⟨s6 _ _ hH, by rw [List.length_map, List.length_take]; omega, _, by omega, rfl, hlt, by rw [tk, List.map_append]; rfl, upd_same, su (s.trans s6)⟩)
    have eq : ∀ (R : VK) (B : Hp → Prop), (fun σ4 H4 => Kp cσ σ4 ∧ tNoIf σ4 H4 fun b H5 => if b = true then te σ4 H5 R else B H5) = (fun σ4 H4 => Kp cσ σ4 ∧ te σ4 H4 R) := fun R B => by
      funext σ4 H4
      show (Kp cσ σ4 ∧ if true = true then te σ4 H4 R else B H4) = _
      rw [if_pos rfl]
    rw [eq]
    exact q
end
section
variable {X : Cx} {K : PySem.W.Frag} {σ : St} {H : Hp} {Q : VK} {R : It → Hp → Prop}
theorem z_comp {n : Nat} {fs : List (Nat × Str)} {wi : TI} {g : TG} {tt : TT} {te : TE} : tComp n fs wi g tt te σ H Q = wi σ H (fun J H1 => ∀ p, H1 p = none → cIn J (cpσ n fs σ) g tt te Q H1 p) := rfl
theorem z_rng1 {ta : TA} : iRng1 ta σ H R = ta σ H (fun vs H1 => ∃ j : Int, vs = [.int j] ∧ -(2 ^ 62) ≤ j ∧ j < 2 ^ 62 ∧ R (Itr 0 j.toNat) H1) := rfl
theorem z_rng2 {ta : TA} : iRng2 ta σ H R = ta σ H (fun vs H1 => ∃ i j : Int, vs = [.int i, .int j] ∧ (-(2 ^ 62) ≤ i ∧ i < 2 ^ 62 ∧ -(2 ^ 62) ≤ j ∧ j < 2 ^ 62) ∧ R (Itr i (j - i).toNat) H1) := rfl
theorem z_ilist {tl : TE} : iList K tl σ H R = tl σ H (fun x H1 => ∃ a, x = .ref a ∧ (∃ xs, SqL K H1 a xs) ∧ R (Itl K a) H1) := rfl
theorem z_itup {tl : TE} : iTup K tl σ H R = tl σ H (fun x H1 => ∃ a, x = .ref a ∧ (∃ xs, SqT K H1 a xs) ∧ R (Itt K a) H1) := rfl
theorem z_exr {a : Addr} {p : Addr → Prop} : (∃ b, V.ref a = .ref b ∧ p b) = p a := propext ⟨fun ⟨_, e, h⟩ => by cases e; exact h, fun h => ⟨a, rfl, h⟩⟩
theorem z_kp1 {v : Option V} {r : St} : Kp (none :: r) (v :: r) = True := by
  refine eq_true ⟨rfl, fun i u e => ?_⟩
  cases i with
  | zero => cases e
  | succ i => exact e
theorem z_kp2 {v v' : Option V} {r : St} : Kp (none :: none :: r) (v :: v' :: r) = True := by
  refine eq_true ⟨rfl, fun i u e => ?_⟩
  cases i with
  | zero => cases e
  | succ i =>
    cases i with
    | zero => cases e
    | succ i => exact e
theorem z_intB {k : Bool} {p : Int → Prop} {q : Bool → Prop} : ((∃ i, [V.bl k] = [V.int i] ∧ p i) ∨ ∃ k', [V.bl k] = [V.bl k'] ∧ q k') = q k :=
  propext ⟨fun h => h.elim (fun ⟨_, e, _⟩ => by cases e) fun ⟨_, e, h⟩ => by cases e; exact h, fun h => .inr ⟨k, rfl, h⟩⟩
end
end L2
namespace L2
open PySem PySem.Spec PyProof.Rows
def FI (J : It) (g : TG) (tb : TS) (D : Ends) (σ : St) (H : Hp) : Prop := ∃ W : Nat → Nat → St → Hp → Prop, (∃ m, W 0 m σ H) ∧ ∀ i m σ H, W i m σ H →
  (J.stop i H ∧ D.nx σ H) ∨ (J.go i H ∧ ∃ N : St → Hp → Prop, (∀ σ' H', N σ' H' → ∃ m', m' < m ∧ W (i + 1) m' σ' H') ∧ ∀ x H', J.yld i H x H' → g x σ H' fun σ2 H2 => tb { D with nx := N, ct := N, bk := D.nx } σ2 H2)
theorem z_for {wi : TI} {g : TG} {tb : TS} {D : Ends} {σ : St} {H : Hp} : tFor wi g tb D σ H = wi σ H (fun J H1 => FI J g tb D σ H1) := rfl
section
variable {K : PySem.W.Frag} {σ : St} {H : Hp} {g : TG} {tb : TS} {D : Ends} {α : Type} {es : List α} {inj : α → V}
def WkAt (J : It) (H : Hp) (es : List α) (inj : α → V) : Prop := ∀ i, (es[i]? = none → J.stop i H) ∧ ∀ e, es[i]? = some e → J.go i H ∧ ∀ x H3, J.yld i H x H3 → H3 = H ∧ x = inj e
theorem wkAt_list {a : Addr} (h : SqL K H a (es.map inj)) : WkAt (Itl K a) H es inj := fun i => wk_list h i H (Same.refl _)
theorem wkAt_range {lo : Int} {n : Nat} : WkAt (Itr lo n) H (List.range n) (fun i => .int (lo + (i : Nat))) := fun i => wk_range i H (Same.refl _)
theorem fi_by {J : It} (Pv : List α → St → Hp → Prop) (h0 : Pv [] σ H) (hw : ∀ pre σ H, Pv pre σ H → WkAt J H es inj)
    (hs : ∀ pre e post σ H, es = pre ++ e :: post → Pv pre σ H → g (inj e) σ H fun σ2 H2 => tb { D with nx := Pv (pre ++ [e]), ct := Pv (pre ++ [e]), bk := D.nx } σ2 H2) (hd : ∀ σ H, Pv es σ H → D.nx σ H) : FI J g tb D σ H := by
  refine ⟨fun i m σ H => m = es.length - i ∧ i ≤ es.length ∧ Pv (es.take i) σ H, ⟨es.length, by simp, Nat.zero_le _, h0⟩, ?_⟩
  rintro i m σ H ⟨rfl, hi, p⟩
  have w := hw _ _ _ p i
  cases he : es[i]? with
  | none =>
    have e : i = es.length := Nat.le_antisymm hi (List.getElem?_eq_none_iff.mp he)
    subst e
    rw [List.take_length] at p
    exact .inl ⟨w.1 he, hd _ _ p⟩
  | some e =>
    obtain ⟨hlt, ee⟩ := List.getElem?_eq_some_iff.mp he
    have tk : es.take (i + 1) = es.take i ++ [e] := by rw [List.take_succ, he]; rfl
    have sp : es = es.take i ++ e :: es.drop (i + 1) := by
      rw [← ee, ← List.drop_eq_getElem_cons hlt, List.take_append_drop]
    refine .inr ⟨(w.2 e he).1, Pv (es.take i ++ [e]), fun σ' H' q => ⟨es.length - (i + 1), by omega, rfl, hlt, by rw [tk]; exact q⟩, fun x H' y => ?_⟩
    obtain ⟨rfl, rfl⟩ := (w.2 e he).2 x H' y
    exact hs _ e _ σ H' sp p
end
end L2
namespace L2
open PySem PySem.Spec PyProof.Rows
section
variable {K : PySem.W.Frag} {σ : St} {H : Hp} {Q : VK}
theorem z_sl {r : V → Option Int → Option Int → Hp → VK → Prop} {te : TE} {tl th : TO} : tSl r te tl th σ H Q = te σ H (fun x H1 => tl σ H1 fun l H2 => th σ H2 fun u H3 => r x l u H3 Q) := rfl
theorem z_nopart {R : Option Int → Hp → Prop} : tNoPart σ H R = R none H := rfl
theorem z_part {t : TE} {R : Option Int → Hp → Prop} : tPart t σ H R = t σ H (fun x H1 => ∃ i, x = .int i ∧ R (some i) H1) := rfl
theorem z_bm0 {T : String} {r : V → List V → Hp → VK → Prop} {to : TE} : tBM0 K T r to σ H Q = to σ H (fun x H1 => tyV K T x H1 ∧ r x [] H1 Q) := rfl
theorem z_bm {T : String} {r : V → List V → Hp → VK → Prop} {to : TE} {t : TA} : tBM K T r to t σ H Q = to σ H (fun x H1 => tyV K T x H1 ∧ t σ H1 fun xs H2 => r x xs H2 Q) := rfl
end
section
variable {CX : CXT} {P : Program} {w : World} {K : PySem.W.Frag} {mg : Str → Option Value} {base : Heap} {N : List Str} {qual : Str} {scope : Scope} {f : Addr} {cd : Value} {A : Around} {outer : List Env} {s : Shared} {H H1 H2 : Hp} {E : XK} {Q : VK} {a b : Addr} {ns ms : List Int} {g : Bool → Bool}
theorem z_cxK : (cxOf CX P w K mg base N qual scope f cd A outer s H E).K = K := rfl
theorem z_noxK : (cxOf CX P w K mg base N qual scope f cd A outer s H E).nox.K = K := rfl
end
end L2
namespace L2
open PySem PySem.Spec PyProof.Rows
section
variable {c : TT} {tb : TS} {D : Ends} {σ : St} {H : Hp}
def WB (Pv : St → Hp → Prop) (μ : St → Hp → Nat) (tb : TS) (D : Ends) (n : Nat) (σ : St) (H : Hp) : Prop :=
  ∃ N : St → Hp → Prop, (∀ σ' H', N σ' H' → ∃ m', m' < n ∧ (m' = μ σ' H' ∧ Pv σ' H')) ∧ tb { D with nx := N, ct := N, bk := D.nx } σ H
theorem wb_of {Pv : St → Hp → Prop} {μ : St → Hp → Nat} {n : Nat} (h : tb { D with nx := fun σ' H' => Pv σ' H' ∧ μ σ' H' < n, ct := fun σ' H' => Pv σ' H' ∧ μ σ' H' < n, bk := D.nx } σ H) : WB Pv μ tb D n σ H :=
  ⟨_, fun _ _ ⟨p, l⟩ => ⟨_, l, rfl, p⟩, h⟩
theorem while_go (Pv : St → Hp → Prop) (μ : St → Hp → Nat) (h0 : Pv σ H) (hs : ∀ σ H, Pv σ H → c σ H fun b H1 => if b = true then WB Pv μ tb D (μ σ H) σ H1 else D.nx σ H1) : tWhile c tb D σ H := by
  refine ⟨fun m σ H => m = μ σ H ∧ Pv σ H, ⟨_, rfl, h0⟩, ?_⟩
  rintro m σ H ⟨rfl, p⟩
  exact hs σ H p
end
section
variable {K : PySem.W.Frag} {H1 : Hp} {p : Addr} {cσ : St} {g : TG} {te : TE} {Q : VK} {α : Type} {es : List α} {inj : α → V}
theorem cin_ints {J : It} (Pn : α → Int → Prop) (hz : es.length ≤ sizeLine) (hp : H1 p = none) (hJ : Wk J H1 es inj)
    (step : ∀ e H' R, e ∈ es → Same H1 H' → (∀ n H6, Same H' H6 → Pn e n → R (.int n) H6) → g (inj e) cσ H' fun σ4 H4 => Kp cσ σ4 ∧ te σ4 H4 R)
    (done : ∀ (ns : List Int) H', ns.length = es.length → (∀ (i : Nat) e n, es[i]? = some e → ns[i]? = some n → Pn e n) → Same H1 H' → H' p = some (.lst (ns.map V.int)) → Q (.ref p) H') : cIn J cσ g tNoIf te Q H1 p := by
  have su : ∀ {H' : Hp} {o : HO}, Same H1 H' → Same H1 (upd H' p o) := fun {H' o} s b u e => by
    rw [upd_ne (ne_of_none e hp)]
    exact s b u e
  refine ⟨fun i m acc H' => m = es.length - i ∧ i ≤ es.length ∧ (∃ ns : List Int, acc = ns.map V.int ∧ ns.length = i ∧ ∀ (j : Nat) e n, es[j]? = some e → ns[j]? = some n → Pn e n) ∧ H' p = some (.lst acc) ∧ Same H1 H', ⟨es.length, by simp, Nat.zero_le _, ⟨[], rfl, rfl, fun j e n _ h => by simp at h⟩, upd_same, su (Same.refl _)⟩, ?_⟩
  rintro i m acc H' ⟨rfl, hi, ⟨ns, rfl, hl, hn⟩, hH, s⟩
  cases he : es[i]? with
  | none =>
    have e : i = es.length := Nat.le_antisymm hi (List.getElem?_eq_none_iff.mp he)
    exact .inl ⟨(hJ _ _ s).1 he, done ns _ (hl.trans e) hn s hH⟩
  | some e =>
    obtain ⟨go, yl⟩ := (hJ _ _ s).2 e he
    refine .inr ⟨go, fun x H3 y => ?_⟩
    obtain ⟨rfl, rfl⟩ := yl x H3 y
    obtain ⟨hlt, _⟩ := List.getElem?_eq_some_iff.mp he
    have q := step e H3 (fun y H6 => H6 p = some (.lst (ns.map V.int)) ∧ (ns.map V.int).length < sizeLine ∧ ∃ m', m' < es.length - i ∧ m' = es.length - (i + 1) ∧ i + 1 ≤ es.length ∧ (∃ ns' : List Int, ns.map V.int ++ [y] = ns'.map V.int ∧ ns'.length = i + 1 ∧ ∀ (j : Nat) e n, es[j]? = some e → ns'[j]? = some n → Pn e n) ∧
        upd H6 p (.lst (ns.map V.int ++ [y])) p = some (.lst (ns.map V.int ++ [y])) ∧ Same H1 (upd H6 p (.lst (ns.map V.int ++ [y])))) (List.mem_of_getElem? he) s
      (fun n H6 s6 pn => ⟨s6 _ _ hH, by rw [List.length_map]; omega, _, by omega, rfl, hlt, ⟨ns ++ [n], by rw [List.map_append]; rfl, by rw [List.length_append, hl]; rfl, fun j e' n' h1 h2 => by
        by_cases hj : j < ns.length
        · rw [List.getElem?_append_left hj] at h2
          exact hn j e' n' h1 h2
        · rw [List.getElem?_append_right (by omega)] at h2
          have hj0 : j - ns.length = 0 := by
            have := (List.getElem?_eq_some_iff.mp h2).1
            simp at this
            omega
          rw [hj0] at h2
          have hji : j = i := by omega
          subst hji
          rw [he] at h1
          cases h1
          cases h2
          exact pn⟩, upd_same, su (s.trans s6)⟩)
    have eq : ∀ (R : VK) (B : Hp → Prop), (fun σ4 H4 => Kp cσ σ4 ∧ tNoIf σ4 H4 fun b H5 => if b = true then te σ4 H5 R else B H5) = (fun σ4 H4 => Kp cσ σ4 ∧ te σ4 H4 R) := fun R B => by
      funext σ4 H4
      show (Kp cσ σ4 ∧ if true = true then te σ4 H4 R else B H4) = _
      rw [if_pos rfl]
    rw [eq]
    exact q
end
theorem z_exlr {a : Addr} {p : Addr → Prop} : (∃ b, [V.ref a] = [.ref b] ∧ p b) = p a := propext ⟨fun ⟨_, e, h⟩ => by cases e; exact h, fun h => ⟨a, rfl, h⟩⟩
section
variable {K : PySem.W.Frag} {σ : St} {H : Hp} {Q : St → Hp → Prop} {R : VK} {p a b : Addr} {v w : V} {i j : Nat} {xs : List V} {ns ms : List Int} {f : Bool → Bool}
theorem g_pair (h : SqT K H p [v, w]) (q : Q ((σ.set i (some v)).set j (some w)) H) : gTup K 2 (gCons (gName i) (gCons (gName j) gNil)) (.ref p) σ H Q := ⟨p, _, rfl, h, rfl, v, _, rfl, w, _, rfl, rfl, q⟩
theorem z_gsub {to ti : TE} {t : TSet} : gSub to ti t v σ H Q = to σ H (fun o H1 => ti σ H1 fun i H2 => t o i v H2 fun H3 => Q σ H3) := rfl
theorem g_set {G : Hp → Prop} (hp : H p = some (.lst xs)) (hj : j < xs.length) (q : G (upd H p (.lst (xs.set j v)))) : rSetL (.ref p) (.int (j : Nat)) v H G := by
  refine ⟨p, xs, j, j, rfl, rfl, hp, ?_, q⟩
  unfold ixN
  rw [if_pos (by omega), if_pos (by omega), Int.toNat_natCast]
theorem z_ixLn (h : SqL K H a xs) (e : xs[j]? = some v) (q : R v H) : rIxL K (.ref a) (.int (j : Nat)) H R := z_ixL h (atI_nat e) q
theorem eq_tints (ha : SqT K H a (ns.map V.int)) (hb : SqT K H b (ms.map V.int)) (h : R (.bl (f (decide (ns = ms)))) H) : rEqT K f (.ref a) (.ref b) H R := ⟨a, b, ns, ms, rfl, rfl, ha, hb, h⟩
theorem set_mapI (ns : List Int) (j : Nat) (x : Int) : (ns.map V.int).set j (.int x) = (ns.set j x).map V.int := by rw [List.map_set]
theorem get_mapI {ns : List Int} {j : Nat} (h : j < ns.length) : (ns.map V.int)[j]? = some (.int ns[j]) := by rw [List.getElem?_map, List.getElem?_eq_getElem h]; rfl
theorem flat_zero (k : Nat) : (List.replicate k [V.int 0]).flatten = (List.replicate k (0 : Int)).map V.int := by
  induction k with
  | zero => rfl
  | succ k ih => rw [List.replicate_succ, List.flatten_cons, ih, List.replicate_succ, List.map_cons]; rfl
end
end L2
namespace L2
open PySem PySem.Spec PyProof.Rows
section
variable {prog : Program} {w : World} {A : Around} {E : Value → Shared → Prop} {s : Shared} {j u : Addr} {i : Nat} {xs : Array Value}
theorem nextT {y : Value} {Q : Value → Shared → Prop} (hj : s.heap.IsTupleIter j u i) (hu : s.heap.IsTuple u xs) (hy : xs[i]? = some y)
    (k : ∀ g, g.IsTupleIter j u (i + 1) → Heap.SameBut j s.heap g → Q y { s with heap := g }) : wpAny (model prog w) A (Builtin.SmallTypes.nextOf (.ref j)) Q E s := by
  obtain ⟨oj, ej, cj, dj⟩ := id hj
  obtain ⟨ou, eu, _, nu, du⟩ := hu
  unfold Builtin.SmallTypes.nextOf
  refine wpAny_bind (wpAny_callSpecial?_slot (name := Str.ofString "__next__") hj.typeIs F.slot_tuple_iterator_next (wpAny_call_entry F.slot_tuple_iterator_next hj.typeIs F.entry_tuple_iterator_next ?_ (F.args_tuple_iterator_next_1 _)))
  show wpAny _ _ (field (.ref j) 0 >>= _) _ _ s
  refine wpAny_bind (wpAny_field ej dj (x := .ref u) rfl ?_)
  show wpAny _ _ (if (Value.ref u == Value.none) = true then _ else _) _ _ s
  rw [if_neg (show ¬ ((Value.ref u == Value.none) = true) from Bool.false_ne_true)]
  show wpAny _ _ (field (.ref j) 1 >>= _) _ _ s
  refine wpAny_bind (wpAny_field ej dj (x := .int i 0) rfl ?_)
  show wpAny _ _ (seqItems? (.ref u) >>= _) _ _ s
  refine wpAny_bind (wpAny_seqItems eu du ?_)
  simp only [hy, Int.toNat_natCast]
  refine wpAny_bind (wpAny_setField ej dj (by simp) (wpAny_pure ⟨y, rfl, wpAny_pure (k _ ?_ (Heap.SameBut.update ..))⟩))
  exact ⟨_, Heap.get?_update_self _ ej (Obj.isFreed_of_fields (Obj.data_mapFields dj _)), (Obj.cls_mapFields ..).trans cj, by rw [Obj.data_mapFields dj]; simp [rawInt]⟩
theorem nextT_end {Q : Value → Shared → Prop} (hh : A.handled = none) (hj : s.heap.IsTupleIter j u i) (hu : s.heap.IsTuple u xs) (hy : xs[i]? = none)
    (k : ∀ g e, Heap.ExtBut j s.heap g → (∃ o, g.get? e = some o ∧ o.cls = .type "StopIteration") → E (.ref e) { s with heap := g }) : wpAny (model prog w) A (Builtin.SmallTypes.nextOf (.ref j)) Q E s := by
  obtain ⟨oj, ej, cj, dj⟩ := id hj
  obtain ⟨ou, eu, _, nu, du⟩ := hu
  unfold Builtin.SmallTypes.nextOf
  refine wpAny_bind (wpAny_callSpecial?_slot (name := Str.ofString "__next__") hj.typeIs F.slot_tuple_iterator_next (wpAny_call_entry F.slot_tuple_iterator_next hj.typeIs F.entry_tuple_iterator_next ?_ (F.args_tuple_iterator_next_1 _)))
  show wpAny _ _ (field (.ref j) 0 >>= _) _ _ s
  refine wpAny_bind (wpAny_field ej dj (x := .ref u) rfl ?_)
  show wpAny _ _ (if (Value.ref u == Value.none) = true then _ else _) _ _ s
  rw [if_neg (show ¬ ((Value.ref u == Value.none) = true) from Bool.false_ne_true)]
  show wpAny _ _ (field (.ref j) 1 >>= _) _ _ s
  refine wpAny_bind (wpAny_field ej dj (x := .int i 0) rfl ?_)
  show wpAny _ _ (seqItems? (.ref u) >>= _) _ _ s
  refine wpAny_bind (wpAny_seqItems eu du ?_)
  simp only [hy, Int.toNat_natCast]
  refine wpAny_bind (wpAny_rule (wpAny_bind (wpAny_setField ej dj (by simp) ?_)))
  show wpAny _ A.in1 (newExc (.type "StopIteration") [] >>= _) _ _ _
  refine wpAny_bind ?_
  simp only [newTuple, newExc]
  refine wpAny_bind (wpAny_newObj_type ?_ (by size_fits))
  refine wpAny_bind (m := firstArgMember _ _) (wpAny_of_eq (a := Value.none) (by first | rfl | (simp only [firstArgMember] ; rfl)) ?_)
  refine (wpAny_newObj_type ?_ (by size_fits))
  simp only [raiseNew]
  refine wpAny_bind (wpAny_handled ?_)
  first | rw [show A.in1.handled = none from hh] | (rw [hh])
  refine wpAny_bind (wpAny_pure (wpAny_throw ?_))
  exact k _ _ (((Heap.SameBut.update ..).extBut.push _).push _) ⟨_, Heap.get?_push_size _ rfl, rfl⟩
theorem enT_item {e : Addr} {y old : Value} {Q : Value → Shared → Prop} (he : IsEnum s.heap e j i old) (hj : s.heap.IsTupleIter j u i) (hu : s.heap.IsTuple u xs) (hy : xs[i]? = some y) (ne : e ≠ j)
    (k : ∀ g, IsEnumOut g e j ((i : Int) + 1) y s.heap.objs.size → g.IsTupleIter j u (i + 1) → g.get? s.heap.objs.size = some { cls := .type "tuple", data := .seq #[.int i s.toks, y] } → g.objs.size = s.heap.objs.size + 1 →
      (∀ b o, b ≠ e → b ≠ j → s.heap.get? b = some o → g.get? b = some o) → Q (.ref s.heap.objs.size) { s with heap := g, toks := s.toks + 1 }) :
    wpAny (model prog w) A (Builtin.«enumerate.__next__» ⟨[.ref e], []⟩) (fun fin s' => ∃ v, fin = .done (.ret v) ∧ Q v s') E s := by
  obtain ⟨hp, gg, d, tk, os⟩ := s
  show wpAny _ _ (field (.ref e) 2 >>= _) _ _ _
  refine wpAny_bind (wpAny_field he rfl (x := .ref j) rfl ?_)
  refine wpAny_bind (nextT hj hu hy fun g₁ hj₁ sb₁ => ?_)
  replace sb₁ : Heap.SameBut j hp g₁ := sb₁
  have e₁ : IsEnum g₁ e j i old := (sb₁.2 e ne).trans he
  show wpAny _ _ (field (.ref e) 3 >>= _) _ _ ⟨g₁, gg, d, tk, os⟩
  refine wpAny_bind (wpAny_field e₁ rfl (x := rawInt i) rfl ?_)
  show wpAny _ _ (field (.ref e) 4 >>= _) _ _ ⟨g₁, gg, d, tk, os⟩
  refine wpAny_bind (wpAny_field e₁ rfl (x := .none) rfl ?_)
  show wpAny _ _ (mkInt i >>= _) _ _ ⟨g₁, gg, d, tk, os⟩
  refine wpAny_bind (wpAny_mkInt ?_)
  show wpAny _ _ (setField (.ref e) 3 (rawInt ((i : Int) + 1)) >>= _) _ _ ⟨g₁, gg, d, tk + 1, os⟩
  refine wpAny_bind (wpAny_setField_rec e₁ (by simp) fun g₂ e₂ sb₂ => ?_)
  replace sb₂ : Heap.SameBut e g₁ g₂ := sb₂
  replace e₂ : IsEnum g₂ e j ((i : Int) + 1) old := e₂
  show wpAny _ _ (setField (.ref e) 4 .none >>= _) _ _ ⟨g₂, gg, d, tk + 1, os⟩
  refine wpAny_bind (wpAny_setField_rec e₂ (by simp) fun g₃ e₃ sb₃ => ?_)
  replace sb₃ : Heap.SameBut e g₂ g₃ := sb₃
  replace e₃ : IsEnum g₃ e j ((i : Int) + 1) old := e₃
  show wpAny _ _ (newTuple [.int i tk, y] >>= _) _ _ ⟨g₃, gg, d, tk + 1, os⟩
  refine wpAny_bind (wpAny_newTuple ?_)
  have e₄ : IsEnum (g₃.push { cls := .type "tuple", data := .seq #[.int i tk, y] }) e j ((i : Int) + 1) old := Heap.get?_push_of_some _ e₃
  generalize hg : g₃.push { cls := .type "tuple", data := .seq #[.int i tk, y] } = g₄ at e₄
  have sz : g₃.objs.size = hp.objs.size := by rw [sb₃.1, sb₂.1, sb₁.1]
  have lt : e < hp.objs.size := Heap.lt_size he
  have t₄ : g₄.get? hp.objs.size = some { cls := .type "tuple", data := .seq #[.int i tk, y] } := by rw [← hg, ← sz]; exact Heap.get?_push_size _ rfl
  have z₄ : g₄.objs.size = hp.objs.size + 1 := by rw [← hg, Heap.size_push, sz]
  have k₄ : ∀ b o, b ≠ e → b ≠ j → hp.get? b = some o → g₄.get? b = some o := fun b o h1 h2 hb => by
    rw [← hg]; exact Heap.get?_push_of_some _ (sb₃.extBut b o h1 (sb₂.extBut b o h1 (sb₁.extBut b o h2 hb)))
  have j₄ : g₄.IsTupleIter j u (i + 1) := by
    rw [← hg]; obtain ⟨o, ho, r⟩ := (hj₁.extBut sb₂.extBut (Ne.symm ne)).extBut sb₃.extBut (Ne.symm ne); exact ⟨o, Heap.get?_push_of_some _ ho, r⟩
  show wpAny _ _ (Builtin.SmallTypes.ownedTupleIsFree (.ref e) >>= _) _ _ ⟨g₄, gg, d, tk + 1, os⟩
  rw [sz]
  clear hg e₃ sb₃ e₂ sb₂ e₁ sb₁ hj₁ sz g₃ g₂ g₁
  refine wpAny_bind ?_
  · unfold Builtin.SmallTypes.ownedTupleIsFree
    refine wpAny_bind (wpAny_field e₄ rfl (x := .none) rfl (wpAny_pure ?_))
    simp only [if_true]
    refine wpAny_bind (wpAny_rule ?_)
    refine wpAny_bind (wpAny_field e₄ rfl (x := old) rfl ?_)
    refine wpAny_bind (wpAny_setField_rec e₄ (by simp) fun g₅ e₅ sb₅ => ?_)
    replace sb₅ : Heap.SameBut e g₄ g₅ := sb₅
    replace e₅ : IsEnum g₅ e j ((i : Int) + 1) y := e₅
    show wpAny _ _ (Builtin.SmallTypes.ownedTupleHandOut (.ref e) (.ref hp.objs.size) >>= _) _ _ ⟨g₅, gg, d, tk + 1, os⟩
    refine wpAny_bind ?_
    · unfold Builtin.SmallTypes.ownedTupleHandOut
      refine wpAny_bind (wpAny_setField_rec e₅ (by simp) fun g₆ e₆ sb₆ => ?_)
      replace sb₆ : Heap.SameBut e g₅ g₆ := sb₆
      replace e₆ : IsEnumOut g₆ e j ((i : Int) + 1) y hp.objs.size := e₆
      refine wpAny_setField_rec e₆ (by simp) fun g₇ e₇ sb₇ => ?_
      replace sb₇ : Heap.SameBut e g₆ g₇ := sb₇
      replace e₇ : IsEnumOut g₇ e j ((i : Int) + 1) y hp.objs.size := e₇
      refine wpAny_bind (wpAny_letGo (wpAny_pure ⟨_, rfl, k g₇ e₇ ?_ ?_ ?_ ?_⟩))
      · exact ((j₄.extBut sb₅.extBut (Ne.symm ne)).extBut sb₆.extBut (Ne.symm ne)).extBut sb₇.extBut (Ne.symm ne)
      · exact sb₇.extBut _ _ (Nat.ne_of_gt lt) (sb₆.extBut _ _ (Nat.ne_of_gt lt) (sb₅.extBut _ _ (Nat.ne_of_gt lt) t₄))
      · rw [sb₇.1, sb₆.1, sb₅.1, z₄]
      · exact fun b o h1 h2 hb => sb₇.extBut b o h1 (sb₆.extBut b o h1 (sb₅.extBut b o h1 (k₄ b o h1 h2 hb)))
theorem enT_next {e : Addr} {y old : Value} {Q : Option Value → Shared → Prop} (he : IsEnum s.heap e j i old) (hj : s.heap.IsTupleIter j u i) (hu : s.heap.IsTuple u xs) (hy : xs[i]? = some y) (ne : e ≠ j)
    (k : ∀ g, IsEnumOut g e j ((i : Int) + 1) y s.heap.objs.size → g.IsTupleIter j u (i + 1) → g.get? s.heap.objs.size = some { cls := .type "tuple", data := .seq #[.int i s.toks, y] } → g.objs.size = s.heap.objs.size + 1 →
      (∀ b o, b ≠ e → b ≠ j → s.heap.get? b = some o → g.get? b = some o) → Q (some (.ref s.heap.objs.size)) { s with heap := g, toks := s.toks + 1 }) : wpAny (model prog w) A (pyNext (.ref e)) Q E s := by
  have ty : s.TypeIs (.ref e) "enumerate" := ⟨_, he, rfl⟩
  unfold pyNext
  exact wpAny_bind (wpAny_attempt (wpAny_callSpecial?_slot (name := Str.ofString "__next__") ty F.slot_enumerate_next (wpAny_call_entry F.slot_enumerate_next ty F.entry_enumerate_next
    (enT_item he hj hu hy ne fun g a b c d f => wpAny_pure (k g a b c d f)) (F.args_enumerate_next_1 _))))
theorem enT_stop {e : Addr} {old : Value} {Q : Option Value → Shared → Prop} (hh : A.handled = none) (he : IsEnum s.heap e j i old) (hj : s.heap.IsTupleIter j u i) (hu : s.heap.IsTuple u xs) (hy : xs[i]? = none)
    (k : ∀ g, Heap.ExtBut j s.heap g → Q none { s with heap := g }) : wpAny (model prog w) A (pyNext (.ref e)) Q E s := by
  have ty : s.TypeIs (.ref e) "enumerate" := ⟨_, he, rfl⟩
  unfold pyNext
  refine wpAny_bind (wpAny_attempt (wpAny_callSpecial?_slot (name := Str.ofString "__next__") ty F.slot_enumerate_next (wpAny_call_entry F.slot_enumerate_next ty F.entry_enumerate_next ?_ (F.args_enumerate_next_1 _))))
  show wpAny _ _ (field (.ref e) 2 >>= _) _ _ _
  refine wpAny_bind (wpAny_field he rfl (x := .ref j) rfl ?_)
  refine wpAny_bind (nextT_end hh hj hu hy fun g x hg ⟨o, ho, hc⟩ => ?_)
  refine wpAny_bind (wpAny_isInstance (T := "StopIteration") (b := true) ⟨o, ho, hc⟩ isSubtype_stop ?_)
  exact wpAny_pure (k _ hg)
end
open AutoSeq1 (wpAny_loadPart') in
theorem meets_enT (u : Addr) (xs : Array Value) (o : Obj) (n : Nat) (hc : o.cls = .type "tuple") (hd : o.data = .seq xs n) :
    Meets (Builtin.«enumerate.__new__» ⟨[.type "enumerate", .ref u], []⟩) (fun _ R s => s.heap.get? u = some o ∧ R (.ok (.ret (.ref (s.heap.push { cls := .type "tuple_iterator", data := .fields #[.ref u, .int 0 0] }).objs.size)))
        { s with heap := (s.heap.push { cls := .type "tuple_iterator", data := .fields #[.ref u, .int 0 0] }).push { cls := .type "enumerate", data := .fields #[.none, .bool false, .ref s.heap.objs.size, rawInt 0, .none, .none] } }) :=
  .of_wp fun prog w A R s h => by
    obtain ⟨hp, g, d, tk, os⟩ := s; obtain ⟨hu, h⟩ := h
    obtain ⟨oc, od, odat, osl⟩ := o
    obtain rfl : oc = .type "tuple" := hc
    obtain rfl : odat = .seq xs n := hd
    have su := sub_enumerate
    have hT : Heap.IsTuple (Shared.heap ⟨hp, g, d, tk, os⟩) u xs := ⟨_, hu, rfl, n, rfl⟩
    wp_walk using wpAny_loadPart' hu
    refine wpAny_stack_any fun st => wpAny_pure ?_
    split
    · rename_i c _ _ _ _ _
      cases (c == Value.type "enumerate")
      · wp_walk using wpAny_loadPart' hu, wpAny_pyIter_tuple hT
        exact ⟨_, rfl, h⟩
      · wp_walk using wpAny_loadPart' hu, wpAny_pyIter_tuple hT
        exact ⟨_, rfl, h⟩
    · wp_walk using wpAny_loadPart' hu, wpAny_pyIter_tuple hT
      exact ⟨_, rfl, h⟩
section
variable {X : Cx} {pins : List (Addr × Obj)} {σ : St} {H : Hp} {s : Shared} {h' : Heap}
theorem Inv.turnL {t' : Nat} {fp : List Addr} (I : Inv X pins σ H s) (k : ∀ b o, b ∉ fp → s.heap.get? b = some o → h'.get? b = some o) (hf : ∀ b ∈ fp, FpOk X pins H b) : Inv X pins σ H { s with heap := h', toks := t' } := by
  have nf : ∀ b u, H b = some u → b ∉ fp := fun b u e z => by
    have := (hf b z).1
    rw [this] at e
    cases e
  refine I.step (g' := s.gens) (d' := s.drawn) (ch := fp) (fun b hb => ⟨(hf b hb).2.2.2.1, (hf b hb).2.1, (hf b hb).2.2.2.2.1, (hf b hb).2.2.2.2.2⟩) (fun b o _ _ hc e _ => k b o hc e) (fun b o _ _ hc e _ => ⟨o.slots, k b o hc e⟩) (fun _ _ _ _ n => n)
    (fun b o hc e => ⟨o, k b o hc e⟩) (fun _ _ e => e) (fun _ _ _ e => e) (fun b ps e => ⟨#[], by rw [e]; simp⟩) (fun m hm => ?_) (fun b u e => ?_) I.bare
  · obtain ⟨o, es, ep, ho, r⟩ := hm
    exact ⟨o, es, ep, k _ o (fun z => (hf _ z).2.1 rfl) ho, r⟩
  · refine (I.hok b u e).stay (fun c v hc q => k c v ?_ q) (fun _ q => q) fun _ _ q => q
    rcases hc with z | z
    · rw [z]
      exact nf b u e
    · exact nf c _ z
end
def Ite (K : PySem.W.Frag) (a : Addr) : It :=
  ⟨fun i H => ∃ xs x, SqT K H a xs ∧ xs[i]? = some x, fun i H x H' => ∃ p v, (∀ xs, SqT K H a xs → xs[i]? = some v) ∧ H p = none ∧ x = .ref p ∧ H' = upd H p (.tup [.int (i : Nat), v]), fun i H => ∃ xs, SqT K H a xs ∧ xs.length ≤ i⟩
theorem turn_en {P : Program} {w : World} {K : PySem.W.Frag} {el : List Expr} {x1} {tp : Pos} (a e j : Addr) (ne : e ≠ j) : Turn P w K (.Tuple el x1 tp) (Ite K a) [e, j] e (fun i h => (∃ old, IsEnum h e j i old) ∧ h.IsTupleIter j a i) where
  mem := by simp
  obj := fun i h st b hb => by
    obtain ⟨⟨old, he⟩, oj, ej, cj, dj⟩ := st
    rcases List.mem_cons.mp hb with rfl | hb
    · exact ⟨_, he, fun v z => by cases (show Data.fields _ = Data.cell v from z)⟩
    · have z : b = j := by simpa using hb
      subst z
      exact ⟨oj, ej, fun v z => by rw [dj] at z; cases z⟩
  keep := fun i h h' st k => by
    obtain ⟨⟨old, he⟩, oj, ej, r⟩ := st
    exact ⟨⟨old, k e (by simp) _ he⟩, oj, k j (by simp) _ ej, r⟩
  item := by
    intro X hP hw hK hc i pins s σ H E I hf st hg
    subst hP hw hK
    obtain ⟨xs, x, hq, hx⟩ := hg
    obtain ⟨its, rv, p, hz⟩ := I.tuple hq
    obtain ⟨u, hu, ru⟩ := rv.get hx
    obtain ⟨⟨old, he⟩, hj⟩ := st
    refine enT_next he hj (show s.heap.IsTuple a its.toArray from p) (y := u) (by simpa using hu) ne fun g hout hj' hT hsz kk => ⟨_, rfl, ?_⟩
    refine wpAny_letOwnedTupleGo_enum hout fun g2 he2 sb2 => ?_
    replace sb2 : Heap.SameBut e g g2 := sb2
    have lte : e < s.heap.objs.size := Heap.lt_size he
    have ltj : j < s.heap.objs.size := by
      obtain ⟨_, ej, _⟩ := hj
      exact Heap.lt_size ej
    have hn : H s.heap.objs.size = none := I.fresh
    have I1 : Inv X pins σ (upd H s.heap.objs.size (.tup [.int (i : Nat), x])) { s with heap := s.heap.push { cls := .type "tuple", data := .seq #[.int i s.toks, u] }, toks := s.toks + 1 } :=
      I.laid (fun b o q => Heap.get?_push_of_some _ q) (Nat.le_refl _) ⟨by show 2 ≤ sizeLine; decide, [.int i s.toks, u], .cons ⟨_, rfl⟩ (.cons ru .nil), ⟨_, Heap.get?_push_size _ rfl, rfl, _, rfl⟩⟩
    have fp' : ∀ b ∈ [e, j], FpOk X pins (upd H s.heap.objs.size (.tup [.int (i : Nat), x])) b := fun b hb => by
      have nb : b ≠ s.heap.objs.size := by
        rcases List.mem_cons.mp hb with rfl | hb'
        · exact Nat.ne_of_lt lte
        · have z : b = j := by simpa using hb'
          subst z
          exact Nat.ne_of_lt ltj
      exact ⟨by rw [upd_ne nb]; exact (hf b hb).1, (hf b hb).2⟩
    have I2 := I1.turnL (h' := g2) (t' := s.toks + 1) (fp := [e, j]) (fun b o hb q => by
      have n1 : b ≠ e := fun z => hb (by simp [z])
      have n2 : b ≠ j := fun z => hb (by simp [z])
      refine (sb2.2 b n1).trans ?_
      rcases Heap.get?_push_cases q with ⟨rfl, rfl⟩ | q0
      · exact hT
      · exact kk b o n1 n2 q0) fp'
    refine ⟨.ref s.heap.objs.size, _, I2, rfl, ⟨_, x, fun ys hy => by rw [I.tuple_inj hy hq]; exact hx, hn, rfl, rfl⟩, ⟨⟨_, by simpa using he2⟩, ?_⟩, fun b hb => (fp' b hb).1⟩
    exact hj'.extBut sb2.extBut (Ne.symm ne)
  done := by
    intro X hP hw hK hc i pins s σ H E I hf st hg
    subst hP hw hK
    obtain ⟨xs, hq, hx⟩ := hg
    obtain ⟨its, rv, p, hz⟩ := I.tuple hq
    obtain ⟨⟨old, he⟩, hj⟩ := st
    have hl := rv.length
    exact enT_stop (I.ok.hd hc) he hj (show s.heap.IsTuple a its.toArray from p) (by simp; omega) fun g eb => ⟨rfl, I.turnL (t' := s.toks) (fp := [e, j]) (fun b o hb q => eb b o (fun z => hb (by simp [z])) q) hf⟩
  self := fun _ _ _ _ _ st h => by
    obtain ⟨⟨old, he⟩, _⟩ := st
    exact wpAny_pyIter_enum he h
section
variable {X : Cx} {a : Expr} {ta : TA} {el : List Expr} {x1} {tp p pos : Pos}
def iEn (K : PySem.W.Frag) (ta : TA) : TI := fun σ H R => ta σ H fun vs H1 => ∃ a, vs = [.ref a] ∧ (∃ xs, SqT K H1 a xs) ∧ R (Ite K a) H1
theorem pi_en (hg : Gl X "enumerate") (hm : X.mg "enumerate" = none) (ha : PA X [a] ta) (hs : starEach [a] X.env = [(false, eval a X.env)] := by rfl) : PI X (.Tuple el x1 tp) (.Call (.Name "enumerate" p) [a] [] pos) (iEn X.K ta) := by
  intro pins s σ H R I h
  refine Call_ (ld_blt I hg hm boot_enumerate (PyProof.Rows.callWith_type1 (thn (ha pos pins s σ H _ I h) fun us s1 ⟨vs, H1, I1, r1, q1⟩ => ?_) hs rfl))
  obtain ⟨b, rfl, ⟨xs, hq⟩, q⟩ := q1
  obtain ⟨v, rfl, rv⟩ := vals1 r1
  cases rv
  obtain ⟨its, rr, pl, hz⟩ := I1.tuple hq
  obtain ⟨o, ho, hc, n, hd⟩ := (show s1.heap.IsTuple b its.toArray from pl)
  refine callType_new F.called_enumerate (by decide) (F.typeCall_enumerate_1 _) (F.newCall_enumerate_1 _) (fun obj => F.args_object_init_2 obj _) F.entry_enumerate_new (meets_enT b its.toArray o n hc hd) ⟨ho, ?_⟩
  have z1 : (s1.heap.push { cls := .type "tuple_iterator", data := .fields #[.ref b, .int 0 0] }).objs.size = s1.heap.objs.size + 1 := Heap.size_push ..
  show _ ∧ _
  rw [z1]
  have he : IsEnum ((s1.heap.push { cls := .type "tuple_iterator", data := .fields #[.ref b, .int 0 0] }).push { cls := .type "enumerate", data := .fields #[.none, .bool false, .ref s1.heap.objs.size, rawInt 0, .none, .none] }) (s1.heap.objs.size + 1) s1.heap.objs.size ((0 : Nat) : Int) .none := by
    have z2 := Heap.get?_push_size (s1.heap.push { cls := .type "tuple_iterator", data := .fields #[.ref b, .int 0 0] }) (o := { cls := .type "enumerate", data := .fields #[.none, .bool false, .ref s1.heap.objs.size, rawInt 0, .none, .none] }) rfl
    rw [z1] at z2
    exact z2
  have hj : Heap.IsTupleIter ((s1.heap.push { cls := .type "tuple_iterator", data := .fields #[.ref b, .int 0 0] }).push { cls := .type "enumerate", data := .fields #[.none, .bool false, .ref s1.heap.objs.size, rawInt 0, .none, .none] }) s1.heap.objs.size b 0 :=
    ⟨_, Heap.get?_push_of_some _ (Heap.get?_push_size _ rfl), rfl, rfl⟩
  have I2 : Inv X pins σ H1 { s1 with heap := (s1.heap.push { cls := .type "tuple_iterator", data := .fields #[.ref b, .int 0 0] }).push { cls := .type "enumerate", data := .fields #[.none, .bool false, .ref s1.heap.objs.size, rawInt 0, .none, .none] } } :=
    I1.kept (t' := s1.toks) fun c o' e => Heap.get?_push_of_some _ (Heap.get?_push_of_some _ e)
  refine ⟨⟨_, he, rfl⟩, wpAny_pyIter_enum he ⟨s1.heap.objs.size + 1, [s1.heap.objs.size + 1, s1.heap.objs.size], _, _, H1, rfl, I2, turn_en b _ _ (Nat.ne_of_gt (Nat.lt_succ_self _)), ⟨⟨_, he⟩, hj⟩, fun c hcm => ?_, q⟩⟩
  have hge : s1.heap.objs.size ≤ c := by
    rcases List.mem_cons.mp hcm with rfl | hcm
    · exact Nat.le_succ _
    · have z : c = s1.heap.objs.size := by simpa using hcm
      exact Nat.le_of_eq z.symm
  exact I1.fpOk hge (I1.hok.fresh hge)
end
theorem z_ien {K : PySem.W.Frag} {σ : St} {H : Hp} {ta : TA} {R : It → Hp → Prop} : iEn K ta σ H R = ta σ H (fun vs H1 => ∃ a, vs = [.ref a] ∧ (∃ xs, SqT K H1 a xs) ∧ R (Ite K a) H1) := rfl
theorem fi_en {K : PySem.W.Frag} {σ : St} {H : Hp} {g : TG} {tb : TS} {D : Ends} {α : Type} {es : List α} {inj : α → V} {a : Addr} (Pv : List α → St → Hp → Prop) (h0 : Pv [] σ H) (hw : ∀ pre σ H, Pv pre σ H → SqT K H a (es.map inj))
    (hs : ∀ pre e post σ H p, es = pre ++ e :: post → Pv pre σ H → H p = none → g (.ref p) σ (upd H p (.tup [.int (pre.length : Nat), inj e])) fun σ2 H2 => tb { D with nx := Pv (pre ++ [e]), ct := Pv (pre ++ [e]), bk := D.nx } σ2 H2) (hd : ∀ σ H, Pv es σ H → D.nx σ H) : FI (Ite K a) g tb D σ H := by
  refine ⟨fun i m σ H => m = es.length - i ∧ i ≤ es.length ∧ Pv (es.take i) σ H, ⟨es.length, by simp, Nat.zero_le _, h0⟩, ?_⟩
  rintro i m σ H ⟨rfl, hi, p⟩
  have w := hw _ _ _ p
  cases he : es[i]? with
  | none =>
    have e : i = es.length := Nat.le_antisymm hi (List.getElem?_eq_none_iff.mp he)
    subst e
    rw [List.take_length] at p
    exact .inl ⟨⟨_, w, by rw [List.length_map]; exact Nat.le_refl _⟩, hd _ _ p⟩
  | some e =>
    obtain ⟨hlt, ee⟩ := List.getElem?_eq_some_iff.mp he
    have tk : es.take (i + 1) = es.take i ++ [e] := by rw [List.take_succ, he]; rfl
    have sp : es = es.take i ++ e :: es.drop (i + 1) := by
      rw [← ee, ← List.drop_eq_getElem_cons hlt, List.take_append_drop]
    refine .inr ⟨⟨_, inj e, w, by rw [List.getElem?_map, he]; rfl⟩, Pv (es.take i ++ [e]), fun σ' H' q => ⟨es.length - (i + 1), by omega, rfl, hlt, by rw [tk]; exact q⟩, fun x H' y => ?_⟩
    obtain ⟨b, v, y1, y2, rfl, rfl⟩ := y
    have y3 := y1 _ w
    rw [List.getElem?_map, he] at y3
    obtain rfl : inj e = v := Option.some.inj y3
    have hl : (es.take i).length = i := by rw [List.length_take]; omega
    have z := hs _ e _ σ H b sp p y2
    rw [hl] at z
    exact z
end L2
namespace L2
open PySem PySem.Spec PyProof.Rows
section
variable {X : Cx}
theorem call_all (hc : X.calm = true) : CallR X (.builtin "all") (fun xs H Q => ∃ (a : Addr) (bs : List Bool), xs = [.ref a] ∧ SqL X.K H a (bs.map V.bl) ∧ Q (.bl (bs.all id)) H) := by
  intro pins s σ H xs us Q I r h
  obtain ⟨a, bs, rfl, ha, q⟩ := h
  obtain ⟨u, rfl, ru⟩ := vals1 r
  cases ru
  obtain ⟨its, rv, p, hz⟩ := I.list ha
  have hl : s.heap.IsList a its.toArray := p.isList
  have lt : a < s.heap.objs.size := by
    obtain ⟨_, e, _⟩ := hl
    exact Heap.lt_size e
  have ln : its.length = bs.length := by
    have := rv.length
    rw [List.length_map] at this
    exact this.symm
  refine call_all_walk (wpAny_pyIter_list hl ?_)
  refine ⟨s.heap.objs.size, [s.heap.objs.size, a], [s.heap.objs.size], its.toArray.size, _, _, fun i => (bs[i]?).getD true, rfl, Walks.list (A := X.A.in1) (I.ok.hd hc) _ a (Nat.ne_of_lt lt) its.toArray,
    ⟨⟨_, Heap.get?_push_size _ rfl, rfl, rfl⟩, hl.push _⟩, fun i v s' Q' E' hP hQ => ?_, fun g tk hk => ?_⟩
  · have hv : its[i]? = some v := by simpa using hP
    have hi : i < its.length := (List.getElem?_eq_some_iff.mp hv).1
    have hb : bs[i]? = some bs[i] := List.getElem?_eq_getElem (by omega)
    obtain ⟨w', hw, rw'⟩ := rv.get (show (bs.map V.bl)[i]? = some (V.bl bs[i]) by rw [List.getElem?_map, hb]; rfl)
    rw [hv] at hw
    cases hw
    cases rw'
    simp only [hb, Option.getD_some] at hQ
    exact wpAny_truthy_bool hQ
  · have e : ((List.range its.toArray.size).all fun i => (bs[i]?).getD true) = bs.all id := by
      rw [List.size_toArray, ln, Bool.eq_iff_iff, List.all_eq_true, List.all_eq_true]
      constructor
      · intro h x hx
        obtain ⟨i, hi, ei⟩ := List.getElem_of_mem hx
        have := h i (List.mem_range.mpr hi)
        rw [List.getElem?_eq_getElem hi, ei] at this
        exact this
      · intro h i hi
        have hi' := List.mem_range.mp hi
        rw [List.getElem?_eq_getElem hi']
        exact h _ (List.getElem_mem hi')
    rw [e]
    exact ⟨.bl _, H, I.kept (t' := tk) fun b o q' => hk b o (fun hm => by rw [List.mem_singleton.mp hm] at q'; exact Nat.lt_irrefl _ (Heap.lt_size q')) (Heap.get?_push_of_some _ q'), rfl, q⟩
end
open AutoSeq1 (wpAny_loadPart') in
open AutoSeq1 (wpAny_loadPart') in
open AutoSeq1 (wpAny_loadPart') in
section
variable {X : Cx}
theorem ix_listK (K : PySem.W.Frag) (h : X.K = K := by rfl) : IxR X (rIxL K) := by subst h; exact ix_list
end
section
variable {X : Cx}
theorem call_isT : CallR X (.builtin "isinstance") (fun xs H Q => ∃ (a : Addr) (ys : List V) (T : String) (b : Bool), xs = [.ref a, .ty T] ∧ SqT X.K H a ys ∧ PySem.W.kitOne X.K (.type "tuple") (.type T) = some b ∧ Q (.bl b) H) := by
  intro pins s σ H xs us Q I r h
  obtain ⟨a, ys, T, b, rfl, ht, hk, q⟩ := h
  obtain ⟨u, c, rfl, ru, rc⟩ := vals2 r
  cases rc
  cases ru
  obtain ⟨its, rv, p, _⟩ := I.tuple ht
  obtain ⟨o, h1, h2, _⟩ := (show s.heap.IsTuple a its.toArray from p)
  exact PySem.W.kia_one PySem.W.kitx_tuple I.kIn ⟨o, h1, h2⟩ hk (fun z => nomatch z) fun tk => ⟨.bl b, H, I.tok tk, rfl, q⟩
end
def polysD (ps : List (List Int)) : PyData := .list (ps.map fun p => .tuple (p.map PyData.int))
theorem canLay_polys : ∀ ps : List (List Int), PyData.canLayAll0 (ps.map fun p => PyData.tuple (p.map PyData.int)) = true
  | [] => rfl
  | p :: r => by
    rw [List.map_cons]
    simp [PyData.canLayAll0, PyData.canLay0, PySem.W.ke_canLayAll0, canLay_polys r]
theorem depth_polys : ∀ ps : List (List Int), PyData.depthAll (ps.map fun p => PyData.tuple (p.map PyData.int)) ≤ 10
  | [] => by decide
  | p :: r => by
    rw [List.map_cons]
    have h1 := depth_polys r
    have h2 : PyData.depth (.tuple (p.map PyData.int)) ≤ 10 := by
      have := shaped_ints p
      simp [PyData.depth, PySem.W.ke_depthAll]
    simp only [PyData.depthAll]
    omega
theorem shaped_polys (ps : List (List Int)) : SeqAt.shaped (polysD ps) = true := by
  have h := depth_polys ps
  simp [polysD, SeqAt.shaped, PyData.canLay0, PyData.depth, canLay_polys]
  omega
theorem eqv_polys : ∀ ps : List (List Int), PyData.eqvAll (ps.map fun p => PyData.tuple (p.map PyData.int)) (ps.map fun p => PyData.tuple (p.map PyData.int)) = true
  | [] => by simp [PyData.eqvAll]
  | p :: r => by
    rw [List.map_cons]
    simp only [PyData.eqvAll, PyData.eqv, eqv_ints, eqv_polys r, decide_true, Bool.and_self]
theorem eq_polys {K : PySem.W.Frag} {H : Hp} {a b : Addr} {xs ys : List V} {g : Bool → Bool} {Q : VK} (ps : List (List Int)) (ha : SqL K H a xs) (hb : SqL K H b ys) (h1 : RdDs K H xs (ps.map fun p => .tuple (p.map PyData.int))) (h2 : RdDs K H ys (ps.map fun p => .tuple (p.map PyData.int)))
    (h : Q (.bl (g true)) H) : rEqD K g (.ref a) (.ref b) H Q :=
  ⟨polysD ps, polysD ps, .lst ha h1, .lst hb h2, shaped_polys _, shaped_polys _, by rw [polysD, PyData.eqv, eqv_polys]; exact h⟩
end L2
namespace L2
open PySem PySem.Spec PyProof.Rows
section
variable {X : Cx} {e st : Expr} {te tst : TE} {pos p2 : Pos}
def tRev (K : PySem.W.Frag) (te tst : TE) : TE := fun σ H Q => te σ H fun x H1 => tst σ H1 fun y H2 => ∃ a xs, x = .ref a ∧ y = .int (-1) ∧ SqT K H2 a xs ∧ ∀ p, H2 p = none → Q (.ref p) (upd H2 p (.tup xs.reverse))
theorem z_rev {K : PySem.W.Frag} {σ : St} {H : Hp} {Q : VK} : tRev K te tst σ H Q = te σ H (fun x H1 => tst σ H1 fun y H2 => ∃ a xs, x = .ref a ∧ y = .int (-1) ∧ SqT K H2 a xs ∧ ∀ p, H2 p = none → Q (.ref p) (upd H2 p (.tup xs.reverse))) := rfl
end
end L2
namespace L2
open PySem PySem.Spec PyProof.Rows
set_option maxRecDepth 100000
open AutoSeq1 (wpAny_loadPart') in
def Itv (K : PySem.W.Frag) (a : Addr) (n : Nat) : It :=
  ⟨fun i H => ∃ xs x, SqT K H a xs ∧ xs.length = n ∧ xs.reverse[i]? = some x, fun i H x H' => H' = H ∧ ∀ xs, SqT K H a xs → xs.reverse[i]? = some x, fun i _ => n ≤ i⟩
section
variable {X : Cx} {a : Expr} {ta : TA} {tg : Expr} {p pos : Pos}
def iRv (K : PySem.W.Frag) (ta : TA) : TI := fun σ H R => ta σ H fun vs H1 => ∃ a, vs = [.ref a] ∧ ∃ xs, SqT K H1 a xs ∧ R (Itv K a xs.length) H1
end
theorem z_irv {K : PySem.W.Frag} {σ : St} {H : Hp} {ta : TA} {R : It → Hp → Prop} : iRv K ta σ H R = ta σ H (fun vs H1 => ∃ a, vs = [.ref a] ∧ ∃ xs, SqT K H1 a xs ∧ R (Itv K a xs.length) H1) := rfl
end L2
namespace L2
open PySem PySem.Spec PyProof.Rows
set_option maxRecDepth 100000
theorem ObjOk.has {P : Program} {w : World} {H : Hp} {h : Heap} {a : Addr} {o : HO} (x : ObjOk P w H h a o) : ∃ ob, h.get? a = some ob := by
  cases o with
  | lst xs => obtain ⟨_, _, _, _, e⟩ := x; exact ⟨_, e⟩
  | tup xs => obtain ⟨_, _, _, ob, e, _⟩ := x; exact ⟨_, e⟩
  | dK kvs => obtain ⟨_, _, _, _, o, _, _, e, _⟩ := x; exact ⟨_, e⟩
  | dT kvs => obtain ⟨_, _, _, _, o, _, _, e, _⟩ := x; exact ⟨_, e⟩
  | set S n => obtain ⟨o, _, _, _, e, _⟩ := x; exact ⟨_, e⟩
  | ins C dx fs => obtain ⟨_, _, _, e, _⟩ := x; exact ⟨_, e⟩
  | own y => exact x
  | xd fs => obtain ⟨_, ⟨_, _, _, e, _⟩, _⟩ := x; exact ⟨_, e⟩
  | rng lo hi => obtain ⟨_, _, _, e⟩ := x; exact ⟨_, e⟩
  | frz ob u => obtain ⟨e, _⟩ := x; exact ⟨_, e⟩
  | tbl ps => exact ⟨_, show h.get? a = some _ from x⟩
  | met f y => exact ⟨_, show h.get? a = some _ from x⟩
  | ext φ => exact x.2.1
structure FX (P : Program) (w : World) (fr : List Addr) (H : Hp) (h0 : Heap) (B : Heap) (H' : Hp) (h : Heap) : Prop where
  stay : B.StaysIn h
  k1 : ∀ b o, h0.get? b = some o → b ∉ fr → ∃ o', B.get? b = some o' ∧ (H b = none → o' = o)
  k2 : ∀ b u, H' b = some u → ∃ o, B.get? b = some o
  fr0 : ∀ b ∈ fr, H b = none ∧ ∃ o, h0.get? b = some o ∧ ∀ vs, o.data ≠ .fields vs
  un : Un fr [] H H' h0 h
  hok : HOk P w H' h
theorem FX.step {P : Program} {w : World} {fr : List Addr} {H H' : Hp} {h0 B h h' : Heap} (x : FX P w fr H h0 B H' h) (k : B.StaysIn h') (u : h.UpToSlots h') : FX P w fr H h0 B H' h' := by
  have slot : ∀ b o, h0.get? b = some o → H b = none → b ∈ fr → ∃ sl, h'.get? b = some { o with slots := sl } := fun b o e n hb => by
    obtain ⟨sl, e1⟩ := x.un.slot b o e n hb (by simp)
    obtain ⟨_, o2, e2, hf⟩ := x.fr0 b hb
    rw [e] at e2; cases e2
    obtain ⟨sl', e3⟩ := u b _ e1 hf
    exact ⟨sl', e3⟩
  refine ⟨k, x.k1, x.k2, x.fr0, ⟨fun b o e n hb _ => ?_, fun b o e n hb _ => slot b o e n hb, x.un.free, fun b o e _ => ?_, x.un.tups, x.un.frzs, x.un.tbls⟩, fun b v e => (x.hok b v e).stay (fun c z hc q => ?_) (fun _ q => q) fun _ _ q => q⟩
  · obtain ⟨o', e1, e2⟩ := x.k1 b o e hb
    rw [e2 n] at e1
    exact k b o e1
  · by_cases hb : b ∈ fr
    · obtain ⟨sl, e1⟩ := slot b o e (x.fr0 b hb).1 hb
      exact ⟨_, e1⟩
    · obtain ⟨o', e1, _⟩ := x.k1 b o e hb
      exact ⟨o', k b o' e1⟩
  · have t : ∃ o, B.get? c = some o := by
      rcases hc with z | z
      · rw [z]; exact x.k2 _ _ e
      · exact x.k2 _ _ z
    obtain ⟨o, eo⟩ := t
    have := x.stay c o eo
    rw [q] at this; cases this
    exact k c _ eo
section
variable {X : Cx} {pins : List (Addr × Obj)} {σ : St} {H H' : Hp} {s s' : Shared} {B : Heap}
theorem Inv.old (I : Inv X pins σ H s) {b : Addr} {o : Obj} (e : X.s₀.heap.get? b = some o) (hb : b ∉ X.fs) : b ∉ frs X.stack := fun z => by
  rcases List.mem_cons.mp (I.stkSub b z) with q | q
  · exact absurd (Nat.lt_of_lt_of_le (Heap.lt_size e) I.ok.above) (by rw [q]; exact Nat.lt_irrefl _)
  · exact hb q
theorem Inv.fr0 (I : Inv X pins σ H s) : ∀ b ∈ X.fs, X.H₀ b = none ∧ ∃ o, X.s₀.heap.get? b = some o ∧ ∀ vs, o.data ≠ .fields vs := fun b hb => by
  obtain ⟨_, o, ho, hd⟩ := I.ok.funs.mem hb
  exact ⟨I.ok.frf b hb, o, ho, hd⟩
theorem Inv.one (I : Inv X pins σ H s) (hex : X.ex = []) {b : Addr} {o : Obj} (e : X.s₀.heap.get? b = some o) (hb : b ∉ X.fs) : ∃ o', s.heap.get? b = some o' ∧ (X.H₀ b = none → o' = o ∧ H b = none) := by
  by_cases n : X.H₀ b = none
  · exact ⟨o, I.base.keep b o e n hb (by rw [hex]; simp), fun _ => ⟨rfl, I.base.free b o e n (by rw [hex]; simp)⟩⟩
  · obtain ⟨o', e1⟩ := I.base.there b o e (by rw [hex]; simp)
    exact ⟨o', e1, fun z => absurd z n⟩
theorem Inv.fx (I : Inv X pins σ H s) (hex : X.ex = []) : FX X.prog X.w X.fs X.H₀ X.s₀.heap (PySem.W.hideAll s.heap (frs X.stack)) H s.heap := by
  refine ⟨fun b o q => PySem.W.of_hideAll _ q, fun b o e hb => ?_, fun b u e => ?_, I.fr0, hex ▸ I.base, I.hok⟩
  · obtain ⟨o', e1, e2⟩ := I.one hex e hb
    exact ⟨o', PySem.W.hideAll_get _ e1 (I.old e hb), fun n => (e2 n).1⟩
  · obtain ⟨o, eo⟩ := (I.hok b u e).has
    exact ⟨o, PySem.W.hideAll_get _ eo fun z => by have := I.stkFree b z; rw [e] at this; cases this⟩
end
def CXE (P : Program) (w : World) : CXT := fun outer H s E e s' => ∃ (x C : Addr) (a0 : Value) (B : Heap) (H' : Hp), e = .ref x ∧ s'.os = s.os ∧ AllBare s'.gens ∧ Heap.FlyingW B outer x (.ref C) a0 s'.heap ∧ FX P w (frs outer) H s.heap B H' s'.heap ∧ E (.ref C) none H'
abbrev VE : List Value := [.type "ValueError", .type "Exception", .type "BaseException", .type "object"]
def ExcK (K : PySem.W.Frag) (C : Addr) : Prop := PySem.W.excIn K C VE "ValueError.__new__" = true
def cA (K : PySem.W.Frag) (x : Str) : Addr := match PySem.W.nsIn K mainGlobals x with
  | some (some (.ref C)) => C
  | _ => 0
theorem cA_of {K : PySem.W.Frag} {x : Str} {C : Addr} (e : PySem.W.nsIn K mainGlobals x = some (some (.ref C))) : cA K x = C := by
  unfold cA
  rw [e]
def ExcO (h : Heap) (C : Addr) : Prop := ∃ bm N nm q bs hdct sn sub ab col dd k0 k1 k2 k3 k5 mN, h.get? C = some (excClassObj nm q C N bs bm hdct sn sub ab col dd k0 k1 k2 k3 k5 "ValueError.__new__") ∧ h.Ns N mN ∧ mN "__init__" = none ∧ OwnTail h VE bm
theorem ExcK.obj {K : PySem.W.Frag} {C : Addr} {h : Heap} (q : ExcK K C) (X : K.In h) : ExcO h C := by
  unfold ExcK PySem.W.excIn at q
  cases e : K.lookup C with
  | none => rw [e] at q; cases q
  | some ob =>
    rw [e] at q
    have eX := X _ _ e
    split at q
    · rename_i dd cd sl z
      cases z
      split at q
      · rename_i C1 bm a0 a1 a2 a3 n a5 hm hs
        rw [Bool.and_eq_true, Bool.and_eq_true, Bool.and_eq_true, Bool.and_eq_true, Bool.and_eq_true] at q
        obtain ⟨⟨⟨⟨⟨z1, z2⟩, z3⟩, z4⟩, z5⟩, z6⟩ := q
        have y1 : C1 = C := by simpa using z1
        have y2 : n = "ValueError.__new__" := by simpa using z2
        have y3 : cd.hasDel = false := by simpa using z3
        have y6 : PySem.W.nsIn K cd.ns "__init__" = some none := by simpa using z6
        obtain ⟨c1, c2, c3, c4, c5, c6, c7, c8, c9, c10, c11⟩ := cd
        have hl : sl = #[a0, a1, a2, a3, some (.builtin n), a5] := by
          cases sl
          exact congrArg Array.mk hs
        dsimp only at hm y3 y6 z5
        rw [hl, hm, y1, y2, y3] at eX
        exact ⟨bm, c4, c1, c5, c2, c6, c7, c8, c9, c10, dd, a0, a1, a2, a3, a5, _, eX, Heap.Ns.of_isNs (PySem.W.isNs_of_in X z5), PySem.W.nsMap_none_of_in X z5 y6, PySem.W.tail_of_in X z4⟩
      · cases q
    · cases q
section
variable {P : Program} {w : World} {K : PySem.W.Frag} {mg : Str → Option Value} {base : Heap} {N : List Str} {qual : Str} {scope : Scope} {f : Addr} {cd : Value} {A : Around} {outer : List Env} {s0 : Shared} {H0 : Hp} {E : XK}
def tRaise (C : Addr) (E : XK) (t : TA) : TS := fun _ σ H => t σ H fun vs H1 => vs.length ≤ sizeLine ∧ E (.ref C) none H1
theorem ps_raise {C : Addr} {x : Str} {np cpos pos : Pos} {e : Expr} {es : List Expr} {t : TA} (hq : ExcK K C) (hm : mg x = some (.ref C))
    (ha : PA (cxOf (CXE P w) P w K mg base N qual scope f cd A outer s0 H0 E) (e :: es) t) (hg : Gl (cxOf (CXE P w) P w K mg base N qual scope f cd A outer s0 H0 E) x := by rfl) (hdb : (x == ("__debug__" : Str)) = false := by decide)
    (he : starEach (e :: es) (envOfC qual scope s0.heap.objs.size f cd) = (false, eval e (envOfC qual scope s0.heap.objs.size f cd)) :: starEach es (envOfC qual scope s0.heap.objs.size f cd) := by rfl)
    (hpl : (backTo cpos (starEach es (envOfC qual scope s0.heap.objs.size f cd))).any (·.1) = false := by rfl) :
    PS (cxOf (CXE P w) P w K mg base N qual scope f cd A outer s0 H0 E) (.Raise (some (.Call (.Name x np) (e :: es) [] cpos)) none pos) (tRaise C E t) := by
  intro pins s σ H D I h
  obtain ⟨bm, N', nm, q, bs, hdct, sn, sub, ab, col, dd, k0, k1, k2, k3, k5, mN, hC, hN, hni, TL⟩ := hq.obj I.mod.kin
  refine wpAny_Raise_call_subT (nm := nm) (q := q) (C := C) (N := N') (bs := bs) (bm := bm) (hdct := hdct) (sn := sn) (sub := sub) (ab := ab) (col := col) (dd := dd) (k0 := k0) (k1 := k1) (k2 := k2) (k3 := k3) (k5 := k5) PySem.F.excBase_ValueError (TL.hasType (by decide)) (I.ok.hd rfl) (by
    show (backTo cpos (starEach (e :: es) (envOfC qual scope s0.heap.objs.size f cd))).any (·.1) = false
    rw [he]
    show (false || (backTo cpos (starEach es _)).any (·.1)) = false
    rw [hpl]; rfl) hni (ld_glob I hg hm ⟨rfl, ?_⟩ hdb)
  have ha' := ha cpos pins s σ H _ I h
  show wpAny _ _ (evalArgs (.ref C) true (backTo cpos (starEach (e :: es) (envOfC qual scope s0.heap.objs.size f cd))) []) _ _ s
  have ha2 : wpAny (model P w) (A.deeper (envOfC qual scope s0.heap.objs.size f cd)) (spliced (backTo cpos (starEach (e :: es) (envOfC qual scope s0.heap.objs.size f cd)))) _ _ s := ha'
  rw [he] at ha2 ⊢
  refine Calls.evalArgs_plain (thn ha2 fun us s2 ⟨vs, H2, I2, r, z, q2⟩ => ⟨rfl, by rw [← r.length]; exact z, I2.bk _ _ hC, hN.keeps I2.bk, TL.keeps I2.bk, fun h' x' hm' => ?_⟩)
  show wpAny _ _ (leaving _ (.ref x')) _ _ _
  refine wpAny_leaves_madeW (base := PySem.W.hideAll s2.heap (frs (envOfC qual scope s0.heap.objs.size f cd :: outer))) (h := s2.heap) I2.ok.frames rfl (fun b o q => PySem.W.of_hideAll _ q) (PySem.W.funFrames_hide I2.stack fun env he b hb => List.mem_filterMap.mpr ⟨env, he, hb⟩) hm' fun h'' t' fl _ _ up => ?_
  exact ⟨x', C, .ref t', _, H2, rfl, I2.os, I2.bare, fl, (I2.fx rfl).step fl.1 ((Heap.UpToSlots.of_keeps hm'.keeps).trans up), q2⟩
end
theorem z_raise {C : Addr} {E : XK} {t : TA} {D : Ends} {σ : St} {H : Hp} : tRaise C E t D σ H = t σ H (fun vs H1 => vs.length ≤ sizeLine ∧ E (.ref C) none H1) := rfl
theorem PS.nox {X : Cx} {st : Stmt} {t : TS} (h : PS X.nox st t) : PS X st t := fun pins s σ H D I hw =>
  wpAny_mono (h pins s σ H D (I.wish _) hw) (fun _ _ q => q.unwish) fun _ _ z => False.elim z
theorem Fun.okE {P : Program} {w : World} {K : PySem.W.Frag} {mg : Str → Option Value} {base : Heap} {x qual : Str} {st : Stmt} {f : Addr} {fd : FuncData} {N ps : List Str} {k : Nat} {sp : Sp} (F : Fun K x qual st f fd) (S : FnScope N ps (defScope st)) (len : ∀ vs H Q E, sp vs H Q E → vs.length = ps.length)
    (hbody : ∀ (cdv : Value) (A : Around) (outer : List Env) (s : Shared) (H : Hp) (vs : List V) (Q : VK) (E : XK), Room k (A.deeper (envOfC qual (defScope st) s.heap.objs.size f cdv)) → sp vs H Q E →
      ∃ t, PSs (cxOf (CXE P w) P w K mg base N qual (defScope st) f cdv A outer s H E) (defBody st) t ∧ t { nx := fun _ H' => Q .non H', rt := Q } (start N vs) H) : FnOk P w K mg base (CXE P w) (k + 1) f fd ps sp := by
  obtain ⟨oc, od, kV, doc, pm, an, cdv, ct, osl, rfl, lk, hcd⟩ := F.ex
  exact fn_of lk hcd S len fun A outer s H vs Q E hr hsp => hbody cdv A outer s H vs Q E hr hsp
def CalE (P : Program) (w : World) (K : PySem.W.Frag) (mg : Str → Option Value) (base : Heap) (k : Nat) (x : Str) (ps : List Str) (sp : Sp) : Prop :=
  ∃ f fd, FnOk P w K mg base (CXE P w) k f fd ps sp ∧ mg x = some (.ref f) ∧ PySem.W.keepIn K (.ref f) = true ∧ Binds K fd ps []
theorem Df.calE {P : Program} {w : World} {K : PySem.W.Frag} {mg : Str → Option Value} {base : Heap} {k : Nat} {x : Str} {st : Stmt} {ps : List Str} {f : Addr} {fd : FuncData} {sp : Sp}
    (F : Df K mg x st ps f fd) (G : FnOk P w K mg base (CXE P w) k f fd ps sp) : CalE P w K mg base k x ps sp := ⟨f, fd, G, F.at', F.fn.kp, F.bd⟩
theorem CalE.calm {P : Program} {w : World} {K : PySem.W.Frag} {mg : Str → Option Value} {base : Heap} {k : Nat} {x : Str} {ps : List Str} {sp sp' : Sp}
    (C : CalE P w K mg base k x ps sp) (h : ∀ vs H Q E, sp' vs H Q E → sp vs H Q E0) : Cal P w K mg base k x ps sp' := by
  obtain ⟨f, fd, G, a, b, c⟩ := C
  refine ⟨f, fd, ⟨fun vs H Q E z => G.len vs H Q E0 (h _ _ _ _ z), fun A outer s H args us vs Q E hr he hb hv hs => ?_⟩, a, b, c⟩
  refine codeAny_mono (G.run A outer s H args us vs Q E0 hr he hb hv (h _ _ _ _ hs)) fun r s' q => ?_
  cases r with
  | ok fl => cases fl <;> exact q
  | error e =>
    obtain ⟨_, _, _, _, _, _, _, _, _, _, z⟩ := q
    exact z.elim
end L2
namespace L2
open PySem PySem.Spec PyProof.Rows
set_option maxRecDepth 100000
abbrev Cx.caught (X : Cx) (x : Addr) (oe : Obj) : Cx := { X with A := X.A.mark (some (.ref x)), calm := false, pn := (x, oe) :: X.pn, xe := fun _ _ => False }
section
variable {X : Cx} {pins : List (Addr × Obj)} {σ : St} {H : Hp} {s : Shared} {x : Addr} {oe : Obj}
theorem Cx.Ok.caught (ok : X.Ok) (x : Addr) (oe : Obj) : (X.caught x oe).Ok :=
  ⟨ok.mod, ok.kind, ok.glob, ok.blt, ok.above, ok.inj, ok.has, ok.cab, (fun z => nomatch z), ok.frames, ok.stk, ok.exf, ok.bs, ok.bsz, ok.noex, ok.exfs, ok.funs, ok.frf⟩
theorem Inv.caught (I : Inv X pins σ H s) (e : s.heap.get? x = some oe) (n : H x = none) (l : x ≠ X.env.locals) (f : x ∉ X.fs) (d : ∀ v, oe.data ≠ .cell v) : Inv (X.caught x oe) pins σ H s :=
  ⟨I.ok.caught x oe, I.os, I.bare, I.base, I.loc, I.cell, I.free, I.freeC, fun p hp => (List.mem_cons.mp hp).elim (fun z => by rw [z]; exact ⟨e, n, l, f, d⟩) (I.pin p), I.hok, I.len⟩
theorem Inv.uncaught (ok : X.Ok) (I : Inv (X.caught x oe) pins σ H s) : Inv X pins σ H s :=
  ⟨ok, I.os, I.bare, I.base, I.loc, I.cell, I.free, I.freeC, fun p hp => I.pin p (List.mem_cons_of_mem _ hp), I.hok, I.len⟩
theorem Inv.gone {i : Nat} {n : Str} {m : Str → Option Value} {v : Option Value} {h' : Heap} {t' : Nat} (I : Inv X pins σ H s) (hN : X.N.Nodup) (hi : X.N[i]? = some n)
    (hl : ∀ (i : Nat) (x : Str) (v : V), X.N[i]? = some x → σ[i]? = some (some v) → Vis X.env.scope x → ∃ u, RelV v u ∧ Look X.env s.heap m x u) (hn : s.heap.Ns X.env.locals m)
    (hn' : h'.Ns X.env.locals (fun x => if x = n then v else m x)) (hs : Heap.SameBut X.env.locals s.heap h') : Inv X pins (σ.set i none) H { s with heap := h', toks := t' } := by
  obtain ⟨oL, _, _, hoL, _⟩ := id hn
  have cne := I.cne
  have up : ∀ {b : Addr} {o : Obj}, X.s₀.heap.get? b = some o → b ≠ X.env.locals := fun e => Nat.ne_of_lt (Nat.lt_of_lt_of_le (Heap.lt_size e) I.ok.above)
  refine ⟨I.ok, I.os, I.bare, ⟨fun b o e n hb hx => (hs.2 b (up e)).trans (I.base.keep b o e n hb hx), fun b o e n hb hx => ?_, I.base.free, fun b o e hx => ?_, I.base.tups, I.base.frzs, I.base.tbls⟩, ⟨_, hn', fun j y v' e1 e2 e3 => ?_⟩, fun y c e => ?_, I.free, I.freeC, fun p hp => ?_, fun b ob e => ?_, by simpa using I.len⟩
  · obtain ⟨sl, e1⟩ := I.base.slot b o e n hb hx
    exact ⟨sl, (hs.2 b (up e)).trans e1⟩
  · obtain ⟨o', e1⟩ := I.base.there b o e hx
    exact ⟨o', (hs.2 b (up e)).trans e1⟩
  · have hj : j ≠ i := fun z => by
      subst z
      rw [List.getElem?_set] at e2
      simp at e2
    rw [List.getElem?_set_ne (Ne.symm hj)] at e2
    obtain ⟨u', r', q⟩ := hl j y v' e1 e2 e3
    refine ⟨u', r', ?_⟩
    rcases q with ⟨k, e⟩ | ⟨k, c, e, z⟩
    · refine .inl ⟨k, ?_⟩
      have : y ≠ n := fun e => hj (nodup_ix hN e1 (e ▸ hi))
      simp [this, e]
    · exact .inr ⟨k, c, e, z.sameBut hs (cne y c e)⟩
  · obtain ⟨w', z⟩ := I.cell y c e
    exact ⟨w', z.sameBut hs (cne y c e)⟩
  · obtain ⟨e, n, ne, nf, d⟩ := I.pin p hp
    exact ⟨(hs.2 p.1 ne).trans e, n, ne, nf, d⟩
  · refine (I.hok b ob e).stay (fun c w' hc q => (hs.2 c ?_).trans q) (fun _ q => q) fun _ _ q => q
    rintro rfl
    rcases hc with rfl | hc
    · rw [I.free] at e; cases e
    · rw [I.free] at hc; cases hc
end
def BodyOf (X : Cx) (st : Stmt) (e : Expr) (g : V → St → St) : Prop := ∀ (pins : List (Addr × Obj)) (s : Shared) (σ : St) (H : Hp) (E : Value → Shared → Prop) (Q : VK) (R : Flow → Shared → Prop), Inv X pins σ H s →
  wpAny (model X.prog X.w) X.A (eval e X.env) (EP X pins σ Q) E s → (∀ v H1 s1, Q v H1 → Inv X pins (g v σ) H1 s1 → R .next s1) → wpAny (model X.prog X.w) X.A (exec st X.env) R E s
theorem body_set {X : Cx} {i : Nat} {x : Str} {e : Expr} {pos pos' : Pos} (hN : X.N.Nodup) (hi : X.N[i]? = some x) (hx : Loc X.env.scope x) (hs : swapsWith e (some (.Name x pos')) pos.line X.env = pure false := by rfl) (hf : X.fn x = true ∨ X.env.scope.names.lookup x = some .local := by first | exact .inl rfl | exact .inr rfl | assumption) :
    BodyOf X (.Assign [.Name x pos'] e pos) e (fun v σ => σ.set i (some v)) := by
  intro pins s σ H E Q R I h k
  refine wpAny_Assign_Name (thn h fun v s1 ⟨y, H1, I1, r1, q1⟩ => ?_) hs
  exact store_ok I1 hN hi hx r1 (fun s2 I2 => k y H1 s2 q1 I2) hf
def tTryAs (sp : Sp) (C : Addr) (g : V → St → St) (i : Nat) (ta : TA) (ts : Addr → Obj → TS) : TS := fun D σ H => ta σ H fun vs H1 => sp vs H1 (fun v H2 => D.nx (g v σ) H2)
  (fun c _ H2 => c = .ref C ∧ ∀ x oe, oe.cls = .ref C → ts x oe { nx := fun σ' H' => D.nx (σ'.set i none) H', rt := D.rt, bk := fun σ' H' => D.bk (σ'.set i none) H', ct := fun σ' H' => D.ct (σ'.set i none) H' } (σ.set i (some (.ref x))) H2)
def tTry (sp : Sp) (C : Addr) (g : V → St → St) (ta : TA) (ts : Addr → Obj → TS) : TS := fun D σ H => ta σ H fun vs H1 => sp vs H1 (fun v H2 => D.nx (g v σ) H2)
  (fun c _ H2 => c = .ref C ∧ ∀ x oe, oe.cls = .ref C → ts x oe D σ H2)
theorem z_tryAs {sp : Sp} {C : Addr} {g : V → St → St} {i : Nat} {ta : TA} {ts : Addr → Obj → TS} {D : Ends} {σ : St} {H : Hp} : tTryAs sp C g i ta ts D σ H = ta σ H (fun vs H1 => sp vs H1 (fun v H2 => D.nx (g v σ) H2)
  (fun c _ H2 => c = .ref C ∧ ∀ x oe, oe.cls = .ref C → ts x oe { nx := fun σ' H' => D.nx (σ'.set i none) H', rt := D.rt, bk := fun σ' H' => D.bk (σ'.set i none) H', ct := fun σ' H' => D.ct (σ'.set i none) H' } (σ.set i (some (.ref x))) H2)) := rfl
theorem z_try {sp : Sp} {C : Addr} {g : V → St → St} {ta : TA} {ts : Addr → Obj → TS} {D : Ends} {σ : St} {H : Hp} : tTry sp C g ta ts D σ H = ta σ H (fun vs H1 => sp vs H1 (fun v H2 => D.nx (g v σ) H2)
  (fun c _ H2 => c = .ref C ∧ ∀ x oe, oe.cls = .ref C → ts x oe D σ H2)) := rfl
section
variable {X : Cx} {pins : List (Addr × Obj)} {σ : St} {H : Hp} {s s' : Shared} {C : Addr} {e : Value} {cx n : Str} {np pos hpos : Pos} {b0 : Stmt} {suite : List Stmt} {D : Ends} {i : Nat} {ts : Addr → Obj → TS}
theorem SP.uncaught {x : Addr} {oe : Obj} (ok : X.Ok) {f : Flow} (h : SP (X.caught x oe) pins D f s) : SP X pins D f s := by
  cases f with
  | next => obtain ⟨σ', H', I, q⟩ := h; exact ⟨σ', H', I.uncaught ok, q⟩
  | brk => obtain ⟨σ', H', I, q⟩ := h; exact ⟨σ', H', I.uncaught ok, q⟩
  | cont => obtain ⟨σ', H', I, q⟩ := h; exact ⟨σ', H', I.uncaught ok, q⟩
  | ret u => obtain ⟨v, σ', H', I, r, q⟩ := h; exact ⟨v, σ', H', I.uncaught ok, r, q⟩
theorem tried {k : Nat} {f : Str} {ps : List Str} {sp : Sp} {a : Expr} {as : List Expr} {ta : TA} {E : XK} {Q : VK} {XE : Value → Shared → Prop} {p cpos : Pos} (Ca : CalE X.prog X.w X.K X.mg X.base k f ps sp) (hr : Room k X.A) (ha : PA X.nox (a :: as) ta) (I : Inv X pins σ H s)
    (h : ta σ H fun vs H1 => sp vs H1 Q E) (hx : ∀ s1 H1 e s', Inv X pins σ H1 s1 → CXE X.prog X.w X.stack H1 s1 E e s' → XE e s') (hg : Gl X f) (hdb : (f == ("__debug__" : Str)) = false) (he : starEach (a :: as) X.env = (false, eval a X.env) :: starEach as X.env) (hpl : (backTo cpos (starEach as X.env)).any (·.1) = false) :
    wpAny (model X.prog X.w) X.A (eval (.Call (.Name f p) (a :: as) [] cpos) X.env) (EP X pins σ Q) XE s := by
  obtain ⟨f', fd, G, hm, hk, hb⟩ := Ca
  refine wpAny_Call_Name_kw (ld_glob I hg hm ?_ hdb)
  refine PySem.W.callWith_K (h₀ := X.base) I.ok.mod.kin hk (wpAny_mono (ha cpos pins s σ H _ (I.wish _) h) (fun us s1 ⟨vs, H1, I1, r, q⟩ => ⟨I1.unwish.kIn, ?_⟩) fun _ _ z => False.elim z) he hpl
  have I1 : Inv X pins σ H1 s1 := I1.unwish
  have hl : us.length = ps.length := by rw [← r.length]; exact G.len _ _ _ _ q
  have hb' := hb s1 us I1.kIn (by rw [List.append_nil]; exact hl)
  rw [List.append_nil] at hb'
  refine wpAny_call (codeAny_mono (G.run X.A X.stack s1 H1 ⟨us, []⟩ us vs Q E hr I1.env0 hb' r q) fun r s' hq => ?_)
  cases r with
  | error e => exact hx s1 H1 e s' I1 hq
  | ok fl =>
    cases fl with
    | ret u => exact I1.after hq
    | next => exact False.elim hq
    | brk => exact False.elim hq
    | cont => exact False.elim hq
end
end L2
namespace L2
open PySem PySem.Spec PyProof.Rows
set_option maxRecDepth 100000
structure ExcI (K : PySem.W.Frag) (C : Addr) : Prop where
  ga : PySem.W.findIn K (.ref C) "__getattribute__" = some (some (.builtin "BaseException.__getattribute__"))
  gn : PySem.W.findIn K (.ref C) "__getattr__" = some none
  cl : PySem.W.findIn K (.ref C) "__class__" = some (some (.builtin "object.__class__"))
  ob : PySem.W.mroIn K C (.type "object") = some true
  be : PySem.W.mroIn K C (.type "BaseException") = some true
theorem ExcI.is {K : PySem.W.Frag} {C : Addr} (Z : ExcI K C) : (PySem.W.clsIn K C).isSome = true := by
  obtain ⟨cd, a, _⟩ := Option.bind_eq_some_iff.mp Z.ob
  rw [a]; rfl
section
variable {prog : Program} {w : World} {A : Around} {E : Value → Shared → Prop} {K : PySem.W.Frag} {x C : Addr} {oe : Obj} {h : Heap} {g : Array GenState} {d : Drawn} {t : Nat} {os : OsState}
theorem ty_exc {M : Model} (hx : h.get? x = some oe) (hc : oe.cls = .ref C) : PySem.W.Looks M h (typeOf (.ref x)) (.ref C) := hc ▸ (PySem.W.Looks.ld hx).andThen .now
theorem exc_cget {R : Result → Shared → Prop} (X : K.In h) (Z : ExcI K C) (hx : h.get? x = some oe) (hc : oe.cls = .ref C) (q : R (.ok (.ret (.ref C))) ⟨h, g, d, t, os⟩) :
    codeAny (model prog w) A (.call (.builtin "getset_descriptor.__get__") ⟨[.builtin "object.__class__", .ref x, .ref C], []⟩) R ⟨h, g, d, t, os⟩ := by
  have l0 := ty_exc (M := model prog w) hx hc
  have l1 := PySem.W.looks_mroIn (M := model prog w) X Z.ob
  have tg : (⟨h, g, d, t, os⟩ : Shared).TypeIs (.builtin "object.__class__") "getset_descriptor" := PySem.W.KF.type_class
  have ow : (".".intercalate ("object.__class__".cutAt '.').dropLast) = "object" := by decide +kernel
  refine codeAny_call_builtin PySem.F.slot_gs_get.plain PySem.F.entry_gs_get (PySem.F.slot_gs_get.check _ _ _ _ _ _ _ _ tg (PySem.F.args_gs_get _ _ _) ?_)
  repeat (any_goals (first | assumption | (with_reducible refine wpAny_loadPart_at hx ?_; rw [hc]) | (rw [ow]; with_reducible refine l1.at ?_) | wp_step))
  refine ⟨Code.quiet_builtin _ (by decide +kernel), codeAny_builtin PySem.W.KF.entry_class ?_⟩
  unfold Builtin.«object.__class__» shownTypeOf
  repeat (any_goals (first | assumption | (with_reducible refine wpAny_loadPart_at hx ?_; rw [hc]) | wp_step))
theorem exc_cent {tk : Tok} {Q : Fin → Shared → Prop} (X : K.In h) (Z : ExcI K C) (hx : h.get? x = some oe) (hc : oe.cls = .ref C) (q : Q (.done (.ret (.ref C))) ⟨h, g, d, t, os⟩) :
    wpAny (model prog w) A (Builtin.«object.__getattribute__» ⟨[.ref x, .str "__class__" tk], []⟩) Q E ⟨h, g, d, t, os⟩ := by
  have tg : (⟨h, g, d, t, os⟩ : Shared).TypeIs (.builtin "object.__class__") "getset_descriptor" := PySem.W.KF.type_class
  have l2 := PySem.W.looks_findIn (M := model prog w) X Z.cl
  have f5 := PySem.W.KF.type_class
  have f6 := PySem.F.slot_gs_get.lookup
  have f7 := PySem.F.slot_gs_set.lookup
  repeat (any_goals (first | assumption | (with_reducible refine wpAny_loadPart_at hx ?_; rw [hc]) | with_reducible refine l2.at ?_ | wp_step))
  refine exc_cget X Z hx hc ?_
  repeat (any_goals (first | assumption | wp_step))
theorem exc_cchk {M : Model} {nv : Value} {Q : Unit → Shared → Prop} (X : K.In h) (Z : ExcI K C) (hx : h.get? x = some oe) (hc : oe.cls = .ref C) (q : Q () ⟨h, g, d, t, os⟩) : wpAny M A (checkBuiltinCall "BaseException.__getattribute__" ⟨[.ref x, nv], []⟩) Q E ⟨h, g, d, t, os⟩ := by
  have k1 : builtinKind "BaseException.__getattribute__" = some .slot := by decide +kernel
  have k2 : splitId "BaseException.__getattribute__" = some ("BaseException", "__getattribute__") := by decide +kernel
  have l1 := PySem.W.looks_mroIn (M := M) X Z.be
  have ar := PySem.F.args_bexc_ga (.ref x) nv
  simp only [checkBuiltinCall, k1, k2]
  refine wpAny_bind ?_
  unfold isInstance
  repeat (any_goals (first | assumption | (with_reducible refine wpAny_loadPart_at hx ?_; rw [hc]) | with_reducible refine l1.at ?_ | wp_step))
theorem exc_cby {tk : Tok} {Q : Value → Shared → Prop} (X : K.In h) (Z : ExcI K C) (hx : h.get? x = some oe) (hc : oe.cls = .ref C) (q : Q (.ref C) ⟨h, g, d, t, os⟩) :
    wpAny (model prog w) A (getAttrBy (.ref x) (.str "__class__" tk) false) Q E ⟨h, g, d, t, os⟩ := by
  have f3 := PySem.F.attr_ValueError.ga.bind (.ref x)
  have y0 : (false && onTheHeap (Value.builtin "BaseException.__getattribute__")) = false := rfl
  have y1 : (onTheHeap (Value.ref C) && Value.builtin "BaseException.__getattribute__" == Value.builtin "object.__getattribute__") = false := by
    rw [show (Value.builtin "BaseException.__getattribute__" == Value.builtin "object.__getattribute__") = false by decide +kernel]; rfl
  have l2 := PySem.W.looks_findIn (M := model prog w) X Z.ga
  have l3 := PySem.W.looks_findIn (M := model prog w) X Z.gn
  repeat (any_goals (first | assumption | (with_reducible refine wpAny_loadPart_at hx ?_; rw [hc]) | with_reducible refine l2.at ?_ | with_reducible refine l3.at ?_ | wp_step))
  refine codeAny_call_builtin PySem.F.attr_ValueError.ga.plain PySem.F.entry_bexc_ga (exc_cchk X Z hx hc (exc_cent X Z hx hc ?_))
  repeat (any_goals (first | assumption | wp_step))
theorem exc_cattr {Q : Option Value → Shared → Prop} (X : K.In h) (Z : ExcI K C) (hx : h.get? x = some oe) (hc : oe.cls = .ref C) (q : Q (some (.ref C)) ⟨h, g, d, t + 1, os⟩) :
    wpAny (model prog w) A (getAttr? (.ref x) "__class__") Q E ⟨h, g, d, t, os⟩ := by
  unfold getAttr? getAttrBy?
  repeat (any_goals (first | assumption | with_reducible apply exc_cby X Z hx hc | wp_step))
theorem kitx_exc (Z : ExcI K C) (hc : oe.cls = .ref C) : PySem.W.KitX K (.ref x) (.ref C) (fun h => h.get? x = some oe) where
  ty := fun _ _ _ hx => ty_exc hx hc
  it := fun M h X _ => by
    obtain ⟨cd, e⟩ := Option.isSome_iff_exists.mp Z.is
    unfold PySem.W.clsIn at e
    split at e
    · rename_i c1 d1 cd1 sl1 ho
      intro A' Q' E' s' k q
      unfold isType loadHead
      exact wpAny_bind (wpAny_loadPart (k _ _ (X _ _ ho)) (wpAny_pure q))
    · cases e
  ne := fun h tp dd its n sl X htp => by
    obtain ⟨cd, e⟩ := Option.isSome_iff_exists.mp Z.is
    refine Bool.eq_false_iff.mpr fun q => ?_
    cases Value.ref.inj (beq_iff_eq.mp q)
    unfold PySem.W.clsIn at e
    split at e
    · rename_i c1 d1 cd1 sl1 ho
      cases (X _ _ ho).symm.trans htp
    · cases e
  ca := fun {_ _ _ _ _ s} X hx q => by
    obtain ⟨h, g, d, t, os⟩ := s
    exact exc_cattr X Z hx hc q
end
theorem call_isiE {X : Cx} {x C : Addr} {oe : Obj} (hp : (x, oe) ∈ X.pn) (hc : oe.cls = .ref C) (Z : ExcI X.K C) : CallR X (.builtin "isinstance") (fun xs H Q => ∃ b, ((∃ C2, xs = [.ref x, .ref C2] ∧ PySem.W.kitOne X.K (.ref C) (.ref C2) = some b) ∨ ∃ T, xs = [.ref x, .ty T] ∧ PySem.W.kitOne X.K (.ref C) (.type T) = some b) ∧ Q (.bl b) H) := by
  intro pins s σ H xs us Q I r h
  obtain ⟨b, h, q⟩ := h
  have hx := (I.pin (x, oe) (List.mem_append_left _ hp)).1
  rcases h with ⟨C2, rfl, e⟩ | ⟨T, rfl, e⟩
  · obtain ⟨u, c, rfl, ru, rc⟩ := vals2 r
    cases ru; cases rc
    exact PySem.W.kia_one (kitx_exc Z hc) I.kIn hx e (fun z => nomatch z) fun tk => ⟨.bl b, H, I.tok tk, rfl, q⟩
  · obtain ⟨u, c, rfl, ru, rc⟩ := vals2 r
    cases ru; cases rc
    exact PySem.W.kia_one (kitx_exc Z hc) I.kIn hx e (fun z => nomatch z) fun tk => ⟨.bl b, H, I.tok tk, rfl, q⟩
theorem nw {H H' : Hp} {p : Addr} {o : HO} (hp : H p = none) (e : upd H p o = H') : Same H H' ∧ H' p = some o := by
  subst e
  exact ⟨Same.upd hp _, upd_same⟩
end L2
namespace L2
open PySem PySem.Spec PyProof.Rows
def plainE : Expr → Bool
  | .Starred _ _ => false
  | _ => true
theorem star_cns {e : Expr} {es : List Expr} {env : Env} (h : plainE e = true) : starEach (e :: es) env = (false, eval e env) :: starEach es env := by
  cases e <;> first | rfl | cases h
theorem star_any {env : Env} {pos : Pos} : ∀ {es : List Expr}, es.all plainE = true → (backTo pos (starEach es env)).any (·.1) = false
  | [], _ => rfl
  | e :: es, h => by
    rw [List.all_cons, Bool.and_eq_true] at h
    rw [star_cns h.1]
    have ih := star_any (env := env) (pos := pos) h.2
    unfold backTo at ih ⊢
    rw [List.map_cons, List.any_cons, ih]
    rfl
section
variable {X : Cx} {e : Expr} {es : List Expr} {te : TE} {t : TA} {x : Str} {p pos : Pos} {id T : String} {r : List V → Hp → VK → Prop} {k : Nat} {ps : List Str} {sp : Sp}
theorem pa_cns (ha : PE X e te) (hr : PA X es t) (h : plainE e = true := by rfl) : PA X (e :: es) (tCons te t) := pa_cons ha hr (star_cns h)
theorem pe_cB (hc : CallR X (.builtin id) r) (hg : Gl X x) (hm : X.mg x = none) (hv : bootBuiltins x = some (.builtin id)) (ha : PA X (e :: es) t) (h1 : plainE e = true := by rfl) (h2 : es.all plainE = true := by rfl) (hn : x ≠ "__name__" := by decide) (hdb : (x == ("__debug__" : Str)) = false := by decide) :
    PE X (.Call (.Name x p) (e :: es) [] pos) (tCB r t) := pe_callB hc hg hm hv ha hn hdb (star_cns h1) (star_any h2)
theorem pe_cTy (hc : CallR X (.type T) r) (hg : Gl X x) (hm : X.mg x = none) (hv : bootBuiltins x = some (.type T)) (ha : PA X (e :: es) t) (h1 : plainE e = true := by rfl) (h2 : es.all plainE = true := by rfl) (hn : x ≠ "__name__" := by decide) (hdb : (x == ("__debug__" : Str)) = false := by decide) :
    PE X (.Call (.Name x p) (e :: es) [] pos) (tCB r t) := pe_callTy hc hg hm hv ha hn hdb (star_cns h1) (star_any h2)
theorem pe_cD (C : Cal X.prog X.w X.K X.mg X.base k x ps sp) (hr : Room k X.A) (ha : PA X (e :: es) t) (h1 : plainE e = true := by rfl) (h2 : es.all plainE = true := by rfl) (hg : Gl X x := by rfl) (hdb : (x == ("__debug__" : Str)) = false := by decide) :
    PE X (.Call (.Name x p) (e :: es) [] pos) (tCall sp [] E0 t) := pe_callD C hr ha hg hdb (star_cns h1) (star_any h2)
end
end L2
namespace L2
open PySem PySem.Spec PyProof.Rows
def Itd (lo : Int) (n : Nat) : It := ⟨fun i _ => i < n, fun i H x H' => H' = H ∧ x = .int (lo - i), fun i _ => n ≤ i⟩
section
variable {X : Cx} {tg : Expr}
def iDown (ta : TA) : TI := fun σ H R => ta σ H fun vs H1 => ∃ i j : Int, vs = [.int i, .int j, .int (-1)] ∧ (-(2 ^ 62) ≤ i ∧ i < 2 ^ 62 ∧ -(2 ^ 62) ≤ j ∧ j < 2 ^ 62) ∧ R (Itd i (i - j).toNat) H1
theorem z_down {ta : TA} {σ : St} {H : Hp} {R : It → Hp → Prop} : iDown ta σ H R = ta σ H (fun vs H1 => ∃ i j : Int, vs = [.int i, .int j, .int (-1)] ∧ (-(2 ^ 62) ≤ i ∧ i < 2 ^ 62 ∧ -(2 ^ 62) ≤ j ∧ j < 2 ^ 62) ∧ R (Itd i (i - j).toNat) H1) := rfl
theorem z_exd {i j : Int} {G : Int → Int → Prop} : (∃ i' j' : Int, [V.int i, .int j, .int (-1)] = [.int i', .int j', .int (-1)] ∧ G i' j') = G i j := propext ⟨fun ⟨_, _, e, h⟩ => by cases e; exact h, fun h => ⟨i, j, rfl, h⟩⟩
end
end L2
namespace L2
open PySem PySem.Spec PyProof.Rows
section
variable {X : Cx} {e st : Expr} {te tst : TE} {pos p2 : Pos}
def tRevL (K : PySem.W.Frag) (te tst : TE) : TE := fun σ H Q => te σ H fun x H1 => tst σ H1 fun y H2 => ∃ a xs, x = .ref a ∧ y = .int (-1) ∧ SqL K H2 a xs ∧ ∀ p, H2 p = none → Q (.ref p) (upd H2 p (.lst xs.reverse))
theorem z_revL {K : PySem.W.Frag} {σ : St} {H : Hp} {Q : VK} : tRevL K te tst σ H Q = te σ H (fun x H1 => tst σ H1 fun y H2 => ∃ a xs, x = .ref a ∧ y = .int (-1) ∧ SqL K H2 a xs ∧ ∀ p, H2 p = none → Q (.ref p) (upd H2 p (.lst xs.reverse))) := rfl
end
end L2
namespace L2
open PySem PySem.Spec PyProof.Rows
theorem Same.put {H H' : Hp} {p : Addr} {o : HO} (s : Same H H') (hp : H p = none) : Same H (L2.upd H' p o) := fun b u e => by
  rw [upd_ne (ne_of_none e hp)]
  exact s b u e
end L2
namespace L2
open PySem PySem.Spec PyProof.Rows
def iAny (K : PySem.W.Frag) (tl : TE) : TI := fun σ H R => tl σ H fun x H1 => ∃ a, x = .ref a ∧ (((∃ xs, SqL K H1 a xs) ∧ R (Itl K a) H1) ∨ ((∃ xs, SqT K H1 a xs) ∧ R (Itt K a) H1))
theorem z_iany {K : PySem.W.Frag} {tl : TE} {σ : St} {H : Hp} {R : It → Hp → Prop} : iAny K tl σ H R = tl σ H (fun x H1 => ∃ a, x = .ref a ∧ (((∃ xs, SqL K H1 a xs) ∧ R (Itl K a) H1) ∨ ((∃ xs, SqT K H1 a xs) ∧ R (Itt K a) H1))) := rfl
end L2
namespace L2
theorem seq_pt {t u : TS} {D : Ends} {σ : St} {H : Hp} (P : St → Hp → Prop) (h1 : ∀ N : St → Hp → Prop, (∀ σ' H', P σ' H' → N σ' H') → t { D with nx := N } σ H) (h2 : ∀ σ' H', P σ' H' → u D σ' H') : tSeq t u D σ H := h1 (u D) h2
end L2
namespace L2
open PySem PySem.Spec PyProof.Rows
theorem tup_put {K : PySem.W.Frag} {H : Hp} {p a : Addr} {acc xs : List V} {o : HO} (h : SqT K H a xs) (hp : H p = some (.lst acc)) : SqT K (upd H p o) a xs := by
  rcases h with (h | ⟨o', h⟩) | h
  · exact .inl (.inl (by rw [upd_ne (ne_of h hp (by intro z; cases z))]; exact h))
  · exact .inl (.inr ⟨o', by rw [upd_ne (ne_of h hp (by intro z; cases z))]; exact h⟩)
  · exact .inr h
section
variable {K : PySem.W.Frag} {H1 : Hp} {p : Addr} {cσ : St} {g : TG} {te : TE} {Q : VK} {α : Type} {es : List α} {inj : α → V}
theorem cin_any {J : It} (Pn : α → V → Hp → Prop) (hz : es.length ≤ sizeLine) (hp : H1 p = none) (hJ : Wk J H1 es inj)
    (hm : ∀ e v H H', Pn e v H → Same H H' → Pn e v H') (hu : ∀ e v H acc o, Pn e v H → H p = some (.lst acc) → Pn e v (upd H p o))
    (step : ∀ e H' R, e ∈ es → Same H1 H' → (∀ v H6, Same H' H6 → Pn e v H6 → R v H6) → g (inj e) cσ H' fun σ4 H4 => Kp cσ σ4 ∧ te σ4 H4 R)
    (done : ∀ (ns : List V) H', ns.length = es.length → (∀ (i : Nat) e n, es[i]? = some e → ns[i]? = some n → Pn e n H') → Same H1 H' → H' p = some (.lst ns) → Q (.ref p) H') : cIn J cσ g tNoIf te Q H1 p := by
  have su : ∀ {H' : Hp} {o : HO}, Same H1 H' → Same H1 (upd H' p o) := fun {H' o} s b u e => by
    rw [upd_ne (ne_of_none e hp)]
    exact s b u e
  refine ⟨fun i m acc H' => m = es.length - i ∧ i ≤ es.length ∧ (acc.length = i ∧ ∀ (j : Nat) e n, es[j]? = some e → acc[j]? = some n → Pn e n H') ∧ H' p = some (.lst acc) ∧ Same H1 H', ⟨es.length, by simp, Nat.zero_le _, ⟨rfl, fun j e n _ h => by simp at h⟩, upd_same, su (Same.refl _)⟩, ?_⟩
  rintro i m ns H' ⟨rfl, hi, ⟨hl, hn⟩, hH, s⟩
  cases he : es[i]? with
  | none =>
    have e : i = es.length := Nat.le_antisymm hi (List.getElem?_eq_none_iff.mp he)
    exact .inl ⟨(hJ _ _ s).1 he, done ns _ (hl.trans e) hn s hH⟩
  | some e =>
    obtain ⟨go, yl⟩ := (hJ _ _ s).2 e he
    refine .inr ⟨go, fun x H3 y => ?_⟩
    obtain ⟨rfl, rfl⟩ := yl x H3 y
    obtain ⟨hlt, _⟩ := List.getElem?_eq_some_iff.mp he
    have q := step e H3 (fun y H6 => H6 p = some (.lst ns) ∧ ns.length < sizeLine ∧ ∃ m', m' < es.length - i ∧ m' = es.length - (i + 1) ∧ i + 1 ≤ es.length ∧ ((ns ++ [y]).length = i + 1 ∧ ∀ (j : Nat) e n, es[j]? = some e → (ns ++ [y])[j]? = some n → Pn e n (upd H6 p (.lst (ns ++ [y])))) ∧
        upd H6 p (.lst (ns ++ [y])) p = some (.lst (ns ++ [y])) ∧ Same H1 (upd H6 p (.lst (ns ++ [y])))) (List.mem_of_getElem? he) s
      (fun n H6 s6 pn => ⟨s6 _ _ hH, by omega, _, by omega, rfl, hlt, ⟨by rw [List.length_append, hl]; rfl, fun j e' n' h1 h2 => by
        refine hu _ _ _ _ _ ?_ (s6 _ _ hH)
        by_cases hj : j < ns.length
        · rw [List.getElem?_append_left hj] at h2
          exact hm _ _ _ _ (hn j e' n' h1 h2) s6
        · rw [List.getElem?_append_right (by omega)] at h2
          have hj0 : j - ns.length = 0 := by
            have := (List.getElem?_eq_some_iff.mp h2).1
            simp at this
            omega
          rw [hj0] at h2
          have hji : j = i := by omega
          subst hji
          rw [he] at h1
          cases h1
          cases h2
          exact pn⟩, upd_same, su (s.trans s6)⟩)
    exact q
end
end L2
namespace L2
open PySem PySem.Spec PyProof.Rows
def Itz (K : PySem.W.Frag) (a b : Addr) : It :=
  ⟨fun i H => ∃ xs ys x y, SqL K H a xs ∧ SqL K H b ys ∧ xs[i]? = some x ∧ ys[i]? = some y,
   fun i H x H' => ∃ p u v, (∀ xs, SqL K H a xs → xs[i]? = some u) ∧ (∀ ys, SqL K H b ys → ys[i]? = some v) ∧ H p = none ∧ x = .ref p ∧ H' = upd H p (.tup [u, v]),
   fun i H => ∃ xs ys, SqL K H a xs ∧ SqL K H b ys ∧ (xs.length ≤ i ∨ ys.length ≤ i)⟩
section
variable {X : Cx} {a b : Expr} {ta : TA} {el : List Expr} {x1} {tp p pos : Pos}
def iZip (K : PySem.W.Frag) (ta : TA) : TI := fun σ H R => ta σ H fun vs H1 => ∃ a b, vs = [.ref a, .ref b] ∧ (∃ xs, SqL K H1 a xs) ∧ (∃ ys, SqL K H1 b ys) ∧ R (Itz K a b) H1
end
theorem z_izip {K : PySem.W.Frag} {ta : TA} {σ : St} {H : Hp} {R : It → Hp → Prop} : iZip K ta σ H R = ta σ H (fun vs H1 => ∃ a b, vs = [.ref a, .ref b] ∧ (∃ xs, SqL K H1 a xs) ∧ (∃ ys, SqL K H1 b ys) ∧ R (Itz K a b) H1) := rfl
end L2
namespace L2
open PySem PySem.SeqAt PySem.Spec PyProof.Rows
section
variable {X : Cx}
open Classical in
def tDNew : TE := fun _ H Q => ∀ p, H p = none → Q (.ref p) (upd H p (.dK []))
theorem z_dnew {σ : St} {H : Hp} {Q : VK} : tDNew σ H Q = ∀ p, H p = none → Q (.ref p) (upd H p (.dK [])) := rfl
end
end L2
namespace L2
open PySem PySem.Spec PyProof.Rows
def tCV (i : Nat) (a : Addr) (sp : Sp) (E : XK) (t : TA) : TE := fun σ H Q => σ[i]? = some (some (.ref a)) ∧ t σ H fun vs H1 => sp vs H1 Q E
theorem z_cv {i : Nat} {a : Addr} {sp : Sp} {E : XK} {t : TA} {σ : St} {H : Hp} {Q : VK} : tCV i a sp E t σ H Q = (σ[i]? = some (some (.ref a)) ∧ t σ H fun vs H1 => sp vs H1 Q E) := rfl
end L2
namespace L2
open PySem PySem.Spec PyProof.Rows
def IteL (K : PySem.W.Frag) (a : Addr) : It :=
  ⟨fun i H => ∃ xs x, SqL K H a xs ∧ xs[i]? = some x, fun i H x H' => ∃ p v, (∀ xs, SqL K H a xs → xs[i]? = some v) ∧ H p = none ∧ x = .ref p ∧ H' = upd H p (.tup [.int (i : Nat), v]), fun i H => ∃ xs, SqL K H a xs ∧ xs.length ≤ i⟩
theorem plain_isL {h : Heap} {a : Addr} {its : Array Value} (p : PlainL h a its) : h.IsList a its := by
  obtain ⟨o, n, e, c, _, d⟩ := p
  exact ⟨o, e, c, n, d⟩
theorem turn_enL {P : Program} {w : World} {K : PySem.W.Frag} {el : List Expr} {x1} {tp : Pos} (a e j : Addr) (ne : e ≠ j) : Turn P w K (.Tuple el x1 tp) (IteL K a) [e, j] e (fun i h => (∃ old, IsEnum h e j i old) ∧ h.IsListIter j a i) where
  mem := by simp
  obj := fun i h st b hb => by
    obtain ⟨⟨old, he⟩, oj, ej, cj, dj⟩ := st
    rcases List.mem_cons.mp hb with rfl | hb
    · exact ⟨_, he, fun v z => by cases (show Data.fields _ = Data.cell v from z)⟩
    · have z : b = j := by simpa using hb
      subst z
      exact ⟨oj, ej, fun v z => by rw [dj] at z; cases z⟩
  keep := fun i h h' st k => by
    obtain ⟨⟨old, he⟩, oj, ej, r⟩ := st
    exact ⟨⟨old, k e (by simp) _ he⟩, oj, k j (by simp) _ ej, r⟩
  item := by
    intro X hP hw hK hc i pins s σ H E I hf st hg
    subst hP hw hK
    obtain ⟨xs, x, hq, hx⟩ := hg
    obtain ⟨its, rv, p, hz⟩ := I.list hq
    obtain ⟨u, hu, ru⟩ := rv.get hx
    obtain ⟨⟨old, he⟩, hj⟩ := st
    refine wpAny_pyNext_enum_item he hj (plain_isL p) (x := u) (by simpa using hu) ne fun g hout hj' hT hsz kk => ⟨_, rfl, ?_⟩
    refine wpAny_letOwnedTupleGo_enum hout fun g2 he2 sb2 => ?_
    replace sb2 : Heap.SameBut e g g2 := sb2
    have lte : e < s.heap.objs.size := Heap.lt_size he
    have ltj : j < s.heap.objs.size := by
      obtain ⟨_, ej, _⟩ := hj
      exact Heap.lt_size ej
    have hn : H s.heap.objs.size = none := I.fresh
    have I1 : Inv X pins σ (upd H s.heap.objs.size (.tup [.int (i : Nat), x])) { s with heap := s.heap.push { cls := .type "tuple", data := .seq #[.int i s.toks, u] }, toks := s.toks + 1 } :=
      I.laid (fun b o q => Heap.get?_push_of_some _ q) (Nat.le_refl _) ⟨by show 2 ≤ sizeLine; decide, [.int i s.toks, u], .cons ⟨_, rfl⟩ (.cons ru .nil), ⟨_, Heap.get?_push_size _ rfl, rfl, _, rfl⟩⟩
    have fp' : ∀ b ∈ [e, j], FpOk X pins (upd H s.heap.objs.size (.tup [.int (i : Nat), x])) b := fun b hb => by
      have nb : b ≠ s.heap.objs.size := by
        rcases List.mem_cons.mp hb with rfl | hb'
        · exact Nat.ne_of_lt lte
        · have z : b = j := by simpa using hb'
          subst z
          exact Nat.ne_of_lt ltj
      exact ⟨by rw [upd_ne nb]; exact (hf b hb).1, (hf b hb).2⟩
    have I2 := I1.turnL (h' := g2) (t' := s.toks + 1) (fp := [e, j]) (fun b o hb q => by
      have n1 : b ≠ e := fun z => hb (by simp [z])
      have n2 : b ≠ j := fun z => hb (by simp [z])
      refine (sb2.2 b n1).trans ?_
      rcases Heap.get?_push_cases q with ⟨rfl, rfl⟩ | q0
      · exact hT
      · exact kk b o n1 n2 q0) fp'
    refine ⟨.ref s.heap.objs.size, _, I2, rfl, ⟨_, x, fun ys hy => by rw [I.list_inj hy hq]; exact hx, hn, rfl, rfl⟩, ⟨⟨_, by simpa using he2⟩, ?_⟩, fun b hb => (fp' b hb).1⟩
    exact hj'.extBut sb2.extBut (Ne.symm ne)
  done := by
    intro X hP hw hK hc i pins s σ H E I hf st hg
    subst hP hw hK
    obtain ⟨xs, hq, hx⟩ := hg
    obtain ⟨its, rv, p, hz⟩ := I.list hq
    obtain ⟨⟨old, he⟩, hj⟩ := st
    have hl := rv.length
    exact wpAny_pyNext_enum_end (I.ok.hd hc) he hj (plain_isL p) (by simp; omega) fun g eb => ⟨rfl, I.turnL (t' := s.toks) (fp := [e, j]) (fun b o hb q => eb b o (fun z => hb (by simp [z])) q) hf⟩
  self := fun _ _ _ _ _ st h => by
    obtain ⟨⟨old, he⟩, _⟩ := st
    exact wpAny_pyIter_enum he h
section
variable {X : Cx} {a : Expr} {ta : TA} {el : List Expr} {x1} {tp p pos : Pos}
def iEnL (K : PySem.W.Frag) (ta : TA) : TI := fun σ H R => ta σ H fun vs H1 => ∃ a, vs = [.ref a] ∧ (∃ xs, SqL K H1 a xs) ∧ R (IteL K a) H1
theorem pi_enL (hg : Gl X "enumerate") (hm : X.mg "enumerate" = none) (ha : PA X [a] ta) (hs : starEach [a] X.env = [(false, eval a X.env)] := by rfl) : PI X (.Tuple el x1 tp) (.Call (.Name "enumerate" p) [a] [] pos) (iEnL X.K ta) := by
  intro pins s σ H R I h
  refine Call_ (ld_blt I hg hm boot_enumerate (PyProof.Rows.callWith_type1 (thn (ha pos pins s σ H _ I h) fun us s1 ⟨vs, H1, I1, r1, q1⟩ => ?_) hs rfl))
  obtain ⟨b, rfl, ⟨xs, hq⟩, q⟩ := q1
  obtain ⟨v, rfl, rv⟩ := vals1 r1
  cases rv
  obtain ⟨its, rr, pl, hz⟩ := I1.list hq
  refine call_enumerate_list (plain_isL pl) fun h' he hj hsz hk => ?_
  have I2 : Inv X pins σ H1 { s1 with heap := h' } := I1.kept (t' := s1.toks) hk
  refine wpAny_pyIter_enum he ⟨s1.heap.objs.size + 1, [s1.heap.objs.size + 1, s1.heap.objs.size], _, _, H1, rfl, I2, turn_enL b _ _ (Nat.ne_of_gt (Nat.lt_succ_self _)), ⟨⟨_, he⟩, hj⟩, fun c hcm => ?_, q⟩
  have hge : s1.heap.objs.size ≤ c := by
    rcases List.mem_cons.mp hcm with rfl | hcm
    · exact Nat.le_succ _
    · have z : c = s1.heap.objs.size := by simpa using hcm
      exact Nat.le_of_eq z.symm
  exact I1.fpOk hge (I1.hok.fresh hge)
end
theorem z_ienL {K : PySem.W.Frag} {σ : St} {H : Hp} {ta : TA} {R : It → Hp → Prop} : iEnL K ta σ H R = ta σ H (fun vs H1 => ∃ a, vs = [.ref a] ∧ (∃ xs, SqL K H1 a xs) ∧ R (IteL K a) H1) := rfl
theorem fi_enL {K : PySem.W.Frag} {σ : St} {H : Hp} {g : TG} {tb : TS} {D : Ends} {α : Type} {es : List α} {inj : α → V} {a : Addr} (Pv : List α → St → Hp → Prop) (h0 : Pv [] σ H) (hw : ∀ pre σ H, Pv pre σ H → SqL K H a (es.map inj))
    (hs : ∀ pre e post σ H p, es = pre ++ e :: post → Pv pre σ H → H p = none → g (.ref p) σ (upd H p (.tup [.int (pre.length : Nat), inj e])) fun σ2 H2 => tb { D with nx := Pv (pre ++ [e]), ct := Pv (pre ++ [e]), bk := D.nx } σ2 H2) (hd : ∀ σ H, Pv es σ H → D.nx σ H) : FI (IteL K a) g tb D σ H := by
  refine ⟨fun i m σ H => m = es.length - i ∧ i ≤ es.length ∧ Pv (es.take i) σ H, ⟨es.length, by simp, Nat.zero_le _, h0⟩, ?_⟩
  rintro i m σ H ⟨rfl, hi, p⟩
  have w := hw _ _ _ p
  cases he : es[i]? with
  | none =>
    have e : i = es.length := Nat.le_antisymm hi (List.getElem?_eq_none_iff.mp he)
    subst e
    rw [List.take_length] at p
    exact .inl ⟨⟨_, w, by rw [List.length_map]; exact Nat.le_refl _⟩, hd _ _ p⟩
  | some e =>
    obtain ⟨hlt, ee⟩ := List.getElem?_eq_some_iff.mp he
    have tk : es.take (i + 1) = es.take i ++ [e] := by rw [List.take_succ, he]; rfl
    have sp : es = es.take i ++ e :: es.drop (i + 1) := by
      rw [← ee, ← List.drop_eq_getElem_cons hlt, List.take_append_drop]
    refine .inr ⟨⟨_, inj e, w, by rw [List.getElem?_map, he]; rfl⟩, Pv (es.take i ++ [e]), fun σ' H' q => ⟨es.length - (i + 1), by omega, rfl, hlt, by rw [tk]; exact q⟩, fun x H' y => ?_⟩
    obtain ⟨b, v, y1, y2, rfl, rfl⟩ := y
    have y3 := y1 _ w
    rw [List.getElem?_map, he] at y3
    obtain rfl : inj e = v := Option.some.inj y3
    have hl : (es.take i).length = i := by rw [List.length_take]; omega
    have z := hs _ e _ σ H b sp p y2
    rw [hl] at z
    exact z
end L2
namespace L2
open PySem PySem.Spec PyProof.Rows
section
variable {M : Model} {A : Around} {E : Value → Shared → Prop} {K : PySem.W.Frag} {h : Heap} {g : Array GenState} {d : Drawn} {t : Nat} {os : OsState} {e C Dc : Addr} {oe : Obj} {Q : Bool → Shared → Prop}
theorem exc_above (X : K.In h) (hD : ExcO h Dc) (hs : PySem.W.mroIn K C (.ref Dc) = some true) (he : h.get? e = some oe) (hcls : oe.cls = .ref C) (hq : Q true ⟨h, g, d, t, os⟩) : wpAny M A (excMatches (.ref e) (.ref Dc)) Q E ⟨h, g, d, t, os⟩ := by
  obtain ⟨bm, N, nm, q, bs, hdct, sn, sub, ab, col, dd, k0, k1, k2, k3, k5, mN, hC, hN, hni, TL⟩ := hD
  have hB : bm.contains (.type "BaseException") = true := TL.hasType (by decide)
  have hcB : (Value.ref Dc :: bm).contains (.type "BaseException") = true := by rw [List.contains_cons, hB, Bool.or_true]
  have f := tc_notTuple
  unfold excMatches
  repeat (first | (with_reducible refine wpAny_loadPart_at he ?_; rw [hcls]) | with_reducible refine wpAny_loadPart_at hC ?_ | (with_reducible refine wpAny_isSubtype_exc hC ?_; rw [hcB]) | (with_reducible refine PySem.W.Looks.at (PySem.W.looks_mroIn X hs) ?_) | wp_step)
  exact hq
end
def Above (K : PySem.W.Frag) (Dc C : Addr) : Prop := ExcK K C ∧ ExcI K C ∧ PySem.W.mroIn K C (.ref Dc) = some true
theorem alln {α : Type} {p : α → Prop} : ∀ a ∈ ([] : List α), p a := fun _ h => nomatch h
theorem allc {α : Type} {p : α → Prop} {a : α} {as : List α} (h : p a) (r : ∀ b ∈ as, p b) : ∀ b ∈ a :: as, p b := fun b hb => by
  rcases List.mem_cons.mp hb with rfl | hb
  · exact h
  · exact r b hb
def tTryC (sp : Sp) (Cs : List Addr) (g : V → St → St) (i : Nat) (ta : TA) (ts : Addr → Addr → Obj → TS) : TS := fun D σ H => ta σ H fun vs H1 => sp vs H1 (fun v H2 => D.nx (g v σ) H2)
  (fun c _ H2 => ∃ C, c = .ref C ∧ C ∈ Cs ∧ ∀ x oe, oe.cls = .ref C → ts C x oe { nx := fun σ' H' => D.nx (σ'.set i none) H', rt := D.rt, bk := fun σ' H' => D.bk (σ'.set i none) H', ct := fun σ' H' => D.ct (σ'.set i none) H' } (σ.set i (some (.ref x))) H2)
theorem z_tryC {sp : Sp} {Cs : List Addr} {g : V → St → St} {i : Nat} {ta : TA} {ts : Addr → Addr → Obj → TS} {D : Ends} {σ : St} {H : Hp} : tTryC sp Cs g i ta ts D σ H = ta σ H (fun vs H1 => sp vs H1 (fun v H2 => D.nx (g v σ) H2)
  (fun c _ H2 => ∃ C, c = .ref C ∧ C ∈ Cs ∧ ∀ x oe, oe.cls = .ref C → ts C x oe { nx := fun σ' H' => D.nx (σ'.set i none) H', rt := D.rt, bk := fun σ' H' => D.bk (σ'.set i none) H', ct := fun σ' H' => D.ct (σ'.set i none) H' } (σ.set i (some (.ref x))) H2)) := rfl
def tTryN (sp : Sp) (Cs : List Addr) (g : V → St → St) (ta : TA) (ts : Addr → Addr → Obj → TS) : TS := fun D σ H => ta σ H fun vs H1 => sp vs H1 (fun v H2 => D.nx (g v σ) H2)
  (fun c _ H2 => ∃ C, c = .ref C ∧ C ∈ Cs ∧ ∀ x oe, oe.cls = .ref C → ts C x oe D σ H2)
theorem z_tryN {sp : Sp} {Cs : List Addr} {g : V → St → St} {ta : TA} {ts : Addr → Addr → Obj → TS} {D : Ends} {σ : St} {H : Hp} : tTryN sp Cs g ta ts D σ H = ta σ H (fun vs H1 => sp vs H1 (fun v H2 => D.nx (g v σ) H2)
  (fun c _ H2 => ∃ C, c = .ref C ∧ C ∈ Cs ∧ ∀ x oe, oe.cls = .ref C → ts C x oe D σ H2)) := rfl
section
variable {X : Cx} {pins : List (Addr × Obj)} {σ : St} {H : Hp} {s s' : Shared} {Dc : Addr} {Cs : List Addr} {e : Value} {cx n : Str} {np pos hpos : Pos} {b0 : Stmt} {suite : List Stmt} {D : Ends} {i : Nat}
theorem lookedC {R : Flow → Shared → Prop} {E2 : Addr → Hp → Prop} {nm : Option Str} {body : List Stmt} (I : Inv X pins σ H s) (h : CXE X.prog X.w X.stack H s (fun c _ H2 => ∃ C, c = .ref C ∧ C ∈ Cs ∧ E2 C H2) e s') (hq : ExcK X.K Dc) (hm : X.mg cx = some (.ref Dc)) (hA : ∀ C ∈ Cs, Above X.K Dc C) (hst : X.stack = X.env :: X.outer) (hf : X.env.frame = some X.env.locals) (hg : Gl X cx) (hdb : (cx == ("__debug__" : Str)) = false)
    (k : ∀ C x oe H' h6 (g' : Array GenState) d' t' o', C ∈ Cs → oe.cls = .ref C → E2 C H' → Inv (X.caught x oe) pins σ H' ⟨h6, g', d', t', o'⟩ → ∀ B a0 h5, Heap.FlyingW B X.stack x (.ref C) a0 h5 → (∀ h7, Heap.FlyingW B X.stack x (.ref C) a0 h7 → h5.UpToSlots h7 → ∃ oe', oe'.cls = .ref C ∧ Inv (X.caught x oe') pins σ H' ⟨h7, g', d', t', o'⟩) →
      codeAny (model X.prog X.w) (X.A.mark (some (.ref x))) (.handlers (.ref x) [.ExceptHandler none nm body hpos] X.env) (fun r s₂ => match r with
          | .ok f => (match nm with
            | none => R f s₂
            | some n => wpAny (model X.prog X.w) X.A (do bindName X.env n .none; unbindBehindTheSuite X.env n hpos) (fun _ s₃ => R f s₃) X.xe s₂)
          | .error y => cameBackBy (model X.prog X.w) X.A X.env X.xe y s₂) ⟨h5, g', d', t', o'⟩) :
    wpAny (model X.prog X.w) X.A (noteFrame e X.env) (fun _ s₂ => wpAny (model X.prog X.w) X.A (setFlight e none) (fun _ s₃ => wpAny (model X.prog X.w) X.A (handleBy e X.env [.ExceptHandler (some (.Name cx np)) nm body hpos]) R X.xe s₃) X.xe s₂) X.xe s' := by
  obtain ⟨x, C, a0, B, H', rfl, os, bare, fl, fx, ⟨C2, eC, hCs, q⟩⟩ := h
  obtain rfl : C = C2 := by cases eC; rfl
  obtain ⟨hh, gg, dd, tt, oo⟩ := s'
  have cau : ∀ h7, Heap.FlyingW B X.stack x (.ref C) a0 h7 → FX X.prog X.w (frs X.stack) H s.heap B H' h7 → ∃ oe', oe'.cls = .ref C ∧ Inv (X.caught x oe') pins σ H' ⟨h7, gg, dd, tt, oo⟩ := fun h7 fl7 fx7 => by
    have J : Inv X pins σ H' ⟨h7, gg, dd, tt, oo⟩ := I.call' (s' := ⟨h7, gg, dd, tt, oo⟩) (ch := []) os fx7.un fx7.hok bare fun b z => absurd z (by simp)
    obtain ⟨oe, vs, hoe, hc, hd, _⟩ := fl7.first
    have hx : x ∉ frs X.stack := fun z => by
      obtain ⟨_, o, ho, hnf⟩ := fl7.2.2.1.mem z
      rw [hoe] at ho; cases ho
      exact hnf vs hd
    refine ⟨oe, hc, J.caught hoe ?_ ?_ ?_ fun v z => by rw [hd] at z; cases z⟩
    · cases z : H' x with
      | none => rfl
      | some u =>
        obtain ⟨o, eo⟩ := fx7.k2 x u z
        rw [fl7.2.1] at eo; cases eo
    · intro z
      exact hx (by rw [hst, z]; unfold frs; rw [List.filterMap_cons, hf]; exact List.mem_cons_self)
    · intro z
      exact hx (by rw [hst]; unfold frs; rw [List.filterMap_cons, hf]; exact List.mem_cons_of_mem _ z)
  have fl0 := fl
  rw [hst] at fl0
  refine wpAny_looks_onW (hst ▸ I.ok.frames) hf fl0 fun h4 held4 up4 => ?_
  refine wpAny_landsW held4 fun h5 fl5 up5 => ?_
  have fx5 := (fx.step held4.1 up4).step fl5.1 up5
  rw [← hst] at fl5
  obtain ⟨oe5, hc5, J5⟩ := cau h5 fl5 fx5
  refine wpAny_handleBy_cons (codeAny_handlers_test (ld_glob J5 hg hm ?_ hdb)) (by intro q; cases q)
  obtain ⟨ob, hob, hobc⟩ := fl5.there
  refine exc_above J5.kIn (hq.obj J5.kIn) (hA C hCs).2.2 hob hobc ?_
  exact k C x oe5 H' h5 gg dd tt oo hCs hc5 q J5 B a0 h5 fl5 fun h7 fl7 up7 => cau h7 fl7 (fx5.step fl7.1 up7)
end
section
variable {X : Cx} {Dc : Addr} {Cs : List Addr} {cx n f : Str} {np p cpos pos hpos : Pos} {b0 st : Stmt} {suite : List Stmt} {i k : Nat} {ts : Addr → Addr → Obj → TS} {ps : List Str} {sp : Sp} {a : Expr} {as : List Expr} {ta : TA} {g : V → St → St}
theorem ps_tryC (Ca : CalE X.prog X.w X.K X.mg X.base k f ps sp) (hr : Room k X.A) (ha : PA X.nox (a :: as) ta) (hb : BodyOf X st (.Call (.Name f p) (a :: as) [] cpos) g) (hq : ExcK X.K Dc) (hm : X.mg cx = some (.ref Dc)) (hA : ∀ C ∈ Cs, Above X.K Dc C)
    (hs : ∀ C, ExcI X.K C → ∀ x oe, oe.cls = .ref C → PSs (X.caught x oe) (b0 :: suite) (ts C x oe)) (hN : X.N.Nodup) (hi : X.N[i]? = some n) (hst : X.stack = X.env :: X.outer := by rfl) (hf : X.env.frame = some X.env.locals := by rfl) (hgc : Gl X cx := by rfl) (hdc : (cx == ("__debug__" : Str)) = false := by decide)
    (hg : Gl X f := by rfl) (hdb : (f == ("__debug__" : Str)) = false := by decide) (he : starEach (a :: as) X.env = (false, eval a X.env) :: starEach as X.env := by rfl) (hpl : (backTo cpos (starEach as X.env)).any (·.1) = false := by rfl) (hn : X.env.kindOf n = some .local := by rfl) (hln : Loc X.env.scope n := by exact Or.inl rfl) (hfn : X.env.scope.names.lookup n = some .local := by rfl) :
    PS X (.Try [st] [.ExceptHandler (some (.Name cx np)) (some n) (b0 :: suite) hpos] [] [] pos) (tTryC sp Cs g i ta ts) := by
  intro pins s σ H D I h
  refine wpAny_Try_except (wpAny_execs_cons (hb pins s σ H _ (fun v H2 => D.nx (g v σ) H2) _ I (tried Ca hr ha I h (fun s1 H1 e s' I1 z => ?_) hg hdb he hpl) fun v H1 s1 q I1 => wpAny_execs_nil (wpAny_execs_nil ⟨_, _, I1, q⟩)))
  refine lookedC I1 z hq hm hA hst hf hgc hdc fun C x oe H' h6 g' d' t' o' hCs hc q J B a0 h5 fl nxt => ?_
  refine codeAny_handlers_suite_as ?_
  refine lands_againW fl fun h7 fl7 up7 => ?_
  obtain ⟨oe', hc', J7⟩ := nxt h7 fl7 up7
  refine store_ok (X := X.caught x oe') J7 hN hi hln (v := .ref x) (u := .ref x) rfl (fun s8 I8 => ?_) (.inr hfn)
  refine wpAny_mono (hs C (hA C hCs).2.1 x oe' hc' pins s8 _ H' _ I8 (q x oe' hc')) (fun fl s9 q9 => ?_) fun _ _ z => False.elim z
  have go : ∀ {σ' : St} {H'' : Hp} {R : Unit → Shared → Prop}, Inv (X.caught x oe') pins σ' H'' s9 → (∀ s10, Inv X pins (σ'.set i none) H'' s10 → R () s10) → wpAny (model X.prog X.w) X.A (do bindName X.env n .none; unbindBehindTheSuite X.env n hpos) R X.xe s9 := fun {σ' H'' R} J k => by
    have J' := J.uncaught I.ok
    obtain ⟨m, hn', hl⟩ := id J'.loc
    refine wpAny_nameGoes_keeps hn hn' (by rw [I.ok.kind]; rfl) fun h' v hv hsb => k _ ?_
    exact J'.gone hN hi hl hn' hv hsb
  cases fl with
  | next => obtain ⟨σ', H'', J9, q⟩ := q9; exact go J9 fun s10 J => ⟨_, _, J, q⟩
  | brk => obtain ⟨σ', H'', J9, q⟩ := q9; exact go J9 fun s10 J => ⟨_, _, J, q⟩
  | cont => obtain ⟨σ', H'', J9, q⟩ := q9; exact go J9 fun s10 J => ⟨_, _, J, q⟩
  | ret u => obtain ⟨v, σ', H'', J9, r, q⟩ := q9; exact go J9 fun s10 J => ⟨v, _, _, J, r, q⟩
end
end L2
namespace L2.S
open PySem L2
@[irreducible] def PE (X : Cx) (e : Expr) (t : TE) : Prop := L2.PE X e t
@[irreducible] def PT (X : Cx) (e : Expr) (t : TT) : Prop := L2.PT X e t
@[irreducible] def PW (X : Cx) (e : Expr) (t : TT) : Prop := L2.PW X e t
@[irreducible] def PA (X : Cx) (es : List Expr) (t : TA) : Prop := L2.PA X es t
@[irreducible] def PS (X : Cx) (st : Stmt) (t : TS) : Prop := L2.PS X st t
@[irreducible] def PSs (X : Cx) (st : List Stmt) (t : TS) : Prop := L2.PSs X st t
@[irreducible] def PG (X : Cx) (target : Expr) (t : TG) : Prop := L2.PG X target t
@[irreducible] def PGs (X : Cx) (ts : List Expr) (t : TGs) : Prop := L2.PGs X ts t
@[irreducible] def PI (X : Cx) (tg iter : Expr) (wi : TI) : Prop := L2.PI X tg iter wi
@[irreducible] def PO (X : Cx) (e : Option Expr) (t : TO) : Prop := L2.PO X e t
@[irreducible] def PTs (X : Cx) (ifs : List Expr) (t : TT) : Prop := L2.PTs X ifs t
theorem out {X : Cx} {b : List Stmt} {t : TS} (h : PSs X b t) : L2.PSs X b t := by unfold PSs at h; exact h
theorem pv : ∀ {X : Cx} (i : Nat) {x : Str} {pos : Pos}, autoParam ((Cx.N X)[i]? = Option.some x) L2.pv._auto_1 → autoParam (Vis (Env.scope (Cx.env X)) x) L2.pv._auto_2 → autoParam ((x == ("__debug__" : Str)) = Bool.false) L2.pv._auto_3 → autoParam ((x == ("__classdict__" : Str)) = Bool.false) L2.pv._auto_4 → S.PE X (Expr.Name x pos) (tVar i) := by with_unfolding_all exact @L2.pv
theorem pe_bltn : ∀ {X : Cx} {x : Str} {v : V} {u : Value} {pos : Pos}, Gl X x → Cx.mg X x = Option.none → bootBuiltins x = Option.some u → RelV v u → autoParam (x ≠ ("__name__" : Str)) L2.pe_bltn._auto_1 → autoParam ((x == ("__debug__" : Str)) = Bool.false) L2.pe_bltn._auto_2 → S.PE X (Expr.Name x pos) (tC v) := by with_unfolding_all exact @L2.pe_bltn
theorem pe_glob : ∀ {X : Cx} {x : Str} {v : V} {u : Value} {pos : Pos}, Gl X x → Cx.mg X x = Option.some u → RelV v u → autoParam ((x == ("__debug__" : Str)) = Bool.false) L2.pe_glob._auto_1 → S.PE X (Expr.Name x pos) (tC v) := by with_unfolding_all exact @L2.pe_glob
theorem pe_int : ∀ {X : Cx} {i : Int} {j : Nat} {pos : Pos}, S.PE X (Expr.Constant (Const.int i) j pos) (tC (V.int i)) := by with_unfolding_all exact @L2.pe_int
theorem pe_bl : ∀ {X : Cx} {b : Bool} {j : Nat} {pos : Pos}, S.PE X (Expr.Constant (Const.bool b) j pos) (tC (V.bl b)) := by with_unfolding_all exact @L2.pe_bl
theorem pe_non : ∀ {X : Cx} {j : Nat} {pos : Pos}, S.PE X (Expr.Constant Const.none j pos) (tC V.non) := by with_unfolding_all exact @L2.pe_non
theorem pe_str : ∀ {X : Cx} {x : Str} {j : Nat} {pos : Pos}, S.PE X (Expr.Constant (Const.str x) j pos) (tC (V.str x)) := by with_unfolding_all exact @L2.pe_str
theorem pe_op : ∀ {X : Cx} {a b : Expr} {ta tb : TE} {pos : Pos} {op : Operator} {r : R2}, OpR X (binaryOp op) r → S.PE X a ta → S.PE X b tb → S.PE X (Expr.BinOp a op b pos) (tOp r ta tb) := by with_unfolding_all exact @L2.pe_op
theorem pe_un : ∀ {X : Cx} {a : Expr} {ta : TE} {pos : Pos} {op : UnaryOp} {r : V → Hp → VK → Prop}, UnR X (unaryOp op) r → S.PE X a ta → S.PE X (Expr.UnaryOp op a pos) (tUn r ta) := by with_unfolding_all exact @L2.pe_un
theorem pe_cmpR : ∀ {X : Cx} {a b : Expr} {ta tb : TE} {pos : Pos} {op : CmpOp} {r : R2}, OpR X (compareOp op) r → S.PE X a ta → S.PE X b tb → behindInMarks op b = Bool.false → S.PE X (Expr.Compare a [op] [b] pos) (tOp r ta tb) := by with_unfolding_all exact @L2.pe_cmpR
theorem pe_chain : ∀ {X : Cx} {a b c : Expr} {ta tb tc : TE} {pos : Pos} {op op' : CmpOp} {r r' : R2}, OpR X (compareOp op) r → OpR X (compareOp op') r' → S.PE X a ta → S.PE X b tb → S.PE X c tc → autoParam (lastMarks [op, op'] [b, c] = Bool.false) L2.pe_chain._auto_1 → S.PE X (Expr.Compare a [op, op'] [b, c] pos) (tChain r r' ta tb tc) := by with_unfolding_all exact @L2.pe_chain
theorem pe_and : ∀ {X : Cx} {a b : Expr} {ta tb : TE} {pos : Pos} {rest : List Expr}, S.PE X a ta → S.PE X (Expr.BoolOp BoolOp.And (b :: rest) pos) tb → S.PE X (Expr.BoolOp BoolOp.And (a :: b :: rest) pos) (tAndV ta tb) := by with_unfolding_all exact @L2.pe_and
theorem pe_one : ∀ {X : Cx} {a : Expr} {pos : Pos} {op : BoolOp} {t : TE}, S.PE X a t → S.PE X (Expr.BoolOp op [a] pos) t := by with_unfolding_all exact @L2.pe_one
theorem pe_tup : ∀ {X : Cx} {es : List Expr} {t : TA} {pos : Pos} {x1 : Nat}, S.PA X es t → S.PE X (Expr.Tuple es x1 pos) (tTup t) := by with_unfolding_all exact @L2.pe_tup
theorem pe_lst : ∀ {X : Cx} {es : List Expr} {t : TA} {pos : Pos}, S.PA X es t → S.PE X (Expr.List es pos) (tLst t) := by with_unfolding_all exact @L2.pe_lst
theorem pe_slice : ∀ {X : Cx} {e : Expr} {te : TE} {lo hi : Option Expr} {tl th : TO} {pos p2 : Pos} {r : V → Option Int → Option Int → Hp → VK → Prop}, SlR X r → S.PE X e te → S.PO X lo tl → S.PO X hi th → S.PE X (Expr.Subscript e (Expr.Slice lo hi Option.none p2) pos) (tSl r te tl th) := by with_unfolding_all exact @L2.pe_slice
theorem po_none : ∀ {X : Cx}, S.PO X Option.none tNoPart := by with_unfolding_all exact @L2.po_none
theorem po_some : ∀ {X : Cx} {e : Expr} {te : TE}, S.PE X e te → S.PO X (Option.some e) (tPart te) := by with_unfolding_all exact @L2.po_some
theorem pe_ix : ∀ {X : Cx} {a b : Expr} {ta tb : TE} {pos : Pos} {r : R2}, IxR X r → S.PE X a ta → S.PE X b tb → PlainIx b → S.PE X (Expr.Subscript a b pos) (tOp r ta tb) := by with_unfolding_all exact @L2.pe_ix
theorem pe_comp : ∀ {X : Cx} {elt tg iter : Expr} {ifs : List Expr} {scope : Scope} {pos : Pos} {wi : TI} {g : TG} {tt : TT} {te : TE} {ts : List Str} {fs : List (Nat × Str)}, Cx.calm X = Bool.true → CpScope X ts fs scope → S.PI X tg iter wi → (∀ (ex : List Addr) (s : Shared) (H : Hp), S.PG (cxC X (cpN ts fs) scope ex s H) tg g) → (∀ (ex : List Addr) (s : Shared) (H : Hp), S.PTs (cxC X (cpN ts fs) scope ex s H) ifs tt) → (∀ (ex : List Addr) (s : Shared) (H : Hp), S.PE (cxC X (cpN ts fs) scope ex s H) elt te) → autoParam (∀ (x : Value), foldedSetIterable iter (Cx.env X) x = Pure.pure x) L2.pe_comp._auto_1 → S.PE X (Expr.ListComp elt [{ target := tg, iter := iter, ifs := ifs, is_async := (0 : Int) }] scope pos) (tComp (List.length ts) fs wi g tt te) := by with_unfolding_all exact @L2.pe_comp
theorem pe_cB : ∀ {X : Cx} {e : Expr} {es : List Expr} {t : TA} {x : Str} {p pos : Pos} {id : String} {r : List V → Hp → VK → Prop}, CallR X (Value.builtin id) r → Gl X x → Cx.mg X x = Option.none → bootBuiltins x = Option.some (Value.builtin id) → S.PA X (e :: es) t → autoParam (plainE e = Bool.true) L2.pe_cB._auto_1 → autoParam (List.all es plainE = Bool.true) L2.pe_cB._auto_2 → autoParam (x ≠ ("__name__" : Str)) L2.pe_cB._auto_3 → autoParam ((x == ("__debug__" : Str)) = Bool.false) L2.pe_cB._auto_4 → S.PE X (Expr.Call (Expr.Name x p) (e :: es) [] pos) (tCB r t) := by with_unfolding_all exact @L2.pe_cB
theorem pe_cTy : ∀ {X : Cx} {e : Expr} {es : List Expr} {t : TA} {x : Str} {p pos : Pos} {T : String} {r : List V → Hp → VK → Prop}, CallR X (Value.type T) r → Gl X x → Cx.mg X x = Option.none → bootBuiltins x = Option.some (Value.type T) → S.PA X (e :: es) t → autoParam (plainE e = Bool.true) L2.pe_cTy._auto_1 → autoParam (List.all es plainE = Bool.true) L2.pe_cTy._auto_2 → autoParam (x ≠ ("__name__" : Str)) L2.pe_cTy._auto_3 → autoParam ((x == ("__debug__" : Str)) = Bool.false) L2.pe_cTy._auto_4 → S.PE X (Expr.Call (Expr.Name x p) (e :: es) [] pos) (tCB r t) := by with_unfolding_all exact @L2.pe_cTy
theorem pe_cD : ∀ {X : Cx} {e : Expr} {es : List Expr} {t : TA} {x : Str} {p pos : Pos} {k : Nat} {ps : List Str} {sp : Sp}, Cal (Cx.prog X) (Cx.w X) (Cx.K X) (Cx.mg X) (Cx.base X) k x ps sp → Room k (Cx.A X) → S.PA X (e :: es) t → autoParam (plainE e = Bool.true) L2.pe_cD._auto_1 → autoParam (List.all es plainE = Bool.true) L2.pe_cD._auto_2 → autoParam (Gl X x) L2.pe_cD._auto_3 → autoParam ((x == ("__debug__" : Str)) = Bool.false) L2.pe_cD._auto_4 → S.PE X (Expr.Call (Expr.Name x p) (e :: es) [] pos) (tCall sp [] E0 t) := by with_unfolding_all exact @L2.pe_cD
theorem pe_bm : ∀ {X : Cx} {o e : Expr} {es : List Expr} {to : TE} {t : TA} {name : Str} {apos cpos : Pos} {T id : String} {r : V → List V → Hp → VK → Prop}, PlainAttrs T → Slot T name id → typeOf (Value.builtin id) = Pure.pure (Value.type "method_descriptor") → MtR X id r → S.PE X o to → S.PA X (e :: es) t → autoParam (attributeBase o name (Cx.env X) (eval o (Cx.env X)) = eval o (Cx.env X)) L2.pe_bm._auto_1 → autoParam ((((List.all (backTo cpos (starEach (e :: es) (Cx.env X))) fun (x : Bool × Sem Value) ↦ !Prod.fst x) && List.all (backToKw cpos (keywordEach [] (Cx.env X))) fun (x : Option Str × Sem Value) ↦ Option.isSome (Prod.fst x)) && Decidable.decide ((List.length (e :: es) + List.length ([] : List Keyword) + if List.isEmpty ([] : List Keyword) = Bool.true then (0 : Nat) else (1 : Nat)) < (30 : Nat))) = Bool.true) L2.pe_bm._auto_2 → autoParam ((Pos.endLine apos == Pos.line cpos) = Bool.true) L2.pe_bm._auto_3 → autoParam (starEach (e :: es) (Cx.env X) = (Bool.false, eval e (Cx.env X)) :: starEach es (Cx.env X)) L2.pe_bm._auto_4 → autoParam ((List.any (backTo cpos (starEach es (Cx.env X))) fun (x : Bool × Sem Value) ↦ Prod.fst x) = Bool.false) L2.pe_bm._auto_5 → S.PE X (Expr.Call (Expr.Attribute o name apos) (e :: es) [] cpos) (tBM (Cx.K X) T r to t) := by with_unfolding_all exact @L2.pe_bm
theorem pi_en : ∀ {X : Cx} {a : Expr} {ta : TA} {el : List Expr} {x1 : Nat} {tp p pos : Pos}, Gl X (("enumerate" : Str)) → Cx.mg X (("enumerate" : Str)) = Option.none → S.PA X [a] ta → autoParam (starEach [a] (Cx.env X) = [(Bool.false, eval a (Cx.env X))]) L2.pi_en._auto_1 → S.PI X (Expr.Tuple el x1 tp) (Expr.Call (Expr.Name (("enumerate" : Str)) p) [a] [] pos) (iEn (Cx.K X) ta) := by with_unfolding_all exact @L2.pi_en
theorem pi_enL : ∀ {X : Cx} {a : Expr} {ta : TA} {el : List Expr} {x1 : Nat} {tp p pos : Pos}, Gl X (("enumerate" : Str)) → Cx.mg X (("enumerate" : Str)) = Option.none → S.PA X [a] ta → autoParam (starEach [a] (Cx.env X) = [(Bool.false, eval a (Cx.env X))]) L2.pi_enL._auto_1 → S.PI X (Expr.Tuple el x1 tp) (Expr.Call (Expr.Name (("enumerate" : Str)) p) [a] [] pos) (iEnL (Cx.K X) ta) := by with_unfolding_all exact @L2.pi_enL
theorem pi_range1 : ∀ {X : Cx} {tg a : Expr} {ta : TA} {p pos : Pos}, Gl X (("range" : Str)) → Cx.mg X (("range" : Str)) = Option.none → S.PA X [a] ta → autoParam (starEach [a] (Cx.env X) = [(Bool.false, eval a (Cx.env X))]) L2.pi_range1._auto_1 → S.PI X tg (Expr.Call (Expr.Name (("range" : Str)) p) [a] [] pos) (iRng1 ta) := by with_unfolding_all exact @L2.pi_range1
theorem pi_list : ∀ {X : Cx} {tg l : Expr} {tl : TE}, S.PE X l tl → S.PI X tg l (iList (Cx.K X) tl) := by with_unfolding_all exact @L2.pi_list
theorem pi_tup : ∀ {X : Cx} {tg l : Expr} {tl : TE}, S.PE X l tl → S.PI X tg l (iTup (Cx.K X) tl) := by with_unfolding_all exact @L2.pi_tup
theorem pts_nil : ∀ {X : Cx}, S.PTs X [] tNoIf := by with_unfolding_all exact @L2.pts_nil
theorem pt_cmpR : ∀ {X : Cx} {a b : Expr} {ta tb : TE} {pos : Pos} {op : CmpOp} {r : R2}, OpR X (compareOp op) r → S.PE X a ta → S.PE X b tb → behindInMarks op b = Bool.false → S.PT X (Expr.Compare a [op] [b] pos) (tTest (tOp r ta tb)) := by with_unfolding_all exact @L2.pt_cmpR
theorem pt_not : ∀ {X : Cx} {a : Expr} {pos : Pos} {tA : TT}, S.PT X a tA → S.PT X (Expr.UnaryOp UnaryOp.Not a pos) (tNot tA) := by with_unfolding_all exact @L2.pt_not
theorem pw_and : ∀ {X : Cx} {a b : Expr} {pos : Pos} {tA tB' : TT} {rest : List Expr}, S.PT X a tA → S.PW X (Expr.BoolOp BoolOp.And (b :: rest) pos) tB' → S.PW X (Expr.BoolOp BoolOp.And (a :: b :: rest) pos) (tAnd tA tB') := by with_unfolding_all exact @L2.pw_and
theorem pw_or : ∀ {X : Cx} {a b : Expr} {pos : Pos} {tA tB' : TT} {rest : List Expr}, S.PT X a tA → S.PW X (Expr.BoolOp BoolOp.Or (b :: rest) pos) tB' → S.PW X (Expr.BoolOp BoolOp.Or (a :: b :: rest) pos) (tOr tA tB') := by with_unfolding_all exact @L2.pw_or
theorem pw_and1 : ∀ {X : Cx} {a : Expr} {pos : Pos} {tA : TT}, S.PT X a tA → S.PW X (Expr.BoolOp BoolOp.And [a] pos) tA := by with_unfolding_all exact @L2.pw_and1
theorem pw_or1 : ∀ {X : Cx} {a : Expr} {pos : Pos} {tA : TT}, S.PT X a tA → S.PW X (Expr.BoolOp BoolOp.Or [a] pos) tA := by with_unfolding_all exact @L2.pw_or1
theorem PW_pt : ∀ {X : Cx} {e : Expr} {t : TT}, S.PW X e t → S.PT X e t := by with_unfolding_all exact @L2.PW.pt
theorem pt_val : ∀ {X : Cx} {e : Expr} {t : TE}, S.PE X e t → autoParam (∀ (whole : Sem Value), isTrue e (Cx.env X) whole = do let v ← whole; standAt (Expr.pos e); holding [v] (truthy v)) L2.pt_val._auto_1 → S.PT X e (tB t) := by with_unfolding_all exact @L2.pt_val
theorem pa_nil : ∀ {X : Cx}, S.PA X [] tNil := by with_unfolding_all exact @L2.pa_nil
theorem pa_cns : ∀ {X : Cx} {e : Expr} {es : List Expr} {te : TE} {t : TA}, S.PE X e te → S.PA X es t → autoParam (plainE e = Bool.true) L2.pa_cns._auto_1 → S.PA X (e :: es) (tCons te t) := by with_unfolding_all exact @L2.pa_cns
theorem pss_nil : ∀ {X : Cx}, S.PSs X [] tNext := by with_unfolding_all exact @L2.pss_nil
theorem pss_one : ∀ {X : Cx} {st : Stmt} {t : TS}, S.PS X st t → S.PSs X [st] t := by with_unfolding_all exact @L2.pss_one
theorem pss_cons : ∀ {X : Cx} {st : Stmt} {rest : List Stmt} {t u : TS}, S.PS X st t → S.PSs X rest u → S.PSs X (st :: rest) (tSeq t u) := by with_unfolding_all exact @L2.pss_cons
theorem pg_name : ∀ {X : Cx} {pos : Pos} {i : Nat} {x : Str}, List.Nodup (Cx.N X) → (Cx.N X)[i]? = Option.some x → Loc (Env.scope (Cx.env X)) x → ∀ (hf : autoParam (Cx.fn X x = Bool.true ∨ List.lookup x (Scope.names (Env.scope (Cx.env X))) = Option.some NameKind.local) L2.pg_name._auto_1), S.PG X (Expr.Name x pos) (gName i) := by with_unfolding_all exact @L2.pg_name
theorem pgs_nil : ∀ {X : Cx}, S.PGs X [] gNil := by with_unfolding_all exact @L2.pgs_nil
theorem pgs_cons : ∀ {X : Cx} {e : Expr} {es : List Expr} {t : TG} {u : TGs}, S.PG X e t → S.PGs X es u → autoParam (List.map (fun (x : Bool × (Value → Sem Unit)) ↦ Prod.snd x) (assignEach (e :: es) (Cx.env X)) = assign e (Cx.env X) :: List.map (fun (x : Bool × (Value → Sem Unit)) ↦ Prod.snd x) (assignEach es (Cx.env X))) L2.pgs_cons._auto_1 → S.PGs X (e :: es) (gCons t u) := by with_unfolding_all exact @L2.pgs_cons
theorem pg_tup : ∀ {X : Cx} {pos : Pos} {es : List Expr} {k : Nat} {t : TGs} {n : Nat}, Cx.calm X = Bool.true → S.PGs X es t → autoParam (List.length (assignEach es (Cx.env X)) = n) L2.pg_tup._auto_1 → autoParam (List.findIdx? (fun (x : Bool × (Value → Sem Unit)) ↦ Prod.fst x) (assignEach es (Cx.env X)) = Option.none) L2.pg_tup._auto_2 → S.PG X (Expr.Tuple es k pos) (gTup (Cx.K X) n t) := by with_unfolding_all exact @L2.pg_tup
theorem pg_sub : ∀ {X : Cx} {pos : Pos} {o i : Expr} {to ti : TE} {t : TSet}, S.PE X o to → S.PE X i ti → PSet X t → autoParam (∀ (v : Value), assign (Expr.Subscript o i pos) (Cx.env X) v = do let ov ← holding [v] (eval o (Cx.env X)); let iv ← holding [v, ov] (eval i (Cx.env X)); standAt pos; holding [v, ov, iv] (setItem ov iv v); release [v, ov, iv] []) L2.pg_sub._auto_1 → S.PG X (Expr.Subscript o i pos) (gSub to ti t) := by with_unfolding_all exact @L2.pg_sub
theorem ps_never : ∀ {X : Cx} {st : Stmt}, S.PS X st tNever := by with_unfolding_all exact @L2.ps_never
theorem ps_set : ∀ {X : Cx} {pos : Pos} {i : Nat} {x : Str} {e : Expr} {te : TE} {pos' : Pos}, List.Nodup (Cx.N X) → (Cx.N X)[i]? = Option.some x → Loc (Env.scope (Cx.env X)) x → S.PE X e te → autoParam (swapsWith e (Option.some (Expr.Name x pos')) (Pos.line pos) (Cx.env X) = Pure.pure Bool.false) L2.ps_set._auto_1 → autoParam (Cx.fn X x = Bool.true ∨ List.lookup x (Scope.names (Env.scope (Cx.env X))) = Option.some NameKind.local) L2.ps_set._auto_2 → S.PS X (Stmt.Assign [Expr.Name x pos'] e pos) (tAsg te (gName i)) := by with_unfolding_all exact @L2.ps_set
theorem ps_par : ∀ {X : Cx} {pos : Pos} {i j : Nat} {x y : Str} {a b : Expr} {ta : TA} {px py pt : Pos} {kt k2 : Nat} {pt2 : Pos}, Cx.calm X = Bool.true → List.Nodup (Cx.N X) → (Cx.N X)[i]? = Option.some x → (Cx.N X)[j]? = Option.some y → i ≠ j → List.lookup x (Scope.names (Env.scope (Cx.env X))) = Option.some NameKind.local → List.lookup y (Scope.names (Env.scope (Cx.env X))) = Option.some NameKind.local → S.PA X [a, b] ta → swappedStores [Expr.Tuple [Expr.Name x px, Expr.Name y py] kt pt] (Expr.Tuple [a, b] k2 pt2) (Cx.env X) = Pure.pure (Option.some [x, y]) → autoParam (swapsWithSole [Expr.Tuple [Expr.Name x px, Expr.Name y py] kt pt] (Expr.Tuple [a, b] k2 pt2) (Pos.line pos) (Cx.env X) = Pure.pure Bool.false) L2.ps_par._auto_1 → S.PS X (Stmt.Assign [Expr.Tuple [Expr.Name x px, Expr.Name y py] kt pt] (Expr.Tuple [a, b] k2 pt2) pos) (tPar i j ta) := by with_unfolding_all exact @L2.ps_par
theorem ps_asg : ∀ {X : Cx} {pos : Pos} {tg e : Expr} {te : TE} {g : TG}, S.PE X e te → S.PG X tg g → autoParam (swapsWithSole [tg] e (Pos.line pos) (Cx.env X) = Pure.pure Bool.false) L2.ps_asg._auto_1 → autoParam (swappedStores [tg] e (Cx.env X) = Pure.pure Option.none) L2.ps_asg._auto_2 → autoParam (List.map (fun (x : Bool × (Value → Sem Unit)) ↦ Prod.snd x) (assignEach [tg] (Cx.env X)) = [assign tg (Cx.env X)]) L2.ps_asg._auto_3 → S.PS X (Stmt.Assign [tg] e pos) (tAsg te g) := by with_unfolding_all exact @L2.ps_asg
theorem ps_ret : ∀ {X : Cx} {e : Expr} {te : TE} {pos : Pos}, S.PE X e te → S.PS X (Stmt.Return (Option.some e) pos) (tRet te) := by with_unfolding_all exact @L2.ps_ret
theorem ps_if : ∀ {X : Cx} {t u : TS} {pos : Pos} {c : Expr} {a b : List Stmt} {tc : TT}, S.PT X c tc → S.PSs X a t → S.PSs X b u → S.PS X (Stmt.If c a b pos) (tIfS tc t u) := by with_unfolding_all exact @L2.ps_if
theorem ps_raise : ∀ {P : Program} {w : World} {K : W.Frag} {mg : Str → Option Value} {base : Heap} {N : List Str} {qual : Str} {scope : Scope} {f : Addr} {cd : Value} {A : Around} {outer : List Env} {s0 : Shared} {H0 : Hp} {E : XK} {C : Addr} {x : Str} {np cpos pos : Pos} {e : Expr} {es : List Expr} {t : TA}, ExcK K C → mg x = Option.some (Value.ref C) → S.PA (cxOf (CXE P w) P w K mg base N qual scope f cd A outer s0 H0 E) (e :: es) t → autoParam (Gl (cxOf (CXE P w) P w K mg base N qual scope f cd A outer s0 H0 E) x) L2.ps_raise._auto_1 → autoParam ((x == ("__debug__" : Str)) = Bool.false) L2.ps_raise._auto_2 → autoParam (starEach (e :: es) (PyProof.Rows.envOfC qual scope (Array.size (Heap.objs (Shared.heap s0))) f cd) = (Bool.false, eval e (PyProof.Rows.envOfC qual scope (Array.size (Heap.objs (Shared.heap s0))) f cd)) :: starEach es (PyProof.Rows.envOfC qual scope (Array.size (Heap.objs (Shared.heap s0))) f cd)) L2.ps_raise._auto_3 → autoParam ((List.any (backTo cpos (starEach es (PyProof.Rows.envOfC qual scope (Array.size (Heap.objs (Shared.heap s0))) f cd))) fun (x : Bool × Sem Value) ↦ Prod.fst x) = Bool.false) L2.ps_raise._auto_4 → S.PS (cxOf (CXE P w) P w K mg base N qual scope f cd A outer s0 H0 E) (Stmt.Raise (Option.some (Expr.Call (Expr.Name x np) (e :: es) [] cpos)) Option.none pos) (tRaise C E t) := by with_unfolding_all exact @L2.ps_raise
theorem ps_tryC : ∀ {X : Cx} {Dc : Addr} {Cs : List Addr} {cx n f : Str} {np p cpos pos hpos : Pos} {b0 st : Stmt} {suite : List Stmt} {i k : Nat} {ts : Addr → Addr → Obj → TS} {ps : List Str} {sp : Sp} {a : Expr} {as : List Expr} {ta : TA} {g : V → St → St}, CalE (Cx.prog X) (Cx.w X) (Cx.K X) (Cx.mg X) (Cx.base X) k f ps sp → Room k (Cx.A X) → S.PA (Cx.nox X) (a :: as) ta → BodyOf X st (Expr.Call (Expr.Name f p) (a :: as) [] cpos) g → ExcK (Cx.K X) Dc → Cx.mg X cx = Option.some (Value.ref Dc) → (∀ (C : Addr), C ∈ Cs → Above (Cx.K X) Dc C) → (∀ (C : Addr), ExcI (Cx.K X) C → ∀ (x : Addr) (oe : Obj), Obj.cls oe = Value.ref C → S.PSs (Cx.caught X x oe) (b0 :: suite) (ts C x oe)) → List.Nodup (Cx.N X) → (Cx.N X)[i]? = Option.some n → autoParam (Cx.stack X = Cx.env X :: Cx.outer X) L2.ps_tryC._auto_1 → autoParam (Env.frame (Cx.env X) = Option.some (Env.locals (Cx.env X))) L2.ps_tryC._auto_2 → autoParam (Gl X cx) L2.ps_tryC._auto_3 → autoParam ((cx == ("__debug__" : Str)) = Bool.false) L2.ps_tryC._auto_4 → autoParam (Gl X f) L2.ps_tryC._auto_5 → autoParam ((f == ("__debug__" : Str)) = Bool.false) L2.ps_tryC._auto_6 → autoParam (starEach (a :: as) (Cx.env X) = (Bool.false, eval a (Cx.env X)) :: starEach as (Cx.env X)) L2.ps_tryC._auto_7 → autoParam ((List.any (backTo cpos (starEach as (Cx.env X))) fun (x : Bool × Sem Value) ↦ Prod.fst x) = Bool.false) L2.ps_tryC._auto_8 → autoParam (Env.kindOf (Cx.env X) n = Option.some NameKind.local) L2.ps_tryC._auto_9 → autoParam (Loc (Env.scope (Cx.env X)) n) L2.ps_tryC._auto_10 → autoParam (List.lookup n (Scope.names (Env.scope (Cx.env X))) = Option.some NameKind.local) L2.ps_tryC._auto_11 → S.PS X (Stmt.Try [st] [ExceptHandler.ExceptHandler (Option.some (Expr.Name cx np)) (Option.some n) (b0 :: suite) hpos] [] [] pos) (tTryC sp Cs g i ta ts) := by with_unfolding_all exact @L2.ps_tryC
theorem body_set : ∀ {X : Cx} {i : Nat} {x : Str} {e : Expr} {pos pos' : Pos}, List.Nodup (Cx.N X) → (Cx.N X)[i]? = Option.some x → Loc (Env.scope (Cx.env X)) x → autoParam (swapsWith e (Option.some (Expr.Name x pos')) (Pos.line pos) (Cx.env X) = Pure.pure Bool.false) L2.body_set._auto_1 → autoParam (Cx.fn X x = Bool.true ∨ List.lookup x (Scope.names (Env.scope (Cx.env X))) = Option.some NameKind.local) L2.body_set._auto_2 → BodyOf X (Stmt.Assign [Expr.Name x pos'] e pos) e fun (v : V) (σ : St) ↦ List.set σ i (Option.some v) := by with_unfolding_all exact @L2.body_set
theorem PS_nox : ∀ {X : Cx} {st : Stmt} {t : TS}, S.PS (Cx.nox X) st t → S.PS X st t := by with_unfolding_all exact @L2.PS.nox
theorem ps_while : ∀ {X : Cx} {pos : Pos} {c : Expr} {body : List Stmt} {tc : TT} {tb : TS}, PassesOwn (model (Cx.prog X) (Cx.w X)) (Cx.A X) (Cx.env X) (Cx.xe X) → S.PT X c tc → S.PSs X body tb → S.PS X (Stmt.While c body [] pos) (tWhile tc tb) := by with_unfolding_all exact @L2.ps_while
theorem ps_for : ∀ {X : Cx} {tg iter : Expr} {body : List Stmt} {wi : TI} {g : TG} {tb : TS} {pos : Pos}, PassesOwn (model (Cx.prog X) (Cx.w X)) (Cx.A X) (Cx.env X) (Cx.xe X) → Cx.calm X = Bool.true → S.PI X tg iter wi → S.PG X tg g → S.PSs X body tb → autoParam (∀ (x : Value), foldedSetIterable iter (Cx.env X) x = Pure.pure x) L2.ps_for._auto_1 → S.PS X (Stmt.For tg iter body [] pos) (tFor wi g tb) := by with_unfolding_all exact @L2.ps_for
theorem ps_expr : ∀ {X : Cx} {e : Expr} {te : TE} {pos : Pos}, S.PE X e te → autoParam (swapsWith e Option.none (Pos.line pos) (Cx.env X) = Pure.pure Bool.false) L2.ps_expr._auto_1 → S.PS X (Stmt.Expr e pos) (tDrop te) := by with_unfolding_all exact @L2.ps_expr
theorem ex_out {X : Cx} {b : List Stmt} {φ : TS → Prop} (h : ∃ t, PSs X b t ∧ φ t) : ∃ t, L2.PSs X b t ∧ φ t := by
  obtain ⟨t, h1, h2⟩ := h
  exact ⟨t, out h1, h2⟩
end L2.S
namespace Z
theorem abs_eq (i : Int) : (if i < 0 then -i else i) = ((i.natAbs : Nat) : Int) := by
  split <;> omega
def sg (q : Rat) : Int := if q = 0 then 0 else if 0 < q then 1 else -1
end Z
namespace Z
def co (p : List Int) (i : Nat) : Int := p.getD i 0
theorem co_nil (i : Nat) : co [] i = 0 := by simp [co]
theorem co_zero (a : Int) (r : List Int) : co (a :: r) 0 = a := by simp [co]
theorem co_succ (a : Int) (r : List Int) (i : Nat) : co (a :: r) (i + 1) = co r i := by simp [co]
theorem co_big {p : List Int} {i : Nat} (h : p.length ≤ i) : co p i = 0 := by simp [co, List.getD_eq_getElem?_getD, List.getElem?_eq_none h]
theorem co_get {p : List Int} {i : Nat} (h : i < p.length) : co p i = p[i] := by simp [co, List.getD_eq_getElem?_getD, List.getElem?_eq_getElem h]
def Tr (p : List Int) : Prop := p = [] ∨ ∃ h : p ≠ [], p.getLast h ≠ 0
theorem Tr.lead {p : List Int} (h : Tr p) (n : p ≠ []) : co p (p.length - 1) ≠ 0 := by
  rcases h with h | ⟨h, z⟩
  · exact absurd h n
  · have hl : 0 < p.length := List.length_pos_iff.mpr h
    rw [co_get (by omega)]
    rw [List.getLast_eq_getElem] at z
    exact z
theorem Tr.of {p : List Int} (h : p = [] ∨ co p (p.length - 1) ≠ 0) : Tr p := by
  by_cases n : p = []
  · exact .inl n
  · rcases h with h | h
    · exact .inl h
    · refine .inr ⟨n, ?_⟩
      have hl : 0 < p.length := List.length_pos_iff.mpr n
      rw [co_get (by omega)] at h
      rw [List.getLast_eq_getElem]
      exact h
theorem Tr.len {p q : List Int} (hp : Tr p) (e : ∀ i, co p i = co q i) : p.length ≤ q.length := by
  by_cases n : p = []
  · subst n; simp
  · by_cases h : p.length ≤ q.length
    · exact h
    · exfalso
      have z := hp.lead n
      rw [e, co_big (by omega)] at z
      exact z rfl
theorem Tr.ext {p q : List Int} (hp : Tr p) (hq : Tr q) (e : ∀ i, co p i = co q i) : p = q := by
  have l := Nat.le_antisymm (hp.len e) (hq.len fun i => (e i).symm)
  refine List.ext_getElem l fun i h1 h2 => ?_
  rw [← co_get h1, ← co_get h2, e]
def trim : List Int → List Int
  | [] => []
  | a :: r => match trim r with
    | [] => if a = 0 then [] else [a]
    | b :: t => a :: b :: t
theorem trim_cons (a : Int) (r : List Int) : trim (a :: r) = if trim r = [] ∧ a = 0 then [] else a :: trim r := by
  rw [trim]
  split
  · rename_i h
    rw [h]
    by_cases ha : a = 0 <;> simp [ha]
  · rename_i b t h
    rw [h]
    simp
theorem co_trim : ∀ (p : List Int) (i : Nat), co (trim p) i = co p i
  | [], i => rfl
  | a :: r, i => by
    rw [trim_cons]
    split
    · rename_i h
      rw [co_nil]
      cases i with
      | zero => rw [co_zero, h.2]
      | succ i => rw [co_succ, ← co_trim r i, h.1, co_nil]
    · cases i with
      | zero => rw [co_zero, co_zero]
      | succ i => rw [co_succ, co_succ, co_trim r i]
theorem trim_tr : ∀ p : List Int, Tr (trim p)
  | [] => .inl rfl
  | a :: r => by
    rw [trim_cons]
    split
    · exact .inl rfl
    · rename_i h
      refine .inr ⟨by simp, ?_⟩
      by_cases hr : trim r = []
      · simp only [hr, List.getLast_singleton]
        exact fun z => h ⟨hr, z⟩
      · rw [List.getLast_cons hr]
        rcases trim_tr r with z | ⟨_, z⟩
        · exact absurd z hr
        · exact z
theorem trim_of {p q : List Int} (hq : Tr q) (e : ∀ i, co q i = co p i) : trim p = q := (trim_tr p).ext hq fun i => by rw [co_trim, e]
theorem trim_id {p : List Int} (h : Tr p) : trim p = p := trim_of h fun _ => rfl
theorem co_take (p : List Int) (n i : Nat) : co (p.take n) i = if i < n then co p i else 0 := by
  unfold co
  rw [List.getD_eq_getElem?_getD, List.getD_eq_getElem?_getD, List.getElem?_take]
  split <;> rfl
theorem trim_take {p : List Int} {n : Nat} (h1 : ∀ i, n ≤ i → co p i = 0) (h2 : n = 0 ∨ co p (n - 1) ≠ 0) : trim p = p.take n := by
  refine trim_of ?_ fun i => ?_
  · rcases h2 with h | h
    · subst h; exact .inl (by simp)
    · have hn : n ≤ p.length := by
        by_cases z : n ≤ p.length
        · exact z
        · exact absurd (co_big (by omega)) h
      refine .of ?_
      by_cases n0 : n = 0
      · left; subst n0; simp
      · right
        rw [List.length_take, Nat.min_eq_left hn, co_take, if_pos (by omega)]
        exact h
  · rw [co_take]
    split
    · rfl
    · rw [h1 i (by omega)]
def sh (f : Nat → Int) : Nat → Int
  | 0 => 0
  | i + 1 => f i
def mu : List Int → (Nat → Int) → Nat → Int
  | [], _ => fun _ => 0
  | a :: p, f => fun i => a * f i + sh (mu p f) i
theorem sh_add (f g : Nat → Int) : sh (fun i => f i + g i) = fun i => sh f i + sh g i := by funext i; cases i <;> simp [sh]
theorem sh_mul (c : Int) (f : Nat → Int) : sh (fun i => c * f i) = fun i => c * sh f i := by funext i; cases i <;> simp [sh]
theorem sh_zero : sh (fun _ => 0) = fun _ => 0 := by funext i; cases i <;> rfl
theorem mu_add : ∀ (p : List Int) (f g : Nat → Int), mu p (fun i => f i + g i) = fun i => mu p f i + mu p g i
  | [], f, g => by funext i; simp [mu]
  | a :: p, f, g => by
    funext i
    simp only [mu]
    rw [mu_add p f g, sh_add]
    grind
theorem mu_mul : ∀ (p : List Int) (c : Int) (f : Nat → Int), mu p (fun i => c * f i) = fun i => c * mu p f i
  | [], c, f => by funext i; simp [mu]
  | a :: p, c, f => by
    funext i
    simp only [mu]
    rw [mu_mul p c f, sh_mul]
    grind
theorem mu_zero : ∀ (p : List Int), mu p (fun _ => 0) = fun _ => 0
  | [] => rfl
  | a :: p => by
    funext i
    simp only [mu]
    rw [mu_zero p, sh_zero]
    simp
theorem mu_sh : ∀ (p : List Int) (f : Nat → Int), mu p (sh f) = sh (mu p f)
  | [], f => by funext i; cases i <;> rfl
  | a :: p, f => by
    funext i
    simp only [mu]
    rw [mu_sh p f]
    cases i with
    | zero => simp [sh]
    | succ i => simp [sh]
theorem co_eta (a : Int) (r : List Int) : co (a :: r) = fun i => (if i = 0 then a else 0) + sh (co r) i := by
  funext i
  cases i with
  | zero => simp [co_zero, sh]
  | succ i => simp [co_succ, sh]
theorem mu_one : ∀ (p : List Int), mu p (fun i => if i = 0 then 1 else 0) = co p
  | [] => by funext i; simp [mu, co]
  | a :: p => by
    funext i
    simp only [mu]
    rw [mu_one p, co_eta]
    cases i <;> simp
theorem mu_co_cons (q : List Int) (a : Int) (p : List Int) : mu q (co (a :: p)) = fun i => a * co q i + sh (mu q (co p)) i := by
  rw [co_eta, mu_add, mu_sh]
  funext i
  congr 1
  have e : (fun i : Nat => if i = 0 then a else 0) = fun i => a * (if i = 0 then 1 else 0) := by funext i; cases i <;> simp
  rw [e, mu_mul, mu_one]
theorem mu_comm : ∀ p q : List Int, mu p (co q) = mu q (co p)
  | [], q => by
    have e : co [] = fun _ => 0 := by funext i; simp [co]
    rw [e, mu_zero]; rfl
  | a :: p, q => by rw [mu_co_cons, ← mu_comm p q]; rfl
def al : List Int → List Int → List Int
  | [], q => q
  | p, [] => p
  | a :: p, b :: q => (a + b) :: al p q
theorem al_co : ∀ (p q : List Int) (i : Nat), co (al p q) i = co p i + co q i
  | [], q, i => by simp [al, co]
  | a :: p, [], i => by simp [al, co]
  | a :: p, b :: q, 0 => by simp [al, co_zero]
  | a :: p, b :: q, i + 1 => by simp [al, co_succ, al_co p q i]
theorem co_scale (a : Int) (q : List Int) (i : Nat) : co (q.map (a * ·)) i = a * co q i := by
  unfold co
  rw [List.getD_eq_getElem?_getD, List.getD_eq_getElem?_getD, List.getElem?_map]
  cases q[i]? <;> simp
def ml : List Int → List Int → List Int
  | [], _ => []
  | a :: p, q => al (q.map (a * ·)) (0 :: ml p q)
theorem ml_co : ∀ (p q : List Int), co (ml p q) = mu p (co q)
  | [], q => by funext i; simp [ml, mu, co]
  | a :: p, q => by
    funext i
    simp only [ml, mu]
    rw [al_co, co_scale, ← ml_co p q]
    cases i with
    | zero => simp [co_zero, sh]
    | succ i => simp [co_succ, sh]
theorem co_snoc : ∀ (p : List Int) (e : Int) (i : Nat), co (p ++ [e]) i = if i = p.length then e else co p i
  | [], e, 0 => by simp [co]
  | [], e, i + 1 => by simp [co]
  | a :: p, e, 0 => by simp [co_zero]
  | a :: p, e, i + 1 => by
    rw [List.cons_append, co_succ, co_succ, co_snoc p e i, List.length_cons]
    by_cases h : i = p.length <;> simp [h]
theorem co_set (p : List Int) (j : Nat) (x : Int) (h : j < p.length) (i : Nat) : co (p.set j x) i = if i = j then x else co p i := by
  unfold co
  rw [List.getD_eq_getElem?_getD, List.getD_eq_getElem?_getD, List.getElem?_set]
  by_cases e : j = i
  · subst e
    simp [h]
  · rw [if_neg e, if_neg (Ne.symm e)]
theorem trim_congr {p q : List Int} (h : ∀ i, co p i = co q i) : trim p = trim q := trim_of (trim_tr q) fun i => by rw [co_trim, h]
theorem mu_snoc (f : Nat → Int) : ∀ (p : List Int) (e : Int) (i : Nat), mu (p ++ [e]) f i = mu p f i + (if p.length ≤ i then e * f (i - p.length) else 0)
  | [], e, i => by simp [mu, sh_zero]
  | a :: p, e, 0 => by simp [mu, sh]
  | a :: p, e, i + 1 => by
    simp only [List.cons_append, mu, sh, List.length_cons]
    rw [mu_snoc f p e i]
    by_cases h : p.length ≤ i
    · rw [if_pos h, if_pos (by omega), show i + 1 - (p.length + 1) = i - p.length by omega]
      omega
    · rw [if_neg h, if_neg (by omega)]
      omega
theorem mu_big : ∀ (p q : List Int) (i : Nat), p ≠ [] → p.length + q.length ≤ i + 1 → mu p (co q) i = 0
  | [], q, i, h, _ => absurd rfl h
  | [a], q, i, _, hl => by
    simp only [List.length_cons, List.length_nil] at hl
    simp only [mu]
    rw [co_big (by omega), sh_zero]
    simp
  | a :: b :: p, q, 0, _, hl => by
    simp only [List.length_cons] at hl
    omega
  | a :: b :: p, q, i + 1, _, hl => by
    simp only [List.length_cons] at hl
    show a * co q (i + 1) + mu (b :: p) (co q) i = 0
    rw [co_big (p := q) (by omega)]
    rw [mu_big (b :: p) q i (by simp) (by simp only [List.length_cons]; omega)]
    simp
theorem mu_lead : ∀ (p q : List Int) (i : Nat), p ≠ [] → q ≠ [] → i + 2 = p.length + q.length → mu p (co q) i = co p (p.length - 1) * co q (q.length - 1)
  | [], q, i, h, _, _ => absurd rfl h
  | [a], q, i, _, hq, hl => by
    simp only [List.length_cons, List.length_nil] at hl
    simp only [mu]
    rw [sh_zero]
    have e : i = q.length - 1 := by omega
    subst e
    simp [co_zero]
  | a :: b :: p, q, 0, _, hq, hl => by
    have := List.length_pos_iff.mpr hq
    simp only [List.length_cons] at hl
    omega
  | a :: b :: p, q, i + 1, _, hq, hl => by
    simp only [List.length_cons] at hl
    show a * co q (i + 1) + mu (b :: p) (co q) i = _
    rw [co_big (p := q) (by omega)]
    rw [mu_lead (b :: p) q i (by simp) hq (by simp only [List.length_cons]; omega)]
    simp [co_succ]
def tm (p q : List Int) : List Int := trim (ml p q)
def ta (p q : List Int) : List Int := trim (al p q)
theorem tm_co (p q : List Int) (i : Nat) : co (tm p q) i = mu p (co q) i := by rw [tm, co_trim, ml_co]
theorem ta_co (p q : List Int) (i : Nat) : co (ta p q) i = co p i + co q i := by rw [ta, co_trim, al_co]
theorem tm_tr (p q : List Int) : Tr (tm p q) := trim_tr _
theorem ta_tr (p q : List Int) : Tr (ta p q) := trim_tr _
theorem tm_comm (p q : List Int) : tm p q = tm q p := (tm_tr _ _).ext (tm_tr _ _) fun i => by rw [tm_co, tm_co, mu_comm]
theorem ta_comm (p q : List Int) : ta p q = ta q p := (ta_tr _ _).ext (ta_tr _ _) fun i => by rw [ta_co, ta_co, Int.add_comm]
theorem tm_nil (p : List Int) : tm p [] = [] := (tm_tr _ _).ext (.inl rfl) fun i => by
  rw [tm_co, show co [] = fun _ => 0 from by funext i; simp [co], mu_zero]
def ng (p : List Int) (c : Int) : List Int := trim (p.map (· * c))
theorem ng_co (p : List Int) (c : Int) (i : Nat) : co (ng p c) i = co p i * c := by
  rw [ng, co_trim]
  unfold co
  rw [List.getD_eq_getElem?_getD, List.getD_eq_getElem?_getD, List.getElem?_map]
  cases p[i]? <;> simp
theorem tm_len {p q : List Int} (hp : Tr p) (hq : Tr q) (h1 : p ≠ []) (h2 : q ≠ []) : (tm p q).length + 1 = p.length + q.length := by
  have l1 := List.length_pos_iff.mpr h1
  have l2 := List.length_pos_iff.mpr h2
  have lead : co (tm p q) (p.length + q.length - 2) ≠ 0 := by
    rw [tm_co, mu_lead p q _ h1 h2 (by omega)]
    exact Int.mul_ne_zero (hp.lead h1) (hq.lead h2)
  have a : p.length + q.length - 2 < (tm p q).length := by
    by_cases h : p.length + q.length - 2 < (tm p q).length
    · exact h
    · exact absurd (co_big (by omega)) lead
  have b : (tm p q).length ≤ p.length + q.length - 1 := by
    by_cases h : (tm p q).length ≤ p.length + q.length - 1
    · exact h
    · exfalso
      have hn : tm p q ≠ [] := fun z => by rw [z] at h; simp at h
      have := (tm_tr p q).lead hn
      rw [tm_co, mu_big p q _ h1 (by omega)] at this
      exact this rfl
  omega
theorem ta_len (p q : List Int) : (ta p q).length ≤ max p.length q.length := by
  by_cases hn : ta p q = []
  · rw [hn]; simp
  by_cases h : (ta p q).length ≤ max p.length q.length
  · exact h
  · exfalso
    have := (ta_tr p q).lead hn
    rw [ta_co, co_big (by omega), co_big (by omega)] at this
    exact this rfl
end Z
namespace Z
open PySem L2
local macro_rules | `(tactic| contradiction) => `(tactic| simp only [z_seq, z_next, z_ifS, z_ret, z_drop, z_asg, z_gname, z_par, z_var0, z_varS, z_c, z_op, z_un, z_rI, z_rI0, z_rU, z_eqI, z_neI, z_eqB, z_neB, z_test, z_tB, z_exb, z_exi, z_ex2, z_exl1, z_exl2, z_not, z_and, z_or, z_andV, z_orV, z_notV, z_if, z_call, z_nil, z_cons, z_cb, z_tup, z_lst, z_chain, z_comp, z_rng1, z_rng2, z_ilist, z_itup, z_exr, z_kp1, z_kp2, z_for, z_sl, z_nopart, z_part, z_bm0, z_bm, z_cxK, z_noxK, z_rev, z_ien, z_ienL, z_irv, z_gsub, z_exlr, z_intB, z_raise, z_try, z_tryAs, z_tryC, z_tryN, z_down, z_exd, z_revL, z_iany, z_izip, z_dnew, z_cv, cpσ, List.getElem?_cons_zero, List.getElem?_cons_succ, Option.join_some, List.set_cons_zero, List.set_cons_succ, List.append_nil, decide_eq_true_eq, Bool.not_eq_true', decide_eq_false_iff_not, Bool.not_not, ite_not, Bool.false_eq_true, Bool.true_eq_false, if_false, if_true, if_pos, List.length_cons, List.length_nil, Nat.zero_add, Nat.reduceAdd, small1, small2, true_and, and_true, L2.start, List.map_cons, List.map_nil, Bool.not_true, Bool.not_false, Nat.reduceSub, List.replicate_succ, List.replicate_zero, List.cons_append, List.nil_append])
def top (i : Nat) : Stmt := PySem.Challenge.pw_rootcourt_k50_sums_by_a_number.main.body.getD i (.Pass ⟨0, 0, 0, 0⟩)
abbrev s_poly : Stmt := top 6
theorem sc_poly : FnScope ["weights", "length"] ["weights"] (defScope s_poly) := ⟨rfl, rfl, rfl, by decide +kernel, rfl, by decide +kernel, by decide +kernel⟩
abbrev s_p_plus : Stmt := top 7
theorem sc_p_plus : FnScope ["one", "other", "weights", "place", "weight"] ["one", "other"] (defScope s_p_plus) := ⟨rfl, rfl, rfl, by decide +kernel, rfl, by decide +kernel, by decide +kernel⟩
abbrev s_p_minus : Stmt := top 8
theorem sc_p_minus : FnScope ["one", "other"] ["one", "other"] (defScope s_p_minus) := ⟨rfl, rfl, rfl, by decide +kernel, rfl, by decide +kernel, by decide +kernel⟩
abbrev s_p_times : Stmt := top 9
theorem sc_p_times : FnScope ["one", "other", "weights", "place", "weight", "further", "factor"] ["one", "other"] (defScope s_p_times) := ⟨rfl, rfl, rfl, by decide +kernel, rfl, by decide +kernel, by decide +kernel⟩
abbrev s_scaled : Stmt := top 10
theorem sc_scaled : FnScope ["one", "factor"] ["one", "factor"] (defScope s_scaled) := ⟨rfl, rfl, rfl, by decide +kernel, rfl, by decide +kernel, by decide +kernel⟩
abbrev s_by_number : Stmt := top 12
theorem sc_by_number : FnScope ["one", "m"] ["one", "m"] (defScope s_by_number) := ⟨rfl, rfl, rfl, by decide +kernel, rfl, by decide +kernel, by decide +kernel⟩
abbrev s_m_plus : Stmt := top 13
theorem sc_m_plus : FnScope ["one", "other", "m"] ["one", "other", "m"] (defScope s_m_plus) := ⟨rfl, rfl, rfl, by decide +kernel, rfl, by decide +kernel, by decide +kernel⟩
abbrev s_m_minus : Stmt := top 14
theorem sc_m_minus : FnScope ["one", "other", "m"] ["one", "other", "m"] (defScope s_m_minus) := ⟨rfl, rfl, rfl, by decide +kernel, rfl, by decide +kernel, by decide +kernel⟩
abbrev s_m_times : Stmt := top 15
theorem sc_m_times : FnScope ["one", "other", "m"] ["one", "other", "m"] (defScope s_m_times) := ⟨rfl, rfl, rfl, by decide +kernel, rfl, by decide +kernel, by decide +kernel⟩
abbrev s_inverse_by : Stmt := top 16
theorem sc_inverse_by : FnScope ["number", "m", "greater", "lesser", "ahead", "here", "many"] ["number", "m"] (defScope s_inverse_by) := ⟨rfl, rfl, rfl, by decide +kernel, rfl, by decide +kernel, by decide +kernel⟩
abbrev s_q_mixed : Stmt := top 18
theorem sc_q_mixed : FnScope ["_law_cell", "_law_k", "_law_figure"] ["_law_cell", "_law_k"] (defScope s_q_mixed) := ⟨rfl, rfl, rfl, by decide +kernel, rfl, by decide +kernel, by decide +kernel⟩
abbrev s_q_parts : Stmt := top 19
theorem sc_q_parts : FnScope ["_law_cell", "_law_bases", "_law_found", "_law_rest", "_law_k", "_law_base"] ["_law_cell", "_law_bases"] (defScope s_q_parts) := ⟨rfl, rfl, rfl, by decide +kernel, rfl, by decide +kernel, by decide +kernel⟩
abbrev s_q_weights : Stmt := top 20
theorem sc_q_weights : FnScope ["_law_parts_here", "_law_m", "_law_many"] ["_law_parts_here", "_law_m"] (defScope s_q_weights) := ⟨rfl, rfl, rfl, by decide +kernel, rfl, by decide +kernel, by decide +kernel⟩
abbrev s_q_poly : Stmt := top 21
theorem sc_q_poly : FnScope ["_law_weights_here", "_law_many"] ["_law_weights_here"] (defScope s_q_poly) := ⟨rfl, rfl, rfl, by decide +kernel, rfl, by decide +kernel, by decide +kernel⟩
abbrev s_q_remainders : Stmt := top 22
theorem sc_q_remainders : FnScope ["_law_weights_here", "_law_m"] ["_law_weights_here", "_law_m"] (defScope s_q_remainders) := ⟨rfl, rfl, rfl, by decide +kernel, rfl, by decide +kernel, by decide +kernel⟩
abbrev s_q_sum : Stmt := top 23
theorem sc_q_sum : FnScope ["_law_one", "_law_other", "_law_way", "_law_many", "_law_first", "_law_second"] ["_law_one", "_law_other", "_law_way"] (defScope s_q_sum) := ⟨rfl, rfl, rfl, by decide +kernel, rfl, by decide +kernel, by decide +kernel⟩
abbrev s_q_product : Stmt := top 24
theorem sc_q_product : FnScope ["_law_one", "_law_other", "_law_found", "_law_k", "_law_j"] ["_law_one", "_law_other"] (defScope s_q_product) := ⟨rfl, rfl, rfl, by decide +kernel, rfl, by decide +kernel, by decide +kernel⟩
abbrev s_q_divides_both : Stmt := top 25
theorem sc_q_divides_both : FnScope ["_law_one", "_law_other"] ["_law_one", "_law_other"] (defScope s_q_divides_both) := ⟨rfl, rfl, rfl, by decide +kernel, rfl, by decide +kernel, by decide +kernel⟩
abbrev s_q_inverse_right : Stmt := top 26
theorem sc_q_inverse_right : FnScope ["_law_figure", "_law_m", "_law_found", "_law_word", "e"] ["_law_figure", "_law_m"] (defScope s_q_inverse_right) := ⟨rfl, rfl, rfl, by decide +kernel, rfl, by decide +kernel, by decide +kernel⟩
abbrev s_q_right : Stmt := top 27
theorem sc_q_right : FnScope ["_law_one", "_law_other", "_law_m", "_law_due", "_law_found"] ["_law_one", "_law_other", "_law_m"] (defScope s_q_right) := ⟨rfl, rfl, rfl, by decide +kernel, rfl, by decide +kernel, by decide +kernel⟩
abbrev s_law : Stmt := top 28
theorem sc_law : FnScope ["_law_script", "_law_far", "_law_cell", "_law_parts_here", "_law_m", "_law_first", "_law_second", "_law_one", "_law_other", "_law_here", "_law_weight"] ["_law_script"] (defScope s_law) := ⟨rfl, rfl, rfl, by decide +kernel, rfl, by decide +kernel, by decide +kernel⟩
section
variable {P : Program} {w : World} {K : PySem.W.Frag} {mg : Str → Option Value} {base : Heap}
theorem kitT {T U : String} {b : Bool} (h : (if (Value.type T == Value.type U) = true then some true else if PySem.W.kitMeta U = true then PySem.W.subIn [] (.type T) (.type U) else none) = some b) : PySem.W.kitOne K (.type T) (.type U) = some b := h
theorem kit_ii : PySem.W.kitOne K (.type "int") (.type "int") = some true := kitT (by decide +kernel)
theorem kit_ib : PySem.W.kitOne K (.type "int") (.type "bool") = some false := kitT (by decide +kernel)
theorem isi {H : Hp} {GB : Bool → Prop} {v : V} {t : Value} {T : String} {b : Bool} (ht : TyOf K H v t) (hk : PySem.W.kitOne K t (.type T) = some b) (q : GB b) :
    ∃ x t' T' b', [v, V.ty T] = [x, V.ty T'] ∧ TyOf K H x t' ∧ PySem.W.kitOne K t' (.type T') = some b' ∧ GB b' := ⟨v, t, T, b, rfl, ht, hk, q⟩
theorem trim_len (p : List Int) : (trim p).length ≤ p.length := (trim_tr p).len fun i => co_trim p i
def Po (K : PySem.W.Frag) (H : Hp) (v : V) (p : List Int) (l n : Nat) : Prop := (∃ a, v = .ref a ∧ SqT K H a (p.map V.int)) ∧ Tr p ∧ p.length ≤ l ∧ ∀ i, Sz n (co p i)
theorem Po.mono {K : PySem.W.Frag} {H H' : Hp} {v : V} {p : List Int} {l n : Nat} (h : Po K H v p l n) (s : Same H H') : Po K H' v p l n := by
  obtain ⟨⟨a, e, t⟩, r⟩ := h
  exact ⟨⟨a, e, s.tup t⟩, r⟩
theorem Sz0 {n : Nat} (h : 0 < n) : Sz n 0 := Nat.pow_pos (by decide)
theorem co_sz {p : List Int} {n : Nat} (h0 : 0 < n) (h : ∀ x ∈ p, Sz n x) (i : Nat) : Sz n (co p i) := by
  by_cases hi : i < p.length
  · rw [co_get hi]
    exact h _ (List.getElem_mem hi)
  · rw [co_big (by omega)]
    exact Sz0 h0
def sp_poly (K : PySem.W.Frag) : Sp := fun vs H Q _ => ∃ (a : Addr) (ns : List Int), vs = [.ref a] ∧ SqL K H a (ns.map V.int) ∧ ns.length ≤ 1000 ∧ ∀ z H', Same H H' → SqT K H' z ((trim ns).map V.int) → Q (.ref z) H'
theorem ok_poly {f : Addr} {fd : FuncData} (F : Df K mg "poly" s_poly ["weights"] f fd) (z_len : mg "len" = none) (z_tuple : mg "tuple" = none)   : Cal P w K mg base 1 "poly" ["weights"] (sp_poly K) := by
  refine F.cal (F.fn.ok sc_poly (fun vs H Q E h => ?_) (fun cdv A outer s H vs Q E hr h => ?_))
  · obtain ⟨a, ns, rfl, _⟩ := h
    rfl
  obtain ⟨a, ns, rfl, hS, hl, q⟩ := h
  refine S.ex_out ⟨_, (S.pss_cons (S.ps_set (i := 1) sc_poly.nd rfl (Or.inl rfl) (S.pe_cB call_len_seq rfl z_len PySem.boot_len (S.pa_cns (S.pv 0) S.pa_nil)))
      (S.pss_cons (S.ps_while PassesOwn.never (S.PW_pt (S.pw_and (S.pt_cmpR op_gt (S.pv 1) S.pe_int (nomark _)) (S.pw_and1 (S.pt_cmpR op_eq (S.pe_ix ix_list (S.pv 0) (S.pe_op op_sub (S.pv 1) S.pe_int) (fun _ _ => rfl)) S.pe_int (nomark _))))) (S.pss_one (S.ps_set (i := 1) sc_poly.nd rfl (Or.inl rfl) (S.pe_op op_sub (S.pv 1) S.pe_int))))
      (S.pss_one (S.ps_ret (S.pe_cTy call_tuple_of rfl z_tuple PyProof.Rows.boot_tuple (S.pa_cns (S.pe_slice sl_list (S.pv 0) S.po_none (S.po_some (S.pv 1))) S.pa_nil)))))), ?_⟩
  contradiction
  refine ⟨a, _, rfl, .inl hS, ?_⟩
  rw [List.length_map]
  refine while_go (fun σ H' => H' = H ∧ ∃ n : Nat, σ = [some (.ref a), some (.int n)] ∧ n ≤ ns.length ∧ ∀ i, n ≤ i → co ns i = 0) (fun σ _ => match σ with | [_, some (.int n)] => n.toNat | _ => 0)
    ⟨rfl, _, rfl, Nat.le_refl _, fun i h => co_big h⟩ ?_
  rintro σ H' ⟨rfl, n, rfl, hn, hz⟩
  have fin : (n = 0 ∨ co ns (n - 1) ≠ 0) → rSlL K (V.ref a) none (some (n : Int)) H' (fun x H1 => ∃ p ys, [x] = [V.ref p] ∧ ((SqL K H1 p ys ∧ ∀ (l : Addr), H1 l = none → Q (V.ref l) (upd H1 l (HO.tup ys))) ∨ SqT K H1 p ys ∧ Q (V.ref p) H1)) := fun h => by
    refine ⟨a, _, rfl, hS, fun p hp => ⟨p, _, rfl, .inl ⟨.of upd_same, fun z hz' => q z _ ((Same.upd hp _).trans (Same.upd hz' _)) ?_⟩⟩⟩
    have e : cutV (ns.map V.int) none (some (n : Int)) = (trim ns).map V.int := by
      rw [trim_take hz h]
      unfold cutV
      rw [HT.sIx_none, HT.sIx_nat, List.drop_zero, Nat.sub_zero, List.length_map, Nat.min_eq_left hn, List.map_take]
    rw [e]
    exact .of upd_same
  contradiction
  by_cases h0 : (0 : Int) < n
  · rw [if_pos h0]
    refine z_ixL hS (v := .int (co ns (n - 1))) ?_ ?_
    · have e := atI_nat (xs := ns.map V.int) (j := n - 1) (v := .int (co ns (n - 1))) (by rw [List.getElem?_map, List.getElem?_eq_getElem (by omega), co_get (by omega)]; rfl)
      rw [show ((n - 1 : Nat) : Int) = (n : Int) - 1 by omega] at e
      exact e
    contradiction
    by_cases hc : co ns (n - 1) = 0
    · rw [if_pos hc]
      refine wb_of ?_
      contradiction
      refine ⟨⟨n - 1, by rw [show ((n - 1 : Nat) : Int) = (n : Int) - 1 by omega], by omega, fun i hi => ?_⟩, by omega⟩
      by_cases hi' : i = n - 1
      · rw [hi', hc]
      · exact hz i (by omega)
    · rw [if_neg hc]
      exact fin (.inr hc)
  · rw [if_neg h0]
    exact fin (.inl (by omega))
--SPLIT
theorem u_poly {H : Hp} {Q : VK} {E : XK} {a : Addr} {ns : List Int} (h0 : SqL K H a (ns.map V.int)) (hl : ns.length ≤ 1000) (h : ∀ z H', Same H H' → SqT K H' z ((trim ns).map V.int) → Q (.ref z) H') : sp_poly K [.ref a] H Q E := ⟨a, ns, rfl, by first | exact h0 | exact .inl h0, hl, h⟩
def spPP (K : PySem.W.Frag) (c : List Int → List Int → Prop) : Sp := fun vs H Q _ => ∃ (x y : V) (p q : List Int) (l l' n n' : Nat), vs = [x, y] ∧ Po K H x p l n ∧ Po K H y q l' n' ∧ l ≤ 500 ∧ l' ≤ 500 ∧ c p q ∧ ∀ z H', Same H H' → Po K H' z (ta p q) (max l l') (max n n' + 1) → Q z H'
def sp_p_plus0 (K : PySem.W.Frag) : Sp := spPP K fun p q => q.length ≤ p.length
def sp_p_plus (K : PySem.W.Frag) : Sp := spPP K fun _ _ => True
theorem ok_p_plus0 {f : Addr} {fd : FuncData} (F : Df K mg "p_plus" s_p_plus ["one", "other"] f fd) (z_list : mg "list" = none) (z_enumerate : mg "enumerate" = none) (z_len : mg "len" = none)  (c_poly : Cal P w K mg base 1 "poly" ["weights"] (sp_poly K)) : Cal P w K mg base 2 "p_plus" ["one", "other"] (sp_p_plus0 K) := by
  refine F.cal (F.fn.ok sc_p_plus (fun vs H Q E h => ?_) (fun cdv A outer s H vs Q E hr h => ?_))
  · obtain ⟨x, y, p, q, _, _, _, _, rfl, _⟩ := h
    rfl
  obtain ⟨x, y, p, q, l, l', n, n', rfl, ⟨⟨a, rfl, ha⟩, tp, lp, zp⟩, ⟨⟨b, rfl, hb⟩, tq, lq, zq⟩, l5, l5', hc, k⟩ := h
  refine S.ex_out ⟨_, (S.pss_cons (S.ps_if (S.pt_cmpR op_lt (S.pe_cB call_len_seq rfl z_len PySem.boot_len (S.pa_cns (S.pv 0) S.pa_nil)) (S.pe_cB call_len_seq rfl z_len PySem.boot_len (S.pa_cns (S.pv 1) S.pa_nil)) (nomark _)) (S.pss_one S.ps_never) S.pss_nil)
      (S.pss_cons (S.ps_set (i := 2) sc_p_plus.nd rfl (Or.inl rfl) (S.pe_cTy call_list_of rfl z_list PyProof.Rows.boot_list (S.pa_cns (S.pv 0) S.pa_nil)))
      (S.pss_cons (S.ps_for PassesOwn.never rfl (S.pi_en rfl z_enumerate (S.pa_cns (S.pv 1) S.pa_nil)) (S.pg_tup rfl (S.pgs_cons (S.pg_name (i := 3) sc_p_plus.nd rfl (Or.inl rfl)) (S.pgs_cons (S.pg_name (i := 4) sc_p_plus.nd rfl (Or.inl rfl)) S.pgs_nil))) (S.pss_one (S.ps_asg (S.pe_op op_add (S.pe_ix ix_list (S.pv 2) (S.pv 3) (fun _ _ => rfl)) (S.pv 4)) (S.pg_sub (S.pv 2) (S.pv 3) set_list))))
      (S.pss_one (S.ps_ret (S.pe_cD c_poly (hr.mono (by decide)) (S.pa_cns (S.pv 2) S.pa_nil))))))), ?_⟩
  contradiction
  refine ⟨a, _, rfl, .inr ha, b, _, rfl, .inr hb, ?_⟩
  simp only [z_seq, z_next, z_ifS, z_ret, z_drop, z_asg, z_gname, z_par, z_var0, z_varS, z_c, z_op, z_un, z_rI, z_rI0, z_rU, z_eqI, z_neI, z_eqB, z_neB, z_test, z_tB, z_exb, z_exi, z_ex2, z_exl1, z_exl2, z_not, z_and, z_or, z_andV, z_orV, z_notV, z_if, z_call, z_nil, z_cons, z_cb, z_tup, z_lst, z_chain, z_comp, z_rng1, z_rng2, z_ilist, z_itup, z_exr, z_kp1, z_kp2, z_for, z_sl, z_nopart, z_part, z_bm0, z_bm, z_cxK, z_noxK, z_rev, z_ien, z_ienL, z_irv, z_gsub, z_exlr, z_intB, z_raise, z_try, z_tryAs, z_tryC, z_tryN, z_down, z_exd, z_revL, z_iany, z_izip, z_dnew, z_cv, cpσ, List.getElem?_cons_zero, List.getElem?_cons_succ, Option.join_some, List.set_cons_zero, List.set_cons_succ, List.append_nil, decide_eq_true_eq, Bool.not_eq_true', decide_eq_false_iff_not, Bool.not_not, ite_not, Bool.false_eq_true, Bool.true_eq_false, if_false, if_true, if_pos, List.length_cons, List.length_nil, Nat.zero_add, Nat.reduceAdd, small1, small2, true_and, and_true, L2.start, List.map_cons, List.map_nil, Bool.not_true, Bool.not_false, Nat.reduceSub, List.replicate_succ, List.replicate_zero, List.cons_append, List.nil_append, List.length_map]
  have hc' : ¬ ((p.length : Nat) : Int) < (q.length : Nat) := by omega
  rw [if_neg hc']
  refine ⟨a, _, rfl, .inr ha, fun l0 hn => ?_⟩
  have s0 := Same.upd hn (.lst (p.map V.int))
  try contradiction
  refine ⟨⟨_, s0.tup hb⟩, fi_en (es := q) (inj := V.int) (fun pre σ H' => ∃ (o1 o2 : Option V) (ms : List Int), σ = [some (.ref a), some (.ref b), some (.ref l0), o1, o2] ∧ Same H H' ∧ H' l0 = some (.lst (ms.map V.int)) ∧ ms.length = p.length ∧ ∀ i, co ms i = co p i + co pre i)
    ⟨_, _, p, rfl, s0, upd_same, rfl, fun i => by rw [co_nil, Int.add_zero]⟩ ?_ ?_ ?_⟩
  · rintro pre σ H' ⟨o1, o2, ms, rfl, s1, _⟩
    exact s1.tup hb
  · rintro pre e post σ H' p1 he ⟨o1, o2, ms, rfl, s1, hm, hlm, hco⟩ hp1
    refine g_pair (.of upd_same) ?_
    have hlen := congrArg List.length he
    rw [List.length_append, List.length_cons] at hlen
    have hj : pre.length < ms.length := by omega
    have s2 := Same.upd hp1 (.tup [V.int (pre.length : Nat), V.int e])
    have hm2 := s2 _ _ hm
    try contradiction
    refine z_ixLn (.of hm2) (get_mapI hj) ?_
    try contradiction
    refine g_set hm2 (by rw [List.length_map]; exact hj) ?_
    try contradiction
    rw [set_mapI]
    refine ⟨_, _, ms.set pre.length (ms[pre.length] + e), rfl, ?_, upd_same, by rw [List.length_set]; exact hlm, fun i => ?_⟩
    · intro c o hc
      rw [upd_ne (ne_of_none hc hn)]
      exact s2 _ _ (s1 _ _ hc)
    · rw [co_set _ _ _ hj, co_snoc, hco i]
      by_cases hi : i = pre.length
      · subst hi
        rw [if_pos rfl, if_pos rfl, ← co_get hj, hco, co_big (p := pre) (Nat.le_refl _)]
        omega
      · rw [if_neg hi, if_neg hi]
  · rintro σ H' ⟨o1, o2, ms, rfl, s1, hm, hlm, hco⟩
    try contradiction
    refine u_poly (.of hm) (by omega) fun z H2 s2 hz => k _ _ (s1.trans s2) ⟨⟨z, rfl, ?_⟩, ta_tr _ _, ?_, fun i => ?_⟩
    · have e : trim ms = ta p q := trim_congr fun i => by rw [hco, al_co]
      rw [← e]
      exact hz
    · have := ta_len p q
      omega
    · rw [ta_co]
      exact (zp i).add (zq i)
theorem ok_p_plus {f : Addr} {fd : FuncData} (F : Df K mg "p_plus" s_p_plus ["one", "other"] f fd) (z_list : mg "list" = none) (z_enumerate : mg "enumerate" = none) (z_len : mg "len" = none)  (c_poly : Cal P w K mg base 1 "poly" ["weights"] (sp_poly K)) : Cal P w K mg base 3 "p_plus" ["one", "other"] (sp_p_plus K) := by
  have c_p_plus := ok_p_plus0 F (z_len := z_len) (z_list := z_list) (z_enumerate := z_enumerate) (c_poly := c_poly)
  refine F.cal (F.fn.ok sc_p_plus (fun vs H Q E h => ?_) (fun cdv A outer s H vs Q E hr h => ?_))
  · obtain ⟨x, y, p, q, _, _, _, _, rfl, _⟩ := h
    rfl
  obtain ⟨x, y, p, q, l, l', n, n', rfl, ⟨⟨a, rfl, ha⟩, tp, lp, zp⟩, ⟨⟨b, rfl, hb⟩, tq, lq, zq⟩, l5, l5', hc, k⟩ := h
  refine S.ex_out ⟨_, (S.pss_cons (S.ps_if (S.pt_cmpR op_lt (S.pe_cB call_len_seq rfl z_len PySem.boot_len (S.pa_cns (S.pv 0) S.pa_nil)) (S.pe_cB call_len_seq rfl z_len PySem.boot_len (S.pa_cns (S.pv 1) S.pa_nil)) (nomark _)) (S.pss_one (S.ps_ret (S.pe_cD c_p_plus (hr.mono (by decide)) (S.pa_cns (S.pv 1) (S.pa_cns (S.pv 0) S.pa_nil))))) S.pss_nil)
      (S.pss_cons (S.ps_set (i := 2) sc_p_plus.nd rfl (Or.inl rfl) (S.pe_cTy call_list_of rfl z_list PyProof.Rows.boot_list (S.pa_cns (S.pv 0) S.pa_nil)))
      (S.pss_cons (S.ps_for PassesOwn.never rfl (S.pi_en rfl z_enumerate (S.pa_cns (S.pv 1) S.pa_nil)) (S.pg_tup rfl (S.pgs_cons (S.pg_name (i := 3) sc_p_plus.nd rfl (Or.inl rfl)) (S.pgs_cons (S.pg_name (i := 4) sc_p_plus.nd rfl (Or.inl rfl)) S.pgs_nil))) (S.pss_one (S.ps_asg (S.pe_op op_add (S.pe_ix ix_list (S.pv 2) (S.pv 3) (fun _ _ => rfl)) (S.pv 4)) (S.pg_sub (S.pv 2) (S.pv 3) set_list))))
      (S.pss_one (S.ps_ret (S.pe_cD c_poly (hr.mono (by decide)) (S.pa_cns (S.pv 2) S.pa_nil))))))), ?_⟩
  contradiction
  refine ⟨a, _, rfl, .inr ha, b, _, rfl, .inr hb, ?_⟩
  simp only [z_seq, z_next, z_ifS, z_ret, z_drop, z_asg, z_gname, z_par, z_var0, z_varS, z_c, z_op, z_un, z_rI, z_rI0, z_rU, z_eqI, z_neI, z_eqB, z_neB, z_test, z_tB, z_exb, z_exi, z_ex2, z_exl1, z_exl2, z_not, z_and, z_or, z_andV, z_orV, z_notV, z_if, z_call, z_nil, z_cons, z_cb, z_tup, z_lst, z_chain, z_comp, z_rng1, z_rng2, z_ilist, z_itup, z_exr, z_kp1, z_kp2, z_for, z_sl, z_nopart, z_part, z_bm0, z_bm, z_cxK, z_noxK, z_rev, z_ien, z_ienL, z_irv, z_gsub, z_exlr, z_intB, z_raise, z_try, z_tryAs, z_tryC, z_tryN, z_down, z_exd, z_revL, z_iany, z_izip, z_dnew, z_cv, cpσ, List.getElem?_cons_zero, List.getElem?_cons_succ, Option.join_some, List.set_cons_zero, List.set_cons_succ, List.append_nil, decide_eq_true_eq, Bool.not_eq_true', decide_eq_false_iff_not, Bool.not_not, ite_not, Bool.false_eq_true, Bool.true_eq_false, if_false, if_true, if_pos, List.length_cons, List.length_nil, Nat.zero_add, Nat.reduceAdd, small1, small2, true_and, and_true, L2.start, List.map_cons, List.map_nil, Bool.not_true, Bool.not_false, Nat.reduceSub, List.replicate_succ, List.replicate_zero, List.cons_append, List.nil_append, List.length_map]
  by_cases hc' : ((p.length : Nat) : Int) < (q.length : Nat)
  · rw [if_pos hc']
    refine ⟨_, _, q, p, l', l, n', n, rfl, ⟨⟨b, rfl, hb⟩, tq, lq, zq⟩, ⟨⟨a, rfl, ha⟩, tp, lp, zp⟩, l5', l5, by omega, fun z H' s i => k z H' s ?_⟩
    rw [ta_comm p q, Nat.max_comm l l', Nat.max_comm n n']
    exact i
  rw [if_neg hc']
  refine ⟨a, _, rfl, .inr ha, fun l0 hn => ?_⟩
  have s0 := Same.upd hn (.lst (p.map V.int))
  try contradiction
  refine ⟨⟨_, s0.tup hb⟩, fi_en (es := q) (inj := V.int) (fun pre σ H' => ∃ (o1 o2 : Option V) (ms : List Int), σ = [some (.ref a), some (.ref b), some (.ref l0), o1, o2] ∧ Same H H' ∧ H' l0 = some (.lst (ms.map V.int)) ∧ ms.length = p.length ∧ ∀ i, co ms i = co p i + co pre i)
    ⟨_, _, p, rfl, s0, upd_same, rfl, fun i => by rw [co_nil, Int.add_zero]⟩ ?_ ?_ ?_⟩
  · rintro pre σ H' ⟨o1, o2, ms, rfl, s1, _⟩
    exact s1.tup hb
  · rintro pre e post σ H' p1 he ⟨o1, o2, ms, rfl, s1, hm, hlm, hco⟩ hp1
    refine g_pair (.of upd_same) ?_
    have hlen := congrArg List.length he
    rw [List.length_append, List.length_cons] at hlen
    have hj : pre.length < ms.length := by omega
    have s2 := Same.upd hp1 (.tup [V.int (pre.length : Nat), V.int e])
    have hm2 := s2 _ _ hm
    try contradiction
    refine z_ixLn (.of hm2) (get_mapI hj) ?_
    try contradiction
    refine g_set hm2 (by rw [List.length_map]; exact hj) ?_
    try contradiction
    rw [set_mapI]
    refine ⟨_, _, ms.set pre.length (ms[pre.length] + e), rfl, ?_, upd_same, by rw [List.length_set]; exact hlm, fun i => ?_⟩
    · intro c o hc
      rw [upd_ne (ne_of_none hc hn)]
      exact s2 _ _ (s1 _ _ hc)
    · rw [co_set _ _ _ hj, co_snoc, hco i]
      by_cases hi : i = pre.length
      · subst hi
        rw [if_pos rfl, if_pos rfl, ← co_get hj, hco, co_big (p := pre) (Nat.le_refl _)]
        omega
      · rw [if_neg hi, if_neg hi]
  · rintro σ H' ⟨o1, o2, ms, rfl, s1, hm, hlm, hco⟩
    try contradiction
    refine u_poly (.of hm) (by omega) fun z H2 s2 hz => k _ _ (s1.trans s2) ⟨⟨z, rfl, ?_⟩, ta_tr _ _, ?_, fun i => ?_⟩
    · have e : trim ms = ta p q := trim_congr fun i => by rw [hco, al_co]
      rw [← e]
      exact hz
    · have := ta_len p q
      omega
    · rw [ta_co]
      exact (zp i).add (zq i)
--SPLIT
def sp_scaled (K : PySem.W.Frag) : Sp := fun vs H Q _ => ∃ (x : V) (c : Int) (p : List Int) (l n m : Nat), vs = [x, .int c] ∧ Po K H x p l n ∧ Sz m c ∧ l ≤ 500 ∧ n + m ≤ 100000000 ∧ ∀ z H', Same H H' → Po K H' z (ng p c) l (n + m) → Q z H'
theorem ok_scaled {f : Addr} {fd : FuncData} (F : Df K mg "scaled" s_scaled ["one", "factor"] f fd) (z_tuple : mg "tuple" = none)   : Cal P w K mg base 1 "scaled" ["one", "factor"] (sp_scaled K) := by
  refine F.cal (F.fn.ok sc_scaled (fun vs H Q E h => ?_) (fun cdv A outer s H vs Q E hr h => ?_))
  · obtain ⟨x, c, p, _, _, _, rfl, _⟩ := h
    rfl
  obtain ⟨x, c, p, l, n, m, rfl, ⟨⟨a, rfl, ha⟩, tp, lp, zp⟩, hm, l5, hz, k⟩ := h
  refine S.ex_out ⟨_, (S.pss_cons (S.ps_if (S.pt_cmpR op_eq (S.pv 1) S.pe_int (nomark _)) (S.pss_one (S.ps_ret (S.pe_tup S.pa_nil))) S.pss_nil)
      (S.pss_one (S.ps_ret (S.pe_cTy call_tuple_of rfl z_tuple PyProof.Rows.boot_tuple (S.pa_cns (S.pe_comp (ts := ["weight"]) (fs := [(1, "factor")]) rfl (CpScope.of (sc := defScope s_scaled) (N := ["one", "factor"]) rfl rfl (by decide +kernel)) (S.pi_tup (S.pv 0)) (fun _ _ _ => (S.pg_name (i := 0) (show List.Nodup (["weight", "factor"] : List Str) by decide +kernel) rfl (Or.inl rfl))) (fun _ _ _ => S.pts_nil) (fun _ _ _ => (S.pe_op op_mulM (S.pv 0) (S.pv 1)))) S.pa_nil))))), ?_⟩
  contradiction
  have szc : ∀ i, Sz (n + m) (co (ng p c) i) := fun i => by
    rw [ng_co]
    exact (zp i).mul hm
  by_cases hc : c = 0
  · rw [if_pos hc]
    refine ⟨by decide, fun z hz' => k _ _ (Same.upd hz' _) ⟨⟨z, rfl, ?_⟩, trim_tr _, ?_, szc⟩⟩
    · have e : ng p c = [] := (trim_tr _).ext (.inl rfl) fun i => by
        have := ng_co p c i
        rw [hc, Int.mul_zero] at this
        rw [co_nil, ← this, hc, ng]
      rw [e]
      exact .of upd_same
    · have := trim_len (p.map (· * c))
      rw [List.length_map] at this
      exact Nat.le_trans this lp
  · rw [if_neg hc]
    refine ⟨⟨_, ha⟩, fun p1 hp1 => cin_map (es := p) (inj := V.int) (fun w => .int (w * c)) (Nat.le_trans lp (Nat.le_trans l5 (by decide))) hp1 (wk_tup ha) ?_ ?_⟩
    · intro e H2 R he s2 hR
      contradiction
      obtain ⟨i, hi, ei⟩ := List.getElem_of_mem he
      have ze := zp i
      rw [co_get hi, ei] at ze
      exact ⟨ze.mulOk hm (by omega), hR _ (Same.refl _)⟩
    · intro H2 s2 h2
      try contradiction
      have e : ng p c = p.map (· * c) := trim_id (.of (by
        by_cases hp : p = []
        · left; rw [hp]; rfl
        · right
          have := tp.lead hp
          rw [List.length_map, ← co_trim, show trim (p.map (· * c)) = ng p c from rfl, ng_co]
          exact Int.mul_ne_zero this hc))
      refine ⟨p1, _, rfl, .inl ⟨.of h2, fun z hz' => k _ _ (s2.trans (Same.upd hz' _)) ⟨⟨z, rfl, ?_⟩, trim_tr _, ?_, szc⟩⟩⟩
      · rw [e, List.map_map]
        exact .of upd_same
      · rw [e, List.length_map]
        exact lp
def sp_p_minus (K : PySem.W.Frag) : Sp := fun vs H Q _ => ∃ (x y : V) (p q : List Int) (l l' n n' : Nat), vs = [x, y] ∧ Po K H x p l n ∧ Po K H y q l' n' ∧ l ≤ 500 ∧ l' ≤ 500 ∧ n' ≤ 10000000 ∧ ∀ z H', Same H H' → Po K H' z (ta p (ng q (-1))) (max l l') (max n (n' + 1) + 1) → Q z H'
theorem ok_p_minus {f : Addr} {fd : FuncData} (F : Df K mg "p_minus" s_p_minus ["one", "other"] f fd)   (c_p_plus : Cal P w K mg base 3 "p_plus" ["one", "other"] (sp_p_plus K)) (c_scaled : Cal P w K mg base 1 "scaled" ["one", "factor"] (sp_scaled K)) : Cal P w K mg base 4 "p_minus" ["one", "other"] (sp_p_minus K) := by
  refine F.cal (F.fn.ok sc_p_minus (fun vs H Q E h => ?_) (fun cdv A outer s H vs Q E hr h => ?_))
  · obtain ⟨x, y, p, q, _, _, _, _, rfl, _⟩ := h
    rfl
  obtain ⟨x, y, p, q, l, l', n, n', rfl, hx, hy, l5, l5', hn, k⟩ := h
  refine S.ex_out ⟨_, (S.pss_one (S.ps_ret (S.pe_cD c_p_plus (hr.mono (by decide)) (S.pa_cns (S.pv 0) (S.pa_cns (S.pe_cD c_scaled (hr.mono (by decide)) (S.pa_cns (S.pv 1) (S.pa_cns (S.pe_un un_neg S.pe_int) S.pa_nil))) S.pa_nil))))), ?_⟩
  contradiction
  refine ⟨y, -1, q, l', n', 1, rfl, hy, by unfold Sz; decide, l5', by omega, fun z H1 s1 hz => ?_⟩
  try contradiction
  exact ⟨x, z, p, ng q (-1), l, l', n, n' + 1, rfl, hx.mono s1, hz, l5, l5', trivial, fun z2 H2 s2 h2 => k z2 H2 (s1.trans s2) h2⟩
theorem mu_sz {q : List Int} {n n' : Nat} (hq : ∀ i, Sz n' (co q i)) : ∀ (p : List Int), (∀ x ∈ p, Sz n x) → ∀ i, Sz (n + n' + p.length) (mu p (co q) i)
  | [], _, i => by
    have h0 : 0 < 2 ^ (n + n' + ([] : List Int).length) := Nat.pow_pos (by decide)
    exact h0
  | a :: p, h, i => by
    have ih := mu_sz hq p fun x hx => h x (List.mem_cons_of_mem _ hx)
    have h1 := (h a List.mem_cons_self).mul (hq i)
    have h2 : Sz (n + n' + p.length) (sh (mu p (co q)) i) := by
      cases i with
      | zero =>
        have h0 : 0 < 2 ^ (n + n' + p.length) := Nat.pow_pos (by decide)
        exact h0
      | succ i => exact ih i
    exact (h1.add h2).mono (by simp only [List.length_cons]; omega)
theorem Po.mem {K : PySem.W.Frag} {H : Hp} {v : V} {p : List Int} {l n : Nat} (h : Po K H v p l n) : ∀ x ∈ p, Sz n x := fun x hx => by
  obtain ⟨i, hi, ei⟩ := List.getElem_of_mem hx
  have z := h.2.2.2 i
  rw [co_get hi, ei] at z
  exact z
def sp_p_times (K : PySem.W.Frag) : Sp := fun vs H Q _ => ∃ (x y : V) (p q : List Int) (l l' n n' : Nat), vs = [x, y] ∧ Po K H x p l n ∧ Po K H y q l' n' ∧ l ≤ 500 ∧ l' ≤ 500 ∧ n + n' ≤ 100000000 ∧ ∀ z H', Same H H' → Po K H' z (tm p q) (l + l') (n + n' + l) → Q z H'
theorem ok_p_times {f : Addr} {fd : FuncData} (F : Df K mg "p_times" s_p_times ["one", "other"] f fd) (z_enumerate : mg "enumerate" = none) (z_tuple : mg "tuple" = none) (z_len : mg "len" = none)   : Cal P w K mg base 1 "p_times" ["one", "other"] (sp_p_times K) := by
  refine F.cal (F.fn.ok sc_p_times (fun vs H Q E h => ?_) (fun cdv A outer s H vs Q E hr h => ?_))
  · obtain ⟨x, y, p, q, _, _, _, _, rfl, _⟩ := h
    rfl
  obtain ⟨x, y, p, q, l, l', n, n', rfl, hx, hy, l5, l5', hn, k⟩ := h
  have mx := hx.mem
  have my := hy.mem
  obtain ⟨⟨a, rfl, ha⟩, tp, lp, zp⟩ := hx
  obtain ⟨⟨b, rfl, hb⟩, tq, lq, zq⟩ := hy
  have res : ∀ (z : Addr) (H' : Hp), Same H H' → SqT K H' z ((tm p q).map V.int) → Q (.ref z) H' := fun z H' s hz => by
    refine k _ _ s ⟨⟨z, rfl, hz⟩, tm_tr _ _, ?_, fun i => ?_⟩
    · by_cases h1 : p = []
      · rw [h1, tm_comm, tm_nil]
        exact Nat.zero_le _
      · by_cases h2 : q = []
        · rw [h2, tm_nil]
          exact Nat.zero_le _
        · have := tm_len tp tq h1 h2
          omega
    · rw [tm_co]
      exact (mu_sz zq p mx i).mono (by omega)
  refine S.ex_out ⟨_, (S.pss_cons (S.ps_if (S.PW_pt (S.pw_or (S.pt_cmpR (op_eqT hr.units) (S.pv 0) (S.pe_tup S.pa_nil) (nomark _)) (S.pw_or1 (S.pt_cmpR (op_eqT hr.units) (S.pv 1) (S.pe_tup S.pa_nil) (nomark _))))) (S.pss_one (S.ps_ret (S.pe_tup S.pa_nil))) S.pss_nil)
      (S.pss_cons (S.ps_set (i := 2) sc_p_times.nd rfl (Or.inl rfl) (S.pe_op op_rep (S.pe_lst (S.pa_cns S.pe_int S.pa_nil)) (S.pe_op op_sub (S.pe_op op_add (S.pe_cB call_len_seq rfl z_len PySem.boot_len (S.pa_cns (S.pv 0) S.pa_nil)) (S.pe_cB call_len_seq rfl z_len PySem.boot_len (S.pa_cns (S.pv 1) S.pa_nil))) S.pe_int)))
      (S.pss_cons (S.ps_for PassesOwn.never rfl (S.pi_en rfl z_enumerate (S.pa_cns (S.pv 0) S.pa_nil)) (S.pg_tup rfl (S.pgs_cons (S.pg_name (i := 3) sc_p_times.nd rfl (Or.inl rfl)) (S.pgs_cons (S.pg_name (i := 4) sc_p_times.nd rfl (Or.inl rfl)) S.pgs_nil))) (S.pss_one (S.ps_if (S.pt_cmpR op_ne (S.pv 4) S.pe_int (nomark _)) (S.pss_one (S.ps_for PassesOwn.never rfl (S.pi_en rfl z_enumerate (S.pa_cns (S.pv 1) S.pa_nil)) (S.pg_tup rfl (S.pgs_cons (S.pg_name (i := 5) sc_p_times.nd rfl (Or.inl rfl)) (S.pgs_cons (S.pg_name (i := 6) sc_p_times.nd rfl (Or.inl rfl)) S.pgs_nil))) (S.pss_one (S.ps_asg (S.pe_op op_add (S.pe_ix ix_list (S.pv 2) (S.pe_op op_add (S.pv 3) (S.pv 5)) (fun _ _ => rfl)) (S.pe_op op_mulM (S.pv 4) (S.pv 6))) (S.pg_sub (S.pv 2) (S.pe_op op_add (S.pv 3) (S.pv 5)) set_list))))) S.pss_nil)))
      (S.pss_one (S.ps_ret (S.pe_cTy call_tuple_of rfl z_tuple PyProof.Rows.boot_tuple (S.pa_cns (S.pv 2) S.pa_nil))))))), ?_⟩
  contradiction
  refine ⟨by decide, fun p1 hp1 => ?_⟩
  have s1 := Same.upd hp1 (.tup [])
  refine eq_tints (ms := []) (s1.tup ha) (.of upd_same) ?_
  try contradiction
  by_cases h1 : p = []
  · rw [if_pos h1]
    refine ⟨by decide, fun z hz => res z _ (s1.trans (Same.upd hz _)) ?_⟩
    rw [h1, tm_comm, tm_nil]
    exact .of upd_same
  rw [if_neg h1]
  refine ⟨by decide, fun p2 hp2 => ?_⟩
  have s2 := s1.trans (Same.upd hp2 (.tup []))
  refine eq_tints (ms := []) (s2.tup hb) (.of upd_same) ?_
  try contradiction
  by_cases h2 : q = []
  · rw [if_pos h2]
    refine ⟨by decide, fun z hz => res z _ (s2.trans (Same.upd hz _)) ?_⟩
    rw [h2, tm_nil]
    exact .of upd_same
  rw [if_neg h2]
  intro p3 hp3
  have s3 := s2.trans (Same.upd hp3 (.lst [V.int 0]))
  have q1 := List.length_pos_iff.mpr h1
  have q2 := List.length_pos_iff.mpr h2
  have sz5 : 1000 ≤ sizeLine := by decide
  refine ⟨a, _, rfl, .inr (s3.tup ha), b, _, rfl, .inr (s3.tup hb), ?_⟩
  simp only [List.length_map]
  have hN : ((p.length : Int) + (q.length : Int) - 1).toNat = p.length + q.length - 1 := by omega
  refine ⟨p3, _, [V.int 0], rfl, rfl, upd_same, by omega, by omega, by rw [hN]; simp only [List.length_cons, List.length_nil]; omega, fun l0 hn => ?_⟩
  rw [hN, flat_zero]
  have hnH : H l0 = none := Same.free s3 hn
  have s4 := s3.trans (Same.upd hn (.lst ((List.replicate (p.length + q.length - 1) (0 : Int)).map V.int)))
  refine ⟨⟨_, s4.tup ha⟩, fi_en (es := p) (inj := V.int) (fun pre σ H' => ∃ (o1 o2 o3 o4 : Option V) (ms : List Int), σ = [some (.ref a), some (.ref b), some (.ref l0), o1, o2, o3, o4] ∧ Same H H' ∧ H' l0 = some (.lst (ms.map V.int)) ∧ ms.length = p.length + q.length - 1 ∧ ∀ i, co ms i = mu pre (co q) i)
    ⟨_, _, _, _, List.replicate (p.length + q.length - 1) 0, rfl, s4, upd_same, by rw [List.length_replicate], fun i => ?_⟩ ?_ ?_ ?_⟩
  · show _ = 0
    unfold co
    rw [List.getD_eq_getElem?_getD, List.getElem?_replicate]
    split <;> rfl
  · rintro pre σ H' ⟨o1, o2, o3, o4, ms, rfl, s5, _⟩
    exact s5.tup ha
  · rintro pre e post σ H' p4 he ⟨o1, o2, o3, o4, ms, rfl, s5, hm, hlm, hco⟩ hp4
    refine g_pair (.of upd_same) ?_
    have hlen := congrArg List.length he
    rw [List.length_append, List.length_cons] at hlen
    have ez : Sz n e := mx e (by rw [he]; simp)
    have s6 := s5.trans (Same.upd hp4 (.tup [V.int (pre.length : Nat), V.int e]))
    have hm6 := Same.upd hp4 (.tup [V.int (pre.length : Nat), V.int e]) _ _ hm
    try contradiction
    by_cases hz : e = 0
    · rw [if_pos hz]
      exact ⟨_, _, _, _, ms, rfl, s6, hm6, hlm, fun i => by rw [mu_snoc, hco, hz]; simp⟩
    · rw [if_neg hz]
      refine ⟨⟨_, s6.tup hb⟩, fi_en (es := q) (inj := V.int) (fun pre2 σ H2 => ∃ (o3 o4 : Option V) (ms2 : List Int), σ = [some (.ref a), some (.ref b), some (.ref l0), some (.int (pre.length : Nat)), some (.int e), o3, o4] ∧ Same H H2 ∧ H2 l0 = some (.lst (ms2.map V.int)) ∧ ms2.length = p.length + q.length - 1 ∧
          ∀ i, co ms2 i = mu pre (co q) i + (if pre.length ≤ i then e * co pre2 (i - pre.length) else 0)) ⟨_, _, ms, rfl, s6, hm6, hlm, fun i => ?_⟩ ?_ ?_ ?_⟩
      · rw [hco, co_nil, Int.mul_zero]
        split <;> simp
      · rintro pre2 σ H2 ⟨o3, o4, ms2, rfl, s7, _⟩
        exact s7.tup hb
      · rintro pre2 f post2 σ H2 p5 he2 ⟨o3, o4, ms2, rfl, s7, hm7, hlm2, hco2⟩ hp5
        refine g_pair (.of upd_same) ?_
        have hlen2 := congrArg List.length he2
        rw [List.length_append, List.length_cons] at hlen2
        have fz : Sz n' f := my f (by rw [he2]; simp)
        have hj : pre.length + pre2.length < ms2.length := by omega
        have s8 := Same.upd hp5 (.tup [V.int (pre2.length : Nat), V.int f])
        have hm8 := s8 _ _ hm7
        simp only [z_seq, z_next, z_ifS, z_ret, z_drop, z_asg, z_gname, z_par, z_var0, z_varS, z_c, z_op, z_un, z_rI, z_rI0, z_rU, z_eqI, z_neI, z_eqB, z_neB, z_test, z_tB, z_exb, z_exi, z_ex2, z_exl1, z_exl2, z_not, z_and, z_or, z_andV, z_orV, z_notV, z_if, z_call, z_nil, z_cons, z_cb, z_tup, z_lst, z_chain, z_comp, z_rng1, z_rng2, z_ilist, z_itup, z_exr, z_kp1, z_kp2, z_for, z_sl, z_nopart, z_part, z_bm0, z_bm, z_cxK, z_noxK, z_rev, z_ien, z_ienL, z_irv, z_gsub, z_exlr, z_intB, z_raise, z_try, z_tryAs, z_tryC, z_tryN, z_down, z_exd, z_revL, z_iany, z_izip, z_dnew, z_cv, cpσ, List.getElem?_cons_zero, List.getElem?_cons_succ, Option.join_some, List.set_cons_zero, List.set_cons_succ, List.append_nil, decide_eq_true_eq, Bool.not_eq_true', decide_eq_false_iff_not, Bool.not_not, ite_not, Bool.false_eq_true, Bool.true_eq_false, if_false, if_true, if_pos, List.length_cons, List.length_nil, Nat.zero_add, Nat.reduceAdd, small1, small2, true_and, and_true, L2.start, List.map_cons, List.map_nil, Bool.not_true, Bool.not_false, Nat.reduceSub, List.replicate_succ, List.replicate_zero, List.cons_append, List.nil_append, ← Int.natCast_add]
        refine z_ixLn (.of hm8) (get_mapI hj) ?_
        try contradiction
        refine ⟨ez.mulOk fz (by omega), ?_⟩
        refine g_set hm8 (by rw [List.length_map]; exact hj) ?_
        try contradiction
        rw [set_mapI]
        refine ⟨_, _, ms2.set (pre.length + pre2.length) (ms2[pre.length + pre2.length] + e * f), rfl, ?_, upd_same, by rw [List.length_set]; exact hlm2, fun i => ?_⟩
        · intro c o hc
          rw [upd_ne (ne_of_none hc hnH)]
          exact s8 _ _ (s7 _ _ hc)
        · rw [co_set _ _ _ hj, co_snoc, hco2 i]
          by_cases hi : i = pre.length + pre2.length
          · subst hi
            rw [if_pos rfl, ← co_get hj, hco2, if_pos (by omega), if_pos (by omega), if_pos (by omega), show pre.length + pre2.length - pre.length = pre2.length by omega, co_big (p := pre2) (Nat.le_refl _)]
            omega
          · rw [if_neg hi]
            by_cases hi2 : pre.length ≤ i
            · rw [if_pos hi2, if_pos hi2, if_neg (by omega)]
            · rw [if_neg hi2, if_neg hi2]
      · rintro σ H2 ⟨o3, o4, ms2, rfl, s7, hm7, hlm2, hco2⟩
        try contradiction
        exact ⟨_, _, _, _, ms2, rfl, s7, hm7, hlm2, fun i => by rw [mu_snoc, hco2]⟩
  · rintro σ H' ⟨o1, o2, o3, o4, ms, rfl, s5, hm, hlm, hco⟩
    try contradiction
    have e : ms = tm p q := by
      have tl := tm_len tp tq h1 h2
      refine List.ext_getElem (by omega) fun i g1 g2 => ?_
      rw [← co_get g1, ← co_get g2, hco, tm_co]
    refine ⟨l0, _, rfl, .inl ⟨.of hm, fun z hz => res z _ (s5.trans (Same.upd hz _)) ?_⟩⟩
    rw [← e]
    exact .of upd_same
--SPLIT
def md (p : List Int) (m : Int) : List Int := trim (p.map (· % m))
theorem md_co (p : List Int) (m : Int) (i : Nat) : co (md p m) i = co p i % m := by
  rw [md, co_trim]
  by_cases h : i < p.length
  · rw [co_get (by simpa using h), co_get h, List.getElem_map]
  · rw [co_big (by simpa using h), co_big (by omega), Int.zero_emod]
theorem md_tr (p : List Int) (m : Int) : Tr (md p m) := trim_tr _
theorem md_len (p : List Int) (m : Int) : (md p m).length ≤ p.length := by
  have := trim_len (p.map (· % m))
  rw [List.length_map] at this
  exact this
theorem sz_mod {k : Nat} {m : Int} (hm : 0 < m) (hz : Sz k m) (x : Int) : Sz k (x % m) := by
  have h0 := Int.emod_nonneg x (Int.ne_of_gt hm)
  have h1 := Int.emod_lt_of_pos x hm
  generalize x % m = y at *
  exact hz.of_abs (by omega)
def sp_by_number (K : PySem.W.Frag) : Sp := fun vs H Q _ => ∃ (x : V) (m : Int) (p : List Int) (l n k : Nat), vs = [x, .int m] ∧ Po K H x p l n ∧ l ≤ 500 ∧ 0 < m ∧ Sz k m ∧ ∀ z H', Same H H' → Po K H' z (md p m) l k → Q z H'
theorem ok_by_number {f : Addr} {fd : FuncData} (F : Df K mg "by_number" s_by_number ["one", "m"] f fd)   (c_poly : Cal P w K mg base 1 "poly" ["weights"] (sp_poly K)) : Cal P w K mg base 2 "by_number" ["one", "m"] (sp_by_number K) := by
  refine F.cal (F.fn.ok sc_by_number (fun vs H Q E h => ?_) (fun cdv A outer s H vs Q E hr h => ?_))
  · obtain ⟨x, m, p, _, _, _, rfl, _⟩ := h
    rfl
  obtain ⟨x, m, p, l, n, k, rfl, ⟨⟨a, rfl, ha⟩, tp, lp, zp⟩, hl, hm, hk, q⟩ := h
  refine S.ex_out ⟨_, (S.pss_one (S.ps_ret (S.pe_cD c_poly (hr.mono (by decide)) (S.pa_cns (S.pe_comp (ts := ["weight"]) (fs := [(1, "m")]) rfl (CpScope.of (sc := defScope s_by_number) (N := ["one", "m"]) rfl rfl (by decide +kernel)) (S.pi_tup (S.pv 0)) (fun _ _ _ => (S.pg_name (i := 0) (show List.Nodup (["weight", "m"] : List Str) by decide +kernel) rfl (Or.inl rfl))) (fun _ _ _ => S.pts_nil) (fun _ _ _ => (S.pe_op op_mod (S.pv 0) (S.pv 1)))) S.pa_nil)))), ?_⟩
  contradiction
  refine ⟨⟨_, ha⟩, fun p1 hp1 => cin_map (es := p) (inj := V.int) (fun e => .int (e % m)) (Nat.le_trans (Nat.le_trans lp hl) (by decide)) hp1 (wk_tup ha) ?_ ?_⟩
  · intro e H2 R he s2 hR
    contradiction
    exact ⟨hm, hR _ (Same.refl _)⟩
  intro H2 s2 h2
  try contradiction
  have em : p.map (fun e => V.int (e % m)) = (p.map (· % m)).map V.int := by rw [List.map_map]; rfl
  rw [em] at h2
  refine u_poly (.of h2) (by rw [List.length_map]; omega) fun z H3 s3 h3 => q _ _ (s2.trans s3) ⟨⟨z, rfl, h3⟩, trim_tr _, Nat.le_trans (md_len p m) lp, fun i => ?_⟩
  rw [md_co]
  exact sz_mod hm hk _
theorem u_bynum {H H1 : Hp} {Q : VK} {E : XK} {x : V} {m : Int} {p : List Int} {l n k : Nat} (hx : Po K H1 x p l n) (s1 : Same H1 H) (hl : l ≤ 500) (hm : 0 < m) (hk : Sz k m) (h : ∀ z H', Same H H' → Po K H' z (md p m) l k → Q z H') : sp_by_number K [x, .int m] H Q E := ⟨x, m, p, l, n, k, rfl, hx.mono s1, hl, hm, hk, h⟩
def spMop (K : PySem.W.Frag) (f : List Int → List Int → List Int) (g : Nat → Nat → Nat) : Sp := fun vs H Q _ => ∃ (x y : V) (m : Int) (p q : List Int) (l l' n n' k : Nat), vs = [x, y, .int m] ∧ Po K H x p l n ∧ Po K H y q l' n' ∧ l ≤ 250 ∧ l' ≤ 250 ∧ n + n' ≤ 10000000 ∧ 0 < m ∧ Sz k m ∧ ∀ z H', Same H H' → Po K H' z (md (f p q) m) (g l l') k → Q z H'
def sp_m_plus (K : PySem.W.Frag) : Sp := spMop K ta max
def sp_m_minus (K : PySem.W.Frag) : Sp := spMop K (fun p q => ta p (ng q (-1))) max
def sp_m_times (K : PySem.W.Frag) : Sp := spMop K tm (· + ·)
theorem ok_m_plus {f : Addr} {fd : FuncData} (F : Df K mg "m_plus" s_m_plus ["one", "other", "m"] f fd)   (c_by_number : Cal P w K mg base 2 "by_number" ["one", "m"] (sp_by_number K)) (c_p_plus : Cal P w K mg base 3 "p_plus" ["one", "other"] (sp_p_plus K)) : Cal P w K mg base 4 "m_plus" ["one", "other", "m"] (sp_m_plus K) := by
  refine F.cal (F.fn.ok sc_m_plus (fun vs H Q E h => ?_) (fun cdv A outer s H vs Q E hr h => ?_))
  · obtain ⟨x, y, m, p, q, _, _, _, _, _, rfl, _⟩ := h
    rfl
  obtain ⟨x, y, m, p, q, l, l', n, n', k, rfl, hx, hy, hl, hl', hn, hm, hk, c⟩ := h
  refine S.ex_out ⟨_, (S.pss_one (S.ps_ret (S.pe_cD c_by_number (hr.mono (by decide)) (S.pa_cns (S.pe_cD c_p_plus (hr.mono (by decide)) (S.pa_cns (S.pv 0) (S.pa_cns (S.pv 1) S.pa_nil))) (S.pa_cns (S.pv 2) S.pa_nil))))), ?_⟩
  contradiction
  refine ⟨x, y, p, q, l, l', n, n', rfl, hx, hy, by omega, by omega, trivial, fun z H1 s1 i1 => ?_⟩
  try contradiction
  exact u_bynum i1 (Same.refl _) (by omega) hm hk fun w H2 s2 i2 => c w H2 (s1.trans s2) i2
theorem ok_m_minus {f : Addr} {fd : FuncData} (F : Df K mg "m_minus" s_m_minus ["one", "other", "m"] f fd)   (c_by_number : Cal P w K mg base 2 "by_number" ["one", "m"] (sp_by_number K)) (c_p_minus : Cal P w K mg base 4 "p_minus" ["one", "other"] (sp_p_minus K)) : Cal P w K mg base 5 "m_minus" ["one", "other", "m"] (sp_m_minus K) := by
  refine F.cal (F.fn.ok sc_m_minus (fun vs H Q E h => ?_) (fun cdv A outer s H vs Q E hr h => ?_))
  · obtain ⟨x, y, m, p, q, _, _, _, _, _, rfl, _⟩ := h
    rfl
  obtain ⟨x, y, m, p, q, l, l', n, n', k, rfl, hx, hy, hl, hl', hn, hm, hk, c⟩ := h
  refine S.ex_out ⟨_, (S.pss_one (S.ps_ret (S.pe_cD c_by_number (hr.mono (by decide)) (S.pa_cns (S.pe_cD c_p_minus (hr.mono (by decide)) (S.pa_cns (S.pv 0) (S.pa_cns (S.pv 1) S.pa_nil))) (S.pa_cns (S.pv 2) S.pa_nil))))), ?_⟩
  contradiction
  refine ⟨x, y, p, q, l, l', n, n', rfl, hx, hy, by omega, by omega, by omega, fun z H1 s1 i1 => ?_⟩
  try contradiction
  exact u_bynum i1 (Same.refl _) (by omega) hm hk fun w H2 s2 i2 => c w H2 (s1.trans s2) i2
theorem ok_m_times {f : Addr} {fd : FuncData} (F : Df K mg "m_times" s_m_times ["one", "other", "m"] f fd)   (c_by_number : Cal P w K mg base 2 "by_number" ["one", "m"] (sp_by_number K)) (c_p_times : Cal P w K mg base 1 "p_times" ["one", "other"] (sp_p_times K)) : Cal P w K mg base 3 "m_times" ["one", "other", "m"] (sp_m_times K) := by
  refine F.cal (F.fn.ok sc_m_times (fun vs H Q E h => ?_) (fun cdv A outer s H vs Q E hr h => ?_))
  · obtain ⟨x, y, m, p, q, _, _, _, _, _, rfl, _⟩ := h
    rfl
  obtain ⟨x, y, m, p, q, l, l', n, n', k, rfl, hx, hy, hl, hl', hn, hm, hk, c⟩ := h
  refine S.ex_out ⟨_, (S.pss_one (S.ps_ret (S.pe_cD c_by_number (hr.mono (by decide)) (S.pa_cns (S.pe_cD c_p_times (hr.mono (by decide)) (S.pa_cns (S.pv 0) (S.pa_cns (S.pv 1) S.pa_nil))) (S.pa_cns (S.pv 2) S.pa_nil))))), ?_⟩
  contradiction
  refine ⟨x, y, p, q, l, l', n, n', rfl, hx, hy, by omega, by omega, by omega, fun z H1 s1 i1 => ?_⟩
  try contradiction
  exact u_bynum i1 (Same.refl _) (by omega) hm hk fun w H2 s2 i2 => c w H2 (s1.trans s2) i2
--SPLIT
theorem gcd_rem (g l : Int) : Int.gcd l (g - g / l * l) = Int.gcd g l := by
  rw [Int.gcd_sub_mul_right_right, Int.gcd_comm]
def InvS (m g l x y : Int) : Prop := ∃ A B : Nat, ((x = (A : Nat) ∧ y = -((B : Nat) : Int)) ∨ (x = -((A : Nat) : Int) ∧ y = (B : Nat))) ∧ (B : Int) * g + (A : Int) * l = m
theorem InvS.next {m g l x y : Int} (h : InvS m g l x y) (hg : 0 ≤ g) (hl : 0 < l) : InvS m l (g - g / l * l) y (x - g / l * y) := by
  obtain ⟨A, B, h, e⟩ := h
  have q0 : 0 ≤ g / l := Int.ediv_nonneg hg (Int.le_of_lt hl)
  obtain ⟨q, hq⟩ : ∃ q : Nat, g / l = q := ⟨(g / l).toNat, by omega⟩
  rw [hq]
  refine ⟨B, A + q * B, ?_, ?_⟩
  · rcases h with ⟨rfl, rfl⟩ | ⟨rfl, rfl⟩
    · refine .inr ⟨rfl, ?_⟩
      push_cast
      rw [Int.mul_neg]
      omega
    · refine .inl ⟨rfl, ?_⟩
      push_cast
      omega
  · push_cast
    rw [← e]
    grind
theorem InvS.here {m g l x y : Int} (h : InvS m g l x y) (hg : 0 < g) (hl : 0 ≤ l) : y.natAbs ≤ m.natAbs := by
  obtain ⟨A, B, h, e⟩ := h
  have h1 : (B : Int) * 1 ≤ (B : Int) * g := Int.mul_le_mul_of_nonneg_left (by omega) (by omega)
  have h2 : (0 : Int) ≤ (A : Int) * l := Int.mul_nonneg (by omega) hl
  rcases h with ⟨_, rfl⟩ | ⟨_, rfl⟩ <;> omega
def spE_inverse_by (K : PySem.W.Frag) : Sp := fun vs H Q E => ∃ (a m : Int) (k : Nat), vs = [.int a, .int m] ∧ 1 < m ∧ Sz k m ∧ k ≤ 8000 ∧ (Int.gcd a m ≠ 1 → E (.ref (cA K "NoPart")) none H) ∧ (Int.gcd a m = 1 → ∀ r, 0 ≤ r → r < m → r * a % m = 1 → Q (.int r) H)
theorem ok_inverse_by {f : Addr} {fd : FuncData} (F : Df K mg "inverse_by" s_inverse_by ["number", "m"] f fd)  (xk_NoPart : ExcK K (cA K "NoPart")) (xm_NoPart : mg "NoPart" = some (.ref (cA K "NoPart")))  : CalE P w K mg base 1 "inverse_by" ["number", "m"] (spE_inverse_by K) := by
  refine F.calE (F.fn.okE sc_inverse_by (fun vs H Q E h => ?_) (fun cdv A outer s H vs Q E hr h => ?_))
  · obtain ⟨a, m, k, rfl, _⟩ := h
    rfl
  obtain ⟨a, m, k, rfl, hm, hk, h8, kE, kQ⟩ := h
  refine S.ex_out ⟨_, (S.pss_cons (S.ps_set (i := 2) sc_inverse_by.nd rfl (Or.inl rfl) (S.pv 1))
      (S.pss_cons (S.ps_set (i := 3) sc_inverse_by.nd rfl (Or.inl rfl) (S.pe_op op_mod (S.pv 0) (S.pv 1)))
      (S.pss_cons (S.ps_set (i := 4) sc_inverse_by.nd rfl (Or.inl rfl) S.pe_int)
      (S.pss_cons (S.ps_set (i := 5) sc_inverse_by.nd rfl (Or.inl rfl) S.pe_int)
      (S.pss_cons (S.PS_nox (S.ps_while PassesOwn.never (S.pt_cmpR op_ne (S.pv 3) S.pe_int (nomark _)) (S.pss_cons (S.ps_set (i := 6) sc_inverse_by.nd rfl (Or.inl rfl) (S.pe_op op_fdivP (S.pv 2) (S.pv 3)))
      (S.pss_cons (S.ps_par (i := 2) (j := 3) rfl sc_inverse_by.nd rfl rfl (by decide) rfl rfl (S.pa_cns (S.pv 3) (S.pa_cns (S.pe_op op_sub (S.pv 2) (S.pe_op op_mulM (S.pv 6) (S.pv 3))) S.pa_nil)) rfl)
      (S.pss_one (S.ps_par (i := 4) (j := 5) rfl sc_inverse_by.nd rfl rfl (by decide) rfl rfl (S.pa_cns (S.pv 5) (S.pa_cns (S.pe_op op_sub (S.pv 4) (S.pe_op op_mulM (S.pv 6) (S.pv 5))) S.pa_nil)) rfl))))))
      (S.pss_cons (S.ps_if (S.pt_cmpR op_ne (S.pv 2) S.pe_int (nomark _)) (S.pss_one (S.ps_raise xk_NoPart xm_NoPart (S.pa_cns S.pe_str S.pa_nil))) S.pss_nil)
      (S.pss_one (S.ps_ret (S.pe_op op_mod (S.pv 4) (S.pv 1)))))))))), ?_⟩
  contradiction
  have m0 := Int.emod_nonneg a (by omega : m ≠ 0)
  have m1 := Int.emod_lt_of_pos a (by omega : 0 < m)
  refine ⟨by omega, ?_⟩
  refine while_go (fun σ H' => H' = H ∧ ∃ (g l x y : Int) (o : Option V), σ = [some (.int a), some (.int m), some (.int g), some (.int l), some (.int x), some (.int y), o] ∧ 0 < g ∧ g ≤ m ∧ 0 ≤ l ∧ l ≤ m ∧ Int.gcd g l = Int.gcd a m ∧ m ∣ x * a - g ∧ m ∣ y * a - l ∧ InvS m g l x y)
    (fun σ _ => match σ with | [_, _, _, some (.int l), _, _, _] => l.toNat | _ => 0) ⟨rfl, m, a % m, 0, 1, _, rfl, by omega, Int.le_refl _, m0, by omega, ?_, ⟨-1, by omega⟩, ⟨a / m, ?_⟩, ⟨0, 1, .inr ⟨rfl, rfl⟩, by simp⟩⟩ ?_
  · have e : a % m = a - a / m * m := by
      have := Int.mul_ediv_add_emod a m
      rw [Int.mul_comm] at this
      omega
    rw [e]
    exact gcd_rem a m
  · have := Int.mul_ediv_add_emod a m
    omega
  rintro σ H' ⟨rfl, g, l, x, y, o, rfl, g0, gm, l0, lm, hg, hx, hy, hS⟩
  contradiction
  by_cases hl : l = 0
  · rw [if_pos hl]
    subst hl
    have eg : ((Int.gcd a m : Nat) : Int) = g := by
      rw [← hg, Int.gcd_zero_right]
      omega
    try contradiction
    by_cases h1 : g = 1
    · rw [if_pos h1]
      subst h1
      try contradiction
      refine ⟨by omega, kQ (by omega) _ (Int.emod_nonneg _ (by omega)) (Int.emod_lt_of_pos _ (by omega)) ?_⟩
      obtain ⟨c, hc⟩ := hx
      have e : x % m * a = 1 + m * (c - x / m * a) := by
        have := Int.mul_ediv_add_emod x m
        have e2 : x % m = x - m * (x / m) := by omega
        rw [e2]
        grind
      rw [e, Int.add_mul_emod_self_left]
      exact Int.emod_eq_of_lt (by decide) hm
    · rw [if_neg h1]
      try contradiction
      exact kE (by omega)
  · rw [if_neg hl]
    refine wb_of ?_
    try contradiction
    have lp : 0 < l := by omega
    have q0 : 0 ≤ g / l := Int.ediv_nonneg (by omega) l0
    have q1 : g / l ≤ g := Int.ediv_le_self _ (by omega)
    have zl : Sz k l := hk.of_abs (by omega)
    have zq : Sz k (g / l) := hk.of_abs (by omega)
    have zy : Sz k y := hk.of_abs (hS.here g0 l0)
    have e1 : g - g / l * l = g % l := by
      have := Int.mul_ediv_add_emod g l
      rw [Int.mul_comm] at this
      omega
    have r0 := Int.emod_nonneg g hl
    have r1 := Int.emod_lt_of_pos g lp
    refine ⟨⟨lp, zl.log2 hl (by omega)⟩, zq.mulOk zl (by omega), zq.mulOk zy (by omega), ⟨_, _, _, _, _, rfl, lp, lm, by omega, by omega, (gcd_rem g l).trans hg, hy, ?_, hS.next (by omega) lp⟩, by omega⟩
    obtain ⟨c, hc⟩ := hx
    obtain ⟨d, hd⟩ := hy
    refine ⟨c - g / l * d, ?_⟩
    have ex : x * a = m * c + g := by omega
    have ey : y * a = m * d + l := by omega
    rw [Int.sub_mul, Int.mul_assoc, ex, ey]
    grind
--SPLIT
def spLaw (K : PySem.W.Frag) : Sp := fun vs H Q _ => ∃ (a : Addr) (ns : List Int), vs = [.ref a] ∧ SqL K H a (ns.map V.int) ∧ ns.length ≤ 63 ∧ ∀ H', Q (.bl true) H'
def sp_q_mixed (_ : PySem.W.Frag) : Sp := fun vs H Q _ => ∃ c k : Int, vs = [.int c, .int k] ∧ 0 ≤ k ∧ k < 1000 ∧ ∀ n : Int, 0 ≤ n → n < 2 ^ 41 → Q (.int n) H
theorem ok_q_mixed {f : Addr} {fd : FuncData} (F : Df K mg "_law_mixed" s_q_mixed ["_law_cell", "_law_k"] f fd)    : Cal P w K mg base 1 "_law_mixed" ["_law_cell", "_law_k"] (sp_q_mixed K) := by
  refine F.cal (F.fn.ok sc_q_mixed (fun vs H Q E h => ?_) (fun cdv A outer s H vs Q E hr h => ?_))
  · obtain ⟨c, k, rfl, _⟩ := h
    rfl
  obtain ⟨c, k, rfl, k0, k1, q⟩ := h
  refine S.ex_out ⟨_, (S.pss_cons (S.ps_set (i := 2) sc_q_mixed.nd rfl (Or.inl rfl) (S.pe_op op_mod (S.pe_op op_mulM (S.pe_op op_add (S.pe_op op_add (S.pe_op op_mod (S.pv 0) S.pe_int) (S.pe_op op_mulM S.pe_int (S.pv 1))) S.pe_int) S.pe_int) S.pe_int))
      (S.pss_cons (S.ps_set (i := 2) sc_q_mixed.nd rfl (Or.inl rfl) (S.pe_op op_mod (S.pe_op op_mulM (S.pv 2) (S.pe_op op_add (S.pe_op op_fdivP (S.pv 2) S.pe_int) S.pe_int)) S.pe_int))
      (S.pss_one (S.ps_ret (S.pe_op op_mod (S.pe_op op_mulM (S.pe_op op_add (S.pv 2) (S.pe_op op_mulM S.pe_int (S.pv 1))) (S.pe_op op_add (S.pe_op op_fdivP (S.pv 2) S.pe_int) S.pe_int)) S.pe_int))))), ?_⟩
  contradiction
  have kz : Sz 10 k := by unfold Sz; omega
  have m1 : IntMulOk 7919 k := (by unfold Sz; decide : Sz 13 (7919 : Int)).mulOk kz (by decide)
  have m2 : IntMulOk (c % 2147483647 + 7919 * k + 1) 48271 := (by unfold Sz; omega : Sz 40 (c % 2147483647 + 7919 * k + 1)).mulOk (by unfold Sz; decide : Sz 16 (48271 : Int)) (by decide)
  have d0 := Int.emod_nonneg ((c % 2147483647 + 7919 * k + 1) * 48271) (by decide : (2147483647 : Int) ≠ 0)
  have d1 := Int.emod_lt_of_pos ((c % 2147483647 + 7919 * k + 1) * 48271) (by decide : (0 : Int) < 2147483647)
  generalize (c % 2147483647 + 7919 * k + 1) * 48271 % 2147483647 = d at *
  have m3 : IntMulOk d (d / 1009 + 69621) := (by unfold Sz; omega : Sz 31 d).mulOk (by unfold Sz; omega : Sz 32 (d / 1009 + 69621)) (by decide)
  have e0 := Int.emod_nonneg (d * (d / 1009 + 69621)) (by decide : (2147483647 : Int) ≠ 0)
  have e1 := Int.emod_lt_of_pos (d * (d / 1009 + 69621)) (by decide : (0 : Int) < 2147483647)
  generalize d * (d / 1009 + 69621) % 2147483647 = e at *
  have m4 : IntMulOk (31 : Int) k := (by unfold Sz; decide : Sz 13 (31 : Int)).mulOk kz (by decide)
  have m5 : IntMulOk (e + 31 * k) (e / 16807 + 40692) := (by unfold Sz; omega : Sz 33 (e + 31 * k)).mulOk (by unfold Sz; omega : Sz 32 (e / 16807 + 40692)) (by decide)
  have f0 := Int.emod_nonneg ((e + 31 * k) * (e / 16807 + 40692)) (by decide : (2147483629 : Int) ≠ 0)
  have f1 := Int.emod_lt_of_pos ((e + 31 * k) * (e / 16807 + 40692)) (by decide : (0 : Int) < 2147483629)
  generalize (e + 31 * k) * (e / 16807 + 40692) % 2147483629 = f at *
  exact ⟨by decide, m1, m2, by decide, ⟨by decide, by decide⟩, m3, by decide, m4, ⟨by decide, by decide⟩, m5, by decide, q f f0 (by omega)⟩
theorem u_mixed {H : Hp} {Q : VK} {E : XK} {c k : Int} (k0 : 0 ≤ k) (k1 : k < 1000) (h : ∀ n : Int, 0 ≤ n → n < 2 ^ 41 → Q (.int n) H) : sp_q_mixed K [.int c, .int k] H Q E := ⟨c, k, rfl, k0, k1, h⟩
def sp_q_parts (K : PySem.W.Frag) : Sp := fun vs H Q _ => ∃ (c : Int) (a : Addr) (bs : List Int), vs = [.int c, .ref a] ∧ SqL K H a (bs.map V.int) ∧ bs.length ≤ 100 ∧ (∀ b ∈ bs, 0 < b ∧ Sz 70 b) ∧ ∀ z H' (ns : List Int), Same H H' → H' z = some (.lst (ns.map V.int)) → ns.length = bs.length → (∀ i, i < bs.length → 0 ≤ co ns i ∧ co ns i < co bs i) → Q (.ref z) H'
theorem ok_q_parts {f : Addr} {fd : FuncData} (F : Df K mg "_law_parts" s_q_parts ["_law_cell", "_law_bases"] f fd) (z_enumerate : mg "enumerate" = none)  (c_q_mixed : Cal P w K mg base 1 "_law_mixed" ["_law_cell", "_law_k"] (sp_q_mixed K)) : Cal P w K mg base 2 "_law_parts" ["_law_cell", "_law_bases"] (sp_q_parts K) := by
  refine F.cal (F.fn.ok sc_q_parts (fun vs H Q E h => ?_) (fun cdv A outer s H vs Q E hr h => ?_))
  · obtain ⟨c, a, bs, rfl, _⟩ := h
    rfl
  obtain ⟨c, a, bs, rfl, hS, h100, hb, q⟩ := h
  refine S.ex_out ⟨_, (S.pss_cons (S.ps_set (i := 2) sc_q_parts.nd rfl (Or.inl rfl) (S.pe_lst S.pa_nil))
      (S.pss_cons (S.ps_set (i := 3) sc_q_parts.nd rfl (Or.inl rfl) (S.pe_op op_fdivP (S.pv 0) S.pe_int))
      (S.pss_cons (S.ps_for PassesOwn.never rfl (S.pi_enL rfl z_enumerate (S.pa_cns (S.pv 1) S.pa_nil)) (S.pg_tup rfl (S.pgs_cons (S.pg_name (i := 4) sc_q_parts.nd rfl (Or.inl rfl)) (S.pgs_cons (S.pg_name (i := 5) sc_q_parts.nd rfl (Or.inl rfl)) S.pgs_nil))) (S.pss_one (S.ps_if (S.PW_pt (S.pw_and (S.pt_cmpR op_eq (S.pe_op op_mod (S.pv 0) S.pe_int) S.pe_int (nomark _)) (S.pw_and1 (S.pt_cmpR op_notIn_seq (S.pv 3) (S.pe_tup (S.pa_cns S.pe_int (S.pa_cns (S.pe_un un_neg S.pe_int) S.pa_nil))) rfl)))) (S.pss_cons (S.ps_expr (S.pe_bm PySem.F.plainAttrs_list PySem.F.slot_list_append PySem.F.type_list_append mt_append (S.pv 2) (S.pa_cns (S.pe_op op_mod (S.pv 3) (S.pv 5)) S.pa_nil)))
      (S.pss_one (S.ps_set (i := 3) sc_q_parts.nd rfl (Or.inl rfl) (S.pe_op op_fdivP (S.pv 3) (S.pv 5))))) (S.pss_one (S.ps_expr (S.pe_bm PySem.F.plainAttrs_list PySem.F.slot_list_append PySem.F.type_list_append mt_append (S.pv 2) (S.pa_cns (S.pe_op op_mod (S.pe_op op_add (S.pe_cD c_q_mixed (hr.mono (by decide)) (S.pa_cns (S.pe_op op_fdivP (S.pv 0) S.pe_int) (S.pa_cns (S.pv 4) S.pa_nil))) (S.pe_op op_pow (S.pe_cD c_q_mixed (hr.mono (by decide)) (S.pa_cns (S.pe_op op_fdivP (S.pv 0) S.pe_int) (S.pa_cns (S.pe_op op_add (S.pv 4) S.pe_int) S.pa_nil))) S.pe_int)) (S.pv 5)) S.pa_nil)))))))
      (S.pss_one (S.ps_ret (S.pv 2)))))), ?_⟩
  contradiction
  refine ⟨by decide, fun l hl => ⟨⟨by decide, by decide⟩, ⟨_, (Same.upd hl (.lst [])).seq hS⟩, fi_enL (es := bs) (inj := V.int) (fun pre σ H' => ∃ (o1 o2 : Option V) (r : Int) (ns : List Int), σ = [some (.int c), some (.ref a), some (.ref l), some (.int r), o1, o2] ∧ Same H H' ∧ H' l = some (.lst (ns.map V.int)) ∧ ns.length = pre.length ∧ ∀ i, i < pre.length → 0 ≤ co ns i ∧ co ns i < co pre i)
    ⟨_, _, _, [], rfl, Same.upd hl _, upd_same, rfl, fun i hi => absurd hi (Nat.not_lt_zero i)⟩ ?_ ?_ ?_⟩⟩
  · rintro pre σ H' ⟨o1, o2, r, ns, rfl, s1, _⟩
    exact s1.seq hS
  · rintro pre e post σ H' p1 he ⟨o1, o2, r, ns, rfl, s1, g1, hn, hco⟩ hp1
    refine g_pair (.of upd_same) ?_
    have s2 := Same.upd hp1 (.tup [V.int (pre.length : Nat), V.int e])
    have g2 := s2 _ _ g1
    have eb := hb e (by rw [he]; simp)
    have hlen := congrArg List.length he
    rw [List.length_append, List.length_cons] at hlen
    have put : ∀ (H2 : Hp) (v : Int), Same H' H2 → 0 ≤ v → v < e → Same H (upd H2 l (.lst (ns.map V.int ++ [V.int v]))) ∧ upd H2 l (.lst (ns.map V.int ++ [V.int v])) l = some (.lst ((ns ++ [v]).map V.int)) ∧ (ns ++ [v]).length = (pre ++ [e]).length ∧ ∀ i, i < (pre ++ [e]).length → 0 ≤ co (ns ++ [v]) i ∧ co (ns ++ [v]) i < co (pre ++ [e]) i := fun H2 v s3 v0 v1 => by
      refine ⟨(s1.trans s3).put hl, by rw [upd_same, List.map_append]; rfl, by rw [List.length_append, List.length_append, hn]; rfl, fun i hi => ?_⟩
      rw [co_snoc, co_snoc, hn]
      rw [List.length_append, List.length_singleton] at hi
      by_cases h : i = pre.length
      · rw [if_pos h, if_pos h]
        exact ⟨v0, v1⟩
      · rw [if_neg h, if_neg h]
        exact hco i (by omega)
    have room : (ns.map V.int).length < sizeLine := by rw [List.length_map]; exact Nat.lt_of_lt_of_le (show ns.length < 1000 by omega) (by decide)
    try contradiction
    refine ⟨by decide, ?_⟩
    have app : ∀ (H2 : Hp) (v r2 : Int), Same (upd H' p1 (.tup [V.int (pre.length : Nat), V.int e])) H2 → 0 ≤ v → v < e → ∃ (o1 o2 : Option V) (r : Int) (ms : List Int), [some (V.int c), some (V.ref a), some (V.ref l), some (V.int r2), some (V.int (pre.length : Nat)), some (V.int e)] = [some (V.int c), some (V.ref a), some (V.ref l), some (V.int r), o1, o2] ∧ Same H (upd H2 l (.lst (ns.map V.int ++ [V.int v]))) ∧ upd H2 l (.lst (ns.map V.int ++ [V.int v])) l = some (.lst (ms.map V.int)) ∧ ms.length = (pre ++ [e]).length ∧ ∀ i, i < (pre ++ [e]).length → 0 ≤ co ms i ∧ co ms i < co (pre ++ [e]) i := fun H2 v r2 s3 v0 v1 => by
      obtain ⟨a1, a2, a3, a4⟩ := put H2 v (s2.trans s3) v0 v1
      exact ⟨_, _, r2, ns ++ [v], rfl, a1, a2, a3, a4⟩
    split
    · intro p2 hp2
      have s3 := Same.upd hp2 (.tup [V.int 0, V.int (-1)])
      have g3 := s3 _ _ g2
      refine ⟨p2, _, rfl, .inr (.of upd_same), rfl, rfl, ?_⟩
      try contradiction
      split
      · refine ⟨.inl ⟨rfl, _, .of g3⟩, eb.1, l, _, _, rfl, rfl, g3, room, ⟨eb.1, eb.2.log2 (Int.ne_of_gt eb.1) (by decide)⟩, app _ _ _ s3 (Int.emod_nonneg _ (Int.ne_of_gt eb.1)) (Int.emod_lt_of_pos _ eb.1)⟩
      · have g4 := g3
        have s4 := s3
        refine ⟨.inl ⟨rfl, _, .of g4⟩, ⟨by decide, by decide⟩, u_mixed (by omega) (by omega) fun n1 a1 b1 => ?_⟩
        try contradiction
        refine ⟨⟨by decide, by decide⟩, u_mixed (by omega) (by omega) fun n2 a2 b2 => ?_⟩
        try contradiction
        refine ⟨⟨by decide, by decide, by omega⟩, eb.1, l, _, _, rfl, rfl, g4, room, app _ _ _ s4 (Int.emod_nonneg _ (Int.ne_of_gt eb.1)) (Int.emod_lt_of_pos _ eb.1)⟩
    · have g4 := g2
      have s4 := Same.refl (upd H' p1 (.tup [V.int (pre.length : Nat), V.int e]))
      refine ⟨.inl ⟨rfl, _, .of g4⟩, ⟨by decide, by decide⟩, u_mixed (by omega) (by omega) fun n1 a1 b1 => ?_⟩
      try contradiction
      refine ⟨⟨by decide, by decide⟩, u_mixed (by omega) (by omega) fun n2 a2 b2 => ?_⟩
      try contradiction
      refine ⟨⟨by decide, by decide, by omega⟩, eb.1, l, _, _, rfl, rfl, g4, room, app _ _ _ s4 (Int.emod_nonneg _ (Int.ne_of_gt eb.1)) (Int.emod_lt_of_pos _ eb.1)⟩
  · rintro σ H' ⟨o1, o2, r, ns, rfl, s1, g1, hn, hco⟩
    try contradiction
    exact q l H' ns s1 g1 hn hco
--SPLIT
def sp_q_poly (K : PySem.W.Frag) : Sp := fun vs H Q _ => ∃ (a : Addr) (ns : List Int), vs = [.ref a] ∧ SqL K H a (ns.map V.int) ∧ ns.length ≤ 1000 ∧ ∀ z H', Same H H' → SqT K H' z ((trim ns).map V.int) → Q (.ref z) H'
theorem ok_q_poly {f : Addr} {fd : FuncData} (F : Df K mg "_law_poly" s_q_poly ["_law_weights_here"] f fd) (z_len : mg "len" = none) (z_tuple : mg "tuple" = none)   : Cal P w K mg base 1 "_law_poly" ["_law_weights_here"] (sp_q_poly K) := by
  refine F.cal (F.fn.ok sc_q_poly (fun vs H Q E h => ?_) (fun cdv A outer s H vs Q E hr h => ?_))
  · obtain ⟨a, ns, rfl, _⟩ := h
    rfl
  obtain ⟨a, ns, rfl, hS, hl, q⟩ := h
  refine S.ex_out ⟨_, (S.pss_cons (S.ps_set (i := 1) sc_q_poly.nd rfl (Or.inl rfl) (S.pe_cB call_len_seq rfl z_len PySem.boot_len (S.pa_cns (S.pv 0) S.pa_nil)))
      (S.pss_cons (S.ps_while PassesOwn.never (S.PW_pt (S.pw_and (S.pt_cmpR op_gt (S.pv 1) S.pe_int (nomark _)) (S.pw_and1 (S.pt_cmpR op_eq (S.pe_ix ix_list (S.pv 0) (S.pe_op op_sub (S.pv 1) S.pe_int) (fun _ _ => rfl)) S.pe_int (nomark _))))) (S.pss_one (S.ps_set (i := 1) sc_q_poly.nd rfl (Or.inl rfl) (S.pe_op op_sub (S.pv 1) S.pe_int))))
      (S.pss_one (S.ps_ret (S.pe_cTy call_tuple_of rfl z_tuple PyProof.Rows.boot_tuple (S.pa_cns (S.pe_slice sl_list (S.pv 0) S.po_none (S.po_some (S.pv 1))) S.pa_nil)))))), ?_⟩
  contradiction
  refine ⟨a, _, rfl, .inl hS, ?_⟩
  rw [List.length_map]
  refine while_go (fun σ H' => H' = H ∧ ∃ n : Nat, σ = [some (.ref a), some (.int n)] ∧ n ≤ ns.length ∧ ∀ i, n ≤ i → co ns i = 0) (fun σ _ => match σ with | [_, some (.int n)] => n.toNat | _ => 0)
    ⟨rfl, _, rfl, Nat.le_refl _, fun i h => co_big h⟩ ?_
  rintro σ H' ⟨rfl, n, rfl, hn, hz⟩
  have fin : (n = 0 ∨ co ns (n - 1) ≠ 0) → rSlL K (V.ref a) none (some (n : Int)) H' (fun x H1 => ∃ p ys, [x] = [V.ref p] ∧ ((SqL K H1 p ys ∧ ∀ (l : Addr), H1 l = none → Q (V.ref l) (upd H1 l (HO.tup ys))) ∨ SqT K H1 p ys ∧ Q (V.ref p) H1)) := fun h => by
    refine ⟨a, _, rfl, hS, fun p hp => ⟨p, _, rfl, .inl ⟨.of upd_same, fun z hz' => q z _ ((Same.upd hp _).trans (Same.upd hz' _)) ?_⟩⟩⟩
    have e : cutV (ns.map V.int) none (some (n : Int)) = (trim ns).map V.int := by
      rw [trim_take hz h]
      unfold cutV
      rw [HT.sIx_none, HT.sIx_nat, List.drop_zero, Nat.sub_zero, List.length_map, Nat.min_eq_left hn, List.map_take]
    rw [e]
    exact .of upd_same
  contradiction
  by_cases h0 : (0 : Int) < n
  · rw [if_pos h0]
    refine z_ixL hS (v := .int (co ns (n - 1))) ?_ ?_
    · have e := atI_nat (xs := ns.map V.int) (j := n - 1) (v := .int (co ns (n - 1))) (by rw [List.getElem?_map, List.getElem?_eq_getElem (by omega), co_get (by omega)]; rfl)
      rw [show ((n - 1 : Nat) : Int) = (n : Int) - 1 by omega] at e
      exact e
    contradiction
    by_cases hc : co ns (n - 1) = 0
    · rw [if_pos hc]
      refine wb_of ?_
      contradiction
      refine ⟨⟨n - 1, by rw [show ((n - 1 : Nat) : Int) = (n : Int) - 1 by omega], by omega, fun i hi => ?_⟩, by omega⟩
      by_cases hi' : i = n - 1
      · rw [hi', hc]
      · exact hz i (by omega)
    · rw [if_neg hc]
      exact fin (.inr hc)
  · rw [if_neg h0]
    exact fin (.inl (by omega))
theorem u_qpoly {H : Hp} {Q : VK} {E : XK} {a : Addr} {ns : List Int} (h0 : SqL K H a (ns.map V.int)) (hl : ns.length ≤ 1000) (h : ∀ z H', Same H H' → SqT K H' z ((trim ns).map V.int) → Q (.ref z) H') : sp_q_poly K [.ref a] H Q E := ⟨a, ns, rfl, h0, hl, h⟩
def sp_q_remainders (K : PySem.W.Frag) : Sp := fun vs H Q _ => ∃ (a : Addr) (m : Int) (ns : List Int), vs = [.ref a, .int m] ∧ SqL K H a (ns.map V.int) ∧ ns.length ≤ 1000 ∧ 0 < m ∧ ∀ z H', Same H H' → SqT K H' z ((md ns m).map V.int) → Q (.ref z) H'
theorem ok_q_remainders {f : Addr} {fd : FuncData} (F : Df K mg "_law_remainders" s_q_remainders ["_law_weights_here", "_law_m"] f fd)   (c_q_poly : Cal P w K mg base 1 "_law_poly" ["_law_weights_here"] (sp_q_poly K)) : Cal P w K mg base 2 "_law_remainders" ["_law_weights_here", "_law_m"] (sp_q_remainders K) := by
  refine F.cal (F.fn.ok sc_q_remainders (fun vs H Q E h => ?_) (fun cdv A outer s H vs Q E hr h => ?_))
  · obtain ⟨a, m, ns, rfl, _⟩ := h
    rfl
  obtain ⟨a, m, ns, rfl, hS, hl, hm, q⟩ := h
  refine S.ex_out ⟨_, (S.pss_one (S.ps_ret (S.pe_cD c_q_poly (hr.mono (by decide)) (S.pa_cns (S.pe_comp (ts := ["_law_weight"]) (fs := [(1, "_law_m")]) rfl (CpScope.of (sc := defScope s_q_remainders) (N := ["_law_weights_here", "_law_m"]) rfl rfl (by decide +kernel)) (S.pi_list (S.pv 0)) (fun _ _ _ => (S.pg_name (i := 0) (show List.Nodup (["_law_weight", "_law_m"] : List Str) by decide +kernel) rfl (Or.inl rfl))) (fun _ _ _ => S.pts_nil) (fun _ _ _ => (S.pe_op op_mod (S.pv 0) (S.pv 1)))) S.pa_nil)))), ?_⟩
  contradiction
  refine ⟨⟨_, hS⟩, fun p1 hp1 => cin_map (es := ns) (inj := V.int) (fun e => .int (e % m)) (Nat.le_trans hl (by decide)) hp1 (wk_list hS) ?_ ?_⟩
  · intro e H2 R he s2 hR
    contradiction
    exact ⟨hm, hR _ (Same.refl _)⟩
  intro H2 s2 h2
  try contradiction
  have em : ns.map (fun e => V.int (e % m)) = (ns.map (· % m)).map V.int := by rw [List.map_map]; rfl
  rw [em] at h2
  exact u_qpoly (.of h2) (by rw [List.length_map]; omega) fun z H3 s3 h3 => q _ _ (s2.trans s3) h3
theorem u_rem {H H1 : Hp} {Q : VK} {E : XK} {a : Addr} {m : Int} {ns : List Int} (h0 : SqL K H1 a (ns.map V.int)) (s1 : Same H1 H) (hl : ns.length ≤ 1000) (hm : 0 < m) (h : ∀ z H', Same H H' → SqT K H' z ((md ns m).map V.int) → Q (.ref z) H') : sp_q_remainders K [.ref a, .int m] H Q E := ⟨a, m, ns, rfl, s1.seq h0, hl, hm, h⟩
--SPLIT
theorem max_eq' (a b : Nat) : (if ((b : Nat) : Int) > (a : Nat) then ((b : Nat) : Int) else ((a : Nat) : Int)) = ((max a b : Nat) : Int) := by
  split <;> omega
def sp_q_product (K : PySem.W.Frag) : Sp := fun vs H Q _ => ∃ (x y : V) (p q : List Int) (l l' n n' : Nat), vs = [x, y] ∧ Po K H x p l n ∧ Po K H y q l' n' ∧ l ≤ 400 ∧ l' ≤ 400 ∧ n + n' ≤ 100000000 ∧ ∀ z H' (ms : List Int), Same H H' → H' z = some (.lst (ms.map V.int)) → ms.length ≤ l + l' → (∀ i, co ms i = mu p (co q) i) → Q (.ref z) H'
theorem ok_q_product {f : Addr} {fd : FuncData} (F : Df K mg "_law_product" s_q_product ["_law_one", "_law_other"] f fd) (z_range : mg "range" = none) (z_len : mg "len" = none)   : Cal P w K mg base 1 "_law_product" ["_law_one", "_law_other"] (sp_q_product K) := by
  refine F.cal (F.fn.ok sc_q_product (fun vs H Q E h => ?_) (fun cdv A outer s H vs Q E hr h => ?_))
  · obtain ⟨x, y, p, q, _, _, _, _, rfl, _⟩ := h
    rfl
  obtain ⟨x, y, p, q, l, l', n, n', rfl, hx, hy, l5, l5', hn, k⟩ := h
  have mx := hx.mem
  have my := hy.mem
  obtain ⟨⟨a, rfl, ha⟩, tp, lp, zp⟩ := hx
  obtain ⟨⟨b, rfl, hb⟩, tq, lq, zq⟩ := hy
  refine S.ex_out ⟨_, (S.pss_cons (S.ps_set (i := 2) sc_q_product.nd rfl (Or.inl rfl) (S.pe_op op_rep (S.pe_lst (S.pa_cns S.pe_int S.pa_nil)) (S.pe_op op_add (S.pe_cB call_len_seq rfl z_len PySem.boot_len (S.pa_cns (S.pv 0) S.pa_nil)) (S.pe_cB call_len_seq rfl z_len PySem.boot_len (S.pa_cns (S.pv 1) S.pa_nil)))))
      (S.pss_cons (S.ps_for PassesOwn.never rfl (S.pi_range1 rfl z_range (S.pa_cns (S.pe_cB call_len_seq rfl z_len PySem.boot_len (S.pa_cns (S.pv 0) S.pa_nil)) S.pa_nil)) (S.pg_name (i := 3) sc_q_product.nd rfl (Or.inl rfl)) (S.pss_one (S.ps_for PassesOwn.never rfl (S.pi_range1 rfl z_range (S.pa_cns (S.pe_cB call_len_seq rfl z_len PySem.boot_len (S.pa_cns (S.pv 1) S.pa_nil)) S.pa_nil)) (S.pg_name (i := 4) sc_q_product.nd rfl (Or.inl rfl)) (S.pss_one (S.ps_asg (S.pe_op op_add (S.pe_ix ix_list (S.pv 2) (S.pe_op op_add (S.pv 3) (S.pv 4)) (fun _ _ => rfl)) (S.pe_op op_mulM (S.pe_ix ix_tup (S.pv 0) (S.pv 3) (fun _ _ => rfl)) (S.pe_ix ix_tup (S.pv 1) (S.pv 4) (fun _ _ => rfl)))) (S.pg_sub (S.pv 2) (S.pe_op op_add (S.pv 3) (S.pv 4)) set_list))))))
      (S.pss_one (S.ps_ret (S.pv 2))))), ?_⟩
  contradiction
  intro p3 hp3
  have s3 := Same.upd hp3 (.lst [V.int 0])
  have sz5 : 1000 ≤ sizeLine := by decide
  refine ⟨a, _, rfl, .inr (s3.tup ha), b, _, rfl, .inr (s3.tup hb), ?_⟩
  simp only [List.length_map]
  have hN : ((p.length : Int) + (q.length : Int)).toNat = p.length + q.length := by omega
  refine ⟨p3, _, [V.int 0], rfl, rfl, upd_same, by omega, by omega, by rw [hN]; simp only [List.length_cons, List.length_nil]; omega, fun l0 hn' => ?_⟩
  rw [hN, flat_zero]
  have hnH : H l0 = none := Same.free s3 hn'
  have s4 := s3.trans (Same.upd hn' (.lst ((List.replicate (p.length + q.length) (0 : Int)).map V.int)))
  refine ⟨a, _, rfl, .inr (s4.tup ha), ?_⟩
  simp only [z_seq, z_next, z_ifS, z_ret, z_drop, z_asg, z_gname, z_par, z_var0, z_varS, z_c, z_op, z_un, z_rI, z_rI0, z_rU, z_eqI, z_neI, z_eqB, z_neB, z_test, z_tB, z_exb, z_exi, z_ex2, z_exl1, z_exl2, z_not, z_and, z_or, z_andV, z_orV, z_notV, z_if, z_call, z_nil, z_cons, z_cb, z_tup, z_lst, z_chain, z_comp, z_rng1, z_rng2, z_ilist, z_itup, z_exr, z_kp1, z_kp2, z_for, z_sl, z_nopart, z_part, z_bm0, z_bm, z_cxK, z_noxK, z_rev, z_ien, z_ienL, z_irv, z_gsub, z_exlr, z_intB, z_raise, z_try, z_tryAs, z_tryC, z_tryN, z_down, z_exd, z_revL, z_iany, z_izip, z_dnew, z_cv, cpσ, List.getElem?_cons_zero, List.getElem?_cons_succ, Option.join_some, List.set_cons_zero, List.set_cons_succ, List.append_nil, decide_eq_true_eq, Bool.not_eq_true', decide_eq_false_iff_not, Bool.not_not, ite_not, Bool.false_eq_true, Bool.true_eq_false, if_false, if_true, if_pos, List.length_cons, List.length_nil, Nat.zero_add, Nat.reduceAdd, small1, small2, true_and, and_true, L2.start, List.map_cons, List.map_nil, Bool.not_true, Bool.not_false, Nat.reduceSub, List.replicate_succ, List.replicate_zero, List.cons_append, List.nil_append, List.length_map, Int.toNat_natCast]
  refine ⟨by omega, by omega, fi_by (es := List.range p.length) (inj := fun i => .int (0 + (i : Nat))) (fun pre σ H' => ∃ (o1 o2 : Option V) (ms : List Int), σ = [some (.ref a), some (.ref b), some (.ref l0), o1, o2] ∧ pre = List.range pre.length ∧ Same H H' ∧ H' l0 = some (.lst (ms.map V.int)) ∧ ms.length = p.length + q.length ∧ ∀ i, co ms i = mu (p.take pre.length) (co q) i)
    ⟨_, _, List.replicate (p.length + q.length) 0, rfl, rfl, s4, upd_same, by rw [List.length_replicate], fun i => ?_⟩ ?_ ?_ ?_⟩
  · show _ = 0
    unfold co
    rw [List.getD_eq_getElem?_getD, List.getElem?_replicate]
    split <;> rfl
  · rintro pre σ H' _
    exact wkAt_range
  · rintro pre e post σ H' he ⟨o1, o2, ms, rfl, hpre, s5, hm, hlm, hco⟩
    have hlen := congrArg List.length he
    rw [List.length_range, List.length_append, List.length_cons] at hlen
    have ee : e = pre.length := by
      have := congrArg (fun l => l[pre.length]?) he
      simp only [List.getElem?_append_right (Nat.le_refl _), Nat.sub_self, List.getElem?_cons_zero] at this
      rw [List.getElem?_range (by omega)] at this
      exact (Option.some.inj this).symm
    subst ee
    have hpp : pre ++ [pre.length] = List.range (pre ++ [pre.length]).length := by
      rw [List.length_append, List.length_singleton, List.range_succ, ← hpre]
    have hk : pre.length < p.length := by omega
    have ez : Sz n p[pre.length] := mx _ (List.getElem_mem hk)
    try contradiction
    refine ⟨b, _, rfl, .inr (s5.tup hb), ?_⟩
    simp only [z_seq, z_next, z_ifS, z_ret, z_drop, z_asg, z_gname, z_par, z_var0, z_varS, z_c, z_op, z_un, z_rI, z_rI0, z_rU, z_eqI, z_neI, z_eqB, z_neB, z_test, z_tB, z_exb, z_exi, z_ex2, z_exl1, z_exl2, z_not, z_and, z_or, z_andV, z_orV, z_notV, z_if, z_call, z_nil, z_cons, z_cb, z_tup, z_lst, z_chain, z_comp, z_rng1, z_rng2, z_ilist, z_itup, z_exr, z_kp1, z_kp2, z_for, z_sl, z_nopart, z_part, z_bm0, z_bm, z_cxK, z_noxK, z_rev, z_ien, z_ienL, z_irv, z_gsub, z_exlr, z_intB, z_raise, z_try, z_tryAs, z_tryC, z_tryN, z_down, z_exd, z_revL, z_iany, z_izip, z_dnew, z_cv, cpσ, List.getElem?_cons_zero, List.getElem?_cons_succ, Option.join_some, List.set_cons_zero, List.set_cons_succ, List.append_nil, decide_eq_true_eq, Bool.not_eq_true', decide_eq_false_iff_not, Bool.not_not, ite_not, Bool.false_eq_true, Bool.true_eq_false, if_false, if_true, if_pos, List.length_cons, List.length_nil, Nat.zero_add, Nat.reduceAdd, small1, small2, true_and, and_true, L2.start, List.map_cons, List.map_nil, Bool.not_true, Bool.not_false, Nat.reduceSub, List.replicate_succ, List.replicate_zero, List.cons_append, List.nil_append, List.length_map, Int.toNat_natCast, Int.zero_add]
    refine ⟨by omega, by omega, fi_by (es := List.range q.length) (inj := fun i => .int (0 + (i : Nat))) (fun pre2 σ H2 => ∃ (o2 : Option V) (ms2 : List Int), σ = [some (.ref a), some (.ref b), some (.ref l0), some (.int (pre.length : Nat)), o2] ∧ pre2 = List.range pre2.length ∧ Same H H2 ∧ H2 l0 = some (.lst (ms2.map V.int)) ∧ ms2.length = p.length + q.length ∧
        ∀ i, co ms2 i = mu (p.take pre.length) (co q) i + (if pre.length ≤ i then p[pre.length] * co (q.take pre2.length) (i - pre.length) else 0)) ⟨_, ms, rfl, rfl, s5, hm, hlm, fun i => ?_⟩ ?_ ?_ ?_⟩
    · rw [hco, List.length_nil, List.take_zero, co_nil, Int.mul_zero]
      split <;> simp
    · rintro pre2 σ H2 _
      exact wkAt_range
    · rintro pre2 f post2 σ H2 he2 ⟨o2, ms2, rfl, hpre2, s7, hm7, hlm2, hco2⟩
      have hlen2 := congrArg List.length he2
      rw [List.length_range, List.length_append, List.length_cons] at hlen2
      have ff : f = pre2.length := by
        have := congrArg (fun l => l[pre2.length]?) he2
        simp only [List.getElem?_append_right (Nat.le_refl _), Nat.sub_self, List.getElem?_cons_zero] at this
        rw [List.getElem?_range (by omega)] at this
        exact (Option.some.inj this).symm
      subst ff
      have hpp2 : pre2 ++ [pre2.length] = List.range (pre2 ++ [pre2.length]).length := by
        rw [List.length_append, List.length_singleton, List.range_succ, ← hpre2]
      have hk2 : pre2.length < q.length := by omega
      have fz : Sz n' q[pre2.length] := my _ (List.getElem_mem hk2)
      have hj : pre.length + pre2.length < ms2.length := by omega
      simp only [z_seq, z_next, z_ifS, z_ret, z_drop, z_asg, z_gname, z_par, z_var0, z_varS, z_c, z_op, z_un, z_rI, z_rI0, z_rU, z_eqI, z_neI, z_eqB, z_neB, z_test, z_tB, z_exb, z_exi, z_ex2, z_exl1, z_exl2, z_not, z_and, z_or, z_andV, z_orV, z_notV, z_if, z_call, z_nil, z_cons, z_cb, z_tup, z_lst, z_chain, z_comp, z_rng1, z_rng2, z_ilist, z_itup, z_exr, z_kp1, z_kp2, z_for, z_sl, z_nopart, z_part, z_bm0, z_bm, z_cxK, z_noxK, z_rev, z_ien, z_ienL, z_irv, z_gsub, z_exlr, z_intB, z_raise, z_try, z_tryAs, z_tryC, z_tryN, z_down, z_exd, z_revL, z_iany, z_izip, z_dnew, z_cv, cpσ, List.getElem?_cons_zero, List.getElem?_cons_succ, Option.join_some, List.set_cons_zero, List.set_cons_succ, List.append_nil, decide_eq_true_eq, Bool.not_eq_true', decide_eq_false_iff_not, Bool.not_not, ite_not, Bool.false_eq_true, Bool.true_eq_false, if_false, if_true, if_pos, List.length_cons, List.length_nil, Nat.zero_add, Nat.reduceAdd, small1, small2, true_and, and_true, L2.start, List.map_cons, List.map_nil, Bool.not_true, Bool.not_false, Nat.reduceSub, List.replicate_succ, List.replicate_zero, List.cons_append, List.nil_append, Int.zero_add, ← Int.natCast_add]
      refine z_ixLn (.of hm7) (get_mapI hj) (z_ixT (s7.tup ha) (atI_nat (get_mapI hk)) (z_ixT (s7.tup hb) (atI_nat (get_mapI hk2)) ?_))
      try contradiction
      refine ⟨ez.mulOk fz (by omega), g_set hm7 (by rw [List.length_map]; exact hj) ?_⟩
      rw [set_mapI]
      refine ⟨_, ms2.set (pre.length + pre2.length) (ms2[pre.length + pre2.length] + p[pre.length] * q[pre2.length]), rfl, hpp2, ?_, upd_same, by rw [List.length_set]; exact hlm2, fun i => ?_⟩
      · intro c o hc
        rw [upd_ne (ne_of_none hc hnH)]
        exact s7 _ _ hc
      · rw [co_set _ _ _ hj, hco2 i, List.length_append, List.length_singleton]
        have tk : q.take (pre2.length + 1) = q.take pre2.length ++ [q[pre2.length]] := by rw [List.take_succ, List.getElem?_eq_getElem hk2]; rfl
        have tl : (q.take pre2.length).length = pre2.length := by rw [List.length_take]; omega
        rw [tk, co_snoc, tl]
        by_cases hi : i = pre.length + pre2.length
        · subst hi
          rw [if_pos rfl, ← co_get hj, hco2, if_pos (by omega), if_pos (by omega), if_pos (by omega), show pre.length + pre2.length - pre.length = pre2.length by omega, co_big (p := q.take pre2.length) (by omega)]
          omega
        · rw [if_neg hi]
          by_cases hi2 : pre.length ≤ i
          · rw [if_pos hi2, if_pos hi2, if_neg (by omega)]
          · rw [if_neg hi2, if_neg hi2]
    · rintro σ H2 ⟨o2, ms2, rfl, _, s7, hm7, hlm2, hco2⟩
      try contradiction
      refine ⟨_, _, ms2, rfl, hpp, s7, hm7, hlm2, fun i => ?_⟩
      have tk : p.take (pre.length + 1) = p.take pre.length ++ [p[pre.length]] := by rw [List.take_succ, List.getElem?_eq_getElem hk]; rfl
      have tl : (p.take pre.length).length = pre.length := by rw [List.length_take]; omega
      rw [List.length_append, List.length_singleton, tk, mu_snoc, hco2, tl, List.length_range, List.take_length]
  · rintro σ H' ⟨o1, o2, ms, rfl, _, s5, hm, hlm, hco⟩
    try contradiction
    exact k l0 H' ms s5 hm (by omega) fun i => by rw [hco, List.length_range, List.take_length]
def sp_q_sum (K : PySem.W.Frag) : Sp := fun vs H Q _ => ∃ (x y : V) (c : Int) (p q : List Int) (l l' n n' : Nat), vs = [x, y, .int c] ∧ Po K H x p l n ∧ Po K H y q l' n' ∧ l ≤ 400 ∧ l' ≤ 400 ∧ n' ≤ 1000000 ∧ Sz 2 c ∧ ∀ z H' (ms : List Int), Same H H' → H' z = some (.lst (ms.map V.int)) → ms.length ≤ max l l' → (∀ i, co ms i = co p i + c * co q i) → Q (.ref z) H'
theorem co_pad (p : List Int) (k i : Nat) : co (p ++ List.replicate k 0) i = co p i := by
  unfold co
  rw [List.getD_eq_getElem?_getD, List.getD_eq_getElem?_getD]
  by_cases h : i < p.length
  · rw [List.getElem?_append_left h]
  · rw [List.getElem?_append_right (by omega), List.getElem?_eq_none (l := p) (by omega), List.getElem?_replicate]
    split <;> rfl
theorem ok_q_sum {f : Addr} {fd : FuncData} (F : Df K mg "_law_sum" s_q_sum ["_law_one", "_law_other", "_law_way"] f fd) (z_max : mg "max" = none) (z_len : mg "len" = none) (z_list : mg "list" = none) (z_range : mg "range" = none)   : Cal P w K mg base 1 "_law_sum" ["_law_one", "_law_other", "_law_way"] (sp_q_sum K) := by
  refine F.cal (F.fn.ok sc_q_sum (fun vs H Q E h => ?_) (fun cdv A outer s H vs Q E hr h => ?_))
  · obtain ⟨x, y, c, p, q, _, _, _, _, rfl, _⟩ := h
    rfl
  obtain ⟨x, y, c, p, q, l, l', n, n', rfl, ⟨⟨a, rfl, ha⟩, tp, lp, zp⟩, ⟨⟨b, rfl, hb⟩, tq, lq, zq⟩, l5, l5', hn', hc, k⟩ := h
  have sz5 : 1000 ≤ sizeLine := by decide
  refine S.ex_out ⟨_, (S.pss_cons (S.ps_set (i := 3) sc_q_sum.nd rfl (Or.inl rfl) (S.pe_cB (call_max2 rfl) rfl z_max PyProof.Rows.boot_max (S.pa_cns (S.pe_cB call_len_seq rfl z_len PySem.boot_len (S.pa_cns (S.pv 0) S.pa_nil)) (S.pa_cns (S.pe_cB call_len_seq rfl z_len PySem.boot_len (S.pa_cns (S.pv 1) S.pa_nil)) S.pa_nil))))
      (S.pss_cons (S.ps_set (i := 4) sc_q_sum.nd rfl (Or.inr rfl) (S.pe_op op_cat (S.pe_cTy call_list_of rfl z_list PyProof.Rows.boot_list (S.pa_cns (S.pv 0) S.pa_nil)) (S.pe_op op_rep (S.pe_lst (S.pa_cns S.pe_int S.pa_nil)) (S.pe_op op_sub (S.pv 3) (S.pe_cB call_len_seq rfl z_len PySem.boot_len (S.pa_cns (S.pv 0) S.pa_nil))))))
      (S.pss_cons (S.ps_set (i := 5) sc_q_sum.nd rfl (Or.inr rfl) (S.pe_op op_cat (S.pe_cTy call_list_of rfl z_list PyProof.Rows.boot_list (S.pa_cns (S.pv 1) S.pa_nil)) (S.pe_op op_rep (S.pe_lst (S.pa_cns S.pe_int S.pa_nil)) (S.pe_op op_sub (S.pv 3) (S.pe_cB call_len_seq rfl z_len PySem.boot_len (S.pa_cns (S.pv 1) S.pa_nil))))))
      (S.pss_one (S.ps_ret (S.pe_comp (ts := ["_law_k"]) (fs := [(4, "_law_first"), (2, "_law_way"), (5, "_law_second")]) rfl (CpScope.of (sc := defScope s_q_sum) (N := ["_law_one", "_law_other", "_law_way", "_law_many", "_law_first", "_law_second"]) rfl rfl (by decide +kernel)) (S.pi_range1 rfl z_range (S.pa_cns (S.pv 3) S.pa_nil)) (fun _ _ _ => (S.pg_name (i := 0) (show List.Nodup (["_law_k", "_law_first", "_law_way", "_law_second"] : List Str) by decide +kernel) rfl (Or.inl rfl))) (fun _ _ _ => S.pts_nil) (fun _ _ _ => (S.pe_op op_add (S.pe_ix (ix_listK K) (S.pv 1) (S.pv 0) (fun _ _ => rfl)) (S.pe_op op_mulM (S.pv 2) (S.pe_ix (ix_listK K) (S.pv 3) (S.pv 0) (fun _ _ => rfl))))))))))), ?_⟩
  contradiction
  refine ⟨a, _, rfl, .inr ha, b, _, rfl, .inr hb, ?_⟩
  simp only [z_seq, z_next, z_ifS, z_ret, z_drop, z_asg, z_gname, z_par, z_var0, z_varS, z_c, z_op, z_un, z_rI, z_rI0, z_rU, z_eqI, z_neI, z_eqB, z_neB, z_test, z_tB, z_exb, z_exi, z_ex2, z_exl1, z_exl2, z_not, z_and, z_or, z_andV, z_orV, z_notV, z_if, z_call, z_nil, z_cons, z_cb, z_tup, z_lst, z_chain, z_comp, z_rng1, z_rng2, z_ilist, z_itup, z_exr, z_kp1, z_kp2, z_for, z_sl, z_nopart, z_part, z_bm0, z_bm, z_cxK, z_noxK, z_rev, z_ien, z_ienL, z_irv, z_gsub, z_exlr, z_intB, z_raise, z_try, z_tryAs, z_tryC, z_tryN, z_down, z_exd, z_revL, z_iany, z_izip, z_dnew, z_cv, cpσ, List.getElem?_cons_zero, List.getElem?_cons_succ, Option.join_some, List.set_cons_zero, List.set_cons_succ, List.append_nil, decide_eq_true_eq, Bool.not_eq_true', decide_eq_false_iff_not, Bool.not_not, ite_not, Bool.false_eq_true, Bool.true_eq_false, if_false, if_true, if_pos, List.length_cons, List.length_nil, Nat.zero_add, Nat.reduceAdd, small1, small2, true_and, and_true, L2.start, List.map_cons, List.map_nil, Bool.not_true, Bool.not_false, Nat.reduceSub, List.replicate_succ, List.replicate_zero, List.cons_append, List.nil_append, List.length_map, max_eq']
  refine ⟨a, _, rfl, .inr ha, fun l1 hn1 p1 hp1 => ?_⟩
  have s1 := Same.upd hn1 (.lst (p.map V.int))
  have s2 := s1.trans (Same.upd hp1 (.lst [V.int 0]))
  refine ⟨a, _, rfl, .inr (s2.tup ha), ?_⟩
  have e1 : (((max p.length q.length : Nat) : Int) - ((p.map V.int).length : Nat)).toNat = max p.length q.length - p.length := by rw [List.length_map]; omega
  refine ⟨p1, _, [V.int 0], rfl, rfl, upd_same, by rw [List.length_map]; omega, by rw [List.length_map]; omega, by rw [e1]; simp only [List.length_cons, List.length_nil]; omega, fun l2 hn2 => ?_⟩
  rw [e1, flat_zero]
  have n1 : l1 ≠ p1 := fun z => by rw [← z, upd_same] at hp1; cases hp1
  have n2 : l1 ≠ l2 := fun z => by rw [← z, upd_ne n1, upd_same] at hn2; cases hn2
  have s3 := s2.trans (Same.upd hn2 (.lst ((List.replicate (max p.length q.length - p.length) (0 : Int)).map V.int)))
  refine ⟨l1, l2, _, _, rfl, rfl, (upd_ne n2).trans ((upd_ne n1).trans upd_same), upd_same, by rw [List.length_map, List.length_map, List.length_replicate]; omega, fun l3 hn3 => ?_⟩
  rw [← List.map_append]
  have s4 := s3.trans (Same.upd hn3 (.lst ((p ++ List.replicate (max p.length q.length - p.length) 0).map V.int)))
  try contradiction
  refine ⟨b, _, rfl, .inr (s4.tup hb), fun l4 hn4 p2 hp2 => ?_⟩
  have s5 := Same.upd hn4 (.lst (q.map V.int))
  have s6 := s5.trans (Same.upd hp2 (.lst [V.int 0]))
  refine ⟨b, _, rfl, .inr ((s4.trans s6).tup hb), ?_⟩
  have e2 : (((max p.length q.length : Nat) : Int) - ((q.map V.int).length : Nat)).toNat = max p.length q.length - q.length := by rw [List.length_map]; omega
  refine ⟨p2, _, [V.int 0], rfl, rfl, upd_same, by rw [List.length_map]; omega, by rw [List.length_map]; omega, by rw [e2]; simp only [List.length_cons, List.length_nil]; omega, fun l5 hn5 => ?_⟩
  rw [e2, flat_zero]
  have n4 : l4 ≠ p2 := fun z => by rw [← z, upd_same] at hp2; cases hp2
  have n5 : l4 ≠ l5 := fun z => by rw [← z, upd_ne n4, upd_same] at hn5; cases hn5
  have s7 := s6.trans (Same.upd hn5 (.lst ((List.replicate (max p.length q.length - q.length) (0 : Int)).map V.int)))
  refine ⟨l4, l5, _, _, rfl, rfl, (upd_ne n5).trans ((upd_ne n4).trans upd_same), upd_same, by rw [List.length_map, List.length_map, List.length_replicate]; omega, fun l6 hn6 => ?_⟩
  rw [← List.map_append]
  have s8 := s7.trans (Same.upd hn6 (.lst ((q ++ List.replicate (max p.length q.length - q.length) 0).map V.int)))
  have g3 := s8 l3 _ upd_same
  simp only [z_seq, z_next, z_ifS, z_ret, z_drop, z_asg, z_gname, z_par, z_var0, z_varS, z_c, z_op, z_un, z_rI, z_rI0, z_rU, z_eqI, z_neI, z_eqB, z_neB, z_test, z_tB, z_exb, z_exi, z_ex2, z_exl1, z_exl2, z_not, z_and, z_or, z_andV, z_orV, z_notV, z_if, z_call, z_nil, z_cons, z_cb, z_tup, z_lst, z_chain, z_comp, z_rng1, z_rng2, z_ilist, z_itup, z_exr, z_kp1, z_kp2, z_for, z_sl, z_nopart, z_part, z_bm0, z_bm, z_cxK, z_noxK, z_rev, z_ien, z_ienL, z_irv, z_gsub, z_exlr, z_intB, z_raise, z_try, z_tryAs, z_tryC, z_tryN, z_down, z_exd, z_revL, z_iany, z_izip, z_dnew, z_cv, cpσ, List.getElem?_cons_zero, List.getElem?_cons_succ, Option.join_some, List.set_cons_zero, List.set_cons_succ, List.append_nil, decide_eq_true_eq, Bool.not_eq_true', decide_eq_false_iff_not, Bool.not_not, ite_not, Bool.false_eq_true, Bool.true_eq_false, if_false, if_true, if_pos, List.length_cons, List.length_nil, Nat.zero_add, Nat.reduceAdd, small1, small2, true_and, and_true, L2.start, List.map_cons, List.map_nil, Bool.not_true, Bool.not_false, Nat.reduceSub, List.replicate_succ, List.replicate_zero, List.cons_append, List.nil_append, Int.toNat_natCast]
  refine ⟨by omega, by omega, fun l7 hn7 => cin_map (es := List.range (max p.length q.length)) (inj := fun i => .int (0 + (i : Nat))) (fun i => .int (co p i + c * co q i)) (by rw [List.length_range]; omega) hn7 wk_range ?_ ?_⟩
  · intro e H2 R he s9 hR
    have he' := List.mem_range.mp he
    have q1 : e < (p ++ List.replicate (max p.length q.length - p.length) 0).length := by rw [List.length_append, List.length_replicate]; omega
    have q2 : e < (q ++ List.replicate (max p.length q.length - q.length) 0).length := by rw [List.length_append, List.length_replicate]; omega
    simp only [z_seq, z_next, z_ifS, z_ret, z_drop, z_asg, z_gname, z_par, z_var0, z_varS, z_c, z_op, z_un, z_rI, z_rI0, z_rU, z_eqI, z_neI, z_eqB, z_neB, z_test, z_tB, z_exb, z_exi, z_ex2, z_exl1, z_exl2, z_not, z_and, z_or, z_andV, z_orV, z_notV, z_if, z_call, z_nil, z_cons, z_cb, z_tup, z_lst, z_chain, z_comp, z_rng1, z_rng2, z_ilist, z_itup, z_exr, z_kp1, z_kp2, z_for, z_sl, z_nopart, z_part, z_bm0, z_bm, z_cxK, z_noxK, z_rev, z_ien, z_ienL, z_irv, z_gsub, z_exlr, z_intB, z_raise, z_try, z_tryAs, z_tryC, z_tryN, z_down, z_exd, z_revL, z_iany, z_izip, z_dnew, z_cv, cpσ, List.getElem?_cons_zero, List.getElem?_cons_succ, Option.join_some, List.set_cons_zero, List.set_cons_succ, List.append_nil, decide_eq_true_eq, Bool.not_eq_true', decide_eq_false_iff_not, Bool.not_not, ite_not, Bool.false_eq_true, Bool.true_eq_false, if_false, if_true, if_pos, List.length_cons, List.length_nil, Nat.zero_add, Nat.reduceAdd, small1, small2, true_and, and_true, L2.start, List.map_cons, List.map_nil, Bool.not_true, Bool.not_false, Nat.reduceSub, List.replicate_succ, List.replicate_zero, List.cons_append, List.nil_append, Int.zero_add]
    refine z_ixLn (.of (s9 _ _ g3)) (get_mapI q1) (z_ixLn (.of (s9 _ _ upd_same)) (get_mapI q2) ?_)
    try contradiction
    rw [← co_get q1, ← co_get q2, co_pad, co_pad]
    exact ⟨hc.mulOk (zq e) (by omega), hR _ (Same.refl _)⟩
  · intro H2 s9 h9
    have em : (List.range (max p.length q.length)).map (fun i => V.int (co p i + c * co q i)) = ((List.range (max p.length q.length)).map fun i => co p i + c * co q i).map V.int := by rw [List.map_map]; rfl
    rw [em] at h9
    refine k l7 H2 _ ((s4.trans s8).trans s9) h9 (by rw [List.length_map, List.length_range]; omega) fun i => ?_
    by_cases hi : i < max p.length q.length
    · rw [co_get (by rw [List.length_map, List.length_range]; exact hi)]
      simp
    · rw [co_big (by rw [List.length_map, List.length_range]; omega), co_big (p := p) (by omega), co_big (p := q) (by omega)]
      simp
--SPLIT
def sp_q_weights (K : PySem.W.Frag) : Sp := fun vs H Q _ => ∃ (a : Addr) (m : Int) (ns : List Int) (t : Nat), vs = [.ref a, .int m] ∧ SqL K H a (ns.map V.int) ∧ 11 ≤ ns.length ∧ ns.length ≤ 100 ∧ 0 < m ∧ Sz 70 m ∧ co ns 0 = (t : Nat) ∧ t < 10 ∧ 0 ≤ co ns 1 ∧ co ns 1 < 3 ∧ (∀ i, 2 ≤ i → i < 11 → 0 ≤ co ns i ∧ co ns i < 2 * 10 ^ 20) ∧ ∀ z H' (ws : List Int), Same H H' → H' z = some (.lst (ws.map V.int)) → ws.length ≤ 9 → (∀ w ∈ ws, Sz 70 w) → Q (.ref z) H'
theorem ok_q_weights {f : Addr} {fd : FuncData} (F : Df K mg "_law_weights" s_q_weights ["_law_parts_here", "_law_m"] f fd)    : Cal P w K mg base 1 "_law_weights" ["_law_parts_here", "_law_m"] (sp_q_weights K) := by
  refine F.cal (F.fn.ok sc_q_weights (fun vs H Q E h => ?_) (fun cdv A outer s H vs Q E hr h => ?_))
  · obtain ⟨a, m, ns, t, rfl, _⟩ := h
    rfl
  obtain ⟨a, m, ns, t, rfl, hS, h11, h100, hm, hz, e0, t9, p0, p1, hw, q⟩ := h
  refine S.ex_out ⟨_, (S.pss_cons (S.ps_set (i := 2) sc_q_weights.nd rfl (Or.inl rfl) (S.pe_ix ix_list (S.pv 0) S.pe_int (fun _ _ => rfl)))
      (S.pss_one (S.ps_ret (S.pe_comp (ts := ["_law_weight"]) (fs := [(0, "_law_parts_here"), (1, "_law_m")]) rfl (CpScope.of (sc := defScope s_q_weights) (N := ["_law_parts_here", "_law_m", "_law_many"]) rfl rfl (by decide +kernel)) (S.pi_list (S.pe_slice sl_list (S.pv 0) (S.po_some S.pe_int) (S.po_some (S.pe_op op_add S.pe_int (S.pv 2))))) (fun _ _ _ => (S.pg_name (i := 0) (show List.Nodup (["_law_weight", "_law_parts_here", "_law_m"] : List Str) by decide +kernel) rfl (Or.inl rfl))) (fun _ _ _ => S.pts_nil) (fun _ _ _ => (S.pe_ix (ix_listK K) (S.pe_lst (S.pa_cns (S.pe_op op_sub (S.pv 0) (S.pe_op op_pow S.pe_int S.pe_int)) (S.pa_cns (S.pe_op op_sub (S.pe_op op_mod (S.pv 0) S.pe_int) S.pe_int) (S.pa_cns (S.pe_op op_mod (S.pv 0) (S.pv 2)) S.pa_nil)))) (S.pe_ix (ix_listK K) (S.pv 1) S.pe_int (fun _ _ => rfl)) (fun _ _ => rfl))))))), ?_⟩
  contradiction
  refine z_ixL hS (v := .int (t : Nat)) ?_ ?_
  · rw [← e0, co_get (by omega)]
    exact atI_nat (j := 0) (get_mapI (by omega))
  try contradiction
  have ec : cutV (ns.map V.int) (some 2) (some (2 + ((t : Nat) : Int))) = ((ns.drop 2).take t).map V.int := by
    unfold cutV
    rw [show (2 + ((t : Nat) : Int)) = ((2 + t : Nat) : Int) by omega, show (2 : Int) = ((2 : Nat) : Int) from rfl, HT.sIx_nat, HT.sIx_nat, List.length_map, Nat.min_eq_left (by omega), Nat.min_eq_left (by omega), ← List.map_drop, ← List.map_take]
    congr 1
    congr 1
    omega
  refine ⟨a, _, rfl, hS, fun c hc => ?_⟩
  rw [ec]
  have sc := Same.upd hc (.lst (((ns.drop 2).take t).map V.int))
  refine ⟨c, rfl, ⟨_, .of upd_same⟩, fun d hd => cin_ints (es := (ns.drop 2).take t) (inj := V.int) (fun _ n => Sz 70 n) (Nat.le_trans (List.length_take_le _ _) (Nat.le_trans (Nat.le_of_lt t9) (by decide))) hd (wk_list (.of upd_same)) ?_ ?_⟩
  · intro e H2 R he s2 hR
    obtain ⟨i, hi, ei⟩ := List.getElem_of_mem he
    have hi' : i < t := by
      have := List.length_take_le t (ns.drop 2)
      omega
    have ee : e = co ns (2 + i) := by
      rw [← ei, List.getElem_take, List.getElem_drop, co_get (by omega)]
    have eb := hw (2 + i) (by omega) (by omega)
    rw [← ee] at eb
    contradiction
    refine ⟨⟨by decide, by decide, by decide⟩, by decide, hm, by decide, fun p2 hp2 => ?_⟩
    have s3 := Same.upd hp2 (.lst [V.int (e - 10 ^ Int.toNat 20), V.int (e % 7 - 3), V.int (e % m)])
    refine z_ixL (((sc.trans s2).trans s3).seq hS) (v := .int (co ns 1)) (by rw [co_get (by omega)]; exact atI_nat (j := 1) (get_mapI (by omega))) ?_
    have c20 : (10 : Int) ^ Int.toNat 20 = 10 ^ 20 := rfl
    have z1 : Sz 70 (e - 10 ^ Int.toNat 20) := by unfold Sz; omega
    have z2 : Sz 70 (e % 7 - 3) := by unfold Sz; omega
    have z3 : Sz 70 (e % m) := sz_mod hm hz _
    generalize e - 10 ^ Int.toNat 20 = v1 at *
    generalize e % 7 - 3 = v2 at *
    generalize e % m = v3 at *
    have m : ∃ v, atI [V.int v1, V.int v2, V.int v3] (co ns 1) = some (.int v) ∧ Sz 70 v := by
      have : co ns 1 = 0 ∨ co ns 1 = 1 ∨ co ns 1 = 2 := by omega
      rcases this with h | h | h <;> rw [h]
      · exact ⟨_, rfl, z1⟩
      · exact ⟨_, rfl, z2⟩
      · exact ⟨_, rfl, z3⟩
    obtain ⟨v, ev, vz⟩ := m
    exact z_ixL (.of upd_same) ev (hR v _ s3 vz)
  · intro ws H2 hl hz2 s2 h2
    refine q d H2 ws (sc.trans s2) h2 ?_ fun w hw' => ?_
    · have := List.length_take_le t (ns.drop 2)
      omega
    · obtain ⟨j, hj, e⟩ := List.getElem_of_mem hw'
      exact hz2 j ((ns.drop 2).take t)[j] w (by rw [List.getElem?_eq_getElem]) (by rw [List.getElem?_eq_getElem hj, e])
def sp_q_divides_both (_ : PySem.W.Frag) : Sp := fun vs H Q _ => ∃ (a b : Int), vs = [.int a, .int b] ∧ 0 ≤ b ∧ Q (.int ((Int.gcd a b : Nat) : Int)) H
theorem ok_q_divides_both {f : Addr} {fd : FuncData} (F : Df K mg "_law_divides_both" s_q_divides_both ["_law_one", "_law_other"] f fd) (z_abs : mg "abs" = none)   : Cal P w K mg base 1 "_law_divides_both" ["_law_one", "_law_other"] (sp_q_divides_both K) := by
  refine F.cal (F.fn.ok sc_q_divides_both (fun vs H Q E h => ?_) (fun cdv A outer s H vs Q E hr h => ?_))
  · obtain ⟨a, b, rfl, _⟩ := h
    rfl
  obtain ⟨a, b, rfl, b0, q⟩ := h
  refine S.ex_out ⟨_, (S.pss_cons (S.ps_while PassesOwn.never (S.pt_cmpR op_ne (S.pv 1) S.pe_int (nomark _)) (S.pss_one (S.ps_par (i := 0) (j := 1) rfl sc_q_divides_both.nd rfl rfl (by decide) rfl rfl (S.pa_cns (S.pv 1) (S.pa_cns (S.pe_op op_mod (S.pv 0) (S.pv 1)) S.pa_nil)) rfl)))
      (S.pss_one (S.ps_ret (S.pe_cB call_abs rfl z_abs PyProof.Rows.boot_abs (S.pa_cns (S.pv 0) S.pa_nil))))), ?_⟩
  contradiction
  refine while_go (fun σ H' => H' = H ∧ ∃ x y : Int, σ = [some (.int x), some (.int y)] ∧ 0 ≤ y ∧ Int.gcd x y = Int.gcd a b) (fun σ _ => match σ with | [_, some (.int y)] => y.toNat | _ => 0) ⟨rfl, a, b, rfl, b0, rfl⟩ ?_
  rintro σ H' ⟨rfl, x, y, rfl, y0, hg⟩
  contradiction
  by_cases hy : y = 0
  · rw [if_pos hy]
    subst hy
    rw [Int.gcd_zero_right] at hg
    simp only [z_seq, z_next, z_ifS, z_ret, z_drop, z_asg, z_gname, z_par, z_var0, z_varS, z_c, z_op, z_un, z_rI, z_rI0, z_rU, z_eqI, z_neI, z_eqB, z_neB, z_test, z_tB, z_exb, z_exi, z_ex2, z_exl1, z_exl2, z_not, z_and, z_or, z_andV, z_orV, z_notV, z_if, z_call, z_nil, z_cons, z_cb, z_tup, z_lst, z_chain, z_comp, z_rng1, z_rng2, z_ilist, z_itup, z_exr, z_kp1, z_kp2, z_for, z_sl, z_nopart, z_part, z_bm0, z_bm, z_cxK, z_noxK, z_rev, z_ien, z_ienL, z_irv, z_gsub, z_exlr, z_intB, z_raise, z_try, z_tryAs, z_tryC, z_tryN, z_down, z_exd, z_revL, z_iany, z_izip, z_dnew, z_cv, cpσ, List.getElem?_cons_zero, List.getElem?_cons_succ, Option.join_some, List.set_cons_zero, List.set_cons_succ, List.append_nil, decide_eq_true_eq, Bool.not_eq_true', decide_eq_false_iff_not, Bool.not_not, ite_not, Bool.false_eq_true, Bool.true_eq_false, if_false, if_true, if_pos, List.length_cons, List.length_nil, Nat.zero_add, Nat.reduceAdd, small1, small2, true_and, and_true, L2.start, List.map_cons, List.map_nil, Bool.not_true, Bool.not_false, Nat.reduceSub, List.replicate_succ, List.replicate_zero, List.cons_append, List.nil_append, abs_eq]
    rw [hg]
    exact q
  · rw [if_neg hy]
    refine wb_of ?_
    try contradiction
    have r0 := Int.emod_nonneg x hy
    have r1 := Int.emod_lt_of_pos x (by omega : 0 < y)
    refine ⟨by omega, ⟨_, _, rfl, r0, ?_⟩, by omega⟩
    have e : x % y = x - x / y * y := by
      have := Int.mul_ediv_add_emod x y
      rw [Int.mul_comm] at this
      omega
    rw [e, gcd_rem]
    exact hg
theorem z_eqS {H : Hp} {Q : VK} {x y : Str} : rEq (.str x) (.str y) H Q = Q (.bl (decide (x = y))) H := by
  unfold rEq
  simp only [scal, V.str.injEq, true_and]
theorem z_neS {H : Hp} {Q : VK} {x y : Str} : rNe (.str x) (.str y) H Q = Q (.bl (!decide (x = y))) H := by
  unfold rNe
  simp only [scal, V.str.injEq, true_and]
def sp_q_inverse_right (K : PySem.W.Frag) : Sp := fun vs H Q _ => ∃ (a m : Int), vs = [.int a, .int m] ∧ 1 < m ∧ Sz 70 m ∧ Sz 71 a ∧ ∀ H', Same H H' → Q (.bl true) H'
theorem ok_q_inverse_right {f : Addr} {fd : FuncData} (F : Df K mg "_law_inverse_right" s_q_inverse_right ["_law_figure", "_law_m"] f fd) (z_isinstance : mg "isinstance" = none) (z_bool : mg "bool" = none) (z_int : mg "int" = none) (xk_CourtError : ExcK K (cA K "CourtError")) (xm_CourtError : mg "CourtError" = some (.ref (cA K "CourtError"))) (xk_NoPart : ExcK K (cA K "NoPart")) (xi_NoPart : ExcI K (cA K "NoPart")) (xs_NoPart_CourtError : PySem.W.mroIn K (cA K "NoPart") (.ref (cA K "CourtError")) = some true) (xm_NoPart : mg "NoPart" = some (.ref (cA K "NoPart"))) (ki_NoPart_NoPart : PySem.W.kitOne K (.ref (cA K "NoPart")) (.ref (cA K "NoPart")) = some true) (xm_NoFree : mg "NoFree" = some (.ref (cA K "NoFree"))) (ki_NoPart_NoFree : PySem.W.kitOne K (.ref (cA K "NoPart")) (.ref (cA K "NoFree")) = some false) (xm_TooGreat : mg "TooGreat" = some (.ref (cA K "TooGreat"))) (ki_NoPart_TooGreat : PySem.W.kitOne K (.ref (cA K "NoPart")) (.ref (cA K "TooGreat")) = some false) (ce_inverse_by : CalE P w K mg base 1 "inverse_by" ["number", "m"] (spE_inverse_by K)) (c_q_divides_both : Cal P w K mg base 1 "_law_divides_both" ["_law_one", "_law_other"] (sp_q_divides_both K)) : Cal P w K mg base 2 "_law_inverse_right" ["_law_figure", "_law_m"] (sp_q_inverse_right K) := by
  refine F.cal (F.fn.ok sc_q_inverse_right (fun vs H Q E h => ?_) (fun cdv A outer s H vs Q E hr h => ?_))
  · obtain ⟨a, m, rfl, _⟩ := h
    rfl
  obtain ⟨a, m, rfl, hm, hz, ha, k⟩ := h
  refine S.ex_out ⟨_, (S.pss_cons (S.ps_set (i := 2) sc_q_inverse_right.nd rfl (Or.inl rfl) S.pe_non)
      (S.pss_cons (S.ps_set (i := 3) sc_q_inverse_right.nd rfl (Or.inl rfl) S.pe_str)
      (S.pss_cons (S.ps_tryC (i := 4) (Cs := [cA K "NoPart"]) ce_inverse_by (hr.mono (by decide)) (S.pa_cns (S.pv 0) (S.pa_cns (S.pv 1) S.pa_nil)) (S.body_set (i := 2) sc_q_inverse_right.nd rfl (Or.inl rfl)) xk_CourtError xm_CourtError (allc ⟨xk_NoPart, xi_NoPart, xs_NoPart_CourtError⟩ alln) (fun Cx hxi x oe hc => (S.pss_cons (S.ps_set (i := 3) sc_q_inverse_right.nd rfl (Or.inl rfl) S.pe_str)
      (S.pss_one (S.ps_if (S.PW_pt (S.pw_and (S.pt_val (S.pe_cB (call_isiE (List.mem_cons_self ..) hc hxi) rfl z_isinstance PyProof.Rows.boot_isinstance (S.pa_cns (S.pv 4) (S.pa_cns (S.pe_glob (v := .ref (cA K "NoPart")) rfl xm_NoPart rfl) S.pa_nil)))) (S.pw_and (S.pt_not (S.pt_val (S.pe_cB (call_isiE (List.mem_cons_self ..) hc hxi) rfl z_isinstance PyProof.Rows.boot_isinstance (S.pa_cns (S.pv 4) (S.pa_cns (S.pe_glob (v := .ref (cA K "NoFree")) rfl xm_NoFree rfl) S.pa_nil))))) (S.pw_and1 (S.pt_not (S.pt_val (S.pe_cB (call_isiE (List.mem_cons_self ..) hc hxi) rfl z_isinstance PyProof.Rows.boot_isinstance (S.pa_cns (S.pv 4) (S.pa_cns (S.pe_glob (v := .ref (cA K "TooGreat")) rfl xm_TooGreat rfl) S.pa_nil))))))))) (S.pss_one (S.ps_set (i := 3) sc_q_inverse_right.nd rfl (Or.inl rfl) S.pe_str)) S.pss_nil)))) sc_q_inverse_right.nd rfl)
      (S.pss_cons (S.ps_if (S.pt_cmpR op_ne (S.pe_cD c_q_divides_both (hr.mono (by decide)) (S.pa_cns (S.pv 0) (S.pa_cns (S.pv 1) S.pa_nil))) S.pe_int (nomark _)) (S.pss_one (S.ps_ret (S.pe_cmpR op_eq (S.pv 3) S.pe_str (nomark _)))) S.pss_nil)
      (S.pss_cons (S.ps_if (S.PW_pt (S.pw_or (S.pt_cmpR op_ne (S.pv 3) S.pe_str (nomark _)) (S.pw_or (S.pt_not (S.pt_val (S.pe_cB call_isi rfl z_isinstance PyProof.Rows.boot_isinstance (S.pa_cns (S.pv 2) (S.pa_cns (S.pe_bltn (v := .ty "int") rfl z_int PyProof.Rows.boot_int rfl) S.pa_nil))))) (S.pw_or1 (S.pt_val (S.pe_cB call_isi rfl z_isinstance PyProof.Rows.boot_isinstance (S.pa_cns (S.pv 2) (S.pa_cns (S.pe_bltn (v := .ty "bool") rfl z_bool PyProof.Rows.boot_bool rfl) S.pa_nil)))))))) (S.pss_one (S.ps_ret S.pe_bl)) S.pss_nil)
      (S.pss_one (S.ps_ret (S.pe_and (S.pe_chain op_le op_lt S.pe_int (S.pv 2) (S.pv 1)) (S.pe_one (S.pe_cmpR op_eq (S.pe_op op_mod (S.pe_op op_mulM (S.pv 2) (S.pv 0)) (S.pv 1)) S.pe_int (nomark _))))))))))), ?_⟩
  contradiction
  refine ⟨a, m, 70, rfl, hm, hz, by decide, fun hg => ?_, fun hg r r0 r1 hr => ?_⟩
  · refine ⟨_, rfl, List.mem_cons_self .., fun x oe hc => ?_⟩
    try contradiction
    refine ⟨true, .inl ⟨_, rfl, ki_NoPart_NoPart⟩, ?_⟩
    try contradiction
    refine ⟨false, .inl ⟨_, rfl, ki_NoPart_NoFree⟩, ?_⟩
    try contradiction
    refine ⟨false, .inl ⟨_, rfl, ki_NoPart_TooGreat⟩, ?_⟩
    try contradiction
    refine ⟨a, m, rfl, by omega, ?_⟩
    try contradiction
    rw [if_neg (by omega), z_eqS, decide_eq_true rfl]
    exact k _ (Same.refl _)
  · try contradiction
    refine ⟨a, m, rfl, by omega, ?_⟩
    try contradiction
    rw [if_pos (by omega), z_neS, decide_eq_true rfl]
    try contradiction
    refine isi (.int _) kit_ii ?_
    try contradiction
    refine isi (.int _) kit_ib ?_
    try contradiction
    rw [if_pos r0, if_pos r1, decide_eq_true hr]
    exact ⟨(hz.of_abs (by omega) : Sz 70 r).mulOk ha (by decide), by omega, k _ (Same.refl _)⟩
--SPLIT
theorem kit_tt : PySem.W.kitOne K (.type "tuple") (.type "tuple") = some true := kitT (by decide +kernel)
inductive TyA (K : PySem.W.Frag) (H : Hp) : V → Value → Prop where
  | of {v : V} {t : Value} (h : TyOf K H v t) : TyA K H v t
  | tup {a : Addr} {xs : List V} (h : SqT K H a xs) : TyA K H (.ref a) (.type "tuple")
theorem call_isA {X : Cx} : CallR X (.builtin "isinstance") (fun xs H Q => ∃ x t T b, xs = [x, .ty T] ∧ TyA X.K H x t ∧ PySem.W.kitOne X.K t (.type T) = some b ∧ Q (.bl b) H) := by
  intro pins s σ H xs us Q I r h
  obtain ⟨x, t, T, b, rfl, ht, hk, q⟩ := h
  cases ht with
  | of ht => exact call_isi pins s σ H _ us Q I r ⟨x, t, T, b, rfl, ht, hk, q⟩
  | tup hs => exact call_isT pins s σ H _ us Q I r ⟨_, _, T, b, rfl, hs, hk, q⟩
theorem call_isAK {X : Cx} (K : PySem.W.Frag) (h : X.K = K := by rfl) : CallR X (.builtin "isinstance") (fun xs H Q => ∃ x t T b, xs = [x, .ty T] ∧ TyA K H x t ∧ PySem.W.kitOne K t (.type T) = some b ∧ Q (.bl b) H) := by
  subst h
  exact call_isA
theorem isa {H : Hp} {GB : Bool → Prop} {v : V} {t : Value} {T : String} {b : Bool} (ht : TyA K H v t) (hk : PySem.W.kitOne K t (.type T) = some b) (q : GB b) :
    ∃ x t' T' b', [v, V.ty T] = [x, V.ty T'] ∧ TyA K H x t' ∧ PySem.W.kitOne K t' (.type T') = some b' ∧ GB b' := ⟨v, t, T, b, rfl, ht, hk, q⟩
theorem md_ext {p q : List Int} {m : Int} (h : ∀ i, co p i % m = co q i % m) : md p m = md q m := (md_tr _ _).ext (md_tr _ _) fun i => by rw [md_co, md_co, h]
def sp_q_right (K : PySem.W.Frag) : Sp := fun vs H Q _ => ∃ (x y : V) (m : Int) (p q : List Int), vs = [x, y, .int m] ∧ Po K H x p 9 70 ∧ Po K H y q 9 70 ∧ 0 < m ∧ Sz 70 m ∧ ∀ H', Same H H' → Q (.bl true) H'
theorem ok_q_right {f : Addr} {fd : FuncData} (F : Df K mg "_law_right" s_q_right ["_law_one", "_law_other", "_law_m"] f fd) (z_all : mg "all" = none) (z_isinstance : mg "isinstance" = none) (z_tuple : mg "tuple" = none)  (c_q_sum : Cal P w K mg base 1 "_law_sum" ["_law_one", "_law_other", "_law_way"] (sp_q_sum K)) (c_q_product : Cal P w K mg base 1 "_law_product" ["_law_one", "_law_other"] (sp_q_product K)) (c_m_plus : Cal P w K mg base 4 "m_plus" ["one", "other", "m"] (sp_m_plus K)) (c_m_minus : Cal P w K mg base 5 "m_minus" ["one", "other", "m"] (sp_m_minus K)) (c_m_times : Cal P w K mg base 3 "m_times" ["one", "other", "m"] (sp_m_times K)) (c_q_remainders : Cal P w K mg base 2 "_law_remainders" ["_law_weights_here", "_law_m"] (sp_q_remainders K)) : Cal P w K mg base 6 "_law_right" ["_law_one", "_law_other", "_law_m"] (sp_q_right K) := by
  refine F.cal (F.fn.ok sc_q_right (fun vs H Q E h => ?_) (fun cdv A outer s H vs Q E hr h => ?_))
  · obtain ⟨x, y, m, p, q, rfl, _⟩ := h
    rfl
  obtain ⟨x, y, m, p, q, rfl, hx, hy, hm, hz, k⟩ := h
  refine S.ex_out ⟨_, (S.pss_cons (S.ps_set (i := 3) sc_q_right.nd rfl (Or.inl rfl) (S.pe_lst (S.pa_cns (S.pe_cD c_q_sum (hr.mono (by decide)) (S.pa_cns (S.pv 0) (S.pa_cns (S.pv 1) (S.pa_cns S.pe_int S.pa_nil)))) (S.pa_cns (S.pe_cD c_q_sum (hr.mono (by decide)) (S.pa_cns (S.pv 0) (S.pa_cns (S.pv 1) (S.pa_cns (S.pe_un un_neg S.pe_int) S.pa_nil)))) (S.pa_cns (S.pe_cD c_q_product (hr.mono (by decide)) (S.pa_cns (S.pv 0) (S.pa_cns (S.pv 1) S.pa_nil))) S.pa_nil)))))
      (S.pss_cons (S.ps_set (i := 4) sc_q_right.nd rfl (Or.inl rfl) (S.pe_lst (S.pa_cns (S.pe_cD c_m_plus (hr.mono (by decide)) (S.pa_cns (S.pv 0) (S.pa_cns (S.pv 1) (S.pa_cns (S.pv 2) S.pa_nil)))) (S.pa_cns (S.pe_cD c_m_minus (hr.mono (by decide)) (S.pa_cns (S.pv 0) (S.pa_cns (S.pv 1) (S.pa_cns (S.pv 2) S.pa_nil)))) (S.pa_cns (S.pe_cD c_m_times (hr.mono (by decide)) (S.pa_cns (S.pv 0) (S.pa_cns (S.pv 1) (S.pa_cns (S.pv 2) S.pa_nil)))) S.pa_nil)))))
      (S.pss_cons (S.ps_if (S.pt_not (S.pt_val (S.pe_cB (call_all rfl) rfl z_all PyProof.Rows.boot_all (S.pa_cns (S.pe_comp (ts := ["_law_told"]) (fs := []) rfl (CpScope.of (sc := defScope s_q_right) (N := ["_law_one", "_law_other", "_law_m", "_law_due", "_law_found"]) rfl rfl (by decide +kernel)) (S.pi_list (S.pv 4)) (fun _ _ _ => (S.pg_name (i := 0) (show List.Nodup (["_law_told"] : List Str) by decide +kernel) rfl (Or.inl rfl))) (fun _ _ _ => S.pts_nil) (fun _ _ _ => (S.pe_cB (call_isAK K) rfl z_isinstance PyProof.Rows.boot_isinstance (S.pa_cns (S.pv 0) (S.pa_cns (S.pe_bltn (v := .ty "tuple") rfl z_tuple PyProof.Rows.boot_tuple rfl) S.pa_nil))))) S.pa_nil)))) (S.pss_one (S.ps_ret S.pe_bl)) S.pss_nil)
      (S.pss_one (S.ps_ret (S.pe_cmpR (op_eqD hr.units) (S.pv 4) (S.pe_comp (ts := ["_law_weights_here"]) (fs := [(2, "_law_m")]) rfl (CpScope.of (sc := defScope s_q_right) (N := ["_law_one", "_law_other", "_law_m", "_law_due", "_law_found"]) rfl rfl (by decide +kernel)) (S.pi_list (S.pv 3)) (fun _ _ _ => (S.pg_name (i := 0) (show List.Nodup (["_law_weights_here", "_law_m"] : List Str) by decide +kernel) rfl (Or.inl rfl))) (fun _ _ _ => S.pts_nil) (fun _ _ _ => (S.pe_cD c_q_remainders (hr.mono (by decide)) (S.pa_cns (S.pv 0) (S.pa_cns (S.pv 1) S.pa_nil))))) (nomark _))))))), ?_⟩
  contradiction
  refine ⟨x, y, 1, p, q, 9, 9, 70, 70, rfl, hx, hy, by decide, by decide, by decide, by unfold Sz; decide, fun l1 H1 n1 s1 g1 b1 c1' => ?_⟩
  try contradiction
  refine ⟨x, y, -1, p, q, 9, 9, 70, 70, rfl, hx.mono s1, hy.mono s1, by decide, by decide, by decide, by unfold Sz; decide, fun l2 H2 n2 s2 g2 b2 c2' => ?_⟩
  try contradiction
  have s12 := s1.trans s2
  refine ⟨x, y, p, q, 9, 9, 70, 70, rfl, hx.mono s12, hy.mono s12, by decide, by decide, by decide, fun l3 H3 n3 s3 g3 b3 c3' => ?_⟩
  try contradiction
  refine ⟨by decide, ?_⟩
  (intro qd hqd; generalize eqd : upd _ qd _ = Gqd; obtain ⟨sqd, gqd⟩ := nw hqd eqd; clear eqd hqd)
  have s13 := (s12.trans s3).trans sqd
  refine ⟨x, y, m, p, q, 9, 9, 70, 70, 70, rfl, hx.mono s13, hy.mono s13, by decide, by decide, by decide, hm, hz, fun z1 H4 s4 i1 => ?_⟩
  try contradiction
  have s14 := s13.trans s4
  refine ⟨x, y, m, p, q, 9, 9, 70, 70, 70, rfl, hx.mono s14, hy.mono s14, by decide, by decide, by decide, hm, hz, fun z2 H5 s5 i2 => ?_⟩
  try contradiction
  have s15 := s14.trans s5
  refine ⟨x, y, m, p, q, 9, 9, 70, 70, 70, rfl, hx.mono s15, hy.mono s15, by decide, by decide, by decide, hm, hz, fun z3 H6 s6 i3 => ?_⟩
  try contradiction
  refine ⟨by decide, ?_⟩
  (intro qf hqf; generalize eqf : upd _ qf _ = Gqf; obtain ⟨sqf, gqf⟩ := nw hqf eqf; clear eqf hqf)
  obtain ⟨⟨a1, rfl, h1⟩, _⟩ := i1.mono ((s5.trans s6).trans sqf)
  obtain ⟨⟨a2, rfl, h2⟩, _⟩ := i2.mono (s6.trans sqf)
  obtain ⟨⟨a3, rfl, h3⟩, _⟩ := i3.mono sqf
  refine ⟨⟨_, .of gqf⟩, fun c1 hc1 => cin_map (es := [a1, a2, a3]) (inj := V.ref) (fun _ => .bl true) (show 3 ≤ sizeLine by decide) hc1 (wk_list (.of gqf)) ?_ ?_⟩
  · intro e G R he sg hR
    contradiction
    have ht : ∃ xs, SqT K G e xs := by
      simp only [List.mem_cons, List.not_mem_nil, or_false] at he
      rcases he with rfl | rfl | rfl
      · exact ⟨_, sg.tup h1⟩
      · exact ⟨_, sg.tup h2⟩
      · exact ⟨_, sg.tup h3⟩
    obtain ⟨xs, ht⟩ := ht
    exact ⟨_, _, _, _, rfl, .tup ht, kit_tt, hR _ (Same.refl _)⟩
  intro G sG gc1
  refine ⟨c1, [true, true, true], rfl, .of gc1, ?_⟩
  try contradiction
  rw [if_neg (by decide)]
  have tG := (((s4.trans s5).trans s6).trans sqf).trans sG
  have hd := tG _ _ gqd
  refine ⟨⟨_, .of hd⟩, fun c2 hc2 => cin_any (es := [(l1, n1), (l2, n2), (l3, n3)]) (inj := fun e => V.ref e.1) (fun e v J => ∃ a, v = .ref a ∧ SqT K J a ((md e.2 m).map V.int)) (show 3 ≤ sizeLine by decide) hc2 (wk_list (.of hd)) ?_ ?_ ?_ ?_⟩
  · rintro e v J J' ⟨a, rfl, ha⟩ sj
    exact ⟨a, rfl, sj.tup ha⟩
  · rintro e v J acc o ⟨a, rfl, ha⟩ hp
    exact ⟨a, rfl, tup_put ha hp⟩
  · intro e J R he sj hR
    contradiction
    have tJ := (sqd.trans tG).trans sj
    have hh : SqL K J e.1 (e.2.map V.int) ∧ e.2.length ≤ 1000 := by
      simp only [List.mem_cons, List.not_mem_nil, or_false] at he
      rcases he with rfl | rfl | rfl
      · exact ⟨.of (((s2.trans s3).trans tJ) _ _ g1), Nat.le_trans b1 (by decide)⟩
      · exact ⟨.of ((s3.trans tJ) _ _ g2), Nat.le_trans b2 (by decide)⟩
      · exact ⟨.of (tJ _ _ g3), Nat.le_trans b3 (by decide)⟩
    exact u_rem hh.1 (Same.refl _) hh.2 hm fun z J2 s2 hz2 => hR _ _ s2 ⟨z, rfl, hz2⟩
  intro ns J hlen hn sJ gJ
  match ns, hlen with
  | [v1, v2, v3], _ =>
    obtain ⟨b1, rfl, e1⟩ := hn 0 _ _ rfl rfl
    obtain ⟨b2, rfl, e2⟩ := hn 1 _ _ rfl rfl
    obtain ⟨b3, rfl, e3⟩ := hn 2 _ _ rfl rfl
    have f1 : md n1 m = md (ta p q) m := md_ext fun i => by rw [c1', ta_co, Int.one_mul]
    have f2 : md n2 m = md (ta p (ng q (-1))) m := md_ext fun i => by rw [c2', ta_co, ng_co, Int.mul_comm]
    have f3 : md n3 m = md (tm p q) m := md_ext fun i => by rw [c3', tm_co]
    have tt := sG.trans sJ
    rw [f1] at e1
    rw [f2] at e2
    rw [f3] at e3
    refine eq_polys [md (ta p q) m, md (ta p (ng q (-1))) m, md (tm p q) m] (.of (tt _ _ gqf)) (.of gJ) (.cons (.ints (tt.tup h1)) (.cons (.ints (tt.tup h2)) (.cons (.ints (tt.tup h3)) .nil))) (.cons (.ints e1) (.cons (.ints e2) (.cons (.ints e3) .nil))) ?_
    exact k _ (((s13.trans tG)).trans sJ)
--SPLIT
theorem fn_law {f : Addr} {fd : FuncData} (F : Df K mg "law" s_law ["_law_script"] f fd) (z_isinstance : mg "isinstance" = none) (z_tuple : mg "tuple" = none)  (c_q_parts : Cal P w K mg base 2 "_law_parts" ["_law_cell", "_law_bases"] (sp_q_parts K)) (c_q_weights : Cal P w K mg base 1 "_law_weights" ["_law_parts_here", "_law_m"] (sp_q_weights K)) (c_q_poly : Cal P w K mg base 1 "_law_poly" ["_law_weights_here"] (sp_q_poly K)) (c_by_number : Cal P w K mg base 2 "by_number" ["one", "m"] (sp_by_number K)) (c_q_right : Cal P w K mg base 6 "_law_right" ["_law_one", "_law_other", "_law_m"] (sp_q_right K)) (c_m_times : Cal P w K mg base 3 "m_times" ["one", "other", "m"] (sp_m_times K)) (c_q_remainders : Cal P w K mg base 2 "_law_remainders" ["_law_weights_here", "_law_m"] (sp_q_remainders K)) (c_q_inverse_right : Cal P w K mg base 2 "_law_inverse_right" ["_law_figure", "_law_m"] (sp_q_inverse_right K)) : FnOk P w K mg base CX0 7 f fd ["_law_script"] (spLaw K) := by
  refine F.fn.ok sc_law (fun vs H Q E h => ?_) (fun cdv A outer s H vs Q E hr h => ?_)
  · obtain ⟨a, ns, rfl, _⟩ := h
    rfl
  obtain ⟨a, ns, rfl, hS, h63, k⟩ := h
  refine S.ex_out ⟨_, (S.pss_cons (S.ps_set (i := 1) sc_law.nd rfl (Or.inl rfl) (S.pe_op op_mulM S.pe_int (S.pe_op op_pow S.pe_int S.pe_int)))
      (S.pss_cons (S.ps_for PassesOwn.never rfl (S.pi_list (S.pe_op op_cat (S.pe_slice sl_list (S.pv 0) S.po_none (S.po_some S.pe_int)) (S.pe_lst (S.pa_cns S.pe_int S.pa_nil)))) (S.pg_name (i := 2) sc_law.nd rfl (Or.inl rfl)) (S.pss_cons (S.ps_set (i := 3) sc_law.nd rfl (Or.inl rfl) (S.pe_cD c_q_parts (hr.mono (by decide)) (S.pa_cns (S.pv 2) (S.pa_cns (S.pe_op op_cat (S.pe_lst (S.pa_cns S.pe_int (S.pa_cns (S.pe_op op_pow S.pe_int S.pe_int) S.pa_nil))) (S.pe_op op_rep (S.pe_op op_cat (S.pe_lst (S.pa_cns S.pe_int (S.pa_cns S.pe_int S.pa_nil))) (S.pe_op op_rep (S.pe_lst (S.pa_cns (S.pv 1) S.pa_nil)) S.pe_int)) S.pe_int)) S.pa_nil))))
      (S.pss_cons (S.ps_set (i := 4) sc_law.nd rfl (Or.inl rfl) (S.pe_op op_add S.pe_int (S.pe_ix ix_list (S.pe_lst (S.pa_cns (S.pe_ix ix_list (S.pv 3) S.pe_int (fun _ _ => rfl)) (S.pa_cns (S.pe_op op_mod (S.pe_ix ix_list (S.pv 3) S.pe_int (fun _ _ => rfl)) S.pe_int) (S.pa_cns (S.pe_op op_mod (S.pe_ix ix_list (S.pv 3) S.pe_int (fun _ _ => rfl)) S.pe_int) S.pa_nil)))) (S.pe_ix ix_list (S.pv 3) S.pe_int (fun _ _ => rfl)) (fun _ _ => rfl))))
      (S.pss_cons (S.ps_set (i := 5) sc_law.nd rfl (Or.inl rfl) (S.pe_cD c_q_weights (hr.mono (by decide)) (S.pa_cns (S.pe_slice sl_list (S.pv 3) (S.po_some S.pe_int) S.po_none) (S.pa_cns (S.pv 4) S.pa_nil))))
      (S.pss_cons (S.ps_set (i := 6) sc_law.nd rfl (Or.inl rfl) (S.pe_cD c_q_weights (hr.mono (by decide)) (S.pa_cns (S.pe_slice sl_list (S.pv 3) (S.po_some S.pe_int) S.po_none) (S.pa_cns (S.pv 4) S.pa_nil))))
      (S.pss_cons (S.ps_set (i := 7) sc_law.nd rfl (Or.inl rfl) (S.pe_cD c_q_poly (hr.mono (by decide)) (S.pa_cns (S.pv 5) S.pa_nil)))
      (S.pss_cons (S.ps_set (i := 8) sc_law.nd rfl (Or.inl rfl) (S.pe_cD c_q_poly (hr.mono (by decide)) (S.pa_cns (S.pv 6) S.pa_nil)))
      (S.pss_cons (S.ps_set (i := 9) sc_law.nd rfl (Or.inl rfl) (S.pe_cD c_by_number (hr.mono (by decide)) (S.pa_cns (S.pv 7) (S.pa_cns (S.pv 4) S.pa_nil))))
      (S.pss_cons (S.ps_if (S.PW_pt (S.pw_or (S.pt_not (S.pt_val (S.pe_cB call_isA rfl z_isinstance PyProof.Rows.boot_isinstance (S.pa_cns (S.pv 9) (S.pa_cns (S.pe_bltn (v := .ty "tuple") rfl z_tuple PyProof.Rows.boot_tuple rfl) S.pa_nil))))) (S.pw_or1 (S.pt_cmpR (op_neT hr.units) (S.pv 9) (S.pe_cD c_q_remainders (hr.mono (by decide)) (S.pa_cns (S.pv 5) (S.pa_cns (S.pv 4) S.pa_nil))) (nomark _))))) (S.pss_one (S.ps_ret S.pe_bl)) S.pss_nil)
      (S.pss_cons (S.ps_if (S.pt_not (S.pt_val (S.pe_cD c_q_right (hr.mono (by decide)) (S.pa_cns (S.pv 9) (S.pa_cns (S.pe_cD c_by_number (hr.mono (by decide)) (S.pa_cns (S.pv 8) (S.pa_cns (S.pv 4) S.pa_nil))) (S.pa_cns (S.pv 4) S.pa_nil)))))) (S.pss_one (S.ps_ret S.pe_bl)) S.pss_nil)
      (S.pss_one (S.ps_for PassesOwn.never rfl (S.pi_list (S.pe_op op_cat (S.pv 5) (S.pe_lst (S.pa_cns (S.pe_op op_sub (S.pv 4) S.pe_int) (S.pa_cns (S.pv 4) (S.pa_cns S.pe_int (S.pa_cns S.pe_int S.pa_nil))))))) (S.pg_name (i := 10) sc_law.nd rfl (Or.inl rfl)) (S.pss_one (S.ps_if (S.pt_not (S.pt_val (S.pe_cD c_q_inverse_right (hr.mono (by decide)) (S.pa_cns (S.pv 10) (S.pa_cns (S.pv 4) S.pa_nil))))) (S.pss_one (S.ps_ret S.pe_bl)) S.pss_nil))))))))))))))
      (S.pss_one (S.ps_ret (S.pe_and (S.pe_cmpR (op_eqT hr.units) (S.pe_cD c_by_number (hr.mono (by decide)) (S.pa_cns (S.pe_tup S.pa_nil) (S.pa_cns S.pe_int S.pa_nil))) (S.pe_tup S.pa_nil) (nomark _)) (S.pe_one (S.pe_cmpR (op_eqT hr.units) (S.pe_cD c_m_times (hr.mono (by decide)) (S.pa_cns (S.pe_tup S.pa_nil) (S.pa_cns (S.pe_tup (S.pa_cns S.pe_int (S.pa_cns S.pe_int S.pa_nil))) (S.pa_cns S.pe_int S.pa_nil)))) (S.pe_tup S.pa_nil) (nomark _)))))))), ?_⟩
  contradiction
  refine ⟨⟨by decide, by decide, by decide⟩, (by unfold Sz; decide : Sz 3 (2 : Int)).mulOk (by unfold Sz; decide : Sz 70 ((10 : Int) ^ Int.toNat 20)) (by decide), a, _, rfl, hS, ?_⟩
  have efar : (2 : Int) * 10 ^ Int.toNat 20 = 200000000000000000000 := by decide
  rw [efar]
  have e20 : cutV (ns.map V.int) none (some 20) = (ns.take 20).map V.int := by
    unfold cutV
    rw [show (20 : Int) = ((20 : Nat) : Int) from rfl, HT.sIx_none, HT.sIx_nat, List.drop_zero, Nat.sub_zero, List.length_map, List.map_take]
    by_cases h : 20 ≤ ns.length
    · rw [Nat.min_eq_left h]
    · rw [Nat.min_eq_right (by omega), List.take_of_length_le (by simp), List.take_of_length_le (by simp; omega)]
  rw [e20]
  (intro q1 hq1; generalize eq1 : upd _ q1 _ = Gq1; obtain ⟨sq1, gq1⟩ := nw hq1 eq1; clear eq1 hq1)
  (intro q2 hq2; generalize eq2 : upd _ q2 _ = Gq2; obtain ⟨sq2, gq2⟩ := nw hq2 eq2; clear eq2 hq2)
  refine ⟨q1, q2, _, _, rfl, rfl, sq2 _ _ gq1, gq2, by rw [List.length_map, List.length_take]; exact Nat.le_trans (Nat.add_le_add_right (Nat.min_le_left _ _) _) (show 20 + 1 ≤ sizeLine by decide), ?_⟩
  (intro q3 hq3; generalize eq3 : upd _ q3 _ = Gq3; obtain ⟨sq3, gq3⟩ := nw hq3 eq3; clear eq3 hq3)
  rw [show (ns.take 20).map V.int ++ [V.int 3] = (ns.take 20 ++ [3]).map V.int by rw [List.map_append]; rfl] at gq3
  have s3 := (sq1.trans sq2).trans sq3
  refine ⟨q3, rfl, ⟨_, .of gq3⟩, fi_by (es := ns.take 20 ++ [3]) (inj := V.int) (fun pre σ H' => Same Gq3 H' ∧ ∃ o2 o3 o4 o5 o6 o7 o8 o9 o10 : Option V, σ = [some (.ref a), some (.int 200000000000000000000), o2, o3, o4, o5, o6, o7, o8, o9, o10]) ⟨Same.refl _, _, _, _, _, _, _, _, _, _, rfl⟩ ?_ ?_ ?_⟩
  · rintro pre σ H' ⟨s1, _⟩
    exact wkAt_list (.of (s1 _ _ gq3))
  · rintro pre c post σ H4 he ⟨s4, o2, o3, o4, o5, o6, o7, o8, o9, o10, rfl⟩
    simp only [z_gname, List.set_cons_zero, List.set_cons_succ]
    refine seq_pt (fun σ' H' => Same H4 H' ∧ ∃ (z : Addr) (ps : List Int), σ' = [some (.ref a), some (.int 200000000000000000000), some (.int c), some (.ref z), o4, o5, o6, o7, o8, o9, o10] ∧ H' z = some (.lst (ps.map V.int)) ∧ ps.length = 24 ∧ ∀ i, i < 24 → 0 ≤ co ps i ∧ co ps i < co [3, 1000000000000, 10, 3, 200000000000000000000, 200000000000000000000, 200000000000000000000, 200000000000000000000, 200000000000000000000, 200000000000000000000, 200000000000000000000, 200000000000000000000, 200000000000000000000, 10, 3, 200000000000000000000, 200000000000000000000, 200000000000000000000, 200000000000000000000, 200000000000000000000, 200000000000000000000, 200000000000000000000, 200000000000000000000, 200000000000000000000] i) (fun N hN => ?_) ?_
    · contradiction
      refine ⟨⟨by decide, by decide, by decide⟩, ?_⟩
      (intro p1 hp1; generalize ep1 : upd _ p1 _ = Gp1; obtain ⟨sp1, gp1⟩ := nw hp1 ep1; clear ep1 hp1)
      (intro p2 hp2; generalize ep2 : upd _ p2 _ = Gp2; obtain ⟨sp2, gp2⟩ := nw hp2 ep2; clear ep2 hp2)
      (intro p3 hp3; generalize ep3 : upd _ p3 _ = Gp3; obtain ⟨sp3, gp3⟩ := nw hp3 ep3; clear ep3 hp3)
      refine ⟨p3, _, _, rfl, rfl, gp3, by decide, by decide, by decide, ?_⟩
      (intro p4 hp4; generalize ep4 : upd _ p4 _ = Gp4; obtain ⟨sp4, gp4⟩ := nw hp4 ep4; clear ep4 hp4)
      refine ⟨p2, p4, _, _, rfl, rfl, (sp3.trans sp4) _ _ gp2, gp4, by decide, ?_⟩
      (intro p5 hp5; generalize ep5 : upd _ p5 _ = Gp5; obtain ⟨sp5, gp5⟩ := nw hp5 ep5; clear ep5 hp5)
      refine ⟨p5, _, _, rfl, rfl, gp5, by decide, by decide, by decide, ?_⟩
      (intro p6 hp6; generalize ep6 : upd _ p6 _ = Gp6; obtain ⟨sp6, gp6⟩ := nw hp6 ep6; clear ep6 hp6)
      refine ⟨p1, p6, _, _, rfl, rfl, ((((sp2.trans sp3).trans sp4).trans sp5).trans sp6) _ _ gp1, gp6, by decide, ?_⟩
      (intro p7 hp7; generalize ep7 : upd _ p7 _ = Gp7; obtain ⟨sp7, gp7⟩ := nw hp7 ep7; clear ep7 hp7)
      have st := (((((sp1.trans sp2).trans sp3).trans sp4).trans sp5).trans sp6).trans sp7
      refine ⟨c, p7, [3, 1000000000000, 10, 3, 200000000000000000000, 200000000000000000000, 200000000000000000000, 200000000000000000000, 200000000000000000000, 200000000000000000000, 200000000000000000000, 200000000000000000000, 200000000000000000000, 10, 3, 200000000000000000000, 200000000000000000000, 200000000000000000000, 200000000000000000000, 200000000000000000000, 200000000000000000000, 200000000000000000000, 200000000000000000000, 200000000000000000000], rfl, .of gp7, by decide, ?_, fun z H5 ps s5 h5 hl hb => ?_⟩
      · intro b hb
        simp only [List.mem_cons, List.not_mem_nil, or_false] at hb
        have : b = 3 ∨ b = 1000000000000 ∨ b = 10 ∨ b = 200000000000000000000 := by omega
        rcases this with rfl | rfl | rfl | rfl <;> exact ⟨by decide, by unfold Sz; decide⟩
      exact hN _ _ ⟨st.trans s5, z, ps, rfl, h5, hl, hb⟩
    rintro σ H5 ⟨s5, z, ps, rfl, g5, l5, b5⟩
    have ix : ∀ (H' : Hp) (R : VK) (i : Nat), i < 24 → Same H5 H' → R (.int (co ps i)) H' → rIxL K (.ref z) (.int (i : Nat)) H' R := fun H' R i hi s' h => z_ixLn (.of (s' _ _ g5)) (get_mapI (by omega)) (by rw [← co_get]; exact h)
    have b0 := b5 0 (by decide)
    have b1 := b5 1 (by decide)
    have b2 := b5 2 (by decide)
    have b3 := b5 3 (by decide)
    have b13 := b5 13 (by decide)
    have b14 := b5 14 (by decide)
    simp only [co_zero, co_succ] at b0 b1 b2 b3 b13 b14
    refine seq_pt (fun σ' H' => Same H5 H' ∧ ∃ m : Int, σ' = [some (.ref a), some (.int 200000000000000000000), some (.int c), some (.ref z), some (.int m), o5, o6, o7, o8, o9, o10] ∧ 1 < m ∧ m < 2000000000000) (fun N hN => ?_) ?_
    · contradiction
      refine ix _ _ 1 (by decide) (Same.refl _) (ix _ _ 1 (by decide) (Same.refl _) ?_)
      try contradiction
      refine ⟨by decide, ix _ _ 1 (by decide) (Same.refl _) ?_⟩
      try contradiction
      refine ⟨by decide, by decide, ?_⟩
      (intro r1 hr1; generalize er1 : upd _ r1 _ = Gr1; obtain ⟨sr1, gr1⟩ := nw hr1 er1; clear er1 hr1)
      refine ix _ _ 0 (by decide) sr1 ?_
      have m : ∃ v, atI [V.int (co ps 1), V.int (co ps 1 % 30), V.int (co ps 1 % 1000)] (co ps 0) = some (.int v) ∧ 0 ≤ v ∧ v ≤ 1000000000000 := by
        have : co ps 0 = 0 ∨ co ps 0 = 1 ∨ co ps 0 = 2 := by omega
        rcases this with h | h | h <;> rw [h]
        · exact ⟨_, rfl, by omega, by omega⟩
        · exact ⟨_, rfl, by omega, by omega⟩
        · exact ⟨_, rfl, by omega, by omega⟩
      obtain ⟨v, ev, v0, v1⟩ := m
      refine z_ixL (.of gr1) ev ?_
      try contradiction
      exact hN _ _ ⟨sr1, _, rfl, by omega, by omega⟩
    rintro σ H6 ⟨s6, m, rfl, m1, m2⟩
    have zm : Sz 70 m := by unfold Sz; omega
    have dr : ∀ (j : Nat), j = 2 ∨ j = 13 → ∀ (H' : Hp) (Q : VK) (o5 o6 : Option V) (E : XK), Same H6 H' → (∀ (w : Addr) (H2 : Hp) (ws : List Int), Same H' H2 → H2 w = some (.lst (ws.map V.int)) → ws.length ≤ 9 → (∀ x ∈ ws, Sz 70 x) → Q (.ref w) H2) → rSlL K (.ref z) (some ((j : Nat) : Int)) none H' (fun x H1 => sp_q_weights K [x, .int m] H1 Q E) := fun j hj H' Q o5 o6 E s' h => by
      refine ⟨z, _, rfl, .of (s' _ _ (s6 _ _ g5)), fun c1 hc1 => ?_⟩
      have ec : cutV (ps.map V.int) (some ((j : Nat) : Int)) none = (ps.drop j).map V.int := by
        unfold cutV
        rw [HT.sIx_none, HT.sIx_nat, List.length_map, Nat.min_eq_left (by omega), ← List.map_drop, List.take_of_length_le (by simp)]
      rw [ec]
      have cd : ∀ i, co (ps.drop j) i = co ps (j + i) := fun i => by
        unfold co
        rw [List.getD_eq_getElem?_getD, List.getD_eq_getElem?_getD, List.getElem?_drop]
      have n0 : 0 ≤ co ps j ∧ co ps j < 10 := by rcases hj with rfl | rfl <;> assumption
      have n1 : 0 ≤ co ps (j + 1) ∧ co ps (j + 1) < 3 := by rcases hj with rfl | rfl <;> assumption
      refine ⟨c1, m, ps.drop j, (co ps j).toNat, rfl, .of upd_same, by rw [List.length_drop]; omega, by rw [List.length_drop]; omega, by omega, zm, by rw [cd, Nat.add_zero]; omega, by omega, by rw [cd]; exact n1.1, by rw [cd]; exact n1.2, fun i i2 i11 => ?_, fun w H2 ws s2 g2 l2 z2 => h w H2 ws ((Same.upd hc1 _).trans s2) g2 l2 z2⟩
      rw [cd]
      have b := b5 (j + i) (by omega)
      refine ⟨b.1, Int.lt_of_lt_of_le b.2 ?_⟩
      have : i = 2 ∨ i = 3 ∨ i = 4 ∨ i = 5 ∨ i = 6 ∨ i = 7 ∨ i = 8 ∨ i = 9 ∨ i = 10 := by omega
      rcases hj with rfl | rfl <;> rcases this with rfl | rfl | rfl | rfl | rfl | rfl | rfl | rfl | rfl <;> decide
    refine seq_pt (fun σ' H' => Same H6 H' ∧ ∃ (w1 : Addr) (ws : List Int), σ' = [some (.ref a), some (.int 200000000000000000000), some (.int c), some (.ref z), some (.int m), some (.ref w1), o6, o7, o8, o9, o10] ∧ H' w1 = some (.lst (ws.map V.int)) ∧ ws.length ≤ 9 ∧ ∀ x ∈ ws, Sz 70 x) (fun N hN => ?_) ?_
    · contradiction
      exact dr 2 (.inl rfl) H6 _ o5 o6 _ (Same.refl _) fun w H2 ws s2 g2 l2 z2 => hN _ _ ⟨s2, w, ws, rfl, g2, l2, z2⟩
    rintro σ H7 ⟨s7, w1, ws, rfl, gw, lw, zw⟩
    refine seq_pt (fun σ' H' => Same H7 H' ∧ ∃ (w2 : Addr) (us : List Int), σ' = [some (.ref a), some (.int 200000000000000000000), some (.int c), some (.ref z), some (.int m), some (.ref w1), some (.ref w2), o7, o8, o9, o10] ∧ H' w2 = some (.lst (us.map V.int)) ∧ us.length ≤ 9 ∧ ∀ x ∈ us, Sz 70 x) (fun N hN => ?_) ?_
    · contradiction
      exact dr 13 (.inr rfl) H7 _ o5 o6 _ s7 fun w H2 ws s2 g2 l2 z2 => hN _ _ ⟨s2, w, ws, rfl, g2, l2, z2⟩
    rintro σ H8 ⟨s8, w2, us, rfl, gu, lu, zu⟩
    have pol : ∀ (H' : Hp) (w : Addr) (ws : List Int), SqT K H' w ((trim ws).map V.int) → ws.length ≤ 9 → (∀ x ∈ ws, Sz 70 x) → Po K H' (.ref w) (trim ws) 9 70 := fun H' w ws h hl hz => ⟨⟨w, rfl, h⟩, trim_tr _, Nat.le_trans (trim_len _) hl, fun i => by rw [co_trim]; exact co_sz (by decide) hz i⟩
    refine seq_pt (fun σ' H' => Same H8 H' ∧ ∃ v1 : V, σ' = [some (.ref a), some (.int 200000000000000000000), some (.int c), some (.ref z), some (.int m), some (.ref w1), some (.ref w2), some v1, o8, o9, o10] ∧ Po K H' v1 (trim ws) 9 70) (fun N hN => ?_) ?_
    · contradiction
      exact u_qpoly (.of (s8 _ _ gw)) (by omega) fun v H2 s2 h2 => hN _ _ ⟨s2, _, rfl, pol _ _ _ h2 lw zw⟩
    rintro σ H9 ⟨s9, v1, rfl, i1⟩
    refine seq_pt (fun σ' H' => Same H9 H' ∧ ∃ v2 : V, σ' = [some (.ref a), some (.int 200000000000000000000), some (.int c), some (.ref z), some (.int m), some (.ref w1), some (.ref w2), some v1, some v2, o9, o10] ∧ Po K H' v2 (trim us) 9 70) (fun N hN => ?_) ?_
    · contradiction
      exact u_qpoly (.of (s9 _ _ gu)) (by omega) fun v H2 s2 h2 => hN _ _ ⟨s2, _, rfl, pol _ _ _ h2 lu zu⟩
    rintro σ Ha ⟨sa, v2, rfl, i2⟩
    refine seq_pt (fun σ' H' => Same Ha H' ∧ ∃ v3 : V, σ' = [some (.ref a), some (.int 200000000000000000000), some (.int c), some (.ref z), some (.int m), some (.ref w1), some (.ref w2), some v1, some v2, some v3, o10] ∧ Po K H' v3 (md (trim ws) m) 9 70) (fun N hN => ?_) ?_
    · contradiction
      exact u_bynum i1 sa (by decide) (by omega) zm fun v H2 s2 h2 => hN _ _ ⟨s2, _, rfl, h2⟩
    rintro σ Hb ⟨sb, v3, rfl, i3⟩
    contradiction
    obtain ⟨⟨d3, rfl, h3⟩, _⟩ := id i3
    refine isa (.tup h3) kit_tt ?_
    try contradiction
    have gw' := ((s8.trans s9).trans (sa.trans sb)) _ _ gw
    refine u_rem (.of gw') (Same.refl _) (by omega) (by omega) fun d4 Hc sc h4 => ?_
    have e34 : md (trim ws) m = md ws m := md_ext fun i => by rw [co_trim]
    refine eq_tints (sc.tup h3) h4 ?_
    rw [decide_eq_true e34]
    try contradiction
    refine u_bynum i2 (sb.trans sc) (by decide) (by omega) zm fun v5 Hd sd i5 => ?_
    try contradiction
    refine ⟨_, v5, m, _, _, rfl, i3.mono (sc.trans sd), i5, by omega, zm, fun He se => ?_⟩
    try contradiction
    refine ⟨by decide, ?_⟩
    (intro y1 hy1; generalize ey1 : upd _ y1 _ = Gy1; obtain ⟨sy1, gy1⟩ := nw hy1 ey1; clear ey1 hy1)
    have sy := ((sc.trans sd).trans se).trans sy1
    refine ⟨w1, y1, _, _, rfl, rfl, sy _ _ gw', gy1, by rw [List.length_map]; exact Nat.le_trans (Nat.add_le_add_right lw _) (show 9 + 4 ≤ sizeLine by decide), ?_⟩
    (intro y2 hy2; generalize ey2 : upd _ y2 _ = Gy2; obtain ⟨sy2, gy2⟩ := nw hy2 ey2; clear ey2 hy2)
    rw [show ws.map V.int ++ [V.int (m - 1), V.int m, V.int 0, V.int 1] = (ws ++ [m - 1, m, 0, 1]).map V.int by rw [List.map_append]; rfl] at gy2
    refine ⟨y2, rfl, ⟨_, .of gy2⟩, fi_by (es := ws ++ [m - 1, m, 0, 1]) (inj := V.int) (fun pre σ H' => Same Gy2 H' ∧ ∃ o : Option V, σ = [some (.ref a), some (.int 200000000000000000000), some (.int c), some (.ref z), some (.int m), some (.ref w1), some (.ref w2), some v1, some v2, some (.ref d3), o]) ⟨Same.refl _, _, rfl⟩ ?_ ?_ ?_⟩
    · rintro pre2 σ H' ⟨s1, _⟩
      exact wkAt_list (.of (s1 _ _ gy2))
    · rintro pre2 x post2 σ H' he2 ⟨s1, o, rfl⟩
      contradiction
      refine ⟨x, m, rfl, m1, zm, ?_, fun H2 s2 => ?_⟩
      · have : x ∈ ws ++ [m - 1, m, 0, 1] := by rw [he2]; simp
        rcases List.mem_append.mp this with h | h
        · exact (zw x h).mono (by decide)
        · simp only [List.mem_cons, List.not_mem_nil, or_false] at h
          unfold Sz
          omega
      try contradiction
      exact ⟨s1.trans s2, _, rfl⟩
    · rintro σ H' ⟨s1, o, rfl⟩
      try contradiction
      exact ⟨((((((((s4.trans s5).trans s6).trans s7).trans s8).trans s9).trans sa).trans sb).trans sy).trans (sy2.trans s1), _, _, _, _, _, _, _, _, _, rfl⟩
  · rintro σ H' ⟨s1, o2, o3, o4, o5, o6, o7, o8, o9, o10, rfl⟩
    contradiction
    refine ⟨by decide, ?_⟩
    have z5 : Sz 70 (5 : Int) := by unfold Sz; decide
    have nil : ∀ (H' : Hp) (p : Addr), H' p = some (.tup []) → Po K H' (.ref p) [] 9 70 := fun H' p h => ⟨⟨p, rfl, .of h⟩, .inl rfl, by decide, fun i => by rw [co_nil]; unfold Sz; decide⟩
    have mn : ∀ m : Int, md [] m = [] := fun m => rfl
    (intro x1 hx1; generalize ex1 : upd _ x1 _ = Gx1; obtain ⟨sx1, gx1⟩ := nw hx1 ex1; clear ex1 hx1)
    refine u_bynum (nil _ _ gx1) (Same.refl _) (by decide) (by decide) z5 fun v H2 s2 i2 => ?_
    try contradiction
    refine ⟨by decide, ?_⟩
    (intro x2 hx2; generalize ex2 : upd _ x2 _ = Gx2; obtain ⟨sx2, gx2⟩ := nw hx2 ex2; clear ex2 hx2)
    obtain ⟨⟨v, rfl, hv⟩, _⟩ := i2.mono sx2
    refine eq_tints (ms := []) hv (.of gx2) ?_
    rw [decide_eq_true (mn 5)]
    try contradiction
    refine ⟨by decide, ?_⟩
    (intro x3 hx3; generalize ex3 : upd _ x3 _ = Gx3; obtain ⟨sx3, gx3⟩ := nw hx3 ex3; clear ex3 hx3)
    (intro x4 hx4; generalize ex4 : upd _ x4 _ = Gx4; obtain ⟨sx4, gx4⟩ := nw hx4 ex4; clear ex4 hx4)
    refine ⟨.ref x3, .ref x4, 3, [], [1, 2], 9, 9, 70, 70, 70, rfl, nil _ _ (sx4 _ _ gx3), ⟨⟨x4, rfl, .of gx4⟩, .inr ⟨by simp, by decide⟩, by decide, fun i => co_sz (by decide) (fun x hx => by
      have : x = 1 ∨ x = 2 := by simpa using hx
      rcases this with rfl | rfl <;> unfold Sz <;> decide) i⟩, by decide, by decide, by decide, by decide, by unfold Sz; decide, fun v2 H3 s3 i3 => ?_⟩
    try contradiction
    refine ⟨by decide, ?_⟩
    (intro x5 hx5; generalize ex5 : upd _ x5 _ = Gx5; obtain ⟨sx5, gx5⟩ := nw hx5 ex5; clear ex5 hx5)
    obtain ⟨⟨v2, rfl, hv2⟩, _⟩ := i3.mono sx5
    refine eq_tints (ms := []) hv2 (.of gx5) ?_
    rw [decide_eq_true (show md (tm [] [1, 2]) 3 = [] by rw [tm_comm, tm_nil]; rfl)]
    exact k _
end
theorem all_mk {l : PySem.W.OpenLaw} {w : World} {K : PySem.W.Frag} {h : Heap} {mg : Str → Option Value} {fa f1 f2 f3 f4 f5 f6 f7 f8 f9 f10 f11 f12 f13 f14 f15 f16 f17 f18 f19 f20 f21 : Addr} (X : K.In h) (G : h.Ns mainGlobals mg) (hfa : mg "law" = some (.ref fa))
    {od1 an1 od2 an2 od3 an3 od4 an4 od5 an5 od6 an6 od7 an7 od8 an8 od9 an9 od10 an10 od11 an11 od12 an12 od13 an13 od14 an14 od15 an15 od16 an16 od17 an17 od18 an18 od19 an19 od20 an20 od21 an21 : Option Addr} {sl1 sl2 sl3 sl4 sl5 sl6 sl7 sl8 sl9 sl10 sl11 sl12 sl13 sl14 sl15 sl16 sl17 sl18 sl19 sl20 sl21 : Array (Option Value)} {oc1 kV1 dc1 pm1 cd1 ct1 oc2 kV2 dc2 pm2 cd2 ct2 oc3 kV3 dc3 pm3 cd3 ct3 oc4 kV4 dc4 pm4 cd4 ct4 oc5 kV5 dc5 pm5 cd5 ct5 oc6 kV6 dc6 pm6 cd6 ct6 oc7 kV7 dc7 pm7 cd7 ct7 oc8 kV8 dc8 pm8 cd8 ct8 oc9 kV9 dc9 pm9 cd9 ct9 oc10 kV10 dc10 pm10 cd10 ct10 oc11 kV11 dc11 pm11 cd11 ct11 oc12 kV12 dc12 pm12 cd12 ct12 oc13 kV13 dc13 pm13 cd13 ct13 oc14 kV14 dc14 pm14 cd14 ct14 oc15 kV15 dc15 pm15 cd15 ct15 oc16 kV16 dc16 pm16 cd16 ct16 oc17 kV17 dc17 pm17 cd17 ct17 oc18 kV18 dc18 pm18 cd18 ct18 oc19 kV19 dc19 pm19 cd19 ct19 oc20 kV20 dc20 pm20 cd20 ct20 oc21 kV21 dc21 pm21 cd21 ct21 : Value}
    (a1 : PySem.W.nsIn K mainGlobals "_law_mixed" = some (some (.ref f1))) (l1 : K.lookup f1 = some ⟨oc1, od1, .func (PySem.W.fnOf "_law_mixed" "_law_mixed" (defArgs s_q_mixed) (defBody s_q_mixed) (defScope s_q_mixed) .none kV1 dc1 pm1 an1 cd1 ct1), sl1⟩) (c1 : PySem.W.codeIn K cd1 "_law_mixed" = true) (k1 : PySem.W.keepIn K (.ref f1) = true)
    (a2 : PySem.W.nsIn K mainGlobals "_law_parts" = some (some (.ref f2))) (l2 : K.lookup f2 = some ⟨oc2, od2, .func (PySem.W.fnOf "_law_parts" "_law_parts" (defArgs s_q_parts) (defBody s_q_parts) (defScope s_q_parts) .none kV2 dc2 pm2 an2 cd2 ct2), sl2⟩) (c2 : PySem.W.codeIn K cd2 "_law_parts" = true) (k2 : PySem.W.keepIn K (.ref f2) = true)
    (a3 : PySem.W.nsIn K mainGlobals "_law_weights" = some (some (.ref f3))) (l3 : K.lookup f3 = some ⟨oc3, od3, .func (PySem.W.fnOf "_law_weights" "_law_weights" (defArgs s_q_weights) (defBody s_q_weights) (defScope s_q_weights) .none kV3 dc3 pm3 an3 cd3 ct3), sl3⟩) (c3 : PySem.W.codeIn K cd3 "_law_weights" = true) (k3 : PySem.W.keepIn K (.ref f3) = true)
    (a4 : PySem.W.nsIn K mainGlobals "_law_poly" = some (some (.ref f4))) (l4 : K.lookup f4 = some ⟨oc4, od4, .func (PySem.W.fnOf "_law_poly" "_law_poly" (defArgs s_q_poly) (defBody s_q_poly) (defScope s_q_poly) .none kV4 dc4 pm4 an4 cd4 ct4), sl4⟩) (c4 : PySem.W.codeIn K cd4 "_law_poly" = true) (k4 : PySem.W.keepIn K (.ref f4) = true)
    (a5 : PySem.W.nsIn K mainGlobals "poly" = some (some (.ref f5))) (l5 : K.lookup f5 = some ⟨oc5, od5, .func (PySem.W.fnOf "poly" "poly" (defArgs s_poly) (defBody s_poly) (defScope s_poly) .none kV5 dc5 pm5 an5 cd5 ct5), sl5⟩) (c5 : PySem.W.codeIn K cd5 "poly" = true) (k5 : PySem.W.keepIn K (.ref f5) = true)
    (a6 : PySem.W.nsIn K mainGlobals "by_number" = some (some (.ref f6))) (l6 : K.lookup f6 = some ⟨oc6, od6, .func (PySem.W.fnOf "by_number" "by_number" (defArgs s_by_number) (defBody s_by_number) (defScope s_by_number) .none kV6 dc6 pm6 an6 cd6 ct6), sl6⟩) (c6 : PySem.W.codeIn K cd6 "by_number" = true) (k6 : PySem.W.keepIn K (.ref f6) = true)
    (a7 : PySem.W.nsIn K mainGlobals "_law_sum" = some (some (.ref f7))) (l7 : K.lookup f7 = some ⟨oc7, od7, .func (PySem.W.fnOf "_law_sum" "_law_sum" (defArgs s_q_sum) (defBody s_q_sum) (defScope s_q_sum) .none kV7 dc7 pm7 an7 cd7 ct7), sl7⟩) (c7 : PySem.W.codeIn K cd7 "_law_sum" = true) (k7 : PySem.W.keepIn K (.ref f7) = true)
    (a8 : PySem.W.nsIn K mainGlobals "_law_product" = some (some (.ref f8))) (l8 : K.lookup f8 = some ⟨oc8, od8, .func (PySem.W.fnOf "_law_product" "_law_product" (defArgs s_q_product) (defBody s_q_product) (defScope s_q_product) .none kV8 dc8 pm8 an8 cd8 ct8), sl8⟩) (c8 : PySem.W.codeIn K cd8 "_law_product" = true) (k8 : PySem.W.keepIn K (.ref f8) = true)
    (a9 : PySem.W.nsIn K mainGlobals "p_plus" = some (some (.ref f9))) (l9 : K.lookup f9 = some ⟨oc9, od9, .func (PySem.W.fnOf "p_plus" "p_plus" (defArgs s_p_plus) (defBody s_p_plus) (defScope s_p_plus) .none kV9 dc9 pm9 an9 cd9 ct9), sl9⟩) (c9 : PySem.W.codeIn K cd9 "p_plus" = true) (k9 : PySem.W.keepIn K (.ref f9) = true)
    (a10 : PySem.W.nsIn K mainGlobals "m_plus" = some (some (.ref f10))) (l10 : K.lookup f10 = some ⟨oc10, od10, .func (PySem.W.fnOf "m_plus" "m_plus" (defArgs s_m_plus) (defBody s_m_plus) (defScope s_m_plus) .none kV10 dc10 pm10 an10 cd10 ct10), sl10⟩) (c10 : PySem.W.codeIn K cd10 "m_plus" = true) (k10 : PySem.W.keepIn K (.ref f10) = true)
    (a11 : PySem.W.nsIn K mainGlobals "scaled" = some (some (.ref f11))) (l11 : K.lookup f11 = some ⟨oc11, od11, .func (PySem.W.fnOf "scaled" "scaled" (defArgs s_scaled) (defBody s_scaled) (defScope s_scaled) .none kV11 dc11 pm11 an11 cd11 ct11), sl11⟩) (c11 : PySem.W.codeIn K cd11 "scaled" = true) (k11 : PySem.W.keepIn K (.ref f11) = true)
    (a12 : PySem.W.nsIn K mainGlobals "p_minus" = some (some (.ref f12))) (l12 : K.lookup f12 = some ⟨oc12, od12, .func (PySem.W.fnOf "p_minus" "p_minus" (defArgs s_p_minus) (defBody s_p_minus) (defScope s_p_minus) .none kV12 dc12 pm12 an12 cd12 ct12), sl12⟩) (c12 : PySem.W.codeIn K cd12 "p_minus" = true) (k12 : PySem.W.keepIn K (.ref f12) = true)
    (a13 : PySem.W.nsIn K mainGlobals "m_minus" = some (some (.ref f13))) (l13 : K.lookup f13 = some ⟨oc13, od13, .func (PySem.W.fnOf "m_minus" "m_minus" (defArgs s_m_minus) (defBody s_m_minus) (defScope s_m_minus) .none kV13 dc13 pm13 an13 cd13 ct13), sl13⟩) (c13 : PySem.W.codeIn K cd13 "m_minus" = true) (k13 : PySem.W.keepIn K (.ref f13) = true)
    (a14 : PySem.W.nsIn K mainGlobals "p_times" = some (some (.ref f14))) (l14 : K.lookup f14 = some ⟨oc14, od14, .func (PySem.W.fnOf "p_times" "p_times" (defArgs s_p_times) (defBody s_p_times) (defScope s_p_times) .none kV14 dc14 pm14 an14 cd14 ct14), sl14⟩) (c14 : PySem.W.codeIn K cd14 "p_times" = true) (k14 : PySem.W.keepIn K (.ref f14) = true)
    (a15 : PySem.W.nsIn K mainGlobals "m_times" = some (some (.ref f15))) (l15 : K.lookup f15 = some ⟨oc15, od15, .func (PySem.W.fnOf "m_times" "m_times" (defArgs s_m_times) (defBody s_m_times) (defScope s_m_times) .none kV15 dc15 pm15 an15 cd15 ct15), sl15⟩) (c15 : PySem.W.codeIn K cd15 "m_times" = true) (k15 : PySem.W.keepIn K (.ref f15) = true)
    (a16 : PySem.W.nsIn K mainGlobals "_law_remainders" = some (some (.ref f16))) (l16 : K.lookup f16 = some ⟨oc16, od16, .func (PySem.W.fnOf "_law_remainders" "_law_remainders" (defArgs s_q_remainders) (defBody s_q_remainders) (defScope s_q_remainders) .none kV16 dc16 pm16 an16 cd16 ct16), sl16⟩) (c16 : PySem.W.codeIn K cd16 "_law_remainders" = true) (k16 : PySem.W.keepIn K (.ref f16) = true)
    (a17 : PySem.W.nsIn K mainGlobals "_law_right" = some (some (.ref f17))) (l17 : K.lookup f17 = some ⟨oc17, od17, .func (PySem.W.fnOf "_law_right" "_law_right" (defArgs s_q_right) (defBody s_q_right) (defScope s_q_right) .none kV17 dc17 pm17 an17 cd17 ct17), sl17⟩) (c17 : PySem.W.codeIn K cd17 "_law_right" = true) (k17 : PySem.W.keepIn K (.ref f17) = true)
    (a18 : PySem.W.nsIn K mainGlobals "inverse_by" = some (some (.ref f18))) (l18 : K.lookup f18 = some ⟨oc18, od18, .func (PySem.W.fnOf "inverse_by" "inverse_by" (defArgs s_inverse_by) (defBody s_inverse_by) (defScope s_inverse_by) .none kV18 dc18 pm18 an18 cd18 ct18), sl18⟩) (c18 : PySem.W.codeIn K cd18 "inverse_by" = true) (k18 : PySem.W.keepIn K (.ref f18) = true)
    (a19 : PySem.W.nsIn K mainGlobals "_law_divides_both" = some (some (.ref f19))) (l19 : K.lookup f19 = some ⟨oc19, od19, .func (PySem.W.fnOf "_law_divides_both" "_law_divides_both" (defArgs s_q_divides_both) (defBody s_q_divides_both) (defScope s_q_divides_both) .none kV19 dc19 pm19 an19 cd19 ct19), sl19⟩) (c19 : PySem.W.codeIn K cd19 "_law_divides_both" = true) (k19 : PySem.W.keepIn K (.ref f19) = true)
    (a20 : PySem.W.nsIn K mainGlobals "_law_inverse_right" = some (some (.ref f20))) (l20 : K.lookup f20 = some ⟨oc20, od20, .func (PySem.W.fnOf "_law_inverse_right" "_law_inverse_right" (defArgs s_q_inverse_right) (defBody s_q_inverse_right) (defScope s_q_inverse_right) .none kV20 dc20 pm20 an20 cd20 ct20), sl20⟩) (c20 : PySem.W.codeIn K cd20 "_law_inverse_right" = true) (k20 : PySem.W.keepIn K (.ref f20) = true)
    (a21 : PySem.W.nsIn K mainGlobals "law" = some (some (.ref f21))) (l21 : K.lookup f21 = some ⟨oc21, od21, .func (PySem.W.fnOf "law" "law" (defArgs s_law) (defBody s_law) (defScope s_law) .none kV21 dc21 pm21 an21 cd21 ct21), sl21⟩) (c21 : PySem.W.codeIn K cd21 "law" = true) (k21 : PySem.W.keepIn K (.ref f21) = true)
    {qNoPart : Addr} (aNoPart : PySem.W.nsIn K mainGlobals "NoPart" = some (some (.ref qNoPart)))
    {qCourtError : Addr} (aCourtError : PySem.W.nsIn K mainGlobals "CourtError" = some (some (.ref qCourtError)))
    {qNoFree : Addr} (aNoFree : PySem.W.nsIn K mainGlobals "NoFree" = some (some (.ref qNoFree)))
    {qTooGreat : Addr} (aTooGreat : PySem.W.nsIn K mainGlobals "TooGreat" = some (some (.ref qTooGreat)))
    (xkNoPart : PySem.W.excIn K qNoPart [.type "ValueError", .type "Exception", .type "BaseException", .type "object"] "ValueError.__new__" = true)
    (xkCourtError : PySem.W.excIn K qCourtError [.type "ValueError", .type "Exception", .type "BaseException", .type "object"] "ValueError.__new__" = true)
    (xigetattributeNoPart : PySem.W.findIn K (.ref qNoPart) "__getattribute__" = some (some (.builtin "BaseException.__getattribute__")))
    (xigetattrNoPart : PySem.W.findIn K (.ref qNoPart) "__getattr__" = some none)
    (xiclassNoPart : PySem.W.findIn K (.ref qNoPart) "__class__" = some (some (.builtin "object.__class__")))
    (xiobjectNoPart : PySem.W.mroIn K qNoPart (.type "object") = some true)
    (xiBaseExceptionNoPart : PySem.W.mroIn K qNoPart (.type "BaseException") = some true)
    (xsNoPartCourtError : PySem.W.mroIn K qNoPart (.ref qCourtError) = some true)
    (kiNoPartNoPart : PySem.W.kitOne K (.ref qNoPart) (.ref qNoPart) = some true)
    (kiNoPartNoFree : PySem.W.kitOne K (.ref qNoPart) (.ref qNoFree) = some false)
    (kiNoPartTooGreat : PySem.W.kitOne K (.ref qNoPart) (.ref qTooGreat) = some false)
    (zenumerate : PySem.W.nsIn K mainGlobals "enumerate" = some none) (zlen : PySem.W.nsIn K mainGlobals "len" = some none) (ztuple : PySem.W.nsIn K mainGlobals "tuple" = some none) (zmax : PySem.W.nsIn K mainGlobals "max" = some none) (zlist : PySem.W.nsIn K mainGlobals "list" = some none) (zrange : PySem.W.nsIn K mainGlobals "range" = some none) (zall : PySem.W.nsIn K mainGlobals "all" = some none) (zisinstance : PySem.W.nsIn K mainGlobals "isinstance" = some none) (zabs : PySem.W.nsIn K mainGlobals "abs" = some none) (zbool : PySem.W.nsIn K mainGlobals "bool" = some none) (zint : PySem.W.nsIn K mainGlobals "int" = some none) :
    ∃ fd : FuncData, (∀ (s : Shared) (v : Value), BindsTo s fd ⟨[v], []⟩ [("_law_script", v)]) ∧ ∀ base : Heap, K.In base → base.Ns mainGlobals mg → FnOk l.prog w K mg base CX0 7 fa fd ["_law_script"] (spLaw K) := by
  have e := hfa.symm.trans (PySem.W.mg_of X G a21)
  cases e
  have z_enumerate := PySem.W.mg_none_of X G zenumerate
  have z_len := PySem.W.mg_none_of X G zlen
  have z_tuple := PySem.W.mg_none_of X G ztuple
  have z_max := PySem.W.mg_none_of X G zmax
  have z_list := PySem.W.mg_none_of X G zlist
  have z_range := PySem.W.mg_none_of X G zrange
  have z_all := PySem.W.mg_none_of X G zall
  have z_isinstance := PySem.W.mg_none_of X G zisinstance
  have z_abs := PySem.W.mg_none_of X G zabs
  have z_bool := PySem.W.mg_none_of X G zbool
  have z_int := PySem.W.mg_none_of X G zint
  have eNoPart := cA_of aNoPart
  have eCourtError := cA_of aCourtError
  have eNoFree := cA_of aNoFree
  have eTooGreat := cA_of aTooGreat
  have xk_NoPart : ExcK K (cA K "NoPart") := by rw [eNoPart]; exact xkNoPart
  have xm_NoPart : mg "NoPart" = some (.ref (cA K "NoPart")) := by rw [eNoPart]; exact PySem.W.mg_of X G aNoPart
  have xk_CourtError : ExcK K (cA K "CourtError") := by rw [eCourtError]; exact xkCourtError
  have xm_CourtError : mg "CourtError" = some (.ref (cA K "CourtError")) := by rw [eCourtError]; exact PySem.W.mg_of X G aCourtError
  have xi_NoPart : ExcI K (cA K "NoPart") := by rw [eNoPart]; exact ⟨xigetattributeNoPart, xigetattrNoPart, xiclassNoPart, xiobjectNoPart, xiBaseExceptionNoPart⟩
  have xs_NoPart_CourtError : PySem.W.mroIn K (cA K "NoPart") (.ref (cA K "CourtError")) = some true := by rw [eNoPart]; rw [eCourtError]; exact xsNoPartCourtError
  have ki_NoPart_NoPart : PySem.W.kitOne K (.ref (cA K "NoPart")) (.ref (cA K "NoPart")) = some true := by rw [eNoPart]; exact kiNoPartNoPart
  have xm_NoFree : mg "NoFree" = some (.ref (cA K "NoFree")) := by rw [eNoFree]; exact PySem.W.mg_of X G aNoFree
  have ki_NoPart_NoFree : PySem.W.kitOne K (.ref (cA K "NoPart")) (.ref (cA K "NoFree")) = some false := by rw [eNoPart]; rw [eNoFree]; exact kiNoPartNoFree
  have xm_TooGreat : mg "TooGreat" = some (.ref (cA K "TooGreat")) := by rw [eTooGreat]; exact PySem.W.mg_of X G aTooGreat
  have ki_NoPart_TooGreat : PySem.W.kitOne K (.ref (cA K "NoPart")) (.ref (cA K "TooGreat")) = some false := by rw [eNoPart]; rw [eTooGreat]; exact kiNoPartTooGreat
  have F1 := fun_mk (st := s_q_mixed) l1 c1 k1
  have D1 : Df K mg "_law_mixed" s_q_mixed ["_law_cell", "_law_k"] _ _ := ⟨F1, F1.binds (ps := ["_law_cell", "_law_k"]) fun _ _ _ _ _ _ us hl => match us, hl with | [_, _], _ => rfl, PySem.W.mg_of X G a1⟩
  have F2 := fun_mk (st := s_q_parts) l2 c2 k2
  have D2 : Df K mg "_law_parts" s_q_parts ["_law_cell", "_law_bases"] _ _ := ⟨F2, F2.binds (ps := ["_law_cell", "_law_bases"]) fun _ _ _ _ _ _ us hl => match us, hl with | [_, _], _ => rfl, PySem.W.mg_of X G a2⟩
  have F3 := fun_mk (st := s_q_weights) l3 c3 k3
  have D3 : Df K mg "_law_weights" s_q_weights ["_law_parts_here", "_law_m"] _ _ := ⟨F3, F3.binds (ps := ["_law_parts_here", "_law_m"]) fun _ _ _ _ _ _ us hl => match us, hl with | [_, _], _ => rfl, PySem.W.mg_of X G a3⟩
  have F4 := fun_mk (st := s_q_poly) l4 c4 k4
  have D4 : Df K mg "_law_poly" s_q_poly ["_law_weights_here"] _ _ := ⟨F4, F4.binds (ps := ["_law_weights_here"]) fun _ _ _ _ _ _ us hl => match us, hl with | [_], _ => rfl, PySem.W.mg_of X G a4⟩
  have F5 := fun_mk (st := s_poly) l5 c5 k5
  have D5 : Df K mg "poly" s_poly ["weights"] _ _ := ⟨F5, F5.binds (ps := ["weights"]) fun _ _ _ _ _ _ us hl => match us, hl with | [_], _ => rfl, PySem.W.mg_of X G a5⟩
  have F6 := fun_mk (st := s_by_number) l6 c6 k6
  have D6 : Df K mg "by_number" s_by_number ["one", "m"] _ _ := ⟨F6, F6.binds (ps := ["one", "m"]) fun _ _ _ _ _ _ us hl => match us, hl with | [_, _], _ => rfl, PySem.W.mg_of X G a6⟩
  have F7 := fun_mk (st := s_q_sum) l7 c7 k7
  have D7 : Df K mg "_law_sum" s_q_sum ["_law_one", "_law_other", "_law_way"] _ _ := ⟨F7, F7.binds (ps := ["_law_one", "_law_other", "_law_way"]) fun _ _ _ _ _ _ us hl => match us, hl with | [_, _, _], _ => rfl, PySem.W.mg_of X G a7⟩
  have F8 := fun_mk (st := s_q_product) l8 c8 k8
  have D8 : Df K mg "_law_product" s_q_product ["_law_one", "_law_other"] _ _ := ⟨F8, F8.binds (ps := ["_law_one", "_law_other"]) fun _ _ _ _ _ _ us hl => match us, hl with | [_, _], _ => rfl, PySem.W.mg_of X G a8⟩
  have F9 := fun_mk (st := s_p_plus) l9 c9 k9
  have D9 : Df K mg "p_plus" s_p_plus ["one", "other"] _ _ := ⟨F9, F9.binds (ps := ["one", "other"]) fun _ _ _ _ _ _ us hl => match us, hl with | [_, _], _ => rfl, PySem.W.mg_of X G a9⟩
  have F10 := fun_mk (st := s_m_plus) l10 c10 k10
  have D10 : Df K mg "m_plus" s_m_plus ["one", "other", "m"] _ _ := ⟨F10, F10.binds (ps := ["one", "other", "m"]) fun _ _ _ _ _ _ us hl => match us, hl with | [_, _, _], _ => rfl, PySem.W.mg_of X G a10⟩
  have F11 := fun_mk (st := s_scaled) l11 c11 k11
  have D11 : Df K mg "scaled" s_scaled ["one", "factor"] _ _ := ⟨F11, F11.binds (ps := ["one", "factor"]) fun _ _ _ _ _ _ us hl => match us, hl with | [_, _], _ => rfl, PySem.W.mg_of X G a11⟩
  have F12 := fun_mk (st := s_p_minus) l12 c12 k12
  have D12 : Df K mg "p_minus" s_p_minus ["one", "other"] _ _ := ⟨F12, F12.binds (ps := ["one", "other"]) fun _ _ _ _ _ _ us hl => match us, hl with | [_, _], _ => rfl, PySem.W.mg_of X G a12⟩
  have F13 := fun_mk (st := s_m_minus) l13 c13 k13
  have D13 : Df K mg "m_minus" s_m_minus ["one", "other", "m"] _ _ := ⟨F13, F13.binds (ps := ["one", "other", "m"]) fun _ _ _ _ _ _ us hl => match us, hl with | [_, _, _], _ => rfl, PySem.W.mg_of X G a13⟩
  have F14 := fun_mk (st := s_p_times) l14 c14 k14
  have D14 : Df K mg "p_times" s_p_times ["one", "other"] _ _ := ⟨F14, F14.binds (ps := ["one", "other"]) fun _ _ _ _ _ _ us hl => match us, hl with | [_, _], _ => rfl, PySem.W.mg_of X G a14⟩
  have F15 := fun_mk (st := s_m_times) l15 c15 k15
  have D15 : Df K mg "m_times" s_m_times ["one", "other", "m"] _ _ := ⟨F15, F15.binds (ps := ["one", "other", "m"]) fun _ _ _ _ _ _ us hl => match us, hl with | [_, _, _], _ => rfl, PySem.W.mg_of X G a15⟩
  have F16 := fun_mk (st := s_q_remainders) l16 c16 k16
  have D16 : Df K mg "_law_remainders" s_q_remainders ["_law_weights_here", "_law_m"] _ _ := ⟨F16, F16.binds (ps := ["_law_weights_here", "_law_m"]) fun _ _ _ _ _ _ us hl => match us, hl with | [_, _], _ => rfl, PySem.W.mg_of X G a16⟩
  have F17 := fun_mk (st := s_q_right) l17 c17 k17
  have D17 : Df K mg "_law_right" s_q_right ["_law_one", "_law_other", "_law_m"] _ _ := ⟨F17, F17.binds (ps := ["_law_one", "_law_other", "_law_m"]) fun _ _ _ _ _ _ us hl => match us, hl with | [_, _, _], _ => rfl, PySem.W.mg_of X G a17⟩
  have F18 := fun_mk (st := s_inverse_by) l18 c18 k18
  have D18 : Df K mg "inverse_by" s_inverse_by ["number", "m"] _ _ := ⟨F18, F18.binds (ps := ["number", "m"]) fun _ _ _ _ _ _ us hl => match us, hl with | [_, _], _ => rfl, PySem.W.mg_of X G a18⟩
  have F19 := fun_mk (st := s_q_divides_both) l19 c19 k19
  have D19 : Df K mg "_law_divides_both" s_q_divides_both ["_law_one", "_law_other"] _ _ := ⟨F19, F19.binds (ps := ["_law_one", "_law_other"]) fun _ _ _ _ _ _ us hl => match us, hl with | [_, _], _ => rfl, PySem.W.mg_of X G a19⟩
  have F20 := fun_mk (st := s_q_inverse_right) l20 c20 k20
  have D20 : Df K mg "_law_inverse_right" s_q_inverse_right ["_law_figure", "_law_m"] _ _ := ⟨F20, F20.binds (ps := ["_law_figure", "_law_m"]) fun _ _ _ _ _ _ us hl => match us, hl with | [_, _], _ => rfl, PySem.W.mg_of X G a20⟩
  have F21 := fun_mk (st := s_law) l21 c21 k21
  have D21 : Df K mg "law" s_law ["_law_script"] _ _ := ⟨F21, F21.binds (ps := ["_law_script"]) fun _ _ _ _ _ _ us hl => match us, hl with | [_], _ => rfl, PySem.W.mg_of X G a21⟩
  refine ⟨PySem.W.fnOf "law" "law" (defArgs s_law) (defBody s_law) (defScope s_law) .none kV21 dc21 pm21 an21 cd21 ct21, fun s v => .of_eq rfl, fun base _ _ => ?_⟩
  have C_q_mixed := ok_q_mixed (P := l.prog) (w := w) (base := base) D1 
  have C_q_parts := ok_q_parts (P := l.prog) (w := w) (base := base) D2 z_enumerate C_q_mixed
  have C_q_weights := ok_q_weights (P := l.prog) (w := w) (base := base) D3 
  have C_q_poly := ok_q_poly (P := l.prog) (w := w) (base := base) D4 z_len z_tuple
  have C_poly := ok_poly (P := l.prog) (w := w) (base := base) D5 z_len z_tuple
  have C_by_number := ok_by_number (P := l.prog) (w := w) (base := base) D6 C_poly
  have C_q_sum := ok_q_sum (P := l.prog) (w := w) (base := base) D7 z_max z_len z_list z_range
  have C_q_product := ok_q_product (P := l.prog) (w := w) (base := base) D8 z_range z_len
  have C_p_plus := ok_p_plus (P := l.prog) (w := w) (base := base) D9 z_list z_enumerate z_len C_poly
  have C_m_plus := ok_m_plus (P := l.prog) (w := w) (base := base) D10 C_by_number C_p_plus
  have C_scaled := ok_scaled (P := l.prog) (w := w) (base := base) D11 z_tuple
  have C_p_minus := ok_p_minus (P := l.prog) (w := w) (base := base) D12 C_p_plus C_scaled
  have C_m_minus := ok_m_minus (P := l.prog) (w := w) (base := base) D13 C_by_number C_p_minus
  have C_p_times := ok_p_times (P := l.prog) (w := w) (base := base) D14 z_enumerate z_tuple z_len
  have C_m_times := ok_m_times (P := l.prog) (w := w) (base := base) D15 C_by_number C_p_times
  have C_q_remainders := ok_q_remainders (P := l.prog) (w := w) (base := base) D16 C_q_poly
  have C_q_right := ok_q_right (P := l.prog) (w := w) (base := base) D17 z_all z_isinstance z_tuple C_q_sum C_q_product C_m_plus C_m_minus C_m_times C_q_remainders
  have CE_inverse_by := ok_inverse_by (P := l.prog) (w := w) (base := base) D18 xk_NoPart xm_NoPart
  have C_q_divides_both := ok_q_divides_both (P := l.prog) (w := w) (base := base) D19 z_abs
  have C_q_inverse_right := ok_q_inverse_right (P := l.prog) (w := w) (base := base) D20 z_isinstance z_bool z_int xk_CourtError xm_CourtError xk_NoPart xi_NoPart xs_NoPart_CourtError xm_NoPart ki_NoPart_NoPart xm_NoFree ki_NoPart_NoFree xm_TooGreat ki_NoPart_TooGreat CE_inverse_by C_q_divides_both
  exact fn_law (P := l.prog) (w := w) (base := base) D21 z_isinstance z_tuple C_q_parts C_q_weights C_q_poly C_by_number C_q_right C_m_times C_q_remainders C_q_inverse_right
theorem walk {l : PySem.W.OpenLaw} {q : Program} {loose : List Str} {XP : (Str → Option Value) → Heap → Prop} {YP : World → Heap → Prop} {d : DefRec} {K : Params → PySem.W.Frag} (hn : l.most = some 63) (hdf : d.params.defaults = [])
    (hY : ∀ (w : World) (h : Heap), YP w h → (K w.params).In h)
    (F : ∀ (w : World) (mg : Str → Option Value) (fa : Addr) (h : Heap), (K w.params).In h → h.Ns mainGlobals mg → mg d.name = some (.ref fa) →
      ∃ fd : FuncData, (∀ (s : Shared) (u : Value), BindsTo s fd ⟨[u], []⟩ [("_law_script", u)]) ∧ ∀ base : Heap, (K w.params).In base → base.Ns mainGlobals mg → FnOk l.prog w (K w.params) mg base CX0 7 fa fd ["_law_script"] (spLaw (K w.params))) :
    PySem.W.WalkO q loose XP YP l.row.toRowW d [] (fun f vs => PySem.call f vs) :=
  L2.walk_of (n := 63) (k := 7) (x := "_law_script") (CX := fun _ => CX0) (sp := fun w => spLaw (K w.params)) hn (by decide) hdf ⟨rfl, by decide, by decide⟩ hY F (fun _ _ a ns hl _ hS => ⟨a, ns, rfl, hS, hl, fun _ => rfl⟩) fun _ _ _ _ _ z => z
end Z
open PySem PySem.W PyProof.Rows
set_option maxRecDepth 100000 in
set_option maxHeartbeats 0 in
theorem PySem.Challenge.cw_rootcourt_k50_sums_by_a_number_holds : PySem.Challenge.rw_rootcourt_k50_sums_by_a_number.Holds := by
  w_on; o_law; k_head; (case hw => w_witness2)
  k_fill
  refine Z.walk (l := PySem.Challenge.rw_rootcourt_k50_sums_by_a_number) rfl rfl (fun w h Y => PySem.W.kIn_of Y) ?F
  case F =>
    intro w mg fa h KX G hmg
    refine' Z.all_mk KX G hmg ?a1 ?l1 ?c1 ?k1 ?a2 ?l2 ?c2 ?k2 ?a3 ?l3 ?c3 ?k3 ?a4 ?l4 ?c4 ?k4 ?a5 ?l5 ?c5 ?k5 ?a6 ?l6 ?c6 ?k6 ?a7 ?l7 ?c7 ?k7 ?a8 ?l8 ?c8 ?k8 ?a9 ?l9 ?c9 ?k9 ?a10 ?l10 ?c10 ?k10 ?a11 ?l11 ?c11 ?k11 ?a12 ?l12 ?c12 ?k12 ?a13 ?l13 ?c13 ?k13 ?a14 ?l14 ?c14 ?k14 ?a15 ?l15 ?c15 ?k15 ?a16 ?l16 ?c16 ?k16 ?a17 ?l17 ?c17 ?k17 ?a18 ?l18 ?c18 ?k18 ?a19 ?l19 ?c19 ?k19 ?a20 ?l20 ?c20 ?k20 ?a21 ?l21 ?c21 ?k21 ?aNoPart ?aCourtError ?aNoFree ?aTooGreat ?xkNoPart ?xkCourtError ?xigetattributeNoPart ?xigetattrNoPart ?xiclassNoPart ?xiobjectNoPart ?xiBaseExceptionNoPart ?xsNoPartCourtError ?kiNoPartNoPart ?kiNoPartNoFree ?kiNoPartTooGreat ?zenumerate ?zlen ?ztuple ?zmax ?zlist ?zrange ?zall ?zisinstance ?zabs ?zbool ?zint
    (case a1 => k_is); (case l1 => k_is); (case c1 => k_is); (case k1 => k_is)
    (case a2 => k_is); (case l2 => k_is); (case c2 => k_is); (case k2 => k_is)
    (case a3 => k_is); (case l3 => k_is); (case c3 => k_is); (case k3 => k_is)
    (case a4 => k_is); (case l4 => k_is); (case c4 => k_is); (case k4 => k_is)
    (case a5 => k_is); (case l5 => k_is); (case c5 => k_is); (case k5 => k_is)
    (case a6 => k_is); (case l6 => k_is); (case c6 => k_is); (case k6 => k_is)
    (case a7 => k_is); (case l7 => k_is); (case c7 => k_is); (case k7 => k_is)
    (case a8 => k_is); (case l8 => k_is); (case c8 => k_is); (case k8 => k_is)
    (case a9 => k_is); (case l9 => k_is); (case c9 => k_is); (case k9 => k_is)
    (case a10 => k_is); (case l10 => k_is); (case c10 => k_is); (case k10 => k_is)
    (case a11 => k_is); (case l11 => k_is); (case c11 => k_is); (case k11 => k_is)
    (case a12 => k_is); (case l12 => k_is); (case c12 => k_is); (case k12 => k_is)
    (case a13 => k_is); (case l13 => k_is); (case c13 => k_is); (case k13 => k_is)
    (case a14 => k_is); (case l14 => k_is); (case c14 => k_is); (case k14 => k_is)
    (case a15 => k_is); (case l15 => k_is); (case c15 => k_is); (case k15 => k_is)
    (case a16 => k_is); (case l16 => k_is); (case c16 => k_is); (case k16 => k_is)
    (case a17 => k_is); (case l17 => k_is); (case c17 => k_is); (case k17 => k_is)
    (case a18 => k_is); (case l18 => k_is); (case c18 => k_is); (case k18 => k_is)
    (case a19 => k_is); (case l19 => k_is); (case c19 => k_is); (case k19 => k_is)
    (case a20 => k_is); (case l20 => k_is); (case c20 => k_is); (case k20 => k_is)
    (case a21 => k_is); (case l21 => k_is); (case c21 => k_is); (case k21 => k_is)
    (case aNoPart => k_is); (case aCourtError => k_is); (case aNoFree => k_is); (case aTooGreat => k_is)
    (case xkNoPart => k_exc); (case xkCourtError => k_exc); (case xigetattributeNoPart => k_is); (case xigetattrNoPart => k_is); (case xiclassNoPart => k_is); (case xiobjectNoPart => k_is); (case xiBaseExceptionNoPart => k_is); (case xsNoPartCourtError => k_is); (case kiNoPartNoPart => kit_is); (case kiNoPartNoFree => kit_is); (case kiNoPartTooGreat => kit_is)
    (case zenumerate => k_is); (case zlen => k_is); (case ztuple => k_is); (case zmax => k_is); (case zlist => k_is); (case zrange => k_is); (case zall => k_is); (case zisinstance => k_is); (case zabs => k_is); (case zbool => k_is); (case zint => k_is)
