import PyProof.Rows.All
import Wide.All
import OpenK.AllK
import Wide.FinOn
import Lean
import PyProof.EqAt
import PyProof.EqKinds
import PyProof.TupleCall
import PySem.Challenge.RW_rootcourt_k19_whole_right_cuts
set_option maxHeartbeats 4000000
-- CHANGE: your row's module here, as the last of these rows
set_option Elab.async false
set_option linter.all false
set_option maxRecDepth 100000
namespace L2
open PySem PySem.Spec PyProof.Rows
abbrev Key := Sum Int Str
def keyIs : Key → Value → Bool
  | .inl k, v => Value.isInt k v
  | .inr x, v => Value.isStrOf x v
def keyH (w : World) : Key → Int
  | .inl k => hashInt k
  | .inr x => hashStr w x
theorem keyIs_shape : ∀ {k : Key} {v : Value}, keyIs k v = true → (∃ i t, k = Sum.inl i ∧ v = Value.int i t) ∨ (∃ x t, k = Sum.inr x ∧ v = Value.str x t)
  | .inl i, v, h => by
    obtain ⟨t, e⟩ := Value.isInt_shape (k := i) (v := v) h
    exact .inl ⟨i, t, rfl, e⟩
  | .inr x, v, h => by
    obtain ⟨t, e⟩ := Value.isStrOf_shape (x := x) (v := v) h
    exact .inr ⟨x, t, rfl, e⟩
theorem key_ll (a b : Int) : decide ((Sum.inl a : Key) = Sum.inl b) = (a == b) := by
  by_cases e : a = b
  · subst e; simp
  · have h : ¬ (Sum.inl a : Key) = Sum.inl b := fun q => e (Sum.inl.inj q)
    rw [decide_eq_false h]
    exact (beq_eq_false_iff_ne.mpr e).symm
theorem key_rr (a b : Str) : decide ((Sum.inr a : Key) = Sum.inr b) = decide (a = b) := by
  by_cases e : a = b
  · subst e; simp
  · have h : ¬ (Sum.inr a : Key) = Sum.inr b := fun q => e (Sum.inr.inj q)
    rw [decide_eq_false h, decide_eq_false e]
theorem key_lr (a : Int) (b : Str) : decide ((Sum.inl a : Key) = Sum.inr b) = false := decide_eq_false (fun q => nomatch q)
theorem key_rl (a : Str) (b : Int) : decide ((Sum.inr a : Key) = Sum.inl b) = false := decide_eq_false (fun q => nomatch q)
def mixKind (prog : Program) (w : World) : PySem.KeyKind prog w Key where
  is := keyIs
  hash := keyH w
  inj := fun v a b ha hb => by
    rcases keyIs_shape ha with ⟨i, t, rfl, rfl⟩ | ⟨x, t, rfl, rfl⟩
    · rcases keyIs_shape hb with ⟨j, u, rfl, e⟩ | ⟨y, u, rfl, e⟩
      · injection e with e1 _; rw [e1]
      · exact nomatch e
    · rcases keyIs_shape hb with ⟨j, u, rfl, e⟩ | ⟨y, u, rfl, e⟩
      · exact nomatch e
      · injection e with e1 _; rw [e1]
  byValue := fun k v h => by
    rcases keyIs_shape h with ⟨i, t, rfl, rfl⟩ | ⟨x, t, rfl, rfl⟩ <;> rfl
  pyHash := fun hv h => by
    rcases keyIs_shape hv with ⟨i, t, rfl, rfl⟩ | ⟨x, t, rfl, rfl⟩
    · exact wpAny_pyHash_int h
    · exact wpAny_pyHash_str h
  eqBool := fun hu hv h => by
    rcases keyIs_shape hu with ⟨i, t, rfl, rfl⟩ | ⟨x, t, rfl, rfl⟩
    · rcases keyIs_shape hv with ⟨j, u, rfl, rfl⟩ | ⟨y, u, rfl, rfl⟩
      · rw [key_ll] at h; exact wpAny_eqBool_int h
      · rw [key_lr] at h; exact SeqAt.EqAt.int_str i t y u _ _ _ _ h
    · rcases keyIs_shape hv with ⟨j, u, rfl, rfl⟩ | ⟨y, u, rfl, rfl⟩
      · rw [key_rl] at h; exact SeqAt.EqAt.str_int x t j u _ _ _ _ h
      · rw [key_rr] at h; exact wpAny_eqBool_str h
  «strs» := fun k x t v h => by
    rcases keyIs_shape h with ⟨i, u, rfl, e⟩ | ⟨y, u, rfl, e⟩
    · exact nomatch e
    · injection e with e1 _
      subst e1
      cases v <;> rfl
end L2
namespace L2
open PySem PySem.Spec PyProof.Rows
inductive V where
  | non | bl (b : Bool) | int (i : Int) | str (x : Str) | byt (b : Array UInt8) | flt (b : UInt64) | ref (a : Addr) | ty (n : String)
  deriving DecidableEq
def RelV : V → Value → Prop
  | .non, u => u = Value.none
  | .bl b, u => u = Value.bool b
  | .int i, u => ∃ t, u = Value.int i t
  | .str x, u => ∃ t, u = Value.str x t
  | .byt b, u => ∃ t, u = Value.bytes b t
  | .flt b, u => ∃ t, u = Value.float b t
  | .ref a, u => u = Value.ref a
  | .ty n, u => u = Value.type n
abbrev Vals : List V → List Value → Prop := Paired RelV
theorem Vals.length {xs : List V} {us : List Value} (r : Vals xs us) : xs.length = us.length := Paired.length r
theorem Vals.get : ∀ {xs : List V} {us : List Value} {i : Nat} {x : V}, Vals xs us → xs[i]? = some x → ∃ u, us[i]? = some u ∧ RelV x u
  | _, _, _, _, .nil, e => by simp at e
  | _, _, 0, _, .cons r _, e => by simp at e; subst e; exact ⟨_, rfl, r⟩
  | _, _, i + 1, x, .cons _ t, e => by
    obtain ⟨u, h1, h2⟩ := Vals.get (i := i) (x := x) t (by simpa using e)
    exact ⟨u, by simpa using h1, h2⟩
theorem Vals.set {x : V} {u : Value} (r : RelV x u) : ∀ {xs : List V} {us : List Value} (i : Nat), Vals xs us → Vals (xs.set i x) (us.set i u)
  | _, _, _, .nil => .nil
  | _, _, 0, .cons _ t => .cons r t
  | _, _, i + 1, .cons q t => .cons q (Vals.set r i t)
theorem Vals.append : ∀ {xs ys : List V} {us ws : List Value}, Vals xs us → Vals ys ws → Vals (xs ++ ys) (us ++ ws)
  | _, _, _, _, .nil, s => s
  | _, _, _, _, .cons r t, s => .cons r (Vals.append t s)
theorem Vals.take : ∀ {xs : List V} {us : List Value} (n : Nat), Vals xs us → Vals (xs.take n) (us.take n)
  | _, _, 0, _ => .nil
  | _, _, _ + 1, .nil => .nil
  | _, _, n + 1, .cons r t => .cons r (Vals.take n t)
theorem Vals.drop : ∀ {xs : List V} {us : List Value} (n : Nat), Vals xs us → Vals (xs.drop n) (us.drop n)
  | _, _, 0, r => r
  | _, _, _ + 1, .nil => .nil
  | _, _, n + 1, .cons _ t => Vals.drop n t
def RelO : Option V → Option Value → Prop
  | some v, some u => RelV v u
  | none, none => True
  | _, _ => False
def KV {κ : Type} : List (κ × V) → List (κ × Value) → Prop := Paired fun (p : κ × V) (q : κ × Value) => p.1 = q.1 ∧ RelV p.2 q.2
def kV : Key → V
  | .inl i => .int i
  | .inr x => .str x
inductive HO where
  | lst (xs : List V)
  | tup (xs : List V)
  | dK (kvs : List (Key × V)) | dT (kvs : List (List Key × V))
  | set (S : Int → Bool) (n : Nat)
  | ins (C dx : Addr) (fs : List (Str × V))
  | own (x : Addr)
  | xd (fs : List (Str × V))
  | met (f x : Addr)
  | rng (lo hi : Int)
  | frz (o : Obj) (u : HO)
  | tbl (ps : Array Value)
  | ext (φ : Heap → Prop)
abbrev Hp := Addr → Option HO
def upd (H : Hp) (a : Addr) (o : HO) : Hp := fun b => if b = a then some o else H b
theorem upd_same {H : Hp} {a : Addr} {o : HO} : upd H a o a = some o := by unfold upd; rw [if_pos rfl]
theorem upd_ne {H : Hp} {a b : Addr} {o : HO} (h : b ≠ a) : upd H a o b = H b := by unfold upd; rw [if_neg h]
theorem ne_of {H : Hp} {a b : Addr} {o u : HO} (h : H a = some o) (h' : H b = some u) (d : o ≠ u) : a ≠ b := by
  intro e; subst e; rw [h] at h'; exact d (Option.some.inj h')
theorem ne_of_none {H : Hp} {a b : Addr} {o : HO} (h : H a = some o) (h' : H b = none) : a ≠ b := by
  intro e; subst e; rw [h] at h'; cases h'
section
variable (P : Program) (w : World)
def ObjOk (H : Hp) (h : Heap) (a : Addr) : HO → Prop
  | .lst xs => xs.length ≤ sizeLine ∧ ∃ (its : List Value) (n : Nat), Vals xs its ∧ h.get? a = some { cls := .type "list", data := .seq its.toArray n }
  | .tup xs => xs.length ≤ sizeLine ∧ ∃ its : List Value, Vals xs its ∧ IsTup h a its.toArray
  | .dK kvs => kvs.length ≤ sizeLine ∧ (a == sysModules) = false ∧ ∃ vs, KV kvs vs ∧ h.DictOf (mixKind P w) a vs
  | .dT kvs => kvs.length ≤ sizeLine ∧ (a == sysModules) = false ∧ ∃ xs : List (List Key × Addr × Value),
      Paired (fun (p : List Key × V) (q : List Key × Addr × Value) => p.1 = q.1 ∧ H q.2.1 = some (.tup (p.1.map kV)) ∧ RelV p.2 q.2.2) kvs xs ∧
      ∃ o es ep, h.get? a = some o ∧ o.ExactDict ∧ o.data = .dict es ep ∧ es.toList = xs.map (entryOfKey (tupleKind (mixKind P w))) ∧ (xs.map (·.1)).Nodup
  | .set S n => h.SetOf (intKind P w) a S n
  | .ins C dx fs => H dx = some (.own a) ∧ fs.length ≤ 1000 ∧ dx ≠ a ∧ h.get? a = some (PySem.W.instObj C dx) ∧
      ∃ mA, h.Ns1 dx mA ∧ (∀ f, RelO (fs.lookup f) (mA f)) ∧ PySem.Within mA (fs.map (·.1))
  | .own _ => ∃ o, h.get? a = some o
  | .xd fs => ∃ mA, h.Ns1 a mA ∧ ∀ f, RelO (fs.lookup f) (mA f)
  | .rng lo hi => ∃ t u v, h.get? a = some { cls := .type "range", data := .fields #[.int lo t, .int hi u, .int 1 v] }
  | .frz o u => h.get? a = some o ∧ ObjOk H h a u
  | .tbl ps => h.get? a = some { cls := .none, data := .fields ps }
  | .met f x => h.get? a = some (PySem.W.methodObj (.ref f) (.ref x))
  | .ext φ => φ h ∧ (∃ o, h.get? a = some o) ∧ ∀ h1 h2 : Heap, φ h1 → (∀ o, h1.get? a = some o → h2.get? a = some o) → φ h2
def HOk (H : Hp) (h : Heap) : Prop := ∀ a o, H a = some o → ObjOk P w H h a o
end
section
variable {P : Program} {w : World} {H H' : Hp} {h h' : Heap} {a : Addr} {o : HO}
theorem ObjOk.lt (x : ObjOk P w H h a o) : a < h.objs.size := by
  cases o with
  | lst xs => obtain ⟨_, _, _, _, e⟩ := x; exact Heap.lt_size e
  | tup xs => obtain ⟨_, _, _, p⟩ := x; exact p.lt
  | dK kvs => obtain ⟨_, _, _, _, o, _, _, e, _⟩ := x; exact Heap.lt_size e
  | dT kvs => obtain ⟨_, _, _, _, o, _, _, e, _⟩ := x; exact Heap.lt_size e
  | set S n => obtain ⟨o, _, _, _, e, _⟩ := x; exact Heap.lt_size e
  | ins C dx fs => obtain ⟨_, _, _, e, _⟩ := x; exact Heap.lt_size e
  | own y => obtain ⟨_, e⟩ := x; exact Heap.lt_size e
  | xd fs => obtain ⟨_, ⟨_, _, _, e, _⟩, _⟩ := x; exact Heap.lt_size e
  | rng lo hi => obtain ⟨_, _, _, e⟩ := x; exact Heap.lt_size e
  | frz ob u => obtain ⟨e, _⟩ := x; exact Heap.lt_size e
  | tbl ps => exact Heap.lt_size (show h.get? a = some _ from x)
  | met f y => exact Heap.lt_size (show h.get? a = some _ from x)
  | ext φ => obtain ⟨_, ⟨_, e⟩, _⟩ := x; exact Heap.lt_size e
theorem Paired.mapP {α β : Type} {F G : α → β → Prop} : ∀ {l₁ : List α} {l₂ : List β}, Paired F l₁ l₂ → (∀ a b, F a b → G a b) → Paired G l₁ l₂
  | _, _, .nil, _ => .nil
  | _, _, .cons r t, f => .cons (f _ _ r) (Paired.mapP t f)
theorem ObjOk.stay (x : ObjOk P w H h a o) (k : ∀ b u, (b = a ∨ H b = some (.own a)) → h.get? b = some u → h'.get? b = some u)
    (ho : ∀ b, H b = some (.own a) → H' b = some (.own a)) (ht : ∀ b xs, H b = some (.tup xs) → H' b = some (.tup xs)) : ObjOk P w H' h' a o := by
  induction o with
  | lst xs => obtain ⟨z, its, n, r, e⟩ := x; exact ⟨z, its, n, r, k _ _ (.inl rfl) e⟩
  | tup xs => obtain ⟨z, its, r, ob, e, c⟩ := x; exact ⟨z, its, r, ob, k _ _ (.inl rfl) e, c⟩
  | dK kvs => obtain ⟨z, y, vs, r, ob, es, ep, e, c⟩ := x; exact ⟨z, y, vs, r, ob, es, ep, k _ _ (.inl rfl) e, c⟩
  | dT kvs =>
    obtain ⟨z, y, xs, r, ob, es, ep, e, c⟩ := x
    exact ⟨z, y, xs, Paired.mapP r fun p q z => ⟨z.1, ht _ _ z.2.1, z.2.2⟩, ob, es, ep, k _ _ (.inl rfl) e, c⟩
  | set S n => obtain ⟨ob, es, ep, t, e, c⟩ := x; exact ⟨ob, es, ep, t, k _ _ (.inl rfl) e, c⟩
  | ins C dx fs =>
    obtain ⟨d, z, ne, e, mA, ⟨od, es, ep, e2, c⟩, r⟩ := x
    exact ⟨ho _ d, z, ne, k _ _ (.inl rfl) e, mA, ⟨od, es, ep, k _ _ (.inr d) e2, c⟩, r⟩
  | own y => obtain ⟨ob, e⟩ := x; exact ⟨ob, k _ _ (.inl rfl) e⟩
  | xd fs => obtain ⟨mA, ⟨od, es, ep, e, c⟩, r⟩ := x; exact ⟨mA, ⟨od, es, ep, k _ _ (.inl rfl) e, c⟩, r⟩
  | rng lo hi => obtain ⟨t, u, v, e⟩ := x; exact ⟨t, u, v, k _ _ (.inl rfl) e⟩
  | frz ob u ih => obtain ⟨e, q⟩ := x; exact ⟨k _ _ (.inl rfl) e, ih q⟩
  | tbl ps =>
    have e : h.get? a = some { cls := .none, data := .fields ps } := x
    show h'.get? a = some { cls := .none, data := .fields ps }
    exact k a _ (.inl rfl) e
  | met f y =>
    have e : h.get? a = some (PySem.W.methodObj (.ref f) (.ref y)) := x
    show h'.get? a = some (PySem.W.methodObj (.ref f) (.ref y))
    exact k a _ (.inl rfl) e
  | ext φ => obtain ⟨p, ⟨o, e⟩, st⟩ := x; exact ⟨st _ _ p fun o q => k _ _ (.inl rfl) q, ⟨o, k _ _ (.inl rfl) e⟩, st⟩
theorem HOk.lt (x : HOk P w H h) (e : H a = some o) : a < h.objs.size := (x a o e).lt
theorem HOk.fresh (x : HOk P w H h) (e : h.objs.size ≤ a) : H a = none := by
  cases q : H a with
  | none => rfl
  | some u => exact absurd (Nat.lt_of_lt_of_le (x.lt q) e) (Nat.lt_irrefl _)
theorem HOk.kept (x : HOk P w H h) (k : ∀ b u, h.get? b = some u → h'.get? b = some u) : HOk P w H h' := fun a o e =>
  (x a o e).stay (fun b u _ q => k b u q) (fun _ q => q) fun _ _ q => q
theorem HOk.laid (x : HOk P w H h) (k : ∀ b u, h.get? b = some u → h'.get? b = some u) (hp : h.objs.size ≤ a) (new : ObjOk P w (upd H a o) h' a o) : HOk P w (upd H a o) h' := fun b u e => by
  have hn := x.fresh hp
  by_cases hb : b = a
  · subst hb; rw [upd_same] at e; cases e; exact new
  · rw [upd_ne hb] at e
    exact (x b u e).stay (fun c v _ q => k c v q) (fun c q => by rw [upd_ne (ne_of_none q hn)]; exact q) fun c xs q => by rw [upd_ne (ne_of_none q hn)]; exact q
end
def Rd (H : Hp) (a : Addr) (u : HO) : Prop := H a = some u ∨ ∃ o, H a = some (.frz o u)
theorem Rd.of {H : Hp} {a : Addr} {u : HO} (h : H a = some u) : Rd H a u := .inl h
theorem Rd.ok {P : Program} {w : World} {H : Hp} {h : Heap} {a : Addr} {u : HO} (r : Rd H a u) (x : HOk P w H h) : ObjOk P w H h a u := by
  rcases r with r | ⟨o, r⟩
  · exact x a u r
  · obtain ⟨_, q⟩ := x a _ r
    exact q
def Mut : Option HO → Prop
  | some (.lst _) => True
  | some (.dK _) => True
  | some (.dT _) => True
  | some (.set _ _) => True
  | some (.ins _ _ _) => True
  | some (.ext _) => True
  | _ => False
section
variable {P : Program} {w : World} {H : Hp} {h h' : Heap} {x e : Addr} {o' : HO}
theorem HOk.write (ok : HOk P w H h) (mu : Mut (H x)) (he : e = x ∨ H e = some (.own x)) (k : ∀ b u, b ≠ e → h.get? b = some u → h'.get? b = some u) (heo : ∃ u, h'.get? e = some u)
    (new : ObjOk P w (upd H x o') h' x o') : HOk P w (upd H x o') h' := fun b u q => by
  have nown : ∀ c y, H c = some (.own y) → c ≠ x := fun c y r z => by subst z; rw [r] at mu; exact mu
  have ntup : ∀ c xs, H c = some (.tup xs) → c ≠ x := fun c xs r z => by subst z; rw [r] at mu; exact mu
  by_cases hb : b = x
  · subst hb; rw [upd_same] at q; cases q; exact new
  · rw [upd_ne hb] at q
    by_cases hbe : b = e
    · have q' : H b = some (.own x) := by
        rcases he with z | z
        · exact absurd (hbe.trans z) hb
        · rw [hbe]; exact z
      rw [q] at q'; cases q'
      obtain ⟨v, hv⟩ := heo
      exact ⟨v, by rw [hbe]; exact hv⟩
    · refine (ok b u q).stay (fun c v hc r => k c v ?_ r) (fun c r => by rw [upd_ne (nown c b r)]; exact r) fun c xs r => by rw [upd_ne (ntup c xs r)]; exact r
      rcases hc with rfl | hc
      · exact hbe
      · rintro rfl
        rcases he with z | z
        · exact nown c b hc z
        · rw [hc] at z; cases z; exact hb rfl
end
structure Un (fs ex : List Addr) (H H' : Hp) (h h' : Heap) : Prop where
  keep : ∀ b o, h.get? b = some o → H b = none → b ∉ fs → b ∉ ex → h'.get? b = some o
  slot : ∀ b o, h.get? b = some o → H b = none → b ∈ fs → b ∉ ex → ∃ sl, h'.get? b = some { o with slots := sl }
  free : ∀ b o, h.get? b = some o → H b = none → b ∉ ex → H' b = none
  there : ∀ b o, h.get? b = some o → b ∉ ex → ∃ o', h'.get? b = some o'
  tups : ∀ b xs, H b = some (.tup xs) → H' b = some (.tup xs)
  frzs : ∀ b o u, H b = some (.frz o u) → H' b = some (.frz o u)
  tbls : ∀ b ps, H b = some (.tbl ps) → ∃ more, H' b = some (.tbl (ps ++ more))
section
variable {fs fs' ex ex' : List Addr} {H H1 H2 : Hp} {h h1 h2 h' : Heap} {a x e : Addr} {o : HO}
theorem Un.any (u : Un fs ex H H1 h h1) {b : Addr} {ob : Obj} (q : h.get? b = some ob) (n : H b = none) (hx : b ∉ ex) : ∃ sl, h1.get? b = some { ob with slots := sl } := by
  by_cases hb : b ∈ fs
  · exact u.slot b ob q n hb hx
  · exact ⟨ob.slots, u.keep b ob q n hb hx⟩
theorem Un.trans (a : Un fs ex H H1 h h1) (b : Un fs ex H1 H2 h1 h2) : Un fs ex H H2 h h2 where
  keep := fun c ob q n hc hx => b.keep c ob (a.keep c ob q n hc hx) (a.free c ob q n hx) hc hx
  slot := fun c ob q n hc hx => by
    obtain ⟨sl, e1⟩ := a.slot c ob q n hc hx
    obtain ⟨sl', e2⟩ := b.slot c _ e1 (a.free c ob q n hx) hc hx
    exact ⟨sl', e2⟩
  free := fun c ob q n hx => by
    obtain ⟨o', e1⟩ := a.there c ob q hx
    exact b.free c o' e1 (a.free c ob q n hx) hx
  there := fun c ob q hx => by
    obtain ⟨o', e1⟩ := a.there c ob q hx
    exact b.there c o' e1 hx
  tups := fun c xs q => b.tups c xs (a.tups c xs q)
  frzs := fun c ob xs q => b.frzs c ob xs (a.frzs c ob xs q)
  tbls := fun c ps q => by
    obtain ⟨m1, e1⟩ := a.tbls c ps q
    obtain ⟨m2, e2⟩ := b.tbls c _ e1
    exact ⟨m1 ++ m2, by rw [e2, Array.append_assoc]⟩
theorem Un.kept (k : ∀ b u, h.get? b = some u → h'.get? b = some u) : Un fs ex H H h h' :=
  ⟨fun b ob q _ _ _ => k b ob q, fun b ob q _ _ _ => ⟨ob.slots, k b ob q⟩, fun _ _ _ n _ => n, fun b ob q _ => ⟨ob, k b ob q⟩, fun _ _ q => q, fun _ _ _ q => q, fun _ ps q => ⟨#[], by rw [q]; simp⟩⟩
theorem Un.refl : Un fs ex H H h h := Un.kept fun _ _ q => q
theorem Un.laid (k : ∀ b u, h.get? b = some u → h'.get? b = some u) (hp : h.objs.size ≤ a) (hn : H a = none) : Un fs ex H (upd H a o) h h' where
  keep := fun b u q _ _ _ => k b u q
  slot := fun b u q _ _ _ => ⟨u.slots, k b u q⟩
  free := fun b u q n _ => by rw [upd_ne (Nat.ne_of_lt (Nat.lt_of_lt_of_le (Heap.lt_size q) hp))]; exact n
  there := fun b u q _ => ⟨u, k b u q⟩
  tups := fun b xs q => by rw [upd_ne (ne_of_none q hn)]; exact q
  frzs := fun b u xs q => by rw [upd_ne (ne_of_none q hn)]; exact q
  tbls := fun b ps q => ⟨#[], by rw [upd_ne (ne_of_none q hn), q]; simp⟩
theorem Un.write (mu : Mut (H x)) (he : e = x ∨ H e = some (.own x)) (k : ∀ b u, b ≠ e → h.get? b = some u → h'.get? b = some u) (heo : ∃ u, h'.get? e = some u) : Un fs ex H (upd H x o) h h' := by
  have hx : ∀ b, H b = none → b ≠ x := fun b n z => by subst z; rw [n] at mu; exact mu
  have hb : ∀ b, H b = none → b ≠ e := fun b n z => by
    subst z
    rcases he with r | r
    · exact hx b n r
    · rw [n] at r; cases r
  have hm : ∀ b u, H b = some u → ¬ Mut (some u) → b ≠ x := fun b u q nm z => by subst z; rw [q] at mu; exact nm mu
  refine ⟨fun b u q n _ _ => k b u (hb b n) q, fun b u q n _ _ => ⟨u.slots, k b u (hb b n) q⟩, fun b u q n _ => by rw [upd_ne (hx b n)]; exact n, fun b u q _ => ?_,
    fun b xs q => by rw [upd_ne (hm b _ q fun z => z)]; exact q, fun b u xs q => by rw [upd_ne (hm b _ q fun z => z)]; exact q, fun b ps q => ⟨#[], by rw [upd_ne (hm b _ q fun z => z), q]; simp⟩⟩
  by_cases hbe : b = e
  · subst hbe; exact heo
  · exact ⟨u, k b u hbe q⟩
theorem Un.mono (u : Un fs ex H H1 h h1) (hs : ∀ b ∈ fs, b ∈ fs') (hx : ∀ b ∈ ex, b ∈ ex') : Un fs' ex' H H1 h h1 :=
  ⟨fun b ob q n hb he => u.keep b ob q n (fun z => hb (hs b z)) fun z => he (hx b z), fun _ _ q n _ he => u.any q n fun z => he (hx _ z), fun b ob q n he => u.free b ob q n fun z => he (hx b z), fun b ob q he => u.there b ob q fun z => he (hx b z), u.tups, u.frzs, u.tbls⟩
end
def trk (h : Heap) (H : Hp) : List Addr := (List.range h.objs.size).filter fun a => (H a).isSome
def hidT (h : Heap) (H : Hp) : Heap := PySem.W.hideAll h (trk h H)
theorem hidT_size (h : Heap) (H : Hp) : (hidT h H).objs.size = h.objs.size := PySem.W.hideAll_size _ _
theorem hidT_get {h : Heap} {H : Hp} {b : Addr} {o : Obj} (e : h.get? b = some o) (n : H b = none) : (hidT h H).get? b = some o :=
  PySem.W.hideAll_get _ e fun hm => by
    have q : (H b).isSome = true := (List.mem_filter.mp hm).2
    rw [n] at q; simp at q
theorem of_hidT {h : Heap} {H : Hp} {b : Addr} {o : Obj} (e : (hidT h H).get? b = some o) : h.get? b = some o ∧ H b = none := by
  have e' : h.get? b = some o := PySem.W.of_hideAll (trk h H) e
  refine ⟨e', ?_⟩
  cases q : H b with
  | none => rfl
  | some x =>
    have hm : b ∈ trk h H := List.mem_filter.mpr ⟨List.mem_range.mpr (Heap.lt_size e'), by simp [q]⟩
    have z : (hidT h H).get? b = none := PySem.W.hideAll_none (trk h H) hm
    rw [z] at e; cases e
def allNews (g h : Heap) (L : Addr) : List (Addr × Obj) := (List.range h.objs.size).filterMap fun a => if a = L ∨ (g.get? a).isSome = true then none else (h.get? a).map fun o => (a, o)
def rest (g h : Heap) (L d : Addr) : List (Addr × Obj) := (allNews g h L).filter fun p => decide (p.1 ≠ d)
end L2
namespace L2
open PySem PySem.Spec PyProof.Rows
structure Mod (K : PySem.W.Frag) (mg : Str → Option Value) (base : Heap) : Prop where
  kin : K.In base
  glob : base.Ns mainGlobals mg
  blt : ∃ mb, base.Ns builtinsNs mb ∧ ∀ x : Str, x ≠ "__name__" → mb x = bootBuiltins x
  nolimit : base.NoLimit
/-- the context: a def's body (or a comprehension's block) running. base: fixed through the whole law; s₀, H₀: the entry; outer: the frames whose slots others may change (a def's callers); stack: all frames that run;
   ex: iterators that were made ahead of the entry and are walked here (a comprehension's); fn: the names whose cells were made at the entry (a def: all; a comprehension's block: its own); calm: not within an except suite; pn: pins that every state bears; xe: what is wanted of an exception that leaves the code -/
structure Cx where
  prog : Program
  w : World
  K : PySem.W.Frag
  mg : Str → Option Value
  base : Heap
  A : Around
  N : List Str
  s₀ : Shared
  H₀ : Hp
  env : Env
  outer : List Env
  stack : List Env
  ex : List Addr
  fn : Str → Bool
  calm : Bool
  pn : List (Addr × Obj)
  xe : Value → Shared → Prop
def frs (l : List Env) : List Addr := l.filterMap (·.frame)
abbrev Cx.fs (X : Cx) : List Addr := frs X.outer
def Vis (sc : Scope) (x : Str) : Prop := sc.names.lookup x = some .local ∨ sc.names.lookup x = some .cell ∨ sc.names.lookup x = some .free
def Loc (sc : Scope) (x : Str) : Prop := sc.names.lookup x = some .local ∨ sc.names.lookup x = some .cell
def Look (env : Env) (h : Heap) (m : Str → Option Value) (x : Str) (u : Value) : Prop :=
  (env.kindOf x = some .local ∧ m x = some u) ∨ ((env.kindOf x = some .cell ∨ env.kindOf x = some .free) ∧ ∃ c, env.cells.lookup x = some c ∧ h.IsCell c (some u))
structure Cx.Ok (X : Cx) : Prop where
  mod : Mod X.K X.mg X.base
  kind : X.env.scope.kind = .function
  glob : X.env.globals = mainGlobals
  blt : X.env.builtins = builtinsNs
  above : X.s₀.heap.objs.size ≤ X.env.locals
  inj : ∀ x y c, X.env.cells.lookup x = some c → X.env.cells.lookup y = some c → x = y
  has : ∀ x, (X.env.kindOf x = some .cell ∨ X.env.kindOf x = some .free) → ∃ c, X.env.cells.lookup x = some c
  cab : ∀ x c, X.fn x = true → X.env.cells.lookup x = some c → X.s₀.heap.objs.size ≤ c
  hd : X.calm = true → X.A.handled = none
  frames : X.A.frames = some X.stack
  stk : X.stack = X.outer ∨ (X.stack = X.env :: X.outer ∧ X.env.frame = some X.env.locals)
  exf : ∀ b ∈ X.ex, b ≠ X.env.locals ∧ ∀ x c, X.env.cells.lookup x = some c → c ≠ b
  bs : ∀ b o, X.base.get? b = some o → X.s₀.heap.get? b = some o ∧ X.H₀ b = none
  bsz : X.base.objs.size ≤ X.s₀.heap.objs.size
  noex : ∀ b o, X.base.get? b = some o → b ∉ X.ex
  exfs : ∀ b ∈ X.ex, b ∉ X.fs
  funs : X.s₀.heap.FunFrames X.base X.outer
  frf : ∀ b ∈ X.fs, X.H₀ b = none
structure Inv (X : Cx) (pins : List (Addr × Obj)) (σ : List (Option V)) (H : Hp) (s : Shared) : Prop where
  ok : X.Ok
  os : s.os = X.s₀.os
  bare : AllBare s.gens
  base : Un X.fs X.ex X.H₀ H X.s₀.heap s.heap
  loc : ∃ m, s.heap.Ns X.env.locals m ∧ ∀ (i : Nat) (x : Str) (v : V), X.N[i]? = some x → σ[i]? = some (some v) → Vis X.env.scope x → ∃ u, RelV v u ∧ Look X.env s.heap m x u
  cell : ∀ x c, X.env.cells.lookup x = some c → ∃ v, s.heap.IsCell c v
  free : H X.env.locals = none
  freeC : ∀ x c, X.env.cells.lookup x = some c → H c = none
  pin : ∀ p ∈ X.pn ++ pins, s.heap.get? p.1 = some p.2 ∧ H p.1 = none ∧ p.1 ≠ X.env.locals ∧ p.1 ∉ X.fs ∧ ∀ v, p.2.data ≠ .cell v
  hok : HOk X.prog X.w H s.heap
  len : σ.length = X.N.length
section
variable {X : Cx} {pins : List (Addr × Obj)} {σ : List (Option V)} {H H' : Hp} {s : Shared} {h' : Heap}
theorem Cx.Ok.nofr (ok : X.Ok) {b : Addr} {o : Obj} (e : X.base.get? b = some o) : b ∉ X.fs := fun hb => by
  have := (ok.funs.mem hb).1
  rw [e] at this; cases this
theorem Inv.bs (I : Inv X pins σ H s) : ∀ b o, X.base.get? b = some o → s.heap.get? b = some o ∧ H b = none := fun b o e =>
  ⟨I.base.keep b o (I.ok.bs b o e).1 (I.ok.bs b o e).2 (I.ok.nofr e) (I.ok.noex b o e), I.base.free b o (I.ok.bs b o e).1 (I.ok.bs b o e).2 (I.ok.noex b o e)⟩
theorem Inv.bk (I : Inv X pins σ H s) : ∀ b o, X.base.get? b = some o → s.heap.get? b = some o := fun b o e => (I.bs b o e).1
theorem Inv.mod (I : Inv X pins σ H s) : Mod X.K X.mg X.base := I.ok.mod
theorem Inv.kIn (I : Inv X pins σ H s) : X.K.In s.heap := I.ok.mod.kin.keeps I.bk
theorem Inv.nolimit (I : Inv X pins σ H s) : s.heap.NoLimit := I.ok.mod.nolimit.keeps I.bk
theorem Inv.fr (I : Inv X pins σ H s) : ∃ m, Fr X.base X.env.locals s.heap m :=
  let ⟨m, hn, _⟩ := I.loc
  ⟨m, hn, I.bk, Nat.le_trans I.ok.bsz I.ok.above⟩
theorem Inv.lt (I : Inv X pins σ H s) : X.env.locals < s.heap.objs.size := let ⟨_, hn, _⟩ := I.loc; hn.lt
theorem Inv.sz (I : Inv X pins σ H s) : X.s₀.heap.objs.size ≤ s.heap.objs.size := Nat.le_trans I.ok.above (Nat.le_of_lt I.lt)
theorem Inv.nofs (I : Inv X pins σ H s) {a : Addr} (h : s.heap.objs.size ≤ a) : a ∉ X.fs := fun hb => by
  obtain ⟨_, o, ho, _⟩ := I.ok.funs.mem hb
  exact absurd (Nat.lt_of_lt_of_le (Heap.lt_size ho) (Nat.le_trans I.sz h)) (Nat.lt_irrefl _)
theorem Inv.cne (I : Inv X pins σ H s) : ∀ x c, X.env.cells.lookup x = some c → c ≠ X.env.locals := fun x c e z => by
  obtain ⟨v, o, ho, hd⟩ := I.cell x c e
  obtain ⟨m, ⟨o', es, ep, ho', hd', _⟩, _⟩ := I.loc
  rw [z, ho'] at ho; cases ho; rw [hd'] at hd; cases hd
theorem Inv.funs (I : Inv X pins σ H s) : s.heap.FunFrames X.base X.outer := by
  have all : ∀ (l : List Env), (∀ b ∈ frs l, b ∈ X.fs) → X.s₀.heap.FunFrames X.base l → s.heap.FunFrames X.base l := by
    intro l
    induction l with
    | nil => intro _ _; trivial
    | cons env r ih =>
      intro hs hl
      obtain ⟨hk, ⟨L, o, hf, hn, ho, hd⟩, hr⟩ := hl
      have hL : L ∈ X.fs := hs L (by unfold frs; rw [List.filterMap_cons, hf]; exact List.mem_cons_self)
      obtain ⟨sl, e⟩ := I.base.slot L o ho (I.ok.frf L hL) hL fun z => I.ok.exfs L z hL
      exact ⟨hk, ⟨L, _, hf, hn, e, hd⟩, ih (fun b hb => hs b (by unfold frs; rw [List.filterMap_cons, hf]; exact List.mem_cons_of_mem _ hb)) hr⟩
  exact all X.outer (fun _ hb => hb) I.ok.funs
theorem Inv.stack (I : Inv X pins σ H s) : s.heap.FunFrames X.base X.stack := by
  rcases I.ok.stk with e | ⟨e, hf⟩
  · rw [e]; exact I.funs
  · rw [e]
    obtain ⟨m, hn, _⟩ := I.loc
    refine .cons (by rw [I.ok.kind]; decide) hf hn ?_ I.funs
    exact Heap.get?_none_of_le (Nat.le_trans I.ok.bsz I.ok.above)
theorem Inv.stkSub (I : Inv X pins σ H s) : ∀ b ∈ frs X.stack, b ∈ X.env.locals :: X.fs := fun b hb => by
  rcases I.ok.stk with e | ⟨e, hf⟩
  · rw [e] at hb; exact List.mem_cons_of_mem _ hb
  · rw [e] at hb
    unfold frs at hb
    rw [List.filterMap_cons, hf] at hb
    exact hb
theorem Inv.stkFree (I : Inv X pins σ H s) : ∀ b ∈ frs X.stack, H b = none := fun b hb => by
  rcases List.mem_cons.mp (I.stkSub b hb) with e | hb
  · rw [e]; exact I.free
  · obtain ⟨_, o, ho, _⟩ := I.ok.funs.mem hb
    exact I.base.free b o ho (I.ok.frf b hb) fun z => I.ok.exfs b z hb
theorem Inv.step {g' : Array GenState} {t' : Nat} {d' : Drawn} {ch : List Addr} (I : Inv X pins σ H s)
    (hch : ∀ b ∈ ch, (b ∈ X.ex ∨ X.s₀.heap.objs.size ≤ b) ∧ b ≠ X.env.locals ∧ (∀ x c, X.env.cells.lookup x = some c → c ≠ b) ∧ ∀ p ∈ X.pn ++ pins, p.1 ≠ b)
    (keep : ∀ b o, b ≠ X.env.locals → b ∉ X.fs → b ∉ ch → s.heap.get? b = some o → H b = none → h'.get? b = some o)
    (slot : ∀ b o, b ≠ X.env.locals → b ∈ X.fs → b ∉ ch → s.heap.get? b = some o → H b = none → ∃ sl, h'.get? b = some { o with slots := sl }) (free : ∀ b o, b ∉ ch → s.heap.get? b = some o → H b = none → H' b = none)
    (there : ∀ b o, b ∉ ch → s.heap.get? b = some o → ∃ o', h'.get? b = some o')
    (tups : ∀ b xs, H b = some (.tup xs) → H' b = some (.tup xs)) (frzs : ∀ b o u, H b = some (.frz o u) → H' b = some (.frz o u)) (tbls : ∀ b ps, H b = some (.tbl ps) → ∃ more, H' b = some (.tbl (ps ++ more)))
    (ns : ∀ m, s.heap.Ns X.env.locals m → h'.Ns X.env.locals m) (hok : HOk X.prog X.w H' h') (hg : AllBare g') :
    Inv X pins σ H' { s with heap := h', gens := g', drawn := d', toks := t' } := by
  have neL : ∀ b o, X.s₀.heap.get? b = some o → b ≠ X.env.locals := fun b o e => Nat.ne_of_lt (Nat.lt_of_lt_of_le (Heap.lt_size e) I.ok.above)
  have neC : ∀ b o, X.s₀.heap.get? b = some o → b ∉ X.ex → b ∉ ch := fun b o e hx hb => by
    rcases (hch b hb).1 with z | z
    · exact hx z
    · exact absurd (Nat.lt_of_lt_of_le (Heap.lt_size e) z) (Nat.lt_irrefl _)
  have cellK : ∀ x c, X.env.cells.lookup x = some c → ∀ v, s.heap.IsCell c v → h'.IsCell c v := fun x c e v ⟨o, ho, hd⟩ => by
    have nch : c ∉ ch := fun z => (hch c z).2.2.1 x c e rfl
    by_cases hc : c ∈ X.fs
    · obtain ⟨sl, q⟩ := slot c o (I.cne x c e) hc nch ho (I.freeC x c e)
      exact ⟨_, q, hd⟩
    · exact ⟨o, keep c o (I.cne x c e) hc nch ho (I.freeC x c e), hd⟩
  refine ⟨I.ok, I.os, hg, ⟨fun b o e n hb hx => ?_, fun b o e n hb hx => ?_, fun b o e n hx => ?_, fun b o e hx => ?_, fun b xs e => tups b xs (I.base.tups b xs e), fun b o xs e => frzs b o xs (I.base.frzs b o xs e), fun b ps e => ?_⟩, ?_, fun x c e => ?_, ?_, fun x c e => ?_, fun p hp => ?_, hok, I.len⟩
  · exact keep b o (neL b o e) hb (neC b o e hx) (I.base.keep b o e n hb hx) (I.base.free b o e n hx)
  · obtain ⟨sl, e1⟩ := I.base.slot b o e n hb hx
    obtain ⟨sl', e2⟩ := slot b _ (neL b o e) hb (neC b o e hx) e1 (I.base.free b o e n hx)
    exact ⟨sl', e2⟩
  · obtain ⟨o', e1⟩ := I.base.there b o e hx
    exact free b o' (neC b o e hx) e1 (I.base.free b o e n hx)
  · obtain ⟨o', e1⟩ := I.base.there b o e hx
    exact there b o' (neC b o e hx) e1
  · obtain ⟨m1, e1⟩ := I.base.tbls b ps e
    obtain ⟨m2, e2⟩ := tbls b _ e1
    exact ⟨m1 ++ m2, by rw [e2, Array.append_assoc]⟩
  · obtain ⟨m, hn, hl⟩ := I.loc
    refine ⟨m, ns m hn, fun i x v e1 e2 e3 => ?_⟩
    obtain ⟨u, r, l⟩ := hl i x v e1 e2 e3
    refine ⟨u, r, ?_⟩
    rcases l with l | ⟨k, c, e, z⟩
    · exact .inl l
    · exact .inr ⟨k, c, e, cellK x c e _ z⟩
  · obtain ⟨v, z⟩ := I.cell x c e
    exact ⟨v, cellK x c e v z⟩
  · obtain ⟨m, ⟨o, _, _, ho, _⟩, _⟩ := I.loc
    exact free _ o (fun z => (hch _ z).2.1 rfl) ho I.free
  · obtain ⟨v, o, ho, hd⟩ := I.cell x c e
    exact free c o (fun z => (hch c z).2.2.1 x c e rfl) ho (I.freeC x c e)
  · obtain ⟨e, n, ne, nf, d⟩ := I.pin p hp
    have nch : p.1 ∉ ch := fun z => (hch p.1 z).2.2.2 p hp rfl
    exact ⟨keep p.1 p.2 ne nf nch e n, free p.1 p.2 nch e n, ne, nf, d⟩
theorem Inv.un {t' : Nat} (I : Inv X pins σ H s) (u : Un X.fs [] H H' s.heap h') (hok : HOk X.prog X.w H' h') : Inv X pins σ H' { s with heap := h', toks := t' } := by
  obtain ⟨m, ⟨o, es, ep, ho, r⟩, _⟩ := id I.loc
  obtain ⟨sl, hL⟩ := u.any ho I.free (by simp)
  exact I.step (g' := s.gens) (d' := s.drawn) (ch := []) (fun _ z => nomatch z) (fun b o _ hb _ e n => u.keep b o e n hb (by simp)) (fun b o _ hb _ e n => u.slot b o e n hb (by simp)) (fun b o _ e n => u.free b o e n (by simp)) (fun b o _ e => u.there b o e (by simp)) u.tups u.frzs u.tbls (fun m' hm => by
    obtain ⟨o', es', ep', ho', r'⟩ := hm
    rw [ho] at ho'; cases ho'
    exact ⟨_, es', ep', hL, r'⟩) hok I.bare
theorem Inv.call {g' : Array GenState} {t' : Nat} {d' : Drawn} {ch : List Addr} (I : Inv X pins σ H s) (u : Un (frs X.stack) ch H H' s.heap h') (hok : HOk X.prog X.w H' h') (hg : AllBare g')
    (hch : ∀ b ∈ ch, (b ∈ X.ex ∨ X.s₀.heap.objs.size ≤ b) ∧ b ≠ X.env.locals ∧ (∀ x c, X.env.cells.lookup x = some c → c ≠ b) ∧ ∀ p ∈ X.pn ++ pins, p.1 ≠ b) :
    Inv X pins σ H' { s with heap := h', gens := g', drawn := d', toks := t' } := by
  obtain ⟨m, ⟨o, es, ep, ho, r⟩, _⟩ := id I.loc
  obtain ⟨sl, hL⟩ := u.any ho I.free fun z => (hch _ z).2.1 rfl
  exact I.step (ch := ch) hch (fun b o hL hb hc e n => u.keep b o e n (fun z => (List.mem_cons.mp (I.stkSub b z)).elim hL hb) hc) (fun b o _ _ hc e n => u.any e n hc) (fun b o hc e n => u.free b o e n hc) (fun b o hc e => u.there b o e hc) u.tups u.frzs u.tbls (fun m' hm => by
    obtain ⟨o', es', ep', ho', r'⟩ := hm
    rw [ho] at ho'; cases ho'
    exact ⟨_, es', ep', hL, r'⟩) hok hg
theorem Inv.turned {t' : Nat} {it : Addr} (I : Inv X pins σ H s) (k : ∀ b o, b ≠ it → s.heap.get? b = some o → h'.get? b = some o) (hn : H it = none) (hL : it ≠ X.env.locals)
    (h1 : it ∈ X.ex ∨ X.s₀.heap.objs.size ≤ it) (h2 : ∀ x c, X.env.cells.lookup x = some c → c ≠ it) (h3 : ∀ p ∈ X.pn ++ pins, p.1 ≠ it) : Inv X pins σ H { s with heap := h', toks := t' } := by
  have nit : ∀ b u, H b = some u → b ≠ it := fun b u e z => by rw [z, hn] at e; cases e
  refine I.step (g' := s.gens) (d' := s.drawn) (ch := [it]) (fun b hb => ?_) (fun b o _ _ hc e _ => k b o (fun z => hc (by simp [z])) e) (fun b o _ _ hc e _ => ⟨o.slots, k b o (fun z => hc (by simp [z])) e⟩) (fun _ _ _ _ n => n)
    (fun b o hc e => ⟨o, k b o (fun z => hc (by simp [z])) e⟩) (fun _ _ e => e) (fun _ _ _ e => e) (fun b ps e => ⟨#[], by rw [e]; simp⟩) (fun m hm => ?_) (fun b u e => ?_) I.bare
  · have e : b = it := by simpa using hb
    subst e
    exact ⟨h1, hL, h2, h3⟩
  · obtain ⟨o, es, ep, ho, r⟩ := hm
    exact ⟨o, es, ep, k _ o (Ne.symm hL) ho, r⟩
  · refine (I.hok b u e).stay (fun c v hc q => k c v ?_ q) (fun _ q => q) fun _ _ q => q
    rcases hc with z | z
    · rw [z]; exact nit b u e
    · exact nit c _ z
theorem Inv.tok (I : Inv X pins σ H s) (t : Nat) : Inv X pins σ H { s with toks := t } := I.un (h' := s.heap) (t' := t) Un.refl I.hok
theorem Inv.kept {t' : Nat} (I : Inv X pins σ H s) (k : ∀ b u, s.heap.get? b = some u → h'.get? b = some u) : Inv X pins σ H { s with heap := h', toks := t' } := I.un (Un.kept k) (I.hok.kept k)
theorem Inv.laid {a : Addr} {o : HO} {t' : Nat} (I : Inv X pins σ H s) (k : ∀ b u, s.heap.get? b = some u → h'.get? b = some u) (hp : s.heap.objs.size ≤ a) (new : ObjOk X.prog X.w (upd H a o) h' a o) :
    Inv X pins σ (upd H a o) { s with heap := h', toks := t' } := I.un (Un.laid k hp (I.hok.fresh hp)) (I.hok.laid k hp new)
theorem Inv.write {x e : Addr} {o : HO} {t' : Nat} (I : Inv X pins σ H s) (mu : Mut (H x)) (he : e = x ∨ H e = some (.own x)) (k : ∀ b u, b ≠ e → s.heap.get? b = some u → h'.get? b = some u) (heo : ∃ u, h'.get? e = some u)
    (new : ObjOk X.prog X.w (upd H x o) h' x o) : Inv X pins σ (upd H x o) { s with heap := h', toks := t' } := I.un (Un.write mu he k heo) (I.hok.write mu he k heo new)
theorem Inv.pins_of {pins' : List (Addr × Obj)} (I : Inv X pins σ H s) (h : ∀ p ∈ pins', s.heap.get? p.1 = some p.2 ∧ H p.1 = none ∧ p.1 ≠ X.env.locals ∧ p.1 ∉ X.fs ∧ ∀ v, p.2.data ≠ .cell v) : Inv X pins' σ H s :=
  ⟨I.ok, I.os, I.bare, I.base, I.loc, I.cell, I.free, I.freeC, fun p hp => (List.mem_append.mp hp).elim (fun z => I.pin p (List.mem_append_left _ z)) (h p), I.hok, I.len⟩
theorem nodup_ix {N : List Str} (hN : N.Nodup) {i j : Nat} {x : Str} (a : N[i]? = some x) (b : N[j]? = some x) : i = j := by
  obtain ⟨h1, e1⟩ := List.getElem?_eq_some_iff.mp a
  obtain ⟨h2, e2⟩ := List.getElem?_eq_some_iff.mp b
  exact (List.getElem_inj hN).mp (e1.trans e2.symm)
theorem store_ok2 {M : Model} {A : Around} {E : Value → Shared → Prop} {i : Nat} {x : Str} {v : V} {u : Value} {Q : Unit → Shared → Prop} (I : Inv X pins σ H s) (hN : X.N.Nodup) (hi : X.N[i]? = some x) (hx : Loc X.env.scope x) (r : RelV v u)
    (h : ∀ s', Inv X pins (σ.set i (some v)) H s' → (∃ a, Heap.SameBut a s.heap s'.heap ∧ (a = X.env.locals ∨ X.env.cells.lookup x = some a)) → Q () s') (hf : X.fn x = true ∨ X.env.scope.names.lookup x = some .local := by first | exact .inl rfl | exact .inr rfl | assumption) : wpAny M A (storeName X.env x u) Q E s := by
  obtain ⟨m, hn, hl⟩ := id I.loc
  have hcls : (X.env.scope.kind == .class || (X.env.scope.kind == .module && X.env.locals != X.env.globals)) = false := by rw [I.ok.kind]; rfl
  have hiσ : i < σ.length := by rw [I.len]; exact (List.getElem?_eq_some_iff.mp hi).1
  have cne := I.cne
  have tracked : ∀ {a : Addr} {h' : Heap}, (∃ o, s.heap.get? a = some o ∧ H a = none) → Heap.SameBut a s.heap h' → HOk X.prog X.w H h' := fun {a h'} ha hs b ob e => by
    obtain ⟨_, _, hfree⟩ := ha
    refine (I.hok b ob e).stay (fun c w' hc q => (hs.2 c ?_).trans q) (fun _ q => q) fun _ _ q => q
    rintro rfl
    rcases hc with rfl | hc
    · rw [hfree] at e; cases e
    · rw [hfree] at hc; cases hc
  rcases hx with hk | hk
  · refine wpAny_storeName_local hk hn (fun h' hn' hs => ?_) hcls
    obtain ⟨oL, _, _, hoL, _⟩ := id hn
    refine h _ ⟨I.ok, I.os, I.bare, ⟨fun b o e n hb hx => ?_, fun b o e n hb hx => ?_, I.base.free, fun b o e hx => ?_, I.base.tups, I.base.frzs, I.base.tbls⟩, ⟨_, hn', fun j y v' e1 e2 e3 => ?_⟩, fun y c e => ?_, I.free, I.freeC, fun p hp => ?_, tracked ⟨oL, hoL, I.free⟩ hs, by simpa using I.len⟩ ⟨_, hs, .inl rfl⟩
    · exact (hs.2 b (Nat.ne_of_lt (Nat.lt_of_lt_of_le (Heap.lt_size e) I.ok.above))).trans (I.base.keep b o e n hb hx)
    · obtain ⟨sl, e1⟩ := I.base.slot b o e n hb hx
      exact ⟨sl, (hs.2 b (Nat.ne_of_lt (Nat.lt_of_lt_of_le (Heap.lt_size e) I.ok.above))).trans e1⟩
    · obtain ⟨o', e1⟩ := I.base.there b o e hx
      exact ⟨o', (hs.2 b (Nat.ne_of_lt (Nat.lt_of_lt_of_le (Heap.lt_size e) I.ok.above))).trans e1⟩
    · by_cases hj : j = i
      · subst hj
        rw [hi] at e1; cases e1
        rw [List.getElem?_set_self hiσ] at e2
        cases e2
        exact ⟨u, r, .inl ⟨hk, by simp⟩⟩
      · rw [List.getElem?_set_ne (Ne.symm hj)] at e2
        obtain ⟨u', r', q⟩ := hl j y v' e1 e2 e3
        refine ⟨u', r', ?_⟩
        rcases q with ⟨k, e⟩ | ⟨k, c, e, z⟩
        · refine .inl ⟨k, ?_⟩
          have : y ≠ x := fun e => hj (nodup_ix hN e1 (e ▸ hi))
          simp [this, e]
        · exact .inr ⟨k, c, e, z.sameBut hs (cne y c e)⟩
    · obtain ⟨w', z⟩ := I.cell y c e
      exact ⟨w', z.sameBut hs (cne y c e)⟩
    · obtain ⟨e, n, ne, nf, d⟩ := I.pin p hp
      exact ⟨(hs.2 p.1 ne).trans e, n, ne, nf, d⟩
  · have hfn : X.fn x = true := by
      rcases hf with z | z
      · exact z
      · rw [z] at hk; cases hk
    obtain ⟨c, hc⟩ := I.ok.has x (.inl hk)
    obtain ⟨w', z⟩ := I.cell x c hc
    refine wpAny_storeName_cell I.ok.kind hk hc z (fun h' hc' hs => ?_)
    obtain ⟨oc, hoc, hocd⟩ := id z
    refine h { s with heap := h' } ⟨I.ok, I.os, I.bare, ⟨fun b o e n hb hx => ?_, fun b o e n hb hx => ?_, I.base.free, fun b o e hx => ?_, I.base.tups, I.base.frzs, I.base.tbls⟩, ⟨m, hn.sameBut hs (Ne.symm (cne x c hc)), fun j y v' e1 e2 e3 => ?_⟩, fun y c' e => ?_, I.free, I.freeC, fun p hp => ?_, tracked ⟨oc, hoc, I.freeC x c hc⟩ hs, by simpa using I.len⟩ ⟨c, hs, .inr hc⟩
    · exact (hs.2 b (Nat.ne_of_lt (Nat.lt_of_lt_of_le (Heap.lt_size e) (I.ok.cab x c hfn hc)))).trans (I.base.keep b o e n hb hx)
    · obtain ⟨sl, e1⟩ := I.base.slot b o e n hb hx
      exact ⟨sl, (hs.2 b (Nat.ne_of_lt (Nat.lt_of_lt_of_le (Heap.lt_size e) (I.ok.cab x c hfn hc)))).trans e1⟩
    · obtain ⟨o', e1⟩ := I.base.there b o e hx
      exact ⟨o', (hs.2 b (Nat.ne_of_lt (Nat.lt_of_lt_of_le (Heap.lt_size e) (I.ok.cab x c hfn hc)))).trans e1⟩
    · by_cases hj : j = i
      · subst hj
        rw [hi] at e1; cases e1
        rw [List.getElem?_set_self hiσ] at e2
        cases e2
        exact ⟨u, r, .inr ⟨.inl hk, c, hc, hc'⟩⟩
      · rw [List.getElem?_set_ne (Ne.symm hj)] at e2
        obtain ⟨u', r', q⟩ := hl j y v' e1 e2 e3
        refine ⟨u', r', ?_⟩
        rcases q with q | ⟨k, c', e, z'⟩
        · exact .inl q
        · refine .inr ⟨k, c', e, z'.sameBut hs ?_⟩
          rintro rfl
          exact hj (nodup_ix hN e1 (I.ok.inj _ _ _ e hc ▸ hi))
    · by_cases hcc : c' = c
      · subst hcc; exact ⟨_, hc'⟩
      · obtain ⟨w2, z2⟩ := I.cell y c' e
        exact ⟨w2, z2.sameBut hs hcc⟩
    · obtain ⟨e, n, ne, nf, d⟩ := I.pin p hp
      refine ⟨(hs.2 p.1 ?_).trans e, n, ne, nf, d⟩
      intro q
      rw [q, hoc] at e
      have q' : oc = p.2 := Option.some.inj e
      exact d w' (by rw [← q']; exact hocd)
theorem store_ok {M : Model} {A : Around} {E : Value → Shared → Prop} {i : Nat} {x : Str} {v : V} {u : Value} {Q : Unit → Shared → Prop} (I : Inv X pins σ H s) (hN : X.N.Nodup) (hi : X.N[i]? = some x) (hx : Loc X.env.scope x) (r : RelV v u)
    (h : ∀ s', Inv X pins (σ.set i (some v)) H s' → Q () s') (hf : X.fn x = true ∨ X.env.scope.names.lookup x = some .local := by first | exact .inl rfl | exact .inr rfl | assumption) : wpAny M A (storeName X.env x u) Q E s :=
  store_ok2 I hN hi hx r (fun s' I' _ => h s' I') hf
theorem Inv.call' {s' : Shared} {ch : List Addr} (I : Inv X pins σ H s) (ho : s'.os = s.os) (u : Un (frs X.stack) ch H H' s.heap s'.heap) (hok : HOk X.prog X.w H' s'.heap) (hg : AllBare s'.gens)
    (hch : ∀ b ∈ ch, (b ∈ X.ex ∨ X.s₀.heap.objs.size ≤ b) ∧ b ≠ X.env.locals ∧ (∀ x c, X.env.cells.lookup x = some c → c ≠ b) ∧ ∀ p ∈ X.pn ++ pins, p.1 ≠ b) : Inv X pins σ H' s' := by
  obtain ⟨h', g', d', t', o'⟩ := s'
  have e : o' = s.os := ho
  subst e
  exact I.call (g' := g') (t' := t') (d' := d') u hok hg hch
end
abbrev XK := Value → Option Addr → Hp → Prop
abbrev St := List (Option V)
abbrev VK := V → Hp → Prop
abbrev TE := St → Hp → VK → Prop
abbrev TT := St → Hp → (Bool → Hp → Prop) → Prop
abbrev TA := St → Hp → (List V → Hp → Prop) → Prop
structure Ends where
  nx : St → Hp → Prop
  rt : VK
  bk : St → Hp → Prop := fun _ _ => False
  ct : St → Hp → Prop := fun _ _ => False
abbrev TS := Ends → St → Hp → Prop
def EP (X : Cx) (pins : List (Addr × Obj)) (σ : St) (Q : VK) (u : Value) (s' : Shared) : Prop := ∃ v H', Inv X pins σ H' s' ∧ RelV v u ∧ Q v H'
def TP (X : Cx) (pins : List (Addr × Obj)) (σ : St) (Q : Bool → Hp → Prop) (b : Bool) (s' : Shared) : Prop := ∃ H', Inv X pins σ H' s' ∧ Q b H'
def AP (X : Cx) (pins : List (Addr × Obj)) (σ : St) (Q : List V → Hp → Prop) (us : List Value) (s' : Shared) : Prop := ∃ vs H', Inv X pins σ H' s' ∧ Vals vs us ∧ Q vs H'
def SP (X : Cx) (pins : List (Addr × Obj)) (D : Ends) (f : Flow) (s' : Shared) : Prop :=
  match f with
  | .next => ∃ σ' H', Inv X pins σ' H' s' ∧ D.nx σ' H'
  | .brk => ∃ σ' H', Inv X pins σ' H' s' ∧ D.bk σ' H'
  | .cont => ∃ σ' H', Inv X pins σ' H' s' ∧ D.ct σ' H'
  | .ret u => ∃ v σ' H', Inv X pins σ' H' s' ∧ RelV v u ∧ D.rt v H'
def PE (X : Cx) (e : Expr) (t : TE) : Prop :=
  ∀ (pins : List (Addr × Obj)) (s : Shared) (σ : St) (H : Hp) (Q : VK), Inv X pins σ H s → t σ H Q → wpAny (model X.prog X.w) X.A (eval e X.env) (EP X pins σ Q) X.xe s
def PT (X : Cx) (e : Expr) (t : TT) : Prop :=
  ∀ (pins : List (Addr × Obj)) (s : Shared) (σ : St) (H : Hp) (Q : Bool → Hp → Prop), Inv X pins σ H s → t σ H Q → wpAny (model X.prog X.w) X.A (isTrue e X.env (eval e X.env)) (TP X pins σ Q) X.xe s
def PW (X : Cx) (e : Expr) (t : TT) : Prop :=
  ∀ (whole : Sem Value) (pins : List (Addr × Obj)) (s : Shared) (σ : St) (H : Hp) (Q : Bool → Hp → Prop), Inv X pins σ H s → t σ H Q → wpAny (model X.prog X.w) X.A (isTrue e X.env whole) (TP X pins σ Q) X.xe s
theorem PW.pt {X : Cx} {e : Expr} {t : TT} (h : PW X e t) : PT X e t := h _
def PA (X : Cx) (es : List Expr) (t : TA) : Prop :=
  ∀ (pos : Pos) (pins : List (Addr × Obj)) (s : Shared) (σ : St) (H : Hp) (Q : List V → Hp → Prop), Inv X pins σ H s → t σ H Q → wpAny (model X.prog X.w) X.A (spliced (backTo pos (starEach es X.env))) (AP X pins σ Q) X.xe s
def PS (X : Cx) (st : Stmt) (t : TS) : Prop :=
  ∀ (pins : List (Addr × Obj)) (s : Shared) (σ : St) (H : Hp) (D : Ends), Inv X pins σ H s → t D σ H → wpAny (model X.prog X.w) X.A (exec st X.env) (SP X pins D) X.xe s
def PSs (X : Cx) (st : List Stmt) (t : TS) : Prop :=
  ∀ (pins : List (Addr × Obj)) (s : Shared) (σ : St) (H : Hp) (D : Ends), Inv X pins σ H s → t D σ H → wpAny (model X.prog X.w) X.A (execs st X.env) (SP X pins D) X.xe s
theorem thn {α : Type} {t : Sem α} {Q Q' : α → Shared → Prop} {M : Model} {A : Around} {E : Value → Shared → Prop} {s : Shared} (h : wpAny M A t Q E s) (hQ : ∀ a s, Q a s → Q' a s) : wpAny M A t Q' E s := wpAny_mono h hQ fun _ _ x => x
end L2
namespace L2
open PySem PySem.Spec PyProof.Rows
section
variable {X : Cx}
def tVar (i : Nat) : TE := fun σ H Q => ∃ v, σ[i]? = some (some v) ∧ Q v H
def tC (v : V) : TE := fun _ H Q => Q v H
theorem pe_var {i : Nat} {x : Str} {pos : Pos} (hN : X.N[i]? = some x) (hv : Vis X.env.scope x) (hd : (x == ("__debug__" : Str)) = false := by decide) (hcd : (x == ("__classdict__" : Str)) = false := by decide) : PE X (.Name x pos) (tVar i) := by
  intro pins s σ H Q I h
  obtain ⟨v, e, h⟩ := h
  obtain ⟨m, hn, hl⟩ := I.loc
  obtain ⟨u, r, l⟩ := hl i x v hN e hv
  have fin : EP X pins σ Q u s := ⟨v, H, I, r, h⟩
  rcases l with ⟨hk, hm⟩ | ⟨hk, c, hc, hcell⟩
  · exact wpAny_Name (wpAny_loadName_local I.ok.kind hk hn hm fin) hd
  · rcases hk with hk | hk
    · exact wpAny_Name (wpAny_loadName_cell I.ok.kind hk hc hcell fin) hd
    · exact wpAny_Name (wpAny_loadName_free I.ok.kind hk hc hcell fin hcd) hd
theorem pe_int {i j pos} : PE X (.Constant (.int i) j pos) (tC (.int i)) := fun _ _ _ H _ I h => wpAny_Constant_int ⟨.int i, H, I.tok _, ⟨_, rfl⟩, h⟩
theorem pe_bl {b j pos} : PE X (.Constant (.bool b) j pos) (tC (.bl b)) := fun _ _ _ H _ I h => Constant_bool ⟨.bl b, H, I, rfl, h⟩
theorem pe_non {j pos} : PE X (.Constant .none j pos) (tC .non) := fun _ _ _ H _ I h => Constant_none ⟨.non, H, I, rfl, h⟩
theorem pe_str {x j pos} : PE X (.Constant (.str x) j pos) (tC (.str x)) := fun _ _ _ H _ I h => Calls.Constant_str ⟨.str x, H, I.tok _, ⟨_, rfl⟩, h⟩
def Gl (X : Cx) (x : Str) : Prop := X.env.kindOf x = some .globalImplicit
theorem ld_glob {E : Value → Shared → Prop} {pins : List (Addr × Obj)} {s : Shared} {σ : St} {H : Hp} {x : Str} {u : Value} {pos : Pos} {Q : Value → Shared → Prop} (I : Inv X pins σ H s) (hg : Gl X x) (hm : X.mg x = some u) (h : Q u s)
    (hd : (x == ("__debug__" : Str)) = false := by decide) : wpAny (model X.prog X.w) X.A (eval (.Name x pos) X.env) Q E s :=
  Calls.Name_function_global I.ok.kind hg (Calls.loadGlobal_global (by rw [I.ok.glob]; exact I.mod.glob.keeps I.bk) hm h) hd
theorem ld_blt {E : Value → Shared → Prop} {pins : List (Addr × Obj)} {s : Shared} {σ : St} {H : Hp} {x : Str} {u : Value} {pos : Pos} {Q : Value → Shared → Prop} (I : Inv X pins σ H s) (hg : Gl X x) (hm : X.mg x = none) (hv : bootBuiltins x = some u) (h : Q u s)
    (hn : x ≠ "__name__" := by decide) (hd : (x == ("__debug__" : Str)) = false := by decide) : wpAny (model X.prog X.w) X.A (eval (.Name x pos) X.env) Q E s := by
  obtain ⟨mb, h1, h2⟩ := I.mod.blt
  exact Calls.Name_function_global I.ok.kind hg (Calls.loadGlobal_builtin (by rw [I.ok.glob]; exact I.mod.glob.keeps I.bk) hm (by rw [I.ok.blt]; exact h1.keeps I.bk) ((h2 x hn).trans hv) h) hd
theorem pe_bltn {x : Str} {v : V} {u : Value} {pos : Pos} (hg : Gl X x) (hm : X.mg x = none) (hv : bootBuiltins x = some u) (r : RelV v u) (hn : x ≠ "__name__" := by decide) (hd : (x == ("__debug__" : Str)) = false := by decide) : PE X (.Name x pos) (tC v) :=
  fun _ _ _ H _ I h => ld_blt I hg hm hv ⟨v, H, I, r, h⟩ hn hd
variable {a b : Expr} {ta tb : TE} {pos : Pos}
def tB (t : TE) : TT := fun σ H Q => t σ H fun x H1 => ∃ c, x = .bl c ∧ Q c H1
theorem pt_val {e : Expr} {t : TE} (h : PE X e t) (he : ∀ whole, isTrue e X.env whole = (do let v ← whole; standAt e.pos; holding [v] (truthy v)) := by intro _; rfl) : PT X e (tB t) := by
  intro pins s σ H Q I hw
  refine isTrue_plain (thn (h pins s σ H _ I hw) fun v s1 ⟨x, H1, I1, r1, q1⟩ => ?_) (he _)
  obtain ⟨d, rfl, q⟩ := q1
  cases r1
  exact wpAny_truthy_bool ⟨H1, I1, q⟩
variable {tA tB' : TT} {rest : List Expr}
def tAnd (t u : TT) : TT := fun σ H Q => t σ H fun c H1 => if c = true then u σ H1 Q else Q false H1
def tOr (t u : TT) : TT := fun σ H Q => t σ H fun c H1 => if c = true then Q true H1 else u σ H1 Q
def tNot (t : TT) : TT := fun σ H Q => t σ H fun c H1 => Q (!c) H1
theorem pw_and1 (ha : PT X a tA) : PW X (.BoolOp .And [a] pos) tA := by
  intro wh pins s σ H Q I h
  refine isTrue_and (thn (ha pins s σ H Q I h) fun c s1 e => ?_)
  cases c with
  | true => exact isTrue_and_nil e
  | false => exact e
theorem pw_or1 (ha : PT X a tA) : PW X (.BoolOp .Or [a] pos) tA := by
  intro wh pins s σ H Q I h
  refine isTrue_or (thn (ha pins s σ H Q I h) fun c s1 e => ?_)
  cases c with
  | false => exact isTrue_or_nil e
  | true => exact e
theorem pw_and (ha : PT X a tA) (hb : PW X (.BoolOp .And (b :: rest) pos) tB') : PW X (.BoolOp .And (a :: b :: rest) pos) (tAnd tA tB') := by
  intro wh pins s σ H Q I h
  refine isTrue_and (thn (ha pins s σ H _ I h) fun c s1 ⟨H1, I1, q1⟩ => ?_)
  cases c with
  | true => exact hb wh pins s1 σ H1 Q I1 q1
  | false => exact ⟨H1, I1, q1⟩
theorem pw_or (ha : PT X a tA) (hb : PW X (.BoolOp .Or (b :: rest) pos) tB') : PW X (.BoolOp .Or (a :: b :: rest) pos) (tOr tA tB') := by
  intro wh pins s σ H Q I h
  refine isTrue_or (thn (ha pins s σ H _ I h) fun c s1 ⟨H1, I1, q1⟩ => ?_)
  cases c with
  | true => exact ⟨H1, I1, q1⟩
  | false => exact hb wh pins s1 σ H1 Q I1 q1
theorem pt_not (ha : PT X a tA) : PT X (.UnaryOp .Not a pos) (tNot tA) := by
  intro pins s σ H Q I h
  exact isTrue_not (ha pins s σ H (fun c H1 => Q (!c) H1) I h)
def tAndV (ta tb : TE) : TE := fun σ H Q => ta σ H fun x H1 => ∃ c, x = .bl c ∧ if c = true then tb σ H1 Q else Q (.bl false) H1
def tOrV (ta tb : TE) : TE := fun σ H Q => ta σ H fun x H1 => ∃ c, x = .bl c ∧ if c = true then Q (.bl true) H1 else tb σ H1 Q
def tNotV (ta : TE) : TE := fun σ H Q => ta σ H fun x H1 => ∃ c, x = .bl c ∧ Q (.bl (!c)) H1
theorem pe_one {op} {t : TE} (h : PE X a t) : PE X (.BoolOp op [a] pos) t := fun pins s σ H Q I hw => BoolOp_one (h pins s σ H Q I hw)
theorem pe_and (ha : PE X a ta) (hb : PE X (.BoolOp .And (b :: rest) pos) tb) : PE X (.BoolOp .And (a :: b :: rest) pos) (tAndV ta tb) := by
  intro pins s σ H Q I h
  refine BoolOp_and (thn (ha pins s σ H _ I h) fun v s1 ⟨x, H1, I1, r1, q1⟩ => ?_)
  obtain ⟨c, rfl, q1⟩ := q1
  cases r1
  refine wpAny_truthy_bool ?_
  cases c with
  | true => exact hb pins s1 σ H1 Q I1 q1
  | false => exact ⟨.bl false, H1, I1, rfl, q1⟩
theorem pe_or (ha : PE X a ta) (hb : PE X (.BoolOp .Or (b :: rest) pos) tb) : PE X (.BoolOp .Or (a :: b :: rest) pos) (tOrV ta tb) := by
  intro pins s σ H Q I h
  refine BoolOp_or (thn (ha pins s σ H _ I h) fun v s1 ⟨x, H1, I1, r1, q1⟩ => ?_)
  obtain ⟨c, rfl, q1⟩ := q1
  cases r1
  refine wpAny_truthy_bool ?_
  cases c with
  | false => exact hb pins s1 σ H1 Q I1 q1
  | true => exact ⟨.bl true, H1, I1, rfl, q1⟩
theorem pe_not (ha : PE X a ta) : PE X (.UnaryOp .Not a pos) (tNotV ta) := by
  intro pins s σ H Q I h
  refine UnaryOp_ (thn (ha pins s σ H _ I h) fun v s1 ⟨x, H1, I1, r1, q1⟩ => ?_)
  obtain ⟨c, rfl, q1⟩ := q1
  cases r1
  exact not_of (wpAny_truthy_bool ⟨.bl (!c), H1, I1, rfl, q1⟩)
def tIf (t : TT) (ta tb : TE) : TE := fun σ H Q => t σ H fun c H1 => if c = true then ta σ H1 Q else tb σ H1 Q
end
end L2
namespace L2
open PySem PySem.Spec PyProof.Rows
def SqL (K : PySem.W.Frag) (H : Hp) (a : Addr) (xs : List V) : Prop :=
  Rd H a (.lst xs) ∨
    ∃ (o : Obj) (its : Array Value) (n : Nat), K.lookup a = some o ∧ o.cls = .type "list" ∧ o.dict = none ∧ o.data = .seq its n ∧ its.size ≤ sizeLine ∧ Vals xs its.toList
def SqT (K : PySem.W.Frag) (H : Hp) (a : Addr) (xs : List V) : Prop :=
  Rd H a (.tup xs) ∨
    ∃ (o : Obj) (its : Array Value) (n : Nat), K.lookup a = some o ∧ o.cls = .type "tuple" ∧ o.data = .seq its n ∧ its.size ≤ sizeLine ∧ Vals xs its.toList
def absV : Value → Option V
  | .none => some .non
  | .bool b => some (.bl b)
  | .int i _ => some (.int i)
  | .str x _ => some (.str x)
  | .bytes b _ => some (.byt b)
  | .float b _ => some (.flt b)
  | .ref a => some (.ref a)
  | .type n => some (.ty n)
  | _ => none
theorem RelV.abs {x : V} {u : Value} (r : RelV x u) : absV u = some x := by
  cases x with
  | non => cases r; rfl
  | bl _ => cases r; rfl
  | int _ => obtain ⟨t, rfl⟩ := r; rfl
  | str _ => obtain ⟨t, rfl⟩ := r; rfl
  | byt _ => obtain ⟨t, rfl⟩ := r; rfl
  | flt _ => obtain ⟨t, rfl⟩ := r; rfl
  | ref _ => cases r; rfl
  | ty _ => cases r; rfl
theorem RelV.inj {x y : V} {u : Value} (r : RelV x u) (q : RelV y u) : x = y := Option.some.inj (r.abs.symm.trans q.abs)
theorem Vals.inj : ∀ {xs ys : List V} {us : List Value}, Vals xs us → Vals ys us → xs = ys
  | _, _, _, .nil, .nil => rfl
  | _, _, _, .cons r t, .cons r' t' => by rw [r.inj r', Vals.inj t t']
section
variable {X : Cx} {pins : List (Addr × Obj)} {σ : St} {H : Hp} {s : Shared} {a : Addr} {xs ys : List V}
theorem SqL.of {K : PySem.W.Frag} (h : H a = some (.lst xs)) : SqL K H a xs := .inl (.inl h)
theorem SqT.of {K : PySem.W.Frag} (h : H a = some (.tup xs)) : SqT K H a xs := .inl (.inl h)
theorem Inv.list (I : Inv X pins σ H s) (h : SqL X.K H a xs) : ∃ its : List Value, Vals xs its ∧ PlainL s.heap a its.toArray ∧ xs.length ≤ sizeLine := by
  rcases h with h | ⟨o, its, n, hk, hc, hd, hs, hz, r⟩
  · obtain ⟨z, its, n, r, e⟩ := h.ok I.hok
    exact ⟨its, r, ⟨_, n, e, rfl, rfl, rfl⟩, z⟩
  · refine ⟨its.toList, r, ⟨o, n, I.kIn a o hk, hc, hd, by simpa using hs⟩, ?_⟩
    have e := r.length
    simp only [Array.length_toList] at e
    omega
theorem Inv.tuple (I : Inv X pins σ H s) (h : SqT X.K H a xs) : ∃ its : List Value, Vals xs its ∧ IsTup s.heap a its.toArray ∧ xs.length ≤ sizeLine := by
  rcases h with h | ⟨o, its, n, hk, hc, hs, hz, r⟩
  · obtain ⟨z, its, r, p⟩ := h.ok I.hok
    exact ⟨its, r, p, z⟩
  · refine ⟨its.toList, r, ⟨o, I.kIn a o hk, hc, n, by simpa using hs⟩, ?_⟩
    have e := r.length
    simp only [Array.length_toList] at e
    omega
theorem Inv.list_inj (I : Inv X pins σ H s) (h : SqL X.K H a xs) (h' : SqL X.K H a ys) : xs = ys := by
  obtain ⟨its, r, ⟨o, n, e, _, _, d⟩, _⟩ := I.list h
  obtain ⟨its', r', ⟨o', n', e', _, _, d'⟩, _⟩ := I.list h'
  rw [e] at e'; cases e'
  rw [d] at d'
  injection d' with d1 _
  have : its = its' := by simpa using congrArg Array.toList d1
  subst this
  exact r.inj r'
theorem Inv.tuple_inj (I : Inv X pins σ H s) (h : SqT X.K H a xs) (h' : SqT X.K H a ys) : xs = ys := by
  obtain ⟨its, r, ⟨o, e, _, n, d⟩, _⟩ := I.tuple h
  obtain ⟨its', r', ⟨o', e', _, n', d'⟩, _⟩ := I.tuple h'
  rw [e] at e'; cases e'
  rw [d] at d'
  injection d' with d1 _
  have : its = its' := by simpa using congrArg Array.toList d1
  subst this
  exact r.inj r'
end
abbrev Cx.wish (X : Cx) (E : Value → Shared → Prop) : Cx := { X with xe := E }
abbrev Cx.nox (X : Cx) : Cx := X.wish fun _ _ => False
theorem Cx.Ok.wish {X : Cx} (ok : X.Ok) (E : Value → Shared → Prop) : (X.wish E).Ok :=
  ⟨ok.mod, ok.kind, ok.glob, ok.blt, ok.above, ok.inj, ok.has, ok.cab, ok.hd, ok.frames, ok.stk, ok.exf, ok.bs, ok.bsz, ok.noex, ok.exfs, ok.funs, ok.frf⟩
theorem Cx.Ok.unwish {X : Cx} {E : Value → Shared → Prop} (ok : (X.wish E).Ok) : X.Ok :=
  ⟨ok.mod, ok.kind, ok.glob, ok.blt, ok.above, ok.inj, ok.has, ok.cab, ok.hd, ok.frames, ok.stk, ok.exf, ok.bs, ok.bsz, ok.noex, ok.exfs, ok.funs, ok.frf⟩
section
variable {X : Cx} {pins : List (Addr × Obj)} {σ : St} {H : Hp} {s : Shared} {E : Value → Shared → Prop}
theorem Inv.wish (I : Inv X pins σ H s) (E : Value → Shared → Prop) : Inv (X.wish E) pins σ H s := ⟨I.ok.wish E, I.os, I.bare, I.base, I.loc, I.cell, I.free, I.freeC, I.pin, I.hok, I.len⟩
theorem Inv.unwish (I : Inv (X.wish E) pins σ H s) : Inv X pins σ H s := ⟨I.ok.unwish, I.os, I.bare, I.base, I.loc, I.cell, I.free, I.freeC, I.pin, I.hok, I.len⟩
theorem SP.unwish {D : Ends} {f : Flow} {s' : Shared} (h : SP (X.wish E) pins D f s') : SP X pins D f s' := by
  cases f with
  | next => obtain ⟨σ', H', I, q⟩ := h; exact ⟨σ', H', I.unwish, q⟩
  | brk => obtain ⟨σ', H', I, q⟩ := h; exact ⟨σ', H', I.unwish, q⟩
  | cont => obtain ⟨σ', H', I, q⟩ := h; exact ⟨σ', H', I.unwish, q⟩
  | ret u => obtain ⟨v, σ', H', I, r, q⟩ := h; exact ⟨v, σ', H', I.unwish, r, q⟩
theorem PE.nox {e : Expr} {t : TE} (h : PE X.nox e t) : PE X e t := fun pins s σ H Q I hw =>
  wpAny_mono (h pins s σ H Q (I.wish _) hw) (fun _ _ ⟨v, H', I', r, q⟩ => ⟨v, H', I'.unwish, r, q⟩) fun _ _ z => False.elim z
theorem PT.nox {e : Expr} {t : TT} (h : PT X.nox e t) : PT X e t := fun pins s σ H Q I hw =>
  wpAny_mono (h pins s σ H Q (I.wish _) hw) (fun _ _ ⟨H', I', q⟩ => ⟨H', I'.unwish, q⟩) fun _ _ z => False.elim z
theorem PSs.nox {st : List Stmt} {t : TS} (h : PSs X.nox st t) : PSs X st t := fun pins s σ H D I hw =>
  wpAny_mono (h pins s σ H D (I.wish _) hw) (fun _ _ q => q.unwish) fun _ _ z => False.elim z
end
section
variable {X : Cx} {st : Stmt} {rest : List Stmt} {t u : TS} {e : Expr} {te : TE} {pos : Pos}
def tNext : TS := fun D σ H => D.nx σ H
def tSeq (t u : TS) : TS := fun D σ H => t { D with nx := u D } σ H
theorem pss_nil : PSs X [] tNext := fun _ _ σ H _ I h => wpAny_execs_nil ⟨σ, H, I, h⟩
theorem pss_cons (h1 : PS X st t) (h2 : PSs X rest u) : PSs X (st :: rest) (tSeq t u) := by
  intro pins s σ H D I h
  refine wpAny_execs_cons (thn (h1 pins s σ H { D with nx := u D } I h) fun f s1 q => ?_)
  cases f with
  | next =>
    obtain ⟨σ', H', I', q⟩ := q
    exact h2 pins s1 σ' H' D I' q
  | ret v => exact q
  | brk => exact q
  | cont => exact q
theorem pss_one (h1 : PS X st t) : PSs X [st] t := by
  intro pins s σ H D I h
  refine wpAny_execs_cons (thn (h1 pins s σ H D I h) fun f s1 q => ?_)
  cases f with
  | next => exact wpAny_execs_nil q
  | ret v => exact q
  | brk => exact q
  | cont => exact q
theorem Inv.quiet {pins : List (Addr × Obj)} {σ : St} {H : Hp} {s : Shared} (I : Inv X pins σ H s) : interactive X.env = false := by simp [interactive, I.ok.kind]
def tDrop (te : TE) : TS := fun D σ H => te σ H fun _ H1 => D.nx σ H1
theorem ps_expr (he : PE X e te) (hs : swapsWith e none pos.line X.env = pure false := by rfl) : PS X (.Expr e pos) (tDrop te) := by
  intro pins s σ H D I h
  exact wpAny_Expr_any (thn (he pins s σ H _ I h) fun v s1 ⟨x, H1, I1, r1, q1⟩ => ⟨σ, H1, I1, q1⟩) I.quiet hs
def tRet (te : TE) : TS := fun D σ H => te σ H D.rt
theorem ps_ret (he : PE X e te) : PS X (.Return (some e) pos) (tRet te) := by
  intro pins s σ H D I h
  exact wpAny_Return_some (thn (he pins s σ H _ I h) fun v s1 ⟨x, H1, I1, r1, q1⟩ => ⟨x, σ, H1, I1, r1, q1⟩)
def tIfS (c : TT) (t u : TS) : TS := fun D σ H => c σ H fun b H1 => if b = true then t D σ H1 else u D σ H1
theorem ps_if {c : Expr} {a b : List Stmt} {tc : TT} (hc : PT X c tc) (ha : PSs X a t) (hb : PSs X b u) : PS X (.If c a b pos) (tIfS tc t u) := by
  intro pins s σ H D I h
  refine wpAny_If (thn (hc pins s σ H _ I h) fun d s1 ⟨H1, I1, q1⟩ => ?_)
  cases d with
  | true => exact ha pins s1 σ H1 D I1 q1
  | false => exact hb pins s1 σ H1 D I1 q1
end
abbrev TG := V → St → Hp → (St → Hp → Prop) → Prop
abbrev TGs := List V → St → Hp → (St → Hp → Prop) → Prop
def PG (X : Cx) (target : Expr) (t : TG) : Prop :=
  ∀ (pins : List (Addr × Obj)) (s : Shared) (σ : St) (H : Hp) (v : V) (u : Value) (Q : St → Hp → Prop), Inv X pins σ H s → RelV v u → t v σ H Q →
    wpAny (model X.prog X.w) X.A (assign target X.env u) (fun _ s' => ∃ σ' H', Inv X pins σ' H' s' ∧ Q σ' H') X.xe s
def PGs (X : Cx) (ts : List Expr) (t : TGs) : Prop :=
  ∀ (pins : List (Addr × Obj)) (s : Shared) (σ : St) (H : Hp) (vs : List V) (us : List Value) (Q : St → Hp → Prop), Inv X pins σ H s → Vals vs us → t vs σ H Q →
    wpAny (model X.prog X.w) X.A (assignInOrder ((assignEach ts X.env).map (·.2)) us) (fun _ s' => ∃ σ' H', Inv X pins σ' H' s' ∧ Q σ' H') X.xe s
abbrev TSet := V → V → V → Hp → (Hp → Prop) → Prop
def PSet (X : Cx) (t : TSet) : Prop :=
  ∀ (pins : List (Addr × Obj)) (s : Shared) (σ : St) (H : Hp) (o i v : V) (ov iv u : Value) (Q : Hp → Prop), Inv X pins σ H s → RelV o ov → RelV i iv → RelV v u → t o i v H Q →
    wpAny (model X.prog X.w) X.A (setItem ov iv u) (fun _ s' => ∃ H', Inv X pins σ H' s' ∧ Q H') X.xe s
section
variable {X : Cx} {pos : Pos}
def gName (i : Nat) : TG := fun v σ H Q => Q (σ.set i (some v)) H
theorem pg_name {i : Nat} {x : Str} (hN : X.N.Nodup) (hi : X.N[i]? = some x) (hx : Loc X.env.scope x) (hf : X.fn x = true ∨ X.env.scope.names.lookup x = some .local := by first | exact .inl rfl | exact .inr rfl | assumption) : PG X (.Name x pos) (gName i) := by
  intro pins s σ H v u Q I r h
  exact wpAny_assign_Name (store_ok I hN hi hx r (fun s' I' => ⟨_, H, I', h⟩) hf)
def gNil : TGs := fun vs σ H Q => vs = [] ∧ Q σ H
def gCons (t : TG) (u : TGs) : TGs := fun vs σ H Q => ∃ v r, vs = v :: r ∧ t v σ H fun σ' H' => u r σ' H' Q
theorem pgs_nil : PGs X [] gNil := by
  intro pins s σ H vs us Q I r h
  obtain ⟨e, h⟩ := h
  subst e
  cases r
  exact assignInOrder_nil ⟨σ, H, I, h⟩
theorem pgs_cons {e : Expr} {es : List Expr} {t : TG} {u : TGs} (h1 : PG X e t) (h2 : PGs X es u)
    (hs : (assignEach (e :: es) X.env).map (·.2) = assign e X.env :: (assignEach es X.env).map (·.2) := by rfl) : PGs X (e :: es) (gCons t u) := by
  intro pins s σ H vs us Q I r h
  obtain ⟨v, vr, e1, h⟩ := h
  subst e1
  cases r with
  | cons r rr =>
    rw [hs]
    refine assignInOrder_cons (thn (h1 pins s σ H _ _ _ I r h) fun _ s1 ⟨σ1, H1, I1, q1⟩ => ?_)
    exact h2 pins s1 σ1 H1 _ _ Q I1 rr q1
def gTup (K : PySem.W.Frag) (n : Nat) (t : TGs) : TG := fun v σ H Q => ∃ a xs, v = .ref a ∧ SqT K H a xs ∧ xs.length = n ∧ t xs σ H Q
theorem pg_tup {es : List Expr} {k : Nat} {t : TGs} {n : Nat} (hc : X.calm = true) (h : PGs X es t)
    (hn : (assignEach es X.env).length = n := by rfl) (hst : (assignEach es X.env).findIdx? (·.1) = none := by rfl) : PG X (.Tuple es k pos) (gTup X.K n t) := by
  intro pins s σ H v u Q I r hw
  obtain ⟨a, xs, e1, hq, hl, hw⟩ := hw
  subst e1
  cases r
  obtain ⟨its, rv, ht, hz⟩ := I.tuple hq
  refine assign_Tuple_tuple (I.ok.hd hc) ht (by simp [hn, ← hl, rv.length]) hst fun h' hx => ?_
  have I1 : Inv X pins σ H { s with heap := h' } := I.kept (t' := s.toks) fun b o e => hx b o (Nat.ne_of_lt (Heap.lt_size e)) e
  exact h pins _ σ H xs _ Q I1 (by simpa using rv) hw
def gSub (to ti : TE) (t : TSet) : TG := fun v σ H Q => to σ H fun o H1 => ti σ H1 fun i H2 => t o i v H2 fun H3 => Q σ H3
theorem pg_sub {o i : Expr} {to ti : TE} {t : TSet} (ho : PE X o to) (hi : PE X i ti) (hs : PSet X t)
    (ha : ∀ v, assign (.Subscript o i pos) X.env v = (do
      let ov ← holding [v] (eval o X.env)
      let iv ← holding [v, ov] (eval i X.env)
      standAt pos
      holding [v, ov, iv] (setItem ov iv v)
      release [v, ov, iv] []) := by intro _; rfl) : PG X (.Subscript o i pos) (gSub to ti t) := by
  intro pins s σ H v u Q I r h
  rw [ha]
  refine wpAny_bind (wpAny_holding (thn (ho pins s σ H _ I h) fun ov s1 ⟨x, H1, I1, r1, q1⟩ => ?_))
  refine wpAny_bind (wpAny_holding (thn (hi pins s1 σ H1 _ I1 q1) fun iv s2 ⟨y, H2, I2, r2, q2⟩ => ?_))
  refine wpAny_bind (wpAny_standAt (wpAny_bind (wpAny_holding (thn (hs pins s2 σ H2 x y v ov iv u _ I2 r1 r2 r q2) fun _ s3 ⟨H3, I3, q3⟩ => ?_))))
  exact wpAny_release ⟨σ, H3, I3, q3⟩
def tAsg (te : TE) (g : TG) : TS := fun D σ H => te σ H fun x H1 => g x σ H1 D.nx
theorem ps_asg {tg e : Expr} {te : TE} {g : TG} (he : PE X e te) (hg : PG X tg g) (hs : swapsWithSole [tg] e pos.line X.env = pure false := by rfl) (hw : swappedStores [tg] e X.env = pure none := by rfl)
    (h1 : (assignEach [tg] X.env).map (·.2) = [assign tg X.env] := by rfl) : PS X (.Assign [tg] e pos) (tAsg te g) := by
  intro pins s σ H D I h
  refine wpAny_Assign_stores (thn (he pins s σ H _ I h) fun v s1 ⟨x, H1, I1, r1, q1⟩ => ?_) hs hw
  rw [h1]
  exact thn (hg pins s1 σ H1 x v _ I1 r1 q1) fun _ s2 q => q
theorem ps_set {i : Nat} {x : Str} {e : Expr} {te : TE} {pos' : Pos} (hN : X.N.Nodup) (hi : X.N[i]? = some x) (hx : Loc X.env.scope x) (he : PE X e te) (hs : swapsWith e (some (.Name x pos')) pos.line X.env = pure false := by rfl) (hf : X.fn x = true ∨ X.env.scope.names.lookup x = some .local := by first | exact .inl rfl | exact .inr rfl | assumption) :
    PS X (.Assign [.Name x pos'] e pos) (tAsg te (gName i)) := by
  intro pins s σ H D I h
  refine wpAny_Assign_Name (thn (he pins s σ H _ I h) fun v s1 ⟨y, H1, I1, r1, q1⟩ => ?_) hs
  exact store_ok I1 hN hi hx r1 (fun s2 I2 => ⟨_, H1, I2, q1⟩) hf
def tPar (i j : Nat) (ta : TA) : TS := fun D σ H => ta σ H fun vs H1 => ∃ v w, vs = [v, w] ∧ D.nx ((σ.set i (some v)).set j (some w)) H1
theorem ps_par {i j : Nat} {x y : Str} {a b : Expr} {ta : TA} {px py pt : Pos} {kt k2 pt2} (hc : X.calm = true) (hN : X.N.Nodup) (hi : X.N[i]? = some x) (hj : X.N[j]? = some y) (hij : i ≠ j)
    (hx : X.env.scope.names.lookup x = some .local) (hy : X.env.scope.names.lookup y = some .local) (ha : PA X [a, b] ta)
    (hw : swappedStores [.Tuple [.Name x px, .Name y py] kt pt] (.Tuple [a, b] k2 pt2) X.env = pure (some [x, y]))
    (hs : swapsWithSole [.Tuple [.Name x px, .Name y py] kt pt] (.Tuple [a, b] k2 pt2) pos.line X.env = pure false := by rfl) :
    PS X (.Assign [.Tuple [.Name x px, .Name y py] kt pt] (.Tuple [a, b] k2 pt2) pos) (tPar i j ta) := by
  intro pins s σ H D I h
  rw [exec_Assign_arm]
  refine wpAny_bind (wpAny_standAt ?_)
  rw [hs]
  refine wpAny_bind (wpAny_pure ?_)
  rw [if_neg (by decide)]
  refine wpAny_bind (Tuple_ (thn (ha _ pins s σ H _ I h) fun us s1 ⟨vs, H1, I1, r1, q1⟩ => ?_))
  obtain ⟨v, w, e1, q1⟩ := q1
  subst e1
  obtain ⟨u1, u2, rfl, rv, rw'⟩ : ∃ u1 u2, us = [u1, u2] ∧ RelV v u1 ∧ RelV w u2 := by
    cases r1 with
    | cons p q =>
      cases q with
      | cons p' q' =>
        cases q'
        exact ⟨_, _, rfl, p, p'⟩
  refine wpAny_newObj_type ?_ (by show 2 ≤ sizeLine; decide)
  have I2 : Inv X pins σ H1 { s1 with heap := s1.heap.push { cls := .type "tuple", data := .seq [u1, u2].toArray } } := I1.kept (t' := s1.toks) fun b o e => Heap.get?_push_of_some _ e
  rw [hw]
  refine wpAny_bind (wpAny_pure ?_)
  show wpAny (model X.prog X.w) X.A (do rule "assign.swapped-stores"; let items ← unpackItems (.ref s1.heap.objs.size) 2 none; assignInOrder [fun v => bindName X.env y v, fun v => bindName X.env x v] items.reverse; pure Flow.next) _ _ _
  refine wpAny_bind (wpAny_rule (wpAny_bind (unpackItems_tuple (items := #[u1, u2]) (I.ok.hd hc) (IsTup.new s1.heap _) fun h' hx' => ?_)))
  have I3 := I2.kept (h' := h') (t' := s1.toks) fun b o e => hx' b o (Nat.ne_of_lt (Heap.lt_size e)) e
  show wpAny _ _ (assignInOrder [fun v => bindName X.env y v, fun v => bindName X.env x v] [u2, u1] >>= fun _ => pure Flow.next) _ _ _
  refine wpAny_bind (assignInOrder_cons (wpAny_bindName (store_ok I3 hN hj (.inl hy) rw' (fun s2 I4 => ?_) (.inr hy))))
  refine assignInOrder_cons (wpAny_bindName (store_ok I4 hN hi (.inl hx) rv (fun s3 I5 => assignInOrder_nil (wpAny_pure ?_)) (.inr hx)))
  rw [List.set_comm _ _ (Ne.symm hij)] at I5
  exact ⟨_, H1, I5, q1⟩
end
section
variable {X : Cx} {pos : Pos}
def tWhile (c : TT) (tb : TS) : TS := fun D σ H => ∃ W : Nat → St → Hp → Prop, (∃ m, W m σ H) ∧ ∀ m σ H, W m σ H →
  c σ H fun b H1 => if b = true then ∃ N : St → Hp → Prop, (∀ σ' H', N σ' H' → ∃ m', m' < m ∧ W m' σ' H') ∧ tb { D with nx := N, ct := N, bk := D.nx } σ H1 else D.nx σ H1
theorem ps_while {c : Expr} {body : List Stmt} {tc : TT} {tb : TS} (hp : PassesOwn (model X.prog X.w) X.A X.env X.xe) (hc : PT X c tc) (hb : PSs X body tb) : PS X (.While c body [] pos) (tWhile tc tb) := by
  intro pins s σ H D I h
  obtain ⟨W, ⟨m0, w0⟩, turn⟩ := h
  refine wpAny_While (codeAny_whileLoop (fun n s' => ∃ σ' H', Inv X pins σ' H' s' ∧ W n σ' H') ?_ m0 ⟨σ, H, I, w0⟩)
  rintro n s1 ⟨σ1, H1, I1, w1⟩
  refine wpAny_passesOwn hp (thn (hc pins s1 σ1 H1 _ I1 (turn n σ1 H1 w1)) fun b s2 ⟨H2, I2, q2⟩ => ?_)
  cases b with
  | true =>
    obtain ⟨N, hN, q2⟩ := q2
    rw [if_pos rfl]
    refine wpAny_passesOwn hp (thn (hb pins s2 σ1 H2 _ I2 q2) fun f s3 q3 => ?_)
    cases f with
    | next =>
      obtain ⟨σ3, H3, I3, n3⟩ := q3
      obtain ⟨m', hm, w3⟩ := hN σ3 H3 n3
      exact ⟨m', hm, σ3, H3, I3, w3⟩
    | cont =>
      obtain ⟨σ3, H3, I3, n3⟩ := q3
      obtain ⟨m', hm, w3⟩ := hN σ3 H3 n3
      exact ⟨m', hm, σ3, H3, I3, w3⟩
    | brk => exact q3
    | ret v => exact q3
  | false =>
    rw [if_neg Bool.false_ne_true]
    exact wpAny_execs_nil ⟨σ1, H2, I2, q2⟩
end
structure It where
  go : Nat → Hp → Prop
  yld : Nat → Hp → V → Hp → Prop
  stop : Nat → Hp → Prop
def FpOk (X : Cx) (pins : List (Addr × Obj)) (H : Hp) (b : Addr) : Prop :=
  H b = none ∧ b ≠ X.env.locals ∧ b ∉ X.fs ∧ (b ∈ X.ex ∨ X.s₀.heap.objs.size ≤ b) ∧ (∀ x c, X.env.cells.lookup x = some c → c ≠ b) ∧ ∀ p ∈ X.pn ++ pins, p.1 ≠ b
theorem Inv.fpOk {X : Cx} {pins : List (Addr × Obj)} {σ : St} {H H' : Hp} {s : Shared} {b : Addr} (I : Inv X pins σ H s) (hb : s.heap.objs.size ≤ b) (hn : H' b = none) : FpOk X pins H' b := by
  refine ⟨hn, Nat.ne_of_gt (Nat.lt_of_lt_of_le I.lt hb), I.nofs hb, .inr (Nat.le_trans I.sz hb), fun x c e z => ?_, fun p hp z => ?_⟩
  · obtain ⟨v, q⟩ := I.cell x c e
    exact absurd (Nat.lt_of_lt_of_le q.lt (by rw [z]; exact hb)) (Nat.lt_irrefl _)
  · exact absurd (Nat.lt_of_lt_of_le (Heap.lt_size (I.pin p hp).1) (by rw [z]; exact hb)) (Nat.lt_irrefl _)
structure Turn (P : Program) (w : World) (K : PySem.W.Frag) (tg : Expr) (J : It) (fp : List Addr) (it : Addr) (tn : Nat → Heap → Prop) : Prop where
  mem : it ∈ fp
  obj : ∀ i h, tn i h → ∀ b ∈ fp, ∃ o, h.get? b = some o ∧ ∀ v, o.data ≠ .cell v
  keep : ∀ i h h', tn i h → (∀ b ∈ fp, ∀ o, h.get? b = some o → h'.get? b = some o) → tn i h'
  item : ∀ (X : Cx), X.prog = P → X.w = w → X.K = K → X.calm = true → ∀ (i : Nat) (pins : List (Addr × Obj)) (s : Shared) (σ : St) (H : Hp) (E : Value → Shared → Prop), Inv X pins σ H s → (∀ b ∈ fp, FpOk X pins H b) → tn i s.heap → J.go i H →
    wpAny (model P w) X.A (pyNext (.ref it)) (fun r s1 => ∃ u, r = some u ∧
      wpAny (model P w) X.A (letOwnedTupleGo tg (.ref it) u) (fun _ s2 => ∃ x H', Inv X pins σ H' s2 ∧ RelV x u ∧ J.yld i H x H' ∧ tn (i + 1) s2.heap ∧ ∀ b ∈ fp, H' b = none) E s1) E s
  done : ∀ (X : Cx), X.prog = P → X.w = w → X.K = K → X.calm = true → ∀ (i : Nat) (pins : List (Addr × Obj)) (s : Shared) (σ : St) (H : Hp) (E : Value → Shared → Prop), Inv X pins σ H s → (∀ b ∈ fp, FpOk X pins H b) → tn i s.heap → J.stop i H →
    wpAny (model P w) X.A (pyNext (.ref it)) (fun r s1 => r = none ∧ Inv X pins σ H s1) E s
  self : ∀ (A : Around) (i : Nat) (s : Shared) (Q : Value → Shared → Prop) (E : Value → Shared → Prop), tn i s.heap → Q (.ref it) s → wpAny (model P w) A (pyIter (.ref it)) Q E s
abbrev TI := St → Hp → (It → Hp → Prop) → Prop
def PIE (X : Cx) (pins : List (Addr × Obj)) (σ : St) (tg : Expr) (R : It → Hp → Prop) (itv : Value) (s2 : Shared) : Prop :=
  ∃ (it : Addr) (fp : List Addr) (tn : Nat → Heap → Prop) (J : It) (H' : Hp), itv = .ref it ∧ Inv X pins σ H' s2 ∧ Turn X.prog X.w X.K tg J fp it tn ∧ tn 0 s2.heap ∧ (∀ b ∈ fp, FpOk X pins H' b) ∧ R J H'
def PI (X : Cx) (tg iter : Expr) (wi : TI) : Prop :=
  ∀ (pins : List (Addr × Obj)) (s : Shared) (σ : St) (H : Hp) (R : It → Hp → Prop), Inv X pins σ H s → wi σ H R →
    wpAny (model X.prog X.w) X.A (eval iter X.env) (fun v s1 => wpAny (model X.prog X.w) X.A (pyIter v) (PIE X pins σ tg R) X.xe s1) X.xe s
theorem go_of {M : Model} {A : Around} {E : Value → Shared → Prop} {s : Shared} {tg : Expr} {it : Addr} {u : Value} {o : Obj} {n : String} {vs : Array Value} {Q : Unit → Shared → Prop} (ho : s.heap.get? it = some o) (hc : o.cls = .type n) (hd : o.data = .fields vs)
    (hn : ["enumerate", "zip", "dict_itemiterator", "dict_reverseitemiterator", "odict_iterator", "itertools.zip_longest", "itertools.pairwise"].contains n = false) (hQ : Q () s) : wpAny M A (letOwnedTupleGo tg (.ref it) u) Q E s := by
  unfold letOwnedTupleGo
  cases tg <;> first
    | exact wpAny_pure hQ
    | (cases u <;> first
        | exact wpAny_pure hQ
        | (refine wpAny_bind (wpAny_load ho ?_)
           rw [hc, hd]
           show wpAny M A (if (["enumerate", "zip", "dict_itemiterator", "dict_reverseitemiterator", "odict_iterator", "itertools.zip_longest", "itertools.pairwise"].contains n && vs[0]? == some (rawInt _)) = true then _ else _) Q E s
           rw [if_neg (by intro h; rw [hn, Bool.false_and] at h; cases h)]
           exact wpAny_pure hQ))
def Itl (K : PySem.W.Frag) (a : Addr) : It :=
  ⟨fun i H => ∃ xs x, SqL K H a xs ∧ xs[i]? = some x, fun i H x H' => H' = H ∧ ∀ xs, SqL K H a xs → xs[i]? = some x, fun i H => ∃ xs, SqL K H a xs ∧ xs.length ≤ i⟩
def Itt (K : PySem.W.Frag) (a : Addr) : It :=
  ⟨fun i H => ∃ xs x, SqT K H a xs ∧ xs[i]? = some x, fun i H x H' => H' = H ∧ ∀ xs, SqT K H a xs → xs[i]? = some x, fun i H => ∃ xs, SqT K H a xs ∧ xs.length ≤ i⟩
def Itr (lo : Int) (n : Nat) : It := ⟨fun i _ => i < n, fun i H x H' => H' = H ∧ x = .int (lo + i), fun i _ => n ≤ i⟩
theorem turn_list {P : Program} {w : World} {K : PySem.W.Frag} {tg : Expr} (a it : Addr) : Turn P w K tg (Itl K a) [it] it (fun i h => h.IsListIter it a i) where
  mem := by simp
  obj := fun i h st b hb => by
    have e : b = it := by simpa using hb
    subst e
    obtain ⟨o, e, c, d⟩ := st
    exact ⟨o, e, fun v z => by rw [d] at z; cases z⟩
  keep := fun i h h' st k => st.at fun o e => k it (by simp) o e
  item := by
    intro X hP hw hK hc i pins s σ H E I hf st hg
    subst hP hw hK
    obtain ⟨xs, x, hq, hx⟩ := hg
    obtain ⟨its, rv, p, hz⟩ := I.list hq
    obtain ⟨u, hu, ru⟩ := rv.get hx
    obtain ⟨f0, f1, f2, f3, f4, f5⟩ := hf it (by simp)
    refine wpAny_pyNext_list_item st p.isList (x := u) (by simpa using hu) fun h' st' sb => ?_
    have I1 : Inv X pins σ H { s with heap := h' } := I.turned (t' := s.toks) (fun b o hb e => (sb.2 b hb).trans e) f0 f1 f3 f4 f5
    obtain ⟨o, e, c, d⟩ := id st'
    exact ⟨u, rfl, go_of (s := { s with heap := h' }) e c d (by decide) ⟨x, H, I1, ru, ⟨rfl, fun ys hy => by rw [I.list_inj hy hq]; exact hx⟩, st', fun b hb => (hf b hb).1⟩⟩
  done := by
    intro X hP hw hK hc i pins s σ H E I hf st hg
    subst hP hw hK
    obtain ⟨xs, hq, hx⟩ := hg
    obtain ⟨its, rv, p, hz⟩ := I.list hq
    obtain ⟨f0, f1, f2, f3, f4, f5⟩ := hf it (by simp)
    have hl := rv.length
    exact wpAny_pyNext_list_end (I.ok.hd hc) st p.isList (by simp; omega) fun h' eb => ⟨rfl, I.turned (t' := s.toks) (fun b o hb e => eb b o hb e) f0 f1 f3 f4 f5⟩
  self := fun _ _ _ _ _ st h => wpAny_pyIter_listiter st h
theorem turn_tuple {P : Program} {w : World} {K : PySem.W.Frag} {tg : Expr} (a it : Addr) : Turn P w K tg (Itt K a) [it] it (fun i h => h.IsTupleIter it a i) where
  mem := by simp
  obj := fun i h st b hb => by
    have e : b = it := by simpa using hb
    subst e
    obtain ⟨o, e, c, d⟩ := st
    exact ⟨o, e, fun v z => by rw [d] at z; cases z⟩
  keep := fun i h h' st k => st.at fun o e => k it (by simp) o e
  item := by
    intro X hP hw hK hc i pins s σ H E I hf st hg
    subst hP hw hK
    obtain ⟨xs, x, hq, hx⟩ := hg
    obtain ⟨its, rv, p, hz⟩ := I.tuple hq
    obtain ⟨u, hu, ru⟩ := rv.get hx
    obtain ⟨f0, f1, f2, f3, f4, f5⟩ := hf it (by simp)
    refine wpAny_pyNext_tuple_item st (show s.heap.IsTuple a its.toArray from p) (x := u) (by simpa using hu) fun h' st' sb => ?_
    have I1 : Inv X pins σ H { s with heap := h' } := I.turned (t' := s.toks) (fun b o hb e => (sb.2 b hb).trans e) f0 f1 f3 f4 f5
    obtain ⟨o, e, c, d⟩ := id st'
    exact ⟨u, rfl, go_of (s := { s with heap := h' }) e c d (by decide) ⟨x, H, I1, ru, ⟨rfl, fun ys hy => by rw [I.tuple_inj hy hq]; exact hx⟩, st', fun b hb => (hf b hb).1⟩⟩
  done := by
    intro X hP hw hK hc i pins s σ H E I hf st hg
    subst hP hw hK
    obtain ⟨xs, hq, hx⟩ := hg
    obtain ⟨its, rv, p, hz⟩ := I.tuple hq
    obtain ⟨f0, f1, f2, f3, f4, f5⟩ := hf it (by simp)
    have hl := rv.length
    exact wpAny_pyNext_tuple_end (I.ok.hd hc) st (show s.heap.IsTuple a its.toArray from p) (by simp; omega) fun h' eb => ⟨rfl, I.turned (t' := s.toks) (fun b o hb e => eb b o hb e) f0 f1 f3 f4 f5⟩
  self := fun _ _ _ _ _ st h => wpAny_pyIter_tupleiter st h
theorem turn_range {P : Program} {w : World} {K : PySem.W.Frag} {tg : Expr} (it : Addr) (lo : Int) (n : Nat) : Turn P w K tg (Itr lo n) [it] it (fun i h => IsRangeIter h it (lo + (i : Nat) * 1) ((n : Int) - (i : Nat)) 1) where
  mem := by simp
  obj := fun i h st b hb => by
    have e : b = it := by simpa using hb
    subst e
    exact ⟨_, st, fun v z => by
      have z' : Data.fields _ = Data.cell v := z
      cases z'⟩
  keep := fun i h h' st k => k it (by simp) _ st
  item := by
    intro X hP hw hK hc i pins s σ H E I hf st hg
    subst hP hw hK
    obtain ⟨f0, f1, f2, f3, f4, f5⟩ := hf it (by simp)
    have W := Walks.range (prog := X.prog) (w := X.w) (I.ok.hd hc) it lo 1 n
    refine W.item i s _ _ hg st fun v h' tk hv st' kk => ?_
    obtain ⟨t, rfl⟩ := hv
    have I1 : Inv X pins σ H { s with heap := h', toks := tk } := I.turned (fun b o hb e => kk b o (by simpa using hb) e) f0 f1 f3 f4 f5
    refine ⟨_, rfl, go_of (s := { s with heap := h', toks := tk }) (n := "range_iterator") st' rfl rfl (by decide) ⟨.int (lo + i), H, I1, ⟨t, ?_⟩, ⟨rfl, rfl⟩, st', fun b hb => (hf b hb).1⟩⟩
    rw [Int.mul_one]
  done := by
    intro X hP hw hK hc i pins s σ H E I hf st hg
    subst hP hw hK
    obtain ⟨f0, f1, f2, f3, f4, f5⟩ := hf it (by simp)
    exact wpAny_pyNext_range_end (I.ok.hd hc) st (by have : n ≤ i := hg; omega) fun h' eb => ⟨rfl, I.turned (t' := s.toks) (fun b o hb e => eb b o hb e) f0 f1 f3 f4 f5⟩
  self := fun _ _ _ _ _ st h => wpAny_pyIter_rangeiter st h
end L2
namespace L2
open PySem PySem.Spec PyProof.Rows
section
variable {X : Cx} {tg : Expr}
def iList (K : PySem.W.Frag) (tl : TE) : TI := fun σ H R => tl σ H fun x H1 => ∃ a, x = .ref a ∧ (∃ xs, SqL K H1 a xs) ∧ R (Itl K a) H1
def iTup (K : PySem.W.Frag) (tl : TE) : TI := fun σ H R => tl σ H fun x H1 => ∃ a, x = .ref a ∧ (∃ xs, SqT K H1 a xs) ∧ R (Itt K a) H1
theorem pi_list {l : Expr} {tl : TE} (hl : PE X l tl) : PI X tg l (iList X.K tl) := by
  intro pins s σ H R I h
  refine thn (hl pins s σ H _ I h) fun v s1 ⟨x, H1, I1, r1, q1⟩ => ?_
  obtain ⟨a, e, ⟨xs, hq⟩, q⟩ := q1
  subst e
  cases r1
  obtain ⟨its, rv, p, hz⟩ := I1.list hq
  refine wpAny_pyIter_list p.isList ?_
  refine ⟨s1.heap.objs.size, [s1.heap.objs.size], _, _, H1, rfl, I1.kept (t' := s1.toks) fun b o e => Heap.get?_push_of_some _ e, turn_list a _, ⟨_, Heap.get?_push_size _ rfl, rfl, rfl⟩, fun b hb => ?_, q⟩
  have e : b = s1.heap.objs.size := by simpa using hb
  subst e
  exact I1.fpOk (Nat.le_refl _) (I1.hok.fresh (Nat.le_refl _))
theorem pi_tup {l : Expr} {tl : TE} (hl : PE X l tl) : PI X tg l (iTup X.K tl) := by
  intro pins s σ H R I h
  refine thn (hl pins s σ H _ I h) fun v s1 ⟨x, H1, I1, r1, q1⟩ => ?_
  obtain ⟨a, e, ⟨xs, hq⟩, q⟩ := q1
  subst e
  cases r1
  obtain ⟨its, rv, p, hz⟩ := I1.tuple hq
  refine wpAny_pyIter_tuple (show s1.heap.IsTuple a its.toArray from p) ?_
  refine ⟨s1.heap.objs.size, [s1.heap.objs.size], _, _, H1, rfl, I1.kept (t' := s1.toks) fun b o e => Heap.get?_push_of_some _ e, turn_tuple a _, ⟨_, Heap.get?_push_size _ rfl, rfl, rfl⟩, fun b hb => ?_, q⟩
  have e : b = s1.heap.objs.size := by simpa using hb
  subst e
  exact I1.fpOk (Nat.le_refl _) (I1.hok.fresh (Nat.le_refl _))
theorem range_it {pins : List (Addr × Obj)} {σ : St} {H : Hp} {s : Shared} {R : It → Hp → Prop} {E : Value → Shared → Prop} {lo hi : Int} {t u v : Tok} {tk : Nat} (I : Inv X pins σ H s) (h1 : -(2 ^ 62) ≤ lo) (h2 : lo < 2 ^ 62) (h3 : -(2 ^ 62) ≤ hi) (h4 : hi < 2 ^ 62)
    (q : R (Itr lo (hi - lo).toNat) H) : wpAny (model X.prog X.w) X.A (pyIter (.ref s.heap.objs.size)) (PIE X pins σ tg R) E { s with heap := s.heap.push { cls := .type "range", data := .fields #[.int lo t, .int hi u, .int 1 v] }, toks := tk } := by
  refine wpAny_pyIter_range (IsRange.new ..) (small_one h1 h2 h3 h4) ?_
  have I1 : Inv X pins σ H { s with heap := s.heap.push { cls := .type "range", data := .fields #[.int lo t, .int hi u, .int 1 v] }, toks := tk } := I.kept fun b o e => Heap.get?_push_of_some _ e
  refine ⟨(s.heap.push { cls := .type "range", data := .fields #[.int lo t, .int hi u, .int 1 v] }).objs.size, [(s.heap.push { cls := .type "range", data := .fields #[.int lo t, .int hi u, .int 1 v] }).objs.size], _, _, H, rfl,
    I1.kept (t' := tk) fun b o e => Heap.get?_push_of_some _ e, turn_range _ lo (hi - lo).toNat, ?_, fun b hb => ?_, q⟩
  · have e1 : lo + ((0 : Nat) : Int) * 1 = lo := by simp
    have e2 : (((hi - lo).toNat : Nat) : Int) - ((0 : Nat) : Int) = Builtin.Range.rangeSize lo hi 1 := by rw [rangeSize_one]; split <;> omega
    show IsRangeIter _ _ (lo + ((0 : Nat) : Int) * 1) ((((hi - lo).toNat : Nat) : Int) - ((0 : Nat) : Int)) 1
    rw [e1, e2]
    exact Heap.get?_push_size _ rfl
  · have e : b = (s.heap.push { cls := .type "range", data := .fields #[.int lo t, .int hi u, .int 1 v] }).objs.size := by simpa using hb
    subst e
    exact I1.fpOk (Nat.le_refl _) (I1.hok.fresh (Nat.le_refl _))
def iRng1 (ta : TA) : TI := fun σ H R => ta σ H fun vs H1 => ∃ j : Int, vs = [.int j] ∧ -(2 ^ 62) ≤ j ∧ j < 2 ^ 62 ∧ R (Itr 0 j.toNat) H1
def iRng2 (ta : TA) : TI := fun σ H R => ta σ H fun vs H1 => ∃ i j : Int, vs = [.int i, .int j] ∧ (-(2 ^ 62) ≤ i ∧ i < 2 ^ 62 ∧ -(2 ^ 62) ≤ j ∧ j < 2 ^ 62) ∧ R (Itr i (j - i).toNat) H1
theorem pi_range1 {a : Expr} {ta : TA} {p pos : Pos} (hg : Gl X "range") (hm : X.mg "range" = none) (ha : PA X [a] ta) (hs : starEach [a] X.env = [(false, eval a X.env)] := by rfl) : PI X tg (.Call (.Name "range" p) [a] [] pos) (iRng1 ta) := by
  intro pins s σ H R I h
  refine Call_ (ld_blt I hg hm boot_range (PyProof.Rows.callWith_type1 (thn (ha pos pins s σ H _ I h) fun us s1 ⟨vs, H1, I1, r1, q1⟩ => ?_) hs rfl))
  obtain ⟨j, e, q1, q2, q⟩ := q1
  subst e
  cases r1 with
  | cons r rr =>
    cases rr
    obtain ⟨t, rfl⟩ := r
    exact call_range_1 (range_it I1 (by omega) (by omega) q1 q2 (by simpa using q))
theorem pi_range2 {a b : Expr} {ta : TA} {p pos : Pos} (hg : Gl X "range") (hm : X.mg "range" = none) (ha : PA X [a, b] ta) (hs : starEach [a, b] X.env = [(false, eval a X.env), (false, eval b X.env)] := by rfl) (hs2 : starEach [b] X.env = [(false, eval b X.env)] := by rfl) :
    PI X tg (.Call (.Name "range" p) [a, b] [] pos) (iRng2 ta) := by
  intro pins s σ H R I h
  refine Call_ (ld_blt I hg hm boot_range (PyProof.Rows.callWith_type1 (thn (ha pos pins s σ H _ I h) fun us s1 ⟨vs, H1, I1, r1, q1⟩ => ?_) (by rw [hs, hs2]) (by rw [hs2]; rfl)))
  obtain ⟨i, j, e, ⟨q1, q2, q3, q4⟩, q⟩ := q1
  subst e
  cases r1 with
  | cons r rr =>
    cases rr with
    | cons r' rr =>
      cases rr
      obtain ⟨t, rfl⟩ := r
      obtain ⟨t', rfl⟩ := r'
      exact call_range_2 (range_it I1 q1 q2 q3 q4 q)
def tFor (wi : TI) (g : TG) (tb : TS) : TS := fun D σ H => wi σ H fun J H1 => ∃ W : Nat → Nat → St → Hp → Prop, (∃ m, W 0 m σ H1) ∧ ∀ i m σ H, W i m σ H →
  (J.stop i H ∧ D.nx σ H) ∨ (J.go i H ∧ ∃ N : St → Hp → Prop, (∀ σ' H', N σ' H' → ∃ m', m' < m ∧ W (i + 1) m' σ' H') ∧ ∀ x H', J.yld i H x H' → g x σ H' fun σ2 H2 => tb { D with nx := N, ct := N, bk := D.nx } σ2 H2)
def pinsAt (fp : List Addr) (h : Heap) : List (Addr × Obj) := fp.filterMap fun b => (h.get? b).map fun o => (b, o)
theorem mem_pinsAt {fp : List Addr} {h : Heap} {b : Addr} {o : Obj} (hb : b ∈ fp) (e : h.get? b = some o) : (b, o) ∈ pinsAt fp h := List.mem_filterMap.mpr ⟨b, hb, by rw [e]; rfl⟩
theorem of_pinsAt {fp : List Addr} {h : Heap} {p : Addr × Obj} (hp : p ∈ pinsAt fp h) : p.1 ∈ fp ∧ h.get? p.1 = some p.2 := by
  obtain ⟨b, hb, e⟩ := List.mem_filterMap.mp hp
  cases q : h.get? b with
  | none => rw [q] at e; cases e
  | some o =>
    rw [q] at e
    have e' : (b, o) = p := Option.some.inj e
    subst e'
    exact ⟨hb, q⟩
theorem Inv.pinned {pins : List (Addr × Obj)} {σ : St} {H : Hp} {s : Shared} {fp : List Addr} (I : Inv X pins σ H s) (hf : ∀ b ∈ fp, FpOk X pins H b) (ho : ∀ b ∈ fp, ∃ o, s.heap.get? b = some o ∧ ∀ v, o.data ≠ .cell v) : Inv X (pins ++ pinsAt fp s.heap) σ H s :=
  I.pins_of fun p hp => (List.mem_append.mp hp).elim (fun z => I.pin p (List.mem_append_right _ z)) fun z => by
    obtain ⟨hb, e⟩ := of_pinsAt z
    obtain ⟨f0, f1, f2, _⟩ := hf p.1 hb
    obtain ⟨o, e', d⟩ := ho p.1 hb
    rw [e] at e'; cases e'
    exact ⟨e, f0, f1, f2, d⟩
theorem Inv.unpinned {pins pl : List (Addr × Obj)} {σ : St} {H : Hp} {s : Shared} (I : Inv X (pins ++ pl) σ H s) : Inv X pins σ H s := I.pins_of fun p hp => I.pin p (List.mem_append_right _ (List.mem_append_left _ hp))
theorem ps_for {iter : Expr} {body : List Stmt} {wi : TI} {g : TG} {tb : TS} {pos : Pos} (hp : PassesOwn (model X.prog X.w) X.A X.env X.xe) (hc : X.calm = true) (hi : PI X tg iter wi) (hg : PG X tg g) (hb : PSs X body tb)
    (hs : ∀ x, foldedSetIterable iter X.env x = pure x := by intro _; rfl) : PS X (.For tg iter body [] pos) (tFor wi g tb) := by
  intro pins s σ H D I h
  refine wpAny_For (thn (hi pins s σ H _ I h) fun v s1 h1 => thn h1 fun itv s2 h2 => ?_) hs
  obtain ⟨it, fp, tn, J, H2, e, I2, T, st2, f2, W, ⟨m0, w0⟩, turn⟩ := h2
  subst e
  -- what stays true of the iterator's objects through the loop
  have stat : ∀ {H' : Hp}, (∀ b ∈ fp, H' b = none) → ∀ b ∈ fp, FpOk X pins H' b := fun hn b hb => ⟨hn b hb, (f2 b hb).2⟩
  refine codeAny_forLoop_any (fun n s' => ∃ i σ' H', Inv X pins σ' H' s' ∧ tn i s'.heap ∧ (∀ b ∈ fp, H' b = none) ∧ W i n σ' H') ?_ m0 ⟨0, σ, H2, I2, st2, fun b hb => (f2 b hb).1, w0⟩
  rintro n s3 ⟨i, σ3, H3, I3, st3, fr3, w3⟩
  rcases turn i n σ3 H3 w3 with ⟨stop, qn⟩ | ⟨go, N, hN, step⟩
  · refine wpAny_passesOwn hp (thn (T.done X rfl rfl rfl hc i pins s3 σ3 H3 X.xe I3 (stat fr3) st3 stop) fun r s4 ⟨hr, I4⟩ => ?_)
    subst hr
    exact wpAny_execs_nil ⟨σ3, H3, I4, qn⟩
  · refine wpAny_passesOwn hp (thn (T.item X rfl rfl rfl hc i pins s3 σ3 H3 X.xe I3 (stat fr3) st3 go) fun r s4 ⟨u, hr, h4⟩ => ?_)
    subst hr
    refine wpAny_passesOwn hp (thn h4 fun _ s5 ⟨x, H5, I5, r5, y5, st5, fr5⟩ => ?_)
    have I5' := I5.pinned (stat fr5) (T.obj _ _ st5)
    refine wpAny_passesOwn hp (thn (hg _ s5 σ3 H5 x u _ I5' r5 (step x H5 y5)) fun _ s6 ⟨σ6, H6, I6, q6⟩ => ?_)
    refine wpAny_passesOwn hp (thn (hb _ s6 σ6 H6 _ I6 q6) fun f s7 q7 => ?_)
    have again : ∀ {σ7 : St} {H7 : Hp}, Inv X (pins ++ pinsAt fp s5.heap) σ7 H7 s7 → N σ7 H7 → ∃ m, m < n ∧ ∃ i σ' H', Inv X pins σ' H' s7 ∧ tn i s7.heap ∧ (∀ b ∈ fp, H' b = none) ∧ W i m σ' H' := fun {σ7 H7} I7 n7 => by
      obtain ⟨m', hm, w7⟩ := hN σ7 H7 n7
      refine ⟨m', hm, i + 1, σ7, H7, I7.unpinned, T.keep _ _ _ st5 fun b hb o e => (I7.pin (b, o) (List.mem_append_right _ (List.mem_append_right _ (mem_pinsAt hb e)))).1, fun b hb => ?_, w7⟩
      obtain ⟨o, e, d⟩ := T.obj _ _ st5 b hb
      exact (I7.pin (b, o) (List.mem_append_right _ (List.mem_append_right _ (mem_pinsAt hb e)))).2.1
    cases f with
    | next => obtain ⟨σ7, H7, I7, n7⟩ := q7; exact again I7 n7
    | cont => obtain ⟨σ7, H7, I7, n7⟩ := q7; exact again I7 n7
    | brk => obtain ⟨σ7, H7, I7, q7⟩ := q7; exact ⟨σ7, H7, I7.unpinned, q7⟩
    | ret v => obtain ⟨x7, σ7, H7, I7, r7, q7⟩ := q7; exact ⟨x7, σ7, H7, I7.unpinned, r7, q7⟩
end
theorem while_by {c : TT} {tb : TS} {D : Ends} {σ : St} {H : Hp} (Pv : St → Hp → Prop) (μ : St → Hp → Nat) (h0 : Pv σ H)
    (hs : ∀ σ H, Pv σ H → c σ H fun b H1 => if b = true then tb { D with nx := fun σ' H' => Pv σ' H' ∧ μ σ' H' < μ σ H, ct := fun σ' H' => Pv σ' H' ∧ μ σ' H' < μ σ H, bk := D.nx } σ H1 else D.nx σ H1)
    (mono : ∀ σ H Q Q', (∀ b H1, Q b H1 → Q' b H1) → c σ H Q → c σ H Q') : tWhile c tb D σ H := by
  refine ⟨fun m σ H => m = μ σ H ∧ Pv σ H, ⟨_, rfl, h0⟩, ?_⟩
  rintro m σ H ⟨rfl, p⟩
  refine mono σ H _ _ (fun b H1 q => ?_) (hs σ H p)
  cases b with
  | true => exact ⟨_, fun σ' H' ⟨p', l⟩ => ⟨_, l, rfl, p'⟩, q⟩
  | false => exact q
end L2
namespace L2
open PySem PySem.Spec PyProof.Rows
abbrev R2 := V → V → Hp → VK → Prop
def OpR (X : Cx) (f : Value → Value → Sem Value) (r : R2) : Prop :=
  ∀ (pins : List (Addr × Obj)) (s : Shared) (σ : St) (H : Hp) (x y : V) (v u : Value) (Q : VK), Inv X pins σ H s → RelV x v → RelV y u → r x y H Q →
    wpAny (model X.prog X.w) X.A (f v u) (EP X pins σ Q) X.xe s
def UnR (X : Cx) (f : Value → Sem Value) (r : V → Hp → VK → Prop) : Prop :=
  ∀ (pins : List (Addr × Obj)) (s : Shared) (σ : St) (H : Hp) (x : V) (v : Value) (Q : VK), Inv X pins σ H s → RelV x v → r x H Q →
    wpAny (model X.prog X.w) X.A (f v) (EP X pins σ Q) X.xe s
def CallR (X : Cx) (f : Value) (r : List V → Hp → VK → Prop) : Prop :=
  ∀ (pins : List (Addr × Obj)) (s : Shared) (σ : St) (H : Hp) (xs : List V) (us : List Value) (Q : VK), Inv X pins σ H s → Vals xs us → r xs H Q →
    wpAny (model X.prog X.w) X.A (call f us) (EP X pins σ Q) X.xe s
def tOp (r : R2) (ta tb : TE) : TE := fun σ H Q => ta σ H fun x H1 => tb σ H1 fun y H2 => r x y H2 Q
def tUn (r : V → Hp → VK → Prop) (ta : TE) : TE := fun σ H Q => ta σ H fun x H1 => r x H1 Q
def rI (C : Int → Int → Prop) (g : Int → Int → V) : R2 := fun x y H Q => ∃ i j, x = .int i ∧ y = .int j ∧ C i j ∧ Q (g i j) H
def rI0 (g : Int → Int → V) : R2 := fun x y H Q => ∃ i j, x = .int i ∧ y = .int j ∧ Q (g i j) H
def rU (g : Int → V) : V → Hp → VK → Prop := fun x H Q => ∃ i, x = .int i ∧ Q (g i) H
section
variable {X : Cx} {a b c : Expr} {ta tb tc : TE} {pos : Pos}
theorem binT (ha : PE X a ta) (hb : PE X b tb) {pins : List (Addr × Obj)} {s : Shared} {σ : St} {H : Hp} {R : V → V → Hp → Prop} (I : Inv X pins σ H s)
    (h : ta σ H fun x H1 => tb σ H1 fun y H2 => R x y H2) {Q : Value → Shared → Prop} {f : Value → Value → Sem Value}
    (hf : ∀ v u s2 x y H2, Inv X pins σ H2 s2 → RelV x v → RelV y u → R x y H2 → wpAny (model X.prog X.w) X.A (f v u) Q X.xe s2) :
    wpAny (model X.prog X.w) X.A (eval a X.env) (fun v s₁ => wpAny (model X.prog X.w) X.A (eval b X.env) (fun u s₂ => wpAny (model X.prog X.w) X.A (f v u) Q X.xe s₂) X.xe s₁) X.xe s := by
  refine thn (ha pins s σ H _ I h) fun v s1 ⟨x, H1, I1, r1, q1⟩ => ?_
  refine thn (hb pins s1 σ H1 _ I1 q1) fun u s2 ⟨y, H2, I2, r2, q2⟩ => ?_
  exact hf v u s2 x y H2 I2 r1 r2 q2
theorem pe_op {op : Operator} {r : R2} (ho : OpR X (binaryOp op) r) (ha : PE X a ta) (hb : PE X b tb) : PE X (.BinOp a op b pos) (tOp r ta tb) := by
  intro pins s σ H Q I h
  exact wpAny_BinOp (binT ha hb I h fun v u s2 x y H2 I2 rx ry q => ho pins s2 σ H2 x y v u Q I2 rx ry q)
theorem pe_un {op : UnaryOp} {r : V → Hp → VK → Prop} (ho : UnR X (unaryOp op) r) (ha : PE X a ta) : PE X (.UnaryOp op a pos) (tUn r ta) := by
  intro pins s σ H Q I h
  exact UnaryOp_ (thn (ha pins s σ H _ I h) fun v s1 ⟨x, H1, I1, r1, q1⟩ => ho pins s1 σ H1 x v Q I1 r1 q1)
theorem opI {f : Value → Value → Sem Value} {C : Int → Int → Prop} {g : Int → Int → Int}
    (rule : ∀ (i j : Int) (t u : Tok) (s : Shared) (Q : Value → Shared → Prop) (E : Value → Shared → Prop), C i j → Q (.int (g i j) s.toks) { s with toks := s.toks + 1 } → wpAny (model X.prog X.w) X.A (f (.int i t) (.int j u)) Q E s) :
    OpR X f (rI C fun i j => .int (g i j)) := by
  intro pins s σ H x y v u Q I rx ry h
  obtain ⟨i, j, rfl, rfl, hc, q⟩ := h
  obtain ⟨t, rfl⟩ := rx
  obtain ⟨t', rfl⟩ := ry
  exact rule i j t t' s _ _ hc ⟨.int (g i j), H, I.tok _, ⟨_, rfl⟩, q⟩
theorem opI0 {f : Value → Value → Sem Value} {g : Int → Int → Int}
    (rule : ∀ (i j : Int) (t u : Tok) (s : Shared) (Q : Value → Shared → Prop) (E : Value → Shared → Prop), Q (.int (g i j) s.toks) { s with toks := s.toks + 1 } → wpAny (model X.prog X.w) X.A (f (.int i t) (.int j u)) Q E s) :
    OpR X f (rI0 fun i j => .int (g i j)) := by
  intro pins s σ H x y v u Q I rx ry h
  obtain ⟨i, j, rfl, rfl, q⟩ := h
  obtain ⟨t, rfl⟩ := rx
  obtain ⟨t', rfl⟩ := ry
  exact rule i j t t' s _ _ ⟨.int (g i j), H, I.tok _, ⟨_, rfl⟩, q⟩
theorem opB0 {f : Value → Value → Sem Value} {g : Int → Int → Bool}
    (rule : ∀ (i j : Int) (t u : Tok) (s : Shared) (Q : Value → Shared → Prop) (E : Value → Shared → Prop), Q (.bool (g i j)) s → wpAny (model X.prog X.w) X.A (f (.int i t) (.int j u)) Q E s) :
    OpR X f (rI0 fun i j => .bl (g i j)) := by
  intro pins s σ H x y v u Q I rx ry h
  obtain ⟨i, j, rfl, rfl, q⟩ := h
  obtain ⟨t, rfl⟩ := rx
  obtain ⟨t', rfl⟩ := ry
  exact rule i j t t' s _ _ ⟨.bl (g i j), H, I, rfl, q⟩
def CPow (i j : Int) : Prop := 0 ≤ j ∧ j ≤ 1000000 ∧ i.natAbs < 2 ^ 64
def CMul (i j : Int) : Prop := (-(2 ^ 64) < i ∧ i < 2 ^ 64) ∨ (-(2 ^ 64) < j ∧ j < 2 ^ 64)
theorem CMul.ok {i j : Int} (h : CMul i j) : IntMulOk i j := by
  rcases h with ⟨h1, h2⟩ | ⟨h1, h2⟩
  · exact .of_left (intBits_le_64 h1 h2)
  · exact .of_right (intBits_le_64 h1 h2)
theorem op_add : OpR X (binaryOp .Add) (rI0 fun i j => .int (i + j)) := opI0 fun _ _ _ _ _ _ _ q => add_int q
theorem op_sub : OpR X (binaryOp .Sub) (rI0 fun i j => .int (i - j)) := opI0 fun _ _ _ _ _ _ _ q => sub_int q
theorem op_mod : OpR X (binaryOp .Mod) (rI (fun _ j => 0 < j) fun i j => .int (i % j)) := opI fun i j _ _ _ _ _ hc q => by
  have h1 : (0 : Int) < j := hc
  exact mod_int' (by omega) (by rw [Int.fmod_eq_emod_of_nonneg i (by omega)]; exact q)
theorem op_pow : OpR X (binaryOp .Pow) (rI CPow fun i j => .int (i ^ j.toNat)) := opI fun _ _ _ _ _ _ _ hc q => pow_int_small hc.1 hc.2.1 hc.2.2 q
theorem unI {f : Value → Sem Value} {g : Int → Int}
    (rule : ∀ (i : Int) (t : Tok) (s : Shared) (Q : Value → Shared → Prop) (E : Value → Shared → Prop), Q (.int (g i) s.toks) { s with toks := s.toks + 1 } → wpAny (model X.prog X.w) X.A (f (.int i t)) Q E s) :
    UnR X f (rU fun i => .int (g i)) := by
  intro pins s σ H x v Q I rx h
  obtain ⟨i, rfl, q⟩ := h
  obtain ⟨t, rfl⟩ := rx
  exact rule i t s _ _ ⟨.int (g i), H, I.tok _, ⟨_, rfl⟩, q⟩
theorem un_neg : UnR X (unaryOp .USub) (rU fun i => .int (-i)) := unI fun _ _ _ _ _ q => neg_int q
end
def scal : V → V → Bool
  | .non, .non => true | .non, .int _ => true | .int _, .non => true | .non, .bl _ => true | .bl _, .non => true | .non, .str _ => true | .str _, .non => true
  | .int _, .int _ => true | .bl _, .bl _ => true | .str _, .str _ => true | .byt _, .byt _ => true
  | .int _, .str _ => true | .str _, .int _ => true | .bl _, .str _ => true | .str _, .bl _ => true
  | _, _ => false
def rEq : R2 := fun x y H Q => scal x y = true ∧ Q (.bl (decide (x = y))) H
def rNe : R2 := fun x y H Q => scal x y = true ∧ Q (.bl (!decide (x = y))) H
theorem dec_int {i j : Int} : decide (V.int i = V.int j) = (i == j) := by
  rw [Bool.eq_iff_iff]
  simp
theorem dec_bl {i j : Bool} : decide (V.bl i = V.bl j) = (i == j) := by
  rw [Bool.eq_iff_iff]
  simp
theorem dec_str {i j : Str} : decide (V.str i = V.str j) = (i == j) := by
  rw [Bool.eq_iff_iff]
  simp
theorem dec_byt {i j : Array UInt8} : decide (V.byt i = V.byt j) = (i.toList == j.toList) := by
  rw [Bool.eq_iff_iff]
  cases i
  cases j
  simp
section
variable {X : Cx} {a b c : Expr} {ta tb tc : TE} {pos : Pos}
theorem fin_bl {pins : List (Addr × Obj)} {σ : St} {H : Hp} {s : Shared} {Q : VK} {k k' : Bool} (I : Inv X pins σ H s) (q : Q (.bl k) H) (e : k = k') : EP X pins σ Q (.bool k') s := by
  subst e
  exact ⟨.bl k, H, I, rfl, q⟩
theorem op_eq : OpR X (compareOp .Eq) rEq := by
  intro pins s σ H x y v u Q I rx ry h
  obtain ⟨hs, q⟩ := h
  cases x with
  | non =>
    cases rx
    cases y with
    | non => cases ry; exact PySem.EqNone.eq_none_none (fin_bl I q (by simp))
    | bl j => cases ry; exact PySem.EqNone.eq_none_bool (fin_bl I q (by simp))
    | int j => obtain ⟨t', rfl⟩ := ry; exact PySem.EqNone.eq_none_int (fin_bl I q (by simp))
    | str j => obtain ⟨t', rfl⟩ := ry; exact PySem.EqNone.eq_none_str (fin_bl I q (by simp))
    | _ => exact absurd (show false = true from hs) Bool.false_ne_true
  | bl i =>
    cases rx
    cases y with
    | non => cases ry; exact PySem.EqNone.eq_bool_none (fin_bl I q (by simp))
    | bl j => cases ry; exact eq_bool (fin_bl I q dec_bl)
    | str j => obtain ⟨t', rfl⟩ := ry; exact PySem.EqMixed.eq_bool_str (fin_bl I q (by simp))
    | _ => exact absurd (show false = true from hs) Bool.false_ne_true
  | int i =>
    obtain ⟨t, rfl⟩ := rx
    cases y with
    | non => cases ry; exact PySem.EqNone.eq_int_none (fin_bl I q (by simp))
    | int j => obtain ⟨t', rfl⟩ := ry; exact eq_int (fin_bl I q dec_int)
    | str j => obtain ⟨t', rfl⟩ := ry; exact PySem.EqMixed.eq_int_str (fin_bl I q (by simp))
    | _ => exact absurd (show false = true from hs) Bool.false_ne_true
  | str i =>
    obtain ⟨t, rfl⟩ := rx
    cases y with
    | non => cases ry; exact PySem.EqNone.eq_str_none (fin_bl I q (by simp))
    | bl j => cases ry; exact PySem.EqMixed.eq_str_bool (fin_bl I q (by simp))
    | int j => obtain ⟨t', rfl⟩ := ry; exact PySem.EqMixed.eq_str_int (fin_bl I q (by simp))
    | str j => obtain ⟨t', rfl⟩ := ry; exact eq_str (fin_bl I q dec_str)
    | _ => exact absurd (show false = true from hs) Bool.false_ne_true
  | byt i =>
    obtain ⟨t, rfl⟩ := rx
    cases y with
    | byt j => obtain ⟨t', rfl⟩ := ry; exact PySem.W.eq_bytes (fin_bl I q dec_byt)
    | _ => exact absurd (show false = true from hs) Bool.false_ne_true
  | _ => cases y <;> exact absurd (show false = true from hs) Bool.false_ne_true
theorem op_ne : OpR X (compareOp .NotEq) rNe := by
  intro pins s σ H x y v u Q I rx ry h
  obtain ⟨hs, q⟩ := h
  cases x with
  | non =>
    cases rx
    cases y with
    | non => cases ry; exact PySem.EqNone.ne_none_none (fin_bl I q (by simp))
    | bl j => cases ry; exact PySem.EqNone.ne_none_bool (fin_bl I q (by simp))
    | int j => obtain ⟨t', rfl⟩ := ry; exact PySem.EqNone.ne_none_int (fin_bl I q (by simp))
    | str j => obtain ⟨t', rfl⟩ := ry; exact PySem.EqNone.ne_none_str (fin_bl I q (by simp))
    | _ => exact absurd (show false = true from hs) Bool.false_ne_true
  | bl i =>
    cases rx
    cases y with
    | non => cases ry; exact PySem.EqNone.ne_bool_none (fin_bl I q (by simp))
    | bl j => cases ry; exact ne_bool (fin_bl I q (congrArg not dec_bl))
    | str j => obtain ⟨t', rfl⟩ := ry; exact PySem.EqMixed.ne_bool_str (fin_bl I q (by simp))
    | _ => exact absurd (show false = true from hs) Bool.false_ne_true
  | int i =>
    obtain ⟨t, rfl⟩ := rx
    cases y with
    | non => cases ry; exact PySem.EqNone.ne_int_none (fin_bl I q (by simp))
    | int j => obtain ⟨t', rfl⟩ := ry; exact ne_int (fin_bl I q (congrArg not dec_int))
    | str j => obtain ⟨t', rfl⟩ := ry; exact PySem.EqMixed.ne_int_str (fin_bl I q (by simp))
    | _ => exact absurd (show false = true from hs) Bool.false_ne_true
  | str i =>
    obtain ⟨t, rfl⟩ := rx
    cases y with
    | non => cases ry; exact PySem.EqNone.ne_str_none (fin_bl I q (by simp))
    | bl j => cases ry; exact PySem.EqMixed.ne_str_bool (fin_bl I q (by simp))
    | int j => obtain ⟨t', rfl⟩ := ry; exact PySem.EqMixed.ne_str_int (fin_bl I q (by simp))
    | str j => obtain ⟨t', rfl⟩ := ry; exact ne_str (fin_bl I q (congrArg not dec_str))
    | _ => exact absurd (show false = true from hs) Bool.false_ne_true
  | byt i =>
    obtain ⟨t, rfl⟩ := rx
    cases y with
    | byt j => obtain ⟨t', rfl⟩ := ry; exact PySem.W.ne_bytes (fin_bl I q (congrArg not dec_byt))
    | _ => exact absurd (show false = true from hs) Bool.false_ne_true
  | _ => cases y <;> exact absurd (show false = true from hs) Bool.false_ne_true
theorem op_lt : OpR X (compareOp .Lt) (rI0 fun i j => .bl (decide (i < j))) := opB0 fun _ _ _ _ _ _ _ q => lt_int q
theorem op_gt : OpR X (compareOp .Gt) (rI0 fun i j => .bl (decide (j < i))) := opB0 fun _ _ _ _ _ _ _ q => gt_int q
theorem op_ge : OpR X (compareOp .GtE) (rI0 fun i j => .bl (decide (j ≤ i))) := opB0 fun _ _ _ _ _ _ _ q => ge_int q
theorem nomark (b : Expr) {op : CmpOp} (h : op ≠ .In := by decide) (h2 : op ≠ .NotIn := by decide) : behindInMarks op b = false := by
  have e1 : (op == CmpOp.In) = false := by cases op <;> first | rfl | exact absurd rfl h
  have e2 : (op == CmpOp.NotIn) = false := by cases op <;> first | rfl | exact absurd rfl h2
  cases b <;> simp [behindInMarks, e1, e2]
theorem pe_cmpR {op : CmpOp} {r : R2} (ho : OpR X (compareOp op) r) (ha : PE X a ta) (hb : PE X b tb) (hm : behindInMarks op b = false) : PE X (.Compare a [op] [b] pos) (tOp r ta tb) := by
  intro pins s σ H Q I h
  exact wpAny_Compare1 (binT ha hb I h fun v u s2 x y H2 I2 rx ry q => ho pins s2 σ H2 x y v u Q I2 rx ry q) hm
def tTest (t : TE) : TT := fun σ H Q => t σ H fun x H' => ∃ k, x = .bl k ∧ Q k H'
theorem pt_cmpR {op : CmpOp} {r : R2} (ho : OpR X (compareOp op) r) (ha : PE X a ta) (hb : PE X b tb) (hm : behindInMarks op b = false) : PT X (.Compare a [op] [b] pos) (tTest (tOp r ta tb)) := by
  intro pins s σ H Q I h
  refine wpAny_isTrue_Compare1 (thn (ha pins s σ H _ I h) fun v s1 ⟨x, H1, I1, r1, q1⟩ => thn (hb pins s1 σ H1 _ I1 q1) fun u s2 ⟨y, H2, I2, r2, q2⟩ =>
    thn (ho pins s2 σ H2 x y v u _ I2 r1 r2 q2) fun c s3 ⟨z, H3, I3, r3, k, e, q3⟩ => ?_) hm
  subst e
  cases r3
  exact wpAny_truthy_bool ⟨H3, I3, q3⟩
def tChain (r r' : R2) (ta tb tc : TE) : TE := fun σ H Q => ta σ H fun x H1 => tb σ H1 fun y H2 => r x y H2 fun z H3 => ∃ k, z = .bl k ∧
  (if k = true then tc σ H3 fun w' H4 => r' y w' H4 Q else Q (.bl false) H3)
theorem line63 : (sizeLine : Nat) < 2 ^ 63 := by rw [sizeLine_eq]; decide
theorem vals1 {x : V} {us : List Value} (r : Vals [x] us) : ∃ u, us = [u] ∧ RelV x u := by
  cases r with
  | cons r1 r2 => cases r2; exact ⟨_, rfl, r1⟩
theorem vals2 {x y : V} {us : List Value} (r : Vals [x, y] us) : ∃ u w', us = [u, w'] ∧ RelV x u ∧ RelV y w' := by
  cases r with
  | cons r1 r2 =>
    cases r2 with
    | cons r3 r4 => cases r4; exact ⟨_, _, rfl, r1, r3⟩
theorem call_abs : CallR X (.builtin "abs") (fun xs H Q => ∃ i, xs = [.int i] ∧ Q (.int (if i < 0 then -i else i)) H) := by
  intro pins s σ H xs us Q I r h
  obtain ⟨i, rfl, q⟩ := h
  obtain ⟨u, rfl, t, rfl⟩ := vals1 r
  exact call_abs_int fun u tk => ⟨.int (if i < 0 then -i else i), H, I.tok _, ⟨_, rfl⟩, q⟩
theorem call_int1 : CallR X (.type "int") (fun xs H Q => (∃ i, xs = [.int i] ∧ Q (.int i) H) ∨ ∃ k, xs = [.bl k] ∧ Q (.int (if k then 1 else 0)) H) := by
  intro pins s σ H xs us Q I r h
  rcases h with ⟨i, rfl, q⟩ | ⟨k, rfl, q⟩
  · obtain ⟨u, rfl, t, rfl⟩ := vals1 r
    exact call_int_int ⟨.int i, H, I, ⟨_, rfl⟩, q⟩
  · obtain ⟨u, rfl, r1⟩ := vals1 r
    cases r1
    exact call_int_bool ⟨.int (if k then 1 else 0), H, I.tok _, ⟨_, rfl⟩, q⟩
end
end L2
namespace L2
open PySem PySem.Spec PyProof.Rows
structure ObjM (h : Heap) (x dx C : Addr) (mA : Str → Option Value) : Prop where
  obj : h.get? x = some (PySem.W.instObj C dx)
  ns : h.Ns1 dx mA
  ne : dx ≠ x
theorem lookIn_ns {h : Heap} {dx : Addr} {mA : Str → Option Value} (n : h.Ns1 dx mA) : ∃ od, h.get? dx = some od ∧ ∀ name, PySem.W.lookIn name od = some (mA name) := by
  obtain ⟨o, es, ep, ho, hd, hk, _, hm⟩ := n
  refine ⟨o, ho, fun name => ?_⟩
  have e := hm name
  unfold nsFind findBy at e
  rw [← Array.find?_toList] at e
  unfold PySem.W.lookIn
  rw [hd]
  dsimp only
  split
  · rename_i y q
    rw [q] at e
    exact congrArg some e
  · rename_i q
    rw [q] at e
    have a : es.toList.any (·.refKey) = false := by
      rw [List.any_eq_false]
      intro y hy
      obtain ⟨z, t, hkey⟩ := hk y (Array.mem_toList_iff.mp hy)
      simp [DictEntry.refKey, hkey]
    have a' : ¬ es.toList.any (·.refKey) = true := by rw [a]; exact Bool.false_ne_true
    rw [if_neg a']
    exact congrArg some e
theorem ObjM.look {h : Heap} {x dx C : Addr} {mA : Str → Option Value} (I : ObjM h x dx C mA) : ∃ od, PySem.W.InstAt h x (PySem.W.instObj C dx) C (some od) ∧ ∀ name, PySem.W.lookIn name od = some (mA name) :=
  let ⟨od, ho, hl⟩ := lookIn_ns I.ns
  ⟨od, ⟨I.obj, rfl, rfl, ho⟩, hl⟩
section
variable {P : Program} {w : World} {H H' : Hp} {h h' : Heap} {a C dx : Addr} {fs fs' : List (Str × V)}
theorem ins_get (hok : HOk P w H h) (e : H a = some (.ins C dx fs)) : ∃ mA, ObjM h a dx C mA ∧ (∀ f, RelO (fs.lookup f) (mA f)) ∧ PySem.Within mA (fs.map (·.1)) ∧ fs.length ≤ 1000 ∧ H dx = some (.own a) := by
  obtain ⟨d, z, ne, ob, mA, n, r, q⟩ := (show ObjOk P w H h a (.ins C dx fs) from hok a _ e)
  exact ⟨mA, ⟨ob, n, ne⟩, r, q, z, d⟩
end
structure Cls (K : PySem.W.Frag) (C : Addr) : Prop where
  pg : PySem.W.plainGet K C Str.empty = true
  hd : PySem.W.hasDictIn K C = true
  po : PySem.W.plainOver K C = true
  sa : PySem.W.findIn K (.ref C) "__setattr__" = some (some (.builtin "object.__setattr__"))
theorem Cls.get {K : PySem.W.Frag} {C : Addr} (c : Cls K C) (f : Str) : PySem.W.plainGet K C f = true := c.pg
structure Con (K : PySem.W.Frag) (C : Addr) (f : Str) (v : V) (u : Value) : Prop where
  at_ : PySem.W.findIn K (.ref C) f = some (some u)
  rel : RelV v u
  get : PySem.W.specialIn K u "__get__" = some none
  cp : PySem.W.copiedNames.contains f = false
structure Meth (K : PySem.W.Frag) (C : Addr) (m : Str) (f : Addr) : Prop where
  at_ : PySem.W.findIn K (.ref C) m = some (some (.ref f))
  fn : PySem.W.isFn K (.ref f) = true
  kp : PySem.W.keepIn K (.ref f) = true
section
variable {X : Cx} {pins : List (Addr × Obj)} {σ : St} {H : Hp} {s : Shared} {A : Around} {E : Value → Shared → Prop} {Q : Value → Shared → Prop} {c : Value} {b : Bool}
inductive TyOf (K : PySem.W.Frag) (H : Hp) : V → Value → Prop where
  | non : TyOf K H .non (.type "NoneType")
  | bl (x : Bool) : TyOf K H (.bl x) (.type "bool")
  | int (i : Int) : TyOf K H (.int i) (.type "int")
  | str (x : Str) : TyOf K H (.str x) (.type "str")
  | flt (x : UInt64) : TyOf K H (.flt x) (.type "float")
  | lst {a : Addr} {xs : List V} (e : H a = some (.lst xs)) : TyOf K H (.ref a) (.type "list")
  | frz {a : Addr} {o : Obj} {xs : List V} (e : H a = some (.frz o (.lst xs))) : TyOf K H (.ref a) (.type "list")
  | tup {a : Addr} {xs : List V} (e : H a = some (.tup xs)) : TyOf K H (.ref a) (.type "tuple")
  | dK {a : Addr} {kvs : List (Key × V)} (e : H a = some (.dK kvs)) : TyOf K H (.ref a) (.type "dict")
  | dT {a : Addr} {kvs : List (List Key × V)} (e : H a = some (.dT kvs)) : TyOf K H (.ref a) (.type "dict")
  | ins {a C dx : Addr} {fs : List (Str × V)} (e : H a = some (.ins C dx fs)) (cl : Cls K C) (ha : PySem.W.findIn K (.ref C) "__class__" = some (some (.builtin "object.__class__")))
      (hn : PySem.W.specialIn K (.builtin "object.__class__") "__get__" = some (some (.builtin "getset_descriptor.__get__"))) (htk : PySem.W.takesIn K (.builtin "object.__class__") = some true)
      (hm : PySem.W.mroIn K C (.type "object") = some true) : TyOf K H (.ref a) (.ref C)
theorem isinst_ok {x : V} {u t : Value} (I : Inv X pins σ H s) (rx : RelV x u) (ty : TyOf X.K H x t) (e : PySem.W.kitOne X.K t c = some b) (h : ∀ tk, Q (.bool b) { s with toks := tk }) :
    wpAny (model X.prog X.w) A (call (.builtin "isinstance") [u, c]) Q E s := by
  cases ty with
  | non => cases (show u = Value.none from rx); exact PySem.W.kia_one PySem.W.kitx_none I.kIn True.intro e (fun z => nomatch z) h
  | bl y => cases (show u = Value.bool y from rx); exact PySem.W.kia_one PySem.W.kitx_bool I.kIn True.intro e (fun z => nomatch z) h
  | int i => obtain ⟨t, q⟩ := (show ∃ t, u = Value.int i t from rx); cases q; exact PySem.W.kia_one PySem.W.kitx_int I.kIn True.intro e (fun z => nomatch z) h
  | str y => obtain ⟨t, q⟩ := (show ∃ t, u = Value.str y t from rx); cases q; exact PySem.W.kia_one PySem.W.kitx_str I.kIn True.intro e (fun z => nomatch z) h
  | flt y => obtain ⟨t, q⟩ := (show ∃ t, u = Value.float y t from rx); cases q; exact PySem.W.kia_one PySem.W.kitx_float I.kIn True.intro e (fun z => nomatch z) h
  | @lst a xs ea =>
    cases (show u = Value.ref a from rx)
    obtain ⟨_, _, n, _, h1⟩ := (show ObjOk X.prog X.w H s.heap a (.lst xs) from I.hok a _ ea)
    exact PySem.W.kia_one PySem.W.kitx_list I.kIn ⟨_, h1, rfl⟩ e (fun z => nomatch z) h
  | @frz a ob xs ea =>
    cases (show u = Value.ref a from rx)
    obtain ⟨_, _, _, n, _, h1⟩ := (show ObjOk X.prog X.w H s.heap a (.frz ob (.lst xs)) from I.hok a _ ea)
    exact PySem.W.kia_one PySem.W.kitx_list I.kIn ⟨_, h1, rfl⟩ e (fun z => nomatch z) h
  | @tup a xs ea =>
    cases (show u = Value.ref a from rx)
    obtain ⟨_, _, _, p⟩ := (show ObjOk X.prog X.w H s.heap a (.tup xs) from I.hok a _ ea)
    obtain ⟨o, h1, h2, _⟩ := p
    exact PySem.W.kia_one PySem.W.kitx_tuple I.kIn ⟨o, h1, h2⟩ e (fun z => nomatch z) h
  | @dK a kvs ea =>
    cases (show u = Value.ref a from rx)
    obtain ⟨_, _, vs, _, p⟩ := (show ObjOk X.prog X.w H s.heap a (.dK kvs) from I.hok a _ ea)
    obtain ⟨o, es, ep, h1, h2, _⟩ := p
    exact PySem.W.kia_one PySem.W.kitx_dict I.kIn ⟨o, h1, h2.1⟩ e (fun z => nomatch z) h
  | @dT a kvs ea =>
    cases (show u = Value.ref a from rx)
    obtain ⟨_, _, xs, _, o, es, ep, h1, h2, _⟩ := (show ObjOk X.prog X.w H s.heap a (.dT kvs) from I.hok a _ ea)
    exact PySem.W.kia_one PySem.W.kitx_dict I.kIn ⟨o, h1, h2.1⟩ e (fun z => nomatch z) h
  | @ins a C dx fs ea cl ha hn htk hm =>
    cases (show u = Value.ref a from rx)
    obtain ⟨mA, O, _⟩ := ins_get I.hok ea
    obtain ⟨od, J, _⟩ := O.look
    exact PySem.W.kia_one (PySem.W.kitx_own (cl.get _) cl.hd ha hn htk hm) I.kIn J e (fun z => nomatch z) h
end
end L2
namespace L2
open PySem PySem.Spec PyProof.Rows
structure Room (k : Nat) (A : Around) : Prop where
  hd : A.handled = none
  dp : A.depth + 3 * k + 5 < recursionLimit
  un : A.units + 16 * k + 200 < cLine
theorem Room.mono {j k : Nat} {A : Around} (r : Room k A) (h : j ≤ k) : Room j A := ⟨r.hd, by have := r.dp; omega, by have := r.un; omega⟩
theorem Room.deeper {k : Nat} {A : Around} (r : Room (k + 1) A) (env : Env) : Room k (A.deeper env) :=
  ⟨r.hd, by have := r.dp; show A.depth + 1 + 3 * k + 5 < _; omega, by have := r.un; show A.units + 3 + 16 * k + 200 < _; omega⟩
theorem Room.in1 {k : Nat} {A : Around} (r : Room (k + 1) A) : Room k A.in1 :=
  ⟨r.hd, by have := r.dp; show A.depth + 3 * k + 5 < _; omega, by have := r.un; show A.units + 1 + 16 * k + 200 < _; omega⟩
theorem Room.depth {k : Nat} {A : Around} (r : Room k A) : A.depth < recursionLimit := by have := r.dp; omega
theorem Room.units {k : Nat} {A : Around} (r : Room k A) : A.units + 64 < cLine := by have := r.un; omega
def tNil : TA := fun _ H Q => Q [] H
def tCons (ta : TE) (tr : TA) : TA := fun σ H Q => ta σ H fun x H1 => tr σ H1 fun xs H2 => Q (x :: xs) H2
section
variable {X : Cx} {e : Expr} {es : List Expr} {te : TE} {t : TA} {pos : Pos}
theorem pa_nil : PA X [] tNil := fun _ _ _ _ H Q I h => Calls.spliced_nil ⟨[], H, I, .nil, h⟩
theorem pa_cons (ha : PE X e te) (hr : PA X es t) (hs : starEach (e :: es) X.env = (false, eval e X.env) :: starEach es X.env := by rfl) : PA X (e :: es) (tCons te t) := by
  intro pos pins s σ H Q I h
  rw [hs]
  show wpAny _ _ (spliced ((false, eval e X.env) :: backTo pos (starEach es X.env))) _ _ s
  refine Calls.spliced_cons (thn (ha pins s σ H _ I h) fun u s1 ⟨x, H1, I1, r1, q1⟩ => ?_)
  exact thn (hr pos pins s1 σ H1 _ I1 q1) fun us s2 ⟨xs, H2, I2, r2, q2⟩ => ⟨x :: xs, H2, I2, .cons r1 r2, q2⟩
def tTup (t : TA) : TE := fun σ H Q => t σ H fun xs H1 => xs.length ≤ sizeLine ∧ ∀ p, H1 p = none → Q (.ref p) (upd H1 p (.tup xs))
def tLst (t : TA) : TE := fun σ H Q => t σ H fun xs H1 => xs.length ≤ sizeLine ∧ ∀ p, H1 p = none → Q (.ref p) (upd H1 p (.lst xs))
theorem pe_tup {x1} (h : PA X es t) : PE X (.Tuple es x1 pos) (tTup t) := by
  intro pins s σ H Q I hq
  refine wpAny_Tuple_spliced (thn (h pos pins s σ H _ I hq) fun us s1 ⟨xs, H1, I1, r, z, q⟩ => ⟨by rw [← r.length]; exact z, ?_⟩)
  have hf : H1 s1.heap.objs.size = none := I1.hok.fresh (Nat.le_refl _)
  refine ⟨.ref s1.heap.objs.size, upd H1 s1.heap.objs.size (.tup xs), I1.laid (t' := s1.toks) (fun b u e => Heap.get?_push_of_some _ e) (Nat.le_refl _) ?_, rfl, q _ hf⟩
  exact ⟨z, us, r, ⟨_, Heap.get?_push_size _ rfl, rfl, _, rfl⟩⟩
theorem pe_lst (h : PA X es t) : PE X (.List es pos) (tLst t) := by
  intro pins s σ H Q I hq
  refine wpAny_List_spliced (thn (h pos pins s σ H _ I hq) fun us s1 ⟨xs, H1, I1, r, z, q⟩ => ⟨by rw [← r.length]; exact z, ?_⟩)
  have hf : H1 s1.heap.objs.size = none := I1.hok.fresh (Nat.le_refl _)
  refine ⟨.ref s1.heap.objs.size, upd H1 s1.heap.objs.size (.lst xs), I1.laid (t' := s1.toks) (fun b u e => Heap.get?_push_of_some _ e) (Nat.le_refl _) ?_, rfl, q _ hf⟩
  exact ⟨z, us, 0, r, Heap.get?_push_size _ rfl⟩
end
abbrev Sp := List V → Hp → VK → XK → Prop
abbrev CXT := List Env → Hp → Shared → XK → Value → Shared → Prop
structure Env0 (P : Program) (w : World) (K : PySem.W.Frag) (mg : Str → Option Value) (base : Heap) (A : Around) (outer : List Env) (s : Shared) (H : Hp) : Prop where
  frames : A.frames = some outer
  mod : Mod K mg base
  bs : ∀ b o, base.get? b = some o → s.heap.get? b = some o ∧ H b = none
  bsz : base.objs.size ≤ s.heap.objs.size
  funs : s.heap.FunFrames base outer
  frf : ∀ b ∈ frs outer, H b = none
  hok : HOk P w H s.heap
  bare : AllBare s.gens
def CE (outer : List Env) (P : Program) (w : World) (H : Hp) (s : Shared) (Q : VK) (u : Value) (s' : Shared) : Prop :=
  ∃ v H', s'.os = s.os ∧ AllBare s'.gens ∧ Un (frs outer) [] H H' s.heap s'.heap ∧ HOk P w H' s'.heap ∧ RelV v u ∧ Q v H'
def CR (CX : CXT) (outer : List Env) (P : Program) (w : World) (H : Hp) (s : Shared) (Q : VK) (E : XK) (r : Result) (s' : Shared) : Prop :=
  match r with
  | .ok (.ret u) => CE outer P w H s Q u s'
  | .ok _ => False
  | .error e => CX outer H s E e s'
structure FnOk (P : Program) (w : World) (K : PySem.W.Frag) (mg : Str → Option Value) (base : Heap) (CX : CXT) (k : Nat) (f : Addr) (fd : FuncData) (ps : List Str) (sp : Sp) : Prop where
  len : ∀ vs H Q E, sp vs H Q E → vs.length = ps.length
  run : ∀ (A : Around) (outer : List Env) (s : Shared) (H : Hp) (args : Args) (us : List Value) (vs : List V) (Q : VK) (E : XK), Room k A → Env0 P w K mg base A outer s H → BindsTo s fd args (ps.zip us) → Vals vs us → sp vs H Q E →
    codeAny (model P w) A (.call (.ref f) args) (CR CX outer P w H s Q E) s
theorem FnOk.mono {P : Program} {w : World} {K : PySem.W.Frag} {mg : Str → Option Value} {base : Heap} {CX : CXT} {j k : Nat} {f : Addr} {fd : FuncData} {ps : List Str} {sp : Sp} (F : FnOk P w K mg base CX j f fd ps sp) (h : j ≤ k) :
    FnOk P w K mg base CX k f fd ps sp := ⟨F.len, fun A outer s H args us vs Q E hr => F.run A outer s H args us vs Q E (hr.mono h)⟩
theorem Env0.in1 {P : Program} {w : World} {K : PySem.W.Frag} {mg : Str → Option Value} {base : Heap} {A : Around} {outer : List Env} {s : Shared} {H : Hp} (e : Env0 P w K mg base A outer s H) :
    Env0 P w K mg base A.in1 outer s H := ⟨e.frames, e.mod, e.bs, e.bsz, e.funs, e.frf, e.hok, e.bare⟩
section
variable {X : Cx} {pins : List (Addr × Obj)} {σ : St} {H : Hp} {s s' : Shared}
theorem Inv.env0 (I : Inv X pins σ H s) : Env0 X.prog X.w X.K X.mg X.base X.A X.stack s H :=
  ⟨I.ok.frames, I.ok.mod, I.bs, Nat.le_trans I.ok.bsz I.sz, I.stack, I.stkFree, I.hok, I.bare⟩
theorem Inv.after {Q : VK} {u : Value} (I : Inv X pins σ H s) (h : CE X.stack X.prog X.w H s Q u s') : EP X pins σ Q u s' := by
  obtain ⟨v, H', os, bare, un, hok, r, q⟩ := h
  obtain ⟨hh, g, d, t, os'⟩ := s'
  obtain rfl : os' = s.os := os
  exact ⟨v, H', I.call (h' := hh) (g' := g) (d' := d) (t' := t) (ch := []) un hok bare (fun b z => absurd z (by simp)), r, q⟩
end
def tCall (sp : Sp) (dvs : List V) (E : XK) (t : TA) : TE := fun σ H Q => t σ H fun vs H1 => sp (vs ++ dvs) H1 Q E
def Binds (K : PySem.W.Frag) (fd : FuncData) (ps : List Str) (ds : List Value) : Prop :=
  ∀ (s : Shared) (us : List Value), K.In s.heap → (us ++ ds).length = ps.length → BindsTo s fd ⟨us, []⟩ (ps.zip (us ++ ds))
theorem Binds.all {K : PySem.W.Frag} {fd : FuncData} {ps : List Str} (h : ∀ us : List Value, us.length = ps.length → bindArgs fd ⟨us, []⟩ = pure (ps.zip us)) : Binds K fd ps [] := fun s us _ hl => by
  rw [List.append_nil] at hl ⊢
  exact .of_eq (h us hl)
def Passes (CX : CXT) (X : Cx) (E : XK) : Prop := ∀ (pins : List (Addr × Obj)) (σ : St) (H : Hp) (s : Shared) (e : Value) (s' : Shared), Inv X pins σ H s → CX X.stack H s E e s' → X.xe e s'
section
variable {X : Cx} {CX : CXT} {k : Nat} {f C : Addr} {fd : FuncData} {ps : List Str} {sp : Sp} {dvs : List V} {ds : List Value} {E : XK} {x m : Str} {p pos apos : Pos} {e o : Expr} {es : List Expr} {ta : TE} {t : TA}
theorem run_fn {pins : List (Addr × Obj)} {σ : St} {H : Hp} {s : Shared} {Q : VK} {us : List Value} {vs : List V} (F : FnOk X.prog X.w X.K X.mg X.base CX k f fd ps sp) (hr : Room k X.A) (hb : Binds X.K fd ps ds) (hd : Vals dvs ds) (hx : Passes CX X E)
    (I : Inv X pins σ H s) (r : Vals vs us) (h : sp (vs ++ dvs) H Q E) : wpAny (model X.prog X.w) X.A (call (.ref f) us) (EP X pins σ Q) X.xe s := by
  have r2 : Vals (vs ++ dvs) (us ++ ds) := r.append hd
  have hl : (us ++ ds).length = ps.length := by rw [← r2.length]; exact F.len _ _ _ _ h
  refine wpAny_call (codeAny_mono (F.run X.A X.stack s H ⟨us, []⟩ (us ++ ds) (vs ++ dvs) Q E hr I.env0 (hb s us I.kIn hl) r2 h) fun r s' hq => ?_)
  cases r with
  | error e => exact hx pins σ H s e s' I hq
  | ok fl =>
    cases fl with
    | ret u => exact I.after hq
    | next => exact False.elim hq
    | brk => exact False.elim hq
    | cont => exact False.elim hq
theorem pe_call (F : FnOk X.prog X.w X.K X.mg X.base CX k f fd ps sp) (hr : Room k X.A) (hg : Gl X x) (hm : X.mg x = some (.ref f)) (hk : PySem.W.keepIn X.K (.ref f) = true) (hb : Binds X.K fd ps ds) (hd : Vals dvs ds) (hx : Passes CX X E)
    (ha : PA X (e :: es) t) (hdb : (x == ("__debug__" : Str)) = false := by decide) (he : starEach (e :: es) X.env = (false, eval e X.env) :: starEach es X.env := by rfl) (hpl : (backTo pos (starEach es X.env)).any (·.1) = false := by rfl) :
    PE X (.Call (.Name x p) (e :: es) [] pos) (tCall sp dvs E t) := by
  intro pins s σ H Q I h
  refine wpAny_Call_Name_kw (ld_glob I hg hm ?_ hdb)
  refine PySem.W.callWith_K (h₀ := X.base) I.ok.mod.kin hk (thn (ha pos pins s σ H _ I h) fun us s1 ⟨vs, H1, I1, r, q⟩ => ⟨I1.kIn, ?_⟩) he hpl
  exact run_fn F hr hb hd hx I1 r q
structure Mk (K : PySem.W.Frag) (C f : Addr) : Prop where
  makes : PySem.W.makesIn K C = true
  init : PySem.W.findIn K (.ref C) "__init__" = some (some (.ref f))
  fn : PySem.W.isFn K (.ref f) = true
  kp : PySem.W.keepIn K (.ref C) = true
end
section
variable {X : Cx} {CX : CXT} {k : Nat} {f C : Addr} {fd : FuncData} {ps ks : List Str} {sp : Sp} {E : XK} {x m : Str} {p pos apos kpos : Pos} {e o : Expr} {es : List Expr} {kws : List Keyword} {te ta : TE} {t tk : TA} {nm : Option Str}
structure KBinds (K : PySem.W.Frag) (fd : FuncData) (ps ks : List Str) (g : List Value → List Value → List Value) (gV : List V → List V → List V) : Prop where
  to : ∀ (s : Shared) (us ws : List Value), K.In s.heap → (g us ws).length = ps.length → BindsTo s fd ⟨us, ks.zip ws⟩ (ps.zip (g us ws))
  rel : ∀ {vs : List V} {us : List Value} {zs : List V} {ws : List Value}, Vals vs us → Vals zs ws → Vals (gV vs zs) (g us ws)
variable {g : List Value → List Value → List Value} {gV : List V → List V → List V}
end
structure FnScope (N P : List Str) (sc : Scope) : Prop where
  kind : sc.kind = .function
  co : sc.isCoroutine = false
  gen : sc.isGenerator = false
  nd : N.Nodup
  pre : N.take P.length = P
  par : ∀ x ∈ P, sc.names.lookup x = some .local ∨ sc.names.lookup x = some .cell
  nofree : ∀ y ∈ sc.names, y.2 ≠ .free
theorem bindL_out {kindOf : Str → Option NameKind} {x : Str} : ∀ {binds : List (Str × Value)} {m : Str → Option Value}, (∀ v, (x, v) ∉ binds) → bindL kindOf binds m x = m x
  | [], _, _ => rfl
  | (n, v) :: r, m, h => by
    unfold bindL
    rw [bindL_out fun w hw => h w (List.mem_cons_of_mem _ hw)]
    split
    · have : x ≠ n := by rintro rfl; exact h v List.mem_cons_self
      simp [this]
    · rfl
theorem bindC_out {kindOf : Str → Option NameKind} {x : Str} : ∀ {binds : List (Str × Value)} {m : Str → Option Value}, (∀ v, (x, v) ∉ binds) → bindC kindOf binds m x = m x
  | [], _, _ => rfl
  | (n, v) :: r, m, h => by
    unfold bindC
    rw [bindC_out fun w hw => h w (List.mem_cons_of_mem _ hw)]
    split
    · rfl
    · have : x ≠ n := by rintro rfl; exact h v List.mem_cons_self
      simp [this]
theorem bindL_get {kindOf : Str → Option NameKind} {x : Str} {v : Value} : ∀ {P : List Str} {vs : List Value} {i : Nat} {m : Str → Option Value}, P.Nodup → P[i]? = some x → vs[i]? = some v → kindOf x = some .local →
    bindL kindOf (P.zip vs) m x = some v
  | [], _, _, _, _, h, _, _ => by simp at h
  | _ :: _, [], _, _, _, _, h, _ => by simp at h
  | p :: P, w :: vs, 0, m, nd, h1, h2, hk => by
    simp at h1 h2; subst h1; subst h2
    show bindL kindOf ((p, w) :: P.zip vs) m p = _
    unfold bindL
    rw [bindL_out fun v hv => (List.nodup_cons.mp nd).1 (List.of_mem_zip hv).1, if_pos hk]
    simp
  | p :: P, w :: vs, i + 1, m, nd, h1, h2, hk => by
    show bindL kindOf ((p, w) :: P.zip vs) m x = _
    unfold bindL
    exact bindL_get (i := i) (List.nodup_cons.mp nd).2 (by simpa using h1) (by simpa using h2) hk
theorem bindC_get {kindOf : Str → Option NameKind} {x : Str} {v : Value} : ∀ {P : List Str} {vs : List Value} {i : Nat} {m : Str → Option Value}, P.Nodup → P[i]? = some x → vs[i]? = some v → kindOf x ≠ some .local →
    bindC kindOf (P.zip vs) m x = some v
  | [], _, _, _, _, h, _, _ => by simp at h
  | _ :: _, [], _, _, _, _, h, _ => by simp at h
  | p :: P, w :: vs, 0, m, nd, h1, h2, hk => by
    simp at h1 h2; subst h1; subst h2
    show bindC kindOf ((p, w) :: P.zip vs) m p = _
    unfold bindC
    rw [bindC_out fun v hv => (List.nodup_cons.mp nd).1 (List.of_mem_zip hv).1, if_neg hk]
    simp
  | p :: P, w :: vs, i + 1, m, nd, h1, h2, hk => by
    show bindC kindOf ((p, w) :: P.zip vs) m x = _
    unfold bindC
    exact bindC_get (i := i) (List.nodup_cons.mp nd).2 (by simpa using h1) (by simpa using h2) hk
def start (N : List Str) (vs : List V) : St := vs.map some ++ List.replicate (N.length - vs.length) none
def cxOf (CX : CXT) (P : Program) (w : World) (K : PySem.W.Frag) (mg : Str → Option Value) (base : Heap) (N : List Str) (qual : Str) (scope : Scope) (f : Addr) (cd : Value) (A : Around) (outer : List Env) (s : Shared) (H : Hp) (E : XK) : Cx where
  prog := P
  w := w
  K := K
  mg := mg
  base := base
  A := A.deeper (envOfC qual scope s.heap.objs.size f cd)
  N := N
  s₀ := s
  H₀ := H
  env := envOfC qual scope s.heap.objs.size f cd
  outer := outer
  stack := envOfC qual scope s.heap.objs.size f cd :: outer
  ex := []
  calm := true
  fn := fun _ => true
  pn := []
  xe := fun e s' => wpAny (model P w) (A.deeper (envOfC qual scope s.heap.objs.size f cd)) (leaving (envOfC qual scope s.heap.objs.size f cd) e) (fun _ s'' => CX outer H s E e s'') (fun e' s'' => CX outer H s E e' s'') s'
theorem cell_has {sc : Scope} {n : Nat} {x : Str} (h : sc.names.lookup x = some .cell) : ∃ c, (cellsFrom n sc.names []).lookup x = some c := by
  have q := PySem.W.cellsFrom_some sc.names n [] (.inl h)
  exact Option.isSome_iff_exists.mp q
theorem inv_start {CX : CXT} {P : Program} {w : World} {K : PySem.W.Frag} {mg : Str → Option Value} {base : Heap} {N ps : List Str} {qual : Str} {scope : Scope} {f : Addr} {cd : Value} {A : Around} {outer : List Env} {s s1 : Shared} {H : Hp} {E : XK} {us : List Value} {vs : List V}
    (S : FnScope N ps scope) (hd : A.handled = none) (e0 : Env0 P w K mg base A outer s H) (hl : vs.length = ps.length) (r : Vals vs us)
    (x : InCallC s s.heap.objs.size (bindL (envOfC qual scope s.heap.objs.size f cd).kindOf (ps.zip us) fun _ => none) (cellsFrom (s.heap.objs.size + 1) scope.names []) (bindC (envOfC qual scope s.heap.objs.size f cd).kindOf (ps.zip us) fun _ => none) s1) :
    Inv (cxOf CX P w K mg base N qual scope f cd A outer s H E) [] (start N vs) H s1 := by
  have hpl : ps.length ≤ N.length := by have := congrArg List.length S.pre; rw [List.length_take] at this; omega
  obtain ⟨h1, tk, rfl, hk⟩ := x.done
  have noA : ∀ b : Addr, b ∉ (cxOf CX P w K mg base N qual scope f cd A outer s H E).ex := fun b z => absurd (show b ∈ ([] : List Addr) from z) (by simp)
  refine ⟨⟨e0.mod, S.kind, rfl, rfl, Nat.le_refl _, fun y z c h1 h2 => ?_, fun y hy => ?_, fun y c _ h => ?_, fun _ => hd, Around.frames_deeper e0.frames, .inr ⟨rfl, rfl⟩, fun b z => absurd z (noA b), e0.bs, e0.bsz, fun b _ _ => noA b, fun b z => absurd z (noA b), e0.funs, e0.frf⟩,
    rfl, e0.bare, Un.kept hk, ⟨_, x.toInCall.ns, fun i y v h1 h2 h3 => ?_⟩, fun y c h => ⟨_, x.cell y c h⟩, e0.hok.fresh (Nat.le_refl _), fun y c h => ?_, fun p hp => absurd (show p ∈ ([] : List (Addr × Obj)) from hp) (by simp), e0.hok.kept hk, ?_⟩
  · exact name_of_addr x.apart (PySem.mem_of_lookup h1) (PySem.mem_of_lookup h2)
  · have hy : scope.names.lookup y = some .cell ∨ scope.names.lookup y = some .free := hy
    rcases hy with hy | hy
    · exact cell_has hy
    · exact absurd rfl (S.nofree _ (PySem.mem_of_lookup hy))
  · exact Nat.le_of_lt (x.above y c (PySem.mem_of_lookup h))
  · have hi : i < vs.length := by
      unfold start at h2
      by_cases hi : i < vs.length
      · exact hi
      · rw [List.getElem?_append_right (by simpa using hi)] at h2
        rw [List.getElem?_replicate] at h2
        split at h2 <;> cases h2
    have ha : vs[i]? = some v := by
      unfold start at h2
      rw [List.getElem?_append_left (by simpa using hi), List.getElem?_map] at h2
      cases e : vs[i]? with
      | none => rw [e] at h2; cases h2
      | some a => rw [e] at h2; cases h2; rfl
    obtain ⟨u, hu, rv⟩ := r.get ha
    have hp : ps[i]? = some y := by
      rw [← S.pre, List.getElem?_take_of_lt (by omega)]; exact h1
    have ndP : ps.Nodup := by rw [← S.pre]; exact S.nd.sublist (List.take_sublist _ _)
    refine ⟨u, rv, ?_⟩
    rcases S.par y (List.mem_of_getElem? hp) with k | k
    · exact .inl ⟨k, bindL_get ndP hp hu k⟩
    · obtain ⟨c, e⟩ := cell_has (n := s.heap.objs.size + 1) k
      refine .inr ⟨.inl k, c, e, ?_⟩
      have q := x.cell y c e
      rw [bindC_get ndP hp hu (by show scope.names.lookup y ≠ _; rw [k]; decide)] at q
      exact q
  · exact e0.hok.fresh (Nat.le_of_lt (x.above y c (PySem.mem_of_lookup h)))
  · unfold start
    show _ = N.length
    rw [List.length_append, List.length_map, List.length_replicate]
    omega
theorem fn_of {CX : CXT} {P : Program} {w : World} {K : PySem.W.Frag} {mg : Str → Option Value} {base : Heap} {k : Nat} {f : Addr} {name qual : Str} {params : Arguments} {body : List Stmt} {scope : Scope} {dV kV doc pm cdv ct oc : Value} {an od : Option Addr}
    {osl : Array (Option Value)} {N ps : List Str} {sp : Sp} (lk : K.lookup f = some ⟨oc, od, .func (PySem.W.fnOf name qual params body scope dV kV doc pm an cdv ct), osl⟩) (hcd : PySem.W.codeIn K cdv qual = true) (S : FnScope N ps scope)
    (len : ∀ vs H Q E, sp vs H Q E → vs.length = ps.length)
    (hbody : ∀ (A : Around) (outer : List Env) (s : Shared) (H : Hp) (vs : List V) (Q : VK) (E : XK), Room k (A.deeper (envOfC qual scope s.heap.objs.size f cdv)) → sp vs H Q E →
      ∃ t, PSs (cxOf CX P w K mg base N qual scope f cdv A outer s H E) body t ∧ t { nx := fun _ H' => Q .non H', rt := Q } (start N vs) H) :
    FnOk P w K mg base CX (k + 1) f (PySem.W.fnOf name qual params body scope dV kV doc pm an cdv ct) ps sp := by
  refine ⟨len, fun A outer s H args us vs Q E hr e0 hb r hsp => ?_⟩
  have hl := len _ _ _ _ hsp
  have KX : K.In s.heap := e0.mod.kin.keeps fun b o e => (e0.bs b o e).1
  have lim : s.heap.NoLimit := e0.mod.nolimit.keeps fun b o e => (e0.bs b o e).1
  have hkind : ∀ y ∈ ps.zip us, scope.names.lookup y.1 = some .local ∨ (scope.names.lookup y.1 = some .cell ∧ ((cellsFrom (s.heap.objs.size + 1) scope.names []).lookup y.1).isSome = true) := fun ⟨n, v⟩ hy => by
    rcases S.par n (List.of_mem_zip hy).1 with q | q
    · exact .inl q
    · exact .inr ⟨q, PySem.W.cellsFrom_some _ _ _ (.inl q)⟩
  refine codeAny_call_function hr.depth (KX _ _ lk) rfl S.co S.gen rfl (PySem.W.codeRec_of KX hcd) (hb _ _ _ _ ?_)
  refine wpAny_newFunctionEnv_cells S.kind hkind fun env he s1 x => ?_
  subst he
  refine ⟨lim.keeps x.toInCall.keep, codeAny_func ?_⟩
  obtain ⟨t, ht, hq⟩ := hbody A outer s H vs Q E (hr.deeper _) hsp
  have I : Inv (cxOf CX P w K mg base N qual scope f cdv A outer s H E) [] (start N vs) H s1 := inv_start S hr.hd e0 hl r x
  refine wpAny_mono (ht [] s1 (start N vs) H _ I hq) (fun fl s' hs => ?_) fun e s' hs => hs
  have fin : ∀ {σ' : St} {H' : Hp} {v : V} {u : Value}, Inv (cxOf CX P w K mg base N qual scope f cdv A outer s H E) [] σ' H' s' → RelV v u → Q v H' → CE outer P w H s Q u s' :=
    fun {σ' H' v u} J rv q => ⟨v, H', J.os, J.bare, J.base, J.hok, rv, q⟩
  cases fl with
  | ret u =>
    obtain ⟨v, σ', H', J, rv, q⟩ := hs
    exact fin J rv q
  | next =>
    obtain ⟨σ', H', J, q⟩ := hs
    exact fin (v := V.non) (u := Value.none) J rfl q
  | brk =>
    obtain ⟨_, _, _, q⟩ := hs
    exact False.elim q
  | cont =>
    obtain ⟨_, _, _, q⟩ := hs
    exact False.elim q
end L2
namespace L2
open PySem PySem.Spec PyProof.Rows
section
variable {X : Cx} {x : Str} {p pos : Pos} {e : Expr} {es : List Expr} {t : TA} {id T : String} {r : List V → Hp → VK → Prop}
def tCB (r : List V → Hp → VK → Prop) (t : TA) : TE := fun σ H Q => t σ H fun vs H1 => r vs H1 Q
theorem pe_callB (hc : CallR X (.builtin id) r) (hg : Gl X x) (hm : X.mg x = none) (hv : bootBuiltins x = some (.builtin id)) (ha : PA X (e :: es) t) (hn : x ≠ "__name__" := by decide) (hdb : (x == ("__debug__" : Str)) = false := by decide)
    (he : starEach (e :: es) X.env = (false, eval e X.env) :: starEach es X.env := by rfl) (hpl : (backTo pos (starEach es X.env)).any (·.1) = false := by rfl) : PE X (.Call (.Name x p) (e :: es) [] pos) (tCB r t) := by
  intro pins s σ H Q I h
  refine wpAny_Call_Name_kw (ld_blt I hg hm hv ?_ hn hdb)
  exact PyProof.Rows.callWith_builtin1 (thn (ha pos pins s σ H _ I h) fun us s1 ⟨vs, H1, I1, r1, q1⟩ => hc pins s1 σ H1 vs us Q I1 r1 q1) he hpl
theorem pe_callTy (hc : CallR X (.type T) r) (hg : Gl X x) (hm : X.mg x = none) (hv : bootBuiltins x = some (.type T)) (ha : PA X (e :: es) t) (hn : x ≠ "__name__" := by decide) (hdb : (x == ("__debug__" : Str)) = false := by decide)
    (he : starEach (e :: es) X.env = (false, eval e X.env) :: starEach es X.env := by rfl) (hpl : (backTo pos (starEach es X.env)).any (·.1) = false := by rfl) : PE X (.Call (.Name x p) (e :: es) [] pos) (tCB r t) := by
  intro pins s σ H Q I h
  refine wpAny_Call_Name_kw (ld_blt I hg hm hv ?_ hn hdb)
  exact PyProof.Rows.callWith_type1 (thn (ha pos pins s σ H _ I h) fun us s1 ⟨vs, H1, I1, r1, q1⟩ => hc pins s1 σ H1 vs us Q I1 r1 q1) he hpl
end
end L2
namespace HT
open PySem PyProof.Rows
section
variable {prog : Program} {w : World} {A : Around} {E : Value → Shared → Prop} {s : Shared}
def sIx (n d : Nat) : Option Int → Nat
  | none => d
  | some v => if v < 0 then (v + (n : Int)).toNat else min v.toNat n
theorem sIx_none (n d : Nat) : sIx n d none = d := rfl
theorem sIx_nat (n d k : Nat) : sIx n d (some (k : Int)) = min k n := by
  show (if (k : Int) < 0 then ((k : Int) + (n : Int)).toNat else min (k : Int).toNat n) = min k n
  rw [if_neg (by omega), Int.toNat_natCast]
theorem sIx_le (n d : Nat) (hd : d ≤ n) (o : Option Int) : sIx n d o ≤ n := by
  cases o with
  | none => exact hd
  | some v =>
    show (if v < 0 then (v + (n : Int)).toNat else min v.toNat n) ≤ n
    by_cases hv : v < 0
    · rw [if_pos hv]; omega
    · rw [if_neg hv]; exact Nat.min_le_right _ _
theorem clip_eq (v : Int) (n d : Nat) : (if v < 0 then max (v + (n : Int)) 0 else min v (n : Int)) = ((sIx n d (some v) : Nat) : Int) := by
  show (if v < 0 then max (v + (n : Int)) 0 else min v (n : Int)) = (((if v < 0 then (v + (n : Int)).toNat else min v.toNat n) : Nat) : Int)
  by_cases hv : v < 0
  · simp only [if_pos hv]; omega
  · simp only [if_neg hv]; omega
theorem adjust_gen (lo hi : Option Int) (n : Nat) : Builtin.Slice.sliceAdjust lo hi 1 (n : Int) = (((sIx n 0 lo : Nat) : Int), ((sIx n n hi : Nat) : Int)) := by
  have h1 : ¬ ((1 : Int) < 0) := by omega
  unfold Builtin.Slice.sliceAdjust
  simp only [h1, if_false]
  refine Prod.ext ?_ ?_
  · cases lo with
    | none => rfl
    | some v => exact clip_eq v n 0
  · cases hi with
    | none => rfl
    | some v => exact clip_eq v n n
theorem places_gen (i j : Nat) : Builtin.Slice.slicePlaces (i : Int) (j : Int) 1 = j - i := by
  unfold Builtin.Slice.slicePlaces
  have h1 : (1 : Int) > 0 := by omega
  simp only [h1, if_true, Int.ediv_one]
  split <;> omega
theorem slicePart_ {v : Value} {o : Option Int} {Q : Option Int → Shared → Prop} (p : IsPart v o) (h : Q o s) : wpAny (model prog w) A (Builtin.Slice.slicePartIndex v) Q E s := by
  cases p with
  | none => exact slicePart_none h
  | int i t => exact slicePart_int h
theorem sliceApplied_gen {sl : Addr} {vl vu : Value} {lo hi : Option Int} {n : Nat} {Q : Int × Int × Nat → Shared → Prop} (hs : s.heap.IsSliceOf sl vl vu .none) (pl : IsPart vl lo) (pu : IsPart vu hi)
    (h : Q (((sIx n 0 lo : Nat) : Int), 1, sIx n n hi - sIx n 0 lo) s) : wpAny (model prog w) A (Builtin.Slice.sliceApplied (.ref sl) (pure (n : Int))) Q E s := by
  obtain ⟨os, hos, hcs, hds⟩ := id hs
  unfold Builtin.Slice.sliceApplied Builtin.Slice.sliceFields
  refine wpAny_bind (wpAny_bind (wpAny_field hos hds (x := vl) rfl (wpAny_bind (wpAny_field hos hds (x := vu) rfl (wpAny_bind (wpAny_field hos hds (x := .none) rfl (wpAny_pure ?_)))))))
  refine wpAny_bind (slicePart_none ?_)
  show wpAny _ _ (if ((1 : Int) == 0) = true then _ else _) _ _ s
  rw [if_neg (by decide)]
  refine wpAny_bind (slicePart_ pl (wpAny_bind (slicePart_ pu (wpAny_bind (wpAny_pure ?_)))))
  show wpAny _ _ (match Builtin.Slice.sliceAdjust lo hi 1 (n : Int) with | (lo, hi) => pure (lo, (1 : Int), Builtin.Slice.slicePlaces lo hi 1)) _ _ s
  rw [adjust_gen lo hi n]
  show wpAny _ _ (pure (((sIx n 0 lo : Nat) : Int), (1 : Int), Builtin.Slice.slicePlaces ((sIx n 0 lo : Nat) : Int) ((sIx n n hi : Nat) : Int) 1)) _ _ s
  rw [places_gen]
  exact wpAny_pure h
theorem pick_gen (xs : Array Value) (i k : Nat) : ((List.range k).filterMap fun (m : Nat) => xs[((i : Int) + (m : Int) * 1).toNat]?).toArray = ((xs.toList.drop i).take k).toArray := by
  have e : (fun (m : Nat) => xs[((i : Int) + (m : Int) * 1).toNat]?) = fun m => xs[i + m]? := by
    funext m
    have : ((i : Int) + (m : Int) * 1).toNat = i + m := by omega
    rw [this]
  rw [e]
  have := pick_run xs i k
  rw [List.filterMap_map] at this
  have e2 : ((fun x => xs[x]?) ∘ fun x => i + x) = fun m => xs[i + m]? := rfl
  rw [e2] at this
  rw [this]
theorem getItem_tuple_cut {t sl : Addr} {items : Array Value} {vl vu : Value} {lo hi : Option Int} {Q : Value → Shared → Prop} (ht : IsTup s.heap t items) (hs : s.heap.IsSliceOf sl vl vu .none) (pl : IsPart vl lo) (pu : IsPart vu hi)
    (hw : ¬ (sIx items.size 0 lo = 0 ∧ sIx items.size items.size hi = items.size))
    (h : Q (.ref s.heap.objs.size) { s with heap := s.heap.push { cls := .type "tuple", data := .seq ((items.toList.drop (sIx items.size 0 lo)).take (sIx items.size items.size hi - sIx items.size 0 lo)).toArray } })
    (hsz : items.size ≤ sizeLine) : wpAny (model prog w) A (getItem (.ref t) (.ref sl)) Q E s := by
  have htake : sizeOk (.seq ((items.toList.drop (sIx items.size 0 lo)).take (sIx items.size items.size hi - sIx items.size 0 lo)).toArray) := by
    show ((items.toList.drop (sIx items.size 0 lo)).take (sIx items.size items.size hi - sIx items.size 0 lo)).toArray.size ≤ sizeLine
    rw [List.size_toArray, List.length_take, List.length_drop, Array.length_toList]
    omega
  have hj : sIx items.size items.size hi ≤ items.size := sIx_le _ _ (Nat.le_refl _) hi
  obtain ⟨os, hos, hcs, hds⟩ := id hs
  have hTs : s.TypeIs (.ref sl) "slice" := ⟨os, hos, hcs⟩
  unfold getItem
  try with_reducible refine wpAny_holding ?_
  first | refine wpAny_bind (wpAny_pure ?_) | skip
  refine wpAny_bind (wpAny_sequenceKey ht.typeIs (by decide) ?_)
  refine wpAny_bind (wpAny_callSpecial?_slot (name := Str.ofString "__getitem__") ht.typeIs PyProof.Rows.slot_tuple_getitem
    (wpAny_call_entry PyProof.Rows.slot_tuple_getitem ht.typeIs entry_tuple_getitem ?_ (args_tuple_getitem _ _)))
  show wpAny _ _ (Builtin.Tuple.tupleItemsOf (.ref t) >>= _) _ _ s
  refine wpAny_bind (tupleItemsOf_ ht ?_)
  refine wpAny_bind (wpAny_typeOf hTs ?_)
  rw [if_pos (by decide)]
  refine wpAny_bind (sliceApplied_gen hs pl pu ?_)
  have hno : ¬ ((((sIx items.size 0 lo : Nat) : Int) == 0 && (1 : Int) == 1 && (sIx items.size items.size hi - sIx items.size 0 lo) == items.size) = true) := by
    intro q
    rw [Bool.and_eq_true, Bool.and_eq_true] at q
    have q1 : ((sIx items.size 0 lo : Nat) : Int) = 0 := eq_of_beq q.1.1
    have q2 : sIx items.size items.size hi - sIx items.size 0 lo = items.size := eq_of_beq q.2
    exact hw ⟨by omega, by omega⟩
  show wpAny _ _ (if (((sIx items.size 0 lo : Nat) : Int) == 0 && (1 : Int) == 1 && (sIx items.size items.size hi - sIx items.size 0 lo) == items.size) = true then _ else _) _ _ s
  rw [if_neg hno, pick_gen]
  first
    | exact wpAny_bind (m := Builtin.Tuple.tupleExact _) (wpAny_newObj_type (wpAny_pure ⟨_, rfl, wpAny_pure h⟩) htake)
    | exact wpAny_bind (m := Builtin.Tuple.tupleExact _) (wpAny_newObj_type (wpAny_bind (wpAny_pure (wpAny_pure ⟨_, rfl, wpAny_pure h⟩))) htake)
    | exact wpAny_bind (wpAny_bind (m := Builtin.Tuple.tupleExact _) (wpAny_newObj_type (wpAny_pure (wpAny_pure ⟨_, rfl, wpAny_pure h⟩)) htake))
    | exact wpAny_bind (wpAny_bind (m := Builtin.Tuple.tupleExact _) (wpAny_newObj_type (wpAny_pure ⟨_, rfl, wpAny_pure h⟩) htake))
end
end HT
namespace L2
open PySem PySem.Spec PyProof.Rows
abbrev TO := St → Hp → (Option Int → Hp → Prop) → Prop
def PO (X : Cx) (e : Option Expr) (t : TO) : Prop :=
  ∀ (pins : List (Addr × Obj)) (s : Shared) (σ : St) (H : Hp) (Q : Option Int → Hp → Prop), Inv X pins σ H s → t σ H Q →
    wpAny (model X.prog X.w) X.A (evalPart e X.env) (fun u s' => ∃ o H', Inv X pins σ H' s' ∧ IsPart u o ∧ Q o H') X.xe s
def tNoPart : TO := fun _ H Q => Q none H
def tPart (t : TE) : TO := fun σ H Q => t σ H fun x H1 => ∃ i, x = .int i ∧ Q (some i) H1
section
variable {X : Cx} {e : Expr} {te : TE} {lo hi : Option Expr} {tl th : TO} {pos p2 : Pos}
theorem po_none : PO X none tNoPart := by
  intro pins s σ H Q I h
  rw [evalPart_none]
  exact wpAny_pure ⟨none, H, I, .none, h⟩
theorem po_some (h : PE X e te) : PO X (some e) (tPart te) := by
  intro pins s σ H Q I hw
  rw [evalPart_some]
  refine thn (h pins s σ H _ I hw) fun u s1 ⟨x, H1, I1, r1, q1⟩ => ?_
  obtain ⟨i, rfl, q⟩ := q1
  obtain ⟨t, rfl⟩ := r1
  exact ⟨some i, H1, I1, .int i t, q⟩
def SlR (X : Cx) (r : V → Option Int → Option Int → Hp → VK → Prop) : Prop :=
  ∀ (pins : List (Addr × Obj)) (s : Shared) (σ : St) (H : Hp) (x : V) (v vl vu : Value) (lo hi : Option Int) (sl : Addr) (Q : VK), Inv X pins σ H s → RelV x v → s.heap.IsSliceOf sl vl vu .none → IsPart vl lo → IsPart vu hi → r x lo hi H Q →
    ∃ T id, typeLookup (.type T) "__getitem__" = pure (some (.builtin id)) ∧ s.TypeIs v T ∧ wpAny (model X.prog X.w) X.A (getItem v (.ref sl)) (EP X pins σ Q) X.xe s
def tSl (r : V → Option Int → Option Int → Hp → VK → Prop) (te : TE) (tl th : TO) : TE := fun σ H Q => te σ H fun x H1 => tl σ H1 fun l H2 => th σ H2 fun u H3 => r x l u H3 Q
theorem pe_slice {r : V → Option Int → Option Int → Hp → VK → Prop} (hr : SlR X r) (he : PE X e te) (hl : PO X lo tl) (hu : PO X hi th) : PE X (.Subscript e (.Slice lo hi none p2) pos) (tSl r te tl th) := by
  intro pins s σ H Q I h
  refine Subscript_ (thn (he pins s σ H _ I h) fun v s1 ⟨x, H1, I1, r1, q1⟩ => ?_)
  refine wpAny_Slice (thn (hl pins s1 σ H1 _ I1 q1) fun vl s2 ⟨l, H2, I2, pl, q2⟩ => thn (hu pins s2 σ H2 _ I2 q2) fun vu s3 ⟨u, H3, I3, pu, q3⟩ => ?_)
  rw [evalPart_none]
  refine wpAny_pure ?_
  have I4 : Inv X pins σ H3 { s3 with heap := s3.heap.push { cls := .type "slice", data := .fields #[vl, vu, .none] } } := I3.kept (t' := s3.toks) fun b ob q => Heap.get?_push_of_some _ q
  obtain ⟨T, id, hT, ht, hg⟩ := hr pins { s3 with heap := s3.heap.push { cls := .type "slice", data := .fields #[vl, vu, .none] } } σ H3 x v vl vu l u s3.heap.objs.size Q I4 r1 (Heap.IsSliceOf.new ..) pl pu q3
  show wpAny (model X.prog X.w) X.A (subscriptTail e (.Slice lo hi none p2) v (.ref s3.heap.objs.size)) (EP X pins σ Q) X.xe { s3 with heap := s3.heap.push { cls := .type "slice", data := .fields #[vl, vu, .none] } }
  exact tail_any (ops := [.ref s3.heap.objs.size, v]) ht hT hg (by with_unfolding_all rfl)
def cutV (xs : List V) (lo hi : Option Int) : List V := (xs.drop (HT.sIx xs.length 0 lo)).take (HT.sIx xs.length xs.length hi - HT.sIx xs.length 0 lo)
theorem cutV_length (xs : List V) (lo hi : Option Int) : (cutV xs lo hi).length ≤ xs.length := by
  unfold cutV
  rw [List.length_take, List.length_drop]
  omega
def rSlT (K : PySem.W.Frag) : V → Option Int → Option Int → Hp → VK → Prop := fun x lo hi H Q => ∃ a xs, x = .ref a ∧ SqT K H a xs ∧
  ¬ (HT.sIx xs.length 0 lo = 0 ∧ HT.sIx xs.length xs.length hi = xs.length) ∧ ∀ p, H p = none → Q (.ref p) (upd H p (.tup (cutV xs lo hi)))
theorem sl_tup : SlR X (rSlT X.K) := by
  intro pins s σ H x v vl vu lo hi sl Q I rx hs pl pu h
  obtain ⟨a, xs, rfl, hx, hw, q⟩ := h
  cases rx
  obtain ⟨its, r, ht, hz⟩ := I.tuple hx
  have hlen : its.toArray.size = xs.length := by rw [List.size_toArray]; exact r.length.symm
  refine ⟨"tuple", _, PyProof.Rows.slot_tuple_getitem.lookup, ht.typeIs, ?_⟩
  refine HT.getItem_tuple_cut ht hs pl pu (by rw [hlen]; exact hw) ?_ (by rw [hlen]; exact hz)
  rw [hlen]
  refine ⟨.ref s.heap.objs.size, _, I.laid (t' := s.toks) (o := .tup (cutV xs lo hi)) (fun b ob q => Heap.get?_push_of_some _ q) (Nat.le_refl _) ?_, rfl, q _ (I.hok.fresh (Nat.le_refl _))⟩
  exact ⟨Nat.le_trans (cutV_length xs lo hi) hz, _, (r.drop (HT.sIx xs.length 0 lo)).take (HT.sIx xs.length xs.length hi - HT.sIx xs.length 0 lo), IsTup.new _ _⟩
end
end L2
namespace L2
open PySem PySem.Spec PyProof.Rows
def ixN (n : Nat) (i : Int) : Option Nat := if 0 ≤ i then (if i < n then some i.toNat else none) else if -(n : Int) ≤ i then some (i + n).toNat else none
def atI {α : Type} (xs : List α) (i : Int) : Option α := (ixN xs.length i).bind fun j => xs[j]?
theorem ixN_seq {n : Nat} {i : Int} {j : Nat} (h : ixN n i = some j) : seqIndex? i n = some j ∧ j < n ∧ -(n : Int) ≤ i ∧ i < n := by
  unfold ixN at h
  by_cases h0 : 0 ≤ i
  · rw [if_pos h0] at h
    by_cases h1 : i < n
    · rw [if_pos h1] at h
      have e : i.toNat = j := Option.some.inj h
      exact ⟨by rw [seqIndex_of h0 h1, e], by omega, by omega, h1⟩
    · rw [if_neg h1] at h; cases h
  · rw [if_neg h0] at h
    by_cases h1 : -(n : Int) ≤ i
    · rw [if_pos h1] at h
      have e : (i + n).toNat = j := Option.some.inj h
      exact ⟨by rw [seqIndex_neg (by omega) h1, e], by omega, h1, by omega⟩
    · rw [if_neg h1] at h; cases h
theorem atI_get {α : Type} {xs : List α} {i : Int} {v : α} (h : atI xs i = some v) : ∃ j, seqIndex? i xs.length = some j ∧ xs[j]? = some v ∧ j < xs.length ∧ -(xs.length : Int) ≤ i ∧ i < xs.length := by
  unfold atI at h
  cases e : ixN xs.length i with
  | none => rw [e] at h; cases h
  | some j =>
    rw [e] at h
    obtain ⟨h1, h2, h3, h4⟩ := ixN_seq e
    exact ⟨j, h1, h, h2, h3, h4⟩
theorem atI_nat {α : Type} {xs : List α} {j : Nat} {v : α} (h : xs[j]? = some v) : atI xs (j : Int) = some v := by
  have hj : j < xs.length := (List.getElem?_eq_some_iff.mp h).1
  have e : ixN xs.length (j : Int) = some j := by
    unfold ixN
    rw [if_pos (by omega), if_pos (by omega)]; simp
  unfold atI; rw [e]; exact h
theorem atI_last {α : Type} (xs : List α) (v : α) : atI (xs ++ [v]) (-1) = some v := by
  have hl : (xs ++ [v]).length = xs.length + 1 := by simp
  have e : ixN (xs ++ [v]).length (-1) = some xs.length := by
    unfold ixN
    rw [hl, if_neg (by decide), if_pos (by omega)]
    congr 1
    omega
  unfold atI
  rw [e]
  show (xs ++ [v])[xs.length]? = some v
  simp
def PlainIx (b : Expr) : Prop := ∀ o i, subscripted b false o i = operate [o, i] (getItem o i)
def IxR (X : Cx) (r : R2) : Prop :=
  ∀ (value slice : Expr) (pins : List (Addr × Obj)) (s : Shared) (σ : St) (H : Hp) (x y : V) (v u : Value) (Q : VK), Inv X pins σ H s → RelV x v → RelV y u → r x y H Q →
    subscripted slice false v u = operate [v, u] (getItem v u) → wpAny (model X.prog X.w) X.A (subscriptTail value slice v u) (EP X pins σ Q) X.xe s
def MtR (X : Cx) (id : String) (r : V → List V → Hp → VK → Prop) : Prop :=
  ∀ (pins : List (Addr × Obj)) (s : Shared) (σ : St) (H : Hp) (x : V) (xs : List V) (v : Value) (us : List Value) (Q : VK), Inv X pins σ H s → RelV x v → Vals xs us → r x xs H Q →
    wpAny (model X.prog X.w) X.A (call (.builtin id) (v :: us)) (EP X pins σ Q) X.xe s
section
variable {X : Cx} {a b : Expr} {ta tb : TE} {pos : Pos}
theorem pe_ix {r : R2} (hr : IxR X r) (ha : PE X a ta) (hb : PE X b tb) (hs : PlainIx b) : PE X (.Subscript a b pos) (tOp r ta tb) := by
  intro pins s σ H Q I h
  exact Subscript_ (binT ha hb I h fun v u s2 x y H2 I2 rx ry q => hr a b pins s2 σ H2 x y v u Q I2 rx ry q (hs _ _))
def rIxL (K : PySem.W.Frag) : R2 := fun x y H Q => ∃ p xs i v, x = .ref p ∧ y = .int i ∧ SqL K H p xs ∧ atI xs i = some v ∧ Q v H
def rIxT (K : PySem.W.Frag) : R2 := fun x y H Q => ∃ p xs i v, x = .ref p ∧ y = .int i ∧ SqT K H p xs ∧ atI xs i = some v ∧ Q v H
theorem ix_list : IxR X (rIxL X.K) := by
  intro value slice pins s σ H x y v u Q I rx ry h hs
  obtain ⟨p, xs, i, z, rfl, rfl, hq, he, q⟩ := h
  cases rx
  obtain ⟨t, rfl⟩ := ry
  obtain ⟨its, r, pl, hz⟩ := I.list hq
  obtain ⟨j, h1, h2, h3, h4, h5⟩ := atI_get he
  obtain ⟨w, ew, rw'⟩ := r.get h2
  have hl := r.length
  have hn := line63
  have fin : EP X pins σ Q w s := ⟨z, H, I, rw', q⟩
  by_cases h0 : 0 ≤ i
  · have hj : i.toNat = j := by
      rw [seqIndex_of h0 h5] at h1
      exact Option.some.inj h1
    exact item_listR pl.isList h0 (by omega) (by rw [hj]; simpa using ew) fin hs
  · have hj : (i + (its.toArray.size : Int)).toNat = j := by
      rw [seqIndex_neg (by omega) h4] at h1
      rw [List.size_toArray, ← hl]
      exact Option.some.inj h1
    exact subscriptTail_builtinR (x := w) pl.isList.typeIs slot_list_getitem.lookup
      (wpAny_getItem_list_neg (Q := fun r s' => r = w ∧ EP X pins σ Q r s') pl.isList (by omega) (by rw [List.size_toArray] <;> omega) (by omega) (by rw [hj]; simpa using ew) ⟨rfl, fin⟩) hs
theorem ix_tup : IxR X (rIxT X.K) := by
  intro value slice pins s σ H x y v u Q I rx ry h hs
  obtain ⟨p, xs, i, z, rfl, rfl, hq, he, q⟩ := h
  cases rx
  obtain ⟨t, rfl⟩ := ry
  obtain ⟨its, r, pl, hz⟩ := I.tuple hq
  obtain ⟨j, h1, h2, h3, h4, h5⟩ := atI_get he
  obtain ⟨w, ew, rw'⟩ := r.get h2
  have hl := r.length
  have hn := line63
  have fin : EP X pins σ Q w s := ⟨z, H, I, rw', q⟩
  exact subscriptTail_builtinR (x := w) pl.typeIs slot_tuple_getitem.lookup
    (getItem_tuple (j := j) (Q := fun r s' => r = w ∧ EP X pins σ Q r s') pl (by omega) (by omega) (by rw [List.size_toArray, ← hl]; exact h1) (by simpa using ew) ⟨rfl, fin⟩) hs
theorem mapSeq_set (its : List Value) (n j : Nat) (u : Value) : Obj.mapSeq (·.setIfInBounds j u) { cls := .type "list", data := .seq its.toArray n } = { cls := .type "list", data := .seq (its.set j u).toArray n } := by
  simp [Obj.mapSeq]
theorem Inv.lst {pins : List (Addr × Obj)} {σ : St} {H : Hp} {s : Shared} {p : Addr} {xs : List V} (I : Inv X pins σ H s) (h : H p = some (.lst xs)) :
    ∃ (its : List Value) (n : Nat), Vals xs its ∧ s.heap.get? p = some { cls := .type "list", data := .seq its.toArray n } ∧ xs.length ≤ sizeLine := by
  obtain ⟨z, its, n, r, e⟩ := I.hok p _ h
  exact ⟨its, n, r, e, z⟩
theorem Inv.lstUpd {pins : List (Addr × Obj)} {σ : St} {H : Hp} {s : Shared} {p : Addr} {xs ys : List V} {its its' : List Value} {n n' : Nat} {f : Obj → Obj} (I : Inv X pins σ H s) (h : H p = some (.lst xs))
    (ho : s.heap.get? p = some { cls := .type "list", data := .seq its.toArray n }) (hf : f { cls := .type "list", data := .seq its.toArray n } = { cls := .type "list", data := .seq its'.toArray n' }) (r : Vals ys its') (hz : ys.length ≤ sizeLine) (t : Nat) :
    Inv X pins σ (upd H p (.lst ys)) { s with heap := s.heap.update p f, toks := t } := by
  have e : (s.heap.update p f).get? p = some { cls := .type "list", data := .seq its'.toArray n' } := by
    rw [Heap.get?_update_self f ho (by rw [hf] <;> rfl), hf]
  refine I.write (x := p) (e := p) (by rw [h]; trivial) (.inl rfl) (fun b u hb q => (Heap.get?_update_other _ _ (Ne.symm hb)).trans q) ⟨_, e⟩ ?_
  exact ⟨hz, its', n', r, e⟩
def rSetL : V → V → V → Hp → (Hp → Prop) → Prop := fun o i v H Q => ∃ p xs k j, o = .ref p ∧ i = .int k ∧ H p = some (.lst xs) ∧ ixN xs.length k = some j ∧ Q (upd H p (.lst (xs.set j v)))
theorem set_list : PSet X rSetL := by
  intro pins s σ H o i v ov iv u Q I ro ri rv h
  obtain ⟨p, xs, k, j, rfl, rfl, hp, hj, q⟩ := h
  cases ro
  obtain ⟨t, rfl⟩ := ri
  obtain ⟨its, n, r, ho, hz⟩ := I.lst hp
  obtain ⟨h1, h2, h3, h4⟩ := ixN_seq hj
  have hl := r.length
  have hn := line63
  have I' : Inv X pins σ (upd H p (.lst (xs.set j v))) { s with heap := s.heap.update p (Obj.mapSeq (·.setIfInBounds j u)) } :=
    I.lstUpd hp ho (mapSeq_set its n j u) (r.set rv j) (by rw [List.length_set]; exact hz) s.toks
  by_cases h0 : 0 ≤ k
  · have hk : k.toNat = j := by
      rw [seqIndex_of h0 h4] at h1
      exact Option.some.inj h1
    exact PySem.W.ki_setAt ho h0 (by omega) (by rw [List.size_toArray, ← hl]; exact h4) (by rw [hk]; exact ⟨_, I', q⟩)
  · have hk : (k + (its.toArray.size : Int)).toNat = j := by
      rw [seqIndex_neg (by omega) h3] at h1
      rw [List.size_toArray, ← hl]
      exact Option.some.inj h1
    exact PySem.W.ki_setBack ho (by omega) (by rw [List.size_toArray, ← hl]; exact h3) (by omega) (by rw [hk]; exact ⟨_, I', q⟩)
theorem slice_bounds (lo hi : Option Int) (n : Nat) : (sliceBounds lo hi none n).1 = ((HT.sIx n 0 lo : Nat) : Int) ∧ (sliceBounds lo hi none n).2.1 = ((HT.sIx n n hi : Nat) : Int) ∧ (sliceBounds lo hi none n).2.2 = 1 := by
  refine ⟨?_, ?_, rfl⟩
  · cases lo with
    | none => simp [sliceBounds, HT.sIx]
    | some i =>
      simp only [sliceBounds, HT.sIx, Option.getD_none, show (1 : Int) > 0 by decide, if_true]
      by_cases h : i < 0
      · simp only [h, if_true] <;> omega
      · simp only [h, if_false] <;> omega
  · cases hi with
    | none => simp [sliceBounds, HT.sIx]
    | some i =>
      simp only [sliceBounds, HT.sIx, Option.getD_none, show (1 : Int) > 0 by decide, if_true]
      by_cases h : i < 0
      · simp only [h, if_true] <;> omega
      · simp only [h, if_false] <;> omega
theorem slicePick_cut (its : List Value) (lo hi : Option Int) : slicePick its.toArray lo hi none = ((its.drop (HT.sIx its.length 0 lo)).take (HT.sIx its.length its.length hi - HT.sIx its.length 0 lo)).toArray := by
  obtain ⟨h1, h2, h3⟩ := slice_bounds lo hi its.toArray.size
  unfold slicePick
  rw [h1, h2, h3]
  simp only [sliceRange_one, pick_run, List.size_toArray] <;> rfl
def rSlL (K : PySem.W.Frag) : V → Option Int → Option Int → Hp → VK → Prop := fun x lo hi H Q => ∃ a xs, x = .ref a ∧ SqL K H a xs ∧ ∀ p, H p = none → Q (.ref p) (upd H p (.lst (cutV xs lo hi)))
theorem sl_list : SlR X (rSlL X.K) := by
  intro pins s σ H x v vl vu lo hi sl Q I rx hs pl pu h
  obtain ⟨a, xs, rfl, hx, q⟩ := h
  cases rx
  obtain ⟨its, r, ht, hz⟩ := I.list hx
  have hlen := r.length
  refine ⟨"list", _, slot_list_getitem.lookup, ht.isList.typeIs, ?_⟩
  refine wpAny_getItem_list_slice ht.isList hs pl pu .none (by simp) ?_ (by rw [List.size_toArray] <;> omega)
  rw [slicePick_cut, ← hlen]
  refine ⟨.ref s.heap.objs.size, _, I.laid (t' := s.toks) (o := .lst (cutV xs lo hi)) (fun b ob q => Heap.get?_push_of_some _ q) (Nat.le_refl _) ?_, rfl, q _ (I.hok.fresh (Nat.le_refl _))⟩
  exact ⟨Nat.le_trans (cutV_length xs lo hi) hz, _, 0, (r.drop (HT.sIx xs.length 0 lo)).take (HT.sIx xs.length xs.length hi - HT.sIx xs.length 0 lo), Heap.get?_push_size _ rfl⟩
def flatV : V → Bool
  | .non => true
  | .bl _ => true
  | .int _ => true
  | .str _ => true
  | _ => false
def eqV : V → V → Bool
  | .non, .non => true
  | .bl a, .bl b => a == b
  | .bl a, .int b => (if a then 1 else 0) == b
  | .int a, .bl b => a == (if b then 1 else 0)
  | .int a, .int b => a == b
  | .str a, .str b => a == b
  | _, _ => false
theorem eqAt_V {A : Around} {s : Shared} {y x : V} {u v : Value} (ry : RelV y u) (rx : RelV x v) (fy : flatV y = true) (fx : flatV x = true) : SeqAt.EqAt A s u v (eqV y x) := by
  cases y with
  | non =>
    cases ry
    cases x with
    | non => cases rx; exact SeqAt.EqAt.same _
    | bl b => cases rx; exact SeqAt.EqAt.none_bool b
    | int b => obtain ⟨t, rfl⟩ := rx; exact SeqAt.EqAt.none_int b t
    | str b => obtain ⟨t, rfl⟩ := rx; exact SeqAt.EqAt.none_str b t
    | _ => exact absurd (show false = true from fx) Bool.false_ne_true
  | bl a =>
    cases ry
    cases x with
    | non => cases rx; exact SeqAt.EqAt.bool_none a
    | bl b => cases rx; exact SeqAt.EqAt.bool_bool a b
    | int b => obtain ⟨t, rfl⟩ := rx; exact SeqAt.EqAt.bool_int a b t
    | str b => obtain ⟨t, rfl⟩ := rx; exact SeqAt.EqAt.bool_str a b t
    | _ => exact absurd (show false = true from fx) Bool.false_ne_true
  | int a =>
    obtain ⟨t', rfl⟩ := ry
    cases x with
    | non => cases rx; exact SeqAt.EqAt.int_none a t'
    | bl b => cases rx; exact SeqAt.EqAt.int_bool a t' b
    | int b => obtain ⟨t, rfl⟩ := rx; exact SeqAt.EqAt.int_int a t' b t
    | str b => obtain ⟨t, rfl⟩ := rx; exact SeqAt.EqAt.int_str a t' b t
    | _ => exact absurd (show false = true from fx) Bool.false_ne_true
  | str a =>
    obtain ⟨t', rfl⟩ := ry
    cases x with
    | non => cases rx; exact SeqAt.EqAt.str_none a t'
    | bl b => cases rx; exact SeqAt.EqAt.str_bool a t' b
    | int b => obtain ⟨t, rfl⟩ := rx; exact SeqAt.EqAt.str_int a t' b t
    | str b => obtain ⟨t, rfl⟩ := rx; exact SeqAt.EqAt.str_str a t' b t
    | _ => exact absurd (show false = true from fx) Bool.false_ne_true
  | _ => exact absurd (show false = true from fy) Bool.false_ne_true
def eqU (x : V) (u : Value) : Bool := match u with
  | .none => eqV .non x
  | .bool b => eqV (.bl b) x
  | .int i _ => eqV (.int i) x
  | .str z _ => eqV (.str z) x
  | _ => false
theorem eqU_of {x y : V} {u : Value} (r : RelV y u) (f : flatV y = true) : eqU x u = eqV y x := by
  cases y with
  | non => cases r; rfl
  | bl b => cases r; rfl
  | int i => obtain ⟨t, rfl⟩ := r; rfl
  | str z => obtain ⟨t, rfl⟩ := r; rfl
  | _ => exact absurd (show false = true from f) Bool.false_ne_true
theorem any_eqU {x : V} : ∀ {xs : List V} {us : List Value}, Vals xs us → xs.all flatV = true → us.any (eqU x) = xs.any fun y => eqV y x
  | _, _, .nil, _ => rfl
  | y :: xs, u :: us, .cons r t, f => by
    rw [List.all_cons, Bool.and_eq_true] at f
    rw [List.any_cons, List.any_cons, eqU_of r f.1, any_eqU t f.2]
theorem mem_eqAt {A : Around} {s : Shared} {x : V} {v : Value} (rx : RelV x v) (fx : flatV x = true) : ∀ {xs : List V} {us : List Value}, Vals xs us → xs.all flatV = true → ∀ u ∈ us, SeqAt.EqAt A s u v (eqU x u)
  | _, _, .nil, _ => fun u hu => by cases hu
  | y :: xs, u :: us, .cons r t, f => fun u' hu => by
    rw [List.all_cons, Bool.and_eq_true] at f
    rcases List.mem_cons.mp hu with rfl | hu
    · rw [eqU_of r f.1]; exact eqAt_V r rx f.1 fx
    · exact mem_eqAt rx fx t f.2 u' hu
def inV (x : V) (xs : List V) : Bool := xs.any fun y => eqV y x
def rIn (K : PySem.W.Frag) (neg : Bool) : R2 := fun x y H Q => ∃ p xs, y = .ref p ∧ (SqL K H p xs ∨ SqT K H p xs) ∧ flatV x = true ∧ xs.all flatV = true ∧ Q (.bl (if neg then !inV x xs else inV x xs)) H
theorem op_in_seq : OpR X (compareOp .In) (rIn X.K false) := by
  intro pins s σ H x y v u Q I rx ry h
  obtain ⟨p, xs, rfl, hq, fx, fs, q⟩ := h
  cases ry
  rcases hq with hq | hq
  · obtain ⟨its, r, pl, hz⟩ := I.list hq
    refine SeqAt.in_listAt (eqU x) pl.isList (fun w hw => mem_eqAt rx fx r fs w (by simpa using hw)) ⟨.bl _, H, I, rfl, ?_⟩
    rw [show its.toArray.any (eqU x) = its.any (eqU x) by simp, any_eqU r fs]
    exact q
  · obtain ⟨its, r, pl, hz⟩ := I.tuple hq
    refine SeqAt.in_tupleAt (eqU x) pl (fun w hw => mem_eqAt rx fx r fs w (by simpa using hw)) ⟨.bl _, H, I, rfl, ?_⟩
    rw [show its.toArray.any (eqU x) = its.any (eqU x) by simp, any_eqU r fs]
    exact q
theorem call_len_seq : CallR X (.builtin "len") (fun xs H Q => ∃ p ys, xs = [.ref p] ∧ (SqL X.K H p ys ∨ SqT X.K H p ys) ∧ Q (.int ys.length) H) := by
  intro pins s σ H xs us Q I r h
  obtain ⟨p, ys, rfl, hq, q⟩ := h
  obtain ⟨u, rfl, rx⟩ := vals1 r
  cases rx
  have hn := line63
  rcases hq with hq | hq
  · obtain ⟨its, r', pl, hz⟩ := I.list hq
    have hlen := r'.length
    exact Calls.call_len_list pl.isList (by simp only [List.size_toArray] <;> omega) ⟨.int ys.length, H, I.tok _, ⟨s.toks + 1, by rw [List.size_toArray, hlen]⟩, q⟩
  · obtain ⟨its, r', pl, hz⟩ := I.tuple hq
    have hlen := r'.length
    exact len_tuple pl (by simp only [List.size_toArray] <;> omega) ⟨.int ys.length, H, I.tok _, ⟨s.toks + 1, by rw [List.size_toArray, hlen]⟩, q⟩
theorem call_list_of : CallR X (.type "list") (fun xs H Q => ∃ p ys, xs = [.ref p] ∧ (SqL X.K H p ys ∨ SqT X.K H p ys) ∧ ∀ l, H l = none → Q (.ref l) (upd H l (.lst ys))) := by
  intro pins s σ H xs us Q I r h
  obtain ⟨p, ys, rfl, hq, q⟩ := h
  obtain ⟨u, rfl, rx⟩ := vals1 r
  cases rx
  have fin : ∀ (its : List Value), Vals ys its → ys.length ≤ sizeLine → ∀ (h' : Heap) (c' : Nat), (∀ b o', s.heap.get? b = some o' → h'.get? b = some o') →
      h'.get? s.heap.objs.size = some { cls := .type "list", dict := none, data := .seq its.toArray c', slots := #[] } → EP X pins σ Q (.ref s.heap.objs.size) { s with heap := h' } := fun its r' hz h' c' kp e =>
    ⟨.ref s.heap.objs.size, _, I.laid (t' := s.toks) kp (Nat.le_refl _) (show ObjOk X.prog X.w _ h' _ (.lst ys) from ⟨hz, its, c', r', e⟩), rfl, q _ (I.hok.fresh (Nat.le_refl _))⟩
  rcases hq with hq | hq
  · obtain ⟨its, r', pl, hz⟩ := I.list hq
    have hlen := r'.length
    obtain ⟨o, ho, hc, n, hd⟩ := pl.isList
    exact call_list_seq p (.inl rfl) ho hc hd (fun h' c' kp e => fin its r' hz h' c' kp e) (by simp only [List.size_toArray] <;> omega)
  · obtain ⟨its, r', pl, hz⟩ := I.tuple hq
    have hlen := r'.length
    obtain ⟨o, ho, hc, n, hd⟩ := pl
    exact call_list_seq p (.inr rfl) ho hc hd (fun h' c' kp e => fin its r' hz h' c' kp e) (by simp only [List.size_toArray] <;> omega)
theorem call_tuple_of : CallR X (.type "tuple") (fun xs H Q => ∃ p ys, xs = [.ref p] ∧ ((SqL X.K H p ys ∧ ∀ l, H l = none → Q (.ref l) (upd H l (.tup ys))) ∨ (SqT X.K H p ys ∧ Q (.ref p) H))) := by
  intro pins s σ H xs us Q I r h
  obtain ⟨p, ys, rfl, h⟩ := h
  obtain ⟨u, rfl, rx⟩ := vals1 r
  cases rx
  rcases h with ⟨hq, q⟩ | ⟨hq, q⟩
  · obtain ⟨its, r', pl, hz⟩ := I.list hq
    have hlen := r'.length
    refine call_tuple_list pl.isList (fun h' kp => ?_) (by simp only [List.size_toArray] <;> omega)
    have I1 : Inv X pins σ H { s with heap := h' } := I.kept (t' := s.toks) kp
    have I2 : Inv X pins σ (upd H h'.objs.size (.tup ys)) { s with heap := h'.push { cls := .type "tuple", data := .seq its.toArray } } :=
      I1.laid (t' := s.toks) (fun b o e => Heap.get?_push_of_some _ e) (Nat.le_refl _) (show ObjOk X.prog X.w _ _ _ (.tup ys) from ⟨hz, its, r', IsTup.new _ _⟩)
    exact ⟨.ref h'.objs.size, _, I2, rfl, q _ (I1.hok.fresh (Nat.le_refl _))⟩
  · obtain ⟨its, r', pl, hz⟩ := I.tuple hq
    exact call_tuple_same pl ⟨.ref p, H, I, rfl, q⟩
def tyV (K : PySem.W.Frag) (T : String) (x : V) (H : Hp) : Prop := match x with
  | .str _ => T = "str"
  | .int _ => T = "int"
  | .ref p => (T = "list" ∧ ∃ xs, SqL K H p xs) ∨ (T = "tuple" ∧ ∃ o, K.lookup p = some o ∧ o.cls = .type "tuple" ∧ o.dict = none) ∨
      (T = "dict" ∧ ((∃ kvs, H p = some (.dK kvs)) ∨ ∃ kvs, H p = some (.dT kvs))) ∨ (T = "set" ∧ ∃ S n, H p = some (.set S n))
  | _ => False
theorem tyV_is {pins : List (Addr × Obj)} {σ : St} {H : Hp} {s : Shared} {T : String} {x : V} {v : Value} (I : Inv X pins σ H s) (r : RelV x v) (ty : tyV X.K T x H) :
    s.TypeIs v T ∧ ∀ a, v = .ref a → ∃ ob, s.heap.get? a = some ob ∧ ob.dict = none := by
  cases x with
  | str z =>
    obtain ⟨t, rfl⟩ := r
    cases (show T = "str" from ty)
    exact ⟨typeIs_str s z t, fun _ e => nomatch e⟩
  | int i =>
    obtain ⟨t, rfl⟩ := r
    cases (show T = "int" from ty)
    exact ⟨typeIs_int s i t, fun _ e => nomatch e⟩
  | ref p =>
    cases r
    rcases ty with ⟨rfl, xs, hq⟩ | ⟨rfl, o, hk, hc, hd⟩ | ⟨rfl, hk⟩ | ⟨rfl, S, n, hk⟩
    · obtain ⟨its, _, pl, _⟩ := I.list hq
      refine ⟨pl.isList.typeIs, fun a e => ?_⟩
      cases e
      obtain ⟨o, n, e, c, hd, _⟩ := pl
      exact ⟨o, e, hd⟩
    · refine ⟨⟨o, I.kIn p o hk, hc⟩, fun a e => ?_⟩
      cases e
      exact ⟨o, I.kIn _ o hk, hd⟩
    · have z : ∃ o, s.heap.get? p = some o ∧ o.ExactDict := by
        rcases hk with ⟨kvs, hk⟩ | ⟨kvs, hk⟩
        · obtain ⟨_, _, _, _, o, _, _, e, ex, _⟩ := I.hok p _ hk
          exact ⟨o, e, ex⟩
        · obtain ⟨_, _, _, _, o, _, _, e, ex, _⟩ := I.hok p _ hk
          exact ⟨o, e, ex⟩
      obtain ⟨o, e, ex⟩ := z
      refine ⟨⟨o, e, ex.1⟩, fun a e2 => ?_⟩
      cases e2
      exact ⟨o, e, ex.2.1⟩
    · obtain ⟨o, _, _, _, e, ex, _⟩ := I.hok p _ hk
      refine ⟨⟨o, e, ex.1⟩, fun a e2 => ?_⟩
      cases e2
      exact ⟨o, e, ex.2.1⟩
  | _ => exact False.elim ty
def tBM0 (K : PySem.W.Frag) (T : String) (r : V → List V → Hp → VK → Prop) (to : TE) : TE := fun σ H Q => to σ H fun x H1 => tyV K T x H1 ∧ r x [] H1 Q
def tBM (K : PySem.W.Frag) (T : String) (r : V → List V → Hp → VK → Prop) (to : TE) (t : TA) : TE := fun σ H Q => to σ H fun x H1 => tyV K T x H1 ∧ t σ H1 fun xs H2 => r x xs H2 Q
variable {o e : Expr} {es : List Expr} {to : TE} {t : TA} {name : Str} {apos cpos : Pos} {T id : String} {r : V → List V → Hp → VK → Prop}
theorem pe_bm (pa : PlainAttrs T) (slot : Slot T name id) (hty : typeOf (.builtin id) = pure (.type "method_descriptor")) (hm : MtR X id r) (ho : PE X o to) (ha : PA X (e :: es) t)
    (hbase : attributeBase o name X.env (eval o X.env) = eval o X.env := by rfl)
    (hfew : ((backTo cpos (starEach (e :: es) X.env)).all (fun x => !x.1) && (backToKw cpos (keywordEach [] X.env)).all (fun x => x.1.isSome)
      && decide ((e :: es).length + ([] : List Keyword).length + (if ([] : List Keyword).isEmpty then 0 else 1) < 30)) = true := by rfl)
    (hline : (apos.endLine == cpos.line) = true := by rfl) (hs : starEach (e :: es) X.env = (false, eval e X.env) :: starEach es X.env := by rfl) (hplain : (backTo cpos (starEach es X.env)).any (·.1) = false := by rfl) :
    PE X (.Call (.Attribute o name apos) (e :: es) [] cpos) (tBM X.K T r to t) := by
  intro pins s σ H Q I h
  refine wpAny_Call_method_late hbase hfew hline rfl (thn (ho pins s σ H _ I h) fun v s1 ⟨x, H1, I1, r1, ty, q1⟩ => ?_)
  obtain ⟨h1, h2⟩ := tyV_is I1 r1 ty
  refine ⟨T, id, pa, slot, hty, h1, h2, ?_⟩
  have hA := ha cpos pins s1 σ H1 _ I1 q1
  rw [hs] at hA ⊢
  refine Calls.callWith_builtin (by show (false || (backTo cpos (starEach es X.env)).any (·.1)) = false; rw [hplain] <;> rfl) (Calls.evalArgs_plain ?_)
  exact thn hA fun us s2 ⟨vs, H2, I2, r2, q2⟩ => hm pins s2 σ H2 x vs v us Q I2 r1 r2 q2
/- xs.append(e), list.index on a module's tuple .. are MtR facts of 06m -/
end
end L2
namespace L2
open PySem PySem.Spec PyProof.Rows
def MtM (X : Cx) (id : String) (r : V → List V → Hp → VK → Prop) : Prop :=
  ∀ (pins : List (Addr × Obj)) (s : Shared) (σ : St) (H : Hp) (x : V) (xs : List V) (v : Value) (us : List Value) (Q : VK), Inv X pins σ H s → RelV x v → Vals xs us → r x xs H Q →
    wpAny (model X.prog X.w) X.A (call (.builtin id) (v :: us)) (EP X pins σ Q) X.xe s
theorem Vals.one : ∀ {x : V} {us : List Value}, Vals [x] us → ∃ u, us = [u] ∧ RelV x u
  | _, _, .cons r .nil => ⟨_, rfl, r⟩
theorem Vals.two : ∀ {x y : V} {us : List Value}, Vals [x, y] us → ∃ u v, us = [u, v] ∧ RelV x u ∧ RelV y v
  | _, _, _, .cons r (.cons q .nil) => ⟨_, _, rfl, r, q⟩
theorem Vals.zero : ∀ {us : List Value}, Vals [] us → us = []
  | _, .nil => rfl
theorem Vals.dropLast {xs : List V} {us : List Value} (h : Vals xs us) : Vals xs.dropLast us.dropLast := by
  induction h with
  | nil => exact .nil
  | cons r t ih =>
    cases t with
    | nil => exact .nil
    | cons q t' => exact .cons r ih
theorem Vals.reverse {xs : List V} {us : List Value} (h : Vals xs us) : Vals xs.reverse us.reverse := by
  induction h with
  | nil => exact .nil
  | cons r t ih => rw [List.reverse_cons, List.reverse_cons]; exact Vals.append ih (.cons r .nil)
section
variable {X : Cx} {pins : List (Addr × Obj)} {σ : St} {H : Hp} {s : Shared} {l b : Addr} {xs ys zs : List V}
theorem Inv.lset {its its' : List Value} {n : Nat} {f : Array Value → Array Value} {t' : Nat} (I : Inv X pins σ H s) (hH : H l = some (.lst xs))
    (e : s.heap.get? l = some { cls := .type "list", data := .seq its.toArray n }) (hf : f its.toArray = its'.toArray) (hv : Vals ys its') (hz : ys.length ≤ sizeLine) :
    Inv X pins σ (upd H l (.lst ys)) { s with heap := s.heap.update l (Obj.mapSeq f), toks := t' } := by
  have q := PySem.IsL.update e f
  rw [hf] at q
  refine I.write (x := l) (e := l) (by rw [hH]; exact trivial) (.inl rfl) (fun b' u hb hu => (Heap.get?_update_other s.heap (Obj.mapSeq f) (Ne.symm hb)).trans hu) ⟨_, q⟩ ?_
  exact ⟨hz, its', _, hv, q⟩
theorem Inv.lnew {its : List Value} {t' : Nat} (I : Inv X pins σ H s) (hv : Vals ys its) (hz : ys.length ≤ sizeLine) :
    Inv X pins σ (upd H s.heap.objs.size (.lst ys)) { s with heap := s.heap.push { cls := .type "list", data := .seq its.toArray }, toks := t' } :=
  I.laid (fun _ _ q => Heap.get?_push_of_some _ q) (Nat.le_refl _) ⟨hz, its, 0, hv, Heap.get?_push_size _ rfl⟩
theorem Inv.fresh (I : Inv X pins σ H s) : H s.heap.objs.size = none := I.hok.fresh (Nat.le_refl _)
theorem Inv.lstM (I : Inv X pins σ H s) (hH : H l = some (.lst xs)) : xs.length ≤ sizeLine ∧ ∃ (its : List Value) (n : Nat), Vals xs its ∧ xs.length = its.length ∧ s.heap.get? l = some { cls := .type "list", data := .seq its.toArray n } := by
  obtain ⟨z, its, n, r, e⟩ := I.hok l _ hH
  exact ⟨z, its, n, r, r.length, e⟩
end
section
variable {X : Cx}
def rAppend : V → List V → Hp → VK → Prop := fun x vs H Q => ∃ l xs y, x = .ref l ∧ vs = [y] ∧ H l = some (.lst xs) ∧ xs.length < sizeLine ∧ Q .non (upd H l (.lst (xs ++ [y])))
theorem mt_append : MtM X "list.append" rAppend := by
  intro pins s σ H x vs v us Q I rx rv h
  obtain ⟨l, xs, y, rfl, rfl, hH, hz, q⟩ := h
  cases rx
  obtain ⟨u, rfl, ru⟩ := rv.one
  obtain ⟨z, its, n, r, hl, e⟩ := I.lstM hH
  refine call_meets F.slot_list_append ⟨_, e, rfl⟩ F.entry_list_append (F.args_list_append_2 _ _) (PySem.list_append l its.toArray n u (by rw [List.size_toArray]; omega)) ⟨e, ?_⟩
  refine ⟨.non, _, I.lset (its' := its ++ [u]) hH e (by simp) (r.append (.cons ru .nil)) ?_, rfl, q⟩
  rw [List.length_append, List.length_singleton]
  omega
def rCat : R2 := fun x y H Q => ∃ l b xs zs, x = .ref l ∧ y = .ref b ∧ H l = some (.lst xs) ∧ H b = some (.lst zs) ∧ xs.length + zs.length ≤ sizeLine ∧ ∀ p, H p = none → Q (.ref p) (upd H p (.lst (xs ++ zs)))
theorem op_cat : OpR X (binaryOp .Add) rCat := by
  intro pins s σ H x y v u Q I rx ry h
  obtain ⟨l, b, xs, zs, rfl, rfl, hH, hB, hz, q⟩ := h
  cases rx
  cases ry
  obtain ⟨z, its, n, r, hl, e⟩ := I.lstM hH
  obtain ⟨z2, its2, n2, r2, hl2, e2⟩ := I.lstM hB
  refine PySem.P.add_list e e2 ?_ (by rw [List.size_toArray, List.size_toArray]; omega)
  have ea : its.toArray ++ its2.toArray = (its ++ its2).toArray := by simp
  rw [ea]
  exact ⟨.ref _, _, I.lnew (t' := s.toks) (r.append r2) (by rw [List.length_append]; omega), rfl, q _ I.fresh⟩
end
end L2
namespace Att
open PySem PySem.W PySem.Calls PyProof.Rows
theorem ints_of_wellAll {P : Params} {h : Heap} : ∀ (ns : List Int) (vs : List Value), WellAll P h vs (ns.map WData.int) → IntsAre vs ns := by
  intro ns
  induction ns with
  | nil =>
    intro vs w
    rw [List.map_nil] at w
    cases w
    exact .nil
  | cons n ns ih =>
    intro vs w
    rw [List.map_cons] at w
    cases w with
    | cons a b =>
      cases a
      exact .cons _ _ (ih _ b)
theorem script_of {l : OpenLaw} {n : Nat} (hn : l.most = some n) {P : Params} {h : Heap} {args : List WData} {vals : List Value}
    (hpre : l.row.toRowW.claim.pre args = true) (hwl : WellAll P h vals args) :
    ∃ a vs ns, vals = [Value.ref a] ∧ args = [WData.list (ns.map WData.int)] ∧ h.get? a = some { cls := .type "list", data := .seq vs.toArray } ∧ IntsAre vs ns ∧ ns.length ≤ n := by
  have hsh : WShape.hasAll [] args [.list .int] = true := (pre_splitW hpre).1
  have hc : l.pre.holds [] { args := args } = true := (pre_splitW hpre).2
  obtain ⟨d, r, rfl, h1, h2⟩ := hasAllW_cons hsh
  obtain rfl := hasAllW_nil h2
  obtain ⟨xs, rfl, h3⟩ := hasW_list h1
  obtain ⟨ns, rfl⟩ := items_int h3
  have hlen : ns.length ≤ n := by
    unfold OpenLaw.pre at hc
    have h4 : (WTm.not (.lt (.lit (.int (n : Int))) (.len (.arg 0)))).holds [] { args := [.list (ns.map .int)] } = true := by
      have h4 := (holds_andW hc).1
      rw [hn] at h4
      exact h4
    have h5 := condW_of h4 (w_not (w_lt w_lit (w_len_list (w_arg rfl))))
    rw [List.length_map] at h5
    refine Nat.le_of_not_lt fun q => ?_
    have q' : (n : Int) < ((ns.length : Nat) : Int) := by omega
    first
      | (rw [decide_eq_true q'] at h5; exact absurd h5 (by decide))
      | (simp at h5; omega)
  cases hwl with
  | cons w1 w2 =>
    cases w2
    cases w1 with
    | list ho hall => exact ⟨_, _, ns, rfl, rfl, ho, ints_of_wellAll ns _ hall, hlen⟩
theorem post_true (l : OpenLaw) (args : List WData) : l.row.toRowW.claim.post args (.bool true) args = true :=
  postW_of (r := l.row.toRowW) (X := (true == true))
    (show WShape.has [] (.bool true) .bool = true by first | rfl | decide | simp [WShape.has, WShape.arms, WShape.armsAll])
    (show (WTm.eq .res (.lit (.bool true))).value [] { args := args, res := some (.bool true), after := args } = some (.bool (true == true)) from w_eq_bool (w_res rfl) w_lit) rfl
theorem attach_call {l : OpenLaw} {n : Nat} {q : Program} {loose : List Str} {XP : (Str → Option Value) → Heap → Prop} {YP : World → Heap → Prop} {d : DefRec}
    (hn : l.most = some n) (hdf : d.params.defaults = [])
    (call : ∀ (w : World) (s₀ s₁ : Shared) (mg mb : Str → Option Value) (fa : Addr) (o : Obj) (pm cd doc : Value) (a : Addr) (vs : List Value) (ns : List Int),
      Ground q loose [] XP w s₀ mg mb s₁.heap → YP w s₁.heap →
      s₁.heap.get? fa = some o → o.data = .func (docDef d.name d.params d.body d.scope pm cd doc) → s₁.heap.CodeRec cd d.name → mg d.name = some (.ref fa) →
      s₁.heap.get? a = some { cls := .type "list", data := .seq vs.toArray } → IntsAre vs ns → ns.length ≤ n → s₁.gens = #[] →
      codeAny (model l.prog w) callerA (.call (.ref fa) ⟨[.ref a], []⟩) (fun r s' => r = .ok (.ret (.bool true)) ∧ OldK s₁.heap s'.heap ∧ s'.os = s₁.os ∧ AllBare s'.gens) s₁) :
    WalkO q loose XP YP l.row.toRowW d [] (fun f vs => PySem.call f vs) := by
  intro w s₀ s₁ mg mb G Y fa o pm cd doc dV kV ho hd hcd hD hmg hg args vals as hpre hlay hrd hwl hlo
  obtain rfl : dV = .none := Dflts.none hD hdf
  obtain rfl : kV = .none := Dflts.noKw hD
  obtain ⟨a, vs, ns, rfl, rfl, hobj, hints, hlen⟩ := script_of hn hpre hwl
  refine enter_call (codeAny_mono (call w s₀ s₁ mg mb fa o pm cd doc a vs ns G Y ho (fd_plain hd) hcd hmg hobj hints hlen hg) fun r s' hq => ?_)
  obtain ⟨rfl, h2, h3, h4⟩ := hq
  exact ⟨.inl ⟨.bool true, .bool true, [], rfl, fun _ => rfl, .bool true, post_true l _, fun _ => ⟨List.Pairwise.nil, fun _ hm => (nomatch hm)⟩⟩, h2, h3, h4⟩
end Att
namespace L2
open PySem PySem.Spec PyProof.Rows
theorem vals_ints : ∀ {vs : List Value} {ns : List Int}, IntsAre vs ns → Vals (ns.map V.int) vs
  | _, _, .nil => .nil
  | _, _, .cons n t h => .cons ⟨t, rfl⟩ (vals_ints h)
def Only (H : Hp) : Prop := ∀ b, H b = none ∨ ∃ o xs, H b = some (.frz o (.lst xs))
theorem law_call {P : Program} {w : World} {K : PySem.W.Frag} {mg mb : Str → Option Value} {CX : CXT} {k : Nat} {fa a : Addr} {fd : FuncData} {x : Str} {sp : Sp} {s₁ : Shared} {vs : List Value} {ns : List Int}
    (KX : K.In s₁.heap) (hns : s₁.heap.Ns mainGlobals mg) (hb : s₁.heap.Ns builtinsNs mb) (hbb : ∀ x : Str, x ≠ "__name__" → mb x = bootBuiltins x) (hlim : s₁.heap.NoLimit) (hg : s₁.gens = #[])
    (ha : s₁.heap.get? a = some { cls := .type "list", data := .seq vs.toArray }) (hi : IntsAre vs ns) (hl : ns.length ≤ sizeLine) (hr : Room k callerA)
    (F : ∀ base : Heap, K.In base → base.Ns mainGlobals mg → FnOk P w K mg base CX k fa fd [x] sp) (hbind : ∀ (s : Shared) (u : Value), BindsTo s fd ⟨[u], []⟩ [(x, u)])
    (hsp : ∀ H : Hp, Only H → SqL K H a (ns.map V.int) → sp [.ref a] H (fun v _ => v = .bl true) fun _ _ _ => False)
    (hCX : ∀ H e s', CX [] H s₁ (fun _ _ _ => False) e s' → False) :
    codeAny (model P w) callerA (.call (.ref fa) ⟨[.ref a], []⟩) (fun r s' => r = .ok (.ret (.bool true)) ∧ OldK s₁.heap s'.heap ∧ s'.os = s₁.os ∧ AllBare s'.gens) s₁ := by
  have rv := vals_ints hi
  have lenV := hi.length
  -- from an abstract heap in which nothing but the script may be tracked
  have core : ∀ H : Hp, Only H → SqL K H a (ns.map V.int) → HOk P w H s₁.heap → (∀ b, H b ≠ none → b = a) → (H a ≠ none → K.lookup a = none) →
      codeAny (model P w) callerA (.call (.ref fa) ⟨[.ref a], []⟩) (fun r s' => r = .ok (.ret (.bool true)) ∧ OldK s₁.heap s'.heap ∧ s'.os = s₁.os ∧ AllBare s'.gens) s₁ := by
    intro H hO hS hok hA hK
    have base_of : ∀ {b : Addr} {o : Obj}, s₁.heap.get? b = some o → H b = none → (hidT s₁.heap H).get? b = some o := fun e n => hidT_get e n
    have noA : ∀ {b : Addr} {o : Obj} {es : Array DictEntry} {ep : Nat}, s₁.heap.get? b = some o → o.data = .dict es ep → H b = none := fun {b o es ep} e d => by
      cases q : H b with
      | none => rfl
      | some u =>
        have e' : b = a := hA b (by rw [q]; simp)
        subst e'
        rw [ha] at e; cases e
        have d' : Data.seq vs.toArray _ = Data.dict es ep := d
        cases d'
    have nsK : ∀ {b : Addr} {m : Str → Option Value}, s₁.heap.Ns b m → (hidT s₁.heap H).Ns b m := fun {b m} ⟨o, es, ep, e, d, r⟩ => ⟨o, es, ep, base_of e (noA e d), d, r⟩
    have hKb : K.In (hidT s₁.heap H) := fun b o e => base_of (KX b o e) (by
      cases q : H b with
      | none => rfl
      | some u =>
        have e' : b = a := hA b (by rw [q]; simp)
        subst e'
        rw [hK (by rw [q]; simp)] at e; cases e)
    have hM : Mod K mg (hidT s₁.heap H) := ⟨hKb, nsK hns, ⟨mb, nsK hb, hbb⟩, let ⟨mc, h1, h2⟩ := hlim; ⟨mc, nsK h1, h2⟩⟩
    have e0 : Env0 P w K mg (hidT s₁.heap H) callerA [] s₁ H := ⟨rfl, hM, fun b o e => of_hidT e, Nat.le_of_eq (hidT_size _ _), trivial, fun b hb => absurd (show b ∈ ([] : List Addr) from hb) (by simp), hok, .of_eq hg⟩
    refine codeAny_mono ((F _ hKb (nsK hns)).run callerA [] s₁ H ⟨[.ref a], []⟩ [.ref a] [.ref a] _ _ hr e0 (hbind s₁ (.ref a)) (.cons rfl .nil) (hsp H hO hS)) fun r s' h => ?_
    cases r with
    | error e => exact (hCX H e s' h).elim
    | ok fl =>
      cases fl with
      | next => exact False.elim h
      | brk => exact False.elim h
      | cont => exact False.elim h
      | ret u =>
        obtain ⟨v, H', os, bare, un, hok', r', q⟩ := h
        have q' : v = .bl true := q
        subst q'
        obtain rfl : u = Value.bool true := r'
        refine ⟨rfl, OldK.of_keep fun b o e => ?_, os, bare⟩
        cases q : H b with
        | none => exact un.keep b o e q (by intro z; exact absurd (show b ∈ ([] : List Addr) from z) (by simp)) (by simp)
        | some u =>
          rcases hO b with z | ⟨ob, xs, z⟩
          · rw [q] at z; cases z
          · have z2 := un.frzs b ob _ z
            obtain ⟨e1, _⟩ := hok b _ z
            obtain ⟨e2, _⟩ := hok' b _ z2
            rw [e] at e1; cases e1
            exact e2
  cases hk : K.lookup a with
  | some o =>
    -- the script is one of the module's own objects
    have e := KX a o hk
    rw [ha] at e
    cases e
    refine core (fun _ => none) (fun _ => .inl rfl) (.inr ⟨_, vs.toArray, _, hk, rfl, rfl, rfl, by rw [List.size_toArray, lenV]; exact hl, by simpa using rv⟩) (fun b u z => by have z' : (none : Option HO) = some u := z; cases z') (fun b z => absurd rfl z) fun z => absurd rfl z
  | none =>
    refine core (fun b => if b = a then some (.frz { cls := .type "list", data := .seq vs.toArray } (.lst (ns.map V.int))) else none) (fun b => ?_) (.inl (.inr ⟨{ cls := .type "list", data := .seq vs.toArray }, if_pos rfl⟩)) (fun b u z => ?_) (fun b z => ?_) fun _ => hk
    · by_cases hb : b = a
      · exact .inr ⟨_, _, if_pos hb⟩
      · exact .inl (if_neg hb)
    · by_cases hb : b = a
      · have z' := (if_pos hb).symm.trans z
        cases z'
        subst hb
        exact ⟨ha, by rw [List.length_map]; exact hl, vs, _, rv, ha⟩
      · have z' := (if_neg hb).symm.trans z
        cases z'
    · by_cases hb : b = a
      · exact hb
      · exact absurd (if_neg hb) z
end L2
namespace L2
open PySem PySem.Spec PyProof.Rows
theorem walk_of {l : PySem.W.OpenLaw} {n k : Nat} {q : Program} {loose : List Str} {XP : (Str → Option Value) → Heap → Prop} {YP : World → Heap → Prop} {d : DefRec} {K : Params → PySem.W.Frag} {CX : World → CXT} {sp : World → Sp} {x : Str}
    (hn : l.most = some n) (hn2 : n ≤ sizeLine) (hdf : d.params.defaults = []) (hr : Room k callerA)
    (hY : ∀ (w : World) (h : Heap), YP w h → (K w.params).In h)
    (F : ∀ (w : World) (mg : Str → Option Value) (fa : Addr) (h : Heap), (K w.params).In h → h.Ns mainGlobals mg → mg d.name = some (.ref fa) →
      ∃ fd : FuncData, (∀ (s : Shared) (u : Value), BindsTo s fd ⟨[u], []⟩ [(x, u)]) ∧
        ∀ base : Heap, (K w.params).In base → base.Ns mainGlobals mg → FnOk l.prog w (K w.params) mg base (CX w) k fa fd [x] (sp w))
    (hsp : ∀ (w : World) (H : Hp) (a : Addr) (ns : List Int), ns.length ≤ n → Only H → SqL (K w.params) H a (ns.map V.int) → sp w [.ref a] H (fun v _ => v = .bl true) fun _ _ _ => False)
    (hCX : ∀ (w : World) (H : Hp) (s : Shared) (e : Value) (s' : Shared), CX w [] H s (fun _ _ _ => False) e s' → False) :
    PySem.W.WalkO q loose XP YP l.row.toRowW d [] (fun f vs => PySem.call f vs) := by
  refine Att.attach_call hn hdf fun w s₀ s₁ mg mb fa o pm cd doc a vs ns G Y ho hd hcd hmg hobj hints hlen hg => ?_
  have KX := hY w _ Y
  obtain ⟨fd, hb, hF⟩ := F w mg fa _ KX G.T.g hmg
  exact law_call KX G.T.g G.T.b G.T.builtins G.T.nolimit hg hobj hints (Nat.le_trans hlen hn2) hr hF hb (fun H hO hS => hsp w H a ns hlen hO hS) fun H e s' => hCX w H s₁ e s'
end L2
/- THE LAST THEOREM (shape; LID, My.* are yours):
   My.Adr: a structure of the addresses that your layer names (classes, functions); My.Txt K t: a structure (Prop) of the equations over K;
   My.txt_mk : {K} {implicit addresses ..} (e1 : nsIn K mainGlobals "law" = some (some (.ref f))) (e2 : K.lookup f = some ⟨oc, od, .func (fnOf "law" "law" params body scope dV kV doc pm an cdv ct), sl⟩) (e3 : codeIn K cdv "law" = true) .. : ∃ t, My.Txt K t
set_option maxRecDepth 100000 in
set_option maxHeartbeats 0 in
theorem PySem.Challenge.cw_LID_holds : PySem.Challenge.rw_LID.Holds := by
  w_on; o_law; k_head; (case hw => w_witness2)
  k_fill
  refine L2.walk_of (l := PySem.Challenge.rw_LID) (n := 63) (k := 40) (x := "script") (CX := fun w => ..) (sp := fun _ => My.sp_law) rfl (by decide) rfl ⟨rfl, by decide, by decide⟩ (fun w h Y => PySem.W.kIn_of Y) ?F ?S ?C
  case F =>
    intro w mg fa h KX G hmg
    have T : ∃ t, My.Txt (L2.KOf KX) t := by
      dsimp only [L2.KOf]                          -- K must stand as «<heap const> w.params» for k_is
      refine' My.txt_mk ?e1 ?e2 ?e3 ..
      (case e1 => PySem.W.k_is)                    -- in the order: a name -> its address -> its object -> its parts
      (case e2 => PySem.W.k_is)
      ..
    obtain ⟨t, T⟩ := T
    have e0 := hmg.symm.trans (PySem.W.mg_of KX G T.law)
    cases e0                                       -- fa is the law's own address
    exact ⟨_, fun s u => .of_eq rfl, fun base kb nb => My.law_fn T kb nb⟩     -- if «.of_eq rfl» comes too early: refine' ⟨_, ?b, fun base kb nb => My.law_fn T kb nb⟩; exact fun s u => .of_eq rfl
  case S => exact fun w H a ns hl hO hS => ..
  case C => exact ..
(the tactic k_is has no namespace: write k_is) -/
namespace L2
open PySem PySem.Spec PyProof.Rows
def defArgs (s : Stmt) : Arguments := match s with
  | .FunctionDef _ a _ _ _ _ _ _ _ _ => a
  | _ => { posonlyargs := [], args := [], vararg := none, kwonlyargs := [], kw_defaults := [], kwarg := none, defaults := [] }
def defBody (s : Stmt) : List Stmt := match s with
  | .FunctionDef _ _ b _ _ _ _ _ _ _ => b
  | _ => []
def defScope (s : Stmt) : Scope := match s with
  | .FunctionDef _ _ _ _ _ _ sc _ _ _ => sc
  | _ => { kind := .function, names := [], isGenerator := false, isCoroutine := false }
abbrev CX0 : CXT := fun _ _ _ _ _ _ => False
abbrev E0 : XK := fun _ _ _ => False
theorem pass0 {X : Cx} : Passes CX0 X E0 := fun _ _ _ _ _ _ _ h => h.elim
structure Fun (K : PySem.W.Frag) (x qual : Str) (st : Stmt) (f : Addr) (fd : FuncData) : Prop where
  ex : ∃ (oc : Value) (od : Option Addr) (kV doc pm : Value) (an : Option Addr) (cdv ct : Value) (osl : Array (Option Value)),
    fd = PySem.W.fnOf x qual (defArgs st) (defBody st) (defScope st) .none kV doc pm an cdv ct ∧ K.lookup f = some ⟨oc, od, .func fd, osl⟩ ∧ PySem.W.codeIn K cdv qual = true
  kp : PySem.W.keepIn K (.ref f) = true
section
variable {P : Program} {w : World} {K : PySem.W.Frag} {mg : Str → Option Value} {base : Heap}
theorem Fun.ok {x qual : Str} {st : Stmt} {f : Addr} {fd : FuncData} {N ps : List Str} {k : Nat} {sp : Sp} (F : Fun K x qual st f fd) (S : FnScope N ps (defScope st)) (len : ∀ vs H Q E, sp vs H Q E → vs.length = ps.length)
    (hbody : ∀ (cdv : Value) (A : Around) (outer : List Env) (s : Shared) (H : Hp) (vs : List V) (Q : VK) (E : XK), Room k (A.deeper (envOfC qual (defScope st) s.heap.objs.size f cdv)) → sp vs H Q E →
      ∃ t, PSs (cxOf CX0 P w K mg base N qual (defScope st) f cdv A outer s H E).nox (defBody st) t ∧ t { nx := fun _ H' => Q .non H', rt := Q } (start N vs) H) : FnOk P w K mg base CX0 (k + 1) f fd ps sp := by
  obtain ⟨oc, od, kV, doc, pm, an, cdv, ct, osl, rfl, lk, hcd⟩ := F.ex
  refine fn_of lk hcd S len fun A outer s H vs Q E hr hsp => ?_
  obtain ⟨t, h, q⟩ := hbody cdv A outer s H vs Q E hr hsp
  exact ⟨t, h.nox, q⟩
theorem Fun.binds {x qual : Str} {st : Stmt} {f : Addr} {fd : FuncData} {ps : List Str} (F : Fun K x qual st f fd)
    (h : ∀ (kV doc pm : Value) (an : Option Addr) (cdv ct : Value) (us : List Value), us.length = ps.length → bindArgs (PySem.W.fnOf x qual (defArgs st) (defBody st) (defScope st) .none kV doc pm an cdv ct) ⟨us, []⟩ = pure (ps.zip us)) : Binds K fd ps [] := by
  obtain ⟨oc, od, kV, doc, pm, an, cdv, ct, osl, rfl, lk, hcd⟩ := F.ex
  exact .all (h kV doc pm an cdv ct)
theorem fun_mk {x qual : Str} {st : Stmt} {f : Addr} {oc : Value} {od an : Option Addr} {osl : Array (Option Value)} {kV doc pm cdv ct : Value} (l : K.lookup f = some ⟨oc, od, .func (PySem.W.fnOf x qual (defArgs st) (defBody st) (defScope st) .none kV doc pm an cdv ct), osl⟩)
    (c : PySem.W.codeIn K cdv qual = true) (k : PySem.W.keepIn K (.ref f) = true) : Fun K x qual st f (PySem.W.fnOf x qual (defArgs st) (defBody st) (defScope st) .none kV doc pm an cdv ct) := ⟨⟨oc, od, kV, doc, pm, an, cdv, ct, osl, rfl, l, c⟩, k⟩
end
section
variable {X : Cx}
theorem pv (i : Nat) {x : Str} {pos : Pos} (hN : X.N[i]? = some x := by rfl) (hv : Vis X.env.scope x := by first | exact Or.inl rfl | exact Or.inr (Or.inl rfl) | exact Or.inr (Or.inr rfl)) (hd : (x == ("__debug__" : Str)) = false := by decide)
    (hcd : (x == ("__classdict__" : Str)) = false := by decide) : PE X (.Name x pos) (tVar i) := pe_var hN hv hd hcd
end
def Same (H H' : Hp) : Prop := ∀ b o, H b = some o → H' b = some o
theorem Same.refl (H : Hp) : Same H H := fun _ _ h => h
theorem Same.trans {H H1 H2 : Hp} (a : Same H H1) (b : Same H1 H2) : Same H H2 := fun c o h => b c o (a c o h)
theorem Same.free {H H' : Hp} (e : Same H H') {l : Addr} (h : H' l = Option.none) : H l = Option.none := by
  cases q : H l with
  | none => rfl
  | some o =>
    rw [e l o q] at h
    cases h
theorem Same.seq {K : PySem.W.Frag} {H H' : Hp} {a : Addr} {xs : List V} (e : Same H H') (h : SqL K H a xs) : SqL K H' a xs := by
  rcases h with (h | ⟨o, h⟩) | h
  · exact .inl (.inl (e _ _ h))
  · exact .inl (.inr ⟨o, e _ _ h⟩)
  · exact .inr h
end L2
namespace L2
open PySem PySem.Spec PyProof.Rows
def Cal (P : Program) (w : World) (K : PySem.W.Frag) (mg : Str → Option Value) (base : Heap) (k : Nat) (x : Str) (ps : List Str) (sp : Sp) : Prop :=
  ∃ f fd, FnOk P w K mg base CX0 k f fd ps sp ∧ mg x = some (.ref f) ∧ PySem.W.keepIn K (.ref f) = true ∧ Binds K fd ps []
structure Df (K : PySem.W.Frag) (mg : Str → Option Value) (x : Str) (st : Stmt) (ps : List Str) (f : Addr) (fd : FuncData) : Prop where
  fn : Fun K x x st f fd
  bd : Binds K fd ps []
  at' : mg x = some (.ref f)
theorem Df.cal {P : Program} {w : World} {K : PySem.W.Frag} {mg : Str → Option Value} {base : Heap} {k : Nat} {x : Str} {st : Stmt} {ps : List Str} {f : Addr} {fd : FuncData} {sp : Sp}
    (F : Df K mg x st ps f fd) (G : FnOk P w K mg base CX0 k f fd ps sp) : Cal P w K mg base k x ps sp := ⟨f, fd, G, F.at', F.fn.kp, F.bd⟩
theorem pe_callD {X : Cx} {k : Nat} {x : Str} {ps : List Str} {sp : Sp} {p pos : Pos} {e : Expr} {es : List Expr} {t : TA}
    (C : Cal X.prog X.w X.K X.mg X.base k x ps sp) (hr : Room k X.A) (ha : PA X (e :: es) t) (hg : Gl X x := by rfl) (hdb : (x == ("__debug__" : Str)) = false := by decide)
    (he : starEach (e :: es) X.env = (false, eval e X.env) :: starEach es X.env := by rfl) (hpl : (backTo pos (starEach es X.env)).any (·.1) = false := by rfl) :
    PE X (.Call (.Name x p) (e :: es) [] pos) (tCall sp [] E0 t) := by
  obtain ⟨f, fd, G, a, b, c⟩ := C
  exact pe_call G hr hg a b c .nil pass0 ha hdb he hpl
def Sz (n : Nat) (a : Int) : Prop := a.natAbs < 2 ^ n
theorem Sz.mono {m n : Nat} {a : Int} (h : Sz m a) (l : m ≤ n) : Sz n a := Nat.lt_of_lt_of_le h (Nat.pow_le_pow_right (by decide) l)
theorem Sz.mul {m n : Nat} {a b : Int} (h : Sz m a) (g : Sz n b) : Sz (m + n) (a * b) := by
  unfold Sz at *
  rw [Int.natAbs_mul, Nat.pow_add]
  exact Nat.mul_lt_mul'' h g
theorem Sz.add {m n : Nat} {a b : Int} (h : Sz m a) (g : Sz n b) : Sz (max m n + 1) (a + b) := by
  have h1 : Sz (max m n) a := h.mono (Nat.le_max_left _ _)
  have h2 : Sz (max m n) b := g.mono (Nat.le_max_right _ _)
  unfold Sz at *
  have := Int.natAbs_add_le a b
  rw [Nat.pow_succ]
  omega
theorem Sz.neg {n : Nat} {a : Int} (h : Sz n a) : Sz n (-a) := by
  unfold Sz at *
  rw [Int.natAbs_neg]
  exact h
theorem Sz.sub {m n : Nat} {a b : Int} (h : Sz m a) (g : Sz n b) : Sz (max m n + 1) (a - b) := by
  rw [Int.sub_eq_add_neg]
  exact h.add g.neg
theorem Sz.of_abs {n : Nat} {a b : Int} (h : Sz n b) (l : a.natAbs ≤ b.natAbs) : Sz n a := Nat.lt_of_le_of_lt l h
theorem Sz.mulOk {m n : Nat} {a b : Int} (h : Sz m a) (g : Sz n b) (l : m + n ≤ 134217728) : IntMulOk a b :=
  IntMulOk.of_le (PySem.intBits_le_iff.mpr h) (PySem.intBits_le_iff.mpr g) l
theorem Sz.log2 {n : Nat} {a : Int} (h : Sz n a) (h0 : a ≠ 0) (l : n ≤ 9000) : a.natAbs.log2 < 9000 :=
  Nat.lt_of_lt_of_le ((Nat.log2_lt (by omega)).mpr h) l
section
variable {X : Cx} {a b : Expr} {ta tb : TE} {pos : Pos}
theorem op_mulM : OpR X (binaryOp .Mult) (rI IntMulOk fun i j => .int (i * j)) := opI fun _ _ _ _ _ _ _ hc q => mul_int q hc
def CDivB (_ j : Int) : Prop := j ≠ 0 ∧ j.natAbs.log2 < 9000
theorem op_fdivB : OpR X (binaryOp .FloorDiv) (rI CDivB fun i j => .int (i.fdiv j)) := opI fun _ _ _ _ _ _ _ hc q => floordiv_int hc.1 q (.inl (PyProof.noPylong_of_log2 hc.2))
end
mutual
inductive RdD (K : PySem.W.Frag) (H : Hp) : V → PyData → Prop where
  | non : RdD K H .non .none
  | bl (b : Bool) : RdD K H (.bl b) (.bool b)
  | int (i : Int) : RdD K H (.int i) (.int i)
  | str (x : Str) : RdD K H (.str x) (.str x)
  | tup {a : Addr} {xs : List V} {ds : List PyData} : SqT K H a xs → RdDs K H xs ds → RdD K H (.ref a) (.tuple ds)
  | lst {a : Addr} {xs : List V} {ds : List PyData} : SqL K H a xs → RdDs K H xs ds → RdD K H (.ref a) (.list ds)
inductive RdDs (K : PySem.W.Frag) (H : Hp) : List V → List PyData → Prop where
  | nil : RdDs K H [] []
  | cons {x : V} {d : PyData} {xs : List V} {ds : List PyData} : RdD K H x d → RdDs K H xs ds → RdDs K H (x :: xs) (d :: ds)
end
section
variable {X : Cx} {pins : List (Addr × Obj)} {σ : St} {H : Hp} {s : Shared}
mutual
theorem RdD.reads (I : Inv X pins σ H s) : ∀ {x : V} {d : PyData} {u : Value}, RdD X.K H x d → RelV x u → ∃ as, Reads s.heap u d as
  | _, _, _, .non, r => by cases r; exact ⟨_, .none⟩
  | _, _, _, .bl b, r => by cases r; exact ⟨_, .bool b⟩
  | _, _, _, .int i, r => by obtain ⟨t, rfl⟩ := r; exact ⟨_, .int i t⟩
  | _, _, _, .str x, r => by obtain ⟨t, rfl⟩ := r; exact ⟨_, .str x t⟩
  | _, _, _, .tup hq hr, r => by
    cases r
    obtain ⟨its, rv, pl, hz⟩ := I.tuple hq
    obtain ⟨as, q⟩ := RdDs.reads I hr rv
    obtain ⟨o, ho, hc, n, hd⟩ := pl
    exact ⟨_, .tuple ho hc hd (by simpa using q)⟩
  | _, _, _, .lst hq hr, r => by
    cases r
    obtain ⟨its, rv, pl, hz⟩ := I.list hq
    obtain ⟨as, q⟩ := RdDs.reads I hr rv
    obtain ⟨o, ho, hc, n, hd⟩ := pl.isList
    exact ⟨_, .list ho hc hd (by simpa using q)⟩
theorem RdDs.reads (I : Inv X pins σ H s) : ∀ {xs : List V} {ds : List PyData} {us : List Value}, RdDs X.K H xs ds → Vals xs us → ∃ as, ReadsAll s.heap us ds as
  | _, _, _, .nil, r => by cases r; exact ⟨_, .nil⟩
  | _, _, _, .cons h t, r => by
    cases r with
    | cons r1 r2 =>
      obtain ⟨as, q⟩ := RdD.reads I h r1
      obtain ⟨bs, p⟩ := RdDs.reads I t r2
      exact ⟨_, .cons q p⟩
end
end
theorem RdDs.ints {K : PySem.W.Frag} {H : Hp} : ∀ ns : List Int, RdDs K H (ns.map V.int) (ns.map PyData.int)
  | [] => .nil
  | n :: r => .cons (.int n) (RdDs.ints r)
theorem RdD.ints {K : PySem.W.Frag} {H : Hp} {a : Addr} {ns : List Int} (h : SqT K H a (ns.map V.int)) : RdD K H (.ref a) (.tuple (ns.map PyData.int)) := .tup h (.ints ns)
theorem RdD.lints {K : PySem.W.Frag} {H : Hp} {a : Addr} {ns : List Int} (h : SqL K H a (ns.map V.int)) : RdD K H (.ref a) (.list (ns.map PyData.int)) := .lst h (.ints ns)
theorem eqv_ints : ∀ ns ms : List Int, PyData.eqvAll (ns.map PyData.int) (ms.map PyData.int) = decide (ns = ms)
  | [], [] => by simp [PyData.eqvAll]
  | [], _ :: _ => by simp [PyData.eqvAll]
  | _ :: _, [] => by simp [PyData.eqvAll]
  | a :: r, b :: t => by
    simp only [List.map_cons, PyData.eqvAll, PyData.eqv, eqv_ints r t]
    by_cases h : a = b <;> by_cases h' : r = t <;> simp [h, h']
theorem shaped_ints (ns : List Int) : SeqAt.shaped (.tuple (ns.map PyData.int)) = true := by
  simp [SeqAt.shaped, PyData.canLay0, PyData.depth, PySem.W.ke_canLayAll0, PySem.W.ke_depthAll]
section
variable {X : Cx}
def rEqD (K : PySem.W.Frag) (f : Bool → Bool) : R2 := fun x y H Q => ∃ d e, RdD K H x d ∧ RdD K H y e ∧ SeqAt.shaped d = true ∧ SeqAt.shaped e = true ∧ Q (.bl (f (PyData.eqv d e))) H
theorem op_eqD (hu : X.A.units + 64 < cLine) : OpR X (compareOp .Eq) (rEqD X.K fun b => b) := by
  intro pins s σ H x y v u Q I rx ry h
  obtain ⟨d, e, hd, he, s1, s2, q⟩ := h
  obtain ⟨as, r1⟩ := RdD.reads I hd rx
  obtain ⟨bs, r2⟩ := RdD.reads I he ry
  exact eq_dataH r1 r2 s1 s2 hu ⟨.bl _, H, I, rfl, q⟩
theorem op_neD (hu : X.A.units + 64 < cLine) : OpR X (compareOp .NotEq) (rEqD X.K fun b => !b) := by
  intro pins s σ H x y v u Q I rx ry h
  obtain ⟨d, e, hd, he, s1, s2, q⟩ := h
  obtain ⟨as, r1⟩ := RdD.reads I hd rx
  obtain ⟨bs, r2⟩ := RdD.reads I he ry
  exact ne_dataH r1 r2 s1 s2 hu ⟨.bl _, H, I, rfl, q⟩
def rEqT (K : PySem.W.Frag) (f : Bool → Bool) : R2 := fun x y H Q => ∃ (a b : Addr) (ns ms : List Int), x = .ref a ∧ y = .ref b ∧ SqT K H a (ns.map V.int) ∧ SqT K H b (ms.map V.int) ∧ Q (.bl (f (decide (ns = ms)))) H
theorem op_eqT (hu : X.A.units + 64 < cLine) : OpR X (compareOp .Eq) (rEqT X.K fun b => b) := by
  intro pins s σ H x y v u Q I rx ry h
  obtain ⟨a, b, ns, ms, rfl, rfl, ha, hb, q⟩ := h
  exact op_eqD hu pins s σ H _ _ v u Q I rx ry ⟨_, _, .ints ha, .ints hb, shaped_ints _, shaped_ints _, by rw [PyData.eqv, eqv_ints]; exact q⟩
theorem op_neT (hu : X.A.units + 64 < cLine) : OpR X (compareOp .NotEq) (rEqT X.K fun b => !b) := by
  intro pins s σ H x y v u Q I rx ry h
  obtain ⟨a, b, ns, ms, rfl, rfl, ha, hb, q⟩ := h
  exact op_neD hu pins s σ H _ _ v u Q I rx ry ⟨_, _, .ints ha, .ints hb, shaped_ints _, shaped_ints _, by rw [PyData.eqv, eqv_ints]; exact q⟩
theorem call_isi : CallR X (.builtin "isinstance") (fun xs H Q => ∃ x t T b, xs = [x, .ty T] ∧ TyOf X.K H x t ∧ PySem.W.kitOne X.K t (.type T) = some b ∧ Q (.bl b) H) := by
  intro pins s σ H xs us Q I r h
  obtain ⟨x, t, T, b, rfl, ht, hk, q⟩ := h
  obtain ⟨u, c, rfl, ru, rc⟩ := vals2 r
  cases rc
  exact isinst_ok I ru ht hk fun tk => ⟨.bl b, H, I.tok tk, rfl, q⟩
end
theorem Same.tup {K : PySem.W.Frag} {H H' : Hp} {a : Addr} {xs : List V} (e : Same H H') (h : SqT K H a xs) : SqT K H' a xs := by
  rcases h with (h | ⟨o, h⟩) | h
  · exact .inl (.inl (e _ _ h))
  · exact .inl (.inr ⟨o, e _ _ h⟩)
  · exact .inr h
theorem Same.upd {H : Hp} {p : Addr} (h : H p = none) (o : HO) : Same H (upd H p o) := fun b u q => by
  rw [upd_ne (ne_of_none q h)]
  exact q
end L2
namespace L2
open PySem PySem.Spec PyProof.Rows
section
variable {X : Cx} {K : PySem.W.Frag} {σ : St} {H : Hp} {Q : VK} {D : Ends} {B : Bool → Hp → Prop}
theorem z_seq {t u : TS} : tSeq t u D σ H = t { D with nx := u D } σ H := rfl
theorem z_next : tNext D σ H = D.nx σ H := rfl
theorem z_ifS {c : TT} {t u : TS} : tIfS c t u D σ H = c σ H (fun b H1 => if b = true then t D σ H1 else u D σ H1) := rfl
theorem z_ret {te : TE} : tRet te D σ H = te σ H D.rt := rfl
theorem z_drop {te : TE} : tDrop te D σ H = te σ H (fun _ H1 => D.nx σ H1) := rfl
theorem z_asg {te : TE} {g : TG} : tAsg te g D σ H = te σ H (fun x H1 => g x σ H1 D.nx) := rfl
theorem z_gname {i : Nat} {v : V} {R : St → Hp → Prop} : gName i v σ H R = R (σ.set i (some v)) H := rfl
theorem z_par {i j : Nat} {ta : TA} : tPar i j ta D σ H = ta σ H (fun vs H1 => ∃ v w, vs = [v, w] ∧ D.nx ((σ.set i (some v)).set j (some w)) H1) := rfl
theorem z_var0 {v : V} {r : St} : tVar 0 (some v :: r) H Q = Q v H := propext ⟨fun ⟨_, e, h⟩ => by cases e; exact h, fun h => ⟨v, rfl, h⟩⟩
theorem z_varS {i : Nat} {o : Option V} {r : St} : tVar (i + 1) (o :: r) H Q = tVar i r H Q := rfl
theorem z_c {v : V} : tC v σ H Q = Q v H := rfl
theorem z_op {r : R2} {ta tb : TE} : tOp r ta tb σ H Q = ta σ H (fun x H1 => tb σ H1 fun y H2 => r x y H2 Q) := rfl
theorem z_un {r : V → Hp → VK → Prop} {ta : TE} : tUn r ta σ H Q = ta σ H (fun x H1 => r x H1 Q) := rfl
theorem z_rI {C : Int → Int → Prop} {g : Int → Int → V} {i j : Int} : rI C g (.int i) (.int j) H Q = (C i j ∧ Q (g i j) H) :=
  propext ⟨fun ⟨_, _, e, f, h⟩ => by cases e; cases f; exact h, fun h => ⟨i, j, rfl, rfl, h⟩⟩
theorem z_rI0 {g : Int → Int → V} {i j : Int} : rI0 g (.int i) (.int j) H Q = Q (g i j) H :=
  propext ⟨fun ⟨_, _, e, f, h⟩ => by cases e; cases f; exact h, fun h => ⟨i, j, rfl, rfl, h⟩⟩
theorem z_rU {g : Int → V} {i : Int} : rU g (.int i) H Q = Q (g i) H := propext ⟨fun ⟨_, e, h⟩ => by cases e; exact h, fun h => ⟨i, rfl, h⟩⟩
theorem z_eqI {i j : Int} : rEq (.int i) (.int j) H Q = Q (.bl (decide (i = j))) H := by
  unfold rEq
  simp only [scal, V.int.injEq, true_and]
theorem z_neI {i j : Int} : rNe (.int i) (.int j) H Q = Q (.bl (!decide (i = j))) H := by
  unfold rNe
  simp only [scal, V.int.injEq, true_and]
theorem z_eqB {i j : Bool} : rEq (.bl i) (.bl j) H Q = Q (.bl (decide (i = j))) H := by
  unfold rEq
  simp only [scal, V.bl.injEq, true_and]
theorem z_neB {i j : Bool} : rNe (.bl i) (.bl j) H Q = Q (.bl (!decide (i = j))) H := by
  unfold rNe
  simp only [scal, V.bl.injEq, true_and]
theorem z_test {t : TE} : tTest t σ H B = t σ H (fun x H' => ∃ k, x = .bl k ∧ B k H') := rfl
theorem z_tB {t : TE} : tB t σ H B = t σ H (fun x H' => ∃ k, x = .bl k ∧ B k H') := rfl
theorem z_exb {b : Bool} {p : Bool → Prop} : (∃ k, V.bl b = .bl k ∧ p k) = p b := propext ⟨fun ⟨_, e, h⟩ => by cases e; exact h, fun h => ⟨b, rfl, h⟩⟩
theorem z_exi {b : Int} {p : Int → Prop} : (∃ k, V.int b = .int k ∧ p k) = p b := propext ⟨fun ⟨_, e, h⟩ => by cases e; exact h, fun h => ⟨b, rfl, h⟩⟩
theorem z_ex2 {a b : V} {p : V → V → Prop} : (∃ v w, [a, b] = [v, w] ∧ p v w) = p a b := propext ⟨fun ⟨_, _, e, h⟩ => by cases e; exact h, fun h => ⟨a, b, rfl, h⟩⟩
theorem z_exl1 {b : Int} {p : Int → Prop} : (∃ k, [V.int b] = [.int k] ∧ p k) = p b := propext ⟨fun ⟨_, e, h⟩ => by cases e; exact h, fun h => ⟨b, rfl, h⟩⟩
theorem z_exl2 {a b : Int} {p : Int → Int → Prop} : (∃ i j, [V.int a, V.int b] = [.int i, .int j] ∧ p i j) = p a b := propext ⟨fun ⟨_, _, e, h⟩ => by cases e; exact h, fun h => ⟨a, b, rfl, h⟩⟩
theorem z_not {t : TT} : tNot t σ H B = t σ H (fun c H1 => B (!c) H1) := rfl
theorem z_and {t u : TT} : tAnd t u σ H B = t σ H (fun c H1 => if c = true then u σ H1 B else B false H1) := rfl
theorem z_or {t u : TT} : tOr t u σ H B = t σ H (fun c H1 => if c = true then B true H1 else u σ H1 B) := rfl
theorem z_andV {ta tb : TE} : tAndV ta tb σ H Q = ta σ H (fun x H1 => ∃ c, x = .bl c ∧ if c = true then tb σ H1 Q else Q (.bl false) H1) := rfl
theorem z_orV {ta tb : TE} : tOrV ta tb σ H Q = ta σ H (fun x H1 => ∃ c, x = .bl c ∧ if c = true then Q (.bl true) H1 else tb σ H1 Q) := rfl
theorem z_notV {ta : TE} : tNotV ta σ H Q = ta σ H (fun x H1 => ∃ c, x = .bl c ∧ Q (.bl (!c)) H1) := rfl
theorem z_if {t : TT} {ta tb : TE} : tIf t ta tb σ H Q = t σ H (fun c H1 => if c = true then ta σ H1 Q else tb σ H1 Q) := rfl
theorem z_call {sp : Sp} {dvs : List V} {E : XK} {t : TA} : tCall sp dvs E t σ H Q = t σ H (fun vs H1 => sp (vs ++ dvs) H1 Q E) := rfl
theorem z_nil {R : List V → Hp → Prop} : tNil σ H R = R [] H := rfl
theorem z_cons {te : TE} {t : TA} {R : List V → Hp → Prop} : tCons te t σ H R = te σ H (fun x H1 => t σ H1 fun xs H2 => R (x :: xs) H2) := rfl
theorem z_cb {r : List V → Hp → VK → Prop} {t : TA} : tCB r t σ H Q = t σ H (fun vs H1 => r vs H1 Q) := rfl
theorem z_tup {t : TA} : tTup t σ H Q = t σ H (fun xs H1 => xs.length ≤ sizeLine ∧ ∀ p, H1 p = none → Q (.ref p) (upd H1 p (.tup xs))) := rfl
theorem z_lst {t : TA} : tLst t σ H Q = t σ H (fun xs H1 => xs.length ≤ sizeLine ∧ ∀ p, H1 p = none → Q (.ref p) (upd H1 p (.lst xs))) := rfl
theorem z_chain {r r' : R2} {ta tb tc : TE} : tChain r r' ta tb tc σ H Q = ta σ H (fun x H1 => tb σ H1 fun y H2 => r x y H2 fun z H3 => ∃ k, z = .bl k ∧ (if k = true then tc σ H3 fun w' H4 => r' y w' H4 Q else Q (.bl false) H3)) := rfl
theorem z_ixT {a : Addr} {xs : List V} {i : Int} {v : V} (h : SqT K H a xs) (e : atI xs i = some v) (q : Q v H) : rIxT K (.ref a) (.int i) H Q := ⟨a, xs, i, v, rfl, rfl, h, e, q⟩
theorem z_ixL {a : Addr} {xs : List V} {i : Int} {v : V} (h : SqL K H a xs) (e : atI xs i = some v) (q : Q v H) : rIxL K (.ref a) (.int i) H Q := ⟨a, xs, i, v, rfl, rfl, h, e, q⟩
end
def CDivP (_ j : Int) : Prop := 0 < j ∧ j.natAbs.log2 < 9000
theorem op_fdivP {X : Cx} : OpR X (binaryOp .FloorDiv) (rI CDivP fun i j => .int (i / j)) := opI fun i j _ _ _ _ _ hc q => by
  have h : j ≠ 0 := by have := hc.1; omega
  refine floordiv_int h ?_ (.inl (PyProof.noPylong_of_log2 hc.2))
  rw [Int.fdiv_eq_ediv_of_nonneg _ (Int.le_of_lt hc.1)]
  exact q
theorem small1 : (1 : Nat) ≤ sizeLine := by decide
theorem small2 : (2 : Nat) ≤ sizeLine := by decide
end L2
namespace L2
open PySem PySem.Spec PyProof.Rows
def clF (env : Env) (cs : List (Str × Addr)) (x : Str × NameKind) : List (Str × Addr) := if x.2 == .free then (x.1, (env.cells.lookup x.1).getD 0) :: cs else cs
theorem closure_eq {scope : Scope} {env : Env} (h : ∀ x ∈ scope.names, x.2 = .free → ∃ c, env.cells.lookup x.1 = some c) : closureFor scope env = pure (scope.names.foldl (clF env) []) := by
  unfold closureFor
  have key : ∀ (names : List (Str × NameKind)) (init : List (Str × Addr)), (∀ x ∈ names, x.2 = .free → ∃ c, env.cells.lookup x.1 = some c) →
      (forIn names init (fun (x : Str × NameKind) (cs : List (Str × Addr)) => (if x.2 == .free then (do let c ← cellOf env x.1; pure (ForInStep.yield ((x.1, c) :: cs))) else pure (ForInStep.yield cs) : Sem (ForInStep (List (Str × Addr)))))) = (pure (names.foldl (clF env) init) : Sem (List (Str × Addr))) := by
    intro names
    induction names with
    | nil => intro init _; rfl
    | cons x r ih =>
      intro init hx
      rw [List.forIn_cons, List.foldl_cons]
      by_cases hf : x.2 = .free
      · obtain ⟨c, hc⟩ := hx x List.mem_cons_self hf
        have e1 : cellOf env x.1 = pure c := by unfold cellOf; rw [hc]
        have e2 : clF env init x = (x.1, c) :: init := by unfold clF; rw [hf, hc]; rfl
        rw [e2, ← ih _ fun y hy => hx y (List.mem_cons_of_mem _ hy)]
        rw [hf, e1]
        rfl
      · have e0 : (x.2 == NameKind.free) = false := by simpa using hf
        have e2 : clF env init x = init := by unfold clF; rw [e0]; rfl
        rw [e2, ← ih _ fun y hy => hx y (List.mem_cons_of_mem _ hy), e0]
        rfl
  exact (congrArg (fun m => m >>= fun r => pure r) (key scope.names [] h)).trans (by rfl)
theorem clF_look {env : Env} : ∀ (names : List (Str × NameKind)) (init : List (Str × Addr)) (y : Str) (c : Addr), (∀ x ∈ names, x.2 = .free → ∃ c, env.cells.lookup x.1 = some c) → (names.foldl (clF env) init).lookup y = some c → init.lookup y = some c ∨ env.cells.lookup y = some c
  | [], _, _, _, _, h => .inl h
  | x :: r, init, y, c, hx, h => by
    rw [List.foldl_cons] at h
    rcases clF_look r _ y c (fun z hz => hx z (List.mem_cons_of_mem _ hz)) h with h1 | h1
    · unfold clF at h1
      by_cases hf : x.2 = .free
      · obtain ⟨d, hd⟩ := hx x List.mem_cons_self hf
        rw [hf, hd] at h1
        change List.lookup y ((x.1, d) :: init) = some c at h1
        rw [List.lookup_cons] at h1
        cases hy : y == x.1 with
        | true =>
          rw [hy] at h1
          have : y = x.1 := by simpa using hy
          subst this
          exact .inr (hd.trans h1)
        | false =>
          rw [hy] at h1
          exact .inl h1
      · have e0 : (x.2 == NameKind.free) = false := by simpa using hf
        rw [e0] at h1
        exact .inl h1
    · exact .inr h1
theorem clF_has {env : Env} : ∀ (names : List (Str × NameKind)) (init : List (Str × Addr)) (y : Str), ((∃ x ∈ names, x.2 = .free ∧ x.1 = y) ∨ ∃ c, init.lookup y = some c) → ∃ c, (names.foldl (clF env) init).lookup y = some c
  | [], _, _, h => by
    rcases h with ⟨_, h, _⟩ | h
    · cases h
    · exact h
  | x :: r, init, y, h => by
    rw [List.foldl_cons]
    apply clF_has r
    rcases h with ⟨z, hz, hf, rfl⟩ | ⟨c, hc⟩
    · rcases List.mem_cons.mp hz with rfl | hz
      · refine .inr ⟨(env.cells.lookup z.1).getD 0, ?_⟩
        unfold clF
        rw [hf]
        show List.lookup z.1 ((z.1, _) :: init) = _
        rw [List.lookup_cons]
        simp
      · exact .inl ⟨z, hz, hf, rfl⟩
    · refine .inr ?_
      unfold clF
      by_cases hf : x.2 = .free
      · rw [hf]
        show ∃ c, List.lookup y ((x.1, _) :: init) = some c
        rw [List.lookup_cons]
        cases y == x.1 with
        | true => exact ⟨_, rfl⟩
        | false => exact ⟨c, hc⟩
      · have e0 : (x.2 == NameKind.free) = false := by simpa using hf
        rw [e0]
        exact ⟨c, hc⟩
theorem compLoop_any {prog : Program} {w : World} {A : Around} {R : Result → Shared → Prop} {s : Shared} {elt target iter : Expr} {ifs : List Expr} {scope : Scope} {pos : Pos} {it acc : Value} {env : Env} (I : Nat → Shared → Prop)
    (turn : ∀ n s, I n s → wpAny (model prog w) A (pyNext it) (fun r s₁ => match r with
      | none => R (.ok .next) s₁
      | some v => wpAny (model prog w) A (letOwnedTupleGo target it v) (fun _ s₀ => wpAny (model prog w) A (assign target env v) (fun _ s₂ =>
          wpAny (model prog w) A (forIn ifs true fun c r => if r = true then do let ok ← isTrue c env (eval c env); pure (ForInStep.yield ok) else pure (ForInStep.yield r)) (fun ok s₃ =>
            if ok = true then wpAny (model prog w) A (eval elt env) (fun x s₄ =>
              wpAny (model prog w) A (call (.builtin "list.append") [acc, x]) (fun _ s₅ => ∃ m, m < n ∧ I m s₅) (fun _ _ => False) s₄) (fun _ _ => False) s₃
            else ∃ m, m < n ∧ I m s₃) (fun _ _ => False) s₂) (fun _ _ => False) s₀) (fun _ _ => False) s₁) (fun _ _ => False) s)
    (n : Nat) (h : I n s) :
    codeAny (model prog w) A (.compLoop (.ListComp elt [⟨target, iter, ifs, 0⟩] scope pos) 0 it acc env) R s := by
  have no : ∀ (x : Value) (s' : Shared), False → notedBy (model prog w) A env (fun e s' => R (.error e) s') x s' := fun _ _ z => z.elim
  refine codeAny_loop rfl I (fun n s hI => ?_) n h
  show wpAny _ A ((compTurn (.ListComp elt [⟨target, iter, ifs, 0⟩] scope pos) 0 it acc env).onRaise (fun x => do noteFrame x env; theTreesLotGoes x)) _ _ s
  refine wpAny_noted ?_
  rw [compTurn_list]
  refine wpAny_bind (wpAny_standAt (wpAny_bind (wpAny_mono (turn n s hI) (fun r s₁ h₁ => ?_) no)))
  cases r with
  | none => exact wpAny_pure h₁
  | some v =>
    refine wpAny_bind (wpAny_mono h₁ (fun _ s₀ h₀ => ?_) no)
    refine wpAny_bind (wpAny_mono h₀ (fun _ s₂ h₂ => wpAny_bind (wpAny_mono h₂ (fun ok s₃ h₃ => ?_) no)) no)
    cases ok with
    | false => exact wpAny_pure ⟨rfl, h₃⟩
    | true =>
      exact wpAny_bind (wpAny_bind (wpAny_mono h₃ (fun x s₄ h₄ => wpAny_bind (wpAny_mono h₄ (fun _ s₅ h₅ => wpAny_pure (wpAny_pure ⟨rfl, h₅⟩)) no)) no))
def cxC (X : Cx) (N : List Str) (scope : Scope) (ex : List Addr) (s : Shared) (H : Hp) : Cx where
  prog := X.prog
  w := X.w
  K := X.K
  mg := X.mg
  base := X.base
  A := X.A
  N := N
  s₀ := s
  H₀ := H
  env := compEnvC scope (scope.names.foldl (clF X.env) []) s.heap.objs.size X.env
  outer := X.stack
  stack := X.stack
  ex := ex
  fn := fun _ => false
  calm := X.calm
  pn := []
  xe := fun _ _ => False
structure CpScope (X : Cx) (ts : List Str) (fs : List (Nat × Str)) (scope : Scope) : Prop where
  kind : scope.kind = .function
  cell : ∀ y ∈ scope.names, y.2 ≠ .cell
  names : ∀ y ∈ scope.names, y.2 = .local → scope.names.lookup y.1 = some .local
  free : ∀ y ∈ scope.names, y.2 = .free → X.env.kindOf y.1 = some .cell ∨ X.env.kindOf y.1 = some .free
  at' : ∀ p ∈ fs, X.N[p.1]? = some p.2 ∧ (p.2, NameKind.free) ∈ scope.names ∧ ((relabel scope X.env).names.lookup p.2 = some .cell ∨ (relabel scope X.env).names.lookup p.2 = some .free)
def rlb (sc scope : Scope) : List (Str × NameKind) := scope.names.map fun (n, k) => if (k == NameKind.free && sc.kind == .function && sc.names.lookup n == some .cell) then (n, NameKind.cell) else (n, k)
def cpOk (sc : Scope) (N : List Str) (fs : List (Nat × Str)) (scope : Scope) : Bool :=
  (scope.kind == .function) && (scope.names.all fun y => y.2 != .cell) && (scope.names.all fun y => y.2 != .local || scope.names.lookup y.1 == some .local) &&
  (scope.names.all fun y => y.2 != .free || (sc.names.lookup y.1 == some .cell || sc.names.lookup y.1 == some .free)) &&
  fs.all fun p => N[p.1]? == some p.2 && (scope.names.contains (p.2, NameKind.free) && ((rlb sc scope).lookup p.2 == some .cell || (rlb sc scope).lookup p.2 == some .free))
theorem CpScope.of {X : Cx} {ts : List Str} {fs : List (Nat × Str)} {scope sc : Scope} {N : List Str} (e1 : X.env.scope = sc) (e2 : X.N = N) (h : cpOk sc N fs scope = true) : CpScope X ts fs scope := by
  unfold cpOk at h
  simp only [Bool.and_eq_true, List.all_eq_true, Bool.or_eq_true, bne_iff_ne, beq_iff_eq, List.contains_iff_mem] at h
  obtain ⟨⟨⟨⟨h1, h2⟩, h3⟩, h4⟩, h5⟩ := h
  refine ⟨h1, h2, fun y hy e => ?_, fun y hy e => ?_, fun p hp => ?_⟩
  · rcases h3 y hy with z | z
    · exact absurd e z
    · exact z
  · rcases h4 y hy with z | z
    · exact absurd e z
    · show X.env.scope.names.lookup y.1 = _ ∨ X.env.scope.names.lookup y.1 = _
      rw [e1]
      exact z
  · obtain ⟨a, b, c⟩ := h5 p hp
    refine ⟨by rw [e2]; exact a, b, ?_⟩
    subst e1
    exact c
def cpN (ts : List Str) (fs : List (Nat × Str)) : List Str := ts ++ fs.map (·.2)
def cpσ (n : Nat) (fs : List (Nat × Str)) (σ : St) : St := List.replicate n none ++ fs.map fun p => (σ[p.1]?).join
theorem relabel_look {env : Env} {x : Str} {k' : NameKind} : ∀ {names : List (Str × NameKind)}, (names.map fun (n, k) => if (k == NameKind.free && env.scope.kind == .function && env.kindOf n == some .cell) then (n, NameKind.cell) else (n, k)).lookup x = some k' →
    ∃ k, (x, k) ∈ names ∧ (k' = k ∨ (k = .free ∧ k' = .cell))
  | [], h => by simp at h
  | (n, k) :: r, h => by
    rw [List.map_cons] at h
    dsimp only at h
    by_cases hc : (k == NameKind.free && env.scope.kind == .function && env.kindOf n == some .cell) = true
    · rw [if_pos hc, List.lookup_cons] at h
      cases hx : x == n with
      | true =>
        rw [hx] at h
        have e : x = n := by simpa using hx
        subst e
        have hk : k = .free := by
          rw [Bool.and_eq_true, Bool.and_eq_true] at hc
          simpa using hc.1.1
        exact ⟨k, List.mem_cons_self, .inr ⟨hk, (Option.some.inj h).symm⟩⟩
      | false =>
        rw [hx] at h
        obtain ⟨k2, h1, h2⟩ := relabel_look h
        exact ⟨k2, List.mem_cons_of_mem _ h1, h2⟩
    · rw [if_neg hc, List.lookup_cons] at h
      cases hx : x == n with
      | true =>
        rw [hx] at h
        have e : x = n := by simpa using hx
        subst e
        exact ⟨k, List.mem_cons_self, .inl (Option.some.inj h).symm⟩
      | false =>
        rw [hx] at h
        obtain ⟨k2, h1, h2⟩ := relabel_look h
        exact ⟨k2, List.mem_cons_of_mem _ h1, h2⟩
def PTs (X : Cx) (ifs : List Expr) (t : TT) : Prop :=
  ∀ (pins : List (Addr × Obj)) (s : Shared) (σ : St) (H : Hp) (B : Bool → Hp → Prop), Inv X pins σ H s → t σ H B →
    wpAny (model X.prog X.w) X.A (forIn ifs true fun c r => if r = true then do let ok ← isTrue c X.env (eval c X.env); pure (ForInStep.yield ok) else pure (ForInStep.yield r)) (TP X pins σ B) X.xe s
def tNoIf : TT := fun _ H B => B true H
theorem pts_nil {X : Cx} : PTs X [] tNoIf := fun _ _ _ H _ I h => wpAny_pure ⟨H, I, h⟩
theorem pts_one {X : Cx} {c : Expr} {t : TT} (h : PT X c t) : PTs X [c] t := by
  intro pins s σ H B I hw
  rw [List.forIn_cons]
  simp only [if_true]
  refine wpAny_bind (wpAny_bind (thn (h pins s σ H B I hw) fun b s1 q => wpAny_pure ?_))
  exact wpAny_pure q
def Kp (σ σ' : St) : Prop := σ'.length = σ.length ∧ ∀ (i : Nat) v, σ[i]? = some (some v) → σ'[i]? = some (some v)
def cIn (J : It) (cσ : St) (g : TG) (tt : TT) (te : TE) (Q : VK) (H1 : Hp) (p : Addr) : Prop := ∃ W : Nat → Nat → List V → Hp → Prop, (∃ m, W 0 m [] (upd H1 p (.lst []))) ∧ ∀ i m acc H2, W i m acc H2 →
  (J.stop i H2 ∧ Q (.ref p) H2) ∨ (J.go i H2 ∧ ∀ x H3, J.yld i H2 x H3 → g x cσ H3 fun σ4 H4 => Kp cσ σ4 ∧ tt σ4 H4 fun b H5 =>
    if b = true then te σ4 H5 fun y H6 => H6 p = some (.lst acc) ∧ acc.length < sizeLine ∧ ∃ m', m' < m ∧ W (i + 1) m' (acc ++ [y]) (upd H6 p (.lst (acc ++ [y]))) else ∃ m', m' < m ∧ W (i + 1) m' acc H5)
def tComp (n : Nat) (fs : List (Nat × Str)) (wi : TI) (g : TG) (tt : TT) (te : TE) : TE := fun σ H Q => wi σ H fun J H1 => ∀ p, H1 p = none → cIn J (cpσ n fs σ) g tt te Q H1 p
section
variable {X : Cx} {elt tg iter : Expr} {ifs : List Expr} {scope : Scope} {pos : Pos} {wi : TI} {g : TG} {tt : TT} {te : TE} {ts : List Str} {fs : List (Nat × Str)}
theorem CpScope.clos (S : CpScope X ts fs scope) (ok : X.Ok) : ∀ x ∈ scope.names, x.2 = .free → ∃ c, X.env.cells.lookup x.1 = some c := fun x hx hf => ok.has x.1 (S.free x hx hf)
theorem CpScope.sub (S : CpScope X ts fs scope) (ok : X.Ok) {y : Str} {c : Addr} (h : (scope.names.foldl (clF X.env) []).lookup y = some c) : X.env.cells.lookup y = some c := by
  rcases clF_look scope.names [] y c (S.clos ok) h with z | z
  · simp at z
  · exact z
theorem comp_start {pins : List (Addr × Obj)} {σ : St} {H : Hp} {s3 s4 : Shared} {ex : List Addr} (S : CpScope X ts fs scope) (I : Inv X pins σ H s3)
    (hex : ∀ b ∈ ex, FpOk X pins H b ∧ ∃ o, s3.heap.get? b = some o) (hos : s4.os = s3.os) (hg : s4.gens = s3.gens) (hk : ∀ b u, s3.heap.get? b = some u → s4.heap.get? b = some u)
    (hn : s4.heap.Ns s3.heap.objs.size fun _ => none) : Inv (cxC X (cpN ts fs) scope ex s3 H) [] (cpσ ts.length fs σ) H s4 := by
  have ok := I.ok
  have noC : ∀ b ∈ ex, b ≠ s3.heap.objs.size := fun b hb => by
    obtain ⟨_, o, ho⟩ := hex b hb
    exact Nat.ne_of_lt (Heap.lt_size ho)
  refine ⟨⟨ok.mod, S.kind, ok.glob, ok.blt, Nat.le_refl _, fun y z c h1 h2 => ok.inj y z c (S.sub ok h1) (S.sub ok h2), fun y hy => ?_, fun y c h _ => absurd h (by intro z; cases z), ok.hd, ok.frames, .inl rfl, fun b hb => ⟨noC b hb, fun x c e => (hex b hb).1.2.2.2.2.1 x c (S.sub ok e)⟩,
    I.bs, Nat.le_trans ok.bsz I.sz, fun b o e hb => ?_, fun b hb => ?_, I.stack, I.stkFree⟩, hos, by rw [hg]; exact I.bare, Un.kept hk, ⟨_, hn, fun i x v h1 h2 h3 => ?_⟩, fun y c e => ?_, I.hok.fresh (Nat.le_refl _), fun y c e => I.freeC y c (S.sub ok e),
    fun p hp => absurd (show p ∈ ([] : List (Addr × Obj)) from hp) (by simp), I.hok.kept hk, ?_⟩
  · have z : ∃ k', (k' = NameKind.cell ∨ k' = .free) ∧ (scope.names.map fun (n, k) => if (k == NameKind.free && X.env.scope.kind == .function && X.env.kindOf n == some .cell) then (n, NameKind.cell) else (n, k)).lookup y = some k' := by
      rcases hy with hy | hy
      · exact ⟨_, .inl rfl, hy⟩
      · exact ⟨_, .inr rfl, hy⟩
    obtain ⟨k', hk', hl⟩ := z
    obtain ⟨k, hm, h2⟩ := relabel_look hl
    have hf : k = .free := by
      rcases h2 with e | ⟨e, _⟩
      · subst e
        rcases hk' with e | e
        · exact absurd e (S.cell _ hm)
        · exact e
      · exact e
    exact clF_has scope.names [] y (.inl ⟨_, hm, hf, rfl⟩)
  · rcases (hex b hb).1.2.2.2.1 with z | z
    · exact ok.noex b o e z
    · exact absurd (Nat.lt_of_lt_of_le (Heap.lt_size e) (Nat.le_trans ok.bsz z)) (Nat.lt_irrefl _)
  · intro hb2
    rcases List.mem_cons.mp (I.stkSub b hb2) with e | e
    · exact (hex b hb).1.2.1 e
    · exact (hex b hb).1.2.2.1 e
  · unfold cpσ at h2
    by_cases hi : i < ts.length
    · rw [List.getElem?_append_left (by simpa using hi), List.getElem?_replicate] at h2
      split at h2 <;> cases h2
    · rw [List.getElem?_append_right (by simpa using hi), List.length_replicate] at h2
      have h1' : (cpN ts fs)[i]? = some x := h1
      unfold cpN at h1'
      rw [List.getElem?_append_right (by omega)] at h1'
      rw [List.getElem?_map] at h1' h2
      cases e : fs[i - ts.length]? with
      | none => rw [e] at h1'; cases h1'
      | some p =>
        rw [e] at h1' h2
        have ex' : p.2 = x := Option.some.inj h1'
        have e2 : (σ[p.1]?).join = some v := Option.some.inj h2
        have e3 : σ[p.1]? = some (some v) := by
          cases q : σ[p.1]? with
          | none => rw [q] at e2; cases e2
          | some o => rw [q] at e2; cases o with | none => cases e2 | some v' => cases e2; rfl
        obtain ⟨a1, a2, a3⟩ := S.at' p (List.mem_of_getElem? e)
        obtain ⟨m, _, hl⟩ := I.loc
        have kd := S.free _ a2 rfl
        have vis : Vis X.env.scope p.2 := by
          rcases kd with z | z
          · exact .inr (.inl z)
          · exact .inr (.inr z)
        obtain ⟨u, r, l⟩ := hl p.1 p.2 v a1 e3 vis
        refine ⟨u, r, ?_⟩
        rcases l with ⟨z, _⟩ | ⟨_, c, hc, hcell⟩
        · rcases kd with q | q
          · rw [q] at z; cases z
          · rw [q] at z; cases z
        · obtain ⟨c', hc'⟩ := clF_has (env := X.env) scope.names [] p.2 (.inl ⟨_, a2, rfl, rfl⟩)
          have ec : c' = c := Option.some.inj ((S.sub ok hc').symm.trans hc)
          subst ec
          subst ex'
          refine .inr ⟨?_, c', hc', ?_⟩
          · exact a3
          · obtain ⟨o, ho, hd⟩ := hcell
            exact ⟨o, hk _ _ ho, hd⟩
  · obtain ⟨v, o, ho, hd⟩ := I.cell y c (S.sub ok e)
    exact ⟨v, o, hk _ _ ho, hd⟩
  · unfold cpσ
    show _ = (cpN ts fs).length
    unfold cpN
    simp
theorem comp_end {pins : List (Addr × Obj)} {σ σ' : St} {H H' : Hp} {s3 s5 : Shared} {h' : Heap} {ex : List Addr} (S : CpScope X ts fs scope) (I : Inv X pins σ H s3) (hex : ∀ b ∈ ex, FpOk X pins H b)
    (J : Inv (cxC X (cpN ts fs) scope ex s3 H) [] σ' H' s5) (sb : Heap.SameBut s3.heap.objs.size s5.heap h') : Inv X pins σ H' { s5 with heap := h' } := by
  have nC : H' s3.heap.objs.size = none := J.free
  have old : ∀ b o, b ≠ s3.heap.objs.size → s5.heap.get? b = some o → h'.get? b = some o := fun b o hb e => sb.extBut b o hb e
  have lt : ∀ b o, s3.heap.get? b = some o → b ≠ s3.heap.objs.size := fun b o e => Nat.ne_of_lt (Heap.lt_size e)
  have u : Un (frs X.stack) ex H H' s3.heap s5.heap := J.base
  have u2 : Un (frs X.stack) ex H H' s3.heap h' :=
    ⟨fun b o e n hb hx => old b o (lt b o e) (u.keep b o e n hb hx), fun b o e n hb hx => by
      obtain ⟨sl, q⟩ := u.slot b o e n hb hx
      exact ⟨sl, old b _ (lt b o e) q⟩, u.free, fun b o e hx => by
      obtain ⟨o', q⟩ := u.there b o e hx
      exact ⟨o', old b o' (lt b o e) q⟩, u.tups, u.frzs, u.tbls⟩
  have hok : HOk X.prog X.w H' h' := fun b o e => by
    have nb : b ≠ s3.heap.objs.size := fun z => by rw [z, nC] at e; cases e
    refine (J.hok b o e).stay (fun c v hc q => old c v ?_ q) (fun _ q => q) fun _ _ q => q
    rcases hc with z | z
    · rw [z]; exact nb
    · intro z2; rw [z2, nC] at z; cases z
  exact I.call' (s' := { s5 with heap := h' }) (ch := ex) J.os u2 hok J.bare fun b hb => ⟨(hex b hb).2.2.2.1, (hex b hb).2.1, (hex b hb).2.2.2.2.1, (hex b hb).2.2.2.2.2⟩
theorem Inv.fade {pins : List (Addr × Obj)} {σ σ' : St} {H : Hp} {s : Shared} (I : Inv X pins σ' H s) (k : Kp σ σ') : Inv X pins σ H s := by
  refine ⟨I.ok, I.os, I.bare, I.base, ?_, I.cell, I.free, I.freeC, I.pin, I.hok, k.1.symm.trans I.len⟩
  obtain ⟨m, hn, hl⟩ := I.loc
  exact ⟨m, hn, fun i x v h1 h2 h3 => hl i x v h1 (k.2 i v h2) h3⟩
theorem comp_run {pins : List (Addr × Obj)} {σ : St} {H3 : Hp} {s3 s4 : Shared} {Q : VK} {R : Result → Shared → Prop} {fp : List Addr} {it p : Addr} {tn : Nat → Heap → Prop} {J : It} {W : Nat → Nat → List V → Hp → Prop} {m0 : Nat} (hc : X.calm = true) (S : CpScope X ts fs scope)
    (hg : ∀ ex s H, PG (cxC X (cpN ts fs) scope ex s H) tg g) (ht : ∀ ex s H, PTs (cxC X (cpN ts fs) scope ex s H) ifs tt) (he : ∀ ex s H, PE (cxC X (cpN ts fs) scope ex s H) elt te)
    (I3 : Inv X pins σ H3 s3) (T : Turn X.prog X.w X.K tg J fp it tn) (hex : ∀ b ∈ fp, FpOk X pins H3 b) (lt : ∀ b ∈ fp, b < s3.heap.objs.size)
    (I4 : Inv (cxC X (cpN ts fs) scope fp s3 H3) [] (cpσ ts.length fs σ) H3 s4) (st4 : tn 0 s4.heap) (w0 : W 0 m0 [] H3)
    (fin : ∀ H5 s6, Inv (cxC X (cpN ts fs) scope fp s3 H3) [] (cpσ ts.length fs σ) H5 s6 → Q (.ref p) H5 → R (.ok .next) s6)
    (turn : ∀ i m acc H2, W i m acc H2 → (J.stop i H2 ∧ Q (.ref p) H2) ∨ (J.go i H2 ∧ ∀ x H3, J.yld i H2 x H3 → g x (cpσ ts.length fs σ) H3 fun σ4 H4 => Kp (cpσ ts.length fs σ) σ4 ∧ tt σ4 H4 fun b H5 =>
      if b = true then te σ4 H5 fun y H6 => H6 p = some (.lst acc) ∧ acc.length < sizeLine ∧ ∃ m', m' < m ∧ W (i + 1) m' (acc ++ [y]) (upd H6 p (.lst (acc ++ [y]))) else ∃ m', m' < m ∧ W (i + 1) m' acc H5)) :
    codeAny (model X.prog X.w) X.A (.compLoop (.ListComp elt [⟨tg, iter, ifs, 0⟩] scope pos) 0 (.ref it) (.ref p) (cxC X (cpN ts fs) scope fp s3 H3).env) R s4 := by
  have stat : ∀ {H' : Hp}, (∀ b ∈ fp, H' b = none) → ∀ b ∈ fp, FpOk (cxC X (cpN ts fs) scope fp s3 H3) [] H' b := fun hn b hb =>
    ⟨hn b hb, Nat.ne_of_lt (lt b hb), fun z => (List.mem_cons.mp (I3.stkSub b z)).elim (hex b hb).2.1 (hex b hb).2.2.1, .inl hb, fun x c e => (hex b hb).2.2.2.2.1 x c (S.sub I3.ok e), fun q hq => absurd (show q ∈ ([] : List (Addr × Obj)) from hq) (by simp)⟩
  refine compLoop_any (fun n s' => ∃ i acc H', Inv (cxC X (cpN ts fs) scope fp s3 H3) [] (cpσ ts.length fs σ) H' s' ∧ tn i s'.heap ∧ (∀ b ∈ fp, H' b = none) ∧ W i n acc H') ?_ m0 ⟨0, [], H3, I4, st4, fun b hb => (hex b hb).1, w0⟩
  rintro n s5 ⟨i, acc, H5, I5, st5, fr5, w5⟩
  rcases turn i n acc H5 w5 with ⟨stop, q⟩ | ⟨go, step⟩
  · refine thn (T.done (cxC X (cpN ts fs) scope fp s3 H3) rfl rfl rfl hc i [] s5 _ H5 _ I5 (stat fr5) st5 stop) fun r s6 ⟨hr, I6⟩ => ?_
    subst hr
    exact fin H5 s6 I6 q
  · refine thn (T.item (cxC X (cpN ts fs) scope fp s3 H3) rfl rfl rfl hc i [] s5 _ H5 _ I5 (stat fr5) st5 go) fun r s6 ⟨u, hr, h6⟩ => ?_
    subst hr
    refine thn h6 fun _ s7 ⟨x, H7, I7, r7, y7, st7, fr7⟩ => ?_
    have I7' := I7.pinned (stat fr7) (T.obj _ _ st7)
    refine thn (hg fp s3 H3 _ s7 _ H7 x u _ I7' r7 (step x H7 y7)) fun _ s8 ⟨σ8, H8, I8, kp, q8⟩ => ?_
    have again : ∀ {H9 : Hp} {s9 : Shared} {acc' : List V} {m' : Nat}, Inv (cxC X (cpN ts fs) scope fp s3 H3) ([] ++ pinsAt fp s7.heap) σ8 H9 s9 → m' < n → W (i + 1) m' acc' H9 →
        ∃ m, m < n ∧ ∃ i acc H', Inv (cxC X (cpN ts fs) scope fp s3 H3) [] (cpσ ts.length fs σ) H' s9 ∧ tn i s9.heap ∧ (∀ b ∈ fp, H' b = none) ∧ W i m acc H' := fun {H9 s9 acc' m'} I9 hm w9 => by
      refine ⟨m', hm, i + 1, acc', H9, (I9.fade kp).unpinned, T.keep _ _ _ st7 fun b hb o e => (I9.pin (b, o) (List.mem_append_right _ (List.mem_append_right _ (mem_pinsAt hb e)))).1, fun b hb => ?_, w9⟩
      obtain ⟨o, e, d⟩ := T.obj _ _ st7 b hb
      exact (I9.pin (b, o) (List.mem_append_right _ (List.mem_append_right _ (mem_pinsAt hb e)))).2.1
    refine thn (ht fp s3 H3 _ s8 σ8 H8 _ I8 q8) fun ok s9 ⟨H9, I9, q9⟩ => ?_
    cases ok with
    | false =>
      rw [if_neg Bool.false_ne_true] at q9 ⊢
      obtain ⟨m', hm, w9⟩ := q9
      exact again I9 hm w9
    | true =>
      rw [if_pos rfl] at q9 ⊢
      refine thn (he fp s3 H3 _ s9 σ8 H9 _ I9 q9) fun y s10 ⟨yv, H10, I10, r10, hp10, hlen, m', hm, w10⟩ => ?_
      exact thn (mt_append _ s10 σ8 H10 (.ref p) [yv] (.ref p) [y] _ I10 rfl (.cons r10 .nil) ⟨p, acc, yv, rfl, rfl, hp10, hlen, w10⟩) fun _ s11 ⟨_, H11, I11, _, w11⟩ => again I11 hm w11
set_option maxHeartbeats 2000000 in
theorem comp_block {pos' : Pos} {pins : List (Addr × Obj)} {σ : St} {H : Hp} {s : Shared} {Q : VK} {QQ : Value → Shared → Prop} {use : Option (Value → Sem Unit)} (hc : X.calm = true) (S : CpScope X ts fs scope) (hi : PI X tg iter wi) (hg : ∀ ex s H, PG (cxC X (cpN ts fs) scope ex s H) tg g) (ht : ∀ ex s H, PTs (cxC X (cpN ts fs) scope ex s H) ifs tt)
    (he : ∀ ex s H, PE (cxC X (cpN ts fs) scope ex s H) elt te) (hs : ∀ x, foldedSetIterable iter X.env x = pure x) (I : Inv X pins σ H s) (h : tComp ts.length fs wi g tt te σ H Q)
    (fin : ∀ (H3 : Hp) (s3 : Shared) (fp : List Addr) (p : Addr) (H5 : Hp) (s6 : Shared), Inv X pins σ H3 s3 → (∀ b ∈ fp, FpOk X pins H3 b) → Inv (cxC X (cpN ts fs) scope fp s3 H3) [] (cpσ ts.length fs σ) H5 s6 → Q (.ref p) H5 → compPost (model X.prog X.w) X.A X.xe use QQ (.ref p) s3.heap.objs.size (.ok .next) s6) :
    wpAny (model X.prog X.w) X.A (comprehension (.ListComp elt [⟨tg, iter, ifs, 0⟩] scope pos) scope X.env pos' (newList []) false (eval iter X.env) use) QQ X.xe s := by
  refine wpAny_comprehension_free (use := use) rfl hs (closure_eq (S.clos I.ok)) S.kind S.names (thn (hi pins s σ H _ I h) fun v s1 h1 => thn h1 fun itv s2 h2 => ?_)
  obtain ⟨it, fp, tn, J, H2, rfl, I2, T, st2, f2, hw⟩ := h2
  refine wpAny_newObj_type (wpAny_newFunctionEnv S.cell (by intro y hy; simp at hy) (fun h₁ hns₁ hsb₁ => ?_) S.kind)
  dsimp only at hns₁ hsb₁ ⊢
  have I3 := I2.lnew (its := []) (ys := []) (t' := s2.toks) .nil (Nat.zero_le _)
  have hD : H2 s2.heap.objs.size = none := I2.fresh
  obtain ⟨W, ⟨m0, w0⟩, turn⟩ := hw _ hD
  have up : ∀ b o, s2.heap.get? b = some o → (s2.heap.push { cls := .type "list", data := .seq ([] : List Value).toArray }).get? b = some o := fun b o e => Heap.get?_push_of_some _ e
  have hex : ∀ b ∈ fp, FpOk X pins (upd H2 s2.heap.objs.size (.lst [])) b ∧ ∃ o, (s2.heap.push { cls := .type "list", data := .seq ([] : List Value).toArray }).get? b = some o := fun b hb => by
    obtain ⟨o, ho, _⟩ := T.obj _ _ st2 b hb
    have nb : b ≠ s2.heap.objs.size := Nat.ne_of_lt (Heap.lt_size ho)
    exact ⟨⟨by rw [upd_ne nb]; exact (f2 b hb).1, (f2 b hb).2⟩, o, up b o ho⟩
  have hk4 : ∀ b u, (s2.heap.push { cls := .type "list", data := .seq ([] : List Value).toArray }).get? b = some u → h₁.get? b = some u := fun b u e =>
    hsb₁.extBut b u (Nat.ne_of_lt (Heap.lt_size e)) (Heap.get?_push_of_some _ e)
  have I4 := comp_start (s4 := { s2 with heap := h₁, toks := s2.toks }) S I3 hex rfl rfl hk4 hns₁
  have st4 : tn 0 h₁ := T.keep _ _ _ st2 fun b _ o e => hk4 b o (up b o e)
  have run := comp_run (elt := elt) (iter := iter) (pos := pos) hc S hg ht he I3 T (fun b hb => (hex b hb).1) (fun b hb => Heap.lt_size (hex b hb).2.choose_spec) I4 st4 w0 (fun H5 s6 I6 q => fin _ _ fp _ H5 s6 I3 (fun b hb => (hex b hb).1) I6 q) turn
  exact codeAny_compStart_list run (T.self X.A 0 _ _ _ st4 run)
theorem pe_comp (hc : X.calm = true) (S : CpScope X ts fs scope) (hi : PI X tg iter wi) (hg : ∀ ex s H, PG (cxC X (cpN ts fs) scope ex s H) tg g) (ht : ∀ ex s H, PTs (cxC X (cpN ts fs) scope ex s H) ifs tt)
    (he : ∀ ex s H, PE (cxC X (cpN ts fs) scope ex s H) elt te) (hs : ∀ x, foldedSetIterable iter X.env x = pure x := by intro _; rfl) :
    PE X (.ListComp elt [⟨tg, iter, ifs, 0⟩] scope pos) (tComp ts.length fs wi g tt te) := by
  intro pins s σ H Q I h
  rw [eval_ListComp]
  refine comp_block (use := none) hc S hi hg ht he hs I h fun H3 s3 fp p H5 s6 I3 hex I6 q => ?_
  obtain ⟨m, hn, _⟩ := I6.loc
  exact ⟨m, hn, fun h' sb => ⟨.ref p, H5, comp_end S I3 hex I6 sb, rfl, q⟩⟩
theorem ps_comp {g' : TG} {y : Str} {py spos : Pos} (hc : X.calm = true) (S : CpScope X ts fs scope) (hi : PI X tg iter wi) (hg : ∀ ex s H, PG (cxC X (cpN ts fs) scope ex s H) tg g) (ht : ∀ ex s H, PTs (cxC X (cpN ts fs) scope ex s H) ifs tt)
    (he : ∀ ex s H, PE (cxC X (cpN ts fs) scope ex s H) elt te) (hn : PG X (.Name y py) g') (hsw : swapsWith (.ListComp elt [⟨tg, iter, ifs, 0⟩] scope pos) (some (.Name y py)) spos.line X.env = pure true := by rfl) (hs : ∀ x, foldedSetIterable iter X.env x = pure x := by intro _; rfl) :
    PS X (.Assign [.Name y py] (.ListComp elt [⟨tg, iter, ifs, 0⟩] scope pos) spos) (tAsg (tComp ts.length fs wi g tt te) g') := by
  intro pins s σ H D I h
  rw [exec_Assign_Name_used _ _ _ _ hsw]
  refine wpAny_bind (wpAny_standAt (wpAny_bind ?_))
  show wpAny _ X.A (do let _ ← comprehension (.ListComp elt [⟨tg, iter, ifs, 0⟩] scope pos) scope X.env _ (newList []) false (eval iter X.env) (some (assign (.Name y py) X.env))) _ _ s
  refine wpAny_bind (wpAny_mono (comp_block (use := some (assign (.Name y py) X.env)) (QQ := fun _ s' => SP X pins D .next s') hc S hi hg ht he hs I h fun H3 s3 fp p H5 s6 I3 hex I6 q => ?_) (fun _ s' hq => wpAny_pure (wpAny_pure hq)) fun _ _ e => e)
  have J : Inv X pins σ H5 s6 := comp_end S I3 hex I6 (Heap.SameBut.refl _ _)
  obtain ⟨m, ⟨o, es, ep, ho, hd, hsk, hf⟩, _⟩ := I6.loc
  have ho' : s6.heap.get? s3.heap.objs.size = some o := ho
  have fC : FpOk X pins H5 s3.heap.objs.size := I3.fpOk (Nat.le_refl _) I6.free
  have J' := J.pinned (fp := [s3.heap.objs.size]) (fun b hb => by
    have e : b = s3.heap.objs.size := by simpa using hb
    subst e
    exact fC) (fun b hb => by
    have e : b = s3.heap.objs.size := by simpa using hb
    subst e
    exact ⟨o, ho', fun v z => by rw [hd] at z; cases z⟩)
  refine thn (hn _ s6 σ H5 (.ref p) (.ref p) _ J' rfl q) fun _ s7 ⟨σ7, H7, I7, q7⟩ => ?_
  have pC := I7.pin (s3.heap.objs.size, o) (List.mem_append_right _ (List.mem_append_right _ (mem_pinsAt (by simp) ho')))
  exact ⟨m, ⟨o, es, ep, pC.1, hd, hsk, hf⟩, fun h' sb => ⟨σ7, H7, I7.unpinned.turned (t' := s7.toks) (fun b o hb e => sb.extBut b o hb e) pC.2.1 fC.2.1 fC.2.2.2.1 fC.2.2.2.2.1 fC.2.2.2.2.2, q7⟩⟩
end
section
variable {K : PySem.W.Frag} {H1 : Hp} {p : Addr} {cσ : St} {g : TG} {te : TE} {Q : VK} {α : Type} {es : List α} {inj : α → V}
def Wk (J : It) (H1 : Hp) (es : List α) (inj : α → V) : Prop := ∀ i H', Same H1 H' → (es[i]? = none → J.stop i H') ∧ ∀ e, es[i]? = some e → J.go i H' ∧ ∀ x H3, J.yld i H' x H3 → H3 = H' ∧ x = inj e
theorem wk_list {a : Addr} (h : SqL K H1 a (es.map inj)) : Wk (Itl K a) H1 es inj := fun i H' s => by
  have h' := s.seq h
  refine ⟨fun e => ⟨_, h', ?_⟩, fun e he => ⟨⟨_, inj e, h', by rw [List.getElem?_map, he]; rfl⟩, fun x H3 ⟨e1, e2⟩ => ⟨e1, ?_⟩⟩⟩
  · rw [List.length_map]
    exact List.getElem?_eq_none_iff.mp e
  · have z := e2 _ h'
    rw [List.getElem?_map, he] at z
    exact (Option.some.inj z).symm
theorem wk_tup {a : Addr} (h : SqT K H1 a (es.map inj)) : Wk (Itt K a) H1 es inj := fun i H' s => by
  have h' := s.tup h
  refine ⟨fun e => ⟨_, h', ?_⟩, fun e he => ⟨⟨_, inj e, h', by rw [List.getElem?_map, he]; rfl⟩, fun x H3 ⟨e1, e2⟩ => ⟨e1, ?_⟩⟩⟩
  · rw [List.length_map]
    exact List.getElem?_eq_none_iff.mp e
  · have z := e2 _ h'
    rw [List.getElem?_map, he] at z
    exact (Option.some.inj z).symm
theorem wk_range {lo : Int} {n : Nat} : Wk (Itr lo n) H1 (List.range n) (fun i => .int (lo + (i : Nat))) := fun i H' s => by
  refine ⟨fun e => ?_, fun e he => ?_⟩
  · have := List.getElem?_eq_none_iff.mp e
    show n ≤ i
    simpa using this
  · obtain ⟨h, z⟩ := List.getElem?_eq_some_iff.mp he
    have hi : i < n := by simpa using h
    have z' : i = e := by simpa using z
    subst z'
    exact ⟨hi, fun x H3 ⟨e1, e2⟩ => ⟨e1, e2⟩⟩
theorem cin_map {J : It} (f : α → V) (hz : es.length ≤ sizeLine) (hp : H1 p = none) (hJ : Wk J H1 es inj)
    (step : ∀ e H' R, e ∈ es → Same H1 H' → (∀ H6, Same H' H6 → R (f e) H6) → g (inj e) cσ H' fun σ4 H4 => Kp cσ σ4 ∧ te σ4 H4 R)
    (done : ∀ H', Same H1 H' → H' p = some (.lst (es.map f)) → Q (.ref p) H') : cIn J cσ g tNoIf te Q H1 p := by
  have su : ∀ {H' : Hp} {o : HO}, Same H1 H' → Same H1 (upd H' p o) := fun {H' o} s b u e => by
    rw [upd_ne (ne_of_none e hp)]
    exact s b u e
  refine ⟨fun i m acc H' => m = es.length - i ∧ i ≤ es.length ∧ acc = (es.take i).map f ∧ H' p = some (.lst acc) ∧ Same H1 H', ⟨es.length, by simp, Nat.zero_le _, by simp, upd_same, su (Same.refl _)⟩, ?_⟩
  rintro i m acc H' ⟨rfl, hi, rfl, hH, s⟩
  cases he : es[i]? with
  | none =>
    have hl := List.getElem?_eq_none_iff.mp he
    have e : i = es.length := Nat.le_antisymm hi hl
    subst e
    rw [List.take_length] at hH
    exact .inl ⟨(hJ _ _ s).1 he, done _ s hH⟩
  | some e =>
    obtain ⟨go, yl⟩ := (hJ _ _ s).2 e he
    refine .inr ⟨go, fun x H3 y => ?_⟩
    obtain ⟨rfl, rfl⟩ := yl x H3 y
    obtain ⟨hlt, e'⟩ := List.getElem?_eq_some_iff.mp he
    have tk : es.take (i + 1) = es.take i ++ [e] := by rw [List.take_succ, he]; rfl
    have q := step e H3 (fun y H6 => H6 p = some (.lst ((es.take i).map f)) ∧ ((es.take i).map f).length < sizeLine ∧ ∃ m', m' < es.length - i ∧ m' = es.length - (i + 1) ∧ i + 1 ≤ es.length ∧ (es.take i).map f ++ [y] = (es.take (i + 1)).map f ∧
        upd H6 p (.lst ((es.take i).map f ++ [y])) p = some (.lst ((es.take i).map f ++ [y])) ∧ Same H1 (upd H6 p (.lst ((es.take i).map f ++ [y])))) (List.mem_of_getElem? he) s
      (fun H6 s6 => ⟨s6 _ _ hH, by rw [List.length_map, List.length_take]; omega, _, by omega, rfl, hlt, by rw [tk, List.map_append]; rfl, upd_same, su (s.trans s6)⟩)
    have eq : ∀ (R : VK) (B : Hp → Prop), (fun σ4 H4 => Kp cσ σ4 ∧ tNoIf σ4 H4 fun b H5 => if b = true then te σ4 H5 R else B H5) = (fun σ4 H4 => Kp cσ σ4 ∧ te σ4 H4 R) := fun R B => by
      funext σ4 H4
      show (Kp cσ σ4 ∧ if true = true then te σ4 H4 R else B H4) = _
      rw [if_pos rfl]
    rw [eq]
    exact q
end
section
variable {X : Cx} {K : PySem.W.Frag} {σ : St} {H : Hp} {Q : VK} {R : It → Hp → Prop}
theorem z_comp {n : Nat} {fs : List (Nat × Str)} {wi : TI} {g : TG} {tt : TT} {te : TE} : tComp n fs wi g tt te σ H Q = wi σ H (fun J H1 => ∀ p, H1 p = none → cIn J (cpσ n fs σ) g tt te Q H1 p) := rfl
theorem z_rng1 {ta : TA} : iRng1 ta σ H R = ta σ H (fun vs H1 => ∃ j : Int, vs = [.int j] ∧ -(2 ^ 62) ≤ j ∧ j < 2 ^ 62 ∧ R (Itr 0 j.toNat) H1) := rfl
theorem z_rng2 {ta : TA} : iRng2 ta σ H R = ta σ H (fun vs H1 => ∃ i j : Int, vs = [.int i, .int j] ∧ (-(2 ^ 62) ≤ i ∧ i < 2 ^ 62 ∧ -(2 ^ 62) ≤ j ∧ j < 2 ^ 62) ∧ R (Itr i (j - i).toNat) H1) := rfl
theorem z_ilist {tl : TE} : iList K tl σ H R = tl σ H (fun x H1 => ∃ a, x = .ref a ∧ (∃ xs, SqL K H1 a xs) ∧ R (Itl K a) H1) := rfl
theorem z_itup {tl : TE} : iTup K tl σ H R = tl σ H (fun x H1 => ∃ a, x = .ref a ∧ (∃ xs, SqT K H1 a xs) ∧ R (Itt K a) H1) := rfl
theorem z_exr {a : Addr} {p : Addr → Prop} : (∃ b, V.ref a = .ref b ∧ p b) = p a := propext ⟨fun ⟨_, e, h⟩ => by cases e; exact h, fun h => ⟨a, rfl, h⟩⟩
theorem z_kp1 {v : Option V} {r : St} : Kp (none :: r) (v :: r) = True := by
  refine eq_true ⟨rfl, fun i u e => ?_⟩
  cases i with
  | zero => cases e
  | succ i => exact e
theorem z_kp2 {v v' : Option V} {r : St} : Kp (none :: none :: r) (v :: v' :: r) = True := by
  refine eq_true ⟨rfl, fun i u e => ?_⟩
  cases i with
  | zero => cases e
  | succ i =>
    cases i with
    | zero => cases e
    | succ i => exact e
theorem z_intB {k : Bool} {p : Int → Prop} {q : Bool → Prop} : ((∃ i, [V.bl k] = [V.int i] ∧ p i) ∨ ∃ k', [V.bl k] = [V.bl k'] ∧ q k') = q k :=
  propext ⟨fun h => h.elim (fun ⟨_, e, _⟩ => by cases e) fun ⟨_, e, h⟩ => by cases e; exact h, fun h => .inr ⟨k, rfl, h⟩⟩
end
end L2
namespace L2
open PySem PySem.Spec PyProof.Rows
def FI (J : It) (g : TG) (tb : TS) (D : Ends) (σ : St) (H : Hp) : Prop := ∃ W : Nat → Nat → St → Hp → Prop, (∃ m, W 0 m σ H) ∧ ∀ i m σ H, W i m σ H →
  (J.stop i H ∧ D.nx σ H) ∨ (J.go i H ∧ ∃ N : St → Hp → Prop, (∀ σ' H', N σ' H' → ∃ m', m' < m ∧ W (i + 1) m' σ' H') ∧ ∀ x H', J.yld i H x H' → g x σ H' fun σ2 H2 => tb { D with nx := N, ct := N, bk := D.nx } σ2 H2)
theorem z_for {wi : TI} {g : TG} {tb : TS} {D : Ends} {σ : St} {H : Hp} : tFor wi g tb D σ H = wi σ H (fun J H1 => FI J g tb D σ H1) := rfl
section
variable {K : PySem.W.Frag} {σ : St} {H : Hp} {g : TG} {tb : TS} {D : Ends} {α : Type} {es : List α} {inj : α → V}
def WkAt (J : It) (H : Hp) (es : List α) (inj : α → V) : Prop := ∀ i, (es[i]? = none → J.stop i H) ∧ ∀ e, es[i]? = some e → J.go i H ∧ ∀ x H3, J.yld i H x H3 → H3 = H ∧ x = inj e
theorem wkAt_list {a : Addr} (h : SqL K H a (es.map inj)) : WkAt (Itl K a) H es inj := fun i => wk_list h i H (Same.refl _)
theorem wkAt_tup {a : Addr} (h : SqT K H a (es.map inj)) : WkAt (Itt K a) H es inj := fun i => wk_tup h i H (Same.refl _)
theorem wkAt_range {lo : Int} {n : Nat} : WkAt (Itr lo n) H (List.range n) (fun i => .int (lo + (i : Nat))) := fun i => wk_range i H (Same.refl _)
theorem fi_by {J : It} (Pv : List α → St → Hp → Prop) (h0 : Pv [] σ H) (hw : ∀ pre σ H, Pv pre σ H → WkAt J H es inj)
    (hs : ∀ pre e post σ H, es = pre ++ e :: post → Pv pre σ H → g (inj e) σ H fun σ2 H2 => tb { D with nx := Pv (pre ++ [e]), ct := Pv (pre ++ [e]), bk := D.nx } σ2 H2) (hd : ∀ σ H, Pv es σ H → D.nx σ H) : FI J g tb D σ H := by
  refine ⟨fun i m σ H => m = es.length - i ∧ i ≤ es.length ∧ Pv (es.take i) σ H, ⟨es.length, by simp, Nat.zero_le _, h0⟩, ?_⟩
  rintro i m σ H ⟨rfl, hi, p⟩
  have w := hw _ _ _ p i
  cases he : es[i]? with
  | none =>
    have e : i = es.length := Nat.le_antisymm hi (List.getElem?_eq_none_iff.mp he)
    subst e
    rw [List.take_length] at p
    exact .inl ⟨w.1 he, hd _ _ p⟩
  | some e =>
    obtain ⟨hlt, ee⟩ := List.getElem?_eq_some_iff.mp he
    have tk : es.take (i + 1) = es.take i ++ [e] := by rw [List.take_succ, he]; rfl
    have sp : es = es.take i ++ e :: es.drop (i + 1) := by
      rw [← ee, ← List.drop_eq_getElem_cons hlt, List.take_append_drop]
    refine .inr ⟨(w.2 e he).1, Pv (es.take i ++ [e]), fun σ' H' q => ⟨es.length - (i + 1), by omega, rfl, hlt, by rw [tk]; exact q⟩, fun x H' y => ?_⟩
    obtain ⟨rfl, rfl⟩ := (w.2 e he).2 x H' y
    exact hs _ e _ σ H' sp p
end
end L2
namespace L2
open PySem PySem.Spec PyProof.Rows
section
variable {K : PySem.W.Frag} {σ : St} {H : Hp} {Q : VK}
theorem z_sl {r : V → Option Int → Option Int → Hp → VK → Prop} {te : TE} {tl th : TO} : tSl r te tl th σ H Q = te σ H (fun x H1 => tl σ H1 fun l H2 => th σ H2 fun u H3 => r x l u H3 Q) := rfl
theorem z_nopart {R : Option Int → Hp → Prop} : tNoPart σ H R = R none H := rfl
theorem z_part {t : TE} {R : Option Int → Hp → Prop} : tPart t σ H R = t σ H (fun x H1 => ∃ i, x = .int i ∧ R (some i) H1) := rfl
theorem z_bm0 {T : String} {r : V → List V → Hp → VK → Prop} {to : TE} : tBM0 K T r to σ H Q = to σ H (fun x H1 => tyV K T x H1 ∧ r x [] H1 Q) := rfl
theorem z_bm {T : String} {r : V → List V → Hp → VK → Prop} {to : TE} {t : TA} : tBM K T r to t σ H Q = to σ H (fun x H1 => tyV K T x H1 ∧ t σ H1 fun xs H2 => r x xs H2 Q) := rfl
end
section
variable {CX : CXT} {P : Program} {w : World} {K : PySem.W.Frag} {mg : Str → Option Value} {base : Heap} {N : List Str} {qual : Str} {scope : Scope} {f : Addr} {cd : Value} {A : Around} {outer : List Env} {s : Shared} {H H1 H2 : Hp} {E : XK} {Q : VK} {a b : Addr} {ns ms : List Int} {g : Bool → Bool}
theorem z_cxK : (cxOf CX P w K mg base N qual scope f cd A outer s H E).K = K := rfl
theorem z_noxK : (cxOf CX P w K mg base N qual scope f cd A outer s H E).nox.K = K := rfl
theorem shaped_lints (ns : List Int) : SeqAt.shaped (.list (ns.map PyData.int)) = true := by
  simp [SeqAt.shaped, PyData.canLay0, PyData.depth, PySem.W.ke_canLayAll0, PySem.W.ke_depthAll]
theorem eq_lints (ha : SqL K H a (ns.map V.int)) (hb : SqL K H b (ms.map V.int)) (h : Q (.bl (g (decide (ns = ms)))) H) : rEqD K g (.ref a) (.ref b) H Q :=
  ⟨_, _, .lints ha, .lints hb, shaped_lints _, shaped_lints _, by rw [PyData.eqv, eqv_ints]; exact h⟩
end
end L2
namespace L2
open PySem PySem.Spec PyProof.Rows
section
variable {c : TT} {tb : TS} {D : Ends} {σ : St} {H : Hp}
def WB (Pv : St → Hp → Prop) (μ : St → Hp → Nat) (tb : TS) (D : Ends) (n : Nat) (σ : St) (H : Hp) : Prop :=
  ∃ N : St → Hp → Prop, (∀ σ' H', N σ' H' → ∃ m', m' < n ∧ (m' = μ σ' H' ∧ Pv σ' H')) ∧ tb { D with nx := N, ct := N, bk := D.nx } σ H
theorem wb_of {Pv : St → Hp → Prop} {μ : St → Hp → Nat} {n : Nat} (h : tb { D with nx := fun σ' H' => Pv σ' H' ∧ μ σ' H' < n, ct := fun σ' H' => Pv σ' H' ∧ μ σ' H' < n, bk := D.nx } σ H) : WB Pv μ tb D n σ H :=
  ⟨_, fun _ _ ⟨p, l⟩ => ⟨_, l, rfl, p⟩, h⟩
theorem while_go (Pv : St → Hp → Prop) (μ : St → Hp → Nat) (h0 : Pv σ H) (hs : ∀ σ H, Pv σ H → c σ H fun b H1 => if b = true then WB Pv μ tb D (μ σ H) σ H1 else D.nx σ H1) : tWhile c tb D σ H := by
  refine ⟨fun m σ H => m = μ σ H ∧ Pv σ H, ⟨_, rfl, h0⟩, ?_⟩
  rintro m σ H ⟨rfl, p⟩
  exact hs σ H p
end
theorem z_exlr {a : Addr} {p : Addr → Prop} : (∃ b, [V.ref a] = [.ref b] ∧ p b) = p a := propext ⟨fun ⟨_, e, h⟩ => by cases e; exact h, fun h => ⟨a, rfl, h⟩⟩
section
variable {K : PySem.W.Frag} {σ : St} {H : Hp} {Q : St → Hp → Prop} {R : VK} {p a b : Addr} {v w : V} {i j : Nat} {xs : List V} {ns ms : List Int} {f : Bool → Bool}
theorem g_pair (h : SqT K H p [v, w]) (q : Q ((σ.set i (some v)).set j (some w)) H) : gTup K 2 (gCons (gName i) (gCons (gName j) gNil)) (.ref p) σ H Q := ⟨p, _, rfl, h, rfl, v, _, rfl, w, _, rfl, rfl, q⟩
theorem z_gsub {to ti : TE} {t : TSet} : gSub to ti t v σ H Q = to σ H (fun o H1 => ti σ H1 fun i H2 => t o i v H2 fun H3 => Q σ H3) := rfl
theorem eq_tints (ha : SqT K H a (ns.map V.int)) (hb : SqT K H b (ms.map V.int)) (h : R (.bl (f (decide (ns = ms)))) H) : rEqT K f (.ref a) (.ref b) H R := ⟨a, b, ns, ms, rfl, rfl, ha, hb, h⟩
end
end L2
namespace L2
open PySem PySem.Spec PyProof.Rows
open AutoSeq1 (wpAny_loadPart') in
section
variable {X : Cx} {pins : List (Addr × Obj)} {σ : St} {H : Hp} {s : Shared} {h' : Heap}
theorem Inv.turnL {t' : Nat} {fp : List Addr} (I : Inv X pins σ H s) (k : ∀ b o, b ∉ fp → s.heap.get? b = some o → h'.get? b = some o) (hf : ∀ b ∈ fp, FpOk X pins H b) : Inv X pins σ H { s with heap := h', toks := t' } := by
  have nf : ∀ b u, H b = some u → b ∉ fp := fun b u e z => by
    have := (hf b z).1
    rw [this] at e
    cases e
  refine I.step (g' := s.gens) (d' := s.drawn) (ch := fp) (fun b hb => ⟨(hf b hb).2.2.2.1, (hf b hb).2.1, (hf b hb).2.2.2.2.1, (hf b hb).2.2.2.2.2⟩) (fun b o _ _ hc e _ => k b o hc e) (fun b o _ _ hc e _ => ⟨o.slots, k b o hc e⟩) (fun _ _ _ _ n => n)
    (fun b o hc e => ⟨o, k b o hc e⟩) (fun _ _ e => e) (fun _ _ _ e => e) (fun b ps e => ⟨#[], by rw [e]; simp⟩) (fun m hm => ?_) (fun b u e => ?_) I.bare
  · obtain ⟨o, es, ep, ho, r⟩ := hm
    exact ⟨o, es, ep, k _ o (fun z => (hf _ z).2.1 rfl) ho, r⟩
  · refine (I.hok b u e).stay (fun c v hc q => k c v ?_ q) (fun _ q => q) fun _ _ q => q
    rcases hc with z | z
    · rw [z]
      exact nf b u e
    · exact nf c _ z
end
def Ite (K : PySem.W.Frag) (a : Addr) : It :=
  ⟨fun i H => ∃ xs x, SqT K H a xs ∧ xs[i]? = some x, fun i H x H' => ∃ p v, (∀ xs, SqT K H a xs → xs[i]? = some v) ∧ H p = none ∧ x = .ref p ∧ H' = upd H p (.tup [.int (i : Nat), v]), fun i H => ∃ xs, SqT K H a xs ∧ xs.length ≤ i⟩
section
variable {X : Cx} {a : Expr} {ta : TA} {el : List Expr} {x1} {tp p pos : Pos}
def iEn (K : PySem.W.Frag) (ta : TA) : TI := fun σ H R => ta σ H fun vs H1 => ∃ a, vs = [.ref a] ∧ (∃ xs, SqT K H1 a xs) ∧ R (Ite K a) H1
end
theorem z_ien {K : PySem.W.Frag} {σ : St} {H : Hp} {ta : TA} {R : It → Hp → Prop} : iEn K ta σ H R = ta σ H (fun vs H1 => ∃ a, vs = [.ref a] ∧ (∃ xs, SqT K H1 a xs) ∧ R (Ite K a) H1) := rfl
end L2
namespace L2
open PySem PySem.Spec PyProof.Rows
section
variable {X : Cx}
theorem call_all (hc : X.calm = true) : CallR X (.builtin "all") (fun xs H Q => ∃ (a : Addr) (bs : List Bool), xs = [.ref a] ∧ SqL X.K H a (bs.map V.bl) ∧ Q (.bl (bs.all id)) H) := by
  intro pins s σ H xs us Q I r h
  obtain ⟨a, bs, rfl, ha, q⟩ := h
  obtain ⟨u, rfl, ru⟩ := vals1 r
  cases ru
  obtain ⟨its, rv, p, hz⟩ := I.list ha
  have hl : s.heap.IsList a its.toArray := p.isList
  have lt : a < s.heap.objs.size := by
    obtain ⟨_, e, _⟩ := hl
    exact Heap.lt_size e
  have ln : its.length = bs.length := by
    have := rv.length
    rw [List.length_map] at this
    exact this.symm
  refine call_all_walk (wpAny_pyIter_list hl ?_)
  refine ⟨s.heap.objs.size, [s.heap.objs.size, a], [s.heap.objs.size], its.toArray.size, _, _, fun i => (bs[i]?).getD true, rfl, Walks.list (A := X.A.in1) (I.ok.hd hc) _ a (Nat.ne_of_lt lt) its.toArray,
    ⟨⟨_, Heap.get?_push_size _ rfl, rfl, rfl⟩, hl.push _⟩, fun i v s' Q' E' hP hQ => ?_, fun g tk hk => ?_⟩
  · have hv : its[i]? = some v := by simpa using hP
    have hi : i < its.length := (List.getElem?_eq_some_iff.mp hv).1
    have hb : bs[i]? = some bs[i] := List.getElem?_eq_getElem (by omega)
    obtain ⟨w', hw, rw'⟩ := rv.get (show (bs.map V.bl)[i]? = some (V.bl bs[i]) by rw [List.getElem?_map, hb]; rfl)
    rw [hv] at hw
    cases hw
    cases rw'
    simp only [hb, Option.getD_some] at hQ
    exact wpAny_truthy_bool hQ
  · have e : ((List.range its.toArray.size).all fun i => (bs[i]?).getD true) = bs.all id := by
      rw [List.size_toArray, ln, Bool.eq_iff_iff, List.all_eq_true, List.all_eq_true]
      constructor
      · intro h x hx
        obtain ⟨i, hi, ei⟩ := List.getElem_of_mem hx
        have := h i (List.mem_range.mpr hi)
        rw [List.getElem?_eq_getElem hi, ei] at this
        exact this
      · intro h i hi
        have hi' := List.mem_range.mp hi
        rw [List.getElem?_eq_getElem hi']
        exact h _ (List.getElem_mem hi')
    rw [e]
    exact ⟨.bl _, H, I.kept (t' := tk) fun b o q' => hk b o (fun hm => by rw [List.mem_singleton.mp hm] at q'; exact Nat.lt_irrefl _ (Heap.lt_size q')) (Heap.get?_push_of_some _ q'), rfl, q⟩
end
open AutoSeq1 (wpAny_loadPart') in
open AutoSeq1 (wpAny_loadPart') in
open AutoSeq1 (wpAny_loadPart') in
section
variable {X : Cx}
theorem ix_listK (K : PySem.W.Frag) (h : X.K = K := by rfl) : IxR X (rIxL K) := by subst h; exact ix_list
theorem ix_tupK (K : PySem.W.Frag) (h : X.K = K := by rfl) : IxR X (rIxT K) := by subst h; exact ix_tup
end
section
variable {X : Cx}
theorem call_isT : CallR X (.builtin "isinstance") (fun xs H Q => ∃ (a : Addr) (ys : List V) (T : String) (b : Bool), xs = [.ref a, .ty T] ∧ SqT X.K H a ys ∧ PySem.W.kitOne X.K (.type "tuple") (.type T) = some b ∧ Q (.bl b) H) := by
  intro pins s σ H xs us Q I r h
  obtain ⟨a, ys, T, b, rfl, ht, hk, q⟩ := h
  obtain ⟨u, c, rfl, ru, rc⟩ := vals2 r
  cases rc
  cases ru
  obtain ⟨its, rv, p, _⟩ := I.tuple ht
  obtain ⟨o, h1, h2, _⟩ := (show s.heap.IsTuple a its.toArray from p)
  exact PySem.W.kia_one PySem.W.kitx_tuple I.kIn ⟨o, h1, h2⟩ hk (fun z => nomatch z) fun tk => ⟨.bl b, H, I.tok tk, rfl, q⟩
end
section
variable {prog : Program} {w : World} {A : Around} {E : Value → Shared → Prop} {s : Shared}
theorem whole_tup {t sl : Addr} {ys : Array Value} {vl vu : Value} {lo hi : Option Int} {Q : Value → Shared → Prop} (ht : IsTup s.heap t ys) (hs : s.heap.IsSliceOf sl vl vu .none) (pl : IsPart vl lo) (pu : IsPart vu hi)
    (w1 : HT.sIx ys.size 0 lo = 0) (w2 : HT.sIx ys.size ys.size hi = ys.size) (h : Q (.ref t) s) : wpAny (model prog w) A (getItem (.ref t) (.ref sl)) Q E s := by
  obtain ⟨os, eos, cs, ds⟩ := id hs
  have ty : s.TypeIs (.ref sl) "slice" := ⟨os, eos, cs⟩
  unfold getItem
  try with_reducible refine (wpAny_holding ?_)
  first | refine (wpAny_bind (wpAny_pure ?_)) | skip
  refine wpAny_bind (wpAny_sequenceKey ht.typeIs (by decide) (?_))
  refine wpAny_bind (wpAny_callSpecial?_slot (name := Str.ofString "__getitem__") ht.typeIs PyProof.Rows.slot_tuple_getitem (wpAny_call_entry PyProof.Rows.slot_tuple_getitem ht.typeIs entry_tuple_getitem ?_ (args_tuple_getitem _ _)))
  show wpAny _ A.in1 (Builtin.Tuple.tupleItemsOf (.ref t) >>= _) _ _ s
  refine wpAny_bind (tupleItemsOf_ ht (?_))
  refine wpAny_bind (wpAny_typeOf ty ?_)
  rw [if_pos (by decide)]
  refine wpAny_bind (HT.sliceApplied_gen hs pl pu ?_)
  have yes : (((HT.sIx ys.size 0 lo : Nat) : Int) == 0 && (1 : Int) == 1 && (HT.sIx ys.size ys.size hi - HT.sIx ys.size 0 lo) == ys.size) = true := by
    rw [w1, w2]
    simp
  show wpAny _ A.in1 (if (((HT.sIx ys.size 0 lo : Nat) : Int) == 0 && (1 : Int) == 1 && (HT.sIx ys.size ys.size hi - HT.sIx ys.size 0 lo) == ys.size) = true then _ else _) _ _ s
  rw [if_pos yes]
  refine wpAny_bind ?_
  unfold Builtin.Tuple.tupleIsExact
  refine wpAny_bind (wpAny_typeOf ht.typeIs (wpAny_pure ?_))
  rw [if_pos (by decide)]
  exact wpAny_bind (wpAny_rule (wpAny_pure ⟨_, rfl, wpAny_pure h⟩))
end
section
variable {X : Cx}
def rSlA (K : PySem.W.Frag) : V → Option Int → Option Int → Hp → VK → Prop := fun x lo hi H Q => ∃ a xs, x = .ref a ∧ SqT K H a xs ∧ ∀ z H', Same H H' → SqT K H' z (cutV xs lo hi) → Q (.ref z) H'
theorem sl_tupA : SlR X (rSlA X.K) := by
  intro pins s σ H x v vl vu lo hi sl Q I rx hs pl pu h
  obtain ⟨a, xs, rfl, hx, q⟩ := h
  by_cases hw : HT.sIx xs.length 0 lo = 0 ∧ HT.sIx xs.length xs.length hi = xs.length
  · cases rx
    obtain ⟨its, r, ht, hz⟩ := I.tuple hx
    have hlen : its.toArray.size = xs.length := by rw [List.size_toArray]; exact r.length.symm
    refine ⟨"tuple", _, PyProof.Rows.slot_tuple_getitem.lookup, ht.typeIs, whole_tup ht hs pl pu (by rw [hlen]; exact hw.1) (by rw [hlen]; exact hw.2) ⟨.ref a, H, I, rfl, q a H (Same.refl _) ?_⟩⟩
    have e : cutV xs lo hi = xs := by
      unfold cutV
      rw [hw.1, hw.2, List.drop_zero, Nat.sub_zero, List.take_length]
    rw [e]
    exact hx
  · exact sl_tup pins s σ H _ v vl vu lo hi sl Q I rx hs pl pu ⟨a, xs, rfl, hx, hw, fun p hp => q p _ (Same.upd hp _) (.of upd_same)⟩
def rIxA (K : PySem.W.Frag) : R2 := fun x y H Q => ∃ a xs i v, x = .ref a ∧ y = .int i ∧ (SqL K H a xs ∨ SqT K H a xs) ∧ atI xs i = some v ∧ Q v H
theorem ix_any : IxR X (rIxA X.K) := by
  intro value slice pins s σ H x y v u Q I rx ry h hs
  obtain ⟨a, xs, i, w, rfl, rfl, hq, e, q⟩ := h
  rcases hq with hq | hq
  · exact ix_list value slice pins s σ H _ _ v u Q I rx ry ⟨a, xs, i, w, rfl, rfl, hq, e, q⟩ hs
  · exact ix_tup value slice pins s σ H _ _ v u Q I rx ry ⟨a, xs, i, w, rfl, rfl, hq, e, q⟩ hs
def rSlX (K : PySem.W.Frag) : V → Option Int → Option Int → Hp → VK → Prop := fun x lo hi H Q => ∃ a xs, x = .ref a ∧ ((SqL K H a xs ∧ ∀ z H', Same H H' → SqL K H' z (cutV xs lo hi) → Q (.ref z) H') ∨ (SqT K H a xs ∧ ∀ z H', Same H H' → SqT K H' z (cutV xs lo hi) → Q (.ref z) H'))
theorem sl_any : SlR X (rSlX X.K) := by
  intro pins s σ H x v vl vu lo hi sl Q I rx hs pl pu h
  obtain ⟨a, xs, rfl, h | h⟩ := h
  · exact sl_list pins s σ H _ v vl vu lo hi sl Q I rx hs pl pu ⟨a, xs, rfl, h.1, fun p hp => h.2 p _ (Same.upd hp _) (.of upd_same)⟩
  · exact sl_tupA pins s σ H _ v vl vu lo hi sl Q I rx hs pl pu ⟨a, xs, rfl, h.1, h.2⟩
end
end L2
namespace L2
open PySem PySem.Spec PyProof.Rows
theorem adj_rev1 (n : Nat) : Builtin.Slice.sliceAdjust none none (-1) (n : Int) = ((n : Int) - 1, -1) := by
  unfold Builtin.Slice.sliceAdjust
  rfl
theorem pl_rev1 (n : Nat) : Builtin.Slice.slicePlaces ((n : Int) - 1) (-1) (-1) = n := by
  unfold Builtin.Slice.slicePlaces
  have h1 : ¬ (-1 : Int) > 0 := by omega
  simp only [h1, if_false]
  split
  · first | omega | (simp; done) | (simp; omega)
  · omega
theorem fm_some {α β : Type} {f : α → Option β} {g : α → β} : ∀ {l : List α}, (∀ k ∈ l, f k = some (g k)) → l.filterMap f = l.map g
  | [], _ => rfl
  | a :: r, h => by rw [List.filterMap_cons, h a List.mem_cons_self, List.map_cons, fm_some fun k hk => h k (List.mem_cons_of_mem _ hk)]
theorem pick_rev1 (xs : List Value) : ((List.range xs.length).filterMap fun (k : Nat) => xs.toArray[(((xs.length : Nat) : Int) - 1 + (k : Int) * (-1)).toNat]?) = xs.reverse := by
  have h : ∀ k ∈ List.range xs.length, xs.toArray[(((xs.length : Nat) : Int) - 1 + (k : Int) * (-1)).toNat]? = some (xs.reverse.getD k .none) := fun k hk => by
    have hk' := List.mem_range.mp hk
    have e : ((((xs.length : Nat) : Int) - 1 + (k : Int) * (-1)).toNat) = xs.length - 1 - k := by omega
    rw [e, List.getElem?_toArray, List.getD_eq_getElem?_getD, List.getElem?_reverse hk', List.getElem?_eq_getElem (by omega)]
    rfl
  rw [fm_some h]
  refine List.ext_getElem (by simp) fun i h1 h2 => ?_
  have hi : i < xs.length := by simpa using h2
  simp [List.getD_eq_getElem?_getD, hi]
section
variable {prog : Program} {w : World} {A : Around} {E : Value → Shared → Prop} {s : Shared}
theorem rev_tup {t sl : Addr} {ys : List Value} {tk : Tok} {Q : Value → Shared → Prop} (ht : IsTup s.heap t ys.toArray) (hs : s.heap.IsSliceOf sl .none .none (.int (-1) tk)) (hz : ys.length ≤ sizeLine)
    (h : Q (.ref s.heap.objs.size) { s with heap := s.heap.push { cls := .type "tuple", data := .seq ys.reverse.toArray } }) : wpAny (model prog w) A (getItem (.ref t) (.ref sl)) Q E s := by
  obtain ⟨os, eos, cs, ds⟩ := id hs
  have ty : s.TypeIs (.ref sl) "slice" := ⟨os, eos, cs⟩
  have fit : sizeOk (.seq ys.reverse.toArray) := by
    show ys.reverse.toArray.size ≤ sizeLine
    simpa using hz
  unfold getItem
  try with_reducible refine (wpAny_holding ?_)
  first | refine (wpAny_bind (wpAny_pure ?_)) | skip
  refine wpAny_bind (wpAny_sequenceKey ht.typeIs (by decide) (?_))
  refine wpAny_bind (wpAny_callSpecial?_slot (name := Str.ofString "__getitem__") ht.typeIs PyProof.Rows.slot_tuple_getitem (wpAny_call_entry PyProof.Rows.slot_tuple_getitem ht.typeIs entry_tuple_getitem ?_ (args_tuple_getitem _ _)))
  show wpAny _ A.in1 (Builtin.Tuple.tupleItemsOf (.ref t) >>= _) _ _ s
  refine wpAny_bind (tupleItemsOf_ ht (?_))
  refine wpAny_bind (wpAny_typeOf ty ?_)
  rw [if_pos (by decide)]
  refine wpAny_bind (m := Builtin.Slice.sliceApplied (.ref sl) (pure ((ys.toArray.size : Nat) : Int))) ?_
  unfold Builtin.Slice.sliceApplied Builtin.Slice.sliceFields
  refine wpAny_bind (wpAny_bind (wpAny_field eos ds (x := .none) rfl (wpAny_bind (wpAny_field eos ds (x := .none) rfl (wpAny_bind (wpAny_field eos ds (x := .int (-1) tk) rfl (wpAny_pure ?_)))))))
  refine wpAny_bind (slicePart_int ?_)
  show wpAny _ A.in1 (if ((-1 : Int) == 0) = true then _ else _) _ _ s
  rw [if_neg (by decide)]
  refine wpAny_bind (slicePart_none (wpAny_bind (slicePart_none (wpAny_bind (wpAny_pure ?_)))))
  show wpAny _ A.in1 (match Builtin.Slice.sliceAdjust none none (-1) ((ys.toArray.size : Nat) : Int) with | (lo, hi) => pure (lo, (-1 : Int), Builtin.Slice.slicePlaces lo hi (-1))) _ _ s
  rw [adj_rev1]
  show wpAny _ A.in1 (pure (((ys.toArray.size : Nat) : Int) - 1, (-1 : Int), Builtin.Slice.slicePlaces (((ys.toArray.size : Nat) : Int) - 1) (-1) (-1))) _ _ s
  rw [pl_rev1]
  refine wpAny_pure ?_
  dsimp only
  rw [if_neg (by simp)]
  have e : (List.filterMap (fun (k : Nat) => ys.toArray[(((ys.toArray.size : Nat) : Int) - 1 + (k : Int) * (-1)).toNat]?) (List.range ys.toArray.size)) = ys.reverse := pick_rev1 ys
  rw [e]
  exact wpAny_bind (m := Builtin.Tuple.tupleExact _) (wpAny_newObj_type (wpAny_pure ⟨_, rfl, wpAny_pure h⟩) fit)
end
section
variable {X : Cx} {e st : Expr} {te tst : TE} {pos p2 : Pos}
def tRev (K : PySem.W.Frag) (te tst : TE) : TE := fun σ H Q => te σ H fun x H1 => tst σ H1 fun y H2 => ∃ a xs, x = .ref a ∧ y = .int (-1) ∧ SqT K H2 a xs ∧ ∀ p, H2 p = none → Q (.ref p) (upd H2 p (.tup xs.reverse))
theorem Vals.rev {xs : List V} {us : List Value} (h : Vals xs us) : Vals xs.reverse us.reverse := by
  induction h with
  | nil => exact .nil
  | cons r _ ih =>
    rw [List.reverse_cons, List.reverse_cons]
    exact ih.append (.cons r .nil)
theorem pe_rev (he : PE X e te) (hst : PE X st tst) : PE X (.Subscript e (.Slice none none (some st) p2) pos) (tRev X.K te tst) := by
  intro pins s σ H Q I h
  refine Subscript_ (thn (he pins s σ H _ I h) fun v s1 ⟨x, H1, I1, r1, q1⟩ => ?_)
  refine wpAny_Slice ?_
  rw [evalPart_none]
  refine wpAny_pure (wpAny_pure ?_)
  rw [evalPart_some]
  refine thn (hst pins s1 σ H1 _ I1 q1) fun u s3 ⟨y, H3, I3, r3, q3⟩ => ?_
  obtain ⟨a, xs, rfl, rfl, hq, q⟩ := q3
  obtain ⟨tk, rfl⟩ := r3
  cases r1
  have I4 : Inv X pins σ H3 { s3 with heap := s3.heap.push { cls := .type "slice", data := .fields #[.none, .none, .int (-1) tk] } } := I3.kept (t' := s3.toks) fun b ob q => Heap.get?_push_of_some _ q
  obtain ⟨its, r, ht, hz⟩ := I4.tuple hq
  show wpAny (model X.prog X.w) X.A (subscriptTail e (.Slice none none (some st) p2) (.ref a) (.ref s3.heap.objs.size)) (EP X pins σ Q) X.xe { s3 with heap := s3.heap.push { cls := .type "slice", data := .fields #[.none, .none, .int (-1) tk] } }
  refine tail_any (ops := [.ref a, .ref s3.heap.objs.size]) ht.typeIs PyProof.Rows.slot_tuple_getitem.lookup (rev_tup (ys := its) ht ⟨_, Heap.get?_push_size _ rfl, rfl, rfl⟩ (by rw [← r.length]; exact hz) ?_) (by with_unfolding_all rfl)
  exact ⟨.ref _, _, I4.laid (t' := s3.toks) (o := .tup xs.reverse) (fun b ob q => Heap.get?_push_of_some _ q) (Nat.le_refl _) ⟨by rw [List.length_reverse]; exact hz, _, r.rev, IsTup.new _ _⟩, rfl, q _ I4.fresh⟩
theorem z_rev {K : PySem.W.Frag} {σ : St} {H : Hp} {Q : VK} : tRev K te tst σ H Q = te σ H (fun x H1 => tst σ H1 fun y H2 => ∃ a xs, x = .ref a ∧ y = .int (-1) ∧ SqT K H2 a xs ∧ ∀ p, H2 p = none → Q (.ref p) (upd H2 p (.tup xs.reverse))) := rfl
end
theorem cin_filter {H1 : Hp} {p : Addr} {cσ : St} {g : TG} {tt : TT} {te : TE} {Q : VK} {α : Type} {es : List α} {inj : α → V} {J : It} (pf : α → Bool) (f : α → V) (hz : es.length ≤ sizeLine) (hp : H1 p = none) (hJ : Wk J H1 es inj)
    (step : ∀ (e : α) (H' : Hp) (R : VK) (RF : Hp → Prop), e ∈ es → Same H1 H' → (pf e = true → ∀ H6, Same H' H6 → R (f e) H6) → (pf e = false → ∀ H6, Same H' H6 → RF H6) → g (inj e) cσ H' fun σ4 H4 => Kp cσ σ4 ∧ tt σ4 H4 fun b H5 => if b = true then te σ4 H5 R else RF H5)
    (done : ∀ H', Same H1 H' → H' p = some (.lst ((es.filter pf).map f)) → Q (.ref p) H') : cIn J cσ g tt te Q H1 p := by
  have su : ∀ {H' : Hp} {o : HO}, Same H1 H' → Same H1 (upd H' p o) := fun {H' o} s b u e => by
    rw [upd_ne (ne_of_none e hp)]
    exact s b u e
  refine ⟨fun i m acc H' => m = es.length - i ∧ i ≤ es.length ∧ acc = ((es.take i).filter pf).map f ∧ H' p = some (.lst acc) ∧ Same H1 H', ⟨es.length, by simp, Nat.zero_le _, by simp, upd_same, su (Same.refl _)⟩, ?_⟩
  rintro i m acc H' ⟨rfl, hi, rfl, hH, s⟩
  cases he : es[i]? with
  | none =>
    have e : i = es.length := Nat.le_antisymm hi (List.getElem?_eq_none_iff.mp he)
    subst e
    rw [List.take_length] at hH
    exact .inl ⟨(hJ _ _ s).1 he, done _ s hH⟩
  | some e =>
    obtain ⟨go, yl⟩ := (hJ _ _ s).2 e he
    refine .inr ⟨go, fun x H3 y => ?_⟩
    obtain ⟨rfl, rfl⟩ := yl x H3 y
    obtain ⟨hlt, _⟩ := List.getElem?_eq_some_iff.mp he
    have tk : es.take (i + 1) = es.take i ++ [e] := by rw [List.take_succ, he]; rfl
    have fl : ((es.take i).filter pf).length ≤ i := Nat.le_trans (List.length_filter_le _ _) (by rw [List.length_take]; omega)
    refine step e H3 _ _ (List.mem_of_getElem? he) s (fun hpf H6 s6 => ⟨s6 _ _ hH, by rw [List.length_map]; omega, _, by omega, rfl, hlt, ?_, upd_same, su (s.trans s6)⟩) (fun hpf H6 s6 => ⟨_, by omega, rfl, hlt, ?_, ?_, s.trans s6⟩)
    · rw [tk, List.filter_append, List.map_append]
      simp [hpf]
    · rw [tk, List.filter_append, List.map_append]
      simp [hpf]
    · exact s6 _ _ hH
end L2
namespace L2
open PySem PySem.Spec PyProof.Rows
set_option maxRecDepth 100000
theorem rv_next : Slot "reversed" "__next__" "reversed.__next__" := .of (owner := "reversed") (n := "__next__") (by rw [typeLookup_type, builtinLookup_eq_fast] ; kernel_rfl) (by decide +kernel) (by decide +kernel) (by decide +kernel) (by first | exact .inl (by decide +kernel) | exact .inr (by decide +kernel)) (by rw [isSubtype_type] ; kernel_rfl)
theorem rv_iter : Slot "reversed" "__iter__" "reversed.__iter__" := .of (owner := "reversed") (n := "__iter__") (by rw [typeLookup_type, builtinLookup_eq_fast] ; kernel_rfl) (by decide +kernel) (by decide +kernel) (by decide +kernel) (by first | exact .inl (by decide +kernel) | exact .inr (by decide +kernel)) (by rw [isSubtype_type] ; kernel_rfl)
theorem rv_init : Slot "reversed" "__init__" "object.__init__" := .of (owner := "object") (n := "__init__") (by rw [typeLookup_type, builtinLookup_eq_fast] ; kernel_rfl) (by decide +kernel) (by decide +kernel) (by decide +kernel) (by first | exact .inl (by decide +kernel) | exact .inr (by decide +kernel)) (by rw [isSubtype_type] ; kernel_rfl)
theorem rv_en_next : entryFor table "reversed.__next__" = some Builtin.«reversed.__next__» := entryFor_of_tree (by kernel_rfl)
theorem rv_en_new : entryFor table "reversed.__new__" = some Builtin.«reversed.__new__» := entryFor_of_tree (by kernel_rfl)
theorem rv_en_iter : entryFor table "reversed.__iter__" = some Builtin.«dict_keyiterator.__iter__» :=
  entryFor_alias (id' := "dict_keyiterator.__iter__") (by kernel_rfl) (by first | rfl | decide +kernel | (unfold String.splitOn ; simp +decide [String.splitOnAux])) (by decide +kernel) (by kernel_rfl)
theorem rv_mro : mroOf (.type "reversed") = pure [.type "reversed", .type "object"] := by rw [mroOf_type] ; kernel_rfl
theorem rv_lk : typeLookup (.type "reversed") "__new__" = pure (some (.builtin "reversed.__new__")) := by rw [typeLookup_type, builtinLookup_eq_fast] ; kernel_rfl
theorem rv_called : TypeCalled "reversed" "reversed.__new__" "object.__init__" := ⟨by decide +kernel, by decide +kernel, ⟨_, _, rv_mro⟩, madeBy_type rv_mro rv_lk (by decide +kernel), by decide +kernel, by rw [isSubtype_type] ; kernel_rfl, rv_init⟩
theorem rv_tc (a : Value) : checkTypeCall "reversed" ⟨[a], []⟩ = pure () := by kernel_rfl
theorem rv_nc (a : Value) : checkBuiltinCall "reversed.__new__" ⟨[.type "reversed", a], []⟩ = pure () := by kernel_rfl
theorem rv_owner : Manifest.owners.lookup (String.ofList ['d', 'e', 's', 'r', 'e', 'v', 'e', 'r'].reverse) = some Manifest.sig_reversed := by kernel_rfl
theorem rv_ar_next (a : Value) : argsOk "reversed.__next__" ⟨[a], []⟩ := by
  unfold argsOk ; rw [signature?_of (id := "reversed.__next__") (n := ['_', '_', 't', 'x', 'e', 'n', '_', '_']) (o := ['d', 'e', 's', 'r', 'e', 'v', 'e', 'r']) (by kernel_rfl) rv_owner] ; kernel_rfl
theorem rv_ar_iter (a : Value) : argsOk "reversed.__iter__" ⟨[a], []⟩ := by
  unfold argsOk ; rw [signature?_of (id := "reversed.__iter__") (n := ['_', '_', 'r', 'e', 't', 'i', '_', '_']) (o := ['d', 'e', 's', 'r', 'e', 'v', 'e', 'r']) (by kernel_rfl) rv_owner] ; kernel_rfl
theorem rv_sub : isSubtype (.type "reversed") (.type "reversed") = pure true := by rw [isSubtype_type] ; kernel_rfl
theorem rv_nodict : isSubtype (.type "tuple") (.type "dict") = pure false := by rw [isSubtype_type] ; kernel_rfl
abbrev IsRv (h : Heap) (r : Addr) (t : Value) (i : Int) : Prop := h.get? r = some { cls := .type "reversed", dict := none, data := .fields #[t, rawInt i], slots := #[] }
theorem rv_nogone : typeLookup (.type "tuple") "__reversed__" = pure none := by rw [typeLookup_type, builtinLookup_eq_fast] ; kernel_rfl
section
variable {prog : Program} {w : World} {A : Around} {E : Value → Shared → Prop} {s : Shared} {r t : Addr} {ys : Array Value}
theorem rv_item {i : Nat} {x : Value} {Q : Option Value → Shared → Prop} (hr : IsRv s.heap r (.ref t) i) (ht : s.heap.IsTuple t ys) (hx : ys[i]? = some x) (hs : ys.size ≤ sizeLine)
    (k : ∀ g, IsRv g r (.ref t) ((i : Int) - 1) → Heap.SameBut r s.heap g → Q (some x) { s with heap := g, toks := s.toks + 1 }) : wpAny (model prog w) A (pyNext (.ref r)) Q E s := by
  have ty : s.TypeIs (.ref r) "reversed" := ⟨_, hr, rfl⟩
  have hi : i < ys.size := (Array.getElem?_eq_some_iff.mp hx).1
  have hn := line63
  unfold pyNext
  refine wpAny_bind (wpAny_attempt (wpAny_callSpecial?_slot (name := Str.ofString "__next__") ty rv_next (wpAny_call_entry rv_next ty rv_en_next ?_ (rv_ar_next _))))
  show wpAny _ _ (field (.ref r) 0 >>= _) _ _ _
  refine wpAny_bind (wpAny_field hr rfl (x := .ref t) rfl ?_)
  show wpAny _ _ (field (.ref r) 1 >>= _) _ _ _
  refine wpAny_bind (wpAny_field hr rfl (x := rawInt i) rfl ?_)
  show wpAny _ _ (if (i : Int) < 0 then _ else _) _ _ _
  rw [if_neg (by omega)]
  refine wpAny_bind (wpAny_specialOf ht.typeIs PyProof.Rows.slot_tuple_getitem.lookup ?_)
  rw [if_neg (by decide)]
  refine wpAny_bind (wpAny_mkInt ?_)
  have ht' : ({ s with toks := s.toks + 1 } : Shared).heap.IsTuple t ys := ht
  refine wpAny_bind (wpAny_attempt (getItem_tuple (j := i) ht' (by omega) (by omega) (by unfold seqIndex? ; simp ; omega) hx ?_))
  show wpAny _ _ (field (.ref r) 1 >>= _) _ _ _
  refine wpAny_bind (wpAny_field hr rfl (x := rawInt i) rfl ?_)
  show wpAny _ _ (setField (.ref r) 1 (rawInt ((i : Int) - 1)) >>= _) _ _ _
  refine wpAny_bind (wpAny_setField_rec hr (by simp) fun g hg sb => ?_)
  exact wpAny_pure ⟨_, rfl, wpAny_pure (k g hg sb)⟩
theorem rv_stop {Q : Option Value → Shared → Prop} {i : Int} (hi : i < 0) (hh : A.handled = none) (hr : IsRv s.heap r (.ref t) i) (k : ∀ g, Heap.ExtBut r s.heap g → Q none { s with heap := g }) : wpAny (model prog w) A (pyNext (.ref r)) Q E s := by
  have ty : s.TypeIs (.ref r) "reversed" := ⟨_, hr, rfl⟩
  unfold pyNext
  refine wpAny_bind (wpAny_attempt (wpAny_callSpecial?_slot (name := Str.ofString "__next__") ty rv_next (wpAny_call_entry rv_next ty rv_en_next ?_ (rv_ar_next _))))
  show wpAny _ _ (field (.ref r) 0 >>= _) _ _ _
  refine wpAny_bind (wpAny_field hr rfl (x := .ref t) rfl ?_)
  show wpAny _ _ (field (.ref r) 1 >>= _) _ _ _
  refine wpAny_bind (wpAny_field hr rfl (x := rawInt i) rfl ?_)
  show wpAny _ _ (if i < 0 then _ else _) _ _ _
  rw [if_pos hi]
  refine wpAny_bind (wpAny_rule ?_)
  show wpAny _ _ ((setField (.ref r) 1 (rawInt (-1)) >>= fun _ => setField (.ref r) 0 .none) >>= _) _ _ _
  refine wpAny_bind (wpAny_bind (wpAny_setField_rec hr (by simp) fun g1 hg1 sb1 => ?_))
  replace sb1 : Heap.SameBut r s.heap g1 := sb1
  replace hg1 : IsRv g1 r (.ref t) (-1) := hg1
  refine wpAny_setField_rec hg1 (by simp) fun g2 hg2 sb2 => ?_
  replace sb2 : Heap.SameBut r g1 g2 := sb2
  refine wpAny_bind ?_
  unfold Builtin.SmallTypes.stopIteration
  refine wpAny_bind ?_
  simp only [newTuple, newExc]
  refine wpAny_bind (wpAny_newObj_type ?_ (by size_fits))
  refine wpAny_bind (m := firstArgMember _ _) (wpAny_of_eq (a := Value.none) (by first | rfl | (simp only [firstArgMember] ; rfl)) ?_)
  refine (wpAny_newObj_type ?_ (by size_fits))
  simp only [raiseNew]
  refine wpAny_bind (wpAny_handled ?_)
  first | rw [show A.in1.handled = none from hh] | (rw [hh])
  refine wpAny_bind (wpAny_pure (wpAny_throw ?_))
  refine wpAny_bind (wpAny_isInstance (T := "StopIteration") (b := true) ⟨_, Heap.get?_push_size _ rfl, rfl⟩ isSubtype_stop ?_)
  refine wpAny_pure (k _ ?_)
  exact ((sb1.trans sb2).extBut.push _).push _
end
section
variable {prog : Program} {w : World} {A : Around} {E : Value → Shared → Prop} {s : Shared}
theorem code_fn {id : String} {b : Builtin} {args : List Value} {R : Result → Shared → Prop} (hk : builtinKind id = none) (hp : plainId id = true) (hb : entryFor table id = some b) (ha : argsOk id ⟨args, []⟩)
    (hc : wpAny (model prog w) A.in1 (b ⟨args, []⟩) (fun fin s' => ∃ v, fin = .done (.ret v) ∧ R (.ok (.ret v)) s') (fun e s' => R (.error e) s') s) : codeAny (model prog w) A (.call (.builtin id) ⟨args, []⟩) R s := by
  refine codeAny_call_builtin hp hb ?_
  have hfin := wpAny_mono hc (Q' := fun fin s' => match fin with | .done f => R (.ok f) s' | .again c' => c'.quiet = true ∧ codeAny (model prog w) A c' R s')
    (fun fin s' h' => by obtain ⟨v, rfl, hv⟩ := h'; exact hv) fun _ _ h' => h'
  simp only [checkBuiltinCall, hk]
  cases hsig : Manifest.signature? id with
  | none => exact wpAny_pure hfin
  | some sig =>
    simp only [argsOk, hsig] at ha
    exact wpAny_of_eq ha hfin
theorem code_len {t : Addr} {items : Array Value} {R : Result → Shared → Prop} (ht : IsTup s.heap t items) (hfit : (items.size : Int) < 2 ^ 63)
    (h : R (.ok (.ret (.int items.size (s.toks + 1)))) { s with toks := s.toks + 1 + 1 }) : codeAny (model prog w) A (.call (.builtin "len") ⟨[.ref t], []⟩) R s := by
  refine code_fn kind_len plain_len entry_len (args_len1 _) ?_
  unfold Builtin.«len»
  refine wpAny_bind (m := oneArg "len" _) (wpAny_pure ?_)
  refine wpAny_bind (m := callSpecial? (.ref t) (Str.ofString "__len__")) (wpAny_callSpecial?_slot (name := Str.ofString "__len__") ht.typeIs slot_tuple_len
    (wpAny_call_entry slot_tuple_len ht.typeIs entry_tuple_len ?_ (args_tuple_len _)))
  show wpAny _ _ (do retInt (← Builtin.Tuple.tupleItemsOf (.ref t)).size) _ _ s
  refine wpAny_bind (tupleItemsOf_ ht ?_)
  refine wpAny_bind (wpAny_mkInt (wpAny_pure ⟨_, rfl, ?_⟩))
  refine wpAny_bind (wpAny_holding (wpAny_pure ?_))
  refine wpAny_bind (wpAny_letGo ?_)
  show wpAny _ _ (if ((items.size : Nat) : Int) < 0 then _ else _) _ _ _
  rw [if_neg (by omega)]
  show wpAny _ _ (if ((items.size : Nat) : Int) ≥ 2 ^ 63 then _ else _) _ _ _
  rw [if_neg (by omega)]
  exact wpAny_bind (wpAny_mkInt (wpAny_pure ⟨_, rfl, h⟩))
theorem wpAny_pyIter_rv {e : Addr} {t : Value} {i : Int} {Q : Value → Shared → Prop} (he : IsRv s.heap e t i) (h : Q (.ref e) s) : wpAny (model prog w) A (pyIter (.ref e)) Q E s := by
  have hT : s.TypeIs (.ref e) "reversed" := ⟨_, he, rfl⟩
  refine wpAny_pyIter_slot hT rv_iter (wpAny_call_entry rv_iter hT rv_en_iter ?_ (rv_ar_iter _))
  show wpAny _ _ (ret (.ref e)) _ _ s
  exact wpAny_pure ⟨_, rfl, "reversed", _, hT, rv_next.lookup, h⟩
end
open AutoSeq1 (wpAny_loadPart') in
theorem meets_rv (u : Addr) (xs : Array Value) (o : Obj) (n : Nat) (hc : o.cls = .type "tuple") (hd : o.data = .seq xs n) (hz : xs.size ≤ sizeLine) :
    Meets (Builtin.«reversed.__new__» ⟨[.type "reversed", .ref u], []⟩) (fun _ R s => s.heap.get? u = some o ∧ R (.ok (.ret (.ref s.heap.objs.size)))
        { s with heap := s.heap.push { cls := .type "reversed", data := .fields #[.ref u, rawInt ((xs.size : Int) - 1)] }, toks := s.toks + 1 + 1 }) :=
  .of_wp fun prog w A R s h => by
    obtain ⟨hp, g, d, tk, os⟩ := s; obtain ⟨hu, h⟩ := h
    obtain ⟨oc, od, odat, osl⟩ := o
    obtain rfl : oc = .type "tuple" := hc
    obtain rfl : odat = .seq xs n := hd
    have f1 := rv_nogone
    have f2 := PyProof.Rows.slot_tuple_getitem.lookup
    have f3 := rv_sub
    have f4 := rv_nodict
    have hn := line63
    have hT : Heap.IsTuple hp u xs := ⟨_, hu, rfl, n, rfl⟩
    have hfit : (xs.size : Int) < 2 ^ 63 := by omega
    wp_walk using wpAny_loadPart' hu
    refine code_len hT hfit ?_
    show wpAny _ _ _ _ _ _
    refine wpAny_bind (wpAny_of_eq (a := some (xs.size : Int)) rfl ?_)
    show wpAny _ _ (Builtin.SmallTypes.newRecord (Value.type "reversed") [Value.ref u, rawInt (xs.size - 1)] >>= _) _ _ _
    unfold Builtin.SmallTypes.newRecord
    refine wpAny_bind (wpAny_newObj_type (wpAny_pure ⟨_, rfl, h⟩) (by size_fits))
def Itv (K : PySem.W.Frag) (a : Addr) (n : Nat) : It :=
  ⟨fun i H => ∃ xs x, SqT K H a xs ∧ xs.length = n ∧ xs.reverse[i]? = some x, fun i H x H' => H' = H ∧ ∀ xs, SqT K H a xs → xs.reverse[i]? = some x, fun i _ => n ≤ i⟩
theorem turn_rv {P : Program} {w : World} {K : PySem.W.Frag} {tg : Expr} (a it : Addr) (n : Nat) : Turn P w K tg (Itv K a n) [it] it (fun i h => IsRv h it (.ref a) ((n : Int) - 1 - i)) where
  mem := by simp
  obj := fun i h st b hb => by
    have e : b = it := by simpa using hb
    subst e
    exact ⟨_, st, fun v z => by cases (show Data.fields _ = Data.cell v from z)⟩
  keep := fun i h h' st k => k it (by simp) _ st
  item := by
    intro X hP hw hK hc i pins s σ H E I hf st hg
    subst hP hw hK
    obtain ⟨xs, x, hq, hl, hx⟩ := hg
    obtain ⟨its, rv, p, hz⟩ := I.tuple hq
    have hin : i < n := by
      have := (List.getElem?_eq_some_iff.mp hx).1
      simpa [hl] using this
    have hx' : xs[n - 1 - i]? = some x := by
      rw [List.getElem?_reverse (by omega)] at hx
      rw [← hl]; exact hx
    obtain ⟨u, hu, ru⟩ := rv.get hx'
    obtain ⟨f0, f1, f2, f3, f4, f5⟩ := hf it (by simp)
    have st0 : IsRv s.heap it (.ref a) ((n - 1 - i : Nat) : Int) := by
      have z : ((n - 1 - i : Nat) : Int) = (n : Int) - 1 - i := by omega
      rw [z]; exact st
    have hl2 := rv.length
    refine rv_item st0 (show s.heap.IsTuple a its.toArray from p) (x := u) (by simpa using hu) (by simp; omega) fun h' st' sb => ?_
    have I1 : Inv X pins σ H { s with heap := h', toks := s.toks + 1 } := I.turned (t' := s.toks + 1) (fun b o hb e => (sb.2 b hb).trans e) f0 f1 f3 f4 f5
    have st2 : IsRv h' it (.ref a) ((n : Int) - 1 - ((i + 1 : Nat) : Int)) := by
      have z : ((n - 1 - i : Nat) : Int) - 1 = (n : Int) - 1 - ((i + 1 : Nat) : Int) := by omega
      rw [← z]; exact st'
    exact ⟨u, rfl, go_of (s := { s with heap := h', toks := s.toks + 1 }) st2 rfl rfl (by decide) ⟨x, H, I1, ru, ⟨rfl, fun ys hy => by rw [I.tuple_inj hy hq]; exact hx⟩, st2, fun b hb => (hf b hb).1⟩⟩
  done := by
    intro X hP hw hK hc i pins s σ H E I hf st hg
    subst hP hw hK
    have hg : n ≤ i := hg
    obtain ⟨f0, f1, f2, f3, f4, f5⟩ := hf it (by simp)
    exact rv_stop (i := (n : Int) - 1 - i) (by omega) (I.ok.hd hc) st fun h' eb => ⟨rfl, I.turned (t' := s.toks) (fun b o hb e => eb b o hb e) f0 f1 f3 f4 f5⟩
  self := fun _ _ _ _ _ st h => wpAny_pyIter_rv st h
section
variable {X : Cx} {a : Expr} {ta : TA} {tg : Expr} {p pos : Pos}
def iRv (K : PySem.W.Frag) (ta : TA) : TI := fun σ H R => ta σ H fun vs H1 => ∃ a, vs = [.ref a] ∧ ∃ xs, SqT K H1 a xs ∧ R (Itv K a xs.length) H1
theorem pi_rv (hg : Gl X "reversed") (hm : X.mg "reversed" = none) (ha : PA X [a] ta) (hs : starEach [a] X.env = [(false, eval a X.env)] := by rfl) : PI X tg (.Call (.Name "reversed" p) [a] [] pos) (iRv X.K ta) := by
  intro pins s σ H R I h
  refine Call_ (ld_blt I hg hm boot_reversed (PyProof.Rows.callWith_type1 (thn (ha pos pins s σ H _ I h) fun us s1 ⟨vs, H1, I1, r1, q1⟩ => ?_) hs rfl))
  obtain ⟨b, rfl, xs, hq, q⟩ := q1
  obtain ⟨v, rfl, rv⟩ := vals1 r1
  cases rv
  obtain ⟨its, rr, pl, hz⟩ := I1.tuple hq
  obtain ⟨o, ho, hc, n, hd⟩ := (show s1.heap.IsTuple b its.toArray from pl)
  have hl := rr.length
  refine callType_new rv_called (by decide) (rv_tc _) (rv_nc _) (fun obj => F.args_object_init_2 obj _) rv_en_new (meets_rv b its.toArray o n hc hd (by simp; omega)) ⟨ho, ?_⟩
  show _ ∧ _
  have he : IsRv (s1.heap.push { cls := .type "reversed", data := .fields #[.ref b, rawInt ((its.toArray.size : Int) - 1)] }) s1.heap.objs.size (.ref b) ((xs.length : Int) - 1 - ((0 : Nat) : Int)) := by
    have z2 := Heap.get?_push_size s1.heap (o := { cls := .type "reversed", data := .fields #[.ref b, rawInt ((its.toArray.size : Int) - 1)] }) rfl
    have z : (xs.length : Int) - 1 - ((0 : Nat) : Int) = (its.toArray.size : Int) - 1 := by simp; omega
    rw [z]; exact z2
  have I2 : Inv X pins σ H1 { s1 with heap := s1.heap.push { cls := .type "reversed", data := .fields #[.ref b, rawInt ((its.toArray.size : Int) - 1)] }, toks := s1.toks + 1 + 1 } :=
    I1.kept (t' := s1.toks + 1 + 1) fun c o' e => Heap.get?_push_of_some _ e
  refine ⟨⟨_, he, rfl⟩, wpAny_pyIter_rv he ⟨s1.heap.objs.size, [s1.heap.objs.size], _, _, H1, rfl, I2, turn_rv b _ _, he, fun c hcm => ?_, q⟩⟩
  have hge : s1.heap.objs.size ≤ c := by
    have z : c = s1.heap.objs.size := by simpa using hcm
    exact Nat.le_of_eq z.symm
  exact I1.fpOk hge (I1.hok.fresh hge)
end
theorem z_irv {K : PySem.W.Frag} {σ : St} {H : Hp} {ta : TA} {R : It → Hp → Prop} : iRv K ta σ H R = ta σ H (fun vs H1 => ∃ a, vs = [.ref a] ∧ ∃ xs, SqT K H1 a xs ∧ R (Itv K a xs.length) H1) := rfl
theorem wkAt_rv {K : PySem.W.Frag} {H : Hp} {α : Type} {es : List α} {inj : α → V} {a : Addr} (h : SqT K H a (es.map inj)) : WkAt (Itv K a es.length) H es.reverse inj := fun i => by
  refine ⟨fun e => ?_, fun e he => ⟨⟨_, inj e, h, by simp, ?_⟩, ?_⟩⟩
  · have z := List.getElem?_eq_none_iff.mp e
    show es.length ≤ i
    simpa using z
  · rw [← List.map_reverse, List.getElem?_map, he]; rfl
  · rintro x H3 ⟨rfl, k⟩
    have z := k _ h
    rw [← List.map_reverse, List.getElem?_map, he] at z
    exact ⟨rfl, (Option.some.inj z).symm⟩
end L2
namespace L2
open PySem PySem.Spec PyProof.Rows
set_option maxRecDepth 100000
theorem ObjOk.has {P : Program} {w : World} {H : Hp} {h : Heap} {a : Addr} {o : HO} (x : ObjOk P w H h a o) : ∃ ob, h.get? a = some ob := by
  cases o with
  | lst xs => obtain ⟨_, _, _, _, e⟩ := x; exact ⟨_, e⟩
  | tup xs => obtain ⟨_, _, _, ob, e, _⟩ := x; exact ⟨_, e⟩
  | dK kvs => obtain ⟨_, _, _, _, o, _, _, e, _⟩ := x; exact ⟨_, e⟩
  | dT kvs => obtain ⟨_, _, _, _, o, _, _, e, _⟩ := x; exact ⟨_, e⟩
  | set S n => obtain ⟨o, _, _, _, e, _⟩ := x; exact ⟨_, e⟩
  | ins C dx fs => obtain ⟨_, _, _, e, _⟩ := x; exact ⟨_, e⟩
  | own y => exact x
  | xd fs => obtain ⟨_, ⟨_, _, _, e, _⟩, _⟩ := x; exact ⟨_, e⟩
  | rng lo hi => obtain ⟨_, _, _, e⟩ := x; exact ⟨_, e⟩
  | frz ob u => obtain ⟨e, _⟩ := x; exact ⟨_, e⟩
  | tbl ps => exact ⟨_, show h.get? a = some _ from x⟩
  | met f y => exact ⟨_, show h.get? a = some _ from x⟩
  | ext φ => exact x.2.1
structure FX (P : Program) (w : World) (fr : List Addr) (H : Hp) (h0 : Heap) (B : Heap) (H' : Hp) (h : Heap) : Prop where
  stay : B.StaysIn h
  k1 : ∀ b o, h0.get? b = some o → b ∉ fr → ∃ o', B.get? b = some o' ∧ (H b = none → o' = o)
  k2 : ∀ b u, H' b = some u → ∃ o, B.get? b = some o
  fr0 : ∀ b ∈ fr, H b = none ∧ ∃ o, h0.get? b = some o ∧ ∀ vs, o.data ≠ .fields vs
  un : Un fr [] H H' h0 h
  hok : HOk P w H' h
theorem FX.step {P : Program} {w : World} {fr : List Addr} {H H' : Hp} {h0 B h h' : Heap} (x : FX P w fr H h0 B H' h) (k : B.StaysIn h') (u : h.UpToSlots h') : FX P w fr H h0 B H' h' := by
  have slot : ∀ b o, h0.get? b = some o → H b = none → b ∈ fr → ∃ sl, h'.get? b = some { o with slots := sl } := fun b o e n hb => by
    obtain ⟨sl, e1⟩ := x.un.slot b o e n hb (by simp)
    obtain ⟨_, o2, e2, hf⟩ := x.fr0 b hb
    rw [e] at e2; cases e2
    obtain ⟨sl', e3⟩ := u b _ e1 hf
    exact ⟨sl', e3⟩
  refine ⟨k, x.k1, x.k2, x.fr0, ⟨fun b o e n hb _ => ?_, fun b o e n hb _ => slot b o e n hb, x.un.free, fun b o e _ => ?_, x.un.tups, x.un.frzs, x.un.tbls⟩, fun b v e => (x.hok b v e).stay (fun c z hc q => ?_) (fun _ q => q) fun _ _ q => q⟩
  · obtain ⟨o', e1, e2⟩ := x.k1 b o e hb
    rw [e2 n] at e1
    exact k b o e1
  · by_cases hb : b ∈ fr
    · obtain ⟨sl, e1⟩ := slot b o e (x.fr0 b hb).1 hb
      exact ⟨_, e1⟩
    · obtain ⟨o', e1, _⟩ := x.k1 b o e hb
      exact ⟨o', k b o' e1⟩
  · have t : ∃ o, B.get? c = some o := by
      rcases hc with z | z
      · rw [z]; exact x.k2 _ _ e
      · exact x.k2 _ _ z
    obtain ⟨o, eo⟩ := t
    have := x.stay c o eo
    rw [q] at this; cases this
    exact k c _ eo
section
variable {X : Cx} {pins : List (Addr × Obj)} {σ : St} {H H' : Hp} {s s' : Shared} {B : Heap}
theorem Inv.old (I : Inv X pins σ H s) {b : Addr} {o : Obj} (e : X.s₀.heap.get? b = some o) (hb : b ∉ X.fs) : b ∉ frs X.stack := fun z => by
  rcases List.mem_cons.mp (I.stkSub b z) with q | q
  · exact absurd (Nat.lt_of_lt_of_le (Heap.lt_size e) I.ok.above) (by rw [q]; exact Nat.lt_irrefl _)
  · exact hb q
theorem Inv.fr0 (I : Inv X pins σ H s) : ∀ b ∈ X.fs, X.H₀ b = none ∧ ∃ o, X.s₀.heap.get? b = some o ∧ ∀ vs, o.data ≠ .fields vs := fun b hb => by
  obtain ⟨_, o, ho, hd⟩ := I.ok.funs.mem hb
  exact ⟨I.ok.frf b hb, o, ho, hd⟩
theorem Inv.one (I : Inv X pins σ H s) (hex : X.ex = []) {b : Addr} {o : Obj} (e : X.s₀.heap.get? b = some o) (hb : b ∉ X.fs) : ∃ o', s.heap.get? b = some o' ∧ (X.H₀ b = none → o' = o ∧ H b = none) := by
  by_cases n : X.H₀ b = none
  · exact ⟨o, I.base.keep b o e n hb (by rw [hex]; simp), fun _ => ⟨rfl, I.base.free b o e n (by rw [hex]; simp)⟩⟩
  · obtain ⟨o', e1⟩ := I.base.there b o e (by rw [hex]; simp)
    exact ⟨o', e1, fun z => absurd z n⟩
theorem Inv.fx (I : Inv X pins σ H s) (hex : X.ex = []) : FX X.prog X.w X.fs X.H₀ X.s₀.heap (PySem.W.hideAll s.heap (frs X.stack)) H s.heap := by
  refine ⟨fun b o q => PySem.W.of_hideAll _ q, fun b o e hb => ?_, fun b u e => ?_, I.fr0, hex ▸ I.base, I.hok⟩
  · obtain ⟨o', e1, e2⟩ := I.one hex e hb
    exact ⟨o', PySem.W.hideAll_get _ e1 (I.old e hb), fun n => (e2 n).1⟩
  · obtain ⟨o, eo⟩ := (I.hok b u e).has
    exact ⟨o, PySem.W.hideAll_get _ eo fun z => by have := I.stkFree b z; rw [e] at this; cases this⟩
end
def CXE (P : Program) (w : World) : CXT := fun outer H s E e s' => ∃ (x C : Addr) (a0 : Value) (B : Heap) (H' : Hp), e = .ref x ∧ s'.os = s.os ∧ AllBare s'.gens ∧ Heap.FlyingW B outer x (.ref C) a0 s'.heap ∧ FX P w (frs outer) H s.heap B H' s'.heap ∧ E (.ref C) none H'
abbrev VE : List Value := [.type "ValueError", .type "Exception", .type "BaseException", .type "object"]
def ExcK (K : PySem.W.Frag) (C : Addr) : Prop := PySem.W.excIn K C VE "ValueError.__new__" = true
def ExcO (h : Heap) (C : Addr) : Prop := ∃ bm N nm q bs hdct sn sub ab col dd k0 k1 k2 k3 k5 mN, h.get? C = some (excClassObj nm q C N bs bm hdct sn sub ab col dd k0 k1 k2 k3 k5 "ValueError.__new__") ∧ h.Ns N mN ∧ mN "__init__" = none ∧ OwnTail h VE bm
theorem ExcK.obj {K : PySem.W.Frag} {C : Addr} {h : Heap} (q : ExcK K C) (X : K.In h) : ExcO h C := by
  unfold ExcK PySem.W.excIn at q
  cases e : K.lookup C with
  | none => rw [e] at q; cases q
  | some ob =>
    rw [e] at q
    have eX := X _ _ e
    split at q
    · rename_i dd cd sl z
      cases z
      split at q
      · rename_i C1 bm a0 a1 a2 a3 n a5 hm hs
        rw [Bool.and_eq_true, Bool.and_eq_true, Bool.and_eq_true, Bool.and_eq_true, Bool.and_eq_true] at q
        obtain ⟨⟨⟨⟨⟨z1, z2⟩, z3⟩, z4⟩, z5⟩, z6⟩ := q
        have y1 : C1 = C := by simpa using z1
        have y2 : n = "ValueError.__new__" := by simpa using z2
        have y3 : cd.hasDel = false := by simpa using z3
        have y6 : PySem.W.nsIn K cd.ns "__init__" = some none := by simpa using z6
        obtain ⟨c1, c2, c3, c4, c5, c6, c7, c8, c9, c10, c11⟩ := cd
        have hl : sl = #[a0, a1, a2, a3, some (.builtin n), a5] := by
          cases sl
          exact congrArg Array.mk hs
        dsimp only at hm y3 y6 z5
        rw [hl, hm, y1, y2, y3] at eX
        exact ⟨bm, c4, c1, c5, c2, c6, c7, c8, c9, c10, dd, a0, a1, a2, a3, a5, _, eX, Heap.Ns.of_isNs (PySem.W.isNs_of_in X z5), PySem.W.nsMap_none_of_in X z5 y6, PySem.W.tail_of_in X z4⟩
      · cases q
    · cases q
section
variable {P : Program} {w : World} {K : PySem.W.Frag} {mg : Str → Option Value} {base : Heap} {N : List Str} {qual : Str} {scope : Scope} {f : Addr} {cd : Value} {A : Around} {outer : List Env} {s0 : Shared} {H0 : Hp} {E : XK}
def tRaise (C : Addr) (E : XK) (t : TA) : TS := fun _ σ H => t σ H fun vs H1 => vs.length ≤ sizeLine ∧ E (.ref C) none H1
end
theorem z_raise {C : Addr} {E : XK} {t : TA} {D : Ends} {σ : St} {H : Hp} : tRaise C E t D σ H = t σ H (fun vs H1 => vs.length ≤ sizeLine ∧ E (.ref C) none H1) := rfl
theorem PS.nox {X : Cx} {st : Stmt} {t : TS} (h : PS X.nox st t) : PS X st t := fun pins s σ H D I hw =>
  wpAny_mono (h pins s σ H D (I.wish _) hw) (fun _ _ q => q.unwish) fun _ _ z => False.elim z
def CalE (P : Program) (w : World) (K : PySem.W.Frag) (mg : Str → Option Value) (base : Heap) (k : Nat) (x : Str) (ps : List Str) (sp : Sp) : Prop :=
  ∃ f fd, FnOk P w K mg base (CXE P w) k f fd ps sp ∧ mg x = some (.ref f) ∧ PySem.W.keepIn K (.ref f) = true ∧ Binds K fd ps []
theorem CalE.calm {P : Program} {w : World} {K : PySem.W.Frag} {mg : Str → Option Value} {base : Heap} {k : Nat} {x : Str} {ps : List Str} {sp sp' : Sp}
    (C : CalE P w K mg base k x ps sp) (h : ∀ vs H Q E, sp' vs H Q E → sp vs H Q E0) : Cal P w K mg base k x ps sp' := by
  obtain ⟨f, fd, G, a, b, c⟩ := C
  refine ⟨f, fd, ⟨fun vs H Q E z => G.len vs H Q E0 (h _ _ _ _ z), fun A outer s H args us vs Q E hr he hb hv hs => ?_⟩, a, b, c⟩
  refine codeAny_mono (G.run A outer s H args us vs Q E0 hr he hb hv (h _ _ _ _ hs)) fun r s' q => ?_
  cases r with
  | ok fl => cases fl <;> exact q
  | error e =>
    obtain ⟨_, _, _, _, _, _, _, _, _, _, z⟩ := q
    exact z.elim
end L2
namespace L2
open PySem PySem.Spec PyProof.Rows
set_option maxRecDepth 100000
def tTryAs (sp : Sp) (C : Addr) (g : V → St → St) (i : Nat) (ta : TA) (ts : Addr → Obj → TS) : TS := fun D σ H => ta σ H fun vs H1 => sp vs H1 (fun v H2 => D.nx (g v σ) H2)
  (fun c _ H2 => c = .ref C ∧ ∀ x oe, oe.cls = .ref C → ts x oe { nx := fun σ' H' => D.nx (σ'.set i none) H', rt := D.rt, bk := fun σ' H' => D.bk (σ'.set i none) H', ct := fun σ' H' => D.ct (σ'.set i none) H' } (σ.set i (some (.ref x))) H2)
def tTry (sp : Sp) (C : Addr) (g : V → St → St) (ta : TA) (ts : Addr → Obj → TS) : TS := fun D σ H => ta σ H fun vs H1 => sp vs H1 (fun v H2 => D.nx (g v σ) H2)
  (fun c _ H2 => c = .ref C ∧ ∀ x oe, oe.cls = .ref C → ts x oe D σ H2)
theorem z_tryAs {sp : Sp} {C : Addr} {g : V → St → St} {i : Nat} {ta : TA} {ts : Addr → Obj → TS} {D : Ends} {σ : St} {H : Hp} : tTryAs sp C g i ta ts D σ H = ta σ H (fun vs H1 => sp vs H1 (fun v H2 => D.nx (g v σ) H2)
  (fun c _ H2 => c = .ref C ∧ ∀ x oe, oe.cls = .ref C → ts x oe { nx := fun σ' H' => D.nx (σ'.set i none) H', rt := D.rt, bk := fun σ' H' => D.bk (σ'.set i none) H', ct := fun σ' H' => D.ct (σ'.set i none) H' } (σ.set i (some (.ref x))) H2)) := rfl
theorem z_try {sp : Sp} {C : Addr} {g : V → St → St} {ta : TA} {ts : Addr → Obj → TS} {D : Ends} {σ : St} {H : Hp} : tTry sp C g ta ts D σ H = ta σ H (fun vs H1 => sp vs H1 (fun v H2 => D.nx (g v σ) H2)
  (fun c _ H2 => c = .ref C ∧ ∀ x oe, oe.cls = .ref C → ts x oe D σ H2)) := rfl
end L2
namespace L2
open PySem PySem.Spec PyProof.Rows
set_option maxRecDepth 100000
structure ExcI (K : PySem.W.Frag) (C : Addr) : Prop where
  ga : PySem.W.findIn K (.ref C) "__getattribute__" = some (some (.builtin "BaseException.__getattribute__"))
  gn : PySem.W.findIn K (.ref C) "__getattr__" = some none
  cl : PySem.W.findIn K (.ref C) "__class__" = some (some (.builtin "object.__class__"))
  ob : PySem.W.mroIn K C (.type "object") = some true
  be : PySem.W.mroIn K C (.type "BaseException") = some true
theorem ExcI.is {K : PySem.W.Frag} {C : Addr} (Z : ExcI K C) : (PySem.W.clsIn K C).isSome = true := by
  obtain ⟨cd, a, _⟩ := Option.bind_eq_some_iff.mp Z.ob
  rw [a]; rfl
theorem nw {H H' : Hp} {p : Addr} {o : HO} (hp : H p = none) (e : upd H p o = H') : Same H H' ∧ H' p = some o := by
  subst e
  exact ⟨Same.upd hp _, upd_same⟩
end L2
namespace L2
open PySem PySem.Spec PyProof.Rows
def plainE : Expr → Bool
  | .Starred _ _ => false
  | _ => true
theorem star_cns {e : Expr} {es : List Expr} {env : Env} (h : plainE e = true) : starEach (e :: es) env = (false, eval e env) :: starEach es env := by
  cases e <;> first | rfl | cases h
theorem star_any {env : Env} {pos : Pos} : ∀ {es : List Expr}, es.all plainE = true → (backTo pos (starEach es env)).any (·.1) = false
  | [], _ => rfl
  | e :: es, h => by
    rw [List.all_cons, Bool.and_eq_true] at h
    rw [star_cns h.1]
    have ih := star_any (env := env) (pos := pos) h.2
    unfold backTo at ih ⊢
    rw [List.map_cons, List.any_cons, ih]
    rfl
section
variable {X : Cx} {e : Expr} {es : List Expr} {te : TE} {t : TA} {x : Str} {p pos : Pos} {id T : String} {r : List V → Hp → VK → Prop} {k : Nat} {ps : List Str} {sp : Sp}
theorem pa_cns (ha : PE X e te) (hr : PA X es t) (h : plainE e = true := by rfl) : PA X (e :: es) (tCons te t) := pa_cons ha hr (star_cns h)
theorem pe_cB (hc : CallR X (.builtin id) r) (hg : Gl X x) (hm : X.mg x = none) (hv : bootBuiltins x = some (.builtin id)) (ha : PA X (e :: es) t) (h1 : plainE e = true := by rfl) (h2 : es.all plainE = true := by rfl) (hn : x ≠ "__name__" := by decide) (hdb : (x == ("__debug__" : Str)) = false := by decide) :
    PE X (.Call (.Name x p) (e :: es) [] pos) (tCB r t) := pe_callB hc hg hm hv ha hn hdb (star_cns h1) (star_any h2)
theorem pe_cTy (hc : CallR X (.type T) r) (hg : Gl X x) (hm : X.mg x = none) (hv : bootBuiltins x = some (.type T)) (ha : PA X (e :: es) t) (h1 : plainE e = true := by rfl) (h2 : es.all plainE = true := by rfl) (hn : x ≠ "__name__" := by decide) (hdb : (x == ("__debug__" : Str)) = false := by decide) :
    PE X (.Call (.Name x p) (e :: es) [] pos) (tCB r t) := pe_callTy hc hg hm hv ha hn hdb (star_cns h1) (star_any h2)
theorem pe_cD (C : Cal X.prog X.w X.K X.mg X.base k x ps sp) (hr : Room k X.A) (ha : PA X (e :: es) t) (h1 : plainE e = true := by rfl) (h2 : es.all plainE = true := by rfl) (hg : Gl X x := by rfl) (hdb : (x == ("__debug__" : Str)) = false := by decide) :
    PE X (.Call (.Name x p) (e :: es) [] pos) (tCall sp [] E0 t) := pe_callD C hr ha hg hdb (star_cns h1) (star_any h2)
end
end L2
namespace L2
open PySem PySem.Spec PyProof.Rows
def Itd (lo : Int) (n : Nat) : It := ⟨fun i _ => i < n, fun i H x H' => H' = H ∧ x = .int (lo - i), fun i _ => n ≤ i⟩
theorem turn_down {P : Program} {w : World} {K : PySem.W.Frag} {tg : Expr} (it : Addr) (lo : Int) (n : Nat) : Turn P w K tg (Itd lo n) [it] it (fun i h => IsRangeIter h it (lo + (i : Nat) * (-1)) ((n : Int) - (i : Nat)) (-1)) where
  mem := by simp
  obj := fun i h st b hb => by
    have e : b = it := by simpa using hb
    subst e
    exact ⟨_, st, fun v z => by
      have z' : Data.fields _ = Data.cell v := z
      cases z'⟩
  keep := fun i h h' st k => k it (by simp) _ st
  item := by
    intro X hP hw hK hc i pins s σ H E I hf st hg
    subst hP hw hK
    obtain ⟨f0, f1, f2, f3, f4, f5⟩ := hf it (by simp)
    have W := Walks.range (prog := X.prog) (w := X.w) (I.ok.hd hc) it lo (-1) n
    refine W.item i s _ _ hg st fun v h' tk hv st' kk => ?_
    obtain ⟨t, rfl⟩ := hv
    have I1 : Inv X pins σ H { s with heap := h', toks := tk } := I.turned (fun b o hb e => kk b o (by simpa using hb) e) f0 f1 f3 f4 f5
    refine ⟨_, rfl, go_of (s := { s with heap := h', toks := tk }) (n := "range_iterator") st' rfl rfl (by decide) ⟨.int (lo - i), H, I1, ⟨t, ?_⟩, ⟨rfl, rfl⟩, st', fun b hb => (hf b hb).1⟩⟩
    rw [Int.mul_neg, Int.mul_one, ← Int.sub_eq_add_neg]
  done := by
    intro X hP hw hK hc i pins s σ H E I hf st hg
    subst hP hw hK
    obtain ⟨f0, f1, f2, f3, f4, f5⟩ := hf it (by simp)
    exact wpAny_pyNext_range_end (I.ok.hd hc) st (by have : n ≤ i := hg; omega) fun h' eb => ⟨rfl, I.turned (t' := s.toks) (fun b o hb e => eb b o hb e) f0 f1 f3 f4 f5⟩
  self := fun _ _ _ _ _ st h => wpAny_pyIter_rangeiter st h
section
variable {X : Cx} {tg : Expr}
theorem down_it {pins : List (Addr × Obj)} {σ : St} {H : Hp} {s : Shared} {R : It → Hp → Prop} {E : Value → Shared → Prop} {lo hi : Int} {t u v : Tok} {tk : Nat} (I : Inv X pins σ H s) (h1 : -(2 ^ 62) ≤ lo) (h2 : lo < 2 ^ 62) (h3 : -(2 ^ 62) ≤ hi) (h4 : hi < 2 ^ 62)
    (q : R (Itd lo (lo - hi).toNat) H) : wpAny (model X.prog X.w) X.A (pyIter (.ref s.heap.objs.size)) (PIE X pins σ tg R) E { s with heap := s.heap.push { cls := .type "range", data := .fields #[.int lo t, .int hi u, .int (-1) v] }, toks := tk } := by
  refine wpAny_pyIter_range (IsRange.new ..) (PySem.W.small_down h1 h2 h3 h4) ?_
  have I1 : Inv X pins σ H { s with heap := s.heap.push { cls := .type "range", data := .fields #[.int lo t, .int hi u, .int (-1) v] }, toks := tk } := I.kept fun b o e => Heap.get?_push_of_some _ e
  refine ⟨(s.heap.push { cls := .type "range", data := .fields #[.int lo t, .int hi u, .int (-1) v] }).objs.size, [(s.heap.push { cls := .type "range", data := .fields #[.int lo t, .int hi u, .int (-1) v] }).objs.size], _, _, H, rfl,
    I1.kept (t' := tk) fun b o e => Heap.get?_push_of_some _ e, turn_down _ lo (lo - hi).toNat, ?_, fun b hb => ?_, q⟩
  · have e1 : lo + ((0 : Nat) : Int) * (-1) = lo := by simp
    have e2 : (((lo - hi).toNat : Nat) : Int) - ((0 : Nat) : Int) = Builtin.Range.rangeSize lo hi (-1) := by rw [PySem.W.rangeSize_downNat]; omega
    show IsRangeIter _ _ (lo + ((0 : Nat) : Int) * (-1)) ((((lo - hi).toNat : Nat) : Int) - ((0 : Nat) : Int)) (-1)
    rw [e1, e2]
    exact Heap.get?_push_size _ rfl
  · have e : b = (s.heap.push { cls := .type "range", data := .fields #[.int lo t, .int hi u, .int (-1) v] }).objs.size := by simpa using hb
    subst e
    exact I1.fpOk (Nat.le_refl _) (I1.hok.fresh (Nat.le_refl _))
def iDown (ta : TA) : TI := fun σ H R => ta σ H fun vs H1 => ∃ i j : Int, vs = [.int i, .int j, .int (-1)] ∧ (-(2 ^ 62) ≤ i ∧ i < 2 ^ 62 ∧ -(2 ^ 62) ≤ j ∧ j < 2 ^ 62) ∧ R (Itd i (i - j).toNat) H1
theorem pi_down {a b c : Expr} {ta : TA} {p pos : Pos} (hg : Gl X "range") (hm : X.mg "range" = none) (ha : PA X [a, b, c] ta) (h1 : plainE a = true := by rfl) (h2 : [b, c].all plainE = true := by rfl) :
    PI X tg (.Call (.Name "range" p) [a, b, c] [] pos) (iDown ta) := by
  intro pins s σ H R I h
  refine Call_ (ld_blt I hg hm boot_range (PyProof.Rows.callWith_type1 (thn (ha pos pins s σ H _ I h) fun us s1 ⟨vs, H1, I1, r1, q1⟩ => ?_) (star_cns h1) (star_any h2)))
  obtain ⟨i, j, e, ⟨q1, q2, q3, q4⟩, q⟩ := q1
  subst e
  cases r1 with
  | cons r rr =>
    cases rr with
    | cons r' rr =>
      cases rr with
      | cons r'' rr =>
        cases rr
        obtain ⟨t, rfl⟩ := r
        obtain ⟨t', rfl⟩ := r'
        obtain ⟨t'', rfl⟩ := r''
        exact call_range_3 (by decide) (down_it I1 q1 q2 q3 q4 q) (.inl (PyProof.noPylong_of_log2 (by decide +kernel)))
theorem z_down {ta : TA} {σ : St} {H : Hp} {R : It → Hp → Prop} : iDown ta σ H R = ta σ H (fun vs H1 => ∃ i j : Int, vs = [.int i, .int j, .int (-1)] ∧ (-(2 ^ 62) ≤ i ∧ i < 2 ^ 62 ∧ -(2 ^ 62) ≤ j ∧ j < 2 ^ 62) ∧ R (Itd i (i - j).toNat) H1) := rfl
theorem z_exd {i j : Int} {G : Int → Int → Prop} : (∃ i' j' : Int, [V.int i, .int j, .int (-1)] = [.int i', .int j', .int (-1)] ∧ G i' j') = G i j := propext ⟨fun ⟨_, _, e, h⟩ => by cases e; exact h, fun h => ⟨i, j, rfl, h⟩⟩
end
theorem wkAt_down {H : Hp} {lo : Int} {n : Nat} : WkAt (Itd lo n) H (List.range n) (fun i => .int (lo - (i : Nat))) := fun i => by
  refine ⟨fun e => ?_, fun e h => ?_⟩
  · have := List.getElem?_eq_none_iff.mp e
    rw [List.length_range] at this
    exact this
  · obtain ⟨h1, h2⟩ := List.getElem?_eq_some_iff.mp h
    rw [List.length_range] at h1
    rw [List.getElem_range] at h2
    subst h2
    exact ⟨h1, fun x H3 ⟨a, b⟩ => ⟨a, b⟩⟩
end L2
namespace L2
open PySem PySem.Spec PyProof.Rows
theorem range_rev (n : Nat) : sliceRange ((n : Int) - 1) (-1) (-1) = (List.range n).map fun (k : Nat) => ((n : Int) - 1 + (k : Int) * (-1)).toNat := by
  unfold sliceRange
  dsimp only
  rw [if_neg (by decide)]
  have e : (if (n : Int) - 1 > -1 then ((n : Int) - 1 - -1 - -1 - 1) / (- -1) else 0).toNat = n := by
    split
    · rw [show (- -1 : Int) = 1 from rfl, Int.ediv_one]; omega
    · omega
  rw [e]
  refine List.map_congr_left fun k _ => ?_
  omega
theorem pick_rev2 (its : List Value) : slicePick its.toArray none none (some (-1)) = its.reverse.toArray := by
  unfold slicePick
  have e : (sliceBounds none none (some (-1)) its.toArray.size) = ((its.length : Int) - 1, -1, -1) := by
    unfold sliceBounds
    simp
  rw [e]
  dsimp only
  rw [range_rev, List.filterMap_map]
  exact congrArg List.toArray (pick_rev1 its)
section
variable {X : Cx} {e st : Expr} {te tst : TE} {pos p2 : Pos}
def tRevL (K : PySem.W.Frag) (te tst : TE) : TE := fun σ H Q => te σ H fun x H1 => tst σ H1 fun y H2 => ∃ a xs, x = .ref a ∧ y = .int (-1) ∧ SqL K H2 a xs ∧ ∀ p, H2 p = none → Q (.ref p) (upd H2 p (.lst xs.reverse))
theorem pe_revL (he : PE X e te) (hst : PE X st tst) : PE X (.Subscript e (.Slice none none (some st) p2) pos) (tRevL X.K te tst) := by
  intro pins s σ H Q I h
  refine Subscript_ (thn (he pins s σ H _ I h) fun v s1 ⟨x, H1, I1, r1, q1⟩ => ?_)
  refine wpAny_Slice ?_
  rw [evalPart_none]
  refine wpAny_pure (wpAny_pure ?_)
  rw [evalPart_some]
  refine thn (hst pins s1 σ H1 _ I1 q1) fun u s3 ⟨y, H3, I3, r3, q3⟩ => ?_
  obtain ⟨a, xs, rfl, rfl, hq, q⟩ := q3
  obtain ⟨tk, rfl⟩ := r3
  cases r1
  have I4 : Inv X pins σ H3 { s3 with heap := s3.heap.push { cls := .type "slice", data := .fields #[.none, .none, .int (-1) tk] } } := I3.kept (t' := s3.toks) fun b ob q => Heap.get?_push_of_some _ q
  obtain ⟨its, r, ht, hz⟩ := I4.list hq
  have hlen := r.length
  show wpAny (model X.prog X.w) X.A (subscriptTail e (.Slice none none (some st) p2) (.ref a) (.ref s3.heap.objs.size)) (EP X pins σ Q) X.xe { s3 with heap := s3.heap.push { cls := .type "slice", data := .fields #[.none, .none, .int (-1) tk] } }
  refine tail_any (ops := [.ref a, .ref s3.heap.objs.size]) ht.isList.typeIs slot_list_getitem.lookup (wpAny_getItem_list_slice (st := some (-1)) ht.isList ⟨_, Heap.get?_push_size _ rfl, rfl, rfl⟩ .none .none (.int _ _) (by decide) ?_ (by rw [List.size_toArray, ← hlen]; exact hz)) (by with_unfolding_all rfl)
  rw [pick_rev2]
  exact ⟨.ref _, _, I4.laid (t' := s3.toks) (o := .lst xs.reverse) (fun b ob q => Heap.get?_push_of_some _ q) (Nat.le_refl _) ⟨by rw [List.length_reverse]; exact hz, _, 0, r.rev, Heap.get?_push_size _ rfl⟩, rfl, q _ I4.fresh⟩
theorem z_revL {K : PySem.W.Frag} {σ : St} {H : Hp} {Q : VK} : tRevL K te tst σ H Q = te σ H (fun x H1 => tst σ H1 fun y H2 => ∃ a xs, x = .ref a ∧ y = .int (-1) ∧ SqL K H2 a xs ∧ ∀ p, H2 p = none → Q (.ref p) (upd H2 p (.lst xs.reverse))) := rfl
end
end L2
namespace L2
open PySem PySem.Spec PyProof.Rows
theorem fi_n {σ : St} {H : Hp} {g : TG} {tb : TS} {D : Ends} {J : It} (n : Nat) (inj : Nat → V) (Pv : Nat → St → Hp → Prop) (h0 : Pv 0 σ H) (hw : ∀ i σ H, Pv i σ H → WkAt J H (List.range n) inj)
    (hs : ∀ i σ H, i < n → Pv i σ H → g (inj i) σ H fun σ2 H2 => tb { D with nx := Pv (i + 1), ct := Pv (i + 1), bk := D.nx } σ2 H2) (hd : ∀ σ H, Pv n σ H → D.nx σ H) : FI J g tb D σ H := by
  refine fi_by (es := List.range n) (inj := inj) (fun pre => Pv pre.length) h0 (fun pre σ H p => hw pre.length σ H p) (fun pre e post σ H he p => ?_) (fun σ H p => hd σ H (by rw [List.length_range] at p; exact p))
  have hl := congrArg List.length he
  rw [List.length_range, List.length_append, List.length_cons] at hl
  have ee : e = pre.length := by
    have := congrArg (fun l => l[pre.length]?) he
    simp only [List.getElem?_append_right (Nat.le_refl _), Nat.sub_self, List.getElem?_cons_zero] at this
    rw [List.getElem?_range (by omega)] at this
    exact (Option.some.inj this).symm
  subst ee
  have := hs pre.length σ H (by omega) p
  rw [List.length_append, List.length_singleton]
  exact this
theorem Same.put {H H' : Hp} {p : Addr} {o : HO} (s : Same H H') (hp : H p = none) : Same H (L2.upd H' p o) := fun b u e => by
  rw [upd_ne (ne_of_none e hp)]
  exact s b u e
end L2
namespace L2
open PySem PySem.Spec PyProof.Rows
def iAny (K : PySem.W.Frag) (tl : TE) : TI := fun σ H R => tl σ H fun x H1 => ∃ a, x = .ref a ∧ (((∃ xs, SqL K H1 a xs) ∧ R (Itl K a) H1) ∨ ((∃ xs, SqT K H1 a xs) ∧ R (Itt K a) H1))
theorem pi_any {X : Cx} {tg l : Expr} {tl : TE} (hl : PE X l tl) : PI X tg l (iAny X.K tl) := by
  intro pins s σ H R I h
  refine thn (hl pins s σ H _ I h) fun v s1 ⟨x, H1, I1, r1, q1⟩ => ?_
  obtain ⟨a, e, q1⟩ := q1
  subst e
  cases r1
  have fp : ∀ b ∈ [s1.heap.objs.size], FpOk X pins H1 b := fun b hb => by
    have e : b = s1.heap.objs.size := by simpa using hb
    subst e
    exact I1.fpOk (Nat.le_refl _) (I1.hok.fresh (Nat.le_refl _))
  rcases q1 with ⟨⟨xs, hq⟩, q⟩ | ⟨⟨xs, hq⟩, q⟩
  · obtain ⟨its, rv, p, hz⟩ := I1.list hq
    exact wpAny_pyIter_list p.isList ⟨s1.heap.objs.size, [s1.heap.objs.size], _, _, H1, rfl, I1.kept (t' := s1.toks) fun b o e => Heap.get?_push_of_some _ e, turn_list a _, ⟨_, Heap.get?_push_size _ rfl, rfl, rfl⟩, fp, q⟩
  · obtain ⟨its, rv, p, hz⟩ := I1.tuple hq
    exact wpAny_pyIter_tuple (show s1.heap.IsTuple a its.toArray from p) ⟨s1.heap.objs.size, [s1.heap.objs.size], _, _, H1, rfl, I1.kept (t' := s1.toks) fun b o e => Heap.get?_push_of_some _ e, turn_tuple a _, ⟨_, Heap.get?_push_size _ rfl, rfl, rfl⟩, fp, q⟩
theorem z_iany {K : PySem.W.Frag} {tl : TE} {σ : St} {H : Hp} {R : It → Hp → Prop} : iAny K tl σ H R = tl σ H (fun x H1 => ∃ a, x = .ref a ∧ (((∃ xs, SqL K H1 a xs) ∧ R (Itl K a) H1) ∨ ((∃ xs, SqT K H1 a xs) ∧ R (Itt K a) H1))) := rfl
end L2
namespace L2
theorem seq_pt {t u : TS} {D : Ends} {σ : St} {H : Hp} (P : St → Hp → Prop) (h1 : ∀ N : St → Hp → Prop, (∀ σ' H', P σ' H' → N σ' H') → t { D with nx := N } σ H) (h2 : ∀ σ' H', P σ' H' → u D σ' H') : tSeq t u D σ H := h1 (u D) h2
end L2
namespace L2
open PySem PySem.SeqAt PySem.Spec PyProof.Rows
section
variable {X : Cx}
def rInsert : V → List V → Hp → VK → Prop := fun x vs H Q => ∃ l xs y, ∃ i : Nat, x = .ref l ∧ vs = [.int (i : Nat), y] ∧ H l = some (.lst xs) ∧ i ≤ xs.length ∧ xs.length < 10000 ∧ Q .non (upd H l (.lst (xs.take i ++ y :: xs.drop i)))
theorem mt_insert : MtM X "list.insert" rInsert := by
  intro pins s σ H x vs v us Q I rx rv h
  obtain ⟨l, xs, y, i, rfl, rfl, hH, hi, hz, q⟩ := h
  cases rx
  obtain ⟨u, w, rfl, ru, rw'⟩ := rv.two
  obtain ⟨t, rfl⟩ := ru
  obtain ⟨z, its, n, r, hl, e⟩ := I.lstM hH
  have sl : 10000 < sizeLine := by decide
  obtain ⟨x, hx⟩ : ∃ x : Int, x = ((i : Nat) : Int) := ⟨_, rfl⟩
  rw [← hx]
  have hfit : ¬ (!Builtin.List.listFitsIndex x) = true := by
    rw [fitsIndex_both (by omega) (by omega)]
    decide
  have hzz : its.toArray.size ≤ sizeLine := by rw [List.size_toArray]; omega
  refine call_meets F.slot_list_insert ⟨_, e, rfl⟩ F.entry_list_insert (F.args_list_insert_3 _ _ _) (AutoSeq1.list_insert_list_int_val_1 l its.toArray n x t w hfit hzz) ⟨e, ?_⟩
  refine ⟨.non, _, I.lset (its' := its.take i ++ w :: its.drop i) hH e ?_ ((r.take i).append (.cons rw' (r.drop i))) ?_, rfl, q⟩
  · have hm : (if x < 0 then (x + ((its.toArray.size : Nat) : Int)).toNat else min x.toNat its.toArray.size) = i := by
      rw [if_neg (by omega), hx, Int.toNat_natCast, List.size_toArray, Nat.min_eq_left (by omega)]
    show (its.toArray.extract 0 (if x < 0 then (x + ((its.toArray.size : Nat) : Int)).toNat else min x.toNat its.toArray.size)).push w ++ its.toArray.extract (if x < 0 then (x + ((its.toArray.size : Nat) : Int)).toNat else min x.toNat its.toArray.size) = _
    rw [hm]
    apply Array.ext'
    rw [Array.toList_append, Array.toList_push, Array.toList_extract, Array.toList_extract]
    simp only [List.extract_eq_take_drop, List.drop_zero, Nat.sub_zero, List.append_assoc, List.singleton_append]
    rw [List.take_of_length_le (l := its.drop i)]
    rw [List.length_drop, List.size_toArray]
    exact Nat.le_refl _
  · rw [List.length_append, List.length_cons, List.length_take, List.length_drop]
    omega
end
end L2
namespace L2
open PySem PySem.Spec PyProof.Rows
theorem tup_put {K : PySem.W.Frag} {H : Hp} {p a : Addr} {acc xs : List V} {o : HO} (h : SqT K H a xs) (hp : H p = some (.lst acc)) : SqT K (upd H p o) a xs := by
  rcases h with (h | ⟨o', h⟩) | h
  · exact .inl (.inl (by rw [upd_ne (ne_of h hp (by intro z; cases z))]; exact h))
  · exact .inl (.inr ⟨o', by rw [upd_ne (ne_of h hp (by intro z; cases z))]; exact h⟩)
  · exact .inr h
section
variable {K : PySem.W.Frag} {H1 : Hp} {p : Addr} {cσ : St} {g : TG} {te : TE} {Q : VK} {α : Type} {es : List α} {inj : α → V}
theorem cin_any {J : It} (Pn : α → V → Hp → Prop) (hz : es.length ≤ sizeLine) (hp : H1 p = none) (hJ : Wk J H1 es inj)
    (hm : ∀ e v H H', Pn e v H → Same H H' → Pn e v H') (hu : ∀ e v H acc o, Pn e v H → H p = some (.lst acc) → Pn e v (upd H p o))
    (step : ∀ e H' R, e ∈ es → Same H1 H' → (∀ v H6, Same H' H6 → Pn e v H6 → R v H6) → g (inj e) cσ H' fun σ4 H4 => Kp cσ σ4 ∧ te σ4 H4 R)
    (done : ∀ (ns : List V) H', ns.length = es.length → (∀ (i : Nat) e n, es[i]? = some e → ns[i]? = some n → Pn e n H') → Same H1 H' → H' p = some (.lst ns) → Q (.ref p) H') : cIn J cσ g tNoIf te Q H1 p := by
  have su : ∀ {H' : Hp} {o : HO}, Same H1 H' → Same H1 (upd H' p o) := fun {H' o} s b u e => by
    rw [upd_ne (ne_of_none e hp)]
    exact s b u e
  refine ⟨fun i m acc H' => m = es.length - i ∧ i ≤ es.length ∧ (acc.length = i ∧ ∀ (j : Nat) e n, es[j]? = some e → acc[j]? = some n → Pn e n H') ∧ H' p = some (.lst acc) ∧ Same H1 H', ⟨es.length, by simp, Nat.zero_le _, ⟨rfl, fun j e n _ h => by simp at h⟩, upd_same, su (Same.refl _)⟩, ?_⟩
  rintro i m ns H' ⟨rfl, hi, ⟨hl, hn⟩, hH, s⟩
  cases he : es[i]? with
  | none =>
    have e : i = es.length := Nat.le_antisymm hi (List.getElem?_eq_none_iff.mp he)
    exact .inl ⟨(hJ _ _ s).1 he, done ns _ (hl.trans e) hn s hH⟩
  | some e =>
    obtain ⟨go, yl⟩ := (hJ _ _ s).2 e he
    refine .inr ⟨go, fun x H3 y => ?_⟩
    obtain ⟨rfl, rfl⟩ := yl x H3 y
    obtain ⟨hlt, _⟩ := List.getElem?_eq_some_iff.mp he
    have q := step e H3 (fun y H6 => H6 p = some (.lst ns) ∧ ns.length < sizeLine ∧ ∃ m', m' < es.length - i ∧ m' = es.length - (i + 1) ∧ i + 1 ≤ es.length ∧ ((ns ++ [y]).length = i + 1 ∧ ∀ (j : Nat) e n, es[j]? = some e → (ns ++ [y])[j]? = some n → Pn e n (upd H6 p (.lst (ns ++ [y])))) ∧
        upd H6 p (.lst (ns ++ [y])) p = some (.lst (ns ++ [y])) ∧ Same H1 (upd H6 p (.lst (ns ++ [y])))) (List.mem_of_getElem? he) s
      (fun n H6 s6 pn => ⟨s6 _ _ hH, by omega, _, by omega, rfl, hlt, ⟨by rw [List.length_append, hl]; rfl, fun j e' n' h1 h2 => by
        refine hu _ _ _ _ _ ?_ (s6 _ _ hH)
        by_cases hj : j < ns.length
        · rw [List.getElem?_append_left hj] at h2
          exact hm _ _ _ _ (hn j e' n' h1 h2) s6
        · rw [List.getElem?_append_right (by omega)] at h2
          have hj0 : j - ns.length = 0 := by
            have := (List.getElem?_eq_some_iff.mp h2).1
            simp at this
            omega
          rw [hj0] at h2
          have hji : j = i := by omega
          subst hji
          rw [he] at h1
          cases h1
          cases h2
          exact pn⟩, upd_same, su (s.trans s6)⟩)
    exact q
end
end L2
namespace L2
open PySem PySem.Spec PyProof.Rows
theorem range_getD (ws : List V) : (List.range ws.length).map (fun i => ws.getD i .non) = ws := by
  refine List.ext_getElem (by simp) fun i h1 h2 => ?_
  rw [List.getElem_map, List.getElem_range, List.getD_eq_getElem?_getD, List.getElem?_eq_getElem h2]
  rfl
theorem wkAt_getD {K : PySem.W.Frag} {H : Hp} {a : Addr} {ws : List V} (h : SqL K H a ws) : WkAt (Itl K a) H (List.range ws.length) (fun i => ws.getD i .non) := wkAt_list (by rw [range_getD]; exact h)
end L2
namespace L2
open PySem PySem.Spec PyProof.Rows
def Itz (K : PySem.W.Frag) (a b : Addr) : It :=
  ⟨fun i H => ∃ xs ys x y, SqL K H a xs ∧ SqL K H b ys ∧ xs[i]? = some x ∧ ys[i]? = some y,
   fun i H x H' => ∃ p u v, (∀ xs, SqL K H a xs → xs[i]? = some u) ∧ (∀ ys, SqL K H b ys → ys[i]? = some v) ∧ H p = none ∧ x = .ref p ∧ H' = upd H p (.tup [u, v]),
   fun i H => ∃ xs ys, SqL K H a xs ∧ SqL K H b ys ∧ (xs.length ≤ i ∨ ys.length ≤ i)⟩
theorem turn_zip {P : Program} {w : World} {K : PySem.W.Frag} {el : List Expr} {x1} {tp : Pos} (a b z TI TO i1 i2 : Addr) (D : ZipApart z TI TO i1 i2 a b) :
    Turn P w K (.Tuple el x1 tp) (Itz K a b) [z, TI, TO, i1, i2] z (fun i h => IsZip h z TI TO .none ∧ IsPair h TI (.ref i1) (.ref i2) ∧ (∃ c d, IsPair h TO c d) ∧ h.IsListIter i1 a i ∧ h.IsListIter i2 b i) where
  mem := by simp
  obj := fun i h st c hc => by
    obtain ⟨hz, hTI, ⟨u, v, hTO⟩, ⟨o1, e1, _, d1⟩, o2, e2, _, d2⟩ := st
    simp only [List.mem_cons, List.not_mem_nil, or_false] at hc
    rcases hc with rfl | rfl | rfl | rfl | rfl
    · exact ⟨_, hz, fun v z => by cases (show Data.fields _ = Data.cell v from z)⟩
    · exact ⟨_, hTI, fun v z => by cases (show Data.seq _ _ = Data.cell v from z)⟩
    · exact ⟨_, hTO, fun v z => by cases (show Data.seq _ _ = Data.cell v from z)⟩
    · exact ⟨o1, e1, fun v z => by rw [d1] at z; cases z⟩
    · exact ⟨o2, e2, fun v z => by rw [d2] at z; cases z⟩
  keep := fun i h h' st k => by
    obtain ⟨hz, hTI, ⟨u, v, hTO⟩, ⟨o1, e1, r1⟩, o2, e2, r2⟩ := st
    exact ⟨k z (by simp) _ hz, k TI (by simp) _ hTI, ⟨u, v, k TO (by simp) _ hTO⟩, ⟨o1, k i1 (by simp) _ e1, r1⟩, o2, k i2 (by simp) _ e2, r2⟩
  item := by
    intro X hP hw hK hc i pins s σ H E I hf st hg
    subst hP hw hK
    obtain ⟨xs, ys, x, y, hqx, hqy, hx, hy⟩ := hg
    obtain ⟨its, rv, p, hzx⟩ := I.list hqx
    obtain ⟨its2, rv2, p2, hzy⟩ := I.list hqy
    obtain ⟨u, hu, ru⟩ := rv.get hx
    obtain ⟨v, hv, rv'⟩ := rv2.get hy
    obtain ⟨hz, hTI, ⟨c, d, hTO⟩, h1, h2⟩ := st
    refine wpAny_pyNext_zip_item D hz hTI hTO h1 h2 p.isList p2.isList (x := u) (y := v) (by simpa using hu) (by simpa using hv) fun g a1 a2 a3 a4 a5 a6 hk => ⟨_, rfl, ?_⟩
    refine wpAny_letOwnedTupleGo_zip a1 fun g2 hz2 sb2 => ?_
    replace sb2 : Heap.SameBut z g g2 := sb2
    have lt : ∀ b ∈ [z, TI, TO, i1, i2], b ≠ s.heap.objs.size := fun b hb => by
      obtain ⟨o1, e1, _⟩ := h1
      obtain ⟨o2, e2, _⟩ := h2
      simp only [List.mem_cons, List.not_mem_nil, or_false] at hb
      rcases hb with rfl | rfl | rfl | rfl | rfl
      · exact Nat.ne_of_lt (Heap.lt_size hz)
      · exact Nat.ne_of_lt (Heap.lt_size hTI)
      · exact Nat.ne_of_lt (Heap.lt_size hTO)
      · exact Nat.ne_of_lt (Heap.lt_size e1)
      · exact Nat.ne_of_lt (Heap.lt_size e2)
    have hn : H s.heap.objs.size = none := I.fresh
    have I1 : Inv X pins σ (upd H s.heap.objs.size (.tup [x, y])) { s with heap := s.heap.push { cls := .type "tuple", data := .seq #[u, v] }, toks := s.toks } :=
      I.laid (fun b o q => Heap.get?_push_of_some _ q) (Nat.le_refl _) ⟨by show 2 ≤ sizeLine; decide, [u, v], .cons ru (.cons rv' .nil), ⟨_, Heap.get?_push_size _ rfl, rfl, _, rfl⟩⟩
    have fp' : ∀ b ∈ [z, TI, TO, i1, i2], FpOk X pins (upd H s.heap.objs.size (.tup [x, y])) b := fun b hb =>
      ⟨by rw [upd_ne (lt b hb)]; exact (hf b hb).1, (hf b hb).2⟩
    have I2 := I1.turnL (h' := g2) (t' := s.toks) (fp := [z, TI, TO, i1, i2]) (fun b o hb q => by
      have n1 : b ≠ z := fun e => hb (by simp [e])
      refine (sb2.2 b n1).trans ?_
      rcases Heap.get?_push_cases q with ⟨rfl, rfl⟩ | q0
      · exact a5
      · exact hk b o n1 (fun e => hb (by simp [e])) (fun e => hb (by simp [e])) (fun e => hb (by simp [e])) q0) fp'
    refine ⟨.ref s.heap.objs.size, _, I2, rfl, ⟨_, x, y, fun zs hz => by rw [I.list_inj hz hqx]; exact hx, fun zs hz => by rw [I.list_inj hz hqy]; exact hy, hn, rfl, rfl⟩, ⟨hz2, ?_, ⟨u, v, sb2.extBut _ _ D.TOz a2⟩, a3.extBut sb2.extBut D.i1z, a4.extBut sb2.extBut D.i2z⟩, fun b hb => (fp' b hb).1⟩
    exact sb2.extBut _ _ D.TIz (hk _ _ D.TIz D.TITO D.TIi1 D.TIi2 hTI)
  done := by
    intro X hP hw hK hc i pins s σ H E I hf st hg
    subst hP hw hK
    obtain ⟨xs, ys, hqx, hqy, hxy⟩ := hg
    obtain ⟨its, rv, p, hzx⟩ := I.list hqx
    obtain ⟨its2, rv2, p2, hzy⟩ := I.list hqy
    obtain ⟨hz, hTI, ⟨c, d, hTO⟩, h1, h2⟩ := st
    have l1 := rv.length
    have l2 := rv2.length
    exact wpAny_pyNext_zip_end (I.ok.hd hc) D hz hTI hTO h1 h2 p.isList p2.isList (by
      rcases hxy with h | h
      · exact .inl (by simp; omega)
      · exact .inr (by simp; omega)) fun g hk => ⟨rfl, I.turnL (t' := s.toks) (fp := [z, TI, TO, i1, i2]) (fun b o hb q => hk b o (fun e => hb (by simp [e])) (fun e => hb (by simp [e])) (fun e => hb (by simp [e])) (fun e => hb (by simp [e])) q) hf⟩
  self := fun _ _ _ _ _ st h => wpAny_pyIter_zip st.1 h
section
variable {X : Cx} {a b : Expr} {ta : TA} {el : List Expr} {x1} {tp p pos : Pos}
def iZip (K : PySem.W.Frag) (ta : TA) : TI := fun σ H R => ta σ H fun vs H1 => ∃ a b, vs = [.ref a, .ref b] ∧ (∃ xs, SqL K H1 a xs) ∧ (∃ ys, SqL K H1 b ys) ∧ R (Itz K a b) H1
theorem pi_zip (hg : Gl X "zip") (hm : X.mg "zip" = none) (ha : PA X [a, b] ta) (hs : starEach [a, b] X.env = [(false, eval a X.env), (false, eval b X.env)] := by rfl) (hs2 : starEach [b] X.env = [(false, eval b X.env)] := by rfl) :
    PI X (.Tuple el x1 tp) (.Call (.Name "zip" p) [a, b] [] pos) (iZip X.K ta) := by
  intro pins s σ H R I h
  refine Call_ (ld_blt I hg hm boot_zip (PyProof.Rows.callWith_type1 (thn (ha pos pins s σ H _ I h) fun us s1 ⟨vs, H1, I1, r1, q1⟩ => ?_) (by rw [hs, hs2]) (by rw [hs2]; rfl)))
  obtain ⟨u, v, rfl, ⟨xs, hqx⟩, ⟨ys, hqy⟩, q⟩ := q1
  obtain ⟨v1, v2, rfl, r1, r2⟩ := vals2 r1
  cases r1
  cases r2
  obtain ⟨its, rx, px, _⟩ := I1.list hqx
  obtain ⟨its2, ry, py, _⟩ := I1.list hqy
  have lt1 : u < s1.heap.objs.size := by
    obtain ⟨o, n, e, _⟩ := px
    exact Heap.lt_size e
  have lt2 : v < s1.heap.objs.size := by
    obtain ⟨o, n, e, _⟩ := py
    exact Heap.lt_size e
  refine call_zip_2 px.isList py.isList fun h' hz hTI hTO hi1 hi2 hsz hk => ?_
  have I2 : Inv X pins σ H1 { s1 with heap := h' } := I1.kept (t' := s1.toks) fun c o' e => hk c o' e
  refine wpAny_pyIter_zip hz ⟨s1.heap.objs.size + 4, [s1.heap.objs.size + 4, s1.heap.objs.size + 2, s1.heap.objs.size + 3, s1.heap.objs.size, s1.heap.objs.size + 1], _, _, H1, rfl, I2, turn_zip u v _ _ _ _ _ (zipApart_new lt1 lt2), ⟨hz, hTI, ⟨_, _, hTO⟩, hi1, hi2⟩, fun c hcm => ?_, q⟩
  have hge : s1.heap.objs.size ≤ c := by
    simp only [List.mem_cons, List.not_mem_nil, or_false] at hcm
    rcases hcm with rfl | rfl | rfl | rfl | rfl
    · exact Nat.le_add_right _ 4
    · exact Nat.le_add_right _ 2
    · exact Nat.le_add_right _ 3
    · exact Nat.le_refl _
    · exact Nat.le_add_right _ 1
  exact I1.fpOk hge (I1.hok.fresh hge)
end
theorem z_izip {K : PySem.W.Frag} {ta : TA} {σ : St} {H : Hp} {R : It → Hp → Prop} : iZip K ta σ H R = ta σ H (fun vs H1 => ∃ a b, vs = [.ref a, .ref b] ∧ (∃ xs, SqL K H1 a xs) ∧ (∃ ys, SqL K H1 b ys) ∧ R (Itz K a b) H1) := rfl
theorem fi_zip {K : PySem.W.Frag} {σ : St} {H : Hp} {g : TG} {tb : TS} {D : Ends} {a b : Addr} {xs ys : List V} (n : Nat) (hn : n = min xs.length ys.length) (Pv : Nat → St → Hp → Prop) (h0 : Pv 0 σ H)
    (hw : ∀ i σ H, Pv i σ H → SqL K H a xs ∧ SqL K H b ys)
    (hs : ∀ i σ H p, i < n → Pv i σ H → H p = none → g (.ref p) σ (upd H p (.tup [xs.getD i .non, ys.getD i .non])) fun σ2 H2 => tb { D with nx := Pv (i + 1), ct := Pv (i + 1), bk := D.nx } σ2 H2) (hd : ∀ σ H, Pv n σ H → D.nx σ H) : FI (Itz K a b) g tb D σ H := by
  refine ⟨fun i m σ H => m = n - i ∧ i ≤ n ∧ Pv i σ H, ⟨n, by simp, Nat.zero_le _, h0⟩, ?_⟩
  rintro i m σ H ⟨rfl, hi, p⟩
  obtain ⟨wx, wy⟩ := hw _ _ _ p
  by_cases he : i = n
  · subst he
    exact .inl ⟨⟨xs, ys, wx, wy, by omega⟩, hd _ _ p⟩
  · have hl : i < n := by omega
    have ex : xs[i]? = some (xs.getD i .non) := by rw [List.getD_eq_getElem?_getD, List.getElem?_eq_getElem (by omega)]; rfl
    have ey : ys[i]? = some (ys.getD i .non) := by rw [List.getD_eq_getElem?_getD, List.getElem?_eq_getElem (by omega)]; rfl
    refine .inr ⟨⟨xs, ys, _, _, wx, wy, ex, ey⟩, Pv (i + 1), fun σ' H' p' => ⟨n - (i + 1), by omega, rfl, hl, p'⟩, fun x H3 y => ?_⟩
    obtain ⟨q, u, v, hu, hv, hq, rfl, rfl⟩ := y
    have eu := hu _ wx
    have ev := hv _ wy
    rw [ex] at eu
    rw [ey] at ev
    cases eu
    cases ev
    exact hs i σ H q hl p hq
end L2
namespace L2
open PySem PySem.SeqAt PySem.Spec PyProof.Rows
section
variable {X : Cx}
theorem op_isnB : OpR X (compareOp .IsNot) (fun x y H Q => ∃ a b : Bool, x = .bl a ∧ y = .bl b ∧ Q (.bl (a != b)) H) := by
  intro pins s σ H x y v u Q I rx ry h
  obtain ⟨a, b, rfl, rfl, q⟩ := h
  cases rx
  cases ry
  exact isnot_bool ⟨.bl _, H, I, rfl, q⟩
theorem dedup_len : ∀ (ns acc : List Int), (acc ++ ns).Nodup → ns.foldl step_dedup acc = acc ++ ns
  | [], acc, _ => by simp
  | n :: r, acc, h => by
    have hn : n ∉ acc := fun z => by
      have := List.nodup_append.mp h
      exact this.2.2 n z n (by simp) rfl
    have e : step_dedup acc n = acc ++ [n] := by
      unfold step_dedup
      rw [if_neg]
      simpa using hn
    rw [List.foldl_cons, e, dedup_len r (acc ++ [n]) (by rw [List.append_assoc]; exact h), List.append_assoc]
    rfl
theorem ints_are : ∀ {ns : List Int} {us : List Value}, Vals (ns.map V.int) us → PyProof.Rows.IntsAre us ns
  | [], _, .nil => .nil
  | n :: ns, _, .cons r rs => by
    obtain ⟨t, rfl⟩ := r
    exact .cons n t (ints_are rs)
theorem call_setI (hc : X.calm = true) : CallR X (.type "set") (fun xs H Q => ∃ a, ∃ ns : List Int, xs = [.ref a] ∧ SqL X.K H a (ns.map V.int) ∧ ns.length < 1000 ∧ ns.Nodup ∧ ∀ p S, H p = none → Q (.ref p) (upd H p (.set S ns.length))) := by
  intro pins s σ H xs us Q I r h
  obtain ⟨a, ns, rfl, ha, hl, hn, q⟩ := h
  obtain ⟨u, rfl, ru⟩ := vals1 r
  cases ru
  obtain ⟨its, rv, pl, hz⟩ := I.list ha
  have l1 := rv.length
  rw [List.length_map] at l1
  refine call_set_list (I.ok.hd hc) pl.isList (ns := ns) (ints_are rv) ?_ fun h' tk hS hk => ?_
  · rw [List.size_toArray]
    show its.length + 1 < 4096
    omega
  have el : (firstMet (fun i => ns.getD i 0) its.toArray.size).length = ns.length := by
    rw [List.size_toArray, ← l1]
    unfold firstMet
    have e : (List.range ns.length).map (fun i => ns.getD i 0) = ns := by
      refine List.ext_getElem (by simp) fun i h1 h2 => ?_
      rw [List.getElem_map, List.getElem_range, List.getD_eq_getElem?_getD, List.getElem?_eq_getElem h2]
      rfl
    rw [e, dedup_len ns [] (by simpa using hn)]
    simp
  rw [el] at hS
  refine ⟨.ref s.heap.objs.size, _, I.laid (a := s.heap.objs.size) (o := .set _ ns.length) (t' := tk) (fun b o q => hk b o (Heap.lt_size q) q) (Nat.le_refl _) hS, rfl, q _ _ (I.hok.fresh (Nat.le_refl _))⟩
theorem call_lenS : CallR X (.builtin "len") (fun xs H Q => ∃ p S n, xs = [.ref p] ∧ H p = some (.set S n) ∧ n < 1000 ∧ Q (.int (n : Nat)) H) := by
  intro pins s σ H xs us Q I r h
  obtain ⟨p, S, n, rfl, hp, hn, q⟩ := h
  obtain ⟨u, rfl, ru⟩ := vals1 r
  cases ru
  obtain ⟨o, es, ep, t, ho, hex, hd, _, _, _, hf, hn'⟩ := I.hok p _ hp
  refine call_len_set ho hex hd hf (by omega) ⟨.int _, H, I.tok _, ⟨_, rfl⟩, ?_⟩
  rw [hn']
  exact q
def rInT (K : PySem.W.Frag) (neg : Bool) : R2 := fun x y H Q => ∃ a p ns, ∃ zs : List V, ∃ rows : List (List Int), x = .ref a ∧ y = .ref p ∧ SqT K H a (ns.map V.int) ∧ SqL K H p zs ∧ zs.length = rows.length ∧ (∀ (i : Nat) v r, zs[i]? = some v → rows[i]? = some r → ∃ b, v = .ref b ∧ SqT K H b (r.map V.int)) ∧ Q (.bl (if neg then !rows.contains ns else rows.contains ns)) H
theorem any_rows {ns : List Int} {e : Value → Bool} : ∀ {zs : List V} {us : List Value} {rows : List (List Int)}, Vals zs us → zs.length = rows.length → (∀ (i : Nat) u r, us[i]? = some u → rows[i]? = some r → e u = decide (r = ns)) → us.any e = rows.contains ns
  | [], _, [], .nil, _, _ => rfl
  | _ :: zs, _, r :: rows, .cons a b, hl, h => by
    rw [List.any_cons, any_rows (zs := zs) (rows := rows) b (by simpa using hl) fun i u r h1 h2 => h (i + 1) u r h1 h2, h 0 _ r rfl rfl, List.contains_cons]
    congr 1
    by_cases z : r = ns
    · subst z
      simp
    · rw [decide_eq_false z]
      exact (beq_eq_false_iff_ne.mpr fun q => z q.symm).symm
theorem canLay_ints (ns : List Int) : (PyData.tuple (ns.map PyData.int)).canLay0 = true := by
  simp [PyData.canLay0, PySem.W.ke_canLayAll0]
theorem in1_units {A : Around} : A.in1.units ≤ A.units + 8 := by
  simp [Around.in1]
open Classical in
theorem op_notInT (hu : X.A.units + 64 < cLine) : OpR X (compareOp .NotIn) (rInT X.K true) := by
  intro pins s σ H x y v u Q I rx ry h
  obtain ⟨a, p, ns, zs, rows, rfl, rfl, ha, hp, hl, hr, q⟩ := h
  cases ry
  obtain ⟨its, rv, pl, hz⟩ := I.list hp
  have key : ∀ (i : Nat) w r, its[i]? = some w → rows[i]? = some r → decide (∃ b, w = .ref b ∧ SqT X.K H b (ns.map V.int)) = decide (r = ns) ∧ EqAt X.A.in1 s w v (decide (r = ns)) := fun i w r hw hrw => by
    have il := (List.getElem?_eq_some_iff.mp hw).1
    have zl : i < zs.length := by rw [rv.length]; exact il
    obtain ⟨b, eb, hb⟩ := hr i zs[i] r (List.getElem?_eq_getElem zl) hrw
    obtain ⟨w', hw', rw'⟩ := rv.get (List.getElem?_eq_getElem zl)
    rw [hw] at hw'
    cases hw'
    rw [eb] at rw'
    have ew : w = .ref b := rw'
    subst ew
    refine ⟨?_, ?_⟩
    · refine decide_eq_decide.mpr ⟨?_, ?_⟩
      · rintro ⟨b', e', h'⟩
        cases e'
        have := I.tuple_inj h' hb
        exact (List.map_inj_right (f := V.int) (by intro x y h; cases h; rfl)).mp this.symm
      · rintro rfl
        exact ⟨b, rfl, hb⟩
    · obtain ⟨as, r1⟩ := RdD.reads I (RdD.ints hb) (show RelV (.ref b) (.ref b) from rfl)
      obtain ⟨bs, r2⟩ := RdD.reads I (RdD.ints ha) rx
      have := eqAt_reads _ _ X.A.in1 s _ _ as bs r1 r2 (canLay_ints _) (canLay_ints _) ?_
      · rw [PyData.eqv, eqv_ints] at this
        exact this
      · have hd : (PyData.tuple (List.map PyData.int r)).depth ≤ 8 := by simp [PyData.depth, PySem.W.ke_depthAll]
        have h1 : X.A.in1.units ≤ X.A.units + 8 := in1_units
        omega
  refine notIn_listAt (fun w => decide (∃ b, w = .ref b ∧ SqT X.K H b (ns.map V.int))) pl.isList (fun w hw => ?_) ⟨.bl _, H, I, rfl, ?_⟩
  · obtain ⟨i, hi⟩ := List.getElem?_of_mem (show w ∈ its by simpa using hw)
    have il := (List.getElem?_eq_some_iff.mp hi).1
    have jl : i < rows.length := by rw [← hl, rv.length]; exact il
    obtain ⟨e1, e2⟩ := key i w rows[i] hi (List.getElem?_eq_getElem jl)
    rw [e1]
    exact e2
  · rw [show its.toArray.any (fun w => decide (∃ b, w = .ref b ∧ SqT X.K H b (ns.map V.int))) = its.any (fun w => decide (∃ b, w = .ref b ∧ SqT X.K H b (ns.map V.int))) by simp, any_rows rv hl fun i u r h1 h2 => (key i u r h1 h2).1]
    exact q
def tDNew : TE := fun _ H Q => ∀ p, H p = none → Q (.ref p) (upd H p (.dK []))
theorem pe_dnew {pos : Pos} : PE X (.Dict [] [] pos) tDNew := fun pins s σ H Q I h => by
  have hb : sysModules < s.heap.objs.size := Nat.lt_trans (by decide) (show mainGlobals < s.heap.objs.size from (I.mod.glob.keeps I.bk).lt)
  exact wpAny_Dict_empty ⟨.ref s.heap.objs.size, _, I.laid (a := s.heap.objs.size) (o := .dK []) (t' := s.toks) (fun _ _ q => Heap.get?_push_of_some _ q) (Nat.le_refl _) ⟨Nat.zero_le _, beq_eq_false_iff_ne.mpr (Ne.symm (Nat.ne_of_lt hb)), [], .nil, Heap.DictOf.new s.heap⟩, rfl, h _ (I.hok.fresh (Nat.le_refl _))⟩
theorem z_dnew {σ : St} {H : Hp} {Q : VK} : tDNew σ H Q = ∀ p, H p = none → Q (.ref p) (upd H p (.dK [])) := rfl
end
end L2
namespace L2
open PySem PySem.Spec PyProof.Rows
def tCV (i : Nat) (a : Addr) (sp : Sp) (E : XK) (t : TA) : TE := fun σ H Q => σ[i]? = some (some (.ref a)) ∧ t σ H fun vs H1 => sp vs H1 Q E
theorem z_cv {i : Nat} {a : Addr} {sp : Sp} {E : XK} {t : TA} {σ : St} {H : Hp} {Q : VK} : tCV i a sp E t σ H Q = (σ[i]? = some (some (.ref a)) ∧ t σ H fun vs H1 => sp vs H1 Q E) := rfl
end L2
namespace L2.S
open PySem L2
@[irreducible] def PE (X : Cx) (e : Expr) (t : TE) : Prop := L2.PE X e t
@[irreducible] def PT (X : Cx) (e : Expr) (t : TT) : Prop := L2.PT X e t
@[irreducible] def PW (X : Cx) (e : Expr) (t : TT) : Prop := L2.PW X e t
@[irreducible] def PA (X : Cx) (es : List Expr) (t : TA) : Prop := L2.PA X es t
@[irreducible] def PS (X : Cx) (st : Stmt) (t : TS) : Prop := L2.PS X st t
@[irreducible] def PSs (X : Cx) (st : List Stmt) (t : TS) : Prop := L2.PSs X st t
@[irreducible] def PG (X : Cx) (target : Expr) (t : TG) : Prop := L2.PG X target t
@[irreducible] def PGs (X : Cx) (ts : List Expr) (t : TGs) : Prop := L2.PGs X ts t
@[irreducible] def PI (X : Cx) (tg iter : Expr) (wi : TI) : Prop := L2.PI X tg iter wi
@[irreducible] def PO (X : Cx) (e : Option Expr) (t : TO) : Prop := L2.PO X e t
@[irreducible] def PTs (X : Cx) (ifs : List Expr) (t : TT) : Prop := L2.PTs X ifs t
theorem out {X : Cx} {b : List Stmt} {t : TS} (h : PSs X b t) : L2.PSs X b t := by unfold PSs at h; exact h
theorem pv : ∀ {X : Cx} (i : Nat) {x : Str} {pos : Pos}, autoParam ((Cx.N X)[i]? = Option.some x) L2.pv._auto_1 → autoParam (Vis (Env.scope (Cx.env X)) x) L2.pv._auto_2 → autoParam ((x == ("__debug__" : Str)) = Bool.false) L2.pv._auto_3 → autoParam ((x == ("__classdict__" : Str)) = Bool.false) L2.pv._auto_4 → S.PE X (Expr.Name x pos) (tVar i) := by with_unfolding_all exact @L2.pv
theorem pe_bltn : ∀ {X : Cx} {x : Str} {v : V} {u : Value} {pos : Pos}, Gl X x → Cx.mg X x = Option.none → bootBuiltins x = Option.some u → RelV v u → autoParam (x ≠ ("__name__" : Str)) L2.pe_bltn._auto_1 → autoParam ((x == ("__debug__" : Str)) = Bool.false) L2.pe_bltn._auto_2 → S.PE X (Expr.Name x pos) (tC v) := by with_unfolding_all exact @L2.pe_bltn
theorem pe_int : ∀ {X : Cx} {i : Int} {j : Nat} {pos : Pos}, S.PE X (Expr.Constant (Const.int i) j pos) (tC (V.int i)) := by with_unfolding_all exact @L2.pe_int
theorem pe_bl : ∀ {X : Cx} {b : Bool} {j : Nat} {pos : Pos}, S.PE X (Expr.Constant (Const.bool b) j pos) (tC (V.bl b)) := by with_unfolding_all exact @L2.pe_bl
theorem pe_non : ∀ {X : Cx} {j : Nat} {pos : Pos}, S.PE X (Expr.Constant Const.none j pos) (tC V.non) := by with_unfolding_all exact @L2.pe_non
theorem pe_str : ∀ {X : Cx} {x : Str} {j : Nat} {pos : Pos}, S.PE X (Expr.Constant (Const.str x) j pos) (tC (V.str x)) := by with_unfolding_all exact @L2.pe_str
theorem pe_op : ∀ {X : Cx} {a b : Expr} {ta tb : TE} {pos : Pos} {op : Operator} {r : R2}, OpR X (binaryOp op) r → S.PE X a ta → S.PE X b tb → S.PE X (Expr.BinOp a op b pos) (tOp r ta tb) := by with_unfolding_all exact @L2.pe_op
theorem pe_not : ∀ {X : Cx} {a : Expr} {ta : TE} {pos : Pos}, S.PE X a ta → S.PE X (Expr.UnaryOp UnaryOp.Not a pos) (tNotV ta) := by with_unfolding_all exact @L2.pe_not
theorem pe_un : ∀ {X : Cx} {a : Expr} {ta : TE} {pos : Pos} {op : UnaryOp} {r : V → Hp → VK → Prop}, UnR X (unaryOp op) r → S.PE X a ta → S.PE X (Expr.UnaryOp op a pos) (tUn r ta) := by with_unfolding_all exact @L2.pe_un
theorem pe_cmpR : ∀ {X : Cx} {a b : Expr} {ta tb : TE} {pos : Pos} {op : CmpOp} {r : R2}, OpR X (compareOp op) r → S.PE X a ta → S.PE X b tb → behindInMarks op b = Bool.false → S.PE X (Expr.Compare a [op] [b] pos) (tOp r ta tb) := by with_unfolding_all exact @L2.pe_cmpR
theorem pe_and : ∀ {X : Cx} {a b : Expr} {ta tb : TE} {pos : Pos} {rest : List Expr}, S.PE X a ta → S.PE X (Expr.BoolOp BoolOp.And (b :: rest) pos) tb → S.PE X (Expr.BoolOp BoolOp.And (a :: b :: rest) pos) (tAndV ta tb) := by with_unfolding_all exact @L2.pe_and
theorem pe_or : ∀ {X : Cx} {a b : Expr} {ta tb : TE} {pos : Pos} {rest : List Expr}, S.PE X a ta → S.PE X (Expr.BoolOp BoolOp.Or (b :: rest) pos) tb → S.PE X (Expr.BoolOp BoolOp.Or (a :: b :: rest) pos) (tOrV ta tb) := by with_unfolding_all exact @L2.pe_or
theorem pe_one : ∀ {X : Cx} {a : Expr} {pos : Pos} {op : BoolOp} {t : TE}, S.PE X a t → S.PE X (Expr.BoolOp op [a] pos) t := by with_unfolding_all exact @L2.pe_one
theorem pe_tup : ∀ {X : Cx} {es : List Expr} {t : TA} {pos : Pos} {x1 : Nat}, S.PA X es t → S.PE X (Expr.Tuple es x1 pos) (tTup t) := by with_unfolding_all exact @L2.pe_tup
theorem pe_lst : ∀ {X : Cx} {es : List Expr} {t : TA} {pos : Pos}, S.PA X es t → S.PE X (Expr.List es pos) (tLst t) := by with_unfolding_all exact @L2.pe_lst
theorem pe_rev : ∀ {X : Cx} {e st : Expr} {te tst : TE} {pos p2 : Pos}, S.PE X e te → S.PE X st tst → S.PE X (Expr.Subscript e (Expr.Slice Option.none Option.none (Option.some st) p2) pos) (tRev (Cx.K X) te tst) := by with_unfolding_all exact @L2.pe_rev
theorem pe_revL : ∀ {X : Cx} {e st : Expr} {te tst : TE} {pos p2 : Pos}, S.PE X e te → S.PE X st tst → S.PE X (Expr.Subscript e (Expr.Slice Option.none Option.none (Option.some st) p2) pos) (tRevL (Cx.K X) te tst) := by with_unfolding_all exact @L2.pe_revL
theorem pe_slice : ∀ {X : Cx} {e : Expr} {te : TE} {lo hi : Option Expr} {tl th : TO} {pos p2 : Pos} {r : V → Option Int → Option Int → Hp → VK → Prop}, SlR X r → S.PE X e te → S.PO X lo tl → S.PO X hi th → S.PE X (Expr.Subscript e (Expr.Slice lo hi Option.none p2) pos) (tSl r te tl th) := by with_unfolding_all exact @L2.pe_slice
theorem po_none : ∀ {X : Cx}, S.PO X Option.none tNoPart := by with_unfolding_all exact @L2.po_none
theorem po_some : ∀ {X : Cx} {e : Expr} {te : TE}, S.PE X e te → S.PO X (Option.some e) (tPart te) := by with_unfolding_all exact @L2.po_some
theorem pe_ix : ∀ {X : Cx} {a b : Expr} {ta tb : TE} {pos : Pos} {r : R2}, IxR X r → S.PE X a ta → S.PE X b tb → PlainIx b → S.PE X (Expr.Subscript a b pos) (tOp r ta tb) := by with_unfolding_all exact @L2.pe_ix
theorem pe_dnew : ∀ {X : Cx} {pos : Pos}, S.PE X (Expr.Dict [] [] pos) tDNew := by with_unfolding_all exact @L2.pe_dnew
theorem pe_comp : ∀ {X : Cx} {elt tg iter : Expr} {ifs : List Expr} {scope : Scope} {pos : Pos} {wi : TI} {g : TG} {tt : TT} {te : TE} {ts : List Str} {fs : List (Nat × Str)}, Cx.calm X = Bool.true → CpScope X ts fs scope → S.PI X tg iter wi → (∀ (ex : List Addr) (s : Shared) (H : Hp), S.PG (cxC X (cpN ts fs) scope ex s H) tg g) → (∀ (ex : List Addr) (s : Shared) (H : Hp), S.PTs (cxC X (cpN ts fs) scope ex s H) ifs tt) → (∀ (ex : List Addr) (s : Shared) (H : Hp), S.PE (cxC X (cpN ts fs) scope ex s H) elt te) → autoParam (∀ (x : Value), foldedSetIterable iter (Cx.env X) x = Pure.pure x) L2.pe_comp._auto_1 → S.PE X (Expr.ListComp elt [{ target := tg, iter := iter, ifs := ifs, is_async := (0 : Int) }] scope pos) (tComp (List.length ts) fs wi g tt te) := by with_unfolding_all exact @L2.pe_comp
theorem pe_cB : ∀ {X : Cx} {e : Expr} {es : List Expr} {t : TA} {x : Str} {p pos : Pos} {id : String} {r : List V → Hp → VK → Prop}, CallR X (Value.builtin id) r → Gl X x → Cx.mg X x = Option.none → bootBuiltins x = Option.some (Value.builtin id) → S.PA X (e :: es) t → autoParam (plainE e = Bool.true) L2.pe_cB._auto_1 → autoParam (List.all es plainE = Bool.true) L2.pe_cB._auto_2 → autoParam (x ≠ ("__name__" : Str)) L2.pe_cB._auto_3 → autoParam ((x == ("__debug__" : Str)) = Bool.false) L2.pe_cB._auto_4 → S.PE X (Expr.Call (Expr.Name x p) (e :: es) [] pos) (tCB r t) := by with_unfolding_all exact @L2.pe_cB
theorem pe_cTy : ∀ {X : Cx} {e : Expr} {es : List Expr} {t : TA} {x : Str} {p pos : Pos} {T : String} {r : List V → Hp → VK → Prop}, CallR X (Value.type T) r → Gl X x → Cx.mg X x = Option.none → bootBuiltins x = Option.some (Value.type T) → S.PA X (e :: es) t → autoParam (plainE e = Bool.true) L2.pe_cTy._auto_1 → autoParam (List.all es plainE = Bool.true) L2.pe_cTy._auto_2 → autoParam (x ≠ ("__name__" : Str)) L2.pe_cTy._auto_3 → autoParam ((x == ("__debug__" : Str)) = Bool.false) L2.pe_cTy._auto_4 → S.PE X (Expr.Call (Expr.Name x p) (e :: es) [] pos) (tCB r t) := by with_unfolding_all exact @L2.pe_cTy
theorem pe_cD : ∀ {X : Cx} {e : Expr} {es : List Expr} {t : TA} {x : Str} {p pos : Pos} {k : Nat} {ps : List Str} {sp : Sp}, Cal (Cx.prog X) (Cx.w X) (Cx.K X) (Cx.mg X) (Cx.base X) k x ps sp → Room k (Cx.A X) → S.PA X (e :: es) t → autoParam (plainE e = Bool.true) L2.pe_cD._auto_1 → autoParam (List.all es plainE = Bool.true) L2.pe_cD._auto_2 → autoParam (Gl X x) L2.pe_cD._auto_3 → autoParam ((x == ("__debug__" : Str)) = Bool.false) L2.pe_cD._auto_4 → S.PE X (Expr.Call (Expr.Name x p) (e :: es) [] pos) (tCall sp [] E0 t) := by with_unfolding_all exact @L2.pe_cD
theorem pe_bm : ∀ {X : Cx} {o e : Expr} {es : List Expr} {to : TE} {t : TA} {name : Str} {apos cpos : Pos} {T id : String} {r : V → List V → Hp → VK → Prop}, PlainAttrs T → Slot T name id → typeOf (Value.builtin id) = Pure.pure (Value.type "method_descriptor") → MtR X id r → S.PE X o to → S.PA X (e :: es) t → autoParam (attributeBase o name (Cx.env X) (eval o (Cx.env X)) = eval o (Cx.env X)) L2.pe_bm._auto_1 → autoParam ((((List.all (backTo cpos (starEach (e :: es) (Cx.env X))) fun (x : Bool × Sem Value) ↦ !Prod.fst x) && List.all (backToKw cpos (keywordEach [] (Cx.env X))) fun (x : Option Str × Sem Value) ↦ Option.isSome (Prod.fst x)) && Decidable.decide ((List.length (e :: es) + List.length ([] : List Keyword) + if List.isEmpty ([] : List Keyword) = Bool.true then (0 : Nat) else (1 : Nat)) < (30 : Nat))) = Bool.true) L2.pe_bm._auto_2 → autoParam ((Pos.endLine apos == Pos.line cpos) = Bool.true) L2.pe_bm._auto_3 → autoParam (starEach (e :: es) (Cx.env X) = (Bool.false, eval e (Cx.env X)) :: starEach es (Cx.env X)) L2.pe_bm._auto_4 → autoParam ((List.any (backTo cpos (starEach es (Cx.env X))) fun (x : Bool × Sem Value) ↦ Prod.fst x) = Bool.false) L2.pe_bm._auto_5 → S.PE X (Expr.Call (Expr.Attribute o name apos) (e :: es) [] cpos) (tBM (Cx.K X) T r to t) := by with_unfolding_all exact @L2.pe_bm
theorem pi_zip : ∀ {X : Cx} {a b : Expr} {ta : TA} {el : List Expr} {x1 : Nat} {tp p pos : Pos}, Gl X (("zip" : Str)) → Cx.mg X (("zip" : Str)) = Option.none → S.PA X [a, b] ta → autoParam (starEach [a, b] (Cx.env X) = [(Bool.false, eval a (Cx.env X)), (Bool.false, eval b (Cx.env X))]) L2.pi_zip._auto_1 → autoParam (starEach [b] (Cx.env X) = [(Bool.false, eval b (Cx.env X))]) L2.pi_zip._auto_2 → S.PI X (Expr.Tuple el x1 tp) (Expr.Call (Expr.Name (("zip" : Str)) p) [a, b] [] pos) (iZip (Cx.K X) ta) := by with_unfolding_all exact @L2.pi_zip
theorem pi_rv : ∀ {X : Cx} {a : Expr} {ta : TA} {tg : Expr} {p pos : Pos}, Gl X (("reversed" : Str)) → Cx.mg X (("reversed" : Str)) = Option.none → S.PA X [a] ta → autoParam (starEach [a] (Cx.env X) = [(Bool.false, eval a (Cx.env X))]) L2.pi_rv._auto_1 → S.PI X tg (Expr.Call (Expr.Name (("reversed" : Str)) p) [a] [] pos) (iRv (Cx.K X) ta) := by with_unfolding_all exact @L2.pi_rv
theorem pi_down : ∀ {X : Cx} {tg a b c : Expr} {ta : TA} {p pos : Pos}, Gl X (("range" : Str)) → Cx.mg X (("range" : Str)) = Option.none → S.PA X [a, b, c] ta → autoParam (plainE a = Bool.true) L2.pi_down._auto_1 → autoParam (List.all [b, c] plainE = Bool.true) L2.pi_down._auto_2 → S.PI X tg (Expr.Call (Expr.Name (("range" : Str)) p) [a, b, c] [] pos) (iDown ta) := by with_unfolding_all exact @L2.pi_down
theorem pi_range1 : ∀ {X : Cx} {tg a : Expr} {ta : TA} {p pos : Pos}, Gl X (("range" : Str)) → Cx.mg X (("range" : Str)) = Option.none → S.PA X [a] ta → autoParam (starEach [a] (Cx.env X) = [(Bool.false, eval a (Cx.env X))]) L2.pi_range1._auto_1 → S.PI X tg (Expr.Call (Expr.Name (("range" : Str)) p) [a] [] pos) (iRng1 ta) := by with_unfolding_all exact @L2.pi_range1
theorem pi_range2 : ∀ {X : Cx} {tg a b : Expr} {ta : TA} {p pos : Pos}, Gl X (("range" : Str)) → Cx.mg X (("range" : Str)) = Option.none → S.PA X [a, b] ta → autoParam (starEach [a, b] (Cx.env X) = [(Bool.false, eval a (Cx.env X)), (Bool.false, eval b (Cx.env X))]) L2.pi_range2._auto_1 → autoParam (starEach [b] (Cx.env X) = [(Bool.false, eval b (Cx.env X))]) L2.pi_range2._auto_2 → S.PI X tg (Expr.Call (Expr.Name (("range" : Str)) p) [a, b] [] pos) (iRng2 ta) := by with_unfolding_all exact @L2.pi_range2
theorem pi_list : ∀ {X : Cx} {tg l : Expr} {tl : TE}, S.PE X l tl → S.PI X tg l (iList (Cx.K X) tl) := by with_unfolding_all exact @L2.pi_list
theorem pi_tup : ∀ {X : Cx} {tg l : Expr} {tl : TE}, S.PE X l tl → S.PI X tg l (iTup (Cx.K X) tl) := by with_unfolding_all exact @L2.pi_tup
theorem pi_any : ∀ {X : Cx} {tg l : Expr} {tl : TE}, S.PE X l tl → S.PI X tg l (iAny (Cx.K X) tl) := by with_unfolding_all exact @L2.pi_any
theorem pts_nil : ∀ {X : Cx}, S.PTs X [] tNoIf := by with_unfolding_all exact @L2.pts_nil
theorem pts_one : ∀ {X : Cx} {c : Expr} {t : TT}, S.PT X c t → S.PTs X [c] t := by with_unfolding_all exact @L2.pts_one
theorem pt_cmpR : ∀ {X : Cx} {a b : Expr} {ta tb : TE} {pos : Pos} {op : CmpOp} {r : R2}, OpR X (compareOp op) r → S.PE X a ta → S.PE X b tb → behindInMarks op b = Bool.false → S.PT X (Expr.Compare a [op] [b] pos) (tTest (tOp r ta tb)) := by with_unfolding_all exact @L2.pt_cmpR
theorem pt_not : ∀ {X : Cx} {a : Expr} {pos : Pos} {tA : TT}, S.PT X a tA → S.PT X (Expr.UnaryOp UnaryOp.Not a pos) (tNot tA) := by with_unfolding_all exact @L2.pt_not
theorem pw_and : ∀ {X : Cx} {a b : Expr} {pos : Pos} {tA tB' : TT} {rest : List Expr}, S.PT X a tA → S.PW X (Expr.BoolOp BoolOp.And (b :: rest) pos) tB' → S.PW X (Expr.BoolOp BoolOp.And (a :: b :: rest) pos) (tAnd tA tB') := by with_unfolding_all exact @L2.pw_and
theorem pw_or : ∀ {X : Cx} {a b : Expr} {pos : Pos} {tA tB' : TT} {rest : List Expr}, S.PT X a tA → S.PW X (Expr.BoolOp BoolOp.Or (b :: rest) pos) tB' → S.PW X (Expr.BoolOp BoolOp.Or (a :: b :: rest) pos) (tOr tA tB') := by with_unfolding_all exact @L2.pw_or
theorem pw_and1 : ∀ {X : Cx} {a : Expr} {pos : Pos} {tA : TT}, S.PT X a tA → S.PW X (Expr.BoolOp BoolOp.And [a] pos) tA := by with_unfolding_all exact @L2.pw_and1
theorem pw_or1 : ∀ {X : Cx} {a : Expr} {pos : Pos} {tA : TT}, S.PT X a tA → S.PW X (Expr.BoolOp BoolOp.Or [a] pos) tA := by with_unfolding_all exact @L2.pw_or1
theorem PW_pt : ∀ {X : Cx} {e : Expr} {t : TT}, S.PW X e t → S.PT X e t := by with_unfolding_all exact @L2.PW.pt
theorem pt_val : ∀ {X : Cx} {e : Expr} {t : TE}, S.PE X e t → autoParam (∀ (whole : Sem Value), isTrue e (Cx.env X) whole = do let v ← whole; standAt (Expr.pos e); holding [v] (truthy v)) L2.pt_val._auto_1 → S.PT X e (tB t) := by with_unfolding_all exact @L2.pt_val
theorem pa_nil : ∀ {X : Cx}, S.PA X [] tNil := by with_unfolding_all exact @L2.pa_nil
theorem pa_cns : ∀ {X : Cx} {e : Expr} {es : List Expr} {te : TE} {t : TA}, S.PE X e te → S.PA X es t → autoParam (plainE e = Bool.true) L2.pa_cns._auto_1 → S.PA X (e :: es) (tCons te t) := by with_unfolding_all exact @L2.pa_cns
theorem pss_nil : ∀ {X : Cx}, S.PSs X [] tNext := by with_unfolding_all exact @L2.pss_nil
theorem pss_one : ∀ {X : Cx} {st : Stmt} {t : TS}, S.PS X st t → S.PSs X [st] t := by with_unfolding_all exact @L2.pss_one
theorem pss_cons : ∀ {X : Cx} {st : Stmt} {rest : List Stmt} {t u : TS}, S.PS X st t → S.PSs X rest u → S.PSs X (st :: rest) (tSeq t u) := by with_unfolding_all exact @L2.pss_cons
theorem pg_name : ∀ {X : Cx} {pos : Pos} {i : Nat} {x : Str}, List.Nodup (Cx.N X) → (Cx.N X)[i]? = Option.some x → Loc (Env.scope (Cx.env X)) x → ∀ (hf : autoParam (Cx.fn X x = Bool.true ∨ List.lookup x (Scope.names (Env.scope (Cx.env X))) = Option.some NameKind.local) L2.pg_name._auto_1), S.PG X (Expr.Name x pos) (gName i) := by with_unfolding_all exact @L2.pg_name
theorem pgs_nil : ∀ {X : Cx}, S.PGs X [] gNil := by with_unfolding_all exact @L2.pgs_nil
theorem pgs_cons : ∀ {X : Cx} {e : Expr} {es : List Expr} {t : TG} {u : TGs}, S.PG X e t → S.PGs X es u → autoParam (List.map (fun (x : Bool × (Value → Sem Unit)) ↦ Prod.snd x) (assignEach (e :: es) (Cx.env X)) = assign e (Cx.env X) :: List.map (fun (x : Bool × (Value → Sem Unit)) ↦ Prod.snd x) (assignEach es (Cx.env X))) L2.pgs_cons._auto_1 → S.PGs X (e :: es) (gCons t u) := by with_unfolding_all exact @L2.pgs_cons
theorem pg_tup : ∀ {X : Cx} {pos : Pos} {es : List Expr} {k : Nat} {t : TGs} {n : Nat}, Cx.calm X = Bool.true → S.PGs X es t → autoParam (List.length (assignEach es (Cx.env X)) = n) L2.pg_tup._auto_1 → autoParam (List.findIdx? (fun (x : Bool × (Value → Sem Unit)) ↦ Prod.fst x) (assignEach es (Cx.env X)) = Option.none) L2.pg_tup._auto_2 → S.PG X (Expr.Tuple es k pos) (gTup (Cx.K X) n t) := by with_unfolding_all exact @L2.pg_tup
theorem pg_sub : ∀ {X : Cx} {pos : Pos} {o i : Expr} {to ti : TE} {t : TSet}, S.PE X o to → S.PE X i ti → PSet X t → autoParam (∀ (v : Value), assign (Expr.Subscript o i pos) (Cx.env X) v = do let ov ← holding [v] (eval o (Cx.env X)); let iv ← holding [v, ov] (eval i (Cx.env X)); standAt pos; holding [v, ov, iv] (setItem ov iv v); release [v, ov, iv] []) L2.pg_sub._auto_1 → S.PG X (Expr.Subscript o i pos) (gSub to ti t) := by with_unfolding_all exact @L2.pg_sub
theorem ps_comp : ∀ {X : Cx} {elt tg iter : Expr} {ifs : List Expr} {scope : Scope} {pos : Pos} {wi : TI} {g : TG} {tt : TT} {te : TE} {ts : List Str} {fs : List (Nat × Str)} {g' : TG} {y : Str} {py spos : Pos}, Cx.calm X = Bool.true → CpScope X ts fs scope → S.PI X tg iter wi → (∀ (ex : List Addr) (s : Shared) (H : Hp), S.PG (cxC X (cpN ts fs) scope ex s H) tg g) → (∀ (ex : List Addr) (s : Shared) (H : Hp), S.PTs (cxC X (cpN ts fs) scope ex s H) ifs tt) → (∀ (ex : List Addr) (s : Shared) (H : Hp), S.PE (cxC X (cpN ts fs) scope ex s H) elt te) → S.PG X (Expr.Name y py) g' → autoParam (swapsWith (Expr.ListComp elt [{ target := tg, iter := iter, ifs := ifs, is_async := (0 : Int) }] scope pos) (Option.some (Expr.Name y py)) (Pos.line spos) (Cx.env X) = Pure.pure Bool.true) L2.ps_comp._auto_1 → autoParam (∀ (x : Value), foldedSetIterable iter (Cx.env X) x = Pure.pure x) L2.ps_comp._auto_2 → S.PS X (Stmt.Assign [Expr.Name y py] (Expr.ListComp elt [{ target := tg, iter := iter, ifs := ifs, is_async := (0 : Int) }] scope pos) spos) (tAsg (tComp (List.length ts) fs wi g tt te) g') := by with_unfolding_all exact @L2.ps_comp
theorem ps_set : ∀ {X : Cx} {pos : Pos} {i : Nat} {x : Str} {e : Expr} {te : TE} {pos' : Pos}, List.Nodup (Cx.N X) → (Cx.N X)[i]? = Option.some x → Loc (Env.scope (Cx.env X)) x → S.PE X e te → autoParam (swapsWith e (Option.some (Expr.Name x pos')) (Pos.line pos) (Cx.env X) = Pure.pure Bool.false) L2.ps_set._auto_1 → autoParam (Cx.fn X x = Bool.true ∨ List.lookup x (Scope.names (Env.scope (Cx.env X))) = Option.some NameKind.local) L2.ps_set._auto_2 → S.PS X (Stmt.Assign [Expr.Name x pos'] e pos) (tAsg te (gName i)) := by with_unfolding_all exact @L2.ps_set
theorem ps_par : ∀ {X : Cx} {pos : Pos} {i j : Nat} {x y : Str} {a b : Expr} {ta : TA} {px py pt : Pos} {kt k2 : Nat} {pt2 : Pos}, Cx.calm X = Bool.true → List.Nodup (Cx.N X) → (Cx.N X)[i]? = Option.some x → (Cx.N X)[j]? = Option.some y → i ≠ j → List.lookup x (Scope.names (Env.scope (Cx.env X))) = Option.some NameKind.local → List.lookup y (Scope.names (Env.scope (Cx.env X))) = Option.some NameKind.local → S.PA X [a, b] ta → swappedStores [Expr.Tuple [Expr.Name x px, Expr.Name y py] kt pt] (Expr.Tuple [a, b] k2 pt2) (Cx.env X) = Pure.pure (Option.some [x, y]) → autoParam (swapsWithSole [Expr.Tuple [Expr.Name x px, Expr.Name y py] kt pt] (Expr.Tuple [a, b] k2 pt2) (Pos.line pos) (Cx.env X) = Pure.pure Bool.false) L2.ps_par._auto_1 → S.PS X (Stmt.Assign [Expr.Tuple [Expr.Name x px, Expr.Name y py] kt pt] (Expr.Tuple [a, b] k2 pt2) pos) (tPar i j ta) := by with_unfolding_all exact @L2.ps_par
theorem ps_asg : ∀ {X : Cx} {pos : Pos} {tg e : Expr} {te : TE} {g : TG}, S.PE X e te → S.PG X tg g → autoParam (swapsWithSole [tg] e (Pos.line pos) (Cx.env X) = Pure.pure Bool.false) L2.ps_asg._auto_1 → autoParam (swappedStores [tg] e (Cx.env X) = Pure.pure Option.none) L2.ps_asg._auto_2 → autoParam (List.map (fun (x : Bool × (Value → Sem Unit)) ↦ Prod.snd x) (assignEach [tg] (Cx.env X)) = [assign tg (Cx.env X)]) L2.ps_asg._auto_3 → S.PS X (Stmt.Assign [tg] e pos) (tAsg te g) := by with_unfolding_all exact @L2.ps_asg
theorem ps_ret : ∀ {X : Cx} {e : Expr} {te : TE} {pos : Pos}, S.PE X e te → S.PS X (Stmt.Return (Option.some e) pos) (tRet te) := by with_unfolding_all exact @L2.ps_ret
theorem ps_if : ∀ {X : Cx} {t u : TS} {pos : Pos} {c : Expr} {a b : List Stmt} {tc : TT}, S.PT X c tc → S.PSs X a t → S.PSs X b u → S.PS X (Stmt.If c a b pos) (tIfS tc t u) := by with_unfolding_all exact @L2.ps_if
theorem ps_while : ∀ {X : Cx} {pos : Pos} {c : Expr} {body : List Stmt} {tc : TT} {tb : TS}, PassesOwn (model (Cx.prog X) (Cx.w X)) (Cx.A X) (Cx.env X) (Cx.xe X) → S.PT X c tc → S.PSs X body tb → S.PS X (Stmt.While c body [] pos) (tWhile tc tb) := by with_unfolding_all exact @L2.ps_while
theorem ps_for : ∀ {X : Cx} {tg iter : Expr} {body : List Stmt} {wi : TI} {g : TG} {tb : TS} {pos : Pos}, PassesOwn (model (Cx.prog X) (Cx.w X)) (Cx.A X) (Cx.env X) (Cx.xe X) → Cx.calm X = Bool.true → S.PI X tg iter wi → S.PG X tg g → S.PSs X body tb → autoParam (∀ (x : Value), foldedSetIterable iter (Cx.env X) x = Pure.pure x) L2.ps_for._auto_1 → S.PS X (Stmt.For tg iter body [] pos) (tFor wi g tb) := by with_unfolding_all exact @L2.ps_for
theorem ps_expr : ∀ {X : Cx} {e : Expr} {te : TE} {pos : Pos}, S.PE X e te → autoParam (swapsWith e Option.none (Pos.line pos) (Cx.env X) = Pure.pure Bool.false) L2.ps_expr._auto_1 → S.PS X (Stmt.Expr e pos) (tDrop te) := by with_unfolding_all exact @L2.ps_expr
theorem ex_out {X : Cx} {b : List Stmt} {φ : TS → Prop} (h : ∃ t, PSs X b t ∧ φ t) : ∃ t, L2.PSs X b t ∧ φ t := by
  obtain ⟨t, h1, h2⟩ := h
  exact ⟨t, out h1, h2⟩
end L2.S
namespace Z
theorem abs_eq (i : Int) : (if i < 0 then -i else i) = ((i.natAbs : Nat) : Int) := by
  split <;> omega
theorem gcd_step (x y : Nat) : Nat.gcd y (x % y) = Nat.gcd x y := by
  rw [Nat.gcd_comm y (x % y), ← Nat.gcd_rec, Nat.gcd_comm]
def sg (q : Rat) : Int := if q = 0 then 0 else if 0 < q then 1 else -1
end Z
namespace Z
def co (p : List Int) (i : Nat) : Int := p.getD i 0
theorem co_nil (i : Nat) : co [] i = 0 := by simp [co]
theorem co_zero (a : Int) (r : List Int) : co (a :: r) 0 = a := by simp [co]
theorem co_succ (a : Int) (r : List Int) (i : Nat) : co (a :: r) (i + 1) = co r i := by simp [co]
theorem co_big {p : List Int} {i : Nat} (h : p.length ≤ i) : co p i = 0 := by simp [co, List.getD_eq_getElem?_getD, List.getElem?_eq_none h]
theorem co_get {p : List Int} {i : Nat} (h : i < p.length) : co p i = p[i] := by simp [co, List.getD_eq_getElem?_getD, List.getElem?_eq_getElem h]
def Tr (p : List Int) : Prop := p = [] ∨ ∃ h : p ≠ [], p.getLast h ≠ 0
theorem Tr.lead {p : List Int} (h : Tr p) (n : p ≠ []) : co p (p.length - 1) ≠ 0 := by
  rcases h with h | ⟨h, z⟩
  · exact absurd h n
  · have hl : 0 < p.length := List.length_pos_iff.mpr h
    rw [co_get (by omega)]
    rw [List.getLast_eq_getElem] at z
    exact z
theorem Tr.of {p : List Int} (h : p = [] ∨ co p (p.length - 1) ≠ 0) : Tr p := by
  by_cases n : p = []
  · exact .inl n
  · rcases h with h | h
    · exact .inl h
    · refine .inr ⟨n, ?_⟩
      have hl : 0 < p.length := List.length_pos_iff.mpr n
      rw [co_get (by omega)] at h
      rw [List.getLast_eq_getElem]
      exact h
theorem Tr.len {p q : List Int} (hp : Tr p) (e : ∀ i, co p i = co q i) : p.length ≤ q.length := by
  by_cases n : p = []
  · subst n; simp
  · by_cases h : p.length ≤ q.length
    · exact h
    · exfalso
      have z := hp.lead n
      rw [e, co_big (by omega)] at z
      exact z rfl
theorem Tr.ext {p q : List Int} (hp : Tr p) (hq : Tr q) (e : ∀ i, co p i = co q i) : p = q := by
  have l := Nat.le_antisymm (hp.len e) (hq.len fun i => (e i).symm)
  refine List.ext_getElem l fun i h1 h2 => ?_
  rw [← co_get h1, ← co_get h2, e]
def trim : List Int → List Int
  | [] => []
  | a :: r => match trim r with
    | [] => if a = 0 then [] else [a]
    | b :: t => a :: b :: t
theorem trim_cons (a : Int) (r : List Int) : trim (a :: r) = if trim r = [] ∧ a = 0 then [] else a :: trim r := by
  rw [trim]
  split
  · rename_i h
    rw [h]
    by_cases ha : a = 0 <;> simp [ha]
  · rename_i b t h
    rw [h]
    simp
theorem co_trim : ∀ (p : List Int) (i : Nat), co (trim p) i = co p i
  | [], i => rfl
  | a :: r, i => by
    rw [trim_cons]
    split
    · rename_i h
      rw [co_nil]
      cases i with
      | zero => rw [co_zero, h.2]
      | succ i => rw [co_succ, ← co_trim r i, h.1, co_nil]
    · cases i with
      | zero => rw [co_zero, co_zero]
      | succ i => rw [co_succ, co_succ, co_trim r i]
theorem trim_tr : ∀ p : List Int, Tr (trim p)
  | [] => .inl rfl
  | a :: r => by
    rw [trim_cons]
    split
    · exact .inl rfl
    · rename_i h
      refine .inr ⟨by simp, ?_⟩
      by_cases hr : trim r = []
      · simp only [hr, List.getLast_singleton]
        exact fun z => h ⟨hr, z⟩
      · rw [List.getLast_cons hr]
        rcases trim_tr r with z | ⟨_, z⟩
        · exact absurd z hr
        · exact z
theorem trim_of {p q : List Int} (hq : Tr q) (e : ∀ i, co q i = co p i) : trim p = q := (trim_tr p).ext hq fun i => by rw [co_trim, e]
theorem co_take (p : List Int) (n i : Nat) : co (p.take n) i = if i < n then co p i else 0 := by
  unfold co
  rw [List.getD_eq_getElem?_getD, List.getD_eq_getElem?_getD, List.getElem?_take]
  split <;> rfl
theorem trim_take {p : List Int} {n : Nat} (h1 : ∀ i, n ≤ i → co p i = 0) (h2 : n = 0 ∨ co p (n - 1) ≠ 0) : trim p = p.take n := by
  refine trim_of ?_ fun i => ?_
  · rcases h2 with h | h
    · subst h; exact .inl (by simp)
    · have hn : n ≤ p.length := by
        by_cases z : n ≤ p.length
        · exact z
        · exact absurd (co_big (by omega)) h
      refine .of ?_
      by_cases n0 : n = 0
      · left; subst n0; simp
      · right
        rw [List.length_take, Nat.min_eq_left hn, co_take, if_pos (by omega)]
        exact h
  · rw [co_take]
    split
    · rfl
    · rw [h1 i (by omega)]
def sh (f : Nat → Int) : Nat → Int
  | 0 => 0
  | i + 1 => f i
def mu : List Int → (Nat → Int) → Nat → Int
  | [], _ => fun _ => 0
  | a :: p, f => fun i => a * f i + sh (mu p f) i
def al : List Int → List Int → List Int
  | [], q => q
  | p, [] => p
  | a :: p, b :: q => (a + b) :: al p q
def ta (p q : List Int) : List Int := trim (al p q)
end Z
namespace Z
def ev : List Int → Rat → Rat
  | [], _ => 0
  | a :: r, x => (a : Rat) + x * ev r x
def hv : List Int → Int → Int → Int
  | [], _, _ => 0
  | w :: r, t, b => hv r t b * t + w * b ^ r.length
end Z
namespace Z
theorem hv_app (t b : Int) : ∀ (p : List Int) (w : Int), hv (p ++ [w]) t b = hv p t b * b + w * t ^ p.length
  | [], w => by simp [hv]
  | a :: r, w => by
    rw [List.cons_append, hv, hv, hv_app t b r w, List.length_append, List.length_singleton, List.length_cons, Int.pow_succ, Int.pow_succ]
    generalize b ^ r.length = B
    generalize t ^ r.length = T
    generalize hv r t b = R
    grind
theorem hv_rev (t b : Int) : ∀ p : List Int, hv p.reverse t b = hv p b t
  | [] => rfl
  | a :: r => by rw [List.reverse_cons, hv_app, hv_rev t b r, hv, List.length_reverse]
def sprd (f : Int) : Int → List Int → List Int
  | _, [] => []
  | s, w :: r => w * s :: sprd f (s * f) r
theorem sprd_len (f : Int) : ∀ (s : Int) (p : List Int), (sprd f s p).length = p.length
  | _, [] => rfl
  | s, w :: r => by rw [sprd, List.length_cons, sprd_len f (s * f) r, List.length_cons]
theorem sprd_snoc (f : Int) : ∀ (s : Int) (p : List Int) (w : Int), sprd f s (p ++ [w]) = sprd f s p ++ [w * (s * f ^ p.length)]
  | s, [], w => by simp [sprd]
  | s, a :: r, w => by
    rw [List.cons_append, sprd, sprd_snoc f (s * f) r w, sprd, List.cons_append, List.length_cons, Int.pow_succ]
    congr 4
    rw [Int.mul_assoc, Int.mul_comm f]
theorem hv_sprd (f t b : Int) : ∀ (s : Int) (p : List Int), hv (sprd f s p) t b = s * hv p (f * t) b
  | _, [] => by simp [sprd, hv]
  | s, w :: r => by
    rw [sprd, hv, hv, hv_sprd f t b (s * f) r, sprd_len]
    generalize b ^ r.length = B
    generalize hv r (f * t) b = R
    grind
def hs (y : Int) : List Int → List Int
  | [] => []
  | a :: r => (a + y * (hs y r).headD 0) :: hs y r
theorem hs_len (y : Int) : ∀ p : List Int, (hs y p).length = p.length
  | [] => rfl
  | a :: r => by rw [hs, List.length_cons, hs_len y r, List.length_cons]
theorem hv_hs (y t b : Int) : ∀ (a : Int) (r : List Int), hv (a :: r) t b = (a + y * (hs y r).headD 0) * b ^ r.length + (t - y * b) * hv (hs y r) t b
  | a, [] => by simp [hv, hs]
  | a, c :: r => by
    have ih := hv_hs y t b c r
    rw [hv, ih, hs, List.headD_cons, hv, hs_len, List.length_cons, Int.pow_succ]
    generalize b ^ r.length = B
    generalize hv (hs y r) t b = R
    generalize c + y * (hs y r).headD 0 = G
    grind
def mv (y : Int) : Nat → List Int → List Int
  | 0, p => p
  | _ + 1, [] => []
  | n + 1, a :: r => (a + y * (hs y r).headD 0) :: mv y n (hs y r)
theorem mv_len (y : Int) : ∀ (n : Nat) (p : List Int), (mv y n p).length = p.length
  | 0, _ => rfl
  | _ + 1, [] => rfl
  | n + 1, a :: r => by rw [mv, List.length_cons, mv_len y n, hs_len, List.length_cons]
theorem hv_mv (y x b : Int) : ∀ (n : Nat) (p : List Int), p.length ≤ n + 1 → hv (mv y n p) x b = hv p (x + y * b) b
  | 0, [], _ => rfl
  | 0, [a], _ => by simp [mv, hv]
  | 0, _ :: _ :: _, h => by simp at h
  | _ + 1, [], _ => rfl
  | n + 1, a :: r, h => by
    rw [mv, hv, hv_mv y x b n (hs y r) (by rw [hs_len]; simp at h; omega), mv_len, hs_len, hv_hs y (x + y * b) b a r]
    generalize b ^ r.length = B
    generalize hv (hs y r) (x + y * b) b = R
    generalize a + y * (hs y r).headD 0 = G
    grind
def seen (p : List Int) (t b : Int) : List Int := mv t (p.length - 1) (sprd b 1 p.reverse).reverse
theorem seen_len (p : List Int) (t b : Int) : (seen p t b).length = p.length := by rw [seen, mv_len, List.length_reverse, sprd_len, List.length_reverse]
theorem hv_seen (p : List Int) (t b X Y : Int) : hv (seen p t b) X Y = hv p (X + t * Y) (b * Y) := by
  rw [seen, hv_mv _ _ _ _ _ (by rw [List.length_reverse, sprd_len, List.length_reverse]; omega), hv_rev, hv_sprd, Int.one_mul, hv_rev]
def betw (p : List Int) (f l b : Int) : List Int := trim (mv 1 (p.length - 1) (sprd (l - f) 1 (seen p f b)).reverse).reverse
end Z
namespace Z
def adj : List Int → Nat
  | [] => 0
  | [_] => 0
  | a :: b :: r => (if a * b < 0 then 1 else 0) + adj (b :: r)
def nz (p : List Int) : List Int := p.filter (· ≠ 0)
def chg (p : List Int) : Nat := adj (nz p)
theorem adj_snoc : ∀ (p : List Int) (a b : Int), adj (p ++ [a, b]) = adj (p ++ [a]) + (if a * b < 0 then 1 else 0)
  | [], a, b => by simp [adj]
  | [c], a, b => by simp [adj]
  | c :: d :: r, a, b => by
    have ih := adj_snoc (d :: r) a b
    simp only [List.cons_append] at ih ⊢
    rw [adj, adj, ih]
    omega
theorem adj_last {p : List Int} {a b : Int} : adj (p ++ [a] ++ [b]) = adj (p ++ [a]) + (if a * b < 0 then 1 else 0) := by
  rw [List.append_assoc]
  exact adj_snoc p a b
def lnz (p : List Int) : Int := (nz p).getLastD 0
theorem nz_snoc (p : List Int) (w : Int) : nz (p ++ [w]) = if w = 0 then nz p else nz p ++ [w] := by
  by_cases h : w = 0 <;> simp [nz, h]
theorem lnz_snoc (p : List Int) (w : Int) : lnz (p ++ [w]) = if w = 0 then lnz p else w := by
  unfold lnz
  rw [nz_snoc]
  by_cases h : w = 0
  · rw [if_pos h, if_pos h]
  · rw [if_neg h, if_neg h]
    simp
theorem chg_snoc (p : List Int) (w : Int) : chg (p ++ [w]) = chg p + (if lnz p * w < 0 then 1 else 0) := by
  unfold chg
  rw [nz_snoc]
  by_cases h : w = 0
  · subst h
    rw [if_pos rfl, Int.mul_zero, if_neg (by decide)]
    rfl
  · rw [if_neg h]
    unfold lnz
    by_cases h0 : nz p = []
    · rw [h0]
      simp [adj]
    · obtain ⟨ini, d, e⟩ : ∃ (i : List Int) (x : Int), nz p = i ++ [x] := ⟨_, _, (List.dropLast_concat_getLast h0).symm⟩
      rw [e, adj_last]
      simp
def c0 (a : Int) (r : List Int) : Nat := match nz r with
  | [] => 0
  | f :: _ => if a * f < 0 then 1 else 0
theorem chg_cons (a : Int) (r : List Int) : chg (a :: r) = c0 a r + chg r := by
  unfold chg c0
  by_cases h : a = 0
  · subst h
    have e : nz (0 :: r) = nz r := by simp [nz]
    rw [e]
    cases nz r with
    | nil => simp
    | cons f t => simp
  · have e : nz (a :: r) = a :: nz r := by simp [nz, h]
    rw [e]
    cases nz r with
    | nil => simp [adj]
    | cons f t => rw [adj]
theorem c0_nil (a : Int) : c0 a [] = 0 := rfl
theorem nz_nil_iff (q : List Int) : (nz q = []) = (∀ x ∈ q, x = 0) := by
  unfold nz
  rw [List.filter_eq_nil_iff]
  simp
theorem chg_zero (p : List Int) : chg (0 :: p) = chg p := by
  unfold chg
  have e : nz (0 :: p) = nz p := by simp [nz]
  rw [e]
end Z
namespace Z
def NN (p : List Int) : Prop := ∀ w ∈ p, 0 ≤ w
def NP (p : List Int) : Prop := ∀ w ∈ p, w ≤ 0
theorem first_nz : ∀ (r : List Int), (∀ x ∈ r, x = 0) ∨ ∃ f t, nz r = f :: t ∧ f ∈ r ∧ f ≠ 0 := fun r => by
  cases h : nz r with
  | nil => exact .inl ((nz_nil_iff r).mp h)
  | cons f t =>
    have : f ∈ nz r := by rw [h]; simp
    have := List.mem_filter.mp this
    exact .inr ⟨f, t, rfl, this.1, by simpa using this.2⟩
theorem chg0 : ∀ p : List Int, chg p = 0 → NN p ∨ NP p
  | [], _ => .inl fun _ h => nomatch h
  | a :: r, h => by
    rw [chg_cons] at h
    have hr : chg r = 0 := by omega
    have hc : c0 a r = 0 := by omega
    rcases first_nz r with z | ⟨f, t, e, fm, f0⟩
    · by_cases ha : 0 ≤ a
      · refine .inl fun w hw => ?_
        rcases List.mem_cons.mp hw with rfl | hw
        · exact ha
        · rw [z w hw]; decide
      · refine .inr fun w hw => ?_
        rcases List.mem_cons.mp hw with rfl | hw
        · omega
        · rw [z w hw]; decide
    · have nf : ¬ a * f < 0 := fun z => by
        unfold c0 at hc
        rw [e] at hc
        simp only [if_pos z] at hc
        exact absurd hc (by decide)
      rcases chg0 r hr with q | q
      · refine .inl fun w hw => ?_
        rcases List.mem_cons.mp hw with rfl | hw
        · by_cases ha : 0 ≤ w
          · exact ha
          · exact (nf (Int.mul_neg_of_neg_of_pos (by omega) (by have := q f fm; omega))).elim
        · exact q w hw
      · refine .inr fun w hw => ?_
        rcases List.mem_cons.mp hw with rfl | hw
        · by_cases ha : w ≤ 0
          · exact ha
          · exact (nf (Int.mul_neg_of_pos_of_neg (by omega) (by have := q f fm; omega))).elim
        · exact q w hw
theorem pwp {b : Int} (hb : 0 < b) (k : Nat) : 0 < b ^ k := Int.pow_pos hb
theorem hv_nn {t b : Int} (ht : 0 < t) (hb : 0 < b) : ∀ p : List Int, NN p → 0 ≤ hv p t b
  | [], _ => Int.le_refl _
  | a :: r, h => by
    rw [hv]
    have h1 := Int.mul_nonneg (h a (by simp)) (Int.le_of_lt (pwp hb r.length))
    have h2 := Int.mul_nonneg (hv_nn ht hb r fun w hw => h w (by simp [hw])) (Int.le_of_lt ht)
    omega
theorem hv_pos {t b : Int} (ht : 0 < t) (hb : 0 < b) : ∀ p : List Int, NN p → (∃ w ∈ p, 0 < w) → 0 < hv p t b
  | [], _, h => by obtain ⟨_, h, _⟩ := h; exact nomatch h
  | a :: r, h, hx => by
    rw [hv]
    have h1 := Int.mul_nonneg (h a (by simp)) (Int.le_of_lt (pwp hb r.length))
    have hr : NN r := fun w hw => h w (by simp [hw])
    have h2 := Int.mul_nonneg (hv_nn ht hb r hr) (Int.le_of_lt ht)
    obtain ⟨w, wm, w0⟩ := hx
    rcases List.mem_cons.mp wm with rfl | wm
    · have := Int.mul_pos w0 (pwp hb r.length)
      omega
    · have := Int.mul_pos (hv_pos ht hb r hr ⟨w, wm, w0⟩) ht
      omega
end Z
namespace Z
def lm (u v : Int) : Int → List Int → List Int
  | a, [] => [u * a]
  | a, b :: g => (u * a - v * b) :: lm u v b g
theorem c0_cons {b : Int} (hb : b ≠ 0) (a : Int) (r : List Int) : c0 a (b :: r) = if a * b < 0 then 1 else 0 := by
  unfold c0
  have e : nz (b :: r) = b :: nz r := by simp [nz, hb]
  rw [e]
theorem c0_cons0 (a : Int) (r : List Int) : c0 a (0 :: r) = c0 a r := by
  unfold c0
  have e : nz (0 :: r) = nz r := by simp [nz]
  rw [e]
theorem neg_iff {a b : Int} (h : 0 < a * b) (f : Int) : (a * f < 0) ↔ (b * f < 0) := by
  have key : ∀ x y : Int, 0 < x * y → x * f < 0 → y * f < 0 := fun x y hxy hx => by
    rcases Int.lt_trichotomy x 0 with z | z | z
    · have y0 : y < 0 := by
        by_cases q : y < 0
        · exact q
        · have := Int.mul_nonneg (show 0 ≤ -x by omega) (show 0 ≤ y by omega)
          rw [Int.neg_mul] at this
          omega
      have f0 : 0 < f := by
        by_cases q : 0 < f
        · exact q
        · have := Int.mul_nonneg (show 0 ≤ -x by omega) (show 0 ≤ -f by omega)
          rw [Int.neg_mul_neg] at this
          omega
      exact Int.mul_neg_of_neg_of_pos y0 f0
    · rw [z, Int.zero_mul] at hxy; omega
    · have y0 : 0 < y := by
        by_cases q : 0 < y
        · exact q
        · have := Int.mul_nonneg (show 0 ≤ x by omega) (show 0 ≤ -y by omega)
          rw [Int.mul_neg] at this
          omega
      have f0 : f < 0 := by
        by_cases q : f < 0
        · exact q
        · have := Int.mul_nonneg (show 0 ≤ x by omega) (show 0 ≤ f by omega)
          omega
      exact Int.mul_neg_of_pos_of_neg y0 f0
  exact ⟨key a b h, key b a (by rw [Int.mul_comm]; exact h)⟩
theorem c0_same {a b : Int} (h : 0 < a * b) (r : List Int) : c0 a r = c0 b r := by
  unfold c0
  cases nz r with
  | nil => rfl
  | cons f t =>
    show (if a * f < 0 then 1 else 0) = (if b * f < 0 then 1 else 0)
    by_cases q : a * f < 0
    · rw [if_pos q, if_pos ((neg_iff h f).mp q)]
    · rw [if_neg q, if_neg fun z => q ((neg_iff h f).mpr z)]
theorem chg_same {a b : Int} (h : 0 < a * b) (r : List Int) : chg (a :: r) = chg (b :: r) := by rw [chg_cons, chg_cons, c0_same h]
theorem sgn_tri {x e f : Int} (he : e ≠ 0) (h : x * f < 0) : x * e < 0 ∨ e * f < 0 := by
  by_cases q : x * e < 0
  · exact .inl q
  · right
    have x0 : x ≠ 0 := fun z => by rw [z, Int.zero_mul] at h; omega
    have : x * e ≠ 0 := fun z => by rcases Int.mul_eq_zero.mp z with z | z <;> contradiction
    exact (neg_iff (show 0 < x * e by omega) f).mp h
theorem chg_del (x e : Int) (r : List Int) : chg (x :: r) ≤ chg (x :: e :: r) := by
  rw [chg_cons, chg_cons x, chg_cons e]
  by_cases he : e = 0
  · subst he
    rw [c0_cons0]
    omega
  · rw [c0_cons he]
    have : c0 x r ≤ (if x * e < 0 then 1 else 0) + c0 e r := by
      unfold c0
      cases nz r with
      | nil => exact Nat.zero_le _
      | cons f t =>
        show (if x * f < 0 then 1 else 0) ≤ (if x * e < 0 then 1 else 0) + (if e * f < 0 then 1 else 0)
        by_cases q : x * f < 0
        · rcases sgn_tri he q with z | z
          · rw [if_pos z]; split <;> omega
          · rw [if_pos z]; split <;> omega
        · rw [if_neg q]; exact Nat.zero_le _
    omega
theorem sq_pos {a : Int} (h : a ≠ 0) : 0 < a * a := by
  rcases Int.lt_or_gt_of_ne h with z | z
  · exact Int.mul_pos_of_neg_of_neg z z
  · exact Int.mul_pos z z
theorem lm_chg {u v : Int} (hu : 0 < u) (hv : 0 < v) : ∀ g : List Int, (∀ a, a ≠ 0 → chg (a :: g) + 1 ≤ chg (-a :: lm u v a g)) ∧ ∀ a e, 0 < e * a → chg (a :: g) ≤ chg (e :: lm u v 0 g)
  | [] => by
    refine ⟨fun a ha => ?_, fun a e _ => ?_⟩
    · have z : u * a ≠ 0 := fun z => by rcases Int.mul_eq_zero.mp z with z | z; omega; exact ha z
      have n : -a * (u * a) < 0 := by
        have := Int.mul_pos hu (sq_pos ha)
        have e : -a * (u * a) = -(u * (a * a)) := by grind
        omega
      rw [lm, chg_cons, chg_cons, c0_cons z, if_pos n, c0_nil]
      simp [chg, nz, adj]
    · rw [chg_cons, c0_nil]
      simp [chg, nz, adj]
  | b :: g => by
    obtain ⟨iA, iB⟩ := lm_chg hu hv g
    have A : ∀ a, a ≠ 0 → chg (a :: b :: g) + 1 ≤ chg (-a :: lm u v a (b :: g)) := fun a ha => by
      rw [lm]
      by_cases hb : b = 0
      · subst hb
        have z : u * a ≠ 0 := fun z => by rcases Int.mul_eq_zero.mp z with z | z; omega; exact ha z
        have p : 0 < u * a * a := by rw [Int.mul_assoc]; exact Int.mul_pos hu (sq_pos ha)
        have n : -a * (u * a) < 0 := by
          have e : -a * (u * a) = -(u * a * a) := by grind
          omega
        have := iB a (u * a) p
        rw [Int.mul_zero, Int.sub_zero, chg_cons (-a), c0_cons z, if_pos n, chg_cons a, c0_cons0, chg_zero]
        rw [chg_cons a] at this
        omega
      · have ib := iA b hb
        by_cases hab : a * b < 0
        · have ea : 0 < (u * a - v * b) * a := by
            have h1 := Int.mul_pos hu (sq_pos ha)
            have h2 := Int.mul_pos hv (show 0 < -(a * b) by omega)
            have e : (u * a - v * b) * a = u * (a * a) + v * -(a * b) := by grind
            omega
          have eb : 0 < -b * (u * a - v * b) := by
            have h1 := Int.mul_pos hu (show 0 < -(a * b) by omega)
            have h2 := Int.mul_pos hv (sq_pos hb)
            have e : -b * (u * a - v * b) = u * -(a * b) + v * (b * b) := by grind
            omega
          have ez : u * a - v * b ≠ 0 := fun z => by rw [z, Int.zero_mul] at ea; omega
          have n : -a * (u * a - v * b) < 0 := by
            have e : -a * (u * a - v * b) = -((u * a - v * b) * a) := by grind
            omega
          rw [chg_cons (-a), c0_cons ez, if_pos n, ← chg_same eb, chg_cons a, c0_cons hb, if_pos hab]
          omega
        · have hab' : 0 < a * b := by
            have : a * b ≠ 0 := fun z => by rcases Int.mul_eq_zero.mp z with z | z <;> contradiction
            omega
          have d := chg_del (-a) (u * a - v * b) (lm u v b g)
          have s : chg (-a :: lm u v b g) = chg (-b :: lm u v b g) := chg_same (by rw [Int.neg_mul_neg]; exact hab') _
          rw [chg_cons a, c0_cons hb, if_neg hab]
          omega
    refine ⟨A, fun a e h => ?_⟩
    rw [lm]
    by_cases hb : b = 0
    · subst hb
      have := iB a e h
      rw [Int.mul_zero, Int.mul_zero, Int.sub_zero, chg_cons e, c0_cons0, chg_zero, chg_cons a, c0_cons0, chg_zero]
      rw [chg_cons e, chg_cons a] at this
      exact this
    · have ib := iA b hb
      have s : chg ((u * 0 - v * b) :: lm u v b g) = chg (-b :: lm u v b g) := chg_same (by
        have := Int.mul_pos hv (sq_pos hb)
        have e : (u * 0 - v * b) * -b = v * (b * b) := by grind
        omega) _
      have d := chg_cons e ((u * 0 - v * b) :: lm u v b g)
      have f : c0 a (b :: g) ≤ 1 := by
        rw [c0_cons hb]
        split <;> omega
      rw [chg_cons a]
      omega
theorem lm_more {u v : Int} (hu : 0 < u) (hv : 0 < v) : ∀ g : List Int, (∃ w ∈ g, w ≠ 0) → chg g + 1 ≤ chg (lm u v 0 g)
  | [], h => by obtain ⟨_, h, _⟩ := h; exact nomatch h
  | b :: g, h => by
    rw [lm]
    by_cases hb : b = 0
    · subst hb
      rw [Int.mul_zero, Int.mul_zero, Int.sub_zero, chg_zero, chg_zero]
      refine lm_more hu hv g ?_
      obtain ⟨w, wm, w0⟩ := h
      rcases List.mem_cons.mp wm with z | wm
      · exact (w0 z).elim
      · exact ⟨w, wm, w0⟩
    · have s : chg ((u * 0 - v * b) :: lm u v b g) = chg (-b :: lm u v b g) := chg_same (by
        have := Int.mul_pos hv (sq_pos hb)
        have e : (u * 0 - v * b) * -b = v * (b * b) := by grind
        omega) _
      rw [s]
      exact (lm_chg hu hv g).1 b hb
theorem hv_lm (u v t b : Int) : ∀ (a : Int) (g : List Int), hv (lm u v a g) t b = (u * t - v * b) * hv g t b + u * a * b ^ g.length
  | a, [] => by simp [lm, hv]
  | a, c :: g => by
    have ll : ∀ (a : Int) (g : List Int), (lm u v a g).length = g.length + 1 := fun a g => by
      induction g generalizing a with
      | nil => rfl
      | cons c g ih => rw [lm, List.length_cons, ih, List.length_cons]
    rw [lm, hv, hv, hv_lm u v t b c g, ll, List.length_cons, Int.pow_succ]
    grind
end Z
namespace Z
def betwU (p : List Int) (f l b : Int) : List Int := (mv 1 (p.length - 1) (sprd (l - f) 1 (seen p f b)).reverse).reverse
theorem betw_U (p : List Int) (f l b : Int) : betw p f l b = trim (betwU p f l b) := rfl
theorem hv_betwU (p : List Int) (f l b X Y : Int) : hv (betwU p f l b) X Y = hv p (f * Y + l * X) (b * (X + Y)) := by
  rw [betwU, hv_rev, hv_mv _ _ _ _ _ (by rw [List.length_reverse, sprd_len, seen_len]; omega), hv_rev, hv_sprd, hv_seen, Int.one_mul]
  congr 1 <;> grind
theorem nz_trim : ∀ p : List Int, nz (trim p) = nz p
  | [] => rfl
  | a :: r => by
    rw [trim_cons]
    have ih := nz_trim r
    split
    · rename_i h
      rw [h.1] at ih
      rw [h.2]
      have e : nz (0 :: r) = nz r := by simp [nz]
      rw [e, ← ih]
    · by_cases ha : a = 0
      · subst ha
        have e : ∀ x : List Int, nz (0 :: x) = nz x := fun x => by simp [nz]
        rw [e, e, ih]
      · have e : ∀ x : List Int, nz (a :: x) = a :: nz x := fun x => by simp [nz, ha]
        rw [e, e, ih]
theorem chg_trim (p : List Int) : chg (trim p) = chg p := by rw [chg, nz_trim, chg]
theorem chg_betw (p : List Int) (f l b : Int) : chg (betw p f l b) = chg (betwU p f l b) := by rw [betw_U, chg_trim]
def ab : List Int → Int
  | [] => 0
  | a :: r => (a.natAbs : Int) + ab r
end Z
namespace Z
theorem dvd_big {a x : Int} (h : x ∣ a) (hx : (a.natAbs : Int) < x) : a = 0 := by
  by_cases z : a = 0
  · exact z
  · have := Nat.le_of_dvd (Int.natAbs_pos.mpr z) (Int.natAbs_dvd_natAbs.mpr h)
    omega
theorem hv_ext : ∀ (p q : List Int), p.length = q.length → (∀ x : Int, 1 ≤ x → hv p x 1 = hv q x 1) → p = q
  | [], [], _, _ => rfl
  | a :: p, b :: q, hl, h => by
    simp only [List.length_cons, Nat.add_right_cancel_iff] at hl
    have e : ∀ x : Int, 1 ≤ x → (hv p x 1 - hv q x 1) * x = b - a := fun x hx => by
      have := h x hx
      rw [hv, hv, Int.one_pow, Int.one_pow, Int.mul_one, Int.mul_one] at this
      rw [Int.sub_mul]
      omega
    have ab0 : b - a = 0 := dvd_big (x := ((b - a).natAbs : Int) + 1) ⟨_, by rw [Int.mul_comm]; exact (e _ (by omega)).symm⟩ (by omega)
    have : a = b := by omega
    subst this
    rw [hv_ext p q hl fun x hx => ?_]
    have := e x hx
    rw [Int.sub_self] at this
    rcases Int.mul_eq_zero.mp this with z | z <;> omega
theorem lm_len (u v : Int) : ∀ (a : Int) (g : List Int), (lm u v a g).length = g.length + 1
  | a, [] => rfl
  | a, c :: g => by rw [lm, List.length_cons, lm_len u v c g, List.length_cons]
theorem hv_lm0 (u v t b : Int) (g : List Int) : hv (lm u v 0 g) t b = (u * t - v * b) * hv g t b := by
  rw [hv_lm, Int.mul_zero, Int.zero_mul, Int.add_zero]
theorem lm_comm (u v u2 v2 : Int) (g : List Int) : lm u v 0 (lm u2 v2 0 g) = lm u2 v2 0 (lm u v 0 g) :=
  hv_ext _ _ (by rw [lm_len, lm_len, lm_len, lm_len]) fun x _ => by
    rw [hv_lm0, hv_lm0, hv_lm0, hv_lm0]
    grind
theorem betwU_len (p : List Int) (f l b : Int) : (betwU p f l b).length = p.length := by
  rw [betwU, List.length_reverse, mv_len, List.length_reverse, sprd_len, seen_len]
theorem betw_lm (u v f l b : Int) (g : List Int) : betwU (lm u v 0 g) f l b = lm (u * l - v * b) (v * b - u * f) 0 (betwU g f l b) :=
  hv_ext _ _ (by rw [betwU_len, lm_len, lm_len, betwU_len]) fun x _ => by
    rw [hv_betwU, hv_lm0, hv_lm0, hv_betwU]
    grind
theorem lm_null {u v : Int} (hu : u ≠ 0) : ∀ (a : Int) (g : List Int), (∀ w ∈ lm u v a g, w = 0) → a = 0 ∧ ∀ w ∈ g, w = 0
  | a, [], h => by
    have := h (u * a) (by rw [lm]; simp)
    exact ⟨(Int.mul_eq_zero.mp this).resolve_left hu, fun _ h => nomatch h⟩
  | a, c :: g, h => by
    rw [lm] at h
    obtain ⟨c0, g0⟩ := lm_null (v := v) hu c g fun w hw => h w (List.mem_cons_of_mem _ hw)
    have := h (u * a - v * c) (by simp)
    rw [c0, Int.mul_zero, Int.sub_zero] at this
    refine ⟨(Int.mul_eq_zero.mp this).resolve_left hu, fun w hw => ?_⟩
    rcases List.mem_cons.mp hw with rfl | hw
    · exact c0
    · exact g0 w hw
theorem lm_null0 {v : Int} (hv : v ≠ 0) : ∀ (a : Int) (g : List Int), (∀ w ∈ lm 0 v a g, w = 0) → ∀ w ∈ g, w = 0
  | _, [], _ => fun _ h => nomatch h
  | a, c :: g, h => by
    rw [lm] at h
    have g0 := lm_null0 hv c g fun w hw => h w (by simp [hw])
    have := h (0 * a - v * c) (by simp)
    rw [Int.zero_mul, Int.zero_sub] at this
    have c0 := (Int.mul_eq_zero.mp (show v * c = 0 by omega)).resolve_left hv
    intro w hw
    rcases List.mem_cons.mp hw with rfl | hw
    · exact c0
    · exact g0 w hw
theorem lm_ne {u v : Int} (h : u ≠ 0 ∨ v ≠ 0) {g : List Int} (hg : ∃ w ∈ g, w ≠ 0) : ∃ w ∈ lm u v 0 g, w ≠ 0 := by
  by_cases z : ∃ w ∈ lm u v 0 g, w ≠ 0
  · exact z
  · exfalso
    have all0 : ∀ w ∈ lm u v 0 g, w = 0 := fun w hw => by
      by_cases q : w = 0
      · exact q
      · exact (z ⟨w, hw, q⟩).elim
    obtain ⟨w, wm, w0⟩ := hg
    by_cases hu : u = 0
    · subst hu
      exact w0 (lm_null0 (h.resolve_left fun z => z rfl) 0 g all0 w wm)
    · exact w0 ((lm_null hu 0 g all0).2 w wm)
def Inn (f l b : Int) (r : Int × Int) : Prop := r.2 * f < r.1 * b ∧ r.1 * b < r.2 * l
instance (f l b : Int) (r : Int × Int) : Decidable (Inn f l b r) := by unfold Inn; infer_instance
def fl (f l b : Int) : List (Int × Int) → List Int → List Int
  | [], h => h
  | r :: rs, h => lm (r.2 * l - r.1 * b) (r.1 * b - r.2 * f) 0 (fl f l b rs h)
theorem fl_lm (f l b u v : Int) (h : List Int) : ∀ rs, lm u v 0 (fl f l b rs h) = fl f l b rs (lm u v 0 h)
  | [] => rfl
  | r :: rs => by rw [fl, lm_comm, fl_lm f l b u v h rs, fl]
theorem fl_more (f l b : Int) {h : List Int} (h0 : ∃ w ∈ h, w ≠ 0) : ∀ rs : List (Int × Int), (∀ r ∈ rs, Inn f l b r) → rs.length ≤ chg (fl f l b rs h) ∧ ∃ w ∈ fl f l b rs h, w ≠ 0
  | [], _ => ⟨Nat.zero_le _, h0⟩
  | r :: rs, hi => by
    obtain ⟨i1, i2⟩ := fl_more f l b h0 rs fun r hr => hi r (by simp [hr])
    have ⟨a, d⟩ := hi r (by simp)
    rw [fl, List.length_cons]
    exact ⟨Nat.le_trans (Nat.succ_le_succ i1) (lm_more (by omega) (by omega) _ i2), lm_ne (.inl (by omega)) i2⟩
end Z
namespace Z
theorem hv_k (k t b : Int) : ∀ (w : Int) (r : List Int), hv (w :: r) (k * t) (k * b) = k ^ r.length * hv (w :: r) t b
  | w, [] => by simp [hv]
  | w, w' :: r => by
    have e1 : ∀ t b : Int, hv (w :: w' :: r) t b = hv (w' :: r) t b * t + w * b ^ (r.length + 1) := fun _ _ => rfl
    rw [e1, e1, hv_k k t b w' r, List.length_cons, Int.mul_pow, Int.pow_succ k]
    generalize hv (w' :: r) t b = h
    generalize b ^ (r.length + 1) = v
    generalize k ^ r.length = u
    grind
theorem pos_r {u y : Int} (hu : 0 < u) (h : 0 < u * y) : 0 < y := by
  refine Classical.byContradiction fun n => ?_
  have := Int.mul_nonneg (Int.le_of_lt hu) (show 0 ≤ -y by omega)
  rw [Int.mul_neg] at this
  omega
theorem hv_same {t b t' b' : Int} (hb : 0 < b) (hb' : 0 < b') (e : t * b' = t' * b) (p : List Int) : (0 < hv p t b ↔ 0 < hv p t' b') ∧ (hv p t b = 0 ↔ hv p t' b' = 0) := by
  cases p with
  | nil => simp [hv]
  | cons w r =>
    have e1 := hv_k b' t b w r
    have e2 := hv_k b t' b' w r
    rw [Int.mul_comm b' t, e, Int.mul_comm t' b, Int.mul_comm b' b, e2] at e1
    have p1 := pwp hb r.length
    have p2 := pwp hb' r.length
    generalize hv (w :: r) t b = x at *
    generalize hv (w :: r) t' b' = y at *
    generalize b ^ r.length = u at *
    generalize b' ^ r.length = v at *
    refine ⟨⟨fun h => ?_, fun h => ?_⟩, fun h => ?_, fun h => ?_⟩
    · exact pos_r p1 (by rw [e1]; exact Int.mul_pos p2 h)
    · exact pos_r p2 (by rw [← e1]; exact Int.mul_pos p1 h)
    · rw [h, Int.mul_zero] at e1
      rcases Int.mul_eq_zero.mp e1 with z | z <;> omega
    · rw [h, Int.mul_zero] at e1
      rcases Int.mul_eq_zero.mp e1.symm with z | z <;> omega
theorem hv_neg (t b : Int) : ∀ p : List Int, hv (p.map (- ·)) t b = - hv p t b
  | [] => by simp [hv]
  | w :: r => by
    rw [List.map_cons, hv, hv, hv_neg t b r, List.length_map]
    grind
theorem hv_zeros (t b : Int) : ∀ p : List Int, (∀ w ∈ p, w = 0) → hv p t b = 0
  | [], _ => rfl
  | w :: r, h => by rw [hv, hv_zeros t b r fun x hx => h x (by simp [hx]), h w (by simp)]; simp
theorem betwU_ne {p : List Int} {f l D : Int} (hfl : f < l) (hD : 0 < D) (h : ∃ w ∈ p, w ≠ 0) : ∃ w ∈ betwU p f l D, w ≠ 0 := by
  refine Classical.byContradiction fun hn => ?_
  have hz : ∀ w ∈ betwU p f l D, w = 0 := fun w hw => Classical.byContradiction fun x => hn ⟨w, hw, x⟩
  obtain ⟨w, hw, w0⟩ := h
  refine w0 ?_
  have ep : p = List.replicate p.length 0 := hv_ext _ _ (by simp) fun x _ => by
    rw [hv_zeros _ _ (List.replicate p.length 0) fun w hw => (List.mem_replicate.mp hw).2]
    have e := hv_betwU p f l D (D * x - f) (l - D * x)
    rw [hv_zeros _ _ _ hz] at e
    have k0 : 0 < D * (l - f) := Int.mul_pos hD (by omega)
    have e1 : f * (l - D * x) + l * (D * x - f) = D * (l - f) * x := by grind
    have e2 : D * (D * x - f + (l - D * x)) = D * (l - f) * 1 := by grind
    rw [e1, e2] at e
    cases p with
    | nil => rfl
    | cons a r =>
      rw [hv_k] at e
      rcases Int.mul_eq_zero.mp e.symm with z | z
      · have := pwp k0 r.length
        omega
      · exact z
  rw [ep] at hw
  exact (List.mem_replicate.mp hw).2
def sgn3 (x : Int) : Int := (if 0 < x then 1 else 0) - (if x < 0 then 1 else 0)
theorem sg_eq {x y : Int} (h : (0 < x ↔ 0 < y) ∧ (x = 0 ↔ y = 0)) : sgn3 x = sgn3 y := by
  unfold sgn3
  by_cases a : 0 < x <;> by_cases b : x = 0 <;> by_cases c : 0 < y <;> by_cases d : y = 0 <;> by_cases a' : x < 0 <;> by_cases c' : y < 0 <;> simp [a, c, a', c'] <;> omega
theorem sg_pos {x : Int} (h : 0 < x) : sgn3 x = 1 := by unfold sgn3; rw [if_pos h, if_neg (by omega)]; rfl
theorem sg_neg {x : Int} (h : x < 0) : sgn3 x = -1 := by unfold sgn3; rw [if_pos h, if_neg (by omega)]; rfl
theorem none_sg {r : List Int} (hc : chg r = 0) (h0 : ∃ w ∈ r, w ≠ 0) : ∃ s : Int, s ≠ 0 ∧ ∀ X Y : Int, 0 < X → 0 < Y → sgn3 (hv r X Y) = s := by
  obtain ⟨w, hw, w0⟩ := h0
  rcases chg0 r hc with h | h
  · exact ⟨1, by decide, fun X Y hX hY => sg_pos (hv_pos hX hY r h ⟨w, hw, by have := h w hw; omega⟩)⟩
  · refine ⟨-1, by decide, fun X Y hX hY => sg_neg ?_⟩
    have := hv_pos hX hY (r.map (- ·)) (fun x hx => by
      obtain ⟨y, hy, rfl⟩ := List.mem_map.mp hx
      have := h y hy
      omega) ⟨-w, List.mem_map_of_mem hw, by have := h w hw; omega⟩
    rw [hv_neg] at this
    omega
theorem sg_cases (x : Int) : (sgn3 x = -1 ∧ x < 0) ∨ (sgn3 x = 0 ∧ x = 0) ∨ (sgn3 x = 1 ∧ 0 < x) := by
  rcases Int.lt_trichotomy x 0 with h | h | h
  · exact .inl ⟨sg_neg h, h⟩
  · exact .inr (.inl ⟨by rw [h]; rfl, h⟩)
  · exact .inr (.inr ⟨sg_pos h, h⟩)
end Z
namespace Z
def prB (g : List Int) : List (Int × Int) → List Int
  | [] => g
  | (n, d) :: rs => lm d n 0 (prB g rs)
theorem prB_len (g : List Int) : ∀ rs : List (Int × Int), (prB g rs).length = g.length + rs.length
  | [] => rfl
  | (n, d) :: rs => by rw [prB, lm_len, prB_len g rs, List.length_cons]; omega
theorem prB_ne {g : List Int} (hg : ∃ w ∈ g, w ≠ 0) : ∀ rs : List (Int × Int), (∀ r ∈ rs, 0 < r.2) → ∃ w ∈ prB g rs, w ≠ 0
  | [], _ => hg
  | (n, d) :: rs, h => by
    rw [prB]
    exact lm_ne (.inl (Int.ne_of_gt (h (n, d) (by simp)))) (prB_ne hg rs fun r hr => h r (by simp [hr]))
theorem betw_prB {f l b : Int} (hfl : f < l) {g : List Int} (hb : 0 < b) (hg : ∃ w ∈ g, w ≠ 0) : ∀ rs : List (Int × Int), (∀ r ∈ rs, 0 < r.2) → ∃ h : List Int, (∃ w ∈ h, w ≠ 0) ∧ betwU (prB g rs) f l b = fl f l b (rs.filter fun r => decide (Inn f l b r)) h
  | [], _ => ⟨_, betwU_ne hfl hb hg, rfl⟩
  | (n, d) :: rs, h => by
    obtain ⟨h0, hn, e⟩ := betw_prB hfl hb hg rs fun r hr => h r (by simp [hr])
    have hd : 0 < d := h (n, d) (by simp)
    rw [prB, betw_lm, e]
    by_cases hi : Inn f l b (n, d)
    · rw [List.filter_cons_of_pos (by simpa using hi)]
      exact ⟨h0, hn, rfl⟩
    · rw [List.filter_cons_of_neg (by simpa using hi)]
      refine ⟨_, lm_ne ?_ hn, fl_lm f l b _ _ h0 _⟩
      refine Classical.byContradiction fun z => ?_
      have z1 : d * l - n * b = 0 := Classical.byContradiction fun q => z (.inl q)
      have z2 : n * b - d * f = 0 := Classical.byContradiction fun q => z (.inr q)
      have := Int.mul_lt_mul_of_pos_left hfl hd
      omega
theorem inner_le {f l b : Int} (hfl : f < l) {g : List Int} (hb : 0 < b) (hg : ∃ w ∈ g, w ≠ 0) (rs : List (Int × Int)) (h : ∀ r ∈ rs, 0 < r.2) : (rs.filter fun r => decide (Inn f l b r)).length ≤ chg (betwU (prB g rs) f l b) := by
  obtain ⟨h0, hn, e⟩ := betw_prB hfl hb hg rs h
  rw [e]
  exact (fl_more f l b hn _ fun r hr => by simpa using (List.mem_filter.mp hr).2).1
theorem prB_root {g : List Int} {n d : Int} : ∀ {rs : List (Int × Int)}, (n, d) ∈ rs → hv (prB g rs) n d = 0
  | (n', d') :: rs, h => by
    rw [prB, hv_lm0]
    rcases List.mem_cons.mp h with e | h
    · cases e
      rw [Int.mul_comm d n, Int.sub_self, Int.zero_mul]
    · rw [prB_root h, Int.mul_zero]
theorem hv_side (p : List Int) (t b c X Y : Int) : hv (sprd c 1 (seen p t b)) X Y = hv p (c * X + t * Y) (b * Y) := by
  rw [hv_sprd, hv_seen, Int.one_mul]
theorem side_ne {p : List Int} {t b c : Int} (hb : 0 < b) (hc : c = b ∨ c = -b) (h : ∃ w ∈ p, w ≠ 0) : ∃ w ∈ sprd c 1 (seen p t b), w ≠ 0 := by
  refine Classical.byContradiction fun hn => ?_
  have hz : ∀ w ∈ sprd c 1 (seen p t b), w = 0 := fun w hw => Classical.byContradiction fun x => hn ⟨w, hw, x⟩
  obtain ⟨w, hw, w0⟩ := h
  refine w0 ?_
  have ep : p = List.replicate p.length 0 := hv_ext _ _ (by simp) fun x _ => by
    rw [hv_zeros _ _ (List.replicate p.length 0) fun w hw => (List.mem_replicate.mp hw).2]
    obtain ⟨X, hX⟩ : ∃ X, c * X + t * b = b * b * x := by
      rcases hc with rfl | rfl
      · exact ⟨c * x - t, by grind⟩
      · exact ⟨t - b * x, by grind⟩
    have e := hv_side p t b c X b
    rw [hv_zeros _ _ _ hz, hX] at e
    have k0 : 0 < b * b := Int.mul_pos hb hb
    have e2 : b * b = b * b * 1 := by omega
    rw [e2] at e
    cases p with
    | nil => rfl
    | cons a r =>
      have e3 : b * b * 1 * x = b * b * x := by rw [Int.mul_one]
      rw [e3, hv_k] at e
      rcases Int.mul_eq_zero.mp e.symm with z | z
      · have := pwp k0 r.length
        omega
      · exact z
  rw [ep] at hw
  exact (List.mem_replicate.mp hw).2
theorem above_sg {p : List Int} {t b : Int} (hb : 0 < b) (hp : ∃ w ∈ p, w ≠ 0) (hc : chg (sprd b 1 (seen p t b)) = 0) : ∃ s : Int, s ≠ 0 ∧ ∀ u d : Int, 0 < d → t * d < u * b → sgn3 (hv p u d) = s := by
  obtain ⟨s, hs, k⟩ := none_sg hc (side_ne hb (.inl rfl) hp)
  refine ⟨s, hs, fun u d hd h => ?_⟩
  rw [← k (u * b - t * d) (b * d) (by omega) (Int.mul_pos hb hd), hv_side]
  exact sg_eq (hv_same hd (Int.mul_pos hb (Int.mul_pos hb hd)) (by grind) p)
theorem below_sg {p : List Int} {t b : Int} (hb : 0 < b) (hp : ∃ w ∈ p, w ≠ 0) (hc : chg (sprd (-b) 1 (seen p t b)) = 0) : ∃ s : Int, s ≠ 0 ∧ ∀ u d : Int, 0 < d → u * b < t * d → sgn3 (hv p u d) = s := by
  obtain ⟨s, hs, k⟩ := none_sg hc (side_ne hb (.inr rfl) hp)
  refine ⟨s, hs, fun u d hd h => ?_⟩
  rw [← k (t * d - u * b) (b * d) (by omega) (Int.mul_pos hb hd), hv_side]
  exact sg_eq (hv_same hd (Int.mul_pos hb (Int.mul_pos hb hd)) (by grind) p)
theorem sgn3_mul (x y : Int) : sgn3 (x * y) = sgn3 x * sgn3 y := by
  rcases sg_cases x with ⟨a, a'⟩ | ⟨a, a'⟩ | ⟨a, a'⟩ <;> rcases sg_cases y with ⟨b, b'⟩ | ⟨b, b'⟩ | ⟨b, b'⟩ <;> rw [a, b]
  · exact sg_pos (Int.mul_pos_of_neg_of_neg a' b')
  · rw [b', Int.mul_zero]; rfl
  · exact sg_neg (Int.mul_neg_of_neg_of_pos a' b')
  · rw [a', Int.zero_mul]; rfl
  · rw [a', Int.zero_mul]; rfl
  · rw [a', Int.zero_mul]; rfl
  · exact sg_neg (Int.mul_neg_of_pos_of_neg a' b')
  · rw [b', Int.mul_zero]; rfl
  · exact sg_pos (Int.mul_pos a' b')
theorem prB_sg {g : List Int} {t b t' b' : Int} (hg : ∃ s : Int, s ≠ 0 ∧ sgn3 (hv g t b) = s ∧ sgn3 (hv g t' b') = s) : ∀ rs : List (Int × Int), (∀ r ∈ rs, (r.2 * t < r.1 * b ∧ r.2 * t' < r.1 * b') ∨ (r.1 * b < r.2 * t ∧ r.1 * b' < r.2 * t')) →
    ∃ s : Int, s ≠ 0 ∧ sgn3 (hv (prB g rs) t b) = s ∧ sgn3 (hv (prB g rs) t' b') = s
  | [], _ => hg
  | (n, d) :: rs, h => by
    obtain ⟨s, hs, e1, e2⟩ := prB_sg hg rs fun r hr => h r (by simp [hr])
    rw [prB, hv_lm0, hv_lm0, sgn3_mul, sgn3_mul, e1, e2]
    rcases h (n, d) (by simp) with ⟨a, b⟩ | ⟨a, b⟩
    · exact ⟨-1 * s, by omega, by rw [sg_neg (by dsimp only at a; omega)], by rw [sg_neg (by dsimp only at b; omega)]⟩
    · exact ⟨1 * s, by omega, by rw [sg_pos (by dsimp only at a; omega)], by rw [sg_pos (by dsimp only at b; omega)]⟩
end Z
namespace Z
open PySem L2
local macro_rules | `(tactic| contradiction) => `(tactic| simp only [z_seq, z_next, z_ifS, z_ret, z_drop, z_asg, z_gname, z_par, z_var0, z_varS, z_c, z_op, z_un, z_rI, z_rI0, z_rU, z_eqI, z_neI, z_eqB, z_neB, z_test, z_tB, z_exb, z_exi, z_ex2, z_exl1, z_exl2, z_not, z_and, z_or, z_andV, z_orV, z_notV, z_if, z_call, z_nil, z_cons, z_cb, z_tup, z_lst, z_chain, z_comp, z_rng1, z_rng2, z_ilist, z_itup, z_exr, z_kp1, z_kp2, z_for, z_sl, z_nopart, z_part, z_bm0, z_bm, z_cxK, z_noxK, z_rev, z_ien, z_irv, z_gsub, z_exlr, z_intB, z_raise, z_try, z_tryAs, z_down, z_exd, z_revL, z_iany, z_izip, z_dnew, z_cv, cpσ, List.getElem?_cons_zero, List.getElem?_cons_succ, Option.join_some, List.set_cons_zero, List.set_cons_succ, List.append_nil, decide_eq_true_eq, Bool.not_eq_true', decide_eq_false_iff_not, Bool.not_not, ite_not, Bool.false_eq_true, Bool.true_eq_false, if_false, if_true, if_pos, List.length_cons, List.length_nil, Nat.zero_add, Nat.reduceAdd, small1, small2, true_and, and_true, L2.start, List.map_cons, List.map_nil, Bool.not_true, Bool.not_false, Nat.reduceSub, List.replicate_succ, List.replicate_zero, List.cons_append, List.nil_append])
def top (i : Nat) : Stmt := PySem.Challenge.pw_rootcourt_k19_whole_right_cuts.main.body.getD i (.Pass ⟨0, 0, 0, 0⟩)
abbrev s_is_whole : Stmt := top 1
theorem sc_is_whole : FnScope ["thing"] ["thing"] (defScope s_is_whole) := ⟨rfl, rfl, rfl, by decide +kernel, rfl, by decide +kernel, by decide +kernel⟩
abbrev s_divisor : Stmt := top 2
theorem sc_divisor : FnScope ["one", "other", "greater", "lesser"] ["one", "other"] (defScope s_divisor) := ⟨rfl, rfl, rfl, by decide +kernel, rfl, by decide +kernel, by decide +kernel⟩
abbrev s_common : Stmt := top 3
theorem sc_common : FnScope ["one", "other"] ["one", "other"] (defScope s_common) := ⟨rfl, rfl, rfl, by decide +kernel, rfl, by decide +kernel, by decide +kernel⟩
abbrev s_is_fraction : Stmt := top 5
theorem sc_is_fraction : FnScope ["thing", "top", "bottom"] ["thing"] (defScope s_is_fraction) := ⟨rfl, rfl, rfl, by decide +kernel, rfl, by decide +kernel, by decide +kernel⟩
abbrev s_less : Stmt := top 6
theorem sc_less : FnScope ["one", "other"] ["one", "other"] (defScope s_less) := ⟨rfl, rfl, rfl, by decide +kernel, rfl, by decide +kernel, by decide +kernel⟩
abbrev s_poly : Stmt := top 8
theorem sc_poly : FnScope ["weights", "length"] ["weights"] (defScope s_poly) := ⟨rfl, rfl, rfl, by decide +kernel, rfl, by decide +kernel, by decide +kernel⟩
abbrev s_changes : Stmt := top 10
theorem sc_changes : FnScope ["p", "many", "ahead", "weight"] ["p"] (defScope s_changes) := ⟨rfl, rfl, rfl, by decide +kernel, rfl, by decide +kernel, by decide +kernel⟩
abbrev s_above : Stmt := top 11
theorem sc_above : FnScope ["p", "c"] ["p", "c"] (defScope s_above) := ⟨rfl, rfl, rfl, by decide +kernel, rfl, by decide +kernel, by decide +kernel⟩
abbrev s_below : Stmt := top 12
theorem sc_below : FnScope ["p", "c"] ["p", "c"] (defScope s_below) := ⟨rfl, rfl, rfl, by decide +kernel, rfl, by decide +kernel, by decide +kernel⟩
abbrev s_between : Stmt := top 13
theorem sc_between : FnScope ["p", "lo", "hi", "bottom", "first", "last", "weights"] ["p", "lo", "hi"] (defScope s_between) := ⟨rfl, rfl, rfl, by decide +kernel, rfl, by decide +kernel, by decide +kernel⟩
abbrev s_seen_at : Stmt := top 14
theorem sc_seen_at : FnScope ["p", "top", "bottom", "weights"] ["p", "top", "bottom"] (defScope s_seen_at) := ⟨rfl, rfl, rfl, by decide +kernel, rfl, by decide +kernel, by decide +kernel⟩
abbrev s_spread : Stmt := top 15
theorem sc_spread : FnScope ["weights", "factor", "found", "scale", "weight"] ["weights", "factor"] (defScope s_spread) := ⟨rfl, rfl, rfl, by decide +kernel, rfl, by decide +kernel, by decide +kernel⟩
abbrev s_moved : Stmt := top 16
theorem sc_moved : FnScope ["weights", "by", "found", "start", "place"] ["weights", "by"] (defScope s_moved) := ⟨rfl, rfl, rfl, by decide +kernel, rfl, by decide +kernel, by decide +kernel⟩
abbrev s_roots_right : Stmt := top 18
theorem sc_roots_right : FnScope ["p", "cuts", "lo", "hi"] ["p", "cuts"] (defScope s_roots_right) := ⟨rfl, rfl, rfl, by decide +kernel, rfl, by decide +kernel, by decide +kernel⟩
abbrev s_q_cell_at : Stmt := top 20
theorem sc_q_cell_at : FnScope ["_law_script", "_law_k"] ["_law_script", "_law_k"] (defScope s_q_cell_at) := ⟨rfl, rfl, rfl, by decide +kernel, rfl, by decide +kernel, by decide +kernel⟩
abbrev s_q_stirred : Stmt := top 21
theorem sc_q_stirred : FnScope ["_law_cell", "_law_k", "_law_some"] ["_law_cell", "_law_k"] (defScope s_q_stirred) := ⟨rfl, rfl, rfl, by decide +kernel, rfl, by decide +kernel, by decide +kernel⟩
abbrev s_q_poly : Stmt := top 22
theorem sc_q_poly : FnScope ["_law_cell", "_law_most", "_law_many", "_law_broad", "_law_part", "_law_weights", "_law_k"] ["_law_cell", "_law_most"] (defScope s_q_poly) := ⟨rfl, rfl, rfl, by decide +kernel, rfl, by decide +kernel, by decide +kernel⟩
abbrev s_q_gcd : Stmt := top 23
theorem sc_q_gcd : FnScope ["_law_one", "_law_other"] ["_law_one", "_law_other"] (defScope s_q_gcd) := ⟨rfl, rfl, rfl, by decide +kernel, rfl, by decide +kernel, by decide +kernel⟩
abbrev s_q_fraction : Stmt := top 24
theorem sc_q_fraction : FnScope ["_law_top", "_law_bottom", "_law_part"] ["_law_top", "_law_bottom"] (defScope s_q_fraction) := ⟨rfl, rfl, rfl, by decide +kernel, rfl, by decide +kernel, by decide +kernel⟩
abbrev s_q_drawn : Stmt := top 25
theorem sc_q_drawn : FnScope ["_law_cell"] ["_law_cell"] (defScope s_q_drawn) := ⟨rfl, rfl, rfl, by decide +kernel, rfl, by decide +kernel, by decide +kernel⟩
abbrev s_q_less : Stmt := top 26
theorem sc_q_less : FnScope ["_law_one", "_law_other"] ["_law_one", "_law_other"] (defScope s_q_less) := ⟨rfl, rfl, rfl, by decide +kernel, rfl, by decide +kernel, by decide +kernel⟩
abbrev s_q_homog : Stmt := top 27
theorem sc_q_homog : FnScope ["_law_p", "_law_x", "_law_y", "_law_total", "_law_share", "_law_weight"] ["_law_p", "_law_x", "_law_y"] (defScope s_q_homog) := ⟨rfl, rfl, rfl, by decide +kernel, rfl, by decide +kernel, by decide +kernel⟩
abbrev s_q_sign : Stmt := top 28
theorem sc_q_sign : FnScope ["_law_p", "_law_r", "_law_total"] ["_law_p", "_law_r"] (defScope s_q_sign) := ⟨rfl, rfl, rfl, by decide +kernel, rfl, by decide +kernel, by decide +kernel⟩
abbrev s_q_product : Stmt := top 29
theorem sc_q_product : FnScope ["_law_cell", "_law_found", "_law_roots", "_law_part", "_law_k", "_law_root", "_law_longer", "_law_j"] ["_law_cell"] (defScope s_q_product) := ⟨rfl, rfl, rfl, by decide +kernel, rfl, by decide +kernel, by decide +kernel⟩
abbrev s_q_amid_roots : Stmt := top 30
theorem sc_q_amid_roots : FnScope ["_law_roots", "_law_cell", "_law_rising", "_law_one", "_law_found", "_law_k", "_law_at", "_law_other"] ["_law_roots", "_law_cell"] (defScope s_q_amid_roots) := ⟨rfl, rfl, rfl, by decide +kernel, rfl, by decide +kernel, by decide +kernel⟩
abbrev s_q_cuts : Stmt := top 31
theorem sc_q_cuts : FnScope ["_law_script", "_law_roots", "_law_found", "_law_far", "_law_rising", "_law_one", "_law_at"] ["_law_script", "_law_roots"] (defScope s_q_cuts) := ⟨rfl, rfl, rfl, by decide +kernel, rfl, by decide +kernel, by decide +kernel⟩
abbrev s_q_odd : Stmt := top 32
theorem sc_q_odd : FnScope ["_law_cell", "_law_odd_here"] ["_law_cell"] (defScope s_q_odd) := ⟨rfl, rfl, rfl, by decide +kernel, rfl, by decide +kernel, by decide +kernel⟩
abbrev s_q_gap : Stmt := top 33
theorem sc_q_gap : FnScope ["_law_cuts_here", "_law_r", "_law_at"] ["_law_cuts_here", "_law_r"] (defScope s_q_gap) := ⟨rfl, rfl, rfl, by decide +kernel, rfl, by decide +kernel, by decide +kernel⟩
abbrev s_q_held : Stmt := top 34
theorem sc_q_held : FnScope ["_law_cuts_here", "_law_roots", "_law_unlike", "_law_root"] ["_law_cuts_here", "_law_roots"] (defScope s_q_held) := ⟨rfl, rfl, rfl, by decide +kernel, rfl, by decide +kernel, by decide +kernel⟩
abbrev s_q_rise : Stmt := top 35
theorem sc_q_rise : FnScope ["_law_cuts_here"] ["_law_cuts_here"] (defScope s_q_rise) := ⟨rfl, rfl, rfl, by decide +kernel, rfl, by decide +kernel, by decide +kernel⟩
abbrev s_q_due : Stmt := top 36
theorem sc_q_due : FnScope ["_law_p", "_law_cuts_here"] ["_law_p", "_law_cuts_here"] (defScope s_q_due) := ⟨rfl, rfl, rfl, by decide +kernel, rfl, by decide +kernel, by decide +kernel⟩
abbrev s_law : Stmt := top 37
theorem sc_law : FnScope ["_law_script", "_law_roots", "_law_p", "_law_cuts_here", "_law_handed", "_law_found", "_law_held_here", "_law_one", "_law_other", "_law_here", "_law_signs"] ["_law_script"] (defScope s_law) := ⟨rfl, rfl, rfl, by decide +kernel, rfl, by decide +kernel, by decide +kernel⟩
def spLaw (K : PySem.W.Frag) : Sp := fun vs H Q _ => ∃ (a : Addr) (ns : List Int), vs = [.ref a] ∧ SqL K H a (ns.map V.int) ∧ ns.length ≤ 63 ∧ ∀ H', Q (.bl true) H'
def cell (ns : List Int) (k : Int) : Int := ns.getD k.toNat 0
def sp_q_cell_at (K : PySem.W.Frag) : Sp := fun vs H Q _ => ∃ (a : Addr) (ns : List Int) (k : Int), vs = [.ref a, .int k] ∧ SqL K H a (ns.map V.int) ∧ 0 ≤ k ∧ Q (.int (cell ns k)) H
section
variable {P : Program} {w : World} {K : PySem.W.Frag} {mg : Str → Option Value} {base : Heap}
theorem ok_q_cell_at {f : Addr} {fd : FuncData} (F : Df K mg "_law_cell_at" s_q_cell_at ["_law_script", "_law_k"] f fd) (z_len : mg "len" = none)   : Cal P w K mg base 1 "_law_cell_at" ["_law_script", "_law_k"] (sp_q_cell_at K) := by
  refine F.cal (F.fn.ok sc_q_cell_at (fun vs H Q E h => ?_) (fun cdv A outer s H vs Q E hr h => ?_))
  · obtain ⟨a, ns, k, rfl, _⟩ := h
    rfl
  obtain ⟨a, ns, k, rfl, hS, hk, q⟩ := h
  refine S.ex_out ⟨_, (S.pss_cons (S.ps_if (S.pt_cmpR op_lt (S.pv 1) (S.pe_cB call_len_seq rfl z_len PySem.boot_len (S.pa_cns (S.pv 0) S.pa_nil)) (nomark _)) (S.pss_one (S.ps_ret (S.pe_ix ix_list (S.pv 0) (S.pv 1) (fun _ _ => rfl)))) S.pss_nil)
      (S.pss_one (S.ps_ret S.pe_int))), ?_⟩
  contradiction
  refine ⟨a, _, rfl, .inl hS, ?_⟩
  rw [List.length_map]
  split
  · rename_i h
    have hk' : k.toNat < ns.length := by omega
    refine z_ixL hS (v := .int (cell ns k)) ?_ q
    have e := atI_nat (xs := ns.map V.int) (j := k.toNat) (v := .int (cell ns k)) (by
      rw [List.getElem?_map, List.getElem?_eq_getElem hk']
      unfold cell
      rw [List.getD_eq_getElem?_getD, List.getElem?_eq_getElem hk']
      rfl)
    rw [Int.toNat_of_nonneg hk] at e
    exact e
  · rename_i h
    have e : cell ns k = 0 := by
      unfold cell
      rw [List.getD_eq_getElem?_getD, List.getElem?_eq_none (by omega)]
      rfl
    rw [e] at q
    exact q
theorem trim_len (p : List Int) : (trim p).length ≤ p.length := (trim_tr p).len fun i => co_trim p i
def SqI (K : PySem.W.Frag) (H : Hp) (a : Addr) (ns : List Int) : Prop := SqL K H a (ns.map V.int) ∨ SqT K H a (ns.map V.int)
def sp_poly (K : PySem.W.Frag) : Sp := fun vs H Q _ => ∃ (a : Addr) (ns : List Int), vs = [.ref a] ∧ SqI K H a ns ∧ ns.length ≤ 1000 ∧ ∀ z H', Same H H' → SqT K H' z ((trim ns).map V.int) → Q (.ref z) H'
theorem ok_poly {f : Addr} {fd : FuncData} (F : Df K mg "poly" s_poly ["weights"] f fd) (z_len : mg "len" = none) (z_tuple : mg "tuple" = none)   : Cal P w K mg base 1 "poly" ["weights"] (sp_poly K) := by
  refine F.cal (F.fn.ok sc_poly (fun vs H Q E h => ?_) (fun cdv A outer s H vs Q E hr h => ?_))
  · obtain ⟨a, ns, rfl, _⟩ := h
    rfl
  obtain ⟨a, ns, rfl, hS, hl, q⟩ := h
  refine S.ex_out ⟨_, (S.pss_cons (S.ps_set (i := 1) sc_poly.nd rfl (Or.inl rfl) (S.pe_cB call_len_seq rfl z_len PySem.boot_len (S.pa_cns (S.pv 0) S.pa_nil)))
      (S.pss_cons (S.ps_while PassesOwn.never (S.PW_pt (S.pw_and (S.pt_cmpR op_gt (S.pv 1) S.pe_int (nomark _)) (S.pw_and1 (S.pt_cmpR op_eq (S.pe_ix ix_any (S.pv 0) (S.pe_op op_sub (S.pv 1) S.pe_int) (fun _ _ => rfl)) S.pe_int (nomark _))))) (S.pss_one (S.ps_set (i := 1) sc_poly.nd rfl (Or.inl rfl) (S.pe_op op_sub (S.pv 1) S.pe_int))))
      (S.pss_one (S.ps_ret (S.pe_cTy call_tuple_of rfl z_tuple PyProof.Rows.boot_tuple (S.pa_cns (S.pe_slice sl_any (S.pv 0) S.po_none (S.po_some (S.pv 1))) S.pa_nil)))))), ?_⟩
  contradiction
  refine ⟨a, _, rfl, hS, ?_⟩
  rw [List.length_map]
  refine while_go (fun σ H' => H' = H ∧ ∃ n : Nat, σ = [some (.ref a), some (.int n)] ∧ n ≤ ns.length ∧ ∀ i, n ≤ i → co ns i = 0) (fun σ _ => match σ with | [_, some (.int n)] => n.toNat | _ => 0)
    ⟨rfl, _, rfl, Nat.le_refl _, fun i h => co_big h⟩ ?_
  rintro σ H' ⟨rfl, n, rfl, hn, hz⟩
  have fin : (n = 0 ∨ co ns (n - 1) ≠ 0) → rSlX K (V.ref a) none (some (n : Int)) H' (fun x H1 => ∃ p ys, [x] = [V.ref p] ∧ ((SqL K H1 p ys ∧ ∀ (l : Addr), H1 l = none → Q (V.ref l) (upd H1 l (HO.tup ys))) ∨ SqT K H1 p ys ∧ Q (V.ref p) H1)) := fun h => by
    have e : cutV (ns.map V.int) none (some (n : Int)) = (trim ns).map V.int := by
      rw [trim_take hz h]
      unfold cutV
      rw [HT.sIx_none, HT.sIx_nat, List.drop_zero, Nat.sub_zero, List.length_map, Nat.min_eq_left hn, List.map_take]
    rcases hS with hS | hS
    · refine ⟨a, _, rfl, .inl ⟨hS, fun z H2 s2 hz2 => ?_⟩⟩
      rw [e] at hz2
      exact ⟨z, _, rfl, .inl ⟨hz2, fun y hy => q y _ (s2.trans (Same.upd hy _)) (.of upd_same)⟩⟩
    · refine ⟨a, _, rfl, .inr ⟨hS, fun z H2 s2 hz2 => ?_⟩⟩
      rw [e] at hz2
      exact ⟨z, _, rfl, .inr ⟨hz2, q z _ s2 hz2⟩⟩
  contradiction
  by_cases h0 : (0 : Int) < n
  · rw [if_pos h0]
    refine ⟨a, _, _, .int (co ns (n - 1)), rfl, rfl, hS, ?_, ?_⟩
    · have e := atI_nat (xs := ns.map V.int) (j := n - 1) (v := .int (co ns (n - 1))) (by rw [List.getElem?_map, List.getElem?_eq_getElem (by omega), co_get (by omega)]; rfl)
      rw [show ((n - 1 : Nat) : Int) = (n : Int) - 1 by omega] at e
      exact e
    contradiction
    by_cases hc : co ns (n - 1) = 0
    · rw [if_pos hc]
      refine wb_of ?_
      contradiction
      refine ⟨⟨n - 1, by rw [show ((n - 1 : Nat) : Int) = (n : Int) - 1 by omega], by omega, fun i hi => ?_⟩, by omega⟩
      by_cases hi' : i = n - 1
      · rw [hi', hc]
      · exact hz i (by omega)
    · rw [if_neg hc]
      exact fin (.inr hc)
  · rw [if_neg h0]
    exact fin (.inl (by omega))
--SPLIT
def spGcd : Sp := fun vs H Q _ => ∃ a b : Int, vs = [.int a, .int b] ∧ Q (.int (Int.gcd a b : Int)) H
def sp_divisor (_ : PySem.W.Frag) : Sp := spGcd
theorem ok_divisor {f : Addr} {fd : FuncData} (F : Df K mg "divisor" s_divisor ["one", "other"] f fd) (z_abs : mg "abs" = none)   : Cal P w K mg base 1 "divisor" ["one", "other"] (sp_divisor K) := by
  refine F.cal (F.fn.ok sc_divisor (fun vs H Q E h => ?_) (fun cdv A outer s H vs Q E hr h => ?_))
  · obtain ⟨a, b, rfl, _⟩ := h
    rfl
  obtain ⟨a, b, rfl, q⟩ := h
  refine S.ex_out ⟨_, (S.pss_cons (S.ps_set (i := 2) sc_divisor.nd rfl (Or.inl rfl) (S.pe_cB call_abs rfl z_abs PyProof.Rows.boot_abs (S.pa_cns (S.pv 0) S.pa_nil)))
      (S.pss_cons (S.ps_set (i := 3) sc_divisor.nd rfl (Or.inl rfl) (S.pe_cB call_abs rfl z_abs PyProof.Rows.boot_abs (S.pa_cns (S.pv 1) S.pa_nil)))
      (S.pss_cons (S.ps_while PassesOwn.never (S.pt_cmpR op_ne (S.pv 3) S.pe_int (nomark _)) (S.pss_one (S.ps_par (i := 2) (j := 3) rfl sc_divisor.nd rfl rfl (by decide) rfl rfl (S.pa_cns (S.pv 3) (S.pa_cns (S.pe_op op_mod (S.pv 2) (S.pv 3)) S.pa_nil)) rfl)))
      (S.pss_one (S.ps_ret (S.pv 2)))))), ?_⟩
  simp only [z_seq, z_next, z_ifS, z_ret, z_drop, z_asg, z_gname, z_par, z_var0, z_varS, z_c, z_op, z_un, z_rI, z_rI0, z_rU, z_eqI, z_neI, z_eqB, z_neB, z_test, z_tB, z_exb, z_exi, z_ex2, z_exl1, z_exl2, z_not, z_and, z_or, z_andV, z_orV, z_notV, z_if, z_call, z_nil, z_cons, z_cb, z_tup, z_lst, z_chain, z_comp, z_rng1, z_rng2, z_ilist, z_itup, z_exr, z_kp1, z_kp2, z_for, z_sl, z_nopart, z_part, z_bm0, z_bm, z_cxK, z_noxK, z_rev, z_ien, z_irv, z_gsub, z_exlr, z_intB, z_raise, z_try, z_tryAs, z_down, z_exd, z_revL, z_iany, z_izip, z_dnew, z_cv, cpσ, List.getElem?_cons_zero, List.getElem?_cons_succ, Option.join_some, List.set_cons_zero, List.set_cons_succ, List.append_nil, decide_eq_true_eq, Bool.not_eq_true', decide_eq_false_iff_not, Bool.not_not, ite_not, Bool.false_eq_true, Bool.true_eq_false, if_false, if_true, if_pos, List.length_cons, List.length_nil, Nat.zero_add, Nat.reduceAdd, small1, small2, true_and, and_true, L2.start, List.map_cons, List.map_nil, Bool.not_true, Bool.not_false, Nat.reduceSub, List.replicate_succ, List.replicate_zero, List.cons_append, List.nil_append, abs_eq]
  refine while_by (fun σ H' => H' = H ∧ ∃ x y : Nat, σ = [some (.int a), some (.int b), some (.int x), some (.int y)] ∧ Nat.gcd x y = Nat.gcd a.natAbs b.natAbs)
    (fun σ _ => match σ with | [_, _, _, some (.int y)] => y.toNat | _ => 0) ⟨rfl, _, _, rfl, rfl⟩ ?_ ?_
  · rintro σ H' ⟨rfl, x, y, rfl, e⟩
    contradiction
    by_cases hy : (y : Int) = 0
    · rw [if_pos hy]
      have hy' : y = 0 := by omega
      subst hy'
      rw [Nat.gcd_zero_right] at e
      subst e
      exact q
    · rw [if_neg hy]
      refine ⟨by omega, ⟨y, x % y, by rw [Int.natCast_emod], by rw [gcd_step]; exact e⟩, ?_⟩
      show ((x : Int) % (y : Int)).toNat < (y : Int).toNat
      rw [← Int.natCast_emod, Int.toNat_natCast, Int.toNat_natCast]
      exact Nat.mod_lt _ (by omega)
  · intro σ H' Q1 Q2 h12
    simp only [z_test, z_op]
    rintro ⟨v, e1, hs⟩
    exact ⟨v, e1, by
      obtain ⟨s1, k, e2, h3⟩ := hs
      exact ⟨s1, k, e2, h12 _ _ h3⟩⟩
def lcmI (a b : Int) : Int := ((Nat.lcm a.natAbs b.natAbs : Nat) : Int)
def sp_common (_ : PySem.W.Frag) : Sp := fun vs H Q _ => ∃ a b : Int, vs = [.int a, .int b] ∧ Sz 4000 a ∧ Sz 4000 b ∧ Q (.int (lcmI a b)) H
theorem ok_common {f : Addr} {fd : FuncData} (F : Df K mg "common" s_common ["one", "other"] f fd) (z_abs : mg "abs" = none)  (c_divisor : Cal P w K mg base 1 "divisor" ["one", "other"] (sp_divisor K)) : Cal P w K mg base 2 "common" ["one", "other"] (sp_common K) := by
  refine F.cal (F.fn.ok sc_common (fun vs H Q E h => ?_) (fun cdv A outer s H vs Q E hr h => ?_))
  · obtain ⟨a, b, rfl, _⟩ := h
    rfl
  obtain ⟨a, b, rfl, sa, sb, q⟩ := h
  refine S.ex_out ⟨_, (S.pss_cons (S.ps_if (S.PW_pt (S.pw_or (S.pt_cmpR op_eq (S.pv 0) S.pe_int (nomark _)) (S.pw_or1 (S.pt_cmpR op_eq (S.pv 1) S.pe_int (nomark _))))) (S.pss_one (S.ps_ret S.pe_int)) S.pss_nil)
      (S.pss_one (S.ps_ret (S.pe_op op_mulM (S.pe_op op_fdivP (S.pe_cB call_abs rfl z_abs PyProof.Rows.boot_abs (S.pa_cns (S.pv 0) S.pa_nil)) (S.pe_cD c_divisor (hr.mono (by decide)) (S.pa_cns (S.pv 0) (S.pa_cns (S.pv 1) S.pa_nil)))) (S.pe_cB call_abs rfl z_abs PyProof.Rows.boot_abs (S.pa_cns (S.pv 1) S.pa_nil)))))), ?_⟩
  simp only [z_seq, z_next, z_ifS, z_ret, z_drop, z_asg, z_gname, z_par, z_var0, z_varS, z_c, z_op, z_un, z_rI, z_rI0, z_rU, z_eqI, z_neI, z_eqB, z_neB, z_test, z_tB, z_exb, z_exi, z_ex2, z_exl1, z_exl2, z_not, z_and, z_or, z_andV, z_orV, z_notV, z_if, z_call, z_nil, z_cons, z_cb, z_tup, z_lst, z_chain, z_comp, z_rng1, z_rng2, z_ilist, z_itup, z_exr, z_kp1, z_kp2, z_for, z_sl, z_nopart, z_part, z_bm0, z_bm, z_cxK, z_noxK, z_rev, z_ien, z_irv, z_gsub, z_exlr, z_intB, z_raise, z_try, z_tryAs, z_down, z_exd, z_revL, z_iany, z_izip, z_dnew, z_cv, cpσ, List.getElem?_cons_zero, List.getElem?_cons_succ, Option.join_some, List.set_cons_zero, List.set_cons_succ, List.append_nil, decide_eq_true_eq, Bool.not_eq_true', decide_eq_false_iff_not, Bool.not_not, ite_not, Bool.false_eq_true, Bool.true_eq_false, if_false, if_true, if_pos, List.length_cons, List.length_nil, Nat.zero_add, Nat.reduceAdd, small1, small2, true_and, and_true, L2.start, List.map_cons, List.map_nil, Bool.not_true, Bool.not_false, Nat.reduceSub, List.replicate_succ, List.replicate_zero, List.cons_append, List.nil_append, abs_eq]
  by_cases ha : a = 0
  · subst ha
    rw [if_pos rfl]
    exact (by simpa [lcmI] using q)
  by_cases hb : b = 0
  · subst hb
    rw [if_neg ha, if_pos rfl]
    exact (by simpa [lcmI] using q)
  rw [if_neg ha, if_neg hb]
  refine ⟨a, b, rfl, ?_⟩
  simp only [z_seq, z_next, z_ifS, z_ret, z_drop, z_asg, z_gname, z_par, z_var0, z_varS, z_c, z_op, z_un, z_rI, z_rI0, z_rU, z_eqI, z_neI, z_eqB, z_neB, z_test, z_tB, z_exb, z_exi, z_ex2, z_exl1, z_exl2, z_not, z_and, z_or, z_andV, z_orV, z_notV, z_if, z_call, z_nil, z_cons, z_cb, z_tup, z_lst, z_chain, z_comp, z_rng1, z_rng2, z_ilist, z_itup, z_exr, z_kp1, z_kp2, z_for, z_sl, z_nopart, z_part, z_bm0, z_bm, z_cxK, z_noxK, z_rev, z_ien, z_irv, z_gsub, z_exlr, z_intB, z_raise, z_try, z_tryAs, z_down, z_exd, z_revL, z_iany, z_izip, z_dnew, z_cv, cpσ, List.getElem?_cons_zero, List.getElem?_cons_succ, Option.join_some, List.set_cons_zero, List.set_cons_succ, List.append_nil, decide_eq_true_eq, Bool.not_eq_true', decide_eq_false_iff_not, Bool.not_not, ite_not, Bool.false_eq_true, Bool.true_eq_false, if_false, if_true, if_pos, List.length_cons, List.length_nil, Nat.zero_add, Nat.reduceAdd, small1, small2, true_and, and_true, L2.start, List.map_cons, List.map_nil, Bool.not_true, Bool.not_false, Nat.reduceSub, List.replicate_succ, List.replicate_zero, List.cons_append, List.nil_append, abs_eq]
  have g0 : 0 < Int.gcd a b := Int.gcd_pos_of_ne_zero_left b ha
  have gz : Sz 4000 ((Int.gcd a b : Nat) : Int) := sa.of_abs (by
    have := Nat.le_of_dvd (by omega) (Int.gcd_dvd_natAbs_left a b)
    omega)
  have dz : Sz 4000 ((a.natAbs : Int) / (Int.gcd a b : Int)) := sa.of_abs (by
    rw [← Int.natCast_ediv, Int.natAbs_natCast]
    exact Nat.div_le_self _ _)
  have bz : Sz 4000 (b.natAbs : Int) := sb.of_abs (by rw [Int.natAbs_natCast]; exact Nat.le_refl _)
  refine ⟨⟨by omega, gz.log2 (by omega) (by decide)⟩, dz.mulOk bz (by decide), ?_⟩
  have e : (a.natAbs : Int) / (Int.gcd a b : Int) * (b.natAbs : Int) = lcmI a b := by
    rw [← Int.natCast_ediv, ← Int.natCast_mul]
    exact congrArg Int.ofNat (Nat.div_mul_right_comm (Int.gcd_dvd_natAbs_left a b) b.natAbs)
  rw [e]
  exact q
--SPLIT
theorem Sz00 {n : Nat} : Sz n 0 := Nat.pow_pos (by decide)
theorem sprd_sz {f : Int} {n u : Nat} (hf : Sz u f) : ∀ (k : Nat) (p : List Int) (s : Int), (∀ x ∈ p, Sz n x) → Sz k s → ∀ x ∈ sprd f s p, Sz (n + k + u * p.length) x
  | _, [], _, _, _, x, hx => by simp [sprd] at hx
  | k, w :: r, s, h, hs, x, hx => by
    rw [sprd] at hx
    rcases List.mem_cons.mp hx with rfl | hx
    · exact ((h w (by simp)).mul hs).mono (by omega)
    · have := sprd_sz hf (k + u) r (s * f) (fun y hy => h y (by simp [hy])) (hs.mul hf) x hx
      rw [List.length_cons, Nat.mul_succ]
      exact this.mono (by omega)
theorem head_sz {n : Nat} {l : List Int} (h : ∀ x ∈ l, Sz n x) : Sz n (l.headD 0) := by
  cases l with
  | nil => exact Sz00
  | cons g gs => exact h g (by simp)
theorem hs_sz {y : Int} {n u : Nat} (hy : Sz u y) : ∀ (p : List Int), (∀ x ∈ p, Sz n x) → ∀ x ∈ hs y p, Sz (n + (u + 1) * p.length) x
  | [], _, x, hx => by simp [hs] at hx
  | a :: r, h, x, hx => by
    have ih := hs_sz hy r fun z hz => h z (by simp [hz])
    have hd := head_sz ih
    rw [List.length_cons, Nat.mul_succ]
    rw [hs] at hx
    rcases List.mem_cons.mp hx with rfl | hx
    · exact ((h a (by simp)).add (hy.mul hd)).mono (by omega)
    · exact (ih x hx).mono (by omega)
theorem mv_sz {y : Int} {u : Nat} (hy : Sz u y) : ∀ (k n : Nat) (p : List Int), p.length ≤ 8 → (∀ x ∈ p, Sz n x) → ∀ x ∈ mv y k p, Sz (n + 8 * (u + 1) * k) x
  | 0, n, p, _, h, x, hx => (h x hx).mono (by omega)
  | k + 1, n, [], _, _, x, hx => by simp [mv] at hx
  | k + 1, n, a :: r, hl, h, x, hx => by
    rw [List.length_cons] at hl
    have h6 : (u + 1) * r.length ≤ 8 * (u + 1) := by rw [Nat.mul_comm 8]; exact Nat.mul_le_mul_left _ (by omega)
    have h7 : (u + 1) * (r.length + 1) ≤ 8 * (u + 1) := by rw [Nat.mul_comm 8]; exact Nat.mul_le_mul_left _ (by omega)
    have hall := hs_sz hy (a :: r) h
    rw [hs, List.length_cons] at hall
    have e : 8 * (u + 1) * (k + 1) = 8 * (u + 1) * k + 8 * (u + 1) := Nat.mul_succ _ _
    rw [mv] at hx
    rcases List.mem_cons.mp hx with rfl | hx
    · exact (hall _ (by simp)).mono (by omega)
    · have := mv_sz hy k (n + 8 * (u + 1)) (hs y r) (by rw [hs_len]; omega) (fun z hz => (hall z (by simp [hz])).mono (by omega)) x hx
      exact this.mono (by omega)
def sp_spread (K : PySem.W.Frag) : Sp := fun vs H Q _ => ∃ (a : Addr) (ws : List Int) (f : Int) (n u : Nat), vs = [.ref a, .int f] ∧ SqI K H a ws ∧ ws.length ≤ 8 ∧ (∀ x ∈ ws, Sz n x) ∧ Sz u f ∧ n ≤ 1000000 ∧ u ≤ 1000000 ∧
  ∀ z H', Same H H' → SqL K H' z ((sprd f 1 ws).map V.int) → (∀ x ∈ sprd f 1 ws, Sz (n + 1 + u * 8) x) → Q (.ref z) H'
theorem spow_sz {f : Int} {u : Nat} (hf : Sz u f) : ∀ m : Nat, Sz (u * m + 1) (f ^ m)
  | 0 => by rw [Int.pow_zero, Nat.mul_zero]; unfold Sz; decide
  | m + 1 => by
    rw [Int.pow_succ, Nat.mul_succ]
    exact ((spow_sz hf m).mul hf).mono (by omega)
theorem ok_spread {f : Addr} {fd : FuncData} (F : Df K mg "spread" s_spread ["weights", "factor"] f fd)    : Cal P w K mg base 1 "spread" ["weights", "factor"] (sp_spread K) := by
  refine F.cal (F.fn.ok sc_spread (fun vs H Q E h => ?_) (fun cdv A outer s H vs Q E hr h => ?_))
  · obtain ⟨a, ws, f, _, _, rfl, _⟩ := h
    rfl
  obtain ⟨a, ws, f, n, u, rfl, ha, hl, hw, hf, hn, hu, k⟩ := h
  refine S.ex_out ⟨_, (S.pss_cons (S.ps_set (i := 2) sc_spread.nd rfl (Or.inl rfl) (S.pe_lst S.pa_nil))
      (S.pss_cons (S.ps_set (i := 3) sc_spread.nd rfl (Or.inl rfl) S.pe_int)
      (S.pss_cons (S.ps_for PassesOwn.never rfl (S.pi_any (S.pv 0)) (S.pg_name (i := 4) sc_spread.nd rfl (Or.inl rfl)) (S.pss_cons (S.ps_expr (S.pe_bm PySem.F.plainAttrs_list PySem.F.slot_list_append PySem.F.type_list_append mt_append (S.pv 2) (S.pa_cns (S.pe_op op_mulM (S.pv 4) (S.pv 3)) S.pa_nil)))
      (S.pss_one (S.ps_set (i := 3) sc_spread.nd rfl (Or.inl rfl) (S.pe_op op_mulM (S.pv 3) (S.pv 1))))))
      (S.pss_one (S.ps_ret (S.pv 2)))))), ?_⟩
  contradiction
  refine ⟨by decide, fun p0 hp0 => ?_⟩
  have s0 := Same.upd hp0 (.lst [])
  have base0 : H p0 = none := hp0
  have sw : ∀ {x : Int} {m : Nat}, x ∈ ws → m ≤ 8 → IntMulOk x (f ^ m) := fun {x m} hx hm => (hw x hx).mulOk (spow_sz hf m) (by have : u * m ≤ u * 8 := Nat.mul_le_mul_left _ hm; omega)
  rcases ha with ha | ha
  · refine .inl ⟨⟨_, s0.seq ha⟩, ?_⟩
    refine fi_by (es := ws) (inj := V.int) (fun pre σ H' => Same H H' ∧ H' p0 = some (.lst ((sprd f 1 pre).map V.int)) ∧ ∃ o : Option V, σ = [some (.ref a), some (.int f), some (.ref p0), some (.int (f ^ pre.length)), o]) ⟨s0, upd_same, none, by simp⟩ (fun pre σ H' hp => ?_) (fun pre e post σ H' he hp => ?_) (fun σ H' hp => ?_)
    obtain ⟨s1, hp1, o, rfl⟩ := hp
    exact wkAt_list (s1.seq ha)
    obtain ⟨s1, hp1, o, rfl⟩ := hp
    have hm : e ∈ ws := by rw [he]; simp
    have hpl : pre.length ≤ 8 := by have := congrArg List.length he; simp at this; omega
    contradiction
    refine ⟨.inl ⟨rfl, _, SqL.of hp1⟩, sw hm hpl, p0, _, _, rfl, rfl, hp1, by rw [List.length_map, sprd_len]; exact Nat.lt_of_le_of_lt hpl (by decide), ?_⟩
    try contradiction
    refine ⟨(spow_sz hf pre.length).mulOk hf (by have : u * pre.length ≤ u * 8 := Nat.mul_le_mul_left _ hpl; omega), s1.put base0, ?_, some (.int e), ?_⟩
    · rw [upd_same, sprd_snoc, List.map_append, Int.one_mul]
      rfl
    · rw [List.length_append, List.length_singleton, Int.pow_succ]
    obtain ⟨s1, hp1, o, rfl⟩ := hp
    contradiction
    exact k p0 _ s1 (.of hp1) fun x hx => (sprd_sz hf 1 ws 1 hw (by unfold Sz; decide) x hx).mono (by have : u * ws.length ≤ u * 8 := Nat.mul_le_mul_left _ hl; omega)
  · refine .inr ⟨⟨_, s0.tup ha⟩, ?_⟩
    refine fi_by (es := ws) (inj := V.int) (fun pre σ H' => Same H H' ∧ H' p0 = some (.lst ((sprd f 1 pre).map V.int)) ∧ ∃ o : Option V, σ = [some (.ref a), some (.int f), some (.ref p0), some (.int (f ^ pre.length)), o]) ⟨s0, upd_same, none, by simp⟩ (fun pre σ H' hp => ?_) (fun pre e post σ H' he hp => ?_) (fun σ H' hp => ?_)
    obtain ⟨s1, hp1, o, rfl⟩ := hp
    exact wkAt_tup (s1.tup ha)
    obtain ⟨s1, hp1, o, rfl⟩ := hp
    have hm : e ∈ ws := by rw [he]; simp
    have hpl : pre.length ≤ 8 := by have := congrArg List.length he; simp at this; omega
    contradiction
    refine ⟨.inl ⟨rfl, _, SqL.of hp1⟩, sw hm hpl, p0, _, _, rfl, rfl, hp1, by rw [List.length_map, sprd_len]; exact Nat.lt_of_le_of_lt hpl (by decide), ?_⟩
    try contradiction
    refine ⟨(spow_sz hf pre.length).mulOk hf (by have : u * pre.length ≤ u * 8 := Nat.mul_le_mul_left _ hpl; omega), s1.put base0, ?_, some (.int e), ?_⟩
    · rw [upd_same, sprd_snoc, List.map_append, Int.one_mul]
      rfl
    · rw [List.length_append, List.length_singleton, Int.pow_succ]
    obtain ⟨s1, hp1, o, rfl⟩ := hp
    contradiction
    exact k p0 _ s1 (.of hp1) fun x hx => (sprd_sz hf 1 ws 1 hw (by unfold Sz; decide) x hx).mono (by have : u * ws.length ≤ u * 8 := Nat.mul_le_mul_left _ hl; omega)
theorem u_spread {H : Hp} {Q : VK} {E : XK} {a : Addr} {ws : List Int} {f : Int} {n u : Nat} (ha : SqI K H a ws) (hl : ws.length ≤ 8) (hw : ∀ x ∈ ws, Sz n x) (hf : Sz u f) (hn : n ≤ 1000000) (hu : u ≤ 1000000)
    (h : ∀ z H', Same H H' → SqL K H' z ((sprd f 1 ws).map V.int) → (∀ x ∈ sprd f 1 ws, Sz (n + 1 + u * 8) x) → Q (.ref z) H') : sp_spread K [.ref a, .int f] H Q E := ⟨a, ws, f, n, u, rfl, ha, hl, hw, hf, hn, hu, h⟩
theorem at_mid {U R : List Int} {a : Int} : atI ((U ++ a :: R).map V.int) (U.length : Nat) = some (.int a) := by
  refine atI_nat ?_
  rw [List.getElem?_map, List.getElem?_append_right (Nat.le_refl _), Nat.sub_self]
  rfl
theorem at_next {U R : List Int} {a b : Int} : atI ((U ++ a :: b :: R).map V.int) ((U.length : Nat) + 1 : Int) = some (.int b) := by
  have := at_mid (U := U ++ [a]) (R := R) (a := b)
  rw [List.append_assoc, List.length_append, List.length_singleton] at this
  exact this
theorem ixN_mid {U R : List Int} {a : Int} : ixN ((U ++ a :: R).map V.int).length ((U.length : Nat) : Int) = some U.length := by
  unfold ixN
  rw [if_pos (by omega), if_pos (by rw [List.length_map, List.length_append, List.length_cons]; omega), Int.toNat_natCast]
theorem set_mid {U R : List Int} {a b : Int} : ((U ++ a :: R).map V.int).set U.length (.int b) = (U ++ b :: R).map V.int := by
  rw [List.map_append, List.map_append, List.set_append_right _ _ (by rw [List.length_map]; exact Nat.le_refl _), List.length_map, Nat.sub_self]
  rfl
def sp_moved (K : PySem.W.Frag) : Sp := fun vs H Q _ => ∃ (a : Addr) (ws : List Int) (y : Int) (n u : Nat), vs = [.ref a, .int y] ∧ SqL K H a (ws.map V.int) ∧ ws.length ≤ 8 ∧ (∀ x ∈ ws, Sz n x) ∧ Sz u y ∧ n ≤ 10000000 ∧ u ≤ 1000000 ∧
  ∀ z H', Same H H' → SqL K H' z ((mv y (ws.length - 1) ws).map V.int) → Q (.ref z) H'
theorem ok_moved {f : Addr} {fd : FuncData} (F : Df K mg "moved" s_moved ["weights", "by"] f fd) (z_list : mg "list" = none) (z_range : mg "range" = none) (z_len : mg "len" = none)   : Cal P w K mg base 1 "moved" ["weights", "by"] (sp_moved K) := by
  refine F.cal (F.fn.ok sc_moved (fun vs H Q E h => ?_) (fun cdv A outer s H vs Q E hr h => ?_))
  · obtain ⟨a, ws, y, _, _, rfl, _⟩ := h
    rfl
  obtain ⟨a, ws, y, n, u, rfl, ha, hl, hw, hy, hn, hu, k⟩ := h
  refine S.ex_out ⟨_, (S.pss_cons (S.ps_set (i := 2) sc_moved.nd rfl (Or.inl rfl) (S.pe_cTy call_list_of rfl z_list PyProof.Rows.boot_list (S.pa_cns (S.pv 0) S.pa_nil)))
      (S.pss_cons (S.ps_for PassesOwn.never rfl (S.pi_range1 rfl z_range (S.pa_cns (S.pe_op op_sub (S.pe_cB call_len_seq rfl z_len PySem.boot_len (S.pa_cns (S.pv 2) S.pa_nil)) S.pe_int) S.pa_nil)) (S.pg_name (i := 3) sc_moved.nd rfl (Or.inl rfl)) (S.pss_one (S.ps_for PassesOwn.never rfl (S.pi_down rfl z_range (S.pa_cns (S.pe_op op_sub (S.pe_cB call_len_seq rfl z_len PySem.boot_len (S.pa_cns (S.pv 2) S.pa_nil)) S.pe_int) (S.pa_cns (S.pe_op op_sub (S.pv 3) S.pe_int) (S.pa_cns (S.pe_un un_neg S.pe_int) S.pa_nil)))) (S.pg_name (i := 4) sc_moved.nd rfl (Or.inl rfl)) (S.pss_one (S.ps_asg (S.pe_op op_add (S.pe_ix ix_list (S.pv 2) (S.pv 4) (fun _ _ => rfl)) (S.pe_op op_mulM (S.pv 1) (S.pe_ix ix_list (S.pv 2) (S.pe_op op_add (S.pv 4) S.pe_int) (fun _ _ => rfl)))) (S.pg_sub (S.pv 2) (S.pv 4) set_list))))))
      (S.pss_one (S.ps_ret (S.pv 2))))), ?_⟩
  contradiction
  refine ⟨a, _, rfl, .inl ha, fun p0 hp0 => ?_⟩
  have s0 := Same.upd hp0 (.lst (ws.map V.int))
  try contradiction
  refine ⟨p0, _, rfl, .inl (.of upd_same), ?_⟩
  rw [List.length_map]
  refine ⟨by omega, by omega, ?_⟩
  refine fi_n (ws.length - 1) (fun i => .int (0 + (i : Nat))) (fun i σ H' => Same H H' ∧ ∃ (U T : List Int) (o1 o2 : Option V), σ = [some (.ref a), some (.int y), some (.ref p0), o1, o2] ∧ H' p0 = some (.lst ((U ++ T).map V.int)) ∧ U.length = i ∧ U.length + T.length = ws.length ∧ U ++ mv y (ws.length - 1 - i) T = mv y (ws.length - 1) ws ∧ (∀ x ∈ U ++ T, Sz (n + 8 * (u + 1) * i) x)) ⟨s0, [], ws, _, _, rfl, upd_same, rfl, by simp, by simp, fun x hx => (hw x hx).mono (by omega)⟩ ?_ ?_ ?_
  · intro i σ H' hp
    have e : ((ws.length : Int) - 1).toNat = ws.length - 1 := by omega
    rw [e]
    exact wkAt_range
  · rintro i σ H' hi ⟨s1, U, T, o1, o2, rfl, hp, hU, hUT, hmv, hz⟩
    simp only [z_seq, z_next, z_ifS, z_ret, z_drop, z_asg, z_gname, z_par, z_var0, z_varS, z_c, z_op, z_un, z_rI, z_rI0, z_rU, z_eqI, z_neI, z_eqB, z_neB, z_test, z_tB, z_exb, z_exi, z_ex2, z_exl1, z_exl2, z_not, z_and, z_or, z_andV, z_orV, z_notV, z_if, z_call, z_nil, z_cons, z_cb, z_tup, z_lst, z_chain, z_comp, z_rng1, z_rng2, z_ilist, z_itup, z_exr, z_kp1, z_kp2, z_for, z_sl, z_nopart, z_part, z_bm0, z_bm, z_cxK, z_noxK, z_rev, z_ien, z_irv, z_gsub, z_exlr, z_intB, z_raise, z_try, z_tryAs, z_down, z_exd, z_revL, z_iany, z_izip, z_dnew, z_cv, cpσ, List.getElem?_cons_zero, List.getElem?_cons_succ, Option.join_some, List.set_cons_zero, List.set_cons_succ, List.append_nil, decide_eq_true_eq, Bool.not_eq_true', decide_eq_false_iff_not, Bool.not_not, ite_not, Bool.false_eq_true, Bool.true_eq_false, if_false, if_true, if_pos, List.length_cons, List.length_nil, Nat.zero_add, Nat.reduceAdd, small1, small2, true_and, and_true, L2.start, List.map_cons, List.map_nil, Bool.not_true, Bool.not_false, Nat.reduceSub, List.replicate_succ, List.replicate_zero, List.cons_append, List.nil_append, Int.zero_add]
    refine ⟨p0, _, rfl, .inl (.of hp), ?_⟩
    try contradiction
    have eN : (((U ++ T).map V.int).length : Int) = (ws.length : Int) := by rw [List.length_map, List.length_append]; omega
    rw [eN]
    refine ⟨by omega, ?_⟩
    have h6 : (u + 1) * T.length ≤ 8 * (u + 1) := by rw [Nat.mul_comm 8]; exact Nat.mul_le_mul_left _ (by omega)
    have e6 : 8 * (u + 1) * (i + 1) = 8 * (u + 1) * i + 8 * (u + 1) := Nat.mul_succ _ _
    have e7 : 8 * (u + 1) * i ≤ 8 * (u + 1) * 8 := Nat.mul_le_mul_left _ (by omega)
    have zT : ∀ x ∈ T, Sz (n + 8 * (u + 1) * i) x := fun x hx => hz x (List.mem_append_right _ hx)
    refine fi_n (T.length - 1) (fun j => .int ((ws.length : Int) - 2 - (j : Nat))) (fun j σ H2 => Same H H2 ∧ ∃ (T0 R : List Int) (o2 : Option V), σ = [some (.ref a), some (.int y), some (.ref p0), some (.int (i : Nat)), o2] ∧ T = T0 ++ R ∧ T0.length = T.length - 1 - j ∧ H2 p0 = some (.lst ((U ++ (T0 ++ hs y R)).map V.int))) ?_ ?_ ?_ ?_
    · have hne : T ≠ [] := fun z => by rw [z] at hUT; simp at hUT; omega
      obtain ⟨ini, c, rfl⟩ : ∃ ini c, T = ini ++ [c] := ⟨T.dropLast, T.getLast hne, (List.dropLast_concat_getLast hne).symm⟩
      refine ⟨s1, ini, [c], _, rfl, rfl, by simp, ?_⟩
      rw [hp]
      simp [hs]
    · intro j σ H2 h2
      have e : ((ws.length : Int) - 2 - ((i : Int) - 1)).toNat = T.length - 1 := by omega
      rw [e]
      exact wkAt_down
    · rintro j σ H2 hj ⟨s2, T0, R, o2, rfl, hT, hT0, hp2⟩
      have hne : T0 ≠ [] := fun z => by rw [z] at hT0; simp at hT0; omega
      obtain ⟨T1, c, rfl⟩ : ∃ ini c, T0 = ini ++ [c] := ⟨T0.dropLast, T0.getLast hne, (List.dropLast_concat_getLast hne).symm⟩
      have hR : R ≠ [] := fun z => by
        have := congrArg List.length hT
        rw [z, List.append_nil] at this
        omega
      have hlT := congrArg List.length hT
      rw [List.length_append] at hlT
      rw [List.length_append, List.length_singleton] at hT0 hlT
      obtain ⟨g, gs, eg⟩ : ∃ g gs, hs y R = g :: gs := by
        cases e : hs y R with
        | nil =>
          have := hs_len y R
          rw [e] at this
          exact absurd (List.eq_nil_of_length_eq_zero this.symm) hR
        | cons g gs => exact ⟨g, gs, rfl⟩
      have eq1 : U ++ ((T1 ++ [c]) ++ hs y R) = (U ++ T1) ++ c :: g :: gs := by rw [eg]; simp
      rw [eq1] at hp2
      have pl : ((ws.length : Int) - 2 - (j : Nat)) = (((U ++ T1).length : Nat) : Int) := by rw [List.length_append]; omega
      have zg : Sz (n + 8 * (u + 1) * i + 8 * (u + 1)) g := (hs_sz hy R (fun x hx => zT x (by rw [hT]; exact List.mem_append_right _ hx)) g (by rw [eg]; simp)).mono (by have : (u + 1) * R.length ≤ (u + 1) * T.length := Nat.mul_le_mul_left _ (by omega); omega)
      simp only [z_seq, z_next, z_ifS, z_ret, z_drop, z_asg, z_gname, z_par, z_var0, z_varS, z_c, z_op, z_un, z_rI, z_rI0, z_rU, z_eqI, z_neI, z_eqB, z_neB, z_test, z_tB, z_exb, z_exi, z_ex2, z_exl1, z_exl2, z_not, z_and, z_or, z_andV, z_orV, z_notV, z_if, z_call, z_nil, z_cons, z_cb, z_tup, z_lst, z_chain, z_comp, z_rng1, z_rng2, z_ilist, z_itup, z_exr, z_kp1, z_kp2, z_for, z_sl, z_nopart, z_part, z_bm0, z_bm, z_cxK, z_noxK, z_rev, z_ien, z_irv, z_gsub, z_exlr, z_intB, z_raise, z_try, z_tryAs, z_down, z_exd, z_revL, z_iany, z_izip, z_dnew, z_cv, cpσ, List.getElem?_cons_zero, List.getElem?_cons_succ, Option.join_some, List.set_cons_zero, List.set_cons_succ, List.append_nil, decide_eq_true_eq, Bool.not_eq_true', decide_eq_false_iff_not, Bool.not_not, ite_not, Bool.false_eq_true, Bool.true_eq_false, if_false, if_true, if_pos, List.length_cons, List.length_nil, Nat.zero_add, Nat.reduceAdd, small1, small2, true_and, and_true, L2.start, List.map_cons, List.map_nil, Bool.not_true, Bool.not_false, Nat.reduceSub, List.replicate_succ, List.replicate_zero, List.cons_append, List.nil_append, pl]
      refine z_ixL (.of hp2) at_mid ?_
      try contradiction
      refine z_ixL (.of hp2) at_next ?_
      try contradiction
      refine ⟨hy.mulOk zg (by omega), p0, _, _, (U ++ T1).length, rfl, rfl, hp2, ?_, s2.put hp0, T1, c :: R, _, rfl, by rw [hT]; simp, by omega, ?_⟩
      · exact ixN_mid
      · rw [upd_same, hs, eg, List.headD_cons, ← List.append_assoc, set_mid]
    · rintro σ H2 ⟨s2, T0, R, o2, rfl, hT, hT0, hp2⟩
      have e0 : T0 = [] := List.eq_nil_of_length_eq_zero (by omega)
      subst e0
      rw [List.nil_append] at hT hp2
      subst hT
      cases T with
      | nil => simp at hUT; omega
      | cons c r =>
        rw [List.length_cons] at hUT h6
        have hk : ws.length - 1 - i = (ws.length - 1 - (i + 1)) + 1 := by omega
        refine ⟨s2, U ++ [c + y * (hs y r).headD 0], hs y r, _, _, rfl, ?_, by rw [List.length_append, hU]; rfl, by rw [List.length_append, List.length_singleton, hs_len]; omega, ?_, ?_⟩
        · rw [hp2, hs, List.append_assoc]
          rfl
        · rw [← hmv, hk, mv, List.append_assoc]
          rfl
        · intro x hx
          rw [List.append_assoc] at hx
          rcases List.mem_append.mp hx with hx | hx
          · exact (hz x (List.mem_append_left _ hx)).mono (by omega)
          · have := hs_sz hy (c :: r) zT x (by rw [hs]; exact hx)
            rw [List.length_cons] at this
            exact this.mono (by omega)
  · rintro σ H' ⟨s1, U, T, o1, o2, rfl, hp, hU, hUT, hmv, hz⟩
    contradiction
    refine k p0 _ s1 (.of ?_)
    rw [hp, ← hmv, Nat.sub_self]
    rfl
theorem u_moved {H : Hp} {Q : VK} {E : XK} {a : Addr} {ws : List Int} {y : Int} {n u : Nat} (ha : SqL K H a (ws.map V.int)) (hl : ws.length ≤ 8) (hw : ∀ x ∈ ws, Sz n x) (hy : Sz u y) (hn : n ≤ 10000000) (hu : u ≤ 1000000)
    (h : ∀ z H', Same H H' → SqL K H' z ((mv y (ws.length - 1) ws).map V.int) → (∀ x ∈ mv y (ws.length - 1) ws, Sz (n + 66 * (u + 1)) x) → Q (.ref z) H') : sp_moved K [.ref a, .int y] H Q E :=
  ⟨a, ws, y, n, u, rfl, ha, hl, hw, hy, hn, hu, fun z H' s i => h z H' s i fun x hx => (mv_sz hy _ n ws hl hw x hx).mono (by have : 8 * (u + 1) * (ws.length - 1) ≤ 8 * (u + 1) * 8 := Nat.mul_le_mul_left _ (by omega); omega)⟩
theorem mem_rev {p : List Int} {n : Nat} (h : ∀ x ∈ p, Sz n x) : ∀ x ∈ p.reverse, Sz n x := fun x hx => h x (List.mem_reverse.mp hx)
def sp_seen_at (K : PySem.W.Frag) : Sp := fun vs H Q _ => ∃ (a : Addr) (p : List Int) (t b : Int), vs = [.ref a, .int t, .int b] ∧ SqT K H a (p.map V.int) ∧ p.length ≤ 8 ∧ (∀ x ∈ p, Sz 50 x) ∧ Sz 1000 t ∧ Sz 1000 b ∧
  ∀ z H', Same H H' → SqL K H' z ((seen p t b).map V.int) → (∀ x ∈ seen p t b, Sz 100000 x) → Q (.ref z) H'
theorem ok_seen_at {f : Addr} {fd : FuncData} (F : Df K mg "seen_at" s_seen_at ["p", "top", "bottom"] f fd)   (c_spread : Cal P w K mg base 1 "spread" ["weights", "factor"] (sp_spread K)) (c_moved : Cal P w K mg base 1 "moved" ["weights", "by"] (sp_moved K)) : Cal P w K mg base 2 "seen_at" ["p", "top", "bottom"] (sp_seen_at K) := by
  refine F.cal (F.fn.ok sc_seen_at (fun vs H Q E h => ?_) (fun cdv A outer s H vs Q E hr h => ?_))
  · obtain ⟨a, p, t, b, rfl, _⟩ := h
    rfl
  obtain ⟨a, p, t, b, rfl, ha, hl, hw, ht, hb, k⟩ := h
  refine S.ex_out ⟨_, (S.pss_cons (S.ps_set (i := 3) sc_seen_at.nd rfl (Or.inl rfl) (S.pe_cD c_spread (hr.mono (by decide)) (S.pa_cns (S.pe_rev (S.pv 0) (S.pe_un un_neg S.pe_int)) (S.pa_cns (S.pv 2) S.pa_nil))))
      (S.pss_one (S.ps_ret (S.pe_cD c_moved (hr.mono (by decide)) (S.pa_cns (S.pe_revL (S.pv 3) (S.pe_un un_neg S.pe_int)) (S.pa_cns (S.pv 1) S.pa_nil)))))), ?_⟩
  contradiction
  refine ⟨a, _, rfl, ha, ?_⟩
  rw [← List.map_reverse]
  (intro q1 hq1; generalize eq1 : upd _ q1 _ = Gq1; obtain ⟨sq1, gq1⟩ := nw hq1 eq1; clear eq1 hq1)
  refine u_spread (.inr (SqT.of gq1)) (by rw [List.length_reverse]; exact hl) (mem_rev hw) hb (by decide) (by decide) fun z H2 s2 hz wz => ?_
  try contradiction
  refine ⟨z, _, rfl, hz, ?_⟩
  rw [← List.map_reverse]
  (intro q2 hq2; generalize eq2 : upd _ q2 _ = Gq2; obtain ⟨sq2, gq2⟩ := nw hq2 eq2; clear eq2 hq2)
  refine u_moved (.of gq2) (by rw [List.length_reverse, sprd_len, List.length_reverse]; exact hl) (mem_rev wz) ht (by decide) (by decide) fun z3 H3 s3 hz3 wz3 => ?_
  have e : mv t ((sprd b 1 p.reverse).reverse.length - 1) (sprd b 1 p.reverse).reverse = seen p t b := by
    rw [seen, List.length_reverse, sprd_len, List.length_reverse]
  rw [e] at hz3 wz3
  exact k z3 H3 (((sq1.trans s2).trans sq2).trans s3) hz3 fun x hx => (wz3 x hx).mono (by decide)
theorem u_seen {H H1 : Hp} {Q : VK} {E : XK} {a : Addr} {p : List Int} {t b : Int} (ha : SqT K H1 a (p.map V.int)) (s1 : Same H1 H) (hl : p.length ≤ 8) (hw : ∀ x ∈ p, Sz 50 x) (ht : Sz 1000 t) (hb : Sz 1000 b)
    (h : ∀ z H', Same H H' → SqL K H' z ((seen p t b).map V.int) → (∀ x ∈ seen p t b, Sz 100000 x) → Q (.ref z) H') : sp_seen_at K [.ref a, .int t, .int b] H Q E := ⟨a, p, t, b, rfl, s1.tup ha, hl, hw, ht, hb, h⟩
def Sn (K : PySem.W.Frag) (H : Hp) (z : V) (p : List Int) (n : Nat) : Prop := (∃ a, z = .ref a ∧ SqT K H a (p.map V.int)) ∧ Tr p ∧ p.length ≤ n ∧ ∀ x ∈ p, Sz 900000 x
theorem Sn.mono {H H' : Hp} {z : V} {p : List Int} {n : Nat} (h : Sn K H z p n) (s : Same H H') : Sn K H' z p n := by
  obtain ⟨⟨a, e, ha⟩, r⟩ := h
  exact ⟨⟨a, e, s.tup ha⟩, r⟩
theorem mem_trim {p : List Int} {n : Nat} (h : ∀ x ∈ p, Sz n x) : ∀ x ∈ trim p, Sz n x := fun x hx => by
  obtain ⟨i, hi, e⟩ := List.getElem_of_mem hx
  have z := co_trim p i
  rw [co_get hi, e] at z
  rw [z]
  by_cases hi' : i < p.length
  · rw [co_get hi']; exact h _ (List.getElem_mem hi')
  · rw [co_big (by omega)]; exact Sz00
theorem sn_of {H : Hp} {a : Addr} {p : List Int} {n : Nat} (h : SqT K H a ((trim p).map V.int)) (hl : p.length = n) (hz : ∀ x ∈ p, Sz 900000 x) : Sn K H (.ref a) (trim p) n :=
  ⟨⟨a, rfl, h⟩, trim_tr p, by rw [← hl]; exact trim_len p, mem_trim hz⟩
def Fq (K : PySem.W.Frag) (H : Hp) (v : V) (t b : Int) : Prop := (∃ a, v = .ref a ∧ SqT K H a [.int t, .int b]) ∧ Sz 150 t ∧ Sz 150 b ∧ 0 < b
theorem Fq.mono {H H' : Hp} {v : V} {t b : Int} (h : Fq K H v t b) (s : Same H H') : Fq K H' v t b := by
  obtain ⟨⟨a, e, ha⟩, r⟩ := h
  exact ⟨⟨a, e, s.tup ha⟩, r⟩
theorem at0 {α : Type} (x : α) (r : List α) : atI (x :: r) 0 = some x := atI_nat (j := 0) rfl
theorem at1 {α : Type} (x y : α) (r : List α) : atI (x :: y :: r) 1 = some y := atI_nat (j := 1) rfl
theorem u_q0 {H H1 : Hp} {Q : VK} {v : V} {t b : Int} (h : Fq K H1 v t b) (s : Same H1 H) (q : Q (.int t) H) : rIxT K v (.int 0) H Q := by
  obtain ⟨⟨a, rfl, ha⟩, _⟩ := h.mono s
  exact z_ixT ha (at0 _ _) q
theorem u_q1 {H H1 : Hp} {Q : VK} {v : V} {t b : Int} (h : Fq K H1 v t b) (s : Same H1 H) (q : Q (.int b) H) : rIxT K v (.int 1) H Q := by
  obtain ⟨⟨a, rfl, ha⟩, _⟩ := h.mono s
  exact z_ixT ha (at1 _ _ _) q
def spSide (g : Int → Int) (K : PySem.W.Frag) : Sp := fun vs H Q _ => ∃ (a : Addr) (v : V) (p : List Int) (t b : Int), vs = [.ref a, v] ∧ SqT K H a (p.map V.int) ∧ p.length ≤ 8 ∧ (∀ x ∈ p, Sz 50 x) ∧ Fq K H v t b ∧
  ∀ z H', Same H H' → Sn K H' z (trim (sprd (g b) 1 (seen p t b))) p.length → Q z H'
def sp_above (K : PySem.W.Frag) : Sp := spSide (fun b => b) K
def sp_below (K : PySem.W.Frag) : Sp := spSide (fun b => -b) K
theorem ok_above {f : Addr} {fd : FuncData} (F : Df K mg "above" s_above ["p", "c"] f fd)   (c_poly : Cal P w K mg base 1 "poly" ["weights"] (sp_poly K)) (c_spread : Cal P w K mg base 1 "spread" ["weights", "factor"] (sp_spread K)) (c_seen_at : Cal P w K mg base 2 "seen_at" ["p", "top", "bottom"] (sp_seen_at K)) : Cal P w K mg base 3 "above" ["p", "c"] (sp_above K) := by
  refine F.cal (F.fn.ok sc_above (fun vs H Q E h => ?_) (fun cdv A outer s H vs Q E hr h => ?_))
  · obtain ⟨a, v, p, t, b, rfl, _⟩ := h
    rfl
  obtain ⟨a, v, p, t, b, rfl, ha, hl, hw, hf, k⟩ := h
  refine S.ex_out ⟨_, (S.pss_one (S.ps_ret (S.pe_cD c_poly (hr.mono (by decide)) (S.pa_cns (S.pe_cD c_spread (hr.mono (by decide)) (S.pa_cns (S.pe_cD c_seen_at (hr.mono (by decide)) (S.pa_cns (S.pv 0) (S.pa_cns (S.pe_ix ix_tup (S.pv 1) S.pe_int (fun _ _ => rfl)) (S.pa_cns (S.pe_ix ix_tup (S.pv 1) S.pe_int (fun _ _ => rfl)) S.pa_nil)))) (S.pa_cns (S.pe_ix ix_tup (S.pv 1) S.pe_int (fun _ _ => rfl)) S.pa_nil))) S.pa_nil)))), ?_⟩
  contradiction
  refine u_q0 hf (Same.refl _) ?_
  try contradiction
  refine u_q1 hf (Same.refl _) ?_
  try contradiction
  refine u_seen ha (Same.refl _) hl hw (hf.2.1.mono (by decide)) (hf.2.2.1.mono (by decide)) fun z1 H1 s1 h1 w1 => ?_
  try contradiction
  refine u_q1 hf s1 ?_
  try contradiction
  refine u_spread (.inl h1) (by rw [seen_len]; exact hl) w1 hf.2.2.1 (by decide) (by decide) fun z2 H2 s2 h2 w2 => ?_
  try contradiction
  refine ⟨z2, _, rfl, .inl h2, by rw [sprd_len, seen_len]; omega, fun z H3 s3 h3 => ?_⟩
  exact k _ _ ((s1.trans s2).trans s3) (sn_of h3 (by rw [sprd_len, seen_len]) fun x hx => (w2 x hx).mono (by decide))
theorem ok_below {f : Addr} {fd : FuncData} (F : Df K mg "below" s_below ["p", "c"] f fd)   (c_poly : Cal P w K mg base 1 "poly" ["weights"] (sp_poly K)) (c_spread : Cal P w K mg base 1 "spread" ["weights", "factor"] (sp_spread K)) (c_seen_at : Cal P w K mg base 2 "seen_at" ["p", "top", "bottom"] (sp_seen_at K)) : Cal P w K mg base 3 "below" ["p", "c"] (sp_below K) := by
  refine F.cal (F.fn.ok sc_below (fun vs H Q E h => ?_) (fun cdv A outer s H vs Q E hr h => ?_))
  · obtain ⟨a, v, p, t, b, rfl, _⟩ := h
    rfl
  obtain ⟨a, v, p, t, b, rfl, ha, hl, hw, hf, k⟩ := h
  refine S.ex_out ⟨_, (S.pss_one (S.ps_ret (S.pe_cD c_poly (hr.mono (by decide)) (S.pa_cns (S.pe_cD c_spread (hr.mono (by decide)) (S.pa_cns (S.pe_cD c_seen_at (hr.mono (by decide)) (S.pa_cns (S.pv 0) (S.pa_cns (S.pe_ix ix_tup (S.pv 1) S.pe_int (fun _ _ => rfl)) (S.pa_cns (S.pe_ix ix_tup (S.pv 1) S.pe_int (fun _ _ => rfl)) S.pa_nil)))) (S.pa_cns (S.pe_un un_neg (S.pe_ix ix_tup (S.pv 1) S.pe_int (fun _ _ => rfl))) S.pa_nil))) S.pa_nil)))), ?_⟩
  contradiction
  refine u_q0 hf (Same.refl _) ?_
  try contradiction
  refine u_q1 hf (Same.refl _) ?_
  try contradiction
  refine u_seen ha (Same.refl _) hl hw (hf.2.1.mono (by decide)) (hf.2.2.1.mono (by decide)) fun z1 H1 s1 h1 w1 => ?_
  try contradiction
  refine u_q1 hf s1 ?_
  try contradiction
  refine u_spread (.inl h1) (by rw [seen_len]; exact hl) w1 hf.2.2.1.neg (by decide) (by decide) fun z2 H2 s2 h2 w2 => ?_
  try contradiction
  refine ⟨z2, _, rfl, .inl h2, by rw [sprd_len, seen_len]; omega, fun z H3 s3 h3 => ?_⟩
  exact k _ _ ((s1.trans s2).trans s3) (sn_of h3 (by rw [sprd_len, seen_len]) fun x hx => (w2 x hx).mono (by decide))
--SPLIT
theorem lcm_pos {a b : Int} (ha : 0 < a) (hb : 0 < b) : 0 < lcmI a b := by
  unfold lcmI
  have := Nat.lcm_pos (show 0 < a.natAbs by omega) (show 0 < b.natAbs by omega)
  omega
theorem lcm_sz {a b : Int} {m n : Nat} (ha : Sz m a) (hb : Sz n b) (pa : 0 < a) (pb : 0 < b) : Sz (m + n) (lcmI a b) := (ha.mul hb).of_abs (by
  unfold lcmI
  rw [Int.natAbs_natCast, Int.natAbs_mul]
  exact Nat.le_of_dvd (Nat.mul_pos (by omega) (by omega)) (Nat.lcm_dvd_mul _ _))
theorem fd_sz {a b : Int} {n : Nat} (ha : Sz n a) (pa : 0 ≤ a) (pb : 0 < b) : Sz n (a.fdiv b) := ha.of_abs (by
  rw [Int.fdiv_eq_ediv_of_nonneg _ (Int.le_of_lt pb)]
  have h0 := Int.ediv_nonneg pa (Int.le_of_lt pb)
  have h1 := Int.ediv_le_self b pa
  omega)
def fst (t b B : Int) : Int := t * B.fdiv b
def sp_between (K : PySem.W.Frag) : Sp := fun vs H Q _ => ∃ (a : Addr) (v u : V) (p : List Int) (t b t' b' : Int), vs = [.ref a, v, u] ∧ SqT K H a (p.map V.int) ∧ p.length ≤ 8 ∧ (∀ x ∈ p, Sz 50 x) ∧ Fq K H v t b ∧ Fq K H u t' b' ∧
  ∀ z H', Same H H' → Sn K H' z (betw p (fst t b (lcmI b b')) (fst t' b' (lcmI b b')) (lcmI b b')) p.length → Q z H'
theorem ok_between {f : Addr} {fd : FuncData} (F : Df K mg "between" s_between ["p", "lo", "hi"] f fd)   (c_common : Cal P w K mg base 2 "common" ["one", "other"] (sp_common K)) (c_spread : Cal P w K mg base 1 "spread" ["weights", "factor"] (sp_spread K)) (c_poly : Cal P w K mg base 1 "poly" ["weights"] (sp_poly K)) (c_seen_at : Cal P w K mg base 2 "seen_at" ["p", "top", "bottom"] (sp_seen_at K)) (c_moved : Cal P w K mg base 1 "moved" ["weights", "by"] (sp_moved K)) : Cal P w K mg base 3 "between" ["p", "lo", "hi"] (sp_between K) := by
  refine F.cal (F.fn.ok sc_between (fun vs H Q E h => ?_) (fun cdv A outer s H vs Q E hr h => ?_))
  · obtain ⟨a, v, u, p, t, b, t', b', rfl, _⟩ := h
    rfl
  obtain ⟨a, v, u, p, t, b, t', b', rfl, ha, hl, hw, hf, hg, k⟩ := h
  refine S.ex_out ⟨_, (S.pss_cons (S.ps_set (i := 3) sc_between.nd rfl (Or.inl rfl) (S.pe_cD c_common (hr.mono (by decide)) (S.pa_cns (S.pe_ix ix_tup (S.pv 1) S.pe_int (fun _ _ => rfl)) (S.pa_cns (S.pe_ix ix_tup (S.pv 2) S.pe_int (fun _ _ => rfl)) S.pa_nil))))
      (S.pss_cons (S.ps_set (i := 4) sc_between.nd rfl (Or.inl rfl) (S.pe_op op_mulM (S.pe_ix ix_tup (S.pv 1) S.pe_int (fun _ _ => rfl)) (S.pe_op op_fdivB (S.pv 3) (S.pe_ix ix_tup (S.pv 1) S.pe_int (fun _ _ => rfl)))))
      (S.pss_cons (S.ps_set (i := 5) sc_between.nd rfl (Or.inl rfl) (S.pe_op op_mulM (S.pe_ix ix_tup (S.pv 2) S.pe_int (fun _ _ => rfl)) (S.pe_op op_fdivB (S.pv 3) (S.pe_ix ix_tup (S.pv 2) S.pe_int (fun _ _ => rfl)))))
      (S.pss_cons (S.ps_set (i := 6) sc_between.nd rfl (Or.inl rfl) (S.pe_cD c_spread (hr.mono (by decide)) (S.pa_cns (S.pe_cD c_seen_at (hr.mono (by decide)) (S.pa_cns (S.pv 0) (S.pa_cns (S.pv 4) (S.pa_cns (S.pv 3) S.pa_nil)))) (S.pa_cns (S.pe_op op_sub (S.pv 5) (S.pv 4)) S.pa_nil))))
      (S.pss_one (S.ps_ret (S.pe_cD c_poly (hr.mono (by decide)) (S.pa_cns (S.pe_revL (S.pe_cD c_moved (hr.mono (by decide)) (S.pa_cns (S.pe_revL (S.pv 6) (S.pe_un un_neg S.pe_int)) (S.pa_cns S.pe_int S.pa_nil))) (S.pe_un un_neg S.pe_int)) S.pa_nil)))))))), ?_⟩
  contradiction
  refine u_q1 hf (Same.refl _) ?_
  try contradiction
  refine u_q1 hg (Same.refl _) ?_
  try contradiction
  refine ⟨b, b', rfl, hf.2.2.1.mono (by decide), hg.2.2.1.mono (by decide), ?_⟩
  have pB := lcm_pos hf.2.2.2 hg.2.2.2
  have zB : Sz 300 (lcmI b b') := lcm_sz hf.2.2.1 hg.2.2.1 hf.2.2.2 hg.2.2.2
  generalize lcmI b b' = B at *
  have z1 : Sz 300 (B.fdiv b) := fd_sz zB (Int.le_of_lt pB) hf.2.2.2
  have z2 : Sz 300 (B.fdiv b') := fd_sz zB (Int.le_of_lt pB) hg.2.2.2
  have zf : Sz 450 (fst t b B) := hf.2.1.mul z1
  have zl : Sz 450 (fst t' b' B) := hg.2.1.mul z2
  have pb := hf.2.2.2
  have pb' := hg.2.2.2
  try contradiction
  refine u_q0 hf (Same.refl _) ?_
  try contradiction
  refine u_q1 hf (Same.refl _) ?_
  try contradiction
  refine ⟨⟨by omega, hf.2.2.1.log2 (by omega) (by decide)⟩, hf.2.1.mulOk z1 (by decide), u_q0 hg (Same.refl _) ?_⟩
  try contradiction
  refine u_q1 hg (Same.refl _) ?_
  try contradiction
  refine ⟨⟨by omega, hg.2.2.1.log2 (by omega) (by decide)⟩, hg.2.1.mulOk z2 (by decide), ?_⟩
  refine u_seen ha (Same.refl _) hl hw (show Sz 1000 (fst t b B) from zf.mono (by decide)) (zB.mono (by decide)) fun z3 H1 s1 h1 w1 => ?_
  try contradiction
  refine u_spread (.inl h1) (by rw [seen_len]; exact hl) w1 (show Sz 451 (fst t' b' B - fst t b B) from (zl.sub zf)) (by decide) (by decide) fun z4 H2 s2 h2 w2 => ?_
  try contradiction
  refine ⟨z4, _, rfl, h2, ?_⟩
  rw [← List.map_reverse]
  (intro q1 hq1; generalize eq1 : upd _ q1 _ = Gq1; obtain ⟨sq1, gq1⟩ := nw hq1 eq1; clear eq1 hq1)
  refine u_moved (.of gq1) (by rw [List.length_reverse, sprd_len, seen_len]; exact hl) (mem_rev w2) (show Sz 1 (1 : Int) by unfold Sz; decide) (by decide) (by decide) fun z5 H3 s3 h3 w3 => ?_
  try contradiction
  refine ⟨z5, _, rfl, h3, ?_⟩
  rw [← List.map_reverse]
  (intro q2 hq2; generalize eq2 : upd _ q2 _ = Gq2; obtain ⟨sq2, gq2⟩ := nw hq2 eq2; clear eq2 hq2)
  refine ⟨q2, _, rfl, .inl (.of gq2), by rw [List.length_reverse, mv_len, List.length_reverse, sprd_len, seen_len]; omega, fun z H4 s4 h4 => ?_⟩
  have hS := sn_of h4 (n := p.length) (by rw [List.length_reverse, mv_len, List.length_reverse, sprd_len, seen_len]) fun x hx => (mem_rev w3 x hx).mono (by decide)
  rw [List.length_reverse, sprd_len, seen_len] at hS
  exact k _ _ ((((s1.trans s2).trans sq1).trans s3).trans (sq2.trans s4)) hS
theorem igcd_step (x y : Int) : Int.gcd y (x % y) = Int.gcd x y := by
  have e : x % y + y * (x / y) = x := Int.emod_add_mul_ediv x y
  refine Nat.dvd_antisymm ?_ ?_
  · have h1 : ((Int.gcd y (x % y) : Nat) : Int) ∣ y := Int.gcd_dvd_left ..
    have h2 : ((Int.gcd y (x % y) : Nat) : Int) ∣ x % y := Int.gcd_dvd_right ..
    have h3 : ((Int.gcd y (x % y) : Nat) : Int) ∣ x := by
      have := Int.dvd_add h2 (Int.dvd_trans h1 (Int.dvd_mul_right y (x / y)))
      rwa [e] at this
    exact Int.natCast_dvd_natCast.mp (Int.dvd_coe_gcd h3 h1)
  · have h1 : ((Int.gcd x y : Nat) : Int) ∣ x := Int.gcd_dvd_left ..
    have h2 : ((Int.gcd x y : Nat) : Int) ∣ y := Int.gcd_dvd_right ..
    have h3 : ((Int.gcd x y : Nat) : Int) ∣ x % y := by
      have : x % y = x - y * (x / y) := by omega
      rw [this]
      exact Int.dvd_sub h1 (Int.dvd_trans h2 (Int.dvd_mul_right y (x / y)))
    exact Int.natCast_dvd_natCast.mp (Int.dvd_coe_gcd h2 h3)
def sp_q_gcd (_ : PySem.W.Frag) : Sp := fun vs H Q _ => ∃ a b : Int, vs = [.int a, .int b] ∧ 0 ≤ b ∧ Q (.int (Int.gcd a b : Nat)) H
theorem ok_q_gcd {f : Addr} {fd : FuncData} (F : Df K mg "_law_gcd" s_q_gcd ["_law_one", "_law_other"] f fd) (z_abs : mg "abs" = none)   : Cal P w K mg base 1 "_law_gcd" ["_law_one", "_law_other"] (sp_q_gcd K) := by
  refine F.cal (F.fn.ok sc_q_gcd (fun vs H Q E h => ?_) (fun cdv A outer s H vs Q E hr h => ?_))
  · obtain ⟨a, b, rfl, _⟩ := h
    rfl
  obtain ⟨a, b, rfl, hb, q⟩ := h
  refine S.ex_out ⟨_, (S.pss_cons (S.ps_while PassesOwn.never (S.pt_cmpR op_ne (S.pv 1) S.pe_int (nomark _)) (S.pss_one (S.ps_par (i := 0) (j := 1) rfl sc_q_gcd.nd rfl rfl (by decide) rfl rfl (S.pa_cns (S.pv 1) (S.pa_cns (S.pe_op op_mod (S.pv 0) (S.pv 1)) S.pa_nil)) rfl)))
      (S.pss_one (S.ps_ret (S.pe_cB call_abs rfl z_abs PyProof.Rows.boot_abs (S.pa_cns (S.pv 0) S.pa_nil))))), ?_⟩
  contradiction
  refine while_go (fun σ H' => H' = H ∧ ∃ x y : Int, σ = [some (.int x), some (.int y)] ∧ 0 ≤ y ∧ Int.gcd x y = Int.gcd a b) (fun σ _ => match σ with | [_, some (.int y)] => y.toNat | _ => 0) ⟨rfl, a, b, rfl, hb, rfl⟩ ?_
  rintro σ H' ⟨rfl, x, y, rfl, hy, e⟩
  contradiction
  by_cases h0 : y = 0
  · rw [if_pos h0]
    subst h0
    rw [Int.gcd_zero_right] at e
    simp only [z_seq, z_next, z_ifS, z_ret, z_drop, z_asg, z_gname, z_par, z_var0, z_varS, z_c, z_op, z_un, z_rI, z_rI0, z_rU, z_eqI, z_neI, z_eqB, z_neB, z_test, z_tB, z_exb, z_exi, z_ex2, z_exl1, z_exl2, z_not, z_and, z_or, z_andV, z_orV, z_notV, z_if, z_call, z_nil, z_cons, z_cb, z_tup, z_lst, z_chain, z_comp, z_rng1, z_rng2, z_ilist, z_itup, z_exr, z_kp1, z_kp2, z_for, z_sl, z_nopart, z_part, z_bm0, z_bm, z_cxK, z_noxK, z_rev, z_ien, z_irv, z_gsub, z_exlr, z_intB, z_raise, z_try, z_tryAs, z_down, z_exd, z_revL, z_iany, z_izip, z_dnew, z_cv, cpσ, List.getElem?_cons_zero, List.getElem?_cons_succ, Option.join_some, List.set_cons_zero, List.set_cons_succ, List.append_nil, decide_eq_true_eq, Bool.not_eq_true', decide_eq_false_iff_not, Bool.not_not, ite_not, Bool.false_eq_true, Bool.true_eq_false, if_false, if_true, if_pos, List.length_cons, List.length_nil, Nat.zero_add, Nat.reduceAdd, small1, small2, true_and, and_true, L2.start, List.map_cons, List.map_nil, Bool.not_true, Bool.not_false, Nat.reduceSub, List.replicate_succ, List.replicate_zero, List.cons_append, List.nil_append, abs_eq]
    rw [e]
    exact q
  · rw [if_neg h0]
    refine wb_of ?_
    contradiction
    have m0 := Int.emod_nonneg x h0
    have m1 := Int.emod_lt_of_pos x (show 0 < y by omega)
    exact ⟨by omega, ⟨y, x % y, rfl, m0, by rw [igcd_step]; exact e⟩, by show (x % y).toNat < y.toNat; omega⟩
def sp_changes (K : PySem.W.Frag) : Sp := fun vs H Q _ => ∃ (a : Addr) (p : List Int), vs = [.ref a] ∧ SqT K H a (p.map V.int) ∧ Q (.int (chg p : Nat)) H
theorem sgn_iff (a w : Int) : (a * w < 0) = ((w < 0 ∧ 0 < a) ∨ (0 < w ∧ a < 0)) := by
  refine propext ⟨fun h => ?_, fun h => ?_⟩
  · rcases Int.lt_trichotomy w 0 with q | q | q
    · rcases Int.lt_trichotomy a 0 with r | r | r
      · exact absurd (Int.mul_pos_of_neg_of_neg r q) (by omega)
      · rw [r, Int.zero_mul] at h; omega
      · exact .inl ⟨q, r⟩
    · rw [q, Int.mul_zero] at h; omega
    · rcases Int.lt_trichotomy a 0 with r | r | r
      · exact .inr ⟨q, r⟩
      · rw [r, Int.zero_mul] at h; omega
      · exact absurd (Int.mul_pos r q) (by omega)
  · rcases h with ⟨q, r⟩ | ⟨q, r⟩
    · exact Int.mul_neg_of_pos_of_neg r q
    · exact Int.mul_neg_of_neg_of_pos r q
theorem ok_changes {f : Addr} {fd : FuncData} (F : Df K mg "changes" s_changes ["p"] f fd)    : Cal P w K mg base 1 "changes" ["p"] (sp_changes K) := by
  refine F.cal (F.fn.ok sc_changes (fun vs H Q E h => ?_) (fun cdv A outer s H vs Q E hr h => ?_))
  · obtain ⟨a, p, rfl, _⟩ := h
    rfl
  obtain ⟨a, p, rfl, ha, k⟩ := h
  refine S.ex_out ⟨_, (S.pss_cons (S.ps_set (i := 1) sc_changes.nd rfl (Or.inl rfl) S.pe_int)
      (S.pss_cons (S.ps_set (i := 2) sc_changes.nd rfl (Or.inl rfl) S.pe_int)
      (S.pss_cons (S.ps_for PassesOwn.never rfl (S.pi_tup (S.pv 0)) (S.pg_name (i := 3) sc_changes.nd rfl (Or.inl rfl)) (S.pss_cons (S.ps_if (S.PW_pt (S.pw_or (S.PW_pt (S.pw_and (S.pt_cmpR op_lt (S.pv 3) S.pe_int (nomark _)) (S.pw_and1 (S.pt_cmpR op_gt (S.pv 2) S.pe_int (nomark _))))) (S.pw_or1 (S.PW_pt (S.pw_and (S.pt_cmpR op_gt (S.pv 3) S.pe_int (nomark _)) (S.pw_and1 (S.pt_cmpR op_lt (S.pv 2) S.pe_int (nomark _)))))))) (S.pss_one (S.ps_set (i := 1) sc_changes.nd rfl (Or.inl rfl) (S.pe_op op_add (S.pv 1) S.pe_int))) S.pss_nil)
      (S.pss_one (S.ps_if (S.pt_cmpR op_ne (S.pv 3) S.pe_int (nomark _)) (S.pss_one (S.ps_set (i := 2) sc_changes.nd rfl (Or.inl rfl) (S.pv 3))) S.pss_nil))))
      (S.pss_one (S.ps_ret (S.pv 1)))))), ?_⟩
  contradiction
  refine ⟨⟨_, ha⟩, fi_by (es := p) (inj := V.int) (fun pre σ H' => H' = H ∧ ∃ o : Option V, σ = [some (.ref a), some (.int (chg pre : Nat)), some (.int (lnz pre)), o]) ⟨rfl, _, rfl⟩ ?_ ?_ ?_⟩
  · rintro pre σ H' ⟨rfl, _⟩
    exact wkAt_tup ha
  · rintro pre e post σ H' he ⟨rfl, o, rfl⟩
    contradiction
    rw [chg_snoc, lnz_snoc]
    simp only [sgn_iff]
    by_cases h1 : e < 0 <;> by_cases h2 : 0 < lnz pre <;> by_cases h3 : 0 < e <;> by_cases h4 : lnz pre < 0 <;> by_cases h5 : e = 0 <;> first | omega | (simp [h1, h2, h3, h4, h5]; done) | (simp [h1, h2, h3, h4, h5]; omega)
  · rintro σ H' ⟨rfl, o, rfl⟩
    contradiction
    exact k
--SPLIT
theorem bitsS {n : Nat} {a : Int} (h : Sz n a) (l : n ≤ 64) : Builtin.Int.intBits a ≤ 64 := Nat.le_trans (PySem.intBits_le_iff.mpr h) l
def sp_q_stirred (_ : PySem.W.Frag) : Sp := fun vs H Q _ => ∃ c k : Int, vs = [.int c, .int k] ∧ 0 ≤ k ∧ k < 1000 ∧ ∀ n : Int, Q (.int n) H
theorem ok_q_stirred {f : Addr} {fd : FuncData} (F : Df K mg "_law_stirred" s_q_stirred ["_law_cell", "_law_k"] f fd)    : Cal P w K mg base 1 "_law_stirred" ["_law_cell", "_law_k"] (sp_q_stirred K) := by
  refine F.cal (F.fn.ok sc_q_stirred (fun vs H Q E h => ?_) (fun cdv A outer s H vs Q E hr h => ?_))
  · obtain ⟨c, k, rfl, _⟩ := h
    rfl
  obtain ⟨c, k, rfl, k0, k1, q⟩ := h
  refine S.ex_out ⟨_, (S.pss_cons (S.ps_set (i := 2) sc_q_stirred.nd rfl (Or.inl rfl) (S.pe_op op_mod (S.pe_op op_mulM (S.pe_op op_add (S.pe_op op_add (S.pv 0) (S.pe_op op_mulM S.pe_int (S.pv 1))) S.pe_int) S.pe_int) S.pe_int))
      (S.pss_cons (S.ps_set (i := 2) sc_q_stirred.nd rfl (Or.inl rfl) (S.pe_op op_mod (S.pe_op op_mulM (S.pv 2) (S.pe_op op_add (S.pe_op op_fdivP (S.pv 2) S.pe_int) S.pe_int)) S.pe_int))
      (S.pss_one (S.ps_ret (S.pe_op op_add (S.pe_op op_mulM (S.pe_op op_mod (S.pe_op op_mulM (S.pv 2) (S.pe_op op_add (S.pe_op op_fdivP (S.pv 2) S.pe_int) S.pe_int)) S.pe_int) S.pe_int) (S.pv 2)))))), ?_⟩
  contradiction
  have m1 : IntMulOk 7919 k := .of_left (bitsS (by unfold Sz; decide : Sz 13 (7919 : Int)) (by decide))
  have m2 : IntMulOk (c + 7919 * k + 1) 48271 := .of_right (bitsS (by unfold Sz; decide : Sz 16 (48271 : Int)) (by decide))
  have d0 := Int.emod_nonneg ((c + 7919 * k + 1) * 48271) (by decide : (2147483647 : Int) ≠ 0)
  have d1 := Int.emod_lt_of_pos ((c + 7919 * k + 1) * 48271) (by decide : (0 : Int) < 2147483647)
  generalize (c + 7919 * k + 1) * 48271 % 2147483647 = d at *
  have m3 : IntMulOk d (d / 1009 + 69621) := .of_left (bitsS (by unfold Sz; omega : Sz 31 d) (by decide))
  have e0 := Int.emod_nonneg (d * (d / 1009 + 69621)) (by decide : (2147483647 : Int) ≠ 0)
  have e1 := Int.emod_lt_of_pos (d * (d / 1009 + 69621)) (by decide : (0 : Int) < 2147483647)
  generalize d * (d / 1009 + 69621) % 2147483647 = e at *
  have m4 : IntMulOk e (e / 2003 + 40692) := .of_left (bitsS (by unfold Sz; omega : Sz 31 e) (by decide))
  have m5 : IntMulOk (e * (e / 2003 + 40692) % 2147483629) 2147483647 := .of_right (bitsS (by unfold Sz; decide : Sz 31 (2147483647 : Int)) (by decide))
  exact ⟨m1, m2, by decide, ⟨by decide, by decide⟩, m3, by decide, ⟨by decide, by decide⟩, m4, by decide, m5, q _⟩
def sp_q_poly (K : PySem.W.Frag) : Sp := fun vs H Q _ => ∃ c : Int, vs = [.int c, .int 5] ∧ ∀ z H' p, Same H H' → SqT K H' z (p.map V.int) → p.length ≤ 6 → p ≠ [] → (∀ x ∈ p, Sz 50 x) → (∀ h : p ≠ [], p.getLast h ≠ 0) → Q (.ref z) H'
theorem ok_q_poly {f : Addr} {fd : FuncData} (F : Df K mg "_law_poly" s_q_poly ["_law_cell", "_law_most"] f fd) (z_range : mg "range" = none) (z_tuple : mg "tuple" = none)  (c_q_stirred : Cal P w K mg base 1 "_law_stirred" ["_law_cell", "_law_k"] (sp_q_stirred K)) : Cal P w K mg base 2 "_law_poly" ["_law_cell", "_law_most"] (sp_q_poly K) := by
  refine F.cal (F.fn.ok sc_q_poly (fun vs H Q E h => ?_) (fun cdv A outer s H vs Q E hr h => ?_))
  · obtain ⟨c, rfl, _⟩ := h
    rfl
  obtain ⟨c, rfl, q⟩ := h
  refine S.ex_out ⟨_, (S.pss_cons (S.ps_set (i := 2) sc_q_poly.nd rfl (Or.inl rfl) (S.pe_op op_mod (S.pv 0) (S.pe_op op_add (S.pv 1) S.pe_int)))
      (S.pss_cons (S.ps_set (i := 3) sc_q_poly.nd rfl (Or.inl rfl) (S.pe_ix ix_list (S.pe_lst (S.pa_cns S.pe_int (S.pa_cns S.pe_int (S.pa_cns S.pe_int (S.pa_cns (S.pe_op op_add (S.pe_op op_mulM S.pe_int (S.pe_op op_pow S.pe_int S.pe_int)) S.pe_int) S.pa_nil))))) (S.pe_op op_mod (S.pe_op op_fdivP (S.pv 0) S.pe_int) S.pe_int) (fun _ _ => rfl)))
      (S.pss_cons (S.ps_set (i := 4) sc_q_poly.nd rfl (Or.inl rfl) (S.pe_op op_fdivP (S.pv 0) S.pe_int))
      (S.pss_cons (S.ps_set (i := 5) sc_q_poly.nd rfl (Or.inl rfl) (S.pe_lst S.pa_nil))
      (S.pss_cons (S.ps_for PassesOwn.never rfl (S.pi_range1 rfl z_range (S.pa_cns (S.pe_op op_add (S.pv 2) S.pe_int) S.pa_nil)) (S.pg_name (i := 6) sc_q_poly.nd rfl (Or.inl rfl)) (S.pss_one (S.ps_if (S.PW_pt (S.pw_and (S.pt_cmpR op_gt (S.pv 4) S.pe_int (nomark _)) (S.pw_and1 (S.pt_cmpR op_eq (S.pe_op op_mod (S.pe_op op_fdivP (S.pv 0) S.pe_int) S.pe_int) S.pe_int (nomark _))))) (S.pss_cons (S.ps_expr (S.pe_bm PySem.F.plainAttrs_list PySem.F.slot_list_append PySem.F.type_list_append mt_append (S.pv 5) (S.pa_cns (S.pe_op op_sub (S.pe_op op_mod (S.pv 4) (S.pv 3)) (S.pe_op op_fdivP (S.pv 3) S.pe_int)) S.pa_nil)))
      (S.pss_one (S.ps_set (i := 4) sc_q_poly.nd rfl (Or.inl rfl) (S.pe_op op_fdivP (S.pv 4) (S.pv 3))))) (S.pss_one (S.ps_expr (S.pe_bm PySem.F.plainAttrs_list PySem.F.slot_list_append PySem.F.type_list_append mt_append (S.pv 5) (S.pa_cns (S.pe_op op_sub (S.pe_op op_mod (S.pe_cD c_q_stirred (hr.mono (by decide)) (S.pa_cns (S.pv 0) (S.pa_cns (S.pv 6) S.pa_nil))) (S.pv 3)) (S.pe_op op_fdivP (S.pv 3) S.pe_int)) S.pa_nil)))))))
      (S.pss_cons (S.ps_if (S.pt_cmpR op_eq (S.pe_ix ix_list (S.pv 5) (S.pe_un un_neg S.pe_int) (fun _ _ => rfl)) S.pe_int (nomark _)) (S.pss_one (S.ps_asg S.pe_int (S.pg_sub (S.pv 5) (S.pe_un un_neg S.pe_int) set_list))) S.pss_nil)
      (S.pss_one (S.ps_ret (S.pe_cTy call_tuple_of rfl z_tuple PyProof.Rows.boot_tuple (S.pa_cns (S.pv 5) S.pa_nil)))))))))), ?_⟩
  contradiction
  refine ⟨by decide, ⟨by decide, by decide, by decide⟩, .of_left (bitsS (by unfold Sz; decide : Sz 2 (2 : Int)) (by decide)), by decide, fun p1 hp1 => ⟨⟨by decide, by decide⟩, by decide, ?_⟩⟩
  have s1 := Same.upd hp1 (.lst [V.int 25, V.int 25, V.int 7, V.int (2 * 10 ^ Int.toNat 12 + 1)])
  have menu : ∃ v, atI [V.int 25, V.int 25, V.int 7, V.int (2 * 10 ^ Int.toNat 12 + 1)] (c / 11 % 4) = some (.int v) ∧ 0 < v ∧ v < 2 ^ 42 := by
    have : c / 11 % 4 = 0 ∨ c / 11 % 4 = 1 ∨ c / 11 % 4 = 2 ∨ c / 11 % 4 = 3 := by omega
    rcases this with h | h | h | h <;> rw [h]
    · exact ⟨25, rfl, by decide, by decide⟩
    · exact ⟨25, rfl, by decide, by decide⟩
    · exact ⟨7, rfl, by decide, by decide⟩
    · exact ⟨_, rfl, by decide, by decide⟩
  obtain ⟨v, ev, v0, v1⟩ := menu
  refine z_ixL (.of upd_same) ev ?_
  try contradiction
  refine ⟨⟨by decide, by decide⟩, by decide, fun p2 hp2 => ⟨by omega, by omega, ?_⟩⟩
  have s2 := s1.trans (Same.upd hp2 (.lst []))
  have h2n : H p2 = none := Same.free s1 hp2
  have wz : ∀ x : Int, Sz 50 (x % v - v / 2) := fun x => by
    have a0 := Int.emod_nonneg x (Int.ne_of_gt v0)
    have a1 := Int.emod_lt_of_pos x v0
    unfold Sz
    omega
  have vz : CDivP v 2 := ⟨by decide, by decide⟩
  have vb : ∀ x : Int, CDivP x v := fun x => ⟨v0, (by unfold Sz; omega : Sz 42 v).log2 (by omega) (by decide)⟩
  have sz5 : 1000 ≤ sizeLine := by decide
  refine fi_by (es := List.range (c % (5 + 1) + 1).toNat) (inj := fun i => .int (0 + (i : Nat))) (fun pre σ H' => ∃ (part : Int) (o : Option V) (ws : List Int), σ = [some (.int c), some (.int 5), some (.int (c % (5 + 1))), some (.int v), some (.int part), some (.ref p2), o] ∧ Same H H' ∧ H' p2 = some (.lst (ws.map V.int)) ∧ ws.length = pre.length ∧ ∀ x ∈ ws, Sz 50 x)
    ⟨_, _, [], rfl, s2, upd_same, rfl, by simp⟩ ?_ ?_ ?_
  · rintro pre σ H' _
    exact wkAt_range
  · rintro pre e post σ H' he ⟨part, o, ws, rfl, s3, hm, hlw, hw⟩
    have hlen := congrArg List.length he
    rw [List.length_range, List.length_append, List.length_cons] at hlen
    have el : e < 100 := by
      have := List.mem_range.mp (show e ∈ List.range (c % (5 + 1) + 1).toNat by rw [he]; simp)
      omega
    have add : ∀ (w part' : Int), Sz 50 w → ∃ (part : Int) (o : Option V) (ws' : List Int), [some (V.int c), some (.int 5), some (.int (c % (5 + 1))), some (.int v), some (.int part'), some (.ref p2), some (.int (0 + (e : Nat)))] = [some (.int c), some (.int 5), some (.int (c % (5 + 1))), some (.int v), some (.int part), some (.ref p2), o] ∧ Same H (upd H' p2 (.lst (ws.map V.int ++ [.int w]))) ∧
        upd H' p2 (.lst (ws.map V.int ++ [.int w])) p2 = some (.lst (ws'.map V.int)) ∧ ws'.length = (pre ++ [e]).length ∧ ∀ x ∈ ws', Sz 50 x := fun w part' hwz => by
      refine ⟨_, _, ws ++ [w], rfl, fun b u eb => ?_, by rw [upd_same, List.map_append]; rfl, by rw [List.length_append, List.length_append, hlw]; rfl, fun x hx => ?_⟩
      · rw [upd_ne (ne_of_none eb h2n)]
        exact s3 _ _ eb
      · rcases List.mem_append.mp hx with hx | hx
        · exact hw x hx
        · have ex : x = w := by simpa using hx
          subst ex
          exact hwz
    have ap : ∀ (w part' : Int), Sz 50 w → rAppend (.ref p2) [.int w] H' (fun _ H1 => ∃ (part : Int) (o : Option V) (ws' : List Int), [some (V.int c), some (.int 5), some (.int (c % (5 + 1))), some (.int v), some (.int part'), some (.ref p2), some (.int (0 + (e : Nat)))] = [some (.int c), some (.int 5), some (.int (c % (5 + 1))), some (.int v), some (.int part), some (.ref p2), o] ∧ Same H H1 ∧
        H1 p2 = some (.lst (ws'.map V.int)) ∧ ws'.length = (pre ++ [e]).length ∧ ∀ x ∈ ws', Sz 50 x) := fun w part' hwz => ⟨p2, _, _, rfl, rfl, hm, by rw [List.length_map]; omega, add w part' hwz⟩
    have ty : tyV K "list" (.ref p2) H' := .inl ⟨rfl, _, .of hm⟩
    contradiction
    split
    · refine ⟨⟨by decide, by decide⟩, by decide, ?_⟩
      split
      · refine ⟨ty, v0, vz, ?_⟩
        exact ⟨p2, _, _, rfl, rfl, hm, by rw [List.length_map]; omega, vb part, add _ _ (wz part)⟩
      · refine ⟨ty, c, _, rfl, by omega, by omega, fun n => ?_⟩
        try contradiction
        exact ⟨v0, vz, ap _ _ (wz n)⟩
    · refine ⟨ty, c, _, rfl, by omega, by omega, fun n => ?_⟩
      try contradiction
      exact ⟨v0, vz, ap _ _ (wz n)⟩
  · rintro σ H' ⟨part, o, ws, rfl, s3, hm, hlw, hw⟩
    rw [List.length_range] at hlw
    have h0 : ws ≠ [] := fun z => by rw [z] at hlw; simp only [List.length_nil] at hlw; omega
    obtain ⟨ini, d, rfl⟩ : ∃ (i : List Int) (x : Int), ws = i ++ [x] := ⟨_, _, (List.dropLast_concat_getLast h0).symm⟩
    have em : ∀ x : Int, (ini ++ [x]).map V.int = ini.map V.int ++ [V.int x] := fun x => by rw [List.map_append]; rfl
    rw [em] at hm
    rw [List.length_append, List.length_singleton] at hlw
    contradiction
    refine z_ixL (.of hm) (atI_last _ _) ?_
    try contradiction
    by_cases hd : d = 0
    · rw [if_pos hd]
      refine ⟨p2, _, -1, ini.length, rfl, rfl, hm, ?_, ?_⟩
      · unfold ixN
        rw [if_neg (by decide), List.length_append, List.length_map, List.length_singleton, if_pos (by omega)]
        exact congrArg some (by omega)
      · have e : (ini.map V.int ++ [V.int d]).set ini.length (.int 1) = (ini ++ [1]).map V.int := by
          rw [em, List.set_append_right _ _ (by rw [List.length_map]; exact Nat.le_refl _), List.length_map, Nat.sub_self]
          rfl
        rw [e]
        try contradiction
        refine ⟨p2, _, rfl, .inl ⟨.of upd_same, fun z hz => q z _ (ini ++ [1]) ?_ (.of upd_same) ?_ (by simp) (fun x hx => ?_) (fun h => by rw [List.getLast_concat]; decide)⟩⟩
        · refine Same.trans (fun b u eb => ?_) (Same.upd hz _)
          rw [upd_ne (ne_of_none eb h2n)]
          exact s3 _ _ eb
        · rw [List.length_append, List.length_singleton]
          omega
        · rcases List.mem_append.mp hx with hx | hx
          · exact hw x (List.mem_append_left _ hx)
          · have ex : x = 1 := by simpa using hx
            subst ex
            unfold Sz
            decide
    · rw [if_neg hd]
      refine ⟨p2, _, rfl, .inl ⟨.of hm, fun z hz => q z _ (ini ++ [d]) (s3.trans (Same.upd hz _)) (by rw [em]; exact .of upd_same) ?_ (by simp) hw (fun h => by rw [List.getLast_concat]; exact hd)⟩⟩
      rw [List.length_append, List.length_singleton]
      omega
--SPLIT
inductive Wh (K : PySem.W.Frag) (H : Hp) : V → Bool → Prop where
  | int (i : Int) : Wh K H (.int i) true
  | bl (b : Bool) : Wh K H (.bl b) false
  | non : Wh K H .non false
  | str (x : Str) : Wh K H (.str x) false
  | tup {a : Addr} {xs : List V} (e : H a = some (.tup xs)) : Wh K H (.ref a) false
  | lst {a : Addr} {xs : List V} (e : H a = some (.lst xs)) : Wh K H (.ref a) false
def spWh (K : PySem.W.Frag) : Sp := fun vs H Q _ => ∃ v b, vs = [v] ∧ Wh K H v b ∧ Q (.bl b) H
theorem isi {H : Hp} {GB : Bool → Prop} {v : V} {t : Value} {T : String} {b : Bool} (ht : TyOf K H v t) (hk : PySem.W.kitOne K t (.type T) = some b) (q : GB b) :
    ∃ x t' T' b', [v, V.ty T] = [x, V.ty T'] ∧ TyOf K H x t' ∧ PySem.W.kitOne K t' (.type T') = some b' ∧ GB b' := ⟨v, t, T, b, rfl, ht, hk, q⟩
theorem kitT {T U : String} {b : Bool} (h : (if (Value.type T == Value.type U) = true then some true else if PySem.W.kitMeta U = true then PySem.W.subIn [] (.type T) (.type U) else none) = some b) : PySem.W.kitOne K (.type T) (.type U) = some b := h
theorem kit_ii : PySem.W.kitOne K (.type "int") (.type "int") = some true := kitT (by decide +kernel)
theorem kit_ib : PySem.W.kitOne K (.type "int") (.type "bool") = some false := kitT (by decide +kernel)
theorem kit_bi : PySem.W.kitOne K (.type "bool") (.type "int") = some true := kitT (by decide +kernel)
theorem kit_bb : PySem.W.kitOne K (.type "bool") (.type "bool") = some true := kitT (by decide +kernel)
theorem kit_ni : PySem.W.kitOne K (.type "NoneType") (.type "int") = some false := kitT (by decide +kernel)
theorem kit_si : PySem.W.kitOne K (.type "str") (.type "int") = some false := kitT (by decide +kernel)
theorem kit_ti : PySem.W.kitOne K (.type "tuple") (.type "int") = some false := kitT (by decide +kernel)
theorem kit_li : PySem.W.kitOne K (.type "list") (.type "int") = some false := kitT (by decide +kernel)
def sp_is_whole (K : PySem.W.Frag) : Sp := spWh K
theorem ok_is_whole {f : Addr} {fd : FuncData} (F : Df K mg "is_whole" s_is_whole ["thing"] f fd) (z_isinstance : mg "isinstance" = none) (z_int : mg "int" = none) (z_bool : mg "bool" = none)   : Cal P w K mg base 1 "is_whole" ["thing"] (sp_is_whole K) := by
  refine F.cal (F.fn.ok sc_is_whole (fun vs H Q E h => ?_) (fun cdv A outer s H vs Q E hr h => ?_))
  · obtain ⟨v, b, rfl, _⟩ := h
    rfl
  obtain ⟨v, b, rfl, hv, q⟩ := h
  refine S.ex_out ⟨_, (S.pss_one (S.ps_ret (S.pe_and (S.pe_cB call_isi rfl z_isinstance PyProof.Rows.boot_isinstance (S.pa_cns (S.pv 0) (S.pa_cns (S.pe_bltn (v := .ty "int") rfl z_int PyProof.Rows.boot_int rfl) S.pa_nil))) (S.pe_one (S.pe_not (S.pe_cB call_isi rfl z_isinstance PyProof.Rows.boot_isinstance (S.pa_cns (S.pv 0) (S.pa_cns (S.pe_bltn (v := .ty "bool") rfl z_bool PyProof.Rows.boot_bool rfl) S.pa_nil)))))))), ?_⟩
  contradiction
  cases hv with
  | int i =>
    refine isi (.int i) kit_ii ?_
    contradiction
    refine isi (.int i) kit_ib ?_
    contradiction
    exact q
  | bl b =>
    refine isi (.bl b) kit_bi ?_
    contradiction
    refine isi (.bl b) kit_bb ?_
    contradiction
    exact q
  | non =>
    refine isi .non kit_ni ?_
    contradiction
    exact q
  | str x =>
    refine isi (.str x) kit_si ?_
    contradiction
    exact q
  | tup e =>
    refine isi (.tup e) kit_ti ?_
    contradiction
    exact q
  | lst e =>
    refine isi (.lst e) kit_li ?_
    contradiction
    exact q
theorem kit_it : PySem.W.kitOne K (.type "int") (.type "tuple") = some false := kitT (by decide +kernel)
theorem kit_nt : PySem.W.kitOne K (.type "NoneType") (.type "tuple") = some false := kitT (by decide +kernel)
theorem kit_st : PySem.W.kitOne K (.type "str") (.type "tuple") = some false := kitT (by decide +kernel)
theorem kit_lt : PySem.W.kitOne K (.type "list") (.type "tuple") = some false := kitT (by decide +kernel)
theorem kit_tt : PySem.W.kitOne K (.type "tuple") (.type "tuple") = some true := kitT (by decide +kernel)
inductive TyA (K : PySem.W.Frag) (H : Hp) : V → Value → Prop where
  | of {v : V} {t : Value} (h : TyOf K H v t) : TyA K H v t
  | tup {a : Addr} {xs : List V} (h : SqT K H a xs) : TyA K H (.ref a) (.type "tuple")
theorem call_isA {X : Cx} : CallR X (.builtin "isinstance") (fun xs H Q => ∃ x t T b, xs = [x, .ty T] ∧ TyA X.K H x t ∧ PySem.W.kitOne X.K t (.type T) = some b ∧ Q (.bl b) H) := by
  intro pins s σ H xs us Q I r h
  obtain ⟨x, t, T, b, rfl, ht, hk, q⟩ := h
  cases ht with
  | of ht => exact call_isi pins s σ H _ us Q I r ⟨x, t, T, b, rfl, ht, hk, q⟩
  | tup hs => exact call_isT pins s σ H _ us Q I r ⟨_, _, T, b, rfl, hs, hk, q⟩
theorem isa {H : Hp} {GB : Bool → Prop} {v : V} {t : Value} {T : String} {b : Bool} (ht : TyA K H v t) (hk : PySem.W.kitOne K t (.type T) = some b) (q : GB b) :
    ∃ x t' T' b', [v, V.ty T] = [x, V.ty T'] ∧ TyA K H x t' ∧ PySem.W.kitOne K t' (.type T') = some b' ∧ GB b' := ⟨v, t, T, b, rfl, ht, hk, q⟩
theorem map_bl (es : List (V × Bool)) : es.map (fun e => V.bl e.2) = (es.map (·.2)).map V.bl := by rw [List.map_map]; rfl
def low (t b : Int) : Bool := decide (0 < b) && decide (((Int.gcd t b : Nat) : Int) = 1)
inductive Tf (K : PySem.W.Frag) (H : Hp) : V → Bool → Prop where
  | two {a : Addr} {t b : Int} (h : SqT K H a [.int t, .int b]) : Tf K H (.ref a) (low t b)
  | bad {a : Addr} {u v : V} {bu bv : Bool} (h : SqT K H a [u, v]) (hu : Wh K H u bu) (hv : Wh K H v bv) (hb : bu = false ∨ bv = false) : Tf K H (.ref a) false
  | long {a : Addr} {xs : List V} (h : SqT K H a xs) (hl : xs.length ≠ 2) : Tf K H (.ref a) false
  | int (i : Int) : Tf K H (.int i) false
  | non : Tf K H .non false
  | str (x : Str) : Tf K H (.str x) false
  | lst {a : Addr} {xs : List V} (e : H a = some (.lst xs)) : Tf K H (.ref a) false
def spTf (K : PySem.W.Frag) : Sp := fun vs H Q _ => ∃ v b, vs = [v] ∧ Tf K H v b ∧ Q (.bl b) H
def sp_is_fraction (K : PySem.W.Frag) : Sp := spTf K
theorem Wh.mono {H H' : Hp} {v : V} {b : Bool} (h : Wh K H v b) (s : Same H H') : Wh K H' v b := by
  cases h with
  | int i => exact .int i
  | bl b => exact .bl b
  | non => exact .non
  | str x => exact .str x
  | tup e => exact .tup (s _ _ e)
  | lst e => exact .lst (s _ _ e)
theorem Tf.mono {H H' : Hp} {v : V} {b : Bool} (h : Tf K H v b) (s : Same H H') : Tf K H' v b := by
  cases h with
  | two h => exact .two (s.tup h)
  | bad h hu hv hb => exact .bad (s.tup h) (hu.mono s) (hv.mono s) hb
  | long h hl => exact .long (s.tup h) hl
  | int i => exact .int i
  | non => exact .non
  | str x => exact .str x
  | lst e => exact .lst (s _ _ e)
theorem ok_is_fraction {f : Addr} {fd : FuncData} (F : Df K mg "is_fraction" s_is_fraction ["thing"] f fd) (z_isinstance : mg "isinstance" = none) (z_tuple : mg "tuple" = none) (z_len : mg "len" = none)  (c_is_whole : Cal P w K mg base 1 "is_whole" ["thing"] (sp_is_whole K)) (c_divisor : Cal P w K mg base 1 "divisor" ["one", "other"] (sp_divisor K)) : Cal P w K mg base 2 "is_fraction" ["thing"] (sp_is_fraction K) := by
  refine F.cal (F.fn.ok sc_is_fraction (fun vs H Q E h => ?_) (fun cdv A outer s H vs Q E hr h => ?_))
  · obtain ⟨v, b, rfl, _⟩ := h
    rfl
  obtain ⟨v, b, rfl, hv, k⟩ := h
  refine S.ex_out ⟨_, (S.pss_cons (S.ps_if (S.PW_pt (S.pw_or (S.pt_not (S.pt_val (S.pe_cB call_isA rfl z_isinstance PyProof.Rows.boot_isinstance (S.pa_cns (S.pv 0) (S.pa_cns (S.pe_bltn (v := .ty "tuple") rfl z_tuple PyProof.Rows.boot_tuple rfl) S.pa_nil))))) (S.pw_or1 (S.pt_cmpR op_ne (S.pe_cB call_len_seq rfl z_len PySem.boot_len (S.pa_cns (S.pv 0) S.pa_nil)) S.pe_int (nomark _))))) (S.pss_one (S.ps_ret S.pe_bl)) S.pss_nil)
      (S.pss_cons (S.ps_asg (S.pv 0) (S.pg_tup rfl (S.pgs_cons (S.pg_name (i := 1) sc_is_fraction.nd rfl (Or.inl rfl)) (S.pgs_cons (S.pg_name (i := 2) sc_is_fraction.nd rfl (Or.inl rfl)) S.pgs_nil))))
      (S.pss_cons (S.ps_if (S.PW_pt (S.pw_or (S.pt_not (S.pt_val (S.pe_cD c_is_whole (hr.mono (by decide)) (S.pa_cns (S.pv 1) S.pa_nil)))) (S.pw_or1 (S.pt_not (S.pt_val (S.pe_cD c_is_whole (hr.mono (by decide)) (S.pa_cns (S.pv 2) S.pa_nil))))))) (S.pss_one (S.ps_ret S.pe_bl)) S.pss_nil)
      (S.pss_one (S.ps_ret (S.pe_and (S.pe_cmpR op_ge (S.pv 2) S.pe_int (nomark _)) (S.pe_one (S.pe_cmpR op_eq (S.pe_cD c_divisor (hr.mono (by decide)) (S.pa_cns (S.pv 1) (S.pa_cns (S.pv 2) S.pa_nil))) S.pe_int (nomark _))))))))), ?_⟩
  contradiction
  cases hv with
  | two h =>
    rename_i t b
    refine isa (.tup h) kit_tt ?_
    contradiction
    refine ⟨_, _, rfl, .inr h, ?_⟩
    contradiction
    refine g_pair h ?_
    contradiction
    refine ⟨_, _, rfl, .int _, ?_⟩
    contradiction
    refine ⟨_, _, rfl, .int _, ?_⟩
    contradiction
    split
    · rename_i h1
      refine ⟨_, _, rfl, ?_⟩
      contradiction
      unfold low at k
      rw [decide_eq_true (show 0 < b by omega), Bool.true_and] at k
      exact k
    · rename_i h1
      unfold low at k
      rw [decide_eq_false (show ¬ 0 < b by omega), Bool.false_and] at k
      exact k
  | bad h hu hv hb =>
    rename_i a u v bu bv
    refine isa (.tup h) kit_tt ?_
    contradiction
    refine ⟨_, _, rfl, .inr h, ?_⟩
    contradiction
    refine g_pair h ?_
    contradiction
    refine ⟨_, _, rfl, hu, ?_⟩
    try contradiction
    cases bu with
    | false =>
      try contradiction
      exact k
    | true =>
      try contradiction
      refine ⟨_, _, rfl, hv, ?_⟩
      rcases hb with hb | hb
      · cases hb
      · subst hb
        try contradiction
        exact k
  | long h hl =>
    rename_i a xs
    refine isa (.tup h) kit_tt ?_
    contradiction
    refine ⟨_, _, rfl, .inr h, ?_⟩
    try contradiction
    rw [if_neg (show ¬ ((xs.length : Nat) : Int) = 2 by omega)]
    exact k
  | int i =>
    refine isa (.of (.int i)) kit_it ?_
    contradiction
    exact k
  | non =>
    refine isa (.of .non) kit_nt ?_
    contradiction
    exact k
  | str x =>
    refine isa (.of (.str x)) kit_st ?_
    contradiction
    exact k
  | lst e =>
    refine isa (.of (.lst e)) kit_lt ?_
    contradiction
    exact k
--SPLIT
def Fz (n : Nat) (K : PySem.W.Frag) (H : Hp) (v : V) (t b : Int) : Prop := (∃ a, v = .ref a ∧ SqT K H a [.int t, .int b]) ∧ Sz n t ∧ Sz n b ∧ 0 < b
theorem Fz.mono {n : Nat} {H H' : Hp} {v : V} {t b : Int} (h : Fz n K H v t b) (s : Same H H') : Fz n K H' v t b := by
  obtain ⟨⟨a, e, ha⟩, r⟩ := h
  exact ⟨⟨a, e, s.tup ha⟩, r⟩
theorem Fz.up {n m : Nat} {H : Hp} {v : V} {t b : Int} (h : Fz n K H v t b) (l : n ≤ m) : Fz m K H v t b := ⟨h.1, h.2.1.mono l, h.2.2.1.mono l, h.2.2.2⟩
theorem Fz.put {n : Nat} {H : Hp} {v : V} {t b : Int} {p : Addr} {acc : List V} {o : HO} (h : Fz n K H v t b) (hp : H p = some (.lst acc)) : Fz n K (upd H p o) v t b := by
  obtain ⟨⟨a, e, ha⟩, r⟩ := h
  exact ⟨⟨a, e, tup_put ha hp⟩, r⟩
theorem u_z0 {n : Nat} {H H1 : Hp} {Q : VK} {v : V} {t b : Int} (h : Fz n K H1 v t b) (s : Same H1 H) (q : Q (.int t) H) : rIxT K v (.int 0) H Q := by
  obtain ⟨⟨a, rfl, ha⟩, _⟩ := h.mono s
  exact z_ixT ha (at0 _ _) q
theorem u_z1 {n : Nat} {H H1 : Hp} {Q : VK} {v : V} {t b : Int} (h : Fz n K H1 v t b) (s : Same H1 H) (q : Q (.int b) H) : rIxT K v (.int 1) H Q := by
  obtain ⟨⟨a, rfl, ha⟩, _⟩ := h.mono s
  exact z_ixT ha (at1 _ _ _) q
def sp_q_fraction (K : PySem.W.Frag) : Sp := fun vs H Q _ => ∃ (t b : Int) (n : Nat), vs = [.int t, .int b] ∧ Sz n t ∧ Sz n b ∧ n ≤ 1000 ∧ 0 < b ∧ ∀ z H' t' b', Same H H' → Fz n K H' z t' b' → t'.natAbs ≤ t.natAbs → b' ≤ b → t' * b = t * b' → Int.gcd t' b' = 1 → Q z H'
theorem ok_q_fraction {f : Addr} {fd : FuncData} (F : Df K mg "_law_fraction" s_q_fraction ["_law_top", "_law_bottom"] f fd)   (c_q_gcd : Cal P w K mg base 1 "_law_gcd" ["_law_one", "_law_other"] (sp_q_gcd K)) : Cal P w K mg base 2 "_law_fraction" ["_law_top", "_law_bottom"] (sp_q_fraction K) := by
  refine F.cal (F.fn.ok sc_q_fraction (fun vs H Q E h => ?_) (fun cdv A outer s H vs Q E hr h => ?_))
  · obtain ⟨t, b, n, rfl, _⟩ := h
    rfl
  obtain ⟨t, b, n, rfl, zt, zb, hn, hb, k⟩ := h
  refine S.ex_out ⟨_, (S.pss_cons (S.ps_set (i := 2) sc_q_fraction.nd rfl (Or.inl rfl) (S.pe_cD c_q_gcd (hr.mono (by decide)) (S.pa_cns (S.pv 0) (S.pa_cns (S.pv 1) S.pa_nil))))
      (S.pss_one (S.ps_ret (S.pe_tup (S.pa_cns (S.pe_op op_fdivB (S.pv 0) (S.pv 2)) (S.pa_cns (S.pe_op op_fdivB (S.pv 1) (S.pv 2)) S.pa_nil)))))), ?_⟩
  contradiction
  refine ⟨t, b, rfl, by omega, ?_⟩
  have g0 : 0 < Int.gcd t b := Int.gcd_pos_of_ne_zero_right t (by omega)
  have gz : Sz n ((Int.gcd t b : Nat) : Int) := zb.of_abs (by
    have := Nat.le_of_dvd (by omega) (Int.gcd_dvd_natAbs_right t b)
    omega)
  have gd : ((Int.gcd t b : Nat) : Int) ∣ b := Int.gcd_dvd_right ..
  have gt : ((Int.gcd t b : Nat) : Int) ∣ t := Int.gcd_dvd_left ..
  generalize hg : Int.gcd t b = g at *
  have hc : ∀ x, CDivB x (g : Int) := fun x => ⟨by omega, gz.log2 (by omega) (by omega)⟩
  try contradiction
  refine ⟨hc _, hc _, ?_⟩
  rw [Int.fdiv_eq_ediv_of_nonneg _ (by omega), Int.fdiv_eq_ediv_of_nonneg _ (by omega)]
  obtain ⟨c, rfl⟩ := gt
  obtain ⟨d, rfl⟩ := gd
  have g1 : (0 : Int) < g := by omega
  rw [Int.mul_ediv_cancel_left _ (by omega), Int.mul_ediv_cancel_left _ (by omega)]
  have d0 : 0 < d := pos_r g1 hb
  have ac : c.natAbs ≤ ((g : Int) * c).natAbs := by
    rw [Int.natAbs_mul, Int.natAbs_natCast]
    exact Nat.le_mul_of_pos_left _ g0
  have ad : d.natAbs ≤ ((g : Int) * d).natAbs := by
    rw [Int.natAbs_mul, Int.natAbs_natCast]
    exact Nat.le_mul_of_pos_left _ g0
  intro q hq
  exact k _ _ c d (Same.upd hq _) ⟨⟨q, rfl, .of upd_same⟩, zt.of_abs ac, zb.of_abs ad, d0⟩ ac (by omega) (by grind) (by
    rw [Int.gcd_mul_left, Int.natAbs_natCast] at hg
    exact Nat.eq_of_mul_eq_mul_left g0 (by rw [hg, Nat.mul_one]))
def sp_q_drawn (K : PySem.W.Frag) : Sp := fun vs H Q _ => ∃ c : Int, vs = [.int c] ∧ ∀ z H' t b, Same H H' → Fz 140 K H' z t b → Int.gcd t b = 1 → Q z H'
theorem ok_q_drawn {f : Addr} {fd : FuncData} (F : Df K mg "_law_drawn" s_q_drawn ["_law_cell"] f fd)   (c_q_fraction : Cal P w K mg base 2 "_law_fraction" ["_law_top", "_law_bottom"] (sp_q_fraction K)) : Cal P w K mg base 3 "_law_drawn" ["_law_cell"] (sp_q_drawn K) := by
  refine F.cal (F.fn.ok sc_q_drawn (fun vs H Q E h => ?_) (fun cdv A outer s H vs Q E hr h => ?_))
  · obtain ⟨c, rfl, _⟩ := h
    rfl
  obtain ⟨c, rfl, k⟩ := h
  refine S.ex_out ⟨_, (S.pss_cons (S.ps_if (S.pt_cmpR op_eq (S.pe_op op_mod (S.pv 0) S.pe_int) S.pe_int (nomark _)) (S.pss_one (S.ps_ret (S.pe_cD c_q_fraction (hr.mono (by decide)) (S.pa_cns (S.pe_op op_sub (S.pe_op op_mod (S.pe_op op_fdivP (S.pv 0) S.pe_int) S.pe_int) S.pe_int) (S.pa_cns (S.pe_op op_add S.pe_int (S.pe_op op_mod (S.pe_op op_fdivP (S.pv 0) S.pe_int) S.pe_int)) S.pa_nil))))) S.pss_nil)
      (S.pss_cons (S.ps_if (S.pt_cmpR op_eq (S.pe_op op_mod (S.pv 0) S.pe_int) S.pe_int (nomark _)) (S.pss_one (S.ps_ret (S.pe_tup (S.pa_cns (S.pe_op op_sub (S.pe_op op_mod (S.pe_op op_fdivP (S.pv 0) S.pe_int) (S.pe_op op_pow S.pe_int S.pe_int)) (S.pe_op op_mulM S.pe_int (S.pe_op op_pow S.pe_int S.pe_int))) (S.pa_cns S.pe_int S.pa_nil))))) S.pss_nil)
      (S.pss_one (S.ps_ret (S.pe_cD c_q_fraction (hr.mono (by decide)) (S.pa_cns (S.pe_op op_sub (S.pe_op op_mod (S.pe_op op_fdivP (S.pv 0) S.pe_int) (S.pe_op op_pow S.pe_int S.pe_int)) (S.pe_op op_mulM S.pe_int (S.pe_op op_pow S.pe_int S.pe_int))) (S.pa_cns (S.pe_op op_add S.pe_int (S.pe_op op_mod (S.pe_op op_fdivP (S.pe_op op_fdivP (S.pv 0) S.pe_int) (S.pe_op op_pow S.pe_int S.pe_int)) (S.pe_op op_pow S.pe_int S.pe_int))) S.pa_nil))))))), ?_⟩
  contradiction
  have e9 : (10 : Int) ^ Int.toNat 9 = 1000000000 := by decide
  have e8 : (10 : Int) ^ Int.toNat 8 = 100000000 := by decide
  have p30 : (0 : Int) < 10 ^ Int.toNat 30 ∧ (10 : Int) ^ Int.toNat 30 < 2 ^ 100 := by decide
  have p29 : (0 : Int) < 10 ^ Int.toNat 29 ∧ (10 : Int) ^ Int.toNat 29 < 2 ^ 97 := by decide
  refine ⟨by decide, ?_⟩
  split
  · exact ⟨⟨by decide, by decide⟩, by decide, ⟨by decide, by decide⟩, by decide, _, _, 140, rfl, by unfold Sz; omega, by unfold Sz; omega, by decide, by omega, fun z H' t' b' s i _ _ _ g1 => k z H' t' b' s i g1⟩
  refine ⟨by decide, ?_⟩
  split
  · refine ⟨⟨by decide, by decide⟩, ⟨by decide, by decide, by decide⟩, by decide, ⟨by decide, by decide, by decide⟩, .of_left (bitsS (by unfold Sz; decide : Sz 3 (5 : Int)) (by decide)), fun q hq => k _ _ _ _ (Same.upd hq _) ⟨⟨q, rfl, .of upd_same⟩, ?_, by unfold Sz; decide, by decide⟩ (Int.gcd_one_right _)⟩
    rw [e9, e8]
    unfold Sz
    omega
  · have m0 := Int.emod_nonneg (c / 3) (Int.ne_of_gt p30.1)
    have m1 := Int.emod_lt_of_pos (c / 3) p30.1
    have m2 := Int.emod_nonneg (c / 3 / 10 ^ Int.toNat 30) (Int.ne_of_gt p30.1)
    have m3 := Int.emod_lt_of_pos (c / 3 / 10 ^ Int.toNat 30) p30.1
    refine ⟨⟨by decide, by decide⟩, ⟨by decide, by decide, by decide⟩, by decide, ⟨by decide, by decide, by decide⟩, .of_left (bitsS (by unfold Sz; decide : Sz 3 (5 : Int)) (by decide)), ⟨by decide, by decide⟩, ⟨by decide, by decide, by decide⟩, ⟨by decide, by decide⟩, ⟨by decide, by decide, by decide⟩, by decide, _, _, 140, rfl, ?_, ?_, by decide, by omega, fun z H' t' b' s i _ _ _ g1 => k z H' t' b' s i g1⟩
    · generalize c / 3 % 10 ^ Int.toNat 30 = r at *
      unfold Sz
      omega
    · generalize c / 3 / 10 ^ Int.toNat 30 % 10 ^ Int.toNat 30 = r at *
      unfold Sz
      omega
def sp_q_less (K : PySem.W.Frag) : Sp := fun vs H Q _ => ∃ (x y : V) (t b t' b' : Int), vs = [x, y] ∧ Fz 1000 K H x t b ∧ Fz 1000 K H y t' b' ∧ Q (.bl (decide (t * b' < t' * b))) H
theorem ok_q_less {f : Addr} {fd : FuncData} (F : Df K mg "_law_less" s_q_less ["_law_one", "_law_other"] f fd)    : Cal P w K mg base 1 "_law_less" ["_law_one", "_law_other"] (sp_q_less K) := by
  refine F.cal (F.fn.ok sc_q_less (fun vs H Q E h => ?_) (fun cdv A outer s H vs Q E hr h => ?_))
  · obtain ⟨x, y, _, _, _, _, rfl, _⟩ := h
    rfl
  obtain ⟨x, y, t, b, t', b', rfl, hx, hy, k⟩ := h
  refine S.ex_out ⟨_, (S.pss_one (S.ps_ret (S.pe_cmpR op_lt (S.pe_op op_mulM (S.pe_ix ix_tup (S.pv 0) S.pe_int (fun _ _ => rfl)) (S.pe_ix ix_tup (S.pv 1) S.pe_int (fun _ _ => rfl))) (S.pe_op op_mulM (S.pe_ix ix_tup (S.pv 1) S.pe_int (fun _ _ => rfl)) (S.pe_ix ix_tup (S.pv 0) S.pe_int (fun _ _ => rfl))) (nomark _)))), ?_⟩
  contradiction
  refine u_z0 hx (Same.refl _) ?_
  try contradiction
  refine u_z1 hy (Same.refl _) ?_
  try contradiction
  refine ⟨hx.2.1.mulOk hy.2.2.1 (by decide), u_z0 hy (Same.refl _) ?_⟩
  try contradiction
  refine u_z1 hx (Same.refl _) ?_
  try contradiction
  exact ⟨hy.2.1.mulOk hx.2.2.1 (by decide), k⟩
def sp_less (K : PySem.W.Frag) : Sp := fun vs H Q _ => ∃ (x y : V) (t b t' b' : Int), vs = [x, y] ∧ Fz 1000 K H x t b ∧ Fz 1000 K H y t' b' ∧ Q (.bl (decide (t * b' < t' * b))) H
theorem ok_less {f : Addr} {fd : FuncData} (F : Df K mg "less" s_less ["one", "other"] f fd)    : Cal P w K mg base 1 "less" ["one", "other"] (sp_less K) := by
  refine F.cal (F.fn.ok sc_less (fun vs H Q E h => ?_) (fun cdv A outer s H vs Q E hr h => ?_))
  · obtain ⟨x, y, _, _, _, _, rfl, _⟩ := h
    rfl
  obtain ⟨x, y, t, b, t', b', rfl, hx, hy, k⟩ := h
  refine S.ex_out ⟨_, (S.pss_one (S.ps_ret (S.pe_cmpR op_lt (S.pe_op op_mulM (S.pe_ix ix_tup (S.pv 0) S.pe_int (fun _ _ => rfl)) (S.pe_ix ix_tup (S.pv 1) S.pe_int (fun _ _ => rfl))) (S.pe_op op_mulM (S.pe_ix ix_tup (S.pv 1) S.pe_int (fun _ _ => rfl)) (S.pe_ix ix_tup (S.pv 0) S.pe_int (fun _ _ => rfl))) (nomark _)))), ?_⟩
  contradiction
  refine u_z0 hx (Same.refl _) ?_
  try contradiction
  refine u_z1 hy (Same.refl _) ?_
  try contradiction
  refine ⟨hx.2.1.mulOk hy.2.2.1 (by decide), u_z0 hy (Same.refl _) ?_⟩
  try contradiction
  refine u_z1 hx (Same.refl _) ?_
  try contradiction
  exact ⟨hy.2.1.mulOk hx.2.2.1 (by decide), k⟩
theorem hv_sz {t b : Int} {n u : Nat} (ht : Sz u t) (hb : Sz u b) : ∀ p : List Int, (∀ x ∈ p, Sz n x) → Sz (n + (u + 2) * p.length) (hv p t b)
  | [], _ => Sz00
  | w :: r, h => by
    have z1 := hv_sz ht hb r fun x hx => h x (List.mem_cons_of_mem _ hx)
    have z2 := (h w (by simp)).mul (spow_sz hb r.length)
    rw [hv]
    have e : u * r.length ≤ (u + 2) * r.length := Nat.mul_le_mul_right _ (by omega)
    refine ((z1.mul ht).add z2).mono ?_
    rw [List.length_cons, Nat.mul_succ]
    omega
def sp_q_homog (K : PySem.W.Frag) : Sp := fun vs H Q _ => ∃ (a : Addr) (p : List Int) (x y : Int) (n m : Nat), vs = [.ref a, .int x, .int y] ∧ SqT K H a (p.map V.int) ∧ p.length ≤ 8 ∧ (∀ x ∈ p, Sz n x) ∧ Sz m x ∧ Sz m y ∧ n ≤ 200000 ∧ m ≤ 2000 ∧ Q (.int (hv p x y)) H
theorem ok_q_homog {f : Addr} {fd : FuncData} (F : Df K mg "_law_homog" s_q_homog ["_law_p", "_law_x", "_law_y"] f fd) (z_reversed : mg "reversed" = none)   : Cal P w K mg base 1 "_law_homog" ["_law_p", "_law_x", "_law_y"] (sp_q_homog K) := by
  refine F.cal (F.fn.ok sc_q_homog (fun vs H Q E h => ?_) (fun cdv A outer s H vs Q E hr h => ?_))
  · obtain ⟨a, p, x, y, _, _, rfl, _⟩ := h
    rfl
  obtain ⟨a, p, x, y, n, m, rfl, ha, hl, hw, zx, zy, hn, hm, k⟩ := h
  refine S.ex_out ⟨_, (S.pss_cons (S.ps_set (i := 3) sc_q_homog.nd rfl (Or.inl rfl) S.pe_int)
      (S.pss_cons (S.ps_set (i := 4) sc_q_homog.nd rfl (Or.inl rfl) S.pe_int)
      (S.pss_cons (S.ps_for PassesOwn.never rfl (S.pi_rv rfl z_reversed (S.pa_cns (S.pv 0) S.pa_nil)) (S.pg_name (i := 5) sc_q_homog.nd rfl (Or.inl rfl)) (S.pss_cons (S.ps_set (i := 3) sc_q_homog.nd rfl (Or.inl rfl) (S.pe_op op_add (S.pe_op op_mulM (S.pv 3) (S.pv 1)) (S.pe_op op_mulM (S.pv 5) (S.pv 4))))
      (S.pss_one (S.ps_set (i := 4) sc_q_homog.nd rfl (Or.inl rfl) (S.pe_op op_mulM (S.pv 4) (S.pv 2))))))
      (S.pss_one (S.ps_ret (S.pv 3)))))), ?_⟩
  contradiction
  refine ⟨_, ha, ?_⟩
  rw [List.length_map]
  refine fi_by (es := p.reverse) (inj := V.int) (fun pre σ H' => H' = H ∧ ∃ o : Option V, σ = [some (.ref a), some (.int x), some (.int y), some (.int (hv pre.reverse x y)), some (.int (y ^ pre.length)), o]) ⟨rfl, none, by simp [hv]⟩ ?_ ?_ ?_
  · rintro pre σ H' ⟨rfl, _⟩
    exact wkAt_rv ha
  · rintro pre e post σ H' he ⟨rfl, o, rfl⟩
    have hpl : pre.length ≤ 8 := by
      have := congrArg List.length he
      simp at this
      omega
    have mem : ∀ z ∈ pre.reverse, Sz n z := fun z hz => hw z (by
      have : z ∈ p.reverse := by rw [he]; exact List.mem_append_left _ (List.mem_reverse.mp hz)
      exact List.mem_reverse.mp this)
    have he' : Sz n e := hw e (by
      have : e ∈ p.reverse := by rw [he]; simp
      exact List.mem_reverse.mp this)
    have z1 := hv_sz zx zy pre.reverse mem
    rw [List.length_reverse] at z1
    have z2 := spow_sz zy pre.length
    have b1 : (m + 2) * pre.length ≤ (m + 2) * 8 := Nat.mul_le_mul_left _ hpl
    have b2 : m * pre.length ≤ m * 8 := Nat.mul_le_mul_left _ hpl
    contradiction
    refine ⟨z1.mulOk zx (by omega), he'.mulOk z2 (by omega), z2.mulOk zy (by omega), ?_⟩
    try contradiction
    refine ⟨some (.int e), ?_⟩
    rw [List.reverse_append, List.reverse_singleton, List.singleton_append, hv, List.length_reverse, List.length_append, List.length_singleton, Int.pow_succ]
  · rintro σ H' ⟨rfl, o, rfl⟩
    contradiction
    rw [List.reverse_reverse]
    exact k
theorem u_homP {H H1 : Hp} {Q : VK} {E : XK} {a : Addr} {p : List Int} {x y : Int} (h : SqT K H1 a (p.map V.int)) (s1 : Same H1 H) (hl : p.length ≤ 8) (hw : ∀ x ∈ p, Sz 50 x) (zx : Sz 2000 x) (zy : Sz 2000 y) (q : Q (.int (hv p x y)) H) : sp_q_homog K [.ref a, .int x, .int y] H Q E :=
  ⟨a, p, x, y, 50, 2000, rfl, s1.tup h, hl, hw, zx, zy, by decide, Nat.le_refl _, q⟩
def sp_q_sign (K : PySem.W.Frag) : Sp := fun vs H Q _ => ∃ (a : Addr) (v : V) (p : List Int) (t b : Int), vs = [.ref a, v] ∧ SqT K H a (p.map V.int) ∧ p.length ≤ 8 ∧ (∀ x ∈ p, Sz 50 x) ∧ Fz 1000 K H v t b ∧ Q (.int (sgn3 (hv p t b))) H
theorem ok_q_sign {f : Addr} {fd : FuncData} (F : Df K mg "_law_sign" s_q_sign ["_law_p", "_law_r"] f fd) (z_int : mg "int" = none)  (c_q_homog : Cal P w K mg base 1 "_law_homog" ["_law_p", "_law_x", "_law_y"] (sp_q_homog K)) : Cal P w K mg base 2 "_law_sign" ["_law_p", "_law_r"] (sp_q_sign K) := by
  refine F.cal (F.fn.ok sc_q_sign (fun vs H Q E h => ?_) (fun cdv A outer s H vs Q E hr h => ?_))
  · obtain ⟨a, v, _, _, _, rfl, _⟩ := h
    rfl
  obtain ⟨a, v, p, t, b, rfl, ha, hl, hw, hf, k⟩ := h
  refine S.ex_out ⟨_, (S.pss_cons (S.ps_set (i := 2) sc_q_sign.nd rfl (Or.inl rfl) (S.pe_cD c_q_homog (hr.mono (by decide)) (S.pa_cns (S.pv 0) (S.pa_cns (S.pe_ix ix_tup (S.pv 1) S.pe_int (fun _ _ => rfl)) (S.pa_cns (S.pe_ix ix_tup (S.pv 1) S.pe_int (fun _ _ => rfl)) S.pa_nil)))))
      (S.pss_one (S.ps_ret (S.pe_op op_sub (S.pe_cTy call_int1 rfl z_int PyProof.Rows.boot_int (S.pa_cns (S.pe_cmpR op_gt (S.pv 2) S.pe_int (nomark _)) S.pa_nil)) (S.pe_cTy call_int1 rfl z_int PyProof.Rows.boot_int (S.pa_cns (S.pe_cmpR op_lt (S.pv 2) S.pe_int (nomark _)) S.pa_nil)))))), ?_⟩
  contradiction
  refine u_z0 hf (Same.refl _) ?_
  try contradiction
  refine u_z1 hf (Same.refl _) ?_
  try contradiction
  refine u_homP ha (Same.refl _) hl hw (hf.2.1.mono (by decide)) (hf.2.2.1.mono (by decide)) ?_
  try contradiction
  exact k
def Pts (n : Nat) (K : PySem.W.Frag) (H : Hp) : List V → List (Int × Int) → Prop
  | [], [] => True
  | v :: vs, p :: ps => Fz n K H v p.1 p.2 ∧ Pts n K H vs ps
  | _, _ => False
theorem Pts.len {n : Nat} {H : Hp} : ∀ {vs : List V} {ps : List (Int × Int)}, Pts n K H vs ps → vs.length = ps.length
  | [], [], _ => rfl
  | _ :: vs, _ :: ps, h => by rw [List.length_cons, List.length_cons, Pts.len h.2]
theorem Pts.mono {n : Nat} {H H' : Hp} (s : Same H H') : ∀ {vs : List V} {ps : List (Int × Int)}, Pts n K H vs ps → Pts n K H' vs ps
  | [], [], _ => trivial
  | _ :: _, _ :: _, h => ⟨h.1.mono s, Pts.mono s h.2⟩
theorem Pts.put {n : Nat} {H : Hp} {p : Addr} {acc : List V} {o : HO} (hp : H p = some (.lst acc)) : ∀ {vs : List V} {ps : List (Int × Int)}, Pts n K H vs ps → Pts n K (upd H p o) vs ps
  | [], [], _ => trivial
  | _ :: _, _ :: _, h => ⟨h.1.put hp, Pts.put hp h.2⟩
theorem Pts.app {n : Nat} {H : Hp} : ∀ {vs ws : List V} {ps qs : List (Int × Int)}, Pts n K H vs ps → Pts n K H ws qs → Pts n K H (vs ++ ws) (ps ++ qs)
  | [], _, [], _, _, h => h
  | _ :: _, _, _ :: _, _, h, g => ⟨h.1, Pts.app h.2 g⟩
theorem Pts.take {n : Nat} {H : Hp} : ∀ (i : Nat) {vs : List V} {ps : List (Int × Int)}, Pts n K H vs ps → Pts n K H (vs.take i) (ps.take i)
  | 0, _, _, _ => by simp [Pts]
  | _ + 1, [], [], _ => trivial
  | i + 1, _ :: _, _ :: _, h => ⟨h.1, Pts.take i h.2⟩
theorem Pts.drop {n : Nat} {H : Hp} : ∀ (i : Nat) {vs : List V} {ps : List (Int × Int)}, Pts n K H vs ps → Pts n K H (vs.drop i) (ps.drop i)
  | 0, _, _, h => by simpa using h
  | _ + 1, [], [], _ => trivial
  | i + 1, _ :: _, _ :: _, h => Pts.drop i h.2
theorem Pts.get {n : Nat} {H : Hp} : ∀ {i : Nat} {vs : List V} {ps : List (Int × Int)} {p : Int × Int}, Pts n K H vs ps → ps[i]? = some p → ∃ v, vs[i]? = some v ∧ Fz n K H v p.1 p.2
  | 0, v :: _, _ :: _, _, h, e => by
    cases e
    exact ⟨v, rfl, h.1⟩
  | i + 1, _ :: vs, _ :: ps, _, h, e => Pts.get (vs := vs) (ps := ps) (i := i) h.2 e
  | i, [], [], _, _, e => by simp at e
theorem Pts.up {n m : Nat} {H : Hp} (l : n ≤ m) : ∀ {vs : List V} {ps : List (Int × Int)}, Pts n K H vs ps → Pts m K H vs ps
  | [], [], _ => trivial
  | _ :: _, _ :: _, h => ⟨h.1.up l, Pts.up l h.2⟩
theorem Pts.pos {n : Nat} {H : Hp} : ∀ {vs : List V} {ps : List (Int × Int)}, Pts n K H vs ps → ∀ p ∈ ps, 0 < p.2
  | [], [], _, p, hp => by simp at hp
  | _ :: vs, _ :: ps, h, p, hp => by
    rcases List.mem_cons.mp hp with rfl | hp
    · exact h.1.2.2.2
    · exact Pts.pos (vs := vs) (ps := ps) h.2 p hp
theorem pts_zip {n : Nat} {H : Hp} : ∀ {vs : List V} {ps : List (Int × Int)}, Pts n K H vs ps → (vs.zip ps).map Prod.fst = vs ∧ (vs.zip ps).map Prod.snd = ps ∧ ∀ e ∈ vs.zip ps, Fz n K H e.1 e.2.1 e.2.2
  | [], [], _ => ⟨rfl, rfl, fun e he => by simp at he⟩
  | v :: vs, p :: ps, h => by
    obtain ⟨a, b, c⟩ := pts_zip (vs := vs) (ps := ps) h.2
    refine ⟨by rw [List.zip_cons_cons, List.map_cons, a], by rw [List.zip_cons_cons, List.map_cons, b], fun e he => ?_⟩
    rw [List.zip_cons_cons] at he
    rcases List.mem_cons.mp he with rfl | he
    · exact h.1
    · exact c e he
theorem pts_of {n : Nat} {H : Hp} {G : Int × Int → Prop} : ∀ {vs : List V}, (∀ v ∈ vs, ∃ u d, Fz n K H v u d ∧ G (u, d)) → ∃ ps, Pts n K H vs ps ∧ ∀ p ∈ ps, G p
  | [], _ => ⟨[], trivial, by simp⟩
  | v :: vs, h => by
    obtain ⟨ps, a, b⟩ := pts_of (vs := vs) fun x hx => h x (by simp [hx])
    obtain ⟨u, d, c, g⟩ := h v (by simp)
    exact ⟨(u, d) :: ps, ⟨c, a⟩, fun p hp => by
      rcases List.mem_cons.mp hp with rfl | hp
      · exact g
      · exact b p hp⟩
theorem cop_eq {u d u' d' : Int} (h : Int.gcd u d = 1) (h' : Int.gcd u' d' = 1) (hd : 0 < d) (hd' : 0 < d') (e : u * d' = u' * d) : u = u' ∧ d = d' := by
  have e' := congrArg Int.natAbs e
  rw [Int.natAbs_mul, Int.natAbs_mul] at e'
  have a : d.natAbs ∣ d'.natAbs := Nat.Coprime.dvd_of_dvd_mul_left (m := u.natAbs) (show Nat.Coprime d.natAbs u.natAbs from Nat.Coprime.symm h) (by rw [e']; exact Nat.dvd_mul_left _ _)
  have b : d'.natAbs ∣ d.natAbs := Nat.Coprime.dvd_of_dvd_mul_left (m := u'.natAbs) (show Nat.Coprime d'.natAbs u'.natAbs from Nat.Coprime.symm h') (by rw [← e']; exact Nat.dvd_mul_left _ _)
  have c : d = d' := by
    have := Nat.dvd_antisymm a b
    omega
  subst c
  exact ⟨Int.eq_of_mul_eq_mul_right (Int.ne_of_gt hd) e, rfl⟩
--SPLIT
theorem lm_sz {u v : Int} {n : Nat} (hu : Sz 2 u) (hv : Sz 3 v) : ∀ (a : Int) (g : List Int), Sz n a → (∀ x ∈ g, Sz n x) → ∀ x ∈ lm u v a g, Sz (n + 4) x
  | a, [], ha, _, x, hx => by
    have e : x = u * a := by simpa [lm] using hx
    subst e
    exact (hu.mul ha).mono (by omega)
  | a, b :: r, ha, hg, x, hx => by
    have hb := hg b (by simp)
    rw [lm] at hx
    rcases List.mem_cons.mp hx with rfl | hx
    · exact ((hu.mul ha).sub (hv.mul hb)).mono (by omega)
    · exact lm_sz hu hv b r hb (fun y hy => hg y (by simp [hy])) x hx
theorem lcm_dvd_l {b b' : Int} (hb : 0 < b) : b ∣ lcmI b b' := by
  have e : b = ((b.natAbs : Nat) : Int) := by omega
  rw [e]
  unfold lcmI
  rw [Int.natAbs_natCast]
  exact Int.natCast_dvd_natCast.mpr (Nat.dvd_lcm_left _ _)
theorem lcm_dvd_r {b b' : Int} (hb' : 0 < b') : b' ∣ lcmI b b' := by
  have e : b' = ((b'.natAbs : Nat) : Int) := by omega
  rw [e]
  unfold lcmI
  rw [Int.natAbs_natCast]
  exact Int.natCast_dvd_natCast.mpr (Nat.dvd_lcm_right _ _)
theorem fst_mul {t b B : Int} (hb : 0 < b) (hd : b ∣ B) : fst t b B * b = t * B := by
  unfold fst
  rw [Int.fdiv_eq_ediv_of_nonneg _ (Int.le_of_lt hb), Int.mul_assoc, Int.ediv_mul_cancel hd]
theorem fl_lt {t b t' b' f l D : Int} (hb : 0 < b) (hb' : 0 < b') (hD : 0 < D) (ef : f * b = t * D) (el : l * b' = t' * D) (h : t * b' < t' * b) : f < l := by
  refine Classical.byContradiction fun n => ?_
  have h1 := Int.mul_le_mul_of_nonneg_right (show l ≤ f by omega) (Int.le_of_lt (Int.mul_pos hb hb'))
  have h2 := Int.mul_lt_mul_of_pos_right h hD
  have e1 : l * (b * b') = t' * b * D := by
    have : l * (b * b') = (l * b') * b := by grind
    rw [this, el]
    grind
  have e2 : f * (b * b') = t * b' * D := by
    have : f * (b * b') = (f * b) * b' := by grind
    rw [this, ef]
    grind
  omega
theorem lt_iff {x y c : Int} (hc : 0 < c) : (x * c < y * c) ↔ x < y := ⟨fun h => Int.lt_of_mul_lt_mul_right h (Int.le_of_lt hc), fun h => Int.mul_lt_mul_of_pos_right h hc⟩
theorem inn_iff {t b t' b' f l D : Int} (hb : 0 < b) (hb' : 0 < b') (hD : 0 < D) (ef : f * b = t * D) (el : l * b' = t' * D) (r : Int × Int) : Inn f l D r ↔ t * r.2 < r.1 * b ∧ r.1 * b' < t' * r.2 := by
  unfold Inn
  rw [← lt_iff (c := b) hb, ← lt_iff (x := r.1 * D) (c := b') hb', ← lt_iff (x := t * r.2) (c := D) hD, ← lt_iff (x := r.1 * b') (c := D) hD]
  have e1 : r.2 * f * b = t * r.2 * D := by rw [Int.mul_assoc, ef]; grind
  have e2 : r.1 * D * b = r.1 * b * D := by grind
  have e3 : r.2 * l * b' = t' * r.2 * D := by rw [Int.mul_assoc, el]; grind
  have e4 : r.1 * D * b' = r.1 * b' * D := by grind
  rw [e1, e2, e3, e4]
def GB (g : List Int) : Prop := ∃ e : Int, 0 < e ∧ Sz 3 e ∧ (g = [e] ∨ g = [e, 0, e])
theorem GB.sz {g : List Int} (h : GB g) : ∀ x ∈ prB g [], Sz (3 + 4 * ([] : List (Int × Int)).length) x := by
  obtain ⟨e, e0, ez, rfl | rfl⟩ := h
  · intro x hx
    have : x = e := by simpa [prB] using hx
    rw [this]
    exact ez
  · intro x hx
    have : x = e ∨ x = 0 ∨ x = e := by simpa [prB] using hx
    rcases this with rfl | rfl | rfl
    · exact ez
    · exact Sz00
    · exact ez
theorem GB.len {g : List Int} (h : GB g) : g.length ≤ 3 := by
  obtain ⟨e, e0, ez, rfl | rfl⟩ := h <;> simp
theorem GB.pos {g : List Int} (h : GB g) : 1 ≤ g.length := by
  obtain ⟨e, e0, ez, rfl | rfl⟩ := h <;> simp
def sp_q_product (K : PySem.W.Frag) : Sp := fun vs H Q _ => ∃ c : Int, vs = [.int c] ∧ ∀ z H' A R (g0 : List Int) (rs : List (Int × Int)) (zs : List V), Same H H' → SqT K H' z [.ref A, .ref R] → SqT K H' A ((prB g0 rs).map V.int) → H' R = some (.lst zs) → Pts 20 K H' zs rs.reverse → (∀ r ∈ rs, Int.gcd r.1 r.2 = 1) → rs.length ≤ 5 → GB g0 → (prB g0 rs).length ≤ 8 → (∀ x ∈ prB g0 rs, Sz 50 x) → Q (.ref z) H'
theorem ok_q_product {f : Addr} {fd : FuncData} (F : Df K mg "_law_product" s_q_product ["_law_cell"] f fd) (z_range : mg "range" = none) (z_tuple : mg "tuple" = none) (z_len : mg "len" = none)  (c_q_fraction : Cal P w K mg base 2 "_law_fraction" ["_law_top", "_law_bottom"] (sp_q_fraction K)) : Cal P w K mg base 3 "_law_product" ["_law_cell"] (sp_q_product K) := by
  refine F.cal (F.fn.ok sc_q_product (fun vs H Q E h => ?_) (fun cdv A outer s H vs Q E hr h => ?_))
  · obtain ⟨c, rfl, _⟩ := h
    rfl
  obtain ⟨c, rfl, k⟩ := h
  refine S.ex_out ⟨_, (S.pss_cons (S.ps_set (i := 1) sc_q_product.nd rfl (Or.inl rfl) (S.pe_tup (S.pa_cns (S.pe_op op_add S.pe_int (S.pe_op op_mod (S.pv 0) S.pe_int)) S.pa_nil)))
      (S.pss_cons (S.ps_set (i := 2) sc_q_product.nd rfl (Or.inl rfl) (S.pe_lst S.pa_nil))
      (S.pss_cons (S.ps_set (i := 3) sc_q_product.nd rfl (Or.inl rfl) (S.pe_op op_fdivP (S.pv 0) S.pe_int))
      (S.pss_cons (S.ps_if (S.pt_cmpR op_eq (S.pe_op op_mod (S.pv 3) S.pe_int) S.pe_int (nomark _)) (S.pss_one (S.ps_set (i := 1) sc_q_product.nd rfl (Or.inl rfl) (S.pe_tup (S.pa_cns (S.pe_ix ix_tup (S.pv 1) S.pe_int (fun _ _ => rfl)) (S.pa_cns S.pe_int (S.pa_cns (S.pe_ix ix_tup (S.pv 1) S.pe_int (fun _ _ => rfl)) S.pa_nil)))))) S.pss_nil)
      (S.pss_cons (S.ps_set (i := 3) sc_q_product.nd rfl (Or.inl rfl) (S.pe_op op_fdivP (S.pv 3) S.pe_int))
      (S.pss_cons (S.ps_for PassesOwn.never rfl (S.pi_range1 rfl z_range (S.pa_cns (S.pe_op op_mod (S.pv 3) S.pe_int) S.pa_nil)) (S.pg_name (i := 4) sc_q_product.nd rfl (Or.inl rfl)) (S.pss_cons (S.ps_set (i := 5) sc_q_product.nd rfl (Or.inr rfl) (S.pe_cD c_q_fraction (hr.mono (by decide)) (S.pa_cns (S.pe_op op_sub (S.pe_op op_mod (S.pe_op op_fdivP (S.pv 3) S.pe_int) S.pe_int) S.pe_int) (S.pa_cns (S.pe_op op_add S.pe_int (S.pe_op op_mod (S.pe_op op_fdivP (S.pv 3) S.pe_int) S.pe_int)) S.pa_nil))))
      (S.pss_cons (S.ps_set (i := 3) sc_q_product.nd rfl (Or.inl rfl) (S.pe_op op_fdivP (S.pe_op op_fdivP (S.pv 3) S.pe_int) S.pe_int))
      (S.pss_cons (S.ps_expr (S.pe_bm PySem.F.plainAttrs_list PySem.F.slot_list_append PySem.F.type_list_append mt_append (S.pv 2) (S.pa_cns (S.pv 5) S.pa_nil)))
      (S.pss_cons (S.ps_set (i := 6) sc_q_product.nd rfl (Or.inl rfl) (S.pe_op op_cat (S.pe_lst (S.pa_cns S.pe_int S.pa_nil)) (S.pe_comp (ts := ["_law_weight"]) (fs := [(5, "_law_root")]) rfl (CpScope.of (sc := defScope s_q_product) (N := ["_law_cell", "_law_found", "_law_roots", "_law_part", "_law_k", "_law_root", "_law_longer", "_law_j"]) rfl rfl (by decide +kernel)) (S.pi_tup (S.pv 1)) (fun _ _ _ => (S.pg_name (i := 0) (show List.Nodup (["_law_weight", "_law_root"] : List Str) by decide +kernel) rfl (Or.inl rfl))) (fun _ _ _ => S.pts_nil) (fun _ _ _ => (S.pe_op op_mulM (S.pv 0) (S.pe_ix (ix_tupK K) (S.pv 1) S.pe_int (fun _ _ => rfl)))))))
      (S.pss_cons (S.ps_for PassesOwn.never rfl (S.pi_range1 rfl z_range (S.pa_cns (S.pe_cB call_len_seq rfl z_len PySem.boot_len (S.pa_cns (S.pv 1) S.pa_nil)) S.pa_nil)) (S.pg_name (i := 7) sc_q_product.nd rfl (Or.inl rfl)) (S.pss_one (S.ps_asg (S.pe_op op_sub (S.pe_ix ix_list (S.pv 6) (S.pv 7) (fun _ _ => rfl)) (S.pe_op op_mulM (S.pe_ix ix_tup (S.pv 1) (S.pv 7) (fun _ _ => rfl)) (S.pe_ix ix_tup (S.pv 5) S.pe_int (fun _ _ => rfl)))) (S.pg_sub (S.pv 6) (S.pv 7) set_list))))
      (S.pss_one (S.ps_set (i := 1) sc_q_product.nd rfl (Or.inl rfl) (S.pe_cTy call_tuple_of rfl z_tuple PyProof.Rows.boot_tuple (S.pa_cns (S.pv 6) S.pa_nil))))))))))
      (S.pss_one (S.ps_ret (S.pe_tup (S.pa_cns (S.pv 1) (S.pa_cns (S.pv 2) S.pa_nil))))))))))), ?_⟩
  refine seq_pt (fun σ' H' => Same H H' ∧ ∃ (A : Addr) (e : Int), 0 < e ∧ Sz 3 e ∧ σ' = [some (.int c), some (.ref A), none, none, none, none, none, none] ∧ SqT K H' A ([e].map V.int)) (fun N hN => ?_) ?_
  · contradiction
    refine ⟨by decide, fun p1 hp1 => hN _ _ ⟨Same.upd hp1 _, p1, 1 + c % 5, by omega, by unfold Sz; omega, rfl, .of upd_same⟩⟩
  rintro σ H1 ⟨s1, A0, e, e0, ez, rfl, hA0⟩
  refine seq_pt (fun σ' H' => Same H H' ∧ ∃ (p2 : Addr), σ' = [some (.int c), some (.ref A0), some (.ref p2), none, none, none, none, none] ∧ SqT K H' A0 ([e].map V.int) ∧ H p2 = none ∧ H' p2 = some (.lst [])) (fun N hN => ?_) ?_
  · contradiction
    exact ⟨by decide, fun p2 hp2 => hN _ _ ⟨s1.trans (Same.upd hp2 _), p2, rfl, (Same.upd hp2 _).tup hA0, Same.free s1 hp2, upd_same⟩⟩
  clear hA0
  rintro σ H2 ⟨s2, p2, rfl, hA0, h2n, hR⟩
  refine seq_pt (fun σ' H' => H' = H2 ∧ ∃ (part : Int), σ' = [some (.int c), some (.ref A0), some (.ref p2), some (.int part), none, none, none, none]) (fun N hN => ?_) ?_
  · contradiction
    exact ⟨⟨by decide, by decide⟩, hN _ _ ⟨rfl, _, rfl⟩⟩
  rintro σ H3 ⟨rfl, part0, rfl⟩
  refine seq_pt (fun σ' H' => Same H H' ∧ ∃ (A : Addr) (g0 : List Int), GB g0 ∧ σ' = [some (.int c), some (.ref A), some (.ref p2), some (.int part0), none, none, none, none] ∧ SqT K H' A (g0.map V.int) ∧ H' p2 = some (.lst [])) (fun N hN => ?_) ?_
  · contradiction
    refine ⟨by decide, ?_⟩
    split
    · refine z_ixT hA0 (at0 _ _) ?_
      try contradiction
      refine z_ixT hA0 (at0 _ _) ?_
      try contradiction
      refine ⟨by decide, fun p3 hp3 => ?_⟩
      have sp := Same.upd hp3 (.tup [V.int e, .int 0, .int e])
      exact hN _ _ ⟨s2.trans sp, p3, [e, 0, e], ⟨e, e0, ez, .inr rfl⟩, rfl, .of upd_same, sp _ _ hR⟩
    · exact hN _ _ ⟨s2, A0, [e], ⟨e, e0, ez, .inl rfl⟩, rfl, hA0, hR⟩
  clear hA0 hR s2
  rintro σ H2 ⟨s2, A0, g0, hG, rfl, hA0, hR⟩
  refine seq_pt (fun σ' H' => H' = H2 ∧ ∃ (part : Int), σ' = [some (.int c), some (.ref A0), some (.ref p2), some (.int part), none, none, none, none]) (fun N hN => ?_) ?_
  · contradiction
    exact ⟨⟨by decide, by decide⟩, hN _ _ ⟨rfl, _, rfl⟩⟩
  rintro σ H3 ⟨rfl, part1, rfl⟩
  contradiction
  refine ⟨by decide, by omega, by omega, ?_⟩
  refine fi_n (part1 % 6).toNat (fun i => .int (0 + (i : Nat))) (fun i σ H' => Same H H' ∧ ∃ (A : Addr) (part : Int) (rs : List (Int × Int)) (zs : List V) (o1 o2 o3 o4 : Option V), σ = [some (.int c), some (.ref A), some (.ref p2), some (.int part), o1, o2, o3, o4] ∧ SqT K H' A ((prB g0 rs).map V.int) ∧ H' p2 = some (.lst zs) ∧ Pts 20 K H' zs rs.reverse ∧ (∀ r ∈ rs, Int.gcd r.1 r.2 = 1) ∧ rs.length = i ∧ ∀ x ∈ prB g0 rs, Sz (3 + 4 * rs.length) x)
    ⟨s2, A0, _, [], [], _, _, _, _, rfl, hA0, hR, trivial, by simp, rfl, hG.sz⟩ ?_ ?_ ?_
  · rintro i σ H' _
    exact wkAt_range
  · rintro i σ H' hi ⟨s3, A, part, rs, zs, o1, o2, o3, o4, rfl, hA, hR, hP, hgc, hl, hz⟩
    have lg : (prB g0 rs).length = g0.length + i := by rw [← hl]; exact prB_len g0 rs
    have l3 := hG.len
    have l1 := hG.pos
    contradiction
    refine ⟨⟨by decide, by decide⟩, by decide, ⟨by decide, by decide⟩, by decide, _, _, 10, rfl, by unfold Sz; omega, by unfold Sz; omega, by decide, by omega, fun z H4 v u s4 hf av bu _ gc => ?_⟩
    have hv3 : Sz 3 v := by unfold Sz; omega
    have hu2 : Sz 2 u := by have := hf.2.2.2; unfold Sz; omega
    try contradiction
    refine ⟨⟨by decide, by decide⟩, ⟨by decide, by decide⟩, .inl ⟨rfl, _, .of (s4 _ _ hR)⟩, p2, zs, _, rfl, rfl, s4 _ _ hR, by rw [hP.len, List.length_reverse, hl]; exact Nat.lt_of_lt_of_le (show i < 6 by omega) (by decide), ?_⟩
    have hR4 := s4 _ _ hR
    have s5 : Same H (upd H4 p2 (.lst (zs ++ [z]))) := (s3.trans s4).put h2n
    have hA5 : SqT K (upd H4 p2 (.lst (zs ++ [z]))) A ((prB g0 rs).map V.int) := tup_put (s4.tup hA) hR4
    have hf5 : Fz 10 K (upd H4 p2 (.lst (zs ++ [z]))) z v u := hf.put hR4
    have hP5 : Pts 20 K (upd H4 p2 (.lst (zs ++ [z]))) (zs ++ [z]) ((v, u) :: rs).reverse := by
      rw [List.reverse_cons]
      exact Pts.put hR4 (Pts.app (hP.mono s4) ⟨hf.up (by decide), trivial⟩)
    have hR5 : (upd H4 p2 (.lst (zs ++ [z]))) p2 = some (.lst (zs ++ [z])) := upd_same
    generalize upd H4 p2 (.lst (zs ++ [z])) = H5 at *
    try contradiction
    intro p6 hp6
    have s6 := Same.upd hp6 (.lst [V.int 0])
    have g6 : (upd H5 p6 (.lst [V.int 0])) p6 = some (.lst [V.int 0]) := upd_same
    generalize upd H5 p6 (.lst [V.int 0]) = H6 at *
    refine ⟨⟨_, s6.tup hA5⟩, fun p7 hp7 => cin_map (es := prB g0 rs) (inj := V.int) (fun w => .int (w * u)) (by rw [lg]; exact Nat.le_trans (show g0.length + i ≤ 9 by omega) (by decide)) hp7 (wk_tup (s6.tup hA5)) ?_ ?_⟩
    · intro w H7 R hw s7 hR7
      contradiction
      refine u_z1 (hf5.mono s6) s7 ?_
      try contradiction
      exact ⟨(hz w hw).mulOk hu2 (by omega), hR7 _ (Same.refl _)⟩
    intro H7 s7 h7
    have e7 : (prB g0 rs).map (fun w => V.int (w * u)) = ((prB g0 rs).map (u * ·)).map V.int := by
      rw [List.map_map]
      exact List.map_congr_left fun w _ => congrArg V.int (Int.mul_comm w u)
    rw [e7] at h7
    have sl : 1000 ≤ sizeLine := by decide
    refine ⟨p6, p7, _, _, rfl, rfl, s7 _ _ g6, h7, by rw [List.length_map, List.length_map, lg]; show 1 + (g0.length + i) ≤ sizeLine; omega, fun p8 hp8 => ?_⟩
    have s67 := s6.trans s7
    try contradiction
    refine ⟨A, _, rfl, .inr ((s67.trans (Same.upd hp8 _)).tup hA5), ?_⟩
    rw [List.length_map, lg]
    refine ⟨by omega, by omega, ?_⟩
    rw [show (((g0.length + i : Nat) : Int)).toNat = g0.length + i by omega]
    refine fi_n (g0.length + i) (fun j => .int (0 + (j : Nat))) (fun j σ H' => Same H7 H' ∧ ∃ (D g1 g2 : List Int) (a : Int) (o : Option V), σ = [some (.int c), some (.ref A), some (.ref p2), some (.int (part / 6 / 39)), some (.int (0 + (i : Nat))), some z, some (.ref p8), o] ∧ H' p8 = some (.lst ((D ++ u * a :: g2.map (u * ·)).map V.int)) ∧ prB g0 rs = g1 ++ g2 ∧ g1.length = j ∧ D.length = j ∧ D ++ lm u v a g2 = lm u v 0 (prB g0 rs))
      ⟨Same.upd hp8 _, [], [], prB g0 rs, 0, _, rfl, by rw [upd_same, Int.mul_zero]; rfl, rfl, rfl, rfl, rfl⟩ ?_ ?_ ?_
    · rintro j σ H' _
      exact wkAt_range
    · rintro j σ H8 hj ⟨s8, D, g1, g2, a, o, rfl, hm, hg, hg1, hD, hlm⟩
      cases g2 with
      | nil =>
        have := congrArg List.length hg
        rw [List.append_nil] at this
        omega
      | cons y g2 =>
        simp only [z_seq, z_next, z_ifS, z_ret, z_drop, z_asg, z_gname, z_par, z_var0, z_varS, z_c, z_op, z_un, z_rI, z_rI0, z_rU, z_eqI, z_neI, z_eqB, z_neB, z_test, z_tB, z_exb, z_exi, z_ex2, z_exl1, z_exl2, z_not, z_and, z_or, z_andV, z_orV, z_notV, z_if, z_call, z_nil, z_cons, z_cb, z_tup, z_lst, z_chain, z_comp, z_rng1, z_rng2, z_ilist, z_itup, z_exr, z_kp1, z_kp2, z_for, z_sl, z_nopart, z_part, z_bm0, z_bm, z_cxK, z_noxK, z_rev, z_ien, z_irv, z_gsub, z_exlr, z_intB, z_raise, z_try, z_tryAs, z_down, z_exd, z_revL, z_iany, z_izip, z_dnew, z_cv, cpσ, List.getElem?_cons_zero, List.getElem?_cons_succ, Option.join_some, List.set_cons_zero, List.set_cons_succ, List.append_nil, decide_eq_true_eq, Bool.not_eq_true', decide_eq_false_iff_not, Bool.not_not, ite_not, Bool.false_eq_true, Bool.true_eq_false, if_false, if_true, if_pos, List.length_cons, List.length_nil, Nat.zero_add, Nat.reduceAdd, small1, small2, true_and, and_true, L2.start, List.map_cons, List.map_nil, Bool.not_true, Bool.not_false, Nat.reduceSub, List.replicate_succ, List.replicate_zero, List.cons_append, List.nil_append, Int.zero_add]
        rw [List.map_cons] at hm
        have hy : y ∈ prB g0 rs := by rw [hg]; simp
        have hA8 := (s67.trans s8).tup hA5
        have i1 : atI ((D ++ u * a :: u * y :: g2.map (u * ·)).map V.int) ((j : Nat) : Int) = some (.int (u * a)) := by
          rw [← hD]
          exact at_mid
        have i2 : atI ((prB g0 rs).map V.int) ((j : Nat) : Int) = some (.int y) := by
          rw [hg, ← hg1]
          exact at_mid
        refine z_ixL (.of hm) i1 ?_
        try contradiction
        refine z_ixT hA8 i2 ?_
        try contradiction
        refine u_z0 (hf5.mono s67) s8 ?_
        try contradiction
        refine ⟨(hz y hy).mulOk hv3 (by omega), p8, _, _, j, rfl, rfl, hm, by rw [← hD]; exact ixN_mid, s8.put hp8, D ++ [u * a - v * y], g1 ++ [y], g2, y, _, rfl, ?_, by rw [hg]; simp, by simp [hg1], by simp [hD], ?_⟩
        · rw [upd_same, ← hD, set_mid, Int.mul_comm y v, List.append_assoc]
          rfl
        · rw [← hlm, List.append_assoc]
          rfl
    · rintro σ H8 ⟨s8, D, g1, g2, a, o, rfl, hm, hg, hg1, hD, hlm⟩
      cases g2 with
      | cons y g2 =>
        have := congrArg List.length hg
        rw [List.length_append, List.length_cons] at this
        omega
      | nil =>
        contradiction
        refine ⟨p8, _, rfl, .inl ⟨.of hm, fun p9 hp9 => ?_⟩⟩
        try contradiction
        have s9 := s8.trans (Same.upd hp9 (.tup ((D ++ [u * a]).map V.int)))
        have s59 := s67.trans s9
        refine ⟨s5.trans s59, p9, _, (v, u) :: rs, zs ++ [z], _, _, _, _, rfl, ?_, s59 _ _ hR5, hP5.mono s59, fun r hr => by
          rcases List.mem_cons.mp hr with rfl | hr
          · exact gc
          · exact hgc r hr, by rw [List.length_cons, hl], ?_⟩
        · have e9 : prB g0 ((v, u) :: rs) = D ++ [u * a] := hlm.symm
          rw [e9]
          exact .of upd_same
        · intro x hx
          have := lm_sz hu2 hv3 0 (prB g0 rs) Sz00 hz x hx
          exact this.mono (by rw [List.length_cons]; omega)
  · rintro σ H' ⟨s3, A, part, rs, zs, o1, o2, o3, o4, rfl, hA, hR, hP, hgc, hl, hz⟩
    contradiction
    (intro q hq; generalize eq : upd _ q _ = Gq; obtain ⟨sq, gq⟩ := nw hq eq; clear eq hq)
    have hl5 : rs.length ≤ 5 := by omega
    have l3 := hG.len
    exact k q _ A p2 g0 rs zs (s3.trans sq) (.of gq) (sq.tup hA) (sq _ _ hR) (hP.mono sq) hgc hl5 hG (by rw [prB_len]; omega) fun x hx => (hz x hx).mono (by omega)
--SPLIT
--SPLIT
def Cts (K : PySem.W.Frag) (H : Hp) (us : List V) (cs : List (Int × Int)) : Prop := Pts 150 K H us cs ∧ ∀ c ∈ cs, Int.gcd c.1 c.2 = 1
theorem Cts.mono {H H' : Hp} {us : List V} {cs : List (Int × Int)} (h : Cts K H us cs) (s : Same H H') : Cts K H' us cs := ⟨h.1.mono s, h.2⟩
theorem Cts.app {H : Hp} {us vs : List V} {cs ds : List (Int × Int)} (h : Cts K H us cs) (g : Cts K H vs ds) : Cts K H (us ++ vs) (cs ++ ds) := ⟨h.1.app g.1, fun c hc => (List.mem_append.mp hc).elim (h.2 c) (g.2 c)⟩
def lt2 (x y : Int × Int) : Prop := x.1 * y.2 < y.1 * x.2
instance (x y : Int × Int) : Decidable (lt2 x y) := by unfold lt2; infer_instance
def gapN (cs : List (Int × Int)) (r : Int × Int) : Nat := (cs.takeWhile fun c => decide (lt2 c r)).length
def gapI (cs : List (Int × Int)) (r : Int × Int) : Int := if cs[gapN cs r]? = some r then -1 else (gapN cs r : Nat)
theorem gapN_of : ∀ {cs : List (Int × Int)} {r : Int × Int} {k : Nat}, k ≤ cs.length → (∀ c ∈ cs.take k, lt2 c r) → (∀ c, cs[k]? = some c → ¬ lt2 c r) → gapN cs r = k
  | [], r, k, hk, _, _ => by
    have : k = 0 := by simpa using hk
    subst this
    rfl
  | c :: cs, r, 0, _, _, h => by
    unfold gapN
    rw [List.takeWhile_cons_of_neg (by simpa using h c rfl)]
    rfl
  | c :: cs, r, k + 1, hk, h1, h2 => by
    have ih := gapN_of (cs := cs) (r := r) (k := k) (by simpa using hk) (fun d hd => h1 d (by simp [hd])) (fun d hd => h2 d hd)
    unfold gapN at ih ⊢
    rw [List.takeWhile_cons_of_pos (by simpa using h1 c (by simp)), List.length_cons, ih]
theorem gapN_le (cs : List (Int × Int)) (r : Int × Int) : gapN cs r ≤ cs.length := by
  unfold gapN
  exact (List.takeWhile_prefix _).length_le
theorem Pts.at {n : Nat} {H : Hp} {us : List V} {cs : List (Int × Int)} {i : Nat} (h : Pts n K H us cs) (hi : i < us.length) : ∃ v c, us[i]? = some v ∧ cs[i]? = some c ∧ Fz n K H v c.1 c.2 := by
  have e : cs[i]? = some (cs[i]'(by rw [← h.len]; exact hi)) := List.getElem?_eq_getElem _
  obtain ⟨v, ev, f⟩ := h.get e
  exact ⟨v, _, ev, e, f⟩
def sp_q_gap (K : PySem.W.Frag) : Sp := fun vs H Q _ => ∃ (a : Addr) (v : V) (us : List V) (cs : List (Int × Int)) (r : Int × Int), vs = [.ref a, v] ∧ SqL K H a us ∧ Pts 150 K H us cs ∧ Fz 150 K H v r.1 r.2 ∧ Q (.int (gapI cs r)) H
theorem ok_q_gap {f : Addr} {fd : FuncData} (F : Df K mg "_law_gap" s_q_gap ["_law_cuts_here", "_law_r"] f fd) (z_len : mg "len" = none)  (c_q_less : Cal P w K mg base 1 "_law_less" ["_law_one", "_law_other"] (sp_q_less K)) : Cal P w K mg base 2 "_law_gap" ["_law_cuts_here", "_law_r"] (sp_q_gap K) := by
  refine F.cal (F.fn.ok sc_q_gap (fun vs H Q E h => ?_) (fun cdv A outer s H vs Q E hr h => ?_))
  · obtain ⟨a, v, _, _, _, rfl, _⟩ := h
    rfl
  obtain ⟨a, v, us, cs, r, rfl, ha, hp, hf, k⟩ := h
  refine S.ex_out ⟨_, (S.pss_cons (S.ps_set (i := 2) sc_q_gap.nd rfl (Or.inl rfl) S.pe_int)
      (S.pss_cons (S.ps_while PassesOwn.never (S.PW_pt (S.pw_and (S.pt_cmpR op_lt (S.pv 2) (S.pe_cB call_len_seq rfl z_len PySem.boot_len (S.pa_cns (S.pv 0) S.pa_nil)) (nomark _)) (S.pw_and1 (S.pt_val (S.pe_cD c_q_less (hr.mono (by decide)) (S.pa_cns (S.pe_ix ix_list (S.pv 0) (S.pv 2) (fun _ _ => rfl)) (S.pa_cns (S.pv 1) S.pa_nil))))))) (S.pss_one (S.ps_set (i := 2) sc_q_gap.nd rfl (Or.inl rfl) (S.pe_op op_add (S.pv 2) S.pe_int))))
      (S.pss_cons (S.ps_if (S.PW_pt (S.pw_and (S.pt_cmpR op_lt (S.pv 2) (S.pe_cB call_len_seq rfl z_len PySem.boot_len (S.pa_cns (S.pv 0) S.pa_nil)) (nomark _)) (S.pw_and1 (S.pt_cmpR (op_eqT hr.units) (S.pe_ix ix_list (S.pv 0) (S.pv 2) (fun _ _ => rfl)) (S.pv 1) (nomark _))))) (S.pss_one (S.ps_ret (S.pe_un un_neg S.pe_int))) S.pss_nil)
      (S.pss_one (S.ps_ret (S.pv 2)))))), ?_⟩
  contradiction
  have lu := hp.len
  refine while_go (fun σ H2 => H2 = H ∧ ∃ j : Nat, σ = [some (.ref a), some v, some (.int (j : Nat))] ∧ j ≤ us.length ∧ ∀ c ∈ cs.take j, lt2 c r) (fun σ _ => match σ with | [_, _, some (.int j)] => us.length - j.toNat | _ => 0) ⟨rfl, 0, rfl, Nat.zero_le _, by simp⟩ ?_
  rintro σ H2 ⟨rfl, j, rfl, hj, hle⟩
  contradiction
  refine ⟨a, us, rfl, .inl ha, ?_⟩
  by_cases hjl : j < us.length
  · obtain ⟨v2, c2, ev2, ec2, f2⟩ := hp.at hjl
    rw [if_pos (by omega)]
    refine z_ixL ha (atI_nat ev2) ?_
    try contradiction
    refine ⟨_, _, _, _, _, _, rfl, f2.up (by decide), hf.up (by decide), ?_⟩
    try contradiction
    by_cases hlt : c2.1 * r.2 < r.1 * c2.2
    · rw [if_pos hlt]
      refine wb_of ?_
      contradiction
      refine ⟨⟨j + 1, rfl, hjl, fun c hc => ?_⟩, ?_⟩
      · rw [List.take_succ, ec2] at hc
        rcases List.mem_append.mp hc with hc | hc
        · exact hle c hc
        · have : c = c2 := by simpa using hc
          subst this
          exact hlt
      · show us.length - ((j : Int) + 1).toNat < us.length - (j : Int).toNat
        omega
    · rw [if_neg hlt]
      try contradiction
      have eg : gapN cs r = j := gapN_of (by omega) hle fun c hc => by
        rw [ec2] at hc
        cases hc
        exact hlt
      refine ⟨a, us, rfl, .inl ha, ?_⟩
      rw [if_pos (by omega)]
      refine z_ixL ha (atI_nat ev2) ?_
      obtain ⟨⟨x1, rfl, hx1⟩, _⟩ := id f2
      obtain ⟨⟨x2, rfl, hx2⟩, _⟩ := id hf
      try contradiction
      refine eq_tints (ns := [c2.1, c2.2]) (ms := [r.1, r.2]) hx1 hx2 ?_
      try contradiction
      unfold gapI at k
      rw [eg, ec2] at k
      by_cases he : c2 = r
      · subst he
        rw [if_pos rfl]
        rw [if_pos rfl] at k
        exact k
      · rw [if_neg fun z => he (by
          simp only [List.cons.injEq, and_true] at z
          exact Prod.ext z.1 z.2)]
        rw [if_neg fun z => he (Option.some.inj z)] at k
        exact k
  · rw [if_neg (by omega)]
    try contradiction
    have ej : j = us.length := by omega
    have en : cs[j]? = none := List.getElem?_eq_none_iff.mpr (by omega)
    have eg : gapN cs r = j := gapN_of (by omega) hle fun c hc => by
      rw [en] at hc
      cases hc
    refine ⟨a, us, rfl, .inl ha, ?_⟩
    rw [if_neg (by omega)]
    unfold gapI at k
    rw [eg, en, if_neg (by simp)] at k
    exact k
--SPLIT
def cAt (cs : List (Int × Int)) (i : Nat) : Int × Int := cs.getD i (0, 1)
def Rise (cs : List (Int × Int)) : Prop := ∀ i : Nat, i + 1 < cs.length → lt2 (cAt cs i) (cAt cs (i + 1))
theorem cAt_of {cs : List (Int × Int)} {i : Nat} {c : Int × Int} (h : cs[i]? = some c) : cAt cs i = c := by
  unfold cAt
  rw [List.getD_eq_getElem?_getD, h]
  rfl
def sp_q_rise (K : PySem.W.Frag) : Sp := fun vs H Q _ => ∃ (a : Addr) (us : List V) (cs : List (Int × Int)), vs = [.ref a] ∧ SqL K H a us ∧ Pts 150 K H us cs ∧ cs.length ≤ 100 ∧ ∀ b H', Same H H' → (b = true ↔ Rise cs) → Q (.bl b) H'
theorem nil_filter {α : Type} {l : List α} {f : α → Bool} : l.filter f = [] ↔ ∀ x ∈ l, f x = false := by
  rw [List.filter_eq_nil_iff]
  exact ⟨fun h x hx => by simpa using h x hx, fun h x hx => by simp [h x hx]⟩
theorem ok_q_rise {f : Addr} {fd : FuncData} (F : Df K mg "_law_rise" s_q_rise ["_law_cuts_here"] f fd) (z_range : mg "range" = none) (z_len : mg "len" = none)  (c_q_less : Cal P w K mg base 1 "_law_less" ["_law_one", "_law_other"] (sp_q_less K)) : Cal P w K mg base 2 "_law_rise" ["_law_cuts_here"] (sp_q_rise K) := by
  refine F.cal (F.fn.ok sc_q_rise (fun vs H Q E h => ?_) (fun cdv A outer s H vs Q E hr h => ?_))
  · obtain ⟨a, _, _, rfl, _⟩ := h
    rfl
  obtain ⟨a, us, cs, rfl, ha, hp, h100, k⟩ := h
  refine S.ex_out ⟨_, (S.pss_one (S.ps_ret (S.pe_cmpR (op_eqD hr.units) (S.pe_comp (ts := ["_law_k"]) (fs := [(0, "_law_cuts_here")]) rfl (CpScope.of (sc := defScope s_q_rise) (N := ["_law_cuts_here"]) rfl rfl (by decide +kernel)) (S.pi_range2 rfl z_range (S.pa_cns S.pe_int (S.pa_cns (S.pe_cB call_len_seq rfl z_len PySem.boot_len (S.pa_cns (S.pv 0) S.pa_nil)) S.pa_nil))) (fun _ _ _ => (S.pg_name (i := 0) (show List.Nodup (["_law_k", "_law_cuts_here"] : List Str) by decide +kernel) rfl (Or.inl rfl))) (fun _ _ _ => (S.pts_one (S.pt_not (S.pt_val (S.pe_cD c_q_less (hr.mono (by decide)) (S.pa_cns (S.pe_ix (ix_listK K) (S.pv 1) (S.pe_op op_sub (S.pv 0) S.pe_int) (fun _ _ => rfl)) (S.pa_cns (S.pe_ix (ix_listK K) (S.pv 1) (S.pv 0) (fun _ _ => rfl)) S.pa_nil))))))) (fun _ _ _ => (S.pv 0))) (S.pe_lst S.pa_nil) (nomark _)))), ?_⟩
  contradiction
  have lu := hp.len
  refine ⟨a, us, rfl, .inl ha, ?_⟩
  refine ⟨⟨by decide, by decide, by omega, by omega⟩, fun p0 hp0 => ?_⟩
  rw [show (((us.length : Nat) : Int) - 1).toNat = us.length - 1 by omega]
  refine cin_filter (es := List.range (us.length - 1)) (inj := fun i => .int (1 + (i : Nat))) (fun i => !decide (lt2 (cAt cs i) (cAt cs (i + 1)))) (fun i => .int (1 + (i : Nat))) (by rw [List.length_range]; exact Nat.le_trans (show us.length - 1 ≤ 100 by omega) (by decide)) hp0 wk_range ?_ ?_
  · intro i H2 R RF hi s2 hR hF
    have hil : i + 1 < us.length := by have := List.mem_range.mp hi; omega
    obtain ⟨v1, c1, ev1, ec1, f1⟩ := hp.at (show i < us.length by omega)
    obtain ⟨v2, c2, ev2, ec2, f2⟩ := hp.at hil
    rw [cAt_of ec1, cAt_of ec2] at hR hF
    contradiction
    refine z_ixL (s2.seq ha) (show atI us (1 + ((i : Nat) : Int) - 1) = some v1 by rw [show 1 + ((i : Nat) : Int) - 1 = ((i : Nat) : Int) by omega]; exact atI_nat ev1) ?_
    try contradiction
    refine z_ixL (s2.seq ha) (show atI us (1 + ((i : Nat) : Int)) = some v2 by rw [show 1 + ((i : Nat) : Int) = ((i + 1 : Nat) : Int) by omega]; exact atI_nat ev2) ?_
    try contradiction
    refine ⟨_, _, _, _, _, _, rfl, (f1.up (by decide)).mono s2, (f2.up (by decide)).mono s2, ?_⟩
    try contradiction
    by_cases hlt : c1.1 * c2.2 < c2.1 * c1.2
    · rw [if_pos hlt]
      exact hF (by rw [decide_eq_true (show lt2 c1 c2 from hlt)]; rfl) _ (Same.refl _)
    · rw [if_neg hlt]
      exact hR (by rw [decide_eq_false (show ¬ lt2 c1 c2 from hlt)]; rfl) _ (Same.refl _)
  intro H2 s2 h2
  have em : ((List.range (us.length - 1)).filter fun i => !decide (lt2 (cAt cs i) (cAt cs (i + 1)))).map (fun i => V.int (1 + ((i : Nat) : Int))) = (((List.range (us.length - 1)).filter fun i => !decide (lt2 (cAt cs i) (cAt cs (i + 1)))).map (fun i => 1 + ((i : Nat) : Int))).map V.int := by rw [List.map_map]; rfl
  rw [em] at h2
  try contradiction
  refine ⟨by decide, fun p1 hp1 => ?_⟩
  refine eq_lints (ms := []) ((Same.upd hp1 _).seq (.of h2)) (.of upd_same) ?_
  refine k _ _ (s2.trans (Same.upd hp1 _)) ?_
  rw [decide_eq_true_iff, List.map_eq_nil_iff, nil_filter]
  refine ⟨fun h i hi => ?_, fun h i hi => ?_⟩
  · have := h i (List.mem_range.mpr (by omega))
    simpa using this
  · have := h i (by have := List.mem_range.mp hi; omega)
    simp [this]
--SPLIT
def chB (p : List Int) (c : Int × Int) : Nat := chg (sprd (-c.2) 1 (seen p c.1 c.2))
def chA (p : List Int) (c : Int × Int) : Nat := chg (sprd c.2 1 (seen p c.1 c.2))
def chM (p : List Int) (c d : Int × Int) : Nat := chg (betwU p (fst c.1 c.2 (lcmI c.2 d.2)) (fst d.1 d.2 (lcmI c.2 d.2)) (lcmI c.2 d.2))
def Due (p : List Int) (cs : List (Int × Int)) : Prop := p ≠ [] ∧ cs ≠ [] ∧ Rise cs ∧ chB p (cAt cs 0) = 0 ∧ chA p (cAt cs (cs.length - 1)) = 0 ∧ ∀ i : Nat, i + 1 < cs.length → chM p (cAt cs i) (cAt cs (i + 1)) ≤ 1
inductive Cu (K : PySem.W.Frag) (H : Hp) : V → Option (List (Int × Int)) → Prop where
  | good {a : Addr} {us : List V} {cs : List (Int × Int)} (h : H a = some (.lst us)) (hc : Cts K H us cs) (hl : cs.length ≤ 100) : Cu K H (.ref a) (some cs)
  | bad {a : Addr} {es : List (V × Bool)} (h : H a = some (.lst (es.map (·.1)))) (ht : ∀ e ∈ es, Tf K H e.1 e.2) (hb : (es.map (·.2)).all id = false) (hl : es.length ≤ 100) : Cu K H (.ref a) none
  | none {a : Addr} (h : H a = some (.lst [])) : Cu K H (.ref a) none
  | other {v : V} {t : Value} (ht : TyOf K H v t) (hk : PySem.W.kitOne K t (.type "list") = some false) : Cu K H v none
theorem kit_ll : PySem.W.kitOne K (.type "list") (.type "list") = some true := kitT (by decide +kernel)
theorem Cts.two {H : Hp} {us : List V} {cs : List (Int × Int)} (h : Cts K H us cs) : ∀ e ∈ us.map (fun u => (u, true)), Tf K H e.1 e.2 := fun e he => by
  obtain ⟨u, hu, rfl⟩ := List.mem_map.mp he
  obtain ⟨i, hi⟩ := List.getElem?_of_mem hu
  obtain ⟨v, c, ev, ec, f⟩ := h.1.at (List.getElem?_eq_some_iff.mp hi).1
  rw [hi] at ev
  cases ev
  obtain ⟨⟨a, rfl, ha⟩, _, _, b0⟩ := f
  have g1 := h.2 c (List.mem_of_getElem? ec)
  have e : low c.1 c.2 = true := by
    unfold low
    rw [decide_eq_true b0, g1]
    rfl
  have := Tf.two ha
  rw [e] at this
  exact this
theorem Tf.keep {H H' : Hp} {es : List (V × Bool)} (h : ∀ e ∈ es, Tf K H e.1 e.2) (s : Same H H') : ∀ e ∈ es, Tf K H' e.1 e.2 := fun e he => (h e he).mono s
theorem tyOf_mono {H H' : Hp} {v : V} {t : Value} (h : TyOf K H v t) (s : Same H H') : TyOf K H' v t := by
  cases h with
  | non => exact .non
  | bl x => exact .bl x
  | int i => exact .int i
  | str x => exact .str x
  | flt x => exact .flt x
  | lst e => exact .lst (s _ _ e)
  | frz e => exact .frz (s _ _ e)
  | tup e => exact .tup (s _ _ e)
  | dK e => exact .dK (s _ _ e)
  | dT e => exact .dT (s _ _ e)
  | ins e cl ha hn htk hm => exact .ins (s _ _ e) cl ha hn htk hm
theorem Cu.mono {H H' : Hp} {v : V} {o : Option (List (Int × Int))} (h : Cu K H v o) (s : Same H H') : Cu K H' v o := by
  cases h with
  | good h hc hl => exact .good (s _ _ h) (hc.mono s) hl
  | bad h ht hb hl => exact .bad (s _ _ h) (Tf.keep ht s) hb hl
  | none h => exact .none (s _ _ h)
  | other ht hk => exact .other (tyOf_mono ht s) hk
theorem cut_drop1 (xs : List V) : cutV xs (some 1) none = xs.drop 1 := by
  unfold cutV
  rw [HT.sIx_none, show (some (1 : Int)) = some ((1 : Nat) : Int) from rfl, HT.sIx_nat]
  cases xs with
  | nil => rfl
  | cons x r =>
    rw [Nat.min_eq_left (by simp), List.take_of_length_le (by simp)]
def sp_roots_right (K : PySem.W.Frag) : Sp := fun vs H Q _ => ∃ (a : Addr) (v : V) (p : List Int) (o : Option (List (Int × Int))), vs = [.ref a, v] ∧ SqT K H a (p.map V.int) ∧ p.length ≤ 8 ∧ (∀ x ∈ p, Sz 50 x) ∧ Cu K H v o ∧ ∀ b H', Same H H' → (b = true ↔ ∃ cs, o = some cs ∧ Due p cs) → Q (.bl b) H'
theorem ok_roots_right {f : Addr} {fd : FuncData} (F : Df K mg "roots_right" s_roots_right ["p", "cuts"] f fd) (z_zip : mg "zip" = none) (z_all : mg "all" = none) (z_isinstance : mg "isinstance" = none) (z_list : mg "list" = none) (z_len : mg "len" = none)  (c_changes : Cal P w K mg base 1 "changes" ["p"] (sp_changes K)) (c_is_fraction : Cal P w K mg base 2 "is_fraction" ["thing"] (sp_is_fraction K)) (c_below : Cal P w K mg base 3 "below" ["p", "c"] (sp_below K)) (c_above : Cal P w K mg base 3 "above" ["p", "c"] (sp_above K)) (c_less : Cal P w K mg base 1 "less" ["one", "other"] (sp_less K)) (c_between : Cal P w K mg base 3 "between" ["p", "lo", "hi"] (sp_between K)) : Cal P w K mg base 4 "roots_right" ["p", "cuts"] (sp_roots_right K) := by
  refine F.cal (F.fn.ok sc_roots_right (fun vs H Q E h => ?_) (fun cdv A outer s H vs Q E hr h => ?_))
  · obtain ⟨a, v, _, _, rfl, _⟩ := h
    rfl
  obtain ⟨a, v, p, o, rfl, ha, hl8, hw, hv, k⟩ := h
  refine S.ex_out ⟨_, (S.pss_cons (S.ps_if (S.PW_pt (S.pw_or (S.pt_cmpR (op_eqT hr.units) (S.pv 0) (S.pe_tup S.pa_nil) (nomark _)) (S.pw_or (S.pt_not (S.pt_val (S.pe_cB call_isi rfl z_isinstance PyProof.Rows.boot_isinstance (S.pa_cns (S.pv 1) (S.pa_cns (S.pe_bltn (v := .ty "list") rfl z_list PyProof.Rows.boot_list rfl) S.pa_nil))))) (S.pw_or1 (S.pt_cmpR op_eq (S.pe_cB call_len_seq rfl z_len PySem.boot_len (S.pa_cns (S.pv 1) S.pa_nil)) S.pe_int (nomark _)))))) (S.pss_one (S.ps_ret S.pe_bl)) S.pss_nil)
      (S.pss_cons (S.ps_if (S.pt_not (S.pt_val (S.pe_cB (call_all rfl) rfl z_all PyProof.Rows.boot_all (S.pa_cns (S.pe_comp (ts := ["cut"]) (fs := []) rfl (CpScope.of (sc := defScope s_roots_right) (N := ["p", "cuts", "lo", "hi"]) rfl rfl (by decide +kernel)) (S.pi_list (S.pv 1)) (fun _ _ _ => (S.pg_name (i := 0) (show List.Nodup (["cut"] : List Str) by decide +kernel) rfl (Or.inl rfl))) (fun _ _ _ => S.pts_nil) (fun _ _ _ => (S.pe_cD c_is_fraction (hr.mono (by decide)) (S.pa_cns (S.pv 0) S.pa_nil)))) S.pa_nil)))) (S.pss_one (S.ps_ret S.pe_bl)) S.pss_nil)
      (S.pss_cons (S.ps_if (S.PW_pt (S.pw_or (S.pt_cmpR op_gt (S.pe_cD c_changes (hr.mono (by decide)) (S.pa_cns (S.pe_cD c_below (hr.mono (by decide)) (S.pa_cns (S.pv 0) (S.pa_cns (S.pe_ix ix_list (S.pv 1) S.pe_int (fun _ _ => rfl)) S.pa_nil))) S.pa_nil)) S.pe_int (nomark _)) (S.pw_or1 (S.pt_cmpR op_gt (S.pe_cD c_changes (hr.mono (by decide)) (S.pa_cns (S.pe_cD c_above (hr.mono (by decide)) (S.pa_cns (S.pv 0) (S.pa_cns (S.pe_ix ix_list (S.pv 1) (S.pe_un un_neg S.pe_int) (fun _ _ => rfl)) S.pa_nil))) S.pa_nil)) S.pe_int (nomark _))))) (S.pss_one (S.ps_ret S.pe_bl)) S.pss_nil)
      (S.pss_cons (S.ps_for PassesOwn.never rfl (S.pi_zip rfl z_zip (S.pa_cns (S.pv 1) (S.pa_cns (S.pe_slice sl_list (S.pv 1) (S.po_some S.pe_int) S.po_none) S.pa_nil))) (S.pg_tup rfl (S.pgs_cons (S.pg_name (i := 2) sc_roots_right.nd rfl (Or.inl rfl)) (S.pgs_cons (S.pg_name (i := 3) sc_roots_right.nd rfl (Or.inl rfl)) S.pgs_nil))) (S.pss_one (S.ps_if (S.PW_pt (S.pw_or (S.pt_not (S.pt_val (S.pe_cD c_less (hr.mono (by decide)) (S.pa_cns (S.pv 2) (S.pa_cns (S.pv 3) S.pa_nil))))) (S.pw_or1 (S.pt_cmpR op_gt (S.pe_cD c_changes (hr.mono (by decide)) (S.pa_cns (S.pe_cD c_between (hr.mono (by decide)) (S.pa_cns (S.pv 0) (S.pa_cns (S.pv 2) (S.pa_cns (S.pv 3) S.pa_nil)))) S.pa_nil)) S.pe_int (nomark _))))) (S.pss_one (S.ps_ret S.pe_bl)) S.pss_nil)))
      (S.pss_one (S.ps_ret S.pe_bl)))))), ?_⟩
  refine seq_pt (fun σ' H' => σ' = [some (.ref a), some v, none, none] ∧ Same H H' ∧ p ≠ [] ∧ ∃ (x : Addr) (es : List (V × Bool)), v = .ref x ∧ H' x = some (.lst (es.map (·.1))) ∧ es.length ≤ 100 ∧ (∀ e ∈ es, Tf K H' e.1 e.2) ∧ ((es.map (·.2)).all id = false ∧ o = none ∨ (es.map (·.2)).all id = true ∧ es ≠ [] ∧ ∃ cs, o = some cs ∧ Cts K H' (es.map (·.1)) cs)) (fun N hN => ?_) ?_
  · contradiction
    refine ⟨by decide, fun p0 hp0 => ?_⟩
    have s0 := Same.upd hp0 (.tup [])
    refine eq_tints (ms := []) (s0.tup ha) (.of upd_same) ?_
    try contradiction
    by_cases hpe : p = []
    · rw [if_pos hpe]
      exact k false _ s0 ⟨fun z => (by cases z), fun ⟨cs, _, hd⟩ => absurd hpe hd.1⟩
    rw [if_neg hpe]
    cases hv with
    | good h hc hl =>
      rename_i x us cs
      refine isi (.lst (s0 _ _ h)) kit_ll ?_
      try contradiction
      refine ⟨x, us, rfl, .inl (.of (s0 _ _ h)), ?_⟩
      by_cases h0 : us = []
      · subst h0
        rw [if_pos (by rfl)]
        refine k false _ s0 ⟨fun z => (by cases z), fun ⟨cs', e, hd⟩ => ?_⟩
        cases e
        exact absurd (List.eq_nil_of_length_eq_zero hc.1.len.symm) hd.2.1
      · rw [if_neg (by have := List.length_pos_iff.mpr h0; omega)]
        have em : (us.map fun u => (u, true)).map (·.1) = us := by rw [List.map_map]; exact List.map_id' us
        refine hN _ _ ⟨rfl, s0, hpe, x, us.map fun u => (u, true), rfl, by rw [em]; exact s0 _ _ h, by rw [List.length_map, hc.1.len]; exact hl, Tf.keep hc.two s0, .inr ⟨?_, by simpa using h0, cs, rfl, by rw [em]; exact hc.mono s0⟩⟩
        simp
    | bad h ht hb hl =>
      rename_i x es
      refine isi (.lst (s0 _ _ h)) kit_ll ?_
      try contradiction
      refine ⟨x, _, rfl, .inl (.of (s0 _ _ h)), ?_⟩
      have h0 : es ≠ [] := fun z => by rw [z] at hb; cases hb
      rw [if_neg (by have := List.length_pos_iff.mpr h0; rw [List.length_map]; omega)]
      exact hN _ _ ⟨rfl, s0, hpe, x, es, rfl, s0 _ _ h, hl, Tf.keep ht s0, .inl ⟨hb, rfl⟩⟩
    | none h =>
      rename_i x
      refine isi (.lst (s0 _ _ h)) kit_ll ?_
      try contradiction
      refine ⟨x, _, rfl, .inl (.of (s0 _ _ h)), ?_⟩
      rw [if_pos (by rfl)]
      exact k false _ s0 ⟨fun z => (by cases z), fun ⟨cs', e, hd⟩ => by cases e⟩
    | other ht hk =>
      refine isi (tyOf_mono ht s0) hk ?_
      try contradiction
      exact k false _ s0 ⟨fun z => (by cases z), fun ⟨cs', e, hd⟩ => by cases e⟩
  rintro σ H1 ⟨rfl, s1, hpe, x, es, rfl, hx, l100, hT, hcase⟩
  refine seq_pt (fun σ' H' => σ' = [some (.ref a), some (.ref x), none, none] ∧ Same H1 H' ∧ es ≠ [] ∧ ∃ cs, o = some cs ∧ Cts K H1 (es.map (·.1)) cs) (fun N hN => ?_) ?_
  · contradiction
    refine ⟨⟨_, .of hx⟩, fun p0 hp0 => cin_map (es := es) (inj := Prod.fst) (fun e => .bl e.2) (Nat.le_trans l100 (by decide)) hp0 (wk_list (.of hx)) ?_ ?_⟩
    · intro e H2 R he s2 hR
      contradiction
      exact ⟨_, _, rfl, (hT e he).mono s2, hR _ (Same.refl _)⟩
    · intro H2 s2 h2
      have em : es.map (fun e => V.bl e.2) = (es.map (·.2)).map V.bl := map_bl es
      rw [em] at h2
      try contradiction
      refine ⟨p0, _, rfl, .of h2, ?_⟩
      rcases hcase with ⟨e1, e2⟩ | ⟨e1, e2, cs, e3, e4⟩
      · rw [e1]
        try contradiction
        subst e2
        exact k false _ (s1.trans s2) ⟨fun z => (by cases z), fun ⟨cs', e, hd⟩ => by cases e⟩
      · rw [e1]
        try contradiction
        exact hN _ _ ⟨rfl, s2, e2, cs, e3, e4⟩
  clear hcase
  rintro σ H2 ⟨rfl, s2, hne, cs, rfl, hc⟩
  generalize hus : es.map (·.1) = us at *
  have hlu := hc.1.len
  have l100u : us.length ≤ 100 := by rw [← hus, List.length_map]; exact l100
  have hneu : us ≠ [] := by rw [← hus]; simpa using hne
  have upos := List.length_pos_iff.mpr hneu
  have hx2 := s2 _ _ hx
  have hc2 := hc.mono s2
  obtain ⟨v0, c0, ev0, ec0, f0⟩ := hc2.1.at (show 0 < us.length from upos)
  obtain ⟨v9, c9, ev9, ec9, f9⟩ := hc2.1.at (show us.length - 1 < us.length by omega)
  have E0 : cAt cs 0 = c0 := cAt_of ec0
  have E9 : cAt cs (cs.length - 1) = c9 := cAt_of (by rw [← hlu]; exact ec9)
  have fals : ∀ H', Same H2 H' → ¬ Due p cs → Q (.bl false) H' := fun H' s' hn => k false _ ((s1.trans s2).trans s') ⟨fun z => (by cases z), fun ⟨cs', e, hd⟩ => by cases e; exact absurd hd hn⟩
  refine seq_pt (fun σ' H' => σ' = [some (.ref a), some (.ref x), none, none] ∧ Same H2 H' ∧ chB p (cAt cs 0) = 0 ∧ chA p (cAt cs (cs.length - 1)) = 0) (fun N hN => ?_) ?_
  · contradiction
    refine z_ixL (.of hx2) (atI_nat (j := 0) ev0) ?_
    try contradiction
    refine ⟨a, v0, p, c0.1, c0.2, rfl, (s1.trans s2).tup ha, hl8, hw, f0, fun z H3 s3 hz => ?_⟩
    obtain ⟨⟨az, rfl, haz⟩, _⟩ := hz
    try contradiction
    refine ⟨az, _, rfl, haz, ?_⟩
    rw [chg_trim]
    try contradiction
    by_cases hb0 : 0 < ((chg (sprd (-c0.2) 1 (seen p c0.1 c0.2)) : Nat) : Int)
    · rw [if_pos hb0]
      refine fals _ s3 fun hd => ?_
      have := hd.2.2.2.1
      rw [E0] at this
      unfold chB at this
      omega
    · rw [if_neg hb0]
      refine z_ixL (.of (s3 _ _ hx2)) (v := v9) ?_ ?_
      · obtain ⟨ini, y, rfl⟩ : ∃ i y, us = i ++ [y] := ⟨_, _, (List.dropLast_concat_getLast hneu).symm⟩
        have : v9 = y := by
          rw [List.length_append, List.length_singleton, Nat.add_sub_cancel, List.getElem?_append_right (Nat.le_refl _), Nat.sub_self] at ev9
          exact (Option.some.inj ev9).symm
        rw [this]
        exact atI_last _ _
      try contradiction
      refine ⟨a, v9, p, c9.1, c9.2, rfl, ((s1.trans s2).trans s3).tup ha, hl8, hw, f9.mono s3, fun z H4 s4 hz => ?_⟩
      obtain ⟨⟨az4, rfl, haz4⟩, _⟩ := hz
      try contradiction
      refine ⟨az4, _, rfl, haz4, ?_⟩
      rw [chg_trim]
      try contradiction
      by_cases ha0 : 0 < ((chg (sprd c9.2 1 (seen p c9.1 c9.2)) : Nat) : Int)
      · rw [if_pos ha0]
        refine fals _ (s3.trans s4) fun hd => ?_
        have := hd.2.2.2.2.1
        rw [E9] at this
        unfold chA at this
        omega
      · rw [if_neg ha0]
        exact hN _ _ ⟨rfl, s3.trans s4, by rw [E0]; unfold chB; omega, by rw [E9]; unfold chA; omega⟩
  rintro σ H3 ⟨rfl, s3, hB0, hA0⟩
  contradiction
  have hx3 := s3 _ _ hx2
  have hc3 := hc2.mono s3
  refine ⟨x, us, rfl, .of hx3, fun p4 hp4 => ?_⟩
  rw [cut_drop1]
  have s4 := Same.upd hp4 (.lst (us.drop 1))
  have h4 : (upd H3 p4 (.lst (us.drop 1))) p4 = some (.lst (us.drop 1)) := upd_same
  generalize upd H3 p4 (.lst (us.drop 1)) = H4 at *
  refine ⟨x, p4, rfl, ⟨_, .of (s4 _ _ hx3)⟩, ⟨_, .of h4⟩, ?_⟩
  refine fi_zip (xs := us) (ys := us.drop 1) (us.length - 1) (by rw [List.length_drop]; omega) (fun i σ H' => Same H4 H' ∧ (∃ o1 o2, σ = [some (.ref a), some (.ref x), o1, o2]) ∧ ∀ j, j < i → lt2 (cAt cs j) (cAt cs (j + 1)) ∧ chM p (cAt cs j) (cAt cs (j + 1)) ≤ 1) ⟨Same.refl _, ⟨_, _, rfl⟩, fun j hj => absurd hj (by omega)⟩ ?_ ?_ ?_
  · rintro i σ H5 ⟨s5, _⟩
    exact ⟨.of (s5 _ _ (s4 _ _ hx3)), .of (s5 _ _ h4)⟩
  · rintro i σ H5 q5 hi ⟨s5, ⟨o1, o2, rfl⟩, hj⟩ hq5
    have s6 := Same.upd hq5 (.tup [us.getD i .non, (us.drop 1).getD i .non])
    refine g_pair (.of upd_same) ?_
    obtain ⟨v1, d1, ev1, ed1, f1⟩ := hc3.1.at (show i < us.length by omega)
    obtain ⟨v2, d2, ev2, ed2, f2⟩ := hc3.1.at (show i + 1 < us.length by omega)
    have e1 : us.getD i .non = v1 := by rw [List.getD_eq_getElem?_getD, ev1]; rfl
    have e2 : (us.drop 1).getD i .non = v2 := by
      rw [List.getD_eq_getElem?_getD, List.getElem?_drop, Nat.add_comm 1 i, ev2]
      rfl
    rw [e1, e2] at s6 ⊢
    have s36 := (s4.trans s5).trans s6
    have s06 := ((s1.trans s2).trans s3).trans s36
    generalize upd H5 q5 (.tup [v1, v2]) = H6 at *
    try contradiction
    refine ⟨v1, v2, d1.1, d1.2, d2.1, d2.2, rfl, (f1.up (by decide)).mono s36, (f2.up (by decide)).mono s36, ?_⟩
    try contradiction
    have c1 := cAt_of ed1
    have c2 := cAt_of ed2
    by_cases hlt : d1.1 * d2.2 < d2.1 * d1.2
    · rw [if_pos hlt]
      refine ⟨a, v1, v2, p, d1.1, d1.2, d2.1, d2.2, rfl, s06.tup ha, hl8, hw, f1.mono s36, f2.mono s36, fun z H7 s7 hz => ?_⟩
      obtain ⟨⟨az, rfl, haz⟩, _⟩ := hz
      try contradiction
      refine ⟨az, _, rfl, haz, ?_⟩
      rw [chg_betw]
      try contradiction
      change if 1 < ((chM p d1 d2 : Nat) : Int) then _ else _
      by_cases hm : 1 < ((chM p d1 d2 : Nat) : Int)
      · rw [if_pos hm]
        refine fals _ ((s3.trans s36).trans s7) fun hd => ?_
        have := hd.2.2.2.2.2 i (by omega)
        rw [c1, c2] at this
        omega
      · rw [if_neg hm]
        refine ⟨(s5.trans s6).trans s7, ⟨_, _, rfl⟩, fun j hj' => ?_⟩
        by_cases ej : j = i
        · subst ej
          rw [c1, c2]
          exact ⟨hlt, by omega⟩
        · exact hj j (by omega)
    · rw [if_neg hlt]
      refine fals _ (s3.trans s36) fun hd => ?_
      have := hd.2.2.1 i (by omega)
      rw [c1, c2] at this
      exact hlt this
  · rintro σ H5 ⟨s5, ⟨o1, o2, rfl⟩, hj⟩
    contradiction
    refine k true _ ((((s1.trans s2).trans s3).trans s4).trans s5) ⟨fun _ => ⟨cs, rfl, hpe, fun z => hneu (List.eq_nil_of_length_eq_zero (by rw [hlu, z]; rfl)), fun i hi => (hj i (by omega)).1, hB0, hA0, fun i hi => (hj i (by omega)).2⟩, fun _ => rfl⟩
--SPLIT
def sp_q_due (K : PySem.W.Frag) : Sp := fun vs H Q _ => ∃ (a x : Addr) (p : List Int) (us : List V) (cs : List (Int × Int)), vs = [.ref a, .ref x] ∧ SqT K H a (p.map V.int) ∧ p.length ≤ 8 ∧ (∀ y ∈ p, Sz 50 y) ∧ SqL K H x us ∧ Cts K H us cs ∧ cs.length ≤ 100 ∧ ∀ b H', Same H H' → (b = true ↔ Due p cs) → Q (.bl b) H'
theorem RdDs.tups {H : Hp} {n : Nat} : ∀ {us : List V} {cs : List (Int × Int)}, Pts n K H us cs → RdDs K H us (cs.map fun c => PyData.tuple [.int c.1, .int c.2])
  | [], [], _ => .nil
  | _ :: us, c :: cs, h => by
    obtain ⟨⟨⟨a, rfl, ha⟩, _⟩, h2⟩ := h
    exact .cons (RdD.ints (ns := [c.1, c.2]) ha) (RdDs.tups h2)
theorem lay_tups : ∀ cs : List (Int × Int), PyData.canLayAll0 (cs.map fun c => PyData.tuple [.int c.1, .int c.2]) = true
  | [] => rfl
  | c :: cs => by simp [PyData.canLayAll0, PyData.canLay0, lay_tups cs]
theorem dep_tups : ∀ cs : List (Int × Int), PyData.depthAll (cs.map fun c => PyData.tuple [.int c.1, .int c.2]) ≤ 8
  | [] => by simp [PyData.depthAll]
  | c :: cs => by
    have := dep_tups cs
    simp only [List.map_cons, PyData.depthAll, PyData.depth]
    exact Nat.max_le.mpr ⟨by simp, this⟩
theorem shaped_tups (cs : List (Int × Int)) : SeqAt.shaped (.list (cs.map fun c => PyData.tuple [.int c.1, .int c.2])) = true := by
  have h1 := lay_tups cs
  have h2 := dep_tups cs
  simp [SeqAt.shaped, PyData.canLay0, PyData.depth, h1]
  omega
theorem eqv_tups : ∀ cs ds : List (Int × Int), PyData.eqvAll (cs.map fun c => PyData.tuple [.int c.1, .int c.2]) (ds.map fun c => PyData.tuple [.int c.1, .int c.2]) = decide (cs = ds)
  | [], [] => by simp [PyData.eqvAll]
  | [], _ :: _ => by simp [PyData.eqvAll]
  | _ :: _, [] => by simp [PyData.eqvAll]
  | a :: r, b :: t => by
    simp only [List.map_cons, PyData.eqvAll, PyData.eqv, eqv_tups r t, Bool.and_true]
    by_cases h' : r = t
    · by_cases h1 : a.1 = b.1 <;> by_cases h2 : a.2 = b.2 <;> simp [h1, h2, h', Prod.ext_iff]
    · simp [h']
theorem eq_cuts {H : Hp} {g : Bool → Bool} {Q : VK} {n m : Nat} {a b : Addr} {us vs : List V} {cs ds : List (Int × Int)} (ha : SqL K H a us) (hu : Pts n K H us cs) (hb : SqL K H b vs) (hv : Pts m K H vs ds) (h : Q (.bl (g (decide (cs = ds)))) H) : rEqD K g (.ref a) (.ref b) H Q :=
  ⟨_, _, .lst ha (RdDs.tups hu), .lst hb (RdDs.tups hv), shaped_tups cs, shaped_tups ds, by rw [PyData.eqv, eqv_tups]; exact h⟩
theorem ok_q_due {f : Addr} {fd : FuncData} (F : Df K mg "_law_due" s_q_due ["_law_p", "_law_cuts_here"] f fd) (z_range : mg "range" = none) (z_len : mg "len" = none)  (c_q_rise : Cal P w K mg base 2 "_law_rise" ["_law_cuts_here"] (sp_q_rise K)) (c_changes : Cal P w K mg base 1 "changes" ["p"] (sp_changes K)) (c_below : Cal P w K mg base 3 "below" ["p", "c"] (sp_below K)) (c_above : Cal P w K mg base 3 "above" ["p", "c"] (sp_above K)) (c_between : Cal P w K mg base 3 "between" ["p", "lo", "hi"] (sp_between K)) : Cal P w K mg base 4 "_law_due" ["_law_p", "_law_cuts_here"] (sp_q_due K) := by
  refine F.cal (F.fn.ok sc_q_due (fun vs H Q E h => ?_) (fun cdv A outer s H vs Q E hr h => ?_))
  · obtain ⟨a, x, _, _, _, rfl, _⟩ := h
    rfl
  obtain ⟨a, x, p, us, cs, rfl, ha, hl8, hw, hx, hc, l100, k⟩ := h
  refine S.ex_out ⟨_, (S.pss_cons (S.ps_if (S.PW_pt (S.pw_or (S.pt_cmpR (op_eqT hr.units) (S.pv 0) (S.pe_tup S.pa_nil) (nomark _)) (S.pw_or (S.pt_cmpR (op_eqD hr.units) (S.pv 1) (S.pe_lst S.pa_nil) (nomark _)) (S.pw_or1 (S.pt_not (S.pt_val (S.pe_cD c_q_rise (hr.mono (by decide)) (S.pa_cns (S.pv 1) S.pa_nil)))))))) (S.pss_one (S.ps_ret S.pe_bl)) S.pss_nil)
      (S.pss_cons (S.ps_if (S.PW_pt (S.pw_or (S.pt_cmpR op_ne (S.pe_cD c_changes (hr.mono (by decide)) (S.pa_cns (S.pe_cD c_below (hr.mono (by decide)) (S.pa_cns (S.pv 0) (S.pa_cns (S.pe_ix ix_list (S.pv 1) S.pe_int (fun _ _ => rfl)) S.pa_nil))) S.pa_nil)) S.pe_int (nomark _)) (S.pw_or1 (S.pt_cmpR op_ne (S.pe_cD c_changes (hr.mono (by decide)) (S.pa_cns (S.pe_cD c_above (hr.mono (by decide)) (S.pa_cns (S.pv 0) (S.pa_cns (S.pe_ix ix_list (S.pv 1) (S.pe_un un_neg S.pe_int) (fun _ _ => rfl)) S.pa_nil))) S.pa_nil)) S.pe_int (nomark _))))) (S.pss_one (S.ps_ret S.pe_bl)) S.pss_nil)
      (S.pss_one (S.ps_ret (S.pe_cmpR (op_eqD hr.units) (S.pe_comp (ts := ["_law_k"]) (fs := [(0, "_law_p"), (1, "_law_cuts_here")]) rfl (CpScope.of (sc := defScope s_q_due) (N := ["_law_p", "_law_cuts_here"]) rfl rfl (by decide +kernel)) (S.pi_range2 rfl z_range (S.pa_cns S.pe_int (S.pa_cns (S.pe_cB call_len_seq rfl z_len PySem.boot_len (S.pa_cns (S.pv 1) S.pa_nil)) S.pa_nil))) (fun _ _ _ => (S.pg_name (i := 0) (show List.Nodup (["_law_k", "_law_p", "_law_cuts_here"] : List Str) by decide +kernel) rfl (Or.inl rfl))) (fun _ _ _ => (S.pts_one (S.pt_cmpR op_gt (S.pe_cD c_changes (hr.mono (by decide)) (S.pa_cns (S.pe_cD c_between (hr.mono (by decide)) (S.pa_cns (S.pv 1) (S.pa_cns (S.pe_ix (ix_listK K) (S.pv 2) (S.pe_op op_sub (S.pv 0) S.pe_int) (fun _ _ => rfl)) (S.pa_cns (S.pe_ix (ix_listK K) (S.pv 2) (S.pv 0) (fun _ _ => rfl)) S.pa_nil)))) S.pa_nil)) S.pe_int (nomark _)))) (fun _ _ _ => (S.pv 0))) (S.pe_lst S.pa_nil) (nomark _)))))), ?_⟩
  have hlu := hc.1.len
  have fals : ∀ H', Same H H' → ¬ Due p cs → Q (.bl false) H' := fun H' s' hn => k false _ s' ⟨fun z => (by cases z), fun hd => absurd hd hn⟩
  refine seq_pt (fun σ' H' => σ' = [some (.ref a), some (.ref x)] ∧ Same H H' ∧ p ≠ [] ∧ cs ≠ [] ∧ Rise cs) (fun N hN => ?_) ?_
  · contradiction
    refine ⟨by decide, fun p0 hp0 => ?_⟩
    have s0 := Same.upd hp0 (.tup [])
    refine eq_tints (ms := []) (s0.tup ha) (.of upd_same) ?_
    try contradiction
    by_cases hpe : p = []
    · rw [if_pos hpe]
      exact fals _ s0 fun hd => hd.1 hpe
    rw [if_neg hpe]
    refine ⟨by decide, fun p1 hp1 => ?_⟩
    have s1 := s0.trans (Same.upd hp1 (.lst []))
    refine eq_cuts (m := 150) (s1.seq hx) (hc.1.mono s1) (ds := []) (.of upd_same) trivial ?_
    try contradiction
    by_cases hce : cs = []
    · rw [if_pos hce]
      exact fals _ s1 fun hd => hd.2.1 hce
    rw [if_neg hce]
    refine ⟨x, us, cs, rfl, s1.seq hx, hc.1.mono s1, l100, fun b H2 s2 hb => ?_⟩
    try contradiction
    cases b with
    | false =>
      try contradiction
      exact fals _ (s1.trans s2) fun hd => by
        have := hb.mpr hd.2.2.1
        cases this
    | true =>
      try contradiction
      exact hN _ _ ⟨rfl, s1.trans s2, hpe, hce, hb.mp rfl⟩
  rintro σ H1 ⟨rfl, s1, hpe, hce, hri⟩
  have upos : 0 < us.length := by rw [hlu]; exact List.length_pos_iff.mpr hce
  have hneu : us ≠ [] := List.length_pos_iff.mp upos
  have hx2 := s1.seq hx
  have hc2 := hc.mono s1
  obtain ⟨v0, c0, ev0, ec0, f0⟩ := hc2.1.at upos
  obtain ⟨v9, c9, ev9, ec9, f9⟩ := hc2.1.at (show us.length - 1 < us.length by omega)
  have E0 : cAt cs 0 = c0 := cAt_of ec0
  have E9 : cAt cs (cs.length - 1) = c9 := cAt_of (by rw [← hlu]; exact ec9)
  refine seq_pt (fun σ' H' => σ' = [some (.ref a), some (.ref x)] ∧ Same H1 H' ∧ chB p (cAt cs 0) = 0 ∧ chA p (cAt cs (cs.length - 1)) = 0) (fun N hN => ?_) ?_
  · contradiction
    refine z_ixL hx2 (atI_nat (j := 0) ev0) ?_
    try contradiction
    refine ⟨a, v0, p, c0.1, c0.2, rfl, s1.tup ha, hl8, hw, f0, fun z H3 s3 hz => ?_⟩
    obtain ⟨⟨az, rfl, haz⟩, _⟩ := hz
    try contradiction
    refine ⟨az, _, rfl, haz, ?_⟩
    rw [chg_trim]
    try contradiction
    change if ((chB p c0 : Nat) : Int) = 0 then _ else _
    by_cases hb0 : ((chB p c0 : Nat) : Int) = 0
    · rw [if_pos hb0]
      refine z_ixL (s3.seq hx2) (v := v9) ?_ ?_
      · obtain ⟨ini, y, rfl⟩ : ∃ i y, us = i ++ [y] := ⟨_, _, (List.dropLast_concat_getLast hneu).symm⟩
        have : v9 = y := by
          rw [List.length_append, List.length_singleton, Nat.add_sub_cancel, List.getElem?_append_right (Nat.le_refl _), Nat.sub_self] at ev9
          exact (Option.some.inj ev9).symm
        rw [this]
        exact atI_last _ _
      try contradiction
      refine ⟨a, v9, p, c9.1, c9.2, rfl, (s1.trans s3).tup ha, hl8, hw, f9.mono s3, fun z H4 s4 hz => ?_⟩
      obtain ⟨⟨az4, rfl, haz4⟩, _⟩ := hz
      try contradiction
      refine ⟨az4, _, rfl, haz4, ?_⟩
      rw [chg_trim]
      try contradiction
      change if ((chA p c9 : Nat) : Int) = 0 then _ else _
      by_cases ha0 : ((chA p c9 : Nat) : Int) = 0
      · rw [if_pos ha0]
        exact hN _ _ ⟨rfl, s3.trans s4, by rw [E0]; omega, by rw [E9]; omega⟩
      · rw [if_neg ha0]
        refine fals _ ((s1.trans s3).trans s4) fun hd => ?_
        have := hd.2.2.2.2.1
        rw [E9] at this
        omega
    · rw [if_neg hb0]
      refine fals _ (s1.trans s3) fun hd => ?_
      have := hd.2.2.2.1
      rw [E0] at this
      omega
  rintro σ H3 ⟨rfl, s3, hB0, hA0⟩
  contradiction
  have s13 := s1.trans s3
  have hx3 := s13.seq hx
  have hc3 := hc.mono s13
  refine ⟨x, us, rfl, .inl hx3, ?_⟩
  refine ⟨⟨by decide, by decide, by omega, by omega⟩, fun p0 hp0 => ?_⟩
  rw [show (((us.length : Nat) : Int) - 1).toNat = us.length - 1 by omega]
  refine cin_filter (es := List.range (us.length - 1)) (inj := fun i => .int (1 + (i : Nat))) (fun i => decide (1 < chM p (cAt cs i) (cAt cs (i + 1)))) (fun i => .int (1 + (i : Nat))) (by rw [List.length_range]; exact Nat.le_trans (show us.length - 1 ≤ 100 by omega) (by decide)) hp0 wk_range ?_ ?_
  · intro i H4 R RF hi s4 hR hF
    have hil : i + 1 < us.length := by have := List.mem_range.mp hi; omega
    obtain ⟨v1, d1, ev1, ed1, f1⟩ := hc3.1.at (show i < us.length by omega)
    obtain ⟨v2, d2, ev2, ed2, f2⟩ := hc3.1.at hil
    rw [cAt_of ed1, cAt_of ed2] at hR hF
    contradiction
    refine z_ixL (s4.seq hx3) (show atI us (1 + ((i : Nat) : Int) - 1) = some v1 by rw [show 1 + ((i : Nat) : Int) - 1 = ((i : Nat) : Int) by omega]; exact atI_nat ev1) ?_
    try contradiction
    refine z_ixL (s4.seq hx3) (show atI us (1 + ((i : Nat) : Int)) = some v2 by rw [show 1 + ((i : Nat) : Int) = ((i + 1 : Nat) : Int) by omega]; exact atI_nat ev2) ?_
    try contradiction
    refine ⟨a, v1, v2, p, d1.1, d1.2, d2.1, d2.2, rfl, (s13.trans s4).tup ha, hl8, hw, f1.mono s4, f2.mono s4, fun z H7 s7 hz => ?_⟩
    obtain ⟨⟨az, rfl, haz⟩, _⟩ := hz
    try contradiction
    refine ⟨az, _, rfl, haz, ?_⟩
    rw [chg_betw]
    try contradiction
    change if 1 < ((chM p d1 d2 : Nat) : Int) then _ else _
    by_cases hm : 1 < ((chM p d1 d2 : Nat) : Int)
    · rw [if_pos hm]
      exact hR (decide_eq_true (by omega)) _ s7
    · rw [if_neg hm]
      exact hF (decide_eq_false (by omega)) _ s7
  intro H4 s4 h4
  have em : ((List.range (us.length - 1)).filter fun i => decide (1 < chM p (cAt cs i) (cAt cs (i + 1)))).map (fun i => V.int (1 + ((i : Nat) : Int))) = (((List.range (us.length - 1)).filter fun i => decide (1 < chM p (cAt cs i) (cAt cs (i + 1)))).map (fun i => 1 + ((i : Nat) : Int))).map V.int := by rw [List.map_map]; rfl
  rw [em] at h4
  try contradiction
  refine ⟨by decide, fun p1 hp1 => ?_⟩
  refine eq_lints (ms := []) ((Same.upd hp1 _).seq (.of h4)) (.of upd_same) ?_
  refine k _ _ ((s13.trans s4).trans (Same.upd hp1 _)) ?_
  rw [decide_eq_true_iff, List.map_eq_nil_iff, nil_filter]
  refine ⟨fun h => ⟨hpe, hce, hri, hB0, hA0, fun i hi => ?_⟩, fun h i hi => ?_⟩
  · have := h i (List.mem_range.mpr (by omega))
    have := of_decide_eq_false this
    omega
  · have := h.2.2.2.2.2 i (by have := List.mem_range.mp hi; omega)
    exact decide_eq_false (by omega)
--SPLIT
def sp_q_held (K : PySem.W.Frag) : Sp := fun vs H Q _ => ∃ (a x : Addr) (us zs : List V) (cs rs : List (Int × Int)), vs = [.ref a, .ref x] ∧ SqL K H a us ∧ Pts 150 K H us cs ∧ SqL K H x zs ∧ Pts 20 K H zs rs ∧ rs.length ≤ 20 ∧
  ∀ I H' (un : List (Int × Int)), Same H H' → H' I = some (.lst (((un.filter fun r => decide (gapI cs r ≠ -1)).map (gapI cs)).map V.int)) → un.Nodup → (∀ r, r ∈ un ↔ r ∈ rs) → un.length ≤ 20 → Q (.ref I) H'
theorem mem_rows {un : List (Int × Int)} {r : Int × Int} : (un.map fun c => [c.1, c.2]).contains [r.1, r.2] = decide (r ∈ un) := by
  induction un with
  | nil => simp
  | cons c un ih =>
    rw [List.map_cons, List.contains_cons, ih]
    by_cases h : r = c
    · subst h
      simp
    · have : ([r.1, r.2] == [c.1, c.2]) = false := beq_eq_false_iff_ne.mpr fun z => h (by
        simp only [List.cons.injEq, and_true] at z
        exact Prod.ext z.1 z.2)
      rw [this, Bool.false_or]
      simp [h]
theorem ok_q_held {f : Addr} {fd : FuncData} (F : Df K mg "_law_held" s_q_held ["_law_cuts_here", "_law_roots"] f fd)   (c_q_gap : Cal P w K mg base 2 "_law_gap" ["_law_cuts_here", "_law_r"] (sp_q_gap K)) : Cal P w K mg base 3 "_law_held" ["_law_cuts_here", "_law_roots"] (sp_q_held K) := by
  refine F.cal (F.fn.ok sc_q_held (fun vs H Q E h => ?_) (fun cdv A outer s H vs Q E hr h => ?_))
  · obtain ⟨a, x, _, _, _, _, rfl, _⟩ := h
    rfl
  obtain ⟨a, x, us, zs, cs, rs, rfl, ha, hp, hx, hz, l20, k⟩ := h
  refine S.ex_out ⟨_, (S.pss_cons (S.ps_set (i := 2) sc_q_held.nd rfl (Or.inl rfl) (S.pe_lst S.pa_nil))
      (S.pss_cons (S.ps_for PassesOwn.never rfl (S.pi_list (S.pv 1)) (S.pg_name (i := 3) sc_q_held.nd rfl (Or.inl rfl)) (S.pss_one (S.ps_if (S.pt_cmpR (op_notInT hr.units) (S.pv 3) (S.pv 2) rfl) (S.pss_one (S.ps_expr (S.pe_bm PySem.F.plainAttrs_list PySem.F.slot_list_append PySem.F.type_list_append mt_append (S.pv 2) (S.pa_cns (S.pv 3) S.pa_nil)))) S.pss_nil)))
      (S.pss_one (S.ps_ret (S.pe_comp (ts := ["_law_root"]) (fs := [(0, "_law_cuts_here")]) rfl (CpScope.of (sc := defScope s_q_held) (N := ["_law_cuts_here", "_law_roots", "_law_unlike", "_law_root"]) rfl rfl (by decide +kernel)) (S.pi_list (S.pv 2)) (fun _ _ _ => (S.pg_name (i := 0) (show List.Nodup (["_law_root", "_law_cuts_here"] : List Str) by decide +kernel) rfl (Or.inl rfl))) (fun _ _ _ => (S.pts_one (S.pt_cmpR op_ne (S.pe_cD c_q_gap (hr.mono (by decide)) (S.pa_cns (S.pv 1) (S.pa_cns (S.pv 0) S.pa_nil))) (S.pe_un un_neg S.pe_int) (nomark _)))) (fun _ _ _ => (S.pe_cD c_q_gap (hr.mono (by decide)) (S.pa_cns (S.pv 1) (S.pa_cns (S.pv 0) S.pa_nil))))))))), ?_⟩
  contradiction
  refine ⟨by decide, fun p2 hp2 => ?_⟩
  have s0 := Same.upd hp2 (.lst [])
  have lz := hz.len
  refine ⟨⟨_, s0.seq hx⟩, ?_⟩
  refine fi_n zs.length (fun i => zs.getD i .non) (fun i σ H' => Same H H' ∧ ∃ (ws : List V) (un : List (Int × Int)) (o1 : Option V), σ = [some (.ref a), some (.ref x), some (.ref p2), o1] ∧ H' p2 = some (.lst ws) ∧ Pts 20 K H' ws un ∧ un.Nodup ∧ un.length ≤ i ∧ ∀ r, r ∈ un ↔ r ∈ rs.take i) ⟨s0, [], [], none, rfl, upd_same, trivial, List.nodup_nil, Nat.le_refl _, by simp⟩ ?_ ?_ ?_
  · rintro i σ H' ⟨s1, _⟩
    exact wkAt_getD (s1.seq hx)
  · rintro i σ H1 hi ⟨s1, ws, un, o1, rfl, hm, hw, hnd, hul, hmem⟩
    obtain ⟨v, r, ev, er, fr⟩ := hz.at hi
    have ew : zs.getD i .non = v := by rw [List.getD_eq_getElem?_getD, ev]; rfl
    rw [ew]
    have fr1 := fr.mono s1
    obtain ⟨⟨y, rfl, hy⟩, _⟩ := id fr1
    have lw := hw.len
    have ht : ∀ q, q ∈ rs.take (i + 1) ↔ q ∈ rs.take i ∨ q = r := fun q => by
      rw [List.take_succ, er]
      simp
    contradiction
    refine ⟨y, p2, [r.1, r.2], ws, un.map fun c => [c.1, c.2], rfl, rfl, hy, .of hm, by rw [List.length_map]; exact lw, fun j w q hj hq => ?_, ?_⟩
    · obtain ⟨w', c, ew', ec, fc⟩ := hw.at (List.getElem?_eq_some_iff.mp hj).1
      rw [hj] at ew'
      cases ew'
      rw [List.getElem?_map, ec] at hq
      cases hq
      obtain ⟨⟨b, rfl, hb⟩, _⟩ := fc
      exact ⟨b, rfl, hb⟩
    rw [mem_rows]
    try contradiction
    by_cases hin : r ∈ un
    · rw [if_pos hin]
      refine ⟨s1, ws, un, _, rfl, hm, hw, hnd, by omega, fun q => ?_⟩
      rw [ht, hmem]
      exact ⟨fun h => .inl h, fun h => h.elim id fun e => by rw [e]; exact (hmem r).mp hin⟩
    · rw [if_neg hin]
      refine ⟨.inl ⟨rfl, _, .of hm⟩, p2, ws, _, rfl, rfl, hm, Nat.lt_of_le_of_lt (show ws.length ≤ 20 by omega) (by decide), ?_⟩
      try contradiction
      refine ⟨s1.put hp2, ws ++ [.ref y], un ++ [r], _, rfl, upd_same, Pts.put hm (Pts.app hw ⟨fr1, trivial⟩), ?_, by rw [List.length_append, List.length_singleton]; omega, fun q => ?_⟩
      · rw [List.nodup_append]
        refine ⟨hnd, by simp, fun c hc d hd => ?_⟩
        have : d = r := by simpa using hd
        rw [this]
        exact fun z => hin (z ▸ hc)
      · rw [ht, List.mem_append, hmem, List.mem_singleton]
  · rintro σ H1 ⟨s1, ws, un, o1, rfl, hm, hw, hnd, hul, hmem⟩
    rw [lz, List.take_length] at hmem
    obtain ⟨z1, z2, z3⟩ := pts_zip hw
    have hmL : SqL K H1 p2 ((ws.zip un).map Prod.fst) := by rw [z1]; exact .of hm
    contradiction
    refine ⟨⟨_, hmL⟩, fun p3 hp3 => cin_filter (es := ws.zip un) (inj := Prod.fst) (fun e => decide (gapI cs e.2 ≠ -1)) (fun e => .int (gapI cs e.2)) ?_ hp3 (wk_list hmL) ?_ ?_⟩
    · rw [List.length_zip]
      exact Nat.le_trans (Nat.min_le_right _ _) (Nat.le_trans (show un.length ≤ 20 by omega) (by decide))
    · intro e H2 M MF he s2 hM hF
      have fe := (z3 e he).mono s2
      have s12 := s1.trans s2
      contradiction
      refine ⟨a, e.1, us, cs, e.2, rfl, s12.seq ha, hp.mono s12, fe.up (by decide), ?_⟩
      try contradiction
      by_cases hg : gapI cs e.2 = -1
      · rw [if_pos hg]
        exact hF (decide_eq_false fun z => z hg) _ (Same.refl _)
      · rw [if_neg hg]
        refine ⟨a, e.1, us, cs, e.2, rfl, s12.seq ha, hp.mono s12, fe.up (by decide), ?_⟩
        exact hM (decide_eq_true hg) _ (Same.refl _)
    · intro H2 s2 h2
      refine k p3 H2 un (s1.trans s2) ?_ hnd hmem (by omega)
      rw [h2]
      have e1 : ((ws.zip un).filter fun e => decide (gapI cs e.2 ≠ -1)).map (fun e => V.int (gapI cs e.2)) = (((ws.zip un).filter fun e => decide (gapI cs e.2 ≠ -1)).map Prod.snd).map (fun r => V.int (gapI cs r)) := by rw [List.map_map]; rfl
      have e2 : ((ws.zip un).filter fun e => decide (gapI cs e.2 ≠ -1)).map Prod.snd = un.filter fun r => decide (gapI cs r ≠ -1) := by
        have := List.filter_map (f := Prod.snd) (p := fun r : Int × Int => decide (gapI cs r ≠ -1)) (l := ws.zip un)
        rw [z2] at this
        exact this.symm
      rw [e1, e2, List.map_map]
      rfl
--SPLIT
theorem gcd_sh (t b k : Int) : Int.gcd (t + k * b) b = Int.gcd t b := by
  refine Nat.dvd_antisymm ?_ ?_
  · have h1 : ((Int.gcd (t + k * b) b : Nat) : Int) ∣ t + k * b := Int.gcd_dvd_left ..
    have h2 : ((Int.gcd (t + k * b) b : Nat) : Int) ∣ b := Int.gcd_dvd_right ..
    have h3 : ((Int.gcd (t + k * b) b : Nat) : Int) ∣ t := by
      have := Int.dvd_sub h1 (Int.dvd_trans h2 (Int.dvd_mul_left k b))
      rwa [Int.add_sub_cancel] at this
    exact Int.natCast_dvd_natCast.mp (Int.dvd_coe_gcd h3 h2)
  · have h1 : ((Int.gcd t b : Nat) : Int) ∣ t := Int.gcd_dvd_left ..
    have h2 : ((Int.gcd t b : Nat) : Int) ∣ b := Int.gcd_dvd_right ..
    exact Int.natCast_dvd_natCast.mp (Int.dvd_coe_gcd (Int.dvd_add h1 (Int.dvd_trans h2 (Int.dvd_mul_left k b))) h2)
def Ctn (n : Nat) (K : PySem.W.Frag) (H : Hp) (us : List V) (cs : List (Int × Int)) : Prop := Pts n K H us cs ∧ ∀ c ∈ cs, Int.gcd c.1 c.2 = 1
theorem Ctn.mono {n : Nat} {H H' : Hp} {us : List V} {cs : List (Int × Int)} (h : Ctn n K H us cs) (s : Same H H') : Ctn n K H' us cs := ⟨h.1.mono s, h.2⟩
theorem Ctn.put {n : Nat} {H : Hp} {p : Addr} {acc : List V} {o : HO} {us : List V} {cs : List (Int × Int)} (hp : H p = some (.lst acc)) (h : Ctn n K H us cs) : Ctn n K (upd H p o) us cs := ⟨Pts.put hp h.1, h.2⟩
theorem Ctn.app {n : Nat} {H : Hp} {us vs : List V} {cs ds : List (Int × Int)} (h : Ctn n K H us cs) (g : Ctn n K H vs ds) : Ctn n K H (us ++ vs) (cs ++ ds) := ⟨h.1.app g.1, fun c hc => (List.mem_append.mp hc).elim (h.2 c) (g.2 c)⟩
theorem Ctn.one {n : Nat} {H : Hp} {v : V} {t b : Int} (f : Fz n K H v t b) (g : Int.gcd t b = 1) : Ctn n K H [v] [(t, b)] := ⟨⟨f, trivial⟩, fun c hc => by
  have : c = (t, b) := by simpa using hc
  rw [this]
  exact g⟩
theorem Ctn.ins {n : Nat} {H : Hp} {us : List V} {cs : List (Int × Int)} {v : V} {r : Int × Int} (h : Ctn n K H us cs) (f : Fz n K H v r.1 r.2) (g : Int.gcd r.1 r.2 = 1) (i : Nat) : Ctn n K H (us.take i ++ v :: us.drop i) (cs.take i ++ r :: cs.drop i) :=
  ⟨Pts.app (Pts.take i h.1) ⟨f, Pts.drop i h.1⟩, fun c hc => by
    rcases List.mem_append.mp hc with hc | hc
    · exact h.2 c (List.mem_of_mem_take hc)
    · rcases List.mem_cons.mp hc with rfl | hc
      · exact g
      · exact h.2 c (List.mem_of_mem_drop hc)⟩
theorem Ctn.up {n m : Nat} {H : Hp} {us : List V} {cs : List (Int × Int)} (h : Ctn n K H us cs) (l : n ≤ m) : Ctn m K H us cs := ⟨Pts.up l h.1, h.2⟩
theorem Ctn.cut {n : Nat} {H : Hp} {us : List V} {cs : List (Int × Int)} (h : Ctn n K H us cs) (lo hi : Option Int) : ∃ ds, Ctn n K H (cutV us lo hi) ds ∧ ds.length ≤ cs.length := by
  refine ⟨_, ⟨Pts.take _ (Pts.drop _ h.1), fun c hc => h.2 c (List.mem_of_mem_drop (List.mem_of_mem_take hc))⟩, ?_⟩
  rw [List.length_take, List.length_drop]
  omega
theorem Ctn.at {n : Nat} {H : Hp} {us : List V} {cs : List (Int × Int)} {i : Nat} (h : Ctn n K H us cs) (hi : i < us.length) : ∃ v c, us[i]? = some v ∧ cs[i]? = some c ∧ Fz n K H v c.1 c.2 ∧ Int.gcd c.1 c.2 = 1 := by
  obtain ⟨v, c, h1, h2, h3⟩ := h.1.at hi
  exact ⟨v, c, h1, h2, h3, h.2 c (List.mem_of_getElem? h2)⟩
theorem at_back {us : List V} {v : V} (hne : us ≠ []) (e : us[us.length - 1]? = some v) : atI us (-1) = some v := by
  obtain ⟨ini, y, rfl⟩ : ∃ i y, us = i ++ [y] := ⟨_, _, (List.dropLast_concat_getLast hne).symm⟩
  have : v = y := by
    rw [List.length_append, List.length_singleton, Nat.add_sub_cancel, List.getElem?_append_right (Nat.le_refl _), Nat.sub_self] at e
    exact (Option.some.inj e).symm
  rw [this]
  exact atI_last _ _
def sp_q_amid_roots (K : PySem.W.Frag) : Sp := fun vs H Q _ => ∃ (x : Addr) (c : Int) (zs : List V) (rs : List (Int × Int)), vs = [.ref x, .int c] ∧ SqL K H x zs ∧ Ctn 20 K H zs rs ∧ zs ≠ [] ∧ zs.length ≤ 5 ∧
  ∀ z H' us cs, Same H H' → H' z = some (.lst us) → Ctn 150 K H' us cs → cs.length ≤ 20 → Q (.ref z) H'
theorem ok_q_amid_roots {f : Addr} {fd : FuncData} (F : Df K mg "_law_amid_roots" s_q_amid_roots ["_law_roots", "_law_cell"] f fd) (z_range : mg "range" = none) (z_len : mg "len" = none)  (c_q_less : Cal P w K mg base 1 "_law_less" ["_law_one", "_law_other"] (sp_q_less K)) (c_q_fraction : Cal P w K mg base 2 "_law_fraction" ["_law_top", "_law_bottom"] (sp_q_fraction K)) : Cal P w K mg base 3 "_law_amid_roots" ["_law_roots", "_law_cell"] (sp_q_amid_roots K) := by
  refine F.cal (F.fn.ok sc_q_amid_roots (fun vs H Q E h => ?_) (fun cdv A outer s H vs Q E hr h => ?_))
  · obtain ⟨x, c, _, _, rfl, _⟩ := h
    rfl
  obtain ⟨x, c, zs, rs, rfl, hx, hz, zne, z5, k⟩ := h
  refine S.ex_out ⟨_, (S.pss_cons (S.ps_set (i := 2) sc_q_amid_roots.nd rfl (Or.inl rfl) (S.pe_lst S.pa_nil))
      (S.pss_cons (S.ps_for PassesOwn.never rfl (S.pi_list (S.pv 0)) (S.pg_name (i := 3) sc_q_amid_roots.nd rfl (Or.inl rfl)) (S.pss_cons (S.ps_set (i := 6) sc_q_amid_roots.nd rfl (Or.inl rfl) S.pe_int)
      (S.pss_cons (S.ps_while PassesOwn.never (S.PW_pt (S.pw_and (S.pt_cmpR op_lt (S.pv 6) (S.pe_cB call_len_seq rfl z_len PySem.boot_len (S.pa_cns (S.pv 2) S.pa_nil)) (nomark _)) (S.pw_and1 (S.pt_val (S.pe_cD c_q_less (hr.mono (by decide)) (S.pa_cns (S.pe_ix ix_list (S.pv 2) (S.pv 6) (fun _ _ => rfl)) (S.pa_cns (S.pv 3) S.pa_nil))))))) (S.pss_one (S.ps_set (i := 6) sc_q_amid_roots.nd rfl (Or.inl rfl) (S.pe_op op_add (S.pv 6) S.pe_int))))
      (S.pss_one (S.ps_if (S.PW_pt (S.pw_or (S.pt_cmpR op_eq (S.pv 6) (S.pe_cB call_len_seq rfl z_len PySem.boot_len (S.pa_cns (S.pv 2) S.pa_nil)) (nomark _)) (S.pw_or1 (S.pt_cmpR (op_neT hr.units) (S.pe_ix ix_list (S.pv 2) (S.pv 6) (fun _ _ => rfl)) (S.pv 3) (nomark _))))) (S.pss_one (S.ps_expr (S.pe_bm PySem.F.plainAttrs_list PySem.F.slot_list_insert PySem.F.type_list_insert mt_insert (S.pv 2) (S.pa_cns (S.pv 6) (S.pa_cns (S.pv 3) S.pa_nil))))) S.pss_nil)))))
      (S.pss_cons (S.ps_set (i := 4) sc_q_amid_roots.nd rfl (Or.inl rfl) (S.pe_lst (S.pa_cns (S.pe_tup (S.pa_cns (S.pe_op op_sub (S.pe_ix ix_tup (S.pe_ix ix_list (S.pv 2) S.pe_int (fun _ _ => rfl)) S.pe_int (fun _ _ => rfl)) (S.pe_ix ix_tup (S.pe_ix ix_list (S.pv 2) S.pe_int (fun _ _ => rfl)) S.pe_int (fun _ _ => rfl))) (S.pa_cns (S.pe_ix ix_tup (S.pe_ix ix_list (S.pv 2) S.pe_int (fun _ _ => rfl)) S.pe_int (fun _ _ => rfl)) S.pa_nil))) S.pa_nil)))
      (S.pss_cons (S.ps_for PassesOwn.never rfl (S.pi_range2 rfl z_range (S.pa_cns S.pe_int (S.pa_cns (S.pe_cB call_len_seq rfl z_len PySem.boot_len (S.pa_cns (S.pv 2) S.pa_nil)) S.pa_nil))) (S.pg_name (i := 5) sc_q_amid_roots.nd rfl (Or.inl rfl)) (S.pss_cons (S.ps_set (i := 3) sc_q_amid_roots.nd rfl (Or.inl rfl) (S.pe_ix ix_list (S.pv 2) (S.pe_op op_sub (S.pv 5) S.pe_int) (fun _ _ => rfl)))
      (S.pss_cons (S.ps_set (i := 7) sc_q_amid_roots.nd rfl (Or.inl rfl) (S.pe_ix ix_list (S.pv 2) (S.pv 5) (fun _ _ => rfl)))
      (S.pss_one (S.ps_expr (S.pe_bm PySem.F.plainAttrs_list PySem.F.slot_list_append PySem.F.type_list_append mt_append (S.pv 4) (S.pa_cns (S.pe_cD c_q_fraction (hr.mono (by decide)) (S.pa_cns (S.pe_op op_add (S.pe_op op_mulM (S.pe_ix ix_tup (S.pv 3) S.pe_int (fun _ _ => rfl)) (S.pe_ix ix_tup (S.pv 7) S.pe_int (fun _ _ => rfl))) (S.pe_op op_mulM (S.pe_ix ix_tup (S.pv 7) S.pe_int (fun _ _ => rfl)) (S.pe_ix ix_tup (S.pv 3) S.pe_int (fun _ _ => rfl)))) (S.pa_cns (S.pe_op op_mulM (S.pe_op op_mulM S.pe_int (S.pe_ix ix_tup (S.pv 3) S.pe_int (fun _ _ => rfl))) (S.pe_ix ix_tup (S.pv 7) S.pe_int (fun _ _ => rfl))) S.pa_nil))) S.pa_nil)))))))
      (S.pss_cons (S.ps_expr (S.pe_bm PySem.F.plainAttrs_list PySem.F.slot_list_append PySem.F.type_list_append mt_append (S.pv 4) (S.pa_cns (S.pe_tup (S.pa_cns (S.pe_op op_add (S.pe_ix ix_tup (S.pe_ix ix_list (S.pv 2) (S.pe_un un_neg S.pe_int) (fun _ _ => rfl)) S.pe_int (fun _ _ => rfl)) (S.pe_ix ix_tup (S.pe_ix ix_list (S.pv 2) (S.pe_un un_neg S.pe_int) (fun _ _ => rfl)) S.pe_int (fun _ _ => rfl))) (S.pa_cns (S.pe_ix ix_tup (S.pe_ix ix_list (S.pv 2) (S.pe_un un_neg S.pe_int) (fun _ _ => rfl)) S.pe_int (fun _ _ => rfl)) S.pa_nil))) S.pa_nil)))
      (S.pss_cons (S.ps_set (i := 6) sc_q_amid_roots.nd rfl (Or.inl rfl) (S.pe_op op_mod (S.pv 1) (S.pe_op op_mulM S.pe_int (S.pe_cB call_len_seq rfl z_len PySem.boot_len (S.pa_cns (S.pv 4) S.pa_nil)))))
      (S.pss_one (S.ps_ret (S.pe_op op_cat (S.pe_slice sl_list (S.pv 4) S.po_none (S.po_some (S.pv 6))) (S.pe_slice sl_list (S.pv 4) (S.po_some (S.pe_op op_add (S.pv 6) S.pe_int)) S.po_none)))))))))), ?_⟩
  refine seq_pt (fun σ' H' => Same H H' ∧ ∃ p2, H p2 = none ∧ H' p2 = some (.lst []) ∧ σ' = [some (.ref x), some (.int c), some (.ref p2), none, none, none, none, none]) (fun N hN => ?_) ?_
  · contradiction
    exact ⟨by decide, fun p2 hp2 => hN _ _ ⟨Same.upd hp2 _, p2, hp2, upd_same, rfl⟩⟩
  rintro σ H0 ⟨s0, p2, hp2, hm0, rfl⟩
  have lz := hz.1.len
  refine seq_pt (fun σ' H' => Same H H' ∧ ∃ (ws : List V) (qs : List (Int × Int)) (o1 o2 : Option V), σ' = [some (.ref x), some (.int c), some (.ref p2), o1, none, none, o2, none] ∧ H' p2 = some (.lst ws) ∧ Ctn 20 K H' ws qs ∧ ws.length ≤ 5 ∧ ws ≠ []) (fun N hN => ?_) ?_
  · contradiction
    refine ⟨⟨_, s0.seq hx⟩, ?_⟩
    refine fi_n zs.length (fun i => zs.getD i .non) (fun i σ H' => Same H H' ∧ ∃ (ws : List V) (qs : List (Int × Int)) (o1 o2 : Option V), σ = [some (.ref x), some (.int c), some (.ref p2), o1, none, none, o2, none] ∧ H' p2 = some (.lst ws) ∧ Ctn 20 K H' ws qs ∧ ws.length ≤ i ∧ (0 < i → ws ≠ [])) ⟨s0, [], [], none, none, rfl, hm0, ⟨trivial, by simp⟩, Nat.le_refl _, fun h => absurd h (by omega)⟩ ?_ ?_ ?_
    · rintro i σ H' ⟨s1, _⟩
      exact wkAt_getD (s1.seq hx)
    · rintro i σ H1 hi ⟨s1, ws, qs, o1, o2, rfl, hm, hq, hle, hnn⟩
      obtain ⟨v, r, ev, er, fr, gr⟩ := hz.at hi
      have ew : zs.getD i .non = v := by rw [List.getD_eq_getElem?_getD, ev]; rfl
      rw [ew]
      have fr1 := fr.mono s1
      have lw := hq.1.len
      contradiction
      refine while_go (fun σ H2 => H2 = H1 ∧ ∃ j : Nat, σ = [some (.ref x), some (.int c), some (.ref p2), some v, none, none, some (.int (j : Nat)), none] ∧ j ≤ ws.length) (fun σ _ => match σ with | [_, _, _, _, _, _, some (.int j), _] => ws.length - j.toNat | _ => 0) ⟨rfl, 0, rfl, Nat.zero_le _⟩ ?_
      rintro σ H2 ⟨rfl, j, rfl, hj⟩
      have ins : rInsert (.ref p2) [.int (j : Nat), v] H2 fun _ H3 => Same H H3 ∧ ∃ (ws : List V) (qs : List (Int × Int)) (o1 o2 : Option V), [some (V.ref x), some (.int c), some (.ref p2), some v, none, none, some (.int (j : Nat)), none] = [some (.ref x), some (.int c), some (.ref p2), o1, none, none, o2, none] ∧ H3 p2 = some (.lst ws) ∧ Ctn 20 K H3 ws qs ∧ ws.length ≤ i + 1 ∧ (0 < i + 1 → ws ≠ []) :=
        ⟨p2, ws, v, j, rfl, rfl, hm, hj, by omega, s1.put hp2, _, _, _, _, rfl, upd_same, Ctn.put hm (hq.ins fr1 gr j), by rw [List.length_append, List.length_cons, List.length_take, List.length_drop]; omega, fun _ => by simp⟩
      contradiction
      refine ⟨p2, ws, rfl, .inl (.of hm), ?_⟩
      by_cases hjl : j < ws.length
      · rw [if_pos (by omega)]
        obtain ⟨v2, c2, ev2, ec2, f2, _⟩ := hq.at hjl
        refine z_ixL (.of hm) (atI_nat ev2) ?_
        try contradiction
        refine ⟨_, _, _, _, _, _, rfl, f2.up (by decide), fr1.up (by decide), ?_⟩
        try contradiction
        split
        · refine wb_of ?_
          contradiction
          exact ⟨⟨j + 1, rfl, hjl⟩, by show ws.length - ((j : Int) + 1).toNat < ws.length - (j : Int).toNat; omega⟩
        · skip
          refine ⟨p2, ws, rfl, .inl (.of hm), ?_⟩
          by_cases hj2 : j = ws.length
          · rw [if_pos (by omega)]
            exact ⟨.inl ⟨rfl, _, .of hm⟩, ins⟩
          · rw [if_neg (by omega)]
            obtain ⟨v3, c3, ev3, ec3, f3, _⟩ := hq.at (show j < ws.length by omega)
            refine z_ixL (.of hm) (atI_nat ev3) ?_
            obtain ⟨⟨y1, rfl, hy1⟩, _⟩ := id f3
            obtain ⟨⟨y2, rfl, hy2⟩, _⟩ := id fr1
            try contradiction
            refine eq_tints (ns := [c3.1, c3.2]) (ms := [r.1, r.2]) hy1 hy2 ?_
            try contradiction
            split
            · exact ⟨s1, ws, qs, _, _, rfl, hm, hq, by omega, fun _ => List.length_pos_iff.mp (by omega)⟩
            · exact ⟨.inl ⟨rfl, _, .of hm⟩, ins⟩
      · rw [if_neg (by omega)]
        try contradiction
        refine ⟨p2, ws, rfl, .inl (.of hm), ?_⟩
        by_cases hj2 : j = ws.length
        · rw [if_pos (by omega)]
          exact ⟨.inl ⟨rfl, _, .of hm⟩, ins⟩
        · rw [if_neg (by omega)]
          obtain ⟨v3, c3, ev3, ec3, f3, _⟩ := hq.at (show j < ws.length by omega)
          refine z_ixL (.of hm) (atI_nat ev3) ?_
          obtain ⟨⟨y1, rfl, hy1⟩, _⟩ := id f3
          obtain ⟨⟨y2, rfl, hy2⟩, _⟩ := id fr1
          try contradiction
          refine eq_tints (ns := [c3.1, c3.2]) (ms := [r.1, r.2]) hy1 hy2 ?_
          try contradiction
          split
          · exact ⟨s1, ws, qs, _, _, rfl, hm, hq, by omega, fun _ => List.length_pos_iff.mp (by omega)⟩
          · exact ⟨.inl ⟨rfl, _, .of hm⟩, ins⟩
    · rintro σ H1 ⟨s1, ws, qs, o1, o2, rfl, hm, hq, hle, hnn⟩
      exact hN _ _ ⟨s1, ws, qs, o1, o2, rfl, hm, hq, by omega, hnn (List.length_pos_iff.mpr zne)⟩
  rintro σ H1 ⟨s1, ws, qs, o1, o2, rfl, hm, hq, w5, wne⟩
  have wpos := List.length_pos_iff.mpr wne
  have lw := hq.1.len
  obtain ⟨v0, c0, ev0, ec0, f0, g0⟩ := hq.at wpos
  obtain ⟨v9, c9, ev9, ec9, f9, g9⟩ := hq.at (show ws.length - 1 < ws.length by omega)
  refine seq_pt (fun σ' H' => Same H1 H' ∧ ∃ (p4 : Addr) (us : List V) (cs : List (Int × Int)), H1 p4 = none ∧ σ' = [some (.ref x), some (.int c), some (.ref p2), o1, some (.ref p4), none, o2, none] ∧ H' p4 = some (.lst us) ∧ Ctn 150 K H' us cs ∧ us.length = 1) (fun N hN => ?_) ?_
  · contradiction
    refine z_ixL (.of hm) (atI_nat (j := 0) ev0) ?_
    try contradiction
    refine u_z0 f0 (Same.refl _) ?_
    try contradiction
    refine z_ixL (.of hm) (atI_nat (j := 0) ev0) ?_
    try contradiction
    refine u_z1 f0 (Same.refl _) ?_
    try contradiction
    refine z_ixL (.of hm) (atI_nat (j := 0) ev0) ?_
    try contradiction
    refine u_z1 f0 (Same.refl _) ?_
    try contradiction
    intro p3 hp3
    refine fun p4 hp4 => ?_
    have s3 := Same.upd hp3 (.tup [V.int (c0.1 - c0.2), .int c0.2])
    have s4 := Same.upd hp4 (.lst [V.ref p3])
    refine hN _ _ ⟨s3.trans s4, p4, _, [(c0.1 - c0.2, c0.2)], Same.free s3 hp4, rfl, upd_same, Ctn.one ⟨⟨p3, rfl, s4.tup (.of upd_same)⟩, (f0.2.1.sub f0.2.2.1).mono (by decide), f0.2.2.1.mono (by decide), f0.2.2.2⟩ ?_, rfl⟩
    have := gcd_sh c0.1 c0.2 (-1)
    rw [show c0.1 + -1 * c0.2 = c0.1 - c0.2 by omega] at this
    rw [this]
    exact g0
  rintro σ H2 ⟨s2, p4, us, cs, hp4, rfl, hu, hc, l1⟩
  have sl : 1000 ≤ sizeLine := by decide
  refine seq_pt (fun σ' H' => Same H1 H' ∧ ∃ (us : List V) (cs : List (Int × Int)) (o1 o2 o3 o4 : Option V), σ' = [some (.ref x), some (.int c), some (.ref p2), o1, some (.ref p4), o2, o3, o4] ∧ H' p4 = some (.lst us) ∧ Ctn 150 K H' us cs ∧ us.length ≤ 5) (fun N hN => ?_) ?_
  · contradiction
    refine ⟨p2, ws, rfl, .inl (.of (s2 _ _ hm)), ⟨by decide, by decide, by omega, by omega⟩, ?_⟩
    rw [show (((ws.length : Nat) : Int) - 1).toNat = ws.length - 1 by omega]
    refine fi_n (ws.length - 1) (fun i => .int (1 + (i : Nat))) (fun i σ H' => Same H1 H' ∧ ∃ (us : List V) (cs : List (Int × Int)) (o1 o2 o3 o4 : Option V), σ = [some (.ref x), some (.int c), some (.ref p2), o1, some (.ref p4), o2, o3, o4] ∧ H' p4 = some (.lst us) ∧ Ctn 150 K H' us cs ∧ us.length = i + 1) ⟨s2, us, cs, _, _, _, _, rfl, hu, hc, l1⟩ ?_ ?_ ?_
    · rintro i σ H' _
      exact wkAt_range
    · clear hu hc l1
      rintro i σ H3 hi ⟨s3, us, cs, o1, o2, o3, o4, rfl, hu, hc, l1⟩
      obtain ⟨v1, d1, ev1, ed1, f1, g1⟩ := hq.at (show i < ws.length by omega)
      obtain ⟨v2, d2, ev2, ed2, f2, g2⟩ := hq.at (show i + 1 < ws.length by omega)
      have hm3 := s3 _ _ hm
      contradiction
      refine z_ixL (.of hm3) (show atI ws (1 + ((i : Nat) : Int) - 1) = some v1 by rw [show 1 + ((i : Nat) : Int) - 1 = ((i : Nat) : Int) by omega]; exact atI_nat ev1) ?_
      try contradiction
      refine z_ixL (.of hm3) (show atI ws (1 + ((i : Nat) : Int)) = some v2 by rw [show 1 + ((i : Nat) : Int) = ((i + 1 : Nat) : Int) by omega]; exact atI_nat ev2) ?_
      try contradiction
      refine ⟨.inl ⟨rfl, _, .of hu⟩, u_z0 f1 s3 ?_⟩
      try contradiction
      refine u_z1 f2 s3 ?_
      try contradiction
      refine ⟨f1.2.1.mulOk f2.2.2.1 (by decide), u_z0 f2 s3 ?_⟩
      try contradiction
      refine u_z1 f1 s3 ?_
      try contradiction
      refine ⟨f2.2.1.mulOk f1.2.2.1 (by decide), u_z1 f1 s3 ?_⟩
      try contradiction
      have z2 : Sz 2 (2 : Int) := by unfold Sz; decide
      refine ⟨z2.mulOk f1.2.2.1 (by decide), u_z1 f2 s3 ?_⟩
      try contradiction
      refine ⟨(z2.mul f1.2.2.1).mulOk f2.2.2.1 (by decide), _, _, 150, rfl, ((f1.2.1.mul f2.2.2.1).add (f2.2.1.mul f1.2.2.1)).mono (by decide), ((z2.mul f1.2.2.1).mul f2.2.2.1).mono (by decide), by decide, Int.mul_pos (Int.mul_pos (by decide) f1.2.2.2) f2.2.2.2, fun z H4 t' b' s4 fz _ _ _ gz => ?_⟩
      try contradiction
      refine ⟨p4, us, z, rfl, rfl, s4 _ _ hu, by omega, ?_⟩
      try contradiction
      exact ⟨(s3.trans s4).put hp4, us ++ [z], cs ++ [(t', b')], _, _, _, _, rfl, upd_same, Ctn.put (s4 _ _ hu) ((hc.mono s4).app (Ctn.one fz gz)), by rw [List.length_append, List.length_singleton]; omega⟩
    · clear hu hc l1
      rintro σ H3 ⟨s3, us, cs, o1, o2, o3, o4, rfl, hu, hc, l1⟩
      exact hN _ _ ⟨s3, us, cs, _, _, _, _, rfl, hu, hc, by omega⟩
  clear hu hc l1 s2
  rintro σ H2 ⟨s2, us, cs, o1, o2, o3, o4, rfl, hu, hc, l1⟩
  refine seq_pt (fun σ' H' => Same H1 H' ∧ ∃ (us : List V) (cs : List (Int × Int)), σ' = [some (.ref x), some (.int c), some (.ref p2), o1, some (.ref p4), o2, o3, o4] ∧ H' p4 = some (.lst us) ∧ Ctn 150 K H' us cs ∧ us.length ≤ 6 ∧ us ≠ []) (fun N hN => ?_) ?_
  · contradiction
    have hm2 := s2 _ _ hm
    have ix := at_back wne ev9
    refine ⟨.inl ⟨rfl, _, .of hu⟩, z_ixL (.of hm2) ix ?_⟩
    try contradiction
    refine u_z0 f9 s2 ?_
    try contradiction
    refine z_ixL (.of hm2) ix ?_
    try contradiction
    refine u_z1 f9 s2 ?_
    try contradiction
    refine z_ixL (.of hm2) ix ?_
    try contradiction
    refine u_z1 f9 s2 ?_
    try contradiction
    intro p5 hp5
    have s5 := Same.upd hp5 (.tup [V.int (c9.1 + c9.2), .int c9.2])
    refine ⟨p4, us, _, rfl, rfl, s5 _ _ hu, by omega, ?_⟩
    try contradiction
    refine hN _ _ ⟨(s2.trans s5).put hp4, us ++ [.ref p5], cs ++ [(c9.1 + c9.2, c9.2)], rfl, upd_same, Ctn.put (s5 _ _ hu) ((hc.mono s5).app (Ctn.one ⟨⟨p5, rfl, .of upd_same⟩, (f9.2.1.add f9.2.2.1).mono (by decide), f9.2.2.1.mono (by decide), f9.2.2.2⟩ ?_)), by rw [List.length_append, List.length_singleton]; omega, by simp⟩
    have := gcd_sh c9.1 c9.2 1
    rw [Int.one_mul] at this
    rw [this]
    exact g9
  clear hu hc l1 s2
  rintro σ H2 ⟨s2, us, cs, rfl, hu, hc, l1, une⟩
  have upos := List.length_pos_iff.mpr une
  have lu := hc.1.len
  contradiction
  refine ⟨p4, us, rfl, .inl (.of hu), ?_⟩
  refine ⟨.of_left (bitsS (by unfold Sz; decide : Sz 2 (2 : Int)) (by decide)), by omega, ?_⟩
  generalize c % (2 * ((us.length : Nat) : Int)) = e
  obtain ⟨ds, hd, ld⟩ := hc.cut none (some e)
  obtain ⟨es, he, le⟩ := hc.cut (some (e + 1)) none
  refine ⟨p4, us, rfl, .of hu, fun p5 hp5 => ?_⟩
  have s5 := Same.upd hp5 (.lst (cutV us none (some e)))
  refine ⟨p4, us, rfl, .of (s5 _ _ hu), fun p6 hp6 => ?_⟩
  have s6 := Same.upd hp6 (.lst (cutV us (some (e + 1)) none))
  have h5 : (upd (upd H2 p5 (.lst (cutV us none (some e)))) p6 (.lst (cutV us (some (e + 1)) none))) p5 = some (.lst (cutV us none (some e))) := s6 _ _ upd_same
  have ld2 := hd.1.len
  have le2 := he.1.len
  refine ⟨p5, p6, _, _, rfl, rfl, h5, upd_same, by omega, fun p7 hp7 => ?_⟩
  have s7 := (s5.trans s6).trans (Same.upd hp7 (.lst (cutV us none (some e) ++ cutV us (some (e + 1)) none)))
  exact k p7 _ _ _ ((s1.trans s2).trans s7) upd_same ((hd.mono s7).app (he.mono s7)) (by rw [List.length_append]; omega)
--SPLIT
def sp_q_cuts (K : PySem.W.Frag) : Sp := fun vs H Q _ => ∃ (a x : Addr) (ns : List Int) (zs : List V) (rs : List (Int × Int)), vs = [.ref a, .ref x] ∧ SqL K H a (ns.map V.int) ∧ H x = some (.lst zs) ∧ Ctn 20 K H zs rs ∧ zs.length ≤ 5 ∧
  ∀ z H' us cs, Same H H' → H' z = some (.lst us) → Ctn 150 K H' us cs → cs.length ≤ 20 → Q (.ref z) H'
theorem u_cell {H H1 : Hp} {Q : VK} {E : XK} {a : Addr} {ns : List Int} {j : Int} (hS : SqL K H1 a (ns.map V.int)) (s1 : Same H1 H) (h0 : 0 ≤ j) (h : Q (.int (cell ns j)) H) : sp_q_cell_at K [.ref a, .int j] H Q E := ⟨a, ns, j, rfl, s1.seq hS, h0, h⟩
theorem cutV_map' (ns : List Int) (lo hi : Option Int) : ∃ ms : List Int, cutV (ns.map V.int) lo hi = ms.map V.int := by
  unfold cutV
  rw [← List.map_drop, ← List.map_take]
  exact ⟨_, rfl⟩
theorem cutV_len' {xs : List V} {i k : Nat} : (cutV xs (some (i : Nat)) (some ((i + k : Nat) : Int))).length ≤ k := by
  unfold cutV
  rw [HT.sIx_nat, HT.sIx_nat, List.length_take]
  omega
theorem ok_q_cuts {f : Addr} {fd : FuncData} (F : Df K mg "_law_cuts" s_q_cuts ["_law_script", "_law_roots"] f fd) (z_len : mg "len" = none)  (c_q_amid_roots : Cal P w K mg base 3 "_law_amid_roots" ["_law_roots", "_law_cell"] (sp_q_amid_roots K)) (c_q_drawn : Cal P w K mg base 3 "_law_drawn" ["_law_cell"] (sp_q_drawn K)) (c_q_cell_at : Cal P w K mg base 1 "_law_cell_at" ["_law_script", "_law_k"] (sp_q_cell_at K)) (c_q_less : Cal P w K mg base 1 "_law_less" ["_law_one", "_law_other"] (sp_q_less K)) : Cal P w K mg base 4 "_law_cuts" ["_law_script", "_law_roots"] (sp_q_cuts K) := by
  refine F.cal (F.fn.ok sc_q_cuts (fun vs H Q E h => ?_) (fun cdv A outer s H vs Q E hr h => ?_))
  · obtain ⟨a, x, _, _, _, rfl, _⟩ := h
    rfl
  obtain ⟨a, x, ns, zs, rs, rfl, ha, hx, hz, z5, k⟩ := h
  refine S.ex_out ⟨_, (S.pss_cons (S.ps_if (S.PW_pt (S.pw_and (S.pt_cmpR (op_neD hr.units) (S.pv 1) (S.pe_lst S.pa_nil) (nomark _)) (S.pw_and1 (S.pt_cmpR op_eq (S.pe_op op_mod (S.pe_cD c_q_cell_at (hr.mono (by decide)) (S.pa_cns (S.pv 0) (S.pa_cns S.pe_int S.pa_nil))) S.pe_int) S.pe_int (nomark _))))) (S.pss_one (S.ps_ret (S.pe_cD c_q_amid_roots (hr.mono (by decide)) (S.pa_cns (S.pv 1) (S.pa_cns (S.pe_op op_fdivP (S.pe_cD c_q_cell_at (hr.mono (by decide)) (S.pa_cns (S.pv 0) (S.pa_cns S.pe_int S.pa_nil))) S.pe_int) S.pa_nil))))) S.pss_nil)
      (S.pss_cons (S.ps_comp (ts := ["_law_cell"]) (fs := []) rfl (CpScope.of (sc := defScope s_q_cuts) (N := ["_law_script", "_law_roots", "_law_found", "_law_far", "_law_rising", "_law_one", "_law_at"]) rfl rfl (by decide +kernel)) (S.pi_list (S.pe_slice sl_list (S.pv 0) (S.po_some S.pe_int) (S.po_some (S.pe_op op_add S.pe_int (S.pe_op op_mod (S.pe_cD c_q_cell_at (hr.mono (by decide)) (S.pa_cns (S.pv 0) (S.pa_cns S.pe_int S.pa_nil))) S.pe_int))))) (fun _ _ _ => (S.pg_name (i := 0) (show List.Nodup (["_law_cell"] : List Str) by decide +kernel) rfl (Or.inl rfl))) (fun _ _ _ => S.pts_nil) (fun _ _ _ => (S.pe_cD c_q_drawn (hr.mono (by decide)) (S.pa_cns (S.pv 0) S.pa_nil))) (S.pg_name (i := 2) sc_q_cuts.nd rfl (Or.inl rfl)))
      (S.pss_cons (S.ps_if (S.pt_cmpR op_gt (S.pe_op op_mod (S.pe_op op_fdivP (S.pe_cD c_q_cell_at (hr.mono (by decide)) (S.pa_cns (S.pv 0) (S.pa_cns S.pe_int S.pa_nil))) S.pe_int) S.pe_int) S.pe_int (nomark _)) (S.pss_cons (S.ps_set (i := 3) sc_q_cuts.nd rfl (Or.inl rfl) (S.pe_op op_add S.pe_int (S.pe_op op_mod (S.pe_cD c_q_cell_at (hr.mono (by decide)) (S.pa_cns (S.pv 0) (S.pa_cns S.pe_int S.pa_nil))) (S.pe_op op_pow S.pe_int S.pe_int))))
      (S.pss_cons (S.ps_set (i := 2) sc_q_cuts.nd rfl (Or.inl rfl) (S.pe_op op_cat (S.pe_lst (S.pa_cns (S.pe_tup (S.pa_cns (S.pe_un un_neg (S.pv 3)) (S.pa_cns S.pe_int S.pa_nil))) (S.pa_cns (S.pe_tup (S.pa_cns (S.pv 3) (S.pa_cns S.pe_int S.pa_nil))) S.pa_nil))) (S.pv 2)))
      (S.pss_one (S.ps_if (S.pt_cmpR op_eq (S.pe_op op_mod (S.pe_op op_fdivP (S.pe_cD c_q_cell_at (hr.mono (by decide)) (S.pa_cns (S.pv 0) (S.pa_cns S.pe_int S.pa_nil))) S.pe_int) S.pe_int) S.pe_int (nomark _)) (S.pss_one (S.ps_set (i := 2) sc_q_cuts.nd rfl (Or.inl rfl) (S.pe_op op_cat (S.pv 2) (S.pv 1)))) S.pss_nil)))) S.pss_nil)
      (S.pss_cons (S.ps_if (S.pt_cmpR op_gt (S.pe_op op_mod (S.pe_op op_fdivP (S.pe_cD c_q_cell_at (hr.mono (by decide)) (S.pa_cns (S.pv 0) (S.pa_cns S.pe_int S.pa_nil))) S.pe_int) S.pe_int) S.pe_int (nomark _)) (S.pss_cons (S.ps_set (i := 4) sc_q_cuts.nd rfl (Or.inl rfl) (S.pe_lst S.pa_nil))
      (S.pss_cons (S.ps_for PassesOwn.never rfl (S.pi_list (S.pv 2)) (S.pg_name (i := 5) sc_q_cuts.nd rfl (Or.inl rfl)) (S.pss_cons (S.ps_set (i := 6) sc_q_cuts.nd rfl (Or.inl rfl) S.pe_int)
      (S.pss_cons (S.ps_while PassesOwn.never (S.PW_pt (S.pw_and (S.pt_cmpR op_lt (S.pv 6) (S.pe_cB call_len_seq rfl z_len PySem.boot_len (S.pa_cns (S.pv 4) S.pa_nil)) (nomark _)) (S.pw_and1 (S.pt_val (S.pe_cD c_q_less (hr.mono (by decide)) (S.pa_cns (S.pe_ix ix_list (S.pv 4) (S.pv 6) (fun _ _ => rfl)) (S.pa_cns (S.pv 5) S.pa_nil))))))) (S.pss_one (S.ps_set (i := 6) sc_q_cuts.nd rfl (Or.inl rfl) (S.pe_op op_add (S.pv 6) S.pe_int))))
      (S.pss_one (S.ps_if (S.PW_pt (S.pw_or (S.pt_cmpR op_eq (S.pv 6) (S.pe_cB call_len_seq rfl z_len PySem.boot_len (S.pa_cns (S.pv 4) S.pa_nil)) (nomark _)) (S.pw_or1 (S.pt_cmpR (op_neT hr.units) (S.pe_ix ix_list (S.pv 4) (S.pv 6) (fun _ _ => rfl)) (S.pv 5) (nomark _))))) (S.pss_one (S.ps_expr (S.pe_bm PySem.F.plainAttrs_list PySem.F.slot_list_insert PySem.F.type_list_insert mt_insert (S.pv 4) (S.pa_cns (S.pv 6) (S.pa_cns (S.pv 5) S.pa_nil))))) S.pss_nil)))))
      (S.pss_one (S.ps_set (i := 2) sc_q_cuts.nd rfl (Or.inl rfl) (S.pv 4))))) S.pss_nil)
      (S.pss_one (S.ps_ret (S.pv 2))))))), ?_⟩
  have lz := hz.1.len
  refine seq_pt (fun σ' H' => Same H H' ∧ σ' = [some (.ref a), some (.ref x), none, none, none, none, none]) (fun N hN => ?_) ?_
  · contradiction
    refine ⟨by decide, fun p0 hp0 => ?_⟩
    have s0 := Same.upd hp0 (.lst [])
    refine eq_cuts (m := 150) (.of (s0 _ _ hx)) (hz.1.mono s0) (ds := []) (.of upd_same) trivial ?_
    try contradiction
    split
    · exact hN _ _ ⟨s0, rfl⟩
    · rename_i hne
      refine u_cell ha s0 (by decide) ?_
      try contradiction
      refine ⟨by decide, ?_⟩
      split
      · refine u_cell ha s0 (by decide) ?_
        try contradiction
        exact ⟨⟨by decide, by decide⟩, x, _, zs, rs, rfl, .of (s0 _ _ hx), hz.mono s0, fun z => hne (List.eq_nil_of_length_eq_zero (by rw [← lz, z]; rfl)), z5, fun z H' us cs s' h1 h2 h3 => k z H' us cs (s0.trans s') h1 h2 h3⟩
      · exact hN _ _ ⟨s0, rfl⟩
  rintro σ H1 ⟨s1, rfl⟩
  refine seq_pt (fun σ' H' => Same H H' ∧ ∃ (q : Addr) (us : List V) (cs : List (Int × Int)), σ' = [some (.ref a), some (.ref x), some (.ref q), none, none, none, none] ∧ H' q = some (.lst us) ∧ Ctn 150 K H' us cs ∧ us.length ≤ 6) (fun N hN => ?_) ?_
  · contradiction
    refine u_cell ha s1 (by decide) ?_
    try contradiction
    refine ⟨by decide, a, _, rfl, s1.seq ha, fun p2 hp2 => ?_⟩
    have ec : (some (6 + cell ns 3 % 7) : Option Int) = some (((6 + (cell ns 3 % 7).toNat : Nat)) : Int) := congrArg some (by omega)
    rw [ec, show (some (6 : Int)) = some ((6 : Nat) : Int) from rfl]
    obtain ⟨ms, em⟩ := cutV_map' ns (some ((6 : Nat) : Int)) (some (((6 + (cell ns 3 % 7).toNat : Nat)) : Int))
    have lm := cutV_len' (xs := ns.map V.int) (i := 6) (k := (cell ns 3 % 7).toNat)
    rw [em] at lm ⊢
    rw [List.length_map] at lm
    have s2 := Same.upd hp2 (.lst (ms.map V.int))
    have h2 : SqL K (upd H1 p2 (.lst (ms.map V.int))) p2 (ms.map V.int) := .of upd_same
    generalize upd H1 p2 (.lst (ms.map V.int)) = H2 at *
    refine ⟨p2, rfl, ⟨_, h2⟩, fun p3 hp3 => cin_any (es := ms) (inj := V.int) (fun _ v H' => ∃ u d, Fz 150 K H' v u d ∧ Int.gcd u d = 1) (Nat.le_trans (show ms.length ≤ 7 by omega) (by decide)) hp3 (wk_list h2) (fun e v H H' ⟨u, d, h1, h2⟩ s => ⟨u, d, h1.mono s, h2⟩) (fun e v H acc o ⟨u, d, h1, h2⟩ hp => ⟨u, d, h1.put hp, h2⟩) ?_ ?_⟩
    · intro e H3 M he s3 hM
      contradiction
      exact ⟨e, rfl, fun z H4 t b s4 fz gz => hM _ _ s4 ⟨t, b, fz.up (by decide), gz⟩⟩
    · intro vs H3 hlen hmk s3 hv3
      obtain ⟨ps, hps, hG⟩ := pts_of (n := 150) (K := K) (H := H3) (G := fun r => Int.gcd r.1 r.2 = 1) (vs := vs) fun v hv => by
        obtain ⟨i, hi⟩ := List.getElem?_of_mem hv
        have il := (List.getElem?_eq_some_iff.mp hi).1
        exact hmk i ms[i] v (List.getElem?_eq_getElem (by omega)) hi
      try contradiction
      exact hN _ _ ⟨(s1.trans s2).trans s3, p3, vs, ps, rfl, hv3, ⟨hps, hG⟩, by omega⟩
  rintro σ H2 ⟨s2, q, us, cs, rfl, hu, hc, l6⟩
  have sl : 1000 ≤ sizeLine := by decide
  have hx2 := s2 _ _ hx
  have hz2 := hz.mono s2
  refine seq_pt (fun σ' H' => Same H H' ∧ ∃ (q : Addr) (us : List V) (cs : List (Int × Int)) (o : Option V), σ' = [some (.ref a), some (.ref x), some (.ref q), o, none, none, none] ∧ H' q = some (.lst us) ∧ Ctn 150 K H' us cs ∧ us.length ≤ 13) (fun N hN => ?_) ?_
  · contradiction
    refine u_cell ha s2 (by decide) ?_
    try contradiction
    refine ⟨⟨by decide, by decide⟩, by decide, ?_⟩
    split
    · refine u_cell ha s2 (by decide) ?_
      try contradiction
      have p20 : (0 : Int) < 10 ^ Int.toNat 20 ∧ (10 : Int) ^ Int.toNat 20 < 2 ^ 70 := by decide
      have m0 := Int.emod_nonneg (cell ns 5) (Int.ne_of_gt p20.1)
      have m1 := Int.emod_lt_of_pos (cell ns 5) p20.1
      have zf : Sz 150 (1 + cell ns 5 % 10 ^ Int.toNat 20) := by
        generalize cell ns 5 % 10 ^ Int.toNat 20 = r at *
        have : Sz 75 (1 + r) := by unfold Sz; omega
        exact this.mono (by decide)
      refine ⟨⟨by decide, by decide, by decide⟩, by decide, ?_⟩
      generalize 1 + cell ns 5 % 10 ^ Int.toNat 20 = fa at *
      try contradiction
      clear m0 m1 p20
      have z1 : Sz 150 (1 : Int) := (show Sz 1 (1 : Int) by unfold Sz; decide).mono (by decide)
      (intro q1 hq1; generalize eq1 : upd _ q1 _ = Gq1; obtain ⟨sq1, gq1⟩ := nw hq1 eq1; clear eq1 hq1)
      (intro q2 hq2; generalize eq2 : upd _ q2 _ = Gq2; obtain ⟨sq2, gq2⟩ := nw hq2 eq2; clear eq2 hq2)
      (intro q3 hq3; generalize eq3 : upd _ q3 _ = Gq3; obtain ⟨sq3, gq3⟩ := nw hq3 eq3; clear eq3 hq3)
      have s3 := (sq1.trans sq2).trans sq3
      have lu := hc.1.len
      have f1 : Fz 150 K Gq3 (.ref q1) (-fa) 1 := ⟨⟨q1, rfl, (sq2.trans sq3).tup (.of gq1)⟩, zf.neg, z1, by decide⟩
      have f2 : Fz 150 K Gq3 (.ref q2) fa 1 := ⟨⟨q2, rfl, sq3.tup (.of gq2)⟩, zf, z1, by decide⟩
      refine ⟨q3, q, _, _, rfl, rfl, gq3, s3 _ _ hu, by show 2 + us.length ≤ sizeLine; omega, ?_⟩
      (intro q4 hq4; generalize eq4 : upd _ q4 _ = Gq4; obtain ⟨sq4, gq4⟩ := nw hq4 eq4; clear eq4 hq4)
      have s4 := s3.trans sq4
      have c4 : Ctn 150 K Gq4 ([.ref q1, .ref q2] ++ us) ([(-fa, 1), (fa, 1)] ++ cs) := (((Ctn.one f1 (Int.gcd_one_right _)).app (Ctn.one f2 (Int.gcd_one_right _))).mono sq4).app (hc.mono s4)
      refine u_cell ha (s2.trans s4) (by decide) ?_
      try contradiction
      refine ⟨⟨by decide, by decide⟩, by decide, ?_⟩
      split
      · refine ⟨q4, x, _, _, rfl, rfl, gq4, s4 _ _ hx2, by rw [List.length_append]; show 2 + us.length + zs.length ≤ sizeLine; omega, ?_⟩
        (intro q5 hq5; generalize eq5 : upd _ q5 _ = Gq5; obtain ⟨sq5, gq5⟩ := nw hq5 eq5; clear eq5 hq5)
        exact hN _ _ ⟨(s2.trans s4).trans sq5, q5, _, _, _, rfl, gq5, (c4.mono sq5).app ((hz2.mono (s4.trans sq5)).up (by decide)), by rw [List.length_append, List.length_append]; show 2 + us.length + zs.length ≤ 13; omega⟩
      · exact hN _ _ ⟨s2.trans s4, q4, _, _, _, rfl, gq4, c4, by rw [List.length_append]; show 2 + us.length ≤ 13; omega⟩
    · exact hN _ _ ⟨s2, q, us, cs, _, rfl, hu, hc, by omega⟩
  clear hu hc l6 s2 hx2 hz2
  rintro σ H2 ⟨s2, q, us, cs, o, rfl, hu, hc, l6⟩
  have lu := hc.1.len
  refine seq_pt (fun σ' H' => Same H H' ∧ ∃ (q : Addr) (us : List V) (cs : List (Int × Int)) (o o4 o5 o6 : Option V), σ' = [some (.ref a), some (.ref x), some (.ref q), o, o4, o5, o6] ∧ H' q = some (.lst us) ∧ Ctn 150 K H' us cs ∧ us.length ≤ 13) (fun N hN => ?_) ?_
  · contradiction
    refine u_cell ha s2 (by decide) ?_
    try contradiction
    refine ⟨⟨by decide, by decide⟩, by decide, ?_⟩
    split
    · refine ⟨by decide, fun p4 hp4 => ?_⟩
      have s4 := Same.upd hp4 (.lst [])
      have hm0 : (upd H2 p4 (.lst [])) p4 = some (.lst []) := upd_same
      generalize upd H2 p4 (.lst []) = H4 at *
      refine ⟨⟨_, .of (s4 _ _ hu)⟩, ?_⟩
      refine fi_n us.length (fun i => us.getD i .non) (fun i σ H' => Same H2 H' ∧ ∃ (ws : List V) (qs : List (Int × Int)) (o1 o2 : Option V), σ = [some (.ref a), some (.ref x), some (.ref q), o, some (.ref p4), o1, o2] ∧ H' p4 = some (.lst ws) ∧ Ctn 150 K H' ws qs ∧ ws.length ≤ i) ⟨s4, [], [], none, none, rfl, hm0, ⟨trivial, by simp⟩, Nat.le_refl _⟩ ?_ ?_ ?_
      · rintro i σ H' ⟨s1, _⟩
        exact wkAt_getD (.of (s1 _ _ hu))
      · rintro i σ H5 hi ⟨s1, ws, qs, o1, o2, rfl, hm, hq, hle⟩
        obtain ⟨v, r, ev, er, fr, gr⟩ := hc.at hi
        have ew : us.getD i .non = v := by rw [List.getD_eq_getElem?_getD, ev]; rfl
        rw [ew]
        have fr1 := fr.mono s1
        have lw := hq.1.len
        contradiction
        refine while_go (fun σ H6 => H6 = H5 ∧ ∃ j : Nat, σ = [some (.ref a), some (.ref x), some (.ref q), o, some (.ref p4), some v, some (.int (j : Nat))] ∧ j ≤ ws.length) (fun σ _ => match σ with | [_, _, _, _, _, _, some (.int j)] => ws.length - j.toNat | _ => 0) ⟨rfl, 0, rfl, Nat.zero_le _⟩ ?_
        rintro σ H6 ⟨rfl, j, rfl, hj⟩
        have ins : rInsert (.ref p4) [.int (j : Nat), v] H6 fun _ H3 => Same H2 H3 ∧ ∃ (ws : List V) (qs : List (Int × Int)) (o1 o2 : Option V), [some (V.ref a), some (.ref x), some (.ref q), o, some (.ref p4), some v, some (.int (j : Nat))] = [some (.ref a), some (.ref x), some (.ref q), o, some (.ref p4), o1, o2] ∧ H3 p4 = some (.lst ws) ∧ Ctn 150 K H3 ws qs ∧ ws.length ≤ i + 1 :=
          ⟨p4, ws, v, j, rfl, rfl, hm, hj, by omega, s1.put hp4, _, _, _, _, rfl, upd_same, Ctn.put hm (hq.ins fr1 gr j), by rw [List.length_append, List.length_cons, List.length_take, List.length_drop]; omega⟩
        contradiction
        refine ⟨p4, ws, rfl, .inl (.of hm), ?_⟩
        by_cases hjl : j < ws.length
        · rw [if_pos (by omega)]
          obtain ⟨v2, c2, ev2, ec2, f2, _⟩ := hq.at hjl
          refine z_ixL (.of hm) (atI_nat ev2) ?_
          try contradiction
          refine ⟨_, _, _, _, _, _, rfl, f2.up (by decide), fr1.up (by decide), ?_⟩
          try contradiction
          split
          · refine wb_of ?_
            contradiction
            exact ⟨⟨j + 1, rfl, hjl⟩, by show ws.length - ((j : Int) + 1).toNat < ws.length - (j : Int).toNat; omega⟩
          · skip
            refine ⟨p4, ws, rfl, .inl (.of hm), ?_⟩
            by_cases hj2 : j = ws.length
            · rw [if_pos (by omega)]
              exact ⟨.inl ⟨rfl, _, .of hm⟩, ins⟩
            · rw [if_neg (by omega)]
              obtain ⟨v3, c3, ev3, ec3, f3, _⟩ := hq.at (show j < ws.length by omega)
              refine z_ixL (.of hm) (atI_nat ev3) ?_
              obtain ⟨⟨y1, rfl, hy1⟩, _⟩ := id f3
              obtain ⟨⟨y2, rfl, hy2⟩, _⟩ := id fr1
              try contradiction
              refine eq_tints (ns := [c3.1, c3.2]) (ms := [r.1, r.2]) hy1 hy2 ?_
              try contradiction
              split
              · exact ⟨s1, ws, qs, _, _, rfl, hm, hq, by omega⟩
              · exact ⟨.inl ⟨rfl, _, .of hm⟩, ins⟩
        · rw [if_neg (by omega)]
          try contradiction
          refine ⟨p4, ws, rfl, .inl (.of hm), ?_⟩
          by_cases hj2 : j = ws.length
          · rw [if_pos (by omega)]
            exact ⟨.inl ⟨rfl, _, .of hm⟩, ins⟩
          · rw [if_neg (by omega)]
            obtain ⟨v3, c3, ev3, ec3, f3, _⟩ := hq.at (show j < ws.length by omega)
            refine z_ixL (.of hm) (atI_nat ev3) ?_
            obtain ⟨⟨y1, rfl, hy1⟩, _⟩ := id f3
            obtain ⟨⟨y2, rfl, hy2⟩, _⟩ := id fr1
            try contradiction
            refine eq_tints (ns := [c3.1, c3.2]) (ms := [r.1, r.2]) hy1 hy2 ?_
            try contradiction
            split
            · exact ⟨s1, ws, qs, _, _, rfl, hm, hq, by omega⟩
            · exact ⟨.inl ⟨rfl, _, .of hm⟩, ins⟩
      · rintro σ H5 ⟨s1, ws, qs, o1, o2, rfl, hm, hq, hle⟩
        contradiction
        exact hN _ _ ⟨s2.trans s1, p4, ws, qs, _, _, _, _, rfl, hm, hq, by omega⟩
    · exact hN _ _ ⟨s2, q, us, cs, _, _, _, _, rfl, hu, hc, l6⟩
  clear hu hc l6 s2 lu
  rintro σ H2 ⟨s2, q, us, cs, o, o4, o5, o6, rfl, hu, hc, l6⟩
  have lu := hc.1.len
  contradiction
  exact k q H2 us cs s2 hu hc (by omega)
--SPLIT
def sp_q_odd (K : PySem.W.Frag) : Sp := fun vs H Q _ => ∃ c : Int, vs = [.int c] ∧ ∀ v H', Same H H' → Cu K H' v none → Q v H'
theorem kit_nl : PySem.W.kitOne K (.type "NoneType") (.type "list") = some false := kitT (by decide +kernel)
theorem kit_il : PySem.W.kitOne K (.type "int") (.type "list") = some false := kitT (by decide +kernel)
theorem kit_tl : PySem.W.kitOne K (.type "tuple") (.type "list") = some false := kitT (by decide +kernel)
theorem kit_sl : PySem.W.kitOne K (.type "str") (.type "list") = some false := kitT (by decide +kernel)
theorem kit_dl : PySem.W.kitOne K (.type "dict") (.type "list") = some false := kitT (by decide +kernel)
theorem cu1 {H : Hp} {a : Addr} {v : V} {b : Bool} (h : H a = some (.lst [v])) (t : Tf K H v b) (e : b = false) : Cu K H (.ref a) none := .bad (es := [(v, b)]) h (fun x hx => by
  have : x = (v, b) := by simpa using hx
  rw [this]
  exact t) (by rw [e]; rfl) (by show 1 ≤ 100; decide)
theorem cu2 {H : Hp} {a : Addr} {v w : V} {b c : Bool} (h : H a = some (.lst [v, w])) (t : Tf K H v b) (u : Tf K H w c) (e : c = false) : Cu K H (.ref a) none := .bad (es := [(v, b), (w, c)]) h (fun x hx => by
  have : x = (v, b) ∨ x = (w, c) := by simpa using hx
  rcases this with rfl | rfl
  · exact t
  · exact u) (by rw [e]; cases b <;> rfl) (by show 2 ≤ 100; decide)
theorem cu3 {H : Hp} {a : Addr} {v w z : V} {b c d : Bool} (h : H a = some (.lst [v, w, z])) (t : Tf K H v b) (u : Tf K H w c) (x : Tf K H z d) (e : d = false) : Cu K H (.ref a) none := .bad (es := [(v, b), (w, c), (z, d)]) h (fun x hx => by
  have : x = (v, b) ∨ x = (w, c) ∨ x = (z, d) := by simpa using hx
  rcases this with rfl | rfl | rfl <;> assumption) (by rw [e]; cases b <;> cases c <;> rfl) (by show 3 ≤ 100; decide)
--SPLIT
theorem lt2_trans {x y z : Int × Int} (hx : 0 < x.2) (hy : 0 < y.2) (hz : 0 < z.2) (h : lt2 x y) (g : lt2 y z) : lt2 x z := by
  unfold lt2 at *
  have a := Int.mul_lt_mul_of_pos_right h hz
  have b := Int.mul_lt_mul_of_pos_right g hx
  refine Classical.byContradiction fun n => ?_
  have c := Int.mul_le_mul_of_nonneg_right (show z.1 * x.2 ≤ x.1 * z.2 by omega) (Int.le_of_lt hy)
  have e1 : x.1 * z.2 * y.2 = x.1 * y.2 * z.2 := by grind
  have e2 : z.1 * x.2 * y.2 = z.1 * y.2 * x.2 := by grind
  have e3 : y.1 * x.2 * z.2 = y.1 * z.2 * x.2 := by grind
  omega
theorem cAt_mem {cs : List (Int × Int)} {i : Nat} (h : i < cs.length) : cAt cs i ∈ cs := by
  have e : cs[i]? = some cs[i] := List.getElem?_eq_getElem h
  rw [cAt_of e]
  exact List.getElem_mem h
theorem cAt_get {cs : List (Int × Int)} {i : Nat} (h : i < cs.length) : cs[i]? = some (cAt cs i) := by
  have e : cs[i]? = some cs[i] := List.getElem?_eq_getElem h
  rw [cAt_of e]
  exact e
theorem rise_lt {cs : List (Int × Int)} (hr : Rise cs) (hp : ∀ c ∈ cs, 0 < c.2) (i : Nat) : ∀ d : Nat, i + d + 1 < cs.length → lt2 (cAt cs i) (cAt cs (i + d + 1))
  | 0, h => hr i h
  | d + 1, h => lt2_trans (hp _ (cAt_mem (by omega))) (hp _ (cAt_mem (by omega))) (hp _ (cAt_mem h)) (rise_lt hr hp i d (by omega)) (hr (i + d + 1) h)
theorem gap_take : ∀ (cs : List (Int × Int)) (r : Int × Int), ∀ c ∈ cs.take (gapN cs r), lt2 c r
  | [], r, c, hc => by simp at hc
  | a :: cs, r, c, hc => by
    unfold gapN at hc
    by_cases h : lt2 a r
    · rw [List.takeWhile_cons_of_pos (by simpa using h), List.length_cons, List.take_succ_cons] at hc
      rcases List.mem_cons.mp hc with rfl | hc
      · exact h
      · exact gap_take cs r c hc
    · rw [List.takeWhile_cons_of_neg (by simpa using h)] at hc
      simp at hc
theorem gap_not : ∀ (cs : List (Int × Int)) (r c : Int × Int), cs[gapN cs r]? = some c → ¬ lt2 c r
  | [], r, c, hc => by simp at hc
  | a :: cs, r, c, hc => by
    unfold gapN at hc
    by_cases h : lt2 a r
    · rw [List.takeWhile_cons_of_pos (by simpa using h), List.length_cons, List.getElem?_cons_succ] at hc
      exact gap_not cs r c hc
    · rw [List.takeWhile_cons_of_neg (by simpa using h)] at hc
      have : a = c := by simpa using hc
      exact this ▸ h
theorem gap_is {cs : List (Int × Int)} {r : Int × Int} (hp : ∀ c ∈ cs, 0 < c.2 ∧ Int.gcd c.1 c.2 = 1) (hr : 0 < r.2) (hg : Int.gcd r.1 r.2 = 1) (h : gapI cs r ≠ -1) :
    ∃ k : Nat, gapI cs r = (k : Nat) ∧ k ≤ cs.length ∧ (0 < k → lt2 (cAt cs (k - 1)) r) ∧ (k < cs.length → lt2 r (cAt cs k)) := by
  unfold gapI at h ⊢
  by_cases he : cs[gapN cs r]? = some r
  · rw [if_pos he] at h
    exact absurd rfl h
  · rw [if_neg he]
    have hk := gapN_le cs r
    refine ⟨gapN cs r, rfl, hk, fun h0 => ?_, fun hl => ?_⟩
    · refine gap_take cs r _ (List.mem_of_getElem? (i := gapN cs r - 1) ?_)
      rw [List.getElem?_take_of_lt (by omega)]
      exact cAt_get (by omega)
    · have e := cAt_get hl
      have n := gap_not cs r _ e
      have m := hp _ (cAt_mem hl)
      unfold lt2 at n ⊢
      refine Classical.byContradiction fun z => he ?_
      obtain ⟨e1, e2⟩ := cop_eq m.2 hg m.1 hr (by omega)
      rw [e]
      exact congrArg some (Prod.ext e1 e2)
theorem gap_of {cs : List (Int × Int)} {r : Int × Int} (hri : Rise cs) (hp : ∀ c ∈ cs, 0 < c.2 ∧ Int.gcd c.1 c.2 = 1) (hr : 0 < r.2) {k : Nat} (h0 : 0 < k) (hk : k < cs.length) (h1 : lt2 (cAt cs (k - 1)) r) (h2 : lt2 r (cAt cs k)) : gapI cs r = (k : Nat) := by
  have hp' : ∀ c ∈ cs, 0 < c.2 := fun c hc => (hp c hc).1
  have as : ∀ {x y : Int × Int}, lt2 x y → ¬ lt2 y x := fun {x y} a b => by unfold lt2 at a b; omega
  have eg : gapN cs r = k := by
    refine gapN_of (by omega) (fun c hc => ?_) fun c hc => ?_
    · obtain ⟨i, hi⟩ := List.getElem?_of_mem hc
      have il := (List.getElem?_eq_some_iff.mp hi).1
      rw [List.length_take] at il
      rw [List.getElem?_take_of_lt (by omega)] at hi
      rw [← cAt_of hi]
      by_cases e : i = k - 1
      · rw [e]
        exact h1
      · have := rise_lt hri hp' i (k - 1 - i - 1) (by omega)
        rw [show i + (k - 1 - i - 1) + 1 = k - 1 by omega] at this
        exact lt2_trans (hp' _ (cAt_mem (by omega))) (hp' _ (cAt_mem (by omega))) hr this h1
    · rw [← cAt_of hc]
      exact as h2
  unfold gapI
  rw [eg, if_neg]
  intro z
  rw [cAt_get hk] at z
  have : cAt cs k = r := Option.some.inj z
  rw [this] at h2
  exact as h2 h2
theorem due_gaps {p g : List Int} {cs rs : List (Int × Int)} (hd : Due p cs) (hpn : ∃ w ∈ p, w ≠ 0) (hp : ∀ c ∈ cs, 0 < c.2 ∧ Int.gcd c.1 c.2 = 1) (hr : ∀ r ∈ rs, 0 < r.2 ∧ Int.gcd r.1 r.2 = 1) (hg : ∃ w ∈ g, w ≠ 0) (he : rs = [] ∨ p = prB g rs) :
    ∀ r ∈ rs, gapI cs r ≠ -1 → ∃ k : Nat, gapI cs r = (k : Nat) ∧ 0 < k ∧ k < cs.length ∧ lt2 (cAt cs (k - 1)) r ∧ lt2 r (cAt cs k) := fun r hrm hne => by
  obtain ⟨k, e, kl, h1, h2⟩ := gap_is hp (hr r hrm).1 (hr r hrm).2 hne
  have z : hv p r.1 r.2 = 0 := by
    rcases he with he | he
    · rw [he] at hrm
      simp at hrm
    · rw [he]
      exact prB_root hrm
  have hc0 : 0 < cs.length := List.length_pos_iff.mpr hd.2.1
  have k0 : 0 < k := by
    refine Classical.byContradiction fun n => ?_
    have ek : k = 0 := by omega
    subst ek
    obtain ⟨s, hs, f⟩ := below_sg (hp _ (cAt_mem hc0)).1 hpn hd.2.2.2.1
    have := f r.1 r.2 (hr r hrm).1 (h2 hc0)
    rw [z] at this
    exact hs this.symm
  have kc : k < cs.length := by
    refine Classical.byContradiction fun n => ?_
    have ek : k = cs.length := by omega
    subst ek
    obtain ⟨s, hs, f⟩ := above_sg (hp _ (cAt_mem (show cs.length - 1 < cs.length by omega))).1 hpn hd.2.2.2.2.1
    have := f r.1 r.2 (hr r hrm).1 (h1 k0)
    rw [z] at this
    exact hs this.symm
  exact ⟨k, e, k0, kc, h1 k0, h2 kc⟩
theorem two_len {α : Type} {l : List α} {a b : α} (ha : a ∈ l) (hb : b ∈ l) (hn : a ≠ b) : 2 ≤ l.length := by
  match l, ha, hb with
  | [x], ha, hb =>
    have e1 : a = x := by simpa using ha
    have e2 : b = x := by simpa using hb
    exact absurd (e1.trans e2.symm) hn
  | _ :: _ :: _, _, _ => simp
theorem due_unlike {p g : List Int} {cs rs : List (Int × Int)} (hd : Due p cs) (hp : ∀ c ∈ cs, 0 < c.2 ∧ Int.gcd c.1 c.2 = 1) (hr : ∀ r ∈ rs, 0 < r.2 ∧ Int.gcd r.1 r.2 = 1) (hg : ∃ w ∈ g, w ≠ 0) (he : p = prB g rs) {r r' : Int × Int} (h : r ∈ rs) (h' : r' ∈ rs) (hn : r ≠ r') {k : Nat} (k0 : 0 < k) (kc : k < cs.length)
    (a : lt2 (cAt cs (k - 1)) r ∧ lt2 r (cAt cs k)) (b : lt2 (cAt cs (k - 1)) r' ∧ lt2 r' (cAt cs k)) : False := by
  have m1 := (hp _ (cAt_mem (show k - 1 < cs.length by omega))).1
  have m2 := (hp _ (cAt_mem kc)).1
  have D0 := lcm_pos m1 m2
  have ef := fst_mul (t := (cAt cs (k - 1)).1) m1 (lcm_dvd_l (b' := (cAt cs k).2) m1)
  have el := fst_mul (t := (cAt cs k).1) m2 (lcm_dvd_r (b := (cAt cs (k - 1)).2) m2)
  have hri := hd.2.2.1 (k - 1) (by omega)
  rw [show k - 1 + 1 = k by omega] at hri
  have hfl := fl_lt m1 m2 D0 ef el hri
  have hm := hd.2.2.2.2.2 (k - 1) (by omega)
  rw [show k - 1 + 1 = k by omega, he] at hm
  unfold chM at hm
  have hle := inner_le hfl D0 hg rs fun r hr' => (hr r hr').1
  have i1 := (inn_iff m1 m2 D0 ef el r).mpr a
  have i2 := (inn_iff m1 m2 D0 ef el r').mpr b
  refine absurd (Nat.le_trans (two_len ?_ ?_ hn) (Nat.le_trans hle hm)) (by decide)
  · exact List.mem_filter.mpr ⟨h, decide_eq_true i1⟩
  · exact List.mem_filter.mpr ⟨h', decide_eq_true i2⟩
theorem held_ok {p g : List Int} {cs rs un : List (Int × Int)} (hd : Due p cs) (hpn : ∃ w ∈ p, w ≠ 0) (hp : ∀ c ∈ cs, 0 < c.2 ∧ Int.gcd c.1 c.2 = 1) (hr : ∀ r ∈ rs, 0 < r.2 ∧ Int.gcd r.1 r.2 = 1) (hg : ∃ w ∈ g, w ≠ 0) (he : rs = [] ∨ p = prB g rs) (hu : un.Nodup) (hm : ∀ r, r ∈ un ↔ r ∈ rs) :
    (∀ x ∈ (un.filter fun r => decide (gapI cs r ≠ -1)).map (gapI cs), x ≠ 0 ∧ x ≠ (cs.length : Int)) ∧ ((un.filter fun r => decide (gapI cs r ≠ -1)).map (gapI cs)).Nodup := by
  have G := due_gaps hd hpn hp hr hg he
  refine ⟨fun x hx => ?_, ?_⟩
  · obtain ⟨r, h1, rfl⟩ := List.mem_map.mp hx
    obtain ⟨h2, h3⟩ := List.mem_filter.mp h1
    obtain ⟨k, e, k0, kc, _⟩ := G r ((hm r).mp h2) (of_decide_eq_true h3)
    rw [e]
    omega
  · unfold List.Nodup
    rw [List.pairwise_map]
    have hf : (un.filter fun r => decide (gapI cs r ≠ -1)).Nodup := hu.filter _
    refine List.Pairwise.imp_of_mem (fun {r r'} h1 h2 hn => ?_) hf
    obtain ⟨m1, n1⟩ := List.mem_filter.mp h1
    obtain ⟨m2, n2⟩ := List.mem_filter.mp h2
    have q1 := (hm r).mp m1
    have q2 := (hm r').mp m2
    obtain ⟨k, e, k0, kc, a, b⟩ := G r q1 (of_decide_eq_true n1)
    obtain ⟨k', e', _, _, a', b'⟩ := G r' q2 (of_decide_eq_true n2)
    intro z
    rw [e, e'] at z
    have ek : k = k' := by omega
    subst ek
    rcases he with he | he
    · rw [he] at q1
      simp at q1
    · exact due_unlike hd hp hr hg he q1 q2 hn k0 kc ⟨a, b⟩ ⟨a', b'⟩
theorem ends_ok {p : List Int} {cs : List (Int × Int)} {x y : Int × Int} {k : Nat} (hd : Due p cs) (hpn : ∃ w ∈ p, w ≠ 0) (hp : ∀ c ∈ cs, 0 < c.2 ∧ Int.gcd c.1 c.2 = 1) (hx : 0 < x.2) (hy : 0 < y.2) (hk : k = 0 ∨ k = cs.length)
    (x1 : 0 < k → lt2 (cAt cs (k - 1)) x) (x2 : k < cs.length → lt2 x (cAt cs k)) (y1 : 0 < k → lt2 (cAt cs (k - 1)) y) (y2 : k < cs.length → lt2 y (cAt cs k)) : sgn3 (hv p x.1 x.2) = sgn3 (hv p y.1 y.2) ∧ sgn3 (hv p x.1 x.2) ≠ 0 := by
  have hc0 : 0 < cs.length := List.length_pos_iff.mpr hd.2.1
  rcases hk with rfl | rfl
  · obtain ⟨s, hs, f⟩ := below_sg (hp _ (cAt_mem hc0)).1 hpn hd.2.2.2.1
    rw [f x.1 x.2 hx (x2 hc0), f y.1 y.2 hy (y2 hc0)]
    exact ⟨rfl, hs⟩
  · obtain ⟨s, hs, f⟩ := above_sg (hp _ (cAt_mem (show cs.length - 1 < cs.length by omega))).1 hpn hd.2.2.2.2.1
    rw [f x.1 x.2 hx (x1 hc0), f y.1 y.2 hy (y1 hc0)]
    exact ⟨rfl, hs⟩
theorem GB.sg {g : List Int} (h : GB g) {t b t' b' : Int} (hb : 0 < b) (hb' : 0 < b') : ∃ s : Int, s ≠ 0 ∧ sgn3 (hv g t b) = s ∧ sgn3 (hv g t' b') = s := by
  obtain ⟨e, e0, _, rfl | rfl⟩ := h
  · exact ⟨1, by decide, sg_pos (by simpa [hv] using e0), sg_pos (by simpa [hv] using e0)⟩
  · have k : ∀ t b : Int, 0 < b → 0 < hv [e, 0, e] t b := fun t b hb => by
      have e1 : hv [e, 0, e] t b = e * (t * t) + e * (b * b) := by
        simp [hv]
        grind
      rw [e1]
      have tt : 0 ≤ t * t := by
        rcases Int.lt_or_le t 0 with h | h
        · exact Int.le_of_lt (Int.mul_pos_of_neg_of_neg h h)
        · exact Int.mul_nonneg h h
      have a := Int.mul_nonneg (Int.le_of_lt e0) tt
      have c := Int.mul_pos e0 (Int.mul_pos hb hb)
      omega
    exact ⟨1, by decide, sg_pos (k t b hb), sg_pos (k t' b' hb')⟩
theorem mid_ok {g : List Int} {cs rs : List (Int × Int)} {x y : Int × Int} {k : Nat} (hri : Rise cs) (hp : ∀ c ∈ cs, 0 < c.2 ∧ Int.gcd c.1 c.2 = 1) (hr : ∀ r ∈ rs, 0 < r.2 ∧ Int.gcd r.1 r.2 = 1) (hG : GB g) (hx : 0 < x.2) (hy : 0 < y.2) (k0 : 0 < k) (kc : k < cs.length)
    (x1 : lt2 (cAt cs (k - 1)) x) (x2 : lt2 x (cAt cs k)) (y1 : lt2 (cAt cs (k - 1)) y) (y2 : lt2 y (cAt cs k)) (hn : ∀ r ∈ rs, gapI cs r ≠ (k : Nat)) : ∃ s : Int, s ≠ 0 ∧ sgn3 (hv (prB g rs) x.1 x.2) = s ∧ sgn3 (hv (prB g rs) y.1 y.2) = s := by
  have m1 := (hp _ (cAt_mem (show k - 1 < cs.length by omega))).1
  have m2 := (hp _ (cAt_mem kc)).1
  refine prB_sg (hG.sg hx hy) rs fun r hm => ?_
  have r0 := (hr r hm).1
  have out : ∀ z : Int × Int, 0 < z.2 → lt2 (cAt cs (k - 1)) z → lt2 z (cAt cs k) → (¬ lt2 (cAt cs (k - 1)) r → r.1 * z.2 < r.2 * z.1) ∧ (¬ lt2 r (cAt cs k) → r.2 * z.1 < r.1 * z.2) := fun z z0 a b => by
    refine ⟨fun n => ?_, fun n => ?_⟩
    · refine Classical.byContradiction fun q => n ?_
      by_cases e : lt2 z r
      · exact lt2_trans m1 z0 r0 a e
      · have ez : z.1 * r.2 = r.1 * z.2 := by
          unfold lt2 at e
          have := Int.mul_comm r.2 z.1
          omega
        unfold lt2 at a ⊢
        have c1 := Int.mul_lt_mul_of_pos_right a r0
        refine Classical.byContradiction fun w => ?_
        have c2 := Int.mul_le_mul_of_nonneg_right (show r.1 * (cAt cs (k - 1)).2 ≤ (cAt cs (k - 1)).1 * r.2 by omega) (Int.le_of_lt z0)
        have c3 : z.1 * (cAt cs (k - 1)).2 * r.2 = z.1 * r.2 * (cAt cs (k - 1)).2 := by grind
        have c4 : r.1 * (cAt cs (k - 1)).2 * z.2 = r.1 * z.2 * (cAt cs (k - 1)).2 := by grind
        have c5 : (cAt cs (k - 1)).1 * z.2 * r.2 = (cAt cs (k - 1)).1 * r.2 * z.2 := by grind
        rw [ez] at c3
        omega
    · refine Classical.byContradiction fun q => n ?_
      by_cases e : lt2 r z
      · exact lt2_trans r0 z0 m2 e b
      · have ez : r.1 * z.2 = z.1 * r.2 := by
          unfold lt2 at e
          have := Int.mul_comm r.2 z.1
          omega
        unfold lt2 at b ⊢
        have c1 := Int.mul_lt_mul_of_pos_right b r0
        refine Classical.byContradiction fun w => ?_
        have c2 := Int.mul_le_mul_of_nonneg_right (show (cAt cs k).1 * r.2 ≤ r.1 * (cAt cs k).2 by omega) (Int.le_of_lt z0)
        have c3 : z.1 * (cAt cs k).2 * r.2 = z.1 * r.2 * (cAt cs k).2 := by grind
        have c4 : r.1 * (cAt cs k).2 * z.2 = r.1 * z.2 * (cAt cs k).2 := by grind
        have c5 : (cAt cs k).1 * z.2 * r.2 = (cAt cs k).1 * r.2 * z.2 := by grind
        rw [ez] at c4
        omega
  by_cases a : lt2 (cAt cs (k - 1)) r
  · by_cases b : lt2 r (cAt cs k)
    · exact absurd (gap_of hri hp r0 k0 kc a b) (hn r hm)
    · exact .inl ⟨(out x hx x1 x2).2 b, (out y hy y1 y2).2 b⟩
  · exact .inr ⟨(out x hx x1 x2).1 a, (out y hy y1 y2).1 a⟩
--SPLIT
theorem cut_take1 (xs : List V) : cutV xs none (some 1) = xs.take 1 := by
  unfold cutV
  rw [HT.sIx_none, show (some (1 : Int)) = some ((1 : Nat) : Int) from rfl, HT.sIx_nat]
  cases xs with
  | nil => rfl
  | cons x r =>
    rw [Nat.min_eq_left (by simp)]
    rfl
theorem inV_ints (n : Int) : ∀ ns : List Int, inV (.int n) (ns.map V.int) = decide (n ∈ ns)
  | [] => by simp [inV]
  | m :: ns => by
    have ih := inV_ints n ns
    unfold inV at ih ⊢
    rw [List.map_cons, List.any_cons, ih]
    by_cases h : m = n
    · subst h
      simp [eqV]
    · have h' : ¬ n = m := fun z => h z.symm
      simp [eqV, h, h']
theorem flat_ints : ∀ ns : List Int, (ns.map V.int).all flatV = true
  | [] => rfl
  | m :: ns => by
    rw [List.map_cons, List.all_cons, flat_ints ns]
    rfl
theorem u_in {H : Hp} {Q : VK} {a : Addr} {ns : List Int} {n : Int} (h : H a = some (.lst (ns.map V.int))) (q : Q (.bl (decide (n ∈ ns))) H) : rIn K false (.int n) (.ref a) H Q :=
  ⟨a, _, rfl, .inl (.of h), rfl, flat_ints ns, by rw [inV_ints]; exact q⟩
def St19 (K : PySem.W.Frag) (H : Hp) (R A : Addr) (p : List Int) (rs : List (Int × Int)) (zs : List V) (g : List Int) : Prop :=
  SqT K H A (p.map V.int) ∧ p.length ≤ 8 ∧ (∀ x ∈ p, Sz 50 x) ∧ H R = some (.lst zs) ∧ Ctn 20 K H zs rs.reverse ∧ rs.length ≤ 5 ∧ (p = [] ∨ ∃ w ∈ p, w ≠ 0) ∧ (p = [] ∨ rs = [] ∨ GB g ∧ p = prB g rs)
theorem St19.mono {H H' : Hp} {R A : Addr} {p : List Int} {rs : List (Int × Int)} {zs : List V} {g : List Int} (h : St19 K H R A p rs zs g) (s : Same H H') : St19 K H' R A p rs zs g :=
  ⟨s.tup h.1, h.2.1, h.2.2.1, s _ _ h.2.2.2.1, h.2.2.2.2.1.mono s, h.2.2.2.2.2⟩
theorem kit_bb' : PySem.W.kitOne K (.type "bool") (.type "bool") = some true := kitT (by decide +kernel)
theorem fn_law {f : Addr} {fd : FuncData} (F : Df K mg "law" s_law ["_law_script"] f fd) (z_list : mg "list" = none) (z_isinstance : mg "isinstance" = none) (z_bool : mg "bool" = none) (z_len : mg "len" = none) (z_set : mg "set" = none)  (c_q_poly : Cal P w K mg base 2 "_law_poly" ["_law_cell", "_law_most"] (sp_q_poly K)) (c_q_cuts : Cal P w K mg base 4 "_law_cuts" ["_law_script", "_law_roots"] (sp_q_cuts K)) (c_roots_right : Cal P w K mg base 4 "roots_right" ["p", "cuts"] (sp_roots_right K)) (c_q_held : Cal P w K mg base 3 "_law_held" ["_law_cuts_here", "_law_roots"] (sp_q_held K)) (c_q_drawn : Cal P w K mg base 3 "_law_drawn" ["_law_cell"] (sp_q_drawn K)) (c_q_gap : Cal P w K mg base 2 "_law_gap" ["_law_cuts_here", "_law_r"] (sp_q_gap K)) (c_q_product : Cal P w K mg base 3 "_law_product" ["_law_cell"] (sp_q_product K)) (c_q_cell_at : Cal P w K mg base 1 "_law_cell_at" ["_law_script", "_law_k"] (sp_q_cell_at K)) (c_q_sign : Cal P w K mg base 2 "_law_sign" ["_law_p", "_law_r"] (sp_q_sign K)) (c_q_odd : Cal P w K mg base 1 "_law_odd" ["_law_cell"] (sp_q_odd K)) (c_q_due : Cal P w K mg base 4 "_law_due" ["_law_p", "_law_cuts_here"] (sp_q_due K)) : FnOk P w K mg base CX0 5 f fd ["_law_script"] (spLaw K) := by
  refine F.fn.ok sc_law (fun vs H Q E h => ?_) (fun cdv A outer s H vs Q E hr h => ?_)
  · obtain ⟨a, ns, rfl, _⟩ := h
    rfl
  obtain ⟨a, ns, rfl, hS, h63, k⟩ := h
  refine S.ex_out ⟨_, (S.pss_cons (S.ps_set (i := 1) sc_law.nd rfl (Or.inl rfl) (S.pe_lst S.pa_nil))
      (S.pss_cons (S.ps_set (i := 2) sc_law.nd rfl (Or.inl rfl) (S.pe_cD c_q_poly (hr.mono (by decide)) (S.pa_cns (S.pe_op op_fdivP (S.pe_cD c_q_cell_at (hr.mono (by decide)) (S.pa_cns (S.pv 0) (S.pa_cns S.pe_int S.pa_nil))) S.pe_int) (S.pa_cns S.pe_int S.pa_nil))))
      (S.pss_cons (S.ps_if (S.pt_cmpR op_eq (S.pe_op op_mod (S.pe_cD c_q_cell_at (hr.mono (by decide)) (S.pa_cns (S.pv 0) (S.pa_cns S.pe_int S.pa_nil))) S.pe_int) S.pe_int (nomark _)) (S.pss_one (S.ps_asg (S.pe_cD c_q_product (hr.mono (by decide)) (S.pa_cns (S.pe_op op_fdivP (S.pe_cD c_q_cell_at (hr.mono (by decide)) (S.pa_cns (S.pv 0) (S.pa_cns S.pe_int S.pa_nil))) S.pe_int) S.pa_nil)) (S.pg_tup rfl (S.pgs_cons (S.pg_name (i := 2) sc_law.nd rfl (Or.inl rfl)) (S.pgs_cons (S.pg_name (i := 1) sc_law.nd rfl (Or.inl rfl)) S.pgs_nil))))) S.pss_nil)
      (S.pss_cons (S.ps_if (S.pt_cmpR op_eq (S.pe_op op_mod (S.pe_cD c_q_cell_at (hr.mono (by decide)) (S.pa_cns (S.pv 0) (S.pa_cns S.pe_int S.pa_nil))) S.pe_int) S.pe_int (nomark _)) (S.pss_one (S.ps_set (i := 2) sc_law.nd rfl (Or.inl rfl) (S.pe_tup S.pa_nil))) S.pss_nil)
      (S.pss_cons (S.ps_set (i := 3) sc_law.nd rfl (Or.inl rfl) (S.pe_cD c_q_cuts (hr.mono (by decide)) (S.pa_cns (S.pv 0) (S.pa_cns (S.pv 1) S.pa_nil))))
      (S.pss_cons (S.ps_if (S.pt_cmpR op_isnB (S.pe_cD c_roots_right (hr.mono (by decide)) (S.pa_cns (S.pv 2) (S.pa_cns (S.pe_cD c_q_odd (hr.mono (by decide)) (S.pa_cns (S.pe_cD c_q_cell_at (hr.mono (by decide)) (S.pa_cns (S.pv 0) (S.pa_cns S.pe_int S.pa_nil))) S.pa_nil)) S.pa_nil))) S.pe_bl (nomark _)) (S.pss_one (S.ps_ret S.pe_bl)) S.pss_nil)
      (S.pss_cons (S.ps_set (i := 4) sc_law.nd rfl (Or.inl rfl) (S.pe_cTy call_list_of rfl z_list PyProof.Rows.boot_list (S.pa_cns (S.pv 3) S.pa_nil)))
      (S.pss_cons (S.ps_set (i := 5) sc_law.nd rfl (Or.inl rfl) (S.pe_cD c_roots_right (hr.mono (by decide)) (S.pa_cns (S.pv 2) (S.pa_cns (S.pv 4) S.pa_nil))))
      (S.pss_cons (S.ps_if (S.PW_pt (S.pw_or (S.pt_not (S.pt_val (S.pe_cB call_isi rfl z_isinstance PyProof.Rows.boot_isinstance (S.pa_cns (S.pv 5) (S.pa_cns (S.pe_bltn (v := .ty "bool") rfl z_bool PyProof.Rows.boot_bool rfl) S.pa_nil))))) (S.pw_or (S.pt_cmpR (op_neD hr.units) (S.pv 4) (S.pv 3) (nomark _)) (S.pw_or1 (S.pt_cmpR op_ne (S.pv 5) (S.pe_cD c_q_due (hr.mono (by decide)) (S.pa_cns (S.pv 2) (S.pa_cns (S.pv 3) S.pa_nil))) (nomark _)))))) (S.pss_one (S.ps_ret S.pe_bl)) S.pss_nil)
      (S.pss_cons (S.ps_if (S.pt_not (S.pt_val (S.pv 5))) (S.pss_one (S.ps_ret S.pe_bl)) S.pss_nil)
      (S.pss_cons (S.ps_if (S.PW_pt (S.pw_or (S.pt_cmpR op_isnB (S.pe_cD c_roots_right (hr.mono (by decide)) (S.pa_cns (S.pv 2) (S.pa_cns (S.pe_op op_cat (S.pe_slice sl_list (S.pv 3) S.po_none (S.po_some S.pe_int)) (S.pv 3)) S.pa_nil))) S.pe_bl (nomark _)) (S.pw_or1 (S.pt_cmpR op_isnB (S.pe_cD c_roots_right (hr.mono (by decide)) (S.pa_cns (S.pe_tup S.pa_nil) (S.pa_cns (S.pv 3) S.pa_nil))) S.pe_bl (nomark _))))) (S.pss_one (S.ps_ret S.pe_bl)) S.pss_nil)
      (S.pss_cons (S.ps_set (i := 6) sc_law.nd rfl (Or.inl rfl) (S.pe_cD c_q_held (hr.mono (by decide)) (S.pa_cns (S.pv 3) (S.pa_cns (S.pv 1) S.pa_nil))))
      (S.pss_cons (S.ps_if (S.PW_pt (S.pw_or (S.pt_cmpR op_in_seq S.pe_int (S.pv 6) rfl) (S.pw_or (S.pt_cmpR op_in_seq (S.pe_cB call_len_seq rfl z_len PySem.boot_len (S.pa_cns (S.pv 3) S.pa_nil)) (S.pv 6) rfl) (S.pw_or1 (S.pt_cmpR op_ne (S.pe_cB call_lenS rfl z_len PySem.boot_len (S.pa_cns (S.pe_cTy (call_setI rfl) rfl z_set PyProof.Rows.boot_set (S.pa_cns (S.pv 6) S.pa_nil)) S.pa_nil)) (S.pe_cB call_len_seq rfl z_len PySem.boot_len (S.pa_cns (S.pv 6) S.pa_nil)) (nomark _)))))) (S.pss_one (S.ps_ret S.pe_bl)) S.pss_nil)
      (S.pss_cons (S.ps_set (i := 7) sc_law.nd rfl (Or.inl rfl) (S.pe_cD c_q_drawn (hr.mono (by decide)) (S.pa_cns (S.pe_cD c_q_cell_at (hr.mono (by decide)) (S.pa_cns (S.pv 0) (S.pa_cns S.pe_int S.pa_nil))) S.pa_nil)))
      (S.pss_cons (S.ps_set (i := 8) sc_law.nd rfl (Or.inl rfl) (S.pe_cD c_q_drawn (hr.mono (by decide)) (S.pa_cns (S.pe_cD c_q_cell_at (hr.mono (by decide)) (S.pa_cns (S.pv 0) (S.pa_cns S.pe_int S.pa_nil))) S.pa_nil)))
      (S.pss_cons (S.ps_set (i := 9) sc_law.nd rfl (Or.inl rfl) (S.pe_cD c_q_gap (hr.mono (by decide)) (S.pa_cns (S.pv 3) (S.pa_cns (S.pv 7) S.pa_nil))))
      (S.pss_cons (S.ps_if (S.PW_pt (S.pw_or (S.pt_cmpR op_eq (S.pv 9) (S.pe_un un_neg S.pe_int) (nomark _)) (S.pw_or1 (S.pt_cmpR op_ne (S.pv 9) (S.pe_cD c_q_gap (hr.mono (by decide)) (S.pa_cns (S.pv 3) (S.pa_cns (S.pv 8) S.pa_nil))) (nomark _))))) (S.pss_one (S.ps_ret S.pe_bl)) S.pss_nil)
      (S.pss_cons (S.ps_set (i := 10) sc_law.nd rfl (Or.inl rfl) (S.pe_lst (S.pa_cns (S.pe_cD c_q_sign (hr.mono (by decide)) (S.pa_cns (S.pv 2) (S.pa_cns (S.pv 7) S.pa_nil))) (S.pa_cns (S.pe_cD c_q_sign (hr.mono (by decide)) (S.pa_cns (S.pv 2) (S.pa_cns (S.pv 8) S.pa_nil))) S.pa_nil))))
      (S.pss_cons (S.ps_if (S.PW_pt (S.pw_or (S.pt_cmpR op_eq (S.pv 9) S.pe_int (nomark _)) (S.pw_or1 (S.pt_cmpR op_eq (S.pv 9) (S.pe_cB call_len_seq rfl z_len PySem.boot_len (S.pa_cns (S.pv 3) S.pa_nil)) (nomark _))))) (S.pss_one (S.ps_ret (S.pe_and (S.pe_cmpR op_eq (S.pe_ix ix_list (S.pv 10) S.pe_int (fun _ _ => rfl)) (S.pe_ix ix_list (S.pv 10) S.pe_int (fun _ _ => rfl)) (nomark _)) (S.pe_one (S.pe_cmpR op_ne (S.pe_ix ix_list (S.pv 10) S.pe_int (fun _ _ => rfl)) S.pe_int (nomark _)))))) S.pss_nil)
      (S.pss_cons (S.ps_if (S.PW_pt (S.pw_or (S.pt_cmpR op_ne (S.pe_ix ix_list (S.pv 10) S.pe_int (fun _ _ => rfl)) (S.pe_ix ix_list (S.pv 10) S.pe_int (fun _ _ => rfl)) (nomark _)) (S.pw_or1 (S.pt_cmpR op_eq (S.pe_ix ix_list (S.pv 10) S.pe_int (fun _ _ => rfl)) S.pe_int (nomark _))))) (S.pss_one (S.ps_ret (S.pe_or (S.pe_cmpR (op_eqD hr.units) (S.pv 1) (S.pe_lst S.pa_nil) (nomark _)) (S.pe_one (S.pe_cmpR op_in_seq (S.pv 9) (S.pv 6) rfl))))) S.pss_nil)
      (S.pss_one (S.ps_ret S.pe_bl)))))))))))))))))))))), ?_⟩
  refine seq_pt (fun σ' H' => Same H H' ∧ ∃ R, σ' = [some (.ref a), some (.ref R), none, none, none, none, none, none, none, none, none] ∧ H' R = some (.lst [])) (fun N hN => ?_) ?_
  · contradiction
    exact ⟨by decide, fun q hq => hN _ _ ⟨Same.upd hq _, q, rfl, upd_same⟩⟩
  rintro σ H1 ⟨s1, R, rfl, hR⟩
  refine seq_pt (fun σ' H' => Same H H' ∧ ∃ (R A : Addr) (p : List Int), σ' = [some (.ref a), some (.ref R), some (.ref A), none, none, none, none, none, none, none, none] ∧ St19 K H' R A p [] [] []) (fun N hN => ?_) ?_
  · contradiction
    refine u_cell hS s1 (by decide) ?_
    try contradiction
    exact ⟨⟨by decide, by decide⟩, _, rfl, fun z H2 p s2 hp hl h0 hw hd => hN _ _ ⟨s1.trans s2, R, z, p, rfl, hp, by omega, hw, s2 _ _ hR, ⟨trivial, by simp⟩, by decide, .inr ⟨_, List.getLast_mem h0, hd h0⟩, .inr (.inl rfl)⟩⟩
  clear hR s1
  rintro σ H1 ⟨s1, R, A, p, rfl, h1⟩
  refine seq_pt (fun σ' H' => Same H H' ∧ ∃ (R A : Addr) (p : List Int) (rs : List (Int × Int)) (zs : List V) (g : List Int), σ' = [some (.ref a), some (.ref R), some (.ref A), none, none, none, none, none, none, none, none] ∧ St19 K H' R A p rs zs g) (fun N hN => ?_) ?_
  · contradiction
    refine u_cell hS s1 (by decide) ?_
    try contradiction
    refine ⟨by decide, ?_⟩
    split
    · refine u_cell hS s1 (by decide) ?_
      try contradiction
      refine ⟨⟨by decide, by decide⟩, _, rfl, fun z H2 A2 R2 g rs zs s2 hz hA hR2 hP hgc hl5 hG hl8 hw2 => ?_⟩
      have pos : ∀ r ∈ rs, 0 < r.2 := fun r hr => hP.pos r (List.mem_reverse.mpr hr)
      have gne : ∃ w ∈ g, w ≠ 0 := by
        obtain ⟨e, e0, _, rfl | rfl⟩ := id hG <;> exact ⟨e, by simp, by omega⟩
      exact g_pair hz (hN _ _ ⟨s1.trans s2, R2, A2, prB g rs, rs, zs, g, rfl, hA, hl8, hw2, hR2, ⟨hP, fun c hc => hgc c (List.mem_reverse.mp hc)⟩, hl5, .inr (prB_ne gne rs pos), .inr (.inr ⟨hG, rfl⟩)⟩)
    · exact hN _ _ ⟨s1, R, A, p, [], [], [], rfl, h1⟩
  clear h1 s1
  rintro σ H1 ⟨s1, R, A, p, rs, zs, g, rfl, h1⟩
  refine seq_pt (fun σ' H' => Same H H' ∧ ∃ (A : Addr) (p : List Int), σ' = [some (.ref a), some (.ref R), some (.ref A), none, none, none, none, none, none, none, none] ∧ St19 K H' R A p rs zs g) (fun N hN => ?_) ?_
  · contradiction
    refine u_cell hS s1 (by decide) ?_
    try contradiction
    refine ⟨by decide, ?_⟩
    split
    · refine ⟨by decide, fun q hq => ?_⟩
      have sq := Same.upd hq (.tup [])
      have m := h1.mono sq
      exact hN _ _ ⟨s1.trans sq, q, [], rfl, .of upd_same, by decide, by simp, m.2.2.2.1, m.2.2.2.2.1, m.2.2.2.2.2.1, .inl rfl, .inl rfl⟩
    · exact hN _ _ ⟨s1, A, p, rfl, h1⟩
  clear h1 s1
  rintro σ H1 ⟨s1, A, p, rfl, h1⟩
  have lz : zs.length = rs.length := by rw [h1.2.2.2.2.1.1.len, List.length_reverse]
  refine seq_pt (fun σ' H' => Same H1 H' ∧ ∃ (C : Addr) (us : List V) (cs : List (Int × Int)), σ' = [some (.ref a), some (.ref R), some (.ref A), some (.ref C), none, none, none, none, none, none, none] ∧ H' C = some (.lst us) ∧ Cts K H' us cs ∧ cs.length ≤ 20) (fun N hN => ?_) ?_
  · contradiction
    exact ⟨a, R, ns, zs, _, rfl, s1.seq hS, h1.2.2.2.1, h1.2.2.2.2.1, by have := h1.2.2.2.2.2.1; omega, fun z H2 us cs s2 hz hc hl => hN _ _ ⟨s2, z, us, cs, rfl, hz, hc, hl⟩⟩
  rintro σ H2 ⟨s2, C, us, cs, rfl, hC, hc, l20⟩
  have h2 := h1.mono s2
  refine seq_pt (fun σ' H' => Same H2 H' ∧ σ' = [some (.ref a), some (.ref R), some (.ref A), some (.ref C), none, none, none, none, none, none, none]) (fun N hN => ?_) ?_
  · contradiction
    refine u_cell hS (s1.trans s2) (by decide) ?_
    try contradiction
    refine ⟨_, rfl, fun v H3 s3 hv => ?_⟩
    try contradiction
    refine ⟨A, v, p, none, rfl, (h2.mono s3).1, h2.2.1, h2.2.2.1, hv, fun b H4 s4 hb => ?_⟩
    have eb : b = false := by
      cases b
      · rfl
      · obtain ⟨_, e, _⟩ := hb.mp rfl
        cases e
    subst eb
    try contradiction
    refine ⟨_, _, rfl, rfl, ?_⟩
    try contradiction
    exact hN _ _ ⟨s3.trans s4, rfl⟩
  rintro σ H3 ⟨s3, rfl⟩
  refine seq_pt (fun σ' H' => Same H3 H' ∧ ∃ D : Addr, σ' = [some (.ref a), some (.ref R), some (.ref A), some (.ref C), some (.ref D), none, none, none, none, none, none] ∧ H' D = some (.lst us)) (fun N hN => ?_) ?_
  · contradiction
    exact ⟨C, us, rfl, .inl (.of (s3 _ _ hC)), fun q hq => hN _ _ ⟨Same.upd hq _, q, rfl, upd_same⟩⟩
  rintro σ H4 ⟨s4, D, rfl, hD⟩
  have s24 := s3.trans s4
  have hc4 := hc.mono s24
  have h4 := h2.mono s24
  refine seq_pt (fun σ' H' => Same H4 H' ∧ ∃ b : Bool, (b = true ↔ Due p cs) ∧ σ' = [some (.ref a), some (.ref R), some (.ref A), some (.ref C), some (.ref D), some (.bl b), none, none, none, none, none]) (fun N hN => ?_) ?_
  · contradiction
    refine ⟨A, .ref D, p, some cs, rfl, h4.1, h4.2.1, h4.2.2.1, .good hD hc4 (by omega), fun b H5 s5 hb => ?_⟩
    try contradiction
    refine hN _ _ ⟨s5, b, ?_, rfl⟩
    rw [hb]
    exact ⟨fun ⟨cs', e, d⟩ => by cases e; exact d, fun d => ⟨cs, rfl, d⟩⟩
  rintro σ H5 ⟨s5, b, hb, rfl⟩
  have s25 := s24.trans s5
  have hc5 := hc.mono s25
  have h5 := h2.mono s25
  have hC5 := s25 _ _ hC
  refine seq_pt (fun σ' H' => Same H5 H' ∧ σ' = [some (.ref a), some (.ref R), some (.ref A), some (.ref C), some (.ref D), some (.bl b), none, none, none, none, none]) (fun N hN => ?_) ?_
  · contradiction
    refine isi (.bl b) kit_bb' ?_
    try contradiction
    refine eq_cuts (.of (s5 _ _ hD)) hc5.1 (.of hC5) hc5.1 ?_
    try contradiction
    refine ⟨A, C, p, us, cs, rfl, h5.1, h5.2.1, h5.2.2.1, .of hC5, hc5, by omega, fun b' H6 s6 hb' => ?_⟩
    have e : b = b' := by
      cases b <;> cases b' <;> first | rfl | (exfalso; have := hb.mp; have := hb'.mp; simp_all)
    subst e
    try contradiction
    exact hN _ _ ⟨s6, rfl⟩
  rintro σ H6 ⟨s6, rfl⟩
  refine seq_pt (fun σ' H' => Same H6 H' ∧ Due p cs ∧ σ' = [some (.ref a), some (.ref R), some (.ref A), some (.ref C), some (.ref D), some (.bl b), none, none, none, none, none]) (fun N hN => ?_) ?_
  · contradiction
    cases b with
    | false =>
      try contradiction
      exact k _
    | true =>
      try contradiction
      exact hN _ _ ⟨Same.refl _, hb.mp rfl, rfl⟩
  rintro σ H7 ⟨s7, hd, rfl⟩
  have s27 := (s25.trans s6).trans s7
  have hc7 := hc.mono s27
  have h7 := h2.mono s27
  have hC7 := s27 _ _ hC
  have lu := hc.1.len
  have sl : 1000 ≤ sizeLine := by decide
  obtain ⟨c0, cr, ecs⟩ : ∃ c r, cs = c :: r := List.exists_cons_of_ne_nil hd.2.1
  refine seq_pt (fun σ' H' => Same H7 H' ∧ σ' = [some (.ref a), some (.ref R), some (.ref A), some (.ref C), some (.ref D), some (.bl b), none, none, none, none, none]) (fun N hN => ?_) ?_
  · contradiction
    refine ⟨C, us, rfl, .of hC7, fun q5 hq5 => ?_⟩
    rw [cut_take1]
    have s8 := Same.upd hq5 (.lst (us.take 1))
    refine ⟨q5, C, _, _, rfl, rfl, upd_same, s8 _ _ hC7, by rw [List.length_take]; omega, fun q6 hq6 => ?_⟩
    have s9 := s8.trans (Same.upd hq6 (.lst (us.take 1 ++ us)))
    try contradiction
    refine ⟨A, .ref q6, p, some (cs.take 1 ++ cs), rfl, (h7.mono s9).1, h7.2.1, h7.2.2.1, .good upd_same ⟨Pts.app (Pts.take 1 (hc7.mono s9).1) (hc7.mono s9).1, fun c hm => (List.mem_append.mp hm).elim (fun z => hc7.2 c (List.mem_of_mem_take z)) (hc7.2 c)⟩ (by rw [List.length_append, List.length_take]; omega), fun b1 Ha sa hb1 => ?_⟩
    have e1 : b1 = false := by
      cases b1
      · rfl
      · obtain ⟨cs', e, d⟩ := hb1.mp rfl
        cases e
        have := d.2.2.1 0 (by rw [ecs]; simp)
        rw [ecs] at this
        have z : lt2 c0 c0 := this
        unfold lt2 at z
        omega
    subst e1
    try contradiction
    refine ⟨_, _, rfl, rfl, ?_⟩
    try contradiction
    refine ⟨by decide, fun q7 hq7 => ?_⟩
    have sb := sa.trans (Same.upd hq7 (.tup []))
    try contradiction
    refine ⟨q7, .ref C, [], some cs, rfl, .of upd_same, by decide, by simp, .good ((s9.trans sb) _ _ hC7) (hc7.mono (s9.trans sb)) (by omega), fun b2 Hc sc hb2 => ?_⟩
    have e2 : b2 = false := by
      cases b2
      · rfl
      · obtain ⟨cs', e, d⟩ := hb2.mp rfl
        exact absurd rfl d.1
    subst e2
    try contradiction
    refine ⟨_, _, rfl, rfl, ?_⟩
    try contradiction
    exact hN _ _ ⟨(s9.trans sb).trans sc, rfl⟩
  rintro σ H8 ⟨s8, rfl⟩
  have s28 := s27.trans s8
  have hc8 := hc.mono s28
  have h8 := h2.mono s28
  have hC8 := s28 _ _ hC
  have hpn : ∃ w ∈ p, w ≠ 0 := h2.2.2.2.2.2.2.1.resolve_left hd.1
  have hpr : rs = [] ∨ GB g ∧ p = prB g rs := h2.2.2.2.2.2.2.2.resolve_left hd.1
  have hcp : ∀ c ∈ cs, 0 < c.2 ∧ Int.gcd c.1 c.2 = 1 := fun c hm => ⟨hc.1.pos c hm, hc.2 c hm⟩
  have hrp : ∀ r ∈ rs, 0 < r.2 ∧ Int.gcd r.1 r.2 = 1 := fun r hm => ⟨h2.2.2.2.2.1.1.pos r (List.mem_reverse.mpr hm), h2.2.2.2.2.1.2 r (List.mem_reverse.mpr hm)⟩
  refine seq_pt (fun σ' H' => Same H8 H' ∧ ∃ (I : Addr) (un : List (Int × Int)), σ' = [some (.ref a), some (.ref R), some (.ref A), some (.ref C), some (.ref D), some (.bl b), some (.ref I), none, none, none, none] ∧ H' I = some (.lst (((un.filter fun r => decide (gapI cs r ≠ -1)).map (gapI cs)).map V.int)) ∧ un.Nodup ∧ (∀ r, r ∈ un ↔ r ∈ rs) ∧ un.length ≤ 20) (fun N hN => ?_) ?_
  · contradiction
    exact ⟨C, R, us, zs, cs, rs.reverse, rfl, .of hC8, hc8.1, .of h8.2.2.2.1, h8.2.2.2.2.1.1, by rw [List.length_reverse]; have := h8.2.2.2.2.2.1; omega, fun I H9 un s9 hI hnd hm hl => hN _ _ ⟨s9, I, un, rfl, hI, hnd, fun r => by rw [hm r, List.mem_reverse], hl⟩⟩
  rintro σ H9 ⟨s9, I, un, rfl, hI, hnd, hum, hul⟩
  have hok : (∀ x ∈ (un.filter fun r => decide (gapI cs r ≠ -1)).map (gapI cs), x ≠ 0 ∧ x ≠ (cs.length : Int)) ∧ ((un.filter fun r => decide (gapI cs r ≠ -1)).map (gapI cs)).Nodup := by
    rcases hpr with e | ⟨hG, e⟩
    · exact held_ok (g := [1]) hd hpn hcp hrp ⟨1, by simp, by decide⟩ (.inl e) hnd hum
    · refine held_ok (g := g) hd hpn hcp hrp ?_ (.inr e) hnd hum
      obtain ⟨e', e0, _, rfl | rfl⟩ := id hG <;> exact ⟨e', by simp, by omega⟩
  have hin : ∀ r ∈ rs, ∀ k : Nat, gapI cs r = (k : Nat) → ((k : Nat) : Int) ∈ (un.filter fun r => decide (gapI cs r ≠ -1)).map (gapI cs) := fun r hm k e => List.mem_map.mpr ⟨r, List.mem_filter.mpr ⟨(hum r).mpr hm, decide_eq_true (by rw [e]; omega)⟩, e⟩
  have hlen : ((un.filter fun r => decide (gapI cs r ≠ -1)).map (gapI cs)).length < 1000 := by
    rw [List.length_map]
    have := List.length_filter_le (fun r => decide (gapI cs r ≠ -1)) un
    omega
  generalize (un.filter fun r => decide (gapI cs r ≠ -1)).map (gapI cs) = hs at *
  refine seq_pt (fun σ' H' => Same H9 H' ∧ σ' = [some (.ref a), some (.ref R), some (.ref A), some (.ref C), some (.ref D), some (.bl b), some (.ref I), none, none, none, none]) (fun N hN => ?_) ?_
  · contradiction
    refine u_in hI ?_
    try contradiction
    rw [if_neg fun z => (hok.1 0 z).1 rfl]
    refine ⟨C, us, rfl, .inl (.of (s9 _ _ hC8)), u_in hI ?_⟩
    try contradiction
    rw [if_neg fun z => (hok.1 _ z).2 (by rw [lu])]
    refine ⟨I, hs, rfl, .of hI, hlen, hok.2, fun q S hq => ?_⟩
    have sq := Same.upd hq (.set S hs.length)
    try contradiction
    refine ⟨q, S, hs.length, rfl, upd_same, hlen, ?_⟩
    try contradiction
    refine ⟨I, _, rfl, .inl (.of (sq _ _ hI)), ?_⟩
    rw [List.length_map]
    try contradiction
    exact hN _ _ ⟨sq, rfl⟩
  rintro σ Ha ⟨sa, rfl⟩
  have s2a := (s28.trans s9).trans sa
  have s1a := (s1.trans s2).trans s2a
  refine seq_pt (fun σ' H' => Same Ha H' ∧ ∃ (x : V) (xt : Int × Int), σ' = [some (.ref a), some (.ref R), some (.ref A), some (.ref C), some (.ref D), some (.bl b), some (.ref I), some x, none, none, none] ∧ Fz 140 K H' x xt.1 xt.2 ∧ Int.gcd xt.1 xt.2 = 1) (fun N hN => ?_) ?_
  · contradiction
    refine u_cell hS s1a (by decide) ?_
    try contradiction
    exact ⟨_, rfl, fun z Hb t b sb hz gz => hN _ _ ⟨sb, z, (t, b), rfl, hz, gz⟩⟩
  rintro σ Hb ⟨sb, x, xt, rfl, hx, gx⟩
  refine seq_pt (fun σ' H' => Same Ha H' ∧ ∃ (y : V) (yt : Int × Int), σ' = [some (.ref a), some (.ref R), some (.ref A), some (.ref C), some (.ref D), some (.bl b), some (.ref I), some x, some y, none, none] ∧ Fz 140 K H' x xt.1 xt.2 ∧ Fz 140 K H' y yt.1 yt.2 ∧ Int.gcd yt.1 yt.2 = 1) (fun N hN => ?_) ?_
  · contradiction
    refine u_cell hS (s1a.trans sb) (by decide) ?_
    try contradiction
    exact ⟨_, rfl, fun z Hc t b sc hz gz => hN _ _ ⟨sb.trans sc, z, (t, b), rfl, hx.mono sc, hz, gz⟩⟩
  clear hx sb
  rintro σ Hb ⟨sb, y, yt, rfl, hx, hy, gy⟩
  have s2b := s2a.trans sb
  have hCb := s2b _ _ hC
  have hcb := hc.mono s2b
  have hBb := h2.mono s2b
  have hIb := sb _ _ (sa _ _ hI)
  refine seq_pt (fun σ' H' => H' = Hb ∧ σ' = [some (.ref a), some (.ref R), some (.ref A), some (.ref C), some (.ref D), some (.bl b), some (.ref I), some x, some y, some (.int (gapI cs xt)), none]) (fun N hN => ?_) ?_
  · contradiction
    exact ⟨C, x, us, cs, xt, rfl, .of hCb, hcb.1, hx.up (by decide), hN _ _ ⟨rfl, rfl⟩⟩
  rintro σ Hc ⟨rfl, rfl⟩
  refine seq_pt (fun σ' H' => H' = Hc ∧ gapI cs xt ≠ -1 ∧ gapI cs xt = gapI cs yt ∧ σ' = [some (.ref a), some (.ref R), some (.ref A), some (.ref C), some (.ref D), some (.bl b), some (.ref I), some x, some y, some (.int (gapI cs xt)), none]) (fun N hN => ?_) ?_
  · contradiction
    by_cases e1 : gapI cs xt = -1
    · rw [if_pos e1]
      exact k _
    · rw [if_neg e1]
      refine ⟨C, y, us, cs, yt, rfl, .of hCb, hcb.1, hy.up (by decide), ?_⟩
      try contradiction
      by_cases e2 : gapI cs xt = gapI cs yt
      · rw [if_pos e2]
        exact hN _ _ ⟨rfl, e1, e2, rfl⟩
      · rw [if_neg e2]
        exact k _
  rintro σ Hd ⟨rfl, n1, e12, rfl⟩
  obtain ⟨kx, ex, kl, x1, x2⟩ := gap_is hcp hx.2.2.2 gx n1
  obtain ⟨ky, ey, _, y1, y2⟩ := gap_is hcp hy.2.2.2 gy (by rw [← e12]; exact n1)
  have ek : ky = kx := by omega
  subst ek
  rw [ex]
  refine seq_pt (fun σ' H' => Same Hd H' ∧ ∃ S : Addr, σ' = [some (.ref a), some (.ref R), some (.ref A), some (.ref C), some (.ref D), some (.bl b), some (.ref I), some x, some y, some (.int (ky : Nat)), some (.ref S)] ∧ H' S = some (.lst [.int (sgn3 (hv p xt.1 xt.2)), .int (sgn3 (hv p yt.1 yt.2))])) (fun N hN => ?_) ?_
  · contradiction
    refine ⟨A, x, p, xt.1, xt.2, rfl, hBb.1, hBb.2.1, hBb.2.2.1, hx.up (by decide), ?_⟩
    try contradiction
    refine ⟨A, y, p, yt.1, yt.2, rfl, hBb.1, hBb.2.1, hBb.2.2.1, hy.up (by decide), ?_⟩
    try contradiction
    exact fun q hq => hN _ _ ⟨Same.upd hq _, q, rfl, upd_same⟩
  rintro σ He ⟨se, S, rfl, hSg⟩
  have LS : SqL K He S [.int (sgn3 (hv p xt.1 xt.2)), .int (sgn3 (hv p yt.1 yt.2))] := .of hSg
  have i0 : atI [V.int (sgn3 (hv p xt.1 xt.2)), .int (sgn3 (hv p yt.1 yt.2))] 0 = some (.int (sgn3 (hv p xt.1 xt.2))) := atI_nat (j := 0) rfl
  have i1 : atI [V.int (sgn3 (hv p xt.1 xt.2)), .int (sgn3 (hv p yt.1 yt.2))] 1 = some (.int (sgn3 (hv p yt.1 yt.2))) := atI_nat (j := 1) rfl
  have fin : ky = 0 ∨ ky = cs.length → sgn3 (hv p xt.1 xt.2) = sgn3 (hv p yt.1 yt.2) ∧ sgn3 (hv p xt.1 xt.2) ≠ 0 := fun h => ends_ok hd hpn hcp hx.2.2.2 hy.2.2.2 h x1 x2 y1 y2
  have ends : (ky = 0 ∨ ky = cs.length) → rIxL K (.ref S) (.int 0) He fun x H1 => rIxL K (.ref S) (.int 1) H1 fun y H2 => rEq x y H2 fun x H1 => ∃ c, x = V.bl c ∧ if c = true then rIxL K (.ref S) (.int 0) H1 fun x H1 => rNe x (.int 0) H1 Q else Q (.bl false) H1 := fun h => by
    obtain ⟨f1, f2⟩ := fin h
    refine z_ixL LS i0 ?_
    refine z_ixL LS i1 ?_
    try contradiction
    rw [if_pos f1]
    refine z_ixL LS i0 ?_
    try contradiction
    rw [decide_eq_false f2]
    exact k _
  refine seq_pt (fun σ' H' => H' = He ∧ ky ≠ 0 ∧ ky ≠ cs.length ∧ σ' = [some (.ref a), some (.ref R), some (.ref A), some (.ref C), some (.ref D), some (.bl b), some (.ref I), some x, some y, some (.int (ky : Nat)), some (.ref S)]) (fun N hN => ?_) ?_
  · contradiction
    by_cases e0 : ((ky : Nat) : Int) = 0
    · rw [if_pos e0]
      exact ends (.inl (by omega))
    · rw [if_neg e0]
      refine ⟨C, us, rfl, .inl (.of (se _ _ hCb)), ?_⟩
      by_cases e1 : ((ky : Nat) : Int) = (us.length : Nat)
      · rw [if_pos e1]
        exact ends (.inr (by omega))
      · rw [if_neg e1]
        exact hN _ _ ⟨rfl, by omega, by omega, rfl⟩
  rintro σ Hf ⟨rfl, k0, kc, rfl⟩
  have last : ¬ (sgn3 (hv p xt.1 xt.2) = sgn3 (hv p yt.1 yt.2) ∧ sgn3 (hv p xt.1 xt.2) ≠ 0) → 0 ≤ sizeLine ∧ ∀ q, Hf q = none → rEqD K (fun b => b) (.ref R) (.ref q) (upd Hf q (.lst [])) fun x H1 => ∃ c, x = V.bl c ∧ if c = true then Q (.bl true) H1 else rIn K false (.int (ky : Nat)) (.ref I) H1 Q := fun hn => by
    refine ⟨by decide, fun q hq => ?_⟩
    have sq := se.trans (Same.upd hq (.lst []))
    have m := hBb.mono sq
    refine eq_cuts (m := 150) (.of m.2.2.2.1) m.2.2.2.2.1.1 (ds := []) (.of upd_same) trivial ?_
    try contradiction
    by_cases er : rs.reverse = []
    · rw [if_pos er]
      exact k _
    · rw [if_neg er]
      refine u_in (sq _ _ hIb) ?_
      have hmem : ((ky : Nat) : Int) ∈ hs := Classical.byContradiction fun nm => by
        rcases hpr with e | ⟨hG, e⟩
        · exact er (by rw [e]; rfl)
        · obtain ⟨s', hs', g1, g2⟩ := mid_ok hd.2.2.1 hcp hrp hG hx.2.2.2 hy.2.2.2 (by omega) (by omega) (x1 (by omega)) (x2 (by omega)) (y1 (by omega)) (y2 (by omega)) fun r hm z => nm (hin r hm ky z)
          rw [← e] at g1 g2
          exact hn ⟨by rw [g1, g2], by rw [g1]; exact hs'⟩
      rw [decide_eq_true hmem]
      exact k _
  contradiction
  refine z_ixL LS i0 ?_
  try contradiction
  refine z_ixL LS i1 ?_
  try contradiction
  by_cases e1 : sgn3 (hv p xt.1 xt.2) = sgn3 (hv p yt.1 yt.2)
  · rw [if_pos e1]
    refine z_ixL LS i0 ?_
    try contradiction
    by_cases e2 : sgn3 (hv p xt.1 xt.2) = 0
    · rw [if_pos e2]
      exact last fun h => h.2 e2
    · rw [if_neg e2]
      exact k _
  · rw [if_neg e1]
    exact last fun h => e1 h.1
--SPLIT
theorem ok_q_odd {f : Addr} {fd : FuncData} (F : Df K mg "_law_odd" s_q_odd ["_law_cell"] f fd)    : Cal P w K mg base 1 "_law_odd" ["_law_cell"] (sp_q_odd K) := by
  refine F.cal (F.fn.ok sc_q_odd (fun vs H Q E h => ?_) (fun cdv A outer s H vs Q E hr h => ?_))
  · obtain ⟨c, rfl, _⟩ := h
    rfl
  obtain ⟨c, rfl, k⟩ := h
  refine S.ex_out ⟨_, (S.pss_cons (S.ps_set (i := 1) sc_q_odd.nd rfl (Or.inl rfl) (S.pe_lst (S.pa_cns S.pe_non (S.pa_cns S.pe_int (S.pa_cns (S.pe_tup S.pa_nil) (S.pa_cns S.pe_str (S.pa_cns (S.pe_lst (S.pa_cns S.pe_non S.pa_nil)) (S.pa_cns (S.pe_lst (S.pa_cns (S.pe_tup (S.pa_cns S.pe_int (S.pa_cns S.pe_int (S.pa_cns S.pe_int S.pa_nil)))) S.pa_nil)) (S.pa_cns (S.pe_lst (S.pa_cns (S.pe_tup (S.pa_cns S.pe_int (S.pa_cns S.pe_int S.pa_nil))) S.pa_nil)) (S.pa_cns (S.pe_lst (S.pa_cns (S.pe_tup (S.pa_cns S.pe_int (S.pa_cns S.pe_int S.pa_nil))) S.pa_nil)) (S.pa_cns (S.pe_lst (S.pa_cns (S.pe_tup (S.pa_cns S.pe_int (S.pa_cns (S.pe_un un_neg S.pe_int) S.pa_nil))) S.pa_nil)) (S.pa_cns (S.pe_lst (S.pa_cns (S.pe_lst (S.pa_cns S.pe_int (S.pa_cns S.pe_int S.pa_nil))) S.pa_nil)) (S.pa_cns (S.pe_tup (S.pa_cns (S.pe_tup (S.pa_cns S.pe_int (S.pa_cns S.pe_int S.pa_nil))) S.pa_nil)) (S.pa_cns S.pe_dnew S.pa_nil))))))))))))))
      (S.pss_one (S.ps_ret (S.pe_ix ix_list (S.pe_op op_cat (S.pv 1) (S.pe_lst (S.pa_cns (S.pe_lst (S.pa_cns (S.pe_tup (S.pa_cns (S.pe_un un_neg S.pe_int) (S.pa_cns S.pe_int S.pa_nil))) (S.pa_cns S.pe_non S.pa_nil))) (S.pa_cns (S.pe_lst (S.pa_cns (S.pe_tup (S.pa_cns (S.pe_un un_neg S.pe_int) (S.pa_cns S.pe_int S.pa_nil))) (S.pa_cns (S.pe_tup (S.pa_cns S.pe_int (S.pa_cns S.pe_int S.pa_nil))) S.pa_nil))) (S.pa_cns (S.pe_lst (S.pa_cns (S.pe_tup (S.pa_cns (S.pe_un un_neg S.pe_int) (S.pa_cns S.pe_int S.pa_nil))) (S.pa_cns (S.pe_tup (S.pa_cns S.pe_int (S.pa_cns S.pe_int S.pa_nil))) (S.pa_cns S.pe_int S.pa_nil)))) S.pa_nil))))) (S.pe_op op_mod (S.pv 0) S.pe_int) (fun _ _ => rfl))))), ?_⟩
  refine seq_pt (fun σ' H' => Same H H' ∧ ∃ q1 q2 q3 q4 q5 q6 q7 q8 q9 q10 q11 q12 q13 q14 q15 q16 : Addr, σ' = [some (.int c), some (.ref q16)] ∧ H' q1 = some (.tup []) ∧ H' q2 = some (.lst [.non]) ∧ H' q3 = some (.tup [.int 1, .int 2, .int 3]) ∧ H' q4 = some (.lst [.ref q3]) ∧ H' q5 = some (.tup [.int 2, .int 4]) ∧ H' q6 = some (.lst [.ref q5]) ∧ H' q7 = some (.tup [.int 1, .int 0]) ∧ H' q8 = some (.lst [.ref q7]) ∧ H' q9 = some (.tup [.int 1, .int (-1)]) ∧ H' q10 = some (.lst [.ref q9]) ∧ H' q11 = some (.lst [.int 0, .int 1]) ∧ H' q12 = some (.lst [.ref q11]) ∧ H' q14 = some (.tup [.ref q13]) ∧ H' q15 = some (.dK []) ∧ H' q16 = some (.lst [.non, .int 7, .ref q1, .str "", .ref q2, .ref q4, .ref q6, .ref q8, .ref q10, .ref q12, .ref q14, .ref q15])) (fun N hN => ?_) ?_
  · skip
    refine ⟨show 0 ≤ sizeLine by decide, fun q1 hq1 => ?_⟩
    (generalize eq1 : upd _ q1 _ = Gq1; obtain ⟨sq1, gq1⟩ := nw hq1 eq1; clear eq1 hq1)
    refine ⟨show 1 ≤ sizeLine by decide, fun q2 hq2 => ?_⟩
    (generalize eq2 : upd _ q2 _ = Gq2; obtain ⟨sq2, gq2⟩ := nw hq2 eq2; clear eq2 hq2)
    refine ⟨show 3 ≤ sizeLine by decide, fun q3 hq3 => ?_⟩
    (generalize eq3 : upd _ q3 _ = Gq3; obtain ⟨sq3, gq3⟩ := nw hq3 eq3; clear eq3 hq3)
    refine ⟨show 1 ≤ sizeLine by decide, fun q4 hq4 => ?_⟩
    (generalize eq4 : upd _ q4 _ = Gq4; obtain ⟨sq4, gq4⟩ := nw hq4 eq4; clear eq4 hq4)
    refine ⟨show 2 ≤ sizeLine by decide, fun q5 hq5 => ?_⟩
    (generalize eq5 : upd _ q5 _ = Gq5; obtain ⟨sq5, gq5⟩ := nw hq5 eq5; clear eq5 hq5)
    refine ⟨show 1 ≤ sizeLine by decide, fun q6 hq6 => ?_⟩
    (generalize eq6 : upd _ q6 _ = Gq6; obtain ⟨sq6, gq6⟩ := nw hq6 eq6; clear eq6 hq6)
    refine ⟨show 2 ≤ sizeLine by decide, fun q7 hq7 => ?_⟩
    (generalize eq7 : upd _ q7 _ = Gq7; obtain ⟨sq7, gq7⟩ := nw hq7 eq7; clear eq7 hq7)
    refine ⟨show 1 ≤ sizeLine by decide, fun q8 hq8 => ?_⟩
    (generalize eq8 : upd _ q8 _ = Gq8; obtain ⟨sq8, gq8⟩ := nw hq8 eq8; clear eq8 hq8)
    refine ⟨_, rfl, show 2 ≤ sizeLine by decide, fun q9 hq9 => ?_⟩
    (generalize eq9 : upd _ q9 _ = Gq9; obtain ⟨sq9, gq9⟩ := nw hq9 eq9; clear eq9 hq9)
    refine ⟨show 1 ≤ sizeLine by decide, fun q10 hq10 => ?_⟩
    (generalize eq10 : upd _ q10 _ = Gq10; obtain ⟨sq10, gq10⟩ := nw hq10 eq10; clear eq10 hq10)
    refine ⟨show 2 ≤ sizeLine by decide, fun q11 hq11 => ?_⟩
    (generalize eq11 : upd _ q11 _ = Gq11; obtain ⟨sq11, gq11⟩ := nw hq11 eq11; clear eq11 hq11)
    refine ⟨show 1 ≤ sizeLine by decide, fun q12 hq12 => ?_⟩
    (generalize eq12 : upd _ q12 _ = Gq12; obtain ⟨sq12, gq12⟩ := nw hq12 eq12; clear eq12 hq12)
    refine ⟨show 2 ≤ sizeLine by decide, fun q13 hq13 => ?_⟩
    (generalize eq13 : upd _ q13 _ = Gq13; obtain ⟨sq13, gq13⟩ := nw hq13 eq13; clear eq13 hq13)
    refine ⟨show 1 ≤ sizeLine by decide, fun q14 hq14 => ?_⟩
    (generalize eq14 : upd _ q14 _ = Gq14; obtain ⟨sq14, gq14⟩ := nw hq14 eq14; clear eq14 hq14)
    intro q15 hq15
    (generalize eq15 : upd _ q15 _ = Gq15; obtain ⟨sq15, gq15⟩ := nw hq15 eq15; clear eq15 hq15)
    refine ⟨show 12 ≤ sizeLine by decide, fun q16 hq16 => ?_⟩
    (generalize eq16 : upd _ q16 _ = Gq16; obtain ⟨sq16, gq16⟩ := nw hq16 eq16; clear eq16 hq16)
    have t15 := sq16
    have t14 := sq15.trans t15
    have t13 := sq14.trans t14
    have t12 := sq13.trans t13
    have t11 := sq12.trans t12
    have t10 := sq11.trans t11
    have t9 := sq10.trans t10
    have t8 := sq9.trans t9
    have t7 := sq8.trans t8
    have t6 := sq7.trans t7
    have t5 := sq6.trans t6
    have t4 := sq5.trans t5
    have t3 := sq4.trans t4
    have t2 := sq3.trans t3
    have t1 := sq2.trans t2
    have t0 := sq1.trans t1
    exact hN _ _ ⟨t0, q1, q2, q3, q4, q5, q6, q7, q8, q9, q10, q11, q12, q13, q14, q15, q16, rfl, t1 _ _ gq1, t2 _ _ gq2, t3 _ _ gq3, t4 _ _ gq4, t5 _ _ gq5, t6 _ _ gq6, t7 _ _ gq7, t8 _ _ gq8, t9 _ _ gq9, t10 _ _ gq10, t11 _ _ gq11, t12 _ _ gq12, t14 _ _ gq14, t15 _ _ gq15, gq16⟩
  rintro σ H1 ⟨s1, q1, q2, q3, q4, q5, q6, q7, q8, q9, q10, q11, q12, q13, q14, q15, q16, rfl, g1, g2, g3, g4, g5, g6, g7, g8, g9, g10, g11, g12, g14, g15, g16⟩
  refine ⟨_, rfl, _, rfl, show 2 ≤ sizeLine by decide, fun q17 hq17 => ?_⟩
  (generalize eq17 : upd _ q17 _ = Gq17; obtain ⟨sq17, gq17⟩ := nw hq17 eq17; clear eq17 hq17)
  refine ⟨show 2 ≤ sizeLine by decide, fun q18 hq18 => ?_⟩
  (generalize eq18 : upd _ q18 _ = Gq18; obtain ⟨sq18, gq18⟩ := nw hq18 eq18; clear eq18 hq18)
  refine ⟨_, rfl, show 2 ≤ sizeLine by decide, fun q19 hq19 => ?_⟩
  (generalize eq19 : upd _ q19 _ = Gq19; obtain ⟨sq19, gq19⟩ := nw hq19 eq19; clear eq19 hq19)
  refine ⟨show 2 ≤ sizeLine by decide, fun q20 hq20 => ?_⟩
  (generalize eq20 : upd _ q20 _ = Gq20; obtain ⟨sq20, gq20⟩ := nw hq20 eq20; clear eq20 hq20)
  refine ⟨show 2 ≤ sizeLine by decide, fun q21 hq21 => ?_⟩
  (generalize eq21 : upd _ q21 _ = Gq21; obtain ⟨sq21, gq21⟩ := nw hq21 eq21; clear eq21 hq21)
  refine ⟨_, rfl, show 2 ≤ sizeLine by decide, fun q22 hq22 => ?_⟩
  (generalize eq22 : upd _ q22 _ = Gq22; obtain ⟨sq22, gq22⟩ := nw hq22 eq22; clear eq22 hq22)
  refine ⟨show 2 ≤ sizeLine by decide, fun q23 hq23 => ?_⟩
  (generalize eq23 : upd _ q23 _ = Gq23; obtain ⟨sq23, gq23⟩ := nw hq23 eq23; clear eq23 hq23)
  refine ⟨show 3 ≤ sizeLine by decide, fun q24 hq24 => ?_⟩
  (generalize eq24 : upd _ q24 _ = Gq24; obtain ⟨sq24, gq24⟩ := nw hq24 eq24; clear eq24 hq24)
  refine ⟨show 3 ≤ sizeLine by decide, fun q25 hq25 => ?_⟩
  (generalize eq25 : upd _ q25 _ = Gq25; obtain ⟨sq25, gq25⟩ := nw hq25 eq25; clear eq25 hq25)
  refine ⟨q16, q25, _, _, rfl, rfl, ((((((((sq17.trans sq18).trans sq19).trans sq20).trans sq21).trans sq22).trans sq23).trans sq24).trans sq25) _ _ g16, gq25, by show 12 + 3 ≤ sizeLine; decide, ?_⟩
  intro q26 hq26
  (generalize eq26 : upd _ q26 _ = Gq26; obtain ⟨sq26, gq26⟩ := nw hq26 eq26; clear eq26 hq26)
  try contradiction
  have t25 := sq26
  have t24 := sq25.trans t25
  have t23 := sq24.trans t24
  have t22 := sq23.trans t23
  have t21 := sq22.trans t22
  have t20 := sq21.trans t21
  have t19 := sq20.trans t20
  have t18 := sq19.trans t19
  have t17 := sq18.trans t18
  have t16 := sq17.trans t17
  refine ⟨by decide, ?_⟩
  have hc : c % 15 = 0 ∨ c % 15 = 1 ∨ c % 15 = 2 ∨ c % 15 = 3 ∨ c % 15 = 4 ∨ c % 15 = 5 ∨ c % 15 = 6 ∨ c % 15 = 7 ∨ c % 15 = 8 ∨ c % 15 = 9 ∨ c % 15 = 10 ∨ c % 15 = 11 ∨ c % 15 = 12 ∨ c % 15 = 13 ∨ c % 15 = 14 := by omega
  have l24 : low 2 4 = false := by decide
  have l10 : low 1 0 = false := by decide
  have l11 : low 1 (-1) = false := by decide
  have l182 : low 18 2 = false := by decide
  rcases hc with e | e | e | e | e | e | e | e | e | e | e | e | e | e | e <;> rw [e]
  · exact z_ixL (.of gq26) (atI_nat (j := 0) rfl) (k _ _ (s1.trans t16) (.other .non kit_nl))
  · exact z_ixL (.of gq26) (atI_nat (j := 1) rfl) (k _ _ (s1.trans t16) (.other (.int 7) kit_il))
  · exact z_ixL (.of gq26) (atI_nat (j := 2) rfl) (k _ _ (s1.trans t16) (.other (.tup (t16 _ _ g1)) kit_tl))
  · exact z_ixL (.of gq26) (atI_nat (j := 3) rfl) (k _ _ (s1.trans t16) (.other (.str _) kit_sl))
  · exact z_ixL (.of gq26) (atI_nat (j := 4) rfl) (k _ _ (s1.trans t16) (cu1 (t16 _ _ g2) .non rfl))
  · exact z_ixL (.of gq26) (atI_nat (j := 5) rfl) (k _ _ (s1.trans t16) (cu1 (t16 _ _ g4) (.long (.of (t16 _ _ g3)) (by decide)) rfl))
  · exact z_ixL (.of gq26) (atI_nat (j := 6) rfl) (k _ _ (s1.trans t16) (cu1 (t16 _ _ g6) (Tf.two (.of (t16 _ _ g5))) l24))
  · exact z_ixL (.of gq26) (atI_nat (j := 7) rfl) (k _ _ (s1.trans t16) (cu1 (t16 _ _ g8) (Tf.two (.of (t16 _ _ g7))) l10))
  · exact z_ixL (.of gq26) (atI_nat (j := 8) rfl) (k _ _ (s1.trans t16) (cu1 (t16 _ _ g10) (Tf.two (.of (t16 _ _ g9))) l11))
  · exact z_ixL (.of gq26) (atI_nat (j := 9) rfl) (k _ _ (s1.trans t16) (cu1 (t16 _ _ g12) (.lst (t16 _ _ g11)) rfl))
  · exact z_ixL (.of gq26) (atI_nat (j := 10) rfl) (k _ _ (s1.trans t16) (.other (.tup (t16 _ _ g14)) kit_tl))
  · exact z_ixL (.of gq26) (atI_nat (j := 11) rfl) (k _ _ (s1.trans t16) (.other (.dK (t16 _ _ g15)) kit_dl))
  · exact z_ixL (.of gq26) (atI_nat (j := 12) rfl) (k _ _ (s1.trans t16) (cu2 (t18 _ _ gq18) (Tf.two (t17.tup (.of gq17))) .non rfl))
  · exact z_ixL (.of gq26) (atI_nat (j := 13) rfl) (k _ _ (s1.trans t16) (cu2 (t21 _ _ gq21) (Tf.two (t19.tup (.of gq19))) (Tf.two (t20.tup (.of gq20))) l182))
  · exact z_ixL (.of gq26) (atI_nat (j := 14) rfl) (k _ _ (s1.trans t16) (cu3 (t24 _ _ gq24) (Tf.two (t22.tup (.of gq22))) (Tf.two (t23.tup (.of gq23))) (.int 7) rfl))
end
theorem all_mk {l : PySem.W.OpenLaw} {w : World} {K : PySem.W.Frag} {h : Heap} {mg : Str → Option Value} {fa f1 f2 f3 f4 f5 f6 f7 f8 f9 f10 f11 f12 f13 f14 f15 f16 f17 f18 f19 f20 f21 f22 f23 f24 f25 f26 f27 f28 f29 f30 f31 f32 : Addr} (X : K.In h) (G : h.Ns mainGlobals mg) (hfa : mg "law" = some (.ref fa))
    {od1 an1 od2 an2 od3 an3 od4 an4 od5 an5 od6 an6 od7 an7 od8 an8 od9 an9 od10 an10 od11 an11 od12 an12 od13 an13 od14 an14 od15 an15 od16 an16 od17 an17 od18 an18 od19 an19 od20 an20 od21 an21 od22 an22 od23 an23 od24 an24 od25 an25 od26 an26 od27 an27 od28 an28 od29 an29 od30 an30 od31 an31 od32 an32 : Option Addr} {sl1 sl2 sl3 sl4 sl5 sl6 sl7 sl8 sl9 sl10 sl11 sl12 sl13 sl14 sl15 sl16 sl17 sl18 sl19 sl20 sl21 sl22 sl23 sl24 sl25 sl26 sl27 sl28 sl29 sl30 sl31 sl32 : Array (Option Value)} {oc1 kV1 dc1 pm1 cd1 ct1 oc2 kV2 dc2 pm2 cd2 ct2 oc3 kV3 dc3 pm3 cd3 ct3 oc4 kV4 dc4 pm4 cd4 ct4 oc5 kV5 dc5 pm5 cd5 ct5 oc6 kV6 dc6 pm6 cd6 ct6 oc7 kV7 dc7 pm7 cd7 ct7 oc8 kV8 dc8 pm8 cd8 ct8 oc9 kV9 dc9 pm9 cd9 ct9 oc10 kV10 dc10 pm10 cd10 ct10 oc11 kV11 dc11 pm11 cd11 ct11 oc12 kV12 dc12 pm12 cd12 ct12 oc13 kV13 dc13 pm13 cd13 ct13 oc14 kV14 dc14 pm14 cd14 ct14 oc15 kV15 dc15 pm15 cd15 ct15 oc16 kV16 dc16 pm16 cd16 ct16 oc17 kV17 dc17 pm17 cd17 ct17 oc18 kV18 dc18 pm18 cd18 ct18 oc19 kV19 dc19 pm19 cd19 ct19 oc20 kV20 dc20 pm20 cd20 ct20 oc21 kV21 dc21 pm21 cd21 ct21 oc22 kV22 dc22 pm22 cd22 ct22 oc23 kV23 dc23 pm23 cd23 ct23 oc24 kV24 dc24 pm24 cd24 ct24 oc25 kV25 dc25 pm25 cd25 ct25 oc26 kV26 dc26 pm26 cd26 ct26 oc27 kV27 dc27 pm27 cd27 ct27 oc28 kV28 dc28 pm28 cd28 ct28 oc29 kV29 dc29 pm29 cd29 ct29 oc30 kV30 dc30 pm30 cd30 ct30 oc31 kV31 dc31 pm31 cd31 ct31 oc32 kV32 dc32 pm32 cd32 ct32 : Value}
    (a1 : PySem.W.nsIn K mainGlobals "_law_stirred" = some (some (.ref f1))) (l1 : K.lookup f1 = some ⟨oc1, od1, .func (PySem.W.fnOf "_law_stirred" "_law_stirred" (defArgs s_q_stirred) (defBody s_q_stirred) (defScope s_q_stirred) .none kV1 dc1 pm1 an1 cd1 ct1), sl1⟩) (c1 : PySem.W.codeIn K cd1 "_law_stirred" = true) (k1 : PySem.W.keepIn K (.ref f1) = true)
    (a2 : PySem.W.nsIn K mainGlobals "_law_poly" = some (some (.ref f2))) (l2 : K.lookup f2 = some ⟨oc2, od2, .func (PySem.W.fnOf "_law_poly" "_law_poly" (defArgs s_q_poly) (defBody s_q_poly) (defScope s_q_poly) .none kV2 dc2 pm2 an2 cd2 ct2), sl2⟩) (c2 : PySem.W.codeIn K cd2 "_law_poly" = true) (k2 : PySem.W.keepIn K (.ref f2) = true)
    (a3 : PySem.W.nsIn K mainGlobals "_law_less" = some (some (.ref f3))) (l3 : K.lookup f3 = some ⟨oc3, od3, .func (PySem.W.fnOf "_law_less" "_law_less" (defArgs s_q_less) (defBody s_q_less) (defScope s_q_less) .none kV3 dc3 pm3 an3 cd3 ct3), sl3⟩) (c3 : PySem.W.codeIn K cd3 "_law_less" = true) (k3 : PySem.W.keepIn K (.ref f3) = true)
    (a4 : PySem.W.nsIn K mainGlobals "_law_gcd" = some (some (.ref f4))) (l4 : K.lookup f4 = some ⟨oc4, od4, .func (PySem.W.fnOf "_law_gcd" "_law_gcd" (defArgs s_q_gcd) (defBody s_q_gcd) (defScope s_q_gcd) .none kV4 dc4 pm4 an4 cd4 ct4), sl4⟩) (c4 : PySem.W.codeIn K cd4 "_law_gcd" = true) (k4 : PySem.W.keepIn K (.ref f4) = true)
    (a5 : PySem.W.nsIn K mainGlobals "_law_fraction" = some (some (.ref f5))) (l5 : K.lookup f5 = some ⟨oc5, od5, .func (PySem.W.fnOf "_law_fraction" "_law_fraction" (defArgs s_q_fraction) (defBody s_q_fraction) (defScope s_q_fraction) .none kV5 dc5 pm5 an5 cd5 ct5), sl5⟩) (c5 : PySem.W.codeIn K cd5 "_law_fraction" = true) (k5 : PySem.W.keepIn K (.ref f5) = true)
    (a6 : PySem.W.nsIn K mainGlobals "_law_amid_roots" = some (some (.ref f6))) (l6 : K.lookup f6 = some ⟨oc6, od6, .func (PySem.W.fnOf "_law_amid_roots" "_law_amid_roots" (defArgs s_q_amid_roots) (defBody s_q_amid_roots) (defScope s_q_amid_roots) .none kV6 dc6 pm6 an6 cd6 ct6), sl6⟩) (c6 : PySem.W.codeIn K cd6 "_law_amid_roots" = true) (k6 : PySem.W.keepIn K (.ref f6) = true)
    (a7 : PySem.W.nsIn K mainGlobals "_law_drawn" = some (some (.ref f7))) (l7 : K.lookup f7 = some ⟨oc7, od7, .func (PySem.W.fnOf "_law_drawn" "_law_drawn" (defArgs s_q_drawn) (defBody s_q_drawn) (defScope s_q_drawn) .none kV7 dc7 pm7 an7 cd7 ct7), sl7⟩) (c7 : PySem.W.codeIn K cd7 "_law_drawn" = true) (k7 : PySem.W.keepIn K (.ref f7) = true)
    (a8 : PySem.W.nsIn K mainGlobals "_law_cell_at" = some (some (.ref f8))) (l8 : K.lookup f8 = some ⟨oc8, od8, .func (PySem.W.fnOf "_law_cell_at" "_law_cell_at" (defArgs s_q_cell_at) (defBody s_q_cell_at) (defScope s_q_cell_at) .none kV8 dc8 pm8 an8 cd8 ct8), sl8⟩) (c8 : PySem.W.codeIn K cd8 "_law_cell_at" = true) (k8 : PySem.W.keepIn K (.ref f8) = true)
    (a9 : PySem.W.nsIn K mainGlobals "_law_cuts" = some (some (.ref f9))) (l9 : K.lookup f9 = some ⟨oc9, od9, .func (PySem.W.fnOf "_law_cuts" "_law_cuts" (defArgs s_q_cuts) (defBody s_q_cuts) (defScope s_q_cuts) .none kV9 dc9 pm9 an9 cd9 ct9), sl9⟩) (c9 : PySem.W.codeIn K cd9 "_law_cuts" = true) (k9 : PySem.W.keepIn K (.ref f9) = true)
    (a10 : PySem.W.nsIn K mainGlobals "changes" = some (some (.ref f10))) (l10 : K.lookup f10 = some ⟨oc10, od10, .func (PySem.W.fnOf "changes" "changes" (defArgs s_changes) (defBody s_changes) (defScope s_changes) .none kV10 dc10 pm10 an10 cd10 ct10), sl10⟩) (c10 : PySem.W.codeIn K cd10 "changes" = true) (k10 : PySem.W.keepIn K (.ref f10) = true)
    (a11 : PySem.W.nsIn K mainGlobals "is_whole" = some (some (.ref f11))) (l11 : K.lookup f11 = some ⟨oc11, od11, .func (PySem.W.fnOf "is_whole" "is_whole" (defArgs s_is_whole) (defBody s_is_whole) (defScope s_is_whole) .none kV11 dc11 pm11 an11 cd11 ct11), sl11⟩) (c11 : PySem.W.codeIn K cd11 "is_whole" = true) (k11 : PySem.W.keepIn K (.ref f11) = true)
    (a12 : PySem.W.nsIn K mainGlobals "divisor" = some (some (.ref f12))) (l12 : K.lookup f12 = some ⟨oc12, od12, .func (PySem.W.fnOf "divisor" "divisor" (defArgs s_divisor) (defBody s_divisor) (defScope s_divisor) .none kV12 dc12 pm12 an12 cd12 ct12), sl12⟩) (c12 : PySem.W.codeIn K cd12 "divisor" = true) (k12 : PySem.W.keepIn K (.ref f12) = true)
    (a13 : PySem.W.nsIn K mainGlobals "is_fraction" = some (some (.ref f13))) (l13 : K.lookup f13 = some ⟨oc13, od13, .func (PySem.W.fnOf "is_fraction" "is_fraction" (defArgs s_is_fraction) (defBody s_is_fraction) (defScope s_is_fraction) .none kV13 dc13 pm13 an13 cd13 ct13), sl13⟩) (c13 : PySem.W.codeIn K cd13 "is_fraction" = true) (k13 : PySem.W.keepIn K (.ref f13) = true)
    (a14 : PySem.W.nsIn K mainGlobals "poly" = some (some (.ref f14))) (l14 : K.lookup f14 = some ⟨oc14, od14, .func (PySem.W.fnOf "poly" "poly" (defArgs s_poly) (defBody s_poly) (defScope s_poly) .none kV14 dc14 pm14 an14 cd14 ct14), sl14⟩) (c14 : PySem.W.codeIn K cd14 "poly" = true) (k14 : PySem.W.keepIn K (.ref f14) = true)
    (a15 : PySem.W.nsIn K mainGlobals "spread" = some (some (.ref f15))) (l15 : K.lookup f15 = some ⟨oc15, od15, .func (PySem.W.fnOf "spread" "spread" (defArgs s_spread) (defBody s_spread) (defScope s_spread) .none kV15 dc15 pm15 an15 cd15 ct15), sl15⟩) (c15 : PySem.W.codeIn K cd15 "spread" = true) (k15 : PySem.W.keepIn K (.ref f15) = true)
    (a16 : PySem.W.nsIn K mainGlobals "moved" = some (some (.ref f16))) (l16 : K.lookup f16 = some ⟨oc16, od16, .func (PySem.W.fnOf "moved" "moved" (defArgs s_moved) (defBody s_moved) (defScope s_moved) .none kV16 dc16 pm16 an16 cd16 ct16), sl16⟩) (c16 : PySem.W.codeIn K cd16 "moved" = true) (k16 : PySem.W.keepIn K (.ref f16) = true)
    (a17 : PySem.W.nsIn K mainGlobals "seen_at" = some (some (.ref f17))) (l17 : K.lookup f17 = some ⟨oc17, od17, .func (PySem.W.fnOf "seen_at" "seen_at" (defArgs s_seen_at) (defBody s_seen_at) (defScope s_seen_at) .none kV17 dc17 pm17 an17 cd17 ct17), sl17⟩) (c17 : PySem.W.codeIn K cd17 "seen_at" = true) (k17 : PySem.W.keepIn K (.ref f17) = true)
    (a18 : PySem.W.nsIn K mainGlobals "below" = some (some (.ref f18))) (l18 : K.lookup f18 = some ⟨oc18, od18, .func (PySem.W.fnOf "below" "below" (defArgs s_below) (defBody s_below) (defScope s_below) .none kV18 dc18 pm18 an18 cd18 ct18), sl18⟩) (c18 : PySem.W.codeIn K cd18 "below" = true) (k18 : PySem.W.keepIn K (.ref f18) = true)
    (a19 : PySem.W.nsIn K mainGlobals "above" = some (some (.ref f19))) (l19 : K.lookup f19 = some ⟨oc19, od19, .func (PySem.W.fnOf "above" "above" (defArgs s_above) (defBody s_above) (defScope s_above) .none kV19 dc19 pm19 an19 cd19 ct19), sl19⟩) (c19 : PySem.W.codeIn K cd19 "above" = true) (k19 : PySem.W.keepIn K (.ref f19) = true)
    (a20 : PySem.W.nsIn K mainGlobals "less" = some (some (.ref f20))) (l20 : K.lookup f20 = some ⟨oc20, od20, .func (PySem.W.fnOf "less" "less" (defArgs s_less) (defBody s_less) (defScope s_less) .none kV20 dc20 pm20 an20 cd20 ct20), sl20⟩) (c20 : PySem.W.codeIn K cd20 "less" = true) (k20 : PySem.W.keepIn K (.ref f20) = true)
    (a21 : PySem.W.nsIn K mainGlobals "common" = some (some (.ref f21))) (l21 : K.lookup f21 = some ⟨oc21, od21, .func (PySem.W.fnOf "common" "common" (defArgs s_common) (defBody s_common) (defScope s_common) .none kV21 dc21 pm21 an21 cd21 ct21), sl21⟩) (c21 : PySem.W.codeIn K cd21 "common" = true) (k21 : PySem.W.keepIn K (.ref f21) = true)
    (a22 : PySem.W.nsIn K mainGlobals "between" = some (some (.ref f22))) (l22 : K.lookup f22 = some ⟨oc22, od22, .func (PySem.W.fnOf "between" "between" (defArgs s_between) (defBody s_between) (defScope s_between) .none kV22 dc22 pm22 an22 cd22 ct22), sl22⟩) (c22 : PySem.W.codeIn K cd22 "between" = true) (k22 : PySem.W.keepIn K (.ref f22) = true)
    (a23 : PySem.W.nsIn K mainGlobals "roots_right" = some (some (.ref f23))) (l23 : K.lookup f23 = some ⟨oc23, od23, .func (PySem.W.fnOf "roots_right" "roots_right" (defArgs s_roots_right) (defBody s_roots_right) (defScope s_roots_right) .none kV23 dc23 pm23 an23 cd23 ct23), sl23⟩) (c23 : PySem.W.codeIn K cd23 "roots_right" = true) (k23 : PySem.W.keepIn K (.ref f23) = true)
    (a24 : PySem.W.nsIn K mainGlobals "_law_gap" = some (some (.ref f24))) (l24 : K.lookup f24 = some ⟨oc24, od24, .func (PySem.W.fnOf "_law_gap" "_law_gap" (defArgs s_q_gap) (defBody s_q_gap) (defScope s_q_gap) .none kV24 dc24 pm24 an24 cd24 ct24), sl24⟩) (c24 : PySem.W.codeIn K cd24 "_law_gap" = true) (k24 : PySem.W.keepIn K (.ref f24) = true)
    (a25 : PySem.W.nsIn K mainGlobals "_law_held" = some (some (.ref f25))) (l25 : K.lookup f25 = some ⟨oc25, od25, .func (PySem.W.fnOf "_law_held" "_law_held" (defArgs s_q_held) (defBody s_q_held) (defScope s_q_held) .none kV25 dc25 pm25 an25 cd25 ct25), sl25⟩) (c25 : PySem.W.codeIn K cd25 "_law_held" = true) (k25 : PySem.W.keepIn K (.ref f25) = true)
    (a26 : PySem.W.nsIn K mainGlobals "_law_product" = some (some (.ref f26))) (l26 : K.lookup f26 = some ⟨oc26, od26, .func (PySem.W.fnOf "_law_product" "_law_product" (defArgs s_q_product) (defBody s_q_product) (defScope s_q_product) .none kV26 dc26 pm26 an26 cd26 ct26), sl26⟩) (c26 : PySem.W.codeIn K cd26 "_law_product" = true) (k26 : PySem.W.keepIn K (.ref f26) = true)
    (a27 : PySem.W.nsIn K mainGlobals "_law_homog" = some (some (.ref f27))) (l27 : K.lookup f27 = some ⟨oc27, od27, .func (PySem.W.fnOf "_law_homog" "_law_homog" (defArgs s_q_homog) (defBody s_q_homog) (defScope s_q_homog) .none kV27 dc27 pm27 an27 cd27 ct27), sl27⟩) (c27 : PySem.W.codeIn K cd27 "_law_homog" = true) (k27 : PySem.W.keepIn K (.ref f27) = true)
    (a28 : PySem.W.nsIn K mainGlobals "_law_sign" = some (some (.ref f28))) (l28 : K.lookup f28 = some ⟨oc28, od28, .func (PySem.W.fnOf "_law_sign" "_law_sign" (defArgs s_q_sign) (defBody s_q_sign) (defScope s_q_sign) .none kV28 dc28 pm28 an28 cd28 ct28), sl28⟩) (c28 : PySem.W.codeIn K cd28 "_law_sign" = true) (k28 : PySem.W.keepIn K (.ref f28) = true)
    (a29 : PySem.W.nsIn K mainGlobals "_law_odd" = some (some (.ref f29))) (l29 : K.lookup f29 = some ⟨oc29, od29, .func (PySem.W.fnOf "_law_odd" "_law_odd" (defArgs s_q_odd) (defBody s_q_odd) (defScope s_q_odd) .none kV29 dc29 pm29 an29 cd29 ct29), sl29⟩) (c29 : PySem.W.codeIn K cd29 "_law_odd" = true) (k29 : PySem.W.keepIn K (.ref f29) = true)
    (a30 : PySem.W.nsIn K mainGlobals "_law_rise" = some (some (.ref f30))) (l30 : K.lookup f30 = some ⟨oc30, od30, .func (PySem.W.fnOf "_law_rise" "_law_rise" (defArgs s_q_rise) (defBody s_q_rise) (defScope s_q_rise) .none kV30 dc30 pm30 an30 cd30 ct30), sl30⟩) (c30 : PySem.W.codeIn K cd30 "_law_rise" = true) (k30 : PySem.W.keepIn K (.ref f30) = true)
    (a31 : PySem.W.nsIn K mainGlobals "_law_due" = some (some (.ref f31))) (l31 : K.lookup f31 = some ⟨oc31, od31, .func (PySem.W.fnOf "_law_due" "_law_due" (defArgs s_q_due) (defBody s_q_due) (defScope s_q_due) .none kV31 dc31 pm31 an31 cd31 ct31), sl31⟩) (c31 : PySem.W.codeIn K cd31 "_law_due" = true) (k31 : PySem.W.keepIn K (.ref f31) = true)
    (a32 : PySem.W.nsIn K mainGlobals "law" = some (some (.ref f32))) (l32 : K.lookup f32 = some ⟨oc32, od32, .func (PySem.W.fnOf "law" "law" (defArgs s_law) (defBody s_law) (defScope s_law) .none kV32 dc32 pm32 an32 cd32 ct32), sl32⟩) (c32 : PySem.W.codeIn K cd32 "law" = true) (k32 : PySem.W.keepIn K (.ref f32) = true)
    (zrange : PySem.W.nsIn K mainGlobals "range" = some none) (ztuple : PySem.W.nsIn K mainGlobals "tuple" = some none) (zabs : PySem.W.nsIn K mainGlobals "abs" = some none) (zlen : PySem.W.nsIn K mainGlobals "len" = some none) (zisinstance : PySem.W.nsIn K mainGlobals "isinstance" = some none) (zint : PySem.W.nsIn K mainGlobals "int" = some none) (zbool : PySem.W.nsIn K mainGlobals "bool" = some none) (zlist : PySem.W.nsIn K mainGlobals "list" = some none) (zzip : PySem.W.nsIn K mainGlobals "zip" = some none) (zall : PySem.W.nsIn K mainGlobals "all" = some none) (zreversed : PySem.W.nsIn K mainGlobals "reversed" = some none) (zset : PySem.W.nsIn K mainGlobals "set" = some none) :
    ∃ fd : FuncData, (∀ (s : Shared) (v : Value), BindsTo s fd ⟨[v], []⟩ [("_law_script", v)]) ∧ ∀ base : Heap, K.In base → base.Ns mainGlobals mg → FnOk l.prog w K mg base CX0 5 fa fd ["_law_script"] (spLaw K) := by
  have e := hfa.symm.trans (PySem.W.mg_of X G a32)
  cases e
  have z_range := PySem.W.mg_none_of X G zrange
  have z_tuple := PySem.W.mg_none_of X G ztuple
  have z_abs := PySem.W.mg_none_of X G zabs
  have z_len := PySem.W.mg_none_of X G zlen
  have z_isinstance := PySem.W.mg_none_of X G zisinstance
  have z_int := PySem.W.mg_none_of X G zint
  have z_bool := PySem.W.mg_none_of X G zbool
  have z_list := PySem.W.mg_none_of X G zlist
  have z_zip := PySem.W.mg_none_of X G zzip
  have z_all := PySem.W.mg_none_of X G zall
  have z_reversed := PySem.W.mg_none_of X G zreversed
  have z_set := PySem.W.mg_none_of X G zset
  have F1 := fun_mk (st := s_q_stirred) l1 c1 k1
  have D1 : Df K mg "_law_stirred" s_q_stirred ["_law_cell", "_law_k"] _ _ := ⟨F1, F1.binds (ps := ["_law_cell", "_law_k"]) fun _ _ _ _ _ _ us hl => match us, hl with | [_, _], _ => rfl, PySem.W.mg_of X G a1⟩
  have F2 := fun_mk (st := s_q_poly) l2 c2 k2
  have D2 : Df K mg "_law_poly" s_q_poly ["_law_cell", "_law_most"] _ _ := ⟨F2, F2.binds (ps := ["_law_cell", "_law_most"]) fun _ _ _ _ _ _ us hl => match us, hl with | [_, _], _ => rfl, PySem.W.mg_of X G a2⟩
  have F3 := fun_mk (st := s_q_less) l3 c3 k3
  have D3 : Df K mg "_law_less" s_q_less ["_law_one", "_law_other"] _ _ := ⟨F3, F3.binds (ps := ["_law_one", "_law_other"]) fun _ _ _ _ _ _ us hl => match us, hl with | [_, _], _ => rfl, PySem.W.mg_of X G a3⟩
  have F4 := fun_mk (st := s_q_gcd) l4 c4 k4
  have D4 : Df K mg "_law_gcd" s_q_gcd ["_law_one", "_law_other"] _ _ := ⟨F4, F4.binds (ps := ["_law_one", "_law_other"]) fun _ _ _ _ _ _ us hl => match us, hl with | [_, _], _ => rfl, PySem.W.mg_of X G a4⟩
  have F5 := fun_mk (st := s_q_fraction) l5 c5 k5
  have D5 : Df K mg "_law_fraction" s_q_fraction ["_law_top", "_law_bottom"] _ _ := ⟨F5, F5.binds (ps := ["_law_top", "_law_bottom"]) fun _ _ _ _ _ _ us hl => match us, hl with | [_, _], _ => rfl, PySem.W.mg_of X G a5⟩
  have F6 := fun_mk (st := s_q_amid_roots) l6 c6 k6
  have D6 : Df K mg "_law_amid_roots" s_q_amid_roots ["_law_roots", "_law_cell"] _ _ := ⟨F6, F6.binds (ps := ["_law_roots", "_law_cell"]) fun _ _ _ _ _ _ us hl => match us, hl with | [_, _], _ => rfl, PySem.W.mg_of X G a6⟩
  have F7 := fun_mk (st := s_q_drawn) l7 c7 k7
  have D7 : Df K mg "_law_drawn" s_q_drawn ["_law_cell"] _ _ := ⟨F7, F7.binds (ps := ["_law_cell"]) fun _ _ _ _ _ _ us hl => match us, hl with | [_], _ => rfl, PySem.W.mg_of X G a7⟩
  have F8 := fun_mk (st := s_q_cell_at) l8 c8 k8
  have D8 : Df K mg "_law_cell_at" s_q_cell_at ["_law_script", "_law_k"] _ _ := ⟨F8, F8.binds (ps := ["_law_script", "_law_k"]) fun _ _ _ _ _ _ us hl => match us, hl with | [_, _], _ => rfl, PySem.W.mg_of X G a8⟩
  have F9 := fun_mk (st := s_q_cuts) l9 c9 k9
  have D9 : Df K mg "_law_cuts" s_q_cuts ["_law_script", "_law_roots"] _ _ := ⟨F9, F9.binds (ps := ["_law_script", "_law_roots"]) fun _ _ _ _ _ _ us hl => match us, hl with | [_, _], _ => rfl, PySem.W.mg_of X G a9⟩
  have F10 := fun_mk (st := s_changes) l10 c10 k10
  have D10 : Df K mg "changes" s_changes ["p"] _ _ := ⟨F10, F10.binds (ps := ["p"]) fun _ _ _ _ _ _ us hl => match us, hl with | [_], _ => rfl, PySem.W.mg_of X G a10⟩
  have F11 := fun_mk (st := s_is_whole) l11 c11 k11
  have D11 : Df K mg "is_whole" s_is_whole ["thing"] _ _ := ⟨F11, F11.binds (ps := ["thing"]) fun _ _ _ _ _ _ us hl => match us, hl with | [_], _ => rfl, PySem.W.mg_of X G a11⟩
  have F12 := fun_mk (st := s_divisor) l12 c12 k12
  have D12 : Df K mg "divisor" s_divisor ["one", "other"] _ _ := ⟨F12, F12.binds (ps := ["one", "other"]) fun _ _ _ _ _ _ us hl => match us, hl with | [_, _], _ => rfl, PySem.W.mg_of X G a12⟩
  have F13 := fun_mk (st := s_is_fraction) l13 c13 k13
  have D13 : Df K mg "is_fraction" s_is_fraction ["thing"] _ _ := ⟨F13, F13.binds (ps := ["thing"]) fun _ _ _ _ _ _ us hl => match us, hl with | [_], _ => rfl, PySem.W.mg_of X G a13⟩
  have F14 := fun_mk (st := s_poly) l14 c14 k14
  have D14 : Df K mg "poly" s_poly ["weights"] _ _ := ⟨F14, F14.binds (ps := ["weights"]) fun _ _ _ _ _ _ us hl => match us, hl with | [_], _ => rfl, PySem.W.mg_of X G a14⟩
  have F15 := fun_mk (st := s_spread) l15 c15 k15
  have D15 : Df K mg "spread" s_spread ["weights", "factor"] _ _ := ⟨F15, F15.binds (ps := ["weights", "factor"]) fun _ _ _ _ _ _ us hl => match us, hl with | [_, _], _ => rfl, PySem.W.mg_of X G a15⟩
  have F16 := fun_mk (st := s_moved) l16 c16 k16
  have D16 : Df K mg "moved" s_moved ["weights", "by"] _ _ := ⟨F16, F16.binds (ps := ["weights", "by"]) fun _ _ _ _ _ _ us hl => match us, hl with | [_, _], _ => rfl, PySem.W.mg_of X G a16⟩
  have F17 := fun_mk (st := s_seen_at) l17 c17 k17
  have D17 : Df K mg "seen_at" s_seen_at ["p", "top", "bottom"] _ _ := ⟨F17, F17.binds (ps := ["p", "top", "bottom"]) fun _ _ _ _ _ _ us hl => match us, hl with | [_, _, _], _ => rfl, PySem.W.mg_of X G a17⟩
  have F18 := fun_mk (st := s_below) l18 c18 k18
  have D18 : Df K mg "below" s_below ["p", "c"] _ _ := ⟨F18, F18.binds (ps := ["p", "c"]) fun _ _ _ _ _ _ us hl => match us, hl with | [_, _], _ => rfl, PySem.W.mg_of X G a18⟩
  have F19 := fun_mk (st := s_above) l19 c19 k19
  have D19 : Df K mg "above" s_above ["p", "c"] _ _ := ⟨F19, F19.binds (ps := ["p", "c"]) fun _ _ _ _ _ _ us hl => match us, hl with | [_, _], _ => rfl, PySem.W.mg_of X G a19⟩
  have F20 := fun_mk (st := s_less) l20 c20 k20
  have D20 : Df K mg "less" s_less ["one", "other"] _ _ := ⟨F20, F20.binds (ps := ["one", "other"]) fun _ _ _ _ _ _ us hl => match us, hl with | [_, _], _ => rfl, PySem.W.mg_of X G a20⟩
  have F21 := fun_mk (st := s_common) l21 c21 k21
  have D21 : Df K mg "common" s_common ["one", "other"] _ _ := ⟨F21, F21.binds (ps := ["one", "other"]) fun _ _ _ _ _ _ us hl => match us, hl with | [_, _], _ => rfl, PySem.W.mg_of X G a21⟩
  have F22 := fun_mk (st := s_between) l22 c22 k22
  have D22 : Df K mg "between" s_between ["p", "lo", "hi"] _ _ := ⟨F22, F22.binds (ps := ["p", "lo", "hi"]) fun _ _ _ _ _ _ us hl => match us, hl with | [_, _, _], _ => rfl, PySem.W.mg_of X G a22⟩
  have F23 := fun_mk (st := s_roots_right) l23 c23 k23
  have D23 : Df K mg "roots_right" s_roots_right ["p", "cuts"] _ _ := ⟨F23, F23.binds (ps := ["p", "cuts"]) fun _ _ _ _ _ _ us hl => match us, hl with | [_, _], _ => rfl, PySem.W.mg_of X G a23⟩
  have F24 := fun_mk (st := s_q_gap) l24 c24 k24
  have D24 : Df K mg "_law_gap" s_q_gap ["_law_cuts_here", "_law_r"] _ _ := ⟨F24, F24.binds (ps := ["_law_cuts_here", "_law_r"]) fun _ _ _ _ _ _ us hl => match us, hl with | [_, _], _ => rfl, PySem.W.mg_of X G a24⟩
  have F25 := fun_mk (st := s_q_held) l25 c25 k25
  have D25 : Df K mg "_law_held" s_q_held ["_law_cuts_here", "_law_roots"] _ _ := ⟨F25, F25.binds (ps := ["_law_cuts_here", "_law_roots"]) fun _ _ _ _ _ _ us hl => match us, hl with | [_, _], _ => rfl, PySem.W.mg_of X G a25⟩
  have F26 := fun_mk (st := s_q_product) l26 c26 k26
  have D26 : Df K mg "_law_product" s_q_product ["_law_cell"] _ _ := ⟨F26, F26.binds (ps := ["_law_cell"]) fun _ _ _ _ _ _ us hl => match us, hl with | [_], _ => rfl, PySem.W.mg_of X G a26⟩
  have F27 := fun_mk (st := s_q_homog) l27 c27 k27
  have D27 : Df K mg "_law_homog" s_q_homog ["_law_p", "_law_x", "_law_y"] _ _ := ⟨F27, F27.binds (ps := ["_law_p", "_law_x", "_law_y"]) fun _ _ _ _ _ _ us hl => match us, hl with | [_, _, _], _ => rfl, PySem.W.mg_of X G a27⟩
  have F28 := fun_mk (st := s_q_sign) l28 c28 k28
  have D28 : Df K mg "_law_sign" s_q_sign ["_law_p", "_law_r"] _ _ := ⟨F28, F28.binds (ps := ["_law_p", "_law_r"]) fun _ _ _ _ _ _ us hl => match us, hl with | [_, _], _ => rfl, PySem.W.mg_of X G a28⟩
  have F29 := fun_mk (st := s_q_odd) l29 c29 k29
  have D29 : Df K mg "_law_odd" s_q_odd ["_law_cell"] _ _ := ⟨F29, F29.binds (ps := ["_law_cell"]) fun _ _ _ _ _ _ us hl => match us, hl with | [_], _ => rfl, PySem.W.mg_of X G a29⟩
  have F30 := fun_mk (st := s_q_rise) l30 c30 k30
  have D30 : Df K mg "_law_rise" s_q_rise ["_law_cuts_here"] _ _ := ⟨F30, F30.binds (ps := ["_law_cuts_here"]) fun _ _ _ _ _ _ us hl => match us, hl with | [_], _ => rfl, PySem.W.mg_of X G a30⟩
  have F31 := fun_mk (st := s_q_due) l31 c31 k31
  have D31 : Df K mg "_law_due" s_q_due ["_law_p", "_law_cuts_here"] _ _ := ⟨F31, F31.binds (ps := ["_law_p", "_law_cuts_here"]) fun _ _ _ _ _ _ us hl => match us, hl with | [_, _], _ => rfl, PySem.W.mg_of X G a31⟩
  have F32 := fun_mk (st := s_law) l32 c32 k32
  have D32 : Df K mg "law" s_law ["_law_script"] _ _ := ⟨F32, F32.binds (ps := ["_law_script"]) fun _ _ _ _ _ _ us hl => match us, hl with | [_], _ => rfl, PySem.W.mg_of X G a32⟩
  refine ⟨PySem.W.fnOf "law" "law" (defArgs s_law) (defBody s_law) (defScope s_law) .none kV32 dc32 pm32 an32 cd32 ct32, fun s v => .of_eq rfl, fun base _ _ => ?_⟩
  have C_q_stirred := ok_q_stirred (P := l.prog) (w := w) (base := base) D1 
  have C_q_poly := ok_q_poly (P := l.prog) (w := w) (base := base) D2 z_range z_tuple C_q_stirred
  have C_q_less := ok_q_less (P := l.prog) (w := w) (base := base) D3 
  have C_q_gcd := ok_q_gcd (P := l.prog) (w := w) (base := base) D4 z_abs
  have C_q_fraction := ok_q_fraction (P := l.prog) (w := w) (base := base) D5 C_q_gcd
  have C_q_amid_roots := ok_q_amid_roots (P := l.prog) (w := w) (base := base) D6 z_range z_len C_q_less C_q_fraction
  have C_q_drawn := ok_q_drawn (P := l.prog) (w := w) (base := base) D7 C_q_fraction
  have C_q_cell_at := ok_q_cell_at (P := l.prog) (w := w) (base := base) D8 z_len
  have C_q_cuts := ok_q_cuts (P := l.prog) (w := w) (base := base) D9 z_len C_q_amid_roots C_q_drawn C_q_cell_at C_q_less
  have C_changes := ok_changes (P := l.prog) (w := w) (base := base) D10 
  have C_is_whole := ok_is_whole (P := l.prog) (w := w) (base := base) D11 z_isinstance z_int z_bool
  have C_divisor := ok_divisor (P := l.prog) (w := w) (base := base) D12 z_abs
  have C_is_fraction := ok_is_fraction (P := l.prog) (w := w) (base := base) D13 z_isinstance z_tuple z_len C_is_whole C_divisor
  have C_poly := ok_poly (P := l.prog) (w := w) (base := base) D14 z_len z_tuple
  have C_spread := ok_spread (P := l.prog) (w := w) (base := base) D15 
  have C_moved := ok_moved (P := l.prog) (w := w) (base := base) D16 z_list z_range z_len
  have C_seen_at := ok_seen_at (P := l.prog) (w := w) (base := base) D17 C_spread C_moved
  have C_below := ok_below (P := l.prog) (w := w) (base := base) D18 C_poly C_spread C_seen_at
  have C_above := ok_above (P := l.prog) (w := w) (base := base) D19 C_poly C_spread C_seen_at
  have C_less := ok_less (P := l.prog) (w := w) (base := base) D20 
  have C_common := ok_common (P := l.prog) (w := w) (base := base) D21 z_abs C_divisor
  have C_between := ok_between (P := l.prog) (w := w) (base := base) D22 C_common C_spread C_poly C_seen_at C_moved
  have C_roots_right := ok_roots_right (P := l.prog) (w := w) (base := base) D23 z_zip z_all z_isinstance z_list z_len C_changes C_is_fraction C_below C_above C_less C_between
  have C_q_gap := ok_q_gap (P := l.prog) (w := w) (base := base) D24 z_len C_q_less
  have C_q_held := ok_q_held (P := l.prog) (w := w) (base := base) D25 C_q_gap
  have C_q_product := ok_q_product (P := l.prog) (w := w) (base := base) D26 z_range z_tuple z_len C_q_fraction
  have C_q_homog := ok_q_homog (P := l.prog) (w := w) (base := base) D27 z_reversed
  have C_q_sign := ok_q_sign (P := l.prog) (w := w) (base := base) D28 z_int C_q_homog
  have C_q_odd := ok_q_odd (P := l.prog) (w := w) (base := base) D29 
  have C_q_rise := ok_q_rise (P := l.prog) (w := w) (base := base) D30 z_range z_len C_q_less
  have C_q_due := ok_q_due (P := l.prog) (w := w) (base := base) D31 z_range z_len C_q_rise C_changes C_below C_above C_between
  exact fn_law (P := l.prog) (w := w) (base := base) D32 z_list z_isinstance z_bool z_len z_set C_q_poly C_q_cuts C_roots_right C_q_held C_q_drawn C_q_gap C_q_product C_q_cell_at C_q_sign C_q_odd C_q_due
theorem walk {l : PySem.W.OpenLaw} {q : Program} {loose : List Str} {XP : (Str → Option Value) → Heap → Prop} {YP : World → Heap → Prop} {d : DefRec} {K : Params → PySem.W.Frag} (hn : l.most = some 63) (hdf : d.params.defaults = [])
    (hY : ∀ (w : World) (h : Heap), YP w h → (K w.params).In h)
    (F : ∀ (w : World) (mg : Str → Option Value) (fa : Addr) (h : Heap), (K w.params).In h → h.Ns mainGlobals mg → mg d.name = some (.ref fa) →
      ∃ fd : FuncData, (∀ (s : Shared) (u : Value), BindsTo s fd ⟨[u], []⟩ [("_law_script", u)]) ∧ ∀ base : Heap, (K w.params).In base → base.Ns mainGlobals mg → FnOk l.prog w (K w.params) mg base CX0 5 fa fd ["_law_script"] (spLaw (K w.params))) :
    PySem.W.WalkO q loose XP YP l.row.toRowW d [] (fun f vs => PySem.call f vs) :=
  L2.walk_of (n := 63) (k := 5) (x := "_law_script") (CX := fun _ => CX0) (sp := fun w => spLaw (K w.params)) hn (by decide) hdf ⟨rfl, by decide, by decide⟩ hY F (fun _ _ a ns hl _ hS => ⟨a, ns, rfl, hS, hl, fun _ => rfl⟩) fun _ _ _ _ _ z => z
end Z
open PySem PySem.W PyProof.Rows
set_option maxRecDepth 100000 in
set_option maxHeartbeats 0 in
theorem PySem.Challenge.cw_rootcourt_k19_whole_right_cuts_holds : PySem.Challenge.rw_rootcourt_k19_whole_right_cuts.Holds := by
  w_on; o_law; k_head; (case hw => w_witness2)
  k_fill
  refine Z.walk (l := PySem.Challenge.rw_rootcourt_k19_whole_right_cuts) rfl rfl (fun w h Y => PySem.W.kIn_of Y) ?F
  case F =>
    intro w mg fa h KX G hmg
    refine' Z.all_mk KX G hmg ?a1 ?l1 ?c1 ?k1 ?a2 ?l2 ?c2 ?k2 ?a3 ?l3 ?c3 ?k3 ?a4 ?l4 ?c4 ?k4 ?a5 ?l5 ?c5 ?k5 ?a6 ?l6 ?c6 ?k6 ?a7 ?l7 ?c7 ?k7 ?a8 ?l8 ?c8 ?k8 ?a9 ?l9 ?c9 ?k9 ?a10 ?l10 ?c10 ?k10 ?a11 ?l11 ?c11 ?k11 ?a12 ?l12 ?c12 ?k12 ?a13 ?l13 ?c13 ?k13 ?a14 ?l14 ?c14 ?k14 ?a15 ?l15 ?c15 ?k15 ?a16 ?l16 ?c16 ?k16 ?a17 ?l17 ?c17 ?k17 ?a18 ?l18 ?c18 ?k18 ?a19 ?l19 ?c19 ?k19 ?a20 ?l20 ?c20 ?k20 ?a21 ?l21 ?c21 ?k21 ?a22 ?l22 ?c22 ?k22 ?a23 ?l23 ?c23 ?k23 ?a24 ?l24 ?c24 ?k24 ?a25 ?l25 ?c25 ?k25 ?a26 ?l26 ?c26 ?k26 ?a27 ?l27 ?c27 ?k27 ?a28 ?l28 ?c28 ?k28 ?a29 ?l29 ?c29 ?k29 ?a30 ?l30 ?c30 ?k30 ?a31 ?l31 ?c31 ?k31 ?a32 ?l32 ?c32 ?k32   ?zrange ?ztuple ?zabs ?zlen ?zisinstance ?zint ?zbool ?zlist ?zzip ?zall ?zreversed ?zset
    (case a1 => k_is); (case l1 => k_is); (case c1 => k_is); (case k1 => k_is)
    (case a2 => k_is); (case l2 => k_is); (case c2 => k_is); (case k2 => k_is)
    (case a3 => k_is); (case l3 => k_is); (case c3 => k_is); (case k3 => k_is)
    (case a4 => k_is); (case l4 => k_is); (case c4 => k_is); (case k4 => k_is)
    (case a5 => k_is); (case l5 => k_is); (case c5 => k_is); (case k5 => k_is)
    (case a6 => k_is); (case l6 => k_is); (case c6 => k_is); (case k6 => k_is)
    (case a7 => k_is); (case l7 => k_is); (case c7 => k_is); (case k7 => k_is)
    (case a8 => k_is); (case l8 => k_is); (case c8 => k_is); (case k8 => k_is)
    (case a9 => k_is); (case l9 => k_is); (case c9 => k_is); (case k9 => k_is)
    (case a10 => k_is); (case l10 => k_is); (case c10 => k_is); (case k10 => k_is)
    (case a11 => k_is); (case l11 => k_is); (case c11 => k_is); (case k11 => k_is)
    (case a12 => k_is); (case l12 => k_is); (case c12 => k_is); (case k12 => k_is)
    (case a13 => k_is); (case l13 => k_is); (case c13 => k_is); (case k13 => k_is)
    (case a14 => k_is); (case l14 => k_is); (case c14 => k_is); (case k14 => k_is)
    (case a15 => k_is); (case l15 => k_is); (case c15 => k_is); (case k15 => k_is)
    (case a16 => k_is); (case l16 => k_is); (case c16 => k_is); (case k16 => k_is)
    (case a17 => k_is); (case l17 => k_is); (case c17 => k_is); (case k17 => k_is)
    (case a18 => k_is); (case l18 => k_is); (case c18 => k_is); (case k18 => k_is)
    (case a19 => k_is); (case l19 => k_is); (case c19 => k_is); (case k19 => k_is)
    (case a20 => k_is); (case l20 => k_is); (case c20 => k_is); (case k20 => k_is)
    (case a21 => k_is); (case l21 => k_is); (case c21 => k_is); (case k21 => k_is)
    (case a22 => k_is); (case l22 => k_is); (case c22 => k_is); (case k22 => k_is)
    (case a23 => k_is); (case l23 => k_is); (case c23 => k_is); (case k23 => k_is)
    (case a24 => k_is); (case l24 => k_is); (case c24 => k_is); (case k24 => k_is)
    (case a25 => k_is); (case l25 => k_is); (case c25 => k_is); (case k25 => k_is)
    (case a26 => k_is); (case l26 => k_is); (case c26 => k_is); (case k26 => k_is)
    (case a27 => k_is); (case l27 => k_is); (case c27 => k_is); (case k27 => k_is)
    (case a28 => k_is); (case l28 => k_is); (case c28 => k_is); (case k28 => k_is)
    (case a29 => k_is); (case l29 => k_is); (case c29 => k_is); (case k29 => k_is)
    (case a30 => k_is); (case l30 => k_is); (case c30 => k_is); (case k30 => k_is)
    (case a31 => k_is); (case l31 => k_is); (case c31 => k_is); (case k31 => k_is)
    (case a32 => k_is); (case l32 => k_is); (case c32 => k_is); (case k32 => k_is)
    (case zrange => k_is); (case ztuple => k_is); (case zabs => k_is); (case zlen => k_is); (case zisinstance => k_is); (case zint => k_is); (case zbool => k_is); (case zlist => k_is); (case zzip => k_is); (case zall => k_is); (case zreversed => k_is); (case zset => k_is)
