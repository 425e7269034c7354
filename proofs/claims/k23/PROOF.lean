import PyProof.Rows.All
import Wide.All
import OpenK.AllK
import Wide.FinOn
import Lean
import PyProof.EqAt
import PyProof.EqKinds
import PyProof.TupleCall
import PySem.Challenge.RW_rootcourt_k23_what_is_a_number
set_option maxHeartbeats 4000000
set_option Elab.async false
set_option linter.all false
set_option maxRecDepth 100000
namespace L2
open PySem PySem.Spec PyProof.Rows
abbrev Key := Sum Int Str
def Ai2 : Key -> Value -> Bool
  | .inl k, v => Value.isInt k v
  | .inr x, v => Value.isStrOf x v
def Ame (w : World) : Key -> Int
  | .inl k => hashInt k
  | .inr x => hashStr w x
theorem Dl : ∀ {k : Key} {v : Value}, Ai2 k v = true -> (∃ i t, k = Sum.inl i /\ v = Value.int i t) \/ (∃ x t, k = Sum.inr x /\ v = Value.str x t)
  | .inl i, v, h => by
    obtain ⟨t, e⟩ := Value.isInt_shape (k := i) (v := v) h
    exact .inl ⟨i, t, rfl, e⟩
  | .inr x, v, h => by
    obtain ⟨t, e⟩ := Value.isStrOf_shape (x := x) (v := v) h
    exact .inr ⟨x, t, rfl, e⟩
theorem Ajd (a b : Int) : decide ((Sum.inl a : Key) = Sum.inl b) = (a == b) := by
  by_cases e : a = b
  . subst e; simp
  . have h : ¬ (Sum.inl a : Key) = Sum.inl b := fun q => e (Sum.inl.inj q)
    rw [decide_eq_false h]
    exact (beq_eq_false_iff_ne.mpr e).symm
theorem Aj0 (a b : Str) : decide ((Sum.inr a : Key) = Sum.inr b) = decide (a = b) := by
  by_cases e : a = b
  . subst e; simp
  . have h : ¬ (Sum.inr a : Key) = Sum.inr b := fun q => e (Sum.inr.inj q)
    rw [decide_eq_false h, decide_eq_false e]
theorem Aj4 (a : Int) (b : Str) : decide ((Sum.inl a : Key) = Sum.inr b) = false := decide_eq_false (fun q => nomatch q)
theorem Aj6 (a : Str) (b : Int) : decide ((Sum.inr a : Key) = Sum.inl b) = false := decide_eq_false (fun q => nomatch q)
def Adi (prog : Program) (w : World) : PySem.KeyKind prog w Key where
  is := Ai2
  hash := Ame w
  inj := fun v a b ha hb => by
    rcases Dl ha with ⟨i, t, rfl, rfl⟩ | ⟨x, t, rfl, rfl⟩
    . rcases Dl hb with ⟨j, u, rfl, e⟩ | ⟨y, u, rfl, e⟩
      . injection e with e1 _; rw [e1]
      . exact nomatch e
    . rcases Dl hb with ⟨j, u, rfl, e⟩ | ⟨y, u, rfl, e⟩
      . exact nomatch e
      . injection e with e1 _; rw [e1]
  byValue := fun k v h => by
    rcases Dl h with ⟨i, t, rfl, rfl⟩ | ⟨x, t, rfl, rfl⟩ <;> rfl
  pyHash := fun hv h => by
    rcases Dl hv with ⟨i, t, rfl, rfl⟩ | ⟨x, t, rfl, rfl⟩
    . exact wpAny_pyHash_int h
    . exact wpAny_pyHash_str h
  eqBool := fun hu hv h => by
    rcases Dl hu with ⟨i, t, rfl, rfl⟩ | ⟨x, t, rfl, rfl⟩
    . rcases Dl hv with ⟨j, u, rfl, rfl⟩ | ⟨y, u, rfl, rfl⟩
      . rw [Ajd] at h; exact wpAny_eqBool_int h
      . rw [Aj4] at h; exact SeqAt.EqAt.int_str i t y u _ _ _ _ h
    . rcases Dl hv with ⟨j, u, rfl, rfl⟩ | ⟨y, u, rfl, rfl⟩
      . rw [Aj6] at h; exact SeqAt.EqAt.str_int x t j u _ _ _ _ h
      . rw [Aj0] at h; exact wpAny_eqBool_str h
  «strs» := fun k x t v h => by
    rcases Dl h with ⟨i, u, rfl, e⟩ | ⟨y, u, rfl, e⟩
    . exact nomatch e
    . injection e with e1 _
      subst e1
      cases v <;> rfl
end L2
namespace L2
open PySem PySem.Spec PyProof.Rows
inductive V where
  | non | bl (b : Bool) | int (i : Int) | str (x : Str) | byt (b : Array UInt8) | flt (b : UInt64) | ref (a : Addr) | ty (n : String)
  deriving DecidableEq
def RelV : V -> Value -> Prop
  | .non, u => u = Value.none
  | .bl b, u => u = Value.bool b
  | .int i, u => ∃ t, u = Value.int i t
  | .str x, u => ∃ t, u = Value.str x t
  | .byt b, u => ∃ t, u = Value.bytes b t
  | .flt b, u => ∃ t, u = Value.float b t
  | .ref a, u => u = Value.ref a
  | .ty n, u => u = Value.type n
abbrev Vals : List V -> List Value -> Prop := Paired RelV
theorem Vals.length {xs : List V} {us : List Value} (r : Vals xs us) : xs.length = us.length := Paired.length r
theorem Vals.get : ∀ {xs : List V} {us : List Value} {i : Nat} {x : V}, Vals xs us -> xs[i]? = some x -> ∃ u, us[i]? = some u /\ RelV x u
  | _, _, _, _, .nil, e => by simp at e
  | _, _, 0, _, .cons r _, e => by simp at e; subst e; exact ⟨_, rfl, r⟩
  | _, _, i + 1, x, .cons _ t, e => by
    obtain ⟨u, h1, h2⟩ := Vals.get (i := i) (x := x) t (by simpa using e)
    exact ⟨u, by simpa using h1, h2⟩
theorem Vals.set {x : V} {u : Value} (r : RelV x u) : ∀ {xs : List V} {us : List Value} (i : Nat), Vals xs us -> Vals (xs.set i x) (us.set i u)
  | _, _, _, .nil => .nil
  | _, _, 0, .cons _ t => .cons r t
  | _, _, i + 1, .cons q t => .cons q (Vals.set r i t)
theorem Vals.append : ∀ {xs ys : List V} {us ws : List Value}, Vals xs us -> Vals ys ws -> Vals (xs ++ ys) (us ++ ws)
  | _, _, _, _, .nil, s => s
  | _, _, _, _, .cons r t, s => .cons r (Vals.append t s)
theorem Vals.take : ∀ {xs : List V} {us : List Value} (n : Nat), Vals xs us -> Vals (xs.take n) (us.take n)
  | _, _, 0, _ => .nil
  | _, _, _ + 1, .nil => .nil
  | _, _, n + 1, .cons r t => .cons r (Vals.take n t)
theorem Vals.drop : ∀ {xs : List V} {us : List Value} (n : Nat), Vals xs us -> Vals (xs.drop n) (us.drop n)
  | _, _, 0, r => r
  | _, _, _ + 1, .nil => .nil
  | _, _, n + 1, .cons _ t => Vals.drop n t
def Akq : Option V -> Option Value -> Prop
  | some v, some u => RelV v u
  | none, none => True
  | _, _ => False
def KV {κ : Type} : List (κ × V) -> List (κ × Value) -> Prop := Paired fun (p : κ × V) (q : κ × Value) => p.1 = q.1 /\ RelV p.2 q.2
def kV : Key -> V
  | .inl i => .int i
  | .inr x => .str x
inductive HO where
  | lst (xs : List V)
  | tup (xs : List V)
  | dK (kvs : List (Key × V)) | dT (kvs : List (List Key × V))
  | set (S : Int -> Bool) (n : Nat)
  | ins (C dx : Addr) (fs : List (Str × V))
  | own (x : Addr)
  | xd (fs : List (Str × V))
  | met (f x : Addr)
  | rng (lo hi : Int)
  | frz (o : Obj) (u : HO)
  | tbl (ps : Array Value)
  | ext (φ : Heap -> Prop)
abbrev Hp := Addr -> Option HO
def upd (H : Hp) (a : Addr) (o : HO) : Hp := fun b => if b = a then some o else H b
theorem Af {H : Hp} {a : Addr} {o : HO} : upd H a o a = some o := by unfold upd; rw [if_pos rfl]
theorem Cu {H : Hp} {a b : Addr} {o : HO} (h : b ≠ a) : upd H a o b = H b := by unfold upd; rw [if_neg h]
theorem Aiv {H : Hp} {a b : Addr} {o u : HO} (h : H a = some o) (h' : H b = some u) (d : o ≠ u) : a ≠ b := by
  intro e; subst e; rw [h] at h'; exact d (Option.some.inj h')
theorem Br {H : Hp} {a b : Addr} {o : HO} (h : H a = some o) (h' : H b = none) : a ≠ b := by
  intro e; subst e; rw [h] at h'; cases h'
section
variable (P : Program) (w : World)
def Io (H : Hp) (h : Heap) (a : Addr) : HO -> Prop
  | .lst xs => xs.length <= sizeLine /\ ∃ (its : List Value) (n : Nat), Vals xs its /\ h.get? a = some { cls := .type "list", data := .seq its.toArray n }
  | .tup xs => xs.length <= sizeLine /\ ∃ its : List Value, Vals xs its /\ IsTup h a its.toArray
  | .dK kvs => kvs.length <= sizeLine /\ (a == sysModules) = false /\ ∃ vs, KV kvs vs /\ h.DictOf (Adi P w) a vs
  | .dT kvs => kvs.length <= sizeLine /\ (a == sysModules) = false /\ ∃ xs : List (List Key × Addr × Value),
      Paired (fun (p : List Key × V) (q : List Key × Addr × Value) => p.1 = q.1 /\ H q.2.1 = some (.tup (p.1.map kV)) /\ RelV p.2 q.2.2) kvs xs /\
      ∃ o es ep, h.get? a = some o /\ o.ExactDict /\ o.data = .dict es ep /\ es.toList = xs.map (entryOfKey (tupleKind (Adi P w))) /\ (xs.map (·.1)).Nodup
  | .set S n => h.SetOf (intKind P w) a S n
  | .ins C dx fs => H dx = some (.own a) /\ fs.length <= 1000 /\ dx ≠ a /\ h.get? a = some (PySem.W.instObj C dx) /\
      ∃ mA, h.Ns1 dx mA /\ (∀ f, Akq (fs.lookup f) (mA f)) /\ PySem.Within mA (fs.map (·.1))
  | .own _ => ∃ o, h.get? a = some o
  | .xd fs => ∃ mA, h.Ns1 a mA /\ ∀ f, Akq (fs.lookup f) (mA f)
  | .rng lo hi => ∃ t u v, h.get? a = some { cls := .type "range", data := .fields #[.int lo t, .int hi u, .int 1 v] }
  | .frz o u => h.get? a = some o /\ Io H h a u
  | .tbl ps => h.get? a = some { cls := .none, data := .fields ps }
  | .met f x => h.get? a = some (PySem.W.methodObj (.ref f) (.ref x))
  | .ext φ => φ h /\ (∃ o, h.get? a = some o) /\ ∀ h1 h2 : Heap, φ h1 -> (∀ o, h1.get? a = some o -> h2.get? a = some o) -> φ h2
def HOk (H : Hp) (h : Heap) : Prop := ∀ a o, H a = some o -> Io P w H h a o
end
section
variable {P : Program} {w : World} {H H' : Hp} {h h' : Heap} {a : Addr} {o : HO}
theorem Io.lt (x : Io P w H h a o) : a < h.objs.size := by
  cases o with
  | lst xs => obtain ⟨_, _, _, _, e⟩ := x; exact Heap.lt_size e
  | tup xs => obtain ⟨_, _, _, p⟩ := x; exact p.lt
  | dK kvs => obtain ⟨_, _, _, _, o, _, _, e, _⟩ := x; exact Heap.lt_size e
  | dT kvs => obtain ⟨_, _, _, _, o, _, _, e, _⟩ := x; exact Heap.lt_size e
  | set S n => obtain ⟨o, _, _, _, e, _⟩ := x; exact Heap.lt_size e
  | ins C dx fs => obtain ⟨_, _, _, e, _⟩ := x; exact Heap.lt_size e
  | own y => obtain ⟨_, e⟩ := x; exact Heap.lt_size e
  | xd fs => obtain ⟨_, ⟨_, _, _, e, _⟩, _⟩ := x; exact Heap.lt_size e
  | rng lo hi => obtain ⟨_, _, _, e⟩ := x; exact Heap.lt_size e
  | frz ob u => obtain ⟨e, _⟩ := x; exact Heap.lt_size e
  | tbl ps => exact Heap.lt_size (show h.get? a = some _ from x)
  | met f y => exact Heap.lt_size (show h.get? a = some _ from x)
  | ext φ => obtain ⟨_, ⟨_, e⟩, _⟩ := x; exact Heap.lt_size e
theorem Paired.mapP {α β : Type} {F G : α -> β -> Prop} : ∀ {l₁ : List α} {l₂ : List β}, Paired F l₁ l₂ -> (∀ a b, F a b -> G a b) -> Paired G l₁ l₂
  | _, _, .nil, _ => .nil
  | _, _, .cons r t, f => .cons (f _ _ r) (Paired.mapP t f)
theorem Io.stay (x : Io P w H h a o) (k : ∀ b u, (b = a \/ H b = some (.own a)) -> h.get? b = some u -> h'.get? b = some u)
    (ho : ∀ b, H b = some (.own a) -> H' b = some (.own a)) (ht : ∀ b xs, H b = some (.tup xs) -> H' b = some (.tup xs)) : Io P w H' h' a o := by
  induction o with
  | lst xs => obtain ⟨z, its, n, r, e⟩ := x; exact ⟨z, its, n, r, k _ _ (.inl rfl) e⟩
  | tup xs => obtain ⟨z, its, r, ob, e, c⟩ := x; exact ⟨z, its, r, ob, k _ _ (.inl rfl) e, c⟩
  | dK kvs => obtain ⟨z, y, vs, r, ob, es, ep, e, c⟩ := x; exact ⟨z, y, vs, r, ob, es, ep, k _ _ (.inl rfl) e, c⟩
  | dT kvs =>
    obtain ⟨z, y, xs, r, ob, es, ep, e, c⟩ := x
    exact ⟨z, y, xs, Paired.mapP r fun p q z => ⟨z.1, ht _ _ z.2.1, z.2.2⟩, ob, es, ep, k _ _ (.inl rfl) e, c⟩
  | set S n => obtain ⟨ob, es, ep, t, e, c⟩ := x; exact ⟨ob, es, ep, t, k _ _ (.inl rfl) e, c⟩
  | ins C dx fs =>
    obtain ⟨d, z, ne, e, mA, ⟨od, es, ep, e2, c⟩, r⟩ := x
    exact ⟨ho _ d, z, ne, k _ _ (.inl rfl) e, mA, ⟨od, es, ep, k _ _ (.inr d) e2, c⟩, r⟩
  | own y => obtain ⟨ob, e⟩ := x; exact ⟨ob, k _ _ (.inl rfl) e⟩
  | xd fs => obtain ⟨mA, ⟨od, es, ep, e, c⟩, r⟩ := x; exact ⟨mA, ⟨od, es, ep, k _ _ (.inl rfl) e, c⟩, r⟩
  | rng lo hi => obtain ⟨t, u, v, e⟩ := x; exact ⟨t, u, v, k _ _ (.inl rfl) e⟩
  | frz ob u ih => obtain ⟨e, q⟩ := x; exact ⟨k _ _ (.inl rfl) e, ih q⟩
  | tbl ps =>
    have e : h.get? a = some { cls := .none, data := .fields ps } := x
    show h'.get? a = some { cls := .none, data := .fields ps }
    exact k a _ (.inl rfl) e
  | met f y =>
    have e : h.get? a = some (PySem.W.methodObj (.ref f) (.ref y)) := x
    show h'.get? a = some (PySem.W.methodObj (.ref f) (.ref y))
    exact k a _ (.inl rfl) e
  | ext φ => obtain ⟨p, ⟨o, e⟩, st⟩ := x; exact ⟨st _ _ p fun o q => k _ _ (.inl rfl) q, ⟨o, k _ _ (.inl rfl) e⟩, st⟩
theorem HOk.lt (x : HOk P w H h) (e : H a = some o) : a < h.objs.size := (x a o e).lt
theorem HOk.fresh (x : HOk P w H h) (e : h.objs.size <= a) : H a = none := by
  cases q : H a with
  | none => rfl
  | some u => exact absurd (Nat.lt_of_lt_of_le (x.lt q) e) (Nat.lt_irrefl _)
theorem HOk.kept (x : HOk P w H h) (k : ∀ b u, h.get? b = some u -> h'.get? b = some u) : HOk P w H h' := fun a o e =>
  (x a o e).stay (fun b u _ q => k b u q) (fun _ q => q) fun _ _ q => q
theorem HOk.laid (x : HOk P w H h) (k : ∀ b u, h.get? b = some u -> h'.get? b = some u) (hp : h.objs.size <= a) (new : Io P w (upd H a o) h' a o) : HOk P w (upd H a o) h' := fun b u e => by
  have hn := x.fresh hp
  by_cases hb : b = a
  . subst hb; rw [Af] at e; cases e; exact new
  . rw [Cu hb] at e
    exact (x b u e).stay (fun c v _ q => k c v q) (fun c q => by rw [Cu (Br q hn)]; exact q) fun c xs q => by rw [Cu (Br q hn)]; exact q
end
def Rd (H : Hp) (a : Addr) (u : HO) : Prop := H a = some u \/ ∃ o, H a = some (.frz o u)
theorem Rd.of {H : Hp} {a : Addr} {u : HO} (h : H a = some u) : Rd H a u := .inl h
theorem Rd.ok {P : Program} {w : World} {H : Hp} {h : Heap} {a : Addr} {u : HO} (r : Rd H a u) (x : HOk P w H h) : Io P w H h a u := by
  rcases r with r | ⟨o, r⟩
  . exact x a u r
  . obtain ⟨_, q⟩ := x a _ r
    exact q
def Mut : Option HO -> Prop
  | some (.lst _) => True
  | some (.dK _) => True
  | some (.dT _) => True
  | some (.set _ _) => True
  | some (.ins _ _ _) => True
  | some (.ext _) => True
  | _ => False
section
variable {P : Program} {w : World} {H : Hp} {h h' : Heap} {x e : Addr} {o' : HO}
theorem HOk.write (ok : HOk P w H h) (mu : Mut (H x)) (he : e = x \/ H e = some (.own x)) (k : ∀ b u, b ≠ e -> h.get? b = some u -> h'.get? b = some u) (heo : ∃ u, h'.get? e = some u)
    (new : Io P w (upd H x o') h' x o') : HOk P w (upd H x o') h' := fun b u q => by
  have nown : ∀ c y, H c = some (.own y) -> c ≠ x := fun c y r z => by subst z; rw [r] at mu; exact mu
  have ntup : ∀ c xs, H c = some (.tup xs) -> c ≠ x := fun c xs r z => by subst z; rw [r] at mu; exact mu
  by_cases hb : b = x
  . subst hb; rw [Af] at q; cases q; exact new
  . rw [Cu hb] at q
    by_cases hbe : b = e
    . have q' : H b = some (.own x) := by
        rcases he with z | z
        . exact absurd (hbe.trans z) hb
        . rw [hbe]; exact z
      rw [q] at q'; cases q'
      obtain ⟨v, hv⟩ := heo
      exact ⟨v, by rw [hbe]; exact hv⟩
    . refine (ok b u q).stay (fun c v hc r => k c v ?_ r) (fun c r => by rw [Cu (nown c b r)]; exact r) fun c xs r => by rw [Cu (ntup c xs r)]; exact r
      rcases hc with rfl | hc
      . exact hbe
      . rintro rfl
        rcases he with z | z
        . exact nown c b hc z
        . rw [hc] at z; cases z; exact hb rfl
end
structure Un (fs ex : List Addr) (H H' : Hp) (h h' : Heap) : Prop where
  keep : ∀ b o, h.get? b = some o -> H b = none -> b ∉ fs -> b ∉ ex -> h'.get? b = some o
  slot : ∀ b o, h.get? b = some o -> H b = none -> b ∈ fs -> b ∉ ex -> ∃ sl, h'.get? b = some { o with slots := sl }
  free : ∀ b o, h.get? b = some o -> H b = none -> b ∉ ex -> H' b = none
  there : ∀ b o, h.get? b = some o -> b ∉ ex -> ∃ o', h'.get? b = some o'
  tups : ∀ b xs, H b = some (.tup xs) -> H' b = some (.tup xs)
  frzs : ∀ b o u, H b = some (.frz o u) -> H' b = some (.frz o u)
  tbls : ∀ b ps, H b = some (.tbl ps) -> ∃ more, H' b = some (.tbl (ps ++ more))
section
variable {fs fs' ex ex' : List Addr} {H H1 H2 : Hp} {h h1 h2 h' : Heap} {a x e : Addr} {o : HO}
theorem Un.any (u : Un fs ex H H1 h h1) {b : Addr} {ob : Obj} (q : h.get? b = some ob) (n : H b = none) (hx : b ∉ ex) : ∃ sl, h1.get? b = some { ob with slots := sl } := by
  by_cases hb : b ∈ fs
  . exact u.slot b ob q n hb hx
  . exact ⟨ob.slots, u.keep b ob q n hb hx⟩
theorem Un.trans (a : Un fs ex H H1 h h1) (b : Un fs ex H1 H2 h1 h2) : Un fs ex H H2 h h2 where
  keep := fun c ob q n hc hx => b.keep c ob (a.keep c ob q n hc hx) (a.free c ob q n hx) hc hx
  slot := fun c ob q n hc hx => by
    obtain ⟨sl, e1⟩ := a.slot c ob q n hc hx
    obtain ⟨sl', e2⟩ := b.slot c _ e1 (a.free c ob q n hx) hc hx
    exact ⟨sl', e2⟩
  free := fun c ob q n hx => by
    obtain ⟨o', e1⟩ := a.there c ob q hx
    exact b.free c o' e1 (a.free c ob q n hx) hx
  there := fun c ob q hx => by
    obtain ⟨o', e1⟩ := a.there c ob q hx
    exact b.there c o' e1 hx
  tups := fun c xs q => b.tups c xs (a.tups c xs q)
  frzs := fun c ob xs q => b.frzs c ob xs (a.frzs c ob xs q)
  tbls := fun c ps q => by
    obtain ⟨m1, e1⟩ := a.tbls c ps q
    obtain ⟨m2, e2⟩ := b.tbls c _ e1
    exact ⟨m1 ++ m2, by rw [e2, Array.append_assoc]⟩
theorem Un.kept (k : ∀ b u, h.get? b = some u -> h'.get? b = some u) : Un fs ex H H h h' :=
  ⟨fun b ob q _ _ _ => k b ob q, fun b ob q _ _ _ => ⟨ob.slots, k b ob q⟩, fun _ _ _ n _ => n, fun b ob q _ => ⟨ob, k b ob q⟩, fun _ _ q => q, fun _ _ _ q => q, fun _ ps q => ⟨#[], by rw [q]; simp⟩⟩
theorem Un.refl : Un fs ex H H h h := Un.kept fun _ _ q => q
theorem Un.laid (k : ∀ b u, h.get? b = some u -> h'.get? b = some u) (hp : h.objs.size <= a) (hn : H a = none) : Un fs ex H (upd H a o) h h' where
  keep := fun b u q _ _ _ => k b u q
  slot := fun b u q _ _ _ => ⟨u.slots, k b u q⟩
  free := fun b u q n _ => by rw [Cu (Nat.ne_of_lt (Nat.lt_of_lt_of_le (Heap.lt_size q) hp))]; exact n
  there := fun b u q _ => ⟨u, k b u q⟩
  tups := fun b xs q => by rw [Cu (Br q hn)]; exact q
  frzs := fun b u xs q => by rw [Cu (Br q hn)]; exact q
  tbls := fun b ps q => ⟨#[], by rw [Cu (Br q hn), q]; simp⟩
theorem Un.write (mu : Mut (H x)) (he : e = x \/ H e = some (.own x)) (k : ∀ b u, b ≠ e -> h.get? b = some u -> h'.get? b = some u) (heo : ∃ u, h'.get? e = some u) : Un fs ex H (upd H x o) h h' := by
  have hx : ∀ b, H b = none -> b ≠ x := fun b n z => by subst z; rw [n] at mu; exact mu
  have hb : ∀ b, H b = none -> b ≠ e := fun b n z => by
    subst z
    rcases he with r | r
    . exact hx b n r
    . rw [n] at r; cases r
  have hm : ∀ b u, H b = some u -> ¬ Mut (some u) -> b ≠ x := fun b u q nm z => by subst z; rw [q] at mu; exact nm mu
  refine ⟨fun b u q n _ _ => k b u (hb b n) q, fun b u q n _ _ => ⟨u.slots, k b u (hb b n) q⟩, fun b u q n _ => by rw [Cu (hx b n)]; exact n, fun b u q _ => ?_,
    fun b xs q => by rw [Cu (hm b _ q fun z => z)]; exact q, fun b u xs q => by rw [Cu (hm b _ q fun z => z)]; exact q, fun b ps q => ⟨#[], by rw [Cu (hm b _ q fun z => z), q]; simp⟩⟩
  by_cases hbe : b = e
  . subst hbe; exact heo
  . exact ⟨u, k b u hbe q⟩
theorem Un.mono (u : Un fs ex H H1 h h1) (hs : ∀ b ∈ fs, b ∈ fs') (hx : ∀ b ∈ ex, b ∈ ex') : Un fs' ex' H H1 h h1 :=
  ⟨fun b ob q n hb he => u.keep b ob q n (fun z => hb (hs b z)) fun z => he (hx b z), fun _ _ q n _ he => u.any q n fun z => he (hx _ z), fun b ob q n he => u.free b ob q n fun z => he (hx b z), fun b ob q he => u.there b ob q fun z => he (hx b z), u.tups, u.frzs, u.tbls⟩
end
def trk (h : Heap) (H : Hp) : List Addr := (List.range h.objs.size).filter fun a => (H a).isSome
def Aem (h : Heap) (H : Hp) : Heap := PySem.W.hideAll h (trk h H)
theorem Aap (h : Heap) (H : Hp) : (Aem h H).objs.size = h.objs.size := PySem.W.hideAll_size _ _
theorem Aed {h : Heap} {H : Hp} {b : Addr} {o : Obj} (e : h.get? b = some o) (n : H b = none) : (Aem h H).get? b = some o :=
  PySem.W.hideAll_get _ e fun hm => by
    have q : (H b).isSome = true := (List.mem_filter.mp hm).2
    rw [n] at q; simp at q
theorem Aho {h : Heap} {H : Hp} {b : Addr} {o : Obj} (e : (Aem h H).get? b = some o) : h.get? b = some o /\ H b = none := by
  have e' : h.get? b = some o := PySem.W.of_hideAll (trk h H) e
  refine ⟨e', ?_⟩
  cases q : H b with
  | none => rfl
  | some x =>
    have hm : b ∈ trk h H := List.mem_filter.mpr ⟨List.mem_range.mpr (Heap.lt_size e'), by simp [q]⟩
    have z : (Aem h H).get? b = none := PySem.W.hideAll_none (trk h H) hm
    rw [z] at e; cases e
def Ahm (g h : Heap) (L : Addr) : List (Addr × Obj) := (List.range h.objs.size).filterMap fun a => if a = L \/ (g.get? a).isSome = true then none else (h.get? a).map fun o => (a, o)
def rest (g h : Heap) (L d : Addr) : List (Addr × Obj) := (Ahm g h L).filter fun p => decide (p.1 ≠ d)
end L2
namespace L2
open PySem PySem.Spec PyProof.Rows
structure Mod (K : PySem.W.Frag) (mg : Str -> Option Value) (base : Heap) : Prop where
  kin : K.In base
  glob : base.Ns mainGlobals mg
  blt : ∃ mb, base.Ns builtinsNs mb /\ ∀ x : Str, x ≠ "__name__" -> mb x = bootBuiltins x
  nolimit : base.NoLimit
structure Cx where
  prog : Program
  w : World
  K : PySem.W.Frag
  mg : Str -> Option Value
  base : Heap
  A : Around
  N : List Str
  s₀ : Shared
  H₀ : Hp
  env : Env
  outer : List Env
  stack : List Env
  ex : List Addr
  fn : Str -> Bool
  calm : Bool
  pn : List (Addr × Obj)
  xe : Value -> Shared -> Prop
def frs (l : List Env) : List Addr := l.filterMap (·.frame)
abbrev Cx.fs (X : Cx) : List Addr := frs X.outer
def Vis (sc : Scope) (x : Str) : Prop := sc.names.lookup x = some .local \/ sc.names.lookup x = some .cell \/ sc.names.lookup x = some .free
def Loc (sc : Scope) (x : Str) : Prop := sc.names.lookup x = some .local \/ sc.names.lookup x = some .cell
def Look (env : Env) (h : Heap) (m : Str -> Option Value) (x : Str) (u : Value) : Prop :=
  (env.kindOf x = some .local /\ m x = some u) \/ ((env.kindOf x = some .cell \/ env.kindOf x = some .free) /\ ∃ c, env.cells.lookup x = some c /\ h.IsCell c (some u))
structure Cx.Ok (X : Cx) : Prop where
  mod : Mod X.K X.mg X.base
  kind : X.env.scope.kind = .function
  glob : X.env.globals = mainGlobals
  blt : X.env.builtins = builtinsNs
  above : X.s₀.heap.objs.size <= X.env.locals
  inj : ∀ x y c, X.env.cells.lookup x = some c -> X.env.cells.lookup y = some c -> x = y
  has : ∀ x, (X.env.kindOf x = some .cell \/ X.env.kindOf x = some .free) -> ∃ c, X.env.cells.lookup x = some c
  cab : ∀ x c, X.fn x = true -> X.env.cells.lookup x = some c -> X.s₀.heap.objs.size <= c
  hd : X.calm = true -> X.A.handled = none
  frames : X.A.frames = some X.stack
  stk : X.stack = X.outer \/ (X.stack = X.env :: X.outer /\ X.env.frame = some X.env.locals)
  exf : ∀ b ∈ X.ex, b ≠ X.env.locals /\ ∀ x c, X.env.cells.lookup x = some c -> c ≠ b
  bs : ∀ b o, X.base.get? b = some o -> X.s₀.heap.get? b = some o /\ X.H₀ b = none
  bsz : X.base.objs.size <= X.s₀.heap.objs.size
  noex : ∀ b o, X.base.get? b = some o -> b ∉ X.ex
  exfs : ∀ b ∈ X.ex, b ∉ X.fs
  funs : X.s₀.heap.FunFrames X.base X.outer
  frf : ∀ b ∈ X.fs, X.H₀ b = none
structure Inv (X : Cx) (pins : List (Addr × Obj)) (σ : List (Option V)) (H : Hp) (s : Shared) : Prop where
  ok : X.Ok
  os : s.os = X.s₀.os
  bare : AllBare s.gens
  base : Un X.fs X.ex X.H₀ H X.s₀.heap s.heap
  loc : ∃ m, s.heap.Ns X.env.locals m /\ ∀ (i : Nat) (x : Str) (v : V), X.N[i]? = some x -> σ[i]? = some (some v) -> Vis X.env.scope x -> ∃ u, RelV v u /\ Look X.env s.heap m x u
  cell : ∀ x c, X.env.cells.lookup x = some c -> ∃ v, s.heap.IsCell c v
  free : H X.env.locals = none
  freeC : ∀ x c, X.env.cells.lookup x = some c -> H c = none
  pin : ∀ p ∈ X.pn ++ pins, s.heap.get? p.1 = some p.2 /\ H p.1 = none /\ p.1 ≠ X.env.locals /\ p.1 ∉ X.fs /\ ∀ v, p.2.data ≠ .cell v
  hok : HOk X.prog X.w H s.heap
  len : σ.length = X.N.length
section
variable {X : Cx} {pins : List (Addr × Obj)} {σ : List (Option V)} {H H' : Hp} {s : Shared} {h' : Heap}
theorem Cx.Ok.nofr (ok : X.Ok) {b : Addr} {o : Obj} (e : X.base.get? b = some o) : b ∉ X.fs := fun hb => by
  have := (ok.funs.mem hb).1
  rw [e] at this; cases this
theorem Inv.bs (I : Inv X pins σ H s) : ∀ b o, X.base.get? b = some o -> s.heap.get? b = some o /\ H b = none := fun b o e =>
  ⟨I.base.keep b o (I.ok.bs b o e).1 (I.ok.bs b o e).2 (I.ok.nofr e) (I.ok.noex b o e), I.base.free b o (I.ok.bs b o e).1 (I.ok.bs b o e).2 (I.ok.noex b o e)⟩
theorem Inv.bk (I : Inv X pins σ H s) : ∀ b o, X.base.get? b = some o -> s.heap.get? b = some o := fun b o e => (I.bs b o e).1
theorem Inv.mod (I : Inv X pins σ H s) : Mod X.K X.mg X.base := I.ok.mod
theorem Inv.kIn (I : Inv X pins σ H s) : X.K.In s.heap := I.ok.mod.kin.keeps I.bk
theorem Inv.nolimit (I : Inv X pins σ H s) : s.heap.NoLimit := I.ok.mod.nolimit.keeps I.bk
theorem Inv.fr (I : Inv X pins σ H s) : ∃ m, Fr X.base X.env.locals s.heap m :=
  let ⟨m, hn, _⟩ := I.loc
  ⟨m, hn, I.bk, Nat.le_trans I.ok.bsz I.ok.above⟩
theorem Inv.lt (I : Inv X pins σ H s) : X.env.locals < s.heap.objs.size := let ⟨_, hn, _⟩ := I.loc; hn.lt
theorem Inv.sz (I : Inv X pins σ H s) : X.s₀.heap.objs.size <= s.heap.objs.size := Nat.le_trans I.ok.above (Nat.le_of_lt I.lt)
theorem Inv.nofs (I : Inv X pins σ H s) {a : Addr} (h : s.heap.objs.size <= a) : a ∉ X.fs := fun hb => by
  obtain ⟨_, o, ho, _⟩ := I.ok.funs.mem hb
  exact absurd (Nat.lt_of_lt_of_le (Heap.lt_size ho) (Nat.le_trans I.sz h)) (Nat.lt_irrefl _)
theorem Inv.cne (I : Inv X pins σ H s) : ∀ x c, X.env.cells.lookup x = some c -> c ≠ X.env.locals := fun x c e z => by
  obtain ⟨v, o, ho, hd⟩ := I.cell x c e
  obtain ⟨m, ⟨o', es, ep, ho', hd', _⟩, _⟩ := I.loc
  rw [z, ho'] at ho; cases ho; rw [hd'] at hd; cases hd
theorem Inv.funs (I : Inv X pins σ H s) : s.heap.FunFrames X.base X.outer := by
  have all : ∀ (l : List Env), (∀ b ∈ frs l, b ∈ X.fs) -> X.s₀.heap.FunFrames X.base l -> s.heap.FunFrames X.base l := by
    intro l
    induction l with
    | nil => intro _ _; trivial
    | cons env r ih =>
      intro hs hl
      obtain ⟨hk, ⟨L, o, hf, hn, ho, hd⟩, hr⟩ := hl
      have hL : L ∈ X.fs := hs L (by unfold frs; rw [List.filterMap_cons, hf]; exact List.mem_cons_self)
      obtain ⟨sl, e⟩ := I.base.slot L o ho (I.ok.frf L hL) hL fun z => I.ok.exfs L z hL
      exact ⟨hk, ⟨L, _, hf, hn, e, hd⟩, ih (fun b hb => hs b (by unfold frs; rw [List.filterMap_cons, hf]; exact List.mem_cons_of_mem _ hb)) hr⟩
  exact all X.outer (fun _ hb => hb) I.ok.funs
theorem Inv.stack (I : Inv X pins σ H s) : s.heap.FunFrames X.base X.stack := by
  rcases I.ok.stk with e | ⟨e, hf⟩
  . rw [e]; exact I.funs
  . rw [e]
    obtain ⟨m, hn, _⟩ := I.loc
    refine .cons (by rw [I.ok.kind]; decide) hf hn ?_ I.funs
    exact Heap.get?_none_of_le (Nat.le_trans I.ok.bsz I.ok.above)
theorem Inv.stkSub (I : Inv X pins σ H s) : ∀ b ∈ frs X.stack, b ∈ X.env.locals :: X.fs := fun b hb => by
  rcases I.ok.stk with e | ⟨e, hf⟩
  . rw [e] at hb; exact List.mem_cons_of_mem _ hb
  . rw [e] at hb
    unfold frs at hb
    rw [List.filterMap_cons, hf] at hb
    exact hb
theorem Inv.stkFree (I : Inv X pins σ H s) : ∀ b ∈ frs X.stack, H b = none := fun b hb => by
  rcases List.mem_cons.mp (I.stkSub b hb) with e | hb
  . rw [e]; exact I.free
  . obtain ⟨_, o, ho, _⟩ := I.ok.funs.mem hb
    exact I.base.free b o ho (I.ok.frf b hb) fun z => I.ok.exfs b z hb
theorem Inv.step {g' : Array GenState} {t' : Nat} {d' : Drawn} {ch : List Addr} (I : Inv X pins σ H s)
    (hch : ∀ b ∈ ch, (b ∈ X.ex \/ X.s₀.heap.objs.size <= b) /\ b ≠ X.env.locals /\ (∀ x c, X.env.cells.lookup x = some c -> c ≠ b) /\ ∀ p ∈ X.pn ++ pins, p.1 ≠ b)
    (keep : ∀ b o, b ≠ X.env.locals -> b ∉ X.fs -> b ∉ ch -> s.heap.get? b = some o -> H b = none -> h'.get? b = some o)
    (slot : ∀ b o, b ≠ X.env.locals -> b ∈ X.fs -> b ∉ ch -> s.heap.get? b = some o -> H b = none -> ∃ sl, h'.get? b = some { o with slots := sl }) (free : ∀ b o, b ∉ ch -> s.heap.get? b = some o -> H b = none -> H' b = none)
    (there : ∀ b o, b ∉ ch -> s.heap.get? b = some o -> ∃ o', h'.get? b = some o')
    (tups : ∀ b xs, H b = some (.tup xs) -> H' b = some (.tup xs)) (frzs : ∀ b o u, H b = some (.frz o u) -> H' b = some (.frz o u)) (tbls : ∀ b ps, H b = some (.tbl ps) -> ∃ more, H' b = some (.tbl (ps ++ more)))
    (ns : ∀ m, s.heap.Ns X.env.locals m -> h'.Ns X.env.locals m) (hok : HOk X.prog X.w H' h') (hg : AllBare g') :
    Inv X pins σ H' { s with heap := h', gens := g', drawn := d', toks := t' } := by
  have neL : ∀ b o, X.s₀.heap.get? b = some o -> b ≠ X.env.locals := fun b o e => Nat.ne_of_lt (Nat.lt_of_lt_of_le (Heap.lt_size e) I.ok.above)
  have neC : ∀ b o, X.s₀.heap.get? b = some o -> b ∉ X.ex -> b ∉ ch := fun b o e hx hb => by
    rcases (hch b hb).1 with z | z
    . exact hx z
    . exact absurd (Nat.lt_of_lt_of_le (Heap.lt_size e) z) (Nat.lt_irrefl _)
  have cellK : ∀ x c, X.env.cells.lookup x = some c -> ∀ v, s.heap.IsCell c v -> h'.IsCell c v := fun x c e v ⟨o, ho, hd⟩ => by
    have nch : c ∉ ch := fun z => (hch c z).2.2.1 x c e rfl
    by_cases hc : c ∈ X.fs
    . obtain ⟨sl, q⟩ := slot c o (I.cne x c e) hc nch ho (I.freeC x c e)
      exact ⟨_, q, hd⟩
    . exact ⟨o, keep c o (I.cne x c e) hc nch ho (I.freeC x c e), hd⟩
  refine ⟨I.ok, I.os, hg, ⟨fun b o e n hb hx => ?_, fun b o e n hb hx => ?_, fun b o e n hx => ?_, fun b o e hx => ?_, fun b xs e => tups b xs (I.base.tups b xs e), fun b o xs e => frzs b o xs (I.base.frzs b o xs e), fun b ps e => ?_⟩, ?_, fun x c e => ?_, ?_, fun x c e => ?_, fun p hp => ?_, hok, I.len⟩
  . exact keep b o (neL b o e) hb (neC b o e hx) (I.base.keep b o e n hb hx) (I.base.free b o e n hx)
  . obtain ⟨sl, e1⟩ := I.base.slot b o e n hb hx
    obtain ⟨sl', e2⟩ := slot b _ (neL b o e) hb (neC b o e hx) e1 (I.base.free b o e n hx)
    exact ⟨sl', e2⟩
  . obtain ⟨o', e1⟩ := I.base.there b o e hx
    exact free b o' (neC b o e hx) e1 (I.base.free b o e n hx)
  . obtain ⟨o', e1⟩ := I.base.there b o e hx
    exact there b o' (neC b o e hx) e1
  . obtain ⟨m1, e1⟩ := I.base.tbls b ps e
    obtain ⟨m2, e2⟩ := tbls b _ e1
    exact ⟨m1 ++ m2, by rw [e2, Array.append_assoc]⟩
  . obtain ⟨m, hn, hl⟩ := I.loc
    refine ⟨m, ns m hn, fun i x v e1 e2 e3 => ?_⟩
    obtain ⟨u, r, l⟩ := hl i x v e1 e2 e3
    refine ⟨u, r, ?_⟩
    rcases l with l | ⟨k, c, e, z⟩
    . exact .inl l
    . exact .inr ⟨k, c, e, cellK x c e _ z⟩
  . obtain ⟨v, z⟩ := I.cell x c e
    exact ⟨v, cellK x c e v z⟩
  . obtain ⟨m, ⟨o, _, _, ho, _⟩, _⟩ := I.loc
    exact free _ o (fun z => (hch _ z).2.1 rfl) ho I.free
  . obtain ⟨v, o, ho, hd⟩ := I.cell x c e
    exact free c o (fun z => (hch c z).2.2.1 x c e rfl) ho (I.freeC x c e)
  . obtain ⟨e, n, ne, nf, d⟩ := I.pin p hp
    have nch : p.1 ∉ ch := fun z => (hch p.1 z).2.2.2 p hp rfl
    exact ⟨keep p.1 p.2 ne nf nch e n, free p.1 p.2 nch e n, ne, nf, d⟩
theorem Inv.un {t' : Nat} (I : Inv X pins σ H s) (u : Un X.fs [] H H' s.heap h') (hok : HOk X.prog X.w H' h') : Inv X pins σ H' { s with heap := h', toks := t' } := by
  obtain ⟨m, ⟨o, es, ep, ho, r⟩, _⟩ := id I.loc
  obtain ⟨sl, hL⟩ := u.any ho I.free (by simp)
  exact I.step (g' := s.gens) (d' := s.drawn) (ch := []) (fun _ z => nomatch z) (fun b o _ hb _ e n => u.keep b o e n hb (by simp)) (fun b o _ hb _ e n => u.slot b o e n hb (by simp)) (fun b o _ e n => u.free b o e n (by simp)) (fun b o _ e => u.there b o e (by simp)) u.tups u.frzs u.tbls (fun m' hm => by
    obtain ⟨o', es', ep', ho', r'⟩ := hm
    rw [ho] at ho'; cases ho'
    exact ⟨_, es', ep', hL, r'⟩) hok I.bare
theorem Inv.call {g' : Array GenState} {t' : Nat} {d' : Drawn} {ch : List Addr} (I : Inv X pins σ H s) (u : Un (frs X.stack) ch H H' s.heap h') (hok : HOk X.prog X.w H' h') (hg : AllBare g')
    (hch : ∀ b ∈ ch, (b ∈ X.ex \/ X.s₀.heap.objs.size <= b) /\ b ≠ X.env.locals /\ (∀ x c, X.env.cells.lookup x = some c -> c ≠ b) /\ ∀ p ∈ X.pn ++ pins, p.1 ≠ b) :
    Inv X pins σ H' { s with heap := h', gens := g', drawn := d', toks := t' } := by
  obtain ⟨m, ⟨o, es, ep, ho, r⟩, _⟩ := id I.loc
  obtain ⟨sl, hL⟩ := u.any ho I.free fun z => (hch _ z).2.1 rfl
  exact I.step (ch := ch) hch (fun b o hL hb hc e n => u.keep b o e n (fun z => (List.mem_cons.mp (I.stkSub b z)).elim hL hb) hc) (fun b o _ _ hc e n => u.any e n hc) (fun b o hc e n => u.free b o e n hc) (fun b o hc e => u.there b o e hc) u.tups u.frzs u.tbls (fun m' hm => by
    obtain ⟨o', es', ep', ho', r'⟩ := hm
    rw [ho] at ho'; cases ho'
    exact ⟨_, es', ep', hL, r'⟩) hok hg
theorem Inv.turned {t' : Nat} {it : Addr} (I : Inv X pins σ H s) (k : ∀ b o, b ≠ it -> s.heap.get? b = some o -> h'.get? b = some o) (hn : H it = none) (hL : it ≠ X.env.locals)
    (h1 : it ∈ X.ex \/ X.s₀.heap.objs.size <= it) (h2 : ∀ x c, X.env.cells.lookup x = some c -> c ≠ it) (h3 : ∀ p ∈ X.pn ++ pins, p.1 ≠ it) : Inv X pins σ H { s with heap := h', toks := t' } := by
  have nit : ∀ b u, H b = some u -> b ≠ it := fun b u e z => by rw [z, hn] at e; cases e
  refine I.step (g' := s.gens) (d' := s.drawn) (ch := [it]) (fun b hb => ?_) (fun b o _ _ hc e _ => k b o (fun z => hc (by simp [z])) e) (fun b o _ _ hc e _ => ⟨o.slots, k b o (fun z => hc (by simp [z])) e⟩) (fun _ _ _ _ n => n)
    (fun b o hc e => ⟨o, k b o (fun z => hc (by simp [z])) e⟩) (fun _ _ e => e) (fun _ _ _ e => e) (fun b ps e => ⟨#[], by rw [e]; simp⟩) (fun m hm => ?_) (fun b u e => ?_) I.bare
  . have e : b = it := by simpa using hb
    subst e
    exact ⟨h1, hL, h2, h3⟩
  . obtain ⟨o, es, ep, ho, r⟩ := hm
    exact ⟨o, es, ep, k _ o (Ne.symm hL) ho, r⟩
  . refine (I.hok b u e).stay (fun c v hc q => k c v ?_ q) (fun _ q => q) fun _ _ q => q
    rcases hc with z | z
    . rw [z]; exact nit b u e
    . exact nit c _ z
theorem Inv.tok (I : Inv X pins σ H s) (t : Nat) : Inv X pins σ H { s with toks := t } := I.un (h' := s.heap) (t' := t) Un.refl I.hok
theorem Inv.kept {t' : Nat} (I : Inv X pins σ H s) (k : ∀ b u, s.heap.get? b = some u -> h'.get? b = some u) : Inv X pins σ H { s with heap := h', toks := t' } := I.un (Un.kept k) (I.hok.kept k)
theorem Inv.laid {a : Addr} {o : HO} {t' : Nat} (I : Inv X pins σ H s) (k : ∀ b u, s.heap.get? b = some u -> h'.get? b = some u) (hp : s.heap.objs.size <= a) (new : Io X.prog X.w (upd H a o) h' a o) :
    Inv X pins σ (upd H a o) { s with heap := h', toks := t' } := I.un (Un.laid k hp (I.hok.fresh hp)) (I.hok.laid k hp new)
theorem Inv.write {x e : Addr} {o : HO} {t' : Nat} (I : Inv X pins σ H s) (mu : Mut (H x)) (he : e = x \/ H e = some (.own x)) (k : ∀ b u, b ≠ e -> s.heap.get? b = some u -> h'.get? b = some u) (heo : ∃ u, h'.get? e = some u)
    (new : Io X.prog X.w (upd H x o) h' x o) : Inv X pins σ (upd H x o) { s with heap := h', toks := t' } := I.un (Un.write mu he k heo) (I.hok.write mu he k heo new)
theorem Inv.weak {σ' : List (Option V)} (I : Inv X pins σ H s) (hl : σ'.length = σ.length) (w : ∀ (i : Nat) v, σ'[i]? = some (some v) -> σ[i]? = some (some v)) : Inv X pins σ' H s :=
  ⟨I.ok, I.os, I.bare, I.base, let ⟨m, hn, hl'⟩ := I.loc; ⟨m, hn, fun i x v e1 e2 e3 => hl' i x v e1 (w i v e2) e3⟩, I.cell, I.free, I.freeC, I.pin, I.hok, hl.trans I.len⟩
theorem Inv.pins_of {pins' : List (Addr × Obj)} (I : Inv X pins σ H s) (h : ∀ p ∈ pins', s.heap.get? p.1 = some p.2 /\ H p.1 = none /\ p.1 ≠ X.env.locals /\ p.1 ∉ X.fs /\ ∀ v, p.2.data ≠ .cell v) : Inv X pins' σ H s :=
  ⟨I.ok, I.os, I.bare, I.base, I.loc, I.cell, I.free, I.freeC, fun p hp => (List.mem_append.mp hp).elim (fun z => I.pin p (List.mem_append_left _ z)) (h p), I.hok, I.len⟩
theorem Xy {N : List Str} (hN : N.Nodup) {i j : Nat} {x : Str} (a : N[i]? = some x) (b : N[j]? = some x) : i = j := by
  obtain ⟨h1, e1⟩ := List.getElem?_eq_some_iff.mp a
  obtain ⟨h2, e2⟩ := List.getElem?_eq_some_iff.mp b
  exact (List.getElem_inj hN).mp (e1.trans e2.symm)
theorem Aby {M : Model} {A : Around} {E : Value -> Shared -> Prop} {i : Nat} {x : Str} {v : V} {u : Value} {Q : Unit -> Shared -> Prop} (I : Inv X pins σ H s) (hN : X.N.Nodup) (hi : X.N[i]? = some x) (hx : Loc X.env.scope x) (r : RelV v u)
    (h : ∀ s', Inv X pins (σ.set i (some v)) H s' -> (∃ a, Heap.SameBut a s.heap s'.heap /\ (a = X.env.locals \/ X.env.cells.lookup x = some a)) -> Q () s') (hf : X.fn x = true \/ X.env.scope.names.lookup x = some .local := by first | exact .inl rfl | exact .inr rfl | assumption) : wpAny M A (storeName X.env x u) Q E s := by
  obtain ⟨m, hn, hl⟩ := id I.loc
  have hcls : (X.env.scope.kind == .class || (X.env.scope.kind == .module && X.env.locals != X.env.globals)) = false := by rw [I.ok.kind]; rfl
  have hiσ : i < σ.length := by rw [I.len]; exact (List.getElem?_eq_some_iff.mp hi).1
  have cne := I.cne
  have tracked : ∀ {a : Addr} {h' : Heap}, (∃ o, s.heap.get? a = some o /\ H a = none) -> Heap.SameBut a s.heap h' -> HOk X.prog X.w H h' := fun {a h'} ha hs b ob e => by
    obtain ⟨_, _, hfree⟩ := ha
    refine (I.hok b ob e).stay (fun c w' hc q => (hs.2 c ?_).trans q) (fun _ q => q) fun _ _ q => q
    rintro rfl
    rcases hc with rfl | hc
    . rw [hfree] at e; cases e
    . rw [hfree] at hc; cases hc
  rcases hx with hk | hk
  . refine wpAny_storeName_local hk hn (fun h' hn' hs => ?_) hcls
    obtain ⟨oL, _, _, hoL, _⟩ := id hn
    refine h _ ⟨I.ok, I.os, I.bare, ⟨fun b o e n hb hx => ?_, fun b o e n hb hx => ?_, I.base.free, fun b o e hx => ?_, I.base.tups, I.base.frzs, I.base.tbls⟩, ⟨_, hn', fun j y v' e1 e2 e3 => ?_⟩, fun y c e => ?_, I.free, I.freeC, fun p hp => ?_, tracked ⟨oL, hoL, I.free⟩ hs, by simpa using I.len⟩ ⟨_, hs, .inl rfl⟩
    . exact (hs.2 b (Nat.ne_of_lt (Nat.lt_of_lt_of_le (Heap.lt_size e) I.ok.above))).trans (I.base.keep b o e n hb hx)
    . obtain ⟨sl, e1⟩ := I.base.slot b o e n hb hx
      exact ⟨sl, (hs.2 b (Nat.ne_of_lt (Nat.lt_of_lt_of_le (Heap.lt_size e) I.ok.above))).trans e1⟩
    . obtain ⟨o', e1⟩ := I.base.there b o e hx
      exact ⟨o', (hs.2 b (Nat.ne_of_lt (Nat.lt_of_lt_of_le (Heap.lt_size e) I.ok.above))).trans e1⟩
    . by_cases hj : j = i
      . subst hj
        rw [hi] at e1; cases e1
        rw [List.getElem?_set_self hiσ] at e2
        cases e2
        exact ⟨u, r, .inl ⟨hk, by simp⟩⟩
      . rw [List.getElem?_set_ne (Ne.symm hj)] at e2
        obtain ⟨u', r', q⟩ := hl j y v' e1 e2 e3
        refine ⟨u', r', ?_⟩
        rcases q with ⟨k, e⟩ | ⟨k, c, e, z⟩
        . refine .inl ⟨k, ?_⟩
          have : y ≠ x := fun e => hj (Xy hN e1 (e ▸ hi))
          simp [this, e]
        . exact .inr ⟨k, c, e, z.sameBut hs (cne y c e)⟩
    . obtain ⟨w', z⟩ := I.cell y c e
      exact ⟨w', z.sameBut hs (cne y c e)⟩
    . obtain ⟨e, n, ne, nf, d⟩ := I.pin p hp
      exact ⟨(hs.2 p.1 ne).trans e, n, ne, nf, d⟩
  . have hfn : X.fn x = true := by
      rcases hf with z | z
      . exact z
      . rw [z] at hk; cases hk
    obtain ⟨c, hc⟩ := I.ok.has x (.inl hk)
    obtain ⟨w', z⟩ := I.cell x c hc
    refine wpAny_storeName_cell I.ok.kind hk hc z (fun h' hc' hs => ?_)
    obtain ⟨oc, hoc, hocd⟩ := id z
    refine h { s with heap := h' } ⟨I.ok, I.os, I.bare, ⟨fun b o e n hb hx => ?_, fun b o e n hb hx => ?_, I.base.free, fun b o e hx => ?_, I.base.tups, I.base.frzs, I.base.tbls⟩, ⟨m, hn.sameBut hs (Ne.symm (cne x c hc)), fun j y v' e1 e2 e3 => ?_⟩, fun y c' e => ?_, I.free, I.freeC, fun p hp => ?_, tracked ⟨oc, hoc, I.freeC x c hc⟩ hs, by simpa using I.len⟩ ⟨c, hs, .inr hc⟩
    . exact (hs.2 b (Nat.ne_of_lt (Nat.lt_of_lt_of_le (Heap.lt_size e) (I.ok.cab x c hfn hc)))).trans (I.base.keep b o e n hb hx)
    . obtain ⟨sl, e1⟩ := I.base.slot b o e n hb hx
      exact ⟨sl, (hs.2 b (Nat.ne_of_lt (Nat.lt_of_lt_of_le (Heap.lt_size e) (I.ok.cab x c hfn hc)))).trans e1⟩
    . obtain ⟨o', e1⟩ := I.base.there b o e hx
      exact ⟨o', (hs.2 b (Nat.ne_of_lt (Nat.lt_of_lt_of_le (Heap.lt_size e) (I.ok.cab x c hfn hc)))).trans e1⟩
    . by_cases hj : j = i
      . subst hj
        rw [hi] at e1; cases e1
        rw [List.getElem?_set_self hiσ] at e2
        cases e2
        exact ⟨u, r, .inr ⟨.inl hk, c, hc, hc'⟩⟩
      . rw [List.getElem?_set_ne (Ne.symm hj)] at e2
        obtain ⟨u', r', q⟩ := hl j y v' e1 e2 e3
        refine ⟨u', r', ?_⟩
        rcases q with q | ⟨k, c', e, z'⟩
        . exact .inl q
        . refine .inr ⟨k, c', e, z'.sameBut hs ?_⟩
          rintro rfl
          exact hj (Xy hN e1 (I.ok.inj _ _ _ e hc ▸ hi))
    . by_cases hcc : c' = c
      . subst hcc; exact ⟨_, hc'⟩
      . obtain ⟨w2, z2⟩ := I.cell y c' e
        exact ⟨w2, z2.sameBut hs hcc⟩
    . obtain ⟨e, n, ne, nf, d⟩ := I.pin p hp
      refine ⟨(hs.2 p.1 ?_).trans e, n, ne, nf, d⟩
      intro q
      rw [q, hoc] at e
      have q' : oc = p.2 := Option.some.inj e
      exact d w' (by rw [<- q']; exact hocd)
theorem Ou {M : Model} {A : Around} {E : Value -> Shared -> Prop} {i : Nat} {x : Str} {v : V} {u : Value} {Q : Unit -> Shared -> Prop} (I : Inv X pins σ H s) (hN : X.N.Nodup) (hi : X.N[i]? = some x) (hx : Loc X.env.scope x) (r : RelV v u)
    (h : ∀ s', Inv X pins (σ.set i (some v)) H s' -> Q () s') (hf : X.fn x = true \/ X.env.scope.names.lookup x = some .local := by first | exact .inl rfl | exact .inr rfl | assumption) : wpAny M A (storeName X.env x u) Q E s :=
  Aby I hN hi hx r (fun s' I' _ => h s' I') hf
theorem Inv.call' {s' : Shared} {ch : List Addr} (I : Inv X pins σ H s) (ho : s'.os = s.os) (u : Un (frs X.stack) ch H H' s.heap s'.heap) (hok : HOk X.prog X.w H' s'.heap) (hg : AllBare s'.gens)
    (hch : ∀ b ∈ ch, (b ∈ X.ex \/ X.s₀.heap.objs.size <= b) /\ b ≠ X.env.locals /\ (∀ x c, X.env.cells.lookup x = some c -> c ≠ b) /\ ∀ p ∈ X.pn ++ pins, p.1 ≠ b) : Inv X pins σ H' s' := by
  obtain ⟨h', g', d', t', o'⟩ := s'
  have e : o' = s.os := ho
  subst e
  exact I.call (g' := g') (t' := t') (d' := d') u hok hg hch
end
abbrev XK := Value -> Option Addr -> Hp -> Prop
abbrev St := List (Option V)
abbrev VK := V -> Hp -> Prop
abbrev TE := St -> Hp -> VK -> Prop
abbrev TT := St -> Hp -> (Bool -> Hp -> Prop) -> Prop
abbrev TA := St -> Hp -> (List V -> Hp -> Prop) -> Prop
structure Ends where
  nx : St -> Hp -> Prop
  rt : VK
  bk : St -> Hp -> Prop := fun _ _ => False
  ct : St -> Hp -> Prop := fun _ _ => False
abbrev TS := Ends -> St -> Hp -> Prop
def EP (X : Cx) (pins : List (Addr × Obj)) (σ : St) (Q : VK) (u : Value) (s' : Shared) : Prop := ∃ v H', Inv X pins σ H' s' /\ RelV v u /\ Q v H'
def TP (X : Cx) (pins : List (Addr × Obj)) (σ : St) (Q : Bool -> Hp -> Prop) (b : Bool) (s' : Shared) : Prop := ∃ H', Inv X pins σ H' s' /\ Q b H'
def AP (X : Cx) (pins : List (Addr × Obj)) (σ : St) (Q : List V -> Hp -> Prop) (us : List Value) (s' : Shared) : Prop := ∃ vs H', Inv X pins σ H' s' /\ Vals vs us /\ Q vs H'
def SP (X : Cx) (pins : List (Addr × Obj)) (D : Ends) (f : Flow) (s' : Shared) : Prop :=
  match f with
  | .next => ∃ σ' H', Inv X pins σ' H' s' /\ D.nx σ' H'
  | .brk => ∃ σ' H', Inv X pins σ' H' s' /\ D.bk σ' H'
  | .cont => ∃ σ' H', Inv X pins σ' H' s' /\ D.ct σ' H'
  | .ret u => ∃ v σ' H', Inv X pins σ' H' s' /\ RelV v u /\ D.rt v H'
def PE (X : Cx) (e : Expr) (t : TE) : Prop :=
  ∀ (pins : List (Addr × Obj)) (s : Shared) (σ : St) (H : Hp) (Q : VK), Inv X pins σ H s -> t σ H Q -> wpAny (model X.prog X.w) X.A (eval e X.env) (EP X pins σ Q) X.xe s
def PT (X : Cx) (e : Expr) (t : TT) : Prop :=
  ∀ (pins : List (Addr × Obj)) (s : Shared) (σ : St) (H : Hp) (Q : Bool -> Hp -> Prop), Inv X pins σ H s -> t σ H Q -> wpAny (model X.prog X.w) X.A (isTrue e X.env (eval e X.env)) (TP X pins σ Q) X.xe s
def PW (X : Cx) (e : Expr) (t : TT) : Prop :=
  ∀ (whole : Sem Value) (pins : List (Addr × Obj)) (s : Shared) (σ : St) (H : Hp) (Q : Bool -> Hp -> Prop), Inv X pins σ H s -> t σ H Q -> wpAny (model X.prog X.w) X.A (isTrue e X.env whole) (TP X pins σ Q) X.xe s
theorem PW.pt {X : Cx} {e : Expr} {t : TT} (h : PW X e t) : PT X e t := h _
def PA (X : Cx) (es : List Expr) (t : TA) : Prop :=
  ∀ (pos : Pos) (pins : List (Addr × Obj)) (s : Shared) (σ : St) (H : Hp) (Q : List V -> Hp -> Prop), Inv X pins σ H s -> t σ H Q -> wpAny (model X.prog X.w) X.A (spliced (backTo pos (starEach es X.env))) (AP X pins σ Q) X.xe s
def PS (X : Cx) (st : Stmt) (t : TS) : Prop :=
  ∀ (pins : List (Addr × Obj)) (s : Shared) (σ : St) (H : Hp) (D : Ends), Inv X pins σ H s -> t D σ H -> wpAny (model X.prog X.w) X.A (exec st X.env) (SP X pins D) X.xe s
def PSs (X : Cx) (st : List Stmt) (t : TS) : Prop :=
  ∀ (pins : List (Addr × Obj)) (s : Shared) (σ : St) (H : Hp) (D : Ends), Inv X pins σ H s -> t D σ H -> wpAny (model X.prog X.w) X.A (execs st X.env) (SP X pins D) X.xe s
theorem thn {α : Type} {t : Sem α} {Q Q' : α -> Shared -> Prop} {M : Model} {A : Around} {E : Value -> Shared -> Prop} {s : Shared} (h : wpAny M A t Q E s) (hQ : ∀ a s, Q a s -> Q' a s) : wpAny M A t Q' E s := wpAny_mono h hQ fun _ _ x => x
end L2
namespace L2
open PySem PySem.Spec PyProof.Rows
section
variable {X : Cx}
def Af0 (i : Nat) : TE := fun σ H Q => ∃ v, σ[i]? = some (some v) /\ Q v H
def tC (v : V) : TE := fun _ H Q => Q v H
theorem Ai1 {i : Nat} {x : Str} {pos : Pos} (hN : X.N[i]? = some x) (hv : Vis X.env.scope x) (hd : (x == ("__debug__" : Str)) = false := by decide) (hcd : (x == ("__classdict__" : Str)) = false := by decide) : PE X (.Name x pos) (Af0 i) := by
  intro pins s σ H Q I h
  obtain ⟨v, e, h⟩ := h
  obtain ⟨m, hn, hl⟩ := I.loc
  obtain ⟨u, r, l⟩ := hl i x v hN e hv
  have fin : EP X pins σ Q u s := ⟨v, H, I, r, h⟩
  rcases l with ⟨hk, hm⟩ | ⟨hk, c, hc, hcell⟩
  . exact wpAny_Name (wpAny_loadName_local I.ok.kind hk hn hm fin) hd
  . rcases hk with hk | hk
    . exact wpAny_Name (wpAny_loadName_cell I.ok.kind hk hc hcell fin) hd
    . exact wpAny_Name (wpAny_loadName_free I.ok.kind hk hc hcell fin hcd) hd
theorem Ab {i j pos} : PE X (.Constant (.int i) j pos) (tC (.int i)) := fun _ _ _ H _ I h => wpAny_Constant_int ⟨.int i, H, I.tok _, ⟨_, rfl⟩, h⟩
theorem Nx {b j pos} : PE X (.Constant (.bool b) j pos) (tC (.bl b)) := fun _ _ _ H _ I h => Constant_bool ⟨.bl b, H, I, rfl, h⟩
theorem Yl {j pos} : PE X (.Constant .none j pos) (tC .non) := fun _ _ _ H _ I h => Constant_none ⟨.non, H, I, rfl, h⟩
theorem Wo {x j pos} : PE X (.Constant (.str x) j pos) (tC (.str x)) := fun _ _ _ H _ I h => Calls.Constant_str ⟨.str x, H, I.tok _, ⟨_, rfl⟩, h⟩
def Gl (X : Cx) (x : Str) : Prop := X.env.kindOf x = some .globalImplicit
theorem W6 {E : Value -> Shared -> Prop} {pins : List (Addr × Obj)} {s : Shared} {σ : St} {H : Hp} {x : Str} {u : Value} {pos : Pos} {Q : Value -> Shared -> Prop} (I : Inv X pins σ H s) (hg : Gl X x) (hm : X.mg x = some u) (h : Q u s)
    (hd : (x == ("__debug__" : Str)) = false := by decide) : wpAny (model X.prog X.w) X.A (eval (.Name x pos) X.env) Q E s :=
  Calls.Name_function_global I.ok.kind hg (Calls.loadGlobal_global (by rw [I.ok.glob]; exact I.mod.glob.keeps I.bk) hm h) hd
theorem Mh {E : Value -> Shared -> Prop} {pins : List (Addr × Obj)} {s : Shared} {σ : St} {H : Hp} {x : Str} {u : Value} {pos : Pos} {Q : Value -> Shared -> Prop} (I : Inv X pins σ H s) (hg : Gl X x) (hm : X.mg x = none) (hv : bootBuiltins x = some u) (h : Q u s)
    (hn : x ≠ "__name__" := by decide) (hd : (x == ("__debug__" : Str)) = false := by decide) : wpAny (model X.prog X.w) X.A (eval (.Name x pos) X.env) Q E s := by
  obtain ⟨mb, h1, h2⟩ := I.mod.blt
  exact Calls.Name_function_global I.ok.kind hg (Calls.loadGlobal_builtin (by rw [I.ok.glob]; exact I.mod.glob.keeps I.bk) hm (by rw [I.ok.blt]; exact h1.keeps I.bk) ((h2 x hn).trans hv) h) hd
theorem Qq {x : Str} {v : V} {u : Value} {pos : Pos} (hg : Gl X x) (hm : X.mg x = some u) (r : RelV v u) (hd : (x == ("__debug__" : Str)) = false := by decide) : PE X (.Name x pos) (tC v) :=
  fun _ _ _ H _ I h => W6 I hg hm ⟨v, H, I, r, h⟩ hd
theorem Jf {x : Str} {v : V} {u : Value} {pos : Pos} (hg : Gl X x) (hm : X.mg x = none) (hv : bootBuiltins x = some u) (r : RelV v u) (hn : x ≠ "__name__" := by decide) (hd : (x == ("__debug__" : Str)) = false := by decide) : PE X (.Name x pos) (tC v) :=
  fun _ _ _ H _ I h => Mh I hg hm hv ⟨v, H, I, r, h⟩ hn hd
variable {a b : Expr} {ta tb : TE} {pos : Pos}
def tB (t : TE) : TT := fun σ H Q => t σ H fun x H1 => ∃ c, x = .bl c /\ Q c H1
theorem Gp {e : Expr} {t : TE} (h : PE X e t) (he : ∀ whole, isTrue e X.env whole = (do let v <- whole; standAt e.pos; holding [v] (truthy v)) := by intro _; rfl) : PT X e (tB t) := by
  intro pins s σ H Q I hw
  refine isTrue_plain (thn (h pins s σ H _ I hw) fun v s1 ⟨x, H1, I1, r1, q1⟩ => ?_) (he _)
  obtain ⟨d, rfl, q⟩ := q1
  cases r1
  exact wpAny_truthy_bool ⟨H1, I1, q⟩
variable {tA tB' : TT} {rest : List Expr}
def Aks (t u : TT) : TT := fun σ H Q => t σ H fun c H1 => if c = true then u σ H1 Q else Q false H1
def tOr (t u : TT) : TT := fun σ H Q => t σ H fun c H1 => if c = true then Q true H1 else u σ H1 Q
def Ale (t : TT) : TT := fun σ H Q => t σ H fun c H1 => Q (!c) H1
theorem Jy (ha : PT X a tA) : PW X (.BoolOp .And [a] pos) tA := by
  intro wh pins s σ H Q I h
  refine isTrue_and (thn (ha pins s σ H Q I h) fun c s1 e => ?_)
  cases c with
  | true => exact isTrue_and_nil e
  | false => exact e
theorem Iv (ha : PT X a tA) : PW X (.BoolOp .Or [a] pos) tA := by
  intro wh pins s σ H Q I h
  refine isTrue_or (thn (ha pins s σ H Q I h) fun c s1 e => ?_)
  cases c with
  | false => exact isTrue_or_nil e
  | true => exact e
theorem Mv (ha : PT X a tA) (hb : PW X (.BoolOp .And (b :: rest) pos) tB') : PW X (.BoolOp .And (a :: b :: rest) pos) (Aks tA tB') := by
  intro wh pins s σ H Q I h
  refine isTrue_and (thn (ha pins s σ H _ I h) fun c s1 ⟨H1, I1, q1⟩ => ?_)
  cases c with
  | true => exact hb wh pins s1 σ H1 Q I1 q1
  | false => exact ⟨H1, I1, q1⟩
theorem Jq (ha : PT X a tA) (hb : PW X (.BoolOp .Or (b :: rest) pos) tB') : PW X (.BoolOp .Or (a :: b :: rest) pos) (tOr tA tB') := by
  intro wh pins s σ H Q I h
  refine isTrue_or (thn (ha pins s σ H _ I h) fun c s1 ⟨H1, I1, q1⟩ => ?_)
  cases c with
  | true => exact ⟨H1, I1, q1⟩
  | false => exact hb wh pins s1 σ H1 Q I1 q1
theorem Hf (ha : PT X a tA) : PT X (.UnaryOp .Not a pos) (Ale tA) := by
  intro pins s σ H Q I h
  exact isTrue_not (ha pins s σ H (fun c H1 => Q (!c) H1) I h)
def Ag5 (ta tb : TE) : TE := fun σ H Q => ta σ H fun x H1 => ∃ c, x = .bl c /\ if c = true then tb σ H1 Q else Q (.bl false) H1
def Ak1 (ta tb : TE) : TE := fun σ H Q => ta σ H fun x H1 => ∃ c, x = .bl c /\ if c = true then Q (.bl true) H1 else tb σ H1 Q
def Ahf (ta : TE) : TE := fun σ H Q => ta σ H fun x H1 => ∃ c, x = .bl c /\ Q (.bl (!c)) H1
theorem Mp {op} {t : TE} (h : PE X a t) : PE X (.BoolOp op [a] pos) t := fun pins s σ H Q I hw => BoolOp_one (h pins s σ H Q I hw)
theorem Mx (ha : PE X a ta) (hb : PE X (.BoolOp .And (b :: rest) pos) tb) : PE X (.BoolOp .And (a :: b :: rest) pos) (Ag5 ta tb) := by
  intro pins s σ H Q I h
  refine BoolOp_and (thn (ha pins s σ H _ I h) fun v s1 ⟨x, H1, I1, r1, q1⟩ => ?_)
  obtain ⟨c, rfl, q1⟩ := q1
  cases r1
  refine wpAny_truthy_bool ?_
  cases c with
  | true => exact hb pins s1 σ H1 Q I1 q1
  | false => exact ⟨.bl false, H1, I1, rfl, q1⟩
theorem Ahc (ha : PE X a ta) (hb : PE X (.BoolOp .Or (b :: rest) pos) tb) : PE X (.BoolOp .Or (a :: b :: rest) pos) (Ak1 ta tb) := by
  intro pins s σ H Q I h
  refine BoolOp_or (thn (ha pins s σ H _ I h) fun v s1 ⟨x, H1, I1, r1, q1⟩ => ?_)
  obtain ⟨c, rfl, q1⟩ := q1
  cases r1
  refine wpAny_truthy_bool ?_
  cases c with
  | false => exact hb pins s1 σ H1 Q I1 q1
  | true => exact ⟨.bl true, H1, I1, rfl, q1⟩
theorem Aao (ha : PE X a ta) : PE X (.UnaryOp .Not a pos) (Ahf ta) := by
  intro pins s σ H Q I h
  refine UnaryOp_ (thn (ha pins s σ H _ I h) fun v s1 ⟨x, H1, I1, r1, q1⟩ => ?_)
  obtain ⟨c, rfl, q1⟩ := q1
  cases r1
  exact not_of (wpAny_truthy_bool ⟨.bl (!c), H1, I1, rfl, q1⟩)
def tIf (t : TT) (ta tb : TE) : TE := fun σ H Q => t σ H fun c H1 => if c = true then ta σ H1 Q else tb σ H1 Q
theorem K1 {c : Expr} (hc : PT X c tA) (ha : PE X a ta) (hb : PE X b tb) : PE X (.IfExp c a b pos) (tIf tA ta tb) := by
  intro pins s σ H Q I h
  refine wpAny_IfExp (thn (hc pins s σ H _ I h) fun d s1 ⟨H1, I1, q1⟩ => ?_)
  cases d with
  | true => exact ha pins s1 σ H1 Q I1 q1
  | false => exact hb pins s1 σ H1 Q I1 q1
end
end L2
namespace L2
open PySem PySem.Spec PyProof.Rows
def SqL (K : PySem.W.Frag) (H : Hp) (a : Addr) (xs : List V) : Prop :=
  Rd H a (.lst xs) \/
    ∃ (o : Obj) (its : Array Value) (n : Nat), K.lookup a = some o /\ o.cls = .type "list" /\ o.dict = none /\ o.data = .seq its n /\ its.size <= sizeLine /\ Vals xs its.toList
def SqT (K : PySem.W.Frag) (H : Hp) (a : Addr) (xs : List V) : Prop :=
  Rd H a (.tup xs) \/
    ∃ (o : Obj) (its : Array Value) (n : Nat), K.lookup a = some o /\ o.cls = .type "tuple" /\ o.data = .seq its n /\ its.size <= sizeLine /\ Vals xs its.toList
def Al9 : Value -> Option V
  | .none => some .non
  | .bool b => some (.bl b)
  | .int i _ => some (.int i)
  | .str x _ => some (.str x)
  | .bytes b _ => some (.byt b)
  | .float b _ => some (.flt b)
  | .ref a => some (.ref a)
  | .type n => some (.ty n)
  | _ => none
theorem RelV.abs {x : V} {u : Value} (r : RelV x u) : Al9 u = some x := by
  cases x with
  | non => cases r; rfl
  | bl _ => cases r; rfl
  | int _ => obtain ⟨t, rfl⟩ := r; rfl
  | str _ => obtain ⟨t, rfl⟩ := r; rfl
  | byt _ => obtain ⟨t, rfl⟩ := r; rfl
  | flt _ => obtain ⟨t, rfl⟩ := r; rfl
  | ref _ => cases r; rfl
  | ty _ => cases r; rfl
theorem RelV.inj {x y : V} {u : Value} (r : RelV x u) (q : RelV y u) : x = y := Option.some.inj (r.abs.symm.trans q.abs)
theorem Vals.inj : ∀ {xs ys : List V} {us : List Value}, Vals xs us -> Vals ys us -> xs = ys
  | _, _, _, .nil, .nil => rfl
  | _, _, _, .cons r t, .cons r' t' => by rw [r.inj r', Vals.inj t t']
section
variable {X : Cx} {pins : List (Addr × Obj)} {σ : St} {H : Hp} {s : Shared} {a : Addr} {xs ys : List V}
theorem SqL.of {K : PySem.W.Frag} (h : H a = some (.lst xs)) : SqL K H a xs := .inl (.inl h)
theorem SqT.of {K : PySem.W.Frag} (h : H a = some (.tup xs)) : SqT K H a xs := .inl (.inl h)
theorem Inv.list (I : Inv X pins σ H s) (h : SqL X.K H a xs) : ∃ its : List Value, Vals xs its /\ PlainL s.heap a its.toArray /\ xs.length <= sizeLine := by
  rcases h with h | ⟨o, its, n, hk, hc, hd, hs, hz, r⟩
  . obtain ⟨z, its, n, r, e⟩ := h.ok I.hok
    exact ⟨its, r, ⟨_, n, e, rfl, rfl, rfl⟩, z⟩
  . refine ⟨its.toList, r, ⟨o, n, I.kIn a o hk, hc, hd, by simpa using hs⟩, ?_⟩
    have e := r.length
    simp only [Array.length_toList] at e
    omega
theorem Inv.tuple (I : Inv X pins σ H s) (h : SqT X.K H a xs) : ∃ its : List Value, Vals xs its /\ IsTup s.heap a its.toArray /\ xs.length <= sizeLine := by
  rcases h with h | ⟨o, its, n, hk, hc, hs, hz, r⟩
  . obtain ⟨z, its, r, p⟩ := h.ok I.hok
    exact ⟨its, r, p, z⟩
  . refine ⟨its.toList, r, ⟨o, I.kIn a o hk, hc, n, by simpa using hs⟩, ?_⟩
    have e := r.length
    simp only [Array.length_toList] at e
    omega
theorem Inv.list_inj (I : Inv X pins σ H s) (h : SqL X.K H a xs) (h' : SqL X.K H a ys) : xs = ys := by
  obtain ⟨its, r, ⟨o, n, e, _, _, d⟩, _⟩ := I.list h
  obtain ⟨its', r', ⟨o', n', e', _, _, d'⟩, _⟩ := I.list h'
  rw [e] at e'; cases e'
  rw [d] at d'
  injection d' with d1 _
  have : its = its' := by simpa using congrArg Array.toList d1
  subst this
  exact r.inj r'
theorem Inv.tuple_inj (I : Inv X pins σ H s) (h : SqT X.K H a xs) (h' : SqT X.K H a ys) : xs = ys := by
  obtain ⟨its, r, ⟨o, e, _, n, d⟩, _⟩ := I.tuple h
  obtain ⟨its', r', ⟨o', e', _, n', d'⟩, _⟩ := I.tuple h'
  rw [e] at e'; cases e'
  rw [d] at d'
  injection d' with d1 _
  have : its = its' := by simpa using congrArg Array.toList d1
  subst this
  exact r.inj r'
end
abbrev Cx.wish (X : Cx) (E : Value -> Shared -> Prop) : Cx := { X with xe := E }
abbrev Cx.nox (X : Cx) : Cx := X.wish fun _ _ => False
theorem Cx.Ok.wish {X : Cx} (ok : X.Ok) (E : Value -> Shared -> Prop) : (X.wish E).Ok :=
  ⟨ok.mod, ok.kind, ok.glob, ok.blt, ok.above, ok.inj, ok.has, ok.cab, ok.hd, ok.frames, ok.stk, ok.exf, ok.bs, ok.bsz, ok.noex, ok.exfs, ok.funs, ok.frf⟩
theorem Cx.Ok.unwish {X : Cx} {E : Value -> Shared -> Prop} (ok : (X.wish E).Ok) : X.Ok :=
  ⟨ok.mod, ok.kind, ok.glob, ok.blt, ok.above, ok.inj, ok.has, ok.cab, ok.hd, ok.frames, ok.stk, ok.exf, ok.bs, ok.bsz, ok.noex, ok.exfs, ok.funs, ok.frf⟩
section
variable {X : Cx} {pins : List (Addr × Obj)} {σ : St} {H : Hp} {s : Shared} {E : Value -> Shared -> Prop}
theorem Inv.wish (I : Inv X pins σ H s) (E : Value -> Shared -> Prop) : Inv (X.wish E) pins σ H s := ⟨I.ok.wish E, I.os, I.bare, I.base, I.loc, I.cell, I.free, I.freeC, I.pin, I.hok, I.len⟩
theorem Inv.unwish (I : Inv (X.wish E) pins σ H s) : Inv X pins σ H s := ⟨I.ok.unwish, I.os, I.bare, I.base, I.loc, I.cell, I.free, I.freeC, I.pin, I.hok, I.len⟩
theorem SP.unwish {D : Ends} {f : Flow} {s' : Shared} (h : SP (X.wish E) pins D f s') : SP X pins D f s' := by
  cases f with
  | next => obtain ⟨σ', H', I, q⟩ := h; exact ⟨σ', H', I.unwish, q⟩
  | brk => obtain ⟨σ', H', I, q⟩ := h; exact ⟨σ', H', I.unwish, q⟩
  | cont => obtain ⟨σ', H', I, q⟩ := h; exact ⟨σ', H', I.unwish, q⟩
  | ret u => obtain ⟨v, σ', H', I, r, q⟩ := h; exact ⟨v, σ', H', I.unwish, r, q⟩
theorem PE.nox {e : Expr} {t : TE} (h : PE X.nox e t) : PE X e t := fun pins s σ H Q I hw =>
  wpAny_mono (h pins s σ H Q (I.wish _) hw) (fun _ _ ⟨v, H', I', r, q⟩ => ⟨v, H', I'.unwish, r, q⟩) fun _ _ z => False.elim z
theorem PT.nox {e : Expr} {t : TT} (h : PT X.nox e t) : PT X e t := fun pins s σ H Q I hw =>
  wpAny_mono (h pins s σ H Q (I.wish _) hw) (fun _ _ ⟨H', I', q⟩ => ⟨H', I'.unwish, q⟩) fun _ _ z => False.elim z
theorem PSs.nox {st : List Stmt} {t : TS} (h : PSs X.nox st t) : PSs X st t := fun pins s σ H D I hw =>
  wpAny_mono (h pins s σ H D (I.wish _) hw) (fun _ _ q => q.unwish) fun _ _ z => False.elim z
end
section
variable {X : Cx} {st : Stmt} {rest : List Stmt} {t u : TS} {e : Expr} {te : TE} {pos : Pos}
def Aid : TS := fun D σ H => D.nx σ H
def Aki (t u : TS) : TS := fun D σ H => t { D with nx := u D } σ H
theorem Ax : PSs X [] Aid := fun _ _ σ H _ I h => wpAny_execs_nil ⟨σ, H, I, h⟩
theorem Ad (h1 : PS X st t) (h2 : PSs X rest u) : PSs X (st :: rest) (Aki t u) := by
  intro pins s σ H D I h
  refine wpAny_execs_cons (thn (h1 pins s σ H { D with nx := u D } I h) fun f s1 q => ?_)
  cases f with
  | next =>
    obtain ⟨σ', H', I', q⟩ := q
    exact h2 pins s1 σ' H' D I' q
  | ret v => exact q
  | brk => exact q
  | cont => exact q
theorem Ae (h1 : PS X st t) : PSs X [st] t := by
  intro pins s σ H D I h
  refine wpAny_execs_cons (thn (h1 pins s σ H D I h) fun f s1 q => ?_)
  cases f with
  | next => exact wpAny_execs_nil q
  | ret v => exact q
  | brk => exact q
  | cont => exact q
theorem Inv.quiet {pins : List (Addr × Obj)} {σ : St} {H : Hp} {s : Shared} (I : Inv X pins σ H s) : interactive X.env = false := by simp [interactive, I.ok.kind]
def Agy (te : TE) : TS := fun D σ H => te σ H fun _ H1 => D.nx σ H1
theorem J3 (he : PE X e te) (hs : swapsWith e none pos.line X.env = pure false := by rfl) : PS X (.Expr e pos) (Agy te) := by
  intro pins s σ H D I h
  exact wpAny_Expr_any (thn (he pins s σ H _ I h) fun v s1 ⟨x, H1, I1, r1, q1⟩ => ⟨σ, H1, I1, q1⟩) I.quiet hs
def Akw (te : TE) : TS := fun D σ H => te σ H D.rt
theorem Al (he : PE X e te) : PS X (.Return (some e) pos) (Akw te) := by
  intro pins s σ H D I h
  exact wpAny_Return_some (thn (he pins s σ H _ I h) fun v s1 ⟨x, H1, I1, r1, q1⟩ => ⟨x, σ, H1, I1, r1, q1⟩)
def Ako (c : TT) (t u : TS) : TS := fun D σ H => c σ H fun b H1 => if b = true then t D σ H1 else u D σ H1
theorem Ca {c : Expr} {a b : List Stmt} {tc : TT} (hc : PT X c tc) (ha : PSs X a t) (hb : PSs X b u) : PS X (.If c a b pos) (Ako tc t u) := by
  intro pins s σ H D I h
  refine wpAny_If (thn (hc pins s σ H _ I h) fun d s1 ⟨H1, I1, q1⟩ => ?_)
  cases d with
  | true => exact ha pins s1 σ H1 D I1 q1
  | false => exact hb pins s1 σ H1 D I1 q1
def Afm : TS := fun _ _ _ => False
theorem Oz : PS X st Afm := fun _ _ _ _ _ _ h => h.elim
end
abbrev TG := V -> St -> Hp -> (St -> Hp -> Prop) -> Prop
abbrev TGs := List V -> St -> Hp -> (St -> Hp -> Prop) -> Prop
def PG (X : Cx) (target : Expr) (t : TG) : Prop :=
  ∀ (pins : List (Addr × Obj)) (s : Shared) (σ : St) (H : Hp) (v : V) (u : Value) (Q : St -> Hp -> Prop), Inv X pins σ H s -> RelV v u -> t v σ H Q ->
    wpAny (model X.prog X.w) X.A (assign target X.env u) (fun _ s' => ∃ σ' H', Inv X pins σ' H' s' /\ Q σ' H') X.xe s
def PGs (X : Cx) (ts : List Expr) (t : TGs) : Prop :=
  ∀ (pins : List (Addr × Obj)) (s : Shared) (σ : St) (H : Hp) (vs : List V) (us : List Value) (Q : St -> Hp -> Prop), Inv X pins σ H s -> Vals vs us -> t vs σ H Q ->
    wpAny (model X.prog X.w) X.A (assignInOrder ((assignEach ts X.env).map (·.2)) us) (fun _ s' => ∃ σ' H', Inv X pins σ' H' s' /\ Q σ' H') X.xe s
abbrev Air := V -> V -> V -> Hp -> (Hp -> Prop) -> Prop
def Aln (X : Cx) (t : Air) : Prop :=
  ∀ (pins : List (Addr × Obj)) (s : Shared) (σ : St) (H : Hp) (o i v : V) (ov iv u : Value) (Q : Hp -> Prop), Inv X pins σ H s -> RelV o ov -> RelV i iv -> RelV v u -> t o i v H Q ->
    wpAny (model X.prog X.w) X.A (setItem ov iv u) (fun _ s' => ∃ H', Inv X pins σ H' s' /\ Q H') X.xe s
section
variable {X : Cx} {pos : Pos}
def R5 (i : Nat) : TG := fun v σ H Q => Q (σ.set i (some v)) H
theorem Ar {i : Nat} {x : Str} (hN : X.N.Nodup) (hi : X.N[i]? = some x) (hx : Loc X.env.scope x) (hf : X.fn x = true \/ X.env.scope.names.lookup x = some .local := by first | exact .inl rfl | exact .inr rfl | assumption) : PG X (.Name x pos) (R5 i) := by
  intro pins s σ H v u Q I r h
  exact wpAny_assign_Name (Ou I hN hi hx r (fun s' I' => ⟨_, H, I', h⟩) hf)
def Akg : TGs := fun vs σ H Q => vs = [] /\ Q σ H
def Xb (t : TG) (u : TGs) : TGs := fun vs σ H Q => ∃ v r, vs = v :: r /\ t v σ H fun σ' H' => u r σ' H' Q
theorem Gf : PGs X [] Akg := by
  intro pins s σ H vs us Q I r h
  obtain ⟨e, h⟩ := h
  subst e
  cases r
  exact assignInOrder_nil ⟨σ, H, I, h⟩
theorem Bj {e : Expr} {es : List Expr} {t : TG} {u : TGs} (h1 : PG X e t) (h2 : PGs X es u)
    (hs : (assignEach (e :: es) X.env).map (·.2) = assign e X.env :: (assignEach es X.env).map (·.2) := by rfl) : PGs X (e :: es) (Xb t u) := by
  intro pins s σ H vs us Q I r h
  obtain ⟨v, vr, e1, h⟩ := h
  subst e1
  cases r with
  | cons r rr =>
    rw [hs]
    refine assignInOrder_cons (thn (h1 pins s σ H _ _ _ I r h) fun _ s1 ⟨σ1, H1, I1, q1⟩ => ?_)
    exact h2 pins s1 σ1 H1 _ _ Q I1 rr q1
def Aip (K : PySem.W.Frag) (n : Nat) (t : TGs) : TG := fun v σ H Q => ∃ a xs, v = .ref a /\ SqT K H a xs /\ xs.length = n /\ t xs σ H Q
theorem Gu {es : List Expr} {k : Nat} {t : TGs} {n : Nat} (hc : X.calm = true) (h : PGs X es t)
    (hn : (assignEach es X.env).length = n := by rfl) (hst : (assignEach es X.env).findIdx? (·.1) = none := by rfl) : PG X (.Tuple es k pos) (Aip X.K n t) := by
  intro pins s σ H v u Q I r hw
  obtain ⟨a, xs, e1, hq, hl, hw⟩ := hw
  subst e1
  cases r
  obtain ⟨its, rv, ht, hz⟩ := I.tuple hq
  refine assign_Tuple_tuple (I.ok.hd hc) ht (by simp [hn, <- hl, rv.length]) hst fun h' hx => ?_
  have I1 : Inv X pins σ H { s with heap := h' } := I.kept (t' := s.toks) fun b o e => hx b o (Nat.ne_of_lt (Heap.lt_size e)) e
  exact h pins _ σ H xs _ Q I1 (by simpa using rv) hw
def Ak0 (to ti : TE) (t : Air) : TG := fun v σ H Q => to σ H fun o H1 => ti σ H1 fun i H2 => t o i v H2 fun H3 => Q σ H3
theorem J8 {o i : Expr} {to ti : TE} {t : Air} (ho : PE X o to) (hi : PE X i ti) (hs : Aln X t)
    (ha : ∀ v, assign (.Subscript o i pos) X.env v = (do
      let ov <- holding [v] (eval o X.env)
      let iv <- holding [v, ov] (eval i X.env)
      standAt pos
      holding [v, ov, iv] (setItem ov iv v)
      release [v, ov, iv] []) := by intro _; rfl) : PG X (.Subscript o i pos) (Ak0 to ti t) := by
  intro pins s σ H v u Q I r h
  rw [ha]
  refine wpAny_bind (wpAny_holding (thn (ho pins s σ H _ I h) fun ov s1 ⟨x, H1, I1, r1, q1⟩ => ?_))
  refine wpAny_bind (wpAny_holding (thn (hi pins s1 σ H1 _ I1 q1) fun iv s2 ⟨y, H2, I2, r2, q2⟩ => ?_))
  refine wpAny_bind (wpAny_standAt (wpAny_bind (wpAny_holding (thn (hs pins s2 σ H2 x y v ov iv u _ I2 r1 r2 r q2) fun _ s3 ⟨H3, I3, q3⟩ => ?_))))
  exact wpAny_release ⟨σ, H3, I3, q3⟩
def Agl (te : TE) (g : TG) : TS := fun D σ H => te σ H fun x H1 => g x σ H1 D.nx
theorem Gg {tg e : Expr} {te : TE} {g : TG} (he : PE X e te) (hg : PG X tg g) (hs : swapsWithSole [tg] e pos.line X.env = pure false := by rfl) (hw : swappedStores [tg] e X.env = pure none := by rfl)
    (h1 : (assignEach [tg] X.env).map (·.2) = [assign tg X.env] := by rfl) : PS X (.Assign [tg] e pos) (Agl te g) := by
  intro pins s σ H D I h
  refine wpAny_Assign_stores (thn (he pins s σ H _ I h) fun v s1 ⟨x, H1, I1, r1, q1⟩ => ?_) hs hw
  rw [h1]
  exact thn (hg pins s1 σ H1 x v _ I1 r1 q1) fun _ s2 q => q
theorem Ai {i : Nat} {x : Str} {e : Expr} {te : TE} {pos' : Pos} (hN : X.N.Nodup) (hi : X.N[i]? = some x) (hx : Loc X.env.scope x) (he : PE X e te) (hs : swapsWith e (some (.Name x pos')) pos.line X.env = pure false := by rfl) (hf : X.fn x = true \/ X.env.scope.names.lookup x = some .local := by first | exact .inl rfl | exact .inr rfl | assumption) :
    PS X (.Assign [.Name x pos'] e pos) (Agl te (R5 i)) := by
  intro pins s σ H D I h
  refine wpAny_Assign_Name (thn (he pins s σ H _ I h) fun v s1 ⟨y, H1, I1, r1, q1⟩ => ?_) hs
  exact Ou I1 hN hi hx r1 (fun s2 I2 => ⟨_, H1, I2, q1⟩) hf
def Ala (i j : Nat) (ta : TA) : TS := fun D σ H => ta σ H fun vs H1 => ∃ v w, vs = [v, w] /\ D.nx ((σ.set i (some v)).set j (some w)) H1
theorem Ks {i j : Nat} {x y : Str} {a b : Expr} {ta : TA} {px py pt : Pos} {kt k2 pt2} (hc : X.calm = true) (hN : X.N.Nodup) (hi : X.N[i]? = some x) (hj : X.N[j]? = some y) (hij : i ≠ j)
    (hx : X.env.scope.names.lookup x = some .local) (hy : X.env.scope.names.lookup y = some .local) (ha : PA X [a, b] ta)
    (hw : swappedStores [.Tuple [.Name x px, .Name y py] kt pt] (.Tuple [a, b] k2 pt2) X.env = pure (some [x, y]))
    (hs : swapsWithSole [.Tuple [.Name x px, .Name y py] kt pt] (.Tuple [a, b] k2 pt2) pos.line X.env = pure false := by rfl) :
    PS X (.Assign [.Tuple [.Name x px, .Name y py] kt pt] (.Tuple [a, b] k2 pt2) pos) (Ala i j ta) := by
  intro pins s σ H D I h
  rw [exec_Assign_arm]
  refine wpAny_bind (wpAny_standAt ?_)
  rw [hs]
  refine wpAny_bind (wpAny_pure ?_)
  rw [if_neg (by decide)]
  refine wpAny_bind (Tuple_ (thn (ha _ pins s σ H _ I h) fun us s1 ⟨vs, H1, I1, r1, q1⟩ => ?_))
  obtain ⟨v, w, e1, q1⟩ := q1
  subst e1
  obtain ⟨u1, u2, rfl, rv, rw'⟩ : ∃ u1 u2, us = [u1, u2] /\ RelV v u1 /\ RelV w u2 := by
    cases r1 with
    | cons p q =>
      cases q with
      | cons p' q' =>
        cases q'
        exact ⟨_, _, rfl, p, p'⟩
  refine wpAny_newObj_type ?_ (by show 2 <= sizeLine; decide)
  have I2 : Inv X pins σ H1 { s1 with heap := s1.heap.push { cls := .type "tuple", data := .seq [u1, u2].toArray } } := I1.kept (t' := s1.toks) fun b o e => Heap.get?_push_of_some _ e
  rw [hw]
  refine wpAny_bind (wpAny_pure ?_)
  show wpAny (model X.prog X.w) X.A (do rule "assign.swapped-stores"; let items <- unpackItems (.ref s1.heap.objs.size) 2 none; assignInOrder [fun v => bindName X.env y v, fun v => bindName X.env x v] items.reverse; pure Flow.next) _ _ _
  refine wpAny_bind (wpAny_rule (wpAny_bind (unpackItems_tuple (items := #[u1, u2]) (I.ok.hd hc) (IsTup.new s1.heap _) fun h' hx' => ?_)))
  have I3 := I2.kept (h' := h') (t' := s1.toks) fun b o e => hx' b o (Nat.ne_of_lt (Heap.lt_size e)) e
  show wpAny _ _ (assignInOrder [fun v => bindName X.env y v, fun v => bindName X.env x v] [u2, u1] >>= fun _ => pure Flow.next) _ _ _
  refine wpAny_bind (assignInOrder_cons (wpAny_bindName (Ou I3 hN hj (.inl hy) rw' (fun s2 I4 => ?_) (.inr hy))))
  refine assignInOrder_cons (wpAny_bindName (Ou I4 hN hi (.inl hx) rv (fun s3 I5 => assignInOrder_nil (wpAny_pure ?_)) (.inr hx)))
  rw [List.set_comm _ _ (Ne.symm hij)] at I5
  exact ⟨_, H1, I5, q1⟩
end
section
variable {X : Cx} {pos : Pos}
def Wa (c : TT) (tb : TS) : TS := fun D σ H => ∃ W : Nat -> St -> Hp -> Prop, (∃ m, W m σ H) /\ ∀ m σ H, W m σ H ->
  c σ H fun b H1 => if b = true then ∃ N : St -> Hp -> Prop, (∀ σ' H', N σ' H' -> ∃ m', m' < m /\ W m' σ' H') /\ tb { D with nx := N, ct := N, bk := D.nx } σ H1 else D.nx σ H1
theorem Fp {c : Expr} {body : List Stmt} {tc : TT} {tb : TS} (hp : PassesOwn (model X.prog X.w) X.A X.env X.xe) (hc : PT X c tc) (hb : PSs X body tb) : PS X (.While c body [] pos) (Wa tc tb) := by
  intro pins s σ H D I h
  obtain ⟨W, ⟨m0, w0⟩, turn⟩ := h
  refine wpAny_While (codeAny_whileLoop (fun n s' => ∃ σ' H', Inv X pins σ' H' s' /\ W n σ' H') ?_ m0 ⟨σ, H, I, w0⟩)
  rintro n s1 ⟨σ1, H1, I1, w1⟩
  refine wpAny_passesOwn hp (thn (hc pins s1 σ1 H1 _ I1 (turn n σ1 H1 w1)) fun b s2 ⟨H2, I2, q2⟩ => ?_)
  cases b with
  | true =>
    obtain ⟨N, hN, q2⟩ := q2
    rw [if_pos rfl]
    refine wpAny_passesOwn hp (thn (hb pins s2 σ1 H2 _ I2 q2) fun f s3 q3 => ?_)
    cases f with
    | next =>
      obtain ⟨σ3, H3, I3, n3⟩ := q3
      obtain ⟨m', hm, w3⟩ := hN σ3 H3 n3
      exact ⟨m', hm, σ3, H3, I3, w3⟩
    | cont =>
      obtain ⟨σ3, H3, I3, n3⟩ := q3
      obtain ⟨m', hm, w3⟩ := hN σ3 H3 n3
      exact ⟨m', hm, σ3, H3, I3, w3⟩
    | brk => exact q3
    | ret v => exact q3
  | false =>
    rw [if_neg Bool.false_ne_true]
    exact wpAny_execs_nil ⟨σ1, H2, I2, q2⟩
end
structure It where
  go : Nat -> Hp -> Prop
  yld : Nat -> Hp -> V -> Hp -> Prop
  stop : Nat -> Hp -> Prop
def Vm (X : Cx) (pins : List (Addr × Obj)) (H : Hp) (b : Addr) : Prop :=
  H b = none /\ b ≠ X.env.locals /\ b ∉ X.fs /\ (b ∈ X.ex \/ X.s₀.heap.objs.size <= b) /\ (∀ x c, X.env.cells.lookup x = some c -> c ≠ b) /\ ∀ p ∈ X.pn ++ pins, p.1 ≠ b
theorem Inv.fpOk {X : Cx} {pins : List (Addr × Obj)} {σ : St} {H H' : Hp} {s : Shared} {b : Addr} (I : Inv X pins σ H s) (hb : s.heap.objs.size <= b) (hn : H' b = none) : Vm X pins H' b := by
  refine ⟨hn, Nat.ne_of_gt (Nat.lt_of_lt_of_le I.lt hb), I.nofs hb, .inr (Nat.le_trans I.sz hb), fun x c e z => ?_, fun p hp z => ?_⟩
  . obtain ⟨v, q⟩ := I.cell x c e
    exact absurd (Nat.lt_of_lt_of_le q.lt (by rw [z]; exact hb)) (Nat.lt_irrefl _)
  . exact absurd (Nat.lt_of_lt_of_le (Heap.lt_size (I.pin p hp).1) (by rw [z]; exact hb)) (Nat.lt_irrefl _)
structure Turn (P : Program) (w : World) (K : PySem.W.Frag) (tg : Expr) (J : It) (fp : List Addr) (it : Addr) (tn : Nat -> Heap -> Prop) : Prop where
  mem : it ∈ fp
  obj : ∀ i h, tn i h -> ∀ b ∈ fp, ∃ o, h.get? b = some o /\ ∀ v, o.data ≠ .cell v
  keep : ∀ i h h', tn i h -> (∀ b ∈ fp, ∀ o, h.get? b = some o -> h'.get? b = some o) -> tn i h'
  item : ∀ (X : Cx), X.prog = P -> X.w = w -> X.K = K -> X.calm = true -> ∀ (i : Nat) (pins : List (Addr × Obj)) (s : Shared) (σ : St) (H : Hp) (E : Value -> Shared -> Prop), Inv X pins σ H s -> (∀ b ∈ fp, Vm X pins H b) -> tn i s.heap -> J.go i H ->
    wpAny (model P w) X.A (pyNext (.ref it)) (fun r s1 => ∃ u, r = some u /\
      wpAny (model P w) X.A (letOwnedTupleGo tg (.ref it) u) (fun _ s2 => ∃ x H', Inv X pins σ H' s2 /\ RelV x u /\ J.yld i H x H' /\ tn (i + 1) s2.heap /\ ∀ b ∈ fp, H' b = none) E s1) E s
  done : ∀ (X : Cx), X.prog = P -> X.w = w -> X.K = K -> X.calm = true -> ∀ (i : Nat) (pins : List (Addr × Obj)) (s : Shared) (σ : St) (H : Hp) (E : Value -> Shared -> Prop), Inv X pins σ H s -> (∀ b ∈ fp, Vm X pins H b) -> tn i s.heap -> J.stop i H ->
    wpAny (model P w) X.A (pyNext (.ref it)) (fun r s1 => r = none /\ Inv X pins σ H s1) E s
  self : ∀ (A : Around) (i : Nat) (s : Shared) (Q : Value -> Shared -> Prop) (E : Value -> Shared -> Prop), tn i s.heap -> Q (.ref it) s -> wpAny (model P w) A (pyIter (.ref it)) Q E s
abbrev TI := St -> Hp -> (It -> Hp -> Prop) -> Prop
def PIE (X : Cx) (pins : List (Addr × Obj)) (σ : St) (tg : Expr) (R : It -> Hp -> Prop) (itv : Value) (s2 : Shared) : Prop :=
  ∃ (it : Addr) (fp : List Addr) (tn : Nat -> Heap -> Prop) (J : It) (H' : Hp), itv = .ref it /\ Inv X pins σ H' s2 /\ Turn X.prog X.w X.K tg J fp it tn /\ tn 0 s2.heap /\ (∀ b ∈ fp, Vm X pins H' b) /\ R J H'
def PI (X : Cx) (tg iter : Expr) (wi : TI) : Prop :=
  ∀ (pins : List (Addr × Obj)) (s : Shared) (σ : St) (H : Hp) (R : It -> Hp -> Prop), Inv X pins σ H s -> wi σ H R ->
    wpAny (model X.prog X.w) X.A (eval iter X.env) (fun v s1 => wpAny (model X.prog X.w) X.A (pyIter v) (PIE X pins σ tg R) X.xe s1) X.xe s
theorem Acp {M : Model} {A : Around} {E : Value -> Shared -> Prop} {s : Shared} {tg : Expr} {it : Addr} {u : Value} {o : Obj} {n : String} {vs : Array Value} {Q : Unit -> Shared -> Prop} (ho : s.heap.get? it = some o) (hc : o.cls = .type n) (hd : o.data = .fields vs)
    (hn : ["enumerate", "zip", "dict_itemiterator", "dict_reverseitemiterator", "odict_iterator", "itertools.zip_longest", "itertools.pairwise"].contains n = false) (hQ : Q () s) : wpAny M A (letOwnedTupleGo tg (.ref it) u) Q E s := by
  unfold letOwnedTupleGo
  cases tg <;> first
    | exact wpAny_pure hQ
    | (cases u <;> first
        | exact wpAny_pure hQ
        | (refine wpAny_bind (wpAny_load ho ?_)
           rw [hc, hd]
           show wpAny M A (if (["enumerate", "zip", "dict_itemiterator", "dict_reverseitemiterator", "odict_iterator", "itertools.zip_longest", "itertools.pairwise"].contains n && vs[0]? == some (rawInt _)) = true then _ else _) Q E s
           rw [if_neg (by intro h; rw [hn, Bool.false_and] at h; cases h)]
           exact wpAny_pure hQ))
def Itl (K : PySem.W.Frag) (a : Addr) : It :=
  ⟨fun i H => ∃ xs x, SqL K H a xs /\ xs[i]? = some x, fun i H x H' => H' = H /\ ∀ xs, SqL K H a xs -> xs[i]? = some x, fun i H => ∃ xs, SqL K H a xs /\ xs.length <= i⟩
def Itt (K : PySem.W.Frag) (a : Addr) : It :=
  ⟨fun i H => ∃ xs x, SqT K H a xs /\ xs[i]? = some x, fun i H x H' => H' = H /\ ∀ xs, SqT K H a xs -> xs[i]? = some x, fun i H => ∃ xs, SqT K H a xs /\ xs.length <= i⟩
def Itr (lo : Int) (n : Nat) : It := ⟨fun i _ => i < n, fun i H x H' => H' = H /\ x = .int (lo + i), fun i _ => n <= i⟩
theorem Vl {P : Program} {w : World} {K : PySem.W.Frag} {tg : Expr} (a it : Addr) : Turn P w K tg (Itl K a) [it] it (fun i h => h.IsListIter it a i) where
  mem := by simp
  obj := fun i h st b hb => by
    have e : b = it := by simpa using hb
    subst e
    obtain ⟨o, e, c, d⟩ := st
    exact ⟨o, e, fun v z => by rw [d] at z; cases z⟩
  keep := fun i h h' st k => st.at fun o e => k it (by simp) o e
  item := by
    intro X hP hw hK hc i pins s σ H E I hf st hg
    subst hP hw hK
    obtain ⟨xs, x, hq, hx⟩ := hg
    obtain ⟨its, rv, p, hz⟩ := I.list hq
    obtain ⟨u, hu, ru⟩ := rv.get hx
    obtain ⟨f0, f1, f2, f3, f4, f5⟩ := hf it (by simp)
    refine wpAny_pyNext_list_item st p.isList (x := u) (by simpa using hu) fun h' st' sb => ?_
    have I1 : Inv X pins σ H { s with heap := h' } := I.turned (t' := s.toks) (fun b o hb e => (sb.2 b hb).trans e) f0 f1 f3 f4 f5
    obtain ⟨o, e, c, d⟩ := id st'
    exact ⟨u, rfl, Acp (s := { s with heap := h' }) e c d (by decide) ⟨x, H, I1, ru, ⟨rfl, fun ys hy => by rw [I.list_inj hy hq]; exact hx⟩, st', fun b hb => (hf b hb).1⟩⟩
  done := by
    intro X hP hw hK hc i pins s σ H E I hf st hg
    subst hP hw hK
    obtain ⟨xs, hq, hx⟩ := hg
    obtain ⟨its, rv, p, hz⟩ := I.list hq
    obtain ⟨f0, f1, f2, f3, f4, f5⟩ := hf it (by simp)
    have hl := rv.length
    exact wpAny_pyNext_list_end (I.ok.hd hc) st p.isList (by simp; omega) fun h' eb => ⟨rfl, I.turned (t' := s.toks) (fun b o hb e => eb b o hb e) f0 f1 f3 f4 f5⟩
  self := fun _ _ _ _ _ st h => wpAny_pyIter_listiter st h
theorem Te {P : Program} {w : World} {K : PySem.W.Frag} {tg : Expr} (a it : Addr) : Turn P w K tg (Itt K a) [it] it (fun i h => h.IsTupleIter it a i) where
  mem := by simp
  obj := fun i h st b hb => by
    have e : b = it := by simpa using hb
    subst e
    obtain ⟨o, e, c, d⟩ := st
    exact ⟨o, e, fun v z => by rw [d] at z; cases z⟩
  keep := fun i h h' st k => st.at fun o e => k it (by simp) o e
  item := by
    intro X hP hw hK hc i pins s σ H E I hf st hg
    subst hP hw hK
    obtain ⟨xs, x, hq, hx⟩ := hg
    obtain ⟨its, rv, p, hz⟩ := I.tuple hq
    obtain ⟨u, hu, ru⟩ := rv.get hx
    obtain ⟨f0, f1, f2, f3, f4, f5⟩ := hf it (by simp)
    refine wpAny_pyNext_tuple_item st (show s.heap.IsTuple a its.toArray from p) (x := u) (by simpa using hu) fun h' st' sb => ?_
    have I1 : Inv X pins σ H { s with heap := h' } := I.turned (t' := s.toks) (fun b o hb e => (sb.2 b hb).trans e) f0 f1 f3 f4 f5
    obtain ⟨o, e, c, d⟩ := id st'
    exact ⟨u, rfl, Acp (s := { s with heap := h' }) e c d (by decide) ⟨x, H, I1, ru, ⟨rfl, fun ys hy => by rw [I.tuple_inj hy hq]; exact hx⟩, st', fun b hb => (hf b hb).1⟩⟩
  done := by
    intro X hP hw hK hc i pins s σ H E I hf st hg
    subst hP hw hK
    obtain ⟨xs, hq, hx⟩ := hg
    obtain ⟨its, rv, p, hz⟩ := I.tuple hq
    obtain ⟨f0, f1, f2, f3, f4, f5⟩ := hf it (by simp)
    have hl := rv.length
    exact wpAny_pyNext_tuple_end (I.ok.hd hc) st (show s.heap.IsTuple a its.toArray from p) (by simp; omega) fun h' eb => ⟨rfl, I.turned (t' := s.toks) (fun b o hb e => eb b o hb e) f0 f1 f3 f4 f5⟩
  self := fun _ _ _ _ _ st h => wpAny_pyIter_tupleiter st h
theorem Zt {P : Program} {w : World} {K : PySem.W.Frag} {tg : Expr} (it : Addr) (lo : Int) (n : Nat) : Turn P w K tg (Itr lo n) [it] it (fun i h => IsRangeIter h it (lo + (i : Nat) * 1) ((n : Int) - (i : Nat)) 1) where
  mem := by simp
  obj := fun i h st b hb => by
    have e : b = it := by simpa using hb
    subst e
    exact ⟨_, st, fun v z => by
      have z' : Data.fields _ = Data.cell v := z
      cases z'⟩
  keep := fun i h h' st k => k it (by simp) _ st
  item := by
    intro X hP hw hK hc i pins s σ H E I hf st hg
    subst hP hw hK
    obtain ⟨f0, f1, f2, f3, f4, f5⟩ := hf it (by simp)
    have W := Walks.range (prog := X.prog) (w := X.w) (I.ok.hd hc) it lo 1 n
    refine W.item i s _ _ hg st fun v h' tk hv st' kk => ?_
    obtain ⟨t, rfl⟩ := hv
    have I1 : Inv X pins σ H { s with heap := h', toks := tk } := I.turned (fun b o hb e => kk b o (by simpa using hb) e) f0 f1 f3 f4 f5
    refine ⟨_, rfl, Acp (s := { s with heap := h', toks := tk }) (n := "range_iterator") st' rfl rfl (by decide) ⟨.int (lo + i), H, I1, ⟨t, ?_⟩, ⟨rfl, rfl⟩, st', fun b hb => (hf b hb).1⟩⟩
    rw [Int.mul_one]
  done := by
    intro X hP hw hK hc i pins s σ H E I hf st hg
    subst hP hw hK
    obtain ⟨f0, f1, f2, f3, f4, f5⟩ := hf it (by simp)
    exact wpAny_pyNext_range_end (I.ok.hd hc) st (by have : n <= i := hg; omega) fun h' eb => ⟨rfl, I.turned (t' := s.toks) (fun b o hb e => eb b o hb e) f0 f1 f3 f4 f5⟩
  self := fun _ _ _ _ _ st h => wpAny_pyIter_rangeiter st h
end L2
namespace L2
open PySem PySem.Spec PyProof.Rows
section
variable {X : Cx} {tg : Expr}
def Agn (K : PySem.W.Frag) (tl : TE) : TI := fun σ H R => tl σ H fun x H1 => ∃ a, x = .ref a /\ (∃ xs, SqL K H1 a xs) /\ R (Itl K a) H1
def Alk (K : PySem.W.Frag) (tl : TE) : TI := fun σ H R => tl σ H fun x H1 => ∃ a, x = .ref a /\ (∃ xs, SqT K H1 a xs) /\ R (Itt K a) H1
theorem Rv {l : Expr} {tl : TE} (hl : PE X l tl) : PI X tg l (Agn X.K tl) := by
  intro pins s σ H R I h
  refine thn (hl pins s σ H _ I h) fun v s1 ⟨x, H1, I1, r1, q1⟩ => ?_
  obtain ⟨a, e, ⟨xs, hq⟩, q⟩ := q1
  subst e
  cases r1
  obtain ⟨its, rv, p, hz⟩ := I1.list hq
  refine wpAny_pyIter_list p.isList ?_
  refine ⟨s1.heap.objs.size, [s1.heap.objs.size], _, _, H1, rfl, I1.kept (t' := s1.toks) fun b o e => Heap.get?_push_of_some _ e, Vl a _, ⟨_, Heap.get?_push_size _ rfl, rfl, rfl⟩, fun b hb => ?_, q⟩
  have e : b = s1.heap.objs.size := by simpa using hb
  subst e
  exact I1.fpOk (Nat.le_refl _) (I1.hok.fresh (Nat.le_refl _))
theorem Le {l : Expr} {tl : TE} (hl : PE X l tl) : PI X tg l (Alk X.K tl) := by
  intro pins s σ H R I h
  refine thn (hl pins s σ H _ I h) fun v s1 ⟨x, H1, I1, r1, q1⟩ => ?_
  obtain ⟨a, e, ⟨xs, hq⟩, q⟩ := q1
  subst e
  cases r1
  obtain ⟨its, rv, p, hz⟩ := I1.tuple hq
  refine wpAny_pyIter_tuple (show s1.heap.IsTuple a its.toArray from p) ?_
  refine ⟨s1.heap.objs.size, [s1.heap.objs.size], _, _, H1, rfl, I1.kept (t' := s1.toks) fun b o e => Heap.get?_push_of_some _ e, Te a _, ⟨_, Heap.get?_push_size _ rfl, rfl, rfl⟩, fun b hb => ?_, q⟩
  have e : b = s1.heap.objs.size := by simpa using hb
  subst e
  exact I1.fpOk (Nat.le_refl _) (I1.hok.fresh (Nat.le_refl _))
theorem X7 {pins : List (Addr × Obj)} {σ : St} {H : Hp} {s : Shared} {R : It -> Hp -> Prop} {E : Value -> Shared -> Prop} {lo hi : Int} {t u v : Tok} {tk : Nat} (I : Inv X pins σ H s) (h1 : -(2 ^ 62) <= lo) (h2 : lo < 2 ^ 62) (h3 : -(2 ^ 62) <= hi) (h4 : hi < 2 ^ 62)
    (q : R (Itr lo (hi - lo).toNat) H) : wpAny (model X.prog X.w) X.A (pyIter (.ref s.heap.objs.size)) (PIE X pins σ tg R) E { s with heap := s.heap.push { cls := .type "range", data := .fields #[.int lo t, .int hi u, .int 1 v] }, toks := tk } := by
  refine wpAny_pyIter_range (IsRange.new ..) (small_one h1 h2 h3 h4) ?_
  have I1 : Inv X pins σ H { s with heap := s.heap.push { cls := .type "range", data := .fields #[.int lo t, .int hi u, .int 1 v] }, toks := tk } := I.kept fun b o e => Heap.get?_push_of_some _ e
  refine ⟨(s.heap.push { cls := .type "range", data := .fields #[.int lo t, .int hi u, .int 1 v] }).objs.size, [(s.heap.push { cls := .type "range", data := .fields #[.int lo t, .int hi u, .int 1 v] }).objs.size], _, _, H, rfl,
    I1.kept (t' := tk) fun b o e => Heap.get?_push_of_some _ e, Zt _ lo (hi - lo).toNat, ?_, fun b hb => ?_, q⟩
  . have e1 : lo + ((0 : Nat) : Int) * 1 = lo := by simp
    have e2 : (((hi - lo).toNat : Nat) : Int) - ((0 : Nat) : Int) = Builtin.Range.rangeSize lo hi 1 := by rw [rangeSize_one]; split <;> omega
    show IsRangeIter _ _ (lo + ((0 : Nat) : Int) * 1) ((((hi - lo).toNat : Nat) : Int) - ((0 : Nat) : Int)) 1
    rw [e1, e2]
    exact Heap.get?_push_size _ rfl
  . have e : b = (s.heap.push { cls := .type "range", data := .fields #[.int lo t, .int hi u, .int 1 v] }).objs.size := by simpa using hb
    subst e
    exact I1.fpOk (Nat.le_refl _) (I1.hok.fresh (Nat.le_refl _))
def Ah0 (ta : TA) : TI := fun σ H R => ta σ H fun vs H1 => ∃ j : Int, vs = [.int j] /\ -(2 ^ 62) <= j /\ j < 2 ^ 62 /\ R (Itr 0 j.toNat) H1
def Aha (ta : TA) : TI := fun σ H R => ta σ H fun vs H1 => ∃ i j : Int, vs = [.int i, .int j] /\ (-(2 ^ 62) <= i /\ i < 2 ^ 62 /\ -(2 ^ 62) <= j /\ j < 2 ^ 62) /\ R (Itr i (j - i).toNat) H1
theorem Gk {a : Expr} {ta : TA} {p pos : Pos} (hg : Gl X "range") (hm : X.mg "range" = none) (ha : PA X [a] ta) (hs : starEach [a] X.env = [(false, eval a X.env)] := by rfl) : PI X tg (.Call (.Name "range" p) [a] [] pos) (Ah0 ta) := by
  intro pins s σ H R I h
  refine Call_ (Mh I hg hm boot_range (PyProof.Rows.callWith_type1 (thn (ha pos pins s σ H _ I h) fun us s1 ⟨vs, H1, I1, r1, q1⟩ => ?_) hs rfl))
  obtain ⟨j, e, q1, q2, q⟩ := q1
  subst e
  cases r1 with
  | cons r rr =>
    cases rr
    obtain ⟨t, rfl⟩ := r
    exact call_range_1 (X7 I1 (by omega) (by omega) q1 q2 (by simpa using q))
theorem Kf {a b : Expr} {ta : TA} {p pos : Pos} (hg : Gl X "range") (hm : X.mg "range" = none) (ha : PA X [a, b] ta) (hs : starEach [a, b] X.env = [(false, eval a X.env), (false, eval b X.env)] := by rfl) (hs2 : starEach [b] X.env = [(false, eval b X.env)] := by rfl) :
    PI X tg (.Call (.Name "range" p) [a, b] [] pos) (Aha ta) := by
  intro pins s σ H R I h
  refine Call_ (Mh I hg hm boot_range (PyProof.Rows.callWith_type1 (thn (ha pos pins s σ H _ I h) fun us s1 ⟨vs, H1, I1, r1, q1⟩ => ?_) (by rw [hs, hs2]) (by rw [hs2]; rfl)))
  obtain ⟨i, j, e, ⟨q1, q2, q3, q4⟩, q⟩ := q1
  subst e
  cases r1 with
  | cons r rr =>
    cases rr with
    | cons r' rr =>
      cases rr
      obtain ⟨t, rfl⟩ := r
      obtain ⟨t', rfl⟩ := r'
      exact call_range_2 (X7 I1 q1 q2 q3 q4 q)
def Alp (wi : TI) (g : TG) (tb : TS) : TS := fun D σ H => wi σ H fun J H1 => ∃ W : Nat -> Nat -> St -> Hp -> Prop, (∃ m, W 0 m σ H1) /\ ∀ i m σ H, W i m σ H ->
  (J.stop i H /\ D.nx σ H) \/ (J.go i H /\ ∃ N : St -> Hp -> Prop, (∀ σ' H', N σ' H' -> ∃ m', m' < m /\ W (i + 1) m' σ' H') /\ ∀ x H', J.yld i H x H' -> g x σ H' fun σ2 H2 => tb { D with nx := N, ct := N, bk := D.nx } σ2 H2)
def V4 (fp : List Addr) (h : Heap) : List (Addr × Obj) := fp.filterMap fun b => (h.get? b).map fun o => (b, o)
theorem Jl {fp : List Addr} {h : Heap} {b : Addr} {o : Obj} (hb : b ∈ fp) (e : h.get? b = some o) : (b, o) ∈ V4 fp h := List.mem_filterMap.mpr ⟨b, hb, by rw [e]; rfl⟩
theorem Acj {fp : List Addr} {h : Heap} {p : Addr × Obj} (hp : p ∈ V4 fp h) : p.1 ∈ fp /\ h.get? p.1 = some p.2 := by
  obtain ⟨b, hb, e⟩ := List.mem_filterMap.mp hp
  cases q : h.get? b with
  | none => rw [q] at e; cases e
  | some o =>
    rw [q] at e
    have e' : (b, o) = p := Option.some.inj e
    subst e'
    exact ⟨hb, q⟩
theorem Inv.pinned {pins : List (Addr × Obj)} {σ : St} {H : Hp} {s : Shared} {fp : List Addr} (I : Inv X pins σ H s) (hf : ∀ b ∈ fp, Vm X pins H b) (ho : ∀ b ∈ fp, ∃ o, s.heap.get? b = some o /\ ∀ v, o.data ≠ .cell v) : Inv X (pins ++ V4 fp s.heap) σ H s :=
  I.pins_of fun p hp => (List.mem_append.mp hp).elim (fun z => I.pin p (List.mem_append_right _ z)) fun z => by
    obtain ⟨hb, e⟩ := Acj z
    obtain ⟨f0, f1, f2, _⟩ := hf p.1 hb
    obtain ⟨o, e', d⟩ := ho p.1 hb
    rw [e] at e'; cases e'
    exact ⟨e, f0, f1, f2, d⟩
theorem Inv.unpinned {pins pl : List (Addr × Obj)} {σ : St} {H : Hp} {s : Shared} (I : Inv X (pins ++ pl) σ H s) : Inv X pins σ H s := I.pins_of fun p hp => I.pin p (List.mem_append_right _ (List.mem_append_left _ hp))
theorem Du {iter : Expr} {body : List Stmt} {wi : TI} {g : TG} {tb : TS} {pos : Pos} (hp : PassesOwn (model X.prog X.w) X.A X.env X.xe) (hc : X.calm = true) (hi : PI X tg iter wi) (hg : PG X tg g) (hb : PSs X body tb)
    (hs : ∀ x, foldedSetIterable iter X.env x = pure x := by intro _; rfl) : PS X (.For tg iter body [] pos) (Alp wi g tb) := by
  intro pins s σ H D I h
  refine wpAny_For (thn (hi pins s σ H _ I h) fun v s1 h1 => thn h1 fun itv s2 h2 => ?_) hs
  obtain ⟨it, fp, tn, J, H2, e, I2, T, st2, f2, W, ⟨m0, w0⟩, turn⟩ := h2
  subst e
  have stat : ∀ {H' : Hp}, (∀ b ∈ fp, H' b = none) -> ∀ b ∈ fp, Vm X pins H' b := fun hn b hb => ⟨hn b hb, (f2 b hb).2⟩
  refine codeAny_forLoop_any (fun n s' => ∃ i σ' H', Inv X pins σ' H' s' /\ tn i s'.heap /\ (∀ b ∈ fp, H' b = none) /\ W i n σ' H') ?_ m0 ⟨0, σ, H2, I2, st2, fun b hb => (f2 b hb).1, w0⟩
  rintro n s3 ⟨i, σ3, H3, I3, st3, fr3, w3⟩
  rcases turn i n σ3 H3 w3 with ⟨stop, qn⟩ | ⟨go, N, hN, step⟩
  . refine wpAny_passesOwn hp (thn (T.done X rfl rfl rfl hc i pins s3 σ3 H3 X.xe I3 (stat fr3) st3 stop) fun r s4 ⟨hr, I4⟩ => ?_)
    subst hr
    exact wpAny_execs_nil ⟨σ3, H3, I4, qn⟩
  . refine wpAny_passesOwn hp (thn (T.item X rfl rfl rfl hc i pins s3 σ3 H3 X.xe I3 (stat fr3) st3 go) fun r s4 ⟨u, hr, h4⟩ => ?_)
    subst hr
    refine wpAny_passesOwn hp (thn h4 fun _ s5 ⟨x, H5, I5, r5, y5, st5, fr5⟩ => ?_)
    have I5' := I5.pinned (stat fr5) (T.obj _ _ st5)
    refine wpAny_passesOwn hp (thn (hg _ s5 σ3 H5 x u _ I5' r5 (step x H5 y5)) fun _ s6 ⟨σ6, H6, I6, q6⟩ => ?_)
    refine wpAny_passesOwn hp (thn (hb _ s6 σ6 H6 _ I6 q6) fun f s7 q7 => ?_)
    have again : ∀ {σ7 : St} {H7 : Hp}, Inv X (pins ++ V4 fp s5.heap) σ7 H7 s7 -> N σ7 H7 -> ∃ m, m < n /\ ∃ i σ' H', Inv X pins σ' H' s7 /\ tn i s7.heap /\ (∀ b ∈ fp, H' b = none) /\ W i m σ' H' := fun {σ7 H7} I7 n7 => by
      obtain ⟨m', hm, w7⟩ := hN σ7 H7 n7
      refine ⟨m', hm, i + 1, σ7, H7, I7.unpinned, T.keep _ _ _ st5 fun b hb o e => (I7.pin (b, o) (List.mem_append_right _ (List.mem_append_right _ (Jl hb e)))).1, fun b hb => ?_, w7⟩
      obtain ⟨o, e, d⟩ := T.obj _ _ st5 b hb
      exact (I7.pin (b, o) (List.mem_append_right _ (List.mem_append_right _ (Jl hb e)))).2.1
    cases f with
    | next => obtain ⟨σ7, H7, I7, n7⟩ := q7; exact again I7 n7
    | cont => obtain ⟨σ7, H7, I7, n7⟩ := q7; exact again I7 n7
    | brk => obtain ⟨σ7, H7, I7, q7⟩ := q7; exact ⟨σ7, H7, I7.unpinned, q7⟩
    | ret v => obtain ⟨x7, σ7, H7, I7, r7, q7⟩ := q7; exact ⟨x7, σ7, H7, I7.unpinned, r7, q7⟩
end
theorem Ae7 {c : TT} {tb : TS} {D : Ends} {σ : St} {H : Hp} (Pv : St -> Hp -> Prop) (μ : St -> Hp -> Nat) (h0 : Pv σ H)
    (hs : ∀ σ H, Pv σ H -> c σ H fun b H1 => if b = true then tb { D with nx := fun σ' H' => Pv σ' H' /\ μ σ' H' < μ σ H, ct := fun σ' H' => Pv σ' H' /\ μ σ' H' < μ σ H, bk := D.nx } σ H1 else D.nx σ H1)
    (mono : ∀ σ H Q Q', (∀ b H1, Q b H1 -> Q' b H1) -> c σ H Q -> c σ H Q') : Wa c tb D σ H := by
  refine ⟨fun m σ H => m = μ σ H /\ Pv σ H, ⟨_, rfl, h0⟩, ?_⟩
  rintro m σ H ⟨rfl, p⟩
  refine mono σ H _ _ (fun b H1 q => ?_) (hs σ H p)
  cases b with
  | true => exact ⟨_, fun σ' H' ⟨p', l⟩ => ⟨_, l, rfl, p'⟩, q⟩
  | false => exact q
end L2
namespace L2
open PySem PySem.Spec PyProof.Rows
abbrev R2 := V -> V -> Hp -> VK -> Prop
def OpR (X : Cx) (f : Value -> Value -> Sem Value) (r : R2) : Prop :=
  ∀ (pins : List (Addr × Obj)) (s : Shared) (σ : St) (H : Hp) (x y : V) (v u : Value) (Q : VK), Inv X pins σ H s -> RelV x v -> RelV y u -> r x y H Q ->
    wpAny (model X.prog X.w) X.A (f v u) (EP X pins σ Q) X.xe s
def UnR (X : Cx) (f : Value -> Sem Value) (r : V -> Hp -> VK -> Prop) : Prop :=
  ∀ (pins : List (Addr × Obj)) (s : Shared) (σ : St) (H : Hp) (x : V) (v : Value) (Q : VK), Inv X pins σ H s -> RelV x v -> r x H Q ->
    wpAny (model X.prog X.w) X.A (f v) (EP X pins σ Q) X.xe s
def Ji (X : Cx) (f : Value) (r : List V -> Hp -> VK -> Prop) : Prop :=
  ∀ (pins : List (Addr × Obj)) (s : Shared) (σ : St) (H : Hp) (xs : List V) (us : List Value) (Q : VK), Inv X pins σ H s -> Vals xs us -> r xs H Q ->
    wpAny (model X.prog X.w) X.A (call f us) (EP X pins σ Q) X.xe s
def tOp (r : R2) (ta tb : TE) : TE := fun σ H Q => ta σ H fun x H1 => tb σ H1 fun y H2 => r x y H2 Q
def tUn (r : V -> Hp -> VK -> Prop) (ta : TE) : TE := fun σ H Q => ta σ H fun x H1 => r x H1 Q
def rI (C : Int -> Int -> Prop) (g : Int -> Int -> V) : R2 := fun x y H Q => ∃ i j, x = .int i /\ y = .int j /\ C i j /\ Q (g i j) H
def rI0 (g : Int -> Int -> V) : R2 := fun x y H Q => ∃ i j, x = .int i /\ y = .int j /\ Q (g i j) H
def rU (g : Int -> V) : V -> Hp -> VK -> Prop := fun x H Q => ∃ i, x = .int i /\ Q (g i) H
section
variable {X : Cx} {a b c : Expr} {ta tb tc : TE} {pos : Pos}
theorem Akl (ha : PE X a ta) (hb : PE X b tb) {pins : List (Addr × Obj)} {s : Shared} {σ : St} {H : Hp} {R : V -> V -> Hp -> Prop} (I : Inv X pins σ H s)
    (h : ta σ H fun x H1 => tb σ H1 fun y H2 => R x y H2) {Q : Value -> Shared -> Prop} {f : Value -> Value -> Sem Value}
    (hf : ∀ v u s2 x y H2, Inv X pins σ H2 s2 -> RelV x v -> RelV y u -> R x y H2 -> wpAny (model X.prog X.w) X.A (f v u) Q X.xe s2) :
    wpAny (model X.prog X.w) X.A (eval a X.env) (fun v s₁ => wpAny (model X.prog X.w) X.A (eval b X.env) (fun u s₂ => wpAny (model X.prog X.w) X.A (f v u) Q X.xe s₂) X.xe s₁) X.xe s := by
  refine thn (ha pins s σ H _ I h) fun v s1 ⟨x, H1, I1, r1, q1⟩ => ?_
  refine thn (hb pins s1 σ H1 _ I1 q1) fun u s2 ⟨y, H2, I2, r2, q2⟩ => ?_
  exact hf v u s2 x y H2 I2 r1 r2 q2
theorem Ah {op : Operator} {r : R2} (ho : OpR X (binaryOp op) r) (ha : PE X a ta) (hb : PE X b tb) : PE X (.BinOp a op b pos) (tOp r ta tb) := by
  intro pins s σ H Q I h
  exact wpAny_BinOp (Akl ha hb I h fun v u s2 x y H2 I2 rx ry q => ho pins s2 σ H2 x y v u Q I2 rx ry q)
theorem Dp {op : UnaryOp} {r : V -> Hp -> VK -> Prop} (ho : UnR X (unaryOp op) r) (ha : PE X a ta) : PE X (.UnaryOp op a pos) (tUn r ta) := by
  intro pins s σ H Q I h
  exact UnaryOp_ (thn (ha pins s σ H _ I h) fun v s1 ⟨x, H1, I1, r1, q1⟩ => ho pins s1 σ H1 x v Q I1 r1 q1)
theorem opI {f : Value -> Value -> Sem Value} {C : Int -> Int -> Prop} {g : Int -> Int -> Int}
    (rule : ∀ (i j : Int) (t u : Tok) (s : Shared) (Q : Value -> Shared -> Prop) (E : Value -> Shared -> Prop), C i j -> Q (.int (g i j) s.toks) { s with toks := s.toks + 1 } -> wpAny (model X.prog X.w) X.A (f (.int i t) (.int j u)) Q E s) :
    OpR X f (rI C fun i j => .int (g i j)) := by
  intro pins s σ H x y v u Q I rx ry h
  obtain ⟨i, j, rfl, rfl, hc, q⟩ := h
  obtain ⟨t, rfl⟩ := rx
  obtain ⟨t', rfl⟩ := ry
  exact rule i j t t' s _ _ hc ⟨.int (g i j), H, I.tok _, ⟨_, rfl⟩, q⟩
theorem Alw {f : Value -> Value -> Sem Value} {g : Int -> Int -> Int}
    (rule : ∀ (i j : Int) (t u : Tok) (s : Shared) (Q : Value -> Shared -> Prop) (E : Value -> Shared -> Prop), Q (.int (g i j) s.toks) { s with toks := s.toks + 1 } -> wpAny (model X.prog X.w) X.A (f (.int i t) (.int j u)) Q E s) :
    OpR X f (rI0 fun i j => .int (g i j)) := by
  intro pins s σ H x y v u Q I rx ry h
  obtain ⟨i, j, rfl, rfl, q⟩ := h
  obtain ⟨t, rfl⟩ := rx
  obtain ⟨t', rfl⟩ := ry
  exact rule i j t t' s _ _ ⟨.int (g i j), H, I.tok _, ⟨_, rfl⟩, q⟩
theorem Alm {f : Value -> Value -> Sem Value} {g : Int -> Int -> Bool}
    (rule : ∀ (i j : Int) (t u : Tok) (s : Shared) (Q : Value -> Shared -> Prop) (E : Value -> Shared -> Prop), Q (.bool (g i j)) s -> wpAny (model X.prog X.w) X.A (f (.int i t) (.int j u)) Q E s) :
    OpR X f (rI0 fun i j => .bl (g i j)) := by
  intro pins s σ H x y v u Q I rx ry h
  obtain ⟨i, j, rfl, rfl, q⟩ := h
  obtain ⟨t, rfl⟩ := rx
  obtain ⟨t', rfl⟩ := ry
  exact rule i j t t' s _ _ ⟨.bl (g i j), H, I, rfl, q⟩
def Amh (i j : Int) : Prop := 0 <= j /\ j <= 1000000 /\ i.natAbs < 2 ^ 64
def Al2 (i j : Int) : Prop := (-(2 ^ 64) < i /\ i < 2 ^ 64) \/ (-(2 ^ 64) < j /\ j < 2 ^ 64)
theorem Al2.ok {i j : Int} (h : Al2 i j) : IntMulOk i j := by
  rcases h with ⟨h1, h2⟩ | ⟨h1, h2⟩
  . exact .of_left (intBits_le_64 h1 h2)
  . exact .of_right (intBits_le_64 h1 h2)
theorem Bw : OpR X (binaryOp .Add) (rI0 fun i j => .int (i + j)) := Alw fun _ _ _ _ _ _ _ q => add_int q
theorem Dd : OpR X (binaryOp .Sub) (rI0 fun i j => .int (i - j)) := Alw fun _ _ _ _ _ _ _ q => sub_int q
theorem Bv : OpR X (binaryOp .Mod) (rI (fun _ j => 0 < j) fun i j => .int (i % j)) := opI fun i j _ _ _ _ _ hc q => by
  have h1 : (0 : Int) < j := hc
  exact mod_int' (by omega) (by rw [Int.fmod_eq_emod_of_nonneg i (by omega)]; exact q)
theorem Ah9 : OpR X (binaryOp .Mod) (rI (fun _ j => j ≠ 0) fun i j => .int (i.fmod j)) := opI fun _ _ _ _ _ _ _ hc q => mod_int' hc q
theorem Qc : OpR X (binaryOp .Pow) (rI Amh fun i j => .int (i ^ j.toNat)) := opI fun _ _ _ _ _ _ _ hc q => pow_int_small hc.1 hc.2.1 hc.2.2 q
theorem unI {f : Value -> Sem Value} {g : Int -> Int}
    (rule : ∀ (i : Int) (t : Tok) (s : Shared) (Q : Value -> Shared -> Prop) (E : Value -> Shared -> Prop), Q (.int (g i) s.toks) { s with toks := s.toks + 1 } -> wpAny (model X.prog X.w) X.A (f (.int i t)) Q E s) :
    UnR X f (rU fun i => .int (g i)) := by
  intro pins s σ H x v Q I rx h
  obtain ⟨i, rfl, q⟩ := h
  obtain ⟨t, rfl⟩ := rx
  exact rule i t s _ _ ⟨.int (g i), H, I.tok _, ⟨_, rfl⟩, q⟩
theorem Bt : UnR X (unaryOp .USub) (rU fun i => .int (-i)) := unI fun _ _ _ _ _ q => neg_int q
end
def Aiq : V -> V -> Bool
  | .non, .non => true | .non, .int _ => true | .int _, .non => true | .non, .bl _ => true | .bl _, .non => true | .non, .str _ => true | .str _, .non => true
  | .int _, .int _ => true | .bl _, .bl _ => true | .str _, .str _ => true | .byt _, .byt _ => true
  | .int _, .str _ => true | .str _, .int _ => true | .bl _, .str _ => true | .str _, .bl _ => true
  | _, _ => false
def rEq : R2 := fun x y H Q => Aiq x y = true /\ Q (.bl (decide (x = y))) H
def rNe : R2 := fun x y H Q => Aiq x y = true /\ Q (.bl (!decide (x = y))) H
theorem Aa7 {i j : Int} : decide (V.int i = V.int j) = (i == j) := by
  rw [Bool.eq_iff_iff]
  simp
theorem Afy {i j : Bool} : decide (V.bl i = V.bl j) = (i == j) := by
  rw [Bool.eq_iff_iff]
  simp
theorem Abe {i j : Str} : decide (V.str i = V.str j) = (i == j) := by
  rw [Bool.eq_iff_iff]
  simp
theorem Ac2 {i j : Array UInt8} : decide (V.byt i = V.byt j) = (i.toList == j.toList) := by
  rw [Bool.eq_iff_iff]
  cases i
  cases j
  simp
section
variable {X : Cx} {a b c : Expr} {ta tb tc : TE} {pos : Pos}
theorem Cw {pins : List (Addr × Obj)} {σ : St} {H : Hp} {s : Shared} {Q : VK} {k k' : Bool} (I : Inv X pins σ H s) (q : Q (.bl k) H) (e : k = k') : EP X pins σ Q (.bool k') s := by
  subst e
  exact ⟨.bl k, H, I, rfl, q⟩
theorem Fx : OpR X (compareOp .Eq) rEq := by
  intro pins s σ H x y v u Q I rx ry h
  obtain ⟨hs, q⟩ := h
  cases x with
  | non =>
    cases rx
    cases y with
    | non => cases ry; exact PySem.EqNone.eq_none_none (Cw I q (by simp))
    | bl j => cases ry; exact PySem.EqNone.eq_none_bool (Cw I q (by simp))
    | int j => obtain ⟨t', rfl⟩ := ry; exact PySem.EqNone.eq_none_int (Cw I q (by simp))
    | str j => obtain ⟨t', rfl⟩ := ry; exact PySem.EqNone.eq_none_str (Cw I q (by simp))
    | _ => exact absurd (show false = true from hs) Bool.false_ne_true
  | bl i =>
    cases rx
    cases y with
    | non => cases ry; exact PySem.EqNone.eq_bool_none (Cw I q (by simp))
    | bl j => cases ry; exact eq_bool (Cw I q Afy)
    | str j => obtain ⟨t', rfl⟩ := ry; exact PySem.EqMixed.eq_bool_str (Cw I q (by simp))
    | _ => exact absurd (show false = true from hs) Bool.false_ne_true
  | int i =>
    obtain ⟨t, rfl⟩ := rx
    cases y with
    | non => cases ry; exact PySem.EqNone.eq_int_none (Cw I q (by simp))
    | int j => obtain ⟨t', rfl⟩ := ry; exact eq_int (Cw I q Aa7)
    | str j => obtain ⟨t', rfl⟩ := ry; exact PySem.EqMixed.eq_int_str (Cw I q (by simp))
    | _ => exact absurd (show false = true from hs) Bool.false_ne_true
  | str i =>
    obtain ⟨t, rfl⟩ := rx
    cases y with
    | non => cases ry; exact PySem.EqNone.eq_str_none (Cw I q (by simp))
    | bl j => cases ry; exact PySem.EqMixed.eq_str_bool (Cw I q (by simp))
    | int j => obtain ⟨t', rfl⟩ := ry; exact PySem.EqMixed.eq_str_int (Cw I q (by simp))
    | str j => obtain ⟨t', rfl⟩ := ry; exact eq_str (Cw I q Abe)
    | _ => exact absurd (show false = true from hs) Bool.false_ne_true
  | byt i =>
    obtain ⟨t, rfl⟩ := rx
    cases y with
    | byt j => obtain ⟨t', rfl⟩ := ry; exact PySem.W.eq_bytes (Cw I q Ac2)
    | _ => exact absurd (show false = true from hs) Bool.false_ne_true
  | _ => cases y <;> exact absurd (show false = true from hs) Bool.false_ne_true
theorem R9 : OpR X (compareOp .NotEq) rNe := by
  intro pins s σ H x y v u Q I rx ry h
  obtain ⟨hs, q⟩ := h
  cases x with
  | non =>
    cases rx
    cases y with
    | non => cases ry; exact PySem.EqNone.ne_none_none (Cw I q (by simp))
    | bl j => cases ry; exact PySem.EqNone.ne_none_bool (Cw I q (by simp))
    | int j => obtain ⟨t', rfl⟩ := ry; exact PySem.EqNone.ne_none_int (Cw I q (by simp))
    | str j => obtain ⟨t', rfl⟩ := ry; exact PySem.EqNone.ne_none_str (Cw I q (by simp))
    | _ => exact absurd (show false = true from hs) Bool.false_ne_true
  | bl i =>
    cases rx
    cases y with
    | non => cases ry; exact PySem.EqNone.ne_bool_none (Cw I q (by simp))
    | bl j => cases ry; exact ne_bool (Cw I q (congrArg not Afy))
    | str j => obtain ⟨t', rfl⟩ := ry; exact PySem.EqMixed.ne_bool_str (Cw I q (by simp))
    | _ => exact absurd (show false = true from hs) Bool.false_ne_true
  | int i =>
    obtain ⟨t, rfl⟩ := rx
    cases y with
    | non => cases ry; exact PySem.EqNone.ne_int_none (Cw I q (by simp))
    | int j => obtain ⟨t', rfl⟩ := ry; exact ne_int (Cw I q (congrArg not Aa7))
    | str j => obtain ⟨t', rfl⟩ := ry; exact PySem.EqMixed.ne_int_str (Cw I q (by simp))
    | _ => exact absurd (show false = true from hs) Bool.false_ne_true
  | str i =>
    obtain ⟨t, rfl⟩ := rx
    cases y with
    | non => cases ry; exact PySem.EqNone.ne_str_none (Cw I q (by simp))
    | bl j => cases ry; exact PySem.EqMixed.ne_str_bool (Cw I q (by simp))
    | int j => obtain ⟨t', rfl⟩ := ry; exact PySem.EqMixed.ne_str_int (Cw I q (by simp))
    | str j => obtain ⟨t', rfl⟩ := ry; exact ne_str (Cw I q (congrArg not Abe))
    | _ => exact absurd (show false = true from hs) Bool.false_ne_true
  | byt i =>
    obtain ⟨t, rfl⟩ := rx
    cases y with
    | byt j => obtain ⟨t', rfl⟩ := ry; exact PySem.W.ne_bytes (Cw I q (congrArg not Ac2))
    | _ => exact absurd (show false = true from hs) Bool.false_ne_true
  | _ => cases y <;> exact absurd (show false = true from hs) Bool.false_ne_true
theorem Nt : OpR X (compareOp .Lt) (rI0 fun i j => .bl (decide (i < j))) := Alm fun _ _ _ _ _ _ _ q => lt_int q
theorem Nu : OpR X (compareOp .Gt) (rI0 fun i j => .bl (decide (j < i))) := Alm fun _ _ _ _ _ _ _ q => gt_int q
theorem Aji : OpR X (compareOp .GtE) (rI0 fun i j => .bl (decide (j <= i))) := Alm fun _ _ _ _ _ _ _ q => ge_int q
theorem OpR.or {f : Value -> Value -> Sem Value} {r r' : R2} (h : OpR X f r) (h' : OpR X f r') : OpR X f (fun x y H Q => r x y H Q \/ r' x y H Q) := by
  intro pins s σ H x y v u Q I rx ry q
  rcases q with q | q
  . exact h pins s σ H x y v u Q I rx ry q
  . exact h' pins s σ H x y v u Q I rx ry q
theorem Ak (b : Expr) {op : CmpOp} (h : op ≠ .In := by decide) (h2 : op ≠ .NotIn := by decide) : behindInMarks op b = false := by
  have e1 : (op == CmpOp.In) = false := by cases op <;> first | rfl | exact absurd rfl h
  have e2 : (op == CmpOp.NotIn) = false := by cases op <;> first | rfl | exact absurd rfl h2
  cases b <;> simp [behindInMarks, e1, e2]
theorem Cy {op : CmpOp} {r : R2} (ho : OpR X (compareOp op) r) (ha : PE X a ta) (hb : PE X b tb) (hm : behindInMarks op b = false) : PE X (.Compare a [op] [b] pos) (tOp r ta tb) := by
  intro pins s σ H Q I h
  exact wpAny_Compare1 (Akl ha hb I h fun v u s2 x y H2 I2 rx ry q => ho pins s2 σ H2 x y v u Q I2 rx ry q) hm
def Ahk (t : TE) : TT := fun σ H Q => t σ H fun x H' => ∃ k, x = .bl k /\ Q k H'
theorem Aj {op : CmpOp} {r : R2} (ho : OpR X (compareOp op) r) (ha : PE X a ta) (hb : PE X b tb) (hm : behindInMarks op b = false) : PT X (.Compare a [op] [b] pos) (Ahk (tOp r ta tb)) := by
  intro pins s σ H Q I h
  refine wpAny_isTrue_Compare1 (thn (ha pins s σ H _ I h) fun v s1 ⟨x, H1, I1, r1, q1⟩ => thn (hb pins s1 σ H1 _ I1 q1) fun u s2 ⟨y, H2, I2, r2, q2⟩ =>
    thn (ho pins s2 σ H2 x y v u _ I2 r1 r2 q2) fun c s3 ⟨z, H3, I3, r3, k, e, q3⟩ => ?_) hm
  subst e
  cases r3
  exact wpAny_truthy_bool ⟨H3, I3, q3⟩
def Akd (r r' : R2) (ta tb tc : TE) : TE := fun σ H Q => ta σ H fun x H1 => tb σ H1 fun y H2 => r x y H2 fun z H3 => ∃ k, z = .bl k /\
  (if k = true then tc σ H3 fun w' H4 => r' y w' H4 Q else Q (.bl false) H3)
theorem S5 : (sizeLine : Nat) < 2 ^ 63 := by rw [sizeLine_eq]; decide
theorem vals1 {x : V} {us : List Value} (r : Vals [x] us) : ∃ u, us = [u] /\ RelV x u := by
  cases r with
  | cons r1 r2 => cases r2; exact ⟨_, rfl, r1⟩
theorem vals2 {x y : V} {us : List Value} (r : Vals [x, y] us) : ∃ u w', us = [u, w'] /\ RelV x u /\ RelV y w' := by
  cases r with
  | cons r1 r2 =>
    cases r2 with
    | cons r3 r4 => cases r4; exact ⟨_, _, rfl, r1, r3⟩
theorem Mt : Ji X (.builtin "abs") (fun xs H Q => ∃ i, xs = [.int i] /\ Q (.int (if i < 0 then -i else i)) H) := by
  intro pins s σ H xs us Q I r h
  obtain ⟨i, rfl, q⟩ := h
  obtain ⟨u, rfl, t, rfl⟩ := vals1 r
  exact call_abs_int fun u tk => ⟨.int (if i < 0 then -i else i), H, I.tok _, ⟨_, rfl⟩, q⟩
theorem Acr (hc : X.calm = true) : Ji X (.builtin "max") (fun xs H Q => ∃ i j, xs = [.int i, .int j] /\ Q (.int (if j > i then j else i)) H) := by
  intro pins s σ H xs us Q I r h
  obtain ⟨i, j, rfl, q⟩ := h
  obtain ⟨u, w', rfl, ⟨t, rfl⟩, ⟨t', rfl⟩⟩ := vals2 r
  refine max_two_ints (I.ok.hd hc) fun h' tk k => ⟨_, H, I.kept k, ?_, q⟩
  by_cases hj : j > i
  . rw [if_pos hj, if_pos hj]; exact ⟨_, rfl⟩
  . rw [if_neg hj, if_neg hj]; exact ⟨_, rfl⟩
theorem Vg : Ji X (.type "int") (fun xs H Q => (∃ i, xs = [.int i] /\ Q (.int i) H) \/ ∃ k, xs = [.bl k] /\ Q (.int (if k then 1 else 0)) H) := by
  intro pins s σ H xs us Q I r h
  rcases h with ⟨i, rfl, q⟩ | ⟨k, rfl, q⟩
  . obtain ⟨u, rfl, t, rfl⟩ := vals1 r
    exact call_int_int ⟨.int i, H, I, ⟨_, rfl⟩, q⟩
  . obtain ⟨u, rfl, r1⟩ := vals1 r
    cases r1
    exact call_int_bool ⟨.int (if k then 1 else 0), H, I.tok _, ⟨_, rfl⟩, q⟩
end
end L2
namespace L2
open PySem PySem.Spec PyProof.Rows
structure Ak6 (h : Heap) (x dx C : Addr) (mA : Str -> Option Value) : Prop where
  obj : h.get? x = some (PySem.W.instObj C dx)
  ns : h.Ns1 dx mA
  ne : dx ≠ x
theorem Adl {h : Heap} {dx : Addr} {mA : Str -> Option Value} (n : h.Ns1 dx mA) : ∃ od, h.get? dx = some od /\ ∀ name, PySem.W.lookIn name od = some (mA name) := by
  obtain ⟨o, es, ep, ho, hd, hk, _, hm⟩ := n
  refine ⟨o, ho, fun name => ?_⟩
  have e := hm name
  unfold nsFind findBy at e
  rw [<- Array.find?_toList] at e
  unfold PySem.W.lookIn
  rw [hd]
  dsimp only
  split
  . rename_i y q
    rw [q] at e
    exact congrArg some e
  . rename_i q
    rw [q] at e
    have a : es.toList.any (·.refKey) = false := by
      rw [List.any_eq_false]
      intro y hy
      obtain ⟨z, t, hkey⟩ := hk y (Array.mem_toList_iff.mp hy)
      simp [DictEntry.refKey, hkey]
    have a' : ¬ es.toList.any (·.refKey) = true := by rw [a]; exact Bool.false_ne_true
    rw [if_neg a']
    exact congrArg some e
theorem Ak6.look {h : Heap} {x dx C : Addr} {mA : Str -> Option Value} (I : Ak6 h x dx C mA) : ∃ od, PySem.W.InstAt h x (PySem.W.instObj C dx) C (some od) /\ ∀ name, PySem.W.lookIn name od = some (mA name) :=
  let ⟨od, ho, hl⟩ := Adl I.ns
  ⟨od, ⟨I.obj, rfl, rfl, ho⟩, hl⟩
section
variable {P : Program} {w : World} {H H' : Hp} {h h' : Heap} {a C dx : Addr} {fs fs' : List (Str × V)}
theorem Ahr (hok : HOk P w H h) (e : H a = some (.ins C dx fs)) : ∃ mA, Ak6 h a dx C mA /\ (∀ f, Akq (fs.lookup f) (mA f)) /\ PySem.Within mA (fs.map (·.1)) /\ fs.length <= 1000 /\ H dx = some (.own a) := by
  obtain ⟨d, z, ne, ob, mA, n, r, q⟩ := (show Io P w H h a (.ins C dx fs) from hok a _ e)
  exact ⟨mA, ⟨ob, n, ne⟩, r, q, z, d⟩
end
structure Cls (K : PySem.W.Frag) (C : Addr) : Prop where
  pg : PySem.W.plainGet K C Str.empty = true
  hd : PySem.W.hasDictIn K C = true
  po : PySem.W.plainOver K C = true
  sa : PySem.W.findIn K (.ref C) "__setattr__" = some (some (.builtin "object.__setattr__"))
theorem Cls.get {K : PySem.W.Frag} {C : Addr} (c : Cls K C) (f : Str) : PySem.W.plainGet K C f = true := c.pg
structure Con (K : PySem.W.Frag) (C : Addr) (f : Str) (v : V) (u : Value) : Prop where
  at_ : PySem.W.findIn K (.ref C) f = some (some u)
  rel : RelV v u
  get : PySem.W.specialIn K u "__get__" = some none
  cp : PySem.W.copiedNames.contains f = false
structure Meth (K : PySem.W.Frag) (C : Addr) (m : Str) (f : Addr) : Prop where
  at_ : PySem.W.findIn K (.ref C) m = some (some (.ref f))
  fn : PySem.W.isFn K (.ref f) = true
  kp : PySem.W.keepIn K (.ref f) = true
section
variable {X : Cx} {pins : List (Addr × Obj)} {σ : St} {H : Hp} {s : Shared} {A : Around} {E : Value -> Shared -> Prop} {Q : Value -> Shared -> Prop} {c : Value} {b : Bool}
inductive Wq (K : PySem.W.Frag) (H : Hp) : V -> Value -> Prop where
  | non : Wq K H .non (.type "NoneType")
  | bl (x : Bool) : Wq K H (.bl x) (.type "bool")
  | int (i : Int) : Wq K H (.int i) (.type "int")
  | str (x : Str) : Wq K H (.str x) (.type "str")
  | flt (x : UInt64) : Wq K H (.flt x) (.type "float")
  | lst {a : Addr} {xs : List V} (e : H a = some (.lst xs)) : Wq K H (.ref a) (.type "list")
  | frz {a : Addr} {o : Obj} {xs : List V} (e : H a = some (.frz o (.lst xs))) : Wq K H (.ref a) (.type "list")
  | tup {a : Addr} {xs : List V} (e : H a = some (.tup xs)) : Wq K H (.ref a) (.type "tuple")
  | dK {a : Addr} {kvs : List (Key × V)} (e : H a = some (.dK kvs)) : Wq K H (.ref a) (.type "dict")
  | dT {a : Addr} {kvs : List (List Key × V)} (e : H a = some (.dT kvs)) : Wq K H (.ref a) (.type "dict")
  | ins {a C dx : Addr} {fs : List (Str × V)} (e : H a = some (.ins C dx fs)) (cl : Cls K C) (ha : PySem.W.findIn K (.ref C) "__class__" = some (some (.builtin "object.__class__")))
      (hn : PySem.W.specialIn K (.builtin "object.__class__") "__get__" = some (some (.builtin "getset_descriptor.__get__"))) (htk : PySem.W.takesIn K (.builtin "object.__class__") = some true)
      (hm : PySem.W.mroIn K C (.type "object") = some true) : Wq K H (.ref a) (.ref C)
theorem Aax {x : V} {u t : Value} (I : Inv X pins σ H s) (rx : RelV x u) (ty : Wq X.K H x t) (e : PySem.W.kitOne X.K t c = some b) (h : ∀ tk, Q (.bool b) { s with toks := tk }) :
    wpAny (model X.prog X.w) A (call (.builtin "isinstance") [u, c]) Q E s := by
  cases ty with
  | non => cases (show u = Value.none from rx); exact PySem.W.kia_one PySem.W.kitx_none I.kIn True.intro e (fun z => nomatch z) h
  | bl y => cases (show u = Value.bool y from rx); exact PySem.W.kia_one PySem.W.kitx_bool I.kIn True.intro e (fun z => nomatch z) h
  | int i => obtain ⟨t, q⟩ := (show ∃ t, u = Value.int i t from rx); cases q; exact PySem.W.kia_one PySem.W.kitx_int I.kIn True.intro e (fun z => nomatch z) h
  | str y => obtain ⟨t, q⟩ := (show ∃ t, u = Value.str y t from rx); cases q; exact PySem.W.kia_one PySem.W.kitx_str I.kIn True.intro e (fun z => nomatch z) h
  | flt y => obtain ⟨t, q⟩ := (show ∃ t, u = Value.float y t from rx); cases q; exact PySem.W.kia_one PySem.W.kitx_float I.kIn True.intro e (fun z => nomatch z) h
  | @lst a xs ea =>
    cases (show u = Value.ref a from rx)
    obtain ⟨_, _, n, _, h1⟩ := (show Io X.prog X.w H s.heap a (.lst xs) from I.hok a _ ea)
    exact PySem.W.kia_one PySem.W.kitx_list I.kIn ⟨_, h1, rfl⟩ e (fun z => nomatch z) h
  | @frz a ob xs ea =>
    cases (show u = Value.ref a from rx)
    obtain ⟨_, _, _, n, _, h1⟩ := (show Io X.prog X.w H s.heap a (.frz ob (.lst xs)) from I.hok a _ ea)
    exact PySem.W.kia_one PySem.W.kitx_list I.kIn ⟨_, h1, rfl⟩ e (fun z => nomatch z) h
  | @tup a xs ea =>
    cases (show u = Value.ref a from rx)
    obtain ⟨_, _, _, p⟩ := (show Io X.prog X.w H s.heap a (.tup xs) from I.hok a _ ea)
    obtain ⟨o, h1, h2, _⟩ := p
    exact PySem.W.kia_one PySem.W.kitx_tuple I.kIn ⟨o, h1, h2⟩ e (fun z => nomatch z) h
  | @dK a kvs ea =>
    cases (show u = Value.ref a from rx)
    obtain ⟨_, _, vs, _, p⟩ := (show Io X.prog X.w H s.heap a (.dK kvs) from I.hok a _ ea)
    obtain ⟨o, es, ep, h1, h2, _⟩ := p
    exact PySem.W.kia_one PySem.W.kitx_dict I.kIn ⟨o, h1, h2.1⟩ e (fun z => nomatch z) h
  | @dT a kvs ea =>
    cases (show u = Value.ref a from rx)
    obtain ⟨_, _, xs, _, o, es, ep, h1, h2, _⟩ := (show Io X.prog X.w H s.heap a (.dT kvs) from I.hok a _ ea)
    exact PySem.W.kia_one PySem.W.kitx_dict I.kIn ⟨o, h1, h2.1⟩ e (fun z => nomatch z) h
  | @ins a C dx fs ea cl ha hn htk hm =>
    cases (show u = Value.ref a from rx)
    obtain ⟨mA, O, _⟩ := Ahr I.hok ea
    obtain ⟨od, J, _⟩ := O.look
    exact PySem.W.kia_one (PySem.W.kitx_own (cl.get _) cl.hd ha hn htk hm) I.kIn J e (fun z => nomatch z) h
end
end L2
namespace L2
open PySem PySem.Spec PyProof.Rows
structure M7 (k : Nat) (A : Around) : Prop where
  hd : A.handled = none
  dp : A.depth + 3 * k + 5 < recursionLimit
  un : A.units + 16 * k + 200 < cLine
theorem M7.mono {j k : Nat} {A : Around} (r : M7 k A) (h : j <= k) : M7 j A := ⟨r.hd, by have := r.dp; omega, by have := r.un; omega⟩
theorem M7.deeper {k : Nat} {A : Around} (r : M7 (k + 1) A) (env : Env) : M7 k (A.deeper env) :=
  ⟨r.hd, by have := r.dp; show A.depth + 1 + 3 * k + 5 < _; omega, by have := r.un; show A.units + 3 + 16 * k + 200 < _; omega⟩
theorem M7.in1 {k : Nat} {A : Around} (r : M7 (k + 1) A) : M7 k A.in1 :=
  ⟨r.hd, by have := r.dp; show A.depth + 3 * k + 5 < _; omega, by have := r.un; show A.units + 1 + 16 * k + 200 < _; omega⟩
theorem M7.depth {k : Nat} {A : Around} (r : M7 k A) : A.depth < recursionLimit := by have := r.dp; omega
theorem M7.units {k : Nat} {A : Around} (r : M7 k A) : A.units + 64 < cLine := by have := r.un; omega
def Akt : TA := fun _ H Q => Q [] H
def Ad8 (ta : TE) (tr : TA) : TA := fun σ H Q => ta σ H fun x H1 => tr σ H1 fun xs H2 => Q (x :: xs) H2
section
variable {X : Cx} {e : Expr} {es : List Expr} {te : TE} {t : TA} {pos : Pos}
theorem Ac : PA X [] Akt := fun _ _ _ _ H Q I h => Calls.spliced_nil ⟨[], H, I, .nil, h⟩
theorem Ahb (ha : PE X e te) (hr : PA X es t) (hs : starEach (e :: es) X.env = (false, eval e X.env) :: starEach es X.env := by rfl) : PA X (e :: es) (Ad8 te t) := by
  intro pos pins s σ H Q I h
  rw [hs]
  show wpAny _ _ (spliced ((false, eval e X.env) :: backTo pos (starEach es X.env))) _ _ s
  refine Calls.spliced_cons (thn (ha pins s σ H _ I h) fun u s1 ⟨x, H1, I1, r1, q1⟩ => ?_)
  exact thn (hr pos pins s1 σ H1 _ I1 q1) fun us s2 ⟨xs, H2, I2, r2, q2⟩ => ⟨x :: xs, H2, I2, .cons r1 r2, q2⟩
def Ak4 (t : TA) : TE := fun σ H Q => t σ H fun xs H1 => xs.length <= sizeLine /\ ∀ p, H1 p = none -> Q (.ref p) (upd H1 p (.tup xs))
def Akn (t : TA) : TE := fun σ H Q => t σ H fun xs H1 => xs.length <= sizeLine /\ ∀ p, H1 p = none -> Q (.ref p) (upd H1 p (.lst xs))
theorem Aw {x1} (h : PA X es t) : PE X (.Tuple es x1 pos) (Ak4 t) := by
  intro pins s σ H Q I hq
  refine wpAny_Tuple_spliced (thn (h pos pins s σ H _ I hq) fun us s1 ⟨xs, H1, I1, r, z, q⟩ => ⟨by rw [<- r.length]; exact z, ?_⟩)
  have hf : H1 s1.heap.objs.size = none := I1.hok.fresh (Nat.le_refl _)
  refine ⟨.ref s1.heap.objs.size, upd H1 s1.heap.objs.size (.tup xs), I1.laid (t' := s1.toks) (fun b u e => Heap.get?_push_of_some _ e) (Nat.le_refl _) ?_, rfl, q _ hf⟩
  exact ⟨z, us, r, ⟨_, Heap.get?_push_size _ rfl, rfl, _, rfl⟩⟩
theorem Gb (h : PA X es t) : PE X (.List es pos) (Akn t) := by
  intro pins s σ H Q I hq
  refine wpAny_List_spliced (thn (h pos pins s σ H _ I hq) fun us s1 ⟨xs, H1, I1, r, z, q⟩ => ⟨by rw [<- r.length]; exact z, ?_⟩)
  have hf : H1 s1.heap.objs.size = none := I1.hok.fresh (Nat.le_refl _)
  refine ⟨.ref s1.heap.objs.size, upd H1 s1.heap.objs.size (.lst xs), I1.laid (t' := s1.toks) (fun b u e => Heap.get?_push_of_some _ e) (Nat.le_refl _) ?_, rfl, q _ hf⟩
  exact ⟨z, us, 0, r, Heap.get?_push_size _ rfl⟩
end
abbrev Sp := List V -> Hp -> VK -> XK -> Prop
abbrev CXT := List Env -> Hp -> Shared -> XK -> Value -> Shared -> Prop
structure Ag3 (P : Program) (w : World) (K : PySem.W.Frag) (mg : Str -> Option Value) (base : Heap) (A : Around) (outer : List Env) (s : Shared) (H : Hp) : Prop where
  frames : A.frames = some outer
  mod : Mod K mg base
  bs : ∀ b o, base.get? b = some o -> s.heap.get? b = some o /\ H b = none
  bsz : base.objs.size <= s.heap.objs.size
  funs : s.heap.FunFrames base outer
  frf : ∀ b ∈ frs outer, H b = none
  hok : HOk P w H s.heap
  bare : AllBare s.gens
def CE (outer : List Env) (P : Program) (w : World) (H : Hp) (s : Shared) (Q : VK) (u : Value) (s' : Shared) : Prop :=
  ∃ v H', s'.os = s.os /\ AllBare s'.gens /\ Un (frs outer) [] H H' s.heap s'.heap /\ HOk P w H' s'.heap /\ RelV v u /\ Q v H'
def CR (CX : CXT) (outer : List Env) (P : Program) (w : World) (H : Hp) (s : Shared) (Q : VK) (E : XK) (r : Result) (s' : Shared) : Prop :=
  match r with
  | .ok (.ret u) => CE outer P w H s Q u s'
  | .ok _ => False
  | .error e => CX outer H s E e s'
structure Sd (P : Program) (w : World) (K : PySem.W.Frag) (mg : Str -> Option Value) (base : Heap) (CX : CXT) (k : Nat) (f : Addr) (fd : FuncData) (ps : List Str) (sp : Sp) : Prop where
  len : ∀ vs H Q E, sp vs H Q E -> vs.length = ps.length
  run : ∀ (A : Around) (outer : List Env) (s : Shared) (H : Hp) (args : Args) (us : List Value) (vs : List V) (Q : VK) (E : XK), M7 k A -> Ag3 P w K mg base A outer s H -> BindsTo s fd args (ps.zip us) -> Vals vs us -> sp vs H Q E ->
    codeAny (model P w) A (.call (.ref f) args) (CR CX outer P w H s Q E) s
theorem Sd.mono {P : Program} {w : World} {K : PySem.W.Frag} {mg : Str -> Option Value} {base : Heap} {CX : CXT} {j k : Nat} {f : Addr} {fd : FuncData} {ps : List Str} {sp : Sp} (F : Sd P w K mg base CX j f fd ps sp) (h : j <= k) :
    Sd P w K mg base CX k f fd ps sp := ⟨F.len, fun A outer s H args us vs Q E hr => F.run A outer s H args us vs Q E (hr.mono h)⟩
theorem Ag3.in1 {P : Program} {w : World} {K : PySem.W.Frag} {mg : Str -> Option Value} {base : Heap} {A : Around} {outer : List Env} {s : Shared} {H : Hp} (e : Ag3 P w K mg base A outer s H) :
    Ag3 P w K mg base A.in1 outer s H := ⟨e.frames, e.mod, e.bs, e.bsz, e.funs, e.frf, e.hok, e.bare⟩
section
variable {X : Cx} {pins : List (Addr × Obj)} {σ : St} {H : Hp} {s s' : Shared}
theorem Inv.env0 (I : Inv X pins σ H s) : Ag3 X.prog X.w X.K X.mg X.base X.A X.stack s H :=
  ⟨I.ok.frames, I.ok.mod, I.bs, Nat.le_trans I.ok.bsz I.sz, I.stack, I.stkFree, I.hok, I.bare⟩
theorem Inv.after {Q : VK} {u : Value} (I : Inv X pins σ H s) (h : CE X.stack X.prog X.w H s Q u s') : EP X pins σ Q u s' := by
  obtain ⟨v, H', os, bare, un, hok, r, q⟩ := h
  obtain ⟨hh, g, d, t, os'⟩ := s'
  obtain rfl : os' = s.os := os
  exact ⟨v, H', I.call (h' := hh) (g' := g) (d' := d) (t' := t) (ch := []) un hok bare (fun b z => absurd z (by simp)), r, q⟩
end
def Wy (sp : Sp) (dvs : List V) (E : XK) (t : TA) : TE := fun σ H Q => t σ H fun vs H1 => sp (vs ++ dvs) H1 Q E
def Binds (K : PySem.W.Frag) (fd : FuncData) (ps : List Str) (ds : List Value) : Prop :=
  ∀ (s : Shared) (us : List Value), K.In s.heap -> (us ++ ds).length = ps.length -> BindsTo s fd ⟨us, []⟩ (ps.zip (us ++ ds))
theorem Binds.all {K : PySem.W.Frag} {fd : FuncData} {ps : List Str} (h : ∀ us : List Value, us.length = ps.length -> bindArgs fd ⟨us, []⟩ = pure (ps.zip us)) : Binds K fd ps [] := fun s us _ hl => by
  rw [List.append_nil] at hl ⊢
  exact .of_eq (h us hl)
def Passes (CX : CXT) (X : Cx) (E : XK) : Prop := ∀ (pins : List (Addr × Obj)) (σ : St) (H : Hp) (s : Shared) (e : Value) (s' : Shared), Inv X pins σ H s -> CX X.stack H s E e s' -> X.xe e s'
section
variable {X : Cx} {CX : CXT} {k : Nat} {f C : Addr} {fd : FuncData} {ps : List Str} {sp : Sp} {dvs : List V} {ds : List Value} {E : XK} {x m : Str} {p pos apos : Pos} {e o : Expr} {es : List Expr} {ta : TE} {t : TA}
theorem Afo {pins : List (Addr × Obj)} {σ : St} {H : Hp} {s : Shared} {Q : VK} {us : List Value} {vs : List V} (F : Sd X.prog X.w X.K X.mg X.base CX k f fd ps sp) (hr : M7 k X.A) (hb : Binds X.K fd ps ds) (hd : Vals dvs ds) (hx : Passes CX X E)
    (I : Inv X pins σ H s) (r : Vals vs us) (h : sp (vs ++ dvs) H Q E) : wpAny (model X.prog X.w) X.A (call (.ref f) us) (EP X pins σ Q) X.xe s := by
  have r2 : Vals (vs ++ dvs) (us ++ ds) := r.append hd
  have hl : (us ++ ds).length = ps.length := by rw [<- r2.length]; exact F.len _ _ _ _ h
  refine wpAny_call (codeAny_mono (F.run X.A X.stack s H ⟨us, []⟩ (us ++ ds) (vs ++ dvs) Q E hr I.env0 (hb s us I.kIn hl) r2 h) fun r s' hq => ?_)
  cases r with
  | error e => exact hx pins σ H s e s' I hq
  | ok fl =>
    cases fl with
    | ret u => exact I.after hq
    | next => exact False.elim hq
    | brk => exact False.elim hq
    | cont => exact False.elim hq
theorem Aa8 (F : Sd X.prog X.w X.K X.mg X.base CX k f fd ps sp) (hr : M7 k X.A) (hg : Gl X x) (hm : X.mg x = some (.ref f)) (hk : PySem.W.keepIn X.K (.ref f) = true) (hb : Binds X.K fd ps ds) (hd : Vals dvs ds) (hx : Passes CX X E)
    (ha : PA X (e :: es) t) (hdb : (x == ("__debug__" : Str)) = false := by decide) (he : starEach (e :: es) X.env = (false, eval e X.env) :: starEach es X.env := by rfl) (hpl : (backTo pos (starEach es X.env)).any (·.1) = false := by rfl) :
    PE X (.Call (.Name x p) (e :: es) [] pos) (Wy sp dvs E t) := by
  intro pins s σ H Q I h
  refine wpAny_Call_Name_kw (W6 I hg hm ?_ hdb)
  refine PySem.W.callWith_K (h₀ := X.base) I.ok.mod.kin hk (thn (ha pos pins s σ H _ I h) fun us s1 ⟨vs, H1, I1, r, q⟩ => ⟨I1.kIn, ?_⟩) he hpl
  exact Afo F hr hb hd hx I1 r q
structure Mk (K : PySem.W.Frag) (C f : Addr) : Prop where
  makes : PySem.W.makesIn K C = true
  init : PySem.W.findIn K (.ref C) "__init__" = some (some (.ref f))
  fn : PySem.W.isFn K (.ref f) = true
  kp : PySem.W.keepIn K (.ref C) = true
end
section
variable {X : Cx} {CX : CXT} {k : Nat} {f C : Addr} {fd : FuncData} {ps ks : List Str} {sp : Sp} {E : XK} {x m : Str} {p pos apos kpos : Pos} {e o : Expr} {es : List Expr} {kws : List Keyword} {te ta : TE} {t tk : TA} {nm : Option Str}
structure Alz (K : PySem.W.Frag) (fd : FuncData) (ps ks : List Str) (g : List Value -> List Value -> List Value) (gV : List V -> List V -> List V) : Prop where
  to : ∀ (s : Shared) (us ws : List Value), K.In s.heap -> (g us ws).length = ps.length -> BindsTo s fd ⟨us, ks.zip ws⟩ (ps.zip (g us ws))
  rel : ∀ {vs : List V} {us : List Value} {zs : List V} {ws : List Value}, Vals vs us -> Vals zs ws -> Vals (gV vs zs) (g us ws)
variable {g : List Value -> List Value -> List Value} {gV : List V -> List V -> List V}
end
structure Ao (N P : List Str) (sc : Scope) : Prop where
  kind : sc.kind = .function
  co : sc.isCoroutine = false
  gen : sc.isGenerator = false
  nd : N.Nodup
  pre : N.take P.length = P
  par : ∀ x ∈ P, sc.names.lookup x = some .local \/ sc.names.lookup x = some .cell
  nofree : ∀ y ∈ sc.names, y.2 ≠ .free
theorem U8 {kindOf : Str -> Option NameKind} {x : Str} : ∀ {binds : List (Str × Value)} {m : Str -> Option Value}, (∀ v, (x, v) ∉ binds) -> bindL kindOf binds m x = m x
  | [], _, _ => rfl
  | (n, v) :: r, m, h => by
    unfold bindL
    rw [U8 fun w hw => h w (List.mem_cons_of_mem _ hw)]
    split
    . have : x ≠ n := by rintro rfl; exact h v List.mem_cons_self
      simp [this]
    . rfl
theorem Vv {kindOf : Str -> Option NameKind} {x : Str} : ∀ {binds : List (Str × Value)} {m : Str -> Option Value}, (∀ v, (x, v) ∉ binds) -> bindC kindOf binds m x = m x
  | [], _, _ => rfl
  | (n, v) :: r, m, h => by
    unfold bindC
    rw [Vv fun w hw => h w (List.mem_cons_of_mem _ hw)]
    split
    . rfl
    . have : x ≠ n := by rintro rfl; exact h v List.mem_cons_self
      simp [this]
theorem U5 {kindOf : Str -> Option NameKind} {x : Str} {v : Value} : ∀ {P : List Str} {vs : List Value} {i : Nat} {m : Str -> Option Value}, P.Nodup -> P[i]? = some x -> vs[i]? = some v -> kindOf x = some .local ->
    bindL kindOf (P.zip vs) m x = some v
  | [], _, _, _, _, h, _, _ => by simp at h
  | _ :: _, [], _, _, _, _, h, _ => by simp at h
  | p :: P, w :: vs, 0, m, nd, h1, h2, hk => by
    simp at h1 h2; subst h1; subst h2
    show bindL kindOf ((p, w) :: P.zip vs) m p = _
    unfold bindL
    rw [U8 fun v hv => (List.nodup_cons.mp nd).1 (List.of_mem_zip hv).1, if_pos hk]
    simp
  | p :: P, w :: vs, i + 1, m, nd, h1, h2, hk => by
    show bindL kindOf ((p, w) :: P.zip vs) m x = _
    unfold bindL
    exact U5 (i := i) (List.nodup_cons.mp nd).2 (by simpa using h1) (by simpa using h2) hk
theorem V7 {kindOf : Str -> Option NameKind} {x : Str} {v : Value} : ∀ {P : List Str} {vs : List Value} {i : Nat} {m : Str -> Option Value}, P.Nodup -> P[i]? = some x -> vs[i]? = some v -> kindOf x ≠ some .local ->
    bindC kindOf (P.zip vs) m x = some v
  | [], _, _, _, _, h, _, _ => by simp at h
  | _ :: _, [], _, _, _, _, h, _ => by simp at h
  | p :: P, w :: vs, 0, m, nd, h1, h2, hk => by
    simp at h1 h2; subst h1; subst h2
    show bindC kindOf ((p, w) :: P.zip vs) m p = _
    unfold bindC
    rw [Vv fun v hv => (List.nodup_cons.mp nd).1 (List.of_mem_zip hv).1, if_neg hk]
    simp
  | p :: P, w :: vs, i + 1, m, nd, h1, h2, hk => by
    show bindC kindOf ((p, w) :: P.zip vs) m x = _
    unfold bindC
    exact V7 (i := i) (List.nodup_cons.mp nd).2 (by simpa using h1) (by simpa using h2) hk
def start (N : List Str) (vs : List V) : St := vs.map some ++ List.replicate (N.length - vs.length) none
def Rg (CX : CXT) (P : Program) (w : World) (K : PySem.W.Frag) (mg : Str -> Option Value) (base : Heap) (N : List Str) (qual : Str) (scope : Scope) (f : Addr) (cd : Value) (A : Around) (outer : List Env) (s : Shared) (H : Hp) (E : XK) : Cx where
  prog := P
  w := w
  K := K
  mg := mg
  base := base
  A := A.deeper (envOfC qual scope s.heap.objs.size f cd)
  N := N
  s₀ := s
  H₀ := H
  env := envOfC qual scope s.heap.objs.size f cd
  outer := outer
  stack := envOfC qual scope s.heap.objs.size f cd :: outer
  ex := []
  calm := true
  fn := fun _ => true
  pn := []
  xe := fun e s' => wpAny (model P w) (A.deeper (envOfC qual scope s.heap.objs.size f cd)) (leaving (envOfC qual scope s.heap.objs.size f cd) e) (fun _ s'' => CX outer H s E e s'') (fun e' s'' => CX outer H s E e' s'') s'
theorem X3 {sc : Scope} {n : Nat} {x : Str} (h : sc.names.lookup x = some .cell) : ∃ c, (cellsFrom n sc.names []).lookup x = some c := by
  have q := PySem.W.cellsFrom_some sc.names n [] (.inl h)
  exact Option.isSome_iff_exists.mp q
theorem Aa1 {CX : CXT} {P : Program} {w : World} {K : PySem.W.Frag} {mg : Str -> Option Value} {base : Heap} {N ps : List Str} {qual : Str} {scope : Scope} {f : Addr} {cd : Value} {A : Around} {outer : List Env} {s s1 : Shared} {H : Hp} {E : XK} {us : List Value} {vs : List V}
    (S : Ao N ps scope) (hd : A.handled = none) (e0 : Ag3 P w K mg base A outer s H) (hl : vs.length = ps.length) (r : Vals vs us)
    (x : InCallC s s.heap.objs.size (bindL (envOfC qual scope s.heap.objs.size f cd).kindOf (ps.zip us) fun _ => none) (cellsFrom (s.heap.objs.size + 1) scope.names []) (bindC (envOfC qual scope s.heap.objs.size f cd).kindOf (ps.zip us) fun _ => none) s1) :
    Inv (Rg CX P w K mg base N qual scope f cd A outer s H E) [] (start N vs) H s1 := by
  have hpl : ps.length <= N.length := by have := congrArg List.length S.pre; rw [List.length_take] at this; omega
  obtain ⟨h1, tk, rfl, hk⟩ := x.done
  have noA : ∀ b : Addr, b ∉ (Rg CX P w K mg base N qual scope f cd A outer s H E).ex := fun b z => absurd (show b ∈ ([] : List Addr) from z) (by simp)
  refine ⟨⟨e0.mod, S.kind, rfl, rfl, Nat.le_refl _, fun y z c h1 h2 => ?_, fun y hy => ?_, fun y c _ h => ?_, fun _ => hd, Around.frames_deeper e0.frames, .inr ⟨rfl, rfl⟩, fun b z => absurd z (noA b), e0.bs, e0.bsz, fun b _ _ => noA b, fun b z => absurd z (noA b), e0.funs, e0.frf⟩,
    rfl, e0.bare, Un.kept hk, ⟨_, x.toInCall.ns, fun i y v h1 h2 h3 => ?_⟩, fun y c h => ⟨_, x.cell y c h⟩, e0.hok.fresh (Nat.le_refl _), fun y c h => ?_, fun p hp => absurd (show p ∈ ([] : List (Addr × Obj)) from hp) (by simp), e0.hok.kept hk, ?_⟩
  . exact name_of_addr x.apart (PySem.mem_of_lookup h1) (PySem.mem_of_lookup h2)
  . have hy : scope.names.lookup y = some .cell \/ scope.names.lookup y = some .free := hy
    rcases hy with hy | hy
    . exact X3 hy
    . exact absurd rfl (S.nofree _ (PySem.mem_of_lookup hy))
  . exact Nat.le_of_lt (x.above y c (PySem.mem_of_lookup h))
  . have hi : i < vs.length := by
      unfold start at h2
      by_cases hi : i < vs.length
      . exact hi
      . rw [List.getElem?_append_right (by simpa using hi)] at h2
        rw [List.getElem?_replicate] at h2
        split at h2 <;> cases h2
    have ha : vs[i]? = some v := by
      unfold start at h2
      rw [List.getElem?_append_left (by simpa using hi), List.getElem?_map] at h2
      cases e : vs[i]? with
      | none => rw [e] at h2; cases h2
      | some a => rw [e] at h2; cases h2; rfl
    obtain ⟨u, hu, rv⟩ := r.get ha
    have hp : ps[i]? = some y := by
      rw [<- S.pre, List.getElem?_take_of_lt (by omega)]; exact h1
    have ndP : ps.Nodup := by rw [<- S.pre]; exact S.nd.sublist (List.take_sublist _ _)
    refine ⟨u, rv, ?_⟩
    rcases S.par y (List.mem_of_getElem? hp) with k | k
    . exact .inl ⟨k, U5 ndP hp hu k⟩
    . obtain ⟨c, e⟩ := X3 (n := s.heap.objs.size + 1) k
      refine .inr ⟨.inl k, c, e, ?_⟩
      have q := x.cell y c e
      rw [V7 ndP hp hu (by show scope.names.lookup y ≠ _; rw [k]; decide)] at q
      exact q
  . exact e0.hok.fresh (Nat.le_of_lt (x.above y c (PySem.mem_of_lookup h)))
  . unfold start
    show _ = N.length
    rw [List.length_append, List.length_map, List.length_replicate]
    omega
theorem Aiz {CX : CXT} {P : Program} {w : World} {K : PySem.W.Frag} {mg : Str -> Option Value} {base : Heap} {k : Nat} {f : Addr} {name qual : Str} {params : Arguments} {body : List Stmt} {scope : Scope} {dV kV doc pm cdv ct oc : Value} {an od : Option Addr}
    {osl : Array (Option Value)} {N ps : List Str} {sp : Sp} (lk : K.lookup f = some ⟨oc, od, .func (PySem.W.fnOf name qual params body scope dV kV doc pm an cdv ct), osl⟩) (hcd : PySem.W.codeIn K cdv qual = true) (S : Ao N ps scope)
    (len : ∀ vs H Q E, sp vs H Q E -> vs.length = ps.length)
    (hbody : ∀ (A : Around) (outer : List Env) (s : Shared) (H : Hp) (vs : List V) (Q : VK) (E : XK), M7 k (A.deeper (envOfC qual scope s.heap.objs.size f cdv)) -> sp vs H Q E ->
      ∃ t, PSs (Rg CX P w K mg base N qual scope f cdv A outer s H E) body t /\ t { nx := fun _ H' => Q .non H', rt := Q } (start N vs) H) :
    Sd P w K mg base CX (k + 1) f (PySem.W.fnOf name qual params body scope dV kV doc pm an cdv ct) ps sp := by
  refine ⟨len, fun A outer s H args us vs Q E hr e0 hb r hsp => ?_⟩
  have hl := len _ _ _ _ hsp
  have KX : K.In s.heap := e0.mod.kin.keeps fun b o e => (e0.bs b o e).1
  have lim : s.heap.NoLimit := e0.mod.nolimit.keeps fun b o e => (e0.bs b o e).1
  have hkind : ∀ y ∈ ps.zip us, scope.names.lookup y.1 = some .local \/ (scope.names.lookup y.1 = some .cell /\ ((cellsFrom (s.heap.objs.size + 1) scope.names []).lookup y.1).isSome = true) := fun ⟨n, v⟩ hy => by
    rcases S.par n (List.of_mem_zip hy).1 with q | q
    . exact .inl q
    . exact .inr ⟨q, PySem.W.cellsFrom_some _ _ _ (.inl q)⟩
  refine codeAny_call_function hr.depth (KX _ _ lk) rfl S.co S.gen rfl (PySem.W.codeRec_of KX hcd) (hb _ _ _ _ ?_)
  refine wpAny_newFunctionEnv_cells S.kind hkind fun env he s1 x => ?_
  subst he
  refine ⟨lim.keeps x.toInCall.keep, codeAny_func ?_⟩
  obtain ⟨t, ht, hq⟩ := hbody A outer s H vs Q E (hr.deeper _) hsp
  have I : Inv (Rg CX P w K mg base N qual scope f cdv A outer s H E) [] (start N vs) H s1 := Aa1 S hr.hd e0 hl r x
  refine wpAny_mono (ht [] s1 (start N vs) H _ I hq) (fun fl s' hs => ?_) fun e s' hs => hs
  have fin : ∀ {σ' : St} {H' : Hp} {v : V} {u : Value}, Inv (Rg CX P w K mg base N qual scope f cdv A outer s H E) [] σ' H' s' -> RelV v u -> Q v H' -> CE outer P w H s Q u s' :=
    fun {σ' H' v u} J rv q => ⟨v, H', J.os, J.bare, J.base, J.hok, rv, q⟩
  cases fl with
  | ret u =>
    obtain ⟨v, σ', H', J, rv, q⟩ := hs
    exact fin J rv q
  | next =>
    obtain ⟨σ', H', J, q⟩ := hs
    exact fin (v := V.non) (u := Value.none) J rfl q
  | brk =>
    obtain ⟨_, _, _, q⟩ := hs
    exact False.elim q
  | cont =>
    obtain ⟨_, _, _, q⟩ := hs
    exact False.elim q
end L2
namespace L2
open PySem PySem.Spec PyProof.Rows
section
variable {X : Cx} {x : Str} {p pos : Pos} {e : Expr} {es : List Expr} {t : TA} {id T : String} {r : List V -> Hp -> VK -> Prop}
def tCB (r : List V -> Hp -> VK -> Prop) (t : TA) : TE := fun σ H Q => t σ H fun vs H1 => r vs H1 Q
theorem Aey (hc : Ji X (.builtin id) r) (hg : Gl X x) (hm : X.mg x = none) (hv : bootBuiltins x = some (.builtin id)) (ha : PA X (e :: es) t) (hn : x ≠ "__name__" := by decide) (hdb : (x == ("__debug__" : Str)) = false := by decide)
    (he : starEach (e :: es) X.env = (false, eval e X.env) :: starEach es X.env := by rfl) (hpl : (backTo pos (starEach es X.env)).any (·.1) = false := by rfl) : PE X (.Call (.Name x p) (e :: es) [] pos) (tCB r t) := by
  intro pins s σ H Q I h
  refine wpAny_Call_Name_kw (Mh I hg hm hv ?_ hn hdb)
  exact PyProof.Rows.callWith_builtin1 (thn (ha pos pins s σ H _ I h) fun us s1 ⟨vs, H1, I1, r1, q1⟩ => hc pins s1 σ H1 vs us Q I1 r1 q1) he hpl
theorem Aat (hc : Ji X (.type T) r) (hg : Gl X x) (hm : X.mg x = none) (hv : bootBuiltins x = some (.type T)) (ha : PA X (e :: es) t) (hn : x ≠ "__name__" := by decide) (hdb : (x == ("__debug__" : Str)) = false := by decide)
    (he : starEach (e :: es) X.env = (false, eval e X.env) :: starEach es X.env := by rfl) (hpl : (backTo pos (starEach es X.env)).any (·.1) = false := by rfl) : PE X (.Call (.Name x p) (e :: es) [] pos) (tCB r t) := by
  intro pins s σ H Q I h
  refine wpAny_Call_Name_kw (Mh I hg hm hv ?_ hn hdb)
  exact PyProof.Rows.callWith_type1 (thn (ha pos pins s σ H _ I h) fun us s1 ⟨vs, H1, I1, r1, q1⟩ => hc pins s1 σ H1 vs us Q I1 r1 q1) he hpl
end
end L2
namespace HT
open PySem PyProof.Rows
section
variable {prog : Program} {w : World} {A : Around} {E : Value -> Shared -> Prop} {s : Shared}
theorem Agi {t b : Addr} {vs ws : List Value} {Q : Value -> Shared -> Prop} (ht : IsTup s.heap t vs.toArray) (hb : IsTup s.heap b ws.toArray) (hv : vs ≠ [])
    (h1 : ws = [] -> Q (.ref t) s) (h2 : ws ≠ [] -> Q (.ref s.heap.objs.size) { s with heap := s.heap.push { cls := .type "tuple", data := .seq (vs ++ ws).toArray } })
    (hsz : vs.length + ws.length <= sizeLine) : wpAny (model prog w) A (binaryOp .Add (.ref t) (.ref b)) Q E s := by
  obtain ⟨⟨cls, dd, data, sl⟩, ho, hc, n, hd⟩ := id ht
  obtain ⟨⟨cls2, dd2, data2, sl2⟩, ho2, hc2, n2, hd2⟩ := id hb
  simp only at hc hd hc2 hd2
  subst hc hd hc2 hd2
  have e : vs.toArray ++ ws.toArray = (vs ++ ws).toArray := by simp
  by_cases hw : ws = []
  . exact concat_meets ⟨_, ho, rfl⟩ ⟨_, ho2, rfl⟩ noFill_tuple_add seq_tuple_add PySem.F.slot_tuple_add PySem.F.entry_tuple_add (PySem.F.args_tuple_add_2 _ _)
      (tuple_addW1 t b vs.toArray ws.toArray n n2 dd dd2 sl sl2 (by simpa using hv) (by simp [hw])) ⟨ho, ho2, h1 hw⟩
  . refine concat_meets ⟨_, ho, rfl⟩ ⟨_, ho2, rfl⟩ noFill_tuple_add seq_tuple_add PySem.F.slot_tuple_add PySem.F.entry_tuple_add (PySem.F.args_tuple_add_2 _ _)
      (tuple_addW2 t b vs.toArray ws.toArray n n2 dd dd2 sl sl2 (by simpa using hv) (by simpa using hw) (by rw [List.size_toArray, List.size_toArray]; exact hsz)) ⟨ho, ho2, ?_⟩
    rw [e]
    exact h2 hw
def sIx (n d : Nat) : Option Int -> Nat
  | none => d
  | some v => if v < 0 then (v + (n : Int)).toNat else min v.toNat n
theorem O4 (n d : Nat) : sIx n d none = d := rfl
theorem U3 (n d k : Nat) : sIx n d (some (k : Int)) = min k n := by
  show (if (k : Int) < 0 then ((k : Int) + (n : Int)).toNat else min (k : Int).toNat n) = min k n
  rw [if_neg (by omega), Int.toNat_natCast]
theorem Aje (n d : Nat) (hd : d <= n) (o : Option Int) : sIx n d o <= n := by
  cases o with
  | none => exact hd
  | some v =>
    show (if v < 0 then (v + (n : Int)).toNat else min v.toNat n) <= n
    by_cases hv : v < 0
    . rw [if_pos hv]; omega
    . rw [if_neg hv]; exact Nat.min_le_right _ _
theorem Aa9 (v : Int) (n d : Nat) : (if v < 0 then max (v + (n : Int)) 0 else min v (n : Int)) = ((sIx n d (some v) : Nat) : Int) := by
  show (if v < 0 then max (v + (n : Int)) 0 else min v (n : Int)) = (((if v < 0 then (v + (n : Int)).toNat else min v.toNat n) : Nat) : Int)
  by_cases hv : v < 0
  . simp only [if_pos hv]; omega
  . simp only [if_neg hv]; omega
theorem Zw (lo hi : Option Int) (n : Nat) : Builtin.Slice.sliceAdjust lo hi 1 (n : Int) = (((sIx n 0 lo : Nat) : Int), ((sIx n n hi : Nat) : Int)) := by
  have h1 : ¬ ((1 : Int) < 0) := by omega
  unfold Builtin.Slice.sliceAdjust
  simp only [h1, if_false]
  refine Prod.ext ?_ ?_
  . cases lo with
    | none => rfl
    | some v => exact Aa9 v n 0
  . cases hi with
    | none => rfl
    | some v => exact Aa9 v n n
theorem Z0 (i j : Nat) : Builtin.Slice.slicePlaces (i : Int) (j : Int) 1 = j - i := by
  unfold Builtin.Slice.slicePlaces
  have h1 : (1 : Int) > 0 := by omega
  simp only [h1, if_true, Int.ediv_one]
  split <;> omega
theorem Tc {v : Value} {o : Option Int} {Q : Option Int -> Shared -> Prop} (p : IsPart v o) (h : Q o s) : wpAny (model prog w) A (Builtin.Slice.slicePartIndex v) Q E s := by
  cases p with
  | none => exact slicePart_none h
  | int i t => exact slicePart_int h
theorem J7 {sl : Addr} {vl vu : Value} {lo hi : Option Int} {n : Nat} {Q : Int × Int × Nat -> Shared -> Prop} (hs : s.heap.IsSliceOf sl vl vu .none) (pl : IsPart vl lo) (pu : IsPart vu hi)
    (h : Q (((sIx n 0 lo : Nat) : Int), 1, sIx n n hi - sIx n 0 lo) s) : wpAny (model prog w) A (Builtin.Slice.sliceApplied (.ref sl) (pure (n : Int))) Q E s := by
  obtain ⟨os, hos, hcs, hds⟩ := id hs
  unfold Builtin.Slice.sliceApplied Builtin.Slice.sliceFields
  refine wpAny_bind (wpAny_bind (wpAny_field hos hds (x := vl) rfl (wpAny_bind (wpAny_field hos hds (x := vu) rfl (wpAny_bind (wpAny_field hos hds (x := .none) rfl (wpAny_pure ?_)))))))
  refine wpAny_bind (slicePart_none ?_)
  show wpAny _ _ (if ((1 : Int) == 0) = true then _ else _) _ _ s
  rw [if_neg (by decide)]
  refine wpAny_bind (Tc pl (wpAny_bind (Tc pu (wpAny_bind (wpAny_pure ?_)))))
  show wpAny _ _ (match Builtin.Slice.sliceAdjust lo hi 1 (n : Int) with | (lo, hi) => pure (lo, (1 : Int), Builtin.Slice.slicePlaces lo hi 1)) _ _ s
  rw [Zw lo hi n]
  show wpAny _ _ (pure (((sIx n 0 lo : Nat) : Int), (1 : Int), Builtin.Slice.slicePlaces ((sIx n 0 lo : Nat) : Int) ((sIx n n hi : Nat) : Int) 1)) _ _ s
  rw [Z0]
  exact wpAny_pure h
theorem Aec (xs : Array Value) (i k : Nat) : ((List.range k).filterMap fun (m : Nat) => xs[((i : Int) + (m : Int) * 1).toNat]?).toArray = ((xs.toList.drop i).take k).toArray := by
  have e : (fun (m : Nat) => xs[((i : Int) + (m : Int) * 1).toNat]?) = fun m => xs[i + m]? := by
    funext m
    have : ((i : Int) + (m : Int) * 1).toNat = i + m := by omega
    rw [this]
  rw [e]
  have := pick_run xs i k
  rw [List.filterMap_map] at this
  have e2 : ((fun x => xs[x]?) ∘ fun x => i + x) = fun m => xs[i + m]? := rfl
  rw [e2] at this
  rw [this]
theorem Nz {t sl : Addr} {items : Array Value} {vl vu : Value} {lo hi : Option Int} {Q : Value -> Shared -> Prop} (ht : IsTup s.heap t items) (hs : s.heap.IsSliceOf sl vl vu .none) (pl : IsPart vl lo) (pu : IsPart vu hi)
    (hw : ¬ (sIx items.size 0 lo = 0 /\ sIx items.size items.size hi = items.size))
    (h : Q (.ref s.heap.objs.size) { s with heap := s.heap.push { cls := .type "tuple", data := .seq ((items.toList.drop (sIx items.size 0 lo)).take (sIx items.size items.size hi - sIx items.size 0 lo)).toArray } })
    (hsz : items.size <= sizeLine) : wpAny (model prog w) A (getItem (.ref t) (.ref sl)) Q E s := by
  have htake : sizeOk (.seq ((items.toList.drop (sIx items.size 0 lo)).take (sIx items.size items.size hi - sIx items.size 0 lo)).toArray) := by
    show ((items.toList.drop (sIx items.size 0 lo)).take (sIx items.size items.size hi - sIx items.size 0 lo)).toArray.size <= sizeLine
    rw [List.size_toArray, List.length_take, List.length_drop, Array.length_toList]
    omega
  have hj : sIx items.size items.size hi <= items.size := Aje _ _ (Nat.le_refl _) hi
  obtain ⟨os, hos, hcs, hds⟩ := id hs
  have hTs : s.TypeIs (.ref sl) "slice" := ⟨os, hos, hcs⟩
  unfold getItem
  try with_reducible refine wpAny_holding ?_
  first | refine wpAny_bind (wpAny_pure ?_) | skip
  refine wpAny_bind (wpAny_sequenceKey ht.typeIs (by decide) ?_)
  refine wpAny_bind (wpAny_callSpecial?_slot (name := Str.ofString "__getitem__") ht.typeIs PyProof.Rows.slot_tuple_getitem
    (wpAny_call_entry PyProof.Rows.slot_tuple_getitem ht.typeIs entry_tuple_getitem ?_ (args_tuple_getitem _ _)))
  show wpAny _ _ (Builtin.Tuple.tupleItemsOf (.ref t) >>= _) _ _ s
  refine wpAny_bind (tupleItemsOf_ ht ?_)
  refine wpAny_bind (wpAny_typeOf hTs ?_)
  rw [if_pos (by decide)]
  refine wpAny_bind (J7 hs pl pu ?_)
  have hno : ¬ ((((sIx items.size 0 lo : Nat) : Int) == 0 && (1 : Int) == 1 && (sIx items.size items.size hi - sIx items.size 0 lo) == items.size) = true) := by
    intro q
    rw [Bool.and_eq_true, Bool.and_eq_true] at q
    have q1 : ((sIx items.size 0 lo : Nat) : Int) = 0 := eq_of_beq q.1.1
    have q2 : sIx items.size items.size hi - sIx items.size 0 lo = items.size := eq_of_beq q.2
    exact hw ⟨by omega, by omega⟩
  show wpAny _ _ (if (((sIx items.size 0 lo : Nat) : Int) == 0 && (1 : Int) == 1 && (sIx items.size items.size hi - sIx items.size 0 lo) == items.size) = true then _ else _) _ _ s
  rw [if_neg hno, Aec]
  first
    | exact wpAny_bind (m := Builtin.Tuple.tupleExact _) (wpAny_newObj_type (wpAny_pure ⟨_, rfl, wpAny_pure h⟩) htake)
    | exact wpAny_bind (m := Builtin.Tuple.tupleExact _) (wpAny_newObj_type (wpAny_bind (wpAny_pure (wpAny_pure ⟨_, rfl, wpAny_pure h⟩))) htake)
    | exact wpAny_bind (wpAny_bind (m := Builtin.Tuple.tupleExact _) (wpAny_newObj_type (wpAny_pure (wpAny_pure ⟨_, rfl, wpAny_pure h⟩)) htake))
    | exact wpAny_bind (wpAny_bind (m := Builtin.Tuple.tupleExact _) (wpAny_newObj_type (wpAny_pure ⟨_, rfl, wpAny_pure h⟩) htake))
end
end HT
namespace L2
open PySem PySem.Spec PyProof.Rows
abbrev TO := St -> Hp -> (Option Int -> Hp -> Prop) -> Prop
def PO (X : Cx) (e : Option Expr) (t : TO) : Prop :=
  ∀ (pins : List (Addr × Obj)) (s : Shared) (σ : St) (H : Hp) (Q : Option Int -> Hp -> Prop), Inv X pins σ H s -> t σ H Q ->
    wpAny (model X.prog X.w) X.A (evalPart e X.env) (fun u s' => ∃ o H', Inv X pins σ H' s' /\ IsPart u o /\ Q o H') X.xe s
def W7 : TO := fun _ H Q => Q none H
def Agm (t : TE) : TO := fun σ H Q => t σ H fun x H1 => ∃ i, x = .int i /\ Q (some i) H1
section
variable {X : Cx} {e : Expr} {te : TE} {lo hi : Option Expr} {tl th : TO} {pos p2 : Pos}
theorem Nr : PO X none W7 := by
  intro pins s σ H Q I h
  rw [evalPart_none]
  exact wpAny_pure ⟨none, H, I, .none, h⟩
theorem Ni (h : PE X e te) : PO X (some e) (Agm te) := by
  intro pins s σ H Q I hw
  rw [evalPart_some]
  refine thn (h pins s σ H _ I hw) fun u s1 ⟨x, H1, I1, r1, q1⟩ => ?_
  obtain ⟨i, rfl, q⟩ := q1
  obtain ⟨t, rfl⟩ := r1
  exact ⟨some i, H1, I1, .int i t, q⟩
def SlR (X : Cx) (r : V -> Option Int -> Option Int -> Hp -> VK -> Prop) : Prop :=
  ∀ (pins : List (Addr × Obj)) (s : Shared) (σ : St) (H : Hp) (x : V) (v vl vu : Value) (lo hi : Option Int) (sl : Addr) (Q : VK), Inv X pins σ H s -> RelV x v -> s.heap.IsSliceOf sl vl vu .none -> IsPart vl lo -> IsPart vu hi -> r x lo hi H Q ->
    ∃ T id, typeLookup (.type T) "__getitem__" = pure (some (.builtin id)) /\ s.TypeIs v T /\ wpAny (model X.prog X.w) X.A (getItem v (.ref sl)) (EP X pins σ Q) X.xe s
theorem SlR.or {r r' : V -> Option Int -> Option Int -> Hp -> VK -> Prop} (h : SlR X r) (h' : SlR X r') : SlR X (fun x lo hi H Q => r x lo hi H Q \/ r' x lo hi H Q) := by
  intro pins s σ H x v vl vu lo hi sl Q I rx hs pl pu q
  rcases q with q | q
  . exact h pins s σ H x v vl vu lo hi sl Q I rx hs pl pu q
  . exact h' pins s σ H x v vl vu lo hi sl Q I rx hs pl pu q
def tSl (r : V -> Option Int -> Option Int -> Hp -> VK -> Prop) (te : TE) (tl th : TO) : TE := fun σ H Q => te σ H fun x H1 => tl σ H1 fun l H2 => th σ H2 fun u H3 => r x l u H3 Q
theorem K6 {r : V -> Option Int -> Option Int -> Hp -> VK -> Prop} (hr : SlR X r) (he : PE X e te) (hl : PO X lo tl) (hu : PO X hi th) : PE X (.Subscript e (.Slice lo hi none p2) pos) (tSl r te tl th) := by
  intro pins s σ H Q I h
  refine Subscript_ (thn (he pins s σ H _ I h) fun v s1 ⟨x, H1, I1, r1, q1⟩ => ?_)
  refine wpAny_Slice (thn (hl pins s1 σ H1 _ I1 q1) fun vl s2 ⟨l, H2, I2, pl, q2⟩ => thn (hu pins s2 σ H2 _ I2 q2) fun vu s3 ⟨u, H3, I3, pu, q3⟩ => ?_)
  rw [evalPart_none]
  refine wpAny_pure ?_
  have I4 : Inv X pins σ H3 { s3 with heap := s3.heap.push { cls := .type "slice", data := .fields #[vl, vu, .none] } } := I3.kept (t' := s3.toks) fun b ob q => Heap.get?_push_of_some _ q
  obtain ⟨T, id, hT, ht, hg⟩ := hr pins { s3 with heap := s3.heap.push { cls := .type "slice", data := .fields #[vl, vu, .none] } } σ H3 x v vl vu l u s3.heap.objs.size Q I4 r1 (Heap.IsSliceOf.new ..) pl pu q3
  show wpAny (model X.prog X.w) X.A (subscriptTail e (.Slice lo hi none p2) v (.ref s3.heap.objs.size)) (EP X pins σ Q) X.xe { s3 with heap := s3.heap.push { cls := .type "slice", data := .fields #[vl, vu, .none] } }
  exact tail_any (ops := [.ref s3.heap.objs.size, v]) ht hT hg (by with_unfolding_all rfl)
def Tt (xs : List V) (lo hi : Option Int) : List V := (xs.drop (HT.sIx xs.length 0 lo)).take (HT.sIx xs.length xs.length hi - HT.sIx xs.length 0 lo)
theorem Qe (xs : List V) (lo hi : Option Int) : (Tt xs lo hi).length <= xs.length := by
  unfold Tt
  rw [List.length_take, List.length_drop]
  omega
def Al3 (K : PySem.W.Frag) : V -> Option Int -> Option Int -> Hp -> VK -> Prop := fun x lo hi H Q => ∃ a xs, x = .ref a /\ SqT K H a xs /\
  ¬ (HT.sIx xs.length 0 lo = 0 /\ HT.sIx xs.length xs.length hi = xs.length) /\ ∀ p, H p = none -> Q (.ref p) (upd H p (.tup (Tt xs lo hi)))
theorem Aj7 : SlR X (Al3 X.K) := by
  intro pins s σ H x v vl vu lo hi sl Q I rx hs pl pu h
  obtain ⟨a, xs, rfl, hx, hw, q⟩ := h
  cases rx
  obtain ⟨its, r, ht, hz⟩ := I.tuple hx
  have hlen : its.toArray.size = xs.length := by rw [List.size_toArray]; exact r.length.symm
  refine ⟨"tuple", _, PyProof.Rows.slot_tuple_getitem.lookup, ht.typeIs, ?_⟩
  refine HT.Nz ht hs pl pu (by rw [hlen]; exact hw) ?_ (by rw [hlen]; exact hz)
  rw [hlen]
  refine ⟨.ref s.heap.objs.size, _, I.laid (t' := s.toks) (o := .tup (Tt xs lo hi)) (fun b ob q => Heap.get?_push_of_some _ q) (Nat.le_refl _) ?_, rfl, q _ (I.hok.fresh (Nat.le_refl _))⟩
  exact ⟨Nat.le_trans (Qe xs lo hi) hz, _, (r.drop (HT.sIx xs.length 0 lo)).take (HT.sIx xs.length xs.length hi - HT.sIx xs.length 0 lo), IsTup.new _ _⟩
def Alj (K : PySem.W.Frag) : R2 := fun x y H Q => ∃ a b xs ys, x = .ref a /\ y = .ref b /\ SqT K H a xs /\ SqT K H b ys /\ xs ≠ [] /\ xs.length + ys.length <= sizeLine /\
  (ys = [] -> Q (.ref a) H) /\ (ys ≠ [] -> ∀ p, H p = none -> Q (.ref p) (upd H p (.tup (xs ++ ys))))
theorem Vals.nil_iff {xs : List V} {us : List Value} (r : Vals xs us) : us = [] ↔ xs = [] := by
  cases r with
  | nil => simp
  | cons _ _ => simp
theorem Agq : OpR X (binaryOp .Add) (Alj X.K) := by
  intro pins s σ H x y v u Q I rx ry h
  obtain ⟨a, b, xs, ys, rfl, rfl, ha, hb, hx, hz, q1, q2⟩ := h
  cases rx
  cases ry
  obtain ⟨its, r1, p1, _⟩ := I.tuple ha
  obtain ⟨its2, r2, p2, _⟩ := I.tuple hb
  refine HT.Agi p1 p2 (fun z => hx (r1.nil_iff.mp z)) (fun z => ⟨.ref a, H, I, rfl, q1 (r2.nil_iff.mp z)⟩) (fun z => ?_) (by rw [<- r1.length, <- r2.length]; exact hz)
  refine ⟨.ref s.heap.objs.size, _, I.laid (t' := s.toks) (o := .tup (xs ++ ys)) (fun b ob q => Heap.get?_push_of_some _ q) (Nat.le_refl _) ?_, rfl, q2 (fun w => z (r2.nil_iff.mpr w)) _ (I.hok.fresh (Nat.le_refl _))⟩
  exact ⟨by rw [List.length_append]; exact hz, _, r1.append r2, IsTup.new _ _⟩
end
end L2
namespace L2
open PySem PySem.Spec PyProof.Rows
def ixN (n : Nat) (i : Int) : Option Nat := if 0 <= i then (if i < n then some i.toNat else none) else if -(n : Int) <= i then some (i + n).toNat else none
def atI {α : Type} (xs : List α) (i : Int) : Option α := (ixN xs.length i).bind fun j => xs[j]?
theorem Ada {n : Nat} {i : Int} {j : Nat} (h : ixN n i = some j) : seqIndex? i n = some j /\ j < n /\ -(n : Int) <= i /\ i < n := by
  unfold ixN at h
  by_cases h0 : 0 <= i
  . rw [if_pos h0] at h
    by_cases h1 : i < n
    . rw [if_pos h1] at h
      have e : i.toNat = j := Option.some.inj h
      exact ⟨by rw [seqIndex_of h0 h1, e], by omega, by omega, h1⟩
    . rw [if_neg h1] at h; cases h
  . rw [if_neg h0] at h
    by_cases h1 : -(n : Int) <= i
    . rw [if_pos h1] at h
      have e : (i + n).toNat = j := Option.some.inj h
      exact ⟨by rw [seqIndex_neg (by omega) h1, e], by omega, h1, by omega⟩
    . rw [if_neg h1] at h; cases h
theorem Ack {α : Type} {xs : List α} {i : Int} {v : α} (h : atI xs i = some v) : ∃ j, seqIndex? i xs.length = some j /\ xs[j]? = some v /\ j < xs.length /\ -(xs.length : Int) <= i /\ i < xs.length := by
  unfold atI at h
  cases e : ixN xs.length i with
  | none => rw [e] at h; cases h
  | some j =>
    rw [e] at h
    obtain ⟨h1, h2, h3, h4⟩ := Ada e
    exact ⟨j, h1, h, h2, h3, h4⟩
theorem Jc {α : Type} {xs : List α} {j : Nat} {v : α} (h : xs[j]? = some v) : atI xs (j : Int) = some v := by
  have hj : j < xs.length := (List.getElem?_eq_some_iff.mp h).1
  have e : ixN xs.length (j : Int) = some j := by
    unfold ixN
    rw [if_pos (by omega), if_pos (by omega)]; simp
  unfold atI; rw [e]; exact h
theorem Pg {α : Type} (xs : List α) (v : α) : atI (xs ++ [v]) (-1) = some v := by
  have hl : (xs ++ [v]).length = xs.length + 1 := by simp
  have e : ixN (xs ++ [v]).length (-1) = some xs.length := by
    unfold ixN
    rw [hl, if_neg (by decide), if_pos (by omega)]
    congr 1
    omega
  unfold atI
  rw [e]
  show (xs ++ [v])[xs.length]? = some v
  simp
def Acv (b : Expr) : Prop := ∀ o i, subscripted b false o i = operate [o, i] (getItem o i)
def IxR (X : Cx) (r : R2) : Prop :=
  ∀ (value slice : Expr) (pins : List (Addr × Obj)) (s : Shared) (σ : St) (H : Hp) (x y : V) (v u : Value) (Q : VK), Inv X pins σ H s -> RelV x v -> RelV y u -> r x y H Q ->
    subscripted slice false v u = operate [v, u] (getItem v u) -> wpAny (model X.prog X.w) X.A (subscriptTail value slice v u) (EP X pins σ Q) X.xe s
def MtR (X : Cx) (id : String) (r : V -> List V -> Hp -> VK -> Prop) : Prop :=
  ∀ (pins : List (Addr × Obj)) (s : Shared) (σ : St) (H : Hp) (x : V) (xs : List V) (v : Value) (us : List Value) (Q : VK), Inv X pins σ H s -> RelV x v -> Vals xs us -> r x xs H Q ->
    wpAny (model X.prog X.w) X.A (call (.builtin id) (v :: us)) (EP X pins σ Q) X.xe s
section
variable {X : Cx} {a b : Expr} {ta tb : TE} {pos : Pos}
theorem IxR.or {r r' : R2} (h : IxR X r) (h' : IxR X r') : IxR X (fun x y H Q => r x y H Q \/ r' x y H Q) := by
  intro value slice pins s σ H x y v u Q I rx ry q hs
  rcases q with q | q
  . exact h value slice pins s σ H x y v u Q I rx ry q hs
  . exact h' value slice pins s σ H x y v u Q I rx ry q hs
theorem MtR.or {id : String} {r r' : V -> List V -> Hp -> VK -> Prop} (h : MtR X id r) (h' : MtR X id r') : MtR X id (fun x xs H Q => r x xs H Q \/ r' x xs H Q) := by
  intro pins s σ H x xs v us Q I rx rs q
  rcases q with q | q
  . exact h pins s σ H x xs v us Q I rx rs q
  . exact h' pins s σ H x xs v us Q I rx rs q
theorem Az {r : R2} (hr : IxR X r) (ha : PE X a ta) (hb : PE X b tb) (hs : Acv b) : PE X (.Subscript a b pos) (tOp r ta tb) := by
  intro pins s σ H Q I h
  exact Subscript_ (Akl ha hb I h fun v u s2 x y H2 I2 rx ry q => hr a b pins s2 σ H2 x y v u Q I2 rx ry q (hs _ _))
def Ake (K : PySem.W.Frag) : R2 := fun x y H Q => ∃ p xs i v, x = .ref p /\ y = .int i /\ SqL K H p xs /\ atI xs i = some v /\ Q v H
def Aib (K : PySem.W.Frag) : R2 := fun x y H Q => ∃ p xs i v, x = .ref p /\ y = .int i /\ SqT K H p xs /\ atI xs i = some v /\ Q v H
theorem Dj : IxR X (Ake X.K) := by
  intro value slice pins s σ H x y v u Q I rx ry h hs
  obtain ⟨p, xs, i, z, rfl, rfl, hq, he, q⟩ := h
  cases rx
  obtain ⟨t, rfl⟩ := ry
  obtain ⟨its, r, pl, hz⟩ := I.list hq
  obtain ⟨j, h1, h2, h3, h4, h5⟩ := Ack he
  obtain ⟨w, ew, rw'⟩ := r.get h2
  have hl := r.length
  have hn := S5
  have fin : EP X pins σ Q w s := ⟨z, H, I, rw', q⟩
  by_cases h0 : 0 <= i
  . have hj : i.toNat = j := by
      rw [seqIndex_of h0 h5] at h1
      exact Option.some.inj h1
    exact item_listR pl.isList h0 (by omega) (by rw [hj]; simpa using ew) fin hs
  . have hj : (i + (its.toArray.size : Int)).toNat = j := by
      rw [seqIndex_neg (by omega) h4] at h1
      rw [List.size_toArray, <- hl]
      exact Option.some.inj h1
    exact subscriptTail_builtinR (x := w) pl.isList.typeIs slot_list_getitem.lookup
      (wpAny_getItem_list_neg (Q := fun r s' => r = w /\ EP X pins σ Q r s') pl.isList (by omega) (by rw [List.size_toArray] <;> omega) (by omega) (by rw [hj]; simpa using ew) ⟨rfl, fin⟩) hs
theorem Av : IxR X (Aib X.K) := by
  intro value slice pins s σ H x y v u Q I rx ry h hs
  obtain ⟨p, xs, i, z, rfl, rfl, hq, he, q⟩ := h
  cases rx
  obtain ⟨t, rfl⟩ := ry
  obtain ⟨its, r, pl, hz⟩ := I.tuple hq
  obtain ⟨j, h1, h2, h3, h4, h5⟩ := Ack he
  obtain ⟨w, ew, rw'⟩ := r.get h2
  have hl := r.length
  have hn := S5
  have fin : EP X pins σ Q w s := ⟨z, H, I, rw', q⟩
  exact subscriptTail_builtinR (x := w) pl.typeIs slot_tuple_getitem.lookup
    (getItem_tuple (j := j) (Q := fun r s' => r = w /\ EP X pins σ Q r s') pl (by omega) (by omega) (by rw [List.size_toArray, <- hl]; exact h1) (by simpa using ew) ⟨rfl, fin⟩) hs
theorem Aaa (its : List Value) (n j : Nat) (u : Value) : Obj.mapSeq (·.setIfInBounds j u) { cls := .type "list", data := .seq its.toArray n } = { cls := .type "list", data := .seq (its.set j u).toArray n } := by
  simp [Obj.mapSeq]
theorem Inv.lst {pins : List (Addr × Obj)} {σ : St} {H : Hp} {s : Shared} {p : Addr} {xs : List V} (I : Inv X pins σ H s) (h : H p = some (.lst xs)) :
    ∃ (its : List Value) (n : Nat), Vals xs its /\ s.heap.get? p = some { cls := .type "list", data := .seq its.toArray n } /\ xs.length <= sizeLine := by
  obtain ⟨z, its, n, r, e⟩ := I.hok p _ h
  exact ⟨its, n, r, e, z⟩
theorem Inv.lstUpd {pins : List (Addr × Obj)} {σ : St} {H : Hp} {s : Shared} {p : Addr} {xs ys : List V} {its its' : List Value} {n n' : Nat} {f : Obj -> Obj} (I : Inv X pins σ H s) (h : H p = some (.lst xs))
    (ho : s.heap.get? p = some { cls := .type "list", data := .seq its.toArray n }) (hf : f { cls := .type "list", data := .seq its.toArray n } = { cls := .type "list", data := .seq its'.toArray n' }) (r : Vals ys its') (hz : ys.length <= sizeLine) (t : Nat) :
    Inv X pins σ (upd H p (.lst ys)) { s with heap := s.heap.update p f, toks := t } := by
  have e : (s.heap.update p f).get? p = some { cls := .type "list", data := .seq its'.toArray n' } := by
    rw [Heap.get?_update_self f ho (by rw [hf] <;> rfl), hf]
  refine I.write (x := p) (e := p) (by rw [h]; trivial) (.inl rfl) (fun b u hb q => (Heap.get?_update_other _ _ (Ne.symm hb)).trans q) ⟨_, e⟩ ?_
  exact ⟨hz, its', n', r, e⟩
def Ai7 : V -> V -> V -> Hp -> (Hp -> Prop) -> Prop := fun o i v H Q => ∃ p xs k j, o = .ref p /\ i = .int k /\ H p = some (.lst xs) /\ ixN xs.length k = some j /\ Q (upd H p (.lst (xs.set j v)))
theorem set_list : Aln X Ai7 := by
  intro pins s σ H o i v ov iv u Q I ro ri rv h
  obtain ⟨p, xs, k, j, rfl, rfl, hp, hj, q⟩ := h
  cases ro
  obtain ⟨t, rfl⟩ := ri
  obtain ⟨its, n, r, ho, hz⟩ := I.lst hp
  obtain ⟨h1, h2, h3, h4⟩ := Ada hj
  have hl := r.length
  have hn := S5
  have I' : Inv X pins σ (upd H p (.lst (xs.set j v))) { s with heap := s.heap.update p (Obj.mapSeq (·.setIfInBounds j u)) } :=
    I.lstUpd hp ho (Aaa its n j u) (r.set rv j) (by rw [List.length_set]; exact hz) s.toks
  by_cases h0 : 0 <= k
  . have hk : k.toNat = j := by
      rw [seqIndex_of h0 h4] at h1
      exact Option.some.inj h1
    exact PySem.W.ki_setAt ho h0 (by omega) (by rw [List.size_toArray, <- hl]; exact h4) (by rw [hk]; exact ⟨_, I', q⟩)
  . have hk : (k + (its.toArray.size : Int)).toNat = j := by
      rw [seqIndex_neg (by omega) h3] at h1
      rw [List.size_toArray, <- hl]
      exact Option.some.inj h1
    exact PySem.W.ki_setBack ho (by omega) (by rw [List.size_toArray, <- hl]; exact h3) (by omega) (by rw [hk]; exact ⟨_, I', q⟩)
theorem Vo (lo hi : Option Int) (n : Nat) : (sliceBounds lo hi none n).1 = ((HT.sIx n 0 lo : Nat) : Int) /\ (sliceBounds lo hi none n).2.1 = ((HT.sIx n n hi : Nat) : Int) /\ (sliceBounds lo hi none n).2.2 = 1 := by
  refine ⟨?_, ?_, rfl⟩
  . cases lo with
    | none => simp [sliceBounds, HT.sIx]
    | some i =>
      simp only [sliceBounds, HT.sIx, Option.getD_none, show (1 : Int) > 0 by decide, if_true]
      by_cases h : i < 0
      . simp only [h, if_true] <;> omega
      . simp only [h, if_false] <;> omega
  . cases hi with
    | none => simp [sliceBounds, HT.sIx]
    | some i =>
      simp only [sliceBounds, HT.sIx, Option.getD_none, show (1 : Int) > 0 by decide, if_true]
      by_cases h : i < 0
      . simp only [h, if_true] <;> omega
      . simp only [h, if_false] <;> omega
theorem Ud (its : List Value) (lo hi : Option Int) : slicePick its.toArray lo hi none = ((its.drop (HT.sIx its.length 0 lo)).take (HT.sIx its.length its.length hi - HT.sIx its.length 0 lo)).toArray := by
  obtain ⟨h1, h2, h3⟩ := Vo lo hi its.toArray.size
  unfold slicePick
  rw [h1, h2, h3]
  simp only [sliceRange_one, pick_run, List.size_toArray] <;> rfl
def Al5 (K : PySem.W.Frag) : V -> Option Int -> Option Int -> Hp -> VK -> Prop := fun x lo hi H Q => ∃ a xs, x = .ref a /\ SqL K H a xs /\ ∀ p, H p = none -> Q (.ref p) (upd H p (.lst (Tt xs lo hi)))
theorem Ac0 : SlR X (Al5 X.K) := by
  intro pins s σ H x v vl vu lo hi sl Q I rx hs pl pu h
  obtain ⟨a, xs, rfl, hx, q⟩ := h
  cases rx
  obtain ⟨its, r, ht, hz⟩ := I.list hx
  have hlen := r.length
  refine ⟨"list", _, slot_list_getitem.lookup, ht.isList.typeIs, ?_⟩
  refine wpAny_getItem_list_slice ht.isList hs pl pu .none (by simp) ?_ (by rw [List.size_toArray] <;> omega)
  rw [Ud, <- hlen]
  refine ⟨.ref s.heap.objs.size, _, I.laid (t' := s.toks) (o := .lst (Tt xs lo hi)) (fun b ob q => Heap.get?_push_of_some _ q) (Nat.le_refl _) ?_, rfl, q _ (I.hok.fresh (Nat.le_refl _))⟩
  exact ⟨Nat.le_trans (Qe xs lo hi) hz, _, 0, (r.drop (HT.sIx xs.length 0 lo)).take (HT.sIx xs.length xs.length hi - HT.sIx xs.length 0 lo), Heap.get?_push_size _ rfl⟩
theorem Aq : Ji X (.builtin "len") (fun xs H Q => ∃ p ys, xs = [.ref p] /\ (SqL X.K H p ys \/ SqT X.K H p ys) /\ Q (.int ys.length) H) := by
  intro pins s σ H xs us Q I r h
  obtain ⟨p, ys, rfl, hq, q⟩ := h
  obtain ⟨u, rfl, rx⟩ := vals1 r
  cases rx
  have hn := S5
  rcases hq with hq | hq
  . obtain ⟨its, r', pl, hz⟩ := I.list hq
    have hlen := r'.length
    exact Calls.call_len_list pl.isList (by simp only [List.size_toArray] <;> omega) ⟨.int ys.length, H, I.tok _, ⟨s.toks + 1, by rw [List.size_toArray, hlen]⟩, q⟩
  . obtain ⟨its, r', pl, hz⟩ := I.tuple hq
    have hlen := r'.length
    exact len_tuple pl (by simp only [List.size_toArray] <;> omega) ⟨.int ys.length, H, I.tok _, ⟨s.toks + 1, by rw [List.size_toArray, hlen]⟩, q⟩
theorem Ji.or {f : Value} {r r' : List V -> Hp -> VK -> Prop} (h : Ji X f r) (h' : Ji X f r') : Ji X f (fun xs H Q => r xs H Q \/ r' xs H Q) := by
  intro pins s σ H xs us Q I rs q
  rcases q with q | q
  . exact h pins s σ H xs us Q I rs q
  . exact h' pins s σ H xs us Q I rs q
theorem Dk : Ji X (.type "list") (fun xs H Q => ∃ p ys, xs = [.ref p] /\ (SqL X.K H p ys \/ SqT X.K H p ys) /\ ∀ l, H l = none -> Q (.ref l) (upd H l (.lst ys))) := by
  intro pins s σ H xs us Q I r h
  obtain ⟨p, ys, rfl, hq, q⟩ := h
  obtain ⟨u, rfl, rx⟩ := vals1 r
  cases rx
  have fin : ∀ (its : List Value), Vals ys its -> ys.length <= sizeLine -> ∀ (h' : Heap) (c' : Nat), (∀ b o', s.heap.get? b = some o' -> h'.get? b = some o') ->
      h'.get? s.heap.objs.size = some { cls := .type "list", dict := none, data := .seq its.toArray c', slots := #[] } -> EP X pins σ Q (.ref s.heap.objs.size) { s with heap := h' } := fun its r' hz h' c' kp e =>
    ⟨.ref s.heap.objs.size, _, I.laid (t' := s.toks) kp (Nat.le_refl _) (show Io X.prog X.w _ h' _ (.lst ys) from ⟨hz, its, c', r', e⟩), rfl, q _ (I.hok.fresh (Nat.le_refl _))⟩
  rcases hq with hq | hq
  . obtain ⟨its, r', pl, hz⟩ := I.list hq
    have hlen := r'.length
    obtain ⟨o, ho, hc, n, hd⟩ := pl.isList
    exact call_list_seq p (.inl rfl) ho hc hd (fun h' c' kp e => fin its r' hz h' c' kp e) (by simp only [List.size_toArray] <;> omega)
  . obtain ⟨its, r', pl, hz⟩ := I.tuple hq
    have hlen := r'.length
    obtain ⟨o, ho, hc, n, hd⟩ := pl
    exact call_list_seq p (.inr rfl) ho hc hd (fun h' c' kp e => fin its r' hz h' c' kp e) (by simp only [List.size_toArray] <;> omega)
theorem Dc : Ji X (.type "tuple") (fun xs H Q => ∃ p ys, xs = [.ref p] /\ ((SqL X.K H p ys /\ ∀ l, H l = none -> Q (.ref l) (upd H l (.tup ys))) \/ (SqT X.K H p ys /\ Q (.ref p) H))) := by
  intro pins s σ H xs us Q I r h
  obtain ⟨p, ys, rfl, h⟩ := h
  obtain ⟨u, rfl, rx⟩ := vals1 r
  cases rx
  rcases h with ⟨hq, q⟩ | ⟨hq, q⟩
  . obtain ⟨its, r', pl, hz⟩ := I.list hq
    have hlen := r'.length
    refine call_tuple_list pl.isList (fun h' kp => ?_) (by simp only [List.size_toArray] <;> omega)
    have I1 : Inv X pins σ H { s with heap := h' } := I.kept (t' := s.toks) kp
    have I2 : Inv X pins σ (upd H h'.objs.size (.tup ys)) { s with heap := h'.push { cls := .type "tuple", data := .seq its.toArray } } :=
      I1.laid (t' := s.toks) (fun b o e => Heap.get?_push_of_some _ e) (Nat.le_refl _) (show Io X.prog X.w _ _ _ (.tup ys) from ⟨hz, its, r', IsTup.new _ _⟩)
    exact ⟨.ref h'.objs.size, _, I2, rfl, q _ (I1.hok.fresh (Nat.le_refl _))⟩
  . obtain ⟨its, r', pl, hz⟩ := I.tuple hq
    exact call_tuple_same pl ⟨.ref p, H, I, rfl, q⟩
def tyV (K : PySem.W.Frag) (T : String) (x : V) (H : Hp) : Prop := match x with
  | .str _ => T = "str"
  | .int _ => T = "int"
  | .ref p => (T = "list" /\ ∃ xs, SqL K H p xs) \/ (T = "tuple" /\ ∃ o, K.lookup p = some o /\ o.cls = .type "tuple" /\ o.dict = none) \/
      (T = "dict" /\ ((∃ kvs, H p = some (.dK kvs)) \/ ∃ kvs, H p = some (.dT kvs))) \/ (T = "set" /\ ∃ S n, H p = some (.set S n))
  | _ => False
theorem Afk {pins : List (Addr × Obj)} {σ : St} {H : Hp} {s : Shared} {T : String} {x : V} {v : Value} (I : Inv X pins σ H s) (r : RelV x v) (ty : tyV X.K T x H) :
    s.TypeIs v T /\ ∀ a, v = .ref a -> ∃ ob, s.heap.get? a = some ob /\ ob.dict = none := by
  cases x with
  | str z =>
    obtain ⟨t, rfl⟩ := r
    cases (show T = "str" from ty)
    exact ⟨typeIs_str s z t, fun _ e => nomatch e⟩
  | int i =>
    obtain ⟨t, rfl⟩ := r
    cases (show T = "int" from ty)
    exact ⟨typeIs_int s i t, fun _ e => nomatch e⟩
  | ref p =>
    cases r
    rcases ty with ⟨rfl, xs, hq⟩ | ⟨rfl, o, hk, hc, hd⟩ | ⟨rfl, hk⟩ | ⟨rfl, S, n, hk⟩
    . obtain ⟨its, _, pl, _⟩ := I.list hq
      refine ⟨pl.isList.typeIs, fun a e => ?_⟩
      cases e
      obtain ⟨o, n, e, c, hd, _⟩ := pl
      exact ⟨o, e, hd⟩
    . refine ⟨⟨o, I.kIn p o hk, hc⟩, fun a e => ?_⟩
      cases e
      exact ⟨o, I.kIn _ o hk, hd⟩
    . have z : ∃ o, s.heap.get? p = some o /\ o.ExactDict := by
        rcases hk with ⟨kvs, hk⟩ | ⟨kvs, hk⟩
        . obtain ⟨_, _, _, _, o, _, _, e, ex, _⟩ := I.hok p _ hk
          exact ⟨o, e, ex⟩
        . obtain ⟨_, _, _, _, o, _, _, e, ex, _⟩ := I.hok p _ hk
          exact ⟨o, e, ex⟩
      obtain ⟨o, e, ex⟩ := z
      refine ⟨⟨o, e, ex.1⟩, fun a e2 => ?_⟩
      cases e2
      exact ⟨o, e, ex.2.1⟩
    . obtain ⟨o, _, _, _, e, ex, _⟩ := I.hok p _ hk
      refine ⟨⟨o, e, ex.1⟩, fun a e2 => ?_⟩
      cases e2
      exact ⟨o, e, ex.2.1⟩
  | _ => exact False.elim ty
def Ak9 (K : PySem.W.Frag) (T : String) (r : V -> List V -> Hp -> VK -> Prop) (to : TE) : TE := fun σ H Q => to σ H fun x H1 => tyV K T x H1 /\ r x [] H1 Q
def tBM (K : PySem.W.Frag) (T : String) (r : V -> List V -> Hp -> VK -> Prop) (to : TE) (t : TA) : TE := fun σ H Q => to σ H fun x H1 => tyV K T x H1 /\ t σ H1 fun xs H2 => r x xs H2 Q
variable {o e : Expr} {es : List Expr} {to : TE} {t : TA} {name : Str} {apos cpos : Pos} {T id : String} {r : V -> List V -> Hp -> VK -> Prop}
theorem V9 (pa : PlainAttrs T) (slot : Slot T name id) (hty : typeOf (.builtin id) = pure (.type "method_descriptor")) (hm : MtR X id r) (ho : PE X o to)
    (hbase : attributeBase o name X.env (eval o X.env) = eval o X.env := by rfl) (hline : (apos.endLine == cpos.line) = true := by rfl) : PE X (.Call (.Attribute o name apos) [] [] cpos) (Ak9 X.K T r to) := by
  intro pins s σ H Q I h
  refine wpAny_Call_method0_late hbase hline (thn (ho pins s σ H _ I h) fun v s1 ⟨x, H1, I1, r1, ty, q1⟩ => ?_)
  obtain ⟨h1, h2⟩ := Afk I1 r1 ty
  exact ⟨T, id, pa, slot, hty, h1, h2, Calls.callWith_builtin rfl (PySem.evalArgs_none (hm pins s1 σ H1 x [] v [] Q I1 r1 .nil q1))⟩
theorem Om (pa : PlainAttrs T) (slot : Slot T name id) (hty : typeOf (.builtin id) = pure (.type "method_descriptor")) (hm : MtR X id r) (ho : PE X o to) (ha : PA X (e :: es) t)
    (hbase : attributeBase o name X.env (eval o X.env) = eval o X.env := by rfl)
    (hfew : ((backTo cpos (starEach (e :: es) X.env)).all (fun x => !x.1) && (backToKw cpos (keywordEach [] X.env)).all (fun x => x.1.isSome)
      && decide ((e :: es).length + ([] : List Keyword).length + (if ([] : List Keyword).isEmpty then 0 else 1) < 30)) = true := by rfl)
    (hline : (apos.endLine == cpos.line) = true := by rfl) (hs : starEach (e :: es) X.env = (false, eval e X.env) :: starEach es X.env := by rfl) (hplain : (backTo cpos (starEach es X.env)).any (·.1) = false := by rfl) :
    PE X (.Call (.Attribute o name apos) (e :: es) [] cpos) (tBM X.K T r to t) := by
  intro pins s σ H Q I h
  refine wpAny_Call_method_late hbase hfew hline rfl (thn (ho pins s σ H _ I h) fun v s1 ⟨x, H1, I1, r1, ty, q1⟩ => ?_)
  obtain ⟨h1, h2⟩ := Afk I1 r1 ty
  refine ⟨T, id, pa, slot, hty, h1, h2, ?_⟩
  have hA := ha cpos pins s1 σ H1 _ I1 q1
  rw [hs] at hA ⊢
  refine Calls.callWith_builtin (by show (false || (backTo cpos (starEach es X.env)).any (·.1)) = false; rw [hplain] <;> rfl) (Calls.evalArgs_plain ?_)
  exact thn hA fun us s2 ⟨vs, H2, I2, r2, q2⟩ => hm pins s2 σ H2 x vs v us Q I2 r1 r2 q2
/- xs.append(e), list.index on a module's tuple .. are MtR facts of 06m -/
end
end L2
namespace L2
open PySem PySem.Spec PyProof.Rows
def MtM (X : Cx) (id : String) (r : V -> List V -> Hp -> VK -> Prop) : Prop :=
  ∀ (pins : List (Addr × Obj)) (s : Shared) (σ : St) (H : Hp) (x : V) (xs : List V) (v : Value) (us : List Value) (Q : VK), Inv X pins σ H s -> RelV x v -> Vals xs us -> r x xs H Q ->
    wpAny (model X.prog X.w) X.A (call (.builtin id) (v :: us)) (EP X pins σ Q) X.xe s
theorem Vals.one : ∀ {x : V} {us : List Value}, Vals [x] us -> ∃ u, us = [u] /\ RelV x u
  | _, _, .cons r .nil => ⟨_, rfl, r⟩
theorem Vals.two : ∀ {x y : V} {us : List Value}, Vals [x, y] us -> ∃ u v, us = [u, v] /\ RelV x u /\ RelV y v
  | _, _, _, .cons r (.cons q .nil) => ⟨_, _, rfl, r, q⟩
theorem Vals.zero : ∀ {us : List Value}, Vals [] us -> us = []
  | _, .nil => rfl
theorem Vals.dropLast {xs : List V} {us : List Value} (h : Vals xs us) : Vals xs.dropLast us.dropLast := by
  induction h with
  | nil => exact .nil
  | cons r t ih =>
    cases t with
    | nil => exact .nil
    | cons q t' => exact .cons r ih
theorem Vals.eraseIdx : ∀ {xs : List V} {us : List Value} (i : Nat), Vals xs us -> Vals (xs.eraseIdx i) (us.eraseIdx i)
  | _, _, _, .nil => .nil
  | _, _, 0, .cons _ t => t
  | _, _, i + 1, .cons r t => .cons r (Vals.eraseIdx i t)
theorem Vals.reverse {xs : List V} {us : List Value} (h : Vals xs us) : Vals xs.reverse us.reverse := by
  induction h with
  | nil => exact .nil
  | cons r t ih => rw [List.reverse_cons, List.reverse_cons]; exact Vals.append ih (.cons r .nil)
theorem Vals.rep {xs : List V} {us : List Value} (h : Vals xs us) : ∀ k : Nat, Vals (List.replicate k xs).flatten (List.replicate k us).flatten
  | 0 => .nil
  | k + 1 => by
    rw [List.replicate_succ, List.replicate_succ, List.flatten_cons, List.flatten_cons]
    exact Vals.append h (Vals.rep h k)
theorem Z1 {α : Type} (l : List α) : l.eraseIdx (l.length - 1) = l.dropLast := by
  induction l with
  | nil => rfl
  | cons a r ih =>
    cases r with
    | nil => rfl
    | cons b r =>
      have e : (a :: b :: r).length - 1 = ((b :: r).length - 1) + 1 := by
        have h1 : (a :: b :: r).length = r.length + 2 := rfl
        have h2 : (b :: r).length = r.length + 1 := rfl
        omega
      rw [e, List.eraseIdx_cons_succ, ih]
      all_goals rfl
theorem foldl_rep (its : List Value) : ∀ (k : Nat) (acc : List Value),
    List.foldl (fun x1 x2 => x1 ++ x2) acc.toArray (List.replicate k its.toArray) = (acc ++ (List.replicate k its).flatten).toArray
  | 0, acc => by simp
  | k + 1, acc => by
    have e : acc.toArray ++ its.toArray = (acc ++ its).toArray := by simp
    have e2 : (acc ++ its) ++ (List.replicate k its).flatten = acc ++ (List.replicate (k + 1) its).flatten := by
      rw [List.replicate_succ, List.flatten_cons, List.append_assoc]
    rw [<- e2, <- foldl_rep its k (acc ++ its), <- e, List.replicate_succ, List.foldl_cons]
section
variable {X : Cx} {pins : List (Addr × Obj)} {σ : St} {H : Hp} {s : Shared} {l b : Addr} {xs ys zs : List V}
theorem Inv.lset {its its' : List Value} {n : Nat} {f : Array Value -> Array Value} {t' : Nat} (I : Inv X pins σ H s) (hH : H l = some (.lst xs))
    (e : s.heap.get? l = some { cls := .type "list", data := .seq its.toArray n }) (hf : f its.toArray = its'.toArray) (hv : Vals ys its') (hz : ys.length <= sizeLine) :
    Inv X pins σ (upd H l (.lst ys)) { s with heap := s.heap.update l (Obj.mapSeq f), toks := t' } := by
  have q := PySem.IsL.update e f
  rw [hf] at q
  refine I.write (x := l) (e := l) (by rw [hH]; exact trivial) (.inl rfl) (fun b' u hb hu => (Heap.get?_update_other s.heap (Obj.mapSeq f) (Ne.symm hb)).trans hu) ⟨_, q⟩ ?_
  exact ⟨hz, its', _, hv, q⟩
theorem Inv.lnew {its : List Value} {t' : Nat} (I : Inv X pins σ H s) (hv : Vals ys its) (hz : ys.length <= sizeLine) :
    Inv X pins σ (upd H s.heap.objs.size (.lst ys)) { s with heap := s.heap.push { cls := .type "list", data := .seq its.toArray }, toks := t' } :=
  I.laid (fun _ _ q => Heap.get?_push_of_some _ q) (Nat.le_refl _) ⟨hz, its, 0, hv, Heap.get?_push_size _ rfl⟩
theorem Inv.fresh (I : Inv X pins σ H s) : H s.heap.objs.size = none := I.hok.fresh (Nat.le_refl _)
theorem Inv.lstM (I : Inv X pins σ H s) (hH : H l = some (.lst xs)) : xs.length <= sizeLine /\ ∃ (its : List Value) (n : Nat), Vals xs its /\ xs.length = its.length /\ s.heap.get? l = some { cls := .type "list", data := .seq its.toArray n } := by
  obtain ⟨z, its, n, r, e⟩ := I.hok l _ hH
  exact ⟨z, its, n, r, r.length, e⟩
theorem Ae4 {n : Nat} (h : n <= sizeLine) : Builtin.List.listTooLong n = false := by
  unfold Builtin.List.listTooLong
  exact decide_eq_false (by omega)
end
section
variable {X : Cx}
def Aco : V -> List V -> Hp -> VK -> Prop := fun x vs H Q => ∃ l xs y, x = .ref l /\ vs = [y] /\ H l = some (.lst xs) /\ xs.length < sizeLine /\ Q .non (upd H l (.lst (xs ++ [y])))
theorem Jj : MtM X "list.append" Aco := by
  intro pins s σ H x vs v us Q I rx rv h
  obtain ⟨l, xs, y, rfl, rfl, hH, hz, q⟩ := h
  cases rx
  obtain ⟨u, rfl, ru⟩ := rv.one
  obtain ⟨z, its, n, r, hl, e⟩ := I.lstM hH
  refine call_meets F.slot_list_append ⟨_, e, rfl⟩ F.entry_list_append (F.args_list_append_2 _ _) (PySem.list_append l its.toArray n u (by rw [List.size_toArray]; omega)) ⟨e, ?_⟩
  refine ⟨.non, _, I.lset (its' := its ++ [u]) hH e (by simp) (r.append (.cons ru .nil)) ?_, rfl, q⟩
  rw [List.length_append, List.length_singleton]
  omega
def Amf : V -> List V -> Hp -> VK -> Prop := fun x vs H Q => ∃ l xs y, x = .ref l /\ vs = [] /\ H l = some (.lst xs) /\ xs[xs.length - 1]? = some y /\ Q y (upd H l (.lst xs.dropLast))
theorem Aju : MtM X "list.pop" Amf := by
  intro pins s σ H x vs v us Q I rx rv h
  obtain ⟨l, xs, y, rfl, rfl, hH, hy, q⟩ := h
  cases rx
  have hus := rv.zero
  subst hus
  obtain ⟨z, its, n, r, hl, e⟩ := I.lstM hH
  obtain ⟨u, hu, ru⟩ := r.get hy
  have hy' : its.toArray[its.toArray.size - 1]? = some u := by
    show its.toArray[its.length - 1]? = some u
    rw [<- Array.getElem?_toList, <- hl]
    exact hu
  refine call_meets F.slot_list_pop ⟨_, e, rfl⟩ F.entry_list_pop (F.args_list_pop_1 _) (MeetsSeq.list_pop_last l its.toArray n u hy' (by rw [List.size_toArray]; omega)) ⟨e, ?_⟩
  refine ⟨y, _, I.lset (its' := its.dropLast) hH e ?_ r.dropLast ?_, ru, q⟩
  . show its.toArray.eraseIdxIfInBounds (its.toArray.size - 1) = its.dropLast.toArray
    rw [List.size_toArray, List.eraseIdxIfInBounds_toArray, Z1]
  . rw [List.length_dropLast]
    omega
def Al8 : R2 := fun x y H Q => ∃ l b xs zs, x = .ref l /\ y = .ref b /\ H l = some (.lst xs) /\ H b = some (.lst zs) /\ xs.length + zs.length <= sizeLine /\ ∀ p, H p = none -> Q (.ref p) (upd H p (.lst (xs ++ zs)))
theorem Abu : OpR X (binaryOp .Add) Al8 := by
  intro pins s σ H x y v u Q I rx ry h
  obtain ⟨l, b, xs, zs, rfl, rfl, hH, hB, hz, q⟩ := h
  cases rx
  cases ry
  obtain ⟨z, its, n, r, hl, e⟩ := I.lstM hH
  obtain ⟨z2, its2, n2, r2, hl2, e2⟩ := I.lstM hB
  refine PySem.P.add_list e e2 ?_ (by rw [List.size_toArray, List.size_toArray]; omega)
  have ea : its.toArray ++ its2.toArray = (its ++ its2).toArray := by simp
  rw [ea]
  exact ⟨.ref _, _, I.lnew (t' := s.toks) (r.append r2) (by rw [List.length_append]; omega), rfl, q _ I.fresh⟩
def Ama : R2 := fun x y H Q => ∃ l k xs, x = .ref l /\ y = .int k /\ H l = some (.lst xs) /\ -(2 ^ 63) <= k /\ k < 2 ^ 63 /\ xs.length * k.toNat <= sizeLine /\
  ∀ p, H p = none -> Q (.ref p) (upd H p (.lst (List.replicate k.toNat xs).flatten))
theorem len_rep {α : Type} (xs : List α) (k : Nat) : (List.replicate k xs).flatten.length = k * xs.length := by
  induction k with
  | zero => simp
  | succ k ih => rw [List.replicate_succ, List.flatten_cons, List.length_append, ih, Nat.succ_mul, Nat.add_comm]
theorem Aft : OpR X (binaryOp .Mult) Ama := by
  intro pins s σ H x y v u Q I rx ry h
  obtain ⟨l, k, xs, rfl, rfl, hH, h1, h2, hz, q⟩ := h
  cases rx
  obtain ⟨t, rfl⟩ := ry
  obtain ⟨z, its, n, r, hl, e⟩ := I.lstM hH
  have hlen : its.toArray.size * k.toNat <= sizeLine := by rw [List.size_toArray, <- hl]; exact hz
  have hcap : ¬ its.toArray.size * k.toNat > (2 ^ 63 - 1) / 8 := by
    have : (sizeLine : Nat) <= (2 ^ 63 - 1) / 8 := by decide
    omega
  have hfit : ¬ (!Builtin.List.listFitsIndex k) = true := by
    rw [fitsIndex_both h1 h2]
    exact Bool.false_ne_true
  have hlong : ¬ Builtin.List.listTooLong (its.toArray.size * k.toNat) = true := by
    rw [Ae4 hlen]
    exact Bool.false_ne_true
  have hnew : List.foldl (fun x1 x2 => x1 ++ x2) #[] (List.replicate (if its.toArray.isEmpty = true then 0 else k.toNat) its.toArray) = (List.replicate k.toNat its).flatten.toArray := by
    have f0 : ∀ m : Nat, List.foldl (fun x1 x2 => x1 ++ x2) #[] (List.replicate m its.toArray) = (List.replicate m its).flatten.toArray := fun m => by
      have := foldl_rep its m []
      rw [List.nil_append] at this
      exact this
    rw [f0]
    cases its with
    | nil => simp
    | cons a r' => rw [if_neg (by simp)]
  refine wpAny_binaryOp_repeat_ref (T := "list") (U := "int") (by decide) ⟨_, e, rfl⟩ (fun s' => typeIs_int s' k t) noFill_list_mul F.fills_int_mul F.slot_int_rmul repeat_list F.slot_int_index.lookup
    (call_meets F.slot_int_rmul (typeIs_int s k t) F.entry_int_rmul (F.args_int_rmul_2 _ _) (int___rmul___int_list k t l its.toArray n)
      ⟨e, rfl, ⟨_, e, rfl⟩, call_meets F.slot_list_mul ⟨_, e, rfl⟩ F.entry_list_mul (F.args_list_mul_2 _ _) (AutoListH.list___mul___list_int_3 l its.toArray n k t hfit hcap hlong) ⟨e, ?_⟩⟩)
  rw [hnew]
  exact ⟨.ref _, _, I.lnew (t' := s.toks) (r.rep k.toNat) (by rw [len_rep, Nat.mul_comm]; exact hz), rfl, q _ I.fresh⟩
end
end L2
namespace Att
open PySem PySem.W PySem.Calls PyProof.Rows
theorem P0 {P : Params} {h : Heap} : ∀ (ns : List Int) (vs : List Value), WellAll P h vs (ns.map WData.int) -> IntsAre vs ns := by
  intro ns
  induction ns with
  | nil =>
    intro vs w
    rw [List.map_nil] at w
    cases w
    exact .nil
  | cons n ns ih =>
    intro vs w
    rw [List.map_cons] at w
    cases w with
    | cons a b =>
      cases a
      exact .cons _ _ (ih _ b)
theorem Aaz {l : OpenLaw} {n : Nat} (hn : l.most = some n) {P : Params} {h : Heap} {args : List WData} {vals : List Value}
    (hpre : l.row.toRowW.claim.pre args = true) (hwl : WellAll P h vals args) :
    ∃ a vs ns, vals = [Value.ref a] /\ args = [WData.list (ns.map WData.int)] /\ h.get? a = some { cls := .type "list", data := .seq vs.toArray } /\ IntsAre vs ns /\ ns.length <= n := by
  have hsh : WShape.hasAll [] args [.list .int] = true := (pre_splitW hpre).1
  have hc : l.pre.holds [] { args := args } = true := (pre_splitW hpre).2
  obtain ⟨d, r, rfl, h1, h2⟩ := hasAllW_cons hsh
  obtain rfl := hasAllW_nil h2
  obtain ⟨xs, rfl, h3⟩ := hasW_list h1
  obtain ⟨ns, rfl⟩ := items_int h3
  have hlen : ns.length <= n := by
    unfold OpenLaw.pre at hc
    have h4 : (WTm.not (.lt (.lit (.int (n : Int))) (.len (.arg 0)))).holds [] { args := [.list (ns.map .int)] } = true := by
      have h4 := (holds_andW hc).1
      rw [hn] at h4
      exact h4
    have h5 := condW_of h4 (w_not (w_lt w_lit (w_len_list (w_arg rfl))))
    rw [List.length_map] at h5
    refine Nat.le_of_not_lt fun q => ?_
    have q' : (n : Int) < ((ns.length : Nat) : Int) := by omega
    first
      | (rw [decide_eq_true q'] at h5; exact absurd h5 (by decide))
      | (simp at h5; omega)
  cases hwl with
  | cons w1 w2 =>
    cases w2
    cases w1 with
    | list ho hall => exact ⟨_, _, ns, rfl, rfl, ho, P0 ns _ hall, hlen⟩
theorem Abb (l : OpenLaw) (args : List WData) : l.row.toRowW.claim.post args (.bool true) args = true :=
  postW_of (r := l.row.toRowW) (X := (true == true))
    (show WShape.has [] (.bool true) .bool = true by first | rfl | decide | simp [WShape.has, WShape.arms, WShape.armsAll])
    (show (WTm.eq .res (.lit (.bool true))).value [] { args := args, res := some (.bool true), after := args } = some (.bool (true == true)) from w_eq_bool (w_res rfl) w_lit) rfl
theorem Wz {l : OpenLaw} {n : Nat} {q : Program} {loose : List Str} {XP : (Str -> Option Value) -> Heap -> Prop} {YP : World -> Heap -> Prop} {d : DefRec}
    (hn : l.most = some n) (hdf : d.params.defaults = [])
    (call : ∀ (w : World) (s₀ s₁ : Shared) (mg mb : Str -> Option Value) (fa : Addr) (o : Obj) (pm cd doc : Value) (a : Addr) (vs : List Value) (ns : List Int),
      Ground q loose [] XP w s₀ mg mb s₁.heap -> YP w s₁.heap ->
      s₁.heap.get? fa = some o -> o.data = .func (docDef d.name d.params d.body d.scope pm cd doc) -> s₁.heap.CodeRec cd d.name -> mg d.name = some (.ref fa) ->
      s₁.heap.get? a = some { cls := .type "list", data := .seq vs.toArray } -> IntsAre vs ns -> ns.length <= n -> s₁.gens = #[] ->
      codeAny (model l.prog w) callerA (.call (.ref fa) ⟨[.ref a], []⟩) (fun r s' => r = .ok (.ret (.bool true)) /\ OldK s₁.heap s'.heap /\ s'.os = s₁.os /\ AllBare s'.gens) s₁) :
    WalkO q loose XP YP l.row.toRowW d [] (fun f vs => PySem.call f vs) := by
  intro w s₀ s₁ mg mb G Y fa o pm cd doc dV kV ho hd hcd hD hmg hg args vals as hpre hlay hrd hwl hlo
  obtain rfl : dV = .none := Dflts.none hD hdf
  obtain rfl : kV = .none := Dflts.noKw hD
  obtain ⟨a, vs, ns, rfl, rfl, hobj, hints, hlen⟩ := Aaz hn hpre hwl
  refine enter_call (codeAny_mono (call w s₀ s₁ mg mb fa o pm cd doc a vs ns G Y ho (fd_plain hd) hcd hmg hobj hints hlen hg) fun r s' hq => ?_)
  obtain ⟨rfl, h2, h3, h4⟩ := hq
  exact ⟨.inl ⟨.bool true, .bool true, [], rfl, fun _ => rfl, .bool true, Abb l _, fun _ => ⟨List.Pairwise.nil, fun _ hm => (nomatch hm)⟩⟩, h2, h3, h4⟩
end Att
namespace L2
open PySem PySem.Spec PyProof.Rows
theorem U9 : ∀ {vs : List Value} {ns : List Int}, IntsAre vs ns -> Vals (ns.map V.int) vs
  | _, _, .nil => .nil
  | _, _, .cons n t h => .cons ⟨t, rfl⟩ (U9 h)
def Only (H : Hp) : Prop := ∀ b, H b = none \/ ∃ o xs, H b = some (.frz o (.lst xs))
theorem Aea {P : Program} {w : World} {K : PySem.W.Frag} {mg mb : Str -> Option Value} {CX : CXT} {k : Nat} {fa a : Addr} {fd : FuncData} {x : Str} {sp : Sp} {s₁ : Shared} {vs : List Value} {ns : List Int}
    (KX : K.In s₁.heap) (hns : s₁.heap.Ns mainGlobals mg) (hb : s₁.heap.Ns builtinsNs mb) (hbb : ∀ x : Str, x ≠ "__name__" -> mb x = bootBuiltins x) (hlim : s₁.heap.NoLimit) (hg : s₁.gens = #[])
    (ha : s₁.heap.get? a = some { cls := .type "list", data := .seq vs.toArray }) (hi : IntsAre vs ns) (hl : ns.length <= sizeLine) (hr : M7 k callerA)
    (F : ∀ base : Heap, K.In base -> base.Ns mainGlobals mg -> Sd P w K mg base CX k fa fd [x] sp) (hbind : ∀ (s : Shared) (u : Value), BindsTo s fd ⟨[u], []⟩ [(x, u)])
    (hsp : ∀ H : Hp, Only H -> SqL K H a (ns.map V.int) -> sp [.ref a] H (fun v _ => v = .bl true) fun _ _ _ => False)
    (hCX : ∀ H e s', CX [] H s₁ (fun _ _ _ => False) e s' -> False) :
    codeAny (model P w) callerA (.call (.ref fa) ⟨[.ref a], []⟩) (fun r s' => r = .ok (.ret (.bool true)) /\ OldK s₁.heap s'.heap /\ s'.os = s₁.os /\ AllBare s'.gens) s₁ := by
  have rv := U9 hi
  have lenV := hi.length
  have core : ∀ H : Hp, Only H -> SqL K H a (ns.map V.int) -> HOk P w H s₁.heap -> (∀ b, H b ≠ none -> b = a) -> (H a ≠ none -> K.lookup a = none) ->
      codeAny (model P w) callerA (.call (.ref fa) ⟨[.ref a], []⟩) (fun r s' => r = .ok (.ret (.bool true)) /\ OldK s₁.heap s'.heap /\ s'.os = s₁.os /\ AllBare s'.gens) s₁ := by
    intro H hO hS hok hA hK
    have base_of : ∀ {b : Addr} {o : Obj}, s₁.heap.get? b = some o -> H b = none -> (Aem s₁.heap H).get? b = some o := fun e n => Aed e n
    have noA : ∀ {b : Addr} {o : Obj} {es : Array DictEntry} {ep : Nat}, s₁.heap.get? b = some o -> o.data = .dict es ep -> H b = none := fun {b o es ep} e d => by
      cases q : H b with
      | none => rfl
      | some u =>
        have e' : b = a := hA b (by rw [q]; simp)
        subst e'
        rw [ha] at e; cases e
        have d' : Data.seq vs.toArray _ = Data.dict es ep := d
        cases d'
    have nsK : ∀ {b : Addr} {m : Str -> Option Value}, s₁.heap.Ns b m -> (Aem s₁.heap H).Ns b m := fun {b m} ⟨o, es, ep, e, d, r⟩ => ⟨o, es, ep, base_of e (noA e d), d, r⟩
    have hKb : K.In (Aem s₁.heap H) := fun b o e => base_of (KX b o e) (by
      cases q : H b with
      | none => rfl
      | some u =>
        have e' : b = a := hA b (by rw [q]; simp)
        subst e'
        rw [hK (by rw [q]; simp)] at e; cases e)
    have hM : Mod K mg (Aem s₁.heap H) := ⟨hKb, nsK hns, ⟨mb, nsK hb, hbb⟩, let ⟨mc, h1, h2⟩ := hlim; ⟨mc, nsK h1, h2⟩⟩
    have e0 : Ag3 P w K mg (Aem s₁.heap H) callerA [] s₁ H := ⟨rfl, hM, fun b o e => Aho e, Nat.le_of_eq (Aap _ _), trivial, fun b hb => absurd (show b ∈ ([] : List Addr) from hb) (by simp), hok, .of_eq hg⟩
    refine codeAny_mono ((F _ hKb (nsK hns)).run callerA [] s₁ H ⟨[.ref a], []⟩ [.ref a] [.ref a] _ _ hr e0 (hbind s₁ (.ref a)) (.cons rfl .nil) (hsp H hO hS)) fun r s' h => ?_
    cases r with
    | error e => exact (hCX H e s' h).elim
    | ok fl =>
      cases fl with
      | next => exact False.elim h
      | brk => exact False.elim h
      | cont => exact False.elim h
      | ret u =>
        obtain ⟨v, H', os, bare, un, hok', r', q⟩ := h
        have q' : v = .bl true := q
        subst q'
        obtain rfl : u = Value.bool true := r'
        refine ⟨rfl, OldK.of_keep fun b o e => ?_, os, bare⟩
        cases q : H b with
        | none => exact un.keep b o e q (by intro z; exact absurd (show b ∈ ([] : List Addr) from z) (by simp)) (by simp)
        | some u =>
          rcases hO b with z | ⟨ob, xs, z⟩
          . rw [q] at z; cases z
          . have z2 := un.frzs b ob _ z
            obtain ⟨e1, _⟩ := hok b _ z
            obtain ⟨e2, _⟩ := hok' b _ z2
            rw [e] at e1; cases e1
            exact e2
  cases hk : K.lookup a with
  | some o =>
    have e := KX a o hk
    rw [ha] at e
    cases e
    refine core (fun _ => none) (fun _ => .inl rfl) (.inr ⟨_, vs.toArray, _, hk, rfl, rfl, rfl, by rw [List.size_toArray, lenV]; exact hl, by simpa using rv⟩) (fun b u z => by have z' : (none : Option HO) = some u := z; cases z') (fun b z => absurd rfl z) fun z => absurd rfl z
  | none =>
    refine core (fun b => if b = a then some (.frz { cls := .type "list", data := .seq vs.toArray } (.lst (ns.map V.int))) else none) (fun b => ?_) (.inl (.inr ⟨{ cls := .type "list", data := .seq vs.toArray }, if_pos rfl⟩)) (fun b u z => ?_) (fun b z => ?_) fun _ => hk
    . by_cases hb : b = a
      . exact .inr ⟨_, _, if_pos hb⟩
      . exact .inl (if_neg hb)
    . by_cases hb : b = a
      . have z' := (if_pos hb).symm.trans z
        cases z'
        subst hb
        exact ⟨ha, by rw [List.length_map]; exact hl, vs, _, rv, ha⟩
      . have z' := (if_neg hb).symm.trans z
        cases z'
    . by_cases hb : b = a
      . exact hb
      . exact absurd (if_neg hb) z
end L2
namespace L2
open PySem PySem.Spec PyProof.Rows
theorem Abx {l : PySem.W.OpenLaw} {n k : Nat} {q : Program} {loose : List Str} {XP : (Str -> Option Value) -> Heap -> Prop} {YP : World -> Heap -> Prop} {d : DefRec} {K : Params -> PySem.W.Frag} {CX : World -> CXT} {sp : World -> Sp} {x : Str}
    (hn : l.most = some n) (hn2 : n <= sizeLine) (hdf : d.params.defaults = []) (hr : M7 k callerA)
    (hY : ∀ (w : World) (h : Heap), YP w h -> (K w.params).In h)
    (F : ∀ (w : World) (mg : Str -> Option Value) (fa : Addr) (h : Heap), (K w.params).In h -> h.Ns mainGlobals mg -> mg d.name = some (.ref fa) ->
      ∃ fd : FuncData, (∀ (s : Shared) (u : Value), BindsTo s fd ⟨[u], []⟩ [(x, u)]) /\
        ∀ base : Heap, (K w.params).In base -> base.Ns mainGlobals mg -> Sd l.prog w (K w.params) mg base (CX w) k fa fd [x] (sp w))
    (hsp : ∀ (w : World) (H : Hp) (a : Addr) (ns : List Int), ns.length <= n -> Only H -> SqL (K w.params) H a (ns.map V.int) -> sp w [.ref a] H (fun v _ => v = .bl true) fun _ _ _ => False)
    (hCX : ∀ (w : World) (H : Hp) (s : Shared) (e : Value) (s' : Shared), CX w [] H s (fun _ _ _ => False) e s' -> False) :
    PySem.W.WalkO q loose XP YP l.row.toRowW d [] (fun f vs => PySem.call f vs) := by
  refine Att.Wz hn hdf fun w s₀ s₁ mg mb fa o pm cd doc a vs ns G Y ho hd hcd hmg hobj hints hlen hg => ?_
  have KX := hY w _ Y
  obtain ⟨fd, hb, hF⟩ := F w mg fa _ KX G.T.g hmg
  exact Aea KX G.T.g G.T.b G.T.builtins G.T.nolimit hg hobj hints (Nat.le_trans hlen hn2) hr hF hb (fun H hO hS => hsp w H a ns hlen hO hS) fun H e s' => hCX w H s₁ e s'
end L2
/- THE LAST THEOREM (shape; LID, My.* are yours):
   My.Adr: a structure of the addresses that your layer names (classes, functions); My.Txt K t: a structure (Prop) of the equations over K;
   My.txt_mk : {K} {implicit addresses ..} (e1 : nsIn K mainGlobals "law" = some (some (.ref f))) (e2 : K.lookup f = some ⟨oc, od, .func (fnOf "law" "law" params body scope dV kV doc pm an cdv ct), sl⟩) (e3 : codeIn K cdv "law" = true) .. : ∃ t, My.Txt K t
set_option maxRecDepth 100000 in
set_option maxHeartbeats 0 in
theorem PySem.Challenge.cw_LID_holds : PySem.Challenge.rw_LID.Holds := by
  w_on; o_law; k_head; (case hw => w_witness2)
  k_fill
  refine L2.Abx (l := PySem.Challenge.rw_LID) (n := 63) (k := 40) (x := "script") (CX := fun w => ..) (sp := fun _ => My.sp_law) rfl (by decide) rfl ⟨rfl, by decide, by decide⟩ (fun w h Y => PySem.W.kIn_of Y) ?F ?S ?C
  case F =>
    intro w mg fa h KX G hmg
    have T : ∃ t, My.Txt (L2.KOf KX) t := by
      dsimp only [L2.KOf]                          -- K must stand as «<heap const> w.params» for k_is
      refine' My.txt_mk ?e1 ?e2 ?e3 ..
      (case e1 => PySem.W.k_is)                    -- in the order: a name -> its address -> its object -> its parts
      (case e2 => PySem.W.k_is)
      ..
    obtain ⟨t, T⟩ := T
    have e0 := hmg.symm.trans (PySem.W.mg_of KX G T.law)
    cases e0                                       -- fa is the law's own address
    exact ⟨_, fun s u => .of_eq rfl, fun base kb nb => My.law_fn T kb nb⟩     -- if «.of_eq rfl» comes too early: refine' ⟨_, ?b, fun base kb nb => My.law_fn T kb nb⟩; exact fun s u => .of_eq rfl
  case S => exact fun w H a ns hl hO hS => ..
  case C => exact ..
(the tactic k_is has no namespace: write k_is) -/
namespace L2
open PySem PySem.Spec PyProof.Rows
def Lw (s : Stmt) : Arguments := match s with
  | .FunctionDef _ a _ _ _ _ _ _ _ _ => a
  | _ => { posonlyargs := [], args := [], vararg := none, kwonlyargs := [], kw_defaults := [], kwarg := none, defaults := [] }
def Jw (s : Stmt) : List Stmt := match s with
  | .FunctionDef _ _ b _ _ _ _ _ _ _ => b
  | _ => []
def Ag (s : Stmt) : Scope := match s with
  | .FunctionDef _ _ _ _ _ _ sc _ _ _ => sc
  | _ => { kind := .function, names := [], isGenerator := false, isCoroutine := false }
abbrev CX0 : CXT := fun _ _ _ _ _ _ => False
abbrev E0 : XK := fun _ _ _ => False
theorem Ajq {X : Cx} : Passes CX0 X E0 := fun _ _ _ _ _ _ _ h => h.elim
structure Fun (K : PySem.W.Frag) (x qual : Str) (st : Stmt) (f : Addr) (fd : FuncData) : Prop where
  ex : ∃ (oc : Value) (od : Option Addr) (kV doc pm : Value) (an : Option Addr) (cdv ct : Value) (osl : Array (Option Value)),
    fd = PySem.W.fnOf x qual (Lw st) (Jw st) (Ag st) .none kV doc pm an cdv ct /\ K.lookup f = some ⟨oc, od, .func fd, osl⟩ /\ PySem.W.codeIn K cdv qual = true
  kp : PySem.W.keepIn K (.ref f) = true
section
variable {P : Program} {w : World} {K : PySem.W.Frag} {mg : Str -> Option Value} {base : Heap}
theorem Fun.ok {x qual : Str} {st : Stmt} {f : Addr} {fd : FuncData} {N ps : List Str} {k : Nat} {sp : Sp} (F : Fun K x qual st f fd) (S : Ao N ps (Ag st)) (len : ∀ vs H Q E, sp vs H Q E -> vs.length = ps.length)
    (hbody : ∀ (cdv : Value) (A : Around) (outer : List Env) (s : Shared) (H : Hp) (vs : List V) (Q : VK) (E : XK), M7 k (A.deeper (envOfC qual (Ag st) s.heap.objs.size f cdv)) -> sp vs H Q E ->
      ∃ t, PSs (Rg CX0 P w K mg base N qual (Ag st) f cdv A outer s H E).nox (Jw st) t /\ t { nx := fun _ H' => Q .non H', rt := Q } (start N vs) H) : Sd P w K mg base CX0 (k + 1) f fd ps sp := by
  obtain ⟨oc, od, kV, doc, pm, an, cdv, ct, osl, rfl, lk, hcd⟩ := F.ex
  refine Aiz lk hcd S len fun A outer s H vs Q E hr hsp => ?_
  obtain ⟨t, h, q⟩ := hbody cdv A outer s H vs Q E hr hsp
  exact ⟨t, h.nox, q⟩
theorem Fun.binds {x qual : Str} {st : Stmt} {f : Addr} {fd : FuncData} {ps : List Str} (F : Fun K x qual st f fd)
    (h : ∀ (kV doc pm : Value) (an : Option Addr) (cdv ct : Value) (us : List Value), us.length = ps.length -> bindArgs (PySem.W.fnOf x qual (Lw st) (Jw st) (Ag st) .none kV doc pm an cdv ct) ⟨us, []⟩ = pure (ps.zip us)) : Binds K fd ps [] := by
  obtain ⟨oc, od, kV, doc, pm, an, cdv, ct, osl, rfl, lk, hcd⟩ := F.ex
  exact .all (h kV doc pm an cdv ct)
theorem Af2 {x qual : Str} {st : Stmt} {f : Addr} {oc : Value} {od an : Option Addr} {osl : Array (Option Value)} {kV doc pm cdv ct : Value} (l : K.lookup f = some ⟨oc, od, .func (PySem.W.fnOf x qual (Lw st) (Jw st) (Ag st) .none kV doc pm an cdv ct), osl⟩)
    (c : PySem.W.codeIn K cdv qual = true) (k : PySem.W.keepIn K (.ref f) = true) : Fun K x qual st f (PySem.W.fnOf x qual (Lw st) (Jw st) (Ag st) .none kV doc pm an cdv ct) := ⟨⟨oc, od, kV, doc, pm, an, cdv, ct, osl, rfl, l, c⟩, k⟩
end
section
variable {X : Cx}
theorem pv (i : Nat) {x : Str} {pos : Pos} (hN : X.N[i]? = some x := by rfl) (hv : Vis X.env.scope x := by first | exact Or.inl rfl | exact Or.inr (Or.inl rfl) | exact Or.inr (Or.inr rfl)) (hd : (x == ("__debug__" : Str)) = false := by decide)
    (hcd : (x == ("__classdict__" : Str)) = false := by decide) : PE X (.Name x pos) (Af0 i) := Ai1 hN hv hd hcd
end
def Same (H H' : Hp) : Prop := ∀ b o, H b = some o -> H' b = some o
theorem Same.refl (H : Hp) : Same H H := fun _ _ h => h
theorem Same.trans {H H1 H2 : Hp} (a : Same H H1) (b : Same H1 H2) : Same H H2 := fun c o h => b c o (a c o h)
theorem Same.free {H H' : Hp} (e : Same H H') {l : Addr} (h : H' l = Option.none) : H l = Option.none := by
  cases q : H l with
  | none => rfl
  | some o =>
    rw [e l o q] at h
    cases h
theorem Same.seq {K : PySem.W.Frag} {H H' : Hp} {a : Addr} {xs : List V} (e : Same H H') (h : SqL K H a xs) : SqL K H' a xs := by
  rcases h with (h | ⟨o, h⟩) | h
  . exact .inl (.inl (e _ _ h))
  . exact .inl (.inr ⟨o, e _ _ h⟩)
  . exact .inr h
end L2
namespace L2
open PySem PySem.Spec PyProof.Rows
def Cal (P : Program) (w : World) (K : PySem.W.Frag) (mg : Str -> Option Value) (base : Heap) (k : Nat) (x : Str) (ps : List Str) (sp : Sp) : Prop :=
  ∃ f fd, Sd P w K mg base CX0 k f fd ps sp /\ mg x = some (.ref f) /\ PySem.W.keepIn K (.ref f) = true /\ Binds K fd ps []
structure Df (K : PySem.W.Frag) (mg : Str -> Option Value) (x : Str) (st : Stmt) (ps : List Str) (f : Addr) (fd : FuncData) : Prop where
  fn : Fun K x x st f fd
  bd : Binds K fd ps []
  at' : mg x = some (.ref f)
theorem Df.cal {P : Program} {w : World} {K : PySem.W.Frag} {mg : Str -> Option Value} {base : Heap} {k : Nat} {x : Str} {st : Stmt} {ps : List Str} {f : Addr} {fd : FuncData} {sp : Sp}
    (F : Df K mg x st ps f fd) (G : Sd P w K mg base CX0 k f fd ps sp) : Cal P w K mg base k x ps sp := ⟨f, fd, G, F.at', F.fn.kp, F.bd⟩
theorem Ad3 {X : Cx} {k : Nat} {x : Str} {ps : List Str} {sp : Sp} {p pos : Pos} {e : Expr} {es : List Expr} {t : TA}
    (C : Cal X.prog X.w X.K X.mg X.base k x ps sp) (hr : M7 k X.A) (ha : PA X (e :: es) t) (hg : Gl X x := by rfl) (hdb : (x == ("__debug__" : Str)) = false := by decide)
    (he : starEach (e :: es) X.env = (false, eval e X.env) :: starEach es X.env := by rfl) (hpl : (backTo pos (starEach es X.env)).any (·.1) = false := by rfl) :
    PE X (.Call (.Name x p) (e :: es) [] pos) (Wy sp [] E0 t) := by
  obtain ⟨f, fd, G, a, b, c⟩ := C
  exact Aa8 G hr hg a b c .nil Ajq ha hdb he hpl
def Sz (n : Nat) (a : Int) : Prop := a.natAbs < 2 ^ n
theorem Sz.mono {m n : Nat} {a : Int} (h : Sz m a) (l : m <= n) : Sz n a := Nat.lt_of_lt_of_le h (Nat.pow_le_pow_right (by decide) l)
theorem Sz.mul {m n : Nat} {a b : Int} (h : Sz m a) (g : Sz n b) : Sz (m + n) (a * b) := by
  unfold Sz at *
  rw [Int.natAbs_mul, Nat.pow_add]
  exact Nat.mul_lt_mul'' h g
theorem Sz.add {m n : Nat} {a b : Int} (h : Sz m a) (g : Sz n b) : Sz (max m n + 1) (a + b) := by
  have h1 : Sz (max m n) a := h.mono (Nat.le_max_left _ _)
  have h2 : Sz (max m n) b := g.mono (Nat.le_max_right _ _)
  unfold Sz at *
  have := Int.natAbs_add_le a b
  rw [Nat.pow_succ]
  omega
theorem Sz.neg {n : Nat} {a : Int} (h : Sz n a) : Sz n (-a) := by
  unfold Sz at *
  rw [Int.natAbs_neg]
  exact h
theorem Sz.sub {m n : Nat} {a b : Int} (h : Sz m a) (g : Sz n b) : Sz (max m n + 1) (a - b) := by
  rw [Int.sub_eq_add_neg]
  exact h.add g.neg
theorem Sz.of_abs {n : Nat} {a b : Int} (h : Sz n b) (l : a.natAbs <= b.natAbs) : Sz n a := Nat.lt_of_le_of_lt l h
theorem Sz.mulOk {m n : Nat} {a b : Int} (h : Sz m a) (g : Sz n b) (l : m + n <= 134217728) : IntMulOk a b :=
  IntMulOk.of_le (PySem.intBits_le_iff.mpr h) (PySem.intBits_le_iff.mpr g) l
theorem Sz.log2 {n : Nat} {a : Int} (h : Sz n a) (h0 : a ≠ 0) (l : n <= 9000) : a.natAbs.log2 < 9000 :=
  Nat.lt_of_lt_of_le ((Nat.log2_lt (by omega)).mpr h) l
section
variable {X : Cx} {a b : Expr} {ta tb : TE} {pos : Pos}
theorem Bb : OpR X (binaryOp .Mult) (rI IntMulOk fun i j => .int (i * j)) := opI fun _ _ _ _ _ _ _ hc q => mul_int q hc
def Ait (_ j : Int) : Prop := j ≠ 0 /\ j.natAbs.log2 < 9000
theorem Ip : OpR X (binaryOp .FloorDiv) (rI Ait fun i j => .int (i.fdiv j)) := opI fun _ _ _ _ _ _ _ hc q => floordiv_int hc.1 q (.inl (PyProof.noPylong_of_log2 hc.2))
end
mutual
inductive RdD (K : PySem.W.Frag) (H : Hp) : V -> PyData -> Prop where
  | non : RdD K H .non .none
  | bl (b : Bool) : RdD K H (.bl b) (.bool b)
  | int (i : Int) : RdD K H (.int i) (.int i)
  | str (x : Str) : RdD K H (.str x) (.str x)
  | tup {a : Addr} {xs : List V} {ds : List PyData} : SqT K H a xs -> U4 K H xs ds -> RdD K H (.ref a) (.tuple ds)
  | lst {a : Addr} {xs : List V} {ds : List PyData} : SqL K H a xs -> U4 K H xs ds -> RdD K H (.ref a) (.list ds)
inductive U4 (K : PySem.W.Frag) (H : Hp) : List V -> List PyData -> Prop where
  | nil : U4 K H [] []
  | cons {x : V} {d : PyData} {xs : List V} {ds : List PyData} : RdD K H x d -> U4 K H xs ds -> U4 K H (x :: xs) (d :: ds)
end
section
variable {X : Cx} {pins : List (Addr × Obj)} {σ : St} {H : Hp} {s : Shared}
mutual
theorem RdD.reads (I : Inv X pins σ H s) : ∀ {x : V} {d : PyData} {u : Value}, RdD X.K H x d -> RelV x u -> ∃ as, Reads s.heap u d as
  | _, _, _, .non, r => by cases r; exact ⟨_, .none⟩
  | _, _, _, .bl b, r => by cases r; exact ⟨_, .bool b⟩
  | _, _, _, .int i, r => by obtain ⟨t, rfl⟩ := r; exact ⟨_, .int i t⟩
  | _, _, _, .str x, r => by obtain ⟨t, rfl⟩ := r; exact ⟨_, .str x t⟩
  | _, _, _, .tup hq hr, r => by
    cases r
    obtain ⟨its, rv, pl, hz⟩ := I.tuple hq
    obtain ⟨as, q⟩ := U4.reads I hr rv
    obtain ⟨o, ho, hc, n, hd⟩ := pl
    exact ⟨_, .tuple ho hc hd (by simpa using q)⟩
  | _, _, _, .lst hq hr, r => by
    cases r
    obtain ⟨its, rv, pl, hz⟩ := I.list hq
    obtain ⟨as, q⟩ := U4.reads I hr rv
    obtain ⟨o, ho, hc, n, hd⟩ := pl.isList
    exact ⟨_, .list ho hc hd (by simpa using q)⟩
theorem U4.reads (I : Inv X pins σ H s) : ∀ {xs : List V} {ds : List PyData} {us : List Value}, U4 X.K H xs ds -> Vals xs us -> ∃ as, ReadsAll s.heap us ds as
  | _, _, _, .nil, r => by cases r; exact ⟨_, .nil⟩
  | _, _, _, .cons h t, r => by
    cases r with
    | cons r1 r2 =>
      obtain ⟨as, q⟩ := RdD.reads I h r1
      obtain ⟨bs, p⟩ := U4.reads I t r2
      exact ⟨_, .cons q p⟩
end
end
theorem U4.ints {K : PySem.W.Frag} {H : Hp} : ∀ ns : List Int, U4 K H (ns.map V.int) (ns.map PyData.int)
  | [] => .nil
  | n :: r => .cons (.int n) (U4.ints r)
theorem RdD.ints {K : PySem.W.Frag} {H : Hp} {a : Addr} {ns : List Int} (h : SqT K H a (ns.map V.int)) : RdD K H (.ref a) (.tuple (ns.map PyData.int)) := .tup h (.ints ns)
theorem RdD.lints {K : PySem.W.Frag} {H : Hp} {a : Addr} {ns : List Int} (h : SqL K H a (ns.map V.int)) : RdD K H (.ref a) (.list (ns.map PyData.int)) := .lst h (.ints ns)
theorem O7 : ∀ ns ms : List Int, PyData.eqvAll (ns.map PyData.int) (ms.map PyData.int) = decide (ns = ms)
  | [], [] => by simp [PyData.eqvAll]
  | [], _ :: _ => by simp [PyData.eqvAll]
  | _ :: _, [] => by simp [PyData.eqvAll]
  | a :: r, b :: t => by
    simp only [List.map_cons, PyData.eqvAll, PyData.eqv, O7 r t]
    by_cases h : a = b <;> by_cases h' : r = t <;> simp [h, h']
theorem shaped_ints (ns : List Int) : SeqAt.shaped (.tuple (ns.map PyData.int)) = true := by
  simp [SeqAt.shaped, PyData.canLay0, PyData.depth, PySem.W.ke_canLayAll0, PySem.W.ke_depthAll]
section
variable {X : Cx}
def Aj2 (K : PySem.W.Frag) (f : Bool -> Bool) : R2 := fun x y H Q => ∃ d e, RdD K H x d /\ RdD K H y e /\ SeqAt.shaped d = true /\ SeqAt.shaped e = true /\ Q (.bl (f (PyData.eqv d e))) H
theorem Afh (hu : X.A.units + 64 < cLine) : OpR X (compareOp .Eq) (Aj2 X.K fun b => b) := by
  intro pins s σ H x y v u Q I rx ry h
  obtain ⟨d, e, hd, he, s1, s2, q⟩ := h
  obtain ⟨as, r1⟩ := RdD.reads I hd rx
  obtain ⟨bs, r2⟩ := RdD.reads I he ry
  exact eq_dataH r1 r2 s1 s2 hu ⟨.bl _, H, I, rfl, q⟩
theorem X4 (hu : X.A.units + 64 < cLine) : OpR X (compareOp .NotEq) (Aj2 X.K fun b => !b) := by
  intro pins s σ H x y v u Q I rx ry h
  obtain ⟨d, e, hd, he, s1, s2, q⟩ := h
  obtain ⟨as, r1⟩ := RdD.reads I hd rx
  obtain ⟨bs, r2⟩ := RdD.reads I he ry
  exact ne_dataH r1 r2 s1 s2 hu ⟨.bl _, H, I, rfl, q⟩
def Ali (K : PySem.W.Frag) (f : Bool -> Bool) : R2 := fun x y H Q => ∃ (a b : Addr) (ns ms : List Int), x = .ref a /\ y = .ref b /\ SqT K H a (ns.map V.int) /\ SqT K H b (ms.map V.int) /\ Q (.bl (f (decide (ns = ms)))) H
theorem Iu (hu : X.A.units + 64 < cLine) : OpR X (compareOp .Eq) (Ali X.K fun b => b) := by
  intro pins s σ H x y v u Q I rx ry h
  obtain ⟨a, b, ns, ms, rfl, rfl, ha, hb, q⟩ := h
  exact Afh hu pins s σ H _ _ v u Q I rx ry ⟨_, _, .ints ha, .ints hb, shaped_ints _, shaped_ints _, by rw [PyData.eqv, O7]; exact q⟩
theorem Acn (hu : X.A.units + 64 < cLine) : OpR X (compareOp .NotEq) (Ali X.K fun b => !b) := by
  intro pins s σ H x y v u Q I rx ry h
  obtain ⟨a, b, ns, ms, rfl, rfl, ha, hb, q⟩ := h
  exact X4 hu pins s σ H _ _ v u Q I rx ry ⟨_, _, .ints ha, .ints hb, shaped_ints _, shaped_ints _, by rw [PyData.eqv, O7]; exact q⟩
theorem Oq : Ji X (.builtin "isinstance") (fun xs H Q => ∃ x t T b, xs = [x, .ty T] /\ Wq X.K H x t /\ PySem.W.kitOne X.K t (.type T) = some b /\ Q (.bl b) H) := by
  intro pins s σ H xs us Q I r h
  obtain ⟨x, t, T, b, rfl, ht, hk, q⟩ := h
  obtain ⟨u, c, rfl, ru, rc⟩ := vals2 r
  cases rc
  exact Aax I ru ht hk fun tk => ⟨.bl b, H, I.tok tk, rfl, q⟩
end
theorem Same.tup {K : PySem.W.Frag} {H H' : Hp} {a : Addr} {xs : List V} (e : Same H H') (h : SqT K H a xs) : SqT K H' a xs := by
  rcases h with (h | ⟨o, h⟩) | h
  . exact .inl (.inl (e _ _ h))
  . exact .inl (.inr ⟨o, e _ _ h⟩)
  . exact .inr h
theorem Same.upd {H : Hp} {p : Addr} (h : H p = none) (o : HO) : Same H (upd H p o) := fun b u q => by
  rw [Cu (Br q h)]
  exact q
end L2
namespace L2
open PySem PySem.Spec PyProof.Rows
section
variable {X : Cx} {K : PySem.W.Frag} {σ : St} {H : Hp} {Q : VK} {D : Ends} {B : Bool -> Hp -> Prop}
theorem Hy {t u : TS} : Aki t u D σ H = t { D with nx := u D } σ H := rfl
theorem Eo : Aid D σ H = D.nx σ H := rfl
theorem Hs {c : TT} {t u : TS} : Ako c t u D σ H = c σ H (fun b H1 => if b = true then t D σ H1 else u D σ H1) := rfl
theorem Hl {te : TE} : Akw te D σ H = te σ H D.rt := rfl
theorem Ep {te : TE} : Agy te D σ H = te σ H (fun _ H1 => D.nx σ H1) := rfl
theorem Hu {te : TE} {g : TG} : Agl te g D σ H = te σ H (fun x H1 => g x σ H1 D.nx) := rfl
theorem Bx {i : Nat} {v : V} {R : St -> Hp -> Prop} : R5 i v σ H R = R (σ.set i (some v)) H := rfl
theorem Ie {i j : Nat} {ta : TA} : Ala i j ta D σ H = ta σ H (fun vs H1 => ∃ v w, vs = [v, w] /\ D.nx ((σ.set i (some v)).set j (some w)) H1) := rfl
theorem Et {v : V} {r : St} : Af0 0 (some v :: r) H Q = Q v H := propext ⟨fun ⟨_, e, h⟩ => by cases e; exact h, fun h => ⟨v, rfl, h⟩⟩
theorem Em {i : Nat} {o : Option V} {r : St} : Af0 (i + 1) (o :: r) H Q = Af0 i r H Q := rfl
theorem z_c {v : V} : tC v σ H Q = Q v H := rfl
theorem Ox {r : R2} {ta tb : TE} : tOp r ta tb σ H Q = ta σ H (fun x H1 => tb σ H1 fun y H2 => r x y H2 Q) := rfl
theorem Ro {r : V -> Hp -> VK -> Prop} {ta : TE} : tUn r ta σ H Q = ta σ H (fun x H1 => r x H1 Q) := rfl
theorem Pq {C : Int -> Int -> Prop} {g : Int -> Int -> V} {i j : Int} : rI C g (.int i) (.int j) H Q = (C i j /\ Q (g i j) H) :=
  propext ⟨fun ⟨_, _, e, f, h⟩ => by cases e; cases f; exact h, fun h => ⟨i, j, rfl, rfl, h⟩⟩
theorem Hg {g : Int -> Int -> V} {i j : Int} : rI0 g (.int i) (.int j) H Q = Q (g i j) H :=
  propext ⟨fun ⟨_, _, e, f, h⟩ => by cases e; cases f; exact h, fun h => ⟨i, j, rfl, rfl, h⟩⟩
theorem Qm {g : Int -> V} {i : Int} : rU g (.int i) H Q = Q (g i) H := propext ⟨fun ⟨_, e, h⟩ => by cases e; exact h, fun h => ⟨i, rfl, h⟩⟩
theorem Hi {i j : Int} : rEq (.int i) (.int j) H Q = Q (.bl (decide (i = j))) H := by
  unfold rEq
  simp only [Aiq, V.int.injEq, true_and]
theorem Hz {i j : Int} : rNe (.int i) (.int j) H Q = Q (.bl (!decide (i = j))) H := by
  unfold rNe
  simp only [Aiq, V.int.injEq, true_and]
theorem G3 {i j : Bool} : rEq (.bl i) (.bl j) H Q = Q (.bl (decide (i = j))) H := by
  unfold rEq
  simp only [Aiq, V.bl.injEq, true_and]
theorem G4 {i j : Bool} : rNe (.bl i) (.bl j) H Q = Q (.bl (!decide (i = j))) H := by
  unfold rNe
  simp only [Aiq, V.bl.injEq, true_and]
theorem Ds {t : TE} : Ahk t σ H B = t σ H (fun x H' => ∃ k, x = .bl k /\ B k H') := rfl
theorem Rt {t : TE} : tB t σ H B = t σ H (fun x H' => ∃ k, x = .bl k /\ B k H') := rfl
theorem Il {b : Bool} {p : Bool -> Prop} : (∃ k, V.bl b = .bl k /\ p k) = p b := propext ⟨fun ⟨_, e, h⟩ => by cases e; exact h, fun h => ⟨b, rfl, h⟩⟩
theorem Ig {b : Int} {p : Int -> Prop} : (∃ k, V.int b = .int k /\ p k) = p b := propext ⟨fun ⟨_, e, h⟩ => by cases e; exact h, fun h => ⟨b, rfl, h⟩⟩
theorem Ia {a b : V} {p : V -> V -> Prop} : (∃ v w, [a, b] = [v, w] /\ p v w) = p a b := propext ⟨fun ⟨_, _, e, h⟩ => by cases e; exact h, fun h => ⟨a, b, rfl, h⟩⟩
theorem Ej {b : Int} {p : Int -> Prop} : (∃ k, [V.int b] = [.int k] /\ p k) = p b := propext ⟨fun ⟨_, e, h⟩ => by cases e; exact h, fun h => ⟨b, rfl, h⟩⟩
theorem Eh {a b : Int} {p : Int -> Int -> Prop} : (∃ i j, [V.int a, V.int b] = [.int i, .int j] /\ p i j) = p a b := propext ⟨fun ⟨_, _, e, h⟩ => by cases e; exact h, fun h => ⟨a, b, rfl, h⟩⟩
theorem G5 {t : TT} : Ale t σ H B = t σ H (fun c H1 => B (!c) H1) := rfl
theorem Hw {t u : TT} : Aks t u σ H B = t σ H (fun c H1 => if c = true then u σ H1 B else B false H1) := rfl
theorem Rq {t u : TT} : tOr t u σ H B = t σ H (fun c H1 => if c = true then B true H1 else u σ H1 B) := rfl
theorem Fj {ta tb : TE} : Ag5 ta tb σ H Q = ta σ H (fun x H1 => ∃ c, x = .bl c /\ if c = true then tb σ H1 Q else Q (.bl false) H1) := rfl
theorem Hv {ta tb : TE} : Ak1 ta tb σ H Q = ta σ H (fun x H1 => ∃ c, x = .bl c /\ if c = true then Q (.bl true) H1 else tb σ H1 Q) := rfl
theorem Dw {ta : TE} : Ahf ta σ H Q = ta σ H (fun x H1 => ∃ c, x = .bl c /\ Q (.bl (!c)) H1) := rfl
theorem Qt {t : TT} {ta tb : TE} : tIf t ta tb σ H Q = t σ H (fun c H1 => if c = true then ta σ H1 Q else tb σ H1 Q) := rfl
theorem Ek {sp : Sp} {dvs : List V} {E : XK} {t : TA} : Wy sp dvs E t σ H Q = t σ H (fun vs H1 => sp (vs ++ dvs) H1 Q E) := rfl
theorem Ho {R : List V -> Hp -> Prop} : Akt σ H R = R [] H := rfl
theorem Fl {te : TE} {t : TA} {R : List V -> Hp -> Prop} : Ad8 te t σ H R = te σ H (fun x H1 => t σ H1 fun xs H2 => R (x :: xs) H2) := rfl
theorem Q5 {r : List V -> Hp -> VK -> Prop} {t : TA} : tCB r t σ H Q = t σ H (fun vs H1 => r vs H1 Q) := rfl
theorem Im {t : TA} : Ak4 t σ H Q = t σ H (fun xs H1 => xs.length <= sizeLine /\ ∀ p, H1 p = none -> Q (.ref p) (upd H1 p (.tup xs))) := rfl
theorem Hq {t : TA} : Akn t σ H Q = t σ H (fun xs H1 => xs.length <= sizeLine /\ ∀ p, H1 p = none -> Q (.ref p) (upd H1 p (.lst xs))) := rfl
theorem Cg {r r' : R2} {ta tb tc : TE} : Akd r r' ta tb tc σ H Q = ta σ H (fun x H1 => tb σ H1 fun y H2 => r x y H2 fun z H3 => ∃ k, z = .bl k /\ (if k = true then tc σ H3 fun w' H4 => r' y w' H4 Q else Q (.bl false) H3)) := rfl
theorem Dn {a : Addr} {xs : List V} {i : Int} {v : V} (h : SqT K H a xs) (e : atI xs i = some v) (q : Q v H) : Aib K (.ref a) (.int i) H Q := ⟨a, xs, i, v, rfl, rfl, h, e, q⟩
theorem Lh {a : Addr} {xs : List V} {i : Int} {v : V} (h : SqL K H a xs) (e : atI xs i = some v) (q : Q v H) : Ake K (.ref a) (.int i) H Q := ⟨a, xs, i, v, rfl, rfl, h, e, q⟩
end
def Aek (_ j : Int) : Prop := 0 < j /\ j.natAbs.log2 < 9000
theorem Bk {X : Cx} : OpR X (binaryOp .FloorDiv) (rI Aek fun i j => .int (i / j)) := opI fun i j _ _ _ _ _ hc q => by
  have h : j ≠ 0 := by have := hc.1; omega
  refine floordiv_int h ?_ (.inl (PyProof.noPylong_of_log2 hc.2))
  rw [Int.fdiv_eq_ediv_of_nonneg _ (Int.le_of_lt hc.1)]
  exact q
theorem Ed : (1 : Nat) <= sizeLine := by decide
theorem Eb : (2 : Nat) <= sizeLine := by decide
end L2
namespace L2
open PySem PySem.Spec PyProof.Rows
def clF (env : Env) (cs : List (Str × Addr)) (x : Str × NameKind) : List (Str × Addr) := if x.2 == .free then (x.1, (env.cells.lookup x.1).getD 0) :: cs else cs
theorem Zh {scope : Scope} {env : Env} (h : ∀ x ∈ scope.names, x.2 = .free -> ∃ c, env.cells.lookup x.1 = some c) : closureFor scope env = pure (scope.names.foldl (clF env) []) := by
  unfold closureFor
  have key : ∀ (names : List (Str × NameKind)) (init : List (Str × Addr)), (∀ x ∈ names, x.2 = .free -> ∃ c, env.cells.lookup x.1 = some c) ->
      (forIn names init (fun (x : Str × NameKind) (cs : List (Str × Addr)) => (if x.2 == .free then (do let c <- cellOf env x.1; pure (ForInStep.yield ((x.1, c) :: cs))) else pure (ForInStep.yield cs) : Sem (ForInStep (List (Str × Addr)))))) = (pure (names.foldl (clF env) init) : Sem (List (Str × Addr))) := by
    intro names
    induction names with
    | nil => intro init _; rfl
    | cons x r ih =>
      intro init hx
      rw [List.forIn_cons, List.foldl_cons]
      by_cases hf : x.2 = .free
      . obtain ⟨c, hc⟩ := hx x List.mem_cons_self hf
        have e1 : cellOf env x.1 = pure c := by unfold cellOf; rw [hc]
        have e2 : clF env init x = (x.1, c) :: init := by unfold clF; rw [hf, hc]; rfl
        rw [e2, <- ih _ fun y hy => hx y (List.mem_cons_of_mem _ hy)]
        rw [hf, e1]
        rfl
      . have e0 : (x.2 == NameKind.free) = false := by simpa using hf
        have e2 : clF env init x = init := by unfold clF; rw [e0]; rfl
        rw [e2, <- ih _ fun y hy => hx y (List.mem_cons_of_mem _ hy), e0]
        rfl
  exact (congrArg (fun m => m >>= fun r => pure r) (key scope.names [] h)).trans (by rfl)
theorem Yc {env : Env} : ∀ (names : List (Str × NameKind)) (init : List (Str × Addr)) (y : Str) (c : Addr), (∀ x ∈ names, x.2 = .free -> ∃ c, env.cells.lookup x.1 = some c) -> (names.foldl (clF env) init).lookup y = some c -> init.lookup y = some c \/ env.cells.lookup y = some c
  | [], _, _, _, _, h => .inl h
  | x :: r, init, y, c, hx, h => by
    rw [List.foldl_cons] at h
    rcases Yc r _ y c (fun z hz => hx z (List.mem_cons_of_mem _ hz)) h with h1 | h1
    . unfold clF at h1
      by_cases hf : x.2 = .free
      . obtain ⟨d, hd⟩ := hx x List.mem_cons_self hf
        rw [hf, hd] at h1
        change List.lookup y ((x.1, d) :: init) = some c at h1
        rw [List.lookup_cons] at h1
        cases hy : y == x.1 with
        | true =>
          rw [hy] at h1
          have : y = x.1 := by simpa using hy
          subst this
          exact .inr (hd.trans h1)
        | false =>
          rw [hy] at h1
          exact .inl h1
      . have e0 : (x.2 == NameKind.free) = false := by simpa using hf
        rw [e0] at h1
        exact .inl h1
    . exact .inr h1
theorem Wu {env : Env} : ∀ (names : List (Str × NameKind)) (init : List (Str × Addr)) (y : Str), ((∃ x ∈ names, x.2 = .free /\ x.1 = y) \/ ∃ c, init.lookup y = some c) -> ∃ c, (names.foldl (clF env) init).lookup y = some c
  | [], _, _, h => by
    rcases h with ⟨_, h, _⟩ | h
    . cases h
    . exact h
  | x :: r, init, y, h => by
    rw [List.foldl_cons]
    apply Wu r
    rcases h with ⟨z, hz, hf, rfl⟩ | ⟨c, hc⟩
    . rcases List.mem_cons.mp hz with rfl | hz
      . refine .inr ⟨(env.cells.lookup z.1).getD 0, ?_⟩
        unfold clF
        rw [hf]
        show List.lookup z.1 ((z.1, _) :: init) = _
        rw [List.lookup_cons]
        simp
      . exact .inl ⟨z, hz, hf, rfl⟩
    . refine .inr ?_
      unfold clF
      by_cases hf : x.2 = .free
      . rw [hf]
        show ∃ c, List.lookup y ((x.1, _) :: init) = some c
        rw [List.lookup_cons]
        cases y == x.1 with
        | true => exact ⟨_, rfl⟩
        | false => exact ⟨c, hc⟩
      . have e0 : (x.2 == NameKind.free) = false := by simpa using hf
        rw [e0]
        exact ⟨c, hc⟩
theorem V1 {prog : Program} {w : World} {A : Around} {R : Result -> Shared -> Prop} {s : Shared} {elt target iter : Expr} {ifs : List Expr} {scope : Scope} {pos : Pos} {it acc : Value} {env : Env} (I : Nat -> Shared -> Prop)
    (turn : ∀ n s, I n s -> wpAny (model prog w) A (pyNext it) (fun r s₁ => match r with
      | none => R (.ok .next) s₁
      | some v => wpAny (model prog w) A (letOwnedTupleGo target it v) (fun _ s₀ => wpAny (model prog w) A (assign target env v) (fun _ s₂ =>
          wpAny (model prog w) A (forIn ifs true fun c r => if r = true then do let ok <- isTrue c env (eval c env); pure (ForInStep.yield ok) else pure (ForInStep.yield r)) (fun ok s₃ =>
            if ok = true then wpAny (model prog w) A (eval elt env) (fun x s₄ =>
              wpAny (model prog w) A (call (.builtin "list.append") [acc, x]) (fun _ s₅ => ∃ m, m < n /\ I m s₅) (fun _ _ => False) s₄) (fun _ _ => False) s₃
            else ∃ m, m < n /\ I m s₃) (fun _ _ => False) s₂) (fun _ _ => False) s₀) (fun _ _ => False) s₁) (fun _ _ => False) s)
    (n : Nat) (h : I n s) :
    codeAny (model prog w) A (.compLoop (.ListComp elt [⟨target, iter, ifs, 0⟩] scope pos) 0 it acc env) R s := by
  have no : ∀ (x : Value) (s' : Shared), False -> notedBy (model prog w) A env (fun e s' => R (.error e) s') x s' := fun _ _ z => z.elim
  refine codeAny_loop rfl I (fun n s hI => ?_) n h
  show wpAny _ A ((compTurn (.ListComp elt [⟨target, iter, ifs, 0⟩] scope pos) 0 it acc env).onRaise (fun x => do noteFrame x env; theTreesLotGoes x)) _ _ s
  refine wpAny_noted ?_
  rw [compTurn_list]
  refine wpAny_bind (wpAny_standAt (wpAny_bind (wpAny_mono (turn n s hI) (fun r s₁ h₁ => ?_) no)))
  cases r with
  | none => exact wpAny_pure h₁
  | some v =>
    refine wpAny_bind (wpAny_mono h₁ (fun _ s₀ h₀ => ?_) no)
    refine wpAny_bind (wpAny_mono h₀ (fun _ s₂ h₂ => wpAny_bind (wpAny_mono h₂ (fun ok s₃ h₃ => ?_) no)) no)
    cases ok with
    | false => exact wpAny_pure ⟨rfl, h₃⟩
    | true =>
      exact wpAny_bind (wpAny_bind (wpAny_mono h₃ (fun x s₄ h₄ => wpAny_bind (wpAny_mono h₄ (fun _ s₅ h₅ => wpAny_pure (wpAny_pure ⟨rfl, h₅⟩)) no)) no))
def cxC (X : Cx) (N : List Str) (scope : Scope) (ex : List Addr) (s : Shared) (H : Hp) : Cx where
  prog := X.prog
  w := X.w
  K := X.K
  mg := X.mg
  base := X.base
  A := X.A
  N := N
  s₀ := s
  H₀ := H
  env := compEnvC scope (scope.names.foldl (clF X.env) []) s.heap.objs.size X.env
  outer := X.stack
  stack := X.stack
  ex := ex
  fn := fun _ => false
  calm := X.calm
  pn := []
  xe := fun _ _ => False
structure Cj (X : Cx) (ts : List Str) (fs : List (Nat × Str)) (scope : Scope) : Prop where
  kind : scope.kind = .function
  cell : ∀ y ∈ scope.names, y.2 ≠ .cell
  names : ∀ y ∈ scope.names, y.2 = .local -> scope.names.lookup y.1 = some .local
  free : ∀ y ∈ scope.names, y.2 = .free -> X.env.kindOf y.1 = some .cell \/ X.env.kindOf y.1 = some .free
  at' : ∀ p ∈ fs, X.N[p.1]? = some p.2 /\ (p.2, NameKind.free) ∈ scope.names /\ ((relabel scope X.env).names.lookup p.2 = some .cell \/ (relabel scope X.env).names.lookup p.2 = some .free)
def rlb (sc scope : Scope) : List (Str × NameKind) := scope.names.map fun (n, k) => if (k == NameKind.free && sc.kind == .function && sc.names.lookup n == some .cell) then (n, NameKind.cell) else (n, k)
def Als (sc : Scope) (N : List Str) (fs : List (Nat × Str)) (scope : Scope) : Bool :=
  (scope.kind == .function) && (scope.names.all fun y => y.2 != .cell) && (scope.names.all fun y => y.2 != .local || scope.names.lookup y.1 == some .local) &&
  (scope.names.all fun y => y.2 != .free || (sc.names.lookup y.1 == some .cell || sc.names.lookup y.1 == some .free)) &&
  fs.all fun p => N[p.1]? == some p.2 && (scope.names.contains (p.2, NameKind.free) && ((rlb sc scope).lookup p.2 == some .cell || (rlb sc scope).lookup p.2 == some .free))
theorem Cj.of {X : Cx} {ts : List Str} {fs : List (Nat × Str)} {scope sc : Scope} {N : List Str} (e1 : X.env.scope = sc) (e2 : X.N = N) (h : Als sc N fs scope = true) : Cj X ts fs scope := by
  unfold Als at h
  simp only [Bool.and_eq_true, List.all_eq_true, Bool.or_eq_true, bne_iff_ne, beq_iff_eq, List.contains_iff_mem] at h
  obtain ⟨⟨⟨⟨h1, h2⟩, h3⟩, h4⟩, h5⟩ := h
  refine ⟨h1, h2, fun y hy e => ?_, fun y hy e => ?_, fun p hp => ?_⟩
  . rcases h3 y hy with z | z
    . exact absurd e z
    . exact z
  . rcases h4 y hy with z | z
    . exact absurd e z
    . show X.env.scope.names.lookup y.1 = _ \/ X.env.scope.names.lookup y.1 = _
      rw [e1]
      exact z
  . obtain ⟨a, b, c⟩ := h5 p hp
    refine ⟨by rw [e2]; exact a, b, ?_⟩
    subst e1
    exact c
def cpN (ts : List Str) (fs : List (Nat × Str)) : List Str := ts ++ fs.map (·.2)
def cpσ (n : Nat) (fs : List (Nat × Str)) (σ : St) : St := List.replicate n none ++ fs.map fun p => (σ[p.1]?).join
theorem Ko {env : Env} {x : Str} {k' : NameKind} : ∀ {names : List (Str × NameKind)}, (names.map fun (n, k) => if (k == NameKind.free && env.scope.kind == .function && env.kindOf n == some .cell) then (n, NameKind.cell) else (n, k)).lookup x = some k' ->
    ∃ k, (x, k) ∈ names /\ (k' = k \/ (k = .free /\ k' = .cell))
  | [], h => by simp at h
  | (n, k) :: r, h => by
    rw [List.map_cons] at h
    dsimp only at h
    by_cases hc : (k == NameKind.free && env.scope.kind == .function && env.kindOf n == some .cell) = true
    . rw [if_pos hc, List.lookup_cons] at h
      cases hx : x == n with
      | true =>
        rw [hx] at h
        have e : x = n := by simpa using hx
        subst e
        have hk : k = .free := by
          rw [Bool.and_eq_true, Bool.and_eq_true] at hc
          simpa using hc.1.1
        exact ⟨k, List.mem_cons_self, .inr ⟨hk, (Option.some.inj h).symm⟩⟩
      | false =>
        rw [hx] at h
        obtain ⟨k2, h1, h2⟩ := Ko h
        exact ⟨k2, List.mem_cons_of_mem _ h1, h2⟩
    . rw [if_neg hc, List.lookup_cons] at h
      cases hx : x == n with
      | true =>
        rw [hx] at h
        have e : x = n := by simpa using hx
        subst e
        exact ⟨k, List.mem_cons_self, .inl (Option.some.inj h).symm⟩
      | false =>
        rw [hx] at h
        obtain ⟨k2, h1, h2⟩ := Ko h
        exact ⟨k2, List.mem_cons_of_mem _ h1, h2⟩
def PTs (X : Cx) (ifs : List Expr) (t : TT) : Prop :=
  ∀ (pins : List (Addr × Obj)) (s : Shared) (σ : St) (H : Hp) (B : Bool -> Hp -> Prop), Inv X pins σ H s -> t σ H B ->
    wpAny (model X.prog X.w) X.A (forIn ifs true fun c r => if r = true then do let ok <- isTrue c X.env (eval c X.env); pure (ForInStep.yield ok) else pure (ForInStep.yield r)) (TP X pins σ B) X.xe s
def Zr : TT := fun _ H B => B true H
theorem Ht {X : Cx} : PTs X [] Zr := fun _ _ _ H _ I h => wpAny_pure ⟨H, I, h⟩
def Kp (σ σ' : St) : Prop := σ'.length = σ.length /\ ∀ (i : Nat) v, σ[i]? = some (some v) -> σ'[i]? = some (some v)
def cIn (J : It) (cσ : St) (g : TG) (tt : TT) (te : TE) (Q : VK) (H1 : Hp) (p : Addr) : Prop := ∃ W : Nat -> Nat -> List V -> Hp -> Prop, (∃ m, W 0 m [] (upd H1 p (.lst []))) /\ ∀ i m acc H2, W i m acc H2 ->
  (J.stop i H2 /\ Q (.ref p) H2) \/ (J.go i H2 /\ ∀ x H3, J.yld i H2 x H3 -> g x cσ H3 fun σ4 H4 => Kp cσ σ4 /\ tt σ4 H4 fun b H5 =>
    if b = true then te σ4 H5 fun y H6 => H6 p = some (.lst acc) /\ acc.length < sizeLine /\ ∃ m', m' < m /\ W (i + 1) m' (acc ++ [y]) (upd H6 p (.lst (acc ++ [y]))) else ∃ m', m' < m /\ W (i + 1) m' acc H5)
def Za (n : Nat) (fs : List (Nat × Str)) (wi : TI) (g : TG) (tt : TT) (te : TE) : TE := fun σ H Q => wi σ H fun J H1 => ∀ p, H1 p = none -> cIn J (cpσ n fs σ) g tt te Q H1 p
section
variable {X : Cx} {elt tg iter : Expr} {ifs : List Expr} {scope : Scope} {pos : Pos} {wi : TI} {g : TG} {tt : TT} {te : TE} {ts : List Str} {fs : List (Nat × Str)}
theorem Cj.clos (S : Cj X ts fs scope) (ok : X.Ok) : ∀ x ∈ scope.names, x.2 = .free -> ∃ c, X.env.cells.lookup x.1 = some c := fun x hx hf => ok.has x.1 (S.free x hx hf)
theorem Cj.sub (S : Cj X ts fs scope) (ok : X.Ok) {y : Str} {c : Addr} (h : (scope.names.foldl (clF X.env) []).lookup y = some c) : X.env.cells.lookup y = some c := by
  rcases Yc scope.names [] y c (S.clos ok) h with z | z
  . simp at z
  . exact z
theorem Y9 {pins : List (Addr × Obj)} {σ : St} {H : Hp} {s3 s4 : Shared} {ex : List Addr} (S : Cj X ts fs scope) (I : Inv X pins σ H s3)
    (hex : ∀ b ∈ ex, Vm X pins H b /\ ∃ o, s3.heap.get? b = some o) (hos : s4.os = s3.os) (hg : s4.gens = s3.gens) (hk : ∀ b u, s3.heap.get? b = some u -> s4.heap.get? b = some u)
    (hn : s4.heap.Ns s3.heap.objs.size fun _ => none) : Inv (cxC X (cpN ts fs) scope ex s3 H) [] (cpσ ts.length fs σ) H s4 := by
  have ok := I.ok
  have noC : ∀ b ∈ ex, b ≠ s3.heap.objs.size := fun b hb => by
    obtain ⟨_, o, ho⟩ := hex b hb
    exact Nat.ne_of_lt (Heap.lt_size ho)
  refine ⟨⟨ok.mod, S.kind, ok.glob, ok.blt, Nat.le_refl _, fun y z c h1 h2 => ok.inj y z c (S.sub ok h1) (S.sub ok h2), fun y hy => ?_, fun y c h _ => absurd h (by intro z; cases z), ok.hd, ok.frames, .inl rfl, fun b hb => ⟨noC b hb, fun x c e => (hex b hb).1.2.2.2.2.1 x c (S.sub ok e)⟩,
    I.bs, Nat.le_trans ok.bsz I.sz, fun b o e hb => ?_, fun b hb => ?_, I.stack, I.stkFree⟩, hos, by rw [hg]; exact I.bare, Un.kept hk, ⟨_, hn, fun i x v h1 h2 h3 => ?_⟩, fun y c e => ?_, I.hok.fresh (Nat.le_refl _), fun y c e => I.freeC y c (S.sub ok e),
    fun p hp => absurd (show p ∈ ([] : List (Addr × Obj)) from hp) (by simp), I.hok.kept hk, ?_⟩
  . have z : ∃ k', (k' = NameKind.cell \/ k' = .free) /\ (scope.names.map fun (n, k) => if (k == NameKind.free && X.env.scope.kind == .function && X.env.kindOf n == some .cell) then (n, NameKind.cell) else (n, k)).lookup y = some k' := by
      rcases hy with hy | hy
      . exact ⟨_, .inl rfl, hy⟩
      . exact ⟨_, .inr rfl, hy⟩
    obtain ⟨k', hk', hl⟩ := z
    obtain ⟨k, hm, h2⟩ := Ko hl
    have hf : k = .free := by
      rcases h2 with e | ⟨e, _⟩
      . subst e
        rcases hk' with e | e
        . exact absurd e (S.cell _ hm)
        . exact e
      . exact e
    exact Wu scope.names [] y (.inl ⟨_, hm, hf, rfl⟩)
  . rcases (hex b hb).1.2.2.2.1 with z | z
    . exact ok.noex b o e z
    . exact absurd (Nat.lt_of_lt_of_le (Heap.lt_size e) (Nat.le_trans ok.bsz z)) (Nat.lt_irrefl _)
  . intro hb2
    rcases List.mem_cons.mp (I.stkSub b hb2) with e | e
    . exact (hex b hb).1.2.1 e
    . exact (hex b hb).1.2.2.1 e
  . unfold cpσ at h2
    by_cases hi : i < ts.length
    . rw [List.getElem?_append_left (by simpa using hi), List.getElem?_replicate] at h2
      split at h2 <;> cases h2
    . rw [List.getElem?_append_right (by simpa using hi), List.length_replicate] at h2
      have h1' : (cpN ts fs)[i]? = some x := h1
      unfold cpN at h1'
      rw [List.getElem?_append_right (by omega)] at h1'
      rw [List.getElem?_map] at h1' h2
      cases e : fs[i - ts.length]? with
      | none => rw [e] at h1'; cases h1'
      | some p =>
        rw [e] at h1' h2
        have ex' : p.2 = x := Option.some.inj h1'
        have e2 : (σ[p.1]?).join = some v := Option.some.inj h2
        have e3 : σ[p.1]? = some (some v) := by
          cases q : σ[p.1]? with
          | none => rw [q] at e2; cases e2
          | some o => rw [q] at e2; cases o with | none => cases e2 | some v' => cases e2; rfl
        obtain ⟨a1, a2, a3⟩ := S.at' p (List.mem_of_getElem? e)
        obtain ⟨m, _, hl⟩ := I.loc
        have kd := S.free _ a2 rfl
        have vis : Vis X.env.scope p.2 := by
          rcases kd with z | z
          . exact .inr (.inl z)
          . exact .inr (.inr z)
        obtain ⟨u, r, l⟩ := hl p.1 p.2 v a1 e3 vis
        refine ⟨u, r, ?_⟩
        rcases l with ⟨z, _⟩ | ⟨_, c, hc, hcell⟩
        . rcases kd with q | q
          . rw [q] at z; cases z
          . rw [q] at z; cases z
        . obtain ⟨c', hc'⟩ := Wu (env := X.env) scope.names [] p.2 (.inl ⟨_, a2, rfl, rfl⟩)
          have ec : c' = c := Option.some.inj ((S.sub ok hc').symm.trans hc)
          subst ec
          subst ex'
          refine .inr ⟨?_, c', hc', ?_⟩
          . exact a3
          . obtain ⟨o, ho, hd⟩ := hcell
            exact ⟨o, hk _ _ ho, hd⟩
  . obtain ⟨v, o, ho, hd⟩ := I.cell y c (S.sub ok e)
    exact ⟨v, o, hk _ _ ho, hd⟩
  . unfold cpσ
    show _ = (cpN ts fs).length
    unfold cpN
    simp
theorem Xz {pins : List (Addr × Obj)} {σ σ' : St} {H H' : Hp} {s3 s5 : Shared} {h' : Heap} {ex : List Addr} (S : Cj X ts fs scope) (I : Inv X pins σ H s3) (hex : ∀ b ∈ ex, Vm X pins H b)
    (J : Inv (cxC X (cpN ts fs) scope ex s3 H) [] σ' H' s5) (sb : Heap.SameBut s3.heap.objs.size s5.heap h') : Inv X pins σ H' { s5 with heap := h' } := by
  have nC : H' s3.heap.objs.size = none := J.free
  have old : ∀ b o, b ≠ s3.heap.objs.size -> s5.heap.get? b = some o -> h'.get? b = some o := fun b o hb e => sb.extBut b o hb e
  have lt : ∀ b o, s3.heap.get? b = some o -> b ≠ s3.heap.objs.size := fun b o e => Nat.ne_of_lt (Heap.lt_size e)
  have u : Un (frs X.stack) ex H H' s3.heap s5.heap := J.base
  have u2 : Un (frs X.stack) ex H H' s3.heap h' :=
    ⟨fun b o e n hb hx => old b o (lt b o e) (u.keep b o e n hb hx), fun b o e n hb hx => by
      obtain ⟨sl, q⟩ := u.slot b o e n hb hx
      exact ⟨sl, old b _ (lt b o e) q⟩, u.free, fun b o e hx => by
      obtain ⟨o', q⟩ := u.there b o e hx
      exact ⟨o', old b o' (lt b o e) q⟩, u.tups, u.frzs, u.tbls⟩
  have hok : HOk X.prog X.w H' h' := fun b o e => by
    have nb : b ≠ s3.heap.objs.size := fun z => by rw [z, nC] at e; cases e
    refine (J.hok b o e).stay (fun c v hc q => old c v ?_ q) (fun _ q => q) fun _ _ q => q
    rcases hc with z | z
    . rw [z]; exact nb
    . intro z2; rw [z2, nC] at z; cases z
  exact I.call' (s' := { s5 with heap := h' }) (ch := ex) J.os u2 hok J.bare fun b hb => ⟨(hex b hb).2.2.2.1, (hex b hb).2.1, (hex b hb).2.2.2.2.1, (hex b hb).2.2.2.2.2⟩
theorem Inv.fade {pins : List (Addr × Obj)} {σ σ' : St} {H : Hp} {s : Shared} (I : Inv X pins σ' H s) (k : Kp σ σ') : Inv X pins σ H s := by
  refine ⟨I.ok, I.os, I.bare, I.base, ?_, I.cell, I.free, I.freeC, I.pin, I.hok, k.1.symm.trans I.len⟩
  obtain ⟨m, hn, hl⟩ := I.loc
  exact ⟨m, hn, fun i x v h1 h2 h3 => hl i x v h1 (k.2 i v h2) h3⟩
theorem Aep {pins : List (Addr × Obj)} {σ : St} {H3 : Hp} {s3 s4 : Shared} {Q : VK} {R : Result -> Shared -> Prop} {fp : List Addr} {it p : Addr} {tn : Nat -> Heap -> Prop} {J : It} {W : Nat -> Nat -> List V -> Hp -> Prop} {m0 : Nat} (hc : X.calm = true) (S : Cj X ts fs scope)
    (hg : ∀ ex s H, PG (cxC X (cpN ts fs) scope ex s H) tg g) (ht : ∀ ex s H, PTs (cxC X (cpN ts fs) scope ex s H) ifs tt) (he : ∀ ex s H, PE (cxC X (cpN ts fs) scope ex s H) elt te)
    (I3 : Inv X pins σ H3 s3) (T : Turn X.prog X.w X.K tg J fp it tn) (hex : ∀ b ∈ fp, Vm X pins H3 b) (lt : ∀ b ∈ fp, b < s3.heap.objs.size)
    (I4 : Inv (cxC X (cpN ts fs) scope fp s3 H3) [] (cpσ ts.length fs σ) H3 s4) (st4 : tn 0 s4.heap) (w0 : W 0 m0 [] H3)
    (fin : ∀ H5 s6, Inv (cxC X (cpN ts fs) scope fp s3 H3) [] (cpσ ts.length fs σ) H5 s6 -> Q (.ref p) H5 -> R (.ok .next) s6)
    (turn : ∀ i m acc H2, W i m acc H2 -> (J.stop i H2 /\ Q (.ref p) H2) \/ (J.go i H2 /\ ∀ x H3, J.yld i H2 x H3 -> g x (cpσ ts.length fs σ) H3 fun σ4 H4 => Kp (cpσ ts.length fs σ) σ4 /\ tt σ4 H4 fun b H5 =>
      if b = true then te σ4 H5 fun y H6 => H6 p = some (.lst acc) /\ acc.length < sizeLine /\ ∃ m', m' < m /\ W (i + 1) m' (acc ++ [y]) (upd H6 p (.lst (acc ++ [y]))) else ∃ m', m' < m /\ W (i + 1) m' acc H5)) :
    codeAny (model X.prog X.w) X.A (.compLoop (.ListComp elt [⟨tg, iter, ifs, 0⟩] scope pos) 0 (.ref it) (.ref p) (cxC X (cpN ts fs) scope fp s3 H3).env) R s4 := by
  have stat : ∀ {H' : Hp}, (∀ b ∈ fp, H' b = none) -> ∀ b ∈ fp, Vm (cxC X (cpN ts fs) scope fp s3 H3) [] H' b := fun hn b hb =>
    ⟨hn b hb, Nat.ne_of_lt (lt b hb), fun z => (List.mem_cons.mp (I3.stkSub b z)).elim (hex b hb).2.1 (hex b hb).2.2.1, .inl hb, fun x c e => (hex b hb).2.2.2.2.1 x c (S.sub I3.ok e), fun q hq => absurd (show q ∈ ([] : List (Addr × Obj)) from hq) (by simp)⟩
  refine V1 (fun n s' => ∃ i acc H', Inv (cxC X (cpN ts fs) scope fp s3 H3) [] (cpσ ts.length fs σ) H' s' /\ tn i s'.heap /\ (∀ b ∈ fp, H' b = none) /\ W i n acc H') ?_ m0 ⟨0, [], H3, I4, st4, fun b hb => (hex b hb).1, w0⟩
  rintro n s5 ⟨i, acc, H5, I5, st5, fr5, w5⟩
  rcases turn i n acc H5 w5 with ⟨stop, q⟩ | ⟨go, step⟩
  . refine thn (T.done (cxC X (cpN ts fs) scope fp s3 H3) rfl rfl rfl hc i [] s5 _ H5 _ I5 (stat fr5) st5 stop) fun r s6 ⟨hr, I6⟩ => ?_
    subst hr
    exact fin H5 s6 I6 q
  . refine thn (T.item (cxC X (cpN ts fs) scope fp s3 H3) rfl rfl rfl hc i [] s5 _ H5 _ I5 (stat fr5) st5 go) fun r s6 ⟨u, hr, h6⟩ => ?_
    subst hr
    refine thn h6 fun _ s7 ⟨x, H7, I7, r7, y7, st7, fr7⟩ => ?_
    have I7' := I7.pinned (stat fr7) (T.obj _ _ st7)
    refine thn (hg fp s3 H3 _ s7 _ H7 x u _ I7' r7 (step x H7 y7)) fun _ s8 ⟨σ8, H8, I8, kp, q8⟩ => ?_
    have again : ∀ {H9 : Hp} {s9 : Shared} {acc' : List V} {m' : Nat}, Inv (cxC X (cpN ts fs) scope fp s3 H3) ([] ++ V4 fp s7.heap) σ8 H9 s9 -> m' < n -> W (i + 1) m' acc' H9 ->
        ∃ m, m < n /\ ∃ i acc H', Inv (cxC X (cpN ts fs) scope fp s3 H3) [] (cpσ ts.length fs σ) H' s9 /\ tn i s9.heap /\ (∀ b ∈ fp, H' b = none) /\ W i m acc H' := fun {H9 s9 acc' m'} I9 hm w9 => by
      refine ⟨m', hm, i + 1, acc', H9, (I9.fade kp).unpinned, T.keep _ _ _ st7 fun b hb o e => (I9.pin (b, o) (List.mem_append_right _ (List.mem_append_right _ (Jl hb e)))).1, fun b hb => ?_, w9⟩
      obtain ⟨o, e, d⟩ := T.obj _ _ st7 b hb
      exact (I9.pin (b, o) (List.mem_append_right _ (List.mem_append_right _ (Jl hb e)))).2.1
    refine thn (ht fp s3 H3 _ s8 σ8 H8 _ I8 q8) fun ok s9 ⟨H9, I9, q9⟩ => ?_
    cases ok with
    | false =>
      rw [if_neg Bool.false_ne_true] at q9 ⊢
      obtain ⟨m', hm, w9⟩ := q9
      exact again I9 hm w9
    | true =>
      rw [if_pos rfl] at q9 ⊢
      refine thn (he fp s3 H3 _ s9 σ8 H9 _ I9 q9) fun y s10 ⟨yv, H10, I10, r10, hp10, hlen, m', hm, w10⟩ => ?_
      exact thn (Jj _ s10 σ8 H10 (.ref p) [yv] (.ref p) [y] _ I10 rfl (.cons r10 .nil) ⟨p, acc, yv, rfl, rfl, hp10, hlen, w10⟩) fun _ s11 ⟨_, H11, I11, _, w11⟩ => again I11 hm w11
set_option maxHeartbeats 2000000 in
theorem S6 {pos' : Pos} {pins : List (Addr × Obj)} {σ : St} {H : Hp} {s : Shared} {Q : VK} {QQ : Value -> Shared -> Prop} {use : Option (Value -> Sem Unit)} (hc : X.calm = true) (S : Cj X ts fs scope) (hi : PI X tg iter wi) (hg : ∀ ex s H, PG (cxC X (cpN ts fs) scope ex s H) tg g) (ht : ∀ ex s H, PTs (cxC X (cpN ts fs) scope ex s H) ifs tt)
    (he : ∀ ex s H, PE (cxC X (cpN ts fs) scope ex s H) elt te) (hs : ∀ x, foldedSetIterable iter X.env x = pure x) (I : Inv X pins σ H s) (h : Za ts.length fs wi g tt te σ H Q)
    (fin : ∀ (H3 : Hp) (s3 : Shared) (fp : List Addr) (p : Addr) (H5 : Hp) (s6 : Shared), Inv X pins σ H3 s3 -> (∀ b ∈ fp, Vm X pins H3 b) -> Inv (cxC X (cpN ts fs) scope fp s3 H3) [] (cpσ ts.length fs σ) H5 s6 -> Q (.ref p) H5 -> compPost (model X.prog X.w) X.A X.xe use QQ (.ref p) s3.heap.objs.size (.ok .next) s6) :
    wpAny (model X.prog X.w) X.A (comprehension (.ListComp elt [⟨tg, iter, ifs, 0⟩] scope pos) scope X.env pos' (newList []) false (eval iter X.env) use) QQ X.xe s := by
  refine wpAny_comprehension_free (use := use) rfl hs (Zh (S.clos I.ok)) S.kind S.names (thn (hi pins s σ H _ I h) fun v s1 h1 => thn h1 fun itv s2 h2 => ?_)
  obtain ⟨it, fp, tn, J, H2, rfl, I2, T, st2, f2, hw⟩ := h2
  refine wpAny_newObj_type (wpAny_newFunctionEnv S.cell (by intro y hy; simp at hy) (fun h₁ hns₁ hsb₁ => ?_) S.kind)
  dsimp only at hns₁ hsb₁ ⊢
  have I3 := I2.lnew (its := []) (ys := []) (t' := s2.toks) .nil (Nat.zero_le _)
  have hD : H2 s2.heap.objs.size = none := I2.fresh
  obtain ⟨W, ⟨m0, w0⟩, turn⟩ := hw _ hD
  have up : ∀ b o, s2.heap.get? b = some o -> (s2.heap.push { cls := .type "list", data := .seq ([] : List Value).toArray }).get? b = some o := fun b o e => Heap.get?_push_of_some _ e
  have hex : ∀ b ∈ fp, Vm X pins (upd H2 s2.heap.objs.size (.lst [])) b /\ ∃ o, (s2.heap.push { cls := .type "list", data := .seq ([] : List Value).toArray }).get? b = some o := fun b hb => by
    obtain ⟨o, ho, _⟩ := T.obj _ _ st2 b hb
    have nb : b ≠ s2.heap.objs.size := Nat.ne_of_lt (Heap.lt_size ho)
    exact ⟨⟨by rw [Cu nb]; exact (f2 b hb).1, (f2 b hb).2⟩, o, up b o ho⟩
  have hk4 : ∀ b u, (s2.heap.push { cls := .type "list", data := .seq ([] : List Value).toArray }).get? b = some u -> h₁.get? b = some u := fun b u e =>
    hsb₁.extBut b u (Nat.ne_of_lt (Heap.lt_size e)) (Heap.get?_push_of_some _ e)
  have I4 := Y9 (s4 := { s2 with heap := h₁, toks := s2.toks }) S I3 hex rfl rfl hk4 hns₁
  have st4 : tn 0 h₁ := T.keep _ _ _ st2 fun b _ o e => hk4 b o (up b o e)
  have run := Aep (elt := elt) (iter := iter) (pos := pos) hc S hg ht he I3 T (fun b hb => (hex b hb).1) (fun b hb => Heap.lt_size (hex b hb).2.choose_spec) I4 st4 w0 (fun H5 s6 I6 q => fin _ _ fp _ H5 s6 I3 (fun b hb => (hex b hb).1) I6 q) turn
  exact codeAny_compStart_list run (T.self X.A 0 _ _ _ st4 run)
theorem Ja (hc : X.calm = true) (S : Cj X ts fs scope) (hi : PI X tg iter wi) (hg : ∀ ex s H, PG (cxC X (cpN ts fs) scope ex s H) tg g) (ht : ∀ ex s H, PTs (cxC X (cpN ts fs) scope ex s H) ifs tt)
    (he : ∀ ex s H, PE (cxC X (cpN ts fs) scope ex s H) elt te) (hs : ∀ x, foldedSetIterable iter X.env x = pure x := by intro _; rfl) :
    PE X (.ListComp elt [⟨tg, iter, ifs, 0⟩] scope pos) (Za ts.length fs wi g tt te) := by
  intro pins s σ H Q I h
  rw [eval_ListComp]
  refine S6 (use := none) hc S hi hg ht he hs I h fun H3 s3 fp p H5 s6 I3 hex I6 q => ?_
  obtain ⟨m, hn, _⟩ := I6.loc
  exact ⟨m, hn, fun h' sb => ⟨.ref p, H5, Xz S I3 hex I6 sb, rfl, q⟩⟩
theorem Nh {g' : TG} {y : Str} {py spos : Pos} (hc : X.calm = true) (S : Cj X ts fs scope) (hi : PI X tg iter wi) (hg : ∀ ex s H, PG (cxC X (cpN ts fs) scope ex s H) tg g) (ht : ∀ ex s H, PTs (cxC X (cpN ts fs) scope ex s H) ifs tt)
    (he : ∀ ex s H, PE (cxC X (cpN ts fs) scope ex s H) elt te) (hn : PG X (.Name y py) g') (hsw : swapsWith (.ListComp elt [⟨tg, iter, ifs, 0⟩] scope pos) (some (.Name y py)) spos.line X.env = pure true := by rfl) (hs : ∀ x, foldedSetIterable iter X.env x = pure x := by intro _; rfl) :
    PS X (.Assign [.Name y py] (.ListComp elt [⟨tg, iter, ifs, 0⟩] scope pos) spos) (Agl (Za ts.length fs wi g tt te) g') := by
  intro pins s σ H D I h
  rw [exec_Assign_Name_used _ _ _ _ hsw]
  refine wpAny_bind (wpAny_standAt (wpAny_bind ?_))
  show wpAny _ X.A (do let _ <- comprehension (.ListComp elt [⟨tg, iter, ifs, 0⟩] scope pos) scope X.env _ (newList []) false (eval iter X.env) (some (assign (.Name y py) X.env))) _ _ s
  refine wpAny_bind (wpAny_mono (S6 (use := some (assign (.Name y py) X.env)) (QQ := fun _ s' => SP X pins D .next s') hc S hi hg ht he hs I h fun H3 s3 fp p H5 s6 I3 hex I6 q => ?_) (fun _ s' hq => wpAny_pure (wpAny_pure hq)) fun _ _ e => e)
  have J : Inv X pins σ H5 s6 := Xz S I3 hex I6 (Heap.SameBut.refl _ _)
  obtain ⟨m, ⟨o, es, ep, ho, hd, hsk, hf⟩, _⟩ := I6.loc
  have ho' : s6.heap.get? s3.heap.objs.size = some o := ho
  have fC : Vm X pins H5 s3.heap.objs.size := I3.fpOk (Nat.le_refl _) I6.free
  have J' := J.pinned (fp := [s3.heap.objs.size]) (fun b hb => by
    have e : b = s3.heap.objs.size := by simpa using hb
    subst e
    exact fC) (fun b hb => by
    have e : b = s3.heap.objs.size := by simpa using hb
    subst e
    exact ⟨o, ho', fun v z => by rw [hd] at z; cases z⟩)
  refine thn (hn _ s6 σ H5 (.ref p) (.ref p) _ J' rfl q) fun _ s7 ⟨σ7, H7, I7, q7⟩ => ?_
  have pC := I7.pin (s3.heap.objs.size, o) (List.mem_append_right _ (List.mem_append_right _ (Jl (by simp) ho')))
  exact ⟨m, ⟨o, es, ep, pC.1, hd, hsk, hf⟩, fun h' sb => ⟨σ7, H7, I7.unpinned.turned (t' := s7.toks) (fun b o hb e => sb.extBut b o hb e) pC.2.1 fC.2.1 fC.2.2.2.1 fC.2.2.2.2.1 fC.2.2.2.2.2, q7⟩⟩
end
section
variable {K : PySem.W.Frag} {H1 : Hp} {p : Addr} {cσ : St} {g : TG} {te : TE} {Q : VK} {α : Type} {es : List α} {inj : α -> V}
def Wk (J : It) (H1 : Hp) (es : List α) (inj : α -> V) : Prop := ∀ i H', Same H1 H' -> (es[i]? = none -> J.stop i H') /\ ∀ e, es[i]? = some e -> J.go i H' /\ ∀ x H3, J.yld i H' x H3 -> H3 = H' /\ x = inj e
theorem Xx {a : Addr} (h : SqL K H1 a (es.map inj)) : Wk (Itl K a) H1 es inj := fun i H' s => by
  have h' := s.seq h
  refine ⟨fun e => ⟨_, h', ?_⟩, fun e he => ⟨⟨_, inj e, h', by rw [List.getElem?_map, he]; rfl⟩, fun x H3 ⟨e1, e2⟩ => ⟨e1, ?_⟩⟩⟩
  . rw [List.length_map]
    exact List.getElem?_eq_none_iff.mp e
  . have z := e2 _ h'
    rw [List.getElem?_map, he] at z
    exact (Option.some.inj z).symm
theorem Qk {a : Addr} (h : SqT K H1 a (es.map inj)) : Wk (Itt K a) H1 es inj := fun i H' s => by
  have h' := s.tup h
  refine ⟨fun e => ⟨_, h', ?_⟩, fun e he => ⟨⟨_, inj e, h', by rw [List.getElem?_map, he]; rfl⟩, fun x H3 ⟨e1, e2⟩ => ⟨e1, ?_⟩⟩⟩
  . rw [List.length_map]
    exact List.getElem?_eq_none_iff.mp e
  . have z := e2 _ h'
    rw [List.getElem?_map, he] at z
    exact (Option.some.inj z).symm
theorem Ys {lo : Int} {n : Nat} : Wk (Itr lo n) H1 (List.range n) (fun i => .int (lo + (i : Nat))) := fun i H' s => by
  refine ⟨fun e => ?_, fun e he => ?_⟩
  . have := List.getElem?_eq_none_iff.mp e
    show n <= i
    simpa using this
  . obtain ⟨h, z⟩ := List.getElem?_eq_some_iff.mp he
    have hi : i < n := by simpa using h
    have z' : i = e := by simpa using z
    subst z'
    exact ⟨hi, fun x H3 ⟨e1, e2⟩ => ⟨e1, e2⟩⟩
theorem J5 {J : It} (f : α -> V) (hz : es.length <= sizeLine) (hp : H1 p = none) (hJ : Wk J H1 es inj)
    (step : ∀ e H' R, e ∈ es -> Same H1 H' -> (∀ H6, Same H' H6 -> R (f e) H6) -> g (inj e) cσ H' fun σ4 H4 => Kp cσ σ4 /\ te σ4 H4 R)
    (done : ∀ H', Same H1 H' -> H' p = some (.lst (es.map f)) -> Q (.ref p) H') : cIn J cσ g Zr te Q H1 p := by
  have su : ∀ {H' : Hp} {o : HO}, Same H1 H' -> Same H1 (upd H' p o) := fun {H' o} s b u e => by
    rw [Cu (Br e hp)]
    exact s b u e
  refine ⟨fun i m acc H' => m = es.length - i /\ i <= es.length /\ acc = (es.take i).map f /\ H' p = some (.lst acc) /\ Same H1 H', ⟨es.length, by simp, Nat.zero_le _, by simp, Af, su (Same.refl _)⟩, ?_⟩
  rintro i m acc H' ⟨rfl, hi, rfl, hH, s⟩
  cases he : es[i]? with
  | none =>
    have hl := List.getElem?_eq_none_iff.mp he
    have e : i = es.length := Nat.le_antisymm hi hl
    subst e
    rw [List.take_length] at hH
    exact .inl ⟨(hJ _ _ s).1 he, done _ s hH⟩
  | some e =>
    obtain ⟨go, yl⟩ := (hJ _ _ s).2 e he
    refine .inr ⟨go, fun x H3 y => ?_⟩
    obtain ⟨rfl, rfl⟩ := yl x H3 y
    obtain ⟨hlt, e'⟩ := List.getElem?_eq_some_iff.mp he
    have tk : es.take (i + 1) = es.take i ++ [e] := by rw [List.take_succ, he]; rfl
    have q := step e H3 (fun y H6 => H6 p = some (.lst ((es.take i).map f)) /\ ((es.take i).map f).length < sizeLine /\ ∃ m', m' < es.length - i /\ m' = es.length - (i + 1) /\ i + 1 <= es.length /\ (es.take i).map f ++ [y] = (es.take (i + 1)).map f /\
        upd H6 p (.lst ((es.take i).map f ++ [y])) p = some (.lst ((es.take i).map f ++ [y])) /\ Same H1 (upd H6 p (.lst ((es.take i).map f ++ [y])))) (List.mem_of_getElem? he) s
      (fun H6 s6 => ⟨s6 _ _ hH, by rw [List.length_map, List.length_take]; omega, _, by omega, rfl, hlt, by rw [tk, List.map_append]; rfl, Af, su (s.trans s6)⟩)
    have eq : ∀ (R : VK) (B : Hp -> Prop), (fun σ4 H4 => Kp cσ σ4 /\ Zr σ4 H4 fun b H5 => if b = true then te σ4 H5 R else B H5) = (fun σ4 H4 => Kp cσ σ4 /\ te σ4 H4 R) := fun R B => by
      funext σ4 H4
      show (Kp cσ σ4 /\ if true = true then te σ4 H4 R else B H4) = _
      rw [if_pos rfl]
    rw [eq]
    exact q
end
section
variable {X : Cx} {K : PySem.W.Frag} {σ : St} {H : Hp} {Q : VK} {R : It -> Hp -> Prop}
theorem Fi {n : Nat} {fs : List (Nat × Str)} {wi : TI} {g : TG} {tt : TT} {te : TE} : Za n fs wi g tt te σ H Q = wi σ H (fun J H1 => ∀ p, H1 p = none -> cIn J (cpσ n fs σ) g tt te Q H1 p) := rfl
theorem Er {ta : TA} : Ah0 ta σ H R = ta σ H (fun vs H1 => ∃ j : Int, vs = [.int j] /\ -(2 ^ 62) <= j /\ j < 2 ^ 62 /\ R (Itr 0 j.toNat) H1) := rfl
theorem Ei {ta : TA} : Aha ta σ H R = ta σ H (fun vs H1 => ∃ i j : Int, vs = [.int i, .int j] /\ (-(2 ^ 62) <= i /\ i < 2 ^ 62 /\ -(2 ^ 62) <= j /\ j < 2 ^ 62) /\ R (Itr i (j - i).toNat) H1) := rfl
theorem Ci {tl : TE} : Agn K tl σ H R = tl σ H (fun x H1 => ∃ a, x = .ref a /\ (∃ xs, SqL K H1 a xs) /\ R (Itl K a) H1) := rfl
theorem Ey {tl : TE} : Alk K tl σ H R = tl σ H (fun x H1 => ∃ a, x = .ref a /\ (∃ xs, SqT K H1 a xs) /\ R (Itt K a) H1) := rfl
theorem Hh {a : Addr} {p : Addr -> Prop} : (∃ b, V.ref a = .ref b /\ p b) = p a := propext ⟨fun ⟨_, e, h⟩ => by cases e; exact h, fun h => ⟨a, rfl, h⟩⟩
theorem Ij {v : Option V} {r : St} : Kp (none :: r) (v :: r) = True := by
  refine eq_true ⟨rfl, fun i u e => ?_⟩
  cases i with
  | zero => cases e
  | succ i => exact e
theorem G9 {v v' : Option V} {r : St} : Kp (none :: none :: r) (v :: v' :: r) = True := by
  refine eq_true ⟨rfl, fun i u e => ?_⟩
  cases i with
  | zero => cases e
  | succ i =>
    cases i with
    | zero => cases e
    | succ i => exact e
theorem Fb {k : Bool} {p : Int -> Prop} {q : Bool -> Prop} : ((∃ i, [V.bl k] = [V.int i] /\ p i) \/ ∃ k', [V.bl k] = [V.bl k'] /\ q k') = q k :=
  propext ⟨fun h => h.elim (fun ⟨_, e, _⟩ => by cases e) fun ⟨_, e, h⟩ => by cases e; exact h, fun h => .inr ⟨k, rfl, h⟩⟩
end
end L2
namespace L2
open PySem PySem.Spec PyProof.Rows
def FI (J : It) (g : TG) (tb : TS) (D : Ends) (σ : St) (H : Hp) : Prop := ∃ W : Nat -> Nat -> St -> Hp -> Prop, (∃ m, W 0 m σ H) /\ ∀ i m σ H, W i m σ H ->
  (J.stop i H /\ D.nx σ H) \/ (J.go i H /\ ∃ N : St -> Hp -> Prop, (∀ σ' H', N σ' H' -> ∃ m', m' < m /\ W (i + 1) m' σ' H') /\ ∀ x H', J.yld i H x H' -> g x σ H' fun σ2 H2 => tb { D with nx := N, ct := N, bk := D.nx } σ2 H2)
theorem Gs {wi : TI} {g : TG} {tb : TS} {D : Ends} {σ : St} {H : Hp} : Alp wi g tb D σ H = wi σ H (fun J H1 => FI J g tb D σ H1) := rfl
section
variable {K : PySem.W.Frag} {σ : St} {H : Hp} {g : TG} {tb : TS} {D : Ends} {α : Type} {es : List α} {inj : α -> V}
def Agx (J : It) (H : Hp) (es : List α) (inj : α -> V) : Prop := ∀ i, (es[i]? = none -> J.stop i H) /\ ∀ e, es[i]? = some e -> J.go i H /\ ∀ x H3, J.yld i H x H3 -> H3 = H /\ x = inj e
theorem Vu {a : Addr} (h : SqL K H a (es.map inj)) : Agx (Itl K a) H es inj := fun i => Xx h i H (Same.refl _)
theorem Ot {a : Addr} (h : SqT K H a (es.map inj)) : Agx (Itt K a) H es inj := fun i => Qk h i H (Same.refl _)
theorem Jm {lo : Int} {n : Nat} : Agx (Itr lo n) H (List.range n) (fun i => .int (lo + (i : Nat))) := fun i => Ys i H (Same.refl _)
theorem R6 {J : It} (Pv : List α -> St -> Hp -> Prop) (h0 : Pv [] σ H) (hw : ∀ pre σ H, Pv pre σ H -> Agx J H es inj)
    (hs : ∀ pre e post σ H, es = pre ++ e :: post -> Pv pre σ H -> g (inj e) σ H fun σ2 H2 => tb { D with nx := Pv (pre ++ [e]), ct := Pv (pre ++ [e]), bk := D.nx } σ2 H2) (hd : ∀ σ H, Pv es σ H -> D.nx σ H) : FI J g tb D σ H := by
  refine ⟨fun i m σ H => m = es.length - i /\ i <= es.length /\ Pv (es.take i) σ H, ⟨es.length, by simp, Nat.zero_le _, h0⟩, ?_⟩
  rintro i m σ H ⟨rfl, hi, p⟩
  have w := hw _ _ _ p i
  cases he : es[i]? with
  | none =>
    have e : i = es.length := Nat.le_antisymm hi (List.getElem?_eq_none_iff.mp he)
    subst e
    rw [List.take_length] at p
    exact .inl ⟨w.1 he, hd _ _ p⟩
  | some e =>
    obtain ⟨hlt, ee⟩ := List.getElem?_eq_some_iff.mp he
    have tk : es.take (i + 1) = es.take i ++ [e] := by rw [List.take_succ, he]; rfl
    have sp : es = es.take i ++ e :: es.drop (i + 1) := by
      rw [<- ee, <- List.drop_eq_getElem_cons hlt, List.take_append_drop]
    refine .inr ⟨(w.2 e he).1, Pv (es.take i ++ [e]), fun σ' H' q => ⟨es.length - (i + 1), by omega, rfl, hlt, by rw [tk]; exact q⟩, fun x H' y => ?_⟩
    obtain ⟨rfl, rfl⟩ := (w.2 e he).2 x H' y
    exact hs _ e _ σ H' sp p
end
end L2
namespace L2
open PySem PySem.Spec PyProof.Rows
section
variable {K : PySem.W.Frag} {σ : St} {H : Hp} {Q : VK}
theorem Qh {r : V -> Option Int -> Option Int -> Hp -> VK -> Prop} {te : TE} {tl th : TO} : tSl r te tl th σ H Q = te σ H (fun x H1 => tl σ H1 fun l H2 => th σ H2 fun u H3 => r x l u H3 Q) := rfl
theorem Bp {R : Option Int -> Hp -> Prop} : W7 σ H R = R none H := rfl
theorem Ec {t : TE} {R : Option Int -> Hp -> Prop} : Agm t σ H R = t σ H (fun x H1 => ∃ i, x = .int i /\ R (some i) H1) := rfl
theorem Hr {T : String} {r : V -> List V -> Hp -> VK -> Prop} {to : TE} : Ak9 K T r to σ H Q = to σ H (fun x H1 => tyV K T x H1 /\ r x [] H1 Q) := rfl
theorem Rf {T : String} {r : V -> List V -> Hp -> VK -> Prop} {to : TE} {t : TA} : tBM K T r to t σ H Q = to σ H (fun x H1 => tyV K T x H1 /\ t σ H1 fun xs H2 => r x xs H2 Q) := rfl
end
section
variable {CX : CXT} {P : Program} {w : World} {K : PySem.W.Frag} {mg : Str -> Option Value} {base : Heap} {N : List Str} {qual : Str} {scope : Scope} {f : Addr} {cd : Value} {A : Around} {outer : List Env} {s : Shared} {H H1 H2 : Hp} {E : XK} {Q : VK} {a b : Addr} {ns ms : List Int} {g : Bool -> Bool}
theorem Ib : (Rg CX P w K mg base N qual scope f cd A outer s H E).K = K := rfl
theorem En : (Rg CX P w K mg base N qual scope f cd A outer s H E).nox.K = K := rfl
theorem Oe (ns : List Int) : SeqAt.shaped (.list (ns.map PyData.int)) = true := by
  simp [SeqAt.shaped, PyData.canLay0, PyData.depth, PySem.W.ke_canLayAll0, PySem.W.ke_depthAll]
theorem Ut (ha : SqL K H a (ns.map V.int)) (hb : SqL K H b (ms.map V.int)) (h : Q (.bl (g (decide (ns = ms)))) H) : Aj2 K g (.ref a) (.ref b) H Q :=
  ⟨_, _, .lints ha, .lints hb, Oe _, Oe _, by rw [PyData.eqv, O7]; exact h⟩
end
end L2
namespace L2
open PySem PySem.Spec PyProof.Rows
section
variable {c : TT} {tb : TS} {D : Ends} {σ : St} {H : Hp}
def WB (Pv : St -> Hp -> Prop) (μ : St -> Hp -> Nat) (tb : TS) (D : Ends) (n : Nat) (σ : St) (H : Hp) : Prop :=
  ∃ N : St -> Hp -> Prop, (∀ σ' H', N σ' H' -> ∃ m', m' < n /\ (m' = μ σ' H' /\ Pv σ' H')) /\ tb { D with nx := N, ct := N, bk := D.nx } σ H
theorem Abd {Pv : St -> Hp -> Prop} {μ : St -> Hp -> Nat} {n : Nat} (h : tb { D with nx := fun σ' H' => Pv σ' H' /\ μ σ' H' < n, ct := fun σ' H' => Pv σ' H' /\ μ σ' H' < n, bk := D.nx } σ H) : WB Pv μ tb D n σ H :=
  ⟨_, fun _ _ ⟨p, l⟩ => ⟨_, l, rfl, p⟩, h⟩
theorem K4 (Pv : St -> Hp -> Prop) (μ : St -> Hp -> Nat) (h0 : Pv σ H) (hs : ∀ σ H, Pv σ H -> c σ H fun b H1 => if b = true then WB Pv μ tb D (μ σ H) σ H1 else D.nx σ H1) : Wa c tb D σ H := by
  refine ⟨fun m σ H => m = μ σ H /\ Pv σ H, ⟨_, rfl, h0⟩, ?_⟩
  rintro m σ H ⟨rfl, p⟩
  exact hs σ H p
end
theorem Fe {a : Addr} {p : Addr -> Prop} : (∃ b, [V.ref a] = [.ref b] /\ p b) = p a := propext ⟨fun ⟨_, e, h⟩ => by cases e; exact h, fun h => ⟨a, rfl, h⟩⟩
section
variable {K : PySem.W.Frag} {σ : St} {H : Hp} {Q : St -> Hp -> Prop} {R : VK} {p a b : Addr} {v w : V} {i j : Nat} {xs : List V} {ns ms : List Int} {f : Bool -> Bool}
theorem Ka (h : SqT K H p [v, w]) (q : Q ((σ.set i (some v)).set j (some w)) H) : Aip K 2 (Xb (R5 i) (Xb (R5 j) Akg)) (.ref p) σ H Q := ⟨p, _, rfl, h, rfl, v, _, rfl, w, _, rfl, rfl, q⟩
theorem Fg {to ti : TE} {t : Air} : Ak0 to ti t v σ H Q = to σ H (fun o H1 => ti σ H1 fun i H2 => t o i v H2 fun H3 => Q σ H3) := rfl
theorem Y0 {G : Hp -> Prop} (hp : H p = some (.lst xs)) (hj : j < xs.length) (q : G (upd H p (.lst (xs.set j v)))) : Ai7 (.ref p) (.int (j : Nat)) v H G := by
  refine ⟨p, xs, j, j, rfl, rfl, hp, ?_, q⟩
  unfold ixN
  rw [if_pos (by omega), if_pos (by omega), Int.toNat_natCast]
theorem Va (h : SqL K H a xs) (e : xs[j]? = some v) (q : R v H) : Ake K (.ref a) (.int (j : Nat)) H R := Lh h (Jc e) q
theorem Dh (ha : SqT K H a (ns.map V.int)) (hb : SqT K H b (ms.map V.int)) (h : R (.bl (f (decide (ns = ms)))) H) : Ali K f (.ref a) (.ref b) H R := ⟨a, b, ns, ms, rfl, rfl, ha, hb, h⟩
theorem K8 (ns : List Int) (j : Nat) (x : Int) : (ns.map V.int).set j (.int x) = (ns.set j x).map V.int := by rw [List.map_set]
theorem K7 {ns : List Int} {j : Nat} (h : j < ns.length) : (ns.map V.int)[j]? = some (.int ns[j]) := by rw [List.getElem?_map, List.getElem?_eq_getElem h]; rfl
theorem Pj (k : Nat) : (List.replicate k [V.int 0]).flatten = (List.replicate k (0 : Int)).map V.int := by
  induction k with
  | zero => rfl
  | succ k ih => rw [List.replicate_succ, List.flatten_cons, ih, List.replicate_succ, List.map_cons]; rfl
end
end L2
namespace L2
open PySem PySem.Spec PyProof.Rows
section
variable {prog : Program} {w : World} {A : Around} {E : Value -> Shared -> Prop} {s : Shared} {j u : Addr} {i : Nat} {xs : Array Value}
theorem nextT {y : Value} {Q : Value -> Shared -> Prop} (hj : s.heap.IsTupleIter j u i) (hu : s.heap.IsTuple u xs) (hy : xs[i]? = some y)
    (k : ∀ g, g.IsTupleIter j u (i + 1) -> Heap.SameBut j s.heap g -> Q y { s with heap := g }) : wpAny (model prog w) A (Builtin.SmallTypes.nextOf (.ref j)) Q E s := by
  obtain ⟨oj, ej, cj, dj⟩ := id hj
  obtain ⟨ou, eu, _, nu, du⟩ := hu
  unfold Builtin.SmallTypes.nextOf
  refine wpAny_bind (wpAny_callSpecial?_slot (name := Str.ofString "__next__") hj.typeIs F.slot_tuple_iterator_next (wpAny_call_entry F.slot_tuple_iterator_next hj.typeIs F.entry_tuple_iterator_next ?_ (F.args_tuple_iterator_next_1 _)))
  show wpAny _ _ (field (.ref j) 0 >>= _) _ _ s
  refine wpAny_bind (wpAny_field ej dj (x := .ref u) rfl ?_)
  show wpAny _ _ (if (Value.ref u == Value.none) = true then _ else _) _ _ s
  rw [if_neg (show ¬ ((Value.ref u == Value.none) = true) from Bool.false_ne_true)]
  show wpAny _ _ (field (.ref j) 1 >>= _) _ _ s
  refine wpAny_bind (wpAny_field ej dj (x := .int i 0) rfl ?_)
  show wpAny _ _ (seqItems? (.ref u) >>= _) _ _ s
  refine wpAny_bind (wpAny_seqItems eu du ?_)
  simp only [hy, Int.toNat_natCast]
  refine wpAny_bind (wpAny_setField ej dj (by simp) (wpAny_pure ⟨y, rfl, wpAny_pure (k _ ?_ (Heap.SameBut.update ..))⟩))
  exact ⟨_, Heap.get?_update_self _ ej (Obj.isFreed_of_fields (Obj.data_mapFields dj _)), (Obj.cls_mapFields ..).trans cj, by rw [Obj.data_mapFields dj]; simp [rawInt]⟩
theorem Wb {Q : Value -> Shared -> Prop} (hh : A.handled = none) (hj : s.heap.IsTupleIter j u i) (hu : s.heap.IsTuple u xs) (hy : xs[i]? = none)
    (k : ∀ g e, Heap.ExtBut j s.heap g -> (∃ o, g.get? e = some o /\ o.cls = .type "StopIteration") -> E (.ref e) { s with heap := g }) : wpAny (model prog w) A (Builtin.SmallTypes.nextOf (.ref j)) Q E s := by
  obtain ⟨oj, ej, cj, dj⟩ := id hj
  obtain ⟨ou, eu, _, nu, du⟩ := hu
  unfold Builtin.SmallTypes.nextOf
  refine wpAny_bind (wpAny_callSpecial?_slot (name := Str.ofString "__next__") hj.typeIs F.slot_tuple_iterator_next (wpAny_call_entry F.slot_tuple_iterator_next hj.typeIs F.entry_tuple_iterator_next ?_ (F.args_tuple_iterator_next_1 _)))
  show wpAny _ _ (field (.ref j) 0 >>= _) _ _ s
  refine wpAny_bind (wpAny_field ej dj (x := .ref u) rfl ?_)
  show wpAny _ _ (if (Value.ref u == Value.none) = true then _ else _) _ _ s
  rw [if_neg (show ¬ ((Value.ref u == Value.none) = true) from Bool.false_ne_true)]
  show wpAny _ _ (field (.ref j) 1 >>= _) _ _ s
  refine wpAny_bind (wpAny_field ej dj (x := .int i 0) rfl ?_)
  show wpAny _ _ (seqItems? (.ref u) >>= _) _ _ s
  refine wpAny_bind (wpAny_seqItems eu du ?_)
  simp only [hy, Int.toNat_natCast]
  refine wpAny_bind (wpAny_rule (wpAny_bind (wpAny_setField ej dj (by simp) ?_)))
  show wpAny _ A.in1 (newExc (.type "StopIteration") [] >>= _) _ _ _
  refine wpAny_bind ?_
  simp only [newTuple, newExc]
  refine wpAny_bind (wpAny_newObj_type ?_ (by size_fits))
  refine wpAny_bind (m := firstArgMember _ _) (wpAny_of_eq (a := Value.none) (by first | rfl | (simp only [firstArgMember] ; rfl)) ?_)
  refine (wpAny_newObj_type ?_ (by size_fits))
  simp only [raiseNew]
  refine wpAny_bind (wpAny_handled ?_)
  first | rw [show A.in1.handled = none from hh] | (rw [hh])
  refine wpAny_bind (wpAny_pure (wpAny_throw ?_))
  exact k _ _ (((Heap.SameBut.update ..).extBut.push _).push _) ⟨_, Heap.get?_push_size _ rfl, rfl⟩
theorem Ad5 {e : Addr} {y old : Value} {Q : Value -> Shared -> Prop} (he : IsEnum s.heap e j i old) (hj : s.heap.IsTupleIter j u i) (hu : s.heap.IsTuple u xs) (hy : xs[i]? = some y) (ne : e ≠ j)
    (k : ∀ g, IsEnumOut g e j ((i : Int) + 1) y s.heap.objs.size -> g.IsTupleIter j u (i + 1) -> g.get? s.heap.objs.size = some { cls := .type "tuple", data := .seq #[.int i s.toks, y] } -> g.objs.size = s.heap.objs.size + 1 ->
      (∀ b o, b ≠ e -> b ≠ j -> s.heap.get? b = some o -> g.get? b = some o) -> Q (.ref s.heap.objs.size) { s with heap := g, toks := s.toks + 1 }) :
    wpAny (model prog w) A (Builtin.«enumerate.__next__» ⟨[.ref e], []⟩) (fun fin s' => ∃ v, fin = .done (.ret v) /\ Q v s') E s := by
  obtain ⟨hp, gg, d, tk, os⟩ := s
  show wpAny _ _ (field (.ref e) 2 >>= _) _ _ _
  refine wpAny_bind (wpAny_field he rfl (x := .ref j) rfl ?_)
  refine wpAny_bind (nextT hj hu hy fun g₁ hj₁ sb₁ => ?_)
  replace sb₁ : Heap.SameBut j hp g₁ := sb₁
  have e₁ : IsEnum g₁ e j i old := (sb₁.2 e ne).trans he
  show wpAny _ _ (field (.ref e) 3 >>= _) _ _ ⟨g₁, gg, d, tk, os⟩
  refine wpAny_bind (wpAny_field e₁ rfl (x := rawInt i) rfl ?_)
  show wpAny _ _ (field (.ref e) 4 >>= _) _ _ ⟨g₁, gg, d, tk, os⟩
  refine wpAny_bind (wpAny_field e₁ rfl (x := .none) rfl ?_)
  show wpAny _ _ (mkInt i >>= _) _ _ ⟨g₁, gg, d, tk, os⟩
  refine wpAny_bind (wpAny_mkInt ?_)
  show wpAny _ _ (setField (.ref e) 3 (rawInt ((i : Int) + 1)) >>= _) _ _ ⟨g₁, gg, d, tk + 1, os⟩
  refine wpAny_bind (wpAny_setField_rec e₁ (by simp) fun g₂ e₂ sb₂ => ?_)
  replace sb₂ : Heap.SameBut e g₁ g₂ := sb₂
  replace e₂ : IsEnum g₂ e j ((i : Int) + 1) old := e₂
  show wpAny _ _ (setField (.ref e) 4 .none >>= _) _ _ ⟨g₂, gg, d, tk + 1, os⟩
  refine wpAny_bind (wpAny_setField_rec e₂ (by simp) fun g₃ e₃ sb₃ => ?_)
  replace sb₃ : Heap.SameBut e g₂ g₃ := sb₃
  replace e₃ : IsEnum g₃ e j ((i : Int) + 1) old := e₃
  show wpAny _ _ (newTuple [.int i tk, y] >>= _) _ _ ⟨g₃, gg, d, tk + 1, os⟩
  refine wpAny_bind (wpAny_newTuple ?_)
  have e₄ : IsEnum (g₃.push { cls := .type "tuple", data := .seq #[.int i tk, y] }) e j ((i : Int) + 1) old := Heap.get?_push_of_some _ e₃
  generalize hg : g₃.push { cls := .type "tuple", data := .seq #[.int i tk, y] } = g₄ at e₄
  have sz : g₃.objs.size = hp.objs.size := by rw [sb₃.1, sb₂.1, sb₁.1]
  have lt : e < hp.objs.size := Heap.lt_size he
  have t₄ : g₄.get? hp.objs.size = some { cls := .type "tuple", data := .seq #[.int i tk, y] } := by rw [<- hg, <- sz]; exact Heap.get?_push_size _ rfl
  have z₄ : g₄.objs.size = hp.objs.size + 1 := by rw [<- hg, Heap.size_push, sz]
  have k₄ : ∀ b o, b ≠ e -> b ≠ j -> hp.get? b = some o -> g₄.get? b = some o := fun b o h1 h2 hb => by
    rw [<- hg]; exact Heap.get?_push_of_some _ (sb₃.extBut b o h1 (sb₂.extBut b o h1 (sb₁.extBut b o h2 hb)))
  have j₄ : g₄.IsTupleIter j u (i + 1) := by
    rw [<- hg]; obtain ⟨o, ho, r⟩ := (hj₁.extBut sb₂.extBut (Ne.symm ne)).extBut sb₃.extBut (Ne.symm ne); exact ⟨o, Heap.get?_push_of_some _ ho, r⟩
  show wpAny _ _ (Builtin.SmallTypes.ownedTupleIsFree (.ref e) >>= _) _ _ ⟨g₄, gg, d, tk + 1, os⟩
  rw [sz]
  clear hg e₃ sb₃ e₂ sb₂ e₁ sb₁ hj₁ sz g₃ g₂ g₁
  refine wpAny_bind ?_
  . unfold Builtin.SmallTypes.ownedTupleIsFree
    refine wpAny_bind (wpAny_field e₄ rfl (x := .none) rfl (wpAny_pure ?_))
    simp only [if_true]
    refine wpAny_bind (wpAny_rule ?_)
    refine wpAny_bind (wpAny_field e₄ rfl (x := old) rfl ?_)
    refine wpAny_bind (wpAny_setField_rec e₄ (by simp) fun g₅ e₅ sb₅ => ?_)
    replace sb₅ : Heap.SameBut e g₄ g₅ := sb₅
    replace e₅ : IsEnum g₅ e j ((i : Int) + 1) y := e₅
    show wpAny _ _ (Builtin.SmallTypes.ownedTupleHandOut (.ref e) (.ref hp.objs.size) >>= _) _ _ ⟨g₅, gg, d, tk + 1, os⟩
    refine wpAny_bind ?_
    . unfold Builtin.SmallTypes.ownedTupleHandOut
      refine wpAny_bind (wpAny_setField_rec e₅ (by simp) fun g₆ e₆ sb₆ => ?_)
      replace sb₆ : Heap.SameBut e g₅ g₆ := sb₆
      replace e₆ : IsEnumOut g₆ e j ((i : Int) + 1) y hp.objs.size := e₆
      refine wpAny_setField_rec e₆ (by simp) fun g₇ e₇ sb₇ => ?_
      replace sb₇ : Heap.SameBut e g₆ g₇ := sb₇
      replace e₇ : IsEnumOut g₇ e j ((i : Int) + 1) y hp.objs.size := e₇
      refine wpAny_bind (wpAny_letGo (wpAny_pure ⟨_, rfl, k g₇ e₇ ?_ ?_ ?_ ?_⟩))
      . exact ((j₄.extBut sb₅.extBut (Ne.symm ne)).extBut sb₆.extBut (Ne.symm ne)).extBut sb₇.extBut (Ne.symm ne)
      . exact sb₇.extBut _ _ (Nat.ne_of_gt lt) (sb₆.extBut _ _ (Nat.ne_of_gt lt) (sb₅.extBut _ _ (Nat.ne_of_gt lt) t₄))
      . rw [sb₇.1, sb₆.1, sb₅.1, z₄]
      . exact fun b o h1 h2 hb => sb₇.extBut b o h1 (sb₆.extBut b o h1 (sb₅.extBut b o h1 (k₄ b o h1 h2 hb)))
theorem Aeb {e : Addr} {y old : Value} {Q : Option Value -> Shared -> Prop} (he : IsEnum s.heap e j i old) (hj : s.heap.IsTupleIter j u i) (hu : s.heap.IsTuple u xs) (hy : xs[i]? = some y) (ne : e ≠ j)
    (k : ∀ g, IsEnumOut g e j ((i : Int) + 1) y s.heap.objs.size -> g.IsTupleIter j u (i + 1) -> g.get? s.heap.objs.size = some { cls := .type "tuple", data := .seq #[.int i s.toks, y] } -> g.objs.size = s.heap.objs.size + 1 ->
      (∀ b o, b ≠ e -> b ≠ j -> s.heap.get? b = some o -> g.get? b = some o) -> Q (some (.ref s.heap.objs.size)) { s with heap := g, toks := s.toks + 1 }) : wpAny (model prog w) A (pyNext (.ref e)) Q E s := by
  have ty : s.TypeIs (.ref e) "enumerate" := ⟨_, he, rfl⟩
  unfold pyNext
  exact wpAny_bind (wpAny_attempt (wpAny_callSpecial?_slot (name := Str.ofString "__next__") ty F.slot_enumerate_next (wpAny_call_entry F.slot_enumerate_next ty F.entry_enumerate_next
    (Ad5 he hj hu hy ne fun g a b c d f => wpAny_pure (k g a b c d f)) (F.args_enumerate_next_1 _))))
theorem Aeh {e : Addr} {old : Value} {Q : Option Value -> Shared -> Prop} (hh : A.handled = none) (he : IsEnum s.heap e j i old) (hj : s.heap.IsTupleIter j u i) (hu : s.heap.IsTuple u xs) (hy : xs[i]? = none)
    (k : ∀ g, Heap.ExtBut j s.heap g -> Q none { s with heap := g }) : wpAny (model prog w) A (pyNext (.ref e)) Q E s := by
  have ty : s.TypeIs (.ref e) "enumerate" := ⟨_, he, rfl⟩
  unfold pyNext
  refine wpAny_bind (wpAny_attempt (wpAny_callSpecial?_slot (name := Str.ofString "__next__") ty F.slot_enumerate_next (wpAny_call_entry F.slot_enumerate_next ty F.entry_enumerate_next ?_ (F.args_enumerate_next_1 _))))
  show wpAny _ _ (field (.ref e) 2 >>= _) _ _ _
  refine wpAny_bind (wpAny_field he rfl (x := .ref j) rfl ?_)
  refine wpAny_bind (Wb hh hj hu hy fun g x hg ⟨o, ho, hc⟩ => ?_)
  refine wpAny_bind (wpAny_isInstance (T := "StopIteration") (b := true) ⟨o, ho, hc⟩ isSubtype_stop ?_)
  exact wpAny_pure (k _ hg)
end
open AutoSeq1 (wpAny_loadPart') in
theorem Ab7 (u : Addr) (xs : Array Value) (o : Obj) (n : Nat) (hc : o.cls = .type "tuple") (hd : o.data = .seq xs n) :
    Meets (Builtin.«enumerate.__new__» ⟨[.type "enumerate", .ref u], []⟩) (fun _ R s => s.heap.get? u = some o /\ R (.ok (.ret (.ref (s.heap.push { cls := .type "tuple_iterator", data := .fields #[.ref u, .int 0 0] }).objs.size)))
        { s with heap := (s.heap.push { cls := .type "tuple_iterator", data := .fields #[.ref u, .int 0 0] }).push { cls := .type "enumerate", data := .fields #[.none, .bool false, .ref s.heap.objs.size, rawInt 0, .none, .none] } }) :=
  .of_wp fun prog w A R s h => by
    obtain ⟨hp, g, d, tk, os⟩ := s; obtain ⟨hu, h⟩ := h
    obtain ⟨oc, od, odat, osl⟩ := o
    obtain rfl : oc = .type "tuple" := hc
    obtain rfl : odat = .seq xs n := hd
    have su := sub_enumerate
    have hT : Heap.IsTuple (Shared.heap ⟨hp, g, d, tk, os⟩) u xs := ⟨_, hu, rfl, n, rfl⟩
    wp_walk using wpAny_loadPart' hu
    refine wpAny_stack_any fun st => wpAny_pure ?_
    split
    . rename_i c _ _ _ _ _
      cases (c == Value.type "enumerate")
      . wp_walk using wpAny_loadPart' hu, wpAny_pyIter_tuple hT
        exact ⟨_, rfl, h⟩
      . wp_walk using wpAny_loadPart' hu, wpAny_pyIter_tuple hT
        exact ⟨_, rfl, h⟩
    . wp_walk using wpAny_loadPart' hu, wpAny_pyIter_tuple hT
      exact ⟨_, rfl, h⟩
section
variable {X : Cx} {pins : List (Addr × Obj)} {σ : St} {H : Hp} {s : Shared} {h' : Heap}
theorem Inv.turnL {t' : Nat} {fp : List Addr} (I : Inv X pins σ H s) (k : ∀ b o, b ∉ fp -> s.heap.get? b = some o -> h'.get? b = some o) (hf : ∀ b ∈ fp, Vm X pins H b) : Inv X pins σ H { s with heap := h', toks := t' } := by
  have nf : ∀ b u, H b = some u -> b ∉ fp := fun b u e z => by
    have := (hf b z).1
    rw [this] at e
    cases e
  refine I.step (g' := s.gens) (d' := s.drawn) (ch := fp) (fun b hb => ⟨(hf b hb).2.2.2.1, (hf b hb).2.1, (hf b hb).2.2.2.2.1, (hf b hb).2.2.2.2.2⟩) (fun b o _ _ hc e _ => k b o hc e) (fun b o _ _ hc e _ => ⟨o.slots, k b o hc e⟩) (fun _ _ _ _ n => n)
    (fun b o hc e => ⟨o, k b o hc e⟩) (fun _ _ e => e) (fun _ _ _ e => e) (fun b ps e => ⟨#[], by rw [e]; simp⟩) (fun m hm => ?_) (fun b u e => ?_) I.bare
  . obtain ⟨o, es, ep, ho, r⟩ := hm
    exact ⟨o, es, ep, k _ o (fun z => (hf _ z).2.1 rfl) ho, r⟩
  . refine (I.hok b u e).stay (fun c v hc q => k c v ?_ q) (fun _ q => q) fun _ _ q => q
    rcases hc with z | z
    . rw [z]
      exact nf b u e
    . exact nf c _ z
end
def Ite (K : PySem.W.Frag) (a : Addr) : It :=
  ⟨fun i H => ∃ xs x, SqT K H a xs /\ xs[i]? = some x, fun i H x H' => ∃ p v, (∀ xs, SqT K H a xs -> xs[i]? = some v) /\ H p = none /\ x = .ref p /\ H' = upd H p (.tup [.int (i : Nat), v]), fun i H => ∃ xs, SqT K H a xs /\ xs.length <= i⟩
theorem Ah2 {P : Program} {w : World} {K : PySem.W.Frag} {el : List Expr} {x1} {tp : Pos} (a e j : Addr) (ne : e ≠ j) : Turn P w K (.Tuple el x1 tp) (Ite K a) [e, j] e (fun i h => (∃ old, IsEnum h e j i old) /\ h.IsTupleIter j a i) where
  mem := by simp
  obj := fun i h st b hb => by
    obtain ⟨⟨old, he⟩, oj, ej, cj, dj⟩ := st
    rcases List.mem_cons.mp hb with rfl | hb
    . exact ⟨_, he, fun v z => by cases (show Data.fields _ = Data.cell v from z)⟩
    . have z : b = j := by simpa using hb
      subst z
      exact ⟨oj, ej, fun v z => by rw [dj] at z; cases z⟩
  keep := fun i h h' st k => by
    obtain ⟨⟨old, he⟩, oj, ej, r⟩ := st
    exact ⟨⟨old, k e (by simp) _ he⟩, oj, k j (by simp) _ ej, r⟩
  item := by
    intro X hP hw hK hc i pins s σ H E I hf st hg
    subst hP hw hK
    obtain ⟨xs, x, hq, hx⟩ := hg
    obtain ⟨its, rv, p, hz⟩ := I.tuple hq
    obtain ⟨u, hu, ru⟩ := rv.get hx
    obtain ⟨⟨old, he⟩, hj⟩ := st
    refine Aeb he hj (show s.heap.IsTuple a its.toArray from p) (y := u) (by simpa using hu) ne fun g hout hj' hT hsz kk => ⟨_, rfl, ?_⟩
    refine wpAny_letOwnedTupleGo_enum hout fun g2 he2 sb2 => ?_
    replace sb2 : Heap.SameBut e g g2 := sb2
    have lte : e < s.heap.objs.size := Heap.lt_size he
    have ltj : j < s.heap.objs.size := by
      obtain ⟨_, ej, _⟩ := hj
      exact Heap.lt_size ej
    have hn : H s.heap.objs.size = none := I.fresh
    have I1 : Inv X pins σ (upd H s.heap.objs.size (.tup [.int (i : Nat), x])) { s with heap := s.heap.push { cls := .type "tuple", data := .seq #[.int i s.toks, u] }, toks := s.toks + 1 } :=
      I.laid (fun b o q => Heap.get?_push_of_some _ q) (Nat.le_refl _) ⟨by show 2 <= sizeLine; decide, [.int i s.toks, u], .cons ⟨_, rfl⟩ (.cons ru .nil), ⟨_, Heap.get?_push_size _ rfl, rfl, _, rfl⟩⟩
    have fp' : ∀ b ∈ [e, j], Vm X pins (upd H s.heap.objs.size (.tup [.int (i : Nat), x])) b := fun b hb => by
      have nb : b ≠ s.heap.objs.size := by
        rcases List.mem_cons.mp hb with rfl | hb'
        . exact Nat.ne_of_lt lte
        . have z : b = j := by simpa using hb'
          subst z
          exact Nat.ne_of_lt ltj
      exact ⟨by rw [Cu nb]; exact (hf b hb).1, (hf b hb).2⟩
    have I2 := I1.turnL (h' := g2) (t' := s.toks + 1) (fp := [e, j]) (fun b o hb q => by
      have n1 : b ≠ e := fun z => hb (by simp [z])
      have n2 : b ≠ j := fun z => hb (by simp [z])
      refine (sb2.2 b n1).trans ?_
      rcases Heap.get?_push_cases q with ⟨rfl, rfl⟩ | q0
      . exact hT
      . exact kk b o n1 n2 q0) fp'
    refine ⟨.ref s.heap.objs.size, _, I2, rfl, ⟨_, x, fun ys hy => by rw [I.tuple_inj hy hq]; exact hx, hn, rfl, rfl⟩, ⟨⟨_, by simpa using he2⟩, ?_⟩, fun b hb => (fp' b hb).1⟩
    exact hj'.extBut sb2.extBut (Ne.symm ne)
  done := by
    intro X hP hw hK hc i pins s σ H E I hf st hg
    subst hP hw hK
    obtain ⟨xs, hq, hx⟩ := hg
    obtain ⟨its, rv, p, hz⟩ := I.tuple hq
    obtain ⟨⟨old, he⟩, hj⟩ := st
    have hl := rv.length
    exact Aeh (I.ok.hd hc) he hj (show s.heap.IsTuple a its.toArray from p) (by simp; omega) fun g eb => ⟨rfl, I.turnL (t' := s.toks) (fp := [e, j]) (fun b o hb q => eb b o (fun z => hb (by simp [z])) q) hf⟩
  self := fun _ _ _ _ _ st h => by
    obtain ⟨⟨old, he⟩, _⟩ := st
    exact wpAny_pyIter_enum he h
section
variable {X : Cx} {a : Expr} {ta : TA} {el : List Expr} {x1} {tp p pos : Pos}
def iEn (K : PySem.W.Frag) (ta : TA) : TI := fun σ H R => ta σ H fun vs H1 => ∃ a, vs = [.ref a] /\ (∃ xs, SqT K H1 a xs) /\ R (Ite K a) H1
theorem T5 (hg : Gl X "enumerate") (hm : X.mg "enumerate" = none) (ha : PA X [a] ta) (hs : starEach [a] X.env = [(false, eval a X.env)] := by rfl) : PI X (.Tuple el x1 tp) (.Call (.Name "enumerate" p) [a] [] pos) (iEn X.K ta) := by
  intro pins s σ H R I h
  refine Call_ (Mh I hg hm boot_enumerate (PyProof.Rows.callWith_type1 (thn (ha pos pins s σ H _ I h) fun us s1 ⟨vs, H1, I1, r1, q1⟩ => ?_) hs rfl))
  obtain ⟨b, rfl, ⟨xs, hq⟩, q⟩ := q1
  obtain ⟨v, rfl, rv⟩ := vals1 r1
  cases rv
  obtain ⟨its, rr, pl, hz⟩ := I1.tuple hq
  obtain ⟨o, ho, hc, n, hd⟩ := (show s1.heap.IsTuple b its.toArray from pl)
  refine callType_new F.called_enumerate (by decide) (F.typeCall_enumerate_1 _) (F.newCall_enumerate_1 _) (fun obj => F.args_object_init_2 obj _) F.entry_enumerate_new (Ab7 b its.toArray o n hc hd) ⟨ho, ?_⟩
  have z1 : (s1.heap.push { cls := .type "tuple_iterator", data := .fields #[.ref b, .int 0 0] }).objs.size = s1.heap.objs.size + 1 := Heap.size_push ..
  show _ /\ _
  rw [z1]
  have he : IsEnum ((s1.heap.push { cls := .type "tuple_iterator", data := .fields #[.ref b, .int 0 0] }).push { cls := .type "enumerate", data := .fields #[.none, .bool false, .ref s1.heap.objs.size, rawInt 0, .none, .none] }) (s1.heap.objs.size + 1) s1.heap.objs.size ((0 : Nat) : Int) .none := by
    have z2 := Heap.get?_push_size (s1.heap.push { cls := .type "tuple_iterator", data := .fields #[.ref b, .int 0 0] }) (o := { cls := .type "enumerate", data := .fields #[.none, .bool false, .ref s1.heap.objs.size, rawInt 0, .none, .none] }) rfl
    rw [z1] at z2
    exact z2
  have hj : Heap.IsTupleIter ((s1.heap.push { cls := .type "tuple_iterator", data := .fields #[.ref b, .int 0 0] }).push { cls := .type "enumerate", data := .fields #[.none, .bool false, .ref s1.heap.objs.size, rawInt 0, .none, .none] }) s1.heap.objs.size b 0 :=
    ⟨_, Heap.get?_push_of_some _ (Heap.get?_push_size _ rfl), rfl, rfl⟩
  have I2 : Inv X pins σ H1 { s1 with heap := (s1.heap.push { cls := .type "tuple_iterator", data := .fields #[.ref b, .int 0 0] }).push { cls := .type "enumerate", data := .fields #[.none, .bool false, .ref s1.heap.objs.size, rawInt 0, .none, .none] } } :=
    I1.kept (t' := s1.toks) fun c o' e => Heap.get?_push_of_some _ (Heap.get?_push_of_some _ e)
  refine ⟨⟨_, he, rfl⟩, wpAny_pyIter_enum he ⟨s1.heap.objs.size + 1, [s1.heap.objs.size + 1, s1.heap.objs.size], _, _, H1, rfl, I2, Ah2 b _ _ (Nat.ne_of_gt (Nat.lt_succ_self _)), ⟨⟨_, he⟩, hj⟩, fun c hcm => ?_, q⟩⟩
  have hge : s1.heap.objs.size <= c := by
    rcases List.mem_cons.mp hcm with rfl | hcm
    . exact Nat.le_succ _
    . have z : c = s1.heap.objs.size := by simpa using hcm
      exact Nat.le_of_eq z.symm
  exact I1.fpOk hge (I1.hok.fresh hge)
end
theorem Ii {K : PySem.W.Frag} {σ : St} {H : Hp} {ta : TA} {R : It -> Hp -> Prop} : iEn K ta σ H R = ta σ H (fun vs H1 => ∃ a, vs = [.ref a] /\ (∃ xs, SqT K H1 a xs) /\ R (Ite K a) H1) := rfl
theorem Abs {K : PySem.W.Frag} {σ : St} {H : Hp} {g : TG} {tb : TS} {D : Ends} {α : Type} {es : List α} {inj : α -> V} {a : Addr} (Pv : List α -> St -> Hp -> Prop) (h0 : Pv [] σ H) (hw : ∀ pre σ H, Pv pre σ H -> SqT K H a (es.map inj))
    (hs : ∀ pre e post σ H p, es = pre ++ e :: post -> Pv pre σ H -> H p = none -> g (.ref p) σ (upd H p (.tup [.int (pre.length : Nat), inj e])) fun σ2 H2 => tb { D with nx := Pv (pre ++ [e]), ct := Pv (pre ++ [e]), bk := D.nx } σ2 H2) (hd : ∀ σ H, Pv es σ H -> D.nx σ H) : FI (Ite K a) g tb D σ H := by
  refine ⟨fun i m σ H => m = es.length - i /\ i <= es.length /\ Pv (es.take i) σ H, ⟨es.length, by simp, Nat.zero_le _, h0⟩, ?_⟩
  rintro i m σ H ⟨rfl, hi, p⟩
  have w := hw _ _ _ p
  cases he : es[i]? with
  | none =>
    have e : i = es.length := Nat.le_antisymm hi (List.getElem?_eq_none_iff.mp he)
    subst e
    rw [List.take_length] at p
    exact .inl ⟨⟨_, w, by rw [List.length_map]; exact Nat.le_refl _⟩, hd _ _ p⟩
  | some e =>
    obtain ⟨hlt, ee⟩ := List.getElem?_eq_some_iff.mp he
    have tk : es.take (i + 1) = es.take i ++ [e] := by rw [List.take_succ, he]; rfl
    have sp : es = es.take i ++ e :: es.drop (i + 1) := by
      rw [<- ee, <- List.drop_eq_getElem_cons hlt, List.take_append_drop]
    refine .inr ⟨⟨_, inj e, w, by rw [List.getElem?_map, he]; rfl⟩, Pv (es.take i ++ [e]), fun σ' H' q => ⟨es.length - (i + 1), by omega, rfl, hlt, by rw [tk]; exact q⟩, fun x H' y => ?_⟩
    obtain ⟨b, v, y1, y2, rfl, rfl⟩ := y
    have y3 := y1 _ w
    rw [List.getElem?_map, he] at y3
    obtain rfl : inj e = v := Option.some.inj y3
    have hl : (es.take i).length = i := by rw [List.length_take]; omega
    have z := hs _ e _ σ H b sp p y2
    rw [hl] at z
    exact z
end L2
namespace L2
open PySem PySem.Spec PyProof.Rows
section
variable {X : Cx}
def Akk (K : PySem.W.Frag) : R2 := fun x y H Q => ∃ a b xs ys, x = .ref a /\ y = .ref b /\ SqT K H a xs /\ SqT K H b ys /\ xs.length + ys.length <= sizeLine /\ ∀ z H', Same H H' -> SqT K H' z (xs ++ ys) -> Q (.ref z) H'
theorem Aal : OpR X (binaryOp .Add) (Akk X.K) := by
  intro pins s σ H x y v u Q I rx ry h
  obtain ⟨a, b, xs, ys, rfl, rfl, ha, hb, hz, q⟩ := h
  by_cases hx : xs = []
  . subst hx
    cases rx
    cases ry
    obtain ⟨its, r1, p1, _⟩ := I.tuple ha
    obtain ⟨its2, r2, p2, _⟩ := I.tuple hb
    cases r1
    obtain ⟨⟨c1, d1, t1, l1⟩, ho, hc, n, hd⟩ := (show s.heap.IsTuple a ([] : List Value).toArray from p1)
    obtain ⟨⟨c2, d2, t2, l2⟩, ho2, hc2, n2, hd2⟩ := (show s.heap.IsTuple b its2.toArray from p2)
    simp only at hc hd hc2 hd2
    subst hc hd hc2 hd2
    exact concat_meets ⟨_, ho, rfl⟩ ⟨_, ho2, rfl⟩ noFill_tuple_add seq_tuple_add PySem.F.slot_tuple_add PySem.F.entry_tuple_add (PySem.F.args_tuple_add_2 _ _)
      (tuple_addW0 a b #[] its2.toArray n n2 d1 d2 l1 l2 rfl) ⟨ho, ho2, ⟨.ref b, H, I, rfl, q b H (Same.refl _) hb⟩⟩
  . exact Agq pins s σ H _ _ v u Q I rx ry ⟨a, b, xs, ys, rfl, rfl, ha, hb, hx, hz, fun e => q a H (Same.refl _) (by rw [e, List.append_nil]; exact ha), fun _ p hp => q p _ (Same.upd hp _) (.of Af)⟩
theorem Aet (hc : X.calm = true) : Ji X (.builtin "all") (fun xs H Q => ∃ (a : Addr) (bs : List Bool), xs = [.ref a] /\ SqL X.K H a (bs.map V.bl) /\ Q (.bl (bs.all id)) H) := by
  intro pins s σ H xs us Q I r h
  obtain ⟨a, bs, rfl, ha, q⟩ := h
  obtain ⟨u, rfl, ru⟩ := vals1 r
  cases ru
  obtain ⟨its, rv, p, hz⟩ := I.list ha
  have hl : s.heap.IsList a its.toArray := p.isList
  have lt : a < s.heap.objs.size := by
    obtain ⟨_, e, _⟩ := hl
    exact Heap.lt_size e
  have ln : its.length = bs.length := by
    have := rv.length
    rw [List.length_map] at this
    exact this.symm
  refine call_all_walk (wpAny_pyIter_list hl ?_)
  refine ⟨s.heap.objs.size, [s.heap.objs.size, a], [s.heap.objs.size], its.toArray.size, _, _, fun i => (bs[i]?).getD true, rfl, Walks.list (A := X.A.in1) (I.ok.hd hc) _ a (Nat.ne_of_lt lt) its.toArray,
    ⟨⟨_, Heap.get?_push_size _ rfl, rfl, rfl⟩, hl.push _⟩, fun i v s' Q' E' hP hQ => ?_, fun g tk hk => ?_⟩
  . have hv : its[i]? = some v := by simpa using hP
    have hi : i < its.length := (List.getElem?_eq_some_iff.mp hv).1
    have hb : bs[i]? = some bs[i] := List.getElem?_eq_getElem (by omega)
    obtain ⟨w', hw, rw'⟩ := rv.get (show (bs.map V.bl)[i]? = some (V.bl bs[i]) by rw [List.getElem?_map, hb]; rfl)
    rw [hv] at hw
    cases hw
    cases rw'
    simp only [hb, Option.getD_some] at hQ
    exact wpAny_truthy_bool hQ
  . have e : ((List.range its.toArray.size).all fun i => (bs[i]?).getD true) = bs.all id := by
      rw [List.size_toArray, ln, Bool.eq_iff_iff, List.all_eq_true, List.all_eq_true]
      constructor
      . intro h x hx
        obtain ⟨i, hi, ei⟩ := List.getElem_of_mem hx
        have := h i (List.mem_range.mpr hi)
        rw [List.getElem?_eq_getElem hi, ei] at this
        exact this
      . intro h i hi
        have hi' := List.mem_range.mp hi
        rw [List.getElem?_eq_getElem hi']
        exact h _ (List.getElem_mem hi')
    rw [e]
    exact ⟨.bl _, H, I.kept (t' := tk) fun b o q' => hk b o (fun hm => by rw [List.mem_singleton.mp hm] at q'; exact Nat.lt_irrefl _ (Heap.lt_size q')) (Heap.get?_push_of_some _ q'), rfl, q⟩
end
theorem Adm : fillsNumberSlot (.type "tuple") "mul" = pure false :=
  PySem.fillsNumberSlot_seq (id := "tuple.__mul__") (r := some (.builtin "tuple.__rmul__")) PySem.F.slot_tuple_mul.lookup (by decide +kernel) PySem.F.slot_tuple_rmul.lookup (by decide +kernel)
theorem Aj9 : seqRepeat? (.type "tuple") = pure (some (.builtin "tuple.__mul__")) := by
  unfold seqRepeat?
  rw [PySem.seqSlot_of (T := "tuple") (name := "__mul__") (id := "tuple.__mul__") PySem.F.slot_tuple_mul.lookup (by decide +kernel), PySem.seqSlot_of (T := "tuple") (name := "__rmul__") (id := "tuple.__rmul__") PySem.F.slot_tuple_rmul.lookup (by decide +kernel)]
  rfl
theorem Ahy (k : Int) (t : Tok) (u : Addr) (o : Obj) (xs : Array Value) (n : Nat) (hc : o.cls = .type "tuple") (hd : o.data = .seq xs n) :
    Meets (Builtin.«int.__rmul__» ⟨[.int k t, .ref u], []⟩) (fun _ R s => s.heap.get? u = some o /\ R (.ok (.ret Value.notImplemented)) s) :=
  .of_wp fun prog w A R s h => by
    obtain ⟨hp, g, d, tk, os⟩ := s; obtain ⟨hl, h⟩ := h
    obtain ⟨oc, od, odat, osl⟩ := o
    obtain rfl : oc = .type "tuple" := hc
    obtain rfl : odat = .seq xs n := hd
    wp_walk
    exact ⟨_, rfl, h⟩
open AutoSeq1 (wpAny_loadPart') in
theorem Aja (k : Int) (t : Tok) (u : Addr) (xs : Array Value) (n : Nat) (dd : Option Addr) (sl : Array (Option Value)) (k0 : ¬ k <= 0) (k1 : ¬ k = 1) (k2 : k < 1000) (hx : ¬ xs.isEmpty = true) (hz : xs.size * k.toNat <= 100000) :
    Meets (Builtin.«tuple.__mul__» ⟨[.ref u, .int k t], []⟩) (fun _ R s => s.heap.get? u = some { cls := .type "tuple", dict := dd, data := .seq xs n, slots := sl } /\
      R (.ok (.ret (.ref s.heap.objs.size))) { s with heap := s.heap.push { cls := .type "tuple", data := .seq ((List.replicate k.toNat xs).foldl (· ++ ·) #[]) } }) :=
  .of_wp fun prog w A R s h => by
    obtain ⟨hp, g, d, tk, os⟩ := s; obtain ⟨hl, h⟩ := h
    have f1 := AutoSeq1.idx_int
    have f2 := AutoSeq1.sub_tuple_tuple
    have hx0 : 0 < xs.size := by
      cases xs with
      | mk l =>
        cases l with
        | nil => exact absurd rfl hx
        | cons a r => simp
    have kn : (k.toNat : Int) = k := Int.toNat_of_nonneg (by omega)
    have zz : (xs.size : Int) * k <= 100000 := by
      rw [<- kn, <- Int.natCast_mul]
      omega
    have g1 : ¬ (decide (k < -2 ^ 63) || decide (k >= 2 ^ 63)) = true := by simp; omega
    have g2 : ¬ (xs.isEmpty || k == 1) = true := by
      rw [Bool.or_eq_true]
      rintro (z | z)
      . exact hx z
      . exact k1 (by simpa using z)
    have g3 : ¬ (decide (k <= 0) || xs.isEmpty) = true := by
      rw [Bool.or_eq_true]
      rintro (z | z)
      . exact k0 (by simpa using z)
      . exact hx z
    have g4 : ¬ ((xs.size : Int) * k > (2 ^ 63 - 1) / 8) := by omega
    have g5 : ¬ Builtin.Tuple.tupleTooMany ((xs.size : Int) * k) = true := by
      unfold Builtin.Tuple.tupleTooMany
      have : (100000 : Nat) <= sizeLine := by decide
      simp only [decide_eq_true_eq]
      omega
    have sz : ((List.replicate k.toNat xs).foldl (· ++ ·) #[]).size <= sizeLine := by
      have e : ∀ (m : Nat) (acc : Array Value), ((List.replicate m xs).foldl (· ++ ·) acc).size = acc.size + m * xs.size := fun m => by
        induction m with
        | zero => intro acc; simp
        | succ m ih =>
          intro acc
          rw [List.replicate_succ, List.foldl_cons, ih, Array.size_append, Nat.succ_mul]
          omega
      rw [e]
      have : (100000 : Nat) <= sizeLine := by decide
      rw [Nat.mul_comm] at hz
      simp only [Array.size_empty]
      omega
    have hT : Heap.IsTuple hp u xs := ⟨_, hl, rfl, n, rfl⟩
    wp_walk using wpAny_loadPart' hl
    rw [if_neg g1]
    refine wpAny_bind (tupleItemsOf_ hT ?_)
    dsimp only
    rw [if_neg g2, if_neg g3, if_neg g4, if_neg g5]
    exact wpAny_bind (wpAny_newObj_type (wpAny_pure ⟨_, rfl, h⟩) sz)
open AutoSeq1 (wpAny_loadPart') in
theorem Aij (t : Tok) (u : Addr) (xs : Array Value) (n : Nat) (dd : Option Addr) (sl : Array (Option Value)) :
    Meets (Builtin.«tuple.__mul__» ⟨[.ref u, .int 1 t], []⟩) (fun _ R s => s.heap.get? u = some { cls := .type "tuple", dict := dd, data := .seq xs n, slots := sl } /\ R (.ok (.ret (.ref u))) s) :=
  .of_wp fun prog w A R s h => by
    obtain ⟨hp, g, d, tk, os⟩ := s; obtain ⟨hl, h⟩ := h
    have f1 := AutoSeq1.idx_int
    have f2 := AutoSeq1.sub_tuple_tuple
    have g1 : ¬ (decide ((1 : Int) < -2 ^ 63) || decide ((1 : Int) >= 2 ^ 63)) = true := by decide
    have g2 : (xs.isEmpty || (1 : Int) == 1) = true := by simp
    have hT : Heap.IsTuple hp u xs := ⟨_, hl, rfl, n, rfl⟩
    wp_walk using wpAny_loadPart' hl
    exact ⟨_, rfl, h⟩
open AutoSeq1 (wpAny_loadPart') in
theorem Aih (t : Tok) (u : Addr) (xs : Array Value) (n : Nat) (dd : Option Addr) (sl : Array (Option Value)) (hx : ¬ xs.isEmpty = true) :
    Meets (Builtin.«tuple.__mul__» ⟨[.ref u, .int 0 t], []⟩) (fun _ R s => s.heap.get? u = some { cls := .type "tuple", dict := dd, data := .seq xs n, slots := sl } /\
      R (.ok (.ret (.ref s.heap.objs.size))) { s with heap := s.heap.push { cls := .type "tuple", data := .seq #[] } }) :=
  .of_wp fun prog w A R s h => by
    obtain ⟨hp, g, d, tk, os⟩ := s; obtain ⟨hl, h⟩ := h
    have f1 := AutoSeq1.idx_int
    have f2 := AutoSeq1.sub_tuple_tuple
    have g1 : ¬ (decide ((0 : Int) < -2 ^ 63) || decide ((0 : Int) >= 2 ^ 63)) = true := by decide
    have g2 : ¬ (xs.isEmpty || (0 : Int) == 1) = true := by simpa using hx
    have g3 : (decide ((0 : Int) <= 0) || xs.isEmpty) = true := by simp
    have hT : Heap.IsTuple hp u xs := ⟨_, hl, rfl, n, rfl⟩
    wp_walk using wpAny_loadPart' hl
    exact ⟨_, rfl, h⟩
section
variable {X : Cx}
def Akm (K : PySem.W.Frag) : R2 := fun x y H Q => ∃ (a : Addr) (k : Nat) (xs : List V), x = .ref a /\ y = .int (k : Nat) /\ SqT K H a xs /\ xs ≠ [] /\ k < 1000 /\ xs.length * k <= 100000 /\ ∀ z H', Same H H' -> SqT K H' z (List.replicate k xs).flatten -> Q (.ref z) H'
theorem Agw : OpR X (binaryOp .Mult) (Akm X.K) := by
  intro pins s σ H x y v u Q I rx ry h
  obtain ⟨a, k, xs, rfl, rfl, ha, hx, hk, hz, q⟩ := h
  cases rx
  obtain ⟨t, rfl⟩ := ry
  obtain ⟨its, r1, p1, _⟩ := I.tuple ha
  obtain ⟨⟨c1, d1, t1, l1⟩, ho, hc, n, hd⟩ := (show s.heap.IsTuple a its.toArray from p1)
  simp only at hc hd
  subst hc hd
  have hne : ¬ its.toArray.isEmpty = true := by
    have := fun z => hx (r1.nil_iff.mp z)
    simpa using this
  refine wpAny_binaryOp_repeat_ref (T := "tuple") (U := "int") (by decide) ⟨_, ho, rfl⟩ (fun s' => typeIs_int s' k t) Adm F.fills_int_mul F.slot_int_rmul Aj9 F.slot_int_index.lookup
    (call_meets F.slot_int_rmul (typeIs_int s k t) F.entry_int_rmul (F.args_int_rmul_2 _ _) (Ahy k t a _ its.toArray n rfl rfl) ⟨ho, rfl, ⟨_, ho, rfl⟩, ?_⟩)
  by_cases k0 : k = 0
  . subst k0
    refine call_meets F.slot_tuple_mul ⟨_, ho, rfl⟩ F.entry_tuple_mul (F.args_tuple_mul_2 _ _) (Aih t a its.toArray n d1 l1 hne) ⟨ho, ?_⟩
    exact ⟨.ref s.heap.objs.size, _, I.laid (t' := s.toks) (o := .tup []) (fun b ob q' => Heap.get?_push_of_some _ q') (Nat.le_refl _) ⟨Nat.zero_le _, [], .nil, IsTup.new _ _⟩, rfl, q _ _ (Same.upd I.fresh _) (.of Af)⟩
  by_cases k1 : k = 1
  . subst k1
    refine call_meets F.slot_tuple_mul ⟨_, ho, rfl⟩ F.entry_tuple_mul (F.args_tuple_mul_2 _ _) (Aij t a its.toArray n d1 l1) ⟨ho, ?_⟩
    exact ⟨.ref a, H, I, rfl, q a H (Same.refl _) (by simpa using ha)⟩
  have kt : ((k : Nat) : Int).toNat = k := Int.toNat_natCast k
  refine call_meets F.slot_tuple_mul ⟨_, ho, rfl⟩ F.entry_tuple_mul (F.args_tuple_mul_2 _ _) (Aja k t a its.toArray n d1 l1 (by omega) (by omega) (by omega) hne (by rw [List.size_toArray, kt, <- r1.length]; exact hz)) ⟨ho, ?_⟩
  have e : (List.replicate ((k : Nat) : Int).toNat its.toArray).foldl (· ++ ·) #[] = (List.replicate k its).flatten.toArray := by
    rw [kt]
    have := foldl_rep its k []
    rw [List.nil_append] at this
    exact this
  rw [e]
  refine ⟨.ref s.heap.objs.size, _, I.laid (t' := s.toks) (o := .tup (List.replicate k xs).flatten) (fun b ob q' => Heap.get?_push_of_some _ q') (Nat.le_refl _) ⟨?_, _, r1.rep k, IsTup.new _ _⟩, rfl, q _ _ (Same.upd I.fresh _) (.of Af)⟩
  rw [len_rep, Nat.mul_comm]
  exact Nat.le_trans hz (by decide)
end
section
variable {X : Cx}
theorem Aeo (K : PySem.W.Frag) (h : X.K = K := by rfl) : IxR X (Ake K) := by subst h; exact Dj
theorem Ab2 (K : PySem.W.Frag) (h : X.K = K := by rfl) : IxR X (Aib K) := by subst h; exact Av
end
section
variable {X : Cx}
theorem Ad1 : Ji X (.builtin "isinstance") (fun xs H Q => ∃ (a : Addr) (ys : List V) (T : String) (b : Bool), xs = [.ref a, .ty T] /\ SqT X.K H a ys /\ PySem.W.kitOne X.K (.type "tuple") (.type T) = some b /\ Q (.bl b) H) := by
  intro pins s σ H xs us Q I r h
  obtain ⟨a, ys, T, b, rfl, ht, hk, q⟩ := h
  obtain ⟨u, c, rfl, ru, rc⟩ := vals2 r
  cases rc
  cases ru
  obtain ⟨its, rv, p, _⟩ := I.tuple ht
  obtain ⟨o, h1, h2, _⟩ := (show s.heap.IsTuple a its.toArray from p)
  exact PySem.W.kia_one PySem.W.kitx_tuple I.kIn ⟨o, h1, h2⟩ hk (fun z => nomatch z) fun tk => ⟨.bl b, H, I.tok tk, rfl, q⟩
end
section
variable {prog : Program} {w : World} {A : Around} {E : Value -> Shared -> Prop} {s : Shared}
theorem Abh {t sl : Addr} {ys : Array Value} {vl vu : Value} {lo hi : Option Int} {Q : Value -> Shared -> Prop} (ht : IsTup s.heap t ys) (hs : s.heap.IsSliceOf sl vl vu .none) (pl : IsPart vl lo) (pu : IsPart vu hi)
    (w1 : HT.sIx ys.size 0 lo = 0) (w2 : HT.sIx ys.size ys.size hi = ys.size) (h : Q (.ref t) s) : wpAny (model prog w) A (getItem (.ref t) (.ref sl)) Q E s := by
  obtain ⟨os, eos, cs, ds⟩ := id hs
  have ty : s.TypeIs (.ref sl) "slice" := ⟨os, eos, cs⟩
  unfold getItem
  try with_reducible refine (wpAny_holding ?_)
  first | refine (wpAny_bind (wpAny_pure ?_)) | skip
  refine wpAny_bind (wpAny_sequenceKey ht.typeIs (by decide) (?_))
  refine wpAny_bind (wpAny_callSpecial?_slot (name := Str.ofString "__getitem__") ht.typeIs PyProof.Rows.slot_tuple_getitem (wpAny_call_entry PyProof.Rows.slot_tuple_getitem ht.typeIs entry_tuple_getitem ?_ (args_tuple_getitem _ _)))
  show wpAny _ A.in1 (Builtin.Tuple.tupleItemsOf (.ref t) >>= _) _ _ s
  refine wpAny_bind (tupleItemsOf_ ht (?_))
  refine wpAny_bind (wpAny_typeOf ty ?_)
  rw [if_pos (by decide)]
  refine wpAny_bind (HT.J7 hs pl pu ?_)
  have yes : (((HT.sIx ys.size 0 lo : Nat) : Int) == 0 && (1 : Int) == 1 && (HT.sIx ys.size ys.size hi - HT.sIx ys.size 0 lo) == ys.size) = true := by
    rw [w1, w2]
    simp
  show wpAny _ A.in1 (if (((HT.sIx ys.size 0 lo : Nat) : Int) == 0 && (1 : Int) == 1 && (HT.sIx ys.size ys.size hi - HT.sIx ys.size 0 lo) == ys.size) = true then _ else _) _ _ s
  rw [if_pos yes]
  refine wpAny_bind ?_
  unfold Builtin.Tuple.tupleIsExact
  refine wpAny_bind (wpAny_typeOf ht.typeIs (wpAny_pure ?_))
  rw [if_pos (by decide)]
  exact wpAny_bind (wpAny_rule (wpAny_pure ⟨_, rfl, wpAny_pure h⟩))
end
section
variable {X : Cx}
def Amg (K : PySem.W.Frag) : V -> Option Int -> Option Int -> Hp -> VK -> Prop := fun x lo hi H Q => ∃ a xs, x = .ref a /\ SqT K H a xs /\ ∀ z H', Same H H' -> SqT K H' z (Tt xs lo hi) -> Q (.ref z) H'
theorem Ww : SlR X (Amg X.K) := by
  intro pins s σ H x v vl vu lo hi sl Q I rx hs pl pu h
  obtain ⟨a, xs, rfl, hx, q⟩ := h
  by_cases hw : HT.sIx xs.length 0 lo = 0 /\ HT.sIx xs.length xs.length hi = xs.length
  . cases rx
    obtain ⟨its, r, ht, hz⟩ := I.tuple hx
    have hlen : its.toArray.size = xs.length := by rw [List.size_toArray]; exact r.length.symm
    refine ⟨"tuple", _, PyProof.Rows.slot_tuple_getitem.lookup, ht.typeIs, Abh ht hs pl pu (by rw [hlen]; exact hw.1) (by rw [hlen]; exact hw.2) ⟨.ref a, H, I, rfl, q a H (Same.refl _) ?_⟩⟩
    have e : Tt xs lo hi = xs := by
      unfold Tt
      rw [hw.1, hw.2, List.drop_zero, Nat.sub_zero, List.take_length]
    rw [e]
    exact hx
  . exact Aj7 pins s σ H _ v vl vu lo hi sl Q I rx hs pl pu ⟨a, xs, rfl, hx, hw, fun p hp => q p _ (Same.upd hp _) (.of Af)⟩
def Al6 (K : PySem.W.Frag) : R2 := fun x y H Q => ∃ a xs i v, x = .ref a /\ y = .int i /\ (SqL K H a xs \/ SqT K H a xs) /\ atI xs i = some v /\ Q v H
theorem Ajm : IxR X (Al6 X.K) := by
  intro value slice pins s σ H x y v u Q I rx ry h hs
  obtain ⟨a, xs, i, w, rfl, rfl, hq, e, q⟩ := h
  rcases hq with hq | hq
  . exact Dj value slice pins s σ H _ _ v u Q I rx ry ⟨a, xs, i, w, rfl, rfl, hq, e, q⟩ hs
  . exact Av value slice pins s σ H _ _ v u Q I rx ry ⟨a, xs, i, w, rfl, rfl, hq, e, q⟩ hs
def Alu (K : PySem.W.Frag) : V -> Option Int -> Option Int -> Hp -> VK -> Prop := fun x lo hi H Q => ∃ a xs, x = .ref a /\ ((SqL K H a xs /\ ∀ z H', Same H H' -> SqL K H' z (Tt xs lo hi) -> Q (.ref z) H') \/ (SqT K H a xs /\ ∀ z H', Same H H' -> SqT K H' z (Tt xs lo hi) -> Q (.ref z) H'))
theorem Aj5 : SlR X (Alu X.K) := by
  intro pins s σ H x v vl vu lo hi sl Q I rx hs pl pu h
  obtain ⟨a, xs, rfl, h | h⟩ := h
  . exact Ac0 pins s σ H _ v vl vu lo hi sl Q I rx hs pl pu ⟨a, xs, rfl, h.1, fun p hp => h.2 p _ (Same.upd hp _) (.of Af)⟩
  . exact Ww pins s σ H _ v vl vu lo hi sl Q I rx hs pl pu ⟨a, xs, rfl, h.1, h.2⟩
end
end L2
namespace L2
open PySem PySem.Spec PyProof.Rows
theorem Aew (n : Nat) : Builtin.Slice.sliceAdjust none none (-1) (n : Int) = ((n : Int) - 1, -1) := by
  unfold Builtin.Slice.sliceAdjust
  rfl
theorem Ag0 (n : Nat) : Builtin.Slice.slicePlaces ((n : Int) - 1) (-1) (-1) = n := by
  unfold Builtin.Slice.slicePlaces
  have h1 : ¬ (-1 : Int) > 0 := by omega
  simp only [h1, if_false]
  split
  . first | omega | (simp; done) | (simp; omega)
  . omega
theorem Ac1 {α β : Type} {f : α -> Option β} {g : α -> β} : ∀ {l : List α}, (∀ k ∈ l, f k = some (g k)) -> l.filterMap f = l.map g
  | [], _ => rfl
  | a :: r, h => by rw [List.filterMap_cons, h a List.mem_cons_self, List.map_cons, Ac1 fun k hk => h k (List.mem_cons_of_mem _ hk)]
theorem Wf (xs : List Value) : ((List.range xs.length).filterMap fun (k : Nat) => xs.toArray[(((xs.length : Nat) : Int) - 1 + (k : Int) * (-1)).toNat]?) = xs.reverse := by
  have h : ∀ k ∈ List.range xs.length, xs.toArray[(((xs.length : Nat) : Int) - 1 + (k : Int) * (-1)).toNat]? = some (xs.reverse.getD k .none) := fun k hk => by
    have hk' := List.mem_range.mp hk
    have e : ((((xs.length : Nat) : Int) - 1 + (k : Int) * (-1)).toNat) = xs.length - 1 - k := by omega
    rw [e, List.getElem?_toArray, List.getD_eq_getElem?_getD, List.getElem?_reverse hk', List.getElem?_eq_getElem (by omega)]
    rfl
  rw [Ac1 h]
  refine List.ext_getElem (by simp) fun i h1 h2 => ?_
  have hi : i < xs.length := by simpa using h2
  simp [List.getD_eq_getElem?_getD, hi]
section
variable {prog : Program} {w : World} {A : Around} {E : Value -> Shared -> Prop} {s : Shared}
theorem Ahn {t sl : Addr} {ys : List Value} {tk : Tok} {Q : Value -> Shared -> Prop} (ht : IsTup s.heap t ys.toArray) (hs : s.heap.IsSliceOf sl .none .none (.int (-1) tk)) (hz : ys.length <= sizeLine)
    (h : Q (.ref s.heap.objs.size) { s with heap := s.heap.push { cls := .type "tuple", data := .seq ys.reverse.toArray } }) : wpAny (model prog w) A (getItem (.ref t) (.ref sl)) Q E s := by
  obtain ⟨os, eos, cs, ds⟩ := id hs
  have ty : s.TypeIs (.ref sl) "slice" := ⟨os, eos, cs⟩
  have fit : sizeOk (.seq ys.reverse.toArray) := by
    show ys.reverse.toArray.size <= sizeLine
    simpa using hz
  unfold getItem
  try with_reducible refine (wpAny_holding ?_)
  first | refine (wpAny_bind (wpAny_pure ?_)) | skip
  refine wpAny_bind (wpAny_sequenceKey ht.typeIs (by decide) (?_))
  refine wpAny_bind (wpAny_callSpecial?_slot (name := Str.ofString "__getitem__") ht.typeIs PyProof.Rows.slot_tuple_getitem (wpAny_call_entry PyProof.Rows.slot_tuple_getitem ht.typeIs entry_tuple_getitem ?_ (args_tuple_getitem _ _)))
  show wpAny _ A.in1 (Builtin.Tuple.tupleItemsOf (.ref t) >>= _) _ _ s
  refine wpAny_bind (tupleItemsOf_ ht (?_))
  refine wpAny_bind (wpAny_typeOf ty ?_)
  rw [if_pos (by decide)]
  refine wpAny_bind (m := Builtin.Slice.sliceApplied (.ref sl) (pure ((ys.toArray.size : Nat) : Int))) ?_
  unfold Builtin.Slice.sliceApplied Builtin.Slice.sliceFields
  refine wpAny_bind (wpAny_bind (wpAny_field eos ds (x := .none) rfl (wpAny_bind (wpAny_field eos ds (x := .none) rfl (wpAny_bind (wpAny_field eos ds (x := .int (-1) tk) rfl (wpAny_pure ?_)))))))
  refine wpAny_bind (slicePart_int ?_)
  show wpAny _ A.in1 (if ((-1 : Int) == 0) = true then _ else _) _ _ s
  rw [if_neg (by decide)]
  refine wpAny_bind (slicePart_none (wpAny_bind (slicePart_none (wpAny_bind (wpAny_pure ?_)))))
  show wpAny _ A.in1 (match Builtin.Slice.sliceAdjust none none (-1) ((ys.toArray.size : Nat) : Int) with | (lo, hi) => pure (lo, (-1 : Int), Builtin.Slice.slicePlaces lo hi (-1))) _ _ s
  rw [Aew]
  show wpAny _ A.in1 (pure (((ys.toArray.size : Nat) : Int) - 1, (-1 : Int), Builtin.Slice.slicePlaces (((ys.toArray.size : Nat) : Int) - 1) (-1) (-1))) _ _ s
  rw [Ag0]
  refine wpAny_pure ?_
  dsimp only
  rw [if_neg (by simp)]
  have e : (List.filterMap (fun (k : Nat) => ys.toArray[(((ys.toArray.size : Nat) : Int) - 1 + (k : Int) * (-1)).toNat]?) (List.range ys.toArray.size)) = ys.reverse := Wf ys
  rw [e]
  exact wpAny_bind (m := Builtin.Tuple.tupleExact _) (wpAny_newObj_type (wpAny_pure ⟨_, rfl, wpAny_pure h⟩) fit)
end
section
variable {X : Cx} {e st : Expr} {te tst : TE} {pos p2 : Pos}
def Ak5 (K : PySem.W.Frag) (te tst : TE) : TE := fun σ H Q => te σ H fun x H1 => tst σ H1 fun y H2 => ∃ a xs, x = .ref a /\ y = .int (-1) /\ SqT K H2 a xs /\ ∀ p, H2 p = none -> Q (.ref p) (upd H2 p (.tup xs.reverse))
theorem Vals.rev {xs : List V} {us : List Value} (h : Vals xs us) : Vals xs.reverse us.reverse := by
  induction h with
  | nil => exact .nil
  | cons r _ ih =>
    rw [List.reverse_cons, List.reverse_cons]
    exact ih.append (.cons r .nil)
theorem Ac8 (he : PE X e te) (hst : PE X st tst) : PE X (.Subscript e (.Slice none none (some st) p2) pos) (Ak5 X.K te tst) := by
  intro pins s σ H Q I h
  refine Subscript_ (thn (he pins s σ H _ I h) fun v s1 ⟨x, H1, I1, r1, q1⟩ => ?_)
  refine wpAny_Slice ?_
  rw [evalPart_none]
  refine wpAny_pure (wpAny_pure ?_)
  rw [evalPart_some]
  refine thn (hst pins s1 σ H1 _ I1 q1) fun u s3 ⟨y, H3, I3, r3, q3⟩ => ?_
  obtain ⟨a, xs, rfl, rfl, hq, q⟩ := q3
  obtain ⟨tk, rfl⟩ := r3
  cases r1
  have I4 : Inv X pins σ H3 { s3 with heap := s3.heap.push { cls := .type "slice", data := .fields #[.none, .none, .int (-1) tk] } } := I3.kept (t' := s3.toks) fun b ob q => Heap.get?_push_of_some _ q
  obtain ⟨its, r, ht, hz⟩ := I4.tuple hq
  show wpAny (model X.prog X.w) X.A (subscriptTail e (.Slice none none (some st) p2) (.ref a) (.ref s3.heap.objs.size)) (EP X pins σ Q) X.xe { s3 with heap := s3.heap.push { cls := .type "slice", data := .fields #[.none, .none, .int (-1) tk] } }
  refine tail_any (ops := [.ref a, .ref s3.heap.objs.size]) ht.typeIs PyProof.Rows.slot_tuple_getitem.lookup (Ahn (ys := its) ht ⟨_, Heap.get?_push_size _ rfl, rfl, rfl⟩ (by rw [<- r.length]; exact hz) ?_) (by with_unfolding_all rfl)
  exact ⟨.ref _, _, I4.laid (t' := s3.toks) (o := .tup xs.reverse) (fun b ob q => Heap.get?_push_of_some _ q) (Nat.le_refl _) ⟨by rw [List.length_reverse]; exact hz, _, r.rev, IsTup.new _ _⟩, rfl, q _ I4.fresh⟩
theorem Hj {K : PySem.W.Frag} {σ : St} {H : Hp} {Q : VK} : Ak5 K te tst σ H Q = te σ H (fun x H1 => tst σ H1 fun y H2 => ∃ a xs, x = .ref a /\ y = .int (-1) /\ SqT K H2 a xs /\ ∀ p, H2 p = none -> Q (.ref p) (upd H2 p (.tup xs.reverse))) := rfl
end
end L2
namespace L2
open PySem PySem.Spec PyProof.Rows
set_option maxRecDepth 100000
theorem Py : Slot "reversed" "__next__" "reversed.__next__" := .of (owner := "reversed") (n := "__next__") (by rw [typeLookup_type, builtinLookup_eq_fast] ; kernel_rfl) (by decide +kernel) (by decide +kernel) (by decide +kernel) (by first | exact .inl (by decide +kernel) | exact .inr (by decide +kernel)) (by rw [isSubtype_type] ; kernel_rfl)
theorem Aae : Slot "reversed" "__iter__" "reversed.__iter__" := .of (owner := "reversed") (n := "__iter__") (by rw [typeLookup_type, builtinLookup_eq_fast] ; kernel_rfl) (by decide +kernel) (by decide +kernel) (by decide +kernel) (by first | exact .inl (by decide +kernel) | exact .inr (by decide +kernel)) (by rw [isSubtype_type] ; kernel_rfl)
theorem Agh : Slot "reversed" "__init__" "object.__init__" := .of (owner := "object") (n := "__init__") (by rw [typeLookup_type, builtinLookup_eq_fast] ; kernel_rfl) (by decide +kernel) (by decide +kernel) (by decide +kernel) (by first | exact .inl (by decide +kernel) | exact .inr (by decide +kernel)) (by rw [isSubtype_type] ; kernel_rfl)
theorem S7 : entryFor table "reversed.__next__" = some Builtin.«reversed.__next__» := entryFor_of_tree (by kernel_rfl)
theorem Ab5 : entryFor table "reversed.__new__" = some Builtin.«reversed.__new__» := entryFor_of_tree (by kernel_rfl)
theorem Zb : entryFor table "reversed.__iter__" = some Builtin.«dict_keyiterator.__iter__» :=
  entryFor_alias (id' := "dict_keyiterator.__iter__") (by kernel_rfl) (by first | rfl | decide +kernel | (unfold String.splitOn ; simp +decide [String.splitOnAux])) (by decide +kernel) (by kernel_rfl)
theorem Agd : mroOf (.type "reversed") = pure [.type "reversed", .type "object"] := by rw [mroOf_type] ; kernel_rfl
theorem Akz : typeLookup (.type "reversed") "__new__" = pure (some (.builtin "reversed.__new__")) := by rw [typeLookup_type, builtinLookup_eq_fast] ; kernel_rfl
theorem Abv : TypeCalled "reversed" "reversed.__new__" "object.__init__" := ⟨by decide +kernel, by decide +kernel, ⟨_, _, Agd⟩, madeBy_type Agd Akz (by decide +kernel), by decide +kernel, by rw [isSubtype_type] ; kernel_rfl, Agh⟩
theorem Aky (a : Value) : checkTypeCall "reversed" ⟨[a], []⟩ = pure () := by kernel_rfl
theorem Aku (a : Value) : checkBuiltinCall "reversed.__new__" ⟨[.type "reversed", a], []⟩ = pure () := by kernel_rfl
theorem Yx : Manifest.owners.lookup (String.ofList ['d', 'e', 's', 'r', 'e', 'v', 'e', 'r'].reverse) = some Manifest.sig_reversed := by kernel_rfl
theorem Tq (a : Value) : argsOk "reversed.__next__" ⟨[a], []⟩ := by
  unfold argsOk ; rw [signature?_of (id := "reversed.__next__") (n := ['_', '_', 't', 'x', 'e', 'n', '_', '_']) (o := ['d', 'e', 's', 'r', 'e', 'v', 'e', 'r']) (by kernel_rfl) Yx] ; kernel_rfl
theorem Yz (a : Value) : argsOk "reversed.__iter__" ⟨[a], []⟩ := by
  unfold argsOk ; rw [signature?_of (id := "reversed.__iter__") (n := ['_', '_', 'r', 'e', 't', 'i', '_', '_']) (o := ['d', 'e', 's', 'r', 'e', 'v', 'e', 'r']) (by kernel_rfl) Yx] ; kernel_rfl
theorem Aiw : isSubtype (.type "reversed") (.type "reversed") = pure true := by rw [isSubtype_type] ; kernel_rfl
theorem Ab8 : isSubtype (.type "tuple") (.type "dict") = pure false := by rw [isSubtype_type] ; kernel_rfl
abbrev Aee (h : Heap) (r : Addr) (t : Value) (i : Int) : Prop := h.get? r = some { cls := .type "reversed", dict := none, data := .fields #[t, rawInt i], slots := #[] }
theorem Adv : typeLookup (.type "tuple") "__reversed__" = pure none := by rw [typeLookup_type, builtinLookup_eq_fast] ; kernel_rfl
section
variable {prog : Program} {w : World} {A : Around} {E : Value -> Shared -> Prop} {s : Shared} {r t : Addr} {ys : Array Value}
theorem Agv {i : Nat} {x : Value} {Q : Option Value -> Shared -> Prop} (hr : Aee s.heap r (.ref t) i) (ht : s.heap.IsTuple t ys) (hx : ys[i]? = some x) (hs : ys.size <= sizeLine)
    (k : ∀ g, Aee g r (.ref t) ((i : Int) - 1) -> Heap.SameBut r s.heap g -> Q (some x) { s with heap := g, toks := s.toks + 1 }) : wpAny (model prog w) A (pyNext (.ref r)) Q E s := by
  have ty : s.TypeIs (.ref r) "reversed" := ⟨_, hr, rfl⟩
  have hi : i < ys.size := (Array.getElem?_eq_some_iff.mp hx).1
  have hn := S5
  unfold pyNext
  refine wpAny_bind (wpAny_attempt (wpAny_callSpecial?_slot (name := Str.ofString "__next__") ty Py (wpAny_call_entry Py ty S7 ?_ (Tq _))))
  show wpAny _ _ (field (.ref r) 0 >>= _) _ _ _
  refine wpAny_bind (wpAny_field hr rfl (x := .ref t) rfl ?_)
  show wpAny _ _ (field (.ref r) 1 >>= _) _ _ _
  refine wpAny_bind (wpAny_field hr rfl (x := rawInt i) rfl ?_)
  show wpAny _ _ (if (i : Int) < 0 then _ else _) _ _ _
  rw [if_neg (by omega)]
  refine wpAny_bind (wpAny_specialOf ht.typeIs PyProof.Rows.slot_tuple_getitem.lookup ?_)
  rw [if_neg (by decide)]
  refine wpAny_bind (wpAny_mkInt ?_)
  have ht' : ({ s with toks := s.toks + 1 } : Shared).heap.IsTuple t ys := ht
  refine wpAny_bind (wpAny_attempt (getItem_tuple (j := i) ht' (by omega) (by omega) (by unfold seqIndex? ; simp ; omega) hx ?_))
  show wpAny _ _ (field (.ref r) 1 >>= _) _ _ _
  refine wpAny_bind (wpAny_field hr rfl (x := rawInt i) rfl ?_)
  show wpAny _ _ (setField (.ref r) 1 (rawInt ((i : Int) - 1)) >>= _) _ _ _
  refine wpAny_bind (wpAny_setField_rec hr (by simp) fun g hg sb => ?_)
  exact wpAny_pure ⟨_, rfl, wpAny_pure (k g hg sb)⟩
theorem Aik {Q : Option Value -> Shared -> Prop} {i : Int} (hi : i < 0) (hh : A.handled = none) (hr : Aee s.heap r (.ref t) i) (k : ∀ g, Heap.ExtBut r s.heap g -> Q none { s with heap := g }) : wpAny (model prog w) A (pyNext (.ref r)) Q E s := by
  have ty : s.TypeIs (.ref r) "reversed" := ⟨_, hr, rfl⟩
  unfold pyNext
  refine wpAny_bind (wpAny_attempt (wpAny_callSpecial?_slot (name := Str.ofString "__next__") ty Py (wpAny_call_entry Py ty S7 ?_ (Tq _))))
  show wpAny _ _ (field (.ref r) 0 >>= _) _ _ _
  refine wpAny_bind (wpAny_field hr rfl (x := .ref t) rfl ?_)
  show wpAny _ _ (field (.ref r) 1 >>= _) _ _ _
  refine wpAny_bind (wpAny_field hr rfl (x := rawInt i) rfl ?_)
  show wpAny _ _ (if i < 0 then _ else _) _ _ _
  rw [if_pos hi]
  refine wpAny_bind (wpAny_rule ?_)
  show wpAny _ _ ((setField (.ref r) 1 (rawInt (-1)) >>= fun _ => setField (.ref r) 0 .none) >>= _) _ _ _
  refine wpAny_bind (wpAny_bind (wpAny_setField_rec hr (by simp) fun g1 hg1 sb1 => ?_))
  replace sb1 : Heap.SameBut r s.heap g1 := sb1
  replace hg1 : Aee g1 r (.ref t) (-1) := hg1
  refine wpAny_setField_rec hg1 (by simp) fun g2 hg2 sb2 => ?_
  replace sb2 : Heap.SameBut r g1 g2 := sb2
  refine wpAny_bind ?_
  unfold Builtin.SmallTypes.stopIteration
  refine wpAny_bind ?_
  simp only [newTuple, newExc]
  refine wpAny_bind (wpAny_newObj_type ?_ (by size_fits))
  refine wpAny_bind (m := firstArgMember _ _) (wpAny_of_eq (a := Value.none) (by first | rfl | (simp only [firstArgMember] ; rfl)) ?_)
  refine (wpAny_newObj_type ?_ (by size_fits))
  simp only [raiseNew]
  refine wpAny_bind (wpAny_handled ?_)
  first | rw [show A.in1.handled = none from hh] | (rw [hh])
  refine wpAny_bind (wpAny_pure (wpAny_throw ?_))
  refine wpAny_bind (wpAny_isInstance (T := "StopIteration") (b := true) ⟨_, Heap.get?_push_size _ rfl, rfl⟩ isSubtype_stop ?_)
  refine wpAny_pure (k _ ?_)
  exact ((sb1.trans sb2).extBut.push _).push _
end
section
variable {prog : Program} {w : World} {A : Around} {E : Value -> Shared -> Prop} {s : Shared}
theorem Aia {id : String} {b : Builtin} {args : List Value} {R : Result -> Shared -> Prop} (hk : builtinKind id = none) (hp : plainId id = true) (hb : entryFor table id = some b) (ha : argsOk id ⟨args, []⟩)
    (hc : wpAny (model prog w) A.in1 (b ⟨args, []⟩) (fun fin s' => ∃ v, fin = .done (.ret v) /\ R (.ok (.ret v)) s') (fun e s' => R (.error e) s') s) : codeAny (model prog w) A (.call (.builtin id) ⟨args, []⟩) R s := by
  refine codeAny_call_builtin hp hb ?_
  have hfin := wpAny_mono hc (Q' := fun fin s' => match fin with | .done f => R (.ok f) s' | .again c' => c'.quiet = true /\ codeAny (model prog w) A c' R s')
    (fun fin s' h' => by obtain ⟨v, rfl, hv⟩ := h'; exact hv) fun _ _ h' => h'
  simp only [checkBuiltinCall, hk]
  cases hsig : Manifest.signature? id with
  | none => exact wpAny_pure hfin
  | some sig =>
    simp only [argsOk, hsig] at ha
    exact wpAny_of_eq ha hfin
theorem Ad7 {t : Addr} {items : Array Value} {R : Result -> Shared -> Prop} (ht : IsTup s.heap t items) (hfit : (items.size : Int) < 2 ^ 63)
    (h : R (.ok (.ret (.int items.size (s.toks + 1)))) { s with toks := s.toks + 1 + 1 }) : codeAny (model prog w) A (.call (.builtin "len") ⟨[.ref t], []⟩) R s := by
  refine Aia kind_len plain_len entry_len (args_len1 _) ?_
  unfold Builtin.«len»
  refine wpAny_bind (m := oneArg "len" _) (wpAny_pure ?_)
  refine wpAny_bind (m := callSpecial? (.ref t) (Str.ofString "__len__")) (wpAny_callSpecial?_slot (name := Str.ofString "__len__") ht.typeIs slot_tuple_len
    (wpAny_call_entry slot_tuple_len ht.typeIs entry_tuple_len ?_ (args_tuple_len _)))
  show wpAny _ _ (do retInt (<- Builtin.Tuple.tupleItemsOf (.ref t)).size) _ _ s
  refine wpAny_bind (tupleItemsOf_ ht ?_)
  refine wpAny_bind (wpAny_mkInt (wpAny_pure ⟨_, rfl, ?_⟩))
  refine wpAny_bind (wpAny_holding (wpAny_pure ?_))
  refine wpAny_bind (wpAny_letGo ?_)
  show wpAny _ _ (if ((items.size : Nat) : Int) < 0 then _ else _) _ _ _
  rw [if_neg (by omega)]
  show wpAny _ _ (if ((items.size : Nat) : Int) >= 2 ^ 63 then _ else _) _ _ _
  rw [if_neg (by omega)]
  exact wpAny_bind (wpAny_mkInt (wpAny_pure ⟨_, rfl, h⟩))
theorem Ke {e : Addr} {t : Value} {i : Int} {Q : Value -> Shared -> Prop} (he : Aee s.heap e t i) (h : Q (.ref e) s) : wpAny (model prog w) A (pyIter (.ref e)) Q E s := by
  have hT : s.TypeIs (.ref e) "reversed" := ⟨_, he, rfl⟩
  refine wpAny_pyIter_slot hT Aae (wpAny_call_entry Aae hT Zb ?_ (Yz _))
  show wpAny _ _ (ret (.ref e)) _ _ s
  exact wpAny_pure ⟨_, rfl, "reversed", _, hT, Py.lookup, h⟩
end
open AutoSeq1 (wpAny_loadPart') in
theorem Adz (u : Addr) (xs : Array Value) (o : Obj) (n : Nat) (hc : o.cls = .type "tuple") (hd : o.data = .seq xs n) (hz : xs.size <= sizeLine) :
    Meets (Builtin.«reversed.__new__» ⟨[.type "reversed", .ref u], []⟩) (fun _ R s => s.heap.get? u = some o /\ R (.ok (.ret (.ref s.heap.objs.size)))
        { s with heap := s.heap.push { cls := .type "reversed", data := .fields #[.ref u, rawInt ((xs.size : Int) - 1)] }, toks := s.toks + 1 + 1 }) :=
  .of_wp fun prog w A R s h => by
    obtain ⟨hp, g, d, tk, os⟩ := s; obtain ⟨hu, h⟩ := h
    obtain ⟨oc, od, odat, osl⟩ := o
    obtain rfl : oc = .type "tuple" := hc
    obtain rfl : odat = .seq xs n := hd
    have f1 := Adv
    have f2 := PyProof.Rows.slot_tuple_getitem.lookup
    have f3 := Aiw
    have f4 := Ab8
    have hn := S5
    have hT : Heap.IsTuple hp u xs := ⟨_, hu, rfl, n, rfl⟩
    have hfit : (xs.size : Int) < 2 ^ 63 := by omega
    wp_walk using wpAny_loadPart' hu
    refine Ad7 hT hfit ?_
    show wpAny _ _ _ _ _ _
    refine wpAny_bind (wpAny_of_eq (a := some (xs.size : Int)) rfl ?_)
    show wpAny _ _ (Builtin.SmallTypes.newRecord (Value.type "reversed") [Value.ref u, rawInt (xs.size - 1)] >>= _) _ _ _
    unfold Builtin.SmallTypes.newRecord
    refine wpAny_bind (wpAny_newObj_type (wpAny_pure ⟨_, rfl, h⟩) (by size_fits))
def Itv (K : PySem.W.Frag) (a : Addr) (n : Nat) : It :=
  ⟨fun i H => ∃ xs x, SqT K H a xs /\ xs.length = n /\ xs.reverse[i]? = some x, fun i H x H' => H' = H /\ ∀ xs, SqT K H a xs -> xs.reverse[i]? = some x, fun i _ => n <= i⟩
theorem Ahs {P : Program} {w : World} {K : PySem.W.Frag} {tg : Expr} (a it : Addr) (n : Nat) : Turn P w K tg (Itv K a n) [it] it (fun i h => Aee h it (.ref a) ((n : Int) - 1 - i)) where
  mem := by simp
  obj := fun i h st b hb => by
    have e : b = it := by simpa using hb
    subst e
    exact ⟨_, st, fun v z => by cases (show Data.fields _ = Data.cell v from z)⟩
  keep := fun i h h' st k => k it (by simp) _ st
  item := by
    intro X hP hw hK hc i pins s σ H E I hf st hg
    subst hP hw hK
    obtain ⟨xs, x, hq, hl, hx⟩ := hg
    obtain ⟨its, rv, p, hz⟩ := I.tuple hq
    have hin : i < n := by
      have := (List.getElem?_eq_some_iff.mp hx).1
      simpa [hl] using this
    have hx' : xs[n - 1 - i]? = some x := by
      rw [List.getElem?_reverse (by omega)] at hx
      rw [<- hl]; exact hx
    obtain ⟨u, hu, ru⟩ := rv.get hx'
    obtain ⟨f0, f1, f2, f3, f4, f5⟩ := hf it (by simp)
    have st0 : Aee s.heap it (.ref a) ((n - 1 - i : Nat) : Int) := by
      have z : ((n - 1 - i : Nat) : Int) = (n : Int) - 1 - i := by omega
      rw [z]; exact st
    have hl2 := rv.length
    refine Agv st0 (show s.heap.IsTuple a its.toArray from p) (x := u) (by simpa using hu) (by simp; omega) fun h' st' sb => ?_
    have I1 : Inv X pins σ H { s with heap := h', toks := s.toks + 1 } := I.turned (t' := s.toks + 1) (fun b o hb e => (sb.2 b hb).trans e) f0 f1 f3 f4 f5
    have st2 : Aee h' it (.ref a) ((n : Int) - 1 - ((i + 1 : Nat) : Int)) := by
      have z : ((n - 1 - i : Nat) : Int) - 1 = (n : Int) - 1 - ((i + 1 : Nat) : Int) := by omega
      rw [<- z]; exact st'
    exact ⟨u, rfl, Acp (s := { s with heap := h', toks := s.toks + 1 }) st2 rfl rfl (by decide) ⟨x, H, I1, ru, ⟨rfl, fun ys hy => by rw [I.tuple_inj hy hq]; exact hx⟩, st2, fun b hb => (hf b hb).1⟩⟩
  done := by
    intro X hP hw hK hc i pins s σ H E I hf st hg
    subst hP hw hK
    have hg : n <= i := hg
    obtain ⟨f0, f1, f2, f3, f4, f5⟩ := hf it (by simp)
    exact Aik (i := (n : Int) - 1 - i) (by omega) (I.ok.hd hc) st fun h' eb => ⟨rfl, I.turned (t' := s.toks) (fun b o hb e => eb b o hb e) f0 f1 f3 f4 f5⟩
  self := fun _ _ _ _ _ st h => Ke st h
section
variable {X : Cx} {a : Expr} {ta : TA} {tg : Expr} {p pos : Pos}
def iRv (K : PySem.W.Frag) (ta : TA) : TI := fun σ H R => ta σ H fun vs H1 => ∃ a, vs = [.ref a] /\ ∃ xs, SqT K H1 a xs /\ R (Itv K a xs.length) H1
theorem Aaj (hg : Gl X "reversed") (hm : X.mg "reversed" = none) (ha : PA X [a] ta) (hs : starEach [a] X.env = [(false, eval a X.env)] := by rfl) : PI X tg (.Call (.Name "reversed" p) [a] [] pos) (iRv X.K ta) := by
  intro pins s σ H R I h
  refine Call_ (Mh I hg hm boot_reversed (PyProof.Rows.callWith_type1 (thn (ha pos pins s σ H _ I h) fun us s1 ⟨vs, H1, I1, r1, q1⟩ => ?_) hs rfl))
  obtain ⟨b, rfl, xs, hq, q⟩ := q1
  obtain ⟨v, rfl, rv⟩ := vals1 r1
  cases rv
  obtain ⟨its, rr, pl, hz⟩ := I1.tuple hq
  obtain ⟨o, ho, hc, n, hd⟩ := (show s1.heap.IsTuple b its.toArray from pl)
  have hl := rr.length
  refine callType_new Abv (by decide) (Aky _) (Aku _) (fun obj => F.args_object_init_2 obj _) Ab5 (Adz b its.toArray o n hc hd (by simp; omega)) ⟨ho, ?_⟩
  show _ /\ _
  have he : Aee (s1.heap.push { cls := .type "reversed", data := .fields #[.ref b, rawInt ((its.toArray.size : Int) - 1)] }) s1.heap.objs.size (.ref b) ((xs.length : Int) - 1 - ((0 : Nat) : Int)) := by
    have z2 := Heap.get?_push_size s1.heap (o := { cls := .type "reversed", data := .fields #[.ref b, rawInt ((its.toArray.size : Int) - 1)] }) rfl
    have z : (xs.length : Int) - 1 - ((0 : Nat) : Int) = (its.toArray.size : Int) - 1 := by simp; omega
    rw [z]; exact z2
  have I2 : Inv X pins σ H1 { s1 with heap := s1.heap.push { cls := .type "reversed", data := .fields #[.ref b, rawInt ((its.toArray.size : Int) - 1)] }, toks := s1.toks + 1 + 1 } :=
    I1.kept (t' := s1.toks + 1 + 1) fun c o' e => Heap.get?_push_of_some _ e
  refine ⟨⟨_, he, rfl⟩, Ke he ⟨s1.heap.objs.size, [s1.heap.objs.size], _, _, H1, rfl, I2, Ahs b _ _, he, fun c hcm => ?_, q⟩⟩
  have hge : s1.heap.objs.size <= c := by
    have z : c = s1.heap.objs.size := by simpa using hcm
    exact Nat.le_of_eq z.symm
  exact I1.fpOk hge (I1.hok.fresh hge)
end
theorem Ik {K : PySem.W.Frag} {σ : St} {H : Hp} {ta : TA} {R : It -> Hp -> Prop} : iRv K ta σ H R = ta σ H (fun vs H1 => ∃ a, vs = [.ref a] /\ ∃ xs, SqT K H1 a xs /\ R (Itv K a xs.length) H1) := rfl
theorem Aa2 {K : PySem.W.Frag} {H : Hp} {α : Type} {es : List α} {inj : α -> V} {a : Addr} (h : SqT K H a (es.map inj)) : Agx (Itv K a es.length) H es.reverse inj := fun i => by
  refine ⟨fun e => ?_, fun e he => ⟨⟨_, inj e, h, by simp, ?_⟩, ?_⟩⟩
  . have z := List.getElem?_eq_none_iff.mp e
    show es.length <= i
    simpa using z
  . rw [<- List.map_reverse, List.getElem?_map, he]; rfl
  . rintro x H3 ⟨rfl, k⟩
    have z := k _ h
    rw [<- List.map_reverse, List.getElem?_map, he] at z
    exact ⟨rfl, (Option.some.inj z).symm⟩
section
variable {K : PySem.W.Frag} {H1 : Hp} {p : Addr} {cσ : St} {g : TG} {te : TE} {Q : VK} {α : Type} {es : List α} {inj : α -> V}
theorem Ai0 {a : Addr} (f : Nat -> α -> V) (hz : es.length <= sizeLine) (hp : H1 p = none) (ha : SqT K H1 a (es.map inj))
    (step : ∀ (i : Nat) e b H' R, es[i]? = some e -> Same H1 H' -> H' b = none -> (∀ H6, Same H' H6 -> R (f i e) H6) -> g (.ref b) cσ (upd H' b (.tup [.int (i : Nat), inj e])) fun σ4 H4 => Kp cσ σ4 /\ te σ4 H4 R)
    (done : ∀ H', Same H1 H' -> H' p = some (.lst (es.mapIdx f)) -> Q (.ref p) H') : cIn (Ite K a) cσ g Zr te Q H1 p := by
  have su : ∀ {H' : Hp} {o : HO}, Same H1 H' -> Same H1 (upd H' p o) := fun {H' o} s b u e => by
    rw [Cu (Br e hp)]
    exact s b u e
  refine ⟨fun i m acc H' => m = es.length - i /\ i <= es.length /\ acc = (es.take i).mapIdx f /\ H' p = some (.lst acc) /\ Same H1 H', ⟨es.length, by simp, Nat.zero_le _, by simp, Af, su (Same.refl _)⟩, ?_⟩
  rintro i m acc H' ⟨rfl, hi, rfl, hH, s⟩
  have ha' := s.tup ha
  cases he : es[i]? with
  | none =>
    have hl := List.getElem?_eq_none_iff.mp he
    have e : i = es.length := Nat.le_antisymm hi hl
    subst e
    rw [List.take_length] at hH
    exact .inl ⟨⟨_, ha', by rw [List.length_map]; exact Nat.le_refl _⟩, done _ s hH⟩
  | some e =>
    refine .inr ⟨⟨_, inj e, ha', by rw [List.getElem?_map, he]; rfl⟩, fun x H3 y => ?_⟩
    obtain ⟨b, v, y1, y2, rfl, rfl⟩ := y
    have y3 := y1 _ ha'
    rw [List.getElem?_map, he] at y3
    obtain rfl : inj e = v := Option.some.inj y3
    obtain ⟨hlt, e'⟩ := List.getElem?_eq_some_iff.mp he
    have hl : (es.take i).length = i := by rw [List.length_take]; omega
    have tk : (es.take (i + 1)).mapIdx f = (es.take i).mapIdx f ++ [f i e] := by
      rw [List.take_succ, he]
      show (es.take i ++ [e]).mapIdx f = _
      rw [List.mapIdx_concat, hl]
    have q := step i e b H' (fun y H6 => H6 p = some (.lst ((es.take i).mapIdx f)) /\ ((es.take i).mapIdx f).length < sizeLine /\ ∃ m', m' < es.length - i /\ m' = es.length - (i + 1) /\ i + 1 <= es.length /\ (es.take i).mapIdx f ++ [y] = (es.take (i + 1)).mapIdx f /\
        upd H6 p (.lst ((es.take i).mapIdx f ++ [y])) p = some (.lst ((es.take i).mapIdx f ++ [y])) /\ Same H1 (upd H6 p (.lst ((es.take i).mapIdx f ++ [y])))) he s y2
      (fun H6 s6 => ⟨s6 _ _ hH, by rw [List.length_mapIdx, hl]; omega, _, by omega, rfl, hlt, tk.symm, Af, su (s.trans s6)⟩)
    have eq : ∀ (R : VK) (B : Hp -> Prop), (fun σ4 H4 => Kp cσ σ4 /\ Zr σ4 H4 fun b H5 => if b = true then te σ4 H5 R else B H5) = (fun σ4 H4 => Kp cσ σ4 /\ te σ4 H4 R) := fun R B => by
      funext σ4 H4
      show (Kp cσ σ4 /\ if true = true then te σ4 H4 R else B H4) = _
      rw [if_pos rfl]
    rw [eq]
    exact q
end
theorem Ql {X : Cx} {es : List Expr} {k : Nat} {pos : Pos} {t : TGs} (K : PySem.W.Frag) (n : Nat) (hK : X.K = K) (hc : X.calm = true) (h : PGs X es t)
    (hn : (assignEach es X.env).length = n := by rfl) (hst : (assignEach es X.env).findIdx? (·.1) = none := by rfl) : PG X (.Tuple es k pos) (Aip K n t) := by
  subst hK
  exact Gu hc h hn hst
end L2
namespace L2
open PySem PySem.Spec PyProof.Rows
set_option maxRecDepth 100000
theorem Io.has {P : Program} {w : World} {H : Hp} {h : Heap} {a : Addr} {o : HO} (x : Io P w H h a o) : ∃ ob, h.get? a = some ob := by
  cases o with
  | lst xs => obtain ⟨_, _, _, _, e⟩ := x; exact ⟨_, e⟩
  | tup xs => obtain ⟨_, _, _, ob, e, _⟩ := x; exact ⟨_, e⟩
  | dK kvs => obtain ⟨_, _, _, _, o, _, _, e, _⟩ := x; exact ⟨_, e⟩
  | dT kvs => obtain ⟨_, _, _, _, o, _, _, e, _⟩ := x; exact ⟨_, e⟩
  | set S n => obtain ⟨o, _, _, _, e, _⟩ := x; exact ⟨_, e⟩
  | ins C dx fs => obtain ⟨_, _, _, e, _⟩ := x; exact ⟨_, e⟩
  | own y => exact x
  | xd fs => obtain ⟨_, ⟨_, _, _, e, _⟩, _⟩ := x; exact ⟨_, e⟩
  | rng lo hi => obtain ⟨_, _, _, e⟩ := x; exact ⟨_, e⟩
  | frz ob u => obtain ⟨e, _⟩ := x; exact ⟨_, e⟩
  | tbl ps => exact ⟨_, show h.get? a = some _ from x⟩
  | met f y => exact ⟨_, show h.get? a = some _ from x⟩
  | ext φ => exact x.2.1
structure FX (P : Program) (w : World) (fr : List Addr) (H : Hp) (h0 : Heap) (B : Heap) (H' : Hp) (h : Heap) : Prop where
  stay : B.StaysIn h
  k1 : ∀ b o, h0.get? b = some o -> b ∉ fr -> ∃ o', B.get? b = some o' /\ (H b = none -> o' = o)
  k2 : ∀ b u, H' b = some u -> ∃ o, B.get? b = some o
  fr0 : ∀ b ∈ fr, H b = none /\ ∃ o, h0.get? b = some o /\ ∀ vs, o.data ≠ .fields vs
  un : Un fr [] H H' h0 h
  hok : HOk P w H' h
theorem FX.step {P : Program} {w : World} {fr : List Addr} {H H' : Hp} {h0 B h h' : Heap} (x : FX P w fr H h0 B H' h) (k : B.StaysIn h') (u : h.UpToSlots h') : FX P w fr H h0 B H' h' := by
  have slot : ∀ b o, h0.get? b = some o -> H b = none -> b ∈ fr -> ∃ sl, h'.get? b = some { o with slots := sl } := fun b o e n hb => by
    obtain ⟨sl, e1⟩ := x.un.slot b o e n hb (by simp)
    obtain ⟨_, o2, e2, hf⟩ := x.fr0 b hb
    rw [e] at e2; cases e2
    obtain ⟨sl', e3⟩ := u b _ e1 hf
    exact ⟨sl', e3⟩
  refine ⟨k, x.k1, x.k2, x.fr0, ⟨fun b o e n hb _ => ?_, fun b o e n hb _ => slot b o e n hb, x.un.free, fun b o e _ => ?_, x.un.tups, x.un.frzs, x.un.tbls⟩, fun b v e => (x.hok b v e).stay (fun c z hc q => ?_) (fun _ q => q) fun _ _ q => q⟩
  . obtain ⟨o', e1, e2⟩ := x.k1 b o e hb
    rw [e2 n] at e1
    exact k b o e1
  . by_cases hb : b ∈ fr
    . obtain ⟨sl, e1⟩ := slot b o e (x.fr0 b hb).1 hb
      exact ⟨_, e1⟩
    . obtain ⟨o', e1, _⟩ := x.k1 b o e hb
      exact ⟨o', k b o' e1⟩
  . have t : ∃ o, B.get? c = some o := by
      rcases hc with z | z
      . rw [z]; exact x.k2 _ _ e
      . exact x.k2 _ _ z
    obtain ⟨o, eo⟩ := t
    have := x.stay c o eo
    rw [q] at this; cases this
    exact k c _ eo
section
variable {X : Cx} {pins : List (Addr × Obj)} {σ : St} {H H' : Hp} {s s' : Shared} {B : Heap}
theorem Inv.old (I : Inv X pins σ H s) {b : Addr} {o : Obj} (e : X.s₀.heap.get? b = some o) (hb : b ∉ X.fs) : b ∉ frs X.stack := fun z => by
  rcases List.mem_cons.mp (I.stkSub b z) with q | q
  . exact absurd (Nat.lt_of_lt_of_le (Heap.lt_size e) I.ok.above) (by rw [q]; exact Nat.lt_irrefl _)
  . exact hb q
theorem Inv.fr0 (I : Inv X pins σ H s) : ∀ b ∈ X.fs, X.H₀ b = none /\ ∃ o, X.s₀.heap.get? b = some o /\ ∀ vs, o.data ≠ .fields vs := fun b hb => by
  obtain ⟨_, o, ho, hd⟩ := I.ok.funs.mem hb
  exact ⟨I.ok.frf b hb, o, ho, hd⟩
theorem Inv.one (I : Inv X pins σ H s) (hex : X.ex = []) {b : Addr} {o : Obj} (e : X.s₀.heap.get? b = some o) (hb : b ∉ X.fs) : ∃ o', s.heap.get? b = some o' /\ (X.H₀ b = none -> o' = o /\ H b = none) := by
  by_cases n : X.H₀ b = none
  . exact ⟨o, I.base.keep b o e n hb (by rw [hex]; simp), fun _ => ⟨rfl, I.base.free b o e n (by rw [hex]; simp)⟩⟩
  . obtain ⟨o', e1⟩ := I.base.there b o e (by rw [hex]; simp)
    exact ⟨o', e1, fun z => absurd z n⟩
theorem Inv.fx (I : Inv X pins σ H s) (hex : X.ex = []) : FX X.prog X.w X.fs X.H₀ X.s₀.heap (PySem.W.hideAll s.heap (frs X.stack)) H s.heap := by
  refine ⟨fun b o q => PySem.W.of_hideAll _ q, fun b o e hb => ?_, fun b u e => ?_, I.fr0, hex ▸ I.base, I.hok⟩
  . obtain ⟨o', e1, e2⟩ := I.one hex e hb
    exact ⟨o', PySem.W.hideAll_get _ e1 (I.old e hb), fun n => (e2 n).1⟩
  . obtain ⟨o, eo⟩ := (I.hok b u e).has
    exact ⟨o, PySem.W.hideAll_get _ eo fun z => by have := I.stkFree b z; rw [e] at this; cases this⟩
theorem Inv.fxOn (I : Inv X pins σ H s) (hex : X.ex = []) (os : s'.os = s.os) (bare : AllBare s'.gens) (x : FX X.prog X.w (frs X.stack) H s.heap B H' s'.heap) : FX X.prog X.w X.fs X.H₀ X.s₀.heap B H' s'.heap := by
  have J : Inv X pins σ H' s' := I.call' (ch := []) os x.un x.hok bare fun b z => absurd z (by simp)
  refine ⟨x.stay, fun b o e hb => ?_, x.k2, I.fr0, hex ▸ J.base, x.hok⟩
  obtain ⟨o1, e1, n1⟩ := I.one hex e hb
  obtain ⟨o', e2, n2⟩ := x.k1 b o1 e1 (I.old e hb)
  exact ⟨o', e2, fun n => (n2 (n1 n).2).trans (n1 n).1⟩
end
def CXE (P : Program) (w : World) : CXT := fun outer H s E e s' => ∃ (x C : Addr) (a0 : Value) (B : Heap) (H' : Hp), e = .ref x /\ s'.os = s.os /\ AllBare s'.gens /\ Heap.FlyingW B outer x (.ref C) a0 s'.heap /\ FX P w (frs outer) H s.heap B H' s'.heap /\ E (.ref C) none H'
abbrev VE : List Value := [.type "ValueError", .type "Exception", .type "BaseException", .type "object"]
def Afr (K : PySem.W.Frag) (C : Addr) : Prop := PySem.W.excIn K C VE "ValueError.__new__" = true
def cA (K : PySem.W.Frag) (x : Str) : Addr := match PySem.W.nsIn K mainGlobals x with
  | some (some (.ref C)) => C
  | _ => 0
theorem Ajb {K : PySem.W.Frag} {x : Str} {C : Addr} (e : PySem.W.nsIn K mainGlobals x = some (some (.ref C))) : cA K x = C := by
  unfold cA
  rw [e]
def Amb (h : Heap) (C : Addr) : Prop := ∃ bm N nm q bs hdct sn sub ab col dd k0 k1 k2 k3 k5 mN, h.get? C = some (excClassObj nm q C N bs bm hdct sn sub ab col dd k0 k1 k2 k3 k5 "ValueError.__new__") /\ h.Ns N mN /\ mN "__init__" = none /\ OwnTail h VE bm
theorem Afr.obj {K : PySem.W.Frag} {C : Addr} {h : Heap} (q : Afr K C) (X : K.In h) : Amb h C := by
  unfold Afr PySem.W.excIn at q
  cases e : K.lookup C with
  | none => rw [e] at q; cases q
  | some ob =>
    rw [e] at q
    have eX := X _ _ e
    split at q
    . rename_i dd cd sl z
      cases z
      split at q
      . rename_i C1 bm a0 a1 a2 a3 n a5 hm hs
        rw [Bool.and_eq_true, Bool.and_eq_true, Bool.and_eq_true, Bool.and_eq_true, Bool.and_eq_true] at q
        obtain ⟨⟨⟨⟨⟨z1, z2⟩, z3⟩, z4⟩, z5⟩, z6⟩ := q
        have y1 : C1 = C := by simpa using z1
        have y2 : n = "ValueError.__new__" := by simpa using z2
        have y3 : cd.hasDel = false := by simpa using z3
        have y6 : PySem.W.nsIn K cd.ns "__init__" = some none := by simpa using z6
        obtain ⟨c1, c2, c3, c4, c5, c6, c7, c8, c9, c10, c11⟩ := cd
        have hl : sl = #[a0, a1, a2, a3, some (.builtin n), a5] := by
          cases sl
          exact congrArg Array.mk hs
        dsimp only at hm y3 y6 z5
        rw [hl, hm, y1, y2, y3] at eX
        exact ⟨bm, c4, c1, c5, c2, c6, c7, c8, c9, c10, dd, a0, a1, a2, a3, a5, _, eX, Heap.Ns.of_isNs (PySem.W.isNs_of_in X z5), PySem.W.nsMap_none_of_in X z5 y6, PySem.W.tail_of_in X z4⟩
      . cases q
    . cases q
section
variable {P : Program} {w : World} {K : PySem.W.Frag} {mg : Str -> Option Value} {base : Heap} {N : List Str} {qual : Str} {scope : Scope} {f : Addr} {cd : Value} {A : Around} {outer : List Env} {s0 : Shared} {H0 : Hp} {E : XK}
theorem Ak8 : Passes (CXE P w) (Rg (CXE P w) P w K mg base N qual scope f cd A outer s0 H0 E) E := by
  intro pins σ H s e s' I h
  obtain ⟨x, C, a0, B, H', rfl, os, bare, fl, fx, q⟩ := h
  show wpAny _ _ (leaving _ (.ref x)) _ _ s'
  refine wpAny_leaves_onW I.ok.frames rfl fl fun h' fl' up => ?_
  exact ⟨x, C, a0, B, H', rfl, os.trans I.os, bare, fl', (I.fxOn rfl os bare fx).step fl'.1 up, q⟩
def Acb (C : Addr) (E : XK) (t : TA) : TS := fun _ σ H => t σ H fun vs H1 => vs.length <= sizeLine /\ E (.ref C) none H1
theorem Iz {C : Addr} {x : Str} {np cpos pos : Pos} {e : Expr} {es : List Expr} {t : TA} (hq : Afr K C) (hm : mg x = some (.ref C))
    (ha : PA (Rg (CXE P w) P w K mg base N qual scope f cd A outer s0 H0 E) (e :: es) t) (hg : Gl (Rg (CXE P w) P w K mg base N qual scope f cd A outer s0 H0 E) x := by rfl) (hdb : (x == ("__debug__" : Str)) = false := by decide)
    (he : starEach (e :: es) (envOfC qual scope s0.heap.objs.size f cd) = (false, eval e (envOfC qual scope s0.heap.objs.size f cd)) :: starEach es (envOfC qual scope s0.heap.objs.size f cd) := by rfl)
    (hpl : (backTo cpos (starEach es (envOfC qual scope s0.heap.objs.size f cd))).any (·.1) = false := by rfl) :
    PS (Rg (CXE P w) P w K mg base N qual scope f cd A outer s0 H0 E) (.Raise (some (.Call (.Name x np) (e :: es) [] cpos)) none pos) (Acb C E t) := by
  intro pins s σ H D I h
  obtain ⟨bm, N', nm, q, bs, hdct, sn, sub, ab, col, dd, k0, k1, k2, k3, k5, mN, hC, hN, hni, TL⟩ := hq.obj I.mod.kin
  refine wpAny_Raise_call_subT (nm := nm) (q := q) (C := C) (N := N') (bs := bs) (bm := bm) (hdct := hdct) (sn := sn) (sub := sub) (ab := ab) (col := col) (dd := dd) (k0 := k0) (k1 := k1) (k2 := k2) (k3 := k3) (k5 := k5) PySem.F.excBase_ValueError (TL.hasType (by decide)) (I.ok.hd rfl) (by
    show (backTo cpos (starEach (e :: es) (envOfC qual scope s0.heap.objs.size f cd))).any (·.1) = false
    rw [he]
    show (false || (backTo cpos (starEach es _)).any (·.1)) = false
    rw [hpl]; rfl) hni (W6 I hg hm ⟨rfl, ?_⟩ hdb)
  have ha' := ha cpos pins s σ H _ I h
  show wpAny _ _ (evalArgs (.ref C) true (backTo cpos (starEach (e :: es) (envOfC qual scope s0.heap.objs.size f cd))) []) _ _ s
  have ha2 : wpAny (model P w) (A.deeper (envOfC qual scope s0.heap.objs.size f cd)) (spliced (backTo cpos (starEach (e :: es) (envOfC qual scope s0.heap.objs.size f cd)))) _ _ s := ha'
  rw [he] at ha2 ⊢
  refine Calls.evalArgs_plain (thn ha2 fun us s2 ⟨vs, H2, I2, r, z, q2⟩ => ⟨rfl, by rw [<- r.length]; exact z, I2.bk _ _ hC, hN.keeps I2.bk, TL.keeps I2.bk, fun h' x' hm' => ?_⟩)
  show wpAny _ _ (leaving _ (.ref x')) _ _ _
  refine wpAny_leaves_madeW (base := PySem.W.hideAll s2.heap (frs (envOfC qual scope s0.heap.objs.size f cd :: outer))) (h := s2.heap) I2.ok.frames rfl (fun b o q => PySem.W.of_hideAll _ q) (PySem.W.funFrames_hide I2.stack fun env he b hb => List.mem_filterMap.mpr ⟨env, he, hb⟩) hm' fun h'' t' fl _ _ up => ?_
  exact ⟨x', C, .ref t', _, H2, rfl, I2.os, I2.bare, fl, (I2.fx rfl).step fl.1 ((Heap.UpToSlots.of_keeps hm'.keeps).trans up), q2⟩
end
theorem Cp {C : Addr} {E : XK} {t : TA} {D : Ends} {σ : St} {H : Hp} : Acb C E t D σ H = t σ H (fun vs H1 => vs.length <= sizeLine /\ E (.ref C) none H1) := rfl
theorem PS.nox {X : Cx} {st : Stmt} {t : TS} (h : PS X.nox st t) : PS X st t := fun pins s σ H D I hw =>
  wpAny_mono (h pins s σ H D (I.wish _) hw) (fun _ _ q => q.unwish) fun _ _ z => False.elim z
theorem Fun.okE {P : Program} {w : World} {K : PySem.W.Frag} {mg : Str -> Option Value} {base : Heap} {x qual : Str} {st : Stmt} {f : Addr} {fd : FuncData} {N ps : List Str} {k : Nat} {sp : Sp} (F : Fun K x qual st f fd) (S : Ao N ps (Ag st)) (len : ∀ vs H Q E, sp vs H Q E -> vs.length = ps.length)
    (hbody : ∀ (cdv : Value) (A : Around) (outer : List Env) (s : Shared) (H : Hp) (vs : List V) (Q : VK) (E : XK), M7 k (A.deeper (envOfC qual (Ag st) s.heap.objs.size f cdv)) -> sp vs H Q E ->
      ∃ t, PSs (Rg (CXE P w) P w K mg base N qual (Ag st) f cdv A outer s H E) (Jw st) t /\ t { nx := fun _ H' => Q .non H', rt := Q } (start N vs) H) : Sd P w K mg base (CXE P w) (k + 1) f fd ps sp := by
  obtain ⟨oc, od, kV, doc, pm, an, cdv, ct, osl, rfl, lk, hcd⟩ := F.ex
  exact Aiz lk hcd S len fun A outer s H vs Q E hr hsp => hbody cdv A outer s H vs Q E hr hsp
def Afw (P : Program) (w : World) (K : PySem.W.Frag) (mg : Str -> Option Value) (base : Heap) (k : Nat) (x : Str) (ps : List Str) (sp : Sp) : Prop :=
  ∃ f fd, Sd P w K mg base (CXE P w) k f fd ps sp /\ mg x = some (.ref f) /\ PySem.W.keepIn K (.ref f) = true /\ Binds K fd ps []
theorem Df.calE {P : Program} {w : World} {K : PySem.W.Frag} {mg : Str -> Option Value} {base : Heap} {k : Nat} {x : Str} {st : Stmt} {ps : List Str} {f : Addr} {fd : FuncData} {sp : Sp}
    (F : Df K mg x st ps f fd) (G : Sd P w K mg base (CXE P w) k f fd ps sp) : Afw P w K mg base k x ps sp := ⟨f, fd, G, F.at', F.fn.kp, F.bd⟩
theorem Afw.calm {P : Program} {w : World} {K : PySem.W.Frag} {mg : Str -> Option Value} {base : Heap} {k : Nat} {x : Str} {ps : List Str} {sp sp' : Sp}
    (C : Afw P w K mg base k x ps sp) (h : ∀ vs H Q E, sp' vs H Q E -> sp vs H Q E0) : Cal P w K mg base k x ps sp' := by
  obtain ⟨f, fd, G, a, b, c⟩ := C
  refine ⟨f, fd, ⟨fun vs H Q E z => G.len vs H Q E0 (h _ _ _ _ z), fun A outer s H args us vs Q E hr he hb hv hs => ?_⟩, a, b, c⟩
  refine codeAny_mono (G.run A outer s H args us vs Q E0 hr he hb hv (h _ _ _ _ hs)) fun r s' q => ?_
  cases r with
  | ok fl => cases fl <;> exact q
  | error e =>
    obtain ⟨_, _, _, _, _, _, _, _, _, _, z⟩ := q
    exact z.elim
section
variable {P : Program} {w : World} {K : PySem.W.Frag} {mg : Str -> Option Value} {base : Heap} {N : List Str} {qual : Str} {scope : Scope} {f : Addr} {cd : Value} {A : Around} {outer : List Env} {s0 : Shared} {H0 : Hp} {E : XK}
theorem J6 {k : Nat} {x : Str} {ps : List Str} {sp : Sp} {p pos : Pos} {e : Expr} {es : List Expr} {t : TA}
    (C : Afw P w K mg base k x ps sp) (hr : M7 k (A.deeper (envOfC qual scope s0.heap.objs.size f cd))) (ha : PA (Rg (CXE P w) P w K mg base N qual scope f cd A outer s0 H0 E) (e :: es) t) (hg : Gl (Rg (CXE P w) P w K mg base N qual scope f cd A outer s0 H0 E) x := by rfl) (hdb : (x == ("__debug__" : Str)) = false := by decide)
    (he : starEach (e :: es) (envOfC qual scope s0.heap.objs.size f cd) = (false, eval e (envOfC qual scope s0.heap.objs.size f cd)) :: starEach es (envOfC qual scope s0.heap.objs.size f cd) := by rfl)
    (hpl : (backTo pos (starEach es (envOfC qual scope s0.heap.objs.size f cd))).any (·.1) = false := by rfl) :
    PE (Rg (CXE P w) P w K mg base N qual scope f cd A outer s0 H0 E) (.Call (.Name x p) (e :: es) [] pos) (Wy sp [] E t) := by
  obtain ⟨f', fd, G, a, b, c⟩ := C
  exact Aa8 (X := Rg (CXE P w) P w K mg base N qual scope f cd A outer s0 H0 E) G hr hg a b c .nil Ak8 ha hdb he hpl
end
end L2
namespace L2
open PySem PySem.Spec PyProof.Rows
set_option maxRecDepth 100000
def Aix (sp : Sp) (C : Addr) (g : V -> St -> St) (i : Nat) (ta : TA) (ts : Addr -> Obj -> TS) : TS := fun D σ H => ta σ H fun vs H1 => sp vs H1 (fun v H2 => D.nx (g v σ) H2)
  (fun c _ H2 => c = .ref C /\ ∀ x oe, oe.cls = .ref C -> ts x oe { nx := fun σ' H' => D.nx (σ'.set i none) H', rt := D.rt, bk := fun σ' H' => D.bk (σ'.set i none) H', ct := fun σ' H' => D.ct (σ'.set i none) H' } (σ.set i (some (.ref x))) H2)
def Aml (sp : Sp) (C : Addr) (g : V -> St -> St) (ta : TA) (ts : Addr -> Obj -> TS) : TS := fun D σ H => ta σ H fun vs H1 => sp vs H1 (fun v H2 => D.nx (g v σ) H2)
  (fun c _ H2 => c = .ref C /\ ∀ x oe, oe.cls = .ref C -> ts x oe D σ H2)
theorem Cm {sp : Sp} {C : Addr} {g : V -> St -> St} {i : Nat} {ta : TA} {ts : Addr -> Obj -> TS} {D : Ends} {σ : St} {H : Hp} : Aix sp C g i ta ts D σ H = ta σ H (fun vs H1 => sp vs H1 (fun v H2 => D.nx (g v σ) H2)
  (fun c _ H2 => c = .ref C /\ ∀ x oe, oe.cls = .ref C -> ts x oe { nx := fun σ' H' => D.nx (σ'.set i none) H', rt := D.rt, bk := fun σ' H' => D.bk (σ'.set i none) H', ct := fun σ' H' => D.ct (σ'.set i none) H' } (σ.set i (some (.ref x))) H2)) := rfl
theorem Hx {sp : Sp} {C : Addr} {g : V -> St -> St} {ta : TA} {ts : Addr -> Obj -> TS} {D : Ends} {σ : St} {H : Hp} : Aml sp C g ta ts D σ H = ta σ H (fun vs H1 => sp vs H1 (fun v H2 => D.nx (g v σ) H2)
  (fun c _ H2 => c = .ref C /\ ∀ x oe, oe.cls = .ref C -> ts x oe D σ H2)) := rfl
end L2
namespace L2
open PySem PySem.Spec PyProof.Rows
set_option maxRecDepth 100000
structure Al1 (K : PySem.W.Frag) (C : Addr) : Prop where
  ga : PySem.W.findIn K (.ref C) "__getattribute__" = some (some (.builtin "BaseException.__getattribute__"))
  gn : PySem.W.findIn K (.ref C) "__getattr__" = some none
  cl : PySem.W.findIn K (.ref C) "__class__" = some (some (.builtin "object.__class__"))
  ob : PySem.W.mroIn K C (.type "object") = some true
  be : PySem.W.mroIn K C (.type "BaseException") = some true
theorem Al1.is {K : PySem.W.Frag} {C : Addr} (Z : Al1 K C) : (PySem.W.clsIn K C).isSome = true := by
  obtain ⟨cd, a, _⟩ := Option.bind_eq_some_iff.mp Z.ob
  rw [a]; rfl
theorem nw {H H' : Hp} {p : Addr} {o : HO} (hp : H p = none) (e : upd H p o = H') : Same H H' /\ H' p = some o := by
  subst e
  exact ⟨Same.upd hp _, Af⟩
end L2
namespace L2
open PySem PySem.Spec PyProof.Rows
def Dr : Expr -> Bool
  | .Starred _ _ => false
  | _ => true
theorem Js {e : Expr} {es : List Expr} {env : Env} (h : Dr e = true) : starEach (e :: es) env = (false, eval e env) :: starEach es env := by
  cases e <;> first | rfl | cases h
theorem Lb {env : Env} {pos : Pos} : ∀ {es : List Expr}, es.all Dr = true -> (backTo pos (starEach es env)).any (·.1) = false
  | [], _ => rfl
  | e :: es, h => by
    rw [List.all_cons, Bool.and_eq_true] at h
    rw [Js h.1]
    have ih := Lb (env := env) (pos := pos) h.2
    unfold backTo at ih ⊢
    rw [List.map_cons, List.any_cons, ih]
    rfl
section
variable {X : Cx} {e : Expr} {es : List Expr} {te : TE} {t : TA} {x : Str} {p pos : Pos} {id T : String} {r : List V -> Hp -> VK -> Prop} {k : Nat} {ps : List Str} {sp : Sp}
theorem Aa (ha : PE X e te) (hr : PA X es t) (h : Dr e = true := by rfl) : PA X (e :: es) (Ad8 te t) := Ahb ha hr (Js h)
theorem Cr (hc : Ji X (.builtin id) r) (hg : Gl X x) (hm : X.mg x = none) (hv : bootBuiltins x = some (.builtin id)) (ha : PA X (e :: es) t) (h1 : Dr e = true := by rfl) (h2 : es.all Dr = true := by rfl) (hn : x ≠ "__name__" := by decide) (hdb : (x == ("__debug__" : Str)) = false := by decide) :
    PE X (.Call (.Name x p) (e :: es) [] pos) (tCB r t) := Aey hc hg hm hv ha hn hdb (Js h1) (Lb h2)
theorem Dq (hc : Ji X (.type T) r) (hg : Gl X x) (hm : X.mg x = none) (hv : bootBuiltins x = some (.type T)) (ha : PA X (e :: es) t) (h1 : Dr e = true := by rfl) (h2 : es.all Dr = true := by rfl) (hn : x ≠ "__name__" := by decide) (hdb : (x == ("__debug__" : Str)) = false := by decide) :
    PE X (.Call (.Name x p) (e :: es) [] pos) (tCB r t) := Aat hc hg hm hv ha hn hdb (Js h1) (Lb h2)
theorem Am (C : Cal X.prog X.w X.K X.mg X.base k x ps sp) (hr : M7 k X.A) (ha : PA X (e :: es) t) (h1 : Dr e = true := by rfl) (h2 : es.all Dr = true := by rfl) (hg : Gl X x := by rfl) (hdb : (x == ("__debug__" : Str)) = false := by decide) :
    PE X (.Call (.Name x p) (e :: es) [] pos) (Wy sp [] E0 t) := Ad3 C hr ha hg hdb (Js h1) (Lb h2)
end
end L2
namespace L2
open PySem PySem.Spec PyProof.Rows
def Itd (lo : Int) (n : Nat) : It := ⟨fun i _ => i < n, fun i H x H' => H' = H /\ x = .int (lo - i), fun i _ => n <= i⟩
theorem Abo {P : Program} {w : World} {K : PySem.W.Frag} {tg : Expr} (it : Addr) (lo : Int) (n : Nat) : Turn P w K tg (Itd lo n) [it] it (fun i h => IsRangeIter h it (lo + (i : Nat) * (-1)) ((n : Int) - (i : Nat)) (-1)) where
  mem := by simp
  obj := fun i h st b hb => by
    have e : b = it := by simpa using hb
    subst e
    exact ⟨_, st, fun v z => by
      have z' : Data.fields _ = Data.cell v := z
      cases z'⟩
  keep := fun i h h' st k => k it (by simp) _ st
  item := by
    intro X hP hw hK hc i pins s σ H E I hf st hg
    subst hP hw hK
    obtain ⟨f0, f1, f2, f3, f4, f5⟩ := hf it (by simp)
    have W := Walks.range (prog := X.prog) (w := X.w) (I.ok.hd hc) it lo (-1) n
    refine W.item i s _ _ hg st fun v h' tk hv st' kk => ?_
    obtain ⟨t, rfl⟩ := hv
    have I1 : Inv X pins σ H { s with heap := h', toks := tk } := I.turned (fun b o hb e => kk b o (by simpa using hb) e) f0 f1 f3 f4 f5
    refine ⟨_, rfl, Acp (s := { s with heap := h', toks := tk }) (n := "range_iterator") st' rfl rfl (by decide) ⟨.int (lo - i), H, I1, ⟨t, ?_⟩, ⟨rfl, rfl⟩, st', fun b hb => (hf b hb).1⟩⟩
    rw [Int.mul_neg, Int.mul_one, <- Int.sub_eq_add_neg]
  done := by
    intro X hP hw hK hc i pins s σ H E I hf st hg
    subst hP hw hK
    obtain ⟨f0, f1, f2, f3, f4, f5⟩ := hf it (by simp)
    exact wpAny_pyNext_range_end (I.ok.hd hc) st (by have : n <= i := hg; omega) fun h' eb => ⟨rfl, I.turned (t' := s.toks) (fun b o hb e => eb b o hb e) f0 f1 f3 f4 f5⟩
  self := fun _ _ _ _ _ st h => wpAny_pyIter_rangeiter st h
section
variable {X : Cx} {tg : Expr}
theorem Aie {pins : List (Addr × Obj)} {σ : St} {H : Hp} {s : Shared} {R : It -> Hp -> Prop} {E : Value -> Shared -> Prop} {lo hi : Int} {t u v : Tok} {tk : Nat} (I : Inv X pins σ H s) (h1 : -(2 ^ 62) <= lo) (h2 : lo < 2 ^ 62) (h3 : -(2 ^ 62) <= hi) (h4 : hi < 2 ^ 62)
    (q : R (Itd lo (lo - hi).toNat) H) : wpAny (model X.prog X.w) X.A (pyIter (.ref s.heap.objs.size)) (PIE X pins σ tg R) E { s with heap := s.heap.push { cls := .type "range", data := .fields #[.int lo t, .int hi u, .int (-1) v] }, toks := tk } := by
  refine wpAny_pyIter_range (IsRange.new ..) (PySem.W.small_down h1 h2 h3 h4) ?_
  have I1 : Inv X pins σ H { s with heap := s.heap.push { cls := .type "range", data := .fields #[.int lo t, .int hi u, .int (-1) v] }, toks := tk } := I.kept fun b o e => Heap.get?_push_of_some _ e
  refine ⟨(s.heap.push { cls := .type "range", data := .fields #[.int lo t, .int hi u, .int (-1) v] }).objs.size, [(s.heap.push { cls := .type "range", data := .fields #[.int lo t, .int hi u, .int (-1) v] }).objs.size], _, _, H, rfl,
    I1.kept (t' := tk) fun b o e => Heap.get?_push_of_some _ e, Abo _ lo (lo - hi).toNat, ?_, fun b hb => ?_, q⟩
  . have e1 : lo + ((0 : Nat) : Int) * (-1) = lo := by simp
    have e2 : (((lo - hi).toNat : Nat) : Int) - ((0 : Nat) : Int) = Builtin.Range.rangeSize lo hi (-1) := by rw [PySem.W.rangeSize_downNat]; omega
    show IsRangeIter _ _ (lo + ((0 : Nat) : Int) * (-1)) ((((lo - hi).toNat : Nat) : Int) - ((0 : Nat) : Int)) (-1)
    rw [e1, e2]
    exact Heap.get?_push_size _ rfl
  . have e : b = (s.heap.push { cls := .type "range", data := .fields #[.int lo t, .int hi u, .int (-1) v] }).objs.size := by simpa using hb
    subst e
    exact I1.fpOk (Nat.le_refl _) (I1.hok.fresh (Nat.le_refl _))
def Ahw (ta : TA) : TI := fun σ H R => ta σ H fun vs H1 => ∃ i j : Int, vs = [.int i, .int j, .int (-1)] /\ (-(2 ^ 62) <= i /\ i < 2 ^ 62 /\ -(2 ^ 62) <= j /\ j < 2 ^ 62) /\ R (Itd i (i - j).toNat) H1
theorem Lk {a b c : Expr} {ta : TA} {p pos : Pos} (hg : Gl X "range") (hm : X.mg "range" = none) (ha : PA X [a, b, c] ta) (h1 : Dr a = true := by rfl) (h2 : [b, c].all Dr = true := by rfl) :
    PI X tg (.Call (.Name "range" p) [a, b, c] [] pos) (Ahw ta) := by
  intro pins s σ H R I h
  refine Call_ (Mh I hg hm boot_range (PyProof.Rows.callWith_type1 (thn (ha pos pins s σ H _ I h) fun us s1 ⟨vs, H1, I1, r1, q1⟩ => ?_) (Js h1) (Lb h2)))
  obtain ⟨i, j, e, ⟨q1, q2, q3, q4⟩, q⟩ := q1
  subst e
  cases r1 with
  | cons r rr =>
    cases rr with
    | cons r' rr =>
      cases rr with
      | cons r'' rr =>
        cases rr
        obtain ⟨t, rfl⟩ := r
        obtain ⟨t', rfl⟩ := r'
        obtain ⟨t'', rfl⟩ := r''
        exact call_range_3 (by decide) (Aie I1 q1 q2 q3 q4 q) (.inl (PyProof.noPylong_of_log2 (by decide +kernel)))
theorem Ef {ta : TA} {σ : St} {H : Hp} {R : It -> Hp -> Prop} : Ahw ta σ H R = ta σ H (fun vs H1 => ∃ i j : Int, vs = [.int i, .int j, .int (-1)] /\ (-(2 ^ 62) <= i /\ i < 2 ^ 62 /\ -(2 ^ 62) <= j /\ j < 2 ^ 62) /\ R (Itd i (i - j).toNat) H1) := rfl
theorem G7 {i j : Int} {G : Int -> Int -> Prop} : (∃ i' j' : Int, [V.int i, .int j, .int (-1)] = [.int i', .int j', .int (-1)] /\ G i' j') = G i j := propext ⟨fun ⟨_, _, e, h⟩ => by cases e; exact h, fun h => ⟨i, j, rfl, h⟩⟩
end
theorem Qu {H : Hp} {lo : Int} {n : Nat} : Agx (Itd lo n) H (List.range n) (fun i => .int (lo - (i : Nat))) := fun i => by
  refine ⟨fun e => ?_, fun e h => ?_⟩
  . have := List.getElem?_eq_none_iff.mp e
    rw [List.length_range] at this
    exact this
  . obtain ⟨h1, h2⟩ := List.getElem?_eq_some_iff.mp h
    rw [List.length_range] at h1
    rw [List.getElem_range] at h2
    subst h2
    exact ⟨h1, fun x H3 ⟨a, b⟩ => ⟨a, b⟩⟩
end L2
namespace L2
open PySem PySem.Spec PyProof.Rows
theorem Aa5 (n : Nat) : sliceRange ((n : Int) - 1) (-1) (-1) = (List.range n).map fun (k : Nat) => ((n : Int) - 1 + (k : Int) * (-1)).toNat := by
  unfold sliceRange
  dsimp only
  rw [if_neg (by decide)]
  have e : (if (n : Int) - 1 > -1 then ((n : Int) - 1 - -1 - -1 - 1) / (- -1) else 0).toNat = n := by
    split
    . rw [show (- -1 : Int) = 1 from rfl, Int.ediv_one]; omega
    . omega
  rw [e]
  refine List.map_congr_left fun k _ => ?_
  omega
theorem Aa0 (its : List Value) : slicePick its.toArray none none (some (-1)) = its.reverse.toArray := by
  unfold slicePick
  have e : (sliceBounds none none (some (-1)) its.toArray.size) = ((its.length : Int) - 1, -1, -1) := by
    unfold sliceBounds
    simp
  rw [e]
  dsimp only
  rw [Aa5, List.filterMap_map]
  exact congrArg List.toArray (Wf its)
section
variable {X : Cx} {e st : Expr} {te tst : TE} {pos p2 : Pos}
def Aht (K : PySem.W.Frag) (te tst : TE) : TE := fun σ H Q => te σ H fun x H1 => tst σ H1 fun y H2 => ∃ a xs, x = .ref a /\ y = .int (-1) /\ SqL K H2 a xs /\ ∀ p, H2 p = none -> Q (.ref p) (upd H2 p (.lst xs.reverse))
theorem Ru (he : PE X e te) (hst : PE X st tst) : PE X (.Subscript e (.Slice none none (some st) p2) pos) (Aht X.K te tst) := by
  intro pins s σ H Q I h
  refine Subscript_ (thn (he pins s σ H _ I h) fun v s1 ⟨x, H1, I1, r1, q1⟩ => ?_)
  refine wpAny_Slice ?_
  rw [evalPart_none]
  refine wpAny_pure (wpAny_pure ?_)
  rw [evalPart_some]
  refine thn (hst pins s1 σ H1 _ I1 q1) fun u s3 ⟨y, H3, I3, r3, q3⟩ => ?_
  obtain ⟨a, xs, rfl, rfl, hq, q⟩ := q3
  obtain ⟨tk, rfl⟩ := r3
  cases r1
  have I4 : Inv X pins σ H3 { s3 with heap := s3.heap.push { cls := .type "slice", data := .fields #[.none, .none, .int (-1) tk] } } := I3.kept (t' := s3.toks) fun b ob q => Heap.get?_push_of_some _ q
  obtain ⟨its, r, ht, hz⟩ := I4.list hq
  have hlen := r.length
  show wpAny (model X.prog X.w) X.A (subscriptTail e (.Slice none none (some st) p2) (.ref a) (.ref s3.heap.objs.size)) (EP X pins σ Q) X.xe { s3 with heap := s3.heap.push { cls := .type "slice", data := .fields #[.none, .none, .int (-1) tk] } }
  refine tail_any (ops := [.ref a, .ref s3.heap.objs.size]) ht.isList.typeIs slot_list_getitem.lookup (wpAny_getItem_list_slice (st := some (-1)) ht.isList ⟨_, Heap.get?_push_size _ rfl, rfl, rfl⟩ .none .none (.int _ _) (by decide) ?_ (by rw [List.size_toArray, <- hlen]; exact hz)) (by with_unfolding_all rfl)
  rw [Aa0]
  exact ⟨.ref _, _, I4.laid (t' := s3.toks) (o := .lst xs.reverse) (fun b ob q => Heap.get?_push_of_some _ q) (Nat.le_refl _) ⟨by rw [List.length_reverse]; exact hz, _, 0, r.rev, Heap.get?_push_size _ rfl⟩, rfl, q _ I4.fresh⟩
theorem Dy {K : PySem.W.Frag} {σ : St} {H : Hp} {Q : VK} : Aht K te tst σ H Q = te σ H (fun x H1 => tst σ H1 fun y H2 => ∃ a xs, x = .ref a /\ y = .int (-1) /\ SqL K H2 a xs /\ ∀ p, H2 p = none -> Q (.ref p) (upd H2 p (.lst xs.reverse))) := rfl
end
end L2
namespace L2
open PySem PySem.Spec PyProof.Rows
theorem Ahu {σ : St} {H : Hp} {g : TG} {tb : TS} {D : Ends} {J : It} (n : Nat) (inj : Nat -> V) (Pv : Nat -> St -> Hp -> Prop) (h0 : Pv 0 σ H) (hw : ∀ i σ H, Pv i σ H -> Agx J H (List.range n) inj)
    (hs : ∀ i σ H, i < n -> Pv i σ H -> g (inj i) σ H fun σ2 H2 => tb { D with nx := Pv (i + 1), ct := Pv (i + 1), bk := D.nx } σ2 H2) (hd : ∀ σ H, Pv n σ H -> D.nx σ H) : FI J g tb D σ H := by
  refine R6 (es := List.range n) (inj := inj) (fun pre => Pv pre.length) h0 (fun pre σ H p => hw pre.length σ H p) (fun pre e post σ H he p => ?_) (fun σ H p => hd σ H (by rw [List.length_range] at p; exact p))
  have hl := congrArg List.length he
  rw [List.length_range, List.length_append, List.length_cons] at hl
  have ee : e = pre.length := by
    have := congrArg (fun l => l[pre.length]?) he
    simp only [List.getElem?_append_right (Nat.le_refl _), Nat.sub_self, List.getElem?_cons_zero] at this
    rw [List.getElem?_range (by omega)] at this
    exact (Option.some.inj this).symm
  subst ee
  have := hs pre.length σ H (by omega) p
  rw [List.length_append, List.length_singleton]
  exact this
theorem Same.put {H H' : Hp} {p : Addr} {o : HO} (s : Same H H') (hp : H p = none) : Same H (L2.upd H' p o) := fun b u e => by
  rw [Cu (Br e hp)]
  exact s b u e
end L2
namespace L2
open PySem PySem.Spec PyProof.Rows
def Alf (K : PySem.W.Frag) (tl : TE) : TI := fun σ H R => tl σ H fun x H1 => ∃ a, x = .ref a /\ (((∃ xs, SqL K H1 a xs) /\ R (Itl K a) H1) \/ ((∃ xs, SqT K H1 a xs) /\ R (Itt K a) H1))
theorem Acf {X : Cx} {tg l : Expr} {tl : TE} (hl : PE X l tl) : PI X tg l (Alf X.K tl) := by
  intro pins s σ H R I h
  refine thn (hl pins s σ H _ I h) fun v s1 ⟨x, H1, I1, r1, q1⟩ => ?_
  obtain ⟨a, e, q1⟩ := q1
  subst e
  cases r1
  have fp : ∀ b ∈ [s1.heap.objs.size], Vm X pins H1 b := fun b hb => by
    have e : b = s1.heap.objs.size := by simpa using hb
    subst e
    exact I1.fpOk (Nat.le_refl _) (I1.hok.fresh (Nat.le_refl _))
  rcases q1 with ⟨⟨xs, hq⟩, q⟩ | ⟨⟨xs, hq⟩, q⟩
  . obtain ⟨its, rv, p, hz⟩ := I1.list hq
    exact wpAny_pyIter_list p.isList ⟨s1.heap.objs.size, [s1.heap.objs.size], _, _, H1, rfl, I1.kept (t' := s1.toks) fun b o e => Heap.get?_push_of_some _ e, Vl a _, ⟨_, Heap.get?_push_size _ rfl, rfl, rfl⟩, fp, q⟩
  . obtain ⟨its, rv, p, hz⟩ := I1.tuple hq
    exact wpAny_pyIter_tuple (show s1.heap.IsTuple a its.toArray from p) ⟨s1.heap.objs.size, [s1.heap.objs.size], _, _, H1, rfl, I1.kept (t' := s1.toks) fun b o e => Heap.get?_push_of_some _ e, Te a _, ⟨_, Heap.get?_push_size _ rfl, rfl, rfl⟩, fp, q⟩
theorem Ew {K : PySem.W.Frag} {tl : TE} {σ : St} {H : Hp} {R : It -> Hp -> Prop} : Alf K tl σ H R = tl σ H (fun x H1 => ∃ a, x = .ref a /\ (((∃ xs, SqL K H1 a xs) /\ R (Itl K a) H1) \/ ((∃ xs, SqT K H1 a xs) /\ R (Itt K a) H1))) := rfl
end L2
namespace L2
theorem Ba {t u : TS} {D : Ends} {σ : St} {H : Hp} (P : St -> Hp -> Prop) (h1 : ∀ N : St -> Hp -> Prop, (∀ σ' H', P σ' H' -> N σ' H') -> t { D with nx := N } σ H) (h2 : ∀ σ' H', P σ' H' -> u D σ' H') : Aki t u D σ H := h1 (u D) h2
end L2
namespace L2
open PySem PySem.Spec PyProof.Rows
theorem Q9 {K : PySem.W.Frag} {H : Hp} {p a : Addr} {acc xs : List V} {o : HO} (h : SqT K H a xs) (hp : H p = some (.lst acc)) : SqT K (upd H p o) a xs := by
  rcases h with (h | ⟨o', h⟩) | h
  . exact .inl (.inl (by rw [Cu (Aiv h hp (by intro z; cases z))]; exact h))
  . exact .inl (.inr ⟨o', by rw [Cu (Aiv h hp (by intro z; cases z))]; exact h⟩)
  . exact .inr h
end L2
namespace L2
open PySem PySem.Spec PyProof.Rows
def Itz (K : PySem.W.Frag) (a b : Addr) : It :=
  ⟨fun i H => ∃ xs ys x y, SqL K H a xs /\ SqL K H b ys /\ xs[i]? = some x /\ ys[i]? = some y,
   fun i H x H' => ∃ p u v, (∀ xs, SqL K H a xs -> xs[i]? = some u) /\ (∀ ys, SqL K H b ys -> ys[i]? = some v) /\ H p = none /\ x = .ref p /\ H' = upd H p (.tup [u, v]),
   fun i H => ∃ xs ys, SqL K H a xs /\ SqL K H b ys /\ (xs.length <= i \/ ys.length <= i)⟩
section
variable {X : Cx} {a b : Expr} {ta : TA} {el : List Expr} {x1} {tp p pos : Pos}
def Amj (K : PySem.W.Frag) (ta : TA) : TI := fun σ H R => ta σ H fun vs H1 => ∃ a b, vs = [.ref a, .ref b] /\ (∃ xs, SqL K H1 a xs) /\ (∃ ys, SqL K H1 b ys) /\ R (Itz K a b) H1
end
theorem Es {K : PySem.W.Frag} {ta : TA} {σ : St} {H : Hp} {R : It -> Hp -> Prop} : Amj K ta σ H R = ta σ H (fun vs H1 => ∃ a b, vs = [.ref a, .ref b] /\ (∃ xs, SqL K H1 a xs) /\ (∃ ys, SqL K H1 b ys) /\ R (Itz K a b) H1) := rfl
end L2
namespace L2
open PySem PySem.SeqAt PySem.Spec PyProof.Rows
section
variable {X : Cx}
theorem Ah7 : OpR X (compareOp .IsNot) (fun x y H Q => ∃ a b : Bool, x = .bl a /\ y = .bl b /\ Q (.bl (a != b)) H) := by
  intro pins s σ H x y v u Q I rx ry h
  obtain ⟨a, b, rfl, rfl, q⟩ := h
  cases rx
  cases ry
  exact isnot_bool ⟨.bl _, H, I, rfl, q⟩
open Classical in
def Akx : TE := fun _ H Q => ∀ p, H p = none -> Q (.ref p) (upd H p (.dK []))
theorem El {σ : St} {H : Hp} {Q : VK} : Akx σ H Q = ∀ p, H p = none -> Q (.ref p) (upd H p (.dK [])) := rfl
end
end L2
namespace L2
open PySem PySem.Spec PyProof.Rows
def tCV (i : Nat) (a : Addr) (sp : Sp) (E : XK) (t : TA) : TE := fun σ H Q => σ[i]? = some (some (.ref a)) /\ t σ H fun vs H1 => sp vs H1 Q E
theorem Qp {i : Nat} {a : Addr} {sp : Sp} {E : XK} {t : TA} {σ : St} {H : Hp} {Q : VK} : tCV i a sp E t σ H Q = (σ[i]? = some (some (.ref a)) /\ t σ H fun vs H1 => sp vs H1 Q E) := rfl
theorem Aab {X : Cx} {i k : Nat} {a : Addr} {x y : Str} {ps : List Str} {sp : Sp} {p pos : Pos} {e : Expr} {es : List Expr} {t : TA} (C : Cal X.prog X.w X.K X.mg X.base k y ps sp) (hy : X.mg y = some (.ref a)) (hr : M7 k X.A)
    (hx : PE X (.Name x p) (Af0 i)) (ha : PA X (e :: es) t) (h1 : Dr e = true := by rfl) (h2 : es.all Dr = true := by rfl) : PE X (.Call (.Name x p) (e :: es) [] pos) (tCV i a sp E0 t) := by
  obtain ⟨f, fd, G, g, b, c⟩ := C
  have ef : f = a := by rw [hy] at g; cases g; rfl
  subst ef
  intro pins s σ H Q I h
  obtain ⟨hv, h⟩ := h
  refine wpAny_Call_Name_kw (thn (hx pins s σ H (fun v H1 => v = .ref f /\ H1 = H) I ⟨_, hv, rfl, rfl⟩) fun u s1 ⟨v, H1, I1, r, e1, e2⟩ => ?_)
  subst e1 e2
  cases r
  refine PySem.W.callWith_K (h₀ := X.base) I1.ok.mod.kin b (thn (ha pos pins s1 σ H1 _ I1 h) fun us s2 ⟨vs, H2, I2, r2, q⟩ => ⟨I2.kIn, ?_⟩) (Js h1) (Lb h2)
  have q' : sp (vs ++ []) H2 Q E0 := by rw [List.append_nil]; exact q
  exact Afo G hr c .nil Ajq I2 r2 q'
theorem Mf {X : Cx} {x : Str} {v : V} {pos : Pos} (hg : Gl X x) (h : ∃ u, X.mg x = some u /\ RelV v u) (hd : (x == ("__debug__" : Str)) = false := by decide) : PE X (.Name x pos) (tC v) := by
  obtain ⟨u, a, b⟩ := h
  exact Qq hg a b hd
end L2
namespace L2
open PySem PySem.Spec PyProof.Rows
def Alr (K : PySem.W.Frag) (a : Addr) : It :=
  ⟨fun i H => ∃ xs x, SqL K H a xs /\ xs[i]? = some x, fun i H x H' => ∃ p v, (∀ xs, SqL K H a xs -> xs[i]? = some v) /\ H p = none /\ x = .ref p /\ H' = upd H p (.tup [.int (i : Nat), v]), fun i H => ∃ xs, SqL K H a xs /\ xs.length <= i⟩
section
variable {X : Cx} {a : Expr} {ta : TA} {el : List Expr} {x1} {tp p pos : Pos}
def Ami (K : PySem.W.Frag) (ta : TA) : TI := fun σ H R => ta σ H fun vs H1 => ∃ a, vs = [.ref a] /\ (∃ xs, SqL K H1 a xs) /\ R (Alr K a) H1
end
theorem Dz {K : PySem.W.Frag} {σ : St} {H : Hp} {ta : TA} {R : It -> Hp -> Prop} : Ami K ta σ H R = ta σ H (fun vs H1 => ∃ a, vs = [.ref a] /\ (∃ xs, SqL K H1 a xs) /\ R (Alr K a) H1) := rfl
end L2
namespace L2
open PySem PySem.Spec PyProof.Rows
def Akp (sp : Sp) (Cs : List Addr) (g : V -> St -> St) (i : Nat) (ta : TA) (ts : Addr -> Addr -> Obj -> TS) : TS := fun D σ H => ta σ H fun vs H1 => sp vs H1 (fun v H2 => D.nx (g v σ) H2)
  (fun c _ H2 => ∃ C, c = .ref C /\ C ∈ Cs /\ ∀ x oe, oe.cls = .ref C -> ts C x oe { nx := fun σ' H' => D.nx (σ'.set i none) H', rt := D.rt, bk := fun σ' H' => D.bk (σ'.set i none) H', ct := fun σ' H' => D.ct (σ'.set i none) H' } (σ.set i (some (.ref x))) H2)
theorem Ez {sp : Sp} {Cs : List Addr} {g : V -> St -> St} {i : Nat} {ta : TA} {ts : Addr -> Addr -> Obj -> TS} {D : Ends} {σ : St} {H : Hp} : Akp sp Cs g i ta ts D σ H = ta σ H (fun vs H1 => sp vs H1 (fun v H2 => D.nx (g v σ) H2)
  (fun c _ H2 => ∃ C, c = .ref C /\ C ∈ Cs /\ ∀ x oe, oe.cls = .ref C -> ts C x oe { nx := fun σ' H' => D.nx (σ'.set i none) H', rt := D.rt, bk := fun σ' H' => D.bk (σ'.set i none) H', ct := fun σ' H' => D.ct (σ'.set i none) H' } (σ.set i (some (.ref x))) H2)) := rfl
def Akj (sp : Sp) (Cs : List Addr) (g : V -> St -> St) (ta : TA) (ts : Addr -> Addr -> Obj -> TS) : TS := fun D σ H => ta σ H fun vs H1 => sp vs H1 (fun v H2 => D.nx (g v σ) H2)
  (fun c _ H2 => ∃ C, c = .ref C /\ C ∈ Cs /\ ∀ x oe, oe.cls = .ref C -> ts C x oe D σ H2)
theorem Ea {sp : Sp} {Cs : List Addr} {g : V -> St -> St} {ta : TA} {ts : Addr -> Addr -> Obj -> TS} {D : Ends} {σ : St} {H : Hp} : Akj sp Cs g ta ts D σ H = ta σ H (fun vs H1 => sp vs H1 (fun v H2 => D.nx (g v σ) H2)
  (fun c _ H2 => ∃ C, c = .ref C /\ C ∈ Cs /\ ∀ x oe, oe.cls = .ref C -> ts C x oe D σ H2)) := rfl
section
variable {c : TT} {tb : TS} {D : Ends} {σ : St} {H : Hp}
def WM (Pv : Nat -> St -> Hp -> Prop) (tb : TS) (D : Ends) (m : Nat) (σ : St) (H : Hp) : Prop := ∃ N : St -> Hp -> Prop, (∀ σ' H', N σ' H' -> ∃ m', m' < m /\ Pv m' σ' H') /\ tb { D with nx := N, ct := N, bk := D.nx } σ H
theorem Ad0 {Pv : Nat -> St -> Hp -> Prop} {m : Nat} (h : tb { D with nx := fun σ' H' => ∃ m', m' < m /\ Pv m' σ' H', ct := fun σ' H' => ∃ m', m' < m /\ Pv m' σ' H', bk := D.nx } σ H) : WM Pv tb D m σ H := ⟨_, fun _ _ z => z, h⟩
theorem Uu (Pv : Nat -> St -> Hp -> Prop) (m0 : Nat) (h0 : Pv m0 σ H) (hs : ∀ m σ H, Pv m σ H -> c σ H fun b H1 => if b = true then WM Pv tb D m σ H1 else D.nx σ H1) : Wa c tb D σ H := ⟨Pv, ⟨m0, h0⟩, hs⟩
end
end L2
namespace L2
open PySem PySem.Spec PyProof.Rows
def It1 (t : Bool) (h : Heap) (j u : Addr) (k : Nat) : Prop := if t = true then h.IsTupleIter j u k else h.IsListIter j u k
def Sq1 (t : Bool) (h : Heap) (u : Addr) (xs : Array Value) : Prop := if t = true then h.IsTuple u xs else h.IsList u xs
theorem It1.ext {t : Bool} {h g : Heap} {j u b : Addr} {k : Nat} (x : It1 t h j u k) (e : Heap.ExtBut b h g) (n : j ≠ b) : It1 t g j u k := by
  cases t
  . exact Heap.IsListIter.extBut x e n
  . exact Heap.IsTupleIter.extBut x e n
theorem It1.to {t : Bool} {h g : Heap} {j u : Addr} {k : Nat} (x : It1 t h j u k) (e : ∀ o, h.get? j = some o -> g.get? j = some o) : It1 t g j u k := by
  cases t
  . exact Heap.IsListIter.at x e
  . exact Heap.IsTupleIter.at x e
theorem Sq1.ext {t : Bool} {h g : Heap} {u b : Addr} {xs : Array Value} (x : Sq1 t h u xs) (e : Heap.ExtBut b h g) (n : u ≠ b) : Sq1 t g u xs := by
  cases t
  . exact Heap.IsList.extBut x e n
  . exact Heap.IsTuple.extBut x e n
theorem It1.there {t : Bool} {h : Heap} {j u : Addr} {k : Nat} (x : It1 t h j u k) : ∃ o, h.get? j = some o /\ ∀ v, o.data ≠ .cell v := by
  cases t
  . obtain ⟨o, e, _, d⟩ := (show h.IsListIter j u k from x)
    exact ⟨o, e, fun v z => by rw [d] at z; cases z⟩
  . obtain ⟨o, e, _, d⟩ := (show h.IsTupleIter j u k from x)
    exact ⟨o, e, fun v z => by rw [d] at z; cases z⟩
section
variable {prog : Program} {w : World} {A : Around} {E : Value -> Shared -> Prop} {s : Shared}
theorem Ah8 {t : Bool} {j u : Addr} {k : Nat} {xs : Array Value} {y : Value} {Q : Value -> Shared -> Prop} (hj : It1 t s.heap j u k) (hu : Sq1 t s.heap u xs) (hy : xs[k]? = some y)
    (c : ∀ g, It1 t g j u (k + 1) -> Heap.SameBut j s.heap g -> Q y { s with heap := g }) : wpAny (model prog w) A (Builtin.SmallTypes.nextOf (.ref j)) Q E s := by
  cases t
  . exact wpAny_nextOf_list_item hj hu hy c
  . exact nextT hj hu hy c
theorem Vy {t : Bool} {j u : Addr} {k : Nat} {xs : Array Value} {Q : Value -> Shared -> Prop} (hh : A.handled = none) (hj : It1 t s.heap j u k) (hu : Sq1 t s.heap u xs) (hy : xs[k]? = none)
    (c : ∀ g e, Heap.ExtBut j s.heap g -> (∃ o, g.get? e = some o /\ o.cls = .type "StopIteration") -> E (.ref e) { s with heap := g }) : wpAny (model prog w) A (Builtin.SmallTypes.nextOf (.ref j)) Q E s := by
  cases t
  . exact wpAny_nextOf_list_end hh hj hu hy c
  . exact Wb hh hj hu hy c
theorem Aan {t1 t2 : Bool} {zz TI TO i1 i2 u1 u2 : Addr} {k1 k2 : Nat} {xs ys : Array Value} {x y p q : Value} {Q : Value -> Shared -> Prop} (D : ZipApart zz TI TO i1 i2 u1 u2)
    (hz : IsZip s.heap zz TI TO .none) (hTI : IsPair s.heap TI (.ref i1) (.ref i2)) (hTO : IsPair s.heap TO p q) (j1 : It1 t1 s.heap i1 u1 k1) (j2 : It1 t2 s.heap i2 u2 k2) (a1 : Sq1 t1 s.heap u1 xs) (a2 : Sq1 t2 s.heap u2 ys) (hx : xs[k1]? = some x) (hy : ys[k2]? = some y)
    (c : ∀ g, IsZip g zz TI TO (rawInt s.heap.objs.size) -> IsPair g TO x y -> It1 t1 g i1 u1 (k1 + 1) -> It1 t2 g i2 u2 (k2 + 1) -> IsPair g s.heap.objs.size x y -> g.objs.size = s.heap.objs.size + 1 ->
      (∀ b o, b ≠ zz -> b ≠ TO -> b ≠ i1 -> b ≠ i2 -> s.heap.get? b = some o -> g.get? b = some o) -> Q (.ref s.heap.objs.size) { s with heap := g }) :
    wpAny (model prog w) A (Builtin.«zip.__next__» ⟨[.ref zz], []⟩) (fun fin s' => ∃ v, fin = .done (.ret v) /\ Q v s') E s := by
  show wpAny _ _ (field (.ref zz) 2 >>= _) _ _ s
  refine wpAny_bind (wpAny_field hz rfl (x := .bool false) rfl ?z1)
  case z1 =>
  show wpAny _ _ (field (.ref zz) 3 >>= _) _ _ s
  refine wpAny_bind (wpAny_field hz rfl (x := .ref TI) rfl (wpAny_bind (wpAny_seqItems hTI rfl ?z2)))
  case z2 =>
  show wpAny _ _ (Builtin.SmallTypes.ownedTupleIsFree (.ref zz) >>= _) _ _ s
  refine wpAny_bind (m := Builtin.SmallTypes.ownedTupleIsFree (.ref zz)) ?z3
  case z3 =>
  unfold Builtin.SmallTypes.ownedTupleIsFree; refine wpAny_bind (wpAny_field hz rfl (x := .none) rfl (wpAny_pure ?z4))
  case z4 =>
  simp only [if_true]; refine wpAny_bind (wpAny_rule (wpAny_bind (wpAny_field hz rfl (x := .ref TO) rfl (wpAny_bind (wpAny_setField_rec hz (by simp) fun g1 (z1 : IsZip g1 zz TI TO .ellipsis) b1 => ?z5)))))
  case z5 =>
  refine wpAny_bind ?z6
  case z6 =>
  simp only [List.forIn_cons, List.forIn_nil, List.zipIdx_cons, List.zipIdx_nil]
  refine wpAny_bind (wpAny_bind (wpAny_onRaise ?z7))
  case z7 =>
  show wpAny _ _ (Builtin.SmallTypes.nextOf (.ref i1) >>= _) _ _ { s with heap := g1 }
  refine wpAny_bind (Ah8 (j1.ext b1.extBut D.i1z) (a1.ext b1.extBut D.l1z) hx fun g2 n1 b2 => wpAny_pure ?z8)
  case z8 =>
  have o2 : IsPair g2 TO p q := b2.extBut _ _ D.TOi1 (b1.extBut _ _ D.TOz hTO)
  refine wpAny_bind (wpAny_seqItems o2 rfl (wpAny_bind (wpAny_updateSeq_pair o2 fun g3 (o3 : IsPair g3 TO x q) b3 => wpAny_bind (wpAny_letGo (wpAny_pure (wpAny_bind (wpAny_bind (wpAny_onRaise ?z9))))))))
  case z9 =>
  show wpAny _ _ (Builtin.SmallTypes.nextOf (.ref i2) >>= _) _ _ { s with heap := g3 }
  refine wpAny_bind (Ah8 (((j2.ext b1.extBut D.i2z).ext b2.extBut D.i12.symm).ext b3.extBut D.TOi2.symm) (((a2.ext b1.extBut D.l2z).ext b2.extBut D.l2i1).ext b3.extBut D.l2TO) hy fun g4 n2 b4 => wpAny_pure ?z10)
  case z10 =>
  have o4 : IsPair g4 TO x q := b4.extBut _ _ D.TOi2 o3
  refine wpAny_bind (wpAny_seqItems o4 rfl (wpAny_bind (wpAny_updateSeq_pair o4 fun g5 (o5 : IsPair g5 TO x y) b5 => wpAny_bind (wpAny_letGo (wpAny_pure (wpAny_pure (wpAny_bind (wpAny_seqItems o5 rfl (wpAny_bind (wpAny_newTuple ?z11))))))))))
  case z11 =>
  have sz : g5.objs.size = s.heap.objs.size := by rw [b5.1, b4.1, b3.1, b2.1, b1.1]
  have z5 : IsZip g5 zz TI TO .ellipsis := b5.extBut _ _ D.TOz.symm (b4.extBut _ _ D.i2z.symm (b3.extBut _ _ D.TOz.symm (b2.extBut _ _ D.i1z.symm z1)))
  have k5 : ∀ b o, b ≠ zz -> b ≠ TO -> b ≠ i1 -> b ≠ i2 -> s.heap.get? b = some o -> g5.get? b = some o := fun b o c1 c2 c3 c4 e => b5.extBut _ _ c2 (b4.extBut _ _ c4 (b3.extBut _ _ c2 (b2.extBut _ _ c3 (b1.extBut _ _ c1 e))))
  have m1 : It1 t1 g5 i1 u1 (k1 + 1) := ((n1.ext b3.extBut D.TOi1.symm).ext b4.extBut D.i12).ext b5.extBut D.TOi1.symm
  have m2 : It1 t2 g5 i2 u2 (k2 + 1) := n2.ext b5.extBut D.TOi2.symm
  have zlt : zz < g5.objs.size := Heap.lt_size z5
  show wpAny _ _ (Builtin.SmallTypes.ownedTupleHandOut (.ref zz) (.ref g5.objs.size) >>= _) _ _ _
  refine wpAny_bind (m := Builtin.SmallTypes.ownedTupleHandOut (.ref zz) (.ref g5.objs.size)) ?z12
  case z12 =>
  unfold Builtin.SmallTypes.ownedTupleHandOut
  have z6 : IsZip (g5.push { cls := .type "tuple", data := .seq #[x, y] }) zz TI TO .ellipsis := Heap.get?_push_of_some _ z5
  refine wpAny_bind (wpAny_setField_rec z6 (by simp) fun g7 (z7 : IsZip g7 zz TI TO (rawInt g5.objs.size)) b7 => wpAny_setField_rec z7 (by simp) fun g8 (z8 : IsZip g8 zz TI TO (rawInt g5.objs.size)) b8 => ?z13)
  case z13 =>
  have up : ∀ b o, b ≠ zz -> g5.get? b = some o -> g8.get? b = some o := fun b o c1 e => b8.extBut _ _ c1 (b7.extBut _ _ c1 (Heap.get?_push_of_some _ e))
  have t8 : IsPair g8 g5.objs.size x y := b8.extBut _ _ (Nat.ne_of_gt zlt) (b7.extBut _ _ (Nat.ne_of_gt zlt) (Heap.get?_push_size _ rfl))
  have w8 : g8.objs.size = g5.objs.size + 1 := by rw [b8.1, b7.1, Heap.size_push]
  rw [sz] at z8 t8 w8
  refine wpAny_pure ⟨_, rfl, ?z14⟩
  case z14 =>
  show Q (.ref g5.objs.size) _
  rw [sz]
  exact c g8 z8 (up _ _ D.TOz o5) (m1.to fun o e => up _ o D.i1z e) (m2.to fun o e => up _ o D.i2z e) t8 w8 fun b o c1 c2 c3 c4 e => up b o c1 (k5 b o c1 c2 c3 c4 e)
theorem Ad9 {t1 t2 : Bool} {zz TI TO i1 i2 u1 u2 : Addr} {k1 k2 : Nat} {xs ys : Array Value} {p q : Value} {Q : Fin -> Shared -> Prop} (hh : A.handled = none) (D : ZipApart zz TI TO i1 i2 u1 u2)
    (hz : IsZip s.heap zz TI TO .none) (hTI : IsPair s.heap TI (.ref i1) (.ref i2)) (hTO : IsPair s.heap TO p q) (j1 : It1 t1 s.heap i1 u1 k1) (j2 : It1 t2 s.heap i2 u2 k2) (a1 : Sq1 t1 s.heap u1 xs) (a2 : Sq1 t2 s.heap u2 ys) (he : xs[k1]? = none \/ ys[k2]? = none)
    (c : ∀ g e, (∀ b o, b ≠ zz -> b ≠ TO -> b ≠ i1 -> b ≠ i2 -> s.heap.get? b = some o -> g.get? b = some o) -> (∃ o, g.get? e = some o /\ o.cls = .type "StopIteration") -> E (.ref e) { s with heap := g }) :
    wpAny (model prog w) A (Builtin.«zip.__next__» ⟨[.ref zz], []⟩) Q E s := by
  show wpAny _ _ (field (.ref zz) 2 >>= _) _ _ s
  refine wpAny_bind (wpAny_field hz rfl (x := .bool false) rfl ?z1)
  case z1 =>
  show wpAny _ _ (field (.ref zz) 3 >>= _) _ _ s
  refine wpAny_bind (wpAny_field hz rfl (x := .ref TI) rfl (wpAny_bind (wpAny_seqItems hTI rfl ?z2)))
  case z2 =>
  show wpAny _ _ (Builtin.SmallTypes.ownedTupleIsFree (.ref zz) >>= _) _ _ s
  refine wpAny_bind (m := Builtin.SmallTypes.ownedTupleIsFree (.ref zz)) ?z3
  case z3 =>
  unfold Builtin.SmallTypes.ownedTupleIsFree; refine wpAny_bind (wpAny_field hz rfl (x := .none) rfl (wpAny_pure ?z4))
  case z4 =>
  simp only [if_true]; refine wpAny_bind (wpAny_rule (wpAny_bind (wpAny_field hz rfl (x := .ref TO) rfl (wpAny_bind (wpAny_setField_rec hz (by simp) fun g1 (z1 : IsZip g1 zz TI TO .ellipsis) b1 => ?z5)))))
  case z5 =>
  refine wpAny_bind ?z6
  case z6 =>
  simp only [List.forIn_cons, List.forIn_nil, List.zipIdx_cons, List.zipIdx_nil]
  refine wpAny_bind (wpAny_bind (wpAny_onRaise ?z7))
  case z7 =>
  show wpAny _ _ (Builtin.SmallTypes.nextOf (.ref i1) >>= _) _ _ { s with heap := g1 }
  cases hx : xs[k1]? with
  | none =>
    refine wpAny_bind (Vy hh (j1.ext b1.extBut D.i1z) (a1.ext b1.extBut D.l1z) hx fun g2 e b2 ⟨oe, hoe, hce⟩ => ?_)
    have z2 : IsZip g2 zz TI TO .ellipsis := b2 _ _ D.i1z.symm z1
    have ne : e ≠ zz := fun y => by subst y; rw [z2] at hoe; cases hoe; simp at hce
    exact wpAny_setField_rec z2 (by simp) fun g3 _ b3 => c g3 e (fun b o c1 _ c3 _ y => b3.extBut _ _ c1 (b2 _ _ c3 (b1.extBut _ _ c1 y))) ⟨oe, b3.extBut _ _ ne hoe, hce⟩
  | some x =>
    have hy : ys[k2]? = none := by
      rcases he with h | h
      . rw [hx] at h; cases h
      . exact h
    refine wpAny_bind (Ah8 (j1.ext b1.extBut D.i1z) (a1.ext b1.extBut D.l1z) hx fun g2 n1 b2 => wpAny_pure ?_)
    have o2 : IsPair g2 TO p q := b2.extBut _ _ D.TOi1 (b1.extBut _ _ D.TOz hTO)
    refine wpAny_bind (wpAny_seqItems o2 rfl (wpAny_bind (wpAny_updateSeq_pair o2 fun g3 o3 b3 => wpAny_bind (wpAny_letGo (wpAny_pure (wpAny_bind (wpAny_bind (wpAny_onRaise ?z9))))))))
    case z9 =>
    show wpAny _ _ (Builtin.SmallTypes.nextOf (.ref i2) >>= _) _ _ { s with heap := g3 }
    refine wpAny_bind (Vy hh (((j2.ext b1.extBut D.i2z).ext b2.extBut D.i12.symm).ext b3.extBut D.TOi2.symm) (((a2.ext b1.extBut D.l2z).ext b2.extBut D.l2i1).ext b3.extBut D.l2TO) hy fun g4 e b4 ⟨oe, hoe, hce⟩ => ?_)
    have z4 : IsZip g4 zz TI TO .ellipsis := b4 _ _ D.i2z.symm (b3.extBut _ _ D.TOz.symm (b2.extBut _ _ D.i1z.symm z1))
    have ne : e ≠ zz := fun y => by subst y; rw [z4] at hoe; cases hoe; simp at hce
    exact wpAny_setField_rec z4 (by simp) fun g5 _ b5 => c g5 e (fun b o c1 c2 c3 c4 y => b5.extBut _ _ c1 (b4 _ _ c4 (b3.extBut _ _ c2 (b2.extBut _ _ c3 (b1.extBut _ _ c1 y))))) ⟨oe, b5.extBut _ _ ne hoe, hce⟩
theorem Adk {t1 t2 : Bool} {zz TI TO i1 i2 u1 u2 : Addr} {k1 k2 : Nat} {xs ys : Array Value} {x y p q : Value} {Q : Option Value -> Shared -> Prop} (D : ZipApart zz TI TO i1 i2 u1 u2)
    (hz : IsZip s.heap zz TI TO .none) (hTI : IsPair s.heap TI (.ref i1) (.ref i2)) (hTO : IsPair s.heap TO p q) (j1 : It1 t1 s.heap i1 u1 k1) (j2 : It1 t2 s.heap i2 u2 k2) (a1 : Sq1 t1 s.heap u1 xs) (a2 : Sq1 t2 s.heap u2 ys) (hx : xs[k1]? = some x) (hy : ys[k2]? = some y)
    (c : ∀ g, IsZip g zz TI TO (rawInt s.heap.objs.size) -> IsPair g TO x y -> It1 t1 g i1 u1 (k1 + 1) -> It1 t2 g i2 u2 (k2 + 1) -> IsPair g s.heap.objs.size x y -> g.objs.size = s.heap.objs.size + 1 ->
      (∀ b o, b ≠ zz -> b ≠ TO -> b ≠ i1 -> b ≠ i2 -> s.heap.get? b = some o -> g.get? b = some o) -> Q (some (.ref s.heap.objs.size)) { s with heap := g }) : wpAny (model prog w) A (pyNext (.ref zz)) Q E s := by
  have ty : s.TypeIs (.ref zz) "zip" := ⟨_, hz, rfl⟩
  unfold pyNext
  exact wpAny_bind (wpAny_attempt (wpAny_callSpecial?_slot (name := Str.ofString "__next__") ty F.slot_zip_next (wpAny_call_entry F.slot_zip_next ty F.entry_zip_next
    (Aan D hz hTI hTO j1 j2 a1 a2 hx hy fun g b1 b2 b3 b4 b5 b6 b7 => wpAny_pure (c g b1 b2 b3 b4 b5 b6 b7)) (F.args_zip_next_1 _))))
theorem Ab4 {t1 t2 : Bool} {zz TI TO i1 i2 u1 u2 : Addr} {k1 k2 : Nat} {xs ys : Array Value} {p q : Value} {Q : Option Value -> Shared -> Prop} (hh : A.handled = none) (D : ZipApart zz TI TO i1 i2 u1 u2)
    (hz : IsZip s.heap zz TI TO .none) (hTI : IsPair s.heap TI (.ref i1) (.ref i2)) (hTO : IsPair s.heap TO p q) (j1 : It1 t1 s.heap i1 u1 k1) (j2 : It1 t2 s.heap i2 u2 k2) (a1 : Sq1 t1 s.heap u1 xs) (a2 : Sq1 t2 s.heap u2 ys) (he : xs[k1]? = none \/ ys[k2]? = none)
    (c : ∀ g, (∀ b o, b ≠ zz -> b ≠ TO -> b ≠ i1 -> b ≠ i2 -> s.heap.get? b = some o -> g.get? b = some o) -> Q none { s with heap := g }) : wpAny (model prog w) A (pyNext (.ref zz)) Q E s := by
  have ty : s.TypeIs (.ref zz) "zip" := ⟨_, hz, rfl⟩
  unfold pyNext
  refine wpAny_bind (wpAny_attempt (wpAny_callSpecial?_slot (name := Str.ofString "__next__") ty F.slot_zip_next (wpAny_call_entry F.slot_zip_next ty F.entry_zip_next (Ad9 hh D hz hTI hTO j1 j2 a1 a2 he fun g e hk ⟨o, ho, hc⟩ => ?_) (F.args_zip_next_1 _))))
  exact wpAny_bind (wpAny_isInstance (T := "StopIteration") (b := true) ⟨o, ho, hc⟩ isSubtype_stop (wpAny_pure (c _ hk)))
end
def Ajy (t : Bool) : String := if t = true then "tuple_iterator" else "list_iterator"
abbrev Xk (t : Bool) (u : Addr) : Obj := { cls := .type (Ajy t), data := .fields #[.ref u, .int 0 0] }
theorem iter1 {prog : Program} {w : World} {A : Around} {E : Value -> Shared -> Prop} {s : Shared} {t : Bool} {u : Addr} {xs : Array Value} {Q : Value -> Shared -> Prop} (h : Sq1 t s.heap u xs) (q : Q (.ref s.heap.objs.size) { s with heap := s.heap.push (Xk t u) }) : wpAny (model prog w) A (pyIter (.ref u)) Q E s := by
  cases t
  . exact wpAny_pyIter_list h q
  . exact wpAny_pyIter_tuple h q
theorem Adp {t : Bool} {u j : Addr} {g : Heap} (e : g.get? j = some (Xk t u)) : It1 t g j u 0 := by
  cases t
  . exact ⟨_, e, rfl, rfl⟩
  . exact ⟨_, e, rfl, rfl⟩
theorem Sq1.push {t : Bool} {h : Heap} {u : Addr} {xs : Array Value} (x : Sq1 t h u xs) (o : Obj) : Sq1 t (h.push o) u xs := by
  cases t
  . exact Heap.IsList.push x _
  . obtain ⟨ob, e, r⟩ := (show h.IsTuple u xs from x)
    exact ⟨ob, Heap.get?_push_of_some _ e, r⟩
abbrev zA1 (t1 : Bool) (h : Heap) (u1 : Addr) : Heap := h.push (Xk t1 u1)
abbrev zA2 (t1 t2 : Bool) (h : Heap) (u1 u2 : Addr) : Heap := (zA1 t1 h u1).push (Xk t2 u2)
abbrev zA3 (t1 t2 : Bool) (h : Heap) (u1 u2 : Addr) : Heap := (zA2 t1 t2 h u1 u2).push { cls := .type "tuple", data := .seq #[.ref h.objs.size, .ref (zA1 t1 h u1).objs.size] }
abbrev zA4 (t1 t2 : Bool) (h : Heap) (u1 u2 : Addr) : Heap := (zA3 t1 t2 h u1 u2).push { cls := .type "tuple", data := .seq #[.none, .none] }
abbrev zA5 (t1 t2 : Bool) (h : Heap) (u1 u2 : Addr) : Heap := (zA4 t1 t2 h u1 u2).push { cls := .type "zip", data := .fields #[.none, .bool false, .bool false, .ref (zA2 t1 t2 h u1 u2).objs.size, .ref (zA3 t1 t2 h u1 u2).objs.size] }
theorem Y7 (t1 t2 : Bool) (u1 u2 : Addr) (xs ys : Array Value) :
    Meets (Builtin.«zip.__new__» ⟨[.type "zip", .ref u1, .ref u2], []⟩) (fun _ R s => Sq1 t1 s.heap u1 xs /\ Sq1 t2 s.heap u2 ys /\ R (.ok (.ret (.ref (zA4 t1 t2 s.heap u1 u2).objs.size))) { s with heap := zA5 t1 t2 s.heap u1 u2 }) :=
  .of_wp fun prog w A R s h => by
    obtain ⟨hp, g, d, tk, os⟩ := s; obtain ⟨b1, b2, h⟩ := h
    have su := sub_zip
    have L1 : Sq1 t1 (Shared.heap ⟨hp, g, d, tk, os⟩) u1 xs := b1
    have L2 : Sq1 t2 (Shared.heap ⟨hp.push (Xk t1 u1), g, d, tk, os⟩) u2 ys := b2.push _
    wp_walk using iter1 L1, iter1 L2
    exact ⟨_, rfl, h⟩
theorem Ab9 {prog : Program} {w : World} {A : Around} {E : Value -> Shared -> Prop} {s : Shared} {t1 t2 : Bool} {u1 u2 : Addr} {xs ys : Array Value} {Q : Value -> Shared -> Prop} (b1 : Sq1 t1 s.heap u1 xs) (b2 : Sq1 t2 s.heap u2 ys)
    (c : ∀ g, IsZip g (s.heap.objs.size + 4) (s.heap.objs.size + 2) (s.heap.objs.size + 3) .none -> IsPair g (s.heap.objs.size + 2) (.ref s.heap.objs.size) (.ref (s.heap.objs.size + 1)) -> IsPair g (s.heap.objs.size + 3) .none .none ->
      It1 t1 g s.heap.objs.size u1 0 -> It1 t2 g (s.heap.objs.size + 1) u2 0 -> (∀ b o, s.heap.get? b = some o -> g.get? b = some o) -> Q (.ref (s.heap.objs.size + 4)) { s with heap := g }) : wpAny (model prog w) A (call (.type "zip") [.ref u1, .ref u2]) Q E s := by
  refine callType_new F.called_zip (by decide) (F.typeCall_zip_2 _ _) (F.newCall_zip_2 _ _) (fun obj => F.args_object_init_3 obj _ _) F.entry_zip_new (Y7 t1 t2 u1 u2 xs ys) ⟨b1, b2, ?_⟩
  have w1 : (zA1 t1 s.heap u1).objs.size = s.heap.objs.size + 1 := Heap.size_push ..
  have w2 : (zA2 t1 t2 s.heap u1 u2).objs.size = s.heap.objs.size + 2 := by rw [Heap.size_push, w1]
  have w3 : (zA3 t1 t2 s.heap u1 u2).objs.size = s.heap.objs.size + 3 := by rw [Heap.size_push, w2]
  have w4 : (zA4 t1 t2 s.heap u1 u2).objs.size = s.heap.objs.size + 4 := by rw [Heap.size_push, w3]
  have e5 : (zA5 t1 t2 s.heap u1 u2).get? (zA4 t1 t2 s.heap u1 u2).objs.size = some _ := Heap.get?_push_size _ rfl
  have e4 : (zA5 t1 t2 s.heap u1 u2).get? (zA3 t1 t2 s.heap u1 u2).objs.size = some _ := Heap.get?_push_of_some _ (Heap.get?_push_size _ rfl)
  have e3 : (zA5 t1 t2 s.heap u1 u2).get? (zA2 t1 t2 s.heap u1 u2).objs.size = some _ := Heap.get?_push_of_some _ (Heap.get?_push_of_some _ (Heap.get?_push_size _ rfl))
  have e2 : (zA5 t1 t2 s.heap u1 u2).get? (zA1 t1 s.heap u1).objs.size = some (Xk t2 u2) := Heap.get?_push_of_some _ (Heap.get?_push_of_some _ (Heap.get?_push_of_some _ (Heap.get?_push_size _ rfl)))
  have e1 : (zA5 t1 t2 s.heap u1 u2).get? s.heap.objs.size = some (Xk t1 u1) := Heap.get?_push_of_some _ (Heap.get?_push_of_some _ (Heap.get?_push_of_some _ (Heap.get?_push_of_some _ (Heap.get?_push_size _ rfl))))
  show _ /\ _
  rw [w2, w3, w4] at e5
  rw [w1, w2] at e3
  rw [w3] at e4
  rw [w1] at e2
  rw [w4]
  exact ⟨⟨_, e5, rfl⟩, c _ e5 e3 e4 (Adp e1) (Adp e2) fun b o x => Heap.get?_push_of_some _ (Heap.get?_push_of_some _ (Heap.get?_push_of_some _ (Heap.get?_push_of_some _ (Heap.get?_push_of_some _ x))))⟩
def SqB (t : Bool) (K : PySem.W.Frag) (H : Hp) (a : Addr) (xs : List V) : Prop := if t = true then SqT K H a xs else SqL K H a xs
theorem Inv.sqB {X : Cx} {pins : List (Addr × Obj)} {σ : St} {H : Hp} {s : Shared} {t : Bool} {a : Addr} {xs : List V} (I : Inv X pins σ H s) (h : SqB t X.K H a xs) : ∃ its : List Value, Vals xs its /\ Sq1 t s.heap a its.toArray := by
  cases t
  . obtain ⟨its, r, p, _⟩ := I.list h
    exact ⟨its, r, p.isList⟩
  . obtain ⟨its, r, p, _⟩ := I.tuple h
    exact ⟨its, r, p⟩
theorem Inv.sqB_inj {X : Cx} {pins : List (Addr × Obj)} {σ : St} {H : Hp} {s : Shared} {t : Bool} {a : Addr} {xs ys : List V} (I : Inv X pins σ H s) (h : SqB t X.K H a xs) (h' : SqB t X.K H a ys) : xs = ys := by
  cases t
  . exact I.list_inj h h'
  . exact I.tuple_inj h h'
def Akf (t1 t2 : Bool) (K : PySem.W.Frag) (a b : Addr) : It :=
  ⟨fun i H => ∃ xs ys x y, SqB t1 K H a xs /\ SqB t2 K H b ys /\ xs[i]? = some x /\ ys[i]? = some y,
   fun i H x H' => ∃ p u v, (∀ xs, SqB t1 K H a xs -> xs[i]? = some u) /\ (∀ ys, SqB t2 K H b ys -> ys[i]? = some v) /\ H p = none /\ x = .ref p /\ H' = upd H p (.tup [u, v]),
   fun i H => ∃ xs ys, SqB t1 K H a xs /\ SqB t2 K H b ys /\ (xs.length <= i \/ ys.length <= i)⟩
theorem Ade {P : Program} {w : World} {K : PySem.W.Frag} {el : List Expr} {x1} {tp : Pos} (t1 t2 : Bool) (a b z TI TO i1 i2 : Addr) (D : ZipApart z TI TO i1 i2 a b) :
    Turn P w K (.Tuple el x1 tp) (Akf t1 t2 K a b) [z, TI, TO, i1, i2] z (fun i h => IsZip h z TI TO .none /\ IsPair h TI (.ref i1) (.ref i2) /\ (∃ c d, IsPair h TO c d) /\ It1 t1 h i1 a i /\ It1 t2 h i2 b i) where
  mem := by simp
  obj := fun i h st c hc => by
    obtain ⟨hz, hTI, ⟨u, v, hTO⟩, h1, h2⟩ := st
    simp only [List.mem_cons, List.not_mem_nil, or_false] at hc
    rcases hc with rfl | rfl | rfl | rfl | rfl
    . exact ⟨_, hz, fun v z => by cases (show Data.fields _ = Data.cell v from z)⟩
    . exact ⟨_, hTI, fun v z => by cases (show Data.seq _ _ = Data.cell v from z)⟩
    . exact ⟨_, hTO, fun v z => by cases (show Data.seq _ _ = Data.cell v from z)⟩
    . exact h1.there
    . exact h2.there
  keep := fun i h h' st k => by
    obtain ⟨hz, hTI, ⟨u, v, hTO⟩, h1, h2⟩ := st
    exact ⟨k z (by simp) _ hz, k TI (by simp) _ hTI, ⟨u, v, k TO (by simp) _ hTO⟩, h1.to fun o e => k i1 (by simp) _ e, h2.to fun o e => k i2 (by simp) _ e⟩
  item := by
    intro X hP hw hK hc i pins s σ H E I hf st hg
    subst hP hw hK
    obtain ⟨xs, ys, x, y, hqx, hqy, hx, hy⟩ := hg
    obtain ⟨its, rv, p⟩ := I.sqB hqx
    obtain ⟨its2, rv2, p2⟩ := I.sqB hqy
    obtain ⟨u, hu, ru⟩ := rv.get hx
    obtain ⟨v, hv, rv'⟩ := rv2.get hy
    obtain ⟨hz, hTI, ⟨c, d, hTO⟩, h1, h2⟩ := st
    refine Adk D hz hTI hTO h1 h2 p p2 (x := u) (y := v) (by simpa using hu) (by simpa using hv) fun g a1 a2 a3 a4 a5 a6 hk => ⟨_, rfl, ?_⟩
    refine wpAny_letOwnedTupleGo_zip a1 fun g2 hz2 sb2 => ?_
    replace sb2 : Heap.SameBut z g g2 := sb2
    have lt : ∀ b ∈ [z, TI, TO, i1, i2], b ≠ s.heap.objs.size := fun b hb => by
      obtain ⟨o1, e1, _⟩ := h1.there
      obtain ⟨o2, e2, _⟩ := h2.there
      simp only [List.mem_cons, List.not_mem_nil, or_false] at hb
      rcases hb with rfl | rfl | rfl | rfl | rfl
      . exact Nat.ne_of_lt (Heap.lt_size hz)
      . exact Nat.ne_of_lt (Heap.lt_size hTI)
      . exact Nat.ne_of_lt (Heap.lt_size hTO)
      . exact Nat.ne_of_lt (Heap.lt_size e1)
      . exact Nat.ne_of_lt (Heap.lt_size e2)
    have hn : H s.heap.objs.size = none := I.fresh
    have I1 : Inv X pins σ (upd H s.heap.objs.size (.tup [x, y])) { s with heap := s.heap.push { cls := .type "tuple", data := .seq #[u, v] }, toks := s.toks } :=
      I.laid (fun b o q => Heap.get?_push_of_some _ q) (Nat.le_refl _) ⟨by show 2 <= sizeLine; decide, [u, v], .cons ru (.cons rv' .nil), ⟨_, Heap.get?_push_size _ rfl, rfl, _, rfl⟩⟩
    have fp' : ∀ b ∈ [z, TI, TO, i1, i2], Vm X pins (upd H s.heap.objs.size (.tup [x, y])) b := fun b hb =>
      ⟨by rw [Cu (lt b hb)]; exact (hf b hb).1, (hf b hb).2⟩
    have I2 := I1.turnL (h' := g2) (t' := s.toks) (fp := [z, TI, TO, i1, i2]) (fun b o hb q => by
      have n1 : b ≠ z := fun e => hb (by simp [e])
      refine (sb2.2 b n1).trans ?_
      rcases Heap.get?_push_cases q with ⟨rfl, rfl⟩ | q0
      . exact a5
      . exact hk b o n1 (fun e => hb (by simp [e])) (fun e => hb (by simp [e])) (fun e => hb (by simp [e])) q0) fp'
    refine ⟨.ref s.heap.objs.size, _, I2, rfl, ⟨_, x, y, fun zs hz => by rw [I.sqB_inj hz hqx]; exact hx, fun zs hz => by rw [I.sqB_inj hz hqy]; exact hy, hn, rfl, rfl⟩, ⟨hz2, ?_, ⟨u, v, sb2.extBut _ _ D.TOz a2⟩, a3.ext sb2.extBut D.i1z, a4.ext sb2.extBut D.i2z⟩, fun b hb => (fp' b hb).1⟩
    exact sb2.extBut _ _ D.TIz (hk _ _ D.TIz D.TITO D.TIi1 D.TIi2 hTI)
  done := by
    intro X hP hw hK hc i pins s σ H E I hf st hg
    subst hP hw hK
    obtain ⟨xs, ys, hqx, hqy, hxy⟩ := hg
    obtain ⟨its, rv, p⟩ := I.sqB hqx
    obtain ⟨its2, rv2, p2⟩ := I.sqB hqy
    obtain ⟨hz, hTI, ⟨c, d, hTO⟩, h1, h2⟩ := st
    have l1 := rv.length
    have l2 := rv2.length
    exact Ab4 (I.ok.hd hc) D hz hTI hTO h1 h2 p p2 (by
      rcases hxy with h | h
      . exact .inl (by simp; omega)
      . exact .inr (by simp; omega)) fun g hk => ⟨rfl, I.turnL (t' := s.toks) (fp := [z, TI, TO, i1, i2]) (fun b o hb q => hk b o (fun e => hb (by simp [e])) (fun e => hb (by simp [e])) (fun e => hb (by simp [e])) (fun e => hb (by simp [e])) q) hf⟩
  self := fun _ _ _ _ _ st h => wpAny_pyIter_zip st.1 h
section
variable {X : Cx} {a b : Expr} {ta : TA} {el : List Expr} {x1} {tp p pos : Pos}
def Ah5 (t1 t2 : Bool) (K : PySem.W.Frag) (ta : TA) : TI := fun σ H R => ta σ H fun vs H1 => ∃ a b, vs = [.ref a, .ref b] /\ (∃ xs, SqB t1 K H1 a xs) /\ (∃ ys, SqB t2 K H1 b ys) /\ R (Akf t1 t2 K a b) H1
theorem Pk (t1 t2 : Bool) (hg : Gl X "zip") (hm : X.mg "zip" = none) (ha : PA X [a, b] ta) (hs : starEach [a, b] X.env = [(false, eval a X.env), (false, eval b X.env)] := by rfl) (hs2 : starEach [b] X.env = [(false, eval b X.env)] := by rfl) :
    PI X (.Tuple el x1 tp) (.Call (.Name "zip" p) [a, b] [] pos) (Ah5 t1 t2 X.K ta) := by
  intro pins s σ H R I h
  refine Call_ (Mh I hg hm boot_zip (PyProof.Rows.callWith_type1 (thn (ha pos pins s σ H _ I h) fun us s1 ⟨vs, H1, I1, r1, q1⟩ => ?_) (by rw [hs, hs2]) (by rw [hs2]; rfl)))
  obtain ⟨u, v, rfl, ⟨xs, hqx⟩, ⟨ys, hqy⟩, q⟩ := q1
  obtain ⟨v1, v2, rfl, r1, r2⟩ := vals2 r1
  cases r1
  cases r2
  obtain ⟨its, rx, px⟩ := I1.sqB hqx
  obtain ⟨its2, ry, py⟩ := I1.sqB hqy
  have lt1 : u < s1.heap.objs.size := by
    cases t1
    . obtain ⟨o, e, _⟩ := (show s1.heap.IsList u _ from px)
      exact Heap.lt_size e
    . obtain ⟨o, e, _⟩ := (show s1.heap.IsTuple u _ from px)
      exact Heap.lt_size e
  have lt2 : v < s1.heap.objs.size := by
    cases t2
    . obtain ⟨o, e, _⟩ := (show s1.heap.IsList v _ from py)
      exact Heap.lt_size e
    . obtain ⟨o, e, _⟩ := (show s1.heap.IsTuple v _ from py)
      exact Heap.lt_size e
  refine Ab9 px py fun h' hz hTI hTO hi1 hi2 hk => ?_
  have I2 : Inv X pins σ H1 { s1 with heap := h' } := I1.kept (t' := s1.toks) fun c o' e => hk c o' e
  refine wpAny_pyIter_zip hz ⟨s1.heap.objs.size + 4, [s1.heap.objs.size + 4, s1.heap.objs.size + 2, s1.heap.objs.size + 3, s1.heap.objs.size, s1.heap.objs.size + 1], _, _, H1, rfl, I2, Ade t1 t2 u v _ _ _ _ _ (zipApart_new lt1 lt2), ⟨hz, hTI, ⟨_, _, hTO⟩, hi1, hi2⟩, fun c hcm => ?_, q⟩
  have hge : s1.heap.objs.size <= c := by
    simp only [List.mem_cons, List.not_mem_nil, or_false] at hcm
    rcases hcm with rfl | rfl | rfl | rfl | rfl
    . exact Nat.le_add_right _ 4
    . exact Nat.le_add_right _ 2
    . exact Nat.le_add_right _ 3
    . exact Nat.le_refl _
    . exact Nat.le_add_right _ 1
  exact I1.fpOk hge (I1.hok.fresh hge)
end
theorem Ck {t1 t2 : Bool} {K : PySem.W.Frag} {ta : TA} {σ : St} {H : Hp} {R : It -> Hp -> Prop} : Ah5 t1 t2 K ta σ H R = ta σ H (fun vs H1 => ∃ a b, vs = [.ref a, .ref b] /\ (∃ xs, SqB t1 K H1 a xs) /\ (∃ ys, SqB t2 K H1 b ys) /\ R (Akf t1 t2 K a b) H1) := rfl
theorem Ag9 {t1 t2 : Bool} {K : PySem.W.Frag} {σ : St} {H : Hp} {g : TG} {tb : TS} {D : Ends} {a b : Addr} {xs ys : List V} (n : Nat) (hn : n = min xs.length ys.length) (Pv : Nat -> St -> Hp -> Prop) (h0 : Pv 0 σ H)
    (hw : ∀ i σ H, Pv i σ H -> SqB t1 K H a xs /\ SqB t2 K H b ys)
    (hs : ∀ i σ H p, i < n -> Pv i σ H -> H p = none -> g (.ref p) σ (upd H p (.tup [xs.getD i .non, ys.getD i .non])) fun σ2 H2 => tb { D with nx := Pv (i + 1), ct := Pv (i + 1), bk := D.nx } σ2 H2) (hd : ∀ σ H, Pv n σ H -> D.nx σ H) : FI (Akf t1 t2 K a b) g tb D σ H := by
  refine ⟨fun i m σ H => m = n - i /\ i <= n /\ Pv i σ H, ⟨n, by simp, Nat.zero_le _, h0⟩, ?_⟩
  rintro i m σ H ⟨rfl, hi, p⟩
  obtain ⟨wx, wy⟩ := hw _ _ _ p
  by_cases he : i = n
  . subst he
    exact .inl ⟨⟨xs, ys, wx, wy, by omega⟩, hd _ _ p⟩
  . have hl : i < n := by omega
    have ex : xs[i]? = some (xs.getD i .non) := by rw [List.getD_eq_getElem?_getD, List.getElem?_eq_getElem (by omega)]; rfl
    have ey : ys[i]? = some (ys.getD i .non) := by rw [List.getD_eq_getElem?_getD, List.getElem?_eq_getElem (by omega)]; rfl
    refine .inr ⟨⟨xs, ys, _, _, wx, wy, ex, ey⟩, Pv (i + 1), fun σ' H' p' => ⟨n - (i + 1), by omega, rfl, hl, p'⟩, fun x H3 y => ?_⟩
    obtain ⟨q, u, v, hu, hv, hq, rfl, rfl⟩ := y
    have eu := hu _ wx
    have ev := hv _ wy
    rw [ex] at eu
    rw [ey] at ev
    cases eu
    cases ev
    exact hs i σ H q hl p hq
end L2
namespace L2.S
open PySem L2
@[irreducible] def PE (X : Cx) (e : Expr) (t : TE) : Prop := L2.PE X e t
@[irreducible] def PT (X : Cx) (e : Expr) (t : TT) : Prop := L2.PT X e t
@[irreducible] def PW (X : Cx) (e : Expr) (t : TT) : Prop := L2.PW X e t
@[irreducible] def PA (X : Cx) (es : List Expr) (t : TA) : Prop := L2.PA X es t
@[irreducible] def PS (X : Cx) (st : Stmt) (t : TS) : Prop := L2.PS X st t
@[irreducible] def PSs (X : Cx) (st : List Stmt) (t : TS) : Prop := L2.PSs X st t
@[irreducible] def PG (X : Cx) (target : Expr) (t : TG) : Prop := L2.PG X target t
@[irreducible] def PGs (X : Cx) (ts : List Expr) (t : TGs) : Prop := L2.PGs X ts t
@[irreducible] def PI (X : Cx) (tg iter : Expr) (wi : TI) : Prop := L2.PI X tg iter wi
@[irreducible] def PO (X : Cx) (e : Option Expr) (t : TO) : Prop := L2.PO X e t
@[irreducible] def PTs (X : Cx) (ifs : List Expr) (t : TT) : Prop := L2.PTs X ifs t
theorem out {X : Cx} {b : List Stmt} {t : TS} (h : PSs X b t) : L2.PSs X b t := by unfold PSs at h; exact h
theorem pv : ∀ {X : Cx} (i : Nat) {x : Str} {pos : Pos}, autoParam ((Cx.N X)[i]? = Option.some x) L2.pv._auto_1 -> autoParam (Vis (Env.scope (Cx.env X)) x) L2.pv._auto_2 -> autoParam ((x == ("__debug__" : Str)) = Bool.false) L2.pv._auto_3 -> autoParam ((x == ("__classdict__" : Str)) = Bool.false) L2.pv._auto_4 -> S.PE X (Expr.Name x pos) (Af0 i) := by with_unfolding_all exact @L2.pv
theorem Jf : ∀ {X : Cx} {x : Str} {v : V} {u : Value} {pos : Pos}, Gl X x -> Cx.mg X x = Option.none -> bootBuiltins x = Option.some u -> RelV v u -> autoParam (x ≠ ("__name__" : Str)) L2.Jf._auto_1 -> autoParam ((x == ("__debug__" : Str)) = Bool.false) L2.Jf._auto_2 -> S.PE X (Expr.Name x pos) (tC v) := by with_unfolding_all exact @L2.Jf
theorem Qq : ∀ {X : Cx} {x : Str} {v : V} {u : Value} {pos : Pos}, Gl X x -> Cx.mg X x = Option.some u -> RelV v u -> autoParam ((x == ("__debug__" : Str)) = Bool.false) L2.Qq._auto_1 -> S.PE X (Expr.Name x pos) (tC v) := by with_unfolding_all exact @L2.Qq
theorem Ab : ∀ {X : Cx} {i : Int} {j : Nat} {pos : Pos}, S.PE X (Expr.Constant (Const.int i) j pos) (tC (V.int i)) := by with_unfolding_all exact @L2.Ab
theorem Nx : ∀ {X : Cx} {b : Bool} {j : Nat} {pos : Pos}, S.PE X (Expr.Constant (Const.bool b) j pos) (tC (V.bl b)) := by with_unfolding_all exact @L2.Nx
theorem Yl : ∀ {X : Cx} {j : Nat} {pos : Pos}, S.PE X (Expr.Constant Const.none j pos) (tC V.non) := by with_unfolding_all exact @L2.Yl
theorem Wo : ∀ {X : Cx} {x : Str} {j : Nat} {pos : Pos}, S.PE X (Expr.Constant (Const.str x) j pos) (tC (V.str x)) := by with_unfolding_all exact @L2.Wo
theorem Ah : ∀ {X : Cx} {a b : Expr} {ta tb : TE} {pos : Pos} {op : Operator} {r : R2}, OpR X (binaryOp op) r -> S.PE X a ta -> S.PE X b tb -> S.PE X (Expr.BinOp a op b pos) (tOp r ta tb) := by with_unfolding_all exact @L2.Ah
theorem Aao : ∀ {X : Cx} {a : Expr} {ta : TE} {pos : Pos}, S.PE X a ta -> S.PE X (Expr.UnaryOp UnaryOp.Not a pos) (Ahf ta) := by with_unfolding_all exact @L2.Aao
theorem Dp : ∀ {X : Cx} {a : Expr} {ta : TE} {pos : Pos} {op : UnaryOp} {r : V -> Hp -> VK -> Prop}, UnR X (unaryOp op) r -> S.PE X a ta -> S.PE X (Expr.UnaryOp op a pos) (tUn r ta) := by with_unfolding_all exact @L2.Dp
theorem Cy : ∀ {X : Cx} {a b : Expr} {ta tb : TE} {pos : Pos} {op : CmpOp} {r : R2}, OpR X (compareOp op) r -> S.PE X a ta -> S.PE X b tb -> behindInMarks op b = Bool.false -> S.PE X (Expr.Compare a [op] [b] pos) (tOp r ta tb) := by with_unfolding_all exact @L2.Cy
theorem Mx : ∀ {X : Cx} {a b : Expr} {ta tb : TE} {pos : Pos} {rest : List Expr}, S.PE X a ta -> S.PE X (Expr.BoolOp BoolOp.And (b :: rest) pos) tb -> S.PE X (Expr.BoolOp BoolOp.And (a :: b :: rest) pos) (Ag5 ta tb) := by with_unfolding_all exact @L2.Mx
theorem Ahc : ∀ {X : Cx} {a b : Expr} {ta tb : TE} {pos : Pos} {rest : List Expr}, S.PE X a ta -> S.PE X (Expr.BoolOp BoolOp.Or (b :: rest) pos) tb -> S.PE X (Expr.BoolOp BoolOp.Or (a :: b :: rest) pos) (Ak1 ta tb) := by with_unfolding_all exact @L2.Ahc
theorem Mp : ∀ {X : Cx} {a : Expr} {pos : Pos} {op : BoolOp} {t : TE}, S.PE X a t -> S.PE X (Expr.BoolOp op [a] pos) t := by with_unfolding_all exact @L2.Mp
theorem K1 : ∀ {X : Cx} {a b : Expr} {ta tb : TE} {pos : Pos} {tA : TT} {c : Expr}, S.PT X c tA -> S.PE X a ta -> S.PE X b tb -> S.PE X (Expr.IfExp c a b pos) (tIf tA ta tb) := by with_unfolding_all exact @L2.K1
theorem Aw : ∀ {X : Cx} {es : List Expr} {t : TA} {pos : Pos} {x1 : Nat}, S.PA X es t -> S.PE X (Expr.Tuple es x1 pos) (Ak4 t) := by with_unfolding_all exact @L2.Aw
theorem Gb : ∀ {X : Cx} {es : List Expr} {t : TA} {pos : Pos}, S.PA X es t -> S.PE X (Expr.List es pos) (Akn t) := by with_unfolding_all exact @L2.Gb
theorem Ac8 : ∀ {X : Cx} {e st : Expr} {te tst : TE} {pos p2 : Pos}, S.PE X e te -> S.PE X st tst -> S.PE X (Expr.Subscript e (Expr.Slice Option.none Option.none (Option.some st) p2) pos) (Ak5 (Cx.K X) te tst) := by with_unfolding_all exact @L2.Ac8
theorem Ru : ∀ {X : Cx} {e st : Expr} {te tst : TE} {pos p2 : Pos}, S.PE X e te -> S.PE X st tst -> S.PE X (Expr.Subscript e (Expr.Slice Option.none Option.none (Option.some st) p2) pos) (Aht (Cx.K X) te tst) := by with_unfolding_all exact @L2.Ru
theorem K6 : ∀ {X : Cx} {e : Expr} {te : TE} {lo hi : Option Expr} {tl th : TO} {pos p2 : Pos} {r : V -> Option Int -> Option Int -> Hp -> VK -> Prop}, SlR X r -> S.PE X e te -> S.PO X lo tl -> S.PO X hi th -> S.PE X (Expr.Subscript e (Expr.Slice lo hi Option.none p2) pos) (tSl r te tl th) := by with_unfolding_all exact @L2.K6
theorem Nr : ∀ {X : Cx}, S.PO X Option.none W7 := by with_unfolding_all exact @L2.Nr
theorem Ni : ∀ {X : Cx} {e : Expr} {te : TE}, S.PE X e te -> S.PO X (Option.some e) (Agm te) := by with_unfolding_all exact @L2.Ni
theorem Az : ∀ {X : Cx} {a b : Expr} {ta tb : TE} {pos : Pos} {r : R2}, IxR X r -> S.PE X a ta -> S.PE X b tb -> Acv b -> S.PE X (Expr.Subscript a b pos) (tOp r ta tb) := by with_unfolding_all exact @L2.Az
theorem Ja : ∀ {X : Cx} {elt tg iter : Expr} {ifs : List Expr} {scope : Scope} {pos : Pos} {wi : TI} {g : TG} {tt : TT} {te : TE} {ts : List Str} {fs : List (Nat × Str)}, Cx.calm X = Bool.true -> Cj X ts fs scope -> S.PI X tg iter wi -> (∀ (ex : List Addr) (s : Shared) (H : Hp), S.PG (cxC X (cpN ts fs) scope ex s H) tg g) -> (∀ (ex : List Addr) (s : Shared) (H : Hp), S.PTs (cxC X (cpN ts fs) scope ex s H) ifs tt) -> (∀ (ex : List Addr) (s : Shared) (H : Hp), S.PE (cxC X (cpN ts fs) scope ex s H) elt te) -> autoParam (∀ (x : Value), foldedSetIterable iter (Cx.env X) x = Pure.pure x) L2.Ja._auto_1 -> S.PE X (Expr.ListComp elt [{ target := tg, iter := iter, ifs := ifs, is_async := (0 : Int) }] scope pos) (Za (List.length ts) fs wi g tt te) := by with_unfolding_all exact @L2.Ja
theorem J6 : ∀ {P : Program} {w : World} {K : W.Frag} {mg : Str -> Option Value} {base : Heap} {N : List Str} {qual : Str} {scope : Scope} {f : Addr} {cd : Value} {A : Around} {outer : List Env} {s0 : Shared} {H0 : Hp} {E : XK} {k : Nat} {x : Str} {ps : List Str} {sp : Sp} {p pos : Pos} {e : Expr} {es : List Expr} {t : TA}, Afw P w K mg base k x ps sp -> M7 k (Around.deeper A (PyProof.Rows.envOfC qual scope (Array.size (Heap.objs (Shared.heap s0))) f cd)) -> S.PA (Rg (CXE P w) P w K mg base N qual scope f cd A outer s0 H0 E) (e :: es) t -> autoParam (Gl (Rg (CXE P w) P w K mg base N qual scope f cd A outer s0 H0 E) x) L2.J6._auto_1 -> autoParam ((x == ("__debug__" : Str)) = Bool.false) L2.J6._auto_2 -> autoParam (starEach (e :: es) (PyProof.Rows.envOfC qual scope (Array.size (Heap.objs (Shared.heap s0))) f cd) = (Bool.false, eval e (PyProof.Rows.envOfC qual scope (Array.size (Heap.objs (Shared.heap s0))) f cd)) :: starEach es (PyProof.Rows.envOfC qual scope (Array.size (Heap.objs (Shared.heap s0))) f cd)) L2.J6._auto_3 -> autoParam ((List.any (backTo pos (starEach es (PyProof.Rows.envOfC qual scope (Array.size (Heap.objs (Shared.heap s0))) f cd))) fun (x : Bool × Sem Value) ↦ Prod.fst x) = Bool.false) L2.J6._auto_4 -> S.PE (Rg (CXE P w) P w K mg base N qual scope f cd A outer s0 H0 E) (Expr.Call (Expr.Name x p) (e :: es) [] pos) (Wy sp [] E t) := by with_unfolding_all exact @L2.J6
theorem Cr : ∀ {X : Cx} {e : Expr} {es : List Expr} {t : TA} {x : Str} {p pos : Pos} {id : String} {r : List V -> Hp -> VK -> Prop}, Ji X (Value.builtin id) r -> Gl X x -> Cx.mg X x = Option.none -> bootBuiltins x = Option.some (Value.builtin id) -> S.PA X (e :: es) t -> autoParam (Dr e = Bool.true) L2.Cr._auto_1 -> autoParam (List.all es Dr = Bool.true) L2.Cr._auto_2 -> autoParam (x ≠ ("__name__" : Str)) L2.Cr._auto_3 -> autoParam ((x == ("__debug__" : Str)) = Bool.false) L2.Cr._auto_4 -> S.PE X (Expr.Call (Expr.Name x p) (e :: es) [] pos) (tCB r t) := by with_unfolding_all exact @L2.Cr
theorem Dq : ∀ {X : Cx} {e : Expr} {es : List Expr} {t : TA} {x : Str} {p pos : Pos} {T : String} {r : List V -> Hp -> VK -> Prop}, Ji X (Value.type T) r -> Gl X x -> Cx.mg X x = Option.none -> bootBuiltins x = Option.some (Value.type T) -> S.PA X (e :: es) t -> autoParam (Dr e = Bool.true) L2.Dq._auto_1 -> autoParam (List.all es Dr = Bool.true) L2.Dq._auto_2 -> autoParam (x ≠ ("__name__" : Str)) L2.Dq._auto_3 -> autoParam ((x == ("__debug__" : Str)) = Bool.false) L2.Dq._auto_4 -> S.PE X (Expr.Call (Expr.Name x p) (e :: es) [] pos) (tCB r t) := by with_unfolding_all exact @L2.Dq
theorem Am : ∀ {X : Cx} {e : Expr} {es : List Expr} {t : TA} {x : Str} {p pos : Pos} {k : Nat} {ps : List Str} {sp : Sp}, Cal (Cx.prog X) (Cx.w X) (Cx.K X) (Cx.mg X) (Cx.base X) k x ps sp -> M7 k (Cx.A X) -> S.PA X (e :: es) t -> autoParam (Dr e = Bool.true) L2.Am._auto_1 -> autoParam (List.all es Dr = Bool.true) L2.Am._auto_2 -> autoParam (Gl X x) L2.Am._auto_3 -> autoParam ((x == ("__debug__" : Str)) = Bool.false) L2.Am._auto_4 -> S.PE X (Expr.Call (Expr.Name x p) (e :: es) [] pos) (Wy sp [] E0 t) := by with_unfolding_all exact @L2.Am
theorem Aab : ∀ {X : Cx} {i k : Nat} {a : Addr} {x y : Str} {ps : List Str} {sp : Sp} {p pos : Pos} {e : Expr} {es : List Expr} {t : TA}, Cal (Cx.prog X) (Cx.w X) (Cx.K X) (Cx.mg X) (Cx.base X) k y ps sp -> Cx.mg X y = Option.some (Value.ref a) -> M7 k (Cx.A X) -> S.PE X (Expr.Name x p) (Af0 i) -> S.PA X (e :: es) t -> autoParam (Dr e = Bool.true) L2.Aab._auto_1 -> autoParam (List.all es Dr = Bool.true) L2.Aab._auto_2 -> S.PE X (Expr.Call (Expr.Name x p) (e :: es) [] pos) (tCV i a sp E0 t) := by with_unfolding_all exact @L2.Aab
theorem Mf : ∀ {X : Cx} {x : Str} {v : V} {pos : Pos}, Gl X x -> (∃ (u : Value), Cx.mg X x = Option.some u /\ RelV v u) -> autoParam ((x == ("__debug__" : Str)) = Bool.false) L2.Mf._auto_1 -> S.PE X (Expr.Name x pos) (tC v) := by with_unfolding_all exact @L2.Mf
theorem Om : ∀ {X : Cx} {o e : Expr} {es : List Expr} {to : TE} {t : TA} {name : Str} {apos cpos : Pos} {T id : String} {r : V -> List V -> Hp -> VK -> Prop}, PlainAttrs T -> Slot T name id -> typeOf (Value.builtin id) = Pure.pure (Value.type "method_descriptor") -> MtR X id r -> S.PE X o to -> S.PA X (e :: es) t -> autoParam (attributeBase o name (Cx.env X) (eval o (Cx.env X)) = eval o (Cx.env X)) L2.Om._auto_1 -> autoParam ((((List.all (backTo cpos (starEach (e :: es) (Cx.env X))) fun (x : Bool × Sem Value) ↦ !Prod.fst x) && List.all (backToKw cpos (keywordEach [] (Cx.env X))) fun (x : Option Str × Sem Value) ↦ Option.isSome (Prod.fst x)) && Decidable.decide ((List.length (e :: es) + List.length ([] : List Keyword) + if List.isEmpty ([] : List Keyword) = Bool.true then (0 : Nat) else (1 : Nat)) < (30 : Nat))) = Bool.true) L2.Om._auto_2 -> autoParam ((Pos.endLine apos == Pos.line cpos) = Bool.true) L2.Om._auto_3 -> autoParam (starEach (e :: es) (Cx.env X) = (Bool.false, eval e (Cx.env X)) :: starEach es (Cx.env X)) L2.Om._auto_4 -> autoParam ((List.any (backTo cpos (starEach es (Cx.env X))) fun (x : Bool × Sem Value) ↦ Prod.fst x) = Bool.false) L2.Om._auto_5 -> S.PE X (Expr.Call (Expr.Attribute o name apos) (e :: es) [] cpos) (tBM (Cx.K X) T r to t) := by with_unfolding_all exact @L2.Om
theorem V9 : ∀ {X : Cx} {o : Expr} {to : TE} {name : Str} {apos cpos : Pos} {T id : String} {r : V -> List V -> Hp -> VK -> Prop}, PlainAttrs T -> Slot T name id -> typeOf (Value.builtin id) = Pure.pure (Value.type "method_descriptor") -> MtR X id r -> S.PE X o to -> autoParam (attributeBase o name (Cx.env X) (eval o (Cx.env X)) = eval o (Cx.env X)) L2.V9._auto_1 -> autoParam ((Pos.endLine apos == Pos.line cpos) = Bool.true) L2.V9._auto_2 -> S.PE X (Expr.Call (Expr.Attribute o name apos) [] [] cpos) (Ak9 (Cx.K X) T r to) := by with_unfolding_all exact @L2.V9
theorem T5 : ∀ {X : Cx} {a : Expr} {ta : TA} {el : List Expr} {x1 : Nat} {tp p pos : Pos}, Gl X (("enumerate" : Str)) -> Cx.mg X (("enumerate" : Str)) = Option.none -> S.PA X [a] ta -> autoParam (starEach [a] (Cx.env X) = [(Bool.false, eval a (Cx.env X))]) L2.T5._auto_1 -> S.PI X (Expr.Tuple el x1 tp) (Expr.Call (Expr.Name (("enumerate" : Str)) p) [a] [] pos) (iEn (Cx.K X) ta) := by with_unfolding_all exact @L2.T5
theorem Pk : ∀ {X : Cx} {a b : Expr} {ta : TA} {el : List Expr} {x1 : Nat} {tp p pos : Pos} (t1 t2 : Bool), Gl X (("zip" : Str)) -> Cx.mg X (("zip" : Str)) = Option.none -> S.PA X [a, b] ta -> autoParam (starEach [a, b] (Cx.env X) = [(Bool.false, eval a (Cx.env X)), (Bool.false, eval b (Cx.env X))]) L2.Pk._auto_1 -> autoParam (starEach [b] (Cx.env X) = [(Bool.false, eval b (Cx.env X))]) L2.Pk._auto_2 -> S.PI X (Expr.Tuple el x1 tp) (Expr.Call (Expr.Name (("zip" : Str)) p) [a, b] [] pos) (Ah5 t1 t2 (Cx.K X) ta) := by with_unfolding_all exact @L2.Pk
theorem Aaj : ∀ {X : Cx} {a : Expr} {ta : TA} {tg : Expr} {p pos : Pos}, Gl X (("reversed" : Str)) -> Cx.mg X (("reversed" : Str)) = Option.none -> S.PA X [a] ta -> autoParam (starEach [a] (Cx.env X) = [(Bool.false, eval a (Cx.env X))]) L2.Aaj._auto_1 -> S.PI X tg (Expr.Call (Expr.Name (("reversed" : Str)) p) [a] [] pos) (iRv (Cx.K X) ta) := by with_unfolding_all exact @L2.Aaj
theorem Lk : ∀ {X : Cx} {tg a b c : Expr} {ta : TA} {p pos : Pos}, Gl X (("range" : Str)) -> Cx.mg X (("range" : Str)) = Option.none -> S.PA X [a, b, c] ta -> autoParam (Dr a = Bool.true) L2.Lk._auto_1 -> autoParam (List.all [b, c] Dr = Bool.true) L2.Lk._auto_2 -> S.PI X tg (Expr.Call (Expr.Name (("range" : Str)) p) [a, b, c] [] pos) (Ahw ta) := by with_unfolding_all exact @L2.Lk
theorem Gk : ∀ {X : Cx} {tg a : Expr} {ta : TA} {p pos : Pos}, Gl X (("range" : Str)) -> Cx.mg X (("range" : Str)) = Option.none -> S.PA X [a] ta -> autoParam (starEach [a] (Cx.env X) = [(Bool.false, eval a (Cx.env X))]) L2.Gk._auto_1 -> S.PI X tg (Expr.Call (Expr.Name (("range" : Str)) p) [a] [] pos) (Ah0 ta) := by with_unfolding_all exact @L2.Gk
theorem Kf : ∀ {X : Cx} {tg a b : Expr} {ta : TA} {p pos : Pos}, Gl X (("range" : Str)) -> Cx.mg X (("range" : Str)) = Option.none -> S.PA X [a, b] ta -> autoParam (starEach [a, b] (Cx.env X) = [(Bool.false, eval a (Cx.env X)), (Bool.false, eval b (Cx.env X))]) L2.Kf._auto_1 -> autoParam (starEach [b] (Cx.env X) = [(Bool.false, eval b (Cx.env X))]) L2.Kf._auto_2 -> S.PI X tg (Expr.Call (Expr.Name (("range" : Str)) p) [a, b] [] pos) (Aha ta) := by with_unfolding_all exact @L2.Kf
theorem Rv : ∀ {X : Cx} {tg l : Expr} {tl : TE}, S.PE X l tl -> S.PI X tg l (Agn (Cx.K X) tl) := by with_unfolding_all exact @L2.Rv
theorem Le : ∀ {X : Cx} {tg l : Expr} {tl : TE}, S.PE X l tl -> S.PI X tg l (Alk (Cx.K X) tl) := by with_unfolding_all exact @L2.Le
theorem Acf : ∀ {X : Cx} {tg l : Expr} {tl : TE}, S.PE X l tl -> S.PI X tg l (Alf (Cx.K X) tl) := by with_unfolding_all exact @L2.Acf
theorem Ht : ∀ {X : Cx}, S.PTs X [] Zr := by with_unfolding_all exact @L2.Ht
theorem Aj : ∀ {X : Cx} {a b : Expr} {ta tb : TE} {pos : Pos} {op : CmpOp} {r : R2}, OpR X (compareOp op) r -> S.PE X a ta -> S.PE X b tb -> behindInMarks op b = Bool.false -> S.PT X (Expr.Compare a [op] [b] pos) (Ahk (tOp r ta tb)) := by with_unfolding_all exact @L2.Aj
theorem Hf : ∀ {X : Cx} {a : Expr} {pos : Pos} {tA : TT}, S.PT X a tA -> S.PT X (Expr.UnaryOp UnaryOp.Not a pos) (Ale tA) := by with_unfolding_all exact @L2.Hf
theorem Mv : ∀ {X : Cx} {a b : Expr} {pos : Pos} {tA tB' : TT} {rest : List Expr}, S.PT X a tA -> S.PW X (Expr.BoolOp BoolOp.And (b :: rest) pos) tB' -> S.PW X (Expr.BoolOp BoolOp.And (a :: b :: rest) pos) (Aks tA tB') := by with_unfolding_all exact @L2.Mv
theorem Jq : ∀ {X : Cx} {a b : Expr} {pos : Pos} {tA tB' : TT} {rest : List Expr}, S.PT X a tA -> S.PW X (Expr.BoolOp BoolOp.Or (b :: rest) pos) tB' -> S.PW X (Expr.BoolOp BoolOp.Or (a :: b :: rest) pos) (tOr tA tB') := by with_unfolding_all exact @L2.Jq
theorem Jy : ∀ {X : Cx} {a : Expr} {pos : Pos} {tA : TT}, S.PT X a tA -> S.PW X (Expr.BoolOp BoolOp.And [a] pos) tA := by with_unfolding_all exact @L2.Jy
theorem Iv : ∀ {X : Cx} {a : Expr} {pos : Pos} {tA : TT}, S.PT X a tA -> S.PW X (Expr.BoolOp BoolOp.Or [a] pos) tA := by with_unfolding_all exact @L2.Iv
theorem Ju : ∀ {X : Cx} {e : Expr} {t : TT}, S.PW X e t -> S.PT X e t := by with_unfolding_all exact @L2.PW.pt
theorem Gp : ∀ {X : Cx} {e : Expr} {t : TE}, S.PE X e t -> autoParam (∀ (whole : Sem Value), isTrue e (Cx.env X) whole = do let v <- whole; standAt (Expr.pos e); holding [v] (truthy v)) L2.Gp._auto_1 -> S.PT X e (tB t) := by with_unfolding_all exact @L2.Gp
theorem Ac : ∀ {X : Cx}, S.PA X [] Akt := by with_unfolding_all exact @L2.Ac
theorem Aa : ∀ {X : Cx} {e : Expr} {es : List Expr} {te : TE} {t : TA}, S.PE X e te -> S.PA X es t -> autoParam (Dr e = Bool.true) L2.Aa._auto_1 -> S.PA X (e :: es) (Ad8 te t) := by with_unfolding_all exact @L2.Aa
theorem Ax : ∀ {X : Cx}, S.PSs X [] Aid := by with_unfolding_all exact @L2.Ax
theorem Ae : ∀ {X : Cx} {st : Stmt} {t : TS}, S.PS X st t -> S.PSs X [st] t := by with_unfolding_all exact @L2.Ae
theorem Ad : ∀ {X : Cx} {st : Stmt} {rest : List Stmt} {t u : TS}, S.PS X st t -> S.PSs X rest u -> S.PSs X (st :: rest) (Aki t u) := by with_unfolding_all exact @L2.Ad
theorem Ar : ∀ {X : Cx} {pos : Pos} {i : Nat} {x : Str}, List.Nodup (Cx.N X) -> (Cx.N X)[i]? = Option.some x -> Loc (Env.scope (Cx.env X)) x -> ∀ (hf : autoParam (Cx.fn X x = Bool.true \/ List.lookup x (Scope.names (Env.scope (Cx.env X))) = Option.some NameKind.local) L2.Ar._auto_1), S.PG X (Expr.Name x pos) (R5 i) := by with_unfolding_all exact @L2.Ar
theorem Gf : ∀ {X : Cx}, S.PGs X [] Akg := by with_unfolding_all exact @L2.Gf
theorem Bj : ∀ {X : Cx} {e : Expr} {es : List Expr} {t : TG} {u : TGs}, S.PG X e t -> S.PGs X es u -> autoParam (List.map (fun (x : Bool × (Value -> Sem Unit)) ↦ Prod.snd x) (assignEach (e :: es) (Cx.env X)) = assign e (Cx.env X) :: List.map (fun (x : Bool × (Value -> Sem Unit)) ↦ Prod.snd x) (assignEach es (Cx.env X))) L2.Bj._auto_1 -> S.PGs X (e :: es) (Xb t u) := by with_unfolding_all exact @L2.Bj
theorem Ql : ∀ {X : Cx} {es : List Expr} {k : Nat} {pos : Pos} {t : TGs} (K : W.Frag) (n : Nat), Cx.K X = K -> Cx.calm X = Bool.true -> S.PGs X es t -> autoParam (List.length (assignEach es (Cx.env X)) = n) L2.Ql._auto_1 -> autoParam (List.findIdx? (fun (x : Bool × (Value -> Sem Unit)) ↦ Prod.fst x) (assignEach es (Cx.env X)) = Option.none) L2.Ql._auto_2 -> S.PG X (Expr.Tuple es k pos) (Aip K n t) := by with_unfolding_all exact @L2.Ql
theorem Gu : ∀ {X : Cx} {pos : Pos} {es : List Expr} {k : Nat} {t : TGs} {n : Nat}, Cx.calm X = Bool.true -> S.PGs X es t -> autoParam (List.length (assignEach es (Cx.env X)) = n) L2.Gu._auto_1 -> autoParam (List.findIdx? (fun (x : Bool × (Value -> Sem Unit)) ↦ Prod.fst x) (assignEach es (Cx.env X)) = Option.none) L2.Gu._auto_2 -> S.PG X (Expr.Tuple es k pos) (Aip (Cx.K X) n t) := by with_unfolding_all exact @L2.Gu
theorem J8 : ∀ {X : Cx} {pos : Pos} {o i : Expr} {to ti : TE} {t : Air}, S.PE X o to -> S.PE X i ti -> Aln X t -> autoParam (∀ (v : Value), assign (Expr.Subscript o i pos) (Cx.env X) v = do let ov <- holding [v] (eval o (Cx.env X)); let iv <- holding [v, ov] (eval i (Cx.env X)); standAt pos; holding [v, ov, iv] (setItem ov iv v); release [v, ov, iv] []) L2.J8._auto_1 -> S.PG X (Expr.Subscript o i pos) (Ak0 to ti t) := by with_unfolding_all exact @L2.J8
theorem Oz : ∀ {X : Cx} {st : Stmt}, S.PS X st Afm := by with_unfolding_all exact @L2.Oz
theorem Nh : ∀ {X : Cx} {elt tg iter : Expr} {ifs : List Expr} {scope : Scope} {pos : Pos} {wi : TI} {g : TG} {tt : TT} {te : TE} {ts : List Str} {fs : List (Nat × Str)} {g' : TG} {y : Str} {py spos : Pos}, Cx.calm X = Bool.true -> Cj X ts fs scope -> S.PI X tg iter wi -> (∀ (ex : List Addr) (s : Shared) (H : Hp), S.PG (cxC X (cpN ts fs) scope ex s H) tg g) -> (∀ (ex : List Addr) (s : Shared) (H : Hp), S.PTs (cxC X (cpN ts fs) scope ex s H) ifs tt) -> (∀ (ex : List Addr) (s : Shared) (H : Hp), S.PE (cxC X (cpN ts fs) scope ex s H) elt te) -> S.PG X (Expr.Name y py) g' -> autoParam (swapsWith (Expr.ListComp elt [{ target := tg, iter := iter, ifs := ifs, is_async := (0 : Int) }] scope pos) (Option.some (Expr.Name y py)) (Pos.line spos) (Cx.env X) = Pure.pure Bool.true) L2.Nh._auto_1 -> autoParam (∀ (x : Value), foldedSetIterable iter (Cx.env X) x = Pure.pure x) L2.Nh._auto_2 -> S.PS X (Stmt.Assign [Expr.Name y py] (Expr.ListComp elt [{ target := tg, iter := iter, ifs := ifs, is_async := (0 : Int) }] scope pos) spos) (Agl (Za (List.length ts) fs wi g tt te) g') := by with_unfolding_all exact @L2.Nh
theorem Ai : ∀ {X : Cx} {pos : Pos} {i : Nat} {x : Str} {e : Expr} {te : TE} {pos' : Pos}, List.Nodup (Cx.N X) -> (Cx.N X)[i]? = Option.some x -> Loc (Env.scope (Cx.env X)) x -> S.PE X e te -> autoParam (swapsWith e (Option.some (Expr.Name x pos')) (Pos.line pos) (Cx.env X) = Pure.pure Bool.false) L2.Ai._auto_1 -> autoParam (Cx.fn X x = Bool.true \/ List.lookup x (Scope.names (Env.scope (Cx.env X))) = Option.some NameKind.local) L2.Ai._auto_2 -> S.PS X (Stmt.Assign [Expr.Name x pos'] e pos) (Agl te (R5 i)) := by with_unfolding_all exact @L2.Ai
theorem Ks : ∀ {X : Cx} {pos : Pos} {i j : Nat} {x y : Str} {a b : Expr} {ta : TA} {px py pt : Pos} {kt k2 : Nat} {pt2 : Pos}, Cx.calm X = Bool.true -> List.Nodup (Cx.N X) -> (Cx.N X)[i]? = Option.some x -> (Cx.N X)[j]? = Option.some y -> i ≠ j -> List.lookup x (Scope.names (Env.scope (Cx.env X))) = Option.some NameKind.local -> List.lookup y (Scope.names (Env.scope (Cx.env X))) = Option.some NameKind.local -> S.PA X [a, b] ta -> swappedStores [Expr.Tuple [Expr.Name x px, Expr.Name y py] kt pt] (Expr.Tuple [a, b] k2 pt2) (Cx.env X) = Pure.pure (Option.some [x, y]) -> autoParam (swapsWithSole [Expr.Tuple [Expr.Name x px, Expr.Name y py] kt pt] (Expr.Tuple [a, b] k2 pt2) (Pos.line pos) (Cx.env X) = Pure.pure Bool.false) L2.Ks._auto_1 -> S.PS X (Stmt.Assign [Expr.Tuple [Expr.Name x px, Expr.Name y py] kt pt] (Expr.Tuple [a, b] k2 pt2) pos) (Ala i j ta) := by with_unfolding_all exact @L2.Ks
theorem Gg : ∀ {X : Cx} {pos : Pos} {tg e : Expr} {te : TE} {g : TG}, S.PE X e te -> S.PG X tg g -> autoParam (swapsWithSole [tg] e (Pos.line pos) (Cx.env X) = Pure.pure Bool.false) L2.Gg._auto_1 -> autoParam (swappedStores [tg] e (Cx.env X) = Pure.pure Option.none) L2.Gg._auto_2 -> autoParam (List.map (fun (x : Bool × (Value -> Sem Unit)) ↦ Prod.snd x) (assignEach [tg] (Cx.env X)) = [assign tg (Cx.env X)]) L2.Gg._auto_3 -> S.PS X (Stmt.Assign [tg] e pos) (Agl te g) := by with_unfolding_all exact @L2.Gg
theorem Al : ∀ {X : Cx} {e : Expr} {te : TE} {pos : Pos}, S.PE X e te -> S.PS X (Stmt.Return (Option.some e) pos) (Akw te) := by with_unfolding_all exact @L2.Al
theorem Ca : ∀ {X : Cx} {t u : TS} {pos : Pos} {c : Expr} {a b : List Stmt} {tc : TT}, S.PT X c tc -> S.PSs X a t -> S.PSs X b u -> S.PS X (Stmt.If c a b pos) (Ako tc t u) := by with_unfolding_all exact @L2.Ca
theorem Iz : ∀ {P : Program} {w : World} {K : W.Frag} {mg : Str -> Option Value} {base : Heap} {N : List Str} {qual : Str} {scope : Scope} {f : Addr} {cd : Value} {A : Around} {outer : List Env} {s0 : Shared} {H0 : Hp} {E : XK} {C : Addr} {x : Str} {np cpos pos : Pos} {e : Expr} {es : List Expr} {t : TA}, Afr K C -> mg x = Option.some (Value.ref C) -> S.PA (Rg (CXE P w) P w K mg base N qual scope f cd A outer s0 H0 E) (e :: es) t -> autoParam (Gl (Rg (CXE P w) P w K mg base N qual scope f cd A outer s0 H0 E) x) L2.Iz._auto_1 -> autoParam ((x == ("__debug__" : Str)) = Bool.false) L2.Iz._auto_2 -> autoParam (starEach (e :: es) (PyProof.Rows.envOfC qual scope (Array.size (Heap.objs (Shared.heap s0))) f cd) = (Bool.false, eval e (PyProof.Rows.envOfC qual scope (Array.size (Heap.objs (Shared.heap s0))) f cd)) :: starEach es (PyProof.Rows.envOfC qual scope (Array.size (Heap.objs (Shared.heap s0))) f cd)) L2.Iz._auto_3 -> autoParam ((List.any (backTo cpos (starEach es (PyProof.Rows.envOfC qual scope (Array.size (Heap.objs (Shared.heap s0))) f cd))) fun (x : Bool × Sem Value) ↦ Prod.fst x) = Bool.false) L2.Iz._auto_4 -> S.PS (Rg (CXE P w) P w K mg base N qual scope f cd A outer s0 H0 E) (Stmt.Raise (Option.some (Expr.Call (Expr.Name x np) (e :: es) [] cpos)) Option.none pos) (Acb C E t) := by with_unfolding_all exact @L2.Iz
theorem Af4 : ∀ {X : Cx} {st : Stmt} {t : TS}, S.PS (Cx.nox X) st t -> S.PS X st t := by with_unfolding_all exact @L2.PS.nox
theorem Fp : ∀ {X : Cx} {pos : Pos} {c : Expr} {body : List Stmt} {tc : TT} {tb : TS}, PassesOwn (model (Cx.prog X) (Cx.w X)) (Cx.A X) (Cx.env X) (Cx.xe X) -> S.PT X c tc -> S.PSs X body tb -> S.PS X (Stmt.While c body [] pos) (Wa tc tb) := by with_unfolding_all exact @L2.Fp
theorem Du : ∀ {X : Cx} {tg iter : Expr} {body : List Stmt} {wi : TI} {g : TG} {tb : TS} {pos : Pos}, PassesOwn (model (Cx.prog X) (Cx.w X)) (Cx.A X) (Cx.env X) (Cx.xe X) -> Cx.calm X = Bool.true -> S.PI X tg iter wi -> S.PG X tg g -> S.PSs X body tb -> autoParam (∀ (x : Value), foldedSetIterable iter (Cx.env X) x = Pure.pure x) L2.Du._auto_1 -> S.PS X (Stmt.For tg iter body [] pos) (Alp wi g tb) := by with_unfolding_all exact @L2.Du
theorem J3 : ∀ {X : Cx} {e : Expr} {te : TE} {pos : Pos}, S.PE X e te -> autoParam (swapsWith e Option.none (Pos.line pos) (Cx.env X) = Pure.pure Bool.false) L2.J3._auto_1 -> S.PS X (Stmt.Expr e pos) (Agy te) := by with_unfolding_all exact @L2.J3
theorem Ay {X : Cx} {b : List Stmt} {φ : TS -> Prop} (h : ∃ t, PSs X b t /\ φ t) : ∃ t, L2.PSs X b t /\ φ t := by
  obtain ⟨t, h1, h2⟩ := h
  exact ⟨t, out h1, h2⟩
end L2.S
namespace Z
def co (p : List Int) (i : Nat) : Int := p.getD i 0
theorem Bu (i : Nat) : co [] i = 0 := by simp [co]
theorem Ft (a : Int) (r : List Int) : co (a :: r) 0 = a := by simp [co]
theorem Fv (a : Int) (r : List Int) (i : Nat) : co (a :: r) (i + 1) = co r i := by simp [co]
theorem Bl {p : List Int} {i : Nat} (h : p.length <= i) : co p i = 0 := by simp [co, List.getD_eq_getElem?_getD, List.getElem?_eq_none h]
theorem Cv {p : List Int} {i : Nat} (h : i < p.length) : co p i = p[i] := by simp [co, List.getD_eq_getElem?_getD, List.getElem?_eq_getElem h]
def Tr (p : List Int) : Prop := p = [] \/ ∃ h : p ≠ [], p.getLast h ≠ 0
theorem Tr.lead {p : List Int} (h : Tr p) (n : p ≠ []) : co p (p.length - 1) ≠ 0 := by
  rcases h with h | ⟨h, z⟩
  . exact absurd h n
  . have hl : 0 < p.length := List.length_pos_iff.mpr h
    rw [Cv (by omega)]
    rw [List.getLast_eq_getElem] at z
    exact z
theorem Tr.of {p : List Int} (h : p = [] \/ co p (p.length - 1) ≠ 0) : Tr p := by
  by_cases n : p = []
  . exact .inl n
  . rcases h with h | h
    . exact .inl h
    . refine .inr ⟨n, ?_⟩
      have hl : 0 < p.length := List.length_pos_iff.mpr n
      rw [Cv (by omega)] at h
      rw [List.getLast_eq_getElem]
      exact h
theorem Tr.len {p q : List Int} (hp : Tr p) (e : ∀ i, co p i = co q i) : p.length <= q.length := by
  by_cases n : p = []
  . subst n; simp
  . by_cases h : p.length <= q.length
    . exact h
    . exfalso
      have z := hp.lead n
      rw [e, Bl (by omega)] at z
      exact z rfl
theorem Tr.ext {p q : List Int} (hp : Tr p) (hq : Tr q) (e : ∀ i, co p i = co q i) : p = q := by
  have l := Nat.le_antisymm (hp.len e) (hq.len fun i => (e i).symm)
  refine List.ext_getElem l fun i h1 h2 => ?_
  rw [<- Cv h1, <- Cv h2, e]
def trim : List Int -> List Int
  | [] => []
  | a :: r => match trim r with
    | [] => if a = 0 then [] else [a]
    | b :: t => a :: b :: t
theorem Vr (a : Int) (r : List Int) : trim (a :: r) = if trim r = [] /\ a = 0 then [] else a :: trim r := by
  rw [trim]
  split
  . rename_i h
    rw [h]
    by_cases ha : a = 0 <;> simp [ha]
  . rename_i b t h
    rw [h]
    simp
theorem Bc : ∀ (p : List Int) (i : Nat), co (trim p) i = co p i
  | [], i => rfl
  | a :: r, i => by
    rw [Vr]
    split
    . rename_i h
      rw [Bu]
      cases i with
      | zero => rw [Ft, h.2]
      | succ i => rw [Fv, <- Bc r i, h.1, Bu]
    . cases i with
      | zero => rw [Ft, Ft]
      | succ i => rw [Fv, Fv, Bc r i]
theorem Bo : ∀ p : List Int, Tr (trim p)
  | [] => .inl rfl
  | a :: r => by
    rw [Vr]
    split
    . exact .inl rfl
    . rename_i h
      refine .inr ⟨by simp, ?_⟩
      by_cases hr : trim r = []
      . simp only [hr, List.getLast_singleton]
        exact fun z => h ⟨hr, z⟩
      . rw [List.getLast_cons hr]
        rcases Bo r with z | ⟨_, z⟩
        . exact absurd z hr
        . exact z
theorem Ua {p q : List Int} (hq : Tr q) (e : ∀ i, co q i = co p i) : trim p = q := (Bo p).ext hq fun i => by rw [Bc, e]
theorem Ry {p : List Int} (h : Tr p) : trim p = p := Ua h fun _ => rfl
theorem Kr (p : List Int) (n i : Nat) : co (p.take n) i = if i < n then co p i else 0 := by
  unfold co
  rw [List.getD_eq_getElem?_getD, List.getD_eq_getElem?_getD, List.getElem?_take]
  split <;> rfl
theorem Adg {p : List Int} {n : Nat} (h1 : ∀ i, n <= i -> co p i = 0) (h2 : n = 0 \/ co p (n - 1) ≠ 0) : trim p = p.take n := by
  refine Ua ?_ fun i => ?_
  . rcases h2 with h | h
    . subst h; exact .inl (by simp)
    . have hn : n <= p.length := by
        by_cases z : n <= p.length
        . exact z
        . exact absurd (Bl (by omega)) h
      refine .of ?_
      by_cases n0 : n = 0
      . left; subst n0; simp
      . right
        rw [List.length_take, Nat.min_eq_left hn, Kr, if_pos (by omega)]
        exact h
  . rw [Kr]
    split
    . rfl
    . rw [h1 i (by omega)]
def sh (f : Nat -> Int) : Nat -> Int
  | 0 => 0
  | i + 1 => f i
def mu : List Int -> (Nat -> Int) -> Nat -> Int
  | [], _ => fun _ => 0
  | a :: p, f => fun i => a * f i + sh (mu p f) i
theorem Agg (f g : Nat -> Int) : sh (fun i => f i + g i) = fun i => sh f i + sh g i := by funext i; cases i <;> simp [sh]
theorem Afg (c : Int) (f : Nat -> Int) : sh (fun i => c * f i) = fun i => c * sh f i := by funext i; cases i <;> simp [sh]
theorem Q6 : sh (fun _ => 0) = fun _ => 0 := by funext i; cases i <;> rfl
theorem Yi : ∀ (p : List Int) (f g : Nat -> Int), mu p (fun i => f i + g i) = fun i => mu p f i + mu p g i
  | [], f, g => by funext i; simp [mu]
  | a :: p, f, g => by
    funext i
    simp only [mu]
    rw [Yi p f g, Agg]
    grind
theorem Tg : ∀ (p : List Int) (c : Int) (f : Nat -> Int), mu p (fun i => c * f i) = fun i => c * mu p f i
  | [], c, f => by funext i; simp [mu]
  | a :: p, c, f => by
    funext i
    simp only [mu]
    rw [Tg p c f, Afg]
    grind
theorem Q8 : ∀ (p : List Int), mu p (fun _ => 0) = fun _ => 0
  | [] => rfl
  | a :: p => by
    funext i
    simp only [mu]
    rw [Q8 p, Q6]
    simp
theorem Ai5 : ∀ (p : List Int) (f : Nat -> Int), mu p (sh f) = sh (mu p f)
  | [], f => by funext i; cases i <;> rfl
  | a :: p, f => by
    funext i
    simp only [mu]
    rw [Ai5 p f]
    cases i with
    | zero => simp [sh]
    | succ i => simp [sh]
theorem Af7 (a : Int) (r : List Int) : co (a :: r) = fun i => (if i = 0 then a else 0) + sh (co r) i := by
  funext i
  cases i with
  | zero => simp [Ft, sh]
  | succ i => simp [Fv, sh]
theorem Yo : ∀ (p : List Int), mu p (fun i => if i = 0 then 1 else 0) = co p
  | [] => by funext i; simp [mu, co]
  | a :: p => by
    funext i
    simp only [mu]
    rw [Yo p, Af7]
    cases i <;> simp
theorem Zy (q : List Int) (a : Int) (p : List Int) : mu q (co (a :: p)) = fun i => a * co q i + sh (mu q (co p)) i := by
  rw [Af7, Yi, Ai5]
  funext i
  congr 1
  have e : (fun i : Nat => if i = 0 then a else 0) = fun i => a * (if i = 0 then 1 else 0) := by funext i; cases i <;> simp
  rw [e, Tg, Yo]
theorem Qg : ∀ p q : List Int, mu p (co q) = mu q (co p)
  | [], q => by
    have e : co [] = fun _ => 0 := by funext i; simp [co]
    rw [e, Q8]; rfl
  | a :: p, q => by rw [Zy, <- Qg p q]; rfl
theorem T7 (f : Nat -> Int) : ∀ (r : List Int), (∀ i, co r i = 0) -> mu r f = fun _ => 0
  | [], _ => rfl
  | a :: r, h0 => by
    have ha : a = 0 := by have := h0 0; rwa [Ft] at this
    funext i
    simp only [mu]
    rw [T7 f r fun i => by have := h0 (i + 1); rwa [Fv] at this, Q6, ha]
    simp
theorem Cq (f : Nat -> Int) : ∀ (r s : List Int), (∀ i, co r i = co s i) -> mu r f = mu s f
  | [], s, h0 => (T7 f s fun i => by rw [<- h0, Bu]).symm
  | a :: r, [], h0 => T7 f (a :: r) fun i => by rw [h0, Bu]
  | a :: r, b :: s, h0 => by
    have e0 : a = b := by have := h0 0; rwa [Ft, Ft] at this
    subst e0
    funext i
    simp only [mu]
    rw [Cq f r s fun i => by have := h0 (i + 1); rwa [Fv, Fv] at this]
def al : List Int -> List Int -> List Int
  | [], q => q
  | p, [] => p
  | a :: p, b :: q => (a + b) :: al p q
theorem Wd : ∀ (p q : List Int) (i : Nat), co (al p q) i = co p i + co q i
  | [], q, i => by simp [al, co]
  | a :: p, [], i => by simp [al, co]
  | a :: p, b :: q, 0 => by simp [al, Ft]
  | a :: p, b :: q, i + 1 => by simp [al, Fv, Wd p q i]
theorem W3 (f : Nat -> Int) : ∀ (p q : List Int), mu (al p q) f = fun i => mu p f i + mu q f i
  | [], q => by funext i; simp [al, mu]
  | a :: p, [] => by funext i; simp [al, mu]
  | a :: p, b :: q => by
    funext i
    simp only [al, mu]
    rw [W3 f p q, Agg]
    grind
theorem Gv (a : Int) (q : List Int) (i : Nat) : co (q.map (a * ·)) i = a * co q i := by
  unfold co
  rw [List.getD_eq_getElem?_getD, List.getD_eq_getElem?_getD, List.getElem?_map]
  cases q[i]? <;> simp
theorem Jr (f : Nat -> Int) (a : Int) : ∀ q : List Int, mu (q.map (a * ·)) f = fun i => a * mu q f i
  | [] => by funext i; simp [mu]
  | b :: q => by
    funext i
    simp only [List.map_cons, mu]
    rw [Jr f a q, Afg]
    grind
def ml : List Int -> List Int -> List Int
  | [], _ => []
  | a :: p, q => al (q.map (a * ·)) (0 :: ml p q)
theorem Ae1 : ∀ (p q : List Int), co (ml p q) = mu p (co q)
  | [], q => by funext i; simp [ml, mu, co]
  | a :: p, q => by
    funext i
    simp only [ml, mu]
    rw [Wd, Gv, <- Ae1 p q]
    cases i with
    | zero => simp [Ft, sh]
    | succ i => simp [Fv, sh]
theorem Xf (f : Nat -> Int) : ∀ (p q : List Int), mu (ml p q) f = mu p (mu q f)
  | [], q => rfl
  | a :: p, q => by
    funext i
    simp only [ml]
    rw [W3, Jr]
    simp only [mu]
    rw [Xf f p q]
    simp
theorem Aei {p q r : List Int} (f : Nat -> Int) (h : ∀ i, co r i = mu p (co q) i) : mu r f = mu p (mu q f) := by
  rw [<- Xf]
  exact Cq f r _ fun i => by rw [h, Ae1]
theorem J0 : ∀ (p : List Int) (e : Int) (i : Nat), co (p ++ [e]) i = if i = p.length then e else co p i
  | [], e, 0 => by simp [co]
  | [], e, i + 1 => by simp [co]
  | a :: p, e, 0 => by simp [Ft]
  | a :: p, e, i + 1 => by
    rw [List.cons_append, Fv, Fv, J0 p e i, List.length_cons]
    by_cases h : i = p.length <;> simp [h]
theorem Ri (p : List Int) (j : Nat) (x : Int) (h : j < p.length) (i : Nat) : co (p.set j x) i = if i = j then x else co p i := by
  unfold co
  rw [List.getD_eq_getElem?_getD, List.getD_eq_getElem?_getD, List.getElem?_set]
  by_cases e : j = i
  . subst e
    simp [h]
  . rw [if_neg e, if_neg (Ne.symm e)]
theorem Sx {p q : List Int} (h : ∀ i, co p i = co q i) : trim p = trim q := Ua (Bo q) fun i => by rw [Bc, h]
theorem N6 (f : Nat -> Int) : ∀ (p : List Int) (e : Int) (i : Nat), mu (p ++ [e]) f i = mu p f i + (if p.length <= i then e * f (i - p.length) else 0)
  | [], e, i => by simp [mu, Q6]
  | a :: p, e, 0 => by simp [mu, sh]
  | a :: p, e, i + 1 => by
    simp only [List.cons_append, mu, sh, List.length_cons]
    rw [N6 f p e i]
    by_cases h : p.length <= i
    . rw [if_pos h, if_pos (by omega), show i + 1 - (p.length + 1) = i - p.length by omega]
      omega
    . rw [if_neg h, if_neg (by omega)]
      omega
theorem Af8 : ∀ (p q : List Int) (i : Nat), p ≠ [] -> p.length + q.length <= i + 1 -> mu p (co q) i = 0
  | [], q, i, h, _ => absurd rfl h
  | [a], q, i, _, hl => by
    simp only [List.length_cons, List.length_nil] at hl
    simp only [mu]
    rw [Bl (by omega), Q6]
    simp
  | a :: b :: p, q, 0, _, hl => by
    simp only [List.length_cons] at hl
    omega
  | a :: b :: p, q, i + 1, _, hl => by
    simp only [List.length_cons] at hl
    show a * co q (i + 1) + mu (b :: p) (co q) i = 0
    rw [Bl (p := q) (by omega)]
    rw [Af8 (b :: p) q i (by simp) (by simp only [List.length_cons]; omega)]
    simp
theorem Uj : ∀ (p q : List Int) (i : Nat), p ≠ [] -> q ≠ [] -> i + 2 = p.length + q.length -> mu p (co q) i = co p (p.length - 1) * co q (q.length - 1)
  | [], q, i, h, _, _ => absurd rfl h
  | [a], q, i, _, hq, hl => by
    simp only [List.length_cons, List.length_nil] at hl
    simp only [mu]
    rw [Q6]
    have e : i = q.length - 1 := by omega
    subst e
    simp [Ft]
  | a :: b :: p, q, 0, _, hq, hl => by
    have := List.length_pos_iff.mpr hq
    simp only [List.length_cons] at hl
    omega
  | a :: b :: p, q, i + 1, _, hq, hl => by
    simp only [List.length_cons] at hl
    show a * co q (i + 1) + mu (b :: p) (co q) i = _
    rw [Bl (p := q) (by omega)]
    rw [Uj (b :: p) q i (by simp) hq (by simp only [List.length_cons]; omega)]
    simp [Fv]
def tm (p q : List Int) : List Int := trim (ml p q)
def ta (p q : List Int) : List Int := trim (al p q)
theorem Fo (p q : List Int) (i : Nat) : co (tm p q) i = mu p (co q) i := by rw [tm, Bc, Ae1]
theorem Qj (p q : List Int) (i : Nat) : co (ta p q) i = co p i + co q i := by rw [ta, Bc, Wd]
theorem Jk (p q : List Int) : Tr (tm p q) := Bo _
theorem Xr (p q : List Int) : Tr (ta p q) := Bo _
theorem Ng (p q : List Int) : tm p q = tm q p := (Jk _ _).ext (Jk _ _) fun i => by rw [Fo, Fo, Qg]
theorem Ah1 (p q : List Int) : ta p q = ta q p := (Xr _ _).ext (Xr _ _) fun i => by rw [Qj, Qj, Int.add_comm]
theorem Afd (p q r : List Int) : tm (tm p q) r = tm p (tm q r) := (Jk _ _).ext (Jk _ _) fun i => by
  rw [Fo, Fo, Aei (co r) (fun j => Fo p q j)]
  exact congrFun (congrArg (mu p) (funext fun j => (Fo q r j).symm)) i
theorem Ald (p q r : List Int) : tm p (ta q r) = ta (tm p q) (tm p r) := (Jk _ _).ext (Xr _ _) fun i => by
  rw [Fo, Qj, Fo, Fo, show co (ta q r) = fun j => co q j + co r j from funext fun j => Qj q r j, Yi]
theorem Aga {p : List Int} (h : Tr p) : tm p [1] = p := (Jk _ _).ext h fun i => by
  rw [Fo, show co [1] = fun i => if i = 0 then 1 else 0 from by funext i; cases i <;> simp [co], Yo]
theorem Sy (p : List Int) : tm p [] = [] := (Jk _ _).ext (.inl rfl) fun i => by
  rw [Fo, show co [] = fun _ => 0 from by funext i; simp [co], Q8]
def pw (p : List Int) : Nat -> List Int
  | 0 => [1]
  | k + 1 => tm p (pw p k)
theorem Aah (p : List Int) : ∀ k, Tr (pw p k)
  | 0 => .inr ⟨by simp [pw], by simp [pw]⟩
  | k + 1 => Jk _ _
theorem Afz (p : List Int) : ∀ a b, tm (pw p a) (pw p b) = pw p (a + b)
  | 0, b => by rw [pw, Ng, Aga (Aah p b), Nat.zero_add]
  | a + 1, b => by rw [pw, Afd, Afz p a b, show a + 1 + b = (a + b) + 1 by omega, pw]
theorem Ajc {p : List Int} (h : Tr p) : pw p 1 = p := by rw [pw, pw, Aga h]
def ng (p : List Int) (c : Int) : List Int := trim (p.map (· * c))
theorem Ss (p : List Int) (c : Int) (i : Nat) : co (ng p c) i = co p i * c := by
  rw [ng, Bc]
  unfold co
  rw [List.getD_eq_getElem?_getD, List.getD_eq_getElem?_getD, List.getElem?_map]
  cases p[i]? <;> simp
theorem Sv {p q : List Int} (hp : Tr p) (hq : Tr q) (h1 : p ≠ []) (h2 : q ≠ []) : (tm p q).length + 1 = p.length + q.length := by
  have l1 := List.length_pos_iff.mpr h1
  have l2 := List.length_pos_iff.mpr h2
  have lead : co (tm p q) (p.length + q.length - 2) ≠ 0 := by
    rw [Fo, Uj p q _ h1 h2 (by omega)]
    exact Int.mul_ne_zero (hp.lead h1) (hq.lead h2)
  have a : p.length + q.length - 2 < (tm p q).length := by
    by_cases h : p.length + q.length - 2 < (tm p q).length
    . exact h
    . exact absurd (Bl (by omega)) lead
  have b : (tm p q).length <= p.length + q.length - 1 := by
    by_cases h : (tm p q).length <= p.length + q.length - 1
    . exact h
    . exfalso
      have hn : tm p q ≠ [] := fun z => by rw [z] at h; simp at h
      have := (Jk p q).lead hn
      rw [Fo, Af8 p q _ h1 (by omega)] at this
      exact this rfl
  omega
theorem Agb (p q : List Int) : (ta p q).length <= max p.length q.length := by
  by_cases hn : ta p q = []
  . rw [hn]; simp
  by_cases h : (ta p q).length <= max p.length q.length
  . exact h
  . exfalso
    have := (Xr p q).lead hn
    rw [Qj, Bl (by omega), Bl (by omega)] at this
    exact this rfl
end Z
namespace Z
def gl : List Int -> Nat
  | [] => 0
  | a :: r => Int.gcd a (gl r)
theorem Acx : ∀ (L : List Int) (x : Int), x ∈ L -> ((gl L : Nat) : Int) ∣ x
  | a :: r, x, h => by
    rcases List.mem_cons.mp h with rfl | h
    . exact Int.gcd_dvd_left ..
    . exact Int.dvd_trans (Int.gcd_dvd_right ..) (Acx r x h)
theorem Abw (e m : Int) : ∀ L : List Int, (∀ x ∈ L, e ∣ m * x) -> e ∣ m * (gl L : Nat)
  | [], _ => by simp [gl]
  | a :: r, h => by
    have h1 := h a (by simp)
    have h2 := Abw e m r fun x hx => h x (by simp [hx])
    have h3 := Int.dvd_coe_gcd h1 h2
    rw [Int.gcd_mul_left, Int.natCast_mul] at h3
    rw [gl]
    rcases Int.natAbs_eq m with z | z
    . rw [z]; exact h3
    . rw [z, Int.neg_mul]; exact Int.dvd_neg.mpr h3
def Cop (s : Int) (a b : List Int) : Prop := ∀ e : Int, e ∣ s -> (∀ k, e ∣ co a k) -> (∀ k, e ∣ co b k) -> e ∣ 1
theorem Cop.gl {s : Int} {a b : List Int} (h : Cop s a b) : Z.gl (s :: (a ++ b)) = 1 := by
  have mem := Acx (s :: (a ++ b))
  have cd : ∀ (L : List Int), (∀ x ∈ L, x ∈ s :: (a ++ b)) -> ∀ k, ((Z.gl (s :: (a ++ b)) : Nat) : Int) ∣ co L k := fun L hL k => by
    by_cases hk : k < L.length
    . rw [Cv hk]; exact mem _ (hL _ (List.getElem_mem hk))
    . rw [Bl (by omega)]; exact Int.dvd_zero _
  have := h _ (mem s (by simp)) (cd a fun x hx => by simp [hx]) (cd b fun x hx => by simp [hx])
  have h1 := Int.le_of_dvd (by decide) this
  rcases Nat.eq_zero_or_pos (Z.gl (s :: (a ++ b))) with z | z
  . rw [z] at this
    have := Int.zero_dvd.mp this
    omega
  . omega
theorem Agz {s m e : Int} {a b : List Int} (h : Cop s a b) (h1 : e ∣ m * s) (h2 : ∀ k, e ∣ m * co a k) (h3 : ∀ k, e ∣ m * co b k) : e ∣ m := by
  have := Abw e m (s :: (a ++ b)) fun x hx => by
    have inl : ∀ (L : List Int), (∀ k, e ∣ m * co L k) -> x ∈ L -> e ∣ m * x := fun L hL hm => by
      obtain ⟨i, hi, ei⟩ := List.getElem_of_mem hm
      have := hL i
      rw [Cv hi, ei] at this
      exact this
    rcases List.mem_cons.mp hx with rfl | hx
    . exact h1
    . rcases List.mem_append.mp hx with hx | hx
      . exact inl a h2 hx
      . exact inl b h3 hx
  rw [h.gl] at this
  simpa using this
structure DV (p q : List Int) (s : Int) (qs rs : List Int) (j : Nat) : Prop where
  pos : 1 <= s
  eq : ∀ k, s * co p k = mu qs (co q) k + co rs k
  top : ∀ k, j + q.length <= k + 1 -> co rs k = 0
  low : ∀ k, k < j -> co qs k = 0
  cop : Cop s qs rs
theorem Wg (f : Nat -> Int) (n : Nat) : ∀ i, mu (List.replicate n 0) f i = 0 := fun i => by
  rw [T7 f _ fun i => by unfold co; rw [List.getD_eq_getElem?_getD, List.getElem?_replicate]; split <;> rfl]
theorem DV.start (p q : List Int) (hq : q ≠ []) : DV p q 1 (List.replicate (p.length + 1 - q.length) 0) p (p.length + 1 - q.length) := by
  have hl : 0 < q.length := List.length_pos_iff.mpr hq
  refine ⟨Int.le_refl _, fun k => by rw [Wg, Int.one_mul, Int.zero_add], fun k h => Bl (by omega), fun k h => ?_, fun e h _ _ => h⟩
  unfold co
  rw [List.getD_eq_getElem?_getD, List.getElem?_replicate]
  split <;> rfl
theorem Xu (m : Int) (L : List Int) (k : Nat) : co (L.map (· * m)) k = co L k * m := by
  unfold co
  rw [List.getD_eq_getElem?_getD, List.getD_eq_getElem?_getD, List.getElem?_map]
  cases L[k]? <;> simp
theorem DV.step {p q : List Int} {s : Int} {qs rs : List Int} {j : Nat} (h : DV p q s qs rs (j + 1)) (hq : q ≠ []) {m f : Int} (m1 : 1 <= m) (hj : j < qs.length) (ef : co rs (j + (q.length - 1)) * m = f * co q (q.length - 1)) (cp : ∀ e, e ∣ m -> e ∣ f -> e ∣ 1)
    {rs' : List Int} (hr : ∀ k, co rs' k = co rs k * m - (if j <= k then f * co q (k - j) else 0)) : DV p q (s * m) ((qs.map (· * m)).set j f) rs' j := by
  have hl : 0 < q.length := List.length_pos_iff.mpr hq
  have cq : ∀ k, co ((qs.map (· * m)).set j f) k = if k = j then f else co qs k * m := fun k => by
    rw [Ri _ _ _ (by rw [List.length_map]; exact hj), Xu]
  have sp : ∀ k, co ((qs.map (· * m)).set j f) k = co (al (qs.map (· * m)) (List.replicate j 0 ++ [f])) k := fun k => by
    rw [cq, Wd, Xu, J0, List.length_replicate]
    by_cases hk : k = j
    . rw [if_pos hk, if_pos hk, hk, h.low j (by omega)]; simp
    . rw [if_neg hk, if_neg hk]
      have : co (List.replicate j (0 : Int)) k = 0 := by
        unfold co
        rw [List.getD_eq_getElem?_getD, List.getElem?_replicate]
        split <;> rfl
      rw [this, Int.add_zero]
  have ms : ∀ k, mu (qs.map (· * m)) (co q) k = mu qs (co q) k * m := fun k => by
    have e : qs.map (· * m) = qs.map (m * ·) := List.map_congr_left fun x _ => Int.mul_comm _ _
    rw [e, Jr, Int.mul_comm]
  refine ⟨?_, fun k => ?_, fun k hk => ?_, fun k hk => ?_, fun e h1 h2 h3 => ?_⟩
  . have := Int.mul_le_mul h.pos m1 (by decide) (by have := h.pos; omega)
    omega
  . rw [Cq (co q) _ _ sp, W3]
    dsimp only
    rw [N6, Wg, ms, List.length_replicate, hr]
    have := h.eq k
    have e : s * m * co p k = (s * co p k) * m := by grind
    rw [e, this]
    grind
  . rw [hr, if_pos (by omega)]
    by_cases hk2 : k = j + (q.length - 1)
    . subst hk2
      rw [ef, show j + (q.length - 1) - j = q.length - 1 by omega]
      omega
    . rw [h.top k (by omega), Bl (show q.length <= k - j by omega)]
      simp
  . rw [cq, if_neg (by omega), h.low k (by omega), Int.zero_mul]
  . have hf : e ∣ f := by have := h2 j; rw [cq, if_pos rfl] at this; exact this
    refine cp e (Agz h.cop (by rw [Int.mul_comm]; exact h1) (fun k => ?_) fun k => ?_) hf
    . by_cases hk : k = j
      . rw [hk, h.low j (by omega), Int.mul_zero]; exact Int.dvd_zero _
      . have := h2 k
        rw [cq, if_neg hk] at this
        rw [Int.mul_comm]
        exact this
    . have a := h3 k
      rw [hr] at a
      have b : e ∣ (if j <= k then f * co q (k - j) else 0) := by
        split
        . exact Int.dvd_trans hf (Int.dvd_mul_right _ _)
        . exact Int.dvd_zero _
      have := Int.dvd_add a b
      rw [Int.sub_add_cancel, Int.mul_comm] at this
      exact this
end Z
namespace Z
theorem Acu (e : Int) : ∀ (p : List Int) (f : Nat -> Int) (i : Nat), (∀ j, j <= i -> e ∣ f j) -> e ∣ mu p f i
  | [], _, _, _ => Int.dvd_zero _
  | a :: p, f, 0, h => by
    show e ∣ a * f 0 + 0
    rw [Int.add_zero]
    exact Int.dvd_trans (h 0 (Nat.le_refl _)) (Int.dvd_mul_left _ _)
  | a :: p, f, i + 1, h => by
    show e ∣ a * f (i + 1) + mu p f i
    exact Int.dvd_add (Int.dvd_trans (h _ (Nat.le_refl _)) (Int.dvd_mul_left _ _)) (Acu e p f i fun j hj => h j (by omega))
theorem Q7 {e : Int} (he : ∀ a b : Int, e ∣ a * b -> e ∣ a \/ e ∣ b) : ∀ (p q : List Int), (∀ k, e ∣ mu p (co q) k) -> (∀ k, e ∣ co p k) \/ (∀ k, e ∣ co q k)
  | [], _, _ => .inl fun k => by rw [Bu]; exact Int.dvd_zero _
  | a :: p, q, h => by
    by_cases ha : e ∣ a
    . have h2 : ∀ k, e ∣ mu p (co q) k := fun k => by
        have := h (k + 1)
        have z : e ∣ a * co q (k + 1) := Int.dvd_trans ha (Int.dvd_mul_right _ _)
        exact (Int.dvd_add_right z).mp this
      rcases Q7 he p q h2 with h3 | h3
      . refine .inl fun k => ?_
        cases k with
        | zero => rw [Ft]; exact ha
        | succ k => rw [Fv]; exact h3 k
      . exact .inr h3
    . refine .inr fun k => ?_
      induction k using Nat.strongRecOn with
      | _ k ih =>
        have z := h k
        have s : e ∣ sh (mu p (co q)) k := by
          cases k with
          | zero => exact Int.dvd_zero _
          | succ k => exact Acu e p _ k fun j hj => ih j (by omega)
        have : e ∣ a * co q k := (Int.dvd_add_left s).mp z
        exact (he _ _ this).resolve_left ha
theorem Yr : ∀ n : Nat, n ≠ 1 -> ∃ r : Nat, 2 <= r /\ r ∣ n /\ ∀ a b : Int, (r : Int) ∣ a * b -> (r : Int) ∣ a \/ (r : Int) ∣ b := fun n => by
  have main : ∀ m : Nat, 2 <= m -> ∃ r : Nat, 2 <= r /\ r ∣ m /\ ∀ a b : Int, (r : Int) ∣ a * b -> (r : Int) ∣ a \/ (r : Int) ∣ b := fun m => by
    induction m using Nat.strongRecOn with
    | _ m ih =>
      intro hm
      by_cases h : ∃ d, 2 <= d /\ d < m /\ d ∣ m
      . obtain ⟨d, h1, h2, h3⟩ := h
        obtain ⟨r, a1, a2, a3⟩ := ih d h2 h1
        exact ⟨r, a1, Nat.dvd_trans a2 h3, a3⟩
      . refine ⟨m, hm, Nat.dvd_refl _, fun a b hab => ?_⟩
        by_cases ha : (m : Int) ∣ a
        . exact .inl ha
        . right
          have g1 : Nat.gcd m a.natAbs = 1 := by
            have gd : Nat.gcd m a.natAbs ∣ m := Nat.gcd_dvd_left ..
            have gl := Nat.le_of_dvd (by omega) gd
            have gp := Nat.gcd_pos_of_pos_left a.natAbs (show 0 < m by omega)
            by_cases e1 : Nat.gcd m a.natAbs = 1
            . exact e1
            . exfalso
              by_cases e2 : Nat.gcd m a.natAbs = m
              . refine ha (Int.ofNat_dvd_left.mpr ?_)
                have := Nat.gcd_dvd_right m a.natAbs
                rw [e2] at this
                exact this
              . exact h ⟨_, by omega, by omega, gd⟩
          have hd : m ∣ a.natAbs * b.natAbs := by
            have := Int.ofNat_dvd_left.mp hab
            rwa [Int.natAbs_mul] at this
          exact Int.ofNat_dvd_left.mpr (Nat.Coprime.dvd_of_dvd_mul_left g1 hd)
  intro hn
  by_cases h0 : n = 0
  . subst h0
    obtain ⟨r, a1, _, a3⟩ := main 2 (by decide)
    exact ⟨r, a1, Nat.dvd_zero _, a3⟩
  . exact main n (by omega)
def Prim (p : List Int) : Prop := ∀ e : Int, (∀ k, e ∣ co p k) -> e ∣ 1
theorem Ak2 {p q r : List Int} (hp : Prim p) (hq : Prim q) (hr : ∀ k, co r k = mu p (co q) k) : Prim r := fun e he => by
  by_cases h1 : e.natAbs = 1
  . exact Int.natAbs_dvd.mp (by rw [h1]; exact Int.dvd_refl _)
  . exfalso
    obtain ⟨t, t2, td, tp⟩ := Yr e.natAbs h1
    have te : (t : Int) ∣ e := Int.ofNat_dvd_left.mpr td
    have no : ∀ s : List Int, Prim s -> ¬ ∀ k, (t : Int) ∣ co s k := fun s hs h => by
      have := Int.le_of_dvd (by decide) (hs _ h)
      omega
    rcases Q7 tp p q fun k => by rw [<- hr]; exact Int.dvd_trans te (he k) with h | h
    . exact no p hp h
    . exact no q hq h
theorem M4 {e m : Int} {p : List Int} (h : ∀ k, e ∣ m * co p k) : e ∣ m * (gl p : Nat) := Abw e m p fun x hx => by
  obtain ⟨i, hi, ei⟩ := List.getElem_of_mem hx
  have := h i
  rw [Cv hi, ei] at this
  exact this
theorem Ab0 (p : List Int) (k : Nat) : ((gl p : Nat) : Int) ∣ co p k := by
  by_cases hk : k < p.length
  . rw [Cv hk]; exact Acx p _ (List.getElem_mem hk)
  . rw [Bl (by omega)]; exact Int.dvd_zero _
theorem Prim.gl {p : List Int} (h : Prim p) : Z.gl p = 1 := by
  have := h _ (Ab0 p)
  have h1 := Int.le_of_dvd (by decide) this
  rcases Nat.eq_zero_or_pos (Z.gl p) with z | z
  . rw [z] at this
    have := Int.zero_dvd.mp this
    omega
  . omega
theorem Yh {p : List Int} {k : Nat} (h : co p k ≠ 0) : 0 < gl p := by
  rcases Nat.eq_zero_or_pos (gl p) with z | z
  . have := Ab0 p k
    rw [z] at this
    exact absurd (Int.zero_dvd.mp this) h
  . exact z
theorem Ye {u v : List Int} {c d : Int} (hc : c ≠ 0) (hd : d ≠ 0) (hu : Prim u) (hv : Prim v) (h : ∀ k, c * co u k = d * co v k) {a b : Nat} (ua : 0 < co u a) (ub : ∀ k, a < k -> co u k = 0) (va : 0 < co v b) (vb : ∀ k, b < k -> co v k = 0) : c = d /\ ∀ k, co u k = co v k := by
  have cd : c ∣ d := by
    have := M4 (e := c) (m := d) (p := v) fun k => by rw [<- h]; exact Int.dvd_mul_right _ _
    rw [hv.gl] at this
    simpa using this
  have dc : d ∣ c := by
    have := M4 (e := d) (m := c) (p := u) fun k => by rw [h]; exact Int.dvd_mul_right _ _
    rw [hu.gl] at this
    simpa using this
  have ab : a = b := by
    rcases Nat.lt_trichotomy a b with l | l | l
    . exfalso
      have := h b
      rw [ub b l, Int.mul_zero] at this
      rcases Int.mul_eq_zero.mp this.symm with z | z
      . exact hd z
      . omega
    . exact l
    . exfalso
      have := h a
      rw [vb a l, Int.mul_zero] at this
      rcases Int.mul_eq_zero.mp this with z | z
      . exact hc z
      . omega
  subst ab
  have ha := h a
  have e : c = d := by
    have n : c.natAbs = d.natAbs := Nat.dvd_antisymm (Int.natAbs_dvd_natAbs.mpr cd) (Int.natAbs_dvd_natAbs.mpr dc)
    rcases Int.natAbs_eq_natAbs_iff.mp n with z | z
    . exact z
    . exfalso
      rw [z, Int.neg_mul] at ha
      have h0 : d * (co u a + co v a) = 0 := by rw [Int.mul_add]; omega
      rcases Int.mul_eq_zero.mp h0 with z | z
      . exact hd z
      . omega
  refine ⟨e, fun k => ?_⟩
  have hk := h k
  rw [e] at hk
  exact Int.eq_of_mul_eq_mul_left hd hk
def un (p : List Int) : Int := if co p (p.length - 1) < 0 then -(gl p : Nat) else (gl p : Nat)
def pln (p : List Int) : List Int := p.map fun x => x.fdiv (un p)
theorem Li (p : List Int) : (pln p).length = p.length := by rw [pln, List.length_map]
theorem Px {f : Int -> Int} (h : f 0 = 0) (p : List Int) (k : Nat) : co (p.map f) k = f (co p k) := by
  unfold co
  rw [List.getD_eq_getElem?_getD, List.getD_eq_getElem?_getD, List.getElem?_map]
  cases p[k]? <;> simp [h]
theorem Agc (p : List Int) (k : Nat) : un p ∣ co p k := by
  unfold un
  split
  . exact Int.neg_dvd.mpr (Ab0 p k)
  . exact Ab0 p k
theorem Xi {p : List Int} (hp : Tr p) (h : p ≠ []) : un p ≠ 0 := by
  have := Yh (hp.lead h)
  unfold un
  split <;> omega
theorem Oc {p : List Int} (hp : Tr p) (h : p ≠ []) (k : Nat) : un p * co (pln p) k = co p k := by
  rw [pln, Px (f := fun x => x.fdiv (un p)) (Int.zero_fdiv _)]
  obtain ⟨t, ht⟩ := Agc p k
  rw [ht, Int.mul_fdiv_cancel_left _ (Xi hp h)]
theorem Ahq {p : List Int} (k : Nat) (hk : p.length - 1 < k) : co (pln p) k = 0 := Bl (by rw [Li]; omega)
theorem O9 {p : List Int} (hp : Tr p) (h : p ≠ []) : 0 < co (pln p) (p.length - 1) := by
  have e := Oc hp h (p.length - 1)
  have l := hp.lead h
  have g := Yh l
  have z : co (pln p) (p.length - 1) ≠ 0 := fun z => l (by rw [<- e, z, Int.mul_zero])
  by_cases hl : co p (p.length - 1) < 0
  . have u : un p = -(gl p : Nat) := if_pos hl
    rw [u] at e
    rcases Int.lt_or_gt_of_ne z with y | y
    . have := Int.mul_pos_of_neg_of_neg (show -((gl p : Nat) : Int) < 0 by omega) y
      omega
    . exact y
  . have u : un p = (gl p : Nat) := if_neg hl
    rw [u] at e
    rcases Int.lt_or_gt_of_ne z with y | y
    . have := Int.mul_neg_of_pos_of_neg (show 0 < ((gl p : Nat) : Int) by omega) y
      omega
    . exact y
theorem Rh {p : List Int} (hp : Tr p) : Tr (pln p) := by
  by_cases h : p = []
  . subst h; exact .inl rfl
  . refine .of (.inr ?_)
    rw [Li]
    have := O9 hp h
    omega
theorem Jo {p : List Int} (hp : Tr p) (h : p ≠ []) : Prim (pln p) := fun e he => by
  have g := Yh (hp.lead h)
  have d : (gl p : Nat) * e ∣ 1 * (gl p : Nat) := M4 fun k => by
    rw [Int.one_mul, <- Oc hp h k]
    have : ((gl p : Nat) : Int) * e ∣ (gl p : Nat) * co (pln p) k := Int.mul_dvd_mul (Int.dvd_refl _) (he k)
    unfold un
    split
    . rw [Int.neg_mul]; exact Int.dvd_neg.mpr this
    . exact this
  rw [Int.mul_comm 1] at d
  exact Int.dvd_of_mul_dvd_mul_left (by omega) d
theorem Aj1 {r v : List Int} {c : Int} (hr : Tr r) (hv : Tr v) (pv : Prim v) (hc : c ≠ 0) (h : ∀ k, c * co v k = co r k) (n : v ≠ []) (l : 0 < co v (v.length - 1)) : pln r = v := by
  have rn : r ≠ [] := fun z => by
    have := h (v.length - 1)
    rw [z, Bu] at this
    rcases Int.mul_eq_zero.mp this with z | z <;> omega
  refine (Rh hr).ext hv (Ye (Xi hr rn) hc (Jo hr rn) pv (fun k => by rw [Oc hr rn, h]) (O9 hr rn) (fun k hk => Ahq k hk) l fun k hk => Bl (by omega)).2
theorem Ajt {p : List Int} (hp : Tr p) {c : Int} (hc : c ≠ 0) {r : List Int} (hr : Tr r) (h : ∀ k, co r k = c * co p k) : pln r = pln p := by
  by_cases np : p = []
  . subst np
    have : r = [] := hr.ext (.inl rfl) fun k => by rw [h, Bu, Int.mul_zero]
    rw [this]
  . have np' : pln p ≠ [] := fun z => by have := Li p; rw [z] at this; exact absurd this.symm (by simp; exact np)
    refine Aj1 (c := c * un p) hr (Rh hp) (Jo hp np) (fun z => by rcases Int.mul_eq_zero.mp z with z | z; exact hc z; exact Xi hp np z) (fun k => ?_) np' (by rw [Li]; exact O9 hp np)
    rw [h, <- Oc hp np, Int.mul_assoc]
def Exact (p q : List Int) : Prop := ∃ v : List Int, ∀ k, co p k = mu v (co q) k
end Z
namespace Z
section
variable {C : Type}
def La (r : C -> Int) (f : List C -> Int) : List C -> Int
  | [] => 0
  | c :: cs => r c * f cs - La r (fun x => f (c :: x)) cs
def Dt : List (C -> Int) -> List C -> Int
  | [], [] => 1
  | [], _ :: _ => 0
  | r :: rows, cs => La r (Dt rows) cs
theorem Qa (r : C -> Int) : ∀ cs, La r (fun _ => 0) cs = 0
  | [] => rfl
  | c :: cs => by rw [La, Qa r cs]; simp
theorem Abl (r : C -> Int) : ∀ (cs : List C) (f g : List C -> Int), La r (fun x => f x + g x) cs = La r f cs + La r g cs
  | [], f, g => rfl
  | c :: cs, f, g => by
    rw [La, La, La, Abl r cs]
    grind
theorem Sw (r : C -> Int) (k : Int) : ∀ (cs : List C) (f : List C -> Int), La r (fun x => k * f x) cs = k * La r f cs
  | [], f => by simp [La]
  | c :: cs, f => by
    rw [La, La, Sw r k cs]
    grind
theorem Afu (r : C -> Int) (cs : List C) (f g : List C -> Int) : La r (fun x => f x - g x) cs = La r f cs - La r g cs := by
  have h1 := Abl r cs (fun x => f x - g x) g
  have h2 : (fun x => f x - g x + g x) = f := by funext x; omega
  rw [h2] at h1
  omega
theorem Aa6 (r s : C -> Int) : ∀ (cs : List C) (f : List C -> Int), La (fun c => r c + s c) f cs = La r f cs + La s f cs
  | [], f => rfl
  | c :: cs, f => by
    rw [La, La, La, Aa6 r s cs]
    grind
theorem Abt (r : C -> Int) (k : Int) : ∀ (cs : List C) (f : List C -> Int), La (fun c => k * r c) f cs = k * La r f cs
  | [], f => by simp [La]
  | c :: cs, f => by
    rw [La, La, Abt r k cs]
    grind
theorem Yn : ∀ (cs : List C) (f : List C -> Int), La (fun _ => 0) f cs = 0
  | [], f => rfl
  | c :: cs, f => by rw [La, Yn cs]; simp
theorem Aak (r s : C -> Int) : ∀ (cs : List C) (f : List C -> Int), La r (La s f) cs = -La s (La r f) cs
  | [], f => rfl
  | c :: cs, f => by
    rw [La, La]
    have e1 : (fun x => La s f (c :: x)) = fun x => s c * f x - La s (fun y => f (c :: y)) x := rfl
    have e2 : (fun x => La r f (c :: x)) = fun x => r c * f x - La r (fun y => f (c :: y)) x := rfl
    rw [e1, e2, Afu, Afu, Sw, Sw, Aak r s cs]
    grind
theorem W5 (r s : C -> Int) (rows : List (C -> Int)) (cs : List C) : Dt (r :: s :: rows) cs = -Dt (s :: r :: rows) cs := Aak r s cs (Dt rows)
theorem Af3 {b : C -> Int} : ∀ {post : List (C -> Int)}, b ∈ post -> ∀ cs, Dt (b :: post) cs = 0
  | x :: xs, h, cs => by
    rcases List.mem_cons.mp h with rfl | h
    . have := W5 b b xs cs
      omega
    . rw [W5]
      show -La x (Dt (b :: xs)) cs = 0
      have e : Dt (b :: xs) = fun _ => 0 := by funext y; exact Af3 h y
      rw [e, Qa]
      rfl
theorem Wx {rows : List (C -> Int)} (h : ∀ cs, Dt rows cs = 0) : ∀ (pre : List (C -> Int)) (cs : List C), Dt (pre ++ rows) cs = 0
  | [], cs => h cs
  | p :: pre, cs => by
    show La p (Dt (pre ++ rows)) cs = 0
    have e : Dt (pre ++ rows) = fun _ => 0 := by funext y; exact Wx h pre y
    rw [e, Qa]
theorem Ads (r s : C -> Int) (post : List (C -> Int)) : ∀ (pre : List (C -> Int)) (cs : List C), Dt (pre ++ (fun c => r c + s c) :: post) cs = Dt (pre ++ r :: post) cs + Dt (pre ++ s :: post) cs
  | [], cs => Aa6 r s cs _
  | p :: pre, cs => by
    show La p (Dt (pre ++ (fun c => r c + s c) :: post)) cs = La p (Dt (pre ++ r :: post)) cs + La p (Dt (pre ++ s :: post)) cs
    rw [<- Abl]
    congr 1
    funext y
    exact Ads r s post pre y
theorem Yk (r : C -> Int) (k : Int) (post : List (C -> Int)) : ∀ (pre : List (C -> Int)) (cs : List C), Dt (pre ++ (fun c => k * r c) :: post) cs = k * Dt (pre ++ r :: post) cs
  | [], cs => Abt r k cs _
  | p :: pre, cs => by
    show La p (Dt (pre ++ (fun c => k * r c) :: post)) cs = k * La p (Dt (pre ++ r :: post)) cs
    rw [<- Sw]
    congr 1
    funext y
    exact Yk r k post pre y
inductive Sn (B : List (C -> Int)) : (C -> Int) -> Prop where
  | zero : Sn B (fun _ => 0)
  | add (k : Int) {b v : C -> Int} (hb : b ∈ B) (hv : Sn B v) : Sn B (fun c => k * b c + v c)
theorem Sn.mono {B B' : List (C -> Int)} (h : ∀ b ∈ B, b ∈ B') {v : C -> Int} (s : Sn B v) : Sn B' v := by
  induction s with
  | zero => exact .zero
  | add k hb _ ih => exact .add k (h _ hb) ih
theorem Alb {B : List (C -> Int)} {v : C -> Int} (s : Sn B v) (post : List (C -> Int)) (hB : ∀ b ∈ B, b ∈ post) (pre : List (C -> Int)) (cs : List C) : Dt (pre ++ v :: post) cs = 0 := by
  induction s with
  | zero => exact Wx (rows := (fun _ => 0) :: post) (fun cs => Yn cs _) pre cs
  | @add k b v hb _ ih =>
    rw [Ads (fun c => k * b c) v post pre cs, ih, Yk, Wx (Af3 (hB b hb)) pre cs]
    simp
inductive Rel (k : Int) (B : List (C -> Int)) : List (C -> Int) -> List (C -> Int) -> Prop where
  | nil : Rel k B [] []
  | cons {a a' v : C -> Int} {A A' : List (C -> Int)} (hv : Sn B v) (h : ∀ c, k * a c = a' c + v c) (t : Rel k B A A') : Rel k B (a :: A) (a' :: A')
theorem Afx {k : Int} {B : List (C -> Int)} {A A' : List (C -> Int)} (h : Rel k B A A') (cs : List C) : ∀ pre : List (C -> Int), k ^ A.length * Dt (pre ++ (A ++ B)) cs = Dt (pre ++ (A' ++ B)) cs := by
  induction h with
  | nil => intro pre; simp
  | @cons a a' v A A' hv h t ih =>
    intro pre
    have e : (fun c => k * a c) = fun c => a' c + v c := funext h
    have e1 : k * Dt (pre ++ a :: (A ++ B)) cs = Dt (pre ++ a' :: (A ++ B)) cs := by
      rw [<- Yk, e, Ads, Alb hv (A ++ B) (fun b hb => List.mem_append_right _ hb), Int.add_zero]
    have e2 := ih (pre ++ [a'])
    rw [List.append_assoc, List.append_assoc] at e2
    show k ^ (A.length + 1) * Dt (pre ++ a :: (A ++ B)) cs = Dt (pre ++ a' :: (A' ++ B)) cs
    rw [Int.pow_succ, Int.mul_assoc, e1]
    exact e2
theorem Ad4 {k : Int} {R : List (C -> Int)} (B : List (C -> Int)) (cs : List C) : ∀ pre : List (C -> Int), Dt (pre ++ (R.map (fun r c => k * r c) ++ B)) cs = k ^ R.length * Dt (pre ++ (R ++ B)) cs := by
  induction R with
  | nil => intro pre; simp
  | cons r R ih =>
    intro pre
    show Dt (pre ++ (fun c => k * r c) :: (R.map (fun r c => k * r c) ++ B)) cs = k ^ (R.length + 1) * Dt (pre ++ r :: (R ++ B)) cs
    rw [Yk]
    have e2 := ih (pre ++ [r])
    rw [List.append_assoc, List.append_assoc] at e2
    have e3 : Dt (pre ++ r :: (R.map (fun r c => k * r c) ++ B)) cs = k ^ R.length * Dt (pre ++ r :: (R ++ B)) cs := e2
    rw [e3, Int.pow_succ]
    grind
def Sg (e : Int) : Prop := e = 1 \/ e = -1
theorem Sg.mul {a b : Int} (ha : Sg a) (hb : Sg b) : Sg (a * b) := by
  rcases ha with rfl | rfl <;> rcases hb with rfl | rfl <;> simp [Sg]
theorem Sg.sq {a : Int} (ha : Sg a) : a * a = 1 := by rcases ha with rfl | rfl <;> rfl
theorem Ac6 (a : C -> Int) (post : List (C -> Int)) : ∀ B : List (C -> Int), ∃ e, Sg e /\ ∀ cs, Dt (a :: (B ++ post)) cs = e * Dt (B ++ a :: post) cs
  | [] => ⟨1, .inl rfl, fun cs => by simp⟩
  | b :: B => by
    obtain ⟨e, he, h⟩ := Ac6 a post B
    refine ⟨-e, by rcases he with rfl | rfl <;> simp [Sg], fun cs => ?_⟩
    show Dt (a :: b :: (B ++ post)) cs = _
    rw [W5]
    show -La b (Dt (a :: (B ++ post))) cs = -e * La b (Dt (B ++ a :: post)) cs
    have e1 : Dt (a :: (B ++ post)) = fun y => e * Dt (B ++ a :: post) y := funext h
    rw [e1, Sw]
    grind
theorem Uw (B : List (C -> Int)) : ∀ (A : List (C -> Int)), ∃ e, Sg e /\ ∀ cs, Dt (A ++ B) cs = e * Dt (B ++ A) cs
  | [] => ⟨1, .inl rfl, fun cs => by simp⟩
  | a :: A => by
    obtain ⟨e, he, h⟩ := Uw B A
    obtain ⟨e', he', h'⟩ := Ac6 a A B
    refine ⟨e * e', he.mul he', fun cs => ?_⟩
    show La a (Dt (A ++ B)) cs = _
    have e1 : Dt (A ++ B) = fun y => e * Dt (B ++ A) y := funext h
    rw [e1, Sw]
    have := h' cs
    show e * Dt (a :: (B ++ A)) cs = _
    rw [this]
    grind
theorem Xl {c : C} : ∀ {rows : List (C -> Int)}, (∀ r ∈ rows, r c = 0) -> ∀ {cs : List C}, c ∈ cs -> Dt rows cs = 0
  | [], _, c' :: cs, _ => rfl
  | r :: rows, h, cs, hc => by
    have hr := h r List.mem_cons_self
    have ih : ∀ ds : List C, c ∈ ds -> Dt rows ds = 0 := fun ds hd => Xl (fun x hx => h x (List.mem_cons_of_mem _ hx)) hd
    show La r (Dt rows) cs = 0
    have key : ∀ (cs : List C) (f : List C -> Int), c ∈ cs -> (∀ ds, c ∈ ds -> f ds = 0) -> La r f cs = 0 := fun cs => by
      induction cs with
      | nil => intro f h; cases h
      | cons d ds ih2 =>
        intro f h hf
        rw [La]
        by_cases hd : c ∈ ds
        . rw [hf ds hd, ih2 (fun x => f (d :: x)) hd (fun e he => hf _ (List.mem_cons_of_mem _ he))]
          simp
        . have : c = d := by
            rcases List.mem_cons.mp h with z | z
            . exact z
            . exact absurd z hd
          subst this
          rw [hr]
          have e : (fun x => f (c :: x)) = fun _ => 0 := by funext x; exact hf _ List.mem_cons_self
          rw [e, Qa]
          simp
    exact key cs (Dt rows) hc ih
theorem Ajp {c : C} {r : C -> Int} {rows : List (C -> Int)} (h : ∀ s ∈ rows, s c = 0) (cs : List C) : Dt (r :: rows) (c :: cs) = r c * Dt rows cs := by
  show La r (Dt rows) (c :: cs) = _
  rw [La]
  have e : (fun x => Dt rows (c :: x)) = fun _ => 0 := by funext x; exact Xl h List.mem_cons_self
  rw [e, Qa]
  simp
theorem Agf (r : C -> Int) (c : C) : Dt [r] [c] = r c := by simp [Dt, La]
end
end Z
namespace Z
def shr (a : Nat) (F : Nat -> Nat -> Int) : Nat × Nat -> Int := fun c => if a <= c.2 then F c.1 (c.2 - a) else 0
def blk (F : Nat -> Nat -> Int) : Nat -> List (Nat × Nat -> Int)
  | 0 => []
  | a + 1 => shr a F :: blk F a
theorem Nm (F : Nat -> Nat -> Int) : ∀ a, (blk F a).length = a
  | 0 => rfl
  | a + 1 => by rw [blk, List.length_cons, Nm F a]
theorem Agt {F : Nat -> Nat -> Int} {a s : Nat} (h : s < a) : shr s F ∈ blk F a := by
  induction a with
  | zero => omega
  | succ a ih =>
    rw [blk]
    by_cases e : s = a
    . subst e; exact List.mem_cons_self
    . exact List.mem_cons_of_mem _ (ih (by omega))
theorem Ls {F : Nat -> Nat -> Int} {r : Nat × Nat -> Int} : ∀ {a : Nat}, r ∈ blk F a -> ∃ s, s < a /\ r = shr s F
  | 0, h => by cases h
  | a + 1, h => by
    rcases List.mem_cons.mp h with rfl | h
    . exact ⟨a, by omega, rfl⟩
    . obtain ⟨s, h1, h2⟩ := Ls h
      exact ⟨s, by omega, h2⟩
def dn (lo : Nat) : Nat -> List (Nat × Nat)
  | 0 => []
  | b + 1 => (0, lo + b) :: dn lo b
def Dg (F : Nat -> Nat -> Int) (n : Nat) : Prop := ∀ i, n <= i -> F 0 i = 0
theorem peel {G : Nat -> Nat -> Int} {m t lo b K : Nat} {rest : List (Nat × Nat -> Int)} {l : Nat × Nat} (hG : Dg G (m + 1)) (hK : ∀ r ∈ rest, ∀ i, K <= i -> r (0, i) = 0) (e : lo + b = m + t) (hk : K <= m + t) :
    ∀ u, Dt (blk G (t + u) ++ rest) (dn lo (b + u) ++ [l]) = G 0 m ^ u * Dt (blk G t ++ rest) (dn lo b ++ [l])
  | 0 => by simp
  | u + 1 => by
    show Dt (shr (t + u) G :: (blk G (t + u) ++ rest)) ((0, lo + (b + u)) :: (dn lo (b + u) ++ [l])) = _
    rw [Ajp]
    . rw [peel hG hK e hk u]
      have e1 : shr (t + u) G (0, lo + (b + u)) = G 0 m := by
        unfold shr
        rw [if_pos (show t + u <= lo + (b + u) by omega)]
        show G 0 (lo + (b + u) - (t + u)) = _
        rw [show lo + (b + u) - (t + u) = m by omega]
      rw [e1, Int.pow_succ]
      grind
    . intro s hs
      rcases List.mem_append.mp hs with hs | hs
      . obtain ⟨t', h1, rfl⟩ := Ls hs
        unfold shr
        rw [if_pos (show t' <= lo + (b + u) by omega)]
        exact hG _ (by show m + 1 <= lo + (b + u) - t'; omega)
      . exact hK s hs _ (by omega)
def Sr (j : Nat) (F : Nat -> Nat -> Int) (n : Nat) (G : Nat -> Nat -> Int) (m : Nat) (l : Nat × Nat) : Int := Dt (blk F (m - j) ++ blk G (n - j)) (dn (j + 1) (n + m - 2 * j - 1) ++ [l])
theorem Ajk (G : Nat -> Nat -> Int) : ∀ (q : List Int) (s b : Nat), s + q.length <= b -> Sn (blk G b) (shr s fun c => mu q (G c))
  | [], s, b, _ => by
    have e : (shr s fun c => mu [] (G c)) = fun _ => 0 := by
      funext c
      unfold shr
      split <;> rfl
    rw [e]
    exact .zero
  | a :: q, s, b, h => by
    have e : (shr s fun c => mu (a :: q) (G c)) = fun c => a * shr s G c + (shr (s + 1) fun c => mu q (G c)) c := by
      funext c
      unfold shr
      by_cases h1 : s + 1 <= c.2
      . rw [if_pos (by omega), if_pos (by omega), if_pos h1]
        show a * G c.1 (c.2 - s) + sh (mu q (G c.1)) (c.2 - s) = _
        rw [show c.2 - s = (c.2 - (s + 1)) + 1 by omega]
        rfl
      . by_cases h2 : s <= c.2
        . rw [if_pos h2, if_pos h2, if_neg h1]
          show a * G c.1 (c.2 - s) + sh (mu q (G c.1)) (c.2 - s) = _
          rw [show c.2 - s = 0 by omega]
          rfl
        . rw [if_neg h2, if_neg h2, if_neg h1]
          simp
    rw [e]
    rw [List.length_cons] at h
    exact .add a (Agt (by omega)) (Ajk G q (s + 1) b (by omega))
theorem Xh {F G R : Nat -> Nat -> Int} {L : Int} {q : List Int} {b : Nat} (h : ∀ c i, L * F c i = R c i + mu q (G c) i) : ∀ a, a + q.length <= b + 1 -> Rel L (blk G b) (blk F a) (blk R a)
  | 0, _ => .nil
  | a + 1, hb => by
    refine .cons (Ajk G q a b (by omega)) (fun c => ?_) (Xh h a (by omega))
    unfold shr
    split
    . exact h _ _
    . simp
theorem Yj {R : Nat -> Nat -> Int} {k a : Nat} (hR : Dg R k) : ∀ r ∈ blk R a, ∀ i, k + a <= i + 1 -> r (0, i) = 0 := fun r hr i hi => by
  obtain ⟨s, h1, rfl⟩ := Ls hr
  unfold shr
  split
  . exact hR _ (by show k <= i - s; omega)
  . rfl
section
variable {F G R : Nat -> Nat -> Int} {n m k : Nat} {L : Int} {q : List Int}
theorem Ahg (hG : Dg G (m + 1)) (hR : Dg R (k + 1)) (h : ∀ c i, L * F c i = R c i + mu q (G c) i) (hq : q.length <= n - m + 1) (hmn : m <= n) (j : Nat) (hj : j < m) (hk : j <= k) (hkm : k < m) :
    ∃ e, Sg e /\ ∀ l, L ^ (m - j) * Sr j F n G m l = e * (G 0 m ^ (n - k) * Sr j G m R k l) := by
  obtain ⟨e, he, hb⟩ := Uw (blk G (n - j)) (blk R (m - j))
  refine ⟨e, he, fun l => ?_⟩
  unfold Sr
  have h1 := Afx (Xh (F := F) (G := G) (R := R) h (m - j) (b := n - j) (by omega)) (dn (j + 1) (n + m - 2 * j - 1) ++ [l]) []
  rw [Nm, List.nil_append, List.nil_append] at h1
  rw [h1, hb]
  have h2 := peel (G := G) (m := m) (t := k - j) (lo := j + 1) (b := m + k - 2 * j - 1) (K := k + 1 + (m - j) - 1) (rest := blk R (m - j)) (l := l) hG (fun r hr i hi => Yj hR r hr i (by omega)) (by omega) (by omega) (n - k)
  rw [show k - j + (n - k) = n - j by omega, show m + k - 2 * j - 1 + (n - k) = n + m - 2 * j - 1 by omega] at h2
  rw [h2]
theorem Ah3 (hG : Dg G (m + 1)) (hR : Dg R m) (h : ∀ c i, L * F c i = R c i + mu q (G c) i) (hq : q.length <= n - m + 1) (hmn : m <= n) (hm : 1 <= m) :
    ∃ e, Sg e /\ ∀ l : Nat × Nat, L * Sr (m - 1) F n G m l = e * (G 0 m ^ (n - m + 1) * R l.1 l.2) := by
  obtain ⟨e, he, hb⟩ := Uw (blk G (n - (m - 1))) (blk R (m - (m - 1)))
  refine ⟨e, he, fun l => ?_⟩
  unfold Sr
  have h1 := Afx (Xh (F := F) (G := G) (R := R) h (m - (m - 1)) (b := n - (m - 1)) (by omega)) (dn (m - 1 + 1) (n + m - 2 * (m - 1) - 1) ++ [l]) []
  rw [Nm, List.nil_append, List.nil_append] at h1
  have e1 : m - (m - 1) = 1 := by omega
  rw [e1] at h1 hb ⊢
  rw [Int.pow_succ, Int.pow_zero, Int.one_mul] at h1
  rw [h1, hb]
  have h2 := peel (G := G) (m := m) (t := 0) (lo := m - 1 + 1) (b := 0) (K := m) (rest := blk R 1) (l := l) hG (fun r hr i hi => Yj hR r hr i (by omega)) (by omega) (by omega) (n - m + 1)
  rw [show 0 + (n - m + 1) = n - (m - 1) by omega] at h2
  rw [show n + m - 2 * (m - 1) - 1 = n - (m - 1) by omega, h2]
  congr 1
  congr 1
  show Dt [shr 0 R] [l] = _
  rw [Agf]
  rfl
theorem Ai4 (hG : Dg G (m + 1)) (hmn : m < n) (l : Nat × Nat) : Sr m F n G m l = G 0 m ^ (n - m - 1) * G l.1 l.2 := by
  unfold Sr
  rw [Nat.sub_self]
  show Dt ([] ++ blk G (n - m)) _ = _
  rw [List.nil_append]
  have h2 := peel (G := G) (m := m) (t := 1) (lo := m + 1) (b := 0) (K := 0) (rest := []) (l := l) hG (fun r hr => by cases hr) (by omega) (by omega) (n - m - 1)
  rw [show 1 + (n - m - 1) = n - m by omega, List.append_nil, List.append_nil] at h2
  rw [show n + m - 2 * m - 1 = 0 + (n - m - 1) by omega, h2]
  congr 1
  show Dt [shr 0 G] [l] = _
  rw [Agf]
  rfl
theorem V2 (T : Nat -> Nat -> Int) (β : Int) : ∀ a, blk (fun c i => β * T c i) a = (blk T a).map fun r c => β * r c
  | 0 => rfl
  | a + 1 => by
    rw [blk, blk, List.map_cons, V2 T β a]
    congr 1
    funext c
    unfold shr
    split <;> simp
theorem Afa (T : Nat -> Nat -> Int) (β : Int) (j : Nat) (l : Nat × Nat) : Sr j G m (fun c i => β * T c i) k l = β ^ (m - j) * Sr j G m T k l := by
  unfold Sr
  rw [V2]
  have h := Ad4 (k := β) (R := blk T (m - j)) [] (dn (j + 1) (m + k - 2 * j - 1) ++ [l]) (blk G (k - j))
  rw [List.append_nil, List.append_nil, Nm] at h
  exact h
end
theorem Mq {a : Int} (h : a ≠ 0) : ∀ n : Nat, a ^ n ≠ 0
  | 0 => by simp
  | n + 1 => by
    rw [Int.pow_succ]
    exact Int.mul_ne_zero (Mq h n) h
def Chn (F1 : Nat -> Nat -> Int) (n1 : Nat) (F2 : Nat -> Nat -> Int) (n2 : Nat) (F : Nat -> Nat -> Int) (n : Nat) (G : Nat -> Nat -> Int) (m : Nat) (l h : Int) : Prop :=
  ∀ j, j <= m -> j < n -> ∃ e, Sg e /\ ∀ c, h ^ (n - j - 1) * l ^ (m - j) * Sr j F1 n1 F2 n2 c = e * Sr j F n G m c
theorem Chn.start (F1 : Nat -> Nat -> Int) (n1 : Nat) (F2 : Nat -> Nat -> Int) (n2 : Nat) : Chn F1 n1 F2 n2 F1 n1 F2 n2 1 1 := fun j _ _ => ⟨1, .inl rfl, fun c => by rw [Int.one_pow, Int.one_pow]; simp⟩
section
variable {F1 F2 F G R T : Nat -> Nat -> Int} {n1 n2 n m k : Nat} {l h lg h' : Int} {q : List Int}
theorem Chn.rest (ch : Chn F1 n1 F2 n2 F n G m l h) (hG : Dg G (m + 1)) (hR : Dg R m) (hq : q.length <= n - m + 1) (hmn : m <= n) (hm : 1 <= m) (hl : G 0 m ≠ 0)
    (eq : ∀ c i, G 0 m ^ (n - m + 1) * F c i = R c i + mu q (G c) i) : ∃ e, Sg e /\ ∀ c i, R c i = l * h ^ (n - m) * (e * Sr (m - 1) F1 n1 F2 n2 (c, i)) := by
  obtain ⟨e, he, h1⟩ := ch (m - 1) (by omega) (by omega)
  obtain ⟨e', he', h2⟩ := Ah3 (F := F) (n := n) hG hR eq hq hmn hm
  refine ⟨e * e', he.mul he', fun c i => ?_⟩
  have a1 := h1 (c, i)
  have a2 := h2 (c, i)
  rw [show n - (m - 1) - 1 = n - m by omega, show m - (m - 1) = 1 by omega, Int.pow_succ, Int.pow_zero, Int.one_mul] at a1
  have hp := Mq hl (n - m + 1)
  generalize G 0 m ^ (n - m + 1) = L at *
  generalize Sr (m - 1) F n G m (c, i) = s at *
  have a3 : s = e' * R c i := by
    have : L * s = L * (e' * R c i) := by rw [a2]; grind
    exact Int.eq_of_mul_eq_mul_left hp this
  rw [a3] at a1
  have s1 := he.sq
  have s2 := he'.sq
  have : e * e' * (h ^ (n - m) * l * Sr (m - 1) F1 n1 F2 n2 (c, i)) = R c i := by
    rw [a1]
    have : e * e' * (e * (e' * R c i)) = (e * e) * (e' * e') * R c i := by grind
    rw [this, s1, s2]
    simp
  rw [<- this]
  grind
theorem Chn.height (ch : Chn F1 n1 F2 n2 F n G m l h) (hG : Dg G (m + 1)) (hmn : m < n) : ∃ e, Sg e /\ h ^ (n - m - 1) * (e * Sr m F1 n1 F2 n2 (0, m)) = G 0 m ^ (n - m) := by
  obtain ⟨e, he, h1⟩ := ch m (Nat.le_refl _) hmn
  refine ⟨e, he, ?_⟩
  have a1 := h1 (0, m)
  rw [Nat.sub_self, Int.pow_zero, Int.mul_one, Ai4 hG hmn] at a1
  have s1 := he.sq
  have e2 : G 0 m ^ (n - m) = G 0 m ^ (n - m - 1) * G 0 m := by
    rw [<- Int.pow_succ, show (n - m - 1).succ = n - m by omega]
  rw [e2]
  have : h ^ (n - m - 1) * (e * Sr m F1 n1 F2 n2 (0, m)) = e * (h ^ (n - m - 1) * Sr m F1 n1 F2 n2 (0, m)) := by grind
  rw [this, a1]
  have : e * (e * (G 0 m ^ (n - m - 1) * G 0 m)) = (e * e) * (G 0 m ^ (n - m - 1) * G 0 m) := by grind
  rw [this, s1]
  simp
theorem Chn.next (ch : Chn F1 n1 F2 n2 F n G m l h) (hG : Dg G (m + 1)) (hT : Dg T (k + 1)) (hq : q.length <= n - m + 1) (hmn : m <= n) (hkm : k < m) (hl : G 0 m ≠ 0) (l0 : l ≠ 0) (h0 : h ≠ 0)
    (eq : ∀ c i, G 0 m ^ (n - m + 1) * F c i = l * h ^ (n - m) * T c i + mu q (G c) i) (hh : (n = m /\ h' = h) \/ (m < n /\ h ^ (n - m - 1) * h' = G 0 m ^ (n - m))) : Chn F1 n1 F2 n2 G m T k (G 0 m) h' := by
  intro j hj hjm
  obtain ⟨e, he, h1⟩ := ch j (by omega) (by omega)
  obtain ⟨e', he', h2⟩ := Ahg (F := F) (n := n) (R := fun c i => l * h ^ (n - m) * T c i) (k := k) hG (fun i hi => by show l * h ^ (n - m) * T 0 i = 0; rw [hT i hi]; simp) eq hq hmn j hjm hj hkm
  refine ⟨e * e', he.mul he', fun c => ?_⟩
  have a1 := h1 c
  have a2 := h2 c
  rw [Afa] at a2
  generalize Sr j F1 n1 F2 n2 c = S at *
  generalize Sr j F n G m c = s at *
  generalize Sr j G m T k c = s' at *
  generalize hlg : G 0 m = lg at *
  have s1 := he.sq
  have s2 := he'.sq
  obtain ⟨E, hE⟩ : ∃ E, m - j = E + 1 := ⟨m - j - 1, by omega⟩
  obtain ⟨d, hd⟩ : ∃ d, n - m = d := ⟨_, rfl⟩
  have hn1 : n - j - 1 = d + E := by omega
  have hnk : n - k + (k - j) = d + E + 1 := by omega
  rw [hE, hd] at a2
  rw [hE, hn1] at a1
  rw [show m - j - 1 = E by omega]
  rw [hd] at hh
  have key : lg ^ (n - k) * h ^ (d * (E + 1)) * (h' ^ E * lg ^ (k - j)) = (lg ^ (d + 1)) ^ (E + 1) * h ^ (d + E) := by
    have p1 : lg ^ (n - k) * lg ^ (k - j) = lg ^ (d + E + 1) := by rw [<- Int.pow_add, hnk]
    rcases hh with ⟨hz, rfl⟩ | ⟨hz, hh⟩
    . have d0 : d = 0 := by omega
      subst d0
      rw [Nat.zero_mul, Int.pow_zero, Int.mul_one, Nat.zero_add, Nat.zero_add, Int.pow_one]
      rw [Nat.zero_add] at p1
      rw [<- p1]
      grind
    . obtain ⟨d', hd'⟩ : ∃ d', d = d' + 1 := ⟨d - 1, by omega⟩
      subst hd'
      rw [show d' + 1 - 1 = d' by omega] at hh
      have p2 : (h ^ d' * h') ^ E = (lg ^ (d' + 1)) ^ E := by rw [hh]
      rw [Int.mul_pow] at p2
      have p3 : h ^ ((d' + 1) * (E + 1)) = (h ^ d') ^ E * h ^ (d' + 1 + E) := by
        rw [<- Int.pow_mul, <- Int.pow_add]
        congr 1
        rw [Nat.add_mul, Nat.mul_add]
        omega
      have p4 : (lg ^ (d' + 1 + 1)) ^ (E + 1) = (lg ^ (d' + 1)) ^ E * lg ^ (d' + 1 + E + 1) := by
        rw [<- Int.pow_mul, <- Int.pow_mul, <- Int.pow_add]
        congr 1
        rw [Nat.add_mul, Nat.mul_add]
        omega
      rw [p3, p4, <- p2, <- p1]
      grind
  have big : lg ^ (n - k) * h ^ (d * (E + 1)) ≠ 0 := Int.mul_ne_zero (Mq hl _) (Mq h0 _)
  have lne : l ^ (E + 1) ≠ 0 := Mq l0 _
  have b1 : (l * h ^ d) ^ (E + 1) = l ^ (E + 1) * h ^ (d * (E + 1)) := by rw [Int.mul_pow, <- Int.pow_mul]
  rw [b1] at a2
  refine Int.eq_of_mul_eq_mul_left big ?_
  refine Int.eq_of_mul_eq_mul_left lne ?_
  have c1 : l ^ (E + 1) * (lg ^ (n - k) * h ^ (d * (E + 1)) * (h' ^ E * lg ^ (k - j) * S)) = (lg ^ (d + 1)) ^ (E + 1) * (h ^ (d + E) * l ^ (E + 1) * S) := by
    have : l ^ (E + 1) * (lg ^ (n - k) * h ^ (d * (E + 1)) * (h' ^ E * lg ^ (k - j) * S)) = (lg ^ (n - k) * h ^ (d * (E + 1)) * (h' ^ E * lg ^ (k - j))) * l ^ (E + 1) * S := by grind
    rw [this, key]
    grind
  rw [c1, a1]
  have c2 : (lg ^ (d + 1)) ^ (E + 1) * (e * s) = e * ((lg ^ (d + 1)) ^ (E + 1) * s) := by grind
  rw [c2, a2]
  grind
end
end Z
namespace Z
theorem Afi {C : Type} {r : C -> Int} {M B : Nat} (hr : ∀ c, (r c).natAbs <= M) : ∀ (cs : List C) (f : List C -> Int), (∀ ds, ds.length + 1 = cs.length -> (f ds).natAbs <= B) -> (La r f cs).natAbs <= cs.length * (M * B)
  | [], f, _ => by simp [La]
  | c :: cs, f, h => by
    rw [La]
    have h1 : (f cs).natAbs <= B := h cs (by simp)
    have h2 := Afi hr cs (fun x => f (c :: x)) fun ds hd => h (c :: ds) (by simp; omega)
    have h3 : (r c * f cs).natAbs <= M * B := by rw [Int.natAbs_mul]; exact Nat.mul_le_mul (hr c) h1
    rw [List.length_cons, Nat.succ_mul]
    omega
theorem Age {C : Type} {M L : Nat} (hL : 1 <= L * M) : ∀ (rows : List (C -> Int)) (cs : List C), (∀ r ∈ rows, ∀ c, (r c).natAbs <= M) -> cs.length <= L -> (Dt rows cs).natAbs <= (L * M) ^ rows.length
  | [], [], _, _ => by simp [Dt]
  | [], _ :: _, _, _ => by simp [Dt]
  | r :: rows, cs, h, hl => by
    show (La r (Dt rows) cs).natAbs <= _
    have h1 := Afi (r := r) (M := M) (B := (L * M) ^ rows.length) (h r List.mem_cons_self) cs (Dt rows) fun ds hd => Age hL rows ds (fun s hs => h s (List.mem_cons_of_mem _ hs)) (by omega)
    rw [List.length_cons, Nat.pow_succ, Nat.mul_comm _ (L * M)]
    refine Nat.le_trans h1 ?_
    rw [Nat.mul_assoc]
    exact Nat.mul_le_mul_right _ hl
theorem Af1 (lo : Nat) : ∀ b, (dn lo b).length = b
  | 0 => rfl
  | b + 1 => by rw [dn, List.length_cons, Af1 lo b]
theorem Aau {F : Nat -> Nat -> Int} {M : Nat} (h : ∀ c i, (F c i).natAbs <= M) (a : Nat) (c : Nat × Nat) : (shr a F c).natAbs <= M := by
  unfold shr
  split
  . exact h _ _
  . simp
theorem Afp {F G : Nat -> Nat -> Int} {n m j b : Nat} (hF : ∀ c i, (F c i).natAbs <= 2 ^ b) (hG : ∀ c i, (G c i).natAbs <= 2 ^ b) (hn : j <= n) (hm : j <= m) (h64 : n + m - 2 * j <= 64) (c : Nat × Nat) : (Sr j F n G m c).natAbs <= 2 ^ ((b + 6) * (n + m - 2 * j)) := by
  unfold Sr
  have e : (2 : Nat) ^ 6 * 2 ^ b = 2 ^ (b + 6) := by rw [<- Nat.pow_add, Nat.add_comm]
  have p1 : 1 <= 2 ^ 6 * 2 ^ b := by rw [e]; exact Nat.one_le_two_pow
  have h := Age (M := 2 ^ b) (L := 2 ^ 6) p1 (blk F (m - j) ++ blk G (n - j)) (dn (j + 1) (n + m - 2 * j - 1) ++ [c]) (fun r hr c => by
    rcases List.mem_append.mp hr with hr | hr
    . obtain ⟨s, _, rfl⟩ := Ls hr
      exact Aau hF _ _
    . obtain ⟨s, _, rfl⟩ := Ls hr
      exact Aau hG _ _) (by rw [List.length_append, Af1, List.length_singleton]; show _ <= 64; omega)
  rw [List.length_append, Nm, Nm, e, <- Nat.pow_mul] at h
  rw [show m - j + (n - j) = n + m - 2 * j by omega] at h
  exact h
theorem Aif {F G : Nat -> Nat -> Int} {n m j l : Nat} (hF : ∀ c i, l <= i -> F c i = 0) (hG : ∀ c i, l <= i -> G c i = 0) (hn : n < l) (hm : m < l) (c i : Nat) (hi : 2 * l <= i) : Sr j F n G m (c, i) = 0 := by
  unfold Sr
  refine Xl (c := (c, i)) (fun r hr => ?_) (by simp)
  rcases List.mem_append.mp hr with hr | hr
  . obtain ⟨s, hs, rfl⟩ := Ls hr
    unfold shr
    split
    . exact hF _ _ (by show l <= i - s; omega)
    . rfl
  . obtain ⟨s, hs, rfl⟩ := Ls hr
    unfold shr
    split
    . exact hG _ _ (by show l <= i - s; omega)
    . rfl
theorem Ag6 (x y : Nat) : 4 * (x * y) <= (x + y) * (x + y) := by
  rcases Nat.le_total x y with h | h
  . obtain ⟨d, rfl⟩ := Nat.exists_eq_add_of_le h
    have : (x + (x + d)) * (x + (x + d)) = 4 * (x * (x + d)) + d * d := by grind
    omega
  . obtain ⟨d, rfl⟩ := Nat.exists_eq_add_of_le h
    have : (y + d + y) * (y + d + y) = 4 * ((y + d) * y) + d * d := by grind
    omega
theorem Z2 {l b x n1 n2 s : Nat} (h1 : n1 < l) (h2 : n2 < l) (hx : x <= n1) (hs : s <= x) : 2 * (s * ((b + 6) * (n1 + n2 - 2 * x) + 1)) <= l * l * (b + 6) + 2 * l := by
  by_cases hz : n1 + n2 <= 2 * x
  . rw [show n1 + n2 - 2 * x = 0 by omega]
    have := Nat.zero_le (l * l * (b + 6))
    omega
  . have e1 : 2 * (x * (n1 + n2 - 2 * x)) <= l * l := by
      have h3 := Ag6 (2 * x) (n1 + n2 - 2 * x)
      have h4 : 2 * x + (n1 + n2 - 2 * x) = n1 + n2 := by omega
      rw [h4] at h3
      have h5 : (n1 + n2) * (n1 + n2) <= (2 * l) * (2 * l) := Nat.mul_le_mul (by omega) (by omega)
      have h6 : 4 * (2 * x * (n1 + n2 - 2 * x)) = 4 * (2 * (x * (n1 + n2 - 2 * x))) := by rw [Nat.mul_assoc]
      have h7 : (2 * l) * (2 * l) = 4 * (l * l) := by grind
      omega
    have e2 : s * ((b + 6) * (n1 + n2 - 2 * x)) <= x * ((b + 6) * (n1 + n2 - 2 * x)) := Nat.mul_le_mul_right _ hs
    have e3 : x * ((b + 6) * (n1 + n2 - 2 * x)) = (x * (n1 + n2 - 2 * x)) * (b + 6) := by grind
    have e4 := Nat.mul_le_mul_right (b + 6) e1
    have e5 : 2 * (x * (n1 + n2 - 2 * x)) * (b + 6) = 2 * (x * (n1 + n2 - 2 * x) * (b + 6)) := by rw [Nat.mul_assoc]
    rw [Nat.mul_add, Nat.mul_one]
    omega
end Z
namespace Z
def Dv (d f : List Int) : Prop := ∃ (c : Int) (u : List Int), c ≠ 0 /\ ∀ i, c * co f i = mu u (co d) i
theorem Tz (a : Int) (u : List Int) (f : Nat -> Int) (i : Nat) : mu (u.map (a * ·)) f i = a * mu u f i := congrFun (Jr f a u) i
theorem Vp {f g : Nat -> Int} (h : ∀ i, f i = g i) (p : List Int) (i : Nat) : mu p f i = mu p g i := by
  have : f = g := funext h
  rw [this]
theorem Dv.nil (d : List Int) : Dv d [] := ⟨1, [], by decide, fun i => by rw [Bu]; rfl⟩
theorem Dv.refl (d : List Int) : Dv d d := ⟨1, [1], by decide, fun i => by
  show 1 * co d i = 1 * co d i + sh (mu [] (co d)) i
  have : sh (mu [] (co d)) i = 0 := by cases i <;> rfl
  omega⟩
theorem Dv.congr {d f g : List Int} (h : Dv d f) (e : ∀ i, co f i = co g i) : Dv d g := by
  obtain ⟨c, u, hc, hu⟩ := h
  exact ⟨c, u, hc, fun i => by rw [<- e]; exact hu i⟩
theorem Dv.trans {d f g : List Int} (h1 : Dv d f) (h2 : Dv f g) : Dv d g := by
  obtain ⟨c, u, hc, hu⟩ := h1
  obtain ⟨e, v, he, hv⟩ := h2
  refine ⟨c * e, ml v u, Int.mul_ne_zero hc he, fun i => ?_⟩
  rw [Xf]
  have : mu v (fun k => c * co f k) i = c * mu v (co f) i := congrFun (Tg v c (co f)) i
  rw [<- Vp hu v i, this, <- hv]
  rw [Int.mul_assoc]
theorem Dv.comb {d f g h : List Int} (hf : Dv d f) (hg : Dv d g) {k : Int} (hk : k ≠ 0) {a b : List Int} (e : ∀ i, k * co h i = mu a (co f) i + mu b (co g) i) : Dv d h := by
  obtain ⟨c, u, hc, hu⟩ := hf
  obtain ⟨c', v, hc', hv⟩ := hg
  refine ⟨c * c' * k, al ((ml a u).map (c' * ·)) ((ml b v).map (c * ·)), Int.mul_ne_zero (Int.mul_ne_zero hc hc') hk, fun i => ?_⟩
  rw [W3]
  dsimp only
  rw [Tz, Tz, Xf, Xf]
  have e1 : mu a (mu u (co d)) i = c * mu a (co f) i := by
    rw [<- Vp hu a i]
    exact congrFun (Tg a c (co f)) i
  have e2 : mu b (mu v (co d)) i = c' * mu b (co g) i := by
    rw [<- Vp hv b i]
    exact congrFun (Tg b c' (co g)) i
  rw [e1, e2, Int.mul_assoc, e]
  grind
theorem Dv.zero {f : List Int} (hf : Tr f) (h : Dv [] f) : f = [] := by
  obtain ⟨c, u, hc, hu⟩ := h
  refine hf.ext (.inl rfl) fun i => ?_
  have := hu i
  have e : mu u (co []) i = 0 := by
    have : mu u (fun _ => 0) i = 0 := congrFun (Q8 u) i
    rw [<- this]
    exact Vp (fun k => Bu k) u i
  rw [e] at this
  rw [Bu]
  rcases Int.mul_eq_zero.mp this with z | z
  . exact absurd z hc
  . exact z
theorem Dv.scale {d f g : List Int} (h : Dv d f) {a b : Int} (hb : b ≠ 0) (e : ∀ i, b * co g i = a * co f i) : Dv d g := by
  obtain ⟨c, u, hc, hu⟩ := h
  refine ⟨c * b, u.map (a * ·), Int.mul_ne_zero hc hb, fun i => ?_⟩
  rw [Tz, <- hu, Int.mul_assoc, e]
  grind
theorem Dv.len {d f : List Int} (hd : Tr d) (hf : Tr f) (n : f ≠ []) (h : Dv d f) : d ≠ [] /\ d.length <= f.length := by
  have hd0 : d ≠ [] := fun z => by rw [z] at h; exact n (h.zero hf)
  refine ⟨hd0, ?_⟩
  obtain ⟨c, u, hc, hu⟩ := h
  have hcf : ∀ i, co (tm u d) i = c * co f i := fun i => by rw [Fo, hu]
  have ln : tm u d ≠ [] := fun z => by
    have := hcf (f.length - 1)
    rw [z, Bu] at this
    rcases Int.mul_eq_zero.mp this.symm with q | q
    . exact hc q
    . exact hf.lead n q
  have hu0 : trim u ≠ [] := fun z => ln (by
    refine (Jk u d).ext (.inl rfl) fun i => ?_
    rw [Fo, <- congrFun (Cq (co d) _ _ (Bc u)) i, z, Bu]
    rfl)
  have e1 : tm u d = tm (trim u) d := (Jk _ _).ext (Jk _ _) fun i => by rw [Fo, Fo, congrFun (Cq (co d) _ _ (Bc u)) i]
  have l1 := Sv (Bo u) hd hu0 hd0
  have l2 : (tm u d).length <= f.length := by
    refine Nat.le_of_not_lt fun z => ?_
    have := (Jk u d).lead ln
    rw [hcf, Bl (by omega)] at this
    simp at this
  have l3 := List.length_pos_iff.mpr hu0
  rw [e1] at l2
  omega
structure Gc (p q g : List Int) : Prop where
  tr : Tr g
  pl : pln g = g
  one : Dv g p
  two : Dv g q
  all : ∀ d, Dv d p -> Dv d q -> Dv d g
theorem Gc.symm {p q g : List Int} (h : Gc p q g) : Gc q p g := ⟨h.tr, h.pl, h.two, h.one, fun d a b => h.all d b a⟩
theorem Xd {g : List Int} (hg : Tr g) (n : g ≠ []) (e : pln g = g) : 0 < co g (g.length - 1) := by
  have := O9 hg n
  rw [e] at this
  exact this
theorem Agp {g h : List Int} (tg : Tr g) (th : Tr h) (pg : pln g = g) (ph : pln h = h) (a : Dv g h) (b : Dv h g) : g = h := by
  by_cases n : g = []
  . subst n
    exact (a.zero th).symm
  . have nh : h ≠ [] := fun z => by rw [z] at b; exact n (b.zero tg)
    have l1 := (a.len tg th nh).2
    have l2 := (b.len th tg n).2
    obtain ⟨c, u, hc, hu⟩ := a
    have hcf : ∀ i, co (tm u g) i = c * co h i := fun i => by rw [Fo, hu]
    have ln : tm u g ≠ [] := fun z => by
      have := hcf (h.length - 1)
      rw [z, Bu] at this
      rcases Int.mul_eq_zero.mp this.symm with q | q
      . exact hc q
      . exact th.lead nh q
    have hu0 : trim u ≠ [] := fun z => ln (by
      refine (Jk u g).ext (.inl rfl) fun i => ?_
      rw [Fo, <- congrFun (Cq (co g) _ _ (Bc u)) i, z, Bu]
      rfl)
    have e1 : tm u g = tm (trim u) g := (Jk _ _).ext (Jk _ _) fun i => by rw [Fo, Fo, congrFun (Cq (co g) _ _ (Bc u)) i]
    have l3 := Sv (Bo u) tg hu0 n
    have l4 : (tm u g).length <= h.length := by
      refine Nat.le_of_not_lt fun z => ?_
      have := (Jk u g).lead ln
      rw [hcf, Bl (by omega)] at this
      simp at this
    rw [e1] at l4
    have l5 := List.length_pos_iff.mpr hu0
    have lu : (trim u).length = 1 := by omega
    obtain ⟨k, hk⟩ : ∃ k, trim u = [k] := by
      match hm : trim u, lu with
      | [k], _ => exact ⟨k, rfl⟩
    have hk0 : k ≠ 0 := by
      have := (Bo u).lead hu0
      rw [hk] at this
      exact this
    have eq : ∀ i, k * co g i = c * co h i := fun i => by
      rw [<- hcf, e1, Fo, hk]
      show k * co g i = k * co g i + sh (mu [] (co g)) i
      have : sh (mu [] (co g)) i = 0 := by cases i <;> rfl
      omega
    have q1 : Prim g := by have := Jo tg n; rw [pg] at this; exact this
    have q2 : Prim h := by have := Jo th nh; rw [ph] at this; exact this
    have r := Ye hk0 hc q1 q2 eq (Xd tg n pg) (fun i hi => Bl (by omega)) (Xd th nh ph) (fun i hi => Bl (by omega))
    exact tg.ext th r.2
theorem Gc.uniq {p q g h : List Int} (a : Gc p q g) (b : Gc p q h) : g = h := Agp a.tr b.tr a.pl b.pl (b.all g a.one a.two) (a.all h b.one b.two)
theorem Adc {r : List Int} (hr : Tr r) : Dv (pln r) r /\ Dv r (pln r) := by
  by_cases n : r = []
  . subst n
    exact ⟨Dv.nil _, Dv.refl _⟩
  . have h := Oc hr n
    have u0 := Xi hr n
    exact ⟨(Dv.refl (pln r)).scale (a := un r) (b := 1) (by decide) fun i => by rw [h]; omega, (Dv.refl r).scale (a := 1) (b := un r) u0 fun i => by rw [h]; omega⟩
theorem Yq {r : List Int} (hr : Tr r) : pln (pln r) = pln r := by
  by_cases n : r = []
  . subst n; rfl
  . exact (Ajt (Rh hr) (Xi hr n) hr fun k => (Oc hr n k).symm).symm
def Lj (f g p q : List Int) : Prop := ∀ d, (Dv d f /\ Dv d g) ↔ (Dv d p /\ Dv d q)
theorem Lj.refl (f g : List Int) : Lj f g f g := fun _ => Iff.rfl
theorem Lj.trans {f g p q r s : List Int} (h : Lj f g p q) (k : Lj p q r s) : Lj f g r s := fun d => (h d).trans (k d)
theorem Tw {f g t q : List Int} {L k : Int} (hL : L ≠ 0) (hk : k ≠ 0) (e : ∀ i, L * co f i = k * co t i + mu q (co g) i) : Lj g t f g := fun d => by
  constructor
  . rintro ⟨a, b⟩
    refine ⟨Dv.comb a b hL (a := q) (b := [k]) fun i => ?_, a⟩
    rw [e]
    have : mu [k] (co t) i = k * co t i := by
      show k * co t i + sh (mu [] (co t)) i = _
      have : sh (mu [] (co t)) i = 0 := by cases i <;> rfl
      omega
    rw [this]
    omega
  . rintro ⟨a, b⟩
    refine ⟨b, Dv.comb a b hk (a := [L]) (b := q.map (-1 * ·)) fun i => ?_⟩
    rw [Tz]
    have : mu [L] (co f) i = L * co f i := by
      show L * co f i + sh (mu [] (co f)) i = _
      have : sh (mu [] (co f)) i = 0 := by cases i <;> rfl
      omega
    rw [this, e]
    omega
theorem Afj {f p q : List Int} (hf : Tr f) (h : Lj f [] p q) : Gc p q (pln f) := by
  have ⟨a, b⟩ := Adc hf
  have ⟨c, d⟩ := (h (pln f)).mp ⟨a, Dv.nil _⟩
  exact ⟨Rh hf, Yq hf, c, d, fun x hx hy => ((h x).mpr ⟨hx, hy⟩).1.trans b⟩
theorem O8 (c : Int) (hc : c ≠ 0) (f : List Int) : Dv [c] f := ⟨c, f, hc, fun i => by
  have e : mu f (fun i => c * if i = 0 then 1 else 0) i = c * mu f (fun i => if i = 0 then 1 else 0) i := congrFun (Tg f c _) i
  have : co [c] = fun i => c * if i = 0 then 1 else 0 := by
    funext i
    cases i with
    | zero => rw [Ft]; simp
    | succ i => rw [Fv, Bu]; simp
  rw [this, e, Yo]⟩
theorem Aes {f p q : List Int} {c : Int} (hc : c ≠ 0) (h : Lj f [c] p q) : Gc p q (pln [c]) := by
  have tc : Tr [c] := .inr ⟨by simp, by simpa using hc⟩
  have ⟨a, b⟩ := Adc tc
  have u : ∀ x, Dv (pln [c]) x := fun x => a.trans (O8 c hc x)
  exact ⟨Rh tc, Yq tc, u p, u q, fun x hx hy => ((h x).mpr ⟨hx, hy⟩).2.trans b⟩
end Z
namespace Z
theorem Acq : ∀ (d n : Nat) (f : Nat -> Nat), (∀ i, i < n -> f i < d) -> (∀ i j, i < n -> j < n -> f i = f j -> i = j) -> n <= d
  | 0, n, f, h, _ => by
    refine Nat.le_of_not_lt fun z => ?_
    exact absurd (h 0 (by omega)) (Nat.not_lt_zero _)
  | d + 1, n, f, h, inj => by
    by_cases hx : ∃ i, i < n /\ f i = d
    . obtain ⟨i0, h0, e0⟩ := hx
      have := Acq d (n - 1) (fun k => f (if k < i0 then k else k + 1)) (fun i hi => by
        have a := h (if i < i0 then i else i + 1) (by split <;> omega)
        have b : f (if i < i0 then i else i + 1) ≠ d := fun z => by
          have := inj _ _ (by split <;> omega) h0 (z.trans e0.symm)
          split at this <;> omega
        omega) (fun i j hi hj e => by
        have := inj _ _ (by split <;> omega) (by split <;> omega) e
        split at this <;> split at this <;> omega)
      omega
    . have := Acq d n f (fun i hi => by
        have a := h i hi
        have b : f i ≠ d := fun z => hx ⟨i, hi, z⟩
        omega) inj
      omega
def pm (m : Nat) : Nat -> Nat -> Nat -> Nat
  | 0, _, _ => 1 % m
  | k + 1, b, e => if e % 2 = 1 then b * pm m k (b * b % m) (e / 2) % m else pm m k (b * b % m) (e / 2) % m
theorem Ahz (m : Nat) : ∀ (k b e : Nat), e < 2 ^ k -> pm m k b e = b ^ e % m
  | 0, b, e, h => by
    have : e = 0 := by simp at h; exact h
    subst this
    simp [pm]
  | k + 1, b, e, h => by
    have h2 : e / 2 < 2 ^ k := by rw [Nat.pow_succ] at h; omega
    have ih := Ahz m k (b * b % m) (e / 2) h2
    have e1 : (b * b % m) ^ (e / 2) % m = (b * b) ^ (e / 2) % m := (Nat.pow_mod (b * b) (e / 2) m).symm
    have e2 : (b * b) ^ (e / 2) = b ^ (2 * (e / 2)) := by rw [Nat.pow_mul, Nat.pow_succ, Nat.pow_one]
    rw [pm, ih, e1, e2]
    by_cases o : e % 2 = 1
    . rw [if_pos o]
      have e3 : b ^ e = b * b ^ (2 * (e / 2)) := by
        rw [<- Nat.pow_succ']
        congr 1
        omega
      rw [e3]
      rw [Nat.mul_mod b (b ^ (2 * (e / 2)) % m), Nat.mod_mod, <- Nat.mul_mod]
    . rw [if_neg o, Nat.mod_mod]
      congr 2
      omega
section
variable {d g : Nat}
def Lv (d g e : Nat) : Prop := ∃ k : Int, ((g ^ e : Nat) : Int) = 1 + d * k
theorem Lv.mul {a b : Nat} (ha : Lv d g a) (hb : Lv d g b) : Lv d g (a + b) := by
  obtain ⟨x, hx⟩ := ha
  obtain ⟨y, hy⟩ := hb
  refine ⟨x + y + d * x * y, ?_⟩
  rw [Nat.pow_add, Int.natCast_mul, hx, hy]
  grind
theorem Lv.many {a : Nat} (ha : Lv d g a) : ∀ n, Lv d g (n * a)
  | 0 => ⟨0, by simp⟩
  | n + 1 => by
    rw [Nat.add_mul, Nat.one_mul]
    exact (ha.many n).mul ha
theorem Lv.diff {a b : Nat} (ha : Lv d g a) (hb : Lv d g (a + b)) : Lv d g b := by
  obtain ⟨x, hx⟩ := ha
  obtain ⟨y, hy⟩ := hb
  refine ⟨y - x * (g ^ b : Nat), ?_⟩
  rw [Nat.pow_add, Int.natCast_mul, hx] at hy
  grind
theorem Lv.gcd {a : Nat} : ∀ {b : Nat}, Lv d g a -> Lv d g b -> Lv d g (Nat.gcd a b) := fun {b} => by
  induction a using Nat.strongRecOn generalizing b with
  | _ a ih =>
    intro ha hb
    by_cases z : a = 0
    . subst z; rw [Nat.gcd_zero_left]; exact hb
    . rw [Nat.gcd_rec]
      have h1 : Lv d g (b % a) := by
        have := Nat.div_add_mod b a
        rw [<- this] at hb
        refine Lv.diff (a := a * (b / a)) ?_ hb
        rw [Nat.mul_comm]
        exact ha.many _
      exact ih (b % a) (Nat.mod_lt _ (by omega)) h1 ha
end
theorem Aeg {f : Nat} (h : ∀ r, r <= f -> r ∣ f -> r = 1 \/ r = f) (hf : 0 < f) {r : Nat} (h2 : 2 <= r) (hd : r ∣ f) : r = f := by
  rcases h r (Nat.le_of_dvd hf hd) hd with z | z
  . omega
  . exact z
def M61 : Nat := 2305843009213693951
set_option maxRecDepth 100000 in
theorem Ail {d : Nat} (h : d ∣ M61) (h1 : 1 < d) : d = M61 := by
  have dpos : 0 < d := by omega
  have full : Lv d 37 (M61 - 1) := by
    have e : pm M61 61 37 (M61 - 1) = 1 := by decide +kernel
    rw [Ahz M61 61 37 (M61 - 1) (by decide)] at e
    obtain ⟨t, ht⟩ := h
    refine ⟨(t * (37 ^ (M61 - 1) / M61) : Nat), ?_⟩
    have q := Nat.div_add_mod (37 ^ (M61 - 1)) M61
    rw [e] at q
    have q2 : ((37 ^ (M61 - 1) : Nat) : Int) = ((M61 * (37 ^ (M61 - 1) / M61) + 1 : Nat) : Int) := by rw [q]
    rw [q2]
    generalize 37 ^ (M61 - 1) / M61 = z
    have ht' : ((M61 : Nat) : Int) = (d : Int) * t := by rw [<- Int.natCast_mul, <- ht]
    rw [Int.natCast_add, Int.natCast_mul, ht', Int.natCast_mul]
    grind
  have part : ∀ f : Nat, f ∣ M61 - 1 -> Nat.gcd (pm M61 61 37 ((M61 - 1) / f) + (M61 - 1)) M61 = 1 -> ¬ Lv d 37 ((M61 - 1) / f) := fun f hf hg hl => by
    have lt : (M61 - 1) / f < 2 ^ 61 := Nat.lt_of_le_of_lt (Nat.div_le_self _ _) (by decide)
    rw [Ahz M61 61 37 _ lt] at hg
    obtain ⟨k, hk⟩ := hl
    have hd : d ∣ 37 ^ ((M61 - 1) / f) % M61 + (M61 - 1) := by
      obtain ⟨t, ht⟩ := h
      have q := Nat.div_add_mod (37 ^ ((M61 - 1) / f)) M61
      generalize 37 ^ ((M61 - 1) / f) = w at *
      have ht' : ((M61 : Nat) : Int) = (d : Int) * t := by rw [<- Int.natCast_mul, <- ht]
      have m1 : 1 <= M61 := by decide
      have : ((d : Nat) : Int) ∣ ((w % M61 + (M61 - 1) : Nat) : Int) := by
        refine ⟨k + t - t * ((w / M61 : Nat) : Int), ?_⟩
        have q2 : (w : Int) = (d : Int) * t * ((w / M61 : Nat) : Int) + ((w % M61 : Nat) : Int) := by
          rw [<- ht', <- Int.natCast_mul, <- Int.natCast_add, q]
        have q3 : ((w % M61 + (M61 - 1) : Nat) : Int) = ((w % M61 : Nat) : Int) + (M61 : Int) - 1 := by omega
        rw [q3, ht']
        grind
      exact Int.natCast_dvd_natCast.mp this
    have := Nat.dvd_gcd hd h
    rw [hg] at this
    have := Nat.le_of_dvd (by decide) this
    omega
  have inj : ∀ i j, i < j -> j < M61 - 1 -> 37 ^ i % d ≠ 37 ^ j % d := fun i j hij hj e => by
    have l1 : Lv d 37 (j - i) := by
      have l2 : Lv d 37 (M61 - 1 + (j - i)) := by
        obtain ⟨x, hx⟩ := full
        have q1 := Nat.div_add_mod (37 ^ i) d
        have q2 := Nat.div_add_mod (37 ^ j) d
        rw [e] at q1
        have dif : ((37 ^ j : Nat) : Int) = ((37 ^ i : Nat) : Int) + d * (((37 ^ j / d : Nat) : Int) - ((37 ^ i / d : Nat) : Int)) := by
          have a1 : ((37 ^ i : Nat) : Int) = d * ((37 ^ i / d : Nat) : Int) + ((37 ^ j % d : Nat) : Int) := by
            rw [<- Int.natCast_mul, <- Int.natCast_add, q1]
          have a2 : ((37 ^ j : Nat) : Int) = d * ((37 ^ j / d : Nat) : Int) + ((37 ^ j % d : Nat) : Int) := by
            rw [<- Int.natCast_mul, <- Int.natCast_add, q2]
          rw [a1, a2]
          grind
        have e1 : 37 ^ (M61 - 1 + (j - i)) = 37 ^ (M61 - 1 - i) * 37 ^ j := by
          rw [<- Nat.pow_add]
          congr 1
          omega
        have e2 : 37 ^ (M61 - 1) = 37 ^ (M61 - 1 - i) * 37 ^ i := by
          rw [<- Nat.pow_add]
          congr 1
          omega
        refine ⟨x + ((37 ^ (M61 - 1 - i) : Nat) : Int) * (((37 ^ j / d : Nat) : Int) - ((37 ^ i / d : Nat) : Int)), ?_⟩
        rw [e1, Int.natCast_mul, dif]
        rw [e2, Int.natCast_mul] at hx
        grind
      exact full.diff l2
    have l3 := Lv.gcd full l1
    have gd : Nat.gcd (M61 - 1) (j - i) ∣ M61 - 1 := Nat.gcd_dvd_left _ _
    have gle : Nat.gcd (M61 - 1) (j - i) <= j - i := Nat.le_of_dvd (by omega) (Nat.gcd_dvd_right _ _)
    obtain ⟨t, ht⟩ := gd
    generalize Nat.gcd (M61 - 1) (j - i) = e at *
    have t1 : t ≠ 1 := fun z => by rw [z] at ht; omega
    obtain ⟨r, r2, rd, rp⟩ := Yr t t1
    have rM : r ∣ M61 - 1 := by rw [ht]; exact Nat.dvd_trans rd (Nat.dvd_mul_left _ _)
    have l4 : Lv d 37 ((M61 - 1) / r) := by
      obtain ⟨s, hs⟩ := rd
      have : (M61 - 1) / r = s * e := by
        rw [ht, hs, show e * (r * s) = r * (s * e) by grind]
        exact Nat.mul_div_cancel_left _ (by omega)
      rw [this]
      exact l3.many s
    have fac : ((M61 - 1 : Nat) : Int) = 2 * (3 * (3 * (5 * (5 * (7 * (11 * (13 * (31 * (41 * (61 * (151 * (331 * 1321)))))))))))) := by decide
    have rM' : (r : Int) ∣ ((M61 - 1 : Nat) : Int) := Int.natCast_dvd_natCast.mpr rM
    rw [fac] at rM'
    have dn : ∀ {f : Nat}, (r : Int) ∣ (f : Nat) -> r ∣ f := fun h => Int.natCast_dvd_natCast.mp h
    have fin : ∀ {f : Nat}, (r : Int) ∣ (f : Nat) -> (∀ r, r <= f -> r ∣ f -> r = 1 \/ r = f) -> 0 < f -> f ∣ M61 - 1 -> Nat.gcd (pm M61 61 37 ((M61 - 1) / f) + (M61 - 1)) M61 = 1 -> False := fun hd hs hf hm hg => by
      have := Aeg hs hf r2 (dn hd)
      subst this
      exact part _ hm hg l4
    rcases rp _ _ rM' with z | z
    . exact fin (f := 2) z (by decide) (by decide) (by decide) (by decide +kernel)
    rcases rp _ _ z with z | z
    . exact fin (f := 3) z (by decide) (by decide) (by decide) (by decide +kernel)
    rcases rp _ _ z with z | z
    . exact fin (f := 3) z (by decide) (by decide) (by decide) (by decide +kernel)
    rcases rp _ _ z with z | z
    . exact fin (f := 5) z (by decide) (by decide) (by decide) (by decide +kernel)
    rcases rp _ _ z with z | z
    . exact fin (f := 5) z (by decide) (by decide) (by decide) (by decide +kernel)
    rcases rp _ _ z with z | z
    . exact fin (f := 7) z (by decide) (by decide) (by decide) (by decide +kernel)
    rcases rp _ _ z with z | z
    . exact fin (f := 11) z (by decide) (by decide) (by decide) (by decide +kernel)
    rcases rp _ _ z with z | z
    . exact fin (f := 13) z (by decide) (by decide) (by decide) (by decide +kernel)
    rcases rp _ _ z with z | z
    . exact fin (f := 31) z (by decide) (by decide) (by decide) (by decide +kernel)
    rcases rp _ _ z with z | z
    . exact fin (f := 41) z (by decide) (by decide) (by decide) (by decide +kernel)
    rcases rp _ _ z with z | z
    . exact fin (f := 61) z (by decide) (by decide) (by decide) (by decide +kernel)
    rcases rp _ _ z with z | z
    . exact fin (f := 151) z (by decide) (by decide) (by decide) (by decide +kernel)
    rcases rp _ _ z with z | z
    . exact fin (f := 331) z (by decide +kernel) (by decide) (by decide) (by decide +kernel)
    . exact fin (f := 1321) z (by decide +kernel) (by decide) (by decide) (by decide +kernel)
  have big : M61 - 1 <= d := by
    refine Acq d (M61 - 1) (fun i => 37 ^ i % d) (fun i _ => Nat.mod_lt _ dpos) fun i j hi hj e => ?_
    rcases Nat.lt_trichotomy i j with z | z | z
    . exact absurd e (inj i j z hj)
    . exact z
    . exact absurd e.symm (inj j i z hi)
  obtain ⟨t, ht⟩ := h
  have t1 : t = 1 := by
    have : t < 2 := by
      refine Nat.lt_of_not_le fun z => ?_
      have := Nat.mul_le_mul big z
      rw [<- ht] at this
      exact absurd this (by decide)
    have : t ≠ 0 := fun z => by rw [z, Nat.mul_zero] at ht; exact absurd ht (by decide)
    omega
  rw [t1] at ht
  omega
theorem Aig {a : Int} (h : ¬ (2305843009213693951 : Int) ∣ a) : Int.gcd a 2305843009213693951 = 1 := by
  have h1 : Int.gcd a 2305843009213693951 ∣ M61 := by
    have := Int.gcd_dvd_right a 2305843009213693951
    exact Int.natCast_dvd_natCast.mp this
  by_cases z : Int.gcd a 2305843009213693951 = 1
  . exact z
  . exfalso
    have p : 0 < Int.gcd a 2305843009213693951 := Int.gcd_pos_of_ne_zero_right _ (by decide)
    have e := Ail h1 (by omega)
    have := Int.gcd_dvd_left a 2305843009213693951
    rw [e] at this
    exact h this
end Z
namespace Z
def Dm (t : Int) (d f : List Int) : Prop := ∃ u : List Int, ∀ i, t ∣ co f i - mu u (co d) i
theorem Agu (p : List Int) (f g : Nat -> Int) (i : Nat) : mu p f i - mu p g i = mu p (fun k => f k - g k) i := by
  have h1 := congrFun (Yi p (fun k => f k - g k) g) i
  have h2 : (fun k => f k - g k + g k) = f := by funext k; omega
  rw [h2] at h1
  omega
theorem W2 {t : Int} {f g : Nat -> Int} (h : ∀ i, t ∣ f i - g i) (p : List Int) (i : Nat) : t ∣ mu p f i - mu p g i := by
  rw [Agu]
  exact Acu t p _ i fun j _ => h j
theorem Yp {t a b c : Int} (h1 : t ∣ a - b) (h2 : t ∣ b - c) : t ∣ a - c := by
  have := Int.dvd_add h1 h2
  rw [show a - b + (b - c) = a - c by omega] at this
  exact this
theorem Ug {t a b : Int} (h : t ∣ a - b) : t ∣ b - a := by
  have := (Int.dvd_neg (a := t) (b := a - b)).mpr h
  rw [show -(a - b) = b - a by omega] at this
  exact this
theorem Dm.refl (t : Int) (d : List Int) : Dm t d d := ⟨[1], fun i => by
  have : mu [1] (co d) i = co d i := by
    show 1 * co d i + sh (mu [] (co d)) i = _
    have : sh (mu [] (co d)) i = 0 := by cases i <;> rfl
    omega
  rw [this, Int.sub_self]
  exact Int.dvd_zero _⟩
theorem Dm.nil (t : Int) (d : List Int) : Dm t d [] := ⟨[], fun i => by
  rw [Bu]
  exact ⟨0, by simp [mu]⟩⟩
theorem Dm.comb {t : Int} {d f g h : List Int} (hf : Dm t d f) (hg : Dm t d g) {a b : List Int} (e : ∀ i, t ∣ co h i - (mu a (co f) i + mu b (co g) i)) : Dm t d h := by
  obtain ⟨u, hu⟩ := hf
  obtain ⟨v, hv⟩ := hg
  refine ⟨al (ml a u) (ml b v), fun i => ?_⟩
  rw [W3]
  dsimp only
  rw [Xf, Xf]
  have h1 := W2 hu a i
  have h2 := W2 hv b i
  have h3 := Int.dvd_add h1 h2
  refine Yp (e i) ?_
  rw [show mu a (co f) i + mu b (co g) i - (mu a (mu u (co d)) i + mu b (mu v (co d)) i) = mu a (co f) i - mu a (mu u (co d)) i + (mu b (co g) i - mu b (mu v (co d)) i) by omega]
  exact h3
theorem Akv (k : Int) (f : Nat -> Int) (i : Nat) : mu [k] f i = k * f i := by
  show k * f i + sh (mu [] f) i = _
  have : sh (mu [] f) i = 0 := by cases i <;> rfl
  omega
theorem Dm.by {t : Int} {d f g : List Int} (h : Dm t d f) {k : Int} (e : ∀ i, t ∣ co g i - k * co f i) : Dm t d g :=
  Dm.comb h (Dm.nil t d) (a := [k]) (b := []) fun i => by
    rw [Akv]
    have : mu [] (co []) i = 0 := rfl
    rw [this, Int.add_zero]
    exact e i
theorem Dm.congr {t : Int} {d f g : List Int} (h : Dm t d f) (e : ∀ i, t ∣ co g i - co f i) : Dm t d g := h.by (k := 1) fun i => by rw [Int.one_mul]; exact e i
theorem Dm.trans {t : Int} {d f g : List Int} (h1 : Dm t d f) (h2 : Dm t f g) : Dm t d g := by
  obtain ⟨v, hv⟩ := h2
  exact Dm.comb h1 (Dm.nil t d) (a := v) (b := []) fun i => by
    have : mu [] (co []) i = 0 := rfl
    rw [this, Int.add_zero]
    exact hv i
def Ahp (t : Int) (f g p q : List Int) : Prop := ∀ d, (Dm t d f /\ Dm t d g) ↔ (Dm t d p /\ Dm t d q)
theorem Y5 {t : Int} {f g r u : List Int} (e : ∀ i, t ∣ co f i - (mu u (co g) i + co r i)) : Ahp t g r f g := fun d => by
  constructor
  . rintro ⟨a, b⟩
    refine ⟨Dm.comb a b (a := u) (b := [1]) fun i => ?_, a⟩
    rw [Akv, Int.one_mul]
    exact e i
  . rintro ⟨a, b⟩
    refine ⟨b, Dm.comb a b (a := [1]) (b := u.map (-1 * ·)) fun i => ?_⟩
    rw [Akv]
    have : mu (u.map (-1 * ·)) (co g) i = -1 * mu u (co g) i := congrFun (Jr (co g) (-1) u) i
    rw [this]
    have h := Ug (e i)
    rw [show co r i - (1 * co f i + -1 * mu u (co g) i) = mu u (co g) i + co r i - co f i by omega]
    exact h
def Pr (t : Int) : Prop := 1 < t /\ ∀ a : Int, ¬ t ∣ a -> Int.gcd a t = 1
theorem Pr.or {t : Int} (h : Pr t) {a b : Int} (d : t ∣ a * b) : t ∣ a \/ t ∣ b := by
  by_cases ha : t ∣ a
  . exact .inl ha
  . have c : Nat.Coprime t.natAbs a.natAbs := by
      have := h.2 a ha
      rw [Int.gcd_comm] at this
      exact this
    have d2 : t.natAbs ∣ a.natAbs * b.natAbs := by
      rw [<- Int.natAbs_mul]
      exact Int.natAbs_dvd_natAbs.mpr d
    exact .inr (Int.natAbs_dvd_natAbs.mp (c.dvd_of_dvd_mul_left d2))
theorem S8 {e p : List Int} (te : Tr e) (ne : e ≠ []) (pe : Prim e) (h : Dv e p) : Exact p e := by
  obtain ⟨c, u, hc, hu⟩ := h
  have key : ∀ k, c ∣ co u k := by
    by_cases hz : ∀ k, co u k = 0
    . intro k; rw [hz k]; exact Int.dvd_zero _
    . have tn : trim u ≠ [] := fun z => hz fun k => by rw [<- Bc, z, Bu]
      have tu := Bo u
      have pp := Jo tu tn
      have up := Oc tu tn
      have pr : Prim (tm (pln (trim u)) e) := Ak2 pp pe fun k => Fo _ _ k
      have d1 : ∀ k, c ∣ un (trim u) * co (tm (pln (trim u)) e) k := fun k => by
        refine ⟨co p k, ?_⟩
        rw [hu, Fo]
        have e1 : mu u (co e) k = mu (trim u) (co e) k := (congrFun (Cq (co e) _ _ (Bc u)) k).symm
        have e2 : mu ((pln (trim u)).map (un (trim u) * ·)) (co e) k = un (trim u) * mu (pln (trim u)) (co e) k := congrFun (Jr (co e) (un (trim u)) _) k
        rw [e1, <- e2]
        refine congrFun (Cq (co e) _ _ fun i => ?_) k
        rw [Gv, up]
      have d2 := M4 d1
      rw [pr.gl] at d2
      intro k
      rw [<- Bc, <- up k]
      have : c ∣ un (trim u) := by simpa using d2
      exact Int.dvd_trans this (Int.dvd_mul_right _ _)
  refine ⟨u.map (· / c), fun k => ?_⟩
  have e1 : mu ((u.map (· / c)).map (c * ·)) (co e) k = c * mu (u.map (· / c)) (co e) k := congrFun (Jr (co e) c _) k
  have e2 : mu ((u.map (· / c)).map (c * ·)) (co e) k = mu u (co e) k := congrFun (Cq (co e) _ _ fun i => by
    rw [Gv, Px (f := (· / c)) (Int.zero_ediv c)]
    exact Int.mul_ediv_cancel' (key i)) k
  rw [e1, <- hu] at e2
  exact (Int.eq_of_mul_eq_mul_left hc e2).symm
theorem apart {t : Int} (ht : Pr t) {p q : List Int} (tp : Tr p) (np : p ≠ []) (hl : ¬ t ∣ co p (p.length - 1)) (h : ∀ d, Dm t d p -> Dm t d q -> Dm t d [1]) : Gc p q [1] := by
  have t1 : Tr [1] := .inr ⟨by simp, by decide⟩
  have p1 : pln [1] = [1] := by decide
  refine ⟨t1, p1, O8 1 (by decide) p, O8 1 (by decide) q, fun d dp dq => ?_⟩
  have dt : Dv (trim d) d /\ Dv d (trim d) := ⟨(Dv.refl (trim d)).congr fun i => Bc d i, (Dv.refl d).congr fun i => (Bc d i).symm⟩
  have td := Bo d
  have nd : trim d ≠ [] := fun z => by
    have := dt.1.trans dp
    rw [z] at this
    exact np (this.zero tp)
  have ⟨pa, pb⟩ := Adc td
  have te := Rh td
  have ne : pln (trim d) ≠ [] := fun z => by
    have := Li (trim d)
    rw [z, List.length_nil] at this
    exact nd (List.eq_nil_of_length_eq_zero this.symm)
  have pe := Jo td nd
  have de : Dv d (pln (trim d)) := dt.2.trans pb
  have ed : Dv (pln (trim d)) d := pa.trans dt.1
  obtain ⟨w, hw⟩ := S8 te ne pe (ed.trans dp)
  obtain ⟨w', hw'⟩ := S8 te ne pe (ed.trans dq)
  generalize pln (trim d) = e at *
  have m1 : Dm t e p := ⟨w, fun i => by rw [hw, Int.sub_self]; exact Int.dvd_zero _⟩
  have m2 : Dm t e q := ⟨w', fun i => by rw [hw', Int.sub_self]; exact Int.dvd_zero _⟩
  obtain ⟨u, hu⟩ := h e m1 m2
  have le : ¬ t ∣ co e (e.length - 1) := fun z => hl (by
    have wn : trim w ≠ [] := fun y => by
      have := tp.lead np
      rw [hw, <- congrFun (Cq (co e) _ _ (Bc w)) _, y] at this
      exact this rfl
    have e1 : p = tm (trim w) e := tp.ext (Jk _ _) fun i => by rw [hw, Fo, congrFun (Cq (co e) _ _ (Bc w)) i]
    have l1 := Sv (Bo w) te wn ne
    have lw := List.length_pos_iff.mpr wn
    have lee := List.length_pos_iff.mpr ne
    rw [hw, <- congrFun (Cq (co e) _ _ (Bc w)) _, Uj (trim w) e (p.length - 1) wn ne (by rw [e1]; omega)]
    exact Int.dvd_trans z (Int.dvd_mul_left _ _))
  have l1 : e.length = 1 := by
    have lee := List.length_pos_iff.mpr ne
    by_cases z : e.length = 1
    . exact z
    . exfalso
      have cu : ∀ i, t ∣ co (u.map (· % t)) i - co u i := fun i => by
        rw [Px (f := (· % t)) (Int.zero_emod t)]
        refine ⟨-(co u i / t), ?_⟩
        have := Int.mul_ediv_add_emod (co u i) t
        rw [Int.mul_neg]
        omega
      have hu2 : ∀ i, t ∣ co [1] i - mu (trim (u.map (· % t))) (co e) i := fun i => by
        refine Yp (hu i) ?_
        rw [congrFun (Cq (co e) _ _ (Bc (u.map (· % t)))) i, Qg u e, Qg (u.map (· % t)) e]
        exact W2 (fun k => Ug (cu k)) e i
      by_cases un : trim (u.map (· % t)) = []
      . have := hu2 0
        rw [un] at this
        have h1 : t ∣ 1 := by simpa [mu, Ft] using this
        have := Int.le_of_dvd (by decide) h1
        have := ht.1
        omega
      . have lu := List.length_pos_iff.mpr un
        have := hu2 ((trim (u.map (· % t))).length + e.length - 2)
        rw [Uj _ e _ un ne (by omega), Bl (p := [1]) (by show 1 <= _; omega), Int.zero_sub] at this
        rcases ht.or ((Int.dvd_neg).mp this) with z1 | z1
        . have ld := (Bo (u.map (· % t))).lead un
          rw [Bc, Px (f := (· % t)) (Int.zero_emod t)] at ld z1
          have r0 := Int.emod_nonneg (co u ((trim (u.map (· % t))).length - 1)) (show t ≠ 0 by have := ht.1; omega)
          have r1 := Int.emod_lt_of_pos (co u ((trim (u.map (· % t))).length - 1)) (show 0 < t by have := ht.1; omega)
          have := Int.le_of_dvd (by omega) z1
          omega
        . exact le z1
  match e, l1 with
  | [k], _ =>
    have k0 : k ≠ 0 := by
      have := te.lead ne
      exact this
    exact de.trans (O8 k k0 [1])
theorem Af9 : Pr 2305843009213693951 := ⟨by decide, fun _ h => Aig h⟩
end Z
namespace Z
structure MV (m : Int) (p q qs rs : List Int) (j : Nat) : Prop where
  eq : ∀ k, m ∣ co p k - (mu qs (co q) k + co rs k)
  top : ∀ k, j + q.length <= k + 1 -> co rs k = 0
  low : ∀ k, k < j -> co qs k = 0
  rq : ∀ k, 0 <= co qs k /\ co qs k < m
  rr : ∀ k, 0 <= co rs k /\ co rs k < m
theorem Xw (n k : Nat) : co (List.replicate n (0 : Int)) k = 0 := by
  unfold co
  rw [List.getD_eq_getElem?_getD, List.getElem?_replicate]
  split <;> rfl
theorem MV.start {m : Int} (hm : 0 < m) {p q rs : List Int} (hq : q ≠ []) (h : ∀ k, m ∣ co p k - co rs k) (hr : ∀ k, 0 <= co rs k /\ co rs k < m) : MV m p q (List.replicate (rs.length + 1 - q.length) 0) rs (rs.length + 1 - q.length) := by
  have hl : 0 < q.length := List.length_pos_iff.mpr hq
  refine ⟨fun k => by rw [Wg, Int.zero_add]; exact h k, fun k h => Bl (by omega), fun k h => Xw _ _, fun k => ?_, hr⟩
  rw [Xw]
  omega
theorem MV.step {m : Int} (hm : 0 < m) {p q qs rs : List Int} {j : Nat} (h : MV m p q qs rs (j + 1)) (hq : q ≠ []) {f : Int} (hj : j < qs.length) (f0 : 0 <= f) (f1 : f < m) (ef : m ∣ co rs (j + (q.length - 1)) - f * co q (q.length - 1))
    {rs' : List Int} (hr : ∀ k, co rs' k = (co rs k - (if j <= k then f * co q (k - j) else 0)) % m) : MV m p q (qs.set j f) rs' j := by
  have hl : 0 < q.length := List.length_pos_iff.mpr hq
  have cq : ∀ k, co (qs.set j f) k = if k = j then f else co qs k := fun k => Ri _ _ _ hj k
  have sp : ∀ k, co (qs.set j f) k = co (al qs (List.replicate j 0 ++ [f])) k := fun k => by
    rw [cq, Wd, J0, List.length_replicate]
    by_cases hk : k = j
    . rw [if_pos hk, if_pos hk, hk, h.low j (by omega)]; simp
    . rw [if_neg hk, if_neg hk, Xw, Int.add_zero]
  have md : ∀ x : Int, m ∣ x % m - x := fun x => ⟨-(x / m), by
    have := Int.mul_ediv_add_emod x m
    rw [Int.mul_neg]
    omega⟩
  refine ⟨fun k => ?_, fun k hk => ?_, fun k hk => ?_, fun k => ?_, fun k => ?_⟩
  . rw [Cq (co q) _ _ sp, W3]
    dsimp only
    rw [N6, Wg, List.length_replicate, hr]
    have h1 := h.eq k
    have h2 := md (co rs k - (if j <= k then f * co q (k - j) else 0))
    have h3 := Int.dvd_sub h1 h2
    generalize (co rs k - (if j <= k then f * co q (k - j) else 0)) % m = y at *
    generalize (if j <= k then f * co q (k - j) else 0) = x at *
    have e : co p k - (mu qs (co q) k + co rs k) - (y - (co rs k - x)) = co p k - (mu qs (co q) k + (0 + x) + y) := by omega
    rw [e] at h3
    exact h3
  . rw [hr, if_pos (by omega)]
    by_cases hk2 : k = j + (q.length - 1)
    . subst hk2
      rw [show j + (q.length - 1) - j = q.length - 1 by omega]
      exact Int.emod_eq_zero_of_dvd ef
    . rw [h.top k (by omega), Bl (show q.length <= k - j by omega)]
      simp
  . rw [cq, if_neg (by omega), h.low k (by omega)]
  . rw [cq]
    split
    . exact ⟨f0, f1⟩
    . exact h.rq k
  . rw [hr]
    exact ⟨Int.emod_nonneg _ (by omega), Int.emod_lt_of_pos _ hm⟩
theorem Ae2 {m r iv l : Int} (h : iv * l % m = 1) (hm : 1 < m) : m ∣ r - (r * iv % m) * l := by
  have e1 := Int.mul_ediv_add_emod (r * iv) m
  have e2 := Int.mul_ediv_add_emod (iv * l) m
  rw [h] at e2
  refine ⟨(r * iv / m) * l - r * (iv * l / m), ?_⟩
  have e3 : r * iv % m = r * iv - m * (r * iv / m) := by omega
  rw [e3]
  have e4 : r * iv * l = r * (m * (iv * l / m) + 1) := by rw [e2, Int.mul_assoc]
  have : (r * iv - m * (r * iv / m)) * l = r * iv * l - m * (r * iv / m) * l := by grind
  rw [this, e4]
  grind
end Z
namespace Z
def dr (p : List Int) : List Int := (p.mapIdx fun i a => (i : Int) * a).drop 1
theorem Acw (p : List Int) (i : Nat) : co (p.mapIdx fun i a => (i : Int) * a) i = (i : Int) * co p i := by
  unfold co
  rw [List.getD_eq_getElem?_getD, List.getD_eq_getElem?_getD, List.getElem?_mapIdx]
  cases p[i]? <;> simp
theorem Agr (p : List Int) (i : Nat) : co (p.drop 1) i = co p (i + 1) := by
  unfold co
  rw [List.getD_eq_getElem?_getD, List.getD_eq_getElem?_getD, List.getElem?_drop, Nat.add_comm]
theorem Aeq (p : List Int) (i : Nat) : co (dr p) i = ((i : Int) + 1) * co p (i + 1) := by
  rw [dr, Agr, Acw]
  congr 1
theorem Ob (p : List Int) : (dr p).length = p.length - 1 := by simp [dr]
theorem Ajv {p : List Int} (h : Tr p) : Tr (dr p) := by
  by_cases hl : p.length <= 1
  . exact .inl (List.eq_nil_of_length_eq_zero (by rw [Ob]; omega))
  . refine .of (.inr ?_)
    rw [Ob, Aeq, show p.length - 1 - 1 + 1 = p.length - 1 by omega]
    have := h.lead (fun z => by rw [z] at hl; simp at hl)
    exact Int.mul_ne_zero (by omega) this
end Z
namespace Z
def hv : List Int -> Int -> Int -> Int
  | [], _, _ => 0
  | w :: r, t, b => hv r t b * t + w * b ^ r.length
end Z
namespace Z
def Sh (f : Int) : Int -> List Int -> List Int
  | _, [] => []
  | s, w :: r => w * s :: Sh f (s * f) r
theorem Ge (f : Int) : ∀ (s : Int) (p : List Int), (Sh f s p).length = p.length
  | _, [] => rfl
  | s, w :: r => by rw [Sh, List.length_cons, Ge f (s * f) r, List.length_cons]
theorem Rp (f : Int) : ∀ (s : Int) (p : List Int) (w : Int), Sh f s (p ++ [w]) = Sh f s p ++ [w * (s * f ^ p.length)]
  | s, [], w => by simp [Sh]
  | s, a :: r, w => by
    rw [List.cons_append, Sh, Rp f (s * f) r w, Sh, List.cons_append, List.length_cons, Int.pow_succ]
    congr 4
    rw [Int.mul_assoc, Int.mul_comm f]
def hs (y : Int) : List Int -> List Int
  | [] => []
  | a :: r => (a + y * (hs y r).headD 0) :: hs y r
theorem V3 (y : Int) : ∀ p : List Int, (hs y p).length = p.length
  | [] => rfl
  | a :: r => by rw [hs, List.length_cons, V3 y r, List.length_cons]
def mv (y : Int) : Nat -> List Int -> List Int
  | 0, p => p
  | _ + 1, [] => []
  | n + 1, a :: r => (a + y * (hs y r).headD 0) :: mv y n (hs y r)
theorem Vz (y : Int) : ∀ (n : Nat) (p : List Int), (mv y n p).length = p.length
  | 0, _ => rfl
  | _ + 1, [] => rfl
  | n + 1, a :: r => by rw [mv, List.length_cons, Vz y n, V3, List.length_cons]
def seen (p : List Int) (t b : Int) : List Int := mv t (p.length - 1) (Sh b 1 p.reverse).reverse
theorem K9 (p : List Int) (t b : Int) : (seen p t b).length = p.length := by rw [seen, Vz, List.length_reverse, Ge, List.length_reverse]
def Adw (p : List Int) (f l b : Int) : List Int := trim (mv 1 (p.length - 1) (Sh (l - f) 1 (seen p f b)).reverse).reverse
end Z
namespace Z
def adj : List Int -> Nat
  | [] => 0
  | [_] => 0
  | a :: b :: r => (if a * b < 0 then 1 else 0) + adj (b :: r)
def nz (p : List Int) : List Int := p.filter (· ≠ 0)
def chg (p : List Int) : Nat := adj (nz p)
theorem X5 : ∀ (p : List Int) (a b : Int), adj (p ++ [a, b]) = adj (p ++ [a]) + (if a * b < 0 then 1 else 0)
  | [], a, b => by simp [adj]
  | [c], a, b => by simp [adj]
  | c :: d :: r, a, b => by
    have ih := X5 (d :: r) a b
    simp only [List.cons_append] at ih ⊢
    rw [adj, adj, ih]
    omega
theorem Aer {p : List Int} {a b : Int} : adj (p ++ [a] ++ [b]) = adj (p ++ [a]) + (if a * b < 0 then 1 else 0) := by
  rw [List.append_assoc]
  exact X5 p a b
def lnz (p : List Int) : Int := (nz p).getLastD 0
theorem Abj (p : List Int) (w : Int) : nz (p ++ [w]) = if w = 0 then nz p else nz p ++ [w] := by
  by_cases h : w = 0 <;> simp [nz, h]
theorem Ad6 (p : List Int) (w : Int) : lnz (p ++ [w]) = if w = 0 then lnz p else w := by
  unfold lnz
  rw [Abj]
  by_cases h : w = 0
  . rw [if_pos h, if_pos h]
  . rw [if_neg h, if_neg h]
    simp
theorem Aen (p : List Int) (w : Int) : chg (p ++ [w]) = chg p + (if lnz p * w < 0 then 1 else 0) := by
  unfold chg
  rw [Abj]
  by_cases h : w = 0
  . subst h
    rw [if_pos rfl, Int.mul_zero, if_neg (by decide)]
    rfl
  . rw [if_neg h]
    unfold lnz
    by_cases h0 : nz p = []
    . rw [h0]
      simp [adj]
    . obtain ⟨ini, d, e⟩ : ∃ (i : List Int) (x : Int), nz p = i ++ [x] := ⟨_, _, (List.dropLast_concat_getLast h0).symm⟩
      rw [e, Aer]
      simp
def c0 (a : Int) (r : List Int) : Nat := match nz r with
  | [] => 0
  | f :: _ => if a * f < 0 then 1 else 0
end Z
namespace Z
open PySem L2
theorem abs_eq (i : Int) : (if i < 0 then -i else i) = ((i.natAbs : Nat) : Int) := by
  split <;> omega
theorem Aej (x y : Nat) : Nat.gcd y (x % y) = Nat.gcd x y := by
  rw [Nat.gcd_comm, <- Nat.gcd_rec, Nat.gcd_comm]
local macro_rules | `(tactic| contradiction) => `(tactic| simp only [Hy, Eo, Hs, Hl, Ep, Hu, Bx, Ie, Et, Em, z_c, Ox, Ro, Pq, Hg, Qm, Hi, Hz, G3, G4, Ds, Rt, Il, Ig, Ia, Ej, Eh, G5, Hw, Rq, Fj, Hv, Dw, Qt, Ek, Ho, Fl, Q5, Im, Hq, Cg, Fi, Er, Ei, Ci, Ey, Hh, Ij, G9, Gs, Qh, Bp, Ec, Hr, Rf, Ib, En, Hj, Ii, Dz, Ik, Fg, Fe, Fb, Cp, Hx, Cm, Ez, Ea, Ef, G7, Dy, Ew, Es, Ck, El, Qp, cpσ, List.getElem?_cons_zero, List.getElem?_cons_succ, Option.join_some, List.set_cons_zero, List.set_cons_succ, List.append_nil, decide_eq_true_eq, Bool.not_eq_true', decide_eq_false_iff_not, Bool.not_not, ite_not, Bool.false_eq_true, Bool.true_eq_false, if_false, if_true, if_pos, List.length_cons, List.length_nil, Nat.zero_add, Nat.reduceAdd, Ed, Eb, true_and, and_true, L2.start, List.map_cons, List.map_nil, Bool.not_true, Bool.not_false, Nat.reduceSub, List.replicate_succ, List.replicate_zero, List.cons_append, List.nil_append])
def top (i : Nat) : Stmt := PySem.Challenge.pw_rootcourt_k23_what_is_a_number.main.body.getD i (.Pass ⟨0, 0, 0, 0⟩)
abbrev Ny : Stmt := top 4
theorem Xm : Ao ["thing"] ["thing"] (Ag Ny) := ⟨rfl, rfl, rfl, by decide +kernel, rfl, by decide +kernel, by decide +kernel⟩
abbrev Qf : Stmt := top 5
theorem K5 : Ao ["one", "other", "greater", "lesser"] ["one", "other"] (Ag Qf) := ⟨rfl, rfl, rfl, by decide +kernel, rfl, by decide +kernel, by decide +kernel⟩
abbrev Kg : Stmt := top 6
theorem Gw : Ao ["some", "found", "number"] ["some"] (Ag Kg) := ⟨rfl, rfl, rfl, by decide +kernel, rfl, by decide +kernel, by decide +kernel⟩
abbrev Uo : Stmt := top 7
theorem Ac5 : Ao ["one", "other"] ["one", "other"] (Ag Uo) := ⟨rfl, rfl, rfl, by decide +kernel, rfl, by decide +kernel, by decide +kernel⟩
abbrev G6 : Stmt := top 8
theorem Ol : Ao ["number"] ["number"] (Ag G6) := ⟨rfl, rfl, rfl, by decide +kernel, rfl, by decide +kernel, by decide +kernel⟩
abbrev Jx : Stmt := top 10
theorem Jd : Ao ["thing", "top", "bottom"] ["thing"] (Ag Jx) := ⟨rfl, rfl, rfl, by decide +kernel, rfl, by decide +kernel, by decide +kernel⟩
abbrev Aag : Stmt := top 11
theorem Ag2 : Ao ["one", "other"] ["one", "other"] (Ag Aag) := ⟨rfl, rfl, rfl, by decide +kernel, rfl, by decide +kernel, by decide +kernel⟩
abbrev M6 : Stmt := top 13
theorem Z5 : Ao ["thing"] ["thing"] (Ag M6) := ⟨rfl, rfl, rfl, by decide +kernel, rfl, by decide +kernel, by decide +kernel⟩
abbrev Adn : Stmt := top 14
theorem Xn : Ao ["weights", "length"] ["weights"] (Ag Adn) := ⟨rfl, rfl, rfl, by decide +kernel, rfl, by decide +kernel, by decide +kernel⟩
abbrev Uc : Stmt := top 15
theorem Ac9 : Ao ["one"] ["one"] (Ag Uc) := ⟨rfl, rfl, rfl, by decide +kernel, rfl, by decide +kernel, by decide +kernel⟩
abbrev Ov : Stmt := top 16
theorem Gm : Ao ["one", "other", "weights", "place", "weight"] ["one", "other"] (Ag Ov) := ⟨rfl, rfl, rfl, by decide +kernel, rfl, by decide +kernel, by decide +kernel⟩
abbrev Qs : Stmt := top 17
theorem Z4 : Ao ["one", "other"] ["one", "other"] (Ag Qs) := ⟨rfl, rfl, rfl, by decide +kernel, rfl, by decide +kernel, by decide +kernel⟩
abbrev Q0 : Stmt := top 18
theorem Gz : Ao ["one", "other", "weights", "place", "weight", "further", "factor"] ["one", "other"] (Ag Q0) := ⟨rfl, rfl, rfl, by decide +kernel, rfl, by decide +kernel, by decide +kernel⟩
abbrev Pa : Stmt := top 19
theorem Aaw : Ao ["one", "factor"] ["one", "factor"] (Ag Pa) := ⟨rfl, rfl, rfl, by decide +kernel, rfl, by decide +kernel, by decide +kernel⟩
abbrev Wt : Stmt := top 20
theorem Afc : Ao ["one", "many"] ["one", "many"] (Ag Wt) := ⟨rfl, rfl, rfl, by decide +kernel, rfl, by decide +kernel, by decide +kernel⟩
abbrev Np : Stmt := top 21
theorem Ga : Ao ["start", "one", "many", "product", "found", "square", "left"] ["start", "one", "many", "product"] (Ag Np) := ⟨rfl, rfl, rfl, by decide +kernel, rfl, by decide +kernel, by decide +kernel⟩
abbrev Jz : Stmt := top 22
theorem R4 : Ao ["number", "many"] ["number", "many"] (Ag Jz) := ⟨rfl, rfl, rfl, by decide +kernel, rfl, by decide +kernel, by decide +kernel⟩
abbrev Uq : Stmt := top 23
theorem Abi : Ao ["one", "many"] ["one", "many"] (Ag Uq) := ⟨rfl, rfl, rfl, by decide +kernel, rfl, by decide +kernel, by decide +kernel⟩
abbrev Mz : Stmt := top 24
theorem Zq : Ao ["one"] ["one"] (Ag Mz) := ⟨rfl, rfl, rfl, by decide +kernel, rfl, by decide +kernel, by decide +kernel⟩
abbrev Qi : Stmt := top 25
theorem Zf : Ao ["one", "point"] ["one", "point"] (Ag Qi) := ⟨rfl, rfl, rfl, by decide +kernel, rfl, by decide +kernel, by decide +kernel⟩
abbrev Jv : Stmt := top 26
theorem Cd : Ao ["one", "point", "total", "scale", "weight", "top", "bottom"] ["one", "point"] (Ag Jv) := ⟨rfl, rfl, rfl, by decide +kernel, rfl, by decide +kernel, by decide +kernel⟩
abbrev Qn : Stmt := top 28
theorem Gy : Ao ["p", "many", "ahead", "weight"] ["p"] (Ag Qn) := ⟨rfl, rfl, rfl, by decide +kernel, rfl, by decide +kernel, by decide +kernel⟩
abbrev Rz : Stmt := top 29
theorem Jh : Ao ["p", "lo", "hi", "bottom", "first", "last", "weights"] ["p", "lo", "hi"] (Ag Rz) := ⟨rfl, rfl, rfl, by decide +kernel, rfl, by decide +kernel, by decide +kernel⟩
abbrev Pn : Stmt := top 30
theorem Tp : Ao ["p", "top", "bottom", "weights"] ["p", "top", "bottom"] (Ag Pn) := ⟨rfl, rfl, rfl, by decide +kernel, rfl, by decide +kernel, by decide +kernel⟩
abbrev Uh : Stmt := top 31
theorem Kq : Ao ["weights", "factor", "found", "scale", "weight"] ["weights", "factor"] (Ag Uh) := ⟨rfl, rfl, rfl, by decide +kernel, rfl, by decide +kernel, by decide +kernel⟩
abbrev Xe : Stmt := top 32
theorem Pb : Ao ["weights", "by", "found", "start", "place"] ["weights", "by"] (Ag Xe) := ⟨rfl, rfl, rfl, by decide +kernel, rfl, by decide +kernel, by decide +kernel⟩
abbrev Jp : Stmt := top 34
theorem Wc : Ao ["one", "m"] ["one", "m"] (Ag Jp) := ⟨rfl, rfl, rfl, by decide +kernel, rfl, by decide +kernel, by decide +kernel⟩
abbrev Kd : Stmt := top 35
theorem Cz : Ao ["number", "m", "greater", "lesser", "ahead", "here", "many"] ["number", "m"] (Ag Kd) := ⟨rfl, rfl, rfl, by decide +kernel, rfl, by decide +kernel, by decide +kernel⟩
abbrev Nq : Stmt := top 36
theorem Eu : Ao ["one", "other", "m", "inverse", "rest", "quotient", "place", "factor", "further", "weight"] ["one", "other", "m"] (Ag Nq) := ⟨rfl, rfl, rfl, by decide +kernel, rfl, by decide +kernel, by decide +kernel⟩
abbrev T9 : Stmt := top 37
theorem Abz : Ao ["one", "other", "m"] ["one", "other", "m"] (Ag T9) := ⟨rfl, rfl, rfl, by decide +kernel, rfl, by decide +kernel, by decide +kernel⟩
abbrev Ue : Stmt := top 38
theorem U6 : Ao ["one", "t", "told"] ["one", "t"] (Ag Ue) := ⟨rfl, rfl, rfl, by decide +kernel, rfl, by decide +kernel, by decide +kernel⟩
abbrev Nk : Stmt := top 39
theorem J1 : Ao ["one", "other", "t", "first", "second"] ["one", "other", "t"] (Ag Nk) := ⟨rfl, rfl, rfl, by decide +kernel, rfl, by decide +kernel, by decide +kernel⟩
abbrev Ra : Stmt := top 42
theorem Y8 : Ao ["one"] ["one"] (Ag Ra) := ⟨rfl, rfl, rfl, by decide +kernel, rfl, by decide +kernel, by decide +kernel⟩
abbrev Wr : Stmt := top 43
theorem Ae5 : Ao ["one"] ["one"] (Ag Wr) := ⟨rfl, rfl, rfl, by decide +kernel, rfl, by decide +kernel, by decide +kernel⟩
abbrev Adq : Stmt := top 44
theorem Ahe : Ao ["one"] ["one"] (Ag Adq) := ⟨rfl, rfl, rfl, by decide +kernel, rfl, by decide +kernel, by decide +kernel⟩
abbrev O6 : Stmt := top 45
theorem Ach : Ao ["one", "number"] ["one", "number"] (Ag O6) := ⟨rfl, rfl, rfl, by decide +kernel, rfl, by decide +kernel, by decide +kernel⟩
abbrev Uv : Stmt := top 46
theorem Abk : Ao ["one", "other"] ["one", "other"] (Ag Uv) := ⟨rfl, rfl, rfl, by decide +kernel, rfl, by decide +kernel, by decide +kernel⟩
abbrev Jb : Stmt := top 47
theorem Pu : Ao ["one", "other"] ["one", "other"] (Ag Jb) := ⟨rfl, rfl, rfl, by decide +kernel, rfl, by decide +kernel, by decide +kernel⟩
abbrev Ky : Stmt := top 48
theorem Bd : Ao ["first", "second", "lead", "height", "steps", "known", "third"] ["first", "second"] (Ag Ky) := ⟨rfl, rfl, rfl, by decide +kernel, rfl, by decide +kernel, by decide +kernel⟩
abbrev N8 : Stmt := top 49
theorem Fy : Ao ["first", "second", "known", "scale", "third", "quotient", "rest", "upper", "lower"] ["first", "second", "known"] (Ag N8) := ⟨rfl, rfl, rfl, by decide +kernel, rfl, by decide +kernel, by decide +kernel⟩
abbrev Gj : Stmt := top 50
theorem Bm : Ao ["one", "other", "quotient", "rest", "place", "top", "term"] ["one", "other"] (Ag Gj) := ⟨rfl, rfl, rfl, by decide +kernel, rfl, by decide +kernel, by decide +kernel⟩
abbrev Rj : Stmt := top 52
theorem Zn : Ao ["one"] ["one"] (Ag Rj) := ⟨rfl, rfl, rfl, by decide +kernel, rfl, by decide +kernel, by decide +kernel⟩
abbrev Lq : Stmt := top 54
theorem Ir : Ao ["n", "p", "lo", "hi"] ["n"] (Ag Lq) := ⟨rfl, rfl, rfl, by decide +kernel, rfl, by decide +kernel, by decide +kernel⟩
abbrev Ln : Stmt := top 55
theorem Vt : Ao ["p", "lo", "hi"] ["p", "lo", "hi"] (Ag Ln) := ⟨rfl, rfl, rfl, by decide +kernel, rfl, by decide +kernel, by decide +kernel⟩
abbrev Ly : Stmt := top 57
theorem Vd : Ao ["_law_script", "_law_k"] ["_law_script", "_law_k"] (Ag Ly) := ⟨rfl, rfl, rfl, by decide +kernel, rfl, by decide +kernel, by decide +kernel⟩
abbrev Lr : Stmt := top 58
theorem Kh : Ao ["_law_cell", "_law_k", "_law_some"] ["_law_cell", "_law_k"] (Ag Lr) := ⟨rfl, rfl, rfl, by decide +kernel, rfl, by decide +kernel, by decide +kernel⟩
abbrev Ub : Stmt := top 59
theorem Ih : Ao ["_law_cell", "_law_most", "_law_many", "_law_broad", "_law_part", "_law_weights", "_law_k"] ["_law_cell", "_law_most"] (Ag Ub) := ⟨rfl, rfl, rfl, by decide +kernel, rfl, by decide +kernel, by decide +kernel⟩
abbrev Xo : Stmt := top 60
theorem Ym : Ao ["_law_one", "_law_other"] ["_law_one", "_law_other"] (Ag Xo) := ⟨rfl, rfl, rfl, by decide +kernel, rfl, by decide +kernel, by decide +kernel⟩
abbrev Kv : Stmt := top 61
theorem Mu : Ao ["_law_top", "_law_bottom", "_law_part"] ["_law_top", "_law_bottom"] (Ag Kv) := ⟨rfl, rfl, rfl, by decide +kernel, rfl, by decide +kernel, by decide +kernel⟩
abbrev Pz : Stmt := top 62
theorem Y6 : Ao ["_law_cell"] ["_law_cell"] (Ag Pz) := ⟨rfl, rfl, rfl, by decide +kernel, rfl, by decide +kernel, by decide +kernel⟩
abbrev T6 : Stmt := top 63
theorem Adb : Ao ["_law_one", "_law_other"] ["_law_one", "_law_other"] (Ag T6) := ⟨rfl, rfl, rfl, by decide +kernel, rfl, by decide +kernel, by decide +kernel⟩
abbrev Qz : Stmt := top 64
theorem Gx : Ao ["_law_p", "_law_x", "_law_y", "_law_total", "_law_share", "_law_weight"] ["_law_p", "_law_x", "_law_y"] (Ag Qz) := ⟨rfl, rfl, rfl, by decide +kernel, rfl, by decide +kernel, by decide +kernel⟩
abbrev Um : Stmt := top 65
theorem Wm : Ao ["_law_p", "_law_r", "_law_total"] ["_law_p", "_law_r"] (Ag Um) := ⟨rfl, rfl, rfl, by decide +kernel, rfl, by decide +kernel, by decide +kernel⟩
abbrev Jt : Stmt := top 66
theorem Ce : Ao ["_law_cell", "_law_found", "_law_roots", "_law_part", "_law_k", "_law_root", "_law_longer", "_law_j"] ["_law_cell"] (Ag Jt) := ⟨rfl, rfl, rfl, by decide +kernel, rfl, by decide +kernel, by decide +kernel⟩
abbrev Mg : Stmt := top 67
theorem Gh : Ao ["_law_p", "_law_q", "_law_part", "_law_weight", "_law_lead", "_law_j", "_law_at"] ["_law_p", "_law_q"] (Ag Mg) := ⟨rfl, rfl, rfl, by decide +kernel, rfl, by decide +kernel, by decide +kernel⟩
abbrev O1 : Stmt := top 68
theorem Mr : Ao ["_law_p", "_law_one", "_law_other"] ["_law_p"] (Ag O1) := ⟨rfl, rfl, rfl, by decide +kernel, rfl, by decide +kernel, by decide +kernel⟩
abbrev Qy : Stmt := top 69
theorem Kz : Ao ["_law_p", "_law_part", "_law_weight"] ["_law_p"] (Ag Qy) := ⟨rfl, rfl, rfl, by decide +kernel, rfl, by decide +kernel, by decide +kernel⟩
abbrev Xq : Stmt := top 70
theorem Afb : Ao ["_law_p", "_law_lo", "_law_hi"] ["_law_p", "_law_lo", "_law_hi"] (Ag Xq) := ⟨rfl, rfl, rfl, by decide +kernel, rfl, by decide +kernel, by decide +kernel⟩
abbrev Wi : Stmt := top 71
theorem Gi : Ao ["_law_script", "_law_roots", "_law_p", "_law_lo", "_law_hi", "_law_way", "_law_odd", "_law_found"] ["_law_script"] (Ag Wi) := ⟨rfl, rfl, rfl, by decide +kernel, rfl, by decide +kernel, by decide +kernel⟩
def Afe (K : PySem.W.Frag) : Sp := fun vs H Q _ => ∃ (a : Addr) (ns : List Int), vs = [.ref a] /\ SqL K H a (ns.map V.int) /\ ns.length <= 63 /\ ∀ H', Q (.bl true) H'
def cell (ns : List Int) (k : Int) : Int := ns.getD k.toNat 0
def Km (K : PySem.W.Frag) : Sp := fun vs H Q _ => ∃ (a : Addr) (ns : List Int) (k : Int), vs = [.ref a, .int k] /\ SqL K H a (ns.map V.int) /\ 0 <= k /\ Q (.int (cell ns k)) H
section
variable {P : Program} {w : World} {K : PySem.W.Frag} {mg : Str -> Option Value} {base : Heap}
theorem Vk {f : Addr} {fd : FuncData} (F : Df K mg "_law_cell_at" Ly ["_law_script", "_law_k"] f fd) (z_len : mg "len" = none)   : Cal P w K mg base 1 "_law_cell_at" ["_law_script", "_law_k"] (Km K) := by
  refine F.cal (F.fn.ok Vd (fun vs H Q E h => ?_) (fun cdv A outer s H vs Q E hr h => ?_))
  . obtain ⟨a, ns, k, rfl, _⟩ := h
    rfl
  obtain ⟨a, ns, k, rfl, hS, hk, q⟩ := h
  refine S.Ay ⟨_, (S.Ad (S.Ca (S.Aj Nt (S.pv 1) (S.Cr Aq rfl z_len PySem.boot_len (S.Aa (S.pv 0) S.Ac)) (Ak _)) (S.Ae (S.Al (S.Az Dj (S.pv 0) (S.pv 1) (fun _ _ => rfl)))) S.Ax)
      (S.Ae (S.Al S.Ab))), ?_⟩
  contradiction
  refine ⟨a, _, rfl, .inl hS, ?_⟩
  rw [List.length_map]
  split
  . rename_i h
    have hk' : k.toNat < ns.length := by omega
    refine Lh hS (v := .int (cell ns k)) ?_ q
    have e := Jc (xs := ns.map V.int) (j := k.toNat) (v := .int (cell ns k)) (by
      rw [List.getElem?_map, List.getElem?_eq_getElem hk']
      unfold cell
      rw [List.getD_eq_getElem?_getD, List.getElem?_eq_getElem hk']
      rfl)
    rw [Int.toNat_of_nonneg hk] at e
    exact e
  . rename_i h
    have e : cell ns k = 0 := by
      unfold cell
      rw [List.getD_eq_getElem?_getD, List.getElem?_eq_none (by omega)]
      rfl
    rw [e] at q
    exact q
theorem J4 (p : List Int) : (trim p).length <= p.length := (Bo p).len fun i => Bc p i
def Po (K : PySem.W.Frag) (H : Hp) (v : V) (p : List Int) (l n : Nat) : Prop := (∃ a, v = .ref a /\ SqT K H a (p.map V.int)) /\ Tr p /\ p.length <= l /\ ∀ i, Sz n (co p i)
theorem Po.mono {K : PySem.W.Frag} {H H' : Hp} {v : V} {p : List Int} {l n : Nat} (h : Po K H v p l n) (s : Same H H') : Po K H' v p l n := by
  obtain ⟨⟨a, e, t⟩, r⟩ := h
  exact ⟨⟨a, e, s.tup t⟩, r⟩
theorem Sz0 {n : Nat} (h : 0 < n) : Sz n 0 := Nat.pow_pos (by decide)
theorem Ahv {p : List Int} {n : Nat} (h0 : 0 < n) (h : ∀ x ∈ p, Sz n x) (i : Nat) : Sz n (co p i) := by
  by_cases hi : i < p.length
  . rw [Cv hi]
    exact h _ (List.getElem_mem hi)
  . rw [Bl (by omega)]
    exact Sz0 h0
def SqI (K : PySem.W.Frag) (H : Hp) (a : Addr) (ns : List Int) : Prop := SqL K H a (ns.map V.int) \/ SqT K H a (ns.map V.int)
theorem at0 {α : Type} (x : α) (r : List α) : atI (x :: r) 0 = some x := Jc (j := 0) rfl
theorem at1 {α : Type} (x y : α) (r : List α) : atI (x :: y :: r) 1 = some y := Jc (j := 1) rfl
theorem Qd {H H1 : Hp} {Q : VK} {E : XK} {a : Addr} {ns : List Int} {j : Int} (hS : SqL K H1 a (ns.map V.int)) (s1 : Same H1 H) (h0 : 0 <= j) (h : Q (.int (cell ns j)) H) : Km K [.ref a, .int j] H Q E := ⟨a, ns, j, rfl, s1.seq hS, h0, h⟩
theorem G8 {q : List Int} (hq : q ≠ []) : atI (q.map V.int) (-1) = some (.int (co q (q.length - 1))) := by
  obtain ⟨ini, c, rfl⟩ : ∃ (i : List Int) (x : Int), q = i ++ [x] := ⟨_, _, (List.dropLast_concat_getLast hq).symm⟩
  rw [List.map_append, List.length_append, List.length_singleton, Nat.add_sub_cancel, J0, if_pos rfl]
  exact Pg _ _
@[irreducible] def BIG : Nat := 600000
theorem Afs : BIG = 600000 := by unfold BIG; rfl
def Kc (K : PySem.W.Frag) : Sp := fun vs H Q _ => ∃ (a : Addr) (ns : List Int), vs = [.ref a] /\ SqI K H a ns /\ ns.length <= 1000 /\ ∀ z H', Same H H' -> SqT K H' z ((trim ns).map V.int) -> Q (.ref z) H'
theorem Ahh {f : Addr} {fd : FuncData} (F : Df K mg "poly" Adn ["weights"] f fd) (z_len : mg "len" = none) (z_tuple : mg "tuple" = none)   : Cal P w K mg base 1 "poly" ["weights"] (Kc K) := by
  refine F.cal (F.fn.ok Xn (fun vs H Q E h => ?_) (fun cdv A outer s H vs Q E hr h => ?_))
  . obtain ⟨a, ns, rfl, _⟩ := h
    rfl
  obtain ⟨a, ns, rfl, hS, hl, q⟩ := h
  refine S.Ay ⟨_, (S.Ad (S.Ai (i := 1) Xn.nd rfl (Or.inl rfl) (S.Cr Aq rfl z_len PySem.boot_len (S.Aa (S.pv 0) S.Ac)))
      (S.Ad (S.Fp PassesOwn.never (S.Ju (S.Mv (S.Aj Nu (S.pv 1) S.Ab (Ak _)) (S.Jy (S.Aj Fx (S.Az Ajm (S.pv 0) (S.Ah Dd (S.pv 1) S.Ab) (fun _ _ => rfl)) S.Ab (Ak _))))) (S.Ae (S.Ai (i := 1) Xn.nd rfl (Or.inl rfl) (S.Ah Dd (S.pv 1) S.Ab))))
      (S.Ae (S.Al (S.Dq Dc rfl z_tuple PyProof.Rows.boot_tuple (S.Aa (S.K6 Aj5 (S.pv 0) S.Nr (S.Ni (S.pv 1))) S.Ac)))))), ?_⟩
  contradiction
  refine ⟨a, _, rfl, hS, ?_⟩
  rw [List.length_map]
  refine K4 (fun σ H' => H' = H /\ ∃ n : Nat, σ = [some (.ref a), some (.int n)] /\ n <= ns.length /\ ∀ i, n <= i -> co ns i = 0) (fun σ _ => match σ with | [_, some (.int n)] => n.toNat | _ => 0)
    ⟨rfl, _, rfl, Nat.le_refl _, fun i h => Bl h⟩ ?_
  rintro σ H' ⟨rfl, n, rfl, hn, hz⟩
  have fin : (n = 0 \/ co ns (n - 1) ≠ 0) -> Alu K (V.ref a) none (some (n : Int)) H' (fun x H1 => ∃ p ys, [x] = [V.ref p] /\ ((SqL K H1 p ys /\ ∀ (l : Addr), H1 l = none -> Q (V.ref l) (upd H1 l (HO.tup ys))) \/ SqT K H1 p ys /\ Q (V.ref p) H1)) := fun h => by
    have e : Tt (ns.map V.int) none (some (n : Int)) = (trim ns).map V.int := by
      rw [Adg hz h]
      unfold Tt
      rw [HT.O4, HT.U3, List.drop_zero, Nat.sub_zero, List.length_map, Nat.min_eq_left hn, List.map_take]
    rcases hS with hS | hS
    . refine ⟨a, _, rfl, .inl ⟨hS, fun z H2 s2 hz2 => ?_⟩⟩
      rw [e] at hz2
      exact ⟨z, _, rfl, .inl ⟨hz2, fun y hy => q y _ (s2.trans (Same.upd hy _)) (.of Af)⟩⟩
    . refine ⟨a, _, rfl, .inr ⟨hS, fun z H2 s2 hz2 => ?_⟩⟩
      rw [e] at hz2
      exact ⟨z, _, rfl, .inr ⟨hz2, q z _ s2 hz2⟩⟩
  contradiction
  by_cases h0 : (0 : Int) < n
  . rw [if_pos h0]
    refine ⟨a, _, _, .int (co ns (n - 1)), rfl, rfl, hS, ?_, ?_⟩
    . have e := Jc (xs := ns.map V.int) (j := n - 1) (v := .int (co ns (n - 1))) (by rw [List.getElem?_map, List.getElem?_eq_getElem (by omega), Cv (by omega)]; rfl)
      rw [show ((n - 1 : Nat) : Int) = (n : Int) - 1 by omega] at e
      exact e
    contradiction
    by_cases hc : co ns (n - 1) = 0
    . rw [if_pos hc]
      refine Abd ?_
      contradiction
      refine ⟨⟨n - 1, by rw [show ((n - 1 : Nat) : Int) = (n : Int) - 1 by omega], by omega, fun i hi => ?_⟩, by omega⟩
      by_cases hi' : i = n - 1
      . rw [hi', hc]
      . exact hz i (by omega)
    . rw [if_neg hc]
      exact fin (.inr hc)
  . rw [if_neg h0]
    exact fin (.inl (by omega))
def Alh : Sp := fun vs H Q _ => ∃ a b : Int, vs = [.int a, .int b] /\ Q (.int (Int.gcd a b : Int)) H
def Kw (_ : PySem.W.Frag) : Sp := Alh
theorem Zc {f : Addr} {fd : FuncData} (F : Df K mg "divisor" Qf ["one", "other"] f fd) (z_abs : mg "abs" = none)   : Cal P w K mg base 1 "divisor" ["one", "other"] (Kw K) := by
  refine F.cal (F.fn.ok K5 (fun vs H Q E h => ?_) (fun cdv A outer s H vs Q E hr h => ?_))
  . obtain ⟨a, b, rfl, _⟩ := h
    rfl
  obtain ⟨a, b, rfl, q⟩ := h
  refine S.Ay ⟨_, (S.Ad (S.Ai (i := 2) K5.nd rfl (Or.inl rfl) (S.Cr Mt rfl z_abs PyProof.Rows.boot_abs (S.Aa (S.pv 0) S.Ac)))
      (S.Ad (S.Ai (i := 3) K5.nd rfl (Or.inl rfl) (S.Cr Mt rfl z_abs PyProof.Rows.boot_abs (S.Aa (S.pv 1) S.Ac)))
      (S.Ad (S.Fp PassesOwn.never (S.Aj R9 (S.pv 3) S.Ab (Ak _)) (S.Ae (S.Ks (i := 2) (j := 3) rfl K5.nd rfl rfl (by decide) rfl rfl (S.Aa (S.pv 3) (S.Aa (S.Ah Bv (S.pv 2) (S.pv 3)) S.Ac)) rfl)))
      (S.Ae (S.Al (S.pv 2)))))), ?_⟩
  simp only [Hy, Eo, Hs, Hl, Ep, Hu, Bx, Ie, Et, Em, z_c, Ox, Ro, Pq, Hg, Qm, Hi, Hz, G3, G4, Ds, Rt, Il, Ig, Ia, Ej, Eh, G5, Hw, Rq, Fj, Hv, Dw, Qt, Ek, Ho, Fl, Q5, Im, Hq, Cg, Fi, Er, Ei, Ci, Ey, Hh, Ij, G9, Gs, Qh, Bp, Ec, Hr, Rf, Ib, En, Hj, Ii, Dz, Ik, Fg, Fe, Fb, Cp, Hx, Cm, Ez, Ea, Ef, G7, Dy, Ew, Es, Ck, El, Qp, cpσ, List.getElem?_cons_zero, List.getElem?_cons_succ, Option.join_some, List.set_cons_zero, List.set_cons_succ, List.append_nil, decide_eq_true_eq, Bool.not_eq_true', decide_eq_false_iff_not, Bool.not_not, ite_not, Bool.false_eq_true, Bool.true_eq_false, if_false, if_true, if_pos, List.length_cons, List.length_nil, Nat.zero_add, Nat.reduceAdd, Ed, Eb, true_and, and_true, L2.start, List.map_cons, List.map_nil, Bool.not_true, Bool.not_false, Nat.reduceSub, List.replicate_succ, List.replicate_zero, List.cons_append, List.nil_append, abs_eq]
  refine Ae7 (fun σ H' => H' = H /\ ∃ x y : Nat, σ = [some (.int a), some (.int b), some (.int x), some (.int y)] /\ Nat.gcd x y = Nat.gcd a.natAbs b.natAbs)
    (fun σ _ => match σ with | [_, _, _, some (.int y)] => y.toNat | _ => 0) ⟨rfl, _, _, rfl, rfl⟩ ?_ ?_
  . rintro σ H' ⟨rfl, x, y, rfl, e⟩
    contradiction
    by_cases hy : (y : Int) = 0
    . rw [if_pos hy]
      have hy' : y = 0 := by omega
      subst hy'
      rw [Nat.gcd_zero_right] at e
      subst e
      exact q
    . rw [if_neg hy]
      refine ⟨by omega, ⟨y, x % y, by rw [Int.natCast_emod], by rw [Aej]; exact e⟩, ?_⟩
      show ((x : Int) % (y : Int)).toNat < (y : Int).toNat
      rw [<- Int.natCast_emod, Int.toNat_natCast, Int.toNat_natCast]
      exact Nat.mod_lt _ (by omega)
  . intro σ H' Q1 Q2 h12
    simp only [Ds, Ox]
    rintro ⟨v, e1, hs⟩
    exact ⟨v, e1, by
      obtain ⟨s1, k, e2, h3⟩ := hs
      exact ⟨s1, k, e2, h12 _ _ h3⟩⟩
def Gd (K : PySem.W.Frag) : Sp := fun vs H Q _ => ∃ (x : V) (p : List Int) (l n : Nat), vs = [x] /\ Po K H x p l n /\ Q (.int ((p.length : Int) - 1)) H
theorem Adt {f : Addr} {fd : FuncData} (F : Df K mg "degree" Uc ["one"] f fd) (z_len : mg "len" = none)   : Cal P w K mg base 1 "degree" ["one"] (Gd K) := by
  refine F.cal (F.fn.ok Ac9 (fun vs H Q E h => ?_) (fun cdv A outer s H vs Q E hr h => ?_))
  . obtain ⟨x, p, _, _, rfl, _⟩ := h
    rfl
  obtain ⟨x, p, l, n, rfl, ⟨⟨a, rfl, ha⟩, tp, lp, zp⟩, k⟩ := h
  refine S.Ay ⟨_, (S.Ae (S.Al (S.Ah Dd (S.Cr Aq rfl z_len PySem.boot_len (S.Aa (S.pv 0) S.Ac)) S.Ab))), ?_⟩
  contradiction
  refine ⟨a, _, rfl, .inr ha, ?_⟩
  simp only [Hy, Eo, Hs, Hl, Ep, Hu, Bx, Ie, Et, Em, z_c, Ox, Ro, Pq, Hg, Qm, Hi, Hz, G3, G4, Ds, Rt, Il, Ig, Ia, Ej, Eh, G5, Hw, Rq, Fj, Hv, Dw, Qt, Ek, Ho, Fl, Q5, Im, Hq, Cg, Fi, Er, Ei, Ci, Ey, Hh, Ij, G9, Gs, Qh, Bp, Ec, Hr, Rf, Ib, En, Hj, Ii, Dz, Ik, Fg, Fe, Fb, Cp, Hx, Cm, Ez, Ea, Ef, G7, Dy, Ew, Es, Ck, El, Qp, cpσ, List.getElem?_cons_zero, List.getElem?_cons_succ, Option.join_some, List.set_cons_zero, List.set_cons_succ, List.append_nil, decide_eq_true_eq, Bool.not_eq_true', decide_eq_false_iff_not, Bool.not_not, ite_not, Bool.false_eq_true, Bool.true_eq_false, if_false, if_true, if_pos, List.length_cons, List.length_nil, Nat.zero_add, Nat.reduceAdd, Ed, Eb, true_and, and_true, L2.start, List.map_cons, List.map_nil, Bool.not_true, Bool.not_false, Nat.reduceSub, List.replicate_succ, List.replicate_zero, List.cons_append, List.nil_append, List.length_map]
  exact k
theorem Di {H H1 : Hp} {Q : VK} {E : XK} {x : V} {p : List Int} {l n : Nat} (hx : Po K H1 x p l n) (s1 : Same H1 H) (h : Q (.int ((p.length : Int) - 1)) H) : Gd K [x] H Q E := ⟨x, p, l, n, rfl, hx.mono s1, h⟩
def K3 (a b : Int) : Int := ((Nat.lcm a.natAbs b.natAbs : Nat) : Int)
def Vf (_ : PySem.W.Frag) : Sp := fun vs H Q _ => ∃ a b : Int, vs = [.int a, .int b] /\ Sz 4000 a /\ Sz 4000 b /\ Q (.int (K3 a b)) H
theorem Aad {f : Addr} {fd : FuncData} (F : Df K mg "common" Uo ["one", "other"] f fd) (z_abs : mg "abs" = none)  (c_divisor : Cal P w K mg base 1 "divisor" ["one", "other"] (Kw K)) : Cal P w K mg base 2 "common" ["one", "other"] (Vf K) := by
  refine F.cal (F.fn.ok Ac5 (fun vs H Q E h => ?_) (fun cdv A outer s H vs Q E hr h => ?_))
  . obtain ⟨a, b, rfl, _⟩ := h
    rfl
  obtain ⟨a, b, rfl, sa, sb, q⟩ := h
  refine S.Ay ⟨_, (S.Ad (S.Ca (S.Ju (S.Jq (S.Aj Fx (S.pv 0) S.Ab (Ak _)) (S.Iv (S.Aj Fx (S.pv 1) S.Ab (Ak _))))) (S.Ae (S.Al S.Ab)) S.Ax)
      (S.Ae (S.Al (S.Ah Bb (S.Ah Bk (S.Cr Mt rfl z_abs PyProof.Rows.boot_abs (S.Aa (S.pv 0) S.Ac)) (S.Am c_divisor (hr.mono (by decide)) (S.Aa (S.pv 0) (S.Aa (S.pv 1) S.Ac)))) (S.Cr Mt rfl z_abs PyProof.Rows.boot_abs (S.Aa (S.pv 1) S.Ac)))))), ?_⟩
  simp only [Hy, Eo, Hs, Hl, Ep, Hu, Bx, Ie, Et, Em, z_c, Ox, Ro, Pq, Hg, Qm, Hi, Hz, G3, G4, Ds, Rt, Il, Ig, Ia, Ej, Eh, G5, Hw, Rq, Fj, Hv, Dw, Qt, Ek, Ho, Fl, Q5, Im, Hq, Cg, Fi, Er, Ei, Ci, Ey, Hh, Ij, G9, Gs, Qh, Bp, Ec, Hr, Rf, Ib, En, Hj, Ii, Dz, Ik, Fg, Fe, Fb, Cp, Hx, Cm, Ez, Ea, Ef, G7, Dy, Ew, Es, Ck, El, Qp, cpσ, List.getElem?_cons_zero, List.getElem?_cons_succ, Option.join_some, List.set_cons_zero, List.set_cons_succ, List.append_nil, decide_eq_true_eq, Bool.not_eq_true', decide_eq_false_iff_not, Bool.not_not, ite_not, Bool.false_eq_true, Bool.true_eq_false, if_false, if_true, if_pos, List.length_cons, List.length_nil, Nat.zero_add, Nat.reduceAdd, Ed, Eb, true_and, and_true, L2.start, List.map_cons, List.map_nil, Bool.not_true, Bool.not_false, Nat.reduceSub, List.replicate_succ, List.replicate_zero, List.cons_append, List.nil_append, abs_eq]
  by_cases ha : a = 0
  . subst ha
    rw [if_pos rfl]
    exact (by simpa [K3] using q)
  by_cases hb : b = 0
  . subst hb
    rw [if_neg ha, if_pos rfl]
    exact (by simpa [K3] using q)
  rw [if_neg ha, if_neg hb]
  refine ⟨a, b, rfl, ?_⟩
  simp only [Hy, Eo, Hs, Hl, Ep, Hu, Bx, Ie, Et, Em, z_c, Ox, Ro, Pq, Hg, Qm, Hi, Hz, G3, G4, Ds, Rt, Il, Ig, Ia, Ej, Eh, G5, Hw, Rq, Fj, Hv, Dw, Qt, Ek, Ho, Fl, Q5, Im, Hq, Cg, Fi, Er, Ei, Ci, Ey, Hh, Ij, G9, Gs, Qh, Bp, Ec, Hr, Rf, Ib, En, Hj, Ii, Dz, Ik, Fg, Fe, Fb, Cp, Hx, Cm, Ez, Ea, Ef, G7, Dy, Ew, Es, Ck, El, Qp, cpσ, List.getElem?_cons_zero, List.getElem?_cons_succ, Option.join_some, List.set_cons_zero, List.set_cons_succ, List.append_nil, decide_eq_true_eq, Bool.not_eq_true', decide_eq_false_iff_not, Bool.not_not, ite_not, Bool.false_eq_true, Bool.true_eq_false, if_false, if_true, if_pos, List.length_cons, List.length_nil, Nat.zero_add, Nat.reduceAdd, Ed, Eb, true_and, and_true, L2.start, List.map_cons, List.map_nil, Bool.not_true, Bool.not_false, Nat.reduceSub, List.replicate_succ, List.replicate_zero, List.cons_append, List.nil_append, abs_eq]
  have g0 : 0 < Int.gcd a b := Int.gcd_pos_of_ne_zero_left b ha
  have gz : Sz 4000 ((Int.gcd a b : Nat) : Int) := sa.of_abs (by
    have := Nat.le_of_dvd (by omega) (Int.gcd_dvd_natAbs_left a b)
    omega)
  have dz : Sz 4000 ((a.natAbs : Int) / (Int.gcd a b : Int)) := sa.of_abs (by
    rw [<- Int.natCast_ediv, Int.natAbs_natCast]
    exact Nat.div_le_self _ _)
  have bz : Sz 4000 (b.natAbs : Int) := sb.of_abs (by rw [Int.natAbs_natCast]; exact Nat.le_refl _)
  refine ⟨⟨by omega, gz.log2 (by omega) (by decide)⟩, dz.mulOk bz (by decide), ?_⟩
  have e : (a.natAbs : Int) / (Int.gcd a b : Int) * (b.natAbs : Int) = K3 a b := by
    rw [<- Int.natCast_ediv, <- Int.natCast_mul]
    exact congrArg Int.ofNat (Nat.div_mul_right_comm (Int.gcd_dvd_natAbs_left a b) b.natAbs)
  rw [e]
  exact q
theorem Ab1 {H : Hp} {Q : VK} {E : XK} {a : Addr} {ns : List Int} (h0 : SqL K H a (ns.map V.int)) (hl : ns.length <= 1000) (h : ∀ z H', Same H H' -> SqT K H' z ((trim ns).map V.int) -> Q (.ref z) H') : Kc K [.ref a] H Q E := ⟨a, ns, rfl, by first | exact h0 | exact .inl h0, hl, h⟩
def Al0 (K : PySem.W.Frag) (c : List Int -> List Int -> Prop) : Sp := fun vs H Q _ => ∃ (x y : V) (p q : List Int) (l l' n n' : Nat), vs = [x, y] /\ Po K H x p l n /\ Po K H y q l' n' /\ l <= 500 /\ l' <= 500 /\ c p q /\ ∀ z H', Same H H' -> Po K H' z (ta p q) (max l l') (max n n' + 1) -> Q z H'
def Zj (K : PySem.W.Frag) : Sp := Al0 K fun p q => q.length <= p.length
def Qw (K : PySem.W.Frag) : Sp := Al0 K fun _ _ => True
theorem Z9 {f : Addr} {fd : FuncData} (F : Df K mg "p_plus" Ov ["one", "other"] f fd) (z_list : mg "list" = none) (z_enumerate : mg "enumerate" = none) (z_len : mg "len" = none)  (c_poly : Cal P w K mg base 1 "poly" ["weights"] (Kc K)) : Cal P w K mg base 2 "p_plus" ["one", "other"] (Zj K) := by
  refine F.cal (F.fn.ok Gm (fun vs H Q E h => ?_) (fun cdv A outer s H vs Q E hr h => ?_))
  . obtain ⟨x, y, p, q, _, _, _, _, rfl, _⟩ := h
    rfl
  obtain ⟨x, y, p, q, l, l', n, n', rfl, ⟨⟨a, rfl, ha⟩, tp, lp, zp⟩, ⟨⟨b, rfl, hb⟩, tq, lq, zq⟩, l5, l5', hc, k⟩ := h
  refine S.Ay ⟨_, (S.Ad (S.Ca (S.Aj Nt (S.Cr Aq rfl z_len PySem.boot_len (S.Aa (S.pv 0) S.Ac)) (S.Cr Aq rfl z_len PySem.boot_len (S.Aa (S.pv 1) S.Ac)) (Ak _)) (S.Ae S.Oz) S.Ax)
      (S.Ad (S.Ai (i := 2) Gm.nd rfl (Or.inl rfl) (S.Dq Dk rfl z_list PyProof.Rows.boot_list (S.Aa (S.pv 0) S.Ac)))
      (S.Ad (S.Du PassesOwn.never rfl (S.T5 rfl z_enumerate (S.Aa (S.pv 1) S.Ac)) (S.Gu rfl (S.Bj (S.Ar (i := 3) Gm.nd rfl (Or.inl rfl)) (S.Bj (S.Ar (i := 4) Gm.nd rfl (Or.inl rfl)) S.Gf))) (S.Ae (S.Gg (S.Ah Bw (S.Az Dj (S.pv 2) (S.pv 3) (fun _ _ => rfl)) (S.pv 4)) (S.J8 (S.pv 2) (S.pv 3) set_list))))
      (S.Ae (S.Al (S.Am c_poly (hr.mono (by decide)) (S.Aa (S.pv 2) S.Ac))))))), ?_⟩
  contradiction
  refine ⟨a, _, rfl, .inr ha, b, _, rfl, .inr hb, ?_⟩
  simp only [Hy, Eo, Hs, Hl, Ep, Hu, Bx, Ie, Et, Em, z_c, Ox, Ro, Pq, Hg, Qm, Hi, Hz, G3, G4, Ds, Rt, Il, Ig, Ia, Ej, Eh, G5, Hw, Rq, Fj, Hv, Dw, Qt, Ek, Ho, Fl, Q5, Im, Hq, Cg, Fi, Er, Ei, Ci, Ey, Hh, Ij, G9, Gs, Qh, Bp, Ec, Hr, Rf, Ib, En, Hj, Ii, Dz, Ik, Fg, Fe, Fb, Cp, Hx, Cm, Ez, Ea, Ef, G7, Dy, Ew, Es, Ck, El, Qp, cpσ, List.getElem?_cons_zero, List.getElem?_cons_succ, Option.join_some, List.set_cons_zero, List.set_cons_succ, List.append_nil, decide_eq_true_eq, Bool.not_eq_true', decide_eq_false_iff_not, Bool.not_not, ite_not, Bool.false_eq_true, Bool.true_eq_false, if_false, if_true, if_pos, List.length_cons, List.length_nil, Nat.zero_add, Nat.reduceAdd, Ed, Eb, true_and, and_true, L2.start, List.map_cons, List.map_nil, Bool.not_true, Bool.not_false, Nat.reduceSub, List.replicate_succ, List.replicate_zero, List.cons_append, List.nil_append, List.length_map]
  have hc' : ¬ ((p.length : Nat) : Int) < (q.length : Nat) := by omega
  rw [if_neg hc']
  refine ⟨a, _, rfl, .inr ha, fun l0 hn => ?_⟩
  have s0 := Same.upd hn (.lst (p.map V.int))
  try contradiction
  refine ⟨⟨_, s0.tup hb⟩, Abs (es := q) (inj := V.int) (fun pre σ H' => ∃ (o1 o2 : Option V) (ms : List Int), σ = [some (.ref a), some (.ref b), some (.ref l0), o1, o2] /\ Same H H' /\ H' l0 = some (.lst (ms.map V.int)) /\ ms.length = p.length /\ ∀ i, co ms i = co p i + co pre i)
    ⟨_, _, p, rfl, s0, Af, rfl, fun i => by rw [Bu, Int.add_zero]⟩ ?_ ?_ ?_⟩
  . rintro pre σ H' ⟨o1, o2, ms, rfl, s1, _⟩
    exact s1.tup hb
  . rintro pre e post σ H' p1 he ⟨o1, o2, ms, rfl, s1, hm, hlm, hco⟩ hp1
    refine Ka (.of Af) ?_
    have hlen := congrArg List.length he
    rw [List.length_append, List.length_cons] at hlen
    have hj : pre.length < ms.length := by omega
    have s2 := Same.upd hp1 (.tup [V.int (pre.length : Nat), V.int e])
    have hm2 := s2 _ _ hm
    try contradiction
    refine Va (.of hm2) (K7 hj) ?_
    try contradiction
    refine Y0 hm2 (by rw [List.length_map]; exact hj) ?_
    try contradiction
    rw [K8]
    refine ⟨_, _, ms.set pre.length (ms[pre.length] + e), rfl, ?_, Af, by rw [List.length_set]; exact hlm, fun i => ?_⟩
    . intro c o hc
      rw [Cu (Br hc hn)]
      exact s2 _ _ (s1 _ _ hc)
    . rw [Ri _ _ _ hj, J0, hco i]
      by_cases hi : i = pre.length
      . subst hi
        rw [if_pos rfl, if_pos rfl, <- Cv hj, hco, Bl (p := pre) (Nat.le_refl _)]
        omega
      . rw [if_neg hi, if_neg hi]
  . rintro σ H' ⟨o1, o2, ms, rfl, s1, hm, hlm, hco⟩
    try contradiction
    refine Ab1 (.of hm) (by omega) fun z H2 s2 hz => k _ _ (s1.trans s2) ⟨⟨z, rfl, ?_⟩, Xr _ _, ?_, fun i => ?_⟩
    . have e : trim ms = ta p q := Sx fun i => by rw [hco, Wd]
      rw [<- e]
      exact hz
    . have := Agb p q
      omega
    . rw [Qj]
      exact (zp i).add (zq i)
theorem Abq {f : Addr} {fd : FuncData} (F : Df K mg "p_plus" Ov ["one", "other"] f fd) (z_list : mg "list" = none) (z_enumerate : mg "enumerate" = none) (z_len : mg "len" = none)  (c_poly : Cal P w K mg base 1 "poly" ["weights"] (Kc K)) : Cal P w K mg base 3 "p_plus" ["one", "other"] (Qw K) := by
  have c_p_plus := Z9 F (z_len := z_len) (z_list := z_list) (z_enumerate := z_enumerate) (c_poly := c_poly)
  refine F.cal (F.fn.ok Gm (fun vs H Q E h => ?_) (fun cdv A outer s H vs Q E hr h => ?_))
  . obtain ⟨x, y, p, q, _, _, _, _, rfl, _⟩ := h
    rfl
  obtain ⟨x, y, p, q, l, l', n, n', rfl, ⟨⟨a, rfl, ha⟩, tp, lp, zp⟩, ⟨⟨b, rfl, hb⟩, tq, lq, zq⟩, l5, l5', hc, k⟩ := h
  refine S.Ay ⟨_, (S.Ad (S.Ca (S.Aj Nt (S.Cr Aq rfl z_len PySem.boot_len (S.Aa (S.pv 0) S.Ac)) (S.Cr Aq rfl z_len PySem.boot_len (S.Aa (S.pv 1) S.Ac)) (Ak _)) (S.Ae (S.Al (S.Am c_p_plus (hr.mono (by decide)) (S.Aa (S.pv 1) (S.Aa (S.pv 0) S.Ac))))) S.Ax)
      (S.Ad (S.Ai (i := 2) Gm.nd rfl (Or.inl rfl) (S.Dq Dk rfl z_list PyProof.Rows.boot_list (S.Aa (S.pv 0) S.Ac)))
      (S.Ad (S.Du PassesOwn.never rfl (S.T5 rfl z_enumerate (S.Aa (S.pv 1) S.Ac)) (S.Gu rfl (S.Bj (S.Ar (i := 3) Gm.nd rfl (Or.inl rfl)) (S.Bj (S.Ar (i := 4) Gm.nd rfl (Or.inl rfl)) S.Gf))) (S.Ae (S.Gg (S.Ah Bw (S.Az Dj (S.pv 2) (S.pv 3) (fun _ _ => rfl)) (S.pv 4)) (S.J8 (S.pv 2) (S.pv 3) set_list))))
      (S.Ae (S.Al (S.Am c_poly (hr.mono (by decide)) (S.Aa (S.pv 2) S.Ac))))))), ?_⟩
  contradiction
  refine ⟨a, _, rfl, .inr ha, b, _, rfl, .inr hb, ?_⟩
  simp only [Hy, Eo, Hs, Hl, Ep, Hu, Bx, Ie, Et, Em, z_c, Ox, Ro, Pq, Hg, Qm, Hi, Hz, G3, G4, Ds, Rt, Il, Ig, Ia, Ej, Eh, G5, Hw, Rq, Fj, Hv, Dw, Qt, Ek, Ho, Fl, Q5, Im, Hq, Cg, Fi, Er, Ei, Ci, Ey, Hh, Ij, G9, Gs, Qh, Bp, Ec, Hr, Rf, Ib, En, Hj, Ii, Dz, Ik, Fg, Fe, Fb, Cp, Hx, Cm, Ez, Ea, Ef, G7, Dy, Ew, Es, Ck, El, Qp, cpσ, List.getElem?_cons_zero, List.getElem?_cons_succ, Option.join_some, List.set_cons_zero, List.set_cons_succ, List.append_nil, decide_eq_true_eq, Bool.not_eq_true', decide_eq_false_iff_not, Bool.not_not, ite_not, Bool.false_eq_true, Bool.true_eq_false, if_false, if_true, if_pos, List.length_cons, List.length_nil, Nat.zero_add, Nat.reduceAdd, Ed, Eb, true_and, and_true, L2.start, List.map_cons, List.map_nil, Bool.not_true, Bool.not_false, Nat.reduceSub, List.replicate_succ, List.replicate_zero, List.cons_append, List.nil_append, List.length_map]
  by_cases hc' : ((p.length : Nat) : Int) < (q.length : Nat)
  . rw [if_pos hc']
    refine ⟨_, _, q, p, l', l, n', n, rfl, ⟨⟨b, rfl, hb⟩, tq, lq, zq⟩, ⟨⟨a, rfl, ha⟩, tp, lp, zp⟩, l5', l5, by omega, fun z H' s i => k z H' s ?_⟩
    rw [Ah1 p q, Nat.max_comm l l', Nat.max_comm n n']
    exact i
  rw [if_neg hc']
  refine ⟨a, _, rfl, .inr ha, fun l0 hn => ?_⟩
  have s0 := Same.upd hn (.lst (p.map V.int))
  try contradiction
  refine ⟨⟨_, s0.tup hb⟩, Abs (es := q) (inj := V.int) (fun pre σ H' => ∃ (o1 o2 : Option V) (ms : List Int), σ = [some (.ref a), some (.ref b), some (.ref l0), o1, o2] /\ Same H H' /\ H' l0 = some (.lst (ms.map V.int)) /\ ms.length = p.length /\ ∀ i, co ms i = co p i + co pre i)
    ⟨_, _, p, rfl, s0, Af, rfl, fun i => by rw [Bu, Int.add_zero]⟩ ?_ ?_ ?_⟩
  . rintro pre σ H' ⟨o1, o2, ms, rfl, s1, _⟩
    exact s1.tup hb
  . rintro pre e post σ H' p1 he ⟨o1, o2, ms, rfl, s1, hm, hlm, hco⟩ hp1
    refine Ka (.of Af) ?_
    have hlen := congrArg List.length he
    rw [List.length_append, List.length_cons] at hlen
    have hj : pre.length < ms.length := by omega
    have s2 := Same.upd hp1 (.tup [V.int (pre.length : Nat), V.int e])
    have hm2 := s2 _ _ hm
    try contradiction
    refine Va (.of hm2) (K7 hj) ?_
    try contradiction
    refine Y0 hm2 (by rw [List.length_map]; exact hj) ?_
    try contradiction
    rw [K8]
    refine ⟨_, _, ms.set pre.length (ms[pre.length] + e), rfl, ?_, Af, by rw [List.length_set]; exact hlm, fun i => ?_⟩
    . intro c o hc
      rw [Cu (Br hc hn)]
      exact s2 _ _ (s1 _ _ hc)
    . rw [Ri _ _ _ hj, J0, hco i]
      by_cases hi : i = pre.length
      . subst hi
        rw [if_pos rfl, if_pos rfl, <- Cv hj, hco, Bl (p := pre) (Nat.le_refl _)]
        omega
      . rw [if_neg hi, if_neg hi]
  . rintro σ H' ⟨o1, o2, ms, rfl, s1, hm, hlm, hco⟩
    try contradiction
    refine Ab1 (.of hm) (by omega) fun z H2 s2 hz => k _ _ (s1.trans s2) ⟨⟨z, rfl, ?_⟩, Xr _ _, ?_, fun i => ?_⟩
    . have e : trim ms = ta p q := Sx fun i => by rw [hco, Wd]
      rw [<- e]
      exact hz
    . have := Agb p q
      omega
    . rw [Qj]
      exact (zp i).add (zq i)
def Ku (K : PySem.W.Frag) : Sp := fun vs H Q _ => ∃ (x : V) (c : Int) (p : List Int) (l n m : Nat), vs = [x, .int c] /\ Po K H x p l n /\ Sz m c /\ l <= 500 /\ n + m <= 100000000 /\ ∀ z H', Same H H' -> Po K H' z (ng p c) l (n + m) -> Q z H'
theorem Acd {f : Addr} {fd : FuncData} (F : Df K mg "scaled" Pa ["one", "factor"] f fd) (z_tuple : mg "tuple" = none)   : Cal P w K mg base 1 "scaled" ["one", "factor"] (Ku K) := by
  refine F.cal (F.fn.ok Aaw (fun vs H Q E h => ?_) (fun cdv A outer s H vs Q E hr h => ?_))
  . obtain ⟨x, c, p, _, _, _, rfl, _⟩ := h
    rfl
  obtain ⟨x, c, p, l, n, m, rfl, ⟨⟨a, rfl, ha⟩, tp, lp, zp⟩, hm, l5, hz, k⟩ := h
  refine S.Ay ⟨_, (S.Ad (S.Ca (S.Aj Fx (S.pv 1) S.Ab (Ak _)) (S.Ae (S.Al (S.Aw S.Ac))) S.Ax)
      (S.Ae (S.Al (S.Dq Dc rfl z_tuple PyProof.Rows.boot_tuple (S.Aa (S.Ja (ts := ["weight"]) (fs := [(1, "factor")]) rfl (Cj.of (sc := Ag Pa) (N := ["one", "factor"]) rfl rfl (by decide +kernel)) (S.Le (S.pv 0)) (fun _ _ _ => (S.Ar (i := 0) (show List.Nodup (["weight", "factor"] : List Str) by decide +kernel) rfl (Or.inl rfl))) (fun _ _ _ => S.Ht) (fun _ _ _ => (S.Ah Bb (S.pv 0) (S.pv 1)))) S.Ac))))), ?_⟩
  contradiction
  have szc : ∀ i, Sz (n + m) (co (ng p c) i) := fun i => by
    rw [Ss]
    exact (zp i).mul hm
  by_cases hc : c = 0
  . rw [if_pos hc]
    refine ⟨by decide, fun z hz' => k _ _ (Same.upd hz' _) ⟨⟨z, rfl, ?_⟩, Bo _, ?_, szc⟩⟩
    . have e : ng p c = [] := (Bo _).ext (.inl rfl) fun i => by
        have := Ss p c i
        rw [hc, Int.mul_zero] at this
        rw [Bu, <- this, hc, ng]
      rw [e]
      exact .of Af
    . have := J4 (p.map (· * c))
      rw [List.length_map] at this
      exact Nat.le_trans this lp
  . rw [if_neg hc]
    refine ⟨⟨_, ha⟩, fun p1 hp1 => J5 (es := p) (inj := V.int) (fun w => .int (w * c)) (Nat.le_trans lp (Nat.le_trans l5 (by decide))) hp1 (Qk ha) ?_ ?_⟩
    . intro e H2 R he s2 hR
      contradiction
      obtain ⟨i, hi, ei⟩ := List.getElem_of_mem he
      have ze := zp i
      rw [Cv hi, ei] at ze
      exact ⟨ze.mulOk hm (by omega), hR _ (Same.refl _)⟩
    . intro H2 s2 h2
      try contradiction
      have e : ng p c = p.map (· * c) := Ry (.of (by
        by_cases hp : p = []
        . left; rw [hp]; rfl
        . right
          have := tp.lead hp
          rw [List.length_map, <- Bc, show trim (p.map (· * c)) = ng p c from rfl, Ss]
          exact Int.mul_ne_zero this hc))
      refine ⟨p1, _, rfl, .inl ⟨.of h2, fun z hz' => k _ _ (s2.trans (Same.upd hz' _)) ⟨⟨z, rfl, ?_⟩, Bo _, ?_, szc⟩⟩⟩
      . rw [e, List.map_map]
        exact .of Af
      . rw [e, List.length_map]
        exact lp
def Nj (K : PySem.W.Frag) : Sp := fun vs H Q _ => ∃ (x y : V) (p q : List Int) (l l' n n' : Nat), vs = [x, y] /\ Po K H x p l n /\ Po K H y q l' n' /\ l <= 500 /\ l' <= 500 /\ n' <= 10000000 /\ ∀ z H', Same H H' -> Po K H' z (ta p (ng q (-1))) (max l l') (max n (n' + 1) + 1) -> Q z H'
theorem Zd {f : Addr} {fd : FuncData} (F : Df K mg "p_minus" Qs ["one", "other"] f fd)   (c_p_plus : Cal P w K mg base 3 "p_plus" ["one", "other"] (Qw K)) (c_scaled : Cal P w K mg base 1 "scaled" ["one", "factor"] (Ku K)) : Cal P w K mg base 4 "p_minus" ["one", "other"] (Nj K) := by
  refine F.cal (F.fn.ok Z4 (fun vs H Q E h => ?_) (fun cdv A outer s H vs Q E hr h => ?_))
  . obtain ⟨x, y, p, q, _, _, _, _, rfl, _⟩ := h
    rfl
  obtain ⟨x, y, p, q, l, l', n, n', rfl, hx, hy, l5, l5', hn, k⟩ := h
  refine S.Ay ⟨_, (S.Ae (S.Al (S.Am c_p_plus (hr.mono (by decide)) (S.Aa (S.pv 0) (S.Aa (S.Am c_scaled (hr.mono (by decide)) (S.Aa (S.pv 1) (S.Aa (S.Dp Bt S.Ab) S.Ac))) S.Ac))))), ?_⟩
  contradiction
  refine ⟨y, -1, q, l', n', 1, rfl, hy, by unfold Sz; decide, l5', by omega, fun z H1 s1 hz => ?_⟩
  try contradiction
  exact ⟨x, z, p, ng q (-1), l, l', n, n' + 1, rfl, hx.mono s1, hz, l5, l5', trivial, fun z2 H2 s2 h2 => k z2 H2 (s1.trans s2) h2⟩
theorem Ago {q : List Int} {n n' : Nat} (hq : ∀ i, Sz n' (co q i)) : ∀ (p : List Int), (∀ x ∈ p, Sz n x) -> ∀ i, Sz (n + n' + p.length) (mu p (co q) i)
  | [], _, i => by
    have h0 : 0 < 2 ^ (n + n' + ([] : List Int).length) := Nat.pow_pos (by decide)
    exact h0
  | a :: p, h, i => by
    have ih := Ago hq p fun x hx => h x (List.mem_cons_of_mem _ hx)
    have h1 := (h a List.mem_cons_self).mul (hq i)
    have h2 : Sz (n + n' + p.length) (sh (mu p (co q)) i) := by
      cases i with
      | zero =>
        have h0 : 0 < 2 ^ (n + n' + p.length) := Nat.pow_pos (by decide)
        exact h0
      | succ i => exact ih i
    exact (h1.add h2).mono (by simp only [List.length_cons]; omega)
theorem Po.mem {K : PySem.W.Frag} {H : Hp} {v : V} {p : List Int} {l n : Nat} (h : Po K H v p l n) : ∀ x ∈ p, Sz n x := fun x hx => by
  obtain ⟨i, hi, ei⟩ := List.getElem_of_mem hx
  have z := h.2.2.2 i
  rw [Cv hi, ei] at z
  exact z
def Jg (K : PySem.W.Frag) : Sp := fun vs H Q _ => ∃ (x y : V) (p q : List Int) (l l' n n' : Nat), vs = [x, y] /\ Po K H x p l n /\ Po K H y q l' n' /\ l <= 500 /\ l' <= 500 /\ n + n' <= 100000000 /\ ∀ z H', Same H H' -> Po K H' z (tm p q) (l + l') (n + n' + l) -> Q z H'
theorem Zv {f : Addr} {fd : FuncData} (F : Df K mg "p_times" Q0 ["one", "other"] f fd) (z_enumerate : mg "enumerate" = none) (z_tuple : mg "tuple" = none) (z_len : mg "len" = none)   : Cal P w K mg base 1 "p_times" ["one", "other"] (Jg K) := by
  refine F.cal (F.fn.ok Gz (fun vs H Q E h => ?_) (fun cdv A outer s H vs Q E hr h => ?_))
  . obtain ⟨x, y, p, q, _, _, _, _, rfl, _⟩ := h
    rfl
  obtain ⟨x, y, p, q, l, l', n, n', rfl, hx, hy, l5, l5', hn, k⟩ := h
  have mx := hx.mem
  have my := hy.mem
  obtain ⟨⟨a, rfl, ha⟩, tp, lp, zp⟩ := hx
  obtain ⟨⟨b, rfl, hb⟩, tq, lq, zq⟩ := hy
  have res : ∀ (z : Addr) (H' : Hp), Same H H' -> SqT K H' z ((tm p q).map V.int) -> Q (.ref z) H' := fun z H' s hz => by
    refine k _ _ s ⟨⟨z, rfl, hz⟩, Jk _ _, ?_, fun i => ?_⟩
    . by_cases h1 : p = []
      . rw [h1, Ng, Sy]
        exact Nat.zero_le _
      . by_cases h2 : q = []
        . rw [h2, Sy]
          exact Nat.zero_le _
        . have := Sv tp tq h1 h2
          omega
    . rw [Fo]
      exact (Ago zq p mx i).mono (by omega)
  refine S.Ay ⟨_, (S.Ad (S.Ca (S.Ju (S.Jq (S.Aj (Iu hr.units) (S.pv 0) (S.Aw S.Ac) (Ak _)) (S.Iv (S.Aj (Iu hr.units) (S.pv 1) (S.Aw S.Ac) (Ak _))))) (S.Ae (S.Al (S.Aw S.Ac))) S.Ax)
      (S.Ad (S.Ai (i := 2) Gz.nd rfl (Or.inl rfl) (S.Ah Aft (S.Gb (S.Aa S.Ab S.Ac)) (S.Ah Dd (S.Ah Bw (S.Cr Aq rfl z_len PySem.boot_len (S.Aa (S.pv 0) S.Ac)) (S.Cr Aq rfl z_len PySem.boot_len (S.Aa (S.pv 1) S.Ac))) S.Ab)))
      (S.Ad (S.Du PassesOwn.never rfl (S.T5 rfl z_enumerate (S.Aa (S.pv 0) S.Ac)) (S.Gu rfl (S.Bj (S.Ar (i := 3) Gz.nd rfl (Or.inl rfl)) (S.Bj (S.Ar (i := 4) Gz.nd rfl (Or.inl rfl)) S.Gf))) (S.Ae (S.Ca (S.Aj R9 (S.pv 4) S.Ab (Ak _)) (S.Ae (S.Du PassesOwn.never rfl (S.T5 rfl z_enumerate (S.Aa (S.pv 1) S.Ac)) (S.Gu rfl (S.Bj (S.Ar (i := 5) Gz.nd rfl (Or.inl rfl)) (S.Bj (S.Ar (i := 6) Gz.nd rfl (Or.inl rfl)) S.Gf))) (S.Ae (S.Gg (S.Ah Bw (S.Az Dj (S.pv 2) (S.Ah Bw (S.pv 3) (S.pv 5)) (fun _ _ => rfl)) (S.Ah Bb (S.pv 4) (S.pv 6))) (S.J8 (S.pv 2) (S.Ah Bw (S.pv 3) (S.pv 5)) set_list))))) S.Ax)))
      (S.Ae (S.Al (S.Dq Dc rfl z_tuple PyProof.Rows.boot_tuple (S.Aa (S.pv 2) S.Ac))))))), ?_⟩
  contradiction
  refine ⟨by decide, fun p1 hp1 => ?_⟩
  have s1 := Same.upd hp1 (.tup [])
  refine Dh (ms := []) (s1.tup ha) (.of Af) ?_
  try contradiction
  by_cases h1 : p = []
  . rw [if_pos h1]
    refine ⟨by decide, fun z hz => res z _ (s1.trans (Same.upd hz _)) ?_⟩
    rw [h1, Ng, Sy]
    exact .of Af
  rw [if_neg h1]
  refine ⟨by decide, fun p2 hp2 => ?_⟩
  have s2 := s1.trans (Same.upd hp2 (.tup []))
  refine Dh (ms := []) (s2.tup hb) (.of Af) ?_
  try contradiction
  by_cases h2 : q = []
  . rw [if_pos h2]
    refine ⟨by decide, fun z hz => res z _ (s2.trans (Same.upd hz _)) ?_⟩
    rw [h2, Sy]
    exact .of Af
  rw [if_neg h2]
  intro p3 hp3
  have s3 := s2.trans (Same.upd hp3 (.lst [V.int 0]))
  have q1 := List.length_pos_iff.mpr h1
  have q2 := List.length_pos_iff.mpr h2
  have sz5 : 1000 <= sizeLine := by decide
  refine ⟨a, _, rfl, .inr (s3.tup ha), b, _, rfl, .inr (s3.tup hb), ?_⟩
  simp only [List.length_map]
  have hN : ((p.length : Int) + (q.length : Int) - 1).toNat = p.length + q.length - 1 := by omega
  refine ⟨p3, _, [V.int 0], rfl, rfl, Af, by omega, by omega, by rw [hN]; simp only [List.length_cons, List.length_nil]; omega, fun l0 hn => ?_⟩
  rw [hN, Pj]
  have hnH : H l0 = none := Same.free s3 hn
  have s4 := s3.trans (Same.upd hn (.lst ((List.replicate (p.length + q.length - 1) (0 : Int)).map V.int)))
  refine ⟨⟨_, s4.tup ha⟩, Abs (es := p) (inj := V.int) (fun pre σ H' => ∃ (o1 o2 o3 o4 : Option V) (ms : List Int), σ = [some (.ref a), some (.ref b), some (.ref l0), o1, o2, o3, o4] /\ Same H H' /\ H' l0 = some (.lst (ms.map V.int)) /\ ms.length = p.length + q.length - 1 /\ ∀ i, co ms i = mu pre (co q) i)
    ⟨_, _, _, _, List.replicate (p.length + q.length - 1) 0, rfl, s4, Af, by rw [List.length_replicate], fun i => ?_⟩ ?_ ?_ ?_⟩
  . show _ = 0
    unfold co
    rw [List.getD_eq_getElem?_getD, List.getElem?_replicate]
    split <;> rfl
  . rintro pre σ H' ⟨o1, o2, o3, o4, ms, rfl, s5, _⟩
    exact s5.tup ha
  . rintro pre e post σ H' p4 he ⟨o1, o2, o3, o4, ms, rfl, s5, hm, hlm, hco⟩ hp4
    refine Ka (.of Af) ?_
    have hlen := congrArg List.length he
    rw [List.length_append, List.length_cons] at hlen
    have ez : Sz n e := mx e (by rw [he]; simp)
    have s6 := s5.trans (Same.upd hp4 (.tup [V.int (pre.length : Nat), V.int e]))
    have hm6 := Same.upd hp4 (.tup [V.int (pre.length : Nat), V.int e]) _ _ hm
    try contradiction
    by_cases hz : e = 0
    . rw [if_pos hz]
      exact ⟨_, _, _, _, ms, rfl, s6, hm6, hlm, fun i => by rw [N6, hco, hz]; simp⟩
    . rw [if_neg hz]
      refine ⟨⟨_, s6.tup hb⟩, Abs (es := q) (inj := V.int) (fun pre2 σ H2 => ∃ (o3 o4 : Option V) (ms2 : List Int), σ = [some (.ref a), some (.ref b), some (.ref l0), some (.int (pre.length : Nat)), some (.int e), o3, o4] /\ Same H H2 /\ H2 l0 = some (.lst (ms2.map V.int)) /\ ms2.length = p.length + q.length - 1 /\
          ∀ i, co ms2 i = mu pre (co q) i + (if pre.length <= i then e * co pre2 (i - pre.length) else 0)) ⟨_, _, ms, rfl, s6, hm6, hlm, fun i => ?_⟩ ?_ ?_ ?_⟩
      . rw [hco, Bu, Int.mul_zero]
        split <;> simp
      . rintro pre2 σ H2 ⟨o3, o4, ms2, rfl, s7, _⟩
        exact s7.tup hb
      . rintro pre2 f post2 σ H2 p5 he2 ⟨o3, o4, ms2, rfl, s7, hm7, hlm2, hco2⟩ hp5
        refine Ka (.of Af) ?_
        have hlen2 := congrArg List.length he2
        rw [List.length_append, List.length_cons] at hlen2
        have fz : Sz n' f := my f (by rw [he2]; simp)
        have hj : pre.length + pre2.length < ms2.length := by omega
        have s8 := Same.upd hp5 (.tup [V.int (pre2.length : Nat), V.int f])
        have hm8 := s8 _ _ hm7
        simp only [Hy, Eo, Hs, Hl, Ep, Hu, Bx, Ie, Et, Em, z_c, Ox, Ro, Pq, Hg, Qm, Hi, Hz, G3, G4, Ds, Rt, Il, Ig, Ia, Ej, Eh, G5, Hw, Rq, Fj, Hv, Dw, Qt, Ek, Ho, Fl, Q5, Im, Hq, Cg, Fi, Er, Ei, Ci, Ey, Hh, Ij, G9, Gs, Qh, Bp, Ec, Hr, Rf, Ib, En, Hj, Ii, Dz, Ik, Fg, Fe, Fb, Cp, Hx, Cm, Ez, Ea, Ef, G7, Dy, Ew, Es, Ck, El, Qp, cpσ, List.getElem?_cons_zero, List.getElem?_cons_succ, Option.join_some, List.set_cons_zero, List.set_cons_succ, List.append_nil, decide_eq_true_eq, Bool.not_eq_true', decide_eq_false_iff_not, Bool.not_not, ite_not, Bool.false_eq_true, Bool.true_eq_false, if_false, if_true, if_pos, List.length_cons, List.length_nil, Nat.zero_add, Nat.reduceAdd, Ed, Eb, true_and, and_true, L2.start, List.map_cons, List.map_nil, Bool.not_true, Bool.not_false, Nat.reduceSub, List.replicate_succ, List.replicate_zero, List.cons_append, List.nil_append, <- Int.natCast_add]
        refine Va (.of hm8) (K7 hj) ?_
        try contradiction
        refine ⟨ez.mulOk fz (by omega), ?_⟩
        refine Y0 hm8 (by rw [List.length_map]; exact hj) ?_
        try contradiction
        rw [K8]
        refine ⟨_, _, ms2.set (pre.length + pre2.length) (ms2[pre.length + pre2.length] + e * f), rfl, ?_, Af, by rw [List.length_set]; exact hlm2, fun i => ?_⟩
        . intro c o hc
          rw [Cu (Br hc hnH)]
          exact s8 _ _ (s7 _ _ hc)
        . rw [Ri _ _ _ hj, J0, hco2 i]
          by_cases hi : i = pre.length + pre2.length
          . subst hi
            rw [if_pos rfl, <- Cv hj, hco2, if_pos (by omega), if_pos (by omega), if_pos (by omega), show pre.length + pre2.length - pre.length = pre2.length by omega, Bl (p := pre2) (Nat.le_refl _)]
            omega
          . rw [if_neg hi]
            by_cases hi2 : pre.length <= i
            . rw [if_pos hi2, if_pos hi2, if_neg (by omega)]
            . rw [if_neg hi2, if_neg hi2]
      . rintro σ H2 ⟨o3, o4, ms2, rfl, s7, hm7, hlm2, hco2⟩
        try contradiction
        exact ⟨_, _, _, _, ms2, rfl, s7, hm7, hlm2, fun i => by rw [N6, hco2]⟩
  . rintro σ H' ⟨o1, o2, o3, o4, ms, rfl, s5, hm, hlm, hco⟩
    try contradiction
    have e : ms = tm p q := by
      have tl := Sv tp tq h1 h2
      refine List.ext_getElem (by omega) fun i g1 g2 => ?_
      rw [<- Cv g1, <- Cv g2, hco, Fo]
    refine ⟨l0, _, rfl, .inl ⟨.of hm, fun z hz => res z _ (s5.trans (Same.upd hz _)) ?_⟩⟩
    rw [<- e]
    exact .of Af
theorem Aly {p : List Int} {l n : Nat} (tp : Tr p) (lp : p.length <= l) (zp : ∀ i, Sz n (co p i)) : ∀ m, (pw p m).length <= m * l + 1 /\ ∀ i, Sz (m * (n + l) + 1) (co (pw p m) i)
  | 0 => ⟨by simp [pw], fun i => by
    rw [pw]
    refine Ahv (by omega) (fun x hx => ?_) i
    have e : x = 1 := by simpa using hx
    subst e
    unfold Sz
    rw [Nat.zero_mul]
    decide⟩
  | m + 1 => by
    obtain ⟨h1, h2⟩ := Aly tp lp zp m
    have e1 : (m + 1) * l = m * l + l := Nat.succ_mul _ _
    have e2 : (m + 1) * (n + l) = m * (n + l) + (n + l) := Nat.succ_mul _ _
    refine ⟨?_, fun i => ?_⟩
    . rw [pw]
      by_cases z1 : p = []
      . rw [z1, Ng, Sy]
        exact Nat.zero_le _
      . by_cases z2 : pw p m = []
        . rw [z2, Sy]
          exact Nat.zero_le _
        . have := Sv tp (Aah p m) z1 z2
          omega
    . rw [pw, Fo]
      exact (Ago h2 p (fun x hx => by
        obtain ⟨i, hi, ei⟩ := List.getElem_of_mem hx
        have z := zp i
        rw [Cv hi, ei] at z
        exact z) i).mono (by omega)
def Qv (K : PySem.W.Frag) : Sp := fun vs H Q _ => ∃ (x0 x : V) (m M : Nat) (mi : Int) (p : List Int) (l n : Nat), vs = [x0, x, .int mi, .ref (cA K "p_times")] /\ (mi = (m : Nat) \/ mi < 0 /\ m = 0) /\ (∃ a, x0 = .ref a /\ SqT K H a [V.int 1]) /\ Po K H x p l n /\ m <= M /\ 1 <= M /\ M * l + 1 <= 500 /\ M * (n + l) + 1 <= 1000000 /\ ∀ z H', Same H H' -> Po K H' z (pw p m) (m * l + 1) (m * (n + l) + 1) -> Q z H'
theorem Ws {f : Addr} {fd : FuncData} (F : Df K mg "repeated" Np ["start", "one", "many", "product"] f fd)  (xm_p_times : mg "p_times" = some (.ref (cA K "p_times"))) (c_p_times : Cal P w K mg base 1 "p_times" ["one", "other"] (Jg K)) : Cal P w K mg base 2 "repeated" ["start", "one", "many", "product"] (Qv K) := by
  refine F.cal (F.fn.ok Ga (fun vs H Q E h => ?_) (fun cdv A outer s H vs Q E hr h => ?_))
  . obtain ⟨x0, x, m, M, mi, p, _, _, rfl, _⟩ := h
    rfl
  obtain ⟨_, x, m, M, mi, p, l, n, rfl, hmi, ⟨p0, rfl, hp0⟩, hx, hm, hM, hl, hn, k⟩ := h
  have hx' := hx
  obtain ⟨_, tp, lp, zp⟩ := hx'
  have bd := Aly tp lp zp
  have sm : ∀ a, a <= M -> a * l + 1 <= 500 /\ a * (n + l) + 1 <= 1000000 := fun a ha => by
    have h1 : a * l <= M * l := Nat.mul_le_mul_right _ ha
    have h2 : a * (n + l) <= M * (n + l) := Nat.mul_le_mul_right _ ha
    omega
  have conv : ∀ (H' : Hp) (z : V) (a b L N : Nat), Po K H' z (tm (pw p a) (pw p b)) L N -> Po K H' z (pw p (a + b)) ((a + b) * l + 1) ((a + b) * (n + l) + 1) := fun H' z a b L N h => by
    rw [Afz] at h
    exact ⟨h.1, Aah _ _, bd (a + b)⟩
  refine S.Ay ⟨_, (S.Ad (S.Ai (i := 4) Ga.nd rfl (Or.inl rfl) (S.pv 0))
      (S.Ad (S.Ai (i := 5) Ga.nd rfl (Or.inl rfl) (S.pv 1))
      (S.Ad (S.Ai (i := 6) Ga.nd rfl (Or.inl rfl) (S.pv 2))
      (S.Ad (S.Fp PassesOwn.never (S.Aj Nu (S.pv 6) S.Ab (Ak _)) (S.Ad (S.Ca (S.Aj Fx (S.Ah Bv (S.pv 6) S.Ab) S.Ab (Ak _)) (S.Ae (S.Ai (i := 4) Ga.nd rfl (Or.inl rfl) (S.Aab c_p_times xm_p_times (hr.mono (by decide)) (S.pv 3) (S.Aa (S.pv 4) (S.Aa (S.pv 5) S.Ac))))) S.Ax)
      (S.Ad (S.Ai (i := 6) Ga.nd rfl (Or.inl rfl) (S.Ah Bk (S.pv 6) S.Ab))
      (S.Ae (S.Ca (S.Aj Nu (S.pv 6) S.Ab (Ak _)) (S.Ae (S.Ai (i := 5) Ga.nd rfl (Or.inl rfl) (S.Aab c_p_times xm_p_times (hr.mono (by decide)) (S.pv 3) (S.Aa (S.pv 5) (S.Aa (S.pv 5) S.Ac))))) S.Ax)))))
      (S.Ae (S.Al (S.pv 4))))))), ?_⟩
  contradiction
  have s0 := Same.refl H
  have i1 : Po K H (.ref p0) (pw p 0) (0 * l + 1) (0 * (n + l) + 1) := ⟨⟨p0, rfl, hp0⟩, Aah _ _, bd 0⟩
  have i2 : Po K H x (pw p 1) (1 * l + 1) (1 * (n + l) + 1) := ⟨by rw [Ajc tp]; exact hx.1, Aah _ _, bd 1⟩
  rcases hmi with rfl | ⟨hneg, rfl⟩
  case inr =>
    refine K4 (fun σ H' => σ = [some (.ref p0), some x, some (.int mi), some (.ref (cA K "p_times")), some (.ref p0), some x, some (.int mi)] /\ H' = H) (fun _ _ => 0) ⟨rfl, rfl⟩ ?_
    rintro σ H' ⟨rfl, rfl⟩
    contradiction
    rw [if_neg (by omega)]
    exact k _ _ s0 i1
  refine K4 (fun σ H' => ∃ (zp zs : V) (a b t : Nat), σ = [some (.ref p0), some x, some (.int (m : Nat)), some (.ref (cA K "p_times")), some zp, some zs, some (.int (t : Nat))] /\ Same H H' /\ Po K H' zp (pw p a) (a * l + 1) (a * (n + l) + 1) /\ Po K H' zs (pw p b) (b * l + 1) (b * (n + l) + 1) /\ a + b * t = m /\ b <= M)
    (fun σ _ => match σ with | [_, _, _, _, _, _, some (.int t)] => t.toNat | _ => 0) ⟨_, _, 0, 1, m, rfl, s0, i1, i2, by omega, hM⟩ ?_
  rintro σ H' ⟨yp, ys, a, b, t, rfl, s1, ia, ib, hab, hb⟩
  contradiction
  by_cases ht : (0 : Int) < (t : Nat)
  . rw [if_pos ht]
    refine Abd ?_
    contradiction
    refine ⟨by decide, ?_⟩
    have d2 : ((t : Nat) : Int) / 2 = ((t / 2 : Nat) : Int) := by omega
    have ha : a <= M := by omega
    have step : ∀ (H2 : Hp) (z : V) (a' : Nat), Same H' H2 -> Po K H2 z (pw p a') (a' * l + 1) (a' * (n + l) + 1) -> a' + 2 * b * (t / 2) = m ->
        Aek (t : Nat) 2 /\ (if (0 : Int) < ((t : Nat) : Int) / 2 then Jg K [ys, ys] H2 (fun w H3 => (∃ (zp zs : V) (a b u : Nat), [some (.ref p0), some x, some (.int (m : Nat)), some (.ref (cA K "p_times")), some z, some w, some (.int (((t : Nat) : Int) / 2))] = [some (.ref p0), some x, some (.int (m : Nat)), some (.ref (cA K "p_times")), some zp, some zs, some (.int (u : Nat))] /\ Same H H3 /\ Po K H3 zp (pw p a) (a * l + 1) (a * (n + l) + 1) /\ Po K H3 zs (pw p b) (b * l + 1) (b * (n + l) + 1) /\ a + b * u = m /\ b <= M) /\ (((t : Nat) : Int) / 2).toNat < ((t : Nat) : Int).toNat) E0
          else (∃ (zp zs : V) (a b u : Nat), [some (.ref p0), some x, some (.int (m : Nat)), some (.ref (cA K "p_times")), some z, some ys, some (.int (((t : Nat) : Int) / 2))] = [some (.ref p0), some x, some (.int (m : Nat)), some (.ref (cA K "p_times")), some zp, some zs, some (.int (u : Nat))] /\ Same H H2 /\ Po K H2 zp (pw p a) (a * l + 1) (a * (n + l) + 1) /\ Po K H2 zs (pw p b) (b * l + 1) (b * (n + l) + 1) /\ a + b * u = m /\ b <= M) /\ (((t : Nat) : Int) / 2).toNat < ((t : Nat) : Int).toNat) := fun H2 z a' s2 iz e => by
      rw [d2]
      refine ⟨⟨by decide, by decide⟩, ?_⟩
      by_cases h2 : (0 : Int) < ((t / 2 : Nat) : Int)
      . rw [if_pos h2]
        have hbb : 2 * b <= 2 * b * (t / 2) := Nat.le_mul_of_pos_right _ (by omega)
        have q1 := sm b hb
        refine ⟨ys, ys, _, _, _, _, _, _, rfl, ib.mono s2, ib.mono s2, q1.1, q1.1, by omega, fun w H3 s3 iw => ⟨⟨z, w, a', b + b, t / 2, rfl, (s1.trans s2).trans s3, iz.mono s3, conv _ _ _ _ _ _ iw, ?_, by omega⟩, by omega⟩⟩
        rw [<- Nat.two_mul]
        exact e
      . rw [if_neg h2]
        have t0 : t / 2 = 0 := by omega
        refine ⟨⟨z, ys, a', b, t / 2, rfl, s1.trans s2, iz, ib.mono s2, ?_, hb⟩, by omega⟩
        rw [t0] at e ⊢
        simpa using e
    have e3 : b * t = 2 * b * (t / 2) + b * (t % 2) := by
      have e := Nat.div_add_mod t 2
      calc b * t = b * (2 * (t / 2) + t % 2) := by rw [e]
        _ = 2 * b * (t / 2) + b * (t % 2) := by rw [Nat.mul_add, <- Nat.mul_assoc, Nat.mul_comm b 2]
    have q1 := sm a ha
    have q2 := sm b hb
    by_cases ho : ((t : Nat) : Int) % 2 = 1
    . rw [if_pos ho]
      have o1 : t % 2 = 1 := by omega
      refine ⟨yp, ys, _, _, _, _, _, _, rfl, ia, ib, q1.1, q2.1, by omega, fun w H2 s2 iw => step H2 w (a + b) s2 (conv _ _ _ _ _ _ iw) ?_⟩
      rw [o1, Nat.mul_one] at e3
      omega
    . rw [if_neg ho]
      have o1 : t % 2 = 0 := by omega
      refine step H' yp a (Same.refl _) ia ?_
      rw [o1, Nat.mul_zero] at e3
      omega
  . rw [if_neg ht]
    have t0 : t = 0 := by omega
    subst t0
    have e : a = m := by simpa using hab
    subst e
    exact k _ _ s1 ia
theorem Aay : ∀ (p r : List Int), gl (p ++ r) = Int.gcd (gl p : Nat) (gl r : Nat)
  | [], r => by rw [List.nil_append, gl]; simp
  | a :: p, r => by rw [List.cons_append, gl, Aay p r, gl, Int.gcd_assoc]
theorem Xg (p : List Int) (e : Int) : gl (p ++ [e]) = Int.gcd (gl p : Nat) e := by
  rw [Aay, gl, gl]
  simp [Int.gcd]
def Alx (K : PySem.W.Frag) : Sp := fun vs H Q _ => ∃ (a : Addr) (ns : List Int), vs = [.ref a] /\ SqT K H a (ns.map V.int) /\ Q (.int (gl ns : Nat)) H
def Ms (K : PySem.W.Frag) : Sp := Alx K
theorem T4 {f : Addr} {fd : FuncData} (F : Df K mg "divisor_of" Kg ["some"] f fd)   (c_divisor : Cal P w K mg base 1 "divisor" ["one", "other"] (Kw K)) : Cal P w K mg base 2 "divisor_of" ["some"] (Ms K) := by
  refine F.cal (F.fn.ok Gw (fun vs H Q E h => ?_) (fun cdv A outer s H vs Q E hr h => ?_))
  . obtain ⟨a, ns, rfl, _⟩ := h
    rfl
  obtain ⟨a, ns, rfl, hS, q⟩ := h
  refine S.Ay ⟨_, (S.Ad (S.Ai (i := 1) Gw.nd rfl (Or.inl rfl) S.Ab)
      (S.Ad (S.Du PassesOwn.never rfl (S.Le (S.pv 0)) (S.Ar (i := 2) Gw.nd rfl (Or.inl rfl)) (S.Ad (S.Ai (i := 1) Gw.nd rfl (Or.inl rfl) (S.Am c_divisor (hr.mono (by decide)) (S.Aa (S.pv 1) (S.Aa (S.pv 2) S.Ac))))
      (S.Ae (S.Ca (S.Aj Fx (S.pv 1) S.Ab (Ak _)) (S.Ae (S.Al (S.pv 1))) S.Ax))))
      (S.Ae (S.Al (S.pv 1))))), ?_⟩
  contradiction
  refine ⟨⟨_, hS⟩, R6 (es := ns) (inj := V.int) (fun pre σ H' => H' = H /\ ∃ o, σ = [some (.ref a), some (.int (gl pre : Nat)), o]) ⟨rfl, _, rfl⟩ ?_ ?_ ?_⟩
  . rintro pre σ H' ⟨rfl, _⟩
    exact Ot hS
  . rintro pre e post σ H' he ⟨rfl, o, rfl⟩
    contradiction
    refine ⟨_, _, rfl, ?_⟩
    rw [<- Xg]
    contradiction
    split
    . rename_i h1
      have h1' : gl (pre ++ [e]) = 1 := by omega
      have e2 : gl ns = gl (pre ++ [e]) := by
        rw [he, <- List.singleton_append, <- List.append_assoc, Aay, h1']
        simp
      rw [<- e2]
      exact q
    . exact ⟨_, rfl⟩
  . rintro σ H' ⟨rfl, o, rfl⟩
    contradiction
    exact q
def Tj (K : PySem.W.Frag) : Sp := Alx K
theorem Zk {f : Addr} {fd : FuncData} (F : Df K mg "content" Ra ["one"] f fd)   (c_divisor_of : Cal P w K mg base 2 "divisor_of" ["some"] (Ms K)) : Cal P w K mg base 3 "content" ["one"] (Tj K) := by
  refine F.cal (F.fn.ok Y8 (fun vs H Q E h => ?_) (fun cdv A outer s H vs Q E hr h => ?_))
  . obtain ⟨a, ns, rfl, _⟩ := h
    rfl
  obtain ⟨a, ns, rfl, hS, q⟩ := h
  refine S.Ay ⟨_, (S.Ae (S.Al (S.Am c_divisor_of (hr.mono (by decide)) (S.Aa (S.pv 0) S.Ac)))), ?_⟩
  contradiction
  exact ⟨a, ns, rfl, hS, q⟩
def Aa4 (K : PySem.W.Frag) : Sp := fun vs H Q _ => ∃ (a : Addr) (p : List Int), vs = [.ref a] /\ SqT K H a (p.map V.int) /\ ∀ H', Same H H' -> Q (.int (un p)) H'
theorem Aim {f : Addr} {fd : FuncData} (F : Df K mg "unit" Adq ["one"] f fd)   (c_content : Cal P w K mg base 3 "content" ["one"] (Tj K)) : Cal P w K mg base 4 "unit" ["one"] (Aa4 K) := by
  refine F.cal (F.fn.ok Ahe (fun vs H Q E h => ?_) (fun cdv A outer s H vs Q E hr h => ?_))
  . obtain ⟨a, p, rfl, _⟩ := h
    rfl
  obtain ⟨a, p, rfl, hS, k⟩ := h
  refine S.Ay ⟨_, (S.Ad (S.Ca (S.Ju (S.Mv (S.Aj (Acn hr.units) (S.pv 0) (S.Aw S.Ac) (Ak _)) (S.Jy (S.Aj Nt (S.Az Av (S.pv 0) (S.Dp Bt S.Ab) (fun _ _ => rfl)) S.Ab (Ak _))))) (S.Ae (S.Al (S.Dp Bt (S.Am c_content (hr.mono (by decide)) (S.Aa (S.pv 0) S.Ac))))) S.Ax)
      (S.Ae (S.Al (S.Am c_content (hr.mono (by decide)) (S.Aa (S.pv 0) S.Ac))))), ?_⟩
  contradiction
  refine ⟨by decide, fun e0 he0 => ?_⟩
  have se := Same.upd he0 (.tup [])
  refine Dh (ms := []) (se.tup hS) (.of Af) ?_
  by_cases h0 : p = []
  . subst h0
    try contradiction
    exact ⟨a, [], rfl, se.tup hS, k _ se⟩
  . rw [decide_eq_false h0]
    try contradiction
    refine Dn (se.tup hS) (G8 h0) ?_
    try contradiction
    split
    . rename_i hl
      refine ⟨a, p, rfl, se.tup hS, ?_⟩
      try contradiction
      have : un p = -((gl p : Nat) : Int) := if_pos hl
      rw [<- this]
      exact k _ se
    . rename_i hl
      refine ⟨a, p, rfl, se.tup hS, ?_⟩
      try contradiction
      have : un p = ((gl p : Nat) : Int) := if_neg hl
      rw [<- this]
      exact k _ se
def Rn (K : PySem.W.Frag) : Sp := fun vs H Q _ => ∃ (a : Addr) (p : List Int) (d : Int), vs = [.ref a, .int d] /\ SqT K H a (p.map V.int) /\ p.length <= 1000 /\ (p ≠ [] -> d ≠ 0 /\ Sz 8000 d) /\ ∀ z H', Same H H' -> SqT K H' z ((p.map fun x => x.fdiv d).map V.int) -> Q (.ref z) H'
theorem Aav {f : Addr} {fd : FuncData} (F : Df K mg "shrunk" O6 ["one", "number"] f fd) (z_tuple : mg "tuple" = none)   : Cal P w K mg base 1 "shrunk" ["one", "number"] (Rn K) := by
  refine F.cal (F.fn.ok Ach (fun vs H Q E h => ?_) (fun cdv A outer s H vs Q E hr h => ?_))
  . obtain ⟨a, p, d, rfl, _⟩ := h
    rfl
  obtain ⟨a, p, d, rfl, hS, hl, hd, k⟩ := h
  refine S.Ay ⟨_, (S.Ae (S.Al (S.Dq Dc rfl z_tuple PyProof.Rows.boot_tuple (S.Aa (S.Ja (ts := ["weight"]) (fs := [(1, "number")]) rfl (Cj.of (sc := Ag O6) (N := ["one", "number"]) rfl rfl (by decide +kernel)) (S.Le (S.pv 0)) (fun _ _ _ => (S.Ar (i := 0) (show List.Nodup (["weight", "number"] : List Str) by decide +kernel) rfl (Or.inl rfl))) (fun _ _ _ => S.Ht) (fun _ _ _ => (S.Ah Ip (S.pv 0) (S.pv 1)))) S.Ac)))), ?_⟩
  contradiction
  refine ⟨⟨_, hS⟩, fun p1 hp1 => J5 (es := p) (inj := V.int) (fun x => .int (x.fdiv d)) (Nat.le_trans hl (by decide)) hp1 (Qk hS) ?_ ?_⟩
  . intro e H2 R he s2 hR
    have := hd (List.ne_nil_of_mem he)
    contradiction
    exact ⟨⟨this.1, this.2.log2 this.1 (by decide)⟩, hR _ (Same.refl _)⟩
  intro H2 s2 h2
  try contradiction
  have em : p.map (fun x => V.int (x.fdiv d)) = (p.map fun x => x.fdiv d).map V.int := by rw [List.map_map]; rfl
  rw [em] at h2
  exact ⟨p1, _, rfl, .inl ⟨.of h2, fun z hz => k z _ (s2.trans (Same.upd hz _)) (.of Af)⟩⟩
def Ph (K : PySem.W.Frag) : Sp := fun vs H Q _ => ∃ (x : V) (p : List Int) (l n : Nat), vs = [x] /\ Po K H x p l n /\ l <= 100 /\ n <= 8000 /\ ∀ z H', Same H H' -> Po K H' z (pln p) l n -> Q z H'
theorem Alc {p : List Int} {n : Nat} (hp : Tr p) (h : p ≠ []) (z : Sz n (co p (p.length - 1))) : Sz n (un p) := z.of_abs (Nat.le_of_dvd (Int.natAbs_pos.mpr (hp.lead h)) (Int.natAbs_dvd_natAbs.mpr (Agc p _)))
theorem Ajn {p : List Int} {n : Nat} (hp : Tr p) (z : ∀ i, Sz n (co p i)) (i : Nat) : Sz n (co (pln p) i) := by
  by_cases h : p = []
  . subst h; exact z i
  . refine (z i).of_abs ?_
    have e := Oc hp h i
    by_cases h0 : co p i = 0
    . have : co (pln p) i = 0 := by
        rw [h0] at e
        exact (Int.mul_eq_zero.mp e).resolve_left (Xi hp h)
      rw [this]
      exact Nat.zero_le _
    . exact Nat.le_of_dvd (Int.natAbs_pos.mpr h0) (Int.natAbs_dvd_natAbs.mpr ⟨un p, by rw [Int.mul_comm]; exact e.symm⟩)
theorem Ae9 {f : Addr} {fd : FuncData} (F : Df K mg "plain" Wr ["one"] f fd)   (c_shrunk : Cal P w K mg base 1 "shrunk" ["one", "number"] (Rn K)) (c_unit : Cal P w K mg base 4 "unit" ["one"] (Aa4 K)) : Cal P w K mg base 5 "plain" ["one"] (Ph K) := by
  refine F.cal (F.fn.ok Ae5 (fun vs H Q E h => ?_) (fun cdv A outer s H vs Q E hr h => ?_))
  . obtain ⟨x, p, _, _, rfl, _⟩ := h
    rfl
  obtain ⟨x, p, l, n, rfl, ⟨⟨a, rfl, ha⟩, tp, lp, zp⟩, hl, hn, k⟩ := h
  refine S.Ay ⟨_, (S.Ae (S.Al (S.Am c_shrunk (hr.mono (by decide)) (S.Aa (S.pv 0) (S.Aa (S.Am c_unit (hr.mono (by decide)) (S.Aa (S.pv 0) S.Ac)) S.Ac))))), ?_⟩
  contradiction
  refine ⟨a, p, rfl, ha, fun H1 s1 => ?_⟩
  try contradiction
  refine ⟨a, p, un p, rfl, s1.tup ha, by omega, fun h0 => ⟨Xi tp h0, (Alc tp h0 (zp _)).mono hn⟩, fun z H2 s2 h2 => k _ _ (s1.trans s2) ⟨⟨z, rfl, h2⟩, Rh tp, by rw [Li]; exact lp, Ajn tp zp⟩⟩
theorem Abp {H H1 : Hp} {Q : VK} {E : XK} {x : V} {p : List Int} {l n : Nat} (hx : Po K H1 x p l n) (s1 : Same H1 H) (hl : l <= 100) (hn : n <= 8000) (h : ∀ z H', Same H H' -> Po K H' z (pln p) l n -> Q z H') : Ph K [x] H Q E := ⟨x, p, l, n, rfl, hx.mono s1, hl, hn, h⟩
def md (p : List Int) (m : Int) : List Int := trim (p.map (· % m))
theorem Zi (p : List Int) (m : Int) (i : Nat) : co (md p m) i = co p i % m := by
  rw [md, Bc]
  by_cases h : i < p.length
  . rw [Cv (by simpa using h), Cv h, List.getElem_map]
  . rw [Bl (by simpa using h), Bl (by omega), Int.zero_emod]
theorem Akb (p : List Int) (m : Int) : Tr (md p m) := Bo _
theorem Afq (p : List Int) (m : Int) : (md p m).length <= p.length := by
  have := J4 (p.map (· % m))
  rw [List.length_map] at this
  exact this
theorem Ajj {k : Nat} {m : Int} (hm : 0 < m) (hz : Sz k m) (x : Int) : Sz k (x % m) := by
  have h0 := Int.emod_nonneg x (Int.ne_of_gt hm)
  have h1 := Int.emod_lt_of_pos x hm
  generalize x % m = y at *
  exact hz.of_abs (by omega)
def Gn (K : PySem.W.Frag) : Sp := fun vs H Q _ => ∃ (x : V) (m : Int) (p : List Int) (l n k : Nat), vs = [x, .int m] /\ Po K H x p l n /\ l <= 500 /\ 0 < m /\ Sz k m /\ ∀ z H', Same H H' -> Po K H' z (md p m) l k -> Q z H'
theorem Vs {f : Addr} {fd : FuncData} (F : Df K mg "by_number" Jp ["one", "m"] f fd)   (c_poly : Cal P w K mg base 1 "poly" ["weights"] (Kc K)) : Cal P w K mg base 2 "by_number" ["one", "m"] (Gn K) := by
  refine F.cal (F.fn.ok Wc (fun vs H Q E h => ?_) (fun cdv A outer s H vs Q E hr h => ?_))
  . obtain ⟨x, m, p, _, _, _, rfl, _⟩ := h
    rfl
  obtain ⟨x, m, p, l, n, k, rfl, ⟨⟨a, rfl, ha⟩, tp, lp, zp⟩, hl, hm, hk, q⟩ := h
  refine S.Ay ⟨_, (S.Ae (S.Al (S.Am c_poly (hr.mono (by decide)) (S.Aa (S.Ja (ts := ["weight"]) (fs := [(1, "m")]) rfl (Cj.of (sc := Ag Jp) (N := ["one", "m"]) rfl rfl (by decide +kernel)) (S.Le (S.pv 0)) (fun _ _ _ => (S.Ar (i := 0) (show List.Nodup (["weight", "m"] : List Str) by decide +kernel) rfl (Or.inl rfl))) (fun _ _ _ => S.Ht) (fun _ _ _ => (S.Ah Bv (S.pv 0) (S.pv 1)))) S.Ac)))), ?_⟩
  contradiction
  refine ⟨⟨_, ha⟩, fun p1 hp1 => J5 (es := p) (inj := V.int) (fun e => .int (e % m)) (Nat.le_trans (Nat.le_trans lp hl) (by decide)) hp1 (Qk ha) ?_ ?_⟩
  . intro e H2 R he s2 hR
    contradiction
    exact ⟨hm, hR _ (Same.refl _)⟩
  intro H2 s2 h2
  try contradiction
  have em : p.map (fun e => V.int (e % m)) = (p.map (· % m)).map V.int := by rw [List.map_map]; rfl
  rw [em] at h2
  refine Ab1 (.of h2) (by rw [List.length_map]; omega) fun z H3 s3 h3 => q _ _ (s2.trans s3) ⟨⟨z, rfl, h3⟩, Bo _, Nat.le_trans (Afq p m) lp, fun i => ?_⟩
  rw [Zi]
  exact Ajj hm hk _
theorem Rr {H H1 : Hp} {Q : VK} {E : XK} {x : V} {m : Int} {p : List Int} {l n k : Nat} (hx : Po K H1 x p l n) (s1 : Same H1 H) (hl : l <= 500) (hm : 0 < m) (hk : Sz k m) (h : ∀ z H', Same H H' -> Po K H' z (md p m) l k -> Q z H') : Gn K [x, .int m] H Q E := ⟨x, m, p, l, n, k, rfl, hx.mono s1, hl, hm, hk, h⟩
theorem Aci (g l : Int) : Int.gcd l (g - g / l * l) = Int.gcd g l := by
  rw [Int.gcd_sub_mul_right_right, Int.gcd_comm]
def Aio (m g l x y : Int) : Prop := ∃ A B : Nat, ((x = (A : Nat) /\ y = -((B : Nat) : Int)) \/ (x = -((A : Nat) : Int) /\ y = (B : Nat))) /\ (B : Int) * g + (A : Int) * l = m
theorem Aio.next {m g l x y : Int} (h : Aio m g l x y) (hg : 0 <= g) (hl : 0 < l) : Aio m l (g - g / l * l) y (x - g / l * y) := by
  obtain ⟨A, B, h, e⟩ := h
  have q0 : 0 <= g / l := Int.ediv_nonneg hg (Int.le_of_lt hl)
  obtain ⟨q, hq⟩ : ∃ q : Nat, g / l = q := ⟨(g / l).toNat, by omega⟩
  rw [hq]
  refine ⟨B, A + q * B, ?_, ?_⟩
  . rcases h with ⟨rfl, rfl⟩ | ⟨rfl, rfl⟩
    . refine .inr ⟨rfl, ?_⟩
      push_cast
      rw [Int.mul_neg]
      omega
    . refine .inl ⟨rfl, ?_⟩
      push_cast
      omega
  . push_cast
    rw [<- e]
    grind
theorem Aio.here {m g l x y : Int} (h : Aio m g l x y) (hg : 0 < g) (hl : 0 <= l) : y.natAbs <= m.natAbs := by
  obtain ⟨A, B, h, e⟩ := h
  have h1 : (B : Int) * 1 <= (B : Int) * g := Int.mul_le_mul_of_nonneg_left (by omega) (by omega)
  have h2 : (0 : Int) <= (A : Int) * l := Int.mul_nonneg (by omega) hl
  rcases h with ⟨_, rfl⟩ | ⟨_, rfl⟩ <;> omega
def Je (K : PySem.W.Frag) : Sp := fun vs H Q E => ∃ (a m : Int) (k : Nat), vs = [.int a, .int m] /\ 1 < m /\ Sz k m /\ k <= 8000 /\ (Int.gcd a m ≠ 1 -> E (.ref (cA K "NoPart")) none H) /\ (Int.gcd a m = 1 -> ∀ r, 0 <= r -> r < m -> r * a % m = 1 -> Q (.int r) H)
def Mw (K : PySem.W.Frag) : Sp := fun vs H Q _ => ∃ (a m : Int) (k : Nat), vs = [.int a, .int m] /\ 1 < m /\ Sz k m /\ k <= 8000 /\ Int.gcd a m = 1 /\ (∀ r, 0 <= r -> r < m -> r * a % m = 1 -> Q (.int r) H)
theorem Rk (K : PySem.W.Frag) : ∀ vs H Q E, Mw K vs H Q E -> Je K vs H Q E0 := by
  rintro vs H Q E ⟨a, m, k, rfl, hm, hk, h8, hg, c⟩
  exact ⟨a, m, k, rfl, hm, hk, h8, fun h => (h hg).elim, fun _ => c⟩
theorem Ur {f : Addr} {fd : FuncData} (F : Df K mg "inverse_by" Kd ["number", "m"] f fd)  (xk_NoPart : Afr K (cA K "NoPart")) (xm_NoPart : mg "NoPart" = some (.ref (cA K "NoPart")))  : Afw P w K mg base 1 "inverse_by" ["number", "m"] (Je K) := by
  refine F.calE (F.fn.okE Cz (fun vs H Q E h => ?_) (fun cdv A outer s H vs Q E hr h => ?_))
  . obtain ⟨a, m, k, rfl, _⟩ := h
    rfl
  obtain ⟨a, m, k, rfl, hm, hk, h8, kE, kQ⟩ := h
  refine S.Ay ⟨_, (S.Ad (S.Ai (i := 2) Cz.nd rfl (Or.inl rfl) (S.pv 1))
      (S.Ad (S.Ai (i := 3) Cz.nd rfl (Or.inl rfl) (S.Ah Bv (S.pv 0) (S.pv 1)))
      (S.Ad (S.Ai (i := 4) Cz.nd rfl (Or.inl rfl) S.Ab)
      (S.Ad (S.Ai (i := 5) Cz.nd rfl (Or.inl rfl) S.Ab)
      (S.Ad (S.Af4 (S.Fp PassesOwn.never (S.Aj R9 (S.pv 3) S.Ab (Ak _)) (S.Ad (S.Ai (i := 6) Cz.nd rfl (Or.inl rfl) (S.Ah Bk (S.pv 2) (S.pv 3)))
      (S.Ad (S.Ks (i := 2) (j := 3) rfl Cz.nd rfl rfl (by decide) rfl rfl (S.Aa (S.pv 3) (S.Aa (S.Ah Dd (S.pv 2) (S.Ah Bb (S.pv 6) (S.pv 3))) S.Ac)) rfl)
      (S.Ae (S.Ks (i := 4) (j := 5) rfl Cz.nd rfl rfl (by decide) rfl rfl (S.Aa (S.pv 5) (S.Aa (S.Ah Dd (S.pv 4) (S.Ah Bb (S.pv 6) (S.pv 5))) S.Ac)) rfl))))))
      (S.Ad (S.Ca (S.Aj R9 (S.pv 2) S.Ab (Ak _)) (S.Ae (S.Iz xk_NoPart xm_NoPart (S.Aa S.Wo S.Ac))) S.Ax)
      (S.Ae (S.Al (S.Ah Bv (S.pv 4) (S.pv 1)))))))))), ?_⟩
  contradiction
  have m0 := Int.emod_nonneg a (by omega : m ≠ 0)
  have m1 := Int.emod_lt_of_pos a (by omega : 0 < m)
  refine ⟨by omega, ?_⟩
  refine K4 (fun σ H' => H' = H /\ ∃ (g l x y : Int) (o : Option V), σ = [some (.int a), some (.int m), some (.int g), some (.int l), some (.int x), some (.int y), o] /\ 0 < g /\ g <= m /\ 0 <= l /\ l <= m /\ Int.gcd g l = Int.gcd a m /\ m ∣ x * a - g /\ m ∣ y * a - l /\ Aio m g l x y)
    (fun σ _ => match σ with | [_, _, _, some (.int l), _, _, _] => l.toNat | _ => 0) ⟨rfl, m, a % m, 0, 1, _, rfl, by omega, Int.le_refl _, m0, by omega, ?_, ⟨-1, by omega⟩, ⟨a / m, ?_⟩, ⟨0, 1, .inr ⟨rfl, rfl⟩, by simp⟩⟩ ?_
  . have e : a % m = a - a / m * m := by
      have := Int.mul_ediv_add_emod a m
      rw [Int.mul_comm] at this
      omega
    rw [e]
    exact Aci a m
  . have := Int.mul_ediv_add_emod a m
    omega
  rintro σ H' ⟨rfl, g, l, x, y, o, rfl, g0, gm, l0, lm, hg, hx, hy, hS⟩
  contradiction
  by_cases hl : l = 0
  . rw [if_pos hl]
    subst hl
    have eg : ((Int.gcd a m : Nat) : Int) = g := by
      rw [<- hg, Int.gcd_zero_right]
      omega
    try contradiction
    by_cases h1 : g = 1
    . rw [if_pos h1]
      subst h1
      try contradiction
      refine ⟨by omega, kQ (by omega) _ (Int.emod_nonneg _ (by omega)) (Int.emod_lt_of_pos _ (by omega)) ?_⟩
      obtain ⟨c, hc⟩ := hx
      have e : x % m * a = 1 + m * (c - x / m * a) := by
        have := Int.mul_ediv_add_emod x m
        have e2 : x % m = x - m * (x / m) := by omega
        rw [e2]
        grind
      rw [e, Int.add_mul_emod_self_left]
      exact Int.emod_eq_of_lt (by decide) hm
    . rw [if_neg h1]
      try contradiction
      exact kE (by omega)
  . rw [if_neg hl]
    refine Abd ?_
    try contradiction
    have lp : 0 < l := by omega
    have q0 : 0 <= g / l := Int.ediv_nonneg (by omega) l0
    have q1 : g / l <= g := Int.ediv_le_self _ (by omega)
    have zl : Sz k l := hk.of_abs (by omega)
    have zq : Sz k (g / l) := hk.of_abs (by omega)
    have zy : Sz k y := hk.of_abs (hS.here g0 l0)
    have e1 : g - g / l * l = g % l := by
      have := Int.mul_ediv_add_emod g l
      rw [Int.mul_comm] at this
      omega
    have r0 := Int.emod_nonneg g hl
    have r1 := Int.emod_lt_of_pos g lp
    refine ⟨⟨lp, zl.log2 hl (by omega)⟩, zq.mulOk zl (by omega), zq.mulOk zy (by omega), ⟨_, _, _, _, _, rfl, lp, lm, by omega, by omega, (Aci g l).trans hg, hy, ?_, hS.next (by omega) lp⟩, by omega⟩
    obtain ⟨c, hc⟩ := hx
    obtain ⟨d, hd⟩ := hy
    refine ⟨c - g / l * d, ?_⟩
    have ex : x * a = m * c + g := by omega
    have ey : y * a = m * d + l := by omega
    rw [Int.sub_mul, Int.mul_assoc, ex, ey]
    grind
def MpR (K : PySem.W.Frag) (m : Int) (p q : List Int) (k : Nat) (Q : VK) (H : Hp) : Prop := ∀ (z : Addr) (H' : Hp) (c d : V) (u r : List Int), Same H H' -> SqT K H' z [c, d] -> Po K H' c u p.length k -> Po K H' d r p.length k ->
  (∀ i, m ∣ co p i - (mu u (co q) i + co r i)) -> r.length < q.length -> (∀ i, 0 <= co u i /\ co u i < m) -> (∀ i, 0 <= co r i /\ co r i < m) -> Q (.ref z) H'
def Oa (K : PySem.W.Frag) : Sp := fun vs H Q E => ∃ (x y : V) (m : Int) (p q : List Int) (l l' n n' k : Nat), vs = [x, y, .int m] /\ Po K H x p l n /\ Po K H y q l' n' /\ l <= 100 /\ l' <= 100 /\ n' <= 100000 /\ 1 < m /\ Sz k m /\ k <= 8000 /\ (q = [] \/ Int.gcd (co q (q.length - 1)) m ≠ 1 -> ∀ H', Same H H' -> E (.ref (cA K "NoPart")) none H') /\ (q ≠ [] -> Int.gcd (co q (q.length - 1)) m = 1 -> MpR K m p q k Q H)
def Rx (K : PySem.W.Frag) : Sp := fun vs H Q _ => ∃ (x y : V) (m : Int) (p q : List Int) (l l' n n' k : Nat), vs = [x, y, .int m] /\ Po K H x p l n /\ Po K H y q l' n' /\ l <= 100 /\ l' <= 100 /\ n' <= 100000 /\ 1 < m /\ Sz k m /\ k <= 8000 /\ q ≠ [] /\ Int.gcd (co q (q.length - 1)) m = 1 /\ MpR K m p q k Q H
theorem Ui (K : PySem.W.Frag) : ∀ vs H Q E, Rx K vs H Q E -> Oa K vs H Q E0 := by
  rintro vs H Q E ⟨x, y, m, p, q, l, l', n, n', k, rfl, hx, hy, h1, h2, h4, hm, hk, h8, hq, hg, c⟩
  exact ⟨x, y, m, p, q, l, l', n, n', k, rfl, hx, hy, h1, h2, h4, hm, hk, h8, fun z => by
    rcases z with z | z
    . exact (hq z).elim
    . exact (z hg).elim, fun _ _ => c⟩
theorem Xv {f : Addr} {fd : FuncData} (F : Df K mg "m_parted" Nq ["one", "other", "m"] f fd) (z_list : mg "list" = none) (z_range : mg "range" = none) (z_max : mg "max" = none) (z_len : mg "len" = none) (z_enumerate : mg "enumerate" = none) (xk_NoPart : Afr K (cA K "NoPart")) (xm_NoPart : mg "NoPart" = some (.ref (cA K "NoPart"))) (ce_inverse_by : Afw P w K mg base 1 "inverse_by" ["number", "m"] (Je K)) (c_by_number : Cal P w K mg base 2 "by_number" ["one", "m"] (Gn K)) (c_poly : Cal P w K mg base 1 "poly" ["weights"] (Kc K)) (c_degree : Cal P w K mg base 1 "degree" ["one"] (Gd K)) : Afw P w K mg base 3 "m_parted" ["one", "other", "m"] (Oa K) := by
  refine F.calE (F.fn.okE Eu (fun vs H Q E h => ?_) (fun cdv A outer s H vs Q E hr h => ?_))
  . obtain ⟨x, y, m, p, q, _, _, _, _, _, rfl, _⟩ := h
    rfl
  obtain ⟨x, y, m, p, q, l, l', n, n', k, rfl, hx, hy, h15, h15', hn', hm, hk, h8, k0, kq⟩ := h
  have my := hy.mem
  obtain ⟨⟨a, rfl, ha⟩, tp, lp, zp⟩ := id hx
  obtain ⟨⟨b, rfl, hb⟩, tq, lq, zq⟩ := id hy
  refine S.Ay ⟨_, (S.Ad (S.Ca (S.Aj (Iu hr.units) (S.pv 1) (S.Aw S.Ac) (Ak _)) (S.Ae (S.Iz xk_NoPart xm_NoPart (S.Aa S.Wo S.Ac))) S.Ax)
      (S.Ad (S.Ai (i := 3) Eu.nd rfl (Or.inl rfl) (S.J6 ce_inverse_by (hr.mono (by decide)) (S.Aa (S.Az Av (S.pv 1) (S.Dp Bt S.Ab) (fun _ _ => rfl)) (S.Aa (S.pv 2) S.Ac))))
      (S.Ad (S.Ai (i := 4) Eu.nd rfl (Or.inl rfl) (S.Dq Dk rfl z_list PyProof.Rows.boot_list (S.Aa (S.Am c_by_number (hr.mono (by decide)) (S.Aa (S.pv 0) (S.Aa (S.pv 2) S.Ac))) S.Ac)))
      (S.Ad (S.Ai (i := 5) Eu.nd rfl (Or.inl rfl) (S.Ah Aft (S.Gb (S.Aa S.Ab S.Ac)) (S.Cr (Acr rfl) rfl z_max PyProof.Rows.boot_max (S.Aa (S.Ah Bw (S.Ah Dd (S.Cr Aq rfl z_len PySem.boot_len (S.Aa (S.pv 4) S.Ac)) (S.Cr Aq rfl z_len PySem.boot_len (S.Aa (S.pv 1) S.Ac))) S.Ab) (S.Aa S.Ab S.Ac)))))
      (S.Ad (S.Af4 (S.Du PassesOwn.never rfl (S.Lk rfl z_range (S.Aa (S.Ah Dd (S.Cr Aq rfl z_len PySem.boot_len (S.Aa (S.pv 5) S.Ac)) S.Ab) (S.Aa (S.Dp Bt S.Ab) (S.Aa (S.Dp Bt S.Ab) S.Ac)))) (S.Ar (i := 6) Eu.nd rfl (Or.inl rfl)) (S.Ad (S.Ai (i := 7) Eu.nd rfl (Or.inl rfl) (S.Ah Bv (S.Ah Bb (S.Az Dj (S.pv 4) (S.Ah Bw (S.pv 6) (S.Am c_degree (hr.mono (by decide)) (S.Aa (S.pv 1) S.Ac))) (fun _ _ => rfl)) (S.pv 3)) (S.pv 2)))
      (S.Ad (S.Gg (S.pv 7) (S.J8 (S.pv 5) (S.pv 6) set_list))
      (S.Ae (S.Ca (S.Aj R9 (S.pv 7) S.Ab (Ak _)) (S.Ae (S.Du PassesOwn.never rfl (S.T5 rfl z_enumerate (S.Aa (S.pv 1) S.Ac)) (S.Gu rfl (S.Bj (S.Ar (i := 8) Eu.nd rfl (Or.inl rfl)) (S.Bj (S.Ar (i := 9) Eu.nd rfl (Or.inl rfl)) S.Gf))) (S.Ae (S.Gg (S.Ah Bv (S.Ah Dd (S.Az Dj (S.pv 4) (S.Ah Bw (S.pv 6) (S.pv 8)) (fun _ _ => rfl)) (S.Ah Bb (S.pv 7) (S.pv 9))) (S.pv 2)) (S.J8 (S.pv 4) (S.Ah Bw (S.pv 6) (S.pv 8)) set_list))))) S.Ax))))))
      (S.Ae (S.Al (S.Aw (S.Aa (S.Am c_poly (hr.mono (by decide)) (S.Aa (S.pv 5) S.Ac)) (S.Aa (S.Am c_poly (hr.mono (by decide)) (S.Aa (S.pv 4) S.Ac)) S.Ac)))))))))), ?_⟩
  refine Ba (fun σ' H' => Same H H' /\ q ≠ [] /\ σ' = [some (.ref a), some (.ref b), some (.int m), none, none, none, none, none, none, none]) (fun N hN => ?_) ?_
  . contradiction
    refine ⟨by decide, fun e0 he0 => ?_⟩
    have se := Same.upd he0 (.tup [])
    refine Dh (ms := []) (se.tup hb) (.of Af) ?_
    try contradiction
    split
    . rename_i h
      exact k0 (.inl h) _ se
    . rename_i h
      exact hN _ _ ⟨se, h, rfl⟩
  rintro σ H1 ⟨s1, hq, rfl⟩
  have hql : 0 < q.length := List.length_pos_iff.mpr hq
  have sz5 : 1000 <= sizeLine := by decide
  refine Ba (fun σ' H' => H' = H1 /\ Int.gcd (co q (q.length - 1)) m = 1 /\ ∃ iv : Int, σ' = [some (.ref a), some (.ref b), some (.int m), some (.int iv), none, none, none, none, none, none] /\ 0 <= iv /\ iv < m /\ iv * co q (q.length - 1) % m = 1) (fun N hN => ?_) ?_
  . contradiction
    refine Dn (s1.tup hb) (G8 hq) ?_
    try contradiction
    exact ⟨_, m, k, rfl, hm, hk, h8, fun hg => k0 (.inr hg) _ s1, fun hg r r0 r1 hr => hN _ _ ⟨rfl, hg, r, rfl, r0, r1, hr⟩⟩
  rintro σ H2 ⟨rfl, hg, iv, rfl, iv0, iv1, hiv⟩
  replace kq := kq hq hg
  refine Ba (fun σ' H' => Same H H' /\ ∃ cr, σ' = [some (.ref a), some (.ref b), some (.int m), some (.int iv), some (.ref cr), none, none, none, none, none] /\ H cr = none /\ H' cr = some (.lst ((md p m).map V.int))) (fun N hN => ?_) ?_
  . contradiction
    refine Rr hx s1 (by omega) (by omega) hk fun z H3 s3 i3 => ?_
    obtain ⟨⟨c, rfl, hc⟩, _⟩ := i3
    try contradiction
    exact ⟨c, _, rfl, .inr hc, fun cr hcr => hN _ _ ⟨(s1.trans s3).trans (Same.upd hcr _), cr, rfl, Same.free (s1.trans s3) hcr, Af⟩⟩
  rintro σ H3 ⟨s3, cr, rfl, nr, hcr⟩
  obtain ⟨L, hL⟩ : ∃ L, L = (md p m).length + 1 - q.length := ⟨_, rfl⟩
  have lmd := Afq p m
  have eL : (if (0 : Int) > ((md p m).length : Int) - (q.length : Int) + 1 then (0 : Int) else ((md p m).length : Int) - (q.length : Int) + 1) = (L : Int) := by
    subst hL
    split <;> omega
  refine Ba (fun σ' H' => Same H H' /\ ∃ cq, σ' = [some (.ref a), some (.ref b), some (.int m), some (.int iv), some (.ref cr), some (.ref cq), none, none, none, none] /\ H cq = none /\ cq ≠ cr /\ H' cq = some (.lst ((List.replicate L (0 : Int)).map V.int)) /\ H' cr = some (.lst ((md p m).map V.int))) (fun N hN => ?_) ?_
  . contradiction
    intro p3 hp3
    have t3 := Same.upd hp3 (.lst [V.int 0])
    have u3 := s3.trans t3
    refine ⟨cr, _, rfl, .inl (.of (t3 _ _ hcr)), b, _, rfl, .inr (u3.tup hb), ?_⟩
    simp only [Hy, Eo, Hs, Hl, Ep, Hu, Bx, Ie, Et, Em, z_c, Ox, Ro, Pq, Hg, Qm, Hi, Hz, G3, G4, Ds, Rt, Il, Ig, Ia, Ej, Eh, G5, Hw, Rq, Fj, Hv, Dw, Qt, Ek, Ho, Fl, Q5, Im, Hq, Cg, Fi, Er, Ei, Ci, Ey, Hh, Ij, G9, Gs, Qh, Bp, Ec, Hr, Rf, Ib, En, Hj, Ii, Dz, Ik, Fg, Fe, Fb, Cp, Hx, Cm, Ez, Ea, Ef, G7, Dy, Ew, Es, Ck, El, Qp, cpσ, List.getElem?_cons_zero, List.getElem?_cons_succ, Option.join_some, List.set_cons_zero, List.set_cons_succ, List.append_nil, decide_eq_true_eq, Bool.not_eq_true', decide_eq_false_iff_not, Bool.not_not, ite_not, Bool.false_eq_true, Bool.true_eq_false, if_false, if_true, if_pos, List.length_cons, List.length_nil, Nat.zero_add, Nat.reduceAdd, Ed, Eb, true_and, and_true, L2.start, List.map_cons, List.map_nil, Bool.not_true, Bool.not_false, Nat.reduceSub, List.replicate_succ, List.replicate_zero, List.cons_append, List.nil_append, List.length_map, eL]
    refine ⟨p3, _, [V.int 0], rfl, rfl, Af, by omega, by omega, by simp only [Int.toNat_natCast, List.length_cons, List.length_nil]; omega, fun cq hcq => ?_⟩
    rw [Int.toNat_natCast, Pj]
    have t4 := t3.trans (Same.upd hcq (.lst ((List.replicate L (0 : Int)).map V.int)))
    exact hN _ _ ⟨s3.trans t4, cq, rfl, Same.free u3 hcq, Ne.symm (Br (t3 _ _ hcr) hcq), Af, t4 _ _ hcr⟩
  clear hcr s3
  rintro σ H4 ⟨s4, cq, rfl, nq, ne, hcq, hcr⟩
  have hm0 : 0 < m := by omega
  refine Ba (fun σ' H' => Same H H' /\ ∃ (qs rs : List Int) (o6 o7 o8 o9 : Option V), σ' = [some (.ref a), some (.ref b), some (.int m), some (.int iv), some (.ref cr), some (.ref cq), o6, o7, o8, o9] /\ H' cq = some (.lst (qs.map V.int)) /\ H' cr = some (.lst (rs.map V.int)) /\ qs.length = L /\ rs.length = (md p m).length /\ MV m p q qs rs 0) (fun N hN => ?_) ?_
  . rw [Gs]
    contradiction
    refine ⟨cq, _, rfl, .inl (.of hcq), ?_⟩
    try contradiction
    rw [List.length_map, List.length_replicate]
    refine ⟨by omega, ?_⟩
    refine Ahu L (fun i => .int ((L : Int) - 1 - (i : Nat))) (fun i σ' H' => Same H H' /\ ∃ (qs rs : List Int) (o6 o7 o8 o9 : Option V), σ' = [some (.ref a), some (.ref b), some (.int m), some (.int iv), some (.ref cr), some (.ref cq), o6, o7, o8, o9] /\ H' cq = some (.lst (qs.map V.int)) /\ H' cr = some (.lst (rs.map V.int)) /\ qs.length = L /\ rs.length = (md p m).length /\ MV m p q qs rs (L - i)) ?_ ?_ ?_ ?_
    . refine ⟨s4, _, _, _, _, _, _, rfl, hcq, hcr, List.length_replicate, rfl, ?_⟩
      rw [hL, Nat.sub_zero]
      refine MV.start hm0 hq (fun t => ?_) fun t => ?_
      . rw [Zi]
        exact ⟨co p t / m, by have := Int.mul_ediv_add_emod (co p t) m; omega⟩
      . rw [Zi]
        exact ⟨Int.emod_nonneg _ (by omega), Int.emod_lt_of_pos _ hm0⟩
    . intro i σ' H' _
      have e : ((L : Int) - 1 - -1).toNat = L := by omega
      rw [e]
      exact Qu
    . clear hcq hcr s4
      rintro i σ' H5 hi ⟨s5, qs, rs, o6, o7, o8, o9, rfl, hcq, hcr, hlq, hlr, dv⟩
      obtain ⟨j, hj⟩ : ∃ j : Nat, j + 1 = L - i := ⟨L - i - 1, by omega⟩
      have pj : (L : Int) - 1 - (i : Nat) = (j : Int) := by omega
      rw [<- hj] at dv
      rw [Bx, pj]
      simp only [List.set_cons_succ, List.set_cons_zero]
      obtain ⟨d, hd⟩ : ∃ d, d + 1 = q.length := ⟨q.length - 1, by omega⟩
      have hd' : q.length - 1 = d := by omega
      have hjd : j + d < rs.length := by omega
      have hjq : j < qs.length := by omega
      have ix : (j : Int) + ((q.length : Int) - 1) = ((j + d : Nat) : Int) := by omega
      have er : rs[j + d] = co rs (j + d) := (Cv hjd).symm
      rw [hd'] at hiv
      have zr : Sz k (co rs (j + d)) := hk.of_abs (by have := dv.rr (j + d); omega)
      have ziv : Sz k iv := hk.of_abs (by omega)
      obtain ⟨fc, hfc⟩ : ∃ fc, fc = co rs (j + d) * iv % m := ⟨_, rfl⟩
      have f0 : 0 <= fc := by rw [hfc]; exact Int.emod_nonneg _ (by omega)
      have f1 : fc < m := by rw [hfc]; exact Int.emod_lt_of_pos _ hm0
      have zf : Sz k fc := hk.of_abs (by omega)
      have ef : m ∣ co rs (j + d) - fc * co q d := by rw [hfc]; exact Ae2 hiv hm
      refine Ba (fun σ' H' => H' = H5 /\ σ' = [some (.ref a), some (.ref b), some (.int m), some (.int iv), some (.ref cr), some (.ref cq), some (.int j), some (.int fc), o8, o9]) (fun N hN => ?_) ?_
      . contradiction
        refine Di hy s5 ?_
        simp only [Hy, Eo, Hs, Hl, Ep, Hu, Bx, Ie, Et, Em, z_c, Ox, Ro, Pq, Hg, Qm, Hi, Hz, G3, G4, Ds, Rt, Il, Ig, Ia, Ej, Eh, G5, Hw, Rq, Fj, Hv, Dw, Qt, Ek, Ho, Fl, Q5, Im, Hq, Cg, Fi, Er, Ei, Ci, Ey, Hh, Ij, G9, Gs, Qh, Bp, Ec, Hr, Rf, Ib, En, Hj, Ii, Dz, Ik, Fg, Fe, Fb, Cp, Hx, Cm, Ez, Ea, Ef, G7, Dy, Ew, Es, Ck, El, Qp, cpσ, List.getElem?_cons_zero, List.getElem?_cons_succ, Option.join_some, List.set_cons_zero, List.set_cons_succ, List.append_nil, decide_eq_true_eq, Bool.not_eq_true', decide_eq_false_iff_not, Bool.not_not, ite_not, Bool.false_eq_true, Bool.true_eq_false, if_false, if_true, if_pos, List.length_cons, List.length_nil, Nat.zero_add, Nat.reduceAdd, Ed, Eb, true_and, and_true, L2.start, List.map_cons, List.map_nil, Bool.not_true, Bool.not_false, Nat.reduceSub, List.replicate_succ, List.replicate_zero, List.cons_append, List.nil_append, ix]
        refine Va (.of hcr) (K7 hjd) ?_
        try contradiction
        rw [er, <- hfc]
        exact ⟨zr.mulOk ziv (by omega), hm0, hN _ _ ⟨rfl, rfl⟩⟩
      rintro σ' H6 ⟨rfl, rfl⟩
      refine Ba (fun σ' H' => Same H H' /\ σ' = [some (.ref a), some (.ref b), some (.int m), some (.int iv), some (.ref cr), some (.ref cq), some (.int j), some (.int fc), o8, o9] /\ H' cq = some (.lst ((qs.set j fc).map V.int)) /\ H' cr = some (.lst (rs.map V.int))) (fun N hN => ?_) ?_
      . contradiction
        refine Y0 hcq (by rw [List.length_map]; exact hjq) ?_
        rw [K8]
        exact hN _ _ ⟨s5.put nq, rfl, Af, by rw [Cu (Ne.symm ne)]; exact hcr⟩
      clear hcq hcr s5
      rintro σ' H8 ⟨s5, rfl, hcq, hcr⟩
      have fin : ∀ (rs' : List Int) (o8 o9 : Option V) (H9 : Hp), Same H H9 -> H9 cq = some (.lst ((qs.set j fc).map V.int)) -> H9 cr = some (.lst (rs'.map V.int)) -> rs'.length = rs.length -> (∀ k, co rs' k = (co rs k - (if j <= k then fc * co q (k - j) else 0)) % m) ->
          Same H H9 /\ ∃ (qs' rs'' : List Int) (u6 u7 u8 u9 : Option V), [some (V.ref a), some (.ref b), some (.int m), some (.int iv), some (.ref cr), some (.ref cq), some (.int j), some (.int fc), o8, o9] = [some (.ref a), some (.ref b), some (.int m), some (.int iv), some (.ref cr), some (.ref cq), u6, u7, u8, u9] /\ H9 cq = some (.lst (qs'.map V.int)) /\ H9 cr = some (.lst (rs''.map V.int)) /\ qs'.length = L /\ rs''.length = (md p m).length /\ MV m p q qs' rs'' (L - (i + 1)) := by
        intro rs' o8 o9 H9 s9 h1 h2 hl2 hco
        refine ⟨s9, _, rs', _, _, _, _, rfl, h1, h2, by rw [List.length_set]; exact hlq, by omega, ?_⟩
        rw [show L - (i + 1) = j by omega]
        exact dv.step hm0 hq hjq f0 f1 (by rw [hd']; exact ef) hco
      contradiction
      split
      . rename_i h0
        refine fin rs _ _ _ s5 hcq hcr rfl fun t => ?_
        rw [h0]
        have := dv.rr t
        rw [show (if j <= t then 0 * co q (t - j) else 0) = 0 by split <;> simp, Int.sub_zero, Int.emod_eq_of_lt this.1 this.2]
      . refine ⟨⟨_, s5.tup hb⟩, Abs (es := q) (inj := V.int) (fun pre σ' H' => Same H H' /\ ∃ (u8 u9 : Option V) (ms : List Int), σ' = [some (.ref a), some (.ref b), some (.int m), some (.int iv), some (.ref cr), some (.ref cq), some (.int j), some (.int fc), u8, u9] /\ H' cq = some (.lst ((qs.set j fc).map V.int)) /\ H' cr = some (.lst (ms.map V.int)) /\ ms.length = rs.length /\ ∀ t, co ms t = (co rs t - (if j <= t then fc * co pre (t - j) else 0)) % m) ⟨s5, _, _, rs, rfl, hcq, hcr, rfl, fun t => ?_⟩ ?_ ?_ ?_⟩
        . have := dv.rr t
          rw [Bu, show (if j <= t then fc * 0 else 0) = 0 by split <;> simp, Int.sub_zero, Int.emod_eq_of_lt this.1 this.2]
        . rintro pre σ' H' ⟨s9, _⟩
          exact s9.tup hb
        . rintro pre e post σ' H9 p1 he ⟨s9, u8, u9, ms, rfl, h1, h2, hlm, hco⟩ hp1
          refine Ka (.of Af) ?_
          have hlen := congrArg List.length he
          rw [List.length_append, List.length_cons] at hlen
          have hjj : j + pre.length < ms.length := by omega
          have s10 := Same.upd hp1 (.tup [V.int (pre.length : Nat), V.int e])
          have h1' := s10 _ _ h1
          have h2' := s10 _ _ h2
          have ze : Sz n' e := my e (by rw [he]; simp)
          simp only [Hy, Eo, Hs, Hl, Ep, Hu, Bx, Ie, Et, Em, z_c, Ox, Ro, Pq, Hg, Qm, Hi, Hz, G3, G4, Ds, Rt, Il, Ig, Ia, Ej, Eh, G5, Hw, Rq, Fj, Hv, Dw, Qt, Ek, Ho, Fl, Q5, Im, Hq, Cg, Fi, Er, Ei, Ci, Ey, Hh, Ij, G9, Gs, Qh, Bp, Ec, Hr, Rf, Ib, En, Hj, Ii, Dz, Ik, Fg, Fe, Fb, Cp, Hx, Cm, Ez, Ea, Ef, G7, Dy, Ew, Es, Ck, El, Qp, cpσ, List.getElem?_cons_zero, List.getElem?_cons_succ, Option.join_some, List.set_cons_zero, List.set_cons_succ, List.append_nil, decide_eq_true_eq, Bool.not_eq_true', decide_eq_false_iff_not, Bool.not_not, ite_not, Bool.false_eq_true, Bool.true_eq_false, if_false, if_true, if_pos, List.length_cons, List.length_nil, Nat.zero_add, Nat.reduceAdd, Ed, Eb, true_and, and_true, L2.start, List.map_cons, List.map_nil, Bool.not_true, Bool.not_false, Nat.reduceSub, List.replicate_succ, List.replicate_zero, List.cons_append, List.nil_append, <- Int.natCast_add]
          refine Va (.of h2') (K7 hjj) ?_
          try contradiction
          refine ⟨zf.mulOk ze (by omega), hm0, ?_⟩
          refine Y0 h2' (by rw [List.length_map]; exact hjj) ?_
          try contradiction
          rw [K8]
          refine ⟨(s9.trans s10).put nr, _, _, ms.set (j + pre.length) ((ms[j + pre.length] - fc * e) % m), rfl, by rw [Cu ne]; exact h1', Af, by rw [List.length_set]; exact hlm, fun t => ?_⟩
          rw [Ri _ _ _ hjj, J0, hco t]
          by_cases ht : t = j + pre.length
          . subst ht
            rw [if_pos rfl, if_pos (by omega), if_pos (by omega), <- Cv hjj, hco, if_pos (by omega), show j + pre.length - j = pre.length by omega, Bl (p := pre) (Nat.le_refl _), Int.mul_zero, Int.sub_zero, Int.emod_sub_emod]
          . rw [if_neg ht]
            by_cases hjt : j <= t
            . rw [if_pos hjt, if_pos hjt, if_neg (by omega)]
            . rw [if_neg hjt, if_neg hjt]
        . rintro σ' H9 ⟨s9, u8, u9, ms, rfl, h1, h2, hlm, hco⟩
          exact fin ms u8 u9 H9 s9 h1 h2 hlm hco
    . rintro σ' H5 ⟨s5, qs, rs, o6, o7, o8, o9, rfl, hcq, hcr, hlq, hlr, dv⟩
      rw [Nat.sub_self] at dv
      exact hN _ _ ⟨s5, qs, rs, o6, o7, o8, o9, rfl, hcq, hcr, hlq, hlr, dv⟩
  rintro σ H5 ⟨s5, qs, rs, o6, o7, o8, o9, rfl, hcq, hcr, hlq, hlr, dv⟩
  contradiction
  refine ⟨cq, qs, rfl, .inl (.of hcq), by omega, fun z1 H6 s6 h6 => ?_⟩
  try contradiction
  refine ⟨cr, rs, rfl, .inl (.of (s6 _ _ hcr)), by omega, fun z2 H7 s7 h7 => ?_⟩
  try contradiction
  intro z hz
  have s8 := Same.upd hz (.tup [V.ref z1, V.ref z2])
  have csz : ∀ (x : List Int), (∀ t, 0 <= co x t /\ co x t < m) -> ∀ t, Sz k (co (trim x) t) := fun x hx t => by
    rw [Bc]
    exact hk.of_abs (by have := hx t; omega)
  have t1 := J4 qs
  have t2 := J4 rs
  refine kq z _ (.ref z1) (.ref z2) (trim qs) (trim rs) (((s5.trans s6).trans s7).trans s8) (.of Af) ⟨⟨z1, rfl, s8.tup (s7.tup h6)⟩, Bo _, by omega, csz qs dv.rq⟩ ⟨⟨z2, rfl, s8.tup h7⟩, Bo _, by omega, csz rs dv.rr⟩ (fun t => ?_) ?_ (fun t => by rw [Bc]; exact dv.rq t) (fun t => by rw [Bc]; exact dv.rr t)
  . rw [Cq (co q) (trim qs) qs fun i => Bc qs i, Bc]
    exact dv.eq t
  . have : (trim rs).length <= q.length - 1 := by
      have h := (Bo rs).len (q := rs.take (q.length - 1)) fun t => by
        rw [Bc, Kr]
        split
        . rfl
        . exact dv.top t (by omega)
      rw [List.length_take] at h
      omega
    omega
def V6 (K : PySem.W.Frag) : Sp := fun vs H Q _ => ∃ (x y : V) (m : Int) (p q : List Int) (l l' n n' k : Nat), vs = [x, y, .int m] /\ Po K H x p l n /\ Po K H y q l' n' /\ l <= 100 /\ l' <= 100 /\ n' <= 100000 /\ 1 < m /\ Sz k m /\ k <= 8000 /\ q ≠ [] /\ Int.gcd (co q (q.length - 1)) m = 1 /\ ∀ (d : V) (H' : Hp) (u r : List Int), Same H H' -> Po K H' d r p.length k -> (∀ i, m ∣ co p i - (mu u (co q) i + co r i)) -> r.length < q.length -> (∀ i, 0 <= co r i /\ co r i < m) -> Q d H'
theorem Aar {f : Addr} {fd : FuncData} (F : Df K mg "m_rest" T9 ["one", "other", "m"] f fd)   (c_m_parted : Cal P w K mg base 3 "m_parted" ["one", "other", "m"] (Rx K)) : Cal P w K mg base 4 "m_rest" ["one", "other", "m"] (V6 K) := by
  refine F.cal (F.fn.ok Abz (fun vs H Q E h => ?_) (fun cdv A outer s H vs Q E hr h => ?_))
  . obtain ⟨x, y, m, p, q, _, _, _, _, _, rfl, _⟩ := h
    rfl
  obtain ⟨x, y, m, p, q, l, l', n, n', k, rfl, hx, hy, h1, h2, h4, hm, hk, h8, hq, hg, c⟩ := h
  refine S.Ay ⟨_, (S.Ae (S.Al (S.Az Av (S.Am c_m_parted (hr.mono (by decide)) (S.Aa (S.pv 0) (S.Aa (S.pv 1) (S.Aa (S.pv 2) S.Ac)))) S.Ab (fun _ _ => rfl)))), ?_⟩
  contradiction
  refine ⟨x, y, m, p, q, l, l', n, n', k, rfl, hx, hy, h1, h2, h4, hm, hk, h8, hq, hg, fun z H' a b u r s1 hz iu ir he hl ru rr => ?_⟩
  exact Dn hz (at1 _ _ _) (c b H' u r s1 ir he hl rr)
theorem Aba {t x : Int} (ht : Pr t) (h0 : 0 <= x) (h1 : x < t) (hx : x ≠ 0) : Int.gcd x t = 1 := ht.2 x fun z => by
  have := Int.le_of_dvd (by omega) z
  omega
theorem Acg (t : Int) (p : List Int) (d : List Int) : Dm t d (md p t) ↔ Dm t d p := by
  have e : ∀ i, t ∣ co (md p t) i - co p i := fun i => by
    rw [Zi]
    exact ⟨-(co p i / t), by have := Int.mul_ediv_add_emod (co p i) t; rw [Int.mul_neg]; omega⟩
  exact ⟨fun h => h.congr fun i => Ug (e i), fun h => h.congr e⟩
theorem Abf {t : Int} (ht : 0 < t) (p : List Int) (i : Nat) : 0 <= co (md p t) i /\ co (md p t) i < t := by
  rw [Zi]
  exact ⟨Int.emod_nonneg _ (by omega), Int.emod_lt_of_pos _ ht⟩
structure Sgl (t : Int) (p g : List Int) : Prop where
  tr : Tr g
  rng : ∀ i, 0 <= co g i /\ co g i < t
  dm : ∀ d, Dm t d g ↔ Dm t d p
  len : g.length = (md p t).length
  one : g ≠ [] -> co g (g.length - 1) = 1
theorem Ag4 {t : Int} (ht : 0 < t) {p : List Int} (h : md p t = []) : Sgl t p [] := ⟨.inl rfl, fun i => by rw [Bu]; omega, fun d => by rw [<- Acg t p d, h], by rw [h], fun z => (z rfl).elim⟩
theorem Aj3 {t k : Int} (ht : Pr t) {p : List Int} (h : md p t ≠ []) (hk : k * co (md p t) ((md p t).length - 1) % t = 1) : Sgl t p (md (ng (md p t) k) t) := by
  have t0 : 0 < t := by have := ht.1; omega
  have c : ∀ i, co (md (ng (md p t) k) t) i = co (md p t) i * k % t := fun i => by rw [Zi, Ss]
  have hl := List.length_pos_iff.mpr h
  have top : co (md (ng (md p t) k) t) ((md p t).length - 1) = 1 := by rw [c, Int.mul_comm]; exact hk
  have len : (md (ng (md p t) k) t).length = (md p t).length := by
    refine Nat.le_antisymm ?_ ?_
    . refine Nat.le_of_not_lt fun z => ?_
      have ne : md (ng (md p t) k) t ≠ [] := fun y => by rw [y] at z; exact absurd z (by simp)
      have := (Akb (ng (md p t) k) t).lead ne
      rw [c, Bl (by omega)] at this
      simp at this
    . refine Nat.le_of_not_lt fun z => ?_
      rw [Bl (by omega)] at top
      cases top
  refine ⟨Akb _ _, Abf t0 _, fun d => ?_, len, fun _ => by rw [len]; exact top⟩
  constructor
  . intro hd
    rw [<- Acg t p d]
    refine hd.by (k := co (md p t) ((md p t).length - 1)) fun i => ?_
    rw [c]
    have e1 := Int.mul_ediv_add_emod (co (md p t) i * k) t
    have e2 := Int.mul_ediv_add_emod (k * co (md p t) ((md p t).length - 1)) t
    rw [hk] at e2
    generalize co (md p t) ((md p t).length - 1) = l at *
    generalize co (md p t) i = x at *
    refine ⟨l * (x * k / t) - x * (k * l / t), ?_⟩
    have e3 : x * k % t = x * k - t * (x * k / t) := by omega
    rw [e3]
    have e4 : l * (x * k) = x * (t * (k * l / t) + 1) := by rw [e2]; grind
    have : l * (x * k - t * (x * k / t)) = l * (x * k) - t * (l * (x * k / t)) := by grind
    rw [this, e4]
    grind
  . intro hd
    rw [<- Acg t p d] at hd
    refine hd.by (k := k) fun i => ?_
    rw [c, Int.mul_comm]
    exact ⟨-(k * co (md p t) i / t), by have := Int.mul_ediv_add_emod (k * co (md p t) i) t; rw [Int.mul_neg]; omega⟩
def V5 (K : PySem.W.Frag) : Sp := fun vs H Q _ => ∃ (x : V) (t : Int) (p : List Int) (l n k : Nat), vs = [x, .int t] /\ Po K H x p l n /\ l <= 100 /\ Pr t /\ Sz k t /\ k <= 8000 /\ ∀ (d : V) (H' : Hp) (g : List Int), Same H H' -> Po K H' d g l k -> Sgl t p g -> Q d H'
theorem Abg {f : Addr} {fd : FuncData} (F : Df K mg "single" Ue ["one", "t"] f fd)   (c_by_number : Cal P w K mg base 2 "by_number" ["one", "m"] (Gn K)) (c_scaled : Cal P w K mg base 1 "scaled" ["one", "factor"] (Ku K)) (c_inverse_by : Cal P w K mg base 1 "inverse_by" ["number", "m"] (Mw K)) : Cal P w K mg base 3 "single" ["one", "t"] (V5 K) := by
  refine F.cal (F.fn.ok U6 (fun vs H Q E h => ?_) (fun cdv A outer s H vs Q E hr h => ?_))
  . obtain ⟨x, t, p, _, _, _, rfl, _⟩ := h
    rfl
  obtain ⟨x, t, p, l, n, k, rfl, hx, hl, ht, hk, h8, c⟩ := h
  have t0 : 0 < t := by have := ht.1; omega
  refine S.Ay ⟨_, (S.Ad (S.Ai (i := 2) U6.nd rfl (Or.inl rfl) (S.Am c_by_number (hr.mono (by decide)) (S.Aa (S.pv 0) (S.Aa (S.pv 1) S.Ac))))
      (S.Ad (S.Ca (S.Aj (Iu hr.units) (S.pv 2) (S.Aw S.Ac) (Ak _)) (S.Ae (S.Al (S.Aw S.Ac))) S.Ax)
      (S.Ae (S.Al (S.Am c_by_number (hr.mono (by decide)) (S.Aa (S.Am c_scaled (hr.mono (by decide)) (S.Aa (S.pv 2) (S.Aa (S.Am c_inverse_by (hr.mono (by decide)) (S.Aa (S.Az Av (S.pv 2) (S.Dp Bt S.Ab) (fun _ _ => rfl)) (S.Aa (S.pv 1) S.Ac))) S.Ac))) (S.Aa (S.pv 1) S.Ac))))))), ?_⟩
  contradiction
  refine Rr hx (Same.refl _) (by omega) t0 hk fun z H1 s1 i1 => ?_
  try contradiction
  refine ⟨by decide, fun e0 he0 => ?_⟩
  have se := Same.upd he0 (.tup [])
  obtain ⟨⟨a, rfl, ha⟩, tm', lm, zm⟩ := id i1
  refine Dh (ms := []) (se.tup ha) (.of Af) ?_
  try contradiction
  split
  . rename_i h
    refine ⟨by decide, fun e1 he1 => ?_⟩
    exact c _ _ [] ((s1.trans se).trans (Same.upd he1 _)) ⟨⟨e1, rfl, .of Af⟩, .inl rfl, Nat.zero_le _, fun i => by rw [Bu]; exact hk.of_abs (by simp)⟩ (Ag4 t0 h)
  . rename_i h
    refine Dn (se.tup ha) (G8 h) ?_
    try contradiction
    have r := Abf t0 p ((md p t).length - 1)
    refine ⟨_, t, k, rfl, ht.1, hk, h8, Aba ht r.1 r.2 (tm'.lead h), fun iv iv0 iv1 hiv => ?_⟩
    try contradiction
    refine ⟨_, iv, _, l, k, k, rfl, i1.mono se, hk.of_abs (by omega), by omega, by omega, fun w H2 s2 i2 => ?_⟩
    try contradiction
    exact Rr i2 (Same.refl _) (by omega) t0 hk fun v H3 s3 i3 => c v H3 _ (((s1.trans se).trans s2).trans s3) i3 (Aj3 ht h hiv)
def Qx (K : PySem.W.Frag) : Sp := fun vs H Q _ => ∃ (x y : V) (t : Int) (p q : List Int) (l l' n n' k : Nat), vs = [x, y, .int t] /\ Po K H x p l n /\ Po K H y q l' n' /\ l <= 100 /\ l' <= 100 /\ Pr t /\ Sz k t /\ k <= 8000 /\ ∀ (d : V) (H' : Hp) (f g : List Int), Same H H' -> Po K H' d g (max l l') k -> Sgl t f g -> Ahp t f [] p q -> Q d H'
theorem Xp {f : Addr} {fd : FuncData} (F : Df K mg "m_shared" Nk ["one", "other", "t"] f fd)   (c_by_number : Cal P w K mg base 2 "by_number" ["one", "m"] (Gn K)) (c_single : Cal P w K mg base 3 "single" ["one", "t"] (V5 K)) (c_m_rest : Cal P w K mg base 4 "m_rest" ["one", "other", "m"] (V6 K)) : Cal P w K mg base 5 "m_shared" ["one", "other", "t"] (Qx K) := by
  refine F.cal (F.fn.ok J1 (fun vs H Q E h => ?_) (fun cdv A outer s H vs Q E hr h => ?_))
  . obtain ⟨x, y, t, p, q, _, _, _, _, _, rfl, _⟩ := h
    rfl
  obtain ⟨x, y, t, p, q, l, l', n, n', k, rfl, hx, hy, hl, hl', ht, hk, h8, c⟩ := h
  have t0 : 0 < t := by have := ht.1; omega
  refine S.Ay ⟨_, (S.Ad (S.Ai (i := 3) J1.nd rfl (Or.inl rfl) (S.Am c_by_number (hr.mono (by decide)) (S.Aa (S.pv 0) (S.Aa (S.pv 2) S.Ac))))
      (S.Ad (S.Ai (i := 4) J1.nd rfl (Or.inl rfl) (S.Am c_by_number (hr.mono (by decide)) (S.Aa (S.pv 1) (S.Aa (S.pv 2) S.Ac))))
      (S.Ad (S.Fp PassesOwn.never (S.Aj (Acn hr.units) (S.pv 4) (S.Aw S.Ac) (Ak _)) (S.Ae (S.Ks (i := 3) (j := 4) rfl J1.nd rfl rfl (by decide) rfl rfl (S.Aa (S.pv 4) (S.Aa (S.Am c_m_rest (hr.mono (by decide)) (S.Aa (S.pv 3) (S.Aa (S.pv 4) (S.Aa (S.pv 2) S.Ac)))) S.Ac)) rfl)))
      (S.Ae (S.Al (S.Am c_single (hr.mono (by decide)) (S.Aa (S.pv 3) (S.Aa (S.pv 2) S.Ac)))))))), ?_⟩
  contradiction
  refine Rr hx (Same.refl _) (by omega) t0 hk fun z1 H1 s1 i1 => ?_
  try contradiction
  refine Rr hy s1 (by omega) t0 hk fun z2 H2 s2 i2 => ?_
  try contradiction
  refine Uu (fun m σ H' => Same H H' /\ ∃ (v w : V) (f g : List Int), σ = [some x, some y, some (.int t), some v, some w] /\ m = g.length /\ Po K H' v f (max l l') k /\ Po K H' w g (max l l') k /\ (∀ i, 0 <= co g i /\ co g i < t) /\ Ahp t f g p q) _
    ⟨s1.trans s2, z1, z2, _, _, rfl, rfl, ⟨(i1.mono s2).1, i1.2.1, Nat.le_trans i1.2.2.1 (Nat.le_max_left ..), i1.2.2.2⟩, ⟨i2.1, i2.2.1, Nat.le_trans i2.2.2.1 (Nat.le_max_right ..), i2.2.2.2⟩, Abf t0 q, fun d => by rw [Acg, Acg]⟩ ?_
  rintro m σ H' ⟨s3, v, w, f, g, rfl, rfl, iv, iw, rg, sm⟩
  contradiction
  refine ⟨by decide, fun e0 he0 => ?_⟩
  have se := Same.upd he0 (.tup [])
  obtain ⟨⟨b, rfl, hb⟩, tg, lg, zg⟩ := id iw
  refine Dh (ms := []) (se.tup hb) (.of Af) ?_
  try contradiction
  by_cases hg : g = []
  . rw [if_pos hg]
    subst hg
    try contradiction
    exact ⟨v, t, f, max l l', k, k, rfl, iv.mono se, by omega, ht, hk, h8, fun d H4 g s4 i4 hs => c d H4 f g ((s3.trans se).trans s4) i4 hs sm⟩
  . rw [if_neg hg]
    refine Ad0 ?_
    try contradiction
    have r := rg (g.length - 1)
    refine ⟨v, .ref b, t, f, g, _, _, _, _, k, rfl, iv.mono se, iw.mono se, by omega, by omega, by omega, ht.1, hk, h8, hg, Aba ht r.1 r.2 (tg.lead hg), fun d H4 u r s4 i4 he hlr rr => ?_⟩
    try contradiction
    refine ⟨r.length, hlr, (s3.trans se).trans s4, .ref b, d, g, r, rfl, rfl, iw.mono (se.trans s4), ⟨i4.1, i4.2.1, Nat.le_trans (Nat.le_of_lt hlr) lg, i4.2.2.2⟩, rr, fun e => (Y5 he e).trans (sm e)⟩
def Kl (K : PySem.W.Frag) : Sp := fun vs H Q _ => ∃ (x y : V) (p q : List Int) (l l' n n' : Nat), vs = [x, y] /\ Po K H x p l n /\ Po K H y q l' n' /\ l <= 100 /\ l' <= 100 /\ ∀ (b : Bool) (H' : Hp), Same H H' -> (b = true -> Gc p q [1]) -> Q (.bl b) H'
theorem R3 {f : Addr} {fd : FuncData} (F : Df K mg "surely_apart" Jb ["one", "other"] f fd)  (xc_PRIME : ∃ u, mg "PRIME" = some u /\ RelV (V.int 2305843009213693951) u) (c_degree : Cal P w K mg base 1 "degree" ["one"] (Gd K)) (c_m_shared : Cal P w K mg base 5 "m_shared" ["one", "other", "t"] (Qx K)) : Cal P w K mg base 6 "surely_apart" ["one", "other"] (Kl K) := by
  refine F.cal (F.fn.ok Pu (fun vs H Q E h => ?_) (fun cdv A outer s H vs Q E hr h => ?_))
  . obtain ⟨x, y, p, q, _, _, _, _, rfl, _⟩ := h
    rfl
  obtain ⟨x, y, p, q, l, l', n, n', rfl, hx, hy, hl, hl', c⟩ := h
  obtain ⟨⟨a, rfl, ha⟩, tp, lp, zp⟩ := id hx
  obtain ⟨⟨b, rfl, hb⟩, tq, lq, zq⟩ := id hy
  refine S.Ay ⟨_, (S.Ad (S.Ca (S.Ju (S.Jq (S.Aj (Iu hr.units) (S.pv 0) (S.Aw S.Ac) (Ak _)) (S.Jq (S.Aj (Iu hr.units) (S.pv 1) (S.Aw S.Ac) (Ak _)) (S.Iv (S.Aj Fx (S.Ah Bv (S.Az Av (S.pv 0) (S.Dp Bt S.Ab) (fun _ _ => rfl)) (S.Mf (v := .int 2305843009213693951) rfl xc_PRIME)) S.Ab (Ak _)))))) (S.Ae (S.Al S.Nx)) S.Ax)
      (S.Ae (S.Al (S.Cy Fx (S.Am c_degree (hr.mono (by decide)) (S.Aa (S.Am c_m_shared (hr.mono (by decide)) (S.Aa (S.pv 0) (S.Aa (S.pv 1) (S.Aa (S.Mf (v := .int 2305843009213693951) rfl xc_PRIME) S.Ac)))) S.Ac)) S.Ab (Ak _))))), ?_⟩
  contradiction
  refine ⟨by decide, fun e0 he0 => ?_⟩
  have s0 := Same.upd he0 (.tup [])
  refine Dh (ms := []) (s0.tup ha) (.of Af) ?_
  try contradiction
  by_cases hp : p = []
  . rw [if_pos hp]
    exact c false _ s0 fun h => nomatch h
  rw [if_neg hp]
  refine ⟨by decide, fun e1 he1 => ?_⟩
  have s1 := s0.trans (Same.upd he1 (.tup []))
  refine Dh (ms := []) (s1.tup hb) (.of Af) ?_
  try contradiction
  by_cases hq : q = []
  . rw [if_pos hq]
    exact c false _ s1 fun h => nomatch h
  rw [if_neg hq]
  refine Dn (s1.tup ha) (G8 hp) ?_
  try contradiction
  refine ⟨by decide, ?_⟩
  by_cases hz : co p (p.length - 1) % 2305843009213693951 = 0
  . rw [if_pos hz]
    exact c false _ s1 fun h => nomatch h
  rw [if_neg hz]
  refine ⟨_, _, _, p, q, l, l', n, n', 61, rfl, hx.mono s1, hy.mono s1, hl, hl', Af9, by unfold Sz; decide, by decide, fun d H4 f g s4 i4 hs sm => ?_⟩
  try contradiction
  refine Di i4 (Same.refl _) ?_
  try contradiction
  refine c _ _ (s1.trans s4) fun hd => ?_
  have hd' : g.length = 1 := by
    have := of_decide_eq_true hd
    omega
  have g1 : g = [1] := by
    match g, hd' with
    | [k], _ =>
      have := hs.one (by simp)
      have e : k = 1 := this
      rw [e]
  refine apart Af9 tp hp (fun z => hz (Int.emod_eq_zero_of_dvd z)) fun e h1 h2 => ?_
  rw [<- g1, hs.dm]
  exact ((sm e).mpr ⟨h1, h2⟩).1
def Yd (K : PySem.W.Frag) : Sp := fun vs H Q _ => ∃ (x : V) (m M : Nat) (mi : Int) (p : List Int) (l n : Nat), vs = [x, .int mi] /\ (mi = (m : Nat) \/ mi < 0 /\ m = 0) /\ Po K H x p l n /\ m <= M /\ 1 <= M /\ M * l + 1 <= 500 /\ M * (n + l) + 1 <= 1000000 /\ ∀ z H', Same H H' -> Po K H' z (pw p m) (m * l + 1) (m * (n + l) + 1) -> Q z H'
theorem Ad2 {f : Addr} {fd : FuncData} (F : Df K mg "power" Wt ["one", "many"] f fd)  (xm_p_times : mg "p_times" = some (.ref (cA K "p_times"))) (c_repeated : Cal P w K mg base 2 "repeated" ["start", "one", "many", "product"] (Qv K)) : Cal P w K mg base 3 "power" ["one", "many"] (Yd K) := by
  refine F.cal (F.fn.ok Afc (fun vs H Q E h => ?_) (fun cdv A outer s H vs Q E hr h => ?_))
  . obtain ⟨x, m, M, mi, p, _, _, rfl, _⟩ := h
    rfl
  obtain ⟨x, m, M, mi, p, l, n, rfl, hmi, hx, hm, hM, hl, hn, k⟩ := h
  refine S.Ay ⟨_, (S.Ae (S.Al (S.Am c_repeated (hr.mono (by decide)) (S.Aa (S.Aw (S.Aa S.Ab S.Ac)) (S.Aa (S.pv 0) (S.Aa (S.pv 1) (S.Aa (S.Qq (v := .ref (cA K "p_times")) rfl xm_p_times rfl) S.Ac))))))), ?_⟩
  contradiction
  intro p0 hp0
  have s0 := Same.upd hp0 (.tup [V.int 1])
  refine ⟨_, x, m, M, _, p, l, n, rfl, hmi, ⟨p0, rfl, .of Af⟩, hx.mono s0, hm, hM, hl, hn, fun z H' s1 i1 => k _ _ (s0.trans s1) i1⟩
theorem Afv (b : Int) (hb : b ≠ 0) : ∀ m : Nat, pw [b] m = [b ^ m]
  | 0 => by rw [pw, Int.pow_zero]
  | m + 1 => by
    rw [pw, Afv b hb m]
    refine (Jk _ _).ext (.inr ⟨by simp, by simp; exact Int.pow_ne_zero hb⟩) fun i => ?_
    rw [Fo]
    cases i with
    | zero => simp [mu, sh, Ft, Int.pow_succ]; exact Int.mul_comm _ _
    | succ i => cases i <;> simp [mu, sh, Fv, Bu]
def Fw (K : PySem.W.Frag) : Sp := fun vs H Q _ => ∃ (b : Int) (m n : Nat), vs = [.int b, .int (m : Nat)] /\ b ≠ 0 /\ Sz n b /\ n <= 20000 /\ m <= 40 /\ ∀ H', Same H H' -> Q (.int (b ^ m)) H'
theorem R7 {f : Addr} {fd : FuncData} (F : Df K mg "whole_power" Jz ["number", "many"] f fd)   (c_power : Cal P w K mg base 3 "power" ["one", "many"] (Yd K)) : Cal P w K mg base 4 "whole_power" ["number", "many"] (Fw K) := by
  refine F.cal (F.fn.ok R4 (fun vs H Q E h => ?_) (fun cdv A outer s H vs Q E hr h => ?_))
  . obtain ⟨b, m, n, rfl, _⟩ := h
    rfl
  obtain ⟨b, m, n, rfl, hb, zb, hn, hm, k⟩ := h
  refine S.Ay ⟨_, (S.Ae (S.Al (S.Az Av (S.Am c_power (hr.mono (by decide)) (S.Aa (S.Aw (S.Aa (S.pv 0) S.Ac)) (S.Aa (S.pv 1) S.Ac))) S.Ab (fun _ _ => rfl)))), ?_⟩
  contradiction
  intro p0 hp0
  have i0 : Po K (upd H p0 (.tup [V.int b])) (.ref p0) [b] 1 (n + 1) := ⟨⟨p0, rfl, .of Af⟩, .inr ⟨by simp, by simpa using hb⟩, Nat.le_refl _, fun i => Ahv (by omega) (fun x hx => by
    have e : x = b := by simpa using hx
    rw [e]; exact zb.mono (by omega)) i⟩
  refine ⟨_, m, 40, _, _, _, _, rfl, .inl rfl, i0, hm, by decide, by decide, by omega, fun z H' s' i => ?_⟩
  obtain ⟨⟨c, rfl, hc⟩, _⟩ := i
  rw [Afv b hb] at hc
  exact Dn hc (at0 _ _) (k _ ((Same.upd hp0 _).trans s'))
theorem X8 {H : Hp} {Q : VK} {E : XK} {b : Int} {m n : Nat} {mi : Int} (e : mi = (m : Nat)) (hb : b ≠ 0) (zb : Sz n b) (hn : n <= 20000) (hm : m <= 40) (h : ∀ H', Same H H' -> Q (.int (b ^ m)) H') : Fw K [.int b, .int mi] H Q E := ⟨b, m, n, by rw [e], hb, zb, hn, hm, h⟩
theorem Yt {n : Nat} {b : Int} (h : Sz n b) : ∀ m : Nat, Sz (n * m + 1) (b ^ m)
  | 0 => by
    rw [Int.pow_zero, Nat.mul_zero]
    unfold Sz
    decide
  | m + 1 => by
    rw [Int.pow_succ, Nat.mul_succ]
    exact ((Yt h m).mul h).mono (by omega)
def rs (p : List Int) (m : Nat) : List Int := if p = [] then [] else List.replicate m 0 ++ p
def V0 (K : PySem.W.Frag) : Sp := fun vs H Q _ => ∃ (x : V) (m : Nat) (p : List Int) (l n : Nat), vs = [x, .int (m : Nat)] /\ Po K H x p l n /\ m <= 100 /\ l <= 400 /\ ∀ z H', Same H H' -> SqT K H' z ((rs p m).map V.int) -> Q (.ref z) H'
theorem Aa3 {f : Addr} {fd : FuncData} (F : Df K mg "raised" Uq ["one", "many"] f fd)    : Cal P w K mg base 1 "raised" ["one", "many"] (V0 K) := by
  refine F.cal (F.fn.ok Abi (fun vs H Q E h => ?_) (fun cdv A outer s H vs Q E hr h => ?_))
  . obtain ⟨x, m, p, _, _, rfl, _⟩ := h
    rfl
  obtain ⟨x, m, p, l, n, rfl, ⟨⟨a, rfl, ha⟩, tp, lp, zp⟩, hm, hl, k⟩ := h
  have sz5 : 1000 <= sizeLine := by decide
  refine S.Ay ⟨_, (S.Ad (S.Ca (S.Aj (Iu hr.units) (S.pv 0) (S.Aw S.Ac) (Ak _)) (S.Ae (S.Al (S.Aw S.Ac))) S.Ax)
      (S.Ae (S.Al (S.Ah Aal (S.Ah Agw (S.Aw (S.Aa S.Ab S.Ac)) (S.pv 1)) (S.pv 0))))), ?_⟩
  contradiction
  refine ⟨by decide, fun p1 hp1 => ?_⟩
  have s1 := Same.upd hp1 (.tup [])
  refine Dh (ms := []) (s1.tup ha) (.of Af) ?_
  try contradiction
  by_cases h1 : p = []
  . rw [if_pos h1]
    refine ⟨by decide, fun z hz => k z _ (s1.trans (Same.upd hz _)) ?_⟩
    rw [rs, if_pos h1]
    exact .of Af
  rw [if_neg h1]
  intro p2 hp2
  have s2 := s1.trans (Same.upd hp2 (.tup [V.int 0]))
  refine ⟨p2, m, [V.int 0], rfl, rfl, .of Af, by simp, by omega, by simp only [List.length_cons, List.length_nil]; omega, fun z H2 s3 hz => ?_⟩
  rw [Pj] at hz
  refine ⟨z, a, _, _, rfl, rfl, hz, (s2.trans s3).tup ha, by rw [List.length_map, List.length_map, List.length_replicate]; omega, fun z2 H3 s4 h4 => k z2 _ ((s2.trans s3).trans s4) ?_⟩
  rw [rs, if_neg h1, List.map_append]
  exact h4
theorem W8 (j : Nat) (p : List Int) (i : Nat) : co (List.replicate j 0 ++ p) i = if j <= i then co p (i - j) else 0 := by
  unfold co
  rw [List.getD_eq_getElem?_getD, List.getD_eq_getElem?_getD]
  by_cases h : j <= i
  . rw [if_pos h, List.getElem?_append_right (by rw [List.length_replicate]; exact h), List.length_replicate]
  . rw [if_neg h, List.getElem?_append_left (by rw [List.length_replicate]; omega), List.getElem?_replicate]
    split <;> rfl
theorem Ahx (p : List Int) (m i : Nat) : co (rs p m) i = if m <= i then co p (i - m) else 0 := by
  unfold rs
  split
  . rename_i h
    rw [h, Bu, Bu]
    split <;> rfl
  . exact W8 m p i
theorem Ak3 {p : List Int} (h : Tr p) (m : Nat) : Tr (rs p m) := by
  unfold rs
  split
  . exact .inl rfl
  . rename_i n
    refine Tr.of (.inr ?_)
    rw [W8, List.length_append, List.length_replicate, if_pos (by have := List.length_pos_iff.mpr n; omega)]
    have := h.lead n
    rw [show m + p.length - 1 - m = p.length - 1 by omega]
    exact this
theorem Ajf (p : List Int) (m : Nat) : (rs p m).length <= m + p.length := by
  unfold rs
  split
  . simp
  . rw [List.length_append, List.length_replicate]
    exact Nat.le_refl _
theorem Af5 (c : Int) (i : Nat) : co [c] i = if i = 0 then c else 0 := by
  cases i with
  | zero => rw [Ft]; rfl
  | succ i => rw [Fv, Bu]; rfl
theorem Ac3 (c : Int) (j : Nat) (q : List Int) (i : Nat) : mu (rs (trim [c]) j) (co q) i = if j <= i then c * co q (i - j) else 0 := by
  have e : ∀ k, co (rs (trim [c]) j) k = co (List.replicate j 0 ++ [c]) k := fun k => by
    rw [Ahx, W8]
    split
    . rw [Bc]
    . rfl
  rw [congrFun (Cq (co q) _ _ e) i, N6, Wg, List.length_replicate, Int.zero_add]
def SdR (K : PySem.W.Frag) (p q : List Int) (l : Nat) (Q : VK) (H : Hp) : Prop := ∀ (z : Addr) (H' : Hp) (c d : V) (u r : List Int), Same H H' -> SqT K H' z [c, d] -> Po K H' c u l BIG -> Po K H' d r l BIG ->
  (∀ k, co q (q.length - 1) ^ (p.length - q.length + 1) * co p k = mu u (co q) k + co r k) -> r.length < q.length -> u.length <= p.length - q.length + 1 -> Q (.ref z) H'
def Iw (K : PySem.W.Frag) : Sp := fun vs H Q _ => ∃ (x y : V) (p q : List Int) (l n : Nat), vs = [x, y] /\ Po K H x p l n /\ Po K H y q l n /\ l <= 60 /\ n <= 9000 /\ q ≠ [] /\ q.length <= p.length /\ SdR K p q l Q H
theorem Mi {f : Addr} {fd : FuncData} (F : Df K mg "scaled_division" Gj ["one", "other"] f fd) (z_range : mg "range" = none) (z_len : mg "len" = none)  (c_raised : Cal P w K mg base 1 "raised" ["one", "many"] (V0 K)) (c_p_plus : Cal P w K mg base 3 "p_plus" ["one", "other"] (Qw K)) (c_p_minus : Cal P w K mg base 4 "p_minus" ["one", "other"] (Nj K)) (c_degree : Cal P w K mg base 1 "degree" ["one"] (Gd K)) (c_poly : Cal P w K mg base 1 "poly" ["weights"] (Kc K)) (c_scaled : Cal P w K mg base 1 "scaled" ["one", "factor"] (Ku K)) (c_p_times : Cal P w K mg base 1 "p_times" ["one", "other"] (Jg K)) : Cal P w K mg base 5 "scaled_division" ["one", "other"] (Iw K) := by
  refine F.cal (F.fn.ok Bm (fun vs H Q E h => ?_) (fun cdv A outer s H vs Q E hr h => ?_))
  . obtain ⟨x, y, p, q, _, _, rfl, _⟩ := h
    rfl
  obtain ⟨x, y, p, q, l, n, rfl, hx, hy, hl, hn, hq, hqp, k⟩ := h
  obtain ⟨⟨a, rfl, ha⟩, tp, lp, zp⟩ := id hx
  obtain ⟨⟨b, rfl, hb⟩, tq, lq, zq⟩ := id hy
  have hql : 0 < q.length := List.length_pos_iff.mpr hq
  have bigE := Afs
  obtain ⟨L, hL⟩ : ∃ L, L = p.length - q.length + 1 := ⟨_, rfl⟩
  obtain ⟨lc, hlc⟩ : ∃ lc, lc = co q (q.length - 1) := ⟨_, rfl⟩
  obtain ⟨B, hB⟩ : ∃ B : Nat -> Nat, B = fun i => n + (n + l + 4) * i := ⟨_, rfl⟩
  have B1 : ∀ i, B (i + 1) = B i + n + l + 4 := fun i => by rw [hB]; show n + (n + l + 4) * (i + 1) = n + (n + l + 4) * i + n + l + 4; rw [Nat.mul_succ]; omega
  have Bn : ∀ i, i <= 60 -> B i <= 560000 := fun i hi => by
    rw [hB]
    have : (n + l + 4) * i <= (n + l + 4) * 60 := Nat.mul_le_mul_left _ hi
    show n + (n + l + 4) * i <= 560000
    omega
  have B0 : B 0 = n := by rw [hB]; rfl
  refine S.Ay ⟨_, (S.Ad (S.Ai (i := 2) Bm.nd rfl (Or.inl rfl) (S.Aw S.Ac))
      (S.Ad (S.Ai (i := 3) Bm.nd rfl (Or.inl rfl) (S.pv 0))
      (S.Ad (S.Du PassesOwn.never rfl (S.Lk rfl z_range (S.Aa (S.Ah Dd (S.Am c_degree (hr.mono (by decide)) (S.Aa (S.pv 0) S.Ac)) (S.Am c_degree (hr.mono (by decide)) (S.Aa (S.pv 1) S.Ac))) (S.Aa (S.Dp Bt S.Ab) (S.Aa (S.Dp Bt S.Ab) S.Ac)))) (S.Ar (i := 4) Bm.nd rfl (Or.inl rfl)) (S.Ad (S.Ai (i := 5) Bm.nd rfl (Or.inl rfl) (S.K1 (S.Aj Nt (S.Ah Bw (S.pv 4) (S.Am c_degree (hr.mono (by decide)) (S.Aa (S.pv 1) S.Ac))) (S.Cr Aq rfl z_len PySem.boot_len (S.Aa (S.pv 3) S.Ac)) (Ak _)) (S.Az Av (S.pv 3) (S.Ah Bw (S.pv 4) (S.Am c_degree (hr.mono (by decide)) (S.Aa (S.pv 1) S.Ac))) (fun _ _ => rfl)) S.Ab))
      (S.Ad (S.Ai (i := 6) Bm.nd rfl (Or.inl rfl) (S.Am c_raised (hr.mono (by decide)) (S.Aa (S.Am c_poly (hr.mono (by decide)) (S.Aa (S.Aw (S.Aa (S.pv 5) S.Ac)) S.Ac)) (S.Aa (S.pv 4) S.Ac))))
      (S.Ad (S.Ai (i := 2) Bm.nd rfl (Or.inl rfl) (S.Am c_p_plus (hr.mono (by decide)) (S.Aa (S.Am c_scaled (hr.mono (by decide)) (S.Aa (S.pv 2) (S.Aa (S.Az Av (S.pv 1) (S.Dp Bt S.Ab) (fun _ _ => rfl)) S.Ac))) (S.Aa (S.pv 6) S.Ac))))
      (S.Ae (S.Ai (i := 3) Bm.nd rfl (Or.inl rfl) (S.Am c_p_minus (hr.mono (by decide)) (S.Aa (S.Am c_scaled (hr.mono (by decide)) (S.Aa (S.pv 3) (S.Aa (S.Az Av (S.pv 1) (S.Dp Bt S.Ab) (fun _ _ => rfl)) S.Ac))) (S.Aa (S.Am c_p_times (hr.mono (by decide)) (S.Aa (S.pv 6) (S.Aa (S.pv 1) S.Ac))) S.Ac)))))))))
      (S.Ae (S.Al (S.Aw (S.Aa (S.pv 2) (S.Aa (S.pv 3) S.Ac)))))))), ?_⟩
  refine Ba (fun σ' H' => Same H H' /\ ∃ e0, σ' = [some (.ref a), some (.ref b), some (.ref e0), none, none, none, none] /\ H' e0 = some (.tup [])) (fun N hN => ?_) ?_
  . contradiction
    refine ⟨by decide, fun e0 he0 => hN _ _ ⟨Same.upd he0 _, e0, rfl, Af⟩⟩
  rintro σ H1 ⟨s1, e0, rfl, g0⟩
  refine Ba (fun σ' H' => H' = H1 /\ σ' = [some (.ref a), some (.ref b), some (.ref e0), some (.ref a), none, none, none]) (fun N hN => ?_) ?_
  . contradiction
    exact hN _ _ ⟨rfl, rfl⟩
  rintro σ H2 ⟨rfl, rfl⟩
  refine Ba (fun σ' H' => Same H H' /\ ∃ (c d : V) (u r : List Int) (o4 o5 o6 : Option V), σ' = [some (.ref a), some (.ref b), some c, some d, o4, o5, o6] /\ Po K H' c u l (B L) /\ Po K H' d r l (B L) /\ (∀ k, lc ^ L * co p k = mu u (co q) k + co r k) /\ (∀ k, p.length - L <= k -> co r k = 0) /\ ∀ k, L <= k -> co u k = 0) (fun N hN => ?_) ?_
  . rw [Gs]
    contradiction
    refine Di hx s1 ?_
    try contradiction
    refine Di hy s1 ?_
    try contradiction
    refine ⟨by omega, ?_⟩
    have en : ((p.length : Int) - 1 - ((q.length : Int) - 1) - -1).toNat = L := by omega
    refine Ahu L (fun i => .int ((p.length : Int) - 1 - ((q.length : Int) - 1) - (i : Nat))) (fun i σ' H' => Same H H' /\ ∃ (c d : V) (u r : List Int) (o4 o5 o6 : Option V), σ' = [some (.ref a), some (.ref b), some c, some d, o4, o5, o6] /\ Po K H' c u l (B i) /\ Po K H' d r l (B i) /\ (∀ k, lc ^ i * co p k = mu u (co q) k + co r k) /\ (∀ k, p.length - i <= k -> co r k = 0) /\ ∀ k, L <= k -> co u k = 0) ?_ ?_ ?_ ?_
    . refine ⟨s1, _, _, [], p, _, _, _, rfl, ⟨⟨e0, rfl, .of g0⟩, .inl rfl, Nat.zero_le _, fun i => by rw [Bu, B0]; exact (zp p.length).of_abs (by simp)⟩, by rw [B0]; exact hx.mono s1, fun t => ?_, fun t ht => Bl (by omega), fun t _ => Bu t⟩
      rw [Int.pow_zero, Int.one_mul]
      show _ = 0 + co p t
      omega
    . intro i σ' H' _
      rw [en]
      exact Qu
    . rintro i σ' H5 hi ⟨s5, c, d, u, r, o4, o5, o6, rfl, ic, ir, he, hr0, hu0⟩
      obtain ⟨j, hj⟩ : ∃ j : Nat, j + 1 = L - i := ⟨L - i - 1, by omega⟩
      have pj : (p.length : Int) - 1 - ((q.length : Int) - 1) - (i : Nat) = (j : Int) := by omega
      rw [Bx, pj]
      simp only [List.set_cons_succ, List.set_cons_zero]
      have ix : (j : Int) + ((q.length : Int) - 1) = ((j + (q.length - 1) : Nat) : Int) := by omega
      obtain ⟨e, he'⟩ : ∃ e, e = j + (q.length - 1) := ⟨_, rfl⟩
      rw [<- he'] at ix
      obtain ⟨tp', htp⟩ : ∃ t, t = co r e := ⟨_, rfl⟩
      have Bi := Bn i (by omega)
      have Bs := B1 i
      have zt : Sz (B i) tp' := by rw [htp]; exact ir.2.2.2 e
      have zl : Sz n lc := by rw [hlc]; exact zq _
      refine Ba (fun σ' H' => H' = H5 /\ σ' = [some (.ref a), some (.ref b), some c, some d, some (.int j), some (.int tp'), o6]) (fun N hN => ?_) ?_
      . contradiction
        refine Di hy s5 ?_
        simp only [Hy, Eo, Hs, Hl, Ep, Hu, Bx, Ie, Et, Em, z_c, Ox, Ro, Pq, Hg, Qm, Hi, Hz, G3, G4, Ds, Rt, Il, Ig, Ia, Ej, Eh, G5, Hw, Rq, Fj, Hv, Dw, Qt, Ek, Ho, Fl, Q5, Im, Hq, Cg, Fi, Er, Ei, Ci, Ey, Hh, Ij, G9, Gs, Qh, Bp, Ec, Hr, Rf, Ib, En, Hj, Ii, Dz, Ik, Fg, Fe, Fb, Cp, Hx, Cm, Ez, Ea, Ef, G7, Dy, Ew, Es, Ck, El, Qp, cpσ, List.getElem?_cons_zero, List.getElem?_cons_succ, Option.join_some, List.set_cons_zero, List.set_cons_succ, List.append_nil, decide_eq_true_eq, Bool.not_eq_true', decide_eq_false_iff_not, Bool.not_not, ite_not, Bool.false_eq_true, Bool.true_eq_false, if_false, if_true, if_pos, List.length_cons, List.length_nil, Nat.zero_add, Nat.reduceAdd, Ed, Eb, true_and, and_true, L2.start, List.map_cons, List.map_nil, Bool.not_true, Bool.not_false, Nat.reduceSub, List.replicate_succ, List.replicate_zero, List.cons_append, List.nil_append, ix]
        obtain ⟨⟨dr, rfl, hdr⟩, _, lr, _⟩ := id ir
        refine ⟨dr, _, rfl, .inr hdr, ?_⟩
        try contradiction
        rw [List.length_map]
        split
        . rename_i h
          have h' : e < r.length := by omega
          refine Di hy s5 ?_
          simp only [Hy, Eo, Hs, Hl, Ep, Hu, Bx, Ie, Et, Em, z_c, Ox, Ro, Pq, Hg, Qm, Hi, Hz, G3, G4, Ds, Rt, Il, Ig, Ia, Ej, Eh, G5, Hw, Rq, Fj, Hv, Dw, Qt, Ek, Ho, Fl, Q5, Im, Hq, Cg, Fi, Er, Ei, Ci, Ey, Hh, Ij, G9, Gs, Qh, Bp, Ec, Hr, Rf, Ib, En, Hj, Ii, Dz, Ik, Fg, Fe, Fb, Cp, Hx, Cm, Ez, Ea, Ef, G7, Dy, Ew, Es, Ck, El, Qp, cpσ, List.getElem?_cons_zero, List.getElem?_cons_succ, Option.join_some, List.set_cons_zero, List.set_cons_succ, List.append_nil, decide_eq_true_eq, Bool.not_eq_true', decide_eq_false_iff_not, Bool.not_not, ite_not, Bool.false_eq_true, Bool.true_eq_false, if_false, if_true, if_pos, List.length_cons, List.length_nil, Nat.zero_add, Nat.reduceAdd, Ed, Eb, true_and, and_true, L2.start, List.map_cons, List.map_nil, Bool.not_true, Bool.not_false, Nat.reduceSub, List.replicate_succ, List.replicate_zero, List.cons_append, List.nil_append, ix]
          refine Dn hdr (v := .int tp') (by rw [htp, Cv h']; exact Jc (K7 h')) ?_
          try contradiction
          exact hN _ _ ⟨rfl, rfl⟩
        . rename_i h
          have : tp' = 0 := by rw [htp]; exact Bl (by omega)
          rw [this] at hN
          exact hN _ _ ⟨rfl, rfl⟩
      rintro σ' H6 ⟨rfl, rfl⟩
      refine Ba (fun σ' H' => Same H6 H' /\ ∃ tv : V, σ' = [some (.ref a), some (.ref b), some c, some d, some (.int j), some (.int tp'), some tv] /\ Po K H' tv (rs (trim [tp']) j) l (B i)) (fun N hN => ?_) ?_
      . contradiction
        intro p1 hp1
        have s6 := Same.upd hp1 (.tup [V.int tp'])
        refine ⟨p1, [tp'], rfl, .inr (.of Af), by simp, fun z H7 s7 h7 => ?_⟩
        try contradiction
        have it : Po K H7 (.ref z) (trim [tp']) 1 (B i) := ⟨⟨z, rfl, h7⟩, Bo _, Nat.le_trans (J4 _) (by simp), fun t => by
          rw [Bc, Af5]
          split
          . exact zt
          . exact zt.of_abs (by simp)⟩
        refine ⟨_, j, _, 1, B i, rfl, it, by omega, by decide, fun z2 H8 s8 h8 => hN _ _ ⟨(s6.trans s7).trans s8, _, rfl, ⟨⟨z2, rfl, h8⟩, Ak3 (Bo _) j, ?_, fun t => ?_⟩⟩⟩
        . have h1 := Ajf (trim [tp']) j
          have h2 := it.2.2.1
          omega
        . rw [Ahx]
          split
          . exact it.2.2.2 _
          . exact zt.of_abs (by simp)
      rintro σ' H7 ⟨s7, tv, rfl, it⟩
      have s57 := s5.trans s7
      refine Ba (fun σ' H' => Same H7 H' /\ ∃ cv : V, σ' = [some (.ref a), some (.ref b), some cv, some d, some (.int j), some (.int tp'), some tv] /\ Po K H' cv (ta (ng u lc) (rs (trim [tp']) j)) l (B (i + 1))) (fun N hN => ?_) ?_
      . contradiction
        refine Dn (s57.tup hb) (G8 hq) ?_
        rw [<- hlc]
        try contradiction
        refine ⟨c, lc, u, l, B i, n, rfl, ic.mono s7, zl, by omega, by omega, fun z H8 s8 i8 => ?_⟩
        try contradiction
        refine ⟨z, tv, _, _, l, l, B i + n, B i, rfl, i8, it.mono s8, by omega, by omega, trivial, fun w H9 s9 i9 => hN _ _ ⟨s8.trans s9, w, rfl, ⟨i9.1, i9.2.1, Nat.le_trans i9.2.2.1 (by omega), fun t => (i9.2.2.2 t).mono (by omega)⟩⟩⟩
      rintro σ' H8 ⟨s8, cv, rfl, icv⟩
      contradiction
      refine Dn ((s57.trans s8).tup hb) (G8 hq) ?_
      rw [<- hlc]
      try contradiction
      refine ⟨d, lc, r, l, B i, n, rfl, ir.mono (s7.trans s8), zl, by omega, by omega, fun z H9 s9 i9 => ?_⟩
      try contradiction
      refine ⟨tv, .ref b, _, q, l, l, B i, n, rfl, it.mono (s8.trans s9), hy.mono ((s57.trans s8).trans s9), by omega, by omega, by omega, fun w Ha sa ia => ?_⟩
      try contradiction
      refine ⟨z, w, _, _, l, l + l, B i + n, B i + n + l, rfl, i9.mono sa, ia, by omega, by omega, by omega, fun v Hb sb ib => ?_⟩
      try contradiction
      have rco : ∀ t, co (ta (ng r lc) (ng (tm (rs (trim [tp']) j) q) (-1))) t = co r t * lc - (if j <= t then tp' * co q (t - j) else 0) := fun t => by
        rw [Qj, Ss, Ss, Fo, Ac3]
        omega
      have r0 : ∀ t, p.length - (i + 1) <= t -> co (ta (ng r lc) (ng (tm (rs (trim [tp']) j) q) (-1))) t = 0 := fun t ht => by
        rw [rco, if_pos (by omega)]
        by_cases h : t = e
        . rw [h, <- htp, he', show j + (q.length - 1) - j = q.length - 1 by omega, hlc]
          omega
        . rw [hr0 t (by omega), Bl (p := q) (by omega)]
          simp
      refine ⟨((((s57.trans s8).trans s9).trans sa).trans sb), cv, v, _, _, _, _, _, rfl, icv.mono ((s9.trans sa).trans sb), ⟨ib.1, ib.2.1, ?_, fun t => (ib.2.2.2 t).mono (by omega)⟩, fun t => ?_, r0, fun t ht => ?_⟩
      . refine Nat.le_trans (ib.2.1.len (q := (ta (ng r lc) (ng (tm (rs (trim [tp']) j) q) (-1))).take l) fun t => ?_) (List.length_take_le _ _)
        rw [Kr]
        split
        . rfl
        . exact r0 t (by omega)
      . rw [rco, <- Fo, Int.pow_succ]
        have e1 : co (tm (ta (ng u lc) (rs (trim [tp']) j)) q) t = mu u (co q) t * lc + (if j <= t then tp' * co q (t - j) else 0) := by
          rw [Ng, Ald, Qj, Ng q (rs (trim [tp']) j), Fo (rs (trim [tp']) j), Ac3, Fo, Qg]
          congr 1
          have e2 : mu (ng u lc) (co q) t = mu (u.map (lc * ·)) (co q) t := congrFun (Cq (co q) _ _ fun k => by rw [Ss, Gv, Int.mul_comm]) t
          rw [e2, Tz, Int.mul_comm]
        rw [e1]
        have := he t
        have e3 : lc ^ i * lc * co p t = (lc ^ i * co p t) * lc := by grind
        rw [e3, this]
        grind
      . rw [Qj, Ss, hu0 t ht, Ahx]
        split
        . rw [Bc, Af5, if_neg (by omega)]
          simp
        . simp
    . rintro σ' H5 ⟨s5, c, d, u, r, o4, o5, o6, rfl, ic, ir, he, hr0, hu0⟩
      exact hN _ _ ⟨s5, c, d, u, r, o4, o5, o6, rfl, ic, ir, he, hr0, hu0⟩
  rintro σ H5 ⟨s5, c, d, u, r, o4, o5, o6, rfl, ic, ir, he, hr0, hu0⟩
  have BL := Bn L (by omega)
  contradiction
  intro z hz
  have s6 := Same.upd hz (.tup [c, d])
  have big : ∀ {v : V} {f : List Int}, Po K H5 v f l (B L) -> Po K (upd H5 z (.tup [c, d])) v f l BIG := fun h => ⟨(h.mono s6).1, h.2.1, h.2.2.1, fun t => (h.2.2.2 t).mono (by omega)⟩
  refine k z _ c d u r (s5.trans s6) (.of Af) (big ic) (big ir) (by rw [<- hlc, <- hL]; exact he) ?_ ?_
  . have h := ir.2.1.len (q := r.take (q.length - 1)) fun t => by
      rw [Kr]
      split
      . rfl
      . exact hr0 t (by omega)
    rw [List.length_take] at h
    omega
  . have h := ic.2.1.len (q := u.take L) fun t => by
      rw [Kr]
      split
      . rfl
      . exact hu0 t (by omega)
    rw [List.length_take] at h
    omega
def RwV (K : PySem.W.Frag) (H : Hp) (vs : List V) (fs : List (List Int)) (l n : Nat) : Prop := vs.length = fs.length /\ ∀ c, c < fs.length -> Po K H (vs.getD c .non) (fs.getD c []) l n
def Rw (K : PySem.W.Frag) (H : Hp) (x : V) (fs : List (List Int)) (l n : Nat) : Prop := ∃ a vs, x = .ref a /\ SqT K H a vs /\ RwV K H vs fs l n
theorem RwV.mono {H H' : Hp} {vs : List V} {fs : List (List Int)} {l n : Nat} (h : RwV K H vs fs l n) (s : Same H H') : RwV K H' vs fs l n := ⟨h.1, fun c hc => (h.2 c hc).mono s⟩
theorem Rw.mono {H H' : Hp} {x : V} {fs : List (List Int)} {l n : Nat} (h : Rw K H x fs l n) (s : Same H H') : Rw K H' x fs l n := by
  obtain ⟨a, vs, e, t, r⟩ := h
  exact ⟨a, vs, e, s.tup t, r.mono s⟩
theorem getD_at {vs : List V} {j : Nat} (h : j < vs.length) : atI vs ((j : Nat) : Int) = some (vs.getD j .non) := Jc (by rw [List.getD_eq_getElem?_getD, List.getElem?_eq_getElem h]; rfl)
def NrR (K : PySem.W.Frag) (fs gs : List (List Int)) (β : Int) (l : Nat) (Q : VK) (H : Hp) : Prop := ∀ (z : V) (H' : Hp) (ts : List (List Int)) (u r : List Int), Same H H' -> Rw K H' z ts (2 * l) (2 * BIG) -> ts.length = fs.length ->
  (∀ k, co (gs.getD 0 []) ((gs.getD 0 []).length - 1) ^ ((fs.getD 0 []).length - (gs.getD 0 []).length + 1) * co (fs.getD 0 []) k = mu u (co (gs.getD 0 [])) k + co r k) -> r.length < (gs.getD 0 []).length -> u.length <= (fs.getD 0 []).length - (gs.getD 0 []).length + 1 ->
  (∀ c, c < fs.length -> ∀ i, co (gs.getD 0 []) ((gs.getD 0 []).length - 1) ^ ((fs.getD 0 []).length - (gs.getD 0 []).length + 1) * co (fs.getD c []) i = β * co (ts.getD c []) i + mu u (co (gs.getD c [])) i) -> Q z H'
def NrE (fs gs : List (List Int)) (β : Int) : Prop := ∀ (u r : List Int), (∀ k, co (gs.getD 0 []) ((gs.getD 0 []).length - 1) ^ ((fs.getD 0 []).length - (gs.getD 0 []).length + 1) * co (fs.getD 0 []) k = mu u (co (gs.getD 0 [])) k + co r k) -> r.length < (gs.getD 0 []).length -> u.length <= (fs.getD 0 []).length - (gs.getD 0 []).length + 1 ->
  ∀ c, c < fs.length -> ∀ i, β ∣ co (gs.getD 0 []) ((gs.getD 0 []).length - 1) ^ ((fs.getD 0 []).length - (gs.getD 0 []).length + 1) * co (fs.getD c []) i - mu u (co (gs.getD c [])) i
def Lg (K : PySem.W.Frag) : Sp := fun vs H Q _ => ∃ (x y : V) (β : Int) (fs gs : List (List Int)) (l n : Nat), vs = [x, y, .int β] /\ Rw K H x fs l n /\ Rw K H y gs l n /\ gs.length = fs.length /\ 1 <= fs.length /\ fs.length <= 3 /\ l <= 60 /\ n <= 8000 /\ gs.getD 0 [] ≠ [] /\ (gs.getD 0 []).length <= (fs.getD 0 []).length /\ (fs.getD 0 []).length <= (gs.getD 0 []).length + 38 /\ β ≠ 0 /\ Sz 8000 β /\ NrE fs gs β /\ NrR K fs gs β l Q H
theorem Nv {d : Int} (p : List Int) (i : Nat) : co (p.map fun x => x.fdiv d) i = (co p i).fdiv d := Px (f := fun x => x.fdiv d) (Int.zero_fdiv d) p i
theorem U0 {x d : Int} (h0 : d ≠ 0) (h : d ∣ x) : d * x.fdiv d = x := by
  obtain ⟨k, rfl⟩ := h
  rw [Int.mul_fdiv_cancel_left _ h0]
theorem Wv {p : List Int} {d : Int} (h0 : d ≠ 0) (tp : Tr p) (h : ∀ i, d ∣ co p i) : Tr (p.map fun x => x.fdiv d) := by
  by_cases n : p = []
  . subst n; exact .inl rfl
  . refine Tr.of (.inr ?_)
    rw [List.length_map, Nv]
    intro z
    have := U0 h0 (h (p.length - 1))
    rw [z, Int.mul_zero] at this
    exact tp.lead n this.symm
theorem Xa {n : Nat} {x d : Int} (h0 : d ≠ 0) (h : d ∣ x) (z : Sz n x) : Sz n (x.fdiv d) := z.of_abs (by
  have := congrArg Int.natAbs (U0 h0 h)
  rw [Int.natAbs_mul] at this
  have hd := Int.natAbs_pos.mpr h0
  have := Nat.le_mul_of_pos_left (x.fdiv d).natAbs hd
  omega)
theorem W4 {f : Addr} {fd : FuncData} (F : Df K mg "next_row" N8 ["first", "second", "known"] f fd) (z_zip : mg "zip" = none) (z_tuple : mg "tuple" = none)  (c_whole_power : Cal P w K mg base 4 "whole_power" ["number", "many"] (Fw K)) (c_scaled_division : Cal P w K mg base 5 "scaled_division" ["one", "other"] (Iw K)) (c_shrunk : Cal P w K mg base 1 "shrunk" ["one", "number"] (Rn K)) (c_degree : Cal P w K mg base 1 "degree" ["one"] (Gd K)) (c_p_minus : Cal P w K mg base 4 "p_minus" ["one", "other"] (Nj K)) (c_scaled : Cal P w K mg base 1 "scaled" ["one", "factor"] (Ku K)) (c_p_times : Cal P w K mg base 1 "p_times" ["one", "other"] (Jg K)) : Cal P w K mg base 6 "next_row" ["first", "second", "known"] (Lg K) := by
  refine F.cal (F.fn.ok Fy (fun vs H Q E h => ?_) (fun cdv A outer s H vs Q E hr h => ?_))
  . obtain ⟨x, y, β, fs, gs, _, _, rfl, _⟩ := h
    rfl
  obtain ⟨x, y, β, fs, gs, l, n, rfl, ⟨a, vs, rfl, ha, hvl, hv⟩, ⟨b, ws, rfl, hb, hwl, hw⟩, hgf, hf1, hf3, hl, hn, hg0, hgl, hd38, β0, βz, ex, k⟩ := h
  have bigE := Afs
  have p0 := hv 0 (by omega)
  have q0 := hw 0 (by omega)
  have hq0 := hg0
  have gl0 : 0 < (gs.getD 0 []).length := List.length_pos_iff.mpr hg0
  obtain ⟨L, hL⟩ : ∃ L, L = co (gs.getD 0 []) ((gs.getD 0 []).length - 1) ^ ((fs.getD 0 []).length - (gs.getD 0 []).length + 1) := ⟨_, rfl⟩
  have ld0 : co (gs.getD 0 []) ((gs.getD 0 []).length - 1) ≠ 0 := q0.2.1.lead hg0
  obtain ⟨⟨b0, eb0, hb0⟩, _⟩ := id q0
  obtain ⟨⟨a0, ea0, ha0⟩, _⟩ := id p0
  have atF : atI vs 0 = some (vs.getD 0 .non) := getD_at (j := 0) (by omega)
  have atG : atI ws 0 = some (ws.getD 0 .non) := getD_at (j := 0) (by omega)
  have LS : Sz (n * ((fs.getD 0 []).length - (gs.getD 0 []).length + 1) + 1) L := by rw [hL]; exact Yt (q0.2.2.2 _) _
  have hN : n * ((fs.getD 0 []).length - (gs.getD 0 []).length + 1) <= 8000 * 39 := Nat.mul_le_mul hn (by omega)
  refine S.Ay ⟨_, (S.Ad (S.Ai (i := 3) Fy.nd rfl (Or.inl rfl) (S.Am c_whole_power (hr.mono (by decide)) (S.Aa (S.Az Av (S.Az Av (S.pv 1) S.Ab (fun _ _ => rfl)) (S.Dp Bt S.Ab) (fun _ _ => rfl)) (S.Aa (S.Ah Bw (S.Ah Dd (S.Am c_degree (hr.mono (by decide)) (S.Aa (S.Az Av (S.pv 0) S.Ab (fun _ _ => rfl)) S.Ac)) (S.Am c_degree (hr.mono (by decide)) (S.Aa (S.Az Av (S.pv 1) S.Ab (fun _ _ => rfl)) S.Ac))) S.Ab) S.Ac))))
      (S.Ad (S.Gg (S.Am c_scaled_division (hr.mono (by decide)) (S.Aa (S.Az Av (S.pv 0) S.Ab (fun _ _ => rfl)) (S.Aa (S.Az Av (S.pv 1) S.Ab (fun _ _ => rfl)) S.Ac))) (S.Gu rfl (S.Bj (S.Ar (i := 5) Fy.nd rfl (Or.inl rfl)) (S.Bj (S.Ar (i := 6) Fy.nd rfl (Or.inl rfl)) S.Gf))))
      (S.Ad (S.Ai (i := 4) Fy.nd rfl (Or.inl rfl) (S.Gb (S.Aa (S.Am c_shrunk (hr.mono (by decide)) (S.Aa (S.pv 6) (S.Aa (S.pv 2) S.Ac))) S.Ac)))
      (S.Ad (S.Du PassesOwn.never rfl (S.Pk true true rfl z_zip (S.Aa (S.K6 Ww (S.pv 0) (S.Ni S.Ab) S.Nr) (S.Aa (S.K6 Ww (S.pv 1) (S.Ni S.Ab) S.Nr) S.Ac))) (S.Gu rfl (S.Bj (S.Ar (i := 7) Fy.nd rfl (Or.inl rfl)) (S.Bj (S.Ar (i := 8) Fy.nd rfl (Or.inl rfl)) S.Gf))) (S.Ae (S.J3 (S.Om PySem.F.plainAttrs_list PySem.F.slot_list_append PySem.F.type_list_append Jj (S.pv 4) (S.Aa (S.Am c_shrunk (hr.mono (by decide)) (S.Aa (S.Am c_p_minus (hr.mono (by decide)) (S.Aa (S.Am c_scaled (hr.mono (by decide)) (S.Aa (S.pv 7) (S.Aa (S.pv 3) S.Ac))) (S.Aa (S.Am c_p_times (hr.mono (by decide)) (S.Aa (S.pv 5) (S.Aa (S.pv 8) S.Ac))) S.Ac))) (S.Aa (S.pv 2) S.Ac))) S.Ac)))))
      (S.Ae (S.Al (S.Dq Dc rfl z_tuple PyProof.Rows.boot_tuple (S.Aa (S.pv 4) S.Ac)))))))), ?_⟩
  refine Ba (fun σ' H' => Same H H' /\ σ' = [some (.ref a), some (.ref b), some (.int β), some (.int L), none, none, none, none, none]) (fun N hN => ?_) ?_
  . contradiction
    refine Dn hb atG ?_
    rw [eb0]
    refine Dn hb0 (G8 hg0) ?_
    try contradiction
    refine Dn ha atF ?_
    refine Di p0 (Same.refl _) ?_
    try contradiction
    refine Dn hb atG ?_
    refine Di q0 (Same.refl _) ?_
    try contradiction
    refine X8 (m := (fs.getD 0 []).length - (gs.getD 0 []).length + 1) (by omega) ld0 (q0.2.2.2 _) (by omega) (by omega) fun H' s' => ?_
    rw [<- hL]
    exact hN _ _ ⟨s', rfl⟩
  rintro σ H1 ⟨s1, rfl⟩
  refine Ba (fun σ' H' => Same H H' /\ ∃ (c d : V) (u r : List Int), σ' = [some (.ref a), some (.ref b), some (.int β), some (.int L), none, some c, some d, none, none] /\ Po K H' c u l BIG /\ Po K H' d r l BIG /\ (∀ k, L * co (fs.getD 0 []) k = mu u (co (gs.getD 0 [])) k + co r k) /\ r.length < (gs.getD 0 []).length /\ u.length <= (fs.getD 0 []).length - (gs.getD 0 []).length + 1) (fun N hN => ?_) ?_
  . contradiction
    refine Dn (s1.tup ha) atF (Dn (s1.tup hb) atG ?_)
    refine ⟨_, _, fs.getD 0 [], gs.getD 0 [], l, n, rfl, p0.mono s1, q0.mono s1, hl, by omega, hg0, hgl, fun z H2 c d u r s2 hz ic id he hlr hlu => ?_⟩
    refine Ka hz ?_
    exact hN _ _ ⟨s1.trans s2, c, d, u, r, rfl, ic, id, by rw [hL]; exact he, hlr, hlu⟩
  rintro σ H2 ⟨s2, c, d, u, r, rfl, ic, ir, he, hlr, hlu⟩
  rw [hL] at he
  have ex' := ex u r he hlr hlu
  rw [<- hL] at ex' he
  obtain ⟨T, hT⟩ : ∃ T : Nat -> List Int, T = fun c => (trim (al ((fs.getD c []).map (L * ·)) ((ml u (gs.getD c [])).map (-1 * ·)))).map fun x => x.fdiv β := ⟨_, rfl⟩
  have R0 : ∀ c i, co (trim (al ((fs.getD c []).map (L * ·)) ((ml u (gs.getD c [])).map (-1 * ·)))) i = L * co (fs.getD c []) i - mu u (co (gs.getD c [])) i := fun c i => by
    rw [Bc, Wd, Gv, Gv, Ae1]
    omega
  have Tco : ∀ c, c < fs.length -> ∀ i, β * co (T c) i = L * co (fs.getD c []) i - mu u (co (gs.getD c [])) i := fun c hc i => by
    rw [hT]
    show β * co (List.map _ _) i = _
    rw [Nv, R0]
    exact U0 β0 (ex' c hc i)
  refine Ba (fun σ' H' => Same H H' /\ ∃ (t3 : Addr) (z0 : V), σ' = [some (.ref a), some (.ref b), some (.int β), some (.int L), some (.ref t3), some c, some d, none, none] /\ H t3 = none /\ Po K H' c u l BIG /\ H' t3 = some (.lst [z0]) /\ Po K H' z0 (T 0) (2 * l) (2 * BIG)) (fun N hN => ?_) ?_
  . contradiction
    obtain ⟨⟨dr, rfl, hdr⟩, tr, lr, zr⟩ := id ir
    have er : r = trim (al ((fs.getD 0 []).map (L * ·)) ((ml u (gs.getD 0 [])).map (-1 * ·))) := tr.ext (Bo _) fun i => by rw [R0, he]; omega
    have dv : ∀ i, β ∣ co r i := fun i => by rw [er, R0]; exact ex' 0 (by omega) i
    refine ⟨dr, r, β, rfl, hdr, by omega, fun _ => ⟨β0, βz⟩, fun z H3 s3 h3 => ?_⟩
    try contradiction
    intro t3 ht3
    have st := Same.upd ht3 (.lst [V.ref z])
    have eT : T 0 = r.map fun x => x.fdiv β := by rw [hT, er]
    refine hN _ _ ⟨(s2.trans s3).trans st, t3, _, rfl, Same.free (s2.trans s3) ht3, ic.mono (s3.trans st), Af, ⟨⟨z, rfl, by rw [eT]; exact st.tup h3⟩, by rw [eT]; exact Wv β0 tr dv, by rw [eT, List.length_map]; omega, fun i => ?_⟩⟩
    rw [eT, Nv]
    exact (Xa β0 (dv i) (zr i)).mono (by omega)
  rintro σ H3 ⟨s3, t3, z0, rfl, nt3, ic3, g3, i0⟩
  refine Ba (fun σ' H' => Same H H' /\ ∃ (zs : List V) (o7 o8 : Option V), σ' = [some (.ref a), some (.ref b), some (.int β), some (.int L), some (.ref t3), some c, some d, o7, o8] /\ H' t3 = some (.lst zs) /\ zs.length = fs.length /\ ∀ j, j < fs.length -> Po K H' (zs.getD j .non) (T j) (2 * l) (2 * BIG)) (fun N hN => ?_) ?_
  . contradiction
    have cutA : Tt vs (some 1) none = vs.drop 1 := by
      unfold Tt
      rw [show (1 : Int) = ((1 : Nat) : Int) from rfl, HT.O4, HT.U3, Nat.min_eq_left (by omega), List.take_of_length_le (by simp)]
    have cutB : Tt ws (some 1) none = ws.drop 1 := by
      unfold Tt
      rw [show (1 : Int) = ((1 : Nat) : Int) from rfl, HT.O4, HT.U3, Nat.min_eq_left (by omega), List.take_of_length_le (by simp)]
    refine ⟨a, vs, rfl, s3.tup ha, fun ca H4 s4 h4 => ?_⟩
    try contradiction
    refine ⟨b, ws, rfl, (s3.trans s4).tup hb, fun cb H5 s5 h5 => ?_⟩
    rw [cutA] at h4
    rw [cutB] at h5
    try contradiction
    refine ⟨ca, cb, rfl, ⟨_, s5.tup h4⟩, ⟨_, h5⟩, ?_⟩
    refine Ag9 (xs := vs.drop 1) (ys := ws.drop 1) (fs.length - 1) (by rw [List.length_drop, List.length_drop]; omega) (fun i σ' H' => Same H H' /\ SqT K H' ca (vs.drop 1) /\ SqT K H' cb (ws.drop 1) /\ Po K H' c u l BIG /\ ∃ (zs : List V) (o7 o8 : Option V), σ' = [some (.ref a), some (.ref b), some (.int β), some (.int L), some (.ref t3), some c, some d, o7, o8] /\ H' t3 = some (.lst zs) /\ zs.length = i + 1 /\ ∀ j, j < i + 1 -> Po K H' (zs.getD j .non) (T j) (2 * l) (2 * BIG)) ?_ ?_ ?_ ?_
    . refine ⟨(s3.trans s4).trans s5, s5.tup h4, h5, ic3.mono (s4.trans s5), [z0], _, _, rfl, (s4.trans s5) _ _ g3, rfl, fun j hj => ?_⟩
      have : j = 0 := by omega
      subst this
      exact i0.mono (s4.trans s5)
    . rintro i σ' H' ⟨_, x1, x2, _⟩
      exact ⟨x1, x2⟩
    . rintro i σ' H6 p6 hi ⟨s6, x1, x2, ic6, zs, o7, o8, rfl, g6, hzl, hz⟩ hp6
      refine Ka (.of Af) ?_
      have s7 := Same.upd hp6 (.tup [(vs.drop 1).getD i .non, (ws.drop 1).getD i .non])
      have ev : (vs.drop 1).getD i .non = vs.getD (i + 1) .non := by
        rw [List.getD_eq_getElem?_getD, List.getD_eq_getElem?_getD, List.getElem?_drop, Nat.add_comm]
      have ew : (ws.drop 1).getD i .non = ws.getD (i + 1) .non := by
        rw [List.getD_eq_getElem?_getD, List.getD_eq_getElem?_getD, List.getElem?_drop, Nat.add_comm]
      rw [ev, ew] at s7 ⊢
      generalize upd H6 p6 (.tup [vs.getD (i + 1) .non, ws.getD (i + 1) .non]) = H7 at *
      have iu := (hv (i + 1) (by omega)).mono (s6.trans s7)
      have iw := (hw (i + 1) (by omega)).mono (s6.trans s7)
      have g7 := s7 _ _ g6
      try contradiction
      refine ⟨.inl ⟨rfl, _, .of g7⟩, ?_⟩
      refine ⟨_, L, fs.getD (i + 1) [], l, n, _, rfl, iu, LS, by omega, by omega, fun w1 H8 s8 i8 => ?_⟩
      try contradiction
      refine ⟨c, _, u, gs.getD (i + 1) [], l, l, BIG, n, rfl, ic6.mono (s7.trans s8), iw.mono s8, by omega, by omega, by omega, fun w2 H9 s9 i9 => ?_⟩
      try contradiction
      refine ⟨w1, w2, _, _, _, _, _, _, rfl, i8.mono s9, i9, by omega, by omega, by omega, fun w3 Ha sa ia => ?_⟩
      try contradiction
      have er : ta (ng (fs.getD (i + 1) []) L) (ng (tm u (gs.getD (i + 1) [])) (-1)) = trim (al ((fs.getD (i + 1) []).map (L * ·)) ((ml u (gs.getD (i + 1) [])).map (-1 * ·))) := (Xr _ _).ext (Bo _) fun t => by
        rw [R0, Qj, Ss, Ss, Fo]
        grind
      obtain ⟨⟨wr, rfl, hwr⟩, tr, lr, zr⟩ := id ia
      have dv : ∀ t, β ∣ co (ta (ng (fs.getD (i + 1) []) L) (ng (tm u (gs.getD (i + 1) [])) (-1))) t := fun t => by rw [er, R0]; exact ex' (i + 1) (by omega) t
      refine ⟨wr, _, β, rfl, hwr, by omega, fun _ => ⟨β0, βz⟩, fun z Hb sb hb' => ?_⟩
      have t7 := ((s8.trans s9).trans sa).trans sb
      have gb := t7 _ _ g7
      try contradiction
      refine ⟨t3, _, _, rfl, rfl, gb, by rw [hzl]; exact Nat.lt_of_lt_of_le (show i + 1 < 1000 by omega) (by decide), ?_⟩
      have nT := ((s6.trans s7).trans t7)
      have sput : Same H (upd Hb t3 (.lst (zs ++ [V.ref z]))) := nT.put nt3
      have keep : ∀ {v : V} {f : List Int} {x y : Nat}, Po K Hb v f x y -> Po K (upd Hb t3 (.lst (zs ++ [V.ref z]))) v f x y := fun h => ⟨by
        obtain ⟨q, e, t⟩ := h.1
        exact ⟨q, e, Q9 t gb⟩, h.2⟩
      have eT : T (i + 1) = (ta (ng (fs.getD (i + 1) []) L) (ng (tm u (gs.getD (i + 1) [])) (-1))).map fun x => x.fdiv β := by rw [hT, er]
      refine ⟨sput, Q9 ((s7.trans t7).tup x1) gb, Q9 ((s7.trans t7).tup x2) gb, keep (ic6.mono (s7.trans t7)), zs ++ [V.ref z], _, _, rfl, Af, by rw [List.length_append, hzl]; rfl, fun j hj => ?_⟩
      by_cases hj2 : j = i + 1
      . subst hj2
        have e1 : (zs ++ [V.ref z]).getD (i + 1) .non = V.ref z := by
          rw [List.getD_eq_getElem?_getD, List.getElem?_append_right (by omega), hzl, Nat.sub_self]
          rfl
        rw [e1]
        refine keep ⟨⟨z, rfl, by rw [eT]; exact hb'⟩, by rw [eT]; exact Wv β0 tr dv, by rw [eT, List.length_map]; omega, fun t => ?_⟩
        rw [eT, Nv]
        exact (Xa β0 (dv t) (zr t)).mono (by omega)
      . have e1 : (zs ++ [V.ref z]).getD j .non = zs.getD j .non := by
          rw [List.getD_eq_getElem?_getD, List.getElem?_append_left (by omega), <- List.getD_eq_getElem?_getD]
        rw [e1]
        exact keep ((hz j (by omega)).mono (s7.trans t7))
    . rintro σ' H6 ⟨s6, _, _, _, zs, o7, o8, rfl, g6, hzl, hz⟩
      exact hN _ _ ⟨s6, zs, o7, o8, rfl, g6, by omega, fun j hj => hz j (by omega)⟩
  rintro σ H4 ⟨s4, zs, o7, o8, rfl, g4, hzl, hz⟩
  contradiction
  refine ⟨t3, zs, rfl, .inl ⟨.of g4, fun z hz' => ?_⟩⟩
  have s5 := Same.upd hz' (.tup zs)
  refine k _ _ ((List.range fs.length).map T) u r (s4.trans s5) ⟨z, zs, rfl, .of Af, by rw [List.length_map, List.length_range]; exact hzl, fun j hj => ?_⟩ (by rw [List.length_map, List.length_range]) (by rw [<- hL]; exact he) hlr hlu fun j hj i => ?_
  . rw [List.length_map, List.length_range] at hj
    have e : ((List.range fs.length).map T).getD j [] = T j := by
      rw [List.getD_eq_getElem?_getD, List.getElem?_map, List.getElem?_range hj]
      rfl
    rw [e]
    exact (hz j hj).mono s5
  . have e : ((List.range fs.length).map T).getD j [] = T j := by
      rw [List.getD_eq_getElem?_getD, List.getElem?_map, List.getElem?_range hj]
      rfl
    rw [e, <- hL, Tco j hj i]
    omega
def Lx (fs : List (List Int)) : Nat -> Nat -> Int := fun c i => co (fs.getD c []) i
def Keeps (s : Nat) (B : List (List Int) -> Prop) : Prop := ∀ (f g t : List (List Int)) (u : List Int) (L β : Int), β ≠ 0 -> f.length = s -> g.length = s -> t.length = s -> B f -> B g -> (∀ c, c < s -> ∀ i, L * co (f.getD c []) i = β * co (t.getD c []) i + mu u (co (g.getD c [])) i) -> B t
def LrR (K : PySem.W.Frag) (p q : List Int) (s l b : Nat) (B : List (List Int) -> Prop) (Q : VK) (H : Hp) : Prop := ∀ (z : V) (H' : Hp) (hs : List (List Int)), Same H H' -> Rw K H' z hs (2 * l) ((b + 6) * (2 * l) + 1) -> hs.length = s -> Gc p q (pln (hs.getD 0 [])) -> B hs -> Q z H'
def Alo (K : PySem.W.Frag) (cnd : Nat -> Nat -> Prop) : Sp := fun vs H Q _ => ∃ (x y : V) (fs gs : List (List Int)) (l b : Nat) (B : List (List Int) -> Prop), vs = [x, y] /\ Rw K H x fs l b /\ Rw K H y gs l b /\ gs.length = fs.length /\ 1 <= fs.length /\ fs.length <= 3 /\ l <= 30 /\ 1 <= l /\ 1 <= b /\ (4 * l + l * l) * (b + 6) + 4 * l + 10 <= 15000 /\ B fs /\ B gs /\ Keeps fs.length B /\ cnd (fs.getD 0 []).length (gs.getD 0 []).length /\ LrR K (fs.getD 0 []) (gs.getD 0 []) fs.length l b B Q H
def Ve (K : PySem.W.Frag) : Sp := Alo K fun x y => y <= x
def Rm (K : PySem.W.Frag) : Sp := Alo K fun _ _ => True
theorem RwV.weak {H : Hp} {vs : List V} {fs : List (List Int)} {l n l2 n2 : Nat} (h : RwV K H vs fs l n) (h1 : l <= l2) (h2 : n <= n2) : RwV K H vs fs l2 n2 := ⟨h.1, fun c hc => ⟨(h.2 c hc).1, (h.2 c hc).2.1, Nat.le_trans (h.2 c hc).2.2.1 h1, fun i => ((h.2 c hc).2.2.2 i).mono h2⟩⟩
theorem Rw.weak {H : Hp} {x : V} {fs : List (List Int)} {l n l2 n2 : Nat} (h : Rw K H x fs l n) (h1 : l <= l2) (h2 : n <= n2) : Rw K H x fs l2 n2 := by
  obtain ⟨a, vs, e, t, r⟩ := h
  exact ⟨a, vs, e, t, r.weak h1 h2⟩
theorem Rw.abs {H : Hp} {x : V} {fs : List (List Int)} {l n : Nat} (h : Rw K H x fs l n) (c i : Nat) : (Lx fs c i).natAbs <= 2 ^ n := by
  obtain ⟨a, vs, e, t, r⟩ := h
  unfold Lx
  by_cases hc : c < fs.length
  . exact Nat.le_of_lt ((r.2 c hc).2.2.2 i)
  . rw [List.getD_eq_getElem?_getD, List.getElem?_eq_none (by omega)]
    show (co [] i).natAbs <= _
    rw [Bu]
    simp
theorem Rw.top {H : Hp} {x : V} {fs : List (List Int)} {l n : Nat} (h : Rw K H x fs l n) (c i : Nat) (hi : l <= i) : Lx fs c i = 0 := by
  obtain ⟨a, vs, e, t, r⟩ := h
  unfold Lx
  by_cases hc : c < fs.length
  . exact Bl (Nat.le_trans (r.2 c hc).2.2.1 hi)
  . rw [List.getD_eq_getElem?_getD, List.getElem?_eq_none (by omega)]
    exact Bu i
theorem Rw.first {H : Hp} {x : V} {fs : List (List Int)} {l n : Nat} (h : Rw K H x fs l n) (h1 : 1 <= fs.length) : ∃ a vs, x = .ref a /\ SqT K H a vs /\ atI vs 0 = some (vs.getD 0 .non) /\ Po K H (vs.getD 0 .non) (fs.getD 0 []) l n := by
  obtain ⟨a, vs, e, t, r⟩ := h
  exact ⟨a, vs, e, t, getD_at (j := 0) (by have := r.1; omega), r.2 0 (by omega)⟩
theorem Uy (fs : List (List Int)) {n : Nat} (h : (fs.getD 0 []).length <= n) : Dg (Lx fs) n := fun i hi => Bl (by omega)
theorem Ahd (u : List Int) (i : Nat) : mu u (co []) i = 0 := by
  have : mu u (fun _ => 0) i = 0 := congrFun (Q8 u) i
  rw [<- this]
  exact Vp (fun k => Bu k) u i
theorem T8 {fs : List (List Int)} {c : Nat} (h : fs.length <= c) : fs.getD c [] = [] := by
  rw [List.getD_eq_getElem?_getD, List.getElem?_eq_none h]
  rfl
theorem Ajs {f g t : List (List Int)} {u : List Int} {L β : Int} {s : Nat} (hf : f.length = s) (hg : g.length = s) (ht : t.length = s) (h : ∀ c, c < s -> ∀ i, L * co (f.getD c []) i = β * co (t.getD c []) i + mu u (co (g.getD c [])) i) (c i : Nat) : L * Lx f c i = β * Lx t c i + mu u (Lx g c) i := by
  by_cases hc : c < s
  . exact h c hc i
  . unfold Lx
    rw [T8 (fs := f) (by omega), T8 (fs := t) (by omega), T8 (fs := g) (by omega), Bu, Ahd]
    simp
theorem Vn {F1 F2 : Nat -> Nat -> Int} {n1 n2 : Nat} {f g : List (List Int)} {l h : Int} {s : Nat} (hf : f.length = s) (hg : g.length = s) (ch : Chn F1 n1 F2 n2 (Lx f) ((f.getD 0 []).length - 1) (Lx g) ((g.getD 0 []).length - 1) l h) (tg : Tr (g.getD 0 [])) (g2 : 2 <= (g.getD 0 []).length) (hle : (g.getD 0 []).length <= (f.getD 0 []).length) {u r : List Int}
    (he : ∀ k, co (g.getD 0 []) ((g.getD 0 []).length - 1) ^ ((f.getD 0 []).length - (g.getD 0 []).length + 1) * co (f.getD 0 []) k = mu u (co (g.getD 0 [])) k + co r k) (hr : r.length < (g.getD 0 []).length) (hu : u.length <= (f.getD 0 []).length - (g.getD 0 []).length + 1) :
    ∃ e, Sg e /\ ∀ c i, co (g.getD 0 []) ((g.getD 0 []).length - 1) ^ ((f.getD 0 []).length - (g.getD 0 []).length + 1) * Lx f c i - mu u (Lx g c) i = l * h ^ ((f.getD 0 []).length - (g.getD 0 []).length) * (e * Sr ((g.getD 0 []).length - 1 - 1) F1 n1 F2 n2 (c, i)) := by
  have ng : g.getD 0 [] ≠ [] := fun z => by rw [z] at g2; exact absurd g2 (by decide)
  have e0 : (f.getD 0 []).length - 1 - ((g.getD 0 []).length - 1) = (f.getD 0 []).length - (g.getD 0 []).length := by omega
  have z := ch.rest (R := fun c i => co (g.getD 0 []) ((g.getD 0 []).length - 1) ^ ((f.getD 0 []).length - (g.getD 0 []).length + 1) * Lx f c i - mu u (Lx g c) i) (q := u) (Uy g (by omega)) (fun i hi => by
      show _ * co (f.getD 0 []) i - mu u (co (g.getD 0 [])) i = 0
      rw [he, Bl (p := r) (by omega)]
      omega) (by omega) (by omega) (by omega) (tg.lead ng) (fun c i => by
      rw [e0]
      show co (g.getD 0 []) ((g.getD 0 []).length - 1) ^ _ * _ = _
      omega)
  rw [e0] at z
  exact z
theorem V8 {f : Addr} {fd : FuncData} (F : Df K mg "last_row" Ky ["first", "second"] f fd)   (c_degree : Cal P w K mg base 1 "degree" ["one"] (Gd K)) (c_next_row : Cal P w K mg base 6 "next_row" ["first", "second", "known"] (Lg K)) (c_whole_power : Cal P w K mg base 4 "whole_power" ["number", "many"] (Fw K)) : Sd P w K mg base CX0 7 f fd ["first", "second"] (Ve K) := by
  refine F.fn.ok Bd (fun vs H Q E h => ?_) (fun cdv A outer s H vs Q E hr h => ?_)
  . obtain ⟨x, y, fs, gs, _, _, _, rfl, _⟩ := h
    rfl
  obtain ⟨x, y, fs, gs, l, b, B, rfl, hx, hy, hgl, hf1, hf3, hl30, hl1, hb1, hcond, bf, bg, Kp, hcn, k⟩ := h
  obtain ⟨ax, vx, ex, tx, atx, hx0⟩ := hx.first (by omega)
  obtain ⟨ay, vy, ey, ty, aty, hy0⟩ := hy.first (by omega)
  refine S.Ay ⟨_, (S.Ad (S.Ca (S.Aj Nt (S.Am c_degree (hr.mono (by decide)) (S.Aa (S.Az Av (S.pv 0) S.Ab (fun _ _ => rfl)) S.Ac)) (S.Am c_degree (hr.mono (by decide)) (S.Aa (S.Az Av (S.pv 1) S.Ab (fun _ _ => rfl)) S.Ac)) (Ak _)) (S.Ae S.Oz) S.Ax)
      (S.Ad (S.Ai (i := 2) Bd.nd rfl (Or.inl rfl) S.Ab)
      (S.Ad (S.Ai (i := 3) Bd.nd rfl (Or.inl rfl) S.Ab)
      (S.Ad (S.Fp PassesOwn.never (S.Aj Nu (S.Am c_degree (hr.mono (by decide)) (S.Aa (S.Az Av (S.pv 1) S.Ab (fun _ _ => rfl)) S.Ac)) S.Ab (Ak _)) (S.Ad (S.Ai (i := 4) Bd.nd rfl (Or.inl rfl) (S.Ah Dd (S.Am c_degree (hr.mono (by decide)) (S.Aa (S.Az Av (S.pv 0) S.Ab (fun _ _ => rfl)) S.Ac)) (S.Am c_degree (hr.mono (by decide)) (S.Aa (S.Az Av (S.pv 1) S.Ab (fun _ _ => rfl)) S.Ac))))
      (S.Ad (S.Ai (i := 5) Bd.nd rfl (Or.inl rfl) (S.Ah Bb (S.pv 2) (S.Am c_whole_power (hr.mono (by decide)) (S.Aa (S.pv 3) (S.Aa (S.pv 4) S.Ac)))))
      (S.Ad (S.Ai (i := 6) Bd.nd rfl (Or.inl rfl) (S.Am c_next_row (hr.mono (by decide)) (S.Aa (S.pv 0) (S.Aa (S.pv 1) (S.Aa (S.pv 5) S.Ac)))))
      (S.Ad (S.Ai (i := 2) Bd.nd rfl (Or.inl rfl) (S.Az Av (S.Az Av (S.pv 1) S.Ab (fun _ _ => rfl)) (S.Dp Bt S.Ab) (fun _ _ => rfl)))
      (S.Ad (S.Ca (S.Aj Nu (S.pv 4) S.Ab (Ak _)) (S.Ae (S.Ai (i := 3) Bd.nd rfl (Or.inl rfl) (S.Ah Ip (S.Am c_whole_power (hr.mono (by decide)) (S.Aa (S.pv 2) (S.Aa (S.pv 4) S.Ac))) (S.Am c_whole_power (hr.mono (by decide)) (S.Aa (S.pv 3) (S.Aa (S.Ah Dd (S.pv 4) S.Ab) S.Ac)))))) S.Ax)
      (S.Ae (S.Ks (i := 0) (j := 1) rfl Bd.nd rfl rfl (by decide) rfl rfl (S.Aa (S.pv 1) (S.Aa (S.pv 6) S.Ac)) rfl))))))))
      (S.Ae (S.Al (S.K1 (S.Aj (Iu hr.units) (S.Az Av (S.pv 1) S.Ab (fun _ _ => rfl)) (S.Aw S.Ac) (Ak _)) (S.pv 0) (S.pv 1)))))))), ?_⟩
  refine Ba (fun σ' H' => Same H H' /\ σ' = [some x, some y, none, none, none, none, none]) (fun N hN => ?_) ?_
  . contradiction
    rw [ex, ey] at hN ⊢
    refine Dn tx atx (Di hx0 (Same.refl _) ?_)
    try contradiction
    refine Dn ty aty (Di hy0 (Same.refl _) ?_)
    try contradiction
    rw [if_neg (by have : (gs.getD 0 []).length <= (fs.getD 0 []).length := hcn; omega)]
    exact hN _ _ ⟨Same.refl _, rfl⟩
  rintro σ H1 ⟨s1, rfl⟩
  clear ex ey tx ty
  obtain ⟨N, hN⟩ : ∃ N, N = (b + 6) * (2 * l) + 1 := ⟨_, rfl⟩
  have hNb : N <= 8000 := by
    have : (4 * l) * (b + 6) <= (4 * l + l * l) * (b + 6) := Nat.mul_le_mul_right _ (Nat.le_add_right _ _)
    have e : (4 * l) * (b + 6) = 2 * ((b + 6) * (2 * l)) := by grind
    omega
  have kb : ∀ x st : Nat, x <= (fs.getD 0 []).length - 1 -> st <= x -> N + st * ((b + 6) * ((fs.getD 0 []).length - 1 + ((gs.getD 0 []).length - 1) - 2 * x) + 1) + 3 <= 8000 := fun x st hx hst => by
    have lf := (hx0.2.2.1)
    have lg := (hy0.2.2.1)
    have z := Z2 (l := l) (b := b) (n1 := (fs.getD 0 []).length - 1) (n2 := (gs.getD 0 []).length - 1) (x := x) (s := st) (by omega) (by omega) hx hst
    have e : (4 * l + l * l) * (b + 6) = 2 * ((b + 6) * (2 * l)) + l * l * (b + 6) := by grind
    omega
  have LB : b <= N := by
    have : (b + 6) * 1 <= (b + 6) * (2 * l) := Nat.mul_le_mul_left _ (by omega)
    omega
  refine Ba (fun σ' H' => H1 = H' /\ σ' = [some x, some y, some (.int 1), none, none, none, none]) (fun N hN => ?_) ?_
  . contradiction
    exact hN _ _ ⟨rfl, rfl⟩
  rintro σ H2 ⟨rfl, rfl⟩
  refine Ba (fun σ' H' => H1 = H' /\ σ' = [some x, some y, some (.int 1), some (.int 1), none, none, none]) (fun N hN => ?_) ?_
  . contradiction
    exact hN _ _ ⟨rfl, rfl⟩
  rintro σ H2 ⟨rfl, rfl⟩
  refine Ba (fun σ' H' => Same H1 H' /\ ∃ (v w : V) (f g : List (List Int)) (o2 o3 o4 o5 o6 : Option V), σ' = [some v, some w, o2, o3, o4, o5, o6] /\ Rw K H' v f (2 * l) N /\ Rw K H' w g (2 * l) N /\ f.length = fs.length /\ g.length = fs.length /\ (g.getD 0 []).length < 2 /\ Lj (f.getD 0 []) (g.getD 0 []) (fs.getD 0 []) (gs.getD 0 []) /\ B f /\ B g) (fun M hM => ?_) ?_
  . contradiction
    refine Uu (fun m σ' H' => Same H1 H' /\ ∃ (v w : V) (f g : List (List Int)) (ld ht : Int) (o4 o5 o6 : Option V), σ' = [some v, some w, some (.int ld), some (.int ht), o4, o5, o6] /\ m = (g.getD 0 []).length /\ Rw K H' v f (2 * l) N /\ Rw K H' w g (2 * l) N /\ f.length = fs.length /\ g.length = fs.length /\ (g.getD 0 []).length <= (f.getD 0 []).length /\ (f.getD 0 []).length <= (fs.getD 0 []).length /\ (g.getD 0 []).length <= (gs.getD 0 []).length /\ ld ≠ 0 /\ Sz N ld /\ ht ≠ 0 /\ Sz ((b + 6) * ((fs.getD 0 []).length - 1 + ((gs.getD 0 []).length - 1) - 2 * ((f.getD 0 []).length - 1)) + 1) ht /\
        (g.getD 0 [] ≠ [] -> Chn (Lx fs) ((fs.getD 0 []).length - 1) (Lx gs) ((gs.getD 0 []).length - 1) (Lx f) ((f.getD 0 []).length - 1) (Lx g) ((g.getD 0 []).length - 1) ld ht) /\ Lj (f.getD 0 []) (g.getD 0 []) (fs.getD 0 []) (gs.getD 0 []) /\ B f /\ B g) _
      ⟨Same.refl _, x, y, fs, gs, 1, 1, _, _, _, rfl, rfl, (hx.mono s1).weak (by omega) LB, (hy.mono s1).weak (by omega) LB, rfl, hgl, hcn, Nat.le_refl _, Nat.le_refl _, by decide, (show Sz 1 (1 : Int) by unfold Sz; decide).mono (by omega), by decide, (show Sz 1 (1 : Int) by unfold Sz; decide).mono (by omega), fun _ => Chn.start _ _ _ _, Lj.refl _ _, bf, bg⟩ ?_
    rintro m σ' H3 ⟨s3, v, w, f, g, ld, ht, o4, o5, o6, rfl, rfl, iv, iw, lf, lg, hle, hfl, hgle, ld0, zld, ht0, zht, ch, sm, Bf, Bg⟩
    obtain ⟨av, vv, rfl, tv, atv, pv0⟩ := iv.first (by omega)
    obtain ⟨aw, vw, rfl, tw, atw, pw0⟩ := iw.first (by omega)
    contradiction
    refine Dn tw atw (Di pw0 (Same.refl _) ?_)
    try contradiction
    by_cases hg2 : (0 : Int) < ((g.getD 0 []).length : Int) - 1
    case neg =>
      rw [if_neg hg2]
      exact hM _ _ ⟨s3, _, _, f, g, _, _, _, _, _, rfl, iv, iw, lf, lg, by omega, sm, Bf, Bg⟩
    rw [if_pos hg2]
    have g2 : 2 <= (g.getD 0 []).length := by omega
    have gn : g.getD 0 [] ≠ [] := fun z => by rw [z] at g2; exact absurd g2 (by decide)
    replace ch := ch gn
    obtain ⟨δ, hδ⟩ : ∃ δ, δ = (f.getD 0 []).length - (g.getD 0 []).length := ⟨_, rfl⟩
    obtain ⟨lg0, hlg0⟩ : ∃ x, x = co (g.getD 0 []) ((g.getD 0 []).length - 1) := ⟨_, rfl⟩
    have lgn : lg0 ≠ 0 := by rw [hlg0]; exact pw0.2.1.lead gn
    have lfl := hx0.2.2.1
    have bits := kb ((f.getD 0 []).length - 1) δ (by omega) (by omega)
    have pz := Yt zht δ
    have bz : Sz 8000 (ld * ht ^ δ) := (zld.mul pz).mono (by
      rw [Nat.mul_comm _ δ]
      omega)
    have bne : ld * ht ^ δ ≠ 0 := Int.mul_ne_zero ld0 (Mq ht0 _)
    have hbz : (b + 6) * ((fs.getD 0 []).length - 1 + ((gs.getD 0 []).length - 1) - 2 * ((f.getD 0 []).length - 1)) <= (b + 6) * (2 * l) := Nat.mul_le_mul_left _ (by have := hy0.2.2.1; omega)
    refine Ad0 ?_
    refine Ba (fun σ' H' => H' = H3 /\ σ' = [some (.ref av), some (.ref aw), some (.int ld), some (.int ht), some (.int (δ : Nat)), o5, o6]) (fun N hN => ?_) ?_
    . contradiction
      refine Dn tv atv (Di pv0 (Same.refl _) ?_)
      try contradiction
      refine Dn tw atw (Di pw0 (Same.refl _) ?_)
      try contradiction
      have e : ((f.getD 0 []).length : Int) - 1 - (((g.getD 0 []).length : Int) - 1) = (δ : Nat) := by omega
      rw [e]
      exact hN _ _ ⟨rfl, rfl⟩
    rintro σ' H4 ⟨rfl, rfl⟩
    refine Ba (fun σ' H' => Same H4 H' /\ σ' = [some (.ref av), some (.ref aw), some (.int ld), some (.int ht), some (.int (δ : Nat)), some (.int (ld * ht ^ δ)), o6]) (fun M' hM' => ?_) ?_
    . contradiction
      refine X8 rfl ht0 zht (by omega) (by omega) fun H' s' => ?_
      try contradiction
      exact ⟨zld.mulOk pz (by rw [Nat.mul_comm _ δ]; omega), hM' _ _ ⟨s', rfl⟩⟩
    rintro σ' H5 ⟨s5, rfl⟩
    refine Ba (fun σ' H' => Same H4 H' /\ ∃ (t : V) (ts : List (List Int)) (u r : List Int) (e : Int), σ' = [some (.ref av), some (.ref aw), some (.int ld), some (.int ht), some (.int (δ : Nat)), some (.int (ld * ht ^ δ)), some t] /\ Rw K H' t ts (2 * l) N /\ ts.length = fs.length /\ (ts.getD 0 []).length < (g.getD 0 []).length /\ u.length <= δ + 1 /\ (∀ c, c < fs.length -> ∀ i, lg0 ^ (δ + 1) * co (f.getD c []) i = ld * ht ^ δ * co (ts.getD c []) i + mu u (co (g.getD c [])) i)) (fun M' hM' => ?_) ?_
    . contradiction
      refine ⟨_, _, _, f, g, 2 * l, N, rfl, iv.mono s5, iw.mono s5, by omega, by omega, by omega, by omega, hNb, gn, hle, by omega, bne, bz, fun u r he hr hu c hc i => ?_, fun z H6 ts u r s6 iz lz he hr hu hco => ?_⟩
      . obtain ⟨e, _, hex⟩ := Vn lf lg ch pw0.2.1 g2 hle he hr hu
        have := hex c i
        unfold Lx at this
        rw [this, <- hδ]
        exact ⟨_, rfl⟩
      . obtain ⟨e, hse, hex⟩ := Vn lf lg ch pw0.2.1 g2 hle he hr hu
        rw [<- hδ, <- hlg0] at hex hco
        have Tv : ∀ c, c < fs.length -> ∀ i, co (ts.getD c []) i = e * Sr ((g.getD 0 []).length - 1 - 1) (Lx fs) ((fs.getD 0 []).length - 1) (Lx gs) ((gs.getD 0 []).length - 1) (c, i) := fun c hc i => by
          have h1 : lg0 ^ (δ + 1) * co (f.getD c []) i - mu u (co (g.getD c [])) i = _ := hex c i
          have h2 := hco c (by omega) i
          refine Int.eq_of_mul_eq_mul_left bne (Eq.trans ?_ h1)
          omega
        have ab : ∀ c i, (Sr ((g.getD 0 []).length - 1 - 1) (Lx fs) ((fs.getD 0 []).length - 1) (Lx gs) ((gs.getD 0 []).length - 1) (c, i)).natAbs <= 2 ^ ((b + 6) * (2 * l)) := fun c i => by
          have hlg' := hy0.2.2.1
          refine Nat.le_trans (Afp hx.abs hy.abs (by omega) (by omega) (by omega) (c, i)) (Nat.pow_le_pow_right (by decide) (Nat.mul_le_mul_left _ (by omega)))
        obtain ⟨az, vz, rfl, tz, lvz, pz'⟩ := iz
        refine hM' _ _ ⟨s5.trans s6, _, ts, u, r, e, rfl, ⟨az, vz, rfl, tz, lvz, fun c hc => ?_⟩, by omega, ?_, by omega, fun c hc i => hco c (by omega) i⟩
        . have hp := pz' c hc
          refine ⟨hp.1, hp.2.1, ?_, fun i => ?_⟩
          . have h := hp.2.1.len (q := (ts.getD c []).take (2 * l)) fun i => by
              rw [Kr]
              split
              . rfl
              . rw [Tv c (by omega), Aif (l := l) hx.top hy.top (by have := hx0.2.2.1; omega) (by have := hy0.2.2.1; omega) c i (by omega), Int.mul_zero]
            rw [List.length_take] at h
            omega
          . rw [Tv c (by omega)]
            unfold Sz
            rw [Int.natAbs_mul]
            have : e.natAbs = 1 := by rcases hse with rfl | rfl <;> rfl
            rw [this, Nat.one_mul, hN]
            exact Nat.lt_of_le_of_lt (ab c i) (Nat.pow_lt_pow_right (by decide) (by omega))
        . have hp := (pz' 0 (by omega)).2.1
          have h := hp.len (q := (ts.getD 0 []).take r.length) fun i => by
            rw [Kr]
            split
            . rfl
            . have h1 := hco 0 (by omega) i
              have h2 := he i
              rw [<- hδ, <- hlg0, Bl (p := r) (by omega)] at h2
              have : ld * ht ^ δ * co (ts.getD 0 []) i = 0 := by omega
              rcases Int.mul_eq_zero.mp this with z | z
              . exact absurd z bne
              . exact z
          rw [List.length_take] at h
          omega
    rintro σ' H6 ⟨s6, t, ts, u, r, e, rfl, it, lt, hlt, hu, hco⟩
    refine Ba (fun σ' H' => H' = H6 /\ σ' = [some (.ref av), some (.ref aw), some (.int lg0), some (.int ht), some (.int (δ : Nat)), some (.int (ld * ht ^ δ)), some t]) (fun M' hM' => ?_) ?_
    . contradiction
      obtain ⟨⟨b0, eb0, hb0⟩, _⟩ := id pw0
      refine Dn (s6.tup tw) atw ?_
      rw [eb0]
      refine Dn (s6.tup hb0) (G8 gn) ?_
      try contradiction
      rw [<- hlg0]
      exact hM' _ _ ⟨rfl, rfl⟩
    rintro σ' H7 ⟨rfl, rfl⟩
    have zlg : Sz N lg0 := by rw [hlg0]; exact pw0.2.2.2 _
    refine Ba (fun σ' H' => Same H7 H' /\ ∃ h' : Int, σ' = [some (.ref av), some (.ref aw), some (.int lg0), some (.int h'), some (.int (δ : Nat)), some (.int (ld * ht ^ δ)), some t] /\ h' ≠ 0 /\ Sz ((b + 6) * ((fs.getD 0 []).length - 1 + ((gs.getD 0 []).length - 1) - 2 * ((g.getD 0 []).length - 1)) + 1) h' /\ (((f.getD 0 []).length - 1 = (g.getD 0 []).length - 1 /\ h' = ht) \/ ((g.getD 0 []).length - 1 < (f.getD 0 []).length - 1 /\ ht ^ ((f.getD 0 []).length - 1 - ((g.getD 0 []).length - 1) - 1) * h' = lg0 ^ ((f.getD 0 []).length - 1 - ((g.getD 0 []).length - 1))))) (fun M' hM' => ?_) ?_
    . contradiction
      by_cases hd0 : (0 : Int) < (δ : Nat)
      . rw [if_pos hd0]
        obtain ⟨e2, he2, hh⟩ := ch.height (Uy g (by omega)) (by omega)
        have hlt' := hy0.2.2.1
        have hz' : Sz ((b + 6) * ((fs.getD 0 []).length - 1 + ((gs.getD 0 []).length - 1) - 2 * ((g.getD 0 []).length - 1)) + 1) (e2 * Sr ((g.getD 0 []).length - 1) (Lx fs) ((fs.getD 0 []).length - 1) (Lx gs) ((gs.getD 0 []).length - 1) (0, (g.getD 0 []).length - 1)) := by
          unfold Sz
          rw [Int.natAbs_mul]
          have : e2.natAbs = 1 := by rcases he2 with rfl | rfl <;> rfl
          rw [this, Nat.one_mul]
          exact Nat.lt_of_le_of_lt (Afp hx.abs hy.abs (by omega) (by omega) (by omega) _) (Nat.pow_lt_pow_right (by decide) (by omega))
        generalize e2 * Sr ((g.getD 0 []).length - 1) (Lx fs) ((fs.getD 0 []).length - 1) (Lx gs) ((gs.getD 0 []).length - 1) (0, (g.getD 0 []).length - 1) = h' at *
        have hh' : ht ^ ((f.getD 0 []).length - 1 - ((g.getD 0 []).length - 1) - 1) * h' = lg0 ^ ((f.getD 0 []).length - 1 - ((g.getD 0 []).length - 1)) := by rw [hlg0]; exact hh
        have ed : (f.getD 0 []).length - 1 - ((g.getD 0 []).length - 1) = δ := by omega
        have h'n : h' ≠ 0 := fun z => by
          rw [z, Int.mul_zero] at hh'
          exact Mq lgn _ hh'.symm
        have pz1 := Yt zht (δ - 1)
        have hpn := Mq ht0 (δ - 1)
        have pb : (δ - 1) * ((b + 6) * ((fs.getD 0 []).length - 1 + ((gs.getD 0 []).length - 1) - 2 * ((f.getD 0 []).length - 1)) + 1) <= δ * ((b + 6) * ((fs.getD 0 []).length - 1 + ((gs.getD 0 []).length - 1) - 2 * ((f.getD 0 []).length - 1)) + 1) := Nat.mul_le_mul_right _ (by omega)
        refine X8 rfl lgn zlg (by omega) (by omega) fun Ha sa => ?_
        try contradiction
        refine X8 (m := δ - 1) (by omega) ht0 zht (by omega) (by omega) fun Hb sb => ?_
        try contradiction
        refine ⟨⟨hpn, pz1.log2 hpn (by rw [Nat.mul_comm _ (δ - 1)]; omega)⟩, ?_⟩
        have ef : (lg0 ^ δ).fdiv (ht ^ (δ - 1)) = h' := by
          rw [ed] at hh'
          rw [<- hh', Int.mul_fdiv_cancel_left _ hpn]
        rw [ef]
        exact hM' _ _ ⟨sa.trans sb, h', rfl, h'n, hz', .inr ⟨by omega, hh'⟩⟩
      . rw [if_neg hd0]
        have el : (f.getD 0 []).length = (g.getD 0 []).length := by omega
        refine hM' _ _ ⟨Same.refl _, ht, rfl, ht0, ?_, .inl ⟨by omega, rfl⟩⟩
        rw [<- el]
        exact zht
    rintro σ' H8 ⟨s8, h', rfl, h'n, zh', hh⟩
    contradiction
    refine ⟨(ts.getD 0 []).length, hlt, s3.trans (s6.trans s8), .ref aw, t, g, ts, lg0, h', _, _, _, rfl, rfl, iw.mono (s6.trans s8), it.mono s8, lg, lt, by omega, by omega, by omega, lgn, zlg, h'n, zh', fun tn => ?_, ?_, Bg, ?_⟩
    . have := ch.next (T := Lx ts) (k := (ts.getD 0 []).length - 1) (q := u) (h' := h') (Uy g (by omega)) (Uy ts (by omega)) (by omega) (by omega) (by have := List.length_pos_iff.mpr tn; omega) (by show co (g.getD 0 []) _ ≠ 0; rw [<- hlg0]; exact lgn) ld0 ht0 (fun c i => ?_) (by
        rcases hh with z | z
        . exact .inl z
        . exact .inr ⟨z.1, by show _ = co (g.getD 0 []) _ ^ _; rw [<- hlg0]; exact z.2⟩)
      . show Chn _ _ _ _ (Lx g) _ (Lx ts) _ lg0 h'
        rw [hlg0]
        exact this
      . have ed : (f.getD 0 []).length - 1 - ((g.getD 0 []).length - 1) = δ := by omega
        rw [ed]
        show co (g.getD 0 []) _ ^ _ * _ = _
        rw [<- hlg0]
        exact Ajs lf lg lt hco c i
    . refine Lj.trans (Tw (Mq lgn (δ + 1)) bne (hco 0 (by omega))) sm
    . exact Kp f g ts u _ _ bne lf lg lt Bf Bg hco
  rintro σ H3 ⟨s3, v, w, f, g, o2, o3, o4, o5, o6, rfl, iv, iw, lf, lg, hg2, sm, Bf, Bg⟩
  obtain ⟨av, vv, rfl, tv, atv, pv0⟩ := iv.first (by omega)
  obtain ⟨aw, vw, rfl, tw, atw, pw0⟩ := iw.first (by omega)
  rw [hN] at iv iw
  contradiction
  refine Dn tw atw ?_
  try contradiction
  refine ⟨by decide, fun e0 he0 => ?_⟩
  have se := Same.upd he0 (.tup [])
  obtain ⟨⟨b0, eb0, hb0⟩, tg0, _, _⟩ := id pw0
  rw [eb0]
  refine Dh (ms := []) (se.tup hb0) (.of Af) ?_
  try contradiction
  by_cases hg : g.getD 0 [] = []
  . rw [if_pos hg]
    rw [hg] at sm
    exact k _ _ f ((s1.trans s3).trans se) (iv.mono se) lf (Afj pv0.2.1 sm) Bf
  . rw [if_neg hg]
    have gl1 : (g.getD 0 []).length = 1 := by
      have := List.length_pos_iff.mpr hg
      omega
    obtain ⟨c, hc⟩ : ∃ c, g.getD 0 [] = [c] := by
      match hm : g.getD 0 [], gl1 with
      | [c], _ => exact ⟨c, rfl⟩
    have c0 : c ≠ 0 := by
      have := tg0.lead hg
      rw [hc] at this
      exact this
    rw [hc] at sm
    exact k _ _ g ((s1.trans s3).trans se) (iw.mono se) lg (by rw [hc]; exact Aes c0 sm) Bg
theorem Ags {k : Nat} {f : Addr} {fd : FuncData} {ps : List Str} {s1 s2 s3 : Sp} (a : Sd P w K mg base CX0 k f fd ps s1) (b : Sd P w K mg base CX0 k f fd ps s2) (h : ∀ vs H Q E, s3 vs H Q E -> s1 vs H Q E \/ s2 vs H Q E) : Sd P w K mg base CX0 k f fd ps s3 :=
  ⟨fun vs H Q E q => (h _ _ _ _ q).elim (a.len vs H Q E) (b.len vs H Q E), fun A outer s H args us vs Q E hr he hb hv hs => (h _ _ _ _ hs).elim (a.run A outer s H args us vs Q E hr he hb hv) (b.run A outer s H args us vs Q E hr he hb hv)⟩
theorem Xc {f : Addr} {fd : FuncData} (F : Df K mg "last_row" Ky ["first", "second"] f fd)   (c_degree : Cal P w K mg base 1 "degree" ["one"] (Gd K)) (c_next_row : Cal P w K mg base 6 "next_row" ["first", "second", "known"] (Lg K)) (c_whole_power : Cal P w K mg base 4 "whole_power" ["number", "many"] (Fw K)) : Cal P w K mg base 8 "last_row" ["first", "second"] (Rm K) := by
  have fo := V8 (P := P) (w := w) (base := base) F (c_degree := c_degree) (c_whole_power := c_whole_power) (c_next_row := c_next_row)
  have c_last_row := F.cal fo
  refine F.cal (Ags (s2 := Alo K fun x y => x < y) (fo.mono (by decide)) (F.fn.ok Bd (fun vs H Q E h => ?_) (fun cdv A outer s H vs Q E hr h => ?_)) fun vs H Q E h => ?_)
  . obtain ⟨x, y, fs, gs, _, _, _, rfl, _⟩ := h
    rfl
  . obtain ⟨x, y, fs, gs, l, b, B, rfl, hx, hy, hgl, hf1, hf3, hl30, hl1, hb1, hcond, bf, bg, Kp, hcn, k⟩ := h
    obtain ⟨ax, vx, ex, tx, atx, hx0⟩ := hx.first (by omega)
    obtain ⟨ay, vy, ey, ty, aty, hy0⟩ := hy.first (by omega)
    refine S.Ay ⟨_, (S.Ad (S.Ca (S.Aj Nt (S.Am c_degree (hr.mono (by decide)) (S.Aa (S.Az Av (S.pv 0) S.Ab (fun _ _ => rfl)) S.Ac)) (S.Am c_degree (hr.mono (by decide)) (S.Aa (S.Az Av (S.pv 1) S.Ab (fun _ _ => rfl)) S.Ac)) (Ak _)) (S.Ae (S.Al (S.Am c_last_row (hr.mono (by decide)) (S.Aa (S.pv 1) (S.Aa (S.pv 0) S.Ac))))) S.Ax)
      (S.Ad (S.Ai (i := 2) Bd.nd rfl (Or.inl rfl) S.Ab)
      (S.Ad (S.Ai (i := 3) Bd.nd rfl (Or.inl rfl) S.Ab)
      (S.Ad (S.Fp PassesOwn.never (S.Aj Nu (S.Am c_degree (hr.mono (by decide)) (S.Aa (S.Az Av (S.pv 1) S.Ab (fun _ _ => rfl)) S.Ac)) S.Ab (Ak _)) (S.Ad (S.Ai (i := 4) Bd.nd rfl (Or.inl rfl) (S.Ah Dd (S.Am c_degree (hr.mono (by decide)) (S.Aa (S.Az Av (S.pv 0) S.Ab (fun _ _ => rfl)) S.Ac)) (S.Am c_degree (hr.mono (by decide)) (S.Aa (S.Az Av (S.pv 1) S.Ab (fun _ _ => rfl)) S.Ac))))
      (S.Ad (S.Ai (i := 5) Bd.nd rfl (Or.inl rfl) (S.Ah Bb (S.pv 2) (S.Am c_whole_power (hr.mono (by decide)) (S.Aa (S.pv 3) (S.Aa (S.pv 4) S.Ac)))))
      (S.Ad (S.Ai (i := 6) Bd.nd rfl (Or.inl rfl) (S.Am c_next_row (hr.mono (by decide)) (S.Aa (S.pv 0) (S.Aa (S.pv 1) (S.Aa (S.pv 5) S.Ac)))))
      (S.Ad (S.Ai (i := 2) Bd.nd rfl (Or.inl rfl) (S.Az Av (S.Az Av (S.pv 1) S.Ab (fun _ _ => rfl)) (S.Dp Bt S.Ab) (fun _ _ => rfl)))
      (S.Ad (S.Ca (S.Aj Nu (S.pv 4) S.Ab (Ak _)) (S.Ae (S.Ai (i := 3) Bd.nd rfl (Or.inl rfl) (S.Ah Ip (S.Am c_whole_power (hr.mono (by decide)) (S.Aa (S.pv 2) (S.Aa (S.pv 4) S.Ac))) (S.Am c_whole_power (hr.mono (by decide)) (S.Aa (S.pv 3) (S.Aa (S.Ah Dd (S.pv 4) S.Ab) S.Ac)))))) S.Ax)
      (S.Ae (S.Ks (i := 0) (j := 1) rfl Bd.nd rfl rfl (by decide) rfl rfl (S.Aa (S.pv 1) (S.Aa (S.pv 6) S.Ac)) rfl))))))))
      (S.Ae (S.Al (S.K1 (S.Aj (Iu hr.units) (S.Az Av (S.pv 1) S.Ab (fun _ _ => rfl)) (S.Aw S.Ac) (Ak _)) (S.pv 0) (S.pv 1)))))))), ?_⟩
    contradiction
    rw [ex, ey]
    refine Dn tx atx (Di hx0 (Same.refl _) ?_)
    try contradiction
    refine Dn ty aty (Di hy0 (Same.refl _) ?_)
    try contradiction
    rw [if_pos (by omega), <- ex, <- ey]
    exact ⟨y, x, gs, fs, l, b, B, rfl, hy, hx, by omega, by omega, by omega, hl30, hl1, hb1, hcond, bg, bf, by rw [hgl]; exact Kp, by show (fs.getD 0 []).length <= _; omega, fun z H' hs s' iz lz gc Bh => k z H' hs s' iz (by omega) gc.symm Bh⟩
  . obtain ⟨x, y, fs, gs, l, b, B, e, hx, hy, hgl, hf1, hf3, hl30, hl1, hb1, hcond, bf, bg, Kp, _, k⟩ := h
    by_cases hcn : (gs.getD 0 []).length <= (fs.getD 0 []).length
    . exact .inl ⟨x, y, fs, gs, l, b, B, e, hx, hy, hgl, hf1, hf3, hl30, hl1, hb1, hcond, bf, bg, Kp, hcn, k⟩
    . exact .inr ⟨x, y, fs, gs, l, b, B, e, hx, hy, hgl, hf1, hf3, hl30, hl1, hb1, hcond, bf, bg, Kp, by omega, k⟩
theorem Afl {H : Hp} {a : Addr} {v : V} {p : List Int} {l n : Nat} (h : SqT K H a [v]) (hp : Po K H v p l n) : Rw K H (.ref a) [p] l n := ⟨a, [v], rfl, h, rfl, fun c hc => by
  have : c = 0 := by simpa using hc
  subst this
  exact hp⟩
def Few (l b : Nat) : Prop := l <= 30 /\ 1 <= l /\ 1 <= b /\ (4 * l + l * l) * (b + 6) + 4 * l + 10 <= 15000
theorem Few.bits {l b : Nat} (h : Few l b) : (b + 6) * (2 * l) + 1 <= 8000 := by
  obtain ⟨_, _, _, h⟩ := h
  have : (4 * l) * (b + 6) <= (4 * l + l * l) * (b + 6) := Nat.mul_le_mul_right _ (Nat.le_add_right _ _)
  have e : (4 * l) * (b + 6) = 2 * ((b + 6) * (2 * l)) := by grind
  omega
def Rb (K : PySem.W.Frag) : Sp := fun vs H Q _ => ∃ (x y : V) (p q : List Int) (l b : Nat), vs = [x, y] /\ Po K H x p l b /\ Po K H y q l b /\ Few l b /\ ∀ z H' g, Same H H' -> Po K H' z g (2 * l) ((b + 6) * (2 * l) + 1) -> Gc p q g -> Q z H'
theorem Acs {f : Addr} {fd : FuncData} (F : Df K mg "shared" Uv ["one", "other"] f fd)   (c_surely_apart : Cal P w K mg base 6 "surely_apart" ["one", "other"] (Kl K)) (c_plain : Cal P w K mg base 5 "plain" ["one"] (Ph K)) (c_last_row : Cal P w K mg base 8 "last_row" ["first", "second"] (Rm K)) : Cal P w K mg base 9 "shared" ["one", "other"] (Rb K) := by
  refine F.cal (F.fn.ok Abk (fun vs H Q E h => ?_) (fun cdv A outer s H vs Q E hr h => ?_))
  . obtain ⟨x, y, p, q, _, _, rfl, _⟩ := h
    rfl
  obtain ⟨x, y, p, q, l, b, rfl, hx, hy, few, k⟩ := h
  have fb := few.bits
  obtain ⟨f1, f2, f3, f4⟩ := few
  refine S.Ay ⟨_, (S.Ad (S.Ca (S.Gp (S.Am c_surely_apart (hr.mono (by decide)) (S.Aa (S.pv 0) (S.Aa (S.pv 1) S.Ac)))) (S.Ae (S.Al (S.Aw (S.Aa S.Ab S.Ac)))) S.Ax)
      (S.Ae (S.Al (S.Am c_plain (hr.mono (by decide)) (S.Aa (S.Az Av (S.Am c_last_row (hr.mono (by decide)) (S.Aa (S.Aw (S.Aa (S.pv 0) S.Ac)) (S.Aa (S.Aw (S.Aa (S.pv 1) S.Ac)) S.Ac))) S.Ab (fun _ _ => rfl)) S.Ac))))), ?_⟩
  contradiction
  refine ⟨x, y, p, q, l, l, b, b, rfl, hx, hy, by omega, by omega, fun bb H1 s1 hb => ?_⟩
  try contradiction
  split
  . rename_i h
    intro z hz
    have sz := Same.upd hz (.tup [V.int 1])
    refine k _ _ [1] (s1.trans sz) ⟨⟨z, rfl, .of Af⟩, .inr ⟨by simp, by decide⟩, by simp; omega, fun i => Ahv (by omega) (fun x hx => by
      have : x = 1 := by simpa using hx
      subst this
      exact (show Sz 1 (1 : Int) by unfold Sz; decide).mono (by omega)) i⟩ (hb h)
  . (intro q1 hq1; generalize eq1 : upd _ q1 _ = Gq1; obtain ⟨sq1, gq1⟩ := nw hq1 eq1; clear eq1 hq1)
    (intro q2 hq2; generalize eq2 : upd _ q2 _ = Gq2; obtain ⟨sq2, gq2⟩ := nw hq2 eq2; clear eq2 hq2)
    have s2 := (s1.trans sq1).trans sq2
    refine ⟨_, _, [p], [q], l, b, fun _ => True, rfl, Afl (.of (sq2 _ _ gq1)) (hx.mono s2), Afl (.of gq2) (hy.mono s2), rfl, Nat.le_refl 1, show 1 <= 3 by decide, f1, f2, f3, f4, trivial, trivial, fun _ _ _ _ _ _ _ _ _ _ _ _ _ => trivial, trivial, fun z H' hs s' iz lz gc _ => ?_⟩
    obtain ⟨az, vz, rfl, tz, atz, pz⟩ := iz.first (by rw [lz]; exact Nat.le_refl 1)
    refine Dn tz atz ?_
    try contradiction
    exact Abp pz (Same.refl _) (by omega) fb fun w H2 s3 iw => k w H2 _ ((s2.trans s').trans s3) iw gc
theorem Ae6 {H H1 H2 : Hp} {Q : VK} {E : XK} {x y : V} {p q : List Int} {l b : Nat} (hx : Po K H1 x p l b) (s1 : Same H1 H) (hy : Po K H2 y q l b) (s2 : Same H2 H) (f : Few l b) (h : ∀ z H' g, Same H H' -> Po K H' z g (2 * l) ((b + 6) * (2 * l) + 1) -> Gc p q g -> Q z H') : Rb K [x, y] H Q E := ⟨x, y, p, q, l, b, rfl, hx.mono s1, hy.mono s2, f, h⟩
theorem Amk (xs : List V) : Tt xs (some 1) none = xs.drop 1 := by
  unfold Tt
  rw [HT.O4, show (some (1 : Int)) = some ((1 : Nat) : Int) from rfl, HT.U3]
  cases xs with
  | nil => rfl
  | cons x r =>
    rw [Nat.min_eq_left (by simp), List.take_of_length_le (by simp)]
def N7 (K : PySem.W.Frag) : Sp := fun vs H Q _ => ∃ (x : V) (p : List Int) (l n : Nat), vs = [x] /\ Po K H x p l n /\ l <= 200 /\ n <= 100000 /\ ∀ z H', Same H H' -> Po K H' z (dr p) l (n + 8) -> Q z H'
theorem Z7 {f : Addr} {fd : FuncData} (F : Df K mg "derived" Mz ["one"] f fd) (z_tuple : mg "tuple" = none) (z_enumerate : mg "enumerate" = none)   : Cal P w K mg base 1 "derived" ["one"] (N7 K) := by
  refine F.cal (F.fn.ok Zq (fun vs H Q E h => ?_) (fun cdv A outer s H vs Q E hr h => ?_))
  . obtain ⟨x, p, _, _, rfl, _⟩ := h
    rfl
  obtain ⟨x, p, l, n, rfl, hx, hl, hn, k⟩ := h
  obtain ⟨⟨a, rfl, ha⟩, tp, lp, zp⟩ := id hx
  refine S.Ay ⟨_, (S.Ae (S.Al (S.Dq Dc rfl z_tuple PyProof.Rows.boot_tuple (S.Aa (S.K6 Ac0 (S.Ja (ts := ["place", "weight"]) (fs := []) rfl (Cj.of (sc := Ag Mz) (N := ["one"]) rfl rfl (by decide +kernel)) (S.T5 rfl z_enumerate (S.Aa (S.pv 0) S.Ac)) (fun _ _ _ => (S.Ql K 2 rfl rfl (S.Bj (S.Ar (i := 0) (show List.Nodup (["place", "weight"] : List Str) by decide +kernel) rfl (Or.inl rfl) (hf := Or.inr rfl)) (S.Bj (S.Ar (i := 1) (show List.Nodup (["place", "weight"] : List Str) by decide +kernel) rfl (Or.inl rfl) (hf := Or.inr rfl)) S.Gf)))) (fun _ _ _ => S.Ht) (fun _ _ _ => (S.Ah Bb (S.pv 0) (S.pv 1)))) (S.Ni S.Ab) S.Nr) S.Ac)))), ?_⟩
  contradiction
  refine ⟨⟨_, ha⟩, fun p1 hp1 => Ai0 (es := p) (inj := V.int) (fun i e => .int ((i : Int) * e)) (Nat.le_trans lp (Nat.le_trans hl (by decide))) hp1 ha ?_ ?_⟩
  . intro i e b H2 R he s2 hb hR
    have hi : i < p.length := (List.getElem?_eq_some_iff.mp he).1
    have ze : Sz n e := hx.mem e (List.mem_of_getElem? he)
    refine Ka (.of Af) ?_
    contradiction
    exact ⟨(show Sz 8 ((i : Nat) : Int) by unfold Sz; omega).mulOk ze (by omega), hR _ (Same.upd hb _)⟩
  intro H2 s2 h2
  have em : (p.mapIdx fun i e => V.int ((i : Int) * e)) = (p.mapIdx fun i e => (i : Int) * e).map V.int := by
    apply List.ext_getElem?
    intro i
    rw [List.getElem?_map, List.getElem?_mapIdx, List.getElem?_mapIdx]
    cases p[i]? <;> rfl
  rw [em] at h2
  have ec : Tt ((p.mapIdx fun i e => (i : Int) * e).map V.int) (some 1) none = (dr p).map V.int := by
    rw [Amk, dr, List.map_drop]
  refine ⟨p1, _, rfl, .of h2, fun p2 hp2 => ⟨p2, _, rfl, .inl ⟨.of Af, fun p3 hp3 => ?_⟩⟩⟩
  rw [ec] at hp3 ⊢
  refine k _ _ ((s2.trans (Same.upd hp2 _)).trans (Same.upd hp3 _)) ⟨⟨p3, rfl, .of Af⟩, Ajv tp, by rw [Ob]; omega, fun i => ?_⟩
  rw [Aeq]
  by_cases hi : i + 1 < p.length
  . exact ((show Sz 8 ((i : Nat) + 1 : Int) by unfold Sz; omega).mul (zp (i + 1))).mono (by omega)
  . rw [Bl (by omega), Int.mul_zero]
    exact Sz0 (by omega)
theorem Aai {H H1 : Hp} {Q : VK} {E : XK} {x : V} {p : List Int} {l n : Nat} (hx : Po K H1 x p l n) (s1 : Same H1 H) (hl : l <= 200) (hn : n <= 100000) (h : ∀ z H', Same H H' -> Po K H' z (dr p) l (n + 8) -> Q z H') : N7 K [x] H Q E := ⟨x, p, l, n, rfl, hx.mono s1, hl, hn, h⟩
open Classical in
noncomputable def frB (p : List Int) : Bool := decide (p ≠ [] /\ ∃ g, Gc p (dr p) g /\ g.length = 1)
open Classical in
theorem Af6 {p g : List Int} (h : p ≠ []) (hg : Gc p (dr p) g) : frB p = decide (g.length = 1) := by
  unfold frB
  by_cases e : g.length = 1
  . rw [decide_eq_true e]
    exact decide_eq_true ⟨h, g, hg, e⟩
  . rw [decide_eq_false e]
    refine decide_eq_false ?_
    rintro ⟨_, g', hg', e'⟩
    rw [hg'.uniq hg] at e'
    exact e e'
open Classical in
theorem Ag7 : frB [] = false := by
  unfold frB
  exact decide_eq_false fun h => h.1 rfl
def Td (K : PySem.W.Frag) : Sp := fun vs H Q _ => ∃ (x : V) (p : List Int) (l b : Nat), vs = [x] /\ Po K H x p l b /\ Few l (b + 8) /\ b <= 100000 /\ ∀ H', Same H H' -> Q (.bl (frB p)) H'
theorem Zg {f : Addr} {fd : FuncData} (F : Df K mg "is_free" Rj ["one"] f fd)   (c_degree : Cal P w K mg base 1 "degree" ["one"] (Gd K)) (c_shared : Cal P w K mg base 9 "shared" ["one", "other"] (Rb K)) (c_derived : Cal P w K mg base 1 "derived" ["one"] (N7 K)) : Cal P w K mg base 10 "is_free" ["one"] (Td K) := by
  refine F.cal (F.fn.ok Zn (fun vs H Q E h => ?_) (fun cdv A outer s H vs Q E hr h => ?_))
  . obtain ⟨x, p, _, _, rfl, _⟩ := h
    rfl
  obtain ⟨x, p, l, b, rfl, hx, few, hb, k⟩ := h
  obtain ⟨⟨a, rfl, ha⟩, tp, lp, zp⟩ := id hx
  refine S.Ay ⟨_, (S.Ae (S.Al (S.Mx (S.Cy (Acn hr.units) (S.pv 0) (S.Aw S.Ac) (Ak _)) (S.Mp (S.Cy Fx (S.Am c_degree (hr.mono (by decide)) (S.Aa (S.Am c_shared (hr.mono (by decide)) (S.Aa (S.pv 0) (S.Aa (S.Am c_derived (hr.mono (by decide)) (S.Aa (S.pv 0) S.Ac)) S.Ac))) S.Ac)) S.Ab (Ak _)))))), ?_⟩
  contradiction
  refine ⟨by decide, fun e0 he0 => ?_⟩
  have se := Same.upd he0 (.tup [])
  refine Dh (ms := []) (se.tup ha) (.of Af) ?_
  by_cases h0 : p = []
  . subst h0
    try contradiction
    rw [Ag7] at k
    exact k _ se
  . rw [decide_eq_false h0]
    try contradiction
    refine Aai hx se (by have := few.1; omega) hb fun z H1 s1 i1 => ?_
    try contradiction
    have hx1 : Po K H1 (.ref a) p l (b + 8) := ⟨⟨a, rfl, (se.trans s1).tup ha⟩, tp, lp, fun i => (zp i).mono (by omega)⟩
    refine Ae6 hx1 (Same.refl _) i1 (Same.refl _) few fun z2 H2 g s2 i2 gc => ?_
    try contradiction
    refine Di i2 (Same.refl _) ?_
    try contradiction
    have e : decide (((g.length : Nat) : Int) - 1 = 0) = frB p := by
      rw [Af6 h0 gc]
      exact decide_eq_decide.mpr ⟨fun h => by omega, fun h => by omega⟩
    rw [e]
    exact k _ ((se.trans s1).trans s2)
theorem Abn {n : Nat} : Sz n 0 := Nat.pow_pos (by decide)
theorem W9 {f : Int} {n u : Nat} (hf : Sz u f) : ∀ (k : Nat) (p : List Int) (s : Int), (∀ x ∈ p, Sz n x) -> Sz k s -> ∀ x ∈ Sh f s p, Sz (n + k + u * p.length) x
  | _, [], _, _, _, x, hx => by simp [Sh] at hx
  | k, w :: r, s, h, hs, x, hx => by
    rw [Sh] at hx
    rcases List.mem_cons.mp hx with rfl | hx
    . exact ((h w (by simp)).mul hs).mono (by omega)
    . have := W9 hf (k + u) r (s * f) (fun y hy => h y (by simp [hy])) (hs.mul hf) x hx
      rw [List.length_cons, Nat.mul_succ]
      exact this.mono (by omega)
theorem Ahl {n : Nat} {l : List Int} (h : ∀ x ∈ l, Sz n x) : Sz n (l.headD 0) := by
  cases l with
  | nil => exact Abn
  | cons g gs => exact h g (by simp)
theorem Aex {y : Int} {n u : Nat} (hy : Sz u y) : ∀ (p : List Int), (∀ x ∈ p, Sz n x) -> ∀ x ∈ hs y p, Sz (n + (u + 1) * p.length) x
  | [], _, x, hx => by simp [hs] at hx
  | a :: r, h, x, hx => by
    have ih := Aex hy r fun z hz => h z (by simp [hz])
    have hd := Ahl ih
    rw [List.length_cons, Nat.mul_succ]
    rw [hs] at hx
    rcases List.mem_cons.mp hx with rfl | hx
    . exact ((h a (by simp)).add (hy.mul hd)).mono (by omega)
    . exact (ih x hx).mono (by omega)
theorem Ai6 {y : Int} {u : Nat} (hy : Sz u y) : ∀ (k n : Nat) (p : List Int), p.length <= 8 -> (∀ x ∈ p, Sz n x) -> ∀ x ∈ mv y k p, Sz (n + 8 * (u + 1) * k) x
  | 0, n, p, _, h, x, hx => (h x hx).mono (by omega)
  | k + 1, n, [], _, _, x, hx => by simp [mv] at hx
  | k + 1, n, a :: r, hl, h, x, hx => by
    rw [List.length_cons] at hl
    have h6 : (u + 1) * r.length <= 8 * (u + 1) := by rw [Nat.mul_comm 8]; exact Nat.mul_le_mul_left _ (by omega)
    have h7 : (u + 1) * (r.length + 1) <= 8 * (u + 1) := by rw [Nat.mul_comm 8]; exact Nat.mul_le_mul_left _ (by omega)
    have hall := Aex hy (a :: r) h
    rw [hs, List.length_cons] at hall
    have e : 8 * (u + 1) * (k + 1) = 8 * (u + 1) * k + 8 * (u + 1) := Nat.mul_succ _ _
    rw [mv] at hx
    rcases List.mem_cons.mp hx with rfl | hx
    . exact (hall _ (by simp)).mono (by omega)
    . have := Ai6 hy k (n + 8 * (u + 1)) (hs y r) (by rw [V3]; omega) (fun z hz => (hall z (by simp [hz])).mono (by omega)) x hx
      exact this.mono (by omega)
def Ma (K : PySem.W.Frag) : Sp := fun vs H Q _ => ∃ (a : Addr) (ws : List Int) (f : Int) (n u : Nat), vs = [.ref a, .int f] /\ SqI K H a ws /\ ws.length <= 8 /\ (∀ x ∈ ws, Sz n x) /\ Sz u f /\ n <= 1000000 /\ u <= 1000000 /\
  ∀ z H', Same H H' -> SqL K H' z ((Sh f 1 ws).map V.int) -> (∀ x ∈ Sh f 1 ws, Sz (n + 1 + u * 8) x) -> Q (.ref z) H'
theorem Lz {f : Int} {u : Nat} (hf : Sz u f) : ∀ m : Nat, Sz (u * m + 1) (f ^ m)
  | 0 => by rw [Int.pow_zero, Nat.mul_zero]; unfold Sz; decide
  | m + 1 => by
    rw [Int.pow_succ, Nat.mul_succ]
    exact ((Lz hf m).mul hf).mono (by omega)
theorem Ace {f : Addr} {fd : FuncData} (F : Df K mg "spread" Uh ["weights", "factor"] f fd)    : Cal P w K mg base 1 "spread" ["weights", "factor"] (Ma K) := by
  refine F.cal (F.fn.ok Kq (fun vs H Q E h => ?_) (fun cdv A outer s H vs Q E hr h => ?_))
  . obtain ⟨a, ws, f, _, _, rfl, _⟩ := h
    rfl
  obtain ⟨a, ws, f, n, u, rfl, ha, hl, hw, hf, hn, hu, k⟩ := h
  refine S.Ay ⟨_, (S.Ad (S.Ai (i := 2) Kq.nd rfl (Or.inl rfl) (S.Gb S.Ac))
      (S.Ad (S.Ai (i := 3) Kq.nd rfl (Or.inl rfl) S.Ab)
      (S.Ad (S.Du PassesOwn.never rfl (S.Acf (S.pv 0)) (S.Ar (i := 4) Kq.nd rfl (Or.inl rfl)) (S.Ad (S.J3 (S.Om PySem.F.plainAttrs_list PySem.F.slot_list_append PySem.F.type_list_append Jj (S.pv 2) (S.Aa (S.Ah Bb (S.pv 4) (S.pv 3)) S.Ac)))
      (S.Ae (S.Ai (i := 3) Kq.nd rfl (Or.inl rfl) (S.Ah Bb (S.pv 3) (S.pv 1))))))
      (S.Ae (S.Al (S.pv 2)))))), ?_⟩
  contradiction
  refine ⟨by decide, fun p0 hp0 => ?_⟩
  have s0 := Same.upd hp0 (.lst [])
  have base0 : H p0 = none := hp0
  have sw : ∀ {x : Int} {m : Nat}, x ∈ ws -> m <= 8 -> IntMulOk x (f ^ m) := fun {x m} hx hm => (hw x hx).mulOk (Lz hf m) (by have : u * m <= u * 8 := Nat.mul_le_mul_left _ hm; omega)
  rcases ha with ha | ha
  . refine .inl ⟨⟨_, s0.seq ha⟩, ?_⟩
    refine R6 (es := ws) (inj := V.int) (fun pre σ H' => Same H H' /\ H' p0 = some (.lst ((Sh f 1 pre).map V.int)) /\ ∃ o : Option V, σ = [some (.ref a), some (.int f), some (.ref p0), some (.int (f ^ pre.length)), o]) ⟨s0, Af, none, by simp⟩ (fun pre σ H' hp => ?_) (fun pre e post σ H' he hp => ?_) (fun σ H' hp => ?_)
    obtain ⟨s1, hp1, o, rfl⟩ := hp
    exact Vu (s1.seq ha)
    obtain ⟨s1, hp1, o, rfl⟩ := hp
    have hm : e ∈ ws := by rw [he]; simp
    have hpl : pre.length <= 8 := by have := congrArg List.length he; simp at this; omega
    contradiction
    refine ⟨.inl ⟨rfl, _, SqL.of hp1⟩, sw hm hpl, p0, _, _, rfl, rfl, hp1, by rw [List.length_map, Ge]; exact Nat.lt_of_le_of_lt hpl (by decide), ?_⟩
    try contradiction
    refine ⟨(Lz hf pre.length).mulOk hf (by have : u * pre.length <= u * 8 := Nat.mul_le_mul_left _ hpl; omega), s1.put base0, ?_, some (.int e), ?_⟩
    . rw [Af, Rp, List.map_append, Int.one_mul]
      rfl
    . rw [List.length_append, List.length_singleton, Int.pow_succ]
    obtain ⟨s1, hp1, o, rfl⟩ := hp
    contradiction
    exact k p0 _ s1 (.of hp1) fun x hx => (W9 hf 1 ws 1 hw (by unfold Sz; decide) x hx).mono (by have : u * ws.length <= u * 8 := Nat.mul_le_mul_left _ hl; omega)
  . refine .inr ⟨⟨_, s0.tup ha⟩, ?_⟩
    refine R6 (es := ws) (inj := V.int) (fun pre σ H' => Same H H' /\ H' p0 = some (.lst ((Sh f 1 pre).map V.int)) /\ ∃ o : Option V, σ = [some (.ref a), some (.int f), some (.ref p0), some (.int (f ^ pre.length)), o]) ⟨s0, Af, none, by simp⟩ (fun pre σ H' hp => ?_) (fun pre e post σ H' he hp => ?_) (fun σ H' hp => ?_)
    obtain ⟨s1, hp1, o, rfl⟩ := hp
    exact Ot (s1.tup ha)
    obtain ⟨s1, hp1, o, rfl⟩ := hp
    have hm : e ∈ ws := by rw [he]; simp
    have hpl : pre.length <= 8 := by have := congrArg List.length he; simp at this; omega
    contradiction
    refine ⟨.inl ⟨rfl, _, SqL.of hp1⟩, sw hm hpl, p0, _, _, rfl, rfl, hp1, by rw [List.length_map, Ge]; exact Nat.lt_of_le_of_lt hpl (by decide), ?_⟩
    try contradiction
    refine ⟨(Lz hf pre.length).mulOk hf (by have : u * pre.length <= u * 8 := Nat.mul_le_mul_left _ hpl; omega), s1.put base0, ?_, some (.int e), ?_⟩
    . rw [Af, Rp, List.map_append, Int.one_mul]
      rfl
    . rw [List.length_append, List.length_singleton, Int.pow_succ]
    obtain ⟨s1, hp1, o, rfl⟩ := hp
    contradiction
    exact k p0 _ s1 (.of hp1) fun x hx => (W9 hf 1 ws 1 hw (by unfold Sz; decide) x hx).mono (by have : u * ws.length <= u * 8 := Nat.mul_le_mul_left _ hl; omega)
theorem Yv {H : Hp} {Q : VK} {E : XK} {a : Addr} {ws : List Int} {f : Int} {n u : Nat} (ha : SqI K H a ws) (hl : ws.length <= 8) (hw : ∀ x ∈ ws, Sz n x) (hf : Sz u f) (hn : n <= 1000000) (hu : u <= 1000000)
    (h : ∀ z H', Same H H' -> SqL K H' z ((Sh f 1 ws).map V.int) -> (∀ x ∈ Sh f 1 ws, Sz (n + 1 + u * 8) x) -> Q (.ref z) H') : Ma K [.ref a, .int f] H Q E := ⟨a, ws, f, n, u, rfl, ha, hl, hw, hf, hn, hu, h⟩
theorem Yg {U R : List Int} {a : Int} : atI ((U ++ a :: R).map V.int) (U.length : Nat) = some (.int a) := by
  refine Jc ?_
  rw [List.getElem?_map, List.getElem?_append_right (Nat.le_refl _), Nat.sub_self]
  rfl
theorem Ag8 {U R : List Int} {a b : Int} : atI ((U ++ a :: b :: R).map V.int) ((U.length : Nat) + 1 : Int) = some (.int b) := by
  have := Yg (U := U ++ [a]) (R := R) (a := b)
  rw [List.append_assoc, List.length_append, List.length_singleton] at this
  exact this
theorem Abm {U R : List Int} {a : Int} : ixN ((U ++ a :: R).map V.int).length ((U.length : Nat) : Int) = some U.length := by
  unfold ixN
  rw [if_pos (by omega), if_pos (by rw [List.length_map, List.length_append, List.length_cons]; omega), Int.toNat_natCast]
theorem Aam {U R : List Int} {a b : Int} : ((U ++ a :: R).map V.int).set U.length (.int b) = (U ++ b :: R).map V.int := by
  rw [List.map_append, List.map_append, List.set_append_right _ _ (by rw [List.length_map]; exact Nat.le_refl _), List.length_map, Nat.sub_self]
  rfl
def Oo (K : PySem.W.Frag) : Sp := fun vs H Q _ => ∃ (a : Addr) (ws : List Int) (y : Int) (n u : Nat), vs = [.ref a, .int y] /\ SqL K H a (ws.map V.int) /\ ws.length <= 8 /\ (∀ x ∈ ws, Sz n x) /\ Sz u y /\ n <= 10000000 /\ u <= 1000000 /\
  ∀ z H', Same H H' -> SqL K H' z ((mv y (ws.length - 1) ws).map V.int) -> Q (.ref z) H'
theorem Ady {f : Addr} {fd : FuncData} (F : Df K mg "moved" Xe ["weights", "by"] f fd) (z_list : mg "list" = none) (z_range : mg "range" = none) (z_len : mg "len" = none)   : Cal P w K mg base 1 "moved" ["weights", "by"] (Oo K) := by
  refine F.cal (F.fn.ok Pb (fun vs H Q E h => ?_) (fun cdv A outer s H vs Q E hr h => ?_))
  . obtain ⟨a, ws, y, _, _, rfl, _⟩ := h
    rfl
  obtain ⟨a, ws, y, n, u, rfl, ha, hl, hw, hy, hn, hu, k⟩ := h
  refine S.Ay ⟨_, (S.Ad (S.Ai (i := 2) Pb.nd rfl (Or.inl rfl) (S.Dq Dk rfl z_list PyProof.Rows.boot_list (S.Aa (S.pv 0) S.Ac)))
      (S.Ad (S.Du PassesOwn.never rfl (S.Gk rfl z_range (S.Aa (S.Ah Dd (S.Cr Aq rfl z_len PySem.boot_len (S.Aa (S.pv 2) S.Ac)) S.Ab) S.Ac)) (S.Ar (i := 3) Pb.nd rfl (Or.inl rfl)) (S.Ae (S.Du PassesOwn.never rfl (S.Lk rfl z_range (S.Aa (S.Ah Dd (S.Cr Aq rfl z_len PySem.boot_len (S.Aa (S.pv 2) S.Ac)) S.Ab) (S.Aa (S.Ah Dd (S.pv 3) S.Ab) (S.Aa (S.Dp Bt S.Ab) S.Ac)))) (S.Ar (i := 4) Pb.nd rfl (Or.inl rfl)) (S.Ae (S.Gg (S.Ah Bw (S.Az Dj (S.pv 2) (S.pv 4) (fun _ _ => rfl)) (S.Ah Bb (S.pv 1) (S.Az Dj (S.pv 2) (S.Ah Bw (S.pv 4) S.Ab) (fun _ _ => rfl)))) (S.J8 (S.pv 2) (S.pv 4) set_list))))))
      (S.Ae (S.Al (S.pv 2))))), ?_⟩
  contradiction
  refine ⟨a, _, rfl, .inl ha, fun p0 hp0 => ?_⟩
  have s0 := Same.upd hp0 (.lst (ws.map V.int))
  try contradiction
  refine ⟨p0, _, rfl, .inl (.of Af), ?_⟩
  rw [List.length_map]
  refine ⟨by omega, by omega, ?_⟩
  refine Ahu (ws.length - 1) (fun i => .int (0 + (i : Nat))) (fun i σ H' => Same H H' /\ ∃ (U T : List Int) (o1 o2 : Option V), σ = [some (.ref a), some (.int y), some (.ref p0), o1, o2] /\ H' p0 = some (.lst ((U ++ T).map V.int)) /\ U.length = i /\ U.length + T.length = ws.length /\ U ++ mv y (ws.length - 1 - i) T = mv y (ws.length - 1) ws /\ (∀ x ∈ U ++ T, Sz (n + 8 * (u + 1) * i) x)) ⟨s0, [], ws, _, _, rfl, Af, rfl, by simp, by simp, fun x hx => (hw x hx).mono (by omega)⟩ ?_ ?_ ?_
  . intro i σ H' hp
    have e : ((ws.length : Int) - 1).toNat = ws.length - 1 := by omega
    rw [e]
    exact Jm
  . rintro i σ H' hi ⟨s1, U, T, o1, o2, rfl, hp, hU, hUT, hmv, hz⟩
    simp only [Hy, Eo, Hs, Hl, Ep, Hu, Bx, Ie, Et, Em, z_c, Ox, Ro, Pq, Hg, Qm, Hi, Hz, G3, G4, Ds, Rt, Il, Ig, Ia, Ej, Eh, G5, Hw, Rq, Fj, Hv, Dw, Qt, Ek, Ho, Fl, Q5, Im, Hq, Cg, Fi, Er, Ei, Ci, Ey, Hh, Ij, G9, Gs, Qh, Bp, Ec, Hr, Rf, Ib, En, Hj, Ii, Dz, Ik, Fg, Fe, Fb, Cp, Hx, Cm, Ez, Ea, Ef, G7, Dy, Ew, Es, Ck, El, Qp, cpσ, List.getElem?_cons_zero, List.getElem?_cons_succ, Option.join_some, List.set_cons_zero, List.set_cons_succ, List.append_nil, decide_eq_true_eq, Bool.not_eq_true', decide_eq_false_iff_not, Bool.not_not, ite_not, Bool.false_eq_true, Bool.true_eq_false, if_false, if_true, if_pos, List.length_cons, List.length_nil, Nat.zero_add, Nat.reduceAdd, Ed, Eb, true_and, and_true, L2.start, List.map_cons, List.map_nil, Bool.not_true, Bool.not_false, Nat.reduceSub, List.replicate_succ, List.replicate_zero, List.cons_append, List.nil_append, Int.zero_add]
    refine ⟨p0, _, rfl, .inl (.of hp), ?_⟩
    try contradiction
    have eN : (((U ++ T).map V.int).length : Int) = (ws.length : Int) := by rw [List.length_map, List.length_append]; omega
    rw [eN]
    refine ⟨by omega, ?_⟩
    have h6 : (u + 1) * T.length <= 8 * (u + 1) := by rw [Nat.mul_comm 8]; exact Nat.mul_le_mul_left _ (by omega)
    have e6 : 8 * (u + 1) * (i + 1) = 8 * (u + 1) * i + 8 * (u + 1) := Nat.mul_succ _ _
    have e7 : 8 * (u + 1) * i <= 8 * (u + 1) * 8 := Nat.mul_le_mul_left _ (by omega)
    have zT : ∀ x ∈ T, Sz (n + 8 * (u + 1) * i) x := fun x hx => hz x (List.mem_append_right _ hx)
    refine Ahu (T.length - 1) (fun j => .int ((ws.length : Int) - 2 - (j : Nat))) (fun j σ H2 => Same H H2 /\ ∃ (T0 R : List Int) (o2 : Option V), σ = [some (.ref a), some (.int y), some (.ref p0), some (.int (i : Nat)), o2] /\ T = T0 ++ R /\ T0.length = T.length - 1 - j /\ H2 p0 = some (.lst ((U ++ (T0 ++ hs y R)).map V.int))) ?_ ?_ ?_ ?_
    . have hne : T ≠ [] := fun z => by rw [z] at hUT; simp at hUT; omega
      obtain ⟨ini, c, rfl⟩ : ∃ ini c, T = ini ++ [c] := ⟨T.dropLast, T.getLast hne, (List.dropLast_concat_getLast hne).symm⟩
      refine ⟨s1, ini, [c], _, rfl, rfl, by simp, ?_⟩
      rw [hp]
      simp [hs]
    . intro j σ H2 h2
      have e : ((ws.length : Int) - 2 - ((i : Int) - 1)).toNat = T.length - 1 := by omega
      rw [e]
      exact Qu
    . rintro j σ H2 hj ⟨s2, T0, R, o2, rfl, hT, hT0, hp2⟩
      have hne : T0 ≠ [] := fun z => by rw [z] at hT0; simp at hT0; omega
      obtain ⟨T1, c, rfl⟩ : ∃ ini c, T0 = ini ++ [c] := ⟨T0.dropLast, T0.getLast hne, (List.dropLast_concat_getLast hne).symm⟩
      have hR : R ≠ [] := fun z => by
        have := congrArg List.length hT
        rw [z, List.append_nil] at this
        omega
      have hlT := congrArg List.length hT
      rw [List.length_append] at hlT
      rw [List.length_append, List.length_singleton] at hT0 hlT
      obtain ⟨g, gs, eg⟩ : ∃ g gs, hs y R = g :: gs := by
        cases e : hs y R with
        | nil =>
          have := V3 y R
          rw [e] at this
          exact absurd (List.eq_nil_of_length_eq_zero this.symm) hR
        | cons g gs => exact ⟨g, gs, rfl⟩
      have eq1 : U ++ ((T1 ++ [c]) ++ hs y R) = (U ++ T1) ++ c :: g :: gs := by rw [eg]; simp
      rw [eq1] at hp2
      have pl : ((ws.length : Int) - 2 - (j : Nat)) = (((U ++ T1).length : Nat) : Int) := by rw [List.length_append]; omega
      have zg : Sz (n + 8 * (u + 1) * i + 8 * (u + 1)) g := (Aex hy R (fun x hx => zT x (by rw [hT]; exact List.mem_append_right _ hx)) g (by rw [eg]; simp)).mono (by have : (u + 1) * R.length <= (u + 1) * T.length := Nat.mul_le_mul_left _ (by omega); omega)
      simp only [Hy, Eo, Hs, Hl, Ep, Hu, Bx, Ie, Et, Em, z_c, Ox, Ro, Pq, Hg, Qm, Hi, Hz, G3, G4, Ds, Rt, Il, Ig, Ia, Ej, Eh, G5, Hw, Rq, Fj, Hv, Dw, Qt, Ek, Ho, Fl, Q5, Im, Hq, Cg, Fi, Er, Ei, Ci, Ey, Hh, Ij, G9, Gs, Qh, Bp, Ec, Hr, Rf, Ib, En, Hj, Ii, Dz, Ik, Fg, Fe, Fb, Cp, Hx, Cm, Ez, Ea, Ef, G7, Dy, Ew, Es, Ck, El, Qp, cpσ, List.getElem?_cons_zero, List.getElem?_cons_succ, Option.join_some, List.set_cons_zero, List.set_cons_succ, List.append_nil, decide_eq_true_eq, Bool.not_eq_true', decide_eq_false_iff_not, Bool.not_not, ite_not, Bool.false_eq_true, Bool.true_eq_false, if_false, if_true, if_pos, List.length_cons, List.length_nil, Nat.zero_add, Nat.reduceAdd, Ed, Eb, true_and, and_true, L2.start, List.map_cons, List.map_nil, Bool.not_true, Bool.not_false, Nat.reduceSub, List.replicate_succ, List.replicate_zero, List.cons_append, List.nil_append, pl]
      refine Lh (.of hp2) Yg ?_
      try contradiction
      refine Lh (.of hp2) Ag8 ?_
      try contradiction
      refine ⟨hy.mulOk zg (by omega), p0, _, _, (U ++ T1).length, rfl, rfl, hp2, ?_, s2.put hp0, T1, c :: R, _, rfl, by rw [hT]; simp, by omega, ?_⟩
      . exact Abm
      . rw [Af, hs, eg, List.headD_cons, <- List.append_assoc, Aam]
    . rintro σ H2 ⟨s2, T0, R, o2, rfl, hT, hT0, hp2⟩
      have e0 : T0 = [] := List.eq_nil_of_length_eq_zero (by omega)
      subst e0
      rw [List.nil_append] at hT hp2
      subst hT
      cases T with
      | nil => simp at hUT; omega
      | cons c r =>
        rw [List.length_cons] at hUT h6
        have hk : ws.length - 1 - i = (ws.length - 1 - (i + 1)) + 1 := by omega
        refine ⟨s2, U ++ [c + y * (hs y r).headD 0], hs y r, _, _, rfl, ?_, by rw [List.length_append, hU]; rfl, by rw [List.length_append, List.length_singleton, V3]; omega, ?_, ?_⟩
        . rw [hp2, hs, List.append_assoc]
          rfl
        . rw [<- hmv, hk, mv, List.append_assoc]
          rfl
        . intro x hx
          rw [List.append_assoc] at hx
          rcases List.mem_append.mp hx with hx | hx
          . exact (hz x (List.mem_append_left _ hx)).mono (by omega)
          . have := Aex hy (c :: r) zT x (by rw [hs]; exact hx)
            rw [List.length_cons] at this
            exact this.mono (by omega)
  . rintro σ H' ⟨s1, U, T, o1, o2, rfl, hp, hU, hUT, hmv, hz⟩
    contradiction
    refine k p0 _ s1 (.of ?_)
    rw [hp, <- hmv, Nat.sub_self]
    rfl
theorem Ac4 {H : Hp} {Q : VK} {E : XK} {a : Addr} {ws : List Int} {y : Int} {n u : Nat} (ha : SqL K H a (ws.map V.int)) (hl : ws.length <= 8) (hw : ∀ x ∈ ws, Sz n x) (hy : Sz u y) (hn : n <= 10000000) (hu : u <= 1000000)
    (h : ∀ z H', Same H H' -> SqL K H' z ((mv y (ws.length - 1) ws).map V.int) -> (∀ x ∈ mv y (ws.length - 1) ws, Sz (n + 66 * (u + 1)) x) -> Q (.ref z) H') : Oo K [.ref a, .int y] H Q E :=
  ⟨a, ws, y, n, u, rfl, ha, hl, hw, hy, hn, hu, fun z H' s i => h z H' s i fun x hx => (Ai6 hy _ n ws hl hw x hx).mono (by have : 8 * (u + 1) * (ws.length - 1) <= 8 * (u + 1) * 8 := Nat.mul_le_mul_left _ (by omega); omega)⟩
theorem Us {p : List Int} {n : Nat} (h : ∀ x ∈ p, Sz n x) : ∀ x ∈ p.reverse, Sz n x := fun x hx => h x (List.mem_reverse.mp hx)
def N5 (K : PySem.W.Frag) : Sp := fun vs H Q _ => ∃ (a : Addr) (p : List Int) (t b : Int), vs = [.ref a, .int t, .int b] /\ SqT K H a (p.map V.int) /\ p.length <= 8 /\ (∀ x ∈ p, Sz 50 x) /\ Sz 1000 t /\ Sz 1000 b /\
  ∀ z H', Same H H' -> SqL K H' z ((seen p t b).map V.int) -> (∀ x ∈ seen p t b, Sz 100000 x) -> Q (.ref z) H'
theorem Zu {f : Addr} {fd : FuncData} (F : Df K mg "seen_at" Pn ["p", "top", "bottom"] f fd)   (c_spread : Cal P w K mg base 1 "spread" ["weights", "factor"] (Ma K)) (c_moved : Cal P w K mg base 1 "moved" ["weights", "by"] (Oo K)) : Cal P w K mg base 2 "seen_at" ["p", "top", "bottom"] (N5 K) := by
  refine F.cal (F.fn.ok Tp (fun vs H Q E h => ?_) (fun cdv A outer s H vs Q E hr h => ?_))
  . obtain ⟨a, p, t, b, rfl, _⟩ := h
    rfl
  obtain ⟨a, p, t, b, rfl, ha, hl, hw, ht, hb, k⟩ := h
  refine S.Ay ⟨_, (S.Ad (S.Ai (i := 3) Tp.nd rfl (Or.inl rfl) (S.Am c_spread (hr.mono (by decide)) (S.Aa (S.Ac8 (S.pv 0) (S.Dp Bt S.Ab)) (S.Aa (S.pv 2) S.Ac))))
      (S.Ae (S.Al (S.Am c_moved (hr.mono (by decide)) (S.Aa (S.Ru (S.pv 3) (S.Dp Bt S.Ab)) (S.Aa (S.pv 1) S.Ac)))))), ?_⟩
  contradiction
  refine ⟨a, _, rfl, ha, ?_⟩
  rw [<- List.map_reverse]
  (intro q1 hq1; generalize eq1 : upd _ q1 _ = Gq1; obtain ⟨sq1, gq1⟩ := nw hq1 eq1; clear eq1 hq1)
  refine Yv (.inr (SqT.of gq1)) (by rw [List.length_reverse]; exact hl) (Us hw) hb (by decide) (by decide) fun z H2 s2 hz wz => ?_
  try contradiction
  refine ⟨z, _, rfl, hz, ?_⟩
  rw [<- List.map_reverse]
  (intro q2 hq2; generalize eq2 : upd _ q2 _ = Gq2; obtain ⟨sq2, gq2⟩ := nw hq2 eq2; clear eq2 hq2)
  refine Ac4 (.of gq2) (by rw [List.length_reverse, Ge, List.length_reverse]; exact hl) (Us wz) ht (by decide) (by decide) fun z3 H3 s3 hz3 wz3 => ?_
  have e : mv t ((Sh b 1 p.reverse).reverse.length - 1) (Sh b 1 p.reverse).reverse = seen p t b := by
    rw [seen, List.length_reverse, Ge, List.length_reverse]
  rw [e] at hz3 wz3
  exact k z3 H3 (((sq1.trans s2).trans sq2).trans s3) hz3 fun x hx => (wz3 x hx).mono (by decide)
theorem Aiy {H H1 : Hp} {Q : VK} {E : XK} {a : Addr} {p : List Int} {t b : Int} (ha : SqT K H1 a (p.map V.int)) (s1 : Same H1 H) (hl : p.length <= 8) (hw : ∀ x ∈ p, Sz 50 x) (ht : Sz 1000 t) (hb : Sz 1000 b)
    (h : ∀ z H', Same H H' -> SqL K H' z ((seen p t b).map V.int) -> (∀ x ∈ seen p t b, Sz 100000 x) -> Q (.ref z) H') : N5 K [.ref a, .int t, .int b] H Q E := ⟨a, p, t, b, rfl, s1.tup ha, hl, hw, ht, hb, h⟩
def Snn (K : PySem.W.Frag) (H : Hp) (z : V) (p : List Int) (n : Nat) : Prop := (∃ a, z = .ref a /\ SqT K H a (p.map V.int)) /\ Tr p /\ p.length <= n /\ ∀ x ∈ p, Sz 900000 x
theorem Snn.mono {H H' : Hp} {z : V} {p : List Int} {n : Nat} (h : Snn K H z p n) (s : Same H H') : Snn K H' z p n := by
  obtain ⟨⟨a, e, ha⟩, r⟩ := h
  exact ⟨⟨a, e, s.tup ha⟩, r⟩
theorem Aev {p : List Int} {n : Nat} (h : ∀ x ∈ p, Sz n x) : ∀ x ∈ trim p, Sz n x := fun x hx => by
  obtain ⟨i, hi, e⟩ := List.getElem_of_mem hx
  have z := Bc p i
  rw [Cv hi, e] at z
  rw [z]
  by_cases hi' : i < p.length
  . rw [Cv hi']; exact h _ (List.getElem_mem hi')
  . rw [Bl (by omega)]; exact Abn
theorem Alq {H : Hp} {a : Addr} {p : List Int} {n : Nat} (h : SqT K H a ((trim p).map V.int)) (hl : p.length = n) (hz : ∀ x ∈ p, Sz 900000 x) : Snn K H (.ref a) (trim p) n :=
  ⟨⟨a, rfl, h⟩, Bo p, by rw [<- hl]; exact J4 p, Aev hz⟩
def Fq (K : PySem.W.Frag) (H : Hp) (v : V) (t b : Int) : Prop := (∃ a, v = .ref a /\ SqT K H a [.int t, .int b]) /\ Sz 150 t /\ Sz 150 b /\ 0 < b
theorem Fq.mono {H H' : Hp} {v : V} {t b : Int} (h : Fq K H v t b) (s : Same H H') : Fq K H' v t b := by
  obtain ⟨⟨a, e, ha⟩, r⟩ := h
  exact ⟨⟨a, e, s.tup ha⟩, r⟩
theorem Alv {H H1 : Hp} {Q : VK} {v : V} {t b : Int} (h : Fq K H1 v t b) (s : Same H1 H) (q : Q (.int t) H) : Aib K v (.int 0) H Q := by
  obtain ⟨⟨a, rfl, ha⟩, _⟩ := h.mono s
  exact Dn ha (at0 _ _) q
theorem Akh {H H1 : Hp} {Q : VK} {v : V} {t b : Int} (h : Fq K H1 v t b) (s : Same H1 H) (q : Q (.int b) H) : Aib K v (.int 1) H Q := by
  obtain ⟨⟨a, rfl, ha⟩, _⟩ := h.mono s
  exact Dn ha (at1 _ _ _) q
theorem lcm_pos {a b : Int} (ha : 0 < a) (hb : 0 < b) : 0 < K3 a b := by
  unfold K3
  have := Nat.lcm_pos (show 0 < a.natAbs by omega) (show 0 < b.natAbs by omega)
  omega
theorem Ais {a b : Int} {m n : Nat} (ha : Sz m a) (hb : Sz n b) (pa : 0 < a) (pb : 0 < b) : Sz (m + n) (K3 a b) := (ha.mul hb).of_abs (by
  unfold K3
  rw [Int.natAbs_natCast, Int.natAbs_mul]
  exact Nat.le_of_dvd (Nat.mul_pos (by omega) (by omega)) (Nat.lcm_dvd_mul _ _))
theorem Ajh {a b : Int} {n : Nat} (ha : Sz n a) (pa : 0 <= a) (pb : 0 < b) : Sz n (a.fdiv b) := ha.of_abs (by
  rw [Int.fdiv_eq_ediv_of_nonneg _ (Int.le_of_lt pb)]
  have h0 := Int.ediv_nonneg pa (Int.le_of_lt pb)
  have h1 := Int.ediv_le_self b pa
  omega)
def fst (t b B : Int) : Int := t * B.fdiv b
def M9 (K : PySem.W.Frag) : Sp := fun vs H Q _ => ∃ (a : Addr) (v u : V) (p : List Int) (t b t' b' : Int), vs = [.ref a, v, u] /\ SqT K H a (p.map V.int) /\ p.length <= 8 /\ (∀ x ∈ p, Sz 50 x) /\ Fq K H v t b /\ Fq K H u t' b' /\
  ∀ z H', Same H H' -> Snn K H' z (Adw p (fst t b (K3 b b')) (fst t' b' (K3 b b')) (K3 b b')) p.length -> Q z H'
theorem Zm {f : Addr} {fd : FuncData} (F : Df K mg "between" Rz ["p", "lo", "hi"] f fd)   (c_common : Cal P w K mg base 2 "common" ["one", "other"] (Vf K)) (c_spread : Cal P w K mg base 1 "spread" ["weights", "factor"] (Ma K)) (c_poly : Cal P w K mg base 1 "poly" ["weights"] (Kc K)) (c_seen_at : Cal P w K mg base 2 "seen_at" ["p", "top", "bottom"] (N5 K)) (c_moved : Cal P w K mg base 1 "moved" ["weights", "by"] (Oo K)) : Cal P w K mg base 3 "between" ["p", "lo", "hi"] (M9 K) := by
  refine F.cal (F.fn.ok Jh (fun vs H Q E h => ?_) (fun cdv A outer s H vs Q E hr h => ?_))
  . obtain ⟨a, v, u, p, t, b, t', b', rfl, _⟩ := h
    rfl
  obtain ⟨a, v, u, p, t, b, t', b', rfl, ha, hl, hw, hf, hg, k⟩ := h
  refine S.Ay ⟨_, (S.Ad (S.Ai (i := 3) Jh.nd rfl (Or.inl rfl) (S.Am c_common (hr.mono (by decide)) (S.Aa (S.Az Av (S.pv 1) S.Ab (fun _ _ => rfl)) (S.Aa (S.Az Av (S.pv 2) S.Ab (fun _ _ => rfl)) S.Ac))))
      (S.Ad (S.Ai (i := 4) Jh.nd rfl (Or.inl rfl) (S.Ah Bb (S.Az Av (S.pv 1) S.Ab (fun _ _ => rfl)) (S.Ah Ip (S.pv 3) (S.Az Av (S.pv 1) S.Ab (fun _ _ => rfl)))))
      (S.Ad (S.Ai (i := 5) Jh.nd rfl (Or.inl rfl) (S.Ah Bb (S.Az Av (S.pv 2) S.Ab (fun _ _ => rfl)) (S.Ah Ip (S.pv 3) (S.Az Av (S.pv 2) S.Ab (fun _ _ => rfl)))))
      (S.Ad (S.Ai (i := 6) Jh.nd rfl (Or.inl rfl) (S.Am c_spread (hr.mono (by decide)) (S.Aa (S.Am c_seen_at (hr.mono (by decide)) (S.Aa (S.pv 0) (S.Aa (S.pv 4) (S.Aa (S.pv 3) S.Ac)))) (S.Aa (S.Ah Dd (S.pv 5) (S.pv 4)) S.Ac))))
      (S.Ae (S.Al (S.Am c_poly (hr.mono (by decide)) (S.Aa (S.Ru (S.Am c_moved (hr.mono (by decide)) (S.Aa (S.Ru (S.pv 6) (S.Dp Bt S.Ab)) (S.Aa S.Ab S.Ac))) (S.Dp Bt S.Ab)) S.Ac)))))))), ?_⟩
  contradiction
  refine Akh hf (Same.refl _) ?_
  try contradiction
  refine Akh hg (Same.refl _) ?_
  try contradiction
  refine ⟨b, b', rfl, hf.2.2.1.mono (by decide), hg.2.2.1.mono (by decide), ?_⟩
  have pB := lcm_pos hf.2.2.2 hg.2.2.2
  have zB : Sz 300 (K3 b b') := Ais hf.2.2.1 hg.2.2.1 hf.2.2.2 hg.2.2.2
  generalize K3 b b' = B at *
  have z1 : Sz 300 (B.fdiv b) := Ajh zB (Int.le_of_lt pB) hf.2.2.2
  have z2 : Sz 300 (B.fdiv b') := Ajh zB (Int.le_of_lt pB) hg.2.2.2
  have zf : Sz 450 (fst t b B) := hf.2.1.mul z1
  have zl : Sz 450 (fst t' b' B) := hg.2.1.mul z2
  have pb := hf.2.2.2
  have pb' := hg.2.2.2
  try contradiction
  refine Alv hf (Same.refl _) ?_
  try contradiction
  refine Akh hf (Same.refl _) ?_
  try contradiction
  refine ⟨⟨by omega, hf.2.2.1.log2 (by omega) (by decide)⟩, hf.2.1.mulOk z1 (by decide), Alv hg (Same.refl _) ?_⟩
  try contradiction
  refine Akh hg (Same.refl _) ?_
  try contradiction
  refine ⟨⟨by omega, hg.2.2.1.log2 (by omega) (by decide)⟩, hg.2.1.mulOk z2 (by decide), ?_⟩
  refine Aiy ha (Same.refl _) hl hw (show Sz 1000 (fst t b B) from zf.mono (by decide)) (zB.mono (by decide)) fun z3 H1 s1 h1 w1 => ?_
  try contradiction
  refine Yv (.inl h1) (by rw [K9]; exact hl) w1 (show Sz 451 (fst t' b' B - fst t b B) from (zl.sub zf)) (by decide) (by decide) fun z4 H2 s2 h2 w2 => ?_
  try contradiction
  refine ⟨z4, _, rfl, h2, ?_⟩
  rw [<- List.map_reverse]
  (intro q1 hq1; generalize eq1 : upd _ q1 _ = Gq1; obtain ⟨sq1, gq1⟩ := nw hq1 eq1; clear eq1 hq1)
  refine Ac4 (.of gq1) (by rw [List.length_reverse, Ge, K9]; exact hl) (Us w2) (show Sz 1 (1 : Int) by unfold Sz; decide) (by decide) (by decide) fun z5 H3 s3 h3 w3 => ?_
  try contradiction
  refine ⟨z5, _, rfl, h3, ?_⟩
  rw [<- List.map_reverse]
  (intro q2 hq2; generalize eq2 : upd _ q2 _ = Gq2; obtain ⟨sq2, gq2⟩ := nw hq2 eq2; clear eq2 hq2)
  refine ⟨q2, _, rfl, .inl (.of gq2), by rw [List.length_reverse, Vz, List.length_reverse, Ge, K9]; omega, fun z H4 s4 h4 => ?_⟩
  have hS := Alq h4 (n := p.length) (by rw [List.length_reverse, Vz, List.length_reverse, Ge, K9]) fun x hx => (Us w3 x hx).mono (by decide)
  rw [List.length_reverse, Ge, K9] at hS
  exact k _ _ ((((s1.trans s2).trans sq1).trans s3).trans (sq2.trans s4)) hS
def Nb (K : PySem.W.Frag) : Sp := fun vs H Q _ => ∃ (a : Addr) (p : List Int), vs = [.ref a] /\ SqT K H a (p.map V.int) /\ Q (.int (chg p : Nat)) H
theorem Agj (a w : Int) : (a * w < 0) = ((w < 0 /\ 0 < a) \/ (0 < w /\ a < 0)) := by
  refine propext ⟨fun h => ?_, fun h => ?_⟩
  . rcases Int.lt_trichotomy w 0 with q | q | q
    . rcases Int.lt_trichotomy a 0 with r | r | r
      . exact absurd (Int.mul_pos_of_neg_of_neg r q) (by omega)
      . rw [r, Int.zero_mul] at h; omega
      . exact .inl ⟨q, r⟩
    . rw [q, Int.mul_zero] at h; omega
    . rcases Int.lt_trichotomy a 0 with r | r | r
      . exact .inr ⟨q, r⟩
      . rw [r, Int.zero_mul] at h; omega
      . exact absurd (Int.mul_pos r q) (by omega)
  . rcases h with ⟨q, r⟩ | ⟨q, r⟩
    . exact Int.mul_neg_of_pos_of_neg r q
    . exact Int.mul_neg_of_neg_of_pos r q
theorem Y4 {f : Addr} {fd : FuncData} (F : Df K mg "changes" Qn ["p"] f fd)    : Cal P w K mg base 1 "changes" ["p"] (Nb K) := by
  refine F.cal (F.fn.ok Gy (fun vs H Q E h => ?_) (fun cdv A outer s H vs Q E hr h => ?_))
  . obtain ⟨a, p, rfl, _⟩ := h
    rfl
  obtain ⟨a, p, rfl, ha, k⟩ := h
  refine S.Ay ⟨_, (S.Ad (S.Ai (i := 1) Gy.nd rfl (Or.inl rfl) S.Ab)
      (S.Ad (S.Ai (i := 2) Gy.nd rfl (Or.inl rfl) S.Ab)
      (S.Ad (S.Du PassesOwn.never rfl (S.Le (S.pv 0)) (S.Ar (i := 3) Gy.nd rfl (Or.inl rfl)) (S.Ad (S.Ca (S.Ju (S.Jq (S.Ju (S.Mv (S.Aj Nt (S.pv 3) S.Ab (Ak _)) (S.Jy (S.Aj Nu (S.pv 2) S.Ab (Ak _))))) (S.Iv (S.Ju (S.Mv (S.Aj Nu (S.pv 3) S.Ab (Ak _)) (S.Jy (S.Aj Nt (S.pv 2) S.Ab (Ak _)))))))) (S.Ae (S.Ai (i := 1) Gy.nd rfl (Or.inl rfl) (S.Ah Bw (S.pv 1) S.Ab))) S.Ax)
      (S.Ae (S.Ca (S.Aj R9 (S.pv 3) S.Ab (Ak _)) (S.Ae (S.Ai (i := 2) Gy.nd rfl (Or.inl rfl) (S.pv 3))) S.Ax))))
      (S.Ae (S.Al (S.pv 1)))))), ?_⟩
  contradiction
  refine ⟨⟨_, ha⟩, R6 (es := p) (inj := V.int) (fun pre σ H' => H' = H /\ ∃ o : Option V, σ = [some (.ref a), some (.int (chg pre : Nat)), some (.int (lnz pre)), o]) ⟨rfl, _, rfl⟩ ?_ ?_ ?_⟩
  . rintro pre σ H' ⟨rfl, _⟩
    exact Ot ha
  . rintro pre e post σ H' he ⟨rfl, o, rfl⟩
    contradiction
    rw [Aen, Ad6]
    simp only [Agj]
    by_cases h1 : e < 0 <;> by_cases h2 : 0 < lnz pre <;> by_cases h3 : 0 < e <;> by_cases h4 : lnz pre < 0 <;> by_cases h5 : e = 0 <;> first | omega | (simp [h1, h2, h3, h4, h5]; done) | (simp [h1, h2, h3, h4, h5]; omega)
  . rintro σ H' ⟨rfl, o, rfl⟩
    contradiction
    exact k
inductive Wh (K : PySem.W.Frag) (H : Hp) : V -> Bool -> Prop where
  | int (i : Int) : Wh K H (.int i) true
  | bl (b : Bool) : Wh K H (.bl b) false
  | non : Wh K H .non false
  | str (x : Str) : Wh K H (.str x) false
  | tup {a : Addr} {xs : List V} (e : H a = some (.tup xs)) : Wh K H (.ref a) false
  | lst {a : Addr} {xs : List V} (e : H a = some (.lst xs)) : Wh K H (.ref a) false
def Al4 (K : PySem.W.Frag) : Sp := fun vs H Q _ => ∃ v b, vs = [v] /\ Wh K H v b /\ Q (.bl b) H
theorem isi {H : Hp} {GB : Bool -> Prop} {v : V} {t : Value} {T : String} {b : Bool} (ht : Wq K H v t) (hk : PySem.W.kitOne K t (.type T) = some b) (q : GB b) :
    ∃ x t' T' b', [v, V.ty T] = [x, V.ty T'] /\ Wq K H x t' /\ PySem.W.kitOne K t' (.type T') = some b' /\ GB b' := ⟨v, t, T, b, rfl, ht, hk, q⟩
theorem Zz {T U : String} {b : Bool} (h : (if (Value.type T == Value.type U) = true then some true else if PySem.W.kitMeta U = true then PySem.W.subIn [] (.type T) (.type U) else none) = some b) : PySem.W.kitOne K (.type T) (.type U) = some b := h
theorem Ajz : PySem.W.kitOne K (.type "int") (.type "int") = some true := Zz (by decide +kernel)
theorem Aj8 : PySem.W.kitOne K (.type "int") (.type "bool") = some false := Zz (by decide +kernel)
theorem Ai3 : PySem.W.kitOne K (.type "bool") (.type "int") = some true := Zz (by decide +kernel)
theorem Afn : PySem.W.kitOne K (.type "bool") (.type "bool") = some true := Zz (by decide +kernel)
theorem Aiu : PySem.W.kitOne K (.type "NoneType") (.type "int") = some false := Zz (by decide +kernel)
theorem Ajo : PySem.W.kitOne K (.type "str") (.type "int") = some false := Zz (by decide +kernel)
theorem Ajl : PySem.W.kitOne K (.type "tuple") (.type "int") = some false := Zz (by decide +kernel)
theorem Ajg : PySem.W.kitOne K (.type "list") (.type "int") = some false := Zz (by decide +kernel)
def Lp (K : PySem.W.Frag) : Sp := Al4 K
theorem W0 {f : Addr} {fd : FuncData} (F : Df K mg "is_whole" Ny ["thing"] f fd) (z_isinstance : mg "isinstance" = none) (z_int : mg "int" = none) (z_bool : mg "bool" = none)   : Cal P w K mg base 1 "is_whole" ["thing"] (Lp K) := by
  refine F.cal (F.fn.ok Xm (fun vs H Q E h => ?_) (fun cdv A outer s H vs Q E hr h => ?_))
  . obtain ⟨v, b, rfl, _⟩ := h
    rfl
  obtain ⟨v, b, rfl, hv, q⟩ := h
  refine S.Ay ⟨_, (S.Ae (S.Al (S.Mx (S.Cr Oq rfl z_isinstance PyProof.Rows.boot_isinstance (S.Aa (S.pv 0) (S.Aa (S.Jf (v := .ty "int") rfl z_int PyProof.Rows.boot_int rfl) S.Ac))) (S.Mp (S.Aao (S.Cr Oq rfl z_isinstance PyProof.Rows.boot_isinstance (S.Aa (S.pv 0) (S.Aa (S.Jf (v := .ty "bool") rfl z_bool PyProof.Rows.boot_bool rfl) S.Ac)))))))), ?_⟩
  contradiction
  cases hv with
  | int i =>
    refine isi (.int i) Ajz ?_
    contradiction
    refine isi (.int i) Aj8 ?_
    contradiction
    exact q
  | bl b =>
    refine isi (.bl b) Ai3 ?_
    contradiction
    refine isi (.bl b) Afn ?_
    contradiction
    exact q
  | non =>
    refine isi .non Aiu ?_
    contradiction
    exact q
  | str x =>
    refine isi (.str x) Ajo ?_
    contradiction
    exact q
  | tup e =>
    refine isi (.tup e) Ajl ?_
    contradiction
    exact q
  | lst e =>
    refine isi (.lst e) Ajg ?_
    contradiction
    exact q
inductive Th (K : PySem.W.Frag) (H : Hp) : V -> Bool -> Prop where
  | nums {a : Addr} {ns : List Int} (h : SqT K H a (ns.map V.int)) (hl : ns.length <= 1000) : Th K H (.ref a) (decide (trim ns = ns))
  | bad {a : Addr} {es : List (V × Bool)} (h : SqT K H a (es.map (·.1))) (hl : es.length <= 1000) (hw : ∀ e ∈ es, Wh K H e.1 e.2) (hb : (es.map (·.2)).all id = false) : Th K H (.ref a) false
  | int (i : Int) : Th K H (.int i) false
  | non : Th K H .non false
  | str (x : Str) : Th K H (.str x) false
  | lst {a : Addr} {xs : List V} (e : H a = some (.lst xs)) : Th K H (.ref a) false
def Al7 (K : PySem.W.Frag) : Sp := fun vs H Q _ => ∃ v b, vs = [v] /\ Th K H v b /\ ∀ H', Same H H' -> Q (.bl b) H'
theorem Wh.mono {H H' : Hp} {v : V} {b : Bool} (h : Wh K H v b) (s : Same H H') : Wh K H' v b := by
  cases h with
  | int i => exact .int i
  | bl b => exact .bl b
  | non => exact .non
  | str x => exact .str x
  | tup e => exact .tup (s _ _ e)
  | lst e => exact .lst (s _ _ e)
theorem Th.mono {H H' : Hp} {v : V} {b : Bool} (h : Th K H v b) (s : Same H H') : Th K H' v b := by
  cases h with
  | nums h hl => exact .nums (s.tup h) hl
  | bad h hl hw hb => exact .bad (s.tup h) hl (fun e he => (hw e he).mono s) hb
  | int i => exact .int i
  | non => exact .non
  | str x => exact .str x
  | lst e => exact .lst (s _ _ e)
theorem Ado : PySem.W.kitOne K (.type "int") (.type "tuple") = some false := Zz (by decide +kernel)
theorem Aca : PySem.W.kitOne K (.type "NoneType") (.type "tuple") = some false := Zz (by decide +kernel)
theorem Ab3 : PySem.W.kitOne K (.type "str") (.type "tuple") = some false := Zz (by decide +kernel)
theorem Acm : PySem.W.kitOne K (.type "list") (.type "tuple") = some false := Zz (by decide +kernel)
theorem Ml : PySem.W.kitOne K (.type "tuple") (.type "tuple") = some true := Zz (by decide +kernel)
inductive TyA (K : PySem.W.Frag) (H : Hp) : V -> Value -> Prop where
  | of {v : V} {t : Value} (h : Wq K H v t) : TyA K H v t
  | tup {a : Addr} {xs : List V} (h : SqT K H a xs) : TyA K H (.ref a) (.type "tuple")
theorem Uz {X : Cx} : Ji X (.builtin "isinstance") (fun xs H Q => ∃ x t T b, xs = [x, .ty T] /\ TyA X.K H x t /\ PySem.W.kitOne X.K t (.type T) = some b /\ Q (.bl b) H) := by
  intro pins s σ H xs us Q I r h
  obtain ⟨x, t, T, b, rfl, ht, hk, q⟩ := h
  cases ht with
  | of ht => exact Oq pins s σ H _ us Q I r ⟨x, t, T, b, rfl, ht, hk, q⟩
  | tup hs => exact Ad1 pins s σ H _ us Q I r ⟨_, _, T, b, rfl, hs, hk, q⟩
theorem isa {H : Hp} {GB : Bool -> Prop} {v : V} {t : Value} {T : String} {b : Bool} (ht : TyA K H v t) (hk : PySem.W.kitOne K t (.type T) = some b) (q : GB b) :
    ∃ x t' T' b', [v, V.ty T] = [x, V.ty T'] /\ TyA K H x t' /\ PySem.W.kitOne K t' (.type T') = some b' /\ GB b' := ⟨v, t, T, b, rfl, ht, hk, q⟩
theorem Vw {ini : List Int} {d : Int} : (trim (ini ++ [d]) = ini ++ [d]) = (d ≠ 0) := by
  refine propext ⟨fun h hd => ?_, fun h => Ry (.inr ⟨by simp, by rw [List.getLast_concat]; exact h⟩)⟩
  have := Bo (ini ++ [d])
  rw [h] at this
  have z := this.lead (by simp)
  rw [List.length_append, List.length_singleton, Nat.add_sub_cancel, J0, if_pos rfl] at z
  exact z hd
def M8 (K : PySem.W.Frag) : Sp := Al7 K
theorem Zx {f : Addr} {fd : FuncData} (F : Df K mg "is_poly" M6 ["thing"] f fd) (z_isinstance : mg "isinstance" = none) (z_tuple : mg "tuple" = none) (z_all : mg "all" = none) (z_len : mg "len" = none)  (c_is_whole : Cal P w K mg base 1 "is_whole" ["thing"] (Lp K)) : Cal P w K mg base 2 "is_poly" ["thing"] (M8 K) := by
  refine F.cal (F.fn.ok Z5 (fun vs H Q E h => ?_) (fun cdv A outer s H vs Q E hr h => ?_))
  . obtain ⟨v, b, rfl, _⟩ := h
    rfl
  obtain ⟨v, b, rfl, hv, k⟩ := h
  refine S.Ay ⟨_, (S.Ad (S.Ca (S.Ju (S.Jq (S.Hf (S.Gp (S.Cr Uz rfl z_isinstance PyProof.Rows.boot_isinstance (S.Aa (S.pv 0) (S.Aa (S.Jf (v := .ty "tuple") rfl z_tuple PyProof.Rows.boot_tuple rfl) S.Ac))))) (S.Iv (S.Hf (S.Gp (S.Cr (Aet rfl) rfl z_all PyProof.Rows.boot_all (S.Aa (S.Ja (ts := ["weight"]) (fs := []) rfl (Cj.of (sc := Ag M6) (N := ["thing"]) rfl rfl (by decide +kernel)) (S.Le (S.pv 0)) (fun _ _ _ => (S.Ar (i := 0) (show List.Nodup (["weight"] : List Str) by decide +kernel) rfl (Or.inl rfl))) (fun _ _ _ => S.Ht) (fun _ _ _ => (S.Am c_is_whole (hr.mono (by decide)) (S.Aa (S.pv 0) S.Ac)))) S.Ac))))))) (S.Ae (S.Al S.Nx)) S.Ax)
      (S.Ae (S.Al (S.Ahc (S.Cy Fx (S.Cr Aq rfl z_len PySem.boot_len (S.Aa (S.pv 0) S.Ac)) S.Ab (Ak _)) (S.Mp (S.Cy R9 (S.Az Av (S.pv 0) (S.Dp Bt S.Ab) (fun _ _ => rfl)) S.Ab (Ak _))))))), ?_⟩
  contradiction
  cases hv with
  | int i =>
    refine isa (.of (.int i)) Ado ?_
    try contradiction
    exact k _ (Same.refl _)
  | non =>
    refine isa (.of .non) Aca ?_
    try contradiction
    exact k _ (Same.refl _)
  | str x =>
    refine isa (.of (.str x)) Ab3 ?_
    try contradiction
    exact k _ (Same.refl _)
  | lst e =>
    refine isa (.of (.lst e)) Acm ?_
    try contradiction
    exact k _ (Same.refl _)
  | @bad a es h hl hw hb =>
    refine isa (.tup h) Ml ?_
    try contradiction
    refine ⟨⟨_, h⟩, fun p1 hp1 => J5 (es := es) (inj := (·.1)) (fun e => .bl e.2) (Nat.le_trans hl (by decide)) hp1 (Qk h) ?_ ?_⟩
    . intro e H2 R he s2 hR
      contradiction
      exact ⟨_, _, rfl, (hw e he).mono s2, hR _ (Same.refl _)⟩
    intro H2 s2 h2
    have em : es.map (fun e => V.bl e.2) = (es.map (·.2)).map V.bl := by rw [List.map_map]; rfl
    rw [em] at h2
    try contradiction
    refine ⟨p1, _, rfl, .of h2, ?_⟩
    rw [hb]
    try contradiction
    exact k _ s2
  | @nums a ns h hl =>
    refine isa (.tup h) Ml ?_
    try contradiction
    refine ⟨⟨_, h⟩, fun p1 hp1 => J5 (es := ns) (inj := V.int) (fun _ => .bl true) (Nat.le_trans hl (by decide)) hp1 (Qk h) ?_ ?_⟩
    . intro e H2 R he s2 hR
      contradiction
      exact ⟨_, _, rfl, .int e, hR _ (Same.refl _)⟩
    intro H2 s2 h2
    have em : ns.map (fun _ => V.bl true) = (ns.map fun _ => true).map V.bl := by rw [List.map_map]; rfl
    rw [em] at h2
    have ea : (ns.map fun _ => true).all id = true := by simp
    try contradiction
    refine ⟨p1, _, rfl, .of h2, ?_⟩
    rw [ea]
    try contradiction
    refine ⟨a, _, rfl, .inr (s2.tup h), ?_⟩
    rw [List.length_map]
    by_cases h0 : ns = []
    . rw [if_pos (by rw [h0]; rfl)]
      have e : decide (trim ns = ns) = true := decide_eq_true (by rw [h0]; rfl)
      rw [e] at k
      exact k _ s2
    . have hl0 : ¬ ((ns.length : Nat) : Int) = 0 := by
        have := List.length_pos_iff.mpr h0
        omega
      rw [if_neg hl0]
      obtain ⟨ini, d, rfl⟩ : ∃ (i : List Int) (x : Int), ns = i ++ [x] := ⟨_, _, (List.dropLast_concat_getLast h0).symm⟩
      have em2 : (ini ++ [d]).map V.int = ini.map V.int ++ [V.int d] := by rw [List.map_append]; rfl
      refine Dn (s2.tup h) (v := .int d) (by rw [em2]; exact Pg _ _) ?_
      try contradiction
      have e : decide (trim (ini ++ [d]) = ini ++ [d]) = !decide (d = 0) := by
        by_cases hd : d = 0 <;> simp [Vw, hd]
      rw [e] at k
      exact k _ s2
theorem Ux {H : Hp} {Q : VK} {E : XK} {v : V} {b : Bool} (hv : Th K H v b) (h : ∀ H', Same H H' -> Q (.bl b) H') : M8 K [v] H Q E := ⟨v, b, rfl, hv, h⟩
def low (t b : Int) : Bool := decide (0 < b) && decide (((Int.gcd t b : Nat) : Int) = 1)
inductive Tf (K : PySem.W.Frag) (H : Hp) : V -> Bool -> Prop where
  | two {a : Addr} {t b : Int} (h : SqT K H a [.int t, .int b]) : Tf K H (.ref a) (low t b)
  | bad {a : Addr} {u v : V} {bu bv : Bool} (h : SqT K H a [u, v]) (hu : Wh K H u bu) (hv : Wh K H v bv) (hb : bu = false \/ bv = false) : Tf K H (.ref a) false
  | long {a : Addr} {xs : List V} (h : SqT K H a xs) (hl : xs.length ≠ 2) : Tf K H (.ref a) false
  | int (i : Int) : Tf K H (.int i) false
  | non : Tf K H .non false
  | str (x : Str) : Tf K H (.str x) false
  | lst {a : Addr} {xs : List V} (e : H a = some (.lst xs)) : Tf K H (.ref a) false
def Amd (K : PySem.W.Frag) : Sp := fun vs H Q _ => ∃ v b, vs = [v] /\ Tf K H v b /\ Q (.bl b) H
def Lf (K : PySem.W.Frag) : Sp := Amd K
theorem Tf.mono {H H' : Hp} {v : V} {b : Bool} (h : Tf K H v b) (s : Same H H') : Tf K H' v b := by
  cases h with
  | two h => exact .two (s.tup h)
  | bad h hu hv hb => exact .bad (s.tup h) (hu.mono s) (hv.mono s) hb
  | long h hl => exact .long (s.tup h) hl
  | int i => exact .int i
  | non => exact .non
  | str x => exact .str x
  | lst e => exact .lst (s _ _ e)
theorem Sq {f : Addr} {fd : FuncData} (F : Df K mg "is_fraction" Jx ["thing"] f fd) (z_isinstance : mg "isinstance" = none) (z_tuple : mg "tuple" = none) (z_len : mg "len" = none)  (c_is_whole : Cal P w K mg base 1 "is_whole" ["thing"] (Lp K)) (c_divisor : Cal P w K mg base 1 "divisor" ["one", "other"] (Kw K)) : Cal P w K mg base 2 "is_fraction" ["thing"] (Lf K) := by
  refine F.cal (F.fn.ok Jd (fun vs H Q E h => ?_) (fun cdv A outer s H vs Q E hr h => ?_))
  . obtain ⟨v, b, rfl, _⟩ := h
    rfl
  obtain ⟨v, b, rfl, hv, k⟩ := h
  refine S.Ay ⟨_, (S.Ad (S.Ca (S.Ju (S.Jq (S.Hf (S.Gp (S.Cr Uz rfl z_isinstance PyProof.Rows.boot_isinstance (S.Aa (S.pv 0) (S.Aa (S.Jf (v := .ty "tuple") rfl z_tuple PyProof.Rows.boot_tuple rfl) S.Ac))))) (S.Iv (S.Aj R9 (S.Cr Aq rfl z_len PySem.boot_len (S.Aa (S.pv 0) S.Ac)) S.Ab (Ak _))))) (S.Ae (S.Al S.Nx)) S.Ax)
      (S.Ad (S.Gg (S.pv 0) (S.Gu rfl (S.Bj (S.Ar (i := 1) Jd.nd rfl (Or.inl rfl)) (S.Bj (S.Ar (i := 2) Jd.nd rfl (Or.inl rfl)) S.Gf))))
      (S.Ad (S.Ca (S.Ju (S.Jq (S.Hf (S.Gp (S.Am c_is_whole (hr.mono (by decide)) (S.Aa (S.pv 1) S.Ac)))) (S.Iv (S.Hf (S.Gp (S.Am c_is_whole (hr.mono (by decide)) (S.Aa (S.pv 2) S.Ac))))))) (S.Ae (S.Al S.Nx)) S.Ax)
      (S.Ae (S.Al (S.Mx (S.Cy Aji (S.pv 2) S.Ab (Ak _)) (S.Mp (S.Cy Fx (S.Am c_divisor (hr.mono (by decide)) (S.Aa (S.pv 1) (S.Aa (S.pv 2) S.Ac))) S.Ab (Ak _))))))))), ?_⟩
  contradiction
  cases hv with
  | two h =>
    rename_i t b
    refine isa (.tup h) Ml ?_
    contradiction
    refine ⟨_, _, rfl, .inr h, ?_⟩
    contradiction
    refine Ka h ?_
    contradiction
    refine ⟨_, _, rfl, .int _, ?_⟩
    contradiction
    refine ⟨_, _, rfl, .int _, ?_⟩
    contradiction
    split
    . rename_i h1
      refine ⟨_, _, rfl, ?_⟩
      contradiction
      unfold low at k
      rw [decide_eq_true (show 0 < b by omega), Bool.true_and] at k
      exact k
    . rename_i h1
      unfold low at k
      rw [decide_eq_false (show ¬ 0 < b by omega), Bool.false_and] at k
      exact k
  | bad h hu hv hb =>
    rename_i a u v bu bv
    refine isa (.tup h) Ml ?_
    contradiction
    refine ⟨_, _, rfl, .inr h, ?_⟩
    contradiction
    refine Ka h ?_
    contradiction
    refine ⟨_, _, rfl, hu, ?_⟩
    try contradiction
    cases bu with
    | false =>
      try contradiction
      exact k
    | true =>
      try contradiction
      refine ⟨_, _, rfl, hv, ?_⟩
      rcases hb with hb | hb
      . cases hb
      . subst hb
        try contradiction
        exact k
  | long h hl =>
    rename_i a xs
    refine isa (.tup h) Ml ?_
    contradiction
    refine ⟨_, _, rfl, .inr h, ?_⟩
    try contradiction
    rw [if_neg (show ¬ ((xs.length : Nat) : Int) = 2 by omega)]
    exact k
  | int i =>
    refine isa (.of (.int i)) Ado ?_
    contradiction
    exact k
  | non =>
    refine isa (.of .non) Aca ?_
    contradiction
    exact k
  | str x =>
    refine isa (.of (.str x)) Ab3 ?_
    contradiction
    exact k
  | lst e =>
    refine isa (.of (.lst e)) Acm ?_
    contradiction
    exact k
theorem Vq {n : Nat} {a : Int} (h : Sz n a) (l : n <= 64) : Builtin.Int.intBits a <= 64 := Nat.le_trans (PySem.intBits_le_iff.mpr h) l
def Od (_ : PySem.W.Frag) : Sp := fun vs H Q _ => ∃ c k : Int, vs = [.int c, .int k] /\ 0 <= k /\ k < 1000 /\ ∀ n : Int, Q (.int n) H
theorem U7 {f : Addr} {fd : FuncData} (F : Df K mg "_law_stirred" Lr ["_law_cell", "_law_k"] f fd)    : Cal P w K mg base 1 "_law_stirred" ["_law_cell", "_law_k"] (Od K) := by
  refine F.cal (F.fn.ok Kh (fun vs H Q E h => ?_) (fun cdv A outer s H vs Q E hr h => ?_))
  . obtain ⟨c, k, rfl, _⟩ := h
    rfl
  obtain ⟨c, k, rfl, k0, k1, q⟩ := h
  refine S.Ay ⟨_, (S.Ad (S.Ai (i := 2) Kh.nd rfl (Or.inl rfl) (S.Ah Bv (S.Ah Bb (S.Ah Bw (S.Ah Bw (S.pv 0) (S.Ah Bb S.Ab (S.pv 1))) S.Ab) S.Ab) S.Ab))
      (S.Ad (S.Ai (i := 2) Kh.nd rfl (Or.inl rfl) (S.Ah Bv (S.Ah Bb (S.pv 2) (S.Ah Bw (S.Ah Bk (S.pv 2) S.Ab) S.Ab)) S.Ab))
      (S.Ae (S.Al (S.Ah Bw (S.Ah Bb (S.Ah Bv (S.Ah Bb (S.pv 2) (S.Ah Bw (S.Ah Bk (S.pv 2) S.Ab) S.Ab)) S.Ab) S.Ab) (S.pv 2)))))), ?_⟩
  contradiction
  have m1 : IntMulOk 7919 k := .of_left (Vq (by unfold Sz; decide : Sz 13 (7919 : Int)) (by decide))
  have m2 : IntMulOk (c + 7919 * k + 1) 48271 := .of_right (Vq (by unfold Sz; decide : Sz 16 (48271 : Int)) (by decide))
  have d0 := Int.emod_nonneg ((c + 7919 * k + 1) * 48271) (by decide : (2147483647 : Int) ≠ 0)
  have d1 := Int.emod_lt_of_pos ((c + 7919 * k + 1) * 48271) (by decide : (0 : Int) < 2147483647)
  generalize (c + 7919 * k + 1) * 48271 % 2147483647 = d at *
  have m3 : IntMulOk d (d / 1009 + 69621) := .of_left (Vq (by unfold Sz; omega : Sz 31 d) (by decide))
  have e0 := Int.emod_nonneg (d * (d / 1009 + 69621)) (by decide : (2147483647 : Int) ≠ 0)
  have e1 := Int.emod_lt_of_pos (d * (d / 1009 + 69621)) (by decide : (0 : Int) < 2147483647)
  generalize d * (d / 1009 + 69621) % 2147483647 = e at *
  have m4 : IntMulOk e (e / 2003 + 40692) := .of_left (Vq (by unfold Sz; omega : Sz 31 e) (by decide))
  have m5 : IntMulOk (e * (e / 2003 + 40692) % 2147483629) 2147483647 := .of_right (Vq (by unfold Sz; decide : Sz 31 (2147483647 : Int)) (by decide))
  exact ⟨m1, m2, by decide, ⟨by decide, by decide⟩, m3, by decide, ⟨by decide, by decide⟩, m4, by decide, m5, q _⟩
theorem Adf (x y : Int) : Int.gcd y (x.fmod y) = Int.gcd x y := by
  have e : x.fmod y + y * (x.fdiv y) = x := Int.fmod_add_mul_fdiv x y
  refine Nat.dvd_antisymm ?_ ?_
  . have h1 : ((Int.gcd y (x.fmod y) : Nat) : Int) ∣ y := Int.gcd_dvd_left ..
    have h2 : ((Int.gcd y (x.fmod y) : Nat) : Int) ∣ x.fmod y := Int.gcd_dvd_right ..
    have h3 : ((Int.gcd y (x.fmod y) : Nat) : Int) ∣ x := by
      have := Int.dvd_add h2 (Int.dvd_trans h1 (Int.dvd_mul_right y (x.fdiv y)))
      rwa [e] at this
    exact Int.natCast_dvd_natCast.mp (Int.dvd_coe_gcd h3 h1)
  . have h1 : ((Int.gcd x y : Nat) : Int) ∣ x := Int.gcd_dvd_left ..
    have h2 : ((Int.gcd x y : Nat) : Int) ∣ y := Int.gcd_dvd_right ..
    have h3 : ((Int.gcd x y : Nat) : Int) ∣ x.fmod y := by
      have : x.fmod y = x - y * (x.fdiv y) := by omega
      rw [this]
      exact Int.dvd_sub h1 (Int.dvd_trans h2 (Int.dvd_mul_right y (x.fdiv y)))
    exact Int.natCast_dvd_natCast.mp (Int.dvd_coe_gcd h2 h3)
theorem Ael (x : Int) {y : Int} (h : y ≠ 0) : (x.fmod y).natAbs < y.natAbs := by
  rcases Int.lt_or_gt_of_ne h with h | h
  . have e : (-x).fmod (-y) = -x.fmod y := Int.neg_fmod_neg x y
    have h1 := Int.fmod_nonneg_of_pos (-x) (show 0 < -y by omega)
    have h2 := Int.fmod_lt_of_pos (-x) (show 0 < -y by omega)
    omega
  . have h1 := Int.fmod_nonneg_of_pos x h
    have h2 := Int.fmod_lt_of_pos x h
    omega
theorem pos_r {u y : Int} (hu : 0 < u) (h : 0 < u * y) : 0 < y := by
  refine Classical.byContradiction fun n => ?_
  have := Int.mul_nonneg (Int.le_of_lt hu) (show 0 <= -y by omega)
  rw [Int.mul_neg] at this
  omega
def O5 (_ : PySem.W.Frag) : Sp := fun vs H Q _ => ∃ a b : Int, vs = [.int a, .int b] /\ Q (.int (Int.gcd a b : Nat)) H
theorem Ae3 {f : Addr} {fd : FuncData} (F : Df K mg "_law_gcd" Xo ["_law_one", "_law_other"] f fd) (z_abs : mg "abs" = none)   : Cal P w K mg base 1 "_law_gcd" ["_law_one", "_law_other"] (O5 K) := by
  refine F.cal (F.fn.ok Ym (fun vs H Q E h => ?_) (fun cdv A outer s H vs Q E hr h => ?_))
  . obtain ⟨a, b, rfl, _⟩ := h
    rfl
  obtain ⟨a, b, rfl, q⟩ := h
  refine S.Ay ⟨_, (S.Ad (S.Fp PassesOwn.never (S.Aj R9 (S.pv 1) S.Ab (Ak _)) (S.Ae (S.Ks (i := 0) (j := 1) rfl Ym.nd rfl rfl (by decide) rfl rfl (S.Aa (S.pv 1) (S.Aa (S.Ah Ah9 (S.pv 0) (S.pv 1)) S.Ac)) rfl)))
      (S.Ae (S.Al (S.Cr Mt rfl z_abs PyProof.Rows.boot_abs (S.Aa (S.pv 0) S.Ac))))), ?_⟩
  contradiction
  refine K4 (fun σ H' => H' = H /\ ∃ x y : Int, σ = [some (.int x), some (.int y)] /\ Int.gcd x y = Int.gcd a b) (fun σ _ => match σ with | [_, some (.int y)] => y.natAbs | _ => 0) ⟨rfl, a, b, rfl, rfl⟩ ?_
  rintro σ H' ⟨rfl, x, y, rfl, e⟩
  contradiction
  by_cases h0 : y = 0
  . rw [if_pos h0]
    subst h0
    rw [Int.gcd_zero_right] at e
    simp only [Hy, Eo, Hs, Hl, Ep, Hu, Bx, Ie, Et, Em, z_c, Ox, Ro, Pq, Hg, Qm, Hi, Hz, G3, G4, Ds, Rt, Il, Ig, Ia, Ej, Eh, G5, Hw, Rq, Fj, Hv, Dw, Qt, Ek, Ho, Fl, Q5, Im, Hq, Cg, Fi, Er, Ei, Ci, Ey, Hh, Ij, G9, Gs, Qh, Bp, Ec, Hr, Rf, Ib, En, Hj, Ii, Dz, Ik, Fg, Fe, Fb, Cp, Hx, Cm, Ez, Ea, Ef, G7, Dy, Ew, Es, Ck, El, Qp, cpσ, List.getElem?_cons_zero, List.getElem?_cons_succ, Option.join_some, List.set_cons_zero, List.set_cons_succ, List.append_nil, decide_eq_true_eq, Bool.not_eq_true', decide_eq_false_iff_not, Bool.not_not, ite_not, Bool.false_eq_true, Bool.true_eq_false, if_false, if_true, if_pos, List.length_cons, List.length_nil, Nat.zero_add, Nat.reduceAdd, Ed, Eb, true_and, and_true, L2.start, List.map_cons, List.map_nil, Bool.not_true, Bool.not_false, Nat.reduceSub, List.replicate_succ, List.replicate_zero, List.cons_append, List.nil_append, abs_eq]
    rw [e]
    exact q
  . rw [if_neg h0]
    refine Abd ?_
    contradiction
    exact ⟨h0, ⟨y, x.fmod y, rfl, by rw [Adf]; exact e⟩, Ael x h0⟩
def Ak7 (x : Int) : Int := (if 0 < x then 1 else 0) - (if x < 0 then 1 else 0)
theorem Mj (x : Int) : Ak7 x = 0 ↔ x = 0 := by
  unfold Ak7
  split <;> split <;> omega
def Fz (n : Nat) (K : PySem.W.Frag) (H : Hp) (v : V) (t b : Int) : Prop := (∃ a, v = .ref a /\ SqT K H a [.int t, .int b]) /\ Sz n t /\ Sz n b /\ 0 < b
theorem Fz.mono {n : Nat} {H H' : Hp} {v : V} {t b : Int} (h : Fz n K H v t b) (s : Same H H') : Fz n K H' v t b := by
  obtain ⟨⟨a, e, ha⟩, r⟩ := h
  exact ⟨⟨a, e, s.tup ha⟩, r⟩
theorem Fz.up {n m : Nat} {H : Hp} {v : V} {t b : Int} (h : Fz n K H v t b) (l : n <= m) : Fz m K H v t b := ⟨h.1, h.2.1.mono l, h.2.2.1.mono l, h.2.2.2⟩
theorem Fz.put {n : Nat} {H : Hp} {v : V} {t b : Int} {p : Addr} {acc : List V} {o : HO} (h : Fz n K H v t b) (hp : H p = some (.lst acc)) : Fz n K (upd H p o) v t b := by
  obtain ⟨⟨a, e, ha⟩, r⟩ := h
  exact ⟨⟨a, e, Q9 ha hp⟩, r⟩
theorem Aez {n : Nat} {H H1 : Hp} {Q : VK} {v : V} {t b : Int} (h : Fz n K H1 v t b) (s : Same H1 H) (q : Q (.int t) H) : Aib K v (.int 0) H Q := by
  obtain ⟨⟨a, rfl, ha⟩, _⟩ := h.mono s
  exact Dn ha (at0 _ _) q
theorem Adx {n : Nat} {H H1 : Hp} {Q : VK} {v : V} {t b : Int} (h : Fz n K H1 v t b) (s : Same H1 H) (q : Q (.int b) H) : Aib K v (.int 1) H Q := by
  obtain ⟨⟨a, rfl, ha⟩, _⟩ := h.mono s
  exact Dn ha (at1 _ _ _) q
def J2 (K : PySem.W.Frag) : Sp := fun vs H Q _ => ∃ (t b : Int) (n : Nat), vs = [.int t, .int b] /\ Sz n t /\ Sz n b /\ n <= 1000 /\ 0 < b /\ ∀ z H' t' b', Same H H' -> Fz n K H' z t' b' -> t'.natAbs <= t.natAbs -> b' <= b -> t' * b = t * b' -> Int.gcd t' b' = 1 -> Q z H'
theorem Uk {f : Addr} {fd : FuncData} (F : Df K mg "_law_fraction" Kv ["_law_top", "_law_bottom"] f fd)   (c_q_gcd : Cal P w K mg base 1 "_law_gcd" ["_law_one", "_law_other"] (O5 K)) : Cal P w K mg base 2 "_law_fraction" ["_law_top", "_law_bottom"] (J2 K) := by
  refine F.cal (F.fn.ok Mu (fun vs H Q E h => ?_) (fun cdv A outer s H vs Q E hr h => ?_))
  . obtain ⟨t, b, n, rfl, _⟩ := h
    rfl
  obtain ⟨t, b, n, rfl, zt, zb, hn, hb, k⟩ := h
  refine S.Ay ⟨_, (S.Ad (S.Ai (i := 2) Mu.nd rfl (Or.inl rfl) (S.Am c_q_gcd (hr.mono (by decide)) (S.Aa (S.pv 0) (S.Aa (S.pv 1) S.Ac))))
      (S.Ae (S.Al (S.Aw (S.Aa (S.Ah Ip (S.pv 0) (S.pv 2)) (S.Aa (S.Ah Ip (S.pv 1) (S.pv 2)) S.Ac)))))), ?_⟩
  contradiction
  refine ⟨t, b, rfl, ?_⟩
  have g0 : 0 < Int.gcd t b := Int.gcd_pos_of_ne_zero_right t (by omega)
  have gz : Sz n ((Int.gcd t b : Nat) : Int) := zb.of_abs (by
    have := Nat.le_of_dvd (by omega) (Int.gcd_dvd_natAbs_right t b)
    omega)
  have gd : ((Int.gcd t b : Nat) : Int) ∣ b := Int.gcd_dvd_right ..
  have gt : ((Int.gcd t b : Nat) : Int) ∣ t := Int.gcd_dvd_left ..
  generalize hg : Int.gcd t b = g at *
  have hc : ∀ x, Ait x (g : Int) := fun x => ⟨by omega, gz.log2 (by omega) (by omega)⟩
  try contradiction
  refine ⟨hc _, hc _, ?_⟩
  rw [Int.fdiv_eq_ediv_of_nonneg _ (by omega), Int.fdiv_eq_ediv_of_nonneg _ (by omega)]
  obtain ⟨c, rfl⟩ := gt
  obtain ⟨d, rfl⟩ := gd
  have g1 : (0 : Int) < g := by omega
  rw [Int.mul_ediv_cancel_left _ (by omega), Int.mul_ediv_cancel_left _ (by omega)]
  have d0 : 0 < d := pos_r g1 hb
  have ac : c.natAbs <= ((g : Int) * c).natAbs := by
    rw [Int.natAbs_mul, Int.natAbs_natCast]
    exact Nat.le_mul_of_pos_left _ g0
  have ad : d.natAbs <= ((g : Int) * d).natAbs := by
    rw [Int.natAbs_mul, Int.natAbs_natCast]
    exact Nat.le_mul_of_pos_left _ g0
  intro q hq
  exact k _ _ c d (Same.upd hq _) ⟨⟨q, rfl, .of Af⟩, zt.of_abs ac, zb.of_abs ad, d0⟩ ac (by omega) (by grind) (by
    rw [Int.gcd_mul_left, Int.natAbs_natCast] at hg
    exact Nat.eq_of_mul_eq_mul_left g0 (by rw [hg, Nat.mul_one]))
def Ti (K : PySem.W.Frag) : Sp := fun vs H Q _ => ∃ c : Int, vs = [.int c] /\ ∀ z H' t b, Same H H' -> Fz 140 K H' z t b -> Int.gcd t b = 1 -> Q z H'
theorem Ze {f : Addr} {fd : FuncData} (F : Df K mg "_law_drawn" Pz ["_law_cell"] f fd)   (c_q_fraction : Cal P w K mg base 2 "_law_fraction" ["_law_top", "_law_bottom"] (J2 K)) : Cal P w K mg base 3 "_law_drawn" ["_law_cell"] (Ti K) := by
  refine F.cal (F.fn.ok Y6 (fun vs H Q E h => ?_) (fun cdv A outer s H vs Q E hr h => ?_))
  . obtain ⟨c, rfl, _⟩ := h
    rfl
  obtain ⟨c, rfl, k⟩ := h
  refine S.Ay ⟨_, (S.Ad (S.Ca (S.Aj Fx (S.Ah Bv (S.pv 0) S.Ab) S.Ab (Ak _)) (S.Ae (S.Al (S.Am c_q_fraction (hr.mono (by decide)) (S.Aa (S.Ah Dd (S.Ah Bv (S.Ah Bk (S.pv 0) S.Ab) S.Ab) S.Ab) (S.Aa (S.Ah Bw S.Ab (S.Ah Bv (S.Ah Bk (S.pv 0) S.Ab) S.Ab)) S.Ac))))) S.Ax)
      (S.Ad (S.Ca (S.Aj Fx (S.Ah Bv (S.pv 0) S.Ab) S.Ab (Ak _)) (S.Ae (S.Al (S.Aw (S.Aa (S.Ah Dd (S.Ah Bv (S.Ah Bk (S.pv 0) S.Ab) (S.Ah Qc S.Ab S.Ab)) (S.Ah Bb S.Ab (S.Ah Qc S.Ab S.Ab))) (S.Aa S.Ab S.Ac))))) S.Ax)
      (S.Ae (S.Al (S.Am c_q_fraction (hr.mono (by decide)) (S.Aa (S.Ah Dd (S.Ah Bv (S.Ah Bk (S.pv 0) S.Ab) (S.Ah Qc S.Ab S.Ab)) (S.Ah Bb S.Ab (S.Ah Qc S.Ab S.Ab))) (S.Aa (S.Ah Bw S.Ab (S.Ah Bv (S.Ah Bk (S.Ah Bk (S.pv 0) S.Ab) (S.Ah Qc S.Ab S.Ab)) (S.Ah Qc S.Ab S.Ab))) S.Ac))))))), ?_⟩
  contradiction
  have e9 : (10 : Int) ^ Int.toNat 9 = 1000000000 := by decide
  have e8 : (10 : Int) ^ Int.toNat 8 = 100000000 := by decide
  have p30 : (0 : Int) < 10 ^ Int.toNat 30 /\ (10 : Int) ^ Int.toNat 30 < 2 ^ 100 := by decide
  have p29 : (0 : Int) < 10 ^ Int.toNat 29 /\ (10 : Int) ^ Int.toNat 29 < 2 ^ 97 := by decide
  refine ⟨by decide, ?_⟩
  split
  . exact ⟨⟨by decide, by decide⟩, by decide, ⟨by decide, by decide⟩, by decide, _, _, 140, rfl, by unfold Sz; omega, by unfold Sz; omega, by decide, by omega, fun z H' t' b' s i _ _ _ g1 => k z H' t' b' s i g1⟩
  refine ⟨by decide, ?_⟩
  split
  . refine ⟨⟨by decide, by decide⟩, ⟨by decide, by decide, by decide⟩, by decide, ⟨by decide, by decide, by decide⟩, .of_left (Vq (by unfold Sz; decide : Sz 3 (5 : Int)) (by decide)), fun q hq => k _ _ _ _ (Same.upd hq _) ⟨⟨q, rfl, .of Af⟩, ?_, by unfold Sz; decide, by decide⟩ (Int.gcd_one_right _)⟩
    rw [e9, e8]
    unfold Sz
    omega
  . have m0 := Int.emod_nonneg (c / 3) (Int.ne_of_gt p30.1)
    have m1 := Int.emod_lt_of_pos (c / 3) p30.1
    have m2 := Int.emod_nonneg (c / 3 / 10 ^ Int.toNat 30) (Int.ne_of_gt p30.1)
    have m3 := Int.emod_lt_of_pos (c / 3 / 10 ^ Int.toNat 30) p30.1
    refine ⟨⟨by decide, by decide⟩, ⟨by decide, by decide, by decide⟩, by decide, ⟨by decide, by decide, by decide⟩, .of_left (Vq (by unfold Sz; decide : Sz 3 (5 : Int)) (by decide)), ⟨by decide, by decide⟩, ⟨by decide, by decide, by decide⟩, ⟨by decide, by decide⟩, ⟨by decide, by decide, by decide⟩, by decide, _, _, 140, rfl, ?_, ?_, by decide, by omega, fun z H' t' b' s i _ _ _ g1 => k z H' t' b' s i g1⟩
    . generalize c / 3 % 10 ^ Int.toNat 30 = r at *
      unfold Sz
      omega
    . generalize c / 3 / 10 ^ Int.toNat 30 % 10 ^ Int.toNat 30 = r at *
      unfold Sz
      omega
def Vi (K : PySem.W.Frag) : Sp := fun vs H Q _ => ∃ (x y : V) (t b t' b' : Int), vs = [x, y] /\ Fz 1000 K H x t b /\ Fz 1000 K H y t' b' /\ Q (.bl (decide (t * b' < t' * b))) H
theorem Abr {f : Addr} {fd : FuncData} (F : Df K mg "_law_less" T6 ["_law_one", "_law_other"] f fd)    : Cal P w K mg base 1 "_law_less" ["_law_one", "_law_other"] (Vi K) := by
  refine F.cal (F.fn.ok Adb (fun vs H Q E h => ?_) (fun cdv A outer s H vs Q E hr h => ?_))
  . obtain ⟨x, y, _, _, _, _, rfl, _⟩ := h
    rfl
  obtain ⟨x, y, t, b, t', b', rfl, hx, hy, k⟩ := h
  refine S.Ay ⟨_, (S.Ae (S.Al (S.Cy Nt (S.Ah Bb (S.Az Av (S.pv 0) S.Ab (fun _ _ => rfl)) (S.Az Av (S.pv 1) S.Ab (fun _ _ => rfl))) (S.Ah Bb (S.Az Av (S.pv 1) S.Ab (fun _ _ => rfl)) (S.Az Av (S.pv 0) S.Ab (fun _ _ => rfl))) (Ak _)))), ?_⟩
  contradiction
  refine Aez hx (Same.refl _) ?_
  try contradiction
  refine Adx hy (Same.refl _) ?_
  try contradiction
  refine ⟨hx.2.1.mulOk hy.2.2.1 (by decide), Aez hy (Same.refl _) ?_⟩
  try contradiction
  refine Adx hx (Same.refl _) ?_
  try contradiction
  exact ⟨hy.2.1.mulOk hx.2.2.1 (by decide), k⟩
def Aas (K : PySem.W.Frag) : Sp := fun vs H Q _ => ∃ (x y : V) (t b t' b' : Int), vs = [x, y] /\ Fz 1000 K H x t b /\ Fz 1000 K H y t' b' /\ Q (.bl (decide (t * b' < t' * b))) H
theorem Aic {f : Addr} {fd : FuncData} (F : Df K mg "less" Aag ["one", "other"] f fd)    : Cal P w K mg base 1 "less" ["one", "other"] (Aas K) := by
  refine F.cal (F.fn.ok Ag2 (fun vs H Q E h => ?_) (fun cdv A outer s H vs Q E hr h => ?_))
  . obtain ⟨x, y, _, _, _, _, rfl, _⟩ := h
    rfl
  obtain ⟨x, y, t, b, t', b', rfl, hx, hy, k⟩ := h
  refine S.Ay ⟨_, (S.Ae (S.Al (S.Cy Nt (S.Ah Bb (S.Az Av (S.pv 0) S.Ab (fun _ _ => rfl)) (S.Az Av (S.pv 1) S.Ab (fun _ _ => rfl))) (S.Ah Bb (S.Az Av (S.pv 1) S.Ab (fun _ _ => rfl)) (S.Az Av (S.pv 0) S.Ab (fun _ _ => rfl))) (Ak _)))), ?_⟩
  contradiction
  refine Aez hx (Same.refl _) ?_
  try contradiction
  refine Adx hy (Same.refl _) ?_
  try contradiction
  refine ⟨hx.2.1.mulOk hy.2.2.1 (by decide), Aez hy (Same.refl _) ?_⟩
  try contradiction
  refine Adx hx (Same.refl _) ?_
  try contradiction
  exact ⟨hy.2.1.mulOk hx.2.2.1 (by decide), k⟩
theorem Ahj {t b : Int} {n u : Nat} (ht : Sz u t) (hb : Sz u b) : ∀ p : List Int, (∀ x ∈ p, Sz n x) -> Sz (n + (u + 2) * p.length) (hv p t b)
  | [], _ => Abn
  | w :: r, h => by
    have z1 := Ahj ht hb r fun x hx => h x (List.mem_cons_of_mem _ hx)
    have z2 := (h w (by simp)).mul (Lz hb r.length)
    rw [hv]
    have e : u * r.length <= (u + 2) * r.length := Nat.mul_le_mul_right _ (by omega)
    refine ((z1.mul ht).add z2).mono ?_
    rw [List.length_cons, Nat.mul_succ]
    omega
def Nf (K : PySem.W.Frag) : Sp := fun vs H Q _ => ∃ (a : Addr) (p : List Int) (x y : Int) (n m : Nat), vs = [.ref a, .int x, .int y] /\ SqT K H a (p.map V.int) /\ p.length <= 8 /\ (∀ x ∈ p, Sz n x) /\ Sz m x /\ Sz m y /\ n <= 200000 /\ m <= 2000 /\ Q (.int (hv p x y)) H
theorem Aac {f : Addr} {fd : FuncData} (F : Df K mg "_law_homog" Qz ["_law_p", "_law_x", "_law_y"] f fd) (z_reversed : mg "reversed" = none)   : Cal P w K mg base 1 "_law_homog" ["_law_p", "_law_x", "_law_y"] (Nf K) := by
  refine F.cal (F.fn.ok Gx (fun vs H Q E h => ?_) (fun cdv A outer s H vs Q E hr h => ?_))
  . obtain ⟨a, p, x, y, _, _, rfl, _⟩ := h
    rfl
  obtain ⟨a, p, x, y, n, m, rfl, ha, hl, hw, zx, zy, hn, hm, k⟩ := h
  refine S.Ay ⟨_, (S.Ad (S.Ai (i := 3) Gx.nd rfl (Or.inl rfl) S.Ab)
      (S.Ad (S.Ai (i := 4) Gx.nd rfl (Or.inl rfl) S.Ab)
      (S.Ad (S.Du PassesOwn.never rfl (S.Aaj rfl z_reversed (S.Aa (S.pv 0) S.Ac)) (S.Ar (i := 5) Gx.nd rfl (Or.inl rfl)) (S.Ad (S.Ai (i := 3) Gx.nd rfl (Or.inl rfl) (S.Ah Bw (S.Ah Bb (S.pv 3) (S.pv 1)) (S.Ah Bb (S.pv 5) (S.pv 4))))
      (S.Ae (S.Ai (i := 4) Gx.nd rfl (Or.inl rfl) (S.Ah Bb (S.pv 4) (S.pv 2))))))
      (S.Ae (S.Al (S.pv 3)))))), ?_⟩
  contradiction
  refine ⟨_, ha, ?_⟩
  rw [List.length_map]
  refine R6 (es := p.reverse) (inj := V.int) (fun pre σ H' => H' = H /\ ∃ o : Option V, σ = [some (.ref a), some (.int x), some (.int y), some (.int (hv pre.reverse x y)), some (.int (y ^ pre.length)), o]) ⟨rfl, none, by simp [hv]⟩ ?_ ?_ ?_
  . rintro pre σ H' ⟨rfl, _⟩
    exact Aa2 ha
  . rintro pre e post σ H' he ⟨rfl, o, rfl⟩
    have hpl : pre.length <= 8 := by
      have := congrArg List.length he
      simp at this
      omega
    have mem : ∀ z ∈ pre.reverse, Sz n z := fun z hz => hw z (by
      have : z ∈ p.reverse := by rw [he]; exact List.mem_append_left _ (List.mem_reverse.mp hz)
      exact List.mem_reverse.mp this)
    have he' : Sz n e := hw e (by
      have : e ∈ p.reverse := by rw [he]; simp
      exact List.mem_reverse.mp this)
    have z1 := Ahj zx zy pre.reverse mem
    rw [List.length_reverse] at z1
    have z2 := Lz zy pre.length
    have b1 : (m + 2) * pre.length <= (m + 2) * 8 := Nat.mul_le_mul_left _ hpl
    have b2 : m * pre.length <= m * 8 := Nat.mul_le_mul_left _ hpl
    contradiction
    refine ⟨z1.mulOk zx (by omega), he'.mulOk z2 (by omega), z2.mulOk zy (by omega), ?_⟩
    try contradiction
    refine ⟨some (.int e), ?_⟩
    rw [List.reverse_append, List.reverse_singleton, List.singleton_append, hv, List.length_reverse, List.length_append, List.length_singleton, Int.pow_succ]
  . rintro σ H' ⟨rfl, o, rfl⟩
    contradiction
    rw [List.reverse_reverse]
    exact k
theorem Ai9 {H H1 : Hp} {Q : VK} {E : XK} {a : Addr} {p : List Int} {x y : Int} (h : SqT K H1 a (p.map V.int)) (s1 : Same H1 H) (hl : p.length <= 8) (hw : ∀ x ∈ p, Sz 50 x) (zx : Sz 2000 x) (zy : Sz 2000 y) (q : Q (.int (hv p x y)) H) : Nf K [.ref a, .int x, .int y] H Q E :=
  ⟨a, p, x, y, 50, 2000, rfl, s1.tup h, hl, hw, zx, zy, by decide, Nat.le_refl _, q⟩
def Vx (K : PySem.W.Frag) : Sp := fun vs H Q _ => ∃ (a : Addr) (v : V) (p : List Int) (t b : Int), vs = [.ref a, v] /\ SqT K H a (p.map V.int) /\ p.length <= 8 /\ (∀ x ∈ p, Sz 50 x) /\ Fz 1000 K H v t b /\ Q (.int (Ak7 (hv p t b))) H
theorem Adu {f : Addr} {fd : FuncData} (F : Df K mg "_law_sign" Um ["_law_p", "_law_r"] f fd) (z_int : mg "int" = none)  (c_q_homog : Cal P w K mg base 1 "_law_homog" ["_law_p", "_law_x", "_law_y"] (Nf K)) : Cal P w K mg base 2 "_law_sign" ["_law_p", "_law_r"] (Vx K) := by
  refine F.cal (F.fn.ok Wm (fun vs H Q E h => ?_) (fun cdv A outer s H vs Q E hr h => ?_))
  . obtain ⟨a, v, _, _, _, rfl, _⟩ := h
    rfl
  obtain ⟨a, v, p, t, b, rfl, ha, hl, hw, hf, k⟩ := h
  refine S.Ay ⟨_, (S.Ad (S.Ai (i := 2) Wm.nd rfl (Or.inl rfl) (S.Am c_q_homog (hr.mono (by decide)) (S.Aa (S.pv 0) (S.Aa (S.Az Av (S.pv 1) S.Ab (fun _ _ => rfl)) (S.Aa (S.Az Av (S.pv 1) S.Ab (fun _ _ => rfl)) S.Ac)))))
      (S.Ae (S.Al (S.Ah Dd (S.Dq Vg rfl z_int PyProof.Rows.boot_int (S.Aa (S.Cy Nu (S.pv 2) S.Ab (Ak _)) S.Ac)) (S.Dq Vg rfl z_int PyProof.Rows.boot_int (S.Aa (S.Cy Nt (S.pv 2) S.Ab (Ak _)) S.Ac)))))), ?_⟩
  contradiction
  refine Aez hf (Same.refl _) ?_
  try contradiction
  refine Adx hf (Same.refl _) ?_
  try contradiction
  refine Ai9 ha (Same.refl _) hl hw (hf.2.1.mono (by decide)) (hf.2.2.1.mono (by decide)) ?_
  try contradiction
  exact k
def sgI (n : Int) : Int := if n = 0 then 0 else if 0 < n then 1 else -1
theorem Ow (x : Int) : sgI x = 0 ↔ x = 0 := by
  unfold sgI
  split <;> (try split) <;> omega
def J9 (_ : PySem.W.Frag) : Sp := fun vs H Q _ => ∃ n : Int, vs = [.int n] /\ Q (.int (sgI n)) H
theorem Oj {f : Addr} {fd : FuncData} (F : Df K mg "sign_of_whole" G6 ["number"] f fd)    : Cal P w K mg base 1 "sign_of_whole" ["number"] (J9 K) := by
  refine F.cal (F.fn.ok Ol (fun vs H Q E h => ?_) (fun cdv A outer s H vs Q E hr h => ?_))
  . obtain ⟨n, rfl, _⟩ := h
    rfl
  obtain ⟨n, rfl, k⟩ := h
  refine S.Ay ⟨_, (S.Ad (S.Ca (S.Aj Fx (S.pv 0) S.Ab (Ak _)) (S.Ae (S.Al S.Ab)) S.Ax)
      (S.Ae (S.Al (S.K1 (S.Aj Nu (S.pv 0) S.Ab (Ak _)) S.Ab (S.Dp Bt S.Ab))))), ?_⟩
  contradiction
  unfold sgI at k
  split
  . rename_i h
    rw [if_pos h] at k
    exact k
  . rename_i h
    rw [if_neg h] at k
    split
    . rename_i h'
      rw [if_pos h'] at k
      exact k
    . rename_i h'
      rw [if_neg h'] at k
      exact k
def Ld (K : PySem.W.Frag) : Sp := fun vs H Q _ => ∃ (a : Addr) (v : V) (p : List Int) (t b : Int) (n : Nat), vs = [.ref a, v] /\ SqT K H a (p.map V.int) /\ p.length <= 8 /\ (∀ x ∈ p, Sz n x) /\ n <= 2000 /\ Fz 1000 K H v t b /\ Q (.int (hv p t b)) H
theorem R8 {f : Addr} {fd : FuncData} (F : Df K mg "whole_value" Jv ["one", "point"] f fd) (z_reversed : mg "reversed" = none)   : Cal P w K mg base 1 "whole_value" ["one", "point"] (Ld K) := by
  refine F.cal (F.fn.ok Cd (fun vs H Q E h => ?_) (fun cdv A outer s H vs Q E hr h => ?_))
  . obtain ⟨a, v, _, _, _, _, rfl, _⟩ := h
    rfl
  obtain ⟨a, v, p, x, y, n, rfl, ha, hl, hw, hn, ⟨⟨c, rfl, hc⟩, zx, zy, py⟩, k⟩ := h
  refine S.Ay ⟨_, (S.Ad (S.Gg (S.pv 1) (S.Gu rfl (S.Bj (S.Ar (i := 5) Cd.nd rfl (Or.inl rfl)) (S.Bj (S.Ar (i := 6) Cd.nd rfl (Or.inl rfl)) S.Gf))))
      (S.Ad (S.Ai (i := 2) Cd.nd rfl (Or.inl rfl) S.Ab)
      (S.Ad (S.Ai (i := 3) Cd.nd rfl (Or.inl rfl) S.Ab)
      (S.Ad (S.Du PassesOwn.never rfl (S.Aaj rfl z_reversed (S.Aa (S.pv 0) S.Ac)) (S.Ar (i := 4) Cd.nd rfl (Or.inl rfl)) (S.Ad (S.Ai (i := 2) Cd.nd rfl (Or.inl rfl) (S.Ah Bw (S.Ah Bb (S.pv 2) (S.pv 5)) (S.Ah Bb (S.pv 4) (S.pv 3))))
      (S.Ae (S.Ai (i := 3) Cd.nd rfl (Or.inl rfl) (S.Ah Bb (S.pv 3) (S.pv 6))))))
      (S.Ae (S.Al (S.pv 2))))))), ?_⟩
  contradiction
  refine Ka hc ?_
  contradiction
  refine ⟨_, ha, ?_⟩
  rw [List.length_map]
  refine R6 (es := p.reverse) (inj := V.int) (fun pre σ H' => H' = H /\ ∃ o : Option V, σ = [some (.ref a), some (.ref c), some (.int (hv pre.reverse x y)), some (.int (y ^ pre.length)), o, some (.int x), some (.int y)]) ⟨rfl, none, by simp [hv]⟩ ?_ ?_ ?_
  . rintro pre σ H' ⟨rfl, _⟩
    exact Aa2 ha
  . rintro pre e post σ H' he ⟨rfl, o, rfl⟩
    have hpl : pre.length <= 8 := by
      have := congrArg List.length he
      simp at this
      omega
    have mem : ∀ z ∈ pre.reverse, Sz n z := fun z hz => hw z (by
      have : z ∈ p.reverse := by rw [he]; exact List.mem_append_left _ (List.mem_reverse.mp hz)
      exact List.mem_reverse.mp this)
    have he' : Sz n e := hw e (by
      have : e ∈ p.reverse := by rw [he]; simp
      exact List.mem_reverse.mp this)
    have z1 := Ahj zx zy pre.reverse mem
    rw [List.length_reverse] at z1
    have z2 := Lz zy pre.length
    have b1 : (1000 + 2) * pre.length <= (1000 + 2) * 8 := Nat.mul_le_mul_left _ hpl
    have b2 : 1000 * pre.length <= 1000 * 8 := Nat.mul_le_mul_left _ hpl
    contradiction
    refine ⟨z1.mulOk zx (by omega), he'.mulOk z2 (by omega), z2.mulOk zy (by omega), ?_⟩
    try contradiction
    refine ⟨some (.int e), ?_⟩
    rw [List.reverse_append, List.reverse_singleton, List.singleton_append, hv, List.length_reverse, List.length_append, List.length_singleton, Int.pow_succ]
  . rintro σ H' ⟨rfl, o, rfl⟩
    contradiction
    rw [List.reverse_reverse]
    exact k
def S9 (K : PySem.W.Frag) : Sp := fun vs H Q _ => ∃ (a : Addr) (v : V) (p : List Int) (t b : Int) (n : Nat), vs = [.ref a, v] /\ SqT K H a (p.map V.int) /\ p.length <= 8 /\ (∀ x ∈ p, Sz n x) /\ n <= 2000 /\ Fz 1000 K H v t b /\ Q (.int (sgI (hv p t b))) H
theorem Z6 {f : Addr} {fd : FuncData} (F : Df K mg "sign_at" Qi ["one", "point"] f fd)   (c_sign_of_whole : Cal P w K mg base 1 "sign_of_whole" ["number"] (J9 K)) (c_whole_value : Cal P w K mg base 1 "whole_value" ["one", "point"] (Ld K)) : Cal P w K mg base 2 "sign_at" ["one", "point"] (S9 K) := by
  refine F.cal (F.fn.ok Zf (fun vs H Q E h => ?_) (fun cdv A outer s H vs Q E hr h => ?_))
  . obtain ⟨a, v, _, _, _, _, rfl, _⟩ := h
    rfl
  obtain ⟨a, v, p, x, y, n, rfl, ha, hl, hw, hn, hf, k⟩ := h
  refine S.Ay ⟨_, (S.Ae (S.Al (S.Am c_sign_of_whole (hr.mono (by decide)) (S.Aa (S.Am c_whole_value (hr.mono (by decide)) (S.Aa (S.pv 0) (S.Aa (S.pv 1) S.Ac))) S.Ac)))), ?_⟩
  contradiction
  exact ⟨a, v, p, x, y, n, rfl, ha, hl, hw, hn, hf, ⟨_, rfl, k⟩⟩
def Pts (n : Nat) (K : PySem.W.Frag) (H : Hp) : List V -> List (Int × Int) -> Prop
  | [], [] => True
  | v :: vs, p :: ps => Fz n K H v p.1 p.2 /\ Pts n K H vs ps
  | _, _ => False
theorem Pts.len {n : Nat} {H : Hp} : ∀ {vs : List V} {ps : List (Int × Int)}, Pts n K H vs ps -> vs.length = ps.length
  | [], [], _ => rfl
  | _ :: vs, _ :: ps, h => by rw [List.length_cons, List.length_cons, Pts.len h.2]
theorem Pts.mono {n : Nat} {H H' : Hp} (s : Same H H') : ∀ {vs : List V} {ps : List (Int × Int)}, Pts n K H vs ps -> Pts n K H' vs ps
  | [], [], _ => trivial
  | _ :: _, _ :: _, h => ⟨h.1.mono s, Pts.mono s h.2⟩
theorem Pts.put {n : Nat} {H : Hp} {p : Addr} {acc : List V} {o : HO} (hp : H p = some (.lst acc)) : ∀ {vs : List V} {ps : List (Int × Int)}, Pts n K H vs ps -> Pts n K (upd H p o) vs ps
  | [], [], _ => trivial
  | _ :: _, _ :: _, h => ⟨h.1.put hp, Pts.put hp h.2⟩
theorem Pts.app {n : Nat} {H : Hp} : ∀ {vs ws : List V} {ps qs : List (Int × Int)}, Pts n K H vs ps -> Pts n K H ws qs -> Pts n K H (vs ++ ws) (ps ++ qs)
  | [], _, [], _, _, h => h
  | _ :: _, _, _ :: _, _, h, g => ⟨h.1, Pts.app h.2 g⟩
theorem U4.tups {H : Hp} {n : Nat} : ∀ {us : List V} {cs : List (Int × Int)}, Pts n K H us cs -> U4 K H us (cs.map fun c => PyData.tuple [.int c.1, .int c.2])
  | [], [], _ => .nil
  | _ :: us, c :: cs, h => by
    obtain ⟨⟨⟨a, rfl, ha⟩, _⟩, h2⟩ := h
    exact .cons (RdD.ints (ns := [c.1, c.2]) ha) (U4.tups h2)
theorem X6 : ∀ cs : List (Int × Int), PyData.canLayAll0 (cs.map fun c => PyData.tuple [.int c.1, .int c.2]) = true
  | [] => rfl
  | c :: cs => by simp [PyData.canLayAll0, PyData.canLay0, X6 cs]
theorem Yw : ∀ cs : List (Int × Int), PyData.depthAll (cs.map fun c => PyData.tuple [.int c.1, .int c.2]) <= 8
  | [] => by simp [PyData.depthAll]
  | c :: cs => by
    have := Yw cs
    simp only [List.map_cons, PyData.depthAll, PyData.depth]
    exact Nat.max_le.mpr ⟨by simp, this⟩
theorem Qo (cs : List (Int × Int)) : SeqAt.shaped (.list (cs.map fun c => PyData.tuple [.int c.1, .int c.2])) = true := by
  have h1 := X6 cs
  have h2 := Yw cs
  simp [SeqAt.shaped, PyData.canLay0, PyData.depth, h1]
  omega
theorem Yu : ∀ cs ds : List (Int × Int), PyData.eqvAll (cs.map fun c => PyData.tuple [.int c.1, .int c.2]) (ds.map fun c => PyData.tuple [.int c.1, .int c.2]) = decide (cs = ds)
  | [], [] => by simp [PyData.eqvAll]
  | [], _ :: _ => by simp [PyData.eqvAll]
  | _ :: _, [] => by simp [PyData.eqvAll]
  | a :: r, b :: t => by
    simp only [List.map_cons, PyData.eqvAll, PyData.eqv, Yu r t, Bool.and_true]
    by_cases h' : r = t
    . by_cases h1 : a.1 = b.1 <;> by_cases h2 : a.2 = b.2 <;> simp [h1, h2, h', Prod.ext_iff]
    . simp [h']
theorem Ahi {H : Hp} {g : Bool -> Bool} {Q : VK} {n m : Nat} {a b : Addr} {us vs : List V} {cs ds : List (Int × Int)} (ha : SqL K H a us) (hu : Pts n K H us cs) (hb : SqL K H b vs) (hv : Pts m K H vs ds) (h : Q (.bl (g (decide (cs = ds)))) H) : Aj2 K g (.ref a) (.ref b) H Q :=
  ⟨_, _, .lst ha (U4.tups hu), .lst hb (U4.tups hv), Qo cs, Qo ds, by rw [PyData.eqv, Yu]; exact h⟩
noncomputable def nuB (p : List Int) (t b t' b' : Int) : Bool :=
  decide (t * b' < t' * b) && (decide (hv p t b ≠ 0) && (decide (hv p t' b' ≠ 0) && (decide (chg (Adw p (fst t b (K3 b b')) (fst t' b' (K3 b b')) (K3 b b')) = 1) && (decide (pln p = p) && frB p))))
def Og (K : PySem.W.Frag) : Sp := fun vs H Q _ => ∃ (a : Addr) (v u : V) (p : List Int) (t b t' b' : Int), vs = [.ref a, v, u] /\ SqT K H a (p.map V.int) /\ p.length <= 8 /\ (∀ x ∈ p, Sz 50 x) /\ Fz 150 K H v t b /\ Fz 150 K H u t' b' /\
  ∀ H', Same H H' -> Q (.bl (decide (t * b' < t' * b) && (decide (hv p t b ≠ 0) && (decide (hv p t' b' ≠ 0) && decide (chg (Adw p (fst t b (K3 b b')) (fst t' b' (K3 b b')) (K3 b b')) = 1))))) H'
theorem Vc {f : Addr} {fd : FuncData} (F : Df K mg "holds_one" Ln ["p", "lo", "hi"] f fd)   (c_changes : Cal P w K mg base 1 "changes" ["p"] (Nb K)) (c_less : Cal P w K mg base 1 "less" ["one", "other"] (Aas K)) (c_sign_at : Cal P w K mg base 2 "sign_at" ["one", "point"] (S9 K)) (c_between : Cal P w K mg base 3 "between" ["p", "lo", "hi"] (M9 K)) : Cal P w K mg base 4 "holds_one" ["p", "lo", "hi"] (Og K) := by
  refine F.cal (F.fn.ok Vt (fun vs H Q E h => ?_) (fun cdv A outer s H vs Q E hr h => ?_))
  . obtain ⟨a, v, u, _, _, _, _, _, rfl, _⟩ := h
    rfl
  obtain ⟨a, v, u, p, t, b, t', b', rfl, ha, hl, hw, hv1, hu1, k⟩ := h
  refine S.Ay ⟨_, (S.Ad (S.Ca (S.Ju (S.Jq (S.Hf (S.Gp (S.Am c_less (hr.mono (by decide)) (S.Aa (S.pv 1) (S.Aa (S.pv 2) S.Ac))))) (S.Jq (S.Aj Fx (S.Am c_sign_at (hr.mono (by decide)) (S.Aa (S.pv 0) (S.Aa (S.pv 1) S.Ac))) S.Ab (Ak _)) (S.Iv (S.Aj Fx (S.Am c_sign_at (hr.mono (by decide)) (S.Aa (S.pv 0) (S.Aa (S.pv 2) S.Ac))) S.Ab (Ak _)))))) (S.Ae (S.Al S.Nx)) S.Ax)
      (S.Ae (S.Al (S.Cy Fx (S.Am c_changes (hr.mono (by decide)) (S.Aa (S.Am c_between (hr.mono (by decide)) (S.Aa (S.pv 0) (S.Aa (S.pv 1) (S.Aa (S.pv 2) S.Ac)))) S.Ac)) S.Ab (Ak _))))), ?_⟩
  have hv2 := hv1.up (m := 1000) (by decide)
  have hu2 := hu1.up (m := 1000) (by decide)
  contradiction
  refine ⟨v, u, t, b, t', b', rfl, hv2, hu2, ?_⟩
  by_cases h1 : t * b' < t' * b
  case neg =>
    rw [decide_eq_false h1] at k ⊢
    try contradiction
    exact k _ (Same.refl _)
  rw [decide_eq_true h1] at k ⊢
  try contradiction
  refine ⟨a, v, p, t, b, 50, rfl, ha, hl, hw, by decide, hv2, ?_⟩
  try contradiction
  by_cases h2 : hv p t b = 0
  case pos =>
    rw [if_pos ((Ow _).mpr h2)]
    rw [decide_eq_false (show ¬ hv p t b ≠ 0 from fun z => z h2)] at k
    exact k _ (Same.refl _)
  rw [if_neg (fun z => h2 ((Ow _).mp z))]
  rw [decide_eq_true (show hv p t b ≠ 0 from h2)] at k
  refine ⟨a, u, p, t', b', 50, rfl, ha, hl, hw, by decide, hu2, ?_⟩
  try contradiction
  by_cases h3 : hv p t' b' = 0
  case pos =>
    rw [if_pos ((Ow _).mpr h3)]
    rw [decide_eq_false (show ¬ hv p t' b' ≠ 0 from fun z => z h3)] at k
    exact k _ (Same.refl _)
  rw [if_neg (fun z => h3 ((Ow _).mp z))]
  rw [decide_eq_true (show hv p t' b' ≠ 0 from h3)] at k
  refine ⟨a, v, u, p, t, b, t', b', rfl, ha, hl, hw, hv1, hu1, fun z H1 s1 i1 => ?_⟩
  obtain ⟨⟨c, rfl, hc⟩, _⟩ := i1
  try contradiction
  refine ⟨c, _, rfl, hc, ?_⟩
  try contradiction
  rw [show decide (((chg (Adw p (fst t b (K3 b b')) (fst t' b' (K3 b b')) (K3 b b')) : Nat) : Int) = 1) = decide (chg (Adw p (fst t b (K3 b b')) (fst t' b' (K3 b b')) (K3 b b')) = 1) from decide_eq_decide.mpr ⟨fun h => by omega, fun h => by omega⟩]
  exact k _ s1
theorem Agk {H : Hp} {p : Addr} {u v x : V} {i j l : Nat} {σ : St} {Q : St -> Hp -> Prop} (h : SqT K H p [u, v, x]) (q : Q (((σ.set i (some u)).set j (some v)).set l (some x)) H) : Aip K 3 (Xb (R5 i) (Xb (R5 j) (Xb (R5 l) Akg))) (.ref p) σ H Q := ⟨p, _, rfl, h, rfl, u, _, rfl, v, _, rfl, x, _, rfl, rfl, q⟩
inductive Tn (K : PySem.W.Frag) (H : Hp) : V -> Bool -> Prop where
  | pt {a c d e : Addr} {p : List Int} {t b : Int} (h : SqT K H a [.ref c, .ref d, .ref e]) (hc : SqT K H c (p.map V.int)) (tr : trim p = p) (hl : p.length <= 1000) (hd : SqT K H d [.int t, .int b]) (he : SqT K H e [.int t, .int b]) (lo : low t b = true) : Tn K H (.ref a) (decide (p = [-t, b]))
  | st {a c d e : Addr} {p : List Int} {t b t' b' : Int} (h : SqT K H a [.ref c, .ref d, .ref e]) (hc : Po K H (.ref c) p 8 50) (hd : Fz 150 K H (.ref d) t b) (he : Fz 150 K H (.ref e) t' b') (l1 : low t b = true) (l2 : low t' b' = true) (ne : ¬ [t, b] = [t', b']) : Tn K H (.ref a) (nuB p t b t' b')
  | bad {a : Addr} {u v x : V} {bu bv bx : Bool} (h : SqT K H a [u, v, x]) (hu : Th K H u bu) (hv : Tf K H v bv) (hx : Tf K H x bx) (hb : bu = false \/ bv = false \/ bx = false) : Tn K H (.ref a) false
  | long {a : Addr} {xs : List V} (h : SqT K H a xs) (hl : xs.length ≠ 3) : Tn K H (.ref a) false
  | int (i : Int) : Tn K H (.int i) false
  | non : Tn K H .non false
  | str (x : Str) : Tn K H (.str x) false
  | lst {a : Addr} {xs : List V} (e : H a = some (.lst xs)) : Tn K H (.ref a) false
theorem Fz.two {n : Nat} {H : Hp} {d : Addr} {t b : Int} (h : Fz n K H (.ref d) t b) : SqT K H d [.int t, .int b] := by
  obtain ⟨⟨a, e, ha⟩, _⟩ := h
  cases e
  exact ha
theorem Tf.good {H : Hp} {d : Addr} {t b : Int} (h : SqT K H d [.int t, .int b]) (l : low t b = true) : Tf K H (.ref d) true := by
  rw [<- l]
  exact .two h
theorem Amc : Few 8 58 := ⟨by decide, by decide, by decide, by decide⟩
def Oi (K : PySem.W.Frag) : Sp := fun vs H Q _ => ∃ v b, vs = [v] /\ Tn K H v b /\ ∀ H', Same H H' -> Q (.bl b) H'
theorem Wn {f : Addr} {fd : FuncData} (F : Df K mg "is_number" Lq ["n"] f fd) (z_isinstance : mg "isinstance" = none) (z_tuple : mg "tuple" = none) (z_len : mg "len" = none)  (c_holds_one : Cal P w K mg base 4 "holds_one" ["p", "lo", "hi"] (Og K)) (c_is_free : Cal P w K mg base 10 "is_free" ["one"] (Td K)) (c_is_poly : Cal P w K mg base 2 "is_poly" ["thing"] (M8 K)) (c_is_fraction : Cal P w K mg base 2 "is_fraction" ["thing"] (Lf K)) (c_plain : Cal P w K mg base 5 "plain" ["one"] (Ph K)) : Cal P w K mg base 11 "is_number" ["n"] (Oi K) := by
  refine F.cal (F.fn.ok Ir (fun vs H Q E h => ?_) (fun cdv A outer s H vs Q E hr h => ?_))
  . obtain ⟨v, b, rfl, _⟩ := h
    rfl
  obtain ⟨v, b, rfl, hv, k⟩ := h
  refine S.Ay ⟨_, (S.Ad (S.Ca (S.Ju (S.Jq (S.Hf (S.Gp (S.Cr Uz rfl z_isinstance PyProof.Rows.boot_isinstance (S.Aa (S.pv 0) (S.Aa (S.Jf (v := .ty "tuple") rfl z_tuple PyProof.Rows.boot_tuple rfl) S.Ac))))) (S.Iv (S.Aj R9 (S.Cr Aq rfl z_len PySem.boot_len (S.Aa (S.pv 0) S.Ac)) S.Ab (Ak _))))) (S.Ae (S.Al S.Nx)) S.Ax)
      (S.Ad (S.Gg (S.pv 0) (S.Gu rfl (S.Bj (S.Ar (i := 1) Ir.nd rfl (Or.inl rfl)) (S.Bj (S.Ar (i := 2) Ir.nd rfl (Or.inl rfl)) (S.Bj (S.Ar (i := 3) Ir.nd rfl (Or.inl rfl)) S.Gf)))))
      (S.Ad (S.Ca (S.Ju (S.Jq (S.Hf (S.Gp (S.Am c_is_poly (hr.mono (by decide)) (S.Aa (S.pv 1) S.Ac)))) (S.Jq (S.Hf (S.Gp (S.Am c_is_fraction (hr.mono (by decide)) (S.Aa (S.pv 2) S.Ac)))) (S.Iv (S.Hf (S.Gp (S.Am c_is_fraction (hr.mono (by decide)) (S.Aa (S.pv 3) S.Ac)))))))) (S.Ae (S.Al S.Nx)) S.Ax)
      (S.Ad (S.Ca (S.Aj (Iu hr.units) (S.pv 2) (S.pv 3) (Ak _)) (S.Ae (S.Al (S.Cy (Iu hr.units) (S.pv 1) (S.Aw (S.Aa (S.Dp Bt (S.Az Av (S.pv 2) S.Ab (fun _ _ => rfl))) (S.Aa (S.Az Av (S.pv 2) S.Ab (fun _ _ => rfl)) S.Ac))) (Ak _)))) S.Ax)
      (S.Ae (S.Al (S.Mx (S.Am c_holds_one (hr.mono (by decide)) (S.Aa (S.pv 1) (S.Aa (S.pv 2) (S.Aa (S.pv 3) S.Ac)))) (S.Mx (S.Cy (Iu hr.units) (S.Am c_plain (hr.mono (by decide)) (S.Aa (S.pv 1) S.Ac)) (S.pv 1) (Ak _)) (S.Mp (S.Am c_is_free (hr.mono (by decide)) (S.Aa (S.pv 1) S.Ac))))))))))), ?_⟩
  contradiction
  cases hv with
  | int i =>
    refine isa (.of (.int i)) Ado ?_
    try contradiction
    exact k _ (Same.refl _)
  | non =>
    refine isa (.of .non) Aca ?_
    try contradiction
    exact k _ (Same.refl _)
  | str x =>
    refine isa (.of (.str x)) Ab3 ?_
    try contradiction
    exact k _ (Same.refl _)
  | lst e =>
    refine isa (.of (.lst e)) Acm ?_
    try contradiction
    exact k _ (Same.refl _)
  | @long a xs h hl =>
    refine isa (.tup h) Ml ?_
    contradiction
    refine ⟨_, _, rfl, .inr h, ?_⟩
    try contradiction
    rw [if_neg (show ¬ ((xs.length : Nat) : Int) = 3 by omega)]
    exact k _ (Same.refl _)
  | @bad a u v x bu bv bx h hu hv hx hb =>
    refine isa (.tup h) Ml ?_
    contradiction
    refine ⟨_, _, rfl, .inr h, ?_⟩
    contradiction
    refine Agk h ?_
    contradiction
    refine Ux hu fun H1 s1 => ?_
    try contradiction
    cases bu with
    | false =>
      try contradiction
      exact k _ s1
    | true =>
      try contradiction
      refine ⟨_, _, rfl, hv.mono s1, ?_⟩
      cases bv with
      | false =>
        try contradiction
        exact k _ s1
      | true =>
        try contradiction
        refine ⟨_, _, rfl, hx.mono s1, ?_⟩
        have e : bx = false := by simpa using hb
        subst e
        try contradiction
        exact k _ s1
  | @pt a c d e p t b h hc tr hl hd he lo =>
    refine isa (.tup h) Ml ?_
    contradiction
    refine ⟨_, _, rfl, .inr h, ?_⟩
    contradiction
    refine Agk h ?_
    contradiction
    refine Ux (.nums hc hl) fun H1 s1 => ?_
    rw [decide_eq_true tr]
    try contradiction
    refine ⟨_, _, rfl, .good (s1.tup hd) lo, ?_⟩
    try contradiction
    refine ⟨_, _, rfl, .good (s1.tup he) lo, ?_⟩
    try contradiction
    refine Dh (ns := [t, b]) (ms := [t, b]) (s1.tup hd) (s1.tup he) ?_
    try contradiction
    refine Dn (s1.tup hd) (at0 _ _) ?_
    try contradiction
    refine Dn (s1.tup hd) (at1 _ _ _) ?_
    try contradiction
    (intro q1 hq1; generalize eq1 : upd _ q1 _ = Gq1; obtain ⟨sq1, gq1⟩ := nw hq1 eq1; clear eq1 hq1)
    refine Dh (ns := p) (ms := [-t, b]) ((s1.trans sq1).tup hc) (.of gq1) ?_
    try contradiction
    exact k _ (s1.trans sq1)
  | @st a c d e p t b t' b' h hc hd he l1 l2 ne =>
    obtain ⟨⟨c', ec, hcs⟩, tp, lp, zp⟩ := id hc
    cases ec
    refine isa (.tup h) Ml ?_
    contradiction
    refine ⟨_, _, rfl, .inr h, ?_⟩
    contradiction
    refine Agk h ?_
    contradiction
    refine Ux (.nums hcs (by omega)) fun H1 s1 => ?_
    rw [decide_eq_true (Ry tp)]
    try contradiction
    refine ⟨_, _, rfl, .good (s1.tup hd.two) l1, ?_⟩
    try contradiction
    refine ⟨_, _, rfl, .good (s1.tup he.two) l2, ?_⟩
    try contradiction
    refine Dh (ns := [t, b]) (ms := [t', b']) (s1.tup hd.two) (s1.tup he.two) ?_
    rw [decide_eq_false ne]
    try contradiction
    refine ⟨c, _, _, p, t, b, t', b', rfl, s1.tup hcs, lp, hc.mem, hd.mono s1, he.mono s1, fun H2 s2 => ?_⟩
    have s12 := s1.trans s2
    unfold nuB at k
    by_cases h1 : t * b' < t' * b
    case neg =>
      rw [decide_eq_false h1] at k ⊢
      try contradiction
      exact k _ s12
    by_cases h2 : hv p t b ≠ 0
    case neg =>
      rw [decide_eq_true h1, decide_eq_false h2] at k ⊢
      try contradiction
      exact k _ s12
    by_cases h3 : hv p t' b' ≠ 0
    case neg =>
      rw [decide_eq_true h1, decide_eq_true h2, decide_eq_false h3] at k ⊢
      try contradiction
      exact k _ s12
    by_cases h4 : chg (Adw p (fst t b (K3 b b')) (fst t' b' (K3 b b')) (K3 b b')) = 1
    case neg =>
      rw [decide_eq_true h1, decide_eq_true h2, decide_eq_true h3, decide_eq_false h4] at k ⊢
      try contradiction
      exact k _ s12
    rw [decide_eq_true h1, decide_eq_true h2, decide_eq_true h3, decide_eq_true h4] at k ⊢
    try contradiction
    refine Abp (E := E) hc s12 (by decide) (by decide) fun z H3 s3 i3 => ?_
    obtain ⟨⟨z', rfl, hz⟩, _⟩ := id i3
    try contradiction
    refine Dh hz ((s12.trans s3).tup hcs) ?_
    by_cases h5 : pln p = p
    case neg =>
      rw [decide_eq_false h5] at k ⊢
      try contradiction
      exact k _ (s12.trans s3)
    rw [decide_eq_true h5] at k ⊢
    try contradiction
    exact ⟨_, p, 8, 50, rfl, hc.mono (s12.trans s3), Amc, by decide, fun H4 s4 => k _ ((s12.trans s3).trans s4)⟩
def Vj (K : PySem.W.Frag) : Sp := fun vs H Q _ => ∃ c : Int, vs = [.int c, .int 4] /\ ∀ z H' p, Same H H' -> SqT K H' z (p.map V.int) -> p.length <= 5 -> p ≠ [] -> (∀ x ∈ p, Sz 50 x) -> (∀ h : p ≠ [], p.getLast h ≠ 0) -> Q (.ref z) H'
theorem Aaq {f : Addr} {fd : FuncData} (F : Df K mg "_law_poly" Ub ["_law_cell", "_law_most"] f fd) (z_range : mg "range" = none) (z_tuple : mg "tuple" = none)  (c_q_stirred : Cal P w K mg base 1 "_law_stirred" ["_law_cell", "_law_k"] (Od K)) : Cal P w K mg base 2 "_law_poly" ["_law_cell", "_law_most"] (Vj K) := by
  refine F.cal (F.fn.ok Ih (fun vs H Q E h => ?_) (fun cdv A outer s H vs Q E hr h => ?_))
  . obtain ⟨c, rfl, _⟩ := h
    rfl
  obtain ⟨c, rfl, q⟩ := h
  refine S.Ay ⟨_, (S.Ad (S.Ai (i := 2) Ih.nd rfl (Or.inl rfl) (S.Ah Bv (S.pv 0) (S.Ah Bw (S.pv 1) S.Ab)))
      (S.Ad (S.Ai (i := 3) Ih.nd rfl (Or.inl rfl) (S.Az Dj (S.Gb (S.Aa S.Ab (S.Aa S.Ab (S.Aa S.Ab (S.Aa (S.Ah Bw (S.Ah Bb S.Ab (S.Ah Qc S.Ab S.Ab)) S.Ab) S.Ac))))) (S.Ah Bv (S.Ah Bk (S.pv 0) S.Ab) S.Ab) (fun _ _ => rfl)))
      (S.Ad (S.Ai (i := 4) Ih.nd rfl (Or.inl rfl) (S.Ah Bk (S.pv 0) S.Ab))
      (S.Ad (S.Ai (i := 5) Ih.nd rfl (Or.inl rfl) (S.Gb S.Ac))
      (S.Ad (S.Du PassesOwn.never rfl (S.Gk rfl z_range (S.Aa (S.Ah Bw (S.pv 2) S.Ab) S.Ac)) (S.Ar (i := 6) Ih.nd rfl (Or.inl rfl)) (S.Ae (S.Ca (S.Ju (S.Mv (S.Aj Nu (S.pv 4) S.Ab (Ak _)) (S.Jy (S.Aj Fx (S.Ah Bv (S.Ah Bk (S.pv 0) S.Ab) S.Ab) S.Ab (Ak _))))) (S.Ad (S.J3 (S.Om PySem.F.plainAttrs_list PySem.F.slot_list_append PySem.F.type_list_append Jj (S.pv 5) (S.Aa (S.Ah Dd (S.Ah Bv (S.pv 4) (S.pv 3)) (S.Ah Bk (S.pv 3) S.Ab)) S.Ac)))
      (S.Ae (S.Ai (i := 4) Ih.nd rfl (Or.inl rfl) (S.Ah Bk (S.pv 4) (S.pv 3))))) (S.Ae (S.J3 (S.Om PySem.F.plainAttrs_list PySem.F.slot_list_append PySem.F.type_list_append Jj (S.pv 5) (S.Aa (S.Ah Dd (S.Ah Bv (S.Am c_q_stirred (hr.mono (by decide)) (S.Aa (S.pv 0) (S.Aa (S.pv 6) S.Ac))) (S.pv 3)) (S.Ah Bk (S.pv 3) S.Ab)) S.Ac)))))))
      (S.Ad (S.Ca (S.Aj Fx (S.Az Dj (S.pv 5) (S.Dp Bt S.Ab) (fun _ _ => rfl)) S.Ab (Ak _)) (S.Ae (S.Gg S.Ab (S.J8 (S.pv 5) (S.Dp Bt S.Ab) set_list))) S.Ax)
      (S.Ae (S.Al (S.Dq Dc rfl z_tuple PyProof.Rows.boot_tuple (S.Aa (S.pv 5) S.Ac)))))))))), ?_⟩
  contradiction
  refine ⟨by decide, ⟨by decide, by decide, by decide⟩, .of_left (Vq (by unfold Sz; decide : Sz 2 (2 : Int)) (by decide)), by decide, fun p1 hp1 => ⟨⟨by decide, by decide⟩, by decide, ?_⟩⟩
  have s1 := Same.upd hp1 (.lst [V.int 25, V.int 25, V.int 7, V.int (2 * 10 ^ Int.toNat 12 + 1)])
  have menu : ∃ v, atI [V.int 25, V.int 25, V.int 7, V.int (2 * 10 ^ Int.toNat 12 + 1)] (c / 11 % 4) = some (.int v) /\ 0 < v /\ v < 2 ^ 42 := by
    have : c / 11 % 4 = 0 \/ c / 11 % 4 = 1 \/ c / 11 % 4 = 2 \/ c / 11 % 4 = 3 := by omega
    rcases this with h | h | h | h <;> rw [h]
    . exact ⟨25, rfl, by decide, by decide⟩
    . exact ⟨25, rfl, by decide, by decide⟩
    . exact ⟨7, rfl, by decide, by decide⟩
    . exact ⟨_, rfl, by decide, by decide⟩
  obtain ⟨v, ev, v0, v1⟩ := menu
  refine Lh (.of Af) ev ?_
  try contradiction
  refine ⟨⟨by decide, by decide⟩, by decide, fun p2 hp2 => ⟨by omega, by omega, ?_⟩⟩
  have s2 := s1.trans (Same.upd hp2 (.lst []))
  have h2n : H p2 = none := Same.free s1 hp2
  have wz : ∀ x : Int, Sz 50 (x % v - v / 2) := fun x => by
    have a0 := Int.emod_nonneg x (Int.ne_of_gt v0)
    have a1 := Int.emod_lt_of_pos x v0
    unfold Sz
    omega
  have vz : Aek v 2 := ⟨by decide, by decide⟩
  have vb : ∀ x : Int, Aek x v := fun x => ⟨v0, (by unfold Sz; omega : Sz 42 v).log2 (by omega) (by decide)⟩
  have sz5 : 1000 <= sizeLine := by decide
  refine R6 (es := List.range (c % (4 + 1) + 1).toNat) (inj := fun i => .int (0 + (i : Nat))) (fun pre σ H' => ∃ (part : Int) (o : Option V) (ws : List Int), σ = [some (.int c), some (.int 4), some (.int (c % (4 + 1))), some (.int v), some (.int part), some (.ref p2), o] /\ Same H H' /\ H' p2 = some (.lst (ws.map V.int)) /\ ws.length = pre.length /\ ∀ x ∈ ws, Sz 50 x)
    ⟨_, _, [], rfl, s2, Af, rfl, by simp⟩ ?_ ?_ ?_
  . rintro pre σ H' _
    exact Jm
  . rintro pre e post σ H' he ⟨part, o, ws, rfl, s3, hm, hlw, hw⟩
    have hlen := congrArg List.length he
    rw [List.length_range, List.length_append, List.length_cons] at hlen
    have el : e < 100 := by
      have := List.mem_range.mp (show e ∈ List.range (c % (4 + 1) + 1).toNat by rw [he]; simp)
      omega
    have add : ∀ (w part' : Int), Sz 50 w -> ∃ (part : Int) (o : Option V) (ws' : List Int), [some (V.int c), some (.int 4), some (.int (c % (4 + 1))), some (.int v), some (.int part'), some (.ref p2), some (.int (0 + (e : Nat)))] = [some (.int c), some (.int 4), some (.int (c % (4 + 1))), some (.int v), some (.int part), some (.ref p2), o] /\ Same H (upd H' p2 (.lst (ws.map V.int ++ [.int w]))) /\
        upd H' p2 (.lst (ws.map V.int ++ [.int w])) p2 = some (.lst (ws'.map V.int)) /\ ws'.length = (pre ++ [e]).length /\ ∀ x ∈ ws', Sz 50 x := fun w part' hwz => by
      refine ⟨_, _, ws ++ [w], rfl, fun b u eb => ?_, by rw [Af, List.map_append]; rfl, by rw [List.length_append, List.length_append, hlw]; rfl, fun x hx => ?_⟩
      . rw [Cu (Br eb h2n)]
        exact s3 _ _ eb
      . rcases List.mem_append.mp hx with hx | hx
        . exact hw x hx
        . have ex : x = w := by simpa using hx
          subst ex
          exact hwz
    have ap : ∀ (w part' : Int), Sz 50 w -> Aco (.ref p2) [.int w] H' (fun _ H1 => ∃ (part : Int) (o : Option V) (ws' : List Int), [some (V.int c), some (.int 4), some (.int (c % (4 + 1))), some (.int v), some (.int part'), some (.ref p2), some (.int (0 + (e : Nat)))] = [some (.int c), some (.int 4), some (.int (c % (4 + 1))), some (.int v), some (.int part), some (.ref p2), o] /\ Same H H1 /\
        H1 p2 = some (.lst (ws'.map V.int)) /\ ws'.length = (pre ++ [e]).length /\ ∀ x ∈ ws', Sz 50 x) := fun w part' hwz => ⟨p2, _, _, rfl, rfl, hm, by rw [List.length_map]; omega, add w part' hwz⟩
    have ty : tyV K "list" (.ref p2) H' := .inl ⟨rfl, _, .of hm⟩
    contradiction
    split
    . refine ⟨⟨by decide, by decide⟩, by decide, ?_⟩
      split
      . refine ⟨ty, v0, vz, ?_⟩
        exact ⟨p2, _, _, rfl, rfl, hm, by rw [List.length_map]; omega, vb part, add _ _ (wz part)⟩
      . refine ⟨ty, c, _, rfl, by omega, by omega, fun n => ?_⟩
        try contradiction
        exact ⟨v0, vz, ap _ _ (wz n)⟩
    . refine ⟨ty, c, _, rfl, by omega, by omega, fun n => ?_⟩
      try contradiction
      exact ⟨v0, vz, ap _ _ (wz n)⟩
  . rintro σ H' ⟨part, o, ws, rfl, s3, hm, hlw, hw⟩
    rw [List.length_range] at hlw
    have h0 : ws ≠ [] := fun z => by rw [z] at hlw; simp only [List.length_nil] at hlw; omega
    obtain ⟨ini, d, rfl⟩ : ∃ (i : List Int) (x : Int), ws = i ++ [x] := ⟨_, _, (List.dropLast_concat_getLast h0).symm⟩
    have em : ∀ x : Int, (ini ++ [x]).map V.int = ini.map V.int ++ [V.int x] := fun x => by rw [List.map_append]; rfl
    rw [em] at hm
    rw [List.length_append, List.length_singleton] at hlw
    contradiction
    refine Lh (.of hm) (Pg _ _) ?_
    try contradiction
    by_cases hd : d = 0
    . rw [if_pos hd]
      refine ⟨p2, _, -1, ini.length, rfl, rfl, hm, ?_, ?_⟩
      . unfold ixN
        rw [if_neg (by decide), List.length_append, List.length_map, List.length_singleton, if_pos (by omega)]
        exact congrArg some (by omega)
      . have e : (ini.map V.int ++ [V.int d]).set ini.length (.int 1) = (ini ++ [1]).map V.int := by
          rw [em, List.set_append_right _ _ (by rw [List.length_map]; exact Nat.le_refl _), List.length_map, Nat.sub_self]
          rfl
        rw [e]
        try contradiction
        refine ⟨p2, _, rfl, .inl ⟨.of Af, fun z hz => q z _ (ini ++ [1]) ?_ (.of Af) ?_ (by simp) (fun x hx => ?_) (fun h => by rw [List.getLast_concat]; decide)⟩⟩
        . refine Same.trans (fun b u eb => ?_) (Same.upd hz _)
          rw [Cu (Br eb h2n)]
          exact s3 _ _ eb
        . rw [List.length_append, List.length_singleton]
          omega
        . rcases List.mem_append.mp hx with hx | hx
          . exact hw x (List.mem_append_left _ hx)
          . have ex : x = 1 := by simpa using hx
            subst ex
            unfold Sz
            decide
    . rw [if_neg hd]
      refine ⟨p2, _, rfl, .inl ⟨.of hm, fun z hz => q z _ (ini ++ [d]) (s3.trans (Same.upd hz _)) (by rw [em]; exact .of Af) ?_ (by simp) hw (fun h => by rw [List.getLast_concat]; exact hd)⟩⟩
      rw [List.length_append, List.length_singleton]
      omega
theorem Ah6 {p : List Int} (h : ∀ h : p ≠ [], p.getLast h ≠ 0) : Tr p := by
  by_cases e : p = []
  . exact .inl e
  . exact .inr ⟨e, h e⟩
def lm (u v : Int) : Int -> List Int -> List Int
  | a, [] => [u * a]
  | a, b :: g => (u * a - v * b) :: lm u v b g
theorem Adj (u v : Int) : ∀ (a : Int) (g : List Int), (lm u v a g).length = g.length + 1
  | a, [] => rfl
  | a, b :: g => by rw [lm, List.length_cons, Adj u v b g, List.length_cons]
theorem Aka {u v : Int} (hu : u ≠ 0) : ∀ (a : Int) (g : List Int), (g = [] -> a ≠ 0) -> Tr g -> Tr (lm u v a g)
  | a, [], h, _ => .inr ⟨by simp [lm], by simpa [lm] using Int.mul_ne_zero hu (h rfl)⟩
  | a, b :: g, _, t => by
    have n0 : ∀ g : List Int, ∀ b, lm u v b g ≠ [] := fun g b z => by
      have := congrArg List.length z
      rw [Adj] at this
      simp at this
    have ih : Tr (lm u v b g) := Aka hu b g (fun z => by
      subst z
      rcases t with t | ⟨_, t⟩
      . cases t
      . simpa using t) (by
      rcases t with t | ⟨_, t⟩
      . cases t
      . by_cases z : g = []
        . exact .inl z
        . exact .inr ⟨z, by rw [List.getLast_cons z] at t; exact t⟩)
    rcases ih with ih | ⟨h0, ih⟩
    . exact absurd ih (n0 g b)
    . exact .inr ⟨by simp [lm], (List.getLast_cons (a := u * a - v * b) h0).symm ▸ ih⟩
theorem Ajx {u v : Int} {n : Nat} (hu : Sz 2 u) (hv : Sz 3 v) : ∀ (a : Int) (g : List Int), Sz n a -> (∀ x ∈ g, Sz n x) -> ∀ x ∈ lm u v a g, Sz (n + 4) x
  | a, [], ha, _, x, hx => by
    have e : x = u * a := by simpa [lm] using hx
    subst e
    exact (hu.mul ha).mono (by omega)
  | a, b :: r, ha, hg, x, hx => by
    have hb := hg b (by simp)
    rw [lm] at hx
    rcases List.mem_cons.mp hx with rfl | hx
    . exact ((hu.mul ha).sub (hv.mul hb)).mono (by omega)
    . exact Ajx hu hv b r hb (fun y hy => hg y (by simp [hy])) x hx
def Rts (K : PySem.W.Frag) (H : Hp) (zs : List V) : Prop := ∃ rs : List (Int × Int), Pts 20 K H zs rs /\ ∀ r ∈ rs, Int.gcd r.1 r.2 = 1
theorem Rts.nil (H : Hp) : Rts K H [] := ⟨[], trivial, by simp⟩
theorem Rts.mono {H H' : Hp} {zs : List V} (h : Rts K H zs) (s : Same H H') : Rts K H' zs := by
  obtain ⟨rs, p, g⟩ := h
  exact ⟨rs, p.mono s, g⟩
theorem Rts.snoc {H : Hp} {zs : List V} {p : Addr} {xs : List V} {o : HO} {z : V} {v u : Int} (h : Rts K H zs) (hp : H p = some (.lst xs)) (hf : Fz 20 K (upd H p o) z v u) (g : Int.gcd v u = 1) : Rts K (upd H p o) (zs ++ [z]) := by
  obtain ⟨rs, hP, hg⟩ := h
  refine ⟨rs ++ [(v, u)], Pts.app (hP.put hp) ⟨hf, trivial⟩, fun r hr => ?_⟩
  rcases List.mem_append.mp hr with hr | hr
  . exact hg r hr
  . have : r = (v, u) := by simpa using hr
    rw [this]
    exact g
theorem Rts.head {H : Hp} {r : V} {zs : List V} (h : Rts K H (r :: zs)) : ∃ t b, Fz 20 K H r t b /\ Int.gcd t b = 1 := by
  obtain ⟨rs, hP, hg⟩ := h
  cases rs with
  | nil => exact hP.elim
  | cons c rs => exact ⟨c.1, c.2, hP.1, hg c (by simp)⟩
theorem Ajr {H : Hp} {g : Bool -> Bool} {Q : VK} {a b : Addr} {zs : List V} (ha : H a = some (.lst zs)) (h : Rts K H zs) (hb : H b = some (.lst [])) (q : Q (.bl (g (decide (zs = [])))) H) : Aj2 K g (.ref a) (.ref b) H Q := by
  obtain ⟨rs, hP, _⟩ := h
  refine Ahi (m := 20) (ds := []) (.of ha) hP (.of hb) trivial ?_
  rw [show decide (rs = []) = decide (zs = []) from decide_eq_decide.mpr ⟨fun e => List.eq_nil_of_length_eq_zero (by rw [hP.len, e]; rfl), fun e => List.eq_nil_of_length_eq_zero (by rw [<- hP.len, e]; rfl)⟩]
  exact q
def Oh (K : PySem.W.Frag) : Sp := fun vs H Q _ => ∃ c : Int, vs = [.int c] /\ ∀ z H' A R (p : List Int) (zs : List V), Same H H' -> SqT K H' z [.ref A, .ref R] -> SqT K H' A (p.map V.int) -> H' R = some (.lst zs) -> Rts K H' zs -> Tr p -> p.length <= 5 -> (∀ x ∈ p, Sz 50 x) -> Q (.ref z) H'
theorem Wj {f : Addr} {fd : FuncData} (F : Df K mg "_law_product" Jt ["_law_cell"] f fd) (z_range : mg "range" = none) (z_tuple : mg "tuple" = none) (z_len : mg "len" = none)  (c_q_fraction : Cal P w K mg base 2 "_law_fraction" ["_law_top", "_law_bottom"] (J2 K)) : Cal P w K mg base 3 "_law_product" ["_law_cell"] (Oh K) := by
  refine F.cal (F.fn.ok Ce (fun vs H Q E h => ?_) (fun cdv A outer s H vs Q E hr h => ?_))
  . obtain ⟨c, rfl, _⟩ := h
    rfl
  obtain ⟨c, rfl, k⟩ := h
  refine S.Ay ⟨_, (S.Ad (S.Ai (i := 1) Ce.nd rfl (Or.inl rfl) (S.Aw (S.Aa S.Ab S.Ac)))
      (S.Ad (S.Ai (i := 2) Ce.nd rfl (Or.inl rfl) (S.Gb S.Ac))
      (S.Ad (S.Ai (i := 3) Ce.nd rfl (Or.inl rfl) (S.pv 0))
      (S.Ad (S.Du PassesOwn.never rfl (S.Gk rfl z_range (S.Aa (S.Ah Bw S.Ab (S.Ah Bv (S.pv 3) S.Ab)) S.Ac)) (S.Ar (i := 4) Ce.nd rfl (Or.inl rfl)) (S.Ad (S.Ai (i := 5) Ce.nd rfl (Or.inr rfl) (S.Am c_q_fraction (hr.mono (by decide)) (S.Aa (S.Ah Dd (S.Ah Bv (S.Ah Bk (S.pv 3) S.Ab) S.Ab) S.Ab) (S.Aa (S.Ah Bw S.Ab (S.Ah Bv (S.Ah Bk (S.pv 3) S.Ab) S.Ab)) S.Ac))))
      (S.Ad (S.Ai (i := 3) Ce.nd rfl (Or.inl rfl) (S.Ah Bk (S.Ah Bk (S.pv 3) S.Ab) S.Ab))
      (S.Ad (S.J3 (S.Om PySem.F.plainAttrs_list PySem.F.slot_list_append PySem.F.type_list_append Jj (S.pv 2) (S.Aa (S.pv 5) S.Ac)))
      (S.Ad (S.Ai (i := 6) Ce.nd rfl (Or.inl rfl) (S.Ah Abu (S.Gb (S.Aa S.Ab S.Ac)) (S.Ja (ts := ["_law_weight"]) (fs := [(5, "_law_root")]) rfl (Cj.of (sc := Ag Jt) (N := ["_law_cell", "_law_found", "_law_roots", "_law_part", "_law_k", "_law_root", "_law_longer", "_law_j"]) rfl rfl (by decide +kernel)) (S.Le (S.pv 1)) (fun _ _ _ => (S.Ar (i := 0) (show List.Nodup (["_law_weight", "_law_root"] : List Str) by decide +kernel) rfl (Or.inl rfl))) (fun _ _ _ => S.Ht) (fun _ _ _ => (S.Ah Bb (S.pv 0) (S.Az (Ab2 K) (S.pv 1) S.Ab (fun _ _ => rfl)))))))
      (S.Ad (S.Du PassesOwn.never rfl (S.Gk rfl z_range (S.Aa (S.Cr Aq rfl z_len PySem.boot_len (S.Aa (S.pv 1) S.Ac)) S.Ac)) (S.Ar (i := 7) Ce.nd rfl (Or.inl rfl)) (S.Ae (S.Gg (S.Ah Dd (S.Az Dj (S.pv 6) (S.pv 7) (fun _ _ => rfl)) (S.Ah Bb (S.Az Av (S.pv 1) (S.pv 7) (fun _ _ => rfl)) (S.Az Av (S.pv 5) S.Ab (fun _ _ => rfl)))) (S.J8 (S.pv 6) (S.pv 7) set_list))))
      (S.Ae (S.Ai (i := 1) Ce.nd rfl (Or.inl rfl) (S.Dq Dc rfl z_tuple PyProof.Rows.boot_tuple (S.Aa (S.pv 6) S.Ac))))))))))
      (S.Ae (S.Al (S.Aw (S.Aa (S.pv 1) (S.Aa (S.pv 2) S.Ac))))))))), ?_⟩
  refine Ba (fun σ' H' => Same H H' /\ ∃ (A : Addr), σ' = [some (.int c), some (.ref A), none, none, none, none, none, none] /\ SqT K H' A ([1].map V.int)) (fun N hN => ?_) ?_
  . contradiction
    exact fun p1 hp1 => hN _ _ ⟨Same.upd hp1 _, p1, rfl, .of Af⟩
  rintro σ H1 ⟨s1, A0, rfl, hA0⟩
  refine Ba (fun σ' H' => Same H H' /\ ∃ (p2 : Addr), σ' = [some (.int c), some (.ref A0), some (.ref p2), none, none, none, none, none] /\ SqT K H' A0 ([1].map V.int) /\ H p2 = none /\ H' p2 = some (.lst [])) (fun N hN => ?_) ?_
  . contradiction
    exact ⟨by decide, fun p2 hp2 => hN _ _ ⟨s1.trans (Same.upd hp2 _), p2, rfl, (Same.upd hp2 _).tup hA0, Same.free s1 hp2, Af⟩⟩
  clear hA0
  rintro σ H2 ⟨s2, p2, rfl, hA0, h2n, hR⟩
  contradiction
  refine ⟨by decide, by omega, by omega, ?_⟩
  refine Ahu (1 + c % 4).toNat (fun i => .int (0 + (i : Nat))) (fun i σ H' => Same H H' /\ ∃ (A : Addr) (part : Int) (g : List Int) (zs : List V) (o1 o2 o3 o4 : Option V), σ = [some (.int c), some (.ref A), some (.ref p2), some (.int part), o1, o2, o3, o4] /\ SqT K H' A (g.map V.int) /\ H' p2 = some (.lst zs) /\ g.length = i + 1 /\ zs.length = i /\ Tr g /\ (∀ x ∈ g, Sz (3 + 4 * i) x) /\ Rts K H' zs)
    ⟨s2, A0, _, [1], [], _, _, _, _, rfl, hA0, hR, rfl, rfl, .inr ⟨by simp, by decide⟩, fun x hx => by
      have : x = 1 := by simpa using hx
      subst this
      unfold Sz
      decide, .nil _⟩ ?_ ?_ ?_
  . rintro i σ H' _
    exact Jm
  . rintro i σ H' hi ⟨s3, A, part, g, zs, o1, o2, o3, o4, rfl, hA, hR, lg, lz, tg, hz, hfst⟩
    contradiction
    refine ⟨⟨by decide, by decide⟩, by decide, ⟨by decide, by decide⟩, by decide, _, _, 10, rfl, by unfold Sz; omega, by unfold Sz; omega, by decide, by omega, fun z H4 v u s4 hf av bu _ gc => ?_⟩
    have hv3 : Sz 3 v := by unfold Sz; omega
    have hu2 : Sz 2 u := by have := hf.2.2.2; unfold Sz; omega
    have u0 : u ≠ 0 := by have := hf.2.2.2; omega
    try contradiction
    refine ⟨⟨by decide, by decide⟩, ⟨by decide, by decide⟩, .inl ⟨rfl, _, .of (s4 _ _ hR)⟩, p2, zs, _, rfl, rfl, s4 _ _ hR, by rw [lz]; exact Nat.lt_of_lt_of_le (show i < 6 by omega) (by decide), ?_⟩
    have hR4 := s4 _ _ hR
    have s5 : Same H (upd H4 p2 (.lst (zs ++ [z]))) := (s3.trans s4).put h2n
    have hA5 : SqT K (upd H4 p2 (.lst (zs ++ [z]))) A (g.map V.int) := Q9 (s4.tup hA) hR4
    have hf5 : Fz 10 K (upd H4 p2 (.lst (zs ++ [z]))) z v u := hf.put hR4
    have hfst5 : Rts K (upd H4 p2 (.lst (zs ++ [z]))) (zs ++ [z]) := (hfst.mono s4).snoc hR4 (hf5.up (by decide)) gc
    have hR5 : (upd H4 p2 (.lst (zs ++ [z]))) p2 = some (.lst (zs ++ [z])) := Af
    generalize upd H4 p2 (.lst (zs ++ [z])) = H5 at *
    try contradiction
    intro p6 hp6
    have s6 := Same.upd hp6 (.lst [V.int 0])
    have g6 : (upd H5 p6 (.lst [V.int 0])) p6 = some (.lst [V.int 0]) := Af
    generalize upd H5 p6 (.lst [V.int 0]) = H6 at *
    refine ⟨⟨_, s6.tup hA5⟩, fun p7 hp7 => J5 (es := g) (inj := V.int) (fun w => .int (w * u)) (by rw [lg]; exact Nat.le_trans (show i + 1 <= 9 by omega) (by decide)) hp7 (Qk (s6.tup hA5)) ?_ ?_⟩
    . intro w H7 R hw s7 hR7
      contradiction
      refine Adx (hf5.mono s6) s7 ?_
      try contradiction
      exact ⟨(hz w hw).mulOk hu2 (by omega), hR7 _ (Same.refl _)⟩
    intro H7 s7 h7
    have e7 : g.map (fun w => V.int (w * u)) = (g.map (u * ·)).map V.int := by
      rw [List.map_map]
      exact List.map_congr_left fun w _ => congrArg V.int (Int.mul_comm w u)
    rw [e7] at h7
    have sl : 1000 <= sizeLine := by decide
    refine ⟨p6, p7, _, _, rfl, rfl, s7 _ _ g6, h7, by rw [List.length_map, List.length_map, lg]; show 1 + (i + 1) <= sizeLine; omega, fun p8 hp8 => ?_⟩
    have s67 := s6.trans s7
    try contradiction
    refine ⟨A, _, rfl, .inr ((s67.trans (Same.upd hp8 _)).tup hA5), ?_⟩
    rw [List.length_map, lg]
    refine ⟨by omega, by omega, ?_⟩
    rw [show (((i + 1 : Nat) : Int)).toNat = i + 1 by omega]
    refine Ahu (i + 1) (fun j => .int (0 + (j : Nat))) (fun j σ H' => Same H7 H' /\ ∃ (D g1 g2 : List Int) (a : Int) (o : Option V), σ = [some (.int c), some (.ref A), some (.ref p2), some (.int (part / 4 / 39)), some (.int (0 + (i : Nat))), some z, some (.ref p8), o] /\ H' p8 = some (.lst ((D ++ u * a :: g2.map (u * ·)).map V.int)) /\ g = g1 ++ g2 /\ g1.length = j /\ D.length = j /\ D ++ lm u v a g2 = lm u v 0 g)
      ⟨Same.upd hp8 _, [], [], g, 0, _, rfl, by rw [Af, Int.mul_zero]; rfl, rfl, rfl, rfl, rfl⟩ ?_ ?_ ?_
    . rintro j σ H' _
      exact Jm
    . rintro j σ H8 hj ⟨s8, D, g1, g2, a, o, rfl, hm, hg, hg1, hD, hlm⟩
      cases g2 with
      | nil =>
        have := congrArg List.length hg
        rw [List.append_nil] at this
        omega
      | cons y g2 =>
        simp only [Hy, Eo, Hs, Hl, Ep, Hu, Bx, Ie, Et, Em, z_c, Ox, Ro, Pq, Hg, Qm, Hi, Hz, G3, G4, Ds, Rt, Il, Ig, Ia, Ej, Eh, G5, Hw, Rq, Fj, Hv, Dw, Qt, Ek, Ho, Fl, Q5, Im, Hq, Cg, Fi, Er, Ei, Ci, Ey, Hh, Ij, G9, Gs, Qh, Bp, Ec, Hr, Rf, Ib, En, Hj, Ii, Dz, Ik, Fg, Fe, Fb, Cp, Hx, Cm, Ez, Ea, Ef, G7, Dy, Ew, Es, Ck, El, Qp, cpσ, List.getElem?_cons_zero, List.getElem?_cons_succ, Option.join_some, List.set_cons_zero, List.set_cons_succ, List.append_nil, decide_eq_true_eq, Bool.not_eq_true', decide_eq_false_iff_not, Bool.not_not, ite_not, Bool.false_eq_true, Bool.true_eq_false, if_false, if_true, if_pos, List.length_cons, List.length_nil, Nat.zero_add, Nat.reduceAdd, Ed, Eb, true_and, and_true, L2.start, List.map_cons, List.map_nil, Bool.not_true, Bool.not_false, Nat.reduceSub, List.replicate_succ, List.replicate_zero, List.cons_append, List.nil_append, Int.zero_add]
        rw [List.map_cons] at hm
        have hy : y ∈ g := by rw [hg]; simp
        have hA8 := (s67.trans s8).tup hA5
        have i1 : atI ((D ++ u * a :: u * y :: g2.map (u * ·)).map V.int) ((j : Nat) : Int) = some (.int (u * a)) := by
          rw [<- hD]
          exact Yg
        have i2 : atI (g.map V.int) ((j : Nat) : Int) = some (.int y) := by
          rw [hg, <- hg1]
          exact Yg
        refine Lh (.of hm) i1 ?_
        try contradiction
        refine Dn hA8 i2 ?_
        try contradiction
        refine Aez (hf5.mono s67) s8 ?_
        try contradiction
        refine ⟨(hz y hy).mulOk hv3 (by omega), p8, _, _, j, rfl, rfl, hm, by rw [<- hD]; exact Abm, s8.put hp8, D ++ [u * a - v * y], g1 ++ [y], g2, y, _, rfl, ?_, by rw [hg]; simp, by simp [hg1], by simp [hD], ?_⟩
        . rw [Af, <- hD, Aam, Int.mul_comm y v, List.append_assoc]
          rfl
        . rw [<- hlm, List.append_assoc]
          rfl
    . rintro σ H8 ⟨s8, D, g1, g2, a, o, rfl, hm, hg, hg1, hD, hlm⟩
      cases g2 with
      | cons y g2 =>
        have := congrArg List.length hg
        rw [List.length_append, List.length_cons] at this
        omega
      | nil =>
        contradiction
        refine ⟨p8, _, rfl, .inl ⟨.of hm, fun p9 hp9 => ?_⟩⟩
        try contradiction
        have s9 := s8.trans (Same.upd hp9 (.tup ((D ++ [u * a]).map V.int)))
        have s59 := s67.trans s9
        have e9 : lm u v 0 g = D ++ [u * a] := hlm.symm
        refine ⟨s5.trans s59, p9, _, lm u v 0 g, zs ++ [z], _, _, _, _, rfl, by rw [e9]; exact .of Af, s59 _ _ hR5, by rw [Adj, lg], by rw [List.length_append, lz]; rfl, Aka u0 0 g (fun z0 => by rw [z0] at lg; simp at lg) tg, fun x hx => ?_, hfst5.mono s59⟩
        have := Ajx hu2 hv3 0 g Abn hz x hx
        exact this.mono (by omega)
  . rintro σ H' ⟨s3, A, part, g, zs, o1, o2, o3, o4, rfl, hA, hR, lg, lz, tg, hz, hfst⟩
    contradiction
    (intro q hq; generalize eq : upd _ q _ = Gq; obtain ⟨sq, gq⟩ := nw hq eq; clear eq hq)
    exact k q _ A p2 g zs (s3.trans sq) (.of gq) (sq.tup hA) (sq _ _ hR) (hfst.mono sq) tg (by omega) fun x hx => (hz x hx).mono (by omega)
theorem Zo (p : List Int) : trim (p ++ [0]) = trim p := by
  refine Ua (Bo p) fun i => ?_
  rw [Bc]
  unfold co
  rw [List.getD_eq_getElem?_getD, List.getD_eq_getElem?_getD]
  by_cases h : i < p.length
  . rw [List.getElem?_append_left h]
  . rw [List.getElem?_append_right (by omega), List.getElem?_eq_none (l := p) (by omega)]
    cases h' : i - p.length with
    | zero => rfl
    | succ j => rfl
theorem Ac7 (c : Int) (f : Nat -> Int) : ∀ (d i : Nat), mu (List.replicate d 0 ++ [c]) f i = if d <= i then c * f (i - d) else 0
  | 0, i => by
    show c * f i + sh (mu [] f) i = _
    rw [if_pos (Nat.zero_le i), Nat.sub_zero]
    cases i <;> simp [sh, mu]
  | d + 1, 0 => by
    rw [List.replicate_succ, List.cons_append, mu, if_neg (by omega)]
    simp [sh]
  | d + 1, i + 1 => by
    rw [List.replicate_succ, List.cons_append, mu]
    show 0 * f (i + 1) + mu (List.replicate d 0 ++ [c]) f i = _
    rw [Ac7 c f d i, Int.zero_mul, Int.zero_add, Nat.add_sub_add_right]
    by_cases h : d <= i
    . rw [if_pos h, if_pos (by omega)]
    . rw [if_neg h, if_neg (by omega)]
def RsE (f g p : List Int) : Prop := ∃ (L : Int) (u : List Int), L ≠ 0 /\ ∀ i, L * co f i = co p i + mu u (co g) i
theorem RsE.start (f g : List Int) : RsE f g f := ⟨1, [], by decide, fun i => by
  show 1 * co f i = co f i + 0
  omega⟩
theorem RsE.step {f g p r : List Int} (h : RsE f g p) {c lead : Int} (hc : c ≠ 0) {d : Nat} (e : ∀ i, co r i = c * co p i - (if d <= i then lead * co g (i - d) else 0)) : RsE f g r := by
  obtain ⟨L, u, hL, h⟩ := h
  refine ⟨c * L, al (u.map (c * ·)) (List.replicate d 0 ++ [lead]), Int.mul_ne_zero hc hL, fun i => ?_⟩
  rw [W3]
  show c * L * co f i = co r i + (mu (u.map (c * ·)) (co g) i + mu (List.replicate d 0 ++ [lead]) (co g) i)
  rw [Tz, Ac7, e, Int.mul_assoc, h i, Int.mul_add]
  omega
theorem RsE.congr {f g p r : List Int} (h : RsE f g p) (e : ∀ i, co r i = co p i) : RsE f g r := by
  obtain ⟨L, u, hL, h⟩ := h
  exact ⟨L, u, hL, fun i => by rw [e, h i]⟩
theorem Ae0 {t : List Int} {m : Nat} (ht : Tr t) (h : ∀ i, m <= i -> co t i = 0) : t.length <= m := by
  refine Classical.byContradiction fun n => ?_
  have n0 : t ≠ [] := fun z => n (by rw [z]; exact Nat.zero_le _)
  exact ht.lead n0 (h _ (by omega))
structure RsI (K : PySem.W.Frag) (H H' : Hp) (a1 : Addr) (f g p : List Int) (n : Nat) : Prop where
  sm : Same H H'
  it : H' a1 = some (.lst (p.map V.int))
  e : RsE f g p
  tr : Tr p
  ne : p ≠ []
  nw : H a1 = none
structure RsZ (f g p : List Int) (n s : Nat) : Prop where
  st : s + g.length <= f.length + 1
  le : p.length + s <= f.length
  sz : ∀ i, Sz (n + s * (n + 1)) (co p i)
def RsR (f g : List Int) (N : Nat) (Q : VK) (H : Hp) : Prop := ∀ (z : Addr) (H' : Hp) (t : List Int) (k : Int), Same H H' -> H' z = some (.lst (t.map V.int)) -> Tr t -> t.length < g.length -> k ≠ 0 -> RsE f g (t.map (k * ·)) -> (∀ i, Sz N (co t i)) -> Q (.ref z) H'
def Vh (K : PySem.W.Frag) : Sp := fun vs H Q _ => ∃ (a b : Addr) (f g : List Int) (n N : Nat), vs = [.ref a, .ref b] /\ SqL K H a (f.map V.int) /\ SqL K H b (g.map V.int) /\ Tr f /\ Tr g /\ g ≠ [] /\ g.length <= f.length /\ f.length <= 6 /\ (∀ i, Sz n (co f i)) /\ (∀ i, Sz n (co g i)) /\ n + (f.length - g.length + 1) * (n + 1) <= N /\ N <= 100000 /\ (g.length = 1 \/ N <= 8999) /\ RsR f g N Q H
theorem Ai8 {p q : List Int} (h : p.length <= q.length) (n : p ≠ []) : q ≠ [] := fun z => n (List.eq_nil_of_length_eq_zero (by rw [z] at h; simpa using h))
theorem Aii {p : List Int} {j : Nat} (h : j < p.length) : atI (p.map V.int) ((j : Nat) : Int) = some (.int (co p j)) := Jc (by rw [List.getElem?_map, List.getElem?_eq_getElem h, Cv h]; rfl)
structure RsJ (K : PySem.W.Frag) (H4 H' : Hp) (a2 : Addr) (g p P : List Int) (c lead : Int) (d j : Nat) : Prop where
  sm : Same H4 H'
  it : H' a2 = some (.lst (P.map V.int))
  len : P.length = p.length
  co : ∀ i, co P i = c * co p i - (if d <= i /\ i < d + j then lead * Z.co g (i - d) else 0)
theorem RsJ.start {H4 H5 : Hp} {a2 : Addr} {g p : List Int} {c lead : Int} {d : Nat} (s : Same H4 H5) (h : H5 a2 = some (.lst ((p.map (· * c)).map V.int))) : RsJ K H4 H5 a2 g p (p.map (· * c)) c lead d 0 := ⟨s, h, List.length_map _, fun i => by
  rw [Xu, if_neg (by omega), Int.mul_comm]
  omega⟩
theorem RsJ.step {H4 H' : Hp} {a2 : Addr} {g p P : List Int} {c lead : Int} {d j : Nat} (h : RsJ K H4 H' a2 g p P c lead d j) (nw : H4 a2 = none) (hd : d + j < p.length) : RsJ K H4 (upd H' a2 (.lst ((P.map V.int).set (d + j) (.int (Z.co P (d + j) - lead * Z.co g j))))) a2 g p (P.set (d + j) (Z.co P (d + j) - lead * Z.co g j)) c lead d (j + 1) := by
  refine ⟨h.sm.put nw, by rw [Af, K8], by rw [List.length_set]; exact h.len, fun i => ?_⟩
  rw [Ri _ _ _ (by rw [h.len]; exact hd)]
  by_cases e : i = d + j
  . rw [if_pos e, e, h.co, if_neg (by omega), if_pos (by omega), Nat.add_sub_cancel_left]
    omega
  . rw [if_neg e, h.co]
    by_cases e2 : d <= i /\ i < d + j
    . rw [if_pos e2, if_pos (by omega)]
    . rw [if_neg e2, if_neg (by omega)]
theorem RsJ.done {H4 H' : Hp} {a2 : Addr} {f g p P : List Int} {c lead : Int} {d n s : Nat} (h : RsJ K H4 H' a2 g p P c lead d g.length) (hc : c = Z.co g (g.length - 1)) (hl : lead = Z.co p (p.length - 1)) (c0 : c ≠ 0) (hd : d + g.length = p.length) (g1 : 1 <= g.length) (he : RsE f g p) (z : RsZ f g p n s) (zg : ∀ i, Sz n (Z.co g i)) : RsE f g P /\ RsZ f g (trim P) n (s + 1) /\ (trim P).length < p.length := by
  have e : ∀ i, Z.co P i = c * Z.co p i - (if d <= i then lead * Z.co g (i - d) else 0) := fun i => by
    rw [h.co]
    by_cases h1 : d <= i /\ i < d + g.length
    . rw [if_pos h1, if_pos h1.1]
    . rw [if_neg h1]
      by_cases h2 : d <= i
      . rw [if_pos h2, Bl (p := g) (by omega), Int.mul_zero]
      . rw [if_neg h2]
  have len : (trim P).length <= p.length - 1 := Ae0 (Bo P) fun i hi => by
    rw [Bc, e, if_pos (by omega)]
    by_cases h3 : i = p.length - 1
    . rw [h3, show p.length - 1 - d = g.length - 1 by omega, <- hc, <- hl, Int.mul_comm]
      omega
    . rw [Bl (p := p) (by omega), Bl (p := g) (by omega)]
      omega
  have le := z.le
  refine ⟨he.step c0 e, ⟨by omega, by omega, fun i => ?_⟩, by omega⟩
  . rw [Bc, e]
    have z1 : Sz (n + (n + s * (n + 1))) (c * Z.co p i) := by rw [hc]; exact (zg _).mul (z.sz i)
    have e2 : n + (s + 1) * (n + 1) = n + (n + s * (n + 1)) + 1 := by rw [Nat.succ_mul]; omega
    rw [e2]
    have z2 : Sz (n + (n + s * (n + 1))) (if d <= i then lead * Z.co g (i - d) else 0) := by
      split
      . rw [hl, Nat.add_comm n]
        exact (z.sz _).mul (zg _)
      . exact Abn
    exact (z1.sub z2).mono (by omega)
theorem Acy {f : Addr} {fd : FuncData} (F : Df K mg "_law_rest" Mg ["_law_p", "_law_q"] f fd) (z_list : mg "list" = none) (z_len : mg "len" = none) (z_range : mg "range" = none)  (c_q_gcd : Cal P w K mg base 1 "_law_gcd" ["_law_one", "_law_other"] (O5 K)) : Cal P w K mg base 2 "_law_rest" ["_law_p", "_law_q"] (Vh K) := by
  refine F.cal (F.fn.ok Gh (fun vs H Q E h => ?_) (fun cdv A outer s H vs Q E hr h => ?_))
  . obtain ⟨a, b, _, _, _, _, rfl, _⟩ := h
    rfl
  obtain ⟨a, b, f, g, n, N, rfl, ha, hb, tf, tg, hg0, hgf, hf6, zf, zg, hN, hN2, hN3, k⟩ := h
  have c0 : co g (g.length - 1) ≠ 0 := tg.lead hg0
  have g1 : 1 <= g.length := List.length_pos_iff.mpr hg0
  refine S.Ay ⟨_, (S.Ad (S.Ai (i := 0) Gh.nd rfl (Or.inl rfl) (S.Dq Dk rfl z_list PyProof.Rows.boot_list (S.Aa (S.pv 0) S.Ac)))
      (S.Ad (S.Fp PassesOwn.never (S.Aj Aji (S.Cr Aq rfl z_len PySem.boot_len (S.Aa (S.pv 0) S.Ac)) (S.Cr Aq rfl z_len PySem.boot_len (S.Aa (S.pv 1) S.Ac)) (Ak _)) (S.Ad (S.Ai (i := 4) Gh.nd rfl (Or.inl rfl) (S.Az Dj (S.pv 0) (S.Dp Bt S.Ab) (fun _ _ => rfl)))
      (S.Ad (S.Nh (ts := ["_law_weight"]) (fs := [(1, "_law_q")]) rfl (Cj.of (sc := Ag Mg) (N := ["_law_p", "_law_q", "_law_part", "_law_weight", "_law_lead", "_law_j", "_law_at"]) rfl rfl (by decide +kernel)) (S.Rv (S.pv 0)) (fun _ _ _ => (S.Ar (i := 0) (show List.Nodup (["_law_weight", "_law_q"] : List Str) by decide +kernel) rfl (Or.inl rfl))) (fun _ _ _ => S.Ht) (fun _ _ _ => (S.Ah Bb (S.pv 0) (S.Az (Aeo K) (S.pv 1) (S.Dp Bt S.Ab) (fun _ _ => rfl)))) (S.Ar (i := 0) Gh.nd rfl (Or.inl rfl)))
      (S.Ad (S.Du PassesOwn.never rfl (S.Gk rfl z_range (S.Aa (S.Cr Aq rfl z_len PySem.boot_len (S.Aa (S.pv 1) S.Ac)) S.Ac)) (S.Ar (i := 5) Gh.nd rfl (Or.inl rfl)) (S.Ad (S.Ai (i := 6) Gh.nd rfl (Or.inl rfl) (S.Ah Bw (S.Ah Dd (S.Cr Aq rfl z_len PySem.boot_len (S.Aa (S.pv 0) S.Ac)) (S.Cr Aq rfl z_len PySem.boot_len (S.Aa (S.pv 1) S.Ac))) (S.pv 5)))
      (S.Ae (S.Gg (S.Ah Dd (S.Az Dj (S.pv 0) (S.pv 6) (fun _ _ => rfl)) (S.Ah Bb (S.pv 4) (S.Az Dj (S.pv 1) (S.pv 5) (fun _ _ => rfl)))) (S.J8 (S.pv 0) (S.pv 6) set_list)))))
      (S.Ad (S.Fp PassesOwn.never (S.Ju (S.Mv (S.Aj (X4 hr.units) (S.pv 0) (S.Gb S.Ac) (Ak _)) (S.Jy (S.Aj Fx (S.Az Dj (S.pv 0) (S.Dp Bt S.Ab) (fun _ _ => rfl)) S.Ab (Ak _))))) (S.Ae (S.J3 (S.V9 PySem.F.plainAttrs_list PySem.F.slot_list_pop PySem.F.type_list_pop Aju (S.pv 0)))))
      (S.Ae (S.Ca (S.Aj (Afh hr.units) (S.pv 0) (S.Gb S.Ac) (Ak _)) (S.Ae (S.Al (S.pv 0))) S.Ax)))))))
      (S.Ad (S.Ai (i := 2) Gh.nd rfl (Or.inr rfl) S.Ab)
      (S.Ad (S.Du PassesOwn.never rfl (S.Rv (S.pv 0)) (S.Ar (i := 3) Gh.nd rfl (Or.inl rfl)) (S.Ae (S.Ai (i := 2) Gh.nd rfl (Or.inr rfl) (S.Am c_q_gcd (hr.mono (by decide)) (S.Aa (S.pv 2) (S.Aa (S.pv 3) S.Ac))))))
      (S.Ae (S.Al (S.Ja (ts := ["_law_weight"]) (fs := [(2, "_law_part")]) rfl (Cj.of (sc := Ag Mg) (N := ["_law_p", "_law_q", "_law_part", "_law_weight", "_law_lead", "_law_j", "_law_at"]) rfl rfl (by decide +kernel)) (S.Rv (S.pv 0)) (fun _ _ _ => (S.Ar (i := 0) (show List.Nodup (["_law_weight", "_law_part"] : List Str) by decide +kernel) rfl (Or.inl rfl))) (fun _ _ _ => S.Ht) (fun _ _ _ => (S.Ah Ip (S.pv 0) (S.pv 1)))))))))), ?_⟩
  refine Ba (fun σ' H' => ∃ a1, σ' = [some (.ref a1), some (.ref b), none, none, none, none, none] /\ RsI K H H' a1 f g f n) (fun M hM => ?_) ?_
  . contradiction
    exact ⟨a, _, rfl, .inl ha, fun l hl => hM _ _ ⟨l, rfl, Same.upd hl _, Af, .start f g, tf, Ai8 hgf hg0, hl⟩⟩
  rintro σ H1 ⟨a1, rfl, i1⟩
  refine Ba (fun σ' H' => ∃ (a1 : Addr) (p : List Int) (s : Nat) (o2 o3 o4 o5 o6 : Option V), σ' = [some (.ref a1), some (.ref b), o2, o3, o4, o5, o6] /\ RsI K H H' a1 f g p n /\ RsZ f g p n s /\ p.length < g.length) (fun M hM => ?_) ?_
  . contradiction
    refine Uu (fun m σ' H' => ∃ (a1 : Addr) (p : List Int) (s : Nat) (o2 o3 o4 o5 o6 : Option V), σ' = [some (.ref a1), some (.ref b), o2, o3, o4, o5, o6] /\ m = p.length /\ RsI K H H' a1 f g p n /\ RsZ f g p n s) _ ⟨a1, f, 0, _, _, _, _, _, rfl, rfl, i1, ⟨by omega, Nat.le_refl _, fun i => (zf i).mono (by omega)⟩⟩ ?_
    clear i1
    rintro m σ' H3 ⟨a1, p, s, o2, o3, o4, o5, o6, rfl, rfl, i, z⟩
    have hb3 : SqL K H3 b (g.map V.int) := i.sm.seq hb
    contradiction
    refine ⟨a1, _, rfl, .inl (.of i.it), b, _, rfl, .inl hb3, ?_⟩
    simp only [Hy, Eo, Hs, Hl, Ep, Hu, Bx, Ie, Et, Em, z_c, Ox, Ro, Pq, Hg, Qm, Hi, Hz, G3, G4, Ds, Rt, Il, Ig, Ia, Ej, Eh, G5, Hw, Rq, Fj, Hv, Dw, Qt, Ek, Ho, Fl, Q5, Im, Hq, Cg, Fi, Er, Ei, Ci, Ey, Hh, Ij, G9, Gs, Qh, Bp, Ec, Hr, Rf, Ib, En, Hj, Ii, Dz, Ik, Fg, Fe, Fb, Cp, Hx, Cm, Ez, Ea, Ef, G7, Dy, Ew, Es, Ck, El, Qp, cpσ, List.getElem?_cons_zero, List.getElem?_cons_succ, Option.join_some, List.set_cons_zero, List.set_cons_succ, List.append_nil, decide_eq_true_eq, Bool.not_eq_true', decide_eq_false_iff_not, Bool.not_not, ite_not, Bool.false_eq_true, Bool.true_eq_false, if_false, if_true, if_pos, List.length_cons, List.length_nil, Nat.zero_add, Nat.reduceAdd, Ed, Eb, true_and, and_true, L2.start, List.map_cons, List.map_nil, Bool.not_true, Bool.not_false, Nat.reduceSub, List.replicate_succ, List.replicate_zero, List.cons_append, List.nil_append, List.length_map]
    by_cases hle : ((g.length : Nat) : Int) <= ((p.length : Nat) : Int)
    case neg =>
      rw [if_neg hle]
      exact hM _ _ ⟨a1, p, s, _, _, _, _, _, rfl, i, z, by omega⟩
    rw [if_pos hle]
    have hle' : g.length <= p.length := by omega
    refine Ad0 ?_
    obtain ⟨lead, hlead⟩ : ∃ x, x = co p (p.length - 1) := ⟨_, rfl⟩
    obtain ⟨c, hc⟩ : ∃ x, x = co g (g.length - 1) := ⟨_, rfl⟩
    obtain ⟨d, hd⟩ : ∃ d, d + g.length = p.length := ⟨p.length - g.length, by omega⟩
    have p6 : p.length <= 6 := Nat.le_trans (Nat.le_trans (Nat.le_add_right _ _) z.le) hf6
    have zz : n + (n + s * (n + 1)) <= 100000 := by
      have : s + 1 <= f.length - g.length + 1 := by have := z.le; omega
      have := Nat.mul_le_mul_right (n + 1) this
      rw [Nat.succ_mul] at this
      omega
    refine Ba (fun σ' H' => H' = H3 /\ σ' = [some (.ref a1), some (.ref b), o2, o3, some (.int lead), o5, o6]) (fun M hM => ?_) ?_
    . contradiction
      refine Lh (.of i.it) (G8 i.ne) ?_
      rw [<- hlead]
      exact hM _ _ ⟨rfl, rfl⟩
    rintro σ' H4 ⟨rfl, rfl⟩
    refine Ba (fun σ' H' => ∃ a2, H4 a2 = none /\ σ' = [some (.ref a2), some (.ref b), o2, o3, some (.int lead), o5, o6] /\ RsJ K H4 H' a2 g p (p.map (· * c)) c lead d 0) (fun M hM => ?_) ?_
    . contradiction
      refine ⟨⟨_, .of i.it⟩, fun p7 hp7 => J5 (es := p) (inj := V.int) (fun w => .int (w * c)) (Nat.le_trans p6 (by decide)) hp7 (Xx (.of i.it)) ?_ ?_⟩
      . intro w H7 R hw s7 hR7
        contradiction
        refine Lh (s7.seq hb3) (G8 hg0) ?_
        rw [<- hc]
        try contradiction
        have zw : Sz (n + s * (n + 1)) w := by
          obtain ⟨t, ht, et⟩ := List.getElem_of_mem hw
          have := z.sz t
          rw [Cv ht, et] at this
          exact this
        have zc : Sz n c := by rw [hc]; exact zg _
        exact ⟨zw.mulOk zc (by omega), hR7 _ (Same.refl _)⟩
      intro H7 s7 h7
      have e7 : p.map (fun w => V.int (w * c)) = (p.map (· * c)).map V.int := by rw [List.map_map]; rfl
      rw [e7] at h7
      try contradiction
      exact hM _ _ ⟨p7, hp7, rfl, .start s7 h7⟩
    rintro σ' H5 ⟨a2, n2, rfl, j5⟩
    refine Ba (fun σ' H' => ∃ (P : List Int) (o5 o6 : Option V), σ' = [some (.ref a2), some (.ref b), o2, o3, some (.int lead), o5, o6] /\ RsJ K H4 H' a2 g p P c lead d g.length) (fun M hM => ?_) ?_
    . contradiction
      refine ⟨b, _, rfl, .inl (j5.sm.seq hb3), ?_⟩
      simp only [Hy, Eo, Hs, Hl, Ep, Hu, Bx, Ie, Et, Em, z_c, Ox, Ro, Pq, Hg, Qm, Hi, Hz, G3, G4, Ds, Rt, Il, Ig, Ia, Ej, Eh, G5, Hw, Rq, Fj, Hv, Dw, Qt, Ek, Ho, Fl, Q5, Im, Hq, Cg, Fi, Er, Ei, Ci, Ey, Hh, Ij, G9, Gs, Qh, Bp, Ec, Hr, Rf, Ib, En, Hj, Ii, Dz, Ik, Fg, Fe, Fb, Cp, Hx, Cm, Ez, Ea, Ef, G7, Dy, Ew, Es, Ck, El, Qp, cpσ, List.getElem?_cons_zero, List.getElem?_cons_succ, Option.join_some, List.set_cons_zero, List.set_cons_succ, List.append_nil, decide_eq_true_eq, Bool.not_eq_true', decide_eq_false_iff_not, Bool.not_not, ite_not, Bool.false_eq_true, Bool.true_eq_false, if_false, if_true, if_pos, List.length_cons, List.length_nil, Nat.zero_add, Nat.reduceAdd, Ed, Eb, true_and, and_true, L2.start, List.map_cons, List.map_nil, Bool.not_true, Bool.not_false, Nat.reduceSub, List.replicate_succ, List.replicate_zero, List.cons_append, List.nil_append, List.length_map, Int.toNat_natCast]
      refine ⟨by omega, by omega, ?_⟩
      refine Ahu g.length (fun i => .int (0 + (i : Nat))) (fun j σ' H' => ∃ (P : List Int) (o5 o6 : Option V), σ' = [some (.ref a2), some (.ref b), o2, o3, some (.int lead), o5, o6] /\ RsJ K H4 H' a2 g p P c lead d j) ⟨_, _, _, rfl, j5⟩ ?_ ?_ ?_
      . rintro j σ' H' _
        exact Jm
      . rintro j σ' H6 hj ⟨P, o5, o6, rfl, j6⟩
        simp only [Hy, Eo, Hs, Hl, Ep, Hu, Bx, Ie, Et, Em, z_c, Ox, Ro, Pq, Hg, Qm, Hi, Hz, G3, G4, Ds, Rt, Il, Ig, Ia, Ej, Eh, G5, Hw, Rq, Fj, Hv, Dw, Qt, Ek, Ho, Fl, Q5, Im, Hq, Cg, Fi, Er, Ei, Ci, Ey, Hh, Ij, G9, Gs, Qh, Bp, Ec, Hr, Rf, Ib, En, Hj, Ii, Dz, Ik, Fg, Fe, Fb, Cp, Hx, Cm, Ez, Ea, Ef, G7, Dy, Ew, Es, Ck, El, Qp, cpσ, List.getElem?_cons_zero, List.getElem?_cons_succ, Option.join_some, List.set_cons_zero, List.set_cons_succ, List.append_nil, decide_eq_true_eq, Bool.not_eq_true', decide_eq_false_iff_not, Bool.not_not, ite_not, Bool.false_eq_true, Bool.true_eq_false, if_false, if_true, if_pos, List.length_cons, List.length_nil, Nat.zero_add, Nat.reduceAdd, Ed, Eb, true_and, and_true, L2.start, List.map_cons, List.map_nil, Bool.not_true, Bool.not_false, Nat.reduceSub, List.replicate_succ, List.replicate_zero, List.cons_append, List.nil_append, Int.zero_add]
        refine ⟨a2, _, rfl, .inl (.of j6.it), b, _, rfl, .inl (j6.sm.seq hb3), ?_⟩
        simp only [Hy, Eo, Hs, Hl, Ep, Hu, Bx, Ie, Et, Em, z_c, Ox, Ro, Pq, Hg, Qm, Hi, Hz, G3, G4, Ds, Rt, Il, Ig, Ia, Ej, Eh, G5, Hw, Rq, Fj, Hv, Dw, Qt, Ek, Ho, Fl, Q5, Im, Hq, Cg, Fi, Er, Ei, Ci, Ey, Hh, Ij, G9, Gs, Qh, Bp, Ec, Hr, Rf, Ib, En, Hj, Ii, Dz, Ik, Fg, Fe, Fb, Cp, Hx, Cm, Ez, Ea, Ef, G7, Dy, Ew, Es, Ck, El, Qp, cpσ, List.getElem?_cons_zero, List.getElem?_cons_succ, Option.join_some, List.set_cons_zero, List.set_cons_succ, List.append_nil, decide_eq_true_eq, Bool.not_eq_true', decide_eq_false_iff_not, Bool.not_not, ite_not, Bool.false_eq_true, Bool.true_eq_false, if_false, if_true, if_pos, List.length_cons, List.length_nil, Nat.zero_add, Nat.reduceAdd, Ed, Eb, true_and, and_true, L2.start, List.map_cons, List.map_nil, Bool.not_true, Bool.not_false, Nat.reduceSub, List.replicate_succ, List.replicate_zero, List.cons_append, List.nil_append, List.length_map, j6.len]
        rw [show ((p.length : Nat) : Int) - ((g.length : Nat) : Int) + ((j : Nat) : Int) = ((d + j : Nat) : Int) by omega]
        try contradiction
        refine Lh (.of j6.it) (Aii (by rw [j6.len]; omega)) ?_
        try contradiction
        refine Lh (j6.sm.seq hb3) (Aii hj) ?_
        try contradiction
        have zl : Sz (n + s * (n + 1)) lead := by rw [hlead]; exact z.sz _
        refine ⟨zl.mulOk (zg j) (by omega), ?_⟩
        refine Y0 (j := d + j) j6.it (by rw [List.length_map, j6.len]; omega) ?_
        exact ⟨_, _, _, rfl, j6.step n2 (by omega)⟩
      . rintro σ' H6 ⟨P, o5, o6, rfl, j6⟩
        exact hM _ _ ⟨P, o5, o6, rfl, j6⟩
    rintro σ' H6 ⟨P, o5', o6', rfl, j6⟩
    obtain ⟨eP, zP, lP⟩ := j6.done hc hlead (by rw [hc]; exact c0) hd g1 i.e z zg
    have nH : H a2 = none := Same.free i.sm n2
    refine Ba (fun σ' H' => Same H H' /\ H' a2 = some (.lst ((trim P).map V.int)) /\ σ' = [some (.ref a2), some (.ref b), o2, o3, some (.int lead), o5', o6']) (fun M hM => ?_) ?_
    . contradiction
      refine K4 (fun σ H' => σ = [some (.ref a2), some (.ref b), o2, o3, some (.int lead), o5', o6'] /\ Same H H' /\ ∃ ms : List Int, H' a2 = some (.lst (ms.map V.int)) /\ trim ms = trim P /\ ms.length <= 1000)
        (fun σ H' => match H' a2 with | some (.lst xs) => xs.length | _ => 0) ⟨rfl, i.sm.trans j6.sm, P, j6.it, rfl, by rw [j6.len]; omega⟩ ?_
      rintro σ H' ⟨rfl, s1, ms, hm, ht, hl1⟩
      contradiction
      refine ⟨by decide, fun q hq => ?_⟩
      have s2 := Same.upd hq (.lst [])
      have hm2 : upd H' q (.lst []) a2 = some (.lst (ms.map V.int)) := s2 _ _ hm
      refine Ut (ms := []) (.of hm2) (.of Af) ?_
      contradiction
      by_cases h0 : ms = []
      . rw [if_pos h0]
        exact hM _ _ ⟨s1.trans s2, by rw [<- ht, h0, hm2, h0]; rfl, rfl⟩
      . rw [if_neg h0]
        obtain ⟨ini, x, rfl⟩ : ∃ (i : List Int) (x : Int), ms = i ++ [x] := ⟨_, _, (List.dropLast_concat_getLast h0).symm⟩
        have em : (ini ++ [x]).map V.int = ini.map V.int ++ [V.int x] := by rw [List.map_append]; rfl
        rw [em] at hm hm2
        refine Lh (.of hm2) (Pg _ _) ?_
        contradiction
        by_cases hz : x = 0
        . rw [if_pos hz]
          subst hz
          refine Abd ?_
          contradiction
          refine ⟨.inl ⟨rfl, _, .of hm2⟩, a2, _, .int 0, rfl, rfl, hm2, by simp, ?_⟩
          dsimp only
          rw [hm, Af, List.dropLast_concat]
          refine ⟨⟨(s1.trans s2).put nH, ini, rfl, (Zo ini).symm.trans ht, ?_⟩, ?_⟩
          . rw [List.length_append] at hl1
            exact Nat.le_trans (Nat.le_add_right _ _) hl1
          . simp
        . rw [if_neg hz]
          refine hM _ _ ⟨s1.trans s2, ?_, rfl⟩
          rw [hm2, <- ht, Ry (.inr ⟨h0, by rw [List.getLast_concat]; exact hz⟩), em]
    rintro σ' H7 ⟨s7, h7, rfl⟩
    contradiction
    refine ⟨by decide, fun q hq => ?_⟩
    have s8 := Same.upd hq (.lst [])
    have h8 : upd H7 q (.lst []) a2 = some (.lst ((trim P).map V.int)) := s8 _ _ h7
    refine Ut (ms := []) (.of h8) (.of Af) ?_
    by_cases h0 : trim P = []
    . rw [decide_eq_true h0]
      try contradiction
      rw [h0] at h8
      refine k a2 _ [] 1 (s7.trans s8) h8 (.inl rfl) (by rw [List.length_nil]; omega) (by decide) (eP.congr fun i => ?_) fun i => ?_
      . have := Bc P i
        rw [h0] at this
        rw [Gv, <- this]
        omega
      . rw [Bu]
        exact Abn
    . rw [decide_eq_false h0]
      try contradiction
      exact ⟨_, lP, a2, trim P, s + 1, _, _, _, _, _, rfl, rfl, ⟨s7.trans s8, h8, eP.congr fun i => Bc P i, Bo P, h0, nH⟩, zP⟩
  clear i1
  rintro σ H2 ⟨a1, p, s, o2, o3, o4, o5, o6, rfl, i, z, hlt⟩
  have p6 : p.length <= 6 := Nat.le_trans (Nat.le_trans (Nat.le_add_right _ _) z.le) hf6
  have zp : ∀ t, Sz N (co p t) := fun t => (z.sz t).mono (by
    have : s <= f.length - g.length + 1 := by have := z.st; omega
    have := Nat.mul_le_mul_right (n + 1) this
    omega)
  refine Ba (fun σ' H' => H' = H2 /\ σ' = [some (.ref a1), some (.ref b), some (.int 0), o3, o4, o5, o6]) (fun M hM => ?_) ?_
  . contradiction
    exact hM _ _ ⟨rfl, rfl⟩
  rintro σ H3 ⟨rfl, rfl⟩
  refine Ba (fun σ' H' => H' = H3 /\ ∃ o3 : Option V, σ' = [some (.ref a1), some (.ref b), some (.int (gl p : Nat)), o3, o4, o5, o6]) (fun M hM => ?_) ?_
  . contradiction
    refine ⟨⟨_, .of i.it⟩, R6 (es := p) (inj := V.int) (fun pre σ' H' => H' = H3 /\ ∃ o3 : Option V, σ' = [some (.ref a1), some (.ref b), some (.int (gl pre : Nat)), o3, o4, o5, o6]) ⟨rfl, _, rfl⟩ ?_ ?_ ?_⟩
    . rintro pre σ' H' ⟨rfl, _⟩
      exact Vu (.of i.it)
    . rintro pre e post σ' H' he ⟨rfl, o, rfl⟩
      contradiction
      refine ⟨_, _, rfl, ?_⟩
      rw [<- Xg]
      try contradiction
      exact ⟨_, rfl⟩
    . rintro σ' H' ⟨rfl, o, rfl⟩
      exact hM _ _ ⟨rfl, _, rfl⟩
  rintro σ H4 ⟨rfl, o3', rfl⟩
  have dv : ∀ t, ((gl p : Nat) : Int) ∣ co p t := Ab0 p
  have gp : 0 < gl p := Yh (i.tr.lead i.ne)
  have d0 : ((gl p : Nat) : Int) ≠ 0 := by omega
  have gz : Sz N ((gl p : Nat) : Int) := (zp (p.length - 1)).of_abs (by
    have := Nat.le_of_dvd (Int.natAbs_pos.mpr (i.tr.lead i.ne)) (Int.natAbs_dvd_natAbs.mpr (dv (p.length - 1)))
    exact this)
  have N9 : N <= 8999 := by
    rcases hN3 with h | h
    . have := List.length_pos_iff.mpr i.ne
      omega
    . exact h
  contradiction
  refine ⟨⟨_, .of i.it⟩, fun p7 hp7 => J5 (es := p) (inj := V.int) (fun w => .int (w.fdiv (gl p : Nat))) (Nat.le_trans p6 (by decide)) hp7 (Xx (.of i.it)) ?_ ?_⟩
  . intro w H7 R hw s7 hR7
    contradiction
    exact ⟨⟨d0, gz.log2 d0 (by omega)⟩, hR7 _ (Same.refl _)⟩
  intro H7 s7 h7
  have e7 : p.map (fun w => V.int (w.fdiv (gl p : Nat))) = (p.map fun w => w.fdiv (gl p : Nat)).map V.int := by rw [List.map_map]; rfl
  rw [e7] at h7
  refine k p7 _ _ (gl p : Nat) (i.sm.trans s7) h7 (Wv d0 i.tr dv) (by rw [List.length_map]; exact hlt) d0 (i.e.congr fun t => ?_) fun t => ?_
  . rw [Gv, Nv, U0 d0 (dv t)]
  . rw [Nv]
    exact Xa d0 (dv t) (zp t)
def nb : Nat -> Nat
  | 0 => 19439
  | 1 => 3239
  | 2 => 647
  | 3 => 161
  | _ => 53
theorem Akr {f g t : Nat} (h1 : 1 <= g) (h2 : g <= f) (h3 : f <= 5) (g4 : g <= 4) (h4 : t < g) : nb g + (f - g + 1) * (nb g + 1) <= nb (g - 1) /\ nb (g - 1) <= nb t /\ nb g <= nb t := by
  have : g = 1 \/ g = 2 \/ g = 3 \/ g = 4 := by omega
  have ht : t = 0 \/ t = 1 \/ t = 2 \/ t = 3 := by omega
  rcases this with rfl | rfl | rfl | rfl <;> rcases ht with rfl | rfl | rfl | rfl <;> simp only [nb] <;> omega
structure FrI (K : PySem.W.Frag) (H H' : Hp) (a1 a2 : Addr) (p f g : List Int) : Prop where
  sm : Same H H'
  i1 : H' a1 = some (.lst (f.map V.int))
  i2 : H' a2 = some (.lst (g.map V.int))
  tf : Tr f
  tg : Tr g
  le : g.length <= f.length
  f5 : f.length <= 5
  g4 : g.length <= 4
  zf : ∀ i, Sz (nb g.length) (co f i)
  zg : ∀ i, Sz (nb g.length) (co g i)
  s2 : Lj f g p (dr p)
theorem Aef (p : List Int) : (List.range (p.length - 1)).map (fun (i : Nat) => V.int ((1 + (i : Int)) * co p (1 + i))) = (dr p).map V.int := by
  apply List.ext_getElem?
  intro i
  rw [List.getElem?_map, List.getElem?_map]
  by_cases h : i < p.length - 1
  . rw [List.getElem?_range h, List.getElem?_eq_getElem (by rw [Ob]; exact h)]
    have e := Aeq p i
    rw [Cv (by rw [Ob]; exact h)] at e
    simp only [Option.map_some]
    rw [e, Nat.add_comm 1 i, Int.add_comm 1]
  . rw [List.getElem?_eq_none (by rw [List.length_range]; omega), List.getElem?_eq_none (by rw [Ob]; omega)]
    rfl
def Vb (K : PySem.W.Frag) : Sp := fun vs H Q _ => ∃ (a : Addr) (p : List Int), vs = [.ref a] /\ SqT K H a (p.map V.int) /\ Tr p /\ 2 <= p.length /\ p.length <= 5 /\ (∀ i, Sz 50 (co p i)) /\ ∀ H', Same H H' -> Q (.bl (frB p)) H'
theorem Ab6 {f : Addr} {fd : FuncData} (F : Df K mg "_law_free" O1 ["_law_p"] f fd) (z_list : mg "list" = none) (z_len : mg "len" = none) (z_range : mg "range" = none)  (c_q_rest : Cal P w K mg base 2 "_law_rest" ["_law_p", "_law_q"] (Vh K)) : Cal P w K mg base 3 "_law_free" ["_law_p"] (Vb K) := by
  refine F.cal (F.fn.ok Mr (fun vs H Q E h => ?_) (fun cdv A outer s H vs Q E hr h => ?_))
  . obtain ⟨a, p, rfl, _⟩ := h
    rfl
  obtain ⟨a, p, rfl, ha, tp, p2, p5, zp, k⟩ := h
  have np : p ≠ [] := fun z => by rw [z] at p2; exact absurd p2 (by decide)
  refine S.Ay ⟨_, (S.Ad (S.Ai (i := 1) Mr.nd rfl (Or.inl rfl) (S.Dq Dk rfl z_list PyProof.Rows.boot_list (S.Aa (S.pv 0) S.Ac)))
      (S.Ad (S.Nh (ts := ["_law_k"]) (fs := [(0, "_law_p")]) rfl (Cj.of (sc := Ag O1) (N := ["_law_p", "_law_one", "_law_other"]) rfl rfl (by decide +kernel)) (S.Kf rfl z_range (S.Aa S.Ab (S.Aa (S.Cr Aq rfl z_len PySem.boot_len (S.Aa (S.pv 0) S.Ac)) S.Ac))) (fun _ _ _ => (S.Ar (i := 0) (show List.Nodup (["_law_k", "_law_p"] : List Str) by decide +kernel) rfl (Or.inl rfl))) (fun _ _ _ => S.Ht) (fun _ _ _ => (S.Ah Bb (S.pv 0) (S.Az (Ab2 K) (S.pv 1) (S.pv 0) (fun _ _ => rfl)))) (S.Ar (i := 2) Mr.nd rfl (Or.inl rfl)))
      (S.Ad (S.Fp PassesOwn.never (S.Aj (X4 hr.units) (S.pv 2) (S.Gb S.Ac) (Ak _)) (S.Ae (S.Ks (i := 1) (j := 2) rfl Mr.nd rfl rfl (by decide) rfl rfl (S.Aa (S.pv 2) (S.Aa (S.Am c_q_rest (hr.mono (by decide)) (S.Aa (S.pv 1) (S.Aa (S.pv 2) S.Ac))) S.Ac)) rfl)))
      (S.Ae (S.Al (S.Cy Fx (S.Cr Aq rfl z_len PySem.boot_len (S.Aa (S.pv 1) S.Ac)) S.Ab (Ak _))))))), ?_⟩
  refine Ba (fun σ' H' => Same H H' /\ ∃ a1, σ' = [some (.ref a), some (.ref a1), none] /\ H' a1 = some (.lst (p.map V.int))) (fun M hM => ?_) ?_
  . contradiction
    exact ⟨a, _, rfl, .inr ha, fun l hl => hM _ _ ⟨Same.upd hl _, l, rfl, Af⟩⟩
  rintro σ H1 ⟨s1, a1, rfl, h1⟩
  refine Ba (fun σ' H' => ∃ a2, σ' = [some (.ref a), some (.ref a1), some (.ref a2)] /\ FrI K H H' a1 a2 p p (dr p)) (fun M hM => ?_) ?_
  . contradiction
    refine ⟨a, _, rfl, .inr (s1.tup ha), ?_⟩
    simp only [Hy, Eo, Hs, Hl, Ep, Hu, Bx, Ie, Et, Em, z_c, Ox, Ro, Pq, Hg, Qm, Hi, Hz, G3, G4, Ds, Rt, Il, Ig, Ia, Ej, Eh, G5, Hw, Rq, Fj, Hv, Dw, Qt, Ek, Ho, Fl, Q5, Im, Hq, Cg, Fi, Er, Ei, Ci, Ey, Hh, Ij, G9, Gs, Qh, Bp, Ec, Hr, Rf, Ib, En, Hj, Ii, Dz, Ik, Fg, Fe, Fb, Cp, Hx, Cm, Ez, Ea, Ef, G7, Dy, Ew, Es, Ck, El, Qp, cpσ, List.getElem?_cons_zero, List.getElem?_cons_succ, Option.join_some, List.set_cons_zero, List.set_cons_succ, List.append_nil, decide_eq_true_eq, Bool.not_eq_true', decide_eq_false_iff_not, Bool.not_not, ite_not, Bool.false_eq_true, Bool.true_eq_false, if_false, if_true, if_pos, List.length_cons, List.length_nil, Nat.zero_add, Nat.reduceAdd, Ed, Eb, true_and, and_true, L2.start, List.map_cons, List.map_nil, Bool.not_true, Bool.not_false, Nat.reduceSub, List.replicate_succ, List.replicate_zero, List.cons_append, List.nil_append, List.length_map]
    have e1 : (((p.length : Nat) : Int) - 1).toNat = p.length - 1 := by omega
    rw [e1]
    refine ⟨⟨by decide, by decide, by omega, by omega⟩, fun p7 hp7 => J5 (es := List.range (p.length - 1)) (inj := fun i => .int (1 + (i : Nat))) (fun i => .int ((1 + ((i : Nat) : Int)) * co p (1 + i))) (by rw [List.length_range]; exact Nat.le_trans (show p.length - 1 <= 5 by omega) (by decide)) hp7 Ys ?_ ?_⟩
    . intro i H7 R hw s7 hR7
      have hi := List.mem_range.mp hw
      contradiction
      have at1' : atI (p.map V.int) (1 + ((i : Nat) : Int)) = some (.int (co p (1 + i))) := by
        have := Aii (p := p) (j := 1 + i) (by omega)
        rw [show ((1 + i : Nat) : Int) = 1 + ((i : Nat) : Int) by omega] at this
        exact this
      refine Dn ((s1.trans s7).tup ha) at1' ?_
      try contradiction
      exact ⟨(show Sz 3 (1 + ((i : Nat) : Int)) by unfold Sz; omega).mulOk (zp _) (by decide), hR7 _ (Same.refl _)⟩
    intro H7 s7 h7
    rw [Aef] at h7
    try contradiction
    have ld : (dr p).length <= 4 := by rw [Ob]; omega
    have n53 : 53 <= nb (dr p).length := by
      generalize (dr p).length = x at ld
      have : x = 0 \/ x = 1 \/ x = 2 \/ x = 3 \/ x = 4 := by omega
      rcases this with rfl | rfl | rfl | rfl | rfl <;> decide
    refine hM _ _ ⟨p7, rfl, ⟨s1.trans s7, s7 _ _ h1, h7, tp, Ajv tp, by rw [Ob]; omega, p5, ld, fun i => (zp i).mono (by omega), fun i => ?_, Lj.refl _ _⟩⟩
    rw [Aeq]
    by_cases hi : i + 1 < p.length
    . exact ((show Sz 3 ((i : Nat) + 1 : Int) by unfold Sz; omega).mul (zp (i + 1))).mono n53
    . rw [Bl (by omega), Int.mul_zero]
      exact Abn
  clear h1 s1
  rintro σ H2 ⟨a2, rfl, i2⟩
  refine Ba (fun σ' H' => Same H H' /\ ∃ (a1 a2 : Addr) (f : List Int), σ' = [some (.ref a), some (.ref a1), some (.ref a2)] /\ H' a1 = some (.lst (f.map V.int)) /\ frB p = decide (f.length = 1)) (fun M hM => ?_) ?_
  . contradiction
    refine Uu (fun m σ' H' => ∃ (a1 a2 : Addr) (f g : List Int), σ' = [some (.ref a), some (.ref a1), some (.ref a2)] /\ m = g.length /\ FrI K H H' a1 a2 p f g) _ ⟨a1, a2, p, dr p, rfl, rfl, i2⟩ ?_
    clear i2
    rintro m σ' H3 ⟨a1, a2, f, g, rfl, rfl, i⟩
    contradiction
    refine ⟨by decide, fun q hq => ?_⟩
    have sq := Same.upd hq (.lst [])
    refine Ut (ms := []) (.of (sq _ _ i.i2)) (.of Af) ?_
    by_cases h0 : g = []
    . rw [decide_eq_true h0]
      try contradiction
      subst h0
      refine hM _ _ ⟨i.sm.trans sq, a1, a2, f, rfl, sq _ _ i.i1, ?_⟩
      rw [Af6 np (Afj i.tf i.s2), Li]
    . rw [decide_eq_false h0]
      try contradiction
      refine Ad0 ?_
      have g1 : 1 <= g.length := List.length_pos_iff.mpr h0
      have ok := fun {t : Nat} (ht : t < g.length) => Akr g1 i.le i.f5 i.g4 ht
      have ok0 := ok (t := g.length - 1) (by omega)
      have nbl : nb (g.length - 1) <= 100000 /\ (g.length = 1 \/ nb (g.length - 1) <= 8999) := by
        have g4 := i.g4
        generalize g.length = x at g1 g4
        have : x = 1 \/ x = 2 \/ x = 3 \/ x = 4 := by omega
        rcases this with rfl | rfl | rfl | rfl <;> exact ⟨by decide, by decide⟩
      contradiction
      refine ⟨a1, a2, f, g, nb g.length, nb (g.length - 1), rfl, .of (sq _ _ i.i1), .of (sq _ _ i.i2), i.tf, i.tg, h0, i.le, by have := i.f5; omega, i.zf, i.zg, ok0.1, nbl.1, nbl.2, fun z H' t kk s' hz tt lt k0 re zt => ?_⟩
      try contradiction
      obtain ⟨L, u, hL, he⟩ := re
      refine ⟨_, lt, a2, z, g, t, rfl, rfl, (i.sm.trans sq).trans s', (sq.trans s') _ _ i.i2, hz, i.tg, tt, by omega, by have := i.g4; omega, by have := i.g4; omega, fun j => (i.zg j).mono (ok lt).2.2, fun j => (zt j).mono (ok lt).2.1, ?_⟩
      exact (Tw (q := u) hL k0 fun j => by rw [he j, Gv]).trans i.s2
  clear i2
  rintro σ H3 ⟨s3, a1, a2, f, rfl, h3, ef⟩
  contradiction
  refine ⟨a1, _, rfl, .inl (.of h3), ?_⟩
  simp only [Hy, Eo, Hs, Hl, Ep, Hu, Bx, Ie, Et, Em, z_c, Ox, Ro, Pq, Hg, Qm, Hi, Hz, G3, G4, Ds, Rt, Il, Ig, Ia, Ej, Eh, G5, Hw, Rq, Fj, Hv, Dw, Qt, Ek, Ho, Fl, Q5, Im, Hq, Cg, Fi, Er, Ei, Ci, Ey, Hh, Ij, G9, Gs, Qh, Bp, Ec, Hr, Rf, Ib, En, Hj, Ii, Dz, Ik, Fg, Fe, Fb, Cp, Hx, Cm, Ez, Ea, Ef, G7, Dy, Ew, Es, Ck, El, Qp, cpσ, List.getElem?_cons_zero, List.getElem?_cons_succ, Option.join_some, List.set_cons_zero, List.set_cons_succ, List.append_nil, decide_eq_true_eq, Bool.not_eq_true', decide_eq_false_iff_not, Bool.not_not, ite_not, Bool.false_eq_true, Bool.true_eq_false, if_false, if_true, if_pos, List.length_cons, List.length_nil, Nat.zero_add, Nat.reduceAdd, Ed, Eb, true_and, and_true, L2.start, List.map_cons, List.map_nil, Bool.not_true, Bool.not_false, Nat.reduceSub, List.replicate_succ, List.replicate_zero, List.cons_append, List.nil_append, List.length_map]
  rw [show decide (((f.length : Nat) : Int) = 1) = frB p by rw [ef]; exact decide_eq_decide.mpr ⟨fun h => by omega, fun h => by omega⟩]
  exact k _ s3
theorem Xj {p : List Int} (tp : Tr p) (n : p ≠ []) : pln p = p ↔ gl p = 1 /\ 0 < co p (p.length - 1) := by
  constructor
  . intro e
    have h := (Jo tp n).gl
    rw [e] at h
    exact ⟨h, Xd tp n e⟩
  . rintro ⟨h1, h2⟩
    have e : un p = 1 := by
      unfold un
      rw [if_neg (by omega), h1]
      rfl
    unfold pln
    rw [e]
    simp
def T3 (K : PySem.W.Frag) : Sp := fun vs H Q _ => ∃ (a : Addr) (p : List Int), vs = [.ref a] /\ SqT K H a (p.map V.int) /\ Tr p /\ p ≠ [] /\ Q (.bl (decide (pln p = p))) H
theorem Z8 {f : Addr} {fd : FuncData} (F : Df K mg "_law_plain" Qy ["_law_p"] f fd)   (c_q_gcd : Cal P w K mg base 1 "_law_gcd" ["_law_one", "_law_other"] (O5 K)) : Cal P w K mg base 2 "_law_plain" ["_law_p"] (T3 K) := by
  refine F.cal (F.fn.ok Kz (fun vs H Q E h => ?_) (fun cdv A outer s H vs Q E hr h => ?_))
  . obtain ⟨a, p, rfl, _⟩ := h
    rfl
  obtain ⟨a, p, rfl, ha, tp, np, k⟩ := h
  refine S.Ay ⟨_, (S.Ad (S.Ai (i := 1) Kz.nd rfl (Or.inl rfl) S.Ab)
      (S.Ad (S.Du PassesOwn.never rfl (S.Le (S.pv 0)) (S.Ar (i := 2) Kz.nd rfl (Or.inl rfl)) (S.Ae (S.Ai (i := 1) Kz.nd rfl (Or.inl rfl) (S.Am c_q_gcd (hr.mono (by decide)) (S.Aa (S.pv 1) (S.Aa (S.pv 2) S.Ac))))))
      (S.Ae (S.Al (S.Mx (S.Cy Fx (S.pv 1) S.Ab (Ak _)) (S.Mp (S.Cy Nu (S.Az Av (S.pv 0) (S.Dp Bt S.Ab) (fun _ _ => rfl)) S.Ab (Ak _)))))))), ?_⟩
  contradiction
  refine ⟨⟨_, ha⟩, R6 (es := p) (inj := V.int) (fun pre σ' H' => H' = H /\ ∃ o3 : Option V, σ' = [some (.ref a), some (.int (gl pre : Nat)), o3]) ⟨rfl, _, rfl⟩ ?_ ?_ ?_⟩
  . rintro pre σ' H' ⟨rfl, _⟩
    exact Ot ha
  . rintro pre e post σ' H' he ⟨rfl, o, rfl⟩
    contradiction
    refine ⟨_, _, rfl, ?_⟩
    rw [<- Xg]
    try contradiction
    exact ⟨_, rfl⟩
  . rintro σ' H' ⟨rfl, o, rfl⟩
    contradiction
    by_cases h1 : ((gl p : Nat) : Int) = 1
    . rw [if_pos h1]
      refine Dn ha (G8 np) ?_
      try contradiction
      rw [show decide (0 < co p (p.length - 1)) = decide (pln p = p) from decide_eq_decide.mpr ⟨fun h => (Xj tp np).mpr ⟨by omega, h⟩, fun h => ((Xj tp np).mp h).2⟩]
      exact k
    . rw [if_neg h1]
      rw [decide_eq_false (fun h => h1 (by have := ((Xj tp np).mp h).1; omega))] at k
      exact k
theorem Ain : ∀ p : List Int, p.length <= 1 -> adj p = 0
  | [], _ => rfl
  | [_], _ => rfl
  | _ :: _ :: _, h => absurd h (by simp)
theorem Aeu (p : List Int) (f l b : Int) : (Adw p f l b).length <= p.length := by
  unfold Adw
  refine Nat.le_trans (J4 _) ?_
  rw [List.length_reverse, Vz, List.length_reverse, Ge, K9]
  exact Nat.le_refl _
theorem Acl {p : List Int} (h : p.length < 2) (t b t' b' : Int) : nuB p t b t' b' = false := by
  unfold nuB
  have e : chg (Adw p (fst t b (K3 b b')) (fst t' b' (K3 b b')) (K3 b b')) = 0 := by
    unfold chg
    refine Ain _ (Nat.le_trans (List.length_filter_le _ _) ?_)
    exact Nat.le_trans (Aeu _ _ _ _) (by omega)
  rw [e]
  simp
open Classical in
noncomputable def Ag1 (p : List Int) (t b t' b' : Int) : Bool := if [t, b] = [t', b'] then decide (p = [-t, b]) else nuB p t b t' b'
theorem Adh {p : List Int} {t b t' b' : Int} (h : [t, b] = [t', b']) : Ag1 p t b t' b' = decide (p = [-t, b]) := by
  unfold Ag1
  rw [if_pos h]
theorem Aaf {p : List Int} {t b t' b' : Int} (h : ¬ [t, b] = [t', b']) : Ag1 p t b t' b' = nuB p t b t' b' := by
  unfold Ag1
  rw [if_neg h]
def Sml (p : List Int) (t b t' b' : Int) : Prop := [t, b] = [t', b'] \/ ∀ i, Sz 50 (co p i)
def Yb (K : PySem.W.Frag) : Sp := fun vs H Q _ => ∃ (a : Addr) (v u : V) (p : List Int) (t b t' b' : Int), vs = [.ref a, v, u] /\ SqT K H a (p.map V.int) /\ Tr p /\ p.length <= 5 /\ Fz 150 K H v t b /\ Fz 150 K H u t' b' /\ Sml p t b t' b' /\ ∀ H', Same H H' -> Q (.bl (Ag1 p t b t' b')) H'
theorem Ae8 {f : Addr} {fd : FuncData} (F : Df K mg "_law_due" Xq ["_law_p", "_law_lo", "_law_hi"] f fd) (z_len : mg "len" = none)  (c_changes : Cal P w K mg base 1 "changes" ["p"] (Nb K)) (c_q_less : Cal P w K mg base 1 "_law_less" ["_law_one", "_law_other"] (Vi K)) (c_q_plain : Cal P w K mg base 2 "_law_plain" ["_law_p"] (T3 K)) (c_q_free : Cal P w K mg base 3 "_law_free" ["_law_p"] (Vb K)) (c_q_sign : Cal P w K mg base 2 "_law_sign" ["_law_p", "_law_r"] (Vx K)) (c_between : Cal P w K mg base 3 "between" ["p", "lo", "hi"] (M9 K)) : Cal P w K mg base 4 "_law_due" ["_law_p", "_law_lo", "_law_hi"] (Yb K) := by
  refine F.cal (F.fn.ok Afb (fun vs H Q E h => ?_) (fun cdv A outer s H vs Q E hr h => ?_))
  . obtain ⟨a, v, u, _, _, _, _, _, rfl, _⟩ := h
    rfl
  obtain ⟨a, v, u, p, t, b, t', b', rfl, ha, tp, p5, hlo, hhi, sml, k⟩ := h
  refine S.Ay ⟨_, (S.Ad (S.Ca (S.Aj (Iu hr.units) (S.pv 1) (S.pv 2) (Ak _)) (S.Ae (S.Al (S.Cy (Iu hr.units) (S.pv 0) (S.Aw (S.Aa (S.Dp Bt (S.Az Av (S.pv 1) S.Ab (fun _ _ => rfl))) (S.Aa (S.Az Av (S.pv 1) S.Ab (fun _ _ => rfl)) S.Ac))) (Ak _)))) S.Ax)
      (S.Ad (S.Ca (S.Ju (S.Jq (S.Hf (S.Gp (S.Am c_q_less (hr.mono (by decide)) (S.Aa (S.pv 1) (S.Aa (S.pv 2) S.Ac))))) (S.Jq (S.Aj Nt (S.Cr Aq rfl z_len PySem.boot_len (S.Aa (S.pv 0) S.Ac)) S.Ab (Ak _)) (S.Jq (S.Hf (S.Gp (S.Am c_q_plain (hr.mono (by decide)) (S.Aa (S.pv 0) S.Ac)))) (S.Iv (S.Hf (S.Gp (S.Am c_q_free (hr.mono (by decide)) (S.Aa (S.pv 0) S.Ac))))))))) (S.Ae (S.Al S.Nx)) S.Ax)
      (S.Ad (S.Ca (S.Ju (S.Jq (S.Aj Fx (S.Am c_q_sign (hr.mono (by decide)) (S.Aa (S.pv 0) (S.Aa (S.pv 1) S.Ac))) S.Ab (Ak _)) (S.Iv (S.Aj Fx (S.Am c_q_sign (hr.mono (by decide)) (S.Aa (S.pv 0) (S.Aa (S.pv 2) S.Ac))) S.Ab (Ak _))))) (S.Ae (S.Al S.Nx)) S.Ax)
      (S.Ae (S.Al (S.Cy Fx (S.Am c_changes (hr.mono (by decide)) (S.Aa (S.Am c_between (hr.mono (by decide)) (S.Aa (S.pv 0) (S.Aa (S.pv 1) (S.Aa (S.pv 2) S.Ac)))) S.Ac)) S.Ab (Ak _))))))), ?_⟩
  obtain ⟨⟨d, rfl, hd⟩, zt, zb, pb⟩ := id hlo
  obtain ⟨⟨e, rfl, he⟩, zt', zb', pb'⟩ := id hhi
  contradiction
  refine Dh (ns := [t, b]) (ms := [t', b']) hd he ?_
  by_cases h0 : [t, b] = [t', b']
  . rw [decide_eq_true h0]
    rw [Adh h0] at k
    try contradiction
    refine Dn hd (at0 _ _) ?_
    try contradiction
    refine Dn hd (at1 _ _ _) ?_
    try contradiction
    (intro q1 hq1; generalize eq1 : upd _ q1 _ = Gq1; obtain ⟨sq1, gq1⟩ := nw hq1 eq1; clear eq1 hq1)
    refine Dh (ns := p) (ms := [-t, b]) (sq1.tup ha) (.of gq1) ?_
    try contradiction
    exact k _ sq1
  rw [decide_eq_false h0]
  rw [Aaf h0] at k
  have zp : ∀ i, Sz 50 (co p i) := sml.resolve_left h0
  have hw : ∀ x ∈ p, Sz 50 x := fun x hx => by
    obtain ⟨i, hi, ei⟩ := List.getElem_of_mem hx
    have z := zp i
    rw [Cv hi, ei] at z
    exact z
  try contradiction
  refine ⟨_, _, t, b, t', b', rfl, hlo.up (by decide), hhi.up (by decide), ?_⟩
  by_cases h1 : t * b' < t' * b
  case neg =>
    rw [decide_eq_false h1]
    try contradiction
    have : nuB p t b t' b' = false := by unfold nuB; rw [decide_eq_false h1, Bool.false_and]
    rw [this] at k
    exact k _ (Same.refl _)
  rw [decide_eq_true h1]
  try contradiction
  refine ⟨a, _, rfl, .inr ha, ?_⟩
  rw [List.length_map]
  by_cases h2 : ((p.length : Nat) : Int) < 2
  case pos =>
    rw [if_pos h2]
    rw [Acl (by omega)] at k
    exact k _ (Same.refl _)
  rw [if_neg h2]
  have np : p ≠ [] := fun z => h2 (by rw [z]; decide)
  refine ⟨a, p, rfl, ha, tp, np, ?_⟩
  by_cases h3 : pln p = p
  case neg =>
    rw [decide_eq_false h3]
    try contradiction
    have : nuB p t b t' b' = false := by unfold nuB; rw [decide_eq_false h3]; simp
    rw [this] at k
    exact k _ (Same.refl _)
  rw [decide_eq_true h3]
  try contradiction
  refine ⟨a, p, rfl, ha, tp, by omega, p5, zp, fun H1 s1 => ?_⟩
  cases h4 : frB p with
  | false =>
    try contradiction
    have : nuB p t b t' b' = false := by unfold nuB; rw [h4]; simp
    rw [this] at k
    exact k _ s1
  | true =>
    try contradiction
    refine ⟨a, _, p, t, b, rfl, s1.tup ha, by omega, hw, (hlo.mono s1).up (by decide), ?_⟩
    try contradiction
    by_cases h5 : hv p t b = 0
    case pos =>
      rw [if_pos ((Mj _).mpr h5)]
      have : nuB p t b t' b' = false := by unfold nuB; rw [h5]; simp
      rw [this] at k
      exact k _ s1
    rw [if_neg (fun z => h5 ((Mj _).mp z))]
    refine ⟨a, _, p, t', b', rfl, s1.tup ha, by omega, hw, (hhi.mono s1).up (by decide), ?_⟩
    try contradiction
    by_cases h6 : hv p t' b' = 0
    case pos =>
      rw [if_pos ((Mj _).mpr h6)]
      have : nuB p t b t' b' = false := by unfold nuB; rw [h6]; simp
      rw [this] at k
      exact k _ s1
    rw [if_neg (fun z => h6 ((Mj _).mp z))]
    refine ⟨a, _, _, p, t, b, t', b', rfl, s1.tup ha, by omega, hw, hlo.mono s1, hhi.mono s1, fun z H2 s2 i2 => ?_⟩
    obtain ⟨⟨c, rfl, hc⟩, _⟩ := i2
    try contradiction
    refine ⟨c, _, rfl, hc, ?_⟩
    try contradiction
    have : nuB p t b t' b' = decide (((chg (Adw p (fst t b (K3 b b')) (fst t' b' (K3 b b')) (K3 b b')) : Nat) : Int) = 1) := by
      unfold nuB
      rw [decide_eq_true h1, decide_eq_true (show hv p t b ≠ 0 from h5), decide_eq_true (show hv p t' b' ≠ 0 from h6), decide_eq_true h3, h4, Bool.and_true, Bool.and_true, Bool.true_and, Bool.true_and, Bool.true_and]
      exact decide_eq_decide.mpr ⟨fun h => by omega, fun h => by omega⟩
    rw [this] at k
    exact k _ (s1.trans s2)
theorem Tn.mono {H H' : Hp} {v : V} {b : Bool} (h : Tn K H v b) (s : Same H H') : Tn K H' v b := by
  cases h with
  | pt h hc tr hl hd he lo => exact .pt (s.tup h) (s.tup hc) tr hl (s.tup hd) (s.tup he) lo
  | st h hc hd he l1 l2 ne => exact .st (s.tup h) (hc.mono s) (hd.mono s) (he.mono s) l1 l2 ne
  | bad h hu hv hx hb => exact .bad (s.tup h) (hu.mono s) (hv.mono s) (hx.mono s) hb
  | long h hl => exact .long (s.tup h) hl
  | int i => exact .int i
  | non => exact .non
  | str x => exact .str x
  | lst e => exact .lst (s _ _ e)
structure L23 (K : PySem.W.Frag) (H : Hp) (A : Addr) (p : List Int) (lo hi : V) (t b t' b' : Int) : Prop where
  ip : SqT K H A (p.map V.int)
  tp : Tr p
  p5 : p.length <= 5
  il : Fz 145 K H lo t b
  ih : Fz 150 K H hi t' b'
  gl : Int.gcd t b = 1
  gh : Int.gcd t' b' = 1
  sm : Sml p t b t' b'
theorem L23.mono {H H' : Hp} {A : Addr} {p : List Int} {lo hi : V} {t b t' b' : Int} (h : L23 K H A p lo hi t b t' b') (s : Same H H') : L23 K H' A p lo hi t b t' b' := ⟨s.tup h.ip, h.tp, h.p5, h.il.mono s, h.ih.mono s, h.gl, h.gh, h.sm⟩
theorem Yy {t b : Int} (hb : 0 < b) (g : Int.gcd t b = 1) : low t b = true := by
  unfold low
  rw [decide_eq_true hb, g]
  rfl
theorem Akc {p : List Int} {n : Nat} (h : ∀ x ∈ p, Sz n x) (i : Nat) : Sz n (co p i) := by
  by_cases hi : i < p.length
  . rw [Cv hi]
    exact h _ (List.getElem_mem hi)
  . rw [Bl (by omega)]
    exact Abn
theorem L23.num {H : Hp} {A q : Addr} {p : List Int} {lo hi : V} {t b t' b' : Int} (h : L23 K H A p lo hi t b t' b') (hq : H q = some (.tup [.ref A, lo, hi])) : Tn K H (.ref q) (Ag1 p t b t' b') := by
  obtain ⟨⟨d, rfl, hd⟩, _, _, pb⟩ := id h.il
  obtain ⟨⟨e, rfl, he⟩, _, _, pb'⟩ := id h.ih
  by_cases h0 : [t, b] = [t', b']
  . rw [Adh h0]
    have e1 : t = t' /\ b = b' := by simpa using h0
    obtain ⟨rfl, rfl⟩ := e1
    exact .pt (.of hq) h.ip (Ry h.tp) (by have := h.p5; omega) hd he (Yy pb h.gl)
  . rw [Aaf h0]
    exact .st (.of hq) ⟨⟨A, rfl, h.ip⟩, h.tp, by have := h.p5; omega, h.sm.resolve_left h0⟩ (h.il.up (by decide)) h.ih (Yy pb h.gl) (Yy pb' h.gh) h0
structure P23 (K : PySem.W.Frag) (H : Hp) (R A : Addr) (p : List Int) (zs : List V) : Prop where
  ip : SqT K H A (p.map V.int)
  tp : Tr p
  p5 : p.length <= 5
  zp : ∀ i, Sz 50 (co p i)
  rt : H R = some (.lst zs)
  rf : Rts K H zs
theorem P23.mono {H H' : Hp} {R A : Addr} {p : List Int} {zs : List V} (h : P23 K H R A p zs) (s : Same H H') : P23 K H' R A p zs := ⟨s.tup h.ip, h.tp, h.p5, h.zp, s _ _ h.rt, h.rf.mono s⟩
structure Odd (K : PySem.W.Frag) (H : Hp) (O : Addr) (n : Nat) (vs : List V) : Prop where
  it : H O = some (.lst vs)
  no : ∀ v ∈ vs, Tn K H v false
  len : vs.length = n
theorem Odd.mono {H H' : Hp} {O : Addr} {n : Nat} {vs : List V} (h : Odd K H O n vs) (s : Same H H') : Odd K H' O n vs := ⟨s _ _ h.it, fun v hv => (h.no v hv).mono s, h.len⟩
theorem Acz (t b k : Int) (g : Int.gcd t b = 1) : Int.gcd (t + b * k) b = 1 := by
  have h : ((Int.gcd (t + b * k) b : Nat) : Int) ∣ ((Int.gcd t b : Nat) : Int) := by
    have h2 : ((Int.gcd (t + b * k) b : Nat) : Int) ∣ b := Int.gcd_dvd_right ..
    have h1 : ((Int.gcd (t + b * k) b : Nat) : Int) ∣ t + b * k := Int.gcd_dvd_left ..
    refine Int.dvd_coe_gcd ?_ h2
    have := Int.dvd_sub h1 (Int.dvd_trans h2 (Int.dvd_mul_right b k))
    rwa [Int.add_sub_cancel] at this
  rw [g] at h
  have := Int.natCast_dvd_natCast.mp h
  exact Nat.dvd_one.mp this
theorem Fz.tf {n : Nat} {H : Hp} {v : V} {t b : Int} (h : Fz n K H v t b) (g : Int.gcd t b = 1) : Tf K H v true := by
  obtain ⟨⟨a, rfl, ha⟩, _, _, pb⟩ := h
  exact Tf.good ha (Yy pb g)
theorem L23.th {H : Hp} {A : Addr} {p : List Int} {lo hi : V} {t b t' b' : Int} (h : L23 K H A p lo hi t b t' b') : Th K H (.ref A) (decide (trim p = p)) := .nums h.ip (by have := h.p5; omega)
theorem Ah4 (t b : Int) : low (2 * t) (2 * b) = false := by
  unfold low
  rw [Int.gcd_mul_left]
  by_cases h : 0 < 2 * b
  . rw [decide_eq_true h, Bool.true_and]
    refine decide_eq_false fun z => ?_
    rw [show (2 : Int).natAbs = 2 from rfl] at z
    omega
  . rw [decide_eq_false h, Bool.false_and]
theorem Ul {H : Hp} {a : Addr} {ns : List Int} (h : H a = some (.tup (ns.map V.int))) (hl : ns.length <= 1000) : Th K H (.ref a) (decide (trim ns = ns)) := .nums (.of h) hl
theorem M5 {H : Hp} {a : Addr} {t b : Int} (h : H a = some (.tup [.int t, .int b])) : Tf K H (.ref a) (low t b) := .two (.of h)
theorem Odd.at {H : Hp} {O : Addr} {vs : List V} (h : Odd K H O 17 vs) (c : Int) : ∃ v, atI vs (c % 17) = some v /\ Tn K H v false := by
  have h0 := Int.emod_nonneg c (show (17 : Int) ≠ 0 by decide)
  have h1 := Int.emod_lt_of_pos c (show (0 : Int) < 17 by decide)
  have hj : (c % 17).toNat < vs.length := by rw [h.len]; omega
  refine ⟨vs[(c % 17).toNat], ?_, h.no _ (List.getElem_mem hj)⟩
  have := Jc (xs := vs) (j := (c % 17).toNat) (v := vs[(c % 17).toNat]) (List.getElem?_eq_getElem hj)
  rw [Int.toNat_of_nonneg h0] at this
  exact this
theorem Ajw {f : Addr} {fd : FuncData} (F : Df K mg "law" Wi ["_law_script"] f fd) (z_isinstance : mg "isinstance" = none) (z_bool : mg "bool" = none) (z_list : mg "list" = none)  (c_q_poly : Cal P w K mg base 2 "_law_poly" ["_law_cell", "_law_most"] (Vj K)) (c_q_drawn : Cal P w K mg base 3 "_law_drawn" ["_law_cell"] (Ti K)) (c_q_cell_at : Cal P w K mg base 1 "_law_cell_at" ["_law_script", "_law_k"] (Km K)) (c_is_number : Cal P w K mg base 11 "is_number" ["n"] (Oi K)) (c_q_product : Cal P w K mg base 3 "_law_product" ["_law_cell"] (Oh K)) (c_q_due : Cal P w K mg base 4 "_law_due" ["_law_p", "_law_lo", "_law_hi"] (Yb K)) : Sd P w K mg base CX0 12 f fd ["_law_script"] (Afe K) := by
  refine F.fn.ok Gi (fun vs H Q E h => ?_) (fun cdv A outer s H vs Q E hr h => ?_)
  . obtain ⟨a, ns, rfl, _⟩ := h
    rfl
  obtain ⟨a, ns, rfl, hS, h63, k⟩ := h
  refine S.Ay ⟨_, (S.Ad (S.Ai (i := 1) Gi.nd rfl (Or.inl rfl) (S.Gb S.Ac))
      (S.Ad (S.Ai (i := 2) Gi.nd rfl (Or.inl rfl) (S.Am c_q_poly (hr.mono (by decide)) (S.Aa (S.Ah Bk (S.Am c_q_cell_at (hr.mono (by decide)) (S.Aa (S.pv 0) (S.Aa S.Ab S.Ac))) S.Ab) (S.Aa S.Ab S.Ac))))
      (S.Ad (S.Ca (S.Aj Fx (S.Ah Bv (S.Am c_q_cell_at (hr.mono (by decide)) (S.Aa (S.pv 0) (S.Aa S.Ab S.Ac))) S.Ab) S.Ab (Ak _)) (S.Ae (S.Gg (S.Am c_q_product (hr.mono (by decide)) (S.Aa (S.Ah Bk (S.Am c_q_cell_at (hr.mono (by decide)) (S.Aa (S.pv 0) (S.Aa S.Ab S.Ac))) S.Ab) S.Ac)) (S.Gu rfl (S.Bj (S.Ar (i := 2) Gi.nd rfl (Or.inl rfl)) (S.Bj (S.Ar (i := 1) Gi.nd rfl (Or.inl rfl)) S.Gf))))) S.Ax)
      (S.Ad (S.Ai (i := 3) Gi.nd rfl (Or.inl rfl) (S.Am c_q_drawn (hr.mono (by decide)) (S.Aa (S.Am c_q_cell_at (hr.mono (by decide)) (S.Aa (S.pv 0) (S.Aa S.Ab S.Ac))) S.Ac)))
      (S.Ad (S.Ai (i := 4) Gi.nd rfl (Or.inl rfl) (S.Am c_q_drawn (hr.mono (by decide)) (S.Aa (S.Am c_q_cell_at (hr.mono (by decide)) (S.Aa (S.pv 0) (S.Aa S.Ab S.Ac))) S.Ac)))
      (S.Ad (S.Ai (i := 5) Gi.nd rfl (Or.inl rfl) (S.Am c_q_cell_at (hr.mono (by decide)) (S.Aa (S.pv 0) (S.Aa S.Ab S.Ac))))
      (S.Ad (S.Ca (S.Aj Fx (S.Ah Bv (S.pv 5) S.Ab) S.Ab (Ak _)) (S.Ae (S.Ai (i := 4) Gi.nd rfl (Or.inl rfl) (S.pv 3))) S.Ax)
      (S.Ad (S.Ca (S.Ju (S.Mv (S.Aj Fx (S.Ah Bv (S.pv 5) S.Ab) S.Ab (Ak _)) (S.Jy (S.Aj (X4 hr.units) (S.pv 1) (S.Gb S.Ac) (Ak _))))) (S.Ae (S.Ai (i := 3) Gi.nd rfl (Or.inl rfl) (S.Az Dj (S.pv 1) S.Ab (fun _ _ => rfl)))) S.Ax)
      (S.Ad (S.Ca (S.Aj Fx (S.Ah Bv (S.pv 5) S.Ab) S.Ab (Ak _)) (S.Ae (S.Ai (i := 4) Gi.nd rfl (Or.inl rfl) (S.Aw (S.Aa (S.Ah Bw (S.Az Av (S.pv 3) S.Ab (fun _ _ => rfl)) (S.Ah Bb (S.Az Av (S.pv 3) S.Ab (fun _ _ => rfl)) (S.Ah Bw S.Ab (S.Ah Bv (S.Ah Bk (S.pv 5) S.Ab) S.Ab)))) (S.Aa (S.Az Av (S.pv 3) S.Ab (fun _ _ => rfl)) S.Ac))))) S.Ax)
      (S.Ad (S.Ca (S.Aj Fx (S.Ah Bv (S.Ah Bk (S.pv 5) S.Ab) S.Ab) S.Ab (Ak _)) (S.Ad (S.Ai (i := 2) Gi.nd rfl (Or.inl rfl) (S.Aw (S.Aa (S.Ah Bw (S.Dp Bt (S.Az Av (S.pv 3) S.Ab (fun _ _ => rfl))) (S.Az Dj (S.Gb (S.Aa S.Ab (S.Aa S.Ab (S.Aa S.Ab S.Ac)))) (S.Ah Bv (S.Ah Bk (S.pv 5) S.Ab) S.Ab) (fun _ _ => rfl))) (S.Aa (S.Az Av (S.pv 3) S.Ab (fun _ _ => rfl)) S.Ac))))
      (S.Ae (S.Ai (i := 4) Gi.nd rfl (Or.inl rfl) (S.pv 3)))) S.Ax)
      (S.Ad (S.Ca (S.Aj Fx (S.Ah Bv (S.Ah Bk (S.pv 5) S.Ab) S.Ab) S.Ab (Ak _)) (S.Ae (S.Ai (i := 2) Gi.nd rfl (Or.inl rfl) (S.Aw S.Ac))) S.Ax)
      (S.Ad (S.Ai (i := 6) Gi.nd rfl (Or.inl rfl) (S.Gb (S.Aa S.Yl (S.Aa S.Ab (S.Aa (S.Aw S.Ac) (S.Aa S.Wo (S.Aa (S.Gb (S.Aa (S.pv 2) (S.Aa (S.pv 3) (S.Aa (S.pv 4) S.Ac)))) (S.Aa (S.Aw (S.Aa (S.pv 2) (S.Aa (S.pv 3) S.Ac))) (S.Aa (S.Aw (S.Aa (S.pv 2) (S.Aa (S.pv 3) (S.Aa (S.pv 4) (S.Aa (S.pv 4) S.Ac))))) (S.Aa (S.Aw (S.Aa (S.Dq Dk rfl z_list PyProof.Rows.boot_list (S.Aa (S.pv 2) S.Ac)) (S.Aa (S.pv 3) (S.Aa (S.pv 4) S.Ac)))) (S.Aa (S.Aw (S.Aa (S.Ah Aal (S.pv 2) (S.Aw (S.Aa S.Ab S.Ac))) (S.Aa (S.pv 3) (S.Aa (S.pv 4) S.Ac)))) S.Ac)))))))))))
      (S.Ad (S.Ai (i := 6) Gi.nd rfl (Or.inl rfl) (S.Ah Abu (S.pv 6) (S.Gb (S.Aa (S.Aw (S.Aa (S.pv 2) (S.Aa (S.Dq Dk rfl z_list PyProof.Rows.boot_list (S.Aa (S.pv 3) S.Ac)) (S.Aa (S.pv 4) S.Ac)))) (S.Aa (S.Aw (S.Aa (S.pv 2) (S.Aa (S.pv 3) (S.Aa S.Ab S.Ac)))) (S.Aa (S.Aw (S.Aa (S.Aw (S.Aa S.Ab (S.Aa S.Ab S.Ac))) (S.Aa (S.Aw (S.Aa S.Ab (S.Aa S.Ab S.Ac))) (S.Aa (S.Aw (S.Aa S.Ab (S.Aa S.Ab S.Ac))) S.Ac)))) (S.Aa (S.Aw (S.Aa (S.Aw (S.Aa S.Ab (S.Aa S.Ab S.Ac))) (S.Aa (S.Aw (S.Aa S.Ab (S.Aa (S.Dp Bt S.Ab) S.Ac))) (S.Aa (S.Aw (S.Aa S.Ab (S.Aa (S.Dp Bt S.Ab) S.Ac))) S.Ac)))) (S.Aa (S.Aw (S.Aa S.Yl (S.Aa (S.pv 3) (S.Aa (S.pv 4) S.Ac)))) S.Ac))))))))
      (S.Ad (S.Ai (i := 6) Gi.nd rfl (Or.inl rfl) (S.Ah Abu (S.pv 6) (S.Gb (S.Aa (S.Aw (S.Aa (S.Aw (S.Aa S.Ab (S.Aa S.Ab S.Ac))) (S.Aa (S.Aw (S.Aa S.Ab (S.Aa S.Ab S.Ac))) (S.Aa (S.Aw (S.Aa S.Ab (S.Aa S.Ab S.Ac))) S.Ac)))) (S.Aa (S.Aw (S.Aa (S.Aw (S.Aa S.Ab (S.Aa (S.Dp Bt S.Ab) S.Ac))) (S.Aa (S.Aw (S.Aa S.Ab (S.Aa (S.Dp Bt S.Ab) S.Ac))) (S.Aa (S.Aw (S.Aa S.Ab (S.Aa (S.Dp Bt S.Ab) S.Ac))) S.Ac)))) (S.Aa (S.Aw (S.Aa (S.pv 2) (S.Aa (S.Aw (S.Aa (S.Ah Bb S.Ab (S.Az Av (S.pv 3) S.Ab (fun _ _ => rfl))) (S.Aa (S.Ah Bb S.Ab (S.Az Av (S.pv 3) S.Ab (fun _ _ => rfl))) S.Ac))) (S.Aa (S.pv 4) S.Ac)))) S.Ac))))))
      (S.Ad (S.Ca (S.Aj Ah7 (S.Am c_is_number (hr.mono (by decide)) (S.Aa (S.Az Dj (S.pv 6) (S.Ah Bv (S.Am c_q_cell_at (hr.mono (by decide)) (S.Aa (S.pv 0) (S.Aa S.Ab S.Ac))) S.Ab) (fun _ _ => rfl)) S.Ac)) S.Nx (Ak _)) (S.Ae (S.Al S.Nx)) S.Ax)
      (S.Ad (S.Ai (i := 7) Gi.nd rfl (Or.inl rfl) (S.Am c_is_number (hr.mono (by decide)) (S.Aa (S.Aw (S.Aa (S.pv 2) (S.Aa (S.pv 3) (S.Aa (S.pv 4) S.Ac)))) S.Ac)))
      (S.Ae (S.Al (S.Mx (S.Cr Oq rfl z_isinstance PyProof.Rows.boot_isinstance (S.Aa (S.pv 7) (S.Aa (S.Jf (v := .ty "bool") rfl z_bool PyProof.Rows.boot_bool rfl) S.Ac))) (S.Mp (S.Cy Fx (S.pv 7) (S.Am c_q_due (hr.mono (by decide)) (S.Aa (S.pv 2) (S.Aa (S.pv 3) (S.Aa (S.pv 4) S.Ac)))) (Ak _)))))))))))))))))))))), ?_⟩
  refine Ba (fun σ' H' => Same H H' /\ ∃ R, σ' = [some (.ref a), some (.ref R), none, none, none, none, none, none] /\ H' R = some (.lst [])) (fun N hN => ?_) ?_
  . contradiction
    exact ⟨by decide, fun q hq => hN _ _ ⟨Same.upd hq _, q, rfl, Af⟩⟩
  rintro σ H1 ⟨s1, R, rfl, hR⟩
  refine Ba (fun σ' H' => Same H H' /\ ∃ (R A : Addr) (p : List Int), σ' = [some (.ref a), some (.ref R), some (.ref A), none, none, none, none, none] /\ P23 K H' R A p []) (fun N hN => ?_) ?_
  . contradiction
    refine Qd hS s1 (by decide) ?_
    try contradiction
    exact ⟨⟨by decide, by decide⟩, _, rfl, fun z H2 p s2 hp hl h0 hw hd => hN _ _ ⟨s1.trans s2, R, z, p, rfl, ⟨hp, Ah6 hd, hl, Akc hw, s2 _ _ hR, .nil _⟩⟩⟩
  clear hR s1
  rintro σ H1 ⟨s1, R, A, p, rfl, i1⟩
  refine Ba (fun σ' H' => Same H H' /\ ∃ (R A : Addr) (p : List Int) (zs : List V), σ' = [some (.ref a), some (.ref R), some (.ref A), none, none, none, none, none] /\ P23 K H' R A p zs) (fun N hN => ?_) ?_
  . contradiction
    refine Qd hS s1 (by decide) ?_
    try contradiction
    refine ⟨by decide, ?_⟩
    split
    . refine Qd hS s1 (by decide) ?_
      try contradiction
      refine ⟨⟨by decide, by decide⟩, _, rfl, fun z H2 A2 R2 p zs s2 hz hA hR2 hf tp p5 hw => ?_⟩
      exact Ka hz (hN _ _ ⟨s1.trans s2, R2, A2, p, zs, rfl, ⟨hA, tp, p5, Akc hw, hR2, hf⟩⟩)
    . exact hN _ _ ⟨s1, R, A, p, [], rfl, i1⟩
  clear i1 s1
  rintro σ H1 ⟨s1, R, A, p, zs, rfl, i1⟩
  refine Ba (fun σ' H' => Same H1 H' /\ ∃ (lo : V) (t b : Int), σ' = [some (.ref a), some (.ref R), some (.ref A), some lo, none, none, none, none] /\ Fz 140 K H' lo t b /\ Int.gcd t b = 1) (fun N hN => ?_) ?_
  . contradiction
    refine Qd hS s1 (by decide) ?_
    try contradiction
    exact ⟨_, rfl, fun z H2 t b s2 hz g => hN _ _ ⟨s2, z, t, b, rfl, hz, g⟩⟩
  rintro σ H2 ⟨s2, lo, t, b, rfl, il, gl⟩
  refine Ba (fun σ' H' => Same H2 H' /\ ∃ (hi : V) (t' b' : Int), σ' = [some (.ref a), some (.ref R), some (.ref A), some lo, some hi, none, none, none] /\ Fz 140 K H' hi t' b' /\ Int.gcd t' b' = 1) (fun N hN => ?_) ?_
  . contradiction
    refine Qd hS (s1.trans s2) (by decide) ?_
    try contradiction
    exact ⟨_, rfl, fun z H3 t b s3 hz g => hN _ _ ⟨s3, z, t, b, rfl, hz, g⟩⟩
  rintro σ H3 ⟨s3, hi, t', b', rfl, ih, gh⟩
  have s13 := s1.trans (s2.trans s3)
  replace i1 := i1.mono (s2.trans s3)
  replace il := il.mono s3
  clear s1 s2 s3
  refine Ba (fun σ' H' => H' = H3 /\ ∃ way : Int, σ' = [some (.ref a), some (.ref R), some (.ref A), some lo, some hi, some (.int way), none, none]) (fun N hN => ?_) ?_
  . contradiction
    refine Qd hS s13 (by decide) ?_
    try contradiction
    exact hN _ _ ⟨rfl, _, rfl⟩
  rintro σ H4 ⟨rfl, way, rfl⟩
  refine Ba (fun σ' H' => H' = H4 /\ ∃ (hi : V) (t' b' : Int), σ' = [some (.ref a), some (.ref R), some (.ref A), some lo, some hi, some (.int way), none, none] /\ Fz 140 K H' hi t' b' /\ Int.gcd t' b' = 1) (fun N hN => ?_) ?_
  . contradiction
    refine ⟨by decide, ?_⟩
    split
    . exact hN _ _ ⟨rfl, _, _, _, rfl, il, gl⟩
    . exact hN _ _ ⟨rfl, _, _, _, rfl, ih, gh⟩
  clear ih gh hi t' b'
  rintro σ H5 ⟨rfl, hi, t', b', rfl, ih, gh⟩
  refine Ba (fun σ' H' => Same H5 H' /\ ∃ (lo : V) (t b : Int), σ' = [some (.ref a), some (.ref R), some (.ref A), some lo, some hi, some (.int way), none, none] /\ Fz 140 K H' lo t b /\ Int.gcd t b = 1) (fun N hN => ?_) ?_
  . contradiction
    refine ⟨by decide, ?_⟩
    split
    . refine ⟨by decide, fun q hq => ?_⟩
      have sq := Same.upd hq (.lst [])
      have hR := sq _ _ i1.rt
      refine Ajr hR (i1.rf.mono sq) Af ?_
      cases zs with
      | nil =>
        try contradiction
        exact hN _ _ ⟨sq, lo, t, b, rfl, il.mono sq, gl⟩
      | cons r zs =>
        obtain ⟨t2, b2, hf, g2⟩ := i1.rf.head
        rw [decide_eq_false (by simp)]
        try contradiction
        refine Lh (.of hR) (at0 _ _) ?_
        exact hN _ _ ⟨sq, r, t2, b2, rfl, (hf.mono sq).up (by decide), g2⟩
    . exact hN _ _ ⟨Same.refl _, lo, t, b, rfl, il, gl⟩
  clear il gl lo t b
  rintro σ H6 ⟨s6, lo, t, b, rfl, il, gl⟩
  refine Ba (fun σ' H' => Same H6 H' /\ ∃ (hi : V) (t' b' : Int), σ' = [some (.ref a), some (.ref R), some (.ref A), some lo, some hi, some (.int way), none, none] /\ Fz 150 K H' hi t' b' /\ Int.gcd t' b' = 1) (fun N hN => ?_) ?_
  . contradiction
    refine ⟨by decide, ?_⟩
    split
    . refine Aez il (Same.refl _) ?_
      try contradiction
      refine Adx il (Same.refl _) ?_
      try contradiction
      have zk : Sz 4 (1 + way / 6 % 9) := by unfold Sz; omega
      refine ⟨⟨by decide, by decide⟩, by decide, il.2.2.1.mulOk zk (by decide), Adx il (Same.refl _) ?_⟩
      try contradiction
      intro q hq
      exact hN _ _ ⟨Same.upd hq _, _, _, _, rfl, ⟨⟨q, rfl, .of Af⟩, (il.2.1.add (il.2.2.1.mul zk)).mono (by decide), il.2.2.1.mono (by decide), il.2.2.2⟩, Acz _ _ _ gl⟩
    . exact hN _ _ ⟨Same.refl _, hi, t', b', rfl, (ih.mono s6).up (by decide), gh⟩
  clear ih gh hi t' b'
  rintro σ H7 ⟨s7, hi, t', b', rfl, ih, gh⟩
  have s67 := s6.trans s7
  have i7 := i1.mono s67
  have l7 : L23 K H7 A p lo hi t b t' b' := ⟨i7.ip, i7.tp, i7.p5, (il.mono s7).up (by decide), ih, gl, gh, .inr i7.zp⟩
  refine Ba (fun σ' H' => Same H7 H' /\ ∃ (A : Addr) (p : List Int) (hi : V) (t' b' : Int), σ' = [some (.ref a), some (.ref R), some (.ref A), some lo, some hi, some (.int way), none, none] /\ L23 K H' A p lo hi t b t' b') (fun N hN => ?_) ?_
  . contradiction
    refine ⟨⟨by decide, by decide⟩, by decide, ?_⟩
    split
    . refine Aez l7.il (Same.refl _) ?_
      try contradiction
      refine ⟨by decide, fun q1 hq1 => ⟨⟨by decide, by decide⟩, by decide, ?_⟩⟩
      have sq1 := Same.upd hq1 (.lst [V.int 0, V.int 0, V.int 1])
      have menu : ∃ x, atI [V.int 0, V.int 0, V.int 1] (way / 216 % 3) = some (.int x) /\ Sz 1 x := by
        have : way / 216 % 3 = 0 \/ way / 216 % 3 = 1 \/ way / 216 % 3 = 2 := by omega
        rcases this with h | h | h <;> rw [h]
        . exact ⟨0, rfl, Abn⟩
        . exact ⟨0, rfl, Abn⟩
        . exact ⟨1, rfl, by unfold Sz; decide⟩
      obtain ⟨x, ex, zx⟩ := menu
      refine Lh (.of Af) ex ?_
      try contradiction
      refine Adx l7.il sq1 ?_
      try contradiction
      intro q2 hq2
      have sq2 := Same.upd hq2 (.tup [V.int (-t + x), V.int b])
      have l9 := l7.mono (sq1.trans sq2)
      exact hN _ _ ⟨sq1.trans sq2, q2, [-t + x, b], lo, t, b, rfl, ⟨.of Af, .inr ⟨by simp, by have := l7.il.2.2.2; simp; omega⟩, by show 2 <= 5; decide, l9.il, l9.il.up (by decide), gl, gl, .inl rfl⟩⟩
    . exact hN _ _ ⟨Same.refl _, A, p, hi, t', b', rfl, l7⟩
  clear l7 i7 i1 ih gh A p hi t' b' il
  rintro σ H8 ⟨s8, A, p, hi, t', b', rfl, l8⟩
  refine Ba (fun σ' H' => Same H8 H' /\ ∃ (A : Addr) (p : List Int), σ' = [some (.ref a), some (.ref R), some (.ref A), some lo, some hi, some (.int way), none, none] /\ L23 K H' A p lo hi t b t' b') (fun N hN => ?_) ?_
  . contradiction
    refine ⟨⟨by decide, by decide⟩, by decide, ?_⟩
    split
    . refine ⟨by decide, fun q hq => ?_⟩
      have l9 := l8.mono (Same.upd hq (.tup []))
      exact hN _ _ ⟨Same.upd hq _, q, [], rfl, ⟨.of Af, .inl rfl, by decide, l9.il, l9.ih, gl, l8.gh, .inr fun i => by rw [Bu]; exact Abn⟩⟩
    . exact hN _ _ ⟨Same.refl _, A, p, rfl, l8⟩
  clear l8 A p
  rintro σ H9 ⟨s9, A, p, rfl, l9⟩
  have sA := ((s13.trans s67).trans s8).trans s9
  clear s13 s67 s8 s9 s6 s7
  refine Ba (fun σ' H' => Same H9 H' /\ ∃ (O : Addr) (vs : List V), σ' = [some (.ref a), some (.ref R), some (.ref A), some lo, some hi, some (.int way), some (.ref O), none] /\ Odd K H' O 9 vs) (fun N hN => ?_) ?_
  . skip
    refine ⟨show 0 <= sizeLine by decide, fun q1 hq1 => ?_⟩
    (generalize eq1 : upd _ q1 _ = Gq1; obtain ⟨sq1, gq1⟩ := nw hq1 eq1; clear eq1 hq1)
    refine ⟨_, rfl, _, rfl, _, rfl, show 3 <= sizeLine by decide, fun q2 hq2 => ?_⟩
    (generalize eq2 : upd _ q2 _ = Gq2; obtain ⟨sq2, gq2⟩ := nw hq2 eq2; clear eq2 hq2)
    refine ⟨_, rfl, _, rfl, show 2 <= sizeLine by decide, fun q3 hq3 => ?_⟩
    (generalize eq3 : upd _ q3 _ = Gq3; obtain ⟨sq3, gq3⟩ := nw hq3 eq3; clear eq3 hq3)
    refine ⟨_, rfl, _, rfl, _, rfl, _, rfl, show 4 <= sizeLine by decide, fun q4 hq4 => ?_⟩
    (generalize eq4 : upd _ q4 _ = Gq4; obtain ⟨sq4, gq4⟩ := nw hq4 eq4; clear eq4 hq4)
    refine ⟨_, rfl, A, _, rfl, .inr ((((sq1.trans sq2).trans sq3).trans sq4).tup l9.ip), fun q5 hq5 => ?_⟩
    (generalize eq5 : upd _ q5 _ = Gq5; obtain ⟨sq5, gq5⟩ := nw hq5 eq5; clear eq5 hq5)
    refine ⟨_, rfl, _, rfl, show 3 <= sizeLine by decide, fun q6 hq6 => ?_⟩
    (generalize eq6 : upd _ q6 _ = Gq6; obtain ⟨sq6, gq6⟩ := nw hq6 eq6; clear eq6 hq6)
    refine ⟨_, rfl, show 1 <= sizeLine by decide, fun q7 hq7 => ?_⟩
    (generalize eq7 : upd _ q7 _ = Gq7; obtain ⟨sq7, gq7⟩ := nw hq7 eq7; clear eq7 hq7)
    refine ⟨A, q7, _, _, rfl, rfl, (((((((sq1.trans sq2).trans sq3).trans sq4).trans sq5).trans sq6).trans sq7).tup l9.ip), .of gq7, by rw [List.length_map]; exact Nat.le_trans (Nat.add_le_add_right l9.p5 _) (by decide), fun q8 Gq8 sq8 gq8 => ?_⟩
    refine ⟨_, rfl, _, rfl, show 3 <= sizeLine by decide, fun q9 hq9 => ?_⟩
    (generalize eq9 : upd _ q9 _ = Gq9; obtain ⟨sq9, gq9⟩ := nw hq9 eq9; clear eq9 hq9)
    refine ⟨show 9 <= sizeLine by decide, fun q10 hq10 => ?_⟩
    (generalize eq10 : upd _ q10 _ = Gq10; obtain ⟨sq10, gq10⟩ := nw hq10 eq10; clear eq10 hq10)
    have tq10 := Same.refl Gq10
    have tq9 := sq10.trans tq10
    have tq8 := sq9.trans tq9
    have tq7 := sq8.trans tq8
    have tq6 := sq7.trans tq7
    have tq5 := sq6.trans tq6
    have tq4 := sq5.trans tq5
    have tq3 := sq4.trans tq4
    have tq2 := sq3.trans tq3
    have tq1 := sq2.trans tq2
    have t0 := sq1.trans tq1
    have m := l9.mono t0
    have e8 : decide (trim (p ++ [0]) = p ++ [0]) = false := decide_eq_false fun z => by rw [Vw] at z; exact z rfl
    have h8 : Th K Gq10 (.ref q8) false := by
      rw [<- e8]
      refine .nums (tq8.tup ?_) (by rw [List.length_append]; have := l9.p5; simp; omega)
      rw [List.map_append]
      exact gq8
    refine hN _ _ ⟨t0, q10, _, rfl, ⟨gq10, fun v hv => ?_, rfl⟩⟩
    have hv' : v = .non \/ v = .int 7 \/ v = .ref q1 \/ v = .str "" \/ v = .ref q2 \/ v = .ref q3 \/ v = .ref q4 \/ v = .ref q6 \/ v = .ref q9 := by simpa using hv
    rcases hv' with rfl | rfl | rfl | rfl | rfl | rfl | rfl | rfl | rfl
    . exact .non
    . exact .int 7
    . exact .long (.of (tq1 _ _ gq1)) (by decide)
    . exact .str _
    . exact .lst (tq2 _ _ gq2)
    . exact .long (.of (tq3 _ _ gq3)) (by show 2 ≠ 3; decide)
    . exact .long (.of (tq4 _ _ gq4)) (by show 4 ≠ 3; decide)
    . exact .bad (.of (tq6 _ _ gq6)) (.lst (tq5 _ _ gq5)) (m.il.tf m.gl) (m.ih.tf m.gh) (.inl rfl)
    . exact .bad (.of (tq9 _ _ gq9)) h8 (m.il.tf m.gl) (m.ih.tf m.gh) (.inl rfl)
  rintro σ H1 ⟨s1, O, vs1, rfl, o1⟩
  replace l9 := l9.mono s1
  refine Ba (fun σ' H' => Same H1 H' /\ ∃ (O : Addr) (vs : List V), σ' = [some (.ref a), some (.ref R), some (.ref A), some lo, some hi, some (.int way), some (.ref O), none] /\ Odd K H' O 14 vs) (fun N hN => ?_) ?_
  . obtain ⟨⟨d, rfl, hd⟩, _⟩ := id l9.il
    refine ⟨_, rfl, _, rfl, _, rfl, d, _, rfl, .inr hd, fun q1 hq1 => ?_⟩
    (generalize eq1 : upd _ q1 _ = Gq1; obtain ⟨sq1, gq1⟩ := nw hq1 eq1; clear eq1 hq1)
    refine ⟨_, rfl, show 3 <= sizeLine by decide, fun q2 hq2 => ?_⟩
    (generalize eq2 : upd _ q2 _ = Gq2; obtain ⟨sq2, gq2⟩ := nw hq2 eq2; clear eq2 hq2)
    refine ⟨_, rfl, _, rfl, show 3 <= sizeLine by decide, fun q3 hq3 => ?_⟩
    (generalize eq3 : upd _ q3 _ = Gq3; obtain ⟨sq3, gq3⟩ := nw hq3 eq3; clear eq3 hq3)
    refine ⟨show 2 <= sizeLine by decide, fun q4 hq4 => ?_⟩
    (generalize eq4 : upd _ q4 _ = Gq4; obtain ⟨sq4, gq4⟩ := nw hq4 eq4; clear eq4 hq4)
    refine ⟨show 2 <= sizeLine by decide, fun q5 hq5 => ?_⟩
    (generalize eq5 : upd _ q5 _ = Gq5; obtain ⟨sq5, gq5⟩ := nw hq5 eq5; clear eq5 hq5)
    refine ⟨show 2 <= sizeLine by decide, fun q6 hq6 => ?_⟩
    (generalize eq6 : upd _ q6 _ = Gq6; obtain ⟨sq6, gq6⟩ := nw hq6 eq6; clear eq6 hq6)
    refine ⟨show 3 <= sizeLine by decide, fun q7 hq7 => ?_⟩
    (generalize eq7 : upd _ q7 _ = Gq7; obtain ⟨sq7, gq7⟩ := nw hq7 eq7; clear eq7 hq7)
    refine ⟨show 2 <= sizeLine by decide, fun q8 hq8 => ?_⟩
    (generalize eq8 : upd _ q8 _ = Gq8; obtain ⟨sq8, gq8⟩ := nw hq8 eq8; clear eq8 hq8)
    refine ⟨_, rfl, show 2 <= sizeLine by decide, fun q9 hq9 => ?_⟩
    (generalize eq9 : upd _ q9 _ = Gq9; obtain ⟨sq9, gq9⟩ := nw hq9 eq9; clear eq9 hq9)
    refine ⟨_, rfl, show 2 <= sizeLine by decide, fun q10 hq10 => ?_⟩
    (generalize eq10 : upd _ q10 _ = Gq10; obtain ⟨sq10, gq10⟩ := nw hq10 eq10; clear eq10 hq10)
    refine ⟨show 3 <= sizeLine by decide, fun q11 hq11 => ?_⟩
    (generalize eq11 : upd _ q11 _ = Gq11; obtain ⟨sq11, gq11⟩ := nw hq11 eq11; clear eq11 hq11)
    refine ⟨_, rfl, _, rfl, show 3 <= sizeLine by decide, fun q12 hq12 => ?_⟩
    (generalize eq12 : upd _ q12 _ = Gq12; obtain ⟨sq12, gq12⟩ := nw hq12 eq12; clear eq12 hq12)
    refine ⟨show 5 <= sizeLine by decide, fun q13 hq13 => ?_⟩
    (generalize eq13 : upd _ q13 _ = Gq13; obtain ⟨sq13, gq13⟩ := nw hq13 eq13; clear eq13 hq13)
    have tq13 := Same.refl Gq13
    have tq12 := sq13.trans tq13
    have tq11 := sq12.trans tq12
    have tq10 := sq11.trans tq11
    have tq9 := sq10.trans tq10
    have tq8 := sq9.trans tq9
    have tq7 := sq8.trans tq8
    have tq6 := sq7.trans tq7
    have tq5 := sq6.trans tq6
    have tq4 := sq5.trans tq5
    have tq3 := sq4.trans tq4
    have tq2 := sq3.trans tq3
    have tq1 := sq2.trans tq2
    have t0 := sq1.trans tq1
    refine ⟨O, q13, _, _, rfl, rfl, (t0) _ _ o1.it, gq13, by rw [o1.len]; show 9 + 5 <= sizeLine; decide, fun q14 hq14 => ?_⟩
    (generalize eq14 : upd _ q14 _ = Gq14; obtain ⟨sq14, gq14⟩ := nw hq14 eq14; clear eq14 hq14)
    have u := t0.trans sq14
    have m := l9.mono u
    have o2 := o1.mono u
    have l02 : low 0 2 = false := by decide
    have l01 : low 0 (-1) = false := by decide
    refine hN _ _ ⟨u, q14, _, rfl, ⟨gq14, fun v hv => ?_, by rw [List.length_append, o1.len]; rfl⟩⟩
    rcases List.mem_append.mp hv with hv | hv
    . exact o2.no v hv
    have hv' : v = .ref q2 \/ v = .ref q3 \/ v = .ref q7 \/ v = .ref q11 \/ v = .ref q12 := by simpa using hv
    have w : ∀ {q : Addr} {x : HO}, Gq13 q = some x -> Gq14 q = some x := fun h => sq14 _ _ h
    rcases hv' with rfl | rfl | rfl | rfl | rfl
    . exact .bad (.of (w (tq2 _ _ gq2))) m.th (.lst (w (tq1 _ _ gq1))) (m.ih.tf m.gh) (.inr (.inl rfl))
    . exact .bad (.of (w (tq3 _ _ gq3))) m.th (m.il.tf m.gl) (.int 3) (.inr (.inr rfl))
    . exact .bad (.of (w (tq7 _ _ gq7))) (Ul (ns := [0, 1]) (w (tq4 _ _ gq4)) (by decide)) (M5 (w (tq5 _ _ gq5))) (M5 (w (tq6 _ _ gq6))) (.inr (.inl l02))
    . exact .bad (.of (w (tq11 _ _ gq11))) (Ul (ns := [0, 1]) (w (tq8 _ _ gq8)) (by decide)) (M5 (w (tq9 _ _ gq9))) (M5 (w (tq10 _ _ gq10))) (.inr (.inl l01))
    . exact .bad (.of (w (tq12 _ _ gq12))) .non (m.il.tf m.gl) (m.ih.tf m.gh) (.inl rfl)
  rintro σ H2 ⟨s2, O2, vs2, rfl, o2⟩
  replace l9 := l9.mono s2
  clear o1
  refine Ba (fun σ' H' => Same H2 H' /\ ∃ (O : Addr) (vs : List V), σ' = [some (.ref a), some (.ref R), some (.ref A), some lo, some hi, some (.int way), some (.ref O), none] /\ Odd K H' O 17 vs) (fun N hN => ?_) ?_
  . have z2 : Sz 2 (2 : Int) := by unfold Sz; decide
    refine ⟨_, rfl, show 2 <= sizeLine by decide, fun q1 hq1 => ?_⟩
    (generalize eq1 : upd _ q1 _ = Gq1; obtain ⟨sq1, gq1⟩ := nw hq1 eq1; clear eq1 hq1)
    refine ⟨show 2 <= sizeLine by decide, fun q2 hq2 => ?_⟩
    (generalize eq2 : upd _ q2 _ = Gq2; obtain ⟨sq2, gq2⟩ := nw hq2 eq2; clear eq2 hq2)
    refine ⟨show 2 <= sizeLine by decide, fun q3 hq3 => ?_⟩
    (generalize eq3 : upd _ q3 _ = Gq3; obtain ⟨sq3, gq3⟩ := nw hq3 eq3; clear eq3 hq3)
    refine ⟨show 3 <= sizeLine by decide, fun q4 hq4 => ?_⟩
    (generalize eq4 : upd _ q4 _ = Gq4; obtain ⟨sq4, gq4⟩ := nw hq4 eq4; clear eq4 hq4)
    refine ⟨_, rfl, show 2 <= sizeLine by decide, fun q5 hq5 => ?_⟩
    (generalize eq5 : upd _ q5 _ = Gq5; obtain ⟨sq5, gq5⟩ := nw hq5 eq5; clear eq5 hq5)
    refine ⟨_, rfl, show 2 <= sizeLine by decide, fun q6 hq6 => ?_⟩
    (generalize eq6 : upd _ q6 _ = Gq6; obtain ⟨sq6, gq6⟩ := nw hq6 eq6; clear eq6 hq6)
    refine ⟨_, rfl, show 2 <= sizeLine by decide, fun q7 hq7 => ?_⟩
    (generalize eq7 : upd _ q7 _ = Gq7; obtain ⟨sq7, gq7⟩ := nw hq7 eq7; clear eq7 hq7)
    refine ⟨show 3 <= sizeLine by decide, fun q8 hq8 => ?_⟩
    (generalize eq8 : upd _ q8 _ = Gq8; obtain ⟨sq8, gq8⟩ := nw hq8 eq8; clear eq8 hq8)
    refine ⟨_, rfl, _, rfl, ?_⟩
    try contradiction
    refine Aez l9.il ((((((((sq1.trans sq2).trans sq3).trans sq4).trans sq5).trans sq6).trans sq7).trans sq8)) ?_
    try contradiction
    refine ⟨z2.mulOk l9.il.2.1 (by decide), Adx l9.il ((((((((sq1.trans sq2).trans sq3).trans sq4).trans sq5).trans sq6).trans sq7).trans sq8)) ?_⟩
    try contradiction
    refine ⟨z2.mulOk l9.il.2.2.1 (by decide), fun q9 hq9 => ?_⟩
    (generalize eq9 : upd _ q9 _ = Gq9; obtain ⟨sq9, gq9⟩ := nw hq9 eq9; clear eq9 hq9)
    refine ⟨by decide, fun q10 hq10 => ?_⟩
    (generalize eq10 : upd _ q10 _ = Gq10; obtain ⟨sq10, gq10⟩ := nw hq10 eq10; clear eq10 hq10)
    refine ⟨by decide, fun q11 hq11 => ?_⟩
    (generalize eq11 : upd _ q11 _ = Gq11; obtain ⟨sq11, gq11⟩ := nw hq11 eq11; clear eq11 hq11)
    have tq11 := Same.refl Gq11
    have tq10 := sq11.trans tq11
    have tq9 := sq10.trans tq10
    have tq8 := sq9.trans tq9
    have tq7 := sq8.trans tq8
    have tq6 := sq7.trans tq7
    have tq5 := sq6.trans tq6
    have tq4 := sq5.trans tq5
    have tq3 := sq4.trans tq4
    have tq2 := sq3.trans tq3
    have tq1 := sq2.trans tq2
    have t0 := sq1.trans tq1
    refine ⟨O2, q11, _, _, rfl, rfl, (t0) _ _ o2.it, gq11, by rw [o2.len]; show 14 + 3 <= sizeLine; decide, fun q14 hq14 => ?_⟩
    (generalize eq14 : upd _ q14 _ = Gq14; obtain ⟨sq14, gq14⟩ := nw hq14 eq14; clear eq14 hq14)
    have u := t0.trans sq14
    have m := l9.mono u
    have o3 := o2.mono u
    have l02 : low 0 2 = false := by decide
    have l01 : low 0 (-1) = false := by decide
    refine hN _ _ ⟨u, q14, _, rfl, ⟨gq14, fun v hv => ?_, by rw [List.length_append, o2.len]; rfl⟩⟩
    rcases List.mem_append.mp hv with hv | hv
    . exact o3.no v hv
    have hv' : v = .ref q4 \/ v = .ref q8 \/ v = .ref q10 := by simpa using hv
    have w : ∀ {q : Addr} {x : HO}, Gq11 q = some x -> Gq14 q = some x := fun h => sq14 _ _ h
    rcases hv' with rfl | rfl | rfl
    . exact .bad (.of (w (tq4 _ _ gq4))) (Ul (ns := [0, 2]) (w (tq1 _ _ gq1)) (by decide)) (M5 (w (tq2 _ _ gq2))) (M5 (w (tq3 _ _ gq3))) (.inr (.inl l02))
    . exact .bad (.of (w (tq8 _ _ gq8))) (Ul (ns := [0, -1]) (w (tq5 _ _ gq5)) (by decide)) (M5 (w (tq6 _ _ gq6))) (M5 (w (tq7 _ _ gq7))) (.inr (.inl l01))
    . exact .bad (.of (w (tq10 _ _ gq10))) m.th (M5 (w (tq9 _ _ gq9))) (m.ih.tf m.gh) (.inr (.inl (Ah4 t b)))
  rintro σ H3 ⟨s3, O3, vs3, rfl, o3⟩
  replace l9 := l9.mono s3
  clear o2
  have sB := sA.trans (s1.trans (s2.trans s3))
  refine Ba (fun σ' H' => Same H3 H' /\ σ' = [some (.ref a), some (.ref R), some (.ref A), some lo, some hi, some (.int way), some (.ref O3), none]) (fun N hN => ?_) ?_
  . contradiction
    refine Qd hS sB (by decide) ?_
    try contradiction
    obtain ⟨v, ev, hv⟩ := o3.at (cell ns 4)
    refine ⟨by decide, Lh (.of o3.it) ev ?_⟩
    refine ⟨v, false, rfl, hv, fun H4 s4 => ?_⟩
    try contradiction
    refine ⟨_, _, rfl, rfl, ?_⟩
    try contradiction
    exact hN _ _ ⟨s4, rfl⟩
  rintro σ H4 ⟨s4, rfl⟩
  replace l9 := l9.mono s4
  refine Ba (fun σ' H' => Same H4 H' /\ σ' = [some (.ref a), some (.ref R), some (.ref A), some lo, some hi, some (.int way), some (.ref O3), some (.bl (Ag1 p t b t' b'))]) (fun N hN => ?_) ?_
  . contradiction
    refine ⟨by decide, ?_⟩
    (intro q hq; generalize eq : upd _ q _ = Gq; obtain ⟨sq, gq⟩ := nw hq eq; clear eq hq)
    have m := l9.mono sq
    exact ⟨_, _, rfl, m.num gq, fun H5 s5 => hN _ _ ⟨sq.trans s5, rfl⟩⟩
  rintro σ H5 ⟨s5, rfl⟩
  replace l9 := l9.mono s5
  contradiction
  refine isi (.bl _) Afn ?_
  try contradiction
  refine ⟨A, lo, hi, p, t, b, t', b', rfl, l9.ip, l9.tp, l9.p5, l9.il.up (by decide), l9.ih, l9.sm, fun H6 s6 => ?_⟩
  try contradiction
  exact k _
end
abbrev Fd (K : PySem.W.Frag) (x : Str) (st : Stmt) : Prop := ∃ (f : Addr) (od an : Option Addr) (sl : Array (Option Value)) (oc kV dc pm cd ct : Value), PySem.W.nsIn K mainGlobals x = some (some (.ref f)) /\ K.lookup f = some ⟨oc, od, .func (PySem.W.fnOf x x (Lw st) (Jw st) (Ag st) .none kV dc pm an cd ct), sl⟩ /\ PySem.W.codeIn K cd x = true /\ PySem.W.keepIn K (.ref f) = true
theorem Bq {K : PySem.W.Frag} {h : Heap} {mg : Str -> Option Value} {x : Str} {st : Stmt} (X : K.In h) (G : h.Ns mainGlobals mg) (d : Fd K x st) (ps : List Str) (hb : ∀ (kV doc pm : Value) (an : Option Addr) (cdv ct : Value) (us : List Value), us.length = ps.length -> bindArgs (PySem.W.fnOf x x (Lw st) (Jw st) (Ag st) .none kV doc pm an cdv ct) ⟨us, []⟩ = pure (ps.zip us)) : ∃ f fd, Df K mg x st ps f fd := by
  obtain ⟨f, _, _, _, _, _, _, _, _, _, a, l, c, k⟩ := d
  have F := Af2 (st := st) l c k
  exact ⟨_, _, F, F.binds hb, PySem.W.mg_of X G a⟩
theorem all_mk {l : PySem.W.OpenLaw} {w : World} {K : PySem.W.Frag} {h : Heap} {mg : Str -> Option Value} {fa : Addr} (X : K.In h) (G : h.Ns mainGlobals mg) (hfa : mg "law" = some (.ref fa))
    (d1 : Fd K "_law_stirred" Lr) (d2 : Fd K "_law_poly" Ub) (d3 : Fd K "_law_gcd" Xo) (d4 : Fd K "_law_fraction" Kv) (d5 : Fd K "_law_drawn" Pz) (d6 : Fd K "_law_cell_at" Ly) (d7 : Fd K "changes" Qn) (d8 : Fd K "less" Aag) (d9 : Fd K "sign_of_whole" G6) (d10 : Fd K "whole_value" Jv) (d11 : Fd K "sign_at" Qi) (d12 : Fd K "divisor" Qf) (d13 : Fd K "common" Uo) (d14 : Fd K "spread" Uh) (d15 : Fd K "poly" Adn) (d16 : Fd K "moved" Xe) (d17 : Fd K "seen_at" Pn) (d18 : Fd K "between" Rz) (d19 : Fd K "holds_one" Ln) (d20 : Fd K "degree" Uc) (d21 : Fd K "by_number" Jp) (d22 : Fd K "scaled" Pa) (d23 : Fd K "inverse_by" Kd) (d24 : Fd K "single" Ue) (d25 : Fd K "m_parted" Nq) (d26 : Fd K "m_rest" T9) (d27 : Fd K "m_shared" Nk) (d28 : Fd K "surely_apart" Jb) (d29 : Fd K "shrunk" O6) (d30 : Fd K "divisor_of" Kg) (d31 : Fd K "content" Ra) (d32 : Fd K "unit" Adq) (d33 : Fd K "plain" Wr) (d34 : Fd K "p_times" Q0) (d35 : Fd K "repeated" Np) (d36 : Fd K "power" Wt) (d37 : Fd K "whole_power" Jz) (d38 : Fd K "raised" Uq) (d39 : Fd K "p_plus" Ov) (d40 : Fd K "p_minus" Qs) (d41 : Fd K "scaled_division" Gj) (d42 : Fd K "next_row" N8) (d43 : Fd K "last_row" Ky) (d44 : Fd K "shared" Uv) (d45 : Fd K "derived" Mz) (d46 : Fd K "is_free" Rj) (d47 : Fd K "is_whole" Ny) (d48 : Fd K "is_poly" M6) (d49 : Fd K "is_fraction" Jx) (d50 : Fd K "is_number" Lq) (d51 : Fd K "_law_product" Jt) (d52 : Fd K "_law_less" T6) (d53 : Fd K "_law_plain" Qy) (d54 : Fd K "_law_rest" Mg) (d55 : Fd K "_law_free" O1) (d56 : Fd K "_law_homog" Qz) (d57 : Fd K "_law_sign" Um) (d58 : Fd K "_law_due" Xq) (d59 : Fd K "law" Wi)
    {qNoPart : Addr} (aNoPart : PySem.W.nsIn K mainGlobals "NoPart" = some (some (.ref qNoPart)))
    {tPRIME : Tok}
    (xkNoPart : PySem.W.excIn K qNoPart [.type "ValueError", .type "Exception", .type "BaseException", .type "object"] "ValueError.__new__" = true)
    (xcPRIME : PySem.W.nsIn K mainGlobals "PRIME" = some (some (.int 2305843009213693951 tPRIME)))
    (zrange : PySem.W.nsIn K mainGlobals "range" = some none) (ztuple : PySem.W.nsIn K mainGlobals "tuple" = some none) (zabs : PySem.W.nsIn K mainGlobals "abs" = some none) (zlen : PySem.W.nsIn K mainGlobals "len" = some none) (zreversed : PySem.W.nsIn K mainGlobals "reversed" = some none) (zlist : PySem.W.nsIn K mainGlobals "list" = some none) (zmax : PySem.W.nsIn K mainGlobals "max" = some none) (zenumerate : PySem.W.nsIn K mainGlobals "enumerate" = some none) (zzip : PySem.W.nsIn K mainGlobals "zip" = some none) (zisinstance : PySem.W.nsIn K mainGlobals "isinstance" = some none) (zint : PySem.W.nsIn K mainGlobals "int" = some none) (zbool : PySem.W.nsIn K mainGlobals "bool" = some none) (zall : PySem.W.nsIn K mainGlobals "all" = some none) :
    ∃ fd : FuncData, (∀ (s : Shared) (v : Value), BindsTo s fd ⟨[v], []⟩ [("_law_script", v)]) /\ ∀ base : Heap, K.In base -> base.Ns mainGlobals mg -> Sd l.prog w K mg base CX0 12 fa fd ["_law_script"] (Afe K) := by
  obtain ⟨f59, _, an, sl, oc, kV, dc, pm, cd, ct, a59, l59, c59, k59⟩ := d59
  obtain ⟨f34, _, _, _, _, _, _, _, _, _, a34, _⟩ := id d34
  have e := hfa.symm.trans (PySem.W.mg_of X G a59)
  cases e
  have z_range := PySem.W.mg_none_of X G zrange
  have z_tuple := PySem.W.mg_none_of X G ztuple
  have z_abs := PySem.W.mg_none_of X G zabs
  have z_len := PySem.W.mg_none_of X G zlen
  have z_reversed := PySem.W.mg_none_of X G zreversed
  have z_list := PySem.W.mg_none_of X G zlist
  have z_max := PySem.W.mg_none_of X G zmax
  have z_enumerate := PySem.W.mg_none_of X G zenumerate
  have z_zip := PySem.W.mg_none_of X G zzip
  have z_isinstance := PySem.W.mg_none_of X G zisinstance
  have z_int := PySem.W.mg_none_of X G zint
  have z_bool := PySem.W.mg_none_of X G zbool
  have z_all := PySem.W.mg_none_of X G zall
  have eNoPart := Ajb aNoPart
  have ep_times := Ajb a34
  have xk_NoPart : Afr K (cA K "NoPart") := by rw [eNoPart]; exact xkNoPart
  have xm_NoPart : mg "NoPart" = some (.ref (cA K "NoPart")) := by rw [eNoPart]; exact PySem.W.mg_of X G aNoPart
  have xc_PRIME : ∃ u, mg "PRIME" = some u /\ RelV (V.int 2305843009213693951) u := ⟨_, PySem.W.mg_of X G xcPRIME, ⟨_, rfl⟩⟩
  have xm_p_times : mg "p_times" = some (.ref (cA K "p_times")) := by rw [ep_times]; exact PySem.W.mg_of X G a34
  obtain ⟨_, _, D1⟩ := Bq X G d1 ["_law_cell", "_law_k"] fun _ _ _ _ _ _ us hl => match us, hl with | [_, _], _ => rfl
  obtain ⟨_, _, D2⟩ := Bq X G d2 ["_law_cell", "_law_most"] fun _ _ _ _ _ _ us hl => match us, hl with | [_, _], _ => rfl
  obtain ⟨_, _, D3⟩ := Bq X G d3 ["_law_one", "_law_other"] fun _ _ _ _ _ _ us hl => match us, hl with | [_, _], _ => rfl
  obtain ⟨_, _, D4⟩ := Bq X G d4 ["_law_top", "_law_bottom"] fun _ _ _ _ _ _ us hl => match us, hl with | [_, _], _ => rfl
  obtain ⟨_, _, D5⟩ := Bq X G d5 ["_law_cell"] fun _ _ _ _ _ _ us hl => match us, hl with | [_], _ => rfl
  obtain ⟨_, _, D6⟩ := Bq X G d6 ["_law_script", "_law_k"] fun _ _ _ _ _ _ us hl => match us, hl with | [_, _], _ => rfl
  obtain ⟨_, _, D7⟩ := Bq X G d7 ["p"] fun _ _ _ _ _ _ us hl => match us, hl with | [_], _ => rfl
  obtain ⟨_, _, D8⟩ := Bq X G d8 ["one", "other"] fun _ _ _ _ _ _ us hl => match us, hl with | [_, _], _ => rfl
  obtain ⟨_, _, D9⟩ := Bq X G d9 ["number"] fun _ _ _ _ _ _ us hl => match us, hl with | [_], _ => rfl
  obtain ⟨_, _, D10⟩ := Bq X G d10 ["one", "point"] fun _ _ _ _ _ _ us hl => match us, hl with | [_, _], _ => rfl
  obtain ⟨_, _, D11⟩ := Bq X G d11 ["one", "point"] fun _ _ _ _ _ _ us hl => match us, hl with | [_, _], _ => rfl
  obtain ⟨_, _, D12⟩ := Bq X G d12 ["one", "other"] fun _ _ _ _ _ _ us hl => match us, hl with | [_, _], _ => rfl
  obtain ⟨_, _, D13⟩ := Bq X G d13 ["one", "other"] fun _ _ _ _ _ _ us hl => match us, hl with | [_, _], _ => rfl
  obtain ⟨_, _, D14⟩ := Bq X G d14 ["weights", "factor"] fun _ _ _ _ _ _ us hl => match us, hl with | [_, _], _ => rfl
  obtain ⟨_, _, D15⟩ := Bq X G d15 ["weights"] fun _ _ _ _ _ _ us hl => match us, hl with | [_], _ => rfl
  obtain ⟨_, _, D16⟩ := Bq X G d16 ["weights", "by"] fun _ _ _ _ _ _ us hl => match us, hl with | [_, _], _ => rfl
  obtain ⟨_, _, D17⟩ := Bq X G d17 ["p", "top", "bottom"] fun _ _ _ _ _ _ us hl => match us, hl with | [_, _, _], _ => rfl
  obtain ⟨_, _, D18⟩ := Bq X G d18 ["p", "lo", "hi"] fun _ _ _ _ _ _ us hl => match us, hl with | [_, _, _], _ => rfl
  obtain ⟨_, _, D19⟩ := Bq X G d19 ["p", "lo", "hi"] fun _ _ _ _ _ _ us hl => match us, hl with | [_, _, _], _ => rfl
  obtain ⟨_, _, D20⟩ := Bq X G d20 ["one"] fun _ _ _ _ _ _ us hl => match us, hl with | [_], _ => rfl
  obtain ⟨_, _, D21⟩ := Bq X G d21 ["one", "m"] fun _ _ _ _ _ _ us hl => match us, hl with | [_, _], _ => rfl
  obtain ⟨_, _, D22⟩ := Bq X G d22 ["one", "factor"] fun _ _ _ _ _ _ us hl => match us, hl with | [_, _], _ => rfl
  obtain ⟨_, _, D23⟩ := Bq X G d23 ["number", "m"] fun _ _ _ _ _ _ us hl => match us, hl with | [_, _], _ => rfl
  obtain ⟨_, _, D24⟩ := Bq X G d24 ["one", "t"] fun _ _ _ _ _ _ us hl => match us, hl with | [_, _], _ => rfl
  obtain ⟨_, _, D25⟩ := Bq X G d25 ["one", "other", "m"] fun _ _ _ _ _ _ us hl => match us, hl with | [_, _, _], _ => rfl
  obtain ⟨_, _, D26⟩ := Bq X G d26 ["one", "other", "m"] fun _ _ _ _ _ _ us hl => match us, hl with | [_, _, _], _ => rfl
  obtain ⟨_, _, D27⟩ := Bq X G d27 ["one", "other", "t"] fun _ _ _ _ _ _ us hl => match us, hl with | [_, _, _], _ => rfl
  obtain ⟨_, _, D28⟩ := Bq X G d28 ["one", "other"] fun _ _ _ _ _ _ us hl => match us, hl with | [_, _], _ => rfl
  obtain ⟨_, _, D29⟩ := Bq X G d29 ["one", "number"] fun _ _ _ _ _ _ us hl => match us, hl with | [_, _], _ => rfl
  obtain ⟨_, _, D30⟩ := Bq X G d30 ["some"] fun _ _ _ _ _ _ us hl => match us, hl with | [_], _ => rfl
  obtain ⟨_, _, D31⟩ := Bq X G d31 ["one"] fun _ _ _ _ _ _ us hl => match us, hl with | [_], _ => rfl
  obtain ⟨_, _, D32⟩ := Bq X G d32 ["one"] fun _ _ _ _ _ _ us hl => match us, hl with | [_], _ => rfl
  obtain ⟨_, _, D33⟩ := Bq X G d33 ["one"] fun _ _ _ _ _ _ us hl => match us, hl with | [_], _ => rfl
  obtain ⟨_, _, D34⟩ := Bq X G d34 ["one", "other"] fun _ _ _ _ _ _ us hl => match us, hl with | [_, _], _ => rfl
  obtain ⟨_, _, D35⟩ := Bq X G d35 ["start", "one", "many", "product"] fun _ _ _ _ _ _ us hl => match us, hl with | [_, _, _, _], _ => rfl
  obtain ⟨_, _, D36⟩ := Bq X G d36 ["one", "many"] fun _ _ _ _ _ _ us hl => match us, hl with | [_, _], _ => rfl
  obtain ⟨_, _, D37⟩ := Bq X G d37 ["number", "many"] fun _ _ _ _ _ _ us hl => match us, hl with | [_, _], _ => rfl
  obtain ⟨_, _, D38⟩ := Bq X G d38 ["one", "many"] fun _ _ _ _ _ _ us hl => match us, hl with | [_, _], _ => rfl
  obtain ⟨_, _, D39⟩ := Bq X G d39 ["one", "other"] fun _ _ _ _ _ _ us hl => match us, hl with | [_, _], _ => rfl
  obtain ⟨_, _, D40⟩ := Bq X G d40 ["one", "other"] fun _ _ _ _ _ _ us hl => match us, hl with | [_, _], _ => rfl
  obtain ⟨_, _, D41⟩ := Bq X G d41 ["one", "other"] fun _ _ _ _ _ _ us hl => match us, hl with | [_, _], _ => rfl
  obtain ⟨_, _, D42⟩ := Bq X G d42 ["first", "second", "known"] fun _ _ _ _ _ _ us hl => match us, hl with | [_, _, _], _ => rfl
  obtain ⟨_, _, D43⟩ := Bq X G d43 ["first", "second"] fun _ _ _ _ _ _ us hl => match us, hl with | [_, _], _ => rfl
  obtain ⟨_, _, D44⟩ := Bq X G d44 ["one", "other"] fun _ _ _ _ _ _ us hl => match us, hl with | [_, _], _ => rfl
  obtain ⟨_, _, D45⟩ := Bq X G d45 ["one"] fun _ _ _ _ _ _ us hl => match us, hl with | [_], _ => rfl
  obtain ⟨_, _, D46⟩ := Bq X G d46 ["one"] fun _ _ _ _ _ _ us hl => match us, hl with | [_], _ => rfl
  obtain ⟨_, _, D47⟩ := Bq X G d47 ["thing"] fun _ _ _ _ _ _ us hl => match us, hl with | [_], _ => rfl
  obtain ⟨_, _, D48⟩ := Bq X G d48 ["thing"] fun _ _ _ _ _ _ us hl => match us, hl with | [_], _ => rfl
  obtain ⟨_, _, D49⟩ := Bq X G d49 ["thing"] fun _ _ _ _ _ _ us hl => match us, hl with | [_], _ => rfl
  obtain ⟨_, _, D50⟩ := Bq X G d50 ["n"] fun _ _ _ _ _ _ us hl => match us, hl with | [_], _ => rfl
  obtain ⟨_, _, D51⟩ := Bq X G d51 ["_law_cell"] fun _ _ _ _ _ _ us hl => match us, hl with | [_], _ => rfl
  obtain ⟨_, _, D52⟩ := Bq X G d52 ["_law_one", "_law_other"] fun _ _ _ _ _ _ us hl => match us, hl with | [_, _], _ => rfl
  obtain ⟨_, _, D53⟩ := Bq X G d53 ["_law_p"] fun _ _ _ _ _ _ us hl => match us, hl with | [_], _ => rfl
  obtain ⟨_, _, D54⟩ := Bq X G d54 ["_law_p", "_law_q"] fun _ _ _ _ _ _ us hl => match us, hl with | [_, _], _ => rfl
  obtain ⟨_, _, D55⟩ := Bq X G d55 ["_law_p"] fun _ _ _ _ _ _ us hl => match us, hl with | [_], _ => rfl
  obtain ⟨_, _, D56⟩ := Bq X G d56 ["_law_p", "_law_x", "_law_y"] fun _ _ _ _ _ _ us hl => match us, hl with | [_, _, _], _ => rfl
  obtain ⟨_, _, D57⟩ := Bq X G d57 ["_law_p", "_law_r"] fun _ _ _ _ _ _ us hl => match us, hl with | [_, _], _ => rfl
  obtain ⟨_, _, D58⟩ := Bq X G d58 ["_law_p", "_law_lo", "_law_hi"] fun _ _ _ _ _ _ us hl => match us, hl with | [_, _, _], _ => rfl
  have F59 := Af2 (st := Wi) l59 c59 k59
  have D59 : Df K mg "law" Wi ["_law_script"] _ _ := ⟨F59, F59.binds (ps := ["_law_script"]) fun _ _ _ _ _ _ us hl => match us, hl with | [_], _ => rfl, PySem.W.mg_of X G a59⟩
  refine ⟨PySem.W.fnOf "law" "law" (Lw Wi) (Jw Wi) (Ag Wi) .none kV dc pm an cd ct, fun s v => .of_eq rfl, fun base _ _ => ?_⟩
  have C_q_stirred := U7 (P := l.prog) (w := w) (base := base) D1
  have C_q_poly := Aaq (P := l.prog) (w := w) (base := base) D2 z_range z_tuple C_q_stirred
  have C_q_gcd := Ae3 (P := l.prog) (w := w) (base := base) D3 z_abs
  have C_q_fraction := Uk (P := l.prog) (w := w) (base := base) D4 C_q_gcd
  have C_q_drawn := Ze (P := l.prog) (w := w) (base := base) D5 C_q_fraction
  have C_q_cell_at := Vk (P := l.prog) (w := w) (base := base) D6 z_len
  have C_changes := Y4 (P := l.prog) (w := w) (base := base) D7
  have C_less := Aic (P := l.prog) (w := w) (base := base) D8
  have C_sign_of_whole := Oj (P := l.prog) (w := w) (base := base) D9
  have C_whole_value := R8 (P := l.prog) (w := w) (base := base) D10 z_reversed
  have C_sign_at := Z6 (P := l.prog) (w := w) (base := base) D11 C_sign_of_whole C_whole_value
  have C_divisor := Zc (P := l.prog) (w := w) (base := base) D12 z_abs
  have C_common := Aad (P := l.prog) (w := w) (base := base) D13 z_abs C_divisor
  have C_spread := Ace (P := l.prog) (w := w) (base := base) D14
  have C_poly := Ahh (P := l.prog) (w := w) (base := base) D15 z_len z_tuple
  have C_moved := Ady (P := l.prog) (w := w) (base := base) D16 z_list z_range z_len
  have C_seen_at := Zu (P := l.prog) (w := w) (base := base) D17 C_spread C_moved
  have C_between := Zm (P := l.prog) (w := w) (base := base) D18 C_common C_spread C_poly C_seen_at C_moved
  have C_holds_one := Vc (P := l.prog) (w := w) (base := base) D19 C_changes C_less C_sign_at C_between
  have C_degree := Adt (P := l.prog) (w := w) (base := base) D20 z_len
  have C_by_number := Vs (P := l.prog) (w := w) (base := base) D21 C_poly
  have C_scaled := Acd (P := l.prog) (w := w) (base := base) D22 z_tuple
  have CE_inverse_by := Ur (P := l.prog) (w := w) (base := base) D23 xk_NoPart xm_NoPart
  have C_inverse_by := CE_inverse_by.calm (Rk K)
  have C_single := Abg (P := l.prog) (w := w) (base := base) D24 C_by_number C_scaled C_inverse_by
  have CE_m_parted := Xv (P := l.prog) (w := w) (base := base) D25 z_list z_range z_max z_len z_enumerate xk_NoPart xm_NoPart CE_inverse_by C_by_number C_poly C_degree
  have C_m_parted := CE_m_parted.calm (Ui K)
  have C_m_rest := Aar (P := l.prog) (w := w) (base := base) D26 C_m_parted
  have C_m_shared := Xp (P := l.prog) (w := w) (base := base) D27 C_by_number C_single C_m_rest
  have C_surely_apart := R3 (P := l.prog) (w := w) (base := base) D28 xc_PRIME C_degree C_m_shared
  have C_shrunk := Aav (P := l.prog) (w := w) (base := base) D29 z_tuple
  have C_divisor_of := T4 (P := l.prog) (w := w) (base := base) D30 C_divisor
  have C_content := Zk (P := l.prog) (w := w) (base := base) D31 C_divisor_of
  have C_unit := Aim (P := l.prog) (w := w) (base := base) D32 C_content
  have C_plain := Ae9 (P := l.prog) (w := w) (base := base) D33 C_shrunk C_unit
  have C_p_times := Zv (P := l.prog) (w := w) (base := base) D34 z_enumerate z_tuple z_len
  have C_repeated := Ws (P := l.prog) (w := w) (base := base) D35 xm_p_times C_p_times
  have C_power := Ad2 (P := l.prog) (w := w) (base := base) D36 xm_p_times C_repeated
  have C_whole_power := R7 (P := l.prog) (w := w) (base := base) D37 C_power
  have C_raised := Aa3 (P := l.prog) (w := w) (base := base) D38
  have C_p_plus := Abq (P := l.prog) (w := w) (base := base) D39 z_list z_enumerate z_len C_poly
  have C_p_minus := Zd (P := l.prog) (w := w) (base := base) D40 C_p_plus C_scaled
  have C_scaled_division := Mi (P := l.prog) (w := w) (base := base) D41 z_range z_len C_raised C_p_plus C_p_minus C_degree C_poly C_scaled C_p_times
  have C_next_row := W4 (P := l.prog) (w := w) (base := base) D42 z_zip z_tuple C_whole_power C_scaled_division C_shrunk C_degree C_p_minus C_scaled C_p_times
  have C_last_row := Xc (P := l.prog) (w := w) (base := base) D43 C_degree C_next_row C_whole_power
  have C_shared := Acs (P := l.prog) (w := w) (base := base) D44 C_surely_apart C_plain C_last_row
  have C_derived := Z7 (P := l.prog) (w := w) (base := base) D45 z_tuple z_enumerate
  have C_is_free := Zg (P := l.prog) (w := w) (base := base) D46 C_degree C_shared C_derived
  have C_is_whole := W0 (P := l.prog) (w := w) (base := base) D47 z_isinstance z_int z_bool
  have C_is_poly := Zx (P := l.prog) (w := w) (base := base) D48 z_isinstance z_tuple z_all z_len C_is_whole
  have C_is_fraction := Sq (P := l.prog) (w := w) (base := base) D49 z_isinstance z_tuple z_len C_is_whole C_divisor
  have C_is_number := Wn (P := l.prog) (w := w) (base := base) D50 z_isinstance z_tuple z_len C_holds_one C_is_free C_is_poly C_is_fraction C_plain
  have C_q_product := Wj (P := l.prog) (w := w) (base := base) D51 z_range z_tuple z_len C_q_fraction
  have C_q_less := Abr (P := l.prog) (w := w) (base := base) D52
  have C_q_plain := Z8 (P := l.prog) (w := w) (base := base) D53 C_q_gcd
  have C_q_rest := Acy (P := l.prog) (w := w) (base := base) D54 z_list z_len z_range C_q_gcd
  have C_q_free := Ab6 (P := l.prog) (w := w) (base := base) D55 z_list z_len z_range C_q_rest
  have C_q_homog := Aac (P := l.prog) (w := w) (base := base) D56 z_reversed
  have C_q_sign := Adu (P := l.prog) (w := w) (base := base) D57 z_int C_q_homog
  have C_q_due := Ae8 (P := l.prog) (w := w) (base := base) D58 z_len C_changes C_q_less C_q_plain C_q_free C_q_sign C_between
  exact Ajw (P := l.prog) (w := w) (base := base) D59 z_isinstance z_bool z_list C_q_poly C_q_drawn C_q_cell_at C_is_number C_q_product C_q_due
theorem walk {l : PySem.W.OpenLaw} {q : Program} {loose : List Str} {XP : (Str -> Option Value) -> Heap -> Prop} {YP : World -> Heap -> Prop} {d : DefRec} {K : Params -> PySem.W.Frag} (hn : l.most = some 63) (hdf : d.params.defaults = [])
    (hY : ∀ (w : World) (h : Heap), YP w h -> (K w.params).In h)
    (F : ∀ (w : World) (mg : Str -> Option Value) (fa : Addr) (h : Heap), (K w.params).In h -> h.Ns mainGlobals mg -> mg d.name = some (.ref fa) ->
      ∃ fd : FuncData, (∀ (s : Shared) (u : Value), BindsTo s fd ⟨[u], []⟩ [("_law_script", u)]) /\ ∀ base : Heap, (K w.params).In base -> base.Ns mainGlobals mg -> Sd l.prog w (K w.params) mg base CX0 12 fa fd ["_law_script"] (Afe (K w.params))) :
    PySem.W.WalkO q loose XP YP l.row.toRowW d [] (fun f vs => PySem.call f vs) :=
  L2.Abx (n := 63) (k := 12) (x := "_law_script") (CX := fun _ => CX0) (sp := fun w => Afe (K w.params)) hn (by decide) hdf ⟨rfl, by decide, by decide⟩ hY F (fun _ _ a ns hl _ hS => ⟨a, ns, rfl, hS, hl, fun _ => rfl⟩) fun _ _ _ _ _ z => z
end Z
namespace PySem.W.Fast
def tw10062473467510241546 := ()
def tw10083925990710755088 := ()
def tw10131626577281527966 := ()
def tw10180837583975863344 := ()
def tw10254009549518235626 := ()
def tw10274035506320646563 := ()
def tw10416515285165264493 := ()
def tw10491361989786180966 := ()
def tw10496836209538870510 := ()
def tw10518476406398756745 := ()
def tw10523696890949097113 := ()
def tw10532741911126279100 := ()
def tw10565432459091198779 := ()
def tw10649222753615831015 := ()
def tw10737681203917824899 := ()
def tw10747937338004423851 := ()
def tw10752677323787187096 := ()
def tw10808177600886128636 := ()
def tw10830306372703835905 := ()
def tw10888119839122594626 := ()
def tw10931318603301399583 := ()
def tw11041071495613242577 := ()
def tw11058201795215359458 := ()
def tw11198830252174224709 := ()
def tw11269824399374122329 := ()
def tw11282844050381895167 := ()
def tw11328601764193318169 := ()
def tw11370597086829653968 := ()
def tw11413417465128233498 := ()
def tw11420968682380622333 := ()
def tw11421938521716928449 := ()
def tw11421962726895941287 := ()
def tw11424066682674629276 := ()
def tw11430111180684751432 := ()
def tw11435122903617594990 := ()
def tw11523839403374343535 := ()
def tw11605203629061963309 := ()
def tw11648795643194449691 := ()
def tw11649099093151590689 := ()
def tw11684546101503140625 := ()
def tw1171034082764461404 := ()
def tw11715140335009029749 := ()
def tw11740742847518797516 := ()
def tw11913007196009573156 := ()
def tw11936125157178341248 := ()
def tw11984501796023055271 := ()
def tw11984822010778489401 := ()
def tw12034240206963469453 := ()
def tw12053154715125292800 := ()
def tw12093371926012282828 := ()
def tw12130350685795397176 := ()
def tw12147669412927846345 := ()
def tw12172535154946437743 := ()
def tw12354763263331214327 := ()
def tw12370940386945628362 := ()
def tw12404954042893524176 := ()
def tw12442163856083641761 := ()
def tw12557573785208961130 := ()
def tw12559344712618393689 := ()
def tw12662654179825872308 := ()
def tw12747695619331440524 := ()
def tw12780744470468484052 := ()
def tw12857119962422165164 := ()
def tw12863524952059093894 := ()
def tw12889366632254364336 := ()
def tw12907040605721636649 := ()
def tw1296624560345631395 := ()
def tw12971968361391868275 := ()
def tw13098449962630242850 := ()
def tw1311040378365859277 := ()
def tw13143021788974587622 := ()
def tw13158143505478538239 := ()
def tw13169124515166412305 := ()
def tw13173506008076923478 := ()
def tw13256128625405669665 := ()
def tw13307105038712143040 := ()
def tw13325459675507010804 := ()
def tw13336014727306137298 := ()
def tw13354022719972319191 := ()
def tw13385716735296548751 := ()
def tw13406783081880654182 := ()
def tw13442618019419420259 := ()
def tw13451524349600461211 := ()
def tw13457966041625106078 := ()
def tw13568442302749729186 := ()
def tw13569511235852771566 := ()
def tw13583587000516186460 := ()
def tw13614500757012176504 := ()
def tw13628567065989905380 := ()
def tw136400643339660575 := ()
def tw13747766118346303036 := ()
def tw13797716478566212073 := ()
def tw13812389004048356272 := ()
def tw1381364499112099280 := ()
def tw13823668104689225982 := ()
def tw1384549859684528222 := ()
def tw13859203276781499125 := ()
def tw13873125407075514972 := ()
def tw13883487572958453606 := ()
def tw13899975479023973665 := ()
def tw13978630312171238419 := ()
def tw13987912689468062967 := ()
def tw13997423469252517230 := ()
def tw1401216917067079535 := ()
def tw14037964547841707758 := ()
def tw14058148529787910389 := ()
def tw1414008129564547134 := ()
def tw14224767971478811691 := ()
def tw1435834766661410158 := ()
def tw14375178776075266955 := ()
def tw14403939525118325361 := ()
def tw14412082135962176488 := ()
def tw14448795756661233337 := ()
def tw14644249133534394370 := ()
def tw14716251275462684840 := ()
def tw14749104518054076898 := ()
def tw14759176271344081630 := ()
def tw14875985730517384724 := ()
def tw1487669466595715084 := ()
def tw14974426238827891808 := ()
def tw1508049336898124091 := ()
def tw15119911831997871326 := ()
def tw15227398056999057897 := ()
def tw15251173415490164135 := ()
def tw15268312653592623521 := ()
def tw15284043378684186645 := ()
def tw15385364106681403277 := ()
def tw15386772085374569933 := ()
def tw15461436096766267832 := ()
def tw15464649975274379602 := ()
def tw15563484805916740282 := ()
def tw15594247096808868305 := ()
def tw15633305343126039832 := ()
def tw15651347565532549229 := ()
def tw15654861533396183044 := ()
def tw15662251320777473980 := ()
def tw15668029642810215863 := ()
def tw15698277157436546389 := ()
def tw15789775014228167037 := ()
def tw15847937997876024961 := ()
def tw1598126764068179563 := ()
def tw1603870067450555409 := ()
def tw16064451811335320769 := ()
def tw16090721330576867976 := ()
def tw16121367600163434491 := ()
def tw16181522434187144996 := ()
def tw16186320945710648247 := ()
def tw16306975526613422931 := ()
def tw16420624393697716783 := ()
def tw16538977252277291095 := ()
def tw16558334554371183404 := ()
def tw1661868753380295278 := ()
def tw16622795557910424375 := ()
def tw16690060684025501969 := ()
def tw16736773829822788473 := ()
def tw1674075505696795012 := ()
def tw16742602685292882573 := ()
def tw1676408770617288355 := ()
def tw16768922748545816189 := ()
def tw16780735882483116089 := ()
def tw16809317853164185381 := ()
def tw16819073786896841604 := ()
def tw16844897368910839769 := ()
def tw16871547010172692764 := ()
def tw16898786797261239143 := ()
def tw17085860573967369402 := ()
def tw17123923509734834325 := ()
def tw17204176897627202152 := ()
def tw17218609775592721640 := ()
def tw17235345249912144977 := ()
def tw17248631204201790496 := ()
def tw17310810888360244385 := ()
def tw17354215020411859781 := ()
def tw17429427517440891501 := ()
def tw17461032953038720267 := ()
def tw17497273059015647810 := ()
def tw1750960920024956679 := ()
def tw17510161341344962658 := ()
def tw17528164560429399447 := ()
def tw17542699851218114993 := ()
def tw17565694059956458887 := ()
def tw1756962754610553056 := ()
def tw17580932003089870095 := ()
def tw17582745156870901204 := ()
def tw17640946529268415081 := ()
def tw1764372675876872817 := ()
def tw17741055618165532737 := ()
def tw17763713553724472140 := ()
def tw17775866557883956230 := ()
def tw1779395944654205613 := ()
def tw17809376094572749339 := ()
def tw17832518129804171749 := ()
def tw1784792514084856237 := ()
def tw17897296994277270284 := ()
def tw17901386658096469076 := ()
def tw17976780676685793451 := ()
def tw1799052087055493311 := ()
def tw1800717566516821387 := ()
def tw18094106727378515079 := ()
def tw1809803879334040734 := ()
def tw18211708114022687763 := ()
def tw18216628674814237277 := ()
def tw18374431820669292568 := ()
def tw18427687541295523751 := ()
def tw185516952312942322 := ()
def tw1867538500627085719 := ()
def tw1901933073637904648 := ()
def tw1954236850822365193 := ()
def tw2278891287498877112 := ()
def tw2316937833785073539 := ()
def tw2322833632211132171 := ()
def tw2333562250919525569 := ()
def tw2471094594144072344 := ()
def tw2486928803214892713 := ()
def tw2533605734621018686 := ()
def tw2618922912493908576 := ()
def tw2676206952494885043 := ()
def tw2690932821869628642 := ()
def tw2784614064163046470 := ()
def tw2856742787480765016 := ()
def tw2882608322896483936 := ()
def tw28916856673489798 := ()
def tw2931355180864010777 := ()
def tw2960472737226089514 := ()
def tw3066881391764177148 := ()
def tw3088242294075059816 := ()
def tw3096633399031438707 := ()
def tw3153536854855612567 := ()
def tw3158865307110627906 := ()
def tw3208978437495042694 := ()
def tw3226787667352763617 := ()
def tw3410028422968716327 := ()
def tw3440710611904733562 := ()
def tw3444584488310690610 := ()
def tw3562630767137667046 := ()
def tw3579299673683015971 := ()
def tw3626271463814518055 := ()
def tw3688829318684833422 := ()
def tw3708226729493404884 := ()
def tw3796398685117286796 := ()
def tw3827310582050816592 := ()
def tw3947014960900414817 := ()
def tw3952920879130191554 := ()
def tw3966822848657359263 := ()
def tw4018559695445798407 := ()
def tw408343325339622183 := ()
def tw410066244080544330 := ()
def tw4131473060076325663 := ()
def tw4179401264921505925 := ()
def tw4242781987316942462 := ()
def tw4341318556909946462 := ()
def tw4345943453409569736 := ()
def tw4362603593145454104 := ()
def tw4400658560633981331 := ()
def tw4492238218731510435 := ()
def tw4496316903255833953 := ()
def tw4527056074400326331 := ()
def tw4544310914132288475 := ()
def tw4607814483878792207 := ()
def tw4678635339313047469 := ()
def tw4753141666621627568 := ()
def tw4766412269281528196 := ()
def tw4807601849536958195 := ()
def tw4808210640418536812 := ()
def tw4893184125075309363 := ()
def tw4896318960591103913 := ()
def tw4965894260426651598 := ()
def tw5035831158060554794 := ()
def tw505353277052314471 := ()
def tw5075421152446486807 := ()
def tw5080739471160144912 := ()
def tw5091386859396987074 := ()
def tw5100914087637018111 := ()
def tw5158754872475841976 := ()
def tw5232246547261203762 := ()
def tw5308742552405063177 := ()
def tw5378001026199691639 := ()
def tw5392271229013700108 := ()
def tw5423869163779488862 := ()
def tw5489637328608149773 := ()
def tw5490275815369823064 := ()
def tw5527721455344060546 := ()
def tw5599629686278668929 := ()
def tw5629929162151842619 := ()
def tw5735352647868126515 := ()
def tw5859064833889891849 := ()
def tw5925191268612537535 := ()
def tw6160467209606514163 := ()
def tw6202308659230358887 := ()
def tw6205635266789577824 := ()
def tw6271185101544811143 := ()
def tw6275438258137181932 := ()
def tw6289266146616551076 := ()
def tw6401374587795463437 := ()
def tw6409745723762495968 := ()
def tw6416803627737815128 := ()
def tw6441314915065607996 := ()
def tw6458303497051149736 := ()
def tw6464555784441434049 := ()
def tw6639924743378023053 := ()
def tw6668723516438002279 := ()
def tw6754369914624497690 := ()
def tw6767586192927941538 := ()
def tw6781603590547501434 := ()
def tw6785054372093508646 := ()
def tw6804508417120343717 := ()
def tw6809679746677983463 := ()
def tw684521977678633815 := ()
def tw6881909233501200307 := ()
def tw6899893791351222541 := ()
def tw7064180143035855573 := ()
def tw7090232317958304474 := ()
def tw709800578684040950 := ()
def tw727164774820071232 := ()
def tw7292552947282830994 := ()
def tw7344540874383522560 := ()
def tw7408281394007784216 := ()
def tw7453429899052947162 := ()
def tw7465931250656206872 := ()
def tw7496807190713405498 := ()
def tw7540267250544841057 := ()
def tw7696742991706467182 := ()
def tw7697192211210371524 := ()
def tw7706147058064692351 := ()
def tw7722115488473978534 := ()
def tw773122386168950610 := ()
def tw7761581826659317136 := ()
def tw7781838275129913023 := ()
def tw7820965925310388214 := ()
def tw7822297771723869474 := ()
def tw784763430861314740 := ()
def tw7892904408205887821 := ()
def tw7894630867245088560 := ()
def tw7937308285986176743 := ()
def tw7962622442065841776 := ()
def tw7983245082973982131 := ()
def tw7995922503750197234 := ()
def tw8002596443729543549 := ()
def tw8016161536525867158 := ()
def tw8032626049484491476 := ()
def tw806101394925516281 := ()
def tw8164233085244146400 := ()
def tw8222174238562617163 := ()
def tw8242502230339536598 := ()
def tw8255408524273739449 := ()
def tw8297246112471437322 := ()
def tw8307473060852720975 := ()
def tw8340496880564234537 := ()
def tw8386235341115741404 := ()
def tw8407587123544599874 := ()
def tw8421323284226051534 := ()
def tw8474035782366314125 := ()
def tw8520292243415076108 := ()
def tw8526331746055482404 := ()
def tw8549541397792737890 := ()
def tw856084055064729542 := ()
def tw8565560137620316885 := ()
def tw8612699973082826716 := ()
def tw8626793701491823724 := ()
def tw8644634135460506984 := ()
def tw8701930838177691060 := ()
def tw8744167927445815153 := ()
def tw8749467992007492994 := ()
def tw8780320906700524895 := ()
def tw879562446990527632 := ()
def tw8807483947392179574 := ()
def tw8809683981873584942 := ()
def tw8822725285445395442 := ()
def tw8986546197098257265 := ()
def tw9014634258521382891 := ()
def tw9068234909913905888 := ()
def tw9098524240861170151 := ()
def tw9125143272041890849 := ()
def tw91854896698541891 := ()
def tw919276834277533311 := ()
def tw9194765994657697662 := ()
def tw9204580825703757006 := ()
def tw9221002646093864211 := ()
def tw9299123571494169179 := ()
def tw9335944675616424910 := ()
def tw9342282175632493382 := ()
def tw9365709288858207835 := ()
def tw9415264114066699481 := ()
def tw9492349333674281171 := ()
def tw9576920699239231491 := ()
def tw9623713042909789018 := ()
def tw9668712226815504220 := ()
def tw9710176660675967288 := ()
def tw9724049048768177096 := ()
def tw9762434128456965982 := ()
def tw9920858083374813969 := ()
def tw9934163098788625428 := ()
end PySem.W.Fast
open PySem PySem.W PyProof.Rows
set_option maxRecDepth 100000 in
set_option maxHeartbeats 0 in
theorem PySem.Challenge.cw_rootcourt_k23_what_is_a_number_holds : PySem.Challenge.rw_rootcourt_k23_what_is_a_number.Holds := by
  w_on; o_law; k_head; (case hw => w_witness2)
  k_fill
  refine Z.walk (l := PySem.Challenge.rw_rootcourt_k23_what_is_a_number) rfl rfl (fun w h Y => PySem.W.kIn_of Y) ?F
  case F =>
    intro w mg fa h KX G hmg
    refine' Z.all_mk KX G hmg ?d1 ?d2 ?d3 ?d4 ?d5 ?d6 ?d7 ?d8 ?d9 ?d10 ?d11 ?d12 ?d13 ?d14 ?d15 ?d16 ?d17 ?d18 ?d19 ?d20 ?d21 ?d22 ?d23 ?d24 ?d25 ?d26 ?d27 ?d28 ?d29 ?d30 ?d31 ?d32 ?d33 ?d34 ?d35 ?d36 ?d37 ?d38 ?d39 ?d40 ?d41 ?d42 ?d43 ?d44 ?d45 ?d46 ?d47 ?d48 ?d49 ?d50 ?d51 ?d52 ?d53 ?d54 ?d55 ?d56 ?d57 ?d58 ?d59 ?aNoPart ?xkNoPart ?xcPRIME ?zrange ?ztuple ?zabs ?zlen ?zreversed ?zlist ?zmax ?zenumerate ?zzip ?zisinstance ?zint ?zbool ?zall
    (case aNoPart => k_is); (case xkNoPart => k_exc); (case xcPRIME => k_is)
    all_goals first | k_is | exact ⟨_, _, _, _, _, _, _, _, _, _, by k_is, by k_is, by k_is, by k_is⟩
