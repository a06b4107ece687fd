import PyProof.Rows.All
import HandS.ForMost
import HandS.Lambda
import KE.KDictKeyed
import HandS.Star
import HandS.TupAny
import HandS.IsInst
import KE.GoesEnum
import KE.GoesMore
import HandS.Property
import KE.SortKeyHeap
import HandS.TupSets
import HandS.Codes
import HandS.Strs
import KE.KSortKey
import PyProof.Rows.CallKwBuiltin
import HandS.Conv
import HandS.HeadHook4
import HandS.HeadWalk
import HandS.Head0
import HandS.Head1
import HandS.Head2
import HandS.HeadEnd
import KE.KStateDown
import PySem.Challenge.RW_shutroads_k01_whole_walks
section
set_option Elab.async false
set_option linter.all false
set_option maxRecDepth 100000
set_option maxHeartbeats 4000000
set_option autoImplicit false
namespace Dt
open PySem PySem.Spec PyProof.Rows L2

/-! ### data, cells, results -/
inductive D where
  | non | bl (b : Bool) | int (i : Int) | str (x : Str)
  | tup (xs : List D) | lst (xs : List D)
  | scr (ns : List Int)
  | dic (b : Bool) (ks vs : List D)
  | obj (c : Nat) (ds : List D)
  | fn (n : Nat) (ds : List D)

inductive Cell where
  | un | fro (d : D) | own (d : D) | brw (d : D)
abbrev Env := List Cell
/-- an expression's result: frozen data, a fresh object of ours, what the slot i holds -/
inductive RV where
  | fro (d : D) | own (d : D) | bor (i : Nat)
inductive Res (α : Type) where
  | ok (a : α) | err (c : Nat) (d : D) | bad
def Res.bind {α β : Type} (x : Res α) (f : α → Res β) : Res β := match x with
  | .ok a => f a
  | .err c d => .err c d
  | .bad => .bad
@[simp] theorem Res.bind_ok {α β : Type} (a : α) (f : α → Res β) : Res.bind (.ok a) f = f a := rfl
@[simp] theorem Res.bind_bad {α β : Type} (f : α → Res β) : Res.bind .bad f = .bad := rfl
theorem Res.bind_eq {α β : Type} {x : Res α} {f : α → Res β} {b : β} (h : Res.bind x f = .ok b) : ∃ a, x = .ok a ∧ f a = .ok b := by
  cases x with
  | ok a => exact ⟨a, rfl, h⟩
  | err c d => cases h
  | bad => cases h
def Res.of {α : Type} : Option α → Res α
  | some a => .ok a
  | none => .bad
@[simp] theorem Res.of_some {α : Type} (a : α) : Res.of (some a) = .ok a := rfl
theorem Res.of_eq {α : Type} {x : Option α} {a : α} (h : Res.of x = .ok a) : x = some a := by
  cases x with
  | none => cases h
  | some b => cases h; rfl
def Res.need (b : Bool) : Res Unit := if b then .ok () else .bad
@[simp] theorem Res.need_true : Res.need true = .ok () := rfl
theorem Res.need_eq {b : Bool} {u : Unit} (h : Res.need b = .ok u) : b = true := by
  cases b with
  | true => rfl
  | false => cases h

abbrev EF := Env → Res (RV × Env)
abbrev AF := Env → Res (List RV × Env)
inductive Fl where
  | nx | ret (r : RV) | bk | ct
abbrev SF := Env → Res (Fl × Env)

/-- classes: their addresses, their fields in order; the tables of code objects -/
structure Tab where
  ca : Nat → Addr
  fl : Nat → List Str
  tb : List (Addr × Str)
/-- no table of code objects is in it -/
def NT (G : Hp) : Prop := ∀ (a : Addr) (ps : Array Value), G a ≠ some (.tbl ps)

/-- a dict's key as data -/
def keyD : Key → D
  | .inl i => .int i
  | .inr x => .str x
/-! ### dicts with tuples as keys: numbers, None, and tuples of them, nested -/
mutual
def nkFree : NestedKey → Bool
  | .none => true
  | .num _ => true
  | .text _ => false
  | .tup ks => nkFrees ks
def nkFrees : List NestedKey → Bool
  | [] => true
  | k :: ks => nkFree k && nkFrees ks
end
mutual
theorem hash_free (w w' : World) : ∀ {k : NestedKey}, nkFree k = true → k.hash w = k.hash w'
  | .none, _ => by rw [NestedKey.hash, NestedKey.hash]
  | .num i, _ => by rw [NestedKey.hash, NestedKey.hash]
  | .text _, h => by cases h
  | .tup ks, h => by
    rw [nkFree] at h
    rw [NestedKey.hash, NestedKey.hash, hashes_free w w' h]
theorem hashes_free (w w' : World) : ∀ {ks : List NestedKey}, nkFrees ks = true → NestedKey.hashes w ks = NestedKey.hashes w' ks
  | [], _ => by rw [NestedKey.hashes, NestedKey.hashes]
  | k :: ks, h => by
    rw [nkFrees, Bool.and_eq_true] at h
    rw [NestedKey.hashes, NestedKey.hashes, hash_free w w' h.1, hashes_free w w' h.2]
end
mutual
/-- data as a key -/
def dkey : D → Option NestedKey
  | .non => some .none
  | .bl b => some (.num (if b = true then 1 else 0))
  | .int i => some (.num i)
  | .str _ => none
  | .tup xs => (dkeys xs).map .tup
  | .lst _ => none
  | .scr _ => none
  | .dic _ _ _ => none
  | .obj _ _ => none
  | .fn _ _ => none
def dkeys : List D → Option (List NestedKey)
  | [] => some []
  | d :: ds => match dkey d, dkeys ds with
    | some k, some ks => some (k :: ks)
    | _, _ => none
end
mutual
theorem dkey_free : ∀ {d : D} {k : NestedKey}, dkey d = some k → nkFree k = true
  | .non, _, h => by rw [dkey] at h; cases h; rfl
  | .bl _, _, h => by rw [dkey] at h; cases h; rfl
  | .int _, _, h => by rw [dkey] at h; cases h; rfl
  | .str _, _, h => by rw [dkey] at h; cases h
  | .tup xs, _, h => by
    rw [dkey] at h
    obtain ⟨ks, e, rfl⟩ := Option.map_eq_some_iff.mp h
    rw [nkFree]; exact dkeys_free e
  | .lst _, _, h => by rw [dkey] at h; cases h
  | .scr _, _, h => by rw [dkey] at h; cases h
  | .dic _ _ _, _, h => by rw [dkey] at h; cases h
  | .obj _ _, _, h => by rw [dkey] at h; cases h
  | .fn _ _, _, h => by rw [dkey] at h; cases h
theorem dkeys_free : ∀ {ds : List D} {ks : List NestedKey}, dkeys ds = some ks → nkFrees ks = true
  | [], _, h => by rw [dkeys] at h; cases h; rfl
  | d :: ds, _, h => by
    rw [dkeys] at h
    split at h
    · rename_i k ks e1 e2
      cases h
      rw [nkFrees, dkey_free e1, dkeys_free e2]; rfl
    · cases h
end
/-- the dict at a: its entries, the keys' own tuples at their addresses -/
def DicAt (a : Addr) (kvs : List (NestedKey × Addr × V)) (h : Heap) : Prop := ∃ (o : Obj) (es : Array DictEntry) (ep : Nat) (xs : List (NestedKey × Addr × Value)), h.get? a = some o ∧ o.ExactDict ∧ o.data = .dict es ep ∧
  (∀ w : World, es.toList = xs.map fun x => ⟨x.1.hash w, .ref x.2.1, x.2.2⟩) ∧ Paired (fun p q => p.1 = q.1 ∧ p.2.1 = q.2.1 ∧ RelV p.2.2 q.2.2) kvs xs
def DicO (a : Addr) (kvs : List (NestedKey × Addr × V)) : HO := .ext (DicAt a kvs)
/-- a dict as it lies at a, its keys as values and as data, its values -/
inductive DicH : Bool → Addr → HO → List V → List D → List V → Prop
  | k (a : Addr) (kvs : List (Key × V)) : DicH false a (.dK kvs) (kvs.map fun p => kV p.1) (kvs.map fun p => keyD p.1) (kvs.map (·.2))
  | n (a : Addr) (kvs : List (NestedKey × Addr × V)) (ks : List D) : ks.map dkey = kvs.map (fun p => some p.1) → (∀ p ∈ kvs, p.1.depth ≤ 8) → (kvs.map (·.1)).Nodup → kvs.length ≤ sizeLine → (a == sysModules) = false →
    DicH true a (DicO a kvs) (kvs.map fun p => V.ref p.2.1) ks (kvs.map (·.2.2))
theorem heap_with (a : Addr) (o : Obj) (h : o.data ≠ .freed) : ∃ g : Heap, g.get? a = some o := by
  refine ⟨{ objs := (Array.replicate a default).push o }, ?_⟩
  have e : ((Array.replicate a (default : Obj)).push o)[a]? = some o := by
    have := Array.getElem?_push_size (xs := Array.replicate a (default : Obj)) (x := o)
    rwa [Array.size_replicate] at this
  unfold Heap.get?
  show (match ((Array.replicate a (default : Obj)).push o)[a]? with
    | some ⟨_, _, .freed, _⟩ => none
    | u => u) = some o
  rw [e]
  obtain ⟨c, d, dt, sl⟩ := o
  cases dt <;> first | rfl | exact absurd rfl h
theorem DicH.notab {b : Bool} {a : Addr} {o : HO} {ks : List V} {ds : List D} {ws : List V} (h : DicH b a o ks ds ws) (ps : Array Value) : o ≠ .tbl ps := by cases h <;> (intro z; cases z)
theorem DicH.noext {b : Bool} {a : Addr} {o : HO} {ks : List V} {ds : List D} {ws : List V} (h : DicH b a o ks ds ws) (q : Str) : o ≠ LamX.CodeO a q := by
  cases h with
  | k _ _ => intro z; cases z
  | n _ kvs _ _ _ _ _ =>
    intro z
    have e : DicAt a kvs = _ := HO.ext.inj z
    obtain ⟨g, hg⟩ := heap_with a { cls := .none, data := .fields #[.none, .str q 0] } (fun z => nomatch z)
    have c : DicAt a kvs g := by
      rw [e]
      exact ⟨_, _, 0, hg, rfl, rfl⟩
    obtain ⟨o, es, ep, _, h1, _, h2, _⟩ := c
    rw [hg] at h1
    cases h1
    cases h2
section
variable (K : PySem.W.Frag) (T : Tab)
mutual
inductive DR (S : Hp) : V → D → Prop
  | non : DR S .non .non
  | bl (b : Bool) : DR S (.bl b) (.bl b)
  | int (i : Int) : DR S (.int i) (.int i)
  | str (x : Str) : DR S (.str x) (.str x)
  | tup {a : Addr} {vs : List V} {ds : List D} : SqT K S a vs → DRs S vs ds → DR S (.ref a) (.tup ds)
  | lst {a : Addr} {vs : List V} {ds : List D} : S a = some (.lst vs) → DRs S vs ds → DR S (.ref a) (.lst ds)
  | scr {a : Addr} {ns : List Int} : SqL K S a (ns.map V.int) → DR S (.ref a) (.scr ns)
  | obj {a dx : Addr} {c : Nat} {fs : List (Str × V)} {ds : List D} : S a = some (.ins (T.ca c) dx fs) → fs.map (·.1) = (T.fl c).take ds.length → DRs S (fs.map (·.2)) ds → DR S (.ref a) (.obj c ds)
  | dic {a : Addr} {b : Bool} {o : HO} {kw : List V} {ks : List D} {ws : List V} {vs : List D} : S a = some o → DicH b a o kw ks ws → DRs S kw ks → DRs S ws vs → DR S (.ref a) (.dic b ks vs)
inductive DRs (S : Hp) : List V → List D → Prop
  | nil : DRs S [] []
  | cons {v : V} {vs : List V} {d : D} {ds : List D} : DR S v d → DRs S vs ds → DRs S (v :: vs) (d :: ds)
end
end

theorem sqT_same {K : PySem.W.Frag} {S S' : Hp} {a : Addr} {xs : List V} (e : Same S S') (h : SqT K S a xs) : SqT K S' a xs := by
  rcases h with (h | ⟨o, h⟩) | h
  · exact .inl (.inl (e _ _ h))
  · exact .inl (.inr ⟨o, e _ _ h⟩)
  · exact .inr h

section
variable {K : PySem.W.Frag} {T : Tab} {S S' : Hp}
mutual
theorem DR.mono (e : Same S S') : ∀ {v : V} {d : D}, DR K T S v d → DR K T S' v d
  | _, _, .non => .non
  | _, _, .bl b => .bl b
  | _, _, .int i => .int i
  | _, _, .str x => .str x
  | _, _, .tup h r => .tup (sqT_same e h) (DRs.mono e r)
  | _, _, .lst h r => .lst (e _ _ h) (DRs.mono e r)
  | _, _, .scr h => .scr (e.seq h)
  | _, _, .obj h n r => .obj (e _ _ h) n (DRs.mono e r)
  | _, _, .dic h n q r => .dic (e _ _ h) n (DRs.mono e q) (DRs.mono e r)
theorem DRs.mono (e : Same S S') : ∀ {vs : List V} {ds : List D}, DRs K T S vs ds → DRs K T S' vs ds
  | _, _, .nil => .nil
  | _, _, .cons h r => .cons (DR.mono e h) (DRs.mono e r)
end
theorem DRs.length : ∀ {vs : List V} {ds : List D}, DRs K T S vs ds → vs.length = ds.length
  | _, _, .nil => rfl
  | _, _, .cons _ r => congrArg (· + 1) (DRs.length r)
theorem DRs.append : ∀ {vs ws : List V} {ds es : List D}, DRs K T S vs ds → DRs K T S ws es → DRs K T S (vs ++ ws) (ds ++ es)
  | _, _, _, _, .nil, r => r
  | _, _, _, _, .cons h q, r => .cons h (DRs.append q r)
theorem DRs.get : ∀ {vs : List V} {ds : List D} {i : Nat} {d : D}, DRs K T S vs ds → ds[i]? = some d → ∃ v, vs[i]? = some v ∧ DR K T S v d
  | _, _, _, _, .nil, e => by simp at e
  | _, _, 0, _, .cons h _, e => by simp at e; subst e; exact ⟨_, rfl, h⟩
  | _, _, i + 1, _, .cons _ r, e => by
    obtain ⟨v, h1, h2⟩ := DRs.get (i := i) r (by simpa using e)
    exact ⟨v, by simpa using h1, h2⟩
theorem DRs.get' : ∀ {vs : List V} {ds : List D} {i : Nat} {v : V}, DRs K T S vs ds → vs[i]? = some v → ∃ d, ds[i]? = some d ∧ DR K T S v d
  | _, _, _, _, .nil, e => by simp at e
  | _, _, 0, _, .cons h _, e => by simp at e; subst e; exact ⟨_, rfl, h⟩
  | _, _, i + 1, _, .cons _ r, e => by
    obtain ⟨v, h1, h2⟩ := DRs.get' (i := i) r (by simpa using e)
    exact ⟨v, by simpa using h1, h2⟩
theorem DRs.take : ∀ {vs : List V} {ds : List D} (n : Nat), DRs K T S vs ds → DRs K T S (vs.take n) (ds.take n)
  | _, _, 0, _ => .nil
  | _, _, _ + 1, .nil => .nil
  | _, _, n + 1, .cons h r => .cons h (DRs.take n r)
theorem DRs.drop : ∀ {vs : List V} {ds : List D} (n : Nat), DRs K T S vs ds → DRs K T S (vs.drop n) (ds.drop n)
  | _, _, 0, r => r
  | _, _, _ + 1, .nil => .nil
  | _, _, n + 1, .cons _ r => DRs.drop n r
theorem DRs.set : ∀ {vs : List V} {ds : List D} {v : V} {d : D} (i : Nat), DRs K T S vs ds → DR K T S v d → DRs K T S (vs.set i v) (ds.set i d)
  | _, _, _, _, _, .nil, _ => .nil
  | _, _, _, _, 0, .cons _ r, q => .cons q r
  | _, _, _, _, i + 1, .cons h r, q => .cons h (DRs.set i r q)
theorem drs_ints : ∀ ns : List Int, DRs K T S (ns.map V.int) (ns.map D.int)
  | [] => .nil
  | n :: ns => .cons (.int n) (drs_ints ns)
theorem DRs.one {v : V} {d : D} (h : DR K T S v d) : DRs K T S [v] [d] := .cons h .nil
end

/-! ### what is ours, the slots -/
section
variable (K : PySem.W.Frag) (T : Tab)
/-- the object at a, its children frozen -/
def Node (S H : Hp) (a : Addr) : D → Prop
  | .lst ds => ∃ vs, H a = some (.lst vs) ∧ DRs K T S vs ds
  | .obj c ds => ∃ dx fs, H a = some (.ins (T.ca c) dx fs) ∧ fs.map (·.1) = (T.fl c).take ds.length ∧ DRs K T S (fs.map (·.2)) ds
  | .dic b ks vs => ∃ o kw ws, H a = some o ∧ DicH b a o kw ks ws ∧ DRs K T S kw ks ∧ DRs K T S ws vs
  | _ => False
def Own (F S H : Hp) (a : Addr) (d : D) : Prop := S a = none ∧ F a = none ∧ Node K T S H a d
def Cell.mut : Cell → Bool
  | .own _ => true
  | .brw _ => true
  | _ => false
def SlotR (π : L2.St) (F S H : Hp) (i : Nat) (v : Option (Option V)) : Cell → Prop
  | .un => True
  | .fro d => ∃ x, v = some (some x) ∧ DR K T S x d
  | .own d => ∃ a, v = some (some (.ref a)) ∧ Own K T F S H a d
  | .brw d => ∃ a, v = some (some (.ref a)) ∧ π[i]? = some (some (.ref a)) ∧ Own K T F S H a d
structure Rel (π : L2.St) (F S : Hp) (ρ : Env) (σ : L2.St) (H : Hp) : Prop where
  sS : Same S H
  sF : Same F H
  dj : ∀ a o, F a = some o → S a = none
  nS : NT S
  nF : NT F
  tb : LamX.Tabs T.tb H
  len : ρ.length = σ.length
  sl : ∀ (i : Nat) (c : Cell), ρ[i]? = some c → SlotR K T π F S H i σ[i]? c
  ds : ∀ (i j : Nat) (a : Addr) (ci cj : Cell), ρ[i]? = some ci → ρ[j]? = some cj → ci.mut = true → cj.mut = true → σ[i]? = some (some (V.ref a)) → σ[j]? = some (some (V.ref a)) → i = j
/-- no slot of ours holds a -/
def Apart (ρ : Env) (σ : L2.St) (a : Addr) : Prop := ∀ (i : Nat) (c : Cell), ρ[i]? = some c → c.mut = true → σ[i]? ≠ some (some (V.ref a))
def RVR (F S H : Hp) (ρ : Env) (σ : L2.St) (v : V) : RV → Prop
  | .fro d => DR K T S v d
  | .own d => ∃ a, v = .ref a ∧ Own K T F S H a d ∧ Apart ρ σ a
  | .bor i => σ[i]? = some (some v)
/-- what may be read now -/
def RD (S H : Hp) (v : V) (d : D) : Prop := DR K T S v d ∨ ∃ a, v = .ref a ∧ Node K T S H a d
end
def RV.hold : RV → RV
  | .own d => .fro d
  | r => r
def deref (ρ : Env) : RV → Option D
  | .fro d => some d
  | .own d => some d
  | .bor i => match ρ[i]? with
    | some (.fro d) => some d
    | some (.own d) => some d
    | some (.brw d) => some d
    | _ => none
def Held (K : PySem.W.Frag) (T : Tab) (S : Hp) (σ : L2.St) (v : V) : RV → Prop
  | .fro d => DR K T S v d
  | .own _ => False
  | .bor i => σ[i]? = some (some v)
inductive HeldAll (K : PySem.W.Frag) (T : Tab) (S : Hp) (σ : L2.St) : List V → List RV → Prop
  | nil : HeldAll K T S σ [] []
  | cons {v : V} {vs : List V} {r : RV} {rs : List RV} : Held K T S σ v r → HeldAll K T S σ vs rs → HeldAll K T S σ (v :: vs) (r :: rs)

section
variable {K : PySem.W.Frag} {T : Tab} {π σ : L2.St} {F S S' H H' : Hp} {ρ ρ' : Env} {a : Addr} {v : V} {d : D} {r : RV}
theorem Node.mono (e : Same S S') (h : Node K T S H a d) : Node K T S' H a d := by
  cases d <;> first | exact h.elim | skip
  · obtain ⟨vs, h1, h2⟩ := h; exact ⟨vs, h1, h2.mono e⟩
  · obtain ⟨o, kw, ws, h1, h2, h3, h4⟩ := h; exact ⟨o, kw, ws, h1, h2, h3.mono e, h4.mono e⟩
  · obtain ⟨dx, fs, h1, h2, h3⟩ := h; exact ⟨dx, fs, h1, h2, h3.mono e⟩
theorem Node.heap (e : H' a = H a) (h : Node K T S H a d) : Node K T S H' a d := by
  cases d <;> first | exact h.elim | skip
  · obtain ⟨vs, h1, h2⟩ := h; exact ⟨vs, e.trans h1, h2⟩
  · obtain ⟨o, kw, ws, h1, h2, h3⟩ := h; exact ⟨o, kw, ws, e.trans h1, h2, h3⟩
  · obtain ⟨dx, fs, h1, h2, h3⟩ := h; exact ⟨dx, fs, e.trans h1, h2, h3⟩
theorem Node.there (h : Node K T S H a d) : ∃ o, H a = some o := by
  cases d <;> first | exact h.elim | skip
  · obtain ⟨vs, h1, h2⟩ := h; exact ⟨_, h1⟩
  · obtain ⟨o, kw, ws, h1, h2, h3⟩ := h; exact ⟨_, h1⟩
  · obtain ⟨dx, fs, h1, h2, h3⟩ := h; exact ⟨_, h1⟩
/-- what stands at a, frozen -/
theorem Node.froze (h : Node K T S H a d) (e : Same S S') (ha : S' a = H a) : DR K T S' (.ref a) d := by
  cases d <;> first | exact h.elim | skip
  · obtain ⟨vs, h1, h2⟩ := h; exact .lst (ha.trans h1) (h2.mono e)
  · obtain ⟨o, kw, ws, h1, h2, h3, h4⟩ := h; exact .dic (ha.trans h1) h2 (h3.mono e) (h4.mono e)
  · obtain ⟨dx, fs, h1, h2, h3⟩ := h; exact .obj (ha.trans h1) h2 (h3.mono e)
theorem Own.mono (e : Same S S') (n : S' a = none) (h : Own K T F S H a d) : Own K T F S' H a d := ⟨n, h.2.1, h.2.2.mono e⟩
theorem Own.heap (e : H' a = H a) (h : Own K T F S H a d) : Own K T F S H' a d := ⟨h.1, h.2.1, h.2.2.heap e⟩
theorem NT.upd {o : HO} (h : NT F) (n : ∀ ps, o ≠ .tbl ps) : NT (L2.upd F a o) := fun b ps e => by
  by_cases hb : b = a
  · subst hb; rw [upd_same] at e; exact n ps (Option.some.inj e)
  · rw [upd_ne hb] at e; exact h b ps e
theorem Node.notab (h : Node K T S H a d) (ps : Array Value) : H a ≠ some (.tbl ps) := by
  cases d <;> first | exact h.elim | skip
  · obtain ⟨vs, h1, h2⟩ := h; rw [h1]; intro z; cases z
  · obtain ⟨o, kw, ws, h1, h2, h3⟩ := h; rw [h1]; intro z; cases z; exact h2.notab _ rfl
  · obtain ⟨dx, fs, h1, h2, h3⟩ := h; rw [h1]; intro z; cases z
/-- the tables stand where nothing but lists and instances is changed -/
theorem tabs_keep {L : List (Addr × Str)} (t : LamX.Tabs L H) (h : Node K T S H a d) (e : ∀ b, b ≠ a → H' b = H b) : LamX.Tabs L H' := fun p hp => by
  obtain ⟨ps, h1, h2, h3⟩ := t p hp
  refine ⟨ps, (e _ fun z => h.notab ps (by rw [← z]; exact h1)).trans h1, h2, fun pos cv hc => ?_⟩
  obtain ⟨c, e1, e2⟩ := h3 pos cv hc
  refine ⟨c, e1, (e _ fun z => ?_).trans e2⟩
  rw [z] at e2
  cases d <;> first | exact h.elim | skip
  · obtain ⟨vs, h1, _⟩ := h; rw [h1] at e2; cases e2
  · obtain ⟨o, kw, ws, h1, h2, _⟩ := h; rw [h1] at e2; subst z; exact h2.noext _ (Option.some.inj e2)
  · obtain ⟨dx, fs, h1, _⟩ := h; rw [h1] at e2; cases e2
theorem tabs_new {L : List (Addr × Str)} {o : HO} (t : LamX.Tabs L H) (h : H a = none) : LamX.Tabs L (L2.upd H a o) := t.ext fun b x e => by rw [upd_ne (ne_of_none e h)]; exact e

theorem same_upd {o : HO} (h : H a = none) : Same H (upd H a o) := fun b x e => by
  rw [upd_ne (ne_of_none e h)]; exact e
theorem same_upd2 {o : HO} (e : Same S H) : Same (upd S a o) (upd H a o) := fun b x h => by
  by_cases hb : b = a
  · subst hb; rw [upd_same] at h ⊢; exact h
  · rw [upd_ne hb] at h ⊢; exact e _ _ h
theorem same_none (e : Same S H) (h : H a = none) : S a = none := e.free h

/-- the relation under more frozen objects and another heap, our own objects being as they were -/
theorem Rel.step (R : Rel K T π F S ρ σ H) (e : Same S S') (sS : Same S' H') (sF : Same F H') (dj : ∀ a o, F a = some o → S' a = none) (nS : NT S') (tb : LamX.Tabs T.tb H')
    (own : ∀ (i : Nat) (c : Cell) (a : Addr), ρ[i]? = some c → c.mut = true → σ[i]? = some (some (V.ref a)) → H' a = H a ∧ S' a = none) : Rel K T π F S' ρ σ H' := by
  refine ⟨sS, sF, dj, nS, R.nF, tb, R.len, fun i c hc => ?_, R.ds⟩
  have q := R.sl i c hc
  cases c with
  | un => trivial
  | fro d => obtain ⟨x, h1, h2⟩ := q; exact ⟨x, h1, h2.mono e⟩
  | own d =>
    obtain ⟨a, h1, h2⟩ := q
    obtain ⟨e1, e2⟩ := own i _ a hc rfl h1
    exact ⟨a, h1, (h2.mono e e2).heap e1⟩
  | brw d =>
    obtain ⟨a, h1, h0, h2⟩ := q
    obtain ⟨e1, e2⟩ := own i _ a hc rfl h1
    exact ⟨a, h1, h0, (h2.mono e e2).heap e1⟩
theorem Rel.ownAt (R : Rel K T π F S ρ σ H) {i : Nat} {c : Cell} (hc : ρ[i]? = some c) (m : c.mut = true) (e : σ[i]? = some (some (V.ref a))) : S a = none ∧ F a = none ∧ ∃ o, H a = some o := by
  have q := R.sl i c hc
  cases c with
  | un => cases m
  | fro d => cases m
  | own d =>
    obtain ⟨b, h1, h2⟩ := q
    rw [h1] at e; cases e
    exact ⟨h2.1, h2.2.1, h2.2.2.there⟩
  | brw d =>
    obtain ⟨b, h1, _, h2⟩ := q
    rw [h1] at e; cases e
    exact ⟨h2.1, h2.2.1, h2.2.2.there⟩
theorem Rel.apart (R : Rel K T π F S ρ σ H) (h : H a = none) : Apart ρ σ a := fun i c hc m e => by
  obtain ⟨_, _, o, q⟩ := R.ownAt hc m e
  rw [h] at q; cases q
/-- a new object, not frozen -/
theorem Rel.alloc (R : Rel K T π F S ρ σ H) {o : HO} (h : H a = none) : Rel K T π F S ρ σ (upd H a o) :=
  R.step (Same.refl S) (R.sS.trans (same_upd h)) (R.sF.trans (same_upd h)) R.dj R.nS (tabs_new R.tb h) fun i c b hc m e => by
    obtain ⟨h1, _, o', h2⟩ := R.ownAt hc m e
    exact ⟨upd_ne (ne_of_none h2 h), h1⟩
/-- a new object, frozen -/
theorem Rel.allocF (R : Rel K T π F S ρ σ H) {o : HO} (h : H a = none) (n : ∀ ps, o ≠ .tbl ps) : Rel K T π F (upd S a o) ρ σ (upd H a o) :=
  R.step (same_upd (same_none R.sS h)) (same_upd2 R.sS) (R.sF.trans (same_upd h)) (fun b x e => by
    rw [upd_ne (ne_of_none (R.sF _ _ e) h)]; exact R.dj _ _ e) (R.nS.upd n) (tabs_new R.tb h) fun i c b hc m e => by
    obtain ⟨h1, _, o', h2⟩ := R.ownAt hc m e
    have nb := ne_of_none h2 h
    exact ⟨upd_ne nb, by rw [upd_ne nb]; exact h1⟩
/-- S with what stands at a -/
def froz (S H : Hp) (a : Addr) : Hp := fun b => if b = a then H a else S b
theorem froz_at : froz S H a a = H a := by unfold froz; rw [if_pos rfl]
theorem froz_ne {b : Addr} (h : b ≠ a) : froz S H a b = S b := by unfold froz; rw [if_neg h]
theorem same_froz (h : S a = none) : Same S (froz S H a) := fun b o e => by rw [froz_ne (ne_of_none e h)]; exact e
theorem froz_same (e : Same S H) : Same (froz S H a) H := fun b o h => by
  by_cases hb : b = a
  · subst hb; rw [froz_at] at h; exact h
  · rw [froz_ne hb] at h; exact e _ _ h
theorem NT.froz (h : NT S) (n : Node K T S' H a d) : NT (Dt.froz S H a) := fun b ps e => by
  by_cases hb : b = a
  · subst hb; rw [froz_at] at e; exact n.notab ps e
  · rw [froz_ne hb] at e; exact h b ps e
theorem Rel.freeze (R : Rel K T π F S ρ σ H) (o : Own K T F S H a d) (ap : Apart ρ σ a) : Rel K T π F (froz S H a) ρ σ H ∧ DR K T (froz S H a) (.ref a) d :=
  ⟨R.step (same_froz o.1) (froz_same R.sS) R.sF (fun b x e => by
    by_cases hb : b = a
    · subst hb; rw [o.2.1] at e; cases e
    · rw [froz_ne hb]; exact R.dj _ _ e) (R.nS.froz o.2.2) R.tb fun i c b hc m e => ⟨rfl, by
      rw [froz_ne fun z => ap i c hc m (by rw [e, z])]; exact (R.ownAt hc m e).1⟩,
   o.2.2.froze (same_froz o.1) froz_at⟩
theorem RVR.hold (R : Rel K T π F S ρ σ H) (h : RVR K T F S H ρ σ v r) : ∃ S', Same S S' ∧ Rel K T π F S' ρ σ H ∧ Held K T S' σ v r.hold := by
  cases r with
  | fro d => exact ⟨S, Same.refl S, R, h⟩
  | bor i => exact ⟨S, Same.refl S, R, h⟩
  | own d =>
    obtain ⟨a, rfl, o, ap⟩ := h
    obtain ⟨R', q⟩ := R.freeze o ap
    exact ⟨_, same_froz o.1, R', q⟩
theorem Held.mono (e : Same S S') (h : Held K T S σ v r) : Held K T S' σ v r := by
  cases r with
  | fro d => exact DR.mono e h
  | own d => exact h.elim
  | bor i => exact h
theorem HeldAll.mono (e : Same S S') : ∀ {vs : List V} {rs : List RV}, HeldAll K T S σ vs rs → HeldAll K T S' σ vs rs
  | _, _, .nil => .nil
  | _, _, .cons h r => .cons (h.mono e) (HeldAll.mono e r)
/-- what is held may be read -/
theorem Held.rd (R : Rel K T π F S ρ σ H) (h : Held K T S σ v r) (e : deref ρ r = some d) : RD K T S H v d := by
  cases r with
  | fro d' => cases e; exact .inl h
  | own d' => exact h.elim
  | bor i =>
    have h : σ[i]? = some (some v) := h
    unfold deref at e
    cases hc : ρ[i]? with
    | none => simp [hc] at e
    | some c =>
      have q := R.sl i c hc
      rw [h] at q
      cases c with
      | un => simp [hc] at e
      | fro d' =>
        simp [hc] at e; subst e
        obtain ⟨x, h1, h2⟩ := q
        cases h1
        exact .inl h2
      | own d' =>
        simp [hc] at e; subst e
        obtain ⟨a, h1, h2⟩ := q
        cases h1
        exact .inr ⟨a, rfl, h2.2.2⟩
      | brw d' =>
        simp [hc] at e; subst e
        obtain ⟨a, h1, _, h2⟩ := q
        cases h1
        exact .inr ⟨a, rfl, h2.2.2⟩
theorem RD.lst (sS : Same S H) {ds : List D} (h : RD K T S H v (.lst ds)) : ∃ a vs, v = .ref a ∧ H a = some (.lst vs) ∧ DRs K T S vs ds := by
  rcases h with h | ⟨a, rfl, vs, h1, h2⟩
  · cases h with
    | lst h r => exact ⟨_, _, rfl, sS _ _ h, r⟩
  · exact ⟨a, vs, rfl, h1, h2⟩
theorem RD.scr (sS : Same S H) {ns : List Int} (h : RD K T S H v (.scr ns)) : ∃ a, v = .ref a ∧ SqL K H a (ns.map V.int) := by
  rcases h with h | ⟨a, rfl, h⟩
  · cases h with
    | scr h => exact ⟨_, rfl, sS.seq h⟩
  · exact h.elim
theorem RD.tup {ds : List D} (h : RD K T S H v (.tup ds)) : ∃ a vs, v = .ref a ∧ SqT K S a vs ∧ DRs K T S vs ds := by
  rcases h with h | ⟨a, rfl, h⟩
  · cases h with
    | tup h r => exact ⟨_, _, rfl, h, r⟩
  · exact h.elim
theorem RD.obj (sS : Same S H) {c : Nat} {ds : List D} (h : RD K T S H v (.obj c ds)) : ∃ a dx fs, v = .ref a ∧ H a = some (.ins (T.ca c) dx fs) ∧ fs.map (·.1) = (T.fl c).take ds.length ∧ DRs K T S (fs.map (·.2)) ds := by
  rcases h with h | ⟨a, rfl, dx, fs, h1, h2, h3⟩
  · cases h with
    | obj h n r => exact ⟨_, _, _, rfl, sS _ _ h, n, r⟩
  · exact ⟨a, dx, fs, rfl, h1, h2, h3⟩
theorem RD.dic (sS : Same S H) {b : Bool} {ks vs : List D} (h : RD K T S H v (.dic b ks vs)) : ∃ a o kw ws, v = .ref a ∧ H a = some o ∧ DicH b a o kw ks ws ∧ DRs K T S kw ks ∧ DRs K T S ws vs := by
  rcases h with h | ⟨a, rfl, o, kw, ws, h1, h2, h3, h4⟩
  · cases h with
    | dic h n q r => exact ⟨_, _, _, _, rfl, sS _ _ h, n, q, r⟩
  · exact ⟨a, o, kw, ws, rfl, h1, h2, h3, h4⟩
theorem RD.int {i : Int} (h : RD K T S H v (.int i)) : v = .int i := by
  rcases h with h | ⟨a, rfl, h⟩
  · cases h; rfl
  · exact h.elim
theorem RD.bl {b : Bool} (h : RD K T S H v (.bl b)) : v = .bl b := by
  rcases h with h | ⟨a, rfl, h⟩
  · cases h; rfl
  · exact h.elim
theorem RD.str {x : Str} (h : RD K T S H v (.str x)) : v = .str x := by
  rcases h with h | ⟨a, rfl, h⟩
  · cases h; rfl
  · exact h.elim
theorem RD.non (h : RD K T S H v .non) : v = .non := by
  rcases h with h | ⟨a, rfl, h⟩
  · cases h; rfl
  · exact h.elim
end

/-! ### the readings -/
section
variable (K : PySem.W.Frag) (T : Tab)
def SE (f : EF) : TE := fun σ H Q => ∃ π F S ρ r ρ', Rel K T π F S ρ σ H ∧ f ρ = .ok (r, ρ') ∧ ∀ S' H' v, Same S S' → Rel K T π F S' ρ' σ H' → RVR K T F S' H' ρ' σ v r → Q v H'
def SA (f : AF) : TA := fun σ H Q => ∃ π F S ρ rs ρ', Rel K T π F S ρ σ H ∧ f ρ = .ok (rs, ρ') ∧ ∀ S' H' vs, Same S S' → Rel K T π F S' ρ' σ H' → HeldAll K T S' σ vs rs → Q vs H'
abbrev BF := Env → Res (Bool × Env)
def ST (f : BF) : TT := fun σ H Q => ∃ π F S ρ b ρ', Rel K T π F S ρ σ H ∧ f ρ = .ok (b, ρ') ∧ ∀ S' H', Same S S' → Rel K T π F S' ρ' σ H' → Q b H'
def FlW (π : L2.St) (F S : Hp) (ρ' : Env) (D : Ends) : Fl → Prop
  | .nx => ∀ S' σ' H', Same S S' → Rel K T π F S' ρ' σ' H' → D.nx σ' H'
  | .ret r => ∀ S' σ' H' v, Same S S' → Rel K T π F S' ρ' σ' H' → RVR K T F S' H' ρ' σ' v r → D.rt v H'
  | .bk => ∀ S' σ' H', Same S S' → Rel K T π F S' ρ' σ' H' → D.bk σ' H'
  | .ct => ∀ S' σ' H', Same S S' → Rel K T π F S' ρ' σ' H' → D.ct σ' H'
def SS (f : SF) : TS := fun D σ H => ∃ π F S ρ fl ρ', Rel K T π F S ρ σ H ∧ f ρ = .ok (fl, ρ') ∧ FlW K T π F S ρ' D fl
end
theorem _root_.L2.PE.imp {X : Cx} {e : Expr} {t t' : TE} (h : PE X e t) (i : ∀ σ H Q, t' σ H Q → t σ H Q) : PE X e t' := ⟨fun pins s σ H Q I q => h.run pins s σ H Q I (i _ _ _ q)⟩
theorem _root_.L2.PT.imp {X : Cx} {e : Expr} {t t' : TT} (h : PT X e t) (i : ∀ σ H Q, t' σ H Q → t σ H Q) : PT X e t' := ⟨fun pins s σ H Q I q => h.run pins s σ H Q I (i _ _ _ q)⟩
theorem _root_.L2.PW.imp {X : Cx} {e : Expr} {t t' : TT} (h : PW X e t) (i : ∀ σ H Q, t' σ H Q → t σ H Q) : PW X e t' := ⟨fun w pins s σ H Q I q => h.run w pins s σ H Q I (i _ _ _ q)⟩
theorem _root_.L2.PA.imp {X : Cx} {es : List Expr} {t t' : TA} (h : PA X es t) (i : ∀ σ H Q, t' σ H Q → t σ H Q) : PA X es t' := ⟨fun pos pins s σ H Q I q => h.run pos pins s σ H Q I (i _ _ _ q)⟩
theorem _root_.L2.PS.imp {X : Cx} {st : Stmt} {t t' : TS} (h : PS X st t) (i : ∀ D σ H, t' D σ H → t D σ H) : PS X st t' := ⟨fun pins s σ H D I q => h.run pins s σ H D I (i _ _ _ q)⟩
theorem _root_.L2.PSs.imp {X : Cx} {st : List Stmt} {t t' : TS} (h : PSs X st t) (i : ∀ D σ H, t' D σ H → t D σ H) : PSs X st t' := ⟨fun pins s σ H D I q => h.run pins s σ H D I (i _ _ _ q)⟩
end Dt
end

section
set_option Elab.async false
set_option linter.all false
set_option maxRecDepth 100000
set_option maxHeartbeats 4000000
set_option autoImplicit false
namespace Dt
open PySem PySem.Spec PyProof.Rows L2

/-! ### names -/
def eVar (i : Nat) : EF := fun ρ => match ρ[i]? with
  | some (.fro d) => .ok (.fro d, ρ)
  | some (.own d) => .ok (.fro d, ρ.set i (.fro d))
  | _ => .bad
def eUse (i : Nat) : EF := fun ρ => match ρ[i]? with
  | some (.fro d) => .ok (.fro d, ρ)
  | some (.own _) => .ok (.bor i, ρ)
  | some (.brw _) => .ok (.bor i, ρ)
  | _ => .bad
def eC (d : D) : EF := fun ρ => .ok (.fro d, ρ)

section
variable {K : PySem.W.Frag} {T : Tab} {π σ : L2.St} {F S S' H H' : Hp} {ρ ρ' : Env} {a : Addr} {v : V} {d : D} {r : RV}
theorem getElem?_set_cases {α : Type} {l : List α} {i j : Nat} {x y : α} (h : (l.set i x)[j]? = some y) : (j = i ∧ y = x) ∨ (j ≠ i ∧ l[j]? = some y) := by
  by_cases e : i = j
  · subst e
    rw [List.getElem?_set] at h
    split at h
    · split at h
      · cases h; exact .inl ⟨rfl, rfl⟩
      · cases h
    · exact absurd rfl (by assumption)
  · rw [List.getElem?_set_ne e] at h
    exact .inr ⟨fun z => e z.symm, h⟩
/-- a slot's own object is frozen -/
theorem Rel.freezeSlot (R : Rel K T π F S ρ σ H) {i : Nat} (hc : ρ[i]? = some (.own d)) : ∃ v, σ[i]? = some (some v) ∧ ∃ S', Same S S' ∧ Rel K T π F S' (ρ.set i (.fro d)) σ H ∧ DR K T S' v d := by
  obtain ⟨a, h1, o⟩ := R.sl i _ hc
  refine ⟨_, h1, froz S H a, same_froz o.1, ?_, o.2.2.froze (same_froz o.1) froz_at⟩
  have q : DR K T (froz S H a) (.ref a) d := o.2.2.froze (same_froz o.1) froz_at
  refine ⟨froz_same R.sS, R.sF, fun b x e => ?_, R.nS.froz o.2.2, R.nF, R.tb, by rw [List.length_set]; exact R.len, fun j c hj => ?_, fun j k b cj ck hj hk mj mk ej ek => ?_⟩
  · by_cases hb : b = a
    · subst hb; rw [o.2.1] at e; cases e
    · rw [froz_ne hb]; exact R.dj _ _ e
  · rcases getElem?_set_cases hj with ⟨rfl, rfl⟩ | ⟨nj, hj⟩
    · exact ⟨_, h1, q⟩
    · have q := R.sl j c hj
      have keep : ∀ b, σ[j]? = some (some (V.ref b)) → c.mut = true → (froz S H a) b = S b := fun b e m => froz_ne fun z => nj (R.ds j i a c _ hj hc m rfl (by rw [e, z]) h1)
      cases c with
      | un => trivial
      | fro d => obtain ⟨x, e1, e2⟩ := q; exact ⟨x, e1, e2.mono (same_froz o.1)⟩
      | own d => obtain ⟨b, e1, e2⟩ := q; exact ⟨b, e1, e2.mono (same_froz o.1) (by rw [keep b e1 rfl]; exact e2.1)⟩
      | brw d => obtain ⟨b, e1, e0, e2⟩ := q; exact ⟨b, e1, e0, e2.mono (same_froz o.1) (by rw [keep b e1 rfl]; exact e2.1)⟩
  · rcases getElem?_set_cases hj with ⟨rfl, rfl⟩ | ⟨nj, hj⟩
    · cases mj
    · rcases getElem?_set_cases hk with ⟨rfl, rfl⟩ | ⟨nk, hk⟩
      · cases mk
      · exact R.ds j k b cj ck hj hk mj mk ej ek
end

section
variable {X : Cx} {T : Tab}
theorem ee_var {e : Expr} {i : Nat} (h : PE X e (tVar i)) : PE X e (SE X.K T (eVar i)) := h.imp fun σ H Q ⟨π, F, S, ρ, r, ρ', R, e, q⟩ => by
  unfold eVar at e
  cases hc : ρ[i]? with
  | none => simp [hc] at e
  | some c =>
    cases c with
    | un => simp [hc] at e
    | brw d => simp [hc] at e
    | fro d =>
      simp [hc] at e
      obtain ⟨rfl, rfl⟩ := e
      obtain ⟨v, e1, e2⟩ := R.sl i _ hc
      exact ⟨v, e1, q S H v (Same.refl S) R e2⟩
    | own d =>
      simp [hc] at e
      obtain ⟨rfl, rfl⟩ := e
      obtain ⟨v, e1, S', sS, R', e2⟩ := R.freezeSlot hc
      exact ⟨v, e1, q S' H v sS R' e2⟩
theorem ee_use {e : Expr} {i : Nat} (h : PE X e (tVar i)) : PE X e (SE X.K T (eUse i)) := h.imp fun σ H Q ⟨π, F, S, ρ, r, ρ', R, e, q⟩ => by
  unfold eUse at e
  cases hc : ρ[i]? with
  | none => simp [hc] at e
  | some c =>
    cases c with
    | un => simp [hc] at e
    | brw d =>
      simp [hc] at e
      obtain ⟨rfl, rfl⟩ := e
      obtain ⟨v, e1, e2⟩ := R.sl i _ hc
      exact ⟨.ref v, e1, q S H _ (Same.refl S) R e1⟩
    | fro d =>
      simp [hc] at e
      obtain ⟨rfl, rfl⟩ := e
      obtain ⟨v, e1, e2⟩ := R.sl i _ hc
      exact ⟨v, e1, q S H v (Same.refl S) R e2⟩
    | own d =>
      simp [hc] at e
      obtain ⟨rfl, rfl⟩ := e
      obtain ⟨v, e1, e2⟩ := R.sl i _ hc
      exact ⟨.ref v, e1, q S H _ (Same.refl S) R e1⟩
theorem ee_C {e : Expr} {v : V} {d : D} (h : PE X e (tC v)) (hd : ∀ S, DR X.K T S v d) : PE X e (SE X.K T (eC d)) := h.imp fun σ H Q ⟨π, F, S, ρ, r, ρ', R, e, q⟩ => by
  cases e
  exact q S H v (Same.refl S) R (hd S)
theorem ee_int {i : Int} {j pos} : PE X (.Constant (.int i) j pos) (SE X.K T (eC (.int i))) := ee_C pe_int fun _ => .int i
theorem ee_bl {b : Bool} {j pos} : PE X (.Constant (.bool b) j pos) (SE X.K T (eC (.bl b))) := ee_C pe_bl fun _ => .bl b
theorem ee_non {j pos} : PE X (.Constant .none j pos) (SE X.K T (eC .non)) := ee_C pe_non fun _ => .non
theorem ee_str {x : Str} {j pos} : PE X (.Constant (.str x) j pos) (SE X.K T (eC (.str x))) := ee_C pe_str fun _ => .str x
end

/-! ### one and two operands -/
def e1 (g : D → Res RV) (fa : EF) : EF := fun ρ => (fa ρ).bind fun (x, ρ1) => (Res.of (deref ρ1 x.hold)).bind fun d => (g d).bind fun r => .ok (r, ρ1)
def e2 (g : D → D → Res RV) (fa fb : EF) : EF := fun ρ => (fa ρ).bind fun (x, ρ1) => (fb ρ1).bind fun (y, ρ2) => (Res.of (deref ρ2 x.hold)).bind fun d => (Res.of (deref ρ2 y.hold)).bind fun e => (g d e).bind fun r => .ok (r, ρ2)
/-- an operation by data -/
def Op1 (K : PySem.W.Frag) (T : Tab) (r : V → Hp → VK → Prop) (g : D → Res RV) : Prop :=
  ∀ π F S ρ σ H x d res Q, Rel K T π F S ρ σ H → RD K T S H x d → g d = .ok res → (∀ S' H' v, Same S S' → Rel K T π F S' ρ σ H' → RVR K T F S' H' ρ σ v res → Q v H') → r x H Q
def Op2 (K : PySem.W.Frag) (T : Tab) (r : R2) (g : D → D → Res RV) : Prop :=
  ∀ π F S ρ σ H x y d e res Q, Rel K T π F S ρ σ H → RD K T S H x d → RD K T S H y e → g d e = .ok res → (∀ S' H' v, Same S S' → Rel K T π F S' ρ σ H' → RVR K T F S' H' ρ σ v res → Q v H') → r x y H Q
section
variable {K : PySem.W.Frag} {T : Tab}
theorem SE.e1 {fa : EF} {g : D → Res RV} {r : V → Hp → VK → Prop} (h : Op1 K T r g) {σ : L2.St} {H : Hp} {Q : VK} (q : SE K T (e1 g fa) σ H Q) : SE K T fa σ H fun x H1 => r x H1 Q := by
  obtain ⟨π, F, S, ρ, res, ρ', R, e, q⟩ := q
  obtain ⟨⟨x, ρ1⟩, ea, e⟩ := Res.bind_eq e
  obtain ⟨d, ed, e⟩ := Res.bind_eq e
  obtain ⟨res', eg, e⟩ := Res.bind_eq e
  cases e
  refine ⟨π, F, S, ρ, x, _, R, ea, fun S1 H1 v s1 R1 rv => ?_⟩
  obtain ⟨S2, s2, R2, hv⟩ := rv.hold R1
  exact h π F S2 _ σ H1 v d res Q R2 (hv.rd R2 (Res.of_eq ed)) eg fun S' H' w s' R' rw' => q S' H' w (s1.trans (s2.trans s')) R' rw'
theorem SE.e2 {fa fb : EF} {g : D → D → Res RV} {r : R2} (h : Op2 K T r g) {σ : L2.St} {H : Hp} {Q : VK} (q : SE K T (e2 g fa fb) σ H Q) : SE K T fa σ H fun x H1 => SE K T fb σ H1 fun y H2 => r x y H2 Q := by
  obtain ⟨π, F, S, ρ, res, ρ', R, e, q⟩ := q
  obtain ⟨⟨x, ρ1⟩, ea, e⟩ := Res.bind_eq e
  obtain ⟨⟨y, ρ2⟩, eb, e⟩ := Res.bind_eq e
  obtain ⟨d, ed, e⟩ := Res.bind_eq e
  obtain ⟨d', ed', e⟩ := Res.bind_eq e
  obtain ⟨res', eg, e⟩ := Res.bind_eq e
  cases e
  refine ⟨π, F, S, ρ, x, _, R, ea, fun S1 H1 v s1 R1 rv => ?_⟩
  obtain ⟨S2, s2, R2, hv⟩ := rv.hold R1
  refine ⟨π, F, S2, _, y, _, R2, eb, fun S3 H3 u s3 R3 ru => ?_⟩
  obtain ⟨S4, s4, R4, hu⟩ := ru.hold R3
  exact h π F S4 _ σ H3 v u d d' res Q R4 ((hv.mono (s3.trans s4)).rd R4 (Res.of_eq ed)) (hu.rd R4 (Res.of_eq ed')) eg fun S' H' w s' R' rw' => q S' H' w (s1.trans (s2.trans (s3.trans (s4.trans s')))) R' rw'
end
section
variable {X : Cx} {T : Tab} {a b : Expr} {fa fb : EF} {pos : Pos}
theorem ee_op {op : Operator} {r : R2} {g : D → D → Res RV} (ho : OpR X (binaryOp op) r) (hg : Op2 X.K T r g) (ha : PE X a (SE X.K T fa)) (hb : PE X b (SE X.K T fb)) : PE X (.BinOp a op b pos) (SE X.K T (e2 g fa fb)) := (pe_op ho ha hb).imp fun _ _ _ q => q.e2 hg
theorem ee_un {op : UnaryOp} {r : V → Hp → VK → Prop} {g : D → Res RV} (ho : UnR X (unaryOp op) r) (hg : Op1 X.K T r g) (ha : PE X a (SE X.K T fa)) : PE X (.UnaryOp op a pos) (SE X.K T (e1 g fa)) := (pe_un ho ha).imp fun _ _ _ q => q.e1 hg
theorem ee_cmp {op : CmpOp} {r : R2} {g : D → D → Res RV} (ho : OpR X (compareOp op) r) (hg : Op2 X.K T r g) (ha : PE X a (SE X.K T fa)) (hb : PE X b (SE X.K T fb)) (hm : behindInMarks op b = false) : PE X (.Compare a [op] [b] pos) (SE X.K T (e2 g fa fb)) := (pe_cmpR ho ha hb hm).imp fun _ _ _ q => q.e2 hg
theorem ee_ix {r : R2} {g : D → D → Res RV} (hr : IxR X r) (hg : Op2 X.K T r g) (ha : PE X a (SE X.K T fa)) (hb : PE X b (SE X.K T fb)) (hs : PlainIx b) : PE X (.Subscript a b pos) (SE X.K T (e2 g fa fb)) := (pe_ix hr ha hb hs).imp fun _ _ _ q => q.e2 hg
end

/-! ### the operations -/
def gInt (h : Int → Int → Res RV) : D → D → Res RV
  | .int i, .int j => h i j
  | _, _ => .bad
def oInt (c : Int → Int → Bool) (f : Int → Int → Int) : D → D → Res RV := gInt fun i j => if c i j then .ok (.fro (.int (f i j))) else .bad
def oCmp (f : Int → Int → Bool) : D → D → Res RV := gInt fun i j => .ok (.fro (.bl (f i j)))
section
variable {K : PySem.W.Frag} {T : Tab}
theorem op_rI {C : Int → Int → Prop} {c : Int → Int → Bool} {f : Int → Int → Int} (hc : ∀ i j, c i j = true → C i j) : Op2 K T (rI C fun i j => .int (f i j)) (oInt c f) := by
  intro π F S ρ σ H x y d e res Q R hx hy hg q
  cases d <;> first | (cases hg; done) | skip
  cases e <;> first | (cases hg; done) | skip
  rename_i i j
  have hg : (if c i j then Res.ok (RV.fro (.int (f i j))) else .bad) = .ok res := hg
  cases h : c i j with
  | false => rw [h] at hg; cases hg
  | true =>
    rw [h] at hg; cases hg
    exact ⟨i, j, hx.int, hy.int, hc i j h, q S H _ (Same.refl S) R (.int _)⟩
theorem op_rI0 {f : Int → Int → Int} : Op2 K T (rI0 fun i j => .int (f i j)) (oInt (fun _ _ => true) f) := by
  intro π F S ρ σ H x y d e res Q R hx hy hg q
  cases d <;> first | (cases hg; done) | skip
  cases e <;> first | (cases hg; done) | skip
  rename_i i j
  cases hg
  exact ⟨i, j, hx.int, hy.int, q S H _ (Same.refl S) R (.int _)⟩
theorem op_rB0 {f : Int → Int → Bool} : Op2 K T (rI0 fun i j => .bl (f i j)) (oCmp f) := by
  intro π F S ρ σ H x y d e res Q R hx hy hg q
  cases d <;> first | (cases hg; done) | skip
  cases e <;> first | (cases hg; done) | skip
  rename_i i j
  cases hg
  exact ⟨i, j, hx.int, hy.int, q S H _ (Same.refl S) R (.bl _)⟩
end
abbrev oAdd := oInt (fun _ _ => true) fun i j => i + j
abbrev oSub := oInt (fun _ _ => true) fun i j => i - j
abbrev oMul := oInt (fun i j => (decide (-(2 ^ 64) < i) && decide (i < 2 ^ 64)) || (decide (-(2 ^ 64) < j) && decide (j < 2 ^ 64))) fun i j => i * j
abbrev oMod := oInt (fun _ j => decide (0 < j)) fun i j => i % j
abbrev oDiv := oInt (fun _ j => decide (0 < j) && decide (j < 1073741824)) fun i j => i / j
abbrev oLt := oCmp fun i j => decide (i < j)
abbrev oLe := oCmp fun i j => decide (i ≤ j)
abbrev oGt := oCmp fun i j => decide (j < i)
abbrev oGe := oCmp fun i j => decide (j ≤ i)
section
variable {X : Cx} {T : Tab} {a b : Expr} {fa fb : EF} {pos : Pos}
theorem ee_add (ha : PE X a (SE X.K T fa)) (hb : PE X b (SE X.K T fb)) : PE X (.BinOp a .Add b pos) (SE X.K T (e2 oAdd fa fb)) := ee_op op_add op_rI0 ha hb
theorem ee_sub (ha : PE X a (SE X.K T fa)) (hb : PE X b (SE X.K T fb)) : PE X (.BinOp a .Sub b pos) (SE X.K T (e2 oSub fa fb)) := ee_op op_sub op_rI0 ha hb
theorem ee_mul (ha : PE X a (SE X.K T fa)) (hb : PE X b (SE X.K T fb)) : PE X (.BinOp a .Mult b pos) (SE X.K T (e2 oMul fa fb)) := ee_op op_mul (op_rI fun i j h => by
  rw [Bool.or_eq_true, Bool.and_eq_true, Bool.and_eq_true] at h
  rcases h with ⟨h1, h2⟩ | ⟨h1, h2⟩
  · exact .inl ⟨of_decide_eq_true h1, of_decide_eq_true h2⟩
  · exact .inr ⟨of_decide_eq_true h1, of_decide_eq_true h2⟩) ha hb
theorem ee_mod (ha : PE X a (SE X.K T fa)) (hb : PE X b (SE X.K T fb)) : PE X (.BinOp a .Mod b pos) (SE X.K T (e2 oMod fa fb)) := ee_op op_mod (op_rI fun i j h => of_decide_eq_true h) ha hb
theorem ee_div (ha : PE X a (SE X.K T fa)) (hb : PE X b (SE X.K T fb)) : PE X (.BinOp a .FloorDiv b pos) (SE X.K T (e2 oDiv fa fb)) := ee_op op_fdiv (op_rI fun i j h => by
  rw [Bool.and_eq_true] at h
  exact ⟨of_decide_eq_true h.1, of_decide_eq_true h.2⟩) ha hb
theorem ee_lt (ha : PE X a (SE X.K T fa)) (hb : PE X b (SE X.K T fb)) : PE X (.Compare a [.Lt] [b] pos) (SE X.K T (e2 oLt fa fb)) := ee_cmp op_lt op_rB0 ha hb (nomark _)
theorem ee_le (ha : PE X a (SE X.K T fa)) (hb : PE X b (SE X.K T fb)) : PE X (.Compare a [.LtE] [b] pos) (SE X.K T (e2 oLe fa fb)) := ee_cmp op_le op_rB0 ha hb (nomark _)
theorem ee_gt (ha : PE X a (SE X.K T fa)) (hb : PE X b (SE X.K T fb)) : PE X (.Compare a [.Gt] [b] pos) (SE X.K T (e2 oGt fa fb)) := ee_cmp op_gt op_rB0 ha hb (nomark _)
theorem ee_ge (ha : PE X a (SE X.K T fa)) (hb : PE X b (SE X.K T fb)) : PE X (.Compare a [.GtE] [b] pos) (SE X.K T (e2 oGe fa fb)) := ee_cmp op_ge op_rB0 ha hb (nomark _)
end
def oNeg : D → Res RV
  | .int i => .ok (.fro (.int (-i)))
  | _ => .bad
theorem ee_neg {X : Cx} {T : Tab} {a : Expr} {fa : EF} {pos : Pos} (ha : PE X a (SE X.K T fa)) : PE X (.UnaryOp .USub a pos) (SE X.K T (e1 oNeg fa)) := ee_un un_neg (by
  intro π F S ρ σ H x d res Q R hx hg q
  cases d <;> first | (cases hg; done) | skip
  cases hg
  exact ⟨_, hx.int, q S H _ (Same.refl S) R (.int _)⟩) ha

/-! ### == of data -/
mutual
def D.py : D → Option PyData
  | .non => some .none
  | .bl b => some (.bool b)
  | .int i => some (.int i)
  | .str x => some (.str x)
  | .tup xs => (D.pys xs).map .tuple
  | .lst xs => (D.pys xs).map .list
  | .scr ns => some (.list (ns.map .int))
  | .dic _ _ _ => none
  | .obj _ _ => none
  | .fn _ _ => none
def D.pys : List D → Option (List PyData)
  | [] => some []
  | d :: ds => match D.py d, D.pys ds with
    | some p, some ps => some (p :: ps)
    | _, _ => none
end
section
variable {K : PySem.W.Frag} {T : Tab} {S H : Hp}
theorem dp_ints : ∀ ns : List Int, DpAll K S (ns.map V.int) (ns.map PyData.int)
  | [] => .nil
  | n :: ns => .cons (.int n) (dp_ints ns)
mutual
theorem DR.dp : ∀ {v : V} {d : D} {p : PyData}, DR K T S v d → d.py = some p → Dp K S v p
  | _, _, _, .non, e => by cases e; exact .non
  | _, _, _, .bl b, e => by cases e; exact .bl b
  | _, _, _, .int i, e => by cases e; exact .int i
  | _, _, _, .str x, e => by cases e; exact .str x
  | _, _, _, .tup h r, e => by
    rw [D.py] at e
    obtain ⟨ps, e1, e2⟩ := Option.map_eq_some_iff.mp e
    subst e2
    exact .tup h (DRs.dps r e1)
  | _, _, _, .lst h r, e => by
    rw [D.py] at e
    obtain ⟨ps, e1, e2⟩ := Option.map_eq_some_iff.mp e
    subst e2
    exact .lst (.of h) (DRs.dps r e1)
  | _, _, _, .scr h, e => by
    rw [D.py] at e
    cases e
    exact .lst h (dp_ints _)
  | _, _, _, .obj _ _ _, e => by rw [D.py] at e; cases e
  | _, _, _, .dic _ _ _ _, e => by rw [D.py] at e; cases e
theorem DRs.dps : ∀ {vs : List V} {ds : List D} {ps : List PyData}, DRs K T S vs ds → D.pys ds = some ps → DpAll K S vs ps
  | _, _, _, .nil, e => by rw [D.pys] at e; cases e; exact .nil
  | _, _, _, .cons h r, e => by
    rw [D.pys] at e
    split at e
    · rename_i p ps e1 e2
      cases e
      exact .cons (DR.dp h e1) (DRs.dps r e2)
    · cases e
end
/-- data that may be read now, in the whole heap -/
theorem RD.all {v : V} {d : D} (sS : Same S H) (h : RD K T S H v d) : DR K T H v d := by
  rcases h with h | ⟨a, rfl, h⟩
  · exact h.mono sS
  · exact h.froze sS rfl
end
def D.eqv (d e : D) : Option Bool := match d.py, e.py with
  | some p, some q => if SeqAt.shaped p && SeqAt.shaped q then some (PyData.eqv p q) else none
  | _, _ => none
def oEq : D → D → Res RV := fun d e => (Res.of (d.eqv e)).bind fun b => .ok (.fro (.bl b))
def oNe : D → D → Res RV := fun d e => (Res.of (d.eqv e)).bind fun b => .ok (.fro (.bl (!b)))
section
variable {K : PySem.W.Frag} {T : Tab}
theorem eqv_eq {d e : D} {b : Bool} (h : d.eqv e = some b) : ∃ p q, d.py = some p ∧ e.py = some q ∧ SeqAt.shaped p = true ∧ SeqAt.shaped q = true ∧ b = PyData.eqv p q := by
  unfold D.eqv at h
  split at h
  · rename_i p q e1 e2
    split at h
    · rename_i hs
      cases h
      rw [Bool.and_eq_true] at hs
      exact ⟨p, q, e1, e2, hs.1, hs.2, rfl⟩
    · cases h
  · cases h
theorem op_rEqD : Op2 K T (rEqD K) oEq := by
  intro π F S ρ σ H x y d e res Q R hx hy hg q
  obtain ⟨b, h1, h2⟩ := Res.bind_eq hg
  cases h2
  obtain ⟨p, p', e1, e2, s1, s2, rfl⟩ := eqv_eq (Res.of_eq h1)
  exact ⟨p, p', (hx.all R.sS).dp e1, (hy.all R.sS).dp e2, s1, s2, q S H _ (Same.refl S) R (.bl _)⟩
theorem op_rNeD : Op2 K T (rNeD K) oNe := by
  intro π F S ρ σ H x y d e res Q R hx hy hg q
  obtain ⟨b, h1, h2⟩ := Res.bind_eq hg
  cases h2
  obtain ⟨p, p', e1, e2, s1, s2, rfl⟩ := eqv_eq (Res.of_eq h1)
  exact ⟨p, p', (hx.all R.sS).dp e1, (hy.all R.sS).dp e2, s1, s2, q S H _ (Same.refl S) R (.bl _)⟩
end
section
variable {X : Cx} {T : Tab} {a b : Expr} {fa fb : EF} {pos : Pos}
theorem ee_eq (hu : X.A.units + 64 < cLine) (ha : PE X a (SE X.K T fa)) (hb : PE X b (SE X.K T fb)) : PE X (.Compare a [.Eq] [b] pos) (SE X.K T (e2 oEq fa fb)) := ee_cmp (op_eqD hu) op_rEqD ha hb (nomark _)
theorem ee_ne (hu : X.A.units + 64 < cLine) (ha : PE X a (SE X.K T fa)) (hb : PE X b (SE X.K T fb)) : PE X (.Compare a [.NotEq] [b] pos) (SE X.K T (e2 oNe fa fb)) := ee_cmp (op_neD hu) op_rNeD ha hb (nomark _)
end
/-! ### is None -/
def D.isN : D → Bool
  | .non => true
  | _ => false
def oIsN : D → D → Res RV := fun d e => match e with
  | .non => .ok (.fro (.bl d.isN))
  | _ => .bad
def oNotN : D → D → Res RV := fun d e => match e with
  | .non => .ok (.fro (.bl (!d.isN)))
  | _ => .bad
theorem RD.isN {K : PySem.W.Frag} {T : Tab} {S H : Hp} {v : V} {d : D} (h : RD K T S H v d) : decide (v = .non) = d.isN := by
  rcases h with h | ⟨a, rfl, h⟩
  · cases h <;> simp [D.isN]
  · cases d <;> first | exact h.elim | simp [D.isN]
section
variable {X : Cx} {T : Tab} {a b : Expr} {fa fb : EF} {pos : Pos}
theorem ee_isN (ha : PE X a (SE X.K T fa)) (hb : PE X b (SE X.K T fb)) : PE X (.Compare a [.Is] [b] pos) (SE X.K T (e2 oIsN fa fb)) := ee_cmp op_isN (by
  intro π F S ρ σ H x y d e res Q R hx hy hg q
  cases e <;> first | (cases hg; done) | skip
  cases hg
  exact ⟨hy.non, by rw [hx.isN]; exact q S H _ (Same.refl S) R (.bl _)⟩) ha hb (nomark _)
theorem ee_notN (ha : PE X a (SE X.K T fa)) (hb : PE X b (SE X.K T fb)) : PE X (.Compare a [.IsNot] [b] pos) (SE X.K T (e2 oNotN fa fb)) := ee_cmp op_notN (by
  intro π F S ρ σ H x y d e res Q R hx hy hg q
  cases e <;> first | (cases hg; done) | skip
  cases hg
  exact ⟨hy.non, by rw [hx.isN]; exact q S H _ (Same.refl S) R (.bl _)⟩) ha hb (nomark _)
end
/-! ### in a list or tuple of flat data -/
def D.flat : D → Bool
  | .non => true
  | .bl _ => true
  | .int _ => true
  | .str _ => true
  | _ => false
def D.eqF : D → D → Bool
  | .non, .non => true
  | .bl a, .bl b => a == b
  | .bl a, .int b => (if a then 1 else 0) == b
  | .int a, .bl b => a == (if b then 1 else 0)
  | .int a, .int b => a == b
  | .str a, .str b => a == b
  | _, _ => false
def inF (x : D) (xs : List D) : Bool := xs.any fun y => D.eqF y x
def D.items : D → Option (List D)
  | .lst xs => some xs
  | .tup xs => some xs
  | .scr ns => some (ns.map .int)
  | _ => none
def oIn (neg : Bool) : D → D → Res RV := fun d e => (Res.of e.items).bind fun xs => if d.flat && xs.all D.flat then .ok (.fro (.bl (if neg then !inF d xs else inF d xs))) else .bad
section
variable {K : PySem.W.Frag} {T : Tab} {S H : Hp}
theorem DR.flat {v : V} {d : D} (h : DR K T S v d) (f : d.flat = true) : flatV v = true := by
  cases h <;> first | rfl | (cases f; done)
theorem DR.eqF {v w : V} {d e : D} (h : DR K T S v d) (f : d.flat = true) (h' : DR K T S w e) (f' : e.flat = true) : eqV v w = D.eqF d e := by
  cases h <;> first | (cases f; done) | skip
  all_goals (cases h' <;> first | (cases f'; done) | rfl)
theorem DRs.flat : ∀ {vs : List V} {ds : List D}, DRs K T S vs ds → ds.all D.flat = true → vs.all flatV = true
  | _, _, .nil, _ => rfl
  | _, _, .cons h r, f => by
    rw [List.all_cons, Bool.and_eq_true] at f ⊢
    exact ⟨h.flat f.1, DRs.flat r f.2⟩
theorem DRs.inF {v : V} {d : D} (h : DR K T S v d) (f : d.flat = true) : ∀ {vs : List V} {ds : List D}, DRs K T S vs ds → ds.all D.flat = true → inV v vs = Dt.inF d ds
  | _, _, .nil, _ => rfl
  | _, _, .cons h' r, f' => by
    rw [List.all_cons, Bool.and_eq_true] at f'
    unfold inV Dt.inF
    rw [List.any_cons, List.any_cons, h'.eqF f'.1 h f]
    congr 1
    exact DRs.inF h f r f'.2
/-- a list or a tuple that may be read -/
theorem RD.items {v : V} {d : D} (sS : Same S H) (h : RD K T S H v d) {xs : List D} (e : d.items = some xs) : ∃ a vs, v = .ref a ∧ (SqL K H a vs ∨ SqT K H a vs) ∧ DRs K T S vs xs := by
  cases d <;> first | (cases e; done) | skip
  · cases e
    obtain ⟨a, vs, h1, h2, h3⟩ := h.tup
    exact ⟨a, vs, h1, .inr (sqT_same sS h2), h3⟩
  · cases e
    obtain ⟨a, vs, h1, h2, h3⟩ := h.lst sS
    exact ⟨a, vs, h1, .inl (.of h2), h3⟩
  · cases e
    obtain ⟨a, h1, h2⟩ := h.scr sS
    exact ⟨a, _, h1, .inl h2, drs_ints _⟩
theorem op_rIn {neg : Bool} : Op2 K T (rIn K neg) (oIn neg) := by
  intro π F S ρ σ H x y d e res Q R hx hy hg q
  obtain ⟨xs, e1, hg⟩ := Res.bind_eq hg
  split at hg
  · rename_i hf
    cases hg
    rw [Bool.and_eq_true] at hf
    obtain ⟨a, vs, rfl, h1, h2⟩ := hy.items R.sS (Res.of_eq e1)
    have hx' := hx.all R.sS
    have h2' := h2.mono R.sS
    exact ⟨a, vs, rfl, h1, hx'.flat hf.1, h2'.flat hf.2, by rw [DRs.inF hx' hf.1 h2' hf.2]; exact q S H _ (Same.refl S) R (.bl _)⟩
  · cases hg
end
section
variable {X : Cx} {T : Tab} {a b : Expr} {fa fb : EF} {pos : Pos}
theorem ee_in (ha : PE X a (SE X.K T fa)) (hb : PE X b (SE X.K T fb)) (hm : behindInMarks .In b = false) : PE X (.Compare a [.In] [b] pos) (SE X.K T (e2 (oIn false) fa fb)) := ee_cmp op_in_seq op_rIn ha hb hm
theorem ee_notIn (ha : PE X a (SE X.K T fa)) (hb : PE X b (SE X.K T fb)) (hm : behindInMarks .NotIn b = false) : PE X (.Compare a [.NotIn] [b] pos) (SE X.K T (e2 (oIn true) fa fb)) := ee_cmp op_notIn_seq op_rIn ha hb hm
end
/-! ### xs[i] -/
def oIx : D → D → Res RV := fun d e => match d, e with
  | .lst xs, .int i => (Res.of (atI xs i)).bind fun x => .ok (.fro x)
  | .tup xs, .int i => (Res.of (atI xs i)).bind fun x => .ok (.fro x)
  | .scr ns, .int i => (Res.of (atI (ns.map .int) i)).bind fun x => .ok (.fro x)
  | _, _ => .bad
section
variable {K : PySem.W.Frag} {T : Tab} {S H : Hp}
theorem DRs.atI {vs : List V} {ds : List D} {i : Int} {d : D} (h : DRs K T S vs ds) (e : L2.atI ds i = some d) : ∃ v, L2.atI vs i = some v ∧ DR K T S v d := by
  unfold L2.atI at e ⊢
  rw [h.length]
  cases q : ixN ds.length i with
  | none => rw [q] at e; cases e
  | some j =>
    rw [q] at e
    exact h.get e
theorem op_rIx : Op2 K T (fun x y H Q => rIxL K x y H Q ∨ rIxT K x y H Q) oIx := by
  intro π F S ρ σ H x y d e res Q R hx hy hg q
  cases d <;> first | (cases hg; done) | skip
  all_goals (cases e <;> first | (cases hg; done) | skip)
  all_goals (obtain ⟨z, e1, hg⟩ := Res.bind_eq hg; cases hg)
  · obtain ⟨a, vs, rfl, h1, h2⟩ := hx.tup
    obtain ⟨v, e2, h3⟩ := h2.atI (Res.of_eq e1)
    exact .inr ⟨a, vs, _, v, rfl, hy.int, sqT_same R.sS h1, e2, q S H v (Same.refl S) R h3⟩
  · obtain ⟨a, vs, rfl, h1, h2⟩ := hx.lst R.sS
    obtain ⟨v, e2, h3⟩ := h2.atI (Res.of_eq e1)
    exact .inl ⟨a, vs, _, v, rfl, hy.int, .of h1, e2, q S H v (Same.refl S) R h3⟩
  · obtain ⟨a, rfl, h1⟩ := hx.scr R.sS
    obtain ⟨v, e2, h3⟩ := (drs_ints _).atI (Res.of_eq e1)
    exact .inl ⟨a, _, _, v, rfl, hy.int, h1, e2, q S H v (Same.refl S) R h3⟩
end
theorem ee_sub_ {X : Cx} {T : Tab} {a b : Expr} {fa fb : EF} {pos : Pos} (ha : PE X a (SE X.K T fa)) (hb : PE X b (SE X.K T fb)) (hs : PlainIx b) : PE X (.Subscript a b pos) (SE X.K T (e2 oIx fa fb)) := ee_ix (ix_list.or ix_tup) op_rIx ha hb hs
end Dt
end

section
set_option Elab.async false
set_option linter.all false
set_option maxRecDepth 100000
set_option maxHeartbeats 4000000
set_option autoImplicit false
namespace Dt
open PySem PySem.Spec PyProof.Rows L2

/-! ### tests -/
def D.tru : D → Option Bool
  | .non => some false
  | .bl b => some b
  | .int i => some (i != 0)
  | .str x => if x.length ≤ sizeLine then some ((x.length : Int) != 0) else none
  | .tup xs => some (!xs.isEmpty)
  | .lst xs => some (!xs.isEmpty)
  | .scr ns => some (!ns.isEmpty)
  | _ => none
/-- an operand's data, then the rest; a test's answer, then the rest -/
def getD {β : Type} (f : EF) (k : D → Env → Res β) : Env → Res β := fun ρ => (f ρ).bind fun p => (Res.of (deref p.2 p.1.hold)).bind fun d => k d p.2
def getB {β : Type} (f : BF) (k : Bool → Env → Res β) : Env → Res β := fun ρ => (f ρ).bind fun p => k p.1 p.2
/-- an expression whose value is a bool, as a test; any value's truth -/
def bB (f : EF) : BF := getD f fun d ρ1 => match d with
  | .bl b => .ok (b, ρ1)
  | _ => .bad
def bT (f : EF) : BF := getD f fun d ρ1 => (Res.of d.tru).bind fun b => .ok (b, ρ1)
def bAnd (f g : BF) : BF := getB f fun b ρ1 => if b = true then g ρ1 else .ok (false, ρ1)
def bOr (f g : BF) : BF := getB f fun b ρ1 => if b = true then .ok (true, ρ1) else g ρ1
def bNot (f : BF) : BF := getB f fun b ρ1 => .ok (!b, ρ1)
def eIf (c : BF) (f g : EF) : EF := getB c fun b ρ1 => if b = true then f ρ1 else g ρ1
def eAnd (f g : EF) : EF := getD f fun d ρ1 => match d with
  | .bl b => if b = true then g ρ1 else .ok (.fro (.bl false), ρ1)
  | _ => .bad
def eOr (f g : EF) : EF := getD f fun d ρ1 => match d with
  | .bl b => if b = true then .ok (.fro (.bl true), ρ1) else g ρ1
  | _ => .bad
def eNot (f : EF) : EF := getD f fun d ρ1 => match d with
  | .bl b => .ok (.fro (.bl (!b)), ρ1)
  | _ => .bad
section
variable {K : PySem.W.Frag} {T : Tab} {fa : EF} {σ : L2.St} {H : Hp}
/-- an operand's data, then the rest -/
theorem SE.data {β : Type} {k : D → Env → Res β} {Q : VK} {π : L2.St} {F S : Hp} {ρ : Env} {out : β} (R : Rel K T π F S ρ σ H)
    (e : getD fa k ρ = .ok out)
    (h : ∀ S' H' ρ1 v d, Same S S' → Rel K T π F S' ρ1 σ H' → RD K T S' H' v d → k d ρ1 = .ok out → Q v H') : SE K T fa σ H Q := by
  obtain ⟨⟨x, ρ1⟩, ea, e⟩ := Res.bind_eq e
  obtain ⟨d, ed, e⟩ := Res.bind_eq e
  refine ⟨π, F, S, ρ, x, ρ1, R, ea, fun S1 H1 v s1 R1 rv => ?_⟩
  obtain ⟨S2, s2, R2, hv⟩ := rv.hold R1
  exact h S2 H1 ρ1 v d (s1.trans s2) R2 (hv.rd R2 (Res.of_eq ed)) e
theorem RD.tru {S : Hp} {v : V} {d : D} {b : Bool} (sS : Same S H) (h : RD K T S H v d) (e : d.tru = some b) : TruV K v H b := by
  cases d <;> first | (cases e; done) | skip
  · cases e; cases h.non; rfl
  · cases e; cases h.bl; rfl
  · cases e; cases h.int; rfl
  · rename_i x
    cases h.str
    have e : (if x.length ≤ sizeLine then some ((x.length : Int) != 0) else none) = some b := e
    by_cases hx : x.length ≤ sizeLine
    · rw [if_pos hx] at e
      cases e; exact ⟨hx, rfl⟩
    · rw [if_neg hx] at e
      cases e
  · cases e
    obtain ⟨a, vs, rfl, h1, h2⟩ := h.tup
    refine .inr (.inl ⟨vs, sqT_same sS h1, ?_⟩)
    cases h2 <;> rfl
  · cases e
    obtain ⟨a, vs, rfl, h1, h2⟩ := h.lst sS
    refine .inl ⟨vs, .of h1, ?_⟩
    cases h2 <;> rfl
  · cases e
    obtain ⟨a, rfl, h1⟩ := h.scr sS
    refine .inl ⟨_, h1, ?_⟩
    rename_i ns
    cases ns <;> rfl
end
section
variable {X : Cx} {T : Tab} {a b : Expr} {fa fb : EF} {p q : BF} {pos : Pos} {rest : List Expr}
theorem tt_B (h : PE X a (SE X.K T fa)) (he : ∀ whole, isTrue a X.env whole = (do let v ← whole; standAt a.pos; holding [v] (truthy v)) := by intro _; rfl) : PT X a (ST X.K T (bB fa)) := (pt_val h he).imp fun σ H Q ⟨π, F, S, ρ, b, ρ', R, e, q⟩ => by
  refine SE.data R e fun S' H' ρ1 v d s R' rd hk => ?_
  cases d <;> first | (cases hk; done) | skip
  cases hk
  cases rd.bl
  exact ⟨_, rfl, q S' H' s R'⟩
/-- a comparison as a test -/
theorem tt_cmp {op : CmpOp} {r : R2} {g : D → D → Res RV} (ho : OpR X (compareOp op) r) (hg : Op2 X.K T r g) (ha : PE X a (SE X.K T fa)) (hb : PE X b (SE X.K T fb)) (hm : behindInMarks op b = false) : PT X (.Compare a [op] [b] pos) (ST X.K T (bB (e2 g fa fb))) := (pt_cmpR ho ha hb hm).imp fun σ H Q ⟨π, F, S, ρ, b, ρ', R, e, q⟩ => by
  have h : SE X.K T (e2 g fa fb) σ H fun x H' => ∃ k, x = .bl k ∧ Q k H' := by
    refine SE.data R e fun S' H' ρ1 v d s R' rd hk => ?_
    cases d <;> first | (cases hk; done) | skip
    cases hk
    cases rd.bl
    exact ⟨_, rfl, q S' H' s R'⟩
  exact h.e2 hg
theorem tt_T (h : PE X a (SE X.K T fa)) (he : ∀ whole, isTrue a X.env whole = (do let v ← whole; standAt a.pos; holding [v] (truthy v)) := by intro _; rfl) : PT X a (ST X.K T (bT fa)) := (pt_truth h he).imp fun σ H Q ⟨π, F, S, ρ, b, ρ', R, e, q⟩ => by
  refine SE.data R e fun S' H' ρ1 v d s R' rd hk => ?_
  obtain ⟨b', e1, hk⟩ := Res.bind_eq hk
  cases hk
  exact ⟨_, rd.tru R'.sS (Res.of_eq e1), q S' H' s R'⟩
theorem ST.bind {K : PySem.W.Frag} {p : BF} {k : Bool → BF} {σ : L2.St} {H : Hp} {Q : Bool → Hp → Prop} (q : ST K T (getB p k) σ H Q) : ST K T p σ H fun b H1 => ST K T (k b) σ H1 Q := by
  obtain ⟨π, F, S, ρ, b, ρ', R, e, q⟩ := q
  obtain ⟨⟨b', ρ1⟩, e1, e⟩ := Res.bind_eq e
  exact ⟨π, F, S, ρ, b', ρ1, R, e1, fun S1 H1 s1 R1 => ⟨π, F, S1, ρ1, b, ρ', R1, e, fun S' H' s' R' => q S' H' (s1.trans s') R'⟩⟩
theorem ST.ok {K : PySem.W.Frag} {b : Bool} {σ : L2.St} {H : Hp} {Q : Bool → Hp → Prop} (q : ST K T (fun ρ => .ok (b, ρ)) σ H Q) : Q b H := by
  obtain ⟨π, F, S, ρ, b, ρ', R, e, q⟩ := q
  cases e
  exact q S H (Same.refl S) R
theorem ST.mono {K : PySem.W.Frag} {p : BF} {σ : L2.St} {H : Hp} {Q Q' : Bool → Hp → Prop} (q : ST K T p σ H Q) (h : ∀ b H, Q b H → Q' b H) : ST K T p σ H Q' := by
  obtain ⟨π, F, S, ρ, b, ρ', R, e, q⟩ := q
  exact ⟨π, F, S, ρ, b, ρ', R, e, fun S' H' s' R' => h _ _ (q S' H' s' R')⟩
theorem tw_and1 (ha : PT X a (ST X.K T p)) : PW X (.BoolOp .And [a] pos) (ST X.K T p) := pw_and1 ha
theorem tw_or1 (ha : PT X a (ST X.K T p)) : PW X (.BoolOp .Or [a] pos) (ST X.K T p) := pw_or1 ha
theorem tw_and (ha : PT X a (ST X.K T p)) (hb : PW X (.BoolOp .And (b :: rest) pos) (ST X.K T q)) : PW X (.BoolOp .And (a :: b :: rest) pos) (ST X.K T (bAnd p q)) := (pw_and ha hb).imp fun σ H Q h => by
  refine (ST.bind h).mono fun b H1 z => ?_
  cases b with
  | true => exact z
  | false => exact ST.ok z
theorem tw_or (ha : PT X a (ST X.K T p)) (hb : PW X (.BoolOp .Or (b :: rest) pos) (ST X.K T q)) : PW X (.BoolOp .Or (a :: b :: rest) pos) (ST X.K T (bOr p q)) := (pw_or ha hb).imp fun σ H Q h => by
  refine (ST.bind h).mono fun b H1 z => ?_
  cases b with
  | true => exact ST.ok z
  | false => exact z
theorem tt_not (ha : PT X a (ST X.K T p)) : PT X (.UnaryOp .Not a pos) (ST X.K T (bNot p)) := (pt_not ha).imp fun σ H Q h => by
  exact (ST.bind h).mono fun b H1 z => ST.ok z
/-- a test, then an expression -/
theorem ST.thenE {K : PySem.W.Frag} {p : BF} {k : Bool → EF} {σ : L2.St} {H : Hp} {Q : VK} (q : SE K T (getB p k) σ H Q) : ST K T p σ H fun b H1 => SE K T (k b) σ H1 Q := by
  obtain ⟨π, F, S, ρ, r, ρ', R, e, q⟩ := q
  obtain ⟨⟨b', ρ1⟩, e1, e⟩ := Res.bind_eq e
  exact ⟨π, F, S, ρ, b', ρ1, R, e1, fun S1 H1 s1 R1 => ⟨π, F, S1, ρ1, r, ρ', R1, e, fun S' H' v s' R' => q S' H' v (s1.trans s') R'⟩⟩
theorem ee_if {c : Expr} (hc : PT X c (ST X.K T p)) (ha : PE X a (SE X.K T fa)) (hb : PE X b (SE X.K T fb)) : PE X (.IfExp c a b pos) (SE X.K T (eIf p fa fb)) := (pe_ifExp hc ha hb).imp fun σ H Q h => by
  refine (ST.thenE h).mono fun b H1 z => ?_
  cases b with
  | true => exact z
  | false => exact z
theorem ee_one {op} (ha : PE X a (SE X.K T fa)) : PE X (.BoolOp op [a] pos) (SE X.K T fa) := pe_one ha
theorem ee_and (ha : PE X a (SE X.K T fa)) (hb : PE X (.BoolOp .And (b :: rest) pos) (SE X.K T fb)) : PE X (.BoolOp .And (a :: b :: rest) pos) (SE X.K T (eAnd fa fb)) := (pe_and ha hb).imp fun σ H Q ⟨π, F, S, ρ, r, ρ', R, e, q⟩ => by
  refine SE.data R e fun S' H' ρ1 v d s R' rd hk => ?_
  cases d <;> first | (cases hk; done) | skip
  rename_i c
  cases rd.bl
  refine ⟨c, rfl, ?_⟩
  cases c with
  | true => exact ⟨π, F, S', ρ1, r, ρ', R', hk, fun S'' H'' w s'' R'' => q S'' H'' w (s.trans s'') R''⟩
  | false => cases hk; exact q S' H' _ s R' (.bl false)
theorem ee_or (ha : PE X a (SE X.K T fa)) (hb : PE X (.BoolOp .Or (b :: rest) pos) (SE X.K T fb)) : PE X (.BoolOp .Or (a :: b :: rest) pos) (SE X.K T (eOr fa fb)) := (pe_or ha hb).imp fun σ H Q ⟨π, F, S, ρ, r, ρ', R, e, q⟩ => by
  refine SE.data R e fun S' H' ρ1 v d s R' rd hk => ?_
  cases d <;> first | (cases hk; done) | skip
  rename_i c
  cases rd.bl
  refine ⟨c, rfl, ?_⟩
  cases c with
  | false => exact ⟨π, F, S', ρ1, r, ρ', R', hk, fun S'' H'' w s'' R'' => q S'' H'' w (s.trans s'') R''⟩
  | true => cases hk; exact q S' H' _ s R' (.bl true)
theorem ee_not (ha : PE X a (SE X.K T fa)) : PE X (.UnaryOp .Not a pos) (SE X.K T (eNot fa)) := (pe_not ha).imp fun σ H Q ⟨π, F, S, ρ, r, ρ', R, e, q⟩ => by
  refine SE.data R e fun S' H' ρ1 v d s R' rd hk => ?_
  cases d <;> first | (cases hk; done) | skip
  rename_i c
  cases rd.bl
  cases hk
  exact ⟨c, rfl, q S' H' _ s R' (.bl _)⟩
end

/-! ### a chain of two -/
def eChain (g g' : D → D → Res RV) (fa fb fc : EF) : EF := fun ρ => (fa ρ).bind fun (x, ρ1) => (fb ρ1).bind fun (y, ρ2) => (Res.of (deref ρ2 x.hold)).bind fun d => (Res.of (deref ρ2 y.hold)).bind fun e => (g d e).bind fun r => match r with
  | .fro (.bl b) => if b = true then (fc ρ2).bind fun (z, ρ3) => (Res.of (deref ρ3 y.hold)).bind fun e => (Res.of (deref ρ3 z.hold)).bind fun h => (g' e h).bind fun r => .ok (r, ρ3) else .ok (.fro (.bl false), ρ2)
  | _ => .bad
section
variable {K : PySem.W.Frag} {T : Tab}
theorem SE.chain {fa fb fc : EF} {g g' : D → D → Res RV} {r r' : R2} (h : Op2 K T r g) (h' : Op2 K T r' g') {σ : L2.St} {H : Hp} {Q : VK} (q : SE K T (eChain g g' fa fb fc) σ H Q) : tChain r r' (SE K T fa) (SE K T fb) (SE K T fc) σ H Q := by
  obtain ⟨π, F, S, ρ, res, ρ', R, e, q⟩ := q
  obtain ⟨⟨x, ρ1⟩, ea, e⟩ := Res.bind_eq e
  obtain ⟨⟨y, ρ2⟩, eb, e⟩ := Res.bind_eq e
  obtain ⟨d, ed, e⟩ := Res.bind_eq e
  obtain ⟨d', ed', e⟩ := Res.bind_eq e
  obtain ⟨res', eg, e⟩ := Res.bind_eq e
  refine ⟨π, F, S, ρ, x, ρ1, R, ea, fun S1 H1 v s1 R1 rv => ?_⟩
  obtain ⟨S2, s2, R2, hv⟩ := rv.hold R1
  refine ⟨π, F, S2, ρ1, y, ρ2, R2, eb, fun S3 H3 u s3 R3 ru => ?_⟩
  obtain ⟨S4, s4, R4, hu⟩ := ru.hold R3
  refine h π F S4 ρ2 σ H3 v u d d' res' _ R4 ((hv.mono (s3.trans s4)).rd R4 (Res.of_eq ed)) (hu.rd R4 (Res.of_eq ed')) eg fun S5 H5 w s5 R5 rw' => ?_
  cases res' <;> first | (cases e; done) | skip
  rename_i z
  cases z <;> first | (cases e; done) | skip
  rename_i c
  cases (show DR K T S5 w (.bl c) from rw')
  refine ⟨c, rfl, ?_⟩
  cases c with
  | false =>
    cases e
    exact q S5 H5 _ (s1.trans (s2.trans (s3.trans (s4.trans s5)))) R5 (.bl false)
  | true =>
    obtain ⟨⟨z, ρ3⟩, ec, e⟩ := Res.bind_eq e
    obtain ⟨d1, ed1, e⟩ := Res.bind_eq e
    obtain ⟨d2, ed2, e⟩ := Res.bind_eq e
    obtain ⟨res2, eg2, e⟩ := Res.bind_eq e
    cases e
    refine ⟨π, F, S5, ρ2, z, _, R5, ec, fun S6 H6 t s6 R6 rt => ?_⟩
    obtain ⟨S7, s7, R7, ht⟩ := rt.hold R6
    exact h' π F S7 _ σ H6 u t d1 d2 res Q R7 ((hu.mono (s5.trans (s6.trans s7))).rd R7 (Res.of_eq ed1)) (ht.rd R7 (Res.of_eq ed2)) eg2 fun S' H' w s' R' rw' => q S' H' w (s1.trans (s2.trans (s3.trans (s4.trans (s5.trans (s6.trans (s7.trans s'))))))) R' rw'
end
section
variable {X : Cx} {T : Tab} {a b c : Expr} {fa fb fc : EF} {pos : Pos}
theorem ee_chain {op op' : CmpOp} {r r' : R2} {g g' : D → D → Res RV} (ho : OpR X (compareOp op) r) (hg : Op2 X.K T r g) (ho' : OpR X (compareOp op') r') (hg' : Op2 X.K T r' g') (ha : PE X a (SE X.K T fa)) (hb : PE X b (SE X.K T fb)) (hc : PE X c (SE X.K T fc))
    (hm : lastMarks [op, op'] [b, c] = false := by with_unfolding_all rfl) : PE X (.Compare a [op, op'] [b, c] pos) (SE X.K T (eChain g g' fa fb fc)) := (pe_chain ho ho' ha hb hc hm).imp fun _ _ _ q => SE.chain hg hg' q
theorem tt_chain {op op' : CmpOp} {r r' : R2} {g g' : D → D → Res RV} (ho : OpR X (compareOp op) r) (hg : Op2 X.K T r g) (ho' : OpR X (compareOp op') r') (hg' : Op2 X.K T r' g') (ha : PE X a (SE X.K T fa)) (hb : PE X b (SE X.K T fb)) (hc : PE X c (SE X.K T fc))
    (hm : lastMarks [op, op'] [b, c] = false := by with_unfolding_all rfl) : PT X (.Compare a [op, op'] [b, c] pos) (ST X.K T (bB (eChain g g' fa fb fc))) := (pt_chain ho ho' ha hb hc hm).imp fun σ H Q ⟨π, F, S, ρ, b, ρ', R, e, q⟩ => by
  have h : SE X.K T (eChain g g' fa fb fc) σ H fun x H' => ∃ k, x = .bl k ∧ Q k H' := by
    refine SE.data R e fun S' H' ρ1 v d s R' rd hk => ?_
    cases d <;> first | (cases hk; done) | skip
    cases hk
    cases rd.bl
    exact ⟨_, rfl, q S' H' s R'⟩
  exact SE.chain hg hg' h
theorem ee_lele (ha : PE X a (SE X.K T fa)) (hb : PE X b (SE X.K T fb)) (hc : PE X c (SE X.K T fc)) (hm : lastMarks [.LtE, .LtE] [b, c] = false := by with_unfolding_all rfl) : PE X (.Compare a [.LtE, .LtE] [b, c] pos) (SE X.K T (eChain oLe oLe fa fb fc)) := ee_chain op_le op_rB0 op_le op_rB0 ha hb hc hm
theorem tt_lele (ha : PE X a (SE X.K T fa)) (hb : PE X b (SE X.K T fb)) (hc : PE X c (SE X.K T fc)) (hm : lastMarks [.LtE, .LtE] [b, c] = false := by with_unfolding_all rfl) : PT X (.Compare a [.LtE, .LtE] [b, c] pos) (ST X.K T (bB (eChain oLe oLe fa fb fc))) := tt_chain op_le op_rB0 op_le op_rB0 ha hb hc hm
theorem tt_lt (ha : PE X a (SE X.K T fa)) (hb : PE X b (SE X.K T fb)) : PT X (.Compare a [.Lt] [b] pos) (ST X.K T (bB (e2 oLt fa fb))) := tt_cmp op_lt op_rB0 ha hb (nomark _)
theorem tt_le (ha : PE X a (SE X.K T fa)) (hb : PE X b (SE X.K T fb)) : PT X (.Compare a [.LtE] [b] pos) (ST X.K T (bB (e2 oLe fa fb))) := tt_cmp op_le op_rB0 ha hb (nomark _)
theorem tt_gt (ha : PE X a (SE X.K T fa)) (hb : PE X b (SE X.K T fb)) : PT X (.Compare a [.Gt] [b] pos) (ST X.K T (bB (e2 oGt fa fb))) := tt_cmp op_gt op_rB0 ha hb (nomark _)
theorem tt_ge (ha : PE X a (SE X.K T fa)) (hb : PE X b (SE X.K T fb)) : PT X (.Compare a [.GtE] [b] pos) (ST X.K T (bB (e2 oGe fa fb))) := tt_cmp op_ge op_rB0 ha hb (nomark _)
theorem tt_eq (hu : X.A.units + 64 < cLine) (ha : PE X a (SE X.K T fa)) (hb : PE X b (SE X.K T fb)) : PT X (.Compare a [.Eq] [b] pos) (ST X.K T (bB (e2 oEq fa fb))) := tt_cmp (op_eqD hu) op_rEqD ha hb (nomark _)
theorem tt_ne (hu : X.A.units + 64 < cLine) (ha : PE X a (SE X.K T fa)) (hb : PE X b (SE X.K T fb)) : PT X (.Compare a [.NotEq] [b] pos) (ST X.K T (bB (e2 oNe fa fb))) := tt_cmp (op_neD hu) op_rNeD ha hb (nomark _)
theorem tt_in (ha : PE X a (SE X.K T fa)) (hb : PE X b (SE X.K T fb)) (hm : behindInMarks .In b = false) : PT X (.Compare a [.In] [b] pos) (ST X.K T (bB (e2 (oIn false) fa fb))) := tt_cmp op_in_seq op_rIn ha hb hm
theorem tt_notIn (ha : PE X a (SE X.K T fa)) (hb : PE X b (SE X.K T fb)) (hm : behindInMarks .NotIn b = false) : PT X (.Compare a [.NotIn] [b] pos) (ST X.K T (bB (e2 (oIn true) fa fb))) := tt_cmp op_notIn_seq op_rIn ha hb hm
theorem tt_isN (ha : PE X a (SE X.K T fa)) (hb : PE X b (SE X.K T fb)) : PT X (.Compare a [.Is] [b] pos) (ST X.K T (bB (e2 oIsN fa fb))) := tt_cmp op_isN (by
  intro π F S ρ σ H x y d e res Q R hx hy hg q
  cases e <;> first | (cases hg; done) | skip
  cases hg
  exact ⟨hy.non, by rw [hx.isN]; exact q S H _ (Same.refl S) R (.bl _)⟩) ha hb (nomark _)
theorem tt_notN (ha : PE X a (SE X.K T fa)) (hb : PE X b (SE X.K T fb)) : PT X (.Compare a [.IsNot] [b] pos) (ST X.K T (bB (e2 oNotN fa fb))) := tt_cmp op_notN (by
  intro π F S ρ σ H x y d e res Q R hx hy hg q
  cases e <;> first | (cases hg; done) | skip
  cases hg
  exact ⟨hy.non, by rw [hx.isN]; exact q S H _ (Same.refl S) R (.bl _)⟩) ha hb (nomark _)
end

/-! ### argument lists -/
def aNil : AF := fun ρ => .ok ([], ρ)
def aCons (f : EF) (g : AF) : AF := fun ρ => (f ρ).bind fun (x, ρ1) => (g ρ1).bind fun (xs, ρ2) => .ok (x.hold :: xs, ρ2)
def aStar (f : EF) (g : AF) : AF := getD f fun d ρ1 => (Res.of d.items).bind fun ds => (g ρ1).bind fun p => .ok (ds.map .fro ++ p.1, p.2)
/-- data of held results -/
def frozen : List RV → Option (List D)
  | [] => some []
  | .fro d :: r => (frozen r).map (d :: ·)
  | _ :: _ => none
def derefs (ρ : Env) : List RV → Option (List D)
  | [] => some []
  | r :: rs => match deref ρ r, derefs ρ rs with
    | some d, some ds => some (d :: ds)
    | _, _ => none
section
variable {K : PySem.W.Frag} {T : Tab} {π σ : L2.St} {F S H : Hp} {ρ : Env}
theorem HeldAll.frozen : ∀ {vs : List V} {rs : List RV} {ds : List D}, HeldAll K T S σ vs rs → frozen rs = some ds → DRs K T S vs ds
  | _, _, _, .nil, e => by cases e; exact .nil
  | v :: vs, r :: rs, ds, .cons h q, e => by
    cases r with
    | fro d =>
      unfold Dt.frozen at e
      obtain ⟨ds', e1, rfl⟩ := Option.map_eq_some_iff.mp e
      exact .cons h (HeldAll.frozen q e1)
    | own d => exact h.elim
    | bor i => cases e
inductive RDs (K : PySem.W.Frag) (T : Tab) (S H : Hp) : List V → List D → Prop
  | nil : RDs K T S H [] []
  | cons {v : V} {vs : List V} {d : D} {ds : List D} : RD K T S H v d → RDs K T S H vs ds → RDs K T S H (v :: vs) (d :: ds)
theorem HeldAll.rds (R : Rel K T π F S ρ σ H) : ∀ {vs : List V} {rs : List RV} {ds : List D}, HeldAll K T S σ vs rs → derefs ρ rs = some ds → RDs K T S H vs ds
  | _, _, _, .nil, e => by cases e; exact .nil
  | v :: vs, r :: rs, ds, .cons h q, e => by
    unfold derefs at e
    split at e
    · rename_i d ds' e1 e2
      cases e
      exact .cons (h.rd R e1) (HeldAll.rds R q e2)
    · cases e
theorem HeldAll.fros : ∀ {vs : List V} {ds : List D}, DRs K T S vs ds → HeldAll K T S σ vs (ds.map .fro)
  | _, _, .nil => .nil
  | _, _, .cons h r => .cons h (HeldAll.fros r)
theorem HeldAll.append : ∀ {vs ws : List V} {rs qs : List RV}, HeldAll K T S σ vs rs → HeldAll K T S σ ws qs → HeldAll K T S σ (vs ++ ws) (rs ++ qs)
  | _, _, _, _, .nil, r => r
  | _, _, _, _, .cons h q, r => .cons h (HeldAll.append q r)
end
section
variable {X : Cx} {T : Tab} {e : Expr} {es : List Expr} {f : EF} {g : AF} {pos : Pos}
theorem aa_nil : PA X [] (SA X.K T aNil) := pa_nil.imp fun σ H Q ⟨π, F, S, ρ, rs, ρ', R, e, q⟩ => by
  cases e
  exact q S H [] (Same.refl S) R .nil
theorem aa_cons (ha : PE X e (SE X.K T f)) (hr : PA X es (SA X.K T g)) (hs : starEach (e :: es) X.env = (false, eval e X.env) :: starEach es X.env := by rfl) : PA X (e :: es) (SA X.K T (aCons f g)) := (pa_cons ha hr hs).imp fun σ H Q ⟨π, F, S, ρ, rs, ρ', R, e, q⟩ => by
  obtain ⟨⟨x, ρ1⟩, ea, e⟩ := Res.bind_eq e
  obtain ⟨⟨xs, ρ2⟩, eb, e⟩ := Res.bind_eq e
  cases e
  refine ⟨π, F, S, ρ, x, ρ1, R, ea, fun S1 H1 v s1 R1 rv => ?_⟩
  obtain ⟨S2, s2, R2, hv⟩ := rv.hold R1
  exact ⟨π, F, S2, ρ1, xs, _, R2, eb, fun S' H' vs s' R' hvs => q S' H' (v :: vs) (s1.trans (s2.trans s')) R' (.cons (hv.mono s') hvs)⟩
theorem aa_star {sp : Pos} (ha : PE X e (SE X.K T f)) (hr : PA X es (SA X.K T g)) (hs : starEach (.Starred e sp :: es) X.env = (true, eval e X.env) :: starEach es X.env := by rfl) : PA X (.Starred e sp :: es) (SA X.K T (aStar f g)) := (StX.pa_star ha hr hs).imp fun σ H Q ⟨π, F, S, ρ, rs, ρ', R, e, q⟩ => by
  refine SE.data R e fun S' H' ρ1 v d s R' rd hk => ?_
  obtain ⟨ds, ed, hk⟩ := Res.bind_eq hk
  obtain ⟨⟨xs, ρ2⟩, eb, hk⟩ := Res.bind_eq hk
  cases hk
  obtain ⟨a, vs, rfl, h1, h2⟩ := rd.items R'.sS (Res.of_eq ed)
  exact ⟨a, vs, rfl, h1.elim .inr .inl, π, F, S', ρ1, xs, _, R', eb, fun S'' H'' ws s'' R'' hws => q S'' H'' (vs ++ ws) (s.trans s'') R'' ((HeldAll.fros (h2.mono s'')).append hws)⟩
end

/-! ### displays -/
def eTup (g : AF) : EF := fun ρ => (g ρ).bind fun (rs, ρ1) => (Res.of (frozen rs)).bind fun ds => if ds.length ≤ sizeLine then .ok (.fro (.tup ds), ρ1) else .bad
def eLst (g : AF) : EF := fun ρ => (g ρ).bind fun (rs, ρ1) => (Res.of (frozen rs)).bind fun ds => if ds.length ≤ sizeLine then .ok (.own (.lst ds), ρ1) else .bad
section
variable {K : PySem.W.Frag} {T : Tab} {π σ : L2.St} {F S H : Hp} {ρ : Env} {p : Addr} {vs : List V} {ds : List D}
/-- a new tuple -/
theorem new_tup (R : Rel K T π F S ρ σ H) (h : DRs K T S vs ds) (hp : H p = none) : Same S (upd S p (.tup vs)) ∧ Rel K T π F (upd S p (.tup vs)) ρ σ (upd H p (.tup vs)) ∧ RVR K T F (upd S p (.tup vs)) (upd H p (.tup vs)) ρ σ (.ref p) (.fro (.tup ds)) := by
  have s := same_upd (o := HO.tup vs) (same_none R.sS hp)
  exact ⟨s, R.allocF hp (fun ps z => by cases z), .tup (.of upd_same) (h.mono s)⟩
theorem new_lst (R : Rel K T π F S ρ σ H) (h : DRs K T S vs ds) (hp : H p = none) : Rel K T π F S ρ σ (upd H p (.lst vs)) ∧ RVR K T F S (upd H p (.lst vs)) ρ σ (.ref p) (.own (.lst ds)) :=
  ⟨R.alloc hp, p, rfl, ⟨same_none R.sS hp, same_none R.sF hp, vs, upd_same, h⟩, R.apart hp⟩
end
section
variable {X : Cx} {T : Tab} {es : List Expr} {g : AF} {pos : Pos}
theorem ee_tup {k} (h : PA X es (SA X.K T g)) : PE X (.Tuple es k pos) (SE X.K T (eTup g)) := (pe_tup h).imp fun σ H Q ⟨π, F, S, ρ, r, ρ', R, e, q⟩ => by
  obtain ⟨⟨rs, ρ1⟩, ea, e⟩ := Res.bind_eq e
  obtain ⟨ds, ed, e⟩ := Res.bind_eq e
  split at e
  · rename_i hl
    cases e
    refine ⟨π, F, S, ρ, rs, _, R, ea, fun S1 H1 vs s1 R1 hv => ?_⟩
    have hd := hv.frozen (Res.of_eq ed)
    refine ⟨by rw [hd.length]; exact hl, fun p hp => ?_⟩
    obtain ⟨s2, R2, rv⟩ := new_tup R1 hd hp
    exact q _ _ _ (s1.trans s2) R2 rv
  · cases e
theorem ee_lst (h : PA X es (SA X.K T g)) : PE X (.List es pos) (SE X.K T (eLst g)) := (pe_lst h).imp fun σ H Q ⟨π, F, S, ρ, r, ρ', R, e, q⟩ => by
  obtain ⟨⟨rs, ρ1⟩, ea, e⟩ := Res.bind_eq e
  obtain ⟨ds, ed, e⟩ := Res.bind_eq e
  split at e
  · rename_i hl
    cases e
    refine ⟨π, F, S, ρ, rs, _, R, ea, fun S1 H1 vs s1 R1 hv => ?_⟩
    have hd := hv.frozen (Res.of_eq ed)
    refine ⟨by rw [hd.length]; exact hl, fun p hp => ?_⟩
    obtain ⟨R2, rv⟩ := new_lst R1 hd hp
    exact q _ _ _ s1 R2 rv
  · cases e
end

/-! ### built-in calls -/
/-- a built-in call by data -/
def eCB (g : List D → Res RV) (f : AF) : EF := fun ρ => (f ρ).bind fun (rs, ρ1) => (Res.of (derefs ρ1 rs)).bind fun ds => (g ds).bind fun r => .ok (r, ρ1)
def OpC (K : PySem.W.Frag) (T : Tab) (r : List V → Hp → VK → Prop) (g : List D → Res RV) : Prop :=
  ∀ π F S ρ σ H xs ds res Q, Rel K T π F S ρ σ H → RDs K T S H xs ds → g ds = .ok res → (∀ S' H' v, Same S S' → Rel K T π F S' ρ σ H' → RVR K T F S' H' ρ σ v res → Q v H') → r xs H Q
theorem SA.cb {K : PySem.W.Frag} {T : Tab} {f : AF} {g : List D → Res RV} {r : List V → Hp → VK → Prop} (h : OpC K T r g) {σ : L2.St} {H : Hp} {Q : VK} (q : SE K T (eCB g f) σ H Q) : SA K T f σ H fun vs H1 => r vs H1 Q := by
  obtain ⟨π, F, S, ρ, res, ρ', R, e, q⟩ := q
  obtain ⟨⟨rs, ρ1⟩, ea, e⟩ := Res.bind_eq e
  obtain ⟨ds, ed, e⟩ := Res.bind_eq e
  obtain ⟨res', eg, e⟩ := Res.bind_eq e
  cases e
  exact ⟨π, F, S, ρ, rs, _, R, ea, fun S1 H1 vs s1 R1 hv => h π F S1 _ σ H1 vs ds res Q R1 (hv.rds R1 (Res.of_eq ed)) eg fun S' H' v s' R' rv => q S' H' v (s1.trans s') R' rv⟩
section
variable {X : Cx} {T : Tab} {x id Ty : Str} {bid Tn : String} {p pos : Pos} {e : Expr} {es : List Expr} {f : AF} {r : List V → Hp → VK → Prop} {g : List D → Res RV}
theorem ee_callB (hc : CallR X (.builtin bid) r) (ho : OpC X.K T r g) (hg : Gl X x) (hm : X.mg x = none) (hv : bootBuiltins x = some (.builtin bid)) (ha : PA X (e :: es) (SA X.K T f)) (hn : x ≠ "__name__" := by decide) (hdb : (x == ("__debug__" : Str)) = false := by decide)
    (he : starEach (e :: es) X.env = (false, eval e X.env) :: starEach es X.env := by rfl) (hpl : (backTo pos (starEach es X.env)).any (·.1) = false := by rfl) : PE X (.Call (.Name x p) (e :: es) [] pos) (SE X.K T (eCB g f)) := (pe_callB hc hg hm hv ha hn hdb he hpl).imp fun _ _ _ q => SA.cb ho q
theorem ee_callTy (hc : CallR X (.type Tn) r) (ho : OpC X.K T r g) (hg : Gl X x) (hm : X.mg x = none) (hv : bootBuiltins x = some (.type Tn)) (ha : PA X (e :: es) (SA X.K T f)) (hn : x ≠ "__name__" := by decide) (hdb : (x == ("__debug__" : Str)) = false := by decide)
    (he : starEach (e :: es) X.env = (false, eval e X.env) :: starEach es X.env := by rfl) (hpl : (backTo pos (starEach es X.env)).any (·.1) = false := by rfl) : PE X (.Call (.Name x p) (e :: es) [] pos) (SE X.K T (eCB g f)) := (pe_callTy hc hg hm hv ha hn hdb he hpl).imp fun _ _ _ q => SA.cb ho q
end
def c1 (g : D → Res RV) : List D → Res RV
  | [d] => g d
  | _ => .bad
def c2 (g : D → D → Res RV) : List D → Res RV
  | [d, e] => g d e
  | _ => .bad
def oLen : D → Res RV := fun d => (Res.of d.items).bind fun xs => .ok (.fro (.int xs.length))
def oIntOf : D → Res RV
  | .int i => .ok (.fro (.int i))
  | .bl b => .ok (.fro (.int (if b then 1 else 0)))
  | _ => .bad
def oMin2 : D → D → Res RV := gInt fun i j => .ok (.fro (.int (if j < i then j else i)))
def oMax2 : D → D → Res RV := gInt fun i j => .ok (.fro (.int (if j > i then j else i)))
def oAbs : D → Res RV
  | .int i => .ok (.fro (.int (if i < 0 then -i else i)))
  | _ => .bad
def oListOf : D → Res RV := fun d => (Res.of d.items).bind fun xs => .ok (.own (.lst xs))
def oTupOf : D → Res RV
  | .lst xs => .ok (.fro (.tup xs))
  | .tup xs => .ok (.fro (.tup xs))
  | _ => .bad
section
variable {K : PySem.W.Frag} {T : Tab} {S H : Hp}
theorem RDs.one {vs : List V} {d : D} (h : RDs K T S H vs [d]) : ∃ v, vs = [v] ∧ RD K T S H v d := by
  cases h with
  | cons h r => cases r; exact ⟨_, rfl, h⟩
theorem RDs.two {vs : List V} {d e : D} (h : RDs K T S H vs [d, e]) : ∃ v w, vs = [v, w] ∧ RD K T S H v d ∧ RD K T S H w e := by
  cases h with
  | cons h r =>
    obtain ⟨w, rfl, h'⟩ := r.one
    exact ⟨_, w, rfl, h, h'⟩
theorem opC1 {r : List V → Hp → VK → Prop} {g : D → Res RV} (h : Op1 K T (fun x H Q => r [x] H Q) g) : OpC K T r (c1 g) := by
  intro π F S ρ σ H xs ds res Q R hx hg q
  match ds, hx, hg with
  | [d], hx, hg =>
    obtain ⟨v, rfl, hv⟩ := hx.one
    exact h π F S ρ σ H v d res Q R hv hg q
theorem opC2 {r : List V → Hp → VK → Prop} {g : D → D → Res RV} (h : Op2 K T (fun x y H Q => r [x, y] H Q) g) : OpC K T r (c2 g) := by
  intro π F S ρ σ H xs ds res Q R hx hg q
  match ds, hx, hg with
  | [d, e], hx, hg =>
    obtain ⟨v, w, rfl, hv, hw⟩ := hx.two
    exact h π F S ρ σ H v w d e res Q R hv hw hg q
end
section
variable {X : Cx} {T : Tab} {x : Str} {p pos : Pos} {a b : Expr} {es : List Expr} {f : AF}
theorem oc_len : OpC X.K T (fun xs H Q => ∃ p ys, xs = [.ref p] ∧ (SqL X.K H p ys ∨ SqT X.K H p ys) ∧ Q (.int ys.length) H) (c1 oLen) := opC1 (by
  intro π F S ρ σ H x d res Q R hx hg q
  obtain ⟨xs, e1, hg⟩ := Res.bind_eq hg
  cases hg
  obtain ⟨a, vs, rfl, h1, h2⟩ := hx.items R.sS (Res.of_eq e1)
  exact ⟨a, vs, rfl, h1, by rw [h2.length]; exact q S H _ (Same.refl S) R (.int _)⟩)
theorem oc_int : OpC X.K T (fun xs H Q => (∃ i, xs = [.int i] ∧ Q (.int i) H) ∨ ∃ k, xs = [.bl k] ∧ Q (.int (if k then 1 else 0)) H) (c1 oIntOf) := opC1 (by
  intro π F S ρ σ H x d res Q R hx hg q
  cases d <;> first | (cases hg; done) | skip
  · cases hg
    cases hx.bl
    exact .inr ⟨_, rfl, q S H _ (Same.refl S) R (.int _)⟩
  · cases hg
    cases hx.int
    exact .inl ⟨_, rfl, q S H _ (Same.refl S) R (.int _)⟩)
theorem oc_min2 : OpC X.K T (fun xs H Q => ∃ i j, xs = [.int i, .int j] ∧ Q (.int (if j < i then j else i)) H) (c2 oMin2) := opC2 (by
  intro π F S ρ σ H x y d e res Q R hx hy hg q
  cases d <;> first | (cases hg; done) | skip
  cases e <;> first | (cases hg; done) | skip
  cases hg
  cases hx.int
  cases hy.int
  exact ⟨_, _, rfl, q S H _ (Same.refl S) R (.int _)⟩)
theorem oc_max2 : OpC X.K T (fun xs H Q => ∃ i j, xs = [.int i, .int j] ∧ Q (.int (if j > i then j else i)) H) (c2 oMax2) := opC2 (by
  intro π F S ρ σ H x y d e res Q R hx hy hg q
  cases d <;> first | (cases hg; done) | skip
  cases e <;> first | (cases hg; done) | skip
  cases hg
  cases hx.int
  cases hy.int
  exact ⟨_, _, rfl, q S H _ (Same.refl S) R (.int _)⟩)
theorem oc_list : OpC X.K T (fun xs H Q => ∃ p ys, xs = [.ref p] ∧ (SqL X.K H p ys ∨ SqT X.K H p ys) ∧ ∀ l, H l = none → Q (.ref l) (upd H l (.lst ys))) (c1 oListOf) := opC1 (by
  intro π F S ρ σ H x d res Q R hx hg q
  obtain ⟨xs, e1, hg⟩ := Res.bind_eq hg
  cases hg
  obtain ⟨a, vs, rfl, h1, h2⟩ := hx.items R.sS (Res.of_eq e1)
  refine ⟨a, vs, rfl, h1, fun l hl => ?_⟩
  obtain ⟨R2, rv⟩ := new_lst R h2 hl
  exact q _ _ _ (Same.refl S) R2 rv)
theorem oc_tuple : OpC X.K T (fun xs H Q => ∃ p ys, xs = [.ref p] ∧ ((SqL X.K H p ys ∧ ∀ l, H l = none → Q (.ref l) (upd H l (.tup ys))) ∨ (SqT X.K H p ys ∧ Q (.ref p) H))) (c1 oTupOf) := opC1 (by
  intro π F S ρ σ H x d res Q R hx hg q
  cases d <;> first | (cases hg; done) | skip
  · cases hg
    obtain ⟨a, vs, rfl, h1, h2⟩ := hx.tup
    exact ⟨a, vs, rfl, .inr ⟨sqT_same R.sS h1, q S H _ (Same.refl S) R (.tup h1 h2)⟩⟩
  · cases hg
    obtain ⟨a, vs, rfl, h1, h2⟩ := hx.lst R.sS
    refine ⟨a, vs, rfl, .inl ⟨.of h1, fun l hl => ?_⟩⟩
    obtain ⟨s2, R2, rv⟩ := new_tup R h2 hl
    exact q _ _ _ s2 R2 rv)
theorem ee_len (hg : Gl X "len") (hm : X.mg "len" = none) (ha : PA X [a] (SA X.K T f)) (he : starEach [a] X.env = (false, eval a X.env) :: starEach [] X.env := by rfl) : PE X (.Call (.Name "len" p) [a] [] pos) (SE X.K T (eCB (c1 oLen) f)) := ee_callB call_len_seq oc_len hg hm PySem.boot_len ha (he := he)
theorem ee_int_ (hg : Gl X "int") (hm : X.mg "int" = none) (ha : PA X [a] (SA X.K T f)) (he : starEach [a] X.env = (false, eval a X.env) :: starEach [] X.env := by rfl) : PE X (.Call (.Name "int" p) [a] [] pos) (SE X.K T (eCB (c1 oIntOf) f)) := ee_callTy call_int1 oc_int hg hm (by decide +kernel) ha (he := he)
theorem ee_min2 (hc : X.calm = true) (hg : Gl X "min") (hm : X.mg "min" = none) (ha : PA X [a, b] (SA X.K T f)) (he : starEach [a, b] X.env = (false, eval a X.env) :: starEach [b] X.env := by rfl) (hpl : (backTo pos (starEach [b] X.env)).any (·.1) = false := by rfl) : PE X (.Call (.Name "min" p) [a, b] [] pos) (SE X.K T (eCB (c2 oMin2) f)) := ee_callB (call_min2 hc) oc_min2 hg hm (by decide +kernel) ha (he := he) (hpl := hpl)
theorem ee_max2 (hc : X.calm = true) (hg : Gl X "max") (hm : X.mg "max" = none) (ha : PA X [a, b] (SA X.K T f)) (he : starEach [a, b] X.env = (false, eval a X.env) :: starEach [b] X.env := by rfl) (hpl : (backTo pos (starEach [b] X.env)).any (·.1) = false := by rfl) : PE X (.Call (.Name "max" p) [a, b] [] pos) (SE X.K T (eCB (c2 oMax2) f)) := ee_callB (call_max2 hc) oc_max2 hg hm (by decide +kernel) ha (he := he) (hpl := hpl)
theorem ee_list (hg : Gl X "list") (hm : X.mg "list" = none) (ha : PA X [a] (SA X.K T f)) (he : starEach [a] X.env = (false, eval a X.env) :: starEach [] X.env := by rfl) : PE X (.Call (.Name "list" p) [a] [] pos) (SE X.K T (eCB (c1 oListOf) f)) := ee_callTy call_list_of oc_list hg hm (by decide +kernel) ha (he := he)
theorem ee_tuple (hg : Gl X "tuple") (hm : X.mg "tuple" = none) (ha : PA X [a] (SA X.K T f)) (he : starEach [a] X.env = (false, eval a X.env) :: starEach [] X.env := by rfl) : PE X (.Call (.Name "tuple" p) [a] [] pos) (SE X.K T (eCB (c1 oTupOf) f)) := ee_callTy call_tuple_of oc_tuple hg hm (by decide +kernel) ha (he := he)
end
end Dt
end

section
set_option Elab.async false
set_option linter.all false
set_option maxRecDepth 100000
set_option maxHeartbeats 4000000
namespace Dt
open PySem PySem.Spec PyProof.Rows L2 Builtin

/-! ### enumerate(v), v a list or a tuple -/
theorem en_make {v : Value} {o : Obj} {H : Heap → Prop} (B : Begins v o H) :
    Meets (Builtin.«enumerate.__new__» ⟨[.type "enumerate", v], []⟩) (fun _ R s => H s.heap ∧ R (.ok (.ret (.ref (s.heap.push o).objs.size))) { s with heap := (s.heap.push o).push { cls := .type "enumerate", data := .fields #[.none, .bool false, .ref s.heap.objs.size, rawInt 0, .none, .none] } }) :=
  .of_wp fun prog w A R s h => by
    obtain ⟨hp, g, d, tk, os⟩ := s; obtain ⟨h1, h⟩ := h; have sub := sub_enumerate
    have q1 : ∀ {A' : Around} {E : Value → Shared → Prop} {Q : Value → Shared → Prop}, Q (.ref hp.objs.size) ⟨hp.push o, g, d, tk, os⟩ → wpAny (model prog w) A' (pyIter v) Q E ⟨hp, g, d, tk, os⟩ := fun q => B.iter prog w _ _ ⟨hp, g, d, tk, os⟩ _ h1 q
    wp_walk using q1
    refine wpAny_stack_any fun st => wpAny_pure ?_
    split
    · rename_i c _ _ _ _ _
      cases (c == Value.type "enumerate") <;> (wp_walk using q1; exact ⟨_, rfl, h⟩)
    · (wp_walk using q1; exact ⟨_, rfl, h⟩)
theorem en_call {prog : Program} {w : World} {A : Around} {E : Value → Shared → Prop} {s : Shared} {v : Value} {o : Obj} {H : Heap → Prop} {Q : Value → Shared → Prop} (B : Begins v o H) (h1 : H s.heap)
    (h : ∀ h', IsEnum h' (s.heap.objs.size + 1) s.heap.objs.size 0 .none → h'.get? s.heap.objs.size = some o → (∀ b o, s.heap.get? b = some o → h'.get? b = some o) → Q (.ref (s.heap.objs.size + 1)) { s with heap := h' }) :
    wpAny (model prog w) A (call (.type "enumerate") [v]) Q E s := by
  refine callType_new F.called_enumerate (by decide) (F.typeCall_enumerate_1 _) (F.newCall_enumerate_1 _) (fun ob => F.args_object_init_2 ob _) F.entry_enumerate_new (en_make B) ⟨h1, ?_⟩
  have hz : (s.heap.push o).objs.size = s.heap.objs.size + 1 := Heap.size_push ..
  rw [hz]
  have he : IsEnum ((s.heap.push o).push { cls := .type "enumerate", data := .fields #[.none, .bool false, .ref s.heap.objs.size, rawInt 0, .none, .none] }) (s.heap.objs.size + 1) s.heap.objs.size 0 .none := by
    have q := Heap.get?_push_size (s.heap.push o) (o := { cls := .type "enumerate", data := .fields #[.none, .bool false, .ref s.heap.objs.size, rawInt 0, .none, .none] }) rfl
    rw [hz] at q; exact q
  exact ⟨⟨_, he, rfl⟩, h _ he (Heap.get?_push_of_some _ (Heap.get?_push_size _ B.free)) fun b o x => Heap.get?_push_of_some _ (Heap.get?_push_of_some _ x)⟩

/-- the tuple at a, each item in a new pair -/
def ItT (K : PySem.W.Frag) (a : Addr) (n : Nat) : It :=
  ⟨fun i H => ∃ (xs : List V) (x : V), SqT K H a xs ∧ xs[i]? = some x ∧ xs.length = n, fun i H v H' => ∃ T x, v = .ref T ∧ H T = none ∧ H' = upd H T (.tup [.int (i : Nat), x]) ∧ ∀ xs, SqT K H a xs → xs[i]? = some x, fun i H => ∃ xs : List V, SqT K H a xs ∧ xs.length = n ∧ n ≤ i⟩
theorem turn_enumT {P : Program} {w : World} {K : PySem.W.Frag} {elts : List Expr} {kk : Nat} {tpos : Pos} (a e it : Addr) (n : Nat) :
    Turn P w K (.Tuple elts kk tpos) (ItT K a n) [e, it] e (fun i h => (∃ old, IsEnum h e it ((i : Nat) : Int) old) ∧ h.IsTupleIter it a i ∧ e ≠ it ∧ a ≠ it ∧ a ≠ e ∧ i ≤ n) where
  mem := by simp
  obj := fun i h st b hb => by
    obtain ⟨⟨old, he⟩, ⟨o, ho, hc, hd⟩, _⟩ := st
    rcases (by simpa using hb : b = e ∨ b = it) with z | z
    · exact ⟨_, z ▸ he, fun v q => by cases q⟩
    · exact ⟨o, z ▸ ho, fun v q => by rw [hd] at q; cases q⟩
  keep := fun i h h' st k => let ⟨⟨old, he⟩, hi, n⟩ := st; ⟨⟨old, k e (by simp) _ he⟩, hi.at fun o q => k it (by simp) o q, n⟩
  item := by
    intro X hP hw hK hc i pins s σ H E I hf st hg
    subst hP hw hK
    obtain ⟨⟨old, he⟩, hit, hne, hai, hae, hin⟩ := st
    obtain ⟨xs, x, hq, hx, hxn⟩ := hg
    obtain ⟨its, rv, p, hz⟩ := I.tuple hq
    obtain ⟨u, hu, ru⟩ := rv.get hx
    have hel : e < s.heap.objs.size := Heap.lt_size he
    have hil : it < s.heap.objs.size := by obtain ⟨_, q, _⟩ := hit; exact Heap.lt_size q
    have hn : i < its.toArray.size := by
      have := (List.getElem?_eq_some_iff.mp hu).1
      simpa using this
    refine wpAny_pyNext_enum_itemD (Draws.tuple (A := X.A.in1) (I.ok.hd hc) it a hai its.toArray) he ⟨hit, p⟩ hn hne (by simp [hne, Ne.symm hae]) fun y h' tk hy ho hst hT hsz hk => ?_
    have ey : y = u := by
      have hu' : its.toArray[i]? = some u := by simpa using hu
      exact Option.some.inj (hy.symm.trans hu')
    subst ey
    refine ⟨_, rfl, wpAny_letOwnedTupleGo_enum (s := { s with heap := h', toks := tk + 1 }) ho fun h'' he' sb => ?_⟩
    have hT2 : h''.get? s.heap.objs.size = some { cls := .type "tuple", data := .seq #[.int i tk, y] } := (sb.2 _ (Nat.ne_of_gt hel)).trans hT
    have new : ObjOk X.prog X.w (upd H s.heap.objs.size (.tup [.int (i : Nat), x])) h'' s.heap.objs.size (.tup [.int (i : Nat), x]) := ⟨by show 2 ≤ sizeLine; decide, [.int i tk, y], .cons ⟨_, rfl⟩ (.cons ru .nil), ⟨_, hT2, rfl, _, rfl⟩⟩
    have I1 : Inv X pins σ (upd H s.heap.objs.size (.tup [.int (i : Nat), x])) { s with heap := h'', toks := tk + 1 } := I.turnedNew (ch := [e, it]) (fun b ob hb q => (sb.2 b (fun z => hb (by simp [z]))).trans (hk b ob (fun z => hb (by simp [z])) (fun z => hb (by simp [z])) q)) hf (Nat.le_refl _) new
    refine ⟨.ref s.heap.objs.size, _, I1, rfl, ⟨_, x, rfl, I.hok.fresh (Nat.le_refl _), rfl, fun ys hy => by rw [I.tuple_inj hy hq]; exact hx⟩, ⟨⟨y, ?_⟩, hst.1.at fun o q => (sb.2 it (Ne.symm hne)).trans q, hne, hai, hae, by have := (List.getElem?_eq_some_iff.mp hx).1; omega⟩, fun b hb => ?_⟩
    · rw [show ((i + 1 : Nat) : Int) = (i : Int) + 1 by omega]; exact he'
    · have hb' : b < s.heap.objs.size := by
        rcases (by simpa using hb : b = e ∨ b = it) with z | z <;> (rw [z]; assumption)
      rw [upd_ne (Nat.ne_of_lt hb')]
      exact (hf b hb).1
  done := by
    intro X hP hw hK hc i pins s σ H E I hf st hg
    subst hP hw hK
    obtain ⟨⟨old, he⟩, hit, hne, hai, hae, hin⟩ := st
    obtain ⟨xs, hq, hxn, hx⟩ := hg
    obtain ⟨its, rv, p, hz⟩ := I.tuple hq
    obtain ⟨f0, f1, f2, f3, f4, f5⟩ := hf it (by simp)
    have hl := rv.length
    have ei : its.toArray.size = i := by
      rw [List.size_toArray]; omega
    refine wpAny_pyNext_enum_endD (Draws.tuple (A := X.A.in1) (I.ok.hd hc) it a hai its.toArray) he ⟨by rw [ei]; exact hit, p⟩ fun h' eb => ⟨rfl, I.turned (t' := s.toks) (fun b o hb q => eb b o hb q) f0 f1 f3 f4 f5⟩
  self := fun A i s Q E st h => let ⟨⟨_, he⟩, _⟩ := st; wpAny_pyIter_enum he h
def iEnumT (K : PySem.W.Frag) (ta : TA) : TI := fun σ H R => ta σ H fun vs H1 => ∃ a xs, vs = [.ref a] ∧ SqT K H1 a xs ∧ R (ItT K a xs.length) H1
def iEnumS (K : PySem.W.Frag) (ta : TA) : TI := fun σ H R => ta σ H fun vs H1 => ∃ a xs, vs = [.ref a] ∧ ((SqT K H1 a xs ∧ R (ItT K a xs.length) H1) ∨ (SqL K H1 a xs ∧ R (Ite K a) H1))
theorem pi_enumS {X : Cx} {e : Expr} {ta : TA} {p pos tpos : Pos} {elts : List Expr} {kk : Nat} (hg : Gl X "enumerate") (hm : X.mg "enumerate" = none) (ha : PA X [e] ta) (hs : starEach [e] X.env = [(false, eval e X.env)] := by rfl) :
    PI X (.Tuple elts kk tpos) (.Call (.Name "enumerate" p) [e] [] pos) (iEnumS X.K ta) := by
  refine ⟨fun pins s σ H R I h => ?_⟩
  refine Call_ (ld_blt I hg hm boot_enumerate (PyProof.Rows.callWith_type1 (thn (ha.run pos pins s σ H _ I h) fun us s1 ⟨vs, H1, I1, r1, q1⟩ => ?_) hs rfl))
  obtain ⟨a, xs, ex, q1⟩ := q1
  subst ex
  cases r1 with
  | cons r rr =>
    cases rr
    cases r
    have fp : ∀ b ∈ [s1.heap.objs.size + 1, s1.heap.objs.size], FpOk X pins H1 b := fun b hb => by
      have hle : s1.heap.objs.size ≤ b := by rcases (by simpa using hb : b = s1.heap.objs.size + 1 ∨ b = s1.heap.objs.size) with z | z <;> omega
      exact I1.fpOk hle (I1.hok.fresh hle)
    rcases q1 with ⟨hq, q⟩ | ⟨hq, q⟩
    · obtain ⟨its, rv, p', hz⟩ := I1.tuple hq
      have hal : a < s1.heap.objs.size := by obtain ⟨_, z, _⟩ := p'; exact Heap.lt_size z
      refine en_call (begins_tuple a its.toArray) p' fun h' he hit hk => wpAny_pyIter_enum he ?_
      exact ⟨s1.heap.objs.size + 1, [s1.heap.objs.size + 1, s1.heap.objs.size], _, _, H1, rfl, I1.kept (t' := s1.toks) hk, turn_enumT a (s1.heap.objs.size + 1) s1.heap.objs.size xs.length, ⟨⟨.none, he⟩, ⟨_, hit, rfl, rfl⟩, Nat.succ_ne_self _, Nat.ne_of_lt hal, Nat.ne_of_lt (Nat.lt_succ_of_lt hal), Nat.zero_le _⟩, fp, q⟩
    · obtain ⟨its, rv, p', hz⟩ := I1.list hq
      refine en_call (begins_list a its.toArray) p'.isList fun h' he hit hk => wpAny_pyIter_enum he ?_
      exact ⟨s1.heap.objs.size + 1, [s1.heap.objs.size + 1, s1.heap.objs.size], _, _, H1, rfl, I1.kept (t' := s1.toks) hk, turn_enum a (s1.heap.objs.size + 1) s1.heap.objs.size, ⟨⟨.none, he⟩, ⟨_, hit, rfl, rfl⟩, Nat.succ_ne_self _⟩, fp, q⟩
end Dt
end

section
set_option Elab.async false
set_option linter.all false
set_option maxRecDepth 100000
set_option maxHeartbeats 4000000
set_option autoImplicit false
namespace Dt
open PySem PySem.Spec PyProof.Rows L2

section
variable {K : PySem.W.Frag} {T : Tab} {π σ : L2.St} {F S S' H H' : Hp} {ρ ρ' : Env} {a : Addr} {v : V} {d : D} {r : RV}
def Cell.put : Cell → D → Cell
  | .own _, d => .own d
  | .brw _, d => .brw d
  | c, _ => c
def Cell.dat : Cell → Option D
  | .fro d => some d
  | .own d => some d
  | .brw d => some d
  | .un => none
theorem Cell.put_mut {c : Cell} {d : D} : (c.put d).mut = c.mut := by cases c <;> rfl
/-- our own object at slot i is changed -/
theorem Rel.mutate (R : Rel K T π F S ρ σ H) {i : Nat} {c : Cell} {o : HO} (hc : ρ[i]? = some c) (m : c.mut = true) (e : σ[i]? = some (some (V.ref a))) (n : Node K T S (upd H a o) a d) : Rel K T π F S (ρ.set i (c.put d)) σ (upd H a o) := by
  obtain ⟨h1, h2, _⟩ := R.ownAt hc m e
  obtain ⟨d0, h3⟩ : ∃ d0, Own K T F S H a d0 := by
    have q := R.sl i c hc
    cases c with
    | un => cases m
    | fro _ => cases m
    | own d0 => obtain ⟨b, q1, q2⟩ := q; rw [e] at q1; cases q1; exact ⟨d0, q2⟩
    | brw d0 => obtain ⟨b, q1, _, q2⟩ := q; rw [e] at q1; cases q1; exact ⟨d0, q2⟩
  have sU : ∀ {G : Hp}, Same G H → G a = none → Same G (upd H a o) := fun {G} s z b x q => by
    rw [upd_ne (ne_of_none q z)]; exact s _ _ q
  have own : ∀ {j : Nat} {cj : Cell} {b : Addr}, j ≠ i → ρ[j]? = some cj → cj.mut = true → σ[j]? = some (some (V.ref b)) → (upd H a o) b = H b := fun nj hj mj ej => upd_ne fun z => nj (R.ds _ _ a _ _ hj hc mj m (by rw [ej, z]) e)
  refine ⟨sU R.sS h1, sU R.sF h2, R.dj, R.nS, R.nF, tabs_keep R.tb h3.2.2 fun b hb => upd_ne hb, by rw [List.length_set]; exact R.len, fun j cj hj => ?_, fun j k b cj ck hj hk mj mk ej ek => ?_⟩
  · rcases getElem?_set_cases hj with ⟨rfl, rfl⟩ | ⟨nj, hj⟩
    · have q := R.sl j c hc
      cases c with
      | un => cases m
      | fro _ => cases m
      | own _ => exact ⟨a, e, h1, h2, n⟩
      | brw _ =>
        obtain ⟨b, q1, q2, _⟩ := q
        rw [q1] at e; cases e
        exact ⟨a, q1, q2, h1, h2, n⟩
    · have q := R.sl j cj hj
      cases cj with
      | un => trivial
      | fro _ => exact q
      | own _ => obtain ⟨b, q1, q2⟩ := q; exact ⟨b, q1, q2.heap (own nj hj rfl q1)⟩
      | brw _ => obtain ⟨b, q1, q0, q2⟩ := q; exact ⟨b, q1, q0, q2.heap (own nj hj rfl q1)⟩
  · have back : ∀ {j : Nat} {cj : Cell}, (ρ.set i (c.put d))[j]? = some cj → cj.mut = true → ∃ cj', ρ[j]? = some cj' ∧ cj'.mut = true := fun {j cj} hj mj => by
      rcases getElem?_set_cases hj with ⟨rfl, rfl⟩ | ⟨_, hj⟩
      · exact ⟨c, hc, m⟩
      · exact ⟨_, hj, mj⟩
    obtain ⟨cj', hj', mj'⟩ := back hj mj
    obtain ⟨ck', hk', mk'⟩ := back hk mk
    exact R.ds j k b _ _ hj' hk' mj' mk' ej ek
def storeC : RV → Option Cell
  | .fro d => some (.fro d)
  | .own d => some (.own d)
  | .bor _ => none
theorem Rel.store (R : Rel K T π F S ρ σ H) {i : Nat} {c : Cell} (h : RVR K T F S H ρ σ v r) (e : storeC r = some c) : Rel K T π F S (ρ.set i c) (σ.set i (some v)) H := by
  have cnb : ∀ d, c ≠ .brw d := fun d z => by cases r <;> cases e <;> cases z
  refine ⟨R.sS, R.sF, R.dj, R.nS, R.nF, R.tb, by rw [List.length_set, List.length_set]; exact R.len, fun j cj hj => ?_, fun j k b cj ck hj hk mj mk ej ek => ?_⟩
  · rcases getElem?_set_cases hj with ⟨rfl, rfl⟩ | ⟨nj, hj⟩
    · have hl : j < σ.length := by
        have := (List.getElem?_eq_some_iff.mp hj).1
        rw [List.length_set, R.len] at this; exact this
      have es : (σ.set j (some v))[j]? = some (some v) := List.getElem?_set_self hl
      cases r with
      | bor _ => cases e
      | fro d => cases e; exact ⟨v, es, h⟩
      | own d =>
        cases e
        obtain ⟨a, rfl, o, _⟩ := h
        exact ⟨a, es, o⟩
    · have q := R.sl j cj hj
      have es : (σ.set i (some v))[j]? = σ[j]? := List.getElem?_set_ne (Ne.symm nj)
      rw [es]
      exact q
  · have own : ∀ {j : Nat} {cj : Cell}, j ≠ i → (ρ.set i c)[j]? = some cj → cj.mut = true → (σ.set i (some v))[j]? = some (some (V.ref b)) → ρ[j]? = some cj ∧ σ[j]? = some (some (V.ref b)) := fun nj hj _ ej => by
      rw [List.getElem?_set_ne (Ne.symm nj)] at hj ej
      exact ⟨hj, ej⟩
    have at_i : ∀ {cj : Cell}, (ρ.set i c)[i]? = some cj → cj.mut = true → (σ.set i (some v))[i]? = some (some (V.ref b)) → Apart ρ σ b := fun {cj} hj mj ej => by
      have hl : i < ρ.length := by
        have := (List.getElem?_eq_some_iff.mp hj).1
        rw [List.length_set] at this; exact this
      rw [List.getElem?_set_self hl] at hj
      rw [List.getElem?_set_self (by rw [← R.len]; exact hl)] at ej
      cases hj
      cases r with
      | bor _ => cases e
      | fro d => cases e; cases mj
      | own d =>
        obtain ⟨a, rfl, _, ap⟩ := h
        cases ej
        exact ap
    by_cases nj : j = i
    · subst nj
      by_cases nk : k = j
      · exact nk.symm
      · obtain ⟨h1, h2⟩ := own nk hk mk ek
        exact absurd h2 (at_i hj mj ej k ck h1 mk)
    · obtain ⟨h1, h2⟩ := own nj hj mj ej
      by_cases nk : k = i
      · subst nk
        exact absurd h2 (at_i hk mk ek j cj h1 mj)
      · obtain ⟨h3, h4⟩ := own nk hk mk ek
        exact R.ds j k b cj ck h1 h3 mj mk h2 h4
end

/-! ### blocks -/
def sNil : SF := fun ρ => .ok (.nx, ρ)
def sCons (f g : SF) : SF := fun ρ => (f ρ).bind fun p => match p.1 with
  | .nx => g p.2
  | fl => .ok (fl, p.2)
section
variable {K : PySem.W.Frag} {T : Tab} {π : L2.St} {F S S' : Hp} {ρ' : Env} {D : Ends}
theorem FlW.mono {fl : Fl} (e : Same S S') (h : FlW K T π F S ρ' D fl) : FlW K T π F S' ρ' D fl := by
  cases fl with
  | nx => exact fun S2 σ' H' s R => h S2 σ' H' (e.trans s) R
  | ret r => exact fun S2 σ' H' v s R rv => h S2 σ' H' v (e.trans s) R rv
  | bk => exact fun S2 σ' H' s R => h S2 σ' H' (e.trans s) R
  | ct => exact fun S2 σ' H' s R => h S2 σ' H' (e.trans s) R
end
section
variable {X : Cx} {T : Tab} {st : Stmt} {rest : List Stmt} {f g : SF} {fe : EF} {e : Expr} {pos : Pos}
theorem ss_nil : PSs X [] (SS X.K T sNil) := pss_nil.imp fun D σ H ⟨π, F, S, ρ, fl, ρ', R, e, q⟩ => by
  cases e
  exact q S σ H (Same.refl S) R
theorem ss_cons (h1 : PS X st (SS X.K T f)) (h2 : PSs X rest (SS X.K T g)) : PSs X (st :: rest) (SS X.K T (sCons f g)) := (pss_cons h1 h2).imp fun D σ H ⟨π, F, S, ρ, fl, ρ', R, e, q⟩ => by
  obtain ⟨⟨fl1, ρ1⟩, e1, e⟩ := Res.bind_eq e
  refine ⟨π, F, S, ρ, fl1, ρ1, R, e1, ?_⟩
  cases fl1 with
  | nx => exact fun S' σ' H' s R' => ⟨π, F, S', ρ1, fl, ρ', R', e, q.mono s⟩
  | ret r => cases e; exact q
  | bk => cases e; exact q
  | ct => cases e; exact q
theorem ss_one (h1 : PS X st (SS X.K T f)) : PSs X [st] (SS X.K T f) := pss_one h1
/-- never come to -/
def sBad : SF := fun _ => .bad
theorem ss_bad : PS X st (SS X.K T sBad) := ⟨fun _ _ _ _ _ _ ⟨_, _, _, _, _, _, _, e, _⟩ => nomatch e⟩
def sPass : SF := fun ρ => .ok (.nx, ρ)
def sBreak : SF := fun ρ => .ok (.bk, ρ)
def sCont : SF := fun ρ => .ok (.ct, ρ)
theorem ss_pass : PS X (.Pass pos) (SS X.K T sPass) := ps_pass.imp fun D σ H ⟨π, F, S, ρ, fl, ρ', R, e, q⟩ => by
  cases e
  exact q S σ H (Same.refl S) R
theorem ss_break : PS X (.Break pos) (SS X.K T sBreak) := ps_break.imp fun D σ H ⟨π, F, S, ρ, fl, ρ', R, e, q⟩ => by
  cases e
  exact q S σ H (Same.refl S) R
theorem ss_cont : PS X (.Continue pos) (SS X.K T sCont) := ps_continue.imp fun D σ H ⟨π, F, S, ρ, fl, ρ', R, e, q⟩ => by
  cases e
  exact q S σ H (Same.refl S) R
def sDrop (f : EF) : SF := fun ρ => (f ρ).bind fun p => .ok (.nx, p.2)
theorem ss_expr (he : PE X e (SE X.K T fe)) (hs : swapsWith e none pos.line X.env = pure false := by rfl) : PS X (.Expr e pos) (SS X.K T (sDrop fe)) := (ps_expr he hs).imp fun D σ H ⟨π, F, S, ρ, fl, ρ', R, e, q⟩ => by
  obtain ⟨⟨r, ρ1⟩, e1, e⟩ := Res.bind_eq e
  cases e
  exact ⟨π, F, S, ρ, r, _, R, e1, fun S' H' v s R' _ => q S' σ H' s R'⟩
def sRet (f : EF) : SF := fun ρ => (f ρ).bind fun p => .ok (.ret p.1, p.2)
theorem ss_ret (he : PE X e (SE X.K T fe)) : PS X (.Return (some e) pos) (SS X.K T (sRet fe)) := (ps_ret he).imp fun D σ H ⟨π, F, S, ρ, fl, ρ', R, e, q⟩ => by
  obtain ⟨⟨r, ρ1⟩, e1, e⟩ := Res.bind_eq e
  cases e
  exact ⟨π, F, S, ρ, r, _, R, e1, fun S' H' v s R' rv => q S' σ H' v s R' rv⟩
def sRetN : SF := fun ρ => .ok (.ret (.fro .non), ρ)
theorem ss_retN : PS X (.Return none pos) (SS X.K T sRetN) := ps_retN.imp fun D σ H ⟨π, F, S, ρ, fl, ρ', R, e, q⟩ => by
  cases e
  exact q S σ H .non (Same.refl S) R .non
def sIf (c : BF) (f g : SF) : SF := getB c fun b ρ1 => if b = true then f ρ1 else g ρ1
theorem ss_if {c : Expr} {a b : List Stmt} {p : BF} (hc : PT X c (ST X.K T p)) (ha : PSs X a (SS X.K T f)) (hb : PSs X b (SS X.K T g)) : PS X (.If c a b pos) (SS X.K T (sIf p f g)) := (ps_if hc ha hb).imp fun D σ H ⟨π, F, S, ρ, fl, ρ', R, e, q⟩ => by
  obtain ⟨⟨b, ρ1⟩, e1, e⟩ := Res.bind_eq e
  refine ⟨π, F, S, ρ, b, ρ1, R, e1, fun S' H' s R' => ?_⟩
  cases b with
  | true => exact ⟨π, F, S', ρ1, fl, ρ', R', e, q.mono s⟩
  | false => exact ⟨π, F, S', ρ1, fl, ρ', R', e, q.mono s⟩
/-- name = e -/
def sSet (i : Nat) (f : EF) : SF := fun ρ => (f ρ).bind fun p => (Res.of (storeC p.1)).bind fun c => .ok (.nx, p.2.set i c)
theorem ss_asg_name {i : Nat} {st : Stmt} (h : PS X st (tAsg (SE X.K T fe) (gName i))) : PS X st (SS X.K T (sSet i fe)) := h.imp fun D σ H ⟨π, F, S, ρ, fl, ρ', R, e, q⟩ => by
  obtain ⟨⟨r, ρ1⟩, e1, e⟩ := Res.bind_eq e
  obtain ⟨c, e2, e⟩ := Res.bind_eq e
  cases e
  exact ⟨π, F, S, ρ, r, ρ1, R, e1, fun S' H' v s R' rv => q S' (σ.set i (some v)) H' s (R'.store rv (Res.of_eq e2))⟩
theorem ss_set {i : Nat} {x : Str} {pos' : Pos} (hN : X.N.Nodup) (hi : X.N[i]? = some x) (hx : Loc X.env.scope x) (he : PE X e (SE X.K T fe)) (hs : swapsWith e (some (.Name x pos')) pos.line X.env = pure false := by rfl) (hf : X.fn x = true ∨ X.env.scope.names.lookup x = some .local := by first | exact .inl rfl | exact .inr rfl | assumption) :
    PS X (.Assign [.Name x pos'] e pos) (SS X.K T (sSet i fe)) := ss_asg_name (ps_set hN hi hx he hs hf)
end

/-! ### targets -/
abbrev GF := D → Env → Res Env
/-- d is given to the target: the slots is alone change -/
def SG (K : PySem.W.Frag) (T : Tab) (g : GF) (is : List Nat) : TG := fun v σ H Q => ∃ π F S ρ d ρ', Rel K T π F S ρ σ H ∧ DR K T S v d ∧ g d ρ = .ok ρ' ∧ ∀ σ', Rel K T π F S ρ' σ' H → (∀ vs : List Nat, (∀ i ∈ is, i ∈ vs) → wipe σ' vs = wipe σ vs) → Q σ' H
def SGs (K : PySem.W.Frag) (T : Tab) (g : List D → Env → Res Env) (is : List Nat) : TGs := fun vs σ H Q => ∃ π F S ρ ds ρ', Rel K T π F S ρ σ H ∧ DRs K T S vs ds ∧ g ds ρ = .ok ρ' ∧ ∀ σ', Rel K T π F S ρ' σ' H → (∀ ws : List Nat, (∀ i ∈ is, i ∈ ws) → wipe σ' ws = wipe σ ws) → Q σ' H
def gN (i : Nat) : GF := fun d ρ => .ok (ρ.set i (.fro d))
def gsNil : List D → Env → Res Env := fun ds ρ => match ds with
  | [] => .ok ρ
  | _ => .bad
def gsCons (g : GF) (h : List D → Env → Res Env) : List D → Env → Res Env := fun ds ρ => match ds with
  | d :: ds => (g d ρ).bind fun ρ1 => h ds ρ1
  | _ => .bad
def gT (n : Nat) (h : List D → Env → Res Env) : GF := fun d ρ => match d with
  | .tup ds => if ds.length = n then h ds ρ else .bad
  | _ => .bad
theorem wipe_set (σ : L2.St) (i : Nat) (x : Option V) : ∀ vs : List Nat, i ∈ vs → wipe (σ.set i x) vs = wipe σ vs
  | [], h => by cases h
  | v :: vs, h => by
    show (wipe (σ.set i x) vs).set v none = (wipe σ vs).set v none
    by_cases hv : i ∈ vs
    · rw [wipe_set σ i x vs hv]
    · have e : i = v := by
        rcases List.mem_cons.mp h with e | h
        · exact e
        · exact absurd h hv
      subst e
      apply List.ext_getElem?
      intro k
      by_cases hk : i = k
      · subst hk
        simp [List.getElem?_set, wipe_length, List.length_set]
      · rw [List.getElem?_set_ne hk, List.getElem?_set_ne hk]
        by_cases hm : k ∈ vs
        · have z : ∀ τ : L2.St, τ.length = σ.length → ∀ ws : List Nat, k ∈ ws → (wipe τ ws)[k]? = if k < σ.length then some none else none := fun τ hl ws => by
            induction ws with
            | nil => intro h; cases h
            | cons w ws ih =>
              intro h
              show ((wipe τ ws).set w none)[k]? = _
              by_cases hw : w = k
              · subst hw
                rw [List.getElem?_set]
                simp [wipe_length, hl]
              · rw [List.getElem?_set_ne hw]
                exact ih ((List.mem_cons.mp h).resolve_left fun z => hw z.symm)
          rw [z _ (List.length_set ..) vs hm, z _ rfl vs hm]
        · rw [wipe_out hm, wipe_out hm, List.getElem?_set_ne hk]
section
variable {X : Cx} {T : Tab} {pos : Pos}
theorem gg_name {i : Nat} {x : Str} (hN : X.N.Nodup) (hi : X.N[i]? = some x) (hx : Loc X.env.scope x) (hf : X.fn x = true ∨ X.env.scope.names.lookup x = some .local := by first | exact .inl rfl | exact .inr rfl | assumption) : PG X (.Name x pos) (SG X.K T (gN i) [i]) :=
  ⟨fun pins s σ H v u Q I r ⟨π, F, S, ρ, d, ρ', R, hd, e, q⟩ => (pg_name hN hi hx hf).run pins s σ H v u Q I r (by
    cases e
    exact q _ (R.store (r := .fro d) hd rfl) fun vs h => wipe_set σ i _ vs (h i (by simp)))⟩
theorem ggs_nil : PGs X [] (SGs X.K T gsNil []) := ⟨fun pins s σ H vs us Q I r ⟨π, F, S, ρ, ds, ρ', R, hd, e, q⟩ => pgs_nil.run pins s σ H vs us Q I r (by
  cases hd with
  | nil => cases e; exact ⟨rfl, q σ R fun _ _ => rfl⟩
  | cons _ _ => cases e)⟩
theorem ggs_cons {e : Expr} {es : List Expr} {g : GF} {h : List D → Env → Res Env} {is js : List Nat} (h1 : PG X e (SG X.K T g is)) (h2 : PGs X es (SGs X.K T h js))
    (hs : (assignEach (e :: es) X.env).map (·.2) = assign e X.env :: (assignEach es X.env).map (·.2) := by rfl) : PGs X (e :: es) (SGs X.K T (gsCons g h) (is ++ js)) :=
  ⟨fun pins s σ H vs us Q I r ⟨π, F, S, ρ, ds, ρ', R, hd, e, q⟩ => (pgs_cons h1 h2 hs).run pins s σ H vs us Q I r (by
    cases hd with
    | nil => cases e
    | cons hd hr =>
      obtain ⟨ρ1, e1, e2⟩ := Res.bind_eq e
      exact ⟨_, _, rfl, π, F, S, ρ, _, ρ1, R, hd, e1, fun σ1 R1 w1 => ⟨π, F, S, ρ1, _, ρ', R1, hr, e2, fun σ2 R2 w2 => q σ2 R2 fun ws hw => (w2 ws fun i hi => hw i (List.mem_append_right _ hi)).trans (w1 ws fun i hi => hw i (List.mem_append_left _ hi))⟩⟩)⟩
theorem gg_tup {es : List Expr} {k : Nat} {h : List D → Env → Res Env} {is : List Nat} {n : Nat} (hc : X.calm = true) (hg : PGs X es (SGs X.K T h is))
    (hn : (assignEach es X.env).length = n := by rfl) (hst : (assignEach es X.env).findIdx? (·.1) = none := by rfl) : PG X (.Tuple es k pos) (SG X.K T (gT n h) is) :=
  ⟨fun pins s σ H v u Q I r ⟨π, F, S, ρ, d, ρ', R, hd, e, q⟩ => (pg_tup hc hg hn hst).run pins s σ H v u Q I r (by
    cases d <;> first | (cases e; done) | skip
    rename_i ds
    cases hd with
    | tup hq hr =>
      have e : (if ds.length = n then h ds ρ else Res.bad) = .ok ρ' := e
      split at e
      · exact ⟨_, _, rfl, sqT_same R.sS hq, hr.length.trans (by assumption), π, F, S, ρ, ds, ρ', R, hr, e, q⟩
      · cases e)⟩
/-- target = e -/
def sAsg (g : GF) (f : EF) : SF := fun ρ => (f ρ).bind fun p => match p.1 with
  | .fro d => (g d p.2).bind fun ρ1 => .ok (.nx, ρ1)
  | .own d => (g d p.2).bind fun ρ1 => .ok (.nx, ρ1)
  | _ => .bad
theorem ss_asg {tg e : Expr} {fe : EF} {g : GF} {is : List Nat} (he : PE X e (SE X.K T fe)) (hg : PG X tg (SG X.K T g is)) (hs : swapsWithSole [tg] e pos.line X.env = pure false := by rfl) (hw : swappedStores [tg] e X.env = pure none := by rfl)
    (h1 : (assignEach [tg] X.env).map (·.2) = [assign tg X.env] := by rfl) : PS X (.Assign [tg] e pos) (SS X.K T (sAsg g fe)) := (ps_asg he hg hs hw h1).imp fun D σ H ⟨π, F, S, ρ, fl, ρ', R, e, q⟩ => by
  obtain ⟨⟨r, ρ1⟩, e1, e⟩ := Res.bind_eq e
  cases r with
  | bor i => cases e
  | fro d =>
    obtain ⟨ρ2, e2, e⟩ := Res.bind_eq e
    cases e
    exact ⟨π, F, S, ρ, _, ρ1, R, e1, fun S' H' v s R' rv => ⟨π, F, S', ρ1, d, _, R', rv, e2, fun σ' R2 _ => q S' σ' H' s R2⟩⟩
  | own d =>
    obtain ⟨ρ2, e2, e⟩ := Res.bind_eq e
    cases e
    refine ⟨π, F, S, ρ, _, ρ1, R, e1, fun S' H' v s R' rv => ?_⟩
    obtain ⟨S2, s2, R2, hv⟩ := rv.hold R'
    exact ⟨π, F, S2, ρ1, d, _, R2, hv, e2, fun σ' R3 _ => q S2 σ' H' (s.trans s2) R3⟩
end

/-! ### a, b = e, f -/
section
variable {K : PySem.W.Frag} {T : Tab} {π σ : L2.St} {F S S' H H' : Hp} {ρ ρ' : Env} {a : Addr} {v : V} {d : D} {r : RV}
/-- a fresh object of ours is put aside -/
theorem Rel.lend (R : Rel K T π F S ρ σ H) {o : HO} (ho : Own K T F S H a d) (ap : Apart ρ σ a) (e : H a = some o) : Rel K T π (upd F a o) S ρ σ H := by
  refine ⟨R.sS, fun b x q => ?_, fun b x q => ?_, R.nS, R.nF.upd fun ps z => ho.2.2.notab ps (by rw [e, z]), R.tb, R.len, fun i c hc => ?_, R.ds⟩
  · by_cases hb : b = a
    · subst hb; rw [upd_same] at q; cases q; exact e
    · rw [upd_ne hb] at q; exact R.sF _ _ q
  · by_cases hb : b = a
    · subst hb; exact ho.1
    · rw [upd_ne hb] at q; exact R.dj _ _ q
  · have q := R.sl i c hc
    have nb : ∀ {b : Addr}, c.mut = true → σ[i]? = some (some (V.ref b)) → (upd F a o) b = F b := fun m z => upd_ne fun w => ap i c hc m (by rw [z, w])
    cases c with
    | un => trivial
    | fro _ => exact q
    | own _ => obtain ⟨b, q1, q2⟩ := q; exact ⟨b, q1, q2.1, by rw [nb rfl q1]; exact q2.2.1, q2.2.2⟩
    | brw _ => obtain ⟨b, q1, q0, q2⟩ := q; exact ⟨b, q1, q0, q2.1, by rw [nb rfl q1]; exact q2.2.1, q2.2.2⟩
theorem Rel.unlend {o : HO} (n : F a = none) (R : Rel K T π (upd F a o) S ρ σ H) : Rel K T π F S ρ σ H ∧ H a = some o ∧ S a = none ∧ Apart ρ σ a := by
  have keep : ∀ {b : Addr}, (upd F a o) b = none → F b = none ∧ b ≠ a := fun {b} z => by
    by_cases hb : b = a
    · subst hb; rw [upd_same] at z; cases z
    · rw [upd_ne hb] at z; exact ⟨z, hb⟩
  have sub : Same F (upd F a o) := same_upd n
  refine ⟨⟨R.sS, fun b x q => R.sF _ _ (sub _ _ q), fun b x q => R.dj _ _ (sub _ _ q), R.nS, fun b ps q => R.nF b ps (sub _ _ q), R.tb, R.len, fun i c hc => ?_, R.ds⟩, R.sF _ _ upd_same, R.dj _ _ upd_same, fun i c hc m z => ?_⟩
  · have q := R.sl i c hc
    cases c with
    | un => trivial
    | fro _ => exact q
    | own _ => obtain ⟨b, q1, q2⟩ := q; exact ⟨b, q1, q2.1, (keep q2.2.1).1, q2.2.2⟩
    | brw _ => obtain ⟨b, q1, q0, q2⟩ := q; exact ⟨b, q1, q0, q2.1, (keep q2.2.1).1, q2.2.2⟩
  · exact (keep (R.ownAt hc m z).2.1).2 rfl
end
end Dt
end

section
set_option Elab.async false
set_option linter.all false
set_option maxRecDepth 100000
set_option maxHeartbeats 4000000
set_option autoImplicit false
namespace Dt
open PySem PySem.Spec PyProof.Rows L2

/-! ### what is walked -/
abbrev IF := Env → Res (List D × Env)
/-- an item has come: as frozen data, or as a new tuple of such -/
def Came (K : PySem.W.Frag) (T : Tab) (S H : Hp) (x : V) (d : D) (H' : Hp) : Prop :=
  (H' = H ∧ DR K T S x d) ∨ ∃ (p : Addr) (vs : List V) (es : List D), x = .ref p ∧ H p = none ∧ H' = upd H p (.tup vs) ∧ d = .tup es ∧ DRs K T S vs es
theorem Came.mono {K : PySem.W.Frag} {T : Tab} {S S' H H' : Hp} {x : V} {d : D} (s : Same S S') (h : Came K T S H x d H') : Came K T S' H x d H' := by
  rcases h with ⟨e, h⟩ | ⟨p, vs, es, a1, a2, a3, a4, a5⟩
  · exact .inl ⟨e, h.mono s⟩
  · exact .inr ⟨p, vs, es, a1, a2, a3, a4, a5.mono s⟩
/-- the iterator J yields the data ds wherever S stands -/
def ItOk (K : PySem.W.Frag) (T : Tab) (J : It) (S : Hp) (ds : List D) : Prop :=
  (∀ H, Same S H → J.stop ds.length H) ∧ ∀ (i : Nat) (d : D), ds[i]? = some d → ∀ H, Same S H → J.go i H ∧ ∀ x H', J.yld i H x H' → Came K T S H x d H'
def SI (K : PySem.W.Frag) (T : Tab) (f : IF) : TI := fun σ H R => ∃ π F S ρ ds ρ', Rel K T π F S ρ σ H ∧ f ρ = .ok (ds, ρ') ∧ ∀ S' H' J, Same S S' → Rel K T π F S' ρ' σ H' → ItOk K T J S' ds → R J H'
theorem _root_.L2.PI.imp {X : Cx} {tg e : Expr} {t t' : TI} (h : PI X tg e t) (i : ∀ σ H Q, t' σ H Q → t σ H Q) : PI X tg e t' := ⟨fun pins s σ H Q I q => h.run pins s σ H Q I (i _ _ _ q)⟩
section
variable {K : PySem.W.Frag} {T : Tab} {S H : Hp} {a : Addr} {vs : List V} {ds : List D}
theorem itOk_list (hq : SqL K S a vs) (hd : DRs K T S vs ds) (inj : ∀ H xs, Same S H → SqL K H a xs → xs = vs) : ItOk K T (Itl K a) S ds :=
  ⟨fun H s => ⟨vs, s.seq hq, by rw [hd.length]; exact Nat.le_refl _⟩, fun i d hi H s => by
    obtain ⟨v, hv, hr⟩ := hd.get hi
    exact ⟨⟨vs, v, s.seq hq, hv⟩, fun x H' ⟨e, y⟩ => .inl ⟨e, by
      have := y vs (s.seq hq)
      rw [hv] at this; cases this
      exact hr⟩⟩⟩
end
/-- a list or tuple, frozen, walked -/
def iSeq (K : PySem.W.Frag) (tl : TE) : TI := fun σ H R => tl σ H fun x H1 => ∃ a, x = .ref a ∧ ((∃ xs, SqL K H1 a xs ∧ R (Itl K a) H1) ∨ (∃ xs, SqT K H1 a xs ∧ R (Itt K a) H1))
theorem pi_seq {X : Cx} {tg l : Expr} {tl : TE} (hl : PE X l tl) : PI X tg l (iSeq X.K tl) := by
  refine ⟨fun pins s σ H R I h => thn (hl.run pins s σ H _ I h) fun v s1 ⟨x, H1, I1, r1, a, e, q⟩ => ?_⟩
  subst e; cases r1
  have fp : ∀ b ∈ [s1.heap.objs.size], FpOk X pins H1 b := fun b hb => by
    obtain rfl : b = s1.heap.objs.size := by simpa using hb
    exact I1.fpOk (Nat.le_refl _) I1.fresh
  rcases q with ⟨xs, hq, q⟩ | ⟨xs, hq, q⟩
  · obtain ⟨its, rv, p, hz⟩ := I1.list hq
    exact wpAny_pyIter_list p.isList ⟨_, [s1.heap.objs.size], _, _, H1, rfl, I1.kept (t' := s1.toks) fun b o e => Heap.get?_push_of_some _ e, turn_list a _, ⟨_, Heap.get?_push_size _ rfl, rfl, rfl⟩, fp, q⟩
  · obtain ⟨its, rv, p, hz⟩ := I1.tuple hq
    exact wpAny_pyIter_tuple (show s1.heap.IsTuple a its.toArray from p) ⟨_, [s1.heap.objs.size], _, _, H1, rfl, I1.kept (t' := s1.toks) fun b o e => Heap.get?_push_of_some _ e, turn_tuple a _, ⟨_, Heap.get?_push_size _ rfl, rfl, rfl⟩, fp, q⟩
/-- a source: the items of frozen data -/
def iData (f : EF) : IF := fun ρ => (f ρ).bind fun p => match p.1 with
  | .fro d => (Res.of d.items).bind fun ds => .ok (ds, p.2)
  | .own d => (Res.of d.items).bind fun ds => .ok (ds, p.2)
  | _ => .bad
def pairs (ds : List D) : List D := ds.zipIdx.map fun p => .tup [.int p.2, p.1]
def iEnumD (f : AF) : IF := fun ρ => (f ρ).bind fun p => match p.1 with
  | [.fro d] => (Res.of d.items).bind fun ds => .ok (pairs ds, p.2)
  | _ => .bad
def intsD (lo : Int) (n : Nat) : List D := (List.range n).map fun i : Nat => .int (lo + (i : Int))
def small (i : Int) : Bool := decide (-(2 ^ 62) ≤ i) && decide (i < 2 ^ 62)
def iRange1 (f : AF) : IF := fun ρ => (f ρ).bind fun p => match p.1 with
  | [.fro (.int j)] => if small j then .ok (intsD 0 j.toNat, p.2) else .bad
  | _ => .bad
def iRange2 (f : AF) : IF := fun ρ => (f ρ).bind fun p => match p.1 with
  | [.fro (.int i), .fro (.int j)] => if small i && small j then .ok (intsD i (j - i).toNat, p.2) else .bad
  | _ => .bad
theorem small_of {i : Int} (h : small i = true) : -(2 ^ 62) ≤ i ∧ i < 2 ^ 62 := by
  unfold small at h
  rw [Bool.and_eq_true] at h
  exact ⟨of_decide_eq_true h.1, of_decide_eq_true h.2⟩
section
variable {K : PySem.W.Frag} {T : Tab} {S H : Hp} {a : Addr} {vs : List V} {ds : List D}
theorem itOk_seqL (hq : SqL K S a vs) (hd : DRs K T S vs ds) : ItOk K T (Itl K a) S ds :=
  ⟨fun H s => ⟨vs, s.seq hq, by rw [hd.length]; exact Nat.le_refl _⟩, fun i d hi H s => by
    obtain ⟨v, hv, hr⟩ := hd.get hi
    exact ⟨⟨vs, v, s.seq hq, hv⟩, fun x H' ⟨e, y⟩ => .inl ⟨e, by
      have := y vs (s.seq hq)
      rw [hv] at this; cases this
      exact hr⟩⟩⟩
theorem itOk_seqT (hq : SqT K S a vs) (hd : DRs K T S vs ds) : ItOk K T (Itt K a) S ds :=
  ⟨fun H s => ⟨vs, sqT_same s hq, by rw [hd.length]; exact Nat.le_refl _⟩, fun i d hi H s => by
    obtain ⟨v, hv, hr⟩ := hd.get hi
    exact ⟨⟨vs, v, sqT_same s hq, hv⟩, fun x H' ⟨e, y⟩ => .inl ⟨e, by
      have := y vs (sqT_same s hq)
      rw [hv] at this; cases this
      exact hr⟩⟩⟩
theorem itOk_range {lo : Int} {n : Nat} : ItOk K T (Itr lo n) S (intsD lo n) :=
  ⟨fun H s => by
    show n ≤ (intsD lo n).length
    unfold intsD
    rw [List.length_map, List.length_range]; exact Nat.le_refl _, fun i d hi H s => by
    unfold intsD at hi
    rw [List.getElem?_map, Option.map_eq_some_iff] at hi
    obtain ⟨j, hj, rfl⟩ := hi
    have hl := (List.getElem?_eq_some_iff.mp hj).1
    rw [List.length_range] at hl
    rw [List.getElem?_range hl] at hj
    cases hj
    exact ⟨hl, fun x H' ⟨e, y⟩ => .inl ⟨e, by rw [y]; exact .int _⟩⟩⟩
theorem pairs_get {i : Nat} {d : D} (h : (pairs ds)[i]? = some d) : ∃ e, ds[i]? = some e ∧ d = .tup [.int (i : Nat), e] := by
  unfold pairs at h
  rw [List.getElem?_map, Option.map_eq_some_iff] at h
  obtain ⟨p, hp, rfl⟩ := h
  rw [List.getElem?_zipIdx, Option.map_eq_some_iff] at hp
  obtain ⟨e, he, rfl⟩ := hp
  exact ⟨e, he, by simp⟩
theorem pairs_len : (pairs ds).length = ds.length := by unfold pairs; rw [List.length_map, List.length_zipIdx]
theorem itOk_enumL (hq : SqL K S a vs) (hd : DRs K T S vs ds) : ItOk K T (Ite K a) S (pairs ds) :=
  ⟨fun H s => ⟨vs, s.seq hq, by rw [pairs_len, hd.length]; exact Nat.le_refl _⟩, fun i d hi H s => by
    obtain ⟨e, he, rfl⟩ := pairs_get hi
    obtain ⟨v, hv, hr⟩ := hd.get he
    exact ⟨⟨vs, v, s.seq hq, hv⟩, fun x H' ⟨p, y, e1, e2, e3, e4⟩ => .inr ⟨p, _, _, e1, e2, e3, rfl, by
      have := e4 vs (s.seq hq)
      rw [hv] at this; cases this
      exact .cons (.int _) (.cons hr .nil)⟩⟩⟩
theorem itOk_enumT (hq : SqT K S a vs) (hd : DRs K T S vs ds) : ItOk K T (ItT K a vs.length) S (pairs ds) :=
  ⟨fun H s => ⟨vs, sqT_same s hq, rfl, by rw [pairs_len, hd.length]; exact Nat.le_refl _⟩, fun i d hi H s => by
    obtain ⟨e, he, rfl⟩ := pairs_get hi
    obtain ⟨v, hv, hr⟩ := hd.get he
    exact ⟨⟨vs, v, sqT_same s hq, hv, rfl⟩, fun x H' ⟨p, y, e1, e2, e3, e4⟩ => .inr ⟨p, _, _, e1, e2, e3, rfl, by
      have := e4 vs (sqT_same s hq)
      rw [hv] at this; cases this
      exact .cons (.int _) (.cons hr .nil)⟩⟩⟩
end
section
variable {X : Cx} {T : Tab} {tg e a b : Expr} {fe : EF} {f : AF} {p pos : Pos}
theorem ii_data (h : PE X e (SE X.K T fe)) : PI X tg e (SI X.K T (iData fe)) := (pi_seq h).imp fun σ H R ⟨π, F, S, ρ, ds, ρ', Re, e, q⟩ => by
  obtain ⟨⟨r, ρ1⟩, e1, e⟩ := Res.bind_eq e
  have key : ∀ (d : D), r.hold = .fro d → (Res.of d.items).bind (fun ds => Res.ok (ds, ρ1)) = .ok (ds, ρ') → SE X.K T fe σ H fun x H1 => ∃ a, x = .ref a ∧ ((∃ xs, SqL X.K H1 a xs ∧ R (Itl X.K a) H1) ∨ (∃ xs, SqT X.K H1 a xs ∧ R (Itt X.K a) H1)) := fun d hr e => by
    obtain ⟨ds', e2, e⟩ := Res.bind_eq e
    cases e
    refine ⟨π, F, S, ρ, r, _, Re, e1, fun S1 H1 v s1 R1 rv => ?_⟩
    obtain ⟨S2, s2, R2, hv⟩ := rv.hold R1
    rw [hr] at hv
    have hv : DR X.K T S2 v d := hv
    have e2 := Res.of_eq e2
    cases d <;> first | (cases e2; done) | skip
    · cases e2
      cases hv with
      | tup hq hd => exact ⟨_, rfl, .inr ⟨_, sqT_same R2.sS hq, q S2 H1 _ (s1.trans s2) R2 (itOk_seqT hq hd)⟩⟩
    · cases e2
      cases hv with
      | lst hq hd => exact ⟨_, rfl, .inl ⟨_, .of (R2.sS _ _ hq), q S2 H1 _ (s1.trans s2) R2 (itOk_seqL (.of hq) hd)⟩⟩
    · cases e2
      cases hv with
      | scr hq => exact ⟨_, rfl, .inl ⟨_, R2.sS.seq hq, q S2 H1 _ (s1.trans s2) R2 (itOk_seqL hq (drs_ints _))⟩⟩
  cases r with
  | bor i => cases e
  | fro d => exact key d rfl e
  | own d => exact key d rfl e
theorem ii_enum {elts : List Expr} {kk : Nat} {tpos : Pos} (hg : Gl X "enumerate") (hm : X.mg "enumerate" = none) (ha : PA X [e] (SA X.K T f)) (hs : starEach [e] X.env = [(false, eval e X.env)] := by rfl) :
    PI X (.Tuple elts kk tpos) (.Call (.Name "enumerate" p) [e] [] pos) (SI X.K T (iEnumD f)) := (pi_enumS hg hm ha hs).imp fun σ H R ⟨π, F, S, ρ, ds, ρ', Re, e, q⟩ => by
  obtain ⟨⟨rs, ρ1⟩, e1, e⟩ := Res.bind_eq e
  refine ⟨π, F, S, ρ, rs, ρ1, Re, e1, fun S1 H1 vs s1 R1 hv => ?_⟩
  match rs, e, hv with
  | [.fro d], e, .cons hv .nil =>
    obtain ⟨ds', e2, e⟩ := Res.bind_eq (show (Res.of d.items).bind (fun ds => Res.ok (pairs ds, ρ1)) = .ok (ds, ρ') from e)
    cases e
    have hv : DR X.K T S1 _ d := hv
    have e2 := Res.of_eq e2
    cases d <;> first | (cases e2; done) | skip
    · cases e2
      cases hv with
      | tup hq hd => exact ⟨_, _, rfl, .inl ⟨sqT_same R1.sS hq, q S1 H1 _ s1 R1 (itOk_enumT hq hd)⟩⟩
    · cases e2
      cases hv with
      | lst hq hd => exact ⟨_, _, rfl, .inr ⟨.of (R1.sS _ _ hq), q S1 H1 _ s1 R1 (itOk_enumL (.of hq) hd)⟩⟩
    · cases e2
      cases hv with
      | scr hq => exact ⟨_, _, rfl, .inr ⟨R1.sS.seq hq, q S1 H1 _ s1 R1 (itOk_enumL hq (drs_ints _))⟩⟩
theorem ii_range1 (hg : Gl X "range") (hm : X.mg "range" = none) (ha : PA X [a] (SA X.K T f)) (hs : starEach [a] X.env = [(false, eval a X.env)] := by rfl) : PI X tg (.Call (.Name "range" p) [a] [] pos) (SI X.K T (iRange1 f)) := (pi_range1 hg hm ha hs).imp fun σ H R ⟨π, F, S, ρ, ds, ρ', Re, e, q⟩ => by
  obtain ⟨⟨rs, ρ1⟩, e1, e⟩ := Res.bind_eq e
  refine ⟨π, F, S, ρ, rs, ρ1, Re, e1, fun S1 H1 vs s1 R1 hv => ?_⟩
  match rs, e, hv with
  | [.fro (.int j)], e, .cons hv .nil =>
    have e : (if small j then Res.ok (intsD 0 j.toNat, ρ1) else .bad) = .ok (ds, ρ') := e
    split at e
    · rename_i hj
      cases e
      cases (show DR X.K T S1 _ (.int j) from hv)
      obtain ⟨h1, h2⟩ := small_of hj
      exact ⟨j, rfl, h1, h2, q S1 H1 _ s1 R1 itOk_range⟩
    · cases e
theorem ii_range2 (hg : Gl X "range") (hm : X.mg "range" = none) (ha : PA X [a, b] (SA X.K T f)) (hs : starEach [a, b] X.env = [(false, eval a X.env), (false, eval b X.env)] := by rfl) (hs2 : starEach [b] X.env = [(false, eval b X.env)] := by rfl) : PI X tg (.Call (.Name "range" p) [a, b] [] pos) (SI X.K T (iRange2 f)) := (pi_range2 hg hm ha hs hs2).imp fun σ H R ⟨π, F, S, ρ, ds, ρ', Re, e, q⟩ => by
  obtain ⟨⟨rs, ρ1⟩, e1, e⟩ := Res.bind_eq e
  refine ⟨π, F, S, ρ, rs, ρ1, Re, e1, fun S1 H1 vs s1 R1 hv => ?_⟩
  match rs, e, hv with
  | [.fro (.int i), .fro (.int j)], e, .cons hv (.cons hw .nil) =>
    have e : (if small i && small j then Res.ok (intsD i (j - i).toNat, ρ1) else .bad) = .ok (ds, ρ') := e
    split at e
    · rename_i hj
      cases e
      cases (show DR X.K T S1 _ (.int i) from hv)
      cases (show DR X.K T S1 _ (.int j) from hw)
      rw [Bool.and_eq_true] at hj
      obtain ⟨h1, h2⟩ := small_of hj.1
      obtain ⟨h3, h4⟩ := small_of hj.2
      exact ⟨i, j, rfl, ⟨h1, h2, h3, h4⟩, q S1 H1 _ s1 R1 itOk_range⟩
    · cases e
end

/-! ### for -/
def forL (g : GF) (body : SF) : List D → Env → Res (Fl × Env)
  | [], ρ => .ok (.nx, ρ)
  | d :: ds, ρ => (g d ρ).bind fun ρ1 => (body ρ1).bind fun p => match p.1 with
    | .nx => forL g body ds p.2
    | .ct => forL g body ds p.2
    | .bk => .ok (.nx, p.2)
    | .ret r => .ok (.ret r, p.2)
def sFor (g : GF) (src : IF) (body : SF) : SF := fun ρ => (src ρ).bind fun p => forL g body p.1 p.2
section
variable {X : Cx} {T : Tab} {tg iter c : Expr} {body : List Stmt} {g : GF} {is : List Nat} {src : IF} {fb : SF} {fc : BF} {pos : Pos}
/-- an item has come -/
theorem came {K : PySem.W.Frag} {π σ : L2.St} {F S H H' : Hp} {ρ : Env} {x : V} {d : D} (R : Rel K T π F S ρ σ H)
    (h : Came K T S H x d H') :
    ∃ S', Same S S' ∧ Rel K T π F S' ρ σ H' ∧ DR K T S' x d ∧ ∀ b o, H b = some o → S b = none → S' b = none := by
  rcases h with ⟨rfl, h⟩ | ⟨p, vs, es, rfl, hp, rfl, rfl, h⟩
  · exact ⟨S, Same.refl S, R, h, fun _ _ _ z => z⟩
  · obtain ⟨s, R', q⟩ := new_tup R h hp
    exact ⟨_, s, R', q, fun b o e z => by rw [upd_ne (ne_of_none e hp)]; exact z⟩
theorem ss_for (hp : PassesOwn (model X.prog X.w) X.A X.env X.xe) (hc : X.calm = true) (hi : PI X tg iter (SI X.K T src)) (hg : PG X tg (SG X.K T g is)) (hb : PSs X body (SS X.K T fb))
    (hs : ∀ x, foldedSetIterable iter X.env x = pure x := by intro _; rfl) : PS X (.For tg iter body [] pos) (SS X.K T (sFor g src fb)) := (ps_for hp hc hi hg hb hs).imp fun E σ H ⟨π, F, S, ρ, fl, ρ', Re, e, q⟩ => by
  obtain ⟨⟨ds, ρ1⟩, e1, e⟩ := Res.bind_eq e
  refine ⟨π, F, S, ρ, ds, ρ1, Re, e1, fun S0 H0 J s0 R0 ok => ?_⟩
  refine ⟨fun i m σ H => m = ds.length - i ∧ i ≤ ds.length ∧ ∃ S1 ρ2, Same S0 S1 ∧ Rel X.K T π F S1 ρ2 σ H ∧ forL g fb (ds.drop i) ρ2 = .ok (fl, ρ') ∧ FlW X.K T π F S1 ρ' E fl, ⟨_, rfl, Nat.zero_le _, S0, ρ1, Same.refl _, R0, e, q.mono s0⟩, ?_⟩
  rintro i m σ1 H1 ⟨rfl, hi, S1, ρ2, s1, R1, e2, q2⟩
  by_cases hl : i < ds.length
  · refine .inr ?_
    have hd : ds[i]? = some ds[i] := List.getElem?_eq_getElem hl
    obtain ⟨go, yl⟩ := ok.2 i _ hd H1 (s1.trans R1.sS)
    refine ⟨go, fun σ' H' => ∃ S3 ρ3, Same S0 S3 ∧ Rel X.K T π F S3 ρ3 σ' H' ∧ forL g fb (ds.drop (i + 1)) ρ3 = .ok (fl, ρ') ∧ FlW X.K T π F S3 ρ' E fl, fun σ' H' n => ⟨_, by omega, rfl, hl, n⟩, fun x H' hy => ?_⟩
    rw [List.drop_eq_getElem_cons hl] at e2
    obtain ⟨ρ3, e3, e4⟩ := Res.bind_eq e2
    obtain ⟨⟨fl4, ρ4⟩, e5, e6⟩ := Res.bind_eq e4
    have hx := (yl x H' hy).mono s1
    obtain ⟨S2, s2, R2, dx, _⟩ := came R1 hx
    refine ⟨π, F, S2, ρ2, ds[i], ρ3, R2, dx, e3, fun σ2 R3 _ => ⟨π, F, S2, ρ3, fl4, ρ4, R3, e5, ?_⟩⟩
    cases fl4 with
    | nx => exact fun S' σ' H' s' R' => ⟨S', ρ4, s1.trans (s2.trans s'), R', e6, q2.mono (s2.trans s')⟩
    | ct => exact fun S' σ' H' s' R' => ⟨S', ρ4, s1.trans (s2.trans s'), R', e6, q2.mono (s2.trans s')⟩
    | bk => cases e6; exact fun S' σ' H' s' R' => q2 S' σ' H' (s2.trans s') R'
    | ret r => cases e6; exact fun S' σ' H' v s' R' rv => q2 S' σ' H' v (s2.trans s') R' rv
  · have ei : i = ds.length := by omega
    subst ei
    rw [List.drop_length] at e2
    cases e2
    exact .inl ⟨ok.1 H1 (s1.trans R1.sS), q2 S1 σ1 H1 (Same.refl _) R1⟩

/-! ### while -/
def sWhile (c : BF) (body : SF) : Nat → SF
  | 0, _ => .bad
  | n + 1, ρ => (c ρ).bind fun p => if p.1 = true then (body p.2).bind fun q => match q.1 with
      | .nx => sWhile c body n q.2
      | .ct => sWhile c body n q.2
      | .bk => .ok (.nx, q.2)
      | .ret r => .ok (.ret r, q.2)
    else .ok (.nx, p.2)
theorem ss_while (n : Nat) (hp : PassesOwn (model X.prog X.w) X.A X.env X.xe) (hc : PT X c (ST X.K T fc)) (hb : PSs X body (SS X.K T fb)) : PS X (.While c body [] pos) (SS X.K T (sWhile fc fb n)) := (ps_while hp hc hb).imp fun D σ H ⟨π, F, S, ρ, fl, ρ', Re, e, q⟩ => by
  refine ⟨fun m σ H => ∃ S1 ρ2, Rel X.K T π F S1 ρ2 σ H ∧ sWhile fc fb m ρ2 = .ok (fl, ρ') ∧ FlW X.K T π F S1 ρ' D fl, ⟨n, S, ρ, Re, e, q⟩, ?_⟩
  rintro m σ1 H1 ⟨S1, ρ2, R1, e2, q2⟩
  cases m with
  | zero => cases e2
  | succ m =>
    obtain ⟨⟨b, ρ3⟩, e3, e4⟩ := Res.bind_eq e2
    refine ⟨π, F, S1, ρ2, b, ρ3, R1, e3, fun S2 H2 s2 R2 => ?_⟩
    cases b with
    | false =>
      cases e4
      exact q2 S2 σ1 H2 s2 R2
    | true =>
      obtain ⟨⟨fl4, ρ4⟩, e5, e6⟩ := Res.bind_eq (show (fb ρ3).bind _ = _ from e4)
      refine ⟨fun σ' H' => ∃ S3 ρ5, Rel X.K T π F S3 ρ5 σ' H' ∧ sWhile fc fb m ρ5 = .ok (fl, ρ') ∧ FlW X.K T π F S3 ρ' D fl, fun σ' H' h => ⟨m, Nat.lt_succ_self _, h⟩, π, F, S2, ρ3, fl4, ρ4, R2, e5, ?_⟩
      cases fl4 with
      | nx => exact fun S' σ' H' s' R' => ⟨S', ρ4, R', e6, q2.mono (s2.trans s')⟩
      | ct => exact fun S' σ' H' s' R' => ⟨S', ρ4, R', e6, q2.mono (s2.trans s')⟩
      | bk => cases e6; exact fun S' σ' H' s' R' => q2 S' σ' H' (s2.trans s') R'
      | ret r => cases e6; exact fun S' σ' H' v s' R' rv => q2 S' σ' H' v (s2.trans s') R' rv
end

/-! ### comprehensions -/
theorem wipe_in {u : Nat} : ∀ {τ : L2.St} {ws : List Nat}, u ∈ ws → (wipe τ ws)[u]? = if u < τ.length then some none else none
  | τ, [], h => by cases h
  | τ, w :: ws, h => by
    show ((wipe τ ws).set w none)[u]? = _
    by_cases hw : w = u
    · subst hw
      rw [List.getElem?_set]
      simp [wipe_length]
    · rw [List.getElem?_set_ne hw]
      exact wipe_in ((List.mem_cons.mp h).resolve_left fun z => hw z.symm)
theorem wipe_wipe {σ : L2.St} {vs : List Nat} : wipe (wipe σ vs) vs = wipe σ vs := by
  apply List.ext_getElem?
  intro k
  by_cases hk : k ∈ vs
  · rw [wipe_in hk, wipe_in hk, wipe_length]
  · rw [wipe_out hk]

def wipeE (ρ : Env) : List Nat → Env
  | [] => ρ
  | v :: vs => (wipeE ρ vs).set v .un
def RV.take : RV → Option D
  | .fro d => some d
  | .own d => some d
  | .bor _ => none
def lcL (g : GF) (vs : List Nat) (tt : BF) (te : EF) : List D → Env → List D → Res (List D × Env)
  | [], ρ, acc => .ok (acc, ρ)
  | d :: ds, ρ, acc => (g d ρ).bind fun ρ1 => (tt ρ1).bind fun p => if p.1 = true then
      (te p.2).bind fun q => (Res.of q.1.take).bind fun y => if acc.length < sizeLine then lcL g vs tt te ds (wipeE q.2 vs) (acc ++ [y]) else .bad
    else lcL g vs tt te ds (wipeE p.2 vs) acc
def eLc (g : GF) (vs : List Nat) (src : IF) (tt : BF) (te : EF) : EF := fun ρ => (src ρ).bind fun p => (lcL g vs tt te p.1 (wipeE p.2 vs) []).bind fun q => .ok (.own (.lst q.1), q.2)
def bYes : BF := fun ρ => .ok (true, ρ)
section
variable {K : PySem.W.Frag} {T : Tab} {π σ : L2.St} {F S S' H H' : Hp} {ρ ρ' : Env} {a : Addr} {v : V} {d : D} {r : RV}
theorem wipeE_length (ρ : Env) : ∀ vs : List Nat, (wipeE ρ vs).length = ρ.length
  | [] => rfl
  | v :: vs => by unfold wipeE; rw [List.length_set, wipeE_length ρ vs]
theorem wipeE_get : ∀ {vs : List Nat} {i : Nat} {c : Cell}, (wipeE ρ vs)[i]? = some c → c = .un ∨ (ρ[i]? = some c ∧ i ∉ vs)
  | [], i, c, h => .inr ⟨h, by simp⟩
  | v :: vs, i, c, h => by
    rcases getElem?_set_cases h with ⟨rfl, rfl⟩ | ⟨n, h⟩
    · exact .inl rfl
    · rcases wipeE_get h with z | ⟨z, m⟩
      · exact .inl z
      · exact .inr ⟨z, by simp only [List.mem_cons, not_or]; exact ⟨n, m⟩⟩
/-- the names of a block forgotten -/
theorem Rel.wipe {τ : L2.St} (R : Rel K T π F S ρ σ H) (vs : List Nat) (hl : τ.length = σ.length) (h : ∀ i, i ∉ vs → τ[i]? = σ[i]?) : Rel K T π F S (wipeE ρ vs) τ H := by
  refine ⟨R.sS, R.sF, R.dj, R.nS, R.nF, R.tb, by rw [wipeE_length, hl]; exact R.len, fun i c hc => ?_, fun i j b ci cj hi hj mi mj ei ej => ?_⟩
  · rcases wipeE_get hc with rfl | ⟨hc, n⟩
    · trivial
    · rw [h i n]; exact R.sl i c hc
  · rcases wipeE_get hi with rfl | ⟨hi, n1⟩
    · cases mi
    · rcases wipeE_get hj with rfl | ⟨hj, n2⟩
      · cases mj
      · exact R.ds i j b ci cj hi hj mi mj (by rw [← h i n1]; exact ei) (by rw [← h j n2]; exact ej)
theorem Apart.wipe {τ : L2.St} (A : Apart ρ σ a) (vs : List Nat) (h : ∀ i, i ∉ vs → τ[i]? = σ[i]?) : Apart (wipeE ρ vs) τ a := fun i c hc m e => by
  rcases wipeE_get hc with rfl | ⟨hc, n⟩
  · cases m
  · exact A i c hc m (by rw [← h i n]; exact e)
theorem RVR.take (R : Rel K T π F S ρ σ H) (h : RVR K T F S H ρ σ v r) (e : r.take = some d) : ∃ S', Same S S' ∧ Rel K T π F S' ρ σ H ∧ DR K T S' v d := by
  cases r with
  | bor i => cases e
  | fro d' => cases e; exact ⟨S, Same.refl S, R, h⟩
  | own d' => cases e; obtain ⟨S', s, R', hv⟩ := h.hold R; exact ⟨S', s, R', hv⟩
end
/-- a turn's end: the new item is put to the list at A -/
theorem lc_put {K : PySem.W.Frag} {T : Tab} {π σ : L2.St} {F S H : Hp} {ρ : Env} {A : Addr} {y : V} {d : D} {accV : List V} {acc : List D} (nF : F A = none) (R : Rel K T π (upd F A (.lst accV)) S ρ σ H) (ha : DRs K T S accV acc) (hy : DR K T S y d) :
    Rel K T π F S ρ σ (upd H A (.lst (accV ++ [y]))) ∧ S A = none ∧ Apart ρ σ A ∧ H A = some (.lst accV) ∧ DRs K T S (accV ++ [y]) (acc ++ [d]) := by
  obtain ⟨R1, hA, nS, ap⟩ := Rel.unlend nF R
  refine ⟨R1.step (Same.refl S) (fun b x q => ?_) (fun b x q => ?_) R1.dj R1.nS (tabs_keep (S := S) (d := .lst acc) R1.tb ⟨accV, hA, ha⟩ fun b hb => upd_ne hb) fun i c b hc m e => ?_, nS, ap, hA, ha.append (.one hy)⟩
  · rw [upd_ne (ne_of_none q nS)]; exact R1.sS _ _ q
  · rw [upd_ne (ne_of_none q nF)]; exact R1.sF _ _ q
  · exact ⟨upd_ne fun z => ap i c hc m (by rw [e, z]), (R1.ownAt hc m e).1⟩
section
variable {X : Cx} {T : Tab} {elt tg iter : Expr} {ifs : List Expr} {scope : Scope} {own : List (Str × Nat)} {pos : Pos} {g : GF} {is : List Nat} {src : IF} {ft : BF} {fe : EF}
theorem lc_run {K : PySem.W.Frag} {vs : List Nat} (hvs : ∀ i ∈ is, i ∈ vs) {σ : L2.St} {H : Hp} {Q : VK} (h : SE K T (eLc g vs src ft fe) σ H Q) : tLc (SI K T src) (SG K T g is) (ST K T ft) (SE K T fe) vs σ H Q := by
  obtain ⟨π, F, S, ρ, r, ρ', Re, e, q⟩ := h
  obtain ⟨⟨ds, ρ1⟩, e1, e⟩ := Res.bind_eq e
  obtain ⟨⟨out, ρ2⟩, e2, e⟩ := Res.bind_eq e
  cases e
  refine ⟨π, F, S, ρ, ds, ρ1, Re, e1, fun S0 H0 J s0 R0 ok => ?_⟩
  intro A hA
  have hw : ∀ (τ : L2.St) i, i ∉ vs → (wipe τ vs)[i]? = τ[i]? := fun τ i hi => wipe_out hi
  let W : Nat → Nat → Hp → Prop := fun i m H => m = ds.length - i ∧ i ≤ ds.length ∧ ∃ S1 ρ3 accV acc, Same S0 S1 ∧ Rel K T π F S1 ρ3 (wipe σ vs) H ∧ H A = some (.lst accV) ∧ S1 A = none ∧ F A = none ∧ Apart ρ3 (wipe σ vs) A ∧ DRs K T S1 accV acc ∧
    (∀ i ∈ vs, ∀ c, ρ3[i]? = some c → c = .un) ∧ lcL g vs ft fe (ds.drop i) ρ3 acc = .ok (out, ρ2)
  have wun : ∀ (τ : Env), ∀ i ∈ vs, ∀ c, (wipeE τ vs)[i]? = some c → c = .un := fun τ i hi c hc => by
    rcases wipeE_get hc with z | ⟨_, n⟩
    · exact z
    · exact absurd hi n
  refine ⟨W, ⟨_, rfl, Nat.zero_le _, S0, wipeE ρ1 vs, [], [], Same.refl _, (R0.alloc hA).wipe vs (wipe_length _ _) (hw σ), upd_same, same_none R0.sS hA, same_none R0.sF hA, (R0.apart hA).wipe vs (hw σ), .nil, wun ρ1, e2⟩, ?_⟩
  rintro i m H1 ⟨rfl, hi, S1, ρ3, accV, acc, s1, R1, hA1, nS, nF, ap, hacc, hun, e3⟩
  by_cases hl : i < ds.length
  · refine .inr ?_
    have hd : ds[i]? = some ds[i] := List.getElem?_eq_getElem hl
    obtain ⟨go, yl⟩ := ok.2 i _ hd H1 (s1.trans R1.sS)
    refine ⟨go, fun H' => W (i + 1) (ds.length - (i + 1)) H', fun H' h => ⟨_, by omega, h⟩, fun x H' hy => ?_⟩
    rw [List.drop_eq_getElem_cons hl] at e3
    obtain ⟨ρ4, e4, e5⟩ := Res.bind_eq e3
    obtain ⟨⟨b, ρ5⟩, e6, e7⟩ := Res.bind_eq e5
    have hx := (yl x H' hy).mono s1
    have RL := R1.lend (d := .lst acc) ⟨nS, nF, accV, hA1, hacc⟩ ap hA1
    obtain ⟨S2, s2, R2, dx, _⟩ := came RL hx
    refine ⟨π, _, S2, ρ3, ds[i], ρ4, R2, dx, e4, fun σ2 R3 w => ?_⟩
    have w2 := w vs hvs
    rw [wipe_wipe] at w2
    refine ⟨w2, ?_⟩
    have hσ : ∀ k, k ∉ vs → (wipe σ vs)[k]? = σ2[k]? := fun k hk => by rw [← w2]; exact hw σ2 k hk
    have hl2 : (wipe σ vs).length = σ2.length := by rw [← w2, wipe_length]
    refine ⟨π, _, S2, ρ4, b, ρ5, R3, e6, fun S3 H3 s3 R4 => ?_⟩
    cases b with
    | false =>
      refine ⟨rfl, hl, S3, wipeE ρ5 vs, accV, acc, s1.trans (s2.trans s3), ?_, ?_, ?_, nF, ?_, hacc.mono (s2.trans s3), wun ρ5, e7⟩
      · exact (Rel.unlend nF R4).1.wipe vs hl2 hσ
      · exact (Rel.unlend nF R4).2.1
      · exact (Rel.unlend nF R4).2.2.1
      · exact (Rel.unlend nF R4).2.2.2.wipe vs hσ
    | true =>
      obtain ⟨⟨ry, ρ6⟩, e8, e9⟩ := Res.bind_eq (show (fe ρ5).bind _ = _ from e7)
      obtain ⟨y, e10, e11⟩ := Res.bind_eq e9
      refine ⟨π, _, S3, ρ5, ry, ρ6, R4, e8, fun S4 H4 v s4 R5 rv => ?_⟩
      obtain ⟨S5, s5, R6, hy⟩ := rv.take R5 (Res.of_eq e10)
      obtain ⟨R7, nS5, ap5, hA5, hacc5⟩ := lc_put nF R6 (hacc.mono (s2.trans (s3.trans (s4.trans s5)))) hy
      have e11 : (if acc.length < sizeLine then lcL g vs ft fe (ds.drop (i + 1)) (wipeE ρ6 vs) (acc ++ [y]) else .bad) = .ok (out, ρ2) := e11
      split at e11
      · rename_i hz
        refine ⟨accV, hA5, by rw [hacc.length]; exact hz, rfl, hl, S5, wipeE ρ6 vs, accV ++ [v], acc ++ [y], s1.trans (s2.trans (s3.trans (s4.trans s5))), R7.wipe vs hl2 hσ, upd_same, nS5, nF, ap5.wipe vs hσ, hacc5, wun ρ6, e11⟩
      · cases e11
  · have ei : i = ds.length := by omega
    subst ei
    rw [List.drop_length] at e3
    cases e3
    have R2 : Rel K T π F S1 ρ2 σ H1 := by
      refine ⟨R1.sS, R1.sF, R1.dj, R1.nS, R1.nF, R1.tb, by rw [R1.len, wipe_length], fun k c hc => ?_, fun j k b cj ck hj hk mj mk ej ek => ?_⟩
      · by_cases hk : k ∈ vs
        · rw [hun k hk c hc]; trivial
        · rw [← hw σ k hk]; exact R1.sl k c hc
      · have nin : ∀ {k : Nat} {c : Cell}, ρ2[k]? = some c → c.mut = true → k ∉ vs := fun h m z => by
          rw [hun _ z _ h] at m; cases m
        exact R1.ds j k b cj ck hj hk mj mk (by rw [hw σ j (nin hj mj)]; exact ej) (by rw [hw σ k (nin hk mk)]; exact ek)
    refine .inl ⟨ok.1 H1 (s1.trans R1.sS), q S1 H1 _ (s0.trans s1) R2 ⟨A, rfl, ⟨nS, nF, accV, hA1, hacc⟩, fun k c hc m z => ?_⟩⟩
    have nin : k ∉ vs := fun y => by rw [hun _ y _ hc] at m; cases m
    exact ap k c hc m (by rw [hw σ k nin]; exact z)
theorem ee_lc (hc : X.calm = true) (hN : X.N.Nodup) (hi : PI X tg iter (SI X.K T src)) (ok : BlkOk X.N X.env.scope scope own)
    (hg : ∀ (s : Shared) (H : Hp) (C : Addr) (cl : List (Str × Addr)) (fp : List Addr), PG (X.blk s H scope (compEnvC scope cl C X.env) fp) tg (SG X.K T g is)) (ht : ∀ (s : Shared) (H : Hp) (C : Addr) (cl : List (Str × Addr)) (fp : List Addr), PTs (X.blk s H scope (compEnvC scope cl C X.env) fp) ifs (ST X.K T ft))
    (he : ∀ (s : Shared) (H : Hp) (C : Addr) (cl : List (Str × Addr)) (fp : List Addr), PE (X.blk s H scope (compEnvC scope cl C X.env) fp) elt (SE X.K T fe)) (hvs : ∀ i ∈ is, i ∈ own.map (·.2) := by decide) (hs : ∀ x, foldedSetIterable iter X.env x = pure x := by intro _; rfl) :
    PE X (.ListComp elt [⟨tg, iter, ifs, 0⟩] scope pos) (SE X.K T (eLc g (own.map (·.2)) src ft fe)) := (pe_lc hc hN hi ok hg ht he hs).imp fun _ _ _ q => lc_run hvs q
theorem ss_setLc {i : Nat} {y : Str} {py spos : Pos} (hc : X.calm = true) (hN : X.N.Nodup) (hy : X.N[i]? = some y) (hyl : X.env.scope.names.lookup y = some .local)
    (hsw : swapsWith (.ListComp elt [⟨tg, iter, ifs, 0⟩] scope pos) (some (.Name y py)) spos.line X.env = pure true) (hi : PI X tg iter (SI X.K T src)) (ok : BlkOk X.N X.env.scope scope own)
    (hg : ∀ (s : Shared) (H : Hp) (C : Addr) (cl : List (Str × Addr)) (fp : List Addr), PG (X.blk s H scope (compEnvC scope cl C X.env) fp) tg (SG X.K T g is)) (ht : ∀ (s : Shared) (H : Hp) (C : Addr) (cl : List (Str × Addr)) (fp : List Addr), PTs (X.blk s H scope (compEnvC scope cl C X.env) fp) ifs (ST X.K T ft))
    (he : ∀ (s : Shared) (H : Hp) (C : Addr) (cl : List (Str × Addr)) (fp : List Addr), PE (X.blk s H scope (compEnvC scope cl C X.env) fp) elt (SE X.K T fe)) (hvs : ∀ i ∈ is, i ∈ own.map (·.2) := by decide) (hs : ∀ x, foldedSetIterable iter X.env x = pure x := by intro _; rfl) :
    PS X (.Assign [.Name y py] (.ListComp elt [⟨tg, iter, ifs, 0⟩] scope pos) spos) (SS X.K T (sSet i (eLc g (own.map (·.2)) src ft fe))) := by
  have h := ps_setLc hc hN hy hyl hsw hi ok hg ht he hs
  refine ss_asg_name (h.imp fun D σ H q => ?_)
  exact lc_run hvs q
theorem ts_nil : PTs X [] (ST X.K T bYes) := ⟨fun pins s σ H Q I ⟨π, F, S, ρ, b, ρ', R, e, q⟩ => pts_nil.run pins s σ H Q I (by
  cases e
  exact q S H (Same.refl S) R)⟩
theorem ts_one {c : Expr} {t : BF} (h : PT X c (ST X.K T t)) : PTs X [c] (ST X.K T t) := pts_one h
end
end Dt
end

section
set_option Elab.async false
set_option linter.all false
set_option maxRecDepth 100000
set_option maxHeartbeats 4000000
set_option autoImplicit false
namespace Dt
open PySem PySem.Spec PyProof.Rows L2

/-! ### what a def promises -/
abbrev Fm := List Cell → Res (RV × List Cell)
def RV.made : RV → Bool
  | .bor _ => false
  | _ => true
def SpF (K : PySem.W.Frag) (T : Tab) (f : Fm) : Sp := fun vs H Q _ => ∃ F S cs r cs', Rel K T (vs.map some) F S cs (vs.map some) H ∧ f cs = .ok (r, cs') ∧ r.made = true ∧
  ∀ S' H' v, Same S S' → Rel K T (vs.map some) F S' cs' (vs.map some) H' → RVR K T F S' H' cs' (vs.map some) v r → Q v H'
def outC : Cell → Cell
  | .brw d => .brw d
  | _ => .un
def runF (n m : Nat) (body : SF) : Fm := fun cs => if cs.length = n then (body (cs ++ List.replicate m .un)).bind fun p => if n ≤ p.2.length then (match p.1 with
    | .nx => .ok (.fro .non, (p.2.take n).map outC)
    | .ret (.fro d) => .ok (.fro d, (p.2.take n).map outC)
    | .ret (.own d) => .ok (.own d, (p.2.take n).map outC)
    | _ => .bad) else .bad else .bad
section
variable {K : PySem.W.Frag} {T : Tab} {π σ : L2.St} {F S S' H H' : Hp} {ρ ρ' : Env} {a : Addr} {v : V} {d : D} {r : RV} {vs : List V} {N : List Str}
theorem start_pre (hl : vs.length ≤ N.length) {i : Nat} (hi : i < vs.length) : (L2.start N vs)[i]? = (vs.map some)[i]? := by
  unfold L2.start
  rw [List.getElem?_append_left (by simpa using hi)]
theorem Rel.pad (R : Rel K T (vs.map some) F S ρ (vs.map some) H) (hl : vs.length ≤ N.length) : Rel K T (L2.start N vs) F S (ρ ++ List.replicate (N.length - vs.length) .un) (start N vs) H := by
  have len : ρ.length = vs.length := by rw [R.len, List.length_map]
  have get : ∀ {i : Nat} {c : Cell}, (ρ ++ List.replicate (N.length - vs.length) Cell.un)[i]? = some c → c = .un ∨ (ρ[i]? = some c ∧ i < vs.length) := fun {i c} h => by
    by_cases hi : i < ρ.length
    · rw [List.getElem?_append_left hi] at h
      exact .inr ⟨h, by rw [← len]; exact hi⟩
    · rw [List.getElem?_append_right (by omega), List.getElem?_replicate] at h
      split at h
      · cases h; exact .inl rfl
      · cases h
  refine ⟨R.sS, R.sF, R.dj, R.nS, R.nF, R.tb, ?_, fun i c hc => ?_, fun i j b ci cj hi hj mi mj ei ej => ?_⟩
  · unfold L2.start
    rw [List.length_append, List.length_append, List.length_replicate, List.length_replicate, List.length_map, len]
  · rcases get hc with rfl | ⟨hc, hi⟩
    · trivial
    · have q := R.sl i c hc
      rw [start_pre hl hi]
      cases c with
      | brw d => obtain ⟨b, e1, e2, e3⟩ := q; exact ⟨b, e1, by rw [start_pre hl hi]; exact e2, e3⟩
      | un => trivial
      | fro d => exact q
      | own d => exact q
  · rcases get hi with rfl | ⟨hi, li⟩
    · cases mi
    · rcases get hj with rfl | ⟨hj, lj⟩
      · cases mj
      · rw [start_pre hl li] at ei
        rw [start_pre hl lj] at ej
        exact R.ds i j b ci cj hi hj mi mj ei ej
theorem outs_get {n i : Nat} {c : Cell} (h : ((ρ.take n).map outC)[i]? = some c) : c = .un ∨ ∃ d, c = .brw d ∧ ρ[i]? = some (.brw d) ∧ i < n := by
  rw [List.getElem?_map, Option.map_eq_some_iff] at h
  obtain ⟨c', h1, rfl⟩ := h
  have hi : i < n := by
    have := (List.getElem?_eq_some_iff.mp h1).1
    rw [List.length_take] at this; omega
  rw [List.getElem?_take_of_lt hi] at h1
  cases c' with
  | brw d => exact .inr ⟨d, rfl, h1, hi⟩
  | _ => exact .inl rfl
theorem brw_at (R : Rel K T (L2.start N vs) F S ρ σ H) (hl : vs.length ≤ N.length) {i : Nat} (h : ρ[i]? = some (.brw d)) (hi : i < vs.length) : ∃ b, σ[i]? = some (some (V.ref b)) ∧ (vs.map some)[i]? = some (some (V.ref b)) ∧ Own K T F S H b d := by
  obtain ⟨b, e1, e2, e3⟩ := R.sl i _ h
  rw [start_pre hl hi] at e2
  exact ⟨b, e1, e2, e3⟩
theorem Rel.outs (R : Rel K T (L2.start N vs) F S ρ σ H) (hl : vs.length ≤ N.length) (hn : vs.length ≤ ρ.length) : Rel K T (vs.map some) F S ((ρ.take vs.length).map outC) (vs.map some) H := by
  refine ⟨R.sS, R.sF, R.dj, R.nS, R.nF, R.tb, by rw [List.length_map, List.length_map, List.length_take]; omega, fun i c hc => ?_, fun i j b ci cj hi hj mi mj ei ej => ?_⟩
  · rcases outs_get hc with rfl | ⟨d, rfl, hc, hi⟩
    · trivial
    · obtain ⟨b, e1, e2, e3⟩ := brw_at R hl hc hi
      exact ⟨b, e2, e2, e3⟩
  · rcases outs_get hi with rfl | ⟨d, rfl, hi, li⟩
    · cases mi
    · rcases outs_get hj with rfl | ⟨d', rfl, hj, lj⟩
      · cases mj
      · obtain ⟨b1, e1, e2, _⟩ := brw_at R hl hi li
        obtain ⟨b2, e3, e4, _⟩ := brw_at R hl hj lj
        rw [ei] at e2; cases e2
        rw [ej] at e4; cases e4
        exact R.ds i j _ _ _ hi hj rfl rfl e1 e3
theorem RVR.outs (R : Rel K T (L2.start N vs) F S ρ σ H) (hl : vs.length ≤ N.length) (h : RVR K T F S H ρ σ v r) (m : r.made = true) : RVR K T F S H ((ρ.take vs.length).map outC) (vs.map some) v r := by
  cases r with
  | bor i => cases m
  | fro d => exact h
  | own d =>
    obtain ⟨a, rfl, o, ap⟩ := h
    refine ⟨a, rfl, o, fun i c hc mc e => ?_⟩
    rcases outs_get hc with rfl | ⟨d, rfl, hc, hi⟩
    · cases mc
    · obtain ⟨b, e1, e2, _⟩ := brw_at R hl hc hi
      rw [e] at e2; cases e2
      exact ap i _ hc rfl e1
end
section
variable {P : Program} {w : World} {K : PySem.W.Frag} {T : Tab} {mg : Str → Option Value} {base : Heap}
theorem def_ok {x qual : Str} {st : Stmt} {f : Addr} {fd : FuncData} {N ps : List Str} {k : Nat} {fb : SF} {n m : Nat} (Fu : Fun K x qual st f fd) (Sc : FnScope N ps (defScope st)) (hn : ps.length = n) (hm : N.length = n + m)
    (body : ∀ (cdv : Value) (A : Around) (outer : List PySem.Env) (s : Shared) (H : Hp) (E : XK), Room k (A.deeper (envOfC qual (defScope st) s.heap.objs.size f cdv)) → PSs (cxOf CX0 P w K mg base N qual (defScope st) f cdv A outer s H E).nox (defBody st) (SS K T fb)) :
    FnOk P w K mg base CX0 (k + 1) f fd ps (SpF K T (runF n m fb)) := by
  refine Fu.ok Sc (fun vs H Q E h => ?_) (fun cdv A outer s H vs Q E hr h => ⟨_, body cdv A outer s H E hr, ?_⟩)
  · obtain ⟨F, S, cs, r, cs', R, e, _⟩ := h
    unfold runF at e
    split at e
    · rename_i hl
      rw [hn, ← hl, R.len, List.length_map]
    · cases e
  · obtain ⟨F, S, cs, r, cs', R, e, mr, q⟩ := h
    unfold runF at e
    split at e
    · rename_i hl
      obtain ⟨⟨fl, ρ'⟩, e1, e⟩ := Res.bind_eq e
      split at e
      · rename_i hp
        have hv : vs.length = n := by rw [← hl, R.len, List.length_map]
        have hvN : vs.length ≤ N.length := by omega
        have em : m = N.length - vs.length := by omega
        refine ⟨L2.start N vs, F, S, cs ++ List.replicate (N.length - vs.length) .un, fl, ρ', R.pad hvN, by rw [← em]; exact e1, ?_⟩
        subst hv
        cases fl with
        | nx =>
          cases e
          exact fun S' σ' H' s' R' => q S' H' .non s' (R'.outs hvN hp) .non
        | ret ro =>
          cases ro with
          | fro d => cases e; exact fun S' σ' H' v s' R' rv => q S' H' v s' (R'.outs hvN hp) (rv.outs R' hvN rfl)
          | own d => cases e; exact fun S' σ' H' v s' R' rv => q S' H' v s' (R'.outs hvN hp) (rv.outs R' hvN rfl)
          | bor i => cases e
        | bk => cases e
        | ct => cases e
      · cases e
    · cases e
end

/-! ### calls of a def -/
theorem Rel.notab {K : PySem.W.Frag} {T : Tab} {π σ : L2.St} {F S H : Hp} {ρ : Env} {a : Addr} (R : Rel K T π F S ρ σ H) {i : Nat} {c : Cell} (hc : ρ[i]? = some c) (m : c.mut = true) (e : σ[i]? = some (some (V.ref a))) (ps : Array Value) : H a ≠ some (.tbl ps) := by
  have q := R.sl i c hc
  cases c with
  | un => cases m
  | fro _ => cases m
  | own d0 => obtain ⟨b, q1, q2⟩ := q; rw [e] at q1; cases q1; exact q2.2.2.notab ps
  | brw d0 => obtain ⟨b, q1, _, q2⟩ := q; rw [e] at q1; cases q1; exact q2.2.2.notab ps
/-- what a callee is to leave: all but the frozen and what is passed on -/
def isTab : Option HO → Bool
  | some (.tbl _) => true
  | _ => false
def others (S H : Hp) (P : Addr → Bool) : Hp := fun b => if (S b).isSome || P b || isTab (H b) then none else H b
section
variable {K : PySem.W.Frag} {T : Tab} {π σ τ : L2.St} {F S S' H H' : Hp} {ρ ρ' : Env} {a : Addr} {v : V} {d : D} {r : RV} {P : Addr → Bool} {vs : List V} {ds : List D}
theorem others_some {b : Addr} {o : HO} (h : others S H P b = some o) : S b = none ∧ P b = false ∧ H b = some o := by
  unfold others at h
  split at h
  · cases h
  · rename_i z
    rw [Bool.or_eq_true, Bool.or_eq_true, not_or, not_or] at z
    refine ⟨?_, by simpa using z.1.2, h⟩
    cases q : S b with
    | none => rfl
    | some o => rw [q] at z; exact absurd rfl z.1.1
theorem others_nt : NT (others S H P) := fun b ps e => by
  have h := e
  unfold others at h
  split at h
  · cases h
  · rename_i z
    rw [h] at z
    exact z (by simp [isTab])
theorem others_of {b : Addr} (h1 : S b = none) (h2 : P b = false) (h3 : ∀ ps, H b ≠ some (.tbl ps)) : others S H P b = H b := by
  unfold others
  rw [h1, h2, show isTab (H b) = false from by
    unfold isTab
    split
    · rename_i ps e; exact absurd e (h3 ps)
    · rfl]
  rfl
theorem others_pass {b : Addr} (h : P b = true) : others S H P b = none := by
  unfold others
  rw [h, Bool.or_true, Bool.true_or, if_pos rfl]
/-- behind a callee: the slots that hold nothing of what was passed -/
theorem Rel.back (R : Rel K T π F S ρ σ H) (s : Same S S') (sS : Same S' H') (sF : Same (others S H P) H') (dj : ∀ a o, others S H P a = some o → S' a = none) (nS : NT S') (tb : LamX.Tabs T.tb H') (hP : ∀ a o, F a = some o → P a = false)
    (hO : ∀ (i : Nat) (c : Cell) (a : Addr), ρ[i]? = some c → c.mut = true → σ[i]? = some (some (V.ref a)) → P a = false) : Rel K T π F S' ρ σ H' := by
  have tr : ∀ {b : Addr} {o : HO}, S b = none → P b = false → H b = some o → (∀ ps, o ≠ .tbl ps) → others S H P b = some o := fun h1 h2 h3 h4 => (others_of h1 h2 fun ps z => h4 ps (Option.some.inj (h3.symm.trans z))).trans h3
  exact R.step s sS (fun b o q => sF b o (tr (R.dj _ _ q) (hP _ _ q) (R.sF _ _ q) fun ps z => R.nF b ps (z ▸ q))) (fun b o q => dj b o (tr (R.dj _ _ q) (hP _ _ q) (R.sF _ _ q) fun ps z => R.nF b ps (z ▸ q))) nS tb fun i c b hc m e => by
    obtain ⟨h1, _, o, h2⟩ := R.ownAt hc m e
    have q := tr h1 (hO i c b hc m e) h2 fun ps z => R.notab hc m e ps (z ▸ h2)
    exact ⟨(sF b o q).trans h2.symm, dj b o q⟩
theorem fros_get {i : Nat} {c : Cell} (h : (ds.map Cell.fro)[i]? = some c) : ∃ d, c = .fro d ∧ ds[i]? = some d := by
  rw [List.getElem?_map, Option.map_eq_some_iff] at h
  obtain ⟨d, h1, rfl⟩ := h
  exact ⟨d, rfl, h1⟩
theorem rel_fros (R : Rel K T π F S ρ σ H) (h : DRs K T S vs ds) : Rel K T (vs.map some) (others S H fun _ => false) S (ds.map .fro) (vs.map some) H := by
  refine ⟨R.sS, fun b o q => (others_some q).2.2, fun b o q => (others_some q).1, R.nS, others_nt, R.tb, by rw [List.length_map, List.length_map, h.length], fun i c hc => ?_, fun i j b ci cj hi hj mi mj ei ej => ?_⟩
  · obtain ⟨d, rfl, hd⟩ := fros_get hc
    obtain ⟨v, hv, hr⟩ := h.get hd
    exact ⟨v, by rw [List.getElem?_map, hv]; rfl, hr⟩
  · obtain ⟨d, rfl, hd⟩ := fros_get hi
    cases mi
/-- a callee's result, ours -/
theorem RVR.back (R : Rel K T π F S ρ σ H) (h : RVR K T (others S H P) S' H' ρ' τ v r) (m : r.made = true) (hP : ∀ a o, F a = some o → P a = false)
    (hap : ∀ a, others S H P a = none → Apart ρ' τ a → S' a = none → Apart ρ σ a) : RVR K T F S' H' ρ σ v r := by
  cases r with
  | bor i => cases m
  | fro d => exact h
  | own d =>
    obtain ⟨a, rfl, o, ap⟩ := h
    refine ⟨a, rfl, ⟨o.1, ?_, o.2.2⟩, hap a o.2.1 ap o.1⟩
    cases q : F a with
    | none => rfl
    | some x =>
      have := (others_of (H := H) (R.dj _ _ q) (hP _ _ q) fun ps z => R.nF a ps (q.trans ((R.sF _ _ q).symm.trans z))).trans (R.sF _ _ q)
      rw [o.2.1] at this; cases this
theorem ap_none (R : Rel K T π F S ρ σ H) (P : Addr → Bool) (hO : ∀ (i : Nat) (c : Cell) (a : Addr), ρ[i]? = some c → c.mut = true → σ[i]? = some (some (V.ref a)) → P a = false) (h : others S H P a = none) : Apart ρ σ a := fun i c hc m e => by
  obtain ⟨h1, _, o, h2⟩ := R.ownAt hc m e
  rw [others_of h1 (hO i c a hc m e) (R.notab hc m e), h2] at h
  cases h
end
def eCall (f : Fm) (g : AF) : EF := fun ρ => (g ρ).bind fun p => (Res.of (frozen p.1)).bind fun ds => (f (ds.map .fro)).bind fun q => if q.1.made = true then .ok (q.1, p.2) else .bad
section
variable {X : Cx} {T : Tab} {CX : CXT} {k : Nat} {f C : Addr} {fd : FuncData} {ps : List Str} {sp : Sp} {E : XK} {x m : Str} {p pos apos : Pos} {e o : Expr} {es : List Expr} {ff : Fm} {g : AF}
theorem call_run {K : PySem.W.Frag} {σ : L2.St} {H : Hp} {Q : VK} (h : SE K T (eCall ff g) σ H Q) : tCall (SpF K T ff) [] E (SA K T g) σ H Q := by
  obtain ⟨π, F, S, ρ, r, ρ', R, e, q⟩ := h
  obtain ⟨⟨rs, ρ1⟩, e1, e⟩ := Res.bind_eq e
  obtain ⟨ds, e2, e⟩ := Res.bind_eq e
  obtain ⟨⟨r', cs'⟩, e3, e⟩ := Res.bind_eq e
  split at e
  · rename_i mr
    cases e
    refine ⟨π, F, S, ρ, rs, ρ1, R, e1, fun S1 H1 vs s1 R1 hv => ?_⟩
    show SpF K T ff (vs ++ []) H1 Q E
    rw [List.append_nil]
    have hd := hv.frozen (Res.of_eq e2)
    refine ⟨_, S1, _, _, _, rel_fros R1 hd, e3, mr, fun S' H' v s' R' rv => ?_⟩
    have R2 : Rel K T π F S' ρ1 σ H' := R1.back s' R'.sS R'.sF R'.dj R'.nS R'.tb (fun _ _ _ => rfl) fun _ _ _ _ _ _ => rfl
    exact q S' H' v (s1.trans s') R2 (rv.back R1 mr (fun _ _ _ => rfl) fun a h _ _ => ap_none R1 _ (fun _ _ _ _ _ _ => rfl) h)
  · cases e
theorem ee_call (G : FnOk X.prog X.w X.K X.mg X.base CX k f fd ps (SpF X.K T ff)) (hr : Room k X.A) (hg : Gl X x) (hm : X.mg x = some (.ref f)) (hk : PySem.W.keepIn X.K (.ref f) = true) (hb : Binds X.K fd ps []) (hx : Passes CX X E)
    (ha : PA X (e :: es) (SA X.K T g)) (hdb : (x == ("__debug__" : Str)) = false := by decide) (he : starEach (e :: es) X.env = (false, eval e X.env) :: starEach es X.env := by rfl) (hpl : (backTo pos (starEach es X.env)).any (·.1) = false := by rfl) :
    PE X (.Call (.Name x p) (e :: es) [] pos) (SE X.K T (eCall ff g)) := (pe_call G hr hg hm hk hb .nil hx ha hdb he hpl).imp fun _ _ _ q => call_run q
end
end Dt
end

section
set_option Elab.async false
set_option linter.all false
set_option maxRecDepth 100000
set_option maxHeartbeats 4000000
set_option autoImplicit false
namespace Dt
open PySem PySem.Spec PyProof.Rows L2

/-! ### a call that may change one object of ours -/
def oneB : List RV → Option (List D × Nat × List D)
  | [] => none
  | .fro d :: r => (oneB r).map fun p => (d :: p.1, p.2)
  | .bor i :: r => (frozen r).map fun ds => ([], i, ds)
  | .own _ :: _ => none
def eCallB (f : Fm) (g : AF) : EF := fun ρ => (g ρ).bind fun p => (Res.of (oneB p.1)).bind fun b => (Res.of p.2[b.2.1]?).bind fun c => (Res.need c.mut).bind fun _ => (Res.of c.dat).bind fun d =>
  (f (b.1.map .fro ++ .brw d :: b.2.2.map .fro)).bind fun q => (Res.need q.1.made).bind fun _ => match q.2[b.1.length]? with
    | some (.brw d') => .ok (q.1, p.2.set b.2.1 (c.put d'))
    | _ => .bad
section
variable {K : PySem.W.Frag} {T : Tab} {π σ τ : L2.St} {F S S' H H' : Hp} {ρ ρ' : Env} {a : Addr} {v : V} {d : D} {r : RV}
theorem HeldAll.oneB : ∀ {vs : List V} {rs : List RV} {A : List D} {i : Nat} {B : List D}, HeldAll K T S σ vs rs → Dt.oneB rs = some (A, i, B) → ∃ us v ws, vs = us ++ v :: ws ∧ DRs K T S us A ∧ σ[i]? = some (some v) ∧ DRs K T S ws B
  | _, _, _, _, _, .nil, e => by cases e
  | v :: vs, r :: rs, A, i, B, .cons h q, e => by
    cases r with
    | own d => cases e
    | bor j =>
      obtain ⟨ds, e1, e2⟩ := Option.map_eq_some_iff.mp e
      cases e2
      exact ⟨[], v, vs, rfl, .nil, h, q.frozen e1⟩
    | fro d =>
      obtain ⟨⟨A', i', B'⟩, e1, e2⟩ := Option.map_eq_some_iff.mp e
      cases e2
      obtain ⟨us, x, ws, rfl, h1, h2, h3⟩ := HeldAll.oneB q e1
      exact ⟨v :: us, x, ws, rfl, .cons h h1, h2, h3⟩
theorem Rel.ownd (R : Rel K T π F S ρ σ H) {i : Nat} {c : Cell} (hc : ρ[i]? = some c) (m : c.mut = true) (e : c.dat = some d) : ∃ a, σ[i]? = some (some (V.ref a)) ∧ Own K T F S H a d := by
  have q := R.sl i c hc
  cases c with
  | un => cases m
  | fro _ => cases m
  | own _ => cases e; exact q
  | brw _ => cases e; obtain ⟨a, h1, _, h2⟩ := q; exact ⟨a, h1, h2⟩
theorem mid_get {A B : List D} {i : Nat} {c : Cell} (h : (A.map Cell.fro ++ Cell.brw d :: B.map Cell.fro)[i]? = some c) : (i = A.length ∧ c = .brw d) ∨ (∃ x, c = .fro x ∧ i ≠ A.length ∧ ((i < A.length ∧ A[i]? = some x) ∨ (A.length < i ∧ B[i - A.length - 1]? = some x))) := by
  by_cases h1 : i < A.length
  · rw [List.getElem?_append_left (by simpa using h1)] at h
    obtain ⟨x, rfl, hx⟩ := fros_get h
    exact .inr ⟨x, rfl, by omega, .inl ⟨h1, hx⟩⟩
  · rw [List.getElem?_append_right (by simpa using h1), List.length_map] at h
    by_cases h2 : i = A.length
    · subst h2
      rw [Nat.sub_self] at h
      cases h
      exact .inl ⟨rfl, rfl⟩
    · obtain ⟨j, hj⟩ : ∃ j, i - A.length = j + 1 := ⟨i - A.length - 1, by omega⟩
      rw [hj, List.getElem?_cons_succ] at h
      obtain ⟨x, rfl, hx⟩ := fros_get h
      exact .inr ⟨x, rfl, h2, .inr ⟨by omega, by rw [hj, Nat.add_sub_cancel]; exact hx⟩⟩
/-- a callee's entry, one object lent at a -/
theorem rel_mid {us ws : List V} {A B : List D} (R : Rel K T π F S ρ σ H) (hA : DRs K T S us A) (hB : DRs K T S ws B) (o : Own K T F S H a d) : Rel K T ((us ++ V.ref a :: ws).map some) (others S H fun b => b == a) S (A.map .fro ++ .brw d :: B.map .fro) ((us ++ V.ref a :: ws).map some) H := by
  have la := hA.length
  have lb := hB.length
  have get : ∀ {i : Nat} {c : Cell}, (A.map Cell.fro ++ Cell.brw d :: B.map Cell.fro)[i]? = some c → (i = A.length ∧ c = .brw d ∧ ((us ++ V.ref a :: ws).map some)[i]? = some (some (V.ref a))) ∨ (∃ x v, c = .fro x ∧ ((us ++ V.ref a :: ws).map some)[i]? = some (some v) ∧ DR K T S v x) := fun {i c} h => by
    rcases mid_get h with ⟨rfl, rfl⟩ | ⟨x, rfl, n, ⟨hl, hx⟩ | ⟨hl, hx⟩⟩
    · refine .inl ⟨rfl, rfl, ?_⟩
      rw [List.getElem?_map, List.getElem?_append_right (by omega), la, Nat.sub_self]; rfl
    · obtain ⟨v, hv, hr⟩ := hA.get hx
      refine .inr ⟨x, v, rfl, ?_, hr⟩
      rw [List.getElem?_map, List.getElem?_append_left (by omega), hv]; rfl
    · obtain ⟨v, hv, hr⟩ := hB.get hx
      refine .inr ⟨x, v, rfl, ?_, hr⟩
      obtain ⟨j, hj⟩ : ∃ j, i - us.length = j + 1 := ⟨i - us.length - 1, by omega⟩
      rw [List.getElem?_map, List.getElem?_append_right (by omega), hj, List.getElem?_cons_succ, show j = i - A.length - 1 by omega, hv]; rfl
  refine ⟨R.sS, fun b o q => (others_some q).2.2, fun b o q => (others_some q).1, R.nS, others_nt, R.tb, by simp [la, lb], fun i c hc => ?_, fun i j b ci cj hi hj mi mj ei ej => ?_⟩
  · rcases get hc with ⟨_, rfl, e⟩ | ⟨x, v, rfl, e, hr⟩
    · exact ⟨a, e, e, o.1, others_pass (by simp), o.2.2⟩
    · exact ⟨v, e, hr⟩
  · rcases get hi with ⟨rfl, rfl, _⟩ | ⟨x, v, rfl, e, hr⟩
    · rcases get hj with ⟨rfl, rfl, _⟩ | ⟨x, v, rfl, e, hr⟩
      · rfl
      · cases mj
    · cases mi
/-- behind a callee that was lent the object at slot i -/
theorem Rel.backB {us ws : List V} {A : List D} {cs' : List Cell} {d' : D} {i : Nat} {c : Cell} (R : Rel K T π F S ρ σ H) (hc : ρ[i]? = some c) (m : c.mut = true) (e : σ[i]? = some (some (V.ref a))) (la : us.length = A.length)
    (s : Same S S') (R' : Rel K T ((us ++ V.ref a :: ws).map some) (others S H fun b => b == a) S' cs' ((us ++ V.ref a :: ws).map some) H') (h' : cs'[A.length]? = some (.brw d')) :
    Rel K T π F S' (ρ.set i (c.put d')) σ H' ∧ (∀ b x, F b = some x → (b == a) = false) ∧ (∀ b, others S H (fun b => b == a) b = none → Apart cs' ((us ++ V.ref a :: ws).map some) b → S' b = none → Apart (ρ.set i (c.put d')) σ b) := by
  obtain ⟨ha1, ha2, oa, ha3⟩ := R.ownAt hc m e
  have nF : ∀ b x, F b = some x → (b == a) = false := fun b x q => by
    have : b ≠ a := fun z => by rw [z, ha2] at q; cases q
    simpa using this
  have ne : ∀ {j : Nat} {cj : Cell} {b : Addr}, j ≠ i → ρ[j]? = some cj → cj.mut = true → σ[j]? = some (some (V.ref b)) → b ≠ a := fun nj hj mj ej z => nj (R.ds _ _ a _ _ hj hc mj m (by rw [ej, z]) e)
  have at_ : ((us ++ V.ref a :: ws).map some)[A.length]? = some (some (V.ref a)) := by
    rw [List.getElem?_map, List.getElem?_append_right (by omega), la, Nat.sub_self]; rfl
  obtain ⟨b0, e1, _, own'⟩ := R'.sl _ _ h'
  rw [at_] at e1; cases e1
  have keep : ∀ {j : Nat} {cj : Cell} {b : Addr}, j ≠ i → ρ[j]? = some cj → cj.mut = true → σ[j]? = some (some (V.ref b)) → H' b = H b ∧ S' b = none := fun {j cj b} nj hj mj ej => by
    obtain ⟨h1, _, o, h2⟩ := R.ownAt hj mj ej
    have q : others S H (fun b => b == a) b = some o := (others_of h1 (by simpa using ne nj hj mj ej) (R.notab hj mj ej)).trans h2
    exact ⟨(R'.sF _ _ q).trans h2.symm, R'.dj _ _ q⟩
  have tr : ∀ {b : Addr} {x : HO}, F b = some x → others S H (fun b => b == a) b = some x := fun {b x} q => (others_of (R.dj _ _ q) (nF _ _ q) fun ps z => R.nF b ps (q.trans ((R.sF _ _ q).symm.trans z))).trans (R.sF _ _ q)
  have mutb : ∀ {j : Nat} {cj : Cell}, (ρ.set i (c.put d'))[j]? = some cj → cj.mut = true → ∃ cj', ρ[j]? = some cj' ∧ cj'.mut = true := fun {j cj} hj mj => by
    rcases getElem?_set_cases hj with ⟨rfl, rfl⟩ | ⟨_, hj⟩
    · exact ⟨c, hc, m⟩
    · exact ⟨_, hj, mj⟩
  refine ⟨⟨R'.sS, fun b x q => R'.sF _ _ (tr q), fun b x q => R'.dj _ _ (tr q), R'.nS, R.nF, R'.tb, by rw [List.length_set]; exact R.len, fun j cj hj => ?_, fun j k b cj ck hj hk mj mk ej ek => ?_⟩, nF, fun b hb ap hS j cj hj mj z => ?_⟩
  · rcases getElem?_set_cases hj with ⟨rfl, rfl⟩ | ⟨nj, hj⟩
    · have q := R.sl j c hc
      have ow : Own K T F S' H' a d' := ⟨own'.1, ha2, own'.2.2⟩
      cases c with
      | un => cases m
      | fro _ => cases m
      | own _ => exact ⟨a, e, ow⟩
      | brw _ =>
        obtain ⟨b, q1, q2, _⟩ := q
        rw [q1] at e; cases e
        exact ⟨a, q1, q2, ow⟩
    · have q := R.sl j cj hj
      cases cj with
      | un => trivial
      | fro _ => obtain ⟨x, q1, q2⟩ := q; exact ⟨x, q1, q2.mono s⟩
      | own _ =>
        obtain ⟨b, q1, q2⟩ := q
        obtain ⟨k1, k2⟩ := keep nj hj rfl q1
        exact ⟨b, q1, (q2.mono s k2).heap k1⟩
      | brw _ =>
        obtain ⟨b, q1, q0, q2⟩ := q
        obtain ⟨k1, k2⟩ := keep nj hj rfl q1
        exact ⟨b, q1, q0, (q2.mono s k2).heap k1⟩
  · obtain ⟨cj', hj', mj'⟩ := mutb hj mj
    obtain ⟨ck', hk', mk'⟩ := mutb hk mk
    exact R.ds j k b _ _ hj' hk' mj' mk' ej ek
  · obtain ⟨cj', hj', mj'⟩ := mutb hj mj
    by_cases nj : j = i
    · subst nj
      rw [e] at z; cases z
      exact ap _ _ h' rfl at_
    · obtain ⟨h1, _, o, h2⟩ := R.ownAt hj' mj' z
      rw [others_of h1 (by simpa using ne nj hj' mj' z) (R.notab hj' mj' z), h2] at hb
      cases hb
end
section
variable {X : Cx} {T : Tab} {CX : CXT} {k : Nat} {f C : Addr} {fd : FuncData} {ps : List Str} {E : XK} {x m : Str} {p pos apos : Pos} {e o : Expr} {es : List Expr} {ff : Fm} {g : AF}
theorem callB_run {K : PySem.W.Frag} {σ : L2.St} {H : Hp} {Q : VK} (h : SE K T (eCallB ff g) σ H Q) : tCall (SpF K T ff) [] E (SA K T g) σ H Q := by
  obtain ⟨π, F, S, ρ, r, ρ', R, e, q⟩ := h
  obtain ⟨⟨rs, ρ1⟩, e1, e⟩ := Res.bind_eq e
  obtain ⟨⟨A, i, B⟩, e2, e⟩ := Res.bind_eq e
  obtain ⟨c, e3, e⟩ := Res.bind_eq e
  obtain ⟨_, e4, e⟩ := Res.bind_eq e
  obtain ⟨d, e5, e⟩ := Res.bind_eq e
  obtain ⟨⟨r', cs'⟩, e6, e⟩ := Res.bind_eq e
  obtain ⟨_, e7, e⟩ := Res.bind_eq e
  have hc : ρ1[i]? = some c := Res.of_eq e3
  have mc := Res.need_eq e4
  have mr : r'.made = true := Res.need_eq e7
  refine ⟨π, F, S, ρ, rs, ρ1, R, e1, fun S1 H1 vs s1 R1 hv => ?_⟩
  show SpF K T ff (vs ++ []) H1 Q E
  rw [List.append_nil]
  obtain ⟨us, v, ws, rfl, hA, hv1, hB⟩ := hv.oneB (Res.of_eq e2)
  obtain ⟨a, ha, ow⟩ := R1.ownd hc mc (Res.of_eq e5)
  rw [hv1] at ha; cases ha
  refine ⟨_, S1, _, _, _, rel_mid R1 hA hB ow, e6, mr, fun S' H' v s' R' rv => ?_⟩
  split at e
  · rename_i d' hd'
    cases e
    obtain ⟨R2, nF, hap⟩ := R1.backB hc mc hv1 hA.length s' R' hd'
    exact q S' H' v (s1.trans s') R2 (by
      cases r' with
      | bor i => cases mr
      | fro d => exact rv
      | own d =>
        obtain ⟨b, rfl, o, ap⟩ := rv
        refine ⟨b, rfl, ⟨o.1, ?_, o.2.2⟩, hap b o.2.1 ap o.1⟩
        cases q : F b with
        | none => rfl
        | some x =>
          have := (others_of (H := H1) (P := fun b => b == a) (R1.dj _ _ q) (nF _ _ q) fun ps z => R1.nF b ps (q.trans ((R1.sF _ _ q).symm.trans z))).trans (R1.sF _ _ q)
          rw [o.2.1] at this; cases this)
  · cases e
theorem ee_callB_ (G : FnOk X.prog X.w X.K X.mg X.base CX k f fd ps (SpF X.K T ff)) (hr : Room k X.A) (hg : Gl X x) (hm : X.mg x = some (.ref f)) (hk : PySem.W.keepIn X.K (.ref f) = true) (hb : Binds X.K fd ps []) (hx : Passes CX X E)
    (ha : PA X (e :: es) (SA X.K T g)) (hdb : (x == ("__debug__" : Str)) = false := by decide) (he : starEach (e :: es) X.env = (false, eval e X.env) :: starEach es X.env := by rfl) (hpl : (backTo pos (starEach es X.env)).any (·.1) = false := by rfl) :
    PE X (.Call (.Name x p) (e :: es) [] pos) (SE X.K T (eCallB ff g)) := (pe_call G hr hg hm hk hb .nil hx ha hdb he hpl).imp fun _ _ _ q => callB_run q
end

/-! ### classes -/
structure ClsOk (K : PySem.W.Frag) (T : Tab) (c : Nat) : Prop where
  cls : Cls K (T.ca c)
  no : ∀ f ∈ T.fl c, NoAttr K (T.ca c) f
  nd : (T.fl c).Nodup
  few : (T.fl c).length ≤ 900
/-- in these classes f is the field at that place -/
def FldOk (K : PySem.W.Frag) (T : Tab) (tbl : List (Nat × Nat)) (f : Str) : Prop := ∀ c k, tbl.lookup c = some k → ClsOk K T c ∧ (T.fl c)[k]? = some f
section
variable {K : PySem.W.Frag} {T : Tab} {S : Hp}
theorem lookup_of : ∀ {fs : List (Str × V)} {ds : List D} {names : List Str} {k : Nat} {f : Str} {x : D}, names.Nodup → fs.map (·.1) = names.take ds.length → DRs K T S (fs.map (·.2)) ds → names[k]? = some f → ds[k]? = some x → ∃ v, fs.lookup f = some v ∧ DR K T S v x
  | [], ds, names, k, f, x, nd, hn, hd, hk, hx => by
    cases hd
    simp at hx
  | (n, v) :: fs, [], names, k, f, x, nd, hn, hd, hk, hx => by simp at hx
  | (n, v) :: fs, d :: ds, [], k, f, x, nd, hn, hd, hk, hx => by simp at hk
  | (n, v) :: fs, d :: ds, m :: names, 0, f, x, nd, hn, hd, hk, hx => by
    cases hd with
    | cons h r =>
      have e : n = m := by
        have := congrArg List.head? hn
        simpa using this
      subst e
      cases hk
      cases hx
      exact ⟨v, by simp [List.lookup], h⟩
  | (n, v) :: fs, d :: ds, m :: names, k + 1, f, x, nd, hn, hd, hk, hx => by
    cases hd with
    | cons h r =>
      have e : n = m ∧ fs.map (·.1) = names.take ds.length := by
        rw [List.map_cons, List.length_cons, List.take_succ_cons] at hn
        exact ⟨(List.cons.inj hn).1, (List.cons.inj hn).2⟩
      obtain ⟨rfl, hn2⟩ := e
      obtain ⟨v', h1, h2⟩ := lookup_of (k := k) (List.nodup_cons.mp nd).2 hn2 r (by simpa using hk) (by simpa using hx)
      refine ⟨v', ?_, h2⟩
      have ne : (f == n) = false := by
        have : f ≠ n := fun z => (List.nodup_cons.mp nd).1 (z ▸ List.mem_of_getElem? (by simpa using hk))
        simpa using this
      rw [List.lookup, ne]
      exact h1
theorem putF_of : ∀ {fs : List (Str × V)} {ds : List D} {names : List Str} {k : Nat} {f : Str} {y : V} {x : D}, names.Nodup → fs.map (·.1) = names.take ds.length → DRs K T S (fs.map (·.2)) ds → names[k]? = some f → k ≤ ds.length → DR K T S y x →
    (putF f y fs).map (·.1) = names.take (if k < ds.length then ds.set k x else ds ++ [x]).length ∧ DRs K T S ((putF f y fs).map (·.2)) (if k < ds.length then ds.set k x else ds ++ [x])
  | [], ds, names, k, f, y, x, nd, hn, hd, hk, hl, hy => by
    cases hd
    have ek : k = 0 := Nat.le_zero.mp hl
    subst ek
    cases names with
    | nil => simp at hk
    | cons m names =>
      cases hk
      exact ⟨rfl, .one hy⟩
  | (n, v) :: fs, [], names, k, f, y, x, nd, hn, hd, hk, hl, hy => by cases hd
  | (n, v) :: fs, d :: ds, [], k, f, y, x, nd, hn, hd, hk, hl, hy => by simp at hk
  | (n, v) :: fs, d :: ds, m :: names, 0, f, y, x, nd, hn, hd, hk, hl, hy => by
    cases hd with
    | cons h r =>
      have e : n = m ∧ fs.map (·.1) = names.take ds.length := by
        rw [List.map_cons, List.length_cons, List.take_succ_cons] at hn
        exact ⟨(List.cons.inj hn).1, (List.cons.inj hn).2⟩
      obtain ⟨rfl, hn2⟩ := e
      cases hk
      have e2 : putF n y ((n, v) :: fs) = (n, y) :: fs := by unfold putF; simp
      rw [e2, if_pos (show 0 < (d :: ds).length from Nat.zero_lt_succ _)]
      refine ⟨?_, .cons hy r⟩
      rw [List.set_cons_zero, List.map_cons, List.length_cons, List.take_succ_cons, hn2]
  | (n, v) :: fs, d :: ds, m :: names, k + 1, f, y, x, nd, hn, hd, hk, hl, hy => by
    cases hd with
    | cons h r =>
      have e : n = m ∧ fs.map (·.1) = names.take ds.length := by
        rw [List.map_cons, List.length_cons, List.take_succ_cons] at hn
        exact ⟨(List.cons.inj hn).1, (List.cons.inj hn).2⟩
      obtain ⟨rfl, hn2⟩ := e
      have ne : f ≠ n := fun z => (List.nodup_cons.mp nd).1 (z ▸ List.mem_of_getElem? (by simpa using hk))
      have e2 : putF f y ((n, v) :: fs) = (n, v) :: putF f y fs := by
        conv => lhs; unfold putF
        simp [Ne.symm ne, ne]
      obtain ⟨h1, h2⟩ := putF_of (k := k) (x := x) (List.nodup_cons.mp nd).2 hn2 r (by simpa using hk) (by simpa using hl) hy
      have e3 : (if k + 1 < (d :: ds).length then (d :: ds).set (k + 1) x else d :: ds ++ [x]) = d :: (if k < ds.length then ds.set k x else ds ++ [x]) := by
        by_cases z : k < ds.length
        · rw [if_pos z, if_pos (by simpa using z), List.set_cons_succ]
        · rw [if_neg z, if_neg (by simpa using z), List.cons_append]
      rw [e2, e3]
      exact ⟨by rw [List.map_cons, List.length_cons, List.take_succ_cons, h1], .cons h h2⟩
end
def eFld (tbl : List (Nat × Nat)) (f : EF) : EF := getD f fun d ρ1 => match d with
  | .obj c ds => (Res.of (tbl.lookup c)).bind fun k => (Res.of ds[k]?).bind fun x => .ok (.fro x, ρ1)
  | _ => .bad
/-- o.f = e, o the name in slot i -/
def sFld (i : Nat) (tbl : List (Nat × Nat)) (f : EF) : SF := fun ρ => (f ρ).bind fun p => (Res.of p.1.take).bind fun x => (Res.of p.2[i]?).bind fun c => (Res.need c.mut).bind fun _ => (Res.of c.dat).bind fun d => match d with
  | .obj n ds => (Res.of (tbl.lookup n)).bind fun k => (Res.need (decide (k ≤ ds.length))).bind fun _ => .ok (.nx, p.2.set i (c.put (.obj n (if k < ds.length then ds.set k x else ds ++ [x]))))
  | _ => .bad
section
variable {X : Cx} {T : Tab} {o e : Expr} {f : Str} {pos pos' : Pos} {fe : EF} {tbl : List (Nat × Nat)}
theorem ee_fld (hf : FldOk X.K T tbl f) (he : PE X e (SE X.K T fe)) (hb : attributeBase e f X.env (eval e X.env) = eval e X.env := by rfl) : PE X (.Attribute e f pos) (SE X.K T (eFld tbl fe)) := (pe_fld he hb).imp fun σ H Q ⟨π, F, S, ρ, r, ρ', R, e, q⟩ => by
  refine SE.data R e fun S' H' ρ1 v d s R' rd hk => ?_
  cases d <;> first | (cases hk; done) | skip
  obtain ⟨k, e1, hk⟩ := Res.bind_eq hk
  obtain ⟨x, e2, hk⟩ := Res.bind_eq hk
  cases hk
  obtain ⟨co, hn⟩ := hf _ _ (Res.of_eq e1)
  obtain ⟨a, dx, fs, rfl, h1, h2, h3⟩ := rd.obj R'.sS
  obtain ⟨v, h4, h5⟩ := lookup_of co.nd h2 h3 hn (Res.of_eq e2)
  exact ⟨a, _, dx, fs, v, rfl, h1, co.cls, co.no _ (List.mem_of_getElem? hn), h4, q S' H' v s R' h5⟩
theorem ss_fld {i : Nat} (hf : FldOk X.K T tbl f) (ho : PE X o (tVar i)) (he : PE X e (SE X.K T fe)) (hs : swapsWith e (some (.Attribute o f pos')) pos.line X.env = pure false := by rfl) : PS X (.Assign [.Attribute o f pos'] e pos) (SS X.K T (sFld i tbl fe)) := (ps_fld ho he hs).imp fun D σ H ⟨π, F, S, ρ, fl, ρ', R, e, q⟩ => by
  obtain ⟨⟨r, ρ1⟩, e1, e⟩ := Res.bind_eq e
  obtain ⟨x, e2, e⟩ := Res.bind_eq e
  obtain ⟨c, e3, e⟩ := Res.bind_eq e
  obtain ⟨_, e4, e⟩ := Res.bind_eq e
  obtain ⟨d, e5, e⟩ := Res.bind_eq e
  have mc := Res.need_eq e4
  refine ⟨π, F, S, ρ, r, ρ1, R, e1, fun S1 H1 y s1 R1 rv => ?_⟩
  obtain ⟨S2, s2, R2, hy⟩ := rv.take R1 (Res.of_eq e2)
  obtain ⟨a, ha, ow⟩ := R2.ownd (Res.of_eq e3) mc (Res.of_eq e5)
  cases d <;> first | (cases e; done) | skip
  rename_i n ds
  obtain ⟨k, e6, e⟩ := Res.bind_eq e
  obtain ⟨_, e7, e⟩ := Res.bind_eq e
  have hkl := of_decide_eq_true (Res.need_eq e7)
  cases e
  obtain ⟨co, hn⟩ := hf _ _ (Res.of_eq e6)
  obtain ⟨dx, fs, h1, h2, h3⟩ := ow.2.2
  obtain ⟨p1, p2⟩ := putF_of co.nd h2 h3 hn hkl hy
  refine ⟨_, ha, a, _, dx, fs, rfl, h1, co.cls, co.no _ (List.mem_of_getElem? hn), ?_, ?_⟩
  · have l1 : fs.length = ds.length := by rw [← h3.length, List.length_map]
    have l2 : (fs.map (·.1)).length = fs.length := List.length_map ..
    rw [h2, List.length_take] at l2
    have := co.few
    omega
  · exact q S2 σ _ (s1.trans s2) (R2.mutate (Res.of_eq e3) mc ha ⟨dx, _, upd_same, p1, p2⟩)
end
end Dt
end

section
set_option Elab.async false
set_option linter.all false
set_option maxRecDepth 100000
set_option maxHeartbeats 4000000
set_option autoImplicit false
namespace Dt
open PySem PySem.Spec PyProof.Rows L2

/-! ### a, b = e, f -/
def sPar (i j : Nat) (f g : EF) : SF := fun ρ => (f ρ).bind fun p => (g p.2).bind fun q => (Res.of (storeC p.1)).bind fun c => (Res.of (storeC q.1)).bind fun d => .ok (.nx, (q.2.set i c).set j d)
section
variable {X : Cx} {T : Tab} {a b : Expr} {fa fb : EF} {x y : Str} {px py pt pos : Pos} {i j : Nat}
theorem ss_par {kt k2 : Nat} {pt2 : Pos} (hc : X.calm = true) (hN : X.N.Nodup) (hi : X.N[i]? = some x) (hj : X.N[j]? = some y) (hij : i ≠ j) (hx : X.env.scope.names.lookup x = some .local) (hy : X.env.scope.names.lookup y = some .local)
    (ha : PE X a (SE X.K T fa)) (hb : PE X b (SE X.K T fb)) (h1 : starEach [a, b] X.env = (false, eval a X.env) :: starEach [b] X.env := by rfl) (h2 : starEach [b] X.env = (false, eval b X.env) :: starEach [] X.env := by rfl)
    (hw : swappedStores [.Tuple [.Name x px, .Name y py] kt pt] (.Tuple [a, b] k2 pt2) X.env = pure (some [x, y]) := by rfl) (hs : swapsWithSole [.Tuple [.Name x px, .Name y py] kt pt] (.Tuple [a, b] k2 pt2) pos.line X.env = pure false := by rfl) :
    PS X (.Assign [.Tuple [.Name x px, .Name y py] kt pt] (.Tuple [a, b] k2 pt2) pos) (SS X.K T (sPar i j fa fb)) := (ps_par hc hN hi hj hij hx hy (pa_cons ha (pa_cons hb pa_nil h2) h1) hw hs).imp fun D σ H ⟨π, F, S, ρ, fl, ρ', R, e, q⟩ => by
  obtain ⟨⟨r1, ρ1⟩, e1, e⟩ := Res.bind_eq e
  obtain ⟨⟨r2, ρ2⟩, e2, e⟩ := Res.bind_eq e
  obtain ⟨c, e3, e⟩ := Res.bind_eq e
  obtain ⟨d, e4, e⟩ := Res.bind_eq e
  cases e
  have e3 := Res.of_eq e3
  have e4 := Res.of_eq e4
  refine ⟨π, F, S, ρ, r1, ρ1, R, e1, fun S1 H1 v s1 R1 rv => ?_⟩
  cases r1 with
  | bor _ => cases e3
  | fro d1 =>
    refine ⟨π, F, S1, ρ1, r2, ρ2, R1, e2, fun S2 H2 w s2 R2 rw' => ⟨v, w, rfl, ?_⟩⟩
    have Ra : Rel X.K T π F S2 (ρ2.set i c) (σ.set i (some v)) H2 := R2.store (r := .fro d1) (DR.mono s2 rv) e3
    refine q S2 _ H2 (s1.trans s2) (Ra.store (r := r2) ?_ e4)
    cases r2 with
    | bor _ => cases e4
    | fro _ => exact rw'
    | own d2 =>
      obtain ⟨a2, rfl, o2, ap2⟩ := rw'
      refine ⟨a2, rfl, o2, fun k ck hk m z => ?_⟩
      rcases getElem?_set_cases hk with ⟨rfl, rfl⟩ | ⟨nk, hk⟩
      · cases e3; cases m
      · rw [List.getElem?_set_ne (Ne.symm nk)] at z
        exact ap2 k ck hk m z
  | own d1 =>
    cases e3
    obtain ⟨a1, rfl, o1, ap1⟩ := rv
    obtain ⟨o, ho⟩ := o1.2.2.there
    refine ⟨π, _, S1, ρ1, r2, ρ2, R1.lend o1 ap1 ho, e2, fun S2 H2 w s2 R2 rw' => ⟨_, w, rfl, ?_⟩⟩
    obtain ⟨R3, h3, nS2, ap3⟩ := Rel.unlend o1.2.1 R2
    have own1 : Own X.K T F S2 H2 a1 d1 := ⟨nS2, o1.2.1, (o1.2.2.mono s2).heap (h3.trans ho.symm)⟩
    have Ra : Rel X.K T π F S2 (ρ2.set i (.own d1)) (σ.set i (some (.ref a1))) H2 := R3.store (r := .own d1) ⟨a1, rfl, own1, ap3⟩ rfl
    refine q S2 _ H2 (s1.trans s2) (Ra.store (r := r2) ?_ e4)
    cases r2 with
    | bor _ => cases e4
    | fro _ => exact rw'
    | own d2 =>
      obtain ⟨a2, rfl, o2, ap2⟩ := rw'
      have ne : a2 ≠ a1 := fun z => by
        have := o2.2.1
        rw [z, upd_same] at this; cases this
      refine ⟨a2, rfl, ⟨o2.1, by have := o2.2.1; rw [upd_ne ne] at this; exact this, o2.2.2⟩, fun k ck hk m z => ?_⟩
      rcases getElem?_set_cases hk with ⟨rfl, rfl⟩ | ⟨nk, hk⟩
      · have hl : k < σ.length := by
          have := (List.getElem?_eq_some_iff.mp z).1
          rw [List.length_set] at this; exact this
        rw [List.getElem?_set_self hl] at z
        cases z
        exact ne rfl
      · rw [List.getElem?_set_ne (Ne.symm nk)] at z
        exact ap2 k ck hk m z
end

/-! ### xs[k] = e, xs.append(e), xs.extend(e), xs.pop() -/
/-- our list in slot i is changed to what h gives -/
def putL (i : Nat) (h : List D → Res (List D)) (ρ : Env) : Res Env := (Res.of ρ[i]?).bind fun c => (Res.need c.mut).bind fun _ => (Res.of c.dat).bind fun d => match d with
  | .lst ds => (h ds).bind fun es => .ok (ρ.set i (c.put (.lst es)))
  | _ => .bad
def isL (i : Nat) (ρ : Env) : Bool := match ρ[i]? with
  | some (.own (.lst _)) => true
  | some (.brw (.lst _)) => true
  | _ => false
def sSetIx (i : Nat) (fk fe : EF) : SF := fun ρ => (fe ρ).bind fun p => (Res.of p.1.take).bind fun x => (Res.need (isL i p.2)).bind fun _ => (fk p.2).bind fun q => (Res.of (deref q.2 q.1.hold)).bind fun kd => match kd with
  | .int k => (putL i (fun ds => (Res.of (ixN ds.length k)).bind fun j => .ok (ds.set j x)) q.2).bind fun ρ1 => .ok (.nx, ρ1)
  | _ => .bad
def sApp (i : Nat) (fe : EF) : SF := fun ρ => (Res.need (isL i ρ)).bind fun _ => (fe ρ).bind fun p => (Res.of p.1.take).bind fun x => (putL i (fun ds => if ds.length < sizeLine then .ok (ds ++ [x]) else .bad) p.2).bind fun ρ1 => .ok (.nx, ρ1)
def sExt (i : Nat) (fe : EF) : SF := fun ρ => (Res.need (isL i ρ)).bind fun _ => (fe ρ).bind fun p => (Res.of p.1.take).bind fun x => match x with
  | .lst xs => (putL i (fun ds => if ds.length + xs.length ≤ sizeLine then .ok (ds ++ xs) else .bad) p.2).bind fun ρ1 => .ok (.nx, ρ1)
  | _ => .bad
section
variable {K : PySem.W.Frag} {T : Tab} {π σ : L2.St} {F S S' H H' : Hp} {ρ ρ' : Env} {a : Addr} {v w : V} {d : D} {r : RV} {c : Cell} {i : Nat}
theorem putL_eq {h : List D → Res (List D)} (R : Rel K T π F S ρ σ H) (e : putL i h ρ = .ok ρ') : ∃ a vs ds es, σ[i]? = some (some (V.ref a)) ∧ H a = some (.lst vs) ∧ DRs K T S vs ds ∧ h ds = .ok es ∧
    ∀ ws, DRs K T S ws es → Rel K T π F S ρ' σ (upd H a (.lst ws)) := by
  obtain ⟨c, e1, e⟩ := Res.bind_eq e
  obtain ⟨_, e2, e⟩ := Res.bind_eq e
  obtain ⟨d, e3, e⟩ := Res.bind_eq e
  have mc := Res.need_eq e2
  obtain ⟨a, ha, ow⟩ := R.ownd (Res.of_eq e1) mc (Res.of_eq e3)
  cases d <;> first | (cases e; done) | skip
  rename_i ds
  obtain ⟨es, e4, e⟩ := Res.bind_eq e
  cases e
  obtain ⟨vs, h1, h2⟩ := ow.2.2
  exact ⟨a, vs, ds, es, ha, h1, h2, e4, fun ws hw => R.mutate (Res.of_eq e1) mc ha ⟨ws, upd_same, hw⟩⟩
theorem isL_at (R : Rel K T π F S ρ σ H) (e : isL i ρ = true) : ∃ a vs, σ[i]? = some (some (V.ref a)) ∧ H a = some (.lst vs) := by
  unfold isL at e
  split at e
  · rename_i hc
    obtain ⟨a, h1, o⟩ := R.sl i _ hc
    obtain ⟨vs, h2, _⟩ := o.2.2
    exact ⟨a, vs, h1, h2⟩
  · rename_i hc
    obtain ⟨a, h1, _, o⟩ := R.sl i _ hc
    obtain ⟨vs, h2, _⟩ := o.2.2
    exact ⟨a, vs, h1, h2⟩
  · cases e
end
section
variable {X : Cx} {T : Tab} {o e ke : Expr} {fe fk : EF} {pos spos apos cpos : Pos} {i : Nat}
theorem ss_setIx (ho : PE X o (tVar i)) (hk : PE X ke (SE X.K T fk)) (he : PE X e (SE X.K T fe))
    (ha : ∀ v, assign (.Subscript o ke pos) X.env v = (do
      let ov ← holding [v] (eval o X.env)
      let iv ← holding [v, ov] (eval ke X.env)
      standAt pos
      holding [v, ov, iv] (setItem ov iv v)
      release [v, ov, iv] []) := by intro _; rfl) (hs : swapsWithSole [.Subscript o ke pos] e spos.line X.env = pure false := by rfl) (hw : swappedStores [.Subscript o ke pos] e X.env = pure none := by rfl)
    (h1 : (assignEach [.Subscript o ke pos] X.env).map (·.2) = [assign (.Subscript o ke pos) X.env] := by rfl) : PS X (.Assign [.Subscript o ke pos] e spos) (SS X.K T (sSetIx i fk fe)) := (ps_asg he (pg_sub ho hk set_list ha) hs hw h1).imp fun D σ H ⟨π, F, S, ρ, fl, ρ', R, e, q⟩ => by
  obtain ⟨⟨r, ρ1⟩, e1, e⟩ := Res.bind_eq e
  obtain ⟨x, e2, e⟩ := Res.bind_eq e
  obtain ⟨_, e9, e⟩ := Res.bind_eq e
  obtain ⟨⟨rk, ρ2⟩, e3, e⟩ := Res.bind_eq e
  obtain ⟨kd, e4, e⟩ := Res.bind_eq e
  refine ⟨π, F, S, ρ, r, ρ1, R, e1, fun S1 H1 v s1 R1 rv => ?_⟩
  obtain ⟨S2, s2, R2, hv⟩ := rv.take R1 (Res.of_eq e2)
  obtain ⟨b, _, hb, _⟩ := isL_at R2 (Res.need_eq e9)
  refine ⟨_, hb, π, F, S2, ρ1, rk, ρ2, R2, e3, fun S3 H3 w s3 R3 rw' => ?_⟩
  obtain ⟨S4, s4, R4, hk⟩ := rw'.hold R3
  have rk := hk.rd R4 (Res.of_eq e4)
  cases kd <;> first | (cases e; done) | skip
  rename_i k
  obtain ⟨ρ3, e5, e⟩ := Res.bind_eq e
  cases e
  obtain ⟨a, vs, ds, es, h1, h2, h3, h4, h5⟩ := putL_eq R4 e5
  obtain ⟨j, e6, h4⟩ := Res.bind_eq h4
  cases h4
  rw [hb] at h1; cases h1
  exact ⟨_, vs, k, j, rfl, rk.int, h2, by rw [h3.length]; exact Res.of_eq e6, q S4 σ _ (s1.trans (s2.trans (s3.trans s4))) (h5 _ (h3.set j (hv.mono (s3.trans s4))))⟩
theorem ss_app {st : Stmt} (h : PS X st (tDrop (tBM X.K "list" rAppend (tVar i) (tCons (SE X.K T fe) tNil)))) : PS X st (SS X.K T (sApp i fe)) := h.imp fun D σ H ⟨π, F, S, ρ, fl, ρ', R, e, q⟩ => by
  obtain ⟨_, e1, e⟩ := Res.bind_eq e
  obtain ⟨⟨r, ρ1⟩, e2, e⟩ := Res.bind_eq e
  obtain ⟨x, e3, e⟩ := Res.bind_eq e
  obtain ⟨ρ2, e4, e⟩ := Res.bind_eq e
  cases e
  obtain ⟨b, ws, hb, hl⟩ := isL_at R (Res.need_eq e1)
  refine ⟨_, hb, .inl ⟨rfl, ws, .of hl⟩, π, F, S, ρ, r, ρ1, R, e2, fun S1 H1 v s1 R1 rv => ?_⟩
  obtain ⟨S2, s2, R2, hv⟩ := rv.take R1 (Res.of_eq e3)
  obtain ⟨a, vs, ds, es, h1, h2, h3, h4, h5⟩ := putL_eq R2 e4
  split at h4
  · rename_i hz
    cases h4
    rw [hb] at h1; cases h1
    exact ⟨_, vs, v, rfl, rfl, h2, by rw [h3.length]; exact hz, q S2 σ _ (s1.trans s2) (h5 _ (h3.append (.one hv)))⟩
  · cases h4
theorem ss_ext {st : Stmt} (h : PS X st (tDrop (tBM X.K "list" rExtend (tVar i) (tCons (SE X.K T fe) tNil)))) : PS X st (SS X.K T (sExt i fe)) := h.imp fun D σ H ⟨π, F, S, ρ, fl, ρ', R, e, q⟩ => by
  obtain ⟨_, e1, e⟩ := Res.bind_eq e
  obtain ⟨⟨r, ρ1⟩, e2, e⟩ := Res.bind_eq e
  obtain ⟨x, e3, e⟩ := Res.bind_eq e
  obtain ⟨b, ws, hb, hl⟩ := isL_at R (Res.need_eq e1)
  refine ⟨_, hb, .inl ⟨rfl, ws, .of hl⟩, π, F, S, ρ, r, ρ1, R, e2, fun S1 H1 v s1 R1 rv => ?_⟩
  obtain ⟨S2, s2, R2, hv⟩ := rv.take R1 (Res.of_eq e3)
  cases x <;> first | (cases e; done) | skip
  rename_i xs
  obtain ⟨ρ2, e4, e⟩ := Res.bind_eq e
  cases e
  obtain ⟨a, vs, ds, es, h1, h2, h3, h4, h5⟩ := putL_eq R2 e4
  cases hv with
  | lst hx hxs =>
    split at h4
    · rename_i hz
      cases h4
      rw [hb] at h1; cases h1
      exact ⟨_, _, vs, _, rfl, rfl, h2, R2.sS _ _ hx, by rw [h3.length, hxs.length]; exact hz, q S2 σ _ (s1.trans s2) (h5 _ (h3.append hxs))⟩
    · cases h4
end

/-! ### xs + ys, xs * n, t + u, slices -/
def oCat : D → D → Res RV := fun d e => match d, e with
  | .lst xs, .lst ys => if xs.length + ys.length ≤ sizeLine then .ok (.own (.lst (xs ++ ys))) else .bad
  | .tup xs, .tup ys => if xs.length + ys.length ≤ sizeLine then .ok (.fro (.tup (xs ++ ys))) else .bad
  | .int i, .int j => .ok (.fro (.int (i + j)))
  | _, _ => .bad
def oRep : D → D → Res RV := fun d e => match d, e with
  | .lst xs, .int k => if -(2 ^ 63) ≤ k ∧ k < 2 ^ 63 ∧ xs.length * k.toNat ≤ sizeLine then .ok (.own (.lst (List.replicate k.toNat xs).flatten)) else .bad
  | _, _ => .bad
def rCatQ (K : PySem.W.Frag) : R2 := fun x y H Q => (rCat x y H Q ∨ rCatA K x y H Q) ∨ rI0 (fun i j => .int (i + j)) x y H Q
section
variable {K : PySem.W.Frag} {T : Tab} {S H : Hp}
theorem DRs.rep {vs : List V} {ds : List D} (h : DRs K T S vs ds) : ∀ k : Nat, DRs K T S (List.replicate k vs).flatten (List.replicate k ds).flatten
  | 0 => .nil
  | k + 1 => by
    rw [List.replicate_succ, List.replicate_succ, List.flatten_cons, List.flatten_cons]
    exact h.append (DRs.rep h k)
theorem op_rCatQ : Op2 K T (rCatQ K) oCat := by
  intro π F S ρ σ H x y d e res Q R hx hy hg q
  cases d <;> first | (cases hg; done) | skip
  all_goals (cases e <;> first | (cases hg; done) | skip)
  · cases hg
    exact .inr ⟨_, _, hx.int, hy.int, q S H _ (Same.refl S) R (.int _)⟩
  · rename_i xs ys
    have hg : (if xs.length + ys.length ≤ sizeLine then Res.ok (RV.fro (.tup (xs ++ ys))) else .bad) = .ok res := hg
    split at hg
    · rename_i hz
      cases hg
      obtain ⟨a, vs, rfl, h1, h2⟩ := hx.tup
      obtain ⟨b, ws, rfl, h3, h4⟩ := hy.tup
      refine .inl (.inr ⟨a, b, vs, ws, rfl, rfl, sqT_same R.sS h1, sqT_same R.sS h3, by rw [h2.length, h4.length]; exact hz, fun z => ?_, fun _ z => ?_, fun _ _ p hp => ?_⟩)
      · subst z
        cases h2
        exact q S H _ (Same.refl S) R (.tup h3 h4)
      · subst z
        cases h4
        rw [List.append_nil] at q
        exact q S H _ (Same.refl S) R (.tup h1 h2)
      · obtain ⟨s2, R2, rv⟩ := new_tup R (h2.append h4) hp
        exact q _ _ _ s2 R2 rv
    · cases hg
  · rename_i xs ys
    have hg : (if xs.length + ys.length ≤ sizeLine then Res.ok (RV.own (.lst (xs ++ ys))) else .bad) = .ok res := hg
    split at hg
    · rename_i hz
      cases hg
      obtain ⟨a, vs, rfl, h1, h2⟩ := hx.lst R.sS
      obtain ⟨b, ws, rfl, h3, h4⟩ := hy.lst R.sS
      refine .inl (.inl ⟨a, b, vs, ws, rfl, rfl, h1, h3, by rw [h2.length, h4.length]; exact hz, fun p hp => ?_⟩)
      obtain ⟨R2, rv⟩ := new_lst R (h2.append h4) hp
      exact q _ _ _ (Same.refl S) R2 rv
    · cases hg
theorem op_rRep : Op2 K T rRep oRep := by
  intro π F S ρ σ H x y d e res Q R hx hy hg q
  cases d <;> first | (cases hg; done) | skip
  cases e <;> first | (cases hg; done) | skip
  rename_i xs k
  have hg : (if -(2 ^ 63) ≤ k ∧ k < 2 ^ 63 ∧ xs.length * k.toNat ≤ sizeLine then Res.ok (RV.own (.lst (List.replicate k.toNat xs).flatten)) else .bad) = .ok res := hg
  split at hg
  · rename_i hz
    cases hg
    obtain ⟨a, vs, rfl, h1, h2⟩ := hx.lst R.sS
    refine ⟨a, k, vs, rfl, hy.int, h1, hz.1, hz.2.1, by rw [h2.length]; exact hz.2.2, fun p hp => ?_⟩
    obtain ⟨R2, rv⟩ := new_lst R (h2.rep k.toNat) hp
    exact q _ _ _ (Same.refl S) R2 rv
  · cases hg
end
section
variable {X : Cx} {T : Tab} {a b : Expr} {fa fb : EF} {pos : Pos}
theorem ee_cat (ha : PE X a (SE X.K T fa)) (hb : PE X b (SE X.K T fb)) : PE X (.BinOp a .Add b pos) (SE X.K T (e2 oCat fa fb)) := ee_op ((op_cat.or op_catA).or op_add) op_rCatQ ha hb
theorem ee_rep (ha : PE X a (SE X.K T fa)) (hb : PE X b (SE X.K T fb)) : PE X (.BinOp a .Mult b pos) (SE X.K T (e2 oRep fa fb)) := ee_op op_rep op_rRep ha hb
end
/-- the bounds of a slice -/
def cutD (xs : List D) (lo hi : Option Int) : List D := (xs.drop (HT.sIx xs.length 0 lo)).take (HT.sIx xs.length xs.length hi - HT.sIx xs.length 0 lo)
theorem DRs.cut {K : PySem.W.Frag} {T : Tab} {S : Hp} {vs : List V} {ds : List D} (h : DRs K T S vs ds) (lo hi : Option Int) : DRs K T S (cutV vs lo hi) (cutD ds lo hi) := by
  unfold cutV cutD
  rw [h.length]
  exact (h.drop _).take _
/-- x[lo:hi], the bounds written -/
def eSl (lo hi : Option Int) (f : EF) : EF := getD f fun d ρ1 => match d with
  | .lst xs => .ok (.own (.lst (cutD xs lo hi)), ρ1)
  | .tup xs => .ok (.fro (.tup (cutD xs lo hi)), ρ1)
  | .scr ns => .ok (.own (.lst (cutD (ns.map .int) lo hi)), ρ1)
  | _ => .bad
def PartIs (X : Cx) (e : Option Expr) (i : Option Int) : Prop := ∃ t : TO, PO X e t ∧ ∀ σ H Q, Q i H → t σ H Q
theorem part_none {X : Cx} : PartIs X none none := ⟨_, po_none, fun σ H Q q => q⟩
theorem part_int {X : Cx} {i : Int} {j pos} : PartIs X (some (.Constant (.int i) j pos)) (some i) := ⟨_, po_some pe_int, fun σ H Q q => ⟨i, rfl, q⟩⟩
theorem part_neg {X : Cx} {i : Int} {j pos pos'} : PartIs X (some (.UnaryOp .USub (.Constant (.int i) j pos) pos')) (some (-i)) := ⟨_, po_some (pe_un un_neg pe_int), fun σ H Q q => ⟨i, rfl, -i, rfl, q⟩⟩
section
variable {X : Cx} {T : Tab} {a : Expr} {fa : EF} {pos p2 : Pos} {lo hi : Option Expr} {l h : Option Int}
theorem cut_whole {α : Type} {xs : List α} {lo hi : Option Int} (e : HT.sIx xs.length 0 lo = 0 ∧ HT.sIx xs.length xs.length hi = xs.length) : (xs.drop (HT.sIx xs.length 0 lo)).take (HT.sIx xs.length xs.length hi - HT.sIx xs.length 0 lo) = xs := by
  rw [e.1, e.2, List.drop_zero, Nat.sub_zero, List.take_length]
theorem ee_sl (ha : PE X a (SE X.K T fa)) (h1 : PartIs X lo l) (h2 : PartIs X hi h) : PE X (.Subscript a (.Slice lo hi none p2) pos) (SE X.K T (eSl l h fa)) := by
  obtain ⟨t1, p1, i1⟩ := h1
  obtain ⟨t2, p3, i2⟩ := h2
  refine (pe_slice (sl_list.or sl_tupA) ha p1 p3).imp fun σ H Q hq => ?_
  obtain ⟨π, F, S, ρ, r, ρ', R, e, q⟩ := hq
  refine SE.data R e fun S' H' ρ1 v d s R' rd hk => i1 _ _ _ (i2 _ _ _ ?_)
  cases d <;> first | (cases hk; done) | skip
  · cases hk
    obtain ⟨a, vs, rfl, h1, h2⟩ := rd.tup
    refine .inr ⟨a, vs, rfl, sqT_same R'.sS h1, fun z => ?_, fun _ p hp => ?_⟩
    · refine q S' H' _ s R' (.tup h1 ?_)
      have := h2.cut l h
      rw [show cutV vs l h = vs from cut_whole z] at this
      exact this
    · obtain ⟨s2, R2, rv⟩ := new_tup R' (h2.cut l h) hp
      exact q _ _ _ (s.trans s2) R2 rv
  · cases hk
    obtain ⟨a, vs, rfl, h1, h2⟩ := rd.lst R'.sS
    refine .inl ⟨a, vs, rfl, .of h1, fun p hp => ?_⟩
    obtain ⟨R2, rv⟩ := new_lst R' (h2.cut l h) hp
    exact q _ _ _ s R2 rv
  · cases hk
    obtain ⟨a, rfl, h1⟩ := rd.scr R'.sS
    refine .inl ⟨a, _, rfl, h1, fun p hp => ?_⟩
    obtain ⟨R2, rv⟩ := new_lst R' ((drs_ints _).cut l h) hp
    exact q _ _ _ s R2 rv
end
end Dt
end

section
set_option Elab.async false
set_option linter.all false
set_option maxRecDepth 100000
set_option maxHeartbeats 4000000
set_option autoImplicit false
namespace Dt
open PySem PySem.Spec PyProof.Rows L2

/-! ### a stable sort that computes -/
section
variable {α : Type} (le : α → α → Bool)
def insS (x : α) : List α → List α
  | [] => [x]
  | y :: ys => if le x y = true then x :: y :: ys else y :: insS x ys
def sortS : List α → List α
  | [] => []
  | x :: xs => insS le x (sortS xs)
end
section
variable {α : Type} {le : α → α → Bool}
theorem mem_insS {x z : α} : ∀ {l : List α}, z ∈ insS le x l ↔ z = x ∨ z ∈ l
  | [] => by simp [insS]
  | y :: ys => by
    unfold insS
    split
    · simp
    · simp only [List.mem_cons, mem_insS (l := ys)]
      constructor
      · rintro (h | h | h)
        · exact .inr (.inl h)
        · exact .inl h
        · exact .inr (.inr h)
      · rintro (h | h | h)
        · exact .inr (.inl h)
        · exact .inl h
        · exact .inr (.inr h)
theorem pw_insS (h : PySem.W.TotalLe le) {x : α} : ∀ {l : List α}, l.Pairwise (fun a b => le a b = true) → (insS le x l).Pairwise (fun a b => le a b = true)
  | [], _ => by simp [insS]
  | y :: ys, p => by
    obtain ⟨p1, p2⟩ := List.pairwise_cons.mp p
    unfold insS
    split
    · rename_i hx
      refine List.pairwise_cons.mpr ⟨fun z hz => ?_, p⟩
      rcases List.mem_cons.mp hz with rfl | hz
      · exact hx
      · exact h.trans _ _ _ hx (p1 z hz)
    · rename_i hx
      refine List.pairwise_cons.mpr ⟨fun z hz => ?_, pw_insS h p2⟩
      rcases mem_insS.mp hz with rfl | hz
      · exact (h.total y z).resolve_right hx
      · exact p1 z hz
theorem fil_insS (h : PySem.W.TotalLe le) {x c : α} : ∀ {l : List α}, l.Pairwise (fun a b => le a b = true) → (insS le x l).filter (PySem.W.sameRank le c) = (x :: l).filter (PySem.W.sameRank le c)
  | [], _ => by simp [insS]
  | y :: ys, p => by
    obtain ⟨p1, p2⟩ := List.pairwise_cons.mp p
    unfold insS
    split
    · rfl
    · rename_i hx
      have ih := fil_insS h (x := x) (c := c) p2
      rw [List.filter_cons, ih, List.filter_cons, List.filter_cons, List.filter_cons]
      by_cases sx : PySem.W.sameRank le c x = true
      · have sy : ¬ PySem.W.sameRank le c y = true := fun sy => hx (by
          unfold PySem.W.sameRank at sx sy
          rw [Bool.and_eq_true] at sx sy
          exact h.trans _ _ _ sx.2 sy.1)
        simp only [sx, sy, if_true]
        simp
      · simp only [sx]
        simp
theorem pw_sortS (h : PySem.W.TotalLe le) : ∀ l : List α, (sortS le l).Pairwise (fun a b => le a b = true)
  | [] => List.Pairwise.nil
  | x :: xs => pw_insS h (pw_sortS h xs)
theorem fil_sortS (h : PySem.W.TotalLe le) (c : α) : ∀ l : List α, (sortS le l).filter (PySem.W.sameRank le c) = l.filter (PySem.W.sameRank le c)
  | [] => rfl
  | x :: xs => by
    show (insS le x (sortS le xs)).filter _ = _
    rw [fil_insS h (pw_sortS h xs), List.filter_cons, List.filter_cons, fil_sortS h c xs]
theorem sortS_eq (h : PySem.W.TotalLe le) (l : List α) : sortS le l = l.mergeSort le := PySem.W.sort_unique h (pw_sortS h l) fun c => fil_sortS h c l
theorem length_insS {x : α} : ∀ l : List α, (insS le x l).length = l.length + 1
  | [] => rfl
  | y :: ys => by
    unfold insS
    split
    · rfl
    · rw [List.length_cons, length_insS ys, List.length_cons]
theorem length_sortS : ∀ l : List α, (sortS le l).length = l.length
  | [] => rfl
  | x :: xs => by
    show (insS le x (sortS le xs)).length = _
    rw [length_insS, length_sortS xs, List.length_cons]
end

/-! ### sorted of a list or tuple of alike data -/
section
variable {prog : Program} {w : World} {A : Around} {E : Value → Shared → Prop} {s : Shared}
theorem coll_tuple {l : Addr} {vs : List Value} {Q : List Value → Shared → Prop} (hl : s.heap.IsTuple l vs.toArray) (hsz : vs.length ≤ sizeLine) (h : Q vs { s with heap := (s.heap.push (seqObj "list" #[] 0)).update s.heap.objs.size (Obj.mapSeq (· ++ vs.toArray)) }) : wpAny (model prog w) A (collect (.ref l)) Q E s := by
  obtain ⟨o, ho, hc, n, hd⟩ := id hl
  unfold collect
  refine wpAny_bind (wpAny_runValue (codeAny_builtin entry_proto_collect' (show wpAny _ _ (do again (.builtin "list.__iadd__" ⟨[← newList [], .ref l], []⟩)) _ _ s from wpAny_bind (wpAny_newList (wpAny_pure ⟨Code.quiet_builtin _ (by decide +kernel), codeAny_builtin entry_list_iadd' ?_⟩)))))
  show wpAny _ _ (Builtin.List.listExtendWith (.ref s.heap.objs.size) (.ref l) (.ref s.heap.objs.size)) _ _ { s with heap := s.heap.push (seqObj "list" #[] 0) }
  unfold Builtin.List.listExtendWith
  have h1 : (s.heap.push (seqObj "list" #[] 0)).get? l = some o := Heap.get?_push_of_some _ ho
  refine wpAny_bind (wpAny_typeOf (T := "tuple") ⟨o, h1, hc⟩ ?_)
  rw [if_pos (by rw [show (Value.type "tuple" == Value.type "tuple") = true from rfl, Bool.or_true])]
  refine wpAny_bind (listItems_at h1 hd (wpAny_bind (listItems_at (xs := #[]) (n := 0) (Heap.get?_push_size _ rfl) rfl ?_)))
  rw [if_neg (by simp)]
  refine wpAny_bind (listUpdate_at (xs := #[]) (n := 0) (Heap.get?_push_size _ rfl) rfl (wpAny_pure ?_) (Nat.zero_le _) (by show (#[] ++ vs.toArray).size ≤ sizeLine + 1; simp only [Array.size_append, List.size_toArray, List.length_nil]; omega))
  show wpAny (model prog w) A (do
      let o ← load s.heap.objs.size
      match o.data with
        | .seq xs _ => pure xs.toList
        | _ => unsupported "internal:collect") Q E { s with heap := (s.heap.push (seqObj "list" #[] 0)).update s.heap.objs.size (Obj.mapSeq (· ++ vs.toArray)) }
  exact wpAny_bind (wpAny_load (get?_update_seq (Heap.get?_push_size _ rfl) _) (show wpAny _ _ (pure ((#[] : Array Value) ++ vs.toArray).toList) Q E _ from by rw [show ((#[] : Array Value) ++ vs.toArray).toList = vs by simp]; exact wpAny_pure h))
open PySem.W in
theorem sorted_tup_sort {l : Addr} {vs : List Value} {Q : Value → Shared → Prop} (hl : s.heap.IsTuple l vs.toArray) (hL : vs.length ≤ sizeLine)
    (body : ∀ E' : Value → Shared → Prop, wpAny (model prog w) A.in1.in1 (Builtin.«list.sort» ⟨[.ref (s.heap.objs.size + 1)], []⟩) (fun f s' => f = .done (.ret .none) ∧ Q (.ref (s.heap.objs.size + 1)) s') E' { s with heap := copyHeap s.heap vs }) : wpAny (model prog w) A (call (.builtin "sorted") [.ref l]) Q E s := by
  refine call_function_entry_kw kind_sorted plain_sorted entry_sorted (args_sorted1 _) ?_
  unfold Builtin.«sorted»
  refine wpAny_bind (m := checkCount "sorted" 1 1 _) (wpAny_pure (wpAny_bind (coll_tuple hl hL (wpAny_bind (wpAny_newList ?_ hL)))))
  have hsz : ((s.heap.push (seqObj "list" #[] 0)).update s.heap.objs.size (Obj.mapSeq (· ++ vs.toArray))).objs.size = s.heap.objs.size + 1 := by rw [Heap.size_update, size_push']
  show wpAny _ _ _ _ _ { s with heap := copyHeap s.heap vs }
  rw [hsz]
  exact wpAny_bind (wpAny_holding (wpAny_call_entry_kw slot_list_sort ⟨_, copyHeap_at s.heap vs, rfl⟩ entry_list_sort (wpAny_mono (body _) (fun f s' hf => by obtain ⟨rfl, hq⟩ := hf; exact ⟨_, rfl, wpAny_pure ⟨_, rfl, hq⟩⟩) fun _ _ e => e) (args_list_sort _)))
open PySem.W in
/-- sorted(v), v a list or a tuple of alike data -/
theorem sorted_seq {β : Type} {R : Value → β → Prop} {enc : β → PyData} {l : Addr} {vs : List Value} {bs : List β} {Q : Value → Shared → Prop} (hl : s.heap.IsList l vs.toArray ∨ s.heap.IsTuple l vs.toArray) (e : EachIs R vs bs) (er : EachIs (fun v b => ∃ as, Reads s.heap v (enc b) as) vs bs) (hal : AllAlike (bs.map enc)) (hk : Sortable (bs.map enc)) (hL : bs.length ≤ sizeLine)
    (hu : ∀ b, b ∈ bs → A.units + 2 + (enc b).depth < cLine) (h : ∀ out, out.length = bs.length → EachIs R out (bs.mergeSort (dataLe false enc)) → Q (.ref (s.heap.objs.size + 1)) { s with heap := sortedAll s.heap vs (List.toArray out) }) :
    wpAny (model prog w) A (call (.builtin "sorted") [.ref l]) Q E s := by
  rcases hl with hl | hl
  · exact sorted_data hl e er hal hk hL hu h
  · have er' : EachIs (fun v b => ∃ as, Reads (sortingHeap (copyHeap s.heap vs) (s.heap.objs.size + 1) vs) v (enc b) as) vs bs := er.mono fun _ _ ⟨as, r⟩ => ⟨as, PyProof.Rows.Reads.keeps (fun _ _ => sorting_copy_old) r⟩
    have hLv : vs.length ≤ sizeLine := by rw [e.length]; exact hL
    exact sorted_tup_sort hl hLv fun _ => list_sort_vals (s := { s with heap := copyHeap s.heap vs }) (copyHeap_at s.heap vs) (SortsAt.data (s := { s with heap := sortingHeap (copyHeap s.heap vs) (s.heap.objs.size + 1) vs }) (each_map (R := fun v d => ∃ as, Reads (sortingHeap (copyHeap s.heap vs) (s.heap.objs.size + 1) vs) v d as) enc er') hal hk (bound_map hu)) hLv ⟨rfl, h _ (by rw [sortVals_length false rfl]; exact e.length) (sortVals_data false e er' hal)⟩
end
def alikeB (ds : List PyData) : Bool := ds.all fun d => ds.all fun d' => PySem.W.alike d d'
def sortableB (ds : List PyData) : Bool := (ds.all fun d => match d with
    | .tuple (_ :: _) => true
    | _ => false) || ds.all fun d => match d with
    | .none => false
    | .tuple _ => false
    | _ => true
theorem alikeB_of {ds : List PyData} (h : alikeB ds = true) : PySem.W.AllAlike ds := fun d hd d' hd' => List.all_eq_true.mp (List.all_eq_true.mp h d hd) d' hd'
theorem sortableB_of {ds : List PyData} (h : sortableB ds = true) : PySem.W.Sortable ds := by
  unfold sortableB at h
  rw [Bool.or_eq_true] at h
  rcases h with h | h
  · refine .inl fun d hd => ?_
    have := List.all_eq_true.mp h d hd
    split at this
    · exact ⟨_, _, rfl⟩
    · cases this
  · refine .inr fun d hd => ?_
    have := List.all_eq_true.mp h d hd
    split at this
    · cases this
    · cases this
    · rename_i h1 h2
      exact ⟨fun z => h1 z, fun xs z => h2 xs z⟩
/-- sorted(v) by data -/
def rSortD (K : PySem.W.Frag) : List V → Hp → VK → Prop := fun vs H Q => ∃ (a : Addr) (bs : List (V × PyData)), vs = [V.ref a] ∧ (SqL K H a (bs.map (·.1)) ∨ SqT K H a (bs.map (·.1))) ∧ (∀ b ∈ bs, Dp K H b.1 b.2) ∧ alikeB (bs.map (·.2)) = true ∧ sortableB (bs.map (·.2)) = true ∧ (∀ b ∈ bs, b.2.depth ≤ 60) ∧
  ∀ p, H p = none → Q (.ref p) (upd H p (.lst ((bs.mergeSort (PySem.W.dataLe false (·.2))).map (·.1))))
theorem eachIs_vals {R : V → Value → Prop} : ∀ {bs : List (V × PyData)} {us : List Value}, Vals (bs.map (·.1)) us → PySem.W.EachIs (fun u b => RelV b.1 u) us bs
  | [], _, .nil => .nil
  | b :: bs, _, .cons r t => .cons r (eachIs_vals (R := R) t)
theorem vals_eachIs : ∀ {bs : List (V × PyData)} {us : List Value}, PySem.W.EachIs (fun u b => RelV b.1 u) us bs → Vals (bs.map (·.1)) us
  | [], _, .nil => .nil
  | b :: bs, _, .cons r t => .cons r (vals_eachIs t)
theorem reads_all {X : Cx} {pins : List (Addr × Obj)} {σ : L2.St} {H : Hp} {s : Shared} (I : Inv X pins σ H s) : ∀ {bs : List (V × PyData)} {us : List Value}, Vals (bs.map (·.1)) us → (∀ b ∈ bs, Dp X.K H b.1 b.2) → PySem.W.EachIs (fun u (b : V × PyData) => ∃ as, Reads s.heap u b.2 as) us bs
  | [], _, .nil, _ => .nil
  | b :: bs, _, .cons r t, h => .cons (Dp.reads I b.2 b.1 _ (h b (by simp)) r) (reads_all I t fun b' hb => h b' (List.mem_cons_of_mem _ hb))
theorem cr_sortD {X : Cx} (hu : X.A.units + 64 < cLine) : CallR X (.builtin "sorted") (rSortD X.K) := by
  intro pins s σ H vs us Q I r h
  obtain ⟨a, bs, rfl, hs, hd, hal, hso, hdp, q⟩ := h
  rw [Vals.ref1 r]
  have key : ∀ its : List Value, Vals (bs.map (·.1)) its → bs.length ≤ sizeLine → (s.heap.IsList a its.toArray ∨ s.heap.IsTuple a its.toArray) → wpAny (model X.prog X.w) X.A (call (.builtin "sorted") [.ref a]) (EP X pins σ Q) X.xe s := fun its rv hz hl => by
    refine sorted_seq (R := fun u (b : V × PyData) => RelV b.1 u) (enc := fun b : V × PyData => b.2) hl (eachIs_vals (R := RelV) rv) (reads_all I rv hd) (alikeB_of hal) (sortableB_of hso) hz (fun b hb => by have := hdp b hb; omega) fun out ho eo => ?_
    obtain ⟨ep, he⟩ := sortedAll_at s.heap its out.toArray
    have hv := vals_eachIs eo
    exact ⟨.ref _, _, I.laid (t' := s.toks) (o := .lst ((bs.mergeSort (PySem.W.dataLe false (·.2))).map (·.1))) (fun _ _ => sortedAll_old) (Nat.le_succ _) ⟨by rw [List.length_map, List.length_mergeSort]; exact hz, out, ep, hv, he⟩, rfl, q _ (I.hok.fresh (Nat.le_succ _))⟩
  rcases hs with hs | hs
  · obtain ⟨its, rv, pl, hz⟩ := I.list hs
    rw [List.length_map] at hz
    exact key its rv hz (.inl pl.isList)
  · obtain ⟨its, rv, pl, hz⟩ := I.tuple hs
    rw [List.length_map] at hz
    exact key its rv hz (.inr pl)
/-- the order of data -/
def leD : D × PyData → D × PyData → Bool := PySem.W.dataLe false fun p : D × PyData => p.2
theorem leD_total : PySem.W.TotalLe leD := PySem.W.sortLe_total (PyProof.Rows.listOrd PyProof.Rows.itemOrd) false fun p : D × PyData => PySem.W.keyToks p.2
def sortD (ps : List (D × PyData)) : List D := (sortS leD ps).map (·.1)
def oSorted : D → Res RV := fun d => (Res.of d.items).bind fun xs => (Res.of (D.pys xs)).bind fun ps => (Res.need (alikeB ps && sortableB ps && ps.all fun p => decide (p.depth ≤ 60))).bind fun _ => .ok (.own (.lst (sortD (xs.zip ps))))
section
variable {K : PySem.W.Frag} {T : Tab} {S H : Hp}
theorem pys_len : ∀ {xs : List D} {ps : List PyData}, D.pys xs = some ps → ps.length = xs.length
  | [], _, e => by cases e; rfl
  | x :: xs, ps, e => by
    rw [D.pys] at e
    split at e
    · rename_i p ps' e1 e2
      cases e
      rw [List.length_cons, List.length_cons, pys_len e2]
    · cases e
theorem pys_zip : ∀ {xs : List D} {ps : List PyData}, D.pys xs = some ps → ∀ q ∈ xs.zip ps, q.1.py = some q.2
  | [], _, e, q, hq => by cases e; simp at hq
  | x :: xs, ps, e, q, hq => by
    rw [D.pys] at e
    split at e
    · rename_i p ps' e1 e2
      cases e
      rw [List.zip_cons_cons] at hq
      rcases List.mem_cons.mp hq with rfl | hq
      · exact e1
      · exact pys_zip e2 q hq
    · cases e
theorem drs_of : ∀ {bs : List (V × D)}, (∀ b ∈ bs, DR K T S b.1 b.2) → DRs K T S (bs.map (·.1)) (bs.map (·.2))
  | [], _ => .nil
  | b :: bs, h => .cons (h b (by simp)) (drs_of fun b' hb => h b' (List.mem_cons_of_mem _ hb))
theorem drs_zip : ∀ {vs : List V} {xs : List D}, DRs K T S vs xs → ∀ b ∈ vs.zip xs, DR K T S b.1 b.2
  | _, _, .nil, b, hb => by simp at hb
  | _, _, .cons h r, b, hb => by
    rw [List.zip_cons_cons] at hb
    rcases List.mem_cons.mp hb with rfl | hb
    · exact h
    · exact drs_zip r b hb
theorem map_zip1 {α β : Type} : ∀ {xs : List α} {ys : List β}, xs.length = ys.length → (xs.zip ys).map (·.1) = xs
  | [], _, _ => by simp
  | x :: xs, [], h => by cases h
  | x :: xs, y :: ys, h => by rw [List.zip_cons_cons, List.map_cons, map_zip1 (by simpa using h)]
theorem map_zip2 {α β : Type} : ∀ {xs : List α} {ys : List β}, xs.length = ys.length → (xs.zip ys).map (·.2) = ys
  | [], ys, h => by cases ys <;> simp_all
  | x :: xs, [], h => by cases h
  | x :: xs, y :: ys, h => by rw [List.zip_cons_cons, List.map_cons, map_zip2 (by simpa using h)]
theorem op_rSortD : Op1 K T (fun x H Q => rSortD K [x] H Q) oSorted := by
  intro π F S ρ σ H x d res Q R hx hg q
  obtain ⟨xs, e1, hg⟩ := Res.bind_eq hg
  obtain ⟨ps, e2, hg⟩ := Res.bind_eq hg
  obtain ⟨_, e3, hg⟩ := Res.bind_eq hg
  cases hg
  have e2 := Res.of_eq e2
  have hb := Res.need_eq e3
  rw [Bool.and_eq_true, Bool.and_eq_true] at hb
  obtain ⟨a, vs, rfl, h1, h2⟩ := hx.items R.sS (Res.of_eq e1)
  have l1 := h2.length
  have l2 := pys_len e2
  -- the values with their data and their encodings
  let tr : List (V × (D × PyData)) := vs.zip (xs.zip ps)
  have lz : (xs.zip ps).length = xs.length := by rw [List.length_zip]; omega
  have m1 : tr.map (·.1) = vs := map_zip1 (by omega)
  have m2 : tr.map (·.2) = xs.zip ps := map_zip2 (by omega)
  have hall : ∀ t ∈ tr, DR K T S t.1 t.2.1 ∧ t.2.1.py = some t.2.2 := fun t ht => by
    have hz := List.of_mem_zip ht
    refine ⟨?_, pys_zip e2 _ hz.2⟩
    obtain ⟨i, hi⟩ := List.mem_iff_getElem?.mp ht
    rw [List.getElem?_zip_eq_some] at hi
    have h3 := hi.2
    rw [List.getElem?_zip_eq_some] at h3
    obtain ⟨d', hd1, hd2⟩ := h2.get' hi.1
    rw [h3.1] at hd1; cases hd1
    exact hd2
  refine ⟨a, tr.map fun t => (t.1, t.2.2), rfl, ?_, ?_, ?_, ?_, ?_, fun p hp => ?_⟩
  · rw [List.map_map]
    show SqL K H a (tr.map (·.1)) ∨ SqT K H a (tr.map (·.1))
    rw [m1]; exact h1
  · intro b hb
    obtain ⟨t, ht, rfl⟩ := List.mem_map.mp hb
    obtain ⟨h3, h4⟩ := hall t ht
    exact (h3.mono R.sS).dp h4
  · rw [List.map_map]
    show alikeB (tr.map fun t => t.2.2) = true
    rw [show (tr.map fun t => t.2.2) = (tr.map (·.2)).map (·.2) by rw [List.map_map]; rfl, m2, map_zip2 (by omega)]; exact hb.1.1
  · rw [List.map_map]
    show sortableB (tr.map fun t => t.2.2) = true
    rw [show (tr.map fun t => t.2.2) = (tr.map (·.2)).map (·.2) by rw [List.map_map]; rfl, m2, map_zip2 (by omega)]; exact hb.1.2
  · intro b hb'
    obtain ⟨t, ht, rfl⟩ := List.mem_map.mp hb'
    have : t.2.2 ∈ ps := (List.of_mem_zip (List.of_mem_zip ht).2).2
    exact of_decide_eq_true (List.all_eq_true.mp hb.2 _ this)
  · have hs : ((tr.map fun t => (t.1, t.2.2)).mergeSort (PySem.W.dataLe false fun b : V × PyData => b.2)) = (tr.mergeSort (PySem.W.dataLe false fun t : V × (D × PyData) => t.2.2)).map fun t => (t.1, t.2.2) := (PySem.W.sort_maps (fun t : V × (D × PyData) => (t.1, t.2.2)) fun _ _ _ _ => rfl).symm
    have hs2 : (xs.zip ps).mergeSort leD = (tr.mergeSort (PySem.W.dataLe false fun t : V × (D × PyData) => t.2.2)).map (·.2) := by
      rw [← m2]; exact (PySem.W.sort_maps (fun t : V × (D × PyData) => t.2) fun _ _ _ _ => rfl).symm
    rw [hs, List.map_map]
    have hdr : DRs K T S ((tr.mergeSort (PySem.W.dataLe false fun t : V × (D × PyData) => t.2.2)).map (·.1)) (sortD (xs.zip ps)) := by
      unfold sortD
      rw [sortS_eq leD_total, hs2, List.map_map]
      have := drs_of (K := K) (T := T) (S := S) (bs := (tr.mergeSort (PySem.W.dataLe false fun t : V × (D × PyData) => t.2.2)).map fun t => (t.1, t.2.1)) fun b hb => by
        obtain ⟨t, ht, rfl⟩ := List.mem_map.mp hb
        exact (hall t (List.mem_mergeSort.mp ht)).1
      rw [List.map_map, List.map_map] at this
      exact this
    obtain ⟨R2, rv⟩ := new_lst R hdr hp
    exact q _ _ _ (Same.refl S) R2 rv
end
theorem ee_sorted {X : Cx} {T : Tab} {a : Expr} {f : AF} {p pos : Pos} (hu : X.A.units + 64 < cLine) (hg : Gl X "sorted") (hm : X.mg "sorted" = none) (ha : PA X [a] (SA X.K T f)) (he : starEach [a] X.env = (false, eval a X.env) :: starEach [] X.env := by rfl) : PE X (.Call (.Name "sorted" p) [a] [] pos) (SE X.K T (eCB (c1 oSorted) f)) := ee_callB (cr_sortD hu) (opC1 op_rSortD) hg hm (by decide +kernel) ha (he := he)
end Dt
end

section
set_option Elab.async false
set_option linter.all false
set_option maxRecDepth 100000
set_option maxHeartbeats 4000000
set_option autoImplicit false
namespace Dt
open PySem PySem.Spec PyProof.Rows L2

/-! ### any, all of bools -/
def bls : List D → Option (List Bool)
  | [] => some []
  | .bl b :: r => (bls r).map (b :: ·)
  | _ :: _ => none
def oAny : D → Res RV
  | .lst xs => (Res.of (bls xs)).bind fun bs => .ok (.fro (.bl (bs.any id)))
  | _ => .bad
def oAll : D → Res RV
  | .lst xs => (Res.of (bls xs)).bind fun bs => .ok (.fro (.bl (bs.all id)))
  | _ => .bad
section
variable {K : PySem.W.Frag} {T : Tab} {S H : Hp}
theorem DRs.bls : ∀ {vs : List V} {ds : List D} {bs : List Bool}, DRs K T S vs ds → Dt.bls ds = some bs → vs = bs.map V.bl
  | _, _, _, .nil, e => by cases e; rfl
  | v :: vs, d :: ds, bs, .cons h r, e => by
    cases d <;> first | (cases e; done) | skip
    obtain ⟨bs', e1, rfl⟩ := Option.map_eq_some_iff.mp e
    cases h
    rw [DRs.bls r e1]; rfl
theorem oc_any : OpC K T (rAny K) (c1 oAny) := opC1 (by
  intro π F S ρ σ H x d res Q R hx hg q
  cases d <;> first | (cases hg; done) | skip
  obtain ⟨bs, e1, hg⟩ := Res.bind_eq hg
  cases hg
  obtain ⟨a, vs, rfl, h1, h2⟩ := hx.lst R.sS
  refine ⟨a, bs, rfl, ?_, q S H _ (Same.refl S) R (.bl _)⟩
  rw [← h2.bls (Res.of_eq e1)]; exact .of h1)
theorem oc_all : OpC K T (rAll K) (c1 oAll) := opC1 (by
  intro π F S ρ σ H x d res Q R hx hg q
  cases d <;> first | (cases hg; done) | skip
  obtain ⟨bs, e1, hg⟩ := Res.bind_eq hg
  cases hg
  obtain ⟨a, vs, rfl, h1, h2⟩ := hx.lst R.sS
  refine ⟨a, bs, rfl, ?_, q S H _ (Same.refl S) R (.bl _)⟩
  rw [← h2.bls (Res.of_eq e1)]; exact .of h1)
end
section
variable {X : Cx} {T : Tab} {p pos : Pos} {a b : Expr} {es : List Expr} {f : AF} {fa : EF}
theorem ee_any (hc : X.calm = true) (hg : Gl X "any") (hm : X.mg "any" = none) (ha : PA X [a] (SA X.K T f)) (he : starEach [a] X.env = (false, eval a X.env) :: starEach [] X.env := by rfl) : PE X (.Call (.Name "any" p) [a] [] pos) (SE X.K T (eCB (c1 oAny) f)) := ee_callB (cr_any hc) oc_any hg hm (by decide +kernel) ha (he := he)
theorem ee_all (hc : X.calm = true) (hg : Gl X "all") (hm : X.mg "all" = none) (ha : PA X [a] (SA X.K T f)) (he : starEach [a] X.env = (false, eval a X.env) :: starEach [] X.env := by rfl) : PE X (.Call (.Name "all" p) [a] [] pos) (SE X.K T (eCB (c1 oAll) f)) := ee_callB (cr_all hc) oc_all hg hm (by decide +kernel) ha (he := he)
end

/-! ### isinstance -/
/-- the answers by kind: none, bool, int, text, tuple, list; then by own class -/
structure Isi where
  n : Bool
  b : Bool
  i : Bool
  s : Bool
  t : Bool
  l : Bool
  o : List (Nat × Bool)
def Isi.of (k : Isi) : D → Option Bool
  | .non => some k.n
  | .bl _ => some k.b
  | .int _ => some k.i
  | .str _ => some k.s
  | .tup _ => some k.t
  | .lst _ => some k.l
  | .scr _ => some k.l
  | .obj c _ => k.o.lookup c
  | _ => none
/-- what isinstance asks of an own class -/
structure ClsI (K : PySem.W.Frag) (C : Addr) : Prop where
  cl : Cls K C
  ha : PySem.W.findIn K (.ref C) "__class__" = some (some (.builtin "object.__class__"))
  hn : PySem.W.specialIn K (.builtin "object.__class__") "__get__" = some (some (.builtin "getset_descriptor.__get__"))
  htk : PySem.W.takesIn K (.builtin "object.__class__") = some true
  hm : PySem.W.mroIn K C (.type "object") = some true
structure IsiOk (K : PySem.W.Frag) (T : Tab) (u : Value) (k : Isi) : Prop where
  n : PySem.W.kitOne K (.type "NoneType") u = some k.n
  b : PySem.W.kitOne K (.type "bool") u = some k.b
  i : PySem.W.kitOne K (.type "int") u = some k.i
  s : PySem.W.kitOne K (.type "str") u = some k.s
  t : PySem.W.kitOne K (.type "tuple") u = some k.t
  l : PySem.W.kitOne K (.type "list") u = some k.l
  o : ∀ c b, k.o.lookup c = some b → ClsI K (T.ca c) ∧ PySem.W.kitOne K (.ref (T.ca c)) u = some b
section
variable {K : PySem.W.Frag} {T : Tab} {S H : Hp}
theorem tyx_lst {a : Addr} {xs : List V} (h : SqL K H a xs) : TyX K H (.ref a) (.type "list") := by
  rcases h with (h | ⟨o, h⟩) | ⟨o, its, n, h1, h2, _⟩
  · exact .base (.lst h)
  · exact .base (.frz h)
  · exact .kList h1 h2
theorem tyx_tup {a : Addr} {xs : List V} (h : SqT K H a xs) : TyX K H (.ref a) (.type "tuple") := by
  rcases h with (h | ⟨o, h⟩) | ⟨o, its, n, h1, h2, _⟩
  · exact .base (.tup h)
  · exact .fTuple h
  · exact .kTuple h1 h2
theorem IsiOk.at {u : Value} {k : Isi} (ok : IsiOk K T u k) (sS : Same S H) {v : V} {d : D} {b : Bool} (h : RD K T S H v d) (e : k.of d = some b) : ∃ t, TyX K H v t ∧ PySem.W.kitOne K t u = some b := by
  cases d <;> first | (cases e; done) | skip
  · cases e; cases h.non; exact ⟨_, .base .non, ok.n⟩
  · cases e; cases h.bl; exact ⟨_, .base (.bl _), ok.b⟩
  · cases e; cases h.int; exact ⟨_, .base (.int _), ok.i⟩
  · cases e; cases h.str; exact ⟨_, .base (.str _), ok.s⟩
  · cases e
    obtain ⟨a, vs, rfl, h1, _⟩ := h.tup
    exact ⟨_, tyx_tup (sqT_same sS h1), ok.t⟩
  · cases e
    obtain ⟨a, vs, rfl, h1, _⟩ := h.lst sS
    exact ⟨_, .base (.lst h1), ok.l⟩
  · cases e
    obtain ⟨a, rfl, h1⟩ := h.scr sS
    exact ⟨_, tyx_lst h1, ok.l⟩
  · obtain ⟨a, dx, fs, rfl, h1, _, _⟩ := h.obj sS
    obtain ⟨c, q⟩ := ok.o _ _ e
    exact ⟨_, .base (.ins h1 c.cl c.ha c.hn c.htk c.hm), q⟩
end
def oIsi (k : Isi) : D → Res RV := fun d => (Res.of (k.of d)).bind fun b => .ok (.fro (.bl b))
section
variable {X : Cx} {T : Tab} {p pos : Pos} {a b : Expr} {fa : EF} {c : V} {u : Value} {k : Isi}
theorem ee_isi (kc : ClsV c u) (ok : IsiOk X.K T u k) (hg : Gl X "isinstance") (hm : X.mg "isinstance" = none) (ha : PE X a (SE X.K T fa)) (hb : PE X b (tC c)) (h1 : starEach [a, b] X.env = (false, eval a X.env) :: starEach [b] X.env := by rfl) (h2 : starEach [b] X.env = (false, eval b X.env) :: starEach [] X.env := by rfl)
    (hpl : (backTo pos (starEach [b] X.env)).any (·.1) = false := by rfl) : PE X (.Call (.Name "isinstance" p) [a, b] [] pos) (SE X.K T (e1 (oIsi k) fa)) := (pe_callB call_isi hg hm (by decide +kernel) (pa_cons ha (pa_cons hb pa_nil h2) h1) (he := h1) (hpl := hpl)).imp fun σ H Q q => SE.e1 (r := fun x H Q => rIsi X.K [x, c] H Q) (by
  intro π F S ρ σ H x d res Q R hx hg q
  obtain ⟨b', e1, hg⟩ := Res.bind_eq hg
  cases hg
  obtain ⟨t, h1, h2⟩ := ok.at R.sS hx (Res.of_eq e1)
  exact ⟨x, c, t, u, b', rfl, kc, h1, h2, q S H _ (Same.refl S) R (.bl _)⟩) q
theorem tt_isi (kc : ClsV c u) (ok : IsiOk X.K T u k) (hg : Gl X "isinstance") (hm : X.mg "isinstance" = none) (ha : PE X a (SE X.K T fa)) (hb : PE X b (tC c)) (h1 : starEach [a, b] X.env = (false, eval a X.env) :: starEach [b] X.env := by rfl) (h2 : starEach [b] X.env = (false, eval b X.env) :: starEach [] X.env := by rfl)
    (hpl : (backTo pos (starEach [b] X.env)).any (·.1) = false := by rfl) : PT X (.Call (.Name "isinstance" p) [a, b] [] pos) (ST X.K T (bB (e1 (oIsi k) fa))) := tt_B (ee_isi kc ok hg hm ha hb h1 h2 hpl)
end

/-! ### a callee that is given frozen data alone: properties, len of an own class, methods -/
section
variable {K : PySem.W.Frag} {T : Tab} {π σ : L2.St} {F S S' H H' : Hp} {ρ ρ' : Env} {a : Addr} {v : V} {d : D} {r : RV}
theorem SpF.fros {ff : Fm} {vs : List V} {ds : List D} {cs' : List Cell} {Q : VK} {E : XK} (R : Rel K T π F S ρ σ H) (h : DRs K T S vs ds) (e : ff (ds.map .fro) = .ok (r, cs')) (m : r.made = true)
    (q : ∀ S' H' v, Same S S' → Rel K T π F S' ρ σ H' → RVR K T F S' H' ρ σ v r → Q v H') : SpF K T ff vs H Q E :=
  ⟨_, S, _, _, _, rel_fros R h, e, m, fun S' H' v s' R' rv => by
    have R2 : Rel K T π F S' ρ σ H' := R.back s' R'.sS R'.sF R'.dj R'.nS R'.tb (fun _ _ _ => rfl) fun _ _ _ _ _ _ => rfl
    exact q S' H' v s' R2 (rv.back R m (fun _ _ _ => rfl) fun a h _ _ => ap_none R _ (fun _ _ _ _ _ _ => rfl) h)⟩
end
/-- a def of one frozen object of the class -/
def oSelf (c : Nat) (ff : Fm) : EF → EF := fun f ρ => (f ρ).bind fun p => match p.1 with
  | .fro (.obj n ds) => (Res.need (n == c)).bind fun _ => (ff [.fro (.obj n ds)]).bind fun q => (Res.need q.1.made).bind fun _ => .ok (q.1, p.2)
  | _ => .bad
section
variable {X : Cx} {CX : CXT} {T : Tab} {k c : Nat} {C p g : Addr} {fd : FuncData} {ps : List Str} {E : XK} {f : Str} {e a : Expr} {pos np : Pos} {fe : EF} {ff : Fm}
theorem self_run {σ : L2.St} {H : Hp} {Q : VK} (q : SE X.K T (oSelf c ff fe) σ H Q) : SE X.K T fe σ H fun x H1 => ∃ a dx fs, x = .ref a ∧ H1 a = some (.ins (T.ca c) dx fs) ∧ SpF X.K T ff [.ref a] H1 Q E := by
  obtain ⟨π, F, S, ρ, r, ρ', R, e, q⟩ := q
  obtain ⟨⟨x, ρ1⟩, e1, e⟩ := Res.bind_eq e
  refine ⟨π, F, S, ρ, x, ρ1, R, e1, fun S1 H1 v s1 R1 rv => ?_⟩
  cases x <;> first | (cases e; done) | skip
  rename_i d
  cases d <;> first | (cases e; done) | skip
  rename_i n ds
  obtain ⟨_, e2, e⟩ := Res.bind_eq e
  obtain ⟨⟨r', cs'⟩, e3, e⟩ := Res.bind_eq e
  obtain ⟨_, e4, e⟩ := Res.bind_eq e
  cases e
  have en : n = c := beq_iff_eq.mp (Res.need_eq e2)
  subst en
  have rv : DR X.K T S1 v (.obj n ds) := rv
  cases rv with
  | obj h1 h2 h3 => exact ⟨_, _, _, rfl, R1.sS _ _ h1, SpF.fros R1 (.cons (.obj h1 h2 h3) .nil) e3 (Res.need_eq e4) fun S' H' v s R' rv => q S' H' v (s1.trans s) R' rv⟩
theorem ee_prop (hc : T.ca c = C) (cl : Cls X.K C) (hp : PropOf X.K C f p g) (G : FnOk X.prog X.w X.K X.mg X.base CX k g fd ps (SpF X.K T ff)) (hr : Room (k + 1) X.A) (hb : Binds X.K fd ps []) (hx : Passes CX X.nox E) (he : PE X e (SE X.K T fe))
    (hab : attributeBase e f X.env (eval e X.env) = eval e X.env := by rfl) : PE X (.Attribute e f pos) (SE X.K T (oSelf c ff fe)) := (pe_prop he cl hp G hr hb .nil hx hab).imp fun σ H Q q => by
  subst hc
  exact self_run (E := E) q
/-- len(o), o of an own class -/
def rLenO (C : Addr) (sp : Sp) (E : XK) : List V → Hp → VK → Prop := fun xs H Q => ∃ a dx fs, xs = [.ref a] ∧ H a = some (.ins C dx fs) ∧ sp [.ref a] H (fun v H' => ∃ n : Int, v = .int n ∧ (0 ≤ n ∧ n < 2 ^ 63) ∧ Q (.int n) H') E
theorem cr_lenO {sp : Sp} (hl : PySem.W.findIn X.K (.ref C) "__len__" = some (some (.ref g))) (hf : PySem.W.isFn X.K (.ref g) = true) (G : FnOk X.prog X.w X.K X.mg X.base CX k g fd ps sp) (hr : Room (k + 1) X.A) (hb : Binds X.K fd ps []) (hx : Passes CX X E) :
    CallR X (.builtin "len") (rLenO C sp E) := by
  intro pins s σ H xs us Q I r h
  obtain ⟨a, dx, fs, rfl, ea, h⟩ := h
  rw [Vals.ref1 r]
  obtain ⟨mA, O, _⟩ := ins_get I.hok ea
  obtain ⟨od, J, _⟩ := O.look
  refine Calls.call_function_entry kind_len plain_len entry_len (args_len1 (.ref a)) ?_; unfold Builtin.«len»
  refine wpAny_bind (m := oneArg "len" _) (wpAny_pure ?_)
  refine wpAny_bind (m := callSpecial? (.ref a) (Str.ofString "__len__")) (PySem.W.special_fn I.kIn J hl (beq_iff_eq.mp hf) (wpAny_call (codeAny_mono (G.run X.A.in1 X.stack s H ⟨[.ref a], []⟩ [.ref a] [.ref a] _ E hr.in1 I.env0.in1 (by
    have := hb s [.ref a] I.kIn (by rw [← G.len _ _ _ _ h]; rfl)
    simpa using this) (.cons rfl .nil) h) fun r s' hq => ?_)))
  cases r with
  | error er => exact hx pins σ H s er s' I hq
  | ok fl =>
    cases fl with
    | ret u =>
      obtain ⟨v, H', I3, rv, n, rfl, ⟨h0, h1⟩, q3⟩ := I.after hq
      obtain ⟨t, rfl⟩ : ∃ t, u = Value.int n t := rv
      refine wpAny_bind (wpAny_holding (wpAny_pure ?_)); refine wpAny_bind (wpAny_letGo ?_)
      show wpAny _ _ (if n < 0 then _ else _) _ _ _; rw [if_neg (by omega)]
      show wpAny _ _ (if n ≥ 2 ^ 63 then _ else _) _ _ _; rw [if_neg (by omega)]
      exact wpAny_bind (wpAny_mkInt (wpAny_pure ⟨_, rfl, .int n, H', I3.tok _, ⟨_, rfl⟩, q3⟩))
    | next => exact False.elim hq
    | brk => exact False.elim hq
    | cont => exact False.elim hq
end
theorem SE.mono {K : PySem.W.Frag} {T : Tab} {f : EF} {σ : L2.St} {H : Hp} {Q Q' : VK} (q : SE K T f σ H Q) (h : ∀ v H, Q v H → Q' v H) : SE K T f σ H Q' := by
  obtain ⟨π, F, S, ρ, r, ρ', R, e, q⟩ := q
  exact ⟨π, F, S, ρ, r, ρ', R, e, fun S' H' v s' R' rv => h _ _ (q S' H' v s' R' rv)⟩
def eLenO (c : Nat) (ff : Fm) (f : EF) : EF := fun ρ => (oSelf c ff f ρ).bind fun p => match p.1 with
  | .fro (.int n) => (Res.need (decide (0 ≤ n) && decide (n < 2 ^ 63))).bind fun _ => .ok (.fro (.int n), p.2)
  | _ => .bad
section
variable {X : Cx} {CX : CXT} {T : Tab} {k c : Nat} {C p g f : Addr} {fd : FuncData} {ps : List Str} {E : XK} {x m : Str} {e a o : Expr} {es : List Expr} {pos np apos : Pos} {fe : EF} {ff : Fm} {ga : AF}
theorem ee_lenO (hc : T.ca c = C) (hl : PySem.W.findIn X.K (.ref C) "__len__" = some (some (.ref g))) (hf : PySem.W.isFn X.K (.ref g) = true) (G : FnOk X.prog X.w X.K X.mg X.base CX k g fd ps (SpF X.K T ff)) (hr : Room (k + 1) X.A) (hb : Binds X.K fd ps []) (hx : Passes CX X E)
    (hg : Gl X "len") (hm : X.mg "len" = none) (he : PE X e (SE X.K T fe)) (h1 : starEach [e] X.env = (false, eval e X.env) :: starEach [] X.env := by rfl) (hpl : (backTo pos (starEach [] X.env)).any (·.1) = false := by rfl) :
    PE X (.Call (.Name "len" np) [e] [] pos) (SE X.K T (eLenO c ff fe)) := (pe_callB (cr_lenO hl hf G hr hb hx) hg hm PySem.boot_len (pa_cons he pa_nil h1) (he := h1) (hpl := hpl)).imp fun σ H Q ⟨π, F, S, ρ, r, ρ', R, e, q⟩ => by
  subst hc
  obtain ⟨⟨r1, ρ1⟩, e1, e⟩ := Res.bind_eq e
  cases r1 <;> first | (cases e; done) | skip
  rename_i d
  cases d <;> first | (cases e; done) | skip
  rename_i n
  obtain ⟨_, e2, e⟩ := Res.bind_eq e
  cases e
  have e2 := Res.need_eq e2
  rw [Bool.and_eq_true] at e2
  have z := self_run (E := E) (c := c) (ff := ff) (fe := fe) (σ := σ) (H := H) (X := X) (T := T) (Q := fun v H' => ∃ n : Int, v = .int n ∧ (0 ≤ n ∧ n < 2 ^ 63) ∧ Q (.int n) H') ⟨π, F, S, ρ, _, _, R, e1, fun S' H' v s R' rv => by
    cases (show DR X.K T S' v (.int n) from rv)
    exact ⟨n, rfl, ⟨of_decide_eq_true e2.1, of_decide_eq_true e2.2⟩, q S' H' _ s R' rv⟩⟩
  refine SE.mono z fun v H' h => ?_
  obtain ⟨a, dx, fs, rfl, h1, h2⟩ := h
  exact ⟨a, dx, fs, rfl, h1, h2⟩

/-! ### making an instance -/
def eMake (c : Nat) (ff : Fm) (g : AF) : EF := fun ρ => (g ρ).bind fun p => (Res.of (frozen p.1)).bind fun ds => (ff (.brw (.obj c []) :: ds.map .fro)).bind fun q => match q.1, q.2[(0 : Nat)]? with
  | RV.fro D.non, some (Cell.brw d) => .ok (.own d, p.2)
  | _, _ => .bad
theorem make_run {σ : L2.St} {H : Hp} {Q : VK} (q : SE X.K T (eMake c ff ga) σ H Q) : tMake (T.ca c) (SpF X.K T ff) [] E (SA X.K T ga) σ H Q := by
  obtain ⟨π, F, S, ρ, r, ρ', R, e, q⟩ := q
  obtain ⟨⟨rs, ρ1⟩, e1, e⟩ := Res.bind_eq e
  obtain ⟨ds, e2, e⟩ := Res.bind_eq e
  obtain ⟨⟨r', cs'⟩, e3, e⟩ := Res.bind_eq e
  refine ⟨π, F, S, ρ, rs, ρ1, R, e1, fun S1 H1 vs s1 R1 hv => ?_⟩
  intro x dx hx hdx ne
  rw [List.append_nil]
  have hd := hv.frozen (Res.of_eq e2)
  have hx2 : (upd H1 dx (.own x)) x = none := by rw [upd_ne (Ne.symm ne)]; exact hx
  have R2 : Rel X.K T π F S1 ρ1 σ (upd (upd H1 dx (.own x)) x (.ins (T.ca c) dx [])) := (R1.alloc hdx).alloc hx2
  have nS : S1 x = none := same_none R1.sS hx
  have nF : F x = none := same_none R1.sF hx
  have ap : Apart ρ1 σ x := R1.apart hx
  have ow : Own X.K T F S1 (upd (upd H1 dx (.own x)) x (.ins (T.ca c) dx [])) x (.obj c []) := ⟨nS, nF, dx, [], upd_same, by simp, .nil⟩
  have hP : ∀ b o, F b = some o → (b == x) = false := fun b o h => by
    have : b ≠ x := fun z => by rw [z, nF] at h; cases h
    simpa using this
  have hO : ∀ (i : Nat) (cc : Cell) (b : Addr), ρ1[i]? = some cc → cc.mut = true → σ[i]? = some (some (V.ref b)) → (b == x) = false := fun i cc b hc m e => by
    have : b ≠ x := fun z => ap i cc hc m (by rw [e, z])
    simpa using this
  refine ⟨_, S1, _, r', cs', rel_mid (us := []) (A := []) R2 .nil hd ow, e3, ?_, fun S' H' v s' R' rv => ?_⟩
  · split at e
    · rename_i e0 _
      have e0 : r' = _ := e0
      rw [e0]; rfl
    · cases e
  · split at e
    · rename_i d' e0 hd'
      have e0 : r' = _ := e0
      have hd' : cs'[0]? = _ := hd'
      cases e
      subst e0
      cases (show DR X.K T S' v .non from rv)
      refine ⟨rfl, ?_⟩
      obtain ⟨b, q1, _, q2⟩ := R'.sl 0 _ hd'
      have q1 : some (some (V.ref x)) = some (some (V.ref b)) := q1
      cases q1
      have R3 : Rel X.K T π F S' ρ1 σ H' := R2.back (P := fun b => b == x) s' R'.sS R'.sF R'.dj R'.nS R'.tb hP hO
      exact q S' H' _ (s1.trans s') R3 ⟨x, rfl, ⟨q2.1, nF, q2.2.2⟩, ap⟩
    · cases e
theorem ee_make (hc : T.ca c = C) (M : Mk X.K C f) (G : FnOk X.prog X.w X.K X.mg X.base CX k f fd ps (SpF X.K T ff)) (hr : Room (k + 1) X.A) (hg : Gl X x) (hm : X.mg x = some (.ref C)) (hb : Binds X.K fd ps []) (hx : Passes CX X E)
    (ha : PA X (e :: es) (SA X.K T ga)) (hdb : (x == ("__debug__" : Str)) = false := by decide) (he : starEach (e :: es) X.env = (false, eval e X.env) :: starEach es X.env := by rfl) (hpl : (backTo pos (starEach es X.env)).any (·.1) = false := by rfl) :
    PE X (.Call (.Name x np) (e :: es) [] pos) (SE X.K T (eMake c ff ga)) := (pe_make M G hr hg hm hb .nil hx ha hdb he hpl).imp fun σ H Q q => by
  subst hc
  exact make_run q
end

/-! ### two fors in a comprehension -/
def lcL2 (g : GF) (tt : BF) (src1 : IF) (g1 : GF) (vs1 vs : List Nat) (tt1 : BF) (te : EF) : List D → Env → List D → Res (List D × Env)
  | [], ρ, acc => .ok (acc, ρ)
  | d :: ds, ρ, acc => (g d ρ).bind fun ρ1 => (tt ρ1).bind fun p => if p.1 = true then
      (src1 p.2).bind fun q => (lcL g1 vs1 tt1 te q.1 (wipeE q.2 vs1) acc).bind fun z => lcL2 g tt src1 g1 vs1 vs tt1 te ds (wipeE z.2 vs) z.1
    else lcL2 g tt src1 g1 vs1 vs tt1 te ds (wipeE p.2 vs) acc
def eLc2 (g : GF) (src : IF) (tt : BF) (src1 : IF) (g1 : GF) (vs1 vs : List Nat) (tt1 : BF) (te : EF) : EF := fun ρ => (src ρ).bind fun p => (lcL2 g tt src1 g1 vs1 vs tt1 te p.1 (wipeE p.2 vs) []).bind fun q => .ok (.own (.lst q.1), q.2)
section
variable {K : PySem.W.Frag} {T : Tab} {π : L2.St} {F S0 : Hp} {g g1 : GF} {is is1 vs vs1 : List Nat} {ft ft1 : BF} {fe : EF} {src src1 : IF} {J : It} {A : Addr} {ds out : List D} {ρ2 : Env}
/-- the state of a comprehension's loop ahead of item i -/
def LcW (K : PySem.W.Frag) (T : Tab) (π : L2.St) (F S0 : Hp) (τ : L2.St) (vs : List Nat) (A : Addr) (ds : List D) (more : List D → Env → List D → Prop) (i m : Nat) (H : Hp) : Prop := m = ds.length - i ∧ i ≤ ds.length ∧ ∃ S1 ρ3 accV acc, Same S0 S1 ∧ Rel K T π F S1 ρ3 τ H ∧ H A = some (.lst accV) ∧ S1 A = none ∧ F A = none ∧ Apart ρ3 τ A ∧ DRs K T S1 accV acc ∧
  (∀ i ∈ vs, ∀ c, ρ3[i]? = some c → c = .un) ∧ more (ds.drop i) ρ3 acc
theorem wun (τ : Env) : ∀ i ∈ vs, ∀ c, (wipeE τ vs)[i]? = some c → c = .un := fun i hi c hc => by
  rcases wipeE_get hc with z | ⟨_, n⟩
  · exact z
  · exact absurd hi n
theorem lc_loop (hvs : ∀ i ∈ is, i ∈ vs) {σ : L2.St} (ok : ItOk K T J S0 ds) {End : Hp → Prop}
    (hEnd : ∀ S1 H1 accV, Same S0 S1 → Rel K T π F S1 ρ2 (wipe σ vs) H1 → H1 A = some (.lst accV) → S1 A = none → F A = none → Apart ρ2 (wipe σ vs) A → DRs K T S1 accV out → (∀ i ∈ vs, ∀ c, ρ2[i]? = some c → c = .un) → End H1)
    (i m : Nat) (H1 : Hp) (w : LcW K T π F S0 (wipe σ vs) vs A ds (fun l ρ acc => lcL g vs ft fe l ρ acc = .ok (out, ρ2)) i m H1) :
    (J.stop i H1 ∧ End H1) ∨ (J.go i H1 ∧ ∃ Nx : Hp → Prop, (∀ H', Nx H' → ∃ m', m' < m ∧ LcW K T π F S0 (wipe σ vs) vs A ds (fun l ρ acc => lcL g vs ft fe l ρ acc = .ok (out, ρ2)) (i + 1) m' H') ∧
      ∀ x H', J.yld i H1 x H' → SG K T g is x (wipe σ vs) H' fun σ2 H2 => wipe σ2 vs = wipe σ vs ∧ ST K T ft σ2 H2 fun b H3 => if b = true then SE K T fe σ2 H3 fun y H4 => ∃ acc, H4 A = some (.lst acc) ∧ acc.length < sizeLine ∧ Nx (upd H4 A (.lst (acc ++ [y]))) else Nx H3) := by
  obtain ⟨rfl, hi, S1, ρ3, accV, acc, s1, R1, hA1, nS, nF, ap, hacc, hun, e3⟩ := w
  have hw : ∀ (τ : L2.St) i, i ∉ vs → (wipe τ vs)[i]? = τ[i]? := fun τ i hi => wipe_out hi
  by_cases hl : i < ds.length
  · refine .inr ?_
    have hd : ds[i]? = some ds[i] := List.getElem?_eq_getElem hl
    obtain ⟨go, yl⟩ := ok.2 i _ hd H1 (s1.trans R1.sS)
    refine ⟨go, fun H' => LcW K T π F S0 (wipe σ vs) vs A ds (fun l ρ acc => lcL g vs ft fe l ρ acc = .ok (out, ρ2)) (i + 1) (ds.length - (i + 1)) H', fun H' h => ⟨_, by omega, h⟩, fun x H' hy => ?_⟩
    rw [List.drop_eq_getElem_cons hl] at e3
    obtain ⟨ρ4, e4, e5⟩ := Res.bind_eq e3
    obtain ⟨⟨b, ρ5⟩, e6, e7⟩ := Res.bind_eq e5
    have hx := (yl x H' hy).mono s1
    have RL := R1.lend (d := .lst acc) ⟨nS, nF, accV, hA1, hacc⟩ ap hA1
    obtain ⟨S2, s2, R2, dx, _⟩ := came RL hx
    refine ⟨π, _, S2, ρ3, ds[i], ρ4, R2, dx, e4, fun σ2 R3 w => ?_⟩
    have w2 := w vs hvs
    rw [wipe_wipe] at w2
    refine ⟨w2, ?_⟩
    have hσ : ∀ k, k ∉ vs → (wipe σ vs)[k]? = σ2[k]? := fun k hk => by rw [← w2]; exact hw σ2 k hk
    have hl2 : (wipe σ vs).length = σ2.length := by rw [← w2, wipe_length]
    refine ⟨π, _, S2, ρ4, b, ρ5, R3, e6, fun S3 H3 s3 R4 => ?_⟩
    cases b with
    | false =>
      refine ⟨rfl, hl, S3, wipeE ρ5 vs, accV, acc, s1.trans (s2.trans s3), ?_, ?_, ?_, nF, ?_, hacc.mono (s2.trans s3), wun ρ5, e7⟩
      · exact (Rel.unlend nF R4).1.wipe vs hl2 hσ
      · exact (Rel.unlend nF R4).2.1
      · exact (Rel.unlend nF R4).2.2.1
      · exact (Rel.unlend nF R4).2.2.2.wipe vs hσ
    | true =>
      obtain ⟨⟨ry, ρ6⟩, e8, e9⟩ := Res.bind_eq (show (fe ρ5).bind _ = _ from e7)
      obtain ⟨y, e10, e11⟩ := Res.bind_eq e9
      refine ⟨π, _, S3, ρ5, ry, ρ6, R4, e8, fun S4 H4 v s4 R5 rv => ?_⟩
      obtain ⟨S5, s5, R6, hy⟩ := rv.take R5 (Res.of_eq e10)
      obtain ⟨R7, nS5, ap5, hA5, hacc5⟩ := lc_put nF R6 (hacc.mono (s2.trans (s3.trans (s4.trans s5)))) hy
      have e11 : (if acc.length < sizeLine then lcL g vs ft fe (ds.drop (i + 1)) (wipeE ρ6 vs) (acc ++ [y]) else .bad) = .ok (out, ρ2) := e11
      split at e11
      · rename_i hz
        refine ⟨accV, hA5, by rw [hacc.length]; exact hz, rfl, hl, S5, wipeE ρ6 vs, accV ++ [v], acc ++ [y], s1.trans (s2.trans (s3.trans (s4.trans s5))), R7.wipe vs hl2 hσ, upd_same, nS5, nF, ap5.wipe vs hσ, hacc5, wun ρ6, e11⟩
      · cases e11
  · have ei : i = ds.length := by omega
    subst ei
    rw [List.drop_length] at e3
    cases e3
    exact .inl ⟨ok.1 H1 (s1.trans R1.sS), hEnd S1 H1 accV s1 R1 hA1 nS nF ap hacc hun⟩
theorem lc2_run (hvs : ∀ i ∈ is, i ∈ vs) (hvs1 : ∀ i ∈ is1, i ∈ vs1) (hv : ∀ i ∈ vs1, i ∈ vs) {σ : L2.St} {H : Hp} {Q : VK} (h : SE K T (eLc2 g src ft src1 g1 vs1 vs ft1 fe) σ H Q) :
    tLc2 (SI K T src) (SG K T g is) (ST K T ft) (SI K T src1) (SG K T g1 is1) (ST K T ft1) (SE K T fe) vs vs1 σ H Q := by
  obtain ⟨π, F, S, ρ, r, ρ', Re, e, q⟩ := h
  obtain ⟨⟨ds, ρ1⟩, e1, e⟩ := Res.bind_eq e
  obtain ⟨⟨out, ρ2⟩, e2, e⟩ := Res.bind_eq e
  cases e
  refine ⟨π, F, S, ρ, ds, ρ1, Re, e1, fun S0 H0 J s0 R0 ok => ?_⟩
  intro A hA
  have hw : ∀ (τ : L2.St) i, i ∉ vs → (wipe τ vs)[i]? = τ[i]? := fun τ i hi => wipe_out hi
  let W : Nat → Nat → Hp → Prop := LcW K T π F S0 (wipe σ vs) vs A ds fun l ρ acc => lcL2 g ft src1 g1 vs1 vs ft1 fe l ρ acc = .ok (out, ρ2)
  refine ⟨W, ⟨_, rfl, Nat.zero_le _, S0, wipeE ρ1 vs, [], [], Same.refl _, (R0.alloc hA).wipe vs (wipe_length _ _) (hw σ), upd_same, same_none R0.sS hA, same_none R0.sF hA, (R0.apart hA).wipe vs (hw σ), .nil, wun ρ1, e2⟩, ?_⟩
  rintro i m H1 ⟨rfl, hi, S1, ρ3, accV, acc, s1, R1, hA1, nS, nF, ap, hacc, hun, e3⟩
  by_cases hl : i < ds.length
  · refine .inr ?_
    have hd : ds[i]? = some ds[i] := List.getElem?_eq_getElem hl
    obtain ⟨go, yl⟩ := ok.2 i _ hd H1 (s1.trans R1.sS)
    refine ⟨go, fun H' => W (i + 1) (ds.length - (i + 1)) H', fun H' h => ⟨_, by omega, h⟩, fun x H' hy => ?_⟩
    rw [List.drop_eq_getElem_cons hl] at e3
    obtain ⟨ρ4, e4, e5⟩ := Res.bind_eq e3
    obtain ⟨⟨b, ρ5⟩, e6, e7⟩ := Res.bind_eq e5
    have hx := (yl x H' hy).mono s1
    have RL := R1.lend (d := .lst acc) ⟨nS, nF, accV, hA1, hacc⟩ ap hA1
    obtain ⟨S2, s2, R2, dx, _⟩ := came RL hx
    refine ⟨π, _, S2, ρ3, ds[i], ρ4, R2, dx, e4, fun σ2 R3 w => ?_⟩
    have w2 := w vs hvs
    rw [wipe_wipe] at w2
    refine ⟨w2, ?_⟩
    have hσ : ∀ k, k ∉ vs → (wipe σ vs)[k]? = σ2[k]? := fun k hk => by rw [← w2]; exact hw σ2 k hk
    have hl2 : (wipe σ vs).length = σ2.length := by rw [← w2, wipe_length]
    refine ⟨π, _, S2, ρ4, b, ρ5, R3, e6, fun S3 H3 s3 R4 => ?_⟩
    cases b with
    | false =>
      refine ⟨rfl, hl, S3, wipeE ρ5 vs, accV, acc, s1.trans (s2.trans s3), ?_, ?_, ?_, nF, ?_, hacc.mono (s2.trans s3), wun ρ5, e7⟩
      · exact (Rel.unlend nF R4).1.wipe vs hl2 hσ
      · exact (Rel.unlend nF R4).2.1
      · exact (Rel.unlend nF R4).2.2.1
      · exact (Rel.unlend nF R4).2.2.2.wipe vs hσ
    | true =>
      obtain ⟨⟨ds1, ρ6⟩, e8, e9⟩ := Res.bind_eq (show (src1 ρ5).bind _ = _ from e7)
      obtain ⟨⟨out1, ρ7⟩, e10, e11⟩ := Res.bind_eq e9
      refine ⟨π, _, S3, ρ5, ds1, ρ6, R4, e8, fun S4 H4 J1 s4 R5 ok1 => ?_⟩
      obtain ⟨R6, hA4, nS4, ap4⟩ := Rel.unlend nF R5
      have hw1 : ∀ i, i ∉ vs1 → (wipe σ2 vs1)[i]? = σ2[i]? := fun i hi => wipe_out hi
      refine ⟨LcW K T π F S4 (wipe σ2 vs1) vs1 A ds1 fun l ρ acc => lcL g1 vs1 ft1 fe l ρ acc = .ok (out1, ρ7), ⟨_, rfl, Nat.zero_le _, S4, wipeE ρ6 vs1, accV, acc, Same.refl _, R6.wipe vs1 (wipe_length _ _) hw1, hA4, nS4, nF, ap4.wipe vs1 hw1, hacc.mono (s2.trans (s3.trans s4)), wun ρ6, e10⟩, ?_⟩
      intro j k Hk wk
      refine lc_loop (is := is1) (σ := σ2) hvs1 ok1 (End := fun H' => W (i + 1) (ds.length - (i + 1)) H') (fun S5 H5 accV5 s5 R7 hA5 nS5 nF5 ap5 hacc5 hun5 => ?_) j k Hk wk
      have hl3 : (wipe σ vs).length = (wipe σ2 vs1).length := by rw [hl2, wipe_length]
      have hσ3 : ∀ k, k ∉ vs → (wipe σ vs)[k]? = (wipe σ2 vs1)[k]? := fun k hk => (hσ k hk).trans (hw1 k fun z => hk (hv k z)).symm
      exact ⟨rfl, hl, S5, wipeE ρ7 vs, accV5, out1, s1.trans (s2.trans (s3.trans (s4.trans s5))), R7.wipe vs hl3 hσ3, hA5, nS5, nF, ap5.wipe vs hσ3, hacc5, wun ρ7, e11⟩
  · have ei : i = ds.length := by omega
    subst ei
    rw [List.drop_length] at e3
    cases e3
    have R2 : Rel K T π F S1 ρ2 σ H1 := by
      refine ⟨R1.sS, R1.sF, R1.dj, R1.nS, R1.nF, R1.tb, by rw [R1.len, wipe_length], fun k c hc => ?_, fun j k b cj ck hj hk mj mk ej ek => ?_⟩
      · by_cases hk : k ∈ vs
        · rw [hun k hk c hc]; trivial
        · rw [← hw σ k hk]; exact R1.sl k c hc
      · have nin : ∀ {k : Nat} {c : Cell}, ρ2[k]? = some c → c.mut = true → k ∉ vs := fun h m z => by
          rw [hun _ z _ h] at m; cases m
        exact R1.ds j k b cj ck hj hk mj mk (by rw [hw σ j (nin hj mj)]; exact ej) (by rw [hw σ k (nin hk mk)]; exact ek)
    refine .inl ⟨ok.1 H1 (s1.trans R1.sS), q S1 H1 _ (s0.trans s1) R2 ⟨A, rfl, ⟨nS, nF, accV, hA1, hacc⟩, fun k c hc m z => ?_⟩⟩
    have nin : k ∉ vs := fun y => by rw [hun _ y _ hc] at m; cases m
    exact ap k c hc m (by rw [hw σ k nin]; exact z)
end
section
variable {X : Cx} {T : Tab} {elt tg iter tg1 iter1 : Expr} {ifs ifs1 : List Expr} {scope : Scope} {own : List (Str × Nat)} {pos : Pos} {g g1 : GF} {is is1 vs1 : List Nat} {src src1 : IF} {ft ft1 : BF} {fe : EF}
theorem ee_lc2 (hc : X.calm = true) (hN : X.N.Nodup) (hi : PI X tg iter (SI X.K T src)) (ok : BlkOk X.N X.env.scope scope own) (hv : ∀ i ∈ vs1, i ∈ own.map (·.2))
    (hg : ∀ (s : Shared) (H : Hp) (C : Addr) (cl : List (Str × Addr)) (fp : List Addr), PG (X.blk s H scope (compEnvC scope cl C X.env) fp) tg (SG X.K T g is)) (ht : ∀ (s : Shared) (H : Hp) (C : Addr) (cl : List (Str × Addr)) (fp : List Addr), PTs (X.blk s H scope (compEnvC scope cl C X.env) fp) ifs (ST X.K T ft))
    (hi1 : ∀ (s : Shared) (H : Hp) (C : Addr) (cl : List (Str × Addr)) (fp : List Addr), PI (X.blk s H scope (compEnvC scope cl C X.env) fp) tg1 iter1 (SI X.K T src1))
    (hg1 : ∀ (s : Shared) (H : Hp) (C : Addr) (cl : List (Str × Addr)) (fp : List Addr), PG (X.blk s H scope (compEnvC scope cl C X.env) fp) tg1 (SG X.K T g1 is1)) (ht1 : ∀ (s : Shared) (H : Hp) (C : Addr) (cl : List (Str × Addr)) (fp : List Addr), PTs (X.blk s H scope (compEnvC scope cl C X.env) fp) ifs1 (ST X.K T ft1))
    (he : ∀ (s : Shared) (H : Hp) (C : Addr) (cl : List (Str × Addr)) (fp : List Addr), PE (X.blk s H scope (compEnvC scope cl C X.env) fp) elt (SE X.K T fe)) (hvs : ∀ i ∈ is, i ∈ own.map (·.2) := by decide) (hvs1 : ∀ i ∈ is1, i ∈ vs1 := by decide) (hs : ∀ x, foldedSetIterable iter X.env x = pure x := by intro _; rfl) (hs1 : ∀ env x, foldedSetIterable iter1 env x = pure x := by intro _ _; rfl) :
    PE X (.ListComp elt [⟨tg, iter, ifs, 0⟩, ⟨tg1, iter1, ifs1, 0⟩] scope pos) (SE X.K T (eLc2 g src ft src1 g1 vs1 (own.map (·.2)) ft1 fe)) := (pe_lc2 hc hN hi ok hv hg ht hi1 hg1 ht1 he hs hs1).imp fun _ _ _ q => lc2_run hvs hvs1 hv q
theorem ss_setLc2 {i : Nat} {y : Str} {py spos : Pos} (hc : X.calm = true) (hN : X.N.Nodup) (hy : X.N[i]? = some y) (hyl : X.env.scope.names.lookup y = some .local)
    (hsw : swapsWith (.ListComp elt [⟨tg, iter, ifs, 0⟩, ⟨tg1, iter1, ifs1, 0⟩] scope pos) (some (.Name y py)) spos.line X.env = pure true) (hi : PI X tg iter (SI X.K T src)) (ok : BlkOk X.N X.env.scope scope own) (hv : ∀ i ∈ vs1, i ∈ own.map (·.2))
    (hg : ∀ (s : Shared) (H : Hp) (C : Addr) (cl : List (Str × Addr)) (fp : List Addr), PG (X.blk s H scope (compEnvC scope cl C X.env) fp) tg (SG X.K T g is)) (ht : ∀ (s : Shared) (H : Hp) (C : Addr) (cl : List (Str × Addr)) (fp : List Addr), PTs (X.blk s H scope (compEnvC scope cl C X.env) fp) ifs (ST X.K T ft))
    (hi1 : ∀ (s : Shared) (H : Hp) (C : Addr) (cl : List (Str × Addr)) (fp : List Addr), PI (X.blk s H scope (compEnvC scope cl C X.env) fp) tg1 iter1 (SI X.K T src1))
    (hg1 : ∀ (s : Shared) (H : Hp) (C : Addr) (cl : List (Str × Addr)) (fp : List Addr), PG (X.blk s H scope (compEnvC scope cl C X.env) fp) tg1 (SG X.K T g1 is1)) (ht1 : ∀ (s : Shared) (H : Hp) (C : Addr) (cl : List (Str × Addr)) (fp : List Addr), PTs (X.blk s H scope (compEnvC scope cl C X.env) fp) ifs1 (ST X.K T ft1))
    (he : ∀ (s : Shared) (H : Hp) (C : Addr) (cl : List (Str × Addr)) (fp : List Addr), PE (X.blk s H scope (compEnvC scope cl C X.env) fp) elt (SE X.K T fe)) (hvs : ∀ i ∈ is, i ∈ own.map (·.2) := by decide) (hvs1 : ∀ i ∈ is1, i ∈ vs1 := by decide) (hs : ∀ x, foldedSetIterable iter X.env x = pure x := by intro _; rfl) (hs1 : ∀ env x, foldedSetIterable iter1 env x = pure x := by intro _ _; rfl) :
    PS X (.Assign [.Name y py] (.ListComp elt [⟨tg, iter, ifs, 0⟩, ⟨tg1, iter1, ifs1, 0⟩] scope pos) spos) (SS X.K T (sSet i (eLc2 g src ft src1 g1 vs1 (own.map (·.2)) ft1 fe))) := by
  have h := ps_setLc2 hc hN hy hyl hsw hi ok hv hg ht hi1 hg1 ht1 he hs hs1
  refine ss_asg_name (h.imp fun D σ H q => ?_)
  exact lc2_run hvs hvs1 hv q
end
end Dt
end

section
set_option Elab.async false
set_option linter.all false
set_option maxRecDepth 100000
set_option maxHeartbeats 4000000
set_option autoImplicit false

/-! ### ascending, each once -/
namespace Dt
section
variable {α : Type} (f : α → Int)
def insU (x : α) : List α → List α
  | [] => [x]
  | y :: l => if f x < f y then x :: y :: l else if f x = f y then y :: l else y :: insU x l
def ascU : List α → List α
  | [] => []
  | x :: l => insU f x (ascU l)
variable {f}
theorem insU_sub {x z : α} : ∀ {l : List α}, z ∈ insU f x l → z = x ∨ z ∈ l
  | [], h => by
    rw [insU] at h
    exact .inl (List.mem_singleton.mp h)
  | y :: l, h => by
    rw [insU] at h
    split at h
    · exact List.mem_cons.mp h
    · split at h
      · exact .inr h
      · rcases List.mem_cons.mp h with e | h
        · exact .inr (e ▸ List.mem_cons_self ..)
        · rcases insU_sub h with e | h
          · exact .inl e
          · exact .inr (List.mem_cons_of_mem _ h)
theorem insU_has {x : α} : ∀ {l : List α}, ∃ z ∈ insU f x l, f z = f x
  | [] => ⟨x, by rw [insU]; exact List.mem_singleton.mpr rfl, rfl⟩
  | y :: l => by
    rw [insU]
    split
    · exact ⟨x, List.mem_cons_self .., rfl⟩
    · split
      · rename_i h; exact ⟨y, List.mem_cons_self .., h.symm⟩
      · obtain ⟨z, hz, e⟩ := insU_has (x := x) (l := l)
        exact ⟨z, List.mem_cons_of_mem _ hz, e⟩
theorem insU_old {x z : α} : ∀ {l : List α}, z ∈ l → z ∈ insU f x l
  | y :: l, h => by
    rw [insU]
    split
    · exact List.mem_cons_of_mem _ h
    · split
      · exact h
      · rcases List.mem_cons.mp h with e | h
        · exact e ▸ List.mem_cons_self ..
        · exact List.mem_cons_of_mem _ (insU_old h)
theorem insU_asc {x : α} : ∀ {l : List α}, l.Pairwise (fun a b => f a < f b) → (insU f x l).Pairwise fun a b => f a < f b
  | [], _ => by rw [insU]; exact List.pairwise_singleton ..
  | y :: l, h => by
    rw [insU]
    obtain ⟨h1, h2⟩ := List.pairwise_cons.mp h
    split
    · rename_i hl
      refine List.pairwise_cons.mpr ⟨fun z hz => ?_, h⟩
      rcases List.mem_cons.mp hz with e | hz
      · exact e ▸ hl
      · exact Int.lt_trans hl (h1 z hz)
    · split
      · exact h
      · rename_i n1 n2
        refine List.pairwise_cons.mpr ⟨fun z hz => ?_, insU_asc h2⟩
        rcases insU_sub hz with e | hz
        · subst e; omega
        · exact h1 z hz
theorem ascU_asc : ∀ l : List α, (ascU f l).Pairwise fun a b => f a < f b
  | [] => .nil
  | x :: l => insU_asc (ascU_asc l)
theorem ascU_sub {z : α} : ∀ {l : List α}, z ∈ ascU f l → z ∈ l
  | x :: l, h => by
    rcases insU_sub h with e | h
    · exact e ▸ List.mem_cons_self ..
    · exact List.mem_cons_of_mem _ (ascU_sub h)
theorem ascU_has {x : α} : ∀ {l : List α}, x ∈ l → ∃ z ∈ ascU f l, f z = f x
  | y :: l, h => by
    rcases List.mem_cons.mp h with e | h
    · subst e; exact insU_has
    · obtain ⟨z, hz, e⟩ := ascU_has h
      exact ⟨z, insU_old hz, e⟩
theorem insU_head {x : α} : ∀ {l : List α}, (∀ y ∈ l, f x < f y) → insU f x l = x :: l
  | [], _ => rfl
  | y :: l, h => by rw [insU, if_pos (h y (List.mem_cons_self ..))]
/-- what is in order stays -/
theorem ascU_same : ∀ {l : List α}, l.Pairwise (fun a b => f a < f b) → ascU f l = l
  | [], _ => rfl
  | x :: l, h => by
    obtain ⟨h1, h2⟩ := List.pairwise_cons.mp h
    rw [ascU, ascU_same h2]
    exact insU_head h1
/-- one order of one set -/
theorem asc_one : ∀ {l m : List α}, l.Pairwise (fun a b => f a < f b) → m.Pairwise (fun a b => f a < f b) → (∀ x ∈ l, ∃ y ∈ m, f y = f x) → (∀ y ∈ m, ∃ x ∈ l, f x = f y) → (∀ x ∈ l, ∀ y ∈ m, f x = f y → x = y) → l = m
  | [], [], _, _, _, _, _ => rfl
  | [], y :: m, _, _, _, h, _ => by obtain ⟨x, hx, _⟩ := h y (List.mem_cons_self ..); cases hx
  | x :: l, [], _, _, h, _, _ => by obtain ⟨y, hy, _⟩ := h x (List.mem_cons_self ..); cases hy
  | x :: l, y :: m, h1, h2, h3, h4, h5 => by
    obtain ⟨a1, a2⟩ := List.pairwise_cons.mp h1
    obtain ⟨b1, b2⟩ := List.pairwise_cons.mp h2
    have e : f x = f y := by
      obtain ⟨y', hy', e1⟩ := h3 x (List.mem_cons_self ..)
      obtain ⟨x', hx', e2⟩ := h4 y (List.mem_cons_self ..)
      rcases List.mem_cons.mp hy' with z | hy'
      · rw [← e1, z]
      · rcases List.mem_cons.mp hx' with z | hx'
        · rw [← e2, z]
        · have := b1 y' hy'
          have := a1 x' hx'
          omega
    have exy := h5 x (List.mem_cons_self ..) y (List.mem_cons_self ..) e
    subst exy
    congr 1
    refine asc_one a2 b2 (fun z hz => ?_) (fun z hz => ?_) fun z hz u hu => h5 z (List.mem_cons_of_mem _ hz) u (List.mem_cons_of_mem _ hu)
    · obtain ⟨u, hu, e⟩ := h3 z (List.mem_cons_of_mem _ hz)
      rcases List.mem_cons.mp hu with q | hu
      · subst q
        have := a1 z hz
        omega
      · exact ⟨u, hu, e⟩
    · obtain ⟨u, hu, e⟩ := h4 z (List.mem_cons_of_mem _ hz)
      rcases List.mem_cons.mp hu with q | hu
      · subst q
        have := b1 z hz
        omega
      · exact ⟨u, hu, e⟩
end
theorem code_eq {B : Int} : ∀ {k l : List Int}, k.length = l.length → TS.Bd B k → TS.Bd B l → TS.code B k = TS.code B l → k = l
  | [], [], _, _, _, _ => rfl
  | a :: k, b :: l, hl, h1, h2, e => by
    have hl' : k.length = l.length := by simpa using hl
    have hab : a = b := by
      rcases Int.lt_trichotomy a b with h | h | h
      · have := TS.code_lt hl' h1.tail h2.tail h
        omega
      · exact h
      · have := TS.code_lt hl'.symm h2.tail h1.tail h
        omega
    subst hab
    have e' : TS.code B k = TS.code B l := by
      have n1 := TS.code_same (B := B) (d := a) hl'
      have n2 := TS.code_same (B := B) (d := a) hl'.symm
      omega
    rw [code_eq hl' h1.tail h2.tail e']
end Dt
namespace Dt
open PySem PySem.Spec PyProof.Rows L2
abbrev obj0 (w : World) : Obj := { cls := .type "set", dict := none, data := .set #[] 0 (.fresh 0 0 (!w.params.followText "set-order")) }
section
variable {P : Program} {w : World} {A : Around} {E : Value → Shared → Prop} {s : Shared}
/-- what stands at the end of the filling -/
abbrev Filled (P : Program) (w : World) (s : Shared) (ks : List (Addr × List Int)) (s₂ : Shared) : Prop :=
  ∃ h' tk L es ep t, s₂ = { s with heap := h', toks := tk } ∧ SetTR P w h' s.heap.objs.size L es ep t ∧ Got ks ks.length L ∧ ∀ b o, s.heap.get? b = some o → h'.get? b = some o
/-- set(xs), xs a tuple of tuples of ints -/
theorem call_set_tt {l : Addr} {items : Array Value} (ks : List (Addr × List Int)) {Q : Value → Shared → Prop} (hh : A.handled = none) (hl : s.heap.IsTuple l items) (hit : items.toList = ks.map fun p => Value.ref p.1)
    (hk : ∀ p ∈ ks, IsT P w s.heap p.2 p.1) (hfew : ks.length < 64) (hu : A.units + 3 < cLine) (h : ∀ (h' : Heap) (tk : Nat) L es ep t, SetTR P w h' s.heap.objs.size L es ep t → Got ks ks.length L → (∀ b o, s.heap.get? b = some o → h'.get? b = some o) →
      Q (.ref s.heap.objs.size) { s with heap := h', toks := tk }) : wpAny (model P w) A (call (.type "set") [.ref l]) Q E s := by
  have hisz : items.size = ks.length := by have q := congrArg List.length hit; rw [Array.length_toList, List.length_map] at q; exact q
  obtain ⟨c, tl, hmro⟩ := F.called_set.mro; have hmade := F.called_set.made; have hsub := F.called_set.sub
  refine wpAny_call (codeAny_of_tree ?_); show wpAny _ _ (callAny (.type "set") _) _ _ _
  refine wpAny_pure ⟨Code.quiet_builtin _ (by decide +kernel), codeAny_builtin F.entry_type_call ?_⟩; rw [Around.under_plain (weight_type_call_type "set" [.ref l] []) rfl]
  have h1 := F.called_set.notType; have h2 := F.called_set.canCreate; have hct := F.typeCall_set_1 (.ref l); repeat (any_goals (first | assumption | wp_step))
  refine codeAny_mono (code_set_led1 (.ref l) (E := E) (Q₁ := fun obj s₁ => obj = .ref s.heap.objs.size ∧ s₁ = { s with heap := s.heap.push (obj0 w) }) ⟨rfl, rfl⟩) fun r s₁ hr => ?_
  cases r with
  | error e => exact hr
  | ok fl =>
    cases fl with
    | ret obj =>
      obtain ⟨rfl, rfl⟩ := hr
      have hS : (s.heap.push (obj0 w)).get? s.heap.objs.size = some (obj0 w) := Heap.get?_push_size _ rfl
      have hT : Shared.TypeIs { s with heap := s.heap.push (obj0 w) } (.ref s.heap.objs.size) "set" := ⟨_, hS, rfl⟩
      have hli := F.called_set.init.lookup; have hbi := F.called_set.init.bind (.ref s.heap.objs.size); repeat (any_goals (first | assumption | wp_step))
      refine codeAny_mono (codeAny_call_builtin (R := wants (fun r s₂ => r = .none ∧ Filled P w s ks s₂) E) F.called_set.init.plain F.entry_set_init (check_set_init_1 hT ?_)) fun r₂ s₂ hr₂ => ?_
      · obtain ⟨ol, hol, hcl, nl, hdl⟩ := hl; obtain ⟨ocls, odict, odata, oslots⟩ := ol; simp only at hcl hdl; subst hcl; subst hdl
        have hol' : (s.heap.push (obj0 w)).get? l = some { cls := .type "tuple", dict := odict, data := .seq items nl, slots := oslots } := Heap.get?_push_of_some _ hol
        have hsls := F.sub_tuple_set; have hslf := F.sub_tuple_frozenset; have hne : (Value.type "tuple" == Value.type "dict") = false := by decide
        have hl1 : (s.heap.push (obj0 w)).IsTuple l items := ⟨_, hol', rfl, nl, rfl⟩
        unfold Builtin.«set.__init__» noKeywords Builtin.Frozenset.updateFrom; generalize hPI : pyIter = PI; wp_walk; subst hPI
        refine wpAny_pyIter_tuple hl1 ?_; refine wpAny_bind (wpAny_runValue ?_)
        have hlS : l < s.heap.objs.size := Heap.lt_size hol
        have hh3 : A.in1.in1.in1.handled = none := by simp [hh]
        have hz1 : (s.heap.push (obj0 w)).objs.size = s.heap.objs.size + 1 := Heap.size_push ..
        have hneI : l ≠ (s.heap.push (obj0 w)).objs.size := by rw [hz1]; exact Nat.ne_of_lt (Nat.lt_succ_of_lt hlS)
        have hSf : s.heap.objs.size ∉ [(s.heap.push (obj0 w)).objs.size, l] := by
          rw [hz1]; simp only [List.mem_cons, List.mem_singleton, List.not_mem_nil, or_false, not_or]; exact ⟨Nat.ne_of_lt (Nat.lt_succ_self _), Nat.ne_of_gt hlS⟩
        have hval : ∀ (i : Nat) (v : Value), items[i]? = some v → ∃ p, ks[i]? = some p ∧ v = .ref p.1 := fun i v hv => by
          have q : (ks.map fun p => Value.ref p.1)[i]? = some v := by rw [← hit, Array.getElem?_toList]; exact hv
          rw [List.getElem?_map] at q
          obtain ⟨p, hp, e⟩ := Option.map_eq_some_iff.mp q
          exact ⟨p, hp, e.symm⟩
        have none_of : ∀ b, s.heap.objs.size ≤ b → s.heap.get? b = none := fun b hb => by
          rcases q : s.heap.get? b with _ | o
          · rfl
          · exact absurd (Nat.lt_of_lt_of_le (Heap.lt_size q) hb) (Nat.lt_irrefl _)
        refine set_update_tups ((Walks.tuple hh3 _ l hneI items).toS) s.heap.objs.size hSf ks hisz hfew hval s.heap hk (none_of _ (Nat.le_refl _)) (fun b hb => none_of b (by rw [List.mem_singleton.mp hb, Heap.size_push]; exact Nat.le_succ _)) hu
          (items.size - 0) 0 _ (by omega) (Nat.zero_le _) ⟨⟨_, Heap.get?_push_size _ rfl, rfl, rfl⟩, (hl1.push _)⟩ (fun b o e => Heap.get?_push_of_some _ (Heap.get?_push_of_some _ e))
          ⟨[], #[], 0, _, setTR_fresh (Heap.get?_push_of_some _ hS), Got.zero ks⟩ fun s' L es ep t hm hS' g' hkp => ?_
        obtain ⟨h', g2, d', tk', os'⟩ := s'; have eg : g2 = s.gens := hm.gens; have ed : d' = s.drawn := hm.drawn; have eo : os' = s.os := hm.os; subst eg; subst ed; subst eo
        show wpAny _ _ _ _ _ _; refine wpAny_pure ?_; show wpAny _ _ (ret Value.none) _ _ _
        exact wpAny_pure ⟨rfl, h', tk', L, es, ep, t, rfl, hS', hisz ▸ g', hkp⟩
      · cases r₂ with
        | error e => exact hr₂
        | ok fl₂ =>
          cases fl₂ with
          | ret r =>
            obtain ⟨rfl, h', tk, L, es, ep, t, rfl, hS', g', hk'⟩ := hr₂; repeat (any_goals (first | assumption | wp_step))
            exact h _ _ _ _ _ _ hS' g' hk'
          | _ => exact hr₂.elim
    | _ => exact hr.elim
end
/-- set(t), t a tuple of tuples of ints; of ints -/
def rSetTT (K : PySem.W.Frag) (P : Program) (w : World) : List V → Hp → VK → Prop := fun xs H Q => ∃ (l : Addr) (ks : List (Addr × List Int)), xs = [V.ref l] ∧ SqT K H l (ks.map fun p => V.ref p.1) ∧ (∀ p ∈ ks, SqT K H p.1 (p.2.map V.int)) ∧ ks.length < 64 ∧
  ∀ a L, H a = none → (∀ p ∈ L, p ∈ ks) → (∀ p ∈ ks, p.2 ∈ L.map (·.2)) → Q (.ref a) (upd H a (SetTO P w a L))
def rSetTI (K : PySem.W.Frag) (w : World) : List V → Hp → VK → Prop := fun xs H Q => ∃ (l : Addr) (ns : List Int), xs = [V.ref l] ∧ SqT K H l (ns.map V.int) ∧ ns.length < 64 ∧ ∀ a c, H a = none → c ≤ ns.length → Q (.ref a) (upd H a (SetO w a (fun j => decide (j ∈ ns)) c))
section
variable {X : Cx}
theorem cr_setTT (hc : X.calm = true) (hu : X.A.units + 64 < cLine) : CallR X (.type "set") (rSetTT X.K X.prog X.w) := by
  intro pins s σ H xs us Q I r h
  obtain ⟨l, ks, rfl, hl, hk, hf, q⟩ := h
  rw [Vals.ref1 r]
  obtain ⟨its, rv, pl, hz⟩ := I.tuple hl
  have hn := I.hok.fresh (Nat.le_refl s.heap.objs.size)
  refine call_set_tt (P := X.prog) (w := X.w) (items := its.toArray) ks (I.ok.hd hc) pl (by simpa using refs_of_vals rv) (fun p hp => I.isT (hk p hp)) hf (by omega) fun h' tk L es ep t R g k =>
    ⟨.ref s.heap.objs.size, upd H s.heap.objs.size (SetTO X.prog X.w s.heap.objs.size L), I.laid (t' := tk) k (Nat.le_refl _) (setTO_new R.t0), rfl, q _ L hn (fun p hp => List.mem_of_mem_take (g.sub p hp)) fun p hp => g.all p (by rw [List.take_length]; exact hp)⟩
theorem cr_setTI (hc : X.calm = true) : CallR X (.type "set") (rSetTI X.K X.w) := by
  intro pins s σ H xs us Q I r h
  obtain ⟨l, ns, rfl, hl, hf, q⟩ := h
  rw [Vals.ref1 r]
  obtain ⟨its, rv, pl, hz⟩ := I.tuple hl
  have hn := I.hok.fresh (Nat.le_refl s.heap.objs.size)
  exact call_set_tupI (items := its.toArray) ns (I.ok.hd hc) pl (ints_of_vals rv) (by unfold scanBound; omega) fun h' tk c R hcn k =>
    ⟨.ref s.heap.objs.size, upd H s.heap.objs.size (SetO X.w s.heap.objs.size (fun j => decide (j ∈ ns)) c), I.laid (t' := tk) k (Nat.le_refl _) (setO_new R), rfl, q _ c hn hcn⟩
end
/-- ints; tuples of d ints in [0, 64) -/
def D.ints : List D → Option (List Int)
  | [] => some []
  | .int i :: r => (D.ints r).map (i :: ·)
  | _ :: _ => none
def D.tups : List D → Option (List (List Int))
  | [] => some []
  | .tup xs :: r => match D.ints xs, D.tups r with
    | some k, some ks => some (k :: ks)
    | _, _ => none
  | _ :: _ => none
def tupB (d : Nat) (k : List Int) : Bool := k.length == d && k.all fun m => decide (0 ≤ m) && decide (m < 64)
def kD (k : List Int) : D := .tup (k.map .int)
def setT (xs : List D) : Res RV := (Res.of (D.tups xs)).bind fun ks => (Res.need (decide (ks.length < 64) && decide (1 ≤ (ks.headD [0]).length) && ks.all (tupB (ks.headD [0]).length))).bind fun _ => .ok (.own (.lst ((ascU (TS.code 64) ks).map kD)))
def oSSet : D → Res RV
  | .tup xs => match D.ints xs with
    | some ns => (Res.need (decide (ns.length < 64))).bind fun _ => .ok (.own (.lst ((ascU id ns).map .int)))
    | none => setT xs
  | .lst xs => setT xs
  | _ => .bad
section
variable {K : PySem.W.Frag} {T : Tab} {S H : Hp} {w : World} {P : Program}
theorem DRs.ints : ∀ {vs : List V} {ds : List D} {ns : List Int}, DRs K T S vs ds → D.ints ds = some ns → vs = ns.map V.int ∧ ds = ns.map D.int
  | _, _, _, .nil, e => by cases e; exact ⟨rfl, rfl⟩
  | v :: vs, d :: ds, ns, .cons h r, e => by
    cases d <;> first | (cases e; done) | skip
    obtain ⟨ns', e1, rfl⟩ := Option.map_eq_some_iff.mp e
    cases h
    obtain ⟨a, b⟩ := DRs.ints r e1
    exact ⟨by rw [a]; rfl, by rw [b]; rfl⟩
theorem DRs.tups : ∀ {vs : List V} {ds : List D} {ks : List (List Int)}, DRs K T S vs ds → D.tups ds = some ks → ∃ as : List (Addr × List Int), vs = as.map (fun p => V.ref p.1) ∧ as.map (·.2) = ks ∧ ∀ p ∈ as, SqT K S p.1 (p.2.map V.int)
  | _, _, _, .nil, e => by cases e; exact ⟨[], rfl, rfl, fun p hp => by cases hp⟩
  | v :: vs, d :: ds, ks, .cons h r, e => by
    cases d <;> first | (cases e; done) | skip
    rename_i xs
    rw [D.tups] at e
    split at e
    · rename_i k ks' e1 e2
      cases e
      obtain ⟨as, a1, a2, a3⟩ := DRs.tups r e2
      cases h with
      | @tup a ws _ hq hr =>
        obtain ⟨b1, b2⟩ := hr.ints e1
        refine ⟨(a, k) :: as, by rw [a1]; rfl, by rw [← a2]; rfl, fun p hp => ?_⟩
        rcases List.mem_cons.mp hp with z | hp
        · subst z
          show SqT K S a (k.map V.int)
          rw [← b1]; exact hq
        · exact a3 p hp
    · cases e
theorem tupB_of {d : Nat} {k : List Int} (h : tupB d k = true) : k.length = d ∧ TS.Bd 64 k := by
  unfold tupB at h
  rw [Bool.and_eq_true, beq_iff_eq, List.all_eq_true] at h
  refine ⟨h.1, fun m hm => ?_⟩
  have := h.2 m hm
  rw [Bool.and_eq_true] at this
  exact ⟨of_decide_eq_true this.1, of_decide_eq_true this.2⟩
/-- what sorted of the set of such tuples is -/
theorem setT_run {π σ : L2.St} {F : Hp} {ρ : Env} {vs : List V} {xs : List D} {res : RV} {Q : VK} {a0 : Addr} (R : Rel K T π F S ρ σ H) (hd : DRs K T S vs xs) (hg : setT xs = .ok res)
    (q : ∀ S' H' v, Same S S' → Rel K T π F S' ρ σ H' → RVR K T F S' H' ρ σ v res → Q v H') :
    ∃ ks : List (Addr × List Int), vs = ks.map (fun p => V.ref p.1) ∧ (∀ p ∈ ks, SqT K H p.1 (p.2.map V.int)) ∧ ks.length < 64 ∧
      ∀ a L, H a = none → (∀ p ∈ L, p ∈ ks) → (∀ p ∈ ks, p.2 ∈ L.map (·.2)) → rSortedT K P w [.ref a] (upd H a (SetTO P w a L)) Q := by
  obtain ⟨ks, e1, hg⟩ := Res.bind_eq hg
  obtain ⟨_, e2, hg⟩ := Res.bind_eq hg
  cases hg
  have e2 := Res.need_eq e2
  rw [Bool.and_eq_true, Bool.and_eq_true] at e2
  obtain ⟨as, rfl, a2, a3⟩ := hd.tups (Res.of_eq e1)
  have hB : ∀ k ∈ ks, k.length = (ks.headD [0]).length ∧ TS.Bd 64 k := fun k hk => tupB_of (List.all_eq_true.mp e2.2 k hk)
  have lk : as.length = ks.length := by rw [← a2, List.length_map]
  refine ⟨as, rfl, fun p hp => sqT_same R.sS (a3 p hp), by rw [lk]; exact of_decide_eq_true e2.1.1, fun a L ha h1 h2 => ?_⟩
  have mem2 : ∀ p ∈ L, p.2 ∈ ks := fun p hp => a2 ▸ List.mem_map.mpr ⟨p, h1 p hp, rfl⟩
  have R1 := R.alloc (o := SetTO P w a L) ha
  refine ⟨a, L, (ks.headD [0]).length, 64, rfl, upd_same, fun p hp => sqT_same (R1.sS) (a3 p (h1 p hp)), of_decide_eq_true e2.1.2, fun p hp => hB _ (mem2 p hp), fun L' p pm nd hl pw hp => ?_⟩
  have mem3 : ∀ p ∈ L', p ∈ as := fun p hp => h1 p (pm.mem_iff.mp hp)
  have keys : L'.map (·.2) = ascU (TS.code 64) ks := by
    refine asc_one (f := TS.code 64) ?_ (ascU_asc ks) (fun k hk => ?_) (fun k hk => ?_) fun x hx y hy e => ?_
    · rw [List.pairwise_map]
      have nd := List.pairwise_map.mp (show (L'.map (·.2)).Pairwise (· ≠ ·) from nd)
      refine List.Pairwise.imp_of_mem (fun {p r} hp hr h => ?_) (pw.and nd)
      have hne := h.2
      have := h.1
      rcases Int.lt_or_eq_of_le this with z | z
      · exact z
      · exact absurd (code_eq ((hB _ (mem2 p (pm.mem_iff.mp hp))).1.trans (hB _ (mem2 r (pm.mem_iff.mp hr))).1.symm) (hB _ (mem2 p (pm.mem_iff.mp hp))).2 (hB _ (mem2 r (pm.mem_iff.mp hr))).2 z) hne
    · obtain ⟨p, hp, rfl⟩ := List.mem_map.mp hk
      exact ascU_has (mem2 p (pm.mem_iff.mp hp))
    · have := ascU_sub hk
      rw [← a2] at this
      obtain ⟨p, hp, rfl⟩ := List.mem_map.mp this
      obtain ⟨q', hq', e⟩ := List.mem_map.mp (h2 p hp)
      exact ⟨p.2, List.mem_map.mpr ⟨q', pm.mem_iff.mpr hq', e⟩, rfl⟩
    · obtain ⟨p, hp, rfl⟩ := List.mem_map.mp hx
      have hx' := hB _ (mem2 p (pm.mem_iff.mp hp))
      have hy' := hB _ (ascU_sub hy)
      exact code_eq (hx'.1.trans hy'.1.symm) hx'.2 hy'.2 e
  have dr : DRs K T S (L'.map fun q => V.ref q.1) ((ascU (TS.code 64) ks).map kD) := by
    rw [← keys, List.map_map]
    have := drs_of (K := K) (T := T) (S := S) (bs := L'.map fun q => (V.ref q.1, kD q.2)) fun b hb => by
      obtain ⟨p, hp, rfl⟩ := List.mem_map.mp hb
      exact .tup (a3 p (mem3 p hp)) (drs_ints _)
    rw [List.map_map, List.map_map] at this
    exact this
  obtain ⟨R2, rv⟩ := new_lst R1 dr hp
  exact q _ _ _ (Same.refl S) R2 rv
/-- what sorted of the set of ints is -/
theorem setI_run {π σ : L2.St} {F : Hp} {ρ : Env} {ns : List Int} {Q : VK} {a : Addr} {c : Nat} (R : Rel K T π F S ρ σ H) (ha : H a = none) (hc : c ≤ ns.length) (hl : ns.length < 64)
    (q : ∀ S' H' v, Same S S' → Rel K T π F S' ρ σ H' → RVR K T F S' H' ρ σ v (.own (.lst ((ascU id ns).map .int))) → Q v H') : rSortedSet w [.ref a] (upd H a (SetO w a (fun j => decide (j ∈ ns)) c)) Q := by
  have R1 := R.alloc (o := SetO w a (fun j => decide (j ∈ ns)) c) ha
  refine ⟨a, _, c, rfl, upd_same, by omega, fun ms p h1 h2 h3 hp => ?_⟩
  have e : ms = ascU id ns := asc_one (f := id) h1 (ascU_asc ns) (fun k hk => ascU_has (of_decide_eq_true ((h2 k).mp hk))) (fun k hk => ⟨k, (h2 k).mpr (decide_eq_true (ascU_sub hk)), rfl⟩) fun _ _ _ _ e => e
  subst e
  obtain ⟨R2, rv⟩ := new_lst R1 (drs_ints (ascU id ns)) hp
  exact q _ _ _ (Same.refl S) R2 rv
end
section
variable {X : Cx} {T : Tab} {e : Expr} {fe : EF} {p p2 pos pos2 : Pos}
theorem ee_sset (hc : X.calm = true) (hu : X.A.units + 64 < cLine) (hg : Gl X "sorted") (hm : X.mg "sorted" = none) (hg2 : Gl X "set") (hm2 : X.mg "set" = none) (he : PE X e (SE X.K T fe))
    (h1 : starEach [.Call (.Name "set" p2) [e] [] pos2] X.env = (false, eval (.Call (.Name "set" p2) [e] [] pos2) X.env) :: starEach [] X.env := by rfl) (h2 : starEach [e] X.env = (false, eval e X.env) :: starEach [] X.env := by rfl) :
    PE X (.Call (.Name "sorted" p) [.Call (.Name "set" p2) [e] [] pos2] [] pos) (SE X.K T (e1 oSSet fe)) :=
  (pe_callB ((cr_sortedT hc).or (cr_sortedSet hc)) hg hm (by decide +kernel) (pa_cons (pe_callTy (((cr_setTT hc hu).or (cr_setOfT hc hu)).or (cr_setTI hc)) hg2 hm2 PyProof.Rows.boot_set (pa_cons he pa_nil h2) (he := h2)) pa_nil h1) (he := h1)).imp fun σ H Q h =>
    SE.e1 (r := fun x H1 Q => ((rSetTT X.K X.prog X.w [x] H1 fun y H2 => rSortedT X.K X.prog X.w [y] H2 Q ∨ rSortedSet X.w [y] H2 Q) ∨ (rSetOfT X.K X.prog X.w [x] H1 fun y H2 => rSortedT X.K X.prog X.w [y] H2 Q ∨ rSortedSet X.w [y] H2 Q)) ∨
      rSetTI X.K X.w [x] H1 fun y H2 => rSortedT X.K X.prog X.w [y] H2 Q ∨ rSortedSet X.w [y] H2 Q) (by
  intro π F S ρ σ H x d res Q R hx hg q
  cases d <;> first | (cases hg; done) | skip
  · rename_i xs
    obtain ⟨l, vs, rfl, h1, h2⟩ := hx.tup
    have hg : (match D.ints xs with
      | some ns => (Res.need (decide (ns.length < 64))).bind fun _ => Res.ok (RV.own (.lst ((ascU id ns).map .int)))
      | none => setT xs) = .ok res := hg
    split at hg
    · rename_i ns e1
      obtain ⟨_, e2, hg⟩ := Res.bind_eq hg
      cases hg
      have hl := of_decide_eq_true (Res.need_eq e2)
      obtain ⟨a1, a2⟩ := h2.ints e1
      exact .inr ⟨l, ns, rfl, a1 ▸ sqT_same R.sS h1, hl, fun a c ha hcn => .inr (setI_run R ha hcn hl q)⟩
    · obtain ⟨ks, k1, k2, k3, k4⟩ := setT_run (P := X.prog) (w := X.w) (a0 := l) R h2 hg q
      exact .inl (.inl ⟨l, ks, rfl, k1 ▸ sqT_same R.sS h1, k2, k3, fun a L ha b1 b2 => .inl (k4 a L ha b1 b2)⟩)
  · rename_i xs
    obtain ⟨l, vs, rfl, h1, h2⟩ := hx.lst R.sS
    obtain ⟨ks, k1, k2, k3, k4⟩ := setT_run (P := X.prog) (w := X.w) (a0 := l) R h2 hg q
    exact .inl (.inr ⟨l, ks, rfl, .of (k1 ▸ h1), k2, k3, fun a L ha b1 b2 => .inl (k4 a L ha b1 b2)⟩)) h
end
end Dt
end

section
set_option Elab.async false
set_option linter.all false
set_option maxRecDepth 100000
set_option maxHeartbeats 4000000
set_option autoImplicit false
namespace Dt
open PySem PySem.Spec PyProof.Rows L2

/-! ### sorted(v, key=lambda x: (len(x), x)), v a list of tuples of data -/
section
variable {K : PySem.W.Frag} {T : Tab} {π σ : L2.St} {F S H H' : Hp} {ρ : Env}
/-- code objects have been made -/
theorem Rel.extN (R : Rel K T π F S ρ σ H) (e : LamX.ExtN H H') (t : LamX.Tabs T.tb H') : Rel K T π F S ρ σ H' :=
  R.step (Same.refl S) (fun b o q => e b o (R.sS _ _ q) fun ps z => R.nS b ps (z ▸ q)) (fun b o q => e b o (R.sF _ _ q) fun ps z => R.nF b ps (z ▸ q)) R.dj R.nS t fun i c b hc m q => by
    obtain ⟨h1, _, o, h2⟩ := R.ownAt hc m q
    exact ⟨(e b o h2 fun ps z => R.notab hc m q ps (z ▸ h2)).trans h2.symm, h1⟩
end
/-- the key of a tuple with n items -/
def keyL (n : Nat) (p : PyData) : PyData := .tuple [.int n, p]
/-- the body (len(x), x) -/
def bodyL (x : Str) (q1 q2 q3 q4 q5 : Pos) (kk : Nat) : Expr := .Tuple [.Call (.Name "len" q1) [.Name x q2] [] q3, .Name x q4] kk q5
structure ScpL (scope : Scope) (x : Str) : Prop where
  kind : scope.kind = .function
  co : scope.isCoroutine = false
  gen : scope.isGenerator = false
  cell : ∀ y ∈ scope.names, y.2 ≠ .cell
  free : ∀ y ∈ scope.names, y.2 ≠ .free
  loc : scope.names.lookup x = some .local
  len : scope.names.lookup ("len" : Str) = some .globalImplicit
  dbg : (x == ("__debug__" : Str)) = false
theorem clo_nil {cells : List (Str × Addr)} : ∀ {ns : List (Str × NameKind)} {acc : List (Str × Addr)}, (∀ y ∈ ns, y.2 ≠ .free) → cloFrom cells ns acc = acc
  | [], _, _ => rfl
  | (n, k) :: ns, acc, h => by
    have hk : k ≠ .free := h (n, k) (List.mem_cons_self ..)
    rw [cloFrom, if_neg (by simpa using hk)]
    exact clo_nil fun z hz => h z (List.mem_cons_of_mem _ hz)
theorem key_walk {prog : Program} {w : World} {A : Around} {E : Value → Shared → Prop} {s : Shared} {env : PySem.Env} {x : Str} {m mg mb : Str → Option Value} {a : Addr} {items : Array Value} {p : PyData} {q1 q2 q3 q4 q5 : Pos} {kk : Nat} (S : ScpL env.scope x) (hn : s.heap.Ns env.locals m) (hx : m x = some (.ref a))
    (hg : s.heap.Ns env.globals mg) (hm : mg "len" = none) (hb : s.heap.Ns env.builtins mb) (hv : mb "len" = some (.builtin "len")) (ht : s.heap.IsTuple a items) (hz : items.size ≤ sizeLine) (hr : Reads s.heap (.ref a) p []) :
    wpAny (model prog w) A (eval (bodyL x q1 q2 q3 q4 q5 kk) env) (PySem.W.KeyPure (keyL items.size p) s) E s := by
  have nm : ∀ {s : Shared} {E : Value → Shared → Prop} {Q : Value → Shared → Prop} {pos : Pos}, s.heap.Ns env.locals m → Q (.ref a) s → wpAny (model prog w) A (eval (.Name x pos) env) Q E s := fun hn h => wpAny_Name (wpAny_loadName_local S.kind S.loc hn hx h) S.dbg
  refine wpAny_Tuple_spliced ?_
  show wpAny _ _ (spliced ((false, eval (.Call (.Name "len" q1) [.Name x q2] [] q3) env) :: (false, eval (.Name x q4) env) :: [])) _ _ s
  refine Calls.spliced_cons ?_
  refine wpAny_Call_Name_kw (Calls.Name_function_global S.kind S.len (Calls.loadGlobal_builtin hg hm hb hv ?_))
  refine PyProof.Rows.callWith_builtin1 ?_ (by rfl) (by rfl)
  show wpAny _ _ (spliced ((false, eval (.Name x q2) env) :: [])) _ _ s
  refine Calls.spliced_cons (nm hn (Calls.spliced_nil ?_))
  have hl := line63
  refine len_tuple ht (by omega) ?_
  refine Calls.spliced_cons (nm hn (Calls.spliced_nil ⟨by show 2 ≤ sizeLine; decide, ?_⟩))
  refine ⟨_, _, rfl, fun b o e => Heap.get?_push_of_some _ e, ?_⟩
  have hr2 := PyProof.Rows.Reads.keeps (h' := s.heap.push { cls := .type "tuple", data := .seq [Value.int items.size (s.toks + 1), Value.ref a].toArray }) (fun b o e => Heap.get?_push_of_some _ e) hr
  exact Reads.tuple (as := [] ++ ([] ++ [])) (Heap.get?_push_size _ rfl) rfl rfl (.cons (.int _ _) (.cons hr2 .nil))
/-- no list, no dict within -/
inductive Flat : PyData → Prop
  | non : Flat .none
  | bl (b : Bool) : Flat (.bool b)
  | int (i : Int) : Flat (.int i)
  | str (x : Str) : Flat (.str x)
  | tup {ps : List PyData} : (∀ p ∈ ps, Flat p) → Flat (.tuple ps)
mutual
theorem flat_reads {h : Heap} : ∀ {v : Value} {p : PyData} {as : List Addr}, Reads h v p as → Flat p → as = []
  | _, _, _, .none, _ => rfl
  | _, _, _, .bool _, _ => rfl
  | _, _, _, .int _ _, _ => rfl
  | _, _, _, .str _ _, _ => rfl
  | _, _, _, .list _ _ _ _, f => nomatch f
  | _, _, _, .tuple _ _ _ r, .tup f => flat_all r f
  | _, _, _, .dict _ _ _ _ _, f => nomatch f
theorem flat_all {h : Heap} : ∀ {vs : List Value} {ps : List PyData} {as : List Addr}, ReadsAll h vs ps as → (∀ p ∈ ps, Flat p) → as = []
  | _, _, _, .nil, _ => rfl
  | _, _, _, .cons r q, f => by rw [flat_reads r (f _ (List.mem_cons_self ..)), flat_all q fun p hp => f p (List.mem_cons_of_mem _ hp)]; rfl
end
/-- an item with its key -/
def KeyIt (K : PySem.W.Frag) (H : Hp) (b : V × PyData) : Prop := ∃ a ws p, b.1 = .ref a ∧ SqT K H a ws ∧ Dp K H b.1 p ∧ Flat p ∧ b.2 = keyL ws.length p
def rSortK (K : PySem.W.Frag) : List V → Hp → VK → Prop := fun vs H Q => ∃ (a : Addr) (bs : List (V × PyData)), vs = [V.ref a] ∧ SqL K H a (bs.map (·.1)) ∧ (∀ b ∈ bs, KeyIt K H b) ∧ alikeB (bs.map (·.2)) = true ∧ sortableB (bs.map (·.2)) = true ∧ (∀ b ∈ bs, b.2.depth ≤ 60) ∧
  ∀ p, H p = none → Q (.ref p) (upd H p (.lst ((bs.mergeSort (PySem.W.dataLe false (·.2))).map (·.1))))
section
variable {X : Cx} {pins : List (Addr × Obj)} {σ : L2.St} {H : Hp} {s : Shared} {c P f c' : Addr} {params : Arguments} {scope : Scope} {x : Str} {p pos q1 q2 q3 q4 q5 lpos kpos : Pos} {kk k : Nat} {pm ctv : Value} {qual : Str}
/-- the lambda called on an item -/
theorem key_turn (I : Inv X pins σ H s) (S : ScpL scope x) (hr : Room (k + 2) X.A) (hm : X.mg "len" = none) (hf : s.heap.get? f = some (PySem.W.kla_obj "<lambda>" qual params (bodyL x q1 q2 q3 q4 q5 kk) scope [] pm c' ctv)) (hco : H c' = some (LamX.CodeO c' qual))
    (hbind : ∀ v, bindArgs (PySem.W.kla_fn "<lambda>" qual params (bodyL x q1 q2 q3 q4 q5 kk) scope [] pm (.ref c') ctv) ⟨[v], []⟩ = pure [(x, v)]) {b : V × PyData} (hb : KeyIt X.K H b) {v : Value} (rv : RelV b.1 v) (h : Heap) (tk : Nat) (kp : ∀ b o, s.heap.get? b = some o → h.get? b = some o) :
    wpAny (model X.prog X.w) X.A.in1.in1 (call (.ref f) [v]) (PySem.W.KeyPure b.2 { s with heap := h, toks := tk }) (fun _ _ => False) { s with heap := h, toks := tk } := by
  obtain ⟨bv, bk⟩ := b
  obtain ⟨a, ws, pd, e1, hq, hd, hfl, e2⟩ := hb
  have e1 : bv = V.ref a := e1
  have e2 : bk = keyL ws.length pd := e2
  subst e1 e2
  cases (show v = Value.ref a from rv)
  obtain ⟨⟨oc, vs, t, hoc, hdc, hvc⟩, _, _⟩ := I.hok c' _ hco
  obtain ⟨its, rits, pt, hz⟩ := I.tuple hq
  obtain ⟨as, hrd⟩ := Dp.reads I pd _ _ hd rv
  have eas := flat_reads hrd hfl
  subst eas
  have hr2 : Room k X.A.in1.in1 := hr.in1.in1
  refine wpAny_call (PySem.W.kla_callFunE hr2.depth (kp _ _ hf) rfl S.co S.gen rfl ⟨c', oc, vs, t, rfl, kp _ _ hoc, hdc, hvc⟩ ?_)
  rw [hbind]
  refine wpAny_pure (wpAny_newFunctionEnv S.cell (fun y hy => ?_) (fun h₁ hns hsb => ⟨(I.nolimit.keeps kp).fresh _ hsb, PySem.W.kla_codeExpr ?_⟩) S.kind)
  · cases hy with
    | head => exact S.loc
    | tail _ z => cases z
  · have kp1 : ∀ b o, s.heap.get? b = some o → h₁.get? b = some o := fun b o e => hsb.extBut b o (Nat.ne_of_lt (Heap.lt_size (kp b o e))) (Heap.get?_push_of_some _ (kp b o e))
    have kp2 : ∀ b o, h.get? b = some o → h₁.get? b = some o := fun b o e => hsb.extBut b o (Nat.ne_of_lt (Heap.lt_size e)) (Heap.get?_push_of_some _ e)
    obtain ⟨mb, b1, b2⟩ := I.mod.blt
    have hlen : its.toArray.size = ws.length := by rw [List.size_toArray]; exact rits.length.symm
    have hw := key_walk (prog := X.prog) (w := X.w) (A := X.A.in1.in1.deeper (newEnv scope h.objs.size mainGlobals [] (qual ++ ".<locals>.") (some f) (.ref c') none builtinsNs)) (E := fun _ _ => False) (s := { s with heap := h₁, toks := tk + 1 })
      (env := newEnv scope h.objs.size mainGlobals [] (qual ++ ".<locals>.") (some f) (.ref c') none builtinsNs) (q1 := q1) (q2 := q2) (q3 := q3) (q4 := q4) (q5 := q5) (kk := kk) (a := a) (p := pd) S hns (by simp [List.lookup]) ((I.mod.glob.keeps I.bk).keeps kp1) hm ((b1.keeps I.bk).keeps kp1) ((b2 _ (by decide)).trans PySem.boot_len)
      (items := its.toArray) (by obtain ⟨o, ho, hc, n, hd⟩ := pt; exact ⟨o, kp1 _ _ ho, hc, n, hd⟩) (by rw [hlen]; exact hz) (PyProof.Rows.Reads.keeps kp1 hrd)
    refine wpAny_mono hw (fun u s' hq => ?_) fun _ _ z => z.elim
    obtain ⟨h', tk', es, kq, rd⟩ := hq
    rw [hlen] at rd
    exact ⟨h', tk', es, fun b o e => kq b o (kp2 b o e), rd⟩
/-- the whole expression -/
theorem pe_sortKL {e : Expr} {te : TE} {L : List (Addr × Str)} (hr : Room (k + 2) X.A) (hg : Gl X "sorted") (hm : X.mg "sorted" = none) (hml : X.mg "len" = none) (TB : LamX.TabB X.base X.mg c P) (hcode : X.env.code = .ref c) (hmT : (P, X.env.qual ++ "<lambda>") ∈ L) (hu : ∀ p ∈ L, p.1 = P → p.2 = X.env.qual ++ "<lambda>") (S : ScpL scope x) (hdef : defaultsOf params X.env = ([], []))
    (hbind : ∀ (q : Str) (pm cv ctv v : Value), bindArgs (PySem.W.kla_fn "<lambda>" q params (bodyL x q1 q2 q3 q4 q5 kk) scope [] pm cv ctv) ⟨[v], []⟩ = pure [(x, v)]) (ha : PE X e te) (he : backTo pos (starEach [e] X.env) = (false, eval e X.env) :: backTo pos (starEach [] X.env) := by rfl) (hpl : (backTo pos (starEach [e] X.env)).any (·.1) = false := by rfl)
    (hall : (backToKw pos (keywordEach [⟨some "key", .Lambda params (bodyL x q1 q2 q3 q4 q5 kk) scope lpos, kpos⟩] X.env)).all (·.1.isSome) = true := by rfl) (hnone : (backToKw pos (keywordEach [⟨some "key", .Lambda params (bodyL x q1 q2 q3 q4 q5 kk) scope lpos, kpos⟩] X.env)).any (·.1.isNone) = false := by rfl)
    (hks : (backToKw pos (keywordEach [⟨some "key", .Lambda params (bodyL x q1 q2 q3 q4 q5 kk) scope lpos, kpos⟩] X.env)).filterMap (·.1) = [Str.ofString "key"] := by rfl)
    (hev : (backToKw pos (keywordEach [⟨some "key", .Lambda params (bodyL x q1 q2 q3 q4 q5 kk) scope lpos, kpos⟩] X.env)).map (·.2) = [do let v ← eval (.Lambda params (bodyL x q1 q2 q3 q4 q5 kk) scope lpos) X.env; standAt pos; pure v] := by rfl) :
    PE X (.Call (.Name "sorted" p) [e] [⟨some "key", .Lambda params (bodyL x q1 q2 q3 q4 q5 kk) scope lpos, kpos⟩] pos) (fun σ H Q => te σ H fun v H1 => LamX.Tabs L H1 ∧ ∀ H2, LamX.ExtN H1 H2 → LamX.Tabs L H2 → rSortK X.K [v] H2 Q) := by
  refine ⟨fun pins s σ H Q I h => ?_⟩
  refine wpAny_Call_Name_kw (ld_blt I hg hm (show bootBuiltins "sorted" = some (.builtin "sorted") by decide +kernel) ?_)
  refine PyProof.Rows.callWith_kw ?_ he hpl hall hnone
  rw [he, hks, hev]
  refine Calls.spliced_cons (thn (ha.run pins s σ H _ I h) fun u s1 ⟨v, H1, I1, r1, hT, qk⟩ => ?_)
  refine Calls.spliced_nil ?_
  refine wpAny_evalAll_cons (wpAny_bind (LamX.lam_make2 I1 TB hcode hmT hu hT hdef (fun y hy z => absurd z (S.free y hy)) fun f c' pm ctv H2 s2 I2 eN T2 hf hfn hfr hco => wpAny_bind (wpAny_standAt (wpAny_pure (wpAny_evalAll_nil ?_)))))
  rw [clo_nil S.free] at hf
  obtain ⟨a, bs, ea, hl, hk, hal, hso, hdp, q⟩ := qk H2 eN T2
  cases ea
  cases (show u = Value.ref a from r1)
  obtain ⟨its, rv, pl, hz⟩ := I2.list hl
  rw [List.length_map] at hz
  have hun := hr.units
  refine PySem.W.sorted_key_data (β := V × PyData) (R := fun u b => RelV b.1 u) (vs := its) (bs := bs) (f := .ref f) (b := false) (kw := [(Str.ofString "key", .ref f)]) (fun b => b.2) pl.isList (eachIs_vals (R := RelV) rv) (alikeB_of hal) (sortableB_of hso) hz (fun b hb => by have := hdp b hb; omega) (PyProof.Rows.ksk_s1 _ _) (fun _ => PyProof.Rows.ksk_l1 _ _) (fun _ => PyProof.Rows.ksk_t1 _ _)
    (fun v b rb hb h tk kp => key_turn I2 S hr hml hf hco (fun v => hbind _ _ _ _ v) (hk b hb) rb h tk kp) fun out cc h' tk kp hn hD ho eo => ?_
  exact ⟨.ref _, _, I2.laid (t' := tk) (o := .lst ((bs.mergeSort (PySem.W.dataLe false (·.2))).map (·.1))) kp (Nat.le_succ _) ⟨by rw [List.length_map, List.length_mergeSort]; exact hz, out, cc, vals_eachIs eo, hD⟩, rfl, q _ (I2.hok.fresh (Nat.le_succ _))⟩
end
/-! ### by data -/
mutual
def D.pyF : D → Option PyData
  | .non => some .none
  | .bl b => some (.bool b)
  | .int i => some (.int i)
  | .str x => some (.str x)
  | .tup xs => (D.pyFs xs).map .tuple
  | _ => none
def D.pyFs : List D → Option (List PyData)
  | [] => some []
  | d :: ds => match D.pyF d, D.pyFs ds with
    | some p, some ps => some (p :: ps)
    | _, _ => none
end
mutual
theorem pyF_py : ∀ {d : D} {p : PyData}, d.pyF = some p → d.py = some p ∧ Flat p
  | .non, _, e => by cases e; exact ⟨rfl, .non⟩
  | .bl _, _, e => by cases e; exact ⟨rfl, .bl _⟩
  | .int _, _, e => by cases e; exact ⟨rfl, .int _⟩
  | .str _, _, e => by cases e; exact ⟨rfl, .str _⟩
  | .tup xs, _, e => by
    rw [D.pyF] at e
    obtain ⟨ps, e1, rfl⟩ := Option.map_eq_some_iff.mp e
    obtain ⟨h1, h2⟩ := pyFs_pys e1
    exact ⟨by rw [D.py, h1]; rfl, .tup h2⟩
  | .lst _, _, e => by cases e
  | .scr _, _, e => by cases e
  | .dic _ _ _, _, e => by cases e
  | .obj _ _, _, e => by cases e
  | .fn _ _, _, e => by cases e
theorem pyFs_pys : ∀ {ds : List D} {ps : List PyData}, D.pyFs ds = some ps → D.pys ds = some ps ∧ ∀ p ∈ ps, Flat p
  | [], _, e => by cases e; exact ⟨rfl, fun p hp => by cases hp⟩
  | d :: ds, ps, e => by
    rw [D.pyFs] at e
    split at e
    · rename_i p ps' e1 e2
      cases e
      obtain ⟨h1, h2⟩ := pyF_py e1
      obtain ⟨h3, h4⟩ := pyFs_pys e2
      refine ⟨by rw [D.pys, h1, h3], fun q hq => ?_⟩
      rcases List.mem_cons.mp hq with z | hq
      · exact z ▸ h2
      · exact h4 q hq
    · cases e
end
def D.keyT : D → Option PyData
  | .tup ys => (D.pyF (.tup ys)).map (keyL ys.length)
  | _ => none
def D.keyTs : List D → Option (List PyData)
  | [] => some []
  | d :: ds => match D.keyT d, D.keyTs ds with
    | some p, some ps => some (p :: ps)
    | _, _ => none
def oSortKL : D → Res RV
  | .lst xs => (Res.of (D.keyTs xs)).bind fun ks => (Res.need (alikeB ks && sortableB ks && ks.all fun p => decide (p.depth ≤ 60))).bind fun _ => .ok (.own (.lst (sortD (xs.zip ks))))
  | _ => .bad
theorem keyTs_len : ∀ {xs : List D} {ps : List PyData}, D.keyTs xs = some ps → ps.length = xs.length
  | [], _, e => by cases e; rfl
  | x :: xs, ps, e => by
    rw [D.keyTs] at e
    split at e
    · rename_i p ps' e1 e2
      cases e
      rw [List.length_cons, List.length_cons, keyTs_len e2]
    · cases e
theorem keyTs_zip : ∀ {xs : List D} {ps : List PyData}, D.keyTs xs = some ps → ∀ q ∈ xs.zip ps, q.1.keyT = some q.2
  | [], _, e, q, hq => by cases e; simp at hq
  | x :: xs, ps, e, q, hq => by
    rw [D.keyTs] at e
    split at e
    · rename_i p ps' e1 e2
      cases e
      rw [List.zip_cons_cons] at hq
      rcases List.mem_cons.mp hq with rfl | hq
      · exact e1
      · exact keyTs_zip e2 q hq
    · cases e
section
variable {K : PySem.W.Frag} {T : Tab} {S H : Hp}
theorem keyIt_of {v : V} {d : D} {k : PyData} (sS : Same S H) (h : DR K T S v d) (e : d.keyT = some k) : KeyIt K H (v, k) := by
  cases d <;> first | (cases e; done) | skip
  rename_i ys
  obtain ⟨p, e1, rfl⟩ := Option.map_eq_some_iff.mp (show (D.pyF (.tup ys)).map (keyL ys.length) = some k from e)
  obtain ⟨h1, h2⟩ := pyF_py e1
  cases h with
  | @tup a vs _ hq hr => exact ⟨a, vs, p, rfl, sqT_same sS hq, (DR.mono sS (.tup hq hr)).dp h1, h2, by rw [hr.length]⟩
theorem op_rSortK : Op1 K T (fun x H Q => rSortK K [x] H Q) oSortKL := by
  intro π F S ρ σ H x d res Q R hx hg q
  cases d <;> first | (cases hg; done) | skip
  rename_i xs
  obtain ⟨ps, e2, hg⟩ := Res.bind_eq hg
  obtain ⟨_, e3, hg⟩ := Res.bind_eq hg
  cases hg
  have e2 := Res.of_eq e2
  have hb := Res.need_eq e3
  rw [Bool.and_eq_true, Bool.and_eq_true] at hb
  obtain ⟨a, vs, rfl, h1, h2⟩ := hx.lst R.sS
  have l1 := h2.length
  have l2 := keyTs_len e2
  let tr : List (V × (D × PyData)) := vs.zip (xs.zip ps)
  have lz : (xs.zip ps).length = xs.length := by rw [List.length_zip]; omega
  have m1 : tr.map (·.1) = vs := map_zip1 (by omega)
  have m2 : tr.map (·.2) = xs.zip ps := map_zip2 (by omega)
  have m3 : (tr.map fun t => t.2.2) = ps := by
    rw [show (tr.map fun t => t.2.2) = (tr.map (·.2)).map (·.2) by rw [List.map_map]; rfl, m2, map_zip2 (by omega)]
  have hall : ∀ t ∈ tr, DR K T S t.1 t.2.1 ∧ t.2.1.keyT = some t.2.2 := fun t ht => by
    have hz := List.of_mem_zip ht
    refine ⟨?_, keyTs_zip e2 _ hz.2⟩
    obtain ⟨i, hi⟩ := List.mem_iff_getElem?.mp ht
    rw [List.getElem?_zip_eq_some] at hi
    have h3 := hi.2
    rw [List.getElem?_zip_eq_some] at h3
    obtain ⟨d', hd1, hd2⟩ := h2.get' hi.1
    rw [h3.1] at hd1; cases hd1
    exact hd2
  refine ⟨a, tr.map fun t => (t.1, t.2.2), rfl, ?_, ?_, ?_, ?_, ?_, fun p hp => ?_⟩
  · rw [List.map_map]
    show SqL K H a (tr.map (·.1))
    rw [m1]; exact .of h1
  · intro b hb
    obtain ⟨t, ht, rfl⟩ := List.mem_map.mp hb
    obtain ⟨h3, h4⟩ := hall t ht
    exact keyIt_of R.sS h3 h4
  · rw [List.map_map]
    show alikeB (tr.map fun t => t.2.2) = true
    rw [m3]; exact hb.1.1
  · rw [List.map_map]
    show sortableB (tr.map fun t => t.2.2) = true
    rw [m3]; exact hb.1.2
  · intro b hb'
    obtain ⟨t, ht, rfl⟩ := List.mem_map.mp hb'
    have : t.2.2 ∈ ps := (List.of_mem_zip (List.of_mem_zip ht).2).2
    exact of_decide_eq_true (List.all_eq_true.mp hb.2 _ this)
  · have hs : ((tr.map fun t => (t.1, t.2.2)).mergeSort (PySem.W.dataLe false fun b : V × PyData => b.2)) = (tr.mergeSort (PySem.W.dataLe false fun t : V × (D × PyData) => t.2.2)).map fun t => (t.1, t.2.2) := (PySem.W.sort_maps (fun t : V × (D × PyData) => (t.1, t.2.2)) fun _ _ _ _ => rfl).symm
    have hs2 : (xs.zip ps).mergeSort leD = (tr.mergeSort (PySem.W.dataLe false fun t : V × (D × PyData) => t.2.2)).map (·.2) := by
      rw [← m2]; exact (PySem.W.sort_maps (fun t : V × (D × PyData) => t.2) fun _ _ _ _ => rfl).symm
    rw [hs, List.map_map]
    have hdr : DRs K T S ((tr.mergeSort (PySem.W.dataLe false fun t : V × (D × PyData) => t.2.2)).map (·.1)) (sortD (xs.zip ps)) := by
      unfold sortD
      rw [sortS_eq leD_total, hs2, List.map_map]
      have := drs_of (K := K) (T := T) (S := S) (bs := (tr.mergeSort (PySem.W.dataLe false fun t : V × (D × PyData) => t.2.2)).map fun t => (t.1, t.2.1)) fun b hb => by
        obtain ⟨t, ht, rfl⟩ := List.mem_map.mp hb
        exact (hall t (List.mem_mergeSort.mp ht)).1
      rw [List.map_map, List.map_map] at this
      exact this
    obtain ⟨R2, rv⟩ := new_lst R hdr hp
    exact q _ _ _ (Same.refl S) R2 rv
end
section
variable {X : Cx} {T : Tab} {c P : Addr} {params : Arguments} {scope : Scope} {x : Str} {p pos q1 q2 q3 q4 q5 lpos kpos : Pos} {kk k : Nat} {e : Expr} {fe : EF}
theorem ee_sortKL (hr : Room (k + 2) X.A) (hg : Gl X "sorted") (hm : X.mg "sorted" = none) (hml : X.mg "len" = none) (TB : LamX.TabB X.base X.mg c P) (hcode : X.env.code = .ref c) (hmT : (P, X.env.qual ++ "<lambda>") ∈ T.tb) (hu : ∀ p ∈ T.tb, p.1 = P → p.2 = X.env.qual ++ "<lambda>") (S : ScpL scope x) (hdef : defaultsOf params X.env = ([], []))
    (hbind : ∀ (q : Str) (pm cv ctv v : Value), bindArgs (PySem.W.kla_fn "<lambda>" q params (bodyL x q1 q2 q3 q4 q5 kk) scope [] pm cv ctv) ⟨[v], []⟩ = pure [(x, v)]) (ha : PE X e (SE X.K T fe)) (he : backTo pos (starEach [e] X.env) = (false, eval e X.env) :: backTo pos (starEach [] X.env) := by rfl) (hpl : (backTo pos (starEach [e] X.env)).any (·.1) = false := by rfl)
    (hall : (backToKw pos (keywordEach [⟨some "key", .Lambda params (bodyL x q1 q2 q3 q4 q5 kk) scope lpos, kpos⟩] X.env)).all (·.1.isSome) = true := by rfl) (hnone : (backToKw pos (keywordEach [⟨some "key", .Lambda params (bodyL x q1 q2 q3 q4 q5 kk) scope lpos, kpos⟩] X.env)).any (·.1.isNone) = false := by rfl)
    (hks : (backToKw pos (keywordEach [⟨some "key", .Lambda params (bodyL x q1 q2 q3 q4 q5 kk) scope lpos, kpos⟩] X.env)).filterMap (·.1) = [Str.ofString "key"] := by rfl)
    (hev : (backToKw pos (keywordEach [⟨some "key", .Lambda params (bodyL x q1 q2 q3 q4 q5 kk) scope lpos, kpos⟩] X.env)).map (·.2) = [do let v ← eval (.Lambda params (bodyL x q1 q2 q3 q4 q5 kk) scope lpos) X.env; standAt pos; pure v] := by rfl) :
    PE X (.Call (.Name "sorted" p) [e] [⟨some "key", .Lambda params (bodyL x q1 q2 q3 q4 q5 kk) scope lpos, kpos⟩] pos) (SE X.K T (e1 oSortKL fe)) :=
  (pe_sortKL hr hg hm hml TB hcode hmT hu S hdef hbind ha he hpl hall hnone hks hev).imp fun σ H Q ⟨π, F, S0, ρ, r, ρ', R, e, q⟩ => by
    obtain ⟨⟨r1, ρ1⟩, e1, e⟩ := Res.bind_eq e
    obtain ⟨d, e2, e⟩ := Res.bind_eq e
    obtain ⟨res, e3, e⟩ := Res.bind_eq e
    cases e
    refine ⟨π, F, S0, ρ, r1, _, R, e1, fun S1 H1 v s1 R1 rv => ?_⟩
    obtain ⟨S2, s2, R2, hv⟩ := rv.hold R1
    refine ⟨R2.tb, fun H2 eN T2 => ?_⟩
    have R3 := R2.extN eN T2
    exact op_rSortK π F S2 _ σ H2 v d _ Q R3 (hv.rd R3 (Res.of_eq e2)) e3 fun S' H' w s' R' rw' => q S' H' w (s1.trans (s2.trans s')) R' rw'
end
end Dt
end

section
set_option Elab.async false
set_option linter.all false
set_option maxRecDepth 100000
set_option maxHeartbeats 4000000
set_option autoImplicit false
namespace Dt
open PySem PySem.Spec PyProof.Rows L2

/-! ### a constant of the module; list(range(n)) -/
section
variable {X : Cx} {T : Tab} {x : Str} {p pos p2 pos2 : Pos} {e : Expr} {fe : EF}
theorem ee_gint {i : Int} (hg : Gl X x) (h : ∃ t, X.mg x = some (.int i t)) (hd : (x == ("__debug__" : Str)) = false := by decide) : PE X (.Name x pos) (SE X.K T (eC (.int i))) :=
  ee_C (v := .int i) (C8.pe_gc hg (by obtain ⟨t, h⟩ := h; exact ⟨_, h, t, rfl⟩) hd) fun _ => .int i
def oLRange : D → Res RV
  | .int n => (Res.need (small n && decide (n.toNat ≤ 2 ^ 24))).bind fun _ => .ok (.own (.lst (intsD 0 n.toNat)))
  | _ => .bad
theorem rg_ints {K : PySem.W.Frag} {T : Tab} {S : Hp} {n : Int} : DRs K T S (rgV 0 n) (intsD 0 n.toNat) := by
  have h := drs_ints (K := K) (T := T) (S := S) ((List.range n.toNat).map fun i : Nat => (0 : Int) + (i : Int))
  rw [List.map_map, List.map_map] at h
  unfold rgV intsD
  rw [Int.sub_zero]
  exact h
theorem ee_lrange (hc : X.calm = true) (hg : Gl X "list") (hm : X.mg "list" = none) (hg2 : Gl X "range") (hm2 : X.mg "range" = none) (he : PE X e (SE X.K T fe)) (h1 : starEach [.Call (.Name "range" p2) [e] [] pos2] X.env = (false, eval (.Call (.Name "range" p2) [e] [] pos2) X.env) :: starEach [] X.env := by rfl)
    (h2 : starEach [e] X.env = (false, eval e X.env) :: starEach [] X.env := by rfl) : PE X (.Call (.Name "list" p) [.Call (.Name "range" p2) [e] [] pos2] [] pos) (SE X.K T (e1 oLRange fe)) := (pe_listRg hc hg hm (prg_1 hg2 hm2 he h2) h1).imp fun σ H Q h =>
  SE.e1 (r := fun x H1 Q => ∃ n, x = .int n ∧ RgOk 0 n ∧ ∀ q, H1 q = none → Q (.ref q) (upd H1 q (.lst (rgV 0 n)))) (by
    intro π F S ρ σ H x d res Q R hx hg q
    cases d <;> first | (cases hg; done) | skip
    obtain ⟨_, e1, hg⟩ := Res.bind_eq hg
    cases hg
    rename_i n _
    have e1 := Res.need_eq e1
    rw [Bool.and_eq_true] at e1
    obtain ⟨h1, h2⟩ := small_of e1.1
    have h3 := of_decide_eq_true e1.2
    refine ⟨_, hx.int, ⟨by decide, by decide, h1, h2, by omega⟩, fun l hl => ?_⟩
    obtain ⟨R2, rv⟩ := new_lst R rg_ints hl
    exact q _ _ _ (Same.refl S) R2 rv) h
end

/-! ### a def whose code object is known -/
structure FunC (K : PySem.W.Frag) (x qual : Str) (st : Stmt) (f : Addr) (fd : FuncData) (c : Addr) : Prop where
  ex : ∃ (oc : Value) (od : Option Addr) (kV doc pm : Value) (an : Option Addr) (ct : Value) (osl : Array (Option Value)),
    fd = PySem.W.fnOf x qual (defArgs st) (defBody st) (defScope st) .none kV doc pm an (.ref c) ct ∧ K.lookup f = some ⟨oc, od, .func fd, osl⟩ ∧ PySem.W.codeIn K (.ref c) qual = true
  kp : PySem.W.keepIn K (.ref f) = true
section
variable {P : Program} {w : World} {K : PySem.W.Frag} {T : Tab} {mg : Str → Option Value} {base : Heap}
theorem spF_len {fb : SF} {n m : Nat} {vs : List V} {H : Hp} {Q : VK} {E : XK} (h : SpF K T (runF n m fb) vs H Q E) : vs.length = n := by
  obtain ⟨F, S, cs, r, cs', R, e, _⟩ := h
  unfold runF at e
  split at e
  · rename_i hl
    rw [← hl, R.len, List.length_map]
  · cases e
theorem spF_body {N : List Str} {fb : SF} {n m : Nat} {vs : List V} {H : Hp} {Q : VK} {E : XK} (hm : N.length = n + m) (h : SpF K T (runF n m fb) vs H Q E) : SS K T fb { nx := fun _ H' => Q .non H', rt := Q } (L2.start N vs) H := by
  have hv := spF_len h
  obtain ⟨F, S, cs, r, cs', R, e, mr, q⟩ := h
  unfold runF at e
  split at e
  · rename_i hl
    obtain ⟨⟨fl, ρ'⟩, e1, e⟩ := Res.bind_eq e
    split at e
    · rename_i hp
      have hvN : vs.length ≤ N.length := by omega
      have em : m = N.length - vs.length := by omega
      refine ⟨L2.start N vs, F, S, cs ++ List.replicate (N.length - vs.length) .un, fl, ρ', R.pad hvN, by rw [← em]; exact e1, ?_⟩
      subst hv
      cases fl with
      | nx =>
        cases e
        exact fun S' σ' H' s' R' => q S' H' .non s' (R'.outs hvN hp) .non
      | ret ro =>
        cases ro with
        | fro d => cases e; exact fun S' σ' H' v s' R' rv => q S' H' v s' (R'.outs hvN hp) (rv.outs R' hvN rfl)
        | own d => cases e; exact fun S' σ' H' v s' R' rv => q S' H' v s' (R'.outs hvN hp) (rv.outs R' hvN rfl)
        | bor i => cases e
      | bk => cases e
      | ct => cases e
    · cases e
  · cases e
theorem def_okC {x qual : Str} {st : Stmt} {f c : Addr} {fd : FuncData} {N ps : List Str} {k : Nat} {fb : SF} {n m : Nat} (Fu : FunC K x qual st f fd c) (Sc : FnScope N ps (defScope st)) (hn : ps.length = n) (hm : N.length = n + m)
    (body : ∀ (A : Around) (outer : List PySem.Env) (s : Shared) (H : Hp) (E : XK), Room k (A.deeper (envOfC qual (defScope st) s.heap.objs.size f (.ref c))) → PSs (cxOf CX0 P w K mg base N qual (defScope st) f (.ref c) A outer s H E).nox (defBody st) (SS K T fb)) :
    FnOk P w K mg base CX0 (k + 1) f fd ps (SpF K T (runF n m fb)) := by
  obtain ⟨oc, od, kV, doc, pm, an, ct, osl, rfl, lk, hcd⟩ := Fu.ex
  refine fn_of lk hcd Sc (fun vs H Q E h => (spF_len h).trans hn.symm) fun A outer s H vs Q E hr h => ?_
  exact ⟨_, (body A outer s H E hr).nox, spF_body hm h⟩
end
/-- the scope of a lambda of one name -/
def scpB (sc : Scope) (x : Str) : Bool := decide (sc.kind = .function) && (!sc.isCoroutine && (!sc.isGenerator && (sc.names.all (fun y => decide (y.2 ≠ .cell) && decide (y.2 ≠ .free)) && (decide (sc.names.lookup x = some .local) && (decide (sc.names.lookup ("len" : Str) = some .globalImplicit) && !(x == ("__debug__" : Str)))))))
theorem scp_by {sc : Scope} {x : Str} (h : scpB sc x = true) : ScpL sc x := by
  unfold scpB at h
  simp only [Bool.and_eq_true, Bool.not_eq_true', decide_eq_true_eq, List.all_eq_true] at h
  obtain ⟨h1, h2, h3, h4, h5, h6, h7⟩ := h
  exact ⟨h1, h2, h3, fun y hy => (h4 y hy).1, fun y hy => (h4 y hy).2, h5, h6, h7⟩
end Dt
end

section
set_option Elab.async false
set_option linter.all false
set_option maxRecDepth 100000
set_option maxHeartbeats 4000000
set_option autoImplicit false
namespace Dt
open PySem PySem.Spec PyProof.Rows L2 He

/-! ### the head: defs by an address that is looked up -/
structure DefY where
  adr : PySem.W.Frag → Addr
  name : Str
  qual : Str
  st : Stmt
def fnY (K : PySem.W.Frag) (d : DefY) : FnW := match K.lookup (d.adr K) with
  | some ⟨_, _, .func fd, _⟩ => some (fd.name, fd.qualname, fd.params, fd.body, fd.scope, fd.globals, fd.closure, fd.builtins)
  | _ => none
def DefY.val (d : DefY) : FnW := some (d.name, d.qual, defArgs d.st, .stmts (defBody d.st), defScope d.st, mainGlobals, [], builtinsNs)
def DefY.ok (K : PySem.W.Frag) (d : DefY) : Bool := PySem.W.keepIn K (.ref (d.adr K)) && (match K.lookup (d.adr K) with
  | some ⟨_, _, .func fd, _⟩ => PySem.W.codeIn K fd.code d.qual && dflB K fd.defaults []
  | _ => false)
/-- the code object of the def at a -/
def codeY (K : PySem.W.Frag) (a : Addr) : Addr := match K.lookup a with
  | some ⟨_, _, .func fd, _⟩ => (match fd.code with
    | .ref c => c
    | _ => 0)
  | _ => 0
def fdY (K : PySem.W.Frag) (a : Addr) : FuncData := match K.lookup a with
  | some ⟨_, _, .func fd, _⟩ => fd
  | _ => PySem.W.fnOf Str.empty Str.empty ⟨[], [], none, [], [], none, []⟩ [] ⟨.function, [], false, false, []⟩ .none .none .none .none none .none .none
theorem DefY.funC {K : PySem.W.Frag} {d : DefY} (e : fnY K d = d.val) (c : d.ok K = true) : FunC K d.name d.qual d.st (d.adr K) (fdY K (d.adr K)) (codeY K (d.adr K)) := by
  obtain ⟨kp, c2⟩ := ba c
  unfold fnY at e
  cases q : K.lookup (d.adr K) with
  | none => rw [q] at c2; cases c2
  | some o =>
    obtain ⟨oc, od, dt, osl⟩ := o
    rw [q] at c2 e
    cases dt with
    | func fd =>
      obtain ⟨n1, n2, n3, n4, n5, n6, n7, n8, n9, n10, n11, n12, n13, n14, n15⟩ := fd
      have e2 : (some (n1, n2, n3, n4, n5, n6, n7, n15) : FnW) = some (d.name, d.qual, defArgs d.st, .stmts (defBody d.st), defScope d.st, mainGlobals, [], builtinsNs) := e
      simp only [Option.some.injEq, Prod.mk.injEq] at e2
      obtain ⟨h1, h2, h3, h4, h5, h6, h7, h8⟩ := e2
      subst h1 h2 h3 h4 h5 h6 h7 h8
      obtain ⟨k1, k2⟩ := ba (show (PySem.W.codeIn K n13 d.qual && dflB K n8 []) = true from c2)
      have en : n8 = .none := by
        rcases dflB_ok k2 with ⟨_, h⟩ | ⟨h, _⟩
        · exact h
        · exact absurd rfl h
      subst en
      obtain ⟨cc, ec⟩ := codeIn_ref k1
      subst ec
      have ef : fdY K (d.adr K) = PySem.W.fnOf d.name d.qual (defArgs d.st) (defBody d.st) (defScope d.st) .none n9 n10 n11 n12 (.ref cc) n14 := by
        unfold fdY; rw [q]
      have ek : codeY K (d.adr K) = cc := by unfold codeY; rw [q]
      refine ⟨⟨oc, od, n9, n10, n11, n12, n14, osl, ?_, ?_, ?_⟩, kp⟩
      · rw [ek]; exact ef
      · rw [ef]; exact q
      · rw [ek]; exact k1
    | _ => cases c2
theorem FunC.fun_ {K : PySem.W.Frag} {x q : Str} {st : Stmt} {f c : Addr} {fd : FuncData} (h : FunC K x q st f fd c) : Fun K x q st f fd := by
  obtain ⟨oc, od, kV, doc, pm, an, ct, osl, e, l, k⟩ := h.ex
  exact ⟨⟨oc, od, kV, doc, pm, an, .ref c, ct, osl, e, l, k⟩, h.kp⟩
theorem FunC.binds {K : PySem.W.Frag} {x q : Str} {st : Stmt} {f c : Addr} {fd : FuncData} {ps : List Str} (F : FunC K x q st f fd c)
    (h : ∀ (kV doc pm : Value) (an : Option Addr) (cdv ct : Value) (us : List Value), us.length = ps.length → bindArgs (PySem.W.fnOf x q (defArgs st) (defBody st) (defScope st) .none kV doc pm an cdv ct) ⟨us, []⟩ = pure (ps.zip us)) : Binds K fd ps [] := F.fun_.binds h
theorem FunC.bindsA {K : PySem.W.Frag} {x q : Str} {st : Stmt} {f c : Addr} {fd : FuncData} {ps : List Str} (F : FunC K x q st f fd c)
    (h : ∀ (kV doc pm : Value) (an : Option Addr) (cdv ct : Value) (us : List Value), us.length = ps.length → bindArgs (PySem.W.fnOf x q (defArgs st) (defBody st) (defScope st) .none kV doc pm an cdv ct) ⟨us, []⟩ = pure (ps.zip us)) (s : Shared) (us : List Value) (hl : us.length = ps.length) : BindsTo s fd ⟨us, []⟩ (ps.zip us) := by
  obtain ⟨oc, od, kV, doc, pm, an, ct, osl, rfl, l, k⟩ := F.ex
  exact .of_eq (h kV doc pm an _ ct us hl)
/-! ### properties, len, isinstance -/
def propA (K : PySem.W.Frag) (C : Addr) (f : Str) : Addr := match PySem.W.findIn K (.ref C) f with
  | some (some (.ref p)) => p
  | _ => 0
def getA (K : PySem.W.Frag) (C : Addr) (f : Str) : Addr := match PySem.W.recIn K (propA K C f) "property" with
  | some (.ref g :: _) => g
  | _ => 0
def propB (K : PySem.W.Frag) (C : Addr) (f : Str) : Bool := eqO (PySem.W.findIn K (.ref C) f) (some (some (.ref (propA K C f)))) && (eqO (PySem.W.specialIn K (.ref (propA K C f)) "__get__") (some (some (.builtin "property.__get__"))) && (decide (PySem.W.takesIn K (.ref (propA K C f)) = some true) && (match PySem.W.recIn K (propA K C f) "property" with
  | some (.ref g :: _) => decide (g = getA K C f)
  | _ => false)))
theorem propB_ok {K : PySem.W.Frag} {C : Addr} {f : Str} (h : propB K C f = true) : PropOf K C f (propA K C f) (getA K C f) := by
  obtain ⟨h1, h⟩ := ba h
  obtain ⟨h2, h⟩ := ba h
  obtain ⟨h3, h4⟩ := ba h
  refine ⟨eqO_ok h1, eqO_ok h2, of_decide_eq_true h3, ?_⟩
  split at h4
  · rename_i g rest e
    rw [of_decide_eq_true h4] at e
    exact ⟨rest, e⟩
  · cases h4
def clsIB (K : PySem.W.Frag) (C : Addr) : Bool := eqO (PySem.W.findIn K (.ref C) "__class__") (some (some (.builtin "object.__class__"))) && (eqO (PySem.W.specialIn K (.builtin "object.__class__") "__get__") (some (some (.builtin "getset_descriptor.__get__"))) && (decide (PySem.W.takesIn K (.builtin "object.__class__") = some true) && decide (PySem.W.mroIn K C (.type "object") = some true)))
theorem clsIB_ok {K : PySem.W.Frag} {C : Addr} (c : Cls K C) (h : clsIB K C = true) : ClsI K C := by
  obtain ⟨h1, h⟩ := ba h
  obtain ⟨h2, h⟩ := ba h
  obtain ⟨h3, h4⟩ := ba h
  exact ⟨c, eqO_ok h1, eqO_ok h2, of_decide_eq_true h3, of_decide_eq_true h4⟩
def isiB (K : PySem.W.Frag) (ca : Nat → Addr) (u : Value) (k : Isi) : Bool := decide (PySem.W.kitOne K (.type "NoneType") u = some k.n) && (decide (PySem.W.kitOne K (.type "bool") u = some k.b) && (decide (PySem.W.kitOne K (.type "int") u = some k.i) && (decide (PySem.W.kitOne K (.type "str") u = some k.s) && (decide (PySem.W.kitOne K (.type "tuple") u = some k.t) && (decide (PySem.W.kitOne K (.type "list") u = some k.l) && k.o.all fun p => decide (PySem.W.kitOne K (.ref (ca p.1)) u = some p.2))))))
theorem lookup_in {c : Nat} {b : Bool} : ∀ {l : List (Nat × Bool)}, l.lookup c = some b → (c, b) ∈ l
  | [], h => by cases h
  | (x, y) :: r, h => by
    have h2 : (match c == x with | true => some y | false => r.lookup c) = some b := h
    cases q : (c == x) with
    | true =>
      rw [q] at h2
      have e : y = b := Option.some.inj h2
      rw [beq_iff_eq.mp q, e]
      exact List.mem_cons_self ..
    | false =>
      rw [q] at h2
      exact List.mem_cons_of_mem _ (lookup_in h2)
theorem isiB_ok {K : PySem.W.Frag} {T : Tab} {u : Value} {k : Isi} (cl : ∀ p ∈ k.o, ClsI K (T.ca p.1)) (h : isiB K T.ca u k = true) : IsiOk K T u k := by
  obtain ⟨h1, h⟩ := ba h
  obtain ⟨h2, h⟩ := ba h
  obtain ⟨h3, h⟩ := ba h
  obtain ⟨h4, h⟩ := ba h
  obtain ⟨h5, h⟩ := ba h
  obtain ⟨h6, h7⟩ := ba h
  refine ⟨of_decide_eq_true h1, of_decide_eq_true h2, of_decide_eq_true h3, of_decide_eq_true h4, of_decide_eq_true h5, of_decide_eq_true h6, fun c b hb => ?_⟩
  have hm := lookup_in hb
  exact ⟨cl _ hm, of_decide_eq_true (List.all_eq_true.mp h7 _ hm)⟩
/-! ### the Hook -/
abbrev AlY : Type := List FnW × Bool
def obsYK (fa : List Fa) (fn : List DefY) (ex : PySem.W.Frag → Bool) (tb : Bool) (K : PySem.W.Frag) : AlY := (fn.map (fnY K), (fa.all fun f => f.ok K) && ((fn.all fun d => d.ok K) && (ex K && tb)))
def obsY (n : Nat) (fa : List Fa) (fn : List DefY) (tf : List Defn) (ex : PySem.W.Frag → Bool) (g : Addr → Option Obj) : AlY := obsYK fa fn ex (tabsB g tf (frT g (asD g n))) (frT g (asD g n))
def valY (fn : List DefY) : AlY := (fn.map DefY.val, true)
structure SaysY (fa : List Fa) (fn : List DefY) (tf : List Defn) (ex : PySem.W.Frag → Bool) (h : Heap) (K : PySem.W.Frag) : Prop where
  fact : ∀ f ∈ fa, f.ok K = true
  def_ : ∀ d ∈ fn, FunC K d.name d.qual d.st (d.adr K) (fdY K (d.adr K)) (codeY K (d.adr K))
  more : ex K = true
  hd : ∀ p ∈ tf, PySem.W.codeHdIn K (cT K p).1 (cT K p).2 = true
  out : ∀ p ∈ tf, K.lookup (cT K p).2 = none
  empty : ∀ p ∈ tf, h.get? (cT K p).2 = some { cls := .none, data := .fields #[] }
theorem saysY_of {n : Nat} {fa : List Fa} {fn : List DefY} {tf : List Defn} {ex : PySem.W.Frag → Bool} {h : Heap} (e : obsY n fa fn tf ex h.get? = valY fn) : SaysY fa fn tf ex h (frT h.get? (asD h.get? n)) := by
  have e1 : fn.map (fnY (frT h.get? (asD h.get? n))) = fn.map DefY.val := congrArg (fun z : AlY => z.1) e
  have e2 := congrArg (fun z : AlY => z.2) e
  obtain ⟨a1, a2⟩ := ba e2
  obtain ⟨a3, a4⟩ := ba a2
  obtain ⟨a5, a6⟩ := ba a4
  have key : ∀ p ∈ tf, PySem.W.codeHdIn (frT h.get? (asD h.get? n)) (cT (frT h.get? (asD h.get? n)) p).1 (cT (frT h.get? (asD h.get? n)) p).2 = true ∧ ∃ o, h.get? (cT (frT h.get? (asD h.get? n)) p).2 = some o ∧ emptyTab o = true := fun p hp => by
    obtain ⟨h3, h4⟩ := ba (List.all_eq_true.mp a6 p hp)
    refine ⟨h3, ?_⟩
    rcases q : h.get? (cT (frT h.get? (asD h.get? n)) p).2 with _ | o
    · rw [q] at h4; cases h4
    · rw [q] at h4; exact ⟨o, rfl, h4⟩
  refine ⟨List.all_eq_true.mp a1, fun d hd => ?_, a5, fun p hp => (key p hp).1, fun p hp => ?_, fun p hp => ?_⟩
  · obtain ⟨i, hi⟩ := List.mem_iff_getElem?.mp hd
    have e3 : (fn.map (fnY (frT h.get? (asD h.get? n))))[i]? = (fn.map DefY.val)[i]? := by rw [e1]
    rw [List.getElem?_map, List.getElem?_map, hi] at e3
    exact DefY.funC (Option.some.inj e3) (List.all_eq_true.mp a3 d hd)
  · obtain ⟨_, o, q, z⟩ := key p hp
    exact frT_none q z
  · obtain ⟨_, o, q, z⟩ := key p hp
    rw [q, emptyTab_eq z]
def hookY (n : Nat) (fa : List Fa) (fn : List DefY) (tf : List Defn) (ex : PySem.W.Frag → Bool) : PySem.W.Hook where
  α := AlY
  obs := fun s => obsY n fa fn tf ex s.heap.get?
  val := fun _ => valY fn
  says := fun _ h => ∃ K : PySem.W.Frag, K.In h ∧ SaysY fa fn tf ex h K
  of := fun _ _ e => ⟨_, frT_in, saysY_of e⟩
  keeps := fun _ _ _ ⟨K, hK, c⟩ k => ⟨K, PySem.W.Frag.In.keeps hK k, ⟨c.fact, c.def_, c.more, c.hd, c.out, fun p hp => k _ _ (c.empty p hp)⟩⟩
theorem obsY_eq {n : Nat} {fa : List Fa} {fn : List DefY} {tf : List Defn} {ex : PySem.W.Frag → Bool} {g : Addr → Option Obj} {s : Shared} (h : ∀ a, g a = s.heap.get? a) : obsY n fa fn tf ex g = (hookY n fa fn tf ex).obs s := by
  rw [show g = s.heap.get? from funext h] <;> rfl
/-! ### from the facts to what the derivations ask -/
theorem fldOk_of {K : PySem.W.Frag} {T : Dt.Tab} {tbl : List (Nat × Nat)} {f : Str} (h : ∀ p ∈ tbl, ClsOk K T p.1 ∧ (T.fl p.1)[p.2]? = some f) : FldOk K T tbl f := fun c k hk => by
  have hm : (c, k) ∈ tbl := by
    clear h
    induction tbl with
    | nil => cases hk
    | cons p r ih =>
      obtain ⟨x, y⟩ := p
      have h2 : (match c == x with | true => some y | false => r.lookup c) = some k := hk
      cases q : (c == x) with
      | true =>
        rw [q] at h2
        have e : y = k := Option.some.inj h2
        rw [beq_iff_eq.mp q, e]
        exact List.mem_cons_self ..
      | false =>
        rw [q] at h2
        exact List.mem_cons_of_mem _ (ih h2)
  exact h _ hm
/-- the law's promise at the script -/
theorem law_sp {K : PySem.W.Frag} {T : Dt.Tab} {f : Fm} {H : Hp} {a : Addr} {ns : List Int} {cs : List Cell} {E : XK} (hT : LamX.Tabs T.tb H) (hS : SqL K H a (ns.map V.int)) (e : f [.fro (.scr ns)] = .ok (.fro (.bl true), cs)) : SpF K T f [.ref a] H (fun v _ => v = .bl true) E := by
  obtain ⟨S, s1, s2, s3⟩ : ∃ S : Hp, Same S H ∧ NT S ∧ SqL K S a (ns.map V.int) := by
    rcases hS with h | h
    · refine ⟨fun b => if b = a then H a else none, fun b o q => ?_, fun b ps q => ?_, ?_⟩
      · by_cases hb : b = a
        · subst hb; simpa using q
        · simp [hb] at q
      · by_cases hb : b = a
        · subst hb
          have q : H b = some (.tbl ps) := by simpa using q
          rcases h with h | ⟨o, h⟩ <;> (rw [q] at h; cases h)
        · simp [hb] at q
      · rcases h with h | ⟨o, h⟩
        · exact .inl (.inl (by simpa using h))
        · exact .inl (.inr ⟨o, by simpa using h⟩)
    · exact ⟨fun _ => none, fun b o q => (by cases q), fun b ps q => (by cases q), .inr h⟩
  refine ⟨fun _ => none, S, _, _, _, ⟨s1, fun b o q => (by cases q), fun b o q => (by cases q), s2, fun b ps q => (by cases q), hT, rfl, fun i c hc => ?_, fun i j b ci cj hi hj mi mj ei ej => ?_⟩, e, rfl, fun S' H' v s' R' rv => ?_⟩
  · match i, hc with
    | 0, hc =>
      cases hc
      exact ⟨.ref a, rfl, .scr s3⟩
    | i + 1, hc => simp at hc
  · match i, hi with
    | 0, hi => cases hi; cases mi
    | i + 1, hi => simp at hi
  · cases (show DR K T S' v (.bl true) from rv)
    rfl
end Dt
end

section
set_option Elab.async false
set_option linter.all false
set_option maxRecDepth 100000
set_option maxHeartbeats 4000000
set_option autoImplicit false
namespace Dt
open PySem PySem.Spec PyProof.Rows L2
def top (i : Nat) : Stmt := PySem.Challenge.pw_shutroads_k01_whole_walks.main.body.getD i (.Pass ⟨0, 0, 0, 0⟩)
structure Ad where
  a : Nat → Addr
  d : Nat → FuncData
  c : Nat → Addr
  p : Nat → Addr
  tc : Addr
  tp : Addr
def flds : Nat → List Str
  | 0 => ["_places", "_roads", "_ends", "_most"]
  | _ => []
def tab (A : Ad) : Tab := ⟨A.c, flds, [(A.tp, (("_law_parts" : Str) ++ ".<locals>.") ++ "<lambda>")]⟩
theorem tab_one (A : Ad) : ∀ p ∈ (tab A).tb, p.1 = A.tp → p.2 = (("_law_parts" : Str) ++ ".<locals>.") ++ "<lambda>" := fun p hp _ => by
  rw [List.mem_singleton.mp hp]
abbrev st__law_cell_at : Stmt := top 46
abbrev st__law_map : Stmt := top 48
abbrev st_is_integer : Stmt := top 13
abbrev st_is_within : Stmt := top 14
abbrev st__is_triple : Stmt := top 16
abbrev st_ascends : Stmt := top 15
abbrev st_are_triples : Stmt := top 17
abbrev st_are_ends : Stmt := top 18
abbrev st_Map___init__ : Stmt := inClass (top 12) 0
abbrev st_Map_most : Stmt := inClass (top 12) 4
abbrev st_Map_ends : Stmt := inClass (top 12) 3
abbrev st_Map_roads : Stmt := inClass (top 12) 2
abbrev st_Map_places : Stmt := inClass (top 12) 1
abbrev st_Map___len__ : Stmt := inClass (top 12) 5
abbrev st__law_parts : Stmt := top 49
abbrev st_check_map : Stmt := top 22
abbrev st_small_sets : Stmt := top 26
abbrev st_worlds : Stmt := top 27
abbrev st_roads_at : Stmt := top 24
abbrev st__unknown_at : Stmt := top 36
abbrev st__state_at : Stmt := top 37
abbrev st__arrivals : Stmt := top 38
abbrev st_first_states : Stmt := top 39
abbrev st__law_at : Stmt := top 50
abbrev st__law_seen : Stmt := top 52
abbrev st__law_first : Stmt := top 53
abbrev st_is_road : Stmt := top 19
abbrev st_are_roads : Stmt := top 20
abbrev st_is_world : Stmt := top 21
abbrev st_check_world : Stmt := top 23
abbrev st__lower : Stmt := top 28
abbrev st_least_sums : Stmt := top 30
abbrev st_road_lengths : Stmt := top 29
abbrev st_least_lengths : Stmt := top 31
abbrev st_open_length : Stmt := top 32
abbrev st__law_far : Stmt := top 55
abbrev st__law_pick : Stmt := top 47
abbrev st_is_state : Stmt := top 34
abbrev st_check_state : Stmt := top 35
abbrev st_open_roads : Stmt := top 40
abbrev st_ways : Stmt := top 41
abbrev st__law_end : Stmt := top 51
abbrev st_is_way : Stmt := top 42
abbrev st_other_end : Stmt := top 25
abbrev st_states_after : Stmt := top 43
abbrev st_results : Stmt := top 44
abbrev st_law : Stmt := top 58
def isi_int : Isi := ⟨false, true, true, false, false, false, [(0, false)]⟩
def isi_bool : Isi := ⟨false, true, false, false, false, false, [(0, false)]⟩
def isi_tuple : Isi := ⟨false, false, false, false, true, false, [(0, false)]⟩
def isi_list : Isi := ⟨false, false, false, false, false, true, [(0, false)]⟩
def isi_Map : Isi := ⟨false, false, false, false, false, false, [(0, true)]⟩
structure Tx (K : PySem.W.Frag) (mg : Str → Option Value) (A : Ad) : Prop where
  n_len : mg "len" = none
  n_int : mg "int" = none
  f0 : Fun K "_law_cell_at" "_law_cell_at" st__law_cell_at (A.a 0) (A.d 0)
  b0 : Binds K (A.d 0) ["_law_script", "_law_k"] []
  g0 : mg "_law_cell_at" = some (.ref (A.a 0))
  n_range : mg "range" = none
  n_max : mg "max" = none
  n_min : mg "min" = none
  n_sorted : mg "sorted" = none
  n_set : mg "set" = none
  n_tuple : mg "tuple" = none
  f1 : Fun K "_law_map" "_law_map" st__law_map (A.a 1) (A.d 1)
  b1 : Binds K (A.d 1) ["_law_script", "_law_at_here", "_law_most_places", "_law_most_roads"] []
  g1 : mg "_law_map" = some (.ref (A.a 1))
  i_int : IsiOk K (tab A) (.type "int") isi_int
  n_isinstance : mg "isinstance" = none
  i_bool : IsiOk K (tab A) (.type "bool") isi_bool
  n_bool : mg "bool" = none
  f2 : Fun K "is_integer" "is_integer" st_is_integer (A.a 2) (A.d 2)
  b2 : Binds K (A.d 2) ["value"] []
  g2 : mg "is_integer" = some (.ref (A.a 2))
  f3 : Fun K "is_within" "is_within" st_is_within (A.a 3) (A.d 3)
  b3 : Binds K (A.d 3) ["value", "low", "high"] []
  g3 : mg "is_within" = some (.ref (A.a 3))
  c_MOST_PLACES : ∃ t, mg "MOST_PLACES" = some (.int 6 t)
  c_LEAST_PLACES : ∃ t, mg "LEAST_PLACES" = some (.int 2 t)
  i_tuple : IsiOk K (tab A) (.type "tuple") isi_tuple
  c_MOST_ROADS : ∃ t, mg "MOST_ROADS" = some (.int 8 t)
  c_LONGEST : ∃ t, mg "LONGEST" = some (.int 9 t)
  f4 : Fun K "_is_triple" "_is_triple" st__is_triple (A.a 4) (A.d 4)
  b4 : Binds K (A.d 4) ["places", "triple"] []
  g4 : mg "_is_triple" = some (.ref (A.a 4))
  n_all : mg "all" = none
  n_list : mg "list" = none
  f5 : Fun K "ascends" "ascends" st_ascends (A.a 5) (A.d 5)
  b5 : Binds K (A.d 5) ["items"] []
  g5 : mg "ascends" = some (.ref (A.a 5))
  f6 : Fun K "are_triples" "are_triples" st_are_triples (A.a 6) (A.d 6)
  b6 : Binds K (A.d 6) ["places", "roads"] []
  g6 : mg "are_triples" = some (.ref (A.a 6))
  f7 : Fun K "are_ends" "are_ends" st_are_ends (A.a 7) (A.d 7)
  b7 : Binds K (A.d 7) ["places", "ends"] []
  g7 : mg "are_ends" = some (.ref (A.a 7))
  c_MOST_SHUT : ∃ t, mg "MOST_SHUT" = some (.int 3 t)
  t__places : FldOk K (tab A) [(0, 0)] "_places"
  t__roads : FldOk K (tab A) [(0, 1)] "_roads"
  t__ends : FldOk K (tab A) [(0, 2)] "_ends"
  t__most : FldOk K (tab A) [(0, 3)] "_most"
  f8 : Fun K "__init__" "Map.__init__" st_Map___init__ (A.a 8) (A.d 8)
  b8 : Binds K (A.d 8) ["self", "places", "roads", "ends", "most"] []
  mk0 : Mk K (A.c 0) (A.a 8)
  gc0 : mg "Map" = some (.ref (A.c 0))
  f9 : Fun K "most" "Map.most" st_Map_most (A.a 9) (A.d 9)
  b9 : Binds K (A.d 9) ["self"] []
  cl0 : Cls K (A.c 0)
  p9 : PropOf K (A.c 0) "most" (A.p 9) (A.a 9)
  f10 : Fun K "ends" "Map.ends" st_Map_ends (A.a 10) (A.d 10)
  b10 : Binds K (A.d 10) ["self"] []
  p10 : PropOf K (A.c 0) "ends" (A.p 10) (A.a 10)
  f11 : Fun K "roads" "Map.roads" st_Map_roads (A.a 11) (A.d 11)
  b11 : Binds K (A.d 11) ["self"] []
  p11 : PropOf K (A.c 0) "roads" (A.p 11) (A.a 11)
  f12 : Fun K "places" "Map.places" st_Map_places (A.a 12) (A.d 12)
  b12 : Binds K (A.d 12) ["self"] []
  p12 : PropOf K (A.c 0) "places" (A.p 12) (A.a 12)
  f13 : Fun K "__len__" "Map.__len__" st_Map___len__ (A.a 13) (A.d 13)
  b13 : Binds K (A.d 13) ["self"] []
  ln0 : PySem.W.findIn K (.ref (A.c 0)) "__len__" = some (some (.ref (A.a 13)))
  lf0 : PySem.W.isFn K (.ref (A.a 13)) = true
  f14 : FunC K "_law_parts" "_law_parts" st__law_parts (A.a 14) (A.d 14) A.tc
  b14 : Binds K (A.d 14) ["_law_roads", "_law_most"] []
  g14 : mg "_law_parts" = some (.ref (A.a 14))
  i_Map : IsiOk K (tab A) (.ref (A.c 0)) isi_Map
  f15 : Fun K "check_map" "check_map" st_check_map (A.a 15) (A.d 15)
  b15 : Binds K (A.d 15) ["chart"] []
  g15 : mg "check_map" = some (.ref (A.a 15))
  f16 : Fun K "small_sets" "small_sets" st_small_sets (A.a 16) (A.d 16)
  b16 : Binds K (A.d 16) ["roads", "most"] []
  g16 : mg "small_sets" = some (.ref (A.a 16))
  f17 : Fun K "worlds" "worlds" st_worlds (A.a 17) (A.d 17)
  b17 : Binds K (A.d 17) ["chart"] []
  g17 : mg "worlds" = some (.ref (A.a 17))
  n_enumerate : mg "enumerate" = none
  f18 : Fun K "roads_at" "roads_at" st_roads_at (A.a 18) (A.d 18)
  b18 : Binds K (A.d 18) ["chart", "place"] []
  g18 : mg "roads_at" = some (.ref (A.a 18))
  f19 : Fun K "_unknown_at" "_unknown_at" st__unknown_at (A.a 19) (A.d 19)
  b19 : Binds K (A.d 19) ["chart", "place", "clear", "shut"] []
  g19 : mg "_unknown_at" = some (.ref (A.a 19))
  f20 : Fun K "_state_at" "_state_at" st__state_at (A.a 20) (A.d 20)
  b20 : Binds K (A.d 20) ["place", "clear", "shut", "unknown", "closed"] []
  g20 : mg "_state_at" = some (.ref (A.a 20))
  f21 : Fun K "_arrivals" "_arrivals" st__arrivals (A.a 21) (A.d 21)
  b21 : Binds K (A.d 21) ["chart", "place", "clear", "shut"] []
  g21 : mg "_arrivals" = some (.ref (A.a 21))
  f22 : Fun K "first_states" "first_states" st_first_states (A.a 22) (A.d 22)
  b22 : Binds K (A.d 22) ["chart"] []
  g22 : mg "first_states" = some (.ref (A.a 22))
  f23 : Fun K "_law_at" "_law_at" st__law_at (A.a 23) (A.d 23)
  b23 : Binds K (A.d 23) ["_law_plain", "_law_place"] []
  g23 : mg "_law_at" = some (.ref (A.a 23))
  f24 : Fun K "_law_seen" "_law_seen" st__law_seen (A.a 24) (A.d 24)
  b24 : Binds K (A.d 24) ["_law_plain", "_law_place", "_law_free", "_law_shut"] []
  g24 : mg "_law_seen" = some (.ref (A.a 24))
  f25 : Fun K "_law_first" "_law_first" st__law_first (A.a 25) (A.d 25)
  b25 : Binds K (A.d 25) ["_law_plain"] []
  g25 : mg "_law_first" = some (.ref (A.a 25))
  f26 : Fun K "is_road" "is_road" st_is_road (A.a 26) (A.d 26)
  b26 : Binds K (A.d 26) ["chart", "road"] []
  g26 : mg "is_road" = some (.ref (A.a 26))
  f27 : Fun K "are_roads" "are_roads" st_are_roads (A.a 27) (A.d 27)
  b27 : Binds K (A.d 27) ["chart", "some"] []
  g27 : mg "are_roads" = some (.ref (A.a 27))
  f28 : Fun K "is_world" "is_world" st_is_world (A.a 28) (A.d 28)
  b28 : Binds K (A.d 28) ["chart", "world"] []
  g28 : mg "is_world" = some (.ref (A.a 28))
  f29 : Fun K "check_world" "check_world" st_check_world (A.a 29) (A.d 29)
  b29 : Binds K (A.d 29) ["chart", "world"] []
  g29 : mg "check_world" = some (.ref (A.a 29))
  f30 : Fun K "_lower" "_lower" st__lower (A.a 30) (A.d 30)
  b30 : Binds K (A.d 30) ["sums", "start", "end", "price"] []
  g30 : mg "_lower" = some (.ref (A.a 30))
  f31 : Fun K "least_sums" "least_sums" st_least_sums (A.a 31) (A.d 31)
  b31 : Binds K (A.d 31) ["chart", "begin", "shut", "prices"] []
  g31 : mg "least_sums" = some (.ref (A.a 31))
  f32 : Fun K "road_lengths" "road_lengths" st_road_lengths (A.a 32) (A.d 32)
  b32 : Binds K (A.d 32) ["chart"] []
  g32 : mg "road_lengths" = some (.ref (A.a 32))
  f33 : Fun K "least_lengths" "least_lengths" st_least_lengths (A.a 33) (A.d 33)
  b33 : Binds K (A.d 33) ["chart", "begin", "shut"] []
  g33 : mg "least_lengths" = some (.ref (A.a 33))
  f34 : Fun K "open_length" "open_length" st_open_length (A.a 34) (A.d 34)
  b34 : Binds K (A.d 34) ["chart", "world"] []
  g34 : mg "open_length" = some (.ref (A.a 34))
  f35 : Fun K "_law_far" "_law_far" st__law_far (A.a 35) (A.d 35)
  b35 : Binds K (A.d 35) ["_law_plain", "_law_shut", "_law_place"] []
  g35 : mg "_law_far" = some (.ref (A.a 35))
  f36 : Fun K "_law_pick" "_law_pick" st__law_pick (A.a 36) (A.d 36)
  b36 : Binds K (A.d 36) ["_law_script", "_law_at_here", "_law_row"] []
  g36 : mg "_law_pick" = some (.ref (A.a 36))
  n_any : mg "any" = none
  f37 : Fun K "is_state" "is_state" st_is_state (A.a 37) (A.d 37)
  b37 : Binds K (A.d 37) ["chart", "state"] []
  g37 : mg "is_state" = some (.ref (A.a 37))
  f38 : Fun K "check_state" "check_state" st_check_state (A.a 38) (A.d 38)
  b38 : Binds K (A.d 38) ["chart", "state"] []
  g38 : mg "check_state" = some (.ref (A.a 38))
  f39 : Fun K "open_roads" "open_roads" st_open_roads (A.a 39) (A.d 39)
  b39 : Binds K (A.d 39) ["chart", "state"] []
  g39 : mg "open_roads" = some (.ref (A.a 39))
  f40 : Fun K "ways" "ways" st_ways (A.a 40) (A.d 40)
  b40 : Binds K (A.d 40) ["chart", "state"] []
  g40 : mg "ways" = some (.ref (A.a 40))
  f41 : Fun K "_law_end" "_law_end" st__law_end (A.a 41) (A.d 41)
  b41 : Binds K (A.d 41) ["_law_plain", "_law_road", "_law_place"] []
  g41 : mg "_law_end" = some (.ref (A.a 41))
  f42 : Fun K "is_way" "is_way" st_is_way (A.a 42) (A.d 42)
  b42 : Binds K (A.d 42) ["chart", "state", "road"] []
  g42 : mg "is_way" = some (.ref (A.a 42))
  f43 : Fun K "other_end" "other_end" st_other_end (A.a 43) (A.d 43)
  b43 : Binds K (A.d 43) ["chart", "road", "place"] []
  g43 : mg "other_end" = some (.ref (A.a 43))
  f44 : Fun K "states_after" "states_after" st_states_after (A.a 44) (A.d 44)
  b44 : Binds K (A.d 44) ["chart", "state", "road"] []
  g44 : mg "states_after" = some (.ref (A.a 44))
  f45 : Fun K "results" "results" st_results (A.a 45) (A.d 45)
  b45 : Binds K (A.d 45) ["chart", "state", "road"] []
  g45 : mg "results" = some (.ref (A.a 45))
  f46 : Fun K "law" "law" st_law (A.a 46) (A.d 46)
  b46 : Binds K (A.d 46) ["_law_script"] []
  g46 : mg "law" = some (.ref (A.a 46))
section
variable {P : Program} {w : World} {K : PySem.W.Frag} {mg : Str → Option Value} {base : Heap} {A : Ad}
def F__law_cell_at : Fm := runF 2 0 (sCons (sIf (bB (e2 oLt (eUse 1) (eCB (c1 oLen) (aCons (eUse 0) (aNil))))) (sRet (e2 oIx (eUse 0) (eUse 1))) (sNil)) (sCons (sIf (bB (e2 oEq (eUse 0) (eLst (aNil)))) (sRet (e2 oMul (eUse 1) (eC (.int 48271)))) (sNil)) (sRet (e2 oMod (eCB (c1 oIntOf) (aCons (e2 oMul (e2 oCat (e2 oIx (eUse 0) (e2 oMod (eCB (c1 oIntOf) (aCons (eUse 1) (aNil))) (eCB (c1 oLen) (aCons (eUse 0) (aNil))))) (eUse 1)) (eC (.int 48271))) (aNil))) (eC (.int 2147483647))))))
theorem sc__law_cell_at : FnScope ["_law_script", "_law_k"] ["_law_script", "_law_k"] (defScope st__law_cell_at) := ⟨rfl, rfl, rfl, by decide +kernel, rfl, by decide +kernel, by decide +kernel⟩
theorem ok__law_cell_at (X : Tx K mg A) (TB : LamX.TabB base mg A.tc A.tp) : FnOk P w K mg base CX0 1 (A.a 0) (A.d 0) ["_law_script", "_law_k"] (SpF K (tab A) F__law_cell_at) := def_ok (n := 2) (m := 0) X.f0 sc__law_cell_at rfl rfl fun cdv A' outer s H E hr =>
  (ss_cons (ss_if (tt_lt (ee_use (pv 1)) (ee_len rfl X.n_len (aa_cons (ee_use (pv 0)) aa_nil))) (ss_one (ss_ret (ee_sub_ (ee_use (pv 0)) (ee_use (pv 1)) (fun _ _ => rfl)))) ss_nil)
    (ss_cons (ss_if (tt_eq hr.units (ee_use (pv 0)) (ee_lst aa_nil)) (ss_one (ss_ret (ee_mul (ee_use (pv 1)) ee_int))) ss_nil)
    (ss_one (ss_ret (ee_mod (ee_int_ rfl X.n_int (aa_cons (ee_mul (ee_cat (ee_sub_ (ee_use (pv 0)) (ee_mod (ee_int_ rfl X.n_int (aa_cons (ee_use (pv 1)) aa_nil)) (ee_len rfl X.n_len (aa_cons (ee_use (pv 0)) aa_nil))) (fun _ _ => rfl)) (ee_use (pv 1))) ee_int) aa_nil)) ee_int)))))
def F__law_map : Fm := runF 4 7 (sCons (sPar 7 8 (e2 oCat (eC (.int 2)) (e2 oMod (eCB (c1 oIntOf) (aCons (eCall F__law_cell_at (aCons (eVar 0) (aCons (eVar 1) (aNil)))) (aNil))) (e2 oSub (eUse 2) (eC (.int 1))))) (eLst (aNil))) (sCons (sFor (gN 4) (iRange1 (aCons (e2 oCat (eC (.int 1)) (e2 oMod (eCB (c1 oIntOf) (aCons (eCall F__law_cell_at (aCons (eVar 0) (aCons (e2 oCat (eUse 1) (eC (.int 1))) (aNil)))) (aNil))) (eUse 3))) (aNil))) (sCons (sSet 9 (e2 oMod (eCB (c1 oIntOf) (aCons (eCall F__law_cell_at (aCons (eVar 0) (aCons (e2 oCat (e2 oCat (eUse 1) (eC (.int 4))) (e2 oMul (eC (.int 3)) (eUse 4))) (aNil)))) (aNil))) (eUse 7))) (sCons (sSet 10 (e2 oMod (eCB (c1 oIntOf) (aCons (e2 oCat (e2 oCat (eUse 9) (eC (.int 1))) (e2 oMod (eCB (c1 oIntOf) (aCons (eCall F__law_cell_at (aCons (eVar 0) (aCons (e2 oCat (e2 oCat (eUse 1) (eC (.int 5))) (e2 oMul (eC (.int 3)) (eUse 4))) (aNil)))) (aNil))) (e2 oSub (eUse 7) (eC (.int 1))))) (aNil))) (eUse 7))) (sApp 8 (eTup (aCons (eCB (c2 oMin2) (aCons (eUse 9) (aCons (eUse 10) (aNil)))) (aCons (eCB (c2 oMax2) (aCons (eUse 9) (aCons (eUse 10) (aNil)))) (aCons (e2 oCat (eC (.int 1)) (e2 oMod (eCB (c1 oIntOf) (aCons (eCall F__law_cell_at (aCons (eVar 0) (aCons (e2 oCat (e2 oCat (eUse 1) (eC (.int 6))) (e2 oMul (eC (.int 3)) (eUse 4))) (aNil)))) (aNil))) (eC (.int 9)))) (aNil))))))))) (sCons (sSet 5 (e2 oMod (eCB (c1 oIntOf) (aCons (eCall F__law_cell_at (aCons (eVar 0) (aCons (e2 oCat (eUse 1) (eC (.int 2))) (aNil)))) (aNil))) (eUse 7))) (sCons (sSet 6 (e2 oMod (eCB (c1 oIntOf) (aCons (e2 oCat (e2 oCat (eUse 5) (eC (.int 1))) (e2 oMod (eCB (c1 oIntOf) (aCons (eCall F__law_cell_at (aCons (eVar 0) (aCons (e2 oCat (eUse 1) (eC (.int 3))) (aNil)))) (aNil))) (e2 oSub (eUse 7) (eC (.int 1))))) (aNil))) (eUse 7))) (sRet (eTup (aCons (eVar 7) (aCons (eCB (c1 oTupOf) (aCons (e1 oSSet (eUse 8)) (aNil))) (aCons (eTup (aCons (eVar 5) (aCons (eVar 6) (aNil)))) (aCons (e2 oMod (eCB (c1 oIntOf) (aCons (eCall F__law_cell_at (aCons (eVar 0) (aCons (e2 oCat (eUse 1) (eC (.int 30))) (aNil)))) (aNil))) (eC (.int 3))) (aNil)))))))))))
theorem sc__law_map : FnScope ["_law_script", "_law_at_here", "_law_most_places", "_law_most_roads", "_law_place", "_law_begin", "_law_goal", "_law_places", "_law_roads", "_law_one", "_law_other"] ["_law_script", "_law_at_here", "_law_most_places", "_law_most_roads"] (defScope st__law_map) := ⟨rfl, rfl, rfl, by decide +kernel, rfl, by decide +kernel, by decide +kernel⟩
theorem ok__law_map (X : Tx K mg A) (TB : LamX.TabB base mg A.tc A.tp) : FnOk P w K mg base CX0 2 (A.a 1) (A.d 1) ["_law_script", "_law_at_here", "_law_most_places", "_law_most_roads"] (SpF K (tab A) F__law_map) := def_ok (n := 4) (m := 7) X.f1 sc__law_map rfl rfl fun cdv A' outer s H E hr =>
  (ss_cons (ss_par (i := 7) (j := 8) rfl sc__law_map.nd rfl rfl (by decide) rfl rfl (ee_cat ee_int (ee_mod (ee_int_ rfl X.n_int (aa_cons (ee_call (ok__law_cell_at X TB) (hr.mono (by decide : 1 ≤ 1)) rfl X.g0 X.f0.kp X.b0 pass0 (aa_cons (ee_var (pv 0)) (aa_cons (ee_var (pv 1)) aa_nil))) aa_nil)) (ee_sub (ee_use (pv 2)) ee_int))) (ee_lst aa_nil))
    (ss_cons (ss_for PassesOwn.never rfl (ii_range1 rfl X.n_range (aa_cons (ee_cat ee_int (ee_mod (ee_int_ rfl X.n_int (aa_cons (ee_call (ok__law_cell_at X TB) (hr.mono (by decide : 1 ≤ 1)) rfl X.g0 X.f0.kp X.b0 pass0 (aa_cons (ee_var (pv 0)) (aa_cons (ee_cat (ee_use (pv 1)) ee_int) aa_nil))) aa_nil)) (ee_use (pv 3)))) aa_nil)) (gg_name (i := 4) sc__law_map.nd rfl (by first | exact Or.inl rfl | exact Or.inr rfl)) (ss_cons (ss_set (i := 9) sc__law_map.nd rfl (by first | exact Or.inl rfl | exact Or.inr rfl) (ee_mod (ee_int_ rfl X.n_int (aa_cons (ee_call (ok__law_cell_at X TB) (hr.mono (by decide : 1 ≤ 1)) rfl X.g0 X.f0.kp X.b0 pass0 (aa_cons (ee_var (pv 0)) (aa_cons (ee_cat (ee_cat (ee_use (pv 1)) ee_int) (ee_mul ee_int (ee_use (pv 4)))) aa_nil))) aa_nil)) (ee_use (pv 7))))
    (ss_cons (ss_set (i := 10) sc__law_map.nd rfl (by first | exact Or.inl rfl | exact Or.inr rfl) (ee_mod (ee_int_ rfl X.n_int (aa_cons (ee_cat (ee_cat (ee_use (pv 9)) ee_int) (ee_mod (ee_int_ rfl X.n_int (aa_cons (ee_call (ok__law_cell_at X TB) (hr.mono (by decide : 1 ≤ 1)) rfl X.g0 X.f0.kp X.b0 pass0 (aa_cons (ee_var (pv 0)) (aa_cons (ee_cat (ee_cat (ee_use (pv 1)) ee_int) (ee_mul ee_int (ee_use (pv 4)))) aa_nil))) aa_nil)) (ee_sub (ee_use (pv 7)) ee_int))) aa_nil)) (ee_use (pv 7))))
    (ss_one (ss_app (ps_expr (pe_bm PySem.F.plainAttrs_list PySem.F.slot_list_append PySem.F.type_list_append mt_append (pv 8) (pa_cons (ee_tup (aa_cons (ee_min2 rfl rfl X.n_min (aa_cons (ee_use (pv 9)) (aa_cons (ee_use (pv 10)) aa_nil))) (aa_cons (ee_max2 rfl rfl X.n_max (aa_cons (ee_use (pv 9)) (aa_cons (ee_use (pv 10)) aa_nil))) (aa_cons (ee_cat ee_int (ee_mod (ee_int_ rfl X.n_int (aa_cons (ee_call (ok__law_cell_at X TB) (hr.mono (by decide : 1 ≤ 1)) rfl X.g0 X.f0.kp X.b0 pass0 (aa_cons (ee_var (pv 0)) (aa_cons (ee_cat (ee_cat (ee_use (pv 1)) ee_int) (ee_mul ee_int (ee_use (pv 4)))) aa_nil))) aa_nil)) ee_int)) aa_nil)))) pa_nil))))))))
    (ss_cons (ss_set (i := 5) sc__law_map.nd rfl (by first | exact Or.inl rfl | exact Or.inr rfl) (ee_mod (ee_int_ rfl X.n_int (aa_cons (ee_call (ok__law_cell_at X TB) (hr.mono (by decide : 1 ≤ 1)) rfl X.g0 X.f0.kp X.b0 pass0 (aa_cons (ee_var (pv 0)) (aa_cons (ee_cat (ee_use (pv 1)) ee_int) aa_nil))) aa_nil)) (ee_use (pv 7))))
    (ss_cons (ss_set (i := 6) sc__law_map.nd rfl (by first | exact Or.inl rfl | exact Or.inr rfl) (ee_mod (ee_int_ rfl X.n_int (aa_cons (ee_cat (ee_cat (ee_use (pv 5)) ee_int) (ee_mod (ee_int_ rfl X.n_int (aa_cons (ee_call (ok__law_cell_at X TB) (hr.mono (by decide : 1 ≤ 1)) rfl X.g0 X.f0.kp X.b0 pass0 (aa_cons (ee_var (pv 0)) (aa_cons (ee_cat (ee_use (pv 1)) ee_int) aa_nil))) aa_nil)) (ee_sub (ee_use (pv 7)) ee_int))) aa_nil)) (ee_use (pv 7))))
    (ss_one (ss_ret (ee_tup (aa_cons (ee_var (pv 7)) (aa_cons (ee_tuple rfl X.n_tuple (aa_cons (ee_sset rfl hr.units rfl X.n_sorted rfl X.n_set (ee_use (pv 8))) aa_nil)) (aa_cons (ee_tup (aa_cons (ee_var (pv 5)) (aa_cons (ee_var (pv 6)) aa_nil))) (aa_cons (ee_mod (ee_int_ rfl X.n_int (aa_cons (ee_call (ok__law_cell_at X TB) (hr.mono (by decide : 1 ≤ 1)) rfl X.g0 X.f0.kp X.b0 pass0 (aa_cons (ee_var (pv 0)) (aa_cons (ee_cat (ee_use (pv 1)) ee_int) aa_nil))) aa_nil)) ee_int) aa_nil)))))))))))
def F_is_integer : Fm := runF 1 0 (sRet (eAnd (e1 (oIsi isi_int) (eUse 0)) (eNot (e1 (oIsi isi_bool) (eUse 0)))))
theorem sc_is_integer : FnScope ["value"] ["value"] (defScope st_is_integer) := ⟨rfl, rfl, rfl, by decide +kernel, rfl, by decide +kernel, by decide +kernel⟩
theorem ok_is_integer (X : Tx K mg A) (TB : LamX.TabB base mg A.tc A.tp) : FnOk P w K mg base CX0 1 (A.a 2) (A.d 2) ["value"] (SpF K (tab A) F_is_integer) := def_ok (n := 1) (m := 0) X.f2 sc_is_integer rfl rfl fun cdv A' outer s H E hr =>
  (ss_one (ss_ret (ee_and (ee_isi (.ty "int") X.i_int rfl X.n_isinstance (ee_use (pv 0)) (pe_bltn rfl X.n_int (by decide +kernel) rfl)) (ee_one (ee_not (ee_isi (.ty "bool") X.i_bool rfl X.n_isinstance (ee_use (pv 0)) (pe_bltn rfl X.n_bool (by decide +kernel) rfl)))))))
def F_is_within : Fm := runF 3 0 (sRet (eAnd (eCall F_is_integer (aCons (eVar 0) (aNil))) (eChain oLe oLe (eUse 1) (eUse 0) (eUse 2))))
theorem sc_is_within : FnScope ["value", "low", "high"] ["value", "low", "high"] (defScope st_is_within) := ⟨rfl, rfl, rfl, by decide +kernel, rfl, by decide +kernel, by decide +kernel⟩
theorem ok_is_within (X : Tx K mg A) (TB : LamX.TabB base mg A.tc A.tp) : FnOk P w K mg base CX0 2 (A.a 3) (A.d 3) ["value", "low", "high"] (SpF K (tab A) F_is_within) := def_ok (n := 3) (m := 0) X.f3 sc_is_within rfl rfl fun cdv A' outer s H E hr =>
  (ss_one (ss_ret (ee_and (ee_call (ok_is_integer X TB) (hr.mono (by decide : 1 ≤ 1)) rfl X.g2 X.f2.kp X.b2 pass0 (aa_cons (ee_var (pv 0)) aa_nil)) (ee_one (ee_lele (ee_use (pv 1)) (ee_use (pv 0)) (ee_use (pv 2)))))))
def F__is_triple : Fm := runF 2 3 (sCons (sIf (bOr (bNot (bB (e1 (oIsi isi_tuple) (eUse 1)))) (bB (e2 oNe (eCB (c1 oLen) (aCons (eUse 1) (aNil))) (eC (.int 3))))) (sRet (eC (.bl false))) (sNil)) (sCons (sAsg (gT 3 (gsCons (gN 2) (gsCons (gN 3) (gsCons (gN 4) (gsNil))))) (eVar 1)) (sRet (eAnd (eCall F_is_within (aCons (eVar 3) (aCons (eC (.int 1)) (aCons (e2 oSub (eUse 0) (eC (.int 1))) (aNil))))) (eAnd (eCall F_is_within (aCons (eVar 2) (aCons (eC (.int 0)) (aCons (e2 oSub (eUse 3) (eC (.int 1))) (aNil))))) (eCall F_is_within (aCons (eVar 4) (aCons (eC (.int 1)) (aCons (eC (.int 9)) (aNil))))))))))
theorem sc__is_triple : FnScope ["places", "triple", "first", "second", "length"] ["places", "triple"] (defScope st__is_triple) := ⟨rfl, rfl, rfl, by decide +kernel, rfl, by decide +kernel, by decide +kernel⟩
theorem ok__is_triple (X : Tx K mg A) (TB : LamX.TabB base mg A.tc A.tp) : FnOk P w K mg base CX0 3 (A.a 4) (A.d 4) ["places", "triple"] (SpF K (tab A) F__is_triple) := def_ok (n := 2) (m := 3) X.f4 sc__is_triple rfl rfl fun cdv A' outer s H E hr =>
  (ss_cons (ss_if (PW.pt (tw_or (tt_not (tt_B (ee_isi (.ty "tuple") X.i_tuple rfl X.n_isinstance (ee_use (pv 1)) (pe_bltn rfl X.n_tuple (by decide +kernel) rfl)))) (tw_or1 (tt_ne hr.units (ee_len rfl X.n_len (aa_cons (ee_use (pv 1)) aa_nil)) ee_int)))) (ss_one (ss_ret ee_bl)) ss_nil)
    (ss_cons (ss_asg (ee_var (pv 1)) (gg_tup rfl (ggs_cons (gg_name (i := 2) sc__is_triple.nd rfl (by first | exact Or.inl rfl | exact Or.inr rfl)) (ggs_cons (gg_name (i := 3) sc__is_triple.nd rfl (by first | exact Or.inl rfl | exact Or.inr rfl)) (ggs_cons (gg_name (i := 4) sc__is_triple.nd rfl (by first | exact Or.inl rfl | exact Or.inr rfl)) ggs_nil)))))
    (ss_one (ss_ret (ee_and (ee_call (ok_is_within X TB) (hr.mono (by decide : 2 ≤ 2)) rfl X.g3 X.f3.kp X.b3 pass0 (aa_cons (ee_var (pv 3)) (aa_cons ee_int (aa_cons (ee_sub (ee_use (pv 0)) ee_int) aa_nil)))) (ee_and (ee_call (ok_is_within X TB) (hr.mono (by decide : 2 ≤ 2)) rfl X.g3 X.f3.kp X.b3 pass0 (aa_cons (ee_var (pv 2)) (aa_cons ee_int (aa_cons (ee_sub (ee_use (pv 3)) ee_int) aa_nil)))) (ee_one (ee_call (ok_is_within X TB) (hr.mono (by decide : 2 ≤ 2)) rfl X.g3 X.f3.kp X.b3 pass0 (aa_cons (ee_var (pv 4)) (aa_cons ee_int (aa_cons (ee_gint rfl X.c_LONGEST) aa_nil)))))))))))
def F_ascends : Fm := runF 1 0 (sRet (e2 oEq (eCB (c1 oListOf) (aCons (eUse 0) (aNil))) (e1 oSSet (eUse 0))))
theorem sc_ascends : FnScope ["items"] ["items"] (defScope st_ascends) := ⟨rfl, rfl, rfl, by decide +kernel, rfl, by decide +kernel, by decide +kernel⟩
theorem ok_ascends (X : Tx K mg A) (TB : LamX.TabB base mg A.tc A.tp) : FnOk P w K mg base CX0 1 (A.a 5) (A.d 5) ["items"] (SpF K (tab A) F_ascends) := def_ok (n := 1) (m := 0) X.f5 sc_ascends rfl rfl fun cdv A' outer s H E hr =>
  (ss_one (ss_ret (ee_eq hr.units (ee_list rfl X.n_list (aa_cons (ee_use (pv 0)) aa_nil)) (ee_sset rfl hr.units rfl X.n_sorted rfl X.n_set (ee_use (pv 0))))))
def F_are_triples : Fm := runF 2 1 (sCons (sIf (bOr (bNot (bB (e1 (oIsi isi_tuple) (eUse 1)))) (bNot (bB (eChain oLe oLe (eC (.int 1)) (eCB (c1 oLen) (aCons (eUse 1) (aNil))) (eC (.int 8)))))) (sRet (eC (.bl false))) (sNil)) (sRet (eAnd (eCB (c1 oAll) (aCons (eLc (gN 2) [2] (iData (eVar 1)) (bYes) (eCall F__is_triple (aCons (eVar 0) (aCons (eVar 2) (aNil))))) (aNil))) (eCall F_ascends (aCons (eVar 1) (aNil))))))
theorem sc_are_triples : FnScope ["places", "roads", "triple"] ["places", "roads"] (defScope st_are_triples) := ⟨rfl, rfl, rfl, by decide +kernel, rfl, by decide +kernel, by decide +kernel⟩
theorem ok_are_triples (X : Tx K mg A) (TB : LamX.TabB base mg A.tc A.tp) : FnOk P w K mg base CX0 4 (A.a 6) (A.d 6) ["places", "roads"] (SpF K (tab A) F_are_triples) := def_ok (n := 2) (m := 1) X.f6 sc_are_triples rfl rfl fun cdv A' outer s H E hr =>
  (ss_cons (ss_if (PW.pt (tw_or (tt_not (tt_B (ee_isi (.ty "tuple") X.i_tuple rfl X.n_isinstance (ee_use (pv 1)) (pe_bltn rfl X.n_tuple (by decide +kernel) rfl)))) (tw_or1 (tt_not (tt_lele ee_int (ee_len rfl X.n_len (aa_cons (ee_use (pv 1)) aa_nil)) (ee_gint rfl X.c_MOST_ROADS)))))) (ss_one (ss_ret ee_bl)) ss_nil)
    (ss_one (ss_ret (ee_and (ee_all rfl rfl X.n_all (aa_cons (ee_lc (own := [("triple", 2)]) rfl sc_are_triples.nd (ii_data (ee_var (pv 1))) (by exact blkOk_by (N := ["places", "roads", "triple"]) (sc := defScope st_are_triples) (own := [("triple", 2)]) (by decide +kernel)) (fun _ _ _ _ _ => (gg_name (i := 2) sc_are_triples.nd rfl (by first | exact Or.inl rfl | exact Or.inr rfl))) (fun _ _ _ _ _ => ts_nil) (fun _ _ _ _ _ => (ee_call (ok__is_triple X TB) (hr.mono (by decide : 3 ≤ 3)) rfl X.g4 X.f4.kp X.b4 pass0 (aa_cons (ee_var (pv 0)) (aa_cons (ee_var (pv 2)) aa_nil))))) aa_nil)) (ee_one (ee_call (ok_ascends X TB) (hr.mono (by decide : 1 ≤ 3)) rfl X.g5 X.f5.kp X.b5 pass0 (aa_cons (ee_var (pv 1)) aa_nil)))))))
def F_are_ends : Fm := runF 2 1 (sCons (sIf (bOr (bNot (bB (e1 (oIsi isi_tuple) (eUse 1)))) (bB (e2 oNe (eCB (c1 oLen) (aCons (eUse 1) (aNil))) (eC (.int 2))))) (sRet (eC (.bl false))) (sNil)) (sRet (eAnd (eCB (c1 oAll) (aCons (eLc (gN 2) [2] (iData (eVar 1)) (bYes) (eCall F_is_within (aCons (eVar 2) (aCons (eC (.int 0)) (aCons (e2 oSub (eUse 0) (eC (.int 1))) (aNil)))))) (aNil))) (e2 oNe (e2 oIx (eUse 1) (eC (.int 0))) (e2 oIx (eUse 1) (eC (.int 1)))))))
theorem sc_are_ends : FnScope ["places", "ends", "place"] ["places", "ends"] (defScope st_are_ends) := ⟨rfl, rfl, rfl, by decide +kernel, rfl, by decide +kernel, by decide +kernel⟩
theorem ok_are_ends (X : Tx K mg A) (TB : LamX.TabB base mg A.tc A.tp) : FnOk P w K mg base CX0 3 (A.a 7) (A.d 7) ["places", "ends"] (SpF K (tab A) F_are_ends) := def_ok (n := 2) (m := 1) X.f7 sc_are_ends rfl rfl fun cdv A' outer s H E hr =>
  (ss_cons (ss_if (PW.pt (tw_or (tt_not (tt_B (ee_isi (.ty "tuple") X.i_tuple rfl X.n_isinstance (ee_use (pv 1)) (pe_bltn rfl X.n_tuple (by decide +kernel) rfl)))) (tw_or1 (tt_ne hr.units (ee_len rfl X.n_len (aa_cons (ee_use (pv 1)) aa_nil)) ee_int)))) (ss_one (ss_ret ee_bl)) ss_nil)
    (ss_one (ss_ret (ee_and (ee_all rfl rfl X.n_all (aa_cons (ee_lc (own := [("place", 2)]) rfl sc_are_ends.nd (ii_data (ee_var (pv 1))) (by exact blkOk_by (N := ["places", "ends", "place"]) (sc := defScope st_are_ends) (own := [("place", 2)]) (by decide +kernel)) (fun _ _ _ _ _ => (gg_name (i := 2) sc_are_ends.nd rfl (by first | exact Or.inl rfl | exact Or.inr rfl))) (fun _ _ _ _ _ => ts_nil) (fun _ _ _ _ _ => (ee_call (ok_is_within X TB) (hr.mono (by decide : 2 ≤ 2)) rfl X.g3 X.f3.kp X.b3 pass0 (aa_cons (ee_var (pv 2)) (aa_cons ee_int (aa_cons (ee_sub (ee_use (pv 0)) ee_int) aa_nil)))))) aa_nil)) (ee_one (ee_ne hr.units (ee_sub_ (ee_use (pv 1)) ee_int (fun _ _ => rfl)) (ee_sub_ (ee_use (pv 1)) ee_int (fun _ _ => rfl))))))))
def F_Map___init__ : Fm := runF 5 0 (sCons (sIf (bNot (bB (eCall F_is_within (aCons (eVar 1) (aCons (eC (.int 2)) (aCons (eC (.int 6)) (aNil))))))) (sBad) (sNil)) (sCons (sIf (bNot (bB (eCall F_are_triples (aCons (eVar 1) (aCons (eVar 2) (aNil)))))) (sBad) (sNil)) (sCons (sIf (bNot (bB (eCall F_are_ends (aCons (eVar 1) (aCons (eVar 3) (aNil)))))) (sBad) (sNil)) (sCons (sIf (bNot (bB (eCall F_is_within (aCons (eVar 4) (aCons (eC (.int 0)) (aCons (eC (.int 3)) (aNil))))))) (sBad) (sNil)) (sCons (sFld 0 [(0, 0)] (eVar 1)) (sCons (sFld 0 [(0, 1)] (eVar 2)) (sCons (sFld 0 [(0, 2)] (eVar 3)) (sFld 0 [(0, 3)] (eVar 4)))))))))
theorem sc_Map___init__ : FnScope ["self", "places", "roads", "ends", "most"] ["self", "places", "roads", "ends", "most"] (defScope st_Map___init__) := ⟨rfl, rfl, rfl, by decide +kernel, rfl, by decide +kernel, by decide +kernel⟩
theorem ok_Map___init__ (X : Tx K mg A) (TB : LamX.TabB base mg A.tc A.tp) : FnOk P w K mg base CX0 5 (A.a 8) (A.d 8) ["self", "places", "roads", "ends", "most"] (SpF K (tab A) F_Map___init__) := def_ok (n := 5) (m := 0) X.f8 sc_Map___init__ rfl rfl fun cdv A' outer s H E hr =>
  (ss_cons (ss_if (tt_not (tt_B (ee_call (ok_is_within X TB) (hr.mono (by decide : 2 ≤ 4)) rfl X.g3 X.f3.kp X.b3 pass0 (aa_cons (ee_var (pv 1)) (aa_cons (ee_gint rfl X.c_LEAST_PLACES) (aa_cons (ee_gint rfl X.c_MOST_PLACES) aa_nil)))))) (ss_one ss_bad) ss_nil)
    (ss_cons (ss_if (tt_not (tt_B (ee_call (ok_are_triples X TB) (hr.mono (by decide : 4 ≤ 4)) rfl X.g6 X.f6.kp X.b6 pass0 (aa_cons (ee_var (pv 1)) (aa_cons (ee_var (pv 2)) aa_nil))))) (ss_one ss_bad) ss_nil)
    (ss_cons (ss_if (tt_not (tt_B (ee_call (ok_are_ends X TB) (hr.mono (by decide : 3 ≤ 4)) rfl X.g7 X.f7.kp X.b7 pass0 (aa_cons (ee_var (pv 1)) (aa_cons (ee_var (pv 3)) aa_nil))))) (ss_one ss_bad) ss_nil)
    (ss_cons (ss_if (tt_not (tt_B (ee_call (ok_is_within X TB) (hr.mono (by decide : 2 ≤ 4)) rfl X.g3 X.f3.kp X.b3 pass0 (aa_cons (ee_var (pv 4)) (aa_cons ee_int (aa_cons (ee_gint rfl X.c_MOST_SHUT) aa_nil)))))) (ss_one ss_bad) ss_nil)
    (ss_cons (ss_fld (i := 0) X.t__places (pv 0) (ee_var (pv 1)))
    (ss_cons (ss_fld (i := 0) X.t__roads (pv 0) (ee_var (pv 2)))
    (ss_cons (ss_fld (i := 0) X.t__ends (pv 0) (ee_var (pv 3)))
    (ss_one (ss_fld (i := 0) X.t__most (pv 0) (ee_var (pv 4)))))))))))
def F_Map_most : Fm := runF 1 0 (sRet (eFld [(0, 3)] (eUse 0)))
theorem sc_Map_most : FnScope ["self"] ["self"] (defScope st_Map_most) := ⟨rfl, rfl, rfl, by decide +kernel, rfl, by decide +kernel, by decide +kernel⟩
theorem ok_Map_most (X : Tx K mg A) (TB : LamX.TabB base mg A.tc A.tp) : FnOk P w K mg base CX0 1 (A.a 9) (A.d 9) ["self"] (SpF K (tab A) F_Map_most) := def_ok (n := 1) (m := 0) X.f9 sc_Map_most rfl rfl fun cdv A' outer s H E hr =>
  (ss_one (ss_ret (ee_fld X.t__most (ee_use (pv 0)))))
def F_Map_ends : Fm := runF 1 0 (sRet (eFld [(0, 2)] (eUse 0)))
theorem sc_Map_ends : FnScope ["self"] ["self"] (defScope st_Map_ends) := ⟨rfl, rfl, rfl, by decide +kernel, rfl, by decide +kernel, by decide +kernel⟩
theorem ok_Map_ends (X : Tx K mg A) (TB : LamX.TabB base mg A.tc A.tp) : FnOk P w K mg base CX0 1 (A.a 10) (A.d 10) ["self"] (SpF K (tab A) F_Map_ends) := def_ok (n := 1) (m := 0) X.f10 sc_Map_ends rfl rfl fun cdv A' outer s H E hr =>
  (ss_one (ss_ret (ee_fld X.t__ends (ee_use (pv 0)))))
def F_Map_roads : Fm := runF 1 0 (sRet (eFld [(0, 1)] (eUse 0)))
theorem sc_Map_roads : FnScope ["self"] ["self"] (defScope st_Map_roads) := ⟨rfl, rfl, rfl, by decide +kernel, rfl, by decide +kernel, by decide +kernel⟩
theorem ok_Map_roads (X : Tx K mg A) (TB : LamX.TabB base mg A.tc A.tp) : FnOk P w K mg base CX0 1 (A.a 11) (A.d 11) ["self"] (SpF K (tab A) F_Map_roads) := def_ok (n := 1) (m := 0) X.f11 sc_Map_roads rfl rfl fun cdv A' outer s H E hr =>
  (ss_one (ss_ret (ee_fld X.t__roads (ee_use (pv 0)))))
def F_Map_places : Fm := runF 1 0 (sRet (eFld [(0, 0)] (eUse 0)))
theorem sc_Map_places : FnScope ["self"] ["self"] (defScope st_Map_places) := ⟨rfl, rfl, rfl, by decide +kernel, rfl, by decide +kernel, by decide +kernel⟩
theorem ok_Map_places (X : Tx K mg A) (TB : LamX.TabB base mg A.tc A.tp) : FnOk P w K mg base CX0 1 (A.a 12) (A.d 12) ["self"] (SpF K (tab A) F_Map_places) := def_ok (n := 1) (m := 0) X.f12 sc_Map_places rfl rfl fun cdv A' outer s H E hr =>
  (ss_one (ss_ret (ee_fld X.t__places (ee_use (pv 0)))))
def F_Map___len__ : Fm := runF 1 0 (sRet (eCB (c1 oLen) (aCons (eFld [(0, 1)] (eUse 0)) (aNil))))
theorem sc_Map___len__ : FnScope ["self"] ["self"] (defScope st_Map___len__) := ⟨rfl, rfl, rfl, by decide +kernel, rfl, by decide +kernel, by decide +kernel⟩
theorem ok_Map___len__ (X : Tx K mg A) (TB : LamX.TabB base mg A.tc A.tp) : FnOk P w K mg base CX0 1 (A.a 13) (A.d 13) ["self"] (SpF K (tab A) F_Map___len__) := def_ok (n := 1) (m := 0) X.f13 sc_Map___len__ rfl rfl fun cdv A' outer s H E hr =>
  (ss_one (ss_ret (ee_len rfl X.n_len (aa_cons (ee_fld X.t__roads (ee_use (pv 0))) aa_nil))))
def F__law_parts : Fm := runF 2 3 (sCons (sSet 2 (eLst (aCons (eTup (aNil)) (aNil)))) (sCons (sFor (gN 3) (iData (eVar 0)) (sSet 2 (e2 oCat (eUse 2) (eLc (gN 4) [4] (iData (eVar 2)) (bB (e2 oLt (eCB (c1 oLen) (aCons (eUse 4) (aNil))) (eUse 1))) (e2 oCat (eUse 4) (eTup (aCons (eVar 3) (aNil)))))))) (sRet (e1 oSortKL (eUse 2)))))
theorem sc__law_parts : FnScope ["_law_roads", "_law_most", "_law_found", "_law_road", "_law_some"] ["_law_roads", "_law_most"] (defScope st__law_parts) := ⟨rfl, rfl, rfl, by decide +kernel, rfl, by decide +kernel, by decide +kernel⟩
theorem ok__law_parts (X : Tx K mg A) (TB : LamX.TabB base mg A.tc A.tp) : FnOk P w K mg base CX0 3 (A.a 14) (A.d 14) ["_law_roads", "_law_most"] (SpF K (tab A) F__law_parts) := def_okC (n := 2) (m := 3) X.f14 sc__law_parts rfl rfl fun A' outer s H E hr =>
  (ss_cons (ss_set (i := 2) sc__law_parts.nd rfl (by first | exact Or.inl rfl | exact Or.inr rfl) (ee_lst (aa_cons (ee_tup aa_nil) aa_nil)))
    (ss_cons (ss_for PassesOwn.never rfl (ii_data (ee_var (pv 0))) (gg_name (i := 3) sc__law_parts.nd rfl (by first | exact Or.inl rfl | exact Or.inr rfl)) (ss_one (ss_set (i := 2) sc__law_parts.nd rfl (by first | exact Or.inl rfl | exact Or.inr rfl) (ee_cat (ee_use (pv 2)) (ee_lc (own := [("_law_some", 4)]) rfl sc__law_parts.nd (ii_data (ee_var (pv 2))) (by exact blkOk_by (N := ["_law_roads", "_law_most", "_law_found", "_law_road", "_law_some"]) (sc := defScope st__law_parts) (own := [("_law_some", 4)]) (by decide +kernel)) (fun _ _ _ _ _ => (gg_name (i := 4) sc__law_parts.nd rfl (by first | exact Or.inl rfl | exact Or.inr rfl))) (fun _ _ _ _ _ => (ts_one (tt_lt (ee_len rfl X.n_len (aa_cons (ee_use (pv 4)) aa_nil)) (ee_use (pv 1))))) (fun _ _ _ _ _ => (ee_cat (ee_use (pv 4)) (ee_tup (aa_cons (ee_var (pv 3)) aa_nil)))))))))
    (ss_one (ss_ret (ee_sortKL (x := "_law_some") (hr.mono (by decide : 2 ≤ 2)) rfl X.n_sorted X.n_len TB rfl (List.mem_singleton.mpr rfl) (tab_one A) (scp_by (by decide +kernel)) rfl (by intros; rfl) (ee_use (pv 2)))))))
def F_check_map : Fm := runF 1 0 (sIf (bNot (bB (e1 (oIsi isi_Map) (eUse 0)))) (sBad) (sNil))
theorem sc_check_map : FnScope ["chart"] ["chart"] (defScope st_check_map) := ⟨rfl, rfl, rfl, by decide +kernel, rfl, by decide +kernel, by decide +kernel⟩
theorem ok_check_map (X : Tx K mg A) (TB : LamX.TabB base mg A.tc A.tp) : FnOk P w K mg base CX0 1 (A.a 15) (A.d 15) ["chart"] (SpF K (tab A) F_check_map) := def_ok (n := 1) (m := 0) X.f15 sc_check_map rfl rfl fun cdv A' outer s H E hr =>
  (ss_one (ss_if (tt_not (tt_B (ee_isi (.own _) X.i_Map rfl X.n_isinstance (ee_use (pv 0)) (pe_glob rfl X.gc0 rfl)))) (ss_one ss_bad) ss_nil))
def F_small_sets : Fm := runF 2 5 (sCons (sSet 2 (eLst (aCons (eTup (aNil)) (aNil)))) (sCons (sSet 3 (eLst (aCons (eTup (aNil)) (aNil)))) (sCons (sFor (gN 4) (iRange1 (aCons (eUse 1) (aNil))) (sCons (sSet 3 (eLc2 (gN 5) (iData (eVar 3)) (bYes) (iData (eVar 0)) (gN 6) [6] [5, 6] (bOr (bB (e2 oEq (eUse 5) (eTup (aNil)))) (bB (e2 oLt (e2 oIx (eUse 5) (e1 oNeg (eC (.int 1)))) (eUse 6)))) (eTup (aStar (eUse 5) (aCons (eVar 6) (aNil)))))) (sExt 2 (eVar 3)))) (sRet (eVar 2)))))
theorem sc_small_sets : FnScope ["roads", "most", "found", "layer", "_", "some", "road"] ["roads", "most"] (defScope st_small_sets) := ⟨rfl, rfl, rfl, by decide +kernel, rfl, by decide +kernel, by decide +kernel⟩
theorem ok_small_sets (X : Tx K mg A) (TB : LamX.TabB base mg A.tc A.tp) : FnOk P w K mg base CX0 1 (A.a 16) (A.d 16) ["roads", "most"] (SpF K (tab A) F_small_sets) := def_ok (n := 2) (m := 5) X.f16 sc_small_sets rfl rfl fun cdv A' outer s H E hr =>
  (ss_cons (ss_set (i := 2) sc_small_sets.nd rfl (by first | exact Or.inl rfl | exact Or.inr rfl) (ee_lst (aa_cons (ee_tup aa_nil) aa_nil)))
    (ss_cons (ss_set (i := 3) sc_small_sets.nd rfl (by first | exact Or.inl rfl | exact Or.inr rfl) (ee_lst (aa_cons (ee_tup aa_nil) aa_nil)))
    (ss_cons (ss_for PassesOwn.never rfl (ii_range1 rfl X.n_range (aa_cons (ee_use (pv 1)) aa_nil)) (gg_name (i := 4) sc_small_sets.nd rfl (by first | exact Or.inl rfl | exact Or.inr rfl)) (ss_cons (ss_setLc2 (i := 3) (own := [("some", 5), ("road", 6)]) rfl sc_small_sets.nd rfl rfl rfl (ii_data (ee_var (pv 3))) (by exact blkOk_by (N := ["roads", "most", "found", "layer", "_", "some", "road"]) (sc := defScope st_small_sets) (own := [("some", 5), ("road", 6)]) (by decide +kernel)) (vs1 := [6]) (by decide) (fun _ _ _ _ _ => (gg_name (i := 5) sc_small_sets.nd rfl (by first | exact Or.inl rfl | exact Or.inr rfl))) (fun _ _ _ _ _ => ts_nil) (fun _ _ _ _ _ => (ii_data (ee_var (pv 0)))) (fun _ _ _ _ _ => (gg_name (i := 6) sc_small_sets.nd rfl (by first | exact Or.inl rfl | exact Or.inr rfl))) (fun _ _ _ _ _ => (ts_one (PW.pt (tw_or (tt_eq hr.units (ee_use (pv 5)) (ee_tup aa_nil)) (tw_or1 (tt_lt (ee_sub_ (ee_use (pv 5)) (ee_neg ee_int) (fun _ _ => rfl)) (ee_use (pv 6)))))))) (fun _ _ _ _ _ => (ee_tup (aa_star (ee_use (pv 5)) (aa_cons (ee_var (pv 6)) aa_nil)))))
    (ss_one (ss_ext (ps_expr (pe_bm PySem.F.plainAttrs_list PySem.F.slot_list_extend PySem.F.type_list_extend mt_extend (pv 2) (pa_cons (ee_var (pv 3)) pa_nil)))))))
    (ss_one (ss_ret (ee_var (pv 2)))))))
def F_worlds : Fm := runF 1 0 (sCons (sDrop (eCall F_check_map (aCons (eVar 0) (aNil)))) (sRet (eCall F_small_sets (aCons (e1 oLRange (eLenO 0 F_Map___len__ (eVar 0))) (aCons (oSelf 0 F_Map_most (eVar 0)) (aNil))))))
theorem sc_worlds : FnScope ["chart"] ["chart"] (defScope st_worlds) := ⟨rfl, rfl, rfl, by decide +kernel, rfl, by decide +kernel, by decide +kernel⟩
theorem ok_worlds (X : Tx K mg A) (TB : LamX.TabB base mg A.tc A.tp) : FnOk P w K mg base CX0 3 (A.a 17) (A.d 17) ["chart"] (SpF K (tab A) F_worlds) := def_ok (n := 1) (m := 0) X.f17 sc_worlds rfl rfl fun cdv A' outer s H E hr =>
  (ss_cons (ss_expr (ee_call (ok_check_map X TB) (hr.mono (by decide : 1 ≤ 2)) rfl X.g15 X.f15.kp X.b15 pass0 (aa_cons (ee_var (pv 0)) aa_nil)))
    (ss_one (ss_ret (ee_call (ok_small_sets X TB) (hr.mono (by decide : 1 ≤ 2)) rfl X.g16 X.f16.kp X.b16 pass0 (aa_cons (ee_lrange rfl rfl X.n_list rfl X.n_range (ee_lenO rfl X.ln0 X.lf0 (ok_Map___len__ X TB) (hr.mono (by decide : 2 ≤ 2)) X.b13 pass0 rfl X.n_len (ee_var (pv 0)))) (aa_cons (ee_prop rfl X.cl0 X.p9 (ok_Map_most X TB) (hr.mono (by decide : 2 ≤ 2)) X.b9 pass0 (ee_var (pv 0))) aa_nil))))))
def F_roads_at : Fm := runF 2 4 (sRet (eLc (gT 2 (gsCons (gN 2) (gsCons (gT 3 (gsCons (gN 3) (gsCons (gN 4) (gsCons (gN 5) (gsNil))))) (gsNil)))) [2, 3, 4, 5] (iEnumD (aCons (oSelf 0 F_Map_roads (eVar 0)) (aNil))) (bB (e2 (oIn false) (eUse 1) (eTup (aCons (eVar 3) (aCons (eVar 4) (aNil)))))) (eVar 2)))
theorem sc_roads_at : FnScope ["chart", "place", "road", "first", "second", "_"] ["chart", "place"] (defScope st_roads_at) := ⟨rfl, rfl, rfl, by decide +kernel, rfl, by decide +kernel, by decide +kernel⟩
theorem ok_roads_at (X : Tx K mg A) (TB : LamX.TabB base mg A.tc A.tp) : FnOk P w K mg base CX0 3 (A.a 18) (A.d 18) ["chart", "place"] (SpF K (tab A) F_roads_at) := def_ok (n := 2) (m := 4) X.f18 sc_roads_at rfl rfl fun cdv A' outer s H E hr =>
  (ss_one (ss_ret (ee_lc (own := [("road", 2), ("first", 3), ("second", 4), ("_", 5)]) rfl sc_roads_at.nd (ii_enum rfl X.n_enumerate (aa_cons (ee_prop rfl X.cl0 X.p11 (ok_Map_roads X TB) (hr.mono (by decide : 2 ≤ 2)) X.b11 pass0 (ee_var (pv 0))) aa_nil)) (by exact blkOk_by (N := ["chart", "place", "road", "first", "second", "_"]) (sc := defScope st_roads_at) (own := [("road", 2), ("first", 3), ("second", 4), ("_", 5)]) (by decide +kernel)) (fun _ _ _ _ _ => (gg_tup rfl (ggs_cons (gg_name (i := 2) sc_roads_at.nd rfl (by first | exact Or.inl rfl | exact Or.inr rfl)) (ggs_cons (gg_tup rfl (ggs_cons (gg_name (i := 3) sc_roads_at.nd rfl (by first | exact Or.inl rfl | exact Or.inr rfl)) (ggs_cons (gg_name (i := 4) sc_roads_at.nd rfl (by first | exact Or.inl rfl | exact Or.inr rfl)) (ggs_cons (gg_name (i := 5) sc_roads_at.nd rfl (by first | exact Or.inl rfl | exact Or.inr rfl)) ggs_nil)))) ggs_nil)))) (fun _ _ _ _ _ => (ts_one (tt_in (ee_use (pv 1)) (ee_tup (aa_cons (ee_var (pv 3)) (aa_cons (ee_var (pv 4)) aa_nil))) rfl))) (fun _ _ _ _ _ => (ee_var (pv 2))))))
def F__unknown_at : Fm := runF 4 1 (sRet (eLc (gN 4) [4] (iData (eCall F_roads_at (aCons (eVar 0) (aCons (eVar 1) (aNil))))) (bAnd (bB (e2 (oIn true) (eUse 4) (eUse 2))) (bB (e2 (oIn true) (eUse 4) (eUse 3)))) (eVar 4)))
theorem sc__unknown_at : FnScope ["chart", "place", "clear", "shut", "road"] ["chart", "place", "clear", "shut"] (defScope st__unknown_at) := ⟨rfl, rfl, rfl, by decide +kernel, rfl, by decide +kernel, by decide +kernel⟩
theorem ok__unknown_at (X : Tx K mg A) (TB : LamX.TabB base mg A.tc A.tp) : FnOk P w K mg base CX0 4 (A.a 19) (A.d 19) ["chart", "place", "clear", "shut"] (SpF K (tab A) F__unknown_at) := def_ok (n := 4) (m := 1) X.f19 sc__unknown_at rfl rfl fun cdv A' outer s H E hr =>
  (ss_one (ss_ret (ee_lc (own := [("road", 4)]) rfl sc__unknown_at.nd (ii_data (ee_call (ok_roads_at X TB) (hr.mono (by decide : 3 ≤ 3)) rfl X.g18 X.f18.kp X.b18 pass0 (aa_cons (ee_var (pv 0)) (aa_cons (ee_var (pv 1)) aa_nil)))) (by exact blkOk_by (N := ["chart", "place", "clear", "shut", "road"]) (sc := defScope st__unknown_at) (own := [("road", 4)]) (by decide +kernel)) (fun _ _ _ _ _ => (gg_name (i := 4) sc__unknown_at.nd rfl (by first | exact Or.inl rfl | exact Or.inr rfl))) (fun _ _ _ _ _ => (ts_one (PW.pt (tw_and (tt_notIn (ee_use (pv 4)) (ee_use (pv 2)) rfl) (tw_and1 (tt_notIn (ee_use (pv 4)) (ee_use (pv 3)) rfl)))))) (fun _ _ _ _ _ => (ee_var (pv 4))))))
def F__state_at : Fm := runF 5 2 (sCons (sSet 5 (eLc (gN 6) [6] (iData (eVar 3)) (bB (e2 (oIn true) (eUse 6) (eUse 4))) (eVar 6))) (sRet (eTup (aCons (eVar 0) (aCons (eCB (c1 oTupOf) (aCons (eCB (c1 oSorted) (aCons (eLst (aStar (eUse 1) (aStar (eUse 5) (aNil)))) (aNil))) (aNil))) (aCons (eCB (c1 oTupOf) (aCons (eCB (c1 oSorted) (aCons (eLst (aStar (eUse 2) (aStar (eUse 4) (aNil)))) (aNil))) (aNil))) (aNil)))))))
theorem sc__state_at : FnScope ["place", "clear", "shut", "unknown", "closed", "passable", "road"] ["place", "clear", "shut", "unknown", "closed"] (defScope st__state_at) := ⟨rfl, rfl, rfl, by decide +kernel, rfl, by decide +kernel, by decide +kernel⟩
theorem ok__state_at (X : Tx K mg A) (TB : LamX.TabB base mg A.tc A.tp) : FnOk P w K mg base CX0 1 (A.a 20) (A.d 20) ["place", "clear", "shut", "unknown", "closed"] (SpF K (tab A) F__state_at) := def_ok (n := 5) (m := 2) X.f20 sc__state_at rfl rfl fun cdv A' outer s H E hr =>
  (ss_cons (ss_setLc (i := 5) (own := [("road", 6)]) rfl sc__state_at.nd rfl rfl rfl (ii_data (ee_var (pv 3))) (by exact blkOk_by (N := ["place", "clear", "shut", "unknown", "closed", "passable", "road"]) (sc := defScope st__state_at) (own := [("road", 6)]) (by decide +kernel)) (fun _ _ _ _ _ => (gg_name (i := 6) sc__state_at.nd rfl (by first | exact Or.inl rfl | exact Or.inr rfl))) (fun _ _ _ _ _ => (ts_one (tt_notIn (ee_use (pv 6)) (ee_use (pv 4)) rfl))) (fun _ _ _ _ _ => (ee_var (pv 6))))
    (ss_one (ss_ret (ee_tup (aa_cons (ee_var (pv 0)) (aa_cons (ee_tuple rfl X.n_tuple (aa_cons (ee_sorted hr.units rfl X.n_sorted (aa_cons (ee_lst (aa_star (ee_use (pv 1)) (aa_star (ee_use (pv 5)) aa_nil))) aa_nil)) aa_nil)) (aa_cons (ee_tuple rfl X.n_tuple (aa_cons (ee_sorted hr.units rfl X.n_sorted (aa_cons (ee_lst (aa_star (ee_use (pv 2)) (aa_star (ee_use (pv 4)) aa_nil))) aa_nil)) aa_nil)) aa_nil)))))))
def F__arrivals : Fm := runF 4 2 (sCons (sSet 4 (eCall F__unknown_at (aCons (eVar 0) (aCons (eVar 1) (aCons (eVar 2) (aCons (eVar 3) (aNil))))))) (sRet (eLc (gN 5) [5] (iData (eCall F_small_sets (aCons (eVar 4) (aCons (e2 oSub (oSelf 0 F_Map_most (eVar 0)) (eCB (c1 oLen) (aCons (eUse 3) (aNil)))) (aNil))))) (bYes) (eCall F__state_at (aCons (eVar 1) (aCons (eVar 2) (aCons (eVar 3) (aCons (eVar 4) (aCons (eVar 5) (aNil))))))))))
theorem sc__arrivals : FnScope ["chart", "place", "clear", "shut", "unknown", "closed"] ["chart", "place", "clear", "shut"] (defScope st__arrivals) := ⟨rfl, rfl, rfl, by decide +kernel, rfl, by decide +kernel, by decide +kernel⟩
theorem ok__arrivals (X : Tx K mg A) (TB : LamX.TabB base mg A.tc A.tp) : FnOk P w K mg base CX0 5 (A.a 21) (A.d 21) ["chart", "place", "clear", "shut"] (SpF K (tab A) F__arrivals) := def_ok (n := 4) (m := 2) X.f21 sc__arrivals rfl rfl fun cdv A' outer s H E hr =>
  (ss_cons (ss_set (i := 4) sc__arrivals.nd rfl (by first | exact Or.inl rfl | exact Or.inr rfl) (ee_call (ok__unknown_at X TB) (hr.mono (by decide : 4 ≤ 4)) rfl X.g19 X.f19.kp X.b19 pass0 (aa_cons (ee_var (pv 0)) (aa_cons (ee_var (pv 1)) (aa_cons (ee_var (pv 2)) (aa_cons (ee_var (pv 3)) aa_nil))))))
    (ss_one (ss_ret (ee_lc (own := [("closed", 5)]) rfl sc__arrivals.nd (ii_data (ee_call (ok_small_sets X TB) (hr.mono (by decide : 1 ≤ 4)) rfl X.g16 X.f16.kp X.b16 pass0 (aa_cons (ee_var (pv 4)) (aa_cons (ee_sub (ee_prop rfl X.cl0 X.p9 (ok_Map_most X TB) (hr.mono (by decide : 2 ≤ 4)) X.b9 pass0 (ee_var (pv 0))) (ee_len rfl X.n_len (aa_cons (ee_use (pv 3)) aa_nil))) aa_nil)))) (by exact blkOk_by (N := ["chart", "place", "clear", "shut", "unknown", "closed"]) (sc := defScope st__arrivals) (own := [("closed", 5)]) (by decide +kernel)) (fun _ _ _ _ _ => (gg_name (i := 5) sc__arrivals.nd rfl (by first | exact Or.inl rfl | exact Or.inr rfl))) (fun _ _ _ _ _ => ts_nil) (fun _ _ _ _ _ => (ee_call (ok__state_at X TB) (hr.mono (by decide : 1 ≤ 4)) rfl X.g20 X.f20.kp X.b20 pass0 (aa_cons (ee_var (pv 1)) (aa_cons (ee_var (pv 2)) (aa_cons (ee_var (pv 3)) (aa_cons (ee_var (pv 4)) (aa_cons (ee_var (pv 5)) aa_nil)))))))))))
def F_first_states : Fm := runF 1 0 (sCons (sDrop (eCall F_check_map (aCons (eVar 0) (aNil)))) (sRet (eCall F__arrivals (aCons (eVar 0) (aCons (e2 oIx (oSelf 0 F_Map_ends (eVar 0)) (eC (.int 0))) (aCons (eTup (aNil)) (aCons (eTup (aNil)) (aNil))))))))
theorem sc_first_states : FnScope ["chart"] ["chart"] (defScope st_first_states) := ⟨rfl, rfl, rfl, by decide +kernel, rfl, by decide +kernel, by decide +kernel⟩
theorem ok_first_states (X : Tx K mg A) (TB : LamX.TabB base mg A.tc A.tp) : FnOk P w K mg base CX0 6 (A.a 22) (A.d 22) ["chart"] (SpF K (tab A) F_first_states) := def_ok (n := 1) (m := 0) X.f22 sc_first_states rfl rfl fun cdv A' outer s H E hr =>
  (ss_cons (ss_expr (ee_call (ok_check_map X TB) (hr.mono (by decide : 1 ≤ 5)) rfl X.g15 X.f15.kp X.b15 pass0 (aa_cons (ee_var (pv 0)) aa_nil)))
    (ss_one (ss_ret (ee_call (ok__arrivals X TB) (hr.mono (by decide : 5 ≤ 5)) rfl X.g21 X.f21.kp X.b21 pass0 (aa_cons (ee_var (pv 0)) (aa_cons (ee_sub_ (ee_prop rfl X.cl0 X.p10 (ok_Map_ends X TB) (hr.mono (by decide : 2 ≤ 5)) X.b10 pass0 (ee_var (pv 0))) ee_int (fun _ _ => rfl)) (aa_cons (ee_tup aa_nil) (aa_cons (ee_tup aa_nil) aa_nil))))))))
def F__law_at : Fm := runF 2 2 (sRet (eLc (gT 2 (gsCons (gN 2) (gsCons (gN 3) (gsNil)))) [2, 3] (iEnumD (aCons (e2 oIx (eUse 0) (eC (.int 1))) (aNil))) (bB (e2 (oIn false) (eUse 1) (eSl none (some 2) (eUse 3)))) (eVar 2)))
theorem sc__law_at : FnScope ["_law_plain", "_law_place", "_law_road", "_law_way"] ["_law_plain", "_law_place"] (defScope st__law_at) := ⟨rfl, rfl, rfl, by decide +kernel, rfl, by decide +kernel, by decide +kernel⟩
theorem ok__law_at (X : Tx K mg A) (TB : LamX.TabB base mg A.tc A.tp) : FnOk P w K mg base CX0 1 (A.a 23) (A.d 23) ["_law_plain", "_law_place"] (SpF K (tab A) F__law_at) := def_ok (n := 2) (m := 2) X.f23 sc__law_at rfl rfl fun cdv A' outer s H E hr =>
  (ss_one (ss_ret (ee_lc (own := [("_law_road", 2), ("_law_way", 3)]) rfl sc__law_at.nd (ii_enum rfl X.n_enumerate (aa_cons (ee_sub_ (ee_use (pv 0)) ee_int (fun _ _ => rfl)) aa_nil)) (by exact blkOk_by (N := ["_law_plain", "_law_place", "_law_road", "_law_way"]) (sc := defScope st__law_at) (own := [("_law_road", 2), ("_law_way", 3)]) (by decide +kernel)) (fun _ _ _ _ _ => (gg_tup rfl (ggs_cons (gg_name (i := 2) sc__law_at.nd rfl (by first | exact Or.inl rfl | exact Or.inr rfl)) (ggs_cons (gg_name (i := 3) sc__law_at.nd rfl (by first | exact Or.inl rfl | exact Or.inr rfl)) ggs_nil)))) (fun _ _ _ _ _ => (ts_one (tt_in (ee_use (pv 1)) (ee_sl (ee_use (pv 3)) part_none part_int) rfl))) (fun _ _ _ _ _ => (ee_var (pv 2))))))
def F__law_seen : Fm := runF 4 5 (sCons (sPar 5 6 (eLc (gN 8) [8] (iData (eCall F__law_at (aCons (eVar 0) (aCons (eVar 1) (aNil))))) (bB (e2 (oIn true) (eUse 8) (e2 oCat (eUse 2) (eUse 3)))) (eVar 8)) (eLst (aNil))) (sCons (sFor (gN 4) (iData (eCall F__law_parts (aCons (eVar 5) (aCons (e2 oSub (e2 oIx (eUse 0) (eC (.int 3))) (eCB (c1 oLen) (aCons (eUse 3) (aNil)))) (aNil))))) (sCons (sSet 7 (eCB (c1 oTupOf) (aCons (eLc (gN 8) [8] (iData (eVar 5)) (bB (e2 (oIn true) (eUse 8) (eUse 4))) (eVar 8)) (aNil)))) (sApp 6 (eTup (aCons (eVar 1) (aCons (eCB (c1 oTupOf) (aCons (eCB (c1 oSorted) (aCons (e2 oCat (eUse 2) (eUse 7)) (aNil))) (aNil))) (aCons (eCB (c1 oTupOf) (aCons (eCB (c1 oSorted) (aCons (e2 oCat (eUse 3) (eUse 4)) (aNil))) (aNil))) (aNil)))))))) (sRet (eVar 6))))
theorem sc__law_seen : FnScope ["_law_plain", "_law_place", "_law_free", "_law_shut", "_law_some", "_law_fresh", "_law_found", "_law_rest", "_law_road"] ["_law_plain", "_law_place", "_law_free", "_law_shut"] (defScope st__law_seen) := ⟨rfl, rfl, rfl, by decide +kernel, rfl, by decide +kernel, by decide +kernel⟩
theorem ok__law_seen (X : Tx K mg A) (TB : LamX.TabB base mg A.tc A.tp) : FnOk P w K mg base CX0 4 (A.a 24) (A.d 24) ["_law_plain", "_law_place", "_law_free", "_law_shut"] (SpF K (tab A) F__law_seen) := def_ok (n := 4) (m := 5) X.f24 sc__law_seen rfl rfl fun cdv A' outer s H E hr =>
  (ss_cons (ss_par (i := 5) (j := 6) rfl sc__law_seen.nd rfl rfl (by decide) rfl rfl (ee_lc (own := [("_law_road", 8)]) rfl sc__law_seen.nd (ii_data (ee_call (ok__law_at X TB) (hr.mono (by decide : 1 ≤ 3)) rfl X.g23 X.f23.kp X.b23 pass0 (aa_cons (ee_var (pv 0)) (aa_cons (ee_var (pv 1)) aa_nil)))) (by exact blkOk_by (N := ["_law_plain", "_law_place", "_law_free", "_law_shut", "_law_some", "_law_fresh", "_law_found", "_law_rest", "_law_road"]) (sc := defScope st__law_seen) (own := [("_law_road", 8)]) (by decide +kernel)) (fun _ _ _ _ _ => (gg_name (i := 8) sc__law_seen.nd rfl (by first | exact Or.inl rfl | exact Or.inr rfl))) (fun _ _ _ _ _ => (ts_one (tt_notIn (ee_use (pv 8)) (ee_cat (ee_use (pv 2)) (ee_use (pv 3))) rfl))) (fun _ _ _ _ _ => (ee_var (pv 8)))) (ee_lst aa_nil))
    (ss_cons (ss_for PassesOwn.never rfl (ii_data (ee_call (ok__law_parts X TB) (hr.mono (by decide : 3 ≤ 3)) rfl X.g14 X.f14.kp X.b14 pass0 (aa_cons (ee_var (pv 5)) (aa_cons (ee_sub (ee_sub_ (ee_use (pv 0)) ee_int (fun _ _ => rfl)) (ee_len rfl X.n_len (aa_cons (ee_use (pv 3)) aa_nil))) aa_nil)))) (gg_name (i := 4) sc__law_seen.nd rfl (by first | exact Or.inl rfl | exact Or.inr rfl)) (ss_cons (ss_set (i := 7) sc__law_seen.nd rfl (by first | exact Or.inl rfl | exact Or.inr rfl) (ee_tuple rfl X.n_tuple (aa_cons (ee_lc (own := [("_law_road", 8)]) rfl sc__law_seen.nd (ii_data (ee_var (pv 5))) (by exact blkOk_by (N := ["_law_plain", "_law_place", "_law_free", "_law_shut", "_law_some", "_law_fresh", "_law_found", "_law_rest", "_law_road"]) (sc := defScope st__law_seen) (own := [("_law_road", 8)]) (by decide +kernel)) (fun _ _ _ _ _ => (gg_name (i := 8) sc__law_seen.nd rfl (by first | exact Or.inl rfl | exact Or.inr rfl))) (fun _ _ _ _ _ => (ts_one (tt_notIn (ee_use (pv 8)) (ee_use (pv 4)) rfl))) (fun _ _ _ _ _ => (ee_var (pv 8)))) aa_nil)))
    (ss_one (ss_app (ps_expr (pe_bm PySem.F.plainAttrs_list PySem.F.slot_list_append PySem.F.type_list_append mt_append (pv 6) (pa_cons (ee_tup (aa_cons (ee_var (pv 1)) (aa_cons (ee_tuple rfl X.n_tuple (aa_cons (ee_sorted hr.units rfl X.n_sorted (aa_cons (ee_cat (ee_use (pv 2)) (ee_use (pv 7))) aa_nil)) aa_nil)) (aa_cons (ee_tuple rfl X.n_tuple (aa_cons (ee_sorted hr.units rfl X.n_sorted (aa_cons (ee_cat (ee_use (pv 3)) (ee_use (pv 4))) aa_nil)) aa_nil)) aa_nil)))) pa_nil)))))))
    (ss_one (ss_ret (ee_var (pv 6))))))
def F__law_first : Fm := runF 1 0 (sRet (eCall F__law_seen (aCons (eVar 0) (aCons (e2 oIx (e2 oIx (eUse 0) (eC (.int 2))) (eC (.int 0))) (aCons (eTup (aNil)) (aCons (eTup (aNil)) (aNil)))))))
theorem sc__law_first : FnScope ["_law_plain"] ["_law_plain"] (defScope st__law_first) := ⟨rfl, rfl, rfl, by decide +kernel, rfl, by decide +kernel, by decide +kernel⟩
theorem ok__law_first (X : Tx K mg A) (TB : LamX.TabB base mg A.tc A.tp) : FnOk P w K mg base CX0 5 (A.a 25) (A.d 25) ["_law_plain"] (SpF K (tab A) F__law_first) := def_ok (n := 1) (m := 0) X.f25 sc__law_first rfl rfl fun cdv A' outer s H E hr =>
  (ss_one (ss_ret (ee_call (ok__law_seen X TB) (hr.mono (by decide : 4 ≤ 4)) rfl X.g24 X.f24.kp X.b24 pass0 (aa_cons (ee_var (pv 0)) (aa_cons (ee_sub_ (ee_sub_ (ee_use (pv 0)) ee_int (fun _ _ => rfl)) ee_int (fun _ _ => rfl)) (aa_cons (ee_tup aa_nil) (aa_cons (ee_tup aa_nil) aa_nil)))))))
def F_is_road : Fm := runF 2 0 (sRet (eCall F_is_within (aCons (eVar 1) (aCons (eC (.int 0)) (aCons (e2 oSub (eLenO 0 F_Map___len__ (eVar 0)) (eC (.int 1))) (aNil))))))
theorem sc_is_road : FnScope ["chart", "road"] ["chart", "road"] (defScope st_is_road) := ⟨rfl, rfl, rfl, by decide +kernel, rfl, by decide +kernel, by decide +kernel⟩
theorem ok_is_road (X : Tx K mg A) (TB : LamX.TabB base mg A.tc A.tp) : FnOk P w K mg base CX0 3 (A.a 26) (A.d 26) ["chart", "road"] (SpF K (tab A) F_is_road) := def_ok (n := 2) (m := 0) X.f26 sc_is_road rfl rfl fun cdv A' outer s H E hr =>
  (ss_one (ss_ret (ee_call (ok_is_within X TB) (hr.mono (by decide : 2 ≤ 2)) rfl X.g3 X.f3.kp X.b3 pass0 (aa_cons (ee_var (pv 1)) (aa_cons ee_int (aa_cons (ee_sub (ee_lenO rfl X.ln0 X.lf0 (ok_Map___len__ X TB) (hr.mono (by decide : 2 ≤ 2)) X.b13 pass0 rfl X.n_len (ee_var (pv 0))) ee_int) aa_nil))))))
def F_are_roads : Fm := runF 2 1 (sRet (eAnd (e1 (oIsi isi_tuple) (eUse 1)) (eAnd (eCB (c1 oAll) (aCons (eLc (gN 2) [2] (iData (eVar 1)) (bYes) (eCall F_is_road (aCons (eVar 0) (aCons (eVar 2) (aNil))))) (aNil))) (eCall F_ascends (aCons (eVar 1) (aNil))))))
theorem sc_are_roads : FnScope ["chart", "some", "road"] ["chart", "some"] (defScope st_are_roads) := ⟨rfl, rfl, rfl, by decide +kernel, rfl, by decide +kernel, by decide +kernel⟩
theorem ok_are_roads (X : Tx K mg A) (TB : LamX.TabB base mg A.tc A.tp) : FnOk P w K mg base CX0 4 (A.a 27) (A.d 27) ["chart", "some"] (SpF K (tab A) F_are_roads) := def_ok (n := 2) (m := 1) X.f27 sc_are_roads rfl rfl fun cdv A' outer s H E hr =>
  (ss_one (ss_ret (ee_and (ee_isi (.ty "tuple") X.i_tuple rfl X.n_isinstance (ee_use (pv 1)) (pe_bltn rfl X.n_tuple (by decide +kernel) rfl)) (ee_and (ee_all rfl rfl X.n_all (aa_cons (ee_lc (own := [("road", 2)]) rfl sc_are_roads.nd (ii_data (ee_var (pv 1))) (by exact blkOk_by (N := ["chart", "some", "road"]) (sc := defScope st_are_roads) (own := [("road", 2)]) (by decide +kernel)) (fun _ _ _ _ _ => (gg_name (i := 2) sc_are_roads.nd rfl (by first | exact Or.inl rfl | exact Or.inr rfl))) (fun _ _ _ _ _ => ts_nil) (fun _ _ _ _ _ => (ee_call (ok_is_road X TB) (hr.mono (by decide : 3 ≤ 3)) rfl X.g26 X.f26.kp X.b26 pass0 (aa_cons (ee_var (pv 0)) (aa_cons (ee_var (pv 2)) aa_nil))))) aa_nil)) (ee_one (ee_call (ok_ascends X TB) (hr.mono (by decide : 1 ≤ 3)) rfl X.g5 X.f5.kp X.b5 pass0 (aa_cons (ee_var (pv 1)) aa_nil)))))))
def F_is_world : Fm := runF 2 0 (sRet (eAnd (eCall F_are_roads (aCons (eVar 0) (aCons (eVar 1) (aNil)))) (e2 oLe (eCB (c1 oLen) (aCons (eUse 1) (aNil))) (oSelf 0 F_Map_most (eVar 0)))))
theorem sc_is_world : FnScope ["chart", "world"] ["chart", "world"] (defScope st_is_world) := ⟨rfl, rfl, rfl, by decide +kernel, rfl, by decide +kernel, by decide +kernel⟩
theorem ok_is_world (X : Tx K mg A) (TB : LamX.TabB base mg A.tc A.tp) : FnOk P w K mg base CX0 5 (A.a 28) (A.d 28) ["chart", "world"] (SpF K (tab A) F_is_world) := def_ok (n := 2) (m := 0) X.f28 sc_is_world rfl rfl fun cdv A' outer s H E hr =>
  (ss_one (ss_ret (ee_and (ee_call (ok_are_roads X TB) (hr.mono (by decide : 4 ≤ 4)) rfl X.g27 X.f27.kp X.b27 pass0 (aa_cons (ee_var (pv 0)) (aa_cons (ee_var (pv 1)) aa_nil))) (ee_one (ee_le (ee_len rfl X.n_len (aa_cons (ee_use (pv 1)) aa_nil)) (ee_prop rfl X.cl0 X.p9 (ok_Map_most X TB) (hr.mono (by decide : 2 ≤ 4)) X.b9 pass0 (ee_var (pv 0))))))))
def F_check_world : Fm := runF 2 0 (sIf (bNot (bB (eCall F_is_world (aCons (eVar 0) (aCons (eVar 1) (aNil)))))) (sBad) (sNil))
theorem sc_check_world : FnScope ["chart", "world"] ["chart", "world"] (defScope st_check_world) := ⟨rfl, rfl, rfl, by decide +kernel, rfl, by decide +kernel, by decide +kernel⟩
theorem ok_check_world (X : Tx K mg A) (TB : LamX.TabB base mg A.tc A.tp) : FnOk P w K mg base CX0 6 (A.a 29) (A.d 29) ["chart", "world"] (SpF K (tab A) F_check_world) := def_ok (n := 2) (m := 0) X.f29 sc_check_world rfl rfl fun cdv A' outer s H E hr =>
  (ss_one (ss_if (tt_not (tt_B (ee_call (ok_is_world X TB) (hr.mono (by decide : 5 ≤ 5)) rfl X.g28 X.f28.kp X.b28 pass0 (aa_cons (ee_var (pv 0)) (aa_cons (ee_var (pv 1)) aa_nil))))) (ss_one ss_bad) ss_nil))
def F__lower : Fm := runF 4 0 (sCons (sIf (bB (e2 oIsN (e2 oIx (eUse 0) (eUse 1)) (eC .non))) (sRetN) (sNil)) (sIf (bOr (bB (e2 oIsN (e2 oIx (eUse 0) (eUse 2)) (eC .non))) (bB (e2 oLt (e2 oCat (e2 oIx (eUse 0) (eUse 1)) (eUse 3)) (e2 oIx (eUse 0) (eUse 2))))) (sSetIx 0 (eUse 2) (e2 oCat (e2 oIx (eUse 0) (eUse 1)) (eUse 3))) (sNil)))
theorem sc__lower : FnScope ["sums", "start", "end", "price"] ["sums", "start", "end", "price"] (defScope st__lower) := ⟨rfl, rfl, rfl, by decide +kernel, rfl, by decide +kernel, by decide +kernel⟩
theorem ok__lower (X : Tx K mg A) (TB : LamX.TabB base mg A.tc A.tp) : FnOk P w K mg base CX0 1 (A.a 30) (A.d 30) ["sums", "start", "end", "price"] (SpF K (tab A) F__lower) := def_ok (n := 4) (m := 0) X.f30 sc__lower rfl rfl fun cdv A' outer s H E hr =>
  (ss_cons (ss_if (tt_isN (ee_sub_ (ee_use (pv 0)) (ee_use (pv 1)) (fun _ _ => rfl)) ee_non) (ss_one ss_retN) ss_nil)
    (ss_one (ss_if (PW.pt (tw_or (tt_isN (ee_sub_ (ee_use (pv 0)) (ee_use (pv 2)) (fun _ _ => rfl)) ee_non) (tw_or1 (tt_lt (ee_cat (ee_sub_ (ee_use (pv 0)) (ee_use (pv 1)) (fun _ _ => rfl)) (ee_use (pv 3))) (ee_sub_ (ee_use (pv 0)) (ee_use (pv 2)) (fun _ _ => rfl)))))) (ss_one (ss_setIx (i := 0) (pv 0) (ee_use (pv 2)) (ee_cat (ee_sub_ (ee_use (pv 0)) (ee_use (pv 1)) (fun _ _ => rfl)) (ee_use (pv 3))))) ss_nil)))
def F_least_sums : Fm := runF 4 5 (sCons (sSet 4 (e2 oRep (eLst (aCons (eC .non) (aNil))) (oSelf 0 F_Map_places (eVar 0)))) (sCons (sSetIx 4 (eUse 1) (eC (.int 0))) (sCons (sFor (gN 5) (iRange1 (aCons (e2 oSub (oSelf 0 F_Map_places (eVar 0)) (eC (.int 1))) (aNil))) (sFor (gT 2 (gsCons (gN 6) (gsCons (gT 3 (gsCons (gN 7) (gsCons (gN 8) (gsCons (gN 5) (gsNil))))) (gsNil)))) (iEnumD (aCons (oSelf 0 F_Map_roads (eVar 0)) (aNil))) (sIf (bB (e2 (oIn true) (eUse 6) (eUse 2))) (sCons (sDrop (eCallB F__lower (aCons (eUse 4) (aCons (eVar 7) (aCons (eVar 8) (aCons (e2 oIx (eUse 3) (eUse 6)) (aNil))))))) (sDrop (eCallB F__lower (aCons (eUse 4) (aCons (eVar 8) (aCons (eVar 7) (aCons (e2 oIx (eUse 3) (eUse 6)) (aNil)))))))) (sNil)))) (sRet (eVar 4)))))
theorem sc_least_sums : FnScope ["chart", "begin", "shut", "prices", "sums", "_", "road", "first", "second"] ["chart", "begin", "shut", "prices"] (defScope st_least_sums) := ⟨rfl, rfl, rfl, by decide +kernel, rfl, by decide +kernel, by decide +kernel⟩
theorem ok_least_sums (X : Tx K mg A) (TB : LamX.TabB base mg A.tc A.tp) : FnOk P w K mg base CX0 3 (A.a 31) (A.d 31) ["chart", "begin", "shut", "prices"] (SpF K (tab A) F_least_sums) := def_ok (n := 4) (m := 5) X.f31 sc_least_sums rfl rfl fun cdv A' outer s H E hr =>
  (ss_cons (ss_set (i := 4) sc_least_sums.nd rfl (by first | exact Or.inl rfl | exact Or.inr rfl) (ee_rep (ee_lst (aa_cons ee_non aa_nil)) (ee_prop rfl X.cl0 X.p12 (ok_Map_places X TB) (hr.mono (by decide : 2 ≤ 2)) X.b12 pass0 (ee_var (pv 0)))))
    (ss_cons (ss_setIx (i := 4) (pv 4) (ee_use (pv 1)) ee_int)
    (ss_cons (ss_for PassesOwn.never rfl (ii_range1 rfl X.n_range (aa_cons (ee_sub (ee_prop rfl X.cl0 X.p12 (ok_Map_places X TB) (hr.mono (by decide : 2 ≤ 2)) X.b12 pass0 (ee_var (pv 0))) ee_int) aa_nil)) (gg_name (i := 5) sc_least_sums.nd rfl (by first | exact Or.inl rfl | exact Or.inr rfl)) (ss_one (ss_for PassesOwn.never rfl (ii_enum rfl X.n_enumerate (aa_cons (ee_prop rfl X.cl0 X.p11 (ok_Map_roads X TB) (hr.mono (by decide : 2 ≤ 2)) X.b11 pass0 (ee_var (pv 0))) aa_nil)) (gg_tup rfl (ggs_cons (gg_name (i := 6) sc_least_sums.nd rfl (by first | exact Or.inl rfl | exact Or.inr rfl)) (ggs_cons (gg_tup rfl (ggs_cons (gg_name (i := 7) sc_least_sums.nd rfl (by first | exact Or.inl rfl | exact Or.inr rfl)) (ggs_cons (gg_name (i := 8) sc_least_sums.nd rfl (by first | exact Or.inl rfl | exact Or.inr rfl)) (ggs_cons (gg_name (i := 5) sc_least_sums.nd rfl (by first | exact Or.inl rfl | exact Or.inr rfl)) ggs_nil)))) ggs_nil))) (ss_one (ss_if (tt_notIn (ee_use (pv 6)) (ee_use (pv 2)) rfl) (ss_cons (ss_expr (ee_callB_ (ok__lower X TB) (hr.mono (by decide : 1 ≤ 2)) rfl X.g30 X.f30.kp X.b30 pass0 (aa_cons (ee_use (pv 4)) (aa_cons (ee_var (pv 7)) (aa_cons (ee_var (pv 8)) (aa_cons (ee_sub_ (ee_use (pv 3)) (ee_use (pv 6)) (fun _ _ => rfl)) aa_nil))))))
    (ss_one (ss_expr (ee_callB_ (ok__lower X TB) (hr.mono (by decide : 1 ≤ 2)) rfl X.g30 X.f30.kp X.b30 pass0 (aa_cons (ee_use (pv 4)) (aa_cons (ee_var (pv 8)) (aa_cons (ee_var (pv 7)) (aa_cons (ee_sub_ (ee_use (pv 3)) (ee_use (pv 6)) (fun _ _ => rfl)) aa_nil)))))))) ss_nil)))))
    (ss_one (ss_ret (ee_var (pv 4)))))))
def F_road_lengths : Fm := runF 1 2 (sRet (eLc (gT 3 (gsCons (gN 1) (gsCons (gN 1) (gsCons (gN 2) (gsNil))))) [1, 2] (iData (oSelf 0 F_Map_roads (eVar 0))) (bYes) (eVar 2)))
theorem sc_road_lengths : FnScope ["chart", "_", "length"] ["chart"] (defScope st_road_lengths) := ⟨rfl, rfl, rfl, by decide +kernel, rfl, by decide +kernel, by decide +kernel⟩
theorem ok_road_lengths (X : Tx K mg A) (TB : LamX.TabB base mg A.tc A.tp) : FnOk P w K mg base CX0 3 (A.a 32) (A.d 32) ["chart"] (SpF K (tab A) F_road_lengths) := def_ok (n := 1) (m := 2) X.f32 sc_road_lengths rfl rfl fun cdv A' outer s H E hr =>
  (ss_one (ss_ret (ee_lc (own := [("_", 1), ("length", 2)]) rfl sc_road_lengths.nd (ii_data (ee_prop rfl X.cl0 X.p11 (ok_Map_roads X TB) (hr.mono (by decide : 2 ≤ 2)) X.b11 pass0 (ee_var (pv 0)))) (by exact blkOk_by (N := ["chart", "_", "length"]) (sc := defScope st_road_lengths) (own := [("_", 1), ("length", 2)]) (by decide +kernel)) (fun _ _ _ _ _ => (gg_tup rfl (ggs_cons (gg_name (i := 1) sc_road_lengths.nd rfl (by first | exact Or.inl rfl | exact Or.inr rfl)) (ggs_cons (gg_name (i := 1) sc_road_lengths.nd rfl (by first | exact Or.inl rfl | exact Or.inr rfl)) (ggs_cons (gg_name (i := 2) sc_road_lengths.nd rfl (by first | exact Or.inl rfl | exact Or.inr rfl)) ggs_nil))))) (fun _ _ _ _ _ => ts_nil) (fun _ _ _ _ _ => (ee_var (pv 2))))))
def F_least_lengths : Fm := runF 3 0 (sRet (eCall F_least_sums (aCons (eVar 0) (aCons (eVar 1) (aCons (eVar 2) (aCons (eCall F_road_lengths (aCons (eVar 0) (aNil))) (aNil)))))))
theorem sc_least_lengths : FnScope ["chart", "begin", "shut"] ["chart", "begin", "shut"] (defScope st_least_lengths) := ⟨rfl, rfl, rfl, by decide +kernel, rfl, by decide +kernel, by decide +kernel⟩
theorem ok_least_lengths (X : Tx K mg A) (TB : LamX.TabB base mg A.tc A.tp) : FnOk P w K mg base CX0 4 (A.a 33) (A.d 33) ["chart", "begin", "shut"] (SpF K (tab A) F_least_lengths) := def_ok (n := 3) (m := 0) X.f33 sc_least_lengths rfl rfl fun cdv A' outer s H E hr =>
  (ss_one (ss_ret (ee_call (ok_least_sums X TB) (hr.mono (by decide : 3 ≤ 3)) rfl X.g31 X.f31.kp X.b31 pass0 (aa_cons (ee_var (pv 0)) (aa_cons (ee_var (pv 1)) (aa_cons (ee_var (pv 2)) (aa_cons (ee_call (ok_road_lengths X TB) (hr.mono (by decide : 3 ≤ 3)) rfl X.g32 X.f32.kp X.b32 pass0 (aa_cons (ee_var (pv 0)) aa_nil)) aa_nil)))))))
def F_open_length : Fm := runF 2 2 (sCons (sDrop (eCall F_check_map (aCons (eVar 0) (aNil)))) (sCons (sDrop (eCall F_check_world (aCons (eVar 0) (aCons (eVar 1) (aNil))))) (sCons (sAsg (gT 2 (gsCons (gN 2) (gsCons (gN 3) (gsNil)))) (oSelf 0 F_Map_ends (eVar 0))) (sRet (e2 oIx (eCall F_least_lengths (aCons (eVar 0) (aCons (eVar 2) (aCons (eVar 1) (aNil))))) (eUse 3))))))
theorem sc_open_length : FnScope ["chart", "world", "begin", "goal"] ["chart", "world"] (defScope st_open_length) := ⟨rfl, rfl, rfl, by decide +kernel, rfl, by decide +kernel, by decide +kernel⟩
theorem ok_open_length (X : Tx K mg A) (TB : LamX.TabB base mg A.tc A.tp) : FnOk P w K mg base CX0 7 (A.a 34) (A.d 34) ["chart", "world"] (SpF K (tab A) F_open_length) := def_ok (n := 2) (m := 2) X.f34 sc_open_length rfl rfl fun cdv A' outer s H E hr =>
  (ss_cons (ss_expr (ee_call (ok_check_map X TB) (hr.mono (by decide : 1 ≤ 6)) rfl X.g15 X.f15.kp X.b15 pass0 (aa_cons (ee_var (pv 0)) aa_nil)))
    (ss_cons (ss_expr (ee_call (ok_check_world X TB) (hr.mono (by decide : 6 ≤ 6)) rfl X.g29 X.f29.kp X.b29 pass0 (aa_cons (ee_var (pv 0)) (aa_cons (ee_var (pv 1)) aa_nil))))
    (ss_cons (ss_asg (ee_prop rfl X.cl0 X.p10 (ok_Map_ends X TB) (hr.mono (by decide : 2 ≤ 6)) X.b10 pass0 (ee_var (pv 0))) (gg_tup rfl (ggs_cons (gg_name (i := 2) sc_open_length.nd rfl (by first | exact Or.inl rfl | exact Or.inr rfl)) (ggs_cons (gg_name (i := 3) sc_open_length.nd rfl (by first | exact Or.inl rfl | exact Or.inr rfl)) ggs_nil))))
    (ss_one (ss_ret (ee_sub_ (ee_call (ok_least_lengths X TB) (hr.mono (by decide : 4 ≤ 6)) rfl X.g33 X.f33.kp X.b33 pass0 (aa_cons (ee_var (pv 0)) (aa_cons (ee_var (pv 2)) (aa_cons (ee_var (pv 1)) aa_nil)))) (ee_use (pv 3)) (fun _ _ => rfl)))))))
def F__law_far : Fm := runF 3 9 (sCons (sSet 3 (e2 oRep (eLst (aCons (eC .non) (aNil))) (e2 oIx (eUse 0) (eC (.int 0))))) (sCons (sSetIx 3 (eUse 2) (eC (.int 0))) (sCons (sFor (gN 4) (iRange1 (aCons (e2 oIx (eUse 0) (eC (.int 0))) (aNil))) (sFor (gT 2 (gsCons (gN 5) (gsCons (gT 3 (gsCons (gN 6) (gsCons (gN 7) (gsCons (gN 8) (gsNil))))) (gsNil)))) (iEnumD (aCons (e2 oIx (eUse 0) (eC (.int 1))) (aNil))) (sIf (bB (e2 (oIn true) (eUse 5) (eUse 1))) (sFor (gT 2 (gsCons (gN 9) (gsCons (gN 10) (gsNil)))) (iData (eLst (aCons (eTup (aCons (eVar 6) (aCons (eVar 7) (aNil)))) (aCons (eTup (aCons (eVar 7) (aCons (eVar 6) (aNil)))) (aNil))))) (sIf (bB (e2 oNotN (e2 oIx (eUse 3) (eUse 9)) (eC .non))) (sCons (sSet 11 (e2 oCat (e2 oIx (eUse 3) (eUse 9)) (eUse 8))) (sSetIx 3 (eUse 10) (eIf (bOr (bB (e2 oIsN (e2 oIx (eUse 3) (eUse 10)) (eC .non))) (bB (e2 oLt (eUse 11) (e2 oIx (eUse 3) (eUse 10))))) (eVar 11) (e2 oIx (eUse 3) (eUse 10))))) (sNil))) (sNil)))) (sRet (e2 oIx (eUse 3) (e2 oIx (e2 oIx (eUse 0) (eC (.int 2))) (eC (.int 1))))))))
theorem sc__law_far : FnScope ["_law_plain", "_law_shut", "_law_place", "_law_best", "_law_turn", "_law_road", "_law_one", "_law_other", "_law_length", "_law_here", "_law_there", "_law_new"] ["_law_plain", "_law_shut", "_law_place"] (defScope st__law_far) := ⟨rfl, rfl, rfl, by decide +kernel, rfl, by decide +kernel, by decide +kernel⟩
theorem ok__law_far (X : Tx K mg A) (TB : LamX.TabB base mg A.tc A.tp) : FnOk P w K mg base CX0 1 (A.a 35) (A.d 35) ["_law_plain", "_law_shut", "_law_place"] (SpF K (tab A) F__law_far) := def_ok (n := 3) (m := 9) X.f35 sc__law_far rfl rfl fun cdv A' outer s H E hr =>
  (ss_cons (ss_set (i := 3) sc__law_far.nd rfl (by first | exact Or.inl rfl | exact Or.inr rfl) (ee_rep (ee_lst (aa_cons ee_non aa_nil)) (ee_sub_ (ee_use (pv 0)) ee_int (fun _ _ => rfl))))
    (ss_cons (ss_setIx (i := 3) (pv 3) (ee_use (pv 2)) ee_int)
    (ss_cons (ss_for PassesOwn.never rfl (ii_range1 rfl X.n_range (aa_cons (ee_sub_ (ee_use (pv 0)) ee_int (fun _ _ => rfl)) aa_nil)) (gg_name (i := 4) sc__law_far.nd rfl (by first | exact Or.inl rfl | exact Or.inr rfl)) (ss_one (ss_for PassesOwn.never rfl (ii_enum rfl X.n_enumerate (aa_cons (ee_sub_ (ee_use (pv 0)) ee_int (fun _ _ => rfl)) aa_nil)) (gg_tup rfl (ggs_cons (gg_name (i := 5) sc__law_far.nd rfl (by first | exact Or.inl rfl | exact Or.inr rfl)) (ggs_cons (gg_tup rfl (ggs_cons (gg_name (i := 6) sc__law_far.nd rfl (by first | exact Or.inl rfl | exact Or.inr rfl)) (ggs_cons (gg_name (i := 7) sc__law_far.nd rfl (by first | exact Or.inl rfl | exact Or.inr rfl)) (ggs_cons (gg_name (i := 8) sc__law_far.nd rfl (by first | exact Or.inl rfl | exact Or.inr rfl)) ggs_nil)))) ggs_nil))) (ss_one (ss_if (tt_notIn (ee_use (pv 5)) (ee_use (pv 1)) rfl) (ss_one (ss_for PassesOwn.never rfl (ii_data (ee_lst (aa_cons (ee_tup (aa_cons (ee_var (pv 6)) (aa_cons (ee_var (pv 7)) aa_nil))) (aa_cons (ee_tup (aa_cons (ee_var (pv 7)) (aa_cons (ee_var (pv 6)) aa_nil))) aa_nil)))) (gg_tup rfl (ggs_cons (gg_name (i := 9) sc__law_far.nd rfl (by first | exact Or.inl rfl | exact Or.inr rfl)) (ggs_cons (gg_name (i := 10) sc__law_far.nd rfl (by first | exact Or.inl rfl | exact Or.inr rfl)) ggs_nil))) (ss_one (ss_if (tt_notN (ee_sub_ (ee_use (pv 3)) (ee_use (pv 9)) (fun _ _ => rfl)) ee_non) (ss_cons (ss_set (i := 11) sc__law_far.nd rfl (by first | exact Or.inl rfl | exact Or.inr rfl) (ee_cat (ee_sub_ (ee_use (pv 3)) (ee_use (pv 9)) (fun _ _ => rfl)) (ee_use (pv 8))))
    (ss_one (ss_setIx (i := 3) (pv 3) (ee_use (pv 10)) (ee_if (PW.pt (tw_or (tt_isN (ee_sub_ (ee_use (pv 3)) (ee_use (pv 10)) (fun _ _ => rfl)) ee_non) (tw_or1 (tt_lt (ee_use (pv 11)) (ee_sub_ (ee_use (pv 3)) (ee_use (pv 10)) (fun _ _ => rfl)))))) (ee_var (pv 11)) (ee_sub_ (ee_use (pv 3)) (ee_use (pv 10)) (fun _ _ => rfl)))))) ss_nil)))) ss_nil)))))
    (ss_one (ss_ret (ee_sub_ (ee_use (pv 3)) (ee_sub_ (ee_sub_ (ee_use (pv 0)) ee_int (fun _ _ => rfl)) ee_int (fun _ _ => rfl)) (fun _ _ => rfl)))))))
def F__law_pick : Fm := runF 3 0 (sRet (e2 oIx (eUse 2) (e2 oMod (eCB (c1 oIntOf) (aCons (eCall F__law_cell_at (aCons (eVar 0) (aCons (eVar 1) (aNil)))) (aNil))) (eCB (c1 oLen) (aCons (eUse 2) (aNil))))))
theorem sc__law_pick : FnScope ["_law_script", "_law_at_here", "_law_row"] ["_law_script", "_law_at_here", "_law_row"] (defScope st__law_pick) := ⟨rfl, rfl, rfl, by decide +kernel, rfl, by decide +kernel, by decide +kernel⟩
theorem ok__law_pick (X : Tx K mg A) (TB : LamX.TabB base mg A.tc A.tp) : FnOk P w K mg base CX0 2 (A.a 36) (A.d 36) ["_law_script", "_law_at_here", "_law_row"] (SpF K (tab A) F__law_pick) := def_ok (n := 3) (m := 0) X.f36 sc__law_pick rfl rfl fun cdv A' outer s H E hr =>
  (ss_one (ss_ret (ee_sub_ (ee_use (pv 2)) (ee_mod (ee_int_ rfl X.n_int (aa_cons (ee_call (ok__law_cell_at X TB) (hr.mono (by decide : 1 ≤ 1)) rfl X.g0 X.f0.kp X.b0 pass0 (aa_cons (ee_var (pv 0)) (aa_cons (ee_var (pv 1)) aa_nil))) aa_nil)) (ee_len rfl X.n_len (aa_cons (ee_use (pv 2)) aa_nil))) (fun _ _ => rfl))))
def F_is_state : Fm := runF 2 4 (sCons (sIf (bOr (bNot (bB (e1 (oIsi isi_tuple) (eUse 1)))) (bB (e2 oNe (eCB (c1 oLen) (aCons (eUse 1) (aNil))) (eC (.int 3))))) (sRet (eC (.bl false))) (sNil)) (sCons (sAsg (gT 3 (gsCons (gN 2) (gsCons (gN 3) (gsCons (gN 4) (gsNil))))) (eVar 1)) (sCons (sIf (bOr (bNot (bB (eCall F_is_within (aCons (eVar 2) (aCons (eC (.int 0)) (aCons (e2 oSub (oSelf 0 F_Map_places (eVar 0)) (eC (.int 1))) (aNil))))))) (bOr (bNot (bB (eCall F_are_roads (aCons (eVar 0) (aCons (eVar 3) (aNil)))))) (bNot (bB (eCall F_is_world (aCons (eVar 0) (aCons (eVar 4) (aNil)))))))) (sRet (eC (.bl false))) (sNil)) (sCons (sIf (bB (eCB (c1 oAny) (aCons (eLc (gN 5) [5] (iData (eVar 3)) (bYes) (e2 (oIn false) (eUse 5) (eUse 4))) (aNil)))) (sRet (eC (.bl false))) (sNil)) (sRet (eCB (c1 oAll) (aCons (eLc (gN 5) [5] (iData (eCall F_roads_at (aCons (eVar 0) (aCons (eVar 2) (aNil))))) (bYes) (eOr (e2 (oIn false) (eUse 5) (eUse 3)) (e2 (oIn false) (eUse 5) (eUse 4)))) (aNil))))))))
theorem sc_is_state : FnScope ["chart", "state", "place", "clear", "shut", "road"] ["chart", "state"] (defScope st_is_state) := ⟨rfl, rfl, rfl, by decide +kernel, rfl, by decide +kernel, by decide +kernel⟩
theorem ok_is_state (X : Tx K mg A) (TB : LamX.TabB base mg A.tc A.tp) : FnOk P w K mg base CX0 6 (A.a 37) (A.d 37) ["chart", "state"] (SpF K (tab A) F_is_state) := def_ok (n := 2) (m := 4) X.f37 sc_is_state rfl rfl fun cdv A' outer s H E hr =>
  (ss_cons (ss_if (PW.pt (tw_or (tt_not (tt_B (ee_isi (.ty "tuple") X.i_tuple rfl X.n_isinstance (ee_use (pv 1)) (pe_bltn rfl X.n_tuple (by decide +kernel) rfl)))) (tw_or1 (tt_ne hr.units (ee_len rfl X.n_len (aa_cons (ee_use (pv 1)) aa_nil)) ee_int)))) (ss_one (ss_ret ee_bl)) ss_nil)
    (ss_cons (ss_asg (ee_var (pv 1)) (gg_tup rfl (ggs_cons (gg_name (i := 2) sc_is_state.nd rfl (by first | exact Or.inl rfl | exact Or.inr rfl)) (ggs_cons (gg_name (i := 3) sc_is_state.nd rfl (by first | exact Or.inl rfl | exact Or.inr rfl)) (ggs_cons (gg_name (i := 4) sc_is_state.nd rfl (by first | exact Or.inl rfl | exact Or.inr rfl)) ggs_nil)))))
    (ss_cons (ss_if (PW.pt (tw_or (tt_not (tt_B (ee_call (ok_is_within X TB) (hr.mono (by decide : 2 ≤ 5)) rfl X.g3 X.f3.kp X.b3 pass0 (aa_cons (ee_var (pv 2)) (aa_cons ee_int (aa_cons (ee_sub (ee_prop rfl X.cl0 X.p12 (ok_Map_places X TB) (hr.mono (by decide : 2 ≤ 5)) X.b12 pass0 (ee_var (pv 0))) ee_int) aa_nil)))))) (tw_or (tt_not (tt_B (ee_call (ok_are_roads X TB) (hr.mono (by decide : 4 ≤ 5)) rfl X.g27 X.f27.kp X.b27 pass0 (aa_cons (ee_var (pv 0)) (aa_cons (ee_var (pv 3)) aa_nil))))) (tw_or1 (tt_not (tt_B (ee_call (ok_is_world X TB) (hr.mono (by decide : 5 ≤ 5)) rfl X.g28 X.f28.kp X.b28 pass0 (aa_cons (ee_var (pv 0)) (aa_cons (ee_var (pv 4)) aa_nil))))))))) (ss_one (ss_ret ee_bl)) ss_nil)
    (ss_cons (ss_if (tt_B (ee_any rfl rfl X.n_any (aa_cons (ee_lc (own := [("road", 5)]) rfl sc_is_state.nd (ii_data (ee_var (pv 3))) (by exact blkOk_by (N := ["chart", "state", "place", "clear", "shut", "road"]) (sc := defScope st_is_state) (own := [("road", 5)]) (by decide +kernel)) (fun _ _ _ _ _ => (gg_name (i := 5) sc_is_state.nd rfl (by first | exact Or.inl rfl | exact Or.inr rfl))) (fun _ _ _ _ _ => ts_nil) (fun _ _ _ _ _ => (ee_in (ee_use (pv 5)) (ee_use (pv 4)) rfl))) aa_nil))) (ss_one (ss_ret ee_bl)) ss_nil)
    (ss_one (ss_ret (ee_all rfl rfl X.n_all (aa_cons (ee_lc (own := [("road", 5)]) rfl sc_is_state.nd (ii_data (ee_call (ok_roads_at X TB) (hr.mono (by decide : 3 ≤ 5)) rfl X.g18 X.f18.kp X.b18 pass0 (aa_cons (ee_var (pv 0)) (aa_cons (ee_var (pv 2)) aa_nil)))) (by exact blkOk_by (N := ["chart", "state", "place", "clear", "shut", "road"]) (sc := defScope st_is_state) (own := [("road", 5)]) (by decide +kernel)) (fun _ _ _ _ _ => (gg_name (i := 5) sc_is_state.nd rfl (by first | exact Or.inl rfl | exact Or.inr rfl))) (fun _ _ _ _ _ => ts_nil) (fun _ _ _ _ _ => (ee_or (ee_in (ee_use (pv 5)) (ee_use (pv 3)) rfl) (ee_one (ee_in (ee_use (pv 5)) (ee_use (pv 4)) rfl))))) aa_nil))))))))
def F_check_state : Fm := runF 2 0 (sIf (bNot (bB (eCall F_is_state (aCons (eVar 0) (aCons (eVar 1) (aNil)))))) (sBad) (sNil))
theorem sc_check_state : FnScope ["chart", "state"] ["chart", "state"] (defScope st_check_state) := ⟨rfl, rfl, rfl, by decide +kernel, rfl, by decide +kernel, by decide +kernel⟩
theorem ok_check_state (X : Tx K mg A) (TB : LamX.TabB base mg A.tc A.tp) : FnOk P w K mg base CX0 7 (A.a 38) (A.d 38) ["chart", "state"] (SpF K (tab A) F_check_state) := def_ok (n := 2) (m := 0) X.f38 sc_check_state rfl rfl fun cdv A' outer s H E hr =>
  (ss_one (ss_if (tt_not (tt_B (ee_call (ok_is_state X TB) (hr.mono (by decide : 6 ≤ 6)) rfl X.g37 X.f37.kp X.b37 pass0 (aa_cons (ee_var (pv 0)) (aa_cons (ee_var (pv 1)) aa_nil))))) (ss_one ss_bad) ss_nil))
def F_open_roads : Fm := runF 2 4 (sCons (sAsg (gT 3 (gsCons (gN 2) (gsCons (gN 3) (gsCons (gN 4) (gsNil))))) (eVar 1)) (sRet (eLc (gN 5) [5] (iData (eCall F_roads_at (aCons (eVar 0) (aCons (eVar 2) (aNil))))) (bB (e2 (oIn false) (eUse 5) (eUse 3))) (eVar 5))))
theorem sc_open_roads : FnScope ["chart", "state", "place", "clear", "_", "road"] ["chart", "state"] (defScope st_open_roads) := ⟨rfl, rfl, rfl, by decide +kernel, rfl, by decide +kernel, by decide +kernel⟩
theorem ok_open_roads (X : Tx K mg A) (TB : LamX.TabB base mg A.tc A.tp) : FnOk P w K mg base CX0 4 (A.a 39) (A.d 39) ["chart", "state"] (SpF K (tab A) F_open_roads) := def_ok (n := 2) (m := 4) X.f39 sc_open_roads rfl rfl fun cdv A' outer s H E hr =>
  (ss_cons (ss_asg (ee_var (pv 1)) (gg_tup rfl (ggs_cons (gg_name (i := 2) sc_open_roads.nd rfl (by first | exact Or.inl rfl | exact Or.inr rfl)) (ggs_cons (gg_name (i := 3) sc_open_roads.nd rfl (by first | exact Or.inl rfl | exact Or.inr rfl)) (ggs_cons (gg_name (i := 4) sc_open_roads.nd rfl (by first | exact Or.inl rfl | exact Or.inr rfl)) ggs_nil)))))
    (ss_one (ss_ret (ee_lc (own := [("road", 5)]) rfl sc_open_roads.nd (ii_data (ee_call (ok_roads_at X TB) (hr.mono (by decide : 3 ≤ 3)) rfl X.g18 X.f18.kp X.b18 pass0 (aa_cons (ee_var (pv 0)) (aa_cons (ee_var (pv 2)) aa_nil)))) (by exact blkOk_by (N := ["chart", "state", "place", "clear", "_", "road"]) (sc := defScope st_open_roads) (own := [("road", 5)]) (by decide +kernel)) (fun _ _ _ _ _ => (gg_name (i := 5) sc_open_roads.nd rfl (by first | exact Or.inl rfl | exact Or.inr rfl))) (fun _ _ _ _ _ => (ts_one (tt_in (ee_use (pv 5)) (ee_use (pv 3)) rfl))) (fun _ _ _ _ _ => (ee_var (pv 5)))))))
def F_ways : Fm := runF 2 0 (sCons (sDrop (eCall F_check_map (aCons (eVar 0) (aNil)))) (sCons (sDrop (eCall F_check_state (aCons (eVar 0) (aCons (eVar 1) (aNil))))) (sRet (eCall F_open_roads (aCons (eVar 0) (aCons (eVar 1) (aNil)))))))
theorem sc_ways : FnScope ["chart", "state"] ["chart", "state"] (defScope st_ways) := ⟨rfl, rfl, rfl, by decide +kernel, rfl, by decide +kernel, by decide +kernel⟩
theorem ok_ways (X : Tx K mg A) (TB : LamX.TabB base mg A.tc A.tp) : FnOk P w K mg base CX0 8 (A.a 40) (A.d 40) ["chart", "state"] (SpF K (tab A) F_ways) := def_ok (n := 2) (m := 0) X.f40 sc_ways rfl rfl fun cdv A' outer s H E hr =>
  (ss_cons (ss_expr (ee_call (ok_check_map X TB) (hr.mono (by decide : 1 ≤ 7)) rfl X.g15 X.f15.kp X.b15 pass0 (aa_cons (ee_var (pv 0)) aa_nil)))
    (ss_cons (ss_expr (ee_call (ok_check_state X TB) (hr.mono (by decide : 7 ≤ 7)) rfl X.g38 X.f38.kp X.b38 pass0 (aa_cons (ee_var (pv 0)) (aa_cons (ee_var (pv 1)) aa_nil))))
    (ss_one (ss_ret (ee_call (ok_open_roads X TB) (hr.mono (by decide : 4 ≤ 7)) rfl X.g39 X.f39.kp X.b39 pass0 (aa_cons (ee_var (pv 0)) (aa_cons (ee_var (pv 1)) aa_nil)))))))
def F__law_end : Fm := runF 3 0 (sRet (e2 oSub (e2 oCat (e2 oIx (e2 oIx (e2 oIx (eUse 0) (eC (.int 1))) (eUse 1)) (eC (.int 0))) (e2 oIx (e2 oIx (e2 oIx (eUse 0) (eC (.int 1))) (eUse 1)) (eC (.int 1)))) (eUse 2)))
theorem sc__law_end : FnScope ["_law_plain", "_law_road", "_law_place"] ["_law_plain", "_law_road", "_law_place"] (defScope st__law_end) := ⟨rfl, rfl, rfl, by decide +kernel, rfl, by decide +kernel, by decide +kernel⟩
theorem ok__law_end (X : Tx K mg A) (TB : LamX.TabB base mg A.tc A.tp) : FnOk P w K mg base CX0 1 (A.a 41) (A.d 41) ["_law_plain", "_law_road", "_law_place"] (SpF K (tab A) F__law_end) := def_ok (n := 3) (m := 0) X.f41 sc__law_end rfl rfl fun cdv A' outer s H E hr =>
  (ss_one (ss_ret (ee_sub (ee_cat (ee_sub_ (ee_sub_ (ee_sub_ (ee_use (pv 0)) ee_int (fun _ _ => rfl)) (ee_use (pv 1)) (fun _ _ => rfl)) ee_int (fun _ _ => rfl)) (ee_sub_ (ee_sub_ (ee_sub_ (ee_use (pv 0)) ee_int (fun _ _ => rfl)) (ee_use (pv 1)) (fun _ _ => rfl)) ee_int (fun _ _ => rfl))) (ee_use (pv 2)))))
def F_is_way : Fm := runF 3 0 (sRet (eAnd (eCall F_is_road (aCons (eVar 0) (aCons (eVar 2) (aNil)))) (e2 (oIn false) (eUse 2) (eCall F_open_roads (aCons (eVar 0) (aCons (eVar 1) (aNil)))))))
theorem sc_is_way : FnScope ["chart", "state", "road"] ["chart", "state", "road"] (defScope st_is_way) := ⟨rfl, rfl, rfl, by decide +kernel, rfl, by decide +kernel, by decide +kernel⟩
theorem ok_is_way (X : Tx K mg A) (TB : LamX.TabB base mg A.tc A.tp) : FnOk P w K mg base CX0 5 (A.a 42) (A.d 42) ["chart", "state", "road"] (SpF K (tab A) F_is_way) := def_ok (n := 3) (m := 0) X.f42 sc_is_way rfl rfl fun cdv A' outer s H E hr =>
  (ss_one (ss_ret (ee_and (ee_call (ok_is_road X TB) (hr.mono (by decide : 3 ≤ 4)) rfl X.g26 X.f26.kp X.b26 pass0 (aa_cons (ee_var (pv 0)) (aa_cons (ee_var (pv 2)) aa_nil))) (ee_one (ee_in (ee_use (pv 2)) (ee_call (ok_open_roads X TB) (hr.mono (by decide : 4 ≤ 4)) rfl X.g39 X.f39.kp X.b39 pass0 (aa_cons (ee_var (pv 0)) (aa_cons (ee_var (pv 1)) aa_nil))) rfl)))))
def F_other_end : Fm := runF 3 3 (sCons (sAsg (gT 3 (gsCons (gN 3) (gsCons (gN 4) (gsCons (gN 5) (gsNil))))) (e2 oIx (oSelf 0 F_Map_roads (eVar 0)) (eUse 1))) (sRet (eIf (bB (e2 oEq (eUse 2) (eUse 3))) (eVar 4) (eVar 3))))
theorem sc_other_end : FnScope ["chart", "road", "place", "first", "second", "_"] ["chart", "road", "place"] (defScope st_other_end) := ⟨rfl, rfl, rfl, by decide +kernel, rfl, by decide +kernel, by decide +kernel⟩
theorem ok_other_end (X : Tx K mg A) (TB : LamX.TabB base mg A.tc A.tp) : FnOk P w K mg base CX0 3 (A.a 43) (A.d 43) ["chart", "road", "place"] (SpF K (tab A) F_other_end) := def_ok (n := 3) (m := 3) X.f43 sc_other_end rfl rfl fun cdv A' outer s H E hr =>
  (ss_cons (ss_asg (ee_sub_ (ee_prop rfl X.cl0 X.p11 (ok_Map_roads X TB) (hr.mono (by decide : 2 ≤ 2)) X.b11 pass0 (ee_var (pv 0))) (ee_use (pv 1)) (fun _ _ => rfl)) (gg_tup rfl (ggs_cons (gg_name (i := 3) sc_other_end.nd rfl (by first | exact Or.inl rfl | exact Or.inr rfl)) (ggs_cons (gg_name (i := 4) sc_other_end.nd rfl (by first | exact Or.inl rfl | exact Or.inr rfl)) (ggs_cons (gg_name (i := 5) sc_other_end.nd rfl (by first | exact Or.inl rfl | exact Or.inr rfl)) ggs_nil)))))
    (ss_one (ss_ret (ee_if (tt_eq hr.units (ee_use (pv 2)) (ee_use (pv 3))) (ee_var (pv 4)) (ee_var (pv 3))))))
def F_states_after : Fm := runF 3 3 (sCons (sAsg (gT 3 (gsCons (gN 3) (gsCons (gN 4) (gsCons (gN 5) (gsNil))))) (eVar 1)) (sRet (eCall F__arrivals (aCons (eVar 0) (aCons (eCall F_other_end (aCons (eVar 0) (aCons (eVar 2) (aCons (eVar 3) (aNil))))) (aCons (eVar 4) (aCons (eVar 5) (aNil))))))))
theorem sc_states_after : FnScope ["chart", "state", "road", "place", "clear", "shut"] ["chart", "state", "road"] (defScope st_states_after) := ⟨rfl, rfl, rfl, by decide +kernel, rfl, by decide +kernel, by decide +kernel⟩
theorem ok_states_after (X : Tx K mg A) (TB : LamX.TabB base mg A.tc A.tp) : FnOk P w K mg base CX0 6 (A.a 44) (A.d 44) ["chart", "state", "road"] (SpF K (tab A) F_states_after) := def_ok (n := 3) (m := 3) X.f44 sc_states_after rfl rfl fun cdv A' outer s H E hr =>
  (ss_cons (ss_asg (ee_var (pv 1)) (gg_tup rfl (ggs_cons (gg_name (i := 3) sc_states_after.nd rfl (by first | exact Or.inl rfl | exact Or.inr rfl)) (ggs_cons (gg_name (i := 4) sc_states_after.nd rfl (by first | exact Or.inl rfl | exact Or.inr rfl)) (ggs_cons (gg_name (i := 5) sc_states_after.nd rfl (by first | exact Or.inl rfl | exact Or.inr rfl)) ggs_nil)))))
    (ss_one (ss_ret (ee_call (ok__arrivals X TB) (hr.mono (by decide : 5 ≤ 5)) rfl X.g21 X.f21.kp X.b21 pass0 (aa_cons (ee_var (pv 0)) (aa_cons (ee_call (ok_other_end X TB) (hr.mono (by decide : 3 ≤ 5)) rfl X.g43 X.f43.kp X.b43 pass0 (aa_cons (ee_var (pv 0)) (aa_cons (ee_var (pv 2)) (aa_cons (ee_var (pv 3)) aa_nil)))) (aa_cons (ee_var (pv 4)) (aa_cons (ee_var (pv 5)) aa_nil))))))))
def F_results : Fm := runF 3 0 (sCons (sDrop (eCall F_check_map (aCons (eVar 0) (aNil)))) (sCons (sDrop (eCall F_check_state (aCons (eVar 0) (aCons (eVar 1) (aNil))))) (sCons (sIf (bNot (bB (eCall F_is_way (aCons (eVar 0) (aCons (eVar 1) (aCons (eVar 2) (aNil))))))) (sBad) (sNil)) (sRet (eCall F_states_after (aCons (eVar 0) (aCons (eVar 1) (aCons (eVar 2) (aNil)))))))))
theorem sc_results : FnScope ["chart", "state", "road"] ["chart", "state", "road"] (defScope st_results) := ⟨rfl, rfl, rfl, by decide +kernel, rfl, by decide +kernel, by decide +kernel⟩
theorem ok_results (X : Tx K mg A) (TB : LamX.TabB base mg A.tc A.tp) : FnOk P w K mg base CX0 8 (A.a 45) (A.d 45) ["chart", "state", "road"] (SpF K (tab A) F_results) := def_ok (n := 3) (m := 0) X.f45 sc_results rfl rfl fun cdv A' outer s H E hr =>
  (ss_cons (ss_expr (ee_call (ok_check_map X TB) (hr.mono (by decide : 1 ≤ 7)) rfl X.g15 X.f15.kp X.b15 pass0 (aa_cons (ee_var (pv 0)) aa_nil)))
    (ss_cons (ss_expr (ee_call (ok_check_state X TB) (hr.mono (by decide : 7 ≤ 7)) rfl X.g38 X.f38.kp X.b38 pass0 (aa_cons (ee_var (pv 0)) (aa_cons (ee_var (pv 1)) aa_nil))))
    (ss_cons (ss_if (tt_not (tt_B (ee_call (ok_is_way X TB) (hr.mono (by decide : 5 ≤ 7)) rfl X.g42 X.f42.kp X.b42 pass0 (aa_cons (ee_var (pv 0)) (aa_cons (ee_var (pv 1)) (aa_cons (ee_var (pv 2)) aa_nil)))))) (ss_one ss_bad) ss_nil)
    (ss_one (ss_ret (ee_call (ok_states_after X TB) (hr.mono (by decide : 6 ≤ 7)) rfl X.g44 X.f44.kp X.b44 pass0 (aa_cons (ee_var (pv 0)) (aa_cons (ee_var (pv 1)) (aa_cons (ee_var (pv 2)) aa_nil)))))))))
def F_law : Fm := runF 1 9 (sCons (sSet 1 (eCall F__law_map (aCons (eVar 0) (aCons (eC (.int 0)) (aCons (eC (.int 6)) (aCons (eC (.int 8)) (aNil))))))) (sCons (sSet 2 (eMake 0 F_Map___init__ (aCons (e2 oIx (eUse 1) (eC (.int 0))) (aCons (e2 oIx (eUse 1) (eC (.int 1))) (aCons (e2 oIx (eUse 1) (eC (.int 2))) (aCons (e2 oIx (eUse 1) (eC (.int 3))) (aNil))))))) (sCons (sIf (bOr (bB (e2 oNe (eTup (aCons (oSelf 0 F_Map_places (eVar 2)) (aCons (oSelf 0 F_Map_roads (eVar 2)) (aCons (oSelf 0 F_Map_ends (eVar 2)) (aCons (oSelf 0 F_Map_most (eVar 2)) (aNil)))))) (eUse 1))) (bB (e2 oNe (eLenO 0 F_Map___len__ (eVar 2)) (eCB (c1 oLen) (aCons (e2 oIx (eUse 1) (eC (.int 1))) (aNil)))))) (sRet (eC (.bl false))) (sNil)) (sCons (sSet 3 (eCall F__law_parts (aCons (e1 oLRange (eCB (c1 oLen) (aCons (e2 oIx (eUse 1) (eC (.int 1))) (aNil)))) (aCons (e2 oIx (eUse 1) (eC (.int 3))) (aNil))))) (sCons (sIf (bOr (bB (e2 oNe (eCall F_worlds (aCons (eVar 2) (aNil))) (eUse 3))) (bB (e2 oNe (eCall F_first_states (aCons (eVar 2) (aNil))) (eCall F__law_first (aCons (eVar 1) (aNil)))))) (sRet (eC (.bl false))) (sNil)) (sCons (sIf (bB (e2 oNe (eLc (gN 9) [9] (iData (eVar 3)) (bYes) (eCall F_open_length (aCons (eVar 2) (aCons (eVar 9) (aNil))))) (eLc (gN 9) [9] (iData (eVar 3)) (bYes) (eCall F__law_far (aCons (eVar 1) (aCons (eVar 9) (aCons (e2 oIx (e2 oIx (eUse 1) (eC (.int 2))) (eC (.int 0))) (aNil)))))))) (sRet (eC (.bl false))) (sNil)) (sCons (sSet 4 (eCall F__law_pick (aCons (eVar 0) (aCons (eC (.int 40)) (aCons (eCall F__law_first (aCons (eVar 1) (aNil))) (aNil)))))) (sCons (sFor (gN 5) (iRange1 (aCons (eC (.int 8)) (aNil))) (sCons (sSet 6 (eLc (gN 7) [7] (iData (eCall F__law_at (aCons (eVar 1) (aCons (e2 oIx (eUse 4) (eC (.int 0))) (aNil))))) (bB (e2 (oIn false) (eUse 7) (e2 oIx (eUse 4) (eC (.int 1))))) (eVar 7))) (sCons (sIf (bB (e2 oNe (eCall F_ways (aCons (eVar 2) (aCons (eVar 4) (aNil)))) (eUse 6))) (sRet (eC (.bl false))) (sNil)) (sCons (sIf (bB (e2 oEq (eUse 6) (eLst (aNil)))) (sRet (eC (.bl true))) (sNil)) (sCons (sSet 7 (eCall F__law_pick (aCons (eVar 0) (aCons (e2 oCat (eC (.int 50)) (eUse 5)) (aCons (eVar 6) (aNil)))))) (sCons (sSet 8 (eCall F__law_seen (aCons (eVar 1) (aCons (eCall F__law_end (aCons (eVar 1) (aCons (eVar 7) (aCons (e2 oIx (eUse 4) (eC (.int 0))) (aNil))))) (aCons (e2 oIx (eUse 4) (eC (.int 1))) (aCons (e2 oIx (eUse 4) (eC (.int 2))) (aNil))))))) (sCons (sIf (bB (e2 oNe (eCall F_results (aCons (eVar 2) (aCons (eVar 4) (aCons (eVar 7) (aNil))))) (eUse 8))) (sRet (eC (.bl false))) (sNil)) (sSet 4 (eCall F__law_pick (aCons (eVar 0) (aCons (e2 oCat (eC (.int 60)) (eUse 5)) (aCons (eVar 8) (aNil))))))))))))) (sRet (eC (.bl true)))))))))))
theorem sc_law : FnScope ["_law_script", "_law_plain", "_law_chart", "_law_every", "_law_state", "_law_turn", "_law_free", "_law_road", "_law_ends", "_law_world"] ["_law_script"] (defScope st_law) := ⟨rfl, rfl, rfl, by decide +kernel, rfl, by decide +kernel, by decide +kernel⟩
theorem ok_law (X : Tx K mg A) (TB : LamX.TabB base mg A.tc A.tp) : FnOk P w K mg base CX0 9 (A.a 46) (A.d 46) ["_law_script"] (SpF K (tab A) F_law) := def_ok (n := 1) (m := 9) X.f46 sc_law rfl rfl fun cdv A' outer s H E hr =>
  (ss_cons (ss_set (i := 1) sc_law.nd rfl (by first | exact Or.inl rfl | exact Or.inr rfl) (ee_call (ok__law_map X TB) (hr.mono (by decide : 2 ≤ 8)) rfl X.g1 X.f1.kp X.b1 pass0 (aa_cons (ee_var (pv 0)) (aa_cons ee_int (aa_cons ee_int (aa_cons ee_int aa_nil))))))
    (ss_cons (ss_set (i := 2) sc_law.nd rfl (by first | exact Or.inl rfl | exact Or.inr rfl) (ee_make rfl X.mk0 (ok_Map___init__ X TB) (hr.mono (by decide : 6 ≤ 8)) rfl X.gc0 X.b8 pass0 (aa_cons (ee_sub_ (ee_use (pv 1)) ee_int (fun _ _ => rfl)) (aa_cons (ee_sub_ (ee_use (pv 1)) ee_int (fun _ _ => rfl)) (aa_cons (ee_sub_ (ee_use (pv 1)) ee_int (fun _ _ => rfl)) (aa_cons (ee_sub_ (ee_use (pv 1)) ee_int (fun _ _ => rfl)) aa_nil))))))
    (ss_cons (ss_if (PW.pt (tw_or (tt_ne hr.units (ee_tup (aa_cons (ee_prop rfl X.cl0 X.p12 (ok_Map_places X TB) (hr.mono (by decide : 2 ≤ 8)) X.b12 pass0 (ee_var (pv 2))) (aa_cons (ee_prop rfl X.cl0 X.p11 (ok_Map_roads X TB) (hr.mono (by decide : 2 ≤ 8)) X.b11 pass0 (ee_var (pv 2))) (aa_cons (ee_prop rfl X.cl0 X.p10 (ok_Map_ends X TB) (hr.mono (by decide : 2 ≤ 8)) X.b10 pass0 (ee_var (pv 2))) (aa_cons (ee_prop rfl X.cl0 X.p9 (ok_Map_most X TB) (hr.mono (by decide : 2 ≤ 8)) X.b9 pass0 (ee_var (pv 2))) aa_nil))))) (ee_use (pv 1))) (tw_or1 (tt_ne hr.units (ee_lenO rfl X.ln0 X.lf0 (ok_Map___len__ X TB) (hr.mono (by decide : 2 ≤ 8)) X.b13 pass0 rfl X.n_len (ee_var (pv 2))) (ee_len rfl X.n_len (aa_cons (ee_sub_ (ee_use (pv 1)) ee_int (fun _ _ => rfl)) aa_nil)))))) (ss_one (ss_ret ee_bl)) ss_nil)
    (ss_cons (ss_set (i := 3) sc_law.nd rfl (by first | exact Or.inl rfl | exact Or.inr rfl) (ee_call (ok__law_parts X TB) (hr.mono (by decide : 3 ≤ 8)) rfl X.g14 X.f14.kp X.b14 pass0 (aa_cons (ee_lrange rfl rfl X.n_list rfl X.n_range (ee_len rfl X.n_len (aa_cons (ee_sub_ (ee_use (pv 1)) ee_int (fun _ _ => rfl)) aa_nil))) (aa_cons (ee_sub_ (ee_use (pv 1)) ee_int (fun _ _ => rfl)) aa_nil))))
    (ss_cons (ss_if (PW.pt (tw_or (tt_ne hr.units (ee_call (ok_worlds X TB) (hr.mono (by decide : 3 ≤ 8)) rfl X.g17 X.f17.kp X.b17 pass0 (aa_cons (ee_var (pv 2)) aa_nil)) (ee_use (pv 3))) (tw_or1 (tt_ne hr.units (ee_call (ok_first_states X TB) (hr.mono (by decide : 6 ≤ 8)) rfl X.g22 X.f22.kp X.b22 pass0 (aa_cons (ee_var (pv 2)) aa_nil)) (ee_call (ok__law_first X TB) (hr.mono (by decide : 5 ≤ 8)) rfl X.g25 X.f25.kp X.b25 pass0 (aa_cons (ee_var (pv 1)) aa_nil)))))) (ss_one (ss_ret ee_bl)) ss_nil)
    (ss_cons (ss_if (tt_ne hr.units (ee_lc (own := [("_law_world", 9)]) rfl sc_law.nd (ii_data (ee_var (pv 3))) (by exact blkOk_by (N := ["_law_script", "_law_plain", "_law_chart", "_law_every", "_law_state", "_law_turn", "_law_free", "_law_road", "_law_ends", "_law_world"]) (sc := defScope st_law) (own := [("_law_world", 9)]) (by decide +kernel)) (fun _ _ _ _ _ => (gg_name (i := 9) sc_law.nd rfl (by first | exact Or.inl rfl | exact Or.inr rfl))) (fun _ _ _ _ _ => ts_nil) (fun _ _ _ _ _ => (ee_call (ok_open_length X TB) (hr.mono (by decide : 7 ≤ 8)) rfl X.g34 X.f34.kp X.b34 pass0 (aa_cons (ee_var (pv 2)) (aa_cons (ee_var (pv 9)) aa_nil))))) (ee_lc (own := [("_law_world", 9)]) rfl sc_law.nd (ii_data (ee_var (pv 3))) (by exact blkOk_by (N := ["_law_script", "_law_plain", "_law_chart", "_law_every", "_law_state", "_law_turn", "_law_free", "_law_road", "_law_ends", "_law_world"]) (sc := defScope st_law) (own := [("_law_world", 9)]) (by decide +kernel)) (fun _ _ _ _ _ => (gg_name (i := 9) sc_law.nd rfl (by first | exact Or.inl rfl | exact Or.inr rfl))) (fun _ _ _ _ _ => ts_nil) (fun _ _ _ _ _ => (ee_call (ok__law_far X TB) (hr.mono (by decide : 1 ≤ 8)) rfl X.g35 X.f35.kp X.b35 pass0 (aa_cons (ee_var (pv 1)) (aa_cons (ee_var (pv 9)) (aa_cons (ee_sub_ (ee_sub_ (ee_use (pv 1)) ee_int (fun _ _ => rfl)) ee_int (fun _ _ => rfl)) aa_nil))))))) (ss_one (ss_ret ee_bl)) ss_nil)
    (ss_cons (ss_set (i := 4) sc_law.nd rfl (by first | exact Or.inl rfl | exact Or.inr rfl) (ee_call (ok__law_pick X TB) (hr.mono (by decide : 2 ≤ 8)) rfl X.g36 X.f36.kp X.b36 pass0 (aa_cons (ee_var (pv 0)) (aa_cons ee_int (aa_cons (ee_call (ok__law_first X TB) (hr.mono (by decide : 5 ≤ 8)) rfl X.g25 X.f25.kp X.b25 pass0 (aa_cons (ee_var (pv 1)) aa_nil)) aa_nil)))))
    (ss_cons (ss_for PassesOwn.never rfl (ii_range1 rfl X.n_range (aa_cons ee_int aa_nil)) (gg_name (i := 5) sc_law.nd rfl (by first | exact Or.inl rfl | exact Or.inr rfl)) (ss_cons (ss_setLc (i := 6) (own := [("_law_road", 7)]) rfl sc_law.nd rfl rfl rfl (ii_data (ee_call (ok__law_at X TB) (hr.mono (by decide : 1 ≤ 8)) rfl X.g23 X.f23.kp X.b23 pass0 (aa_cons (ee_var (pv 1)) (aa_cons (ee_sub_ (ee_use (pv 4)) ee_int (fun _ _ => rfl)) aa_nil)))) (by exact blkOk_by (N := ["_law_script", "_law_plain", "_law_chart", "_law_every", "_law_state", "_law_turn", "_law_free", "_law_road", "_law_ends", "_law_world"]) (sc := defScope st_law) (own := [("_law_road", 7)]) (by decide +kernel)) (fun _ _ _ _ _ => (gg_name (i := 7) sc_law.nd rfl (by first | exact Or.inl rfl | exact Or.inr rfl))) (fun _ _ _ _ _ => (ts_one (tt_in (ee_use (pv 7)) (ee_sub_ (ee_use (pv 4)) ee_int (fun _ _ => rfl)) rfl))) (fun _ _ _ _ _ => (ee_var (pv 7))))
    (ss_cons (ss_if (tt_ne hr.units (ee_call (ok_ways X TB) (hr.mono (by decide : 8 ≤ 8)) rfl X.g40 X.f40.kp X.b40 pass0 (aa_cons (ee_var (pv 2)) (aa_cons (ee_var (pv 4)) aa_nil))) (ee_use (pv 6))) (ss_one (ss_ret ee_bl)) ss_nil)
    (ss_cons (ss_if (tt_eq hr.units (ee_use (pv 6)) (ee_lst aa_nil)) (ss_one (ss_ret ee_bl)) ss_nil)
    (ss_cons (ss_set (i := 7) sc_law.nd rfl (by first | exact Or.inl rfl | exact Or.inr rfl) (ee_call (ok__law_pick X TB) (hr.mono (by decide : 2 ≤ 8)) rfl X.g36 X.f36.kp X.b36 pass0 (aa_cons (ee_var (pv 0)) (aa_cons (ee_cat ee_int (ee_use (pv 5))) (aa_cons (ee_var (pv 6)) aa_nil)))))
    (ss_cons (ss_set (i := 8) sc_law.nd rfl (by first | exact Or.inl rfl | exact Or.inr rfl) (ee_call (ok__law_seen X TB) (hr.mono (by decide : 4 ≤ 8)) rfl X.g24 X.f24.kp X.b24 pass0 (aa_cons (ee_var (pv 1)) (aa_cons (ee_call (ok__law_end X TB) (hr.mono (by decide : 1 ≤ 8)) rfl X.g41 X.f41.kp X.b41 pass0 (aa_cons (ee_var (pv 1)) (aa_cons (ee_var (pv 7)) (aa_cons (ee_sub_ (ee_use (pv 4)) ee_int (fun _ _ => rfl)) aa_nil)))) (aa_cons (ee_sub_ (ee_use (pv 4)) ee_int (fun _ _ => rfl)) (aa_cons (ee_sub_ (ee_use (pv 4)) ee_int (fun _ _ => rfl)) aa_nil))))))
    (ss_cons (ss_if (tt_ne hr.units (ee_call (ok_results X TB) (hr.mono (by decide : 8 ≤ 8)) rfl X.g45 X.f45.kp X.b45 pass0 (aa_cons (ee_var (pv 2)) (aa_cons (ee_var (pv 4)) (aa_cons (ee_var (pv 7)) aa_nil)))) (ee_use (pv 8))) (ss_one (ss_ret ee_bl)) ss_nil)
    (ss_one (ss_set (i := 4) sc_law.nd rfl (by first | exact Or.inl rfl | exact Or.inr rfl) (ee_call (ok__law_pick X TB) (hr.mono (by decide : 2 ≤ 8)) rfl X.g36 X.f36.kp X.b36 pass0 (aa_cons (ee_var (pv 0)) (aa_cons (ee_cat ee_int (ee_use (pv 5))) (aa_cons (ee_var (pv 8)) aa_nil)))))))))))))
    (ss_one (ss_ret ee_bl))))))))))
end
end Dt
end

section
set_option Elab.async false
set_option linter.all false
set_option maxRecDepth 100000
set_option maxHeartbeats 4000000
set_option autoImplicit false
namespace Dt
open PySem PySem.Spec PyProof.Rows L2
/-! ### the functions on slots, by simp -/
section
variable {ρ : Env} {i j n m : Nat} {d e : D} {f g h : EF} {p q : BF} {a : AF} {s t : SF} {src : IF} {gf : GF}
@[simp] theorem z_getD {β : Type} (k : D → Env → Res β) : getD f k ρ = (f ρ).bind fun p => (Res.of (deref p.2 p.1.hold)).bind fun d => k d p.2 := rfl
@[simp] theorem z_getB {β : Type} (k : Bool → Env → Res β) : getB p k ρ = (p ρ).bind fun x => k x.1 x.2 := rfl
@[simp] theorem z_eVar : eVar i ρ = match ρ[i]? with
  | some (.fro d) => .ok (.fro d, ρ)
  | some (.own d) => .ok (.fro d, ρ.set i (.fro d))
  | _ => .bad := rfl
@[simp] theorem z_eUse : eUse i ρ = match ρ[i]? with
  | some (.fro d) => .ok (.fro d, ρ)
  | some (.own _) => .ok (.bor i, ρ)
  | some (.brw _) => .ok (.bor i, ρ)
  | _ => .bad := rfl
@[simp] theorem z_eC : eC d ρ = .ok (.fro d, ρ) := rfl
@[simp] theorem z_e1 (k : D → Res RV) : e1 k f ρ = (f ρ).bind fun (x, ρ1) => (Res.of (deref ρ1 x.hold)).bind fun d => (k d).bind fun r => .ok (r, ρ1) := rfl
@[simp] theorem z_e2 (k : D → D → Res RV) : e2 k f g ρ = (f ρ).bind fun (x, ρ1) => (g ρ1).bind fun (y, ρ2) => (Res.of (deref ρ2 x.hold)).bind fun d => (Res.of (deref ρ2 y.hold)).bind fun e => (k d e).bind fun r => .ok (r, ρ2) := rfl
@[simp] theorem z_hold_fro : RV.hold (.fro d) = .fro d := rfl
@[simp] theorem z_hold_own : RV.hold (.own d) = .fro d := rfl
@[simp] theorem z_hold_bor : RV.hold (.bor i) = .bor i := rfl
@[simp] theorem z_deref_fro : deref ρ (.fro d) = some d := rfl
@[simp] theorem z_deref_own : deref ρ (.own d) = some d := rfl
@[simp] theorem z_deref_bor : deref ρ (.bor i) = match ρ[i]? with
    | some (.fro d) => some d
    | some (.own d) => some d
    | some (.brw d) => some d
    | _ => none := rfl
@[simp] theorem z_bB : bB f ρ = (f ρ).bind fun p => (Res.of (deref p.2 p.1.hold)).bind fun d => match d with
  | .bl b => .ok (b, p.2)
  | _ => .bad := rfl
@[simp] theorem z_bAnd : bAnd p q ρ = (p ρ).bind fun x => if x.1 = true then q x.2 else .ok (false, x.2) := rfl
@[simp] theorem z_bOr : bOr p q ρ = (p ρ).bind fun x => if x.1 = true then .ok (true, x.2) else q x.2 := rfl
@[simp] theorem z_bNot : bNot p ρ = (p ρ).bind fun x => .ok (!x.1, x.2) := rfl
@[simp] theorem z_eIf : eIf p f g ρ = (p ρ).bind fun x => if x.1 = true then f x.2 else g x.2 := rfl
@[simp] theorem z_eAnd : eAnd f g ρ = (f ρ).bind fun p => (Res.of (deref p.2 p.1.hold)).bind fun d => match d with
  | .bl b => if b = true then g p.2 else .ok (.fro (.bl false), p.2)
  | _ => .bad := rfl
@[simp] theorem z_eOr : eOr f g ρ = (f ρ).bind fun p => (Res.of (deref p.2 p.1.hold)).bind fun d => match d with
  | .bl b => if b = true then .ok (.fro (.bl true), p.2) else g p.2
  | _ => .bad := rfl
@[simp] theorem z_eNot : eNot f ρ = (f ρ).bind fun p => (Res.of (deref p.2 p.1.hold)).bind fun d => match d with
  | .bl b => .ok (.fro (.bl (!b)), p.2)
  | _ => .bad := rfl
@[simp] theorem z_eChain (k k' : D → D → Res RV) : eChain k k' f g h ρ = (f ρ).bind fun (x, ρ1) => (g ρ1).bind fun (y, ρ2) => (Res.of (deref ρ2 x.hold)).bind fun d => (Res.of (deref ρ2 y.hold)).bind fun e => (k d e).bind fun r => match r with
  | .fro (.bl b) => if b = true then (h ρ2).bind fun (z, ρ3) => (Res.of (deref ρ3 y.hold)).bind fun e => (Res.of (deref ρ3 z.hold)).bind fun h => (k' e h).bind fun r => .ok (r, ρ3) else .ok (.fro (.bl false), ρ2)
  | _ => .bad := rfl
@[simp] theorem z_aNil : aNil ρ = .ok ([], ρ) := rfl
@[simp] theorem z_aCons : aCons f a ρ = (f ρ).bind fun (x, ρ1) => (a ρ1).bind fun (xs, ρ2) => .ok (x.hold :: xs, ρ2) := rfl
@[simp] theorem z_aStar : aStar f a ρ = (f ρ).bind fun p => (Res.of (deref p.2 p.1.hold)).bind fun d => (Res.of d.items).bind fun ds => (a p.2).bind fun p => .ok (ds.map .fro ++ p.1, p.2) := rfl
@[simp] theorem z_frozen_nil : frozen [] = some [] := rfl
@[simp] theorem z_frozen_cons (r : List RV) : frozen (.fro d :: r) = (frozen r).map (d :: ·) := rfl
@[simp] theorem z_derefs_nil : derefs ρ [] = some [] := rfl
@[simp] theorem z_derefs_cons (r : RV) (rs : List RV) : derefs ρ (r :: rs) = match deref ρ r, derefs ρ rs with
    | some d, some ds => some (d :: ds)
    | _, _ => none := rfl
@[simp] theorem z_eTup : eTup a ρ = (a ρ).bind fun (rs, ρ1) => (Res.of (frozen rs)).bind fun ds => if ds.length ≤ sizeLine then .ok (.fro (.tup ds), ρ1) else .bad := rfl
@[simp] theorem z_eLst : eLst a ρ = (a ρ).bind fun (rs, ρ1) => (Res.of (frozen rs)).bind fun ds => if ds.length ≤ sizeLine then .ok (.own (.lst ds), ρ1) else .bad := rfl
@[simp] theorem z_eCB (k : List D → Res RV) : eCB k a ρ = (a ρ).bind fun (rs, ρ1) => (Res.of (derefs ρ1 rs)).bind fun ds => (k ds).bind fun r => .ok (r, ρ1) := rfl
@[simp] theorem z_c1 (k : D → Res RV) : c1 k [d] = k d := rfl
@[simp] theorem z_c2 (k : D → D → Res RV) : c2 k [d, e] = k d e := rfl
@[simp] theorem z_sNil : sNil ρ = .ok (.nx, ρ) := rfl
@[simp] theorem z_sCons : sCons s t ρ = (s ρ).bind fun p => match p.1 with
  | .nx => t p.2
  | fl => .ok (fl, p.2) := rfl
@[simp] theorem z_sDrop : sDrop f ρ = (f ρ).bind fun p => .ok (.nx, p.2) := rfl
@[simp] theorem z_sRet : sRet f ρ = (f ρ).bind fun p => .ok (.ret p.1, p.2) := rfl
@[simp] theorem z_sRetN : sRetN ρ = .ok (.ret (.fro .non), ρ) := rfl
@[simp] theorem z_sIf : sIf p s t ρ = (p ρ).bind fun x => if x.1 = true then s x.2 else t x.2 := rfl
@[simp] theorem z_sSet : sSet i f ρ = (f ρ).bind fun p => (Res.of (storeC p.1)).bind fun c => .ok (.nx, p.2.set i c) := rfl
@[simp] theorem z_sPar : sPar i j f g ρ = (f ρ).bind fun p => (g p.2).bind fun q => (Res.of (storeC p.1)).bind fun c => (Res.of (storeC q.1)).bind fun d => .ok (.nx, (q.2.set i c).set j d) := rfl
@[simp] theorem z_store_fro : storeC (.fro d) = some (.fro d) := rfl
@[simp] theorem z_store_own : storeC (.own d) = some (.own d) := rfl
@[simp] theorem z_sAsg : sAsg gf f ρ = (f ρ).bind fun p => match p.1 with
  | .fro d => (gf d p.2).bind fun ρ1 => .ok (.nx, ρ1)
  | .own d => (gf d p.2).bind fun ρ1 => .ok (.nx, ρ1)
  | _ => .bad := rfl
@[simp] theorem z_gN : gN i d ρ = .ok (ρ.set i (.fro d)) := rfl
@[simp] theorem z_gsNil : gsNil [] ρ = .ok ρ := rfl
@[simp] theorem z_gsCons (k : List D → Env → Res Env) (ds : List D) : gsCons gf k (d :: ds) ρ = (gf d ρ).bind fun ρ1 => k ds ρ1 := rfl
@[simp] theorem z_gT (k : List D → Env → Res Env) (ds : List D) : gT n k (.tup ds) ρ = if ds.length = n then k ds ρ else .bad := rfl
@[simp] theorem z_sFor : sFor gf src s ρ = (src ρ).bind fun p => forL gf s p.1 p.2 := rfl
@[simp] theorem z_runF (cs : List Cell) : runF n m s cs = if cs.length = n then (s (cs ++ List.replicate m .un)).bind fun p => if n ≤ p.2.length then (match p.1 with
    | .nx => .ok (.fro .non, (p.2.take n).map outC)
    | .ret (.fro d) => .ok (.fro d, (p.2.take n).map outC)
    | .ret (.own d) => .ok (.own d, (p.2.take n).map outC)
    | _ => .bad) else .bad else .bad := rfl
@[simp] theorem z_eCall (k : Fm) : eCall k a ρ = (a ρ).bind fun p => (Res.of (frozen p.1)).bind fun ds => (k (ds.map .fro)).bind fun q => if q.1.made = true then .ok (q.1, p.2) else .bad := rfl
@[simp] theorem z_made_fro : (RV.fro d).made = true := rfl
@[simp] theorem z_made_own : (RV.own d).made = true := rfl
@[simp] theorem z_oSelf (c : Nat) (k : Fm) : oSelf c k f ρ = (f ρ).bind fun p => match p.1 with
  | .fro (.obj n ds) => (Res.need (n == c)).bind fun _ => (k [.fro (.obj n ds)]).bind fun q => (Res.need q.1.made).bind fun _ => .ok (q.1, p.2)
  | _ => .bad := rfl
theorem z_eLenO (c : Nat) (k : Fm) : eLenO c k f ρ = (oSelf c k f ρ).bind fun p => match p.1 with
  | .fro (.int n) => (Res.need (decide (0 ≤ n) && decide (n < 2 ^ 63))).bind fun _ => .ok (.fro (.int n), p.2)
  | _ => .bad := rfl
@[simp] theorem z_eFld (tbl : List (Nat × Nat)) : eFld tbl f ρ = (f ρ).bind fun p => (Res.of (deref p.2 p.1.hold)).bind fun d => match d with
  | .obj c ds => (Res.of (tbl.lookup c)).bind fun k => (Res.of ds[k]?).bind fun x => .ok (.fro x, p.2)
  | _ => .bad := rfl
@[simp] theorem z_gInt (k : Int → Int → Res RV) (x y : Int) : gInt k (.int x) (.int y) = k x y := rfl
@[simp] theorem z_oInt (c : Int → Int → Bool) (k : Int → Int → Int) (x y : Int) : oInt c k (.int x) (.int y) = if c x y then .ok (.fro (.int (k x y))) else .bad := rfl
@[simp] theorem z_oCmp (k : Int → Int → Bool) (x y : Int) : oCmp k (.int x) (.int y) = .ok (.fro (.bl (k x y))) := rfl
@[simp] theorem z_oCat_int (x y : Int) : oCat (.int x) (.int y) = .ok (.fro (.int (x + y))) := rfl
@[simp] theorem z_oIsi (k : Isi) : oIsi k d = (Res.of (k.of d)).bind fun b => .ok (.fro (.bl b)) := rfl
@[simp] theorem z_oIntOf (x : Int) : oIntOf (.int x) = .ok (.fro (.int x)) := rfl
@[simp] theorem z_outC_un : outC .un = .un := rfl
@[simp] theorem z_outC_fro : outC (.fro d) = .un := rfl
@[simp] theorem z_outC_own : outC (.own d) = .un := rfl
@[simp] theorem z_outC_brw : outC (.brw d) = .brw d := rfl
end
theorem m_integer (v : Int) : F_is_integer [.fro (.int v)] = .ok (.fro (.bl true), [.un]) := by
  simp [F_is_integer, isi_int, isi_bool, Isi.of]
theorem m_within (v lo hi : Int) : F_is_within [.fro (.int v), .fro (.int lo), .fro (.int hi)] = .ok (.fro (.bl (decide (lo ≤ v) && decide (v ≤ hi))), [.un, .un, .un]) := by
  simp [F_is_within, m_integer]
  by_cases h : lo ≤ v <;> simp [h]
end Dt
end

section
set_option Elab.async false
set_option linter.all false
set_option maxRecDepth 100000
set_option maxHeartbeats 4000000
set_option autoImplicit false
namespace Dt
open PySem PySem.Spec PyProof.Rows L2
/-! ### data that is equal to itself -/
inductive Gd : Nat → D → Prop
  | non {n : Nat} : Gd n .non
  | bl {n : Nat} (b : Bool) : Gd n (.bl b)
  | int {n : Nat} (i : Int) : Gd n (.int i)
  | tup {n : Nat} {xs : List D} : (∀ x ∈ xs, Gd n x) → Gd (n + 1) (.tup xs)
  | lst {n : Nat} {xs : List D} : (∀ x ∈ xs, Gd n x) → Gd (n + 1) (.lst xs)
theorem gd_all {n : Nat} : ∀ {xs : List D}, (∀ x ∈ xs, ∃ p, x.py = some p ∧ p.canLay0 = true ∧ p.depth ≤ n) → ∃ ps, D.pys xs = some ps ∧ PyData.canLayAll0 ps = true ∧ PyData.depthAll ps ≤ n
  | [], _ => ⟨[], rfl, rfl, Nat.zero_le _⟩
  | x :: xs, h => by
    obtain ⟨p, h1, h2, h3⟩ := h x (List.mem_cons_self ..)
    obtain ⟨ps, h4, h5, h6⟩ := gd_all (xs := xs) fun y hy => h y (List.mem_cons_of_mem _ hy)
    refine ⟨p :: ps, by rw [D.pys, h1, h4], ?_, ?_⟩
    · rw [PyData.canLayAll0, h2, h5]; rfl
    · rw [PyData.depthAll]; exact Nat.max_le.mpr ⟨h3, h6⟩
theorem Gd.py {n : Nat} {d : D} (h : Gd n d) : ∃ p, d.py = some p ∧ p.canLay0 = true ∧ p.depth ≤ n := by
  induction h with
  | non => exact ⟨_, rfl, rfl, Nat.zero_le _⟩
  | bl b => exact ⟨_, rfl, rfl, Nat.zero_le _⟩
  | int i => exact ⟨_, rfl, rfl, Nat.zero_le _⟩
  | tup _ ih =>
    obtain ⟨ps, h1, h2, h3⟩ := gd_all ih
    exact ⟨.tuple ps, by rw [D.py, h1]; rfl, by rw [PyData.canLay0]; exact h2, by rw [PyData.depth]; exact Nat.succ_le_succ h3⟩
  | lst _ ih =>
    obtain ⟨ps, h1, h2, h3⟩ := gd_all ih
    exact ⟨.list ps, by rw [D.py, h1]; rfl, by rw [PyData.canLay0]; exact h2, by rw [PyData.depth]; exact Nat.succ_le_succ h3⟩
theorem Gd.eqv {n : Nat} {d : D} (h : Gd n d) (hn : n ≤ 64 := by decide) : d.eqv d = some true := by
  obtain ⟨p, h1, h2, h3⟩ := h.py
  have hs : SeqAt.shaped p = true := by
    unfold SeqAt.shaped
    rw [h2, decide_eq_true (Nat.le_trans h3 hn)]; rfl
  unfold D.eqv
  rw [h1]
  simp only [hs, Bool.and_self, if_true]
  rw [SeqAt.eqv_refl p h2]
theorem oNe_self {n : Nat} {d : D} (h : Gd n d) (hn : n ≤ 64 := by decide) : oNe d d = .ok (.fro (.bl false)) := by unfold oNe; rw [h.eqv hn]; rfl
theorem oEq_self {n : Nat} {d : D} (h : Gd n d) (hn : n ≤ 64 := by decide) : oEq d d = .ok (.fro (.bl true)) := by unfold oEq; rw [h.eqv hn]; rfl
@[simp] theorem eqv_int (x y : Int) : D.eqv (.int x) (.int y) = some (x == y) := rfl
@[simp] theorem z_oNe_int (x y : Int) : oNe (.int x) (.int y) = .ok (.fro (.bl (!(x == y)))) := rfl
@[simp] theorem z_oEq_int (x y : Int) : oEq (.int x) (.int y) = .ok (.fro (.bl (x == y))) := rfl
@[simp] theorem z_oLen_tup (xs : List D) : oLen (.tup xs) = .ok (.fro (.int xs.length)) := rfl
@[simp] theorem z_oLen_lst (xs : List D) : oLen (.lst xs) = .ok (.fro (.int xs.length)) := rfl
@[simp] theorem z_oListOf_tup (xs : List D) : oListOf (.tup xs) = .ok (.own (.lst xs)) := rfl
@[simp] theorem z_oTupOf_lst (xs : List D) : oTupOf (.lst xs) = .ok (.fro (.tup xs)) := rfl
/-! ### comprehensions -/
theorem lcL_map {gf : GF} {vs : List Nat} {tt : BF} {te : EF} {ρ0 : Env} (b : D → Bool) (y : D → D) : ∀ {ds : List D} {acc : List D}, (∀ d ∈ ds, ∃ ρ1 ρ2, gf d ρ0 = .ok ρ1 ∧ tt ρ1 = .ok (b d, ρ2) ∧ (b d = false → wipeE ρ2 vs = ρ0) ∧ (b d = true → ∃ r ρ3, te ρ2 = .ok (r, ρ3) ∧ r.take = some (y d) ∧ wipeE ρ3 vs = ρ0)) →
    acc.length + ds.length ≤ sizeLine → lcL gf vs tt te ds ρ0 acc = .ok (acc ++ (ds.filter b).map y, ρ0)
  | [], acc, _, _ => by simp [lcL]
  | d :: ds, acc, h, hl => by
    obtain ⟨ρ1, ρ2, h1, h2, h3, h4⟩ := h d (List.mem_cons_self ..)
    have hr : ∀ d ∈ ds, _ := fun d hd => h d (List.mem_cons_of_mem _ hd)
    rw [List.length_cons] at hl
    cases hb : b d with
    | false =>
      have ih := lcL_map b y (acc := acc) hr (by omega)
      simp [lcL, h1, h2, hb, h3 hb, ih, List.filter_cons]
    | true =>
      obtain ⟨r, ρ3, h5, h6, h7⟩ := h4 hb
      have ih := lcL_map b y (acc := acc ++ [y d]) hr (by rw [List.length_append]; simp; omega)
      have hlt : acc.length < sizeLine := by omega
      simp [lcL, h1, h2, hb, h5, h6, h7, hlt, ih, List.filter_cons]
@[simp] theorem z_eLc {gf : GF} {vs : List Nat} {src : IF} {tt : BF} {te : EF} {ρ : Env} : eLc gf vs src tt te ρ = (src ρ).bind fun p => (lcL gf vs tt te p.1 (wipeE p.2 vs) []).bind fun q => .ok (.own (.lst q.1), q.2) := rfl
@[simp] theorem z_iData {f : EF} {ρ : Env} : iData f ρ = (f ρ).bind fun p => match p.1 with
  | .fro d => (Res.of d.items).bind fun ds => .ok (ds, p.2)
  | .own d => (Res.of d.items).bind fun ds => .ok (ds, p.2)
  | _ => .bad := rfl
@[simp] theorem z_iEnumD {f : AF} {ρ : Env} : iEnumD f ρ = (f ρ).bind fun p => match p.1 with
  | [.fro d] => (Res.of d.items).bind fun ds => .ok (pairs ds, p.2)
  | _ => .bad := rfl
@[simp] theorem z_items_tup (xs : List D) : (D.tup xs).items = some xs := rfl
@[simp] theorem z_items_lst (xs : List D) : (D.lst xs).items = some xs := rfl
@[simp] theorem z_wipe_nil (ρ : Env) : wipeE ρ [] = ρ := rfl
@[simp] theorem z_wipe_cons (ρ : Env) (v : Nat) (vs : List Nat) : wipeE ρ (v :: vs) = (wipeE ρ vs).set v .un := rfl
@[simp] theorem z_bYes (ρ : Env) : bYes ρ = .ok (true, ρ) := rfl
@[simp] theorem z_take_fro (d : D) : (RV.fro d).take = some d := rfl
@[simp] theorem z_take_own (d : D) : (RV.own d).take = some d := rfl
theorem bls_true : ∀ {ds : List D}, (∀ d ∈ ds, d = .bl true) → bls ds = some (List.replicate ds.length true)
  | [], _ => rfl
  | d :: ds, h => by
    rw [h d (List.mem_cons_self ..), bls, bls_true fun x hx => h x (List.mem_cons_of_mem _ hx)]; rfl
theorem bls_map (f : D → Bool) : ∀ ds : List D, bls (ds.map fun d => .bl (f d)) = some (ds.map f)
  | [] => rfl
  | d :: ds => by rw [List.map_cons, bls, bls_map f ds]; rfl
theorem oAll_map (f : D → Bool) (ds : List D) : oAll (.lst (ds.map fun d => .bl (f d))) = .ok (.fro (.bl (ds.all f))) := by
  simp [oAll, bls_map, List.all_map, Function.comp_def]
theorem oAny_map (f : D → Bool) (ds : List D) : oAny (.lst (ds.map fun d => .bl (f d))) = .ok (.fro (.bl (ds.any f))) := by
  simp [oAny, bls_map, List.any_map, Function.comp_def]
/-! ### the map -/
abbrev Rd := Int × Int × Int
def rd (r : Rd) : D := .tup [.int r.1, .int r.2.1, .int r.2.2]
def k3 (r : Rd) : List Int := [r.1, r.2.1, r.2.2]
structure Pl where
  P : Int
  rs : List Rd
  b : Int
  g : Int
  m : Int
def Pl.ds (p : Pl) : List D := [.int p.P, .tup (p.rs.map rd), .tup [.int p.b, .int p.g], .int p.m]
def Pl.ch (p : Pl) : D := .obj 0 p.ds
def Pl.pl (p : Pl) : D := .tup p.ds
structure RdOk (P : Int) (r : Rd) : Prop where
  a0 : 0 ≤ r.1
  ab : r.1 < r.2.1
  bP : r.2.1 < P
  l1 : 1 ≤ r.2.2
  l9 : r.2.2 ≤ 9
structure Pl.Ok (p : Pl) : Prop where
  P2 : 2 ≤ p.P
  P6 : p.P ≤ 6
  r1 : 1 ≤ p.rs.length
  r8 : p.rs.length ≤ 8
  rd : ∀ r ∈ p.rs, RdOk p.P r
  asc : p.rs.Pairwise fun a b => TS.code 64 (k3 a) < TS.code 64 (k3 b)
  b0 : 0 ≤ p.b
  bP : p.b < p.P
  g0 : 0 ≤ p.g
  gP : p.g < p.P
  bg : p.b ≠ p.g
  m0 : 0 ≤ p.m
  m2 : p.m ≤ 2
theorem m_triple {P : Int} {r : Rd} (h : RdOk P r) : F__is_triple [.fro (.int P), .fro (rd r)] = .ok (.fro (.bl true), [.un, .un]) := by
  have h1 := h.a0; have h2 := h.ab; have h3 := h.bP; have h4 := h.l1; have h5 := h.l9
  simp [F__is_triple, rd, isi_tuple, Isi.of, m_within]
  simp [show (1 : Int) ≤ r.2.1 by omega, show r.2.1 ≤ P - 1 by omega, show 0 ≤ r.1 by omega, show r.1 ≤ r.2.1 - 1 by omega, h4, h5]
theorem tups_rd : ∀ rs : List Rd, D.tups (rs.map rd) = some (rs.map k3)
  | [] => rfl
  | r :: rs => by
    rw [List.map_cons, rd, D.tups, tups_rd rs]; rfl
theorem kD_k3 (r : Rd) : kD (k3 r) = rd r := rfl
theorem ints_L : ∀ l : List Int, D.ints (l.map .int) = some l
  | [] => rfl
  | i :: l => by rw [List.map_cons, D.ints, ints_L l]; rfl
theorem small_of_ok {P : Int} {r : Rd} (h : RdOk P r) (hP : P ≤ 6) : tupB 3 (k3 r) = true := by
  have h1 := h.a0; have h2 := h.ab; have h3 := h.bP; have h4 := h.l1; have h5 := h.l9
  unfold tupB k3
  simp
  omega
theorem m_asc_rd {rs : List Rd} {P : Int} (h1 : 1 ≤ rs.length) (h8 : rs.length ≤ 8) (hP : P ≤ 6) (hr : ∀ r ∈ rs, RdOk P r) (ha : rs.Pairwise fun a b => TS.code 64 (k3 a) < TS.code 64 (k3 b)) : F_ascends [.fro (.tup (rs.map rd))] = .ok (.fro (.bl true), [.un]) := by
  have e : oSSet (.tup (rs.map rd)) = .ok (.own (.lst (rs.map rd))) := by
    match rs, h1 with
    | r :: rs, _ =>
      have hn : D.ints ((r :: rs).map rd) = none := rfl
      have ha2 : ((r :: rs).map k3).Pairwise fun a b => TS.code 64 a < TS.code 64 b := List.pairwise_map.mpr ha
      have hall : ((r :: rs).map k3).all (tupB 3) = true := List.all_eq_true.mpr fun k hk => by
        obtain ⟨q, hq, rfl⟩ := List.mem_map.mp hk
        exact small_of_ok (hr q hq) hP
      show (match D.ints ((r :: rs).map rd) with
        | some ns => (Res.need (decide (ns.length < 64))).bind fun _ => Res.ok (RV.own (.lst ((ascU id ns).map .int)))
        | none => setT ((r :: rs).map rd)) = _
      rw [hn]
      show setT _ = _
      unfold setT
      rw [tups_rd]
      have hh : (((r :: rs).map k3).headD [0]).length = 3 := rfl
      rw [Res.of_some, Res.bind_ok, hh, hall, decide_eq_true (show ((r :: rs).map k3).length < 64 by rw [List.length_map]; omega)]
      show Res.ok _ = _
      rw [ascU_same ha2, List.map_map]; rfl
  have hg : Gd 3 (.lst (rs.map rd)) := .lst fun x hx => by
    obtain ⟨r, _, rfl⟩ := List.mem_map.mp hx
    exact .tup fun y hy => by
      simp at hy
      rcases hy with rfl | rfl | rfl <;> exact .int _
  simp [F_ascends, e, oEq_self hg]
theorem m_asc_L {l : List Int} (hl : l.length < 64) (ha : l.Pairwise (· < ·)) : F_ascends [.fro (.tup (l.map .int))] = .ok (.fro (.bl true), [.un]) := by
  have e : oSSet (.tup (l.map .int)) = .ok (.own (.lst (l.map .int))) := by
    show (match D.ints (l.map .int) with
      | some ns => (Res.need (decide (ns.length < 64))).bind fun _ => Res.ok (RV.own (.lst ((ascU id ns).map .int)))
      | none => setT (l.map .int)) = _
    rw [ints_L]
    show (Res.need (decide (l.length < 64))).bind _ = _
    rw [decide_eq_true hl]
    show Res.ok _ = _
    rw [ascU_same (f := id) ha]
  have hg : Gd 1 (.lst (l.map .int)) := .lst fun x hx => by
    obtain ⟨r, _, rfl⟩ := List.mem_map.mp hx
    exact .int _
  simp [F_ascends, e, oEq_self hg]
end Dt
end

section
set_option Elab.async false
set_option linter.all false
set_option maxRecDepth 100000
set_option maxHeartbeats 4000000
set_option autoImplicit false
namespace Dt
open PySem PySem.Spec PyProof.Rows L2
/-! ### Map(..) and its parts -/
theorem sl8 {n : Nat} (h : n ≤ 1000) : n ≤ sizeLine := Nat.le_trans h (by decide)
theorem filter_all {α : Type} {p : α → Bool} : ∀ {l : List α}, (∀ x ∈ l, p x = true) → l.filter p = l
  | [], _ => rfl
  | x :: l, h => by rw [List.filter_cons, h x (List.mem_cons_self ..), if_pos rfl, filter_all fun y hy => h y (List.mem_cons_of_mem _ hy)]
theorem bls_rep : ∀ n : Nat, bls (List.replicate n (.bl true)) = some (List.replicate n true)
  | 0 => rfl
  | n + 1 => by rw [List.replicate_succ, bls, bls_rep n]; rfl
@[simp] theorem oAll_rep (n : Nat) : oAll (.lst (List.replicate n (.bl true))) = .ok (.fro (.bl true)) := by
  show (Res.of (bls (List.replicate n (.bl true)))).bind _ = _
  rw [bls_rep]
  simp
/-- all of a comprehension whose elements are true -/
theorem lc_true {gf : GF} {vs : List Nat} {te : EF} {ρ0 : Env} {ds : List D} (h : ∀ d ∈ ds, ∃ ρ1 ρ3, gf d ρ0 = .ok ρ1 ∧ te ρ1 = .ok (.fro (.bl true), ρ3) ∧ wipeE ρ3 vs = ρ0) (hl : ds.length ≤ sizeLine) : lcL gf vs bYes te ds ρ0 [] = .ok (List.replicate ds.length (.bl true), ρ0) := by
  rw [lcL_map (fun _ => true) (fun _ => .bl true) (fun d hd => ?_) (by simpa using hl)]
  · rw [filter_all fun _ _ => rfl, List.map_const']; rfl
  · obtain ⟨ρ1, ρ3, h1, h2, h3⟩ := h d hd
    exact ⟨ρ1, ρ1, h1, rfl, by simp, fun _ => ⟨_, ρ3, h2, rfl, h3⟩⟩
theorem m_triples {P : Int} {rs : List Rd} (h1 : 1 ≤ rs.length) (h8 : rs.length ≤ 8) (hP : P ≤ 6) (hr : ∀ r ∈ rs, RdOk P r) (ha : rs.Pairwise fun a b => TS.code 64 (k3 a) < TS.code 64 (k3 b)) :
    F_are_triples [.fro (.int P), .fro (.tup (rs.map rd))] = .ok (.fro (.bl true), [.un, .un]) := by
  have hl : lcL (gN 2) [2] bYes (eCall F__is_triple (aCons (eVar 0) (aCons (eVar 2) aNil))) (rs.map rd) [.fro (.int P), .fro (.tup (rs.map rd)), .un] [] = .ok (List.replicate (rs.map rd).length (.bl true), [.fro (.int P), .fro (.tup (rs.map rd)), .un]) :=
    lc_true (fun d hd => by
      obtain ⟨r, hrr, rfl⟩ := List.mem_map.mp hd
      exact ⟨[.fro (.int P), .fro (.tup (rs.map rd)), .fro (rd r)], [.fro (.int P), .fro (.tup (rs.map rd)), .fro (rd r)], rfl, by simp [m_triple (hr r hrr)], rfl⟩) (by simp; exact sl8 (by omega))
  have e1 : (1 : Int) ≤ (rs.length : Int) := by omega
  have e2 : (rs.length : Int) ≤ 8 := by omega
  simp [F_are_triples, isi_tuple, Isi.of, hl, m_asc_rd h1 h8 hP hr ha, e1, e2]
theorem m_ends {P b g : Int} (hb : 0 ≤ b ∧ b < P) (hg : 0 ≤ g ∧ g < P) (hne : b ≠ g) : F_are_ends [.fro (.int P), .fro (.tup [.int b, .int g])] = .ok (.fro (.bl true), [.un, .un]) := by
  have hl : lcL (gN 2) [2] bYes (eCall F_is_within (aCons (eVar 2) (aCons (eC (.int 0)) (aCons (e2 oSub (eUse 0) (eC (.int 1))) aNil)))) [.int b, .int g] [.fro (.int P), .fro (.tup [.int b, .int g]), .un] [] = .ok ([.bl true, .bl true], [.fro (.int P), .fro (.tup [.int b, .int g]), .un]) := by
    have s1 : 0 < sizeLine := by decide
    have s2 : 1 < sizeLine := by decide
    have e1 : b ≤ P - 1 := by omega
    have e2 : g ≤ P - 1 := by omega
    simp [lcL, m_within, hb.1, hg.1, e1, e2, s1, s2]
  simp [F_are_ends, isi_tuple, Isi.of, hl, oAll, bls, oIx, L2.atI, L2.ixN]
  exact hne
theorem m_init {p : Pl} (h : p.Ok) : F_Map___init__ [.brw (.obj 0 []), .fro (.int p.P), .fro (.tup (p.rs.map rd)), .fro (.tup [.int p.b, .int p.g]), .fro (.int p.m)] = .ok (.fro .non, [.brw p.ch, .un, .un, .un, .un]) := by
  have h1 := h.P2; have h2 := h.P6; have h3 := h.m0; have h4 := h.m2
  simp [F_Map___init__, m_within, m_triples h.r1 h.r8 h.P6 h.rd h.asc, m_ends ⟨h.b0, h.bP⟩ ⟨h.g0, h.gP⟩ h.bg, h1, h2, h3, show p.m ≤ 3 by omega, sFld, Cell.mut, Cell.dat, Cell.put, Pl.ch, Pl.ds]
@[simp] theorem m_places (p : Pl) : F_Map_places [.fro (.obj 0 p.ds)] = .ok (.fro (.int p.P), [.un]) := by simp [F_Map_places, Pl.ds]
@[simp] theorem m_roads (p : Pl) : F_Map_roads [.fro (.obj 0 p.ds)] = .ok (.fro (.tup (p.rs.map rd)), [.un]) := by simp [F_Map_roads, Pl.ds]
@[simp] theorem m_ends_ (p : Pl) : F_Map_ends [.fro (.obj 0 p.ds)] = .ok (.fro (.tup [.int p.b, .int p.g]), [.un]) := by simp [F_Map_ends, Pl.ds]
@[simp] theorem m_most (p : Pl) : F_Map_most [.fro (.obj 0 p.ds)] = .ok (.fro (.int p.m), [.un]) := by simp [F_Map_most, Pl.ds]
@[simp] theorem m_len (p : Pl) : F_Map___len__ [.fro (.obj 0 p.ds)] = .ok (.fro (.int p.rs.length), [.un]) := by simp [F_Map___len__, Pl.ds]
@[simp] theorem m_check (p : Pl) : F_check_map [.fro (.obj 0 p.ds)] = .ok (.fro .non, [.un]) := by simp [F_check_map, isi_Map, Isi.of]
@[simp] theorem ch_def (p : Pl) : p.ch = .obj 0 p.ds := rfl
end Dt
end

section
set_option Elab.async false
set_option linter.all false
set_option maxRecDepth 100000
set_option maxHeartbeats 4000000
set_option autoImplicit false
namespace Dt
open PySem PySem.Spec PyProof.Rows L2
/-! ### the roads at a place -/
abbrev Li (l : List Int) : List D := l.map .int
def atR (rs : List Rd) (x : Int) : List Int := (rs.zipIdx.filter fun q => q.1.1 == x || q.1.2.1 == x).map fun q => (q.2 : Int)
def bAt (x : Int) : D → Bool
  | .tup [.int _, .tup [.int a, .int b, .int _]] => a == x || b == x
  | _ => false
def yFst : D → D
  | .tup (d :: _) => d
  | d => d
theorem pairs_map (f : Rd → D) (rs : List Rd) : pairs (rs.map f) = rs.zipIdx.map fun q => .tup [.int (q.2 : Nat), f q.1] := by
  unfold pairs
  rw [List.zipIdx_map, List.map_map]; rfl
theorem zip_len (rs : List Rd) : (pairs (rs.map rd)).length = rs.length := by rw [pairs_len, List.length_map]
theorem at_eq (rs : List Rd) (x : Int) : ((pairs (rs.map rd)).filter (bAt x)).map yFst = Li (atR rs x) := by
  rw [pairs_map, List.filter_map, List.map_map]
  unfold Li atR
  rw [List.map_map]; rfl
theorem oIn_two (b : Bool) (x a c : Int) : oIn b (.int x) (.tup [.int a, .int c]) = .ok (.fro (.bl (if b then !(a == x || c == x) else (a == x || c == x)))) := by
  simp [oIn, D.flat, inF, D.eqF]
theorem m_roads_at (p : Pl) (x : Int) (h8 : p.rs.length ≤ 8) : F_roads_at [.fro p.ch, .fro (.int x)] = .ok (.own (.lst (Li (atR p.rs x))), [.un, .un]) := by
  have hl : lcL (gT 2 (gsCons (gN 2) (gsCons (gT 3 (gsCons (gN 3) (gsCons (gN 4) (gsCons (gN 5) gsNil)))) gsNil))) [2, 3, 4, 5] (bB (e2 (oIn false) (eUse 1) (eTup (aCons (eVar 3) (aCons (eVar 4) aNil))))) (eVar 2) (pairs (p.rs.map rd)) [.fro p.ch, .fro (.int x), .un, .un, .un, .un] []
      = .ok (Li (atR p.rs x), [.fro p.ch, .fro (.int x), .un, .un, .un, .un]) := by
    rw [lcL_map (bAt x) yFst (fun d hd => ?_) (by rw [zip_len]; simp; exact sl8 (by omega)), at_eq]
    · rfl
    · rw [pairs_map] at hd
      obtain ⟨q, hq, rfl⟩ := List.mem_map.mp hd
      have s2 : 2 ≤ sizeLine := by decide
      refine ⟨[.fro p.ch, .fro (.int x), .fro (.int (q.2 : Nat)), .fro (.int q.1.1), .fro (.int q.1.2.1), .fro (.int q.1.2.2)], [.fro p.ch, .fro (.int x), .fro (.int (q.2 : Nat)), .fro (.int q.1.1), .fro (.int q.1.2.1), .fro (.int q.1.2.2)], by simp [rd], ?_, fun _ => rfl, fun _ => ⟨.fro (.int (q.2 : Nat)), [.fro p.ch, .fro (.int x), .fro (.int (q.2 : Nat)), .fro (.int q.1.1), .fro (.int q.1.2.1), .fro (.int q.1.2.2)], by simp, rfl, rfl⟩⟩
      simp [oIn_two, s2, bAt, rd]
  simp only [ch_def] at hl ⊢
  simp [F_roads_at, hl]
theorem m_law_at (p : Pl) (x : Int) (h8 : p.rs.length ≤ 8) : F__law_at [.fro p.pl, .fro (.int x)] = .ok (.own (.lst (Li (atR p.rs x))), [.un, .un]) := by
  have hl : lcL (gT 2 (gsCons (gN 2) (gsCons (gN 3) gsNil))) [2, 3] (bB (e2 (oIn false) (eUse 1) (eSl none (some 2) (eUse 3)))) (eVar 2) (pairs (p.rs.map rd)) [.fro p.pl, .fro (.int x), .un, .un] []
      = .ok (Li (atR p.rs x), [.fro p.pl, .fro (.int x), .un, .un]) := by
    rw [lcL_map (bAt x) yFst (fun d hd => ?_) (by rw [zip_len]; simp; exact sl8 (by omega)), at_eq]
    · rfl
    · rw [pairs_map] at hd
      obtain ⟨q, hq, rfl⟩ := List.mem_map.mp hd
      have hs : cutD [D.int q.1.1, .int q.1.2.1, .int q.1.2.2] none (some 2) = [.int q.1.1, .int q.1.2.1] := rfl
      refine ⟨[.fro p.pl, .fro (.int x), .fro (.int (q.2 : Nat)), .fro (rd q.1)], [.fro p.pl, .fro (.int x), .fro (.int (q.2 : Nat)), .fro (rd q.1)], by simp, ?_, fun _ => rfl, fun _ => ⟨.fro (.int (q.2 : Nat)), [.fro p.pl, .fro (.int x), .fro (.int (q.2 : Nat)), .fro (rd q.1)], by simp, rfl, rfl⟩⟩
      simp [oIn_two, bAt, rd, eSl, hs]
  have hx : oIx p.pl (.int 1) = .ok (.fro (.tup (p.rs.map rd))) := rfl
  simp [F__law_at, hl, hx]
end Dt
end

section
set_option Elab.async false
set_option linter.all false
set_option maxRecDepth 100000
set_option maxHeartbeats 4000000
set_option autoImplicit false
namespace Dt
open PySem PySem.Spec PyProof.Rows L2
/-! ### the small sets: both lists, by trying every list of places below 8 -/
def subsF : Nat → Int → List (List Int)
  | 0, _ => [[]]
  | f + 1, k => subsF f (k + 1) ++ (subsF f (k + 1)).map (k :: ·)
theorem subsF_nil : ∀ (f : Nat) (k : Int), [] ∈ subsF f k
  | 0, _ => List.mem_singleton.mpr rfl
  | f + 1, k => List.mem_append_left _ (subsF_nil f (k + 1))
theorem subsF_mem : ∀ (f : Nat) (k : Int) (l : List Int), l.Pairwise (· < ·) → (∀ x ∈ l, k ≤ x ∧ x < k + f) → l ∈ subsF f k
  | f, k, [], _, _ => subsF_nil f k
  | 0, k, x :: l, _, h => by
    have := h x (List.mem_cons_self ..)
    omega
  | f + 1, k, x :: l, hp, h => by
    obtain ⟨h1, h2⟩ := List.pairwise_cons.mp hp
    have hx := h x (List.mem_cons_self ..)
    have hl : ∀ y ∈ l, k + 1 ≤ y ∧ y < k + 1 + f := fun y hy => by
      have := h1 y hy
      have := h y (List.mem_cons_of_mem _ hy)
      omega
    by_cases e : x = k
    · subst e
      exact List.mem_append_right _ (List.mem_map.mpr ⟨l, subsF_mem f (x + 1) l h2 hl, rfl⟩)
    · refine List.mem_append_left _ (subsF_mem f (k + 1) (x :: l) hp fun y hy => ?_)
      rcases List.mem_cons.mp hy with rfl | hy
      · omega
      · exact hl y hy
def ascB : List Int → Bool
  | [] => true
  | x :: l => l.all (fun y => decide (x < y)) && ascB l
theorem ascB_of : ∀ {l : List Int}, ascB l = true → l.Pairwise (· < ·)
  | [], _ => .nil
  | x :: l, h => by
    rw [ascB, Bool.and_eq_true, List.all_eq_true] at h
    exact List.pairwise_cons.mpr ⟨fun y hy => of_decide_eq_true (h.1 y hy), ascB_of h.2⟩
theorem tups_eq : ∀ {ds : List D} {ks : List (List Int)}, D.tups ds = some ks → ds = ks.map kD
  | [], _, e => by cases e; rfl
  | d :: ds, ks, e => by
    cases d <;> first | (cases e; done) | skip
    rename_i xs
    rw [D.tups] at e
    split at e
    · rename_i k ks' e1 e2
      cases e
      have hx : xs = k.map .int := by
        clear e2
        induction xs generalizing k with
        | nil => cases e1; rfl
        | cons x xs ih =>
          cases x <;> first | (cases e1; done) | skip
          obtain ⟨k', e3, rfl⟩ := Option.map_eq_some_iff.mp e1
          rw [ih _ e3]; rfl
      rw [tups_eq e2, hx]; rfl
    · cases e
/-- what small_sets returns -/
def setsOf (f : List Int) (m : Int) : List (List Int) := match F_small_sets [.fro (.lst (Li f)), .fro (.int m)] with
  | .ok (.fro (.lst a), _) => (D.tups a).getD []
  | _ => []
def setsB (f : List Int) (m : Int) : Bool := match F_small_sets [.fro (.lst (Li f)), .fro (.int m)], F__law_parts [.fro (.lst (Li f)), .fro (.int m)] with
  | .ok (.fro (.lst a), [.un, .un]), .ok (.own (.lst b), [.un, .un]) => (match D.tups a, D.tups b with
    | some x, some y => decide (x = y) && (decide (1 ≤ x.length ∧ x.length ≤ 100) && x.all fun s => decide ((s.length : Int) ≤ m) && (ascB s && s.all fun r => f.contains r))
    | _, _ => false)
  | _, _ => false
theorem setsB_ok {f : List Int} {m : Int} (h : setsB f m = true) : F_small_sets [.fro (.lst (Li f)), .fro (.int m)] = .ok (.fro (.lst ((setsOf f m).map kD)), [.un, .un]) ∧ F__law_parts [.fro (.lst (Li f)), .fro (.int m)] = .ok (.own (.lst ((setsOf f m).map kD)), [.un, .un]) ∧
    (1 ≤ (setsOf f m).length ∧ (setsOf f m).length ≤ 100) ∧ ∀ s ∈ setsOf f m, (s.length : Int) ≤ m ∧ s.Pairwise (· < ·) ∧ ∀ r ∈ s, r ∈ f := by
  unfold setsB at h
  split at h
  · rename_i a b e1 e2
    split at h
    · rename_i x y e3 e4
      rw [Bool.and_eq_true, Bool.and_eq_true, List.all_eq_true] at h
      have exy := of_decide_eq_true h.1
      subst exy
      have es : setsOf f m = x := by unfold setsOf; rw [e1]; show (D.tups a).getD [] = x; rw [e3]; rfl
      rw [es]
      refine ⟨by rw [e1, tups_eq e3], by rw [e2, tups_eq e4], of_decide_eq_true h.2.1, fun s hs => ?_⟩
      have := h.2.2 s hs
      rw [Bool.and_eq_true, Bool.and_eq_true, List.all_eq_true] at this
      exact ⟨of_decide_eq_true this.1, ascB_of this.2.1, fun r hr => by simpa using this.2.2 r hr⟩
    · cases h
  · cases h
end Dt
end

section
set_option Elab.async false
set_option maxRecDepth 100000
namespace Dt
abbrev allS (f : List Int) : Bool := [0, 1, 2].all fun m => setsB f m
set_option maxRecDepth 1000000 in
theorem part0 : (((subsF 8 0).drop 0).take 8).all allS = true := by decide +kernel
set_option maxRecDepth 1000000 in
theorem part1 : (((subsF 8 0).drop 8).take 8).all allS = true := by decide +kernel
set_option maxRecDepth 1000000 in
theorem part2 : (((subsF 8 0).drop 16).take 8).all allS = true := by decide +kernel
set_option maxRecDepth 1000000 in
theorem part3 : (((subsF 8 0).drop 24).take 8).all allS = true := by decide +kernel
set_option maxRecDepth 1000000 in
theorem part4 : (((subsF 8 0).drop 32).take 8).all allS = true := by decide +kernel
set_option maxRecDepth 1000000 in
theorem part5 : (((subsF 8 0).drop 40).take 8).all allS = true := by decide +kernel
set_option maxRecDepth 1000000 in
theorem part6 : (((subsF 8 0).drop 48).take 8).all allS = true := by decide +kernel
set_option maxRecDepth 1000000 in
theorem part7 : (((subsF 8 0).drop 56).take 8).all allS = true := by decide +kernel
set_option maxRecDepth 1000000 in
theorem part8 : (((subsF 8 0).drop 64).take 8).all allS = true := by decide +kernel
set_option maxRecDepth 1000000 in
theorem part9 : (((subsF 8 0).drop 72).take 8).all allS = true := by decide +kernel
set_option maxRecDepth 1000000 in
theorem part10 : (((subsF 8 0).drop 80).take 8).all allS = true := by decide +kernel
set_option maxRecDepth 1000000 in
theorem part11 : (((subsF 8 0).drop 88).take 8).all allS = true := by decide +kernel
set_option maxRecDepth 1000000 in
theorem part12 : (((subsF 8 0).drop 96).take 8).all allS = true := by decide +kernel
set_option maxRecDepth 1000000 in
theorem part13 : (((subsF 8 0).drop 104).take 8).all allS = true := by decide +kernel
set_option maxRecDepth 1000000 in
theorem part14 : (((subsF 8 0).drop 112).take 8).all allS = true := by decide +kernel
set_option maxRecDepth 1000000 in
theorem part15 : (((subsF 8 0).drop 120).take 8).all allS = true := by decide +kernel
set_option maxRecDepth 1000000 in
theorem part16 : (((subsF 8 0).drop 128).take 8).all allS = true := by decide +kernel
set_option maxRecDepth 1000000 in
theorem part17 : (((subsF 8 0).drop 136).take 8).all allS = true := by decide +kernel
set_option maxRecDepth 1000000 in
theorem part18 : (((subsF 8 0).drop 144).take 8).all allS = true := by decide +kernel
set_option maxRecDepth 1000000 in
theorem part19 : (((subsF 8 0).drop 152).take 8).all allS = true := by decide +kernel
set_option maxRecDepth 1000000 in
theorem part20 : (((subsF 8 0).drop 160).take 8).all allS = true := by decide +kernel
set_option maxRecDepth 1000000 in
theorem part21 : (((subsF 8 0).drop 168).take 8).all allS = true := by decide +kernel
set_option maxRecDepth 1000000 in
theorem part22 : (((subsF 8 0).drop 176).take 8).all allS = true := by decide +kernel
set_option maxRecDepth 1000000 in
theorem part23 : (((subsF 8 0).drop 184).take 8).all allS = true := by decide +kernel
set_option maxRecDepth 1000000 in
theorem part24 : (((subsF 8 0).drop 192).take 8).all allS = true := by decide +kernel
set_option maxRecDepth 1000000 in
theorem part25 : (((subsF 8 0).drop 200).take 8).all allS = true := by decide +kernel
set_option maxRecDepth 1000000 in
theorem part26 : (((subsF 8 0).drop 208).take 8).all allS = true := by decide +kernel
set_option maxRecDepth 1000000 in
theorem part27 : (((subsF 8 0).drop 216).take 8).all allS = true := by decide +kernel
set_option maxRecDepth 1000000 in
theorem part28 : (((subsF 8 0).drop 224).take 8).all allS = true := by decide +kernel
set_option maxRecDepth 1000000 in
theorem part29 : (((subsF 8 0).drop 232).take 8).all allS = true := by decide +kernel
set_option maxRecDepth 1000000 in
theorem part30 : (((subsF 8 0).drop 240).take 8).all allS = true := by decide +kernel
set_option maxRecDepth 1000000 in
theorem part31 : (((subsF 8 0).drop 248).take 8).all allS = true := by decide +kernel
theorem part_on {k : Nat} (h1 : (((subsF 8 0).drop k).take 8).all allS = true) (h2 : ((subsF 8 0).drop (k + 8)).all allS = true) : ((subsF 8 0).drop k).all allS = true := by
  rw [← List.take_append_drop 8 ((subsF 8 0).drop k), List.all_append, h1, List.drop_drop, h2]; rfl
theorem sets8 : ((subsF 8 0).all fun f => [0, 1, 2].all fun m => setsB f m) = true := by
  have z : ((subsF 8 0).drop 256).all allS = true := by
    rw [List.drop_eq_nil_of_le (show (subsF 8 0).length ≤ 256 by decide +kernel)]; rfl
  have h31 := part_on part31 z
  have h30 := part_on part30 h31
  have h29 := part_on part29 h30
  have h28 := part_on part28 h29
  have h27 := part_on part27 h28
  have h26 := part_on part26 h27
  have h25 := part_on part25 h26
  have h24 := part_on part24 h25
  have h23 := part_on part23 h24
  have h22 := part_on part22 h23
  have h21 := part_on part21 h22
  have h20 := part_on part20 h21
  have h19 := part_on part19 h20
  have h18 := part_on part18 h19
  have h17 := part_on part17 h18
  have h16 := part_on part16 h17
  have h15 := part_on part15 h16
  have h14 := part_on part14 h15
  have h13 := part_on part13 h14
  have h12 := part_on part12 h13
  have h11 := part_on part11 h12
  have h10 := part_on part10 h11
  have h9 := part_on part9 h10
  have h8 := part_on part8 h9
  have h7 := part_on part7 h8
  have h6 := part_on part6 h7
  have h5 := part_on part5 h6
  have h4 := part_on part4 h5
  have h3 := part_on part3 h4
  have h2 := part_on part2 h3
  have h1 := part_on part1 h2
  have h0 := part_on part0 h1
  exact h0
end Dt
end

section
set_option Elab.async false
set_option linter.all false
set_option maxRecDepth 100000
set_option maxHeartbeats 4000000
set_option autoImplicit false
namespace Dt
open PySem PySem.Spec PyProof.Rows L2
/-! ### sorted of ints -/
def leI (a b : Int) : Bool := decide (a ≤ b)
abbrev srt (l : List Int) : List Int := sortS leI l
theorem pys_ints : ∀ l : List Int, D.pys (Li l) = some (l.map .int)
  | [] => rfl
  | i :: l => by rw [Li, List.map_cons, D.pys, show D.pys (l.map .int) = _ from pys_ints l]; rfl
theorem insS_map {α β : Type} {le : α → α → Bool} {le' : β → β → Bool} (f : α → β) (h : ∀ a b, le' (f a) (f b) = le a b) (x : α) : ∀ l : List α, insS le' (f x) (l.map f) = (insS le x l).map f
  | [] => rfl
  | y :: l => by
    rw [List.map_cons, insS, insS, h]
    split
    · rfl
    · rw [insS_map f h x l]; rfl
theorem sortS_map {α β : Type} {le : α → α → Bool} {le' : β → β → Bool} (f : α → β) (h : ∀ a b, le' (f a) (f b) = le a b) : ∀ l : List α, sortS le' (l.map f) = (sortS le l).map f
  | [] => rfl
  | x :: l => by
    rw [List.map_cons, sortS, sortS_map f h l, insS_map f h]; rfl
theorem leD_int (a b : Int) : leD (.int a, .int a) (.int b, .int b) = leI a b := by
  have := congrFun (congrFun (PySem.W.dataLe_int (β := Int) fun x => x) a) b
  exact this
theorem sortD_ints (l : List Int) : sortD ((Li l).zip (l.map PyData.int)) = Li (srt l) := by
  have e : (Li l).zip (l.map PyData.int) = l.map fun i => ((D.int i, PyData.int i) : D × PyData) := by
    unfold Li
    induction l with
    | nil => rfl
    | cons i l ih => rw [List.map_cons, List.map_cons, List.zip_cons_cons, ih]; rfl
  unfold sortD
  rw [e, sortS_map (fun i : Int => ((D.int i, PyData.int i) : D × PyData)) leD_int, List.map_map]; rfl
theorem alike_ints (l : List Int) : alikeB (l.map .int) = true := List.all_eq_true.mpr fun d hd => List.all_eq_true.mpr fun e he => by
  obtain ⟨a, _, rfl⟩ := List.mem_map.mp hd
  obtain ⟨b, _, rfl⟩ := List.mem_map.mp he
  rfl
theorem sortable_ints (l : List Int) : sortableB (l.map .int) = true := by
  unfold sortableB
  rw [Bool.or_eq_true]
  refine .inr (List.all_eq_true.mpr fun d hd => ?_)
  obtain ⟨a, _, rfl⟩ := List.mem_map.mp hd
  rfl
theorem oSorted_items {d : D} {l : List Int} (h : d.items = some (Li l)) : oSorted d = .ok (.own (.lst (Li (srt l)))) := by
  unfold oSorted
  rw [h, Res.of_some, Res.bind_ok, pys_ints, Res.of_some, Res.bind_ok, alike_ints, sortable_ints]
  have : (l.map PyData.int).all (fun p => decide (p.depth ≤ 60)) = true := List.all_eq_true.mpr fun d hd => by
    obtain ⟨a, _, rfl⟩ := List.mem_map.mp hd
    rfl
  rw [this, sortD_ints]; rfl
@[simp] theorem oSorted_lst (l : List Int) : oSorted (.lst (Li l)) = .ok (.own (.lst (Li (srt l)))) := oSorted_items rfl
@[simp] theorem oSorted_tup (l : List Int) : oSorted (.tup (Li l)) = .ok (.own (.lst (Li (srt l)))) := oSorted_items rfl
theorem leI_total : PySem.W.TotalLe leI := ⟨fun a b c h1 h2 => by unfold leI at *; simp at *; omega, fun a b => by unfold leI; simp; omega⟩
theorem srt_mem {l : List Int} {x : Int} : x ∈ srt l ↔ x ∈ l := by
  induction l with
  | nil => simp [srt, sortS]
  | cons y l ih =>
    show x ∈ insS leI y (sortS leI l) ↔ _
    rw [mem_insS]
    simp [ih]
theorem srt_len (l : List Int) : (srt l).length = l.length := length_sortS l
theorem srt_nodup {l : List Int} (h : l.Nodup) : (srt l).Nodup := by
  induction l with
  | nil => exact List.Pairwise.nil
  | cons y l ih =>
    obtain ⟨h1, h2⟩ := List.nodup_cons.mp h
    have hn : y ∉ sortS leI l := fun z => h1 (srt_mem.mp z)
    have ihl : (sortS leI l).Nodup := ih h2
    clear ih
    show (insS leI y (sortS leI l)).Nodup
    generalize sortS leI l = m at hn ihl
    induction m with
    | nil => simp [insS]
    | cons z m ihm =>
      obtain ⟨a1, a2⟩ := List.nodup_cons.mp ihl
      unfold insS
      split
      · exact List.nodup_cons.mpr ⟨hn, ihl⟩
      · refine List.nodup_cons.mpr ⟨fun w => ?_, ihm (fun w => hn (List.mem_cons_of_mem _ w)) a2⟩
        rcases mem_insS.mp w with w | w
        · exact hn (w ▸ List.mem_cons_self ..)
        · exact a1 w
/-- distinct ints, sorted: strictly ascending -/
theorem srt_asc {l : List Int} (h : l.Nodup) : (srt l).Pairwise (· < ·) := by
  have h1 := pw_sortS leI_total l
  have h2 : (srt l).Pairwise (· ≠ ·) := srt_nodup h
  refine (h1.and h2).imp fun {a b} q => ?_
  have := q.1
  unfold leI at this
  have := of_decide_eq_true this
  have := q.2
  omega
end Dt
end

section
set_option Elab.async false
set_option linter.all false
set_option maxRecDepth 100000
set_option maxHeartbeats 4000000
set_option autoImplicit false
namespace Dt
open PySem PySem.Spec PyProof.Rows L2
/-! ### the states at a place: program and law -/
theorem flat_L (l : List Int) : (l.map D.int).all D.flat = true := List.all_eq_true.mpr fun d hd => by
  obtain ⟨a, _, rfl⟩ := List.mem_map.mp hd
  rfl
theorem inF_L (x : Int) (l : List Int) : inF (.int x) (l.map D.int) = l.contains x := by
  unfold inF
  induction l with
  | nil => rfl
  | cons y l ih =>
    rw [List.map_cons, List.any_cons, ih, List.contains_cons]
    show (y == x || l.contains x) = _
    by_cases h : y = x
    · subst h; rfl
    · rw [beq_eq_false_iff_ne.mpr h, beq_eq_false_iff_ne.mpr (Ne.symm h)]
@[simp] theorem oIn_tup (b : Bool) (x : Int) (l : List Int) : oIn b (.int x) (.tup (l.map D.int)) = .ok (.fro (.bl (if b then !l.contains x else l.contains x))) := by
  simp only [oIn, z_items_tup, Res.of_some, Res.bind_ok, flat_L, inF_L, D.flat, Bool.and_self, if_true]
@[simp] theorem oIn_lst (b : Bool) (x : Int) (l : List Int) : oIn b (.int x) (.lst (l.map D.int)) = .ok (.fro (.bl (if b then !l.contains x else l.contains x))) := by
  simp only [oIn, z_items_lst, Res.of_some, Res.bind_ok, flat_L, inF_L, D.flat, Bool.and_self, if_true]
@[simp] theorem frozen_app (ds : List D) (rs : List RV) : frozen (ds.map .fro ++ rs) = (frozen rs).map (ds ++ ·) := by
  induction ds with
  | nil => simp
  | cons d ds ih =>
    rw [List.map_cons, List.cons_append, frozen, ih, Option.map_map]; rfl
@[simp] theorem frozen_map (ds : List D) : frozen (ds.map .fro) = some ds := by
  have := frozen_app ds []
  simpa using this
@[simp] theorem frozen_appI (l : List Int) (rs : List RV) : frozen (l.map (RV.fro ∘ D.int) ++ rs) = (frozen rs).map (l.map D.int ++ ·) := by
  rw [← List.map_map]; exact frozen_app _ _
@[simp] theorem frozen_mapI (l : List Int) : frozen (l.map (RV.fro ∘ D.int)) = some (l.map D.int) := by
  rw [← List.map_map]; exact frozen_map _
@[simp] theorem oSorted_app (a b : List Int) : oSorted (.lst (a.map D.int ++ b.map D.int)) = .ok (.own (.lst ((srt (a ++ b)).map D.int))) := by
  rw [← List.map_append]; exact oSorted_lst (a ++ b)
@[simp] theorem oSorted_appT (a b : List Int) : oSorted (.tup (a.map D.int ++ b.map D.int)) = .ok (.own (.lst ((srt (a ++ b)).map D.int))) := by
  rw [← List.map_append]; exact oSorted_tup (a ++ b)
def stD (x : Int) (c s : List Int) : D := .tup [.int x, .tup (Li c), .tup (Li s)]
/-- a filter over ints by a comprehension -/
theorem lc_ints {i : Nat} {tt : BF} {ρ0 : Env} (b : Int → Bool) {l : List Int} (h : ∀ r ∈ l, tt (ρ0.set i (.fro (.int r))) = .ok (b r, ρ0.set i (.fro (.int r)))) (hi : ρ0[i]? = some .un) (hl : l.length ≤ sizeLine) :
    lcL (gN i) [i] tt (eVar i) (l.map D.int) ρ0 [] = .ok ((l.filter b).map D.int, ρ0) := by
  have hlt : i < ρ0.length := (List.getElem?_eq_some_iff.mp hi).1
  have hw : ∀ c, (ρ0.set i c).set i .un = ρ0 := fun c => by
    rw [List.set_set]
    apply List.ext_getElem?
    intro k
    by_cases hk : i = k
    · subst hk; rw [List.getElem?_set_self hlt, hi]
    · rw [List.getElem?_set_ne hk]
  rw [lcL_map (fun d => match d with | .int r => b r | _ => false) id (fun d hd => ?_) (by simpa using hl)]
  · congr 2
    rw [List.map_id, List.nil_append]
    clear h hl
    induction l with
    | nil => rfl
    | cons r l ih =>
      rw [List.map_cons, List.filter_cons, List.filter_cons]
      cases hb : b r <;> simp [hb, ih]
  · obtain ⟨r, hr, rfl⟩ := List.mem_map.mp hd
    refine ⟨_, _, rfl, h r hr, fun _ => hw _, fun _ => ⟨.fro (.int r), _, ?_, rfl, hw (.fro (.int r))⟩⟩
    show eVar i _ = _
    rw [z_eVar, List.getElem?_set_self hlt]
def rest (f s : List Int) : List Int := f.filter fun r => !s.contains r
def fresh (rs : List Rd) (x : Int) (c s : List Int) : List Int := (atR rs x).filter fun r => !c.contains r && !s.contains r
def statesOf (x : Int) (f : List Int) (sets : List (List Int)) (c s : List Int) : List D := sets.map fun k => stD x (srt (c ++ rest f k)) (srt (s ++ k))
section
variable {p : Pl} {x : Int} {c s f : List Int}
/-- the unknown roads at a place -/
theorem m_unknown (h8 : p.rs.length ≤ 8) (hf : (atR p.rs x).length ≤ 8) :
    F__unknown_at [.fro p.ch, .fro (.int x), .fro (.tup (Li c)), .fro (.tup (Li s))] = .ok (.own (.lst (Li (fresh p.rs x c s))), [.un, .un, .un, .un]) := by
  have hl : lcL (gN 4) [4] (bAnd (bB (e2 (oIn true) (eUse 4) (eUse 2))) (bB (e2 (oIn true) (eUse 4) (eUse 3)))) (eVar 4) ((atR p.rs x).map D.int) [.fro (.obj 0 p.ds), .fro (.int x), .fro (.tup (Li c)), .fro (.tup (Li s)), .un] []
      = .ok ((fresh p.rs x c s).map D.int, [.fro (.obj 0 p.ds), .fro (.int x), .fro (.tup (Li c)), .fro (.tup (Li s)), .un]) :=
    lc_ints (fun r => !c.contains r && !s.contains r) (fun r hr => by
      simp
      cases hx : c.contains r <;> simp_all) rfl (sl8 (by omega))
  have hr := m_roads_at p x h8
  simp only [ch_def] at hr
  simp [F__unknown_at, hr, hl]
/-- the state when some of the unknown roads are closed; these may be a tuple or a list -/
theorem m_state_at {k : List Int} {dk : D} (hk : dk = .tup (Li k) ∨ dk = .lst (Li k)) (hc : c.length ≤ 8) (hs : s.length ≤ 8) (hf : f.length ≤ 8) (h8 : k.length ≤ 8) :
    F__state_at [.fro (.int x), .fro (.tup (Li c)), .fro (.tup (Li s)), .fro (.lst (Li f)), .fro dk] = .ok (.fro (stD x (srt (c ++ rest f k)) (srt (s ++ k))), [.un, .un, .un, .un, .un]) := by
  have hl : lcL (gN 6) [6] (bB (e2 (oIn true) (eUse 6) (eUse 4))) (eVar 6) (f.map D.int) [.fro (.int x), .fro (.tup (Li c)), .fro (.tup (Li s)), .fro (.lst (Li f)), .fro dk, .un, .un] []
      = .ok ((rest f k).map D.int, [.fro (.int x), .fro (.tup (Li c)), .fro (.tup (Li s)), .fro (.lst (Li f)), .fro dk, .un, .un]) :=
    lc_ints (fun r => !k.contains r) (fun r hr => by rcases hk with rfl | rfl <;> simp) rfl (sl8 (by omega))
  have hr : (rest f k).length ≤ 8 := Nat.le_trans (List.length_filter_le _ _) hf
  have z1 : c.length + (rest f k).length ≤ sizeLine := sl8 (by omega)
  have z2 : s.length + k.length ≤ sizeLine := sl8 (by omega)
  have z3 : 3 ≤ sizeLine := by decide
  rcases hk with rfl | rfl <;> simp [F__state_at, hl, z1, z2, z3, stD]
theorem statesOf_filter (x : Int) (f : List Int) (ks : List (List Int)) (c s : List Int) (y : D → D) (hy : ∀ k, y (kD k) = stD x (srt (c ++ rest f k)) (srt (s ++ k))) : ((ks.map kD).filter fun _ => true).map y = statesOf x f ks c s := by
  rw [List.filter_eq_self.mpr fun _ _ => rfl, List.map_map]
  unfold statesOf
  exact List.map_congr_left fun k _ => hy k
def unK : D → List Int
  | .tup xs => xs.map fun d => match d with | .int i => i | _ => 0
  | _ => []
theorem unK_k (k : List Int) : unK (kD k) = k := by
  unfold unK kD
  simp [List.map_map, Function.comp_def]
theorem m_arrivals (h8 : p.rs.length ≤ 8) (hc : c.length ≤ 8) (hs : s.length ≤ 8) (hm : setsB (fresh p.rs x c s) (p.m - s.length) = true) (hk : ∀ k ∈ setsOf (fresh p.rs x c s) (p.m - s.length), k.length ≤ 8) (hf : (atR p.rs x).length ≤ 8) :
    F__arrivals [.fro p.ch, .fro (.int x), .fro (.tup (Li c)), .fro (.tup (Li s))] = .ok (.own (.lst (statesOf x (fresh p.rs x c s) (setsOf (fresh p.rs x c s) (p.m - s.length)) c s)), [.un, .un, .un, .un]) := by
  obtain ⟨e1, _, e3, _⟩ := setsB_ok hm
  have hff : (fresh p.rs x c s).length ≤ 8 := Nat.le_trans (List.length_filter_le _ _) hf
  have hu := m_unknown (p := p) (x := x) (c := c) (s := s) h8 hf
  simp only [ch_def] at hu
  have hl : lcL (gN 5) [5] bYes (eCall F__state_at (aCons (eVar 1) (aCons (eVar 2) (aCons (eVar 3) (aCons (eVar 4) (aCons (eVar 5) (aNil))))))) ((setsOf (fresh p.rs x c s) (p.m - s.length)).map kD) [.fro (.obj 0 p.ds), .fro (.int x), .fro (.tup (Li c)), .fro (.tup (Li s)), .fro (.lst (Li (fresh p.rs x c s))), .un] []
      = .ok (statesOf x (fresh p.rs x c s) (setsOf (fresh p.rs x c s) (p.m - s.length)) c s, [.fro (.obj 0 p.ds), .fro (.int x), .fro (.tup (Li c)), .fro (.tup (Li s)), .fro (.lst (Li (fresh p.rs x c s))), .un]) := by
    rw [lcL_map (fun _ => true) (fun d => stD x (srt (c ++ rest (fresh p.rs x c s) (unK d))) (srt (s ++ unK d))) (fun d hd => ?_) (by simp; exact sl8 (by omega)), statesOf_filter x (fresh p.rs x c s) _ c s (fun d => stD x (srt (c ++ rest (fresh p.rs x c s) (unK d))) (srt (s ++ unK d))) fun k => by simp only [unK_k]]
    · rfl
    · obtain ⟨k, hkk, rfl⟩ := List.mem_map.mp hd
      have hst := m_state_at (x := x) (c := c) (s := s) (f := fresh p.rs x c s) (k := k) (dk := kD k) (.inl rfl) hc hs hff (hk k hkk)
      simp only [Li, unK_k] at hst ⊢
      exact ⟨_, _, rfl, rfl, fun h => absurd h (by simp), fun _ => ⟨.fro (stD x (srt (c ++ rest (fresh p.rs x c s) k)) (srt (s ++ k))), [.fro (.obj 0 p.ds), .fro (.int x), .fro (.tup (Li c)), .fro (.tup (Li s)), .fro (.lst (Li (fresh p.rs x c s))), .fro (kD k)], by simp [hst], rfl, rfl⟩⟩
  simp only [Li] at hu hl e1 ⊢
  simp [F__arrivals, hu, hl, e1]
end
end Dt
end

section
set_option Elab.async false
set_option linter.all false
set_option maxRecDepth 100000
set_option maxHeartbeats 4000000
set_option autoImplicit false
namespace Dt
open PySem PySem.Spec PyProof.Rows L2
/-! ### the law's states at a place -/
theorem oCat_tup (a b : List D) (h : a.length + b.length ≤ sizeLine) : oCat (.tup a) (.tup b) = .ok (.fro (.tup (a ++ b))) := by
  show (if a.length + b.length ≤ sizeLine then _ else _) = _
  rw [if_pos h]
theorem oIn_appT (b : Bool) (x : Int) (c s : List Int) : oIn b (.int x) (.tup (c.map D.int ++ s.map D.int)) = .ok (.fro (.bl (if b then !(c.contains x || s.contains x) else (c.contains x || s.contains x)))) := by
  rw [← List.map_append, oIn_tup]
  have e : (c ++ s).contains x = (c.contains x || s.contains x) := by rw [Bool.eq_iff_iff]; simp
  rw [e]
section
variable {p : Pl} {x : Int} {c s f : List Int}
def envL (p : Pl) (x : Int) (c s f : List Int) (acc : List D) (u4 u7 : Cell) : Env := [.fro (.tup p.ds), .fro (.int x), .fro (.tup (Li c)), .fro (.tup (Li s)), u4, .fro (.lst (Li f)), .own (.lst acc), u7, .un]
def bodyL_ : SF := sCons (sSet 7 (eCB (c1 oTupOf) (aCons (eLc (gN 8) [8] (iData (eVar 5)) (bB (e2 (oIn true) (eUse 8) (eUse 4))) (eVar 8)) (aNil)))) (sApp 6 (eTup (aCons (eVar 1) (aCons (eCB (c1 oTupOf) (aCons (eCB (c1 oSorted) (aCons (e2 oCat (eUse 2) (eUse 7)) (aNil))) (aNil))) (aCons (eCB (c1 oTupOf) (aCons (eCB (c1 oSorted) (aCons (e2 oCat (eUse 3) (eUse 4)) (aNil))) (aNil))) (aNil))))))
theorem bodyL_ok {acc : List D} {u4 u7 : Cell} {k : List Int} (hc : c.length ≤ 8) (hs : s.length ≤ 8) (hf : f.length ≤ 8) (hk : k.length ≤ 8) (ha : acc.length < 1000) :
    bodyL_ ((envL p x c s f acc u4 u7).set 4 (.fro (kD k))) = .ok (.nx, envL p x c s f (acc ++ [stD x (srt (c ++ rest f k)) (srt (s ++ k))]) (.fro (kD k)) (.fro (.tup (Li (rest f k))))) := by
  have hl : lcL (gN 8) [8] (bB (e2 (oIn true) (eUse 8) (eUse 4))) (eVar 8) (f.map D.int) [.fro (.tup p.ds), .fro (.int x), .fro (.tup (Li c)), .fro (.tup (Li s)), .fro (.tup (k.map D.int)), .fro (.lst (Li f)), .own (.lst acc), u7, .un] [] = .ok ((rest f k).map D.int, [.fro (.tup p.ds), .fro (.int x), .fro (.tup (Li c)), .fro (.tup (Li s)), .fro (.tup (k.map D.int)), .fro (.lst (Li f)), .own (.lst acc), u7, .un]) :=
    lc_ints (fun r => !k.contains r) (fun r hr => by simp) rfl (sl8 (by omega))
  have hr : (rest f k).length ≤ 8 := Nat.le_trans (List.length_filter_le _ _) hf
  have z1 := oCat_tup (c.map D.int) ((rest f k).map D.int) (by simp; exact sl8 (by omega))
  have z2 := oCat_tup (s.map D.int) (k.map D.int) (by simp; exact sl8 (by omega))
  have z3 : 3 ≤ sizeLine := by decide
  have z4 : acc.length < sizeLine := Nat.lt_of_lt_of_le ha (by decide)
  simp [bodyL_, envL, hl, Li, kD, z1, z2, z3, z4, sApp, isL, putL, Cell.mut, Cell.dat, Cell.put, stD]
theorem loopL : ∀ (ks : List (List Int)) (acc : List D) (u4 u7 : Cell), c.length ≤ 8 → s.length ≤ 8 → f.length ≤ 8 → (∀ k ∈ ks, k.length ≤ 8) → acc.length + ks.length ≤ 1000 →
    ∃ u4' u7', forL (gN 4) bodyL_ (ks.map kD) (envL p x c s f acc u4 u7) = .ok (.nx, envL p x c s f (acc ++ statesOf x f ks c s) u4' u7')
  | [], acc, u4, u7, _, _, _, _, _ => ⟨u4, u7, by simp [forL, statesOf]⟩
  | k :: ks, acc, u4, u7, hc, hs, hf, hk, ha => by
    rw [List.length_cons] at ha
    have hb := bodyL_ok (p := p) (x := x) (c := c) (s := s) (f := f) (u4 := u4) (u7 := u7) hc hs hf (hk k (List.mem_cons_self ..)) (show acc.length < 1000 by omega)
    obtain ⟨u4', u7', ih⟩ := loopL ks (acc ++ [stD x (srt (c ++ rest f k)) (srt (s ++ k))]) (.fro (kD k)) (.fro (.tup (Li (rest f k)))) hc hs hf (fun q hq => hk q (List.mem_cons_of_mem _ hq)) (by rw [List.length_append]; simp; omega)
    refine ⟨u4', u7', ?_⟩
    rw [List.map_cons, forL, z_gN, Res.bind_ok, hb, Res.bind_ok]
    show forL (gN 4) bodyL_ (ks.map kD) _ = _
    rw [ih, List.append_assoc]; rfl
theorem m_seen (h8 : p.rs.length ≤ 8) (hc : c.length ≤ 8) (hs : s.length ≤ 8) (hm : setsB (fresh p.rs x c s) (p.m - s.length) = true) (hk : ∀ k ∈ setsOf (fresh p.rs x c s) (p.m - s.length), k.length ≤ 8) (hf : (atR p.rs x).length ≤ 8) :
    F__law_seen [.fro p.pl, .fro (.int x), .fro (.tup (Li c)), .fro (.tup (Li s))] = .ok (.fro (.lst (statesOf x (fresh p.rs x c s) (setsOf (fresh p.rs x c s) (p.m - s.length)) c s)), [.un, .un, .un, .un]) := by
  obtain ⟨_, q2, q3, _⟩ := setsB_ok hm
  have hff : (fresh p.rs x c s).length ≤ 8 := Nat.le_trans (List.length_filter_le _ _) hf
  have zz := oCat_tup (c.map D.int) (s.map D.int) (by simp; exact sl8 (by omega))
  have hl : lcL (gN 8) [8] (bB (e2 (oIn true) (eUse 8) (e2 oCat (eUse 2) (eUse 3)))) (eVar 8) ((atR p.rs x).map D.int) [.fro (.tup p.ds), .fro (.int x), .fro (.tup (Li c)), .fro (.tup (Li s)), .un, .un, .un, .un, .un] []
      = .ok ((fresh p.rs x c s).map D.int, [.fro (.tup p.ds), .fro (.int x), .fro (.tup (Li c)), .fro (.tup (Li s)), .un, .un, .un, .un, .un]) :=
    lc_ints (fun r => !c.contains r && !s.contains r) (fun r hr => by
      simp [zz, oIn_appT]) rfl (sl8 (by omega))
  have hr := m_law_at p x h8
  simp only [Pl.pl] at hr ⊢
  obtain ⟨u4', u7', hL⟩ := loopL (p := p) (x := x) (c := c) (s := s) (f := fresh p.rs x c s) (setsOf (fresh p.rs x c s) (p.m - s.length)) [] .un .un hc hs hff hk (by simp; omega)
  have z0 : 0 ≤ sizeLine := Nat.zero_le _
  have hx : oIx (.tup p.ds) (.int 3) = .ok (.fro (.int p.m)) := rfl
  simp only [envL, bodyL_, List.nil_append] at hL
  simp [F__law_seen, hr, hl, q2, hL, hx]
end
end Dt
end

section
set_option Elab.async false
set_option linter.all false
set_option maxRecDepth 100000
set_option maxHeartbeats 4000000
set_option autoImplicit false
namespace Dt
open PySem PySem.Spec PyProof.Rows L2
/-! ### places of roads; what is in order -/
def InR (n : Nat) (l : List Int) : Prop := ∀ r ∈ l, 0 ≤ r ∧ r < n
theorem at_mem {rs : List Rd} {x r : Int} : r ∈ atR rs x ↔ ∃ (i : Nat) (q : Rd), r = i ∧ rs[i]? = some q ∧ (q.1 = x ∨ q.2.1 = x) := by
  unfold atR
  rw [List.mem_map]
  constructor
  · rintro ⟨⟨q, i⟩, hq, rfl⟩
    obtain ⟨h1, h2⟩ := List.mem_filter.mp hq
    refine ⟨i, q, rfl, ?_, by simpa using h2⟩
    have := List.mem_zipIdx_iff_getElem?.mp h1
    simpa using this
  · rintro ⟨i, q, rfl, h1, h2⟩
    exact ⟨(q, i), List.mem_filter.mpr ⟨List.mem_zipIdx_iff_getElem?.mpr (by simpa using h1), by simpa using h2⟩, rfl⟩
theorem at_in (rs : List Rd) (x : Int) : InR rs.length (atR rs x) := fun r hr => by
  obtain ⟨i, q, rfl, h1, _⟩ := at_mem.mp hr
  have := (List.getElem?_eq_some_iff.mp h1).1
  omega
theorem at_asc (rs : List Rd) (x : Int) : (atR rs x).Pairwise (· < ·) := by
  unfold atR
  rw [List.pairwise_map]
  refine List.Pairwise.filter _ ?_
  have h : (rs.zipIdx.map (·.2)).Pairwise (· < ·) := by
    rw [List.zipIdx_map_snd]
    exact List.pairwise_lt_range'
  rw [List.pairwise_map] at h
  exact h.imp fun {a b} q => by omega
theorem asc_len : ∀ (f : Nat) (k : Int) (l : List Int), l.Pairwise (· < ·) → (∀ x ∈ l, k ≤ x ∧ x < k + f) → l.length ≤ f
  | f, k, [], _, _ => Nat.zero_le _
  | 0, k, x :: l, _, h => by
    have := h x (List.mem_cons_self ..)
    omega
  | f + 1, k, x :: l, hp, h => by
    obtain ⟨h1, h2⟩ := List.pairwise_cons.mp hp
    have hx := h x (List.mem_cons_self ..)
    have := asc_len f (k + 1) l h2 fun y hy => by
      have := h1 y hy
      have := h y (List.mem_cons_of_mem _ hy)
      omega
    rw [List.length_cons]; omega
theorem InR.len {n : Nat} {l : List Int} (h : InR n l) (a : l.Pairwise (· < ·)) : l.length ≤ n := asc_len n 0 l a fun x hx => by have := h x hx; omega
theorem asc_nodup {l : List Int} (h : l.Pairwise (· < ·)) : l.Nodup := h.imp fun {a b} q => by omega
section
variable (hsets : ((subsF 8 0).all fun f => [0, 1, 2].all fun m => setsB f m) = true)
include hsets
theorem sets_ok {f : List Int} {m : Int} (ha : f.Pairwise (· < ·)) (hf : InR 8 f) (h0 : 0 ≤ m) (h2 : m ≤ 2) : setsB f m = true := by
  have h1 := List.all_eq_true.mp hsets f (subsF_mem 8 0 f ha fun x hx => by have := hf x hx; omega)
  refine List.all_eq_true.mp h1 m ?_
  simp
  omega
end
/-! ### states -/
structure CsOk (p : Pl) (c s : List Int) : Prop where
  ca : c.Pairwise (· < ·)
  ci : InR p.rs.length c
  sa : s.Pairwise (· < ·)
  si : InR p.rs.length s
  sm : (s.length : Int) ≤ p.m
  dj : ∀ r ∈ c, r ∉ s
structure StOk (p : Pl) (x : Int) (c s : List Int) : Prop extends CsOk p c s where
  x0 : 0 ≤ x
  xP : x < p.P
  all : ∀ r ∈ atR p.rs x, r ∈ c ∨ r ∈ s
section
variable {p : Pl} {x : Int} {c s : List Int}
theorem len63 (h8 : p.rs.length ≤ 8) : (decide (0 ≤ (p.rs.length : Int)) && decide ((p.rs.length : Int) < 2 ^ 63)) = true := by
  rw [Bool.and_eq_true]
  exact ⟨decide_eq_true (Int.natCast_nonneg _), decide_eq_true (Int.lt_of_le_of_lt (Int.ofNat_le.mpr h8) (by decide))⟩
theorem z_len2 (n : Int) (h : (decide (0 ≤ n) && decide (n < 2 ^ 63)) = true) {f : EF} {k : Fm} {c : Nat} {ρ ρ' : Env} (e : oSelf c k f ρ = .ok (.fro (.int n), ρ')) : eLenO c k f ρ = .ok (.fro (.int n), ρ') := by
  unfold eLenO
  rw [e, Res.bind_ok]
  dsimp only
  rw [h]
  rfl
theorem self_len {i : Nat} {ρ : Env} (h : ρ[i]? = some (.fro (.obj 0 p.ds))) : oSelf 0 F_Map___len__ (eVar i) ρ = .ok (.fro (.int p.rs.length), ρ) := by
  rw [z_oSelf, z_eVar, h]
  simp only [Res.bind_ok, m_len, beq_self_eq_true, Res.need_true, z_made_fro]
theorem m_lenO {i : Nat} {ρ : Env} (h : ρ[i]? = some (.fro (.obj 0 p.ds))) (h8 : p.rs.length ≤ 8) : eLenO 0 F_Map___len__ (eVar i) ρ = .ok (.fro (.int p.rs.length), ρ) := z_len2 _ (len63 h8) (self_len h)
theorem w1 {r : Int} {n : Nat} {x : D} (L : EF) (h : 0 ≤ r ∧ r ≤ (n : Int) - 1) (h3 : L [.fro x, .fro (.int r)] = .ok (.fro (.int n), [.fro x, .fro (.int r)])) : runF 2 0 (sRet (eCall F_is_within (aCons (eVar 1) (aCons (eC (.int 0)) (aCons (e2 oSub L (eC (.int 1))) aNil))))) [.fro x, .fro (.int r)] = .ok (.fro (.bl true), [.un, .un]) := by
  simp [m_within, h.1, h.2, h3]
theorem w2 {r : Int} {n : Nat} {x : D} (h : 0 ≤ r ∧ r ≤ (n : Int) - 1) (h3 : eLenO 0 F_Map___len__ (eVar 0) [.fro x, .fro (.int r)] = .ok (.fro (.int n), [.fro x, .fro (.int r)])) : F_is_road [.fro x, .fro (.int r)] = .ok (.fro (.bl true), [.un, .un]) := w1 _ h h3
theorem m_is_road {r : Int} (h : 0 ≤ r ∧ r < p.rs.length) (h8 : p.rs.length ≤ 8) : F_is_road [.fro p.ch, .fro (.int r)] = .ok (.fro (.bl true), [.un, .un]) := w2 (n := p.rs.length) ⟨h.1, by omega⟩ (m_lenO (p := p) rfl h8)
theorem w3 {l : List Int} {x : D} (G A : Fm) (hG : ∀ r ∈ l, G [.fro x, .fro (.int r)] = .ok (.fro (.bl true), [.un, .un])) (hA : A [.fro (.tup (Li l))] = .ok (.fro (.bl true), [.un])) (hn : l.length ≤ 8) :
    runF 2 1 (sRet (eAnd (e1 (oIsi isi_tuple) (eUse 1)) (eAnd (eCB (c1 oAll) (aCons (eLc (gN 2) [2] (iData (eVar 1)) (bYes) (eCall G (aCons (eVar 0) (aCons (eVar 2) (aNil))))) (aNil))) (eCall A (aCons (eVar 1) (aNil)))))) [.fro x, .fro (.tup (Li l))] = .ok (.fro (.bl true), [.un, .un]) := by
  have hl : lcL (gN 2) [2] bYes (eCall G (aCons (eVar 0) (aCons (eVar 2) aNil))) (l.map D.int) [.fro x, .fro (.tup (Li l)), .un] [] = .ok (List.replicate (l.map D.int).length (.bl true), [.fro x, .fro (.tup (Li l)), .un]) :=
    lc_true (fun d hd => by
      obtain ⟨r, hr, rfl⟩ := List.mem_map.mp hd
      have q := hG r hr
      exact ⟨[.fro x, .fro (.tup (Li l)), .fro (.int r)], [.fro x, .fro (.tup (Li l)), .fro (.int r)], rfl, by simp [q], rfl⟩) (by simp; exact sl8 (by omega))
  simp [isi_tuple, Isi.of, hl, hA]
theorem m_are_roads {l : List Int} (hi : InR p.rs.length l) (ha : l.Pairwise (· < ·)) (h8 : p.rs.length ≤ 8) : F_are_roads [.fro p.ch, .fro (.tup (Li l))] = .ok (.fro (.bl true), [.un, .un]) :=
  w3 F_is_road F_ascends (fun r hr => m_is_road (p := p) (hi r hr) h8) (m_asc_L (by have := hi.len ha; omega) ha) (by have := hi.len ha; omega)
theorem m_is_world {l : List Int} (hi : InR p.rs.length l) (ha : l.Pairwise (· < ·)) (hm : (l.length : Int) ≤ p.m) (h8 : p.rs.length ≤ 8) : F_is_world [.fro p.ch, .fro (.tup (Li l))] = .ok (.fro (.bl true), [.un, .un]) := by
  have h := m_are_roads (p := p) hi ha h8
  simp only [ch_def] at h ⊢
  simp [F_is_world, h, hm]
theorem m_check_world {l : List Int} (hi : InR p.rs.length l) (ha : l.Pairwise (· < ·)) (hm : (l.length : Int) ≤ p.m) (h8 : p.rs.length ≤ 8) : F_check_world [.fro p.ch, .fro (.tup (Li l))] = .ok (.fro .non, [.un, .un]) := by
  have h := m_is_world (p := p) hi ha hm h8
  simp only [ch_def] at h ⊢
  simp [F_check_world, h]
theorem lc_bools {i : Nat} {te : EF} {ρ0 : Env} (b : Int → Bool) {l : List Int} (h : ∀ r ∈ l, te (ρ0.set i (.fro (.int r))) = .ok (.fro (.bl (b r)), ρ0.set i (.fro (.int r)))) (hi : ρ0[i]? = some .un) (hl : l.length ≤ sizeLine) :
    lcL (gN i) [i] bYes te (l.map D.int) ρ0 [] = .ok (l.map fun r => .bl (b r), ρ0) := by
  have hlt : i < ρ0.length := (List.getElem?_eq_some_iff.mp hi).1
  have hw : ∀ c, (ρ0.set i c).set i .un = ρ0 := fun c => by
    rw [List.set_set]
    apply List.ext_getElem?
    intro k
    by_cases hk : i = k
    · subst hk; rw [List.getElem?_set_self hlt, hi]
    · rw [List.getElem?_set_ne hk]
  rw [lcL_map (fun _ => true) (fun d => match d with | .int r => .bl (b r) | _ => .non) (fun d hd => ?_) (by simpa using hl)]
  · rw [filter_all fun _ _ => rfl, List.nil_append, List.map_map]; rfl
  · obtain ⟨r, hr, rfl⟩ := List.mem_map.mp hd
    exact ⟨_, _, rfl, rfl, by simp, fun _ => ⟨_, _, h r hr, rfl, hw (.fro (.int r))⟩⟩
theorem m_is_state (h : StOk p x c s) (h8 : p.rs.length ≤ 8) : F_is_state [.fro p.ch, .fro (stD x c s)] = .ok (.fro (.bl true), [.un, .un]) := by
  have q1 := m_are_roads (p := p) h.ci h.ca h8
  have q2 := m_is_world (p := p) h.si h.sa h.sm h8
  have q3 := m_roads_at p x h8
  have x1 := h.x0
  have x2 : x ≤ p.P - 1 := by have := h.xP; omega
  have hc := h.ci.len h.ca
  have ha := (at_in p.rs x).len (at_asc p.rs x)
  simp only [ch_def] at q1 q2 q3 ⊢
  have l1 : lcL (gN 5) [5] bYes (e2 (oIn false) (eUse 5) (eUse 4)) (c.map D.int) [.fro (.obj 0 p.ds), .fro (stD x c s), .fro (.int x), .fro (.tup (Li c)), .fro (.tup (Li s)), .un] [] = .ok (c.map fun r => .bl (s.contains r), [.fro (.obj 0 p.ds), .fro (stD x c s), .fro (.int x), .fro (.tup (Li c)), .fro (.tup (Li s)), .un]) :=
    lc_bools (fun r => s.contains r) (fun r hr => by simp) rfl (sl8 (by omega))
  have l2 : lcL (gN 5) [5] bYes (eOr (e2 (oIn false) (eUse 5) (eUse 3)) (e2 (oIn false) (eUse 5) (eUse 4))) ((atR p.rs x).map D.int) [.fro (.obj 0 p.ds), .fro (stD x c s), .fro (.int x), .fro (.tup (Li c)), .fro (.tup (Li s)), .un] [] = .ok ((atR p.rs x).map fun r => .bl (c.contains r || s.contains r), [.fro (.obj 0 p.ds), .fro (stD x c s), .fro (.int x), .fro (.tup (Li c)), .fro (.tup (Li s)), .un]) :=
    lc_bools (fun r => c.contains r || s.contains r) (fun r hr => by
      simp
      cases hx : c.contains r <;> simp_all) rfl (sl8 (by omega))
  have o1 : oAny (.lst (c.map fun r => .bl (s.contains r))) = .ok (.fro (.bl false)) := by
    have := oAny_map (fun d => match d with | .int r => s.contains r | _ => false) (c.map D.int)
    rw [List.map_map, List.any_map] at this
    rw [show (c.map fun r => D.bl (s.contains r)) = c.map ((fun d => D.bl (match d with | .int r => s.contains r | _ => false)) ∘ D.int) from rfl, this]
    congr 3
    rw [List.any_eq_false]
    intro r hr
    have := h.dj r hr
    simpa using this
  have o2 : oAll (.lst ((atR p.rs x).map fun r => .bl (c.contains r || s.contains r))) = .ok (.fro (.bl true)) := by
    have := oAll_map (fun d => match d with | .int r => c.contains r || s.contains r | _ => false) ((atR p.rs x).map D.int)
    rw [List.map_map, List.all_map] at this
    rw [show ((atR p.rs x).map fun r => D.bl (c.contains r || s.contains r)) = (atR p.rs x).map ((fun d => D.bl (match d with | .int r => c.contains r || s.contains r | _ => false)) ∘ D.int) from rfl, this]
    congr 3
    rw [List.all_eq_true]
    intro r hr
    have := h.all r hr
    simpa using this
  simp only [stD, Li, List.contains_eq_mem] at l1 l2 o1 o2
  simp [F_is_state, stD, isi_tuple, Isi.of, m_within, x1, x2, q1, q2, q3, l1, l2, o1, o2]
end
end Dt
end

section
set_option Elab.async false
set_option linter.all false
set_option maxRecDepth 100000
set_option maxHeartbeats 4000000
set_option autoImplicit false
namespace Dt
open PySem PySem.Spec PyProof.Rows L2
section
variable {p : Pl} {x : Int} {c s : List Int}
theorem w4 {x st : D} (G : Fm) (h : G [.fro x, .fro st] = .ok (.fro (.bl true), [.un, .un])) : (runF 2 0 (sIf (bNot (bB (eCall G (aCons (eVar 0) (aCons (eVar 1) (aNil)))))) (sBad) (sNil))) [.fro x, .fro st] = .ok (.fro .non, [.un, .un]) := by simp [h]
theorem m_check_state (h : StOk p x c s) (h8 : p.rs.length ≤ 8) : F_check_state [.fro p.ch, .fro (stD x c s)] = .ok (.fro .non, [.un, .un]) := w4 F_is_state (m_is_state h h8)
theorem w5a {x : D} {y : Int} {c s a : List Int} (R : Fm) (h3 : R [.fro x, .fro (.int y)] = .ok (.own (.lst (Li a)), [.un, .un])) (ha : a.length ≤ 8) :
    (runF 2 4 (sCons (sAsg (gT 3 (gsCons (gN 2) (gsCons (gN 3) (gsCons (gN 4) (gsNil))))) (eVar 1)) (sRet (eLc (gN 5) [5] (iData (eCall R (aCons (eVar 0) (aCons (eVar 2) (aNil))))) (bB (e2 (oIn false) (eUse 5) (eUse 3))) (eVar 5))))) [.fro x, .fro (stD y c s)] = .ok (.own (.lst (Li (a.filter fun r => c.contains r))), [.un, .un]) := by
  have hl : lcL (gN 5) [5] (bB (e2 (oIn false) (eUse 5) (eUse 3))) (eVar 5) (a.map D.int) [.fro x, .fro (stD y c s), .fro (.int y), .fro (.tup (Li c)), .fro (.tup (Li s)), .un] [] = .ok ((a.filter fun r => c.contains r).map D.int, [.fro x, .fro (stD y c s), .fro (.int y), .fro (.tup (Li c)), .fro (.tup (Li s)), .un]) :=
    lc_ints (fun r => c.contains r) (fun r hr => by simp) rfl (sl8 (by omega))
  simp only [stD, Li, List.contains_eq_mem] at hl
  simp [stD, h3, hl]
theorem w5 {x d st : D} (C1 C2 R : Fm) (h1 : C1 [.fro x] = .ok (.fro .non, [.un])) (h2 : C2 [.fro x, .fro st] = .ok (.fro .non, [.un, .un])) (h3 : R [.fro x, .fro st] = .ok (.own d, [.un, .un])) :
    (runF 2 0 (sCons (sDrop (eCall C1 (aCons (eVar 0) (aNil)))) (sCons (sDrop (eCall C2 (aCons (eVar 0) (aCons (eVar 1) (aNil))))) (sRet (eCall R (aCons (eVar 0) (aCons (eVar 1) (aNil)))))))) [.fro x, .fro st] = .ok (.own d, [.un, .un]) := by
  simp [h1, h2, h3]
def waysOf (rs : List Rd) (x : Int) (c : List Int) : List Int := (atR rs x).filter fun r => c.contains r
theorem m_open_roads (h8 : p.rs.length ≤ 8) : F_open_roads [.fro p.ch, .fro (stD x c s)] = .ok (.own (.lst (Li (waysOf p.rs x c))), [.un, .un]) :=
  w5a F_roads_at (m_roads_at p x h8) (by have := (at_in p.rs x).len (at_asc p.rs x); omega)
theorem m_ways (h : StOk p x c s) (h8 : p.rs.length ≤ 8) : F_ways [.fro p.ch, .fro (stD x c s)] = .ok (.own (.lst (Li (waysOf p.rs x c))), [.un, .un]) :=
  w5 F_check_map F_check_state F_open_roads (m_check p) (m_check_state h h8) (m_open_roads h8)
theorem w6a {x d : D} {y r z : Int} {c s : List Int} (A O : Fm)
    (h5 : O [.fro x, .fro (.int r), .fro (.int y)] = .ok (.fro (.int z), [.un, .un, .un])) (h6 : A [.fro x, .fro (.int z), .fro (.tup (Li c)), .fro (.tup (Li s))] = .ok (.own d, [.un, .un, .un, .un])) :
    (runF 3 3 (sCons (sAsg (gT 3 (gsCons (gN 3) (gsCons (gN 4) (gsCons (gN 5) (gsNil))))) (eVar 1)) (sRet (eCall A (aCons (eVar 0) (aCons (eCall O (aCons (eVar 0) (aCons (eVar 2) (aCons (eVar 3) (aNil))))) (aCons (eVar 4) (aCons (eVar 5) (aNil))))))))) [.fro x, .fro (stD y c s), .fro (.int r)] = .ok (.own d, [.un, .un, .un]) := by
  simp only [stD] at *
  simp [h5, h6]
theorem wW {x st : D} {r : Int} {ws : List Int} (IR W : Fm) (h3 : IR [.fro x, .fro (.int r)] = .ok (.fro (.bl true), [.un, .un])) (h4 : W [.fro x, .fro st] = .ok (.own (.lst (Li ws)), [.un, .un])) (hr : r ∈ ws) :
    (runF 3 0 (sRet (eAnd (eCall IR (aCons (eVar 0) (aCons (eVar 2) (aNil)))) (e2 (oIn false) (eUse 2) (eCall W (aCons (eVar 0) (aCons (eVar 1) (aNil)))))))) [.fro x, .fro st, .fro (.int r)] = .ok (.fro (.bl true), [.un, .un, .un]) := by
  simp [h3, h4, hr]
theorem w6 {x d st : D} {r : Int} (C1 C2 W A : Fm) (h1 : C1 [.fro x] = .ok (.fro .non, [.un])) (h2 : C2 [.fro x, .fro st] = .ok (.fro .non, [.un, .un])) (h3 : W [.fro x, .fro st, .fro (.int r)] = .ok (.fro (.bl true), [.un, .un, .un]))
    (h6 : A [.fro x, .fro st, .fro (.int r)] = .ok (.own d, [.un, .un, .un])) :
    (runF 3 0 (sCons (sDrop (eCall C1 (aCons (eVar 0) (aNil)))) (sCons (sDrop (eCall C2 (aCons (eVar 0) (aCons (eVar 1) (aNil))))) (sCons (sIf (bNot (bB (eCall W (aCons (eVar 0) (aCons (eVar 1) (aCons (eVar 2) (aNil))))))) (sBad) (sNil)) (sRet (eCall A (aCons (eVar 0) (aCons (eVar 1) (aCons (eVar 2) (aNil)))))))))) [.fro x, .fro st, .fro (.int r)] = .ok (.own d, [.un, .un, .un]) := by
  simp [h1, h2, h3, h6]
theorem atI_nat {α : Type} {l : List α} {i : Nat} {a : α} (h : l[i]? = some a) : L2.atI l (i : Int) = some a := by
  have hl := (List.getElem?_eq_some_iff.mp h).1
  have e : L2.ixN l.length (i : Int) = some i := by
    unfold L2.ixN
    simp [hl]
  unfold L2.atI
  rw [e]; exact h
def otherEnd (q : Rd) (x : Int) : Int := if x = q.1 then q.2.1 else q.1
theorem m_other {i : Nat} {q : Rd} (h : p.rs[i]? = some q) : F_other_end [.fro p.ch, .fro (.int (i : Nat)), .fro (.int x)] = .ok (.fro (.int (otherEnd q x)), [.un, .un, .un]) := by
  have e : oIx (.tup (p.rs.map rd)) (.int (i : Nat)) = .ok (.fro (rd q)) := by
    show (Res.of (L2.atI (p.rs.map rd) (i : Int))).bind _ = _
    rw [atI_nat (a := rd q) (by rw [List.getElem?_map, h]; rfl)]; rfl
  simp only [ch_def]
  simp [F_other_end, e]
  simp [rd, otherEnd]
  by_cases hx : x = q.1 <;> simp [hx]
theorem m_law_end {i : Nat} {q : Rd} (h : p.rs[i]? = some q) (hx : q.1 = x ∨ q.2.1 = x) : F__law_end [.fro p.pl, .fro (.int (i : Nat)), .fro (.int x)] = .ok (.fro (.int (otherEnd q x)), [.un, .un, .un]) := by
  have e : oIx (.tup (p.rs.map rd)) (.int (i : Nat)) = .ok (.fro (rd q)) := by
    show (Res.of (L2.atI (p.rs.map rd) (i : Int))).bind _ = _
    rw [atI_nat (a := rd q) (by rw [List.getElem?_map, h]; rfl)]; rfl
  have e0 : oIx p.pl (.int 1) = .ok (.fro (.tup (p.rs.map rd))) := rfl
  have e1 : oIx (rd q) (.int 0) = .ok (.fro (.int q.1)) := rfl
  have e3 : oIx (rd q) (.int 1) = .ok (.fro (.int q.2.1)) := rfl
  simp [F__law_end, e0, e, e1, e3, otherEnd]
  split <;> omega
end
end Dt
end

section
set_option Elab.async false
set_option linter.all false
set_option maxRecDepth 100000
set_option maxHeartbeats 4000000
set_option autoImplicit false
namespace Dt
open PySem PySem.Spec PyProof.Rows L2
/-! ### least lengths: rounds over the roads -/
abbrev Vs := List (Option Int)
def oD : Option Int → D
  | none => .non
  | some v => .int v
def gt (b : Vs) (u : Int) : Option Int := (b[u.toNat]?).getD none
def relax (b : Vs) (u v l : Int) : Vs := match gt b u with
  | none => b
  | some d => match gt b v with
    | none => b.set v.toNat (some (d + l))
    | some e => if d + l < e then b.set v.toNat (some (d + l)) else b
theorem relax_len (b : Vs) (u v l : Int) : (relax b u v l).length = b.length := by
  unfold relax
  split
  · rfl
  · split
    · rw [List.length_set]
    · split
      · rw [List.length_set]
      · rfl
def step (w : List Int) (b : Vs) (q : Rd × Nat) : Vs := if w.contains (q.2 : Int) then b else relax (relax b q.1.1 q.1.2.1 q.1.2.2) q.1.2.1 q.1.1 q.1.2.2
theorem step_len (w : List Int) (b : Vs) (q : Rd × Nat) : (step w b q).length = b.length := by
  unfold step
  split
  · rfl
  · rw [relax_len, relax_len]
def round (rs : List Rd) (w : List Int) (b : Vs) : Vs := rs.zipIdx.foldl (step w) b
theorem fold_len (w : List Int) : ∀ (qs : List (Rd × Nat)) (b : Vs), (qs.foldl (step w) b).length = b.length
  | [], _ => rfl
  | q :: qs, b => by rw [List.foldl_cons, fold_len w qs, step_len]
def rounds (rs : List Rd) (w : List Int) : Nat → Vs → Vs
  | 0, b => b
  | n + 1, b => rounds rs w n (round rs w b)
theorem rounds_len (rs : List Rd) (w : List Int) : ∀ (n : Nat) (b : Vs), (rounds rs w n b).length = b.length
  | 0, _ => rfl
  | n + 1, b => by rw [rounds, rounds_len rs w n]; exact fold_len w _ b
def start0 (P b : Int) : Vs := (List.replicate P.toNat none).set b.toNat (some 0)
theorem ixN_at {n : Nat} {k : Int} (h0 : 0 ≤ k) (h1 : k < n) : L2.ixN n k = some k.toNat := by
  unfold L2.ixN
  simp [h0, h1]
theorem ix_at {b : Vs} {u : Int} (h0 : 0 ≤ u) (h1 : u < b.length) : oIx (.lst (b.map oD)) (.int u) = .ok (.fro (oD (gt b u))) := by
  show (Res.of (L2.atI (b.map oD) u)).bind _ = _
  have h2 : u.toNat < b.length := by omega
  have e : L2.atI (b.map oD) u = some (oD (gt b u)) := by
    unfold L2.atI
    rw [List.length_map, ixN_at h0 h1]
    unfold gt
    simp [h2]
  rw [e]; rfl
theorem map_set_oD (b : Vs) (i : Nat) (v : Int) : (b.map oD).set i (.int v) = (b.set i (some v)).map oD := by rw [List.map_set]; rfl
@[simp] theorem z_oIsN (d : D) : oIsN d .non = .ok (.fro (.bl d.isN)) := rfl
@[simp] theorem z_oNotN (d : D) : oNotN d .non = .ok (.fro (.bl (!d.isN))) := rfl
@[simp] theorem isN_none : (oD none).isN = true := rfl
@[simp] theorem isN_some (v : Int) : (oD (some v)).isN = false := rfl
theorem z_sSetIx {i : Nat} {fk fe : EF} {ρ : Env} : sSetIx i fk fe ρ = (fe ρ).bind fun p => (Res.of p.1.take).bind fun x => (Res.need (isL i p.2)).bind fun _ => (fk p.2).bind fun q => (Res.of (deref q.2 q.1.hold)).bind fun kd => match kd with
  | .int k => (putL i (fun ds => (Res.of (ixN ds.length k)).bind fun j => .ok (ds.set j x)) q.2).bind fun ρ1 => .ok (.nx, ρ1)
  | _ => .bad := rfl
theorem m_lower {b : Vs} {u v l : Int} (u0 : 0 ≤ u) (u1 : u < b.length) (v0 : 0 ≤ v) (v1 : v < b.length) : F__lower [.brw (.lst (b.map oD)), .fro (.int u), .fro (.int v), .fro (.int l)] = .ok (.fro .non, [.brw (.lst ((relax b u v l).map oD)), .un, .un, .un]) := by
  have e1 := ix_at u0 u1
  have e2 := ix_at v0 v1
  have e3 : L2.ixN b.length v = some v.toNat := ixN_at v0 v1
  unfold relax
  cases hu : gt b u with
  | none =>
    rw [hu] at e1
    have e1 : oIx (.lst (b.map oD)) (.int u) = .ok (.fro .non) := e1
    simp [F__lower, e1, D.isN]
  | some d =>
    rw [hu] at e1
    have e1 : oIx (.lst (b.map oD)) (.int u) = .ok (.fro (.int d)) := e1
    cases hv : gt b v with
    | none =>
      rw [hv] at e2
      have e2 : oIx (.lst (b.map oD)) (.int v) = .ok (.fro .non) := e2
      simp [F__lower, e1, e2, D.isN, z_sSetIx, isL, putL, Cell.mut, Cell.dat, Cell.put, e3, map_set_oD]
    | some e =>
      rw [hv] at e2
      have e2 : oIx (.lst (b.map oD)) (.int v) = .ok (.fro (.int e)) := e2
      by_cases hlt : d + l < e
      · simp [F__lower, e1, e2, D.isN, z_sSetIx, isL, putL, Cell.mut, Cell.dat, Cell.put, e3, map_set_oD, hlt]
      · simp [F__lower, e1, e2, D.isN, hlt]
@[simp] theorem oneB_bor (i : Nat) (r : List RV) : oneB (.bor i :: r) = (frozen r).map fun ds => ([], i, ds) := rfl
theorem z_eCallB {f : Fm} {g : AF} {ρ : Env} : eCallB f g ρ = (g ρ).bind fun p => (Res.of (oneB p.1)).bind fun b => (Res.of p.2[b.2.1]?).bind fun c => (Res.need c.mut).bind fun _ => (Res.of c.dat).bind fun d =>
  (f (b.1.map .fro ++ .brw d :: b.2.2.map .fro)).bind fun q => (Res.need q.1.made).bind fun _ => match q.2[b.1.length]? with
    | some (.brw d') => .ok (q.1, p.2.set b.2.1 (c.put d'))
    | _ => .bad := rfl
/-- the roads with other lengths -/
def prd (rs : List Rd) (pr : List Int) : List Rd := rs.zipIdx.map fun q => (q.1.1, q.1.2.1, pr.getD q.2 0)
def lens (rs : List Rd) : List Int := rs.map fun r => r.2.2
theorem prd_len (rs : List Rd) (pr : List Int) : (prd rs pr).length = rs.length := by unfold prd; rw [List.length_map, List.length_zipIdx]
theorem prd_lens (rs : List Rd) : prd rs (lens rs) = rs := by
  unfold prd lens
  apply List.ext_getElem?
  intro i
  simp only [List.getElem?_map, List.getElem?_zipIdx, Nat.zero_add]
  cases h : rs[i]? with
  | none => rfl
  | some r => simp [List.getD_eq_getElem?_getD, h]
theorem prd_zip (rs : List Rd) (pr : List Int) : (prd rs pr).zipIdx = rs.zipIdx.map fun q => ((q.1.1, q.1.2.1, pr.getD q.2 0), q.2) := by
  unfold prd
  apply List.ext_getElem?
  intro i
  simp only [List.getElem?_map, List.getElem?_zipIdx, Nat.zero_add]
  cases h : rs[i]? with
  | none => rfl
  | some r => simp
section
variable {p : Pl} {w pr : List Int} {dw : D}
def gIP : GF := gT 2 (gsCons (gN 6) (gsCons (gT 3 (gsCons (gN 7) (gsCons (gN 8) (gsCons (gN 5) (gsNil))))) (gsNil)))
def bodyS (L : Fm) : SF := sIf (bB (e2 (oIn true) (eUse 6) (eUse 2))) (sCons (sDrop (eCallB L (aCons (eUse 4) (aCons (eVar 7) (aCons (eVar 8) (aCons (e2 oIx (eUse 3) (eUse 6)) (aNil))))))) (sDrop (eCallB L (aCons (eUse 4) (aCons (eVar 8) (aCons (eVar 7) (aCons (e2 oIx (eUse 3) (eUse 6)) (aNil)))))))) (sNil)
def envS (p : Pl) (dw : D) (pr : List Int) (beg : Int) (b : Vs) (u5 u6 u7 u8 : Cell) : Env := [.fro (.obj 0 p.ds), .fro (.int beg), .fro dw, .fro (.lst (Li pr)), .own (.lst (b.map oD)), u5, u6, u7, u8]
/-- a road with its price -/
abbrev pq (pr : List Int) (q : Rd × Nat) : Rd × Nat := ((q.1.1, q.1.2.1, pr.getD q.2 0), q.2)
theorem ix_li {pr : List Int} {k : Nat} (h : k < pr.length) : oIx (.lst (pr.map D.int)) (.int (k : Nat)) = .ok (.fro (.int (pr.getD k 0))) := by
  show (Res.of (L2.atI (pr.map D.int) (k : Int))).bind _ = _
  rw [atI_nat (a := .int (pr.getD k 0)) (by rw [List.getElem?_map, List.getElem?_eq_getElem h, List.getD_eq_getElem?_getD, List.getElem?_eq_getElem h]; rfl)]; rfl
theorem bodyS_ok {beg : Int} {b : Vs} {q : Rd × Nat} {c5 : Cell} (L : Fm) (hw : dw = .tup (Li w) ∨ dw = .lst (Li w)) (hL : ∀ (b : Vs) (u v l : Int), 0 ≤ u → u < b.length → 0 ≤ v → v < b.length → L [.brw (.lst (b.map oD)), .fro (.int u), .fro (.int v), .fro (.int l)] = .ok (.fro .non, [.brw (.lst ((relax b u v l).map oD)), .un, .un, .un]))
    (hq : RdOk p.P q.1) (hb : (b.length : Int) = p.P) (hp : q.2 < pr.length) : bodyS L (envS p dw pr beg b c5 (.fro (.int q.2)) (.fro (.int q.1.1)) (.fro (.int q.1.2.1))) = .ok (.nx, envS p dw pr beg (step w b (pq pr q)) c5 (.fro (.int q.2)) (.fro (.int q.1.1)) (.fro (.int q.1.2.1))) := by
  have h1 := hq.a0; have h2 := hq.ab; have h3 := hq.bP
  have s1 := hL b q.1.1 q.1.2.1 (pr.getD q.2 0) h1 (by omega) (by omega) (by omega)
  have s2 := hL (relax b q.1.1 q.1.2.1 (pr.getD q.2 0)) q.1.2.1 q.1.1 (pr.getD q.2 0) (by omega) (by rw [relax_len]; omega) h1 (by rw [relax_len]; omega)
  have hx := ix_li hp
  have hin : oIn true (.int (q.2 : Nat)) dw = .ok (.fro (.bl (!w.contains (q.2 : Int)))) := by rcases hw with rfl | rfl <;> simp
  unfold step
  simp only [List.getD_eq_getElem?_getD] at s1 s2 hx
  cases hc : w.contains (q.2 : Int) with
  | true =>
    rw [hc] at hin
    simp [bodyS, envS, hin]
  | false =>
    rw [hc] at hin
    simp [bodyS, envS, hin, z_eCallB, Cell.mut, Cell.dat, Cell.put, s1, s2, hx, Li]
theorem loopS {beg : Int} (L : Fm) (hw : dw = .tup (Li w) ∨ dw = .lst (Li w)) (hL : ∀ (b : Vs) (u v l : Int), 0 ≤ u → u < b.length → 0 ≤ v → v < b.length → L [.brw (.lst (b.map oD)), .fro (.int u), .fro (.int v), .fro (.int l)] = .ok (.fro .non, [.brw (.lst ((relax b u v l).map oD)), .un, .un, .un])) :
    ∀ (qs : List (Rd × Nat)) (b : Vs) (u5 u6 u7 u8 : Cell), (∀ q ∈ qs, RdOk p.P q.1 ∧ q.2 < pr.length) → (b.length : Int) = p.P →
    ∃ v5 v6 v7 v8, forL gIP (bodyS L) (qs.map fun q => .tup [.int (q.2 : Nat), rd q.1]) (envS p dw pr beg b u5 u6 u7 u8) = .ok (.nx, envS p dw pr beg ((qs.map (pq pr)).foldl (step w) b) v5 v6 v7 v8)
  | [], b, u5, u6, u7, u8, _, _ => ⟨u5, u6, u7, u8, rfl⟩
  | q :: qs, b, u5, u6, u7, u8, hq, hb => by
    obtain ⟨v5, v6, v7, v8, ih⟩ := loopS L hw hL qs (step w b (pq pr q)) (.fro (.int q.1.2.2)) (.fro (.int q.2)) (.fro (.int q.1.1)) (.fro (.int q.1.2.1)) (fun r hr => hq r (List.mem_cons_of_mem _ hr)) (by rw [step_len]; exact hb)
    refine ⟨v5, v6, v7, v8, ?_⟩
    have hg : gIP (.tup [.int (q.2 : Nat), rd q.1]) (envS p dw pr beg b u5 u6 u7 u8) = .ok (envS p dw pr beg b (.fro (.int q.1.2.2)) (.fro (.int q.2)) (.fro (.int q.1.1)) (.fro (.int q.1.2.1))) := by simp [gIP, rd, envS]
    rw [List.map_cons, forL, hg, Res.bind_ok, bodyS_ok L hw hL (hq q (List.mem_cons_self ..)).1 hb (hq q (List.mem_cons_self ..)).2, Res.bind_ok]
    show forL gIP (bodyS L) _ _ = _
    rw [ih]; rfl
theorem zip_ok (h : ∀ r ∈ p.rs, RdOk p.P r) : ∀ q ∈ p.rs.zipIdx, RdOk p.P q.1 := fun q hq => h _ (by
  have := List.mem_zipIdx_iff_getElem?.mp hq
  exact List.mem_of_getElem? (by simpa using this))
theorem zip_lt {rs : List Rd} : ∀ q ∈ rs.zipIdx, q.2 < rs.length := fun q hq => by
  have := List.mem_zipIdx_iff_getElem?.mp hq
  exact (List.getElem?_eq_some_iff.mp (by simpa using this)).1
/-- the rounds -/
theorem loopR {beg : Int} (L MR : Fm) (hw : dw = .tup (Li w) ∨ dw = .lst (Li w)) (hL : ∀ (b : Vs) (u v l : Int), 0 ≤ u → u < b.length → 0 ≤ v → v < b.length → L [.brw (.lst (b.map oD)), .fro (.int u), .fro (.int v), .fro (.int l)] = .ok (.fro .non, [.brw (.lst ((relax b u v l).map oD)), .un, .un, .un]))
    (hM : MR [.fro (.obj 0 p.ds)] = .ok (.fro (.tup (p.rs.map rd)), [.un])) (h : ∀ r ∈ p.rs, RdOk p.P r) (hp : pr.length = p.rs.length) : ∀ (ds : List D) (b : Vs) (u5 u6 u7 u8 : Cell), (b.length : Int) = p.P →
    ∃ v5 v6 v7 v8, forL (gN 5) (sFor gIP (iEnumD (aCons (oSelf 0 MR (eVar 0)) (aNil))) (bodyS L)) ds (envS p dw pr beg b u5 u6 u7 u8) = .ok (.nx, envS p dw pr beg (rounds (prd p.rs pr) w ds.length b) v5 v6 v7 v8)
  | [], b, u5, u6, u7, u8, _ => ⟨u5, u6, u7, u8, rfl⟩
  | d :: ds, b, u5, u6, u7, u8, hb => by
    obtain ⟨v5, v6, v7, v8, h1⟩ := loopS (p := p) (w := w) (pr := pr) (beg := beg) L hw hL p.rs.zipIdx b (.fro d) u6 u7 u8 (fun q hq => ⟨zip_ok h q hq, by rw [hp]; exact zip_lt q hq⟩) hb
    obtain ⟨x5, x6, x7, x8, ih⟩ := loopR L MR hw hL hM h hp ds (round (prd p.rs pr) w b) v5 v6 v7 v8 (by rw [round, fold_len]; exact hb)
    refine ⟨x5, x6, x7, x8, ?_⟩
    have hs : sFor gIP (iEnumD (aCons (oSelf 0 MR (eVar 0)) (aNil))) (bodyS L) (envS p dw pr beg b (.fro d) u6 u7 u8) = .ok (.nx, envS p dw pr beg (round (prd p.rs pr) w b) v5 v6 v7 v8) := by
      have e : (iEnumD (aCons (oSelf 0 MR (eVar 0)) (aNil))) (envS p dw pr beg b (.fro d) u6 u7 u8) = .ok (pairs (p.rs.map rd), envS p dw pr beg b (.fro d) u6 u7 u8) := by simp [envS, hM]
      rw [z_sFor, e, Res.bind_ok, pairs_map]
      unfold round
      rw [prd_zip]
      exact h1
    rw [forL, show gN 5 d (envS p dw pr beg b u5 u6 u7 u8) = .ok (envS p dw pr beg b (.fro d) u6 u7 u8) from rfl, Res.bind_ok, hs, Res.bind_ok]
    show forL (gN 5) _ ds _ = _
    rw [ih]; rfl
theorem rep_non : ∀ n : Nat, (List.replicate n [D.non]).flatten = (List.replicate n (none : Option Int)).map oD
  | 0 => rfl
  | n + 1 => by rw [List.replicate_succ, List.flatten_cons, rep_non n, List.replicate_succ]; rfl
theorem runF_fro {n m : Nat} {f : SF} {cs : List Cell} {d : D} {ρ' : Env} {ρ0 : Env} (h : f ρ0 = .ok (.ret (.fro d), ρ')) (hl : cs.length = n) (hr : cs ++ List.replicate m .un = ρ0) (hp : n ≤ ρ'.length) : runF n m f cs = .ok (.fro d, (ρ'.take n).map outC) := by
  unfold runF
  rw [if_pos hl, hr, h, Res.bind_ok, if_pos hp]
theorem m_sums {beg : Int} (hw : dw = .tup (Li w) ∨ dw = .lst (Li w)) (hP : 2 ≤ p.P) (h6 : p.P ≤ 6) (h : ∀ r ∈ p.rs, RdOk p.P r) (b0 : 0 ≤ beg) (b1 : beg < p.P) (hp : pr.length = p.rs.length) :
    F_least_sums [.fro p.ch, .fro (.int beg), .fro dw, .fro (.lst (Li pr))] = .ok (.fro (.lst ((rounds (prd p.rs pr) w (p.P - 1).toNat (start0 p.P beg)).map oD)), [.un, .un, .un, .un]) := by
  have s0 : ((start0 p.P beg).length : Int) = p.P := by
    unfold start0
    rw [List.length_set, List.length_replicate]; omega
  have hr : oRep (.lst [.non]) (.int p.P) = .ok (.own (.lst ((List.replicate p.P.toNat none).map oD))) := by
    show (if -(2 ^ 63) ≤ p.P ∧ p.P < 2 ^ 63 ∧ [D.non].length * p.P.toNat ≤ sizeLine then _ else _) = _
    rw [if_pos ⟨by omega, by omega, (by show 1 * p.P.toNat ≤ sizeLine; rw [Nat.one_mul]; exact sl8 (show p.P.toNat ≤ 1000 by omega))⟩, rep_non]
  have hi : L2.ixN p.P.toNat beg = some beg.toNat := ixN_at b0 (by omega)
  have hz : (intsD 0 (p.P - 1).toNat).length = (p.P - 1).toNat := by unfold intsD; rw [List.length_map, List.length_range]
  obtain ⟨v5, v6, v7, v8, hl⟩ := loopR (p := p) (w := w) (pr := pr) (dw := dw) (beg := beg) F__lower F_Map_roads hw (fun b u v l u0 u1 v0 v1 => m_lower u0 u1 v0 v1) (m_roads p) h hp (intsD 0 (p.P - 1).toNat) (start0 p.P beg) .un .un .un .un s0
  rw [hz] at hl
  have hsm : small (p.P - 1) = true := by
    unfold small
    rw [Bool.and_eq_true]
    exact ⟨decide_eq_true (by omega), decide_eq_true (by omega)⟩
  have hset : ((List.replicate p.P.toNat (none : Option Int)).map oD).set beg.toNat (.int 0) = (start0 p.P beg).map oD := map_set_oD _ _ _
  have hir : ∀ ρ : Env, ρ[0]? = some (.fro (.obj 0 p.ds)) → iRange1 (aCons (e2 oSub (oSelf 0 F_Map_places (eVar 0)) (eC (.int 1))) aNil) ρ = .ok (intsD 0 (p.P - 1).toNat, ρ) := fun ρ h0 => by
    unfold iRange1
    simp [h0, hsm]
  have sz : 1 ≤ sizeLine := by decide
  have e1 : sSet 4 (e2 oRep (eLst (aCons (eC .non) (aNil))) (oSelf 0 F_Map_places (eVar 0))) [.fro (.obj 0 p.ds), .fro (.int beg), .fro dw, .fro (.lst (Li pr)), .un, .un, .un, .un, .un] = .ok (.nx, [.fro (.obj 0 p.ds), .fro (.int beg), .fro dw, .fro (.lst (Li pr)), .own (.lst ((List.replicate p.P.toNat none).map oD)), .un, .un, .un, .un]) := by
    simp [sz, hr]
  have e2' : sSetIx 4 (eUse 1) (eC (.int 0)) [.fro (.obj 0 p.ds), .fro (.int beg), .fro dw, .fro (.lst (Li pr)), .own (.lst ((List.replicate p.P.toNat none).map oD)), .un, .un, .un, .un] = .ok (.nx, envS p dw pr beg (start0 p.P beg) .un .un .un .un) := by
    simp only [z_sSetIx, putL, isL, Cell.mut, Cell.dat, Cell.put, envS]
    simp [hi]
    simpa using hset
  have e3 : sFor (gN 5) (iRange1 (aCons (e2 oSub (oSelf 0 F_Map_places (eVar 0)) (eC (.int 1))) aNil)) (sFor gIP (iEnumD (aCons (oSelf 0 F_Map_roads (eVar 0)) (aNil))) (bodyS F__lower)) (envS p dw pr beg (start0 p.P beg) .un .un .un .un) = .ok (.nx, envS p dw pr beg (rounds (prd p.rs pr) w (p.P - 1).toNat (start0 p.P beg)) v5 v6 v7 v8) := by
    rw [z_sFor, hir _ rfl, Res.bind_ok]
    exact hl
  have key : (sCons (sSet 4 (e2 oRep (eLst (aCons (eC .non) (aNil))) (oSelf 0 F_Map_places (eVar 0)))) (sCons (sSetIx 4 (eUse 1) (eC (.int 0))) (sCons (sFor (gN 5) (iRange1 (aCons (e2 oSub (oSelf 0 F_Map_places (eVar 0)) (eC (.int 1))) aNil)) (sFor gIP (iEnumD (aCons (oSelf 0 F_Map_roads (eVar 0)) (aNil))) (bodyS F__lower))) (sRet (eVar 4))))) [.fro (.obj 0 p.ds), .fro (.int beg), .fro dw, .fro (.lst (Li pr)), .un, .un, .un, .un, .un]
      = .ok (.ret (.fro (.lst ((rounds (prd p.rs pr) w (p.P - 1).toNat (start0 p.P beg)).map oD))), (envS p dw pr beg (rounds (prd p.rs pr) w (p.P - 1).toNat (start0 p.P beg)) v5 v6 v7 v8).set 4 (.fro (.lst ((rounds (prd p.rs pr) w (p.P - 1).toNat (start0 p.P beg)).map oD)))) := by
    rw [z_sCons, e1, Res.bind_ok]
    show (sCons _ _) _ = _
    rw [z_sCons, e2', Res.bind_ok]
    show (sCons _ _) _ = _
    rw [z_sCons, e3, Res.bind_ok]
    rfl
  exact runF_fro (n := 4) (m := 5) (cs := [.fro p.ch, .fro (.int beg), .fro dw, .fro (.lst (Li pr))]) key rfl rfl (by show 4 ≤ 9; decide)
theorem m_lens (h8 : p.rs.length ≤ 8) : F_road_lengths [.fro p.ch] = .ok (.own (.lst (Li (lens p.rs))), [.un]) := by
  have hl : lcL (gT 3 (gsCons (gN 1) (gsCons (gN 1) (gsCons (gN 2) (gsNil))))) [1, 2] bYes (eVar 2) (p.rs.map rd) [.fro (.obj 0 p.ds), .un, .un] [] = .ok (Li (lens p.rs), [.fro (.obj 0 p.ds), .un, .un]) := by
    rw [lcL_map (fun _ => true) (fun d => match d with | .tup [_, _, .int l] => .int l | _ => .non) (fun d hd => ?_) (by simp; exact sl8 (by omega))]
    · rw [List.filter_eq_self.mpr fun _ _ => rfl, List.map_map]
      unfold Li lens
      rw [List.map_map]; rfl
    · obtain ⟨r, hr, rfl⟩ := List.mem_map.mp hd
      exact ⟨[.fro (.obj 0 p.ds), .fro (.int r.2.1), .fro (.int r.2.2)], [.fro (.obj 0 p.ds), .fro (.int r.2.1), .fro (.int r.2.2)], by simp [rd], rfl, fun h => absurd h (by simp), fun _ => ⟨.fro (.int r.2.2), [.fro (.obj 0 p.ds), .fro (.int r.2.1), .fro (.int r.2.2)], by simp, rfl, rfl⟩⟩
  simp only [ch_def, Li] at hl ⊢
  simp [F_road_lengths, hl]
theorem lens_len (rs : List Rd) : (lens rs).length = rs.length := by unfold lens; rw [List.length_map]
theorem w9 {x d e y z : D} (A B : Fm) (h1 : B [.fro x] = .ok (.own e, [.un])) (h2 : A [.fro x, .fro y, .fro z, .fro e] = .ok (.fro d, [.un, .un, .un, .un])) :
    (runF 3 0 (sRet (eCall A (aCons (eVar 0) (aCons (eVar 1) (aCons (eVar 2) (aCons (eCall B (aCons (eVar 0) (aNil))) (aNil)))))))) [.fro x, .fro y, .fro z] = .ok (.fro d, [.un, .un, .un]) := by simp [h1, h2]
theorem m_least {beg : Int} (hP : 2 ≤ p.P) (h6 : p.P ≤ 6) (h : ∀ r ∈ p.rs, RdOk p.P r) (h8 : p.rs.length ≤ 8) (b0 : 0 ≤ beg) (b1 : beg < p.P) : F_least_lengths [.fro p.ch, .fro (.int beg), .fro (.tup (Li w))] = .ok (.fro (.lst ((rounds p.rs w (p.P - 1).toNat (start0 p.P beg)).map oD)), [.un, .un, .un]) := by
  have h1 := m_sums (p := p) (w := w) (pr := lens p.rs) (dw := .tup (Li w)) (beg := beg) (.inl rfl) hP h6 h b0 b1 (lens_len _)
  rw [prd_lens] at h1
  exact w9 F_least_sums F_road_lengths (m_lens h8) h1
end
end Dt
end

section
set_option Elab.async false
set_option linter.all false
set_option maxRecDepth 100000
set_option maxHeartbeats 4000000
set_option autoImplicit false
namespace Dt.BF
open Dt
/-! ### one round less is enough -/
def g (b : Vs) (i : Nat) : Option Int := (b[i]?).getD none
def le : Option Int → Option Int → Prop
  | _, none => True
  | none, some _ => False
  | some x, some y => x ≤ y
theorem le_refl : ∀ a : Option Int, le a a
  | none => True.intro
  | some x => Int.le_refl x
theorem le_trans : ∀ {a b c : Option Int}, le a b → le b c → le a c
  | _, _, none, _, _ => True.intro
  | none, none, some _, _, h => h.elim
  | none, some _, some _, h, _ => h.elim
  | some _, none, some _, _, h => h.elim
  | some _, some _, some _, h1, h2 => Int.le_trans h1 h2
theorem le_anti : ∀ {a b : Option Int}, le a b → le b a → a = b
  | none, none, _, _ => rfl
  | none, some _, h, _ => h.elim
  | some _, none, _, h => h.elim
  | some _, some _, h1, h2 => congrArg some (Int.le_antisymm h1 h2)
theorem gt_g (b : Vs) (u : Int) : gt b u = g b u.toNat := rfl
theorem g_set_ne {b : Vs} {i j : Nat} {x : Option Int} (h : j ≠ i) : g (b.set i x) j = g b j := by
  unfold g; rw [List.getElem?_set_ne (Ne.symm h)]
theorem g_set {b : Vs} {i : Nat} {x : Option Int} (h : i < b.length) : g (b.set i x) i = x := by
  unfold g; rw [List.getElem?_set_self h]; rfl
theorem g_out {b : Vs} {i : Nat} (h : b.length ≤ i) : g b i = none := by
  unfold g; rw [List.getElem?_eq_none h]; rfl
abbrev rel (b : Vs) (e : Rd) : Vs := relax b e.1 e.2.1 e.2.2
theorem rel_ne {b : Vs} {e : Rd} {j : Nat} (h : j ≠ e.2.1.toNat) : g (rel b e) j = g b j := by
  unfold rel relax
  split
  · rfl
  · split
    · exact g_set_ne h
    · split
      · exact g_set_ne h
      · rfl
theorem rel_le (b : Vs) (e : Rd) (j : Nat) : le (g (rel b e) j) (g b j) := by
  by_cases h : j = e.2.1.toNat
  · subst h
    unfold rel relax
    split
    · exact le_refl _
    · rename_i d hd
      split
      · rename_i hv
        rw [show g b e.2.1.toNat = none from hv]
        exact True.intro
      · rename_i x hx
        split
        · rename_i hlt
          rw [show g b e.2.1.toNat = some x from hx]
          by_cases hl : e.2.1.toNat < b.length
          · rw [g_set hl]
            exact Int.le_of_lt hlt
          · have : g b e.2.1.toNat = none := g_out (Nat.le_of_not_lt hl)
            rw [show g b e.2.1.toNat = some x from hx] at this
            cases this
        · exact le_refl _
  · rw [rel_ne h]; exact le_refl _
theorem rel_hit {b : Vs} {e : Rd} {z : Int} (hu : g b e.1.toNat = some z) (hv : e.2.1.toNat < b.length) : le (g (rel b e) e.2.1.toNat) (some (z + e.2.2)) := by
  unfold rel relax
  rw [show gt b e.1 = some z from hu]
  dsimp only
  split
  · rw [g_set hv]; exact Int.le_refl _
  · rename_i x hx
    split
    · rw [g_set hv]; exact Int.le_refl _
    · rename_i hlt
      rw [show g b e.2.1.toNat = some x from hx]
      show x ≤ z + e.2.2
      omega
/-- what a relaxation may give -/
theorem rel_new {b : Vs} {e : Rd} (j : Nat) : g (rel b e) j = g b j ∨ (j = e.2.1.toNat ∧ ∃ z, g b e.1.toNat = some z ∧ g (rel b e) j = some (z + e.2.2)) := by
  by_cases h : j = e.2.1.toNat
  · subst h
    by_cases hl : e.2.1.toNat < b.length
    · unfold rel relax
      split
      · exact .inl rfl
      · rename_i d hd
        split
        · exact .inr ⟨rfl, d, hd, g_set hl⟩
        · split
          · exact .inr ⟨rfl, d, hd, g_set hl⟩
          · exact .inl rfl
    · have h1 : g b e.2.1.toNat = none := g_out (Nat.le_of_not_lt hl)
      have h2 : g (rel b e) e.2.1.toNat = none := g_out (by rw [rel, relax_len]; exact Nat.le_of_not_lt hl)
      exact .inl (h2.trans h1.symm)
  · exact .inl (rel_ne h)
theorem fold_le : ∀ (E : List Rd) (b : Vs) (j : Nat), le (g (E.foldl rel b) j) (g b j)
  | [], b, j => le_refl _
  | e :: E, b, j => le_trans (fold_le E (rel b e) j) (rel_le b e j)
theorem foldr_len : ∀ (E : List Rd) (b : Vs), (E.foldl rel b).length = b.length
  | [], _ => rfl
  | e :: E, b => by rw [List.foldl_cons, foldr_len E]; exact relax_len _ _ _ _
def it (E : List Rd) : Nat → Vs → Vs
  | 0, b => b
  | k + 1, b => it E k (E.foldl rel b)
theorem it_succ (E : List Rd) : ∀ (k : Nat) (b : Vs), it E (k + 1) b = E.foldl rel (it E k b)
  | 0, _ => rfl
  | k + 1, b => by rw [it, it_succ E k]; rfl
theorem it_len (E : List Rd) : ∀ (k : Nat) (b : Vs), (it E k b).length = b.length
  | 0, _ => rfl
  | k + 1, b => by rw [it, it_len E k, foldr_len]
theorem it_le (E : List Rd) (b : Vs) (j : Nat) : ∀ {k m : Nat}, k ≤ m → le (g (it E m b) j) (g (it E k b) j)
  | k, m, h => by
    induction h with
    | refl => exact le_refl _
    | step _ ih => rw [it_succ]; exact le_trans (fold_le E _ j) ih
/-- a falling sequence of values stands still in the end -/
theorem stab {f : Nat → Option Int} (hf : ∀ k m, k ≤ m → le (f m) (f k)) (h0 : ∀ k x, f k = some x → 0 ≤ x) : ∃ K, ∀ k, K ≤ k → f k = f K := by
  have aux : ∀ (n k0 : Nat) (x : Int), f k0 = some x → x.toNat ≤ n → ∃ K, ∀ k, K ≤ k → f k = f K := by
    intro n
    induction n with
    | zero =>
      intro k0 x hx hn
      refine ⟨k0, fun k hk => ?_⟩
      have h1 := hf k0 k hk
      rw [hx] at h1 ⊢
      cases hy : f k with
      | none => rw [hy] at h1; exact h1.elim
      | some y =>
        rw [hy] at h1
        have h1 : y ≤ x := h1
        have := h0 k y hy
        congr 1; omega
    | succ n ih =>
      intro k0 x hx hn
      by_cases h : ∀ k, k0 ≤ k → f k = f k0
      · exact ⟨k0, h⟩
      · obtain ⟨k, hk⟩ := Classical.not_forall.mp h
        obtain ⟨hk, hne⟩ := Classical.not_imp.mp hk
        have h1 := hf k0 k hk
        rw [hx] at h1 hne
        cases hy : f k with
        | none => rw [hy] at h1; exact h1.elim
        | some y =>
          rw [hy] at h1 hne
          have h1 : y ≤ x := h1
          have h2 := h0 k y hy
          refine ih k y hy ?_
          have : y ≠ x := fun z => hne (by rw [z])
          omega
  by_cases h : ∀ k, f k = none
  · exact ⟨0, fun k _ => by rw [h k, h 0]⟩
  · obtain ⟨k0, hk⟩ := Classical.not_forall.mp h
    cases hx : f k0 with
    | none => exact absurd hx hk
    | some x => exact aux _ k0 x hx (Nat.le_refl _)
/-- the invariant: values at least 0; what is not the start has a road that made it -/
structure Inv (E : List Rd) (s : Nat) (b : Vs) : Prop where
  nn : ∀ j x, g b j = some x → 0 ≤ x
  st : g b s = some 0
  pre : ∀ j y, j ≠ s → g b j = some y → ∃ e ∈ E, e.2.1.toNat = j ∧ ∃ z, g b e.1.toNat = some z ∧ z + e.2.2 ≤ y
theorem le_some {a : Option Int} {z : Int} (h : le a (some z)) : ∃ x, a = some x ∧ x ≤ z := by
  cases a with
  | none => exact h.elim
  | some x => exact ⟨x, rfl, h⟩
theorem Inv.rel {E : List Rd} {s : Nat} {b : Vs} (I : Inv E s b) {e : Rd} (he : e ∈ E) (hl : 1 ≤ e.2.2) : Inv E s (BF.rel b e) := by
  have hs : ∀ j x, g (BF.rel b e) j = some x → 0 ≤ x := fun j x hx => by
    rcases rel_new (b := b) (e := e) j with h | ⟨_, z, h1, h2⟩
    · exact I.nn j x (h ▸ hx)
    · rw [h2] at hx; cases hx
      have := I.nn _ _ h1
      omega
  refine ⟨hs, ?_, fun j y hj hy => ?_⟩
  · have h := rel_le b e s
    rw [I.st] at h
    obtain ⟨x, h1, h2⟩ := le_some h
    have := hs s x h1
    rw [h1]; congr 1; omega
  · have mono : ∀ {k : Nat} {z : Int}, g b k = some z → ∃ z', g (BF.rel b e) k = some z' ∧ z' ≤ z := fun {k z} hz => by
      have h := rel_le b e k
      rw [hz] at h
      exact le_some h
    rcases rel_new (b := b) (e := e) j with h | ⟨rfl, z, h1, h2⟩
    · obtain ⟨e', he', h3, z, h4, h5⟩ := I.pre j y hj (h ▸ hy)
      obtain ⟨z', h6, h7⟩ := mono h4
      exact ⟨e', he', h3, z', h6, by omega⟩
    · rw [h2] at hy; cases hy
      obtain ⟨z', h6, h7⟩ := mono h1
      exact ⟨e, he, rfl, z', h6, by omega⟩
theorem Inv.fold {E : List Rd} {s : Nat} (hl : ∀ e ∈ E, 1 ≤ e.2.2) : ∀ (F : List Rd) {b : Vs}, (∀ e ∈ F, e ∈ E) → Inv E s b → Inv E s (F.foldl BF.rel b)
  | [], _, _, I => I
  | e :: F, b, h, I => Inv.fold hl F (fun e' he' => h e' (List.mem_cons_of_mem _ he')) (I.rel (h e (List.mem_cons_self ..)) (hl e (h e (List.mem_cons_self ..))))
theorem Inv.it {E : List Rd} {s : Nat} (hl : ∀ e ∈ E, 1 ≤ e.2.2) : ∀ (k : Nat) {b : Vs}, Inv E s b → Inv E s (BF.it E k b)
  | 0, _, I => I
  | k + 1, b, I => Inv.it hl k (Inv.fold hl E (fun _ h => h) I)
theorem filter_lt {p q : Nat → Bool} (h : ∀ x, p x = true → q x = true) : ∀ {l : List Nat} {x : Nat}, x ∈ l → q x = true → p x = false → (l.filter p).length + 1 ≤ (l.filter q).length
  | y :: l, x, hx, h1, h2 => by
    have mono : ∀ m : List Nat, (m.filter p).length ≤ (m.filter q).length := fun m => by
      induction m with
      | nil => exact Nat.le_refl _
      | cons z m ih =>
        rw [List.filter_cons, List.filter_cons]
        cases hp : p z with
        | true => rw [h z hp]; simpa using ih
        | false => cases q z <;> simp <;> omega
    rw [List.filter_cons, List.filter_cons]
    rcases List.mem_cons.mp hx with rfl | hx
    · rw [h1, h2]
      have := mono l
      simp; omega
    · have ih := filter_lt h hx h1 h2
      cases hp : p y with
      | true => rw [h y hp]; simp; omega
      | false => cases q y <;> simp <;> omega
theorem least {p : Nat → Prop} (f : Nat → Nat) : ∀ (n x : Nat), p x → f x ≤ n → ∃ y, p y ∧ ∀ z, p z → f y ≤ f z
  | 0, x, hx, hn => ⟨x, hx, fun z _ => by omega⟩
  | n + 1, x, hx, hn => by
    by_cases h : ∃ z, p z ∧ f z < f x
    · obtain ⟨z, hz, hlt⟩ := h
      exact least f n z hz (by omega)
    · exact ⟨x, hx, fun z hz => Nat.le_of_not_lt fun q => h ⟨z, hz, q⟩⟩
/-- after as many rounds as there are places, less one, nothing changes -/
theorem still {E : List Rd} {s n : Nat} {b : Vs} (hn : b.length = n) (h1 : 1 ≤ n) (hs : s < n) (hE : ∀ e ∈ E, e.2.1.toNat < n ∧ 1 ≤ e.2.2) (I : Inv E s b) : E.foldl rel (it E (n - 1) b) = it E (n - 1) b := by
  have hl : ∀ e ∈ E, 1 ≤ e.2.2 := fun e he => (hE e he).2
  have Ik : ∀ k, Inv E s (it E k b) := fun k => Inv.it hl k I
  -- a common end
  have key : ∀ j, ∃ K, ∀ k, K ≤ k → g (it E k b) j = g (it E K b) j := fun j => stab (f := fun k => g (it E k b) j) (fun k m h => it_le E b j h) fun k x hx => (Ik k).nn j x hx
  obtain ⟨K, hK⟩ : ∃ K, ∀ j, j < n → ∀ k, K ≤ k → g (it E k b) j = g (it E K b) j := by
    clear hs h1
    have : ∀ m, ∃ K, ∀ j, j < m → ∀ k, K ≤ k → g (it E k b) j = g (it E K b) j := by
      intro m
      induction m with
      | zero => exact ⟨0, fun j hj => absurd hj (Nat.not_lt_zero _)⟩
      | succ m ih =>
        obtain ⟨K1, hK1⟩ := ih
        obtain ⟨K2, hK2⟩ := key m
        refine ⟨max K1 K2, fun j hj k hk => ?_⟩
        by_cases hm : j = m
        · subst hm
          rw [hK2 k (by omega), hK2 (max K1 K2) (by omega)]
        · rw [hK1 j (by omega) k (by omega), hK1 j (by omega) (max K1 K2) (by omega)]
    exact this n
  let d := it E K b
  have dle : ∀ k j, j < n → le (g d j) (g (it E k b) j) := fun k j hj => by
    rw [← hK j hj (max K k) (by omega)]
    exact it_le E b j (by omega)
  have ext : ∀ {c c' : Vs}, c.length = n → c'.length = n → (∀ j, j < n → g c j = g c' j) → c = c' := fun {c c'} l1 l2 h => by
    apply List.ext_getElem?
    intro j
    by_cases hj : j < n
    · have := h j hj
      unfold g at this
      rw [List.getElem?_eq_getElem (by omega), List.getElem?_eq_getElem (by omega)] at this ⊢
      simpa using this
    · rw [List.getElem?_eq_none (by omega), List.getElem?_eq_none (by omega)]
  -- how many have their last value
  let S := fun k => ((List.range n).filter fun j => decide (g (it E k b) j = g d j)).length
  have grow : ∀ k, (∃ j, j < n ∧ g (it E k b) j ≠ g d j) → S k + 1 ≤ S (k + 1) := by
    intro k ⟨j0, hj0, hne0⟩
    obtain ⟨v, ⟨hv, hvne⟩, hmin⟩ := least (p := fun j => j < n ∧ g (it E k b) j ≠ g d j) (fun j => ((g d j).getD 0).toNat) _ j0 ⟨hj0, hne0⟩ (Nat.le_refl _)
    have hdv : ∃ y, g d v = some y := by
      cases h : g d v with
      | some y => exact ⟨y, rfl⟩
      | none =>
        have := dle k v hv
        rw [h] at this
        cases hc : g (it E k b) v with
        | none => exact absurd (hc.trans h.symm) hvne
        | some x => rw [hc] at this; exact this.elim
    obtain ⟨y, hy⟩ := hdv
    have hvs : v ≠ s := fun z => hvne (by rw [z, (Ik k).st, (Ik K).st])
    obtain ⟨e, he, hev, z, hz, hzy⟩ := (Ik K).pre v y hvs hy
    have hel := hE e he
    have hzn := (Ik K).nn _ _ hz
    have hyn := (Ik K).nn _ _ hy
    -- the place behind has its last value
    have hu : g (it E k b) e.1.toNat = some z := by
      by_cases hun : e.1.toNat < n
      · apply Classical.byContradiction
        intro hne
        have hm := hmin e.1.toNat ⟨hun, fun q => hne (q.trans hz)⟩
        have hy' : g d v = some y := hy
        have hz' : g d e.1.toNat = some z := hz
        simp only [hy', hz', Option.getD_some] at hm
        omega
      · have : g d e.1.toNat = none := g_out (by show (it E K b).length ≤ _; rw [it_len]; omega)
        rw [show g d e.1.toNat = some z from hz] at this
        cases this
    -- the round passes the road
    obtain ⟨E1, E2, hsplit⟩ := List.append_of_mem he
    have hst : g (it E (k + 1) b) v = g d v := by
      refine le_anti ?_ (dle (k + 1) v hv)
      have hf : it E (k + 1) b = E2.foldl rel (rel (E1.foldl rel (it E k b)) e) := by
        rw [it_succ]
        conv => lhs; rw [show E.foldl rel (it E k b) = (E1 ++ e :: E2).foldl rel (it E k b) by rw [← hsplit]]
        rw [List.foldl_append, List.foldl_cons]
      rw [hf]
      refine le_trans (fold_le E2 _ v) ?_
      have hmid : g (E1.foldl rel (it E k b)) e.1.toNat = some z := by
        have a1 := fold_le E1 (it E k b) e.1.toNat
        rw [hu] at a1
        have a2 : le (g (it E (k + 1) b) e.1.toNat) (g (E1.foldl rel (it E k b)) e.1.toNat) := by
          rw [it_succ, hsplit, List.foldl_append]
          exact fold_le (e :: E2) _ _
        by_cases hun : e.1.toNat < n
        · have a3 := dle (k + 1) e.1.toNat hun
          rw [show g d e.1.toNat = some z from hz] at a3
          exact le_anti a1 (le_trans a3 a2)
        · have : g (it E k b) e.1.toNat = none := g_out (by rw [it_len]; omega)
          rw [hu] at this; cases this
      have hh := rel_hit (b := E1.foldl rel (it E k b)) (e := e) hmid (by rw [foldr_len, it_len]; omega)
      rw [hev] at hh
      rw [show g d v = some y from hy]
      exact le_trans hh (show z + e.2.2 ≤ y from hzy)
    refine filter_lt (fun j hj => ?_) (List.mem_range.mpr hv) (decide_eq_true hst) (decide_eq_false hvne)
    have hj := of_decide_eq_true hj
    by_cases hjn : j < n
    · refine decide_eq_true (le_anti ?_ (dle (k + 1) j hjn))
      rw [← hj]
      exact it_le E b j (Nat.le_succ k)
    · refine decide_eq_true ?_
      rw [g_out (by rw [it_len]; omega), g_out (by show (it E K b).length ≤ _; rw [it_len]; omega)]
  have cnt : ∀ k, (∀ j, j < n → g (it E k b) j = g d j) ∨ k + 1 ≤ S k := by
    intro k
    induction k with
    | zero =>
      right
      have : s ∈ (List.range n).filter fun j => decide (g (it E 0 b) j = g d j) := List.mem_filter.mpr ⟨List.mem_range.mpr hs, decide_eq_true (by rw [(Ik 0).st]; exact (Ik K).st.symm)⟩
      exact List.length_pos_of_mem this
    | succ k ih =>
      by_cases h : ∃ j, j < n ∧ g (it E k b) j ≠ g d j
      · rcases ih with ih | ih
        · obtain ⟨j, hj, hne⟩ := h
          exact absurd (ih j hj) hne
        · right
          have := grow k h
          omega
      · left
        intro j hj
        have he : g (it E k b) j = g d j := Classical.byContradiction fun q => h ⟨j, hj, q⟩
        refine le_anti ?_ (dle (k + 1) j hj)
        rw [← he]
        exact it_le E b j (Nat.le_succ k)
  have all : ∀ j, j < n → g (it E (n - 1) b) j = g d j := by
    rcases cnt (n - 1) with h | h
    · exact h
    · intro j hj
      apply Classical.byContradiction
      intro hne
      have hlt : S (n - 1) + 1 ≤ ((List.range n).filter fun _ => true).length := filter_lt (fun _ _ => rfl) (List.mem_range.mpr hj) rfl (decide_eq_false hne)
      have : ((List.range n).filter fun _ => true).length ≤ n := by
        have := List.length_filter_le (fun _ => true) (List.range n)
        rwa [List.length_range] at this
      omega
  have ed : it E (n - 1) b = d := ext (by rw [it_len]; exact hn) (by show (it E K b).length = n; rw [it_len]; exact hn) all
  rw [ed]
  refine ext (by rw [foldr_len]; show (it E K b).length = n; rw [it_len]; exact hn) (by show (it E K b).length = n; rw [it_len]; exact hn) fun j hj => ?_
  have := hK j hj (K + 1) (by omega)
  rw [it_succ] at this
  exact this
end Dt.BF
end

section
set_option Elab.async false
set_option linter.all false
set_option maxRecDepth 100000
set_option maxHeartbeats 4000000
set_option autoImplicit false
namespace Dt
open PySem PySem.Spec PyProof.Rows L2
def gI : GF := gT 2 (gsCons (gN 5) (gsCons (gT 3 (gsCons (gN 6) (gsCons (gN 7) (gsCons (gN 8) (gsNil))))) (gsNil)))
section
variable {p : Pl} {w : List Int}
def bodyG : SF := sIf (bB (e2 oNotN (e2 oIx (eUse 3) (eUse 9)) (eC .non))) (sCons (sSet 11 (e2 oCat (e2 oIx (eUse 3) (eUse 9)) (eUse 8))) (sSetIx 3 (eUse 10) (eIf (bOr (bB (e2 oIsN (e2 oIx (eUse 3) (eUse 10)) (eC .non))) (bB (e2 oLt (eUse 11) (e2 oIx (eUse 3) (eUse 10))))) (eVar 11) (e2 oIx (eUse 3) (eUse 10))))) (sNil)
def gJ : GF := gT 2 (gsCons (gN 9) (gsCons (gN 10) (gsNil)))
def bodyF : SF := sIf (bB (e2 (oIn true) (eUse 5) (eUse 1))) (sFor gJ (iData (eLst (aCons (eTup (aCons (eVar 6) (aCons (eVar 7) (aNil)))) (aCons (eTup (aCons (eVar 7) (aCons (eVar 6) (aNil)))) (aNil))))) bodyG) (sNil)
def envF (p : Pl) (w : List Int) (beg : Int) (b : Vs) (u4 u5 u6 u7 u8 u9 u10 u11 : Cell) : Env := [.fro (.tup p.ds), .fro (.tup (Li w)), .fro (.int beg), .own (.lst (b.map oD)), u4, u5, u6, u7, u8, u9, u10, u11]
theorem set_same {b : Vs} {v : Int} (h0 : 0 ≤ v) (h1 : v < b.length) : (b.map oD).set v.toNat (oD (gt b v)) = b.map oD := by
  have h2 : v.toNat < b.length := by omega
  apply List.ext_getElem?
  intro k
  by_cases hk : v.toNat = k
  · subst hk
    rw [List.getElem?_set_self (by simpa using h2)]
    unfold gt
    simp [h2]
  · rw [List.getElem?_set_ne hk]
theorem bodyG_ok {beg : Int} {b : Vs} {u4 u5 u6 u7 u11 : Cell} {u v l : Int} (u0 : 0 ≤ u) (u1 : u < b.length) (v0 : 0 ≤ v) (v1 : v < b.length) :
    ∃ x11, bodyG (envF p w beg b u4 u5 u6 u7 (.fro (.int l)) (.fro (.int u)) (.fro (.int v)) u11) = .ok (.nx, envF p w beg (relax b u v l) u4 u5 u6 u7 (.fro (.int l)) (.fro (.int u)) (.fro (.int v)) x11) := by
  have e1 := ix_at u0 u1
  have e2 := ix_at v0 v1
  have e3 : L2.ixN b.length v = some v.toNat := ixN_at v0 v1
  have hss := set_same v0 v1
  unfold relax
  cases hu : gt b u with
  | none =>
    rw [hu] at e1
    have e1 : oIx (.lst (b.map oD)) (.int u) = .ok (.fro .non) := e1
    exact ⟨u11, by simp [bodyG, envF, e1, D.isN]⟩
  | some d =>
    rw [hu] at e1
    have e1 : oIx (.lst (b.map oD)) (.int u) = .ok (.fro (.int d)) := e1
    refine ⟨.fro (.int (d + l)), ?_⟩
    cases hv : gt b v with
    | none =>
      rw [hv] at e2
      have e2 : oIx (.lst (b.map oD)) (.int v) = .ok (.fro .non) := e2
      simp [bodyG, envF, e1, e2, D.isN, z_sSetIx, isL, putL, Cell.mut, Cell.dat, Cell.put, e3, map_set_oD]
    | some e =>
      rw [hv] at e2 hss
      have e2 : oIx (.lst (b.map oD)) (.int v) = .ok (.fro (.int e)) := e2
      have hss : (b.map oD).set v.toNat (.int e) = b.map oD := hss
      by_cases hlt : d + l < e
      · simp [bodyG, envF, e1, e2, D.isN, z_sSetIx, isL, putL, Cell.mut, Cell.dat, Cell.put, e3, map_set_oD, hlt]
      · simp only [map_set_oD] at hss
        simp [bodyG, envF, e1, e2, D.isN, z_sSetIx, isL, putL, Cell.mut, Cell.dat, Cell.put, e3, hlt, map_set_oD, hss]
theorem bodyF_ok {beg : Int} {b : Vs} {u4 u9 u10 u11 : Cell} {q : Rd × Nat} (hq : RdOk p.P q.1) (hb : (b.length : Int) = p.P) :
    ∃ x9 x10 x11, bodyF (envF p w beg b u4 (.fro (.int q.2)) (.fro (.int q.1.1)) (.fro (.int q.1.2.1)) (.fro (.int q.1.2.2)) u9 u10 u11) = .ok (.nx, envF p w beg (step w b q) u4 (.fro (.int q.2)) (.fro (.int q.1.1)) (.fro (.int q.1.2.1)) (.fro (.int q.1.2.2)) x9 x10 x11) := by
  have h1 := hq.a0; have h2 := hq.ab; have h3 := hq.bP
  unfold step
  cases hw : w.contains (q.2 : Int) with
  | true =>
    have hm : (q.2 : Int) ∈ w := by simpa using hw
    exact ⟨u9, u10, u11, by simp [bodyF, envF, hm]⟩
  | false =>
    have hm : (q.2 : Int) ∉ w := by simpa using hw
    obtain ⟨x11, s1⟩ := bodyG_ok (p := p) (w := w) (beg := beg) (b := b) (u4 := u4) (u5 := .fro (.int q.2)) (u6 := .fro (.int q.1.1)) (u7 := .fro (.int q.1.2.1)) (u11 := u11) (u := q.1.1) (v := q.1.2.1) (l := q.1.2.2) h1 (by omega) (by omega) (by omega)
    obtain ⟨y11, s2⟩ := bodyG_ok (p := p) (w := w) (beg := beg) (b := relax b q.1.1 q.1.2.1 q.1.2.2) (u4 := u4) (u5 := .fro (.int q.2)) (u6 := .fro (.int q.1.1)) (u7 := .fro (.int q.1.2.1)) (u11 := x11) (u := q.1.2.1) (v := q.1.1) (l := q.1.2.2) (by omega) (by rw [relax_len]; omega) h1 (by rw [relax_len]; omega)
    refine ⟨.fro (.int q.1.2.1), .fro (.int q.1.1), y11, ?_⟩
    have z2 : 2 ≤ sizeLine := by decide
    simp only [envF] at s1 s2
    simp [bodyF, envF, hm, z2, forL, gJ, s1, s2]
theorem loopF {beg : Int} : ∀ (qs : List (Rd × Nat)) (b : Vs) (u4 u5 u6 u7 u8 u9 u10 u11 : Cell), (∀ q ∈ qs, RdOk p.P q.1) → (b.length : Int) = p.P →
    ∃ v5 v6 v7 v8 v9 v10 v11, forL gI bodyF (qs.map fun q => .tup [.int (q.2 : Nat), rd q.1]) (envF p w beg b u4 u5 u6 u7 u8 u9 u10 u11) = .ok (.nx, envF p w beg (qs.foldl (step w) b) u4 v5 v6 v7 v8 v9 v10 v11)
  | [], b, u4, u5, u6, u7, u8, u9, u10, u11, _, _ => ⟨u5, u6, u7, u8, u9, u10, u11, rfl⟩
  | q :: qs, b, u4, u5, u6, u7, u8, u9, u10, u11, hq, hb => by
    obtain ⟨x9, x10, x11, hbd⟩ := bodyF_ok (p := p) (w := w) (beg := beg) (b := b) (u4 := u4) (u9 := u9) (u10 := u10) (u11 := u11) (hq q (List.mem_cons_self ..)) hb
    obtain ⟨v5, v6, v7, v8, v9, v10, v11, ih⟩ := loopF qs (step w b q) u4 (.fro (.int q.2)) (.fro (.int q.1.1)) (.fro (.int q.1.2.1)) (.fro (.int q.1.2.2)) x9 x10 x11 (fun r hr => hq r (List.mem_cons_of_mem _ hr)) (by rw [step_len]; exact hb)
    refine ⟨v5, v6, v7, v8, v9, v10, v11, ?_⟩
    have hg : gI (.tup [.int (q.2 : Nat), rd q.1]) (envF p w beg b u4 u5 u6 u7 u8 u9 u10 u11) = .ok (envF p w beg b u4 (.fro (.int q.2)) (.fro (.int q.1.1)) (.fro (.int q.1.2.1)) (.fro (.int q.1.2.2)) u9 u10 u11) := by simp [gI, rd, envF]
    rw [List.map_cons, forL, hg, Res.bind_ok, hbd, Res.bind_ok]
    show forL gI bodyF _ _ = _
    rw [ih]; rfl
theorem loopT {beg : Int} (h : ∀ r ∈ p.rs, RdOk p.P r) : ∀ (ds : List D) (b : Vs) (u4 u5 u6 u7 u8 u9 u10 u11 : Cell), (b.length : Int) = p.P →
    ∃ v4 v5 v6 v7 v8 v9 v10 v11, forL (gN 4) (sFor gI (iEnumD (aCons (e2 oIx (eUse 0) (eC (.int 1))) (aNil))) bodyF) ds (envF p w beg b u4 u5 u6 u7 u8 u9 u10 u11) = .ok (.nx, envF p w beg (rounds p.rs w ds.length b) v4 v5 v6 v7 v8 v9 v10 v11)
  | [], b, u4, u5, u6, u7, u8, u9, u10, u11, _ => ⟨u4, u5, u6, u7, u8, u9, u10, u11, rfl⟩
  | d :: ds, b, u4, u5, u6, u7, u8, u9, u10, u11, hb => by
    obtain ⟨v5, v6, v7, v8, v9, v10, v11, h1⟩ := loopF (p := p) (w := w) (beg := beg) p.rs.zipIdx b (.fro d) u5 u6 u7 u8 u9 u10 u11 (zip_ok h) hb
    obtain ⟨x4, x5, x6, x7, x8, x9, x10, x11, ih⟩ := loopT h ds (round p.rs w b) (.fro d) v5 v6 v7 v8 v9 v10 v11 (by rw [round, fold_len]; exact hb)
    refine ⟨x4, x5, x6, x7, x8, x9, x10, x11, ?_⟩
    have hx : oIx (.tup p.ds) (.int 1) = .ok (.fro (.tup (p.rs.map rd))) := rfl
    have hs : sFor gI (iEnumD (aCons (e2 oIx (eUse 0) (eC (.int 1))) (aNil))) bodyF (envF p w beg b (.fro d) u5 u6 u7 u8 u9 u10 u11) = .ok (.nx, envF p w beg (round p.rs w b) (.fro d) v5 v6 v7 v8 v9 v10 v11) := by
      have e : (iEnumD (aCons (e2 oIx (eUse 0) (eC (.int 1))) (aNil))) (envF p w beg b (.fro d) u5 u6 u7 u8 u9 u10 u11) = .ok (pairs (p.rs.map rd), envF p w beg b (.fro d) u5 u6 u7 u8 u9 u10 u11) := by simp [envF, hx]
      rw [z_sFor, e, Res.bind_ok, pairs_map]
      exact h1
    rw [forL, show gN 4 d (envF p w beg b u4 u5 u6 u7 u8 u9 u10 u11) = .ok (envF p w beg b (.fro d) u5 u6 u7 u8 u9 u10 u11) from rfl, Res.bind_ok, hs, Res.bind_ok]
    show forL (gN 4) _ ds _ = _
    rw [ih]; rfl
end
end Dt
end

section
set_option Elab.async false
set_option linter.all false
set_option maxRecDepth 100000
set_option maxHeartbeats 4000000
set_option autoImplicit false
namespace Dt
open PySem PySem.Spec PyProof.Rows L2
def edges (rs : List Rd) (w : List Int) : List Rd := rs.zipIdx.flatMap fun q => if w.contains (q.2 : Int) then [] else [(q.1.1, q.1.2.1, q.1.2.2), (q.1.2.1, q.1.1, q.1.2.2)]
theorem step_fold (w : List Int) : ∀ (qs : List (Rd × Nat)) (b : Vs), qs.foldl (step w) b = (qs.flatMap fun q => if w.contains (q.2 : Int) then [] else [(q.1.1, q.1.2.1, q.1.2.2), (q.1.2.1, q.1.1, q.1.2.2)]).foldl BF.rel b
  | [], _ => rfl
  | q :: qs, b => by
    rw [List.foldl_cons, List.flatMap_cons, List.foldl_append, step_fold w qs]
    congr 1
    unfold step
    split <;> rfl
theorem rounds_it (rs : List Rd) (w : List Int) : ∀ (n : Nat) (b : Vs), rounds rs w n b = BF.it (edges rs w) n b
  | 0, _ => rfl
  | n + 1, b => by
    rw [rounds, rounds_it rs w n]
    show BF.it _ n (round rs w b) = BF.it _ n _
    rw [round, step_fold]; rfl
section
variable {p : Pl} {w : List Int}
theorem rounds_still {beg : Int} (hP : 2 ≤ p.P) (h : ∀ r ∈ p.rs, RdOk p.P r) (b0 : 0 ≤ beg) (b1 : beg < p.P) : rounds p.rs w p.P.toNat (start0 p.P beg) = rounds p.rs w (p.P - 1).toNat (start0 p.P beg) := by
  have hlen : (start0 p.P beg).length = p.P.toNat := by
    unfold start0
    rw [List.length_set, List.length_replicate]
  have en : p.P.toNat = (p.P - 1).toNat + 1 := by omega
  have en2 : p.P.toNat - 1 = (p.P - 1).toNat := by omega
  have hE : ∀ e ∈ edges p.rs w, e.2.1.toNat < p.P.toNat ∧ 1 ≤ e.2.2 := fun e he => by
    obtain ⟨q, hq, he⟩ := List.mem_flatMap.mp he
    have hr := zip_ok h q hq
    have h1 := hr.a0; have h2 := hr.ab; have h3 := hr.bP; have h4 := hr.l1
    split at he
    · cases he
    · simp at he
      rcases he with rfl | rfl
      · exact ⟨by show q.1.2.1.toNat < _; omega, h4⟩
      · exact ⟨by show q.1.1.toNat < _; omega, h4⟩
  have hg : ∀ j, BF.g (start0 p.P beg) j = if j = beg.toNat then some 0 else none := fun j => by
    unfold start0
    by_cases hj : j = beg.toNat
    · subst hj
      rw [BF.g_set (by rw [List.length_replicate]; omega), if_pos rfl]
    · rw [BF.g_set_ne hj, if_neg hj]
      unfold BF.g
      rw [List.getElem?_replicate]
      split <;> rfl
  have I : BF.Inv (edges p.rs w) beg.toNat (start0 p.P beg) := by
    refine ⟨fun j x hx => ?_, ?_, fun j y hj hy => ?_⟩
    · rw [hg] at hx
      split at hx
      · cases hx; exact Int.le_refl _
      · cases hx
    · rw [hg, if_pos rfl]
    · rw [hg, if_neg hj] at hy; cases hy
  have := BF.still (E := edges p.rs w) (s := beg.toNat) hlen (by omega) (by omega) hE I
  rw [en2] at this
  rw [rounds_it, rounds_it, en, BF.it_succ]
  exact this
def lenOf (p : Pl) (w : List Int) : Option Int := gt (rounds p.rs w (p.P - 1).toNat (start0 p.P p.b)) p.g
theorem m_far (h : p.Ok) : F__law_far [.fro p.pl, .fro (.tup (Li w)), .fro (.int p.b)] = .ok (.fro (oD (lenOf p w)), [.un, .un, .un]) := by
  have hP := h.P2; have h6 := h.P6; have b0 := h.b0; have b1 := h.bP
  have s0 : ((start0 p.P p.b).length : Int) = p.P := by
    unfold start0
    rw [List.length_set, List.length_replicate]; omega
  have hr : oRep (.lst [.non]) (.int p.P) = .ok (.own (.lst ((List.replicate p.P.toNat none).map oD))) := by
    show (if -(2 ^ 63) ≤ p.P ∧ p.P < 2 ^ 63 ∧ [D.non].length * p.P.toNat ≤ sizeLine then _ else _) = _
    rw [if_pos ⟨by omega, by omega, (by show 1 * p.P.toNat ≤ sizeLine; rw [Nat.one_mul]; exact sl8 (show p.P.toNat ≤ 1000 by omega))⟩, rep_non]
  have hi : L2.ixN p.P.toNat p.b = some p.b.toNat := ixN_at b0 (by omega)
  have hz : (intsD 0 p.P.toNat).length = p.P.toNat := by unfold intsD; rw [List.length_map, List.length_range]
  obtain ⟨v4, v5, v6, v7, v8, v9, v10, v11, hl⟩ := loopT (p := p) (w := w) (beg := p.b) h.rd (intsD 0 p.P.toNat) (start0 p.P p.b) .un .un .un .un .un .un .un .un s0
  rw [hz, rounds_still hP h.rd b0 b1] at hl
  have hsm : small p.P = true := by
    unfold small
    rw [Bool.and_eq_true]
    exact ⟨decide_eq_true (by omega), decide_eq_true (by omega)⟩
  have hset : ((List.replicate p.P.toNat (none : Option Int)).map oD).set p.b.toNat (.int 0) = (start0 p.P p.b).map oD := map_set_oD _ _ _
  have hx : oIx (.tup p.ds) (.int 0) = .ok (.fro (.int p.P)) := rfl
  have hx2 : oIx (.tup p.ds) (.int 2) = .ok (.fro (.tup [.int p.b, .int p.g])) := rfl
  have hx3 : oIx (.tup [.int p.b, .int p.g]) (.int 1) = .ok (.fro (.int p.g)) := rfl
  have hgx : oIx (.lst ((rounds p.rs w (p.P - 1).toNat (start0 p.P p.b)).map oD)) (.int p.g) = .ok (.fro (oD (lenOf p w))) := ix_at h.g0 (by rw [rounds_len]; have := h.gP; omega)
  have hir : ∀ ρ : Env, ρ[0]? = some (.fro (.tup p.ds)) → iRange1 (aCons (e2 oIx (eUse 0) (eC (.int 0))) aNil) ρ = .ok (intsD 0 p.P.toNat, ρ) := fun ρ h0 => by
    unfold iRange1
    simp [h0, hx, hsm]
  have sz : 1 ≤ sizeLine := by decide
  have e1 : sSet 3 (e2 oRep (eLst (aCons (eC .non) (aNil))) (e2 oIx (eUse 0) (eC (.int 0)))) [.fro (.tup p.ds), .fro (.tup (Li w)), .fro (.int p.b), .un, .un, .un, .un, .un, .un, .un, .un, .un] = .ok (.nx, [.fro (.tup p.ds), .fro (.tup (Li w)), .fro (.int p.b), .own (.lst ((List.replicate p.P.toNat none).map oD)), .un, .un, .un, .un, .un, .un, .un, .un]) := by
    simp [sz, hr, hx]
  have e2' : sSetIx 3 (eUse 2) (eC (.int 0)) [.fro (.tup p.ds), .fro (.tup (Li w)), .fro (.int p.b), .own (.lst ((List.replicate p.P.toNat none).map oD)), .un, .un, .un, .un, .un, .un, .un, .un] = .ok (.nx, envF p w p.b (start0 p.P p.b) .un .un .un .un .un .un .un .un) := by
    simp only [z_sSetIx, putL, isL, Cell.mut, Cell.dat, Cell.put, envF]
    simp [hi]
    simpa using hset
  have e3 : sFor (gN 4) (iRange1 (aCons (e2 oIx (eUse 0) (eC (.int 0))) aNil)) (sFor gI (iEnumD (aCons (e2 oIx (eUse 0) (eC (.int 1))) (aNil))) bodyF) (envF p w p.b (start0 p.P p.b) .un .un .un .un .un .un .un .un) = .ok (.nx, envF p w p.b (rounds p.rs w (p.P - 1).toNat (start0 p.P p.b)) v4 v5 v6 v7 v8 v9 v10 v11) := by
    rw [z_sFor, hir _ rfl, Res.bind_ok]
    exact hl
  have e4 : sRet (e2 oIx (eUse 3) (e2 oIx (e2 oIx (eUse 0) (eC (.int 2))) (eC (.int 1)))) (envF p w p.b (rounds p.rs w (p.P - 1).toNat (start0 p.P p.b)) v4 v5 v6 v7 v8 v9 v10 v11) = .ok (.ret (.fro (oD (lenOf p w))), envF p w p.b (rounds p.rs w (p.P - 1).toNat (start0 p.P p.b)) v4 v5 v6 v7 v8 v9 v10 v11) := by
    generalize rounds p.rs w (p.P - 1).toNat (start0 p.P p.b) = R at hgx ⊢
    simp [envF, hx2, hx3, hgx]
  have key : (sCons (sSet 3 (e2 oRep (eLst (aCons (eC .non) (aNil))) (e2 oIx (eUse 0) (eC (.int 0))))) (sCons (sSetIx 3 (eUse 2) (eC (.int 0))) (sCons (sFor (gN 4) (iRange1 (aCons (e2 oIx (eUse 0) (eC (.int 0))) aNil)) (sFor gI (iEnumD (aCons (e2 oIx (eUse 0) (eC (.int 1))) (aNil))) bodyF)) (sRet (e2 oIx (eUse 3) (e2 oIx (e2 oIx (eUse 0) (eC (.int 2))) (eC (.int 1)))))))) [.fro (.tup p.ds), .fro (.tup (Li w)), .fro (.int p.b), .un, .un, .un, .un, .un, .un, .un, .un, .un]
      = .ok (.ret (.fro (oD (lenOf p w))), envF p w p.b (rounds p.rs w (p.P - 1).toNat (start0 p.P p.b)) v4 v5 v6 v7 v8 v9 v10 v11) := by
    rw [z_sCons, e1, Res.bind_ok]
    show (sCons _ _) _ = _
    rw [z_sCons, e2', Res.bind_ok]
    show (sCons _ _) _ = _
    rw [z_sCons, e3, Res.bind_ok]
    exact e4
  exact runF_fro (n := 3) (m := 9) (cs := [.fro p.pl, .fro (.tup (Li w)), .fro (.int p.b)]) key rfl rfl (by show 3 ≤ 12; decide)
theorem w7 {x : D} {w : List Int} {b g : Int} {vs : List D} {d : D} (C1 C2 L : Fm) (h1 : C1 [.fro (.obj 0 p.ds)] = .ok (.fro .non, [.un])) (h2 : C2 [.fro (.obj 0 p.ds), .fro (.tup (Li w))] = .ok (.fro .non, [.un, .un])) (h3 : L [.fro (.obj 0 p.ds), .fro (.int p.b), .fro (.tup (Li w))] = .ok (.fro (.lst vs), [.un, .un, .un])) (h4 : oIx (.lst vs) (.int p.g) = .ok (.fro d)) :
    (runF 2 2 (sCons (sDrop (eCall C1 (aCons (eVar 0) (aNil)))) (sCons (sDrop (eCall C2 (aCons (eVar 0) (aCons (eVar 1) (aNil))))) (sCons (sAsg (gT 2 (gsCons (gN 2) (gsCons (gN 3) (gsNil)))) (oSelf 0 F_Map_ends (eVar 0))) (sRet (e2 oIx (eCall L (aCons (eVar 0) (aCons (eVar 2) (aCons (eVar 1) (aNil))))) (eUse 3))))))) [.fro (.obj 0 p.ds), .fro (.tup (Li w))] = .ok (.fro d, [.un, .un]) := by
  simp [h1, h2, h3, h4]
theorem m_open (h : p.Ok) (hi : InR p.rs.length w) (ha : w.Pairwise (· < ·)) (hm : (w.length : Int) ≤ p.m) : F_open_length [.fro p.ch, .fro (.tup (Li w))] = .ok (.fro (oD (lenOf p w)), [.un, .un]) :=
  w7 (x := .non) (b := 0) (g := 0) F_check_map F_check_world F_least_lengths (m_check p) (m_check_world hi ha hm h.r8) (m_least h.P2 h.P6 h.rd h.r8 h.b0 h.bP) (ix_at h.g0 (by rw [rounds_len]; have := h.gP; have := h.P2; unfold start0; rw [List.length_set, List.length_replicate]; omega))
end
end Dt
end

section
set_option Elab.async false
set_option linter.all false
set_option maxRecDepth 100000
set_option maxHeartbeats 4000000
set_option autoImplicit false
namespace Dt
open PySem PySem.Spec PyProof.Rows L2
/-! ### the script's cells -/
@[simp] theorem z_oLen_scr (ns : List Int) : oLen (.scr ns) = .ok (.fro (.int ns.length)) := by
  show Res.ok (RV.fro (.int ((ns.map D.int).length : Nat))) = _
  rw [List.length_map]
theorem lay_ints : ∀ l : List Int, PyData.canLayAll0 (l.map .int) = true
  | [] => rfl
  | i :: l => by rw [List.map_cons, PyData.canLayAll0, lay_ints l]; rfl
theorem dep_ints : ∀ l : List Int, PyData.depthAll (l.map .int) = 0
  | [] => rfl
  | i :: l => by rw [List.map_cons, PyData.depthAll, dep_ints l]; rfl
theorem scr_eq_nil (ns : List Int) : oEq (.scr ns) (.lst []) = .ok (.fro (.bl ns.isEmpty)) := by
  have hs : SeqAt.shaped (.list (ns.map .int)) = true := by
    unfold SeqAt.shaped
    rw [PyData.canLay0, lay_ints, PyData.depth, dep_ints]; rfl
  have hs2 : SeqAt.shaped (.list []) = true := rfl
  have e : D.eqv (.scr ns) (.lst []) = some ns.isEmpty := by
    unfold D.eqv
    show (match some (PyData.list (ns.map .int)), some (PyData.list []) with
      | some p, some q => if SeqAt.shaped p && SeqAt.shaped q then some (PyData.eqv p q) else none
      | _, _ => none) = _
    simp only [hs, hs2, Bool.and_self, if_true]
    cases ns <;> simp [PyData.eqv, PyData.eqvAll]
  unfold oEq
  rw [e]; rfl
theorem scr_ix {ns : List Int} {k : Int} (h0 : 0 ≤ k) (h1 : k < ns.length) : ∃ v, oIx (.scr ns) (.int k) = .ok (.fro (.int v)) := by
  have h2 : k.toNat < ns.length := by omega
  refine ⟨ns[k.toNat], ?_⟩
  show (Res.of (L2.atI (ns.map D.int) k)).bind _ = _
  have e : L2.atI (ns.map D.int) k = some (.int ns[k.toNat]) := by
    unfold L2.atI
    rw [List.length_map, ixN_at h0 h1]
    simp [h2]
  rw [e]; rfl
def cellV (ns : List Int) (k : Int) : Int := match F__law_cell_at [.fro (.scr ns), .fro (.int k)] with
  | .ok (.fro (.int v), _) => v
  | _ => 0
theorem m_cell (ns : List Int) {k : Int} (h : 0 ≤ k) : F__law_cell_at [.fro (.scr ns), .fro (.int k)] = .ok (.fro (.int (cellV ns k)), [.un, .un]) := by
  obtain ⟨v, hv⟩ : ∃ v, F__law_cell_at [.fro (.scr ns), .fro (.int k)] = .ok (.fro (.int v), [.un, .un]) := by
    have z0 : 0 ≤ sizeLine := Nat.zero_le _
    by_cases h1 : k < ns.length
    · obtain ⟨v, hv⟩ := scr_ix h h1
      exact ⟨v, by simp [F__law_cell_at, h1, hv]⟩
    · by_cases hn : ns = []
      · subst hn
        have he : oEq (.scr []) (.lst []) = .ok (.fro (.bl true)) := scr_eq_nil []
        have hk : ¬ k < 0 := by omega
        exact ⟨k * 48271, by simp [F__law_cell_at, hk, z0, he]⟩
      · have he : oEq (.scr ns) (.lst []) = .ok (.fro (.bl false)) := by
          rw [scr_eq_nil]
          cases ns with
          | nil => exact absurd rfl hn
          | cons a l => rfl
        have hl : (0 : Int) < (ns.length : Int) := by
          have := List.length_pos_iff.mpr hn
          omega
        have hm0 := Int.emod_nonneg k (Int.ne_of_gt hl)
        have hm1 := Int.emod_lt_of_pos k hl
        obtain ⟨v, hv⟩ := scr_ix (ns := ns) hm0 hm1
        have hp := List.length_pos_iff.mpr hn
        exact ⟨((v + k) * 48271) % 2147483647, by simp [F__law_cell_at, h1, z0, he, hl, hp, hv]⟩
  unfold cellV
  rw [hv]
/-! ### one of a row -/
theorem m_pick (ns : List Int) {k : Int} (h : 0 ≤ k) {row : List D} (hr : row ≠ []) : ∃ d ∈ row, F__law_pick [.fro (.scr ns), .fro (.int k), .fro (.lst row)] = .ok (.fro d, [.un, .un, .un]) := by
  have hl : (0 : Int) < (row.length : Int) := by
    have := List.length_pos_iff.mpr hr
    omega
  have hc := m_cell ns h
  have hm0 := Int.emod_nonneg (cellV ns k) (Int.ne_of_gt hl)
  have hm1 := Int.emod_lt_of_pos (cellV ns k) hl
  have h2 : (cellV ns k % (row.length : Int)).toNat < row.length := by omega
  have hx : oIx (.lst row) (.int (cellV ns k % (row.length : Int))) = .ok (.fro row[(cellV ns k % (row.length : Int)).toNat]) := by
    show (Res.of (L2.atI row _)).bind _ = _
    have e : L2.atI row (cellV ns k % (row.length : Int)) = some row[(cellV ns k % (row.length : Int)).toNat] := by
      unfold L2.atI
      rw [ixN_at hm0 hm1]
      simp [h2]
    rw [e]; rfl
  exact ⟨_, List.getElem_mem h2, by simp [F__law_pick, hc, hl, hx, List.length_pos_iff.mpr hr]⟩
/-! ### the law's map -/
@[simp] theorem z_min (x y : Int) : oMin2 (.int x) (.int y) = .ok (.fro (.int (if y < x then y else x))) := rfl
@[simp] theorem z_max (x y : Int) : oMax2 (.int x) (.int y) = .ok (.fro (.int (if y > x then y else x))) := rfl
theorem insU_map {α β : Type} (f : β → Int) (h : α → β) (x : α) : ∀ l : List α, insU f (h x) (l.map h) = (insU (fun a => f (h a)) x l).map h
  | [] => rfl
  | y :: l => by
    rw [List.map_cons, insU, insU]
    split
    · rfl
    · split
      · rfl
      · rw [insU_map f h x l]; rfl
theorem ascU_map {α β : Type} (f : β → Int) (h : α → β) : ∀ l : List α, ascU f (l.map h) = (ascU (fun a => f (h a)) l).map h
  | [] => rfl
  | x :: l => by rw [List.map_cons, ascU, ascU_map f h l, insU_map]; rfl
theorem insU_len {α : Type} (f : α → Int) (x : α) : ∀ l : List α, (insU f x l).length ≤ l.length + 1
  | [] => Nat.le_refl _
  | y :: l => by
    rw [insU]
    split
    · exact Nat.le_refl _
    · split
      · simp
      · have := insU_len f x l
        simp; omega
theorem ascU_len {α : Type} (f : α → Int) : ∀ l : List α, (ascU f l).length ≤ l.length
  | [] => Nat.le_refl _
  | x :: l => by
    have h1 := insU_len f x (ascU f l)
    have h2 := ascU_len f l
    rw [ascU, List.length_cons]; omega
def sortR (l : List Rd) : List Rd := ascU (fun r => TS.code 64 (k3 r)) l
theorem oSSet_rd {l : List Rd} {P : Int} (h1 : 1 ≤ l.length) (h8 : l.length ≤ 8) (hP : P ≤ 6) (hr : ∀ r ∈ l, RdOk P r) : oSSet (.lst (l.map rd)) = .ok (.own (.lst ((sortR l).map rd))) := by
  show setT (l.map rd) = _
  unfold setT
  rw [tups_rd]
  have hh : ((l.map k3).headD [0]).length = 3 := by
    cases l with
    | nil => cases h1
    | cons r l => rfl
  have hall : (l.map k3).all (tupB 3) = true := List.all_eq_true.mpr fun k hk => by
    obtain ⟨q, hq, rfl⟩ := List.mem_map.mp hk
    exact small_of_ok (hr q hq) hP
  rw [Res.of_some, Res.bind_ok, hh, hall, decide_eq_true (show (l.map k3).length < 64 by rw [List.length_map]; omega)]
  show Res.ok _ = _
  rw [ascU_map, List.map_map]; rfl
def bodyM : SF := (sCons (sSet 9 (e2 oMod (eCB (c1 oIntOf) (aCons (eCall F__law_cell_at (aCons (eVar 0) (aCons (e2 oCat (e2 oCat (eUse 1) (eC (.int 4))) (e2 oMul (eC (.int 3)) (eUse 4))) (aNil)))) (aNil))) (eUse 7))) (sCons (sSet 10 (e2 oMod (eCB (c1 oIntOf) (aCons (e2 oCat (e2 oCat (eUse 9) (eC (.int 1))) (e2 oMod (eCB (c1 oIntOf) (aCons (eCall F__law_cell_at (aCons (eVar 0) (aCons (e2 oCat (e2 oCat (eUse 1) (eC (.int 5))) (e2 oMul (eC (.int 3)) (eUse 4))) (aNil)))) (aNil))) (e2 oSub (eUse 7) (eC (.int 1))))) (aNil))) (eUse 7))) (sApp 8 (eTup (aCons (eCB (c2 oMin2) (aCons (eUse 9) (aCons (eUse 10) (aNil)))) (aCons (eCB (c2 oMax2) (aCons (eUse 9) (aCons (eUse 10) (aNil)))) (aCons (e2 oCat (eC (.int 1)) (e2 oMod (eCB (c1 oIntOf) (aCons (eCall F__law_cell_at (aCons (eVar 0) (aCons (e2 oCat (e2 oCat (eUse 1) (eC (.int 6))) (e2 oMul (eC (.int 3)) (eUse 4))) (aNil)))) (aNil))) (eC (.int 9)))) (aNil))))))))
def envM (ns : List Int) (P : Int) (acc : List Rd) (u4 u9 u10 : Cell) : Env := [.fro (.scr ns), .fro (.int 0), .fro (.int 6), .fro (.int 8), u4, .un, .un, .fro (.int P), .own (.lst (acc.map rd)), u9, u10]
theorem two_places {P c e : Int} (h2 : 2 ≤ P) (h6 : P ≤ 6) : 0 ≤ c % P ∧ c % P < P ∧ 0 ≤ (c % P + 1 + e % (P - 1)) % P ∧ (c % P + 1 + e % (P - 1)) % P < P ∧ c % P ≠ (c % P + 1 + e % (P - 1)) % P := by
  have hP : P = 2 ∨ P = 3 ∨ P = 4 ∨ P = 5 ∨ P = 6 := by omega
  rcases hP with rfl | rfl | rfl | rfl | rfl <;> omega
theorem bodyM_ok {ns : List Int} {P : Int} {acc : List Rd} {i : Nat} {u9 u10 : Cell} (h2 : 2 ≤ P) (h6 : P ≤ 6) (ha : acc.length < 1000) :
    ∃ r x9 x10, RdOk P r ∧ bodyM (envM ns P acc (.fro (.int (0 + (i : Int)))) u9 u10) = .ok (.nx, envM ns P (acc ++ [r]) (.fro (.int (0 + (i : Int)))) x9 x10) := by
  have c4 := m_cell ns (k := 4 + 3 * (i : Int)) (by omega)
  have c5 := m_cell ns (k := 5 + 3 * (i : Int)) (by omega)
  have c6 := m_cell ns (k := 6 + 3 * (i : Int)) (by omega)
  obtain ⟨a1, a2, a3, a4, a5⟩ := two_places (c := cellV ns (4 + 3 * (i : Int))) (e := cellV ns (5 + 3 * (i : Int))) h2 h6
  have z3 : 3 ≤ sizeLine := by decide
  have z4 : acc.length < sizeLine := Nat.lt_of_lt_of_le ha (by decide)
  have p1 : 0 < P := by omega
  have p2 : 1 < P := by omega
  generalize ho : cellV ns (4 + 3 * (i : Int)) % P = o at *
  generalize hq : (o + 1 + cellV ns (5 + 3 * (i : Int)) % (P - 1)) % P = q at *
  refine ⟨(if q < o then q else o, if q > o then q else o, 1 + cellV ns (6 + 3 * (i : Int)) % 9), .fro (.int o), .fro (.int q), ⟨?_, ?_, ?_, ?_, ?_⟩, ?_⟩
  · show 0 ≤ (if q < o then q else o)
    split <;> omega
  · show (if q < o then q else o) < (if q > o then q else o)
    split <;> split <;> omega
  · show (if q > o then q else o) < P
    split <;> omega
  · show 1 ≤ 1 + _ % 9
    omega
  · show 1 + _ % 9 ≤ 9
    omega
  · simp [bodyM, envM, c4, c5, c6, p1, p2, ho, hq, z3, z4, sApp, isL, putL, Cell.mut, Cell.dat, Cell.put, rd]
theorem loopM {ns : List Int} {P : Int} (h2 : 2 ≤ P) (h6 : P ≤ 6) : ∀ (is : List Nat) (acc : List Rd) (u4 u9 u10 : Cell), acc.length + is.length ≤ 1000 → (∀ r ∈ acc, RdOk P r) →
    ∃ rs v4 v9 v10, rs.length = acc.length + is.length ∧ (∀ r ∈ rs, RdOk P r) ∧ forL (gN 4) bodyM (is.map fun i : Nat => D.int (0 + (i : Int))) (envM ns P acc u4 u9 u10) = .ok (.nx, envM ns P rs v4 v9 v10)
  | [], acc, u4, u9, u10, _, hr => ⟨acc, u4, u9, u10, rfl, hr, rfl⟩
  | i :: is, acc, u4, u9, u10, hl, hr => by
    rw [List.length_cons] at hl
    obtain ⟨r, x9, x10, hok, hb⟩ := bodyM_ok (ns := ns) (P := P) (acc := acc) (i := i) (u9 := u9) (u10 := u10) h2 h6 (by omega)
    obtain ⟨rs, v4, v9, v10, e1, e2, e3⟩ := loopM (ns := ns) h2 h6 is (acc ++ [r]) (.fro (.int (0 + (i : Int)))) x9 x10 (by rw [List.length_append]; simp; omega) (fun q hq => by
      rcases List.mem_append.mp hq with hq | hq
      · exact hr q hq
      · rw [List.mem_singleton.mp hq]; exact hok)
    refine ⟨rs, v4, v9, v10, by rw [e1, List.length_append]; simp; omega, e2, ?_⟩
    rw [List.map_cons, forL, show gN 4 (D.int (0 + (i : Int))) (envM ns P acc u4 u9 u10) = .ok (envM ns P acc (.fro (.int (0 + (i : Int)))) u9 u10) from rfl, Res.bind_ok, hb, Res.bind_ok]
    show forL (gN 4) bodyM _ _ = _
    rw [e3]
theorem m_map (ns : List Int) : ∃ p : Pl, p.Ok ∧ F__law_map [.fro (.scr ns), .fro (.int 0), .fro (.int 6), .fro (.int 8)] = .ok (.fro p.pl, [.un, .un, .un, .un]) := by
  have c0 := m_cell ns (k := 0) (by omega)
  have c1' := m_cell ns (k := 1) (by omega)
  have c2' := m_cell ns (k := 2) (by omega)
  have c3 := m_cell ns (k := 3) (by omega)
  have c30 := m_cell ns (k := 30) (by omega)
  generalize hP : 2 + cellV ns 0 % 5 = P at *
  have h2 : 2 ≤ P := by omega
  have h6 : P ≤ 6 := by omega
  generalize hn : 1 + cellV ns 1 % 8 = n at *
  have n1 : 1 ≤ n := by omega
  have n8 : n ≤ 8 := by omega
  obtain ⟨rs, v4, v9, v10, e1', e2', e3'⟩ := loopM (ns := ns) h2 h6 (List.range n.toNat) [] .un .un .un (by rw [List.length_range]; simp; omega) (fun r hr => by cases hr)
  rw [List.length_range] at e1'
  have l1 : 1 ≤ rs.length := by rw [e1']; simp; omega
  have l8 : rs.length ≤ 8 := by rw [e1']; simp; omega
  obtain ⟨a1, a2, a3, a4, a5⟩ := two_places (P := P) (c := cellV ns 2) (e := cellV ns 3) h2 h6
  have hs := oSSet_rd l1 l8 h6 e2'
  have hsm : small n = true := by
    unfold small
    rw [Bool.and_eq_true]
    exact ⟨decide_eq_true (by omega), decide_eq_true (by omega)⟩
  have p1 : 0 < P := by omega
  have p2 : 1 < P := by omega
  have z0 : 0 ≤ sizeLine := Nat.zero_le _
  have z2 : 2 ≤ sizeLine := by decide
  have z4 : 4 ≤ sizeLine := by decide
  generalize ho : cellV ns 2 % P = o at *
  generalize hq : (o + 1 + cellV ns 3 % (P - 1)) % P = q at *
  refine ⟨⟨P, sortR rs, o, q, cellV ns 30 % 3⟩, ⟨h2, h6, ?_, ?_, fun r hr => e2' r (ascU_sub hr), ascU_asc rs, a1, a2, a3, a4, a5, ?_, ?_⟩, ?_⟩
  · cases rs with
    | nil => cases l1
    | cons r rs =>
      obtain ⟨z, hz, _⟩ := ascU_has (f := fun r => TS.code 64 (k3 r)) (List.mem_cons_self (a := r) (l := rs))
      exact List.length_pos_of_mem hz
  · exact Nat.le_trans (ascU_len _ rs) l8
  · show 0 ≤ _ % 3
    omega
  · show _ % 3 ≤ 2
    omega
  · have hir : ∀ ρ : Env, ρ[0]? = some (.fro (.scr ns)) → ρ[1]? = some (.fro (.int 0)) → ρ[3]? = some (.fro (.int 8)) → iRange1 (aCons (e2 oCat (eC (.int 1)) (e2 oMod (eCB (c1 oIntOf) (aCons (eCall F__law_cell_at (aCons (eVar 0) (aCons (e2 oCat (eUse 1) (eC (.int 1))) (aNil)))) (aNil))) (eUse 3))) (aNil)) ρ = .ok (intsD 0 n.toNat, ρ) := fun ρ h0 h1 h3 => by
      unfold iRange1
      simp [h0, h1, h3, c1', hn, hsm]
    have f1 : sPar 7 8 (e2 oCat (eC (.int 2)) (e2 oMod (eCB (c1 oIntOf) (aCons (eCall F__law_cell_at (aCons (eVar 0) (aCons (eVar 1) (aNil)))) (aNil))) (e2 oSub (eUse 2) (eC (.int 1))))) (eLst (aNil)) [.fro (.scr ns), .fro (.int 0), .fro (.int 6), .fro (.int 8), .un, .un, .un, .un, .un, .un, .un] = .ok (.nx, envM ns P [] .un .un .un) := by
      simp [c0, z0, hP, envM]
    have f2 : sFor (gN 4) (iRange1 (aCons (e2 oCat (eC (.int 1)) (e2 oMod (eCB (c1 oIntOf) (aCons (eCall F__law_cell_at (aCons (eVar 0) (aCons (e2 oCat (eUse 1) (eC (.int 1))) (aNil)))) (aNil))) (eUse 3))) (aNil))) bodyM (envM ns P [] .un .un .un) = .ok (.nx, envM ns P rs v4 v9 v10) := by
      rw [z_sFor, hir _ rfl rfl rfl, Res.bind_ok]
      exact e3'
    have key : ∃ ρ', 4 ≤ ρ'.length ∧ (ρ'.take 4).map outC = [.un, .un, .un, .un] ∧ (sCons (sPar 7 8 (e2 oCat (eC (.int 2)) (e2 oMod (eCB (c1 oIntOf) (aCons (eCall F__law_cell_at (aCons (eVar 0) (aCons (eVar 1) (aNil)))) (aNil))) (e2 oSub (eUse 2) (eC (.int 1))))) (eLst (aNil))) (sCons (sFor (gN 4) (iRange1 (aCons (e2 oCat (eC (.int 1)) (e2 oMod (eCB (c1 oIntOf) (aCons (eCall F__law_cell_at (aCons (eVar 0) (aCons (e2 oCat (eUse 1) (eC (.int 1))) (aNil)))) (aNil))) (eUse 3))) (aNil))) bodyM) (sCons (sSet 5 (e2 oMod (eCB (c1 oIntOf) (aCons (eCall F__law_cell_at (aCons (eVar 0) (aCons (e2 oCat (eUse 1) (eC (.int 2))) (aNil)))) (aNil))) (eUse 7))) (sCons (sSet 6 (e2 oMod (eCB (c1 oIntOf) (aCons (e2 oCat (e2 oCat (eUse 5) (eC (.int 1))) (e2 oMod (eCB (c1 oIntOf) (aCons (eCall F__law_cell_at (aCons (eVar 0) (aCons (e2 oCat (eUse 1) (eC (.int 3))) (aNil)))) (aNil))) (e2 oSub (eUse 7) (eC (.int 1))))) (aNil))) (eUse 7))) (sRet (eTup (aCons (eVar 7) (aCons (eCB (c1 oTupOf) (aCons (e1 oSSet (eUse 8)) (aNil))) (aCons (eTup (aCons (eVar 5) (aCons (eVar 6) (aNil)))) (aCons (e2 oMod (eCB (c1 oIntOf) (aCons (eCall F__law_cell_at (aCons (eVar 0) (aCons (e2 oCat (eUse 1) (eC (.int 30))) (aNil)))) (aNil))) (eC (.int 3))) (aNil)))))))))))
        [.fro (.scr ns), .fro (.int 0), .fro (.int 6), .fro (.int 8), .un, .un, .un, .un, .un, .un, .un] = .ok (.ret (.fro (Pl.pl ⟨P, sortR rs, o, q, cellV ns 30 % 3⟩)), ρ') := by
      refine ⟨[.fro (.scr ns), .fro (.int 0), .fro (.int 6), .fro (.int 8), v4, .fro (.int o), .fro (.int q), .fro (.int P), .own (.lst (rs.map rd)), v9, v10], (by show 4 ≤ 11; decide), rfl, ?_⟩
      rw [z_sCons, f1, Res.bind_ok]
      show (sCons _ _) _ = _
      rw [z_sCons, f2, Res.bind_ok]
      simp [envM, c2', c3, c30, p1, p2, ho, hq, hs, z2, z4, Pl.pl, Pl.ds]
    obtain ⟨ρ', k1, k2, k3⟩ := key
    have := runF_fro (n := 4) (m := 7) (cs := [.fro (.scr ns), .fro (.int 0), .fro (.int 6), .fro (.int 8)]) k3 rfl rfl k1
    rw [k2] at this
    exact this
end Dt
end

section
set_option Elab.async false
set_option linter.all false
set_option maxRecDepth 100000
set_option maxHeartbeats 4000000
set_option autoImplicit false
namespace Dt
open PySem PySem.Spec PyProof.Rows L2
/-! ### arrivals: the same states, all of them in order -/
section
variable {p : Pl} {x : Int} {c s : List Int}
theorem fresh_mem {rs : List Rd} {r : Int} : r ∈ fresh rs x c s ↔ r ∈ atR rs x ∧ r ∉ c ∧ r ∉ s := by
  unfold fresh
  rw [List.mem_filter]
  simp
theorem rest_mem {f k : List Int} {r : Int} : r ∈ rest f k ↔ r ∈ f ∧ r ∉ k := by
  unfold rest
  rw [List.mem_filter]
  simp
theorem step_ok (h : p.Ok) (q : CsOk p c s) (x0 : 0 ≤ x) (xP : x < p.P) : ∃ sts : List D, sts ≠ [] ∧ (∀ d ∈ sts, ∃ c' s', d = stD x c' s' ∧ StOk p x c' s') ∧
    F__arrivals [.fro p.ch, .fro (.int x), .fro (.tup (Li c)), .fro (.tup (Li s))] = .ok (.own (.lst sts), [.un, .un, .un, .un]) ∧
    F__law_seen [.fro p.pl, .fro (.int x), .fro (.tup (Li c)), .fro (.tup (Li s))] = .ok (.fro (.lst sts), [.un, .un, .un, .un]) := by
  have h8 := h.r8
  have hc := q.ci.len q.ca
  have hs := q.si.len q.sa
  have ha := (at_in p.rs x).len (at_asc p.rs x)
  have hfa : (fresh p.rs x c s).Pairwise (· < ·) := List.Pairwise.filter _ (at_asc p.rs x)
  have hfi : InR p.rs.length (fresh p.rs x c s) := fun r hr => at_in p.rs x r (fresh_mem.mp hr).1
  have hm : setsB (fresh p.rs x c s) (p.m - s.length) = true := sets_ok sets8 hfa (fun r hr => by have := hfi r hr; omega) (by have := q.sm; omega) (by have := h.m2; omega)
  obtain ⟨_, _, ⟨k1, _⟩, k3⟩ := setsB_ok hm
  have hk : ∀ k ∈ setsOf (fresh p.rs x c s) (p.m - s.length), k.length ≤ 8 := fun k hk => by
    have := (k3 k hk).1
    have := h.m2
    omega
  refine ⟨_, ?_, ?_, m_arrivals h8 (by omega) (by omega) hm hk (by omega), m_seen h8 (by omega) (by omega) hm hk (by omega)⟩
  · intro e
    have := congrArg List.length e
    unfold statesOf at this
    rw [List.length_map] at this
    have e0 : ([] : List D).length = 0 := rfl
    omega
  · intro d hd
    obtain ⟨k, hk, rfl⟩ := List.mem_map.mp hd
    obtain ⟨l1, l2, l3⟩ := k3 k hk
    have n1 : (c ++ rest (fresh p.rs x c s) k).Nodup := List.nodup_append.mpr ⟨asc_nodup q.ca, asc_nodup (List.Pairwise.filter _ hfa), fun a ha b hb e => by
      subst e
      exact (fresh_mem.mp (rest_mem.mp hb).1).2.1 ha⟩
    have n2 : (s ++ k).Nodup := List.nodup_append.mpr ⟨asc_nodup q.sa, asc_nodup l2, fun a ha b hb e => by
      subst e
      exact (fresh_mem.mp (l3 a hb)).2.2 ha⟩
    refine ⟨_, _, rfl, ⟨⟨srt_asc n1, fun r hr => ?_, srt_asc n2, fun r hr => ?_, ?_, fun r h1 h2 => ?_⟩, x0, xP, fun r hr => ?_⟩⟩
    · rcases List.mem_append.mp (srt_mem.mp hr) with h1 | h1
      · exact q.ci r h1
      · exact hfi r (rest_mem.mp h1).1
    · rcases List.mem_append.mp (srt_mem.mp hr) with h1 | h1
      · exact q.si r h1
      · exact hfi r (l3 r h1)
    · rw [srt_len, List.length_append]
      omega
    · rcases List.mem_append.mp (srt_mem.mp h1) with h1 | h1 <;> rcases List.mem_append.mp (srt_mem.mp h2) with h2 | h2
      · exact q.dj r h1 h2
      · exact (fresh_mem.mp (l3 r h2)).2.1 h1
      · exact (fresh_mem.mp (rest_mem.mp h1).1).2.2 h2
      · exact (rest_mem.mp h1).2 h2
    · by_cases e1 : r ∈ c
      · exact .inl (srt_mem.mpr (List.mem_append_left _ e1))
      · by_cases e2 : r ∈ s
        · exact .inr (srt_mem.mpr (List.mem_append_left _ e2))
        · have e3 := fresh_mem.mpr ⟨hr, e1, e2⟩
          by_cases e4 : r ∈ k
          · exact .inr (srt_mem.mpr (List.mem_append_right _ e4))
          · exact .inl (srt_mem.mpr (List.mem_append_right _ (rest_mem.mpr ⟨e3, e4⟩)))
theorem gd_L (l : List Int) : Gd 1 (.tup (Li l)) := .tup fun d hd => by
  obtain ⟨i, _, rfl⟩ := List.mem_map.mp hd
  exact .int i
theorem gd_LL (l : List Int) : Gd 1 (.lst (Li l)) := .lst fun d hd => by
  obtain ⟨i, _, rfl⟩ := List.mem_map.mp hd
  exact .int i
theorem gd_st : Gd 2 (stD x c s) := .tup fun d hd => by
  simp at hd
  rcases hd with rfl | rfl | rfl
  · exact .int _
  · exact gd_L c
  · exact gd_L s
theorem gd_sts {sts : List D} (h : ∀ d ∈ sts, ∃ c' s', d = stD x c' s' ∧ StOk p x c' s') : Gd 3 (.lst sts) := .lst fun d hd => by
  obtain ⟨c', s', rfl, _⟩ := h d hd
  exact gd_st
theorem cs_nil (h : p.Ok) : CsOk p [] [] := ⟨.nil, fun r hr => (by cases hr), .nil, fun r hr => (by cases hr), h.m0, fun r hr => (by cases hr)⟩
/-! ### the small functions of the head of the law -/
theorem u1 {ch : D} {n m : Int} {rg : List D} {w : D} (C S : Fm) (L M : EF) (hC : C [.fro ch] = .ok (.fro .non, [.un])) (hL : L [.fro ch] = .ok (.fro (.int n), [.fro ch])) (hM : M [.fro ch] = .ok (.fro (.int m), [.fro ch])) (hR : oLRange (.int n) = .ok (.own (.lst rg))) (hS : S [.fro (.lst rg), .fro (.int m)] = .ok (.fro w, [.un, .un])) :
    runF 1 0 (sCons (sDrop (eCall C (aCons (eVar 0) (aNil)))) (sRet (eCall S (aCons (e1 oLRange L) (aCons M (aNil)))))) [.fro ch] = .ok (.fro w, [.un]) := by
  simp [hC, hL, hM, hR, hS]
theorem most_self {i : Nat} {ρ : Env} (h : ρ[i]? = some (.fro (.obj 0 p.ds))) : oSelf 0 F_Map_most (eVar i) ρ = .ok (.fro (.int p.m), ρ) := by
  rw [z_oSelf, z_eVar, h]
  simp only [Res.bind_ok, m_most, beq_self_eq_true, Res.need_true, z_made_fro]
theorem ends_self {i : Nat} {ρ : Env} (h : ρ[i]? = some (.fro (.obj 0 p.ds))) : oSelf 0 F_Map_ends (eVar i) ρ = .ok (.fro (.tup [.int p.b, .int p.g]), ρ) := by
  rw [z_oSelf, z_eVar, h]
  simp only [Res.bind_ok, m_ends_, beq_self_eq_true, Res.need_true, z_made_fro]
def rg (n : Nat) : List Int := (List.range n).map fun i : Nat => (0 : Int) + (i : Int)
theorem rg_Li (n : Nat) : intsD 0 n = Li (rg n) := by
  unfold intsD Li rg
  rw [List.map_map]; rfl
theorem rg_in (n : Nat) : InR n (rg n) := fun r hr => by
  obtain ⟨i, hi, rfl⟩ := List.mem_map.mp hr
  have := List.mem_range.mp hi
  omega
theorem rg_asc (n : Nat) : (rg n).Pairwise (· < ·) := by
  unfold rg
  rw [List.pairwise_map]
  exact (List.pairwise_lt_range).imp fun {a b} h => by omega
theorem lrange_ok {n : Nat} (h : n ≤ 8) : oLRange (.int n) = .ok (.own (.lst (Li (rg n)))) := by
  unfold oLRange
  have : small (n : Int) = true := by
    unfold small
    rw [Bool.and_eq_true]
    exact ⟨decide_eq_true (by omega), decide_eq_true (by omega)⟩
  dsimp only
  rw [this, decide_eq_true (show (n : Int).toNat ≤ 2 ^ 24 by omega)]
  show Res.ok _ = _
  rw [Int.toNat_natCast, rg_Li]
def wsOf (p : Pl) : List (List Int) := setsOf (rg p.rs.length) p.m
theorem ws_ok (h : p.Ok) : setsB (rg p.rs.length) p.m = true := sets_ok sets8 (rg_asc _) (fun r hr => by have := rg_in _ r hr; have := h.r8; omega) h.m0 h.m2
theorem m_worlds (h : p.Ok) : F_worlds [.fro p.ch] = .ok (.fro (.lst ((wsOf p).map kD)), [.un]) :=
  u1 F_check_map F_small_sets _ _ (m_check p) (m_lenO (p := p) rfl h.r8) (most_self (p := p) rfl) (lrange_ok h.r8) (setsB_ok (ws_ok h)).1
theorem u2 {ch : D} {b g : Int} {w : D} (C S : Fm) (E : EF) (hC : C [.fro ch] = .ok (.fro .non, [.un])) (hE : E [.fro ch] = .ok (.fro (.tup [.int b, .int g]), [.fro ch])) (hS : S [.fro ch, .fro (.int b), .fro (.tup []), .fro (.tup [])] = .ok (.own w, [.un, .un, .un, .un])) :
    runF 1 0 (sCons (sDrop (eCall C (aCons (eVar 0) (aNil)))) (sRet (eCall S (aCons (eVar 0) (aCons (e2 oIx E (eC (.int 0))) (aCons (eTup (aNil)) (aCons (eTup (aNil)) (aNil)))))))) [.fro ch] = .ok (.own w, [.un]) := by
  have hx : oIx (.tup [.int b, .int g]) (.int 0) = .ok (.fro (.int b)) := rfl
  have z0 : 0 ≤ sizeLine := Nat.zero_le _
  simp [hC, hE, hS, hx, z0]
theorem u3 {w : D} (S : Fm) (hS : S [.fro p.pl, .fro (.int p.b), .fro (.tup []), .fro (.tup [])] = .ok (.fro w, [.un, .un, .un, .un])) :
    runF 1 0 (sRet (eCall S (aCons (eVar 0) (aCons (e2 oIx (e2 oIx (eUse 0) (eC (.int 2))) (eC (.int 0))) (aCons (eTup (aNil)) (aCons (eTup (aNil)) (aNil))))))) [.fro p.pl] = .ok (.fro w, [.un]) := by
  have h2 : oIx p.pl (.int 2) = .ok (.fro (.tup [.int p.b, .int p.g])) := rfl
  have hx : oIx (.tup [.int p.b, .int p.g]) (.int 0) = .ok (.fro (.int p.b)) := rfl
  have z0 : 0 ≤ sizeLine := Nat.zero_le _
  simp [hS, hx, h2, z0]
theorem firsts (h : p.Ok) : ∃ sts : List D, sts ≠ [] ∧ (∀ d ∈ sts, ∃ c' s', d = stD p.b c' s' ∧ StOk p p.b c' s') ∧ F_first_states [.fro p.ch] = .ok (.own (.lst sts), [.un]) ∧ F__law_first [.fro p.pl] = .ok (.fro (.lst sts), [.un]) := by
  obtain ⟨sts, h1, h2, h3, h4⟩ := step_ok h (cs_nil h) h.b0 h.bP
  exact ⟨sts, h1, h2, u2 F_check_map F__arrivals _ (m_check p) (ends_self (p := p) rfl) h3, u3 F__law_seen h4⟩
/-- a road that is open at a place leads to a place -/
theorem m_results (h : p.Ok) (q : StOk p x c s) {r : Int} (hr : r ∈ waysOf p.rs x c) : ∃ (z : Int) (sts : List D), 0 ≤ z ∧ z < p.P ∧ sts ≠ [] ∧ (∀ d ∈ sts, ∃ c' s', d = stD z c' s' ∧ StOk p z c' s') ∧
    F_results [.fro p.ch, .fro (stD x c s), .fro (.int r)] = .ok (.own (.lst sts), [.un, .un, .un]) ∧ F__law_end [.fro p.pl, .fro (.int r), .fro (.int x)] = .ok (.fro (.int z), [.un, .un, .un]) ∧
    F__law_seen [.fro p.pl, .fro (.int z), .fro (.tup (Li c)), .fro (.tup (Li s))] = .ok (.fro (.lst sts), [.un, .un, .un, .un]) := by
  have h8 := h.r8
  obtain ⟨hat, _⟩ := List.mem_filter.mp hr
  have hin := at_in p.rs x r hat
  obtain ⟨i, e, rfl, he, hx⟩ := at_mem.mp hat
  have hok := h.rd e (List.mem_of_getElem? he)
  have o0 : 0 ≤ otherEnd e x := by
    have := hok.a0; have := hok.ab
    unfold otherEnd
    split <;> omega
  have oP : otherEnd e x < p.P := by
    have := hok.bP; have := hok.ab
    unfold otherEnd
    split <;> omega
  obtain ⟨sts, h1, h2, h3, h4⟩ := step_ok h q.toCsOk o0 oP
  exact ⟨otherEnd e x, sts, o0, oP, h1, h2, w6 F_check_map F_check_state F_is_way F_states_after (m_check p) (m_check_state q h8) (wW F_is_road F_open_roads (m_is_road hin h8) (m_open_roads h8) hr) (w6a F__arrivals F_other_end (m_other he) h3), m_law_end he hx, h4⟩
end
end Dt
end

section
set_option Elab.async false
set_option linter.all false
set_option maxRecDepth 100000
set_option maxHeartbeats 4000000
set_option autoImplicit false
namespace Dt
open PySem PySem.Spec PyProof.Rows L2
/-! ### the turns -/
theorem lst_nil (l : List Int) : oEq (.lst (Li l)) (.lst []) = .ok (.fro (.bl l.isEmpty)) := by
  have hs2 : SeqAt.shaped (.list []) = true := rfl
  have hs : SeqAt.shaped (.list (l.map .int)) = true := by
    unfold SeqAt.shaped
    rw [PyData.canLay0, lay_ints, PyData.depth, dep_ints]; rfl
  have e : D.eqv (.lst (Li l)) (.lst []) = some l.isEmpty := by
    unfold D.eqv
    rw [D.py, pys_ints]
    show (match some (PyData.list (l.map .int)), some (PyData.list []) with
      | some p, some q => if SeqAt.shaped p && SeqAt.shaped q then some (PyData.eqv p q) else none
      | _, _ => none) = _
    simp only [hs, hs2, Bool.and_self, if_true]
    cases l <;> simp [PyData.eqv, PyData.eqvAll]
  unfold oEq
  rw [e]; rfl
section
variable {p : Pl} {x : Int} {c s : List Int} {ns : List Int} {t : Int} {ev : D} {u5 u6 u7 u8 : Cell}
def envT (ns : List Int) (p : Pl) (ev st : D) (u5 u6 u7 u8 : Cell) : Env := [.fro (.scr ns), .fro p.pl, .fro p.ch, .fro ev, .fro st, u5, u6, u7, u8, .un]
def b1 (LA : Fm) : SF := sSet 6 (eLc (gN 7) [7] (iData (eCall LA (aCons (eVar 1) (aCons (e2 oIx (eUse 4) (eC (.int 0))) (aNil))))) (bB (e2 (oIn false) (eUse 7) (e2 oIx (eUse 4) (eC (.int 1))))) (eVar 7))
def b2 (W : Fm) : SF := sIf (bB (e2 oNe (eCall W (aCons (eVar 2) (aCons (eVar 4) (aNil)))) (eUse 6))) (sRet (eC (.bl false))) (sNil)
def b3 : SF := sIf (bB (e2 oEq (eUse 6) (eLst (aNil)))) (sRet (eC (.bl true))) (sNil)
def b4 (PK : Fm) : SF := sSet 7 (eCall PK (aCons (eVar 0) (aCons (e2 oCat (eC (.int 50)) (eUse 5)) (aCons (eVar 6) (aNil)))))
def b5 (SN LE : Fm) : SF := sSet 8 (eCall SN (aCons (eVar 1) (aCons (eCall LE (aCons (eVar 1) (aCons (eVar 7) (aCons (e2 oIx (eUse 4) (eC (.int 0))) (aNil))))) (aCons (e2 oIx (eUse 4) (eC (.int 1))) (aCons (e2 oIx (eUse 4) (eC (.int 2))) (aNil))))))
def b6 (R : Fm) : SF := sIf (bB (e2 oNe (eCall R (aCons (eVar 2) (aCons (eVar 4) (aCons (eVar 7) (aNil))))) (eUse 8))) (sRet (eC (.bl false))) (sNil)
def b7 (PK : Fm) : SF := sSet 4 (eCall PK (aCons (eVar 0) (aCons (e2 oCat (eC (.int 60)) (eUse 5)) (aCons (eVar 8) (aNil)))))
def bodyW (LA W PK SN LE R : Fm) : SF := sCons (b1 LA) (sCons (b2 W) (sCons b3 (sCons (b4 PK) (sCons (b5 SN LE) (sCons (b6 R) (b7 PK))))))
theorem st0 : oIx (stD x c s) (.int 0) = .ok (.fro (.int x)) := rfl
theorem st1 : oIx (stD x c s) (.int 1) = .ok (.fro (.tup (Li c))) := rfl
theorem st2 : oIx (stD x c s) (.int 2) = .ok (.fro (.tup (Li s))) := rfl
theorem b1_ok {a : List Int} (LA : Fm) (h : LA [.fro p.pl, .fro (.int x)] = .ok (.own (.lst (Li a)), [.un, .un])) (ha : a.length ≤ 8) : b1 LA (envT ns p ev (stD x c s) u5 u6 u7 u8) = .ok (.nx, envT ns p ev (stD x c s) u5 (.own (.lst (Li (a.filter fun r => c.contains r)))) .un u8) := by
  have hl : lcL (gN 7) [7] (bB (e2 (oIn false) (eUse 7) (e2 oIx (eUse 4) (eC (.int 1))))) (eVar 7) (a.map D.int) [.fro (.scr ns), .fro p.pl, .fro (.obj 0 p.ds), .fro ev, .fro (stD x c s), u5, u6, .un, u8, .un] [] = .ok ((a.filter fun r => c.contains r).map D.int, [.fro (.scr ns), .fro p.pl, .fro (.obj 0 p.ds), .fro ev, .fro (stD x c s), u5, u6, .un, u8, .un]) :=
    lc_ints (fun r => c.contains r) (fun r hr => by simp [st1]) rfl (sl8 (by omega))
  simp only [List.contains_eq_mem] at hl
  simp [b1, envT, h, st0, hl]
theorem b2_ok {l : List Int} (W : Fm) (h : W [.fro p.ch, .fro (stD x c s)] = .ok (.own (.lst (Li l)), [.un, .un])) : b2 W (envT ns p ev (stD x c s) u5 (.own (.lst (Li l))) u7 u8) = .ok (.nx, envT ns p ev (stD x c s) u5 (.own (.lst (Li l))) u7 u8) := by
  have hn := oNe_self (gd_LL l)
  simp only [ch_def] at h
  simp [b2, envT, h, hn]
theorem b3_ok {l : List Int} (st : D) : b3 (envT ns p ev st u5 (.own (.lst (Li l))) u7 u8) = .ok (if l.isEmpty = true then .ret (.fro (.bl true)) else .nx, envT ns p ev st u5 (.own (.lst (Li l))) u7 u8) := by
  have hn := lst_nil l
  have z0 : 0 ≤ sizeLine := Nat.zero_le _
  simp only [b3, z_sIf, z_bB, z_e2, z_eUse, z_eLst, z_aNil, envT]
  simp [hn, z0]
  cases l <;> rfl
theorem b4_ok {l : List Int} {r : Int} (st : D) (PK : Fm) (h : PK [.fro (.scr ns), .fro (.int (50 + t)), .fro (.lst (Li l))] = .ok (.fro (.int r), [.un, .un, .un])) : b4 PK (envT ns p ev st (.fro (.int t)) (.own (.lst (Li l))) u7 u8) = .ok (.nx, envT ns p ev st (.fro (.int t)) (.fro (.lst (Li l))) (.fro (.int r)) u8) := by
  simp [b4, envT, h]
theorem b5_ok {r z : Int} {d : D} (SN LE : Fm) (h1 : LE [.fro p.pl, .fro (.int r), .fro (.int x)] = .ok (.fro (.int z), [.un, .un, .un])) (h2 : SN [.fro p.pl, .fro (.int z), .fro (.tup (Li c)), .fro (.tup (Li s))] = .ok (.fro d, [.un, .un, .un, .un])) : b5 SN LE (envT ns p ev (stD x c s) u5 u6 (.fro (.int r)) u8) = .ok (.nx, envT ns p ev (stD x c s) u5 u6 (.fro (.int r)) (.fro d)) := by
  simp [b5, envT, h1, h2, st0, st1, st2]
theorem b6_ok {r : Int} {d st : D} (R : Fm) (h : R [.fro p.ch, .fro st, .fro (.int r)] = .ok (.own d, [.un, .un, .un])) (hg : Gd 3 d) : b6 R (envT ns p ev st u5 u6 (.fro (.int r)) (.fro d)) = .ok (.nx, envT ns p ev st u5 u6 (.fro (.int r)) (.fro d)) := by
  have hn := oNe_self hg
  simp only [ch_def] at h
  simp [b6, envT, h, hn]
theorem b7_ok {d e st : D} (PK : Fm) (h : PK [.fro (.scr ns), .fro (.int (60 + t)), .fro d] = .ok (.fro e, [.un, .un, .un])) : b7 PK (envT ns p ev st (.fro (.int t)) u6 u7 (.fro d)) = .ok (.nx, envT ns p ev e (.fro (.int t)) u6 u7 (.fro d)) := by
  simp [b7, envT, h]
abbrev bodyT : SF := bodyW F__law_at F_ways F__law_pick F__law_seen F__law_end F_results
theorem turn_ok (h : p.Ok) (q : StOk p x c s) (ht : 0 ≤ t) : (∃ ρ', 1 ≤ ρ'.length ∧ (ρ'.take 1).map outC = [.un] ∧ bodyT (envT ns p ev (stD x c s) (.fro (.int t)) u6 u7 u8) = .ok (.ret (.fro (.bl true)), ρ')) ∨
    ∃ x' c' s' v6 v7 v8, StOk p x' c' s' ∧ bodyT (envT ns p ev (stD x c s) (.fro (.int t)) u6 u7 u8) = .ok (.nx, envT ns p ev (stD x' c' s') (.fro (.int t)) v6 v7 v8) := by
  have h8 := h.r8
  have e1 := b1_ok (ns := ns) (c := c) (s := s) (ev := ev) (u5 := .fro (.int t)) (u6 := u6) (u7 := u7) (u8 := u8) F__law_at (m_law_at p x h8) (by have := (at_in p.rs x).len (at_asc p.rs x); omega)
  have e2' := b2_ok (ns := ns) (ev := ev) (u5 := .fro (.int t)) (u7 := .un) (u8 := u8) F_ways (m_ways q h8)
  have e3 := b3_ok (ns := ns) (p := p) (ev := ev) (u5 := .fro (.int t)) (u7 := .un) (u8 := u8) (l := waysOf p.rs x c) (stD x c s)
  change b1 F__law_at (envT ns p ev (stD x c s) (.fro (.int t)) u6 u7 u8) = .ok (.nx, envT ns p ev (stD x c s) (.fro (.int t)) (.own (.lst (Li (waysOf p.rs x c)))) .un u8) at e1
  by_cases hw : waysOf p.rs x c = []
  · refine .inl ⟨envT ns p ev (stD x c s) (.fro (.int t)) (.own (.lst (Li (waysOf p.rs x c)))) .un u8, (by show 1 ≤ 10; decide), rfl, ?_⟩
    unfold bodyT bodyW
    rw [z_sCons, e1, Res.bind_ok]
    dsimp only
    rw [z_sCons, e2', Res.bind_ok]
    dsimp only
    rw [z_sCons, e3, Res.bind_ok, hw]
    rfl
  · have hl : (Li (waysOf p.rs x c)) ≠ [] := fun e => hw (List.map_eq_nil_iff.mp e)
    have hemp : (waysOf p.rs x c).isEmpty = false := by
      cases hc : waysOf p.rs x c with
      | nil => exact absurd hc hw
      | cons a l => rfl
    rw [hemp, if_neg (by decide)] at e3
    obtain ⟨d, hd, hp⟩ := m_pick ns (k := 50 + t) (by omega) hl
    obtain ⟨r, hr, rfl⟩ := List.mem_map.mp hd
    obtain ⟨z, sts, z0, zP, s1, s2, s3, s4, s5⟩ := m_results h q hr
    obtain ⟨d, hd, hp2⟩ := m_pick ns (k := 60 + t) (by omega) s1
    obtain ⟨c', s', rfl, hq⟩ := s2 d hd
    have e4 := b4_ok (p := p) (ev := ev) (u7 := .un) (u8 := u8) (stD x c s) F__law_pick hp
    have e5 := b5_ok (ns := ns) (ev := ev) (u5 := .fro (.int t)) (u6 := .fro (.lst (Li (waysOf p.rs x c)))) (u8 := u8) F__law_seen F__law_end s4 s5
    have e6 := b6_ok (ns := ns) (ev := ev) (u5 := .fro (.int t)) (u6 := .fro (.lst (Li (waysOf p.rs x c)))) F_results s3 (gd_sts s2)
    have e7 := b7_ok (p := p) (ev := ev) (st := stD x c s) (u6 := .fro (.lst (Li (waysOf p.rs x c)))) (u7 := .fro (.int r)) F__law_pick hp2
    refine .inr ⟨z, c', s', .fro (.lst (Li (waysOf p.rs x c))), .fro (.int r), .fro (.lst sts), hq, ?_⟩
    · unfold bodyT bodyW
      rw [z_sCons, e1, Res.bind_ok]
      dsimp only
      rw [z_sCons, e2', Res.bind_ok]
      dsimp only
      rw [z_sCons, e3, Res.bind_ok]
      dsimp only
      rw [z_sCons, e4, Res.bind_ok]
      dsimp only
      rw [z_sCons, e5, Res.bind_ok]
      dsimp only
      rw [z_sCons, e6, Res.bind_ok]
      dsimp only
      exact e7
theorem loopW (h : p.Ok) : ∀ (is : List Nat) (x : Int) (c s : List Int) (u5 u6 u7 u8 : Cell), StOk p x c s →
    ∃ fl ρ', (fl = .nx ∨ fl = .ret (.fro (.bl true))) ∧ 1 ≤ ρ'.length ∧ (ρ'.take 1).map outC = [.un] ∧ forL (gN 5) bodyT (is.map fun i : Nat => D.int (0 + (i : Int))) (envT ns p ev (stD x c s) u5 u6 u7 u8) = .ok (fl, ρ')
  | [], x, c, s, u5, u6, u7, u8, _ => ⟨.nx, _, .inl rfl, (by show 1 ≤ 10; decide), rfl, rfl⟩
  | i :: is, x, c, s, u5, u6, u7, u8, q => by
    have hf : ∀ f : SF, forL (gN 5) f ((i :: is).map fun i : Nat => D.int (0 + (i : Int))) (envT ns p ev (stD x c s) u5 u6 u7 u8) = (f (envT ns p ev (stD x c s) (.fro (.int (0 + (i : Int)))) u6 u7 u8)).bind fun p => match p.1 with
      | .nx => forL (gN 5) f (is.map fun i : Nat => D.int (0 + (i : Int))) p.2
      | .ct => forL (gN 5) f (is.map fun i : Nat => D.int (0 + (i : Int))) p.2
      | .bk => .ok (.nx, p.2)
      | .ret r => .ok (.ret r, p.2) := fun f => rfl
    rcases turn_ok (ns := ns) (ev := ev) (t := 0 + (i : Int)) (u6 := u6) (u7 := u7) (u8 := u8) h q (by omega) with ⟨ρ', l1, l2, e⟩ | ⟨x', c', s', v6, v7, v8, q', e⟩
    · exact ⟨_, ρ', .inr rfl, l1, l2, by rw [hf, e]; rfl⟩
    · obtain ⟨fl, ρ', r1, r2, r3, r4⟩ := loopW h is x' c' s' (.fro (.int (0 + (i : Int)))) v6 v7 v8 q'
      exact ⟨fl, ρ', r1, r2, r3, by rw [hf, e]; exact r4⟩
end
end Dt
end

section
set_option Elab.async false
set_option linter.all false
set_option maxRecDepth 100000
set_option maxHeartbeats 4000000
set_option autoImplicit false
namespace Dt
open PySem PySem.Spec PyProof.Rows L2
section
variable {p : Pl} {ns : List Int}
def q1 (M : Fm) : SF := sSet 1 (eCall M (aCons (eVar 0) (aCons (eC (.int 0)) (aCons (eC (.int 6)) (aCons (eC (.int 8)) (aNil))))))
def q2 (I : Fm) : SF := sSet 2 (eMake 0 I (aCons (e2 oIx (eUse 1) (eC (.int 0))) (aCons (e2 oIx (eUse 1) (eC (.int 1))) (aCons (e2 oIx (eUse 1) (eC (.int 2))) (aCons (e2 oIx (eUse 1) (eC (.int 3))) (aNil))))))
def q3 (L : EF) : SF := sIf (bOr (bB (e2 oNe (eTup (aCons (oSelf 0 F_Map_places (eVar 2)) (aCons (oSelf 0 F_Map_roads (eVar 2)) (aCons (oSelf 0 F_Map_ends (eVar 2)) (aCons (oSelf 0 F_Map_most (eVar 2)) (aNil)))))) (eUse 1))) (bB (e2 oNe L (eCB (c1 oLen) (aCons (e2 oIx (eUse 1) (eC (.int 1))) (aNil)))))) (sRet (eC (.bl false))) (sNil)
def q4 (LP : Fm) : SF := sSet 3 (eCall LP (aCons (e1 oLRange (eCB (c1 oLen) (aCons (e2 oIx (eUse 1) (eC (.int 1))) (aNil)))) (aCons (e2 oIx (eUse 1) (eC (.int 3))) (aNil))))
def q5 (W FS LF : Fm) : SF := sIf (bOr (bB (e2 oNe (eCall W (aCons (eVar 2) (aNil))) (eUse 3))) (bB (e2 oNe (eCall FS (aCons (eVar 2) (aNil))) (eCall LF (aCons (eVar 1) (aNil)))))) (sRet (eC (.bl false))) (sNil)
def q6 (O G : Fm) : SF := sIf (bB (e2 oNe (eLc (gN 9) [9] (iData (eVar 3)) (bYes) (eCall O (aCons (eVar 2) (aCons (eVar 9) (aNil))))) (eLc (gN 9) [9] (iData (eVar 3)) (bYes) (eCall G (aCons (eVar 1) (aCons (eVar 9) (aCons (e2 oIx (e2 oIx (eUse 1) (eC (.int 2))) (eC (.int 0))) (aNil)))))))) (sRet (eC (.bl false))) (sNil)
def q7 (PK LF : Fm) : SF := sSet 4 (eCall PK (aCons (eVar 0) (aCons (eC (.int 40)) (aCons (eCall LF (aCons (eVar 1) (aNil))) (aNil)))))
theorem p0 : oIx p.pl (.int 0) = .ok (.fro (.int p.P)) := rfl
theorem p1 : oIx p.pl (.int 1) = .ok (.fro (.tup (p.rs.map rd))) := rfl
theorem p2 : oIx p.pl (.int 2) = .ok (.fro (.tup [.int p.b, .int p.g])) := rfl
theorem p3 : oIx p.pl (.int 3) = .ok (.fro (.int p.m)) := rfl
theorem p4 : oIx (.tup [.int p.b, .int p.g]) (.int 0) = .ok (.fro (.int p.b)) := rfl
theorem q1_ok (M : Fm) (h : M [.fro (.scr ns), .fro (.int 0), .fro (.int 6), .fro (.int 8)] = .ok (.fro p.pl, [.un, .un, .un, .un])) : q1 M [.fro (.scr ns), .un, .un, .un, .un, .un, .un, .un, .un, .un] = .ok (.nx, [.fro (.scr ns), .fro p.pl, .un, .un, .un, .un, .un, .un, .un, .un]) := by
  simp [q1, h]
theorem q2_ok (I : Fm) (h : I [.brw (.obj 0 []), .fro (.int p.P), .fro (.tup (p.rs.map rd)), .fro (.tup [.int p.b, .int p.g]), .fro (.int p.m)] = .ok (.fro .non, [.brw p.ch, .un, .un, .un, .un])) : q2 I [.fro (.scr ns), .fro p.pl, .un, .un, .un, .un, .un, .un, .un, .un] = .ok (.nx, [.fro (.scr ns), .fro p.pl, .own p.ch, .un, .un, .un, .un, .un, .un, .un]) := by
  simp only [ch_def] at h
  simp [q2, eMake, p0, p1, p2, p3, h]
theorem gd_pl : Gd 3 p.pl := .tup fun d hd => by
  unfold Pl.ds at hd
  simp at hd
  rcases hd with rfl | rfl | rfl | rfl
  · exact .int _
  · exact .tup fun d hd => by
      obtain ⟨r, _, rfl⟩ := List.mem_map.mp hd
      exact .tup fun y hy => by
        simp at hy
        rcases hy with rfl | rfl | rfl <;> exact .int _
  · exact .tup fun d hd => by
      simp at hd
      rcases hd with rfl | rfl <;> exact .int _
  · exact .int _
def q3g (E1 E2 E3 E4 L : EF) : SF := sIf (bOr (bB (e2 oNe (eTup (aCons E1 (aCons E2 (aCons E3 (aCons E4 (aNil)))))) (eUse 1))) (bB (e2 oNe L (eCB (c1 oLen) (aCons (e2 oIx (eUse 1) (eC (.int 1))) (aNil)))))) (sRet (eC (.bl false))) (sNil)
theorem q3g_ok {r0 : Cell} {pl a b c d : D} {rds : List D} {ρ0 ρ1 : Env} (E1 E2 E3 E4 L : EF) (h1 : E1 ρ0 = .ok (.fro a, ρ1)) (h2 : E2 ρ1 = .ok (.fro b, ρ1)) (h3 : E3 ρ1 = .ok (.fro c, ρ1)) (h4 : E4 ρ1 = .ok (.fro d, ρ1)) (hL : L ρ1 = .ok (.fro (.int rds.length), ρ1)) (hp : ρ1[1]? = some (.fro pl)) (hx : oIx pl (.int 1) = .ok (.fro (.tup rds))) (hn : oNe (.tup [a, b, c, d]) pl = .ok (.fro (.bl false))) : q3g E1 E2 E3 E4 L ρ0 = .ok (.nx, ρ1) := by
  have z4 : 4 ≤ sizeLine := by decide
  simp [q3g, h1, h2, h3, h4, hL, hp, hx, hn, z4]
theorem self_own {k : Fm} {v : D} {ρ : Env} {i : Nat} {ds : List D} (h : ρ[i]? = some (.own (.obj 0 ds))) (e : k [.fro (.obj 0 ds)] = .ok (.fro v, [.un])) : oSelf 0 k (eVar i) ρ = .ok (.fro v, ρ.set i (.fro (.obj 0 ds))) := by
  rw [z_oSelf, z_eVar, h]
  simp only [Res.bind_ok, e, beq_self_eq_true, Res.need_true, z_made_fro]
theorem self_fro {k : Fm} {v : D} {ρ : Env} {i : Nat} {ds : List D} (h : ρ[i]? = some (.fro (.obj 0 ds))) (e : k [.fro (.obj 0 ds)] = .ok (.fro v, [.un])) : oSelf 0 k (eVar i) ρ = .ok (.fro v, ρ) := by
  rw [z_oSelf, z_eVar, h]
  simp only [Res.bind_ok, e, beq_self_eq_true, Res.need_true, z_made_fro]
theorem n3 : oNe (.tup [.int p.P, .tup (p.rs.map rd), .tup [.int p.b, .int p.g], .int p.m]) p.pl = .ok (.fro (.bl false)) := by
  have e : D.tup [.int p.P, .tup (p.rs.map rd), .tup [.int p.b, .int p.g], .int p.m] = p.pl := rfl
  rw [e]
  exact oNe_self (d := p.pl) gd_pl
theorem q3_eq (L : EF) : q3 L = q3g (oSelf 0 F_Map_places (eVar 2)) (oSelf 0 F_Map_roads (eVar 2)) (oSelf 0 F_Map_ends (eVar 2)) (oSelf 0 F_Map_most (eVar 2)) L := by unfold q3 q3g; rfl
theorem q3_ok (L : EF) (h : L [.fro (.scr ns), .fro p.pl, .fro p.ch, .un, .un, .un, .un, .un, .un, .un] = .ok (.fro (.int (p.rs.map rd).length), [.fro (.scr ns), .fro p.pl, .fro p.ch, .un, .un, .un, .un, .un, .un, .un])) : q3 L [.fro (.scr ns), .fro p.pl, .own p.ch, .un, .un, .un, .un, .un, .un, .un] = .ok (.nx, [.fro (.scr ns), .fro p.pl, .fro p.ch, .un, .un, .un, .un, .un, .un, .un]) := by
  rw [q3_eq]
  exact q3g_ok (r0 := .un) _ _ _ _ L (self_own (i := 2) (ρ := [.fro (.scr ns), .fro p.pl, .own p.ch, .un, .un, .un, .un, .un, .un, .un]) (ds := p.ds) rfl (m_places p)) (self_fro (ds := p.ds) rfl (m_roads p)) (self_fro (ds := p.ds) rfl (m_ends_ p)) (self_fro (ds := p.ds) rfl (m_most p)) h rfl p1 n3
def q4g (R : D → Res RV) (LP : Fm) : SF := sSet 3 (eCall LP (aCons (e1 R (eCB (c1 oLen) (aCons (e2 oIx (eUse 1) (eC (.int 1))) (aNil)))) (aCons (e2 oIx (eUse 1) (eC (.int 3))) (aNil))))
theorem q4g_ok {ws : D} {rl rds : List D} {pl sc ch : D} {m : Int} (R : D → Res RV) (LP : Fm) (hr : R (.int rds.length) = .ok (.own (.lst rl))) (h : LP [.fro (.lst rl), .fro (.int m)] = .ok (.own ws, [.un, .un])) (p1 : oIx pl (.int 1) = .ok (.fro (.tup rds))) (p3 : oIx pl (.int 3) = .ok (.fro (.int m))) : q4g R LP [.fro sc, .fro pl, .fro ch, .un, .un, .un, .un, .un, .un, .un] = .ok (.nx, [.fro sc, .fro pl, .fro ch, .own ws, .un, .un, .un, .un, .un, .un]) := by
  simp [q4g, hr, h, p1, p3]
theorem q4_eq (LP : Fm) : q4 LP = q4g oLRange LP := by unfold q4 q4g; rfl
theorem q4_ok {ws : List D} {rl : List D} (LP : Fm) (hr : oLRange (.int p.rs.length) = .ok (.own (.lst rl))) (h : LP [.fro (.lst rl), .fro (.int p.m)] = .ok (.own (.lst ws), [.un, .un])) : q4 LP [.fro (.scr ns), .fro p.pl, .fro p.ch, .un, .un, .un, .un, .un, .un, .un] = .ok (.nx, [.fro (.scr ns), .fro p.pl, .fro p.ch, .own (.lst ws), .un, .un, .un, .un, .un, .un]) := by
  rw [q4_eq]
  have hr' : oLRange (.int (p.rs.map rd).length) = .ok (.own (.lst rl)) := by rw [List.length_map]; exact hr
  exact q4g_ok oLRange LP hr' h p1 p3
theorem q5_ok {ws st : D} (W FS LF : Fm) (h1 : W [.fro p.ch] = .ok (.fro ws, [.un])) (h2 : FS [.fro p.ch] = .ok (.own st, [.un])) (h3 : LF [.fro p.pl] = .ok (.fro st, [.un])) (g1 : Gd 2 ws) (g2 : Gd 3 st) : q5 W FS LF [.fro (.scr ns), .fro p.pl, .fro p.ch, .own ws, .un, .un, .un, .un, .un, .un] = .ok (.nx, [.fro (.scr ns), .fro p.pl, .fro p.ch, .own ws, .un, .un, .un, .un, .un, .un]) := by
  have n1 := oNe_self g1
  have n2 := oNe_self g2
  simp only [ch_def] at h1 h2
  simp [q5, h1, h2, h3, n1, n2]
theorem lc_ws {i : Nat} {te : EF} {ρ0 : Env} (o : List Int → D) {l : List (List Int)} (h : ∀ k ∈ l, te (ρ0.set i (.fro (kD k))) = .ok (.fro (o k), ρ0.set i (.fro (kD k)))) (hi : ρ0[i]? = some .un) (hl : l.length ≤ sizeLine) :
    lcL (gN i) [i] bYes te (l.map kD) ρ0 [] = .ok (l.map o, ρ0) := by
  have hlt : i < ρ0.length := (List.getElem?_eq_some_iff.mp hi).1
  have hw : ∀ c, (ρ0.set i c).set i .un = ρ0 := fun c => by
    rw [List.set_set]
    apply List.ext_getElem?
    intro k
    by_cases hk : i = k
    · subst hk; rw [List.getElem?_set_self hlt, hi]
    · rw [List.getElem?_set_ne hk]
  rw [lcL_map (fun _ => true) (fun d => match D.tups [d] with | some [k] => o k | _ => .non) (fun d hd => ?_) (by simpa using hl)]
  · rw [filter_all fun _ _ => rfl, List.nil_append, List.map_map]
    congr 2
    refine List.map_congr_left fun k hk => ?_
    show (match D.tups [kD k] with | some [k] => o k | _ => .non) = _
    unfold kD
    rw [D.tups, ints_L]
    rfl
  · obtain ⟨k, hk, rfl⟩ := List.mem_map.mp hd
    refine ⟨_, _, rfl, rfl, by simp, fun _ => ⟨_, _, h k hk, ?_, hw (.fro (kD k))⟩⟩
    show some (o k) = some (match D.tups [kD k] with | some [k] => o k | _ => .non)
    unfold kD
    rw [D.tups, ints_L]
    rfl
theorem q6_ok {ws : List (List Int)} {o : List Int → D} (O G : Fm) (h1 : ∀ k ∈ ws, O [.fro p.ch, .fro (kD k)] = .ok (.fro (o k), [.un, .un])) (h2 : ∀ k ∈ ws, G [.fro p.pl, .fro (kD k), .fro (.int p.b)] = .ok (.fro (o k), [.un, .un, .un])) (g : Gd 1 (.lst (ws.map o))) (hl : ws.length ≤ 100) : q6 O G [.fro (.scr ns), .fro p.pl, .fro p.ch, .own (.lst (ws.map kD)), .un, .un, .un, .un, .un, .un] = .ok (.nx, [.fro (.scr ns), .fro p.pl, .fro p.ch, .fro (.lst (ws.map kD)), .un, .un, .un, .un, .un, .un]) := by
  have n1 := oNe_self g
  have l1 : lcL (gN 9) [9] (bYes) (eCall O (aCons (eVar 2) (aCons (eVar 9) (aNil)))) (ws.map kD) [.fro (.scr ns), .fro p.pl, .fro p.ch, .fro (.lst (ws.map kD)), .un, .un, .un, .un, .un, .un] [] = .ok (ws.map o, [.fro (.scr ns), .fro p.pl, .fro p.ch, .fro (.lst (ws.map kD)), .un, .un, .un, .un, .un, .un]) :=
    lc_ws o (fun k hk => by
      have := h1 k hk
      simp only [ch_def] at this
      simp [this]) rfl (sl8 (by omega))
  have l2 : lcL (gN 9) [9] (bYes) (eCall G (aCons (eVar 1) (aCons (eVar 9) (aCons (e2 oIx (e2 oIx (eUse 1) (eC (.int 2))) (eC (.int 0))) (aNil))))) (ws.map kD) [.fro (.scr ns), .fro p.pl, .fro p.ch, .fro (.lst (ws.map kD)), .un, .un, .un, .un, .un, .un] [] = .ok (ws.map o, [.fro (.scr ns), .fro p.pl, .fro p.ch, .fro (.lst (ws.map kD)), .un, .un, .un, .un, .un, .un]) :=
    lc_ws o (fun k hk => by
      have := h2 k hk
      simp [this, p2, p4]) rfl (sl8 (by omega))
  simp only [ch_def] at l1 l2
  simp [q6, l1, l2, n1]
theorem q7_ok {st d ev : D} (PK LF : Fm) (h1 : LF [.fro p.pl] = .ok (.fro st, [.un])) (h2 : PK [.fro (.scr ns), .fro (.int 40), .fro st] = .ok (.fro d, [.un, .un, .un])) : q7 PK LF [.fro (.scr ns), .fro p.pl, .fro p.ch, .fro ev, .un, .un, .un, .un, .un, .un] = .ok (.nx, envT ns p ev d .un .un .un .un) := by
  simp [q7, envT, h1, h2]
def lawB (M I : Fm) (L : EF) (LP W FS LF O G PK : Fm) (B : SF) : SF := sCons (q1 M) (sCons (q2 I) (sCons (q3 L) (sCons (q4 LP) (sCons (q5 W FS LF) (sCons (q6 O G) (sCons (q7 PK LF) (sCons (sFor (gN 5) (iRange1 (aCons (eC (.int 8)) (aNil))) B) (sRet (eC (.bl true))))))))))
theorem law_is : F_law = runF 1 9 (lawB F__law_map F_Map___init__ (eLenO 0 F_Map___len__ (eVar 2)) F__law_parts F_worlds F_first_states F__law_first F_open_length F__law_far F__law_pick bodyT) := rfl
theorem law_true : ∀ ns : List Int, ns.length ≤ 63 → ∃ cs, F_law [.fro (.scr ns)] = .ok (.fro (.bl true), cs) := by
  intro ns _
  obtain ⟨p, h, hM⟩ := m_map ns
  obtain ⟨_, w2, ⟨_, w3⟩, w4⟩ := setsB_ok (ws_ok h)
  obtain ⟨sts, f1, f2, f3, f4⟩ := firsts h
  obtain ⟨d, hd, hp⟩ := m_pick ns (k := 40) (by omega) f1
  obtain ⟨c', s', rfl, hq⟩ := f2 d hd
  have gw : Gd 2 (.lst ((wsOf p).map kD)) := .lst fun d hd => by
    obtain ⟨k, _, rfl⟩ := List.mem_map.mp hd
    exact gd_L k
  have gl : Gd 1 (.lst ((wsOf p).map fun k => oD (lenOf p k))) := .lst fun d hd => by
    obtain ⟨k, _, rfl⟩ := List.mem_map.mp hd
    cases lenOf p k with
    | none => exact .non
    | some v => exact .int v
  have e1 := q1_ok (ns := ns) F__law_map hM
  have e2' := q2_ok (ns := ns) F_Map___init__ (m_init h)
  have e3 := q3_ok (ns := ns) (p := p) (eLenO 0 F_Map___len__ (eVar 2)) (by rw [List.length_map]; exact m_lenO (i := 2) (p := p) rfl h.r8)
  have e4 := q4_ok (ns := ns) F__law_parts (lrange_ok h.r8) w2
  have e5 := q5_ok (ns := ns) F_worlds F_first_states F__law_first (m_worlds h) f3 f4 gw (gd_sts f2)
  have e6 := q6_ok (ns := ns) (ws := wsOf p) F_open_length F__law_far (fun k hk => m_open h (fun r hr => rg_in _ r ((w4 k hk).2.2 r hr)) (w4 k hk).2.1 (w4 k hk).1) (fun k hk => m_far h) gl w3
  have e7 := q7_ok (ns := ns) (p := p) (ev := .lst ((wsOf p).map kD)) F__law_pick F__law_first f4 hp
  obtain ⟨fl, ρ', r1, r2, r3, r4⟩ := loopW (ns := ns) (ev := .lst ((wsOf p).map kD)) h (List.range 8) p.b c' s' .un .un .un .un hq
  have e8 : sFor (gN 5) (iRange1 (aCons (eC (.int 8)) (aNil))) bodyT (envT ns p (.lst ((wsOf p).map kD)) (stD p.b c' s') .un .un .un .un) = .ok (fl, ρ') := by
    rw [z_sFor]
    show (Res.ok (intsD 0 8, _)).bind _ = _
    rw [Res.bind_ok]
    exact r4
  have key : ∃ ρ2, 1 ≤ ρ2.length ∧ (ρ2.take 1).map outC = [.un] ∧ lawB F__law_map F_Map___init__ (eLenO 0 F_Map___len__ (eVar 2)) F__law_parts F_worlds F_first_states F__law_first F_open_length F__law_far F__law_pick bodyT [.fro (.scr ns), .un, .un, .un, .un, .un, .un, .un, .un, .un] = .ok (.ret (.fro (.bl true)), ρ2) := by
    refine ⟨ρ', r2, r3, ?_⟩
    unfold lawB
    rw [z_sCons, e1, Res.bind_ok]
    dsimp only
    rw [z_sCons, e2', Res.bind_ok]
    dsimp only
    rw [z_sCons, e3, Res.bind_ok]
    dsimp only
    rw [z_sCons, e4, Res.bind_ok]
    dsimp only
    rw [z_sCons]
    show ((q5 F_worlds F_first_states F__law_first [.fro (.scr ns), .fro p.pl, .fro p.ch, .own (.lst ((wsOf p).map kD)), .un, .un, .un, .un, .un, .un]).bind _) = _
    rw [e5, Res.bind_ok]
    dsimp only
    rw [z_sCons, e6, Res.bind_ok]
    dsimp only
    rw [z_sCons, e7, Res.bind_ok]
    dsimp only
    rw [z_sCons, e8, Res.bind_ok]
    rcases r1 with rfl | rfl <;> rfl
  obtain ⟨ρ2, k1, k2, k3⟩ := key
  rw [law_is]
  exact ⟨_, runF_fro (n := 1) (m := 9) (cs := [.fro (.scr ns)]) k3 rfl rfl k1⟩
end
end Dt
end

section
set_option Elab.async false
set_option linter.all false
set_option maxRecDepth 100000
set_option maxHeartbeats 4000000
set_option autoImplicit false
namespace Dt
open PySem PySem.Spec PyProof.Rows L2
def adA (K : PySem.W.Frag) : Nat → Addr
  | 0 => He.ga K "_law_cell_at"
  | 1 => He.ga K "_law_map"
  | 2 => He.ga K "is_integer"
  | 3 => He.ga K "is_within"
  | 4 => He.ga K "_is_triple"
  | 5 => He.ga K "ascends"
  | 6 => He.ga K "are_triples"
  | 7 => He.ga K "are_ends"
  | 8 => He.ma K (He.ga K "Map") "__init__"
  | 9 => getA K (He.ga K "Map") "most"
  | 10 => getA K (He.ga K "Map") "ends"
  | 11 => getA K (He.ga K "Map") "roads"
  | 12 => getA K (He.ga K "Map") "places"
  | 13 => He.ma K (He.ga K "Map") "__len__"
  | 14 => He.ga K "_law_parts"
  | 15 => He.ga K "check_map"
  | 16 => He.ga K "small_sets"
  | 17 => He.ga K "worlds"
  | 18 => He.ga K "roads_at"
  | 19 => He.ga K "_unknown_at"
  | 20 => He.ga K "_state_at"
  | 21 => He.ga K "_arrivals"
  | 22 => He.ga K "first_states"
  | 23 => He.ga K "_law_at"
  | 24 => He.ga K "_law_seen"
  | 25 => He.ga K "_law_first"
  | 26 => He.ga K "is_road"
  | 27 => He.ga K "are_roads"
  | 28 => He.ga K "is_world"
  | 29 => He.ga K "check_world"
  | 30 => He.ga K "_lower"
  | 31 => He.ga K "least_sums"
  | 32 => He.ga K "road_lengths"
  | 33 => He.ga K "least_lengths"
  | 34 => He.ga K "open_length"
  | 35 => He.ga K "_law_far"
  | 36 => He.ga K "_law_pick"
  | 37 => He.ga K "is_state"
  | 38 => He.ga K "check_state"
  | 39 => He.ga K "open_roads"
  | 40 => He.ga K "ways"
  | 41 => He.ga K "_law_end"
  | 42 => He.ga K "is_way"
  | 43 => He.ga K "other_end"
  | 44 => He.ga K "states_after"
  | 45 => He.ga K "results"
  | 46 => He.ga K "law"
  | _ => 0
def adC (K : PySem.W.Frag) : Nat → Addr
  | 0 => He.ga K "Map"
  | _ => 0
def adP (K : PySem.W.Frag) : Nat → Addr
  | 9 => propA K (He.ga K "Map") "most"
  | 10 => propA K (He.ga K "Map") "ends"
  | 11 => propA K (He.ga K "Map") "roads"
  | 12 => propA K (He.ga K "Map") "places"
  | _ => 0
def adK (K : PySem.W.Frag) : Ad := ⟨adA K, fun i => fdY K (adA K i), adC K, adP K, (He.cT K ("_law_parts", none)).1, (He.cT K ("_law_parts", none)).2⟩
def fnL : List DefY := [⟨fun K => adA K 0, "_law_cell_at", "_law_cell_at", st__law_cell_at⟩,
  ⟨fun K => adA K 1, "_law_map", "_law_map", st__law_map⟩,
  ⟨fun K => adA K 2, "is_integer", "is_integer", st_is_integer⟩,
  ⟨fun K => adA K 3, "is_within", "is_within", st_is_within⟩,
  ⟨fun K => adA K 4, "_is_triple", "_is_triple", st__is_triple⟩,
  ⟨fun K => adA K 5, "ascends", "ascends", st_ascends⟩,
  ⟨fun K => adA K 6, "are_triples", "are_triples", st_are_triples⟩,
  ⟨fun K => adA K 7, "are_ends", "are_ends", st_are_ends⟩,
  ⟨fun K => adA K 8, "__init__", "Map.__init__", st_Map___init__⟩,
  ⟨fun K => adA K 9, "most", "Map.most", st_Map_most⟩,
  ⟨fun K => adA K 10, "ends", "Map.ends", st_Map_ends⟩,
  ⟨fun K => adA K 11, "roads", "Map.roads", st_Map_roads⟩,
  ⟨fun K => adA K 12, "places", "Map.places", st_Map_places⟩,
  ⟨fun K => adA K 13, "__len__", "Map.__len__", st_Map___len__⟩,
  ⟨fun K => adA K 14, "_law_parts", "_law_parts", st__law_parts⟩,
  ⟨fun K => adA K 15, "check_map", "check_map", st_check_map⟩,
  ⟨fun K => adA K 16, "small_sets", "small_sets", st_small_sets⟩,
  ⟨fun K => adA K 17, "worlds", "worlds", st_worlds⟩,
  ⟨fun K => adA K 18, "roads_at", "roads_at", st_roads_at⟩,
  ⟨fun K => adA K 19, "_unknown_at", "_unknown_at", st__unknown_at⟩,
  ⟨fun K => adA K 20, "_state_at", "_state_at", st__state_at⟩,
  ⟨fun K => adA K 21, "_arrivals", "_arrivals", st__arrivals⟩,
  ⟨fun K => adA K 22, "first_states", "first_states", st_first_states⟩,
  ⟨fun K => adA K 23, "_law_at", "_law_at", st__law_at⟩,
  ⟨fun K => adA K 24, "_law_seen", "_law_seen", st__law_seen⟩,
  ⟨fun K => adA K 25, "_law_first", "_law_first", st__law_first⟩,
  ⟨fun K => adA K 26, "is_road", "is_road", st_is_road⟩,
  ⟨fun K => adA K 27, "are_roads", "are_roads", st_are_roads⟩,
  ⟨fun K => adA K 28, "is_world", "is_world", st_is_world⟩,
  ⟨fun K => adA K 29, "check_world", "check_world", st_check_world⟩,
  ⟨fun K => adA K 30, "_lower", "_lower", st__lower⟩,
  ⟨fun K => adA K 31, "least_sums", "least_sums", st_least_sums⟩,
  ⟨fun K => adA K 32, "road_lengths", "road_lengths", st_road_lengths⟩,
  ⟨fun K => adA K 33, "least_lengths", "least_lengths", st_least_lengths⟩,
  ⟨fun K => adA K 34, "open_length", "open_length", st_open_length⟩,
  ⟨fun K => adA K 35, "_law_far", "_law_far", st__law_far⟩,
  ⟨fun K => adA K 36, "_law_pick", "_law_pick", st__law_pick⟩,
  ⟨fun K => adA K 37, "is_state", "is_state", st_is_state⟩,
  ⟨fun K => adA K 38, "check_state", "check_state", st_check_state⟩,
  ⟨fun K => adA K 39, "open_roads", "open_roads", st_open_roads⟩,
  ⟨fun K => adA K 40, "ways", "ways", st_ways⟩,
  ⟨fun K => adA K 41, "_law_end", "_law_end", st__law_end⟩,
  ⟨fun K => adA K 42, "is_way", "is_way", st_is_way⟩,
  ⟨fun K => adA K 43, "other_end", "other_end", st_other_end⟩,
  ⟨fun K => adA K 44, "states_after", "states_after", st_states_after⟩,
  ⟨fun K => adA K 45, "results", "results", st_results⟩,
  ⟨fun K => adA K 46, "law", "law", st_law⟩]
def tfL : List He.Defn := [("_law_parts", none)]
def faL : List He.Fa := [.free "len", .free "int", .glo "_law_cell_at", .free "range", .free "max", .free "min", .free "sorted", .free "set", .free "tuple", .glo "_law_map", .free "isinstance", .free "bool", .glo "is_integer", .glo "is_within", .int "MOST_PLACES" 6, .int "LEAST_PLACES" 2, .int "MOST_ROADS" 8, .int "LONGEST" 9, .glo "_is_triple", .free "all", .free "list", .glo "ascends", .glo "are_triples", .glo "are_ends", .int "MOST_SHUT" 3, .mkr "Map", .glo "Map", .cls "Map", .glo "_law_parts", .glo "check_map", .glo "small_sets", .glo "worlds", .free "enumerate", .glo "roads_at", .glo "_unknown_at", .glo "_state_at", .glo "_arrivals", .glo "first_states", .glo "_law_at", .glo "_law_seen", .glo "_law_first", .glo "is_road", .glo "are_roads", .glo "is_world", .glo "check_world", .glo "_lower", .glo "least_sums", .glo "road_lengths", .glo "least_lengths", .glo "open_length", .glo "_law_far", .glo "_law_pick", .free "any", .glo "is_state", .glo "check_state", .glo "open_roads", .glo "ways", .glo "_law_end", .glo "is_way", .glo "other_end", .glo "states_after", .glo "results", .glo "law", .noat "Map" "_places", .noat "Map" "_roads", .noat "Map" "_ends", .noat "Map" "_most"]
def exL (K : PySem.W.Frag) : List Bool := [isiB K (adC K) (.type "int") isi_int,
  isiB K (adC K) (.type "bool") isi_bool,
  isiB K (adC K) (.type "tuple") isi_tuple,
  propB K (He.ga K "Map") "most",
  propB K (He.ga K "Map") "ends",
  propB K (He.ga K "Map") "roads",
  propB K (He.ga K "Map") "places",
  He.eqO (PySem.W.findIn K (.ref (He.ga K "Map")) "__len__") (some (some (.ref (He.ma K (He.ga K "Map") "__len__")))),
  PySem.W.isFn K (.ref (He.ma K (He.ga K "Map") "__len__")),
  isiB K (adC K) (.ref (adC K 0)) isi_Map,
  clsIB K (adC K 0)]
def exB (K : PySem.W.Frag) : Bool := (exL K).all id
theorem exAt {K : PySem.W.Frag} (h : exB K = true) (i : Nat) {b : Bool} (e : (exL K)[i]? = some b) : b = true := List.all_eq_true.mp h b (List.mem_of_getElem? e)
theorem tx_of {K : PySem.W.Frag} {h g : Heap} {mg : Str → Option Value} (KX : K.In h) (G : h.Ns mainGlobals mg) (c : SaysY faL fnL tfL exB g K) : Tx K mg (adK K) := by
  have k0 : ClsOk K (tab (adK K)) 0 := ⟨He.cls_ok (c.fact _ (List.mem_of_getElem? (i := 27) rfl)), (List.forall_mem_cons.mpr ⟨He.noat_ok (c.fact _ (List.mem_of_getElem? (i := 63) rfl)), (List.forall_mem_cons.mpr ⟨He.noat_ok (c.fact _ (List.mem_of_getElem? (i := 64) rfl)), (List.forall_mem_cons.mpr ⟨He.noat_ok (c.fact _ (List.mem_of_getElem? (i := 65) rfl)), (List.forall_mem_cons.mpr ⟨He.noat_ok (c.fact _ (List.mem_of_getElem? (i := 66) rfl)), List.forall_mem_nil _⟩)⟩)⟩)⟩), (show (flds 0).Nodup by decide +kernel), (show (flds 0).length ≤ 900 by decide)⟩
  have s0 : ClsI K (adC K 0) := clsIB_ok (He.cls_ok (c.fact _ (List.mem_of_getElem? (i := 27) rfl))) (exAt c.more 10 rfl)
  exact {
    n_len := He.free_ok KX G (c.fact _ (List.mem_of_getElem? (i := 0) rfl))
    n_int := He.free_ok KX G (c.fact _ (List.mem_of_getElem? (i := 1) rfl))
    f0 := (c.def_ _ (List.mem_of_getElem? (i := 0) rfl)).fun_
    b0 := (c.def_ _ (List.mem_of_getElem? (i := 0) rfl)).binds fun _ _ _ _ _ _ us hl => match us, hl with | [_, _], _ => rfl
    g0 := He.glo_ok KX G (c.fact _ (List.mem_of_getElem? (i := 2) rfl))
    n_range := He.free_ok KX G (c.fact _ (List.mem_of_getElem? (i := 3) rfl))
    n_max := He.free_ok KX G (c.fact _ (List.mem_of_getElem? (i := 4) rfl))
    n_min := He.free_ok KX G (c.fact _ (List.mem_of_getElem? (i := 5) rfl))
    n_sorted := He.free_ok KX G (c.fact _ (List.mem_of_getElem? (i := 6) rfl))
    n_set := He.free_ok KX G (c.fact _ (List.mem_of_getElem? (i := 7) rfl))
    n_tuple := He.free_ok KX G (c.fact _ (List.mem_of_getElem? (i := 8) rfl))
    f1 := (c.def_ _ (List.mem_of_getElem? (i := 1) rfl)).fun_
    b1 := (c.def_ _ (List.mem_of_getElem? (i := 1) rfl)).binds fun _ _ _ _ _ _ us hl => match us, hl with | [_, _, _, _], _ => rfl
    g1 := He.glo_ok KX G (c.fact _ (List.mem_of_getElem? (i := 9) rfl))
    i_int := isiB_ok (T := tab (adK K)) (fun p hp => by rw [List.mem_singleton.mp hp]; exact s0) (exAt c.more 0 rfl)
    n_isinstance := He.free_ok KX G (c.fact _ (List.mem_of_getElem? (i := 10) rfl))
    i_bool := isiB_ok (T := tab (adK K)) (fun p hp => by rw [List.mem_singleton.mp hp]; exact s0) (exAt c.more 1 rfl)
    n_bool := He.free_ok KX G (c.fact _ (List.mem_of_getElem? (i := 11) rfl))
    f2 := (c.def_ _ (List.mem_of_getElem? (i := 2) rfl)).fun_
    b2 := (c.def_ _ (List.mem_of_getElem? (i := 2) rfl)).binds fun _ _ _ _ _ _ us hl => match us, hl with | [_], _ => rfl
    g2 := He.glo_ok KX G (c.fact _ (List.mem_of_getElem? (i := 12) rfl))
    f3 := (c.def_ _ (List.mem_of_getElem? (i := 3) rfl)).fun_
    b3 := (c.def_ _ (List.mem_of_getElem? (i := 3) rfl)).binds fun _ _ _ _ _ _ us hl => match us, hl with | [_, _, _], _ => rfl
    g3 := He.glo_ok KX G (c.fact _ (List.mem_of_getElem? (i := 13) rfl))
    c_MOST_PLACES := He.int_ok KX G (c.fact _ (List.mem_of_getElem? (i := 14) rfl))
    c_LEAST_PLACES := He.int_ok KX G (c.fact _ (List.mem_of_getElem? (i := 15) rfl))
    i_tuple := isiB_ok (T := tab (adK K)) (fun p hp => by rw [List.mem_singleton.mp hp]; exact s0) (exAt c.more 2 rfl)
    c_MOST_ROADS := He.int_ok KX G (c.fact _ (List.mem_of_getElem? (i := 16) rfl))
    c_LONGEST := He.int_ok KX G (c.fact _ (List.mem_of_getElem? (i := 17) rfl))
    f4 := (c.def_ _ (List.mem_of_getElem? (i := 4) rfl)).fun_
    b4 := (c.def_ _ (List.mem_of_getElem? (i := 4) rfl)).binds fun _ _ _ _ _ _ us hl => match us, hl with | [_, _], _ => rfl
    g4 := He.glo_ok KX G (c.fact _ (List.mem_of_getElem? (i := 18) rfl))
    n_all := He.free_ok KX G (c.fact _ (List.mem_of_getElem? (i := 19) rfl))
    n_list := He.free_ok KX G (c.fact _ (List.mem_of_getElem? (i := 20) rfl))
    f5 := (c.def_ _ (List.mem_of_getElem? (i := 5) rfl)).fun_
    b5 := (c.def_ _ (List.mem_of_getElem? (i := 5) rfl)).binds fun _ _ _ _ _ _ us hl => match us, hl with | [_], _ => rfl
    g5 := He.glo_ok KX G (c.fact _ (List.mem_of_getElem? (i := 21) rfl))
    f6 := (c.def_ _ (List.mem_of_getElem? (i := 6) rfl)).fun_
    b6 := (c.def_ _ (List.mem_of_getElem? (i := 6) rfl)).binds fun _ _ _ _ _ _ us hl => match us, hl with | [_, _], _ => rfl
    g6 := He.glo_ok KX G (c.fact _ (List.mem_of_getElem? (i := 22) rfl))
    f7 := (c.def_ _ (List.mem_of_getElem? (i := 7) rfl)).fun_
    b7 := (c.def_ _ (List.mem_of_getElem? (i := 7) rfl)).binds fun _ _ _ _ _ _ us hl => match us, hl with | [_, _], _ => rfl
    g7 := He.glo_ok KX G (c.fact _ (List.mem_of_getElem? (i := 23) rfl))
    c_MOST_SHUT := He.int_ok KX G (c.fact _ (List.mem_of_getElem? (i := 24) rfl))
    t__places := fldOk_of fun p hp => by rw [List.mem_singleton.mp hp]; exact ⟨k0, rfl⟩
    t__roads := fldOk_of fun p hp => by rw [List.mem_singleton.mp hp]; exact ⟨k0, rfl⟩
    t__ends := fldOk_of fun p hp => by rw [List.mem_singleton.mp hp]; exact ⟨k0, rfl⟩
    t__most := fldOk_of fun p hp => by rw [List.mem_singleton.mp hp]; exact ⟨k0, rfl⟩
    f8 := (c.def_ _ (List.mem_of_getElem? (i := 8) rfl)).fun_
    b8 := (c.def_ _ (List.mem_of_getElem? (i := 8) rfl)).binds fun _ _ _ _ _ _ us hl => match us, hl with | [_, _, _, _, _], _ => rfl
    mk0 := He.mkr_ok (c.fact _ (List.mem_of_getElem? (i := 25) rfl))
    gc0 := He.glo_ok KX G (c.fact _ (List.mem_of_getElem? (i := 26) rfl))
    f9 := (c.def_ _ (List.mem_of_getElem? (i := 9) rfl)).fun_
    b9 := (c.def_ _ (List.mem_of_getElem? (i := 9) rfl)).binds fun _ _ _ _ _ _ us hl => match us, hl with | [_], _ => rfl
    cl0 := He.cls_ok (c.fact _ (List.mem_of_getElem? (i := 27) rfl))
    p9 := propB_ok (exAt c.more 3 rfl)
    f10 := (c.def_ _ (List.mem_of_getElem? (i := 10) rfl)).fun_
    b10 := (c.def_ _ (List.mem_of_getElem? (i := 10) rfl)).binds fun _ _ _ _ _ _ us hl => match us, hl with | [_], _ => rfl
    p10 := propB_ok (exAt c.more 4 rfl)
    f11 := (c.def_ _ (List.mem_of_getElem? (i := 11) rfl)).fun_
    b11 := (c.def_ _ (List.mem_of_getElem? (i := 11) rfl)).binds fun _ _ _ _ _ _ us hl => match us, hl with | [_], _ => rfl
    p11 := propB_ok (exAt c.more 5 rfl)
    f12 := (c.def_ _ (List.mem_of_getElem? (i := 12) rfl)).fun_
    b12 := (c.def_ _ (List.mem_of_getElem? (i := 12) rfl)).binds fun _ _ _ _ _ _ us hl => match us, hl with | [_], _ => rfl
    p12 := propB_ok (exAt c.more 6 rfl)
    f13 := (c.def_ _ (List.mem_of_getElem? (i := 13) rfl)).fun_
    b13 := (c.def_ _ (List.mem_of_getElem? (i := 13) rfl)).binds fun _ _ _ _ _ _ us hl => match us, hl with | [_], _ => rfl
    ln0 := He.eqO_ok (exAt c.more 7 rfl)
    lf0 := (exAt c.more 8 rfl)
    f14 := (c.def_ _ (List.mem_of_getElem? (i := 14) rfl))
    b14 := (c.def_ _ (List.mem_of_getElem? (i := 14) rfl)).binds fun _ _ _ _ _ _ us hl => match us, hl with | [_, _], _ => rfl
    g14 := He.glo_ok KX G (c.fact _ (List.mem_of_getElem? (i := 28) rfl))
    i_Map := isiB_ok (T := tab (adK K)) (fun p hp => by rw [List.mem_singleton.mp hp]; exact s0) (exAt c.more 9 rfl)
    f15 := (c.def_ _ (List.mem_of_getElem? (i := 15) rfl)).fun_
    b15 := (c.def_ _ (List.mem_of_getElem? (i := 15) rfl)).binds fun _ _ _ _ _ _ us hl => match us, hl with | [_], _ => rfl
    g15 := He.glo_ok KX G (c.fact _ (List.mem_of_getElem? (i := 29) rfl))
    f16 := (c.def_ _ (List.mem_of_getElem? (i := 16) rfl)).fun_
    b16 := (c.def_ _ (List.mem_of_getElem? (i := 16) rfl)).binds fun _ _ _ _ _ _ us hl => match us, hl with | [_, _], _ => rfl
    g16 := He.glo_ok KX G (c.fact _ (List.mem_of_getElem? (i := 30) rfl))
    f17 := (c.def_ _ (List.mem_of_getElem? (i := 17) rfl)).fun_
    b17 := (c.def_ _ (List.mem_of_getElem? (i := 17) rfl)).binds fun _ _ _ _ _ _ us hl => match us, hl with | [_], _ => rfl
    g17 := He.glo_ok KX G (c.fact _ (List.mem_of_getElem? (i := 31) rfl))
    n_enumerate := He.free_ok KX G (c.fact _ (List.mem_of_getElem? (i := 32) rfl))
    f18 := (c.def_ _ (List.mem_of_getElem? (i := 18) rfl)).fun_
    b18 := (c.def_ _ (List.mem_of_getElem? (i := 18) rfl)).binds fun _ _ _ _ _ _ us hl => match us, hl with | [_, _], _ => rfl
    g18 := He.glo_ok KX G (c.fact _ (List.mem_of_getElem? (i := 33) rfl))
    f19 := (c.def_ _ (List.mem_of_getElem? (i := 19) rfl)).fun_
    b19 := (c.def_ _ (List.mem_of_getElem? (i := 19) rfl)).binds fun _ _ _ _ _ _ us hl => match us, hl with | [_, _, _, _], _ => rfl
    g19 := He.glo_ok KX G (c.fact _ (List.mem_of_getElem? (i := 34) rfl))
    f20 := (c.def_ _ (List.mem_of_getElem? (i := 20) rfl)).fun_
    b20 := (c.def_ _ (List.mem_of_getElem? (i := 20) rfl)).binds fun _ _ _ _ _ _ us hl => match us, hl with | [_, _, _, _, _], _ => rfl
    g20 := He.glo_ok KX G (c.fact _ (List.mem_of_getElem? (i := 35) rfl))
    f21 := (c.def_ _ (List.mem_of_getElem? (i := 21) rfl)).fun_
    b21 := (c.def_ _ (List.mem_of_getElem? (i := 21) rfl)).binds fun _ _ _ _ _ _ us hl => match us, hl with | [_, _, _, _], _ => rfl
    g21 := He.glo_ok KX G (c.fact _ (List.mem_of_getElem? (i := 36) rfl))
    f22 := (c.def_ _ (List.mem_of_getElem? (i := 22) rfl)).fun_
    b22 := (c.def_ _ (List.mem_of_getElem? (i := 22) rfl)).binds fun _ _ _ _ _ _ us hl => match us, hl with | [_], _ => rfl
    g22 := He.glo_ok KX G (c.fact _ (List.mem_of_getElem? (i := 37) rfl))
    f23 := (c.def_ _ (List.mem_of_getElem? (i := 23) rfl)).fun_
    b23 := (c.def_ _ (List.mem_of_getElem? (i := 23) rfl)).binds fun _ _ _ _ _ _ us hl => match us, hl with | [_, _], _ => rfl
    g23 := He.glo_ok KX G (c.fact _ (List.mem_of_getElem? (i := 38) rfl))
    f24 := (c.def_ _ (List.mem_of_getElem? (i := 24) rfl)).fun_
    b24 := (c.def_ _ (List.mem_of_getElem? (i := 24) rfl)).binds fun _ _ _ _ _ _ us hl => match us, hl with | [_, _, _, _], _ => rfl
    g24 := He.glo_ok KX G (c.fact _ (List.mem_of_getElem? (i := 39) rfl))
    f25 := (c.def_ _ (List.mem_of_getElem? (i := 25) rfl)).fun_
    b25 := (c.def_ _ (List.mem_of_getElem? (i := 25) rfl)).binds fun _ _ _ _ _ _ us hl => match us, hl with | [_], _ => rfl
    g25 := He.glo_ok KX G (c.fact _ (List.mem_of_getElem? (i := 40) rfl))
    f26 := (c.def_ _ (List.mem_of_getElem? (i := 26) rfl)).fun_
    b26 := (c.def_ _ (List.mem_of_getElem? (i := 26) rfl)).binds fun _ _ _ _ _ _ us hl => match us, hl with | [_, _], _ => rfl
    g26 := He.glo_ok KX G (c.fact _ (List.mem_of_getElem? (i := 41) rfl))
    f27 := (c.def_ _ (List.mem_of_getElem? (i := 27) rfl)).fun_
    b27 := (c.def_ _ (List.mem_of_getElem? (i := 27) rfl)).binds fun _ _ _ _ _ _ us hl => match us, hl with | [_, _], _ => rfl
    g27 := He.glo_ok KX G (c.fact _ (List.mem_of_getElem? (i := 42) rfl))
    f28 := (c.def_ _ (List.mem_of_getElem? (i := 28) rfl)).fun_
    b28 := (c.def_ _ (List.mem_of_getElem? (i := 28) rfl)).binds fun _ _ _ _ _ _ us hl => match us, hl with | [_, _], _ => rfl
    g28 := He.glo_ok KX G (c.fact _ (List.mem_of_getElem? (i := 43) rfl))
    f29 := (c.def_ _ (List.mem_of_getElem? (i := 29) rfl)).fun_
    b29 := (c.def_ _ (List.mem_of_getElem? (i := 29) rfl)).binds fun _ _ _ _ _ _ us hl => match us, hl with | [_, _], _ => rfl
    g29 := He.glo_ok KX G (c.fact _ (List.mem_of_getElem? (i := 44) rfl))
    f30 := (c.def_ _ (List.mem_of_getElem? (i := 30) rfl)).fun_
    b30 := (c.def_ _ (List.mem_of_getElem? (i := 30) rfl)).binds fun _ _ _ _ _ _ us hl => match us, hl with | [_, _, _, _], _ => rfl
    g30 := He.glo_ok KX G (c.fact _ (List.mem_of_getElem? (i := 45) rfl))
    f31 := (c.def_ _ (List.mem_of_getElem? (i := 31) rfl)).fun_
    b31 := (c.def_ _ (List.mem_of_getElem? (i := 31) rfl)).binds fun _ _ _ _ _ _ us hl => match us, hl with | [_, _, _, _], _ => rfl
    g31 := He.glo_ok KX G (c.fact _ (List.mem_of_getElem? (i := 46) rfl))
    f32 := (c.def_ _ (List.mem_of_getElem? (i := 32) rfl)).fun_
    b32 := (c.def_ _ (List.mem_of_getElem? (i := 32) rfl)).binds fun _ _ _ _ _ _ us hl => match us, hl with | [_], _ => rfl
    g32 := He.glo_ok KX G (c.fact _ (List.mem_of_getElem? (i := 47) rfl))
    f33 := (c.def_ _ (List.mem_of_getElem? (i := 33) rfl)).fun_
    b33 := (c.def_ _ (List.mem_of_getElem? (i := 33) rfl)).binds fun _ _ _ _ _ _ us hl => match us, hl with | [_, _, _], _ => rfl
    g33 := He.glo_ok KX G (c.fact _ (List.mem_of_getElem? (i := 48) rfl))
    f34 := (c.def_ _ (List.mem_of_getElem? (i := 34) rfl)).fun_
    b34 := (c.def_ _ (List.mem_of_getElem? (i := 34) rfl)).binds fun _ _ _ _ _ _ us hl => match us, hl with | [_, _], _ => rfl
    g34 := He.glo_ok KX G (c.fact _ (List.mem_of_getElem? (i := 49) rfl))
    f35 := (c.def_ _ (List.mem_of_getElem? (i := 35) rfl)).fun_
    b35 := (c.def_ _ (List.mem_of_getElem? (i := 35) rfl)).binds fun _ _ _ _ _ _ us hl => match us, hl with | [_, _, _], _ => rfl
    g35 := He.glo_ok KX G (c.fact _ (List.mem_of_getElem? (i := 50) rfl))
    f36 := (c.def_ _ (List.mem_of_getElem? (i := 36) rfl)).fun_
    b36 := (c.def_ _ (List.mem_of_getElem? (i := 36) rfl)).binds fun _ _ _ _ _ _ us hl => match us, hl with | [_, _, _], _ => rfl
    g36 := He.glo_ok KX G (c.fact _ (List.mem_of_getElem? (i := 51) rfl))
    n_any := He.free_ok KX G (c.fact _ (List.mem_of_getElem? (i := 52) rfl))
    f37 := (c.def_ _ (List.mem_of_getElem? (i := 37) rfl)).fun_
    b37 := (c.def_ _ (List.mem_of_getElem? (i := 37) rfl)).binds fun _ _ _ _ _ _ us hl => match us, hl with | [_, _], _ => rfl
    g37 := He.glo_ok KX G (c.fact _ (List.mem_of_getElem? (i := 53) rfl))
    f38 := (c.def_ _ (List.mem_of_getElem? (i := 38) rfl)).fun_
    b38 := (c.def_ _ (List.mem_of_getElem? (i := 38) rfl)).binds fun _ _ _ _ _ _ us hl => match us, hl with | [_, _], _ => rfl
    g38 := He.glo_ok KX G (c.fact _ (List.mem_of_getElem? (i := 54) rfl))
    f39 := (c.def_ _ (List.mem_of_getElem? (i := 39) rfl)).fun_
    b39 := (c.def_ _ (List.mem_of_getElem? (i := 39) rfl)).binds fun _ _ _ _ _ _ us hl => match us, hl with | [_, _], _ => rfl
    g39 := He.glo_ok KX G (c.fact _ (List.mem_of_getElem? (i := 55) rfl))
    f40 := (c.def_ _ (List.mem_of_getElem? (i := 40) rfl)).fun_
    b40 := (c.def_ _ (List.mem_of_getElem? (i := 40) rfl)).binds fun _ _ _ _ _ _ us hl => match us, hl with | [_, _], _ => rfl
    g40 := He.glo_ok KX G (c.fact _ (List.mem_of_getElem? (i := 56) rfl))
    f41 := (c.def_ _ (List.mem_of_getElem? (i := 41) rfl)).fun_
    b41 := (c.def_ _ (List.mem_of_getElem? (i := 41) rfl)).binds fun _ _ _ _ _ _ us hl => match us, hl with | [_, _, _], _ => rfl
    g41 := He.glo_ok KX G (c.fact _ (List.mem_of_getElem? (i := 57) rfl))
    f42 := (c.def_ _ (List.mem_of_getElem? (i := 42) rfl)).fun_
    b42 := (c.def_ _ (List.mem_of_getElem? (i := 42) rfl)).binds fun _ _ _ _ _ _ us hl => match us, hl with | [_, _, _], _ => rfl
    g42 := He.glo_ok KX G (c.fact _ (List.mem_of_getElem? (i := 58) rfl))
    f43 := (c.def_ _ (List.mem_of_getElem? (i := 43) rfl)).fun_
    b43 := (c.def_ _ (List.mem_of_getElem? (i := 43) rfl)).binds fun _ _ _ _ _ _ us hl => match us, hl with | [_, _, _], _ => rfl
    g43 := He.glo_ok KX G (c.fact _ (List.mem_of_getElem? (i := 59) rfl))
    f44 := (c.def_ _ (List.mem_of_getElem? (i := 44) rfl)).fun_
    b44 := (c.def_ _ (List.mem_of_getElem? (i := 44) rfl)).binds fun _ _ _ _ _ _ us hl => match us, hl with | [_, _, _], _ => rfl
    g44 := He.glo_ok KX G (c.fact _ (List.mem_of_getElem? (i := 60) rfl))
    f45 := (c.def_ _ (List.mem_of_getElem? (i := 45) rfl)).fun_
    b45 := (c.def_ _ (List.mem_of_getElem? (i := 45) rfl)).binds fun _ _ _ _ _ _ us hl => match us, hl with | [_, _, _], _ => rfl
    g45 := He.glo_ok KX G (c.fact _ (List.mem_of_getElem? (i := 61) rfl))
    f46 := (c.def_ _ (List.mem_of_getElem? (i := 46) rfl)).fun_
    b46 := (c.def_ _ (List.mem_of_getElem? (i := 46) rfl)).binds fun _ _ _ _ _ _ us hl => match us, hl with | [_], _ => rfl
    g46 := He.glo_ok KX G (c.fact _ (List.mem_of_getElem? (i := 62) rfl)) }
abbrev R0 : PySem.W.OpenRow := PySem.W.OpenLaw.row PySem.Challenge.rw_shutroads_k01_whole_walks
def loose : List Str := (["__name__", "RoadError", "BadMap", "BadState", "BadRoad", "BadWorld", "LEAST_PLACES", "MOST_PLACES", "MOST_ROADS", "LONGEST", "MOST_SHUT", "Map", "is_integer", "is_within", "ascends", "_is_triple", "are_triples", "are_ends", "is_road", "are_roads", "is_world", "check_map", "check_world", "roads_at", "other_end", "small_sets", "worlds", "_lower", "road_lengths", "least_sums"] : List Str) ++ (["least_lengths", "open_length", "is_state", "check_state", "_unknown_at", "_state_at", "_arrivals", "first_states", "open_roads", "ways", "is_way", "states_after", "results", "_law_cell_at", "_law_pick", "_law_map", "_law_parts", "_law_at", "_law_end", "_law_seen", "_law_first", "_law_moves", "_law_far", "_law_worlds", "_law_all"] : List Str)
abbrev hk : PySem.W.Hook := hookY 6 faL fnL tfL exB
def ob (s : PySem.W.SharedT) : AlY := obsY 6 faL fnL tfL exB (HandSHeadRun.getT s)
theorem ob_eq (s : PySem.W.SharedT) : ob s = hk.obs s.abs := obsY_eq (HandSHeadRun.getT_eq s)
theorem run (w : World) : HandSHeadRun.RunEq R0 (PySem.W.view R0.prog [58]) hk ob 20000 loose w := by
  intro os
  kernel_rfl
theorem law_at (M : ∀ ns : List Int, ns.length ≤ 63 → ∃ cs, F_law [.fro (.scr ns)] = .ok (.fro (.bl true), cs)) {w : World} {K : PySem.W.Frag} {mg : Str → Option Value} {fa : Addr} {h : Heap} (KX : K.In h) (G : h.Ns mainGlobals mg) (hfa : mg ("law" : Str) = some (.ref fa)) (c : SaysY faL fnL tfL exB h K) :
    LamX.LawAtS PySem.Challenge.rw_shutroads_k01_whole_walks w K CX0 9 63 "_law_script" mg fa h := by
  have X := tx_of KX G c
  have e := hfa.symm.trans X.g46
  cases e
  refine ⟨(adK K).d 46, tfL.map (He.cT K), SpF K (tab (adK K)) F_law, fun p hp => ?_, fun p hp => ?_, fun p hp => ?_, fun s u => (c.def_ _ (List.mem_of_getElem? (i := 46) rfl)).bindsA (ps := ["_law_script"]) (fun _ _ _ _ _ _ us hl => match us, hl with | [_], _ => rfl) s [u] rfl, fun H a ns hl _ hH hS => ?_, fun base hb hg TB => ?_⟩
  · obtain ⟨q, hq, rfl⟩ := List.mem_map.mp hp
    exact c.empty q hq
  · obtain ⟨q, hq, rfl⟩ := List.mem_map.mp hp
    exact c.out q hq
  · obtain ⟨q, hq, rfl⟩ := List.mem_map.mp hp
    exact PySem.W.codeHd_of_K KX (c.hd q hq)
  · obtain ⟨cs, e⟩ := M ns hl
    refine law_sp (fun p hp => ?_) hS e
    rw [List.mem_singleton.mp hp]
    exact LamX.TabS.nil (hH _ (List.mem_cons_self ..))
  · exact ok_law X (TB _ (List.mem_cons_self ..))
end Dt
end

set_option Elab.async false
set_option linter.all false
open PySem PySem.W PySem.Calls PyProof.Rows in
set_option maxRecDepth 100000 in
set_option maxHeartbeats 0 in
theorem PySem.Challenge.cw_shutroads_k01_whole_walks_holds : PySem.Challenge.rw_shutroads_k01_whole_walks.Holds := by
  w_on; o_law
  refine HandSHeadRun.head_any (r := OpenLaw.row PySem.Challenge.rw_shutroads_k01_whole_walks) (q := view (OpenLaw.row PySem.Challenge.rw_shutroads_k01_whole_walks).prog [58]) (H := Dt.hk) (ob := Dt.ob) (M := 20000) (loose := Dt.loose) (d := HandSHeadRun.topDef (OpenLaw.row PySem.Challenge.rw_shutroads_k01_whole_walks).prog 58) (kwd := []) Dt.ob_eq
    (by kernel_rfl) (fun s => by kernel_rfl) Dt.run (by kernel_rfl) (by kernel_rfl) (by kernel_rfl) (by rfl) (by first | assumption | decide +kernel) (by decide +kernel) ⟨rfl, rfl, rfl, rfl, rfl, by decide +kernel⟩ ?hw ?hc
  case hw => w_witness2
  case hc =>
    refine LamX.walk_ofTsE (l := PySem.Challenge.rw_shutroads_k01_whole_walks) (n := 63) (k := 9) (x := "_law_script") (CX := fun _ => L2.CX0) rfl (by decide) (by kernel_rfl) ⟨rfl, by decide, by decide⟩ ?F (fun _ _ _ _ _ z => z)
    intro w mg fa h Y G hmg0
    obtain ⟨K, KX, c⟩ := Y
    have hmg : mg ("law" : PySem.Str) = some (.ref fa) := by
      have e : (HandSHeadRun.topDef (OpenLaw.row PySem.Challenge.rw_shutroads_k01_whole_walks).prog 58).name = ("law" : PySem.Str) := by kernel_rfl
      rw [← e]
      exact hmg0
    exact ⟨K, KX, Dt.law_at Dt.law_true KX G hmg c⟩
